import PyProof.Rows.All
import Wide.All
import OpenK.AllK
import Wide.FinOn
import Lean
import PyProof.EqAt
import PyProof.EqKinds
import PyProof.TupleCall
import PySem.Str
import PyProof.ZipIter
import PyProof.IsiBase
import KE.KItemsList
import KE.KIsAll
import OpenK.KOwn
import KE.KSortAsk
import PyProof.StrBlockI
import PyProof.Rows.EqDataRows
import PyProof.Rows.InDataRows
import PyProof.SumWalkG
import PyProof.ConsumeWalk
import PyProof.WalksMore
import KE.KSortTup
import PyProof.ListMulRoad
import PyProof.EnumFor
import PyProof.Rows.EnumRows
import PyProof.StrBlockL
import PyProof.JoinWalk
import PyProof.NsDelKeeps
import KE.KTryDeep
import PyProof.InstStoreFacts
import PyProof.NsCount
import PyProof.ExcClass2
import PyProof.Rows.FStr
import PyProof.StationsW
import PyProof.Rows.Catch
import KE.KRevIter
import PyProof.CollectIter
import PyProof.TupleOfGen
import PyProof.Rows.Tup
import PyProof.Draws
import PyProof.EnumMake
import PyProof.StrWalks
import PyProof.SliceStr2
import PyProof.ListNew
import KE.KDictOf
import PyProof.ListRange
import PyProof.Rows.GenSrcRange
import PyProof.ListCopy
import PyProof.AttrMissHeap
import PyProof.DictWalks
import PyProof.FactsDict
import KE.KSortKey
import KE.IntText
import PyProof.TableCode
import PyProof.Rows.KernelRfl
import PySem.Challenge.RW_barsplit_k45_laying_refused
open PySem renaming wpAny_bind->Mi,wpAny_pure->Mo,wpAny_mono->MG,wpAny_field->MV,wpAny_callSpecial?_slot->MY,wpAny_seqItems->Nk,wpAny_setField_rec->Nm,wpAny_holding->NA,wpAny_call_entry->NG,wpAny_newObj_type->NY,wpAny_Call_Name_kw->Ob,wpAny_attempt->Of,wpAny_loadPart_at->Oy,wpAny_loadPart'->OA,wpAny_truthy_bool->OG,sizeLine_eq->OJ,wpAny_execs_cons->OT,wpAny_onRaise->OU,codeAny_call_builtin->Pd,wpAny_letGo->C2,call_meets->Pn,wpAny_typeOf->DG,wpAny_rule->PH,mem_of_lookup->PJ,Builtin->PR,wpAny_updateSeq->Rq,wpAny_standAt->Rr,wpAny_getItem_str_slice->Rt,strLen_append->Ru,wpAny_call->Ry,codeAny_mono->RG,builtinLookup_eq_fast->RH,wpAny_pyIter_zip->RN,wpAny_isInstance->RO,wpAny_passesOwn->Sh,wpAny_of_eq->Si,pushCells_keeps->Sl,codeAny_builtin->Sm,wpAny_pyIter_tuple->Sx,wpAny_newTuple->R0,isSubtype_stop->SD,wpAny_execs_nil->To,typeLookup_type->Tp,post_val_or_str->Tr,wpAny_updateSeq_pair->TF,Within->TN,wpAny_pyIter_list->Uh,wpAny_Return_some->Ui,wpAny_Assign_Name->Uj,typeIs_str->Uk,typeIs_int->Ul,concat_meets->Um,callType_new->Uo,noFill_tuple_add->Up,Addr->dt,Value->dy,Shared->d9,model->ef,eval->eh,Expr->eo,Heap->et,starEach->eJ,Pos->e8,sizeLine->fh,World->f6,Program->f9,Scope->gx,Stmt->gB,Around->ij,Obj->i5,Env->j1,Sem->l6,IsPair->l9,IsZip->m3,backTo->n0,Tok->o6,mainGlobals->pa,swapsWith->qq,FuncData->q7,compareOp->ri,foldedSetIterable->tf,pyNext->u9,binaryOp->wb,cellsFrom->wh,rawInt->xg,IsEnum->x6,Keyword->A7,NameKind->A8,ZipApart->B0,behindInMarks->B1,bootBuiltins->B3,relabel->B8,spliced->B9,Model->C1,assign->C6,holding->C7,IsPart->De,assignEach->Dh,cLine->Dj,getItem->Dn,sysModules->Dy,typeLookup->Dz,attributeBase->DJ,pushCells->DR,Meets->DZ,bindC->D3,bindL->D4,callerA->D5,isTrue->D8,leaving->E2,standAt->E8,typeOf->E9,atKey->F8,setField->L7,valueAt->M3,Drawn->M4,GenState->M6,backToKw->N5,boundAndCalled->N6,excClassObj->O0,truthy->Pt,updateSeq->P1,BindsTo->P2,OwnTail->P7,bindArgs->R6,checkBuiltinCall->R8,isInstance->S4,letOwnedTupleGo->S7,noteFrame->Ta,pyIter->T5,setFlight->T7,strIterType->T8,IsEnumOut->Ut,OsState->Uy,PassesOwn->Uz,firstArgMember->UL,getAttr?->UM,getAttrByItsOwn->UN,isSubtype->UU,ownMembersOf->U5,seqItems?->U7,subscripted->U8,swapsWithSole->U9,builtinsNs->z_,entryPlaceOf->C',newFunctionEnv->P',seqIndex_neg->V',seqIndex_of->V_,seq_tuple_add->W_,swappedStores->Y',tupleKind->_e,wpAny_Expr_any->_j,wpAny_Name->_k,wpAny_mkText->_l,getattributeRaised->i?,tupleKind_room_in1->I?,underTheClaimsCaller->L?,wpAny_assign_Name->M?,wpAny_binaryOp_repeat_ref->N?,wpAny_isSubtype_exc->O?,wpAny_isTrue_Compare1->P?,wpAny_letOwnedTupleGo_enum->Q?,wpAny_letOwnedTupleGo_zip->R?,wpAny_pyNext_enum_endD->S?,wpAny_pyNext_enum_itemD->T?,wpAny_raiseNew_none->U?,wpAny_sequenceKey->V?,wpAny_specialOf->W?
open PySem.W renaming Frag->Mj,kia_one->Nd,findIn->NP,kitOne->NT,mroIn->yg,keepIn->OB,fnOf->OW,clsIn->Pl,hideAll_get->Pw,nsIn->Py,cellsFrom_some->PU,specialIn->Rf,typeIn->Rh,hideAll->Rz,tail_of_in->RK,tailIn->RP,nsOkIn->RQ,codeIn->RR,kitx_dict->RU,mg_of->So,findCls->SE,of_hideAll->SY,callWith_K->r_,Looks->Tc,methodObj->Tt,kitx_list->Tu,plainGet->TH,Looks->C0,clsIn->DK,findIn->D7,looks_findIn->E5,looks_clsIn->N_,looks_mroIn->O'
open PySem.Heap renaming get?_push_of_some->Mk,lt_size->Mt,push->Mv,get?_push_size->My,get?_update_other->ML,size_push->MM,get?_update_self->Nu,FlyingW->ON,SameBut->Pc,get?_none_of_le->RD,get?_update_ne->RM,size_update->SI
open List renaming range->Ml,replicate->Mm,mem_range->Mn,getElem?_eq_getElem->Mp,mem_cons->Mr,size_toArray->Ms,getD_eq_getElem?_getD->Mz,getElem?_set_ne->MC,not_mem_nil->MD,mem_append_right->MH,map_congr_left->MI,length_map->MN,mem_cons_of_mem->MO,getElem?_eq_some_iff->MR,mem_cons_self->MS,map_cons->MT,getElem?_cons_zero->MW,eq_nil_of_length_eq_zero->MX,mem_map->Na,mem_filter->Nf,map_map->Nh,getElem?_cons_succ->Np,length_append->Nv,map_append->Nx,length_cons->NB,getElem?_map->NC,getElem?_set_self->NK,lookup_cons->NL,all_eq_true->NV,getElem?_append_right->NX,length_nil->NZ,getElem?_append_left->Oa,length_range->Od,countP_eq_length_filter->Oi,range_eq_range'->Ot,replicate_succ->Ow,range_succ->Ox,range'_succ->OL,length_singleton->OM,drop_eq_getElem_cons->OQ,flatten_cons->OY,find?_cons->OZ,countP_congr->Pa,length_take->Pg,mem_singleton->Pj,forIn_cons->Pp,zip_map'->Pq,range_add->PB,pairwise_iff_getElem->PD,forIn_nil->PF,range'->PL,nodup_cons->PX,mem_append->PY,getElem?_replicate->PZ,append_nil->Ra,Pairwise->Rb,flatten_replicate_singleton->Rj,take_of_length_le->Rm,pairwise_lt_range->Rn,drop_eq_nil_of_le->Ro,pairwise_map->Rp,getElem_mem->Rx,mem_of_getElem?->RA,all_cons->RE,nil_append->RL,zip_cons_cons->RW,mem_filterMap->RX,filter_append->RY,getElem?_zip_eq_some->Sf,length->Sy,any_cons->Sz,zipIdx_cons->SG,zipIdx_nil->SM,mem_append_left->SW,lookup->Ti,getElem?_range->Tj,filterMap_cons->Tn,forIn_toArray->Tz,length_eq_countP_add_countP->TM,foldl->TQ,ext_getElem?->TR,map_nil->TV,cons_append->Ub,any_eq_true->Uc
open Nat renaming le_refl->Mq,lt_of_lt_of_le->MA,ne_of_lt->ME,le_add_right->MF,lt_or_ge->MQ,not_lt_zero->Nb,le_trans->Nl,lt_irrefl->Nq,zero_le->NJ,lt_succ_of_lt->NM,zero_add->Og,ne_of_gt->Oh,add_sub_cancel_left->F2,lt_succ_self->Ou,lt_trichotomy->Sv,le_succ->SF,succ_mul->SO,mul_comm->SQ,min_eq_left->SR,le_of_lt->SS,mul_le_mul_right->Td,reduceAdd->TK,add_assoc->TL,add_comm->Ua
open PySem.Builtin.SmallTypes renaming nextOf->Mu,ownedTupleIsFree->MB,ownedTupleHandOut->NF,ownedTupleFields->RT
open Bool renaming and_eq_true->Mw,false_ne_true->MJ,false_eq_true->Nw,or_eq_true->NU,not_eq_true'->Oe,eq_iff_iff->N2,and_true->TC,true->cI,false->di
open Option renaming bind_some->Mx,map_some->Ni,isSome_iff_exists->Ny,some->Oo,map->Tx,some->cq,none->da
open Int renaming mul_emod->MK,emod_lt_of_pos->Ng,emod_nonneg->Nj,emod_emod->ND,add_emod->NW,toNat_natCast->Oj,emod_eq_of_lt->Om,sub_emod->OP,mul_comm->Pe,toNat_of_nonneg->P8,eq_ofNat_of_zero_le->Rg,mul_assoc->RI,mul_add->SH,natCast_mul->SU,emod_eq_emod_iff_emod_sub_eq_zero->Te,mul_left_comm->TX
open PySem.Value renaming ref->MP,none->NI,type->Oc,int->Sn,str->Ts
open PySem.Str renaming ofString->MU,join->Ug
open PySem.NameKind renaming free->MZ,cell->OX
open PyProof.Rows renaming callWith_type1->Nc,slot_tuple_getitem->NS,callWith_builtin1->OO,boot_isinstance->Ri,boot_zip->Sd,slot_tupleiter_next->Sj,tupleItemsOf_->SN,listUpdate_at->Ud,seqObj->js,AllBare->C9,Call_->DC,IsTup->M7,IntsAre->P6,envOfC->Se,Subscript_->s_,boot_enumerate->y_,get?_update_seq->D',size_push'->X',subscriptTail->X_,args_tuple_getitem->_X,args_tupleiter_next->_Y,entry_tupleiter_next->d?,joinParts_cons->o?,subscriptTail_builtinR->B?
open Ne renaming symm->Nr
open PySem.Obj renaming mapSeq->Nt,data_mapFields->TJ
open Option.some renaming inj->Nz
open PySem.F renaming slot_zip_next->NH,args_zip_next_1->OF,entry_zip_next->OR,store_ValueError->OS,excBase_ValueError->Po,slot_enumerate_next->Pu,plainAttrs_list->PM,attr_ValueError->PN,slot_list_getattribute->Rc,slot_tuple_mul->RJ,args_tuple_add_2->RV,plain_extend_loop->RZ,entry_tuple_add->Sq,slot_tuple_add->Su,slot_int_rmul->Tf,args_tuple_mul_2->TY,entry_tuple_mul->Ue
open Classical renaming byContradiction->NO,axiomOfChoice->Sb
open PySem.Calls renaming spliced_cons->NQ,spliced_nil->OV,callWith_builtin->SJ,evalArgs_plain->SV,Constant_str->Tv
open PySem.SeqAt renaming EqAt->NR
open False renaming elim->Oq
open PySem.Builtin.Tuple renaming tupleExact->Ov,tupleIsExact->Ph
open PySem.Builtin.List renaming listExtendWith->Oz,listTooLong->OI,listItems->PK,listSameRef->RF
open Array renaming getElem?_setIfInBounds->OC,length_toList->OE
open Sum renaming inl->OD,inr->TU
open PySem.Sem renaming wp->OH
open True renaming intro->OK
open PySem.PyData renaming depth->Pb,eqv->Pf,canLay0->Rl,depthAll->SK,eqvAll->Th,canLayAll0->Tw
open PySem.Builtin.Slice renaming slicePlaces->Pk,sliceAdjust->Rw
open PySem.Challenge renaming rw_barsplit_k45_laying_refused->Rv
open List.Pairwise renaming imp_of_mem->RB,filter->Sr
open PySem.Code renaming quiet_builtin->Sa
open Function renaming comp->Sg
open PySem.Shared renaming heap->Ss
open ForInStep renaming yield->Sw
open PySem.Heap.SameBut renaming update->p_
open PySem.SeqAt.EqAt renaming int_int->q_
open PySem.Txt renaming slice_le->TZ
local macro_rules| `(⋯) => `(by first|decide +kernel|lia|omega|simp)
set_option autoImplicit true
noncomputable section
set_option Elab.async false
set_option linter.all false
set_option maxRecDepth 100000
set_option maxHeartbeats 4000000
abbrev EQ:=PySem.Value->PySem.Shared->Prop
abbrev UQ:=List (PySem.Addr×PySem.Obj)
abbrev UW:=Nat->Nat->Nat->Int
abbrev UV:=Nat->Nat->Int
abbrev UK:=Nat->Bool
abbrev UX:=Nat->Nat
abbrev UZ:=PySem.Str->Option PySem.Value
theorem UJ{c:Prop}{h:Decidable c}(z:c){α}{a b:α}:ite c a b=a:=if_pos z
theorem UY{c:Prop}{h:Decidable c}(z:¬c){α}{a b:α}:ite c a b=b:=if_neg z
namespace L2
open PySem PySem.Spec PyProof.Rows
abbrev Key:=Sum Int Str
def dF:Key->dy->Bool
 |.inl k,v=>Value.isInt k v
 |.inr x,v=>Value.isStrOf x v
def LK(w:f6):Key->Int
 |.inl k=>hashInt k
 |.inr x=>hashStr w x
theorem qr:∀{k:Key} {v:dy},dF k v=cI->(∃i t,k=OD i/\v=Sn i t)\/(∃x t,k=TU x/\v=Ts x t)
 |.inl i,v,h=>by obtain⟨t,e⟩:=Value.isInt_shape (k:=i) (v:=v) h;exact .inl ⟨i,t,rfl,e⟩
 |.inr x,v,h=>by obtain⟨t,e⟩:=Value.isStrOf_shape (x:=x) (v:=v) h;exact .inr ⟨x,t,rfl,e⟩
theorem iu(i:Int)(t:o6):dF (.inl i) (.int i t)=cI:=by simp[dF,Value.isInt]
theorem iq(x:Str)(t:o6):dF (.inr x) (.str x t)=cI:=by simp[dF,Value.isStrOf]
theorem Ey(a b:Int):decide ((OD a:Key)=OD b)=(a==b):=by
 by_cases e:a=b
 ·subst e;simp
 ·have h:¬(OD a:Key)=OD b:=λq=>e (OD.inj q)
  rw[decide_eq_false h];exact(beq_eq_false_iff_ne.mpr e).symm
theorem Eu(a b:Str):decide ((TU a:Key)=TU b)=decide (a=b):=by
 by_cases e:a=b
 ·subst e;simp
 ·have h:¬(TU a:Key)=TU b:=λq=>e (TU.inj q)
  rw[decide_eq_false h,decide_eq_false e]
theorem Ex(a:Int)(b:Str):decide ((OD a:Key)=TU b)=di:=decide_eq_false<|λq=>nomatch q
theorem Ew(a:Str)(b:Int):decide ((TU a:Key)=OD b)=di:=decide_eq_false<|λq=>nomatch q
def xU(prog:f9)(w:f6):PySem.KeyKind prog w Key where
 is:=dF
 hash:=LK w
 inj:=λv a b ha O=>by
  rcases qr ha with⟨i,t,rfl,rfl⟩|⟨x,t,rfl,rfl⟩
  ·rcases qr O with⟨j,u,rfl,e⟩|⟨y,u,rfl,e⟩
   ·injection e with e1 _;rw[e1]
   ·exact nomatch e
  ·rcases qr O with⟨j,u,rfl,e⟩|⟨y,u,rfl,e⟩
   ·exact nomatch e
   ·injection e with e1 _;rw[e1]
 byValue:=λk v h=>by rcases qr h with⟨i,t,rfl,rfl⟩|⟨x,t,rfl,rfl⟩<;>rfl
 pyHash:=λI h=>by
  rcases qr I with⟨i,t,rfl,rfl⟩|⟨x,t,rfl,rfl⟩
  ·exact wpAny_pyHash_int h
  ·exact wpAny_pyHash_str h
 eqBool:=λU I h=>by
  rcases qr U with⟨i,t,rfl,rfl⟩|⟨x,t,rfl,rfl⟩
  ·rcases qr I with⟨j,u,rfl,rfl⟩|⟨y,u,rfl,rfl⟩
   ·rw[Ey]at h;exact wpAny_eqBool_int h
   ·rw[Ex]at h;exact NR.int_str i t y u _ _ _ _ h
  ·rcases qr I with⟨j,u,rfl,rfl⟩|⟨y,u,rfl,rfl⟩
   ·rw[Ew]at h;exact NR.str_int x t j u _ _ _ _ h
   ·rw[Eu]at h;exact wpAny_eqBool_str h
 «strs» :=λk x t v h=>by
  rcases qr h with⟨i,u,rfl,e⟩|⟨y,u,rfl,e⟩
  ·exact nomatch e
  ·injection e with e1 _
   subst e1;cases v<;>rfl
theorem WK(prog:f9)(w:f6)(i:Int)(t:o6):(xU prog w).is (.inl i) (.int i t)=cI:=iu i t
theorem WJ(prog:f9)(w:f6)(x:Str)(t:o6):(xU prog w).is (.inr x) (.str x t)=cI:=iq x t
inductive V where
 |ej|bl (b:Bool)|int (i:Int)|str (x:Str)|N7 (b:Array UInt8)|Jf (b:UInt64)|ref (a:dt)|ty (n:String)
 deriving DecidableEq
def RelV:V->dy->Prop
 |.ej,u=>u=NI
 |.bl b,u=>u=Value.bool b
 |.int i,u=>∃t,u=Sn i t
 |.str x,u=>∃t,u=Ts x t
 |.N7 b,u=>∃t,u=Value.bytes b t
 |.Jf b,u=>∃t,u=Value.float b t
 |.ref a,u=>u=MP a
 |.ty n,u=>u=Oc n
abbrev ft:List V->List dy->Prop:=Paired RelV
theorem ft.length(r:ft xs us):xs.length=us.length:=Paired.length r
theorem ft.get:∀{xs:List V} {us:List dy} {i:Nat} {x:V},ft xs us->xs[i]? = cq x->∃u,us[i]? = cq u/\RelV x u
 |_,_,_,_,.nil,e=>by simp at e
 |_,_,0,_,.cons r _,e=>by simp at e;subst e;exact⟨_,rfl,r⟩
 |_,_,i+1,x,.cons _ t,e=>by obtain⟨u,a,I⟩:=ft.get (i:=i) (x:=x) t (by simpa using e);exact⟨u,by simpa using a,I⟩
theorem ft.set(r:RelV x u):∀{xs:List V} {us:List dy} (i:Nat),ft xs us->ft (xs.set i x) (us.set i u)
 |_,_,_,.nil=>.nil
 |_,_,0,.cons _ t=>.cons r t
 |_,_,i+1,.cons q t=>.cons q (ft.set r i t)
theorem ft.append:∀{xs ys:List V} {us ws:List dy},ft xs us->ft ys ws->ft (xs++ys) (us++ws)
 |_,_,_,_,.nil,s=>s
 |_,_,_,_,.cons r t,s=>.cons r (ft.append t s)
theorem ft.take:∀{xs:List V} {us:List dy} (n:Nat),ft xs us->ft (xs.take n) (us.take n)
 |_,_,0,_=>.nil
 |_,_,_+1,.nil=>.nil
 |_,_,n+1,.cons r t=>.cons r (ft.take n t)
theorem ft.drop:∀{xs:List V} {us:List dy} (n:Nat),ft xs us->ft (xs.drop n) (us.drop n)
 |_,_,0,r=>r
 |_,_,_+1,.nil=>.nil
 |_,_,n+1,.cons _ t=>ft.drop n t
def A9:Option V->Option dy->Prop
 |some v,cq u=>RelV v u
 |none,da=>True
 |_,_=>False
def KV{z:Type}:List (z×V)->List (z×dy)->Prop:=Paired λ(p:z×V) (q:z×dy)=>p.1=q.1/\RelV p.2 q.2
def kV:Key->V
 |.inl i=>.int i
 |.inr x=>.str x
inductive HO where
 |lst (xs:List V)
 |tup (xs:List V)
 |dK (kA:List (Key×V))|dT (kA:List (List Key×V))
 |set (S:Int->Bool) (n:Nat)
 |ins (C dx:dt) (fs:List (Str×V))
 |own (x:dt)
 |xd (fs:List (Str×V))
 |met (f x:dt)
 |m4 (lo hi:Int)
 |rn (o:i5) (u:HO)
 |DV (ps:Array dy)
 |ext (φ:et->Prop)
abbrev Hp:=dt->Option HO
def upd(H:Hp)(a:dt)(o:HO):Hp:=λb=>if b=a then cq o else H b
theorem zF:upd H a o a=cq o:=by unfold upd;rw[UJ rfl]
theorem zE(h:b≠a):upd H a o b=H b:=by unfold upd;rw[UY h]
theorem Zi{H:Hp}{a:dt}{o u:HO}:upd (upd H a o) a u=upd H a u:=by funext b;unfold upd;split<;>rfl
theorem z6{H:Hp}{a b:dt}{o:HO}(h:H a=cq o)(h':H b=da):a≠b:=by intro e;subst e;rw[h]at h';cases h'
def A6(h:et)(a:dt)(items:Array dy):Prop:=∃o,h.get? a=cq o/\(o.cls,o.dict)=(Oc "tuple",da)/\∃n,o.data=.seq items n
theorem A6.new(h:et)(items:Array dy):A6 (h.push {cls:=.type "tuple",data:=.seq items}) h.objs.size items:=⟨_,My _ rfl,rfl,_,rfl⟩
theorem A6.tup(x:A6 h a items):M7 h a items:=let ⟨o,e,c,r⟩:=x;⟨o,e,(Prod.mk.inj c).1,r⟩
section
variable(P:f9)(w:f6)
def ir(H:Hp)(h:et)(a:dt):HO->Prop
 |.lst e=>e.length<=fh/\∃(b:List dy) (n:Nat),ft e b/\h.get? a=cq {cls:=.type "list",data:=.seq b.toArray n}
 |.tup e=>e.length<=fh/\∃b:List dy,ft e b/\A6 h a b.toArray
 |.dK d=>d.length<=fh/\(a==Dy)=di/\∃l,KV d l/\h.DictOf (xU P w) a l
 |.dT d=>d.length<=fh/\(a==Dy)=di/\∃e:List (List Key×dt×dy),
  Paired (λ(p:List Key×V) (q:List Key×dt×dy)=>p.1=q.1/\H q.2.1=cq (.tup<|p.1.map kV)/\RelV p.2 q.2.2) d e/\
  ∃o j O,h.get? a=cq o/\o.ExactDict/\o.data=.dict j O/\j.toList=e.map (entryOfKey<|tupleKind<|xU P w)/\(e.map (·.1)).Nodup
 |.set S n=>h.SetOf (intKind P w) a S n
 |.ins C g fs=>H g=cq (.own a)/\fs.length<=1000/\g≠a/\h.get? a=cq (PySem.W.instObj C g)/\
  ∃mA,h.Ns1 g mA/\(∀f,A9 (fs.lookup f)<|mA f)/\TN mA (fs.map (·.1))
 |.own _=>∃o,h.get? a=cq o
 |.xd fs=>∃mA,h.Ns1 a mA/\∀f,A9 (fs.lookup f)<|mA f
 |.m4 lo m=>∃t u v,h.get? a=cq {cls:=.type "range",data:=.fields #[.int lo t,.int m u,.int 1 v]}
 |.rn o u=>h.get? a=cq o/\ir H h a u
 |.DV r=>h.get? a=cq {cls:=.none,data:=.fields r}
 |.met f x=>h.get? a=cq (Tt (.ref f)<|.ref x)
 |.ext i=>i h/\(∃o,h.get? a=cq o)/\∀k I:et,i k->(∀o,k.get? a=cq o->I.get? a=cq o)->i I
def kv(H:Hp)(h:et):Prop:=∀a o,H a=cq o->ir P w H h a o
end
section
variable{P:f9}{w:f6}{H H':Hp}{h h':et}{a:dt}{o:HO}
theorem ir.lt(x:ir P w H h a o):a<h.objs.size:=by
 cases o with
 |lst d=>obtain⟨_,_,_,_,e⟩:=x;exact Mt e
 |tup d=>obtain⟨_,_,_,p⟩:=x;exact p.tup.lt
 |dK b=>obtain⟨_,_,_,_,o,_,_,e,_⟩:=x;exact Mt e
 |dT b=>obtain⟨_,_,_,_,o,_,_,e,_⟩:=x;exact Mt e
 |set S n=>obtain⟨o,_,_,_,e,_⟩:=x;exact Mt e
 |ins C g fs=>obtain⟨_,_,_,e,_⟩:=x;exact Mt e
 |own y=>obtain⟨_,e⟩:=x;exact Mt e
 |xd fs=>obtain⟨_,⟨_,_,_,e,_⟩,_⟩:=x;exact Mt e
 |m4 lo i=>obtain⟨_,_,_,e⟩:=x;exact Mt e
 |rn I u=>obtain⟨e,_⟩:=x;exact Mt e
 |DV j=>exact Mt (show h.get? a=cq _ from x)
 |met f y=>exact Mt (show h.get? a=cq _ from x)
 |ext k=>obtain⟨_,⟨_,e⟩,_⟩:=x;exact Mt e
theorem Paired.O_:∀{I:List α} {O:List β},Paired F I O->(∀a b,F a b->G a b)->Paired G I O
 |_,_,.nil,_=>.nil
 |_,_,.cons r t,f=>.cons (f _ _ r) (Paired.O_ t f)
theorem ir.vl(x:ir P w H h a o)(k:∀b u,(b=a\/H b=cq (.own a))->h.get? b=cq u->h'.get? b=cq u)
 (U:∀b,H b=cq (.own a)->H' b=cq (.own a)) (Y:∀b xs,H b=cq (.tup xs)->H' b=cq (.tup xs)):ir P w H' h' a o:=by
 induction o with
 |lst xs=>obtain⟨z,i,n,r,e⟩:=x;exact⟨z,i,n,r,k _ _ (.inl rfl) e⟩
 |tup xs=>obtain⟨z,i,r,I,e,c⟩:=x;exact⟨z,i,r,I,k _ _ (.inl rfl) e,c⟩
 |dK j=>obtain⟨z,y,E,r,I,g,O,e,c⟩:=x;exact⟨z,y,E,r,I,g,O,k _ _ (.inl rfl) e,c⟩
 |dT j=>
  obtain⟨z,y,xs,r,I,g,O,e,c⟩:=x;exact⟨z,y,xs,Paired.O_ r λp q z=>⟨z.1,Y _ _ z.2.1,z.2.2⟩,I,g,O,k _ _ (.inl rfl) e,c⟩
 |set S n=>obtain⟨I,g,O,t,e,c⟩:=x;exact⟨I,g,O,t,k _ _ (.inl rfl) e,c⟩
 |ins C F fs=>
  obtain⟨d,z,B,e,l,⟨m,g,O,Z,c⟩,r⟩:=x;exact⟨U _ d,z,B,k _ _ (.inl rfl) e,l,⟨m,g,O,k _ _ (.inr d) Z,c⟩,r⟩
 |own y=>obtain⟨I,e⟩:=x;exact⟨I,k _ _ (.inl rfl) e⟩
 |xd fs=>obtain⟨l,⟨m,g,O,e,c⟩,r⟩:=x;exact⟨l,⟨m,g,O,k _ _ (.inl rfl) e,c⟩,r⟩
 |m4 lo G=>obtain⟨t,u,v,e⟩:=x;exact⟨t,u,v,k _ _ (.inl rfl) e⟩
 |rn I u A=>obtain⟨e,q⟩:=x;exact⟨k _ _ (.inl rfl) e,A q⟩
 |DV s=>
  have e:h.get? a=cq {cls:=.none,data:=.fields s}:=x;show h'.get? a=cq {cls:=.none,data:=.fields s};exact k a _ (.inl rfl) e
 |met f y=>
  have e:h.get? a=cq (Tt (.ref f)<|.ref y):=x;show h'.get? a=cq (Tt (.ref f)<|.ref y);exact k a _ (.inl rfl) e
 |ext J=>obtain⟨p,⟨o,e⟩,st⟩:=x;exact⟨st _ _ p λo q=>k _ _ (.inl rfl) q,⟨o,k _ _ (.inl rfl) e⟩,st⟩
theorem kv.lt(x:kv P w H h)(e:H a=cq o):a<h.objs.size:=(x a o e).lt
theorem kv.fresh(x:kv P w H h)(e:h.objs.size<=a):H a=da:=by
 cases q:H a with
 |none=>rfl
 |some u=>exact absurd (MA (x.lt q) e)<|Nq _
theorem kv.kept(x:kv P w H h)(k:∀b u,h.get? b=cq u->h'.get? b=cq u):kv P w H h':=λa o e=>
 (x a o e).vl (λb u _ q=>k b u q) (λ_ q=>q) λ_ _ q=>q
theorem kv.laid(x:kv P w H h)(k:∀b u,h.get? b=cq u->h'.get? b=cq u)(O:h.objs.size<=a)(new:ir P w (upd H a o) h' a o):kv P w (upd H a o) h':=λb u e=>by
 have d:=x.fresh O;by_cases I:b=a
 ·subst I;rw[zF]at e;cases e;exact new
 ·rw[zE I]at e
  exact(x b u e).vl (λc v _ q=>k c v q) (λc q=>by rw[zE (z6 q d)];exact q) λc f q=>by rw[zE (z6 q d)];exact q
end
def Rd(H:Hp)(a:dt)(u:HO):Prop:=H a=cq u\/∃o,H a=cq (.rn o u)
theorem Rd.ok(r:Rd H a u)(x:kv P w H h):ir P w H h a u:=by
 rcases r with r|⟨o,r⟩
 ·exact x a u r
 ·obtain⟨_,q⟩:=x a _ r
  exact q
def NN:Option HO->Prop
 |some (.lst _)=>True
 |some (.dK _)=>True
 |some (.dT _)=>True
 |some (.set _ _)=>True
 |some (.ins _ _ _)=>True
 |some (.ext _)=>True
 |_=>False
section
variable{P:f9}{w:f6}{H:Hp}{h h':et}{x e:dt}{o':HO}
theorem kv.write(ok:kv P w H h)(I:NN (H x))(Z:e=x\/H e=cq (.own x))(k:∀b u,b≠e->h.get? b=cq u->h'.get? b=cq u)(a3:∃u,h'.get? e=cq u)
 (new:ir P w (upd H x o') h' x o'):kv P w (upd H x o') h':=λb u q=>by
 have d c y:H c=cq (.own y)->c≠x:=λr z=>by subst z;rw[r]at I;exact I
 have g c a:H c=cq (.tup a)->c≠x:=λr z=>by subst z;rw[r]at I;exact I
 by_cases O:b=x
 ·subst O;rw[zF]at q;cases q;exact new
 ·rw[zE O]at q
  by_cases U:b=e
  ·have f:H b=cq (.own x):=by
    rcases Z with z|z
    ·exact absurd (U.trans z) O
    ·rw[U];exact z
   rw[q]at f;cases f;obtain⟨v,i⟩:=a3;exact⟨v,by rw[U];exact i⟩
  ·refine(ok b u q).vl (λc v Y r=>k c v ?_ r) (λc r=>by rw[zE (d c b r)];exact r) λc a r=>by rw[zE (g c a r)];exact r
   rcases Y with rfl|Y
   ·exact U
   ·rintro rfl
    rcases Z with z|z
    ·exact d c b Y z
    ·rw[Y]at z;cases z;exact O rfl
end
structure Un(fs ex:List dt)(H H':Hp)(h h':et):Prop where
 keep:∀b o,h.get? b=cq o->H b=da->b∉fs->b∉ex->h'.get? b=cq o
 slot:∀b o,h.get? b=cq o->H b=da->b∈fs->b∉ex->∃sl,h'.get? b=cq {o with slots:=sl}
 free:∀b o,h.get? b=cq o->H b=da->b∉ex->H' b=da
 there:∀b o,h.get? b=cq o->b∉ex->∃o',h'.get? b=cq o'
 u5:∀b xs,H b=cq (.tup xs)->H' b=cq (.tup xs)
 tu:∀b o u,H b=cq (.rn o u)->H' b=cq (.rn o u)
 u4:∀b ps,H b=cq (.DV ps)->∃more,H' b=cq (.DV<|ps++more)
section
variable{fs ex:List dt}{H H1:Hp}{h h1 h':et}{a x e:dt}{o:HO}
theorem Un.any(u:Un fs ex H H1 h h1)(q:h.get? b=cq ob)(n:H b=da)(hx:b∉ex):∃z,h1.get? b=cq {ob with slots:=z}:=by
 by_cases I:b∈fs
 ·exact u.slot b ob q n I hx
 ·exact⟨ob.slots,u.keep b ob q n I hx⟩
theorem Un.kept(k:∀b u,h.get? b=cq u->h'.get? b=cq u):Un fs ex H H h h':=
 ⟨λb I q _ _ _=>k b I q,λb I q _ _ _=>⟨I.slots,k b I q⟩,λ_ _ _ n _=>n,λb I q _=>⟨I,k b I q⟩,λ_ _ q=>q,λ_ _ _ q=>q,λ_ a q=>⟨#[],by rw[q];simp⟩⟩
theorem Un.refl:Un fs ex H H h h:=Un.kept λ_ _ q=>q
theorem Un.laid(k:∀b u,h.get? b=cq u->h'.get? b=cq u)(I:h.objs.size<=a)(hn:H a=da):Un fs ex H (upd H a o) h h' where
 keep:=λb u q _ _ _=>k b u q
 slot:=λb u q _ _ _=>⟨u.slots,k b u q⟩
 free:=λb u q n _=>by rw[zE (ME<|MA (Mt q) I)];exact n
 there:=λb u q _=>⟨u,k b u q⟩
 u5:=λb xs q=>by rw[zE (z6 q hn)];exact q
 tu:=λb u xs q=>by rw[zE (z6 q hn)];exact q
 u4:=λb ps q=>⟨#[],by rw[zE (z6 q hn),q];simp⟩
theorem Un.write(I:NN (H x))(Y:e=x\/H e=cq (.own x))(k:∀b u,b≠e->h.get? b=cq u->h'.get? b=cq u)(Z:∃u,h'.get? e=cq u):Un fs ex H (upd H x o) h h':=by
 have d b:H b=da->b≠x:=λn z=>by subst z;rw[n]at I;exact I
 have O b:H b=da->b≠e:=λn z=>by
  subst z;rcases Y with r|r
  ·exact d b n r
  ·rw[n]at r;cases r
 have a b u:H b=cq u->¬NN (cq u)->b≠x:=λq nm z=>by subst z;rw[q]at I;exact nm I
 refine⟨λb u q n _ _=>k b u (O b n) q,λb u q n _ _=>⟨u.slots,k b u (O b n) q⟩,λb u q n _=>by rw[zE (d b n)];exact n,λb u q _=>?_,
  λb f q=>by rw[zE (a b _ q λz=>z)];exact q,λb u f q=>by rw[zE (a b _ q λz=>z)];exact q,λb g q=>⟨#[],by rw[zE (a b _ q λz=>z),q];simp⟩⟩
 by_cases U:b=e
 ·subst U;exact Z
 ·exact⟨u,k b u U q⟩
end
def Ur(h:et)(H:Hp):List dt:=(Ml h.objs.size).filter λa=>(H a).isSome
def oF(h:et)(H:Hp):et:=Rz h<|Ur h H
theorem iP(h:et)(H:Hp):(oF h H).objs.size=h.objs.size:=PySem.W.hideAll_size _ _
theorem oE(e:h.get? b=cq o)(n:H b=da):(oF h H).get? b=cq o:=
 Pw _ e λa=>by have q:(H b).isSome=cI:=(Nf.mp a).2;rw[n]at q;simp at q
theorem uO(e:(oF h H).get? b=cq o):h.get? b=cq o/\H b=da:=by
 have I:h.get? b=cq o:=SY (Ur h H) e;refine⟨I,?_⟩;cases q:H b with
 |none=>rfl
 |some x=>
  have a:b∈Ur h H:=Nf.mpr ⟨Mn.mpr<|Mt I,by simp[q]⟩;have z:(oF h H).get? b=da:=PySem.W.hideAll_none (Ur h H) a;rw[z]at e;cases e
def Bc(g h:et)(L:dt):List (dt×i5):=(Ml h.objs.size).filterMap λa=>if a=L\/(g.get? a).isSome=cI then da else (h.get? a).map λo=>(a,o)
def rest(g h:et)(L d:dt):List (dt×i5):=(Bc g h L).filter λp=>decide<|p.1≠d
structure Mod(K:Mj)(mg:UZ)(base:et):Prop where
 E1:K.In base
 glob:base.Ns pa mg
 blt:∃mb,base.Ns z_ mb/\∀x:Str,x ≠ "__name__"->mb x=B3 x
 nolimit:base.NoLimit
structure Cx where
 prog:f9
 w:f6
 K:Mj
 mg:Str->Option dy
 base:et
 A:ij
 N:List Str
 h8:d9
 DD:Hp
 env:j1
 outer:List j1
 stack:List j1
 ex:List dt
 fn:Str->Bool
 calm:Bool
 pn:List (dt×i5)
 xe:dy->d9->Prop
def mu(l:List j1):List dt:=l.filterMap (·.frame)
abbrev Cx.fs(X:Cx):List dt:=mu X.outer
def N3(z:gx)(x:Str):Prop:=z.names.lookup x=cq .local\/z.names.lookup x=cq .cell\/z.names.lookup x=cq .free
def Loc(z:gx)(x:Str):Prop:=z.names.lookup x=cq .local\/z.names.lookup x=cq .cell
def LY(env:j1)(h:et)(m:UZ)(x:Str)(u:dy):Prop:=
 (env.kindOf x=cq .local/\m x=cq u)\/((env.kindOf x=cq .cell\/env.kindOf x=cq .free)/\∃c,env.cells.lookup x=cq c/\h.IsCell c (cq u))
structure Cx.Ok(X:Cx):Prop where
 mod:Mod X.K X.mg X.base
 kind:X.env.scope.kind=.function
 glob:X.env.globals=pa
 blt:X.env.builtins=z_
 above:X.h8.heap.objs.size<=X.env.locals
 inj:∀x y c,X.env.cells.lookup x=cq c->X.env.cells.lookup y=cq c->x=y
 has:∀x,(X.env.kindOf x=cq .cell\/X.env.kindOf x=cq .free)->∃c,X.env.cells.lookup x=cq c
 F9:∀x c,X.fn x=cI->X.env.cells.lookup x=cq c->X.h8.heap.objs.size<=c
 hd:X.calm=cI->X.A.handled=da
 frames:X.A.frames=cq X.stack
 DU:X.stack=X.outer\/(X.stack=X.env::X.outer/\X.env.frame=cq X.env.locals)
 O1:∀b∈X.ex,b≠X.env.locals/\∀x c,X.env.cells.lookup x=cq c->c≠b
 bs:∀b o,X.base.get? b=cq o->X.h8.heap.get? b=cq o/\X.DD b=da
 y9:X.base.objs.size<=X.h8.heap.objs.size
 L4:∀b o,X.base.get? b=cq o->b∉X.ex
 I8:∀b∈X.ex,b∉X.fs
 o8:X.h8.heap.FunFrames X.base X.outer
 zt:∀b∈X.fs,X.DD b=da
structure Inv(X:Cx)(pins:UQ)(σ:List (Option V))(H:Hp)(s:d9):Prop where
 ok:X.Ok
 os:s.os=X.h8.os
 bare:C9 s.gens
 base:Un X.fs X.ex X.DD H X.h8.heap s.heap
 loc:∃m,s.heap.Ns X.env.locals m/\∀(i:Nat) (x:Str) (v:V),X.N[i]? = cq x->σ[i]? = cq (cq v)->N3 X.env.scope x->∃u,RelV v u/\LY X.env s.heap m x u
 cell:∀x c,X.env.cells.lookup x=cq c->∃v,s.heap.IsCell c v
 free:H X.env.locals=da
 u7:∀x c,X.env.cells.lookup x=cq c->H c=da
 pin:∀p∈X.pn++pins,s.heap.get? p.1=cq p.2/\H p.1=da/\p.1≠X.env.locals/\p.1∉X.fs/\∀v,p.2.data ≠ .cell v
 eH:kv X.prog X.w H s.heap
 len:σ.length=X.N.length
section
variable{X:Cx}{pins:UQ}{σ:List (Option V)}{H H':Hp}{s:d9}{h':et}
theorem Cx.Ok.s?(ok:X.Ok)(e:X.base.get? b=cq o):b∉X.fs:=λI=>by have:=(ok.o8.mem I).1;rw[e]at this;cases this
theorem Inv.bs(I:Inv X pins σ H s):∀b o,X.base.get? b=cq o->s.heap.get? b=cq o/\H b=da:=λb o e=>
 ⟨I.base.keep b o (I.ok.bs b o e).1 (I.ok.bs b o e).2 (I.ok.s? e) (I.ok.L4 b o e),I.base.free b o (I.ok.bs b o e).1 (I.ok.bs b o e).2 (I.ok.L4 b o e)⟩
theorem Inv.bk(I:Inv X pins σ H s):∀b o,X.base.get? b=cq o->s.heap.get? b=cq o:=λb o e=>(I.bs b o e).1
theorem Inv.mod(I:Inv X pins σ H s):Mod X.K X.mg X.base:=I.ok.mod
theorem Inv.iv(I:Inv X pins σ H s):X.K.In s.heap:=I.ok.mod.E1.keeps I.bk
theorem Inv.lt(I:Inv X pins σ H s):X.env.locals<s.heap.objs.size:=let ⟨_,a,_⟩:=I.loc;a.lt
theorem Inv.sz(I:Inv X pins σ H s):X.h8.heap.objs.size<=s.heap.objs.size:=Nl I.ok.above<|SS I.lt
theorem Inv.u?(I:Inv X pins σ H s)(h:s.heap.objs.size<=a):a∉X.fs:=λO=>by obtain⟨_,o,U,_⟩:=I.ok.o8.mem O;exact absurd (MA (Mt U)<|Nl I.sz h)<|Nq _
theorem Inv.Dk(I:Inv X pins σ H s):∀x c,X.env.cells.lookup x=cq c->c≠X.env.locals:=λx c e z=>by obtain⟨v,o,O,a⟩:=I.cell x c e;obtain⟨m,⟨d,b,Z,U,Y,_⟩,_⟩:=I.loc;rw[z,U]at O;cases O;rw[Y]at a;cases a
theorem Inv.o8(I:Inv X pins σ H s):s.heap.FunFrames X.base X.outer:=by
 have all:∀(l:List j1),(∀b∈mu l,b∈X.fs)->X.h8.heap.FunFrames X.base l->s.heap.FunFrames X.base l:=by
  intro l
  induction l with
  |nil=>intro _ _;trivial
  |cons f r Y=>
   intro d Z;obtain⟨h,⟨L,o,a,i,j,g⟩,k⟩:=Z;have O:L∈X.fs:=d L (by unfold mu;rw[Tn,a];exact MS);obtain⟨m,e⟩:=I.base.slot L o j (I.ok.zt L O) O λz=>I.ok.I8 L z O;exact⟨h,⟨L,_,a,i,e,g⟩,Y (λb U=>d b<|by unfold mu;rw[Tn,a];exact MO _ U) k⟩
 exact all X.outer (λ_ U=>U) I.ok.o8
theorem Inv.stack(I:Inv X pins σ H s):s.heap.FunFrames X.base X.stack:=by
 rcases I.ok.DU with e|⟨e,hf⟩
 ·rw[e];exact I.o8
 ·rw[e]
  obtain⟨m,a,_⟩:=I.loc;refine .cons (by rw[I.ok.kind];decide) hf a ?_ I.o8;exact RD<|Nl I.ok.y9 I.ok.above
theorem Inv.L9(I:Inv X pins σ H s):∀b∈mu X.stack,b∈X.env.locals::X.fs:=λb O=>by
 rcases I.ok.DU with e|⟨e,hf⟩
 ·rw[e]at O;exact MO _ O
 ·rw[e]at O
  unfold mu at O;rw[Tn,hf]at O;exact O
theorem Inv.O7(I:Inv X pins σ H s):∀b∈mu X.stack,H b=da:=λb O=>by
 rcases Mr.mp (I.L9 b O)with e|O
 ·rw[e];exact I.free
 ·obtain⟨_,o,U,_⟩:=I.ok.o8.mem O
  exact I.base.free b o U (I.ok.zt b O) λz=>I.ok.I8 b z O
theorem Inv.step{g':Array M6}{t':Nat}{d':M4}{ch:List dt}(I:Inv X pins σ H s)
 (Y:∀b∈ch,(b∈X.ex\/X.h8.heap.objs.size<=b)/\b≠X.env.locals/\(∀x c,X.env.cells.lookup x=cq c->c≠b)/\∀p∈X.pn++pins,p.1≠b)
 (keep:∀b o,b≠X.env.locals->b∉X.fs->b∉ch->s.heap.get? b=cq o->H b=da->h'.get? b=cq o)
 (slot:∀b o,b≠X.env.locals->b∈X.fs->b∉ch->s.heap.get? b=cq o->H b=da->∃sl,h'.get? b=cq {o with slots:=sl}) (free:∀b o,b∉ch->s.heap.get? b=cq o->H b=da->H' b=da)
 (there:∀b o,b∉ch->s.heap.get? b=cq o->∃o',h'.get? b=cq o')
 (u5:∀b xs,H b=cq (.tup xs)->H' b=cq (.tup xs)) (tu:∀b o u,H b=cq (.rn o u)->H' b=cq (.rn o u)) (u4:∀b ps,H b=cq (.DV ps)->∃more,H' b=cq (.DV<|ps++more))
 (ns:∀m,s.heap.Ns X.env.locals m->h'.Ns X.env.locals m) (eH:kv X.prog X.w H' h') (hg:C9 g'):
 Inv X pins σ H' {s with heap:=h',gens:=g',drawn:=d',toks:=t'}:=by
 have t b o:X.h8.heap.get? b=cq o->b≠X.env.locals:=λe=>ME<|MA (Mt e) I.ok.above;have h b o:X.h8.heap.get? b=cq o->b∉X.ex->b∉ch:=λe a O=>by
  rcases (Y b O).1 with z|z
  ·exact a z
  ·exact absurd (MA (Mt e) z)<|Nq _
 have y x c:X.env.cells.lookup x=cq c->∀v,s.heap.IsCell c v->h'.IsCell c v:=λe v J=>by
  obtain⟨o,U,j⟩:=J;have Z:c∉ch:=λz=>(Y c z).2.2.1 x c e rfl;by_cases A:c∈X.fs
  ·obtain⟨sl,q⟩:=slot c o (I.Dk x c e) A Z U (I.u7 x c e)
   exact⟨_,q,j⟩
  ·exact⟨o,keep c o (I.Dk x c e) A Z U<|I.u7 x c e,j⟩
 refine⟨I.ok,I.os,hg,⟨λb o e n O a=>?_,λb o e n O a=>?_,λb o e n a=>?_,λb o e a=>?_,λb xs e=>u5 b xs<|I.base.u5 b xs e,λb o xs e=>tu b o xs<|I.base.tu b o xs e,λb ps e=>?_⟩,?_,λx c e=>?_,?_,λx c e=>?_,λp B=>?_,eH,I.len⟩
 ·exact keep b o (t b o e) O (h b o e a) (I.base.keep b o e n O a)<|I.base.free b o e n a
 ·obtain⟨sl,f⟩:=I.base.slot b o e n O a
  obtain⟨F,g⟩:=slot b _ (t b o e) O (h b o e a) f<|I.base.free b o e n a;exact⟨F,g⟩
 ·obtain⟨o',f⟩:=I.base.there b o e a
  exact free b o' (h b o e a) f<|I.base.free b o e n a
 ·obtain⟨o',f⟩:=I.base.there b o e a
  exact there b o' (h b o e a) f
 ·obtain⟨M,f⟩:=I.base.u4 b ps e
  obtain⟨N,g⟩:=u4 b _ f;exact⟨M++N,by rw[g,Array.append_assoc]⟩
 ·obtain⟨m,L,K⟩:=I.loc
  refine⟨m,ns m L,λi x v f g G=>?_⟩;obtain⟨u,r,l⟩:=K i x v f g G;refine⟨u,r,?_⟩;rcases l with l|⟨k,c,e,z⟩
  ·exact .inl l
  ·exact .inr ⟨k,c,e,y x c e _ z⟩
 ·obtain⟨v,z⟩:=I.cell x c e
  exact⟨v,y x c e v z⟩
 ·obtain⟨m,⟨o,_,_,U,_⟩,_⟩:=I.loc
  exact free _ o (λz=>(Y _ z).2.1 rfl) U I.free
 ·obtain⟨v,o,U,j⟩:=I.cell x c e
  exact free c o (λz=>(Y c z).2.2.1 x c e rfl) U<|I.u7 x c e
 ·obtain⟨e,n,C,E,d⟩:=I.pin p B
  have Z:p.1∉ch:=λz=>(Y p.1 z).2.2.2 p B rfl;exact⟨keep p.1 p.2 C E Z e n,free p.1 p.2 Z e n,C,E,d⟩
theorem Inv.un{t':Nat}(I:Inv X pins σ H s)(u:Un X.fs [] H H' s.heap h')(eH:kv X.prog X.w H' h'):Inv X pins σ H' {s with heap:=h',toks:=t'}:=by
 obtain⟨m,⟨o,i,h,U,r⟩,_⟩:=id I.loc;obtain⟨l,Z⟩:=u.any U I.free ⋯;exact I.step (g':=s.gens) (d':=s.drawn) (ch:=[]) (λ_ z=>nomatch z) (λb o _ O _ e n=>u.keep b o e n O ⋯) (λb o _ O _ e n=>u.slot b o e n O ⋯) (λb o _ e n=>u.free b o e n ⋯) (λb o _ e=>u.there b o e ⋯) u.u5 u.tu u.u4 (λj f=>by obtain⟨k,a,d,Y,g⟩:=f;rw[U]at Y;cases Y;exact⟨_,a,d,Z,g⟩) eH I.bare
theorem Inv.call{g':Array M6}{t':Nat}{d':M4}{ch:List dt}(I:Inv X pins σ H s)(u:Un (mu X.stack) ch H H' s.heap h')(eH:kv X.prog X.w H' h')(hg:C9 g')
 (Y:∀b∈ch,(b∈X.ex\/X.h8.heap.objs.size<=b)/\b≠X.env.locals/\(∀x c,X.env.cells.lookup x=cq c->c≠b)/\∀p∈X.pn++pins,p.1≠b):
 Inv X pins σ H' {s with heap:=h',gens:=g',drawn:=d',toks:=t'}:=by
 obtain⟨m,⟨o,k,j,Z,r⟩,_⟩:=id I.loc;obtain⟨y,U⟩:=u.any Z I.free λz=>(Y _ z).2.1 rfl;exact I.step (ch:=ch) Y (λb o U g O e n=>u.keep b o e n (λz=>(Mr.mp<|I.L9 b z).elim U g) O) (λb o _ _ O e n=>u.any e n O) (λb o O e n=>u.free b o e n O) (λb o O e=>u.there b o e O) u.u5 u.tu u.u4 (λl h=>by obtain⟨t,d,f,a,i⟩:=h;rw[Z]at a;cases a;exact⟨_,d,f,U,i⟩) eH hg
theorem Inv.turned{t':Nat}{it:dt}(I:Inv X pins σ H s)(k:∀b o,b≠it->s.heap.get? b=cq o->h'.get? b=cq o)(hn:H it=da)(U:it≠X.env.locals)
 (h1:it∈X.ex\/X.h8.heap.objs.size<=it) (Z:∀x c,X.env.cells.lookup x=cq c->c≠it) (h3:∀p∈X.pn++pins,p.1≠it):Inv X pins σ H {s with heap:=h',toks:=t'}:=by
 have Y b u:H b=cq u->b≠it:=λe z=>by rw[z,hn]at e;cases e
 refine I.step (g':=s.gens) (d':=s.drawn) (ch:=[it]) (λb f=>?_) (λb o _ _ O e _=>k b o (λz=>O<|by simp[z]) e) (λb o _ _ O e _=>⟨o.slots,k b o (λz=>O<|by simp[z]) e⟩) (λ_ _ _ _ n=>n)
  (λb o O e=>⟨o,k b o (λz=>O<|by simp[z]) e⟩) (λ_ _ e=>e) (λ_ _ _ e=>e) (λb i e=>⟨#[],by rw[e];simp⟩) (λm g=>?_) (λb u e=>?_) I.bare
 ·have e:b=it:=by simpa using f
  subst e;exact⟨h1,U,Z,h3⟩
 ·obtain⟨o,d,a,h,r⟩:=g
  exact⟨o,d,a,k _ o (Nr U) h,r⟩
 ·refine(I.eH b u e).vl (λc v O q=>k c v ?_ q) (λ_ q=>q) λ_ _ q=>q
  rcases O with z|z
  ·rw[z];exact Y b u e
  ·exact Y c _ z
theorem Inv.tok(I:Inv X pins σ H s)(t:Nat):Inv X pins σ H {s with toks:=t}:=I.un (h':=s.heap) (t':=t) Un.refl I.eH
theorem Inv.kept(I:Inv X pins σ H s)(k:∀b u,s.heap.get? b=cq u->h'.get? b=cq u):Inv X pins σ H {s with heap:=h',toks:=t'}:=I.un (Un.kept k)<|I.eH.kept k
theorem Inv.laid(I:Inv X pins σ H s)(k:∀b u,s.heap.get? b=cq u->h'.get? b=cq u)(O:s.heap.objs.size<=a)(new:ir X.prog X.w (upd H a o) h' a o):
 Inv X pins σ (upd H a o) {s with heap:=h',toks:=t'}:=I.un (Un.laid k O<|I.eH.fresh O)<|I.eH.laid k O new
theorem Inv.write(I:Inv X pins σ H s)(O:NN (H x))(U:e=x\/H e=cq (.own x))(k:∀b u,b≠e->s.heap.get? b=cq u->h'.get? b=cq u)(Y:∃u,h'.get? e=cq u)
 (new:ir X.prog X.w (upd H x o) h' x o):Inv X pins σ (upd H x o) {s with heap:=h',toks:=t'}:=I.un (Un.write O U k Y)<|I.eH.write O U k Y new
theorem Inv.T3(I:Inv X pins σ H s)(h:∀p∈O,s.heap.get? p.1=cq p.2/\H p.1=da/\p.1≠X.env.locals/\p.1∉X.fs/\∀v,p.2.data ≠ .cell v):Inv X O σ H s:=
 ⟨I.ok,I.os,I.bare,I.base,I.loc,I.cell,I.free,I.u7,λp U=>(PY.mp U).elim (λz=>I.pin p<|SW _ z) (h p),I.eH,I.len⟩
theorem Ye{N:List Str}(I:N.Nodup){i j:Nat}{x:Str}(a:N[i]? = cq x)(b:N[j]? = cq x):i=j:=by obtain⟨e,d⟩:=MR.mp a;obtain⟨U,O⟩:=MR.mp b;exact(List.getElem_inj I).mp (d.trans O.symm)
theorem YV{M:C1}{A:ij}{E:EQ}{i:Nat}{x:Str}{v:V}{u:dy}{Q:Unit->d9->Prop}(I:Inv X pins σ H s)(hN:X.N.Nodup)(hi:X.N[i]? = cq x)(hx:Loc X.env.scope x)(r:RelV v u)
 (h:∀s',Inv X pins (σ.set i<|some v) H s'->(∃a,Pc a s.heap s'.heap/\(a=X.env.locals\/X.env.cells.lookup x=cq a))->Q () s') (hf:X.fn x=cI\/X.env.scope.names.lookup x=cq .local:=by first|exact .inl rfl|exact .inr rfl|assumption):wpAny M A (storeName X.env x u) Q E s:=by
 obtain⟨m,J,hl⟩:=id I.loc;have aq:(X.env.scope.kind ==.class || (X.env.scope.kind ==.module&&X.env.locals != X.env.globals))=di:=by rw[I.ok.kind];rfl
 have ad:i<σ.length:=by rw[I.len];exact(MR.mp hi).1
 have Dk:=I.Dk;have ak:∀{a:dt} {h':et},(∃o,s.heap.get? a=cq o/\H a=da)->Pc a s.heap h'->kv X.prog X.w H h':=λ{a h'} ha f b ob e=>by
  obtain⟨_,_,al⟩:=ha;refine(I.eH b ob e).vl (λc C O q=>(f.2 c ?_).trans q) (λ_ q=>q) λ_ _ q=>q;rintro rfl;rcases O with rfl|O
  ·rw[al]at e;cases e
  ·rw[al]at O;cases O
 rcases hx with Y|Y
 ·refine wpAny_storeName_local Y J (λh' as f=>?_) aq
  obtain⟨oL,_,_,b0,_⟩:=id J;refine h _ ⟨I.ok,I.os,I.bare,⟨λb o e n Z hx=>?_,λb o e n Z hx=>?_,I.base.free,λb o e hx=>?_,I.base.u5,I.base.tu,I.base.u4⟩,⟨_,as,λj y W g U G=>?_⟩,λy c e=>?_,I.free,I.u7,λp K=>?_,ak ⟨oL,b0,I.free⟩ f,by simpa using I.len⟩ ⟨_,f,.inl rfl⟩
  ·exact(f.2 b<|ME<|MA (Mt e) I.ok.above).trans (I.base.keep b o e n Z hx)
  ·obtain⟨S,g⟩:=I.base.slot b o e n Z hx
   exact⟨S,(f.2 b<|ME<|MA (Mt e) I.ok.above).trans g⟩
  ·obtain⟨P,g⟩:=I.base.there b o e hx
   exact⟨P,(f.2 b<|ME<|MA (Mt e) I.ok.above).trans g⟩
  ·by_cases l:j=i
   ·subst l
    rw[hi]at g;cases g;rw[NK ad]at U;cases U;exact⟨u,r,.inl ⟨Y,by simp⟩⟩
   ·rw[MC (Nr l)]at U
    obtain⟨T,R,q⟩:=hl j y W g U G;refine⟨T,R,?_⟩;rcases q with⟨k,e⟩|⟨k,c,e,z⟩
    ·refine .inl ⟨k,?_⟩
     have:y≠x:=λe=>l<|Ye hN g<|e ▸ hi;simp[this,e]
    ·exact .inr ⟨k,c,e,z.sameBut f<|Dk y c e⟩
  ·obtain⟨C,z⟩:=I.cell y c e
   exact⟨C,z.sameBut f<|Dk y c e⟩
  ·obtain⟨e,n,B,L,d⟩:=I.pin p K
   exact⟨(f.2 p.1 B).trans e,n,B,L,d⟩
 ·have F:X.fn x=cI:=by
   rcases hf with z|z
   ·exact z
   ·rw[z]at Y;cases Y
  obtain⟨c,O⟩:=I.ok.has x<|.inl Y;obtain⟨C,z⟩:=I.cell x c O;refine wpAny_storeName_cell I.ok.kind Y O z<|λh' am f=>?_;obtain⟨oc,an,b1⟩:=id z;refine h {s with heap:=h'} ⟨I.ok,I.os,I.bare,⟨λb o e n Z hx=>?_,λb o e n Z hx=>?_,I.base.free,λb o e hx=>?_,I.base.u5,I.base.tu,I.base.u4⟩,⟨m,J.sameBut f<|Nr<|Dk x c O,λj y W g U G=>?_⟩,λy t e=>?_,I.free,I.u7,λp K=>?_,ak ⟨oc,an,I.u7 x c O⟩ f,by simpa using I.len⟩ ⟨c,f,.inr O⟩
  ·exact(f.2 b<|ME<|MA (Mt e)<|I.ok.F9 x c F O).trans (I.base.keep b o e n Z hx)
  ·obtain⟨S,g⟩:=I.base.slot b o e n Z hx
   exact⟨S,(f.2 b<|ME<|MA (Mt e)<|I.ok.F9 x c F O).trans g⟩
  ·obtain⟨P,g⟩:=I.base.there b o e hx
   exact⟨P,(f.2 b<|ME<|MA (Mt e)<|I.ok.F9 x c F O).trans g⟩
  ·by_cases l:j=i
   ·subst l
    rw[hi]at g;cases g;rw[NK ad]at U;cases U;exact⟨u,r,.inr ⟨.inl Y,c,O,am⟩⟩
   ·rw[MC (Nr l)]at U
    obtain⟨T,R,q⟩:=hl j y W g U G;refine⟨T,R,?_⟩;rcases q with q|⟨k,t,e,z'⟩
    ·exact .inl q
    ·refine .inr ⟨k,t,e,z'.sameBut f ?_⟩
     rintro rfl;exact l<|Ye hN g<|I.ok.inj _ _ _ e O ▸ hi
  ·by_cases ap:t=c
   ·subst ap;exact⟨_,am⟩
   ·obtain⟨w2,z2⟩:=I.cell y t e
    exact⟨w2,z2.sameBut f ap⟩
  ·obtain⟨e,n,B,L,d⟩:=I.pin p K
   refine⟨(f.2 p.1 ?_).trans e,n,B,L,d⟩;intro q;rw[q,an]at e;have q':oc=p.2:=Nz e;exact d C (by rw[<-q'];exact b1)
theorem KM(I:Inv X pins σ H s)(O:X.N.Nodup)(Y:X.N[i]? = cq x)(hx:Loc X.env.scope x)(r:RelV v u)
 (h:∀s',Inv X pins (σ.set i<|some v) H s'->Q () s') (z:X.fn x=cI\/X.env.scope.names.lookup x=cq .local:=by first|exact .inl rfl|exact .inr rfl|assumption):wpAny M A (storeName X.env x u) Q E s:=
 YV I O Y hx r (λs' U _=>h s' U) z
theorem Inv.A_(I:Inv X pins σ H s)(O:s'.os=s.os)(u:Un (mu X.stack) ch H H' s.heap s'.heap)(z:kv X.prog X.w H' s'.heap)(U:C9 s'.gens)
 (Y:∀b∈ch,(b∈X.ex\/X.h8.heap.objs.size<=b)/\b≠X.env.locals/\(∀x c,X.env.cells.lookup x=cq c->c≠b)/\∀p∈X.pn++pins,p.1≠b):Inv X pins σ H' s':=by
 obtain⟨h',g',d',t',a⟩:=s';have e:a=s.os:=O;subst e;exact I.call (g':=g') (t':=t') (d':=d') u z U Y
end
abbrev XK:=dy->Option dt->Hp->Prop
abbrev St:=List (Option V)
abbrev VK:=V->Hp->Prop
abbrev TE:=St->Hp->VK->Prop
abbrev TT:=St->Hp->(Bool->Hp->Prop)->Prop
abbrev TA:=St->Hp->(List V->Hp->Prop)->Prop
structure Ends where
 nx:St->Hp->Prop
 rt:VK
 bk:St->Hp->Prop:=λ_ _=>False
 ct:St->Hp->Prop:=λ_ _=>False
abbrev TS:=Ends->St->Hp->Prop
def EP(X:Cx)(z:UQ)(I:St)(Q:VK)(u:dy)(s':d9):Prop:=∃v a,Inv X z I a s'/\RelV v u/\Q v a
def TP(X:Cx)(z:UQ)(I:St)(Q:Bool->Hp->Prop)(b:Bool)(s':d9):Prop:=∃a,Inv X z I a s'/\Q b a
def AP(X:Cx)(z:UQ)(I:St)(Q:List V->Hp->Prop)(us:List dy)(s':d9):Prop:=∃b a,Inv X z I a s'/\ft b us/\Q b a
def SP(X:Cx)(z:UQ)(D:Ends)(f:Flow)(s':d9):Prop:=
 match f with
 |.next=>∃I a,Inv X z I a s'/\D.nx I a
 |.brk=>∃I a,Inv X z I a s'/\D.bk I a
 |.cont=>∃I a,Inv X z I a s'/\D.ct I a
 |.ret u=>∃v I a,Inv X z I a s'/\RelV v u/\D.rt v a
def PE(X:Cx)(e:eo)(t:TE):Prop:=
 ∀(a:UQ) (s:d9) (b:St) (H:Hp) (Q:VK),Inv X a b H s->t b H Q->wpAny (ef X.prog X.w) X.A (eh e X.env) (EP X a b Q) X.xe s
def PT(X:Cx)(e:eo)(t:TT):Prop:=
 ∀(a:UQ) (s:d9) (b:St) (H:Hp) (Q:Bool->Hp->Prop),Inv X a b H s->t b H Q->wpAny (ef X.prog X.w) X.A (D8 e X.env<|eval e X.env) (TP X a b Q) X.xe s
def PW(X:Cx)(e:eo)(t:TT):Prop:=
 ∀(I:l6 dy) (a:UQ) (s:d9) (b:St) (H:Hp) (Q:Bool->Hp->Prop),Inv X a b H s->t b H Q->wpAny (ef X.prog X.w) X.A (D8 e X.env I) (TP X a b Q) X.xe s
theorem PW.pt(h:PW X e t):PT X e t:=h _
def PA(X:Cx)(es:List eo)(t:TA):Prop:=
 ∀(pos:e8) (a:UQ) (s:d9) (b:St) (H:Hp) (Q:List V->Hp->Prop),Inv X a b H s->t b H Q->wpAny (ef X.prog X.w) X.A (B9<|backTo pos<|starEach es X.env) (AP X a b Q) X.xe s
def PS(X:Cx)(st:gB)(t:TS):Prop:=
 ∀(a:UQ) (s:d9) (b:St) (H:Hp) (D:Ends),Inv X a b H s->t D b H->wpAny (ef X.prog X.w) X.A (exec st X.env) (SP X a D) X.xe s
def r0(X:Cx)(st:List gB)(t:TS):Prop:=
 ∀(a:UQ) (s:d9) (b:St) (H:Hp) (D:Ends),Inv X a b H s->t D b H->wpAny (ef X.prog X.w) X.A (execs st X.env) (SP X a D) X.xe s
theorem fe(h:wpAny M A t Q E s)(I:∀a s,Q a s->Q' a s):wpAny M A t Q' E s:=MG h I λ_ _ x=>x
section
variable{X:Cx}
def pK(i:Nat):TE:=λa H Q=>∃v,a[i]? = cq (cq v)/\Q v H
def tC(v:V):TE:=λ_ H Q=>Q v H
theorem rB(hN:X.N[i]? = cq x)(hv:N3 X.env.scope x)(z:(x==("__debug__" : Str))=di:=by decide)(a3:(x==("__classdict__" : Str))=di:=by decide):PE X (.Name x pos) (pK i):=by
 intro a s g H Q I h;obtain⟨v,e,h⟩:=h;obtain⟨m,f,b⟩:=I.loc;obtain⟨u,r,l⟩:=b i x v hN e hv;have U:EP X a g Q u s:=⟨v,H,I,r,h⟩;rcases l with⟨O,d⟩|⟨O,c,Y,Z⟩
 ·exact _k (wpAny_loadName_local I.ok.kind O f d U) z
 ·rcases O with O|O
  ·exact _k (wpAny_loadName_cell I.ok.kind O Y Z U) z
  ·exact _k (wpAny_loadName_free I.ok.kind O Y Z U a3) z
theorem CL:PE X (.Constant (.int i) j pos) (tC<|.int i):=λ_ _ _ H _ I h=>wpAny_Constant_int ⟨.int i,H,I.tok _,⟨_,rfl⟩,h⟩
theorem Hd:PE X (.Constant (.bool b) j pos) (tC<|.bl b):=λ_ _ _ H _ I h=>Constant_bool ⟨.bl b,H,I,rfl,h⟩
theorem CI:PE X (.Constant .none j pos) (tC .ej):=λ_ _ _ H _ I h=>Constant_none ⟨.ej,H,I,rfl,h⟩
theorem CF:PE X (.Constant (.str x) j pos) (tC<|.str x):=λ_ _ _ H _ I h=>Tv ⟨.str x,H,I.tok _,⟨_,rfl⟩,h⟩
def Gl(X:Cx)(x:Str):Prop:=X.env.kindOf x=cq .globalImplicit
theorem ve(I:Inv X pins σ H s)(O:Gl X x)(Y:X.mg x=cq u)(h:Q u s)
 (z:(x==("__debug__" : Str))=di:=by decide):wpAny (ef X.prog X.w) X.A (eh (.Name x pos) X.env) Q E s:=
 Calls.Name_function_global I.ok.kind O (Calls.loadGlobal_global (by rw[I.ok.glob];exact I.mod.glob.keeps I.bk) Y h) z
theorem xQ(I:Inv X pins σ H s)(O:Gl X x)(Z:X.mg x=da)(U:B3 x=cq u)(h:Q u s)
 (hn:x ≠ "__name__":=by decide) (z:(x==("__debug__" : Str))=di:=by decide):wpAny (ef X.prog X.w) X.A (eh (.Name x pos) X.env) Q E s:=by
 obtain⟨b,a,Y⟩:=I.mod.blt;exact Calls.Name_function_global I.ok.kind O (Calls.loadGlobal_builtin (by rw[I.ok.glob];exact I.mod.glob.keeps I.bk) Z (by rw[I.ok.blt];exact a.keeps I.bk) ((Y x hn).trans U) h) z
variable{a b:eo}{ta tb:TE}{pos:e8}
def PC(X:Cx)(I:CmpOp)(a b:eo)(t:TE):Prop:=
 ∀(d:UQ) (s:d9) (e:St) (H:Hp) (Q:VK),Inv X d e H s->t e H Q->
  wpAny (ef X.prog X.w) X.A (eh a X.env) (λv O=>wpAny (ef X.prog X.w) X.A (eh b X.env) (λu U=>wpAny (ef X.prog X.w) X.A (ri I v u) (EP X d e Q) X.xe U) X.xe O) X.xe s
theorem nW(b:eo)(h:op ≠ .In)(I:op ≠ .NotIn):B1 op b=di:=by
 have a:(op==CmpOp.In)=di:=by cases op<;>first|rfl|exact absurd rfl h
 have O:(op==CmpOp.NotIn)=di:=by cases op<;>first|rfl|exact absurd rfl I
 cases b<;>simp[B1,a,O]
def tB(t:TE):TT:=λb H Q=>t b H λx a=>∃c,x=.bl c/\Q c a
theorem Cs(h:PC X op a b t)(z:B1 op b=di:=by first|exact nW _ ⋯ ⋯ |rfl):PT X (.Compare a [op] [b] pos) (tB t):=by intro e s j H Q I g;refine P? (fe (h e s j H _ I g) λv k z=>fe z λu l O=>fe O λc m U=>?_) z;obtain⟨x,f,Y,Z,i⟩:=U;obtain⟨d,rfl,q⟩:=i;cases Z;exact OG ⟨f,Y,q⟩
theorem Cq(h:PE X e t)(U:∀O,D8 e X.env O=(do let v<-O;E8 e.pos;C7 [v] (Pt v)):=by intro _;rfl):PT X e (tB t):=by intro a s j H Q I f;refine isTrue_plain (fe (h a s j H _ I f) λv k Y=>?_)<|U _;obtain⟨x,b,Z,i,g⟩:=Y;obtain⟨d,rfl,q⟩:=g;cases i;exact OG ⟨b,Z,q⟩
variable{tA T9:TT}{rest:List eo}
def LA(t u:TT):TT:=λb H Q=>t b H λc a=>if c=cI then u b a Q else Q di a
def E?(t u:TT):TT:=λb H Q=>t b H λc a=>if c=cI then Q cI a else u b a Q
def Lu(t:TT):TT:=λb H Q=>t b H λc a=>Q (!c) a
theorem tY(z:PT X a tA):PW X (.BoolOp .And [a] pos) tA:=by
 intro O b s d H Q I h;refine isTrue_and<|fe (z b s d H Q I h) λc f e=>?_;cases c with
 |true=>exact isTrue_and_nil e
 |false=>exact e
theorem Ci(z:PT X a tA):PW X (.BoolOp .Or [a] pos) tA:=by
 intro O b s d H Q I h;refine isTrue_or<|fe (z b s d H Q I h) λc f e=>?_;cases c with
 |false=>exact isTrue_or_nil e
 |true=>exact e
theorem Cj(z:PT X a tA)(Y:PW X (.BoolOp .And (b::rest) pos) T9):PW X (.BoolOp .And (a::b::rest) pos) (LA tA T9):=by
 intro Z d s f H Q I h;refine isTrue_and<|fe (z d s f H _ I h) λc i g=>?_;obtain⟨e,O,U⟩:=g;cases c with
 |true=>exact Y Z d i f e Q O U
 |false=>exact⟨e,O,U⟩
theorem GT(z:PT X a tA)(Y:PW X (.BoolOp .Or (b::rest) pos) T9):PW X (.BoolOp .Or (a::b::rest) pos) (E? tA T9):=by
 intro Z d s f H Q I h;refine isTrue_or<|fe (z d s f H _ I h) λc i g=>?_;obtain⟨e,O,U⟩:=g;cases c with
 |true=>exact⟨e,O,U⟩
 |false=>exact Y Z d i f e Q O U
theorem Cr(ha:PT X a tA):PT X (.UnaryOp .Not a pos) (Lu tA):=by intro b s e H Q I h;exact isTrue_not<|ha b s e H (λc d=>Q (!c) d) I h
def GK(ta tb:TE):TE:=λb H Q=>ta b H λx a=>∃c,x=.bl c/\if c=cI then tb b a Q else Q (.bl di) a
def GE(ta:TE):TE:=λb H Q=>ta b H λx a=>∃c,x=.bl c/\Q (.bl<|!c) a
theorem CG(h:PE X a t):PE X (.BoolOp op [a] pos) t:=λb s e H Q I d=>BoolOp_one<|h b s e H Q I d
theorem CN(z:PE X a ta)(Y:PE X (.BoolOp .And (b::rest) pos) tb):PE X (.BoolOp .And (a::b::rest) pos) (GK ta tb):=by
 intro d s f H Q I h;refine BoolOp_and<|fe (z d s f H _ I h) λv i Z=>?_;obtain⟨x,e,U,g,O⟩:=Z;obtain⟨c,rfl,O⟩:=O;cases g;refine OG ?_;cases c with
 |true=>exact Y d i f e Q U O
 |false=>exact⟨.bl di,e,U,rfl,O⟩
theorem CH(z:PE X a ta):PE X (.UnaryOp .Not a pos) (GE ta):=by intro b s e H Q I h;refine UnaryOp_<|fe (z b s e H _ I h) λv f U=>?_;obtain⟨x,d,Y,Z,O⟩:=U;obtain⟨c,rfl,O⟩:=O;cases Z;exact not_of<|OG ⟨.bl<|!c,d,Y,rfl,O⟩
def X2(t:TT)(ta tb:TE):TE:=λa H Q=>t a H λc b=>if c=cI then ta a b Q else tb a b Q
theorem nM(Y:PT X c tA)(z:PE X a ta)(Z:PE X b tb):PE X (.IfExp c a b pos) (X2 tA ta tb):=by
 intro e s f H Q I h;refine wpAny_IfExp<|fe (Y e s f H _ I h) λd i j=>?_;obtain⟨g,O,U⟩:=j;cases d with
 |true=>exact z e i f g Q O U
 |false=>exact Z e i f g Q O U
end
def gE(K:Mj)(H:Hp)(a:dt)(xs:List V):Prop:=
 Rd H a (.lst xs)\/
  ∃(o:i5) (b:Array dy) (n:Nat),K.lookup a=cq o/\o.cls=.type "list"/\o.dict=da/\o.data=.seq b n/\b.size<=fh/\ft xs b.toList
def gR(K:Mj)(H:Hp)(a:dt)(xs:List V):Prop:=
 Rd H a (.tup xs)\/
  ∃(o:i5) (b:Array dy) (n:Nat),K.lookup a=cq o/\(o.cls,o.dict)=(Oc "tuple",da)/\o.data=.seq b n/\b.size<=fh/\ft xs b.toList
def LV:dy->Option V
 |.none=>cq .ej
 |.bool b=>cq (.bl b)
 |.int i _=>cq (.int i)
 |.str x _=>cq (.str x)
 |.bytes b _=>cq (.N7 b)
 |.float b _=>cq (.Jf b)
 |.ref a=>cq (.ref a)
 |.type n=>cq (.ty n)
 |_=>da
theorem RelV.abs(r:RelV x u):LV u=cq x:=by
 cases x with
 |ej=>cases r;rfl
 |bl _=>cases r;rfl
 |int _=>obtain⟨t,rfl⟩:=r;rfl
 |str _=>obtain⟨t,rfl⟩:=r;rfl
 |N7 _=>obtain⟨t,rfl⟩:=r;rfl
 |Jf _=>obtain⟨t,rfl⟩:=r;rfl
 |ref _=>cases r;rfl
 |ty _=>cases r;rfl
theorem RelV.inj(r:RelV x u)(q:RelV y u):x=y:=Nz<|r.abs.symm.trans q.abs
theorem ft.inj:∀{xs ys:List V} {us:List dy},ft xs us->ft ys us->xs=ys
 |_,_,_,.nil,.nil=>rfl
 |_,_,_,.cons r t,.cons r' t'=>by rw[r.inj r',ft.inj t t']
section
variable{X:Cx}{pins:UQ}{σ:St}{H:Hp}{s:d9}{a:dt}{xs ys:List V}
theorem gE.of{K:Mj}(h:H a=cq (.lst xs)):gE K H a xs:=.inl (.inl h)
theorem gR.of{K:Mj}(h:H a=cq (.tup xs)):gR K H a xs:=.inl (.inl h)
theorem Inv.list(I:Inv X pins σ H s)(h:gE X.K H a xs):∃its:List dy,ft xs its/\PlainL s.heap a its.toArray/\xs.length<=fh:=by
 rcases h with h|⟨o,its,n,O,U,hd,hs,hz,r⟩
 ·obtain⟨z,its,n,r,e⟩:=h.ok I.eH
  exact⟨its,r,⟨_,n,e,rfl,rfl,rfl⟩,z⟩
 ·refine⟨its.toList,r,⟨o,n,I.iv a o O,U,hd,by simpa using hs⟩,?_⟩
  have e:=r.length;simp only[OE]at e;lia
theorem Inv.tuple(I:Inv X pins σ H s)(h:gR X.K H a xs):∃its:List dy,ft xs its/\M7 s.heap a its.toArray/\xs.length<=fh:=by
 rcases h with h|⟨o,its,n,O,U,hs,hz,r⟩
 ·obtain⟨z,its,r,p⟩:=h.ok I.eH
  exact⟨its,r,p.tup,z⟩
 ·refine⟨its.toList,r,⟨o,I.iv a o O,(Prod.mk.inj U).1,n,by simpa using hs⟩,?_⟩
  have e:=r.length;simp only[OE]at e;lia
theorem Inv.U1(I:Inv X pins σ H s)(h:gE X.K H a xs)(h':gE X.K H a ys):xs=ys:=by
 obtain⟨f,r,⟨o,n,e,_,_,d⟩,_⟩:=I.list h;obtain⟨b,i,⟨k,j,O,_,_,g⟩,_⟩:=I.list h';rw[e]at O;cases O;rw[d]at g;injection g with U _;have:f=b:=by simpa using congrArg Array.toList U
 subst this;exact r.inj i
theorem Inv._g(I:Inv X pins σ H s)(h:gR X.K H a xs)(h':gR X.K H a ys):xs=ys:=by
 obtain⟨f,r,⟨o,e,_,n,d⟩,_⟩:=I.tuple h;obtain⟨b,i,⟨k,O,_,j,g⟩,_⟩:=I.tuple h';rw[e]at O;cases O;rw[d]at g;injection g with U _;have:f=b:=by simpa using congrArg Array.toList U
 subst this;exact r.inj i
end
abbrev Cx.iw(X:Cx)(E:EQ):Cx:={X with xe:=E}
abbrev Cx.ly(X:Cx):Cx:=X.iw λ_ _=>False
theorem Cx.Ok.iw{X:Cx}(ok:X.Ok)(E:EQ):(X.iw E).Ok:=
 ⟨ok.mod,ok.kind,ok.glob,ok.blt,ok.above,ok.inj,ok.has,ok.F9,ok.hd,ok.frames,ok.DU,ok.O1,ok.bs,ok.y9,ok.L4,ok.I8,ok.o8,ok.zt⟩
theorem Cx.Ok.qs{X:Cx}{E:EQ}(ok:(X.iw E).Ok):X.Ok:=
 ⟨ok.mod,ok.kind,ok.glob,ok.blt,ok.above,ok.inj,ok.has,ok.F9,ok.hd,ok.frames,ok.DU,ok.O1,ok.bs,ok.y9,ok.L4,ok.I8,ok.o8,ok.zt⟩
section
variable{X:Cx}{pins:UQ}{σ:St}{H:Hp}{s:d9}{E:EQ}
theorem Inv.iw(I:Inv X pins σ H s)(E:EQ):Inv (X.iw E) pins σ H s:=⟨I.ok.iw E,I.os,I.bare,I.base,I.loc,I.cell,I.free,I.u7,I.pin,I.eH,I.len⟩
theorem Inv.qs(I:Inv (X.iw E) pins σ H s):Inv X pins σ H s:=⟨I.ok.qs,I.os,I.bare,I.base,I.loc,I.cell,I.free,I.u7,I.pin,I.eH,I.len⟩
theorem SP.qs(h:SP (X.iw E) pins D f s'):SP X pins D f s':=by
 cases f with
 |next=>obtain⟨O,a,I,q⟩:=h;exact⟨O,a,I.qs,q⟩
 |brk=>obtain⟨O,a,I,q⟩:=h;exact⟨O,a,I.qs,q⟩
 |cont=>obtain⟨O,a,I,q⟩:=h;exact⟨O,a,I.qs,q⟩
 |ret u=>obtain⟨v,O,a,I,r,q⟩:=h;exact⟨v,O,a,I.qs,r,q⟩
theorem r0.ly{st:List gB}{t:TS}(h:r0 X.ly st t):r0 X st t:=λpins s σ H D I a=>
 MG (h pins s σ H D (I.iw _) a) (λ_ _ q=>q.qs) λ_ _ z=>Oq z
end
section
variable{X:Cx}{st:gB}{rest:List gB}{t u:TS}{e:eo}{te:TE}{pos:e8}
def GG:TS:=λD a H=>D.nx a H
def GC(t u:TS):TS:=λD a H=>t {D with nx:=u D} a H
theorem ui:r0 X [] GG:=λ_ _ a H _ I h=>To ⟨a,H,I,h⟩
theorem aL(z:PS X st t)(O:r0 X rest u):r0 X (st::rest) (GC t u):=by
 intro a s e H D I h;refine OT<|fe (z a s e H {D with nx:=u D} I h) λf d q=>?_;cases f with
 |next=>
  obtain⟨U,b,Y,q⟩:=q;exact O a d U b D Y q
 |ret v=>exact q
 |brk=>exact q
 |cont=>exact q
theorem Wy(z:PS X st t):r0 X [st] t:=by
 intro a s b H D I h;refine OT<|fe (z a s b H D I h) λf d q=>?_;cases f with
 |next=>exact To q
 |ret v=>exact q
 |brk=>exact q
 |cont=>exact q
def GJ:TS:=λD a H=>D.ct a H
theorem Wz:PS X (.Continue pos) GJ:=λ_ _ a H _ I h=>wpAny_Continue ⟨a,H,I,h⟩
theorem Inv.quiet(I:Inv X pins σ H s):interactive X.env=di:=by simp[interactive,I.ok.kind]
def GH(te:TE):TS:=λD a H=>te a H λ_ b=>D.nx a b
theorem KY(O:PE X e te)(hs:qq e da pos.line X.env=pure di:=by rfl):PS X (.Expr e pos) (GH te):=by intro a s b H D I h;exact _j (fe (O a s b H _ I h) λv f ⟨x,d,U,Z,Y⟩=>⟨b,d,U,Y⟩) I.quiet hs
def Ls(te:TE):TS:=λD a H=>te a H D.rt
theorem gy(O:PE X e te):PS X (.Return (cq e) pos) (Ls te):=by intro a s b H D I h;exact Ui<|fe (O a s b H _ I h) λv f ⟨x,d,U,Y,Z⟩=>⟨x,b,d,U,Y,Z⟩
def Lw(c:TT)(t u:TS):TS:=λD a H=>c a H λb d=>if b=cI then t D a d else u D a d
theorem GZ(Y:PT X c tc)(z:r0 X a t)(Z:r0 X b u):PS X (.If c a b pos) (Lw tc t u):=by
 intro e s f H D I h;refine wpAny_If<|fe (Y e s f H _ I h) λd i j=>?_;obtain⟨g,O,U⟩:=j;cases d with
 |true=>exact z e i f g D O U
 |false=>exact Z e i f g D O U
def BC:TS:=λ_ _ _=>False
theorem nB:PS X st BC:=λ_ _ _ _ _ _ h=>h.elim
end
abbrev TG:=V->St->Hp->(St->Hp->Prop)->Prop
abbrev F4:=List V->St->Hp->(St->Hp->Prop)->Prop
def PG(X:Cx)(O:eo)(t:TG):Prop:=
 ∀(a:UQ) (s:d9) (d:St) (H:Hp) (v:V) (u:dy) (Q:St->Hp->Prop),Inv X a d H s->RelV v u->t v d H Q->
  wpAny (ef X.prog X.w) X.A (C6 O X.env u) (λ_ e=>∃I b,Inv X a I b e/\Q I b) X.xe s
def N0(X:Cx)(O:List eo)(t:F4):Prop:=
 ∀(a:UQ) (s:d9) (f:St) (H:Hp) (e:List V) (d:List dy) (Q:St->Hp->Prop),Inv X a f H s->ft e d->t e f H Q->
  wpAny (ef X.prog X.w) X.A (assignInOrder ((Dh O X.env).map (·.2)) d) (λ_ g=>∃I b,Inv X a I b g/\Q I b) X.xe s
abbrev Lg:=V->V->V->Hp->(Hp->Prop)->Prop
def Lh(X:Cx)(t:Lg):Prop:=
 ∀(a:UQ) (s:d9) (d:St) (H:Hp) (o i v:V) (I O u:dy) (Q:Hp->Prop),Inv X a d H s->RelV o I->RelV i O->RelV v u->t o i v H Q->
  wpAny (ef X.prog X.w) X.A (setItem I O u) (λ_ e=>∃b,Inv X a d b e/\Q b) X.xe s
section
variable{X:Cx}{pos:e8}
def v7(i:Nat):TG:=λv a H Q=>Q (a.set i<|some v) H
theorem gJ(O:X.N.Nodup)(Y:X.N[i]? = cq x)(hx:Loc X.env.scope x)(z:X.fn x=cI\/X.env.scope.names.lookup x=cq .local:=by first|exact .inl rfl|exact .inr rfl|assumption):PG X (.Name x pos) (v7 i):=by intro a s d H v u Q I r h;exact M?<|KM I O Y hx r (λb U=>⟨_,H,U,h⟩) z
def IR:F4:=λa b H Q=>a=[]/\Q b H
def EL(t:TG)(u:F4):F4:=λb d H Q=>∃v r,b=v::r/\t v d H λI a=>u r I a Q
theorem WC:N0 X [] IR:=by intro a s b H f d Q I r h;obtain⟨e,h⟩:=h;subst e;cases r;exact assignInOrder_nil ⟨b,H,I,h⟩
theorem va(z:PG X e t)(O:N0 X es u)
 (hs:(Dh (e::es) X.env).map (·.2)=C6 e X.env::(Dh es X.env).map (·.2):=by rfl):N0 X (e::es) (EL t u):=by
 intro a s j H m k Q I r h;obtain⟨v,l,f,h⟩:=h;subst f;cases r with
 |cons r U=>
  rw[hs];refine assignInOrder_cons<|fe (z a s j H _ _ _ I r h) λ_ i Y=>?_;obtain⟨Z,b,d,g⟩:=Y;exact O a i Z b _ _ Q d U g
def IQ(K:Mj)(n:Nat)(t:F4):TG:=λv d H Q=>∃a b,v=.ref a/\gR K H a b/\b.length=n/\t b d H Q
theorem CB(U:X.calm=cI)(h:N0 X es t)
 (z:(Dh es X.env).length=n:=by rfl) (Y:(Dh es X.env).findIdx? (·.1)=da:=by rfl):PG X (.Tuple es k pos) (IQ X.K n t):=by
 intro d s g H v u Q I r f;obtain⟨a,y,j,Z,m,f⟩:=f;subst j;cases r;obtain⟨x,O,p,A⟩:=I.tuple Z;refine assign_Tuple_tuple (I.ok.hd U) p (by simp[z,<-m,O.length]) Y λl w=>?_;have i:Inv X d g H {s with heap:=l}:=I.kept (t':=s.toks) λb o e=>w b o (ME<|Mt e) e;exact h d _ g H y _ Q i (by simpa using O) f
def LP(to I:TE)(t:Lg):TG:=λv a H Q=>to a H λo b=>I a b λi d=>t o i v d λO=>Q a O
theorem CC(Z:PE X o to)(hi:PE X i ti)(hs:Lh X t)
 (z:∀v,C6 (.Subscript o i pos) X.env v=(do
   let O<-C7 [v] (eh o X.env);let U<-C7 [v,O] (eh i X.env)
   E8 pos
   C7 [v,O,U] (setItem O U v)
   release [v,O,U] []):=by intro _;rfl):PG X (.Subscript o i pos) (LP to ti t):=by
 intro a s b H v u Q I r h;rw[z];refine Mi<|NA<|fe (Z a s b H _ I h) λO A Y=>?_;obtain⟨x,d,g,p,l⟩:=Y;refine Mi<|NA<|fe (hi a A b d _ g l) λU B Y=>?_;obtain⟨y,e,j,w,m⟩:=Y;refine Mi<|Rr<|Mi<|NA<|fe (hs a B b e x y v O U u _ j p w r m) λ_ C Y=>?_;obtain⟨f,k,n⟩:=Y;exact wpAny_release ⟨b,f,k,n⟩
def az(z:TE)(g:TG):TS:=λD a H=>z a H λx b=>g x a b D.nx
theorem gz(O:PE X e te)(U:PG X tg g)(hs:U9 [tg] e pos.line X.env=pure di:=by rfl)(hw:Y' [tg] e X.env=pure da:=by rfl)
 (z:(Dh [tg] X.env).map (·.2)=[C6 tg X.env]:=by rfl):PS X (.Assign [tg] e pos) (az te g):=by
 intro a s b H D I h;refine wpAny_Assign_stores (fe (O a s b H _ I h) λv j Y=>?_) hs hw;obtain⟨x,d,Z,i,f⟩:=Y;rw[z];exact fe (U a j b d x v _ Z i f) λ_ k q=>q
theorem rk(O:X.N.Nodup)(hi:X.N[i]? = cq x)(hx:Loc X.env.scope x)(U:PE X e te)(hs:qq e (cq (.Name x pos')) pos.line X.env=pure di:=by rfl)(z:X.fn x=cI\/X.env.scope.names.lookup x=cq .local:=by first|exact .inl rfl|exact .inr rfl|assumption):
 PS X (.Assign [.Name x pos'] e pos) (az te<|v7 i):=by
 intro a s j H D I h;refine Uj (fe (U a s j H _ I h) λv k Y=>?_) hs;obtain⟨y,b,Z,g,f⟩:=Y;exact KM Z O hi hx g (λl d=>⟨_,b,d,f⟩) z
end
structure It where
 go:Nat->Hp->Prop
 DB:Nat->Hp->V->Hp->Prop
 stop:Nat->Hp->Prop
def Zg(X:Cx)(z:UQ)(H:Hp)(b:dt):Prop:=
 H b=da/\b≠X.env.locals/\b∉X.fs/\(b∈X.ex\/X.h8.heap.objs.size<=b)/\(∀x c,X.env.cells.lookup x=cq c->c≠b)/\∀p∈X.pn++z,p.1≠b
theorem Inv.B6(I:Inv X pins σ H s)(O:s.heap.objs.size<=b)(Y:H' b=da):Zg X pins H' b:=by
 refine⟨Y,Oh<|MA I.lt O,I.u? O,.inr<|Nl I.sz O,λx c e z=>?_,λp U z=>?_⟩
 ·obtain⟨v,q⟩:=I.cell x c e
  exact absurd (MA q.lt<|by rw[z];exact O)<|Nq _
 ·exact absurd (MA (Mt (I.pin p U).1)<|by rw[z];exact O)<|Nq _
structure Turn(P:f9)(w:f6)(K:Mj)(tg:eo)(J:It)(fp:List dt)(it:dt)(tn:Nat->et->Prop):Prop where
 mem:it∈fp
 obj:∀i h,tn i h->∀b∈fp,∃o,h.get? b=cq o/\∀v,o.data ≠ .cell v
 keep:∀i h h',tn i h->(∀b∈fp,∀o,h.get? b=cq o->h'.get? b=cq o)->tn i h'
 item:∀(X:Cx),X.prog=P->X.w=w->X.K=K->X.calm=cI->∀(i:Nat) (pins:UQ) (s:d9) (σ:St) (H:Hp) (E:EQ),Inv X pins σ H s->(∀b∈fp,Zg X pins H b)->tn i s.heap->J.go i H->
  wpAny (ef P w) X.A (u9<|.ref it) (λr s1=>∃u,r=cq u/\
   wpAny (ef P w) X.A (S7 tg (.ref it) u) (λ_ s2=>∃x H',Inv X pins σ H' s2/\RelV x u/\J.DB i H x H'/\tn (i+1) s2.heap/\∀b∈fp,H' b=da) E s1) E s
 done:∀(X:Cx),X.prog=P->X.w=w->X.K=K->X.calm=cI->∀(i:Nat) (pins:UQ) (s:d9) (σ:St) (H:Hp) (E:EQ),Inv X pins σ H s->(∀b∈fp,Zg X pins H b)->tn i s.heap->J.stop i H->
  wpAny (ef P w) X.A (u9<|.ref it) (λr s1=>r=da/\Inv X pins σ H s1) E s
 self:∀(A:ij) (i:Nat) (s:d9) (Q:EQ) (E:EQ),tn i s.heap->Q (.ref it) s->wpAny (ef P w) A (T5<|.ref it) Q E s
abbrev TI:=St->Hp->(It->Hp->Prop)->Prop
def k_(X:Cx)(z:UQ)(Z:St)(Y:eo)(R:It->Hp->Prop)(I:dy)(O:d9):Prop:=
 ∃(e:dt) (d:List dt) (f:Nat->et->Prop) (J:It) (a:Hp),I=.ref e/\Inv X z Z a O/\Turn X.prog X.w X.K Y J d e f/\f 0 O.heap/\(∀b∈d,Zg X z a b)/\R J a
def PI(X:Cx)(I z:eo)(O:TI):Prop:=
 ∀(a:UQ) (s:d9) (b:St) (H:Hp) (R:It->Hp->Prop),Inv X a b H s->O b H R->
  wpAny (ef X.prog X.w) X.A (eh z X.env) (λv d=>wpAny (ef X.prog X.w) X.A (T5 v) (k_ X a b I R) X.xe d) X.xe s
theorem Ak(O:s.heap.get? it=cq o)(U:o.cls=.type n)(z:o.data=.fields vs)
 (Y:["enumerate","zip","dict_itemiterator","dict_reverseitemiterator","odict_iterator","itertools.zip_longest","itertools.pairwise"].contains n=di) (I:Q () s):wpAny M A (S7 tg (.ref it) u) Q E s:=by
 unfold S7;cases tg<;>first
  |exact Mo I
  |(cases u<;>first
      |exact Mo I
      | (refine Mi (wpAny_load O ?_)
         rw[U,z];show wpAny M A (if (["enumerate","zip","dict_itemiterator","dict_reverseitemiterator","odict_iterator","itertools.zip_longest","itertools.pairwise"].contains n&&vs[0]? == cq (xg _))=cI then _ else _) Q E s;rw[UY (by intro h;rw[Y,Bool.false_and]at h;cases h)];exact Mo I))
def i_(K:Mj)(a:dt):It:=
 ⟨λi H=>∃b x,gE K H a b/\b[i]? = cq x,λi H x d=>d=H/\∀b,gE K H a b->b[i]? = cq x,λi H=>∃b,gE K H a b/\b.length<=i⟩
def j_(K:Mj)(a:dt):It:=
 ⟨λi H=>∃b x,gR K H a b/\b[i]? = cq x,λi H x d=>d=H/\∀b,gR K H a b->b[i]? = cq x,λi H=>∃b,gR K H a b/\b.length<=i⟩
def M8(lo:Int)(n:Nat):It:=⟨λi _=>i<n,λi H x a=>a=H/\x=.int (lo+i),λi _=>n<=i⟩
theorem fj{P:f9}{w:f6}{K:Mj}{tg:eo}(a it:dt):Turn P w K tg (i_ K a) [it] it (λi h=>h.IsListIter it a i) where
 mem:=by simp
 obj:=λi h st b O=>by
  have e:b=it:=by simpa using O
  subst e;obtain⟨o,e,c,d⟩:=st;exact⟨o,e,λv z=>by rw[d]at z;cases z⟩
 keep:=λi h h' st k=>st.at λo e=>k it ⋯ o e
 item:=by intro X Y hw Z hc i pins s σ H E I hf st hg;subst Y hw Z;obtain⟨xs,x,U,hx⟩:=hg;obtain⟨its,rv,p,hz⟩:=I.list U;obtain⟨u,hu,ru⟩:=rv.get hx;obtain⟨f0,f1,f2,f3,f4,f5⟩:=hf it ⋯;refine wpAny_pyNext_list_item st p.isList (x:=u) (by simpa using hu) λh' a9 sb=>?_;have I1:Inv X pins σ H {s with heap:=h'}:=I.turned (t':=s.toks) (λb o O e=>(sb.2 b O).trans e) f0 f1 f3 f4 f5;obtain⟨o,e,c,d⟩:=id a9;exact⟨u,rfl,Ak (s:={s with heap:=h'}) e c d ⋯ ⟨x,H,I1,ru,⟨rfl,λys hy=>by rw[I.U1 hy U];exact hx⟩,a9,λb O=>(hf b O).1⟩⟩
 done:=by intro X Y hw Z hc i pins s σ H E I hf st hg;subst Y hw Z;obtain⟨xs,U,hx⟩:=hg;obtain⟨its,rv,p,hz⟩:=I.list U;obtain⟨f0,f1,f2,f3,f4,f5⟩:=hf it ⋯;have hl:=rv.length;exact wpAny_pyNext_list_end (I.ok.hd hc) st p.isList (by simp;lia) λh' eb=>⟨rfl,I.turned (t':=s.toks) (λb o O e=>eb b o O e) f0 f1 f3 f4 f5⟩
 self:=λ_ _ _ _ _ st h=>wpAny_pyIter_listiter st h
theorem bY{P:f9}{w:f6}{K:Mj}{tg:eo}(a it:dt):Turn P w K tg (j_ K a) [it] it (λi h=>h.IsTupleIter it a i) where
 mem:=by simp
 obj:=λi h st b O=>by
  have e:b=it:=by simpa using O
  subst e;obtain⟨o,e,c,d⟩:=st;exact⟨o,e,λv z=>by rw[d]at z;cases z⟩
 keep:=λi h h' st k=>st.at λo e=>k it ⋯ o e
 item:=by intro X Y hw Z hc i pins s σ H E I hf st hg;subst Y hw Z;obtain⟨xs,x,U,hx⟩:=hg;obtain⟨its,rv,p,hz⟩:=I.tuple U;obtain⟨u,hu,ru⟩:=rv.get hx;obtain⟨f0,f1,f2,f3,f4,f5⟩:=hf it ⋯;refine wpAny_pyNext_tuple_item st (show s.heap.IsTuple a its.toArray from p) (x:=u) (by simpa using hu) λh' a9 sb=>?_;have I1:Inv X pins σ H {s with heap:=h'}:=I.turned (t':=s.toks) (λb o O e=>(sb.2 b O).trans e) f0 f1 f3 f4 f5;obtain⟨o,e,c,d⟩:=id a9;exact⟨u,rfl,Ak (s:={s with heap:=h'}) e c d ⋯ ⟨x,H,I1,ru,⟨rfl,λys hy=>by rw[I._g hy U];exact hx⟩,a9,λb O=>(hf b O).1⟩⟩
 done:=by intro X Y hw Z hc i pins s σ H E I hf st hg;subst Y hw Z;obtain⟨xs,U,hx⟩:=hg;obtain⟨its,rv,p,hz⟩:=I.tuple U;obtain⟨f0,f1,f2,f3,f4,f5⟩:=hf it ⋯;have hl:=rv.length;exact wpAny_pyNext_tuple_end (I.ok.hd hc) st (show s.heap.IsTuple a its.toArray from p) (by simp;lia) λh' eb=>⟨rfl,I.turned (t':=s.toks) (λb o O e=>eb b o O e) f0 f1 f3 f4 f5⟩
 self:=λ_ _ _ _ _ st h=>wpAny_pyIter_tupleiter st h
theorem bZ{P:f9}{w:f6}{K:Mj}{tg:eo}(it:dt)(lo:Int)(n:Nat):Turn P w K tg (M8 lo n) [it] it (λi h=>IsRangeIter h it (lo+(i:Nat)*1) ((n:Int)-(i:Nat)) 1) where
 mem:=by simp
 obj:=λi h st b O=>by
  have e:b=it:=by simpa using O
  subst e;exact⟨_,st,λv z=>by have z':Data.fields _=Data.cell v:=z;cases z'⟩
 keep:=λi h h' st k=>k it ⋯ _ st
 item:=by intro X U hw Y Z i pins s σ H E I hf st hg;subst U hw Y;obtain⟨f0,f1,f2,f3,f4,f5⟩:=hf it ⋯;have W:=Walks.range (prog:=X.prog) (w:=X.w) (I.ok.hd Z) it lo 1 n;refine W.item i s _ _ hg st λv h' tk hv a7 kk=>?_;obtain⟨t,rfl⟩:=hv;have I1:Inv X pins σ H {s with heap:=h',toks:=tk}:=I.turned (λb o O e=>kk b o (by simpa using O) e) f0 f1 f3 f4 f5;refine⟨_,rfl,Ak (s:={s with heap:=h',toks:=tk}) (n:="range_iterator") a7 rfl rfl ⋯ ⟨.int (lo+i),H,I1,⟨t,?_⟩,⟨rfl,rfl⟩,a7,λb O=>(hf b O).1⟩⟩;rw[Int.mul_one]
 done:=by intro X U hw Y Z i pins s σ H E I hf st hg;subst U hw Y;obtain⟨f0,f1,f2,f3,f4,f5⟩:=hf it ⋯;exact wpAny_pyNext_range_end (I.ok.hd Z) st (by have:n<=i:=hg;lia) λh' eb=>⟨rfl,I.turned (t':=s.toks) (λb o O e=>eb b o O e) f0 f1 f3 f4 f5⟩
 self:=λ_ _ _ _ _ st h=>wpAny_pyIter_rangeiter st h
section
variable{X:Cx}{tg:eo}
theorem aG{pins:UQ}{σ:St}{H:Hp}{s:d9}{R:It->Hp->Prop}{E:EQ}{lo z:Int}{t u v:o6}{tk:Nat}(I:Inv X pins σ H s)(h1 : -(2^62)<=lo)(U:lo<2^62)(Y : -(2^62)<=z)(Z:z<2^62)
 (q:R (M8 lo (z-lo).toNat) H):wpAny (ef X.prog X.w) X.A (T5 (.ref s.heap.objs.size)) (k_ X pins σ tg R) E {s with heap:=s.heap.push {cls:=.type "range",data:=.fields #[.int lo t,.int z u,.int 1 v]},toks:=tk}:=by
 refine wpAny_pyIter_range (IsRange.new ..) (small_one h1 U Y Z) ?_;have O:Inv X pins σ H {s with heap:=s.heap.push {cls:=.type "range",data:=.fields #[.int lo t,.int z u,.int 1 v]},toks:=tk}:=I.kept λb o e=>Mk _ e;refine⟨(s.heap.push {cls:=.type "range",data:=.fields #[.int lo t,.int z u,.int 1 v]}).objs.size,[(s.heap.push {cls:=.type "range",data:=.fields #[.int lo t,.int z u,.int 1 v]}).objs.size],_,_,H,rfl,
  O.kept (t':=tk) λb o e=>Mk _ e,bZ _ lo (z-lo).toNat,?_,λb f=>?_,q⟩
 ·have a:lo+((0:Nat):Int)*1=lo:=by simp
  have d:(((z-lo).toNat:Nat):Int)-((0:Nat):Int)=Builtin.Range.rangeSize lo z 1:=by rw[rangeSize_one];split<;>lia
  show IsRangeIter _ _ (lo+((0:Nat):Int)*1) ((((z-lo).toNat:Nat):Int)-((0:Nat):Int)) 1;rw[a,d];exact My _ rfl
 ·have e:b=(s.heap.push {cls:=.type "range",data:=.fields #[.int lo t,.int z u,.int 1 v]}).objs.size:=by simpa using f
  subst e;exact O.B6 (Mq _)<|O.eH.fresh<|Mq _
def Hu(z:TA):TI:=λd H R=>z d H λb a=>∃j:Int,b=[.int j]/\ -(2^62)<=j/\j<2^62/\R (M8 0 j.toNat) a
def Hr(z:TA):TI:=λd H R=>z d H λb a=>∃i j:Int,b=[.int i,.int j]/\(-(2^62)<=i/\i<2^62/\ -(2^62)<=j/\j<2^62)/\R (M8 i (j-i).toNat) a
theorem gH{a:eo}{z:TA}{p pos:e8}(U:Gl X "range")(hm:X.mg "range" = da)(ha:PA X [a] z)(hs:eJ [a] X.env=[(di,eh a X.env)]:=by rfl):PI X tg (.Call (.Name "range" p) [a] [] pos) (Hu z):=by
 intro b s i H R I h;refine DC<|xQ I U hm boot_range<|Nc (fe (ha pos b s i H _ I h) λm l Y=>?_) hs rfl;obtain⟨n,k,Z,f,O⟩:=Y;obtain⟨j,e,O,d,q⟩:=O;subst e;cases f with
 |cons r g=>
  cases g;obtain⟨t,rfl⟩:=r;exact call_range_1 (aG Z ⋯ ⋯ O d<|by simpa using q)
theorem gG(Z:Gl X "range")(hm:X.mg "range" = da)(z:PA X [a,b] ta)(hs:eJ [a,b] X.env=[(di,eh a X.env),(di,eh b X.env)]:=by rfl)(Y:eJ [b] X.env=[(di,eh b X.env)]:=by rfl):
 PI X tg (.Call (.Name "range" p) [a,b] [] pos) (Hr ta):=by
 intro d s u H R I h;refine DC (xQ I Z hm boot_range<|Nc (fe (z pos d s u H _ I h) λA x g=>?_) (by rw[hs,Y])<|by rw[Y];rfl);obtain⟨B,w,f,o,O⟩:=g;obtain⟨i,j,e,⟨O,k,l,m⟩,q⟩:=O;subst e;cases o with
 | cons r U=>
  cases U with
  |cons n U=>
   cases U;obtain⟨t,rfl⟩:=r;obtain⟨y,rfl⟩:=n;exact call_range_2<|aG f O k l m q
def Lx(Y:TI)(g:TG)(z:TS):TS:=λD a H=>Y a H λJ e=>∃W:Nat->Nat->St->Hp->Prop,(∃m,W 0 m a e)/\∀i m a H,W i m a H->
 (J.stop i H/\D.nx a H)\/(J.go i H/\∃N:St->Hp->Prop,(∀I b,N I b->∃d,d<m/\W (i+1) d I b)/\∀x b,J.DB i H x b->g x a b λO f=>z {D with nx:=N,ct:=N,bk:=D.nx} O f)
def Y9(fp:List dt)(h:et):List (dt×i5):=fp.filterMap λb=>(h.get? b).map λo=>(b,o)
theorem wO(I:b∈fp)(e:h.get? b=cq o):(b,o)∈Y9 fp h:=RX.mpr ⟨b,I,by rw[e];rfl⟩
theorem gW(I:p∈Y9 fp h):p.1∈fp/\h.get? p.1=cq p.2:=by
 obtain⟨b,O,e⟩:=RX.mp I;cases q:h.get? b with
 |none=>rw[q]at e;cases e
 |some o=>
  rw[q]at e;have U:(b,o)=p:=Nz e;subst U;exact⟨O,q⟩
theorem Inv.pinned(I:Inv X pins σ H s)(hf:∀b∈fp,Zg X pins H b)(Y:∀b∈fp,∃o,s.heap.get? b=cq o/\∀v,o.data ≠ .cell v):Inv X (pins++Y9 fp s.heap) σ H s:=
 I.T3 λp Z=>(PY.mp Z).elim (λz=>I.pin p<|MH _ z) λz=>by obtain⟨O,e⟩:=gW z;obtain⟨a,f1,f2,_⟩:=hf p.1 O;obtain⟨o,U,d⟩:=Y p.1 O;rw[e]at U;cases U;exact⟨e,a,f1,f2,d⟩
theorem Inv.P0(I:Inv X (pins++pl) σ H s):Inv X pins σ H s:=I.T3 λp O=>I.pin p<|MH _<|SW _ O
theorem rq(z:Uz (ef X.prog X.w) X.A X.env X.xe)(hc:X.calm=cI)(hi:PI X tg iter wi)(hg:PG X tg g)(O:r0 X body tb)
 (hs:∀x,tf iter X.env x=pure x:=by intro _;rfl):PS X (.For tg iter body [] pos) (Lx wi g tb):=by
 intro a s σ H D I h;refine wpAny_For (fe (hi a s σ H _ I h) λv s1 h1=>fe h1 λc4 s2 h2=>?_) hs;obtain⟨it,y,tn,J,H2,e,I2,T,b2,f2,W,⟨m0,w0⟩,b5⟩:=h2;subst e;have F:∀{l:Hp},(∀b∈y,l b=da)->∀b∈y,Zg X a l b:=λhn b O=>⟨hn b O,(f2 b O).2⟩;refine codeAny_forLoop_any (λn s'=>∃i j l,Inv X a j l s'/\tn i s'.heap/\(∀b∈y,l b=da)/\W i n j l) ?_ m0 ⟨0,σ,H2,I2,b2,λb O=>(f2 b O).1,w0⟩;rintro n s3 ⟨i,k,E,Q,R,S,w3⟩;rcases b5 i n k E w3 with⟨C,qn⟩|⟨go,N,hN,step⟩
 ·refine Sh z (fe (T.done X rfl rfl rfl hc i a s3 k E X.xe Q (F S) R C) λr s4 t=>?_)
  obtain⟨K,I4⟩:=t;subst K;exact To ⟨k,E,I4,qn⟩
 ·refine Sh z (fe (T.item X rfl rfl rfl hc i a s3 k E X.xe Q (F S) R go) λr s4 t=>?_)
  obtain⟨u,K,h4⟩:=t;subst K;refine Sh z<|fe h4 λ_ s5 t=>?_;obtain⟨x,P,I5,r5,y5,G,bl⟩:=t;have bn:=I5.pinned (F bl)<|T.obj _ _ G;refine Sh z<|fe (hg _ s5 k P x u _ bn r5<|step x P y5) λ_ s6 t=>?_;obtain⟨M,H6,I6,q6⟩:=t;refine Sh z<|fe (O _ s6 M H6 _ I6 q6) λf L p=>?_;have again:∀{U:St} {Y:Hp},Inv X (a++Y9 y s5.heap) U Y L->N U Y->∃m,m<n/\∃i j l,Inv X a j l L/\tn i L.heap/\(∀b∈y,l b=da)/\W i m j l:=λ{U Y} Z B=>by obtain⟨m',hm,w7⟩:=hN U Y B;refine⟨m',hm,i+1,U,Y,Z.P0,T.keep _ _ _ G λb O o e=>(Z.pin (b,o)<|MH _<|MH _<|wO O e).1,λb O=>?_,w7⟩;obtain⟨o,e,d⟩:=T.obj _ _ G b O;exact(Z.pin (b,o)<|MH _<|MH _<|wO O e).2.1
  cases f with
  |next=>obtain⟨U,Y,Z,B⟩:=p;exact again Z B
  |cont=>obtain⟨U,Y,Z,B⟩:=p;exact again Z B
  |brk=>obtain⟨U,Y,Z,p⟩:=p;exact⟨U,Y,Z.P0,p⟩
  |ret v=>obtain⟨x7,U,Y,Z,r7,p⟩:=p;exact⟨x7,U,Y,Z.P0,r7,p⟩
end
abbrev R2:=V->V->Hp->VK->Prop
def jl(X:Cx)(f:dy->dy->l6 dy)(r:R2):Prop:=
 ∀(a:UQ) (s:d9) (b:St) (H:Hp) (x y:V) (v u:dy) (Q:VK),Inv X a b H s->RelV x v->RelV y u->r x y H Q->
  wpAny (ef X.prog X.w) X.A (f v u) (EP X a b Q) X.xe s
def UA(X:Cx)(f:dy->l6 dy)(r:V->Hp->VK->Prop):Prop:=
 ∀(a:UQ) (s:d9) (b:St) (H:Hp) (x:V) (v:dy) (Q:VK),Inv X a b H s->RelV x v->r x H Q->
  wpAny (ef X.prog X.w) X.A (f v) (EP X a b Q) X.xe s
def XH(X:Cx)(f:dy)(r:List V->Hp->VK->Prop):Prop:=
 ∀(a:UQ) (s:d9) (e:St) (H:Hp) (d:List V) (b:List dy) (Q:VK),Inv X a e H s->ft d b->r d H Q->
  wpAny (ef X.prog X.w) X.A (call f b) (EP X a e Q) X.xe s
def LW(X:Cx)(r:V->Hp->(Bool->Hp->Prop)->Prop):Prop:=
 ∀(a:UQ) (s:d9) (b:St) (H:Hp) (x:V) (v:dy) (Q:Bool->Hp->Prop),Inv X a b H s->RelV x v->r x H Q->
  wpAny (ef X.prog X.w) X.A (Pt v) (TP X a b Q) X.xe s
def O8(r:R2)(z I:TE):TE:=λa H Q=>z a H λx b=>I a b λy d=>r x y d Q
def G?(r:V->Hp->VK->Prop)(z:TE):TE:=λb H Q=>z b H λx a=>r x a Q
def rI(C:Int->Int->Prop)(g:Int->Int->V):R2:=λx y H Q=>∃i j,x=.int i/\y=.int j/\C i j/\Q (g i j) H
def t8(g:Int->Int->V):R2:=λx y H Q=>∃i j,x=.int i/\y=.int j/\Q (g i j) H
def rU(g:Int->V):V->Hp->VK->Prop:=λx H Q=>∃i,x=.int i/\Q (g i) H
section
variable{X:Cx}{a b:eo}{ta tb:TE}{pos:e8}
theorem HH(ha:PE X a ta)(U:PE X b tb){z:UQ}{s:d9}{σ:St}{H:Hp}{R:V->V->Hp->Prop}(I:Inv X z σ H s)
 (h:ta σ H λx H1=>tb σ H1 λy H2=>R x y H2) {Q:EQ} {f:dy->dy->l6 dy}
 (hf:∀v u s2 x y H2,Inv X z σ H2 s2->RelV x v->RelV y u->R x y H2->wpAny (ef X.prog X.w) X.A (f v u) Q X.xe s2):
 wpAny (ef X.prog X.w) X.A (eh a X.env) (λv Y=>wpAny (ef X.prog X.w) X.A (eh b X.env) (λu Z=>wpAny (ef X.prog X.w) X.A (f v u) Q X.xe Z) X.xe Y) X.xe s:=by
 refine fe (ha z s σ H _ I h) λv l O=>?_;obtain⟨x,H1,d,j,g⟩:=O;refine fe (U z l σ H1 _ d g) λu s2 O=>?_;obtain⟨y,H2,e,k,i⟩:=O;exact hf v u s2 x y H2 e j k i
theorem nL{O:Operator}{r:R2}(U:jl X (wb O) r)(z:PE X a ta)(Y:PE X b tb):PE X (.BinOp a O b pos) (O8 r ta tb):=by intro d s j H Q I h;exact wpAny_BinOp<|HH z Y I h λv u i x y e Z f g q=>U d i j e x y v u Q Z f g q
theorem Hc(O:UA X (unaryOp op) r)(z:PE X a ta):PE X (.UnaryOp op a pos) (G? r ta):=by intro b s d H Q I h;exact UnaryOp_<|fe (z b s d H _ I h) λv f ⟨x,e,U,Y,Z⟩=>O b f d e x v Q U Y Z
theorem Tq{f:dy->dy->l6 dy}{C:Int->Int->Prop}{g:Int->Int->Int}
 (rule:∀(i j:Int) (t u:o6) (s:d9) (Q:EQ) (E:EQ),C i j->Q (.int (g i j) s.toks) {s with toks:=s.toks+1}->wpAny (ef X.prog X.w) X.A (f (.int i t)<|.int j u) Q E s):
 jl X f (rI C λi j=>.int (g i j)):=by
 intro a s e H x y v u Q I b O h;obtain⟨i,j,rfl,rfl,U,q⟩:=h;obtain⟨t,rfl⟩:=b;obtain⟨d,rfl⟩:=O;exact rule i j t d s _ _ U ⟨.int<|g i j,H,I.tok _,⟨_,rfl⟩,q⟩
theorem IJ{f:dy->dy->l6 dy}{g:Int->Int->Int}
 (rule:∀(i j:Int) (t u:o6) (s:d9) (Q:EQ) (E:EQ),Q (.int (g i j) s.toks) {s with toks:=s.toks+1}->wpAny (ef X.prog X.w) X.A (f (.int i t)<|.int j u) Q E s):
 jl X f (t8 λi j=>.int (g i j)):=by
 intro a s e H x y v u Q I b O h;obtain⟨i,j,rfl,rfl,q⟩:=h;obtain⟨t,rfl⟩:=b;obtain⟨d,rfl⟩:=O;exact rule i j t d s _ _ ⟨.int<|g i j,H,I.tok _,⟨_,rfl⟩,q⟩
theorem Fz{f:dy->dy->l6 dy}{g:Int->Int->Bool}
 (rule:∀(i j:Int) (t u:o6) (s:d9) (Q:EQ) (E:EQ),Q (.bool<|g i j) s->wpAny (ef X.prog X.w) X.A (f (.int i t)<|.int j u) Q E s):
 jl X f (t8 λi j=>.bl (g i j)):=by
 intro a s e H x y v u Q I b O h;obtain⟨i,j,rfl,rfl,q⟩:=h;obtain⟨t,rfl⟩:=b;obtain⟨d,rfl⟩:=O;exact rule i j t d s _ _ ⟨.bl<|g i j,H,I,rfl,q⟩
def Lk(i j:Int):Prop:=0<j/\j<1073741824
def Lj(i j:Int):Prop:=0<=j/\j<=1000000/\i.natAbs<2^64
def FI(i j:Int):Prop:=(-(2^64)<i/\i<2^64)\/(-(2^64)<j/\j<2^64)
theorem FI.ok(h:FI i j):IntMulOk i j:=by
 rcases h with⟨a,I⟩|⟨a,I⟩
 ·exact .of_left<|intBits_le_64 a I
 ·exact .of_right<|intBits_le_64 a I
theorem v?:jl X (wb .Add) (t8 λi j=>.int (i+j)):=IJ λ_ _ _ _ _ _ _ q=>add_int q
theorem CV:jl X (wb .Sub) (t8 λi j=>.int (i-j)):=IJ λ_ _ _ _ _ _ _ q=>sub_int q
theorem w?:jl X (wb .Mult) (rI FI λi j=>.int (i*j)):=Tq λ_ _ _ _ _ _ _ I q=>mul_int q I.ok
theorem uJ:jl X (wb .FloorDiv) (rI Lk λi j=>.int (i/j)):=Tq λi j _ _ _ _ _ I q=>by have a:(0:Int)<j:=I.1;have O:j<1073741824:=I.2;exact floordiv_int ⋯ (by rw[Int.fdiv_eq_ediv_of_nonneg i ⋯];exact q)<|.inl<|PyProof.noPylong_small ⋯
theorem Eb:jl X (wb .Mod) (rI (λ_ j=>0<j) λi j=>.int (i%j)):=Tq λi j _ _ _ _ _ I q=>by have a:(0:Int)<j:=I;exact mod_int' ⋯ (by rw[Int.fmod_eq_emod_of_nonneg i ⋯];exact q)
theorem CZ:jl X (wb .Pow) (rI Lj λi j=>.int (i^j.toNat)):=Tq λ_ _ _ _ _ _ _ I q=>pow_int_small I.1 I.2.1 I.2.2 q
theorem K?{f:dy->l6 dy}{g:Int->Int}
 (rule:∀(i:Int) (t:o6) (s:d9) (Q:EQ) (E:EQ),Q (.int (g i) s.toks) {s with toks:=s.toks+1}->wpAny (ef X.prog X.w) X.A (f<|.int i t) Q E s):
 UA X f (rU λi=>.int (g i)):=by
 intro a s d H x v Q I b h;obtain⟨i,rfl,q⟩:=h;obtain⟨t,rfl⟩:=b;exact rule i t s _ _ ⟨.int<|g i,H,I.tok _,⟨_,rfl⟩,q⟩
theorem Bx:UA X (unaryOp .USub) (rU λi=>.int (-i)):=K? λ_ _ _ _ _ q=>neg_int q
end
section
variable{X:Cx}{a b c:eo}{ta tb tc:TE}{pos:e8}
theorem rR(I:Inv X pins σ H s)(q:Q (.bl k) H)(e:k=k'):EP X pins σ Q (.bool k') s:=by subst e;exact⟨.bl k,H,I,rfl,q⟩
theorem Ec:jl X (ri .Lt) (t8 λi j=>.bl (decide<|i<j)):=Fz λ_ _ _ _ _ _ _ q=>lt_int q
theorem He:jl X (ri .LtE) (t8 λi j=>.bl (decide<|i<=j)):=Fz λ_ _ _ _ _ _ _ q=>le_int q
theorem Hf:jl X (ri .Gt) (t8 λi j=>.bl (decide<|j<i)):=Fz λ_ _ _ _ _ _ _ q=>gt_int q
theorem Ee:jl X (ri .GtE) (t8 λi j=>.bl (decide<|j<=i)):=Fz λ_ _ _ _ _ _ _ q=>ge_int q
theorem Ed:jl X (ri .Is) (λx y H Q=>y=.ej/\Q (.bl<|decide<|x=.ej) H):=by
 intro a s d H x y v u Q I b O h;obtain⟨rfl,q⟩:=h;cases O;refine is_none_gen<|rR I q ?_;cases x<;>first
  |(cases b;rfl)
  |(obtain⟨t,rfl⟩:=b;rfl)
theorem uH:jl X (ri .IsNot) (λx y H Q=>y=.ej/\Q (.bl<|!decide (x=.ej)) H):=by
 intro a s d H x y v u Q I b O h;obtain⟨rfl,q⟩:=h;cases O;refine isnot_none_gen<|rR I q ?_;cases x<;>first
  |(cases b;rfl)
  |(obtain⟨t,rfl⟩:=b;rfl)
def Ho:HO->Bool
 |.lst _=>cI
 |.ins _ _ _=>cI
 |_=>di
theorem yK{Y:UQ}{s:d9}{Z:St}{H:Hp}{a:dt}{o:HO}(I:Inv X Y Z H s)(h:H a=cq o)(p:Ho o=cI):∃O,s.heap.get? a=cq O/\O.cls ≠ .type "tuple":=by
 cases o with
 |lst d=>
  obtain⟨_,b,n,_,e⟩:d.length<=fh/\∃(b:List dy) (n:Nat),ft d b/\s.heap.get? a=cq {cls:=.type "list",data:=.seq b.toArray n}:=I.eH a _ h;exact⟨_,e,(by show Oc "list" ≠ .type "tuple";decide +kernel)⟩
 |ins C f fs=>
  have x:=I.eH a _ h;obtain⟨_,_,_,e,_⟩:=x;exact⟨_,e,(by show MP C ≠ .type "tuple";exact λz=>by cases z)⟩
 |_=>exact absurd (show di=cI from p) MJ
theorem jl.or(h:jl X f r)(h':jl X f r'):jl X f (λx y H Q=>r x y H Q\/r' x y H Q):=by
 intro a s d H x y v u Q I b O q;rcases q with q|q
 ·exact h a s d H x y v u Q I b O q
 ·exact h' a s d H x y v u Q I b O q
theorem ZK(b:eo)(h:op ≠ .In:=by decide)(I:op ≠ .NotIn:=by decide):B1 op b=di:=by
 have a:(op==CmpOp.In)=di:=by cases op<;>first|rfl|exact absurd rfl h
 have O:(op==CmpOp.NotIn)=di:=by cases op<;>first|rfl|exact absurd rfl I
 cases b<;>simp[B1,a,O]
theorem gK{O:CmpOp}{r:R2}(U:jl X (ri O) r)(z:PE X a ta)(Y:PE X b tb)(hm:B1 O b=di):PE X (.Compare a [O] [b] pos) (O8 r ta tb):=by intro d s j H Q I h;exact wpAny_Compare1 (HH z Y I h λv u i x y e Z f g q=>U d i j e x y v u Q Z f g q) hm
def GB(t:TE):TT:=λb H Q=>t b H λx a=>∃k,x=.bl k/\Q k a
theorem gr(O:jl X (ri op) r)(ha:PE X a ta)(U:PE X b tb)(hm:B1 op b=di):PT X (.Compare a [op] [b] pos) (GB<|O8 r ta tb):=by
 intro d s f H Q I h;refine P? (fe (ha d s f H _ I h) λv A ⟨x,g,Y,Z,n⟩=>fe (U d A f g _ Y n) λu B ⟨y,i,l,t,o⟩=>
  fe (O d B f i x y v u _ l Z t o) λc C ⟨z,j,m,w,k,e,p⟩=>?_) hm
 subst e;cases w;exact OG ⟨j,m,p⟩
def BE(r Y:R2)(ta tb tc:TE):TE:=λa H Q=>ta a H λx b=>tb a b λy d=>r x y d λz I=>∃k,z=.bl k/\
 (if k=cI then tc a I λe O=>Y y e O Q else Q (.bl di) I)
theorem nN(Z:jl X (ri op) r)(a1:jl X (ri O4) r')(ha:PE X a ta)(hb:PE X b tb)(hc:PE X c tc)
 (hm:lastMarks [op,O4] [b,c]=di:=by with_unfolding_all rfl):PE X (.Compare a [op,O4] [b,c] pos) (BE r r' ta tb tc):=by
 intro f s g H Q I h;refine Compare_chain (fe (ha f s g H _ I h) λv F ⟨x,j,n,B,t⟩=>chain_link (fe (hb f F g j _ n t) λu G ⟨y,l,o,i,w⟩=>
  fe (Z f G g l x y v u _ o B i w) λd J ⟨z,O,U,C,k,e,Y⟩=>?_)) hm
 subst e;cases C;refine OG ?_;cases k with
 |false=>exact ite_ff ⟨.bl di,O,U,rfl,Y⟩
 |true=>exact ite_tt<|chain_last<|fe (hc f J g O _ U Y) λL K ⟨M,m,p,E,A⟩=>a1 f K g m y M u L Q p i E A
def Lf(K:Mj)(x:V)(H:Hp)(k:Bool):Prop:=
 match x with
 |.ej=>k=di
 |.bl b=>k=b
 |.int i=>k=(i != 0)
 |.str y=>y.length<=fh/\k=((y.length:Int) != 0)
 |.N7 y=>y.size<=fh/\k=((y.size:Int) != 0)
 |.ref p=>(∃d,gE K H p d/\k = !d.isEmpty)\/(∃d,gR K H p d/\k = !d.isEmpty)\/∃a,H p=cq (.dK a)/\k = !a.isEmpty
 |_=>False
theorem dH(r:KV kA vs):(!vs.isEmpty) = !kA.isEmpty:=by cases r<;>rfl
theorem Kv(r:ft xs its):(!its.toArray.isEmpty) = !xs.isEmpty:=by cases r<;>simp
theorem Xd:(fh:Nat)<2^63:=by rw[OJ];decide
theorem By:LW X (λx H Q=>∃k,Lf X.K x H k/\Q k H):=by
 intro o s B H x v Q I f h;obtain⟨k,e,q⟩:=h;have z:=Xd;have A:fh=16777216:=OJ;cases x with
 |ej=>
  cases f;have O:k=di:=e;subst O;exact truthy_none ⟨H,I,q⟩
 |bl b=>
  cases f;have O:k=b:=e;subst O;exact OG ⟨H,I,q⟩
 |int i=>
  obtain⟨t,rfl⟩:=f;have O:k=(i != 0):=e;subst O;exact PySem.P.truthy_int ⟨H,I,q⟩
 |str y=>
  obtain⟨t,rfl⟩:=f;obtain⟨Z,O⟩:y.length<=fh/\k=((y.length:Int) != 0):=e;subst O;exact PySem.P.truthy_str ⋯ ⟨H,I.tok _,q⟩
 |N7 y=>
  obtain⟨t,rfl⟩:=f;obtain⟨Z,O⟩:y.size<=fh/\k=((y.size:Int) != 0):=e;subst O;exact PySem.W.truthy_bytes ⋯ ⟨H,I.tok _,q⟩
 | ref p=>
  cases f;have O:(∃d,gE X.K H p d/\k = !d.isEmpty)\/(∃d,gR X.K H p d/\k = !d.isEmpty)\/∃a,H p=cq (.dK a)/\k = !a.isEmpty:=e;rcases O with⟨d,g,O⟩|⟨d,g,O⟩|⟨a,g,O⟩
  ·subst O
   obtain⟨l,r,U,n⟩:=I.list g;have Y:=r.length;exact wpAny_truthy_list U.isList (by simp only[Ms];lia) ⟨H,I.tok _,by rw[Kv r];exact q⟩
  ·subst O
   obtain⟨l,r,U,n⟩:=I.tuple g;have Y:=r.length;exact truthy_tuple U (by simp only[Ms];lia) ⟨H,I.tok _,by rw[Kv r];exact q⟩
  ·subst O
   obtain⟨n,u,j,r,m⟩:a.length<=fh/\(p==Dy)=di/\∃j,KV a j/\s.heap.DictOf (xU X.prog X.w) p j:=I.eH p _ g;have Y:a.length=j.length:=Paired.length r;exact wpAny_truthy_dict u m ⋯ ⟨H,I.tok _,by rw[dH r];exact q⟩
 |_=>exact(show False from e).elim
theorem nt(ha:PE X a ta)(U:∀O,D8 a X.env O=(do let v<-O;E8 a.pos;C7 [v] (Pt v))):
 PT X a (λz H Q=>ta z H λx H'=>∃k,Lf X.K x H' k/\Q k H'):=by
 intro b s z H Q I h;exact isTrue_plain (fe (ha b s z H _ I h) λv f ⟨x,d,Y,Z,e⟩=>By b f z d x v Q Y Z e)<|U _
theorem dc:jl X (wb .Add) (λx y H Q=>∃i j,x=.str i/\y=.str j/\i.length+j.length<=fh/\Q (.str<|i++j) H):=by intro a s g H x y v u Q I d O h;obtain⟨i,j,rfl,rfl,b,q⟩:=h;obtain⟨t,rfl⟩:=d;obtain⟨e,rfl⟩:=O;exact add_str (λe f=>⟨.str<|i++j,H,I.tok _,⟨_,rfl⟩,q⟩) b
theorem yU(r:ft [x] us):∃u,us=[u]/\RelV x u:=by
 cases r with
 |cons I a=>cases a;exact⟨_,rfl,I⟩
theorem mC(r:ft [x,y] us):∃u w',us=[u,w']/\RelV x u/\RelV y w':=by
 cases r with
 |cons I a=>
  cases a with
  |cons O U=>cases U;exact⟨_,_,rfl,I,O⟩
theorem lO(U:X.calm=cI):XH X (.builtin "max") (λxs H Q=>∃i j,xs=[.int i,.int j]/\Q (.int (if j>i then j else i)) H):=by
 intro a s l H xs f Q I r h;obtain⟨i,j,rfl,q⟩:=h;obtain⟨u,g,rfl,⟨t,rfl⟩,⟨d,rfl⟩⟩:=mC r;refine max_two_ints (I.ok.hd U) λb e k=>⟨_,H,I.kept k,?_,q⟩;by_cases O:j>i
 ·rw[UJ O,UJ O];exact⟨_,rfl⟩
 ·rw[UY O,UY O];exact⟨_,rfl⟩
theorem lN(U:X.calm=cI):XH X (.builtin "min") (λxs H Q=>∃i j,xs=[.int i,.int j]/\Q (.int (if j<i then j else i)) H):=by
 intro a s l H xs f Q I r h;obtain⟨i,j,rfl,q⟩:=h;obtain⟨u,g,rfl,⟨t,rfl⟩,⟨d,rfl⟩⟩:=mC r;refine min_two_ints (I.ok.hd U) λb e k=>⟨_,H,I.kept k,?_,q⟩;by_cases O:j<i
 ·rw[UJ O,UJ O];exact⟨_,rfl⟩
 ·rw[UY O,UY O];exact⟨_,rfl⟩
theorem lP:XH X (.type "int") (λxs H Q=>(∃i,xs=[.int i]/\Q (.int i) H)\/∃k,xs=[.bl k]/\Q (.int (if k then 1 else 0)) H):=by
 intro a s d H xs b Q I r h;rcases h with⟨i,rfl,q⟩|⟨k,rfl,q⟩
 ·obtain⟨u,rfl,t,rfl⟩:=yU r
  exact call_int_int ⟨.int i,H,I,⟨_,rfl⟩,q⟩
 ·obtain⟨u,rfl,O⟩:=yU r
  cases O;exact call_int_bool ⟨.int<|if k then 1 else 0,H,I.tok _,⟨_,rfl⟩,q⟩
end
structure Ux(h:et)(x dx C:dt)(mA:UZ):Prop where
 obj:h.get? x=cq (PySem.W.instObj C dx)
 ns:h.Ns1 dx mA
 ne:dx≠x
theorem ia{h:et}{dx:dt}{mA:UZ}(n:h.Ns1 dx mA):∃od,h.get? dx=cq od/\∀name,PySem.W.lookIn name od=cq (mA name):=by
 obtain⟨o,b,g,I,d,O,_,f⟩:=n;refine⟨o,I,λname=>?_⟩;have e:=f name;unfold nsFind findBy at e;rw[<-Array.find?_toList]at e;unfold PySem.W.lookIn;rw[d];dsimp only;split
 ·rename_i y q
  rw[q]at e;exact congrArg cq e
 ·rename_i q
  rw[q]at e;have a:b.toList.any (·.refKey)=di:=by rw[List.any_eq_false];intro y U;obtain⟨z,t,Y⟩:=O y<|Array.mem_toList_iff.mp U;simp[DictEntry.refKey,Y]
  have Z:¬b.toList.any (·.refKey)=cI:=by rw[a];exact MJ
  rw[UY Z];exact congrArg cq e
theorem Ux.look(I:Ux h x dx C mA):∃od,PySem.W.InstAt h x (PySem.W.instObj C dx) C (cq od)/\∀name,PySem.W.lookIn name od=cq (mA name):=
 let ⟨od,O,U⟩:=ia I.ns
 ⟨od,⟨I.obj,rfl,rfl,O⟩,U⟩
def GW(f:Str)(v:V):List (Str×V)->List (Str×V)
 |[]=>[(f,v)]
 |(g,x)::r=>if g=f then (g,v)::r else (g,x)::GW f v r
theorem A9.some_of(r:A9 (cq v) o):∃u,o=cq u/\RelV v u:=by
 cases o with
 |none=>exact(show False from r).elim
 |some u=>exact⟨u,rfl,r⟩
section
variable{P:f9}{w:f6}{H:Hp}{h:et}{a C dx:dt}{fs:List (Str×V)}
theorem Ae(O:kv P w H h)(e:H a=cq (.ins C dx fs)):∃mA,Ux h a dx C mA/\(∀f,A9 (fs.lookup f)<|mA f)/\TN mA (fs.map (·.1))/\fs.length<=1000/\H dx=cq (.own a):=by obtain⟨d,z,b,I,mA,n,r,q⟩:=(show ir P w H h a (.ins C dx fs)from O a _ e);exact⟨mA,⟨I,n,b⟩,r,q,z,d⟩
end
structure P4(K:Mj)(C:dt):Prop where
 pg:TH K C Str.empty=cI
 hd:PySem.W.hasDictIn K C=cI
 po:PySem.W.plainOver K C=cI
 zab:NP K (.ref C) "__setattr__" = cq (cq (.builtin "object.__setattr__"))
theorem P4.get{K:Mj}{C:dt}(c:P4 K C)(f:Str):TH K C f=cI:=c.pg
section
variable{s:d9}{f:Str}{A:ij}{E:EQ}
theorem AK(I:DJ e f env (eh e env)=eh e env)
 (h:wpAny (ef prog w) A (eh e env) (λo O=>wpAny (ef prog w) A (getAttr o f cI) Q E O) E s):wpAny (ef prog w) A (eh (.Attribute e f pos) env) Q E s:=
 Attribute_any_ h (by rw[arm_eval_Attribute,I])
end
section
variable{X:Cx}{pins:UQ}{σ:St}{H:Hp}{s:d9}{A:ij}{E:EQ}{Q:EQ}{c:dy}{b:Bool}
inductive wa(K:Mj)(H:Hp):V->dy->Prop where
 |ej:wa K H .ej (.type "NoneType")
 |bl (x:Bool):wa K H (.bl x) (.type "bool")
 |int (i:Int):wa K H (.int i) (.type "int")
 |str (x:Str):wa K H (.str x) (.type "str")
 |Jf (x:UInt64):wa K H (.Jf x) (.type "float")
 |lst {a:dt} {xs:List V} (e:H a=cq (.lst xs)):wa K H (.ref a) (.type "list")
 |rn {a:dt} {o:i5} {xs:List V} (e:H a=cq (.rn o (.lst xs))):wa K H (.ref a) (.type "list")
 |tup {a:dt} {xs:List V} (e:H a=cq (.tup xs)):wa K H (.ref a) (.type "tuple")
 |dK {a:dt} {kA:List (Key×V)} (e:H a=cq (.dK kA)):wa K H (.ref a) (.type "dict")
 |dT {a:dt} {kA:List (List Key×V)} (e:H a=cq (.dT kA)):wa K H (.ref a) (.type "dict")
 |ins {a C dx:dt} {fs:List (Str×V)} (e:H a=cq (.ins C dx fs)) (cl:P4 K C) (ha:NP K (.ref C) "__class__" = cq (cq (.builtin "object.__class__")))
  (hn:Rf K (.builtin "object.__class__") "__get__" = cq (cq (.builtin "getset_descriptor.__get__"))) (X?:PySem.W.takesIn K (.builtin "object.__class__")=cq cI)
  (hm:yg K C (.type "object")=cq cI):wa K H (.ref a) (.ref C)
theorem iE(I:Inv X pins σ H s)(rx:RelV x u)(ty:wa X.K H x t)(e:NT X.K t c=cq b)(h:∀tk,Q (.bool b) {s with toks:=tk}):
 wpAny (ef X.prog X.w) A (call (.builtin "isinstance") [u,c]) Q E s:=by
 cases ty with
 |ej=>cases (show u=NI from rx);exact Nd PySem.W.kitx_none I.iv OK e (λz=>nomatch z) h
 |bl y=>cases (show u=Value.bool y from rx);exact Nd PySem.W.kitx_bool I.iv OK e (λz=>nomatch z) h
 |int i=>obtain⟨t,q⟩:=(show ∃t,u=Sn i t from rx);cases q;exact Nd PySem.W.kitx_int I.iv OK e (λz=>nomatch z) h
 |str y=>obtain⟨t,q⟩:=(show ∃t,u=Ts y t from rx);cases q;exact Nd PySem.W.kitx_str I.iv OK e (λz=>nomatch z) h
 |Jf y=>obtain⟨t,q⟩:=(show ∃t,u=Value.float y t from rx);cases q;exact Nd PySem.W.kitx_float I.iv OK e (λz=>nomatch z) h
 |@lst a g U=>
  cases (show u=MP a from rx);obtain⟨_,_,n,_,d⟩:=(show ir X.prog X.w H s.heap a (.lst g)from I.eH a _ U);exact Nd Tu I.iv ⟨_,d,rfl⟩ e (λz=>nomatch z) h
 |@rn a Z g U=>
  cases (show u=MP a from rx);obtain⟨_,_,_,n,_,d⟩:=(show ir X.prog X.w H s.heap a (.rn Z<|.lst g)from I.eH a _ U);exact Nd Tu I.iv ⟨_,d,rfl⟩ e (λz=>nomatch z) h
 |@tup a g U=>
  cases (show u=MP a from rx);obtain⟨_,_,_,p⟩:=(show ir X.prog X.w H s.heap a (.tup g)from I.eH a _ U);obtain⟨o,d,Y,_⟩:=p;exact Nd PySem.W.kitx_tuple I.iv ⟨o,d,(Prod.mk.inj Y).1⟩ e (λz=>nomatch z) h
 |@dK a f U=>
  cases (show u=MP a from rx);obtain⟨_,_,N,_,p⟩:=(show ir X.prog X.w H s.heap a (.dK f)from I.eH a _ U);obtain⟨o,m,l,d,Y,_⟩:=p;exact Nd RU I.iv ⟨o,d,Y.1⟩ e (λz=>nomatch z) h
 |@dT a f U=>
  cases (show u=MP a from rx);obtain⟨_,_,g,_,o,m,l,d,Y,_⟩:=(show ir X.prog X.w H s.heap a (.dT f)from I.eH a _ U);exact Nd RU I.iv ⟨o,d,Y.1⟩ e (λz=>nomatch z) h
 |@ins a C G fs U k r F j B=>
  cases (show u=MP a from rx);obtain⟨L,O,_⟩:=Ae I.eH U;obtain⟨M,J,_⟩:=O.look;exact Nd (PySem.W.kitx_own (k.get _) k.hd r F j B) I.iv J e (λz=>nomatch z) h
end
structure m5(k:Nat)(A:ij):Prop where
 hd:A.handled=da
 dp:A.depth+3*k+5<recursionLimit
 un:A.units+16*k+200<Dj
theorem m5.mono(r:m5 k A)(h:j<=k):m5 j A:=⟨r.hd,by have:=r.dp;lia,by have:=r.un;lia⟩
theorem m5.deeper(r:m5 (k+1) A)(env:j1):m5 k (A.deeper env):=
 ⟨r.hd,by have:=r.dp;show A.depth+1+3*k+5<_;lia,by have:=r.un;show A.units+3+16*k+200<_;lia⟩
theorem m5.in1(r:m5 (k+1) A):m5 k A.in1:=
 ⟨r.hd,by have:=r.dp;show A.depth+3*k+5<_;lia,by have:=r.un;show A.units+1+16*k+200<_;lia⟩
theorem dA{A:ij}{C:dt}{us:List dy}{I:List (Str×dy)}:(A.under (.builtin "type.__call__" ⟨.ref C::us,I⟩)).depth=A.depth+1:=by first|rfl|simp[Around.under,Code.weight,Code.isCreation,Code.isGuard,Code.isCaller,Code.frames,Code.isFrame,guardIds]
theorem dz{A:ij}{C:dt}{us:List dy}{I:List (Str×dy)}:(A.under (.builtin "type.__call__" ⟨.ref C::us,I⟩)).units=A.units+1:=by first|rfl|simp[Around.under,Code.cUnits,Code.frames,Code.isFrame]
theorem m5.make(r:m5 (k+1) A)(C:dt)(us:List dy)(I:List (Str×dy)):m5 k (A.under (.builtin "type.__call__" ⟨.ref C::us,I⟩)):=
 ⟨r.hd,by have:=r.dp;rw[dA];lia,by have:=r.un;rw[dz];lia⟩
theorem m5.depth(r:m5 k A):A.depth<recursionLimit:=by have:=r.dp;lia
def IC:TA:=λ_ H Q=>Q [] H
def BD(z:TE)(I:TA):TA:=λa H Q=>z a H λx b=>I a b λe d=>Q (x::e) d
section
variable{X:Cx}{e:eo}{es:List eo}{te:TE}{t:TA}{pos:e8}
theorem qp:PA X [] IC:=λ_ _ _ _ H Q I h=>OV ⟨[],H,I,.nil,h⟩
theorem jq(z:PE X e te)(O:PA X es t)(hs:eJ (e::es) X.env=(di,eh e X.env)::eJ es X.env:=by rfl):PA X (e::es) (BD te t):=by intro pos a s b H Q I h;rw[hs];show wpAny _ _ (B9 ((di,eh e X.env)::n0 pos (eJ es X.env))) _ _ s;refine NQ<|fe (z a s b H _ I h) λu l U=>?_;obtain⟨x,d,Y,Z,i⟩:=U;exact fe (O pos a l b d _ Y i) λo n ⟨m,f,g,k,j⟩=>⟨x::m,f,g,.cons Z k,j⟩
def Lr(t:TA):TE:=λd H Q=>t d H λb a=>b.length<=fh/\∀p,a p=da->Q (.ref p) (upd a p<|.tup b)
def Lv(t:TA):TE:=λd H Q=>t d H λb a=>b.length<=fh/\∀p,a p=da->Q (.ref p) (upd a p<|.lst b)
theorem CD(h:PA X es t):PE X (.Tuple es x1 pos) (Lr t):=by intro a s k H Q I U;refine wpAny_Tuple_spliced<|fe (h pos a s k H _ I U) λi d ⟨j,f,O,r,z,q⟩=>⟨by rw[<-r.length];exact z,?_⟩;have g:f d.heap.objs.size=da:=O.eH.fresh<|Mq _;refine⟨.ref d.heap.objs.size,upd f d.heap.objs.size<|.tup j,O.laid (t':=d.toks) (λb u e=>Mk _ e) (Mq _) ?_,rfl,q _ g⟩;exact⟨z,i,r,⟨_,My _ rfl,rfl,_,rfl⟩⟩
theorem CJ(h:PA X es t):PE X (.List es pos) (Lv t):=by intro a s k H Q I U;refine wpAny_List_spliced<|fe (h pos a s k H _ I U) λi d ⟨j,f,O,r,z,q⟩=>⟨by rw[<-r.length];exact z,?_⟩;have g:f d.heap.objs.size=da:=O.eH.fresh<|Mq _;refine⟨.ref d.heap.objs.size,upd f d.heap.objs.size<|.lst j,O.laid (t':=d.toks) (λb u e=>Mk _ e) (Mq _) ?_,rfl,q _ g⟩;exact⟨z,i,0,r,My _ rfl⟩
end
abbrev Sp:=List V->Hp->VK->XK->Prop
abbrev vt:=List j1->Hp->d9->XK->dy->d9->Prop
structure xC(P:f9)(w:f6)(K:Mj)(mg:UZ)(base:et)(A:ij)(outer:List j1)(s:d9)(H:Hp):Prop where
 frames:A.frames=cq outer
 mod:Mod K mg base
 bs:∀b o,base.get? b=cq o->s.heap.get? b=cq o/\H b=da
 y9:base.objs.size<=s.heap.objs.size
 o8:s.heap.FunFrames base outer
 zt:∀b∈mu outer,H b=da
 eH:kv P w H s.heap
 bare:C9 s.gens
def CE(outer:List j1)(P:f9)(w:f6)(H:Hp)(s:d9)(Q:VK)(u:dy)(s':d9):Prop:=
 ∃v a,s'.os=s.os/\C9 s'.gens/\Un (mu outer) [] H a s.heap s'.heap/\kv P w a s'.heap/\RelV v u/\Q v a
def CR(CX:vt)(outer:List j1)(P:f9)(w:f6)(H:Hp)(s:d9)(Q:VK)(E:XK)(r:Result)(s':d9):Prop:=
 match r with
 |.ok (.ret u)=>CE outer P w H s Q u s'
 |.ok _=>False
 |.error e=>CX outer H s E e s'
structure q5(P:f9)(w:f6)(K:Mj)(mg:UZ)(base:et)(CX:vt)(k:Nat)(f:dt)(fd:q7)(ps:List Str)(sp:Sp):Prop where
 len:∀vs H Q E,sp vs H Q E->vs.length=ps.length
 run:∀(A:ij) (outer:List j1) (s:d9) (H:Hp) (args:Args) (us:List dy) (vs:List V) (Q:VK) (E:XK),m5 k A->xC P w K mg base A outer s H->P2 s fd args (ps.zip us)->ft vs us->sp vs H Q E->
  codeAny (ef P w) A (.call (.ref f) args) (CR CX outer P w H s Q E) s
theorem xC.make{P:f9}{w:f6}{K:Mj}{z:UZ}{base:et}{A:ij}{outer:List j1}{s:d9}{H:Hp}(e:xC P w K z base A outer s H)(C:dt)(us:List dy)(I:List (Str×dy)):
 xC P w K z base (A.under (.builtin "type.__call__" ⟨.ref C::us,I⟩)) outer s H:=⟨by first|exact e.frames|(simpa[Around.under,Code.envs,Code.isFrame,pushEnvs]using e.frames),e.mod,e.bs,e.y9,e.o8,e.zt,e.eH,e.bare⟩
theorem xC.in1{P:f9}{w:f6}{K:Mj}{z:UZ}{base:et}{A:ij}{outer:List j1}{s:d9}{H:Hp}(e:xC P w K z base A outer s H):
 xC P w K z base A.in1 outer s H:=⟨e.frames,e.mod,e.bs,e.y9,e.o8,e.zt,e.eH,e.bare⟩
section
variable{X:Cx}{pins:UQ}{σ:St}{H:Hp}{s s':d9}
theorem Inv.B5(I:Inv X pins σ H s):xC X.prog X.w X.K X.mg X.base X.A X.stack s H:=
 ⟨I.ok.frames,I.ok.mod,I.bs,Nl I.ok.y9 I.sz,I.stack,I.O7,I.eH,I.bare⟩
theorem Inv.after(I:Inv X pins σ H s)(h:CE X.stack X.prog X.w H s Q u s'):EP X pins σ Q u s':=by obtain⟨v,f,os,a,un,e,r,q⟩:=h;obtain⟨O,g,d,t,U⟩:=s';obtain rfl:U=s.os:=os;exact⟨v,f,I.call (h':=O) (g':=g) (d':=d) (t':=t) (ch:=[]) un e a<|λb z=>absurd z ⋯,r,q⟩
end
def sQ(sp:Sp)(z:List V)(E:XK)(t:TA):TE:=λd H Q=>t d H λb a=>sp (b++z) a Q E
def Binds(K:Mj)(z:q7)(ps:List Str)(ds:List dy):Prop:=
 ∀(s:d9) (a:List dy),K.In s.heap->(a++ds).length=ps.length->P2 s z ⟨a,[]⟩ (ps.zip<|a++ds)
theorem Binds.all{K:Mj}{z:q7}{ps:List Str}(h:∀us:List dy,us.length=ps.length->R6 z ⟨us,[]⟩=pure (ps.zip us)):Binds K z ps []:=λs us _ I=>by rw[Ra]at I ⊢;exact .of_eq<|h us I
def md(CX:vt)(X:Cx)(E:XK):Prop:=∀(a:UQ) (d:St) (H:Hp) (s:d9) (e:dy) (b:d9),Inv X a d H s->CX X.stack H s E e b->X.xe e b
section
variable{X:Cx}{CX:vt}{k:Nat}{f:dt}{fd:q7}{ps:List Str}{sp:Sp}{Ig:List V}{ds:List dy}{E:XK}{x:Str}{p pos:e8}{e:eo}{es:List eo}{t:TA}
theorem BY(F:q5 X.prog X.w X.K X.mg X.base CX k f fd ps sp)(U:m5 k X.A)(Y:Binds X.K fd ps ds)(z:ft Ig ds)(hx:md CX X E)
 (I:Inv X pins σ H s) (r:ft vs us) (h:sp (vs++Ig) H Q E):wpAny (ef X.prog X.w) X.A (call (.ref f) us) (EP X pins σ Q) X.xe s:=by
 have a:ft (vs++Ig) (us++ds):=r.append z;have Z:(us++ds).length=ps.length:=by rw[<-a.length];exact F.len _ _ _ _ h
 refine Ry<|RG (F.run X.A X.stack s H ⟨us,[]⟩ (us++ds) (vs++Ig) Q E U I.B5 (Y s us I.iv Z) a h) λr d O=>?_;cases r with
 |error e=>exact hx pins σ H s e d I O
 |ok b=>
  cases b with
  |ret u=>exact I.after O
  |next=>exact Oq O
  |brk=>exact Oq O
  |cont=>exact Oq O
theorem gL(F:q5 X.prog X.w X.K X.mg X.base CX k f fd ps sp)(U:m5 k X.A)(Y:Gl X x)(hm:X.mg x=cq (.ref f))(Z:OB X.K (.ref f)=cI)(hb:Binds X.K fd ps ds)(hd:ft Ig ds)(hx:md CX X E)
 (ha:PA X (e::es) t) (z:(x==("__debug__" : Str))=di:=by decide) (he:eJ (e::es) X.env=(di,eh e X.env)::eJ es X.env:=by rfl) (a4:(n0 pos (eJ es X.env)).any (·.1)=di:=by rfl):
 PE X (.Call (.Name x p) (e::es) [] pos) (sQ sp Ig E t):=by
 intro a s b H Q I h;refine Ob<|ve I Y hm ?_ z;refine r_ (h₀:=X.base) I.ok.mod.E1 Z (fe (ha pos a s b H _ I h) λi g ⟨j,d,O,r,q⟩=>⟨O.iv,?_⟩) he a4;exact BY F U hb hd hx O r q
end
structure M5(N P:List Str)(sc:gx):Prop where
 kind:sc.kind=.function
 co:sc.isCoroutine=di
 gen:sc.isGenerator=di
 nd:N.Nodup
 pre:N.take P.length=P
 par:∀x∈P,sc.names.lookup x=cq .local\/sc.names.lookup x=cq .cell
 t?:∀y∈sc.names,y.2 ≠ .free
theorem VV{kindOf:Str->Option A8}{x:Str}:∀{binds:List (Str×dy)} {m:UZ},(∀v,(x,v)∉binds)->D4 kindOf binds m x=m x
 |[],_,_=>rfl
 | (n,v)::r,m,h=>by
  unfold D4;rw[VV λw a=>h w (MO _ a)];split
  ·have:x≠n:=by rintro rfl;exact h v MS
   simp[this]
  ·rfl
theorem VX{kindOf:Str->Option A8}{x:Str}:∀{binds:List (Str×dy)} {m:UZ},(∀v,(x,v)∉binds)->D3 kindOf binds m x=m x
 |[],_,_=>rfl
 | (n,v)::r,m,h=>by
  unfold D3;rw[VX λw a=>h w (MO _ a)];split
  ·rfl
  ·have:x≠n:=by rintro rfl;exact h v MS
   simp[this]
theorem VW{kindOf:Str->Option A8}{x:Str}{v:dy}:∀{P:List Str} {vs:List dy} {i:Nat} {m:UZ},P.Nodup->P[i]? = cq x->vs[i]? = cq v->kindOf x=cq .local->
 D4 kindOf (P.zip vs) m x=cq v
 |[],_,_,_,_,h,_,_=>by simp at h
 |_::_,[],_,_,_,_,h,_=>by simp at h
 |p::P,w::vs,0,m,nd,h1,h2,hk=>by simp at h1 h2;subst h1;subst h2;show D4 kindOf ((p,w)::P.zip vs) m p=_;unfold D4;rw[VV λv I=>(PX.mp nd).1 (List.of_mem_zip I).1,UJ hk];simp
 |p::P,w::vs,i+1,m,nd,h1,h2,hk=>by show D4 kindOf ((p,w)::P.zip vs) m x=_;unfold D4;exact VW (i:=i) (PX.mp nd).2 (by simpa using h1) (by simpa using h2) hk
theorem VY{kindOf:Str->Option A8}{x:Str}{v:dy}:∀{P:List Str} {vs:List dy} {i:Nat} {m:UZ},P.Nodup->P[i]? = cq x->vs[i]? = cq v->kindOf x≠cq .local->
 D3 kindOf (P.zip vs) m x=cq v
 |[],_,_,_,_,h,_,_=>by simp at h
 |_::_,[],_,_,_,_,h,_=>by simp at h
 |p::P,w::vs,0,m,nd,h1,h2,hk=>by simp at h1 h2;subst h1;subst h2;show D3 kindOf ((p,w)::P.zip vs) m p=_;unfold D3;rw[VX λv I=>(PX.mp nd).1 (List.of_mem_zip I).1,UY hk];simp
 |p::P,w::vs,i+1,m,nd,h1,h2,hk=>by show D3 kindOf ((p,w)::P.zip vs) m x=_;unfold D3;exact VY (i:=i) (PX.mp nd).2 (by simpa using h1) (by simpa using h2) hk
def QE(N:List Str)(vs:List V):St:=vs.map cq++Mm (N.length-vs.length) da
def VQ(CX:vt)(P:f9)(w:f6)(K:Mj)(mg:UZ)(base:et)(N:List Str)(qual:Str)(scope:gx)(f:dt)(cd:dy)(A:ij)(outer:List j1)(s:d9)(H:Hp)(E:XK):Cx where
 prog:=P
 w:=w
 K:=K
 mg:=mg
 base:=base
 A:=A.deeper<|envOfC qual scope s.heap.objs.size f cd
 N:=N
 h8:=s
 DD:=H
 env:=Se qual scope s.heap.objs.size f cd
 outer:=outer
 stack:=Se qual scope s.heap.objs.size f cd::outer
 ex:=[]
 calm:=cI
 fn:=λ_=>cI
 pn:=[]
 xe:=λe s'=>wpAny (ef P w) (A.deeper<|envOfC qual scope s.heap.objs.size f cd) (E2 (Se qual scope s.heap.objs.size f cd) e) (λ_ I=>CX outer H s E e I) (λO I=>CX outer H s E O I) s'
theorem bF{z:gx}{n:Nat}{x:Str}(h:z.names.lookup x=cq .cell):∃c,(wh n z.names []).lookup x=cq c:=by have q:=PU z.names n [] (.inl h);exact Ny.mp q
theorem iH{CX:vt}{P:f9}{w:f6}{K:Mj}{mg:UZ}{base:et}{N ps:List Str}{qual:Str}{scope:gx}{f:dt}{cd:dy}{A:ij}{outer:List j1}{s s1:d9}{H:Hp}{E:XK}{us:List dy}{vs:List V}
 (S:M5 N ps scope) (hd:A.handled=da) (O:xC P w K mg base A outer s H) (hl:vs.length=ps.length) (r:ft vs us)
 (x:InCallC s s.heap.objs.size (D4 (Se qual scope s.heap.objs.size f cd).kindOf (ps.zip us) λ_=>da) (wh (s.heap.objs.size+1) scope.names []) (D3 (Se qual scope s.heap.objs.size f cd).kindOf (ps.zip us) λ_=>da) s1):
 Inv (VQ CX P w K mg base N qual scope f cd A outer s H E) [] (QE N vs) H s1:=by
 have B:ps.length<=N.length:=by have:=congrArg Sy S.pre;rw[Pg]at this;lia
 obtain⟨d,F,rfl,l⟩:=x.done;have Z:∀b:dt,b∉(VQ CX P w K mg base N qual scope f cd A outer s H E).ex:=λb z=>absurd (show b∈([]:List dt)from z) ⋯;refine⟨⟨O.mod,S.kind,rfl,rfl,Mq _,λy z c d I=>?_,λy U=>?_,λy c _ h=>?_,λ_=>hd,Around.frames_deeper O.frames,.inr ⟨rfl,rfl⟩,λb z=>absurd z<|Z b,O.bs,O.y9,λb _ _=>Z b,λb z=>absurd z<|Z b,O.o8,O.zt⟩,
  rfl,O.bare,Un.kept l,⟨_,x.toInCall.ns,λi y v d I C=>?_⟩,λy c h=>⟨_,x.cell y c h⟩,O.eH.fresh<|Mq _,λy c h=>?_,λp Y=>absurd (show p∈([]:UQ)from Y) ⋯,O.eH.kept l,?_⟩
 ·exact name_of_addr x.apart (PJ d)<|PJ I
 ·have U:scope.names.lookup y=cq .cell\/scope.names.lookup y=cq .free:=U
  rcases U with U|U
  ·exact bF U
  ·exact absurd rfl<|S.t? _<|PJ U
 ·exact SS<|x.above y c<|PJ h
 ·have g:i<vs.length:=by
   unfold QE at I;by_cases g:i<vs.length
   ·exact g
   ·rw[NX (by simpa using g)]at I
    rw[PZ]at I;split at I<;>cases I
  have o:vs[i]? = cq v:=by
   unfold QE at I;rw[Oa (by simpa using g),NC]at I;cases e:vs[i]? with
   |none=>rw[e]at I;cases I
   |some a=>rw[e]at I;cases I;rfl
  obtain⟨u,m,t⟩:=r.get o;have Y:ps[i]? = cq y:=by rw[<-S.pre,List.getElem?_take_of_lt ⋯];exact d
  have j:ps.Nodup:=by rw[<-S.pre];exact S.nd.sublist<|List.take_sublist _ _
  refine⟨u,t,?_⟩;rcases S.par y (RA Y)with k|k
  ·exact .inl ⟨k,VW j Y m k⟩
  ·obtain⟨c,e⟩:=bF (n:=s.heap.objs.size+1) k
   refine .inr ⟨.inl k,c,e,?_⟩;have q:=x.cell y c e;rw[VY j Y m (by show scope.names.lookup y≠_;rw[k];decide)]at q;exact q
 ·exact O.eH.fresh<|SS<|x.above y c<|PJ h
 ·unfold QE
  show _=N.length;rw[Nv,MN,List.length_replicate];lia
theorem Ap{CX:vt}{P:f9}{w:f6}{K:Mj}{mg:UZ}{base:et}{k:Nat}{f:dt}{name qual:Str}{a1:Arguments}{body:List gB}{scope:gx}{dV kV doc pm z ct oc:dy}{an od:Option dt}
 {DQ:Array (Option dy)} {N ps:List Str} {sp:Sp} (lk:K.lookup f=cq ⟨oc,od,.func<|OW name qual a1 body scope dV kV doc pm an z ct,DQ⟩) (a6:RR K z qual=cI) (S:M5 N ps scope)
 (len:∀vs H Q E,sp vs H Q E->vs.length=ps.length)
 (a7:∀(A:ij) (outer:List j1) (s:d9) (H:Hp) (vs:List V) (Q:VK) (E:XK),m5 k (A.deeper<|envOfC qual scope s.heap.objs.size f z)->sp vs H Q E->
   ∃t,r0 (VQ CX P w K mg base N qual scope f z A outer s H E) body t/\t {nx:=λ_ H'=>Q .ej H',rt:=Q} (QE N vs) H):
 q5 P w K mg base CX (k+1) f (OW name qual a1 body scope dV kV doc pm an z ct) ps sp:=by
 refine⟨len,λA outer s H j R vs Q E Y O hb r h=>?_⟩;have F:=len _ _ _ _ h;have g:K.In s.heap:=O.mod.E1.keeps λb o e=>(O.bs b o e).1;have lim:s.heap.NoLimit:=O.mod.nolimit.keeps λb o e=>(O.bs b o e).1;have m:∀y∈ps.zip R,scope.names.lookup y.1=cq .local\/(scope.names.lookup y.1=cq .cell/\((wh (s.heap.objs.size+1) scope.names []).lookup y.1).isSome=cI):=λ⟨n,v⟩ M=>by
  rcases S.par n (List.of_mem_zip M).1 with q|q
  ·exact .inl q
  ·exact .inr ⟨q,PU _ _ _<|.inl q⟩
 refine codeAny_call_function Y.depth (g _ _ lk) rfl S.co S.gen rfl (PySem.W.codeRec_of g a6)<|hb _ _ _ _ ?_;refine wpAny_newFunctionEnv_cells S.kind m λp C l x=>?_;subst C;refine⟨lim.keeps x.toInCall.keep,codeAny_func ?_⟩;obtain⟨t,L,G⟩:=a7 A outer s H vs Q E (Y.deeper _) h;have I:Inv (VQ CX P w K mg base N qual scope f z A outer s H E) [] (QE N vs) H l:=iH S Y.hd O F r x;refine MG (L [] l (QE N vs) H _ I G) (λB d a=>?_) λe d a=>a;have i:∀{U:St} {H':Hp} {v:V} {u:dy},Inv (VQ CX P w K mg base N qual scope f z A outer s H E) [] U H' d->RelV v u->Q v H'->CE outer P w H s Q u d:=
  λ{U H' v u} J Z q=>⟨v,H',J.os,J.bare,J.base,J.eH,Z,q⟩
 cases B with
 |ret u=>
  obtain⟨v,U,H',J,Z,q⟩:=a;exact i J Z q
 |next=>
  obtain⟨U,H',J,q⟩:=a;exact i (v:=V.ej) (u:=NI) J rfl q
 |brk=>
  obtain⟨_,_,_,q⟩:=a;exact Oq q
 |cont=>
  obtain⟨_,_,_,q⟩:=a;exact Oq q
section
variable{X:Cx}{x:Str}{p pos:e8}{e:eo}{es:List eo}{t:TA}{id T:String}{r:List V->Hp->VK->Prop}
def Z_(r:List V->Hp->VK->Prop)(t:TA):TE:=λd H Q=>t d H λb a=>r b a Q
theorem wI(O:XH X (.builtin id) r)(U:Gl X x)(hm:X.mg x=da)(Y:B3 x=cq (.builtin id))(ha:PA X (e::es) t)(hn:x ≠ "__name__":=by decide)(Z:(x==("__debug__" : Str))=di:=by decide)
 (he:eJ (e::es) X.env=(di,eh e X.env)::eJ es X.env:=by rfl) (z:(n0 pos<|starEach es X.env).any (·.1)=di:=by rfl):PE X (.Call (.Name x p) (e::es) [] pos) (Z_ r t):=by
 intro a s b H Q I h;refine Ob<|xQ I U hm Y ?_ hn Z;exact OO (fe (ha pos a s b H _ I h) λk j ⟨l,d,f,i,g⟩=>O a j b d l k Q f i g) he z
theorem QQ(O:XH X (.type T) r)(U:Gl X x)(hm:X.mg x=da)(Y:B3 x=cq (.type T))(ha:PA X (e::es) t)(hn:x ≠ "__name__":=by decide)(Z:(x==("__debug__" : Str))=di:=by decide)
 (he:eJ (e::es) X.env=(di,eh e X.env)::eJ es X.env:=by rfl) (z:(n0 pos<|starEach es X.env).any (·.1)=di:=by rfl):PE X (.Call (.Name x p) (e::es) [] pos) (Z_ r t):=by
 intro a s b H Q I h;refine Ob<|xQ I U hm Y ?_ hn Z;exact Nc (fe (ha pos a s b H _ I h) λk j ⟨l,d,f,i,g⟩=>O a j b d l k Q f i g) he z
end
end L2
namespace HT
open PySem PyProof.Rows
section
variable{prog:f9}{w:f6}{A:ij}{E:EQ}{s:d9}
theorem HG(ht:M7 s.heap t vs.toArray)(hb:M7 s.heap b ws.toArray)(U:vs ≠ [])
 (z:ws=[]->Q (.ref t) s) (h2:ws ≠ []->Q (.ref s.heap.objs.size) {s with heap:=s.heap.push {cls:=.type "tuple",data:=.seq (vs++ws).toArray}})
 (hsz:vs.length+ws.length<=fh):wpAny (ef prog w) A (wb .Add (.ref t)<|.ref b) Q E s:=by
 obtain⟨⟨cls,h,data,k⟩,I,Y,n,i⟩:=id ht;obtain⟨⟨l,Z,data2,d⟩,O,f,j,g⟩:=id hb;simp only at Y i f g;subst Y i f g;have e:vs.toArray++ws.toArray=(vs++ws).toArray:=by simp
 by_cases a:ws=[]
 ·exact Um ⟨_,I,rfl⟩ ⟨_,O,rfl⟩ Up W_ Su Sq (RV _ _)
   (tuple_addW1 t b vs.toArray ws.toArray n j h Z k d (by simpa using U)<|by simp[a]) ⟨I,O,z a⟩
 ·refine Um ⟨_,I,rfl⟩ ⟨_,O,rfl⟩ Up W_ Su Sq (RV _ _)
   (tuple_addW2 t b vs.toArray ws.toArray n j h Z k d (by simpa using U) (by simpa using a)<|by rw[Ms,Ms];exact hsz) ⟨I,O,?_⟩
  rw[e];exact h2 a
def dj(n d:Nat):Option Int->Nat
 |none=>d
 |some v=>if v<0 then (v+(n:Int)).toNat else min v.toNat n
theorem BS(n d:Nat)(z:d<=n)(o:Option Int):dj n d o<=n:=by
 cases o with
 |none=>exact z
 |some v=>
  show(if v<0 then (v+(n:Int)).toNat else min v.toNat n)<=n;by_cases I:v<0
  ·rw[UJ I];lia
  ·rw[UY I];exact Nat.min_le_right _ _
theorem lH(v:Int)(n d:Nat):(if v<0 then max (v+(n:Int)) 0 else min v (n:Int))=((dj n d (cq v):Nat):Int):=by
 show(if v<0 then max (v+(n:Int)) 0 else min v (n:Int))=(((if v<0 then (v+(n:Int)).toNat else min v.toNat n):Nat):Int);by_cases I:v<0
 ·simp only[UJ I];lia
 ·simp only[UY I];lia
theorem ec(lo z:Option Int)(n:Nat):Rw lo z 1 (n:Int)=(((dj n 0 lo:Nat):Int),((dj n n z:Nat):Int)):=by
 have a:¬((1:Int)<0):=⋯
 unfold Rw;simp only[a,if_false];refine Prod.ext ?_ ?_
 ·cases lo with
  |none=>rfl
  |some v=>exact lH v n 0
 ·cases z with
  |none=>rfl
  |some v=>exact lH v n n
theorem cW(i j:Nat):Pk (i:Int) (j:Int) 1=j-i:=by
 unfold Pk;have a:(1:Int)>0:=⋯
 simp only[a,if_true,Int.ediv_one];split<;>lia
theorem Kh(p:De v o)(h:Q o s):wpAny (ef prog w) A (Builtin.Slice.slicePartIndex v) Q E s:=by
 cases p with
 |none=>exact slicePart_none h
 |int i t=>exact slicePart_int h
theorem JN{sl:dt}{I O:dy}{lo z:Option Int}{n:Nat}{Q:Int×Int×Nat->d9->Prop}(hs:s.heap.IsSliceOf sl I O .none)(Z:De I lo)(pu:De O z)
 (h:Q (((dj n 0 lo:Nat):Int),1,dj n n z-dj n 0 lo) s):wpAny (ef prog w) A (Builtin.Slice.sliceApplied (.ref sl)<|pure (n:Int)) Q E s:=by
 obtain⟨os,U,a,Y⟩:=id hs;unfold Builtin.Slice.sliceApplied Builtin.Slice.sliceFields;refine Mi<|Mi<|MV U Y (x:=I) rfl<|Mi<|MV U Y (x:=O) rfl<|Mi<|MV U Y (x:=.none) rfl<|Mo ?_;refine Mi<|slicePart_none ?_;show wpAny _ _ (if ((1:Int)==0)=cI then _ else _) _ _ s;rw[UY ⋯];refine Mi<|Kh Z<|Mi<|Kh pu<|Mi<|Mo ?_;show wpAny _ _ (match Rw lo z 1 (n:Int)with|(lo,z)=>pure (lo,(1:Int),Pk lo z 1)) _ _ s;rw[ec lo z n];show wpAny _ _ (pure (((dj n 0 lo:Nat):Int),(1:Int),Pk ((dj n 0 lo:Nat):Int) ((dj n n z:Nat):Int) 1)) _ _ s;rw[cW];exact Mo h
theorem nI(xs:Array dy)(i k:Nat):((Ml k).filterMap λ(m:Nat)=>xs[((i:Int)+(m:Int)*1).toNat]?).toArray=((xs.toList.drop i).take k).toArray:=by
 have e:(λ(m:Nat)=>xs[((i:Int)+(m:Int)*1).toNat]?)=λm=>xs[i+m]? :=by
  funext m;have:((i:Int)+(m:Int)*1).toNat=i+m:=⋯
  rw[this]
 rw[e];have:=pick_run xs i k;rw[List.filterMap_map]at this;have I:((λx=>xs[x]?)∘λx=>i+x)=λm=>xs[i+m]? :=rfl;rw[I]at this;rw[this]
theorem dN{t sl:dt}{items:Array dy}{U Y:dy}{lo z:Option Int}{Q:EQ}(I:M7 s.heap t items)(hs:s.heap.IsSliceOf sl U Y .none)(Z:De U lo)(pu:De Y z)
 (hw:¬(dj items.size 0 lo=0/\dj items.size items.size z=items.size))
 (h:Q (.ref s.heap.objs.size) {s with heap:=s.heap.push {cls:=.type "tuple",data:=.seq ((items.toList.drop (dj items.size 0 lo)).take (dj items.size items.size z-dj items.size 0 lo)).toArray}})
 (hsz:items.size<=fh):wpAny (ef prog w) A (Dn (.ref t)<|.ref sl) Q E s:=by
 have O:sizeOk (.seq ((items.toList.drop<|dj items.size 0 lo).take (dj items.size items.size z-dj items.size 0 lo)).toArray):=by show((items.toList.drop<|dj items.size 0 lo).take (dj items.size items.size z-dj items.size 0 lo)).toArray.size<=fh;rw[Ms,Pg,List.length_drop,OE];lia
 have g:dj items.size items.size z<=items.size:=BS _ _ (Mq _) z;obtain⟨os,a,b,f⟩:=id hs;have d:s.TypeIs (.ref sl) "slice":=⟨os,a,b⟩;unfold Dn
 try with_reducible refine NA ?_
 first|refine Mi (Mo ?_)|skip
 refine Mi (V? I.typeIs ⋯ ?_);refine Mi (MY (name:=MU "__getitem__") I.typeIs NS
  (NG NS I.typeIs entry_tuple_getitem ?_ (_X _ _)))
 show wpAny _ _ (Builtin.Tuple.tupleItemsOf (.ref t) >>= _) _ _ s;refine Mi<|SN I ?_;refine Mi<|DG d ?_;rw[UJ ⋯];refine Mi<|JN hs Z pu ?_;have e:¬((((dj items.size 0 lo:Nat):Int)==0&&(1:Int)==1&&(dj items.size items.size z-dj items.size 0 lo)==items.size)=cI):=by intro q;rw[Mw,Mw]at q;have i:((dj items.size 0 lo:Nat):Int)=0:=eq_of_beq q.1.1;have j:dj items.size items.size z-dj items.size 0 lo=items.size:=eq_of_beq q.2;exact hw ⟨⋯,⋯⟩
 show wpAny _ _ (if (((dj items.size 0 lo:Nat):Int)==0&&(1:Int)==1&&(dj items.size items.size z-dj items.size 0 lo)==items.size)=cI then _ else _) _ _ s;rw[UY e,nI]
 first
  |exact Mi (m:=Ov _)<|NY (Mo ⟨_,rfl,Mo h⟩) O
  |exact Mi (m:=Ov _)<|NY (Mi<|Mo<|Mo ⟨_,rfl,Mo h⟩) O
  |exact Mi<|Mi (m:=Ov _)<|NY (Mo<|Mo ⟨_,rfl,Mo h⟩) O
  |exact Mi<|Mi (m:=Ov _)<|NY (Mo ⟨_,rfl,Mo h⟩) O
end
end HT
namespace L2
open PySem PySem.Spec PyProof.Rows
abbrev TO:=St->Hp->(Option Int->Hp->Prop)->Prop
def PO(X:Cx)(e:Option eo)(t:TO):Prop:=
 ∀(a:UQ) (s:d9) (b:St) (H:Hp) (Q:Option Int->Hp->Prop),Inv X a b H s->t b H Q->
  wpAny (ef X.prog X.w) X.A (evalPart e X.env) (λu f=>∃o d,Inv X a b d f/\De u o/\Q o d) X.xe s
def sP:TO:=λ_ H Q=>Q da H
def GD(t:TE):TO:=λb H Q=>t b H λx a=>∃i,x=.int i/\Q (cq i) a
section
variable{X:Cx}{e:eo}{te:TE}{lo hi:Option eo}{tl th:TO}{pos p2:e8}
theorem ur:PO X da sP:=by intro a s b H Q I h;rw[evalPart_none];exact Mo ⟨da,H,I,.none,h⟩
theorem uq(h:PE X e te):PO X (cq e) (GD te):=by intro a s f H Q I d;rw[evalPart_some];refine fe (h a s f H _ I d) λu g O=>?_;obtain⟨x,b,U,Y,Z⟩:=O;obtain⟨i,rfl,q⟩:=Z;obtain⟨t,rfl⟩:=Y;exact⟨cq i,b,U,.int i t,q⟩
def R3(X:Cx)(r:V->Option Int->Option Int->Hp->VK->Prop):Prop:=
 ∀(a:UQ) (s:d9) (d:St) (H:Hp) (x:V) (v I O:dy) (lo hi:Option Int) (b:dt) (Q:VK),Inv X a d H s->RelV x v->s.heap.IsSliceOf b I O .none->De I lo->De O hi->r x lo hi H Q->
  ∃T id,Dz (.type T) "__getitem__" = pure (cq (.builtin id))/\s.TypeIs v T/\wpAny (ef X.prog X.w) X.A (Dn v (.ref b)) (EP X a d Q) X.xe s
def F?(r:V->Option Int->Option Int->Hp->VK->Prop)(te:TE)(tl th:TO):TE:=λa H Q=>te a H λx b=>tl a b λl d=>th a d λu I=>r x l u I Q
theorem aO(hr:R3 X r)(z:PE X e te)(hl:PO X lo tl)(hu:PO X hi th):PE X (.Subscript e (.Slice lo hi da p2) pos) (F? r te tl th):=by intro a s d H Q I h;refine s_ (fe (z a s d H _ I h) λv J o=>?_);obtain⟨x,f,i,G,C⟩:=o;refine wpAny_Slice (fe (hl a J d f _ i C) λU K ⟨l,g,j,y,E⟩=>fe (hu a K d g _ j E) λY O ⟨u,Z,k,B,F⟩=>?_);rw[evalPart_none];refine Mo ?_;have m:Inv X a d Z {O with heap:=O.heap.push {cls:=.type "slice",data:=.fields #[U,Y,.none]}}:=k.kept (t':=O.toks) λb L q=>Mk _ q;obtain⟨T,id,n,t,p⟩:=hr a {O with heap:=O.heap.push {cls:=.type "slice",data:=.fields #[U,Y,.none]}} d Z x v U Y l u O.heap.objs.size Q m G (Heap.IsSliceOf.new ..) y B F;show wpAny (ef X.prog X.w) X.A (X_ e (.Slice lo hi da p2) v (.ref O.heap.objs.size)) (EP X a d Q) X.xe {O with heap:=O.heap.push {cls:=.type "slice",data:=.fields #[U,Y,.none]}};exact tail_any (ops:=[.ref O.heap.objs.size,v]) t n p (by with_unfolding_all rfl)
def AB(xs:List V)(lo hi:Option Int):List V:=(xs.drop<|HT.dj xs.length 0 lo).take (HT.dj xs.length xs.length hi-HT.dj xs.length 0 lo)
theorem W1(xs:List V)(lo hi:Option Int):(AB xs lo hi).length<=xs.length:=by unfold AB;rw[Pg,List.length_drop];lia
def LB(K:Mj):V->Option Int->Option Int->Hp->VK->Prop:=λx lo hi H Q=>∃a b,x=.ref a/\gR K H a b/\
 ¬(HT.dj b.length 0 lo=0/\HT.dj b.length b.length hi=b.length)/\∀p,H p=da->Q (.ref p) (upd H p<|.tup<|AB b lo hi)
theorem BM:R3 X (LB X.K):=by
 intro g s u H x v p t lo hi n Q I l i Y Z h;obtain⟨a,d,rfl,k,j,q⟩:=h;cases l;obtain⟨e,r,U,f⟩:=I.tuple k;have O:e.toArray.size=d.length:=by rw[Ms];exact r.length.symm
 refine⟨"tuple",_,NS.lookup,U.typeIs,?_⟩;refine HT.dN U i Y Z (by rw[O];exact j) ?_ (by rw[O];exact f);rw[O];refine⟨.ref s.heap.objs.size,_,I.laid (t':=s.toks) (o:=.tup (AB d lo hi)) (λb m q=>Mk _ q) (Mq _) ?_,rfl,q _ (I.eH.fresh (Mq _))⟩;exact⟨Nl (W1 d lo hi) f,_,(r.drop (HT.dj d.length 0 lo)).take (HT.dj d.length d.length hi-HT.dj d.length 0 lo),A6.new _ _⟩
theorem ft.S9(r:ft xs us):us=[]↔xs=[]:=by
 cases r with
 |nil=>simp
 |cons _ _=>simp
end
def D9(n:Nat)(i:Int):Option Nat:=if 0<=i then (if i<n then cq i.toNat else da)else if -(n:Int)<=i then cq (i+n).toNat else da
def DI{z:Type}(xs:List z)(i:Int):Option z:=(D9 xs.length i).bind λj=>xs[j]?
theorem iB(h:D9 n i=cq j):seqIndex? i n=cq j/\j<n/\ -(n:Int)<=i/\i<n:=by
 unfold D9 at h;by_cases b:0<=i
 ·rw[UJ b]at h
  by_cases a:i<n
  ·rw[UJ a]at h
   have e:i.toNat=j:=Nz h;exact⟨by rw[V_ b a,e],⋯,⋯,a⟩
  ·rw[UY a]at h;cases h
 ·rw[UY b]at h
  by_cases a : -(n:Int)<=i
  ·rw[UJ a]at h
   have e:(i+n).toNat=j:=Nz h;exact⟨by rw[V' ⋯ a,e],⋯,a,⋯⟩
  ·rw[UY a]at h;cases h
theorem W6(h:DI xs i=cq v):∃j,seqIndex? i xs.length=cq j/\xs[j]? = cq v/\j<xs.length/\ -(xs.length:Int)<=i/\i<xs.length:=by
 unfold DI at h;cases e:D9 xs.length i with
 |none=>rw[e]at h;cases h
 |some j=>
  rw[e]at h;obtain⟨a,I,O,U⟩:=iB e;exact⟨j,a,h,I,O,U⟩
def W7(b:eo):Prop:=∀o i,U8 b di o i=operate [o,i] (Dn o i)
def DE(X:Cx)(r:R2):Prop:=
 ∀(O I:eo) (a:UQ) (s:d9) (b:St) (H:Hp) (x y:V) (v u:dy) (Q:VK),Inv X a b H s->RelV x v->RelV y u->r x y H Q->
  U8 I di v u=operate [v,u] (Dn v u)->wpAny (ef X.prog X.w) X.A (X_ O I v u) (EP X a b Q) X.xe s
def M9(X:Cx)(id:String)(r:V->List V->Hp->VK->Prop):Prop:=
 ∀(a:UQ) (s:d9) (e:St) (H:Hp) (x:V) (d:List V) (v:dy) (b:List dy) (Q:VK),Inv X a e H s->RelV x v->ft d b->r x d H Q->
  wpAny (ef X.prog X.w) X.A (call (.builtin id) (v::b)) (EP X a e Q) X.xe s
section
variable{X:Cx}{a b:eo}{ta tb:TE}{pos:e8}
theorem DE.or(h:DE X r)(h':DE X r'):DE X (λx y H Q=>r x y H Q\/r' x y H Q):=by
 intro O U a s e H x y v u Q I d Y q b;rcases q with q|q
 ·exact h O U a s e H x y v u Q I d Y q b
 ·exact h' O U a s e H x y v u Q I d Y q b
theorem CK(O:DE X r)(z:PE X a ta)(U:PE X b tb)(hs:W7 b):PE X (.Subscript a b pos) (O8 r ta tb):=by intro d s i H Q I h;exact s_<|HH z U I h λv u g x y e Y f Z q=>O a b d g i e x y v u Q Y f Z q<|hs _ _
def LH(K:Mj):R2:=λx y H Q=>∃p a i v,x=.ref p/\y=.int i/\gE K H p a/\DI a i=cq v/\Q v H
def LF(K:Mj):R2:=λx y H Q=>∃p a i v,x=.ref p/\y=.int i/\gR K H p a/\DI a i=cq v/\Q v H
def LG:R2:=λx y H Q=>∃z i c,x=.str z/\y=.int i/\z.length<=fh/\DI z.cps.toList i=cq c/\Q (.str ⟨#[c]⟩) H
theorem n?:DE X (LH X.K):=by
 intro G J a s g H x y v u Q I C E h f;obtain⟨p,P,i,z,rfl,rfl,B,o,q⟩:=h;cases C;obtain⟨t,rfl⟩:=E;obtain⟨d,r,O,N⟩:=I.list B;obtain⟨j,b,l,L,m,n⟩:=W6 o;obtain⟨w,Y,k⟩:=r.get l;have A:=r.length;have M:=Xd;have Z:EP X a g Q w s:=⟨z,H,I,k,q⟩;by_cases e:0<=i
 ·have U:i.toNat=j:=by
   rw[V_ e n]at b;exact Nz b
  exact item_listR O.isList e ⋯ (by rw[U];simpa using Y) Z f
 ·have U:(i+(d.toArray.size:Int)).toNat=j:=by
   rw[V' ⋯ m]at b;rw[Ms,<-A];exact Nz b
  exact B? (x:=w) O.isList.typeIs slot_list_getitem.lookup
   (wpAny_getItem_list_neg (Q:=λr F=>r=w/\EP X a g Q r F) O.isList ⋯ (by rw[Ms]<;>lia) ⋯ (by rw[U];simpa using Y) ⟨rfl,Z⟩) f
theorem EA:DE X (LF X.K):=by
 intro B C a s b H x y v u Q I o U h m;obtain⟨p,M,i,z,rfl,rfl,Y,Z,q⟩:=h;cases o;obtain⟨t,rfl⟩:=U;obtain⟨n,r,O,L⟩:=I.tuple Y;obtain⟨j,g,k,E,F,G⟩:=W6 Z;obtain⟨w,f,d⟩:=r.get k;have l:=r.length;have J:=Xd;have e:EP X a b Q w s:=⟨z,H,I,d,q⟩;exact B? (x:=w) O.typeIs slot_tuple_getitem.lookup
  (getItem_tuple (j:=j) (Q:=λr A=>r=w/\EP X a b Q r A) O ⋯ ⋯ (by rw[Ms,<-l];exact g) (by simpa using f) ⟨rfl,e⟩) m
theorem EB:DE X LG:=by
 intro m n b s A H x y v u Q I l O h k;obtain⟨z,i,c,rfl,rfl,r,U,q⟩:=h;obtain⟨t,rfl⟩:=l;obtain⟨w,rfl⟩:=O;obtain⟨j,a,Y,o,Z,f⟩:=W6 U;have g:z.cps.toList.length=z.length:=by simp[Str.length]
 rw[g]at a Z f;have p:=Xd;exact tail_any (Uk s z t) slot_str_getitem.lookup (getItem_str (c:=c) (by
  have d:decide (i < -(2^63:Int))=di:=decide_eq_false ⋯;have e:decide (i>=2^63)=di:=decide_eq_false ⋯;rw[d,e,Bool.or_false]) (by rw[a];simpa using Y) ⟨.str ⟨#[c]⟩,H,I.tok _,⟨_,rfl⟩,q⟩) k
theorem dw(its:List dy)(n j:Nat)(u:dy):Nt (·.setIfInBounds j u) {cls:=.type "list",data:=.seq its.toArray n} = {cls:=.type "list",data:=.seq (its.set j u).toArray n}:=by simp[Nt]
theorem Inv.lst(I:Inv X pins σ H s)(h:H p=cq (.lst xs)):
 ∃(its:List dy) (n:Nat),ft xs its/\s.heap.get? p=cq {cls:=.type "list",data:=.seq its.toArray n}/\xs.length<=fh:=by
 obtain⟨z,its,n,r,e⟩:=I.eH p _ h;exact⟨its,n,r,e,z⟩
theorem Inv.q?{z:UQ}{Z:St}{H:Hp}{s:d9}{p:dt}{xs ys:List V}{its its':List dy}{n n':Nat}{f:i5->i5}(I:Inv X z Z H s)(h:H p=cq (.lst xs))
 (O:s.heap.get? p=cq {cls:=.type "list",data:=.seq its.toArray n}) (Y:f {cls:=.type "list",data:=.seq its.toArray n} = {cls:=.type "list",data:=.seq its'.toArray n'}) (r:ft ys its') (hz:ys.length<=fh) (t:Nat):
 Inv X z Z (upd H p<|.lst ys) {s with heap:=s.heap.update p f,toks:=t}:=by
 have e:(s.heap.update p f).get? p=cq {cls:=.type "list",data:=.seq its'.toArray n'}:=by rw[Nu f O (by rw[Y]<;>rfl),Y]
 refine I.write (x:=p) (e:=p) (by rw[h];trivial) (.inl rfl) (λb u U q=>(ML _ _<|Nr U).trans q) ⟨_,e⟩ ?_;exact⟨hz,its',n',r,e⟩
def GP:V->V->V->Hp->(Hp->Prop)->Prop:=λo i v H Q=>∃p a k j,o=.ref p/\i=.int k/\H p=cq (.lst a)/\D9 a.length k=cq j/\Q (upd H p<|.lst<|a.set j v)
theorem mT:Lh X GP:=by
 intro b s B H o i v G F u Q I y x z h;obtain⟨p,A,k,j,rfl,rfl,Z,m,q⟩:=h;cases y;obtain⟨t,rfl⟩:=x;obtain⟨a,n,r,O,w⟩:=I.lst Z;obtain⟨d,C,g,l⟩:=iB m;have U:=r.length;have E:=Xd;have e:Inv X b B (upd H p<|.lst<|A.set j v) {s with heap:=s.heap.update p (Nt (·.setIfInBounds j u))}:=
  I.q? Z O (dw a n j u) (r.set z j) (by rw[List.length_set];exact w) s.toks
 by_cases f:0<=k
 ·have Y:k.toNat=j:=by
   rw[V_ f l]at d;exact Nz d
  exact PySem.W.ki_setAt O f ⋯ (by rw[Ms,<-U];exact l) (by rw[Y];exact⟨_,e,q⟩)
 ·have Y:(k+(a.toArray.size:Int)).toNat=j:=by
   rw[V' ⋯ g]at d;rw[Ms,<-U];exact Nz d
  exact PySem.W.ki_setBack O ⋯ (by rw[Ms,<-U];exact g) ⋯ (by rw[Y];exact⟨_,e,q⟩)
def X7:V->Bool
 |.ej=>cI
 |.bl _=>cI
 |.int _=>cI
 |.str _=>cI
 |_=>di
def Dm:V->V->Bool
 |.ej,.ej=>cI
 |.bl a,.bl b=>a==b
 |.bl a,.int b=>(if a then 1 else 0)==b
 |.int a,.bl b=>a==(if b then 1 else 0)
 |.int a,.int b=>a==b
 |.str a,.str b=>a==b
 |_,_=>di
theorem ER(I:RelV y u)(z:RelV x v)(O:X7 y=cI)(Y:X7 x=cI):NR A s u v (Dm y x):=by
 cases y with
 |ej=>
  cases I;cases x with
  |ej=>cases z;exact NR.same _
  |bl b=>cases z;exact NR.none_bool b
  |int b=>obtain⟨t,rfl⟩:=z;exact NR.none_int b t
  |str b=>obtain⟨t,rfl⟩:=z;exact NR.none_str b t
  |_=>exact absurd (show di=cI from Y) MJ
 |bl a=>
  cases I;cases x with
  |ej=>cases z;exact NR.bool_none a
  |bl b=>cases z;exact NR.bool_bool a b
  |int b=>obtain⟨t,rfl⟩:=z;exact NR.bool_int a b t
  |str b=>obtain⟨t,rfl⟩:=z;exact NR.bool_str a b t
  |_=>exact absurd (show di=cI from Y) MJ
 |int a=>
  obtain⟨d,rfl⟩:=I;cases x with
  |ej=>cases z;exact NR.int_none a d
  |bl b=>cases z;exact NR.int_bool a d b
  |int b=>obtain⟨t,rfl⟩:=z;exact q_ a d b t
  |str b=>obtain⟨t,rfl⟩:=z;exact NR.int_str a d b t
  |_=>exact absurd (show di=cI from Y) MJ
 |str a=>
  obtain⟨d,rfl⟩:=I;cases x with
  |ej=>cases z;exact NR.str_none a d
  |bl b=>cases z;exact NR.str_bool a d b
  |int b=>obtain⟨t,rfl⟩:=z;exact NR.str_int a d b t
  |str b=>obtain⟨t,rfl⟩:=z;exact NR.str_str a d b t
  |_=>exact absurd (show di=cI from Y) MJ
 |_=>exact absurd (show di=cI from O) MJ
def t6(x:V)(u:dy):Bool:=match u with
 |.none=>Dm .ej x
 |.bool b=>Dm (.bl b) x
 |.int i _=>Dm (.int i) x
 |.str z _=>Dm (.str z) x
 |_=>di
theorem rT(r:RelV y u)(f:X7 y=cI):t6 x u=Dm y x:=by
 cases y with
 |ej=>cases r;rfl
 |bl b=>cases r;rfl
 |int i=>obtain⟨t,rfl⟩:=r;rfl
 |str z=>obtain⟨t,rfl⟩:=r;rfl
 |_=>exact absurd (show di=cI from f) MJ
theorem Xz:∀{xs:List V} {us:List dy},ft xs us->xs.all X7=cI->us.any (t6 x)=xs.any λy=>Dm y x
 |_,_,.nil,_=>rfl
 |y::xs,u::us,.cons r t,f=>by rw[RE,Mw]at f;rw[Sz,Sz,rT r f.1,Xz t f.2]
theorem ZL(Y:RelV x v)(z:X7 x=cI):∀{xs:List V} {us:List dy},ft xs us->xs.all X7=cI->∀u∈us,NR A s u v (t6 x u)
 |_,_,.nil,_=>λu I=>by cases I
 |y::xs,u::us,.cons r t,f=>λO I=>by
  rw[RE,Mw]at f;rcases Mr.mp I with rfl|I
  ·rw[rT r f.1];exact ER r Y f.1 z
  ·exact ZL Y z t f.2 O I
def K2(x:V)(xs:List V):Bool:=xs.any λy=>Dm y x
def R_(K:Mj)(I:Bool):R2:=λx y H Q=>∃p a,y=.ref p/\(gE K H p a\/gR K H p a)/\X7 x=cI/\a.all X7=cI/\Q (.bl<|if I then !K2 x a else K2 x a) H
theorem gO:jl X (ri .In) (R_ X.K di):=by
 intro e s j H x y v u Q I f Y h;obtain⟨p,i,rfl,O,d,fs,q⟩:=h;cases Y;rcases O with O|O
 ·obtain⟨a,r,U,g⟩:=I.list O
  refine SeqAt.in_listAt (t6 x) U.isList (λw b=>ZL f d r fs w<|by simpa using b) ⟨.bl _,H,I,rfl,?_⟩;rw[show a.toArray.any (t6 x)=a.any (t6 x)by simp,Xz r fs];exact q
 ·obtain⟨a,r,U,g⟩:=I.tuple O
  refine SeqAt.in_tupleAt (t6 x) U (λw b=>ZL f d r fs w<|by simpa using b) ⟨.bl _,H,I,rfl,?_⟩;rw[show a.toArray.any (t6 x)=a.any (t6 x)by simp,Xz r fs];exact q
theorem Vb:jl X (ri .NotIn) (R_ X.K cI):=by
 intro e s j H x y v u Q I f Y h;obtain⟨p,i,rfl,O,d,fs,q⟩:=h;cases Y;rcases O with O|O
 ·obtain⟨a,r,U,g⟩:=I.list O
  refine SeqAt.notIn_listAt (t6 x) U.isList (λw b=>ZL f d r fs w<|by simpa using b) ⟨.bl _,H,I,rfl,?_⟩;rw[show a.toArray.any (t6 x)=a.any (t6 x)by simp,Xz r fs];exact q
 ·obtain⟨a,r,U,g⟩:=I.tuple O
  refine SeqAt.notIn_tupleAt (t6 x) U (λw b=>ZL f d r fs w<|by simpa using b) ⟨.bl _,H,I,rfl,?_⟩;rw[show a.toArray.any (t6 x)=a.any (t6 x)by simp,Xz r fs];exact q
theorem VU:XH X (.builtin "len") (λxs H Q=>∃p ys,xs=[.ref p]/\(gE X.K H p ys\/gR X.K H p ys)/\Q (.int ys.length) H):=by
 intro d s j H xs i Q I r h;obtain⟨p,ys,rfl,O,q⟩:=h;obtain⟨u,rfl,f⟩:=yU r;cases f;have g:=Xd;rcases O with O|O
 ·obtain⟨a,b,U,e⟩:=I.list O
  have Y:=b.length;exact Calls.call_len_list U.isList (by simp only[Ms]<;>lia) ⟨.int ys.length,H,I.tok _,⟨s.toks+1,by rw[Ms,Y]⟩,q⟩
 ·obtain⟨a,b,U,e⟩:=I.tuple O
  have Y:=b.length;exact len_tuple U (by simp only[Ms]<;>lia) ⟨.int ys.length,H,I.tok _,⟨s.toks+1,by rw[Ms,Y]⟩,q⟩
theorem VT:XH X (.builtin "len") (λxs H Q=>∃z,xs=[.str z]/\z.length<=fh/\Q (.int z.length) H):=by intro a s f H xs e Q I r h;obtain⟨z,rfl,d,q⟩:=h;obtain⟨u,rfl,t,rfl⟩:=yU r;have b:=Xd;exact len_str ⋯ ⟨.int z.length,H,I.tok _,⟨_,rfl⟩,q⟩
theorem VS:XH X (.type "list") (λxs H Q=>∃p ys,xs=[.ref p]/\(gE X.K H p ys\/gR X.K H p ys)/\∀l,H l=da->Q (.ref l) (upd H l (.lst ys))):=by
 intro j s A H xs B Q I r h;obtain⟨p,ys,rfl,U,q⟩:=h;obtain⟨u,rfl,z⟩:=yU r;cases z;have t:∀(a:List dy),ft ys a->ys.length<=fh->∀(d:et) (O:Nat),(∀b x,s.heap.get? b=cq x->d.get? b=cq x)->
  d.get? s.heap.objs.size=cq {cls:=.type "list",dict:=da,data:=.seq a.toArray O,slots:=#[]}->EP X j A Q (.ref s.heap.objs.size) {s with heap:=d}:=λa f g d O i e=>
  ⟨.ref s.heap.objs.size,_,I.laid (t':=s.toks) i (Mq _) (show ir X.prog X.w _ d _ (.lst ys)from⟨g,a,O,f,e⟩),rfl,q _<|I.eH.fresh<|Mq _⟩
 rcases U with U|U
 ·obtain⟨a,f,Y,g⟩:=I.list U
  have y:=f.length;obtain⟨o,Z,k,n,m⟩:=Y.isList;exact call_list_seq p (.inl rfl) Z k m (λd O i e=>t a f g d O i e) (by simp only[Ms]<;>lia)
 ·obtain⟨a,f,Y,g⟩:=I.tuple U
  have y:=f.length;obtain⟨o,Z,k,n,m⟩:=Y;exact call_list_seq p (.inr rfl) Z k m (λd O i e=>t a f g d O i e) (by simp only[Ms]<;>lia)
theorem Yu:XH X (.type "tuple") (λxs H Q=>∃p ys,xs=[.ref p]/\((gE X.K H p ys/\∀l,H l=da->Q (.ref l) (upd H l (.tup ys)))\/(gR X.K H p ys/\Q (.ref p) H))):=by
 intro a s j H xs t Q I r h;obtain⟨p,ys,rfl,h⟩:=h;obtain⟨u,rfl,m⟩:=yU r;cases m;rcases h with⟨O,q⟩|⟨O,q⟩
 ·obtain⟨d,g,U,i⟩:=I.list O
  have n:=g.length;refine call_tuple_list U.isList (λf k=>?_) (by simp only[Ms]<;>lia);have Y:Inv X a j H {s with heap:=f}:=I.kept (t':=s.toks) k;have Z:Inv X a j (upd H f.objs.size (.tup ys)) {s with heap:=f.push {cls:=.type "tuple",data:=.seq d.toArray}}:=
   Y.laid (t':=s.toks) (λb o e=>Mk _ e) (Mq _) (show ir X.prog X.w _ _ _ (.tup ys)from⟨i,d,g,A6.new _ _⟩)
  exact⟨.ref f.objs.size,_,Z,rfl,q _<|Y.eH.fresh<|Mq _⟩
 ·obtain⟨d,g,U,i⟩:=I.tuple O
  exact call_tuple_same U ⟨.ref p,H,I,rfl,q⟩
def a_(K:Mj)(T:String)(x:V)(H:Hp):Prop:=match x with
 |.str _=>T = "str"
 |.int _=>T = "int"
 |.ref p=>(T = "list"/\∃b,gE K H p b)\/(T = "tuple"/\∃o,K.lookup p=cq o/\o.cls=.type "tuple"/\o.dict=da)\/
  (T = "dict"/\((∃a,H p=cq (.dK a))\/∃a,H p=cq (.dT a)))\/(T = "set"/\∃S n,H p=cq (.set S n))
 |_=>False
theorem pF(I:Inv X pins σ H s)(r:RelV x v)(ty:a_ X.K T x H):
 s.TypeIs v T/\∀a,v=.ref a->∃Y,s.heap.get? a=cq Y/\Y.dict=da:=by
 cases x with
 |str z=>
  obtain⟨t,rfl⟩:=r;cases (show T = "str" from ty);exact⟨Uk s z t,λ_ e=>nomatch e⟩
 |int i=>
  obtain⟨t,rfl⟩:=r;cases (show T = "int" from ty);exact⟨Ul s i t,λ_ e=>nomatch e⟩
 | ref p=>
  cases r;rcases ty with⟨rfl,k,h⟩|⟨rfl,o,O,g,d⟩|⟨rfl,O⟩|⟨rfl,S,n,O⟩
  ·obtain⟨j,_,Z,_⟩:=I.list h
   refine⟨Z.isList.typeIs,λa e=>?_⟩;cases e;obtain⟨o,n,e,c,d,_⟩:=Z;exact⟨o,e,d⟩
  ·refine⟨⟨o,I.iv p o O,g⟩,λa e=>?_⟩
   cases e;exact⟨o,I.iv _ o O,d⟩
  ·have z:∃o,s.heap.get? p=cq o/\o.ExactDict:=by
    rcases O with⟨f,O⟩|⟨f,O⟩
    ·obtain⟨_,_,_,_,o,_,_,e,b,_⟩:=I.eH p _ O
     exact⟨o,e,b⟩
    ·obtain⟨_,_,_,_,o,_,_,e,b,_⟩:=I.eH p _ O
     exact⟨o,e,b⟩
   obtain⟨o,e,b⟩:=z;refine⟨⟨o,e,b.1⟩,λa U=>?_⟩;cases U;exact⟨o,e,b.2.1⟩
  ·obtain⟨o,_,_,_,e,b,_⟩:=I.eH p _ O
   refine⟨⟨o,e,b.1⟩,λa U=>?_⟩;cases U;exact⟨o,e,b.2.1⟩
 |_=>exact Oq ty
def Lz(K:Mj)(T:String)(r:V->List V->Hp->VK->Prop)(to:TE):TE:=λb H Q=>to b H λx a=>a_ K T x a/\r x [] a Q
def Y_(K:Mj)(T:String)(r:V->List V->Hp->VK->Prop)(to:TE)(t:TA):TE:=λb H Q=>to b H λx a=>a_ K T x a/\t b a λe d=>r x e d Q
variable{o e:eo}{es:List eo}{to:TE}{t:TA}{name:Str}{apos cpos:e8}{T id:String}{r:V->List V->Hp->VK->Prop}
theorem CM(Y:PlainAttrs T)(z:Slot T name id)(Z:E9 (.builtin id)=pure (.type "method_descriptor"))(hm:M9 X id r)(ho:PE X o to)
 (a2:DJ o name X.env (eh o X.env)=eh o X.env:=by rfl) (a3:(apos.endLine==cpos.line)=cI:=by rfl):PE X (.Call (.Attribute o name apos) [] [] cpos) (Lz X.K T r to):=by
 intro a s b H Q I h;refine wpAny_Call_method0_late a2 a3<|fe (ho a s b H _ I h) λv j g=>?_;obtain⟨x,d,O,U,ty,i⟩:=g;obtain⟨e,f⟩:=pF O U ty;exact⟨T,id,Y,z,Z,e,f,SJ rfl<|PySem.evalArgs_none<|hm a j b d x [] v [] Q O U .nil i⟩
theorem gM(Z:PlainAttrs T)(z:Slot T name id)(a1:E9 (.builtin id)=pure (.type "method_descriptor"))(hm:M9 X id r)(ho:PE X o to)(ha:PA X (e::es) t)
 (a3:DJ o name X.env (eh o X.env)=eh o X.env:=by rfl)
 (a4:((n0 cpos<|starEach (e::es) X.env).all (λx=> !x.1)&&(N5 cpos<|keywordEach [] X.env).all (λx=>x.1.isSome)
   &&decide ((e::es).length+([]:List A7).length+(if ([]:List A7).isEmpty then 0 else 1)<30))=cI:=by rfl)
 (a5:(apos.endLine==cpos.line)=cI:=by rfl) (hs:eJ (e::es) X.env=(di,eh e X.env)::eJ es X.env:=by rfl) (a6:(n0 cpos<|starEach es X.env).any (·.1)=di:=by rfl):
 PE X (.Call (.Attribute o name apos) (e::es) [] cpos) (Y_ X.K T r to t):=by
 intro a s b H Q I h;refine wpAny_Call_method_late a3 a4 a5 rfl<|fe (ho a s b H _ I h) λv p k=>?_;obtain⟨x,d,O,U,ty,l⟩:=k;obtain⟨i,j⟩:=pF O U ty;refine⟨T,id,Z,z,a1,i,j,?_⟩;have Y:=ha cpos a p b d _ O l;rw[hs]at Y ⊢;refine SJ (by show(di || (n0 cpos<|starEach es X.env).any (·.1))=di;rw[a6]<;>rfl)<|SV ?_;exact fe Y λw u ⟨y,f,g,n,m⟩=>hm a u b f x y v w Q g U n m
end
def Uw(X:Cx)(id:String)(r:V->List V->Hp->VK->Prop):Prop:=
 ∀(a:UQ) (s:d9) (e:St) (H:Hp) (x:V) (d:List V) (v:dy) (b:List dy) (Q:VK),Inv X a e H s->RelV x v->ft d b->r x d H Q->
  wpAny (ef X.prog X.w) X.A (call (.builtin id) (v::b)) (EP X a e Q) X.xe s
theorem ft.one:∀{x:V} {us:List dy},ft [x] us->∃u,us=[u]/\RelV x u
 |_,_,.cons r .nil=>⟨_,rfl,r⟩
theorem ft.zero:∀{us:List dy},ft [] us->us=[]
 |_,.nil=>rfl
theorem ft.dropLast(h:ft xs us):ft xs.dropLast us.dropLast:=by
 induction h with
 |nil=>exact .nil
 |cons r t I=>
  cases t with
  |nil=>exact .nil
  |cons q a=>exact .cons r I
theorem ft.rep(h:ft xs us):∀k:Nat,ft (Mm k xs).flatten (Mm k us).flatten
 |0=>.nil
 |k+1=>by rw[Ow,Ow,OY,OY];exact ft.append h<|ft.rep h k
theorem dP(l:List α):l.eraseIdx (l.length-1)=l.dropLast:=by
 induction l with
 |nil=>rfl
 | cons a r I=>
  cases r with
  |nil=>rfl
  |cons b r=>
   have e:(a::b::r).length-1=((b::r).length-1)+1:=by have d:(a::b::r).length=r.length+2:=rfl;have O:(b::r).length=r.length+1:=rfl;lia
   rw[e,List.eraseIdx_cons_succ,I]
   all_goals rfl
theorem Xo(its:List dy):∀(k:Nat) (acc:List dy),
 TQ (λz I=>z++I) acc.toArray (Mm k its.toArray)=(acc++(Mm k its).flatten).toArray
 |0,acc=>by simp
 |k+1,acc=>by
  have e:acc.toArray++its.toArray=(acc++its).toArray:=by simp
  have O:(acc++its)++(Mm k its).flatten=acc++(Mm (k+1) its).flatten:=by rw[Ow,OY,List.append_assoc]
  rw[<-O,<-Xo its k (acc++its),<-e,Ow,List.foldl_cons]
section
variable{X:Cx}{pins:UQ}{σ:St}{H:Hp}{s:d9}{l:dt}{xs ys:List V}
theorem Inv.DP{its its':List dy}{n:Nat}{f:Array dy->Array dy}{t':Nat}(I:Inv X pins σ H s)(O:H l=cq (.lst xs))
 (e:s.heap.get? l=cq {cls:=.type "list",data:=.seq its.toArray n}) (z:f its.toArray=its'.toArray) (U:ft ys its') (hz:ys.length<=fh):
 Inv X pins σ (upd H l<|.lst ys) {s with heap:=s.heap.update l<|Nt f,toks:=t'}:=by
 have q:=PySem.IsL.update e f;rw[z]at q;refine I.write (x:=l) (e:=l) (by rw[O];exact trivial) (.inl rfl) (λa u Y Z=>(ML s.heap (Nt f)<|Nr Y).trans Z) ⟨_,q⟩ ?_;exact⟨hz,its',_,U,q⟩
theorem Inv.U2(I:Inv X pins σ H s)(O:ft ys its)(hz:ys.length<=fh):
 Inv X pins σ (upd H s.heap.objs.size (.lst ys)) {s with heap:=s.heap.push {cls:=.type "list",data:=.seq its.toArray},toks:=t'}:=
 I.laid (λ_ _ q=>Mk _ q) (Mq _) ⟨hz,its,0,O,My _ rfl⟩
theorem Inv.fresh(I:Inv X pins σ H s):H s.heap.objs.size=da:=I.eH.fresh<|Mq _
theorem Inv.Ds(I:Inv X pins σ H s)(O:H l=cq (.lst xs)):xs.length<=fh/\∃(its:List dy) (n:Nat),ft xs its/\xs.length=its.length/\s.heap.get? l=cq {cls:=.type "list",data:=.seq its.toArray n}:=by obtain⟨z,its,n,r,e⟩:=I.eH l _ O;exact⟨z,its,n,r,r.length,e⟩
theorem aT(h:n<=fh):OI n=di:=by unfold OI;exact decide_eq_false ⋯
end
section
variable{X:Cx}
def fY:V->List V->Hp->VK->Prop:=λx b H Q=>∃l a y,x=.ref l/\b=[y]/\H l=cq (.lst a)/\a.length<fh/\Q .ej (upd H l<|.lst<|a++[y])
theorem hJ:Uw X "list.append" fY:=by intro b s k H x i v g Q I d U h;obtain⟨l,j,y,rfl,rfl,O,f,q⟩:=h;cases d;obtain⟨u,rfl,Y⟩:=U.one;obtain⟨z,a,n,r,Z,e⟩:=I.Ds O;refine Pn F.slot_list_append ⟨_,e,rfl⟩ F.entry_list_append (F.args_list_append_2 _ _) (PySem.list_append l a.toArray n u (by rw[Ms];lia)) ⟨e,?_⟩;refine⟨.ej,_,I.DP (its':=a++[u]) O e ⋯ (r.append (.cons Y .nil)) ?_,rfl,q⟩;rw[Nv,OM];lia
def LD:V->List V->Hp->VK->Prop:=λx b H Q=>∃l a y,x=.ref l/\b=[]/\H l=cq (.lst a)/\a[a.length-1]? = cq y/\Q y (upd H l<|.lst a.dropLast)
theorem El:Uw X "list.pop" LD:=by
 intro b s p H x m v k Q I j U h;obtain⟨l,o,y,rfl,rfl,O,Y,q⟩:=h;cases j;have Z:=U.zero;subst Z;obtain⟨z,a,n,r,f,e⟩:=I.Ds O;obtain⟨u,g,i⟩:=r.get Y;have d:a.toArray[a.toArray.size-1]? = cq u:=by show a.toArray[a.length-1]? = cq u;rw[<-Array.getElem?_toList,<-f];exact g
 refine Pn F.slot_list_pop ⟨_,e,rfl⟩ F.entry_list_pop (F.args_list_pop_1 _) (MeetsSeq.list_pop_last l a.toArray n u d<|by rw[Ms];lia) ⟨e,?_⟩;refine⟨y,_,I.DP (its':=a.dropLast) O e ?_ r.dropLast ?_,i,q⟩
 ·show a.toArray.eraseIdxIfInBounds (a.toArray.size-1)=a.dropLast.toArray
  rw[Ms,List.eraseIdxIfInBounds_toArray,dP]
 ·rw[List.length_dropLast]
  lia
def LC:R2:=λx y H Q=>∃l k a,x=.ref l/\y=.int k/\H l=cq (.lst a)/\ -(2^63)<=k/\k<2^63/\a.length*k.toNat<=fh/\
 ∀p,H p=da->Q (.ref p) (upd H p<|.lst (Mm k.toNat a).flatten)
theorem WQ(xs:List α)(k:Nat):(Mm k xs).flatten.length=k*xs.length:=by
 induction k with
 |zero=>simp
 |succ k I=>rw[Ow,OY,Nv,I,SO,Ua]
theorem CY:jl X (wb .Mult) LC:=by
 intro g s M H x y v u Q I G Y h;obtain⟨l,k,L,rfl,rfl,Z,B,C,f,q⟩:=h;cases G;obtain⟨t,rfl⟩:=Y;obtain⟨z,b,n,r,E,e⟩:=I.Ds Z;have i:b.toArray.size*k.toNat<=fh:=by rw[Ms,<-E];exact f
 have j:¬b.toArray.size*k.toNat>(2^63-1)/8:=by
  have:(fh:Nat)<=(2^63-1)/8:=by decide
  lia
 have o:¬(!Builtin.List.listFitsIndex k)=cI:=by rw[fitsIndex_both B C];exact MJ
 have p:¬OI (b.toArray.size*k.toNat)=cI:=by rw[aT i];exact MJ
 have w:TQ (λd O=>d++O) #[] (Mm (if b.toArray.isEmpty=cI then 0 else k.toNat) b.toArray)=(Mm k.toNat b).flatten.toArray:=by
  have A:∀m:Nat,TQ (λd O=>d++O) #[] (Mm m b.toArray)=(Mm m b).flatten.toArray:=λm=>by have:=Xo b m [];rw[RL]at this;exact this
  rw[A];cases b with
  |nil=>simp
  |cons a K=>rw[UY ⋯]
 refine N? (T:="list") (U:="int") ⋯ ⟨_,e,rfl⟩ (λJ=>Ul J k t) noFill_list_mul F.fills_int_mul Tf repeat_list F.slot_int_index.lookup
  (Pn Tf (Ul s k t) F.entry_int_rmul (F.args_int_rmul_2 _ _) (int___rmul___int_list k t l b.toArray n)
    ⟨e,rfl,⟨_,e,rfl⟩,Pn F.slot_list_mul ⟨_,e,rfl⟩ F.entry_list_mul (F.args_list_mul_2 _ _) (AutoListH.list___mul___list_int_3 l b.toArray n k t o j p) ⟨e,?_⟩⟩)
 rw[w];exact⟨.ref _,_,I.U2 (t':=s.toks) (r.rep k.toNat) (by rw[WQ,SQ];exact f),rfl,q _ I.fresh⟩
end
end L2
namespace Att
open PySem PySem.W PySem.Calls PyProof.Rows
theorem Xi:∀(ns:List Int) (vs:List dy),WellAll P h vs (ns.map WData.int)->P6 vs ns:=by
 intro ns
 induction ns with
 |nil=>
  intro vs w;rw[TV]at w;cases w;exact .nil
 | cons n ns I=>
  intro vs w;rw[MT]at w;cases w with
  |cons a b=>
   cases a;exact .cons _ _<|I _ b
theorem fK{l:OpenLaw}{n:Nat}(hn:l.most=cq n){P:Params}{h:et}{args:List WData}{U:List dy}
 (Y:l.row.toRowW.claim.pre args=cI) (z:WellAll P h U args):
 ∃a vs ns,U=[MP a]/\args=[WData.list (ns.map WData.int)]/\h.get? a=cq {cls:=.type "list",data:=.seq vs.toArray}/\P6 vs ns/\ns.length<=n:=by
 have b:WShape.hasAll [] args [.list .int]=cI:=(pre_splitW Y).1;have Z:l.pre.holds [] {args:=args}=cI:=(pre_splitW Y).2;obtain⟨d,r,rfl,g,i⟩:=hasAllW_cons b;obtain rfl:=hasAllW_nil i;obtain⟨s,rfl,j⟩:=hasW_list g;obtain⟨ns,rfl⟩:=items_int j;have e:ns.length<=n:=by
  unfold OpenLaw.pre at Z;have I:(WTm.not<|.lt (.lit<|.int (n:Int))<|.len<|.arg 0).holds [] {args:=[.list (ns.map .int)]}=cI:=by have I:=(holds_andW Z).1;rw[hn]at I;exact I
  have O:=condW_of I<|w_not<|w_lt w_lit<|w_len_list<|w_arg rfl;rw[MN]at O;refine Nat.le_of_not_lt λq=>?_;have m:(n:Int)<((ns.length:Nat):Int):=⋯
  first
   |(rw[decide_eq_true m]at O;exact absurd O ⋯)
   |(simp at O;lia)
 cases z with
 |cons o p=>
  cases p;cases o with
  |list k f=>exact⟨_,_,ns,rfl,rfl,k,Xi ns _ f,e⟩
theorem gA(l:OpenLaw)(args:List WData):l.row.toRowW.claim.post args (.bool cI) args=cI:=
 postW_of (r:=l.row.toRowW) (X:=(cI==cI))
  (show WShape.has [] (.bool cI) .bool=cI by first|rfl|decide|simp[WShape.has,WShape.arms,WShape.armsAll])
  (show(WTm.eq .res<|.lit<|.bool cI).value [] {args:=args,res:=cq (.bool cI),after:=args}=cq (.bool<|true==cI)from w_eq_bool (w_res rfl) w_lit) rfl
theorem AL{l:OpenLaw}{n:Nat}{q:f9}{O:List Str}{U:(Str->Option dy)->et->Prop}{Z:f6->et->Prop}{d:DefRec}
 (hn:l.most=cq n) (a2:d.params.defaults=[])
 (call:∀(w:f6) (h8 I:d9) (mg mb:UZ) (fa:dt) (o:i5) (pm cd z:dy) (a:dt) (vs:List dy) (ns:List Int),
   Ground q O [] U w h8 mg mb I.heap->Z w I.heap->
   I.heap.get? fa=cq o->o.data=.func (docDef d.name d.params d.body d.scope pm cd z)->I.heap.CodeRec cd d.name->mg d.name=cq (.ref fa)->
   I.heap.get? a=cq {cls:=.type "list",data:=.seq vs.toArray}->P6 vs ns->ns.length<=n->I.gens = #[]->
   codeAny (ef l.prog w) D5 (.call (.ref fa) ⟨[.ref a],[]⟩) (λr s'=>r=.ok (.ret<|.bool cI)/\OldK I.heap s'.heap/\s'.os=I.os/\C9 s'.gens) I):
 WalkO q O U Z l.row.toRowW d [] (λf vs=>PySem.call f vs):=by
 intro w h8 I mg mb G Y fa o pm cd z p kV B x g e h y b E as i F H j J;obtain rfl:p=.none:=Dflts.none e a2;obtain rfl:kV=.none:=Dflts.noKw e;obtain⟨a,vs,ns,rfl,rfl,k,ad,m⟩:=fK hn i j;refine enter_call<|RG (call w h8 I mg mb fa o pm cd z a vs ns G Y B (fd_plain x) g h k ad m y) λr s' C=>?_;obtain⟨rfl,s,t,u⟩:=C;exact⟨.inl ⟨.bool cI,.bool cI,[],rfl,λ_=>rfl,.bool cI,gA l _,λ_=>⟨Rb.nil,λ_ A=>(nomatch A)⟩⟩,s,t,u⟩
end Att
namespace L2
open PySem PySem.Spec PyProof.Rows
theorem YK:∀{vs:List dy} {ns:List Int},P6 vs ns->ft (ns.map V.int) vs
 |_,_,.nil=>.nil
 |_,_,.cons n t h=>.cons ⟨t,rfl⟩ (YK h)
def Gp(H:Hp):Prop:=∀b,H b=da\/∃o a,H b=cq (.rn o<|.lst a)
theorem oh{P:f9}{w:f6}{K:Mj}{mg mb:UZ}{CX:vt}{k:Nat}{fa a:dt}{fd:q7}{x:Str}{sp:Sp}{I:d9}{vs:List dy}{ns:List Int}
 (KX:K.In I.heap) (a3:I.heap.Ns pa mg) (O:I.heap.Ns z_ mb) (ac:∀x:Str,x ≠ "__name__"->mb x=B3 x) (ad:I.heap.NoLimit) (hg:I.gens = #[])
 (ha:I.heap.get? a=cq {cls:=.type "list",data:=.seq vs.toArray}) (hi:P6 vs ns) (hl:ns.length<=fh) (hr:m5 k D5)
 (F:∀base:et,K.In base->base.Ns pa mg->q5 P w K mg base CX k fa fd [x] sp) (am:∀(s:d9) (u:dy),P2 s fd ⟨[u],[]⟩ [(x,u)])
 (an:∀H:Hp,Gp H->gE K H a (ns.map V.int)->sp [.ref a] H (λv _=>v=.bl cI) λ_ _ _=>False)
 (ap:∀H e s',CX [] H I (λ_ _ _=>False) e s'->False):
 codeAny (ef P w) D5 (.call (.ref fa) ⟨[.ref a],[]⟩) (λr s'=>r=.ok (.ret<|.bool cI)/\OldK I.heap s'.heap/\s'.os=I.os/\C9 s'.gens) I:=by
 have C:=YK hi;have E:=hi.length;have p:∀H:Hp,Gp H->gE K H a (ns.map V.int)->kv P w H I.heap->(∀b,H b≠da->b=a)->(H a≠da->K.lookup a=da)->
  codeAny (ef P w) D5 (.call (.ref fa) ⟨[.ref a],[]⟩) (λr s'=>r=.ok (.ret<|.bool cI)/\OldK I.heap s'.heap/\s'.os=I.os/\C9 s'.gens) I:=by
  intro H B W j A S;have f:∀{b:dt} {o:i5},I.heap.get? b=cq o->H b=da->(oF I.heap H).get? b=cq o:=λe n=>oE e n;have ax:∀{b:dt} {o:i5} {i:Array DictEntry} {U:Nat},I.heap.get? b=cq o->o.data=.dict i U->H b=da:=λ{b o i U} e d=>by
   cases q:H b with
   |none=>rfl
   |some u=>
    have l:b=a:=A b (by rw[q];simp);subst l;rw[ha]at e;cases e;have J:Data.seq vs.toArray _=Data.dict i U:=d;cases J
  have Z:∀{b:dt} {m:UZ},I.heap.Ns b m->(oF I.heap H).Ns b m:=λ{b m} ⟨o,i,U,e,d,r⟩=>⟨o,i,U,f e<|ax e d,d,r⟩;have t:K.In (oF I.heap H):=λb o e=>f (KX b o e) (by
   cases q:H b with
   |none=>rfl
   |some u=>
    have l:b=a:=A b (by rw[q];simp);subst l;rw[S (by rw[q];simp)]at e;cases e)
  have T:Mod K mg (oF I.heap H):=⟨t,Z a3,⟨mb,Z O,ac⟩,let ⟨X,Q,R⟩:=ad;⟨X,Z Q,R⟩⟩;have L:xC P w K mg (oF I.heap H) D5 [] I H:=⟨rfl,T,λb o e=>uO e,Nat.le_of_eq<|iP _ _,trivial,λb O=>absurd (show b∈([]:List dt)from O) ⋯,j,.of_eq hg⟩;refine RG ((F _ t<|Z a3).run D5 [] I H ⟨[.ref a],[]⟩ [.ref a] [.ref a] _ _ hr L (am I<|.ref a) (.cons rfl .nil) (an H B W)) λr s' h=>?_;cases r with
  |error e=>exact(ap H e s' h).elim
  | ok N=>
   cases N with
   |next=>exact Oq h
   |brk=>exact Oq h
   |cont=>exact Oq h
   | ret u=>
    obtain⟨v,H',os,g,un,G,r',q⟩:=h;have q':v=.bl cI:=q;subst q';obtain rfl:u=Value.bool cI:=r';refine⟨rfl,OldK.of_keep λb o e=>?_,os,g⟩;cases q:H b with
    |none=>exact un.keep b o e q (by intro z;exact absurd (show b∈([]:List dt)from z) ⋯) ⋯
    | some u=>
     rcases B b with z|⟨ob,xs,z⟩
     ·rw[q]at z;cases z
     ·have z2:=un.tu b ob _ z
      obtain⟨y,_⟩:=j b _ z;obtain⟨M,_⟩:=G b _ z2;rw[e]at y;cases y;exact M
 cases hk:K.lookup a with
 |some o=>
  have e:=KX a o hk;rw[ha]at e;cases e;refine p (λ_=>da) (λ_=>.inl rfl) (.inr ⟨_,vs.toArray,_,hk,rfl,rfl,rfl,by rw[Ms,E];exact hl,by simpa using C⟩) (λb u z=>by have Y:(da:Option HO)=cq u:=z;cases Y) (λb z=>absurd rfl z) λz=>absurd rfl z
 | none=>
  refine p (λb=>if b=a then cq (.rn {cls:=.type "list",data:=.seq vs.toArray} (.lst (ns.map V.int)))else da) (λb=>?_) (.inl (.inr ⟨{cls:=.type "list",data:=.seq vs.toArray},UJ rfl⟩)) (λb u z=>?_) (λb z=>?_) λ_=>hk
  ·by_cases O:b=a
   ·exact .inr ⟨_,_,UJ O⟩
   ·exact .inl<|UY O
  ·by_cases O:b=a
   ·have Y:=(UJ O).symm.trans z
    cases Y;subst O;exact⟨ha,by rw[MN];exact hl,vs,_,C,ha⟩
   ·have Y:=(UY O).symm.trans z
    cases Y
  ·by_cases O:b=a
   ·exact O
   ·exact absurd (UY O) z
abbrev nr{K:Mj}{h:et}(_:K.In h):Mj:=K
theorem sD{l:PySem.W.OpenLaw}{n k:Nat}{q:f9}{Z:List Str}{XP:(Str->Option dy)->et->Prop}{I:f6->et->Prop}{d:DefRec}{K:Params->Mj}{CX:f6->vt}{sp:f6->Sp}{x:Str}
 (hn:l.most=cq n) (a2:n<=fh) (a3:d.params.defaults=[]) (hr:m5 k D5)
 (hY:∀(w:f6) (h:et),I w h->(K w.params).In h)
 (F : ∀(w:f6) (z:UZ) (fa:dt) (h:et),(K w.params).In h->h.Ns pa z->z d.name=cq (.ref fa)->
   ∃fd:q7,(∀(s:d9) (u:dy),P2 s fd ⟨[u],[]⟩ [(x,u)])/\
    ∀base:et,(K w.params).In base->base.Ns pa z->q5 l.prog w (K w.params) z base (CX w) k fa fd [x] (sp w))
 (a6:∀(w:f6) (H:Hp) (a:dt) (ns:List Int),ns.length<=n->Gp H->gE (K w.params) H a (ns.map V.int)->sp w [.ref a] H (λv _=>v=.bl cI) λ_ _ _=>False)
 (a7:∀(w:f6) (H:Hp) (s:d9) (e:dy) (s':d9),CX w [] H s (λ_ _ _=>False) e s'->False):
 PySem.W.WalkO q Z XP I l.row.toRowW d [] (λf vs=>PySem.call f vs):=by
 refine Att.AL hn a3 λw j i z N fa o P J r a vs ns G Y M L E m p ad O C=>?_;have U:=hY w _ Y;obtain⟨fd,B,t⟩:=F w z fa _ U G.T.g m;exact oh U G.T.g G.T.b G.T.builtins G.T.nolimit C p ad (Nl O a2) hr t B (λH y A=>a6 w H a ns O y A) λH e s'=>a7 w H i e s'
theorem Fp{l:PySem.W.OpenLaw}{n k:Nat}{q:f9}{O:List Str}{U:(Str->Option dy)->et->Prop}{I:f6->et->Prop}{d:DefRec}{K:Params->Mj}{CX:vt}{sp:Mj->Sp}{x:Str}
 (hn:l.most=cq n) (Y:n<=fh) (Z:d.params.defaults=[]) (hr:m5 k D5)
 (hY:∀(w:f6) (h:et),I w h->(K w.params).In h)
 (F : ∀(w:f6) (z:UZ) (fa:dt) (h:et),(K w.params).In h->h.Ns pa z->z d.name=cq (.ref fa)->
   ∃fd:q7,(∀(s:d9) (u:dy),P2 s fd ⟨[u],[]⟩ [(x,u)])/\
    ∀base:et,(K w.params).In base->base.Ns pa z->q5 l.prog w (K w.params) z base CX k fa fd [x] (sp<|K w.params))
 (a3:∀(K:Mj) (H:Hp) (a:dt) (ns:List Int),ns.length<=n->Gp H->gE K H a (ns.map V.int)->sp K [.ref a] H (λv _=>v=.bl cI) λ_ _ _=>False)
 (a4:∀(H:Hp) (s:d9) (e:dy) (s':d9),CX [] H s (λ_ _ _=>False) e s'->False):
 PySem.W.WalkO q O U I l.row.toRowW d [] (λf vs=>PySem.call f vs):=
 sD (K:=K) (CX:=λ_=>CX) (sp:=λw=>sp<|K w.params) hn Y Z hr hY F (λw H a ns b g i=>a3 (K w.params) H a ns b g i) λ_ H s e s'=>a4 H s e s'
def wg(s:gB):Arguments:=match s with
 |.FunctionDef _ a _ _ _ _ _ _ _ _=>a
 |_=>{posonlyargs:=[],args:=[],vararg:=da,kwonlyargs:=[],kw_defaults:=[],kwarg:=da,defaults:=[]}
def qF(s:gB):List gB:=match s with
 |.FunctionDef _ _ b _ _ _ _ _ _ _=>b
 |_=>[]
def z9(s:gB):gx:=match s with
 |.FunctionDef _ _ _ _ _ _ a _ _ _=>a
 |_=>{kind:=.function,names:=[],isGenerator:=di,isCoroutine:=di}
abbrev sa:vt:=λ_ _ _ _ _ _=>False
abbrev E0:XK:=λ_ _ _=>False
theorem CS:md sa X E0:=λ_ _ _ _ _ _ _ h=>h.elim
structure A5(K:Mj)(x qual:Str)(st:gB)(f:dt)(fd:q7):Prop where
 ex:∃(oc:dy) (od:Option dt) (kV doc pm:dy) (an:Option dt) (Ht ct:dy) (DQ:Array (Option dy)),
  fd=OW x qual (wg st) (qF st) (z9 st) .none kV doc pm an Ht ct/\K.lookup f=cq ⟨oc,od,.func fd,DQ⟩/\RR K Ht qual=cI
 kp:OB K (.ref f)=cI
section
variable{P:f9}{w:f6}{K:Mj}{mg:UZ}{base:et}
theorem A5.ok{x qual:Str}{st:gB}{f:dt}{Z:q7}{N ps:List Str}{k:Nat}{sp:Sp}(F:A5 K x qual st f Z)(S:M5 N ps (z9 st))(len:∀vs H Q E,sp vs H Q E->vs.length=ps.length)
 (I:∀(z:dy) (A:ij) (outer:List j1) (s:d9) (H:Hp) (vs:List V) (Q:VK) (E:XK),m5 k (A.deeper<|envOfC qual (z9 st) s.heap.objs.size f z)->sp vs H Q E->
   ∃t,r0 (VQ sa P w K mg base N qual (z9 st) f z A outer s H E).ly (qF st) t/\t {nx:=λ_ H'=>Q .ej H',rt:=Q} (QE N vs) H):q5 P w K mg base sa (k+1) f Z ps sp:=by
 obtain⟨g,i,kV,a,j,d,z,e,b,rfl,lk,O⟩:=F.ex;refine Ap lk O S len λA outer s H vs Q E U Y=>?_;obtain⟨t,h,q⟩:=I z A outer s H vs Q E U Y;exact⟨t,h.ly,q⟩
theorem A5.binds{x qual:Str}{st:gB}{f:dt}{fd:q7}{ps:List Str}(F:A5 K x qual st f fd)
 (h:∀(kV O Z:dy) (Y:Option dt) (z ct:dy) (us:List dy),us.length=ps.length->R6 (OW x qual (wg st) (qF st) (z9 st) .none kV O Z Y z ct) ⟨us,[]⟩=pure (ps.zip us)):Binds K fd ps []:=by
 obtain⟨b,d,kV,O,Z,Y,z,ct,a,rfl,lk,I⟩:=F.ex;exact .all<|h kV O Z Y z ct
theorem rQ{x qual:Str}{st:gB}{f:dt}{oc:dy}{od Y:Option dt}{O:Array (Option dy)}{kV I Z z ct:dy}(l:K.lookup f=cq ⟨oc,od,.func<|OW x qual (wg st) (qF st) (z9 st) .none kV I Z Y z ct,O⟩)
 (c:RR K z qual=cI) (k:OB K (.ref f)=cI):A5 K x qual st f (OW x qual (wg st) (qF st) (z9 st) .none kV I Z Y z ct):=⟨⟨oc,od,kV,I,Z,Y,z,ct,O,rfl,l,c⟩,k⟩
end
def gm(H H':Hp):Prop:=∀b o,H b=cq o->H' b=cq o
theorem gm.refl(H:Hp):gm H H:=λ_ _ h=>h
theorem gm.trans(a:gm H H1)(b:gm H1 H2):gm H H2:=λc o h=>b c o<|a c o h
theorem gm.free(e:gm H H')(h:H' l=Option.none):H l=Option.none:=by
 cases q:H l with
 |none=>rfl
 |some o=>
  rw[e l o q]at h;cases h
theorem gm.seq{K:Mj}{H H':Hp}{a:dt}{xs:List V}(e:gm H H')(h:gE K H a xs):gE K H' a xs:=by
 rcases h with(h|⟨o,h⟩)|h
 ·exact .inl<|.inl<|e _ _ h
 ·exact .inl<|.inr ⟨o,e _ _ h⟩
 ·exact .inr h
def VR(cells:List (Str×dt)):List (Str×A8)->List (Str×dt)->List (Str×dt)
 |[],acc=>acc
 |(n,k)::r,acc=>VR cells r<|if k==MZ then (match cells.lookup n with|some c=>(n,c)::acc|none=>acc)else acc
theorem wm(f:Str×A8->List (Str×dt)->l6 (ForInStep<|List<|Str×dt))
 (z:∀name kind O,f (name,kind) O=if kind==MZ then (do let a<-cellOf env name;pure (.yield ((name,a)::O)))else pure (.yield O)):
 ∀(names:List (Str×A8)) (acc:List (Str×dt)),(∀n,(n,MZ)∈names->∃c,env.cells.lookup n=cq c)->
  forIn names acc f=(pure (VR env.cells names acc):l6 _)
 |[],acc,_=>by rw[PF];rfl
 | (n,k)::r,acc,h=>by
  rw[Pp,z];have U:∀n,(n,MZ)∈r->∃c,env.cells.lookup n=cq c:=λm b=>h m<|MO _ b;unfold VR;by_cases I:(k==MZ)=cI
  ·rw[UJ I,UJ I]
   have Z:k=MZ:=by simpa using I
   subst Z;obtain⟨c,Y⟩:=h n MS;have e:cellOf env n=pure c:=by unfold cellOf;rw[Y]
   rw[e,Y];exact wm f z r _ U
  ·rw[UY I,UY I]
   exact wm f z r acc U
theorem Yt(h:∀n,(n,MZ)∈scope.names->∃c,env.cells.lookup n=cq c):
 closureFor scope env=pure (VR env.cells scope.names []):=by
 simp only[closureFor];rw[wm (env:=env) _ (λb a I=>by cases hk:a==MZ<;>simp[hk]) scope.names [] h];rfl
theorem yA
 (I:Q {scope:=scope,locals:=s.heap.objs.size,globals:=globals,cells:=wh (s.heap.objs.size+1) scope.names cl,qual:=qual,func:=da,code:=env.code,frame:=env.frame,builtins:=env.builtins}
   {s with heap:=DR (s.heap.push {cls:=.type "dict",data:=.dict #[]}) scope.names}):
 wpAny M A (P' scope globals cl [] qual da .none (cq env)) Q E s:=by
 simp only[P',Option.isSome_some,if_true];refine Mi (wpAny_alloc ?_);refine Mi (wpAny_layCells _ (λb a cells=>by cases k?:a==OX<;>simp[k?]) _ _ _ _ ?_);rw[show({s with heap:=s.heap.push {cls:=.type "dict",data:=.dict #[]}}:d9).heap.objs.size=s.heap.objs.size+1 from MM ..];exact Mi (Mo (Mo I))
theorem aV:∀{names:List (Str×A8)} {acc:List (Str×dt)},(n,c)∈VR cells names acc->(n,c)∈acc\/((n,MZ)∈names/\cells.lookup n=cq c)
 |[],acc,h=>.inl h
 | (m,k)::r,acc,h=>by
  unfold VR at h;rcases aV h with g|⟨h1,O⟩
  ·clear h
   by_cases I:(k==MZ)=cI
   ·rw[UJ I]at g
    have U:k=MZ:=by simpa using I
    subst U;cases e:cells.lookup m with
    |none=>rw[e]at g;exact .inl g
    |some Y=>
     rw[e]at g;rcases Mr.mp g with g|g
     ·cases g;exact .inr ⟨MS,e⟩
     ·exact .inl g
   ·rw[UY I]at g;exact .inl g
  ·exact .inr ⟨MO _ h1,O⟩
theorem Xb:∀{names:List (Str×A8)} {acc:List (Str×dt)},((acc.lookup n).isSome=cI\/((n,MZ)∈names/\(cells.lookup n).isSome=cI))->((VR cells names acc).lookup n).isSome=cI
 |[],acc,h=>by
  rcases h with h|⟨h,_⟩
  ·exact h
  ·cases h
 | (m,k)::r,acc,h=>by
  unfold VR;apply Xb;by_cases O:(k==MZ)=cI
  ·rw[UJ O]
   have Y:k=MZ:=by simpa using O
   subst Y;cases e:cells.lookup m with
   | none=>
    rcases h with h|⟨h1,I⟩
    ·exact .inl h
    ·rcases Mr.mp h1 with h1|h1
     ·cases h1;rw[e]at I;cases I
     ·exact .inr ⟨h1,I⟩
   | some Z=>
    dsimp only;by_cases U:n=m
    ·subst U;left;simp
    ·rcases h with h|⟨h1,I⟩
     ·left;rw[NL];split<;>simp_all
     ·rcases Mr.mp h1 with h1|h1
      ·cases h1;exact absurd rfl U
      ·exact .inr ⟨h1,I⟩
  ·rw[UY O]
   rcases h with h|⟨h1,I⟩
   ·exact .inl h
   ·rcases Mr.mp h1 with h1|h1
    ·cases h1;exact absurd rfl O
    ·exact .inr ⟨h1,I⟩
theorem kO:∀{names:List (Str×A8)} {k:Nat} {acc:List (Str×dt)},(n,c)∈wh k names acc->(n,c)∈acc\/(k<=c/\(n,OX)∈names)
 |[],_,_,h=>.inl h
 | (m,kd)::r,k,acc,h=>by
  unfold wh at h;split at h
  ·rename_i O
   have U:kd=OX:=by simpa using O
   subst U;rcases kO h with h|⟨h1,I⟩
   ·rcases Mr.mp h with h|h
    ·cases h;exact .inr ⟨Mq _,MS⟩
    ·exact .inl h
   ·exact .inr ⟨⋯,MO _ I⟩
  ·rcases kO h with h|⟨h1,I⟩
   ·exact .inl h
   ·exact .inr ⟨h1,MO _ I⟩
theorem vf:∀{names:List (Str×A8)} {k:Nat} {acc:List (Str×dt)},(∀p∈acc,∀q∈acc,p.2=q.2->p.1=q.1)->(∀p∈acc,p.2<k)->
 ∀p∈wh k names acc,∀q∈wh k names acc,p.2=q.2->p.1=q.1
 |[],_,_,h,_=>h
 | (m,kd)::r,k,acc,h,hl=>by
  unfold wh;split
  ·refine vf (λp I q O e=>?_) (λp I=>?_)
   ·rcases Mr.mp I with rfl|I<;>rcases Mr.mp O with rfl|O
    ·rfl
    ·have U:k=q.2:=e
     exact absurd (U ▸ hl q O)<|Nq _
    ·have U:p.2=k:=e
     exact absurd (U ▸ hl p I)<|Nq _
    ·exact h p I q O e
   ·rcases Mr.mp I with rfl|I
    ·exact Ou _
    ·exact NM<|hl p I
  ·exact vf h hl
theorem Xs:∀{names:List (Str×A8)} {h:et} {acc:List (Str×dt)} {n:Str} {c:dt},(n,c)∈wh h.objs.size names acc->(n,c)∈acc\/(DR h names).IsCell c da
 |[],_,_,_,_,hm=>.inl hm
 | (m,kd)::r,h,acc,n,c,hm=>by
  unfold wh at hm;unfold DR;split at hm
  ·rename_i I
   rw[UJ I];have e:h.objs.size+1=(h.push {cls:=.type "cell",data:=.cell da}).objs.size:=(MM ..).symm;rw[e]at hm;rcases Xs hm with hm|hm
   ·rcases Mr.mp hm with hm|hm
    ·cases hm
     have O:(h.push {cls:=.type "cell",data:=.cell da}).IsCell h.objs.size da:=⟨{cls:=.type "cell",data:=.cell da},My _ rfl,rfl⟩;exact .inr (O.keeps λb o q=>Sl _ _ b o q)
    ·exact .inl hm
   ·exact .inr hm
  ·rename_i I
   rw[UY I];exact Xs hm
theorem wQ{Y:Type}{l:List (Str×Y)}(z:(l.map (·.1)).Nodup):∀{n:Str} {a:Y},(n,a)∈l->l.lookup n=cq a:=by
 induction l with
 |nil=>intro n a h;cases h
 | cons p r I=>
  intro n a h;obtain⟨m,b⟩:=p;rw[MT,PX]at z;rw[NL];rcases Mr.mp h with h|h
  ·cases h;simp
  ·have O:(n==m)=di:=by
    have:n≠m:=λe=>z.1 (by rw[<-e];exact Na.mpr ⟨(n,a),h,rfl⟩);simpa using this
   rw[O];exact I z.2 h
theorem wY(scope:gx)(env:j1)(x:Str):(B8 scope env).names.lookup x =
 (scope.names.lookup x).map λk=>if (k==MZ&&env.scope.kind ==.function&&env.kindOf x==cq .cell)then OX else k:=by
 unfold B8;dsimp only;generalize scope.names=l
 induction l with
 |nil=>rfl
 | cons p r O=>
  obtain⟨n,k⟩:=p;rw[MT];cases hx:x==n with
  |true=>
   have e:x=n:=by simpa using hx
   subst e;rw[NL,NL];dsimp only;by_cases I:(k==MZ&&env.scope.kind ==.function&&env.kindOf x==cq .cell)=cI
   ·rw[UJ I,beq_self_eq_true];dsimp only[Tx];rw[UJ I]
   ·rw[UY I,beq_self_eq_true];dsimp only[Tx];rw[UY I]
  |false=>
   have:∀U,Ti x ((n,U)::(r.map λx=>match x with|(n,k)=>if (k==MZ&&env.scope.kind ==.function&&env.kindOf n==cq .cell)=cI then (n,OX)else (n,k)))=Ti x (r.map λx=>match x with|(n,k)=>if (k==MZ&&env.scope.kind ==.function&&env.kindOf n==cq .cell)=cI then (n,OX)else (n,k)):=λU=>by rw[NL,hx]
   rw[NL (k:=n),hx];dsimp only;split
   ·rw[this];exact O
   ·rw[this];exact O
def J4(scope:gx)(env:j1)(L:dt):j1:=
 {scope:=B8 scope env,locals:=L,globals:=env.globals,cells:=wh (L+1) scope.names<|VR env.cells scope.names [],qual:=env.qual,func:=da,code:=env.code,frame:=env.frame,builtins:=env.builtins}
def jP(X:Cx)(scope:gx)(I:List Str)(fp:List dt)(z:d9)(O:Hp):Cx:=
 {X with N:=I,h8:=z,DD:=O,env:=J4 scope X.env<|z.heap.objs.size+1,outer:=X.stack,stack:=X.stack,ex:=fp,fn:=λx=>scope.names.lookup x==cq .cell,pn:=[],xe:=λ_ _=>False}
structure vu(X:Cx)(scope:gx)(fr:List (Str×Nat)):Prop where
 kind:scope.kind=.function
 nd:(scope.names.map (·.1)).Nodup
 free:∀p∈scope.names,p.2=MZ->X.env.kindOf p.1=cq .cell\/X.env.kindOf p.1=cq .free
 fr:∀p∈fr,scope.names.lookup p.1=cq .free/\X.N[p.2]? = cq p.1
def pZ(own:List Str)(z:List (Str×Nat))(I:St):St:=own.map (λ_=>da)++z.map λp=>(I[p.2]?).join
abbrev WN:i5:={cls:=.type "list",data:=.seq #[]}
abbrev rW:i5:={cls:=.type "dict",data:=.dict #[]}
theorem oA{X:Cx}{pins:UQ}{σ:St}{H2:Hp}{s2:d9}{scope:gx}{own:List Str}{fr:List (Str×Nat)}{fp:List dt}(I:Inv X pins σ H2 s2)(ok:vu X scope fr)
 (a5:∀b∈fp,Zg X pins H2 b) (ar:∀b∈fp,∃o,s2.heap.get? b=cq o):
 Inv (jP X scope (own++fr.map (·.1)) fp s2 H2) [] (pZ own fr σ) (upd H2 s2.heap.objs.size<|.lst []) {s2 with heap:=DR ((s2.heap.push WN).push rW) scope.names}:=by
 have J:(s2.heap.push WN).objs.size=s2.heap.objs.size+1:=MM ..;have z2:((s2.heap.push WN).push rW).objs.size=s2.heap.objs.size+2:=by rw[MM,J]
 have Z n c:(n,c)∈VR X.env.cells scope.names []->(n,MZ)∈scope.names/\X.env.cells.lookup n=cq c:=λh=>(aV h).resolve_left ⋯;have ad n c:X.env.cells.lookup n=cq c->c<s2.heap.objs.size:=λh=>by obtain⟨v,q⟩:=I.cell n c h;exact q.lt
 have K:∀p∈VR X.env.cells scope.names [],p.2<s2.heap.objs.size+1+1:=λp U=>by exact NM<|NM<|ad p.1 p.2 (Z p.1 p.2 U).2
 have a x c:(J4 scope X.env<|s2.heap.objs.size+1).cells.lookup x=cq c->((x,MZ)∈scope.names/\X.env.cells.lookup x=cq c)\/(s2.heap.objs.size+2<=c/\(x,OX)∈scope.names):=λh=>by
  rcases kO (mem_of_lookup h)with h|h
  ·exact .inl<|Z x c h
  ·exact .inr h
 have B x:(x,MZ)∈scope.names->∃c,X.env.cells.lookup x=cq c/\(J4 scope X.env<|s2.heap.objs.size+1).cells.lookup x=cq c:=λl=>by
  obtain⟨c,d⟩:=I.ok.has x<|ok.free (x,.free) l rfl;have t:((VR X.env.cells scope.names []).lookup x).isSome=cI:=Xb<|.inr ⟨l,by rw[d];rfl⟩;have j:=PU scope.names (s2.heap.objs.size+2) (VR X.env.cells scope.names [])<|.inr t;obtain⟨G,C⟩:=Ny.mp j;refine⟨c,d,?_⟩;rcases a x G C with⟨_,q⟩|⟨_,q⟩
  ·rw[d]at q;cases q;exact C
  ·exact absurd ((wQ ok.nd q).symm.trans (wQ ok.nd l)) ⋯
 have keep b o:s2.heap.get? b=cq o->(DR ((s2.heap.push WN).push rW) scope.names).get? b=cq o:=λe=>
  Sl _ _ b o (Mk _<|Mk _ e)
 have an:∀b∈fp,b<s2.heap.objs.size:=λb O=>by obtain⟨o,e⟩:=ar b O;exact Mt e
 have fresh:H2 s2.heap.objs.size=da:=I.eH.fresh<|Mq _;have E c:s2.heap.objs.size<c->(upd H2 s2.heap.objs.size<|.lst []) c=da:=λd=>by rw[zE (Oh d)];exact I.eH.fresh<|SS d
 obtain⟨m0,L⟩:∃m,(DR ((s2.heap.push WN).push rW) scope.names).Ns (s2.heap.objs.size+1) m:=by have q:=(Heap.Ns.new (s2.heap.push WN) (.type "dict")).keeps (λb o e=>Sl scope.names _ b o e);rw[J]at q;exact⟨_,q⟩
 refine⟨⟨I.ok.mod,ok.kind,I.ok.glob,I.ok.blt,SF _,λx y c t j=>?_,λx l=>?_,λx c T h=>?_,I.ok.hd,I.ok.frames,.inl rfl,λb O=>⟨?_,λx c h z=>?_⟩,λb o e=>I.bs b o e,?_,λb o e O=>?_,λb O hs=>?_,I.stack,I.O7⟩,
  rfl,I.bare,Un.laid keep (Mq _) fresh,⟨m0,L,λi x v H Y e3=>?_⟩,λx c h=>?_,?_,λx c h=>?_,λp U=>?_,?_,?_⟩
 ·have q:=vf (names:=scope.names) (k:=s2.heap.objs.size+2) (acc:=VR X.env.cells scope.names []) (λp U q hq e=>I.ok.inj p.1 q.1 p.2 (Z _ _ U).2 (by rw[e];exact(Z _ _ hq).2)) K
  exact q (x,c) (mem_of_lookup t) (y,c) (mem_of_lookup j) rfl
 ·have f:(B8 scope X.env).names.lookup x=cq .cell\/(B8 scope X.env).names.lookup x=cq .free:=l
  have:scope.names.lookup x=cq .cell\/scope.names.lookup x=cq .free:=by
   rw[wY]at f;cases e:scope.names.lookup x with
   |none=>rw[e]at f;simp at f
   |some k=>
    rw[e]at f;cases k<;>simp at f ⊢
  rcases this with h|h
  ·exact Ny.mp<|PU scope.names _ _<|.inl h
  ·obtain⟨c,_,j⟩:=B x<|mem_of_lookup h;exact⟨c,j⟩
 ·have M:(scope.names.lookup x==cq .cell)=cI:=T
  have N:scope.names.lookup x=cq .cell:=by simpa using M
  rcases a x c h with⟨q,_⟩|⟨q,_⟩
  ·exact absurd ((wQ ok.nd q).symm.trans N) ⋯
  ·exact Nl (MF _ 2) q
 ·exact ME<|NM<|an b O
 ·rcases a x c h with⟨_,q⟩|⟨q,_⟩
  ·exact(a5 b O).2.2.2.2.1 x c q z
  ·exact absurd (MA (an b O)<|Nl (MF _ 2)<|z ▸ q)<|Nq _
 ·exact Nl I.ok.y9 I.sz
 ·rcases (a5 b O).2.2.2.1 with q|q
  ·exact I.ok.L4 b o e q
  ·exact absurd (MA (Mt e)<|Nl I.ok.y9 q)<|Nq _
 ·rcases Mr.mp (I.L9 b hs)with q|q
  ·exact(a5 b O).2.1 q
  ·exact(a5 b O).2.2.1 q
 ·have hi:i<(own++fr.map (·.1)).length:=(MR.mp H).1
  by_cases s:i<own.length
  ·unfold pZ at Y
   rw[Oa (by simpa using s)]at Y;simp[NC,s]at Y
  ·have W:∃p,fr[i-own.length]? = cq p/\p.1=x/\(σ[p.2]?).join=cq v:=by
    unfold pZ at Y;have g:(own++fr.map (·.1))[i]? = cq x:=H;rw[NX ⋯,NC]at g;rw[NX (by simpa using s),NC,MN]at Y;cases q:fr[i-own.length]? with
    |none=>rw[q]at g;cases g
    |some p=>
     rw[q]at g Y;exact⟨p,rfl,by simpa using g,by simpa using Y⟩
   obtain⟨p,U,P,r⟩:=W;obtain⟨g1,g2⟩:=ok.fr p<|RA U;rw[P]at g1 g2;have w:σ[p.2]? = cq (cq v):=by
    cases q:σ[p.2]? with
    |none=>rw[q]at r;cases r
    |some o=>rw[q]at r;simpa using r
   have F:=ok.free (x,.free) (mem_of_lookup g1) rfl;obtain⟨m,hn,hl⟩:=I.loc;obtain⟨u,ru,lk⟩:=hl p.2 x v g2 w (by rcases F with k|k;exact .inr<|.inl k;exact .inr<|.inr k);refine⟨u,ru,.inr ?_⟩;obtain⟨c,Q,R⟩:=B x<|mem_of_lookup g1;have S:s2.heap.IsCell c (cq u):=by
    rcases lk with⟨k,_⟩|⟨_,G,e,z⟩
    ·rcases F with k'|k'<;>rw[k]at k'<;>cases k'
    ·rw[Q]at e;cases e;exact z
   refine⟨?_,c,R,S.keeps keep⟩;show(B8 scope X.env).names.lookup x=cq .cell\/(B8 scope X.env).names.lookup x=cq .free;rw[wY,g1];dsimp only[Tx];split
   ·exact .inl rfl
   ·exact .inr rfl
 ·rcases kO (mem_of_lookup h)with q|q
  ·obtain⟨v,A⟩:=I.cell x c (Z x c q).2
   exact⟨v,A.keeps keep⟩
  ·have q2:=mem_of_lookup h
   have q3:(x,c)∈wh ((s2.heap.push WN).push rW).objs.size scope.names (VR X.env.cells scope.names []):=by rw[z2];exact q2
   rcases Xs q3 with q4|q4
   ·obtain⟨v,A⟩:=I.cell x c (Z x c q4).2
    exact⟨v,A.keeps keep⟩
   ·exact⟨da,q4⟩
 ·exact E _<|Ou _
 ·rcases a x c h with⟨_,q⟩|⟨q,_⟩
  ·rw[zE (ME<|ad x c q)];exact I.u7 x c q
  ·exact E c<|MA (NM<|Ou _) q
 ·exact absurd (show p∈([]:UQ)from U) ⋯
 ·refine I.eH.laid keep (Mq _) ⟨NJ _,[],0,.nil,?_⟩
  exact Sl _ _ _ _<|Mk _<|My _ rfl
 ·show(pZ own fr σ).length=(own++fr.map (·.1)).length
  simp[pZ]
theorem wV(I:Nat->d9->Prop)
 (a4 : ∀n s,I n s->wpAny (ef prog w) A (u9 it) (λr O=>match r with
   |none=>R (.ok .next) O
   | some v=>wpAny (ef prog w) A (S7 target it v) (λ_ O=>wpAny (ef prog w) A (C6 target env v) (λ_ Y=>
    wpAny (ef prog w) A (forIn ifs cI λc r=>if r=cI then do let ok<-D8 c env (eh c env);pure (Sw ok)else pure (Sw r)) (λok U=>
     if ok=cI then wpAny (ef prog w) A (eh elt env) (λx Z=>
      wpAny (ef prog w) A (call (.builtin "list.append") [acc,x]) (λ_ z=>∃m,m<n/\I m z) (λ_ _=>False) Z) (λ_ _=>False) U
     else ∃m,m<n/\I m U) (λ_ _=>False) Y) (λ_ _=>False) O) (λ_ _=>False) O) (λ_ _=>False) s)
 (n:Nat) (h:I n s):
 codeAny (ef prog w) A (.compLoop (.ListComp elt [⟨target,iter,ifs,0⟩] scope pos) 0 it acc env) R s:=by
 refine codeAny_loop rfl I (λn s j=>?_) n h;show wpAny _ A ((compTurn (.ListComp elt [⟨target,iter,ifs,0⟩] scope pos) 0 it acc env).onRaise (λx=>do Ta x env;theTreesLotGoes x)) _ _ s;refine wpAny_noted ?_;rw[compTurn_list];refine Mi<|Rr<|Mi<|MG (a4 n s j) (λr O b=>?_) λ_ _ a=>a.elim;cases r with
 |none=>exact Mo b
 | some v=>
  refine Mi<|MG b (λ_ k i=>?_) λ_ _ a=>a.elim;refine Mi<|MG i (λ_ Y e=>Mi<|MG e (λok U d=>?_) λ_ _ a=>a.elim) λ_ _ a=>a.elim;cases ok with
  |false=>exact Mo ⟨rfl,d⟩
  |true=>
   exact Mi<|Mi<|MG d (λx Z f=>Mi<|MG f (λ_ z g=>Mo<|Mo ⟨rfl,g⟩) λ_ _ a=>a.elim) λ_ _ a=>a.elim
def Bo(X:Cx)(z:List eo)(t:TT):Prop:=
 ∀(a:UQ) (s:d9) (b:St) (H:Hp) (Q:Bool->Hp->Prop),Inv X a b H s->t b H Q->
  wpAny (ef X.prog X.w) X.A (forIn z cI λc r=>if r=cI then do let ok<-D8 c X.env (eh c X.env);pure (Sw ok)else pure (Sw r)) (TP X a b Q) X.xe s
def GF:TT:=λ_ H Q=>Q cI H
theorem aN:Bo X [] GF:=λ_ _ _ H _ I h=>wpAny_tests_nil ⟨H,I,h⟩
theorem aM(h:PT X c t):Bo X [c] t:=λa s b H Q I O=>wpAny_tests_one<|h a s b H Q I O
def CW(J:It)(g:TG)(Y:TT)(z:TE)(D:dt)(Q:VK)(W:Nat->Nat->List V->St->Hp->Prop):Prop:=
 ∀i m a f H,W i m a f H->H D=cq (.lst a)/\((J.stop i H/\Q (.ref D) H)\/(J.go i H/\a.length<fh/\∀x e,J.DB i H x e->g x f e λI h=>Y I h λb O=>
  if b=cI then z I O λv U=>U D=cq (.lst a)/\∃d,d<m/\W (i+1) d (a++[v]) I (upd U D<|.lst<|a++[v])else ∃d,d<m/\W (i+1) d a I O))
def pA(X:Cx)(z:UQ)(H:Hp)(L:dt):Prop:=
 H L=da/\L≠X.env.locals/\X.h8.heap.objs.size<=L/\(∀x c,X.env.cells.lookup x=cq c->c≠L)/\∀p∈X.pn++z,p.1≠L
theorem ph
 (hc:X.calm=cI) (I:Inv X pins σ H2 s2) (ok:vu X scope fr) (T:Turn X.prog X.w X.K tg J fp it tn) (st:tn 0 s2.heap) (Y:∀b∈fp,Zg X pins H2 b)
 (hg:PG (jP X scope (own++fr.map (·.1)) fp s2 H2) tg g) (ht:Bo (jP X scope (own++fr.map (·.1)) fp s2 H2) ifs tt) (he:PE (jP X scope (own++fr.map (·.1)) fp s2 H2) elt te)
 (hW:∀D,H2 D=da->∃W:Nat->Nat->List V->St->Hp->Prop,(∃m,W 0 m [] (pZ own fr σ) (upd H2 D<|.lst []))/\CW J g tt te D Q W):
 wpAny (ef X.prog X.w) X.A (newList []) (λacc C?=>wpAny (ef X.prog X.w) X.A (P' scope X.env.globals (VR X.env.cells scope.names []) [] X.env.qual da .none (cq X.env)) (λac D?=>
  codeAny (ef X.prog X.w) X.A (.compStart (.ListComp elt [⟨tg,iter,ifs,0⟩] scope pos) 0 (.ref it) acc {ac with scope:=B8 scope X.env})
   (λr s'=>(∃f,r=.ok f)/\∃D H',acc=.ref D/\Inv X pins σ H' s'/\Q (.ref D) H'/\(∃m,s'.heap.Ns ac.locals m)/\pA X pins H' ac.locals) D?) E C?) E s2:=by
 have as:∀b∈fp,∃o,s2.heap.get? b=cq o:=λb O=>by obtain⟨o,e,_⟩:=T.obj 0 _ st b O;exact⟨o,e⟩
 have H:=oA (own:=own) I ok Y as;obtain⟨W,⟨m0,w0⟩,cw⟩:=hW _ I.fresh;refine NY<|yA ?_;have z1:(s2.heap.push WN).objs.size=s2.heap.objs.size+1:=MM ..;show codeAny _ _ (.compStart _ 0 (.ref it) (.ref s2.heap.objs.size) {scope:=B8 scope X.env,locals:=(s2.heap.push WN).objs.size,globals:=X.env.globals,cells:=wh ((s2.heap.push WN).objs.size+1) scope.names<|VR X.env.cells scope.names [],qual:=X.env.qual,func:=da,code:=X.env.code,frame:=X.env.frame,builtins:=X.env.builtins})
  (λr s'=>(∃f,r=.ok f)/\∃D H',MP s2.heap.objs.size=.ref D/\Inv X pins σ H' s'/\Q (.ref D) H'/\(∃m,s'.heap.Ns (s2.heap.push WN).objs.size m)/\pA X pins H' (s2.heap.push WN).objs.size) {s2 with heap:=DR ((s2.heap.push WN).push rW) scope.names}
 rw[z1];have ax:tn 0 (DR ((s2.heap.push WN).push rW) scope.names):=T.keep 0 _ _ st λb _ o e=>Sl _ _ b o<|Mk _<|Mk _ e;have c0:∀b∈fp,b<s2.heap.objs.size:=λb O=>by obtain⟨o,e⟩:=as b O;exact Mt e
 have ad:∀{H':Hp},(∀b∈fp,H' b=da)->∀b∈fp,Zg (jP X scope (own++fr.map (·.1)) fp s2 H2) [] H' b:=λhn b O=>
  ⟨hn b O,(H.ok.O1 b O).1,H.ok.I8 b O,.inl O,(H.ok.O1 b O).2,λp hp=>absurd (show p∈([]:UQ)from hp) ⋯⟩
 have b0:codeAny (ef X.prog X.w) X.A (.compLoop (.ListComp elt [⟨tg,iter,ifs,0⟩] scope pos) 0 (.ref it) (.ref s2.heap.objs.size)<|J4 scope X.env<|s2.heap.objs.size+1)
  (λr s'=>(∃f,r=.ok f)/\∃D H',MP s2.heap.objs.size=.ref D/\Inv X pins σ H' s'/\Q (.ref D) H'/\(∃m,s'.heap.Ns (s2.heap.objs.size+1) m)/\pA X pins H' (s2.heap.objs.size+1)) {s2 with heap:=DR ((s2.heap.push WN).push rW) scope.names}:=by
  refine wV (λn s'=>∃i t y H',Inv (jP X scope (own++fr.map (·.1)) fp s2 H2) [] y H' s'/\tn i s'.heap/\(∀b∈fp,H' b=da)/\W i n t y H') ?_ m0
   ⟨0,[],_,_,H,ax,λb O=>by rw[zE (ME<|c0 b O)];exact(Y b O).1,w0⟩
  rintro n s3 ⟨i,t,a,C,I3,b4,b5,w3⟩;obtain⟨hD,c2⟩:=cw i n t a C w3;rcases c2 with⟨s,qn⟩|⟨go,hz,step⟩
  ·refine fe (T.done (jP X scope (own++fr.map (·.1)) fp s2 H2) rfl rfl rfl hc i [] s3 a C _ I3 (ad b5) b4 s) λr s4 U=>?_
   obtain⟨hr,Z⟩:=U;subst hr;refine⟨⟨_,rfl⟩,_,C,rfl,I.A_ (ch:=fp) Z.os Z.base Z.eH Z.bare<|λb O=>⟨(Y b O).2.2.2.1,(Y b O).2.1,(Y b O).2.2.2.2.1,(Y b O).2.2.2.2.2⟩,qn,?_,Z.free,?_,?_,?_,?_⟩
   ·obtain⟨m,hn,_⟩:=Z.loc
    exact⟨m,hn⟩
   ·exact Oh<|NM I.lt
   ·exact Nat.le_succ_of_le I.sz
   ·intro x c e z
    obtain⟨v,q⟩:=I.cell x c e;exact absurd (NM q.lt) (by rw[z];exact Nq _)
   ·intro p hp z
    exact absurd (NM<|Mt (I.pin p hp).1) (by rw[z];exact Nq _)
  ·refine fe (T.item (jP X scope (own++fr.map (·.1)) fp s2 H2) rfl rfl rfl hc i [] s3 a C _ I3 (ad b5) b4 go) λr s4 U=>?_
   obtain⟨u,hr,h4⟩:=U;subst hr;refine fe h4 λ_ s5 U=>?_;obtain⟨x,H5,I5,r5,y5,P,c9⟩:=U;have ca:=I5.pinned (ad c9)<|T.obj _ _ P;refine fe (hg _ s5 a H5 x u _ ca r5<|step x H5 y5) λ_ s6 U=>?_;obtain⟨h,H6,I6,q6⟩:=U;refine fe (ht _ s6 h H6 _ I6 q6) λb s7 U=>?_;obtain⟨H7,L,M⟩:=U;have after:∀{B:St} {G:Hp} {l:d9},Inv (jP X scope (own++fr.map (·.1)) fp s2 H2) ([]++Y9 fp s5.heap) B G l->tn (i+1) l.heap/\∀b∈fp,G b=da:=λ{B G l} j=>by refine⟨T.keep _ _ _ P λb O o e=>(j.pin (b,o)<|MH _<|MH _<|wO O e).1,λb O=>?_⟩;obtain⟨o,e,d⟩:=T.obj _ _ P b O;exact(j.pin (b,o)<|MH _<|MH _<|wO O e).2.1
   cases b with
   |false=>
    rw[UY MJ]at M ⊢;obtain⟨m',S,w7⟩:=M;exact⟨m',S,i+1,t,h,H7,L.P0,(after L).1,(after L).2,w7⟩
   |true=>
    rw[UJ rfl]at M ⊢;refine fe (he _ s7 h H7 _ L M) λv8 l U=>?_;obtain⟨x8,G,j,r8,bb,m',S,w8⟩:=U;obtain⟨zaf,k,n8,rv,cv,R⟩:=j.Ds bb;refine Pn F.slot_list_append ⟨_,R,rfl⟩ F.entry_list_append (F.args_list_append_2 _ _) (PySem.list_append _ k.toArray n8 v8<|by rw[Ms];lia) ⟨R,?_⟩;have N:=j.DP (its':=k++[v8]) (f:=(·.push v8)) (t':=l.toks) bb R ⋯ (rv.append<|.cons r8 .nil) (by rw[Nv,OM];lia);exact⟨m',S,i+1,t++[x8],h,_,N.P0,(after N).1,(after N).2,w8⟩
 exact codeAny_compStart_list b0<|T.self _ 0 _ _ _ ax b0
def mL(Y:TI)(own:List Str)(z:List (Str×Nat))(g:TG)(O:TT)(I:TE):TE:=λb H Q=>Y b H λJ a=>∀D,a D=da->
 ∃W:Nat->Nat->List V->St->Hp->Prop,(∃m,W 0 m [] (pZ own z b) (upd a D<|.lst []))/\CW J g O I D Q W
section
variable{X:Cx}{scope:gx}{own:List Str}{fr:List (Str×Nat)}{elt tg iter:eo}{ifs:List eo}{pos:e8}{wi:TI}{g:TG}{tt:TT}{te:TE}
theorem bE
 (O:X.calm=cI) (ok:vu X scope fr) (hi:PI X tg iter wi) (U:∀fp s2 z,PG (jP X scope (own++fr.map (·.1)) fp s2 z) tg g)
 (Y:∀fp s2 z,Bo (jP X scope (own++fr.map (·.1)) fp s2 z) ifs tt) (Z:∀fp s2 z,PE (jP X scope (own++fr.map (·.1)) fp s2 z) elt te)
 (I:Inv X pins σ H s) (h:mL wi own fr g tt te σ H Q)
 (hR:∀D H' s' L,Inv X pins σ H' s'->Q (.ref D) H'->(∃m,s'.heap.Ns L m)->pA X pins H' L->
   compPost (ef X.prog X.w) X.A X.xe use R (.ref D) L (.ok .next) s')
 (hs:∀x,tf iter X.env x=pure x:=by intro _;rfl):
 wpAny (ef X.prog X.w) X.A (comprehension (.ListComp elt [⟨tg,iter,ifs,0⟩] scope pos) scope X.env (firstIterPos [⟨tg,iter,ifs,0⟩] pos) (newList []) di (eh iter X.env) use) R X.xe s:=by
 refine wpAny_comprehension_free rfl hs (Yt λn a=>I.ok.has n<|ok.free (n,.free) a rfl) ok.kind (λx G e=>by rw[<-e];exact wQ ok.nd<|show(x.1,x.2)∈scope.names from G) ?_;refine fe (hi pins s σ H _ I h) λv P o=>fe o λM s2 p=>?_;obtain⟨N,fp,tn,J,z,e,d,T,i,f2,C⟩:=p;subst e;refine fe (ph (own:=own) (Q:=Q) (E:=X.xe) O d ok T i f2 (U fp s2 z) (Y fp s2 z) (Z fp s2 z) C) λk S t=>fe t λj W u=>RG u λr s' B=>?_;obtain⟨⟨f,F⟩,D,H',l,b,q,a,y⟩:=B;subst F;subst l;have K:=hR D H' s' j.locals b q a y;cases use<;>exact K
theorem WD(O:X.calm=cI)(ok:vu X scope fr)(hi:PI X tg iter wi)(U:∀fp s2 z,PG (jP X scope (own++fr.map (·.1)) fp s2 z) tg g)
 (Y:∀fp s2 z,Bo (jP X scope (own++fr.map (·.1)) fp s2 z) ifs tt) (Z:∀fp s2 z,PE (jP X scope (own++fr.map (·.1)) fp s2 z) elt te)
 (hs:∀x,tf iter X.env x=pure x:=by intro _;rfl):
 PE X (.ListComp elt [⟨tg,iter,ifs,0⟩] scope pos) (mL wi own fr g tt te):=by
 intro a s B H Q I h;rw[eval_ListComp];refine bE (use:=da) O ok hi U Y Z I h (λD d l L f q k y=>?_) hs;obtain⟨m,j⟩:=k;obtain⟨p,r,t,u,w⟩:=y;refine⟨m,j,λA n=>⟨.ref D,d,f.turned (t':=l.toks) (it:=L) (λb o i e=>n.extBut b o i e) p r (.inr t) u w,rfl,q⟩⟩
theorem Km(U:X.N.Nodup)(Y:X.N[i]? = cq y)(Z:Loc X.env.scope y)(hf:X.fn y=cI\/X.env.scope.names.lookup y=cq .local)
 (hc:X.calm=cI) (ok:vu X scope fr) (hi:PI X tg iter wi) (hg:∀fp s2 z,PG (jP X scope (own++fr.map (·.1)) fp s2 z) tg g)
 (ht:∀fp s2 z,Bo (jP X scope (own++fr.map (·.1)) fp s2 z) ifs tt) (he:∀fp s2 z,PE (jP X scope (own++fr.map (·.1)) fp s2 z) elt te)
 (hs:∀x,tf iter X.env x=pure x:=by intro _;rfl):
 PS X (.Assign [.Name y py] (.ListComp elt [⟨tg,iter,ifs,0⟩] scope pos) spos) (az (mL wi own fr g tt te)<|v7 i):=by
 have O:∃b:Bool,qq (.ListComp elt [⟨tg,iter,ifs,0⟩] scope pos) (cq (.Name y py)) spos.line X.env=pure b:=⟨_,rfl⟩;obtain⟨b,O⟩:=O;cases b with
 |false=>
  have w:U9 [.Name y py] (.ListComp elt [⟨tg,iter,ifs,0⟩] scope pos) spos.line X.env=qq (.ListComp elt [⟨tg,iter,ifs,0⟩] scope pos) (cq (.Name y py)) spos.line X.env:=rfl;exact gz (WD hc ok hi hg ht he hs) (gJ U Y Z hf) (by rw[w];exact O)
 | true=>
  intro d s S H D I h;rw[exec_Assign_Name_used _ _ _ _ O];refine Mi<|Rr<|Mi ?_;show wpAny _ X.A (do let _<-comprehension (.ListComp elt [⟨tg,iter,ifs,0⟩] scope pos) scope X.env _ (newList []) di (eh iter X.env) (cq (C6 (.Name y py) X.env))) _ _ s;refine Mi<|fe (bE (R:=λ_ f=>SP X d D .next f) (use:=cq (C6 (.Name y py) X.env)) hc ok hi hg ht he I h (λj P f L l q E M=>?_) hs) λ_ f q=>Mo<|Mo q;obtain⟨G,k,J,y4,K⟩:=M;obtain⟨m,C⟩:=E;show wpAny _ _ (C6 (.Name y py) X.env<|.ref j) _ _ _;refine M?<|YV l U Y Z (v:=.ref j) rfl (λn p r=>?_) hf;obtain⟨a,F,B⟩:=r;have t:L≠a:=by
   rcases B with e|e
   ·rw[e];exact k
   ·exact Nr<|y4 _ _ e
  refine⟨m,C.sameBut F t,λQ u=>⟨_,_,p.turned (t':=n.toks) (it:=L) (λb o O e=>u.extBut b o O e) G k (.inr J) y4 K,q⟩⟩
end
inductive Sk where
 |L|T
 deriving DecidableEq
end L2
namespace DL
open PySem L2
inductive D where
 |ej|bl (b:Bool)|int (i:Int)|str (x:Str)|tup (xs:List D)|lst (xs:List D)
 |exc (c:Str) (n:Option Int)
 |n4 (ks vs:List D)
 |o3 (ks:List (List Int)) (vs:List D)
 |ins (c:Str) (p t:D)
inductive Cell where
 |no|val (d:D)|own (ds:List D)|nest (rows:List (List D))
abbrev Ctx:=List Cell
abbrev CO (a : Type) := Ctx -> Option a
abbrev vI(n:Int):Cell:=.val (.int n)
def lim:Nat:=2500
def jD:D->Option (Sk×List D)
 |.tup a=>cq (.T,a)
 |.lst a=>cq (.L,a)
 |_=>da
def zC(f:CO D)(γ:Ctx):Option (Sk×List D):=(f γ).bind jD
def jU(f:CO (List D))(γ:Ctx):Option D:=(f γ).map D.lst
def jH(f:CO (List D))(γ:Ctx):Option (Sk×List D):=(f γ).map λa=>(Sk.L,a)
def lL:Option Cell->Option D
 |some (.val d)=>cq d
 |_=>da
def Zt:Option Cell->Option (Sk×List D)
 |some (.val d)=>jD d
 |some (.own ds)=>cq (.L,ds)
 |_=>da
def zg(i:Nat)(γ:Ctx):Option D:=lL γ[i]?
def zm(i:Nat)(γ:Ctx):Option (Sk×List D):=Zt γ[i]?
noncomputable def qv(d:D):CO D:=λ_=>cq d
abbrev sI(n:Int):CO D:=qv (.int n)
def zG(F:D->D->Option D)(z I:CO D)(γ:Ctx):Option D:=(z γ).bind λx=>(I γ).bind λy=>F x y
def C5:D->Option Bool
 |.bl b=>cq b
 |_=>da
def n5:D->Option Int
 |.int i=>cq i
 |_=>da
def sB(f:CO D)(γ:Ctx):Option Bool:=(f γ).bind C5
def ZD(f g:CO Bool)(γ:Ctx):Option Bool:=(f γ).bind λb=>if b=cI then g γ else cq di
def pS(f g:CO Bool)(γ:Ctx):Option Bool:=(f γ).bind λb=>if b=cI then cq cI else g γ
def QJ(f:CO Bool)(γ:Ctx):Option Bool:=(f γ).map λb=> !b
def tK(f g:CO D)(γ:Ctx):Option D:=((f γ).bind C5).bind λb=>if b=cI then g γ else cq (.bl di)
def Fs(f:CO D)(γ:Ctx):Option D:=((f γ).bind C5).map λb=>.bl (!b)
def cM(c:CO Bool)(f g:CO D)(γ:Ctx):Option D:=(c γ).bind λb=>if b=cI then f γ else g γ
def zB:CO (List D):=λ_=>cq []
def zb(f:CO D)(g:CO (List D))(γ:Ctx):Option (List D):=(f γ).bind λx=>(g γ).map λr=>x::r
def qC(f:CO (List D))(γ:Ctx):Option D:=(f γ).bind λa=>if a.length<=lim then cq (.tup a)else da
def jL(f:CO (List D))(γ:Ctx):Option (List D):=(f γ).bind λa=>if a.length<=lim then cq a else da
inductive Res where
 |val (d:D)|own (ds:List D)
inductive Fl where
 |next (γ:Ctx)|brk (γ:Ctx)|cont (γ:Ctx)|ret (r:Res)
def qD(γ:Ctx):Option Fl:=cq (.next γ)
def zR(F G:CO Fl):CO Fl:=λb=>(F b).bind λI=>match I with
 |.next a=>G a
 |f=>cq f
def qV(f:CO D)(γ:Ctx):Option Fl:=(f γ).map λd=>.ret (.val d)
def yV(f:CO (List D))(γ:Ctx):Option Fl:=(f γ).map λd=>.ret (.own d)
def W5:Option Cell->Option Fl
 |some (.val d)=>cq (.ret<|.val d)
 |some (.own ds)=>cq (.ret<|.own ds)
 |_=>da
def JO(i:Nat)(γ:Ctx):Option Fl:=W5 γ[i]?
def BX(γ:Ctx):Option Fl:=cq (.cont γ)
def QK:CO Fl:=λ_=>da
def i8(k:CO Bool)(F G:CO Fl)(γ:Ctx):Option Fl:=(k γ).bind λb=>if b=cI then F γ else G γ
def jG(i:Nat)(f:CO D)(γ:Ctx):Option Fl:=(f γ).map λd=>.next (γ.set i<|.val d)
def kB(i:Nat)(f:CO (List D))(γ:Ctx):Option Fl:=(f γ).map λa=>.next (γ.set i<|.own a)
def Jg(f:CO D)(γ:Ctx):Option Fl:=(f γ).map λ_=>.next γ
def qh:Option Cell->Option (List D)
 |some (.own ds)=>cq ds
 |_=>da
def yC(i:Nat)(f:CO D)(γ:Ctx):Option Fl:=(qh γ[i]?).bind λa=>(f γ).bind λd=>if a.length<lim then cq (.next<|γ.set i<|.own<|a++[d])else da
def zN(n:Nat)(ds:List D):Ctx:=ds.map Cell.val++Mm (n-ds.length) Cell.no
noncomputable def jv(n:Nat)(F:CO Fl)(ds:List D):Option Res:=(F<|zN n ds).bind λI=>match I with
 |.ret r=>cq r
 |.next _=>cq (.val .ej)
 |_=>da
def fW:Res->D
 |.val d=>d
 |.own a=>.lst a
def zD(F:List D->Option Res)(g:CO (List D))(γ:Ctx):Option D:=(g γ).bind λa=>(F a).map fW
def Fw:Res->Option (List D)
 |.own a=>cq a
 |_=>da
def jf(F:List D->Option Res)(g:CO (List D))(γ:Ctx):Option (List D):=(g γ).bind λa=>(F a).bind Fw
def JE(lo:Int)(n:Nat):List D:=(Ml n).map λ(i:Nat)=>D.int<|lo+(i:Int)
def wW(ds es:List D):List D:=(ds.zip es).map λp=>D.tup [p.1,p.2]
def zY(f:CO (Sk×List D))(γ:Ctx):Option (List D):=(f γ).map (·.2)
def inR(i:Int):Bool:=decide<|i.natAbs<2^62
def jS(f:CO D)(γ:Ctx):Option (List D):=((f γ).bind n5).bind λn=>if inR n=cI then cq (JE 0 n.toNat)else da
def Wo(f g:CO D)(γ:Ctx):Option (List D):=((f γ).bind n5).bind λm=>((g γ).bind n5).bind λn=>if inR m=cI/\inR n=cI then cq (JE m (n-m).toNat)else da
def YE(f g:CO D)(γ:Ctx):Option (List D):=((f γ).bind jD).bind λm=>((g γ).bind jD).map λn=>wW m.2 n.2
inductive Tg where
 |nm (i:Nat)|tp (is:List Nat)
def xR:List Nat->List D->Ctx->Ctx
 |i::is,d::ds,γ=>xR is ds<|γ.set i<|.val d
 |_,_,γ=>γ
def kP:Tg->D->CO Ctx
 |.nm i,d,γ=>cq (γ.set i<|.val d)
 |.tp is,.tup ds,γ=>if ds.length=is.length then cq (xR is ds γ)else da
 |_,_,_=>da
def kD(T:Tg)(F:CO Fl):List D->CO Fl
 |[],a=>cq (.next a)
 |d::e,a=>(kP T d a).bind λb=>(F b).bind λO=>match O with
  |.next I=>kD T F e I
  |.cont I=>kD T F e I
  |.brk I=>cq (.next I)
  |.ret r=>cq (.ret r)
def Zk(z:CO (List D))(T:Tg)(F:CO Fl)(γ:Ctx):Option Fl:=(z γ).bind λa=>kD T F a γ
def xT:Cell->Cell
 |.own _=>.no
 |.nest _=>.no
 |c=>c
def jm(n:Nat)(z:List Nat)(γ:Ctx):Ctx:=Mm n Cell.no++z.map λj=>xT<|γ[j]?.getD .no
def zT(T:Tg)(k:CO Bool)(f:CO D)(γ:Ctx):List D->Option (List D)
 |[]=>cq []
 |d::ds=>(kP T d γ).bind λa=>(k a).bind λb=>if b=cI then (f a).bind λe=>(zT T k f γ ds).map λr=>e::r else zT T k f γ ds
def zV(z:CO (List D))(T:Tg)(n:Nat)(I:List Nat)(k:CO Bool)(f:CO D)(γ:Ctx):Option (List D):=(z γ).bind λa=>if a.length<=lim then zT T k f (jm n I γ) a else da
def jO:CO Bool:=λ_=>cq cI
def Tg.idx:Tg->List Nat
 |.nm i=>[i]
 |.tp is=>is
def dI(g:Int->Int->D):D->D->Option D
 |.int i,.int j=>cq (g i j)
 |_,_=>da
def N8(c:Int->Int->Bool)(g:Int->Int->D):D->D->Option D
 |.int i,.int j=>if c i j=cI then cq (g i j)else da
 |_,_=>da
def dU:D->D->Option D:=dI λi j=>.int (i-j)
def XM(i j:Int):Bool:=decide (i.natAbs<2^64) || decide (j.natAbs<2^64)
def EZ(_ j:Int):Bool:=decide (0<j)&&decide (j.natAbs<1073741824)
def JI:D->D->Option D:=N8 EZ λi j=>.int (i/j)
def FU(_ j:Int):Bool:=decide<|0<j
def wj:D->D->Option D:=N8 FU λi j=>.int (i%j)
def EY(i j:Int):Bool:=decide (0<=j)&&decide (j.natAbs<=1000000)&&decide (i.natAbs<2^64)
def Ax:D->D->Option D:=N8 EY λi j=>.int (i^j.toNat)
def DN:D->D->Option D:=dI λi j=>.bl (decide<|i<j)
def UE:D->D->Option D:=dI λi j=>.bl (decide<|i<=j)
def o7:D->D->Option D:=dI λi j=>.bl (decide<|j<i)
def D6:D->D->Option D:=dI λi j=>.bl (decide<|j<=i)
def jX:D->D->Option D
 |.int i,.int j=>cq (.int<|i+j)
 |.tup xs,.tup ys=>if xs.length+ys.length<=lim then cq (.tup<|xs++ys)else da
 |_,_=>da
def yS:D->D->Option D
 |.int i,.int j=>if XM i j=cI then cq (.int<|i*j)else da
 |.tup xs,.int j=>if xs.length*j.toNat<=lim/\inR j=cI then cq (.tup (Mm j.toNat xs).flatten)else da
 |_,_=>da
def Jh(f g:CO (Sk×List D))(γ:Ctx):Option (List D):=(f γ).bind λa=>(g γ).bind λb=>
 match a.1,b.1 with
 |.L,.L=>if a.2.length+b.2.length<=lim then cq (a.2++b.2)else da
 |_,_=>da
def KQ(f:CO (Sk×List D))(g:CO D)(γ:Ctx):Option (List D):=(f γ).bind λa=>((g γ).bind n5).bind λj=>
 match a.1 with
 |.L=>if a.2.length*j.toNat<=lim/\inR j=cI then cq (Mm j.toNat a.2).flatten else da
 |_=>da
def hM(n:Nat)(i:Int):Option Nat:=if 0<=i/\i<n then cq i.toNat else if i<0/\0<=i+n then cq (i+n).toNat else da
def dj(f:CO (Sk×List D))(g:CO D)(γ:Ctx):Option D:=(f γ).bind λa=>((g γ).bind n5).bind λi=>(hM a.2.length i).bind λk=>a.2[k]?
def fP(i:Nat)(g f:CO D)(γ:Ctx):Option Fl:=(f γ).bind λd=>(qh γ[i]?).bind λa=>((g γ).bind n5).bind λk=>(hM a.length k).map λj=>.next (γ.set i<|.own<|a.set j d)
def W2(n dflt:Nat):Option Int->Nat
 |none=>dflt
 |some i=>if i<0 then (i+n).toNat else min i.toNat n
def eM(xs:List D)(lo z:Option Int):List D:=(xs.drop<|W2 xs.length 0 lo).take (W2 xs.length xs.length z-W2 xs.length 0 lo)
def Wp:CO (Option Int):=λ_=>cq da
def ro(f:CO D)(γ:Ctx):Option (Option Int):=((f γ).bind n5).map cq
def aC(f:CO D)(l h:CO (Option Int))(γ:Ctx):Option D:=(f γ).bind λd=>(l γ).bind λlo=>(h γ).bind λa=>match d with
 |.tup b=>cq (.tup<|eM b lo a)
 |_=>da
def JP(f:CO (Sk×List D))(γ:Ctx):Option D:=(f γ).map λa=>.int a.2.length
inductive Ty where
 |int|bool|str|tuple|list
 deriving DecidableEq
@[simp] def rP:D->Bool
 |.int _=>cI
 |.bl _=>cI
 |_=>di
@[simp] def EC:D->Bool
 |.bl _=>cI
 |_=>di
@[simp] def rL:D->Bool
 |.str _=>cI
 |_=>di
@[simp] def rK:D->Bool
 |.tup _=>cI
 |_=>di
@[simp] def rO:D->Bool
 |.lst _=>cI
 |_=>di
def rJ:Ty->D->Bool
 |.int=>rP
 |.bool=>EC
 |.str=>rL
 |.tuple=>rK
 |.list=>rO
def DT(T:Ty)(f:CO D)(γ:Ctx):Option D:=(f γ).map λd=>.bl (rJ T d)
@[simp] def e?:D->Bool
 |.ej=>cI
 |_=>di
@[simp] def eqB(a:Bool):D->Bool
 |.bl b=>a==b
 |.int b=>(if a then 1 else 0)==b
 |_=>di
@[simp] def S0(a:Int):D->Bool
 |.bl b=>a==(if b then 1 else 0)
 |.int b=>a==b
 |_=>di
@[simp] def S1(a:Str):D->Bool
 |.str b=>a==b
 |_=>di
@[simp] def f?(a:Str)(i:Option Int):D->Bool
 |.exc b j=>a==b&&i==j
 |_=>di
mutual
def jn:D->D->Bool
 |.ej,y=>e? y
 |.bl a,y=>eqB a y
 |.int a,y=>S0 a y
 |.str a,y=>S1 a y
 |.tup xs,y=>match y with
  |.tup e=>zj xs e
  |_=>di
 |.lst xs,y=>match y with
  |.lst e=>zj xs e
  |_=>di
 |.exc a i,y=>f? a i y
 |.n4 a b,y=>match y with
  |.n4 c d=>zj a c&&zj b d
  |_=>di
 |.o3 a b,y=>match y with
  |.o3 c d=>a==c&&zj b d
  |_=>di
 |.ins a b c,y=>match y with
  |.ins I O U=>a==I&&(jn b O&&jn c U)
  |_=>di
def zj:List D->List D->Bool
 |[],[]=>cI
 |x::xs,y::ys=>jn x y&&zj xs ys
 |_,_=>di
end
mutual
def deep:D->Nat
 |.tup a=>zi a+1
 |.lst a=>zi a+1
 |_=>0
def zi:List D->Nat
 |[]=>0
 |x::xs=>max (deep x)<|zi xs
end
mutual
def i9:D->Bool
 |.str x=>x.cps.all (· < 0x110000)
 |.exc _ _=>di
 |.n4 _ _=>di
 |.o3 _ _=>di
 |.ins _ _ _=>di
 |.tup a=>qi a
 |.lst a=>qi a
 |_=>cI
def qi:List D->Bool
 |[]=>cI
 |x::xs=>i9 x&&qi xs
end
def l8(d:D):Bool:=decide (deep d<=20)&&i9 d
def gw(x y:D):Option D:=if l8 x=cI/\l8 y=cI then cq (.bl<|jn x y)else da
def mc(x y:D):Option D:=if l8 x=cI/\l8 y=cI then cq (.bl<|!jn x y)else da
def EW:D->D->Option D
 |x,.ej=>cq (.bl<|match x with|.ej=>cI|_=>di)
 |_,_=>da
def vj:D->D->Option D
 |x,.ej=>cq (.bl<|match x with|.ej=>di|_=>cI)
 |_,_=>da
def zX(f:CO (Sk×List D))(γ:Ctx):Option D:=(f γ).map λa=>.tup a.2
def QL(f:CO (Sk×List D))(γ:Ctx):Option (List D):=(f γ).map λa=>a.2
def Wk:List D->Option Int
 |[]=>cq 0
 |.int i::r=>(Wk r).map λs=>i+s
 |_::_=>da
def eD(f:CO (Sk×List D))(γ:Ctx):Option D:=(f γ).bind λa=>(Wk a.2).map D.int
def Gz:D->Option Bool
 |.ej=>cq di
 |.bl b=>cq b
 |.int i=>cq (i != 0)
 |_=>da
def YQ:List D->Option (List Bool)
 |[]=>cq []
 |d::r=>(Gz d).bind λb=>(YQ r).map λs=>b::s
def Bi(f:CO (Sk×List D))(γ:Ctx):Option D:=(f γ).bind λa=>(YQ a.2).map λs=>.bl (s.any id)
def cL(f:CO D)(γ:Ctx):Option D:=(f γ).bind λd=>match d with
 |.int i=>cq (.int i)
 |.bl b=>cq (.int<|if b then 1 else 0)
 |_=>da
def cK(f g:CO D)(γ:Ctx):Option D:=((f γ).bind n5).bind λi=>((g γ).bind n5).map λj=>.int (if j>i then j else i)
def BR(f:CO (Sk×List D))(γ:Ctx):Option Bool:=(f γ).map λa=> !a.2.isEmpty
def mV(f:CO D):CO D:=λa=>((f a).bind n5).map λi=>.int (-i)
def fU(F G:D->D->Option D)(I O Y:CO D):CO D:=λa=>(I a).bind λx=>(O a).bind λy=>((F x y).bind C5).bind λb=>if b=cI then (Y a).bind λz=>G y z else cq (.bl di)
def KP(T:Tg)(f:CO D)(γ:Ctx):Option Fl:=(f γ).bind λd=>(kP T d γ).map .next
end DL
namespace L2
open PySem PySem.Spec PyProof.Rows
def g7(k:Sk)(h:et)(i l:dt)(n:Nat):Prop:=match k with
 |.L=>h.IsListIter i l n
 |.T=>h.IsTupleIter i l n
def i7(k:Sk)(h:et)(l:dt)(xs:Array dy):Prop:=match k with
 |.L=>h.IsList l xs
 |.T=>h.IsTuple l xs
def f7(k:Sk)(l:dt):i5:=match k with
 |.L=>{cls:=.type "list_iterator",data:=.fields #[.ref l,.int 0 0]}
 |.T=>{cls:=.type "tuple_iterator",data:=.fields #[.ref l,.int 0 0]}
theorem g7.at(x:g7 k h i l n)(e:∀o,h.get? i=cq o->h'.get? i=cq o):g7 k h' i l n:=by cases k<;>exact let ⟨o,I,r⟩:=x;⟨o,e _ I,r⟩
theorem i7.at(x:i7 k h l xs)(e:∀o,h.get? l=cq o->h'.get? l=cq o):i7 k h' l xs:=by cases k<;>exact let ⟨o,I,r⟩:=x;⟨o,e _ I,r⟩
theorem g7.obj(x:g7 k h i l n):∃o,h.get? i=cq o/\∀v,o.data ≠ .cell v:=by cases k<;>exact let ⟨o,I,_,d⟩:=x;⟨o,I,λv z=>by rw[d]at z;cases z⟩
theorem i7.lt(x:i7 k h l xs):l<h.objs.size:=by cases k<;>exact let ⟨o,I,_⟩:=x;Mt I
theorem wZ(k:Sk)(h:et)(l:dt):g7 k (h.push<|f7 k l) h.objs.size l 0:=by cases k<;>exact⟨_,My _ rfl,rfl,rfl⟩
section
variable{prog:f9}{w:f6}{A:ij}{E:EQ}{s:d9}
theorem Xh(I:i7 k s.heap l xs)(O:Q (.ref s.heap.objs.size) {s with heap:=s.heap.push (f7 k l)}):wpAny (ef prog w) A (T5<|.ref l) Q E s:=by
 cases k
 ·exact Uh I O
 ·exact Sx I O
theorem qy(U:g7 k s.heap it l i)(Y:i7 k s.heap l items)(hx:items[i]? = cq x)
 (Z:∀h',g7 k h' it l (i+1)->Pc it s.heap h'->Q x {s with heap:=h'}):wpAny (ef prog w) A (Mu<|.ref it) Q E s:=by
 cases k with
 |L=>exact wpAny_nextOf_list_item U Y hx Z
 |T=>
  have O:s.heap.IsTupleIter it l i:=U;obtain⟨o,I,e,a⟩:=id O;obtain⟨g,b,_,f,d⟩:=(show s.heap.IsTuple l items from Y);unfold Mu;refine Mi (MY (name:=MU "__next__") O.typeIs Sj (NG Sj O.typeIs d? ?_ (_Y _)));refine Mi (m:=field (.ref it) 0) (MV I a (x:=.ref l) rfl ?_);show wpAny _ _ (if (MP l==NI)=cI then _ else _) _ _ s;rw[UY (show ¬((MP l==NI)=cI)from MJ)];refine Mi (m:=field (.ref it) 1) (MV I a (x:=.int i 0) rfl ?_);refine Mi (m:=U7 (.ref l)) (Nk b d ?_);simp only[Oj,hx];refine Mi (wpAny_setField I a ⋯ (Mo ⟨x,rfl,Mo (Z _ ?_ (p_ ..))⟩));show Heap.IsTupleIter _ it l (i+1);exact⟨_,Nu _ I (Obj.isFreed_of_fields (TJ a _)),(Obj.cls_mapFields ..).trans e,by rw[TJ a];simp[xg]⟩
theorem yq(I:A.handled=da)(Y:g7 k s.heap it l i)(Z:i7 k s.heap l items)(hx:items[i]? = da)
 (hE:∀h' e,Heap.ExtBut it s.heap h'->(∃o,h'.get? e=cq o/\o.cls=.type "StopIteration")->E (.ref e) {s with heap:=h'}):wpAny (ef prog w) A (Mu (.ref it)) Q E s:=by
 cases k with
 |L=>exact wpAny_nextOf_list_end I Y Z hx hE
 |T=>
  have O:s.heap.IsTupleIter it l i:=Y;obtain⟨o,U,g,b⟩:=id O;obtain⟨j,d,_,h,f⟩:=(show s.heap.IsTuple l items from Z);unfold Mu;refine Mi (MY (name:=MU "__next__") O.typeIs Sj (NG Sj O.typeIs d? ?_ (_Y _)));refine Mi (m:=field (.ref it) 0) (MV U b (x:=.ref l) rfl ?_);show wpAny _ _ (if (MP l==NI)=cI then _ else _) _ _ s;rw[UY (show ¬((MP l==NI)=cI)from MJ)];refine Mi (m:=field (.ref it) 1) (MV U b (x:=.int i 0) rfl ?_);refine Mi (m:=U7 (.ref l)) (Nk d f ?_);simp only[Oj,hx];refine Mi (PH (Mi (wpAny_setField U b ⋯ ?_)));refine Mi (m:=newExc (.type "StopIteration") []) ?_;simp only[newExc,newTuple];refine Mi (NY ?_ (by size_fits));refine Mi (m:=UL _ _) (Si (a:=NI) (by first|rfl|(simp only[UL];rfl)) ?_);refine NY ?_ (by size_fits);simp only[raiseNew];refine Mi (wpAny_handled ?_)
  first|rw[show A.in1.handled=da from I]|rw[I]
  exact Mi<|Mo<|wpAny_throw<|hE _ _ (((p_ ..).extBut.push _).push _) ⟨_,My _ rfl,rfl⟩
theorem YF{k1 k2:Sk}{z TI TO i1 i2 l1 l2:dt}{n1 n2:Nat}{xs ys:Array dy}{x y a b:dy}{Q:EQ}(D:B0 z TI TO i1 i2 l1 l2)
 (hz:m3 s.heap z TI TO .none) (b1:l9 s.heap TI (.ref i1) (.ref i2)) (b2:l9 s.heap TO a b)
 (h1:g7 k1 s.heap i1 l1 n1) (h2:g7 k2 s.heap i2 l2 n2) (b4:i7 k1 s.heap l1 xs) (b5:i7 k2 s.heap l2 ys) (hx:xs[n1]? = cq x) (hy:ys[n2]? = cq y)
 (hQ:∀h',m3 h' z TI TO (xg s.heap.objs.size)->l9 h' TO x y->g7 k1 h' i1 l1 (n1+1)->g7 k2 h' i2 l2 (n2+1)->l9 h' s.heap.objs.size x y->h'.objs.size=s.heap.objs.size+1->
   (∀c o,c≠z->c≠TO->c≠i1->c≠i2->s.heap.get? c=cq o->h'.get? c=cq o)->Q (.ref s.heap.objs.size) {s with heap:=h'}):
 wpAny (ef prog w) A (Builtin.«zip.__next__» ⟨[.ref z],[]⟩) (λb8 s'=>∃v,b8=.done (.ret v)/\Q v s') E s:=by
 refine Mi (m:=field (.ref z) 2)<|MV hz rfl (x:=.bool di) rfl ?_;refine Mi (m:=field (.ref z) 3)<|MV hz rfl (x:=.ref TI) rfl ?_;refine Mi<|Nk b1 rfl ?_;refine Mi (m:=MB<|.ref z) ?_;unfold MB;refine Mi<|MV hz rfl (x:=.none) rfl<|Mo ?_;simp only[if_true];refine Mi<|PH<|Mi<|MV hz rfl (x:=.ref TO) rfl ?_;refine Mi<|Nm hz ⋯ λg1 n O=>?_;replace n:m3 g1 z TI TO .ellipsis:=n;refine Mi ?_;simp only[SG,SM,Pp,PF];refine Mi<|Mi<|OU ?_;refine Mi (m:=Mu<|.ref i1)<|qy (h1.at λo e=>O.extBut _ _ D.i1z e) (b4.at λo e=>O.extBut _ _ D.l1z e) hx λg2 L Y=>Mo ?_;have F:l9 g2 TO a b:=Y.extBut _ _ D.TOi1<|O.extBut _ _ D.TOz b2;refine Mi<|Nk F rfl<|Mi<|TF F λg3 p Z=>?_;replace p:l9 g3 TO x b:=p;refine Mi<|C2<|Mo<|Mi<|Mi<|OU ?_;refine Mi (m:=Mu<|.ref i2)<|qy (h2.at λo e=>Z.extBut _ _ D.TOi2.symm<|Y.extBut _ _ D.i12.symm<|O.extBut _ _ D.i2z e) (b5.at λo e=>Z.extBut _ _ D.l2TO<|Y.extBut _ _ D.l2i1<|O.extBut _ _ D.l2z e) hy λR M d=>Mo ?_;have G:l9 R TO x b:=d.extBut _ _ D.TOi2 p;refine Mi<|Nk G rfl<|Mi<|TF G λI i f=>?_;replace i:l9 I TO x y:=i;refine Mi<|C2<|Mo<|Mo<|Mi<|Nk i rfl<|Mi<|R0 ?_;have h:I.objs.size=s.heap.objs.size:=by rw[f.1,d.1,Z.1,Y.1,O.1]
 have H:m3 I z TI TO .ellipsis:=f.extBut _ _ D.TOz.symm (d.extBut _ _ D.i2z.symm (Z.extBut _ _ D.TOz.symm (Y.extBut _ _ D.i1z.symm n)));have bi c o:c≠z->c≠TO->c≠i1->c≠i2->s.heap.get? c=cq o->I.get? c=cq o:=λU k B C e=>f.extBut _ _ k (d.extBut _ _ C (Z.extBut _ _ k (Y.extBut _ _ B (O.extBut _ _ U e))));have bl:g7 k1 I i1 l1 (n1+1):=L.at λo e=>f.extBut _ _ D.TOi1.symm (d.extBut _ _ D.i12 (Z.extBut _ _ D.TOi1.symm e));have N:g7 k2 I i2 l2 (n2+1):=M.at λo e=>f.extBut _ _ D.TOi2.symm e;have as:z<I.objs.size:=Mt H;refine Mi (m:=NF (.ref z) (.ref I.objs.size)) ?_;unfold NF;have P:m3 (I.push {cls:=.type "tuple",data:=.seq #[x,y]}) z TI TO .ellipsis:=Mk _ H;refine Mi (Nm P ⋯ λS r t=>?_);replace r:m3 S z TI TO (xg I.objs.size):=r;refine Nm r ⋯ λg j u=>?_;replace j:m3 g z TI TO (xg I.objs.size):=j;have l c o:c≠z->I.get? c=cq o->g.get? c=cq o:=λU e=>u.extBut _ _ U (t.extBut _ _ U (Mk _ e));have J:l9 g I.objs.size x y:=u.extBut _ _ (Oh as) (t.extBut _ _ (Oh as) (My _ rfl));have K:g.objs.size=I.objs.size+1:=by rw[u.1,t.1,MM]
 rw[h]at j J K;refine Mo ⟨_,rfl,?_⟩;show Q (.ref I.objs.size) _;rw[h];exact hQ g j (l _ _ D.TOz i) (bl.at λo e=>l _ o D.i1z e) (N.at λo e=>l _ o D.i2z e) J K λc o U k B C e=>l c o U<|bi c o U k B C e
theorem af{k1 k2:Sk}{z TI TO i1 i2 l1 l2:dt}{n1 n2:Nat}{xs ys:Array dy}{a b:dy}{Q:Fin->d9->Prop}(hh:A.handled=da)(D:B0 z TI TO i1 i2 l1 l2)
 (hz:m3 s.heap z TI TO .none) (an:l9 s.heap TI (.ref i1) (.ref i2)) (ap:l9 s.heap TO a b)
 (h1:g7 k1 s.heap i1 l1 n1) (h2:g7 k2 s.heap i2 l2 n2) (ac:i7 k1 s.heap l1 xs) (ar:i7 k2 s.heap l2 ys) (as:xs[n1]? = da\/ys[n2]? = da)
 (hE:∀h' e,(∀c o,c≠z->c≠TO->c≠i1->c≠i2->s.heap.get? c=cq o->h'.get? c=cq o)->(∃o,h'.get? e=cq o/\o.cls=.type "StopIteration")->E (.ref e) {s with heap:=h'}):
 wpAny (ef prog w) A (Builtin.«zip.__next__» ⟨[.ref z],[]⟩) Q E s:=by
 refine Mi (m:=field (.ref z) 2) (MV hz rfl (x:=.bool di) rfl ?_);refine Mi (m:=field (.ref z) 3) (MV hz rfl (x:=.ref TI) rfl ?_);refine Mi (Nk an rfl ?_);refine Mi (m:=MB (.ref z)) ?_;unfold MB;refine Mi (MV hz rfl (x:=.none) rfl (Mo ?_));simp only[if_true];refine Mi (PH (Mi (MV hz rfl (x:=.ref TO) rfl ?_)));refine Mi (Nm hz ⋯ λg1 k I=>?_);replace k:m3 g1 z TI TO .ellipsis:=k;refine Mi ?_;simp only[SG,SM,Pp,PF];refine Mi (Mi (OU ?_));have ad:∀{g e:_} {Z:i5},m3 g z TI TO .ellipsis->(∀c o,c≠z->c≠TO->c≠i1->c≠i2->s.heap.get? c=cq o->g.get? c=cq o)->g.get? e=cq Z->Z.cls=.type "StopIteration"->
  wpAny (ef prog w) A (L7 (.ref z) 0 .none) (λ_ B=>E (.ref e) B) E {s with heap:=g}:=λ{g e Z} j hk U d=>by
  have u:e≠z:=λq=>by subst q;rw[j]at U;cases U;simp at d
  exact Nm j ⋯ λg3 _ Y=>hE g3 e (λc o f l i n q=>Y.extBut _ _ f<|hk c o f l i n q) ⟨Z,Y.extBut _ _ u U,d⟩
 cases hx:xs[n1]? with
 |none=>
  refine Mi (m:=Mu<|.ref i1)<|yq hh (h1.at λo e=>I.extBut _ _ D.i1z e) (ac.at λo e=>I.extBut _ _ D.l1z e) hx λg2 e O p=>?_;obtain⟨Z,U,d⟩:=p;exact ad (O _ _ D.i1z.symm k) (λc o f _ i _ q=>O _ _ i<|I.extBut _ _ f q) U d
 |some x=>
  have y:ys[n2]? = da:=by rcases as with h|h;rw[hx]at h;cases h;exact h
  refine Mi (m:=Mu<|.ref i1)<|qy (h1.at λo e=>I.extBut _ _ D.i1z e) (ac.at λo e=>I.extBut _ _ D.l1z e) hx λg2 C O=>Mo ?_;have r:l9 g2 TO a b:=O.extBut _ _ D.TOi1<|I.extBut _ _ D.TOz ap;refine Mi<|Nk r rfl<|Mi<|TF r λg3 F Y=>?_;refine Mi<|C2<|Mo<|Mi<|Mi<|OU ?_;refine Mi (m:=Mu<|.ref i2)<|yq hh (h2.at λo e=>Y.extBut _ _ D.TOi2.symm<|O.extBut _ _ D.i12.symm<|I.extBut _ _ D.i2z e) (ar.at λo e=>Y.extBut _ _ D.l2TO<|O.extBut _ _ D.l2i1<|I.extBut _ _ D.l2z e) y λG e t p=>?_;obtain⟨Z,U,d⟩:=p;exact ad (t _ _ D.i2z.symm<|Y.extBut _ _ D.TOz.symm<|O.extBut _ _ D.i1z.symm k) (λc o f l i n q=>t _ _ n<|Y.extBut _ _ l<|O.extBut _ _ i<|I.extBut _ _ f q) U d
end
def k8(a b:dy):i5:={cls:=.type "tuple",data:=.seq #[a,b]}
def sk(TI TO:dt):i5:={cls:=.type "zip",data:=.fields #[.none,.bool di,.bool di,.ref TI,.ref TO]}
def vF(k1 k2:Sk)(h:et)(z I:dt):et:=
 Mv (Mv (Mv (Mv (Mv h<|f7 k1 z)<|f7 k2 I)<|k8 (.ref h.objs.size)<|.ref<|h.objs.size+1)<|k8 .none .none) (sk (h.objs.size+2)<|h.objs.size+3)
theorem ae(k1 k2:Sk)(z l2:dt)(xs ys:Array dy):
 DZ (Builtin.«zip.__new__» ⟨[.type "zip",.ref z,.ref l2],[]⟩) (λ_ R s=>i7 k1 s.heap z xs/\i7 k2 s.heap l2 ys/\
  R (.ok<|.ret<|.ref<|s.heap.objs.size+4) {s with heap:=vF k1 k2 s.heap z l2}):=
 .of_wp λa w A R s h=>by
  obtain⟨I,g,d,b,os⟩:=s;obtain⟨O,U,h⟩:=h;have f:=sub_zip;have Y:i7 k1 (Ss ⟨I,g,d,b,os⟩) z xs:=O;have Z:i7 k2 (Ss ⟨I.push<|f7 k1 z,g,d,b,os⟩) l2 ys:=U.at λo e=>Mk _ e
  wp_walk using Xh Y,Xh Z
  refine⟨_,rfl,?_⟩;simp only[vF,k8,sk,MM]at h ⊢;exact h
section
variable{X:Cx}{pins:UQ}{σ:St}{H:Hp}{s:d9}{h':et}
theorem Inv.Us{t':Nat}{fp:List dt}{a:dt}{o:HO}(I:Inv X pins σ H s)(k:∀b u,b∉fp->s.heap.get? b=cq u->h'.get? b=cq u)(hf:∀b∈fp,Zg X pins H b)
 (Z:s.heap.objs.size<=a) (new:ir X.prog X.w (upd H a o) h' a o):Inv X pins σ (upd H a o) {s with heap:=h',toks:=t'}:=by
 have d:H a=da:=I.eH.fresh Z;have f b u:H b=cq u->b∉fp:=λe z=>by rw[(hf b z).1]at e;cases e
 have h b u:s.heap.get? b=cq u->b≠a:=λe=>ME<|MA (Mt e) Z;refine I.step (g':=s.gens) (d':=s.drawn) (ch:=fp) (λb O=>⟨(hf b O).2.2.2.1,(hf b O).2.1,(hf b O).2.2.2.2.1,(hf b O).2.2.2.2.2⟩) (λb u _ _ U e _=>k b u U e) (λb u _ _ U e _=>⟨u.slots,k b u U e⟩)
  (λb u _ e n=>by rw[zE (h b u e)];exact n) (λb u U e=>⟨u,k b u U e⟩) (λb g e=>by rw[zE (z6 e d)];exact e) (λb Y g e=>by rw[zE (z6 e d)];exact e)
  (λb t e=>⟨#[],by rw[zE (z6 e d),e];simp⟩) (λm l=>?_) (λb u e=>?_) I.bare
 ·obtain⟨Y,j,i,p,r⟩:=l
  refine⟨Y,j,i,k _ Y (λz=>(hf _ z).2.1 rfl) p,r⟩
 ·by_cases O:b=a
  ·subst O;rw[zF]at e;cases e;exact new
  ·rw[zE O]at e
   refine(I.eH b u e).vl (λc v U q=>k c v ?_ q) (λc q=>by rw[zE (z6 q d)];exact q) λc g q=>by rw[zE (z6 q d)];exact q
   rcases U with z|z
   ·rw[z];exact f b u e
   ·exact f c _ z
theorem Inv.A2{t':Nat}{fp:List dt}(I:Inv X pins σ H s)(k:∀b u,b∉fp->s.heap.get? b=cq u->h'.get? b=cq u)(hf:∀b∈fp,Zg X pins H b):Inv X pins σ H {s with heap:=h',toks:=t'}:=by
 have Z b u:H b=cq u->b∉fp:=λe z=>by rw[(hf b z).1]at e;cases e
 refine I.step (g':=s.gens) (d':=s.drawn) (ch:=fp) (λb U=>⟨(hf b U).2.2.2.1,(hf b U).2.1,(hf b U).2.2.2.2.1,(hf b U).2.2.2.2.2⟩) (λb u _ _ O e _=>k b u O e) (λb u _ _ O e _=>⟨u.slots,k b u O e⟩)
  (λb u _ e n=>n) (λb u O e=>⟨u,k b u O e⟩) (λb a e=>e) (λb Y a e=>e)
  (λb i e=>⟨#[],by rw[e];simp⟩) (λm g=>?_) (λb u e=>?_) I.bare
 ·obtain⟨Y,f,d,h,r⟩:=g
  refine⟨Y,f,d,k _ Y (λz=>(hf _ z).2.1 rfl) h,r⟩
 ·refine(I.eH b u e).vl (λc v O q=>k c v ?_ q) (λc q=>q) λc a q=>q
  rcases O with z|z
  ·rw[z];exact Z b u e
  ·exact Z c _ z
end
def ie(k:Sk)(K:Mj)(H:Hp)(a:dt)(xs:List V):Prop:=match k with
 |.L=>gE K H a xs
 |.T=>gR K H a xs
theorem Inv.sq(I:Inv X pins σ H s)(h:ie k X.K H a xs):
 ∃its:List dy,ft xs its/\i7 k s.heap a its.toArray/\xs.length<=fh:=by
 cases k with
 |L=>obtain⟨its,r,p,z⟩:=I.list h;exact⟨its,r,p.isList,z⟩
 |T=>obtain⟨its,r,p,z⟩:=I.tuple h;exact⟨its,r,p,z⟩
theorem Inv.L8(I:Inv X pins σ H s)(h:ie k X.K H a xs)(h':ie k X.K H a ys):xs=ys:=by
 cases k with
 |L=>exact I.U1 h h'
 |T=>exact I._g h h'
def Uv(k1 k2:Sk)(K:Mj)(a b:dt):It:=
 ⟨λi H=>∃d e,ie k1 K H a d/\ie k2 K H b e/\i<d.length/\i<e.length,
  λi H x f=>∃p u v,x=.ref p/\H p=da/\f=upd H p (.tup [u,v])/\(∀d,ie k1 K H a d->d[i]? = cq u)/\(∀e,ie k2 K H b e->e[i]? = cq v),
  λi H=>∃d e,ie k1 K H a d/\ie k2 K H b e/\(d.length<=i\/e.length<=i)⟩
theorem mF{P:f9}{w:f6}{K:Mj}{elts:List eo}{x1:Nat}{lC:e8}(k1 k2:Sk){z TI TO i1 i2 a b:dt}(D:B0 z TI TO i1 i2 a b):
 Turn P w K (.Tuple elts x1 lC) (Uv k1 k2 K a b) [z,TI,TO,i1,i2] z (λi h=>m3 h z TI TO .none/\l9 h TI (.ref i1) (.ref i2)/\(∃c d,l9 h TO c d)/\g7 k1 h i1 a i/\g7 k2 h i2 b i) where
 mem:=by simp
 obj:=λi h ⟨hz,Y,⟨c,d,Z⟩,h1,h2⟩ y hy=>by
  simp only[Mr,MD,or_false]at hy;rcases hy with rfl|rfl|rfl|rfl|rfl
  ·exact⟨_,hz,λv q=>by cases q⟩
  ·exact⟨_,Y,λv q=>by cases q⟩
  ·exact⟨_,Z,λv q=>by cases q⟩
  ·exact h1.obj
  ·exact h2.obj
 keep:=λi h h' ⟨hz,Y,⟨c,d,Z⟩,h1,h2⟩ k=>
  ⟨k z ⋯ _ hz,k TI ⋯ _ Y,⟨c,d,k TO ⋯ _ Z⟩,h1.at λo e=>k i1 ⋯ o e,h2.at λo e=>k i2 ⋯ o e⟩
 item:=by
  rintro X hP hw hK hc i pins s σ H E I hf ⟨hz,Y,⟨c,d,Z⟩,h1,h2⟩ ⟨xs,ys,ak,al,b0,b1⟩;subst hP hw hK;obtain⟨b2,ap,p1,z1⟩:=I.sq ak;obtain⟨b3,aq,p2,z2⟩:=I.sq al;have hx:xs[i]? = cq xs[i]:=Mp b0;have hy:ys[i]? = cq ys[i]:=Mp b1;obtain⟨u1,b5,b6⟩:=ap.get hx;obtain⟨u2,b7,b8⟩:=aq.get hy;have hT:s.TypeIs (.ref z) "zip":=⟨_,hz,rfl⟩;unfold u9;refine Mi (Of (MY (name:=MU "__next__") hT NH (NG NH hT OR
   (YF D hz Y Z h1 h2 p1 p2 (x:=u1) (y:=u2) (by simpa using b5) (by simpa using b7) λg a1 a2 a3 a4 a5 a6 a7=>Mo ⟨_,rfl,?_⟩) (OF _))))
  refine R? a1 λg2 O2 a9=>?_;have lt:∀{c o},s.heap.get? c=cq o->s.heap.objs.size≠c:=λe=>Oh<|Mt e;have bi:l9 g2 s.heap.objs.size u1 u2:=a9.extBut _ _ (lt hz) a5;have kk U u:U ∉ [z,TI,TO,i1,i2]->s.heap.get? U=cq u->g2.get? U=cq u:=λO e=>by simp only[Mr,MD,or_false,not_or]at O;exact a9.extBut _ _ O.1<|a7 U u O.1 O.2.2.1 O.2.2.2.1 O.2.2.2.2 e
  have I1:Inv X pins σ (upd H s.heap.objs.size<|.tup [xs[i],ys[i]]) {s with heap:=g2,toks:=s.toks}:=
   I.Us (fp:=[z,TI,TO,i1,i2]) kk hf (Mq _) ⟨by show 2<=fh;decide,[u1,u2],.cons b6<|.cons b8 .nil,⟨_,bi,rfl,_,rfl⟩⟩
  have bn:H s.heap.objs.size=da:=I.fresh;refine⟨.ref s.heap.objs.size,_,I1,rfl,⟨_,_,_,rfl,bn,rfl,λc3 ar=>by rw[I.L8 ar ak];exact hx,λc4 ar=>by rw[I.L8 ar al];exact hy⟩,?_,λU O=>?_⟩
  ·exact⟨O2,a9.extBut _ _ D.TIz<|a7 _ _ D.TIz D.TITO D.TIi1 D.TIi2 Y,⟨_,_,a9.extBut _ _ D.TOz a2⟩,a3.at λo e=>a9.extBut _ _ D.i1z e,a4.at λo e=>a9.extBut _ _ D.i2z e⟩
  ·have bu:U≠s.heap.objs.size:=by
    simp only[Mr,MD,or_false]at O;rcases O with rfl|rfl|rfl|rfl|rfl
    ·exact(lt hz).symm
    ·exact(lt Y).symm
    ·exact(lt Z).symm
    ·obtain⟨o,e,_⟩:=h1.obj;exact(lt e).symm
    ·obtain⟨o,e,_⟩:=h2.obj;exact(lt e).symm
   rw[zE bu];exact(hf U O).1
 done:=by
  rintro X hP hw hK hc i pins s σ H E I hf ⟨hz,Y,⟨c,d,Z⟩,h1,h2⟩ ⟨xs,ys,ak,al,hi⟩;subst hP hw hK;obtain⟨b2,ap,p1,z1⟩:=I.sq ak;obtain⟨b3,aq,p2,z2⟩:=I.sq al;have hT:s.TypeIs (.ref z) "zip":=⟨_,hz,rfl⟩;have l1:=ap.length;have l2:=aq.length;unfold u9;refine Mi (Of (MY (name:=MU "__next__") hT NH (NG NH hT OR
   (af (show X.A.handled=da from I.ok.hd hc) D hz Y Z h1 h2 p1 p2 (by rcases hi with q|q;left;simp;lia;right;simp;lia) λg e hk he=>?_) (OF _))))
  obtain⟨o,ho,c1⟩:=he;refine Mi (RO (T:="StopIteration") (b:=cI) ⟨o,ho,c1⟩ SD (Mo ⟨rfl,?_⟩));refine I.A2 (t':=s.toks) (fp:=[z,TI,TO,i1,i2]) (λU u O e=>?_) hf;simp only[Mr,MD,or_false,not_or]at O;exact hk U u O.1 O.2.2.1 O.2.2.2.1 O.2.2.2.2 e
 self:=λ_ _ _ _ _ st h=>RN st.1 h
def LN(K:Mj)(z:TA):TI:=λj H R=>z j H λg d=>∃e f a b,g=[.ref a,.ref b]/\(∃h,ie e K d a h)/\(∃i,ie f K d b i)/\R (Uv e f K a b) d
theorem Cz{X:Cx}{e1 O:eo}{ta:TA}{p pos:e8}{z:List eo}{x1:Nat}{lC:e8}(hg:Gl X "zip")(hm:X.mg "zip" = da)(ha:PA X [e1,O] ta)
 (hv:B3 "zip" = cq (.type "zip")) (hs:eJ [e1,O] X.env=[(di,eh e1 X.env),(di,eh O X.env)]:=by rfl) (a2:eJ [O] X.env=[(di,eh O X.env)]:=by rfl):
 PI X (.Tuple z x1 lC) (.Call (.Name "zip" p) [e1,O] [] pos) (LN X.K ta):=by
 intro j s B H R I h;refine DC (xQ I hg hm hv<|Nc (fe (ha pos j s B H _ I h) λus d Q=>?_) (by rw[hs,a2])<|by rw[a2];rfl);obtain⟨vs,l,U,r1,W⟩:=Q;obtain⟨f,g,a,b,e,⟨xs,E⟩,⟨ys,G⟩,q⟩:=W;subst e;obtain⟨w1,w2,N,J,L⟩:=mC r1;subst N;cases J;cases L;obtain⟨M,b6,u,z1⟩:=U.sq E;obtain⟨as,b7,w,z2⟩:=U.sq G;have S:=u.lt;have T:=w.lt;refine Uo F.called_zip ⋯ (F.typeCall_zip_2 _ _) (F.newCall_zip_2 _ _) (λobj=>F.args_object_init_3 obj _ _) F.entry_zip_new (ae f g a b M.toArray as.toArray) ⟨u,w,?_⟩;have keep c o:d.heap.get? c=cq o->(vF f g d.heap a b).get? c=cq o:=λe=>
  Mk _ (Mk _<|Mk _<|Mk _<|Mk _ e)
 have x:(Mv d.heap<|f7 f a).objs.size=d.heap.objs.size+1:=MM ..;have y:(Mv (Mv d.heap<|f7 f a)<|f7 g b).objs.size=d.heap.objs.size+2:=by rw[MM,x]
 have A:(Mv (Mv (Mv d.heap<|f7 f a)<|f7 g b)<|k8 (.ref d.heap.objs.size)<|.ref<|d.heap.objs.size+1).objs.size=d.heap.objs.size+3:=by rw[MM,y]
 have y4:(Mv (Mv (Mv (Mv d.heap<|f7 f a)<|f7 g b)<|k8 (.ref d.heap.objs.size)<|.ref<|d.heap.objs.size+1)<|k8 .none .none).objs.size=d.heap.objs.size+4:=by rw[MM,A]
 have P:g7 f (vF f g d.heap a b) d.heap.objs.size a 0:=(wZ f d.heap a).at λo e=>Mk _<|Mk _<|Mk _<|Mk _ e;have g1:g7 g (vF f g d.heap a b) (d.heap.objs.size+1) b 0:=by have q:=wZ g (Mv d.heap<|f7 f a) b;rw[x]at q;exact q.at λo e=>Mk _<|Mk _<|Mk _ e
 have g2:l9 (vF f g d.heap a b) (d.heap.objs.size+2) (.ref d.heap.objs.size) (.ref<|d.heap.objs.size+1):=by have q:_=cq (k8 (.ref d.heap.objs.size)<|.ref<|d.heap.objs.size+1):=My (Mv (Mv d.heap<|f7 f a)<|f7 g b) (o:=k8 (.ref d.heap.objs.size)<|.ref<|d.heap.objs.size+1) rfl;rw[y]at q;exact Mk _<|Mk _ q
 have g3:l9 (vF f g d.heap a b) (d.heap.objs.size+3) .none .none:=by have q:_=cq (k8 .none .none):=My (Mv (Mv (Mv d.heap<|f7 f a)<|f7 g b)<|k8 (.ref d.heap.objs.size)<|.ref<|d.heap.objs.size+1) (o:=k8 .none .none) rfl;rw[A]at q;exact Mk _ q
 have k:m3 (vF f g d.heap a b) (d.heap.objs.size+4) (d.heap.objs.size+2) (d.heap.objs.size+3) .none:=by have q:=My (Mv (Mv (Mv (Mv d.heap<|f7 f a)<|f7 g b)<|k8 (.ref d.heap.objs.size)<|.ref<|d.heap.objs.size+1)<|k8 .none .none) (o:=sk (d.heap.objs.size+2)<|d.heap.objs.size+3) rfl;rw[y4]at q;exact q
 refine⟨⟨_,k,rfl⟩,RN (s:={d with heap:=vF f g d.heap a b}) k ?_⟩;have C:Inv X j B l {d with heap:=vF f g d.heap a b,toks:=d.toks}:=U.kept keep;have Y:∀m:Nat,a≠d.heap.objs.size+m:=λm=>ME<|MA S<|MF _ m;have Z:∀m:Nat,b≠d.heap.objs.size+m:=λm=>ME<|MA T<|MF _ m;have i:∀m n:Nat,m≠n->(d.heap.objs.size+m:Nat)≠d.heap.objs.size+n:=λm n h=>by lia
 have D:B0 (d.heap.objs.size+4) (d.heap.objs.size+2) (d.heap.objs.size+3) d.heap.objs.size (d.heap.objs.size+1) a b:=
  ⟨i 2 4 ⋯,i 3 4 ⋯,i 0 4 ⋯,i 1 4 ⋯,i 2 3 ⋯,i 2 0 ⋯,i 2 1 ⋯,i 3 0 ⋯,i 3 1 ⋯,i 0 1 ⋯,
   Y 4,Y 3,Y 0,Y 1,Z 4,Z 3,Z 0,Z 1⟩
 refine⟨_,[d.heap.objs.size+4,d.heap.objs.size+2,d.heap.objs.size+3,d.heap.objs.size,d.heap.objs.size+1],_,_,l,rfl,C,mF f g D,⟨k,g2,⟨_,_,g3⟩,P,g1⟩,λc t=>?_,q⟩;have r:d.heap.objs.size<=c:=by
  simp only[Mr,MD,or_false]at t;rcases t with rfl|rfl|rfl|rfl|rfl
  ·exact MF _ _
  ·exact MF _ _
  ·exact MF _ _
  ·exact Mq _
  ·exact MF _ _
 exact U.B6 r<|U.eH.fresh r
def h_(k:Sk)(K:Mj)(a:dt):It:=match k with
 |.L=>i_ K a
 |.T=>j_ K a
def LO(K:Mj)(z:TE):TI:=λe H R=>z e H λx b=>∃a k,x=.ref a/\(∃d,ie k K b a d)/\R (h_ k K a) b
theorem rz(Y:PE X l tl):PI X tg l (LO X.K tl):=by
 intro d s t H R I h;refine fe (Y d s t H _ I h) λv f Z=>?_;obtain⟨x,g,O,r,n⟩:=Z;obtain⟨a,k,e,⟨y,j⟩,q⟩:=n;subst e;cases r;have U:∀b ∈ [f.heap.objs.size],Zg X d g b:=λb i=>by
  have e:b=f.heap.objs.size:=by simpa using i
  subst e;exact O.B6 (Mq _)<|O.eH.fresh<|Mq _
 obtain⟨m,w,p,u⟩:=O.sq j;cases k with
 |L=>exact Uh p ⟨f.heap.objs.size,[f.heap.objs.size],_,_,g,rfl,O.kept (t':=f.toks) λb o e=>Mk _ e,fj a _,⟨_,My _ rfl,rfl,rfl⟩,U,q⟩
 |T=>exact Sx p ⟨f.heap.objs.size,[f.heap.objs.size],_,_,g,rfl,O.kept (t':=f.toks) λb o e=>Mk _ e,bY a _,⟨_,My _ rfl,rfl,rfl⟩,U,q⟩
end L2
namespace DL
open PySem PySem.Spec PyProof.Rows L2
def Wf(I:dt)(b:Bool)(TI TO:dt):i5:={cls:=.type "zip",dict:=da,data:=.fields #[xg I,.bool b,.bool di,.ref TI,.ref TO],slots:=#[]}
section
variable{prog:f9}{w:f6}{A:ij}{E:EQ}{s:d9}
theorem YG{z I TI TO:dt}{b:Bool}{U:i5}{Q:Bool->d9->Prop}(hz:s.heap.get? z=cq (Wf I b TI TO))(Z:s.heap.get? I=cq U)
 (O:∀h',h'.get? z=cq (Wf I cI TI TO)->Pc z s.heap h'->Q di {s with heap:=h'}):wpAny (ef prog w) A (MB<|.ref z) Q E s:=by
 unfold MB;refine Mi<|MV hz rfl (x:=xg I) rfl ?_;show wpAny _ _ (loadIfAlive ((I:Int).toNat) >>= _) _ _ _;rw[Oj];refine Mi<|PySem.W.kdx_alive Z ?_;simp only[Option.isNone_some,Nw,if_false];refine Mi<|MV hz rfl (x:=.bool b) rfl ?_;cases b with
 |true=>
  rw[UY ⋯];exact Mo<|O _ hz ⟨rfl,λ_ _=>rfl⟩
 |false=>
  rw[UJ ⋯];refine Mi<|Nm hz ⋯ λg Y a=>?_;exact Mo<|O g Y a
theorem eP{k1 k2:Sk}{z TI TO i1 i2 l1 l2 Y:dt}{b:Bool}{oa:i5}{n1 n2:Nat}{xs ys:Array dy}{x y:dy}{Q:EQ}(D:B0 z TI TO i1 i2 l1 l2)
 (hz:s.heap.get? z=cq (Wf Y b TI TO)) (ha:s.heap.get? Y=cq oa) (a4:l9 s.heap TI (.ref i1) (.ref i2))
 (h1:g7 k1 s.heap i1 l1 n1) (h2:g7 k2 s.heap i2 l2 n2) (a6:i7 k1 s.heap l1 xs) (a7:i7 k2 s.heap l2 ys) (hx:xs[n1]? = cq x) (hy:ys[n2]? = cq y)
 (hQ:∀h',h'.get? z=cq (Wf Y cI TI TO)->g7 k1 h' i1 l1 (n1+1)->g7 k2 h' i2 l2 (n2+1)->l9 h' s.heap.objs.size x y->h'.objs.size=s.heap.objs.size+1->
   (∀c o,c≠z->c≠i1->c≠i2->s.heap.get? c=cq o->h'.get? c=cq o)->Q (.ref s.heap.objs.size) {s with heap:=h'}):
 wpAny (ef prog w) A (Builtin.«zip.__next__» ⟨[.ref z],[]⟩) (λac s'=>∃v,ac=.done (.ret v)/\Q v s') E s:=by
 refine Mi (m:=field (.ref z) 2)<|MV hz rfl (x:=.bool di) rfl ?_;refine Mi (m:=field (.ref z) 3)<|MV hz rfl (x:=.ref TI) rfl ?_;refine Mi<|Nk a4 rfl ?_;refine Mi (m:=MB<|.ref z)<|YG hz ha λg1 ad I=>?_;simp only[Nw,if_false];rw[show(#[MP i1,MP i2]:Array dy)=[MP i1,MP i2].toArray from rfl,Tz];simp only[Pp,PF];refine Mi<|Mi<|Mi ?_;refine Mi (m:=Mu<|.ref i1)<|qy (h1.at λo e=>I.extBut _ _ D.i1z e) (a6.at λo e=>I.extBut _ _ D.l1z e) hx λg2 d U=>Mo ?_;refine Mo<|Mi<|Mi<|NA ?_;refine Mi (m:=Mu<|.ref i2)<|qy (h2.at λo e=>U.extBut _ _ D.i12.symm<|I.extBut _ _ D.i2z e) (a7.at λo e=>U.extBut _ _ D.l2i1<|I.extBut _ _ D.l2z e) hy λO f Z=>Mo ?_;refine Mo<|Mo ?_;have hsz:O.objs.size=s.heap.objs.size:=by rw[Z.1,U.1,I.1]
 refine Mi (R0 (hsz:=by show 2<=fh;decide) ?_);refine Mo ⟨_,rfl,?_⟩;show Q (.ref O.objs.size) _;rw[hsz];have a c o:O.get? c=cq o->(O.push {cls:=.type "tuple",data:=.seq #[x,y]}).get? c=cq o:=λe=>Mk _ e;have g:O.get? z=cq (Wf Y cI TI TO):=Z.extBut _ _ D.i2z.symm (U.extBut _ _ D.i1z.symm ad);refine hQ _ (a _ _ g) ((d.at λo e=>a _ o (Z.extBut _ _ D.i12 e))) (f.at λo e=>a _ o e) ?_ ?_ λc o h i j e=>a c o (Z.extBut _ _ j (U.extBut _ _ i (I.extBut _ _ h e)))
 ·have:=My O (o:={cls:=.type "tuple",data:=.seq #[x,y]}) rfl
  rw[hsz]at this;exact this
 ·rw[MM,hsz]
theorem my{k1 k2:Sk}{z TI TO i1 i2 l1 l2 al:dt}{b:Bool}{oa:i5}{n1 U:Nat}{xs ys:Array dy}{Q:Fin->d9->Prop}(hh:A.handled=da)(D:B0 z TI TO i1 i2 l1 l2)
 (hz:s.heap.get? z=cq (Wf al b TI TO)) (ha:s.heap.get? al=cq oa) (a7:l9 s.heap TI (.ref i1) (.ref i2))
 (h1:g7 k1 s.heap i1 l1 n1) (h2:g7 k2 s.heap i2 l2 U) (a4:i7 k1 s.heap l1 xs) (a9:i7 k2 s.heap l2 ys) (ac:xs[n1]? = da\/ys[U]? = da)
 (hE:∀h' e,(∀c o,c≠z->c≠i1->c≠i2->s.heap.get? c=cq o->h'.get? c=cq o)->(∃o,h'.get? e=cq o/\o.cls=.type "StopIteration")->E (.ref e) {s with heap:=h'}):
 wpAny (ef prog w) A (Builtin.«zip.__next__» ⟨[.ref z],[]⟩) Q E s:=by
 refine Mi (m:=field (.ref z) 2)<|MV hz rfl (x:=.bool di) rfl ?_;refine Mi (m:=field (.ref z) 3)<|MV hz rfl (x:=.ref TI) rfl ?_;refine Mi<|Nk a7 rfl ?_;refine Mi (m:=MB<|.ref z)<|YG hz ha λg1 i I=>?_;simp only[Nw,if_false];rw[show(#[MP i1,MP i2]:Array dy)=[MP i1,MP i2].toArray from rfl,Tz];simp only[Pp,PF];refine Mi<|Mi<|Mi ?_;cases hx:xs[n1]? with
 |none=>
  refine Mi (m:=Mu<|.ref i1)<|yq hh (h1.at λo e=>I.extBut _ _ D.i1z e) (a4.at λo e=>I.extBut _ _ D.l1z e) hx λg2 e O Y=>?_;exact hE g2 e (λc o Z a _ q=>O _ _ a<|I.extBut _ _ Z q) Y
 |some x=>
  have g:ys[U]? = da:=by rcases ac with h|h;rw[hx]at h;cases h;exact h
  refine Mi (m:=Mu<|.ref i1)<|qy (h1.at λo e=>I.extBut _ _ D.i1z e) (a4.at λo e=>I.extBut _ _ D.l1z e) hx λg2 j O=>Mo ?_;refine Mo<|Mi<|Mi<|NA ?_;refine Mi (m:=Mu<|.ref i2)<|yq hh (h2.at λo e=>O.extBut _ _ D.i12.symm<|I.extBut _ _ D.i2z e) (a9.at λo e=>O.extBut _ _ D.l2i1<|I.extBut _ _ D.l2z e) g λg3 e d Y=>?_;exact hE g3 e (λc o Z a f q=>d _ _ f<|O.extBut _ _ a<|I.extBut _ _ Z q) Y
end
end DL
namespace L2
open PySem PySem.Spec PyProof.Rows
section
variable{κ:Type} [DecidableEq κ]
def ai(z:List (κ×V))(k:κ):Option V:=(z.find? λI=>decide<|I.1=k).map (·.2)
def eE(z:List (κ×V))(k:κ)(v:V):List (κ×V):=
 if (z.any λI=>decide<|I.1=k)=cI then z.map (λI=>if I.1=k then (I.1,v)else I)else z++[(k,v)]
theorem KG{p:κ×V}{r:List (κ×V)}{k:κ}(e:p.1=k):ai (p::r) k=cq p.2:=by simp[ai,OZ,e]
theorem ah{p:κ×V}{r:List (κ×V)}{k:κ}(e:¬p.1=k):ai (p::r) k=ai r k:=by simp[ai,OZ,e]
theorem Xe(z:List (κ×V))(k:κ)(v:V):(eE z k v).length<=z.length+1:=by
 unfold eE;split
 ·rw[MN];lia
 ·rw[Nv,NB,NZ];lia
theorem A9.K_(r:A9 o u):o.isSome=u.isSome:=by
 cases o with
 |none=>cases u with
  |none=>rfl
  |some _=>exact(show False from r).elim
 |some _=>cases u with
  |none=>exact(show False from r).elim
  |some _=>rfl
theorem KV.val{Z:List (κ×V)}{vs:List (κ×dy)}(r:KV Z vs)(k:κ):A9 (ai Z k) (M3 vs k):=by
 unfold KV at r
 induction r with
 |nil=>exact OK
 | @cons p q d I h t U=>
  obtain⟨a,Y⟩:=h;by_cases e:p.1=k
  ·have O:q.1=k:=a.symm.trans e
   have b:M3 (q::I) k=cq q.2:=by simp[M3,OZ,O]
   rw[KG e,b];exact Y
  ·have O:¬q.1=k:=λz=>e (a.trans z)
   have b:M3 (q::I) k=M3 I k:=by simp[M3,OZ,O]
   rw[ah e,b];exact U
theorem KV.any(r:KV kA vs)(k:κ):(kA.any λI=>decide<|I.1=k)=vs.any λI=>decide (I.1=k):=by
 unfold KV at r
 induction r with
 |nil=>rfl
 |cons h t O=>rw[Sz,Sz,O,h.1]
theorem KV.y?(r:KV kA vs)(k:κ)(O:RelV y u):
 KV (kA.map λI=>if I.1=k then (I.1,y)else I) (vs.map λI=>if I.1=k then (I.1,u)else I):=by
 unfold KV at r ⊢
 induction r with
 |nil=>exact .nil
 |@cons p q b Z h t U=>
  rw[MT,MT];refine .cons ?_ U;obtain⟨a,Y⟩:=h;by_cases e:p.1=k
  ·rw[UJ e,UJ (a.symm.trans e)];exact⟨a,O⟩
  ·rw[UY e,UY (λz=>e<|a.trans z)];exact⟨a,Y⟩
theorem KV.put(r:KV kA vs)(k:κ)(I:RelV y u):KV (eE kA k y) (stored vs k u):=by
 unfold eE stored;rw[r.any k];by_cases e:(vs.any λO=>decide<|O.1=k)=cI
 ·rw[UJ e,UJ e];exact r.y? k I
 ·rw[UY e,UY e];exact Paired.snoc r ⟨rfl,I⟩
theorem KV.length(r:KV kA vs):kA.length=vs.length:=Paired.length r
end
theorem oj(r:RelV (kV k) u):(xU P w).is k u=cI:=by
 cases k with
 |inl i=>obtain⟨t,e⟩:=(show ∃t,u=Sn i t from r);subst e;exact WK P w i t
 |inr x=>obtain⟨t,e⟩:=(show ∃t,u=Ts x t from r);subst e;exact WJ P w x t
theorem Vw:∀{ks:List Key} {us:List dy},ft (ks.map kV) us->ItemsAre (xU P w) ks us
 |[],_,r=>by rw[TV]at r;cases r;exact .nil
 |k::ks,_,r=>by
  rw[MT]at r;cases r with
  |cons h t=>exact .cons (oj h)<|Vw t
abbrev KT(H:Hp):List (List Key×V)->List (List Key×dt×dy)->Prop:=Paired λp q=>p.1=q.1/\H q.2.1=cq (.tup (p.1.map kV))/\RelV p.2 q.2.2
theorem KT.val{H:Hp}{Z:List (List Key×V)}{xs:List (List Key×dt×dy)}(r:KT H Z xs)(k:List Key):A9 (ai Z k) ((F8 xs k).map (·.2)):=by
 induction r with
 |nil=>exact OK
 | @cons p q d I h t U=>
  obtain⟨a,_,Y⟩:=h;by_cases e:p.1=k
  ·have O:q.1=k:=a.symm.trans e
   have b:F8 (q::I) k=cq q.2:=by simp[F8,OZ,O]
   rw[KG e,b];exact Y
  ·have O:¬q.1=k:=λz=>e (a.trans z)
   have b:F8 (q::I) k=F8 I k:=by simp[F8,OZ,O]
   rw[ah e,b];exact U
section
variable{P:f9}{w:f6}{H:Hp}{h:et}{a:dt}
theorem Cc(ok:kv P w H h)(e:Rd H a u):ir P w H h a u:=e.ok ok
theorem oW(ok:kv P w H h)(e:Rd H a (.dK kA)):kA.length<=fh/\(a==Dy)=di/\∃vs,KV kA vs/\h.DictOf (xU P w) a vs:=
 show ir P w H h a (.dK kA)from Cc ok e
theorem HC(ok:kv P w H h)(e:H a=cq (.dK kA)):kA.length<=fh/\(a==Dy)=di/\∃vs,KV kA vs/\h.DictOf (xU P w) a vs:=oW ok<|.inl e
theorem ip(ok:kv P w H h)(e:H a=cq (.tup<|ks.map kV)):(_e<|xU P w).is h ks a:=by obtain⟨_,b,r,o,d,I,n,O⟩:=(show ir P w H h a (.tup<|ks.map kV)from ok a _ e);exact⟨o,b.toArray,n,d,(Prod.mk.inj I).1,O,by simpa using Vw r⟩
theorem Au(ok:kv P w H h)(e:Rd H a (.dT kA)):kA.length<=fh/\(a==Dy)=di/\
 ∃xs,KT H kA xs/\h.DictOfH (_e<|xU P w) a xs:=by
 obtain⟨z,y,xs,r,o,b,O,d,U,Y,Z,f⟩:=(show ir P w H h a (.dT kA)from Cc ok e);refine⟨z,y,xs,r,o,b,O,d,U,Y,Z,λx hx=>?_,f⟩;have all:∀{l:List (List Key×V)} {m:List (List Key×dt×dy)},KT H l m->∀x∈m,(_e<|xU P w).is h x.1 x.2.1:=by
  intro l m q
  induction q with
  |nil=>intro x hx;exact nomatch hx
  | @cons p q i j I t g=>
   intro x hx;rcases Mr.mp hx with e|hx
   ·subst e
    exact ip ok (by rw[<-I.1];exact I.2.1)
   ·exact g x hx
 exact all r x hx
end
def Fo(H:Hp)(a:dt)(y:V)(r:Option V):Prop:=
 (∃d k,Rd H a (.dK d)/\y=kV k/\r=ai d k)\/∃d k b,Rd H a (.dT d)/\y=.ref b/\H b=cq (.tup<|k.map kV)/\r=ai d k
section
variable{X:Cx}{pins:UQ}{σ:St}{H:Hp}{s:d9}{a:dt}{y v:V}{u:dy}{o:Option V}{A:ij}{E:EQ}
theorem Inv.big(I:Inv X pins σ H s):Dy<s.heap.objs.size:=by have h:pa<s.heap.objs.size:=(I.mod.glob.keeps I.bk).lt;exact Nat.lt_trans ⋯ h
theorem lD(hu:A.units+1<Dj)(I:Inv X pins σ H s)(g:Fo H a y (cq v))(Z:RelV y u)(h:∀w' s',Inv X pins σ H s'->RelV v w'->Q w' s'):
 wpAny (ef X.prog X.w) A (Dn (.ref a) u) Q E s:=by
 rcases g with⟨i,k,e,O,l⟩|⟨i,k,b,e,O,m,l⟩
 ·subst O
  obtain⟨z,n,t,U,d⟩:=oW I.eH e;obtain⟨w',f,Y⟩:=A9.some_of (v:=v) (o:=M3 t k) (by rw[l];exact U.val k);exact wpAny_getItem_of (oj Z) d.mapOf f<|h w' _ (I.tok _) Y
 ·subst O
  cases (show u=MP b from Z);obtain⟨z,n,x,U,d⟩:=Au I.eH e;obtain⟨w',f,Y⟩:=A9.some_of (v:=v) (o:=(F8 x k).map (·.2)) (by rw[l];exact U.val k);obtain⟨p,r,j⟩:=Option.map_eq_some_iff.mp f;refine wpAny_getItem_heap (I? hu) (ip I.eH m) d r ?_;rw[j];exact h w' _ (I.tok _) Y
theorem LR(Z:A.units+1<Dj)(I:Inv X pins σ H s)(g:Fo H a y o)(Y:RelV y u)(h:∀s',Inv X pins σ H s'->Q (.bool o.isSome) s'):
 wpAny (ef X.prog X.w) A (ri .In u<|.ref a) Q E s:=by
 rcases g with⟨i,k,e,O,l⟩|⟨i,k,b,e,O,j,l⟩
 ·subst O
  obtain⟨z,f,m,U,d⟩:=oW I.eH e;refine wpAny_in_of (oj Y) f d.mapOf ?_;rw[<-(U.val k).K_,<-l];exact h _<|I.tok _
 ·subst O
  cases (show u=MP b from Y);obtain⟨z,f,n,U,d⟩:=Au I.eH e;refine wpAny_in_heap (I? Z) (ip I.eH j) f d ?_;have q:=(U.val k).K_;rw[Option.isSome_map]at q;rw[<-q,<-l];exact h _<|I.tok _
theorem Aw(I:Inv X pins σ H s)(O:NN (H a))(hs:Pc a s.heap h')(U:∃q,h'.get? a=cq q)(new:ir X.prog X.w (upd H a ob) h' a ob):
 Inv X pins σ (upd H a ob) {s with heap:=h',toks:=t'}:=
 I.write (x:=a) (e:=a) O (.inl rfl) (λb q Y z=>(hs.2 b Y).trans z) U new
theorem EV(z:kA.length<=fh)(O:(a==Dy)=di)(I:KV kA vs)(dd:h'.DictOf (xU P w) a vs):
 ir P w H' h' a (.dK kA):=⟨z,O,vs,I,dd⟩
end
def Ii(i:eo):Prop:=∀I O,U8 i di I O=operate [I,O] (Dn I O)
theorem sS{prog:f9}{w:f6}{A:ij}{E:EQ}{s:d9}{env:j1}{U I:eo}{pos:e8}{T id:String}{Q:EQ}
 (hl:Dz (.type T) "__getitem__" = pure (cq (.builtin id))) (hs:Ii I)
 (h:wpAny (ef prog w) A (eh U env) (λo z=>wpAny (ef prog w) A (eh I env) (λi O=>O.TypeIs o T/\wpAny (ef prog w) A (Dn o i) Q E O) E z) E s):
 wpAny (ef prog w) A (eh (.Subscript U I pos) env) Q E s:=by
 refine s_<|MG h (λo z b=>MG b (λi O Y=>?_) λ_ _ x=>x) λ_ _ x=>x;obtain⟨e,Y⟩:=Y;unfold X_;refine Mi ?_;rw[getitemInPython_of_ne e.not_modules];refine Mi<|wpAny_specialOf e hl ?_;have Z:wpAny (ef prog w) A (U8 I di o i) (λr a=>wpAny (ef prog w) A (letTemporaryGo U o r >>= λ_=>pure r) Q E a) E O:=by rw[hs o i];exact wpAny_operating<|MG Y (λr a d=>Mi<|wpAny_letTemporaryGo<|Mo d) λ_ _ x=>x
 first
  |exact Mo<|Mi Z
  |exact Mi<|Mo<|Mi Z
  |exact Mi Z
theorem WZ(I:Inv X pins σ H s)(g:Fo H a y o):s.TypeIs (.ref a) "dict":=by
 rcases g with⟨f,k,e,_,_⟩|⟨f,k,b,e,_,_,_⟩
 ·obtain⟨_,_,h,_,d⟩:=oW I.eH e
  exact d.typeIs
 ·obtain⟨_,_,i,_,d⟩:=Au I.eH e
  exact d.typeIs
def GI(z ty:TE):TE:=λd H Q=>z d H λx e=>ty d e λy b=>∃a v,x=.ref a/\Fo b a y (cq v)/\Q v b
def Ly(ty z:TE):TE:=λd H Q=>ty d H λy e=>z d e λx b=>∃a o,x=.ref a/\Fo b a y o/\Q (.bl o.isSome) b
section
variable{X:Cx}{o i:eo}{pos:e8}{td ty:TE}
theorem uC(U:X.A.units+1<Dj)(Y:PE X o td)(z:PE X i ty)(hs:Ii i):PE X (.Subscript o i pos) (GI td ty):=by intro b s d H Q I h;refine sS PySem.F.slot_dict_getitem.lookup hs<|fe (Y b s d H _ I h) λu t ⟨x,e,Z,p,m⟩=>fe (z b t d e _ Z m) λw B ⟨y,f,O,r,a,v,l,g,n⟩=>?_;subst l;obtain rfl:u=MP a:=p;exact⟨WZ O g,lD U O g r λE C j k=>⟨v,f,j,k,n⟩⟩
theorem CP(O:X.A.units+1<Dj)(z:PE X i ty)(U:PE X o td):PC X .In i o (Ly ty td):=by intro b s d H Q I h;refine fe (z b s d H _ I h) λw t ⟨y,e,Y,Z,n⟩=>fe (U b t d e _ Y n) λu B ⟨x,f,j,r,a,m,l,g,p⟩=>?_;subst l;obtain rfl:u=MP a:=r;exact LR O j g Z λC k=>⟨.bl m.isSome,f,k,rfl,p⟩
end
theorem oX(h:et)(I:Dy<h.objs.size):ir P w H (h.push {cls:=.type "dict",data:=.dict #[]}) h.objs.size (.dK []):=
 ⟨NJ _,beq_eq_false_iff_ne.mpr<|Nr<|ME I,[],.nil,Heap.DictOf.new h⟩
end L2
namespace DL
open PySem PySem.Spec PyProof.Rows L2
def p9:List Str:=["NoPrime","Nought","NoTable","NoWidths","NoRow","Unlike","TooMany","NoTurn","NoLine","Nothing","NoArrow","NoText","NoRoom"]
def s9:List dy:=[.type "ValueError",.type "Exception",.type "BaseException",.type "object"]
def Zx(K:Mj)(c:Str):Option dt:=match Py K pa c with
 |some (cq (.ref C))=>cq C
 |_=>da
def pD(K:Mj)(C:dt):Bool:=
 ["int","bool","str","tuple","list"].all (λt=>NT K (.ref C) (.type t)==cq di)&&NT K (.ref C) (.type "ValueError")==cq cI&&
 NP K (.ref C) "__getattribute__" == cq (cq (.builtin "BaseException.__getattribute__"))&&NP K (.ref C) "__getattr__" == cq da&&
 NP K (.ref C) "__class__" == cq (cq (.builtin "object.__class__"))&&yg K C (.type "object")==cq cI&&yg K C (.type "BaseException")==cq cI&&
 Rf K (.builtin "object.__class__") "__get__" == cq (cq (.builtin "getset_descriptor.__get__"))&&PySem.W.takesIn K (.builtin "object.__class__")==cq cI&&
 (Pl K C).any (λa=> !a.hasDel)&&Rh K (.ref C)==cq (.type "type")
def YD(K:Mj):Bool:=match Zx K "SplitError" with
 | some S=>p9.all λc=>match Zx K c with
  |some C=>pD K C&&NT K (.ref C) (.ref S)==cq cI&&p9.all λI=>match Zx K I with
   |some O=>NT K (.ref C) (.ref O)==cq (c==I)
   |none=>di
  |none=>di
 |none=>di
def bL(h:et)(a:dt)(C:dt):Prop:=∃o b,h.get? a=cq o/\o.cls=.ref C/\o.data=.fields b
structure y6(K:Mj)(H:Hp)(c:Str)(n:Option Int)(a:dt):Prop where
 all:YD K=cI
 mem:c∈p9
 ex:∃C φ,Zx K c=cq C/\H a=cq (.ext φ)/\(∀h,φ h->bL h a C)/\
  match n with
  |none=>True
  |some i=>∃d,(∀h,φ h->∃o,h.get? a=cq o/\o.dict=cq d)/\H d=cq (.xd [(if c==("NoRoom" : Str)then "room" else "at",.int i)])
theorem y6.mono{K:Mj}{H H':Hp}{c:Str}{n:Option Int}{a:dt}(e:∀b o,H b=cq o->H' b=cq o)(h:y6 K H c n a):y6 K H' c n a:=by
 obtain⟨f,O,C,g,U,g2,Y,I⟩:=h;refine⟨f,O,C,g,U,e _ _ g2,Y,?_⟩;cases n with
 |none=>exact I
 |some i=>obtain⟨d,Z,f2⟩:=I;exact⟨d,Z,e _ _ f2⟩
theorem Jc{K:Mj}{c:Str}{C:dt}(h:YD K=cI)(Y:c∈p9)(e:Zx K c=cq C):∃S,Zx K "SplitError" = cq S/\pD K C=cI/\NT K (.ref C) (.ref S)=cq cI/\
 ∀I O,I∈p9->Zx K I=cq O->NT K (.ref C) (.ref O)=cq (c==I):=by
 unfold YD at h;split at h
 ·rename_i S Z
  have a:=NV.mp h c Y;rw[e]at a;simp only[Mw,beq_iff_eq]at a;refine⟨S,Z,a.1.1,a.1.2,λI O b d=>?_⟩;have U:=NV.mp a.2 I b;rw[d]at U;exact beq_iff_eq.mp U
 ·cases h
abbrev St:=L2.St
def Ez:D->Option Key
 |.int i=>cq (.inl i)
 |.str x=>cq (.inr x)
 |_=>da
def Vt:List D->Option (List Key)
 |[]=>cq []
 |d::ds=>(Ez d).bind λk=>(Vt ds).map λr=>k::r
def DY(H:Hp)(a:dt)(ks:List D)(xs:List V):Prop:=∃b,Vt ks=cq b/\b.length=xs.length/\∃o,H a=cq (.rn o<|.dK<|b.zip xs)
def GA(k:List Int):Int:=reduceHash<|Builtin.Tuple.tupleHashOf<|k.map hashInt
def LZ(o:i5)(xs:List (List Int×dt×dy)):Prop:=o.ExactDict/\∃a I,o.data=.dict a I/\a.toList=xs.map (λx=>⟨GA x.1,.ref x.2.1,x.2.2⟩)/\(xs.map (·.1)).Nodup
def v_(a:dt)(o:i5):HO:=.ext λh=>h.get? a=cq o
def P5(K:Mj)(H:Hp)(a:dt)(ks:List (List Int))(ys:List V):Prop:=
 (a==Dy)=di/\∃o b,H a=cq (v_ a o)/\LZ o b/\b.map (·.1)=ks/\b.length<=fh/\(∀x∈b,gR K H x.2.1<|x.1.map V.int)/\ft ys (b.map (·.2.2))
def S3(I O:V):List (Str×V):=GW "table" O (GW "p" I [])
def VA(K:Mj)(C:dt):Bool:=TH K C Str.empty&&(PySem.W.hasDictIn K C&&(PySem.W.plainOver K C&&(NP K (.ref C) "__setattr__" == cq (cq (.builtin "object.__setattr__"))&&(NP K (.ref C) "__class__" == cq (cq (.builtin "object.__class__"))&&
 (Rf K (.builtin "object.__class__") "__get__" == cq (cq (.builtin "getset_descriptor.__get__"))&&(PySem.W.takesIn K (.builtin "object.__class__")==cq cI&&(yg K C (.type "object")==cq cI&&["int","bool","str","tuple","list"].all λt=>NT K (.ref C) (.type t)==cq di)))))))
def K3(K:Mj)(c:Str):Option dt:=match Py K pa c with
 |some (cq (.ref C))=>if VA K C=cI then cq C else da
 |_=>da
theorem bj{K:Mj}{c:Str}{C:dt}(h:K3 K c=cq C):VA K C=cI:=by
 unfold K3 at h;split at h
 ·split at h
  ·rename_i I;cases h;exact I
  ·cases h
 ·cases h
mutual
def Rep(K:Mj)(H:Hp):D->V->Prop
 |.ej,v=>v=.ej
 |.bl b,v=>v=.bl b
 |.int i,v=>v=.int i
 |.str x,v=>v=.str x
 |.tup ds,v=>∃a d,v=.ref a/\gR K H a d/\d8 K H ds d
 |.lst ds,v=>∃a d,v=.ref a/\gE K H a d/\d8 K H ds d
 |.exc c n,v=>∃a,v=.ref a/\y6 K H c n a
 |.n4 ks vs,v=>∃a d,v=.ref a/\DY H a ks d/\d8 K H vs d
 |.o3 ks vs,v=>∃a d,v=.ref a/\P5 K H a ks d/\d8 K H vs d
 |.ins c p t,v=>∃a C e I O,v=.ref a/\K3 K c=cq C/\H a=cq (.ins C e<|S3 I O)/\Rep K H p I/\Rep K H t O
def d8(K:Mj)(H:Hp):List D->List V->Prop
 |[],xs=>xs=[]
 |d::ds,xs=>∃x r,xs=x::r/\Rep K H d x/\d8 K H ds r
end
theorem n6{K:Mj}{H H':Hp}{a:dt}{xs:List V}(e:gm H H')(h:gR K H a xs):gR K H' a xs:=by
 rcases h with(h|⟨o,h⟩)|h
 ·exact .inl<|.inl<|e _ _ h
 ·exact .inl<|.inr ⟨o,e _ _ h⟩
 ·exact .inr h
theorem xO{k:Sk}{K:Mj}{H H':Hp}{a:dt}{xs:List V}(e:gm H H')(h:ie k K H a xs):ie k K H' a xs:=by
 cases k
 ·exact e.seq h
 ·exact n6 e h
mutual
theorem Rep.mono{K:Mj}{H H':Hp}(e:gm H H'):∀{d:D} {v:V},Rep K H d v->Rep K H' d v
 |.ej,_,h=>h
 |.bl _,_,h=>h
 |.int _,_,h=>h
 |.str _,_,h=>h
 |.tup ds,v,h=>by obtain⟨a,b,f,g,I⟩:=(show ∃a b,v=.ref a/\gR K H a b/\d8 K H ds b from h);exact(show ∃a b,v=.ref a/\gR K H' a b/\d8 K H' ds b from⟨a,b,f,n6 e g,d8.mono e I⟩)
 |.lst ds,v,h=>by obtain⟨a,b,f,g,I⟩:=(show ∃a b,v=.ref a/\gE K H a b/\d8 K H ds b from h);exact(show ∃a b,v=.ref a/\gE K H' a b/\d8 K H' ds b from⟨a,b,f,e.seq g,d8.mono e I⟩)
 |.exc c n,v,h=>by obtain⟨a,f,g⟩:=(show ∃a,v=.ref a/\y6 K H c n a from h);exact(show ∃a,v=.ref a/\y6 K H' c n a from⟨a,f,g.mono e⟩)
 |.n4 ks vs,v,h=>by obtain⟨a,b,f,⟨u,Y,g2,o,Z⟩,I⟩:=(show ∃a b,v=.ref a/\DY H a ks b/\d8 K H vs b from h);exact(show ∃a b,v=.ref a/\DY H' a ks b/\d8 K H' vs b from⟨a,b,f,⟨u,Y,g2,o,e _ _ Z⟩,d8.mono e I⟩)
 |.o3 ks vs,v,h=>by obtain⟨a,b,f,⟨Y,o,w,g2,Z,j,k,g6,l⟩,I⟩:=(show ∃a b,v=.ref a/\P5 K H a ks b/\d8 K H vs b from h);exact(show ∃a b,v=.ref a/\P5 K H' a ks b/\d8 K H' vs b from⟨a,b,f,⟨Y,o,w,e _ _ g2,Z,j,k,λx s=>n6 e<|g6 x s,l⟩,d8.mono e I⟩)
 |.ins c p t,v,h=>by obtain⟨a,C,i,O,U,f,g,I,m,r⟩:=(show ∃a C i O U,v=.ref a/\K3 K c=cq C/\H a=cq (.ins C i<|S3 O U)/\Rep K H p O/\Rep K H t U from h);exact(show ∃a C i O U,v=.ref a/\K3 K c=cq C/\H' a=cq (.ins C i<|S3 O U)/\Rep K H' p O/\Rep K H' t U from⟨a,C,i,O,U,f,g,e _ _ I,Rep.mono e m,Rep.mono e r⟩)
theorem d8.mono{K:Mj}{H H':Hp}(e:gm H H'):∀{ds:List D} {xs:List V},d8 K H ds xs->d8 K H' ds xs
 |[],_,h=>h
 |d::ds,xs,h=>by obtain⟨x,r,a,b,I⟩:=(show ∃x r,xs=x::r/\Rep K H d x/\d8 K H ds r from h);exact(show ∃x r,xs=x::r/\Rep K H' d x/\d8 K H' ds r from⟨x,r,a,Rep.mono e b,d8.mono e I⟩)
end
section
variable{K:Mj}{H:Hp}
theorem d8.nil:d8 K H [] []:=(show([]:List V)=[]from rfl)
theorem d8.cons(h:Rep K H d x)(t:d8 K H ds xs):d8 K H (d::ds) (x::xs):=⟨x,xs,rfl,h,t⟩
theorem d8.tv(h:d8 K H [] xs):xs=[]:=h
theorem d8.o4(h:d8 K H (d::ds) xs):∃x r,xs=x::r/\Rep K H d x/\d8 K H ds r:=h
theorem d8.length:∀{ds:List D} {xs:List V},d8 K H ds xs->xs.length=ds.length
 |[],xs,h=>by rw[h.tv];rfl
 |d::ds,xs,h=>by obtain⟨x,r,e,_,t⟩:=h.o4;rw[e,NB,NB,d8.length t]
theorem d8.get:∀{ds:List D} {xs:List V} {i:Nat} {d:D},d8 K H ds xs->ds[i]? = cq d->∃x,xs[i]? = cq x/\Rep K H d x
 |[],_,_,_,_,e=>by simp at e
 |c::ds,xs,0,d,h,e=>by obtain⟨x,r,a,b,_⟩:=h.o4;simp at e;subst e;exact⟨x,by rw[a];rfl,b⟩
 |c::ds,xs,i+1,d,h,e=>by obtain⟨x,r,a,_,t⟩:=h.o4;obtain⟨y,I,g2⟩:=d8.get (i:=i) (d:=d) t (by simpa using e);exact⟨y,by rw[a];simpa using I,g2⟩
theorem d8.Dp{ds:List D}{xs:List V}{i:Nat}{x:V}(h:d8 K H ds xs)(e:xs[i]? = cq x):∃d,ds[i]? = cq d/\Rep K H d x:=by
 have b:i<ds.length:=by rw[<-h.length];exact(MR.mp e).1
 obtain⟨y,a,r⟩:=h.get<|Mp b;rw[e]at a;cases a;exact⟨_,Mp b,r⟩
theorem d8.append:∀{ds es:List D} {xs ys:List V},d8 K H ds xs->d8 K H es ys->d8 K H (ds++es) (xs++ys)
 |[],_,xs,_,h,g=>by rw[h.tv];exact g
 |d::ds,es,xs,ys,h,g=>by obtain⟨x,r,e,a,t⟩:=h.o4;rw[e];exact d8.cons a<|d8.append t g
theorem d8.drop:∀{ds:List D} {xs:List V} (n:Nat),d8 K H ds xs->d8 K H (ds.drop n) (xs.drop n)
 |_,_,0,h=>h
 |[],xs,n+1,h=>by rw[h.tv];exact d8.nil
 |d::ds,xs,n+1,h=>by obtain⟨x,r,e,_,t⟩:=h.o4;rw[e];exact d8.drop n t
theorem d8.take:∀{ds:List D} {xs:List V} (n:Nat),d8 K H ds xs->d8 K H (ds.take n) (xs.take n)
 |_,_,0,h=>by simp;exact d8.nil
 |[],xs,n+1,h=>by rw[h.tv];exact d8.nil
 |d::ds,xs,n+1,h=>by obtain⟨x,r,e,a,t⟩:=h.o4;rw[e];exact d8.cons a<|d8.take n t
theorem d8.set:∀{ds:List D} {xs:List V} {d:D} {x:V} (i:Nat),d8 K H ds xs->Rep K H d x->d8 K H (ds.set i d) (xs.set i x)
 |[],xs,_,_,_,h,_=>by rw[h.tv];exact d8.nil
 |c::ds,xs,d,x,0,h,g=>by obtain⟨y,r,e,_,t⟩:=h.o4;rw[e];exact d8.cons g t
 |c::ds,xs,d,x,i+1,h,g=>by obtain⟨y,r,e,a,t⟩:=h.o4;rw[e];exact d8.cons a<|d8.set i t g
end
structure Ext(H0 H i4 H':Hp):Prop where
 s0:gm H0 i4
 s1:gm H H'
 sub:gm i4 H'
 new:∀a,H0 a=da->H a≠da->i4 a=da
theorem Ext.refl(s:gm H0 H):Ext H0 H H0 H:=⟨gm.refl _,gm.refl _,s,λ_ h _=>h⟩
theorem Ext.trans(a:Ext H0 H H1 G1)(b:Ext H1 G1 H2 G2):Ext H0 H H2 G2:=
 ⟨a.s0.trans b.s0,a.s1.trans b.s1,b.sub,λc d I=>b.new c (a.new c d I) (by
  cases q:H c with
  |none=>exact absurd q I
  |some o=>rw[a.s1 c o q];simp)⟩
theorem jb(h:H p=da)(o:HO):gm H (upd H p o):=λb u q=>by rw[zE (z6 q h)];exact q
theorem jy(s:gm H0 H)(h:H p=da):H0 p=da:=s.free h
theorem fM(s:gm H0 H):gm (upd H0 p o) (upd H p o):=λb u q=>by
 by_cases e:b=p
 ·subst e;rw[zF]at q ⊢;exact q
 ·rw[zE e]at q ⊢;exact s b u q
theorem Ext.alloc(s:gm H0 H)(h:H p=da)(o:HO):Ext H0 H (upd H0 p o) (upd H p o):=
 ⟨jb (jy s h) o,jb h o,fM s,λa b I=>by rw[zE (λe=>I<|by rw[e];exact h)];exact b⟩
theorem Ext.hide(s:gm H0 H)(h:H p=da)(o:HO):Ext H0 H H0 (upd H p o):=
 ⟨gm.refl _,jb h o,s.trans<|jb h o,λa b _=>b⟩
theorem Ext.show(e:Ext H0 H i4 H')(Z:H a=da)(O:i4 a=da)(U:H' a=cq o)(s:gm H0 H):Ext H0 H (upd i4 a o) H':=
 ⟨e.s0.trans<|jb O o,e.s1,λb u q=>by
  by_cases z:b=a
  ·subst z;rw[zF]at q;rw[U];exact q
  ·rw[zE z]at q;exact e.sub b u q,λb Y I=>by
  rw[zE (λz=>I<|by rw[z];exact Z)];exact e.new b Y I⟩
structure D0(K:Mj)(H0 H:Hp)(rows:List (List D))(a:dt)(bs:List dt):Prop where
 a0:H0 a=da
 ha:H a=cq (.lst<|bs.map V.ref)
 nd:(a::bs).Nodup
 len:bs.length=rows.length
 row:∀(k:Nat) b row,bs[k]? = cq b->rows[k]? = cq row->H0 b=da/\∃xs,H b=cq (.lst xs)/\d8 K H0 row xs
theorem D0.at{K:Mj}{H0 H:Hp}{z:List (List D)}{a:dt}{bs:List dt}(n:D0 K H0 H z a bs){b:dt}(I:b∈a::bs):H0 b=da/\∃xs,H b=cq (.lst xs):=by
 rcases Mr.mp I with rfl|I
 ·exact⟨n.a0,_,n.ha⟩
 ·obtain⟨k,O⟩:=List.getElem?_of_mem I
  have U:=(MR.mp O).1;rw[n.len]at U;obtain⟨d,xs,Y,_⟩:=n.row k b _ O<|Mp U;exact⟨d,xs,Y⟩
theorem D0.move{K:Mj}{H0 H i4 H':Hp}{z:List (List D)}{a:dt}{bs:List dt}(n:D0 K H0 H z a bs)(s:gm H0 i4)(h0:∀b∈a::bs,i4 b=da)(h:∀b∈a::bs,H' b=H b):D0 K i4 H' z a bs:=
 ⟨h0 a MS,by rw[h a MS];exact n.ha,n.nd,n.len,λk b d I U=>by obtain⟨_,e,Y,Z⟩:=n.row k b d I U;have O:b∈a::bs:=MO _<|RA I;exact⟨h0 b O,e,by rw[h b O];exact Y,Z.mono s⟩⟩
def sx(K:Mj)(H0 H:Hp)(z:St)(γ:Ctx):Prop:=
 (∀(i:Nat) b,γ[i]? = cq (.nest b)->∃a bs,z[i]? = cq (cq (.ref a))/\D0 K H0 H b a bs/\∀(j:Nat) d c,γ[j]? = cq (.own d)->z[j]? = cq (cq (.ref c))->c∉a::bs)/\
 ∀(i j:Nat) I e,γ[i]? = cq (.nest I)->γ[j]? = cq (.nest e)->i=j
theorem sx.S8{K:Mj}{H0 H:Hp}{O:St}{γ:Ctx}(h:∀(i:Nat) z,γ[i]? ≠ cq (.nest z)):sx K H0 H O γ:=⟨λi z e=>absurd e<|h i z,λi j I a e=>absurd e<|h i I⟩
theorem sx.move{K:Mj}{H0 H Y H':Hp}{Z:St}{γ:Ctx}(n:sx K H0 H Z γ)(s:gm H0 Y)(h:∀(i:Nat) z a bs,γ[i]? = cq (.nest z)->Z[i]? = cq (cq (.ref a))->D0 K H0 H z a bs->(∀(j:Nat) ds c,γ[j]? = cq (.own ds)->Z[j]? = cq (cq (.ref c))->c∉a::bs)->∀b∈a::bs,Y b=da/\H' b=H b):sx K Y H' Z γ:=
 ⟨λi z e=>by obtain⟨a,bs,d,I,O⟩:=n.1 i z e;exact⟨a,bs,d,I.move s (λb U=>(h i z a bs e d I O b U).1)<|λb U=>(h i z a bs e d I O b U).2,O⟩,n.2⟩
theorem sx.ext{K:Mj}{H0 H z H':Hp}{Y:St}{γ:Ctx}(n:sx K H0 H Y γ)(e:Ext H0 H z H'):sx K z H' Y γ:=
 n.move e.s0 λi d a bs _ _ I _ b O=>by obtain⟨U,f,g2⟩:=I.at O;exact⟨e.new b U (by rw[g2];simp),by rw[e.s1 b _ g2,g2]⟩
structure RC(K:Mj)(H0 H:Hp)(σ:St)(γ:Ctx):Prop where
 sub:gm H0 H
 len:σ.length=γ.length
 val:∀(i:Nat) d,γ[i]? = cq (.val d)->∃v,σ[i]? = cq (cq v)/\Rep K H0 d v
 own:∀(i:Nat) ds,γ[i]? = cq (.own ds)->∃a xs,σ[i]? = cq (cq (.ref a))/\H0 a=da/\H a=cq (.lst xs)/\d8 K H0 ds xs
 ne:∀(i j:Nat) a ds es,γ[i]? = cq (.own ds)->γ[j]? = cq (.own es)->σ[i]? = cq (cq (.ref a))->σ[j]? = cq (cq (.ref a))->i=j
 wq:sx K H0 H σ γ
theorem RC.ext{K:Mj}{H0 H z H':Hp}{Y:St}{γ:Ctx}(r:RC K H0 H Y γ)(e:Ext H0 H z H'):RC K z H' Y γ:=
 ⟨e.sub,r.len,λi d h=>let ⟨v,b,I⟩:=r.val i d h;⟨v,b,I.mono e.s0⟩,
  λi f h=>let ⟨a,g,b,I,O,U⟩:=r.own i f h;⟨a,g,b,e.new a I (by rw[O];simp),e.s1 _ _ O,U.mono e.s0⟩,r.ne,r.wq.ext e⟩
def tV(K:Mj)(f:CO D):TE:=λh H Q=>∃e g d,RC K e H h g/\f g=cq d/\∀v b a,Ext e H a b->Rep K a d v->Q v b
def tQ(K:Mj)(f:CO (Sk×List D)):TE:=λj H Q=>∃g i k h,RC K g H j i/\f i=cq (k,h)/\∀a e d b,Ext g H b d->ie k K d a e->(k=.T->gR K b a e)->d8 K b h e->Q (.ref a) d
def tO(K:Mj)(f:CO (List D)):TE:=λj H Q=>∃e i g,RC K e H j i/\f i=cq g/\
 ∀a h d b,Ext e H b d->H a=da->b a=da->d a=cq (.lst h)->d8 K b g h->Q (.ref a) d
def tT(K:Mj)(f:CO Bool):TT:=λh H Q=>∃e g b,RC K e H h g/\f g=cq b/\∀d a,Ext e H a d->Q b d
def tA(K:Mj)(f:CO (List D)):TA:=λi H Q=>∃d h e,RC K d H i h/\f h=cq e/\∀g b a,Ext d H a b->d8 K a e g->Q g b
abbrev PV(X:Cx)(e:eo)(f:CO D):Prop:=PE X e (tV X.K f)
abbrev PQ(X:Cx)(e:eo)(f:CO (Sk×List D)):Prop:=PE X e (tQ X.K f)
abbrev PO(X:Cx)(e:eo)(f:CO (List D)):Prop:=PE X e (tO X.K f)
abbrev l5(X:Cx)(e:eo)(f:CO Bool):Prop:=PT X e (tT X.K f)
abbrev D1(X:Cx)(e:eo)(f:CO Bool):Prop:=PW X e (tT X.K f)
abbrev Df(X:Cx)(es:List eo)(f:CO (List D)):Prop:=PA X es (tA X.K f)
theorem qo(h:PE X e t)(i:∀z H Q,t' z H Q->t z H Q):PE X e t':=λa s z H Q I q=>h a s z H Q I<|i z H Q q
theorem Wx(h:PT X e t)(i:∀z H Q,t' z H Q->t z H Q):PT X e t':=λa s z H Q I q=>h a s z H Q I<|i z H Q q
theorem Ck(h:PW X e t)(i:∀z H Q,t' z H Q->t z H Q):PW X e t':=λO a s z H Q I q=>h O a s z H Q I<|i z H Q q
theorem CT(h:PA X es t)(i:∀z H Q,t' z H Q->t z H Q):PA X es t':=λpos a s z H Q I q=>h pos a s z H Q I<|i z H Q q
theorem yZ{X:Cx}{st:gB}{t t':TS}(h:PS X st t)(i:∀D z H,t' D z H->t D z H):PS X st t':=λa s z H D I q=>h a s z H D I<|i D z H q
theorem rj{X:Cx}{st:List gB}{t t':TS}(h:r0 X st t)(i:∀D z H,t' D z H->t D z H):r0 X st t':=λa s z H D I q=>h a s z H D I<|i D z H q
theorem XT(h:PI X tg e t)(i:∀z H R,t' z H R->t z H R):PI X tg e t':=λa s z H R I q=>h a s z H R I<|i z H R q
theorem vX(h:n<=lim):n<=fh:=Nl h ⋯
section
variable{X:Cx}{e a b c:eo}{pos:e8}
theorem PV.q(h:PV X e f):PQ X e (zC f):=qo h λs H Q Z=>by
 obtain⟨o,n,k,i,p,I,q⟩:=Z;unfold zC at I;cases e1:f n with
 |none=>rw[e1]at I;cases I
 | some d=>
  rw[e1]at I;refine⟨o,n,d,p,e1,λv m b ext r=>?_⟩;cases d with
  |tup l=>
   obtain⟨O,U⟩:k=.T/\i=l:=by simp[jD]at I;exact⟨I.1.symm,I.2.symm⟩
   subst O U;obtain⟨a,g,rfl,j,Y⟩:=(show ∃a g,v=.ref a/\gR X.K b a g/\d8 X.K b i g from r);exact q a g m b ext (n6 ext.sub j) (λ_=>j) Y
  |lst l=>
   obtain⟨O,U⟩:k=.L/\i=l:=by simp[jD]at I;exact⟨I.1.symm,I.2.symm⟩
   subst O U;obtain⟨a,g,rfl,j,Y⟩:=(show ∃a g,v=.ref a/\gE X.K b a g/\d8 X.K b i g from r);exact q a g m b ext (ext.sub.seq j) (λz=>nomatch z) Y
  |_=>simp[jD]at I
theorem PO.v(h:PO X e f):PV X e (jU f):=qo h λp H Q Z=>by
 obtain⟨j,i,d,g,I,q⟩:=Z;unfold jU at I;cases e1:f i with
 |none=>rw[e1]at I;cases I
 |some b=>
  rw[e1]at I;cases I;refine⟨j,i,b,g,e1,λa n o k ext l O m r=>?_⟩;exact q _ _ _ (ext.show l O m g.sub) (show ∃U Y,V.ref a=.ref U/\gE X.K _ U Y/\d8 X.K _ b Y from⟨a,n,rfl,gE.of zF,r.mono<|jb O _⟩)
theorem PO.q(h:PO X e f):PQ X e (jH f):=qo h λp H Q O=>by
 obtain⟨i,d,k,m,j,I,q⟩:=O;unfold jH at I;cases e1:f d with
 |none=>rw[e1]at I;cases I
 |some n=>
  rw[e1]at I;cases I;exact⟨i,d,_,j,e1,λa l g b ext o Y U r=>q a l g b ext (gE.of U) (λz=>nomatch z) r⟩
theorem Cm(i:Nat)(h:PE X e (pK i)):PV X e (zg i):=qo h λm H Q O=>by
 obtain⟨f,j,d,a,I,q⟩:=O;unfold zg at I;cases e1:j[i]? with
 |none=>rw[e1]at I;cases I
 | some c=>
  rw[e1]at I;cases c with
  |val k=>
   cases I;obtain⟨v,g,U⟩:=a.val i d e1;exact⟨v,g,q v H f (Ext.refl a.sub) U⟩
  |no=>cases I
  |own l=>cases I
  |nest b=>cases I
theorem Cw(i:Nat)(h:PE X e (pK i)):PQ X e (zm i):=qo h λt H Q r=>by
 obtain⟨f,s,k,j,g,I,q⟩:=r;unfold zm at I;cases e1:s[i]? with
 |none=>rw[e1]at I;cases I
 | some c=>
  rw[e1]at I;cases c with
  |no=>cases I
  |nest n=>cases I
  |own l=>
   cases I;obtain⟨a,b,m,U,o,p⟩:=g.own i j e1;exact⟨_,m,q a b H f (Ext.refl g.sub) (gE.of o) (λz=>nomatch z) p⟩
  | val d=>
   obtain⟨v,m,U⟩:=g.val i d e1;refine⟨v,m,?_⟩;cases d with
   |tup l=>
    obtain⟨Y,Z⟩:k=.T/\j=l:=by simp[Zt,jD]at I;exact⟨I.1.symm,I.2.symm⟩
    subst Y Z;obtain⟨a,b,rfl,O,g2⟩:=(show ∃a b,v=.ref a/\gR X.K f a b/\d8 X.K f j b from U);exact q a b H f (Ext.refl g.sub) (n6 g.sub O) (λ_=>O) g2
   |lst l=>
    obtain⟨Y,Z⟩:k=.L/\j=l:=by simp[Zt,jD]at I;exact⟨I.1.symm,I.2.symm⟩
    subst Y Z;obtain⟨a,b,rfl,O,g2⟩:=(show ∃a b,v=.ref a/\gE X.K f a b/\d8 X.K f j b from U);exact q a b H f (Ext.refl g.sub) (g.sub.seq O) (λz=>nomatch z) g2
   |_=>simp[Zt,jD]at I
theorem JY(h:PE X e (tC v))(r:∀H,Rep X.K H d v):PV X e (qv d):=qo h λi H Q I=>by obtain⟨a,g,f,b,O,q⟩:=I;cases O;exact q v H a (Ext.refl b.sub)<|r a
theorem ze:PV X (.Constant (.int i) j pos) (sI i):=JY CL λ_=>(show V.int i=.int i from rfl)
theorem ue:PV X (.Constant (.bool x) j pos) (qv<|.bl x):=JY Hd λ_=>(show V.bl x=.bl x from rfl)
theorem vP:PV X (.Constant .none j pos) (qv .ej):=JY CI λ_=>(show V.ej=.ej from rfl)
theorem jg:PV X (.Constant (.str x) j pos) (qv<|.str x):=JY CF λ_=>(show V.str x=.str x from rfl)
def ow(K:Mj)(r:R2)(F:D->D->Option D):Prop:=∀b H x y f I d Q,gm b H->Rep K b f x->Rep K b I y->F f I=cq d->(∀v e a,Ext b H a e->Rep K a d v->Q v e)->r x y H Q
theorem zf(h:o.bind f=cq y):∃x,o=cq x/\f x=cq y:=by
 cases o with
 |none=>cases h
 |some x=>exact⟨x,rfl,h⟩
theorem WE{K:Mj}{r:R2}{F:D->D->Option D}{fa fb:CO D}(hs:ow K r F):∀z H Q,tV K (zG F fa fb) z H Q->O8 r (tV K fa) (tV K fb) z H Q:=λz H Q U=>by obtain⟨h,f,d,b,I,q⟩:=U;obtain⟨x,l,I⟩:=zf I;obtain⟨y,Y,I⟩:=zf I;refine⟨h,f,x,b,l,λZ t j e m=>⟨j,f,y,b.ext e,Y,λp i k O n=>?_⟩⟩;exact hs k i Z p x y d Q O.sub (m.mono O.s0) n I λv g a s o=>q v g a (e.trans<|O.trans s) o
theorem Kj(I:jl X (wb op) r)(hs:ow X.K r F)(z:PV X a fa)(O:PV X b fb):PV X (.BinOp a op b pos) (zG F fa fb):=
 qo (nL I z O) (WE hs)
theorem pX(I:jl X (ri op) r)(hs:ow X.K r F)(z:PV X a fa)(O:PV X b fb)(Y:B1 op b=di):PV X (.Compare a [op] [b] pos) (zG F fa fb):=
 qo (gK I z O Y) (WE hs)
theorem Yv{d:D}{b:Bool}(h:C5 d=cq b):d=.bl b:=by cases d<;>simp[C5]at h;rw[h]
theorem Zn(O:jl X (ri op) r)(hs:ow X.K r F)(z:PV X a fa)(U:PV X b fb)(Z:B1 op b=di):l5 X (.Compare a [op] [b] pos) (sB<|zG F fa fb):=
 Wx (gr O z U Z) λl H Q Y=>by obtain⟨g,j,k,i,I,q⟩:=Y;obtain⟨d,h,I⟩:=zf I;refine WE hs l H _ ⟨g,j,d,i,h,λv f e x r=>?_⟩;rw[Yv I]at r;exact⟨k,r,q f e x⟩
theorem qE{f:CO D}(h:PV X e f)(U:∀O,D8 e X.env O=(do let v<-O;E8 e.pos;C7 [v] (Pt v)):=by intro _;rfl):l5 X e (sB f):=
 Wx (Cq h U) λm H Q Y=>by obtain⟨g,l,k,j,I,q⟩:=Y;obtain⟨d,i,I⟩:=zf I;refine⟨g,l,d,j,i,λv b a x r=>?_⟩;rw[Yv I]at r;exact⟨k,r,q b a x⟩
theorem wG(h:l5 X a f):D1 X (.BoolOp .And [a] pos) f:=tY h
theorem Zm(h:l5 X a f):D1 X (.BoolOp .Or [a] pos) f:=Ci h
theorem Jk{f g:CO Bool}{rest:List eo}(z:l5 X a f)(O:D1 X (.BoolOp .And (b::rest) pos) g):D1 X (.BoolOp .And (a::b::rest) pos) (ZD f g):=
 Ck (Cj z O) λn H Q U=>by
  obtain⟨j,h,k,e,I,q⟩:=U;obtain⟨c,m,I⟩:=zf I;refine⟨j,h,c,e,m,λi d x=>?_⟩;cases c with
  |true=>rw[UJ rfl]at I ⊢;exact⟨d,h,k,e.ext x,I,λl Y Z=>q l Y<|x.trans Z⟩
  |false=>rw[UY MJ]at I ⊢;cases I;exact q i d x
theorem wX{f g:CO Bool}{rest:List eo}(z:l5 X a f)(O:D1 X (.BoolOp .Or (b::rest) pos) g):D1 X (.BoolOp .Or (a::b::rest) pos) (pS f g):=
 Ck (GT z O) λn H Q U=>by
  obtain⟨j,h,k,e,I,q⟩:=U;obtain⟨c,m,I⟩:=zf I;refine⟨j,h,c,e,m,λi d x=>?_⟩;cases c with
  |true=>rw[UJ rfl]at I ⊢;cases I;exact q i d x
  |false=>rw[UY MJ]at I ⊢;exact⟨d,h,k,e.ext x,I,λl Y Z=>q l Y<|x.trans Z⟩
theorem yD(z:l5 X a f):l5 X (.UnaryOp .Not a pos) (QJ f):=
 Wx (Cr z) λi H Q O=>by
  obtain⟨g,d,k,h,I,q⟩:=O;unfold QJ at I;cases e1:f d with
  |none=>rw[e1]at I;cases I
  |some c=>rw[e1]at I;cases I;exact⟨g,d,c,h,e1,λe b x=>q e b x⟩
theorem Jl(h:D1 X e f):l5 X e f:=h.pt
theorem Y5(h:PV X a f):PV X (.BoolOp op [a] pos) f:=CG h
theorem Kk{f g:CO D}{rest:List eo}(z:PV X a f)(O:PV X (.BoolOp .And (b::rest) pos) g):PV X (.BoolOp .And (a::b::rest) pos) (tK f g):=
 qo (CN z O) λt H Q U=>by
  obtain⟨l,j,d,i,I,q⟩:=U;obtain⟨c,h,I⟩:=zf I;obtain⟨Y,Z,h⟩:=zf h;refine⟨l,j,Y,i,Z,λv k e x r=>?_⟩;rw[Yv h]at r;refine⟨c,r,?_⟩;cases c with
  |true=>rw[UJ rfl]at I ⊢;exact⟨e,j,d,i.ext x,I,λp m n s o=>q p m n (x.trans s) o⟩
  |false=>rw[UY MJ]at I ⊢;cases I;exact q _ k e x (show V.bl di=.bl di from rfl)
theorem pW(z:PV X a f):PV X (.UnaryOp .Not a pos) (Fs f):=
 qo (CH z) λj H Q U=>by
  obtain⟨h,e,d,i,I,q⟩:=U;unfold Fs at I;cases e1:f e with
  |none=>rw[e1]at I;cases I
  |some O=>
   rw[e1]at I;refine⟨h,e,O,i,e1,λv g b x r=>?_⟩;cases O with
   |bl c=>cases I;exact⟨c,r,q _ g b x<|show V.bl (!c)=.bl (!c)from rfl⟩
   |_=>cases I
theorem xB(Z:l5 X c k)(z:PV X a f)(hb:PV X b g):PV X (.IfExp c a b pos) (cM k f g):=
 qo (nM Z z hb) λr H Q o=>by
  obtain⟨m,l,d,j,I,q⟩:=o;obtain⟨t,n,I⟩:=zf I;refine⟨m,l,t,j,n,λp e x=>?_⟩;cases t with
  |true=>rw[UJ rfl]at I ⊢;exact⟨e,l,d,j.ext x,I,λO h U Y i=>q O h U (x.trans Y) i⟩
  |false=>rw[UY MJ]at I ⊢;exact⟨e,l,d,j.ext x,I,λO h U Y i=>q O h U (x.trans Y) i⟩
theorem uE:Df X [] zB:=CT qp λf H Q I=>by obtain⟨a,e,d,b,O,q⟩:=I;cases O;exact q [] H a (Ext.refl b.sub) d8.nil
theorem nP(z:PV X e f)(Y:Df X es g)(hs:eJ (e::es) X.env=(di,eh e X.env)::eJ es X.env:=by rfl):Df X (e::es) (zb f g):=
 CT (jq z Y hs) λt H Q Z=>by
  obtain⟨h,a,s,b,I,q⟩:=Z;obtain⟨x,l,I⟩:=zf I;cases O:g a with
  |none=>rw[O]at I;cases I
  |some r=>
   rw[O]at I;cases I;exact⟨h,a,x,b,l,λv p j d m=>⟨j,a,r,b.ext d,O,λo i k U n=>q (v::o) i k (d.trans U)<|d8.cons (m.mono U.s0) n⟩⟩
theorem jj(h:Df X es f):PV X (.Tuple es z pos) (qC f):=
 qo (CD h) λo H Q Z=>by
  obtain⟨g,l,d,j,I,q⟩:=Z;obtain⟨b,i,I⟩:=zf I;by_cases O:b.length<=lim
  ·rw[UJ O]at I;cases I
   refine⟨g,l,b,j,i,λk m n z U=>⟨vX (by rw[U.length];exact O),λp Y=>?_⟩⟩;exact q _ _ _ (z.trans<|Ext.alloc z.sub Y _) (show ∃a e,V.ref p=.ref a/\gR X.K _ a e/\d8 X.K _ b e from⟨p,k,rfl,gR.of zF,U.mono<|jb (jy z.sub Y) _⟩)
  ·rw[UY O]at I;cases I
theorem jw(h:Df X es f):PO X (.List es pos) (jL f):=
 qo (CJ h) λn H Q Z=>by
  obtain⟨b,l,d,j,I,q⟩:=Z;obtain⟨g,i,I⟩:=zf I;by_cases U:g.length<=lim
  ·rw[UJ U]at I;cases I
   refine⟨b,l,_,j,i,λk m e a Y=>⟨vX (by rw[Y.length];exact U),λp O=>?_⟩⟩;exact q p k _ e (a.trans<|Ext.hide a.sub O _) (by
    cases z:H p with
    |none=>rfl
    |some o=>rw[a.s1 p o z]at O;cases O) (jy a.sub O) zF Y
  ·rw[UY U]at I;cases I
end
def Dg(k1 k2:Sk)(z TI TO Y Z l1 l2:dt)(n:Nat)(h:et):Prop:=
 (m3 h z TI TO .none\/∃I b O,h.get? z=cq (Wf I b TI TO)/\h.get? I=cq O)/\l9 h TI (.ref Y) (.ref Z)/\(∃c e,l9 h TO c e)/\g7 k1 h Y l1 n/\g7 k2 h Z l2 n
section
variable{prog:f9}{w:f6}{A:ij}{E:EQ}{s:d9}
theorem Bq{k1 k2:Sk}{z TI TO i1 i2 l1 l2:dt}{n:Nat}{xs ys:Array dy}{Q:Option dy->d9->Prop}(hh:A.handled=da)(D:B0 z TI TO i1 i2 l1 l2)
 (Z:Dg k1 k2 z TI TO i1 i2 l1 l2 n s.heap) (a4:i7 k1 s.heap l1 xs) (a5:i7 k2 s.heap l2 ys) (a6:xs[n]? = da\/ys[n]? = da)
 (hQ:∀h',(∀c o,c ∉ [z,TI,TO,i1,i2]->s.heap.get? c=cq o->h'.get? c=cq o)->Q da {s with heap:=h'}):wpAny (ef prog w) A (u9<|.ref z) Q E s:=by
 obtain⟨a,h,⟨c,e,k⟩,i,j⟩:=Z;unfold u9;rcases a with a|⟨al,b,oa,a,ha⟩
 ·have O:s.TypeIs (.ref z) "zip":=⟨_,a,rfl⟩
  refine Mi (Of (MY (name:=MU "__next__") O NH (NG NH O OR
   (af (show A.in1.handled=da from hh) D a h k i j a4 a5 a6 λg e U Y=>?_) (OF _))))
  obtain⟨o,f,d⟩:=Y;refine Mi (RO (T:="StopIteration") (b:=cI) ⟨o,f,d⟩ SD (Mo ?_));refine hQ g λc o I q=>?_;simp only[Mr,MD,or_false,not_or]at I;exact U c o I.1 I.2.2.1 I.2.2.2.1 I.2.2.2.2 q
 ·have O:s.TypeIs (.ref z) "zip":=⟨_,a,rfl⟩
  refine Mi (Of (MY (name:=MU "__next__") O NH (NG NH O OR
   (my (show A.in1.handled=da from hh) D a ha h i j a4 a5 a6 λg e U Y=>?_) (OF _))))
  obtain⟨o,f,d⟩:=Y;refine Mi (RO (T:="StopIteration") (b:=cI) ⟨o,f,d⟩ SD (Mo ?_));refine hQ g λc o I q=>?_;simp only[Mr,MD,or_false,not_or]at I;exact U c o I.1 I.2.2.2.1 I.2.2.2.2 q
end
def nj(z:List (Key×V))(ps:List (Key×V)):List (Key×V):=ps.foldl (λa I=>eE a I.1 I.2) z
theorem v9:entryFor table "dict.update.loop" = cq Builtin.«dict.update.loop» :=entryFor_of_tree (by kernel_rfl)
theorem vO(args:Args):(Code.builtin "dict.update.loop" args).quiet=cI:=Sa _ ⋯
def cN(i:Nat)(f:CO Bool)(γ:Ctx):Option Bool:=(qh γ[i]?).bind λa=>f<|γ.set i<|.val<|.lst a
def qU(ds:List D):List D:=(Ml ds.length).map λ(i:Nat)=>D.tup [.int i,ds[i]?.getD .ej]
def mW(f:CO D)(γ:Ctx):Option (List D):=(f γ).bind λd=>match d with
 |.tup a=>cq (qU a)
 |_=>da
def WT:List D->Option (List Int)
 |[]=>cq []
 |.int i::r=>(WT r).map λl=>i::l
 |_::_=>da
def BV(i:Nat)(F:CO Fl)(γ:Ctx):Option Fl:=(qh γ[i]?).bind λa=>F<|γ.set i<|.val<|.lst a
def YU:List D->Option (List Str)
 |[]=>cq []
 |.str x::r=>(YU r).map λl=>x::l
 |_::_=>da
def ju(x:Str):Bool:=decide<|x.length<=1000
def fS(f:CO D)(g:CO (Sk×List D))(γ:Ctx):Option D:=(f γ).bind λd=>(g γ).bind λa=>match d,a.1 with
 |.str sep,.L=>(YU a.2).bind λl=>if l.length<=lim/\l.all ju=cI/\ju sep=cI then cq (.str<|Ug sep l)else da
 |_,_=>da
def xA(f g:CO D)(γ:Ctx):Option D:=(f γ).bind λd=>((g γ).bind n5).bind λi=>match d with
 |.str z=>if ju z=cI then (hM z.cps.toList.length i).bind λk=>z.cps.toList[k]?.map λc=>.str ⟨#[c]⟩else da
 |_=>da
def vE(f:CO D)(γ:Ctx):Option D:=(f γ).bind λd=>match d with
 |.str z=>if ju z=cI then cq (.int z.length)else da
 |_=>da
def fQ(f g:CO D)(γ:Ctx):Option D:=((f γ).bind n5).bind λi=>((g γ).bind n5).map λj=>.int (if j<i then j else i)
abbrev Xn:=Str×Option Int
def vr:CO Xn:=λ_=>da
def Bg(c:Str):CO Xn:=λ_=>cq (c,da)
def Wh(c:Str)(f:CO D):CO Xn:=λa=>((f a).bind n5).bind λi=>if inR i=cI then cq (c,cq i)else da
def ni(k:CO Bool)(G H:CO Xn):CO Xn:=λa=>(k a).bind λb=>if b=cI then G a else H a
def XN(G:CO Xn)(F:CO Fl)(H:CO Xn):CO Xn:=λb=>match G b with
 |some c=>cq c
 |none=>(F b).bind λI=>match I with
  |.next a=>H a
  |_=>da
def j4(G:List D->Option Xn)(g:CO (List D)):CO Xn:=λa=>(g a).bind G
def JX(n:Nat)(G:CO Xn)(ds:List D):Option Xn:=G<|zN n ds
def aD(c:Str)(f:CO D):CO D:=λa=>(f a).bind λd=>match d with
 |.exc I _=>cq (.bl<|I==c)
 |_=>da
def BU(f:CO D):CO D:=λa=>(f a).bind λd=>match d with
 |.exc _ _=>cq (.bl cI)
 |_=>da
def Wc(c:Str):Str:=if c==("NoRoom" : Str)then "room" else "at"
def IF(nm:Str)(f:CO D):CO D:=λa=>(f a).bind λd=>match d with
 |.exc c (cq n)=>if (Wc c==nm)=cI then cq (.int n)else da
 |_=>da
def KR(f:CO D)(g:CO (Sk×List D)):CO D:=λb=>(f b).bind λd=>(g b).bind λa=>(n5 d).bind λi=>(WT a.2).map λl=>.bl (!decide (i∈l))
end DL
namespace DL
open PySem L2
open PySem.W (KasT kas_sort)
def kH(z:Str):List D:=z.cps.toList.map λc=>D.str ⟨#[c]⟩
def ID(f:CO D)(γ:Ctx):Option (List D):=(f γ).bind λd=>match d with
 |.str z=>if ju z=cI then cq (kH z)else da
 |_=>da
def Y0(f:CO D)(γ:Ctx):Option (List D):=(f γ).bind λd=>match d with
 |.str z=>if ju z=cI then cq (qU<|kH z)else da
 |_=>da
def ZC(f:CO D)(γ:Ctx):Option (List D):=(f γ).bind λd=>match d with
 |.lst a=>cq (qU a)
 |_=>da
def IE(f:CO D)(g:CO (Sk×List D))(γ:Ctx):Option D:=(f γ).bind λd=>(g γ).bind λa=>match d with
 |.str x=>(YU a.2).map λl=>.bl (l.any λy=>y==x)
 |_=>da
def Wr(f g:CO D)(γ:Ctx):Option D:=(f γ).bind λd=>(g γ).bind λe=>match d,e with
 |.str x,.str y=>if ju x=cI/\ju y=cI then cq (.str<|x++y)else da
 |_,_=>da
def GN(f:CO D)(l h:CO (Option Int))(γ:Ctx):Option D:=(f γ).bind λd=>(l γ).bind λlo=>(h γ).bind λa=>match d with
 |.str z=>if ju z=cI then cq (.str<|Txt.slice z lo a)else da
 |_=>da
def FD(x y:Int×Int):Bool:=if x.1=y.1 then decide (x.2<y.2)else decide (x.1<y.1)
def BZ{z:Type}(lt:Nat->Nat->Bool):KasT z->z
 |.ret a=>a
 |.ask i j k=>BZ lt<|k<|lt i j
def yJ(ps:List (Int×Int)):List Nat:=if ps.length<2 then Ml ps.length else (BZ (λi j=>FD (ps.getD i (0,0))<|ps.getD j (0,0))<|kas_sort ps.length).toList
end DL
namespace DL
open PySem L2
def Yh:List D->Option (List Int)
 |[]=>cq []
 |.int i::r=>(Yh r).map λl=>i::l
 |_::_=>da
def oY(ds es:List D):Option D:=match Yh ds with
 |some a=>if ds.length=es.length/\a.Nodup/\ds.length<=lim then cq (.n4 ds es)else da
 |none=>da
def bq:List D->List D->Int->Option D
 |k::ks,v::vs,i=>match k with
  |.int j=>if j=i then cq v else bq ks vs i
  |_=>bq ks vs i
 |_,_,_=>da
open PySem.Spec PyProof.Rows
structure RS(K:Mj)(E0 E H0 H:Hp)(σ:St)(γ:Ctx):Prop where
 rc:RC K H0 H σ γ
 ext:Ext E0 E H0 H
 fresh:∀(i:Nat) ds a,γ[i]? = cq (.own ds)->σ[i]? = cq (cq (.ref a))->E a=da
 zl:∀(i:Nat) rows a xs,γ[i]? = cq (.nest rows)->σ[i]? = cq (cq (.ref a))->H a=cq (.lst xs)->E a=da/\∀b,V.ref b∈xs->E b=da
def Sat(K:Mj)(E0 E:Hp)(D:Ends):Fl->Prop
 |.next f=>∀e H b,RS K E0 E b H e f->D.nx e H
 |.brk f=>∀e H b,RS K E0 E b H e f->D.bk e H
 |.cont f=>∀e H b,RS K E0 E b H e f->D.ct e H
 |.ret (.val d)=>∀v H b,Ext E0 E b H->Rep K b d v->D.rt v H
 |.ret (.own es)=>∀a g H b,Ext E0 E b H->E a=da->b a=da->H a=cq (.lst g)->d8 K b es g->D.rt (.ref a) H
def tS(K:Mj)(F:CO Fl):TS:=λD d H=>∃E0 E b a I,RS K E0 E b H d a/\F a=cq I/\Sat K E0 E D I
abbrev l0(X:Cx)(st:gB)(F:CO Fl):Prop:=PS X st (tS X.K F)
abbrev W8(X:Cx)(A?:List gB)(F:CO Fl):Prop:=r0 X A? (tS X.K F)
section
variable{K:Mj}{E0 E H0 H i4 H':Hp}{σ:St}{γ:Ctx}
theorem RS.step(r:RS K E0 E H0 H σ γ)(e:Ext H0 H i4 H'):RS K E0 E i4 H' σ γ:=⟨r.rc.ext e,r.ext.trans e,r.fresh,λi b a f d I U=>by obtain⟨Y,bs,O,g2,_⟩:=r.rc.wq.1 i b d;rw[I]at O;cases O;have:=e.s1 a _ g2.ha;rw[U]at this;cases this;exact r.zl i b a _ d I g2.ha⟩
theorem zU{z:Type}{l:List z}{i j:Nat}{x y:z}(h:(l.set i x)[j]? = cq y):(j=i/\y=x/\i<l.length)\/(j≠i/\l[j]? = cq y):=by
 by_cases e:i=j
 ·subst e
  by_cases I:i<l.length
  ·rw[NK I]at h;cases h;exact .inl ⟨rfl,rfl,I⟩
  ·rw[List.set_eq_of_length_le ⋯]at h
   exact absurd (MR.mp h).1 I
 ·rw[MC e]at h;exact .inr ⟨Nr e,h⟩
theorem sx.z8{i:Nat}{d:D}{v:V}(n:sx K H0 H σ γ):sx K H0 H (σ.set i<|some v) (γ.set i<|.val d):=
 ⟨λj b e=>by
  rcases zU e with⟨_,z,_⟩|⟨O,z⟩
  ·cases z
  ·obtain⟨a,bs,l,U,Y⟩:=n.1 j b z
   refine⟨a,bs,by rw[MC (Nr O)];exact l,U,λk h c f I=>?_⟩;rcases zU f with⟨_,z,_⟩|⟨Z,g⟩
   ·cases z
   ·rw[MC (Nr Z)]at I;exact Y k h c g I,
 λj k m o f I=>by
  rcases zU f with⟨_,z,_⟩|⟨_,g⟩
  ·cases z
  ·rcases zU I with⟨_,z,_⟩|⟨_,p⟩
   ·cases z
   ·exact n.2 j k m o g p⟩
theorem RC.z8{i:Nat}{d:D}{v:V}(r:RC K H0 H σ γ)(h:Rep K H0 d v):RC K H0 H (σ.set i<|some v) (γ.set i<|.val d):=by
 refine⟨r.sub,by simp[r.len],λj f e=>?_,λj b e=>?_,λj k a b m g l U Y=>?_,r.wq.z8⟩
 ·rcases zU e with⟨rfl,z,Z⟩|⟨I,z⟩
  ·cases z;exact⟨v,NK (by rw[r.len];exact Z),h⟩
  ·obtain⟨o,O,g2⟩:=r.val j f z
   exact⟨o,by rw[MC (Nr I)];exact O,g2⟩
 ·rcases zU e with⟨rfl,z,Z⟩|⟨I,z⟩
  ·cases z
  ·obtain⟨a,p,O,g2⟩:=r.own j b z
   exact⟨a,p,by rw[MC (Nr I)];exact O,g2⟩
 ·rcases zU g with⟨_,z,_⟩|⟨I,s⟩
  ·cases z
  ·rcases zU l with⟨_,z,_⟩|⟨n,t⟩
   ·cases z
   ·rw[MC (Nr I)]at U
    rw[MC (Nr n)]at Y;exact r.ne j k a b m s t U Y
theorem RS.z8{i:Nat}{d:D}{v:V}(r:RS K E0 E H0 H σ γ)(h:Rep K H0 d v):RS K E0 E H0 H (σ.set i<|some v) (γ.set i<|.val d):=
 ⟨r.rc.z8 h,r.ext,λj f a e I=>by
  rcases zU e with⟨_,z,_⟩|⟨O,z⟩
  ·cases z
  ·rw[MC (Nr O)]at I;exact r.fresh j f a z I,
 λj b a g e I U=>by
  rcases zU e with⟨_,z,_⟩|⟨O,z⟩
  ·cases z
  ·rw[MC (Nr O)]at I;exact r.zl j b a g z I U⟩
theorem QY:∀{I bs:List dt},I.map V.ref=bs.map V.ref->I=bs
 |[],[],_=>rfl
 |[],_::_,h=>by cases h
 |_::_,[],h=>by cases h
 |a::I,b::bs,h=>by rw[MT,MT]at h;injection h with h1 O;injection h1 with h1;rw[h1,QY O]
theorem RS.z?{i:Nat}{es:List D}{a:dt}{xs:List V}{G0 G:Hp}(r:RS K E0 E G0 G σ γ)(e:Ext G0 G H0 H)(h1:G a=da)(h2:H0 a=da)(h3:H a=cq (.lst xs))(h4:d8 K H0 es xs):
 RS K E0 E H0 H (σ.set i<|some (.ref a)) (γ.set i<|.own es):=by
 have h:=r.rc.ext e;have no:∀(j:Nat) f,γ[j]? = cq (.own f)->¬σ[j]? = cq (cq (.ref a)):=λj f g z=>by obtain⟨b,u,I,g2,g3,_⟩:=r.rc.own j f g;rw[z]at I;cases I;rw[h1]at g3;cases g3
 refine⟨⟨h.sub,by simp[h.len],λj x g=>?_,λj f g=>?_,λj k b f fs t Y Z l=>?_,⟨λj d g=>?_,λj k C F I g2=>?_⟩⟩,r.ext.trans e,λj f b I g2=>?_,λj d b xs I g2 g3=>?_⟩
 ·rcases zU g with⟨_,z,_⟩|⟨O,z⟩
  ·cases z
  ·obtain⟨J,I,g2⟩:=h.val j x z
   exact⟨J,by rw[MC (Nr O)];exact I,g2⟩
 ·rcases zU g with⟨rfl,z,U⟩|⟨O,z⟩
  ·cases z;exact⟨a,xs,NK (by rw[h.len];exact U),h2,h3,h4⟩
  ·obtain⟨b,u,I,g2⟩:=h.own j f z
   exact⟨b,u,by rw[MC (Nr O)];exact I,g2⟩
 ·rcases zU t with⟨rfl,z,U⟩|⟨O,m⟩
  ·rcases zU Y with⟨rfl,_,_⟩|⟨n,p⟩
   ·rfl
   ·rw[NK (by rw[h.len];exact U)]at Z
    rw[MC (Nr n)]at l;cases Z;exact absurd l<|no k fs p
  ·rcases zU Y with⟨rfl,z,U⟩|⟨n,p⟩
   ·rw[NK (by rw[h.len];exact U)]at l
    rw[MC (Nr O)]at Z;cases l;exact absurd Z<|no j f m
   ·rw[MC (Nr O)]at Z
    rw[MC (Nr n)]at l;exact h.ne j k b f fs m p Z l
 ·rcases zU g with⟨_,z,_⟩|⟨O,z⟩
  ·cases z
  ·obtain⟨b,bs,I,g2,g3⟩:=r.rc.wq.1 j d z
   obtain⟨M,s,f1,f2,A⟩:=h.wq.1 j d z;rw[I]at f1;cases f1;have y:s.map V.ref=bs.map V.ref:=by have:=e.s1 b _ g2.ha;rw[f2.ha]at this;injection this with this;injection this
   have w:s=bs:=QY y;subst w;refine⟨b,s,by rw[MC (Nr O)];exact I,f2,λk f c t Y=>?_⟩;rcases zU t with⟨rfl,_,U⟩|⟨n,m⟩
   ·rw[NK (by rw[h.len];exact U)]at Y;cases Y
    intro B;obtain⟨_,L,q⟩:=g2.at B;rw[h1]at q;cases q
   ·rw[MC (Nr n)]at Y;exact A k f c m Y
 ·rcases zU I with⟨_,z,_⟩|⟨_,m⟩
  ·cases z
  ·rcases zU g2 with⟨_,z,_⟩|⟨_,p⟩
   ·cases z
   ·exact h.wq.2 j k C F m p
 ·rcases zU I with⟨rfl,z,U⟩|⟨O,z⟩
  ·rw[NK (by rw[h.len];exact U)]at g2;cases g2
   cases q:E a with
   |none=>rfl
   |some o=>rw[r.ext.s1 a o q]at h1;cases h1
  ·rw[MC (Nr O)]at g2;exact r.fresh j f b z g2
 ·rcases zU I with⟨_,z,_⟩|⟨O,z⟩
  ·cases z
  ·rw[MC (Nr O)]at g2;exact(r.step e).zl j d b xs z g2 g3
theorem RS.rewrite{i:Nat}{ds es:List D}{a:dt}{xs ys:List V}(r:RS K E0 E H0 H σ γ)(hi:γ[i]? = cq (.own ds))(hs:σ[i]? = cq (cq (.ref a)))(h4:d8 K H0 es ys):
 RS K E0 E H0 (upd H a<|.lst ys) σ (γ.set i<|.own es):=by
 obtain⟨C,F,g1,g2,g3,L⟩:=r.rc.own i ds hi;rw[hs]at g1;cases g1;have G:i<γ.length:=(MR.mp hi).1;refine⟨⟨λb o q=>?_,by simp[r.rc.len],λj w g=>?_,λj fs g=>?_,λj k b fs gs e I Z x=>?_,⟨λj d g=>?_,λj k A B e I=>?_⟩⟩,⟨r.ext.s0,λb o q=>?_,λb o q=>?_,r.ext.new⟩,λj fs b e I=>?_,λj d b p e I Z=>?_⟩
 ·rw[zE (λz=>by rw[z,g2]at q;cases q)];exact r.rc.sub b o q
 ·rcases zU g with⟨_,z,_⟩|⟨h,z⟩
  ·cases z
  ·exact r.rc.val j w z
 ·rcases zU g with⟨rfl,z,M⟩|⟨h,z⟩
  ·cases z;exact⟨a,ys,hs,g2,zF,h4⟩
  ·obtain⟨b,p,O,U,Y,y⟩:=r.rc.own j fs z
   refine⟨b,p,O,U,?_,y⟩;rw[zE (λq=>h<|r.rc.ne j i a fs ds z hi (by rw[O,q]) hs)];exact Y
 ·have t:∃l,γ[j]? = cq (.own l):=by
   rcases zU e with⟨q,_,_⟩|⟨_,z⟩
   ·exact⟨ds,by rw[q];exact hi⟩
   ·exact⟨fs,z⟩
  have u:∃l,γ[k]? = cq (.own l):=by
   rcases zU I with⟨q,_,_⟩|⟨_,z⟩
   ·exact⟨ds,by rw[q];exact hi⟩
   ·exact⟨gs,z⟩
  obtain⟨O,f⟩:=t;obtain⟨U,n⟩:=u;exact r.rc.ne j k b O U f n Z x
 ·rcases zU g with⟨_,z,_⟩|⟨h,z⟩
  ·cases z
  ·obtain⟨b,bs,O,U,Y⟩:=r.rc.wq.1 j d z
   have s:=Y i ds a hi hs;refine⟨b,bs,O,U.move (gm.refl _) (λc m=>(U.at m).1)<|λc m=>zE λq=>s<|q ▸ m,λk fs c e I=>?_⟩;rcases zU e with⟨q,_,_⟩|⟨_,f⟩
   ·rw[q,hs]at I;cases I;exact s
   ·exact Y k fs c f I
 ·rcases zU e with⟨_,z,_⟩|⟨_,f⟩
  ·cases z
  ·rcases zU I with⟨_,z,_⟩|⟨_,n⟩
   ·cases z
   ·exact r.rc.wq.2 j k A B f n
 ·rw[zE (λz=>by rw[z,r.fresh i ds a hi hs]at q;cases q)];exact r.ext.s1 b o q
 ·rw[zE (λz=>by rw[z,g2]at q;cases q)];exact r.ext.sub b o q
 ·rcases zU e with⟨q,_,_⟩|⟨_,z⟩
  ·rw[q]at I;exact r.fresh i ds b hi I
  ·exact r.fresh j fs b z I
 ·rcases zU e with⟨_,z,_⟩|⟨h,z⟩
  ·cases z
  ·obtain⟨J,bs,O,U,Y⟩:=r.rc.wq.1 j d z
   rw[I]at O;cases O;rw[zE (show b≠a from λq=>Y i ds a hi hs<|by rw[q];exact MS)]at Z;exact r.zl j d b p z I Z
end
section
variable{X:Cx}{e a c:eo}{pos:e8}{st:gB}{rest:List gB}
theorem zS:W8 X [] qD:=rj ui λD b H I=>by obtain⟨E0,E,a,d,Z,O,U,Y⟩:=I;cases U;exact Y b H a O
theorem zc{F G:CO Fl}(z:l0 X st F)(Y:W8 X rest G):W8 X (st::rest) (zR F G):=rj (aL z Y) λD l H Z=>by
 obtain⟨E0,E,d,i,g,h,I,O⟩:=Z;obtain⟨U,f,I⟩:=zf I;refine⟨E0,E,d,i,U,h,f,?_⟩;cases U with
 |next a=>exact λj k b e=>⟨E0,E,b,a,g,e,I,O⟩
 |brk a=>cases I;exact O
 |cont a=>cases I;exact O
 |ret r=>cases I;cases r<;>exact O
theorem zk(z:l0 X st F):W8 X [st] F:=Wy z
theorem zI(h:o.map f=cq y):∃x,o=cq x/\f x=y:=by
 cases o with
 |none=>cases h
 |some x=>exact⟨x,rfl,by simpa using h⟩
theorem zJ{f:CO D}(h:PV X e f):l0 X (.Return (cq e) pos) (qV f):=yZ (gy h) λD k H U=>by obtain⟨E0,E,g,j,Z,O,I,Y⟩:=U;obtain⟨d,i,I⟩:=zI I;subst I;exact⟨g,j,d,O.rc,i,λv b a x r=>Y v b a (O.ext.trans x) r⟩
theorem qa{f:CO (List D)}(h:PO X e f):l0 X (.Return (cq e) pos) (yV f):=yZ (gy h) λD s H U=>by
 obtain⟨E0,E,i,n,p,I,O,Y⟩:=U;obtain⟨j,k,O⟩:=zI O;subst O;refine⟨i,n,j,I.rc,k,λa m g b x d Z l r=>Y a m g b (I.ext.trans x) ?_ Z l r⟩;cases q:E a with
 |none=>rfl
 |some o=>rw[I.ext.s1 a o q]at d;cases d
theorem kL(i:Nat)(h:PE X e (pK i)):l0 X (.Return (cq e) pos) (JO i):=yZ (gy h) λD r H Z=>by
 obtain⟨E0,E,g,o,p,O,I,Y⟩:=Z;unfold JO at I;cases b:o[i]? with
 |none=>rw[b]at I;cases I
 | some c=>
  rw[b]at I;cases c with
  |no=>cases I
  |val d=>
   cases I;obtain⟨v,f,U⟩:=O.rc.val i d b;exact⟨v,f,Y v H g O.ext U⟩
  |nest k=>cases I
  |own j=>
   cases I;obtain⟨a,n,f,U,l,m⟩:=O.rc.own i j b;exact⟨_,f,Y a n H g O.ext (O.fresh i j a b f) U l m⟩
theorem Y8:l0 X (.Continue pos) BX:=yZ Wz λD b H ⟨E0,E,a,d,Y,I,O,U⟩=>by cases O;exact U b H a I
theorem k7:l0 X st QK:=yZ nB λD d H ⟨E0,E,a,b,O,U,I,Y⟩=>by cases I
theorem jA{k:CO Bool}{F G:CO Fl}{x y:List gB}(Z:l5 X c k)(z:W8 X x F)(hb:W8 X y G):l0 X (.If c x y pos) (i8 k F G):=yZ (GZ Z z hb) λD h H f=>by
 obtain⟨E0,E,d,b,U,O,I,Y⟩:=f;obtain⟨t,e,I⟩:=zf I;refine⟨d,b,t,O.rc,e,λg a x=>?_⟩;cases t with
 |true=>rw[UJ rfl]at I ⊢;exact⟨E0,E,a,b,U,O.step x,I,Y⟩
 |false=>rw[UY MJ]at I ⊢;exact⟨E0,E,a,b,U,O.step x,I,Y⟩
theorem uj(i:Nat){f:CO D}(h:PS X st (az (tV X.K f)<|v7 i)):l0 X st (jG i f):=yZ h λD k H U=>by obtain⟨E0,E,b,g,Z,O,I,Y⟩:=U;obtain⟨d,e,I⟩:=zI I;subst I;exact⟨b,g,d,O.rc,e,λv j a x r=>Y _ _ a<|(O.step x).z8 r⟩
theorem nv(i:Nat){f:CO (List D)}(h:PS X st (az (tO X.K f)<|v7 i)):l0 X st (kB i f):=yZ h λD p H U=>by obtain⟨E0,E,d,l,n,O,I,Y⟩:=U;obtain⟨e,g,I⟩:=zI I;subst I;exact⟨d,l,e,O.rc,g,λa o m b x j Z k r=>Y _ _ b<|O.z? x j Z k r⟩
theorem xp(h:qh o=cq ds):o=cq (.own ds):=by
 cases o with
 |none=>cases h
 |some c=>cases c<;>simp[qh]at h;rw[h]
theorem cU(i:Nat){f:CO D}(h:PE X e (Y_ X.K "list" fY (pK i) (BD (tV X.K f) IC)))(hs:qq e da pos.line X.env=pure di:=by rfl):l0 X (.Expr e pos) (yC i f):=
 yZ (KY h hs) λD z H s=>by
  obtain⟨E0,E,l,t,w,O,I,m⟩:=s;obtain⟨j,b,I⟩:=zf I;obtain⟨d,p,I⟩:=zf I;have b:=xp b;by_cases U:j.length<lim
  ·rw[UJ U]at I;cases I
   obtain⟨a,xs,k,y,Y,Z⟩:=O.rc.own i j b;refine⟨_,k,.inl ⟨rfl,_,gE.of Y⟩,l,t,d,O.rc,p,λv u g x r=>?_⟩;have n:=O.step x;have o:=x.s1 _ _ Y;refine⟨a,xs,v,rfl,rfl,o,?_,?_⟩
   ·exact MA (by rw[Z.length];exact U)<|vX<|Mq _
   ·exact m _ _ g<|n.rewrite (xs:=xs) b k<|(Z.mono x.s0).append (d8.cons r d8.nil)
  ·rw[UY U]at I;cases I
end
def LX(K:Mj)(H0 H:Hp)(Q:VK):Res->Prop
 |.val d=>∀v e b,Ext H0 H b e->Rep K b d v->Q v e
 |.own g=>∀a f e b,Ext H0 H b e->H a=da->b a=da->e a=cq (.lst f)->d8 K b g f->Q (.ref a) e
def t9(K:Mj)(n:Nat)(F:List D->Option Res):Sp:=λd H Q _=>∃a b r,gm a H/\d8 K a b d/\b.length=n/\F b=cq r/\LX K a H Q r
theorem t9.len{K:Mj}{n:Nat}{F:List D->Option Res}{ps:List Str}(z:ps.length=n):∀vs H Q E,t9 K n F vs H Q E->vs.length=ps.length:=λvs H Q E h=>by obtain⟨b,d,r,_,a,I,_⟩:=h;rw[a.length,I,z]
section
variable{P:f9}{w:f6}{K:Mj}{mg:UZ}{base:et}
theorem KS(s:gm H0 H)(h:d8 K H0 ds vs)(z:ds.length<=N.length):RS K H0 H H0 H (QE N vs) (zN N.length ds):=by
 have I:=h.length;refine⟨⟨s,by simp[L2.QE,zN,I],λi d e=>?_,λi g e=>?_,λi j a g fs e _ _ _=>?_,sx.S8 λi f e=>?_⟩,Ext.refl s,λi g a e _=>?_,λi f a l e _ _=>?_⟩
 all_goals unfold zN at e
 ·by_cases b:i<ds.length
  ·rw[Oa (by simpa using b),NC]at e
   cases e1:ds[i]? with
   |none=>rw[e1]at e;cases e
   |some k=>
    rw[e1]at e;cases e;obtain⟨x,O,g2⟩:=h.get e1;refine⟨x,?_,g2⟩;unfold L2.QE;rw[Oa (by simp;lia),NC,O];rfl
  ·rw[NX (by simpa using b),PZ]at e
   split at e<;>cases e
 all_goals
  by_cases b:i<ds.length
  ·rw[Oa (by simpa using b),NC]at e
   cases e1:ds[i]? with
   |none=>rw[e1]at e;cases e
   |some k=>rw[e1]at e;cases e
  ·rw[NX (by simpa using b),PZ]at e
   split at e<;>cases e
theorem Ao{x qual:Str}{st:gB}{f:dt}{fd:q7}{N ps:List Str}{k:Nat}{F:CO Fl}(Y:L2.A5 K x qual st f fd)(S:M5 N ps (z9 st))
 (Z:∀(z:dy) (A:ij) (outer:List j1) (s:d9) (H:Hp) (E:XK),m5 k (A.deeper<|envOfC qual (z9 st) s.heap.objs.size f z)->W8 (VQ sa P w K mg base N qual (z9 st) f z A outer s H E).ly (qF st) F):
 q5 P w K mg base sa (k+1) f fd ps (t9 K ps.length<|jv N.length F):=by
 refine Y.ok S (t9.len rfl)<|λz A outer s H B Q E m h=>⟨_,Z z A outer s H E m,?_⟩;obtain⟨b,g,r,o,j,u,l,O⟩:=h;obtain⟨U,i,I⟩:=zf l;have t:ps.length<=N.length:=by have:=congrArg Sy S.pre;rw[Pg]at this;lia
 refine⟨b,H,b,zN N.length g,U,KS o j ⋯,i,?_⟩;cases U with
 |ret y=>cases I;cases r<;>exact O
 |next d=>cases I;exact λp e a n=>O .ej e a n.ext (show V.ej=.ej from rfl)
 |brk d=>cases I
 |cont d=>cases I
end
section
variable{X:Cx}{es:List eo}{pos p:e8}{k:Nat}{f:dt}{fd:q7}{ps:List Str}{x:Str}{F:List D->Option Res}{g:CO (List D)}
theorem ud{A0:List eo}(G:q5 X.prog X.w X.K X.mg X.base sa k f fd ps (t9 X.K ps.length F))(z:Df X es g)(hl:∀γ ds,g γ=cq ds->ds.length=ps.length)
 (hc:∀{t:TA},PA X es t->PE X (.Call (.Name x p) es [] pos) (sQ (t9 X.K ps.length F) [] E0 t)):PV X (.Call (.Name x p) es [] pos) (zD F g):=
 qo (hc z) λJ H Q u=>by
  obtain⟨l,γ,d,A,I,q⟩:=u;obtain⟨ds,j,I⟩:=zf I;obtain⟨r,n,I⟩:=zI I;refine⟨l,γ,ds,A,j,λE C m e y=>⟨m,ds,r,e.sub,by simpa using y,hl γ ds j,n,?_⟩⟩;subst I;cases r with
  |val d=>exact λv h b O i=>q v h b (e.trans O) i
  |own fs=>
   refine λa B h b O o U s i=>q _ h _ (e.trans<|O.show o U s e.sub) ?_;exact(show ∃Y Z,V.ref a=.ref Y/\gE X.K _ Y Z/\d8 X.K _ fs Z from⟨a,B,rfl,gE.of zF,i.mono<|jb U _⟩)
theorem uw(G:q5 X.prog X.w X.K X.mg X.base sa k f fd ps (t9 X.K ps.length F))(ha:Df X es g)(O:∀γ ds,g γ=cq ds->ds.length=ps.length)
 (U:∀{t:TA},PA X es t->PE X (.Call (.Name x p) es [] pos) (sQ (t9 X.K ps.length F) [] E0 t)):PO X (.Call (.Name x p) es [] pos) (jf F g):=
 qo (U ha) λL H Q Y=>by
  obtain⟨l,γ,fs,A,I,q⟩:=Y;obtain⟨ds,h,I⟩:=zf I;obtain⟨r,Z,I⟩:=zf I;refine⟨l,γ,ds,A,h,λJ E m e u=>⟨m,ds,r,e.sub,by simpa using u,O γ ds h,Z,?_⟩⟩;cases r with
  |val d=>cases I
  | own gs=>
   cases I;exact λa C j b B i n s y=>q a C j b (e.trans B) (by
    cases z:H a with
    |none=>rfl
    |some o=>rw[e.s1 a o z]at i;cases i) n s y
end
structure Walk(K:Mj)(H0 Hs:Hp)(J:It)(ds:List D):Prop where
 go:∀i H1,gm Hs H1->i<ds.length->J.go i H1
 stop:∀H1,gm Hs H1->J.stop ds.length H1
 DB:∀i H1 x g_,gm Hs H1->i<ds.length->J.DB i H1 x g_->∃d,ds[i]? = cq d/\∀G0,gm H0 G0->gm G0 H1->∃f_,Ext G0 H1 f_ g_/\Rep K f_ d x
theorem Walk.weak{K:Mj}{H0 z I:Hp}{J:It}{ds:List D}(w:Walk K H0 z J ds)(s:gm z I):Walk K H0 I J ds:=
 ⟨λi a h=>w.go i a<|s.trans h,λa h=>w.stop a<|s.trans h,λi a x b h=>w.DB i a x b<|s.trans h⟩
theorem KD{k:Sk}{K:Mj}{H0 z:Hp}{a:dt}{xs:List V}{ds:List D}(h:ie k K z a xs)(r:d8 K H0 ds xs):Walk K H0 z (h_ k K a) ds:=by
 have U:=r.length;refine⟨λi b s n=>?_,λb s=>?_,λi b x f s n y=>?_⟩
 ·have g:i<xs.length:=⋯
  cases k with
  |L=>exact⟨xs,xs[i],s.seq h,Mp g⟩
  |T=>exact⟨xs,xs[i],n6 s h,Mp g⟩
 ·cases k with
  |L=>exact⟨xs,s.seq h,⋯⟩
  |T=>exact⟨xs,n6 s h,⋯⟩
 ·have e:f=b/\xs[i]? = cq x:=by
   cases k with
   |L=>exact⟨y.1,y.2 xs<|s.seq h⟩
   |T=>exact⟨y.1,y.2 xs<|n6 s h⟩
  obtain⟨l,I⟩:=e;subst l;obtain⟨d,m,O⟩:=r.Dp I;exact⟨d,m,λj o p=>⟨j,Ext.refl p,O.mono o⟩⟩
theorem Jj(lo:Int)(n:Nat):(JE lo n).length=n:=by simp[JE]
theorem Kc{K:Mj}{H0 z:Hp}(lo:Int)(n:Nat):Walk K H0 z (M8 lo n) (JE lo n):=by
 refine⟨λi b s a=>?_,λb s=>?_,λi b x e s a y=>?_⟩
 ·rw[Jj]at a;exact a
 ·rw[Jj];exact Mq _
 ·rw[Jj]at a
  obtain⟨f,I⟩:=y;subst f I;exact⟨.int<|lo+i,by simp[JE,a],λd h g=>⟨d,Ext.refl g,(show V.int (lo+i)=.int (lo+i)from rfl)⟩⟩
theorem mB{k1 k2:Sk}{K:Mj}{H0 z:Hp}{a b:dt}{xs ys:List V}{ds es:List D}(h1:ie k1 K z a xs)(U:d8 K H0 ds xs)(I:ie k2 K z b ys)(r2:d8 K H0 es ys):
 Walk K H0 z (Uv k1 k2 K a b) (wW ds es):=by
 have B:=U.length;have C:=r2.length;have A:(wW ds es).length=min ds.length es.length:=by simp[wW]
 refine⟨λi f s t=>?_,λf s=>?_,λi f x j s t y=>?_⟩
 ·exact⟨xs,ys,xO s h1,xO s I,⋯,⋯⟩
 ·refine⟨xs,ys,xO s h1,xO s I,?_⟩
  rw[A];lia
 ·obtain⟨p,u,v,m,O,n,g1,g2⟩:=y
  obtain⟨d,r,w⟩:=U.Dp<|g1 xs<|xO s h1;obtain⟨c,o,k⟩:=r2.Dp<|g2 ys<|xO s I;refine⟨.tup [d,c],?_,λh g e=>⟨upd h p<|.tup [u,v],?_,?_⟩⟩
  ·have l:(ds.zip es)[i]? = cq (d,c):=Sf.mpr ⟨r,o⟩
   simp[wW,l]
  ·rw[n];exact Ext.alloc e O _
  ·rw[m]
   exact(show ∃Y Z,V.ref p=.ref Y/\gR K _ Y Z/\d8 K _ [d,c] Z from⟨p,[u,v],rfl,gR.of zF,d8.cons ((w.mono g).mono (jb (jy e O) _))<|d8.cons ((k.mono g).mono (jb (jy e O) _)) d8.nil⟩)
def _a(K:Mj)(z:CO (List D)):TI:=λg H R=>∃d f e,RC K d H g f/\z f=cq e/\∀J b a,Ext d H a b->Walk K a b J e->R J b
def X2(K:Mj)(z:CO (List D)):TI:=λg H R=>∃d f e,RC K d H g f/\z f=cq e/\∀J b a,Ext d H a b->Walk K a a J e->R J b
abbrev yr(X:Cx)(tg e:eo)(src:CO (List D)):Prop:=PI X tg e (_a X.K src)
abbrev i6(X:Cx)(tg e:eo)(src:CO (List D)):Prop:=PI X tg e (X2 X.K src)
section
variable{X:Cx}{tg e a b:eo}{pos p:e8}
theorem i6.c(h:i6 X tg e src):yr X tg e src:=XT h λj H R ⟨d,i,f,g,I,q⟩=>⟨d,i,f,g,I,λJ b a x w=>q J b a x<|w.weak x.sub⟩
theorem jc(h:PQ X e f):yr X tg e (zY f):=XT (rz h) λs H R I=>by obtain⟨i,o,p,m,O,q⟩:=I;obtain⟨⟨k,l⟩,j,U⟩:=zI O;subst U;exact⟨i,o,k,l,m,j,λa n g b x d _ r=>⟨a,k,rfl,⟨n,d⟩,q _ g b x<|KD d r⟩⟩
theorem vS(h:PV X e f):i6 X tg e (zY<|zC f):=XT (rz h) λu H R Y=>by
 obtain⟨n,s,t,p,Z,q⟩:=Y;obtain⟨⟨k,l⟩,g,I⟩:=zI Z;subst I;obtain⟨d,o,g⟩:=zf g;refine⟨n,s,d,p,o,λv m b x r=>?_⟩;cases d with
 |tup fs=>
  obtain⟨I,O⟩:k=.T/\l=fs:=by simp[jD]at g;exact⟨g.1.symm,g.2.symm⟩
  subst I O;obtain⟨a,i,rfl,j,U⟩:=(show ∃a i,v=.ref a/\gR X.K b a i/\d8 X.K b l i from r);exact⟨a,.T,rfl,⟨i,n6 x.sub j⟩,q _ m b x<|KD (k:=.T) j U⟩
 |lst fs=>
  obtain⟨I,O⟩:k=.L/\l=fs:=by simp[jD]at g;exact⟨g.1.symm,g.2.symm⟩
  subst I O;obtain⟨a,i,rfl,j,U⟩:=(show ∃a i,v=.ref a/\gE X.K b a i/\d8 X.K b l i from r);exact⟨a,.L,rfl,⟨i,x.sub.seq j⟩,q _ m b x<|KD (k:=.L) j U⟩
 |_=>simp[jD]at g
theorem jW(h:n5 d=cq i):d=.int i:=by cases d<;>simp[n5]at h;rw[h]
theorem Xl(h:inR i=cI): -(2^62)<=i/\i<2^62:=by unfold inR at h;have h:=of_decide_eq_true h;lia
theorem cY(O:Gl X "range")(hm:X.mg "range" = da)(z:PV X a f)(hs:eJ [a] X.env=[(di,eh a X.env)]:=by rfl):i6 X tg (.Call (.Name "range" p) [a] [] pos) (jS f):=
 XT (gH O hm (jq z qp hs) hs) λo H R U=>by
  obtain⟨i,l,m,k,I,q⟩:=U;obtain⟨n,e,I⟩:=zf I;obtain⟨d,Y,e⟩:=zf e;by_cases g:inR n=cI
  ·rw[UJ g]at I;cases I
   refine⟨i,l,d,k,Y,λv h b x r=>?_⟩;rw[jW e]at r;obtain⟨j,Z⟩:=Xl g;exact⟨n,by rw[show v=.int n from r],j,Z,q _ h b x<|Kc 0 n.toNat⟩
  ·rw[UY g]at I;cases I
theorem cX(Y:Gl X "range")(hm:X.mg "range" = da)(ha:PV X a f)(Z:PV X b g)(hs:eJ [a,b] X.env=[(di,eh a X.env),(di,eh b X.env)]:=by rfl)(O:eJ [b] X.env=[(di,eh b X.env)]:=by rfl):
 i6 X tg (.Call (.Name "range" p) [a,b] [] pos) (Wo f g):=
 XT (gG Y hm (jq ha (jq Z qp O)<|by rw[hs,O]) hs O) λK H R C=>by
  obtain⟨o,l,J,k,I,q⟩:=C;obtain⟨m,i,I⟩:=zf I;obtain⟨d,u,i⟩:=zf i;obtain⟨n,U,I⟩:=zf I;obtain⟨c,w,U⟩:=zf U;by_cases e:inR m=cI/\inR n=cI
  ·rw[UJ e]at I;cases I
   refine⟨o,l,d,k,u,λv G h x r=>⟨h,l,c,k.ext x,w,λE s t F j=>?_⟩⟩;rw[jW i]at r;rw[jW U]at j;obtain⟨y,z⟩:=Xl e.1;obtain⟨A,B⟩:=Xl e.2;exact⟨m,n,by rw[show v=.int m from r,show E=.int n from j],⟨y,z,A,B⟩,q _ s t (x.trans F)<|Kc m (n-m).toNat⟩
  ·rw[UY e]at I;cases I
theorem Zj{K:Mj}{H:Hp}{d:D}{v:V}{k:Sk}{ds:List D}(r:Rep K H d v)(e:jD d=cq (k,ds)):∃a xs,v=.ref a/\ie k K H a xs/\d8 K H ds xs:=by
 cases d with
 |tup fs=>simp[jD]at e;obtain⟨b,I⟩:=e;subst b I;exact r
 |lst fs=>simp[jD]at e;obtain⟨b,I⟩:=e;subst b I;exact r
 |_=>simp[jD]at e
theorem uy{f g:CO D}{z:List eo}{x1:Nat}{lC:e8}(hg:Gl X "zip")(hm:X.mg "zip" = da)(ha:PV X a f)(hb:PV X b g)(hs:eJ [a,b] X.env=[(di,eh a X.env),(di,eh b X.env)]:=by rfl)(U:eJ [b] X.env=[(di,eh b X.env)]:=by rfl):
 i6 X (.Tuple z x1 lC) (.Call (.Name "zip" p) [a,b] [] pos) (YE f g):=
 XT (Cz hg hm (jq ha (jq hb qp U)<|by rw[hs,U]) Sd hs U) λM H R A=>by obtain⟨k,j,K,i,I,q⟩:=A;obtain⟨⟨B,m⟩,h,I⟩:=zf I;obtain⟨d,u,h⟩:=zf h;obtain⟨⟨C,n⟩,Y,I⟩:=zI I;obtain⟨c,w,Y⟩:=zf Y;subst I;refine⟨k,j,d,i,u,λv J e x r=>⟨e,j,c,i.ext x,w,λL l t O E=>?_⟩⟩;obtain⟨o,F,rfl,Z,g2⟩:=Zj (r.mono O.s0) h;obtain⟨s,G,rfl,g3,y⟩:=Zj E Y;exact⟨B,C,o,s,rfl,⟨F,xO O.sub Z⟩,⟨G,xO O.sub g3⟩,q _ l t (x.trans O)<|mB Z g2 g3 y⟩
end
def aB:List Nat->List V->St->St
 |i::is,v::vs,σ=>aB is vs<|σ.set i<|some v
 |_,_,σ=>σ
def gs:List Nat->F4
 |[]=>IR
 |i::is=>EL (v7 i)<|gs is
def t7(K:Mj):Tg->TG
 |.nm i=>v7 i
 |.tp is=>IQ K is.length<|gs is
theorem iQ:∀{is:List Nat} {vs:List V} {z:St} {H:Hp} {Q:St->Hp->Prop},vs.length=is.length->Q (aB is vs z) H->gs is vs z H Q
 |[],[],_,_,_,_,q=>⟨rfl,q⟩
 |i::is,v::vs,z,H,Q,hl,q=>⟨v,vs,rfl,iQ (by simpa using hl) q⟩
 |[],_::_,_,_,_,hl,_=>by simp at hl
 |_::_,[],_,_,_,hl,_=>by simp at hl
theorem RS.O5{K:Mj}{E0 E H0 H:Hp}:∀{is:List Nat} {ds:List D} {vs:List V} {z:St} {γ:Ctx},RS K E0 E H0 H z γ->d8 K H0 ds vs->RS K E0 E H0 H (aB is vs z) (xR is ds γ)
 |[],ds,vs,z,γ,r,h=>by cases ds<;>cases vs<;>exact r
 |i::is,[],vs,z,γ,r,h=>by rw[h.tv];exact r
 |i::is,d::ds,vs,z,γ,r,h=>by obtain⟨x,t,e,a,I⟩:=h.o4;subst e;show RS K E0 E H0 H (DL.aB is t<|z.set i<|some x) (xR is ds<|γ.set i<|.val d);exact RS.O5 (r.z8 a) I
theorem RC.O5{K:Mj}{H0 H:Hp}:∀{is:List Nat} {ds:List D} {vs:List V} {z:St} {γ:Ctx},RC K H0 H z γ->d8 K H0 ds vs->RC K H0 H (aB is vs z) (xR is ds γ)
 |[],ds,vs,z,γ,r,h=>by cases ds<;>cases vs<;>exact r
 |i::is,[],vs,z,γ,r,h=>by rw[h.tv];exact r
 |i::is,d::ds,vs,z,γ,r,h=>by obtain⟨x,t,e,a,I⟩:=h.o4;subst e;show RC K H0 H (DL.aB is t<|z.set i<|some x) (xR is ds<|γ.set i<|.val d);exact RC.O5 (r.z8 a) I
theorem ZT{K:Mj}{H0 H:Hp}{T:Tg}{d:D}{v:V}{z:St}{γ γ1:Ctx}{Q:St->Hp->Prop}(s:gm H0 H)(h:Rep K H0 d v)(e:kP T d γ=cq γ1)
 (q:∀I,(RC K H0 H z γ->RC K H0 H I γ1)->(∀E0 E,RS K E0 E H0 H z γ->RS K E0 E H0 H I γ1)->Q I H):t7 K T v z H Q:=by
 cases T with
 |nm i=>cases e;exact q _ (λr=>r.z8 h) λE0 E r=>r.z8 h
 | tp is=>
  cases d with
  | tup f=>
   simp only[kP]at e;by_cases O:f.length=is.length
   ·rw[UJ O]at e;cases e
    obtain⟨a,b,rfl,j,U⟩:=(show ∃a b,v=.ref a/\gR K H0 a b/\d8 K H0 f b from h);have g:b.length=is.length:=by rw[U.length,O]
    exact⟨a,b,rfl,n6 s j,g,iQ g<|q _ (λr=>r.O5 U) λE0 E r=>r.O5 U⟩
   ·rw[UY O]at e;cases e
  |_=>simp[kP]at e
theorem Ext.rebase{E0 E I H0 H B:Hp}(e:Ext E0 E I B)(x:Ext I E H0 H):Ext E0 E H0 H:=
 ⟨e.s0.trans x.s0,x.s1,x.sub,λa b O=>x.new a (e.new a b O) O⟩
theorem Ext.base{E0 E I B:Hp}(e:Ext E0 E I B):Ext I E I B:=⟨gm.refl _,e.s1,e.sub,λa h _=>h⟩
theorem Sat.rebase{K:Mj}{E0 E O B:Hp}{D:Ends}{I:Fl}(e:Ext E0 E O B)(h:Sat K E0 E D I):Sat K O E D I:=by
 cases I with
 |next g=>exact λf H b r=>h f H b ⟨r.rc,e.rebase r.ext,r.fresh,r.zl⟩
 |brk g=>exact λf H b r=>h f H b ⟨r.rc,e.rebase r.ext,r.fresh,r.zl⟩
 |cont g=>exact λf H b r=>h f H b ⟨r.rc,e.rebase r.ext,r.fresh,r.zl⟩
 |ret r=>
  cases r with
  |val d=>exact λv H b x q=>h v H b (e.rebase x) q
  |own k=>exact λa j H b x i U Y q=>h a j H b (e.rebase x) i U Y q
section
variable{X:Cx}{tg iter:eo}{body:List gB}{pos:e8}
theorem uk{z:CO (List D)}{T:Tg}{F:CO Fl}(hp:Uz (ef X.prog X.w) X.A X.env X.xe)(hc:X.calm=cI)(hi:i6 X tg iter z)(hg:PG X tg (t7 X.K T))(hb:W8 X body F)
 (hs:∀x,tf iter X.env x=pure x:=by intro _;rfl):l0 X (.For tg iter body [] pos) (Zk z T F):=
 yZ (rq hp hc hi hg hb hs) λD k H hZ=>by
  obtain⟨E0,E,h,f,O,U,I,Z⟩:=hZ;obtain⟨a,S,I⟩:=zf I;refine⟨h,f,a,U.rc,S,λJ H1 Y x1 s=>?_⟩;have b:=U.step x1;have C:=b.ext;refine⟨λi m k H=>m=a.length-i/\i<=a.length/\∃h f O,RS X.K Y E h H k f/\kD T F (a.drop i) f=cq O/\Sat X.K Y E D O,⟨_,rfl,NJ _,Y,f,O,⟨b.rc,C.base,b.fresh,b.zl⟩,I,Z.rebase C⟩,?_⟩;rintro i m k H ⟨rfl,hi,h,f,O,U,I,Z⟩;have l:gm Y H:=U.ext.s0.trans U.ext.sub;by_cases j:i<a.length
  ·refine .inr ⟨s.go i H l j,λk H=>i+1<=a.length/\∃h f O,RS X.K Y E h H k f/\kD T F (a.drop<|i+1) f=cq O/\Sat X.K Y E D O,λe_ B n=>⟨a.length-(i+1),⋯,rfl,n.1,n.2⟩,λx B y=>?_⟩
   obtain⟨d,G,hx⟩:=s.DB i H x B l j y;obtain⟨M,L,rg⟩:=hx h U.ext.s0 U.rc.sub;have P:a.drop i=d::a.drop (i+1):=by
    have Q:d=a[i]:=by rw[Mp j]at G;exact(Nz G).symm
    rw[Q];exact OQ j
   rw[P]at I;simp only[kD]at I;obtain⟨t,eb,I⟩:=zf I;obtain⟨f1,W,I⟩:=zf I;refine ZT L.sub rg eb λf' _ R=>⟨Y,E,M,t,f1,R Y E<|U.step L,W,?_⟩;cases f1 with
   |next g=>exact λu N o p=>⟨j,o,g,O,p,I,Z⟩
   |cont g=>exact λu N o p=>⟨j,o,g,O,p,I,Z⟩
   |brk g=>cases I;exact Z
   |ret r=>cases I;cases r<;>exact Z
  ·have e:i=a.length:=⋯
   subst e;rw[List.drop_length]at I;cases I;exact .inl ⟨s.stop H l,Z k H h U⟩
end
theorem k6(h:(jm n fr γ)[i]? = cq c):c=.no\/(∃d j,c=.val d/\n<=i/\fr[i-n]? = cq j/\γ[j]? = cq (.val d)):=by
 unfold jm at h;by_cases b:i<n
 ·rw[Oa (by simpa using b),PZ,UJ b]at h
  exact .inl (Nz h).symm
 ·rw[NX (by simpa using b),NC,List.length_replicate]at h
  cases e:fr[i-n]? with
  |none=>rw[e]at h;cases h
  | some j=>
   rw[e]at h;have a:xT (γ[j]?.getD .no)=c:=by simpa using h
   cases e2:γ[j]? with
   |none=>rw[e2]at a;exact .inl a.symm
   |some I=>
    rw[e2]at a;cases I with
    |no=>exact .inl a.symm
    |own g=>exact .inl a.symm
    |nest f=>exact .inl a.symm
    |val d=>exact .inr ⟨d,j,a.symm,⋯,rfl,e2⟩
theorem RC.pull{K:Mj}{H0 H:Hp}{σ:St}{γ:Ctx}{own:List Str}{Z:List (Str×Nat)}(r:RC K H0 H σ γ):RC K H0 H (L2.pZ own Z σ) (jm own.length (Z.map (·.2)) γ):=by
 refine⟨r.sub,by simp[L2.pZ,jm],λi d h=>?_,λi e h=>?_,λi j a e g h _ _ _=>?_,sx.S8 λi b h=>?_⟩
 ·rcases k6 h with z|⟨d',j,z,hi,I,O⟩
  ·cases z
  ·cases z
   obtain⟨v,f,U⟩:=r.val j d O;refine⟨v,?_,U⟩;rw[NC]at I;cases q:Z[i-own.length]? with
   |none=>rw[q]at I;cases I
   |some p=>
    rw[q]at I;have Y:p.2=j:=by simpa using I
    unfold L2.pZ;rw[NX (by simpa using hi),NC,MN,q];simp[Y,f]
 ·rcases k6 h with z|⟨d',j,z,_⟩<;>cases z
 ·rcases k6 h with z|⟨d',j,z,_⟩<;>cases z
 ·rcases k6 h with z|⟨d',j,z,_⟩<;>cases z
theorem RC.weak{K:Mj}{H0 H:Hp}{Z:St}{γ γ':Ctx}(r:RC K H0 H Z γ)(O:γ'.length=γ.length)(U:∀(i:Nat) d,γ'[i]? = cq (.val d)->γ[i]? = cq (.val d))(I:∀(i:Nat) ds,γ'[i]? ≠ cq (.own ds))(Y:∀(i:Nat) z,γ'[i]? ≠ cq (.nest z)):RC K H0 H Z γ':=
 ⟨r.sub,by rw[O];exact r.len,λi d h=>r.val i d<|U i d h,λi ds h=>absurd h<|I i ds,λi j a ds b h _ _ _=>absurd h<|I i ds,sx.S8 Y⟩
theorem RC.upd{K:Mj}{H0 H:Hp}{Z:St}{γ:Ctx}{D:dt}{o:HO}(r:RC K H0 H Z γ)(h0:H0 D=da)(I:∀(i:Nat) ds,γ[i]? ≠ cq (.own ds))(O:∀(i:Nat) Y,γ[i]? ≠ cq (.nest Y)):RC K H0 (upd H D o) Z γ:=
 ⟨λb u q=>by rw[zE (λz=>by rw[z,h0]at q;cases q)];exact r.sub b u q,r.len,r.val,λi ds h=>absurd h<|I i ds,λi j a ds d h _ _ _=>absurd h<|I i ds,sx.S8 O⟩
theorem QH:∀{is:List Nat} {ds:List D} {γ:Ctx},(xR is ds γ).length=γ.length
 |[],ds,γ=>by cases ds<;>rfl
 |i::is,[],γ=>rfl
 |i::is,d::ds,γ=>by show(xR is ds<|γ.set i<|.val d).length=_;rw[QH];simp
theorem QI:∀{is:List Nat} {ds:List D} {γ:Ctx} {i:Nat},i∉is->(xR is ds γ)[i]? = γ[i]?
 |[],ds,γ,i,_=>by cases ds<;>rfl
 |j::is,[],γ,i,_=>rfl
 |j::is,d::ds,γ,i,h=>by show(xR is ds<|γ.set j<|.val d)[i]? = _;rw[QI (λz=>h<|MO _ z),MC (λz=>h<|by rw[<-z];exact MS)]
theorem lR(h:kP T d γ=cq γ1):γ1.length=γ.length/\∀i,i∉T.idx->γ1[i]? = γ[i]? :=by
 cases T with
 |nm j=>cases h;exact⟨by simp,λi a=>MC<|λz=>a<|by simp[Tg.idx,z]⟩
 | tp is=>
  cases d with
  |tup b=>
   simp only[kP]at h;by_cases I:b.length=is.length
   ·rw[UJ I]at h;cases h;exact⟨QH,λi a=>QI a⟩
   ·rw[UY I]at h;cases h
  |_=>simp[kP]at h
section
variable{K:Mj}{own:List Str}{fr:List (Str×Nat)}{src:CO (List D)}{T:Tg}{k:CO Bool}{f:CO D}
theorem ZQ(hT:∀i∈T.idx,i<own.length)(bb:∀σ H Q,tT K k σ H Q->tt σ H Q):∀σ H Q,tO K (zV src T own.length (fr.map (·.2)) k f) σ H Q->mL (_a K src) own fr (t7 K T) tt (tV K f) σ H Q:=λσ H Q hZ=>by
 obtain⟨H0,t,ds,rc,U,q⟩:=hZ;obtain⟨a,e1,U⟩:=zf U;by_cases hl:a.length<=lim
 ·rw[UJ hl]at U
  refine⟨H0,t,a,rc,e1,λJ H1 P C wk D A=>?_⟩;have R:∀(i:Nat) es,(jm own.length (fr.map (·.2)) t)[i]? ≠ cq (.own es):=λi es h=>by rcases k6 h with z|⟨d',j,z,_⟩<;>cases z
  have S:∀(i:Nat) B,(jm own.length (fr.map (·.2)) t)[i]? ≠ cq (.nest B):=λi es h=>by rcases k6 h with z|⟨d',j,z,_⟩<;>cases z
  have ar:P D=da:=jy C.sub A;have be:H D=da:=by
   cases z:H D with
   |none=>rfl
   |some o=>rw[C.s1 D o z]at A;cases A
  refine⟨λi m n F l=>m=a.length-i/\i<=a.length/\n.length<=i/\l D=cq (.lst n)/\∃g u L,RC K g l F (jm own.length (fr.map (·.2)) t)/\g D=da/\Ext P H1 g l/\d8 K g u n/\zT T k f (jm own.length (fr.map (·.2)) t) (a.drop i)=cq L/\ds=u++L,
   ⟨_,rfl,NJ _,Mq _,zF,P,[],ds,((rc.ext C).pull).upd ar R S,ar,Ext.hide C.sub A _,d8.nil,U,rfl⟩,?_⟩
  rintro i m n F l ⟨rfl,hi,hy,M,g,u,L,ad,ax,Y,r',I,rfl⟩;refine⟨M,?_⟩;by_cases Z:i<a.length
  ·refine .inr ⟨wk.go i l Y.s1 Z,?_,λx W y=>?_⟩
   ·have:=vX<|Mq lim;lia
   obtain⟨d,hd,hx⟩:=wk.DB i l x W Y.s1 Z y;obtain⟨G0,O,rg⟩:=hx g Y.s0 ad.sub;have bn:a.drop i=d::a.drop (i+1):=by
    have bu:d=a[i]:=by rw[Mp Z]at hd;exact(Nz hd).symm
    rw[bu];exact OQ Z
   rw[bn]at I;simp only[zT]at I;obtain⟨p,eb,I⟩:=zf I;obtain⟨b,ek,I⟩:=zf I;have bx:G0 D=da:=O.new D ax (by rw[M];simp);have b1:W D=cq (.lst n):=O.s1 _ _ M;obtain⟨bl,bg⟩:=lR eb;have b2:∀{G:St} {G2 H2:Hp},RC K G2 H2 G p->RC K G2 H2 G (jm own.length (fr.map (·.2)) t):=λr=>r.weak bl.symm (λj d' hj=>by
    by_cases hm:j∈T.idx
    ·rcases k6 hj with z|⟨d2,j2,_,hn,_⟩
     ·cases z
     ·exact absurd (hT j hm) ⋯
    ·rw[bg j hm];exact hj) R S
   refine ZT O.sub rg eb λf' b5 _=>bb f' W _ ⟨G0,p,b,b5<|ad.ext O,ek,λH3 X s=>?_⟩;have am:=(b5<|ad.ext O).ext s;have xa:=Y.trans<|O.trans s;have b7:X D=da:=s.new D bx (by rw[b1];simp);have an:H3 D=cq (.lst n):=s.s1 _ _ b1;cases b with
   |true=>
    dsimp only;rw[UJ rfl]at I ⊢;obtain⟨e,ee,I⟩:=zf I;obtain⟨rest,er,I⟩:=zI I;refine⟨X,p,e,am,ee,λv H4 b8 E r4=>?_⟩;have ap:b8 D=da:=E.new D b7 (by rw[an];simp);have c7:H4 D=cq (.lst n):=E.s1 _ _ an;have N:=xa.trans E;refine⟨c7,a.length-(i+1),⋯,rfl,Z,by rw[Nv,OM];lia,zF,b8,u++[e],rest,(b2<|am.ext E).upd ap R S,ap,?_,(r'.mono<|(O.trans<|s.trans E).s0).append (d8.cons r4 d8.nil),er,?_⟩
    ·exact⟨N.s0,λc o z=>by rw[zE (λw=>by rw[w,A]at z;cases z)];exact N.s1 c o z,λc o z=>by rw[zE (λw=>by rw[w,ap]at z;cases z)];exact N.sub c o z,N.new⟩
    ·rw[<-I];simp
   |false=>
    dsimp only;rw[UY MJ]at I ⊢;exact⟨a.length-(i+1),⋯,rfl,Z,⋯,an,X,u,L,b2 am,b7,xa,r'.mono<|(O.trans s).s0,I,rfl⟩
  ·have e:i=a.length:=⋯
   subst e;rw[List.drop_length]at I;cases I;rw[Ra]at q;exact .inl ⟨wk.stop l Y.s1,q D n l g (C.trans Y) be ax M r'⟩
 ·rw[UY hl]at U;cases U
end
section
variable{X:Cx}{scope:gx}{own:List Str}{fr:List (Str×Nat)}{elt tg iter c:eo}{pos:e8}{src:CO (List D)}{T:Tg}{k:CO Bool}{f:CO D}
theorem uv(I:X.calm=cI)(ok:vu X scope fr)(O:∀i∈T.idx,i<own.length)(hi:yr X tg iter src)(U:∀fp s2 z,PG (jP X scope (own++fr.map (·.1)) fp s2 z) tg<|t7 X.K T)
 (Y:∀fp s2 z,PV (jP X scope (own++fr.map (·.1)) fp s2 z) elt f) (hs:∀x,tf iter X.env x=pure x:=by intro _;rfl):
 PO X (.ListComp elt [⟨tg,iter,[],0⟩] scope pos) (zV src T own.length (fr.map (·.2)) jO f):=
 qo (WD I ok hi U (λ_ _ _=>aN) Y hs) (ZQ O λg H Q ⟨a,e,b,d,Z,q⟩=>by cases Z;exact q H a<|Ext.refl d.sub)
theorem gD(I:X.calm=cI)(ok:vu X scope fr)(O:∀i∈T.idx,i<own.length)(hi:yr X tg iter src)(U:∀fp s2 z,PG (jP X scope (own++fr.map (·.1)) fp s2 z) tg<|t7 X.K T)
 (Y:∀fp s2 z,l5 (jP X scope (own++fr.map (·.1)) fp s2 z) c k) (Z:∀fp s2 z,PV (jP X scope (own++fr.map (·.1)) fp s2 z) elt f) (hs:∀x,tf iter X.env x=pure x:=by intro _;rfl):
 PO X (.ListComp elt [⟨tg,iter,[c],0⟩] scope pos) (zV src T own.length (fr.map (·.2)) k f):=
 qo (WD I ok hi U (λfp s2 z=>aM<|Y fp s2 z) Z hs) (ZQ O λa H Q h=>h)
theorem nD(I:X.N.Nodup)(O:X.N[i]? = cq y)(U:Loc X.env.scope y)(hf:X.fn y=cI\/X.env.scope.names.lookup y=cq .local)
 (Y:X.calm=cI) (ok:vu X scope fr) (Z:∀i∈T.idx,i<own.length) (hi:yr X tg iter src) (hg:∀fp s2 z,PG (jP X scope (own++fr.map (·.1)) fp s2 z) tg<|t7 X.K T)
 (he:∀fp s2 z,PV (jP X scope (own++fr.map (·.1)) fp s2 z) elt f) (hs:∀x,tf iter X.env x=pure x:=by intro _;rfl):
 PS X (.Assign [.Name y py] (.ListComp elt [⟨tg,iter,[],0⟩] scope pos) spos) (az (tO X.K<|zV src T own.length (fr.map (·.2)) jO f)<|v7 i):=
 yZ (Km I O U hf Y ok hi hg (λ_ _ _=>aN) he hs) λD a H h=>ZQ Z (λa H Q g=>by obtain⟨d,k,b,j,e,q⟩:=g;cases e;exact q H d<|Ext.refl j.sub) a H _ h
theorem cV(I:X.N.Nodup)(O:X.N[i]? = cq y)(U:Loc X.env.scope y)(hf:X.fn y=cI\/X.env.scope.names.lookup y=cq .local)
 (Y:X.calm=cI) (ok:vu X scope fr) (Z:∀i∈T.idx,i<own.length) (hi:yr X tg iter src) (hg:∀fp s2 z,PG (jP X scope (own++fr.map (·.1)) fp s2 z) tg<|t7 X.K T)
 (hk:∀fp s2 z,l5 (jP X scope (own++fr.map (·.1)) fp s2 z) c k) (he:∀fp s2 z,PV (jP X scope (own++fr.map (·.1)) fp s2 z) elt f) (hs:∀x,tf iter X.env x=pure x:=by intro _;rfl):
 PS X (.Assign [.Name y py] (.ListComp elt [⟨tg,iter,[c],0⟩] scope pos) spos) (az (tO X.K<|zV src T own.length (fr.map (·.2)) k f)<|v7 i):=
 yZ (Km I O U hf Y ok hi hg (λfp s2 z=>aM<|hk fp s2 z) he hs) λD a H h=>ZQ Z (λa H Q h=>h) a H _ h
end
theorem jT{K:Mj}{H:Hp}{i:Int}{v:V}(h:Rep K H (.int i) v):v=.int i:=h
theorem fG{K:Mj}{g:Int->Int->D}{I:Int->Int->V}(U:∀H i j,Rep K H (g i j)<|I i j):ow K (t8 I) (dI g):=λa H x y b Y d Q s e Z O q=>by cases b<;>cases Y<;>simp[dI]at O;subst O;exact⟨_,_,jT e,jT Z,q _ H a (Ext.refl s)<|U a _ _⟩
theorem fF{K:Mj}{C:Int->Int->Prop}{c:Int->Int->Bool}{g:Int->Int->D}{I:Int->Int->V}(U:∀i j,c i j=cI->C i j)(Y:∀H i j,Rep K H (g i j)<|I i j):ow K (rI C I) (N8 c g):=λa H x y b Z d Q s h k O q=>by cases b<;>cases Z<;>simp[N8]at O;obtain⟨e,f⟩:=O;subst f;exact⟨_,_,jT h,jT k,U _ _ e,q _ H a (Ext.refl s)<|Y a _ _⟩
theorem sW{K:Mj}:ow K (t8 λi j=>.int (i-j)) dU:=fG λ_ _ _=>rfl
theorem pk(h:XM i j=cI):FI i j:=by unfold XM at h;rw[NU,decide_eq_true_eq,decide_eq_true_eq]at h;unfold FI;lia
theorem tw{K:Mj}:ow K (rI Lk λi j=>.int (i/j)) JI:=fF (λi j h=>by unfold EZ at h;rw[Mw,decide_eq_true_eq,decide_eq_true_eq]at h;exact⟨h.1,⋯⟩) λ_ _ _=>rfl
theorem tm{K:Mj}:ow K (rI (λ_ j=>0<j) λi j=>.int (i%j)) wj:=fF (λi j h=>by unfold FU at h;exact of_decide_eq_true h) λ_ _ _=>rfl
theorem sX{K:Mj}:ow K (rI Lj λi j=>.int (i^j.toNat)) Ax:=fF (λi j h=>by unfold EY at h;rw[Mw,Mw,decide_eq_true_eq,decide_eq_true_eq,decide_eq_true_eq]at h;exact⟨h.1.1,⋯,h.2⟩) λ_ _ _=>rfl
theorem pP{K:Mj}:ow K (t8 λi j=>.bl (decide<|i<j)) DN:=fG λ_ _ _=>rfl
theorem BK{K:Mj}:ow K (t8 λi j=>.bl (decide<|i<=j)) UE:=fG λ_ _ _=>rfl
theorem BL{K:Mj}:ow K (t8 λi j=>.bl (decide<|j<i)) o7:=fG λ_ _ _=>rfl
theorem pQ{K:Mj}:ow K (t8 λi j=>.bl (decide<|j<=i)) D6:=fG λ_ _ _=>rfl
section
variable{X:Cx}
def pV(K:Mj):R2:=λx y H Q=>∃a b d e,x=.ref a/\y=.ref b/\gR K H a d/\gR K H b e/\d.length+e.length<=fh/\
 (d=[]->Q (.ref b) H)/\(e=[]->Q (.ref a) H)/\∀p,H p=da->Q (.ref p) (upd H p<|.tup<|d++e)
theorem nQ:jl X (wb .Add) (pV X.K):=by
 intro t s σ H x y v u Q I P R h;obtain⟨a,b,w,T,rfl,rfl,F,G,p,L,M,N⟩:=h;cases P;cases R;obtain⟨d,r,U,z1⟩:=I.tuple F;obtain⟨A,f,Y,z2⟩:=I.tuple G;by_cases O:w=[]
 ·have e:d=[]:=(r.S9).mpr O
  obtain⟨⟨C,E,k,S⟩,Z,l,n,m⟩:=id U;obtain⟨⟨W,ad,data2,B⟩,g,i,J,j⟩:=id Y;simp only at l m i j;subst l m i j;exact Um ⟨_,Z,rfl⟩ ⟨_,g,rfl⟩ Up W_ Su Sq (RV _ _)
   (tuple_addW0 a b d.toArray A.toArray n J E ad S B<|by simp[e]) ⟨Z,g,⟨.ref b,H,I,rfl,L O⟩⟩
 ·have e:d ≠ []:=λz=>O ((r.S9).mp z)
  refine HT.HG U Y e (λz=>⟨.ref a,H,I,rfl,M<|(f.S9).mp z⟩) (λ_=>?_) (by rw[<-r.length,<-f.length];exact p);refine⟨.ref s.heap.objs.size,_,I.laid (t':=s.toks) (o:=.tup (w++T)) (λc ob q=>Mk _ q) (Mq _) ?_,rfl,N _<|I.eH.fresh<|Mq _⟩;exact⟨by rw[Nv];exact p,_,r.append f,A6.new _ _⟩
def Cf(K:Mj):R2:=λx y H Q=>∃l b a I,x=.ref l/\y=.ref b/\gE K H l a/\gE K H b I/\a.length+I.length<=fh/\∀p,H p=da->Q (.ref p) (upd H p<|.lst<|a++I)
theorem nR:jl X (wb .Add) (Cf X.K):=by
 intro d s G H x y v u Q I B C h;obtain⟨l,b,T,zs,rfl,rfl,w,t,P,q⟩:=h;cases B;cases C;obtain⟨a,r,⟨o,n,e,U,Y,Z⟩,W⟩:=I.list w;obtain⟨O,k,⟨A,z,j,f,g,i⟩,z2⟩:=I.list t;have R:=r.length;have S:=k.length;obtain⟨cls,o3,N,E⟩:=o;obtain⟨J,L,M,m⟩:=A;simp only at U Y Z f g i;subst U Y Z f g i;have ad:EP X d G Q (.ref s.heap.objs.size) {s with heap:=s.heap.push {cls:=.type "list",data:=.seq (a++O).toArray}}:=
  ⟨.ref _,_,I.U2 (t':=s.toks) (r.append k) (by rw[Nv];lia),rfl,q _ I.fresh⟩
 have p:a.toArray++O.toArray=(a++O).toArray:=by simp
 refine Um ⟨_,e,rfl⟩ ⟨_,j,rfl⟩ noFill_list_add seq_list_add PySem.F.slot_list_add PySem.F.entry_list_add (PySem.F.args_list_add_2 _ _)
  (list_addW l b a.toArray O.toArray n z da da E m<|by rw[Ms,Ms];lia) ⟨e,j,?_⟩
 rw[p];exact ad
end
def yX(scope z:gx):gx:={scope with names:=scope.names.map λp=>if p.2==MZ&&z.kind ==.function&&z.names.lookup p.1==cq .cell then (p.1,OX)else (p.1,p.2)}
theorem cO(scope:gx)(env:j1):B8 scope env=yX scope env.scope:=by unfold B8 yX;rfl
structure SX(X:Cx)(sc:gx)(N T:List Str)(k:Nat):Prop where
 wo:X.env.scope=sc
 eN:X.N=N
 nd:N.Nodup
 calm:X.calm=cI
 room:m5 k X.A
 fn:∀x∈T,X.fn x=cI\/sc.names.lookup x=cq .local
def kY(z:gx)(N:List Str)(i:Nat)(x:Str):Bool:=
 decide (N[i]? = cq x)&&(decide (z.names.lookup x=cq .local) || decide (z.names.lookup x=cq .cell) || decide (z.names.lookup x=cq .free))&&!(x==("__debug__" : Str))&&!(x==("__classdict__" : Str))
def yk(z:gx)(N T:List Str)(i:Nat)(x:Str):Bool:=decide (x∈T)&&decide (N[i]? = cq x)&&(decide (z.names.lookup x=cq .local) || decide (z.names.lookup x=cq .cell))
def kz(z:gx)(x:Str):Bool:=decide (z.names.lookup x=cq .globalImplicit)&&!(x==("__name__" : Str))&&!(x==("__debug__" : Str))
section
variable{X:Cx}{sc:gx}{N T:List Str}{k:Nat}{i:Nat}{x:Str}{pos:e8}
theorem SX.var(h:SX X sc N T k)(c:kY sc N i x=cI):PE X (.Name x pos) (pK i):=by
 unfold kY at c;simp only[Mw,NU,decide_eq_true_eq,Oe]at c;obtain⟨⟨⟨a,I⟩,O⟩,U⟩:=c;refine rB (by rw[h.eN];exact a) ?_ O U;unfold N3;rw[h.wo];rcases I with(I|I)|I
 ·exact .inl I
 ·exact .inr<|.inl I
 ·exact .inr<|.inr I
theorem SX.loc(h:SX X sc N T k)(c:yk sc N T i x=cI):X.N[i]? = cq x/\L2.Loc X.env.scope x/\(X.fn x=cI\/X.env.scope.names.lookup x=cq .local):=by
 unfold yk at c;simp only[Mw,NU,decide_eq_true_eq]at c;refine⟨by rw[h.eN];exact c.1.2,?_,?_⟩
 ·unfold L2.Loc;rw[h.wo];exact c.2
 ·rw[h.wo];exact h.fn x c.1.1
theorem SX.E7(h:SX X sc N T k):X.N.Nodup:=by rw[h.eN];exact h.nd
theorem SX.DW(h:SX X sc N T k)(i:Nat)(c:yk sc N T i x=cI):PG X (.Name x pos) (v7 i):=by obtain⟨a,I,O⟩:=h.loc c;exact gJ h.E7 a I O
theorem SX.YP(h:SX X sc N T k)(g:N0 X es (gs is))(z:(Dh es X.env).length=is.length:=by rfl)(I:(Dh es X.env).findIdx? (·.1)=da:=by rfl):PG X (.Tuple es j pos) (t7 X.K<|.tp is):=
 CB h.calm g z I
theorem SX.set(h:SX X sc N T k)(i:Nat)(c:yk sc N T i x=cI)(I:PE X e te)(hs:qq e (cq (.Name x pos')) pos.line X.env=pure di:=by rfl):PS X (.Assign [.Name x pos'] e pos) (az te<|v7 i):=by obtain⟨a,O,U⟩:=h.loc c;exact rk h.E7 a O I hs U
theorem SX.gl(h:SX X sc N T k)(c:kz sc x=cI):Gl X x/\x ≠ "__name__"/\(x==("__debug__" : Str))=di:=by
 unfold kz at c;simp only[Mw,decide_eq_true_eq,Oe]at c;refine⟨?_,?_,c.2⟩
 ·show X.env.scope.names.lookup x=_
  rw[h.wo];exact c.1.1
 ·intro e;rw[e]at c;simp at c
def W3(sc scope:gx)(N:List Str)(z:List (Str×Nat)):Bool:=
 decide (scope.kind=.function)&&decide ((scope.names.map (·.1)).Nodup)&&scope.names.all (λp=> !(p.2==MZ) || decide (sc.names.lookup p.1=cq .cell) || decide (sc.names.lookup p.1=cq .free))&&
 z.all λp=>decide (scope.names.lookup p.1=cq .free)&&decide (N[p.2]? = cq p.1)
def GM(own:List Str)(scope:gx)(z:List (Str×Nat)):Bool:=decide ((own++z.map (·.1)).Nodup)&&own.all (λx=>decide (scope.names.lookup x=cq .local) || decide (scope.names.lookup x=cq .cell))
theorem SX.b?(h:SX X sc N T k)(c:W3 sc scope N fr=cI):vu X scope fr:=by
 unfold W3 at c;simp only[Mw,decide_eq_true_eq,NV,NU,Oe]at c;obtain⟨⟨⟨U,Y⟩,Z⟩,O⟩:=c;refine⟨U,Y,λp I a=>?_,λp I=>⟨(O p I).1,by rw[h.eN];exact(O p I).2⟩⟩;have e:X.env.kindOf p.1=sc.names.lookup p.1:=by show X.env.scope.names.lookup p.1=_;rw[h.wo]
 rw[e];rcases Z p I with(q|q)|q
 ·rw[a]at q;exact absurd q ⋯
 ·exact .inl q
 ·exact .inr q
theorem Xa(scope sc:gx)(x:Str):(yX scope sc).names.lookup x=(scope.names.lookup x).map λk=>if (k==MZ&&sc.kind ==.function&&sc.names.lookup x==cq .cell)then OX else k:=by
 unfold yX;dsimp only;generalize scope.names=l
 induction l with
 |nil=>rfl
 | cons p r O=>
  obtain⟨n,a⟩:=p;rw[MT];cases hx:x==n with
  |true=>
   have e:x=n:=by simpa using hx
   subst e;dsimp only;split
   ·rename_i I;rw[NL,NL,beq_self_eq_true];dsimp only[Tx];rw[UJ I]
   ·rename_i I;rw[NL,NL,beq_self_eq_true];dsimp only[Tx];rw[UY I]
  |false=>
   dsimp only;split
   ·rw[NL,NL,hx];exact O
   ·rw[NL,NL,hx];exact O
theorem SX.comp(h:SX X sc N T k)(c:GM own scope fr=cI):
 SX (jP X scope (own++fr.map (·.1)) fp s2 H2) (yX scope sc) (own++fr.map (·.1)) own k:=by
 unfold GM at c;simp only[Mw,decide_eq_true_eq,NV,NU]at c;refine⟨?_,rfl,c.1,h.calm,h.room,λx a=>?_⟩
 ·show B8 scope X.env=_
  rw[cO,h.wo]
 ·rcases c.2 x a with q|q
  ·right;rw[Xa,q];rfl
  ·left
   show(scope.names.lookup x==cq .cell)=cI;rw[q];rfl
end
mutual
def kr:D->PyData
 |.ej=>.none
 |.bl b=>.bool b
 |.int i=>.int i
 |.str x=>.str x
 |.tup a=>.tuple (n7 a)
 |.lst a=>.list (n7 a)
 |.exc _ _=>.none
 |.n4 _ _=>.none
 |.o3 _ _=>.none
 |.ins _ _ _=>.none
def n7:List D->List PyData
 |[]=>[]
 |d::ds=>kr d::n7 ds
end
theorem Dw(h:i9 (.exc c n)=cI):False:=by simp[i9]at h
theorem Dv(h:i9 (.n4 ks vs)=cI):False:=by simp[i9]at h
theorem Dx{c:Str}{p t:D}(h:i9 (.ins c p t)=cI):False:=by simp[i9]at h
theorem Du(h:i9 (.o3 ks vs)=cI):False:=by simp[i9]at h
mutual
theorem S2:∀x y:D,i9 x=cI->i9 y=cI->Pf (kr x) (kr y)=jn x y
 |.ej,y,_,h=>by cases y<;>first|exact(Dw h).elim|exact(Dv h).elim|exact(Du h).elim|exact(Dx h).elim|simp[kr,Pf,jn]
 |.bl a,y,_,h=>by cases y<;>first|exact(Dw h).elim|exact(Dv h).elim|exact(Du h).elim|exact(Dx h).elim|simp[kr,Pf,jn]
 |.int a,y,_,h=>by cases y<;>first|exact(Dw h).elim|exact(Dv h).elim|exact(Du h).elim|exact(Dx h).elim|simp[kr,Pf,jn]
 |.str a,y,_,h=>by cases y<;>first|exact(Dw h).elim|exact(Dv h).elim|exact(Du h).elim|exact(Dx h).elim|simp[kr,Pf,jn]
 |.exc c n,y,h,_=>(Dw h).elim
 |.n4 c n,y,h,_=>(Dv h).elim
 |.o3 c n,y,h,_=>(Du h).elim
 |.ins c p t,y,h,_=>(Dx h).elim
 |.tup xs,y,h1,h2=>by
  cases y with
  |tup b=>simp only[i9]at h1 h2;simp only[kr,Pf,jn];exact UI xs b h1 h2
  |exc c n=>exact(Dw h2).elim
  |n4 c n=>exact(Dv h2).elim
  |o3 c n=>exact(Du h2).elim
  |ins c p t=>exact(Dx h2).elim
  |_=>simp[kr,Pf,jn]
 |.lst xs,y,h1,h2=>by
  cases y with
  |lst b=>simp only[i9]at h1 h2;simp only[kr,Pf,jn];exact UI xs b h1 h2
  |exc c n=>exact(Dw h2).elim
  |n4 c n=>exact(Dv h2).elim
  |o3 c n=>exact(Du h2).elim
  |ins c p t=>exact(Dx h2).elim
  |_=>simp[kr,Pf,jn]
theorem UI:∀xs ys:List D,qi xs=cI->qi ys=cI->Th (n7 xs) (n7 ys)=zj xs ys
 |[],ys,_,_=>by cases ys<;>simp[n7,Th,zj]
 | x::xs,ys,h1,h2=>by
  cases ys with
  |nil=>simp[n7,Th,zj]
  |cons y ys=>
   simp only[qi,Mw]at h1 h2;simp only[n7,Th,zj];rw[S2 x y h1.1 h2.1,UI xs ys h1.2 h2.2]
end
mutual
theorem U0:∀x:D,i9 x=cI->(kr x).canLay0=cI
 |.ej,_=>by simp[kr,Rl]
 |.bl a,_=>by simp[kr,Rl]
 |.int a,_=>by simp[kr,Rl]
 |.str a,h=>by simpa[kr,Rl,i9,PyData.strOk]using h
 |.tup xs,h=>by simp only[i9]at h;simp only[kr,Rl];exact S6 xs h
 |.lst xs,h=>by simp only[i9]at h;simp only[kr,Rl];exact S6 xs h
 |.exc c n,h=>(Dw h).elim
 |.n4 c n,h=>(Dv h).elim
 |.o3 c n,h=>(Du h).elim
 |.ins c p t,h=>(Dx h).elim
theorem S6:∀xs:List D,qi xs=cI->Tw (n7 xs)=cI
 |[],_=>by simp[n7,Tw]
 |x::xs,h=>by simp only[qi,Mw]at h;simp only[n7,Tw];rw[U0 x h.1,S6 xs h.2];rfl
end
mutual
theorem B_:∀x:D,(kr x).depth=deep x
 |.ej=>by simp[kr,Pb,deep]
 |.bl a=>by simp[kr,Pb,deep]
 |.int a=>by simp[kr,Pb,deep]
 |.str a=>by simp[kr,Pb,deep]
 |.exc c n=>by simp[kr,Pb,deep]
 |.n4 c n=>by simp[kr,Pb,deep]
 |.o3 c n=>by simp[kr,Pb,deep]
 |.ins c p t=>by simp[kr,Pb,deep]
 |.tup b=>by simp only[kr,Pb,deep];rw[UG b]
 |.lst b=>by simp only[kr,Pb,deep];rw[UG b]
theorem UG:∀xs:List D,SK (n7 xs)=zi xs
 |[]=>by simp[n7,SK,zi]
 |x::xs=>by simp only[n7,SK,zi];rw[B_ x,UG xs]
end
theorem ya(h:l8 d=cI):i9 d=cI:=by unfold l8 at h;rw[Mw]at h;exact h.2
theorem vM(h:l8 d=cI):SeqAt.shaped (kr d)=cI:=by unfold l8 at h;rw[Mw,decide_eq_true_eq]at h;unfold SeqAt.shaped;rw[U0 d h.2,Bool.true_and,B_];exact decide_eq_true ⋯
section
variable{X:Cx}{pins:UQ}{σ:St}{H0 H:Hp}{s:d9}
mutual
theorem L5(I:Inv X pins σ H s)(sub:gm H0 H):∀{d:D} {v:V} {u:dy},i9 d=cI->Rep X.K H0 d v->RelV v u->∃O,Reads s.heap u (kr d) O
 |.ej,v,u,_,h,r=>by cases (show v=.ej from h);cases r;exact⟨_,.none⟩
 |.bl b,v,u,_,h,r=>by cases (show v=.bl b from h);cases r;exact⟨_,.bool b⟩
 |.int i,v,u,_,h,r=>by cases (show v=.int i from h);obtain⟨t,rfl⟩:=r;exact⟨_,.int i t⟩
 |.str x,v,u,_,h,r=>by cases (show v=.str x from h);obtain⟨t,rfl⟩:=r;exact⟨_,.str x t⟩
 |.exc c n,v,u,o,_,_=>(Dw o).elim
 |.n4 c n,v,u,o,_,_=>(Dv o).elim
 |.o3 c n,v,u,o,_,_=>(Du o).elim
 |.ins c p t,v,u,o,_,_=>(Dx o).elim
 |.tup ds,v,u,o,h,r=>by obtain⟨a,e,rfl,f,U⟩:=(show ∃a e,v=.ref a/\gR X.K H0 a e/\d8 X.K H0 ds e from h);cases r;simp only[i9]at o;obtain⟨k,Y,⟨w,Z,g,n,j⟩,m⟩:=I.tuple<|n6 sub f;obtain⟨O,l⟩:=T6 I sub o U Y;exact⟨O,.tuple Z g j<|by simpa using l⟩
 |.lst ds,v,u,o,h,r=>by obtain⟨a,e,rfl,f,U⟩:=(show ∃a e,v=.ref a/\gE X.K H0 a e/\d8 X.K H0 ds e from h);cases r;simp only[i9]at o;obtain⟨k,Y,p,m⟩:=I.list<|sub.seq f;obtain⟨w,Z,g,n,j⟩:=p.isList;obtain⟨O,l⟩:=T6 I sub o U Y;exact⟨_,.list Z g j<|by simpa using l⟩
theorem T6(I:Inv X pins σ H s)(sub:gm H0 H):∀{ds:List D} {xs:List V} {us:List dy},qi ds=cI->d8 X.K H0 ds xs->ft xs us->∃O,ReadsAll s.heap us (n7 ds) O
 |[],xs,us,_,h,r=>by rw[h.tv]at r;cases r;exact⟨_,.nil⟩
 | d::ds,xs,us,o,h,r=>by
  obtain⟨x,t,e,a,U⟩:=h.o4;subst e;simp only[qi,Mw]at o;cases r with
  |cons Y b=>
   obtain⟨O,Z⟩:=L5 I sub o.1 a Y;obtain⟨bs,f⟩:=T6 I sub o.2 U b;exact⟨_,.cons Z f⟩
end
end
def IH(K:Mj):R2:=λx y H Q=>∃a b I,gm a H/\Rep K a b x/\Rep K a I y/\l8 b=cI/\l8 I=cI/\Q (.bl<|jn b I) H
def IG(K:Mj):R2:=λx y H Q=>∃a b I,gm a H/\Rep K a b x/\Rep K a I y/\l8 b=cI/\l8 I=cI/\Q (.bl<|!jn b I) H
theorem rC(Y:X.A.units+64<Dj):jl X (ri .Eq) (IH X.K):=by intro a s l H x y v u Q I g Z h;obtain⟨i,j,k,sub,b,d,O,U,q⟩:=h;obtain⟨as,e⟩:=L5 I sub (ya O) b g;obtain⟨bs,f⟩:=L5 I sub (ya U) d Z;exact eq_dataH e f (vM O) (vM U) Y ⟨.bl _,H,I,by rw[S2 _ _ (ya O) (ya U)];rfl,q⟩
theorem Ea(Y:X.A.units+64<Dj):jl X (ri .NotEq) (IG X.K):=by intro a s l H x y v u Q I g Z h;obtain⟨i,j,k,sub,b,d,O,U,q⟩:=h;obtain⟨as,e⟩:=L5 I sub (ya O) b g;obtain⟨bs,f⟩:=L5 I sub (ya U) d Z;exact ne_dataH e f (vM O) (vM U) Y ⟨.bl _,H,I,by rw[S2 _ _ (ya O) (ya U)];rfl,q⟩
theorem fH{K:Mj}:ow K (IH K) gw:=λa H x y b O d Q s e U I q=>by
 unfold gw at I;split at I
 ·rename_i h;cases I;exact⟨a,b,O,s,e,U,h.1,h.2,q _ H a (Ext.refl s) rfl⟩
 ·cases I
theorem sY{K:Mj}:ow K (IG K) mc:=λa H x y b O d Q s e U I q=>by
 unfold mc at I;split at I
 ·rename_i h;cases I;exact⟨a,b,O,s,e,U,h.1,h.2,q _ H a (Ext.refl s) rfl⟩
 ·cases I
theorem SX.Pz(h:SX X sc N T k):X.A.units+64<Dj:=by have:=h.room.un;lia
section
variable{X:Cx}{sc:gx}{N T:List Str}{k:Nat}{a b c:eo}{pos p:e8}{fa fb:CO D}
theorem ZF(z:PV X a fa)(I:PV X b fb):PV X (.BinOp a .Sub b pos) (zG dU fa fb):=Kj CV sW z I
theorem k4(z:PV X a fa)(I:PV X b fb):PV X (.BinOp a .FloorDiv b pos) (zG JI fa fb):=Kj uJ tw z I
theorem qS(z:PV X a fa)(I:PV X b fb):PV X (.BinOp a .Mod b pos) (zG wj fa fb):=Kj Eb tm z I
theorem gb(z:PV X a fa)(I:PV X b fb):PV X (.BinOp a .Pow b pos) (zG Ax fa fb):=Kj CZ sX z I
theorem GU(z:PV X a fa)(I:PV X b fb):PV X (.Compare a [.GtE] [b] pos) (zG D6 fa fb):=pX Ee pQ z I<|ZK b
theorem XR(h:SX X sc N T k)(z:PV X a fa)(I:PV X b fb):PV X (.Compare a [.Eq] [b] pos) (zG gw fa fb):=pX (rC h.Pz) fH z I<|ZK b
theorem rf(z:PV X a fa)(I:PV X b fb):l5 X (.Compare a [.Lt] [b] pos) (sB<|zG DN fa fb):=Zn Ec pP z I<|ZK b
theorem vz(z:PV X a fa)(I:PV X b fb):l5 X (.Compare a [.Gt] [b] pos) (sB<|zG o7 fa fb):=Zn Hf BL z I<|ZK b
theorem Y6(z:PV X a fa)(I:PV X b fb):l5 X (.Compare a [.GtE] [b] pos) (sB<|zG D6 fa fb):=Zn Ee pQ z I<|ZK b
theorem qw(h:SX X sc N T k)(z:PV X a fa)(I:PV X b fb):l5 X (.Compare a [.Eq] [b] pos) (sB<|zG gw fa fb):=Zn (rC h.Pz) fH z I<|ZK b
theorem yI(h:SX X sc N T k)(z:PV X a fa)(I:PV X b fb):l5 X (.Compare a [.NotEq] [b] pos) (sB<|zG mc fa fb):=Zn (Ea h.Pz) sY z I<|ZK b
theorem QM{K:Mj}{H:Hp}{d:D}(h:Rep K H d .ej):d=.ej:=by
 cases d with
 |ej=>rfl
 |bl b=>exact V.noConfusion (show V.ej=.bl b from h)
 |int b=>exact V.noConfusion (show V.ej=.int b from h)
 |str b=>exact V.noConfusion (show V.ej=.str b from h)
 |tup b=>obtain⟨a,f,e,_⟩:=h;cases e
 |lst b=>obtain⟨a,f,e,_⟩:=h;cases e
 |exc c n=>obtain⟨a,e,_⟩:=h;cases e
 |n4 c n=>obtain⟨a,f,e,_⟩:=h;cases e
 |o3 c n=>obtain⟨a,f,e,_⟩:=h;cases e
 |ins c p t=>obtain⟨a,C,g,I,O,e,_⟩:=h;cases e
theorem tq{K:Mj}:ow K (λx y H Q=>y=.ej/\Q (.bl<|decide<|x=.ej) H) EW:=λb H x y f O d Q s a U I q=>by
 cases O with
 | ej=>
  refine⟨U,?_⟩;cases f with
  |ej=>cases I;rw[show x=V.ej from a];exact q _ H b (Ext.refl s) (by simp;rfl)
  |_=>
   cases I;refine q _ H b (Ext.refl s) ?_;have:¬x=V.ej:=λe=>by rw[e]at a;exact D.noConfusion<|QM a
   rw[decide_eq_false this];rfl
 |_=>cases f<;>cases I
theorem cH{K:Mj}:ow K (λx y H Q=>y=.ej/\Q (.bl<|!decide (x=.ej)) H) vj:=λb H x y f O d Q s a U I q=>by
 cases O with
 | ej=>
  refine⟨U,?_⟩;cases f with
  |ej=>cases I;rw[show x=V.ej from a];exact q _ H b (Ext.refl s) (by simp;rfl)
  |_=>
   cases I;refine q _ H b (Ext.refl s) ?_;have:¬x=V.ej:=λe=>by rw[e]at a;exact D.noConfusion<|QM a
   rw[decide_eq_false this];rfl
 |_=>cases f<;>cases I
theorem ug(z:PV X a fa)(I:PV X b fb):l5 X (.Compare a [.Is] [b] pos) (sB<|zG EW fa fb):=Zn Ed tq z I<|ZK b
theorem Jm(z:PV X a fa)(I:PV X b fb):l5 X (.Compare a [.IsNot] [b] pos) (sB<|zG vj fa fb):=Zn uH cH z I<|ZK b
theorem vJ{K:Mj}{H:Hp}{ds:List D}{v:V}(h:Rep K H (.tup ds) v):∃a xs,v=.ref a/\gR K H a xs/\d8 K H ds xs:=h
theorem hV{K:Mj}{H:Hp}{ds:List D}{v:V}(h:Rep K H (.lst ds) v):∃a xs,v=.ref a/\gE K H a xs/\d8 K H ds xs:=h
theorem xS{K:Mj}{H:Hp}{ds:List D}{a:dt}{xs:List V}(z:gR K H a xs)(I:d8 K H ds xs):Rep K H (.tup ds) (.ref a):=⟨a,xs,rfl,z,I⟩
theorem Wu{K:Mj}{H:Hp}{ds:List D}{a:dt}{xs:List V}(z:gE K H a xs)(I:d8 K H ds xs):Rep K H (.lst ds) (.ref a):=⟨a,xs,rfl,z,I⟩
theorem tE{K:Mj}:ow K (λx y H Q=>t8 (λi j=>.int (i+j)) x y H Q\/pV K x y H Q) jX:=λf H x y n o d Q s l Z U q=>by
 cases n<;>cases o<;>simp[jX]at U
 ·subst U;exact .inl ⟨_,_,jT l,jT Z,q _ H f (Ext.refl s) rfl⟩
 ·rename_i m r
  obtain⟨t,rfl⟩:=U;obtain⟨a,u,rfl,g,I⟩:=vJ l;obtain⟨b,w,rfl,h,O⟩:=vJ Z;refine .inr ⟨a,b,u,w,rfl,rfl,n6 s g,n6 s h,vX (by rw[I.length,O.length];exact t),λe=>?_,λe=>?_,λp k=>?_⟩
  ·have Y:m=[]:=by
    have:=I.length;rw[e]at this;exact MX this.symm
   subst Y;exact q _ H f (Ext.refl s)<|xS h O
  ·have Y:r=[]:=by
    have:=O.length;rw[e]at this;exact MX this.symm
   subst Y;exact q _ H f (Ext.refl s) (by rw[Ra];exact xS g I)
  ·exact q _ _ _ (Ext.alloc s k _)<|xS (gR.of zF)<|(I.append O).mono (jb (jy s k) _)
theorem z7(z:PV X a fa)(I:PV X b fb):PV X (.BinOp a .Add b pos) (zG jX fa fb):=Kj (v?.or nQ) tE z I
end
theorem ag(U:A.handled=da)(k:Sk)(I O:dt)(Y:O≠I)(items:Array dy):
 Walks P w A I [I,O] [I] items.size (λi v=>items[i]? = cq v) (λi h=>g7 k h I O i/\i7 k h O items):=by
 cases k
 ·exact Walks.list U I O Y items
 ·exact Walks.tuple U I O Y items
theorem QP(I:List Int):∀n,preSum (λi=>I.getD i 0) n=(I.take n).sum
 |0=>by simp[preSum]
 | n+1=>by
  have O:=QP I n;simp only[preSum,O];by_cases h:n<I.length
  ·rw[List.take_succ_eq_append_getElem h,List.sum_append]
   simp[h]
  ·rw[Rm ⋯,Rm ⋯]
   simp[h]
section
variable{X:Cx}{pins:UQ}{σ:St}{H:Hp}{s:d9}
theorem lM(z:X.calm=cI):XH X (.builtin "sum") (λxs H Q=>∃p k ys O,xs=[.ref p]/\ie k X.K H p ys/\ys=(O:List Int).map V.int/\Q (.int O.sum) H):=by
 intro pins s σ H F E Q I w h;obtain⟨p,k,ys,O,rfl,m,rfl,q⟩:=h;obtain⟨u,rfl,U⟩:=yU w;cases U;obtain⟨a,r,d,C⟩:=I.sq m;have lt:=d.lt;have Y:=r.length;rw[MN]at Y;refine call_sum_walkG<|Xh d ⟨_,[_,p],[_],a.toArray.size,_,_,λi=>O.getD i 0,rfl,ag (A:=X.A.in1) (I.ok.hd z) k _ p (ME lt) a.toArray,⟨wZ k _ p,d.at λo e=>Mk _ e⟩,?_,?_,?_⟩
 ·intro b Z
  rw[MM];simp only[Mr,MD,or_false]at Z;rcases Z with rfl|rfl
  ·exact Ou _
  ·exact NM lt
 ·intro i v n
  have f:a[i]? = cq v:=by simpa using n
  have j:i<O.length:=by rw[Y];exact(MR.mp f).1
  obtain⟨u,g,U⟩:=r.get (i:=i) (x:=.int O[i]) (by simp[j]);rw[f]at g;cases g;obtain⟨t,rfl⟩:=U;exact⟨t,by simp[j]⟩
 ·intro B y t' l
  have e:preSum (λi=>O.getD i 0) a.toArray.size=O.sum:=by rw[QP,Rm (by rw[Ms,Y];exact Mq _)]
  refine⟨.int O.sum,H,I.kept (t':=y)<|λb u e=>l b u ?_ (Mk _ e),⟨t',by rw[e]⟩,q⟩;simp only[Mr,MD,or_false];exact ME<|Mt e
def Bz:V->Option Bool
 |.ej=>cq di
 |.bl b=>cq b
 |.int i=>cq (i != 0)
 |_=>da
theorem mG(r:RelV x u)(e:Bz x=cq b)(q:Q b s):wpAny (ef P w) A (Pt u) Q E s:=by
 cases x with
 |ej=>cases r;cases e;exact λ_ _ _=>q
 |bl c=>cases r;cases e;exact OG q
 |int i=>obtain⟨t,rfl⟩:=r;cases e;exact PyProof.Rows.truthy_int q
 |_=>cases e
def fu:List V->Option (List Bool)
 |[]=>cq []
 |x::r=>(Bz x).bind λb=>(fu r).map λl=>b::l
theorem YR:∀{xs:List V} {bs:List Bool},fu xs=cq bs->bs.length=xs.length/\∀(i:Nat) x,xs[i]? = cq x->Bz x=cq (bs.getD i di)
 |[],bs,h=>by cases h;exact⟨rfl,λi x e=>by simp at e⟩
 |y::xs,bs,h=>by
  obtain⟨b,a,h⟩:=zf h;obtain⟨l,I,h⟩:=zI h;subst h;obtain⟨d,O⟩:=YR I;refine⟨by simp[d],λi x e=>?_⟩;cases i with
  |zero=>simp at e;subst e;simpa using a
  |succ i=>simpa using O i x (by simpa using e)
theorem lZ(bs:List Bool):(Ml bs.length).any (λi=>bs.getD i di)=bs.any id:=by
 rw[N2];simp only[Uc,Mn,id_eq];constructor
 ·rintro⟨i,a,h⟩
  rw[Mz,Mp a]at h;exact⟨_,Rx a,h⟩
 ·rintro⟨b,I,h⟩
  obtain⟨i,a,e⟩:=List.mem_iff_getElem.mp I;refine⟨i,a,?_⟩;rw[Mz,Mp a,Option.getD_some,e];exact h
theorem lQ(Z:X.calm=cI):XH X (.builtin "any") (λxs H Q=>∃p k ys bs,xs=[.ref p]/\ie k X.K H p ys/\fu ys=cq bs/\Q (.bl (bs.any id)) H):=by
 intro pins s σ H M L Q I z h;obtain⟨p,k,ys,bs,rfl,t,w,q⟩:=h;obtain⟨u,rfl,O⟩:=yU z;cases O;obtain⟨a,r,d,G⟩:=I.sq t;have lt:=d.lt;have U:=r.length;obtain⟨j,l⟩:=YR w;refine call_any_walk<|Xh d ⟨_,[_,p],[_],a.toArray.size,_,_,λi=>bs.getD i di,rfl,ag (A:=X.A.in1) (I.ok.hd Z) k _ p (ME lt) a.toArray,⟨wZ k _ p,d.at λo e=>Mk _ e⟩,?_,?_⟩
 ·intro i v J E C y m
  have Y:a[i]? = cq v:=by simpa using y
  have g:i<ys.length:=by rw[U];exact(MR.mp Y).1
  obtain⟨u,f,O⟩:=r.get (i:=i) (x:=ys[i]) (by simp[g]);rw[Y]at f;cases f;exact mG O (l i ys[i] (by simp[g])) m
 ·intro F B n
  have e:(Ml a.toArray.size).any (λi=>bs.getD i di)=bs.any id:=by rw[Ms,<-U,<-j];exact lZ bs
  refine⟨.bl<|bs.any id,H,I.kept (t':=B)<|λb u e=>n b u ?_ (Mk _ e),by rw[e];rfl,q⟩;simp only[Mr,MD,or_false];exact ME<|Mt e
end
section
variable{X:Cx}{sc:gx}{N T:List Str}{k:Nat}{e a b c:eo}{pos p:e8}{f g:CO D}{fq:CO (Sk×List D)}
theorem BI{K:Mj}{H:Hp}{k:Sk}{a:dt}{xs:List V}(h:ie k K H a xs):gE K H a xs\/gR K H a xs:=by
 cases k
 ·exact .inl h
 ·exact .inr h
theorem qK(h:SX X sc N T k)(c:kz sc "len" = cI)(z:X.mg "len" = da)(I:PQ X e fq)(hs:eJ [e] X.env=[(di,eh e X.env)]:=by rfl):PV X (.Call (.Name "len" p) [e] [] pos) (JP fq):=
 qo (wI VU (h.gl c).1 z PySem.boot_len (jq I qp hs) ⋯ ⋯ hs rfl) λt H Q O=>by obtain⟨j,s,d,o,U,q⟩:=O;obtain⟨⟨n,f⟩,l,Y⟩:=zI U;subst Y;refine⟨j,s,n,f,o,l,λa g i b ext m Z r=>⟨a,g,rfl,BI m,?_⟩⟩;exact q _ i b ext (show V.int g.length=.int f.length by rw[r.length])
theorem jt(h:SX X sc N T k)(c:kz sc "tuple" = cI)(z:X.mg "tuple" = da)(O:PQ X e fq)(hs:eJ [e] X.env=[(di,eh e X.env)]:=by rfl):PV X (.Call (.Name "tuple" p) [e] [] pos) (zX fq):=
 qo (QQ Yu (h.gl c).1 z PyProof.Rows.boot_tuple (jq O qp hs) ⋯ ⋯ hs rfl) λw H Q U=>by
  obtain⟨j,u,d,s,Y,q⟩:=U;obtain⟨⟨g,m⟩,n,Z⟩:=zI Y;subst Z;refine⟨j,u,g,m,s,n,λa t i b ext f o r=>⟨a,t,rfl,?_⟩⟩;cases g with
  |L=>exact .inl ⟨f,λl I=>q _ _ _ (ext.trans<|Ext.alloc ext.sub I _)<|xS (gR.of zF)<|r.mono<|jb (jy ext.sub I) _⟩
  |T=>exact .inr ⟨f,q _ i b ext (xS (o rfl) r)⟩
theorem yb{H H':Hp}(s:gm H H'){a:dt}(h:H' a=da):H a=da:=by
 cases z:H a with
 |none=>rfl
 |some o=>rw[s a o z]at h;cases h
theorem WB(h:SX X sc N T k)(c:kz sc "list" = cI)(z:X.mg "list" = da)(O:PQ X e fq)(hs:eJ [e] X.env=[(di,eh e X.env)]:=by rfl):PO X (.Call (.Name "list" p) [e] [] pos) (QL fq):=
 qo (QQ VS (h.gl c).1 z PyProof.Rows.boot_list (jq O qp hs) ⋯ ⋯ hs rfl) λw H Q U=>by obtain⟨g,s,d,o,Y,q⟩:=U;obtain⟨⟨n,i⟩,j,Z⟩:=zI Y;subst Z;refine⟨g,s,n,i,o,j,λa f t b ext m u r=>⟨a,f,rfl,BI m,λl I=>?_⟩⟩;exact q l f _ b (ext.trans<|Ext.hide ext.sub I _) (yb ext.s1 I) (jy ext.sub I) zF r
theorem YS:∀{ds:List D} {n:Int},Wk ds=cq n->∃I:List Int,ds=I.map D.int/\n=I.sum
 |[],n,h=>by cases h;exact⟨[],rfl,rfl⟩
 | d::ds,n,h=>by
  cases d with
  |int i=>
   obtain⟨s,e,h⟩:=zI h;obtain⟨I,rfl,rfl⟩:=YS e;exact⟨i::I,rfl,by rw[<-h];simp⟩
  |_=>cases h
theorem Y2{K:Mj}{H:Hp}:∀{I:List Int} {xs:List V},d8 K H (I.map D.int) xs->xs=I.map V.int
 |[],xs,h=>h.tv
 |z::I,xs,h=>by obtain⟨x,r,e,a,O⟩:=d8.o4 h;rw[e,jT a,Y2 O];rfl
theorem JF(h:SX X sc N T k)(c:kz sc "sum" = cI)(z:X.mg "sum" = da)(Y:PQ X e fq)(hs:eJ [e] X.env=[(di,eh e X.env)]:=by rfl):PV X (.Call (.Name "sum" p) [e] [] pos) (eD fq):=
 qo (wI (lM h.calm) (h.gl c).1 z PyProof.Rows.boot_sum (jq Y qp hs) ⋯ ⋯ hs rfl) λy H Q Z=>by obtain⟨i,w,d,t,I,q⟩:=Z;obtain⟨⟨f,j⟩,l,I⟩:=zf I;obtain⟨n,m,o⟩:=zI I;subst o;obtain⟨U,O,rfl⟩:=YS m;have O:j=U.map D.int:=O;subst O;exact⟨i,w,f,_,t,l,λa u g b ext s x r=>⟨a,f,u,U,rfl,s,Y2 r,q _ g b ext rfl⟩⟩
theorem sJ{K:Mj}{H:Hp}{d:D}{x:V}{b:Bool}(h:Rep K H d x)(e:Gz d=cq b):Bz x=cq b:=by
 cases d with
 |ej=>cases (show x=.ej from h);exact e
 |bl c=>cases (show x=.bl c from h);exact e
 |int i=>cases (show x=.int i from h);exact e
 |_=>cases e
theorem aw{K:Mj}{H:Hp}:∀{ds:List D} {xs:List V} {bs:List Bool},d8 K H ds xs->YQ ds=cq bs->fu xs=cq bs
 |[],xs,bs,h,e=>by rw[h.tv];exact e
 |d::ds,xs,bs,h,e=>by obtain⟨x,r,I,f,O⟩:=h.o4;obtain⟨b,a,e⟩:=zf e;obtain⟨l,U,e⟩:=zI e;subst I e;show(Bz x).bind _=_;rw[sJ f a];show((fu r).map λl=>b::l)=_;rw[aw O U];rfl
theorem pY(h:SX X sc N T k)(c:kz sc "any" = cI)(z:X.mg "any" = da)(O:PQ X e fq)(hs:eJ [e] X.env=[(di,eh e X.env)]:=by rfl):PV X (.Call (.Name "any" p) [e] [] pos) (Bi fq):=
 qo (wI (lQ h.calm) (h.gl c).1 z PyProof.Rows.boot_any (jq O qp hs) ⋯ ⋯ hs rfl) λu H Q U=>by obtain⟨i,o,d,m,I,q⟩:=U;obtain⟨⟨f,s⟩,j,I⟩:=zf I;obtain⟨bs,Y,Z⟩:=zI I;subst Z;exact⟨i,o,f,_,m,j,λa n g b ext l t r=>⟨a,f,n,bs,rfl,l,aw r Y,q _ g b ext rfl⟩⟩
theorem QO(h:SX X sc N T k)(c:kz sc "int" = cI)(z:X.mg "int" = da)(U:PV X e f)(hs:eJ [e] X.env=[(di,eh e X.env)]:=by rfl):PV X (.Call (.Name "int" p) [e] [] pos) (cL f):=
 qo (QQ lP (h.gl c).1 z PyProof.Rows.boot_int (jq U qp hs) ⋯ ⋯ hs rfl) λo H Q Y=>by
  obtain⟨j,n,d,m,I,q⟩:=Y;obtain⟨O,l,I⟩:=zf I;refine⟨j,n,O,m,l,λv g a ext r=>?_⟩;cases O with
  |int i=>cases I;exact .inl ⟨i,by rw[jT r],q _ g a ext rfl⟩
  |bl b=>cases I;exact .inr ⟨b,by rw[show v=.bl b from r],q _ g a ext rfl⟩
  |_=>cases I
theorem gh(h:SX X sc N T k)(c:kz sc "max" = cI)(z:X.mg "max" = da)(ha:PV X a f)(Y:PV X b g)(hs:eJ [a,b] X.env=[(di,eh a X.env),(di,eh b X.env)]:=by rfl)(O:eJ [b] X.env=[(di,eh b X.env)]:=by rfl):
 PV X (.Call (.Name "max" p) [a,b] [] pos) (cK f g):=
 qo (wI (lO h.calm) (h.gl c).1 z PyProof.Rows.boot_max (jq ha (jq Y qp O)<|by rw[hs,O]) ⋯ ⋯ (by rw[hs,O]) (by rw[O];rfl)) λG H Q Z=>by obtain⟨s,o,d,n,I,q⟩:=Z;obtain⟨i,l,I⟩:=zf I;obtain⟨w,A,l⟩:=zf l;obtain⟨j,U,I⟩:=zI I;obtain⟨y,B,U⟩:=zf U;subst I;refine⟨s,o,w,n,A,λv E e x r=>⟨e,o,y,n.ext x,B,λF t u C m=>⟨i,j,?_,q _ t u (x.trans C) rfl⟩⟩⟩;rw[jW l]at r;rw[jW U]at m;rw[jT r,jT m]
end
end DL
namespace DL
open PySem PySem.Spec PySem.Calls PyProof.Rows PySem.W PySem.Builtin PySem.Builtin.ObjectAttr PySem.Builtin.Getset_descriptor
section
variable{prog:f9}{w:f6}{A:ij}{E:EQ}{s:d9}{K:Frag}{x C:dt}
theorem ZN(x:bL h a C):C0 M h (E9<|.ref a) (.ref C):=by obtain⟨o,d,I,O,b⟩:=x;exact O ▸ (Looks.ld I).andThen .now
structure D2(K:Frag)(C:dt):Prop where
 ga:D7 K (.ref C) "__getattribute__" = cq (cq (.builtin "BaseException.__getattribute__"))
 gn:D7 K (.ref C) "__getattr__" = cq da
 ca:D7 K (.ref C) "__class__" = cq (cq (.builtin "object.__class__"))
 gt:specialIn K (.builtin "object.__class__") "__get__" = cq (cq (.builtin "getset_descriptor.__get__"))
 tk:takesIn K (.builtin "object.__class__")=cq cI
 mo:mroIn K C (.type "object")=cq cI
 mb:mroIn K C (.type "BaseException")=cq cI
theorem oM(X:K.In h)(G:D2 K C):C0 M h (find (.ref x) (.ref C) "__class__") (.bind (.builtin "getset_descriptor.__get__") (.builtin "object.__class__")):=by have I:=E5 (M:=M) X G.ca;have O:C0 M h (getOf (cq (.builtin "object.__class__"))) (cq (.builtin "getset_descriptor.__get__")):=looks_specialIn X G.gt;have U:=looks_takesIn (M:=M) X G.tk;have Y:C0 M h (dataDescriptor? (cq (.builtin "object.__class__")) (cq (.builtin "getset_descriptor.__get__"))) (cq (.builtin "getset_descriptor.__get__",.builtin "object.__class__")):=U.andThen .now;exact I.andThen (O.andThen (Y.andThen (Looks.tag .now)))
theorem oN(X:K.In s.heap)(I:bL s.heap x C)(G:D2 K C)(h:R (.ok<|.ret<|.ref C) s):
 codeAny (ef prog w) A (.call (.builtin "getset_descriptor.__get__") ⟨[.builtin "object.__class__",.ref x,tp],[]⟩) R s:=by
 obtain⟨d,b,O,U,Y⟩:=s;have Z:=ZN (M:=ef prog w) I;have a:=O' (M:=ef prog w) X G.mo;refine Pd KF.slot_gs.plain KF.entry_gs<|KF.slot_gs.check _ _ _ _ _ _ _ _ KF.type_class (KF.args_gs _ _ _) ?_;unfold Builtin.«getset_descriptor.__get__» descrGet;rw[dga_obj];refine Mi<|Mo ?_;unfold descrGetter descrCheckInstance descrNameAndClass S4;simp only[KF.owner_class]
 repeat lk
 refine And.intro (Sa _ ⋯)<|Sm KF.entry_class ?_;unfold Builtin.«object.__class__» shownTypeOf
 repeat lk
 exact h
theorem VL(X:K.In s.heap)(I:bL s.heap x C)(G:D2 K C)(O:Q () s):wpAny M A (R8 "BaseException.__getattribute__" ⟨[.ref x,r?],[]⟩) Q E s:=by
 obtain⟨g,f,e,i,h⟩:=s;have U:=ZN (M:=M) I;have Y:=O' (M:=M) X G.mb;have Z:builtinKind "BaseException.__getattribute__" = cq .slot:=by decide +kernel
 have b:splitId "BaseException.__getattribute__" = cq ("BaseException","__getattribute__"):=by decide +kernel
 have a:=PySem.F.args_bexc_ga (.ref x) r?;simp only[R8,Z,b];refine Mi (show wpAny _ _ (S4 (.ref x) (.type "BaseException")) _ _ _ from ?_);refine(U.andThen Y).at ?_;rw[UY ⋯];unfold argsOk at a;cases hs:Manifest.signature? "BaseException.__getattribute__" with
 |none=>exact Mo O
 |some d=>
  rw[hs]at a;exact Si a O
theorem iU(X:K.In s.heap)(I:bL s.heap x C)(G:D2 K C)(h:Q (cq (.ref C)) {s with toks:=s.toks+1}):wpAny (ef prog w) A (UM (.ref x) "__class__") Q E s:=by obtain⟨b,a,O,U,Y⟩:=s;have Z:=ZN (M:=ef prog w) I;have d:=E5 (M:=ef prog w) X G.ga;have e:=E5 (M:=ef prog w) X G.gn;have f:=oM (M:=ef prog w) (x:=x) X G;have B:=PN.ga.bind (.ref x);unfold UM getAttrBy? getAttrBy;refine Mi (_l (Mi (Of (NA (Mi (Z.at (Mi (d.at ?_))))))));show wpAny _ _ (UN _ _ _ _ _ _) _ _ _;unfold UN;refine Mi (e.at ?_);refine Mi (Of (NA ?_));show wpAny _ _ (N6 (.builtin "BaseException.__getattribute__") (.ref x) _) _ _ _;unfold N6;refine Mi (Si B ?_);refine Ry (Pd PN.ga.plain PySem.F.entry_bexc_ga (VL (s:=⟨b,a,O,U+1,Y⟩) X I G ?_));refine Mi (Mo ?_);refine Mi (Mo ?_);refine Mi (Z.at (Mi (f.at ?_)));show wpAny _ _ (bindTo _ _ _ _) _ _ _;unfold bindTo;refine Mi (NA (Ry (oN (s:=⟨b,a,O,U+1,Y⟩) X I G ?_)));refine Mo ?_;exact Mo (Mo h)
theorem Wg(h:pD K C=cI):D2 K C:=by unfold pD at h;simp only[Mw,beq_iff_eq]at h;exact⟨h.1.1.1.1.1.1.1.1.2,h.1.1.1.1.1.1.1.2,h.1.1.1.1.1.1.2,h.1.1.1.2,h.1.1.2,h.1.1.1.1.1.2,h.1.1.1.1.2⟩
theorem ba(G:D2 K C)(Y:(DK K C).isSome=cI):KitX K (.ref x) (.ref C) (λh=>bL h x C) where
 ty:=λ_ _ _ I=>ZN I
 it:=λ_ _ X _=>by
  obtain⟨cd,O⟩:=Ny.mp Y;unfold DK at O;split at O
  ·rename_i Z d' a1 a2 U
   intro A' Q' E' s' k q;unfold isType loadHead;exact Mi<|wpAny_loadPart (k _ _<|X _ _ U)<|Mo q
  ·cases O
 ne:=λh tp dd its n sl X a3=>by
  obtain⟨cd,O⟩:=Ny.mp Y;refine Bool.eq_false_iff.mpr λq=>?_;have e:C=tp:=MP.inj<|beq_iff_eq.mp q;subst e;unfold DK at O;split at O
  ·rename_i Z d' a1 a2 U
   have z:=(X _ _ U).symm.trans a3;cases z
  ·cases O
 ca:=λX I k=>iU X I G k
theorem eQ(h:pD K C=cI):(DK K C).isSome=cI:=by
 unfold pD at h;simp only[Mw]at h;have:=h.1.2;cases q:DK K C with
 |none=>rw[q]at this;cases this
 |some a=>rfl
end
end DL
namespace DL
open PySem PySem.Spec PyProof.Rows L2
section
variable{X:Cx}{sc:gx}{N T:List Str}{k:Nat}{e a b c:eo}{pos p p2:e8}{f g:CO D}{fq:CO (Sk×List D)}
theorem iD(h:hM n i=cq j):D9 n i=cq j:=by
 unfold hM at h;unfold D9;split at h
 ·rename_i a;rw[UJ a.1,UJ a.2];exact h
 ·split at h
  ·rename_i a I;rw[UY ⋯,UJ ⋯];exact h
  ·cases h
theorem zu(ha:PQ X a fq)(hb:PV X b g)(hs:W7 b:=by intro _ _;rfl):PV X (.Subscript a b pos) (dj fq g):=
 qo (CK (n?.or EA) ha hb hs) λK H Q B=>by
  obtain⟨o,n,d,m,I,q⟩:=B;obtain⟨⟨l,w⟩,y,I⟩:=zf I;obtain⟨i,U,I⟩:=zf I;obtain⟨u,z,U⟩:=zf U;obtain⟨j,A,I⟩:=zf I;refine⟨o,n,l,w,m,y,λp h F e ext k G r=>⟨e,n,u,m.ext ext,z,λJ s t O f=>?_⟩⟩;rw[jW U]at f;obtain⟨x,C,E⟩:=r.get I;have Y:DI h i=cq x:=by unfold DI;rw[r.length,iD A];exact C
  have Z:=q x s t (ext.trans O)<|E.mono O.s0;cases l with
  |L=>exact .inl ⟨p,h,i,x,rfl,jT f,O.s1.seq k,Y,Z⟩
  |T=>exact .inr ⟨p,h,i,x,rfl,jT f,n6 O.s1 k,Y,Z⟩
theorem Jt{P:f9}{w:f6}{A:ij}{E:EQ}{s:d9}{t sl:dt}{items:Array dy}{O U:dy}{lo z:Option Int}{Q:EQ}(I:M7 s.heap t items)(hs:s.heap.IsSliceOf sl O U .none)(Y:De O lo)(Z:De U z)
 (hw:HT.dj items.size 0 lo=0/\HT.dj items.size items.size z=items.size) (h:Q (.ref t) s):wpAny (ef P w) A (Dn (.ref t)<|.ref sl) Q E s:=by
 obtain⟨os,a,b,f⟩:=id hs;have d:s.TypeIs (.ref sl) "slice":=⟨os,a,b⟩;unfold Dn
 try with_reducible refine NA ?_
 first|refine Mi (Mo ?_)|skip
 refine Mi (V? I.typeIs ⋯ ?_);refine Mi (MY (name:=MU "__getitem__") I.typeIs NS
  (NG NS I.typeIs entry_tuple_getitem ?_ (_X _ _)))
 show wpAny _ _ (Builtin.Tuple.tupleItemsOf (.ref t) >>= _) _ _ s;refine Mi<|SN I ?_;refine Mi<|DG d ?_;rw[UJ ⋯];refine Mi<|HT.JN hs Y Z ?_;have e:(((HT.dj items.size 0 lo:Nat):Int)==0&&(1:Int)==1&&(HT.dj items.size items.size z-HT.dj items.size 0 lo)==items.size)=cI:=by rw[hw.1,hw.2];simp
 show wpAny _ _ (if (((HT.dj items.size 0 lo:Nat):Int)==0&&(1:Int)==1&&(HT.dj items.size items.size z-HT.dj items.size 0 lo)==items.size)=cI then _ else _) _ _ s;rw[UJ e];refine Mi (m:=Ph _) ?_;unfold Ph;refine Mi<|DG I.typeIs<|Mo ?_;rw[UJ ⋯];exact Mi<|PH<|Mo ⟨_,rfl,Mo h⟩
def GO(K:Mj):V->Option Int->Option Int->Hp->VK->Prop:=λx lo d H Q=>∃a b,x=.ref a/\gR K H a b/\(HT.dj b.length 0 lo=0/\HT.dj b.length b.length d=b.length->Q (.ref a) H)/\∀p,H p=da->Q (.ref p) (upd H p<|.tup<|AB b lo d)
theorem tF:R3 X (GO X.K):=by
 intro d s t H x v Z p lo g o Q I k i O U h;obtain⟨a,b,rfl,j,m,n⟩:=h;by_cases e:HT.dj b.length 0 lo=0/\HT.dj b.length b.length g=b.length
 ·cases k
  obtain⟨f,r,Y,u⟩:=I.tuple j;have l:f.toArray.size=b.length:=by rw[Ms];exact r.length.symm
  refine⟨"tuple",_,NS.lookup,Y.typeIs,?_⟩;exact Jt Y i O U (by rw[l];exact e) ⟨.ref a,H,I,rfl,m e⟩
 ·exact BM d s t H (.ref a) v Z p lo g o Q I k i O U ⟨a,b,rfl,j,e,n⟩
theorem J3(n d:Nat)(o:Option Int):W2 n d o=HT.dj n d o:=by cases o<;>rfl
theorem mX{K:Mj}{H:Hp}{ds:List D}{xs:List V}(r:d8 K H ds xs)(lo z:Option Int):d8 K H (eM ds lo z) (AB xs lo z):=by unfold eM AB;rw[<-J3,<-J3,r.length];exact(r.drop _).take _
theorem lE{ds:List D}{lo z:Option Int}(h:HT.dj ds.length 0 lo=0/\HT.dj ds.length ds.length z=ds.length):eM ds lo z=ds:=by unfold eM;rw[J3,J3,h.1,h.2];simp
def tB(K:Mj)(f:CO (Option Int)):TO:=λg H Q=>∃d e o,RC K d H g e/\f e=cq o/\∀b a,Ext d H a b->Q o b
theorem Jo:L2.PO X da (tB X.K Wp):=λa s e H Q I ⟨b,f,o,d,O,q⟩=>ur a s e H Q I (by cases O;exact q H b<|Ext.refl d.sub)
theorem vT(h:PV X e f):L2.PO X (cq e) (tB X.K<|ro f):=λa s n H Q I ⟨k,m,o,l,O,q⟩=>uq h a s n H Q I (by
 obtain⟨i,g,U⟩:=zI O;obtain⟨d,Y,g⟩:=zf g;subst U;refine⟨k,m,d,l,Y,λv j b x r=>?_⟩;rw[jW g]at r;exact⟨i,jT r,q j b x⟩)
theorem Ki{lo z:Option eo}{Y Z:CO (Option Int)}(ha:PV X a f)(hl:L2.PO X lo (tB X.K Y))(hh:L2.PO X z (tB X.K Z)):PV X (.Subscript a (.Slice lo z da p2) pos) (aC f Y Z):=
 qo (aO tF ha hl hh) λN H Q F=>by
  obtain⟨o,h,d,g,I,q⟩:=F;obtain⟨i,B,I⟩:=zf I;obtain⟨l,C,I⟩:=zf I;obtain⟨u,E,I⟩:=zf I;refine⟨o,h,i,g,B,λv J e x r=>⟨e,h,l,g.ext x,C,λL w O=>⟨w,h,u,(g.ext x).ext O,E,λs y b=>?_⟩⟩⟩;have n:=x.trans<|O.trans b;cases i with
  | tup M=>
   cases I;obtain⟨t,G,rfl,j,U⟩:=vJ<|r.mono (O.trans b).s0;have A:=U.length;refine⟨t,G,rfl,n6 b.sub j,λm=>?_,λp k=>?_⟩
   ·rw[A]at m
    exact q _ s y n (by rw[lE m];exact xS j U)
   ·exact q _ _ _ (n.trans<|Ext.alloc b.sub k _)<|xS (gR.of zF)<|(mX U _ _).mono (jb (jy b.sub k) _)
  |_=>cases I
theorem KU{K:Mj}{H:Hp}{ds:List D}{xs:List V}(r:d8 K H ds xs):∀n:Nat,d8 K H (Mm n ds).flatten (Mm n xs).flatten
 |0=>d8.nil
 |n+1=>by rw[Ow,Ow,OY,OY];exact r.append<|KU r n
theorem vA(z:PQ X a fq)(hb:PQ X b gq):PO X (.BinOp a .Add b pos) (Jh fq gq):=
 qo (nL nR z hb) λG H Q w=>by
  obtain⟨l,k,C,h,I,q⟩:=w;obtain⟨⟨x,Z⟩,r,I⟩:=zf I;obtain⟨⟨y,e⟩,s,I⟩:=zf I;cases x<;>cases y<;>try (simp at I;done)
  dsimp only at I;by_cases U:Z.length+e.length<=lim
  ·rw[UJ U]at I;cases I
   refine⟨l,k,.L,Z,h,r,λm i A o d t E f=>⟨o,k,.L,e,h.ext d,s,λn j B ad O u F g=>⟨m,n,i,j,rfl,rfl,O.s1.seq t,u,vX (by rw[f.length,g.length];exact U),λp Y=>?_⟩⟩⟩;exact q p (i++j) _ ad (d.trans<|O.trans<|Ext.hide O.sub Y _) (yb (d.trans O).s1 Y) (jy O.sub Y) zF<|(f.mono O.s0).append g
  ·rw[UY U]at I;cases I
theorem Kn(z:PO X a gn)(hb:PV X b g):PO X (.BinOp a .Mult b pos) (KQ (jH gn) g):=
 qo (nL CY z hb) λM H Q x=>by
  obtain⟨m,l,E,k,I,q⟩:=x;obtain⟨⟨J,f⟩,d,I⟩:=zf I;obtain⟨C,t,d⟩:=zI d;cases d;obtain⟨j,Y,I⟩:=zf I;obtain⟨s,u,Y⟩:=zf Y;dsimp only at I;by_cases U:f.length*j.toNat<=lim/\inR j=cI
  ·rw[UJ U]at I;cases I
   refine⟨m,l,f,k,t,λn y A o e F G w h=>⟨o,l,s,k.ext e,u,λv B r O i=>?_⟩⟩;rw[jW Y]at i;obtain⟨K,L⟩:=Xl U.2;refine⟨n,j,y,rfl,jT i,O.s1 _ _ w,⋯,⋯,vX (by rw[h.length];exact U.1),λp Z=>?_⟩;exact q p _ _ r (e.trans<|O.trans<|Ext.hide O.sub Z _) (yb (e.trans O).s1 Z) (jy O.sub Z) zF<|(KU h _).mono O.s0
  ·rw[UY U]at I;cases I
theorem Es{K:Mj}{t c:String}{b:Bool}(h:(if ((Oc t) ==.type c)=cI then cq cI else if PySem.W.kitMeta c=cI then (fastBuiltinMro t).map (·.contains (.type c))else da)=cq b):NT K (.type t) (.type c)=cq b:=h
def M1:Ty->String
 |.int=>"int"
 |.bool=>"bool"
 |.str=>"str"
 |.tuple=>"tuple"
 |.list=>"list"
def Et:D->String
 |.ej=>"NoneType"
 |.bl _=>"bool"
 |.int _=>"int"
 |.str _=>"str"
 |.tup _=>"tuple"
 |.lst _=>"list"
 |.exc _ _=>""
 |.n4 _ _=>"dict"
 |.o3 _ _=>"dict"
 |.ins _ _ _=>""
theorem Vs{K:Mj}(T:Ty)(d:D)(hx:∀c n,d ≠ .exc c n)(I:∀c p t,d ≠ .ins c p t:=by intro _ _ _ z;exact nomatch z):NT K (.type<|Et d) (.type<|M1 T)=cq (rJ T d):=by cases d<;>cases T<;>first|exact absurd rfl (hx _ _)|exact absurd rfl (I _ _ _)|(dsimp only[Et,M1,rJ,rP,EC,rL,rK,rO];exact Es ⋯)
theorem Ag{K:Mj}{C:dt}(b:VA K C=cI):P4 K C:=by unfold VA at b;simp only[Mw,beq_iff_eq]at b;exact⟨b.1,b.2.1,b.2.2.1,b.2.2.2.1⟩
theorem EE{K:Mj}{H:Hp}{a C z:dt}{fs:List (Str×V)}(b:VA K C=cI)(e:H a=cq (.ins C z fs)):wa K H (.ref a) (.ref C):=by have c:=Ag b;unfold VA at b;simp only[Mw,beq_iff_eq]at b;obtain⟨_,_,_,_,d,f,g,h,_⟩:=b;exact .ins e c d f g h
theorem Ac{K:Mj}{C:dt}{c:Str}{p t:D}(b:VA K C=cI)(T:Ty):NT K (.ref C) (.type<|M1 T)=cq (rJ T<|.ins c p t):=by
 unfold VA at b;simp only[Mw,beq_iff_eq,RE,List.all_nil]at b;obtain⟨_,_,_,_,_,_,_,_,a,d,e,f,g,_⟩:=b;cases T
 ·exact a
 ·exact d
 ·exact e
 ·exact f
 ·exact g
theorem ou{pins:UQ}{σ:St}{H0 H:Hp}{s:d9}{A:ij}{E:EQ}{Q:EQ}{d:D}{x:V}{u:dy}(I:Inv X pins σ H s)(sub:gm H0 H)(rx:RelV x u)(r:Rep X.K H0 d x)(T:Ty)
 (h:∀tk,Q (.bool (rJ T d)) {s with toks:=tk}):wpAny (ef X.prog X.w) A (call (.builtin "isinstance") [u,.type (M1 T)]) Q E s:=by
 cases d with
 |ej=>have e:=Vs (K:=X.K) T .ej<|λ_ _ z=>nomatch z;cases (show x=.ej from r);cases (show u=NI from rx);exact Nd PySem.W.kitx_none I.iv OK e (λz=>nomatch z) h
 |bl y=>have e:=Vs (K:=X.K) T (.bl y)<|λ_ _ z=>nomatch z;cases (show x=.bl y from r);cases (show u=Value.bool y from rx);exact Nd PySem.W.kitx_bool I.iv OK e (λz=>nomatch z) h
 |int i=>have e:=Vs (K:=X.K) T (.int i)<|λ_ _ z=>nomatch z;cases (show x=.int i from r);obtain⟨t,q⟩:=(show ∃t,u=Sn i t from rx);cases q;exact Nd PySem.W.kitx_int I.iv OK e (λz=>nomatch z) h
 |str y=>have e:=Vs (K:=X.K) T (.str y)<|λ_ _ z=>nomatch z;cases (show x=.str y from r);obtain⟨t,q⟩:=(show ∃t,u=Ts y t from rx);cases q;exact Nd PySem.W.kitx_str I.iv OK e (λz=>nomatch z) h
 |tup l=>
  have e:=Vs (K:=X.K) T (.tup l)<|λ_ _ z=>nomatch z;obtain⟨a,f,rfl,b,O⟩:=vJ r;cases (show u=MP a from rx);obtain⟨m,N,⟨o,U,Y,_⟩,L⟩:=I.tuple<|n6 sub b;exact Nd PySem.W.kitx_tuple I.iv ⟨o,U,Y⟩ e (λz=>nomatch z) h
 |lst l=>
  have e:=Vs (K:=X.K) T (.lst l)<|λ_ _ z=>nomatch z;obtain⟨a,f,rfl,b,O⟩:=hV r;cases (show u=MP a from rx);obtain⟨m,N,p,L⟩:=I.list<|sub.seq b;obtain⟨o,U,Y,_⟩:=p.isList;exact Nd Tu I.iv ⟨o,U,Y⟩ e (λz=>nomatch z) h
 | exc c n=>
  obtain⟨a,rfl,Z⟩:=(show ∃a,x=.ref a/\y6 X.K H0 c n a from r);cases (show u=MP a from rx);obtain⟨C,P,g1,g2,g3,_⟩:=Z.ex;obtain⟨S,_,k,_,_⟩:=Jc Z.all Z.mem g1;obtain⟨p,_,_⟩:=(show ir X.prog X.w H s.heap a (.ext P)from I.eH a _<|sub _ _ g2);have e:NT X.K (.ref C) (.type<|M1 T)=cq (rJ T<|.exc c n):=by
   unfold pD at k;simp only[Mw,RE,List.all_nil,beq_iff_eq]at k;have t:=k.1.1.1.1.1.1.1.1.1.1;cases T
   ·exact t.1
   ·exact t.2.1
   ·exact t.2.2.1
   ·exact t.2.2.2.1
   ·exact t.2.2.2.2.1
  exact Nd (ba (Wg k)<|eQ k) I.iv (g3 _ p) e (λz=>nomatch z) h
 |n4 g j=>
  have e:=Vs (K:=X.K) T (.n4 g j)<|λ_ _ z=>nomatch z;obtain⟨a,f,rfl,⟨M,_,_,o,b⟩,_⟩:=(show ∃a f,x=.ref a/\DY H0 a g f/\d8 X.K H0 j f from r);cases (show u=MP a from rx);obtain⟨_,_,_,_,_,J⟩:=(show ir X.prog X.w H s.heap a (.rn o<|.dK<|M.zip f)from I.eH a _<|sub _ _ b);exact Nd RU I.iv J.typeIs e (λz=>nomatch z) h
 |o3 g j=>
  have e:=Vs (K:=X.K) T (.o3 g j)<|λ_ _ z=>nomatch z;obtain⟨a,f,rfl,⟨_,o,R,b,O,_⟩,_⟩:=(show ∃a f,x=.ref a/\P5 X.K H0 a g f/\d8 X.K H0 j f from r);cases (show u=MP a from rx);obtain⟨U,_⟩:=(show ir X.prog X.w H s.heap a (v_ a o)from I.eH a _<|sub _ _ b);exact Nd RU I.iv ⟨o,U,O.1.1⟩ e (λz=>nomatch z) h
 |ins c p t=>
  obtain⟨a,C,G,B,F,rfl,b,O,_,_⟩:=(show ∃a C G B F,x=.ref a/\K3 X.K c=cq C/\H0 a=cq (.ins C G<|S3 B F)/\Rep X.K H0 p B/\Rep X.K H0 t F from r);exact iE I rx (EE (bj b)<|sub _ _ O) (Ac (bj b) T) h
theorem ua(T:Ty)(h:SX X sc N L k)(c:kz sc "isinstance" = cI)(z:X.mg "isinstance" = da)(O:kz sc ty=cI)(Z:X.mg ty=da)(hb:B3 ty=cq (.type (M1 T)))(ha:PV X a f)
 (hs:eJ [a,.Name ty p2] X.env=[(di,eh a X.env),(di,eh (.Name ty p2) X.env)]:=by rfl):PV X (.Call (.Name "isinstance" p) [a,.Name ty p2] [] pos) (DT T f):=by
 intro e s G H Q I ⟨i,F,d,A,t,q⟩;obtain⟨Y,n,o⟩:=zI t;subst o;refine Ob<|xQ I (h.gl c).1 z Ri ?_ ⋯ ⋯;refine OO ?_ (by rw[hs];rfl) rfl;rw[hs];show wpAny _ _ (B9 ((di,eh a X.env)::n0 pos [(di,eh (.Name ty p2) X.env)])) _ _ s;refine NQ<|fe (ha e s G H _ I ⟨i,F,Y,A,n,λv g b x r=>(show(λv g=>∃b,Ext i H b g/\Rep X.K b Y v) v g from⟨b,x,r⟩)⟩) λu C w=>?_;obtain⟨x,j,U,y,m,l,B⟩:=w;show wpAny _ _ (B9 ((di,eh (.Name ty p2) X.env)::[])) _ _ C;refine NQ<|xQ U (h.gl O).1 Z hb ?_ (h.gl O).2.1 (h.gl O).2.2;refine OV ?_;exact ou U l.sub y B T λE=>⟨.bl _,j,U.tok E,rfl,q _ j m l rfl⟩
end
section
variable{X:Cx}{sc:gx}{N L:List Str}{k:Nat}{e a b c:eo}{pos p p2:e8}{f g:CO D}{fq:CO (Sk×List D)}
theorem j5(h:SX X sc N L k)(c:kz sc "range" = cI)(z:X.mg "range" = da)(I:PV X a f)(hs:eJ [a] X.env=[(di,eh a X.env)]:=by rfl):i6 X tg (.Call (.Name "range" p) [a] [] pos) (jS f):=cY (h.gl c).1 z I hs
theorem nH(h:SX X sc N L k)(c:kz sc "range" = cI)(z:X.mg "range" = da)(Y:PV X a f)(I:PV X b g)(hs:eJ [a,b] X.env=[(di,eh a X.env),(di,eh b X.env)]:=by rfl)(O:eJ [b] X.env=[(di,eh b X.env)]:=by rfl):
 i6 X tg (.Call (.Name "range" p) [a,b] [] pos) (Wo f g):=cX (h.gl c).1 z Y I hs O
theorem vR(h:SX X sc N L k)(c:kz sc "zip" = cI)(z:X.mg "zip" = da)(Y:PV X a f)(I:PV X b g)(hs:eJ [a,b] X.env=[(di,eh a X.env),(di,eh b X.env)]:=by rfl)(O:eJ [b] X.env=[(di,eh b X.env)]:=by rfl):
 i6 X (.Tuple elts x1 lC) (.Call (.Name "zip" p) [a,b] [] pos) (YE f g):=uy (h.gl c).1 z Y I hs O
theorem gi(h:SX X sc N L k)(c:kz sc "isinstance" = cI)(z:X.mg "isinstance" = da)(I:kz sc "int" = cI)(O:X.mg "int" = da)(Y:PV X a f)
 (hs:eJ [a,.Name "int" p2] X.env=[(di,eh a X.env),(di,eh (.Name "int" p2) X.env)]:=by rfl):PV X (.Call (.Name "isinstance" p) [a,.Name "int" p2] [] pos) (DT .int f):=ua .int h c z I O PyProof.Rows.boot_int Y hs
theorem cR(h:SX X sc N L k)(c:kz sc "isinstance" = cI)(z:X.mg "isinstance" = da)(I:kz sc "bool" = cI)(O:X.mg "bool" = da)(Y:PV X a f)
 (hs:eJ [a,.Name "bool" p2] X.env=[(di,eh a X.env),(di,eh (.Name "bool" p2) X.env)]:=by rfl):PV X (.Call (.Name "isinstance" p) [a,.Name "bool" p2] [] pos) (DT .bool f):=ua .bool h c z I O PyProof.Rows.boot_bool Y hs
theorem Ww(h:SX X sc N L k)(c:kz sc "isinstance" = cI)(z:X.mg "isinstance" = da)(I:kz sc "tuple" = cI)(O:X.mg "tuple" = da)(Y:PV X a f)
 (hs:eJ [a,.Name "tuple" p2] X.env=[(di,eh a X.env),(di,eh (.Name "tuple" p2) X.env)]:=by rfl):PV X (.Call (.Name "isinstance" p) [a,.Name "tuple" p2] [] pos) (DT .tuple f):=ua .tuple h c z I O PyProof.Rows.boot_tuple Y hs
theorem nq(z:PQ X a fq)(O:∀I,D8 a X.env I=(do let v<-I;E8 a.pos;C7 [v] (Pt v)):=by intro _;rfl):l5 X a (BR fq):=
 Wx (nt z O) λo H Q U=>by
  obtain⟨j,m,t,l,Y,q⟩:=U;obtain⟨⟨h,b⟩,k,Z⟩:=zI Y;subst Z;refine⟨j,m,h,b,l,k,λp d i f ext g n r=>⟨!b.isEmpty,?_,q i f ext⟩⟩;have e:d.isEmpty=b.isEmpty:=by have:=r.length;cases d<;>cases b<;>simp_all
  rw[<-e];cases h with
  |L=>exact .inl ⟨d,g,rfl⟩
  |T=>exact .inr<|.inl ⟨d,g,rfl⟩
theorem gc(z:PV X a f):PV X (.UnaryOp .USub a pos) (mV f):=
 qo (Hc Bx z) λl H Q I=>by obtain⟨h,k,d,j,O,q⟩:=I;obtain⟨i,e,U⟩:=zI O;obtain⟨Y,Z,e⟩:=zf e;subst U;refine⟨h,k,Y,j,Z,λv g b x r=>?_⟩;rw[jW e]at r;exact⟨i,jT r,q _ g b x rfl⟩
theorem vQ(i:Nat)(h:SX X sc N L k)(c:kY sc N i x=cI)(z:PV X a f)(hs:eJ [a] X.env=[(di,eh a X.env)]:=by rfl)
 (I:DJ (.Name x np) "append" X.env (eh (.Name x np) X.env)=eh (.Name x np) X.env:=by rfl)
 (O:((n0 cpos<|starEach [a] X.env).all (λx=> !x.1)&&(N5 cpos<|keywordEach [] X.env).all (λx=>x.1.isSome)
   &&decide ([a].length+([]:List A7).length+(if ([]:List A7).isEmpty then 0 else 1)<30))=cI:=by rfl)
 (U:(apos.endLine==cpos.line)=cI:=by rfl) (Y:qq (.Call (.Attribute (.Name x np) "append" apos) [a] [] cpos) da pos.line X.env=pure di:=by rfl):
 l0 X (.Expr (.Call (.Attribute (.Name x np) "append" apos) [a] [] cpos) pos) (yC i f):=
 cU i (gM PM PySem.F.slot_list_append PySem.F.type_list_append hJ (h.var c) (jq z qp hs) I O U hs rfl) Y
theorem jx(i:Nat){st:gB}{f:CO (List D)}(h:PS X st (az (tO X.K f)<|v7 i)):l0 X st (jG i<|jU f):=yZ h λD t H Y=>by obtain⟨E0,E,e,n,p,I,O,Z⟩:=Y;obtain⟨d,b,O⟩:=zI O;obtain⟨j,k,b⟩:=zI b;subst O b;exact⟨e,n,j,I.rc,k,λa s o g x l U m r=>Z _ _ _<|(I.step<|x.show l U m I.rc.sub).z8 (Wu (gE.of zF)<|r.mono<|jb U _)⟩
theorem x?(i:Nat)(h:SX X sc N L k)(c:yk sc N L i y=cI)
 (I:X.calm=cI) (ok:vu X scope fr) (O:∀i∈T.idx,i<own.length) (hi:yr X tg iter src) (U:∀fp s2 z,PG (jP X scope (own++fr.map (·.1)) fp s2 z) tg<|t7 X.K T)
 (Y:∀fp s2 z,PV (jP X scope (own++fr.map (·.1)) fp s2 z) elt f) (hs:∀x,tf iter X.env x=pure x:=by intro _;rfl):
 PS X (.Assign [.Name y py] (.ListComp elt [⟨tg,iter,[],0⟩] scope cpos) spos) (az (tO X.K<|zV src T own.length (fr.map (·.2)) jO f)<|v7 i):=by
 obtain⟨a,Z,b⟩:=h.loc c;exact nD h.E7 a Z b I ok O hi U Y hs
theorem GY(i:Nat)(h:SX X sc N L k)(c:yk sc N L i y=cI)
 (I:X.calm=cI) (ok:vu X scope fr) (O:∀i∈T.idx,i<own.length) (hi:yr X tg iter src) (U:∀fp s2 z,PG (jP X scope (own++fr.map (·.1)) fp s2 z) tg<|t7 X.K T)
 (Y:∀fp s2 z,l5 (jP X scope (own++fr.map (·.1)) fp s2 z) H9 kk) (Z:∀fp s2 z,PV (jP X scope (own++fr.map (·.1)) fp s2 z) elt f) (hs:∀x,tf iter X.env x=pure x:=by intro _;rfl):
 PS X (.Assign [.Name y py] (.ListComp elt [⟨tg,iter,[H9],0⟩] scope cpos) spos) (az (tO X.K<|zV src T own.length (fr.map (·.2)) kk f)<|v7 i):=by
 obtain⟨a,b,d⟩:=h.loc c;exact cV h.E7 a b d I ok O hi U Y Z hs
theorem Y7(i:Nat)(h:SX X sc N L k)(c:kY sc N i x=cI)(hi:PV X b g)(he:PV X e f)
 (ha:∀v,C6 (.Subscript (.Name x np) b p) X.env v=(do
   let O<-C7 [v] (eh (.Name x np) X.env);let Z<-C7 [v,O] (eh b X.env)
   E8 p
   C7 [v,O,Z] (setItem O Z v)
   release [v,O,Z] []):=by intro _;rfl)
 (hs:U9 [.Subscript (.Name x np) b p] e pos.line X.env=pure di:=by rfl) (hw:Y' [.Subscript (.Name x np) b p] e X.env=pure da:=by rfl)
 (z:(Dh [.Subscript (.Name x np) b p] X.env).map (·.2)=[C6 (.Subscript (.Name x np) b p) X.env]:=by rfl):
 l0 X (.Assign [.Subscript (.Name x np) b p] e pos) (fP i g f):=
 yZ (gz he (CC (h.var c) hi mT ha) hs hw z) λD σ H P=>by obtain⟨E0,E,w,u,T,t,I,y⟩:=P;obtain⟨d,G,I⟩:=zf I;obtain⟨F,U,I⟩:=zf I;obtain⟨Q,n,I⟩:=zf I;obtain⟨C,J,n⟩:=zf n;obtain⟨j,K,I⟩:=zI I;subst I;have U:=xp U;refine⟨w,u,d,t.rc,G,λv R l x r=>?_⟩;have m:=t.step x;obtain⟨a,xs,z,W,M,o⟩:=m.rc.own i F U;refine⟨_,z,l,u,C,m.rc,J,λv2 S A Y s=>?_⟩;rw[jW n]at s;have B:=m.step Y;refine⟨a,xs,Q,j,rfl,jT s,Y.s1 _ _ M,by rw[o.length];exact iD K,?_⟩;exact y _ _ A<|B.rewrite (xs:=xs) U z<|(o.mono Y.s0).set j (r.mono Y.s0)
theorem wH(U:PG X tg (t7 X.K T))(Y:PV X e f)(hs:U9 [tg] e pos.line X.env=pure di:=by rfl)(hw:Y' [tg] e X.env=pure da:=by rfl)
 (z:(Dh [tg] X.env).map (·.2)=[C6 tg X.env]:=by rfl):l0 X (.Assign [tg] e pos) (KP T f):=
 yZ (gz Y U hs hw z) λD o H Z=>by obtain⟨E0,E,h,l,n,O,I,i⟩:=Z;obtain⟨d,j,I⟩:=zf I;obtain⟨m,k,I⟩:=zI I;subst I;refine⟨h,l,d,O.rc,j,λv g a x r=>?_⟩;exact ZT x.sub r k λb _ a4=>i b g a<|a4 E0 E<|O.step x
end
structure fy(P:f9)(w:f6)(K:Mj)(mg:UZ)(base:et)(k:Nat)(x:Str)(n:Nat)(F:List D->Option Res):Prop where
 ex:∃(f:dt) (fd:q7) (ps:List Str),ps.length=n/\q5 P w K mg base sa k f fd ps (t9 K ps.length F)/\mg x=cq (.ref f)/\OB K (.ref f)=cI/\Binds K fd ps []
structure fA(K:Mj)(mg:UZ)(x:Str)(st:gB)(ps:List Str):Prop where
 ex:∃(f:dt) (fd:q7),L2.A5 K x x st f fd/\(∀us:List dy,us.length=ps.length->R6 fd ⟨us,[]⟩=pure (ps.zip us))/\mg x=cq (.ref f)
def sh(X:Cx)(es:List eo)(n:Nat)(g:CO (List D)):Prop:=Df X es g/\∀b a,g b=cq a->a.length=n
section
variable{X:Cx}{sc:gx}{N L:List Str}{k:Nat}{e:eo}{es:List eo}{f:CO D}{g:CO (List D)}{n:Nat}{pos p:e8}{x:Str}
theorem zo:sh X [] 0 zB:=⟨uE,λb a h=>by cases h;rfl⟩
theorem za(z:PV X e f)(I:sh X es n g)(hs:eJ (e::es) X.env=(di,eh e X.env)::eJ es X.env:=by rfl):sh X (e::es) (n+1) (zb f g):=
 ⟨nP z I.1 hs,λa b h=>by obtain⟨y,d,h⟩:=zf h;obtain⟨r,O,h⟩:=zI h;subst h;rw[NB,I.2 a r O]⟩
variable{j:Nat}{F:List D->Option Res}
theorem GV(hf:fy X.prog X.w X.K X.mg X.base j x n F)(I:j<=k)(h:SX X sc N L k)(c:kz sc x=cI)(z:sh X (e::es) n g)
 (O:eJ (e::es) X.env=(di,eh e X.env)::eJ es X.env:=by rfl) (U:(n0 pos<|starEach es X.env).any (·.1)=di:=by rfl):PV X (.Call (.Name x p) (e::es) [] pos) (zD F g):=by
 obtain⟨f,i,l,d,G,b,Y,Z⟩:=hf.ex;subst d;exact ud (A0:=[]) G z.1 z.2 λ{t} a=>gL G (h.room.mono I) (h.gl c).1 b Y Z .nil CS a (h.gl c).2.2 O U
theorem Ha(hf:fy X.prog X.w X.K X.mg X.base j x n F)(I:j<=k)(h:SX X sc N L k)(c:kz sc x=cI)(z:sh X (e::es) n g)
 (O:eJ (e::es) X.env=(di,eh e X.env)::eJ es X.env:=by rfl) (U:(n0 pos<|starEach es X.env).any (·.1)=di:=by rfl):PO X (.Call (.Name x p) (e::es) [] pos) (jf F g):=by
 obtain⟨f,i,l,d,G,b,Y,Z⟩:=hf.ex;subst d;exact uw G z.1 z.2 λ{t} a=>gL G (h.room.mono I) (h.gl c).1 b Y Z .nil CS a (h.gl c).2.2 O U
end
section
variable{P:f9}{w:f6}{K:Mj}{mg:UZ}{base:et}
def X9(N ps:List Str)(st:gB):Bool:=
 decide ((z9 st).kind=.function)&&decide ((z9 st).isCoroutine=di)&&decide ((z9 st).isGenerator=di)&&decide N.Nodup&&decide (N.take ps.length=ps)&&
 ps.all (λx=>decide ((z9 st).names.lookup x=cq .local) || decide ((z9 st).names.lookup x=cq .cell))&&(z9 st).names.all (λy=> !(y.2==MZ))
theorem wF{N ps:List Str}{st:gB}(h:X9 N ps st=cI):M5 N ps (z9 st):=by unfold X9 at h;simp only[Mw,decide_eq_true_eq,NV,NU,Oe]at h;obtain⟨⟨⟨⟨⟨⟨a,I⟩,O⟩,U⟩,Y⟩,Z⟩,b⟩:=h;exact⟨a,I,O,U,Y,Z,λy d e=>by have:=b y d;rw[e]at this;exact absurd this ⋯⟩
theorem CQ{X:Cx}(hx:X.xe=λ_ _=>False):Uz (ef X.prog X.w) X.A X.env X.xe:=by rw[hx];exact PassesOwn.never
theorem LQ{x:Str}{st:gB}{N ps:List Str}{k:Nat}{F:CO Fl}(A:fA K mg x st ps)(z:X9 N ps st=cI)
 (O:∀X:Cx,X.prog=P->X.w=w->X.K=K->X.mg=mg->X.base=base->SX X (z9 st) N N k->X.xe=(λ_ _=>False)->W8 X (qF st) F):
 fy P w K mg base (k+1) x ps.length (jv N.length F):=by
 obtain⟨f,d,I,U,e⟩:=A.ex;have S:=wF z;refine⟨f,d,ps,rfl,Ao I S λb A a s H E Y=>?_,e,I.kp,.all U⟩;exact O _ rfl rfl rfl rfl rfl ⟨rfl,rfl,S.nd,rfl,Y,λ_ _=>.inl rfl⟩ rfl
theorem IT{h:et}{x:Str}{st:gB}{ps:List Str}{f:dt}{oc:dy}{od Y:Option dt}{DQ:Array (Option dy)}{kV O Z z ct:dy}(I:K.In h)(G:h.Ns pa mg)
 (a:Py K pa x=cq (cq (.ref f))) (l:K.lookup f=cq ⟨oc,od,.func<|OW x x (wg st) (qF st) (z9 st) .none kV O Z Y z ct,DQ⟩)
 (c:RR K z x=cI) (kp:OB K (.ref f)=cI)
 (b:∀(kV O Z:dy) (Y:Option dt) (z ct:dy) (us:List dy),us.length=ps.length->R6 (OW x x (wg st) (qF st) (z9 st) .none kV O Z Y z ct) ⟨us,[]⟩=pure (ps.zip us)):fA K mg x st ps:=
 ⟨f,_,rQ l c kp,b kV O Z Y z ct,So I G a⟩
theorem Hy{x:Str}{st:gB}{f:dt}{z:q7}{N ps:List Str}{k:Nat}{F:CO Fl}(I:L2.A5 K x x st f z)(Y:X9 N ps st=cI)
 (O:∀X:Cx,X.prog=P->X.w=w->X.K=K->X.mg=mg->X.base=base->SX X (z9 st) N N k->X.xe=(λ_ _=>False)->W8 X (qF st) F):
 q5 P w K mg base sa (k+1) f z ps (t9 K ps.length<|jv N.length F):=by
 have S:=wF Y;exact Ao I S λb A a s H E U=>O _ rfl rfl rfl rfl rfl ⟨rfl,rfl,S.nd,rfl,U,λ_ _=>.inl rfl⟩ rfl
theorem FP{F:List D->Option Res}{H:Hp}{a:dt}{ns:List Int}(I:gE K H a (ns.map V.int))(O:F [.lst (ns.map D.int)]=cq (.val<|.bl cI)):
 t9 K 1 F [.ref a] H (λv _=>v=.bl cI) λ_ _ _=>False:=by
 refine⟨H,[.lst (ns.map D.int)],.val<|.bl cI,gm.refl _,d8.cons (Wu I ?_) d8.nil,rfl,O,λv d b _ r=>r⟩;clear O I
 induction ns with
 |nil=>exact d8.nil
 |cons n ns U=>exact d8.cons rfl U
end
end DL
namespace DL
open PySem PySem.Spec PyProof.Rows L2
open PySem.W (KasT kas_sort kas_ask kat_run kat_snds kat_lt kat_cons kat_no kat_kind KatTups KatGo)
def Fm(h:et)(v:dy)(k:Int):Prop:=∃x o a m t,v=.ref x/\h.get? x=cq o/\o.cls=.type "tuple"/\o.data=.seq a m/\a[0]? = cq (.int k t)
theorem rG:∀{vs:List dy} {ks:Nat->Int},(∀i (z:i<vs.length),Fm h vs[i] (ks i))->∃fs,KatTups h vs fs/\fs.length=vs.length/\∀f∈fs,∃k t,f=Sn k t
 |[],ks,_=>⟨[],KatTups.nil,rfl,λf hf=>by cases hf⟩
 | v::vs,ks,H=>by
  obtain⟨fs,d,I,O⟩:=rG (vs:=vs) (ks:=λi=>ks<|i+1) λi z=>H (i+1) (by simpa using z);obtain⟨x,o,e,m,t,a,U,Y,Z,b⟩:=H 0 ⋯;have a:v=.ref x:=a;subst a;exact⟨.int (ks 0) t::fs,KatTups.cons U Y Z b d,by simp[I],λf hf=>by
   rcases Mr.mp hf with rfl|hf
   ·exact⟨_,_,rfl⟩
   ·exact O f hf⟩
end DL
namespace DL
open PySem PySem.Spec PyProof.Rows L2
open AutoSeq1 (wpAny_loadPart')
theorem JS:fillsNumberSlot (.type "tuple") "mul" = pure di:=
 PySem.fillsNumberSlot_seq (id:="tuple.__mul__") (r:=cq (.builtin "tuple.__rmul__")) RJ.lookup ⋯ F.slot_tuple_rmul.lookup ⋯
theorem Y3:seqRepeat? (.type "tuple")=pure (cq (.builtin "tuple.__mul__")):=by unfold seqRepeat?;rw[PySem.seqSlot_of (T:="tuple") (name:="__mul__") (id:="tuple.__mul__") RJ.lookup ⋯,PySem.seqSlot_of (T:="tuple") (name:="__rmul__") (id:="tuple.__rmul__") F.slot_tuple_rmul.lookup ⋯];rfl
theorem X6(a:Int)(t:o6)(l:dt)(items:Array dy)(n:Nat)(dd:Option dt)(z:Array (Option dy)):
 DZ (Builtin.«int.__rmul__» ⟨[.int a t,.ref l],[]⟩) (λ_ R s=>s.heap.get? l=cq {cls:=.type "tuple",dict:=dd,data:=.seq items n,slots:=z}/\R (.ok (.ret Value.notImplemented)) s):=
 .of_wp λb w A R s h=>by obtain⟨I,g,d,e,os⟩:=s;obtain⟨O,h⟩:=h;wp_walk;exact⟨_,rfl,h⟩
theorem KJ(a:Int)(t:o6)(l:dt)(items:Array dy)(n:Nat)(dd:Option dt)(sl:Array (Option dy))(z:¬(decide (a < -(2^63)) || decide (a>=2^63))=cI)(O:¬(items.isEmpty || a==1)=cI)
 (U:¬(decide (a<=0) || items.isEmpty)=cI) (Y:¬((items.size:Int)*a>(2^63-1)/8)) (Z:¬Builtin.Tuple.tupleTooMany ((items.size:Int)*a)=cI) (hz:((Mm a.toNat items).foldl (· ++ ·) #[]).size<=fh):
 DZ (Builtin.«tuple.__mul__» ⟨[.ref l,.int a t],[]⟩) (λ_ R s=>s.heap.get? l=cq {cls:=.type "tuple",dict:=dd,data:=.seq items n,slots:=sl}/\
  R (.ok (.ret (.ref s.heap.objs.size))) {s with heap:=s.heap.push {cls:=.type "tuple",data:=.seq ((Mm a.toNat items).foldl (· ++ ·) #[])}}):=
 .of_wp λb w A R s h=>by
  obtain⟨e,g,d,f,os⟩:=s;obtain⟨I,h⟩:=h
  wp_walk using OA I
  rw[UY z];refine Mi<|SN (s:=⟨e,g,d,f,os⟩) ⟨_,I,rfl,n,rfl⟩ ?_;dsimp only;rw[UY O,UY U,UY Y,UY Z];refine Mi (m:=Ov _)<|NY ?_ hz;exact Mo ⟨_,rfl,h⟩
theorem XQ(a:Int)(t:o6)(l:dt)(items:Array dy)(n:Nat)(dd:Option dt)(Z:Array (Option dy))(z:¬(decide (a < -(2^63)) || decide (a>=2^63))=cI)(O:¬(items.isEmpty || a==1)=cI)
 (U:(decide (a<=0) || items.isEmpty)=cI):
 DZ (Builtin.«tuple.__mul__» ⟨[.ref l,.int a t],[]⟩) (λ_ R s=>s.heap.get? l=cq {cls:=.type "tuple",dict:=dd,data:=.seq items n,slots:=Z}/\
  R (.ok (.ret (.ref s.heap.objs.size))) {s with heap:=s.heap.push {cls:=.type "tuple",data:=.seq #[]}}):=
 .of_wp λb w A R s h=>by
  obtain⟨Y,g,d,e,os⟩:=s;obtain⟨I,h⟩:=h
  wp_walk using OA I
  rw[UY z];refine Mi<|SN (s:=⟨Y,g,d,e,os⟩) ⟨_,I,rfl,n,rfl⟩ ?_;dsimp only;rw[UY O,UJ U];refine Mi (m:=Ov _)<|NY ?_ (NJ _);exact Mo ⟨_,rfl,h⟩
theorem XO(a:Int)(t:o6)(l:dt)(items:Array dy)(n:Nat)(dd:Option dt)(Y:Array (Option dy))(z:¬(decide (a < -(2^63)) || decide (a>=2^63))=cI)(O:(items.isEmpty || a==1)=cI):
 DZ (Builtin.«tuple.__mul__» ⟨[.ref l,.int a t],[]⟩) (λ_ R s=>s.heap.get? l=cq {cls:=.type "tuple",dict:=dd,data:=.seq items n,slots:=Y}/\R (.ok (.ret (.ref l))) s):=
 .of_wp λb w A R s h=>by
  obtain⟨U,g,d,e,os⟩:=s;obtain⟨I,h⟩:=h
  wp_walk using OA I
  rw[UY z];refine Mi (SN (s:=⟨U,g,d,e,os⟩) ⟨_,I,rfl,n,rfl⟩ ?_);dsimp only;rw[UJ O];refine Mi (m:=Ph _) ?_;unfold Ph;refine Mi (DG (T:="tuple") ⟨_,I,rfl⟩ (Mo ?_));rw[UJ ⋯];exact Mi (PH (Mo ⟨_,rfl,h⟩))
section
variable{X:Cx}
def Cd(K:Mj):R2:=λx y H Q=>∃l k a,x=.ref l/\y=.int k/\gR K H l a/\ -(2^62)<=k/\k<2^62/\a.length*k.toNat<=fh/\(a=[]\/k=1->Q (.ref l) H)/\
 ∀p,H p=da->Q (.ref p) (upd H p<|.tup (Mm k.toNat a).flatten)
theorem uG:jl X (wb .Mult) (Cd X.K):=by
 intro G s σ H x y v u Q I rx ry h;obtain⟨l,k,L,rfl,rfl,P,h1,h2,E,W,J⟩:=h;cases rx;obtain⟨t,rfl⟩:=ry;obtain⟨a,r,R,z1⟩:=I.tuple P;obtain⟨⟨N,b,w,d⟩,O,A,n,B⟩:=id R;simp only at A B;subst A B;have ad:=r.length;have Z:¬(decide (k < -(2^63)) || decide (k>=2^63))=cI:=by simp;lia
 refine N? (T:="tuple") (U:="int") ⋯ ⟨_,O,rfl⟩ (λs'=>Ul s' k t) JS F.fills_int_mul Tf Y3 F.slot_int_index.lookup
  (Pn Tf (Ul s k t) F.entry_int_rmul (F.args_int_rmul_2 _ _) (X6 k t l a.toArray n b d) ⟨O,rfl,⟨_,O,rfl⟩,?_⟩)
 have z:∀m:Nat,TQ (λj p=>j++p) #[] (Mm m a.toArray)=(Mm m a).flatten.toArray:=λm=>by have:=Xo a m [];rw[RL]at this;exact this
 by_cases g2:(a.toArray.isEmpty || k==1)=cI
 ·refine Pn RJ ⟨_,O,rfl⟩ Ue (TY _ _) (XO k t l a.toArray n b d Z g2) ⟨O,⟨.ref l,H,I,rfl,W ?_⟩⟩
  rw[NU]at g2;rcases g2 with g|g
  ·left
   have:a=[]:=by simpa using g
   exact(r.S9).mp this
  ·right;simpa using g
 ·have f:=g2
  simp only[NU,not_or]at f;have an:a ≠ []:=by intro e;exact f.1 (by rw[e];rfl)
  by_cases Y:(decide (k<=0) || a.toArray.isEmpty)=cI
  ·have C:k.toNat=0:=by
    rw[NU]at Y;rcases Y with g|g
    ·have:=of_decide_eq_true g;lia
    ·exact absurd g f.1
   refine Pn RJ ⟨_,O,rfl⟩ Ue (TY _ _) (XQ k t l a.toArray n b d Z g2 Y) ⟨O,?_⟩;refine⟨.ref s.heap.objs.size,_,I.laid (t':=s.toks) (o:=.tup (Mm k.toNat L).flatten) (λc S q=>Mk _ q) (Mq _) ?_,rfl,J _<|I.eH.fresh<|Mq _⟩;rw[C];exact⟨NJ _,[],.nil,A6.new _ _⟩
  ·have C:¬k<=0:=by intro g;exact Y (by rw[NU];exact .inl<|decide_eq_true g)
   have i:a.length*k.toNat<=fh:=by rw[<-ad];exact E
   have ap:((a.toArray.size:Nat):Int)*k<=(fh:Int):=by
    rw[Ms];have e:((a.length*k.toNat:Nat):Int)=(a.length:Int)*k:=by rw[SU,P8 ⋯]
    lia
   have aq:fh=16777216:=OJ;have M:(TQ (λj p=>j++p) #[] (Mm k.toNat a.toArray)).size<=fh:=by rw[z,Ms,WQ,SQ];exact i
   refine Pn RJ ⟨_,O,rfl⟩ Ue (TY _ _) (KJ k t l a.toArray n b d Z g2 Y ⋯ (by unfold Builtin.Tuple.tupleTooMany;simp only[decide_eq_true_eq];lia) M) ⟨O,?_⟩;rw[z];refine⟨.ref s.heap.objs.size,_,I.laid (t':=s.toks) (o:=.tup (Mm k.toNat L).flatten) (λc S q=>Mk _ q) (Mq _) ?_,rfl,J _<|I.eH.fresh<|Mq _⟩;exact⟨by rw[WQ,SQ];exact E,_,r.rep k.toNat,A6.new _ _⟩
theorem sZ{K:Mj}:ow K (λx y H Q=>rI FI (λi j=>.int (i*j)) x y H Q\/Cd K x y H Q) yS:=λg H x y k l d Q s h Y O q=>by
 cases k<;>cases l<;>simp[yS]at O
 ·obtain⟨m,U⟩:=O
  subst U;exact .inl ⟨_,_,jT h,jT Y,pk m,q _ H g (Ext.refl s) rfl⟩
 ·rename_i b j
  obtain⟨⟨o,n⟩,rfl⟩:=O;obtain⟨a,u,rfl,f,I⟩:=vJ h;obtain⟨r,t⟩:=Xl n;refine .inr ⟨a,j,u,rfl,jT Y,n6 s f,r,t,vX (by rw[I.length];exact o),λe=>?_,λp Z=>?_⟩
  ·refine q _ H g (Ext.refl s) ?_
   rcases e with e|e
   ·have U:b=[]:=by
     have:=I.length;rw[e]at this;exact MX this.symm
    subst U;rw[show(Mm j.toNat ([]:List D)).flatten=[]by simp];exact xS f I
   ·subst e
    rw[show(Mm (1:Int).toNat b).flatten=b by simp];exact xS f I
  ·exact q _ _ _ (Ext.alloc s Z _)<|xS (gR.of zF)<|(KU I _).mono (jb (jy s Z) _)
theorem qR(z:PV X a fa)(I:PV X b fb):PV X (.BinOp a .Mult b pos) (zG yS fa fb):=Kj (w?.or uG) sZ z I
end
end DL
namespace DL
open PySem PySem.Spec PyProof.Rows L2
theorem RC.N'{K:Mj}{H0 H:Hp}{σ:St}{γ:Ctx}{i:Nat}{ds:List D}{a:dt}{xs:List V}(r:RC K H0 H σ γ)(e:γ[i]? = cq (.own ds))(h1:σ[i]? = cq (cq (.ref a)))(O:H0 a=da)(h3:H a=cq (.lst xs))(h4:d8 K H0 ds xs):RC K (L2.upd H0 a<|.lst xs) H σ (γ.set i<|.val<|.lst ds):=by
 refine⟨λb o q=>?_,by simp[r.len],λj d g=>?_,λj m g=>?_,λj k b m fs f I t u=>?_,⟨λj h g=>?_,λj k x y f I=>?_⟩⟩
 ·by_cases z:b=a
  ·subst z;rw[zF]at q;rw[h3];exact q
  ·rw[zE z]at q;exact r.sub b o q
 ·rcases zU g with⟨rfl,z,C⟩|⟨U,z⟩
  ·cases z;exact⟨_,h1,Wu (gE.of zF)<|h4.mono<|jb O _⟩
  ·obtain⟨v,Y,g2⟩:=r.val j d z
   exact⟨v,Y,g2.mono<|jb O _⟩
 ·rcases zU g with⟨_,z,_⟩|⟨U,z⟩
  ·cases z
  ·obtain⟨b,A,Y,g2,g3,w⟩:=r.own j m z
   refine⟨b,A,Y,?_,g3,w.mono<|jb O _⟩;rw[zE (λq=>U<|r.ne j i a m ds z e (by rw[Y,q]) h1)];exact g2
 ·rcases zU f with⟨_,z,_⟩|⟨U,l⟩
  ·cases z
  ·rcases zU I with⟨_,z,_⟩|⟨B,Z⟩
   ·cases z
   ·exact r.ne j k b m fs l Z t u
 ·rcases zU g with⟨_,z,_⟩|⟨U,z⟩
  ·cases z
  ·obtain⟨b,bs,f1,f2,p⟩:=r.wq.1 j h z
   have s:=p i ds a e h1;refine⟨b,bs,f1,f2.move (jb O _) (λc n=>by rw[zE (λq=>s<|by rw[<-q];exact n)];exact(f2.at n).1)<|λc n=>rfl,λk fs c f I=>?_⟩;rcases zU f with⟨_,z,_⟩|⟨_,l⟩
   ·cases z
   ·exact p k fs c l I
 ·rcases zU f with⟨_,z,_⟩|⟨_,l⟩
  ·cases z
  ·rcases zU I with⟨_,z,_⟩|⟨_,Z⟩
   ·cases z
   ·exact r.wq.2 j k x y l Z
theorem RC.lend{K:Mj}{H0 H:Hp}{Y:St}{γ:Ctx}{i:Nat}{ds:List D}(r:RC K H0 H Y γ)(e:γ[i]? = cq (.own ds)):∃z,gm H0 z/\RC K z H Y (γ.set i<|.val<|.lst ds):=by obtain⟨a,d,b,I,O,U⟩:=r.own i ds e;exact⟨_,jb I _,r.N' e b I O U⟩
theorem oK{H0 H z I H':Hp}(s:gm H0 z)(x:Ext z H I H'):Ext H0 H H0 H':=⟨gm.refl _,x.s1,s.trans<|x.s0.trans x.sub,λ_ h _=>h⟩
section
variable{X:Cx}{e:eo}
theorem gp(i:Nat){f:CO Bool}(h:l5 X e f):l5 X e (cN i f):=Wx h λo H Q O=>by obtain⟨g,n,b,k,I,q⟩:=O;obtain⟨m,j,I⟩:=zf I;obtain⟨a,l,U⟩:=k.lend<|xp j;exact⟨a,_,b,U,I,λd Y x=>q d g<|oK l x⟩
end
end DL
namespace L2
open PySem PySem.Spec PyProof.Rows
open AutoSeq1 (wpAny_loadPart')
section
variable{prog:f9}{w:f6}{A:ij}{E:EQ}{s:d9}
theorem dQ{z it l:dt}{n:Nat}{xs:Array dy}{x U:dy}{Q:EQ}(hz:x6 s.heap z it n U)(h1:g7 .T s.heap it l n)(hl:i7 .T s.heap l xs)(hx:xs[n]? = cq x)(a1:z≠it)
 (hQ:∀g,Ut g z it ((n:Int)+1) x s.heap.objs.size->g7 .T g it l (n+1)->l9 g s.heap.objs.size (.int n s.toks) x->g.objs.size=s.heap.objs.size+1->
   (∀c o,c≠z->c≠it->s.heap.get? c=cq o->g.get? c=cq o)->Q (.ref s.heap.objs.size) {s with heap:=g,toks:=s.toks+1}):
 wpAny (ef prog w) A (Builtin.«enumerate.__next__» ⟨[.ref z],[]⟩) (λb0 s'=>∃v,b0=.done (.ret v)/\Q v s') E s:=by
 refine Mi (m:=field (.ref z) 2) (MV hz rfl (x:=.ref it) rfl ?_);refine Mi (m:=Mu (.ref it)) (qy h1 hl hx λg1 J f=>?_);have h:x6 g1 z it n U:=f.extBut _ _ a1 hz;refine Mi (m:=field (.ref z) 3) (MV h rfl (x:=xg n) rfl ?_);refine Mi (m:=field (.ref z) 4) (MV h rfl (x:=.none) rfl ?_);refine Mi (m:=mkInt n) (wpAny_mkInt ?_);refine Mi (m:=L7 (.ref z) 3 (xg ((n:Int)+1))) (Nm h ⋯ λg2 b i=>?_);replace b:x6 g2 z it ((n:Int)+1) U:=b;refine Mi (m:=L7 (.ref z) 4 .none) (Nm b ⋯ λY j k=>?_);replace j:x6 Y z it ((n:Int)+1) U:=j;refine Mi (m:=newTuple [.int n s.toks,x]) (R0 ?_);have d:x6 (Y.push {cls:=.type "tuple",data:=.seq #[.int n s.toks,x]}) z it ((n:Int)+1) U:=Mk _ j;generalize a3:Y.push {cls:=.type "tuple",data:=.seq #[.int n s.toks,x]}=O at d;have S:g1.objs.size=s.heap.objs.size:=f.1;have W:g2.objs.size=g1.objs.size:=i.1;have X:Y.objs.size=g2.objs.size:=k.1;have a:Y.objs.size=s.heap.objs.size:=by rw[X,W,S]
 have K:z<s.heap.objs.size:=Mt hz;have L:l9 O s.heap.objs.size (.int n s.toks) x:=by show O.get? _=_;rw[<-a3,<-a];exact My _ rfl
 have y4:O.objs.size=s.heap.objs.size+1:=by rw[<-a3,MM,a]
 have b8 c o:c≠z->c≠it->s.heap.get? c=cq o->O.get? c=cq o:=λI u e=>by rw[<-a3];exact Mk _<|k.extBut _ _ I<|i.extBut _ _ I<|f.extBut _ _ u e
 have M:g7 .T O it l (n+1):=J.at λo e=>by rw[<-a3];exact Mk _<|k.extBut _ _ a1.symm<|i.extBut _ _ a1.symm e
 refine Mi (m:=MB<|.ref z) ?_;unfold MB;refine Mi<|MV d rfl (x:=.none) rfl<|Mo ?_;simp only[if_true];refine Mi<|PH<|Mi<|MV d rfl (x:=U) rfl ?_;refine Mi<|Nm d ⋯ λy p F=>?_;replace p:x6 y z it ((n:Int)+1) x:=p;rw[a];refine Mi (m:=NF (.ref z)<|.ref s.heap.objs.size) ?_;unfold NF;refine Mi<|Nm p ⋯ λB r G=>?_;replace r:Ut B z it ((n:Int)+1) x s.heap.objs.size:=r;refine Nm r ⋯ λZ t H=>?_;replace t:Ut Z z it ((n:Int)+1) x s.heap.objs.size:=t;have C c o:c≠z->O.get? c=cq o->Z.get? c=cq o:=λI e=>H.extBut _ _ I<|G.extBut _ _ I<|F.extBut _ _ I e;have y7:Z.objs.size=s.heap.objs.size+1:=by have N:y.objs.size=O.objs.size:=F.1;have P:B.objs.size=y.objs.size:=G.1;have R:Z.objs.size=B.objs.size:=H.1;rw[R,P,N,y4]
 exact Mi<|C2<|Mo ⟨_,rfl,hQ Z t (M.at λo e=>C _ o a1.symm e) (C _ _ (Oh K) L) y7 λc o I u e=>C c o I<|b8 c o I u e⟩
theorem iY{z it l:dt}{n:Nat}{xs:Array dy}{I:dy}{Q:Fin->d9->Prop}(O:A.handled=da)(hz:x6 s.heap z it n I)(Z:g7 .T s.heap it l n)(U:i7 .T s.heap l xs)(hx:xs[n]? = da)
 (Y:∀g e,Heap.ExtBut it s.heap g->(∃o,g.get? e=cq o/\o.cls=.type "StopIteration")->E (.ref e) {s with heap:=g}):
 wpAny (ef prog w) A (Builtin.«enumerate.__next__» ⟨[.ref z],[]⟩) Q E s:=
 Mi (m:=field (.ref z) 2) (MV hz rfl (x:=.ref it) rfl<|Mi (m:=Mu<|.ref it)<|yq O Z U hx Y)
end
def As(i:dt):i5:={cls:=.type "enumerate",data:=.fields #[.none,.bool di,.ref i,xg 0,.none,.none]}
def Xq(h:et)(l:dt):et:=Mv (Mv h<|f7 .T l)<|As h.objs.size
theorem iX(l:dt)(xs:Array dy):
 DZ (Builtin.«enumerate.__new__» ⟨[.type "enumerate",.ref l],[]⟩) (λ_ R s=>i7 .T s.heap l xs/\R (.ok (.ret (.ref (s.heap.objs.size+1)))) {s with heap:=Xq s.heap l}):=
 .of_wp λb w A R s h=>by
  obtain⟨Y,g,d,f,os⟩:=s;obtain⟨Z,h⟩:=h;have i:=sub_enumerate;have I:Heap.IsTuple (Ss ⟨Y,g,d,f,os⟩) l xs:=Z;obtain⟨o,O,U,m,a⟩:=id I;obtain⟨e,o3,j,k⟩:=o;simp only at U a;subst U a;simp only[Xq,As,f7,MM]at h
  wp_walk using OA O
  refine wpAny_stack_any λst=>Mo ?_;split
  ·rename_i c _ _ _ _ _
   cases (c==Oc "enumerate")<;>(wp_walk using OA O,Sx I;exact⟨_,rfl,by simpa[MM,RT]using h⟩)
  ·wp_walk using OA O,Sx I
   exact⟨_,rfl,by simpa[MM,RT]using h⟩
def Uu(K:Mj)(a:dt):It:=
 ⟨λi H=>∃b,ie .T K H a b/\i<b.length,
  λi H x d=>∃p u,x=.ref p/\H p=da/\d=upd H p (.tup [.int i,u])/\(∀b,ie .T K H a b->b[i]? = cq u),
  λi H=>∃b,ie .T K H a b/\b.length<=i⟩
theorem yL(hz:x6 s.heap z it n old)(h:Q (.ref z) s):wpAny (ef prog w) A (T5 (.ref z)) Q E s:=by have I:s.TypeIs (.ref z) "enumerate":=⟨_,hz,rfl⟩;refine wpAny_pyIter_slot I F.slot_enumerate_iter (NG F.slot_enumerate_iter I F.entry_enumerate_iter ?_ (F.args_enumerate_iter_1 _));have O:wpAny (ef prog w) A.in1 (ret (.ref z)) (λO a=>∃v,O=.done (.ret v)/\∃T m,a.TypeIs v T/\Dz (.type T) "__next__" = pure (cq m)/\Q v a) E s:=Mo ⟨_,rfl,"enumerate",_,I,Pu.lookup,h⟩;exact O
theorem fm{P:f9}{w:f6}{K:Mj}{elts:List eo}{x1:Nat}{lC:e8}{z it a:dt}(ad:z≠it):
 Turn P w K (.Tuple elts x1 lC) (Uu K a) [z,it] z (λi h=>(∃Y,x6 h z it i Y)/\g7 .T h it a i) where
 mem:=by simp
 obj:=λi h ⟨⟨Y,hz⟩,h1⟩ y hy=>by
  simp only[Mr,MD,or_false]at hy;rcases hy with rfl|rfl
  ·exact⟨_,hz,λv q=>by cases q⟩
  ·exact h1.obj
 keep:=λi h h' ⟨⟨Y,hz⟩,h1⟩ k=>⟨⟨Y,k z ⋯ _ hz⟩,h1.at λo e=>k it ⋯ o e⟩
 item:=by
  rintro X hP hw hK hc i pins s σ H E I hf ⟨⟨Y,hz⟩,h1⟩ ⟨xs,a6,am⟩;subst hP hw hK;obtain⟨an,a9,p1,z1⟩:=I.sq a6;have hx:xs[i]? = cq xs[i]:=Mp am;obtain⟨u1,ap,aq⟩:=a9.get hx;have Z:s.TypeIs (.ref z) "enumerate":=⟨_,hz,rfl⟩;unfold u9;refine Mi (Of (MY (name:=MU "__next__") Z Pu (NG Pu Z F.entry_enumerate_next
   (dQ hz h1 p1 (x:=u1) (by simpa using ap) ad λg a1 a2 a3 a4 a5=>Mo ⟨_,rfl,?_⟩) (F.args_enumerate_next_1 _))))
  refine Q? a1 λg2 O2 ac=>?_;have lt:∀{c o},s.heap.get? c=cq o->s.heap.objs.size≠c:=λe=>Oh<|Mt e;have b1:l9 g2 s.heap.objs.size (.int i s.toks) u1:=ac.extBut _ _ (lt hz) a3;have kk U u:U ∉ [z,it]->s.heap.get? U=cq u->g2.get? U=cq u:=λO e=>by simp only[Mr,MD,or_false,not_or]at O;exact ac.extBut _ _ O.1<|a5 U u O.1 O.2 e
  have I1:Inv X pins σ (upd H s.heap.objs.size<|.tup [.int i,xs[i]]) {s with heap:=g2,toks:=s.toks+1}:=
   I.Us (fp:=[z,it]) kk hf (Mq _) ⟨by show 2<=fh;decide,[.int i s.toks,u1],.cons ⟨_,rfl⟩<|.cons aq .nil,⟨_,b1,rfl,_,rfl⟩⟩
  have b3:H s.heap.objs.size=da:=I.fresh;refine⟨.ref s.heap.objs.size,_,I1,rfl,⟨_,_,rfl,b3,rfl,λbd b4=>by rw[I.L8 b4 a6];exact hx⟩,?_,λU O=>?_⟩
  ·exact⟨⟨_,by have:=O2;rwa [show((i:Int)+1)=((i+1:Nat):Int)by lia]at this⟩,a2.at λo e=>ac.extBut _ _ ad.symm e⟩
  ·have b5:U≠s.heap.objs.size:=by
    simp only[Mr,MD,or_false]at O;rcases O with rfl|rfl
    ·exact(lt hz).symm
    ·obtain⟨o,e,_⟩:=h1.obj;exact(lt e).symm
   rw[zE b5];exact(hf U O).1
 done:=by
  rintro X hP hw hK hc i pins s σ H E I hf ⟨⟨Y,hz⟩,h1⟩ ⟨xs,a6,hi⟩;subst hP hw hK;obtain⟨an,a9,p1,z1⟩:=I.sq a6;have Z:s.TypeIs (.ref z) "enumerate":=⟨_,hz,rfl⟩;have l1:=a9.length;unfold u9;refine Mi (Of (MY (name:=MU "__next__") Z Pu (NG Pu Z F.entry_enumerate_next
   (iY (show X.A.handled=da from I.ok.hd hc) hz h1 p1 (by simp;lia) λg e hk he=>?_) (F.args_enumerate_next_1 _))))
  obtain⟨o,ho,b9⟩:=he;refine Mi (RO (T:="StopIteration") (b:=cI) ⟨o,ho,b9⟩ SD (Mo ⟨rfl,?_⟩));refine I.A2 (t':=s.toks) (fp:=[z,it]) (λU u O e=>?_) hf;simp only[Mr,MD,or_false,not_or]at O;exact hk U u O.2 e
 self:=λ_ _ _ _ _ st h=>yL st.1.choose_spec h
def Hv(K:Mj)(z:TA):TI:=λf H R=>z f H λd b=>∃a,d=[.ref a]/\(∃e,ie .T K b a e)/\R (Uu K a) b
theorem uB{X:Cx}{e1:eo}{ta:TA}{p pos:e8}{z:List eo}{x1:Nat}{lC:e8}(hg:Gl X "enumerate")(hm:X.mg "enumerate" = da)(ha:PA X [e1] ta)
 (hv:B3 "enumerate" = cq (.type "enumerate")) (hs:eJ [e1] X.env=[(di,eh e1 X.env)]:=by rfl):
 PI X (.Tuple z x1 lC) (.Call (.Name "enumerate" p) [e1] [] pos) (Hv X.K ta):=by
 intro d s g H R I h;refine DC<|xQ I hg hm hv<|Nc (fe (ha pos d s g H _ I h) λA b r=>?_) (by rw[hs];rfl) rfl;obtain⟨B,f,O,w,u⟩:=r;obtain⟨a,e,⟨E,j⟩,q⟩:=u;subst e;obtain⟨C,m,k⟩:=yU w;subst m;cases k;obtain⟨l,y,t,G⟩:=O.sq j;refine Uo F.called_enumerate ⋯ (F.typeCall_enumerate_1 _) (F.newCall_enumerate_1 _) (λobj=>F.args_object_init_2 obj _) F.entry_enumerate_new (iX a l.toArray) ⟨t,?_⟩;have keep c o:b.heap.get? c=cq o->(Xq b.heap a).get? c=cq o:=λe=>Mk _<|Mk _ e;have x:(Mv b.heap<|f7 .T a).objs.size=b.heap.objs.size+1:=MM ..;have n:g7 .T (Xq b.heap a) b.heap.objs.size a 0:=(wZ .T b.heap a).at λo e=>Mk _ e;have U:x6 (Xq b.heap a) (b.heap.objs.size+1) b.heap.objs.size 0 .none:=by have q:=My (Mv b.heap<|f7 .T a) (o:=As b.heap.objs.size) rfl;rw[x]at q;exact q
 refine⟨⟨_,U,rfl⟩,yL (s:={b with heap:=Xq b.heap a}) U ?_⟩;have i:Inv X d g f {b with heap:=Xq b.heap a,toks:=b.toks}:=O.kept keep;refine⟨_,[b.heap.objs.size+1,b.heap.objs.size],_,_,f,rfl,i,fm<|Oh<|Ou _,⟨⟨_,U⟩,n⟩,λc Y=>?_,q⟩;have Z:b.heap.objs.size<=c:=by
  simp only[Mr,MD,or_false]at Y;rcases Y with rfl|rfl
  ·exact MF _ _
  ·exact Mq _
 exact O.B6 Z<|O.eH.fresh Z
end L2
namespace DL
open PySem PySem.Spec PyProof.Rows L2
theorem Vx{K:Mj}{H:Hp}:∀{ds:List D} {xs:List V} {l:List Int},d8 K H ds xs->WT ds=cq l->xs=l.map V.int
 |[],xs,l,r,e=>by cases e;rw[show xs=[]from r];rfl
 | d::ds,xs,l,r,e=>by
  obtain⟨x,g,rfl,I,b⟩:=(show ∃x r,xs=x::r/\Rep K H d x/\d8 K H ds r from r);cases d with
  |int i=>
   obtain⟨f,a,rfl⟩:=zI (show(WT ds).map (λl=>i::l)=cq l from e);rw[Vx b a,show x=.int i from I];rfl
  |_=>cases e
theorem VH:∀l:List Int,(l.map V.int).all X7=cI
 |[]=>rfl
 |i::l=>by simp only[MT,RE,VH l,TC];rfl
theorem iM(i:Int):∀l:List Int,K2 (.int i) (l.map V.int)=decide (i∈l)
 |[]=>rfl
 | j::l=>by
  have I:=iM i l;unfold K2 at I ⊢;rw[MT,Sz,I];have e:Dm (.int j) (.int i)=(j==i):=rfl;rw[e];by_cases h:i=j
  ·subst h
   rw[beq_self_eq_true,Bool.true_or];exact(decide_eq_true MS).symm
  ·rw[beq_false_of_ne (Nr h),Bool.false_or]
   exact decide_eq_decide.mpr ⟨λq=>MO _ q,λq=>(Mr.mp q).resolve_left h⟩
theorem eX{K:Mj}{H0 z:Hp}{a:dt}{xs:List V}{ds:List D}(h:gR K z a xs)(r:d8 K H0 ds xs):Walk K H0 z (Uu K a) (qU ds):=by
 have n:=r.length;have o:(qU ds).length=ds.length:=by simp[qU]
 refine⟨λi b s l=>?_,λb s=>?_,λi b x g s l y=>?_⟩
 ·exact⟨xs,n6 s h,⋯⟩
 ·exact⟨xs,n6 s h,⋯⟩
 ·obtain⟨p,u,j,I,O,U⟩:=y
  obtain⟨d,k,Y⟩:=r.Dp<|U xs<|n6 s h;refine⟨.tup [.int i,d],?_,λf m e=>⟨upd f p<|.tup [.int i,u],?_,?_⟩⟩
  ·have Z:i<ds.length:=⋯
   unfold qU;rw[NC,Tj Z,Ni,k];rfl
  ·rw[O];exact Ext.alloc e I _
  ·rw[j]
   exact xS (gR.of zF)<|d8.cons (show V.int i=.int i from rfl)<|d8.cons ((Y.mono m).mono (jb (jy e I) _)) d8.nil
section
variable{X:Cx}{sc:gx}{N L:List Str}{k:Nat}{a b c:eo}{pos p:e8}{f fa fb fc:CO D}
theorem gF(h:SX X sc N L k)(c:kz sc "enumerate" = cI)(z:X.mg "enumerate" = da)(ha:PV X a f)(hs:eJ [a] X.env=[(di,eh a X.env)]:=by rfl):
 i6 X (.Tuple elts x1 lC) (.Call (.Name "enumerate" p) [a] [] pos) (mW f):=
 XT (uB (h.gl c).1 z (jq ha qp hs) y_ hs) λo H R U=>by
  obtain⟨g,l,m,i,I,q⟩:=U;obtain⟨d,Y,I⟩:=zf I;cases d with
  |tup n=>
   cases I;refine⟨g,l,_,i,Y,λv e b x r=>?_⟩;obtain⟨Z,j,rfl,O,g2⟩:=vJ r;exact⟨Z,rfl,⟨j,n6 x.sub O⟩,q _ e b x<|eX O g2⟩
  |_=>cases I
theorem nh(ho:jl X (ri op) r)(a4:jl X (ri O4) r')(s1:ow X.K r F)(s2:ow X.K r' G)(ha:PV X a fa)(hb:PV X b fb)(hc:PV X c fc)
 (hm:lastMarks [op,O4] [b,c]=di:=by with_unfolding_all rfl):PV X (.Compare a [op,O4] [b,c] pos) (fU F G fa fb fc):=
 qo (nN ho a4 ha hb hc hm) λσ H Q N=>by
  obtain⟨m,h,d,g,I,q⟩:=N;obtain⟨x,B,I⟩:=zf I;obtain⟨y,C,I⟩:=zf I;obtain⟨k,E,I⟩:=zf I;obtain⟨Y,J,Z⟩:=zf E;refine⟨m,h,x,g,B,λW H1 t e P=>⟨t,h,y,g.ext e,C,λl n u O j=>s1 u n W l x y Y _ O.sub (P.mono O.s0) j J λv3 o i f R=>?_⟩⟩;cases Y with
  | bl k'=>
   cases Z;refine⟨k,show v3=.bl k from R,?_⟩;cases k with
   |true=>
    rw[UJ rfl];rw[UJ rfl]at I;obtain⟨z,L,M⟩:=zf I;exact⟨i,h,z,((g.ext e).ext O).ext f,L,λv4 p w U S=>s2 w p l v4 y z d _ U.sub ((j.mono f.s0).mono U.s0) S M λv5 s A x5 T=>q v5 s A (((e.trans O).trans f).trans (U.trans x5)) T⟩
   |false=>
    rw[UY ⋯];rw[UY ⋯]at I;cases I;exact q _ o i ((e.trans O).trans f) rfl
  |_=>cases Z
end
section
variable{K:Mj}{E0 E H0 H:Hp}{σ:St}{γ:Ctx}
theorem RS.forget(r:RS K E0 E H0 H σ γ):RS K E0 E H0 H (σ.set i v) (γ.set i .no):=by
 have U:∀{j:Nat} {e:List D} {b:dt},(γ.set i .no)[j]? = cq (.own e)->γ[j]? = cq (.own e)/\(σ.set i v)[j]? = σ[j]? :=λ{j e b} g=>by
  rcases zU g with⟨_,z,_⟩|⟨Y,z⟩
  ·cases z
  ·exact⟨z,MC<|Nr Y⟩
 have Z:∀{j:Nat} {d:List (List D)},(γ.set i .no)[j]? = cq (.nest d)->γ[j]? = cq (.nest d)/\(σ.set i v)[j]? = σ[j]? :=λ{j d} g=>by
  rcases zU g with⟨_,z,_⟩|⟨Y,z⟩
  ·cases z
  ·exact⟨z,MC<|Nr Y⟩
 refine⟨⟨r.rc.sub,by simp[r.rc.len],λj s g=>?_,λj e g=>?_,λj k b e fs l h o p=>?_,⟨λj d g=>?_,λj k x y O g2=>r.rc.wq.2 j k x y (Z O).1 (Z g2).1⟩⟩,r.ext,λj e b O g2=>?_,λj d b B O g2 g3=>?_⟩
 ·rcases zU g with⟨_,z,_⟩|⟨Y,z⟩
  ·cases z
  ·obtain⟨A,O,g2⟩:=r.rc.val j s z
   exact⟨A,by rw[MC (Nr Y)];exact O,g2⟩
 ·obtain⟨f,I⟩:=U (b:=0) g
  rw[I];exact r.rc.own j e f
 ·obtain⟨f,I⟩:=U (b:=0) l
  obtain⟨m,n⟩:=U (b:=0) h;rw[I]at o;rw[n]at p;exact r.rc.ne j k b e fs f m o p
 ·obtain⟨f,I⟩:=Z g
  obtain⟨a,bs,t,u,w⟩:=r.rc.wq.1 j d f;refine⟨a,bs,by rw[I];exact t,u,λk e c l h=>?_⟩;obtain⟨m,n⟩:=U (b:=0) l;rw[n]at h;exact w k e c m h
 ·obtain⟨f,I⟩:=U (b:=0) O
  rw[I]at g2;exact r.fresh j e b f g2
 ·obtain⟨f,I⟩:=Z O
  rw[I]at g2;exact r.zl j d b B f g2 g3
end
section
variable{K:Mj}{E0 E H0 H:Hp}{σ:St}{γ:Ctx}
theorem RS.freeze(r:RS K E0 E H0 H σ γ)(e:γ[i]? = cq (.own ds)):∃i4,RS K E0 E i4 H σ (γ.set i<|.val<|.lst ds):=by
 obtain⟨a,n,f,U,Z,k⟩:=r.rc.own i ds e;have g:=r.fresh i ds a e f;obtain⟨i4,m,Y⟩:∃i4,i4=upd H0 a (.lst n)/\RC K i4 H σ (γ.set i<|.val<|.lst ds):=by refine⟨_,rfl,?_⟩;exact RC.N' r.rc e f U Z k
 subst m;refine⟨_,Y,⟨r.ext.s0.trans<|jb U _,r.ext.s1,Y.sub,λc l I=>?_⟩,λj h b O g2=>?_,λj d b o O g2 g3=>?_⟩
 ·rw[zE (λz=>by rw[z,g]at I;exact I rfl)];exact r.ext.new c l I
 ·rcases zU O with⟨_,z,_⟩|⟨_,z⟩
  ·cases z
  ·exact r.fresh j h b z g2
 ·rcases zU O with⟨_,z,_⟩|⟨_,z⟩
  ·cases z
  ·exact r.zl j d b o z g2 g3
end
section
variable{X:Cx}{st:gB}{F:CO Fl}
theorem gu(i:Nat)(h:l0 X st F):l0 X st (BV i F):=yZ h λD j H O=>by obtain⟨E0,E,e,g,U,Y,I,Z⟩:=O;obtain⟨f,d,I⟩:=zf I;obtain⟨a,b⟩:=Y.freeze<|xp d;exact⟨E0,E,a,_,U,b,I,Z⟩
end
end DL
namespace L2
open PySem PySem.Spec PyProof.Rows
def GQ(K:Mj):V->List V->Hp->VK->Prop:=λx b H Q=>∃I p O,x=.str I/\b=[.ref p]/\gE K H p (O.map V.str)/\Builtin.Str.tooLong (O.toArray.foldl (λa p=>a+p.length+I.length) 0)=di/\Q (.str<|Ug I O) H
theorem YI:∀{I:List Str} {us:List dy},ft (I.map V.str) us->∃l:List (Str×o6),strValues l=us/\l.map (·.1)=I
 |[],us,r=>by cases r;exact⟨[],rfl,rfl⟩
 |z::I,u::us,.cons r t=>by obtain⟨a,rfl⟩:=r;obtain⟨l,rfl,h⟩:=YI t;exact⟨(z,a)::l,rfl,by simp[h]⟩
theorem uQ{X:Cx}:M9 X "str.join" (GQ X.K):=by intro a s w H x m v j Q I g Y h;obtain⟨O,p,u,rfl,rfl,Z,U,q⟩:=h;obtain⟨t,rfl⟩:=g;obtain⟨n,rfl,rw⟩:=yU Y;cases rw;obtain⟨d,r,f,i⟩:=I.list Z;obtain⟨l,rfl,e⟩:=YI r;subst e;refine Pn F.slot_str_join (Uk _ _ _) F.entry_str_join (F.args_str_join_2 _ _) (meets_str_join_list O t p l U) ⟨f.isList,post_join l ⟨joinFit_length U,λt' k=>?_⟩⟩;refine⟨.str (Ug O (l.map (·.1))),H,(I.kept (h':=s.heap) (t':=k) λb o e=>e),⟨t',?_⟩,q⟩;show Ts (Builtin.Str.glued O (l.map (·.1))) t'=_;rw[StrLaws.glued_eq_join]
end L2
namespace DL
open PySem PySem.Spec PyProof.Rows L2
theorem QD{K:Mj}{H:Hp}:∀{ds:List D} {xs:List V} {l:List Str},d8 K H ds xs->YU ds=cq l->xs=l.map V.str
 |[],xs,l,r,e=>by cases e;rw[show xs=[]from r];rfl
 | d::ds,xs,l,r,e=>by
  obtain⟨x,g,rfl,I,b⟩:=(show ∃x r,xs=x::r/\Rep K H d x/\d8 K H ds r from r);cases d with
  |str i=>
   obtain⟨f,a,rfl⟩:=zI (show(YU ds).map (λl=>i::l)=cq l from e);rw[QD b a,show x=.str i from I];rfl
  |_=>cases e
section
variable{X:Cx}{sc:gx}{N L:List Str}{k:Nat}{o e a b:eo}{apos cpos pos p:e8}{f g:CO D}{q:CO (Sk×List D)}
theorem ZA(h:ju x=cI):x.length<=1000:=of_decide_eq_true h
theorem Je(h:ju x=cI):x.length<=fh:=Nl (ZA h) ⋯
theorem Wv(Y:PV X o f)(Z:PQ X e q)(z:DJ o "join" X.env (eh o X.env)=eh o X.env:=by rfl)
 (a2:((n0 cpos<|starEach [e] X.env).all (λx=> !x.1)&&(N5 cpos<|keywordEach [] X.env).all (λx=>x.1.isSome)&&decide ([e].length+([]:List A7).length+(if ([]:List A7).isEmpty then 0 else 1)<30))=cI:=by rfl)
 (a3:(apos.endLine==cpos.line)=cI:=by rfl) (hs:eJ [e] X.env=[(di,eh e X.env)]:=by rfl):PV X (.Call (.Attribute o "join" apos) [e] [] cpos) (fS f q):=
 qo (gM PySem.F.plainAttrs_str PySem.F.slot_str_join PySem.F.type_str_join uQ Y (jq Z qp hs) z a2 a3 hs rfl) λS H Q C=>by
  obtain⟨i,h,d,g,I,J⟩:=C;obtain⟨m,p,I⟩:=zf I;obtain⟨⟨G,n⟩,s,I⟩:=zf I;cases m with
  | str O=>
   cases G with
   | L=>
    obtain⟨l,t,I⟩:=zf I;by_cases U:l.length<=lim/\l.all ju=cI/\ju O=cI
    ·rw[UJ U]at I;cases I
     refine⟨i,h,_,g,p,λv N b x r=>?_⟩;rw[show v=.str O from r];refine⟨rfl,b,h,.L,n,g.ext x,s,λa R j k M w P K=>?_⟩;have u:=QD K t;subst u;refine⟨O,a,l,rfl,rfl,w,StrLaws.joinFits (B:=1000) (λy E=>ZA<|NV.mp U.2.1 y E) ?_,J _ j k (x.trans M) rfl⟩;have:lim=2500:=rfl;have A:=ZA U.2.2;have:l.length*O.length<=2500*1000:=Nat.mul_le_mul ⋯ A;lia
    ·rw[UY U]at I;cases I
   |T=>cases I
  |_=>cases I
theorem yn(ha:PV X a f)(Y:PV X b g)(hs:W7 b:=by intro _ _;rfl):PV X (.Subscript a b pos) (xA f g):=
 qo (CK EB ha Y hs) λF H Q Z=>by
  obtain⟨n,m,d,l,I,q⟩:=Z;obtain⟨s,u,I⟩:=zf I;obtain⟨i,O,I⟩:=zf I;obtain⟨t,w,O⟩:=zf O;cases s with
  | str z=>
   by_cases U:ju z=cI
   ·have I:(if ju z=cI then (hM z.cps.toList.length i).bind λk=>z.cps.toList[k]?.map λc=>D.str ⟨#[c]⟩else da)=cq d:=I
    rw[UJ U]at I;obtain⟨j,y,I⟩:=zf I;obtain⟨c,A,rfl⟩:=zI I;refine⟨n,m,_,l,u,λv C e x r=>⟨e,m,t,l.ext x,w,λE o p B h=>?_⟩⟩;rw[jW O]at h;refine⟨z,i,c,r,jT h,Je U,?_,q _ o p (x.trans B) rfl⟩;unfold DI;rw[iD y];exact A
   ·have I:(if ju z=cI then (hM z.cps.toList.length i).bind λk=>z.cps.toList[k]?.map λc=>D.str ⟨#[c]⟩else da)=cq d:=I
    rw[UY U]at I;cases I
  |_=>cases I
theorem yY(h:SX X sc N L k)(c:kz sc "len" = cI)(z:X.mg "len" = da)(Z:PV X e f)(hs:eJ [e] X.env=[(di,eh e X.env)]:=by rfl):PV X (.Call (.Name "len" p) [e] [] pos) (vE f):=
 qo (wI VT (h.gl c).1 z PySem.boot_len (jq Z qp hs) ⋯ ⋯ hs rfl) λm H Q U=>by
  obtain⟨g,l,d,j,I,q⟩:=U;obtain⟨Y,i,I⟩:=zf I;cases Y with
  | str z=>
   by_cases O:ju z=cI
   ·have I:(if ju z=cI then cq (D.int z.length)else da)=cq d:=I
    rw[UJ O]at I;cases I;refine⟨g,l,_,j,i,λv b a x r=>⟨z,by rw[show v=.str z from r],Je O,q _ b a x rfl⟩⟩
   ·have I:(if ju z=cI then cq (D.int z.length)else da)=cq d:=I
    rw[UY O]at I;cases I
  |_=>cases I
end
section
variable{X:Cx}{sc:gx}{N L:List Str}{k:Nat}{b:eo}{f:CO D}
theorem gf(h:SX X sc N L k)(c:kz sc "min" = cI)(z:X.mg "min" = da)(ha:PV X a f)(Y:PV X b g)(hs:eJ [a,b] X.env=[(di,eh a X.env),(di,eh b X.env)]:=by rfl)(O:eJ [b] X.env=[(di,eh b X.env)]:=by rfl):
 PV X (.Call (.Name "min" p) [a,b] [] pos) (fQ f g):=
 qo (wI (lN h.calm) (h.gl c).1 z PyProof.Rows.boot_min (jq ha (jq Y qp O)<|by rw[hs,O]) ⋯ ⋯ (by rw[hs,O]) (by rw[O];rfl)) λG H Q Z=>by obtain⟨s,o,d,n,I,q⟩:=Z;obtain⟨i,l,I⟩:=zf I;obtain⟨w,A,l⟩:=zf l;obtain⟨j,U,I⟩:=zI I;obtain⟨y,B,U⟩:=zf U;subst I;refine⟨s,o,w,n,A,λv E e x r=>⟨e,o,y,n.ext x,B,λF t u C m=>⟨i,j,?_,q _ t u (x.trans C) rfl⟩⟩⟩;rw[jW l]at r;rw[jW U]at m;rw[jT r,jT m]
end
end DL
namespace DL
open PySem PySem.Spec PySem.Calls PyProof.Rows PySem.W PySem.Builtin PySem.Builtin.ObjectAttr
section
variable{prog:f9}{w:f6}{A:ij}{E:EQ}{h:et}{g:Array M6}{d:M4}{t:Nat}{os:Uy}{K:Frag}{x C S:dt}{cd:ClassData}{vs:Array dy}{name:Str}{v:dy}
theorem bP{z:o6}{Q:Fin->d9->Prop}(X:K.In h){od:Option dt}(a2:od=da)(hx:h.get? x=cq ⟨.ref C,od,.fields vs,#[]⟩)(I:DK K C=cq cd)(hm:cd.mro=.ref C :: .ref S::s9)(am:cd.hasDict=cI)(hn:D7 K (.ref C) name=cq da)
 (hq:∀h' e a4,h.get? e=da->h'.get? x=cq ⟨.ref C,cq e,.fields vs,#[]⟩->h'.Ns1 e (λy=>if y=name then cq v else da)->(∀b o,b≠x->h.get? b=cq o->h'.get? b=cq o)->Q (.done<|.ret .none) ⟨h',g,d,a4,os⟩):
 wpAny (ef prog w) A (Builtin.«object.__setattr__» ⟨[.ref x,.str name z,v],[]⟩) Q E ⟨h,g,d,t,os⟩:=by
 have k:=OS.passes<|.ref x;have O:C0 (ef prog w) h (mroOf<|.ref C) cd.mro:=(N_ X I).andThen .now;have i:=E5 (M:=ef prog w) X hn;have j:=N_ (M:=ef prog w) X I;rw[hm]at O;unfold Builtin.«object.__setattr__»
 repeat (first|rw[refuse_eq]|(rw[refuseLoop_ref,refuseLoop_ref];show wpAny _ _ (refuseLoop _ _ s9) _ _ _;unfold s9;rw[k])|(with_reducible refine Oy hx ?_)|(with_reducible refine O.at ?_)|(with_reducible refine i.at ?_)|(with_reducible refine j.at ?_)|wp_step)
 subst a2;have U:(h.push {cls:=.type "dict",data:=.dict #[]}).get? x=cq ⟨.ref C,da,.fields vs,#[]⟩:=Mk _ hx;have Y:x≠h.objs.size:=ME (Mt hx);show wpAny _ _ (alloc {cls:=Oc "dict",data:=Data.dict #[]} >>= _) _ _ _;refine Mi (wpAny_alloc' ?_);refine Mi (wpAny_update' U ?_);refine Mo ?_;show wpAny _ _ (storeInDict h.objs.size (.str name z) name v) _ _ _;unfold storeInDict newKeyGuard;have l:((h.push {cls:=.type "dict",data:=.dict #[]}).update x λo=>{cls:=o.cls,dict:=cq h.objs.size,data:=o.data,slots:=o.slots}).get? h.objs.size=cq {cls:=.type "dict",data:=.dict #[]}:=
  (RM _ _ _ _ Y.symm).trans (Heap.get?_push_at rfl rfl)
 have m:((h.push {cls:=.type "dict",data:=.dict #[]}).update x λo=>{cls:=o.cls,dict:=cq h.objs.size,data:=o.data,slots:=o.slots}).Ns h.objs.size (λ_=>da):=
  ⟨_,#[],_,l,rfl,λe s=>absurd s ⋯,λ_=>rfl⟩
 refine Mi<|Mo<|Mi<|wpAny_nsSet1 (Heap.Ns1.of_empty m) λh' Z f=>?_;obtain⟨oD,u,B,n,ad,p⟩:=Z.count<|TN.cons name v TN.nil;refine Mi<|wpAny_lookBehind n (by rw[ad];exact pastItsLine_dict<|Nl p<|by rw[NB,NZ,OJ];lia) ?_;refine Mo<|hq h' h.objs.size _ (RD<|Mq _) ?_ Z λb o r a=>?_
 ·refine(f.2 x Y).trans (Nu _ U rfl)
 ·exact(f.2 b<|ME<|Mt a).trans ((RM _ _ _ _ r).trans (Mk _ a))
theorem bQ{o:i5}{I:dy}{Q:Unit->d9->Prop}{M:C1}(X:K.In h)(hx:h.get? x=cq o)(U:o.cls=.ref C)(Y:mroIn K C (.type "object")=cq cI)(O:Q () ⟨h,g,d,t,os⟩):
 wpAny M A (R8 "object.__setattr__" ⟨[.ref x,I,v],[]⟩) Q E ⟨h,g,d,t,os⟩:=by
 have Z:C0 M h (E9 (.ref x)) (.ref C):=U ▸ (Looks.ld hx).andThen .now;have b:=O' (M:=M) X Y;have f:builtinKind "object.__setattr__" = cq .slot:=OS.kind;have e:splitId "object.__setattr__" = cq ("object","__setattr__"):=OS.split;have a:=OS.args (.ref x) I v;simp only[R8,f,e];refine Mi (m:=S4 (.ref x) (.type "object")) ?_;refine(Z.andThen b).at ?_;rw[UY ⋯];unfold argsOk at a;cases hs:Manifest.signature? "object.__setattr__" with
 |none=>exact Mo O
 |some i=>
  rw[hs]at a;exact Si a O
theorem Ll{Q:Unit->d9->Prop}(X:K.In h)(hx:h.get? x=cq ⟨.ref C,da,.fields vs,#[]⟩)(hs:D7 K (.ref C) "__setattr__" = cq (cq (.builtin "object.__setattr__")))(O:mroIn K C (.type "object")=cq cI)
 (U:DK K C=cq cd) (z:cd.mro=.ref C :: .ref S::s9) (Y:cd.hasDict=cI) (hn:D7 K (.ref C) name=cq da)
 (Z:∀h' e I,h.get? e=da->h'.get? x=cq ⟨.ref C,cq e,.fields vs,#[]⟩->h'.Ns1 e (λy=>if y=name then cq v else da)->(∀b o,b≠x->h.get? b=cq o->h'.get? b=cq o)->Q () ⟨h',g,d,I,os⟩):
 wpAny (ef prog w) A (setAttr (.ref x) name v) Q E ⟨h,g,d,t,os⟩:=by
 have a:C0 (ef prog w) h (E9<|.ref x) (.ref C):=(Looks.ld hx).andThen .now;have f:=E5 (M:=ef prog w) X hs;have n:=OS.slot.bind<|.ref x;unfold setAttr callSpecial? specialOf
 repeat (any_goals (first|assumption|(with_reducible refine a.at ?_)|(with_reducible refine f.at ?_)|wp_step))
 refine Pd OS.slot.plain OS.entry<|bQ (o:=⟨.ref C,da,.fields vs,#[]⟩) X hx rfl O<|bP (cd:=cd) (S:=S) X rfl hx U z Y hn λh' e I i j k l=>?_;have m:=Z h' e I i j k l
 repeat (any_goals (first|assumption|wp_step))
end
end DL
namespace DL
open PySem PySem.Spec PySem.Calls PyProof.Rows PySem.W
def Yn(C:dt)(dd:Option dt)(a0:dt):i5:=⟨.ref C,dd,.fields #[.ref a0,.none,.none,.none,.bool di,.none],#[]⟩
section
variable{prog:f9}{w:f6}{A:ij}{E:EQ}{h:et}{g:Array M6}{d:M4}{t:Nat}{os:Uy}
variable{nm q:Str}{C N x:dt}{bs bm:List dy}{hdct:Bool}{sn:List Str}{sub:List dy}{ab:Bool}{col:Option Bool}{dd:Option dt}{k0 k1 k2 k3 k5:Option dy}{a0:dt}{u:dy}
theorem Gr{Q:EQ}(T:P7 h s9 bm)(I:h.get? C=cq (O0 nm q C N bs bm hdct sn sub ab col dd k0 k1 k2 k3 k5 "ValueError.__new__"))(hx:h.get? x=cq (Yn C da a0))
 (O:∀h' U,h'.get? x=cq (Yn C da U)->(∀b o,b≠x->h.get? b=cq o->h'.get? b=cq o)->Q .none ⟨h',g,d,t,os⟩):
 wpAny (ef prog w) A (call (.builtin "ValueError.__init__") [.ref x,u]) Q E ⟨h,g,d,t,os⟩:=by
 have F:=Po;refine Ry<|Pd F.init.plain F.initEntry<|wpAny_check_init_subT F T I hx rfl ?_
 wp_walk
 have Y:(h.push {cls:=.type "tuple",data:=.seq #[u]}).get? x=cq (Yn C da a0):=Mk _ hx;refine O _ h.objs.size ?_ λb o Z e=>?_
 ·rw[Nu _ Y rfl];rfl
 ·exact(RM _ _ _ _ Z).trans (Mk _ e)
theorem bR{rest:List dy}{fI:dt}{Z:i5}{Q:Fin->d9->Prop}(T:P7 h s9 bm)(I:h.get? C=cq (O0 nm q C N bs bm hdct sn sub ab col dd k0 k1 k2 k3 k5 "ValueError.__new__"))
 (hL:C0 (ef prog w) h (Dz (.ref C) "__init__") (cq (.ref fI))) (a2:h.get? fI=cq Z) (a3:Z.cls=.type "function") (hr:rest.length<=fh)
 (hq:∀h' e a0,h.get? e=da->h'.get? e=cq (Yn C da a0)->(∀b o,h.get? b=cq o->h'.get? b=cq o)->wpAny (ef prog w) A (call (.ref fI) (.ref e::rest)) (λr s'=>r=.none/\Q (.done<|.ret<|.ref e) s') E ⟨h',g,d,t,os⟩):
 wpAny (ef prog w) A (Builtin.«type.__call__» ⟨.ref C::rest,[]⟩) Q E ⟨h,g,d,t,os⟩:=by
 have F:=Po
 repeat (first|with_reducible refine wpAny_madeBy_exc I ?_|with_reducible refine Oy I ?_|wp_step)
 refine codeAny_call_builtin_code (Sa _ F.quiet) (wpAny_check_new_subT F T I (codeAny_exc_new_subT F T I ?_ hr));show wpAny _ _ _ _ _ _;have O b o:h.get? b=cq o->((h.push {cls:=.type "tuple",data:=.seq rest.toArray}).push (Yn C da h.objs.size)).get? b=cq o:=λe=>Mk _ (Mk _ e);have U:((h.push {cls:=.type "tuple",data:=.seq rest.toArray}).push (Yn C da h.objs.size)).get? (h.objs.size+1)=cq (Yn C da h.objs.size):=by heap_get
 have a:=hL.keeps O;have f:(MP C::bm).contains (.ref C)=cI:=by simp
 have i:h.get? (h.objs.size+1)=da:=RD (SF _);change wpAny _ _ _ _ _ ⟨(h.push {cls:=.type "tuple",data:=.seq rest.toArray}).push (Yn C da h.objs.size),_,_,_,_⟩;have l:=T.keeps O;have j:=O _ _ I;have k:=O _ _ a2;have Y:=λe=>hq _ (h.objs.size+1) h.objs.size i U e;have Y:=Y O;generalize (h.push {cls:=.type "tuple",data:=.seq rest.toArray}).push (Yn C da h.objs.size)=h2 at *;unfold S4
 repeat (first|with_reducible refine Oy U ?_|wp_step)
 show wpAny _ _ (UU (.ref C)<|.ref C) _ _ _;refine O? j ?_;rw[f];simp only[Bool.not_true,Nw,if_false];refine Mi<|NA ?_;unfold callSpecial? specialOf
 repeat (first|with_reducible refine Oy U ?_|wp_step)
 show wpAny _ _ (Dz (.ref C) _) _ _ _;refine a.at ?_;refine NA (Mi ?_);unfold bindSpecial;refine Mi (DG (T:="function") ⟨_,k,a3⟩ ?_);rw[UJ ⋯];refine Mo (Mi (MG Y (λr s' z=>?_) λ_ _ z=>z));obtain⟨rfl,z⟩:=z
 wp_walk
 exact z
theorem Gu{rest:List dy}{z:dt}{O:i5}{Q:EQ}(T:P7 h s9 bm)(I:h.get? C=cq (O0 nm q C N bs bm hdct sn sub ab col dd k0 k1 k2 k3 k5 "ValueError.__new__"))
 (U:C0 (ef prog w) h (Dz (.ref C) "__init__") (cq (.ref z))) (Y:h.get? z=cq O) (Z:O.cls=.type "function") (hr:rest.length<=fh)
 (hq:∀h' e a0,h.get? e=da->h'.get? e=cq (Yn C da a0)->(∀b o,h.get? b=cq o->h'.get? b=cq o)->
   wpAny (ef prog w) (A.under (.builtin "type.__call__" ⟨.ref C::rest,[]⟩)) (call (.ref z) (.ref e::rest)) (λr s'=>r=.none/\Q (.ref e) s') E ⟨h',g,d,t,os⟩):
 wpAny (ef prog w) A (call (.ref C) rest) Q E ⟨h,g,d,t,os⟩:=by
 have f1:=tc_lookup;have f2:=tc_bind (.ref C);have j:(⟨h,g,d,t,os⟩:d9).TypeIs (.ref C) "type":=⟨_,I,rfl⟩;refine Ry (codeAny_of_tree (show wpAny _ _ (callAny (.ref C) _) _ _ _ from ?_))
 repeat (any_goals (first|assumption|with_reducible refine Oy I ?_|wp_step))
 refine⟨rfl,codeAny_call_builtin_at (Sa _ ⋯) entry_typeCall<|wpAny_check_type_call_sub I<|bR T I U Y Z hr λh' e a0 a f i=>?_⟩;exact hq h' e a0 a f i
end
end DL
namespace DL
open PySem PySem.Spec PySem.Calls PyProof.Rows PySem.W PySem.Builtin PySem.Builtin.ObjectAttr
section
variable{prog:f9}{w:f6}{A:ij}{E:EQ}{h:et}{g:Array M6}{dr:M4}{t:Nat}{os:Uy}{K:Frag}{x C d:dt}{cd:ClassData}{name:Str}{mA:UZ}{i:Int}{tk:o6}
theorem bT{tt:o6}{Q:Fin->d9->Prop}(X:K.In h){vs:Array dy}{sl:Array (Option dy)}(hx:h.get? x=cq ⟨.ref C,cq d,.fields vs,sl⟩)(hn:h.Ns1 d mA)(z:mA name=cq (.int i tk))(I:DK K C=cq cd)(a1:cd.hasDict=cI)(O:D7 K (.ref C) name=cq da)
 (U:Q (.done<|.ret<|.int i tk) ⟨h,g,dr,t,os⟩):wpAny (ef prog w) A (Builtin.«object.__getattribute__» ⟨[.ref x,.str name tt],[]⟩) Q E ⟨h,g,dr,t,os⟩:=by
 have Y:C0 (ef prog w) h (E9<|.ref x) (.ref C):=(Looks.ld hx).andThen .now;have a:=E5 (M:=ef prog w) X O;have Z:=N_ (M:=ef prog w) X I;unfold Builtin.«object.__getattribute__»
 repeat (first|(with_reducible refine wpAny_nsGet hn.ns ?_;rw[z])|(with_reducible refine Y.at ?_)|(with_reducible refine a.at ?_)|(with_reducible refine Z.at ?_)|(with_reducible refine Oy hx ?_)|wp_step)
 all_goals exact U
theorem Lp{ex:Bool}{Q:EQ}(X:K.In h)(G:D2 K C){vs:Array dy}{sl:Array (Option dy)}(hx:h.get? x=cq ⟨.ref C,cq d,.fields vs,sl⟩)(hn:h.Ns1 d mA)(hm:mA name=cq (.int i tk))(U:DK K C=cq cd)(Y:cd.hasDict=cI)(Z:D7 K (.ref C) name=cq da)
 (hq:∀t',Q (.int i tk) ⟨h,g,dr,t',os⟩):wpAny (ef prog w) A (getAttr (.ref x) name ex) Q E ⟨h,g,dr,t,os⟩:=by
 have O:bL h x C:=⟨_,_,hx,rfl,rfl⟩;have e:C0 (ef prog w) h (E9 (.ref x)) (.ref C):=(Looks.ld hx).andThen .now;have f:=E5 (M:=ef prog w) X G.ga;have j:=E5 (M:=ef prog w) X G.gn;have B:=PN.ga.bind (.ref x);unfold getAttr getAttrBy;refine Mi (_l (NA (Mi (e.at (Mi (f.at ?_))))));show wpAny _ _ (UN _ _ _ _ _ _) _ _ _;unfold UN;refine Mi (j.at ?_);refine Mi (Of (NA ?_));have a:wpAny (ef prog w) A (N6 (.builtin "BaseException.__getattribute__") (.ref x) (.str name t)) (λv b=>v=.int i tk/\b=⟨h,g,dr,t+1,os⟩) (λ_ _=>False) ⟨h,g,dr,t+1,os⟩:=by unfold N6;refine Mi (Si B ?_);refine Ry (Pd PN.ga.plain PySem.F.entry_bexc_ga (VL (s:=⟨h,g,dr,t+1,os⟩) X O G (bT X hx hn hm U Y Z ?_)));exact⟨rfl,rfl⟩
 have I b:b=(⟨h,g,dr,t+1,os⟩:d9)->wpAny (ef prog w) A (handedOut<|.int i tk) Q E b:=λz=>by subst z;exact handed_on rfl<|hq _
 cases ex with
 |false=>
  refine MG (show wpAny (ef prog w) A (N6 (.builtin "BaseException.__getattribute__") (.ref x) (.str name t)) _ _ _ from a) (λv b z=>?_) λ_ _ z=>z.elim;obtain⟨rfl,z⟩:=z;exact I _ z
 |true=>
  refine MG (show wpAny (ef prog w) A (N6 (.builtin "BaseException.__getattribute__") (.ref x) (.str name t)) _ _ _ from a) (λv b z=>?_) λ_ _ z=>z.elim;obtain⟨rfl,z⟩:=z;exact I _ z
end
end DL
namespace DL
open PySem PySem.Spec PySem.Calls PyProof.Rows
def XG(e d:dt)(h:et):Prop:=∃o,h.get? e=cq o/\o.dict=cq d
def pC(e:dt)(h:et):Prop:=∃o a,h.get? e=cq o/\o.data=.fields a/\a[2]? = cq NI
inductive DS{α:Type}:l6 α->Prop
 |pure (a:α):DS (.pure a)
 |raise (e:dy):DS (.raise e)
 |A3 (w:String):DS (.unsupported w)
 |rule {t:String} {k:Unit->l6 α} (h:∀u,DS<|k u):DS (.rule t k)
 |at {p:e8} {k:Unit->l6 α} (h:∀u,DS<|k u):DS (.at p k)
 |load {a:dt} {p:Option dy} {k:i5->l6 α} (h:∀o,DS<|k o):DS (.load a p k)
 |update {a:dt} {p:Option dy} {f:i5->i5} {k:Unit->l6 α} (hf:∀o,(f o).dict=o.dict/\(o.isFreed=di->(f o).isFreed=di)/\∀vs,o.data=.fields vs->∃A4,(f o).data=.fields A4/\A4[2]? = vs[2]?) (h:∀u,DS<|k u):DS (.update a p f k)
 |alloc {o:i5} {k:dt->l6 α} (h:∀a,DS<|k a):DS (.alloc o k)
 |register {a:dt} {k:Unit->l6 α}:DS (.register a k)
 |fresh {k:o6->l6 α} (h:∀a,DS<|k a):DS (.fresh k)
 |ask {k:Setting->l6 α} (h:∀a,DS<|k a):DS (.ask k)
 |stack {k:List (Code×e8)->l6 α} (h:∀a,DS<|k a):DS (.stack k)
 |handled {b:Bool} {k:Option dy->l6 α} (h:∀a,DS<|k a):DS (.handled b k)
 |point {l:List dy} {k:Unit->l6 α} (h:∀a,DS<|k a):DS (.point l k)
theorem Gw{z:Type}{M:C1}{Γ:PySem.Ctx}{e d:dt}{t:l6 z}(h:DS t):∀{Q:z->e8->d9->Prop} {E:dy->e8->d9->Prop} {p:e8} {s:d9},XG e d s.heap->OH M Γ t Q E p s->
 OH M Γ t (λa p' s'=>Q a p' s'/\XG e d s'.heap) (λx p' s'=>E x p' s'/\XG e d s'.heap) p s:=by
 induction h with
 |pure a=>intro Q E p s b w;rw[OH]at w ⊢;exact⟨w,b⟩
 |raise x=>intro Q E p s b w;rw[OH]at w ⊢;exact⟨w,b⟩
 |A3 x=>intro Q E p s b w;rw[OH]at w;exact w.elim
 |rule h I=>intro Q E p s b w;rw[OH]at w ⊢;exact I _ b w
 |«at» h I=>intro Q E p s b w;rw[OH]at w ⊢;exact I _ b w
 |load h I=>intro Q E p s b w;rw[OH]at w ⊢;obtain⟨o,O,w⟩:=w;exact⟨o,O,I _ b w⟩
 | @update a p f k g h I=>
  intro Q E p s b w;rw[OH]at w ⊢;obtain⟨i,w⟩:=w;refine⟨i,I _ ?_ w⟩;obtain⟨o,O,U⟩:=b;by_cases q:a=e
  ·subst q
   exact⟨f o,Nu _ O<|(g o).2.1 (Heap.get?_some_iff.mp O).2,by rw[(g o).1];exact U⟩
  ·exact⟨o,(ML _ _ q).trans O,U⟩
 |alloc h I=>intro Q E p s b w;rw[OH]at w ⊢;obtain⟨o,O,U⟩:=b;exact I _ ⟨o,Mk _ O,U⟩ w
 |register=>intro Q E p s b w;rw[OH]at w;exact w.elim
 |fresh h I=>intro Q E p s b w;rw[OH]at w ⊢;exact I _ b w
 |ask h I=>intro Q E p s b w;rw[OH]at w ⊢;exact I _ b w
 |stack h I=>intro Q E p s b w;rw[OH]at w ⊢;exact I _ b w
 |handled h I=>intro Q E p s b w;rw[OH]at w ⊢;exact I _ b w
 |point h I=>intro Q E p s b w;rw[OH]at w ⊢;exact I _ b w
theorem Bs{z:Type}{M:C1}{Γ:PySem.Ctx}{e:dt}{t:l6 z}(h:DS t):∀{Q:z->e8->d9->Prop} {E:dy->e8->d9->Prop} {p:e8} {s:d9},pC e s.heap->OH M Γ t Q E p s->
 OH M Γ t (λa p' s'=>Q a p' s'/\pC e s'.heap) (λx p' s'=>E x p' s'/\pC e s'.heap) p s:=by
 induction h with
 |pure a=>intro Q E p s b w;rw[OH]at w ⊢;exact⟨w,b⟩
 |raise x=>intro Q E p s b w;rw[OH]at w ⊢;exact⟨w,b⟩
 |A3 x=>intro Q E p s b w;rw[OH]at w;exact w.elim
 |rule h I=>intro Q E p s b w;rw[OH]at w ⊢;exact I _ b w
 |«at» h I=>intro Q E p s b w;rw[OH]at w ⊢;exact I _ b w
 |load h I=>intro Q E p s b w;rw[OH]at w ⊢;obtain⟨o,O,w⟩:=w;exact⟨o,O,I _ b w⟩
 | @update a p f k i h I=>
  intro Q E p s b w;rw[OH]at w ⊢;obtain⟨j,w⟩:=w;refine⟨j,I _ ?_ w⟩;obtain⟨o,d,O,U,Y⟩:=b;by_cases q:a=e
  ·subst q
   obtain⟨g,l,Z⟩:=(i o).2.2 d U;exact⟨f o,g,Nu _ O<|(i o).2.1 (Heap.get?_some_iff.mp O).2,l,Z.trans Y⟩
  ·exact⟨o,d,(ML _ _ q).trans O,U,Y⟩
 |alloc h I=>intro Q E p s b w;rw[OH]at w ⊢;obtain⟨o,d,O,U⟩:=b;exact I _ ⟨o,d,Mk _ O,U⟩ w
 |register=>intro Q E p s b w;rw[OH]at w;exact w.elim
 |fresh h I=>intro Q E p s b w;rw[OH]at w ⊢;exact I _ b w
 |ask h I=>intro Q E p s b w;rw[OH]at w ⊢;exact I _ b w
 |stack h I=>intro Q E p s b w;rw[OH]at w ⊢;exact I _ b w
 |handled h I=>intro Q E p s b w;rw[OH]at w ⊢;exact I _ b w
 |point h I=>intro Q E p s b w;rw[OH]at w ⊢;exact I _ b w
theorem mz{z:Type}{M:C1}{A:ij}{e d:dt}{t:l6 z}{Q:z->d9->Prop}{E:EQ}{s:d9}(h:DS t)(O:XG e d s.heap)(w:wpAny M A t Q E s):
 wpAny M A t (λa s'=>Q a s'/\XG e d s'.heap) (λx s'=>E x s'/\XG e d s'.heap) s:=λΓ p I=>Gw h O<|w Γ p I
theorem YH{z:Type}{M:C1}{A:ij}{e:dt}{t:l6 z}{Q:z->d9->Prop}{E:EQ}{s:d9}(h:DS t)(O:pC e s.heap)(w:wpAny M A t Q E s):
 wpAny M A t (λa s'=>Q a s'/\pC e s'.heap) (λx s'=>E x s'/\pC e s'.heap) s:=λΓ p I=>Bs h O<|w Γ p I
theorem DS.bind{z β:Type}{t:l6 z}{k:z->l6 β}(h:DS t)(O:∀a,DS<|k a):DS (t >>= k):=by
 show DS (Sem.bind t k)
 induction h with
 |pure a=>exact O a
 |raise x=>exact .raise x
 |A3 x=>exact .A3 x
 |rule h I=>exact .rule I
 |«at» h I=>exact .at I
 |load h I=>exact .load I
 |update b h I=>exact .update b I
 |alloc h I=>exact .alloc I
 |register=>exact .register
 |fresh h I=>exact .fresh I
 |ask h I=>exact .ask I
 |stack h I=>exact .stack I
 |handled h I=>exact .handled I
 |point h I=>exact .point I
theorem QZ(g:Array dy->Array dy)(I:∀vs,(g vs)[2]? = vs[2]?)(o:i5):(Obj.mapFields g o).dict=o.dict/\(o.isFreed=di->(Obj.mapFields g o).isFreed=di)/\∀vs,o.data=.fields vs->∃z,(Obj.mapFields g o).data=.fields z/\z[2]? = vs[2]? :=by obtain⟨c,d,O,a⟩:=o;cases O<;>first|exact⟨rfl,λh=>h,λvs q=>by cases q;exact⟨_,rfl,I _⟩⟩|exact⟨rfl,λh=>h,λvs q=>nomatch q⟩
theorem J2(v:dy)(i:Nat):DS (field v i):=by
 unfold field fieldsOf load
 repeat (first|exact DS.A3 _|exact DS.pure _|exact DS.raise _|exact DS.register|refine DS.bind ?_ λ_=>?_|refine DS.load λ_=>?_|refine DS.rule λ_=>?_|refine DS.alloc λ_=>?_|refine DS.stack λ_=>?_|refine DS.update (λo=>⟨rfl,λh=>h,λa q=>⟨a,q,rfl⟩⟩) λ_=>?_|refine DS.update (QZ _<|by intro a;simp[OC,UP]) λ_=>?_|split)
theorem Zr(v:dy)(i:Nat)(x:dy)(I:i≠2:=by decide):DS (L7 v i x):=by
 unfold L7 updateField update load
 repeat (first|exact DS.A3 _|exact DS.pure _|exact DS.raise _|exact DS.register|refine DS.bind ?_ λ_=>?_|refine DS.load λ_=>?_|refine DS.rule λ_=>?_|refine DS.alloc λ_=>?_|refine DS.stack λ_=>?_|refine DS.update (λo=>⟨rfl,λh=>h,λa q=>⟨a,q,rfl⟩⟩) λ_=>?_|refine DS.update (QZ _<|by intro a;simp[OC,I]) λ_=>?_|split)
theorem wc(e:dy)(f:Option dt):DS (T7 e f):=by
 unfold T7;refine DS.bind (J2 _ _) λ_=>?_;split
 ·exact Zr _ _ _
 ·exact DS.pure _
theorem EU(ty:String)(vs:List dy):DS (newFields ty vs):=by
 unfold newFields newObj newObjAsIs
 repeat (first|exact DS.A3 _|exact DS.pure _|exact DS.raise _|exact DS.register|refine DS.bind ?_ λ_=>?_|refine DS.load λ_=>?_|refine DS.rule λ_=>?_|refine DS.alloc λ_=>?_|refine DS.stack λ_=>?_|refine DS.update (λo=>⟨rfl,λh=>h,λvs q=>⟨vs,q,rfl⟩⟩) λ_=>?_|refine DS.update (QZ _<|by intro vs;simp[OC,UP]) λ_=>?_|split)
theorem oS(f:dt)(b:Bool):DS (C' f b):=by
 unfold C' stack
 repeat (first|exact DS.A3 _|exact DS.pure _|exact DS.raise _|exact DS.register|refine DS.bind ?_ λ_=>?_|refine DS.load λ_=>?_|refine DS.rule λ_=>?_|refine DS.alloc λ_=>?_|refine DS.stack λ_=>?_|refine DS.update (λo=>⟨rfl,λh=>h,λa q=>⟨a,q,rfl⟩⟩) λ_=>?_|refine DS.update (QZ _<|by intro a;simp[OC,UP]) λ_=>?_|split)
theorem lu:DS L?:=by
 unfold L?
 repeat (first|exact DS.A3 _|exact DS.pure _|exact DS.raise _|exact DS.register|refine DS.bind ?_ λ_=>?_|refine DS.load λ_=>?_|refine DS.rule λ_=>?_|refine DS.alloc λ_=>?_|refine DS.stack λ_=>?_|refine DS.update (λo=>⟨rfl,λh=>h,λa q=>⟨a,q,rfl⟩⟩) λ_=>?_|refine DS.update (QZ _<|by intro a;simp[OC,UP]) λ_=>?_|split)
theorem lx(env:j1)(outer:List j1):DS (behindIsImport env outer):=by
 unfold behindIsImport;split
 ·exact DS.pure _
 ·split
  ·exact DS.pure _
  ·exact DS.bind (J2 _ _) λ_=>DS.pure _
theorem Av(env:j1)(b:Bool)(outer:List j1):DS (keptBack env b outer):=by
 unfold keptBack;split
 ·split
  ·exact DS.pure _
  ·exact DS.bind lu λ_=>DS.pure _
 ·exact DS.pure _
theorem bz:∀l:List j1,DS (readyFrames l)
 |[]=>DS.pure _
 | env::outer=>by
  unfold readyFrames;split
  ·unfold load update
   refine DS.bind (DS.load λ_=>DS.pure _) λo=>?_;split
   ·exact DS.pure _
   ·refine DS.bind (lx _ _) λ_=>DS.bind (Av _ _ _) λ_=>DS.bind (DS.update (λo=>⟨rfl,λh=>by obtain⟨c,d,I,a⟩:=o;cases I<;>exact h,λb q=>⟨b,by obtain⟨c,d,I,a⟩:=o;cases q;rfl,rfl⟩⟩) λ_=>DS.pure _) λ_=>bz outer
  ·exact DS.A3 _
theorem oT(env:j1):DS (PySem.frameOf env):=by
 unfold PySem.frameOf frameEnvs stack;refine DS.bind (DS.bind (DS.stack λ_=>DS.pure _) λ_=>DS.pure _) λl=>DS.bind ?_ λ_=>?_
 ·unfold frameObject
  split
  ·exact DS.pure _
  ·exact DS.bind (bz _) λ_=>DS.pure _
 ·split
  ·exact DS.pure _
  ·exact DS.A3 _
theorem lr(e:dy)(env:j1):DS (Ta e env):=by
 unfold Ta;split
 ·refine DS.bind (J2 _ _) λa=>?_
  have I:∀f:dt,∀b:Bool,DS (do L7 e 1 (<-EntryCells.newEntry a (<-PySem.frameOf env) .none (xg f) .none (<-C' f b))):=λf b=>by refine DS.bind (oT _) λ_=>DS.bind (oS _ _) λ_=>?_;unfold EntryCells.newEntry;exact DS.bind (EU _ _) λ_=>Zr _ _ _
  split
  ·refine DS.bind (J2 _ _) λ_=>?_
   split
   ·exact DS.pure _
   ·exact DS.bind (Zr _ _ _) λ_=>I _ _
  ·exact I _ _
 ·exact DS.A3 _
theorem Jv(env:j1)(e:dy):DS (E2 env e):=by unfold E2;exact DS.bind (lr _ _) λ_=>wc _ _
def o5(od:Option dt)(e:dt)(h:et):Prop:=(∀d,od=cq d->XG e d h)/\(od=da->pC e h)
theorem o5.obj{od:Option dt}{e:dt}{I g2:et}(x:o5 od e I)(k:∀o,I.get? e=cq o->g2.get? e=cq o):o5 od e g2:=
 ⟨λd q=>by obtain⟨o,z,r⟩:=x.1 d q;exact⟨o,k o z,r⟩,λq=>by obtain⟨o,a,z,r⟩:=x.2 q;exact⟨o,a,k o z,r⟩⟩
theorem vH{O:Type}{M:C1}{A:ij}{e:dt}{od:Option dt}{t:l6 O}{Q:O->d9->Prop}{E:EQ}{s:d9}(h:DS t)(I:o5 od e s.heap)(w:wpAny M A t Q E s):
 wpAny M A t (λa s'=>Q a s'/\o5 od e s'.heap) E s:=by
 cases od with
 |none=>exact MG (YH h (I.2 rfl) w) (λa s' z=>⟨z.1,(λd q=>nomatch q),λ_=>z.2⟩) λ_ _ z=>z.1
 |some d=>exact MG (mz h (I.1 d rfl) w) (λa s' z=>⟨z.1,(λb q=>by cases q;exact z.2),λq=>nomatch q⟩) λ_ _ z=>z.1
section
variable{M:C1}{A:ij}{E:EQ}{s:d9}{base:et}{env:j1}{l outer:List j1}{L e:dt}{cls a0:dy}{od:Option dt}{Q:Unit->d9->Prop}
theorem Eo(I:A.frames=cq (env::outer))(Z:env.frame=cq L)(O:ON base (env::outer) e cls a0 s.heap)(Y:o5 od e s.heap)
 (U:∀h',Heap.HeldW base (env::outer) e cls a0 L h'->s.heap.UpToSlots h'->o5 od e h'->Q () {s with heap:=h'}):wpAny M A (Ta (.ref e) env) Q E s:=by
 refine MG (vH (lr _ _) Y<|wpAny_looks_onW (Q:=λ_ a=>∃h',a = {s with heap:=h'}/\Heap.HeldW base (env::outer) e cls a0 L h'/\s.heap.UpToSlots h') I Z O λh' x y=>⟨h',rfl,x,y⟩) (λ_ a z=>?_) λ_ _ z=>z;obtain⟨⟨h',rfl,x,y⟩,w⟩:=z;exact U h' x y w
theorem Er(I:Heap.HeldW base l e cls a0 L s.heap)(Y:o5 od e s.heap)(O:∀h',ON base l e cls a0 h'->s.heap.UpToSlots h'->o5 od e h'->Q () {s with heap:=h'}):wpAny M A (T7 (.ref e) da) Q E s:=by refine MG (vH (wc _ _) Y<|wpAny_landsW (Q:=λ_ a=>∃h',a = {s with heap:=h'}/\ON base l e cls a0 h'/\s.heap.UpToSlots h') I λh' x y=>⟨h',rfl,x,y⟩) (λ_ a z=>?_) λ_ _ z=>z;obtain⟨⟨h',rfl,x,y⟩,w⟩:=z;exact O h' x y w
theorem Fk(I:ON base l e cls a0 s.heap)(Y:o5 od e s.heap)(O:∀h',ON base l e cls a0 h'->s.heap.UpToSlots h'->o5 od e h'->Q () {s with heap:=h'}):wpAny M A (T7 (.ref e) da) Q E s:=by refine MG (vH (wc _ _) Y<|lands_againW (Q:=λ_ a=>∃h',a = {s with heap:=h'}/\ON base l e cls a0 h'/\s.heap.UpToSlots h') I λh' x y=>⟨h',rfl,x,y⟩) (λ_ a z=>?_) λ_ _ z=>z;obtain⟨⟨h',rfl,x,y⟩,w⟩:=z;exact O h' x y w
theorem uU(I:A.frames=cq (env::outer))(Z:env.frame=cq L)(O:ON base (env::outer) e cls a0 s.heap)(Y:o5 od e s.heap)
 (U:∀h',ON base outer e cls a0 h'->s.heap.UpToSlots h'->o5 od e h'->Q () {s with heap:=h'}):wpAny M A (E2 env<|.ref e) Q E s:=by
 refine MG (vH (Jv _ _) Y<|wpAny_leaves_onW (Q:=λ_ a=>∃h',a = {s with heap:=h'}/\ON base outer e cls a0 h'/\s.heap.UpToSlots h') I Z O λh' x y=>⟨h',rfl,x,y⟩) (λ_ a z=>?_) λ_ _ z=>z;obtain⟨⟨h',rfl,x,y⟩,w⟩:=z;exact U h' x y w
theorem EM{I:i5}{vs:Array dy}(O:A.frames=cq (env::outer))(U:s.heap.FunFrames base (env::outer))(hf:env.frame=cq L)(Y:s.heap.get? e=cq I)(Z:base.StaysIn s.heap)(a1:base.get? e=da)(a2:I.data=.fields vs)
 (h1:vs[1]? = cq .none) (h0:vs[0]? = cq a0) (hd:o5 od e s.heap) (hQ:∀h',Heap.LeftW base (env::outer) e I.cls a0 s.heap h'->o5 od e h'->Q () {s with heap:=h'}):wpAny M A (E2 env<|.ref e) Q E s:=by
 refine MG (vH (Jv _ _) hd<|wpAny_leaving_firstW (Q:=λ_ a=>∃h',a = {s with heap:=h'}/\Heap.LeftW base (env::outer) e I.cls a0 s.heap h') O U hf Y Z a1 a2 h1 h0 λh' x=>⟨h',rfl,x⟩) (λ_ a z=>?_) λ_ _ z=>z;obtain⟨⟨h',rfl,x⟩,w⟩:=z;exact hQ h' x w
end
end DL
namespace DL
open PySem PySem.Spec PyProof.Rows L2
theorem yK{P:f9}{w:f6}{H:Hp}{h:et}{a:dt}{o:HO}(x:ir P w H h a o):∃I,h.get? a=cq I:=by
 induction o with
 |lst d=>obtain⟨_,_,_,_,e⟩:=x;exact⟨_,e⟩
 |tup d=>obtain⟨_,_,_,I,e,_⟩:=x;exact⟨_,e⟩
 |dK b=>obtain⟨_,_,_,_,o,_,_,e,_⟩:=x;exact⟨_,e⟩
 |dT b=>obtain⟨_,_,_,_,o,_,_,e,_⟩:=x;exact⟨_,e⟩
 |set S n=>obtain⟨o,_,_,_,e,_⟩:=x;exact⟨_,e⟩
 |ins C g fs=>obtain⟨_,_,_,e,_⟩:=x;exact⟨_,e⟩
 |own y=>obtain⟨_,e⟩:=x;exact⟨_,e⟩
 |xd fs=>obtain⟨_,⟨_,_,_,e,_⟩,_⟩:=x;exact⟨_,e⟩
 |m4 lo i=>obtain⟨_,_,_,e⟩:=x;exact⟨_,e⟩
 |rn I u _=>obtain⟨e,_⟩:=x;exact⟨_,e⟩
 |DV j=>exact⟨_,(show h.get? a=cq _ from x)⟩
 |met f y=>exact⟨_,(show h.get? a=cq _ from x)⟩
 |ext k=>obtain⟨_,⟨_,e⟩,_⟩:=x;exact⟨_,e⟩
theorem vg{P:f9}{w:f6}{H:Hp}{h h':et}(x:kv P w H h)(k:∀b u,H b≠da->h.get? b=cq u->h'.get? b=cq u):kv P w H h':=λa o e=>
 (x a o e).vl (λb u I q=>k b u (by
   rcases I with rfl|I
   ·rw[e];simp
   ·rw[I];simp) q) (λ_ q=>q) λ_ _ q=>q
theorem Ai{P:f9}{w:f6}{H:Hp}{h:et}{a:dt}{z:et->Prop}(x:kv P w H h)(Z:H a=da)(h1:z h)(U:∃o,h.get? a=cq o)
 (Y:∀I g2:et,z I->(∀o,I.get? a=cq o->g2.get? a=cq o)->z g2):kv P w (upd H a<|.ext z) h:=λb o e=>by
 by_cases O:b=a
 ·subst O;rw[zF]at e;cases e;exact⟨h1,U,Y⟩
 ·rw[zE O]at e
  exact(x b o e).vl (λ_ _ _ q=>q) (λc q=>by rw[zE (z6 q Z)];exact q) λc d q=>by rw[zE (z6 q Z)];exact q
structure _p(l:List j1)(a C:dt)(H':Hp)(h0 h:et):Prop where
 ex:∃B t,ON B l a (.ref C) (.ref t) h/\(∀b o,h.get? b=cq o->H' b≠da->B.get? b=cq o)/\∀b o,h.get? b=cq o->h0.get? b≠da->b∉mu l->B.get? b=cq o
def n9(P:f9)(w:f6):vt:=λb H s E e d=>∃a C f g,e=.ref a/\E (.ref C) g f/\o5 g a d.heap/\d.os=s.os/\C9 d.gens/\Un (mu b) [] H f s.heap d.heap/\kv P w f d.heap/\f a=da/\s.heap.get? a=da/\_p b a C f s.heap d.heap
section
variable{P:f9}{w:f6}{K:Mj}{mg:UZ}{base:et}{N:List Str}{qual:Str}{scope:gx}{f:dt}{cd:dy}{A:ij}{outer:List j1}{s:d9}{H:Hp}{E:XK}
theorem Ks{pins:UQ}{σ:St}{H1:Hp}{s1:d9}{h':et}{a C:dt}{vs:List dy}(I:Inv (VQ (n9 P w) P w K mg base N qual scope f cd A outer s H E) pins σ H1 s1)
 (hx:Heap.MadeExcOf s1.heap h' a (.ref C) vs) (hE:E (.ref C) da H1):(VQ (n9 P w) P w K mg base N qual scope f cd A outer s H E).xe (.ref a) {s1 with heap:=h'}:=by
 generalize U:VQ (n9 P w) P w K mg base N qual scope f cd A outer s H E=X at I;have B:X.stack=X.env::X.outer:=by rw[<-U];rfl
 have S:X.env.frame=cq X.env.locals:=by rw[<-U];rfl
 have Z:X.ex=[]:=by rw[<-U];rfl
 have T:=I.stack;have DU:=I.O7;have aq:∀env∈X.stack,∀b,env.frame=cq b->b∈mu X.stack:=λenv he b O=>RX.mpr ⟨env,he,O⟩;have p b o:X.h8.heap.get? b=cq o->∃i,s1.heap.get? b=cq i:=λq=>I.base.there b o q (by rw[Z];simp);have as b o:X.h8.heap.get? b=cq o->b≠X.env.locals:=λq=>ME<|MA (Mt q) I.ok.above;have a4 b o:X.h8.heap.get? b=cq o->b∉X.fs->b∉mu X.stack:=λq n j=>by
  rcases Mr.mp (I.L9 b j)with z|z
  ·exact as b o q z
  ·exact n z
 have G:wpAny (ef P w) X.A (E2 X.env<|.ref a) (λ_ Y=>n9 P w outer H s E (.ref a) Y) (λr Y=>n9 P w outer H s E r Y) {s1 with heap:=h'}:=by
  have f2:pC a h':=by obtain⟨t,q,_⟩:=hx.there;exact⟨_,_,q,rfl,rfl⟩
  refine MG (YH (e:=a) (s:={s1 with heap:=h'}) (Jv X.env<|.ref a) f2 (Q:=λ_ Y=>pC a Y.heap->n9 P w outer H s E (.ref a) Y) (E:=λr Y=>n9 P w outer H s E r Y) ?_) (λ_ _ z=>z.1 z.2) λ_ _ z=>z.1;refine wpAny_leaves_madeW (base:=Rz s1.heap<|mu X.stack) (h:=s1.heap) (env:=X.env) (outer:=X.outer) (by rw[<-B];exact I.ok.frames) S (λb o q=>SY _ q)
   (by rw[<-B];exact PySem.W.funFrames_hide T aq) hx λb0 t M x2 x3 R b1=>?_
  have g b o:s1.heap.get? b=cq o->b∉mu X.stack->b0.get? b=cq o:=λq n=>M.1 b o<|Pw _ q n;have e1:X.outer=outer:=by rw[<-U];rfl
  have e2:X.DD=H:=by rw[<-U];rfl
  have e3:X.h8=s:=by rw[<-U];rfl
  have e4:X.prog=P:=by rw[<-U];rfl
  have e5:X.w=w:=by rw[<-U];rfl
  have L b u:H1 b=cq u->∃o,s1.heap.get? b=cq o:=λq=>yK<|I.eH b u q;have ad b u:H1 b=cq u->b∉mu X.stack:=λq j=>by rw[DU b j]at q;cases q
  have b6:H1 a=da:=by
   cases q:H1 a with
   |none=>rfl
   |some u=>obtain⟨o,z⟩:=L a u q;rw[hx.new]at z;cases z
  have b7:X.h8.heap.get? a=da:=by
   cases q:X.h8.heap.get? a with
   |none=>rfl
   |some o=>obtain⟨i,z⟩:=p a o q;rw[hx.new]at z;cases z
  rw[<-e3]at *;rw[<-e2]at *;subst e1;refine⟨a,C,H1,da,rfl,hE,⟨(λd q=>nomatch q),λ_=>b1⟩,?_,I.bare,⟨λb o q n O _=>?_,λb o q n O _=>?_,λb o q n _=>?_,λb o q _=>?_,I.base.u5,I.base.tu,I.base.u4⟩,?_,b6,b7,⟨_,t,M,λb o q n=>?_,λb o q n O=>?_⟩⟩
  ·exact I.os
  ·exact g b o (I.base.keep b o q n O<|by rw[Z];simp)<|a4 b o q O
  ·obtain⟨sl,z⟩:=I.base.slot b o q n O (by rw[Z];simp)
   have k:∀vs,o.data ≠ .fields vs:=by obtain⟨_,i,m,y⟩:=I.ok.o8.mem O;rw[q]at m;cases m;exact y
   obtain⟨F,x⟩:=R b _ (hx.keeps b _ z) k;exact⟨F,x⟩
  ·exact I.base.free b o q n (by rw[Z];simp)
  ·obtain⟨i,z⟩:=p b o q
   by_cases O:b∈X.fs
   ·obtain⟨_,l,m,y⟩:=I.o8.mem O
    obtain⟨F,x⟩:=R b _ (hx.keeps b _ m) y;exact⟨_,x⟩
   ·exact⟨i,g b i z<|a4 b o q O⟩
  ·rw[<-e4,<-e5]
   exact vg I.eH λb u n q=>g b u q λj=>n<|DU b j
  ·cases q1:H1 b with
   |none=>exact absurd q1 n
   |some u=>
    obtain⟨l,z⟩:=L b u q1;have:=g b l z<|ad b u q1;rw[q]at this;cases this;exact Pw _ z<|ad b u q1
  ·cases q1:X.h8.heap.get? b with
   |none=>exact absurd q1 n
   |some J=>
    obtain⟨l,z⟩:=p b J q1;have k:=a4 b J q1 O;have:=g b l z k;rw[q]at this;cases this;exact Pw _ z k
 rw[<-U]at G ⊢;exact G
theorem Xf{pins:UQ}{σ:St}{H1:Hp}{s1 s':d9}{e:dy}{E':XK}(I:Inv (VQ (n9 P w) P w K mg base N qual scope f cd A outer s H E) pins σ H1 s1)
 (hx:n9 P w (VQ (n9 P w) P w K mg base N qual scope f cd A outer s H E).stack H1 s1 E' e s') (hE:∀c o H',E' c o H'->E c o H'):(VQ (n9 P w) P w K mg base N qual scope f cd A outer s H E).xe e s':=by
 generalize hX:VQ (n9 P w) P w K mg base N qual scope f cd A outer s H E=X at I hx;have r:X.stack=X.env::X.outer:=by rw[<-hX];rfl
 have Q:X.env.frame=cq X.env.locals:=by rw[<-hX];rfl
 have Y:X.ex=[]:=by rw[<-hX];rfl
 have h b o:X.h8.heap.get? b=cq o->∃j,s1.heap.get? b=cq j:=λq=>I.base.there b o q (by rw[Y];simp);have R b o:X.h8.heap.get? b=cq o->b≠X.env.locals:=λq=>ME<|MA (Mt q) I.ok.above;have a5 b o:X.h8.heap.get? b=cq o->b∉X.fs->b∉mu X.stack:=λq n hm=>by
  rcases Mr.mp (I.L9 b hm)with z|z
  ·exact R b o q z
  ·exact n z
 obtain⟨a,C,H',od,rfl,hC,S,T,W,un,eH,b2,b3,⟨B,t,x,ak,a7⟩⟩:=hx;have y:wpAny (ef P w) X.A (E2 X.env<|.ref a) (λ_ m=>n9 P w outer H s E (.ref a) m) (λe' m=>n9 P w outer H s E e' m) s':=by
  rw[r]at x;refine uU (by rw[<-r];exact I.ok.frames) Q x S λb5 G J b6=>?_;have st b o:B.get? b=cq o->b5.get? b=cq o:=λq=>G.1 b o q;have e1:X.outer=outer:=by rw[<-hX];rfl
  have e2:X.DD=H:=by rw[<-hX];rfl
  have e3:X.h8=s:=by rw[<-hX];rfl
  have tr b u:H' b=cq u->∃o,s'.heap.get? b=cq o:=λq=>yK<|eH b u q;have bb:X.h8.heap.get? a=da:=by
   cases q:X.h8.heap.get? a with
   |none=>rfl
   |some o=>obtain⟨j,z⟩:=h a o q;rw[b3]at z;cases z
  rw[<-e3]at *;rw[<-e2]at *;subst e1;refine⟨a,C,H',od,rfl,hE _ _ _ hC,b6,?_,W,⟨λb o q n O _=>?_,λb o q n O _=>?_,λb o q n _=>?_,λb o q _=>?_,λb L q=>un.u5 b L<|I.base.u5 b L q,λb o u q=>un.tu b o u<|I.base.tu b o u q,λb ps q=>?_⟩,?_,b2,bb,⟨B,t,G,λb o q n=>?_,λb o q n O=>?_⟩⟩
  ·exact T.trans I.os
  ·have i:=I.base.keep b o q n O (by rw[Y];simp)
   have k2:=un.keep b o i (I.base.free b o q n<|by rw[Y];simp) (a5 b o q O) ⋯;exact st b o<|a7 b o k2 (by rw[i];simp)<|a5 b o q O
  ·obtain⟨sl,z⟩:=I.base.slot b o q n O (by rw[Y];simp)
   have p:∀vs,o.data ≠ .fields vs:=by obtain⟨_,j,k,U⟩:=I.ok.o8.mem O;rw[q]at k;cases k;exact U
   obtain⟨bd,U⟩:=un.any z (I.base.free b o q n<|by rw[Y];simp) ⋯;obtain⟨be,z'⟩:=J b _ U p;exact⟨be,z'⟩
  ·obtain⟨Z,i⟩:=h b o q
   exact un.free b Z i (I.base.free b o q n<|by rw[Y];simp) ⋯
  ·obtain⟨Z,z⟩:=h b o q
   obtain⟨g,U⟩:=un.there b Z z ⋯;by_cases O:b∈X.fs
   ·obtain⟨_,j,M,y2⟩:=I.ok.o8.mem O
    rw[q]at M;cases M;obtain⟨sl,d⟩:=I.base.any q (I.ok.zt b O) (by rw[Y];simp);obtain⟨bd,l⟩:=un.any d (I.base.free b o q (I.ok.zt b O)<|by rw[Y];simp) ⋯;obtain⟨bv,z5⟩:=J b _ l y2;exact⟨_,z5⟩
   ·exact⟨g,st b g<|a7 b g U (by rw[z];simp)<|a5 b o q O⟩
  ·obtain⟨m1,k⟩:=I.base.u4 b ps q
   obtain⟨m2,U⟩:=un.u4 b _ k;exact⟨m1++m2,by rw[U,Array.append_assoc]⟩
  ·exact vg eH λb u n q=>st b u<|ak b u q n
  ·cases q1:H' b with
   |none=>exact absurd q1 n
   |some u=>
    obtain⟨Z,z⟩:=tr b u q1;have U:=ak b Z z (by rw[q1];simp);have d:=st b Z U;rw[q]at d;cases d;exact U
  ·cases q1:X.h8.heap.get? b with
   |none=>exact absurd q1 n
   |some F=>
    obtain⟨Z,z⟩:=h b F q1;obtain⟨g,U⟩:=un.there b Z z ⋯;have p:=a5 b F q1 O;have d:=a7 b g U (by rw[z];simp) p;have l:=st b g d;rw[q]at l;cases l;exact d
 rw[<-hX]at y ⊢;exact y
theorem Kt{pins:UQ}{σ:St}{H1:Hp}{s1:d9}{a C d t:dt}{φ:et->Prop}(I:Inv (VQ (n9 P w) P w K mg base N qual scope f cd A outer s H E) pins σ H1 s1)
 (l?:H1 a=cq (.ext φ)) (he:s1.heap.get? a=cq (Yn C (cq d) t)) (hs:s.heap.get? a=da) (hE:E (.ref C) (cq d) (λb=>if b=a then da else H1 b)):(VQ (n9 P w) P w K mg base N qual scope f cd A outer s H E).xe (.ref a) s1:=by
 generalize U:VQ (n9 P w) P w K mg base N qual scope f cd A outer s H E=X at I;have J:X.stack=X.env::X.outer:=by rw[<-U];rfl
 have b0:X.env.frame=cq X.env.locals:=by rw[<-U];rfl
 have i:X.ex=[]:=by rw[<-U];rfl
 have b1:=I.stack;have y:=I.O7;have b2:∀env∈X.stack,∀b,env.frame=cq b->b∈a::mu X.stack:=λenv he b O=>MO _<|RX.mpr ⟨env,he,O⟩;have L b o:X.h8.heap.get? b=cq o->∃h,s1.heap.get? b=cq h:=λq=>I.base.there b o q (by rw[i];simp);have b3 b o:X.h8.heap.get? b=cq o->b≠X.env.locals:=λq=>ME<|MA (Mt q) I.ok.above;have a7 b o:X.h8.heap.get? b=cq o->b∉X.fs->b∉mu X.stack:=λq n x=>by
  rcases Mr.mp (I.L9 b x)with z|z
  ·exact b3 b o q z
  ·exact n z
 have e1:X.outer=outer:=by rw[<-U];rfl
 have e2:X.DD=H:=by rw[<-U];rfl
 have S:X.h8=s:=by rw[<-U];rfl
 have e4:X.prog=P:=by rw[<-U];rfl
 have e5:X.w=w:=by rw[<-U];rfl
 have off b o:H1 b=cq o->(∀φ,o ≠ .ext φ)->(if b=a then da else H1 b)=cq o:=λq z=>by rw[UY (λw=>by rw[w,l?]at q;cases q;exact z _ rfl),q]
 have M:X.h8.heap.get? a=da:=by rw[S];exact hs
 have b7:kv X.prog X.w (λb=>if b=a then da else H1 b) s1.heap:=λb o q=>by
  have q:(if b=a then da else H1 b)=cq o:=q;by_cases O:b=a
  ·rw[UJ O]at q;cases q
  ·rw[UY O]at q
   exact(I.eH b o q).vl (λ_ _ _ z=>z) (λc z=>off c _ z<|λφ w=>nomatch w) λc xs z=>off c _ z<|λφ w=>nomatch w
 have T:wpAny (ef P w) X.A (E2 X.env<|.ref a) (λ_ r=>n9 P w outer H s E (.ref a) r) (λe' r=>n9 P w outer H s E e' r) s1:=by
  have Q:(Rz s1.heap (a::mu X.stack)).get? a=da:=PySem.W.hideAll_none _ ⋯;refine EM (od:=cq d) (base:=Rz s1.heap (a::mu X.stack)) (env:=X.env) (outer:=X.outer) (a0:=.ref t) (by rw[<-J];exact I.ok.frames) (by rw[<-J];exact PySem.W.funFrames_hide b1 b2) b0 he (λb o q=>SY _ q) Q rfl rfl rfl
   ⟨(λd' q=>by cases q;exact⟨_,he,rfl⟩),λq=>nomatch q⟩ λb9 hL bd=>?_
  obtain⟨k1,⟨_,_,k2⟩,k3,x4⟩:=hL;have UT b o:s1.heap.get? b=cq o->b≠a->b∉mu X.stack->(Rz s1.heap (a::mu X.stack)).get? b=cq o:=λq e Y=>Pw _ q (by simp[e];exact Y);have Z b o:s1.heap.get? b=cq o->b≠a->b∉mu X.stack->b9.get? b=cq o:=λq e Y=>k1 b o<|UT b o q e Y;rw[<-S]at *;rw[<-e2]at *;subst e1;have g b o:X.h8.heap.get? b=cq o->b≠a:=λq z=>by rw[z,M]at q;cases q
  have B b:(if b=a then da else H1 b)≠da->b≠a/\b∉mu X.stack/\∃o,s1.heap.get? b=cq o:=λn=>by
   by_cases O:b=a
   ·rw[UJ O]at n;exact absurd rfl n
   ·rw[UY O]at n
    cases q:H1 b with
    |none=>exact absurd q n
    |some u=>exact⟨O,(λx=>by rw[y b x]at q;cases q),yK<|I.eH b u q⟩
  refine⟨a,C,_,cq d,rfl,hE,bd,I.os,I.bare,⟨λb o q n O _=>?_,λb o q n O _=>?_,λb o q n _=>?_,λb o q _=>?_,λb xs q=>off b _ (I.base.u5 b xs q)<|λφ w=>(nomatch w),λb o u q=>off b _ (I.base.tu b o u q)<|λφ w=>(nomatch w),λb ps q=>?_⟩,?_,UJ rfl,M,⟨_,t,⟨k1,Q,k2,k3⟩,λb o q n=>?_,λb o q n O=>?_⟩⟩
  ·exact Z b o (I.base.keep b o q n O<|by rw[i];simp) (g b o q)<|a7 b o q O
  ·obtain⟨sl,z⟩:=I.base.slot b o q n O (by rw[i];simp)
   have j:∀vs,o.data ≠ .fields vs:=by obtain⟨_,h,p,G⟩:=I.ok.o8.mem O;rw[q]at p;cases p;exact G
   obtain⟨R,F⟩:=x4 b _ z j;exact⟨R,F⟩
  ·rw[UY (g b o q)];exact I.base.free b o q n (by rw[i];simp)
  ·obtain⟨h,z⟩:=L b o q
   by_cases O:b∈X.fs
   ·obtain⟨_,l,p,G⟩:=I.o8.mem O
    obtain⟨R,F⟩:=x4 b _ p G;exact⟨_,F⟩
   ·exact⟨h,Z b h z (g b o q)<|a7 b o q O⟩
  ·obtain⟨m,z⟩:=I.base.u4 b ps q
   exact⟨m,off b _ z<|λφ w=>nomatch w⟩
  ·rw[<-e4,<-e5]
   exact vg b7 λb u n q=>Z b u q (B b n).1 (B b n).2.1
  ·obtain⟨e,Y,l,z⟩:=B b n
   have:=Z b l z e Y;rw[q]at this;cases this;exact UT b o z e Y
  ·cases q1:X.h8.heap.get? b with
   |none=>exact absurd q1 n
   |some k=>
    obtain⟨l,z⟩:=L b k q1;have j:=a7 b k q1 O;have:=Z b l z (g b k q1) j;rw[q]at this;cases this;exact UT b o z (g b k q1) j
 rw[<-U]at T ⊢;exact T
end
def Bn(o:i5):Option ClassData:=match o.data with
 |.cls a=>cq a
 |_=>da
def Gv(K:Mj)(C:dt):Bool:=match K.lookup C with
 |some o=>o.cls==Oc "type"&&o.slots.size==6&&(o.slots.toList.drop 4).take 1 == [cq (Value.builtin "ValueError.__new__")]&&(match Bn o with
  |some a=>a.mro.take 1 == [MP C]&&!a.hasDel&&RP K s9 (a.mro.drop 1)&&RQ K a.ns&&Py K a.ns "__init__" == cq da
  |none=>di)
 |none=>di
theorem pR{α:Type}{l:List α}{a:α}(h:l.length=6)(e:(l.drop 4).take 1=[a]):∃I z O Y Z,l=[I,z,O,Y,a,Z]:=by
 cases l with
 |nil=>cases h
 | cons I l=>cases l with
  |nil=>cases h
  | cons z l=>cases l with
   |nil=>cases h
   | cons O l=>cases l with
    |nil=>cases h
    | cons Y l=>cases l with
     |nil=>cases h
     | cons b l=>cases l with
      |nil=>cases h
      | cons Z l=>cases l with
       |nil=>
        cases e;exact⟨I,z,O,Y,Z,rfl⟩
       |cons d l=>simp at h
theorem rD{z:Type}{l:List z}{a:z}(e:l.take 1=[a]):l=a::l.drop 1:=by
 cases l with
 |nil=>cases e
 |cons b l=>cases e;rfl
structure XC(K:Mj)(mg:UZ)(c:Str):Prop where
 all:YD K=cI
 mem:c∈p9
 ex:∃C,Zx K c=cq C/\mg c=cq (.ref C)/\Gv K C=cI
def X3(c:Xn)(od:Option dt)(H0:Hp):Prop:=match c.2 with
 |none=>od=da
 |some i=>∃d,od=cq d/\H0 d=cq (.xd [(Wc c.1,.int i)])
def XW(X:Cx)(U Y:Hp)(c:Xn):Prop:=(∀(f:UQ) (O:St) (g I:Hp) (h:d9) (k:et) (a C:dt) (o:List dy),Inv X f O g h->Ext U Y I g->YD X.K=cI->c.1∈p9->Zx X.K c.1=cq C->c.2=da->
 Heap.MadeExcOf h.heap k a (.ref C) o->X.xe (.ref a) {h with heap:=k})/\
 (∀(f:UQ) (O:St) (g I:Hp) (h:d9) (e:dy) (l:d9),Inv X f O g h->Ext U Y I g->
   n9 X.prog X.w X.stack g h (λj n m=>∃C i,j=.ref C/\YD X.K=cI/\c.1∈p9/\Zx X.K c.1=cq C/\X3 c n i/\Ext I g i m) e l->X.xe e l)/\
 ∀(f:UQ) (O:St) (g I:Hp) (h:d9) (a C d t:dt) (p:et->Prop),Inv X f O g h->g a=cq (.ext p)->h.heap.get? a=cq (Yn C (cq d) t)->(X.ex=[]->X.h8.heap.get? a=da)->
  Ext U Y I (λb=>if b=a then da else g b)->YD X.K=cI->c.1∈p9->Zx X.K c.1=cq C->X3 c (cq d) I->X.xe (.ref a) h
def Px(X:Cx)(st:gB)(G:CO Xn):Prop:=∀(a:UQ) (s:d9) (d:St) (H I O e:Hp) (b:Ctx) (c:Xn),Inv X a d H s->RS X.K I O e H d b->G b=cq c->XW X I O c->
 wpAny (ef X.prog X.w) X.A (exec st X.env) (λ_ _=>False) X.xe s
def DH(X:Cx)(z:List gB)(G:CO Xn):Prop:=∀(a:UQ) (s:d9) (d:St) (H I O e:Hp) (b:Ctx) (c:Xn),Inv X a d H s->RS X.K I O e H d b->G b=cq c->XW X I O c->
 wpAny (ef X.prog X.w) X.A (execs z X.env) (λ_ _=>False) X.xe s
section
variable{X:Cx}{sc:gx}{N L:List Str}{k:Nat}{st:gB}{rest:List gB}{G G':CO Xn}{F:CO Fl}
theorem SX.iw(h:SX X sc N L k)(E:EQ):SX (X.iw E) sc N L k:=⟨h.wo,h.eN,h.nd,h.calm,h.room,h.fn⟩
theorem Cg:Px X st vr:=λa s f H O U b d c I Y e _=>by cases e
theorem aJ{z:List gB}:DH X z vr:=λa s f H O U b d c I Y e _=>by cases e
theorem xh{rest:List gB}(h:Px X st G):DH X (st::rest) G:=λa s f H O U b d c I Y e w=>
 OT (MG (h a s f H O U b d c I Y e w) (λ_ _ z=>z.elim) λ_ _ z=>z)
theorem KW(h1:Px X st G)(h2:l0 X.ly st F)(h3:DH X rest G'):DH X (st::rest) (XN G F G'):=λb s l H O U j i c I k e w=>by
 unfold XN at e;cases q:G i with
 |some r=>
  rw[q]at e;cases e;exact xh h1 b s l H O U j i c I k q w
 | none=>
  rw[q]at e;obtain⟨o,n,Y⟩:=zf e;cases o with
  | next d=>
   have Y:G' d=cq c:=Y;refine OT<|MG (h2 b s l H {nx:=λZ g=>∃a,RS X.K O U a g Z d,rt:=λ_ _=>False} (I.iw _) ⟨O,U,j,i,.next d,k,n,λZ g a h=>⟨a,h⟩⟩) (λf p z=>?_) λ_ _ z=>z.elim;cases f with
   |next=>
    obtain⟨Z,g,m,a,h⟩:=z;exact h3 b p Z g O U a d c m.qs h Y w
   |ret v=>obtain⟨_,_,_,_,_,z⟩:=z;exact z.elim
   |brk=>obtain⟨_,_,_,z⟩:=z;exact z.elim
   |cont=>obtain⟨_,_,_,z⟩:=z;exact z.elim
  |_=>cases Y
theorem mY{kk:CO Bool}{c:eo}{x y:List gB}{pos:e8}(hc:l5 X.ly c kk)(ha:DH X x G)(hb:DH X y G'):Px X (.If c x y pos) (ni kk G G'):=λa s g H Y Z i f m I U e w=>by
 obtain⟨t,p,O⟩:=zf e;refine wpAny_If<|MG (hc a s g H (λb h=>b=t/\∃d,Ext i H d h) (I.iw _) ⟨i,f,t,U.rc,p,λh d x=>⟨rfl,d,x⟩⟩) (λb n z=>?_) λ_ _ z=>z.elim;obtain⟨j,k,rfl,l,o⟩:=z;cases b with
 |true=>rw[UJ rfl]at O;exact ha a n g j Y Z l f m k.qs (U.step o) O w
 |false=>rw[UY MJ]at O;exact hb a n g j Y Z l f m k.qs (U.step o) O w
theorem aK{a:eo}{f:CO D}{c:Str}{np cpos pos:e8}(h:SX X.ly sc N L k)(hc:kz sc c=cI)(x:XC X.K X.mg c)(ha:PV X.ly a f)(hf:∀γ,∃d,f γ=cq d:=by intro γ;exact⟨_,rfl⟩)
 (hs:eJ [a] X.env=[(di,eh a X.env)]:=by rfl):Px X (.Raise (cq (.Call (.Name c np) [a] [] cpos)) da pos) (Bg c):=λi s σ H F0 F1 Q γ cc I rs e w=>by
 cases e;obtain⟨C,x1,x2,m⟩:=x.ex;have P:=Po;have hh:X.A.handled=da:=I.ok.hd (show X.calm=cI from h.calm);have T:=h.gl hc;obtain⟨d,j⟩:=hf γ;have KI:=I.iv;have cls:∃nm q N bs bm hdct sn sub ab col dd k0 k1 k2 k3 k5,X.K.lookup C=cq (O0 nm q C N bs bm hdct sn sub ab col dd k0 k1 k2 k3 k5 "ValueError.__new__")/\RP X.K s9 bm=cI/\RQ X.K N=cI/\Py X.K N "__init__" = cq da:=by
  unfold Gv at m;cases t:X.K.lookup C with
  |none=>rw[t]at m;cases m
  | some o=>
   rw[t]at m;obtain⟨oc,dd,F,J⟩:=o;simp only[Mw,beq_iff_eq]at m;obtain⟨⟨⟨y1,y2⟩,y3⟩,U⟩:=m;subst y1;obtain⟨k0,k1,k2,k3,k5,hs⟩:=pR (by simpa using y2) y3;cases j:Bn ⟨.type "type",dd,F,J⟩with
   |none=>rw[j]at U;cases U
   | some cd=>
    rw[j]at U;have b1:F=.cls cd:=by
     unfold Bn at j;cases F with
     |cls bg=>cases j;rfl
     |_=>cases j
    subst b1;simp only[Mw,beq_iff_eq,Oe]at U;obtain⟨⟨⟨⟨y5,ad⟩,Z⟩,b⟩,p⟩:=U;obtain⟨nm,bs,G,ns,qn,b3,sn,sub,ab,col,bi⟩:=cd;dsimp only at y5 ad Z b p;subst ad;have b4:J = #[k0,k1,k2,k3,cq (.builtin "ValueError.__new__"),k5]:=by obtain⟨l⟩:=J;simp only at hs;rw[hs]
    subst b4;have r:=rD y5;generalize G.drop 1=bm at r Z;subst r;exact⟨nm,qn,ns,bs,bm,b3,sn,sub,ab,col,dd,k0,k1,k2,k3,k5,rfl,Z,b,p⟩
 obtain⟨nm,q,O,bs,bm,hdct,sn,sub,ab,col,dd,k0,k1,k2,k3,k5,t,Z,b,p⟩:=cls;have S:∀{g:et},X.K.In g->P7 g s9 bm:=λY=>RK Y Z;refine wpAny_Raise_call_subT (C:=C) (nm:=nm) (q:=q) (N:=O) (bs:=bs) (bm:=bm) (hdct:=hdct) (sn:=sn) (sub:=sub) (ab:=ab) (col:=col) (dd:=dd) (k0:=k0) (k1:=k1) (k2:=k2) (k3:=k3) (k5:=k5)
  P (mN:=X.base.nsMap O) ((S KI).hasType P.hasBase) hh (by rw[hs];rfl) (PySem.W.nsMap_none_of_in I.ok.mod.E1 b p) (ve I (show Gl X c from T.1) x2 ⟨rfl,?_⟩ T.2.2)
 have b5:PA X.ly [a] _:=jq ha qp (show eJ [a] X.ly.env=[(di,eh a X.ly.env)]from hs);have al:=b5 cpos i s σ H (λvs B=>∃v,vs=[v]/\∃E,Ext Q H E B) (I.iw _) ⟨Q,γ,d,rs.rc,j,λv H' y M rr=>⟨v,rfl,y,M⟩⟩;rw[hs];rw[show eJ [a] X.ly.env=[(di,eh a X.env)]from hs]at al;refine SV<|MG al (λus s2 hZ=>?_) λ_ _ z=>z.elim;obtain⟨vs,B,n,rv,v,ev,E,M⟩:=hZ;subst ev;obtain⟨u,rfl,ru⟩:=yU rv;have n:=n.qs;have R:=n.iv;have n1:X.base.Ns O (X.base.nsMap O):=.of_isNs (PySem.W.isNs_of_in I.ok.mod.E1 b);have b9:s2.heap.Ns O (X.base.nsMap O):=n1.keeps n.bk;exact⟨rfl,by show 1<=fh;decide,R _ _ t,b9,S R,λh' e r=>w.1 i σ B E s2 h' e C _ n (rs.ext.trans M) x.all x.mem x1 rfl r⟩
end
def O6(K:Mj)(n:Nat)(G:List D->Option Xn):Sp:=λg H _ E=>∃b d c,gm b H/\d8 K b d g/\d.length=n/\G d=cq c/\
 ∀C e a f,YD K=cI->c.1∈p9->Zx K c.1=cq C->X3 c f a->Ext b H a e->E (.ref C) f e
theorem O6.len{K:Mj}{n:Nat}{G:List D->Option Xn}{ps:List Str}(z:ps.length=n):∀vs H Q E,O6 K n G vs H Q E->vs.length=ps.length:=λvs H Q E h=>by obtain⟨b,d,c,_,a,I,_⟩:=h;rw[a.length,I,z]
structure rp(P:f9)(w:f6)(K:Mj)(mg:UZ)(base:et)(k:Nat)(x:Str)(n:Nat)(G:List D->Option Xn):Prop where
 ex:∃(f:dt) (fd:q7) (ps:List Str),ps.length=n/\q5 P w K mg base (n9 P w) k f fd ps (O6 K ps.length G)/\mg x=cq (.ref f)/\OB K (.ref f)=cI/\Binds K fd ps []
theorem Ym{P:f9}{w:f6}{K:Mj}{mg:UZ}{base:et}{x:Str}{st:gB}{N ps:List Str}{k:Nat}{G:CO Xn}(A:fA K mg x st ps)(hd:X9 N ps st=cI)
 (a8:∀X:Cx,X.prog=P->X.w=w->X.K=K->X.mg=mg->X.base=base->SX X (z9 st) N N k->DH X (qF st) G):rp P w K mg base (k+1) x ps.length (JX N.length G):=by
 obtain⟨f,fd,F,hb,hm⟩:=A.ex;have S:=wF hd;have b2:ps.length<=N.length:=by have:=congrArg Sy S.pre;rw[Pg]at this;lia
 refine⟨f,fd,ps,rfl,?_,hm,F.kp,.all hb⟩;obtain⟨oc,R,kV,doc,pm,an,Ht,ct,DQ,rfl,lk,ac⟩:=F.ex;refine Ap lk ac S (O6.len rfl) λA p s H vs Q E hr ak=>⟨λ_ W g=>W=QE N vs/\g=H,λh s1 W L D I n=>?_,rfl,rfl⟩;obtain⟨rfl,rfl⟩:=n;obtain⟨J,ds,c,s0,h1,h2,h3,Z⟩:=ak;refine MG (a8 _ rfl rfl rfl rfl rfl ⟨rfl,rfl,S.nd,rfl,hr,λ_ _=>.inl rfl⟩ h s1 _ L J L J (zN N.length ds) c I (KS s0 h1 ⋯) h3 ⟨λM i j O T h' a C us U Y r y u B m=>?_,λM i j O T e s' U Y m=>?_,λM i j O T a C d t φ U y1 y2 y3 Y r y u B=>?_⟩) (λ_ _ z=>z.elim) λ_ _ z=>z
 ·exact Ks U m<|Z C j O da r y u (by unfold X3;rw[B]) Y
 ·refine Xf (E':=λl R g=>∃C b,l=.ref C/\YD K=cI/\c.1∈p9/\Zx K c.1=cq C/\X3 c R b/\Ext O j b g) U m λcc o g z=>?_
  obtain⟨C,b,rfl,z1,z2,z3,z4,z5⟩:=z;exact Z C g b o z1 z2 z3 z4<|Y.trans z5
 ·exact Kt U y1 y2 (y3 rfl)<|Z C _ O (cq d) r y u B Y
section
variable{X:Cx}{sc:gx}{N L:List Str}{k j n:Nat}{e:eo}{es:List eo}{g:CO (List D)}{G:List D->Option Xn}{x:Str}{p pos:e8}
def Bp(X:Cx)(z:UQ)(Y:St)(H0 H:Hp)(I:Xn)(e:dy)(s':d9):Prop:=∃b O f,Inv X z Y b f/\Ext H0 H O b/\
 n9 X.prog X.w X.stack b f (λd h g=>∃C a,d=.ref C/\YD X.K=cI/\I.1∈p9/\Zx X.K I.1=cq C/\X3 I h a/\Ext O b a g) e s'
theorem VM{pins:UQ}{σ:St}{H H0:Hp}{γ:Ctx}{ds:List D}{O:Xn}{s:d9}(hf:rp X.prog X.w X.K X.mg X.base j x n G)(hj:j<=k)(h:SX X sc N L k)(c:kz sc x=cI)(ha:sh X.ly (e::es) n g)
 (I:Inv X pins σ H s) (rc:RC X.K H0 H σ γ) (eg:g γ=cq ds) (eG:G ds=cq O)
 (he:eJ (e::es) X.env=(di,eh e X.env)::eJ es X.env:=by rfl) (a7:(n0 pos<|starEach es X.env).any (·.1)=di:=by rfl):
 wpAny (ef X.prog X.w) X.A (eh (.Call (.Name x p) (e::es) [] pos) X.env) (λ_ _=>False) (Bp X pins σ H0 H O) s:=by
 obtain⟨fa,fd,t,T,F,S,Q,P⟩:=hf.ex;subst T;refine Ob<|ve I (h.gl c).1 S ?_ (h.gl c).2.2;refine r_ (h₀:=X.base) I.ok.mod.E1 Q (MG (ha.1 pos pins s σ H (λd b=>∃U,Ext H0 H U b/\d8 X.K U ds d) (I.iw _) ⟨H0,γ,ds,rc,eg,λd i a x r=>⟨a,x,r⟩⟩) (λf m ⟨d,b,Y,B,U,E,y⟩=>⟨Y.qs.iv,?_⟩) λ_ _ z=>z.elim) he a7;have Y:=Y.qs;have J:d.length=t.length:=by rw[y.length];exact ha.2 γ ds eg
 have R:f.length=t.length:=by rw[<-B.length];exact J
 refine Ry (RG (F.run X.A X.stack m b ⟨f,[]⟩ f d (λ_ _=>False) (λl o i=>∃C a,l=.ref C/\YD X.K=cI/\O.1∈p9/\Zx X.K O.1=cq C/\X3 O o a/\Ext U b a i) (h.room.mono hj) Y.B5
  (by simpa using P m f Y.iv (by simpa using R)) B ⟨U,ds,O,E.sub,y,ha.2 γ ds eg,eG,λC i a o W xm xc xn xx=>⟨C,a,rfl,W,xm,xc,xn,xx⟩⟩) λr s' Z=>?_)
 cases r with
 |error e=>exact⟨b,U,m,Y,E,Z⟩
 |ok M=>
  cases M with
  |ret u=>obtain⟨_,_,_,_,_,_,_,z⟩:=Z;exact z.elim
  |next=>exact Z.elim
  |brk=>exact Z.elim
  |cont=>exact Z.elim
theorem Zl{spos:e8}(hf:rp X.prog X.w X.K X.mg X.base j x n G)(U:j<=k)(h:SX X.ly sc N L k)(c:kz sc x=cI)(ha:sh X.ly (e::es) n g)
 (Y:eJ (e::es) X.env=(di,eh e X.env)::eJ es X.env:=by rfl) (Z:(n0 pos<|starEach es X.env).any (·.1)=di:=by rfl)
 (hs:qq (.Call (.Name x p) (e::es) [] pos) da spos.line X.env=pure di:=by rfl):
 Px X (.Expr (.Call (.Name x p) (e::es) [] pos) spos) (j4 G g):=λa s y H A B C J E I O eq w=>by
 obtain⟨F,l,m⟩:=zf eq;refine _j (MG (VM hf U (⟨h.wo,h.eN,h.nd,h.calm,h.room,h.fn⟩:SX X sc N L k) c ha I O.rc l m Y Z) (λ_ _ z=>z.elim) λo r z=>?_) I.quiet hs;obtain⟨b,f,t,d,u,i⟩:=z;exact w.2.1 a y b f t o r d (O.ext.trans u) i
end
def E6(X:Cx)(e:dy):Cx:={X with A:=X.A.mark<|some e,calm:=di,xe:=λ_ _=>False}
theorem iI{X:Cx}{O:UQ}{Y:St}{H:Hp}{s:d9}(I:L2.Inv X O Y H s)(e:dy):L2.Inv (E6 X e) O Y H s:=
 ⟨⟨I.ok.mod,I.ok.kind,I.ok.glob,I.ok.blt,I.ok.above,I.ok.inj,I.ok.has,I.ok.F9,(λz=>nomatch z),I.ok.frames,I.ok.DU,I.ok.O1,I.ok.bs,I.ok.y9,I.ok.L4,I.ok.I8,I.ok.o8,I.ok.zt⟩,I.os,I.bare,I.base,I.loc,I.cell,I.free,I.u7,I.pin,I.eH,I.len⟩
theorem iF{X:Cx}{z:UQ}{O:St}{H:Hp}{s:d9}{e:dy}(ok:X.Ok)(I:L2.Inv (E6 X e) z O H s):L2.Inv X z O H s:=
 ⟨ok,I.os,I.bare,I.base,I.loc,I.cell,I.free,I.u7,I.pin,I.eH,I.len⟩
theorem gZ{X:Cx}{pins:UQ}{σ:St}{H:Hp}{s:d9}{M:C1}{A:ij}{E:EQ}{Q:Unit->d9->Prop}{i:Nat}{n:Str}{pos:e8}(I:L2.Inv X pins σ H s)(hN:X.N.Nodup)(hi:X.N[i]? = cq n)(hl:X.env.scope.names.lookup n=cq .local)
 (h:∀s',L2.Inv X pins (σ.set i da) H s'->Q () s'):wpAny M A (do bindName X.env n .none;unbindBehindTheSuite X.env n pos) Q E s:=by
 obtain⟨m,B,F⟩:=id I.loc;have t:(X.env.scope.kind ==.class || (X.env.scope.kind ==.module&&X.env.locals != X.env.globals))=di:=by rw[I.ok.kind];rfl
 refine wpAny_nameGoes_keeps hl B t λT v u a=>h _ ?_;have U b o:X.h8.heap.get? b=cq o->b≠X.env.locals:=λe=>ME<|MA (Mt e) I.ok.above;refine⟨I.ok,I.os,I.bare,⟨λb o e n Y f=>?_,λb o e n Y f=>?_,I.base.free,λb o e f=>?_,I.base.u5,I.base.tu,I.base.u4⟩,⟨_,u,λj y S g Z w=>?_⟩,λy c e=>?_,I.free,I.u7,λp C=>?_,λb K e=>?_,by simpa using I.len⟩
 ·exact(a.2 b<|U b o e).trans (I.base.keep b o e n Y f)
 ·obtain⟨P,z⟩:=I.base.slot b o e n Y f
  exact⟨P,(a.2 b<|U b o e).trans z⟩
 ·obtain⟨J,z⟩:=I.base.there b o e f
  exact⟨J,(a.2 b<|U b o e).trans z⟩
 ·rcases zU Z with⟨_,z,_⟩|⟨x,Z⟩
  ·cases z
  ·obtain⟨R,L,q⟩:=F j y S g Z w
   refine⟨R,L,?_⟩;rcases q with⟨k,e⟩|⟨k,c,e,z⟩
   ·refine .inl ⟨k,?_⟩
    have:y≠n:=λe=>x<|Ye hN g<|e ▸ hi;simp[this,e]
   ·exact .inr ⟨k,c,e,z.sameBut a<|I.Dk y c e⟩
 ·obtain⟨r,z⟩:=I.cell y c e
  exact⟨r,z.sameBut a<|I.Dk y c e⟩
 ·obtain⟨e,n,l,G,d⟩:=I.pin p C
  exact⟨(a.2 p.1 l).trans e,n,l,G,d⟩
 ·refine(I.eH b K e).vl (λc r O q=>(a.2 c ?_).trans q) (λ_ q=>q) λ_ _ q=>q
  rintro rfl;rcases O with O|O
  ·rw[<-O,I.free]at e;cases e
  ·rw[I.free]at O;cases O
structure XS(K:Mj)(mg:UZ):Prop where
 ex:∃S,Zx K "SplitError" = cq S/\mg "SplitError" = cq (.ref S)/\Rh K (.ref S)=cq (.type "type")/\yg K S (.type "BaseException")=cq cI/\(Pl K S).isSome=cI/\yg K S (.ref S)=cq cI
theorem WW{M:C1}{h:et}{K:Mj}{a C S:dt}(X:K.In h)(I:bL h a C)(z:Rh K (.ref S)=cq (.type "type"))(U:yg K S (.type "BaseException")=cq cI)(Y:(Pl K S).isSome=cI)(Z:yg K C (.ref S)=cq cI):
 Tc M h (excMatches (.ref a)<|.ref S) cI:=by
 have b:=ZN (M:=M) I;have d:=PySem.W.looks_typeIn (M:=M) X z;have e:=PySem.W.looks_mroIn (M:=M) X U;have f:Tc M h (isType<|.ref S) cI:=by
  obtain⟨F,O⟩:=Ny.mp Y;unfold Pl at O;split at O
  ·rename_i B G x y j
   intro t w u P k q;unfold isType loadHead;exact Mi<|wpAny_loadPart (k _ _<|X _ _ j)<|Mo q
  ·cases O
 have g:=PySem.W.looks_mroIn (M:=M) X Z;have i:Tc M h (UU (.type "type") (.type "tuple")) di:=.of_pure tc_notTuple;intro A Q E s k q;obtain⟨L,J,H,R,N⟩:=s;have l:=b.keeps k;have m:=d.keeps k;have n:=e.keeps k;have o:=f.keeps k;have p:=g.keeps k;have r:=i.keeps k;unfold excMatches isExcClass S4
 repeat (first|with_reducible refine m.at ?_|with_reducible refine r.at ?_|with_reducible refine o.at ?_|with_reducible refine n.at ?_|with_reducible refine l.at ?_|with_reducible refine p.at ?_|wp_step)
 exact q
section
variable{X:Cx}{sc:gx}{N L:List Str}{k:Nat}
theorem pj{pins:UQ}{σ:St}{H H0:Hp}{γ:Ctx}{O:Xn}{ev:dy}{s':d9}{D:Ends}{F0 F1:Hp}{I j:Nat}{nx zx:Str}{np pz pn a8 bn:e8}(h:SX X sc N L k)(a9:X.stack=X.env::X.outer/\X.env.frame=cq X.env.locals)
 (x:XS X.K X.mg) (b0:kz sc "SplitError" = cI) (cn:yk sc N L I nx=cI) (cl:decide (sc.names.lookup nx=cq .local)=cI) (cv:kY sc N I nx=cI) (cz:yk sc N L j zx=cI) (bx:I≠j)
 (rs:RS X.K F0 F1 H0 H σ γ) (lf:Bp X pins σ H0 H O ev s') (c2:Sat X.K F0 F1 D (.next<|(γ.set j<|.val<|.exc O.1 O.2).set I .no))
 (hs:qq (.Name nx pn) (cq (.Name zx pz)) a8.line X.env=pure di:=by rfl):
 wpAny (ef X.prog X.w) X.A (Ta ev X.env) (λ_ s2=>wpAny (ef X.prog X.w) X.A (T7 ev da) (λ_ s3=>
  wpAny (ef X.prog X.w) X.A (handleBy ev X.env [.ExceptHandler (cq (.Name "SplitError" np)) (cq nx) [.Assign [.Name zx pz] (.Name nx pn) a8] bn]) (SP X pins D) X.xe s3) X.xe s2) X.xe s':=by
 obtain⟨H1,e9,s1,p,x1,a,C,H',F,rfl,⟨U,J,eC,xa,xm,xc,xn,x2⟩,c5,c6,c7,un,eH,s,c8,⟨B,t,fl,c9,b5⟩⟩:=lf;obtain rfl:U=C:=(MP.inj eC).symm;have ca:X.A.frames=cq (X.env::X.outer):=by rw[<-a9.1];exact p.ok.frames
 rw[a9.1]at fl;obtain⟨S,cb,ce,cf,ci,cm,co⟩:=x.ex;obtain⟨G,b6,y1,Z,y3⟩:=Jc xa xm xc;obtain rfl:G=S:=by rw[cb]at b6;exact(Nz b6).symm
 have b7:∀l:et,ON B (X.env::X.outer) a (.ref U) (.ref t) l->s'.heap.UpToSlots l->o5 F a l->L2.Inv X pins σ (upd H' a<|.ext λg=>bL g a U/\o5 F a g) {s' with heap:=l}:=λl f sm dk=>by
  have obj:bL l a U:=by obtain⟨oe,m,_,_,_,y,⟨R,_⟩,T,_⟩:=f.2.2.2;exact⟨oe,m,y,R,T⟩
  have ne b o:s1.heap.get? b=cq o->b≠a:=λq z=>by rw[z,c8]at q;cases q
  have b8 b:b∈mu X.stack->∃o,s1.heap.get? b=cq o/\(∀m,o.data ≠ .fields m)/\∃sl,l.get? b=cq {o with slots:=sl}:=λY=>by obtain⟨_,o,q,nf⟩:=p.stack.mem Y;obtain⟨sl,z⟩:=un.slot b o q (p.O7 b Y) Y ⋯;obtain⟨cs,z'⟩:=sm b _ z nf;exact⟨o,q,nf,cs,z'⟩
  refine p.A_ (s':={s' with heap:=l}) (ch:=[]) c6 ⟨λb o q n Y _=>?_,λb o q n Y _=>?_,λb o q n _=>?_,λb o q _=>?_,λb xs q=>?_,λb o u q=>?_,λb ps q=>?_⟩ ?_ c7 (λ_ z=>nomatch z)
  ·exact f.1 b o<|b5 b o (un.keep b o q n Y ⋯) (by rw[q];simp) Y
  ·obtain⟨E,q',_,z⟩:=b8 b Y
   rw[q]at q';cases q';exact z
  ·rw[zE (ne b o q)];exact un.free b o q n ⋯
  ·by_cases Y:b∈mu X.stack
   ·obtain⟨E,_,_,sl,z⟩:=b8 b Y
    exact⟨_,z⟩
   ·obtain⟨E,z⟩:=un.there b o q ⋯
    exact⟨E,f.1 b E<|b5 b E z (by rw[q];simp) Y⟩
  ·have z:=un.u5 b xs q
   rw[zE (z6 z s)];exact z
  ·have z:=un.tu b o u q
   rw[zE (z6 z s)];exact z
  ·obtain⟨more,z⟩:=un.u4 b ps q
   exact⟨more,by rw[zE (z6 z s)];exact z⟩
  ·refine Ai (vg eH λb u n q=>f.1 b u<|c9 b u q n) s ⟨obj,dk⟩ ?_ ?_
   ·obtain⟨o,_,e,_⟩:=obj;exact⟨o,e⟩
   ·rintro g1 g2 ⟨⟨o,m,e,r⟩,cw⟩ kk
    exact⟨⟨o,m,kk o e,r⟩,cw.obj kk⟩
 refine Eo ca a9.2 fl c5 λh4 cx bd cy=>?_;refine Er cx cy λh5 P bg bi=>?_;have I5:=iI (b7 h5 P (bd.trans bg) bi)<|.ref a;have d0:bL h5 a U:=by obtain⟨oe,m,_,_,_,y,⟨R,_⟩,T,_⟩:=P.2.2.2;exact⟨oe,m,y,R,T⟩
 have mS:yg X.K U (.ref G)=cq cI:=by
  have Z:=Z;unfold NT at Z;by_cases z:(MP U==MP G)=cI
  ·have e:U=G:=MP.inj (beq_iff_eq.mp z)
   subst e;exact co
  ·rw[UY z]at Z
   unfold PySem.W.kitCls at Z;dsimp only at Z;split at Z
   ·exact Z
   ·cases Z
 refine wpAny_handleBy_cons (codeAny_handlers_test<|ve (X:=E6 X<|.ref a) I5 (show Gl X _ from(h.gl b0).1) ce ?_ (h.gl b0).2.2) (by intro q;cases q);refine(WW I5.iv d0 cf ci cm mS) _ _ _ _ (λ_ _ z=>z) ?_;refine codeAny_handlers_suite_as<|Fk P bi λh6 d3 d4 d5=>?_;have I6:=iI (b7 h6 d3 ((bd.trans bg).trans d4) d5)<|.ref a;obtain⟨n1,n2,n3⟩:=h.loc cn;obtain⟨z1,z2,z3⟩:=h.loc cz;refine KM (X:=E6 X<|.ref a) (v:=.ref a) I6 (show X.N.Nodup from h.E7) n1 n2 rfl (λs7 I7=>?_) n3;have hv:PE (E6 X<|.ref a) (.Name nx pn) (pK I):=by
  unfold kY at cv;simp only[Mw,NU,decide_eq_true_eq,Oe]at cv;obtain⟨⟨⟨v1,v2⟩,v3⟩,v4⟩:=cv;refine rB (by show X.N[I]? = cq nx;rw[h.eN];exact v1) ?_ v3 v4;show N3 X.env.scope nx;unfold N3;rw[h.wo];rcases v2 with(v2|v2)|v2
  ·exact .inl v2
  ·exact .inr<|.inl v2
  ·exact .inr<|.inr v2
 have du:PS (E6 X<|.ref a) (.Assign [.Name zx pz] (.Name nx pn) a8) (az (pK I)<|v7 j):=rk (X:=E6 X<|.ref a) (show X.N.Nodup from h.E7) z1 z2 hv hs z3;have dv:I<σ.length:=by rw[p.len];exact(MR.mp n1).1
 have run:=(Wy du) pins s7 (σ.set I<|some (.ref a)) _ {nx:=λe_ Hn=>e_=(σ.set I<|some (.ref a)).set j (cq (.ref a))/\Hn=upd H' a (.ext λg=>bL g a U/\o5 F a g),rt:=λ_ _=>False} I7
  ⟨.ref a,NK dv,rfl,rfl⟩
 refine MG run (λf s8 z=>?_) λ_ _ z=>z.elim;cases f with
 | next=>
  obtain⟨zai,H8,M,rfl,rfl⟩:=z;have M:=iF p.ok M;refine gZ M h.E7 n1 (by rw[h.wo];exact of_decide_eq_true cl) λzaa I9=>⟨_,_,I9,?_⟩;have xt:=x1.trans<|x2.trans<|Ext.alloc x2.sub s<|.ext λg=>bL g a U/\o5 F a g;have rep:Rep X.K (upd J a<|.ext λg=>bL g a U/\o5 F a g) (.exc O.1 O.2) (.ref a):=by
   refine(show ∃b,V.ref a=.ref b/\y6 X.K _ O.1 O.2 b from⟨a,rfl,xa,xm,U,_,xc,zF,λ_ z=>z.1,?_⟩);unfold X3 at xn;cases hc:O.2 with
   |none=>trivial
   |some i=>
    rw[hc]at xn;obtain⟨d,e6,Q⟩:=xn;have e7:d≠a:=λq=>by rw[q,x2.sub.free s]at Q;cases Q
    exact⟨d,λg z=>z.2.1 d e6,by rw[zE e7];exact Q⟩
  have r1:=((rs.step xt).z8 (i:=I) rep).z8 (i:=j) rep;have r2:=r1.forget (i:=I) (v:=da);have y:((γ.set I<|.val<|.exc O.1 O.2).set j (.val<|.exc O.1 O.2)).set I .no=(γ.set j<|.val<|.exc O.1 O.2).set I .no:=by rw[List.set_comm _ _ bx,List.set_set]
  rw[y]at r2;exact c2 _ _ _ r2
 |ret v=>obtain⟨_,_,_,_,_,z⟩:=z;exact z.elim
 |brk=>obtain⟨_,_,_,z⟩:=z;exact z.elim
 |cont=>obtain⟨_,_,_,z⟩:=z;exact z.elim
end
section ap
variable(γ:Ctx)
@[simp] def yv:=@zC.eq_1
@[simp] def V6:=@jU.eq_1
@[simp] def wu:=@jH.eq_1
@[simp] def w6:=@zg.eq_1
@[simp] def xV:=@zm.eq_1
@[simp] theorem KB(d):qv d γ=cq d:=rfl
@[simp] def ZV:=@zG.eq_1
@[simp] def px:=@sB.eq_1
@[simp] def Ih:=@ZD.eq_1
@[simp] def V5:=@pS.eq_1
@[simp] def lX:=@QJ.eq_1
@[simp] def Le:=@tK.eq_1
@[simp] def IZ:=@Fs.eq_1
@[simp] def sd:=@cM.eq_1
@[simp] theorem ZU:zB γ=cq []:=rfl
@[simp] def jh:=@zb.eq_1
@[simp] def V3:=@qC.eq_1
@[simp] def lY:=@jL.eq_1
@[simp] def HU:=@qD.eq_1
@[simp] def w9:=@qV.eq_1
@[simp] def AV:=@yV.eq_1
@[simp] def HR:=@JO.eq_1
@[simp] def Ib:=@BX.eq_1
@[simp] def ye:=@i8.eq_1
@[simp] def yN:=@jG.eq_1
@[simp] def AU:=@kB.eq_1
@[simp] def AZ:=@Jg.eq_1
@[simp] def Xy:=@yC.eq_1
@[simp] def kG:=@zD.eq_1
@[simp] def bK:=@jf.eq_1
@[simp] def J8:=@zY.eq_1
@[simp] def V4:=@jS.eq_1
@[simp] def Ff:=@Wo.eq_1
@[simp] def IW:=@YE.eq_1
@[simp] def V7:=@Zk.eq_1
@[simp] def kF:=@zV.eq_1
@[simp] theorem IX:jO γ=cq cI:=rfl
@[simp] def Ba:=@Jh.eq_1
@[simp] def HS:=@KQ.eq_1
@[simp] def wx:=@dj.eq_1
@[simp] def pw:=@fP.eq_1
@[simp] theorem La:Wp γ=cq da:=rfl
@[simp] def LU:=@ro.eq_1
@[simp] def rZ:=@aC.eq_1
@[simp] def bJ:=@JP.eq_1
@[simp] def LS:=@DT.eq_1
@[simp] def dZ:=@zX.eq_1
@[simp] def Fg:=@QL.eq_1
@[simp] def bI:=@eD.eq_1
@[simp] def Ld:=@Bi.eq_1
@[simp] def HZ:=@cL.eq_1
@[simp] def HX:=@cK.eq_1
@[simp] def HQ:=@BR.eq_1
theorem jK(F G):zR F G γ=(F γ).bind λI=>match I with
 |.next a=>G a
 |f=>cq f:=rfl
end ap
@[simp] theorem Fd(ds):jD (.tup ds)=cq (.T,ds):=rfl
@[simp] theorem IU(ds):jD (.lst ds)=cq (.L,ds):=rfl
@[simp] theorem qg(d):lL (cq (.val d))=cq d:=rfl
@[simp] theorem jI(d):Zt (cq (.val d))=jD d:=rfl
@[simp] theorem AF(d):Zt (cq (.own d))=cq (.L,d):=rfl
@[simp] theorem AI(d):qh (cq (.own d))=cq d:=rfl
@[simp] theorem AG(d):W5 (cq (.val d))=cq (.ret<|.val d):=rfl
@[simp] theorem AH(d):W5 (cq (.own d))=cq (.ret<|.own d):=rfl
@[simp] theorem bG(b):C5 (.bl b)=cq b:=rfl
@[simp] theorem kE(b):n5 (.int b)=cq b:=rfl
@[simp] theorem Fx(d):fW (.val d)=d:=rfl
@[simp] theorem Fy(d):fW (.own d)=.lst d:=rfl
@[simp] theorem Fv(d):Fw (.own d)=cq d:=rfl
@[simp] theorem FQ(i j):dU (.int i) (.int j)=cq (.int<|i-j):=rfl
@[simp] theorem pe(i j):jX (.int i) (.int j)=cq (.int<|i+j):=rfl
@[simp] theorem FS(i j):wj (.int i) (.int j)=if 0<j then cq (.int<|i%j)else da:=by show(if FU i j=cI then _ else _)=_;simp[FU]
@[simp] theorem FT(i j):JI (.int i) (.int j)=if 0<j/\j<1073741824 then cq (.int<|i/j)else da:=by
 show(if EZ i j=cI then _ else _)=_;have e:(EZ i j=cI)=(0<j/\j<1073741824):=by unfold EZ;rw[Mw,decide_eq_true_eq,decide_eq_true_eq];apply propext;constructor<;>intro h<;>exact⟨h.1,⋯⟩
 simp only[e]
@[simp] theorem pd(i j):yS (.int i) (.int j)=if XM i j=cI then cq (.int<|i*j)else da:=rfl
@[simp] theorem FR(i j):Ax (.int i) (.int j)=if EY i j=cI then cq (.int<|i^j.toNat)else da:=rfl
@[simp] theorem HD(i j):DN (.int i) (.int j)=cq (.bl<|decide<|i<j):=rfl
@[simp] theorem HE(i j):UE (.int i) (.int j)=cq (.bl<|decide<|i<=j):=rfl
@[simp] theorem Az(i j):o7 (.int i) (.int j)=cq (.bl<|decide<|j<i):=rfl
@[simp] theorem W0(i j):D6 (.int i) (.int j)=cq (.bl<|decide<|j<=i):=rfl
@[simp] theorem HF(i j):gw (.int i) (.int j)=cq (.bl<|decide<|i=j):=by unfold gw;rw[UJ ⟨rfl,rfl⟩];exact congrArg (λb=>cq (D.bl b)) (by rw[N2];simp[jn])
@[simp] theorem Ay(i j):mc (.int i) (.int j)=cq (.bl<|!decide (i=j)):=by unfold mc;rw[UJ ⟨rfl,rfl⟩];exact congrArg (λb=>cq (D.bl !b)) (by rw[N2];simp[jn])
@[simp] theorem BP(i is d ds γ):xR (i::is) (d::ds) γ=xR is ds (γ.set i<|.val d):=rfl
@[simp] theorem BO(ds γ):xR [] ds γ=γ:=by cases ds<;>rfl
@[simp] theorem FV(i d γ):kP (.nm i) d γ=cq (γ.set i<|.val d):=rfl
@[simp] theorem Fb(i j a b γ):kP (.tp [i,j]) (.tup [a,b]) γ=cq ((γ.set i<|.val a).set j (.val b)):=rfl
@[simp] theorem mU(γ:Ctx)(G:CO Fl):(cq (Fl.next γ)).bind (λI=>match I with
 |.next γ'=>G γ'
 |f=>cq f)=G γ:=rfl
theorem Xt(i j:Int)(z : -(2^64)<j)(I:j<2^64):XM i j=cI:=by unfold XM;rw[NU];right;exact decide_eq_true ⋯
theorem ZR(i j:Int)(z : -(2^64)<i)(I:i<2^64):XM i j=cI:=by unfold XM;rw[NU];left;exact decide_eq_true ⋯
theorem vY(z : -(2^62)<i)(I:i<2^62):inR i=cI:=by unfold inR;exact decide_eq_true ⋯
@[simp] theorem j6(n k:Nat):hM n (k:Int)=if k<n then cq k else da:=by
 unfold hM;by_cases h:k<n
 ·rw[UJ ⟨Int.natCast_nonneg k,⋯⟩,UJ h];simp
 ·rw[UY ⋯,UY ⋯,UY h]
theorem jk:lim=2500:=rfl
@[simp] theorem FN:0<=lim:=NJ _
@[simp] theorem FM:1<=lim:=by decide
@[simp] theorem FL:2<=lim:=by decide
@[simp] theorem FK:3<=lim:=by decide
@[simp] theorem FJ:4<=lim:=by decide
@[simp] theorem FH:5<=lim:=by decide
@[simp] theorem FG:6<=lim:=by decide
@[simp] theorem FF:7<=lim:=by decide
@[simp] theorem FE:8<=lim:=by decide
@[simp] theorem FC:0<lim:=by decide
@[simp] theorem iN(h:n<=lim):inR (n:Int)=cI:=vY ⋯ (by have:=jk;lia)
@[simp] theorem Y?(n:Nat):hM (n+1) 0=cq 0:=j6 (n+1) 0 ▸ rfl
@[simp] theorem Z?(n:Nat):hM (n+2) 1=cq 1:=by have:=j6 (n+2) 1;simpa using this
@[simp] theorem m?(n:Nat):hM (n+3) 2=cq 2:=by have:=j6 (n+3) 2;simpa using this
theorem zw(r:α->D):∀(l:List α),(∀x∈l,zT T k f γ [g x]=cq [r x])->zT T k f γ (l.map g)=cq (l.map r)
 |[],_=>rfl
 | x::l,h=>by
  have a:=h x MS;have I:=zw r l λy O=>h y<|MO _ O;simp only[MT,zT]at a ⊢;cases e1:kP T (g x) γ with
  |none=>rw[e1]at a;simp at a
  | some d=>
   rw[e1]at a;simp only[Mx]at a ⊢;cases e2:k d with
   |none=>rw[e2]at a;simp at a
   | some b=>
    rw[e2]at a;simp only[Mx]at a ⊢;cases b with
    |false=>simp at a
    | true=>
     simp only[UJ]at a ⊢;cases e3:f d with
     |none=>rw[e3]at a;simp at a
     |some e=>
      rw[e3]at a;simp at a;rw[I];simp[a]
theorem zy(z:kP T d γ=cq γ1)(I:k γ1=cq cI)(O:f γ1=cq e):zT T k f γ [d]=cq [e]:=by simp[zT,z,I,O]
theorem ql(T F d ds γ):kD T F (d::ds) γ=(kP T d γ).bind λγ1=>(F γ1).bind λO=>match O with
 |.next I=>kD T F ds I
 |.cont I=>kD T F ds I
 |.brk I=>cq (.next I)
 |.ret r=>cq (.ret r):=rfl
theorem VG(P:Nat->Ctx->Prop):∀(ds:List D) (k:Nat) (γ:Ctx),P k γ->(∀i d γ,ds[i]? = cq d->P (k+i) γ->∃γ',((kP T d γ).bind F=cq (.next γ')\/(kP T d γ).bind F=cq (.cont γ'))/\P (k+i+1) γ')->
 ∃γ',kD T F ds γ=cq (.next γ')/\P (k+ds.length) γ'
 |[],k,γ,h,_=>⟨γ,rfl,h⟩
 | d::ds,k,γ,h,step=>by
  obtain⟨a,e,f⟩:=step 0 d γ rfl h;obtain⟨γ',I,O⟩:=VG P ds (k+1) a (by simpa using f) (λi b U g Y=>by have:=step (i+1) b U (by simpa using g) (by rw[show k+(i+1)=k+1+i by lia];exact Y);rw[show k+(i+1)+1=k+1+i+1 by lia]at this;exact this)
  refine⟨γ',?_,by rw[show k+(d::ds).length=k+1+ds.length by simp;lia];exact O⟩;rw[ql];cases eb:kP T d γ with
  |none=>rw[eb]at e;simp at e
  |some Z=>
   rw[eb]at e;simp only[Mx]at e ⊢;rcases e with e|e<;>rw[e]<;>exact I
def zH(n:Nat)(f:Nat->Int):List D:=(Ml n).map λi=>D.int<|f i
theorem qG(n f):zH n f=(Ml n).map λi=>D.int (f i):=rfl
def zP(h w:Nat)(f:UV):List D:=(Ml h).map λi=>D.tup<|zH w<|f i
def jR(h w:Nat)(f:UV):D:=.tup [.int h,.int w,.tup (zP h w f)]
@[simp] theorem ZO(n f):(zH n f).length=n:=by simp[zH]
@[simp] theorem oU(h w f):(zP h w f).length=h:=by simp[zP]
@[simp] theorem Hz(f)(h:i<(zH n f).length):(zH n f)[i]=.int (f i):=by simp[zH]
theorem oP(f)(h:i<n):(zH n f)[i]? = cq (.int<|f i):=by simp[zH,h]
@[simp] theorem HB(f)(z:i<(zP h w f).length):(zP h w f)[i]=.tup (zH w<|f i):=by simp[zP]
theorem vi(h:∀i,i<n->f i=g i):zH n f=zH n g:=by unfold zH;apply MI;intro i a;rw[h i (Mn.mp a)]
theorem Yq(e:∀i j,i<h->j<w->f i j=g i j):zP h w f=zP h w g:=by unfold zP;apply MI;intro i a;rw[vi λj I=>e i j (Mn.mp a) I]
theorem q8(n:Nat):JE 0 n=zH n λi=>(i:Int):=by simp[JE,zH]
theorem wD(n:Nat)(f g:Nat->Int):wW (zH n f) (zH n g)=(Ml n).map λi=>D.tup [.int (f i),.int (g i)]:=by unfold wW zH;rw[Pq];simp
theorem aa(n w:Nat)(f g:UV):wW (zP n w f) (zP n w g)=(Ml n).map λi=>D.tup [.tup (zH w<|f i),.tup (zH w<|g i)]:=by unfold wW zP;rw[Pq];simp
def zq(f:Nat->Int):Nat->Int
 |0=>0
 |n+1=>zq f n+f n
theorem QC:∀(xs:List Int) (y:Int),Wk (xs.map D.int++[.int y])=(Wk<|xs.map D.int).map λs=>s+y
 |[],y=>by simp[Wk]
 |x::xs,y=>by simp only[MT,Ub,Wk];rw[QC xs y];cases e:Wk (xs.map D.int)<;>simp[Int.add_assoc]
theorem kj(f:Nat->Int):∀n,Wk (zH n f)=cq (zq f n)
 |0=>rfl
 |n+1=>by
  have I:=kj f n;have e m:zH m f=((Ml m).map f).map D.int:=by simp[zH]
  rw[e]at I ⊢;rw[Ox,Nx,Nx,List.map_singleton,List.map_singleton,QC,I];simp[zq]
def xZ:=jv 2<|qV<|zX<|jH<|zV (zY<|zm 1) (.nm 0) 1 [0] jO (zG wj (zg 0)<|zg 1)
def eB:=jv 3<|qV<|zD xZ<|zb (zg 0)<|zb (jU<|zV (zY<|zC<|dj (zm 1)<|sI 2) (.nm 0) 1 [2] jO (eD<|jH<|zV (YE (zg 0)<|zg 1) (.tp [0,1]) 2 [] jO (zG yS (zg 0)<|zg 1))) zB
def jE:=jv 2<|zR (jG 1<|jU<|zV (jS<|dj (zm 0)<|sI 1) (.nm 0) 1 [0] jO (zX<|jH<|zV (zY<|zC<|dj (zm 1)<|sI 2) (.nm 0) 1 [0] jO (dj (zm 0)<|zg 1)))<|qV<|qC<|zb (dj (zm 0)<|sI 1)<|zb (dj (zm 0)<|sI 0)<|zb (zX<|zm 1) zB
def wz:=jv 4<|zR (jG 3<|zD jE<|zb (zg 2) zB)<|qV<|qC<|zb (dj (zm 1)<|sI 0)<|zb (dj (zm 2)<|sI 1)<|zb (zX<|jH<|zV (zY<|zC<|dj (zm 1)<|sI 2) (.nm 0) 1 [0,3] jO (zD eB<|zb (zg 1)<|zb (zg 2)<|zb (zg 0) zB)) zB
def xM:=jv 5<|zR (jG 4<|jU<|zV (YE (dj (zm 1)<|sI 2)<|dj (zm 3)<|sI 2) (.tp [0,1]) 2 [0,2] jO (zD xZ<|zb (zg 2)<|zb (jU<|zV (YE (zg 0)<|zg 1) (.tp [0,1]) 2 [3] jO (zG jX (zg 0)<|zG yS (zg 2)<|zg 1)) zB))<|qV<|qC<|zb (dj (zm 1)<|sI 0)<|zb (dj (zm 1)<|sI 1)<|zb (zX<|zm 4) zB
def qc:=jv 2<|zR (jG 1<|jU<|zV (jS<|zg 0) (.nm 0) 1 [0] jO (zX<|jH<|zV (jS<|zg 1) (.nm 0) 1 [0] jO (cM (sB<|zG gw (zg 1)<|zg 0) (sI 1)<|sI 0)))<|qV<|qC<|zb (zg 0)<|zb (zg 0)<|zb (zX<|zm 1) zB
def XB:=jv 1<|qV<|tK (DT .int<|zg 0)<|Fs<|DT .bool<|zg 0
def XD:=jv 3<|zR (Zk (Wo (sI 1)<|zg 0) (.nm 2)<|i8 (sB<|zG gw (zG wj (zG yS (zg 1)<|zg 2)<|zg 0)<|sI 1) (JO 2) qD) QK
def ky:=jv 5<|zR (jG 4<|dj (zm 1)<|zg 3)<|zR (i8 (sB<|zG gw (zg 4)<|sI 0) (JO 1) qD)<|qV<|zD xZ<|zb (zg 0)<|zb (jU<|zV (YE (zg 1)<|zg 2) (.tp [0,1]) 2 [4] jO (zG dU (zg 0)<|zG yS (zg 2)<|zg 1)) zB
def ZS:=(zR (jG 6<|jU<|zV (zY<|zm 3) (.nm 0) 1 [5] (sB<|zG mc (dj (zm 0)<|zg 1)<|sI 0) (zg 0))<|zR (i8 (QJ<|BR<|zm 6) BX qD)<|zR (jG 7<|zD XD<|zb (zg 0)<|zb (dj (zC<|dj (zm 6)<|sI 0)<|zg 5) zB)<|zR (jG 8<|zD xZ<|zb (zg 0)<|zb (jU<|zV (zY<|zC<|dj (zm 6)<|sI 0) (.nm 0) 1 [7] jO (zG yS (zg 1)<|zg 0)) zB)<|zR (jG 3<|jU<|zV (zY<|zm 3) (.nm 0) 1 [0,5,8] jO (zD ky<|zb (zg 1)<|zb (zg 0)<|zb (zg 3)<|zb (zg 2) zB))<|kB 4<|Jh (jH<|zV (zY<|zm 4) (.nm 0) 1 [0,5,8] jO (zD ky<|zb (zg 1)<|zb (zg 0)<|zb (zg 3)<|zb (zg 2) zB))<|jH<|jL<|zb (zg 8) zB)
def xJ:=jv 9<|zR (jG 3<|jU<|zV (zY<|zm 2) (.nm 0) 1 [0] jO (zD xZ<|zb (zg 1)<|zb (zg 0) zB))<|zR (kB 4<|jL zB)<|zR (Zk (jS<|zg 1) (.nm 5) ZS)<|JO 4
def q9:=jv 2<|yV<|zV (zY<|zm 1) (.nm 0) 1 [0] (QJ<|sB<|Bi<|zC<|aC (zg 0) Wp<|ro<|zg 1) (aC (zg 0) (ro<|zg 1) Wp)
def kW:=jv 5<|zR (jG 3<|jU<|zV (YE (dj (zC<|zD jE<|zb (zg 1) zB)<|sI 2)<|dj (zC<|zD qc<|zb (dj (zm 1)<|sI 1) zB)<|sI 2) (.tp [0,1]) 2 [] jO (zG jX (zg 0)<|zg 1))<|zR (jG 4<|jU<|zV (zY<|zm 2) (.nm 0) 1 [1] jO (zG jX (zg 0)<|zG yS (qC<|zb (sI 0) zB)<|dj (zm 1)<|sI 1))<|yV<|jf q9<|zb (dj (zm 1)<|sI 0)<|zb (jU<|jf xJ<|zb (zg 0)<|zb (zG jX (dj (zm 1)<|sI 0)<|dj (zm 1)<|sI 1)<|zb (jU<|Jh (zm 3)<|zm 4) zB) zB
def vo:=jv 2<|yV<|jf kW<|zb (zg 0)<|zb (zg 1)<|zb (jU<|jL zB) zB
def JA:=jv 2<|yV<|jf xJ<|zb (zg 0)<|zb (dj (zm 1)<|sI 0)<|zb (dj (zC<|zD jE<|zb (zg 1) zB)<|sI 2) zB
section
variable(γ:Ctx)
@[simp] def Ie:=@cN.eq_1
end
def xI:=jv 1<|qV<|dj (jH<|zV (mW<|zg 0) (.tp [0,1]) 2 [] (sB<|zG mc (zg 1)<|sI 0) (zg 0))<|sI 0
def yc:=(zR (jG 6<|zD xI<|zb (zg 5) zB)<|zR (i8 (sB<|zG gw (zg 6)<|zg 3) (qV<|qv .ej) qD)<|fP 4 (zg 6)<|dj (zm 5)<|zg 3)
def kQ:=jv 7<|zR (jG 3<|dj (zm 1)<|sI 1)<|zR (kB 4<|KQ (jH<|jL<|zb (sI 0) zB)<|zg 3)<|zR (Zk (zY<|zC<|jU<|jf xJ<|zb (zg 0)<|zb (zG jX (zg 3)<|sI 1)<|zb (jU<|zV (YE (dj (zm 1)<|sI 2)<|zg 2) (.tp [0,1]) 2 [] jO (zG jX (zg 0)<|qC<|zb (zg 1) zB)) zB) (.nm 5) yc)<|qV<|zX<|zm 4
section
variable(γ:Ctx)
@[simp] def Ia:=@mW.eq_1
@[simp] theorem Gm(F G a b c):fU F G a b c γ=(a γ).bind λx=>(b γ).bind λy=>((F x y).bind C5).bind λk=>if k=cI then (c γ).bind λz=>G y z else cq (.bl di):=rfl
@[simp] def AS:=@KP.eq_1
end
def yj:=jv 5<|zR (jG 2<|dj (zm 1)<|sI 0)<|zR (i8 (sB<|zG mc (dj (zm 1)<|sI 1)<|zg 2) (qV<|qv .ej) qD)<|zR (jG 3<|dj (zC<|zD qc<|zb (zg 2) zB)<|sI 2)<|zR (jG 4<|jU<|jf xJ<|zb (zg 0)<|zb (zG jX (zg 2)<|zg 2)<|zb (jU<|zV (YE (dj (zm 1)<|sI 2)<|zg 3) (.tp [0,1]) 2 [] jO (zG jX (zg 0)<|zg 1)) zB)<|zR (i8 (sB<|zG mc (jU<|zV (zY<|zm 4) (.nm 0) 1 [2] jO (aC (zg 0) Wp<|ro<|zg 1))<|jU<|QL<|zm 3) (qV<|qv .ej) qD)<|qV<|qC<|zb (zg 2)<|zb (zg 2)<|zb (zX<|jH<|zV (zY<|zm 4) (.nm 0) 1 [2] jO (aC (zg 0) (ro<|zg 1) Wp)) zB
section
variable(γ:Ctx)
@[simp] def Lc:=@BV.eq_1
end
section
variable(γ:Ctx)
@[simp] def vk:=@xA.eq_1
@[simp] def HY:=@vE.eq_1
@[simp] def AX:=@fS.eq_1
end
def qj:=jv 2 (qV (cM (sB (zG gw (zg 1) (qv (.str "r")))) (zg 0) (zG jX (zg 0) (sI 1))))
def vw:=jv 2 (qV (cM (sB (zG gw (zg 1) (qv (.str "r")))) (zG jX (zg 0) (sI 1)) (zg 0)))
def qL:=jv 1 (qV (fS (qv (.str "")) (jH (zV (zY (zC (dj (zm 0) (sI 2)))) (.nm 0) 1 [] jO (dj (zm 0) (sI 0))))))
def kU:=jv 2<|qV<|tK (zG gw (dj (zm 0)<|sI 0)<|dj (zm 1)<|sI 0)<|zG gw (zD qL<|zb (zg 0) zB)<|zD qL<|zb (zg 1) zB
def jN:=jv 2<|i8 (QJ<|sB<|zD kU<|zb (zg 0)<|zb (zg 1) zB) QK qD
def jM:List D->Option Xn:=JX 2 (ni (QJ (sB (zD kU (zb (zg 0) (zb (zg 1) zB))))) (Bg "Unlike") vr)
section
variable{X:Cx}{sc:gx}{N L:List Str}{k:Nat}{a e:eo}{f:CO D}{pos p p2:e8}
theorem kc(U:PV X e f)(hs:qq e da pos.line X.env=pure di:=by rfl):l0 X (.Expr e pos) (Jg f):=yZ (KY U hs) λD j H Y=>by obtain⟨E0,E,g,i,k,O,I,Z⟩:=Y;obtain⟨d,h,I⟩:=zI I;subst I;exact⟨g,i,d,O.rc,h,λv b a x r=>Z j b a<|O.step x⟩
theorem Hx{P:f9}{w:f6}{K:Mj}{z:UZ}{base:et}{x:Str}{st:gB}{N ps:List Str}{k:Nat}{F:CO Fl}(A:fA K z x st ps)(Z:X9 N ps st=cI)
 (O:∀X:Cx,X.prog=P->X.w=w->X.K=K->X.mg=z->X.base=base->SX X (z9 st) N N k->X.xe=(λ_ _=>False)->(X.stack=X.env::X.outer/\X.env.frame=cq X.env.locals)->W8 X (qF st) F):
 fy P w K z base (k+1) x ps.length (jv N.length F):=by
 obtain⟨f,b,I,U,d⟩:=A.ex;have S:=wF Z;refine⟨f,b,ps,rfl,Ao I S λa A outer s H E Y=>?_,d,I.kp,.all U⟩;exact O _ rfl rfl rfl rfl rfl ⟨rfl,rfl,S.nd,rfl,Y,λ_ _=>.inl rfl⟩ rfl ⟨rfl,rfl⟩
structure XI(K:Mj)(mg:UZ)(c:Str):Prop where
 mem:c∈p9
 ex:∃C,Zx K c=cq C/\mg c=cq (.ref C)
theorem rH{pins:UQ}{σ:St}{H:Hp}{s:d9}{A:ij}{E:EQ}{Q:EQ}{b:dt}{t:dy}{c:Str}{n:Option Int}{H0:Hp}{r:Bool}(I:L2.Inv X pins σ H s)(sub:gm H0 H)(O:y6 X.K H0 c n b)
 (Y:∀C,Zx X.K c=cq C->NT X.K (.ref C) t=cq r) (h:∀tk,Q (.bool r) {s with toks:=tk}):wpAny (ef X.prog X.w) A (call (.builtin "isinstance") [.ref b,t]) Q E s:=by
 obtain⟨C,d,U,g2,Z,_⟩:=O.ex;obtain⟨S,_,a,_,_⟩:=Jc O.all O.mem U;obtain⟨p,_,_⟩:=(show ir X.prog X.w H s.heap b (.ext d)from I.eH b _<|sub _ _ g2);exact Nd (ba (Wg a)<|eQ a) I.iv (Z _ p) (Y C U) (λz=>nomatch z) h
theorem yH{c:Str}(h:SX X sc N L k)(ci:kz sc "isinstance" = cI)(z:X.mg "isinstance" = da)(cc:kz sc c=cI)(x:XI X.K X.mg c)(ha:PV X a f)
 (hs:eJ [a,.Name c p2] X.env=[(di,eh a X.env),(di,eh (.Name c p2) X.env)]:=by rfl):PV X (.Call (.Name "isinstance" p) [a,.Name c p2] [] pos) (aD c f):=by
 intro g s T H Q I ⟨j,R,d,B,O,q⟩;obtain⟨t,w,O⟩:=zf O;obtain⟨C,J,M⟩:=x.ex;cases t with
 |exc U n=>
  cases O;refine Ob<|xQ I (h.gl ci).1 z Ri ?_ ⋯ ⋯;refine OO ?_ (by rw[hs];rfl) rfl;rw[hs];show wpAny _ _ (B9 ((di,eh a X.env)::n0 pos [(di,eh (.Name c p2) X.env)])) _ _ s;refine NQ<|fe (ha g s T H (λv i=>∃e,Ext j H e i/\Rep X.K e (.exc U n) v) I ⟨j,R,_,B,w,λv i e x r=>⟨e,x,r⟩⟩) λu F y=>?_;obtain⟨v,l,Y,A,m,o,E⟩:=y;obtain⟨b,rfl,Z⟩:=(show ∃b,v=.ref b/\y6 X.K m U n b from E);cases (show u=MP b from A);show wpAny _ _ (B9 ((di,eh (.Name c p2) X.env)::[])) _ _ F;refine NQ<|ve Y (h.gl cc).1 M ?_ (h.gl cc).2.2;refine OV ?_;refine rH Y o.sub Z (λW g1=>?_) λG=>⟨.bl<|U==c,l,Y.tok G,rfl,q _ l m o rfl⟩;obtain⟨S,_,_,_,P⟩:=Jc Z.all Z.mem g1;exact P c C x.mem J
 |_=>cases O
theorem AJ:B3 "ValueError" = cq (.type "ValueError"):=by decide +kernel
theorem tZ(h:SX X sc N L k)(ci:kz sc "isinstance" = cI)(z:X.mg "isinstance" = da)(U:kz sc "ValueError" = cI)(zv:X.mg "ValueError" = da)(ha:PV X a f)
 (hs:eJ [a,.Name "ValueError" p2] X.env=[(di,eh a X.env),(di,eh (.Name "ValueError" p2) X.env)]:=by rfl):PV X (.Call (.Name "isinstance" p) [a,.Name "ValueError" p2] [] pos) (BU f):=by
 intro g s P H Q I ⟨l,M,d,E,O,q⟩;obtain⟨y,A,O⟩:=zf O;cases y with
 |exc w n=>
  cases O;refine Ob (xQ I (h.gl ci).1 z Ri ?_ ⋯ ⋯);refine OO ?_ (by rw[hs];rfl) rfl;rw[hs];show wpAny _ _ (B9 ((di,eh a X.env)::n0 pos [(di,eh (.Name "ValueError" p2) X.env)])) _ _ s;refine NQ (fe (ha g s P H (λv j=>∃e,Ext l H e j/\Rep X.K e (.exc w n) v) I ⟨l,M,_,E,A,λv j e x r=>⟨e,x,r⟩⟩) λu G B=>?_);obtain⟨v,m,Y,C,o,t,F⟩:=B;obtain⟨b,rfl,Z⟩:=(show ∃b,v=.ref b/\y6 X.K o w n b from F);cases (show u=MP b from C);show wpAny _ _ (B9 ((di,eh (.Name "ValueError" p2) X.env)::[])) _ _ G;refine NQ (xQ Y (h.gl U).1 zv AJ ?_ (h.gl U).2.1 (h.gl U).2.2);refine OV ?_;refine rH (r:=cI) Y t.sub Z (λR g1=>?_) λJ=>⟨.bl cI,m,Y.tok J,rfl,q _ m o t rfl⟩;obtain⟨S,_,i,_,_⟩:=Jc Z.all Z.mem g1;unfold pD at i;simp only[Mw,beq_iff_eq]at i;exact i.1.1.1.1.1.1.1.1.1.2
 |_=>cases O
structure GL(K:Mj)(mg:UZ)(x:Str)(d:D):Prop where
 ex:∃u v,mg x=cq u/\RelV v u/\∀H,Rep K H d v
theorem uc{x:Str}{d:D}(h:SX X sc N L k)(c:kz sc x=cI)(O:GL X.K X.mg x d):PV X (.Name x pos) (qv d):=by intro b s j H Q I ⟨a,i,g,f,U,q⟩;cases U;obtain⟨u,v,e,Y,Z⟩:=O.ex;exact ve I (h.gl c).1 e ⟨v,H,I,Y,q v H a (Ext.refl f.sub)<|Z a⟩ (h.gl c).2.2
end
section
variable{K:Mj}{mg:UZ}{h:et}
theorem hU{c:Str}{C:dt}(I:K.In h)(G:h.Ns pa mg)(e:Zx K c=cq C):mg c=cq (.ref C):=by
 unfold Zx at e;split at e
 ·rename_i O q
  cases e;exact So I G q
 ·cases e
def _o(K:Mj):Bool:=match Zx K "SplitError" with
 |some S=>Rh K (.ref S)==cq (.type "type")&&yg K S (.type "BaseException")==cq cI&&(Pl K S).isSome&&yg K S (.ref S)==cq cI
 |none=>di
def _n(K:Mj)(c:Str):Bool:=match Zx K c with
 |some C=>Gv K C
 |none=>di
theorem Lm(I:K.In h)(G:h.Ns pa mg)(e:_o K=cI):XS K mg:=by
 unfold _o at e;split at e
 ·rename_i S q
  simp only[Mw,beq_iff_eq]at e;exact⟨S,q,hU I G q,e.1.1.1,e.1.1.2,e.1.2,e.2⟩
 ·cases e
theorem Ln{c:Str}(I:K.In h)(G:h.Ns pa mg)(e:YD K=cI)(z:c∈p9):XI K mg c:=by
 unfold YD at e;split at e
 ·have a:=NV.mp e c z
  split at a
  ·rename_i C q
   exact⟨z,C,q,hU I G q⟩
  ·cases a
 ·cases e
theorem Lo{c:Str}(I:K.In h)(G:h.Ns pa mg)(e:YD K=cI)(z:c∈p9)(b:_n K c=cI):XC K mg c:=by
 unfold _n at b;split at b
 ·rename_i C q
  exact⟨e,z,C,q,hU I G q,b⟩
 ·cases b
theorem IM{x:Str}{n:Int}{t:o6}(I:K.In h)(G:h.Ns pa mg)(a:Py K pa x=cq (cq (.int n t))):GL K mg x (.int n):=
 ⟨_,.int n,So I G a,⟨t,rfl⟩,λ_=>(show V.int n=.int n from rfl)⟩
end
theorem qk(h:sh X es n g):Df X es g:=h.1
section
variable{K:Mj}{H:Hp}
theorem d8.dropLast:∀{ds:List D} {xs:List V},d8 K H ds xs->d8 K H ds.dropLast xs.dropLast
 |[],xs,r=>by rw[r.tv];exact d8.nil
 |[d],xs,r=>by obtain⟨x,b,e,_,a⟩:=r.o4;rw[e,a.tv];exact d8.nil
 |d::d2::ds,xs,r=>by obtain⟨x,b,e,I,a⟩:=r.o4;obtain⟨U,Y,O,_,_⟩:=a.o4;subst e O;exact d8.cons I<|d8.dropLast a
end
section
variable{X:Cx}{L:List Str}{a:eo}{pos p:e8}
theorem cT{c:eo}{z:CO D}(ha:PV X a z){U:CO (Sk×List D)}(Z:PQ X c U)(hm:B1 .NotIn c=di:=by with_unfolding_all rfl):l5 X (.Compare a [.NotIn] [c] pos) (sB<|KR z U):=
 Wx (gr Vb ha Z hm) λP H Q C=>by
  obtain⟨k,j,d,g,I,q⟩:=C;obtain⟨J,s,A⟩:=zf I;obtain⟨x,t,I⟩:=zf s;obtain⟨⟨f,o⟩,u,I⟩:=zf I;obtain⟨i,w,I⟩:=zf I;obtain⟨l,y,rfl⟩:=zI I;cases A;refine⟨k,j,x,g,t,λY G m h O=>⟨m,j,f,o,g.ext h,u,λp N b n F e M r=>?_⟩⟩;rw[jW w]at O;have B:=Vx r y;subst B;have E:gE X.K b p (l.map V.int)\/gR X.K b p (l.map V.int):=by
   cases f with
   |L=>exact .inl e
   |T=>exact .inr e
  refine⟨p,_,rfl,E,by rw[show Y=.int i from O];rfl,VH l,?_⟩;rw[show Y=.int i from O,iM];exact⟨_,rfl,q b n<|h.trans F⟩
end
end DL
namespace L2
open PySem PySem.Spec PyProof.Rows
theorem Hm(z:Str):T8 z = "str_ascii_iterator"\/T8 z = "str_iterator":=by unfold T8;split<;>simp
theorem bw{X:Cx}{pins:UQ}{σ:St}{H:Hp}{s:d9}{E:EQ}{z it:dt}{i tk:Nat}{x:dy}{v:V}{g:et}{elts:List eo}{x1:Nat}{lC:e8}{Q:Unit->d9->Prop}
 (I:Inv X pins σ H s) (hf:∀b ∈ [z,it],Zg X pins H b) (hz:z<s.heap.objs.size) (hi:it<s.heap.objs.size) (Z:Ut g z it ((i:Int)+1) x s.heap.objs.size)
 (a3:l9 g s.heap.objs.size (.int i tk) x) (a5:∀b o,b≠z->b≠it->s.heap.get? b=cq o->g.get? b=cq o) (rx:RelV v x)
 (a6:∀g2,x6 g2 z it ((i+1:Nat):Int) x->Pc z g g2->Inv X pins σ (upd H s.heap.objs.size<|.tup [.int i,v]) {s with heap:=g2,toks:=tk+1}->H s.heap.objs.size=da->
   (∀b ∈ [z,it],upd H s.heap.objs.size (.tup [.int i,v]) b=da)->Q () {s with heap:=g2,toks:=tk+1}):
 wpAny (ef X.prog X.w) X.A (S7 (.Tuple elts x1 lC) (.ref z)<|.ref s.heap.objs.size) Q E {s with heap:=g,toks:=tk+1}:=by
 refine Q? Z λg2 a Y=>?_;have d:l9 g2 s.heap.objs.size (.int i tk) x:=Y.extBut _ _ (Oh hz) a3;have h O u:O ∉ [z,it]->s.heap.get? O=cq u->g2.get? O=cq u:=λU e=>by simp only[Mr,MD,or_false,not_or]at U;exact Y.extBut _ _ U.1<|a5 O u U.1 U.2 e
 refine a6 g2 (by have:=a;rwa [show((i:Int)+1)=((i+1:Nat):Int)by lia]at this) Y (I.Us (fp:=[z,it]) h hf (Mq _) ⟨by show 2<=fh;decide,[.int i tk,x],.cons ⟨_,rfl⟩<|.cons rx .nil,⟨_,d,rfl,_,rfl⟩⟩) I.fresh λO U=>?_;have f:O≠s.heap.objs.size:=by
  simp only[Mr,MD,or_false]at U;rcases U with rfl|rfl
  ·exact ME hz
  ·exact ME hi
 rw[zE f];exact(hf O U).1
def Im(K:Mj)(a:dt):It:=
 ⟨λi H=>∃b,gE K H a b/\i<b.length,
  λi H x d=>∃p u,x=.ref p/\H p=da/\d=upd H p (.tup [.int i,u])/\(∀b,gE K H a b->b[i]? = cq u),
  λi H=>∃b,gE K H a b/\b.length=i⟩
theorem cj{P:f9}{w:f6}{K:Mj}{elts:List eo}{x1:Nat}{lC:e8}{z it a:dt}(ac:z≠it):
 Turn P w K (.Tuple elts x1 lC) (Im K a) [z,it] z (λi h=>(∃U,x6 h z it i U)/\h.IsListIter it a i) where
 mem:=by simp
 obj:=λi h ⟨⟨U,hz⟩,h1⟩ y hy=>by
  simp only[Mr,MD,or_false]at hy;rcases hy with rfl|rfl
  ·exact⟨_,hz,λv q=>by cases q⟩
  ·obtain⟨o,e,c,d⟩:=h1
   exact⟨o,e,λv q=>by rw[d]at q;cases q⟩
 keep:=λi h h' ⟨⟨U,hz⟩,h1⟩ k=>⟨⟨U,k z ⋯ _ hz⟩,h1.at λo e=>k it ⋯ o e⟩
 item:=by
  rintro X rfl rfl rfl hc i pins s σ H E I hf ⟨⟨U,hz⟩,h1⟩ ⟨xs,a6,ar⟩;obtain⟨a7,a8,p1,z1⟩:=I.list a6;have Y:=p1.isList;have hx:xs[i]? = cq xs[i]:=Mp ar;have l1:=a8.length;have ak:a≠it:=λe=>by obtain⟨o,e1,O,_⟩:=Y;obtain⟨o2,Z,c2,_⟩:=h1;rw[e,Z]at e1;cases e1;rw[c2]at O;exact absurd O ⋯
  have as:z≠a:=λe=>by obtain⟨o,e1,O,_⟩:=Y;have ap:s.heap.get? z=cq _:=hz;rw[e,e1]at ap;cases ap;exact absurd O ⋯
  have ax:it<s.heap.objs.size:=by obtain⟨o2,Z,_⟩:=h1;exact Mt Z
  have Dr:=Draws.list (prog:=X.prog) (w:=X.w) (A:=X.A.in1) (show X.A.in1.handled=da from I.ok.hd hc) it a ak a7.toArray;refine T? Dr hz ⟨h1,Y⟩ (by simp;lia) ac (by simp;exact⟨ac,as⟩) λx g tk hP a1 a2 a3 a4 a5=>⟨_,rfl,?_⟩;obtain⟨u1,b7,b8⟩:=a8.get hx;obtain rfl:u1=x:=by have:=hP;simp[b7]at this;exact this
  refine bw I hf (Mt hz) ax a1 a3 a5 b8 λg2 b1 b2 I1 bb hn=>⟨.ref s.heap.objs.size,_,I1,rfl,⟨_,_,rfl,bb,rfl,λbn bd=>by rw[I.U1 bd a6];exact hx⟩,⟨⟨_,b1⟩,a2.1.at λo e=>b2.extBut _ _ ac.symm e⟩,hn⟩
 done:=by
  rintro X rfl rfl rfl hc i pins s σ H E I hf ⟨⟨U,hz⟩,h1⟩ ⟨xs,a6,hi⟩;obtain⟨a7,a8,p1,z1⟩:=I.list a6;have Y:=p1.isList;have l1:=a8.length;have ak:a≠it:=λe=>by obtain⟨o,e1,O,_⟩:=Y;obtain⟨o2,Z,c2,_⟩:=h1;rw[e,Z]at e1;cases e1;rw[c2]at O;exact absurd O ⋯
  have Dr:=Draws.list (prog:=X.prog) (w:=X.w) (A:=X.A.in1) (show X.A.in1.handled=da from I.ok.hd hc) it a ak a7.toArray;have en:a7.toArray.size=i:=by simp;lia
  rw[en]at Dr;refine S? Dr hz ⟨h1,Y⟩ λg hk=>⟨rfl,?_⟩;refine I.A2 (t':=s.toks) (fp:=[z,it]) (λb' u hb e=>?_) hf;simp only[Mr,MD,or_false,not_or]at hb;exact hk b' u hb.2 e
 self:=λ_ _ _ _ _ st h=>yL st.1.choose_spec h
def Il(z:Str):It:=
 ⟨λi _=>i<z.cps.size,λi H x a=>∃p c,x=.ref p/\H p=da/\a=upd H p (.tup [.int i,.str ⟨#[c]⟩])/\z.cps[i]? = cq c,λi _=>i=z.cps.size⟩
theorem VO{prog:f9}{w:f6}{A:ij}(I:A.handled=da)(it:dt)(x:Str)(t:o6):
 Draws prog w A it [it] x.cps.size (λi v=>∃c u,x.cps[i]? = cq c/\v=.str ⟨#[c]⟩ u) (λi h=>h.IsStrIter it (T8 x) x t i):=by
 rcases Hm x with q|q
 ·rw[q];exact Draws.strAscii I it x t
 ·rw[q];exact Draws.strWide I it x t
theorem cg{P:f9}{w:f6}{K:Mj}{elts:List eo}{x1:Nat}{lC:e8}{z it:dt}(x:Str)(t:o6)(U:z≠it):
 Turn P w K (.Tuple elts x1 lC) (Il x) [z,it] z (λi h=>(∃O,x6 h z it i O)/\h.IsStrIter it (T8 x) x t i) where
 mem:=by simp
 obj:=λi h ⟨⟨O,hz⟩,h1⟩ y hy=>by
  simp only[Mr,MD,or_false]at hy;rcases hy with rfl|rfl
  ·exact⟨_,hz,λv q=>by cases q⟩
  ·obtain⟨o,e,c,d⟩:=h1
   exact⟨o,e,λv q=>by rw[d]at q;cases q⟩
 keep:=λi h h' ⟨⟨O,hz⟩,h1⟩ k=>⟨⟨O,k z ⋯ _ hz⟩,by obtain⟨o,e,r⟩:=h1;exact⟨o,k it ⋯ o e,r⟩⟩
 item:=by
  rintro X rfl rfl rfl Y i pins s σ H E I hf ⟨⟨O,hz⟩,h1⟩ a8;have a9:it<s.heap.objs.size:=by obtain⟨o2,e2,_⟩:=h1;exact Mt e2
  have Z:=VO (prog:=X.prog) (w:=X.w) (A:=X.A.in1) (show X.A.in1.handled=da from I.ok.hd Y) it x t;refine T? Z hz h1 a8 U (by simp;exact U) λu g tk hP a1 a2 a3 a4 a5=>⟨_,rfl,?_⟩;obtain⟨c,zac,ap,rfl⟩:=hP;refine bw (v:=.str ⟨#[c]⟩) I hf (Mt hz) a9 a1 a3 a5 ⟨_,rfl⟩ λg2 b1 b2 I1 ar hn=>⟨.ref s.heap.objs.size,_,I1,rfl,⟨_,_,rfl,ar,rfl,ap⟩,⟨⟨_,b1⟩,?_⟩,hn⟩;obtain⟨o,e,r⟩:=a2;exact⟨o,b2.extBut _ _ U.symm e,r⟩
 done:=by rintro X rfl rfl rfl Y i pins s σ H E I hf ⟨⟨O,hz⟩,h1⟩ hi;have hi:i=x.cps.size:=hi;subst hi;have Z:=VO (prog:=X.prog) (w:=X.w) (A:=X.A.in1) (show X.A.in1.handled=da from I.ok.hd Y) it x t;refine S? Z hz h1 λg hk=>⟨rfl,?_⟩;refine I.A2 (t':=s.toks) (fp:=[z,it]) (λb' u hb e=>?_) hf;simp only[Mr,MD,or_false,not_or]at hb;exact hk b' u hb.2 e
 self:=λ_ _ _ _ _ st h=>yL st.1.choose_spec h
def EH(K:Mj)(z:TA):TI:=λf H R=>z f H λd b=>∃a,d=[.ref a]/\(∃e,gE K b a e)/\R (Im K a) b
def EG(I:TA):TI:=λd H R=>I d H λb a=>∃z,b=[.str z]/\R (Il z) a
section
variable{X:Cx}{e1:eo}{ta:TA}{p pos:e8}{elts:List eo}{x1:Nat}{lC:e8}
theorem nK(Z:Gl X "enumerate")(hm:X.mg "enumerate" = da)(z:PA X [e1] ta)
 (hv:B3 "enumerate" = cq (.type "enumerate")) (hs:eJ [e1] X.env=[(di,eh e1 X.env)]:=by rfl):
 PI X (.Tuple elts x1 lC) (.Call (.Name "enumerate" p) [e1] [] pos) (EH X.K ta):=by
 intro b s t H R I h;refine DC<|xQ I Z hm hv<|Nc (fe (z pos b s t H _ I h) λy d m=>?_) (by rw[hs];rfl) rfl;obtain⟨A,f,O,r,o⟩:=m;obtain⟨a,rfl,⟨C,i⟩,q⟩:=o;obtain⟨B,rfl,j⟩:=yU r;cases j;obtain⟨u,w,n,E⟩:=O.list i;refine call_enumerate_list n.isList λg e k x l=>yL (s:={d with heap:=g}) e ?_;refine⟨_,[d.heap.objs.size+1,d.heap.objs.size],_,_,f,rfl,O.kept (t':=d.toks) l,cj<|Oh<|Ou _,⟨⟨_,e⟩,k⟩,λc U=>?_,q⟩;have Y:d.heap.objs.size<=c:=by
  simp only[Mr,MD,or_false]at U;rcases U with rfl|rfl
  ·exact MF _ _
  ·exact Mq _
 exact O.B6 Y<|O.eH.fresh Y
theorem nJ(Z:Gl X "enumerate")(hm:X.mg "enumerate" = da)(ha:PA X [e1] ta)
 (hv:B3 "enumerate" = cq (.type "enumerate")) (hs:eJ [e1] X.env=[(di,eh e1 X.env)]:=by rfl):
 PI X (.Tuple elts x1 lC) (.Call (.Name "enumerate" p) [e1] [] pos) (EG ta):=by
 intro a s n H R I h;refine DC<|xQ I Z hm hv<|Nc (fe (ha pos a s n H _ I h) λr b k=>?_) (by rw[hs];rfl) rfl;obtain⟨u,e,O,m,l⟩:=k;obtain⟨z,rfl,q⟩:=l;obtain⟨w,rfl,f⟩:=yU m;obtain⟨t,rfl⟩:=f;refine call_enumerate_str λg d i o j=>yL (s:={b with heap:=g}) d ?_;refine⟨_,[b.heap.objs.size+1,b.heap.objs.size],_,_,e,rfl,O.kept (t':=b.toks) j,cg z t<|Oh<|Ou _,⟨⟨_,d⟩,i⟩,λc U=>?_,q⟩;have Y:b.heap.objs.size<=c:=by
  simp only[Mr,MD,or_false]at U;rcases U with rfl|rfl
  ·exact MF _ _
  ·exact Mq _
 exact O.B6 Y<|O.eH.fresh Y
end
theorem BN{X:Cx}:R3 X (λx lo hi H Q=>∃z,x=.str z/\z.length<=fh/\Q (.str<|Txt.slice z lo hi) H):=by
 rintro a s h H x v j m lo hi i Q I g ⟨o,O,U,b⟩ Z f ⟨z,rfl,d,q⟩;obtain⟨t,rfl⟩:=g;have Y e k:EP X a h Q (.str (Txt.slice z lo hi) e) {s with toks:=k}:=⟨.str _,H,I.tok k,⟨_,rfl⟩,q⟩;refine⟨"str",_,F.slot_str_getitem.lookup,Uk _ _ _,?_⟩;cases Z<;>cases f
 ·exact Rt (l:=da) (u:=da) (st:=da) ⟨o,O,U,b⟩ rfl<|Tr ⟨Nl (TZ z _ _) d,Y⟩
 ·exact Rt (l:=da) (u:=cq (_,_)) (st:=da) ⟨o,O,U,b⟩ rfl<|Tr ⟨Nl (TZ z _ _) d,Y⟩
 ·exact Rt (l:=cq (_,_)) (u:=da) (st:=da) ⟨o,O,U,b⟩ rfl<|Tr ⟨Nl (TZ z _ _) d,Y⟩
 ·exact Rt (l:=cq (_,_)) (u:=cq (_,_)) (st:=da) ⟨o,O,U,b⟩ rfl<|Tr ⟨Nl (TZ z _ _) d,Y⟩
end L2
namespace DL
open PySem PySem.Spec PyProof.Rows L2
theorem YY(z:Str):(kH z).length=z.cps.size:=by simp[kH]
theorem mR(z:Str){i c:Nat}(h:z.cps[i]? = cq c):(kH z)[i]? = cq (.str ⟨#[c]⟩):=by simp[kH,h]
theorem bW{K:Mj}{H0 Y:Hp}(z:Str):Walk K H0 Y (Il z) (qU<|kH z):=by
 have b:(qU<|kH z).length=z.cps.size:=by simp[qU,YY]
 refine⟨λi d s a=>?_,λd s=>?_,λi d x f s a y=>?_⟩
 ·rw[b]at a;exact a
 ·rw[b];exact rfl
 ·obtain⟨p,c,rfl,I,rfl,O⟩:=y
  refine⟨.tup [.int i,.str ⟨#[c]⟩],?_,λe h g=>⟨upd e p<|.tup [.int i,.str ⟨#[c]⟩],Ext.alloc g I _,?_⟩⟩
  ·rw[b]at a
   unfold qU;rw[NC,Tj (by rw[YY];exact a),Ni,mR z O];rfl
  ·exact xS (gR.of zF)<|d8.cons (show V.int i=.int i from rfl)<|d8.cons (show V.str ⟨#[c]⟩=.str ⟨#[c]⟩from rfl) d8.nil
theorem bX{K:Mj}{H0 z:Hp}{a:dt}{xs:List V}{ds:List D}(h:gE K z a xs)(r:d8 K H0 ds xs):Walk K H0 z (Im K a) (qU ds):=by
 have Y:=r.length;have m:(qU ds).length=ds.length:=by simp[qU]
 refine⟨λi b s k=>?_,λb s=>?_,λi b x g s k y=>?_⟩
 ·exact⟨xs,s.seq h,⋯⟩
 ·exact⟨xs,s.seq h,⋯⟩
 ·obtain⟨p,u,rfl,I,rfl,O⟩:=y
  obtain⟨d,j,U⟩:=r.Dp<|O xs<|s.seq h;refine⟨.tup [.int i,d],?_,λf l e=>⟨upd f p<|.tup [.int i,u],Ext.alloc e I _,?_⟩⟩
  ·unfold qU
   rw[NC,Tj ⋯,Ni,j];rfl
  ·exact xS (gR.of zF)<|d8.cons (show V.int i=.int i from rfl)<|d8.cons ((U.mono l).mono (jb (jy e I) _)) d8.nil
theorem YT:∀l:List Str,(l.map V.str).all X7=cI
 |[]=>rfl
 |i::l=>by simp only[MT,RE,YT l,TC];rfl
section
variable{X:Cx}{sc:gx}{N L:List Str}{k:Nat}{a b:eo}{pos p p2:e8}{f fa fb:CO D}
theorem uz{Z:List eo}{x1:Nat}{lC:e8}(h:SX X sc N L k)(c:kz sc "enumerate" = cI)(z:X.mg "enumerate" = da)(ha:PV X a f)(hs:eJ [a] X.env=[(di,eh a X.env)]:=by rfl):
 i6 X (.Tuple Z x1 lC) (.Call (.Name "enumerate" p) [a] [] pos) (Y0 f):=
 XT (nJ (h.gl c).1 z (jq ha qp hs) y_ hs) λm H R U=>by
  obtain⟨i,l,e,j,I,q⟩:=U;obtain⟨d,Y,I⟩:=zf I;cases d with
  | str z=>
   by_cases O:ju z=cI
   ·have I:(if ju z=cI then cq (qU<|kH z)else da)=cq e:=I
    rw[UJ O]at I;cases I;exact⟨i,l,_,j,Y,λv g b x r=>⟨z,by rw[show v=.str z from r],q _ g b x<|bW z⟩⟩
   ·have I:(if ju z=cI then cq (qU<|kH z)else da)=cq e:=I
    rw[UY O]at I;cases I
  |_=>cases I
theorem KZ(h:SX X sc N L k)(c:kz sc "enumerate" = cI)(z:X.mg "enumerate" = da)(ha:PV X a f)(hs:eJ [a] X.env=[(di,eh a X.env)]:=by rfl):
 i6 X (.Tuple elts x1 lC) (.Call (.Name "enumerate" p) [a] [] pos) (ZC f):=
 XT (nK (h.gl c).1 z (jq ha qp hs) y_ hs) λo H R U=>by
  obtain⟨g,l,m,i,I,q⟩:=U;obtain⟨d,Y,I⟩:=zf I;cases d with
  |lst n=>
   cases I;refine⟨g,l,_,i,Y,λv e b x r=>?_⟩;obtain⟨Z,j,rfl,O,g2⟩:=hV r;exact⟨Z,rfl,⟨j,x.sub.seq O⟩,q _ e b x<|bX O g2⟩
  |_=>cases I
theorem Co(ha:PV X a fa){g:CO (Sk×List D)}(U:PQ X b g)(hm:B1 .In b=di:=by with_unfolding_all rfl):PV X (.Compare a [.In] [b] pos) (IE fa g):=
 qo (gK gO ha U hm) λJ H Q Y=>by
  obtain⟨m,k,d,i,I,q⟩:=Y;obtain⟨x,t,I⟩:=zf I;obtain⟨⟨h,s⟩,Z,I⟩:=zf I;cases x with
  | str w=>
   obtain⟨l,u,rfl⟩:=zI I;refine⟨m,k,_,i,t,λB E n j O=>⟨n,k,h,s,i.ext j,Z,λp G e o C f F r=>?_⟩⟩;have z:=QD r u;subst z;have A:gE X.K e p (l.map V.str)\/gR X.K e p (l.map V.str):=by
    cases h with
    |L=>exact .inl f
    |T=>exact .inr f
   have O:B=.str w:=O;subst O;refine⟨p,_,rfl,A,rfl,YT l,?_⟩;have:K2 (.str w) (l.map V.str)=l.any λy=>y==w:=by unfold K2;rw[List.any_map];rfl
   rw[UY MJ,this];exact q _ e o (j.trans C) rfl
  |_=>cases I
theorem gj(z:PV X a fa)(U:PV X b fb):PV X (.BinOp a .Add b pos) (Wr fa fb):=
 qo (nL dc z U) λB H Q Y=>by
  obtain⟨h,g,d,e,I,q⟩:=Y;obtain⟨x,l,I⟩:=zf I;obtain⟨y,Z,I⟩:=zf I;cases x with
  | str u=>
   cases y with
   | str w=>
    by_cases O:ju u=cI/\ju w=cI
    ·have I:(if ju u=cI/\ju w=cI then cq (D.str<|u++w)else da)=cq d:=I
     rw[UJ O]at I;cases I;refine⟨h,g,_,e,l,λt p j f m=>⟨j,g,_,e.ext f,Z,λA i k o n=>⟨u,w,m,n,?_,q _ i k (f.trans o) rfl⟩⟩⟩;have r:=ZA O.1;have s:=ZA O.2;have:2000<=fh:=by decide
     lia
    ·have I:(if ju u=cI/\ju w=cI then cq (D.str<|u++w)else da)=cq d:=I
     rw[UY O]at I;cases I
   |_=>cases I
  |_=>cases I
theorem Cn{lo hi:Option eo}{U Y:CO (Option Int)}(ha:PV X a f)(hl:L2.PO X lo (tB X.K U))(hh:L2.PO X hi (tB X.K Y)):PV X (.Subscript a (.Slice lo hi da p2) pos) (GN f U Y):=
 qo (aO BN ha hl hh) λB H Q s=>by
  obtain⟨i,g,d,e,I,q⟩:=s;obtain⟨Z,n,I⟩:=zf I;obtain⟨l,o,I⟩:=zf I;obtain⟨u,p,I⟩:=zf I;refine⟨i,g,Z,e,n,λv y b x r=>⟨b,g,l,e.ext x,o,λA k h=>⟨k,g,u,(e.ext x).ext h,p,λj m t=>?_⟩⟩⟩;have w:=x.trans<|h.trans t;cases Z with
  | str z=>
   by_cases O:ju z=cI
   ·have I:(if ju z=cI then cq (D.str<|Txt.slice z l u)else da)=cq d:=I
    rw[UJ O]at I;cases I;exact⟨z,r,Je O,q _ j m w rfl⟩
   ·have I:(if ju z=cI then cq (D.str<|Txt.slice z l u)else da)=cq d:=I
    rw[UY O]at I;cases I
  |_=>cases I
end
end DL
namespace DL
open PySem L2 PyProof.Rows
open PySem.W (KasT kas_sort kas_asc kas_desc kas_tail3 kas_descPart kas_count kas_place kas_bin kas_rev)
def Good{z:Type}(n:Nat)(P:z->Prop):KasT z->Prop
 |.ret a=>P a
 |.ask i j k=>i<n/\j<n/\∀b,Good n P<|k b
theorem Good.mono{z:Type}{n:Nat}{P I:z->Prop}(h:∀a,P a->I a):∀{t:KasT z},Good n P t->Good n I t
 |.ret a,g=>h a g
 |.ask i j k,g=>⟨g.1,g.2.1,λb=>(g.2.2 b).mono h⟩
theorem Good.bind{z β:Type}{n:Nat}{P:z->Prop}{I:β->Prop}{f:z->KasT β}(O:∀a,P a->Good n I (f a)):∀{t:KasT z},Good n P t->Good n I (t.bind f)
 |.ret a,g=>O a g
 |.ask i j k,g=>⟨g.1,g.2.1,λb=>(g.2.2 b).bind O⟩
theorem Good.run:∀{t:KasT α},Good n P t->P (BZ lt t)
 |.ret a,g=>g
 |.ask i j k,g=>(g.2.2 _).run
def Pm(n:Nat)(p:Array Nat):Prop:=p.toList.Perm<|Ml n
theorem Pm.lt(h:Pm n p)(z:0<n)(i:Nat):p.getD i 0<n:=by
 by_cases a:i<p.size
 ·have e:p.getD i 0=p[i]:=by simp[Array.getD,a]
  rw[e];exact Mn.mp<|h.mem_iff.mp ⋯
 ·have e:p.getD i 0=0:=by simp[Array.getD,a]
  rw[e];exact z
theorem Pm.rev(h:Pm n p)(i j:Nat):Pm n (kas_rev p i j):=(Array.perm_iff_toList_perm.mp<|mirror_perm p i j _).trans h
theorem Pm._Z(h:Pm n p)(i j:Nat):Pm n (bubble p i j):=(Array.perm_iff_toList_perm.mp<|bubble_perm p i j).trans h
theorem Yi(h:Pm n p)(z:0<n):∀f m,Good n (λ_=>True) (kas_asc p f m)
 |0,m=>trivial
 |f+1,m=>⟨h.lt z _,h.lt z _,λb=>by
  cases b with
  |true=>exact trivial
  |false=>exact Yi h z f<|m+1⟩
theorem ZM(z:0<n):∀f p m q,Pm n p->Good n (λr=>Pm n r.1) (kas_desc f p m q)
 |0,p,m,q,h=>h
 | f+1,p,m,q,h=>⟨h.lt z _,h.lt z _,λb=>by
  cases b with
  |true=>
   show Good n _ (if q>0 then _ else _);split
   ·exact ZM z f _ _ _<|h.rev _ _
   ·exact ZM z f _ _ _ h
  |false=>exact⟨h.lt z _,h.lt z _,λd=>by
   cases d with
   |true=>exact h
   |false=>exact ZM z f _ _ _ h⟩⟩
theorem VB{n:Nat}(z:0<n)(m r:Nat){p:Array Nat}(h:Pm n p):Good n (λr=>Pm n r.2) (kas_tail3 m r p):=by unfold kas_tail3;refine Good.bind (P:=λ_=>True) (λa _=>?_)<|Yi (h.rev _ _) z _ _;exact(show Pm n (kas_rev p 0 m)from h.rev _ _)
theorem VD{n:Nat}(z:0<n)(m r:Nat){p:Array Nat}(h:Pm n p):Good n (λr=>Pm n r.2) (kas_descPart m r p):=
 (ZM z _ _ _ _ h).bind λa b=>by
   show Good n _ (if a.2.2>0 then _ else _);split
   ·exact VB z _ _<|Pm.rev b _ _
   ·exact VB z _ _ b
theorem dM{n:Nat}(z:0<n)(r:Nat){p:Array Nat}(h:Pm n p):Good n (λr=>Pm n r.2) (kas_count r p):=
 (Yi h z _ _).bind λm _=>by
   show Good n _ (if (m==r)=cI then _ else if m>1 then _ else _);split
   ·exact h
   ·split
    ·exact⟨h.lt z _,h.lt z _,λc=>by
      cases c with
      |true=>exact h
      |false=>exact VD z _ _<|h.rev _ _⟩
    ·exact VD z _ _ h
theorem Js(z:0<n)(h:Pm n p)(k:Nat):∀f l r,Good n (λ_=>True) (kas_place p k f l r)
 |0,l,r=>trivial
 |f+1,l,r=>by
  show Good n _ (if l>=r then _ else _);split
  ·exact trivial
  ·exact⟨h.lt z _,h.lt z _,λc=>by
    cases c with
    |true=>exact Js z h k f _ _
    |false=>exact Js z h k f _ _⟩
theorem bo{n:Nat}(z:0<n):∀f p k,Pm n p->Good n (Pm n) (kas_bin f p k)
 |0,p,k,h=>h
 |f+1,p,k,h=>(Js z h k k 0 k).bind λl _=>bo z f _ _<|h._Z _ _
theorem VC{n:Nat}(z:0<n):Good n (Pm n) (kas_sort n):=
 (dM z n<|show Pm n (List.toArray<|Ml n)from List.Perm.refl _).bind λr I=>by
   show Good n _ (if r.1<n then _ else _);split
   ·exact bo z _ _ _ I
   ·exact I
theorem kR(ps:List (Int×Int)):(yJ ps).Perm (Ml ps.length):=by
 unfold yJ;split
 ·exact List.Perm.refl _
 ·exact(VC ⋯).run
theorem qf(d:α):∀ds:List α,(Ml ds.length).map (λi=>ds.getD i d)=ds:=λds=>by
 apply TR;intro i;by_cases a:i<ds.length
 ·simp[a]
 ·simp[a,Nat.not_lt.mp a]
end DL
namespace DL
open PySem PySem.Spec PyProof.Rows L2
open PySem.W (KasT kas_sort kas_ask kat_run kat_snds kat_lt kat_cons kat_no kat_yes kat_nil kat_go kat_one kat_kind KatTups KatGo)
theorem iS(I:∀i j C,i<n->j<n->C (lt i j) s->cmp i j C s):
 ∀{t:KasT α},Good n P t->Q (BZ lt t) s->t.kasWp cmp Q s
 |.ret _,_,q=>q
 |.ask i j k,g,q=>I i j _ g.1 g.2.1<|iS I (g.2.2 _) q
def R4(h:et)(v:dy)(k l:Int):Prop:=∃x o a m t u,v=.ref x/\h.get? x=cq o/\o.cls=.type "tuple"/\o.data=.seq a m/\a.toList=[.int k t,.int l u]
theorem R4.one(a:R4 h v k l):Fm h v k:=by obtain⟨x,o,d,m,t,u,b,I,O,U,Y⟩:=a;exact⟨x,o,d,m,t,b,I,O,U,by rw[<-Array.getElem?_toList,Y];rfl⟩
section
theorem Y1{K:Mj}{H:Hp}{ds:List D}{xs:List V}(r:d8 K H ds xs):∀(o:List Nat),(∀i∈o,i<xs.length)->d8 K H (o.map λi=>ds.getD i .ej) (o.map λi=>xs.getD i .ej)
 |[],_=>d8.nil
 |i::o,h=>by have a:=h i MS;obtain⟨d,b,I⟩:=r.Dp<|Mp a;refine d8.cons ?_ (Y1 r o λj O=>h j<|MO _ O);show Rep K H (ds.getD i .ej) (xs.getD i .ej);rw[Mz,Mz,Mp a,b];exact I
end
end DL
namespace DL
open PySem PySem.Spec PyProof.Rows L2
theorem Zi{H:Hp}{x:dt}{o z:HO}:upd (upd H x o) x z=upd H x z:=by
 funext b;by_cases h:b=x
 ·subst h;rw[zF,zF]
 ·rw[zE h,zE h,zE h]
def AC:gB->List gB
 |.ClassDef _ _ _ b _ _ _ _ _ _ _=>b
 |_=>[]
def EF(st:gB)(j:Nat):gB:=(AC st).getD j (.Pass ⟨0,0,0,0⟩)
section
variable{X:Cx}{pins:UQ}{σ:St}{H:Hp}{s:d9}
theorem oO{ta:TA}{e1 O:eo}{p pos:e8}{Q:EQ}{xs ys:List V}(I:Inv X pins σ H s)(hg:Gl X "zip")(hm:X.mg "zip" = da)(ha:PA X [e1,O] ta)
 (h:ta σ H λvs H1=>∃k1 k2 a b,vs=[.ref a,.ref b]/\(∃xs,ie k1 X.K H1 a xs)/\(∃ys,ie k2 X.K H1 b ys)/\
   ∀s2 z TI TO i1 i2,Inv X pins σ H1 s2->B0 z TI TO i1 i2 a b->Dg k1 k2 z TI TO i1 i2 a b 0 s2.heap->m3 s2.heap z TI TO .none->(∀c ∈ [z,TI,TO,i1,i2],Zg X pins H1 c)->Q (.ref z) s2)
 (hs:eJ [e1,O] X.env=[(di,eh e1 X.env),(di,eh O X.env)]:=by rfl) (a2:eJ [O] X.env=[(di,eh O X.env)]:=by rfl):
 wpAny (ef X.prog X.w) X.A (eh (.Call (.Name "zip" p) [e1,O] [] pos) X.env) Q X.xe s:=by
 refine DC (xQ I hg hm Sd<|Nc (fe (ha pos pins s σ H _ I h) λus d N=>?_) (by rw[hs,a2])<|by rw[a2];rfl);obtain⟨vs,H1,U,T,S⟩:=N;obtain⟨k1,k2,a,b,e,⟨xs,y⟩,⟨ys,B⟩,q⟩:=S;subst e;obtain⟨w1,w2,L,C,E⟩:=mC T;subst L;cases C;cases E;obtain⟨G,b5,k,z1⟩:=U.sq y;obtain⟨J,b6,l,z2⟩:=U.sq B;have P:=k.lt;have R:=l.lt;refine Uo F.called_zip ⋯ (F.typeCall_zip_2 _ _) (F.newCall_zip_2 _ _) (λobj=>F.args_object_init_3 obj _ _) F.entry_zip_new (ae k1 k2 a b G.toArray J.toArray) ⟨k,l,?_⟩;have keep c o:d.heap.get? c=cq o->(vF k1 k2 d.heap a b).get? c=cq o:=λe=>
  Mk _ (Mk _<|Mk _<|Mk _<|Mk _ e)
 have r:(Mv d.heap<|f7 k1 a).objs.size=d.heap.objs.size+1:=MM ..;have t:(Mv (Mv d.heap<|f7 k1 a)<|f7 k2 b).objs.size=d.heap.objs.size+2:=by rw[MM,r]
 have u:(Mv (Mv (Mv d.heap<|f7 k1 a)<|f7 k2 b)<|k8 (.ref d.heap.objs.size)<|.ref<|d.heap.objs.size+1).objs.size=d.heap.objs.size+3:=by rw[MM,t]
 have W:(Mv (Mv (Mv (Mv d.heap<|f7 k1 a)<|f7 k2 b)<|k8 (.ref d.heap.objs.size)<|.ref<|d.heap.objs.size+1)<|k8 .none .none).objs.size=d.heap.objs.size+4:=by rw[MM,u]
 have M:g7 k1 (vF k1 k2 d.heap a b) d.heap.objs.size a 0:=(wZ k1 d.heap a).at λo e=>Mk _<|Mk _<|Mk _<|Mk _ e;have g1:g7 k2 (vF k1 k2 d.heap a b) (d.heap.objs.size+1) b 0:=by have q:=wZ k2 (Mv d.heap<|f7 k1 a) b;rw[r]at q;exact q.at λo e=>Mk _<|Mk _<|Mk _ e
 have g2:l9 (vF k1 k2 d.heap a b) (d.heap.objs.size+2) (.ref d.heap.objs.size) (.ref<|d.heap.objs.size+1):=by have q:_=cq (k8 (.ref d.heap.objs.size)<|.ref<|d.heap.objs.size+1):=My (Mv (Mv d.heap<|f7 k1 a)<|f7 k2 b) (o:=k8 (.ref d.heap.objs.size)<|.ref<|d.heap.objs.size+1) rfl;rw[t]at q;exact Mk _<|Mk _ q
 have g3:l9 (vF k1 k2 d.heap a b) (d.heap.objs.size+3) .none .none:=by have q:_=cq (k8 .none .none):=My (Mv (Mv (Mv d.heap<|f7 k1 a)<|f7 k2 b)<|k8 (.ref d.heap.objs.size)<|.ref<|d.heap.objs.size+1) (o:=k8 .none .none) rfl;rw[u]at q;exact Mk _ q
 have g:m3 (vF k1 k2 d.heap a b) (d.heap.objs.size+4) (d.heap.objs.size+2) (d.heap.objs.size+3) .none:=by have q:=My (Mv (Mv (Mv (Mv d.heap<|f7 k1 a)<|f7 k2 b)<|k8 (.ref d.heap.objs.size)<|.ref<|d.heap.objs.size+1)<|k8 .none .none) (o:=sk (d.heap.objs.size+2)<|d.heap.objs.size+3) rfl;rw[W]at q;exact q
 refine⟨⟨_,g,rfl⟩,?_⟩;have x:Inv X pins σ H1 {d with heap:=vF k1 k2 d.heap a b,toks:=d.toks}:=U.kept keep;have Y:∀m:Nat,a≠d.heap.objs.size+m:=λm=>ME<|MA P<|MF _ m;have Z:∀m:Nat,b≠d.heap.objs.size+m:=λm=>ME<|MA R<|MF _ m;have f:∀m n:Nat,m≠n->(d.heap.objs.size+m:Nat)≠d.heap.objs.size+n:=λm n h=>by lia
 have D:B0 (d.heap.objs.size+4) (d.heap.objs.size+2) (d.heap.objs.size+3) d.heap.objs.size (d.heap.objs.size+1) a b:=
  ⟨f 2 4 ⋯,f 3 4 ⋯,f 0 4 ⋯,f 1 4 ⋯,f 2 3 ⋯,f 2 0 ⋯,f 2 1 ⋯,f 3 0 ⋯,f 3 1 ⋯,f 0 1 ⋯,
   Y 4,Y 3,Y 0,Y 1,Z 4,Z 3,Z 0,Z 1⟩
 refine q _ _ _ _ _ _ x D ⟨.inl g,g2,⟨_,_,g3⟩,M,g1⟩ g λc j=>?_;have i:d.heap.objs.size<=c:=by
  simp only[Mr,MD,or_false]at j;rcases j with rfl|rfl|rfl|rfl|rfl
  ·exact MF _ _
  ·exact MF _ _
  ·exact MF _ _
  ·exact Mq _
  ·exact MF _ _
 exact U.B6 i<|U.eH.fresh i
theorem Xm{o:HO}{c p:dt}(h:Zg X pins H c)(I:c≠p):Zg X pins (upd H p o) c:=⟨by rw[zE I];exact h.1,h.2⟩
end
theorem Kx:∀{ds:List D} {ns:List Int},Yh ds=cq ns->Vt ds=cq (ns.map OD)
 |[],ns,e=>by cases e;rfl
 | d::ds,ns,e=>by
  cases d with
  |int i=>
   obtain⟨l,a,I⟩:=zI e;subst I;show((Ez<|.int i).bind λk=>(Vt ds).map λr=>k::r)=_;rw[Kx a];rfl
  |_=>cases e
theorem Kl:∀(ps acc:List (Key×V)),((acc++ps).map (·.1)).Nodup->nj acc ps=acc++ps
 |[],acc,_=>by simp[nj]
 |(k,v)::ps,acc,h=>by
  have b:¬((acc.any λI=>decide<|I.1=k)=cI):=λq=>by obtain⟨I,a,O⟩:=Uc.mp q;rw[Nx,MT]at h;have:=(List.nodup_append.mp h).2.2 I.1 (Na.mpr ⟨I,a,rfl⟩) k ⋯;exact this<|of_decide_eq_true O
  show nj (eE acc k v) ps=_;rw[show eE acc k v=acc++[(k,v)]by unfold eE;rw[UY b]];rw[Kl ps (acc++[(k,v)]) (by simpa using h)];simp
theorem Vm:∀{ns:List Int},ns.Nodup->(ns.map<|OD (β:=Str)).Nodup
 |[],_=>by simp
 |n::ns,h=>by simp only[MT,PX,Na,OD.injEq,exists_eq_right]at h ⊢;exact⟨h.1,Vm h.2⟩
section
variable{X:Cx}{pins:UQ}{σ:St}{H:Hp}{s:d9}{p:dt}{kA:List (Key×V)}
theorem Inv.g?(I:Inv X pins σ H s)(O:H p=cq (.dK kA)):∃o,Inv X pins σ (upd H p<|.rn o<|.dK kA) s:=by
 have U:=(show ir X.prog X.w H s.heap p (.dK kA)from I.eH p _ O);obtain⟨o,Y⟩:∃o,s.heap.get? p=cq o:=by obtain⟨_,_,_,_,o,_,_,e,_⟩:=U;exact⟨_,e⟩
 exact⟨o,I.write (x:=p) (e:=p) (o:=.rn o (.dK kA)) (t':=s.toks) (h':=s.heap) (by rw[O];exact OK) (.inl rfl) (λb q Z z=>z) ⟨_,Y⟩ ⟨Y,U⟩⟩
end
theorem Yj{K:Mj}{H:Hp}{i:Int}:∀{ks vs:List D} {z:List Key} {xs:List V},Vt ks=cq z->z.length=xs.length->d8 K H vs xs->
 (∀d,bq ks vs i=cq d->∃v,ai (z.zip xs) (OD i)=cq v/\Rep K H d v)/\(bq ks vs i=da->ai (z.zip xs) (OD i)=da)
 |[],vs,z,xs,e,l,r=>by cases e;exact⟨(λd q=>by cases q),λ_=>rfl⟩
 |k::ks,[],z,xs,e,l,r=>by rw[r.tv]at l ⊢;rw[List.length_eq_zero_iff.mp l];exact⟨(λd q=>by cases q),λ_=>rfl⟩
 | k::ks,v::vs,z,xs,e,l,r=>by
  obtain⟨f,a,Z⟩:=zf e;obtain⟨O,g,h⟩:=zI Z;subst h;obtain⟨x,U,rfl,n,o⟩:=r.o4;have Y:=Yj (i:=i) g (by simpa using l) o;have step:f≠OD i->ai ((f::O).zip (x::U)) (OD i)=ai (O.zip U) (OD i):=λb=>by rw[RW];simp[ai,OZ,b]
  cases k with
  | int j=>
   cases a;by_cases I:j=i
   ·subst I
    refine⟨λd q=>⟨x,?_,?_⟩,λq=>?_⟩
    ·rw[RW];exact KG rfl
    ·have:v=d:=by simpa[bq]using q
     exact this ▸ n
    ·simp[bq]at q
   ·have b:(OD j:Key)≠OD i:=λq=>I (OD.inj q)
    rw[step b];have m:bq (.int j::ks) (v::vs) i=bq ks vs i:=by simp[bq,I]
    rw[m];exact Y
  |str y=>
   cases a;rw[step (λq=>by cases q)];exact Y
  |_=>cases a
def B7(C e:dt):et->Prop:=λh=>∃a,h.get? e=cq (Yn C da a)
def xb(C e d:dt):et->Prop:=λh=>∃a,h.get? e=cq (Yn C (cq d) a)
theorem rA{P:f9}{w:f6}{H:Hp}{h:et}{C e a0:dt}(q:h.get? e=cq (Yn C da a0)):ir P w H h e (.ext<|B7 C e):=
 ⟨⟨a0,q⟩,⟨_,q⟩,λb I z k=>by obtain⟨a,z⟩:=z;exact⟨a,k _ z⟩⟩
theorem CA{P:f9}{w:f6}{H:Hp}{h:et}{C e d a0:dt}(q:h.get? e=cq (Yn C (cq d) a0)):ir P w H h e (.ext<|xb C e d):=
 ⟨⟨a0,q⟩,⟨_,q⟩,λb I z k=>by obtain⟨a,z⟩:=z;exact⟨a,k _ z⟩⟩
section
variable{X:Cx}{pins:UQ}{σ:St}{H:Hp}{s:d9}{h':et}
theorem Hk{a:dt}{o:HO}{t':Nat}(I:Inv X pins σ H s)(k:∀b u,s.heap.get? b=cq u->h'.get? b=cq u)(Y:s.heap.get? a=da)(new:ir X.prog X.w (upd H a o) h' a o):H a=da/\Inv X pins σ (upd H a o) {s with heap:=h',toks:=t'}:=by
 have d:H a=da:=by
  cases q:H a with
  |none=>rfl
  |some u=>obtain⟨U,e⟩:=yK<|I.eH a u q;rw[Y]at e;cases e
 have f b u:s.heap.get? b=cq u->b≠a:=λe z=>by rw[z,Y]at e;cases e
 refine⟨d,I.un ⟨λb u e n _ _=>k b u e,λb u e n _ _=>⟨u.slots,k b u e⟩,λb u e n _=>by rw[zE (f b u e)];exact n,λb u e _=>⟨u,k b u e⟩,λb g e=>?_,λb U u e=>?_,λb h e=>⟨#[],?_⟩⟩ λb u e=>?_⟩
 ·rw[zE (z6 e d)];exact e
 ·rw[zE (z6 e d)];exact e
 ·rw[zE (z6 e d),e];simp
 ·by_cases O:b=a
  ·subst O;rw[zF]at e;cases e;exact new
  ·rw[zE O]at e
   exact(I.eH b u e).vl (λc v _ q=>k c v q) (λc q=>by rw[zE (z6 q d)];exact q) λc g q=>by rw[zE (z6 q d)];exact q
end
def Bf(K:Mj)(C:dt):Option dt:=match K.lookup C with
 |some o=>if (o.cls==Oc "type"&&o.slots.size==6&&(o.slots.toList.drop 4).take 1 == [cq (Value.builtin "ValueError.__new__")])=cI then (match Bn o with
  |some a=>if (a.mro.take 1 == [MP C]&&!a.hasDel&&RP K s9 (a.mro.drop 1)&&RQ K a.ns)=cI then cq a.ns else da
  |none=>da)else da
 |none=>da
theorem sr{K:Mj}{C N:dt}(e:Bf K C=cq N):∃nm q bs bm hdct sn sub ab col dd k0 k1 k2 k3 k5,K.lookup C=cq (O0 nm q C N bs bm hdct sn sub ab col dd k0 k1 k2 k3 k5 "ValueError.__new__")/\RP K s9 bm=cI/\RQ K N=cI:=by
 unfold Bf at e;cases ho:K.lookup C with
 |none=>rw[ho]at e;cases e
 | some o=>
  rw[ho]at e;obtain⟨n,dd,U,d⟩:=o;dsimp only at e;by_cases I:(n==Oc "type"&&d.size==6&&(d.toList.drop 4).take 1 == [cq (Value.builtin "ValueError.__new__")])=cI
  ·rw[UJ I]at e
   simp only[Mw,beq_iff_eq]at I;obtain⟨⟨r,s⟩,t⟩:=I;subst r;obtain⟨k0,k1,k2,k3,k5,i⟩:=pR (by simpa using s) t;cases hd:Bn ⟨.type "type",dd,U,d⟩with
   |none=>rw[hd]at e;cases e
   | some a=>
    rw[hd]at e;dsimp only at e;have j:U=.cls a:=by
     unfold Bn at hd;cases U with
     |cls u=>cases hd;rfl
     |_=>cases hd
    subst j;by_cases O:(a.mro.take 1 == [MP C]&&!a.hasDel&&RP K s9 (a.mro.drop 1)&&RQ K a.ns)=cI
    ·rw[UJ O]at e
     cases e;simp only[Mw,beq_iff_eq,Oe]at O;obtain⟨⟨⟨Z,g⟩,Y⟩,b⟩:=O;obtain⟨nm,bs,f,x,p,k,sn,sub,ab,col,w⟩:=a;dsimp only at Z g Y b;subst g;have m:d = #[k0,k1,k2,k3,cq (.builtin "ValueError.__new__"),k5]:=by obtain⟨l⟩:=d;simp only at i;rw[i]
     subst m;have h:=rD Z;generalize f.drop 1=bm at h Y;subst h;exact⟨nm,p,bs,bm,k,sn,sub,ab,col,dd,k0,k1,k2,k3,k5,rfl,Y,b⟩
    ·rw[UY O]at e;cases e
  ·rw[UY I]at e;cases e
section
variable{X:Cx}{pins:UQ}{σ:St}{H:Hp}{s:d9}{h':et}
theorem Lq{x d C a0:dt}{att:Str}{i:Int}{u:dy}{t':Nat}(I:Inv X pins σ H s)(hx:H x=cq (.ext<|B7 C x))(hn:s.heap.get? d=da)(h1:h'.get? x=cq (Yn C (cq d) a0))(Y:h'.Ns1 d (λy=>if y=att then cq u else da))(Z:RelV (.int i) u)
 (k:∀b o,b≠x->s.heap.get? b=cq o->h'.get? b=cq o):H d=da/\d≠x/\Inv X pins σ (upd (upd H x<|.ext<|xb C x d) d<|.xd [(att,.int i)]) {s with heap:=h',toks:=t'}:=by
 have g:H d=da:=by
  cases q:H d with
  |none=>rfl
  |some o=>obtain⟨p,e⟩:=yK<|I.eH d o q;rw[hn]at e;cases e
 have j:d≠x:=λq=>by rw[q,hx]at g;cases g
 have m b o:s.heap.get? b=cq o->b≠d:=λe z=>by rw[z,hn]at e;cases e
 have h b:H b=da->b≠x:=λe z=>by rw[z,hx]at e;cases e
 have off b:b≠x->b≠d->upd (upd H x<|.ext<|xb C x d) d (.xd [(att,.int i)]) b=H b:=λt w=>by rw[zE w,zE t]
 have mt b o:H b=cq o->(∀a,o ≠ .ext a)->upd (upd H x<|.ext<|xb C x d) d (.xd [(att,.int i)]) b=cq o:=λe z=>by rw[off b (λq=>by rw[q,hx]at e;cases e;exact z _ rfl) (λq=>by rw[q,g]at e;cases e),e]
 refine⟨g,j,I.un ⟨λb o e n _ _=>k b o (h b n) e,λb o e n _ _=>⟨o.slots,k b o (h b n) e⟩,λb o e n _=>?_,λb o e _=>?_,λb r e=>mt b _ e<|λa z=>(nomatch z),λb p B e=>mt b _ e<|λa z=>(nomatch z),λb A e=>⟨#[],?_⟩⟩ λb o e=>?_⟩
 ·rw[off b (h b n) (m b o e)];exact n
 ·by_cases O:b=x
  ·exact⟨_,(congrArg h'.get? O).trans h1⟩
  ·exact⟨o,k b o O e⟩
 ·rw[mt b _ e (λa z=>nomatch z)];simp
 ·by_cases O:b=d
  ·rw[O]at e ⊢
   rw[zF]at e;cases e;refine⟨_,Y,λf=>?_⟩;by_cases q:f=att
   ·subst q
    rw[UJ rfl];simp[Ti];exact Z
   ·rw[UY q]
    have:([(att,V.int i)]:List (Str×V)).lookup f=da:=by simp[Ti,beq_eq_false_iff_ne.mpr q]
    rw[this];trivial
  ·rw[zE O]at e
   by_cases U:b=x
   ·rw[U]at e ⊢
    rw[zF]at e;cases e;exact CA h1
   ·rw[zE U]at e
    refine(I.eH b o e).vl (λc v l q=>k c v ?_ q) (λc q=>mt c _ q<|λa z=>nomatch z) λc r q=>mt c _ q<|λa z=>nomatch z;rcases l with z|z
    ·rw[z];exact U
    ·rintro rfl
     rw[hx]at z;cases z
end
structure XA(K:Mj)(mg:UZ)(C:dt)(att:Str):Prop where
 ex:∃S N cd,mg "SplitError" = cq (.ref S)/\Bf K C=cq N/\Pl K C=cq cd/\cd.mro=.ref C :: .ref S::s9/\cd.hasDict=cI/\
  NP K (.ref C) "__setattr__" = cq (cq (.builtin "object.__setattr__"))/\yg K C (.type "object")=cq cI/\NP K (.ref C) att=cq da/\
  Rf K (.ref S) "__getattribute__" = cq (cq (.builtin "type.__getattribute__"))/\PySem.W.readsIn K S (.type "type")=cI/\
  SE K (.ref S) (.type "type") "__init__" = cq (.val (.builtin "ValueError.__init__"))
def fD(C:dt):TS:=λD a H=>∃e i,a[0]? = cq (cq (V.ref e))/\a[1]? = cq (cq (V.int i))/\inR i=cI/\H e=cq (.ext<|B7 C e)/\D.nx a H
def sO(C:dt)(att:Str):TS:=λD a H=>∃e i,a[0]? = cq (cq (V.ref e))/\a[1]? = cq (cq (V.int i))/\H e=cq (.ext<|B7 C e)/\
 ∀d,H d=da->d≠e->D.nx a (upd (upd H e<|.ext<|xb C e d) d<|.xd [(att,.int i)])
section
variable{X:Cx}{sc:gx}{N L:List Str}{k:Nat}{C:dt}{att x0 x1:Str}{p0 p1 p2 p3 p4 p5 p6 p7 p8 pos pos':e8}
theorem um(h:SX X sc N L k)(A:XA X.K X.mg C att)(c0:kY sc N 0 x0=cI)(c1:kY sc N 1 x1=cI)(hs:qq (.Name x1 p1) (cq (.Attribute (.Name x0 p0) att pos')) pos.line X.env=pure di:=by rfl):
 PS X (.Assign [.Attribute (.Name x0 p0) att pos'] (.Name x1 p1) pos) (sO C att):=by
 intro a s f H D I G;obtain⟨e,i,Q,R,U,q⟩:=G;obtain⟨S,Nn,cd,a1,a2,n,o,p,r,t,x,_⟩:=A.ex;refine plainObj_wpAny_Assign_Attribute (fe (h.var c1 a s f H (λv b=>v=.int i/\b=H) I ⟨_,R,rfl,rfl⟩) λu y j=>fe (h.var c0 a y f H (λv b=>v=.ref e/\b=H) (by obtain⟨v,b,Y,Z,rfl,rfl⟩:=j;exact Y) ⟨_,Q,rfl,rfl⟩) λM T z2=>?_) hs;obtain⟨v1,b,Y,Z,rfl,rfl⟩:=j;obtain⟨v2,l,O,P,rfl,rfl⟩:=z2;cases (show M=MP e from P);obtain⟨J,g,dr,tk,os⟩:=T;obtain⟨⟨a0,E⟩,_,_⟩:=(show ir X.prog X.w l J e (.ext<|B7 C e)from O.eH e _ U);refine Ll (S:=S) O.iv E r t n o p x λh' d F W y2 y3 y4=>?_;obtain⟨z,B,m⟩:=Lq (t':=F) (att:=att) (i:=i) O U W (a0:=a0) y2 y3 Z y4;exact⟨f,_,m,q d z B⟩
theorem nA{O U:Str}{Z Y:Nat}(h:SX X sc N L k)(A:XA X.K X.mg C att)(cS:kz sc "SplitError" = cI)(c0:kY sc N 0 x0=cI)(c1:kY sc N 1 x1=cI)(l1:O.length<=1000)(l2:U.length<=1000)
 (hs:qq (.Call (.Attribute (.Name "SplitError" p0) "__init__" p1) [.Name x0 p2,.JoinedStr [.Constant (.str O) Z p3,.FormattedValue (.Name x1 p4) (-1) da p5,.Constant (.str U) Y p6] p7] [] p8) da pos.line X.env=pure di:=by rfl)
 (ax:(p1.endLine==p8.line)=cI:=by rfl):
 PS X (.Expr (.Call (.Attribute (.Name "SplitError" p0) "__init__" p1) [.Name x0 p2,.JoinedStr [.Constant (.str O) Z p3,.FormattedValue (.Name x1 p4) (-1) da p5,.Constant (.str U) Y p6] p7] [] p8) pos) (fD C):=by
 intro a s n H D I hZ;obtain⟨e,i,s0,s1,E,m,q⟩:=hZ;obtain⟨S,Nn,cd,M,P,a3,a4,a5,a6,a7,a8,Q,R,T⟩:=A.ex;refine _j ?_ I.quiet hs;rw[arm_eval_Call];refine Mi (ve I (h.gl cS).1 M ?_ (h.gl cS).2.2);refine Mi (Rr ?_);have b6:methodCallPos cI (.Name "SplitError" p0) X.env p1 p8=pure p8:=by unfold methodCallPos;simp[ax]
 unfold methodCall;refine Mi<|NA<|PySem.W.method_cls I.iv Q<|PySem.W.cls_value I.iv R T ⋯ ?_;refine Mi<|Si b6 ?_;refine SJ rfl<|SV ?_;show wpAny _ _ (B9 ((di,eh (.Name x0 p2) X.env)::n0 p8 [(di,eh (.JoinedStr [.Constant (.str O) Z p3,.FormattedValue (.Name x1 p4) (-1) da p5,.Constant (.str U) Y p6] p7) X.env)])) _ _ _;refine NQ<|fe (h.var c0 a _ n H (λv f=>v=.ref e/\f=H) (I.tok _) ⟨_,s0,rfl,rfl⟩) λu0 s2 z2=>?_;obtain⟨v2,p,J,r2,rfl,rfl⟩:=z2;cases (show u0=MP e from r2);show wpAny _ _ (B9 ((di,eh (.JoinedStr [.Constant (.str O) Z p3,.FormattedValue (.Name x1 p4) (-1) da p5,.Constant (.str U) Y p6] p7) X.env)::[])) _ _ s2;have cb:=OJ;have y:i.natAbs.log2<1920:=by
  have h1:i.natAbs<2^62:=by unfold inR at E;exact of_decide_eq_true E
  by_cases z:i.natAbs=0
  ·rw[z];decide
  ·have:=(Nat.log2_lt z).mpr h1
   lia
 refine NQ<|JoinedStr_many<|joinParts_cons<|Tv ?_;dsimp only;refine⟨by rw[Ru];show 0+_<=_;lia,?_⟩;refine o?<|FormattedValue_plain<|fe (h.var c1 a _ n p (λv f=>v=.int i/\f=p) (J.tok _) ⟨_,s1,rfl,rfl⟩) λu1 s3 z3=>?_;obtain⟨v3,d,j,r3,rfl,rfl⟩:=z3;obtain⟨F,rfl⟩:=(show ∃F,u1=Sn i F from r3);refine formatField_int_small y ?_;dsimp only;have ce:(MU<|toString i).length<=1921:=by have e:=int_text_length_le (k:=1920) ⋯ y;rw[PySem.ofString_length];exact e
 have l:(Str.empty++O).length=O.length:=by rw[Ru];show 0+_=_;lia
 refine⟨by rw[Ru,l,OJ];lia,?_⟩;show wpAny _ _ (joinParts _ [eh (.Constant (.str U) Y p6) X.env]) _ _ _;refine o?<|Tv ?_;dsimp only;refine⟨by rw[Ru,Ru,l,OJ];lia,?_⟩;refine joinParts_nil ?_ (by rw[Ru,Ru,l,OJ];lia);refine OV ?_;obtain⟨nm,qn,bs,bm,B,sn,sub,ab,col,dd,k0,k1,k2,k3,k5,ho,ht,eH⟩:=sr P;obtain⟨hp,g,dr,bn,os⟩:=s3;have t:=j.iv;obtain⟨⟨a0,bu⟩,_,_⟩:=(show ir X.prog X.w d hp e (.ext<|B7 C e)from j.eH e _ m);refine Gr (RK t ht) (t _ _ ho) bu λh' ch G y2=>?_;have r:=j.write (x:=e) (e:=e) (o:=.ext (B7 C e)) (t':=bn+1+1+1+1) (by rw[m];exact OK) (.inl rfl) (λb u hb q=>y2 b u hb q) ⟨_,G⟩<|rA G;have e4:upd d e (.ext<|B7 C e)=d:=by
  funext b;by_cases z:b=e
  ·rw[z,zF,m]
  ·rw[zE z]
 rw[e4]at r;exact⟨n,d,r.tok _,q⟩
end
def Wm(C:dt)(att:Str):Sp:=λa H Q _=>∃e i,a=[.ref e,.int i]/\inR i=cI/\H e=cq (.ext<|B7 C e)/\∀d,H d=da->d≠e->Q .ej (upd (upd H e<|.ext<|xb C e d) d<|.xd [(att,.int i)])
theorem oH{P:f9}{w:f6}{K:Mj}{mg:UZ}{base:et}{q z:Str}{st:gB}{f C:dt}{fd:q7}{att:Str}{k:Nat}(O:L2.A5 K "__init__" q st f fd)(hd:X9 ["self",z] ["self",z] st=cI)
 (U:∀X:Cx,X.prog=P->X.w=w->X.K=K->X.mg=mg->X.base=base->SX X (z9 st) ["self",z] ["self",z] k->r0 X (qF st) (GC (fD C) (sO C att))):
 q5 P w K mg base sa (k+1) f fd ["self",z] (Wm C att):=by
 have S:=wF hd;refine O.ok S (λg H Q E h=>by obtain⟨e,i,rfl,_⟩:=h;rfl) λb A a s H g Q E Y Z=>⟨_,U _ rfl rfl rfl rfl rfl ⟨rfl,rfl,S.nd,rfl,Y,λ_ _=>.inl rfl⟩,?_⟩;obtain⟨e,i,rfl,d,I,q⟩:=Z;exact⟨e,i,rfl,rfl,d,I,e,i,rfl,rfl,I,q⟩
structure XJ(P:f9)(w:f6)(K:Mj)(mg:UZ)(base:et)(k:Nat)(c:Str):Prop where
 all:YD K=cI
 mem:c∈p9
 ex:∃C N fI fd ps,Zx K c=cq C/\mg c=cq (.ref C)/\Bf K C=cq N/\NP K (.ref C) "__init__" = cq (cq (.ref fI))/\OB K (.ref C)=cI/\Rh K (.ref fI)=cq (.type "function")/\
  q5 P w K mg base sa k fI fd ps (Wm C<|Wc c)/\Binds K fd ps []
def Io(K:Mj)(att:Str):Bool:=p9.all λc=> !(Wc c==att) || match Zx K c with
 |some C=>(Pl K C).any (λa=>a.hasDict)&&NP K (.ref C) att==cq da
 |none=>di
section
variable{X:Cx}{a:eo}{f:CO D}{att:Str}{pos:e8}
theorem uf(x:Io X.K att=cI)(ha:PV X a f)(hb:DJ a att X.env (eh a X.env)=eh a X.env:=by rfl):PV X (.Attribute a att pos) (IF att f):=by
 intro j s σ H Q I hZ;obtain⟨E,γ,d,rc,O,q⟩:=hZ;obtain⟨d1,e1,O⟩:=zf O;cases d1 with
 | exc c n=>
  cases n with
  |none=>cases O
  | some i=>
   have O:(if (Wc c==att)=cI then cq (D.int i)else da)=cq d:=O;by_cases Z:(Wc c==att)=cI
   ·rw[UJ Z]at O
    cases O;refine AK hb (fe (ha j s σ H (λv B=>∃e,Ext E H e B/\Rep X.K e (.exc c (cq i)) v) I ⟨E,γ,_,rc,e1,λv B e U r=>⟨e,U,r⟩⟩) λu A z=>?_);obtain⟨v,k,l,r1,F,U,rr⟩:=z;obtain⟨b,rfl,m⟩:=(show ∃b,v=.ref b/\y6 X.K F c (cq i) b from rr);cases (show u=MP b from r1);obtain⟨C,φ,g1,g2,g3,M,g4,g5⟩:=m.ex;obtain⟨S,_,y1,_,_⟩:=Jc m.all m.mem g1;have y:=NV.mp x c m.mem;rw[Z,g1]at y;simp only[Bool.not_true,Bool.false_or,Mw,beq_iff_eq]at y;obtain⟨w1,w2⟩:=y;obtain⟨cd,w3,w4⟩:=PySem.W.any_some w1;obtain⟨p,_,_⟩:=(show ir X.prog X.w k A.heap b (.ext φ)from l.eH b _ (U.sub _ _ g2));obtain⟨o,P,N⟩:=g4 _ p;obtain⟨o',vs,G,J,L⟩:=g3 _ p;rw[P]at G;cases G;obtain⟨R,T,b2⟩:=(show ir X.prog X.w k A.heap M (.xd _)from l.eH M _ (U.sub _ _ g5));have ea:Wc c=att:=beq_iff_eq.mp Z;have Y:=b2 att;have lk:([(if c==("NoRoom" : Str)then ("room" : Str)else "at",V.int i)]:List (Str×V)).lookup att=cq (.int i):=by rw[<-ea];unfold Wc;simp[Ti]
    rw[lk]at Y;obtain⟨h,hm⟩:∃h,R att=cq (.int i h):=by
     cases hz:R att with
     |none=>rw[hz]at Y;exact Oq Y
     |some uu=>rw[hz]at Y;obtain⟨h,rfl⟩:=(show ∃h,uu=Sn i h from Y);exact⟨h,rfl⟩
    obtain⟨oc,od,b5,DQ⟩:=o;dsimp only at N J L;subst N J L;obtain⟨hp,g,dr,t,os⟩:=A;exact Lp l.iv (Wg y1) P T hm w3 w4 w2 λt'=>⟨.int i,k,l.tok t',⟨h,rfl⟩,q _ k F U rfl⟩
   ·rw[UY Z]at O;cases O
 |_=>cases O
end
def iL(K:Mj)(S:dt):Bool:=match SE K (.ref S) (.type "type") "__init__" with
 |some (.val (.builtin b))=>b == "ValueError.__init__"
 |_=>di
def _m(K:Mj)(C S:dt)(att:Str):Bool:=(Bf K C).isSome&&OB K (.ref C)&&(Pl K C).any (λa=>a.mro ==.ref C :: .ref S::s9&&a.hasDict)&&
 NP K (.ref C) "__setattr__" == cq (cq (.builtin "object.__setattr__"))&&yg K C (.type "object")==cq cI&&NP K (.ref C) att==cq da&&
 Rf K (.ref S) "__getattribute__" == cq (cq (.builtin "type.__getattribute__"))&&PySem.W.readsIn K S (.type "type")&&iL K S
theorem iK{K:Mj}{S:dt}(b:iL K S=cI):SE K (.ref S) (.type "type") "__init__" = cq (.val (.builtin "ValueError.__init__")):=by
 unfold iL at b;cases q:SE K (.ref S) (.type "type") "__init__" with
 |none=>rw[q]at b;cases b
 | some r=>
  rw[q]at b;cases r with
  |get _ _ _ _=>cases b
  |val v=>
   cases v with
   |builtin n=>rw[beq_iff_eq.mp b]
   |_=>cases b
structure N4(K:Mj)(mg:UZ)(c q x1:Str)(st:gB)(att:Str):Prop where
 all:YD K=cI
 mem:c∈p9
 ex:∃C N fI fd,Zx K c=cq C/\mg c=cq (.ref C)/\Bf K C=cq N/\NP K (.ref C) "__init__" = cq (cq (.ref fI))/\OB K (.ref C)=cI/\Rh K (.ref fI)=cq (.type "function")/\
  XA K mg C att/\L2.A5 K "__init__" q st fI fd/\Binds K fd ["self",x1] []
theorem Gs{K:Mj}{mg:UZ}{h:et}{c q x1 att:Str}{st:gB}{C S z:dt}{oI:dy}{eI aI:Option dt}{lI:Array (Option dy)}{kI dI pI O tI:dy}(U:K.In h)(G:h.Ns pa mg)(e:YD K=cI)(hm:c∈p9)
 (nC:Py K pa c=cq (cq (.ref C))) (nS:Py K pa "SplitError" = cq (cq (.ref S))) (iC:NP K (.ref C) "__init__" = cq (cq (.ref z)))
 (uI:K.lookup z=cq ⟨oI,eI,.func (OW "__init__" q (wg st) (qF st) (z9 st) .none kI dI pI aI O tI),lI⟩) (vI:RR K O q=cI) (w1:OB K (.ref z)=cI) (z1:PySem.W.isFn K (.ref z)=cI) (b:_m K C S att=cI)
 (gI:∀(kV doc pm:dy) (an:Option dt) (Ht ct:dy) (us:List dy),us.length=2->R6 (OW "__init__" q (wg st) (qF st) (z9 st) .none kV doc pm an Ht ct) ⟨us,[]⟩=pure ((["self",x1]:List Str).zip us)):N4 K mg c q x1 st att:=by
 have Y:=rQ uI vI w1;unfold _m at b;simp only[Mw,beq_iff_eq]at b;obtain⟨⟨⟨⟨⟨⟨⟨⟨a,d⟩,f⟩,g⟩,i⟩,j⟩,k⟩,l⟩,m⟩:=b;obtain⟨N,Z⟩:=Ny.mp a;obtain⟨o,n,I⟩:=PySem.W.any_some f;simp only[Mw,beq_iff_eq]at I;have p:Zx K c=cq C:=by unfold Zx;rw[nC]
 exact⟨e,hm,C,N,z,_,p,So U G nC,Z,iC,d,beq_iff_eq.mp z1,⟨S,N,o,So U G nS,Z,n,I.1,I.2,g,i,j,k,l,iK m⟩,Y,Y.binds gI⟩
theorem Gq{P:f9}{w:f6}{K:Mj}{mg:UZ}{base:et}{c q z att:Str}{st:gB}{k:Nat}(A:N4 K mg c q z st att)(hd:X9 ["self",z] ["self",z] st=cI)(ha:Wc c=att)
 (I:∀C,XA K mg C att->∀X:Cx,X.prog=P->X.w=w->X.K=K->X.mg=mg->X.base=base->SX X (z9 st) ["self",z] ["self",z] k->r0 X (qF st) (GC (fD C) (sO C att))):XJ P w K mg base (k+1) c:=by
 subst ha;obtain⟨C,N,a,b,O,U,Y,Z,d,e,f,g,h⟩:=A.ex;exact⟨A.all,A.mem,C,N,a,b,_,O,U,Y,Z,d,e,oH g hd<|I C f,h⟩
section
variable{M:C1}{A:ij}{E:EQ}{env:j1}
variable{nm q:Str}{C N:dt}{bs bm:List dy}{hdct:Bool}{sn:List Str}{sub:List dy}{ab:Bool}{col:Option Bool}{dd:Option dt}{k0 k1 k2 k3 k5:Option dy}{newId:String}
theorem cQ{s:d9}{x:l6 dy}{Q:Flow->d9->Prop}(Y:bm.contains (.type "BaseException")=cI)(Z:A.handled=da)
 (h:wpAny M A x (λv I=>∃e t d,v=.ref e/\I.heap.get? C=cq (O0 nm q C N bs bm hdct sn sub ab col dd k0 k1 k2 k3 k5 newId)/\
   I.heap.get? e=cq (Yn C (cq d) t)/\E (.ref e) I) E s):
 wpAny M A (raiseStmt env (cq x) da) Q E s:=by
 have b:(MP C::bm).contains (.type "BaseException")=cI:=by rw[List.contains_cons,Y,Bool.or_true]
 unfold raiseStmt;refine Mi<|MG h (λv I a=>?_) λ_ _ x=>x;obtain⟨e,t,d,rfl,O,U,f⟩:=a;obtain⟨j,g,i,k,os⟩:=I;unfold Yn at U
 repeat (first|with_reducible refine Oy U ?_|with_reducible refine Oy O ?_|(with_reducible refine O? O ?_;rw[b])|wp_step)
 exact U? Z f
end
section
variable{X:Cx}{sc:gx}{N L:List Str}{k j:Nat}{a:eo}{f:CO D}{c:Str}{np pos cpos:e8}{pins:UQ}{σ:St}{H H0:Hp}{s:d9}{γ:Ctx}{i:Int}
theorem iV(h:SX X sc N L k)(cc:kz sc c=cI)(x:XJ X.prog X.w X.K X.mg X.base j c)(hj:j+1<=k)(ha:PV X a f)(I:Inv X pins σ H s)(rc:RC X.K H0 H σ γ)(e1:f γ=cq (.int i))(hi:inR i=cI)(he:eJ [a] X.env=[(di,eh a X.env)]:=by rfl):
 wpAny (ef X.prog X.w) X.A (eh (.Call (.Name c np) [a] [] pos) X.env) (λu s'=>∃e d C H1 U,u=.ref e/\Inv X pins σ (upd (upd H1 e<|.ext<|xb C e d) d<|.xd [(Wc c,.int i)]) s'/\Ext H0 H U H1/\H1 e=da/\H1 d=da/\d≠e/\Zx X.K c=cq C/\(X.ex=[]->X.h8.heap.get? e=da)) X.xe s:=by
 obtain⟨C,Nn,y,fd,ps,x1,x2,x3,x4,x5,O,F,hb⟩:=x.ex;obtain⟨nm,qn,bs,bm,J,sn,sub,ab,col,dd,k0,k1,k2,k3,k5,ho,ht,eH⟩:=sr x3;refine Ob<|ve I (h.gl cc).1 x2 ?_ (h.gl cc).2.2;have ar:PA X [a] _:=jq ha qp he;refine r_ (h₀:=X.base) I.ok.mod.E1 x5 (fe (ar pos pins s σ H (λB H1=>B=[.int i]/\∃U,Ext H0 H U H1) I ⟨H0,γ,.int i,rc,e1,λv R n E rr=>⟨by rw[show v=.int i from rr],n,E⟩⟩) λus s1 M=>⟨?_,?_⟩) (by rw[he];rfl) rfl
 ·obtain⟨B,H1,Y,_⟩:=M;exact Y.iv
 obtain⟨B,H1,Y,rv,t,U,E⟩:=M;subst t;obtain⟨u,rfl,ru⟩:=yU rv;have l:=Y.iv;obtain⟨Z,b1,b2⟩:∃Z,X.K.lookup y=cq Z/\Z.cls=.type "function":=by
  have O:(X.K.lookup y).map (·.cls)=cq (.type "function"):=O;cases z:X.K.lookup y with
  |none=>rw[z]at O;cases O
  |some Z=>rw[z]at O;exact⟨Z,rfl,Nz O⟩
 obtain⟨hp,g,dr,tk,os⟩:=s1;refine Gu (RK l ht) (l _ _ ho) (PySem.W.looks_findIn l x4) (l _ _ b1) b2 (by show 1<=fh;decide) λh' e a0 Q y2 y3=>?_;obtain⟨hn,p⟩:=Hk (o:=.ext (B7 C e)) (t':=tk) Y y3 Q<|rA y2;have b6:X.ex=[]->X.h8.heap.get? e=da:=λb7=>by
  cases q:X.h8.heap.get? e with
  |none=>rfl
  |some o=>
   obtain⟨o',z⟩:=Y.base.there e o q (by rw[b7];simp);rw[show hp.get? e=da from Q]at z;cases z
 have P:Wm C (Wc c) [.ref e,.int i] (upd H1 e<|.ext<|B7 C e) (λv S=>v=.ej/\∃d,H1 d=da/\d≠e/\S=upd (upd H1 e<|.ext<|xb C e d) d (.xd [(Wc c,.int i)])) (λ_ _ _=>False):=by
  refine⟨e,i,rfl,hi,zF,λd G m=>⟨rfl,d,?_,m,?_⟩⟩
  ·rw[zE m]at G;exact G
  ·rw[Zi]
 have hl:[MP e,u].length=ps.length:=(F.len _ _ _ _ P).symm ▸ rfl;refine Ry<|RG (F.run _ X.stack _ _ ⟨[.ref e,u],[]⟩ [.ref e,u] [.ref e,.int i] _ _ ((h.room.mono hj).make C [u] []) (p.B5.make C [u] []) (by simpa using hb _ [.ref e,u] p.iv (by simpa using hl)) (.cons rfl<|.cons ru .nil) P) λr s' b=>?_;cases r with
 |error ee=>exact Oq b
 | ok fl=>
  cases fl with
  |ret uu=>
   obtain⟨v,R,T,bd,t,d,be,m,rfl⟩:=p.after b;subst t;exact⟨bd,⟨e,d,C,H1,U,rfl,T,E,hn,be,m,x1,b6⟩⟩
  |next=>exact Oq b
  |brk=>exact Oq b
  |cont=>exact Oq b
theorem Y4(h:SX X.ly sc N L k)(hc:kz sc c=cI)(x:XJ X.prog X.w X.K X.mg X.base j c)(hj:j+1<=k)(ha:PV X.ly a f)
 (hs:eJ [a] X.env=[(di,eh a X.env)]:=by rfl):Px X (.Raise (cq (.Call (.Name c np) [a] [] cpos)) da pos) (Wh c f):=λpins s σ H F0 F1 H0 γ cc I r e w=>by
 obtain⟨i,n,e⟩:=zf e;obtain⟨d0,B,n⟩:=zf n;rw[jW n]at B;by_cases o:inR i=cI
 ·rw[UJ o]at e
  cases e;have W:X.A.handled=da:=I.ok.hd (show X.calm=cI from h.calm);obtain⟨C,Q,fI,fd,ps,G,x2,x3,x4,x5,zae,FO,hb⟩:=x.ex;obtain⟨nm,qn,bs,bm,hdct,sn,sub,ab,col,dd,k0,k1,k2,k3,k5,ho,ht,eH⟩:=sr x3;have R:∀{g:et},X.K.In g->P7 g s9 bm:=λY=>RK Y ht;have P:=Po;rw[arm_exec_Raise];refine Mi (Rr ?_);show wpAny _ _ (raiseStmt X.env (cq (do let v<-eh (.Call (.Name c np) [a] [] cpos) X.env;E8 pos;pure v)) da) _ _ _;refine cQ (C:=C) (nm:=nm) (q:=qn) (N:=Q) (bs:=bs) (bm:=bm) (hdct:=hdct) (sn:=sn) (sub:=sub) (ab:=ab) (col:=col) (dd:=dd) (k0:=k0) (k1:=k1) (k2:=k2) (k3:=k3) (k5:=k5) (newId:="ValueError.__new__") ((R I.iv).hasType P.hasBase) W ?_;refine Mi (MG (iV (X:=X.ly) h hc x hj ha (I.iw _) r.rc B o hs) (λu F z=>Mi (Rr (Mo ?_))) λ_ _ z=>z.elim);obtain⟨e,d,J,l,bb,rfl,O,U,hn,m,y,Z,S⟩:=z;have Z:Zx X.K c=cq J:=Z;rw[G]at Z;cases Z;have O:=O.qs;have E:upd (upd l e (.ext (xb C e d))) d (.xd [(Wc c,.int i)]) e=cq (.ext (xb C e d)):=by rw[zE (Nr y),zF]
  obtain⟨⟨t,g1⟩,_,_⟩:=(show ir X.prog X.w _ F.heap e (.ext<|xb C e d)from O.eH e _ E);refine⟨e,t,d,rfl,O.iv _ _ ho,g1,?_⟩;have T:(λb=>if b=e then da else upd (upd l e<|.ext<|xb C e d) d (.xd [(Wc c,.int i)]) b)=upd l d (.xd [(Wc c,.int i)]):=by
   funext b;by_cases q:b=e
   ·rw[UJ q,q,zE<|Nr y,hn]
   ·rw[UY q]
    by_cases p:b=d
    ·rw[p,zF,zF]
    ·rw[zE p,zE q,zE p]
  have M:=r.ext.trans<|(U.trans<|Ext.hide U.sub m<|.xd [(Wc c,.int i)]).show (yb U.s1 m) (jy U.sub m) zF r.rc.sub;exact w.2.2 pins σ _ _ F e C d t (xb C e d) O E g1 S (by rw[T];exact M) x.all x.mem G ⟨d,rfl,zF⟩
 ·rw[UY o]at e;cases e
end
def fT(g:CO D):CO D:=λa=>(g a).bind λd=>match d with
 |.str y=>if y=("r" : Str)then cq (.int 0)else if y=("l" : Str)then cq (.int 1)else da
 |_=>da
def Ce:V->List V->Hp->VK->Prop:=λx a H Q=>∃y j,x=.str "rl"/\a=[.str y]/\Builtin.Str.occurrences "rl" y 0 2 1=[j]/\Q (.int j) H
theorem nX{X:Cx}:M9 X "str.index" Ce:=by intro a s g H x e v d Q I b O h;obtain⟨y,j,rfl,rfl,U,q⟩:=h;obtain⟨t,rfl⟩:=b;obtain⟨f,rfl,rw⟩:=yU O;obtain⟨u,rfl⟩:=rw;exact call_gives F.slot_str_index (Uk _ _ _) F.entry_str_index (F.args_str_index_2 _ _) (gives_str_index "rl" y t u j [] U) ⟨.int j,H,I.tok _,⟨_,rfl⟩,q⟩
section
variable{X:Cx}{e:eo}{apos cpos sp:e8}{kd:Nat}{g:CO D}
theorem mZ(U:PV X e g)
 (Y:((n0 cpos<|starEach [e] X.env).all (λx=> !x.1)&&(N5 cpos<|keywordEach [] X.env).all (λx=>x.1.isSome)&&decide ([e].length+([]:List A7).length+(if ([]:List A7).isEmpty then 0 else 1)<30))=cI:=by rfl)
 (Z:(apos.endLine==cpos.line)=cI:=by rfl) (hs:eJ [e] X.env=[(di,eh e X.env)]:=by rfl):PV X (.Call (.Attribute (.Constant (.str "rl") kd sp) "index" apos) [e] [] cpos) (fT g):=
 qo (gM PySem.F.plainAttrs_str PySem.F.slot_str_index PySem.F.type_str_index nX (show PV X (.Constant (.str "rl") kd sp) (qv (.str "rl"))from jg) (jq U qp hs) rfl Y Z hs rfl) λB H Q p=>by
  obtain⟨i,h,d,f,I,t⟩:=p;obtain⟨n,o,I⟩:=zf I;cases n with
  | str y=>
   have l:∃j:Nat,d=.int j/\Builtin.Str.occurrences "rl" y 0 2 1=[j]:=by
    have I:(if y=("r" : Str)then cq (D.int 0)else if y=("l" : Str)then cq (.int 1)else da)=cq d:=I;by_cases b:y=("r" : Str)
    ·rw[UJ b]at I;cases I;subst b;exact⟨0,rfl,by kernel_rfl⟩
    ·rw[UY b]at I
     by_cases O:y=("l" : Str)
     ·rw[UJ O]at I;cases I;subst O;exact⟨1,rfl,by kernel_rfl⟩
     ·rw[UY O]at I;cases I
   obtain⟨j,rfl,s⟩:=l;refine⟨i,h,.str "rl",f,rfl,λv A a x r=>?_⟩;rw[show v=.str "rl" from r];refine⟨rfl,a,h,.str y,f.ext x,o,λw k m z u=>?_⟩;rw[show w=.str y from u];exact⟨y,j,rfl,rfl,s,t _ k m (x.trans z) rfl⟩
  |_=>cases I
end
theorem cP(I:Inv X pins σ H s)(sub:gm H0 H)(U:gE X.K H p xs)(r:d8 X.K H0 ds xs)(o:qi ds=cI):∃O,Reads s.heap (.ref p) (.list<|n7 ds) O:=by obtain⟨d,Y,q,f⟩:=I.list U;obtain⟨g,Z,a,n,b⟩:=q.isList;obtain⟨O,e⟩:=T6 I sub o r Y;exact⟨_,.list Z a b<|by simpa using e⟩
section
variable{X:Cx}{sc:gx}{N L:List Str}{k:Nat}
theorem SX.J?(h:SX X sc N L k):X.A.units+66<Dj:=by have:=h.room.un;lia
end
end DL
namespace L2
open PySem PySem.Spec PyProof.Rows
theorem KH(a b c:dy):checkTypeCall "zip" ⟨[a,b,c],[]⟩=pure ():=by kernel_rfl
theorem Vp(a b c:dy):R8 "zip.__new__" ⟨[.type "zip",a,b,c],[]⟩=pure ():=by kernel_rfl
abbrev ym(h:et)(T:dt)(a b c:dy):Prop:=h.get? T=cq {cls:=.type "tuple",data:=.seq #[a,b,c]}
structure R5(z TI TO i1 i2 i3 l1 l2 l3:dt):Prop where
 TIz:TI≠z
 TOz:TO≠z
 i1z:i1≠z
 i2z:i2≠z
 JJ:i3≠z
 TITO:TI≠TO
 TIi1:TI≠i1
 TIi2:TI≠i2
 _W:TI≠i3
 TOi1:TO≠i1
 TOi2:TO≠i2
 F5:TO≠i3
 i12:i1≠i2
 UR:i1≠i3
 US:i2≠i3
 l1z:l1≠z
 l2z:l2≠z
 l2TO:l2≠TO
 l2i1:l2≠i1
 M_:l3≠z
 S5:l3≠TO
 L_:l3≠i1
 M':l3≠i2
section
variable{prog:f9}{w:f6}{A:ij}{E:EQ}{s:d9}
theorem YL{T:dt}{a b c x:dy}{k:Nat}{Q:Unit->d9->Prop}(I:ym s.heap T a b c)
 (h:∀h',h'.get? T=cq {cls:=.type "tuple",data:=.seq ((#[a,b,c]:Array dy).setIfInBounds k x)}->Pc T s.heap h'->Q () {s with heap:=h'}):
 wpAny (ef prog w) A (P1 T (·.setIfInBounds k x)) Q E s:=by
 have q:=Nu (Nt λ(t:Array dy)=>t.setIfInBounds k x) I rfl;exact Rq I rfl<|h _ (by rw[q];simp[Nt])<|p_ ..
theorem eO{k1 k2 k3:Sk}{z TI TO i1 i2 i3 l1 l2 l3:dt}{n1 n2 n3:Nat}{xs ys zs:Array dy}{x y v a b c:dy}{Q:EQ}(D:R5 z TI TO i1 i2 i3 l1 l2 l3)
 (hz:m3 s.heap z TI TO .none) (bg:ym s.heap TI (.ref i1) (.ref i2) (.ref i3)) (bi:ym s.heap TO a b c)
 (h1:g7 k1 s.heap i1 l1 n1) (h2:g7 k2 s.heap i2 l2 n2) (h3:g7 k3 s.heap i3 l3 n3) (bu:i7 k1 s.heap l1 xs) (bv:i7 k2 s.heap l2 ys) (bx:i7 k3 s.heap l3 zs) (hx:xs[n1]? = cq x) (hy:ys[n2]? = cq y) (hv:zs[n3]? = cq v)
 (hQ:∀h',m3 h' z TI TO (xg s.heap.objs.size)->ym h' TO x y v->g7 k1 h' i1 l1 (n1+1)->g7 k2 h' i2 l2 (n2+1)->g7 k3 h' i3 l3 (n3+1)->ym h' s.heap.objs.size x y v->h'.objs.size=s.heap.objs.size+1->
   (∀c o,c≠z->c≠TO->c≠i1->c≠i2->c≠i3->s.heap.get? c=cq o->h'.get? c=cq o)->Q (.ref s.heap.objs.size) {s with heap:=h'}):
 wpAny (ef prog w) A (Builtin.«zip.__next__» ⟨[.ref z],[]⟩) (λc8 s'=>∃v,c8=.done (.ret v)/\Q v s') E s:=by
 refine Mi (m:=field (.ref z) 2)<|MV hz rfl (x:=.bool di) rfl ?_;refine Mi (m:=field (.ref z) 3)<|MV hz rfl (x:=.ref TI) rfl ?_;refine Mi<|Nk bg rfl ?_;refine Mi (m:=MB<|.ref z) ?_;unfold MB;refine Mi<|MV hz rfl (x:=.none) rfl<|Mo ?_;simp only[if_true];refine Mi<|PH<|Mi<|MV hz rfl (x:=.ref TO) rfl ?_;refine Mi<|Nm hz ⋯ λg1 p Y=>?_;replace p:m3 g1 z TI TO .ellipsis:=p;refine Mi ?_;simp only[SG,SM,Pp,PF];refine Mi<|Mi<|OU ?_;refine Mi (m:=Mu<|.ref i1)<|qy (h1.at λo e=>Y.extBut _ _ D.i1z e) (bu.at λo e=>Y.extBut _ _ D.l1z e) hx λg2 X j=>Mo ?_;have M:ym g2 TO a b c:=j.extBut _ _ D.TOi1<|Y.extBut _ _ D.TOz bi;refine Mi<|Nk M rfl<|Mi<|YL M λg3 r k=>?_;replace r:ym g3 TO x b c:=r;have Z c o:c≠z->c≠i1->c≠TO->s.heap.get? c=cq o->g3.get? c=cq o:=λO U g e=>k.extBut _ _ g<|j.extBut _ _ U<|Y.extBut _ _ O e;refine Mi<|C2<|Mo<|Mi<|Mi<|OU ?_;refine Mi (m:=Mu<|.ref i2)<|qy (h2.at λo e=>Z _ o D.i2z D.i12.symm D.TOi2.symm e) (bv.at λo e=>Z _ o D.l2z D.l2i1 D.l2TO e) hy λg4 cc t=>Mo ?_;have N:ym g4 TO x b c:=t.extBut _ _ D.TOi2 r;refine Mi<|Nk N rfl<|Mi<|YL N λL u B=>?_;replace u:ym L TO x y c:=u;have d c o:c≠i2->c≠TO->g3.get? c=cq o->L.get? c=cq o:=λO U e=>B.extBut _ _ U<|t.extBut _ _ O e;refine Mi<|C2<|Mo<|Mi<|Mi<|OU ?_;refine Mi (m:=Mu<|.ref i3)<|qy (h3.at λo e=>d _ o D.US.symm D.F5.symm<|Z _ o D.JJ D.UR.symm D.F5.symm e) (bx.at λo e=>d _ o D.M' D.S5<|Z _ o D.M_ D.L_ D.S5 e) hv λg6 ce as=>Mo ?_;have P:ym g6 TO x y c:=as.extBut _ _ D.F5 u;refine Mi<|Nk P rfl<|Mi<|YL P λI l C=>?_;replace l:ym I TO x y v:=l;have n c o:c≠i3->c≠TO->L.get? c=cq o->I.get? c=cq o:=λO U e=>C.extBut _ _ U<|as.extBut _ _ O e;refine Mi<|C2<|Mo<|Mo<|Mi<|Nk l rfl<|Mi<|R0 ?_;have h:I.objs.size=s.heap.objs.size:=by rw[C.1,as.1,B.1,t.1,k.1,j.1,Y.1]
 have R:m3 I z TI TO .ellipsis:=n _ _ D.JJ.symm D.TOz.symm (d _ _ D.i2z.symm D.TOz.symm (k.extBut _ _ D.TOz.symm (j.extBut _ _ D.i1z.symm p)));have cf c o:c≠z->c≠TO->c≠i1->c≠i2->c≠i3->s.heap.get? c=cq o->I.get? c=cq o:=λO U g J K e=>n c o K U (d c o J U (Z c o O g U e));have ch:g7 k1 I i1 l1 (n1+1):=X.at λo e=>n _ o D.UR D.TOi1.symm (d _ o D.i12 D.TOi1.symm (k.extBut _ _ D.TOi1.symm e));have ci:g7 k2 I i2 l2 (n2+1):=cc.at λo e=>n _ o D.US D.TOi2.symm (B.extBut _ _ D.TOi2.symm e);have cl:g7 k3 I i3 l3 (n3+1):=ce.at λo e=>C.extBut _ _ D.F5.symm e;have S:z<I.objs.size:=Mt R;refine Mi (m:=NF (.ref z) (.ref I.objs.size)) ?_;unfold NF;have cm:m3 (I.push {cls:=.type "tuple",data:=.seq #[x,y,v]}) z TI TO .ellipsis:=Mk _ R;refine Mi (Nm cm ⋯ λg9 F G=>?_);replace F:m3 g9 z TI TO (xg I.objs.size):=F;refine Nm F ⋯ λf ad H=>?_;replace ad:m3 f z TI TO (xg I.objs.size):=ad;have i c o:c≠z->I.get? c=cq o->f.get? c=cq o:=λO e=>H.extBut _ _ O (G.extBut _ _ O (Mk _ e));have T:ym f I.objs.size x y v:=H.extBut _ _ (Oh S) (G.extBut _ _ (Oh S) (My _ rfl));have W:f.objs.size=I.objs.size+1:=by rw[H.1,G.1,MM]
 rw[h]at ad T W;refine Mo ⟨_,rfl,?_⟩;show Q (.ref I.objs.size) _;rw[h];exact hQ f ad (i _ _ D.TOz l) (ch.at λo e=>i _ o D.i1z e) (ci.at λo e=>i _ o D.i2z e) (cl.at λo e=>i _ o D.JJ e) T W λc o O U g J K e=>i c o O<|cf c o O U g J K e
theorem mx{k1 k2 k3:Sk}{z TI TO i1 i2 i3 l1 l2 l3:dt}{n1 n2 n3:Nat}{xs ys zs:Array dy}{a b c:dy}{Q:Fin->d9->Prop}(hh:A.handled=da)(D:R5 z TI TO i1 i2 i3 l1 l2 l3)
 (hz:m3 s.heap z TI TO .none) (b6:ym s.heap TI (.ref i1) (.ref i2) (.ref i3)) (b7:ym s.heap TO a b c)
 (h1:g7 k1 s.heap i1 l1 n1) (h2:g7 k2 s.heap i2 l2 n2) (h3:g7 k3 s.heap i3 l3 n3) (ax:i7 k1 s.heap l1 xs) (b0:i7 k2 s.heap l2 ys) (b9:i7 k3 s.heap l3 zs) (bb:xs[n1]? = da\/ys[n2]? = da\/zs[n3]? = da)
 (hE:∀h' e,(∀c o,c≠z->c≠TO->c≠i1->c≠i2->c≠i3->s.heap.get? c=cq o->h'.get? c=cq o)->(∃o,h'.get? e=cq o/\o.cls=.type "StopIteration")->E (.ref e) {s with heap:=h'}):
 wpAny (ef prog w) A (Builtin.«zip.__next__» ⟨[.ref z],[]⟩) Q E s:=by
 refine Mi (m:=field (.ref z) 2) (MV hz rfl (x:=.bool di) rfl ?_);refine Mi (m:=field (.ref z) 3) (MV hz rfl (x:=.ref TI) rfl ?_);refine Mi (Nk b6 rfl ?_);refine Mi (m:=MB (.ref z)) ?_;unfold MB;refine Mi (MV hz rfl (x:=.none) rfl (Mo ?_));simp only[if_true];refine Mi (PH (Mi (MV hz rfl (x:=.ref TO) rfl ?_)));refine Mi (Nm hz ⋯ λg1 r d=>?_);replace r:m3 g1 z TI TO .ellipsis:=r;refine Mi ?_;simp only[SG,SM,Pp,PF];refine Mi (Mi (OU ?_));have t:∀{g e:_} {f:i5},m3 g z TI TO .ellipsis->(∀c o,c≠z->c≠TO->c≠i1->c≠i2->c≠i3->s.heap.get? c=cq o->g.get? c=cq o)->g.get? e=cq f->f.cls=.type "StopIteration"->
  wpAny (ef prog w) A (L7 (.ref z) 0 .none) (λ_ P=>E (.ref e) P) E {s with heap:=g}:=λ{g e f} p hk U Z=>by
  have K:e≠z:=λq=>by subst q;rw[p]at U;cases U;simp at Z
  exact Nm p ⋯ λg3 _ j=>hE g3 e (λc o I O Y l B q=>j.extBut _ _ I<|hk c o I O Y l B q) ⟨f,j.extBut _ _ K U,Z⟩
 cases hx:xs[n1]? with
 |none=>
  refine Mi (m:=Mu<|.ref i1)<|yq hh (h1.at λo e=>d.extBut _ _ D.i1z e) (ax.at λo e=>d.extBut _ _ D.l1z e) hx λg2 e i n=>?_;obtain⟨f,U,Z⟩:=n;exact t (i _ _ D.i1z.symm r) (λc o I _ Y _ _ q=>i _ _ Y<|d.extBut _ _ I q) U Z
 | some x=>
  refine Mi (m:=Mu<|.ref i1)<|qy (h1.at λo e=>d.extBut _ _ D.i1z e) (ax.at λo e=>d.extBut _ _ D.l1z e) hx λg2 R i=>Mo ?_;have C:ym g2 TO a b c:=i.extBut _ _ D.TOi1<|d.extBut _ _ D.TOz b7;refine Mi<|Nk C rfl<|Mi<|YL C λg3 u j=>?_;replace u:ym g3 TO x b c:=u;have a1 c o:c≠z->c≠i1->c≠TO->s.heap.get? c=cq o->g3.get? c=cq o:=λI O Y e=>j.extBut _ _ Y<|i.extBut _ _ O<|d.extBut _ _ I e;have F:m3 g3 z TI TO .ellipsis:=j.extBut _ _ D.TOz.symm<|i.extBut _ _ D.i1z.symm r;refine Mi<|C2<|Mo<|Mi<|Mi<|OU ?_;cases hy:ys[n2]? with
  |none=>
   refine Mi (m:=Mu<|.ref i2)<|yq hh (h2.at λo e=>a1 _ o D.i2z D.i12.symm D.TOi2.symm e) (b0.at λo e=>a1 _ o D.l2z D.l2i1 D.l2TO e) hy λJ e k n=>?_;obtain⟨f,U,Z⟩:=n;exact t (k _ _ D.i2z.symm F) (λc o I O Y l _ q=>k _ _ l<|a1 c o I Y O q) U Z
  | some y=>
   have N:zs[n3]? = da:=by
    rcases bb with h|h|h
    ·rw[hx]at h;cases h
    ·rw[hy]at h;cases h
    ·exact h
   refine Mi (m:=Mu<|.ref i2)<|qy (h2.at λo e=>a1 _ o D.i2z D.i12.symm D.TOi2.symm e) (b0.at λo e=>a1 _ o D.l2z D.l2i1 D.l2TO e) hy λJ S k=>Mo ?_;have G:ym J TO x b c:=k.extBut _ _ D.TOi2 u;refine Mi<|Nk G rfl<|Mi<|YL G λM T L=>?_;have ad c o:c≠i2->c≠TO->g3.get? c=cq o->M.get? c=cq o:=λI O e=>L.extBut _ _ O<|k.extBut _ _ I e;refine Mi<|C2<|Mo<|Mi<|Mi<|OU ?_;refine Mi (m:=Mu<|.ref i3)<|yq hh (h3.at λo e=>ad _ o D.US.symm D.F5.symm<|a1 _ o D.JJ D.UR.symm D.F5.symm e) (b9.at λo e=>ad _ o D.M' D.S5<|a1 _ o D.M_ D.L_ D.S5 e) N λW e H n=>?_;obtain⟨f,U,Z⟩:=n;exact t (H _ _ D.JJ.symm<|ad _ _ D.i2z.symm D.TOz.symm F) (λc o I O Y l B q=>H _ _ B<|ad c o l O<|a1 c o I Y O q) U Z
end
def ck(a b c:dy):i5:={cls:=.type "tuple",data:=.seq #[a,b,c]}
def vG(k1 k2 k3:Sk)(h:et)(z I O:dt):et:=
 Mv (Mv (Mv (Mv (Mv (Mv h<|f7 k1 z)<|f7 k2 I)<|f7 k3 O)<|ck (.ref h.objs.size) (.ref<|h.objs.size+1)<|.ref<|h.objs.size+2)<|ck .none .none .none) (sk (h.objs.size+3)<|h.objs.size+4)
theorem mw(k1 k2 k3:Sk)(z l2 l3:dt)(xs ys O:Array dy):
 DZ (Builtin.«zip.__new__» ⟨[.type "zip",.ref z,.ref l2,.ref l3],[]⟩) (λ_ R s=>i7 k1 s.heap z xs/\i7 k2 s.heap l2 ys/\i7 k3 s.heap l3 O/\
  R (.ok<|.ret<|.ref<|s.heap.objs.size+5) {s with heap:=vG k1 k2 k3 s.heap z l2 l3}):=
 .of_wp λb w A R s h=>by
  obtain⟨I,g,d,a,os⟩:=s;obtain⟨U,Y,Z,h⟩:=h;have k:=sub_zip;have f:i7 k1 (Ss ⟨I,g,d,a,os⟩) z xs:=U;have i:i7 k2 (Ss ⟨I.push<|f7 k1 z,g,d,a,os⟩) l2 ys:=Y.at λo e=>Mk _ e;have j:i7 k3 (Ss ⟨(I.push<|f7 k1 z).push (f7 k2 l2),g,d,a,os⟩) l3 O:=Z.at λo e=>Mk _<|Mk _ e
  wp_walk using Xh f,Xh i,Xh j
  refine⟨_,rfl,?_⟩;simp only[vG,ck,sk,MM]at h ⊢;exact h
theorem iJ(a b c d:dy):argsOk "object.__init__" ⟨[a,b,c,d],[]⟩:=by
 unfold argsOk;have e:=signature?_of (id:="object.__init__") (n:=['_','_','t','i','n','i','_','_']) (o:=['t','c','e','j','b','o']) (by kernel_rfl) F.owner_object;rw[e]
 kernel_rfl
def Ik(k1 k2 k3:Sk)(K:Mj)(a b c:dt):It:=
 ⟨λi H=>∃d e I,ie k1 K H a d/\ie k2 K H b e/\ie k3 K H c I/\i<d.length/\i<e.length/\i<I.length,
  λi H x f=>∃p u v t,x=.ref p/\H p=da/\f=upd H p (.tup [u,v,t])/\(∀d,ie k1 K H a d->d[i]? = cq u)/\(∀e,ie k2 K H b e->e[i]? = cq v)/\(∀I,ie k3 K H c I->I[i]? = cq t),
  λi H=>∃d e I,ie k1 K H a d/\ie k2 K H b e/\ie k3 K H c I/\(d.length<=i\/e.length<=i\/I.length<=i)⟩
theorem fi{P:f9}{w:f6}{K:Mj}{elts:List eo}{x1:Nat}{lC:e8}(k1 k2 k3:Sk){z TI TO i1 i2 i3 a b c:dt}(D:R5 z TI TO i1 i2 i3 a b c):
 Turn P w K (.Tuple elts x1 lC) (Ik k1 k2 k3 K a b c) [z,TI,TO,i1,i2,i3] z (λi h=>m3 h z TI TO .none/\ym h TI (.ref i1) (.ref i2) (.ref i3)/\(∃c d e,ym h TO c d e)/\g7 k1 h i1 a i/\g7 k2 h i2 b i/\g7 k3 h i3 c i) where
 mem:=by simp
 obj:=λi h as y hy=>by
  obtain⟨hz,Y,⟨c,d,e,Z⟩,h1,h2,h3⟩:=as;simp only[Mr,MD,or_false]at hy;rcases hy with rfl|rfl|rfl|rfl|rfl|rfl
  ·exact⟨_,hz,λv q=>by cases q⟩
  ·exact⟨_,Y,λv q=>by cases q⟩
  ·exact⟨_,Z,λv q=>by cases q⟩
  ·exact h1.obj
  ·exact h2.obj
  ·exact h3.obj
 keep:=λi h h' as k=>by obtain⟨hz,Y,⟨c,d,e,Z⟩,h1,h2,h3⟩:=as;exact⟨k z ⋯ _ hz,k TI ⋯ _ Y,⟨c,d,e,k TO ⋯ _ Z⟩,h1.at λo e=>k i1 ⋯ o e,h2.at λo e=>k i2 ⋯ o e,h3.at λo e=>k i3 ⋯ o e⟩
 item:=by
  rintro X hP hw hK hc i pins s σ H E I hf ⟨hz,Y,⟨c,d,e,Z⟩,h1,h2,h3⟩ ⟨xs,ys,zs,ap,aq,ar,b7,b8,j?⟩;subst hP hw hK;obtain⟨b9,b1,p1,z1⟩:=I.sq ap;obtain⟨bb,b2,p2,z2⟩:=I.sq aq;obtain⟨be,b3,p3,z3⟩:=I.sq ar;have hx:xs[i]? = cq xs[i]:=Mp b7;have hy:ys[i]? = cq ys[i]:=Mp b8;have hv:zs[i]? = cq zs[i]:=Mp j?;obtain⟨u1,bi,bl⟩:=b1.get hx;obtain⟨u2,bn,bu⟩:=b2.get hy;obtain⟨u3,bv,bx⟩:=b3.get hv;have hT:s.TypeIs (.ref z) "zip":=⟨_,hz,rfl⟩;unfold u9;refine Mi (Of (MY (name:=MU "__next__") hT NH (NG NH hT OR
   (eO D hz Y Z h1 h2 h3 p1 p2 p3 (x:=u1) (y:=u2) (v:=u3) (by simpa using bi) (by simpa using bn) (by simpa using bv) λg a1 a2 a3 a4 a9 a5 a6 a7=>Mo ⟨_,rfl,?_⟩) (OF _))))
  refine R? a1 λg2 O2 ad=>?_;have lt:∀{c o},s.heap.get? c=cq o->s.heap.objs.size≠c:=λe=>Oh<|Mt e;have c6:ym g2 s.heap.objs.size u1 u2 u3:=ad.extBut _ _ (lt hz) a5;have kk U u:U ∉ [z,TI,TO,i1,i2,i3]->s.heap.get? U=cq u->g2.get? U=cq u:=λO e=>by simp only[Mr,MD,or_false,not_or]at O;exact ad.extBut _ _ O.1<|a7 U u O.1 O.2.2.1 O.2.2.2.1 O.2.2.2.2.1 O.2.2.2.2.2 e
  have I1:Inv X pins σ (upd H s.heap.objs.size<|.tup [xs[i],ys[i],zs[i]]) {s with heap:=g2,toks:=s.toks}:=
   I.Us (fp:=[z,TI,TO,i1,i2,i3]) kk hf (Mq _) ⟨by show 3<=fh;decide,[u1,u2,u3],.cons bl<|.cons bu<|.cons bx .nil,⟨_,c6,rfl,_,rfl⟩⟩
  have c8:H s.heap.objs.size=da:=I.fresh;refine⟨.ref s.heap.objs.size,_,I1,rfl,⟨_,_,_,_,rfl,c8,rfl,λch am=>by rw[I.L8 am ap];exact hx,λci am=>by rw[I.L8 am aq];exact hy,λcl am=>by rw[I.L8 am ar];exact hv⟩,?_,λU O=>?_⟩
  ·exact⟨O2,ad.extBut _ _ D.TIz<|a7 _ _ D.TIz D.TITO D.TIi1 D.TIi2 D._W Y,⟨_,_,_,ad.extBut _ _ D.TOz a2⟩,a3.at λo e=>ad.extBut _ _ D.i1z e,a4.at λo e=>ad.extBut _ _ D.i2z e,a9.at λo e=>ad.extBut _ _ D.JJ e⟩
  ·have c9:U≠s.heap.objs.size:=by
    simp only[Mr,MD,or_false]at O;rcases O with rfl|rfl|rfl|rfl|rfl|rfl
    ·exact(lt hz).symm
    ·exact(lt Y).symm
    ·exact(lt Z).symm
    ·obtain⟨o,e,_⟩:=h1.obj;exact(lt e).symm
    ·obtain⟨o,e,_⟩:=h2.obj;exact(lt e).symm
    ·obtain⟨o,e,_⟩:=h3.obj;exact(lt e).symm
   rw[zE c9];exact(hf U O).1
 done:=by
  rintro X hP hw hK hc i pins s σ H E I hf ⟨hz,Y,⟨c,d,e,Z⟩,h1,h2,h3⟩ ⟨xs,ys,zs,ap,aq,ar,hi⟩;subst hP hw hK;obtain⟨b9,b1,p1,z1⟩:=I.sq ap;obtain⟨bb,b2,p2,z2⟩:=I.sq aq;obtain⟨be,b3,p3,z3⟩:=I.sq ar;have hT:s.TypeIs (.ref z) "zip":=⟨_,hz,rfl⟩;have l1:=b1.length;have l2:=b2.length;have l3:=b3.length;unfold u9;refine Mi (Of (MY (name:=MU "__next__") hT NH (NG NH hT OR
   (mx (show X.A.handled=da from I.ok.hd hc) D hz Y Z h1 h2 h3 p1 p2 p3 (by
     rcases hi with q|q|q
     ·left;simp;lia
     ·right;left;simp;lia
     ·right;right;simp;lia) λg e hk he=>?_) (OF _))))
  obtain⟨o,ho,ce⟩:=he;refine Mi (RO (T:="StopIteration") (b:=cI) ⟨o,ho,ce⟩ SD (Mo ⟨rfl,?_⟩));refine I.A2 (t':=s.toks) (fp:=[z,TI,TO,i1,i2,i3]) (λU u O e=>?_) hf;simp only[Mr,MD,or_false,not_or]at O;exact hk U u O.1 O.2.2.1 O.2.2.2.1 O.2.2.2.2.1 O.2.2.2.2.2 e
 self:=λ_ _ _ _ _ st h=>RN st.1 h
theorem Gy{x y z:V}{us:List dy}(r:ft [x,y,z] us):∃u w' t,us=[u,w',t]/\RelV x u/\RelV y w'/\RelV z t:=by
 cases r with
 | cons I a=>
  cases a with
  |cons O U=>
   cases U with
   |cons Y Z=>cases Z;exact⟨_,_,_,rfl,I,O,Y⟩
def Hq(K:Mj)(z:TA):TI:=λk H R=>z k H λh d=>∃e f g a b c,h=[.ref a,.ref b,.ref c]/\(∃i,ie e K d a i)/\(∃j,ie f K d b j)/\(∃I,ie g K d c I)/\R (Ik e f g K a b c) d
theorem uA{X:Cx}{e1 O U:eo}{ta:TA}{p pos:e8}{z:List eo}{x1:Nat}{lC:e8}(hg:Gl X "zip")(hm:X.mg "zip" = da)(ha:PA X [e1,O,U] ta)
 (hv:B3 "zip" = cq (.type "zip")) (hs:eJ [e1,O,U] X.env=[(di,eh e1 X.env),(di,eh O X.env),(di,eh U X.env)]:=by rfl) (a4:eJ [O,U] X.env=[(di,eh O X.env),(di,eh U X.env)]:=by rfl):
 PI X (.Tuple z x1 lC) (.Call (.Name "zip" p) [e1,O,U] [] pos) (Hq X.K ta):=by
 intro k s M H R I h;refine DC (xQ I hg hm hv<|Nc (fe (ha pos k s M H _ I h) λus d hZ=>?_) (by rw[hs,a4])<|by rw[a4];rfl);obtain⟨vs,w,Y,r1,q1⟩:=hZ;obtain⟨f,g,i,a,b,c,e,⟨xs,P⟩,⟨ys,Q⟩,⟨zs,S⟩,q⟩:=q1;subst e;obtain⟨w1,w2,w3,eu,T,W,b1⟩:=Gy r1;subst eu;cases T;cases W;cases b1;obtain⟨b2,bn,A,z1⟩:=Y.sq P;obtain⟨b3,bu,B,z2⟩:=Y.sq Q;obtain⟨b4,bx,C,z3⟩:=Y.sq S;have la:=A.lt;have lb:=B.lt;have lc:=C.lt;refine Uo F.called_zip ⋯ (KH _ _ _) (Vp _ _ _) (λobj=>iJ obj _ _ _) F.entry_zip_new (mw f g i a b c b2.toArray b3.toArray b4.toArray) ⟨A,B,C,?_⟩;have ps:∀(h:et) (o:i5) (c:dt) (u:i5),h.get? c=cq u->(h.push o).get? c=cq u:=λh o c u e=>Mk _ e;have keep Z o:d.heap.get? Z=cq o->(vG f g i d.heap a b c).get? Z=cq o:=λe=>ps _ _ _ _<|ps _ _ _ _<|ps _ _ _ _<|ps _ _ _ _<|ps _ _ _ _<|ps _ _ _ _ e;have E:(Mv d.heap<|f7 f a).objs.size=d.heap.objs.size+1:=MM ..;have G:(Mv (Mv d.heap<|f7 f a)<|f7 g b).objs.size=d.heap.objs.size+2:=by rw[MM,E]
 have J:(Mv (Mv (Mv d.heap<|f7 f a)<|f7 g b)<|f7 i c).objs.size=d.heap.objs.size+3:=by rw[MM,G]
 have L:(Mv (Mv (Mv (Mv d.heap<|f7 f a)<|f7 g b)<|f7 i c)<|ck (.ref d.heap.objs.size) (.ref<|d.heap.objs.size+1)<|.ref<|d.heap.objs.size+2).objs.size=d.heap.objs.size+4:=by rw[MM,J]
 have y5:(Mv (Mv (Mv (Mv (Mv d.heap<|f7 f a)<|f7 g b)<|f7 i c)<|ck (.ref d.heap.objs.size) (.ref<|d.heap.objs.size+1)<|.ref<|d.heap.objs.size+2)<|ck .none .none .none).objs.size=d.heap.objs.size+5:=by rw[MM,L]
 have g0:g7 f (vG f g i d.heap a b c) d.heap.objs.size a 0:=(wZ f d.heap a).at λo e=>ps _ _ _ _<|ps _ _ _ _<|ps _ _ _ _<|ps _ _ _ _<|ps _ _ _ _ e;have g1:g7 g (vG f g i d.heap a b c) (d.heap.objs.size+1) b 0:=by have q:=wZ g (Mv d.heap<|f7 f a) b;rw[E]at q;exact q.at λo e=>ps _ _ _ _<|ps _ _ _ _<|ps _ _ _ _<|ps _ _ _ _ e
 have b9:g7 i (vG f g i d.heap a b c) (d.heap.objs.size+2) c 0:=by have q:=wZ i (Mv (Mv d.heap<|f7 f a)<|f7 g b) c;rw[G]at q;exact q.at λo e=>ps _ _ _ _<|ps _ _ _ _<|ps _ _ _ _ e
 have g2:ym (vG f g i d.heap a b c) (d.heap.objs.size+3) (.ref d.heap.objs.size) (.ref<|d.heap.objs.size+1) (.ref<|d.heap.objs.size+2):=by have q:_=cq (ck (.ref d.heap.objs.size) (.ref<|d.heap.objs.size+1)<|.ref<|d.heap.objs.size+2):=My (Mv (Mv (Mv d.heap<|f7 f a)<|f7 g b)<|f7 i c) (o:=ck (.ref d.heap.objs.size) (.ref<|d.heap.objs.size+1)<|.ref<|d.heap.objs.size+2) rfl;rw[J]at q;exact ps _ _ _ _<|ps _ _ _ _ q
 have g3:ym (vG f g i d.heap a b c) (d.heap.objs.size+4) .none .none .none:=by have q:_=cq (ck .none .none .none):=My (Mv (Mv (Mv (Mv d.heap<|f7 f a)<|f7 g b)<|f7 i c)<|ck (.ref d.heap.objs.size) (.ref<|d.heap.objs.size+1)<|.ref<|d.heap.objs.size+2) (o:=ck .none .none .none) rfl;rw[L]at q;exact ps _ _ _ _ q
 have t:m3 (vG f g i d.heap a b c) (d.heap.objs.size+5) (d.heap.objs.size+3) (d.heap.objs.size+4) .none:=by have q:=My (Mv (Mv (Mv (Mv (Mv d.heap<|f7 f a)<|f7 g b)<|f7 i c)<|ck (.ref d.heap.objs.size) (.ref<|d.heap.objs.size+1)<|.ref<|d.heap.objs.size+2)<|ck .none .none .none) (o:=sk (d.heap.objs.size+3)<|d.heap.objs.size+4) rfl;rw[y5]at q;exact q
 refine⟨⟨_,t,rfl⟩,RN (s:={d with heap:=vG f g i d.heap a b c}) t ?_⟩;have N:Inv X k M w {d with heap:=vG f g i d.heap a b c,toks:=d.toks}:=Y.kept keep;have be:∀m:Nat,a≠d.heap.objs.size+m:=λm=>ME<|MA la<|MF _ m;have r:∀m:Nat,b≠d.heap.objs.size+m:=λm=>ME<|MA lb<|MF _ m;have l:∀m:Nat,c≠d.heap.objs.size+m:=λm=>ME<|MA lc<|MF _ m;have j:∀m n:Nat,m≠n->(d.heap.objs.size+m:Nat)≠d.heap.objs.size+n:=λm n h=>by lia
 have D:R5 (d.heap.objs.size+5) (d.heap.objs.size+3) (d.heap.objs.size+4) d.heap.objs.size (d.heap.objs.size+1) (d.heap.objs.size+2) a b c:=
  ⟨j 3 5 ⋯,j 4 5 ⋯,j 0 5 ⋯,j 1 5 ⋯,j 2 5 ⋯,j 3 4 ⋯,j 3 0 ⋯,j 3 1 ⋯,j 3 2 ⋯,j 4 0 ⋯,j 4 1 ⋯,j 4 2 ⋯,j 0 1 ⋯,j 0 2 ⋯,j 1 2 ⋯,
   be 5,r 5,r 4,r 0,l 5,l 4,l 0,l 1⟩
 refine⟨_,[d.heap.objs.size+5,d.heap.objs.size+3,d.heap.objs.size+4,d.heap.objs.size,d.heap.objs.size+1,d.heap.objs.size+2],_,_,w,rfl,N,fi f g i D,⟨t,g2,⟨_,_,_,g3⟩,g0,g1,b9⟩,λZ y=>?_,q⟩;have x:d.heap.objs.size<=Z:=by
  simp only[Mr,MD,or_false]at y;rcases y with rfl|rfl|rfl|rfl|rfl|rfl
  ·exact MF _ _
  ·exact MF _ _
  ·exact MF _ _
  ·exact Mq _
  ·exact MF _ _
  ·exact MF _ _
 exact Y.B6 x<|Y.eH.fresh x
end L2
namespace DL
open PySem L2
def We(ds es fs:List D):List D:=(ds.zip<|es.zip fs).map λp=>D.tup [p.1,p.2.1,p.2.2]
def tG(f g h:CO D)(γ:Ctx):Option (List D):=((f γ).bind jD).bind λm=>((g γ).bind jD).bind λn=>((h γ).bind jD).map λo=>We m.2 n.2 o.2
@[simp] def HP:=@tG.eq_1
def Wq(i:Nat)(g:CO (Sk×List D)):CO Fl:=λb=>(qh b[i]?).bind λd=>(g b).bind λa=>match a.1 with
 |.T=>if d.length+a.2.length<=lim then cq (.next<|b.set i<|.own<|d++a.2)else da
 |.L=>da
end DL
namespace L2
open PySem PySem.Spec PyProof.Rows
theorem dO(l b:dt)(its:Array dy)(n:Nat)(I:Array dy)(Y:Nat)(o:i5)(Z:¬(!its.isEmpty&&OI (its.size+I.size))=cI)(z:its.size<=fh)(a2:its.size+I.size<=fh+1):
 DZ (Builtin.«list.extend» ⟨[.ref l,.ref b],[]⟩) (λ_ R s=>s.heap.get? l=cq {cls:=.type "list",dict:=da,data:=.seq its n,slots:=#[]}/\s.heap.get? b=cq o/\o.cls=.type "tuple"/\o.data=.seq I Y/\R (.ok (.ret NI)) {s with heap:=s.heap.update l (Nt λx=>x++I)}):=
 .of_wp λa w A R s h=>by
  obtain⟨O,U,f,g,h⟩:=h;have d:(its++I).size<=fh+1:=by rw[Array.size_append];exact a2
  refine Mi (m:=PySem.selfAndOne "list.extend" ⟨[.ref l,.ref b],[]⟩) (Mo ?_);show wpAny _ _ (Oz (.ref l) (.ref b) .none) _ _ s;unfold Oz;refine Mi (m:=E9 (.ref b)) (DG ⟨o,U,f⟩ ?_);have e:(RF (.ref l) (.ref b) || Oc "tuple" == Oc "list" || Oc "tuple" == Oc "tuple")=cI:=by simp
  rw[UJ e];refine Mi (m:=PK<|.ref b) ?_;unfold PK;refine Mi (m:=U7<|.ref b)<|Nk U g<|Mo ?_;refine Mi ?_;refine Mi (m:=U7<|.ref l)<|Nk O rfl<|Mo ?_;rw[UY Z];exact Mi (m:=P1 l λx=>x++I)<|Rq O rfl (hz:=z) (_hz':=d)<|Mo ⟨_,rfl,h⟩
def GS(K:Mj):V->List V->Hp->VK->Prop:=λx d H Q=>∃l b a I,x=.ref l/\d=[.ref b]/\H l=cq (.lst a)/\gR K H b I/\a.length+I.length<=fh/\Q .ej (upd H l<|.lst<|a++I)
theorem uS{X:Cx}:Uw X "list.extend" (GS X.K):=by
 intro f s L H x E v C Q I w Y h;obtain⟨l,b,G,J,rfl,rfl,U,Z,B,q⟩:=h;cases w;obtain⟨u,rfl,t⟩:=Y.one;cases t;obtain⟨z,a,n,r,A,e⟩:=I.Ds U;obtain⟨O,g,⟨o,m,j,p,k⟩,y⟩:=I.tuple Z;have LJ:=g.length;have d:a.toArray.size+O.toArray.size<=fh:=by rw[Ms,Ms];lia
 have i:¬(!a.toArray.isEmpty&&OI (a.toArray.size+O.toArray.size))=cI:=by rw[aT d,Bool.and_false];exact MJ
 refine Pn F.slot_list_extend ⟨_,e,rfl⟩ F.entry_list_extend (F.args_list_extend_2 _ _) (dO l b a.toArray n O.toArray p o i (by rw[Ms];lia) ⋯) ⟨e,m,j,k,?_⟩;exact⟨.ej,_,I.DP (its':=a++O) U e ⋯ (r.append g) (by rw[Nv];lia),rfl,q⟩
end L2
namespace DL
open PySem PySem.Spec PyProof.Rows L2
section
variable{X:Cx}{sc:gx}{N L:List Str}{k:Nat}{a:eo}{g:CO (Sk×List D)}{pos:e8}
theorem nz(i:Nat){x:Str}{z cpos np:e8}(h:SX X sc N L k)(c:kY sc N i x=cI)(ha:PQ X a g)(hs:eJ [a] X.env=[(di,eh a X.env)]:=by rfl)
 (a3:DJ (.Name x np) "extend" X.env (eh (.Name x np) X.env)=eh (.Name x np) X.env:=by rfl)
 (a4:((n0 cpos<|starEach [a] X.env).all (λx=> !x.1)&&(N5 cpos<|keywordEach [] X.env).all (λx=>x.1.isSome)
   &&decide ([a].length+([]:List A7).length+(if ([]:List A7).isEmpty then 0 else 1)<30))=cI:=by rfl)
 (a5:(z.endLine==cpos.line)=cI:=by rfl) (a6:qq (.Call (.Attribute (.Name x np) "extend" z) [a] [] cpos) da pos.line X.env=pure di:=by rfl):
 l0 X (.Expr (.Call (.Attribute (.Name x np) "extend" z) [a] [] cpos) pos) (Wq i g):=
 yZ (KY (gM PM PySem.F.slot_list_extend PySem.F.type_list_extend uS (h.var c) (jq ha qp hs) a3 a4 a5 hs rfl) a6) λD G H w=>by
  obtain⟨E0,E,o,n,u,O,I,r⟩:=w;obtain⟨d,e,I⟩:=zf I;obtain⟨⟨A,f⟩,t,I⟩:=zf I;have e:=xp e;cases A with
  |L=>cases I
  | T=>
   have I:(if d.length+f.length<=lim then cq (Fl.next<|n.set i<|.own<|d++f)else da)=cq u:=I;by_cases U:d.length+f.length<=lim
   ·rw[UJ U]at I;cases I
    obtain⟨l,xs,j,C,Y,Z⟩:=O.rc.own i d e;refine⟨_,j,.inl ⟨rfl,_,gE.of Y⟩,o,n,.T,f,O.rc,t,λb m B p x g1 g2 g3=>?_⟩;have y:xs.length+m.length<=fh:=by
     rw[Z.length,g3.length];have:lim<=fh:=by decide
     lia
    refine⟨l,b,xs,m,rfl,rfl,x.s1 _ _ Y,g1,y,?_⟩;have s:=O.step x;exact r _ _ _<|s.rewrite (xs:=xs) e j<|(Z.mono x.s0).append g3
   ·rw[UY U]at I;cases I
end
theorem eW{k1 k2 k3:Sk}{K:Mj}{H0 z:Hp}{a b c:dt}{xs ys I:List V}{ds es fs:List D}(h1:ie k1 K z a xs)(r1:d8 K H0 ds xs)(O:ie k2 K z b ys)(r2:d8 K H0 es ys)(U:ie k3 K z c I)(r3:d8 K H0 fs I):
 Walk K H0 z (Ik k1 k2 k3 K a b c) (We ds es fs):=by
 have L:=r1.length;have M:=r2.length;have N:=r3.length;have H:(We ds es fs).length=min ds.length (min es.length fs.length):=by simp[We]
 refine⟨λi e s F=>?_,λe s=>?_,λi e x m s F y=>?_⟩
 ·exact⟨xs,ys,I,xO s h1,xO s O,xO s U,⋯,⋯,⋯⟩
 ·refine⟨xs,ys,I,xO s h1,xO s O,xO s U,?_⟩
  rw[H];lia
 ·obtain⟨p,u,v,t,w,j,A,g1,g2,g3⟩:=y
  obtain⟨d,C,G⟩:=r1.Dp<|g1 xs<|xO s h1;obtain⟨Y,B,ad⟩:=r2.Dp<|g2 ys<|xO s O;obtain⟨f,E,n⟩:=r3.Dp<|g3 I<|xO s U;refine⟨.tup [d,Y,f],?_,λl J k=>⟨upd l p<|.tup [u,v,t],?_,?_⟩⟩
  ·have o:(ds.zip<|es.zip fs)[i]? = cq (d,(Y,f)):=Sf.mpr ⟨C,Sf.mpr ⟨B,E⟩⟩
   simp[We,o]
  ·rw[A];exact Ext.alloc k j _
  ·rw[w]
   have Z:=λ{q:D} {y:V} (r:Rep K H0 q y)=>(r.mono J).mono (jb (jy k j)<|.tup [u,v,t]);exact(show ∃g h,V.ref p=.ref g/\gR K _ g h/\d8 K _ [d,Y,f] h from⟨p,[u,v,t],rfl,gR.of zF,d8.cons (Z G)<|d8.cons (Z ad)<|d8.cons (Z n) d8.nil⟩)
section
variable{X:Cx}{sc:gx}{N L:List Str}{k:Nat}{a b c:eo}{p pos:e8}{f g h:CO D}
theorem ux{elts:List eo}{x1:Nat}{lC:e8}(hS:SX X sc N L k)(cz:kz sc "zip" = cI)(z:X.mg "zip" = da)(ha:PV X a f)(hb:PV X b g)(hc:PV X c h)
 (hs:eJ [a,b,c] X.env=[(di,eh a X.env),(di,eh b X.env),(di,eh c X.env)]:=by rfl) (O:eJ [b,c] X.env=[(di,eh b X.env),(di,eh c X.env)]:=by rfl) (a4:eJ [c] X.env=[(di,eh c X.env)]:=by rfl):
 i6 X (.Tuple elts x1 lC) (.Call (.Name "zip" p) [a,b,c] [] pos) (tG f g h):=
 XT (uA (hS.gl cz).1 z (jq ha (jq hb (jq hc qp a4)<|by rw[O,a4])<|by rw[hs,O]) Sd hs O) λσ H R Q=>by obtain⟨w,s,ds,l,I,q⟩:=Q;obtain⟨⟨S,m⟩,j,I⟩:=zf I;obtain⟨d,G,j⟩:=zf j;obtain⟨⟨T,n⟩,U,I⟩:=zf I;obtain⟨F,J,U⟩:=zf U;obtain⟨⟨W,o⟩,Y,I⟩:=zI I;obtain⟨t,K,Y⟩:=zf Y;subst I;refine⟨w,s,d,l,G,λv H' i x r=>⟨i,s,F,l.ext x,J,λv2 H2 E Z r2=>⟨E,s,t,(l.ext x).ext Z,K,λv3 y as e r3=>?_⟩⟩⟩;obtain⟨A,xs,rfl,g1,g2⟩:=Zj ((r.mono Z.s0).mono e.s0) j;obtain⟨B,ys,rfl,g3,M⟩:=Zj (r2.mono e.s0) U;obtain⟨C,zs,rfl,u,P⟩:=Zj r3 Y;exact⟨S,T,W,A,B,C,rfl,⟨xs,xO e.sub g1⟩,⟨ys,xO e.sub g3⟩,⟨zs,xO e.sub u⟩,q _ y as ((x.trans Z).trans e)<|eW g1 g2 g3 M u P⟩
end
section
variable{X:Cx}{sc:gx}{N L:List Str}{k j n:Nat}{e:eo}{es:List eo}{g:CO (List D)}{G:List D->Option Xn}{x:Str}{p pos:e8}
theorem tW{spos:e8}(hf:rp X.prog X.w X.K X.mg X.base j x n G)(U:j<=k)(h:SX X.ly sc N L k)(c:kz sc x=cI)(ha:sh X.ly (e::es) n g)
 (Y:eJ (e::es) X.env=(di,eh e X.env)::eJ es X.env:=by rfl) (Z:(n0 pos<|starEach es X.env).any (·.1)=di:=by rfl):
 Px X (.Return (cq (.Call (.Name x p) (e::es) [] pos)) spos) (j4 G g):=λa s y H A B C J E I O eq w=>by
 obtain⟨F,l,m⟩:=zf eq;refine Ui<|MG (VM hf U (⟨h.wo,h.eN,h.nd,h.calm,h.room,h.fn⟩:SX X sc N L k) c ha I O.rc l m Y Z) (λ_ _ z=>z.elim) λo r z=>?_;obtain⟨b,f,t,d,u,i⟩:=z;exact w.2.1 a y b f t o r d (O.ext.trans u) i
theorem tU{spos pos':e8}{y:Str}(hf:rp X.prog X.w X.K X.mg X.base j x n G)(U:j<=k)(h:SX X.ly sc N L k)(c:kz sc x=cI)(ha:sh X.ly (e::es) n g)
 (Y:eJ (e::es) X.env=(di,eh e X.env)::eJ es X.env:=by rfl) (Z:(n0 pos<|starEach es X.env).any (·.1)=di:=by rfl)
 (hs:qq (.Call (.Name x p) (e::es) [] pos) (cq (.Name y pos')) spos.line X.env=pure di:=by rfl):
 Px X (.Assign [.Name y pos'] (.Call (.Name x p) (e::es) [] pos) spos) (j4 G g):=λa s A H B C E M F I O eq w=>by
 obtain⟨J,l,m⟩:=zf eq;refine Uj (MG (VM hf U (⟨h.wo,h.eN,h.nd,h.calm,h.room,h.fn⟩:SX X sc N L k) c ha I O.rc l m Y Z) (λ_ _ z=>z.elim) λo r z=>?_) hs;obtain⟨b,f,t,d,u,i⟩:=z;exact w.2.1 a A b f t o r d (O.ext.trans u) i
end
def fR(f g:CO D)(γ:Ctx):Option (List D):=((f γ).bind jD).bind λm=>((g γ).bind jD).bind λn=>if m.2.length<=lim then cq (wW m.2 n.2)else da
@[simp] def FX:=@fR.eq_1
section
variable{prog:f9}{w:f6}{A:ij}{E:EQ}{s:d9}
theorem sj{k1 k2:Sk}{z TI TO i1 i2 l1 l2:dt}{n:Nat}{xs ys:Array dy}{x y:dy}{Q:Option dy->d9->Prop}(D:B0 z TI TO i1 i2 l1 l2)
 (Z:Dg k1 k2 z TI TO i1 i2 l1 l2 n s.heap) (ap:i7 k1 s.heap l1 xs) (aq:i7 k2 s.heap l2 ys) (hx:xs[n]? = cq x) (hy:ys[n]? = cq y)
 (hQ:∀h',Dg k1 k2 z TI TO i1 i2 l1 l2 (n+1) h'->l9 h' s.heap.objs.size x y->(∀c o,c ∉ [z,TI,TO,i1,i2]->s.heap.get? c=cq o->h'.get? c=cq o)->Q (cq (.ref s.heap.objs.size)) {s with heap:=h'}):
 wpAny (ef prog w) A (u9<|.ref z) Q E s:=by
 obtain⟨a,j,⟨c,e,m⟩,p,r⟩:=Z;unfold u9;rcases a with a|⟨U,b,oa,a,ha⟩
 ·have Y:s.TypeIs (.ref z) "zip":=⟨_,a,rfl⟩
  refine Mi (Of (MY (name:=MU "__next__") Y NH (NG NH Y OR
   (YF D a j m p r ap aq hx hy λg d C f h i F O=>Mo ?_) (OF _))))
  refine hQ g ⟨.inr ⟨s.heap.objs.size,di,_,d,i⟩,O _ _ D.TIz D.TITO D.TIi1 D.TIi2 j,⟨_,_,C⟩,f,h⟩ i λc o I q=>?_;simp only[Mr,MD,or_false,not_or]at I;exact O c o I.1 I.2.2.1 I.2.2.2.1 I.2.2.2.2 q
 ·have Y:s.TypeIs (.ref z) "zip":=⟨_,a,rfl⟩
  refine Mi (Of (MY (name:=MU "__next__") Y NH (NG NH Y OR
   (eP D a ha j p r ap aq hx hy λg d f h i F O=>Mo ?_) (OF _))))
  have k:∃l,g.get? U=cq l:=by
   by_cases t:U=z
   ·exact⟨_,(congrArg g.get? t).trans d⟩
   ·by_cases u:U=i1
    ·obtain⟨o,e,_⟩:=f.obj;exact⟨o,u ▸ e⟩
    ·by_cases B:U=i2
     ·obtain⟨o,e,_⟩:=h.obj;exact⟨o,B ▸ e⟩
     ·exact⟨oa,O U oa t u B ha⟩
  obtain⟨l,k⟩:=k;refine hQ g ⟨.inr ⟨U,cI,l,d,k⟩,O _ _ D.TIz D.TIi1 D.TIi2 j,⟨_,_,O _ _ D.TOz D.TOi1 D.TOi2 m⟩,f,h⟩ i λc o I q=>?_;simp only[Mr,MD,or_false,not_or]at I;exact O c o I.1 I.2.2.2.1 I.2.2.2.2 q
end
theorem Dg.keep{k1 k2:Sk}{z TI TO i1 i2 a b:dt}{n:Nat}{h h':et}(Z:Dg k1 k2 z TI TO i1 i2 a b n h)(k:∀c ∈ [z,TI,TO,i1,i2],∀o,h.get? c=cq o->h'.get? c=cq o)(e:∀c o,h.get? c=cq o->∃o',h'.get? c=cq o'):Dg k1 k2 z TI TO i1 i2 a b n h':=by
 obtain⟨I,U,⟨c,d,Y⟩,g,i⟩:=Z;refine⟨?_,k TI ⋯ _ U,⟨c,d,k TO ⋯ _ Y⟩,g.at λo q=>k i1 ⋯ o q,i.at λo q=>k i2 ⋯ o q⟩;rcases I with I|⟨O,bb,oa,I,a5⟩
 ·exact .inl<|k z ⋯ _ I
 ·obtain⟨f,j⟩:=e O oa a5
  exact .inr ⟨O,bb,f,k z ⋯ _ I,j⟩
theorem gk{h:et}{o z:i5}{c:dt}(I:c≠h.objs.size)(q:(h.push o).get? c=cq z):h.get? c=cq z:=by unfold Heap.get? Mv at q;unfold Heap.get?;simp only[Array.getElem?_push,UY I]at q;exact q
theorem oJ{H00 Hb H0 H:Hp}{S p:dt}{o o':HO}(E:Ext H00 Hb H0 H)(U:Hb S=da)(Y:H0 S=da)(I:H p=da)(Z:p≠S):Ext H00 Hb (upd H0 p o) (upd (upd H p o) S o'):=by
 have d:H0 p=da:=jy E.sub I;refine⟨E.s0.trans<|jb d o,λb u q=>?_,λb u q=>?_,λb a O=>?_⟩
 ·have a:=E.s1 b u q
  rw[zE (λz=>by rw[z,U]at q;cases q),zE (λz=>by rw[z,I]at a;cases a)];exact a
 ·by_cases z:b=p
  ·subst z
   rw[zF]at q;rw[zE Z,zF];exact q
  ·rw[zE z]at q
   rw[zE (λy=>by rw[y,Y]at q;cases q),zE z];exact E.sub b u q
 ·have:b≠p:=λz=>by
   cases q:Hb b with
   |none=>exact O q
   |some u=>have:=E.s1 b u q;rw[z,I]at this;cases this
  rw[zE this];exact E.new b a O
section
variable{X:Cx}{pins:UQ}{σ:St}{A:ij}{R:Result->d9->Prop}{H00 Hb:Hp}{k1 k2:Sk}{z TI TO i1 i2 a b S:dt}{xs ys:List V}{ds es:List D}{res:dy}
theorem fX{K:Mj}{H:Hp}{d e:D}{x y:V}{p:dt}(Y:Rep K H d x)(I:Rep K H e y)(O:H p=cq (.tup [x,y])):Rep K H (.tup [d,e]) (.ref p):=
 show ∃a xs,V.ref p=.ref a/\gR K H a xs/\d8 K H [d,e] xs from⟨p,[x,y],rfl,.inl<|.inl O,.cons Y<|.cons I .nil⟩
theorem ic(hh:A.handled=da)(DA:B0 z TI TO i1 i2 a b)(hS:Hb S=da):∀(m n:Nat) (s:d9) (H H0:Hp) (acc:List D) (vs:List V),n+m=(ds.zip es).length->
 Inv X pins σ H s->Ext H00 Hb H0 H->H0 S=da->ie k1 X.K H0 a xs->ie k2 X.K H0 b ys->d8 X.K H0 ds xs->d8 X.K H0 es ys->d8 X.K H0 acc vs->(∀c ∈ [z,TI,TO,i1,i2],Zg X pins H c)->Dg k1 k2 z TI TO i1 i2 a b n s.heap->H S=cq (.lst vs)->vs.length+m<=fh->
 (∀s' H' i4 A4,Inv X pins σ H' s'->Ext H00 Hb i4 H'->i4 S=da->H' S=cq (.lst A4)->d8 X.K i4 (acc++(wW ds es).drop n) A4->R (.ok<|.ret res) s')->
 codeAny (ef X.prog X.w) A (.builtin "list.extend.loop" ⟨[.ref S,.ref z,res],[]⟩) R s:=by
 intro m
 induction m with
 |zero=>
  intro n s H H0 acc vs M I E h j l r t Q p Z d hz hR;obtain⟨as,u,N,z1⟩:=I.sq<|xO E.sub j;obtain⟨ax,B,P,z2⟩:=I.sq<|xO E.sub l;have l1:=u.length;have l2:=B.length;have l3:=r.length;have l4:=t.length;simp only[List.length_zip,Nat.add_zero]at M;refine Sm F.entry_extend_loop ?_;rw[Around.under_plainId RZ _];show wpAny _ A.in1 (u9 (.ref z) >>= _) _ _ s;refine Mi<|Bq (s:=s) hh DA Z N P (by rw[M];rcases Nat.le_total ds.length es.length with q|q;left;simp;lia;right;simp;lia) λh' k=>?_;refine Mo<|hR _ H H0 vs (I.A2 (t':=s.toks) (fp:=[z,TI,TO,i1,i2]) k p) E h d ?_;rw[Ro (by unfold wW;simp;lia),Ra];exact Q
 | succ m ih=>
  intro n s H H0 acc vs M I E h j l r t Q p Z d hz hR;obtain⟨as,u,N,z1⟩:=I.sq<|xO E.sub j;obtain⟨ax,B,P,z2⟩:=I.sq<|xO E.sub l;have ak:n<(ds.zip es).length:=⋯
  have b2:=ak;simp only[List.length_zip]at b2;have hk:ds[n]? = cq ds[n]:=Mp ⋯;have hy:es[n]? = cq es[n]:=Mp ⋯;obtain⟨x,ex,rx⟩:=r.get hk;obtain⟨y,ey,ry⟩:=t.get hy;obtain⟨T,b7,b8⟩:=u.get ex;obtain⟨W,b9,bb⟩:=B.get ey;have i:H s.heap.objs.size=da:=I.fresh;have C:s.heap.objs.size≠S:=λq=>by rw[q,d]at i;cases i
  refine Sm F.entry_extend_loop ?_;rw[Around.under_plainId RZ _];show wpAny _ A.in1 (u9 (.ref z) >>= _) _ _ s;refine Mi (sj (s:=s) DA Z N P (x:=T) (y:=W) (by simpa using b7) (by simpa using b9) λh' Z' hP k=>?_);have I1:Inv X pins σ (upd H s.heap.objs.size (.tup [x,y])) {s with heap:=s.heap.push {cls:=.type "tuple",data:=.seq #[T,W]}}:=
   I.laid (t':=s.toks) (λb o e=>Mk _ e) (Mq _) (show ir X.prog X.w _ _ _ (.tup [x,y])from⟨(show 2<=fh by decide),[T,W],.cons b8<|.cons bb .nil,A6.new _ _⟩)
  have np:∀c ∈ [z,TI,TO,i1,i2],c≠s.heap.objs.size:=λc O q=>by
   obtain⟨Y,bi,⟨c',e',bl⟩,g1,g2⟩:=Z;obtain⟨o1,G,_⟩:=g1.obj;obtain⟨o2,e2,_⟩:=g2.obj;have L:∃o,s.heap.get? z=cq o:=by
    rcases Y with Y|⟨_,_,_,Y,_⟩
    ·exact⟨_,Y⟩
    ·exact⟨_,Y⟩
   obtain⟨oz,L⟩:=L;simp only[Mr,MD,or_false]at O;rcases O with rfl|rfl|rfl|rfl|rfl
   ·exact absurd q<|ME<|Mt L
   ·exact absurd q<|ME<|Mt bi
   ·exact absurd q<|ME<|Mt bl
   ·exact absurd q<|ME<|Mt G
   ·exact absurd q<|ME<|Mt e2
  have al:∀c ∈ [z,TI,TO,i1,i2],Zg X pins (upd H s.heap.objs.size<|.tup [x,y]) c:=λc O=>Xm (p c O)<|np c O;have I2:=I1.A2 (h':=h') (t':=s.toks) (fp:=[z,TI,TO,i1,i2]) (λc o O q=>by
   by_cases e:c=s.heap.objs.size
   ·rw[e]at q ⊢
    rw[My _ rfl]at q;cases q;exact hP
   ·exact k c o O<|gk e q) al
  have an:upd H s.heap.objs.size (.tup [x,y]) S=cq (.lst vs):=by rw[zE (Nr C)];exact d
  obtain⟨zz,g,c0,rl,ll,J⟩:=I2.Ds an;show wpAny _ A.in1 (P1 S (·.push (.ref s.heap.objs.size)) >>= _) _ _ _;refine Mi ?_;refine Rq J rfl (Mo ⟨plainId_quiet RZ _,?_⟩) (by rw[Ms];lia) (by show(g.toArray.push _).size<=fh+1;rw[Array.size_push,Ms];lia);have nS:∀c ∈ [z,TI,TO,i1,i2],c≠S:=λc O q=>by have:=(p c O).1;rw[q,d]at this;cases this
  have I3:=I2.DP (t':=s.toks) (f:=(·.push (.ref s.heap.objs.size))) (its':=g++[.ref s.heap.objs.size]) (ys:=vs++[.ref s.heap.objs.size]) an J ⋯ (rl.append<|.cons (show L2.RelV (.ref s.heap.objs.size) (.ref s.heap.objs.size)from rfl) .nil) (by rw[Nv,OM];lia);have E3:Ext H00 Hb (upd H0 s.heap.objs.size<|.tup [x,y]) (upd (upd H s.heap.objs.size<|.tup [x,y]) S<|.lst<|vs++[.ref s.heap.objs.size]):=oJ E hS h i C;have U:gm H0 (upd H0 s.heap.objs.size<|.tup [x,y]):=jb (jy E.sub i) _;refine ih (n+1) _ _ _ (acc++[.tup [ds[n],es[n]]]) (vs++[.ref s.heap.objs.size]) ⋯ I3 E3 (by rw[zE (Nr C)];exact h) (xO U j) (xO U l) (r.mono U) (t.mono U) ((Q.mono U).append (.cons (fX (rx.mono U) (ry.mono U) zF) .nil)) (λc O=>Xm (al c O)<|nS c O) ?_ zF (by rw[Nv,OM];lia) λs' H' i4 A4 I4 E4 y1 y2 y3=>hR s' H' i4 A4 I4 E4 y1 y2 ?_
  ·refine Z'.keep (λc O o q=>(ML _ _<|Nr<|nS c O).trans q) λc o q=>?_
   by_cases e:c=S
   ·exact⟨_,by rw[e];exact Nu _ J rfl⟩
   ·exact⟨o,(ML _ _<|Nr e).trans q⟩
  ·have G:(wW ds es).drop n=.tup [ds[n],es[n]]::(wW ds es).drop (n+1):=by
    have:n<(wW ds es).length:=by unfold wW;simpa using ak
    rw[OQ this];congr 1;simp[wW]
   rw[G];rw[List.append_assoc]at y3;exact y3
theorem bO:Dz (.type "zip") "__len__" = pure da:=by rw[Tp,RH];kernel_rfl
theorem Wd:Dz (.type "zip") "__length_hint__" = pure da:=by rw[Tp,RH];kernel_rfl
theorem dW{Q:EQ}{H0 H:Hp}{s:d9}(I:Inv X pins σ H s)(hh:X.A.handled=da)(E:Ext H00 Hb H0 H)(DA:B0 z TI TO i1 i2 a b)
 (h1:ie k1 X.K H0 a xs) (h2:ie k2 X.K H0 b ys) (r1:d8 X.K H0 ds xs) (r2:d8 X.K H0 es ys) (Z:Dg k1 k2 z TI TO i1 i2 a b 0 s.heap) (hz:m3 s.heap z TI TO .none) (hf:∀c ∈ [z,TI,TO,i1,i2],Zg X pins H c) (hl:(ds.zip es).length<=fh)
 (hQ:∀s' H' i4 S A4,Hb S=da->Inv X pins σ H' s'->Ext H00 Hb i4 H'->i4 S=da->H' S=cq (.lst A4)->d8 X.K i4 (wW ds es) A4->Q (.ref S) s'):wpAny (ef X.prog X.w) X.A (call (.type "list") [.ref z]) Q X.xe s:=by
 have Y:H s.heap.objs.size=da:=I.fresh;have r:Hb s.heap.objs.size=da:=yb E.s1 Y;have C:H0 s.heap.objs.size=da:=jy E.sub Y;refine callType_codes (Q₁:=λobj g=>obj=.ref s.heap.objs.size/\g = {s with heap:=s.heap.push {cls:=.type "list",data:=.seq #[]}}) F.called_list (F.typeCall_list_1 _) F.entry_list_init (code_list_new _ ⟨rfl,rfl⟩) ?_;rintro obj g ⟨rfl,rfl⟩;have y:Inv X pins σ (upd H s.heap.objs.size (.lst [])) {s with heap:=s.heap.push {cls:=.type "list",data:=.seq #[]}}:=I.U2 (its:=[]) (ys:=[]) (t':=s.toks) .nil (NJ _);have u:Ext H00 Hb H0 (upd H s.heap.objs.size (.lst [])):=E.trans (Ext.hide E.sub Y _);have U:(s.heap.push {cls:=.type "list",data:=.seq #[]}).get? s.heap.objs.size=cq {cls:=.type "list",data:=.seq #[]}:=My _ rfl;have nd:∀c ∈ [z,TI,TO,i1,i2],c≠s.heap.objs.size:=λc O q=>by
  obtain⟨R,G,⟨W,e',J⟩,g1,g2⟩:=Z;obtain⟨o1,k,_⟩:=g1.obj;obtain⟨o2,l,_⟩:=g2.obj;simp only[Mr,MD,or_false]at O;rcases O with rfl|rfl|rfl|rfl|rfl
  ·exact absurd q<|ME<|Mt hz
  ·exact absurd q<|ME<|Mt G
  ·exact absurd q<|ME<|Mt J
  ·exact absurd q<|ME<|Mt k
  ·exact absurd q<|ME<|Mt l
 refine⟨⟨_,U,rfl⟩,F.args_list_init_2 _ _,?_⟩;show wpAny _ X.A.in1.in1 (do let b2<-PK (.ref s.heap.objs.size);Builtin.List.listUpdate (.ref s.heap.objs.size) (λ_=>#[]);letGo b2.toList.reverse;Oz (.ref s.heap.objs.size) (.ref z) .none) _ _ _;refine Mi ?_;unfold PK;refine Mi (Nk U rfl (Mo ?_));show wpAny _ _ (P1 s.heap.objs.size (λ_=>#[]) >>= λ_=>letGo (#[]:Array dy).toList.reverse >>= λ_=>Oz (.ref s.heap.objs.size) (.ref z) .none) _ _ _;refine Mi (Rq U rfl ?_);have m:=y.DP (t':=s.toks) (f:=λ_=>#[]) (its:=[]) (its':=[]) (xs:=[]) (ys:=[]) zF U rfl .nil (NJ _);rw[Zi]at m;have h:=Nu (Nt (λ_=>(#[]:Array dy))) U rfl;refine Mi (C2 ?_);unfold Oz;have i c o:c≠s.heap.objs.size->s.heap.get? c=cq o->((s.heap.push {cls:=.type "list",data:=.seq #[]}).update s.heap.objs.size (Nt (λ_=>(#[]:Array dy)))).get? c=cq o:=λO q=>(ML _ _ (Nr O)).trans (Mk _ q);have d:=i z _ (nd z ⋯) hz;refine Mi (DG (T:="zip") ⟨_,d,rfl⟩ ?_);have k:RF (.ref s.heap.objs.size) (.ref z)=di:=by have:=nd z ⋯;simp[RF,Nr this]
 have l:(Oc "zip" == Oc "list")=di:=by decide
 have M:(Oc "zip" == Oc "tuple")=di:=by decide
 simp only[k,l,M,Bool.or_false,Nw,if_false];refine Mi (RN d ?_);refine Mi (NA ?_);unfold Builtin.List.listLengthHint;refine Mi (W? (T:="zip") ⟨_,d,rfl⟩ bO ?_);show wpAny _ _ (specialOf (MP z) (MU "__length_hint__") >>= _) _ _ _;refine Mi (W? (T:="zip") ⟨_,d,rfl⟩ Wd ?_);refine Mo ?_;show wpAny _ _ (rule "list.extend.makes-room" >>= λ_=>Builtin.List.listTouch (.ref s.heap.objs.size) >>= λ_=>
  again (.builtin "list.extend.loop" ⟨[.ref s.heap.objs.size,.ref z,.none],[]⟩)) _ _ _
 refine Mi<|PH ?_;refine Mi ?_;show wpAny _ _ (P1 s.heap.objs.size (·.push .none) >>= λ_=>P1 s.heap.objs.size (·.pop)) _ _ _;refine Mi<|Rq h rfl ?_;have j:=Nu (Nt (·.push NI)) h rfl;have n:=m.DP (t':=s.toks) (f:=(·.push NI)) (its:=[]) (its':=[.none]) (xs:=[]) (ys:=[.ej]) zF h rfl (.cons (show L2.RelV .ej .none from rfl) .nil) ⋯;rw[Zi]at n;refine Rq (hz:=by seq_fits) j rfl ?_;have L:=Nu (Nt (·.pop)) j rfl;have p:=n.DP (t':=s.toks) (f:=(·.pop)) (its:=[.none]) (its':=[]) (xs:=[.ej]) (ys:=[]) zF j rfl .nil ⋯;rw[Zi]at p;refine Mo ⟨plainId_quiet RZ _,?_⟩;refine ic (A:=X.A.in1) (ds:=ds) (es:=es) (xs:=xs) (ys:=ys) (k1:=k1) (k2:=k2) (show X.A.in1.handled=da from hh) DA r (ds.zip es).length 0 _ (upd H s.heap.objs.size<|.lst []) H0 [] [] (Og _) p u C h1 h2 r1 r2 .nil (λc O=>Xm (hf c O)<|nd c O) ?_ zF (by simpa using hl) λs' H' i4 A4 B x N P t=>?_
 ·refine Z.keep (λc O o q=>?_) λc o q=>?_
  ·exact(ML _ _<|Nr<|nd c O).trans ((ML _ _<|Nr<|nd c O).trans (i c o (nd c O) q))
  ·by_cases e:c=s.heap.objs.size
   ·exact⟨_,by rw[e];exact L⟩
   ·exact⟨o,(ML _ _<|Nr e).trans ((ML _ _<|Nr e).trans (i c o e q))⟩
 ·rw[RL,List.drop_zero]at t
  exact⟨rfl,hQ s' H' i4 _ A4 r B x N P t⟩
end
section
variable{X:Cx}{sc:gx}{N L:List Str}{k:Nat}{a b:eo}{f g:CO D}{p p2 pos T4:e8}
theorem nF(h:SX X sc N L k)(cd:kz sc "list" = cI)(zd:X.mg "list" = da)(cz:kz sc "zip" = cI)(zz:X.mg "zip" = da)(ha:PV X a f)(hb:PV X b g)
 (hs:eJ [.Call (.Name "zip" p2) [a,b] [] T4] X.env=[(di,eh (.Call (.Name "zip" p2) [a,b] [] T4) X.env)]:=by rfl)
 (a3:eJ [a,b] X.env=[(di,eh a X.env),(di,eh b X.env)]:=by rfl) (Y:eJ [b] X.env=[(di,eh b X.env)]:=by rfl):
 PO X (.Call (.Name "list" p) [.Call (.Name "zip" p2) [a,b] [] T4] [] pos) (fR f g):=by
 intro n s σ H Q I W;obtain⟨l,t,d,o,O,q⟩:=W;obtain⟨⟨k1,J⟩,C,O⟩:=zf O;obtain⟨G,K,P⟩:=zf C;obtain⟨⟨k2,es⟩,E,O⟩:=zf O;obtain⟨F,M,R⟩:=zf E;have hh:X.A.handled=da:=I.ok.hd h.calm;dsimp only at O;by_cases m:J.length<=lim
 ·rw[UJ m]at O
  cases O;refine Ob (xQ I (h.gl cd).1 zd PyProof.Rows.boot_list (Nc ?_ (by rw[hs];rfl) rfl) ⋯ ⋯);rw[hs];show wpAny _ _ (B9 ((di,eh (.Call (.Name "zip" p2) [a,b] [] T4) X.env)::[])) _ _ s;refine NQ (oO (xs:=[]) (ys:=[]) I (h.gl cz).1 zz (jq ha (jq hb qp Y) (by rw[a3,Y])) ?_ a3 Y);refine⟨l,t,G,o,K,λv i e x r=>⟨e,t,F,o.ext x,M,λv2 H2 be U r2=>?_⟩⟩;obtain⟨y,xs,rfl,g1,g2⟩:=Zj (r.mono U.s0) P;obtain⟨B,ys,rfl,g3,T⟩:=Zj r2 R;refine⟨k1,k2,y,B,rfl,⟨xs,xO U.sub g1⟩,⟨ys,xO U.sub g3⟩,λs2 z TI TO i1 i2 w u Z hz hf=>OV ?_⟩;have xa:=x.trans U;refine dW (H00:=l) (Hb:=H) w hh xa u g1 g3 g2 T Z hz hf ?_ λs' i e S j y0 y1 y2 y3 y4 y5=>?_
  ·have:lim<=fh:=by decide
   simp only[List.length_zip];lia
  ·exact⟨.ref S,i,y1,rfl,q S j i e y2 y0 y3 y4 y5⟩
 ·rw[UY m]at O;cases O
end
theorem Vr:Dz (.type "list") "keys" = pure da:=by rw[Tp,RH];kernel_rfl
theorem X8:entryFor table "list.__getattribute__" = cq Builtin.«object.__getattribute__» :=
 entryFor_alias (id':="object.__getattribute__") (by kernel_rfl) (by first|rfl|decide +kernel) ⋯ (by kernel_rfl)
section
variable{prog:f9}{w:f6}{A:ij}{E:EQ}{h:et}{g:Array M6}{d:M4}{t:Nat}{os:Uy}{a:dt}
theorem Xc(hx:h.get? a=cq ⟨.type "list",da,.seq vs nk,sl⟩)(Z:A.handled=da)
 (hE:∀h' e t',(∀b u,h.get? b=cq u->h'.get? b=cq u)->(∃U,h'.get? e=cq U/\U.cls=.type "AttributeError")->E (.ref e) ⟨h',g,d,t',os⟩):
 wpAny (ef prog w) A (Builtin.«object.__getattribute__» ⟨[.ref a,.str "keys" tk],[]⟩) Q E ⟨h,g,d,t,os⟩:=by
 have n:(⟨h,g,d,t,os⟩:d9).TypeIs (.ref a) "list":=⟨_,hx,rfl⟩;have k:=Vr
 repeat (any_goals (first|assumption|wp_step))
 unfold raiseAttrError;have f:((MU (toString "'" ++ toString ((Manifest.find? "list").elim "list" λx=>x.tpName)++toString "' object has no attribute '")++MU "keys" ++ MU "'"):Str).length<=fh:=by decide +kernel
 generalize (MU (toString "'" ++ toString ((Manifest.find? "list").elim "list" λx=>x.tpName)++toString "' object has no attribute '")++MU "keys" ++ MU "'")=I at f ⊢;refine Mi (wpAny_mkStr (hx:=f) ?_);refine Mi ?_;unfold newExc newTuple;refine Mi (NY ?_ (by size_fits));refine Mi (m:=UL _ _) (Si (a:=NI) (by first|rfl|(simp only[UL];rfl)) ?_);refine NY ?_ (by size_fits);simp only[MM];have O:((h.push {cls:=.type "tuple",data:=.seq #[.str I t]}).push {cls:=.type "AttributeError",data:=.fields (#[.ref h.objs.size,.none,.none,.none,.bool di,.none]++U5 (.type "AttributeError") [.str I t])}).get? (h.objs.size+1) =
  cq {cls:=.type "AttributeError",data:=.fields (#[.ref h.objs.size,.none,.none,.none,.bool di,.none]++U5 (.type "AttributeError") [.str I t])}:=by heap_get
 have Y b u:h.get? b=cq u->((h.push {cls:=.type "tuple",data:=.seq #[.str I t]}).push {cls:=.type "AttributeError",data:=.fields (#[.ref h.objs.size,.none,.none,.none,.bool di,.none]++U5 (.type "AttributeError") [.str I t])}).get? b=cq u:=λe=>Mk _ (Mk _ e);have i:h.get? (h.objs.size+1)=da:=RD (SF _);generalize ((h.push {cls:=.type "tuple",data:=.seq #[.str I t]}).push {cls:=.type "AttributeError",data:=.fields (#[.ref h.objs.size,.none,.none,.none,.bool di,.none]++U5 (.type "AttributeError") [.str I t])})=h2 at O Y ⊢;refine Mi (_l ?_);unfold noteAttr lacksNameAndObj;have j:(⟨h2,g,d,t+1+1,os⟩:d9).TypeIs (.ref (h.objs.size+1)) "AttributeError":=⟨_,O,rfl⟩;have l:UU (.type "AttributeError") (.type "AttributeError")=pure cI:=by rw[isSubtype_type];kernel_rfl
 repeat (any_goals (first|assumption|with_reducible refine Oy O ?_|with_reducible refine wpAny_load O ?_|wp_step))
 refine U? Z<|hE _ _ _ (λb u e=>?_) ⟨_,Nu _ O<|Obj.isFreed_of_fields<|TJ rfl _,Obj.cls_mapFields ..⟩;rw[ML _ _ (λq=>by rw[<-q]at e;rw[i]at e;cases e)];exact Y b u e
theorem X4(hx:h.get? a=cq ⟨.type "list",da,.seq vs nk,sl⟩)(O:A.handled=da)
 (U:∀h' e t',(∀b u,h.get? b=cq u->h'.get? b=cq u)->(∃I,h'.get? e=cq I/\I.cls=.type "AttributeError")->R (.error (.ref e)) ⟨h',g,d,t',os⟩):
 codeAny (ef prog w) A (.call (.builtin "list.__getattribute__") ⟨[.ref a,.str "keys" tk],[]⟩) R ⟨h,g,d,t,os⟩:=
 Pd Rc.plain X8 (Rc.check _ _ _ _ _ _ _ _ (show(⟨h,g,d,t,os⟩:d9).TypeIs (.ref a) "list" from⟨_,hx,rfl⟩) (F.args_list_getattribute_2 _ _) (Xc hx O U))
theorem dC:Dz (.type "list") "__getattr__" = pure da:=by rw[Tp,RH];kernel_rfl
theorem ig(hx:h.get? a=cq ⟨.type "list",da,.seq vs nk,sl⟩)(O:A.handled=da)
 (U:∀h' t',(∀b u,h.get? b=cq u->h'.get? b=cq u)->Q da ⟨h',g,d,t',os⟩):wpAny (ef prog w) A (UM (.ref a) "keys") Q E ⟨h,g,d,t,os⟩:=by
 have n:(⟨h,g,d,t+1,os⟩:d9).TypeIs (.ref a) "list":=⟨_,hx,rfl⟩;have f2:=Rc.lookup;have k:=Rc.bind (.ref a);have l:=dC;have m:UU (.type "AttributeError") (.type "AttributeError")=pure cI:=by rw[isSubtype_type];kernel_rfl
 unfold UM getAttrBy? getAttrBy
 repeat (any_goals (first|assumption|wp_step))
 refine X4 (g:=g) (d:=d) (os:=os) hx O λh' e t' Y I=>?_;obtain⟨Z,I,f⟩:=I;have i:(⟨h',g,d,t',os⟩:d9).TypeIs (.ref e) "AttributeError":=⟨Z,I,f⟩;have j:=U h' t' Y;show wpAny _ _ (i? _ _ _ _ _ _ _) _ _ _;unfold i? hookOrError attributeErrorLeaves
 repeat (any_goals (first|assumption|wp_step))
end
def JD:List D->Option (List D×List D)
 |[]=>cq ([],[])
 | d::r=>match d with
  |.tup a=>match a with
   |[k,v]=>(JD r).map λp=>(k::p.1,v::p.2)
   |_=>da
  |_=>da
def pT(f:CO (List D))(γ:Ctx):Option D:=(f γ).bind λa=>(JD a).bind λp=>oY p.1 p.2
@[simp] def Gk:=@pT.eq_1
def Ft(z I:CO D):CO D:=λa=>(z a).bind λd=>(I a).bind λk=>match d with
 |.n4 b e=>(n5 k).bind λi=>bq b e i
 |_=>da
def BW(I z:CO D):CO D:=λa=>(I a).bind λk=>(z a).bind λd=>match d with
 |.n4 b e=>(n5 k).map λi=>.bl (bq b e i).isSome
 |_=>da
section
variable{X:Cx}{pins:UQ}{σ:St}{A:ij}{R:Result->d9->Prop}{H0:Hp}{l it d:dt}{ks:List Key}{ys xs:List V}
theorem dS(hh:A.handled=da)(hx:xs.length=ks.length)(hy:ys.length=ks.length)(hp:∀(n:Nat) (h1:n<xs.length) (h2:n<ks.length) (h3:n<ys.length),∃p,xs[n]=.ref p/\gR X.K H0 p [kV ks[n],ys[n]])(ad:H0 d=da)(ak:l≠d):∀(m n:Nat) (s:d9) (H:Hp) (z:List (Key×V)) (i:Int) (t:o6),n+m=ks.length->
 Inv X pins σ H s->gm H0 H->H l=cq (.lst xs)->s.heap.IsListIter it l n->Zg X pins H it->H d=cq (.dK z)->z.length+m<=fh->
 (∀s',Inv X pins σ (upd H d<|.dK<|nj z<|(ks.zip ys).drop n) s'->R (.ok<|.ret .none) s')->
 codeAny (ef X.prog X.w) A (.builtin "dict.update.loop" ⟨[.ref d,.ref it,.int i t,.none],[]⟩) R s:=by
 intro m
 induction m with
 | zero=>
  intro n s H z i t hn I sub U st f g hz j;obtain⟨z1,a,c,L,ll,Y⟩:=I.Ds U;refine Sm v9 ?_;unfold Builtin.«dict.update.loop»;have Z:s.heap.IsList l a.toArray:=⟨_,Y,rfl,_,rfl⟩;refine Mi<|wpAny_pyNext_list_end (s:=s) hh st Z (by simp;lia) λh' eb=>?_;refine Mi<|Mo ?_;have e0:upd H d (.dK<|nj z<|(ks.zip ys).drop n)=H:=by
   rw[Ro (by simp;lia)];funext c;by_cases q:c=d
   ·rw[q,zF,g];rfl
   ·rw[zE q]
  rw[e0]at j;exact Mo (j _<|I.A2 (t':=s.toks) (fp:=[it]) (λb o O e=>eb b o (by simpa using O) e)<|λb O=>by rw[Pj.mp O];exact f)
 | succ m ih=>
  intro n s H z i t hn I sub U st f g hz j;obtain⟨z1,a,c,L,ll,Y⟩:=I.Ds U;have Z:s.heap.IsList l a.toArray:=⟨_,Y,rfl,_,rfl⟩;have Q:n<ks.length:=⋯
  obtain⟨p,ep,as⟩:=hp n ⋯ Q ⋯;obtain⟨u,hu,J⟩:=L.get (Mp<|show n<xs.length by lia);rw[ep]at J;have eu:u=.ref p:=J;subst eu;refine Sm v9 ?_;unfold Builtin.«dict.update.loop»;refine Mi<|wpAny_pyNext_list_item (s:=s) st Z (x:=.ref p) (by simpa using hu) λh' S sb=>?_;have k:=I.A2 (h':=h') (t':=s.toks) (fp:=[it]) (λb o O e=>(sb.2 b<|by simpa using O).trans e) (λb O=>by rw[Pj.mp O];exact f);obtain⟨ts,rt,⟨o,E,co,nn,T⟩,zah⟩:=k.tuple<|n6 sub as;obtain⟨h,y,rfl,W,r⟩:∃h y,ts=h::y/\RelV (kV ks[n]) h/\ft [ys[n]] y:=by
   cases rt with
   |cons q1 r=>exact⟨_,_,rfl,q1,r⟩
  obtain⟨M,rfl,b7⟩:=yU r;have b8:({s with heap:=h'}:d9).TypeIs (.ref p) "tuple":=⟨_,E,co⟩;refine Mi (NA (Mi (wpAny_tryCatch ?_)));unfold Builtin.Dict.pairItems;refine Mi (DG b8 ?_);rw[UJ ⋯];refine Mi (Nk E T (Mo ?_));show wpAny _ _ (C7 [h,M] (dictSet d h M)) _ _ _;obtain⟨zz,bb,vs,B,dd⟩:=HC k.eH g;have bd:vs.length<=fh:=by rw[<-B.length];exact zz
  have be:(eE z ks[n] ys[n]).length<=fh:=by have:=Xe z ks[n] ys[n];lia
  refine NA<|wpAny_dictSet_pairs (hsz:=bd) (oj W) dd λbg C F=>?_;have he:∃q,bg.get? d=cq q:=let ⟨q,_,_,hq,_⟩:=C;⟨q,hq⟩;have N:=Aw (t':=s.toks+1) k (by rw[g];exact OK) F he<|EV be bb (B.put ks[n] b7) C;have G:it≠d:=λq=>by have:=f.1;rw[q,g]at this;cases this
  refine Mo ⟨vO _,ih (n+1) _ _ (eE z ks[n] ys[n]) (i+1) 0 ⋯ N (λc o e=>?_) (by rw[zE ak];exact U) (S.at λo q=>(F.2 it G).trans q) ⟨by rw[zE G];exact f.1,f.2⟩ zF (by have:=Xe z ks[n] ys[n];lia) λs' P=>j s' ?_⟩
  ·rw[zE (λq=>by rw[q,ad]at e;cases e)];exact sub _ _ e
  ·have bv:n<(ks.zip ys).length:=by simp;lia
   have e1:(ks.zip ys).drop n=(ks[n],ys[n])::(ks.zip ys).drop (n+1):=by rw[OQ bv];simp
   have e2:upd (upd H d<|.dK<|eE z ks[n] ys[n]) d (.dK<|nj (eE z ks[n] ys[n])<|(ks.zip ys).drop (n+1))=upd H d (.dK<|nj z<|(ks.zip ys).drop n):=by
    funext c;by_cases q:c=d
    ·rw[q,zF,zF,e1];rfl
    ·rw[zE q,zE q,zE q]
   rw[<-e2];exact P
theorem dX(I:Inv X pins σ H s)(z:X.A.handled=da)(sub:gm H0 H)(O:H l=cq (.lst xs))(hx:xs.length=ks.length)(hy:ys.length=ks.length)
 (hp:∀(n:Nat) (h1:n<xs.length) (h2:n<ks.length) (h3:n<ys.length),∃p,xs[n]=.ref p/\gR X.K H0 p [kV ks[n],ys[n]]) (hz:ks.length<=fh)
 (hQ:∀s' p,H p=da->Inv X pins σ (upd H p (.dK (nj [] (ks.zip ys)))) s'->Q (.ref p) s'):wpAny (ef X.prog X.w) X.A (call (.type "dict") [.ref l]) Q X.xe s:=by
 have U:H s.heap.objs.size=da:=I.fresh;have x:H0 s.heap.objs.size=da:=jy sub U;have j:l≠s.heap.objs.size:=λq=>by rw[q,U]at O;cases O
 refine callType_codes (Q₁:=λobj f=>obj=.ref s.heap.objs.size/\f = {s with heap:=s.heap.push {cls:=.type "dict",data:=.dict #[]}}) F.kt_called_dict (F.kt_typeCall_dict_1 _) F.entry_dict_init (kt_code_dict_new _ ⟨rfl,rfl⟩) ?_;rintro obj f ⟨rfl,rfl⟩;have r:=I.laid (a:=s.heap.objs.size) (o:=.dK []) (t':=s.toks) (λ_ _ q=>Mk {cls:=.type "dict",data:=.dict #[]} q) (Mq _) (oX s.heap I.big);have m:({s with heap:=s.heap.push {cls:=.type "dict",data:=.dict #[]}}:d9).TypeIs (.ref s.heap.objs.size) "dict":=⟨_,My _ rfl,rfl⟩;obtain⟨J,h,c,G,E,B⟩:=I.Ds O;have Y:(s.heap.push {cls:=.type "dict",data:=.dict #[]}).get? l=cq {cls:=.type "list",data:=.seq h.toArray c}:=Mk _ B;refine⟨m,F.args_dict_init_2 _ _,?_⟩;unfold Builtin.«dict.__init__»;refine Mi ?_;unfold Builtin.Dict.selfAndRest;refine Mi (wpAny_notOrdered_dict m ?_);show wpAny _ _ (pure (s.heap.objs.size,[MP l])) _ _ _;refine Mo ?_;show wpAny _ _ (Builtin.Dict.updateFrom "dict.__init__" s.heap.objs.size (.ref l) [] .none) _ _ _;unfold Builtin.Dict.updateFrom;refine Mi (DG (T:="list") ⟨_,Y,rfl⟩ ?_);rw[UJ ⋯];refine Mi (ig (g:=s.gens) (d:=s.drawn) (t:=s.toks) (os:=s.os) Y (show X.A.in1.in1.handled=da from z) λh' t' k=>?_);have Z:Inv X pins σ (upd H s.heap.objs.size (.dK [])) {s with heap:=h',toks:=t'}:=r.kept k;have y:=k _ _ Y;simp only[Option.isNone_none,if_true];refine Mi (PH (Mi (Uh (items:=h.toArray) ⟨_,y,rfl,_,rfl⟩ ?_)));refine Mo ⟨vO _,?_⟩;have u:=Z.kept (h':=h'.push {cls:=.type "list_iterator",data:=.fields #[.ref l,.int 0 0]}) (t':=t') λb o e=>Mk _ e;have C:=Z.B6 (b:=h'.objs.size) (H':=upd H s.heap.objs.size (.dK [])) (Mq _) Z.fresh;refine dS (H0:=H0) (l:=l) (it:=h'.objs.size) (ks:=ks) (ys:=ys) (xs:=xs) (show X.A.in1.handled=da from z) hx hy hp x j ks.length 0 _ (upd H s.heap.objs.size (.dK [])) [] 0 0 (Og _) u (sub.trans (jb U _)) (by rw[zE j];exact O) ⟨_,My _ rfl,rfl,rfl⟩ C zF (by simpa using hz) λs' i=>?_;rw[Zi,List.drop_zero]at i;exact⟨rfl,hQ s' _ U i⟩
end
theorem YN:∀{ps ks vs:List D},JD ps=cq (ks,vs)->ks.length=ps.length/\vs.length=ps.length
 |[],ks,vs,h=>by cases h;exact⟨rfl,rfl⟩
 | d::r,ks,vs,h=>by
  unfold JD at h;split at h
  ·split at h
   ·obtain⟨⟨a,b⟩,e,I⟩:=zI h
    cases I;obtain⟨f,g⟩:=YN e;exact⟨by simp[f],by simp[g]⟩
   ·cases h
  ·cases h
theorem Kd{K:Mj}{H:Hp}:∀{ps ks vs:List D} {xs:List V} {ns:List Int},JD ps=cq (ks,vs)->d8 K H ps xs->Yh ks=cq ns->
 ∃ys,d8 K H vs ys/\ys.length=ns.length/\xs.length=ns.length/\∀(n:Nat) (z:n<xs.length) (O:n<ns.length) (I:n<ys.length),∃p,xs[n]=.ref p/\gR K H p [.int ns[n],ys[n]]
 |[],ks,vs,xs,ns,h,r,hi=>by cases h;cases hi;rw[r.tv];exact⟨[],d8.nil,rfl,rfl,λn z=>by cases z⟩
 | d::ps,ks,vs,xs,ns,h,r,hi=>by
  unfold JD at h;split at h
  ·split at h
   ·rename_i k v
    obtain⟨⟨a,b⟩,e,U⟩:=zI h;cases U;obtain⟨x,B,rfl,z,O⟩:=r.o4;cases k with
    |int j=>
     obtain⟨A,Y,Z⟩:=zI hi;subst Z;obtain⟨ys,o,s,t,u⟩:=Kd e O Y;obtain⟨q,F,rfl,I,f⟩:=vJ z;obtain⟨C,E,rfl,g,i⟩:=f.o4;obtain⟨w,y,rfl,l,m⟩:=i.o4;rw[m.tv,jT g]at I;refine⟨w::ys,d8.cons l o,by simp[s],by simp[t],λn g1 g2 g3=>?_⟩;cases n with
     |zero=>exact⟨q,rfl,I⟩
     |succ n=>exact u n (by simpa using g1) (by simpa using g2) (by simpa using g3)
    |_=>cases hi
   ·cases h
  ·cases h
section
variable{X:Cx}{sc:gx}{N L:List Str}{k:Nat}{a o i:eo}{f:CO (List D)}{fd fk:CO D}{p pos:e8}
theorem nc(h:SX X sc N L k)(cd:kz sc "dict" = cI)(zd:X.mg "dict" = da)(ha:PO X a f)(hs:eJ [a] X.env=[(di,eh a X.env)]:=by rfl):
 PV X (.Call (.Name "dict" p) [a] [] pos) (pT f):=by
 intro i s σ H Q I r;obtain⟨H0,γ,d,B,O,q⟩:=r;obtain⟨z,F,O⟩:=zf O;obtain⟨⟨b,m⟩,x,O⟩:=zf O;have P:X.A.handled=da:=I.ok.hd h.calm;unfold oY at O;cases hi:Yh b with
 |none=>rw[show(b,m).1=b from rfl,hi]at O;cases O
 | some g=>
  rw[show(b,m).1=b from rfl,hi]at O;dsimp only at O;by_cases u:b.length=m.length/\g.Nodup/\b.length<=lim
  ·rw[UJ u]at O
   cases O;refine DC<|xQ I (h.gl cd).1 zd PyProof.Rows.boot_dict (Nc ?_ (by rw[hs];rfl) rfl);rw[hs];show wpAny _ _ (B9 ((di,eh a X.env)::[])) _ _ s;refine NQ<|fe (ha i s σ H (λv j=>∃l xs U,v=.ref l/\Ext H0 H U j/\U l=da/\j l=cq (.lst xs)/\d8 X.K U z xs) I ⟨H0,γ,z,B,F,λl xs j U e g1 g2 g3 Z=>⟨l,xs,U,rfl,e,g2,g3,Z⟩⟩) λv s1 r=>?_;obtain⟨y,j,C,ry,l,xs,U,rfl,e,g2,g3,Z⟩:=r;cases ry;refine OV ?_;obtain⟨ys,R,S,T,W⟩:=Kd x Z hi;have w:(g.map<|OD (β:=Str)).length=g.length:=by simp
   have nl:g.length=b.length:=by have:=(YN x).1;have:=Z.length;lia
   refine dX (H0:=U) (ks:=g.map OD) (ys:=ys) (xs:=xs) C P e.sub g3 (by rw[w];exact T) (by rw[w];exact S) (λn G J M=>?_) ?_ λs' p o Y=>?_
   ·obtain⟨t,t1,t2⟩:=W n G (by simpa using J) M
    refine⟨t,t1,?_⟩;simpa[kV]using t2
   ·have:lim<=fh:=by decide
    rw[w];lia
   ·have E:nj [] ((g.map<|OD (β:=Str)).zip ys)=(g.map OD).zip ys:=by
     rw[Kl _ []]
     ·simp
     ·rw[RL,List.map_fst_zip ⋯]
      exact Vm u.2.1
    rw[E]at Y;obtain⟨of,Y⟩:=Inv.g? Y zF;rw[Zi]at Y;exact⟨.ref p,_,Y,rfl,q (.ref p) _ _ ((e.trans<|Ext.hide e.sub o _).show (yb e.s1 o) (jy e.sub o) zF B.sub)
     (show ∃a xs,V.ref p=.ref a/\DY (upd U p _) a b xs/\d8 X.K (upd U p _) m xs from⟨p,ys,rfl,⟨_,Kx hi,⋯,of,zF⟩,R.mono<|jb (jy e.sub o) _⟩)⟩
  ·rw[UY u]at O;cases O
theorem Cp(h:SX X sc N L k)(Z:PV X o fd)(hi:PV X i fk)(hs:Ii i:=by intro _ _;rfl):PV X (.Subscript o i pos) (Ft fd fk):=
 qo (uC (by have:=h.Pz;lia) Z hi hs) λS H Q C=>by
  obtain⟨l,g,d,f,I,q⟩:=C;obtain⟨t,u,I⟩:=zf I;obtain⟨P,w,I⟩:=zf I;cases t with
  |n4 F J=>
   obtain⟨j,z,A⟩:=zf I;refine⟨l,g,_,f,u,λv M O x r=>⟨O,g,_,f.ext x,w,λy m n U e=>?_⟩⟩;obtain⟨ad,b,rfl,⟨R,g1,g2,G,g3⟩,B⟩:=(show ∃a b,v=.ref a/\DY O a F b/\d8 X.K O J b from r);rw[jW z]at e;have E:y=.int j:=e;obtain⟨Y,p,s⟩:=(Yj (i:=j) g1 g2<|B.mono U.s0).1 d A;refine⟨ad,Y,rfl,?_,q Y m n (x.trans U) s⟩;rw[E,<-p];exact .inl ⟨_,OD j,.inr ⟨G,U.s1 _ _<|x.sub _ _ g3⟩,rfl,rfl⟩
  |_=>cases I
theorem uh(h:SX X sc N L k)(hi:PV X i fk)(ho:PV X o fd)(hm:B1 .In o=di:=by with_unfolding_all rfl):l5 X (.Compare i [.In] [o] pos) (sB<|BW fk fd):=
 Wx (Cs (CP (by have:=h.Pz;lia) hi ho) hm) λσ H Q P=>by
  obtain⟨p,n,b,l,I,q⟩:=P;obtain⟨W,B,J⟩:=zf I;obtain⟨k1,C,I⟩:=zf B;obtain⟨z,E,I⟩:=zf I;cases z with
  | n4 g m=>
   obtain⟨j,F,G⟩:=zI I;subst G;cases J;refine⟨p,n,_,l,C,λy S s x Y=>⟨s,n,_,l.ext x,E,λv e O U r=>?_⟩⟩;obtain⟨ad,d,rfl,⟨kk,g1,g2,Z,g3⟩,M⟩:=(show ∃a d,v=.ref a/\DY O a g d/\d8 X.K O m d from r);rw[jW F]at Y;have f:y=.int j:=Y;obtain⟨t,u⟩:=Yj (i:=j) g1 g2 M;cases hv:bq g m j with
   | none=>
    refine⟨ad,da,rfl,?_,_,rfl,?_⟩
    ·rw[f,<-u hv]
     exact .inl ⟨_,OD j,.inr ⟨Z,U.sub _ _ g3⟩,rfl,rfl⟩
    ·rw[hv]at q;exact q e O<|x.trans U
   | some A=>
    obtain⟨R,w,T⟩:=t A hv;refine⟨ad,cq R,rfl,?_,_,rfl,?_⟩
    ·rw[f,<-w]
     exact .inl ⟨_,OD j,.inr ⟨Z,U.sub _ _ g3⟩,rfl,rfl⟩
    ·rw[hv]at q;exact q e O<|x.trans U
  |_=>cases I
end
def IP:List (List Int)->List Int->List Int->Option Int
 |k::ks,n::ns,i=>if k=i then cq n else IP ks ns i
 |_,_,_=>da
def eqT(ks:List (List Int))(ns:List Int)(I:List (List Int))(O:List Int):Bool:=decide (ks.length=I.length)&&(ks.zip ns).all λx=>decide<|IP I O x.1=cq x.2
def IS(d e:D):Option Bool:=match d with
 |.o3 b g=>match e with
  |.o3 I a=>(Yh g).bind λf=>(Yh a).map λO=>eqT b f I O
  |_=>da
 |_=>da
@[simp] def Mh(d e:D):Option D:=(IS d e).map D.bl
@[simp] def Mg(d e:D):Option D:=(IS d e).map λb=>D.bl<|!b
abbrev TT:=List (List (List Int))
end DL
namespace DL
open PySem PySem.Spec PyProof.Rows L2
open PySem.W (KasT kas_sort kas_ask kat_run kat_snds kat_lt kat_cons kat_no kat_yes kat_nil kat_go kat_one kat_kind KatTups KatGo)
section
variable{prog:f9}{w:f6}{A:ij}{E:EQ}{s:d9}
theorem bf{a kS:dt}{U:List dy}{I:List dy}{e z:Nat}{P:PySem.Fin->d9->Prop}{st:SortSt}(Y:s.heap.get? kS=cq (js "list" U.toArray e))(ha:s.heap.get? a=cq (js "list" #[] z))(Z:kS≠a)(a1:U.length<=fh)(a2:I.length<=fh)
 (ho:(arrOf st).map (·.2)=I.toArray) (hf:failedOf st=da)
 (h:∀h' c,h'.objs.size=s.heap.objs.size->(∀b o,b≠a->b≠kS->s.heap.get? b=cq o->h'.get? b=cq o)->h'.get? a=cq (js "list" I.toArray c)->P (.done (.ret .none)) {s with heap:=h'}):
 wpAny (ef prog w) A (ksk_tail a di z (.ref kS) st) P E s:=by
 unfold ksk_tail;refine Mi (Ud Y rfl ?_ (by rw[Ms];exact a1) (NJ _));refine Mi (C2 ?_);have O:(s.heap.update kS (Nt λ_=>(#[]:Array dy))).get? a=cq (js "list" #[] z):=(ML _ _ Z).trans ha;refine Mi (seqEpoch_at O rfl ?_);simp only[Nw,if_false];rw[ho];refine Mi (Ud O rfl ?_ (NJ _) (by show I.toArray.size<=_;rw[Ms];exact Nat.le_succ_of_le a2));rw[hf];simp only[bne_self_eq_false,Nw,if_false];obtain⟨c,g⟩:∃c,((s.heap.update kS (Nt λ_=>(#[]:Array dy))).update a (Nt λ_=>I.toArray)).get? a=cq (js "list" I.toArray c):=⟨_,D' O λ_=>I.toArray⟩;refine Mo (h _ c (by rw[SI,SI]) (λb o d f q=>?_) g);exact(ML _ _ (Nr d)).trans ((ML _ _ (Nr f)).trans q)
theorem uW{a kS:dt}{vs I:List dy}{ps:List (Int×Int)}{e z:Nat}{P:PySem.Fin->d9->Prop}(hk:s.heap.get? kS=cq (js "list" I.toArray e))(ha:s.heap.get? a=cq (js "list" #[] z))(ac:kS≠a)(ad:I.length=vs.length)(a7:ps.length=vs.length)(ar:vs.length<64)
 (hT:∀i (hi:i<I.length),R4 s.heap I[i] (ps.getD i (0,0)).1 (ps.getD i (0,0)).2)
 (h:∀h' c,h'.objs.size=s.heap.objs.size->(∀b o,b≠a->b≠kS->s.heap.get? b=cq o->h'.get? b=cq o)->h'.get? a=cq (js "list" (List.toArray ((yJ ps).map λi=>vs.getD i NI)) c)->P (.done (.ret .none)) {s with heap:=h'}):
 wpAny (ef prog w) A (ksk_end a di vs.toArray z (.ref kS) I.toArray) P E s:=by
 have hz:vs.length<=fh:=by rw[OJ];lia
 have n:vs.toArray.size=vs.length:=by simp
 have bv:((yJ ps).map λi=>vs.getD i NI).length=vs.length:=by rw[MN,(kR ps).length_eq,Od,a7]
 have step:∀t:l6 PySem.Fin,wpAny (ef prog w) A t P E s->wpAny (ef prog w) A (if di=cI then (do let _<-rule "list.sort.reverse";t)else t) P E s:=λt ht=>ht;unfold ksk_end
 try dsimp only
 refine step _ ?_;by_cases g:vs.toArray.size<2
 ·rw[UJ g,UJ g]
  refine Mi<|Mo ?_;rw[StateT.run_pure];refine Mi<|Mo ?_;dsimp only;have ev:(yJ ps).map (λi=>vs.getD i NI)=vs:=by unfold yJ;rw[UJ ⋯,a7];exact qf _ _
  have e7:Array.map (λx=>x.snd) (arrOf<|SortSt.mk' general' (I.toArray.zip vs.toArray) #[] 7 da)=((yJ ps).map (λi=>vs.getD i NI)).toArray:=by show Array.map (λx=>x.snd) (I.toArray.zip vs.toArray)=_;rw[ev];apply Array.ext';simp[Array.toList_map,Array.toList_zip];rw[List.map_snd_zip ⋯]
  exact bf hk ha ac ⋯ ⋯ e7 rfl h
 ·rw[UY g,UY g]
  have n2:2<=vs.length:=by rw[<-n];lia
  obtain⟨fs,f1,f2,f3⟩:=rG (ks:=λi=>(ps.getD i (0,0)).1) λi hi=>(hT i hi).one;refine Mi (kat_kind (T:=Oc "int") f1 ⋯ (λv hv=>?_) ⋯ ?_)
  ·obtain⟨k,t,rfl⟩:=f3 v hv
   exact Tc.of_pure rfl
  have ep:(BZ (λi j=>FD (ps.getD i (0,0))<|ps.getD j (0,0))<|kas_sort vs.length).toList=yJ ps:=by unfold yJ;rw[UY ⋯,a7]
  refine Mi (MG (kat_run (E:=E) (ks:=I) (Q:=λf d=>∃p:Array Nat,arrOf f=p.map (PySem.W.kas_item<|I.toArray.zip vs.toArray)/\failedOf f=da/\p.toList=yJ ps/\d=s)
   (G:=λp d=>p.toList=yJ ps/\d=s)
   ad n2 ar (λp f d a1 L M r=>⟨p,L,M,r.1,r.2⟩) (iS (lt:=λi j=>FD (ps.getD i (0,0))<|ps.getD j (0,0)) (λi j C hi hj O=>?_) (VC ⋯) ⟨ep,rfl⟩)) ?_ λ_ _ e=>e)
  ·show wpAny _ _ (keyLt' _ (I.getD i NI)<|I.getD j NI) C _ _
   have B:i<I.length:=⋯
   have F:j<I.length:=⋯
   rw[show I.getD i NI=I[i]by simp[B],show I.getD j NI=I[j]by simp[F]];obtain⟨x,ox,xs,m,t,u,z,e2,e3,e4,K⟩:=hT i B;obtain⟨y,oy,ys,m',t',u',S,X,d3,d4,J⟩:=hT j F;rw[z,S];refine kat_lt e2 e4 X d4 ?_;have N:xs.size=2:=by rw[<-OE,K];rfl
   have bl:ys.size=2:=by rw[<-OE,J];rfl
   rw[K,J,N,bl,RW,RW];unfold FD at O;generalize ps.getD i (0,0)=Y at O ⊢;generalize ps.getD j (0,0)=Z at O ⊢;refine kat_cons<|q_ Y.1 t Z.1 t' _ _ _ _ ?_;refine kat_go (λU=>?_) λU=>?_
   ·have U:Y.1=Z.1:=by simpa using U
    rw[UJ U]at O;refine kat_yes<|kat_cons<|q_ Y.2 u Z.2 u' _ _ _ _<|kat_go (λl=>?_) λl=>?_
    ·have l:Y.2=Z.2:=by simpa using l
     refine kat_yes<|kat_nil ?_;rw[show decide (Y.2<Z.2)=di by rw[l];simp]at O;exact O
    ·exact kat_no<|kat_one _ _<|lt_int O
   ·have U:Y.1≠Z.1:=by simpa using U
    rw[UY U]at O;exact kat_no<|oneLt_int O
  rintro⟨⟨⟩,f⟩ d ⟨p,R,hf,hp,rfl⟩;dsimp only;have H:=kat_snds ad R;rw[hp]at H;exact bf hk ha ac ⋯ ⋯ H hf h
end
end DL
namespace DL
open PySem PySem.Spec PyProof.Rows L2
section
variable{X:Cx}{pins:UQ}{σ:St}{H:Hp}{s:d9}{a:dt}{o:HO}
theorem iG(I:Inv X pins σ H s)(f:Zg X pins H a)(new:ir X.prog X.w (upd H a o) s.heap a o):Inv X pins σ (upd H a o) s:=by
 obtain⟨Z,f2,t,i,j,k⟩:=f;have d b u:H b=cq u->b≠a:=λq z=>by rw[z,Z]at q;cases q
 refine⟨I.ok,I.os,I.bare,⟨I.base.keep,I.base.slot,λb U q n g=>?_,I.base.there,λb h q=>?_,λb U u q=>?_,λb l q=>?_⟩,I.loc,I.cell,?_,λx c e=>?_,λp Y=>?_,λb u e=>?_,I.len⟩
 ·have O:b≠a:=λz=>by
   rcases i with z1|z1
   ·exact g<|z ▸ z1
   ·have:=Mt q
    rw[z]at this;exact absurd this<|Nat.not_lt_of_le z1
  rw[zE O];exact I.base.free b U q n g
 ·have:=I.base.u5 b h q
  rw[zE (d b _ this)];exact this
 ·have:=I.base.tu b U u q
  rw[zE (d b _ this)];exact this
 ·obtain⟨m,this⟩:=I.base.u4 b l q
  exact⟨m,by rw[zE (d b _ this)];exact this⟩
 ·rw[zE (Nr f2)];exact I.free
 ·rw[zE (j x c e)];exact I.u7 x c e
 ·obtain⟨e,n,r⟩:=I.pin p Y
  exact⟨e,by rw[zE (k p Y)];exact n,r⟩
 ·by_cases O:b=a
  ·subst O;rw[zF]at e;cases e;exact new
  ·rw[zE O]at e
   exact(I.eH b u e).vl (λ_ _ _ q=>q) (λc q=>by rw[zE (d c _ q)];exact q) λc h q=>by rw[zE (d c _ q)];exact q
theorem tL{A:ij}{Q:VK}{us:List dy}{vs:List V}{CX:vt}{k:Nat}{f:dt}{z:q7}{ps:List Str}{sp:Sp}(F:q5 X.prog X.w X.K X.mg X.base sa k f z ps sp)(U:m5 k A)(Y:xC X.prog X.w X.K X.mg X.base A X.stack s H)(Z:Binds X.K z ps [])
 (I:Inv X pins σ H s) (r:ft vs us) (h:sp vs H Q E0):wpAny (ef X.prog X.w) A (call (.ref f) us) (EP X pins σ Q) (λ_ _=>False) s:=by
 have b:us.length=ps.length:=by rw[<-r.length];exact F.len _ _ _ _ h
 refine Ry<|RG (F.run A X.stack s H ⟨us,[]⟩ us vs Q E0 U Y (by simpa using Z s us I.iv (by simpa using b)) r h) λr d O=>?_;cases r with
 |error e=>exact O.elim
 |ok a=>
  cases a with
  |ret u=>exact I.after O
  |next=>exact Oq O
  |brk=>exact Oq O
  |cont=>exact Oq O
theorem Cb(I:Inv X pins σ H s)(fk:Zg X pins H kS)(z:Zg X pins H a)(U:s.heap.get? kS=cq ok)(ha:s.heap.get? a=cq oa)(Y:∀v,ok.data ≠ .cell v)(Z:∀v,oa.data ≠ .cell v):Inv X (pins++[(kS,ok),(a,oa)]) σ H s:=
 I.T3 λp O=>by
  rcases PY.mp O with O|O
  ·exact I.pin p<|MH _ O
  ·rcases Mr.mp O with rfl|O
   ·exact⟨U,fk.1,fk.2.1,fk.2.2.1,Y⟩
   ·rw[Pj.mp O];exact⟨ha,z.1,z.2.1,z.2.2.1,Z⟩
theorem Bw(I:Inv X (pins++more) σ H s):Inv X pins σ H s:=I.T3 λp O=>I.pin p<|MH _<|SW _ O
end
def Va(ps:List (Int×Int)):List D:=ps.map λp=>D.tup [.int p.1,.int p.2]
section
variable{X:Cx}{pins:UQ}{σ:St}{F:List D->Option Res}{k:Nat}{f:dt}{fd:q7}{pr:List Str}{A:ij}{E:EQ}
theorem sH(I:Inv X pins σ H s)(sub:gm H0 H)(r:Rep X.K H0 (.tup [.int i,.int j]) v)(ru:RelV v u):R4 s.heap u i j:=by
 obtain⟨b,G,rfl,d,g⟩:=vJ r;obtain⟨y,F,f,h,k⟩:=g.o4;obtain⟨E,B,a,l,m⟩:=k.o4;rw[m.tv]at a;rw[f,a,jT h,jT l]at d;cases ru;obtain⟨e,A,⟨o,x,p,n,w⟩,_⟩:=I.tuple<|n6 sub d;obtain⟨O,U,rfl,Y,Z⟩:∃O U,e=O::U/\RelV (.int i) O/\ft [.int j] U:=by
  cases A with
  |cons Y Z=>exact⟨_,_,rfl,Y,Z⟩
 obtain⟨C,rfl,z⟩:=yU Z;obtain⟨t,rfl⟩:=Y;obtain⟨u,rfl⟩:=z;exact⟨b,o,_,n,t,u,rfl,x,p,w,rfl⟩
theorem oi{a kS:dt}{vs:List dy}{xs:List V}{ds:List D}{ps:List (Int×Int)}{e1:Nat}{P:PySem.Fin->d9->Prop}{H0 H:Hp}{s:d9}
 (G:q5 X.prog X.w X.K X.mg X.base sa k f fd pr (t9 X.K pr.length F)) (h1:pr.length=1) (hr:m5 k A) (b6:A.frames=cq X.stack) (O:Binds X.K fd pr [])
 (I:Inv X pins σ H s) (sub:gm H0 H) (rv:ft xs vs) (rd:d8 X.K H0 ds xs) (aq:ps.length=vs.length) (b7:vs.length<64)
 (hF:∀(i:Nat) d p,ds[i]? = cq d->ps[i]? = cq p->F [d]=cq (.val<|.tup [.int p.1,.int p.2]))
 (hk:s.heap.get? kS=cq (js "list" #[] 0)) (ha:s.heap.get? a=cq (js "list" #[] e1)) (ar:kS≠a) (fk:Zg X pins H kS) (fa:Zg X pins H a)
 (h:∀s' H' i4 c,Inv X pins σ H' s'->Ext H0 H i4 H'->s'.heap.get? a=cq (js "list" (List.toArray ((yJ ps).map λi=>vs.getD i NI)) c)->Zg X pins H' a->P (.done (.ret .none)) s'):
 wpAny (ef X.prog X.w) A (ksk_rest a (.ref f) di vs.toArray e1<|.ref kS) P E s:=by
 have c5:=rv.length;have c6:=rd.length;have hz:vs.length<=fh:=by rw[OJ];lia
 unfold ksk_rest;refine Mi (PH ?_);rw[Tz];refine Mi (ksk_fold (λj s'=>∃l m U e,Inv X (pins++[(kS,js "list" U e),(a,js "list" #[] e1)]) σ l s'/\Ext H0 H m l/\∃g:List V,ft g U.toList/\d8 X.K m (Va (ps.take j)) g) vs 0 s
  ⟨H,H0,#[],0,Cb I fk fa hk ha (λv z=>by cases z) (λv z=>by cases z),Ext.refl sub,[],.nil,d8.nil⟩ ?step ?done)
 case step=>
  rintro j x s' hx ⟨l,m,U,e,Y,r,g,B,Z⟩;simp only[Og]at Z ⊢;have hj:j<vs.length:=(MR.mp hx).1;have hp:ps[j]? = cq ps[j]:=Mp ⋯;have hd:ds[j]? = cq ds[j]:=Mp ⋯;have ax:xs[j]? = cq xs[j]:=Mp ⋯;obtain⟨u',b0,b9⟩:=rv.get ax;rw[hx]at b0;cases b0;obtain⟨zad,b1,bb⟩:=rd.get hd;rw[ax]at b1;cases b1;have env:xC X.prog X.w X.K X.mg X.base A X.stack s' l:=⟨b6,Y.B5.mod,Y.B5.bs,Y.B5.y9,Y.B5.o8,Y.B5.zt,Y.B5.eH,Y.B5.bare⟩;refine Mi (Of (MG (tL (CX:=sa) (Q:=λv H'=>∃i4,Ext m l i4 H'/\Rep X.K i4 (.tup [.int ps[j].1,.int ps[j].2]) v) G hr env O Y (vs:=[xs[j]]) (us:=[x]) (.cons b9 .nil)
   ⟨m,[ds[j]],_,r.sub,d8.cons (bb.mono r.s0) d8.nil,by rw[h1];rfl,hF j _ _ hd hp,λv H' i4 M r2=>⟨i4,M,r2⟩⟩) (λv C he=>?_) λ_ _ hF=>hF.elim))
  obtain⟨vv,N,t,bg,bi,M,r2⟩:=he
  try dsimp only
  obtain⟨n,R,_⟩:=t.pin (kS,js "list" U e) (MH _ (MH _ (.head _)));obtain⟨na,S,_⟩:=t.pin (a,js "list" #[] e1) (MH _ (MH _ (.tail _ (.head _))));have bl:=Bw t;have J:Zg X pins N kS:=⟨R,fk.2⟩;have L:Zg X pins N a:=⟨S,fa.2⟩;have kl:U.size=j:=by have:=B.length;have:=Z.length;simp only[Va,MN,Pg,OE]at *;lia
  refine Mi (Ud n rfl ?_ (by rw[kl,OJ];lia) (Nl (Nat.le_of_eq (Array.size_push ..)) (by rw[kl,OJ];lia)));obtain⟨T,bn⟩:∃T,(C.heap.update kS (Nt (·.push v))).get? kS=cq (js "list" (U.push v) T):=⟨_,D' n (·.push v)⟩;have I3:=bl.A2 (h':=C.heap.update kS (Nt (·.push v))) (t':=C.toks) (fp:=[kS]) (λb o O q=>(ML _ _ (λz=>O (by rw[z];exact List.mem_singleton_self _))).trans q) (λb O=>by rw[Pj.mp O];exact J);have bv:(C.heap.update kS (Nt (·.push v))).get? a=cq (js "list" #[] e1):=(ML _ _ ar).trans na;refine Mo ⟨rfl,N,bi,U.push v,T,Cb I3 J L bn bv (λv z=>by cases z) (λv z=>by cases z),r.trans M,g++[vv],?_,?_⟩
  ·rw[Array.toList_push];exact B.append<|.cons bg .nil
  ·have W:ps.take (j+1)=ps.take j++[ps[j]]:=by rw[List.take_add_one,hp];simp
   rw[W];unfold Va at Z ⊢;rw[Nx];exact(Z.mono M.s0).append (d8.cons r2 d8.nil)
 case done=>
  rintro s' ⟨l,m,U,e,Y,r,g,B,Z⟩;rw[Og,<-aq,List.take_length]at Z;obtain⟨n,R,_⟩:=Y.pin (kS,js "list" U e) (MH _ (MH _ (.head _)));obtain⟨na,S,_⟩:=Y.pin (a,js "list" #[] e1) (MH _ (MH _ (.tail _ (.head _))));have b3:=Bw Y;have J:Zg X pins l kS:=⟨R,fk.2⟩;have L:Zg X pins l a:=⟨S,fa.2⟩
  try dsimp only
  refine Mi<|listItems_at n rfl ?_;have l1:=B.length;have l2:=Z.length;simp only[Va,MN]at l2;have W:U=U.toList.toArray:=by simp
  rw[W]at n ⊢;refine uW n na ar ⋯ aq b7 (λi hi=>?_) λh' c hsz kp hA=>?_
  ·have c0:i<ps.length:=⋯
   obtain⟨y,ey,ry⟩:=Z.get (i:=i) (d:=.tup [.int (ps.getD i (0,0)).1,.int (ps.getD i (0,0)).2]) (by unfold Va;simp[c0]);obtain⟨u,hu,ru⟩:=B.get ey;have:U.toList[i]=u:=by rw[Mp hi]at hu;exact Nz hu
   rw[this];exact sH b3 r.sub ry ru
  ·have t:=b3.A2 (h':=h') (t':=s'.toks) (fp:=[a,kS]) (λb o O q=>kp b o (λz=>O<|by rw[z];simp) (λz=>O<|by rw[z];simp) q) (λb O=>by
    rcases Mr.mp O with rfl|O
    ·exact L
    ·rw[Pj.mp O];exact J)
   exact h _ l m c t r hA L
end
def uD:Res->Option (Int×Int)
 | .val d=>match d with
  |.tup a=>match a with
   |[x,y]=>(n5 x).bind λi=>(n5 y).map λj=>(i,j)
   |_=>da
  |_=>da
 |.own _=>da
def Vv(F:List D->Option Res):List D->Option (List<|Int×Int)
 |[]=>cq []
 |d::r=>((F [d]).bind uD).bind λp=>(Vv F r).map λl=>p::l
def fO(F:List D->Option Res)(f:CO (Sk×List D)):CO (List D):=λd=>(f d).bind λa=>match a.1 with
 |.L=>(Vv F a.2).bind λb=>if a.2.length<64 then cq ((yJ b).map λi=>a.2.getD i .ej)else da
 |_=>da
theorem YJ(I:ft xs vs):∀(o:List Nat),(∀i∈o,i<xs.length)->ft (o.map λi=>xs.getD i .ej) (o.map λi=>vs.getD i NI)
 |[],_=>.nil
 |i::o,h=>by have a:=h i MS;refine .cons ?_ (YJ I o λj O=>h j<|MO _ O);obtain⟨v,U,g2⟩:=I.get (i:=i) (x:=xs[i])<|Mp a;show RelV (xs.getD i V.ej) (vs.getD i NI);rw[Mz,Mz,Mp a,U];exact g2
section
variable{X:Cx}{pins:UQ}{σ:St}{F:List D->Option Res}{k:Nat}{f:dt}{fd:q7}{pr:List Str}
theorem dE
 (G:q5 X.prog X.w X.K X.mg X.base sa k f fd pr (t9 X.K pr.length F)) (h1:pr.length=1) (hr:m5 (k+1+1) X.A) (O:Binds X.K fd pr [])
 (I:Inv X pins σ H s) (sub:gm H0 H) (hl:s.heap.IsList l vs.toArray) (Y:ft xs vs) (rd:d8 X.K H0 ds xs) (a1:ps.length=vs.length) (a8:vs.length<64)
 (hF:∀(i:Nat) d p,ds[i]? = cq d->ps[i]? = cq p->F [d]=cq (.val<|.tup [.int p.1,.int p.2]))
 (h:∀s' H' i4 D,H D=da->H' D=da->Ext H0 H i4 H'->Inv X pins σ (upd H' D<|.lst<|(yJ ps).map λi=>xs.getD i .ej) s'->Q (.ref D) s'):
 wpAny (ef X.prog X.w) X.A (call (.builtin "sorted") [.ref l] [(MU "key",.ref f)]) Q E s:=by
 have T:=Y.length;have e:vs.length<=fh:=by rw[OJ];lia
 refine call_function_entry_kw kind_sorted plain_sorted entry_sorted (ksk_s1 _ _) ?_;unfold Builtin.«sorted»;refine Mi (m:=checkCount "sorted" 1 1 _) (Mo ?_);refine Mi (collect_list hl ?_ e);refine Mi (wpAny_newList ?_ e);have a:((s.heap.push (js "list" #[] 0)).update s.heap.objs.size (Nt (· ++ vs.toArray))).objs.size=s.heap.objs.size+1:=by rw[SI,X']
 have U:(((s.heap.push (js "list" #[] 0)).update s.heap.objs.size (Nt (· ++ vs.toArray))).push (js "list" vs.toArray 0)).get? (s.heap.objs.size+1)=cq (js "list" vs.toArray 0):=by rw[<-a];exact My _ rfl
 have keep b o:s.heap.get? b=cq o->(((s.heap.push (js "list" #[] 0)).update s.heap.objs.size (Nt (· ++ vs.toArray))).push (js "list" vs.toArray 0)).get? b=cq o:=λq=>by have Z:b<s.heap.objs.size:=Mt q;rw[Heap.get?_push_ne _ _ _ (by rw[a];exact ME (NM Z)),RM _ _ _ _ (ME Z),Heap.get?_push_ne _ _ _ (ME Z)];exact q
 have j:(((s.heap.push (js "list" #[] 0)).update s.heap.objs.size (Nt (· ++ vs.toArray))).push (js "list" vs.toArray 0)).objs.size=s.heap.objs.size+2:=by rw[X',a]
 show wpAny _ _ _ _ _ {s with heap:=((s.heap.push (js "list" #[] 0)).update s.heap.objs.size (Nt (· ++ vs.toArray))).push (js "list" vs.toArray 0)};rw[a];generalize ((s.heap.push (js "list" #[] 0)).update s.heap.objs.size (Nt (· ++ vs.toArray))).push (js "list" vs.toArray 0)=g at U keep j ⊢;have J:Inv X pins σ H {s with heap:=g}:=I.kept (t':=s.toks) keep;have u:Zg X pins H (s.heap.objs.size+1):=I.B6 (SF _) (I.eH.fresh (SF _));refine Mi (NA (wpAny_call_entry_kw slot_list_sort ⟨_,U,rfl⟩ entry_list_sort ?body (ksk_l1 _ _)))
 case body=>
  show wpAny (ef X.prog X.w) X.A.in1.in1 (Builtin.«list.sort» ⟨[.ref (s.heap.objs.size+1)],[(MU "key",.ref f)]⟩) _ _ _;rw[ksk_t1];unfold ksk_tree;refine Mi (listItems_at U rfl ?_);refine Mi (Ud U rfl ?_ (by rw[Ms];exact e) (NJ _));obtain⟨r,n⟩:∃r,(g.update (s.heap.objs.size+1) (Nt λ_=>(#[]:Array dy))).get? (s.heap.objs.size+1)=cq (js "list" #[] r):=⟨_,D' U λ_=>#[]⟩;refine Mi (seqEpoch_at n rfl ?_);refine Mi (R0 ?_ (by show vs.length<=_;exact e));refine Mi (wpAny_newList ?_ (NJ _));refine NA ?_;have y:=J.A2 (h':=g.update (s.heap.objs.size+1) (Nt λ_=>(#[]:Array dy))) (t':=s.toks) (fp:=[s.heap.objs.size+1]) (λb o O q=>(ML _ _ (λz=>O (by rw[z];exact List.mem_singleton_self _))).trans q) (λb O=>by rw[Pj.mp O];exact u);have B:=y.kept (h':=((g.update (s.heap.objs.size+1) (Nt λ_=>(#[]:Array dy))).push (js "tuple" vs.toArray 0)).push (js "list" #[] 0)) (t':=s.toks) (λb o q=>Mk _ (Mk _ q));have x:((g.update (s.heap.objs.size+1) (Nt λ_=>(#[]:Array dy))).push (js "tuple" vs.toArray 0)).objs.size=s.heap.objs.size+3:=by rw[X',SI,j]
  have N:Zg X pins H (s.heap.objs.size+3):=I.B6 (MF _ _) (I.eH.fresh (MF _ _));refine oi (A:=X.A.in1.in1) (ps:=ps) (xs:=xs) (ds:=ds) (H0:=H0) (H:=H) (s:={s with heap:=((g.update (s.heap.objs.size+1) (Nt λ_=>(#[]:Array dy))).push (js "tuple" vs.toArray 0)).push (js "list" #[] 0)}) (kS:=((g.update (s.heap.objs.size+1) (Nt λ_=>(#[]:Array dy))).push (js "tuple" vs.toArray 0)).objs.size)
   G h1 hr.in1.in1 I.B5.in1.in1.frames O B sub Y rd a1 a8 hF (My _ rfl) (Mk _<|Mk _ n) (by rw[x];exact λz=>absurd (Nat.add_left_cancel z) ⋯) (by rw[x];exact N) u λs' H' i4 c C S P t=>⟨_,rfl,?_⟩
  refine Mo ⟨_,rfl,h s' H' i4 _ (I.eH.fresh<|SF _) t.1 S<|iG C t ?_⟩;have L:∀i∈yJ ps,i<xs.length:=λi R=>by have:=(kR ps).mem_iff.mp R;have:=Mn.mp this;lia
  have M:((yJ ps).map λi=>xs.getD i V.ej).length=vs.length:=by rw[MN,(kR ps).length_eq,Od,a1]
  exact⟨by rw[M];exact e,(yJ ps).map λi=>vs.getD i NI,c,YJ Y _ L,P⟩
end
theorem Vu:∀{ds:List D} {ps:List (Int×Int)},Vv F ds=cq ps->ps.length=ds.length
 |[],ps,h=>by cases h;rfl
 |d::r,ps,h=>by obtain⟨p,_,I⟩:=zf h;obtain⟨l,O,U⟩:=zI I;subst U;simp[Vu O]
theorem cZ(h:uD r=cq p):r=.val (.tup [.int p.1,.int p.2]):=by
 unfold uD at h;split at h
 ·split at h
  ·split at h
   ·obtain⟨i,a,I⟩:=zf h
    obtain⟨j,O,U⟩:=zI I;subst U;rw[jW a,jW O]
   ·cases h
  ·cases h
 ·cases h
theorem bc:∀{ds:List D} {ps:List (Int×Int)},Vv F ds=cq ps->∀(i:Nat) d p,ds[i]? = cq d->ps[i]? = cq p->F [d]=cq (.val<|.tup [.int p.1,.int p.2])
 |[],ps,h,i,d,p,hd,hp=>by simp at hd
 | c::r,ps,h,i,d,p,hd,hp=>by
  obtain⟨q,b,I⟩:=zf h;obtain⟨l,O,U⟩:=zI I;subst U;cases i with
  |zero=>
   simp at hd hp;subst hd hp;obtain⟨Z,a,Y⟩:=zf b;rw[a,cZ Y]
  |succ i=>exact bc O i d p (by simpa using hd) (by simpa using hp)
section
variable{X:Cx}{sc:gx}{N L:List Str}{k j:Nat}{e:eo}{fq:CO (Sk×List D)}{F:List D->Option Res}{x:Str}{p p2 pos p?:e8}
theorem nE(hf:fy X.prog X.w X.K X.mg X.base j x 1 F)(h:SX X sc N L k)(hj:j+1+1<=k)(c:kz sc "sorted" = cI)(z:X.mg "sorted" = da)(c2:kz sc x=cI)(hq:PQ X e fq)
 (hs:eJ [e] X.env=[(di,eh e X.env)]:=by rfl):
 PO X (.Call (.Name "sorted" p) [e] [⟨cq "key",.Name x p2,p?⟩] pos) (fO F fq):=by
 intro b s σ H Q I m;obtain⟨H0,γ,C,rc,O,q⟩:=m;obtain⟨⟨kk,ds⟩,E,O⟩:=zf O;obtain⟨J,fd,pr,W,G,S,hk,P⟩:=hf.ex;cases kk with
 |T=>cases O
 | L=>
  have O:((Vv F ds).bind λps=>if ds.length<64 then cq ((yJ ps).map λi=>ds.getD i .ej)else da)=cq C:=O;obtain⟨ps,t,O⟩:=zf O;by_cases y:ds.length<64
  ·rw[UJ y]at O
   cases O;refine Ob (xQ (u:=.builtin "sorted") I (h.gl c).1 z ⋯ (callWith_kw ?_ (by rw[hs];rfl) (by rw[hs];rfl)) ⋯ ⋯);refine fe ((jq hq qp hs) pos b s σ H (λvs f=>∃a xs U,vs=[.ref a]/\Ext H0 H U f/\gE X.K f a xs/\d8 X.K U ds xs) I ⟨H0,γ,.L,ds,rc,E,λa xs f U d g1 g2 Y=>⟨a,xs,U,rfl,d,g1,Y⟩⟩) λus A m=>?_;obtain⟨vs,f,l,rv,a,xs,U,rfl,d,g1,Y⟩:=m;obtain⟨u,rfl,ru⟩:=yU rv;cases ru;show wpAny _ _ (evalAll ((do let v<-eh (.Name x p2) X.env;E8 pos;pure v)::[])) _ _ A;refine wpAny_evalAll_cons (Mi (ve l (h.gl c2).1 S (Mi (Rr (Mo ?_))) (h.gl c2).2.2));refine wpAny_evalAll_nil ?_;obtain⟨n,r,pl,hz⟩:=l.list g1;have l1:=r.length;have l2:=Y.length;have l3:=Vu t;show wpAny _ _ (call (.builtin "sorted") [.ref a] [(MU "key",.ref J)]) _ _ A;refine dE (H0:=U) (ps:=ps) (xs:=xs) (ds:=ds) (vs:=n) (F:=F) G W (h.room.mono hj) P l d.sub pl.isList r Y ⋯ ⋯ (bc t) λs' H' g D M o Z B=>?_;refine⟨.ref D,_,B,rfl,q D _ _ g (d.trans (Z.trans (Ext.hide Z.sub o _))) (yb d.s1 M) (jy Z.sub o) zF ?_⟩;refine Y1 (Y.mono Z.s0) _ λi R=>?_;have:=(kR ps).mem_iff.mp R;have:=Mn.mp this;lia
  ·rw[UY y]at O;cases O
end
section
variable{c:eo}{p:e8}
open Classical in
end
def JC(T:Tg)(G:CO Xn)(F:CO Fl):List D->CO Xn
 |[],_=>da
 | d::b,γ=>(kP T d γ).bind λa=>match G a with
  |some c=>cq c
  |none=>(F a).bind λO=>match O with
   |.next I=>JC T G F b I
   |.cont I=>JC T G F b I
   |_=>da
def Br(z:CO (List D))(T:Tg)(G:CO Xn)(F:CO Fl):CO Xn:=λa=>(z a).bind λb=>JC T G F b a
open Classical in
section
end
def Dt(e:eo):Str:=match e with|.Name x _=>x|_=>""
def C8(e:eo):List Str:=match e with|.Tuple a _ _=>a.map Dt|e=>[Dt e]
def DO(N:List Str)(fs:List Nat):List (Str×Nat):=fs.map λi=>(N.getD i "",i)
theorem Yl(N:List Str)(fs:List Nat):(DO N fs).map (·.2)=fs:=by unfold DO;rw[Nh];exact List.map_id fs
def rM(e:eo):Bool:=match e with|.Name _ _=>cI|_=>di
theorem dn{e:eo}(h:rM e=cI):∃p,e=.Name (Dt e) p:=by
 unfold rM at h;split at h
 ·exact⟨_,rfl⟩
 ·cases h
def IB(z:gx)(N L:List Str)(is:List Nat)(es:List eo):Bool:=match is with
 |[i,j]=>(match es with|[a,b]=>rM a&&(yk z N L i (Dt a)&&(rM b&&yk z N L j (Dt b)))|_=>di)
 |[i,j,l]=>(match es with|[a,b,c]=>rM a&&(yk z N L i (Dt a)&&(rM b&&(yk z N L j (Dt b)&&(rM c&&yk z N L l (Dt c)))))|_=>di)
 |_=>di
def O9(z:gx)(N L:List Str)(e:eo)(T:Tg):Bool:=match T with
 |.nm i=>rM e&&yk z N L i (Dt e)
 |.tp is=>(match e with|.Tuple a _ _=>IB z N L is a|_=>di)
theorem sL{X:Cx}{z:gx}{N L:List Str}{k:Nat}(h:SX X z N L k){e:eo}{T:Tg}(c:O9 z N L e T=cI):PG X e (t7 X.K T):=by
 cases T with
 |nm i=>
  have c:=Bool.and_eq_true_iff.mp c;obtain⟨p,q⟩:=dn c.1;rw[q];exact h.DW _ c.2
 | tp is=>
  unfold O9 at c;dsimp only at c;split at c
  ·next g j pos=>
   unfold IB at c;split at c
   ·split at c
    ·simp only[Mw]at c
     obtain⟨I,O,a,b⟩:=c;obtain⟨p,q⟩:=dn I;obtain⟨d,U⟩:=dn a;rw[q,U];exact h.YP<|va (h.DW _ O)<|va (h.DW _ b) WC
    ·cases c
   ·split at c
    ·simp only[Mw]at c
     obtain⟨I,O,a,b,Y,Z⟩:=c;obtain⟨p,q⟩:=dn I;obtain⟨d,U⟩:=dn a;obtain⟨l,f⟩:=dn Y;rw[q,U,f];exact h.YP<|va (h.DW _ O)<|va (h.DW _ b)<|va (h.DW _ Z) WC
    ·cases c
   ·cases c
  ·cases c
def cB(I scope:gx)(N:List Str)(z:eo)(T:Tg)(n:Nat)(fs:List Nat):Bool:=
 W3 I scope N (DO N fs)&&(GM (C8 z) scope (DO N fs)&&(decide (∀i∈T.idx,i<(C8 z).length)&&(decide ((C8 z).length=n)&&O9 (yX scope I) (C8 z++(DO N fs).map (·.1)) (C8 z) z T)))
abbrev DM(X:Cx)(scope:gx)(N:List Str)(tg:eo)(fs:List Nat):=jP X scope (C8 tg++(DO N fs).map (·.1))
abbrev SA(X:Cx)(sc scope:gx)(N:List Str)(tg:eo)(fs:List Nat)(k:Nat)(fp:List dt)(s2:d9)(H2:Hp):Prop:=SX (DM X scope N tg fs fp s2 H2) (yX scope sc) (C8 tg++(DO N fs).map (·.1)) (C8 tg) k
section
variable{X:Cx}{sc scope:gx}{N L:List Str}{k n i:Nat}{fs:List Nat}{T:Tg}{e elt tg iter H9:eo}{es:List eo}{pos p py spos cpos:e8}{x y:Str}{f:CO D}{fo:CO (List D)}{src gl:CO (List D)}{kk:CO Bool}
theorem cA(h:SX X sc N L k)(c:cB sc scope N tg T n fs=cI):vu X scope (DO N fs)/\(∀i∈T.idx,i<(C8 tg).length)/\(C8 tg).length=n/\(∀fp s2 z,SA X sc scope N tg fs k fp s2 z)/\∀fp s2 z,PG (DM X scope N tg fs fp s2 z) tg (t7 X.K T):=by unfold cB at c;simp only[Mw,decide_eq_true_eq]at c;obtain⟨I,O,U,Y,Z⟩:=c;have s fp s2 z:SA X sc scope N tg fs k fp s2 z:=h.comp O;exact⟨h.b? I,U,Y,s,λfp s2 z=>sL (s fp s2 z) Z⟩
theorem qX(h:SX X sc N L k)(Y:yr X tg iter src)(I:∀fp O z,SA X sc scope N tg fs k fp O z->PV (DM X scope N tg fs fp O z) elt f)(c:cB sc scope N tg T n fs=cI:=by decide +kernel)(hs:∀x,tf iter X.env x=pure x:=by intro _;rfl):
 PO X (.ListComp elt [⟨tg,iter,[],0⟩] scope pos) (zV src T n fs jO f):=by
 obtain⟨a,b,d,s,q⟩:=cA h c;have r:=uv (pos:=pos) h.calm a b Y q (λfp O z=>I fp O z<|s fp O z) hs;rw[d,Yl]at r;exact r
theorem gC(h:SX X sc N L k)(Z:yr X tg iter src)(I:∀fp Y z,SA X sc scope N tg fs k fp Y z->l5 (DM X scope N tg fs fp Y z) H9 kk)(O:∀fp Y z,SA X sc scope N tg fs k fp Y z->PV (DM X scope N tg fs fp Y z) elt f)(c:cB sc scope N tg T n fs=cI:=by decide +kernel)(hs:∀x,tf iter X.env x=pure x:=by intro _;rfl):
 PO X (.ListComp elt [⟨tg,iter,[H9],0⟩] scope pos) (zV src T n fs kk f):=by
 obtain⟨a,b,d,s,q⟩:=cA h c;have r:=gD (pos:=pos) h.calm a b Z q (λfp Y z=>I fp Y z<|s fp Y z) (λfp Y z=>O fp Y z<|s fp Y z) hs;rw[d,Yl]at r;exact r
theorem yE(h:SX X sc N L k)(Y:yr X tg iter src)(I:∀fp O z,SA X sc scope N tg fs k fp O z->PV (DM X scope N tg fs fp O z) elt f)(ct:yk sc N L i y=cI:=by decide +kernel)(c:cB sc scope N tg T n fs=cI:=by decide +kernel)(hs:∀x,tf iter X.env x=pure x:=by intro _;rfl):
 PS X (.Assign [.Name y py] (.ListComp elt [⟨tg,iter,[],0⟩] scope cpos) spos) (az (tO X.K<|zV src T n fs jO f)<|v7 i):=by
 obtain⟨a,b,d,s,q⟩:=cA h c;have r:=x? (cpos:=cpos) (spos:=spos) (py:=py) i h ct h.calm a b Y q (λfp O z=>I fp O z<|s fp O z) hs;rw[d,Yl]at r;exact r
theorem uo(h:SX X sc N L k)(Z:yr X tg iter src)(I:∀fp Y z,SA X sc scope N tg fs k fp Y z->l5 (DM X scope N tg fs fp Y z) H9 kk)(O:∀fp Y z,SA X sc scope N tg fs k fp Y z->PV (DM X scope N tg fs fp Y z) elt f)(ct:yk sc N L i y=cI:=by decide +kernel)(c:cB sc scope N tg T n fs=cI:=by decide +kernel)(hs:∀x,tf iter X.env x=pure x:=by intro _;rfl):
 PS X (.Assign [.Name y py] (.ListComp elt [⟨tg,iter,[H9],0⟩] scope cpos) spos) (az (tO X.K<|zV src T n fs kk f)<|v7 i):=by
 obtain⟨a,b,d,s,q⟩:=cA h c;have r:=GY (cpos:=cpos) (spos:=spos) (py:=py) i h ct h.calm a b Z q (λfp Y z=>I fp Y z<|s fp Y z) (λfp Y z=>O fp Y z<|s fp Y z) hs;rw[d,Yl]at r;exact r
theorem mn(h:SX X sc N L k)(c:kY sc N i x=cI:=by decide +kernel):PV X (.Name x pos) (zg i):=Cm i<|h.var c
theorem LI(h:SX X sc N L k)(c:kY sc N i x=cI:=by decide +kernel):PQ X (.Name x pos) (zm i):=Cw i<|h.var c
theorem Bh(h:SX X sc N L k)(c:O9 sc N L e T=cI:=by decide +kernel):PG X e (t7 X.K T):=sL h c
theorem GX(h:SX X sc N L k)(I:PV X e f)(c:yk sc N L i x=cI:=by decide +kernel)(hs:qq e (cq (.Name x py)) pos.line X.env=pure di:=by rfl):l0 X (.Assign [.Name x py] e pos) (jG i f):=uj i<|h.set i c I hs
theorem Cu(h:SX X sc N L k)(I:PO X e fo)(c:yk sc N L i x=cI:=by decide +kernel)(hs:qq e (cq (.Name x py)) pos.line X.env=pure di:=by rfl):l0 X (.Assign [.Name x py] e pos) (kB i fo):=nv i<|h.set i c I hs
theorem xo{z:List gB}{F:CO Fl}(hx:X.xe=λ_ _=>False)(h:SX X sc N L k)(O:i6 X tg iter src)(I:W8 X z F)(c:O9 sc N L tg T=cI:=by decide +kernel)(hs:∀x,tf iter X.env x=pure x:=by intro _;rfl):l0 X (.For tg iter z [] pos) (Zk src T F):=uk (CQ hx) h.calm O (sL h c) I hs
theorem zA(h:SX X sc N L k:=by assumption)(c:kY sc N i x=cI:=by decide +kernel):PV X (.Name x pos) (zg i):=mn h c
theorem zM(h:SX X sc N L k:=by assumption)(c:kY sc N i x=cI:=by decide +kernel):PQ X (.Name x pos) (zm i):=LI h c
theorem h7{i:Nat}{x:Str}{pos:e8}(h:SX X sc N L k:=by assumption)(c:kY sc N i x=cI:=by decide +kernel):sh X [.Name x pos] 1 (zb (zg i) zB):=za (mn h c) zo
theorem hH{i Y:Nat}{x I:Str}{pos z:e8}(h:SX X sc N L k:=by assumption)(c:kY sc N i x=cI:=by decide +kernel)(O:kY sc N Y I=cI:=by decide +kernel):sh X [.Name x pos,.Name I z] 2 (zb (zg i)<|zb (zg Y) zB):=za (mn h c)<|h7 h O
theorem m9{i Z i3:Nat}{x I x3:Str}{pos z O:e8}(h:SX X sc N L k:=by assumption)(c:kY sc N i x=cI:=by decide +kernel)(U:kY sc N Z I=cI:=by decide +kernel)(Y:kY sc N i3 x3=cI:=by decide +kernel):sh X [.Name x pos,.Name I z,.Name x3 O] 3 (zb (zg i)<|zb (zg Z)<|zb (zg i3) zB):=za (mn h c)<|hH h U Y
theorem zZ(I:PV X e f)(h:SX X sc N L k:=by assumption)(c:yk sc N L i x=cI:=by decide +kernel)(hs:qq e (cq (.Name x py)) pos.line X.env=pure di:=by rfl):l0 X (.Assign [.Name x py] e pos) (jG i f):=GX h I c hs
theorem xP(I:PO X e fo)(h:SX X sc N L k:=by assumption)(c:yk sc N L i x=cI:=by decide +kernel)(hs:qq e (cq (.Name x py)) pos.line X.env=pure di:=by rfl):l0 X (.Assign [.Name x py] e pos) (kB i fo):=Cu h I c hs
variable{j:Nat}{F:List D->Option Res}
theorem zL(Y:fy X.prog X.w X.K X.mg X.base j x n F)(z:sh X (e::es) n gl)(h:SX X sc N L k:=by assumption)(I:j<=k:=by decide)(c:kz sc x=cI:=by decide +kernel)
 (O:eJ (e::es) X.env=(di,eh e X.env)::eJ es X.env:=by rfl) (U:(n0 pos<|starEach es X.env).any (·.1)=di:=by rfl):PV X (.Call (.Name x p) (e::es) [] pos) (zD F gl):=GV Y I h c z O U
theorem qI(Y:fy X.prog X.w X.K X.mg X.base j x n F)(z:sh X (e::es) n gl)(h:SX X sc N L k:=by assumption)(I:j<=k:=by decide)(c:kz sc x=cI:=by decide +kernel)
 (O:eJ (e::es) X.env=(di,eh e X.env)::eJ es X.env:=by rfl) (U:(n0 pos<|starEach es X.env).any (·.1)=di:=by rfl):PO X (.Call (.Name x p) (e::es) [] pos) (jf F gl):=Ha Y I h c z O U
end
theorem qP{P:f9}{w:f6}{K:Mj}{z:UZ}{base:et}{Q:Mj->(Str->Option dy)->Prop}{x:Str}{st:gB}{N ps:List Str}{k:Nat}{F:CO Fl}(E:Q K z)(A:∀{K:Mj} {z:UZ},Q K z->fA K z x st ps)(Z:X9 N ps st=cI)
 (I:∀X:Cx,Q X.K X.mg->SX X (z9 st) N N k->X.xe=(λ_ _=>False)->W8 X (qF st) F):fy P w K z base (k+1) x ps.length (jv N.length F):=
 LQ (A E) Z λX O d U b Y a e=>by subst O d U b Y;exact I X E a e
def tJ(g:CO (Sk×List D))(z:CO D):CO D:=λb=>(g b).bind λa=>(z b).bind λx=>match a.1 with
 |.L=>if (l8 x=cI/\qi a.2=cI)/\a.2.length<=lim then (a.2.findIdx? λd=>jn d x).map λ(j:Nat)=>D.int (j:Int)else da
 |.T=>da
def GR(K:Mj):V->List V->Hp->VK->Prop:=λx g H Q=>∃b e v p f a j,gm b H/\x=.ref p/\g=[v]/\Rep K b e v/\gE K H p f/\d8 K b a f/\l8 e=cI/\qi a=cI/\a.length<=lim/\a.findIdx? (λd=>jn d e)=cq j/\Q (.int (j:Nat)) H
theorem VJ{x:D}(hx:i9 x=cI):∀ds:List D,qi ds=cI->(n7 ds).findIdx? (λy=>Pf y<|kr x)=ds.findIdx? λd=>jn d x
 |[],_=>by simp[n7]
 |d::ds,h=>by simp only[qi,Mw]at h;simp only[n7,List.findIdx?_cons];rw[S2 d x h.1 hx,VJ hx ds h.2]
theorem uR{X:Cx}(hu:X.A.units+66<Dj):M9 X "list.index" (GR X.K):=by
 intro k s σ H x vs v us Q I W T h;obtain⟨H0,d,y,p,xs,f,j,sub,rfl,rfl,N,G,P,O,U,ax,E,q⟩:=h;cases W;obtain⟨w1,rfl,rw⟩:=yU T;obtain⟨as,R⟩:=L5 I sub (ya O) N rw;obtain⟨bs,S⟩:=cP I sub G P U;have hs:=PySem.SeqAt.depth_of_shaped<|vM O;have Y:=S6 f U;cases S with
 | list i B C Z=>
  rename_i L b n b4
  obtain⟨oc,M,b5,g⟩:=L;subst B C;have e:b.toList.findIdx? (λy=>Pf (PySem.SeqAt.readOf s.heap y)<|kr d)=cq j:=by rw[<-E,<-VJ (ya O) f U,<-PySem.SeqAt.readsAll_map _ _ _ Y Z,List.findIdx?_map];rfl
  rw[List.findIdx?_eq_some_iff_getElem]at e;obtain⟨o,r,u⟩:=e;have z:j<b.size:=by simpa using o
  have b2:b.size=f.length:=by
   have:=congrArg Sy<|PySem.SeqAt.readsAll_map _ _ _ Y Z;have t:∀l:List D,(n7 l).length=l.length:=λl=>by induction l with
    |nil=>simp[n7]
    |cons a l J=>simp[n7,J]
   simpa[t]using this
  have b3:(lim:Int)<2^62:=by unfold lim;decide
  refine Pn F.slot_list_index ⟨_,i,rfl⟩ F.entry_list_index (F.args_list_index_2 _ _) (PySem.SeqAt.list_indexAt p b n M g w1 (λy=>Pf (PySem.SeqAt.readOf s.heap y)<|kr d) j z ⋯ (by simpa using r)<|λm hm w=>by simpa using u m w) ⟨i,PySem.SeqAt.items_eqAt Z R Y (U0 d<|ya O) ?_,?_⟩
  ·have:min (SK<|n7 f) (kr d).depth<=(kr d).depth:=Nat.min_le_right _ _
   lia
  ·exact⟨.int _,H,I.tok _,⟨_,rfl⟩,q⟩
section
variable{X:Cx}{sc:gx}{N L:List Str}{k:Nat}{o e:eo}{apos cpos:e8}{fa:CO D}{g:CO (Sk×List D)}
theorem ub(h:SX X sc N L k)(Z:PQ X o g)(he:PV X e fa)(z:DJ o "index" X.env (eh o X.env)=eh o X.env:=by rfl)
 (a3:((n0 cpos<|starEach [e] X.env).all (λx=> !x.1)&&(N5 cpos<|keywordEach [] X.env).all (λx=>x.1.isSome)&&decide ([e].length+([]:List A7).length+(if ([]:List A7).isEmpty then 0 else 1)<30))=cI:=by rfl)
 (a4:(apos.endLine==cpos.line)=cI:=by rfl) (hs:eJ [e] X.env=[(di,eh e X.env)]:=by rfl):PV X (.Call (.Attribute o "index" apos) [e] [] cpos) (tJ g fa):=
 qo (gM PM PySem.F.slot_list_index PySem.F.type_list_index (uR h.J?) Z (jq he qp hs) z a3 a4 hs rfl) λK H Q A=>by
  obtain⟨n,m,d,f,I,q⟩:=A;obtain⟨⟨B,a⟩,w,I⟩:=zf I;obtain⟨x,u,I⟩:=zf I;cases B with
  |T=>cases I
  | L=>
   have I:(if (l8 x=cI/\qi a=cI)/\a.length<=lim then (a.findIdx? λd=>jn d x).map λ(j:Nat)=>D.int (j:Int)else da)=cq d:=I;by_cases O:(l8 x=cI/\qi a=cI)/\a.length<=lim
   ·rw[UJ O]at I
    obtain⟨j,y,rfl⟩:=zI I;refine⟨n,m,.L,a,f,w,λp l G t i b J r=>⟨.inl ⟨rfl,l,b⟩,t,m,x,f.ext i,u,λE s Y U C=>?_⟩⟩;exact⟨Y,x,E,p,l,a,j,U.sub,rfl,rfl,C,U.s1.seq b,r.mono U.s0,O.1.1,O.1.2,O.2,y,q _ s Y (i.trans U) rfl⟩
   ·rw[UY O]at I;cases I
end
def fN(e j:Nat)(F:CO Fl)(G:CO Xn):CO Fl:=λa=>match G a with
 |some c=>cq (.next<|(a.set j<|.val<|.exc c.1 c.2).set e .no)
 |none=>F a
section
variable{X:Cx}{sc:gx}{N L:List Str}{k:Nat}{e:eo}{es:List eo}{g:CO (List D)}{G G':CO Xn}
def N1(X:Cx)(z:List gB)(G:CO Xn):Prop:=∀(a:UQ) (s:d9) (b:St) (H I O d:Hp) (e:Ctx) (c:Xn),Inv X a b H s->RS X.K I O d H b e->G e=cq c->
 wpAny (ef X.prog X.w) X.A (execs z X.env) (λ_ _=>False) (Bp X a b d H c) s
theorem aP{y fx:Str}{py fp cpos apos:e8}{n j:Nat}{G:List D->Option Xn}(h:SX X sc N L k)(O:kz sc fx=cI)(hx:rp X.prog X.w X.K X.mg X.base j fx n G)(U:j<=k)(ha:sh X.ly (e::es) n g)
 (Y:eJ (e::es) X.env=(di,eh e X.env)::eJ es X.env:=by rfl) (Z:(n0 cpos<|starEach es X.env).any (·.1)=di:=by rfl)
 (a1:qq (.Call (.Name fx fp) (e::es) [] cpos) (cq (.Name y py)) apos.line X.env=pure di:=by rfl):
 N1 X [.Assign [.Name y py] (.Call (.Name fx fp) (e::es) [] cpos) apos] (j4 G g):=λa s u H i l m t c I f eq=>by
 obtain⟨o,b,d⟩:=zf eq;exact OT<|Uj (MG (VM hx U h O ha I f.rc b d Y Z) (λ_ _ z=>z.elim) λp r z=>z) a1
theorem uF{kk:CO Bool}{c:eo}{x y:List gB}{pos:e8}(hc:l5 X.ly c kk)(ha:N1 X x G)(hb:N1 X y G'):N1 X [.If c x y pos] (ni kk G G'):=λa s f H m n g l O I Y e=>by
 obtain⟨t,F,U⟩:=zf e;refine OT<|MG (wpAny_If (Q:=λ_ _=>False) (E:=Bp X a f g H O)<|MG (hc a s f H (λb o=>b=t/\∃d,Ext g H d o) (I.iw _) ⟨g,l,t,Y.rc,F,λo d x=>⟨rfl,d,x⟩⟩) (λb r z=>?_) λ_ _ z=>z.elim) (λ_ _ z=>z.elim) λ_ _ z=>z;obtain⟨h,p,rfl,Z,k⟩:=z;have u:∀i j,Bp X a f Z h O i j->Bp X a f g H O i j:=λi j ⟨w,B,J,A,K,C⟩=>⟨w,B,J,A,k.trans K,C⟩;cases b with
 |true=>rw[UJ rfl]at U;exact MG (ha a r f h m n Z l O p.qs (Y.step k) U) (λ_ _ z=>z) u
 |false=>rw[UY MJ]at U;exact MG (hb a r f h m n Z l O p.qs (Y.step k) U) (λ_ _ z=>z) u
theorem nu(U Y:Nat){st:gB}{nx Z:Str}{np pz pn a3 a8 lC:e8}{F:CO Fl}(a9:U≠Y)(h:SX X sc N L k)(ac:X.stack=X.env::X.outer/\X.env.frame=cq X.env.locals)
 (ad:kz sc "SplitError" = cI) (cn:yk sc N L U nx=cI) (cl:decide (sc.names.lookup nx=cq .local)=cI) (cv:kY sc N U nx=cI) (cz:yk sc N L Y Z=cI) (x:XS X.K X.mg)
 (hF:l0 X.ly st F) (hG:N1 X [st] G)
 (hs:qq (.Name nx pn) (cq (.Name Z pz)) a3.line X.env=pure di:=by rfl):
 l0 X (.Try [st] [.ExceptHandler (cq (.Name "SplitError" np)) (cq nx) [.Assign [.Name Z pz] (.Name nx pn) a3] a8] [] [] lC) (fN U Y F G):=by
 intro a s l H D I ⟨e,f,g,d,j,b,O,i⟩;refine wpAny_Try_except ?_;unfold fN at O;cases q:G d with
 |some m=>
  rw[q]at O;cases O;refine MG (hG a s l H e f g d m I b q) (λ_ _ z=>z.elim) λn o z=>?_;exact pj h ac x ad cn cl cv cz a9 b z i hs
 |none=>
  rw[q]at O;refine MG (zk hF a s l H D (I.iw _) ⟨e,f,g,d,_,b,O,i⟩) (λj p z=>?_) λ_ _ z=>z.elim;have z:=z.qs;cases j with
  |next=>exact To z
  |ret v=>exact z
  |brk=>exact z
  |cont=>exact z
end
def tH(i:Nat):CO Fl:=λb=>(qh b[i]?).bind λa=>if a=[]then da else cq (.next<|b.set i<|.own a.dropLast)
theorem AW(i:Nat)(γ:Ctx):tH i γ=(qh γ[i]?).bind λds=>if ds=[]then da else cq (.next<|γ.set i<|.own ds.dropLast):=rfl
section
variable{X:Cx}{sc:gx}{N L:List Str}{k:Nat}
theorem ny(i:Nat){x:Str}{z cpos np pos:e8}(h:SX X sc N L k)(c:kY sc N i x=cI)
 (Z:DJ (.Name x np) "pop" X.env (eh (.Name x np) X.env)=eh (.Name x np) X.env:=by rfl) (a1:(z.endLine==cpos.line)=cI:=by rfl)
 (a2:qq (.Call (.Attribute (.Name x np) "pop" z) [] [] cpos) da pos.line X.env=pure di:=by rfl):
 l0 X (.Expr (.Call (.Attribute (.Name x np) "pop" z) [] [] cpos) pos) (tH i):=
 yZ (KY (CM PM PySem.F.slot_list_pop PySem.F.type_list_pop El (h.var c) Z a1) a2) λD t H l=>by
  obtain⟨E0,E,g,s,o,O,I,j⟩:=l;obtain⟨d,b,I⟩:=zf I;have b:=xp b;by_cases e:d=[]
  ·rw[UJ e]at I;cases I
  rw[UY e]at I;cases I;obtain⟨a,xs,f,p,U,Y⟩:=O.rc.own i d b;have r:0<d.length:=List.length_pos_iff.mpr e;have n:=Y.length;have m:xs[xs.length-1]? = cq (xs[xs.length-1]'⋯):=Mp _;exact⟨_,f,.inl ⟨rfl,_,gE.of U⟩,a,xs,_,rfl,rfl,U,m,j _ _ g<|O.rewrite (xs:=xs) b f Y.dropLast⟩
end
section
variable{X:Cx}{sc:gx}{N L:List Str}{k j n:Nat}{e b:eo}{es:List eo}{g:CO (List D)}{G:List D->Option Xn}{x:Str}{p pos:e8}
theorem tX{spos U:e8}{Y:Operator}(hf:rp X.prog X.w X.K X.mg X.base j x n G)(Z:j<=k)(h:SX X.ly sc N L k)(c:kz sc x=cI)(ha:sh X.ly (e::es) n g)
 (he:eJ (e::es) X.env=(di,eh e X.env)::eJ es X.env:=by rfl) (a2:(n0 pos<|starEach es X.env).any (·.1)=di:=by rfl):
 Px X (.Return (cq (.BinOp (.Call (.Name x p) (e::es) [] pos) Y b U)) spos) (j4 G g):=λa s A H B C E M F I O eq w=>by
 obtain⟨J,m,o⟩:=zf eq;refine Ui<|wpAny_BinOp<|MG (VM hf Z (⟨h.wo,h.eN,h.nd,h.calm,h.room,h.fn⟩:SX X sc N L k) c ha I O.rc m o he a2) (λ_ _ z=>z.elim) λr t z=>?_;obtain⟨d,i,u,f,y,l⟩:=z;exact w.2.1 a A d i u r t f (O.ext.trans y) l
end
def UB(X:Cx)(I O:Hp)(c:Xn):Prop:=XW X I O c/\∀a,PassesOwnAt (ef X.prog X.w) (X.A.mark a) X.A X.env X.xe
def P9(X:Cx)(st:gB)(G:CO Xn):Prop:=∀(a:UQ) (s:d9) (d:St) (H I O e:Hp) (b:Ctx) (c:Xn),Inv X a d H s->RS X.K I O e H d b->G b=cq c->UB X I O c->
 wpAny (ef X.prog X.w) X.A (exec st X.env) (λ_ _=>False) X.xe s
def Be(X:Cx)(z:List gB)(G:CO Xn):Prop:=∀(a:UQ) (s:d9) (d:St) (H I O e:Hp) (b:Ctx) (c:Xn),Inv X a d H s->RS X.K I O e H d b->G b=cq c->UB X I O c->
 wpAny (ef X.prog X.w) X.A (execs z X.env) (λ_ _=>False) X.xe s
section
variable{X:Cx}{st:gB}{rest:List gB}{G G':CO Xn}{F:CO Fl}
theorem fZ(h:Px X st G):P9 X st G:=λa s f H O U b d c I Y e w=>h a s f H O U b d c I Y e w.1
theorem tP{z:List gB}(h:DH X z G):Be X z G:=λa s f H O U b d c I Y e w=>h a s f H O U b d c I Y e w.1
theorem aH(h:P9 X st G):Be X (st::rest) G:=λa s f H O U b d c I Y e w=>
 OT (MG (h a s f H O U b d c I Y e w) (λ_ _ z=>z.elim) λ_ _ z=>z)
theorem QN(h1:P9 X st G)(h2:l0 X.ly st F)(h3:Be X rest G'):Be X (st::rest) (XN G F G'):=λb s l H O U j i c I k e w=>by
 unfold XN at e;cases q:G i with
 |some r=>
  rw[q]at e;cases e;exact aH h1 b s l H O U j i c I k q w
 | none=>
  rw[q]at e;obtain⟨o,n,Y⟩:=zf e;cases o with
  | next d=>
   have Y:G' d=cq c:=Y;refine OT<|MG (h2 b s l H {nx:=λZ g=>∃a,RS X.K O U a g Z d,rt:=λ_ _=>False} (I.iw _) ⟨O,U,j,i,.next d,k,n,λZ g a h=>⟨a,h⟩⟩) (λf p z=>?_) λ_ _ z=>z.elim;cases f with
   |next=>
    obtain⟨Z,g,m,a,h⟩:=z;exact h3 b p Z g O U a d c m.qs h Y w
   |ret v=>obtain⟨_,_,_,_,_,z⟩:=z;exact z.elim
   |brk=>obtain⟨_,_,_,z⟩:=z;exact z.elim
   |cont=>obtain⟨_,_,_,z⟩:=z;exact z.elim
  |_=>cases Y
end
theorem Hw{P:f9}{w:f6}{K:Mj}{mg:UZ}{base:et}{x:Str}{st:gB}{N ps:List Str}{k:Nat}{G:CO Xn}(A:fA K mg x st ps)(hd:X9 N ps st=cI)
 (a8:∀X:Cx,X.prog=P->X.w=w->X.K=K->X.mg=mg->X.base=base->SX X (z9 st) N N k->(X.stack=X.env::X.outer/\X.env.frame=cq X.env.locals)->Be X (qF st) G):rp P w K mg base (k+1) x ps.length (JX N.length G):=by
 obtain⟨f,fd,B,hb,hm⟩:=A.ex;have S:=wF hd;have b2:ps.length<=N.length:=by have:=congrArg Sy S.pre;rw[Pg]at this;lia
 refine⟨f,fd,ps,rfl,?_,hm,B.kp,.all hb⟩;obtain⟨oc,M,kV,doc,pm,an,Ht,ct,DQ,rfl,lk,W⟩:=B.ex;refine Ap lk W S (O6.len rfl) λA outer s H vs Q E hr ak=>⟨λ_ T g=>T=QE N vs/\g=H,λh s1 T J D I n=>?_,rfl,rfl⟩;obtain⟨rfl,rfl⟩:=n;obtain⟨F,ds,c,s0,h1,h2,h3,Z⟩:=ak;refine MG (a8 _ rfl rfl rfl rfl rfl ⟨rfl,rfl,S.nd,rfl,hr,λ_ _=>.inl rfl⟩ ⟨rfl,rfl⟩ h s1 _ J F J F (zN N.length ds) c I (KS s0 h1 ⋯) h3 ⟨⟨λL i j O R h' a C us U Y p u r y m=>?_,λL i j O R e s' U Y m=>?_,λL i j O R a C d t φ U y1 y2 y3 Y p u r y=>?_⟩,λhd=>PassesOwnAt.leaving⟩) (λ_ _ z=>z.elim) λ_ _ z=>z
 ·exact Ks U m<|Z C j O da p u r (by unfold X3;rw[y]) Y
 ·refine Xf (E':=λl M g=>∃C b,l=.ref C/\YD K=cI/\c.1∈p9/\Zx K c.1=cq C/\X3 c M b/\Ext O j b g) U m λcc o g z=>?_
  obtain⟨C,b,rfl,z1,z2,z3,z4,z5⟩:=z;exact Z C g b o z1 z2 z3 z4<|Y.trans z5
 ·exact Kt U y1 y2 (y3 rfl)<|Z C _ O (cq d) p u r y Y
section
variable{X:Cx}{tg iter:eo}{body:List gB}{pos:e8}{src:CO (List D)}{T:Tg}{F:CO Fl}{G:CO Xn}
def H?(K:Mj)(O U:Hp)(G:CO Xn)(F:CO Fl)(c:Xn):TS:=λD d H=>(∃b a,RS K O U b H d a/\G a=cq c)\/∃E0 E b a I,RS K E0 E b H d a/\F a=cq I/\Sat K E0 E D I
theorem Ct{O U:Hp}{c:Xn}(hx:Be X body G)(Y:W8 X.ly body F)(w:UB X O U c):r0 X body (H? X.K O U G F c):=by
 intro a s b H D I hz;rcases hz with⟨d,f,Z,e⟩|hz
 ·exact MG (hx a s b H O U d f c I Z e w) (λ_ _ z=>z.elim) λ_ _ z=>z
 ·exact MG (Y a s b H D (I.iw _) hz) (λg h z=>z.qs) λ_ _ z=>z.elim
theorem tR(hc:X.calm=cI)(hi:i6 X tg iter src)(hg:PG X tg (t7 X.K T))(hx:Be X body G)(hb:W8 X.ly body F)(hs:∀x,tf iter X.env x=pure x:=by intro _;rfl):P9 X (.For tg iter body [] pos) (Br src T G F):=λl s k H F0 p g b c I U eq w=>by
 obtain⟨a,e1,eq⟩:=zf eq;have hp:Uz (ef X.prog X.w) X.A X.env X.xe:=by have M:=w.2 da;have e:X.A.mark da=X.A:=rfl;rw[e]at M;exact M
 refine MG (rq (pos:=pos) hp hc hi hg (Ct hx hb w) hs l s k H {nx:=λ_ _=>False,rt:=λ_ _=>False} I ⟨g,b,a,U.rc,e1,λJ H1 Y x1 P=>?_⟩) (λfl s' z=>?_) λ_ _ z=>z
 ·have f:=U.step x1
  have L:=f.ext;refine⟨λi m k H=>m=a.length-i/\i<=a.length/\∃g b,RS X.K Y p g H k b/\JC T G F (a.drop i) b=cq c,⟨_,rfl,NJ _,Y,b,⟨f.rc,L.base,f.fresh,f.zl⟩,eq⟩,?_⟩;rintro i m k H ⟨rfl,hi,g,b,U,O⟩;have E:gm Y H:=U.ext.s0.trans U.ext.sub;have Z:i<a.length:=by
   rcases MQ i a.length with z|z
   ·exact z
   ·rw[Ro z]at O;cases O
  refine .inr ⟨P.go i H E Z,λk H=>i+1<=a.length/\∃g b,RS X.K Y p g H k b/\JC T G F (a.drop<|i+1) b=cq c,λe_ C n=>⟨a.length-(i+1),⋯,rfl,n.1,n.2⟩,λx C y=>?_⟩;obtain⟨d,N,hx⟩:=P.DB i H x C E Z y;obtain⟨B,Q,rg⟩:=hx g U.ext.s0 U.rc.sub;have S:a.drop i=d::a.drop (i+1):=by
   have W:d=a[i]:=by rw[Mp Z]at N;exact(Nz N).symm
   rw[W];exact OQ Z
  rw[S]at O;obtain⟨h,eb,O⟩:=zf (show(kP T d b).bind _=_ from O);refine ZT Q.sub rg eb λf' _ as=>?_;have o:=as Y p<|U.step Q;cases q:G h with
  |some c'=>
   rw[q]at O;cases O;exact .inl ⟨B,h,⟨o.rc,L.rebase o.ext,o.fresh,o.zl⟩,q⟩
  |none=>
   rw[q]at O;obtain⟨f1,eF,O⟩:=zf O;refine .inr ⟨Y,p,B,h,f1,o,eF,?_⟩;cases f1 with
   |next j=>exact λu R r t=>⟨Z,r,j,t,O⟩
   |cont j=>exact λu R r t=>⟨Z,r,j,t,O⟩
   |_=>cases O
 ·cases fl with
  |next=>obtain⟨_,_,_,z⟩:=z;exact z.elim
  |ret v=>obtain⟨_,_,_,_,_,z⟩:=z;exact z.elim
  |brk=>obtain⟨_,_,_,z⟩:=z;exact z.elim
  |cont=>obtain⟨_,_,_,z⟩:=z;exact z.elim
end
def j3:=jv 5<|zR (i8 (ZD (sB<|zG o7 (JP<|zm 0)<|sI 1)<|sB<|zG gw (zG wj (dj (zm 0)<|sI 0)<|sI 2)<|sI 1) (zR (jG 2<|dj (zm 0)<|zG jX (sI 1)<|zG wj (zg 1)<|zG dU (JP<|zm 0)<|sI 1)<|zR (Zk (jS<|fQ (sI 60)<|zG JI (zg 1)<|zG dU (JP<|zm 0)<|sI 1) (.nm 3)<|jG 2<|zG JI (zg 2)<|zG Ax (sI 10)<|sI 9)<|qV<|zG wj (zg 2)<|zG Ax (sI 10)<|sI 9) qD)<|zR (jG 4<|zg 1)<|zR (i8 (sB<|zG o7 (JP<|zm 0)<|sI 0) (jG 4<|dj (zm 0)<|zG wj (zg 1)<|JP<|zm 0) qD)<|qV<|zG wj (zG yS (zG wj (zG jX (zG jX (zG jX (zG yS (zG wj (zg 4)<|zG Ax (sI 10)<|sI 30)<|sI 48271)<|zG yS (zG yS (sI 7)<|zg 1)<|zg 1)<|zG yS (sI 13)<|zg 1)<|sI 5)<|sI 2147483647)<|sI 69621)<|sI 1000000007
def qM:=jv 5<|zR (jG 3<|jU<|zV (YE (dj (zm 0)<|sI 2)<|dj (zm 2)<|sI 2) (.tp [0,1]) 2 [] jO (zG jX (zg 0)<|zg 1))<|zR (jG 4<|jU<|zV (zY<|zC<|dj (zm 1)<|sI 2) (.nm 0) 1 [0] jO (zG jX (zG yS (qC<|zb (sI 0) zB)<|dj (zm 1)<|sI 1)<|zg 0))<|qV<|qC<|zb (zG jX (dj (zm 0)<|sI 0)<|dj (zm 1)<|sI 0)<|zb (zG jX (dj (zm 0)<|sI 1)<|dj (zm 1)<|sI 1)<|zb (zX<|zC<|jU<|Jh (zm 3)<|zm 4) zB
def ku:=jv 3 (zR (i8 (sB (zG gw (dj (zm 1) (sI 0)) (dj (zm 2) (sI 0)))) (qV (qv (.bl cI))) qD) (qV (zG gw (xA (zg 0) (zG dU (cK (dj (zm 1) (sI 0)) (dj (zm 2) (sI 0))) (sI 1))) (cM (sB (zG DN (dj (zm 1) (sI 0)) (dj (zm 2) (sI 0)))) (qv (.str "l")) (qv (.str "r"))))))
def xH:=jv 3 (zR (i8 (sB (zG gw (dj (zm 1) (sI 1)) (dj (zm 2) (sI 1)))) (qV (qv (.bl cI))) qD) (qV (zG gw (xA (zg 0) (fQ (dj (zm 1) (sI 1)) (dj (zm 2) (sI 1)))) (cM (sB (zG o7 (dj (zm 1) (sI 1)) (dj (zm 2) (sI 1)))) (qv (.str "r")) (qv (.str "l"))))))
def kX:=jv 3<|zR (i8 (sB<|zG o7 (cK (dj (zm 1)<|sI 0)<|dj (zm 2)<|sI 0)<|fQ (dj (zm 1)<|sI 1)<|dj (zm 2)<|sI 1) (qV<|sI 0) qD)<|qV<|cM (ZD (sB<|zD ku<|zb (zg 0)<|zb (zg 1)<|zb (zg 2) zB)<|sB<|zD xH<|zb (zg 0)<|zb (zg 1)<|zb (zg 2) zB) (sI 1)<|sI 0
def xv:=jv 2 (zR (i8 (sB (zG gw (xA (zg 0) (zg 1)) (qv (.str "r")))) (qV (qC (zb (zg 1) (zb (zG jX (zg 1) (sI 1)) zB)))) qD) (qV (qC (zb (zG jX (zg 1) (sI 1)) (zb (zg 1) zB)))))
def kf:=jv 2 (qV (fS (qv (.str "")) (jH (zV (jS (zG dU (zg 1) (sI 1))) (.nm 0) 1 [0] jO (xA (qv (.str "rl")) (zG wj (zG JI (zg 1) (dj (jH (jL (zb (sI 1) (zb (sI 2) (zb (sI 4) (zb (sI 8) (zb (sI 16) zB))))))) (zg 0))) (sI 2)))))))
def qB:=jv 1<|i8 (sB<|zG o7 (eD<|zm 0)<|sI 30) QK qD
def jZ:=jv 3<|zR (jG 2<|zX<|jH<|zV (YE (dj (zm 0)<|sI 1)<|dj (zm 1)<|sI 1) (.tp [0,1]) 2 [] jO (zG jX (zg 0)<|zg 1))<|zR (Jg<|zD qB<|zb (zg 2) zB)<|JO 2
def YB:=jv 5<|zR (jG 3<|zD jZ<|zb (zg 0)<|zb (zg 1) zB)<|zR (jG 4<|jU<|zV (tG (dj (zm 0)<|sI 2) (dj (zm 1)<|sI 2)<|zg 2) (.tp [0,1,2]) 3 [] jO (qC<|zb (dj (zm 0)<|sI 0)<|zb (zD qM<|zb (dj (zm 0)<|sI 1)<|zb (dj (zm 1)<|sI 1)<|zb (zg 2) zB) zB))<|qV<|qC<|zb (dj (zm 0)<|sI 0)<|zb (zg 3)<|zb (zX<|zm 4) zB
def jF:=jv 3<|zR (jG 2<|zD qL<|zb (zg 0) zB)<|yV<|zV (Y0<|zg 2) (.tp [0,1]) 2 [0,1] jO (qC<|zb (dj (zC<|dj (zm 3)<|sI 1)<|zD vw<|zb (zg 0)<|zb (zg 1) zB)<|zb (dj (zC<|dj (zm 2)<|sI 1)<|zD qj<|zb (zg 0)<|zb (zg 1) zB) zB)
def yR:=jv 2<|qV<|tK (DT .tuple<|zg 1)<|zG gw (aC (zg 1) Wp<|ro<|sI 2)<|zg 0
def F7:CO Bool:=pS (sB<|zG D6 (zg 4)<|JP<|zm 2)<|QJ<|sB<|zD yR<|zb (zg 5)<|zb (dj (zm 2)<|zg 4) zB
def AM:=(i8 F7 QK qD)
def ka:=jv 6<|zR (Jg<|zD jN<|zb (zg 0)<|zb (zg 1) zB)<|zR (jG 3<|jU<|jf jF<|zb (zg 1)<|zb (zg 0) zB)<|zR (Zk (ZC<|zg 3) (.tp [4,5]) AM)<|i8 (sB<|zG o7 (JP<|zm 2)<|JP<|zm 3) QK qD
def Zw:=jv 3<|zR (Jg<|zD ka<|zb (zg 0)<|zb (zg 1)<|zb (zg 2) zB)<|qV<|zD YB<|zb (zg 0)<|zb (zg 1)<|zb (zg 2) zB
def EI:=(zR (KP (.tp [7,8])<|zD xv<|zb (zg 1)<|zb (zg 6) zB)<|zR (jG 9<|zX<|jH<|zV (zY<|zC<|dj (zm 4)<|zg 6) (.nm 0) 1 [] jO (zX<|zm 0))<|yC 5<|qC<|zb (xA (zg 1)<|zg 6)<|zb (qC<|zb (dj (zm 3)<|zg 8)<|zb (dj (zm 3)<|zg 7)<|zb (zg 9) zB) zB)
def jQ:=jv 10<|zR (KP (.tp [3,4])<|zg 2)<|zR (kB 5<|jL zB)<|zR (Zk (jS<|vE<|zg 1) (.nm 6) EI)<|qV<|qC<|zb (zg 0)<|zb (zX<|zm 3)<|zb (zX<|zm 5) zB
def jY:List D->Option Xn:=JX 1 (ni (sB (zG o7 (eD (zm 0)) (sI 30))) (Bg "TooMany") vr)
def ji:List D->Option Xn:=JX 3<|XN vr (jG 2<|zX<|jH<|zV (YE (dj (zm 0)<|sI 1)<|dj (zm 1)<|sI 1) (.tp [0,1]) 2 [] jO (zG jX (zg 0)<|zg 1))<|j4 jY<|zb (zg 2) zB
def Yx:List D->Option Xn:=JX 5<|j4 ji<|zb (zg 0)<|zb (zg 1) zB
def ko:=jv 2<|yV<|fR (dj (zm 1)<|sI 1)<|dj (zm 0)<|sI 1
def qN:=jv 1<|qV<|eD<|jH<|zV (zY<|zm 0) (.tp [0,1]) 2 [] jO (zG yS (zg 0)<|zg 1)
def yO:=jv 4<|zR (kB 1<|jL zB)<|zR (Zk (zY<|zC<|zg 0) (.nm 2)<|Zk (zY<|zC<|dj (zm 2)<|sI 2) (.nm 3)<|Wq 1<|zm 3)<|qV<|zX<|zm 1
def mh:=jv 3<|qV<|zD xM<|zb (zg 0)<|zb (zg 1)<|zb (mV<|sI 1)<|zb (zg 2) zB
def pB:=jv 8<|zR (jG 4<|dj (zm 0)<|sI 0)<|zR (jG 5<|dj (zC<|dj (zC<|dj (zm 0)<|sI 2)<|zg 3)<|sI 0)<|zR (jG 6<|zD wz<|zb (zg 4)<|zb (dj (zm 2)<|zD vw<|zb (zg 3)<|zb (zg 5) zB)<|zb (dj (zC<|dj (zC<|dj (zm 0)<|sI 2)<|zg 3)<|sI 1) zB)<|zR (jG 7<|zD wz<|zb (zg 4)<|zb (dj (zC<|dj (zC<|dj (zm 1)<|sI 2)<|zg 3)<|sI 1)<|zb (dj (zm 2)<|zD qj<|zb (zg 3)<|zb (zg 5) zB) zB)<|qV<|zD mh<|zb (zg 4)<|zb (zg 6)<|zb (zg 7) zB
def bM:=jv 3<|yV<|zV (jS<|JP<|zC<|dj (zm 0)<|sI 2) (.nm 0) 1 [0,1,2] jO (zD pB<|zb (zg 1)<|zb (zg 2)<|zb (zg 3)<|zb (zg 0) zB)
def Uq:=(zR (jG 6<|jU<|zV (jS<|zg 4) (.nm 0) 1 [1,3,5] jO (aC (zg 1) (ro<|zG jX (zg 2)<|zG yS (zg 0)<|zg 3)<|ro<|zG jX (zg 2)<|zG yS (zG jX (zg 0)<|sI 1)<|zg 3))<|zR (yC 2<|qC<|zb (zg 4)<|zb (zg 5)<|zb (zX<|zm 6) zB)<|jG 3<|zG jX (zg 3)<|zG yS (zg 4)<|zg 5)
def xj:=jv 7<|zR (kB 2<|jL zB)<|zR (jG 3<|sI 0)<|zR (Zk (zY<|zC<|zg 0) (.tp [4,5]) Uq)<|JO 2
def wB:=jv 5<|zR (jG 2<|jU<|jf ko<|zb (zg 0)<|zb (zg 1) zB)<|zR (jG 3<|zD qN<|zb (zg 2) zB)<|zR (jG 4<|jU<|zV (zY<|zC<|dj (zC<|zD qc<|zb (zg 3) zB)<|sI 2) (.nm 0) 1 [0,1,2] jO (zD yO<|zb (jU<|jf bM<|zb (zg 1)<|zb (zg 2)<|zb (jU<|jf xj<|zb (zg 3)<|zb (zg 0) zB) zB) zB))<|qV<|zD jE<|zb (qC<|zb (zg 3)<|zb (zD qN<|zb (jU<|jf jF<|zb (zg 0)<|zb (zg 1) zB) zB)<|zb (zX<|zm 4) zB) zB
def xY:=jv 5<|zR (jG 3<|zD jE<|zb (zg 1) zB)<|zR (jG 4<|qC<|zb (zG jX (dj (zm 3)<|sI 0)<|sI 1)<|zb (dj (zm 3)<|sI 1)<|zb (zG jX (dj (zm 3)<|sI 2)<|qC<|zb (zg 2) zB) zB)<|qV<|zD kQ<|zb (zg 0)<|zb (zg 4)<|zb (zG jX (zG yS (qC<|zb (sI 0) zB)<|dj (zm 3)<|sI 0)<|qC<|zb (sI 1) zB) zB
def C_:=zR (jG 6 (zD kQ (zb (zg 3) (zb (zg 4) (zb (zg 5) zB))))) (zR (i8 (sB (zG vj (zg 6) (qv .ej))) (qV (qC (zb (qv (.str "parted")) (zb (jU (jf xj (zb (jU (jf ko (zb (zg 1) (zb (zg 0) zB)))) (zb (zg 6) zB)))) zB)))) qD) (zR (jG 7 (jU (jf xj (zb (jU (jf jF (zb (zg 1) (zb (zg 0) zB)))) (zb (zD xY (zb (zg 3) (zb (zg 4) (zb (zg 5) zB)))) zB))))) (qV (qC (zb (qv (.str "stuck")) (zb (jU (zV (zY (zm 7)) (.nm 0) 1 [] jO (zD jE (zb (zg 0) zB)))) zB))))))
def J9:=jv 8<|zR (Jg<|zD ka<|zb (zg 0)<|zb (zg 1)<|zb (zg 2) zB)<|zR (Jg<|zD jZ<|zb (zg 0)<|zb (zg 1) zB)<|zR (jG 3<|dj (zm 0)<|sI 0)<|zR (jG 4<|zD wB<|zb (zg 1)<|zb (zg 0) zB)<|zR (jG 5<|zD xZ<|zb (zg 3)<|zb (jU<|zV (zY<|zC<|zD yO<|zb (zg 2) zB) (.nm 0) 1 [] jO (mV<|zg 0)) zB) C_
def qb:=jv 1<|qV<|qC<|zb (dj (zm 0)<|sI 0)<|zb (zG dU (zG jX (dj (zm 0)<|sI 0)<|JP<|zC<|dj (zm 0)<|sI 1)<|sI 1) zB
def j8:=jv 2<|qV<|fU UE DN (dj (zm 0)<|sI 0) (zg 1)<|zG jX (dj (zm 0)<|sI 0)<|JP<|zC<|dj (zm 0)<|sI 1
def xu:=jv 2<|yV<|zV (zY<|zm 0) (.nm 0) 1 [1] (sB<|zD j8<|zb (zg 0)<|zb (zg 1) zB) (dj (zC<|dj (zm 0)<|sI 1)<|zG dU (zg 1)<|dj (zm 0)<|sI 0)
def yi:=jv 2<|qV<|zD jE<|zb (qC<|zb (JP<|zm 1)<|zb (zg 0)<|zb (zX<|zm 1) zB) zB
def yx:=jv 5<|zR (jG 4<|jU<|zV (YE (zg 2)<|zg 1) (.tp [0,1]) 2 [3] (sB<|zD j8<|zb (zg 1)<|zb (zg 2) zB) (zg 0))<|qV<|zD eB<|zb (dj (zm 0)<|sI 0)<|zb (zD yi<|zb (dj (zC<|dj (zm 0)<|sI 1)<|zg 3)<|zb (jU<|jf xu<|zb (zg 1)<|zb (zg 3) zB) zB)<|zb (zg 4) zB
def Yy:=jv 5<|zR (jG 3<|dj (zm 1)<|zD xI<|zb (zg 2) zB)<|zR (jG 4<|jU<|zV (jS<|JP<|zC<|dj (zm 3)<|sI 1) (.nm 0) 1 [0,1,2,3] jO (zD yx<|zb (zg 1)<|zb (zg 2)<|zb (zg 3)<|zb (zG jX (dj (zm 4)<|sI 0)<|zg 0) zB))<|qV<|qC<|zb (dj (zm 3)<|sI 0)<|zb (zX<|zm 4) zB
def S':=(jG 3<|dj (zC<|dj (zC<|dj (zm 0)<|sI 2)<|zg 1)<|sI 0)
def S_:=(jG 4<|dj (zC<|dj (zC<|dj (zm 0)<|sI 2)<|zg 1)<|sI 1)
def U6:=(jG 5 (cM (sB (zG gw (zg 3) (qv (.str "r")))) (jU (jf vo (zb (dj (zm 0) (sI 0)) (zb (zg 4) zB)))) (jU (jf JA (zb (dj (zm 0) (sI 0)) (zb (zg 4) zB))))))
def T_:=(jG 6<|jU<|jf kW<|zb (dj (zm 0)<|sI 0)<|zb (zD yi<|zb (dj (zC<|dj (zm 0)<|sI 1)<|zg 1)<|zb (jU<|jf xu<|zb (zg 2)<|zb (zg 1) zB) zB)<|zb (zg 5) zB)
def U':=(jG 7<|pT<|zV (zY<|zm 6) (.nm 0) 1 [] jO (qC<|zb (zD xI<|zb (zg 0) zB)<|zb (zg 0) zB))
def U_:=(yV<|zV (ZC<|zg 2) (.tp [0,1]) 2 [0,2,7] jO (cM (sB<|BW (zg 0)<|zg 4) (zD Yy<|zb (zg 2)<|zb (zg 3)<|zb (Ft (zg 4)<|zg 0) zB)<|zg 1))
def ZX:=jv 8<|zR S'<|zR S_<|zR U6<|zR T_<|zR U' U_
def O3:=(i8 (sB (zG gw (dj (zm 1) (sI 0)) (qv (.str "l")))) (qV (zD kQ (zb (zg 0) (zb (dj (zm 1) (sI 1)) (zb (zg 2) zB))))) qD)
def U3:=(jG 3<|zD eB<|zb (zg 0)<|zb (dj (zm 1)<|sI 1)<|zb (zg 2) zB)
def U4:=(qV<|cM (sB<|Bi<|zm 3) (zg 3)<|qv .ej)
def x9:=jv 4<|zR O3<|zR U3 U4
def _b:=(jG 3<|zD x9<|zb (zg 0)<|zb (zg 1)<|zb (dj (zC<|dj (zm 2)<|sI 1)<|mV<|sI 1) zB)
def a':=(qV<|cM (sB<|zG EW (zg 3)<|qv .ej) (zg 2)<|qC<|zb (dj (zm 2)<|sI 0)<|zb (zG jX (dj (zm 2)<|sI 1)<|qC<|zb (zg 3) zB) zB)
def yP:=jv 4<|zR _b a'
def Tb:=(i8 (sB (zG gw (dj (zm 1) (sI 0)) (qv (.str "l")))) (yV (jf vo (zb (zg 0) (zb (dj (zm 1) (sI 1)) zB)))) qD)
def P_:=(jG 2<|jU<|zV (zY<|jH<|jf JA<|zb (zg 0)<|zb (dj (zm 1)<|sI 1) zB) (.nm 0) 1 [] jO (zD xI<|zb (zg 0) zB))
def Q_:=(yV<|zV (mW<|dj (zC<|zD qc<|zb (dj (zC<|dj (zm 1)<|sI 1)<|sI 0) zB)<|sI 2) (.tp [0,1]) 2 [2] (sB<|KR (zg 0)<|zm 2) (zg 1))
def vm:=jv 3<|zR Tb<|zR P_ Q_
def D_:=(jG 3<|dj (zm 0)<|sI 0)
def E_:=(jG 4<|dj (zC<|dj (zm 0)<|sI 2)<|zg 1)
def F':=(jG 5<|jU<|zV (zY<|zm 2) (.nm 0) 1 [1] (QJ<|sB<|zD j8<|zb (zg 0)<|zb (zg 1) zB) (zg 0))
def F_:=(jG 6<|jU<|jf ZX<|zb (zg 0)<|zb (zg 1)<|zb (jU<|zV (zY<|zm 2) (.nm 0) 1 [1] (sB<|zD j8<|zb (zg 0)<|zb (zg 1) zB) (zg 0)) zB)
def G_:=(jG 7<|jU<|zV (zY<|zm 6) (.nm 0) 1 [3,4] jO (zD yP<|zb (zg 1)<|zb (zg 2)<|zb (zg 0) zB))
def H_:=(jG 8<|jU<|zV (zY<|jH<|jf vm<|zb (zg 3)<|zb (zg 4) zB) (.nm 0) 1 [1] jO (qC<|zb (zG jX (zg 1)<|sI 1)<|zb (qC<|zb (zg 0) zB) zB))
def UO:=(qV (jU (Jh (zm 5) (zC (cM (sB (zG gw (dj (zm 4) (sI 0)) (qv (.str "r")))) (jU (Jh (zm 8) (zm 7))) (jU (Jh (zm 7) (zm 8))))))))
def XE:=jv 9<|zR D_<|zR E_<|zR F'<|zR F_<|zR G_<|zR H_ UO
def UC:=(jG 1<|jU<|zV (zY<|zC<|dj (zC<|zD qc<|zb (dj (zC<|dj (zm 0)<|sI 1)<|sI 0) zB)<|sI 2) (.nm 0) 1 [] jO (qC<|zb (sI 0)<|zb (qC<|zb (zg 0) zB) zB))
def t_:=(Zk (jS<|JP<|zC<|dj (zm 0)<|sI 2) (.nm 2)<|jG 1<|zD XE<|zb (zg 0)<|zb (zg 2)<|zb (zg 1) zB)
def u_:=(yV<|fO qb<|zm 1)
def vy:=jv 3<|zR UC<|zR t_ u_
def w_:=(jG 1<|jU<|jf vy<|zb (zg 0) zB)
def x':=(jG 2<|jU<|zV (mW<|dj (zm 0)<|sI 1) (.tp [0,1]) 2 [1] jO (zD yi<|zb (zg 1)<|zb (jU<|jf xu<|zb (zg 2)<|zb (zg 0) zB) zB))
def x_:=(jG 3<|jU<|zV (zY<|zm 2) (.nm 0) 1 [0] jO (zD yj<|zb (dj (zm 1)<|sI 0)<|zb (zg 0) zB))
def y':=(qV<|qC<|zb (jU<|zV (zY<|zm 1) (.nm 0) 1 [] jO (zD qb<|zb (zg 0) zB))<|zb (zg 3)<|zb (zg 2) zB)
def xK:=jv 4<|zR w_<|zR x'<|zR x_ y'
def yh:=jv 3<|qV<|eD<|jH<|zV (zY<|zm 1) (.nm 0) 1 [0,2] jO (zD kX<|zb (zg 1)<|zb (zg 0)<|zb (zg 2) zB)
def xw:=jv 3<|zR (Jg<|zD jN<|zb (zg 0)<|zb (zg 1) zB)<|zR (jG 2<|dj (zC<|zD xK<|zb (zg 0) zB)<|sI 0)<|qV<|eD<|jH<|zV (zY<|zC<|dj (zC<|zD xK<|zb (zg 1) zB)<|sI 0) (.nm 0) 1 [0,2] jO (zD yh<|zb (zD qL<|zb (zg 1) zB)<|zb (zg 2)<|zb (zg 0) zB)
def xk:=jv 2<|zR (Jg<|zD jN<|zb (zg 0)<|zb (zg 1) zB)<|qV<|zG dU (zD qN<|zb (jU<|jf ko<|zb (zg 0)<|zb (zg 1) zB) zB)<|zD qN<|zb (jU<|jf jF<|zb (zg 0)<|zb (zg 1) zB) zB
def kx:=jv 2<|qV<|zG dU (zD xw<|zb (zg 0)<|zb (zg 1) zB)<|zD xk<|zb (zg 0)<|zb (zg 1) zB
def oC:=(zR (jG 10<|zD j3<|zb (zg 0)<|zb (zG jX (zG jX (zg 1)<|zG yS (zg 4)<|zg 7)<|zg 9) zB)<|yC 8<|zG yS (zG wj (zG JI (zg 10)<|sI 7)<|zg 2)<|cL<|zG D6 (zG wj (zG JI (zg 10)<|sI 64)<|sI 3)<|zg 5)
def CU:=(zR (kB 8<|jL zB)<|zR (Zk (jS<|zg 4) (.nm 9) oC)<|BV 8<|yC 6<|zg 8)
def kg:=jv 11<|zR (kB 6<|jL zB)<|zR (Zk (jS<|zg 3) (.nm 7) CU)<|JO 6
def se:=(zR (KP (.tp [9,10])<|zD xv<|zb (zg 3)<|zb (zg 8) zB)<|yC 7<|jU<|jf kg<|zb (zg 0)<|zb (zG jX (zG jX (zg 1)<|sI 5)<|zG yS (sI 9)<|zg 8)<|zb (zg 2)<|zb (dj (zm 6)<|zg 10)<|zb (dj (zm 6)<|zg 9)<|zb (zg 5) zB)
def qd:=jv 11<|zR (jG 6<|jU<|zV (jS<|zG jX (vE<|zg 3)<|sI 1) (.nm 0) 1 [0,1,4] jO (zG wj (zG JI (zD j3<|zb (zg 1)<|zb (zG jX (zg 2)<|zg 0) zB)<|sI 3)<|zG jX (zg 3)<|sI 1))<|zR (kB 7<|jL zB)<|zR (Zk (jS<|vE<|zg 3) (.nm 8) se)<|BV 7<|qV<|qC<|zb (zg 6)<|zb (zg 7) zB
def yw:List D->Option Xn:=JX 3<|j4 jM<|zb (zg 0)<|zb (zg 1) zB
def sV:=(kB 0<|QL<|zm 0)
def mP:=(jG 2<|zG wj (zg 1)<|sI 8)
def mO:=(jG 3<|zG wj (zG JI (zg 1)<|sI 8)<|cK (sI 1)<|JP<|zm 0)
def cE:=(i8 (cN 0<|ZD (sB<|zG gw (zg 2)<|sI 1)<|sB<|zG mc (zg 0)<|jU<|jL zB) (tH 0) qD)
def Wn:=(i8 (sB<|zG gw (zg 2)<|sI 2) (kB 0<|Jh (zm 0)<|jH<|KQ (jH<|jL<|zb (qC<|zb (sI 0)<|zb (sI 0)<|zb (qC zB) zB) zB)<|zG jX (sI 1)<|zG wj (zG JI (zg 1)<|sI 8)<|sI 2) qD)
def YW:=(i8 (cN 0<|ZD (sB<|zG o7 (zg 2)<|sI 4)<|sB<|zG mc (zg 0)<|jU<|jL zB) (zR (KP (.tp [4,5,6])<|dj (zm 0)<|zg 3)<|zR (jG 7<|zX<|jH<|zV (zY<|zm 6) (.nm 0) 1 [] jO (zG jX (zg 0)<|qC<|zb (sI 0) zB))<|fP 0 (zg 3)<|dj (jH<|jL<|zb (qC<|zb (zG jX (zg 4)<|sI 1)<|zb (zg 5)<|zb (zG jX (zg 6)<|qC<|zb (zG yS (qC<|zb (sI 0) zB)<|zg 5) zB) zB)<|zb (qC<|zb (zg 4)<|zb (zG jX (zg 5)<|sI 1)<|zb (zg 7) zB) zB)<|zG wj (zg 2)<|sI 2) qD)
def sU:=(JO 0)
def qO:=jv 8<|zR sV<|zR mP<|zR mO<|zR cE<|zR Wn<|zR YW sU
def UH:CO Bool:=(pS (sB<|zG D6 (zg 5)<|JP<|zm 4)<|pS (sB<|zG mc (dj (zC<|dj (zm 4)<|zg 5)<|sI 0)<|dj (zC<|dj (zm 2)<|sI 0)<|zg 7)<|sB<|zG mc (dj (zC<|dj (zm 4)<|zg 5)<|sI 1)<|dj (zC<|dj (zm 3)<|sI 0)<|zg 6)
def N9:=(zR (KP (.tp [6,7]) (zD xv (zb (zg 1) (zb (zg 5) zB)))) (i8 UH (yV (jL (zb (qv (.str "arrow")) (zb (zg 5) zB)))) qD))
def ET:=(Zk (jS<|vE<|zg 1) (.nm 5) N9)
def lq:=(i8 (sB (zG o7 (JP (zm 4)) (vE (zg 1)))) (yV (jL (zb (qv (.str "arrow")) (zb (sI 5) zB)))) qD)
def lj:=(i8 (sB (zG o7 (zG jX (eD (zC (dj (zm 2) (sI 0)))) (eD (zC (dj (zm 3) (sI 0))))) (sI 30))) (yV (jL (zb (qv (.str "many")) zB))) qD)
def HA:=(qV<|qv .ej)
def yz:=jv 8<|zR ET<|zR lq<|zR lj HA
def qt:=jv 3 (zR (kB 1 (jL zB)) (zR (i8 (sB (aD "Unlike" (zg 0))) (yC 1 (qv (.str "unlike"))) qD) (zR (i8 (sB (aD "TooMany" (zg 0))) (yC 1 (qv (.str "many"))) qD) (zR (i8 (sB (aD "NoArrow" (zg 0))) (kB 1 (Jh (zm 1) (jH (jL (zb (qv (.str "arrow")) (zb (IF "at" (zg 0)) zB)))))) qD) (zR (Zk (zY (zC (jU (jL (zb (aD "NoLine" (zg 0)) (zb (aD "NoPrime" (zg 0)) (zb (aD "NoRoom" (zg 0)) zB))))))) (.nm 2) (kB 1 (Jh (zm 1) (jH (KQ (jH (jL (zb (qv (.str "odd")) zB))) (cL (zg 2))))))) (zR (Zk (zY (zC (jU (jL (zb (aD "NoRow" (zg 0)) (zb (aD "NoTable" (zg 0)) (zb (aD "NoText" (zg 0)) zB))))))) (.nm 2) (kB 1 (Jh (zm 1) (jH (KQ (jH (jL (zb (qv (.str "odd")) zB))) (cL (zg 2))))))) (zR (Zk (zY (zC (jU (jL (zb (aD "Nothing" (zg 0)) (zb (aD "NoTurn" (zg 0)) (zb (aD "NoWidths" (zg 0)) zB))))))) (.nm 2) (kB 1 (Jh (zm 1) (jH (KQ (jH (jL (zb (qv (.str "odd")) zB))) (cL (zg 2))))))) (zR (Zk (zY (zC (jU (jL (zb (aD "Nought" (zg 0)) (zb (Fs (BU (zg 0))) zB)))))) (.nm 2) (kB 1 (Jh (zm 1) (jH (KQ (jH (jL (zb (qv (.str "odd")) zB))) (cL (zg 2))))))) (JO 1)))))))))
def C4:CO Xn:=ni F7 (Wh "NoArrow" (zg 4)) vr
def xX:List D->Option Xn:=JX 6 (XN (j4 jM (zb (zg 0) (zb (zg 1) zB))) (Jg (zD jN (zb (zg 0) (zb (zg 1) zB)))) (XN vr (jG 3 (jU (jf jF (zb (zg 1) (zb (zg 0) zB))))) (XN (Br (ZC (zg 3)) (.tp [4,5]) C4 AM) (Zk (ZC (zg 3)) (.tp [4,5]) AM) (ni (sB (zG o7 (JP (zm 2)) (JP (zm 3)))) (Wh "NoArrow" (sI 5)) vr))))
def yf:List D->Option Xn:=JX 3<|XN (j4 xX<|zb (zg 0)<|zb (zg 1)<|zb (zg 2) zB) (Jg<|zD ka<|zb (zg 0)<|zb (zg 1)<|zb (zg 2) zB)<|j4 Yx<|zb (zg 0)<|zb (zg 1)<|zb (zg 2) zB
def ZW:List D->Option Xn:=JX 8<|XN (j4 xX<|zb (zg 0)<|zb (zg 1)<|zb (zg 2) zB) (Jg<|zD ka<|zb (zg 0)<|zb (zg 1)<|zb (zg 2) zB)<|j4 ji<|zb (zg 0)<|zb (zg 1) zB
def xW:List D->Option Xn:=JX 2<|j4 jM<|zb (zg 0)<|zb (zg 1) zB
def xq:List D->Option Xn:=JX 2<|j4 yw<|zb (zg 0)<|zb (zg 1) zB
def HN:=(jG 4<|qv .ej)
def HM:=(jG 5<|qv .ej)
def F6:=(i8 (sB<|zG gw (zg 3)<|sI 0) (jG 5<|zD Zw<|zb (zg 0)<|zb (zg 1)<|zb (zg 2) zB)<|i8 (sB<|zG gw (zg 3)<|sI 1) (jG 5<|zD J9<|zb (zg 0)<|zb (zg 1)<|zb (zg 2) zB)<|i8 (sB<|zG gw (zg 3)<|sI 2) (jG 5<|zD xk<|zb (zg 1)<|zb (zg 0) zB)<|jG 5<|zD kx<|zb (zg 1)<|zb (zg 0) zB)
def y8:CO Xn:=(ni (sB<|zG gw (zg 3)<|sI 0) (j4 yf<|zb (zg 0)<|zb (zg 1)<|zb (zg 2) zB)<|ni (sB<|zG gw (zg 3)<|sI 1) (j4 ZW<|zb (zg 0)<|zb (zg 1)<|zb (zg 2) zB)<|ni (sB<|zG gw (zg 3)<|sI 2) (j4 xW<|zb (zg 1)<|zb (zg 0) zB)<|j4 xq<|zb (zg 1)<|zb (zg 0) zB)
def lU:=fN 6 4 F6 y8
def pq:=(i8 (sB<|zG vj (zg 4)<|qv .ej) (yV<|jf qt<|zb (zg 4) zB) qD)
def Fe:=(yV (jL (zb (dj (jH (jL (zb (qv (.str "row")) (zb (qv (.str "fallen")) (zb (qv (.str "number")) (zb (qv (.str "number")) zB)))))) (zg 3)) (zb (zg 5) zB))))
def zQ:=jv 7<|zR HN<|zR HM<|zR lU<|zR pq Fe
def iA:=(zR (KP (.tp [9,10])<|zD xv<|zb (zg 3)<|zb (zg 8) zB)<|zR (jG 11<|jU<|jf kg<|zb (zg 0)<|zb (zG jX (zg 1)<|zG yS (sI 9)<|zg 8)<|zb (zg 2)<|zb (dj (zC<|dj (zm 4)<|sI 0)<|zg 10)<|zb (dj (zC<|dj (zm 5)<|sI 0)<|zg 9)<|zb (zg 6) zB)<|yC 7<|qC<|zb (dj (zC<|dj (zm 4)<|sI 0)<|zg 10)<|zb (dj (zC<|dj (zm 5)<|sI 0)<|zg 9)<|zb (zX<|jH<|zV (zY<|zm 11) (.nm 0) 1 [] jO (zX<|zm 0)) zB)
def kh:=jv 12<|zR (kB 7<|jL zB)<|zR (Zk (jS<|vE<|zg 3) (.nm 8) iA)<|JO 7
def fg:=(i8 (sB<|zG gw (zg 9)<|sI 1) (zR (jG 10<|dj (jH<|jL<|zb (sI 3)<|zb (sI 5)<|zb (sI 7)<|zb (sI 2) zB)<|tJ (jH<|jL<|zb (sI 2)<|zb (sI 3)<|zb (sI 5)<|zb (sI 7) zB)<|zg 2)<|jG 8<|zD jQ<|zb (zg 10)<|zb (zg 3)<|zb (zD qd<|zb (zg 0)<|zb (sI 60)<|zb (zg 10)<|zb (zg 3)<|zb (zg 4)<|zb (sI 1) zB) zB) qD)
def ff:=(i8 (ZD (sB (zG gw (zg 9) (sI 2))) (sB (zG DN (vE (zg 3)) (sI 5)))) (zR (jG 11 (Wr (zg 3) (xA (qv (.str "rl")) (zG wj (zG JI (zg 1) (sI 20)) (sI 2))))) (jG 8 (zD jQ (zb (zg 2) (zb (zg 11) (zb (zD qd (zb (zg 0) (zb (sI 60) (zb (zg 2) (zb (zg 11) (zb (sI 2) (zb (sI 1) zB))))))) zB)))))) qD)
def eZ:=(i8 (ZD (sB (zG gw (zg 9) (sI 3))) (sB (zG o7 (vE (zg 3)) (sI 0)))) (zR (jG 11 (Wr (xA (qv (.str "lr")) (fT (xA (zg 3) (sI 0)))) (GN (zg 3) (ro (sI 1)) Wp))) (jG 8 (zD jQ (zb (zg 2) (zb (zg 11) (zb (zD qd (zb (zg 0) (zb (sI 60) (zb (zg 2) (zb (zg 11) (zb (sI 2) (zb (sI 1) zB))))))) zB)))))) qD)
def Bk:CO D:=(fS (qv (.str "")) (jH (zV (zY (zC (dj (zm 8) (sI 2)))) (.nm 0) 1 [] jO (dj (zm 0) (sI 0)))))
def X1:CO Bool:=(pS (sB<|zG mc (dj (zm 8)<|sI 0)<|zg 2)<|pS (sB<|zG mc (JP<|zC<|dj (zm 8)<|sI 2)<|vE<|zg 3)<|sB<|zG mc Bk<|zg 3)
def IA:=(jG 1<|zD j3<|zb (zg 0)<|zb (sI 0) zB)
def Iz:=(jG 2<|dj (jH<|jL<|zb (sI 2)<|zb (sI 3)<|zb (sI 5)<|zb (sI 7) zB)<|zG wj (zg 1)<|sI 4)
def Iy:=(jG 3<|zD kf<|zb (zG JI (zg 1)<|sI 20)<|zb (zG jX (sI 1)<|zG wj (zG JI (zg 1)<|sI 4)<|sI 5) zB)
def Iw:=(jG 4<|dj (jH<|jL<|zb (sI 3)<|zb (sI 3)<|zb (sI 3)<|zb (sI 6) zB)<|zG wj (zG JI (zg 1)<|sI 640)<|sI 4)
def Iv:=(jG 5<|zD qd<|zb (zg 0)<|zb (sI 1)<|zb (zg 2)<|zb (zg 3)<|zb (zg 4)<|zb (sI 1) zB)
def Iu:=(jG 6<|zD qd<|zb (zg 0)<|zb (sI 60)<|zb (zg 2)<|zb (zg 3)<|zb (zg 4)<|zb (sI 1) zB)
def Ir:=(jG 7<|jU<|jf qO<|zb (jU<|jf qO<|zb (jU<|jf kh<|zb (zg 0)<|zb (sI 120)<|zb (zg 2)<|zb (zg 3)<|zb (zg 5)<|zb (zg 6)<|zb (sI 1) zB)<|zb (zG JI (zg 1)<|sI 3000) zB)<|zb (zG JI (zg 1)<|sI 40000) zB)
def Iq:=(jG 8<|zD jQ<|zb (zg 2)<|zb (zg 3)<|zb (zg 6) zB)
def Ip:=(jG 9<|zG wj (zG JI (zg 1)<|sI 2560)<|sI 6)
def sF:=(jG 12<|jU<|zV (jS<|sI 4) (.nm 0) 1 [2,3,5,7,8] jO (jU<|jf zQ<|zb (zD jQ<|zb (zg 1)<|zb (zg 2)<|zb (zg 3) zB)<|zb (zg 5)<|zb (jU<|QL<|zm 4)<|zb (zg 0) zB))
def eY:=(i8 X1 (qV (zG gw (zg 12) (jU (jL (zb (jU (jL (zb (qv (.str "unlike")) zB))) (zb (jU (jL (zb (qv (.str "unlike")) zB))) (zb (jU (jL (zb (qv (.str "unlike")) zB))) (zb (jU (jL (zb (qv (.str "unlike")) zB))) zB)))))))) qD)
def Bv:=(i8 (pS (sB (zG mc (dj (zC (dj (zm 12) (sI 2))) (sI 0)) (qv (.str "number")))) (pS (sB (zG mc (dj (zC (dj (zm 12) (sI 3))) (sI 0)) (qv (.str "number")))) (QJ (sB (zD XB (zb (dj (zC (dj (zm 12) (sI 3))) (sI 1)) zB)))))) (qV (qv (.bl di))) qD)
def mD:=(jG 13<|zD yz<|zb (zg 2)<|zb (zg 3)<|zb (zg 5)<|zb (zg 6)<|zb (zg 7) zB)
def sE:=(i8 (sB<|zG vj (zg 13)<|qv .ej) (qV<|tK (zG gw (dj (zm 12)<|sI 0)<|zg 13)<|zG gw (dj (zm 12)<|sI 1)<|zg 13) qD)
def Bu:=(qV (tK (zG gw (dj (zC (dj (zm 12) (sI 0))) (sI 0)) (qv (.str "row"))) (tK (zG gw (dj (zC (dj (zm 12) (sI 1))) (sI 0)) (qv (.str "fallen"))) (IE (dj (zC (dj (zC (dj (zm 12) (sI 1))) (sI 1))) (sI 0)) (jH (jL (zb (qv (.str "parted")) (zb (qv (.str "stuck")) zB))))))))
def Ja:=jv 14<|zR IA<|zR Iz<|zR Iy<|zR Iw<|zR Iv<|zR Iu<|zR Ir<|zR Iq<|zR Ip<|zR fg<|zR ff<|zR eZ<|zR sF<|zR eY<|zR Bv<|zR mD<|zR sE Bu
theorem zh(h:F γ=cq (.next γ'))(g:G γ'=r):zR F G γ=r:=by rw[jK,h];exact g
theorem zW(h:F (zN n ds)=cq (.ret r)):jv n F ds=cq r:=by show(F<|zN n ds).bind _=_;rw[h];rfl
theorem iT{T:Tg}{F:CO Fl}(P:Nat->Ctx->Prop)(n:Nat){γ:Ctx}(z:P 0 γ)(step:∀s,s<n->∀γ,P s γ->∃γ1 I,kP T (.int (s:Int)) γ=cq γ1/\F γ1=cq (.next I)/\P (s+1) I):
 ∃γ',kD T F ((Ml n).map λ(i:Nat)=>D.int (i:Int)) γ=cq (.next γ')/\P n γ':=by
 have U:∀(k s:Nat) (γ:Ctx),s+k=n->P s γ->∃γ',kD T F ((PL s k).map λ(i:Nat)=>D.int (i:Int)) γ=cq (.next γ')/\P n γ':=by
  intro k
  induction k with
  |zero=>
   intro s γ e O;obtain rfl:s=n:=⋯
   exact⟨γ,rfl,O⟩
  |succ k Y=>
   intro s γ e O;obtain⟨γ1,I,a,Z,b⟩:=step s ⋯ γ O;obtain⟨γ',d,f⟩:=Y (s+1) I ⋯ b;refine⟨γ',?_,f⟩;rw[OL,MT,ql,a];simp only[Mx,Z];exact d
 have:=U n 0 γ ⋯ z;rw[<-Ot]at this;exact this
theorem kT(P:Nat->Ctx->Prop)(n:Nat)(Z:n<=lim)(Y:f γ=cq (.int (n:Int)))(z:P 0 γ)(step:∀s,s<n->∀γ,P s γ->∃γ1 I,kP T (.int (s:Int)) γ=cq γ1/\F γ1=cq (.next I)/\P (s+1) I):
 ∃γ',Zk (jS f) T F γ=cq (.next γ')/\P n γ':=by
 obtain⟨γ',e,O⟩:=iT P n z step;refine⟨γ',?_,O⟩;have U:=jk;have r:inR (n:Int)=cI:=vY ⋯ ⋯;rw[V7,V4,Y];simp[r,q8];rw[qG n λi=>(i:Int)];exact e
abbrev su(k:Sk)(xs:List D):D:=match k with|.T=>D.tup xs|.L=>D.lst xs
@[simp] theorem IV(k xs):jD (su k xs)=cq (k,xs):=by cases k<;>rfl
theorem Jz(k:Sk)(f:Nat->Int)(I:0<p)(z:n<=lim):
 xZ [.int p,su k (zH n f)]=cq (.val<|.tup<|zH n λi=>f i%p):=by
 simp[xZ,jv,zN,jm,z,xT];unfold zH;rw[zw (r:=λi=>D.int<|f i%p)]
 ·simp
 ·intro i a
  refine zy rfl rfl ?_;simp[I]
theorem mf(f:Nat->Int)(I:0<p)(z:n<=lim):
 xZ [.int p,.tup (zH n f)]=cq (.val<|.tup<|zH n λi=>f i%p):=Jz .T f I z
theorem ZY(f:Nat->Int)(I:0<p)(z:n<=lim):
 xZ [.int p,.lst (zH n f)]=cq (.val<|.tup<|zH n λi=>f i%p):=Jz .L f I z
theorem YA(k:Sk)(f:UV)(g:Nat->Int)(O:0<p)(I:h<=lim)(Y:w<=lim)(z:∀i j,i<h->j<w->0<=f i j/\f i j<100):
 eB [.int p,jR h w f,su k (zH w g)]=cq (.val<|.tup<|zH h λi=>zq (λj=>f i j*g j) w%p):=by
 simp[eB,jv,zN,jm,I,xT,jR,Mm];unfold zP;rw[zw (r:=λi=>D.int<|zq (λj=>f i j*g j) w)]
 ·simp
  rw[show(List.map (λi=>D.int<|zq (λj=>f i j*g j) w)<|Ml h)=zH h λi=>zq (λj=>f i j*g j) w from rfl,ZY _ O I];rfl
 ·intro i a
  refine zy rfl rfl ?_;simp[jm,wD,Y];rw[zw (r:=λj=>D.int<|f i j*g j)]
  ·simp
   rw[show(List.map (λj=>D.int<|f i j*g j)<|Ml w)=zH w λj=>f i j*g j from rfl,kj]
  ·intro j U
   refine zy rfl rfl ?_;have:=z i j (Mn.mp a)<|Mn.mp U;simp[ZR (f i j) (g j) ⋯ ⋯]
theorem kq(f:UV)(I:h<=lim)(z:w<=lim):jE [jR h w f]=cq (.val<|jR w h λi j=>f j i):=by
 simp[jE,jv,zN,jm,I,z,xT,jR,Mm,jK,q8];rw[qG w λi=>(i:Int)];rw[zw (r:=λj=>D.tup<|zH h λi=>f i j)]
 ·simp
  rfl
 ·intro j O
  refine zy rfl rfl ?_;simp[jm,I,xT];unfold zP;rw[zw (r:=λi=>D.int<|f i j)]
  ·simp
   rfl
  ·intro i b
   refine zy rfl rfl ?_;have a:=Mn.mp O;simp[a,oP _ a]
theorem JL{p:Int}{h m w:Nat}(f g:UV)(I:0<p)(O:h<=lim)(z:m<=lim)(Z:w<=lim)(U:∀i j,i<m->j<w->0<=g i j/\g i j<100):
 wz [.int p,jR h m f,jR m w g]=cq (.val<|jR h w λi j=>zq (λk=>g k j*f i k) m%p):=by
 simp[wz,jv,zN,jK,kq g z Z];simp[jm,O,z,Z,xT,jR];rw[show zP h m f=(Ml h).map λi=>D.tup (zH m<|f i)from rfl];rw[zw (r:=λi=>D.tup<|zH w λj=>zq (λk=>g k j*f i k) m%p)]
 ·simp
  rfl
 ·intro i l
  refine zy rfl rfl ?_;have e:=YA .T (λi j=>g j i) (f i) I Z z<|λa b d Y=>U b a Y d;simp[jR]at e ⊢;rw[e];simp
theorem JV{p:Int}{h w:Nat}(c:Int)(f g:UV)(I : -(2^64)<c)(O:c<2^64)(U:0<p)(Y:h<=lim)(z:w<=lim):
 xM [.int p,jR h w f,.int c,jR h w g]=cq (.val<|jR h w λi j=>(f i j+c*g i j)%p):=by
 simp[xM,jv,zN,jK,jR,aa,Y,jm,xT,Mm];rw[zw (r:=λi=>D.tup<|zH w λj=>(f i j+c*g i j)%p)]
 ·simp
  rfl
 ·intro i a
  refine zy rfl rfl ?_;simp[wD,z,jm,Mm];rw[zw (r:=λj=>D.int<|f i j+c*g i j)]
  ·simp
   rw[show(List.map (λj=>D.int<|f i j+c*g i j)<|Ml w)=zH w λj=>f i j+c*g i j from rfl,ZY _ U z];simp
  ·intro j Z
   refine zy rfl rfl ?_;simp[xT,ZR c _ I O]
theorem yQ(z:n<=lim):qc [.int n]=cq (.val<|jR n n λi j=>if i=j then 1 else 0):=by
 simp[qc,jv,zN,jK,z,jm,xT,Mm,q8];rw[qG n λi=>(i:Int)];rw[zw (r:=λi=>D.tup<|zH n λj=>if i=j then 1 else 0)]
 ·simp
  rfl
 ·intro i a
  refine zy rfl rfl ?_;simp[z,jm,Mm,q8,xT];rw[qG n λi=>(i:Int)];rw[zw (r:=λj=>D.int<|if i=j then 1 else 0)]
  ·simp
   rfl
  ·intro j I
   refine zy rfl rfl ?_;simp;by_cases e:i=j
   ·simp[e]
   ·rw[UY ⋯,UY e]
theorem ZE(d:D)(w:Nat):Mm w d=(Ml w).map λ_=>d:=by
 induction w with
 |zero=>rfl
 |succ n I=>rw[List.replicate_succ',I,Ox,Nx];simp
def VP(ns:List Int):D:=.lst (ns.map D.int)
mutual
theorem Ol:∀d:D,jn d d=cI
 |.ej=>rfl
 |.bl b=>by simp[jn]
 |.int i=>by simp[jn]
 |.str x=>by simp[jn]
 |.tup e=>by simp only[jn];exact I0 e
 |.lst e=>by simp only[jn];exact I0 e
 |.exc c n=>by simp[jn]
 |.n4 a b=>by simp only[jn];rw[I0 a,I0 b];rfl
 |.o3 a b=>by simp only[jn];rw[I0 b];simp
 |.ins a b c=>by simp only[jn];rw[Ol b,Ol c];simp
theorem I0:∀ds:List D,zj ds ds=cI
 |[]=>rfl
 |d::ds=>by simp only[zj,Ol d,I0 ds,Bool.and_self]
end
theorem ZP:∀{l:List D} {n:Nat},(∀d∈l,deep d<=n)->zi l<=n
 |[],n,_=>NJ n
 |d::ds,n,h=>by simp only[zi];exact Nat.max_le.mpr ⟨h d MS,ZP λe I=>h e<|MO _ I⟩
theorem oZ(n f):deep (.tup<|zH n f)<=1:=by
 simp only[deep];have:zi (zH n f)<=0:=ZP λd a=>by simp[zH]at a;obtain⟨i,_,rfl⟩:=a;exact Mq _
 lia
theorem bA(h w f):deep (.tup<|zP h w f)<=2:=by
 simp only[deep];have:zi (zP h w f)<=1:=ZP λd a=>by simp[zP]at a;obtain⟨i,_,rfl⟩:=a;exact oZ _ _
 lia
theorem pb(h w f):deep (jR h w f)<=3:=by
 unfold jR;simp only[deep];have:zi [D.int h,D.int w,D.tup (zP h w f)]<=2:=ZP λd a=>by
  simp at a;rcases a with rfl|rfl|rfl
  ·exact NJ _
  ·exact NJ _
  ·exact bA _ _ _
 lia
theorem Ya:∀{l:List D},(∀d∈l,i9 d=cI)->qi l=cI
 |[],_=>rfl
 |d::ds,h=>by simp only[qi,h d MS,Ya λe I=>h e<|MO _ I,Bool.and_self]
theorem gU(h:deep d<=n)(z:n<=20)(I:i9 d=cI):l8 d=cI:=by unfold l8;rw[I,TC];exact decide_eq_true<|Nl h z
theorem uM(n f):i9 (.tup<|zH n f)=cI:=by
 simp only[i9];exact Ya λd a=>by simp[zH]at a;obtain⟨i,_,rfl⟩:=a;rfl
theorem gT(h w f):i9 (.tup<|zP h w f)=cI:=by
 simp only[i9];exact Ya λd a=>by simp[zP]at a;obtain⟨i,_,rfl⟩:=a;exact uM _ _
theorem uN(h w f):i9 (jR h w f)=cI:=by unfold jR;simp only[i9,qi];have:=gT h w f;simp only[i9]at this;rw[this];rfl
theorem bB(h:l8 d=cI):gw d d=cq (.bl cI):=by unfold gw;rw[UJ ⟨h,h⟩,Ol]
def hB(b:Bool):Nat:=if b then 108 else 114
def kJ(c:Nat):Str:=⟨#[c]⟩
theorem Ku:∀(l:List Nat),(Ug "" (l.map kJ)).cps.toList=l
 |[]=>rfl
 |[c]=>rfl
 |c::d::l=>by
  have I:=Ku (d::l);show((kJ c++("" : Str))++Ug "" ((d::l).map kJ)).cps.toList=_;have e:∀a b:Str,(a++b).cps.toList=a.cps.toList++b.cps.toList:=λa b=>by show(a.cps++b.cps).toList=_;simp
  rw[e,e,I];rfl
def j7(m:Nat)(w:UK):Str:=Ug "" ((Ml m).map λk=>kJ (hB (w k)))
theorem qQ(m w):(j7 m w).cps.toList=(Ml m).map λk=>hB (w k):=by have:=Ku<|(Ml m).map λk=>hB<|w k;rw[Nh]at this;exact this
theorem yT(m w):(j7 m w).length=m:=by show(j7 m w).cps.size=m;rw[<-OE,qQ];simp
theorem xl{m:Nat}(w)(z:m<=1000):ju (j7 m w)=cI:=decide_eq_true (by rw[yT];exact z)
theorem KL{z:Type}(g:z->Str):∀l:List z,YU (l.map λx=>D.str<|g x)=cq (l.map g)
 |[]=>rfl
 |a::l=>by simp[YU,KL g l]
def eA(w:UK)(wd:UX)(k:Nat):Nat:=if w k then wd k else wd (k+1)
def ez(w:UK)(wd:UX)(k:Nat):Nat:=if w k then wd (k+1)else wd k
def vD(w:UK)(wd:UX)(T:UW)(k:Nat):D:=.tup [.str (kJ<|hB<|w k),jR (eA w wd k) (ez w wd k) (T k)]
def qZ(m:Nat)(w:UK)(wd:UX)(T:UW):List D:=(Ml m).map (vD w wd T)
def zK(p:Int)(m:Nat)(w:UK)(wd:UX)(T:UW):D:=.tup [.int p,.tup<|zH (m+1) λk=>(wd k:Int),.tup (qZ m w wd T)]
@[simp] theorem V2(m w wd T):(qZ m w wd T).length=m:=by simp[qZ]
theorem Zz{m k:Nat}(w)(Y:m<=1000)(I:k<m)(γ:Ctx)(f g:CO D)(z:f γ=cq (.str<|j7 m w))(O:g γ=cq (.int k)):xA f g γ=cq (.str<|kJ<|hB<|w k):=by rw[vk,z,O];simp only[Mx,kE];rw[UJ (xl w Y),qQ];simp[I,kJ]
theorem rS(b:Bool):gw (.str (kJ (hB b))) (.str "l")=cq (.bl b):=by
 have e:∀b:Bool,(kJ (hB b)==(MU "l"))=b:=by decide +kernel
 have I:∀b:Bool,l8 (.str<|kJ<|hB b)=cI:=by decide +kernel
 have O:l8 (.str (MU "l"))=cI:=by decide +kernel
 unfold gw;rw[UJ ⟨I b,O⟩];show cq (D.bl (kJ (hB b)==MU "l"))=_;rw[e]
theorem Ef(b:Bool):l8 (.str<|kJ<|hB b)=cI:=by cases b<;>decide +kernel
theorem Xp(b:Bool):gw (.str (kJ (hB b))) (.str "r")=cq (.bl (!b)):=by
 have e:∀b:Bool,(kJ (hB b)==(MU "r")) = !b:=by decide +kernel
 have I:l8 (.str (MU "r"))=cI:=by decide +kernel
 unfold gw;rw[UJ ⟨Ef b,I⟩];show cq (D.bl (kJ (hB b)==MU "r"))=_;rw[e]
theorem lF(f:Nat->D)(z:i<=j)(I:j<=n):eM ((Ml n).map f) (cq (i:Int)) (cq (j:Int))=(Ml<|j-i).map λk=>f (i+k):=by
 have c:∀(d k:Nat),k<=n->W2 n d (cq (k:Int))=k:=λd k U=>by show(if (k:Int)<0 then ((k:Int)+n).toNat else min (k:Int).toNat n)=k;rw[UY ⋯];simp only[Oj];lia
 have O:((Ml n).map f).length=n:=by simp
 unfold eM;rw[O,c 0 i ⋯,c n j I];apply List.ext_getElem
 ·simp;lia
 ·intro k Y g2
  simp
theorem zO:∀{n:Nat},(∀k,k<n->f k=g k)->zq f n=zq g n
 |0,_=>rfl
 |n+1,h=>by simp only[zq];rw[zO (n:=n) λk I=>h k ⋯,h n ⋯]
theorem jr(n:Nat):zq (λ_=>0) n=0:=by
 induction n with
 |zero=>rfl
 |succ n I=>simp[zq,I]
theorem jB(z:i<n)(h:∀k,k<n->k≠i->f k=0):zq f n=f i:=by
 induction n with
 |zero=>lia
 | succ n I=>
  simp only[zq];by_cases e:i=n
  ·subst e
   rw[zO (g:=λ_=>0) (λk O=>h k ⋯ ⋯),jr];lia
  ·rw[I ⋯ λk O=>h k ⋯,h n ⋯ ⋯]
   lia
theorem qJ(f g:Nat->Int)(n:Nat):zq (λk=>f k+g k) n=zq f n+zq g n:=by
 induction n with
 |zero=>rfl
 |succ n I=>simp only[zq,I];lia
theorem cC(f:Nat->Int)(c:Int)(n:Nat):zq (λk=>f k*c) n=zq f n*c:=by
 induction n with
 |zero=>simp[zq]
 |succ n I=>simp only[zq,I,Int.add_mul]
theorem qz(f:Nat->Int)(c:Int)(n:Nat):zq (λk=>c*f k) n=c*zq f n:=by
 induction n with
 |zero=>simp[zq]
 |succ n I=>simp only[zq,I,SH]
theorem yF(f:UV)(n m:Nat):zq (λi=>zq (λj=>f i j) m) n=zq (λj=>zq (λi=>f i j) n) m:=by
 induction n with
 |zero=>simp[zq,jr]
 |succ n I=>simp only[zq];rw[I,<-qJ]
theorem jC:∀{n:Nat},(∀k,k<n->f k%p=g k%p)->zq f n%p=zq g n%p
 |0,_=>rfl
 |n+1,h=>by simp only[zq];rw[NW,jC (n:=n)<|λk I=>h k ⋯,h n ⋯,<-NW]
theorem Vq(p x y:Int):(x*(y%p))%p=(x*y)%p:=by rw[MK,ND,<-MK]
abbrev Vc:=Nat->Int
def Pr(p:Int):Prop:=p=2\/p=3\/p=5\/p=7
theorem Pr.pos(h:Pr p):0<p:=by unfold Pr at h;lia
theorem Pr.two(h:Pr p):2<=p:=by unfold Pr at h;lia
theorem Pr.le(h:Pr p):p<=7:=by unfold Pr at h;lia
theorem Pr.one(h:Pr p):(1:Int)%p=1:=Om ⋯ (by have:=h.two;lia)
inductive Span(p:Int)(n:Nat)(G:Vc->Prop):Vc->Prop where
 |zero {v:Vc}:(∀i,i<n->v i%p=0)->Span p n G v
 |step {v w g:Vc} {c:Int}:G g->Span p n G w->(∀i,i<n->v i%p=(w i+c*g i)%p)->Span p n G v
section
variable{p:Int}{n:Nat}{G G':Vc->Prop}
theorem Span.congr(h:Span p n G v)(e:∀i,i<n->v' i%p=v i%p):Span p n G v':=by
 cases h with
 |zero h=>exact .zero λi a=>by rw[e i a,h i a]
 |step I b h=>exact .step I b λi a=>by rw[e i a,h i a]
theorem Span.gen(h:G g):Span p n G g:=.step (c:=1) h (.zero (v:=λ_=>0) λi _=>by simp) λi _=>by simp
theorem Span.add(O:Span p n G v)(z:Span p n G w):∀c:Int,Span p n G λi=>w i+c*v i:=by
 induction O with
 |zero h=>
  intro c;refine z.congr λi a=>?_;rw[NW,MK,h i a];simp
 |@step v b g I U Z h Y=>
  intro c;refine .step (c:=c*I) U (Y c) λi a=>?_;have e:(c*v i)%p=(c*(b i+I*g i))%p:=by rw[MK,h i a,<-MK]
  rw[NW,e,<-NW];congr 1;rw[SH,<-RI,Int.add_assoc]
theorem Span.smul(I:Span p n G v)(c:Int):Span p n G λi=>c*v i:=
 (I.add (w:=λ_=>0) (.zero λi _=>by simp) c).congr λi _=>by simp
theorem Span.le(h:Span p n G v)(I:∀g,G g->Span p n G' g):Span p n G' v:=by
 induction h with
 |zero h=>exact .zero h
 |step O a h U=>exact((I _ O).add U _).congr h
end
structure il(p:Int)(n r:Nat)(B:Nat->Vc)(l:UX):Prop where
 lt:∀k,k<r->l k<n
 mono:∀k m,k<m->m<r->l k<l m
 one:∀k,k<r->B k (l k)=1
 m6:∀k j,k<r->j<l k->B k j=0
 wy:∀k m,k<r->m<r->m≠k->B k (l m)=0
 m4:∀k i,k<r->i<n->0<=B k i/\B k i<p
def eK(r:Nat)(B:Nat->Vc):Vc->Prop:=λv=>∃k,k<r/\v=B k
section
variable{p:Int}{n r r':Nat}{B B':Nat->Vc}{l l':UX}
theorem Xr(O:il p n r B l)(h:Span p n (eK r B) v):∀i,i<n->v i%p=zq (λk=>v (l k)*B k i) r%p:=by
 induction h with
 |@zero v h=>
  intro i a;rw[h i a];have:zq (λk=>v (l k)*B k i) r%p=zq (λ_=>0) r%p:=jC λk I=>by rw[MK,h _ (O.lt k I)];simp
  rw[this,jr];rfl
 |@step v w g c U f h Y=>
  intro i a;obtain⟨m,b,rfl⟩:=U;rw[h i a];have e:zq (λk=>v (l k)*B k i) r%p=zq (λk=>w (l k)*B k i+c*B m (l k)*B k i) r%p:=jC λk I=>by rw[MK,h _<|O.lt k I,<-MK,Int.add_mul]
  have Z:zq (λk=>c*B m (l k)*B k i) r=c*B m i:=by rw[jB (i:=m) b λk I d=>by rw[O.wy m k b I d];simp,O.one m b];simp
  rw[e,qJ,Z,NW,Y i a,<-NW]
theorem WS(I:il p n r B l)(h:Span p n (eK r B) v)(U:j<n)(z:v j%p≠0)(hz:∀i,i<j->v i%p=0):∃k,k<r/\l k=j:=by
 apply NO;intro Y;apply z;rw[Xr I h j U];have:zq (λk=>v (l k)*B k j) r%p=zq (λ_=>0) r%p:=jC λk O=>by
  have Z:l k≠j:=λe=>Y ⟨k,O,e⟩;rcases MQ (l k) j with q|q
  ·rw[MK,hz _ q];simp
  ·rw[I.m6 k j O ⋯];simp
 rw[this,jr];rfl
theorem aZ(O:∀k m,k<m->m<r->l k<l m)(U:∀k m,k<m->m<r'->l' k<l' m)(s1:∀k,k<r->∃m,m<r'/\l' m=l k)(s2:∀k,k<r'->∃m,m<r/\l m=l' k):
 ∀k,k<r->k<r'/\l k=l' k:=by
 intro k
 induction k using Nat.strongRecOn with
 | ind k Y=>
  intro Z;obtain⟨m,a,em⟩:=s1 k Z;have d:k<=m:=by
   rcases MQ m k with q|q
   ·have:=(Y m q ⋯).2
    have:=O m k q Z;lia
   ·exact q
  have I:k<r':=⋯
  refine⟨I,?_⟩;obtain⟨q,b,eq⟩:=s2 k I;have e:k<=q:=by
   rcases MQ q k with z|z
   ·have:=(Y q z ⋯).2
    have:=U q k z I;lia
   ·exact z
  rcases MQ k m with z|z
  ·have f:=U k m z a
   have g:l k<=l q:=by
    rcases MQ k q with y|y
    ·exact SS<|O k q y b
    ·have:k=q:=⋯
     subst this;exact Mq _
   lia
  ·have:m=k:=⋯
   subst this;exact em.symm
theorem Xu(hp:Pr p)(O:il p n r B l)(U:il p n r' B' l')(z:∀v,Span p n (eK r B) v->Span p n (eK r' B') v)(h2:∀v,Span p n (eK r' B') v->Span p n (eK r B) v):
 r=r'/\(∀k,k<r->l k=l' k)/\∀k i,k<r->i<n->B k i=B' k i:=by
 have one:=hp.one;have e k:k<r->∃m,m<r'/\l' m=l k:=λI=>WS U (z _<|.gen ⟨k,I,rfl⟩) (O.lt k I) (by rw[O.one k I,one];decide) λi a=>by rw[O.m6 k i I a];simp
 have f k:k<r'->∃m,m<r/\l m=l' k:=λI=>WS O (h2 _<|.gen ⟨k,I,rfl⟩) (U.lt k I) (by rw[U.one k I,one];decide) λi a=>by rw[U.m6 k i I a];simp
 have b:=aZ O.mono U.mono e f;have h:=aZ U.mono O.mono f e;have j:r=r':=by
  rcases Sv r r' with q|q|q
  ·exact absurd (h r q).1 (Nq _)
  ·exact q
  ·exact absurd (b r' q).1 (Nq _)
 subst j;refine⟨rfl,λk I=>(b k I).2,λk i I a=>?_⟩;have c:=Xr U (z _<|.gen ⟨k,I,rfl⟩) i a;rw[jB (i:=k) I λm d g=>by rw[<-(b m d).2,O.wy k m I d g];simp,<-(b k I).2,O.one k I,Int.one_mul]at c;have Y:=O.m4 k i I a;have Z:=U.m4 k i I a;rw[Om Y.1 Y.2,Om Z.1 Z.2]at c;exact c
end
theorem jV(q:α->Bool)(r:α->D):∀(l:List α),(∀x∈l,∃γ1,kP T (g x) γ=cq γ1/\k γ1=cq (q x)/\(q x=cI->f γ1=cq (r x)))->
 zT T k f γ (l.map g)=cq ((l.filter q).map r)
 |[],_=>rfl
 |x::l,h=>by
  obtain⟨γ1,a,O,U⟩:=h x MS;have I:=jV q r l λy Y=>h y<|MO _ Y;simp only[MT,zT,a,O,Mx];cases e:q x with
  |true=>simp[U e,I,e]
  |false=>simp[I,e]
theorem ED(I:Pr p)(z:0<x)(O:x<p):∃y:Nat,1<=y/\(y:Int)<p/\(y:Int)*x%p=1:=by
 rcases I with rfl|rfl|rfl|rfl
 ·obtain rfl:x=1:=⋯
  exact⟨1,⋯,⋯,⋯⟩
 ·rcases (⋯:x=1\/x=2)with rfl|rfl
  ·exact⟨1,⋯,⋯,⋯⟩
  ·exact⟨2,⋯,⋯,⋯⟩
 ·rcases (⋯:x=1\/x=2\/x=3\/x=4)with rfl|rfl|rfl|rfl
  ·exact⟨1,⋯,⋯,⋯⟩
  ·exact⟨3,⋯,⋯,⋯⟩
  ·exact⟨2,⋯,⋯,⋯⟩
  ·exact⟨4,⋯,⋯,⋯⟩
 ·rcases (⋯:x=1\/x=2\/x=3\/x=4\/x=5\/x=6)with rfl|rfl|rfl|rfl|rfl|rfl
  ·exact⟨1,⋯,⋯,⋯⟩
  ·exact⟨4,⋯,⋯,⋯⟩
  ·exact⟨5,⋯,⋯,⋯⟩
  ·exact⟨2,⋯,⋯,⋯⟩
  ·exact⟨3,⋯,⋯,⋯⟩
  ·exact⟨6,⋯,⋯,⋯⟩
theorem VI{q:UK}{n a:Nat}{rest:List Nat}(h:(Ml n).filter q=a::rest):a<n/\q a=cI/\∀i,i<a->q i=di:=by
 have b:a∈(Ml n).filter q:=by rw[h];exact MS
 refine⟨Mn.mp (Nf.mp b).1,(Nf.mp b).2,λi f=>?_⟩;apply NO;intro I;have O:q i=cI:=by simpa using I
 have U:i∈a::rest:=by rw[<-h];exact Nf.mpr ⟨Mn.mpr (by have:=Mn.mp (Nf.mp b).1;lia),O⟩
 have d:(a::rest).Pairwise (· < ·):=by rw[<-h];exact Sr _ Rn
 rcases Mr.mp U with e|e
 ·lia
 ·have:=(List.pairwise_cons.mp d).1 i e;lia
theorem gX(h:(Ml n).filter q=[]):∀i,i<n->q i=di:=λi a=>by apply NO;intro I;have:i∈(Ml n).filter q:=Nf.mpr ⟨Mn.mpr a,by simpa using I⟩;rw[h]at this;simp at this
theorem Wb(I:Pr p)(z:0<x)(O:x<p):∃y,XD [.int p,.int x]=cq (.val<|.int y)/\1<=y/\y<p/\x*y%p=1:=by
 rcases I with rfl|rfl|rfl|rfl
 ·have:x=1:=⋯
  subst this;exact⟨1,rfl,⋯,⋯,⋯⟩
 ·have:x=1\/x=2:=⋯
  rcases this with rfl|rfl
  ·exact⟨1,rfl,⋯,⋯,⋯⟩
  ·exact⟨2,rfl,⋯,⋯,⋯⟩
 ·have:x=1\/x=2\/x=3\/x=4:=⋯
  rcases this with rfl|rfl|rfl|rfl
  ·exact⟨1,rfl,⋯,⋯,⋯⟩
  ·exact⟨3,rfl,⋯,⋯,⋯⟩
  ·exact⟨2,rfl,⋯,⋯,⋯⟩
  ·exact⟨4,rfl,⋯,⋯,⋯⟩
 ·have:x=1\/x=2\/x=3\/x=4\/x=5\/x=6:=⋯
  rcases this with rfl|rfl|rfl|rfl|rfl|rfl
  ·exact⟨1,rfl,⋯,⋯,⋯⟩
  ·exact⟨4,rfl,⋯,⋯,⋯⟩
  ·exact⟨5,rfl,⋯,⋯,⋯⟩
  ·exact⟨2,rfl,⋯,⋯,⋯⟩
  ·exact⟨3,rfl,⋯,⋯,⋯⟩
  ·exact⟨6,rfl,⋯,⋯,⋯⟩
theorem JM(O:Pr p)(hn:n<=lim)(I:t<n)(w P:Nat->Int)(z:∀i,i<n->0<=w i/\w i<p):
 ky [.int p,.tup<|zH n w,.tup<|zH n P,.int t]=cq (.val<|.tup<|zH n λi=>(w i-w t*P i)%p):=by
 have Y:=z t I;have Z:=O.le;have U x:XM (w t) x=cI:=ZR _ _ ⋯ ⋯;by_cases b:w t=0
 ·simp[ky,jv,zN,jK,I,b]
  apply vi;intro i a;rw[Om (z i a).1 (z i a).2]
 ·simp[ky,jv,zN,jK,I,b,wD,hn,jm,xT,Mm]
  rw[zw (r:=λi=>D.int<|w i-w t*P i)]
  ·rw[<-qG]
   simp[ZY _ O.pos hn]
  ·intro i a
   refine zy rfl rfl ?_;simp[U]
theorem WI{l:UX}{r t:Nat}(z:∀k m,k<m->m<r->l k<l m)(I:∀k,k<r->l k<t):r<=t:=by
 have O:∀k,k<r->k<=l k:=by
  intro k
  induction k with
  |zero=>intro _;exact NJ _
  |succ k U=>
   intro Y;have a:=U ⋯;have Z:=z k (k+1) ⋯ Y;lia
 cases r with
 |zero=>exact NJ _
 |succ r=>
  have a:=O r ⋯;have Z:=I r ⋯;lia
def Un(r:Nat)(B:Nat->Vc)(m:Nat)(W:Nat->Vc):Vc->Prop:=λv=>eK r B v\/eK m W v
structure Dc(p:Int)(n m:Nat)(W:Nat->Vc)(t r:Nat)(B:Nat->Vc)(l:UX)(Wt:Nat->Vc):Prop where
 m4:∀j i,j<m->i<n->0<=Wt j i/\Wt j i<p
 DX:∀j i,j<m->i<t->Wt j i=0
 Dq:il p n r B l
 lt:∀k,k<r->l k<t
 span:∀v,Span p n (Un r B m Wt) v↔Span p n (eK m W) v
section
variable{p:Int}{n m:Nat}{W:Nat->Vc}{t r:Nat}{B:Nat->Vc}{l:UX}{Wt:Nat->Vc}
theorem Dc.skip(h:Dc p n m W t r B l Wt)(hz:∀j,j<m->Wt j t=0):Dc p n m W (t+1) r B l Wt:=
 ⟨h.m4,λj i I a=>by
  rcases MQ i t with q|q
  ·exact h.DX j i I q
  ·have:i=t:=⋯
   subst this;exact hz j I,h.Dq,λk O=>NM<|h.lt k O,h.span⟩
def jo(p:Int)(P:Vc)(t:Nat)(w:Vc):Vc:=λi=>(w i-w t*P i)%p
def dq(p:Int)(P:Vc)(t r:Nat)(B:Nat->Vc):Nat->Vc:=λk=>if k<r then jo p P t (B k)else P
def rE(t r:Nat)(l:UX):Nat->Nat:=λk=>if k<r then l k else t
theorem J5(I:Span p n G P)(z:Span p n G w):Span p n G (jo p P t w):=
 (I.add z (-(w t))).congr λi _=>by unfold jo;rw[ND];congr 1;rw[Int.neg_mul];lia
theorem au(I:Span p n G P)(z:Span p n G (jo p P t w)):Span p n G w:=
 (I.add z<|w t).congr λi _=>by unfold jo;rw[NW,ND,<-NW];congr 1;lia
theorem Dc.next(hp:Pr p)(h:Dc p n m W t r B l Wt)(ht:t<n)(a8:j0<m)(hy:Wt j0 t*y%p=1)(Y:∀i,i<n->P i=y*Wt j0 i%p):
 Dc p n m W (t+1) (r+1) (dq p P t r B) (rE t r l) (λj=>jo p P t<|Wt j):=by
 have E:=hp.pos;have x:P t=1:=by rw[Y t ht,Pe];exact hy
 have d i:i<t->P i=0:=λa=>by rw[Y i ⋯,h.DX j0 i a8 a];simp
 have F i:i<n->0<=P i/\P i<p:=λa=>by rw[Y i a];exact⟨Nj _ ⋯,Ng _ E⟩
 have A:∀(w:Vc) i,0<=jo p P t w i/\jo p P t w i<p:=λw i=>⟨Nj _ ⋯,Ng _ E⟩;have Z:∀(w:Vc) i,i<t->0<=w i->w i<p->jo p P t w i=w i:=λw i a K L=>by unfold jo;rw[d i a,Int.mul_zero,Int.sub_zero];exact Om K L
 have C:∀w:Vc,jo p P t w t=0:=λw=>by unfold jo;rw[x,Int.mul_one,Int.sub_self];simp
 refine⟨λj i O a=>A _ _,λj i O a=>?_,⟨λk I=>?_,λk q H M=>?_,λk I=>?_,λk j I O=>?_,λk q I M J=>?_,λk i I a=>?_⟩,λk I=>?_,λv=>?_⟩
 ·rcases MQ i t with q|q
  ·have e:=h.DX j i O q
   rw[Z _ i q ⋯ ⋯];exact e
  ·have:i=t:=⋯
   subst this;exact C _
 ·unfold rE;split
  ·rename_i q;exact h.Dq.lt k q
  ·exact ht
 ·unfold rE
  have I:k<r:=⋯
  rw[UJ I];split
  ·rename_i z;exact h.Dq.mono k q H z
  ·exact h.lt k I
 ·unfold rE dq;split
  ·rename_i q
   have e:=h.Dq.one k q;have b:=h.lt k q;rw[Z _ _ b ⋯ (by have:=hp.two;lia)];exact e
  ·exact x
 ·unfold dq;unfold rE at O;split at O
  ·rename_i q
   have e:=h.Dq.m6 k j q O;have b:=h.lt k q;rw[UJ q,Z _ _ ⋯ ⋯ ⋯];exact e
  ·rename_i q
   rw[UY q];exact d j O
 ·unfold dq rE
  by_cases u:k<r
  ·rw[UJ u]
   by_cases U:q<r
   ·rw[UJ U]
    have e:=h.Dq.wy k q u U J;have b:=h.lt q U;rw[Z _ _ b ⋯ ⋯];exact e
   ·rw[UY U];exact C _
  ·rw[UY u]
   have U:q<r:=⋯
   rw[UJ U];exact d _<|h.lt q U
 ·unfold dq;split
  ·exact A _ _
  ·exact F i a
 ·unfold rE;split
  ·rename_i q;exact NM<|h.lt k q
  ·exact Ou _
 ·rw[<-h.span v]
  have f:Span p n (Un r B m Wt) P:=((Span.gen (p:=p) (n:=n) (G:=Un r B m Wt) (g:=Wt j0)<|.inr ⟨j0,a8,rfl⟩).smul y).congr λi a=>by rw[Y i a,ND]
  have ad:Span p n (Un (r+1) (dq p P t r B) m λj=>jo p P t<|Wt j) P:=.gen (.inl ⟨r,Ou r,by unfold dq;rw[UY (Nq r)]⟩);constructor
  ·refine λs=>s.le λg o=>?_
   rcases o with⟨k,I,rfl⟩|⟨j,O,rfl⟩
   ·unfold dq;split
    ·rename_i q;exact J5 f<|.gen<|.inl ⟨k,q,rfl⟩
    ·exact f
   ·exact J5 f<|.gen<|.inr ⟨j,O,rfl⟩
  ·refine λs=>s.le λg o=>?_
   rcases o with⟨k,I,rfl⟩|⟨j,O,rfl⟩
   ·refine au (t:=t) ad (.gen<|.inl ⟨k,NM I,?_⟩)
    unfold dq;rw[UJ I]
   ·exact au (t:=t) ad<|.gen<|.inr ⟨j,O,rfl⟩
theorem Dc.done(h:Dc p n m W n r B l Wt)(v:Vc):Span p n (eK r B) v↔Span p n (eK m W) v:=by
 rw[<-h.span v];constructor
 ·exact λO=>O.le λg I=>.gen (.inl I)
 ·refine λO=>O.le λg I=>?_
  rcases I with I|⟨j,U,rfl⟩
  ·exact .gen I
  ·exact .zero λi a=>by rw[h.DX j i U a];simp
theorem lA(O:True)(P:Vc):zP (r+1) n (dq p P t r B)=zP r n (λk=>jo p P t<|B k)++[.tup (zH n P)]:=by
 unfold zP;rw[Ox,Nx];congr 1
 ·apply MI
  intro k I;have:=Mn.mp I;simp[dq,this]
 ·simp[dq]
end
theorem vx{p:Int}(z:Pr p){n m:Nat}(hn:n<=200)(hm:m<=lim)(kk:Sk)(W:Nat->Vc):
 ∃r B l,xJ [.int p,.int n,su kk (zP m n W)]=cq (.own<|zP r n B)/\il p n r B l/\∀v,Span p n (eK r B) v↔Span p n (eK m W) v:=by
 have hl:=jk;have a:n<=lim:=⋯
 have C:=z.pos;have K:=VG (T:=.nm 5) (F:=ZS)
  (λt J=>∃r B l Wt o s f h,J=[vI p,vI n,.val<|su kk<|zP m n W,.val<|.lst<|zP m n Wt,.own<|zP r n B,o,s,f,h]/\Dc p n m W t r B l Wt)
  ((Ml n).map λ(i:Nat)=>D.int i) 0 [vI p,vI n,.val<|su kk<|zP m n W,.val<|.lst<|zP m n λj i=>W j i%p,.own [],.no,.no,.no,.no]
  ⟨0,λ_ _=>0,λ_=>0,λj i=>W j i%p,.no,.no,.no,.no,rfl,λj i _ _=>⟨Nj _ ⋯,Ng _ C⟩,λj i _ b=>absurd b<|Nb _,
   ⟨λk O=>absurd O<|Nb _,λk q _ O=>absurd O<|Nb _,λk O=>absurd O<|Nb _,λk j O=>absurd O<|Nb _,λk q O=>absurd O<|Nb _,λk i O=>absurd O<|Nb _⟩,
   λk O=>absurd O<|Nb _,λv=>⟨λA=>A.le λg w=>by
    rcases w with⟨k,O,_⟩|⟨j,Y,rfl⟩
    ·exact absurd O<|Nb _
    ·exact(Span.gen (p:=p) (n:=n) (G:=eK m W) (g:=W j) ⟨j,Y,rfl⟩).congr λi _=>ND _ _,λA=>A.le λg w=>by
    obtain⟨j,Y,rfl⟩:=w;exact(Span.gen (p:=p) (n:=n) (G:=Un 0 (λ_ _=>0) m λj i=>W j i%p) (g:=λi=>W j i%p)<|.inr ⟨j,Y,rfl⟩).congr λi _=>(ND _ _).symm⟩⟩ (by
   rintro t d J u ⟨r,B,l,Wt,o,s,f,h,rfl,U⟩;rw[Og]at U ⊢;have Z:t<n:=by have:=(MR.mp u).1;simpa using this
   have L:d=.int t:=by simp[Z]at u;exact u.symm
   subst L;have e:zT (.nm 0) (sB<|zG mc (dj (zm 0)<|zg 1)<|sI 0) (zg 0) [Cell.no,vI t] (zP m n Wt)=cq (((Ml m).filter λj=> !decide (Wt j t=0)).map λj=>D.tup<|zH n<|Wt j):=by unfold zP;refine jV _ _ _ λj Y=>⟨_,rfl,?_,λ_=>rfl⟩;simp[Z]
   have hr:r<=t:=WI U.Dq.mono U.lt;have M:r<=lim:=⋯
   cases hf:(Ml m).filter λj=> !decide (Wt j t=0)with
   |nil=>
    have hz j:j<m->Wt j t=0:=λY=>by apply NO;intro E;have:j∈(Ml m).filter λj=> !decide (Wt j t=0):=Nf.mpr ⟨Mn.mpr Y,by simp[E]⟩;rw[hf]at this;simp at this
    rw[hf]at e;refine⟨_,.inr ?_,r,B,l,Wt,vI t,.val<|.lst [],f,h,rfl,U.skip hz⟩;simp[ZS];rw[jK];simp[jK,jm,xT,Mm,e,hm]
   |cons I rest=>
    have ad:I∈(Ml m).filter λj=> !decide (Wt j t=0):=by rw[hf];exact MS
    have H:I<m:=Mn.mp (Nf.mp ad).1;have E:Wt I t≠0:=by simpa using (Nf.mp ad).2
    have N:=U.m4 I t H Z;obtain⟨y,ey,y1,y2,yy⟩:=Wb z (x:=Wt I t) ⋯ N.2;rw[hf]at e;have nx:=U.next z Z H yy (P:=λi=>y*Wt I i%p) λi _=>rfl;refine⟨_,.inl ?_,r+1,dq p (λi=>y*Wt I i%p) t r B,rE t r l,λj=>jo p (λi=>y*Wt I i%p) t<|Wt j,vI t,.val<|.lst<|(I::rest).map λj=>D.tup<|zH n<|Wt j,vI y,.val<|.tup<|zH n λi=>y*Wt I i%p,rfl,nx⟩;have b9:=z.le;have cy x:XM y x=cI:=ZR _ _ ⋯ ⋯;have Q:zT (.nm 0) jO (zG yS (zg 1)<|zg 0) [Cell.no,vI y] (zH n<|Wt I)=cq (zH n λi=>y*Wt I i):=by rw[qG,qG];refine zw _ _ λi b=>zy rfl rfl ?_;simp[cy]
    have R:zT (.nm 0) jO (zD ky<|zb (zg 1)<|zb (zg 0)<|zb (zg 3)<|zb (zg 2) zB) [Cell.no,vI p,vI t,Cell.val (.tup<|zH n λi=>y*Wt I i%p)] (zP m n Wt)=cq (zP m n λj=>jo p (λi=>y*Wt I i%p) t<|Wt j):=by unfold zP;refine zw _ _ λj Y=>zy rfl rfl ?_;simp[JM z a Z (Wt j) (λi=>y*Wt I i%p) λi b=>U.m4 j i (Mn.mp Y) b];rfl
    have S:zT (.nm 0) jO (zD ky<|zb (zg 1)<|zb (zg 0)<|zb (zg 3)<|zb (zg 2) zB) [Cell.no,vI p,vI t,Cell.val (.tup<|zH n λi=>y*Wt I i%p)] (zP r n B)=cq (zP r n λj=>jo p (λi=>y*Wt I i%p) t<|B j):=by unfold zP;refine zw _ _ λj Y=>zy rfl rfl ?_;simp[JM z a Z (B j) (λi=>y*Wt I i%p) λi b=>U.Dq.m4 j i (Mn.mp Y) b];rfl
    have X:r+1<=lim:=⋯
    rw[lA trivial];simp[ZS];rw[jK];simp[jK,jm,xT,Mm,e,hm,a,Z,ey,Q,ZY _ C a,R,S,M,X])
 obtain⟨γ',e1,r,B,l,Wt,o,s,f,h,rfl,U⟩:=K;simp only[MN,Od,Og]at U;refine⟨r,B,l,?_,U.Dq,U.done⟩;have b3:zT (.nm 0) jO (zD xZ<|zb (zg 1)<|zb (zg 0) zB) [Cell.no,vI p] (zP m n W)=cq (zP m n λj i=>W j i%p):=by unfold zP;refine zw _ _ λj Y=>zy rfl rfl ?_;simp[mf _ C a]
 have e0:xJ [.int p,.int n,su kk (zP m n W)]=jv 9 (zR (jG 3<|jU<|zV (zY<|zm 2) (.nm 0) 1 [0] jO (zD xZ<|zb (zg 1)<|zb (zg 0) zB))<|zR (kB 4<|jL zB)<|zR (Zk (jS<|zg 1) (.nm 5) ZS)<|JO 4) [.int p,.int n,su kk (zP m n W)]:=rfl;rw[e0];simp[jv,zN,jK,hm,jm,xT,Mm,b3,a,q8];rw[qG n λi=>(i:Int),e1];simp
theorem wC{p:Int}(I:Pr p){n m:Nat}(Y:n<=100)(O:m<=lim)(z:Sk)(W:Nat->Vc):
 ∃r B l,xJ [.int p,.int n,su z (zP m n W)]=cq (.own<|zP r n B)/\il p n r B l/\∀v,Span p n (eK r B) v↔Span p n (eK m W) v:=vx I ⋯ O z W
def Xj{z:Type}(q:Nat)(x:z)(f:Nat->z):Nat->z:=λk=>if k<q then f k else if k=q then x else f (k-1)
def JT(l:UX)(r x:Nat):Nat:=((Ml r).filter λk=>decide<|l k<x).length
theorem Yr:∀{r:Nat},(∀k m,k<m->m<r->l k<l m)->(∀k,k<r->l k≠x)->JT l r x<=r/\(∀k,k<JT l r x->l k<x)/\∀k,JT l r x<=k->k<r->x<l k
 |0,_,_=>⟨Mq _,λk I=>absurd I (by simp[JT]),λk _ I=>absurd I<|Nb _⟩
 | r+1,hm,J'=>by
  obtain⟨f,O,U⟩:=Yr (r:=r) (x:=x) (λk m a b=>hm k m a ⋯) λk I=>J' k ⋯;have e:JT l (r+1) x=JT l r x+if l r<x then 1 else 0:=by unfold JT;rw[Ox,RY,Nv];by_cases q:l r<x<;>simp[q]
  by_cases q:l r<x
  ·rw[e,UJ q]
   have Y:JT l r x=r:=by
    rcases MQ (JT l r x) r with z|z
    ·have Z:=U (JT l r x) (Mq _) z
     have d:=hm (JT l r x) r z<|Ou r;lia
    ·lia
   rw[Y];refine⟨Mq _,λk I=>?_,λk a b=>absurd b ⋯⟩;rcases MQ k r with z|z
   ·exact O k ⋯
   ·have:k=r:=⋯
    subst this;exact q
  ·rw[e,UY q,Nat.add_zero]
   refine⟨⋯,O,λk a b=>?_⟩;rcases MQ k r with z|z
   ·exact U k a z
   ·have:k=r:=⋯
    subst this;have:=J' k b;lia
section
variable{p:Int}{n r:Nat}{B:Nat->Vc}{l:UX}{w:Vc}
structure F3(p:Int)(n r:Nat)(B:Nat->Vc)(l:UX)(w:Vc)(k:Nat)(R:Vc):Prop where
 m4:∀i,i<n->0<=R i/\R i<p
 DX:∀q,q<k->R (l q)=0
 eqv:∀G,(∀k,k<r->Span p n G (B k))->(Span p n G w↔Span p n G R)
theorem F3.next(Z:Pr p)(Y:il p n r B l)(h:F3 p n r B l w k R)(I:k<r):F3 p n r B l w (k+1) (jo p (B k) (l k) R):=by
 have a:=Z.pos;refine⟨λi _=>⟨Nj _ ⋯,Ng _ a⟩,λq b=>?_,λG O=>?_⟩
 ·unfold jo
  rcases MQ q k with z|z
  ·rw[h.DX q z,Y.wy k q I ⋯ ⋯];simp
  ·have:q=k:=⋯
   subst this;rw[Y.one q I];simp
 ·rw[h.eqv G O]
  exact⟨λU=>J5 (O k I) U,λU=>au (O k I) U⟩
theorem Vz(O:q<=r)(U:k<r+1):(k=q/\Xj q x f k=x)\/∃I,I<r/\Xj q x f k=f I/\((k<q/\I=k)\/(q<k/\I+1=k)):=by
 unfold Xj;rcases Sv k q with z|z|z
 ·right;exact⟨k,⋯,by rw[UJ z],.inl ⟨z,rfl⟩⟩
 ·left;subst z;exact⟨rfl,by rw[UY (Nq _),UJ rfl]⟩
 ·right;exact⟨k-1,⋯,by rw[UY ⋯,UY ⋯],.inr ⟨z,⋯⟩⟩
theorem J_:Xj q x f q=x:=by unfold Xj;rw[UY (Nq _),UJ rfl]
theorem Ab:∃I,(I<q/\I=k\/q<I/\I=k+1)/\Xj q x f I=f k:=by
 rcases MQ k q with z|z
 ·exact⟨k,.inl ⟨z,rfl⟩,by unfold Xj;rw[UJ z]⟩
 ·exact⟨k+1,.inr ⟨⋯,rfl⟩,by unfold Xj;rw[UY ⋯,UY ⋯];rfl⟩
theorem Ad(hp:Pr p)(Z:il p n r B l)(ha:a<n)(h1:R a=1)(hz:∀i,i<a->R i=0)(hl:∀k,k<r->R (l k)=0)(hR:∀i,i<n->0<=R i/\R i<p):
 il p n (r+1) (Xj (JT l r a) R λk=>jo p R a<|B k) (Xj (JT l r a) a l):=by
 have N:=hp.pos;have F k:k<r->l k≠a:=λO e=>by have:=hl k O;rw[e,h1]at this;lia
 obtain⟨M,P,Q⟩:=Yr Z.mono F;have J:∀(w:Vc) i,0<=jo p R a w i/\jo p R a w i<p:=λw i=>⟨Nj _ ⋯,Ng _ N⟩;have G:∀w:Vc,jo p R a w a=0:=λw=>by unfold jo;rw[h1,Int.mul_one,Int.sub_self];simp
 have A:∀(w:Vc) k,k<r->0<=w (l k)->w (l k)<p->jo p R a w (l k)=w (l k):=λw k O h1 K=>by unfold jo;rw[hl k O,Int.mul_zero,Int.sub_zero];exact Om h1 K
 have H k j:k<r->j<l k->jo p R a (B k) j=0:=λO s=>by
  unfold jo;rw[Z.m6 k j O s];rcases MQ a (l k)with z|z
  ·rw[Z.m6 k a O z];simp
  ·rw[hz j ⋯];simp
 have two:=hp.two;have Y:∀k,k<r+1->(k=JT l r a/\Xj (JT l r a) R (λk=>jo p R a<|B k) k=R/\Xj (JT l r a) a l k=a)\/
  ∃I,I<r/\Xj (JT l r a) R (λk=>jo p R a<|B k) k=jo p R a (B I)/\Xj (JT l r a) a l k=l I/\((k<JT l r a/\I=k)\/(JT l r a<k/\I+1=k)):=by
  intro k O;rcases Vz (x:=R) (f:=λk=>jo p R a<|B k) M O with⟨b,t⟩|⟨I,U,b,t⟩
  ·left;refine⟨b,t,?_⟩;subst b;exact J_
  ·right
   refine⟨I,U,b,?_,t⟩;rcases t with⟨C,E⟩|⟨C,E⟩
   ·unfold Xj;rw[UJ C,E]
   ·unfold Xj;rw[UY ⋯,UY ⋯];congr 1;lia
 refine⟨λk O=>?_,λk m S u=>?_,λk O=>?_,λk j O s=>?_,λk m O u T=>?_,λk i O L=>?_⟩
 ·rcases Y k O with⟨_,_,e⟩|⟨I,U,_,e,_⟩
  ·rw[e];exact ha
  ·rw[e];exact Z.lt I U
 ·rcases Y k ⋯with⟨z,_,e⟩|⟨I,U,_,e,z⟩<;>rcases Y m u with⟨y,_,h⟩|⟨g,d,_,h,y⟩<;>rw[e,h]
  ·lia
  ·exact Q g ⋯ d
  ·exact P I ⋯
  ·exact Z.mono I g ⋯ d
 ·rcases Y k O with⟨_,b,e⟩|⟨I,U,b,e,_⟩<;>rw[b,e]
  ·exact h1
  ·have o:=Z.one I U
   rw[A _ I U ⋯ ⋯];exact o
 ·rcases Y k O with⟨_,b,e⟩|⟨I,U,b,e,_⟩<;>rw[b]<;>rw[e]at s
  ·exact hz j s
  ·exact H I j U s
 ·rcases Y k O with⟨z,b,_⟩|⟨I,U,b,_,z⟩<;>rcases Y m u with⟨y,_,h⟩|⟨g,d,_,h,y⟩<;>rw[b,h]
  ·lia
  ·exact hl g d
  ·exact G _
  ·have o:=Z.wy I g U d ⋯
   rw[A _ g d ⋯ ⋯];exact o
 ·rcases Y k O with⟨_,b,_⟩|⟨I,U,b,_,_⟩<;>rw[b]
  ·exact hR i L
  ·exact J _ _
theorem Af(I:q<=r)(z:Span p n G R)(O:∀k,k<r->Span p n G (F k)):∀g,eK (r+1) (Xj q R F) g->Span p n G g:=by
 rintro g ⟨k,U,rfl⟩;rcases Vz (x:=R) (f:=F) I U with⟨_,e⟩|⟨Y,Z,e,_⟩<;>rw[e]
 ·exact z
 ·exact O Y Z
theorem uT(O:q<=r):eK (r+1) (Xj q R F) R/\∀k,k<r->eK (r+1) (Xj q R F) (F k):=by refine⟨⟨q,⋯,J_.symm⟩,λk U=>?_⟩;obtain⟨I,h,e⟩:=Ab (q:=q) (x:=R) (f:=F) (k:=k);exact⟨I,⋯,e.symm⟩
theorem oB(hp:Pr p)(hb:il p n r B l)(ha:a<n)(hs:∀v,Span p n (eK r B) v↔Span p n (eK j W) v)(U:F3 p n r B l (W j) r R)(hy:y*R a%p=1)(Y:∀i,i<n->R' i=y*R i%p)(Z:JT l r a<=r)(v:Vc):
 Span p n (eK (r+1)<|Xj (JT l r a) R' λk=>jo p R' a<|B k) v↔Span p n (eK (j+1) W) v:=by
 have w v:Span p n (eK j W) v->Span p n (eK (j+1) W) v:=λO=>O.le λg ⟨i,b,e⟩=>.gen ⟨i,⋯,e⟩;have a1 k:k<r->Span p n (eK (j+1) W) (B k):=λI=>w _<|(hs _).mp (.gen ⟨k,I,rfl⟩);have m:Span p n (eK (j+1) W) R:=(U.eqv _ a1).mp (.gen ⟨j,⋯,rfl⟩);have d:Span p n (eK (j+1) W) R':=(m.smul y).congr λi b=>by rw[Y i b,ND]
 obtain⟨u,m2⟩:=uT (R:=R') (F:=λk=>jo p R' a<|B k) Z;have f:Span p n (eK (r+1)<|Xj (JT l r a) R' λk=>jo p R' a<|B k) R':=.gen u;have h k:k<r->Span p n (eK (r+1)<|Xj (JT l r a) R' λk=>jo p R' a<|B k) (B k):=λI=>au (t:=a) f<|.gen<|m2 k I;have o:Span p n (eK (r+1)<|Xj (JT l r a) R' λk=>jo p R' a<|B k) R:=(f.smul<|R a).congr λi b=>by rw[Y i b,Vq,<-RI,Pe (R a) y,MK,hy,Int.one_mul,ND]
 constructor
 ·exact λO=>O.le<|Af Z d λk I=>J5 d<|a1 k I
 ·refine λO=>O.le ?_
  rintro g ⟨i,b,rfl⟩;rcases MQ i j with z|z
  ·exact((hs _).mpr (.gen ⟨i,z,rfl⟩)).le λg s=>by obtain⟨k,I,e⟩:=s;rw[e];exact h k I
  ·have:i=j:=⋯
   subst this;exact(U.eqv _ h).mpr o
theorem fL(hs:∀v,Span p n (eK r B) v↔Span p n (eK j W) v)(O:F3 p n r B l (W j) r R)(Y:∀i,i<n->R i=0)(v:Vc):Span p n (eK r B) v↔Span p n (eK (j+1) W) v:=by
 constructor
 ·exact λI=>((hs v).mp I).le λg ⟨i,a,e⟩=>.gen ⟨i,⋯,e⟩
 ·refine λI=>I.le ?_
  rintro g ⟨i,a,rfl⟩;rcases MQ i j with z|z
  ·exact(hs _).mpr (.gen ⟨i,z,rfl⟩)
  ·have:i=j:=⋯
   subst this;exact(O.eqv _ λk U=>.gen ⟨k,U,rfl⟩).mpr (.zero λi a=>by rw[Y i a];simp)
end
section
variable{p:Int}{n m r:Nat}{G:Vc->Prop}
theorem Span.sum{u:Nat->Vc}(c:Nat->Int):∀{m:Nat},(∀k,k<m->Span p n G (u k))->Span p n G λi=>zq (λk=>c k*u k i) m
 |0,_=>.zero λi _=>by simp[zq]
 |m+1,h=>(((h m ⋯).add (Span.sum c (m:=m) λk I=>h k ⋯) (c m))).congr λi _=>by simp[zq]
def Rk(p:Int)(n m:Nat)(W:Nat->Vc)(r:Nat):Prop:=∃B l,il p n r B l/\∀v,Span p n (eK r B) v↔Span p n (eK m W) v
theorem Ji(U:Pr p)(h:Rk p n m W r)(h':Rk p n m W r'):r=r':=by obtain⟨B,l,Y,a⟩:=h;obtain⟨b,d,Z,O⟩:=h';exact(Xu U Y Z (λv I=>(O v).mpr ((a v).mp I))<|λv I=>(a v).mpr ((O v).mp I)).1
theorem aF(I:Pr p)(O:il p n r B l)(z:∀i,i<n->0<=w i/\w i<p):∀k,k<=r->∃R,F3 p n r B l w k R
 |0,_=>⟨w,z,λq U=>absurd U<|Nb _,λG _=>Iff.rfl⟩
 |k+1,h=>by obtain⟨R,a⟩:=aF I O z k ⋯;exact⟨_,a.next I O ⋯⟩
theorem br:∀(n:Nat) (R:Vc),(∀i,i<n->R i=0)\/∃a,a<n/\R a≠0/\∀i,i<a->R i=0
 |0,R=>.inl λi b=>absurd b<|Nb _
 | n+1,R=>by
  rcases br n R with h|⟨a,h1,I,O⟩
  ·by_cases e:R n=0
   ·exact .inl λi b=>by rcases MQ i n with z|z;exact h i z;rw[show i=n by lia];exact e
   ·exact .inr ⟨n,⋯,e,h⟩
  ·exact .inr ⟨a,⋯,I,O⟩
theorem pU(O:Pr p)(W:Nat->Vc)(z:∀j i,0<=W j i/\W j i<p):∀m,∃r,r<=m/\Rk p n m W r
 |0=>⟨0,Mq _,λ_ _=>0,λ_=>0,⟨λk I=>absurd I<|Nb _,λk q _ I=>absurd I<|Nb _,λk I=>absurd I<|Nb _,λk j I=>absurd I<|Nb _,λk q I=>absurd I<|Nb _,λk i I=>absurd I<|Nb _⟩,
  λv=>⟨λZ=>Z.le λg ⟨k,I,_⟩=>absurd I<|Nb _,λZ=>Z.le λg ⟨k,I,_⟩=>absurd I<|Nb _⟩⟩
 | m+1=>by
  obtain⟨r,t,B,l,U,b⟩:=pU O W z m;have s:=O.pos;obtain⟨R,Y⟩:=aF O U (w:=W m) (λi _=>z m i) r<|Mq _;rcases br n R with h0|⟨a,ha,a3,a4⟩
  ·exact⟨r,⋯,B,l,U,fL b Y h0⟩
  ·have f:=Y.m4 a ha
   obtain⟨y,_,_,d⟩:=ED O (x:=R a) ⋯ f.2;have h k:k<r->l k≠a:=λI e=>by have:=Y.DX k I;rw[e]at this;exact a3 this
   exact⟨r+1,⋯,_,_,Ad O U (R:=λi=>(y:Int)*R i%p) ha d (λi o=>by rw[a4 i o];simp) (λk I=>by rw[Y.DX k I];simp) λi _=>⟨Nj _ ⋯,Ng _ s⟩,
    oB O (R':=λi=>(y:Int)*R i%p) U ha b Y d (λi _=>rfl) (Yr U.mono h).1⟩
theorem fV(I:Pr p)(m:Nat)(W:Nat->Vc):∃r,r<=m/\Rk p n m W r:=by
 obtain⟨r,U,B,l,Y,a⟩:=pU (n:=n) I (λj i=>W j i%p) (λj i=>⟨Nj _ (by have:=I.pos;lia),Ng _ I.pos⟩) m;refine⟨r,U,B,l,Y,λv=>(a v).trans ⟨λh=>h.le λg ⟨k,O,e⟩=>?_,λh=>h.le λg ⟨k,O,e⟩=>?_⟩⟩
 ·subst e;exact(Span.gen (g:=W k) ⟨k,O,rfl⟩).congr λi _=>by rw[ND]
 ·subst e;exact(Span.gen (g:=λi=>W k i%p) ⟨k,O,rfl⟩).congr λi _=>by rw[ND]
theorem tM(I:Pr p){b:Nat}(_:n<=100)(_:m<=b)(W:Nat->Vc):∃r,r<=m/\Rk p n m W r:=fV I m W
theorem Ca(hp:Pr p)(h:Rk p n m W r)(h':Rk p n m' W' r')(hw:∀j,j<m->Span p n (eK m' W') (W j)):r<=r':=by
 obtain⟨B,l,U,w⟩:=h;obtain⟨A,b,Y,f⟩:=h';have d k:k<r->∃q,q<r'/\b q=l k:=λI=>WS Y ((f _).mpr (((w _).mp (.gen ⟨k,I,rfl⟩)).le λg ⟨j,u,e⟩=>e ▸ hw j u)) (U.lt k I) (by rw[U.one k I,hp.one];decide) λi t=>by rw[U.m6 k i I t];simp
 have o:∀k,k<r->∀q,q<r'->b q=l k->k<=q:=by
  intro k
  induction k with
  |zero=>intro _ q _ _;exact NJ _
  | succ k x=>
   intro I q Z e;obtain⟨O,a,s⟩:=d k ⋯;have C:=x ⋯ O a s;have E:=U.mono k (k+1) ⋯ I;rcases MQ O q with z|z
   ·lia
   ·rcases MQ q O with y|y
    ·have:=Y.mono q O y a
     lia
    ·have:q=O:=⋯
     subst this;lia
 rcases Nat.eq_zero_or_pos r with z|z
 ·lia
 ·obtain⟨q,Z,e⟩:=d (r-1) ⋯
  have:=o (r-1) ⋯ q Z e;lia
end
theorem lB(h w f):deep (.lst<|zP h w f)<=2:=bA h w f
theorem nV(h w f):i9 (.lst<|zP h w f)=cI:=gT h w f
theorem aS(h w f):l8 (.lst<|zP h w f)=cI:=gU (lB h w f) ⋯<|nV h w f
section
variable{p:Int}{n m r h w:Nat}
theorem JW{l:UX}(h:Nat):∀{r:Nat},(∀k m,k<m->m<r->l k<l m)->∃s,s<=r/\(∀k,k<s->l k<h)/\∀k,s<=k->k<r->h<=l k
 |0,_=>⟨0,Mq _,λk I=>absurd I<|Nb _,λk _ I=>absurd I<|Nb _⟩
 | r+1,hm=>by
  obtain⟨s,a,O,U⟩:=JW h (r:=r) λk m I Y=>hm k m I ⋯;by_cases e:l r<h
  ·refine⟨r+1,Mq _,λk I=>?_,λk a O=>by lia⟩
   rcases MQ k r with z|z
   ·have:=hm k r z ⋯;lia
   ·have:k=r:=⋯
    subst this;exact e
  ·refine⟨s,⋯,O,λk I Z=>?_⟩
   rcases MQ k r with z|z
   ·exact U k I z
   ·have:k=r:=⋯
    subst this;lia
theorem WU(hs:s<=r)(z:∀k,k<s->q k=di)(O:∀k,s<=k->k<r->q k=cI):(Ml r).filter q=(Ml<|r-s).map (s + ·):=by
 obtain⟨d,rfl⟩:∃d,r=s+d:=⟨r-s,⋯⟩;rw[PB,RY];have a:(Ml s).filter q=[]:=List.filter_eq_nil_iff.mpr λk I=>by rw[z k (Mn.mp I)];decide
 have U:((Ml d).map (s + ·)).filter q=(Ml d).map (s + ·):=List.filter_eq_self.mpr λk I=>by obtain⟨i,b,rfl⟩:=Na.mp I;exact O _ ⋯ (by have:=Mn.mp b;lia)
 rw[a,U,F2];rfl
def yu(h:Nat)(u v:Vc):Vc:=λi=>if i<h then u i else v (i-h)
def j9(j:Nat):Vc:=λk=>if j=k then 1 else 0
theorem qm(z:i<h):yu h u v i=u i:=UJ z
theorem qH(i:Nat):yu h u v (h+i)=v i:=by unfold yu;rw[UY ⋯,F2]
theorem wU(h w:Nat)(u v:Vc):zH h u++zH w v=zH (h+w) (yu h u v):=by
 unfold zH;rw[PB,Nx];congr 1
 ·exact MI λi a=>by rw[qm (Mn.mp a)]
 ·rw[Nh]
  exact MI λi _=>by simp only[Sg];rw[qH]
theorem iZ(h w:Nat)(v:Vc):(zH (h+w) v).take h=zH h v:=by unfold zH;rw[<-List.map_take,List.take_range,SR (MF h w)]
theorem lg(h w:Nat)(v:Vc):(zH (h+w) v).drop h=zH w λj=>v (h+j):=by unfold zH;rw[PB,Nx,List.drop_append_of_le_length ⋯,Ro ⋯,Nh];rfl
theorem bD(h w:Nat)(v:Vc):eM (zH (h+w) v) da (cq (h:Int))=zH h v:=by
 have c:¬((h:Int)<0):=⋯
 have e:min h (h+w)=h:=SR<|MF h w;simp[eM,W2,c,e,iZ]
theorem bC(h w:Nat)(v:Vc):eM (zH (h+w) v) (cq (h:Int)) da=zH w λj=>v (h+j):=by
 have c:¬((h:Int)<0):=⋯
 have e:min h (h+w)=h:=SR<|MF h w;have t:∀g:Vc,(zH w g).take w=zH w g:=λg=>Rm ⋯;simp[eM,W2,c,e,lg,t]
theorem av(v:Vc):∀n,YQ (zH n v)=cq ((Ml n).map λi=>v i != 0)
 |0=>rfl
 | n+1=>by
  have I:∀l:List Nat,YQ (l.map λi=>D.int<|v i)=cq (l.map λi=>v i != 0):=by
   intro l
   induction l with
   |nil=>rfl
   |cons a l O=>simp[YQ,Gz,O]
  exact I _
theorem XF(O:il p (h+w) r B l)(Y:r<=lim)(hs:s<=r)(z:∀k,k<s->l k<h)(Z:∀k,s<=k->k<r->h<=l k):
 q9 [.int h,.lst (zP r (h+w) B)]=cq (.own<|zP (r-s) w λk j=>B (s+k)<|h+j):=by
 have U:zT (.nm 0) (QJ<|sB<|Bi<|zC<|aC (zg 0) Wp<|ro<|zg 1) (aC (zg 0) (ro<|zg 1) Wp) [Cell.no,vI h] (zP r (h+w) B)=cq (((Ml r).filter λk=>decide<|h<=l k).map λk=>D.tup<|zH w λj=>B k<|h+j):=by
  unfold zP;refine jV (λk=>decide<|h<=l k) _ _ λk I=>⟨_,rfl,?_,λf=>?_⟩
  ·have I:=Mn.mp I
   simp[bD,av];by_cases e:h<=l k
   ·simp[e]
    intro i d;have:=O.m6 k i I ⋯;simp[this]
   ·simp[e]
    exact⟨l k,⋯,by rw[O.one k I];decide⟩
  ·simp[bC]
 rw[WU hs (λk I=>decide_eq_false (by have:=z k I;lia)) (λk a b=>decide_eq_true<|Z k a b)]at U;simp[q9,jv,zN,Y,jm,xT,Mm,U];unfold zP;rfl
def DF(p:Int)(h w:Nat)(f:UV)(v:Vc):Prop:=∀i,i<h->zq (λj=>f i j*v j) w%p=0
theorem nO{f:UV}{v:Vc}(O:Span p (h+w) (eK w λj=>yu h (λi=>f i j)<|j9 j) v):∀i,i<h->v i%p=zq (λj=>f i j*v (h+j)) w%p:=by
 induction O with
 |@zero v b=>
  intro i a;rw[b i ⋯];have:zq (λj=>f i j*v (h+j)) w%p=zq (λ_=>0) w%p:=jC λj U=>by rw[MK,b (h+j) ⋯];simp
  rw[this,jr];rfl
 |@step v u g c Y l I Z=>
  intro i a;obtain⟨m,k,rfl⟩:=Y;rw[I i ⋯,NW,Z i a,<-NW];have e:zq (λj=>f i j*v (h+j)) w%p=zq (λj=>f i j*u (h+j)+c*(f i j*j9 m j)) w%p:=jC λj U=>by rw[MK,I (h+j) ⋯,<-MK];simp only[qH];rw[SH,TX]
  rw[e,qJ,qz,jB (f:=λj=>f i j*j9 m j) k λj _ d=>by simp[j9,Nr d]];simp[j9,qm a]
theorem ao(O:Pr p)(w:Nat):il p w w j9 id where
 lt:=λk I=>I
 mono:=λk m I _=>I
 one:=λk _=>UJ rfl
 m6:=λk j _ U=>UY (by simp only[id]at U;lia)
 wy:=λk m _ _ Y=>UY (by simp only[id];lia)
 m4:=λk i _ _=>by have:=O.two;unfold j9;split<;>lia
theorem Span.map(t:UX)(I:∀i,i<n'->t i<n)(O:∀g,G g->Span p n' G' λi=>g<|t i)(U:Span p n G v):Span p n' G' λi=>v (t i):=by
 induction U with
 |@zero v b=>exact .zero λi a=>b _<|I i a
 |@step v u g c Y e Z d=>exact((O _ Y).add d c).congr λi a=>Z _<|I i a
theorem Wa(hp:Pr p)(hh:h<=100)(hw:w<=100)(f:UV):
 ∃q K l s,vo [.int p,jR h w f]=cq (.own<|zP q w K)/\il p w q K l/\(∀v,Span p w (eK q K) v↔DF p h w f v)/\Rk p h w (λj i=>f i j) s/\q+s=w:=by
 have hl:=jk;have P:h<=lim:=⋯
 have x:w<=lim:=⋯
 have ad:h+w<=lim:=⋯
 obtain⟨r,B,l,e,O,o⟩:=vx hp (⋯:h+w<=200) x .L λj=>yu h (λi=>f i j)<|j9 j;have Q v:Span p (h+w) (eK r B) v->∀i,i<h->v i%p=zq (λj=>f i j*v (h+j)) w%p:=λY=>nO<|(o v).mp Y;have R:r<=w:=by obtain⟨r',A,C⟩:=fV hp (n:=h+w) w λj=>yu h (λi=>f i j)<|j9 j;rw[Ji hp ⟨B,l,O,o⟩ C];exact A
 have S:w<=r:=by obtain⟨r',A,C⟩:=fV hp (n:=w) r λk j=>B k<|h+j;refine Nl (Ca hp (m:=w) (W:=j9) ⟨j9,id,ao hp w,λv=>Iff.rfl⟩ C λj U=>?_) A;have:=Span.map (n':=w) (G':=eK r λk j=>B k<|h+j) (λi=>h+i) (λi a=>by lia) (λg ⟨k,I,Z⟩=>.gen ⟨k,I,by rw[Z]⟩)<|(o<|yu h (λi=>f i j)<|j9 j).mpr (.gen ⟨j,U,rfl⟩);exact this.congr λi _=>by rw[qH]
 have er:r=w:=Nat.le_antisymm R S;subst er;obtain⟨s,hs,H,b⟩:=JW h O.mono;have eb:=XF O x hs H b;have X:il p r (r-s) (λk j=>B (s+k)<|h+j) (λk=>l (s+k)-h):={
  lt:=λk I=>by have:=O.lt (s+k) ⋯;have:=b (s+k) ⋯ ⋯;lia
  mono:=λk m I E=>by have:=O.mono (s+k) (s+m) ⋯ ⋯;have:=b (s+k) ⋯ ⋯;lia
  one:=λk I=>by have:=b (s+k) ⋯ ⋯;rw[show h+(l (s+k)-h)=l (s+k)by lia];exact O.one _ ⋯
  m6:=λk j I U=>O.m6 _ _ ⋯ ⋯
  wy:=λk m I E y=>by have:=b (s+m) ⋯ ⋯;rw[show h+(l (s+m)-h)=l (s+m)by lia];exact O.wy _ _ ⋯ ⋯ ⋯
  m4:=λk i I a=>O.m4 _ _ ⋯ ⋯}
 refine⟨r-s,_,_,s,?_,X,λv=>⟨λY=>?_,λY=>?_⟩,?_,⋯⟩
 ·have M:=kq f P x
  have N:=yQ (n:=r) x;have ar:zT (.tp [0,1]) jO (zG jX (zg 0)<|zg 1) [Cell.no,Cell.no] ((Ml r).map λj=>D.tup [.tup (zH h λi=>f i j),.tup (zH r λk=>if j=k then 1 else 0)])=cq (zP r (h+r) λj=>yu h (λi=>f i j)<|j9 j):=by unfold zP;refine zw _ _ λj U=>zy rfl rfl ?_;simp[jX,ad,wU];rfl
  have zp:wW (zP r h λi j=>f j i) (zP r r λi j=>if i=j then 1 else 0)=(Ml r).map λj=>D.tup [.tup (zH h λi=>f i j),.tup (zH r λk=>if j=k then 1 else 0)]:=by unfold wW zP;rw[Pq];simp
  have c1:((h:Int)+(r:Int))=((h+r:Nat):Int):=⋯
  simp only[su]at e;rw[<-c1]at e;unfold jR at M N ⊢;have nl:∀T t f γ,zT T t f γ []=cq []:=λ_ _ _ _=>rfl;simp[vo,kW,jv,zN,jK,M,N,zp,x,jm,Mm,ar,nl,e,eb]
 ·intro i a
  induction Y with
  |@zero v hz=>
   have:zq (λj=>f i j*v j) r%p=zq (λ_=>0) r%p:=jC λj U=>by rw[MK,hz j U];simp
   rw[this,jr];rfl
  |@step v u g c hg hu he G=>
   obtain⟨k,I,rfl⟩:=hg;have e1:zq (λj=>f i j*v j) r%p=zq (λj=>f i j*u j+c*(f i j*B (s+k) (h+j))) r%p:=jC λj U=>by rw[MK,he j U,<-MK,SH,TX]
   have J:=Q (B<|s+k) (.gen ⟨s+k,⋯,rfl⟩) i a;have e3:B (s+k) i=0:=O.m6 _ _ ⋯ (by have:=b (s+k) ⋯ ⋯;lia);rw[e3]at J;rw[e1,qJ,qz,NW,G,MK,<-J];simp
 ·
  have b4:Span p (h+r) (eK r B) (yu h (λ_=>0) v):=by
   refine(o _).mpr ((Span.sum (u:=λj=>yu h (λi=>f i j)<|j9 j) v (m:=r) λj U=>.gen ⟨j,U,rfl⟩).congr λi a=>?_);rcases MQ i h with z|z
   ·simp only[qm z]
    rw[zO (g:=λj=>f i j*v j) λj _=>Pe _ _,Y i z];simp
   ·obtain⟨k,rfl⟩:∃k,i=h+k:=⟨i-h,⋯⟩
    simp only[qH];rw[jB (f:=λj=>v j*j9 j k) (i:=k) ⋯ λj _ y=>by simp[j9,y]];simp[j9]
  have co:=Xr O b4;refine(Span.sum (u:=λk j=>B (s+k)<|h+j) (λk=>yu h (λ_=>0) v<|l<|s+k) (m:=r-s) λk I=>.gen ⟨k,I,rfl⟩).congr λj U=>?_;have:=co (h+j) ⋯;rw[qH]at this;rw[this];obtain⟨d,rfl⟩:∃d,r=s+d:=⟨r-s,⋯⟩;rw[F2];have sp:∀(F:Nat->Int) (d:Nat),(∀k,k<s->F k=0)->zq F (s+d)=zq (λk=>F<|s+k) d:=by
   intro F d hF
   induction d with
   |zero=>
    show zq F s=0;rw[zO (g:=λ_=>0) hF,jr]
   |succ d G=>rw[<-TL];simp only[zq];rw[G]
  rw[sp _ d λk I=>by rw[qm (H k I)];simp]
 ·
  refine⟨λk i=>B k i,l,⟨λk I=>H k I,λk m I E=>O.mono k m I ⋯,λk I=>O.one k ⋯,λk j I U=>O.m6 k j ⋯ U,λk m I E y=>O.wy k m ⋯ ⋯ y,λk i I a=>O.m4 k i ⋯ ⋯⟩,λv=>⟨λY=>Y.le λg ⟨k,I,Z⟩=>?_,λY=>Y.le λg ⟨j,U,Z⟩=>?_⟩⟩
  ·subst Z
   exact Span.map (n':=h) (G':=eK r λj i=>f i j) (λi=>i) (λi a=>by lia) (λg ⟨j,U,Z⟩=>(Span.gen (g:=λi=>f i j) ⟨j,U,rfl⟩).congr λi a=>by rw[Z];simp only[qm a])<|(o<|B k).mp (.gen ⟨k,⋯,rfl⟩)
  ·subst Z
   have:=Span.map (n':=h) (G':=eK s λk i=>B k i) (λi=>i) (λi a=>by lia) (λg hZ=>by
    obtain⟨k,I,Z⟩:=hZ;subst Z;rcases MQ k s with z|z
    ·exact .gen ⟨k,z,rfl⟩
    ·exact .zero λi a=>by rw[O.m6 k i I (by have:=b k z I;lia)];simp) ((o<|yu h (λi=>f i j)<|j9 j).mpr (.gen ⟨j,U,rfl⟩))
   exact this.congr λi a=>by rw[qm a]
theorem vn(I:Pr p)(O:h<=20)(z:w<=20)(f:UV):
 ∃q K l s,vo [.int p,jR h w f]=cq (.own<|zP q w K)/\il p w q K l/\(∀v,Span p w (eK q K) v↔DF p h w f v)/\Rk p h w (λj i=>f i j) s/\q+s=w:=Wa I ⋯ ⋯ f
end
@[simp] def HW:=@fQ.eq_1
theorem sC{a b:Bool}(h:hB a=hB b):a=b:=by cases a<;>cases b<;>first|rfl|exact absurd h ⋯
def JU(m m':Nat)(w w':UK):Prop:=m=m'/\∀k,k<m->w k=w' k
instance (m m':Nat) (w w':UK):Decidable (JU m m' w w'):=inferInstanceAs (Decidable (m=m'/\∀k,k<m->w k=w' k))
theorem b_{m m':Nat}{w w':UK}:j7 m w=j7 m' w'↔JU m m' w w':=by
 constructor
 ·intro h
  have a:=qQ m w;rw[h,qQ]at a;have O:m=m':=by have:=congrArg Sy a;simpa using this.symm
  subst O;refine⟨rfl,λk I=>?_⟩;have:=congrArg (λl=>l[k]?) a;simp[I]at this;exact(sC this).symm
 ·rintro⟨rfl,h⟩
  unfold j7;rw[MI λk I=>by rw[h k (Mn.mp I)]]
theorem Yb(m w):l8 (.str<|j7 m w)=cI:=by refine gU (n:=0) (by simp[deep]) ⋯ ?_;show(j7 m w).cps.all (· < 0x110000)=cI;rw[<-Array.all_toList,qQ];simp only[NV];intro c I;obtain⟨k,_,rfl⟩:=Na.mp I;unfold hB;split<;>decide
section
variable{p p':Int}{m m':Nat}{w w':UK}{wd wd':UX}{T T':UW}
theorem Ws:jD (zK p m w wd T)=cq (.T,[.int p,.tup<|zH (m+1) λk=>(wd k:Int),.tup (qZ m w wd T)]):=rfl
theorem AO(k):jD (vD w wd T k)=cq (.T,[.str (kJ<|hB<|w k),jR (eA w wd k) (ez w wd k) (T k)]):=rfl
theorem eT:zT (.nm 0) jO (dj (zm 0)<|sI 0) [Cell.no] (qZ m w wd T)=cq ((Ml m).map λk=>D.str<|kJ<|hB<|w k):=by unfold qZ;refine zw _ _ λk I=>zy rfl rfl ?_;simp[AO]
theorem kn(z:m<=900):qL [zK p m w wd T]=cq (.val<|.str<|j7 m w):=by
 have U:=jk;have I:m<=lim:=⋯
 have st:YU ((Ml m).map λk=>D.str<|kJ<|hB<|w k)=cq ((Ml m).map λk=>kJ<|hB<|w k):=KL _ _;have O:((Ml m).map λk=>kJ<|hB<|w k).all ju=cI:=by simp only[NV];intro x a;obtain⟨k,_,rfl⟩:=Na.mp a;unfold hB;split<;>decide
 have b:ju "" = cI:=by decide +kernel
 simp only[qL,jv,zN];simp only[w9,AX,KB,wu,kF,J8,yv,wx,xV,MT,TV,NB,NZ,Mm,Ra,MW,jI,Ws,Mx,Ni,kE,m?,Np,Fd,Nat.sub_self,Og];rw[V2,UJ I,show jm 1 [] [Cell.val (zK p m w wd T)]=[Cell.no]from rfl,eT];simp only[Ni,Mx,st];rw[UJ ⟨by simpa using I,O,b⟩];rfl
theorem ZZ(z:m<=900)(O:m'<=900):kU [zK p m w wd T,zK p' m' w' wd' T']=cq (.val<|.bl<|decide<|p=p'/\JU m m' w w'):=by
 have I:=kn (p:=p) (wd:=wd) (T:=T) (w:=w) z;have U:=kn (p:=p') (wd:=wd') (T:=T') (w:=w') O;have d:gw (.str<|j7 m w) (.str<|j7 m' w')=cq (.bl<|decide<|JU m m' w w'):=by unfold gw;rw[UJ ⟨Yb m w,Yb m' w'⟩];congr 2;rw[N2];simp only[jn,S1,beq_iff_eq,decide_eq_true_eq];exact b_
 by_cases q:p=p'
 ·simp[kU,jv,zN,Ws,q,I,U,d]
  subst q;simp[I,d]
 ·simp[kU,jv,zN,Ws,q]
end
theorem lJ(xs:List D)(n:Nat)(hn:xs.length=n)(a8:∀i (h:i<n),∃z,xs[i]'(hn ▸ h)=.int z)(b9:n<=63)(k:Int)(hk:0<=k)(bb:k<100000):
 ∃m,j3 [.lst xs,.int k]=cq (.val<|.int m)/\0<=m/\m<1000000007:=by
 have O:∀x:Int,XM x 48271=cI:=λx=>Xt _ _ ⋯ ⋯;have U:∀x:Int,XM 7 x=cI:=λx=>ZR _ _ ⋯ ⋯;have Y:∀x:Int,XM 13 x=cI:=λx=>ZR _ _ ⋯ ⋯;have Z:∀x:Int,XM x 69621=cI:=λx=>Xt _ _ ⋯ ⋯;have e:XM (7*k) k=cI:=Xt _ _ ⋯ ⋯;have I:EY 10 9=cI:=by decide
 have b:EY 10 30=cI:=by decide
 by_cases C:n=0
 ·subst C
  have f:xs=[]:=MX hn;subst f;simp[j3,jv,zN,jK,O,U,Y,Z,e,I,b];lia
 ·have g:0<n:=⋯
  obtain⟨i,L⟩:=Rg (Nj k<|show(n:Int)≠0 by lia);have p:i<n:=by have:=Ng k (show(0:Int)<n by lia);lia
  obtain⟨zag,w⟩:=a8 i p;have Q:hM n (i:Int)=cq i:=by rw[j6,UJ p]
  by_cases J:n=1
  ·subst J
   have l:i=0:=⋯
   subst l;simp[j3,jv,zN,jK,O,U,Y,Z,e,I,b,hn,w];lia
  ·obtain⟨W,f⟩:=a8 0 g
   have l:hM n 0=cq 0:=by have:=j6 n 0;rw[UJ g]at this;exact this
   have A:(0:Int)<(n:Int)-1:=⋯
   have B:(1:Int)<(n:Int):=⋯
   have u:1<n:=⋯
   have S:(n:Int)-1<1073741824:=⋯
   have T:(0:Int)<(n:Int):=⋯
   obtain⟨j,M⟩:=Rg (Nj k<|show(n:Int)-1≠0 by lia);have r:1+j<n:=by have:=Ng k A;lia
   obtain⟨X,H⟩:=a8 (1+j) r;have R:hM n (1+(j:Int))=cq (1+j):=by have:=j6 n<|1+j;rw[UJ r]at this;rw[<-this];congr 1
   have K:0<=k/((n:Int)-1)/\k/((n:Int)-1)<=k:=⟨Int.ediv_nonneg hk ⋯,Int.ediv_le_self _ hk⟩;obtain⟨t,N⟩:=Rg K.1;by_cases y:W%2=1
   ·obtain⟨a,E,be⟩:∃a:Nat,(if (t:Int)<60 then (t:Int)else 60)=a/\a<=60:=by
     split
     ·exact⟨t,rfl,⋯⟩
     ·exact⟨60,rfl,⋯⟩
    have F:inR (a:Int)=cI:=vY ⋯ ⋯;simp[j3,jv,zN,jK,O,U,Y,Z,e,hn,g,r,B,u,f,l,A,S,y,M,R,H,N,I,b];rw[E,UJ F];simp only[Mx,q8,Oj];rw[qG a λi=>(i:Int)];have G:∀(m s:Nat) (v:Int) (c:Cell),∃o d,kD (.nm 3) (jG 2<|zG JI (zg 2)<|zG Ax (qv<|D.int 10)<|qv<|D.int 9) ((PL s m).map λ(i:Nat)=>D.int i) [.val (.lst xs),vI k,vI v,c,.no] =
     cq (.next [.val (.lst xs),vI k,vI o,d,.no]):=by
     intro m
     induction m with
     |zero=>intro s v c;exact⟨v,c,rfl⟩
     |succ m P=>
      intro s v c;rw[OL,MT,ql];obtain⟨o,d,h⟩:=P (s+1) (v/10^9)<|vI s;refine⟨o,d,?_⟩;rw[<-h];simp[I]
    obtain⟨o,d,h⟩:=G a 0 X .no;rw[<-Ot]at h;rw[h];simp[I];lia
   ·simp[j3,jv,zN,jK,O,U,Y,Z,e,hn,B,u,T,g,f,l,y,L,w,p,Q,I,b]
    lia
theorem AE(ns:List Int)(z:ns.length<=63)(k:Int)(I:0<=k)(O:k<100000):∃m,j3 [VP ns,.int k]=cq (.val<|.int m)/\0<=m/\m<1000000007:=
 lJ (ns.map D.int) ns.length ⋯ (λi a=>⟨ns[i],by simp⟩) z k I O
def Zs(ns:List Int)(k:Int):Int:=match j3 [VP ns,.int k]with
 |some (.val<|.int m)=>m
 |_=>0
theorem W4(z:ns.length<=63)(I:0<=k)(O:k<100000):j3 [VP ns,.int k]=cq (.val<|.int<|Zs ns k)/\0<=Zs ns k/\Zs ns k<1000000007:=by
 obtain⟨m,h,a,U⟩:=AE ns z k I O;have e:Zs ns k=m:=by unfold Zs;rw[h]
 rw[e];exact⟨h,a,U⟩
def yd(bs:List (Int×Int)):List D:=bs.map λb=>D.tup [.int b.1,.int b.2]
@[simp] theorem Fc(bs):(yd bs).length=bs.length:=by simp[yd]
def si(n:Int)(b:Int×Int):Prop:=0<=b.1/\b.1<=b.2/\b.2<n
section ap
variable(γ:Ctx)
@[simp] def FW:=@ID.eq_1
@[simp] def FY:=@Y0.eq_1
@[simp] def FZ:=@ZC.eq_1
@[simp] def Lb:=@IE.eq_1
end ap
section
variable{p:Int}{h w r:Nat}
def app(f:UV)(w:Nat)(v:Vc):Vc:=λi=>zq (λj=>f i j*v j) w
theorem AR(I:∀j,j<w->v j%p=(u j+c*g j)%p)(i:Nat):app f w v i%p=(app f w u i+c*app f w g i)%p:=by
 unfold app;have e:zq (λj=>f i j*v j) w%p=zq (λj=>f i j*u j+c*(f i j*g j)) w%p:=jC λj O=>by rw[MK,I j O,<-MK,SH,TX]
 rw[e,qJ,qz]
theorem pv(hz:∀j,j<w->v j%p=0)(i:Nat):app f w v i%p=0:=by
 unfold app;have:zq (λj=>f i j*v j) w%p=zq (λ_=>0) w%p:=jC λj I=>by rw[MK,hz j I];simp
 rw[this,jr];rfl
theorem km(I:∀j,j<w->v j%p=u j%p)(i:Nat):app f w v i%p=app f w u i%p:=by unfold app;exact jC λj O=>by rw[MK,I j O,<-MK]
theorem cu(O:il p (h+w) r B l)(hs:s<=r)(s1:∀k,k<s->l k<h)(s2:∀k,s<=k->k<r->h<=l k):
 il p w (r-s) (λk j=>B (s+k)<|h+j) (λk=>l (s+k)-h)/\∀v,Span p w (eK (r-s) λk j=>B (s+k)<|h+j) v↔Span p (h+w) (eK r B) (yu h (λ_=>0) v):=by
 refine⟨{
  lt:=λk I=>by have:=O.lt (s+k) ⋯;have:=s2 (s+k) ⋯ ⋯;lia
  mono:=λk m I o=>by have:=O.mono (s+k) (s+m) ⋯ ⋯;have:=s2 (s+k) ⋯ ⋯;lia
  one:=λk I=>by have:=s2 (s+k) ⋯ ⋯;rw[show h+(l (s+k)-h)=l (s+k)by lia];exact O.one _ ⋯
  m6:=λk j I Z=>O.m6 _ _ ⋯ ⋯
  wy:=λk m I o y=>by have:=s2 (s+m) ⋯ ⋯;rw[show h+(l (s+m)-h)=l (s+m)by lia];exact O.wy _ _ ⋯ ⋯ ⋯
  m4:=λk i I a=>O.m4 _ _ ⋯ ⋯},λv=>⟨λU=>?_,λU=>?_⟩⟩
 ·induction U with
  | @zero v t=>
   refine .zero λi a=>?_;rcases MQ i h with z|z
   ·rw[qm z];simp
   ·obtain⟨k,rfl⟩:∃k,i=h+k:=⟨i-h,⋯⟩
    rw[qH];exact t k ⋯
  | @step v u g c n A f Y=>
   obtain⟨k,I,rfl⟩:=n;refine .step (g:=B<|s+k) (c:=c) ⟨s+k,⋯,rfl⟩ Y λi a=>?_;rcases MQ i h with z|z
   ·rw[qm z,qm z,O.m6 (s+k) i ⋯ (by have:=s2 (s+k) ⋯ ⋯;lia)];simp
   ·obtain⟨j,rfl⟩:∃k,i=h+k:=⟨i-h,⋯⟩
    rw[qH,qH];exact f j ⋯
 ·have b:=Xr O U
  refine(Span.sum (u:=λk j=>B (s+k)<|h+j) (λk=>yu h (λ_=>0) v<|l<|s+k) (m:=r-s) λk I=>.gen ⟨k,I,rfl⟩).congr λj Z=>?_;have:=b (h+j) ⋯;rw[qH]at this;rw[this];obtain⟨d,rfl⟩:∃d,r=s+d:=⟨r-s,⋯⟩;rw[F2];have x:∀(F:Nat->Int) (d:Nat),(∀k,k<s->F k=0)->zq F (s+d)=zq (λk=>F<|s+k) d:=by
   intro F d e
   induction d with
   |zero=>
    show zq F s=0;rw[zO (g:=λ_=>0) e,jr]
   |succ d Y=>rw[<-TL];simp only[zq];rw[Y]
  rw[x _ d λk I=>by rw[qm (s1 k I)];simp]
end
section
variable{p:Int}{h w q:Nat}
def xy(h w:Nat)(f:UV)(g:Nat->Vc):Nat->Vc:=λm=>if m<w then yu h (λi=>f i m) (j9 m)else yu h (g<|m-w) (λ_=>0)
theorem lz(f:UV)(g:Nat->Vc):zP w (h+w) (λj=>yu h (λi=>f i j)<|j9 j)++zP q (h+w) (λk=>yu h (g k) λ_=>0)=zP (w+q) (h+w) (xy h w f g):=by
 unfold zP;rw[PB,Nx,Nh];congr 1
 ·refine MI λm a=>?_
  unfold xy;rw[UJ (Mn.mp a)]
 ·refine MI λm a=>?_
  simp only[Sg];unfold xy;rw[UY ⋯,F2]
theorem J6(f:UV)(I:j<w)(i:Nat):app f w (j9 j) i=f i j:=by unfold app;rw[jB (f:=λk=>f i k*j9 j k) I λk _ O=>by simp[j9,Nr O]];simp[j9]
theorem gN(hz:Span p (h+w) (eK (w+q)<|xy h w f g) z):Span p h (eK q g) λi=>z i-app f w (λj=>z<|h+j) i:=by
 induction hz with
 |@zero z hz=>
  refine .zero λi a=>?_;rw[OP,hz i ⋯,pv (p:=p) (λj e=>hz (h+j) ⋯) i];simp
 | @step z u k c d n U Y=>
  obtain⟨m,l,rfl⟩:=d;have b:=λi=>AR (p:=p) (w:=w) (f:=f) (u:=λj=>u<|h+j) (g:=λj=>xy h w f g m<|h+j) (v:=λj=>z<|h+j) (c:=c) (λj e=>U (h+j) ⋯) i;have Z i:i<h->(z i-app f w (λj=>z<|h+j) i)%p=((u i-app f w (λj=>u<|h+j) i)+c*(xy h w f g m i-app f w (λj=>xy h w f g m<|h+j) i))%p:=λa=>by rw[OP,U i ⋯,b i,<-OP];congr 1;rw[Int.mul_sub];lia
  rcases MQ m w with I|I
  ·refine Y.congr λi a=>?_
   rw[Z i a];have t:app f w (λj=>xy h w f g m<|h+j) i=f i m:=by
    have:(λj=>xy h w f g m<|h+j)=j9 m:=by funext j;unfold xy;rw[UJ I,qH]
    rw[this,J6 f I]
   have O:xy h w f g m i=f i m:=by unfold xy;rw[UJ I,qm a]
   rw[t,O];simp
  ·refine .step (g:=g<|m-w) (c:=c) ⟨m-w,⋯,rfl⟩ Y λi a=>?_
   rw[Z i a];have t:app f w (λj=>xy h w f g m<|h+j) i=0:=by
    have:(λj=>xy h w f g m<|h+j)=λ_=>0:=by funext j;unfold xy;rw[UY ⋯,qH]
    rw[this];unfold app;simp[jr]
   have O:xy h w f g m i=g (m-w) i:=by unfold xy;rw[UY ⋯,qm a]
   rw[t,O];simp
theorem An(I:Span p h (eK q g) y):Span p (h+w) (eK (w+q)<|xy h w f g) (yu h y λ_=>0):=by
 induction I with
 | @zero y b=>
  refine .zero λi a=>?_;rcases MQ i h with z|z
  ·rw[qm z];exact b i z
  ·obtain⟨k,rfl⟩:∃k,i=h+k:=⟨i-h,⋯⟩
   rw[qH];simp
 | @step y u d c O Z U Y=>
  obtain⟨k,l,rfl⟩:=O;refine .step (g:=xy h w f g<|w+k) (c:=c) ⟨w+k,⋯,rfl⟩ Y λi a=>?_;have e:xy h w f g (w+k)=yu h (g k) λ_=>0:=by unfold xy;rw[UY ⋯,F2]
  rw[e];rcases MQ i h with z|z
  ·rw[qm z,qm z,qm z];exact U i z
  ·obtain⟨j,rfl⟩:∃k,i=h+k:=⟨i-h,⋯⟩
   rw[qH,qH,qH];simp
theorem Yz(hp:Pr p)(hh:h<=20)(hw:w<=20)(hq:q<=100)(f:UV)(g:Nat->Vc):
 ∃r B l,kW [.int p,jR h w f,.lst (zP q h g)]=cq (.own<|zP r w B)/\il p w r B l/\∀v,Span p w (eK r B) v↔Span p h (eK q g) (app f w v):=by
 have hl:=jk;have R:h<=lim:=⋯
 have I:w<=lim:=⋯
 have U:h+w<=lim:=⋯
 have S:q<=lim:=⋯
 have Y:w+q<=lim:=⋯
 obtain⟨r,B,l,e,O,C⟩:=wC hp (⋯:h+w<=100) Y .L<|xy h w f g;have W:r<=h+w:=WI O.mono O.lt;obtain⟨s,o,x,y⟩:=JW h O.mono;have J:=XF O ⋯ o x y;obtain⟨E,P⟩:=cu O o x y;refine⟨r-s,_,_,?_,E,λv=>(P v).trans ((C _).trans ⟨λZ=>?_,λZ=>?_⟩)⟩
 ·have t:=kq f R I
  have A:=yQ (n:=w) I;have F:zT (.tp [0,1]) jO (zG jX (zg 0)<|zg 1) [Cell.no,Cell.no] ((Ml w).map λj=>D.tup [.tup (zH h λi=>f i j),.tup (zH w λk=>if j=k then 1 else 0)])=cq (zP w (h+w) λj=>yu h (λi=>f i j)<|j9 j):=by unfold zP;refine zw _ _ λj d=>zy rfl rfl ?_;simp[jX,U,wU];rfl
  have Q:wW (zP w h λi j=>f j i) (zP w w λi j=>if i=j then 1 else 0)=(Ml w).map λj=>D.tup [.tup (zH h λi=>f i j),.tup (zH w λk=>if j=k then 1 else 0)]:=by unfold wW zP;rw[Pq];simp
  have H:inR (w:Int)=cI:=iN I;have zr:yS (.tup [.int 0]) (.int w)=cq (.tup<|zH w λ_=>0):=by
   show(if [D.int 0].length*(w:Int).toNat<=lim/\inR (w:Int)=cI then cq (D.tup (Mm (w:Int).toNat [D.int 0]).flatten)else da)=_;rw[UJ ⟨by simpa using I,H⟩];congr 2;rw[Oj];clear F Q A t J E P C O e H Y U I hw hq x y o W
   induction w with
   |zero=>rfl
   |succ w ih=>rw[List.replicate_succ',List.flatten_append,ih];unfold zH;rw[Ox,Nx];rfl
  have K:zT (.nm 0) jO (zG jX (zg 0)<|zG yS (qC<|zb (sI 0) zB)<|dj (zm 1)<|sI 1) [Cell.no,Cell.val (jR h w f)] (zP q h g)=cq (zP q (h+w) λk=>yu h (g k) λ_=>0):=by unfold zP;refine zw _ _ λk N=>zy rfl rfl ?_;have sq:jD (jR h w f)=cq (.T,[.int h,.int w,.tup (zP h w f)]):=rfl;simp[sq,zr,jX,U,wU]
  have X:((h:Int)+(w:Int))=((h+w:Nat):Int):=⋯
  simp only[su]at e;rw[<-X,<-lz]at e;unfold jR at t A K ⊢;simp[kW,jv,zN,jK,t,A,Q,I,S,Y,jm,xT,Mm,F,K,e,J]
 ·have:=gN Z
  refine(this.smul (-1)).congr λi M=>?_;congr 1;show app f w v i = -1*(yu h (λ_=>0) v i-app f w (λj=>yu h (λ_=>0) v<|h+j) i);rw[qm M,show(λj=>yu h (λ_=>0) v<|h+j)=v from funext λj=>qH j];lia
 ·have a:=Span.sum (p:=p) (n:=h+w) (G:=eK (w+q)<|xy h w f g) (u:=λj=>xy h w f g j) v (m:=w) λj d=>.gen ⟨j,⋯,rfl⟩
  have b:=An (w:=w) (f:=f) Z;refine(b.add a (-1)).congr λi M=>?_;congr 1;rcases MQ i h with z|z
  ·rw[qm z,qm z]
   have:zq (λk=>v k*xy h w f g k i) w=app f w v i:=by unfold app;exact zO λk N=>by unfold xy;rw[UJ N,qm z,Pe]
   rw[this];lia
  ·obtain⟨k,rfl⟩:∃k,i=h+k:=⟨i-h,⋯⟩
   rw[qH,qH];have:zq (λj=>v j*xy h w f g j (h+k)) w=v k:=by rw[jB (f:=λj=>v j*xy h w f g j (h+k)) (i:=k) ⋯ λj d as=>by unfold xy;rw[UJ d,qH];simp[j9,as]];unfold xy;rw[UJ (⋯:k<w),qH];simp[j9]
   rw[this];simp
end
theorem oV(h h' w:Nat)(f g F:UV)(z:∀i j,i<h->j<w->F i j=f i j)(O:∀i j,i<h'->j<w->F (h+i) j=g i j):zP h w f++zP h' w g=zP (h+h') w F:=by
 unfold zP;rw[PB,Nx,Nh];congr 1
 ·exact MI λi a=>by rw[vi λj I=>(z i j (Mn.mp a) I).symm]
 ·exact MI λi a=>by simp only[Sg];rw[vi λj I=>(O i j (Mn.mp a) I).symm]
theorem uP(n:Nat):(Mm n [D.int 0]).flatten=zH n λ_=>0:=by
 induction n with
 |zero=>rfl
 |succ n I=>
  rw[Ow,OY,I];unfold zH;rw[<-ZE,<-ZE];rfl
section
variable{p p':Int}{m m':Nat}{w w':UK}{wd wd':UX}{T T':UW}
theorem lS:zq (λk=>(wd k:Int)+(wd' k:Int)) (m+1)=zq (λk=>(wd k:Int)) (m+1)+zq (λk=>(wd' k:Int)) (m+1):=by rw[qJ]
theorem JK(z:m<=900)(I:m'<=900)(h:¬(p=p'/\JU m m' w w')):jM [zK p m w wd T,zK p' m' w' wd' T']=cq ((("Unlike" : Str),da):Xn):=by have a:=ZZ (p:=p) (p':=p') (w:=w) (w':=w') (wd:=wd) (wd':=wd') (T:=T) (T':=T') z I;rw[decide_eq_false h]at a;simp[jM,JX,zN,XN,ni,Bg,a,Mm]
theorem wt(z:m<=900):jM [zK p m w wd T,zK p m w wd' T']=da/\jN [zK p m w wd T,zK p m w wd' T']=cq (.val .ej):=by
 have a:=ZZ (p:=p) (p':=p) (w:=w) (w':=w) (wd:=wd) (wd':=wd') (T:=T) (T':=T') z z;rw[decide_eq_true ⟨rfl,rfl,λ_ _=>rfl⟩]at a;constructor
 ·simp[jM,JX,zN,XN,ni,Bg,vr,a,Mm]
 ·simp[jN,jv,zN,a,Mm]
end
section
variable{p:Int}{m:Nat}{w:UK}{wd:UX}{T:UW}
theorem vN:jD (zK p m w wd T)=cq (.T,[.int p,.tup<|zH (m+1) λk=>(wd k:Int),.tup (qZ m w wd T)]):=rfl
end
def R9(i j:Nat):Int:=if i=j then 1 else 0
def sg(p:Int)(n:Nat)(f g:UV):Prop:=∀i j,i<n->j<n->zq (λk=>f i k*g k j) n%p=R9 i j%p
@[simp] theorem Bj(r):xT (.nest r)=.no:=rfl
@[simp] theorem Ej(r):xT (.own r)=.no:=rfl
@[simp] theorem Ei(d):xT (.val d)=.val d:=rfl
@[simp] theorem FA:xT .no=.no:=rfl
def xN(w:UK)(k:Nat):Nat:=if w k then k+1 else k
def xG(w:UK)(k:Nat):Nat:=if w k then k else k+1
theorem Zh(w:UK)(k:Nat):qj [.int k,.str (kJ<|hB<|w k)]=cq (.val<|.int (xN w k:Nat)):=by have q:=Xp<|w k;cases h:w k<;>rw[h]at q<;>simp[qj,jv,zN,xN,q,h]
theorem bN(w:UK)(k:Nat):vw [.int k,.str (kJ<|hB<|w k)]=cq (.val<|.int (xG w k:Nat)):=by have q:=Xp<|w k;cases h:w k<;>rw[h]at q<;>simp[vw,jv,zN,xG,q,h]
def vK(m:Nat)(wd:UX)(f:UW):List D:=(Ml m).map λk=>jR (wd k) (wd k)<|f k
@[simp] theorem BB(m wd f):(vK m wd f).length=m:=by simp[vK]
@[simp] theorem Fq(wd f)(h:k<(vK m wd f).length):(vK m wd f)[k]=jR (wd k) (wd k) (f k):=by simp[vK]
section
variable{m:Nat}
theorem KA(m:Nat)(F:Nat->D):qU ((Ml m).map F)=(Ml m).map λ(k:Nat)=>D.tup [.int k,F k]:=by unfold qU;rw[MN,Od];apply MI;intro k I;have I:=Mn.mp I;simp[I]
end
@[simp] theorem Fh(γ:Ctx)(f):Y0 f γ=(f γ).bind λd=>match d with
 |.str z=>if ju z=cI then cq (qU<|kH z)else da
 |_=>da:=rfl
@[simp] theorem Gn(γ:Ctx)(f g):Wr f g γ=(f γ).bind λd=>(g γ).bind λe=>match d,e with
 |.str x,.str y=>if ju x=cI/\ju y=cI then cq (.str<|x++y)else da
 |_,_=>da:=rfl
theorem Kz(m:Nat)(w:UK):qU (kH<|j7 m w)=(Ml m).map λ(k:Nat)=>D.tup [.int k,.str (kJ<|hB<|w k)]:=by
 have e:kH (j7 m w)=(Ml m).map λk=>D.str (kJ<|hB<|w k):=by unfold kH;rw[qQ,Nh];rfl
 unfold qU;rw[e];simp only[MN,Od];refine MI λk I=>?_;simp[Mn.mp I]
theorem eV(s:Nat)(w:UK):j7 s w++kJ (hB<|w s)=j7 (s+1) w:=by
 have h:(j7 s w++kJ (hB<|w s)).cps.toList=(j7 (s+1) w).cps.toList:=by show((j7 s w).cps++(kJ<|hB<|w s).cps).toList=_;rw[Array.toList_append,qQ,qQ,Ox,Nx];rfl
 have I:=Array.toList_inj.mp h;generalize j7 s w++kJ (hB<|w s)=a at I;generalize j7 (s+1) w=b at I;cases a;cases b;exact congrArg Str.mk I
def pr(a b:Nat):D:=.tup [.int a,.int b]
@[simp] theorem II(a b):jD (pr a b)=cq (.T,[.int (a:Int),.int (b:Int)]):=rfl
theorem WM(a c:Nat):(if a<c then (c:Int)else (a:Int))=((max a c:Nat):Int):=by
 by_cases h:c>a
 ·rw[UJ h,Nat.max_eq_right ⋯]
 ·rw[UY h,Nat.max_eq_left ⋯]
theorem WL(a c:Nat):(if c<a then (c:Int)else (a:Int))=((min a c:Nat):Int):=by
 by_cases h:c<a
 ·rw[UJ h,Nat.min_eq_right ⋯]
 ·rw[UY h,SR ⋯]
def L0(w:UK)(a c:Nat):Bool:=decide (a=c) || (w (max a c-1)==decide (a<c))
def L6(w:UK)(b d:Nat):Bool:=decide (b=d) || (w (min b d)==decide (b<d))
section
variable{m a b c d:Nat}{w:UK}
theorem mi(Y:m<=5)(z:a<=m)(O:c<=m):ku [.str (j7 m w),pr a b,pr c d]=cq (.val<|.bl<|L0 w a c):=by
 by_cases q:a=c
 ·subst q
  simp[ku,jv,zN,jK,L0]
 ·have I:¬((a:Int)=(c:Int)):=⋯
  have e:xA (zg 0) (zG dU (cK (dj (zm 1)<|sI 0)<|dj (zm 2)<|sI 0)<|sI 1) [Cell.val (.str<|j7 m w),Cell.val<|pr a b,Cell.val (pr c d)]=cq (.str<|kJ<|hB<|w<|max a c-1):=by refine Zz w ⋯ ⋯ _ _ _ rfl ?_;simp[WM];lia
  simp only[ku,jv,zN,jK,Mm,NB,NZ];simp[-vk,I,e];by_cases l:a<c
  ·have f:(a:Int)<c:=⋯
   simp[l,rS,L0,q]
  ·simp[l,Xp,L0,q]
theorem ed(Y:m<=5)(z:b<=m)(O:d<=m):xH [.str (j7 m w),pr a b,pr c d]=cq (.val<|.bl<|L6 w b d):=by
 by_cases q:b=d
 ·subst q
  simp[xH,jv,zN,jK,L6]
 ·have I:¬((b:Int)=(d:Int)):=⋯
  have f:xA (zg 0) (fQ (dj (zm 1)<|sI 1)<|dj (zm 2)<|sI 1) [Cell.val (.str<|j7 m w),Cell.val<|pr a b,Cell.val (pr c d)]=cq (.str<|kJ<|hB<|w<|min b d):=by refine Zz w ⋯ ⋯ _ _ _ rfl ?_;simp[WL]
  simp only[xH,jv,zN,jK,Mm,NB,NZ];simp[-vk,I,f];by_cases l:d<b
  ·have e:¬b<d:=⋯
   simp[l,e,Xp,L6,q]
  ·have e:b<d:=⋯
   simp[l,e,rS,L6,q]
def R7(w:UK)(a b c d:Nat):Bool:=decide (max a c<=min b d)&&(L0 w a c&&L6 w b d)
theorem YC(z:m<=5)(Z:a<=m)(O:b<=m)(U:c<=m)(hd:d<=m):kX [.str (j7 m w),pr a b,pr c d]=cq (.val<|.int<|if R7 w a b c d=cI then 1 else 0):=by
 have e:=mi (b:=b) (d:=d) (w:=w) z Z U;have Y:=ed (a:=a) (c:=c) (w:=w) z O hd;simp only[kX,jv,zN,jK,Mm,NB,NZ];by_cases q:max a c<=min b d
 ·have I:¬((min b d:Nat):Int)<((max a c:Nat):Int):=⋯
  simp[WM,WL,I,e,R7,q];cases h1:L0 w a c
  ·simp[h1]
  ·simp[h1,Y]
   cases h2:L6 w b d<;>simp[h2]
 ·have I:((min b d:Nat):Int)<((max a c:Nat):Int):=⋯
  simp[WM,WL,I,R7,q]
theorem vq(z:m<=5){k:Nat}(I:k<m):xv [.str (j7 m w),.int k]=cq (.val<|.tup [.int ((xN w k:Nat):Int),.int ((xG w k:Nat):Int)]):=by have a:xA (zg 0) (zg 1) [Cell.val (.str<|j7 m w),vI k]=cq (.str<|kJ<|hB<|w k):=Zz w ⋯ I _ _ _ rfl rfl;simp only[xv,jv,zN,jK,Mm,NB,NZ];simp[-vk,a,Xp];cases h:w k<;>simp[h,xN,xG]
end
theorem Bt{c:Int}(z:0<=c){m:Nat}(hm:m<=5):∃w,kf [.int c,.int (1+(m:Int))]=cq (.val<|.str<|j7 m w):=by
 have d:=jk;have I:m<=lim:=⋯
 refine⟨λk=>decide (c/2^k%2=1),?_⟩;have U:zT (.nm 0) jO (xA (qv (.str "rl")) (zG wj (zG JI (zg 1) (dj (jH (jL (zb (sI 1) (zb (sI 2) (zb (sI 4) (zb (sI 8) (zb (sI 16) zB))))))) (zg 0))) (sI 2))) [Cell.no,vI c] ((Ml m).map λi:Nat=>D.int (i:Int)) =
  cq ((Ml m).map λ(k:Nat)=>D.str<|kJ<|hB<|decide<|c/2^k%2=1):=by
  refine zw _ _ λk O=>zy rfl rfl ?_;have O:=Mn.mp O;have Y:zG wj (zG JI (zg 1)<|dj (jH<|jL<|zb (sI 1)<|zb (sI 2)<|zb (sI 4)<|zb (sI 8)<|zb (sI 16) zB)<|zg 0) (sI 2) [vI k,vI c]=cq (.int<|c/2^k%2):=by
   have Z:k=0\/k=1\/k=2\/k=3\/k=4:=⋯
   rcases Z with rfl|rfl|rfl|rfl|rfl<;>simp[jD,hM]
  show xA _ _ [vI k,vI c]=_;rw[vk,Y];have q:c/2^k%2=0\/c/2^k%2=1:=⋯
  rcases q with q|q
  ·rw[q];rfl
  ·rw[q];rfl
 have all1:((Ml m).map λ(k:Nat)=>kJ<|hB<|decide<|c/2^k%2=1).all ju=cI:=by
  rw[List.all_map];exact NV.mpr λk _=>by show ju (kJ _)=cI;rfl
 have b:ju ("" : Str)=cI:=rfl;have a:(1:Int)+(m:Int)-1=(m:Int):=⋯
 simp[kf,jv,zN,jK,a,I,q8,jm,xT,Mm];rw[qG m λi=>(i:Int)];rw[U];simp only[Ni,Mx,Sg];rw[KL];simp only[Mx];rw[UJ ⟨by simpa using I,NV.mp all1,b⟩];rfl
def WO(h w:Nat)(f:UV):List D:=(Ml h).map λi=>D.lst<|zH w<|f i
@[simp] theorem Yg(h w f):(WO h w f).length=h:=by simp[WO]
theorem je(ds:List D):jD (.lst ds)=cq (.L,ds):=rfl
theorem qA(ds:List D):jD (.tup ds)=cq (.T,ds):=rfl
theorem kK(s:Nat)(f:Nat->α):(Ml<|s+1).map f=(Ml s).map f++[f s]:=by rw[Ox,Nx];rfl
theorem qT(w:UK)(wd:UX)(k:Nat):wd (xG w k)=eA w wd k:=by unfold xG eA;split<;>rfl
theorem xf(w:UK)(wd:UX)(k:Nat):wd (xN w k)=ez w wd k:=by unfold xN ez;split<;>rfl
theorem Ju{w:UK}{k m:Nat}(h:k<m):xG w k<m+1:=by unfold xG;split<;>lia
theorem Jy{w:UK}{k m:Nat}(h:k<m):xN w k<m+1:=by unfold xN;split<;>lia
def Zy(m:Nat)(w:UK)(wd:UX)(T:UW):List D:=(Ml m).map λk=>D.lst<|WO (eA w wd k) (ez w wd k)<|T k
def xi(m:Nat)(w:UK)(wd:UX)(T:UW):D:=.tup [.lst (zH (m+1) λk=>(wd k:Int)),.lst (Zy m w wd T)]
def jJ(m:Nat)(w:UK)(wd wd':UX)(J:UW):List D:=(Ml m).map λk=>jR (eA w wd k) (ez w wd' k)<|J k
theorem pG(h w:Nat)(I:h<=lim)(f:UV)(γ:Ctx):zT (.nm 0) jO (zX<|zm 0) [Cell.no] (WO h w f)=cq (zP h w f):=by unfold WO zP;exact zw _ _ λk O=>zy rfl rfl rfl
theorem lW(G F H)(γ:Ctx):XN G F H γ=match G γ with
 |some c=>cq c
 |none=>(F γ).bind λI=>match I with
  |.next a=>H a
  |_=>da:=rfl
theorem bV{m k:Nat}(h:k<m+1)(wd:UX):(zH (m+1) λk=>(wd k:Int))[k]? = cq (.int (wd k:Int)):=by unfold zH;simp[h]
theorem eR(m:Nat)(wd:UX):(zH (m+1) λk=>(wd k:Int)).length=m+1:=by simp[zH]
theorem mJ(m w wd T):(Zy m w wd T).length=m:=by simp[Zy]
theorem sM{m k:Nat}(h:k<m)(w wd T):(Zy m w wd T)[k]? = cq (.lst<|WO (eA w wd k) (ez w wd k)<|T k):=by unfold Zy;simp[h]
theorem lV(s w wd T):qZ (s+1) w wd T=qZ s w wd T++[vD w wd T s]:=kK _ _
theorem vZ{p:Int}{m:Nat}(z:m<=5)(w:UK){wd:UX}(hw:∀k,wd k<=9)(T:UW):
 jQ [.int p,.str<|j7 m w,xi m w wd T]=cq (.val<|zK p m w wd T):=by
 have x:=jk;have wl:=yT m w;have j:=xl w (⋯:m<=1000);let γ:Cell->Cell->Cell->Cell->Cell->Ctx:=λo O U Y I=>[vI p,.val<|.str<|j7 m w,.val<|xi m w wd T,.val<|.lst<|zH (m+1) λk=>(wd k:Int),.val<|.lst<|Zy m w wd T,o,O,U,Y,I];obtain⟨_,q,O,U,Y,I,rfl⟩:=kT (T:=.nm 6) (F:=EI) (f:=vE<|zg 1) (γ:=γ (.own []) .no .no .no .no) (λs d=>∃O U Y I,d=γ (.own<|qZ s w wd T) O U Y I) m ⋯ (by simp[γ,wl,j]) ⟨_,_,_,_,rfl⟩ (by
  rintro s a _ ⟨O,U,Y,I,rfl⟩;have r:=vq (w:=w) z a;have h:=Ju (w:=w) a;have i:=Jy (w:=w) a;have n:s<lim:=⋯
  have b:3<=lim:=⋯
  have l:2<=lim:=⋯
  have Z:eA w wd s<=lim:=by rw[<-qT];have:=hw<|xG w s;lia
  have tp:=pG (eA w wd s) (ez w wd s) Z (T s) [];have e:=bV h wd;have g:=bV i wd;rw[qT w wd]at e;rw[xf w wd]at g;have u:=sM a w wd T;let S:=Cell.val<|.int (s:Int);let B:=Cell.val<|.int ((xN w s:Nat):Int);let E:=Cell.val<|.int ((xG w s:Nat):Int);let R:=Cell.val<|.tup<|zP (eA w wd s) (ez w wd s)<|T s;refine⟨_,γ (.own<|qZ (s+1) w wd T) S B E R,rfl,zh (γ':=γ (.own<|qZ s w wd T) S B E I) (by simp[γ,S,B,E,r])<|zh (γ':=γ (.own<|qZ s w wd T) S B E R) ?_ ?_,_,_,_,_,rfl⟩
  ·rw[yN,dZ,wu,kF,J8,show(zC<|dj (zm 4)<|zg 6) (γ (.own<|qZ s w wd T) S B E I)=cq (.L,WO (eA w wd s) (ez w wd s)<|T s)by
    simp only[γ,S,yv,wx,xV,w6,MW,Np,qg,jI,Mx,je,kE,mJ,j6,a,if_true,u]]
   simp[Yg,Z,jm,tp,γ,R]
  ·have t:=Zz w (⋯:m<=1000) a (γ (.own<|qZ s w wd T) S B E R) (zg 1) (zg 6) rfl rfl
   rw[lV,Xy,V3,jh,t];simp only[γ,B,E,R,V3,jh,ZU,w6,wx,xV,MW,Np,NB,NZ,Og,TK,qg,jI,qh,Mx,Ni,je,kE,eR,j6,h,i,e,g,if_true,b,l,V2,n,List.set_cons_succ,List.set_cons_zero];rfl)
 have b:3<=lim:=⋯
 exact zW (zh rfl<|zh rfl<|zh q<|by simp[γ,je,b,zK])
def dG(h w:Nat)(f g j:UV)(i:Nat):Vc:=if i<h then yu w (f i) (j i)else yu w (λ_=>0) (g<|i-h)
theorem iz{h w h' w':Nat}(f g j:UV):zP h (w+w') (λi=>yu w (f i)<|j i)++zP h' (w+w') (λi=>yu w (λ_=>0)<|g i)=zP (h+h') (w+w') (dG h w f g j):=
 oV h h' _ _ _ _ (λi j a _=>by unfold dG;rw[UJ a]) λi j a _=>by unfold dG;rw[UY ⋯,F2]
theorem iy{h w h' w':Nat}(f g j:UV)(hh:h<=400)(hw:w<=400)(a2:h'<=400)(a3:w'<=400):
 qM [jR h w f,jR h' w' g,jR h w' j]=cq (.val<|jR (h+h') (w+w')<|dG h w f g j):=by
 have m:=jk;have a:h<=lim:=⋯
 have b:w<=lim:=⋯
 have l:h'<=lim:=⋯
 have I:w+w'<=lim:=⋯
 have O:h+h'<=lim:=⋯
 have d:∀(h w:Nat) (f:UV),jD (jR h w f)=cq (.T,[.int h,.int w,.tup (zP h w f)]):=λ_ _ _=>rfl;have U:yS (.tup [.int 0]) (.int w)=cq (.tup<|zH w λ_=>0):=by show(if ([D.int 0]).length*(w:Int).toNat<=lim/\inR (w:Int)=cI then _ else _)=_;rw[UJ ⟨by simpa using b,iN b⟩,Oj,uP]
 have Y:zT (.tp [0,1]) jO (zG jX (zg 0)<|zg 1) [Cell.no,Cell.no] (wW (zP h w f)<|zP h w' j)=cq (zP h (w+w') λi=>yu w (f i)<|j i):=by
  have z:wW (zP h w f) (zP h w' j)=(Ml h).map λi=>D.tup [.tup (zH w<|f i),.tup (zH w'<|j i)]:=by unfold wW zP;rw[Pq];simp
  rw[z];unfold zP;refine zw _ _ λi k=>zy rfl rfl ?_;have e:jX (.tup<|zH w<|f i) (.tup<|zH w'<|j i)=cq (.tup<|zH (w+w')<|yu w (f i)<|j i):=by show(if (zH w<|f i).length+(zH w'<|j i).length<=lim then _ else _)=_;rw[UJ (by simpa using I),wU]
  show zG _ _ _ [Cell.val (.tup<|zH w<|f i),Cell.val (.tup<|zH w'<|j i)]=_;simp[e]
 have g2:zT (.nm 0) jO (zG jX (zG yS (qC<|zb (sI 0) zB)<|dj (zm 1)<|sI 1)<|zg 0) [Cell.no,Cell.val (jR h w f)] (zP h' w' g)=cq (zP h' (w+w') λi=>yu w (λ_=>0)<|g i):=by
  unfold zP;refine zw _ _ λi k=>zy rfl rfl ?_;have e:jX (.tup<|zH w λ_=>0) (.tup<|zH w'<|g i)=cq (.tup<|zH (w+w')<|yu w (λ_=>0)<|g i):=by show(if (zH w λ_=>0).length+(zH w'<|g i).length<=lim then _ else _)=_;rw[UJ (by simpa using I),wU]
  simp[d,U,e]
 have Z:(wW (zP h w f)<|zP h w' j).length<=lim:=by unfold wW zP;simp;exact a
 simp[qM,jv,zN,jK,d,a,l,O,Z,jm,xT,Mm,Y,g2];rw[iz];simp[jR]
theorem aE{n:Nat}{F:CO Fl}{ds:List D}{γ':Ctx}(h:F (zN n ds)=cq (.next γ')):jv n F ds=cq (.val .ej):=by show(F<|zN n ds).bind _=_;rw[h];rfl
section
variable{p:Int}{m:Nat}{w:UK}{wd wd':UX}{T T' J:UW}
theorem qW(p m w wd T):jD (zK p m w wd T)=cq (.T,[.int p,.tup<|zH (m+1) λk=>(wd k:Int),.tup (qZ m w wd T)]):=rfl
def kZ(m:Nat)(w:UK)(wd wd':UX):List D:=(Ml m).map λk=>D.tup [.int (eA w wd k:Nat),.int (ez w wd' k:Nat)]
def uV(p:Int)(m:Nat)(w:UK)(wd wd':UX)(T T' J:UW):D:=zK p m w (λk=>wd k+wd' k) λk=>dG (eA w wd k) (ez w wd k) (T k) (T' k)<|J k
theorem Aj(w:UK)(wd wd':UX)(k:Nat):eA w (λk=>wd k+wd' k) k=eA w wd k+eA w wd' k:=by unfold eA;split<;>rfl
theorem sA(w:UK)(wd wd':UX)(k:Nat):ez w (λk=>wd k+wd' k) k=ez w wd k+ez w wd' k:=by unfold ez;split<;>rfl
theorem QG(z:m<=4):jF [zK p m w wd' T',zK p m w wd T]=cq (.own<|kZ m w wd wd'):=by
 have x:=jk;have Y:m<=lim:=⋯
 have t:=qW p m w wd T;have u:=qW p m w wd' T';have Z:=kn (p:=p) (wd:=wd') (T:=T') (w:=w) (⋯:m<=900);have e:=xl w (⋯:m<=1000);have n:2<=lim:=⋯
 have f:zT (.tp [0,1]) jO (qC<|zb (dj (zC<|dj (zm 3)<|sI 1)<|zD vw<|zb (zg 0)<|zb (zg 1) zB)<|zb (dj (zC<|dj (zm 2)<|sI 1)<|zD qj<|zb (zg 0)<|zb (zg 1) zB) zB) [Cell.no,Cell.no,Cell.val<|zK p m w wd' T',Cell.val (zK p m w wd T)] ((Ml m).map λ(k:Nat)=>D.tup [.int k,.str (kJ<|hB<|w k)])=cq (kZ m w wd wd'):=by unfold kZ;refine zw _ _ λk I=>zy rfl rfl ?_;have I:=Mn.mp I;have b:=Ju (w:=w) I;have d:=Jy (w:=w) I;have O:=bV b wd;have U:=bV d wd';rw[qT w wd]at O;rw[xf w wd']at U;have h:=bN w k;have i:=Zh w k;have l:hM 3 1=cq 1:=rfl;show qC _ [vI k,Cell.val<|.str<|kJ<|hB<|w k,Cell.val<|zK p m w wd' T',Cell.val (zK p m w wd T)]=_;simp only[V3,jh,ZU,wx,yv,xV,w6,KB,kG,MW,Np,NB,NZ,Og,TK,qg,jI,Mx,Ni,t,u,kE,l,qA,h,i,fW,eR,j6,b,d,if_true,O,U,n]
 have j:(qU<|kH<|j7 m w).length<=lim:=by rw[Kz];simpa using Y
 have r:(jG 2<|zD qL<|zb (zg 0) zB) (zN 3 [zK p m w wd' T',zK p m w wd T])=cq (.next [.val (zK p m w wd' T'),.val<|zK p m w wd T,.val (.str<|j7 m w)]):=by simp[zN,Mm,Z]
 have s:(yV<|zV (Y0<|zg 2) (.tp [0,1]) 2 [0,1] jO (qC<|zb (dj (zC<|dj (zm 3)<|sI 1)<|zD vw<|zb (zg 0)<|zb (zg 1) zB)<|zb (dj (zC<|dj (zm 2)<|sI 1)<|zD qj<|zb (zg 0)<|zb (zg 1) zB) zB)) [.val (zK p m w wd' T'),.val<|zK p m w wd T,.val (.str<|j7 m w)]=cq (.ret<|.own<|kZ m w wd wd'):=by
  have a:Y0 (zg 2) [.val (zK p m w wd' T'),.val<|zK p m w wd T,.val (.str<|j7 m w)]=cq (qU<|kH<|j7 m w):=by show(if ju (j7 m w)=cI then _ else _)=_;rw[UJ e]
  have o:jm 2 [0,1] [.val (zK p m w wd' T'),.val<|zK p m w wd T,.val (.str<|j7 m w)]=[Cell.no,Cell.no,Cell.val<|zK p m w wd' T',Cell.val (zK p m w wd T)]:=rfl;show((zV _ _ _ _ _ _ _).map λg=>Fl.ret<|.own g)=_;rw[kF,a];simp only[Mx];rw[UJ j,Kz,o,f];rfl
 exact zW<|zh r s
theorem ot(h w':Nat)(f:UV):yR [.tup [.int (h:Int),.int (w':Int)],jR h w' f]=cq (.val<|.bl cI):=by have c:aC (zg 1) Wp (ro<|sI 2) [.val (.tup [.int (h:Int),.int (w':Int)]),.val (jR h w' f)]=cq (.tup [.int (h:Int),.int (w':Int)]):=rfl;have ok:l8 (.tup [.int (h:Int),.int (w':Int)])=cI:=rfl;have q:=bB ok;have ty:rJ Ty.tuple (jR h w' f)=cI:=rfl;simp[yR,jv,zN,c,q,ty,Mm,-rZ]
theorem Xg(m w wd wd' J):(jJ m w wd wd' J).length=m:=by simp[jJ]
theorem bh{k:Nat}(h:k<m):(jJ m w wd wd' J)[k]? = cq (jR (eA w wd k) (ez w wd' k)<|J k):=by unfold jJ;simp[h]
theorem AN(hm:m<=4):ka [zK p m w wd T,zK p m w wd' T',.lst (jJ m w wd wd' J)]=cq (.val .ej):=by
 have f:=(wt (p:=p) (w:=w) (wd:=wd) (wd':=wd') (T:=T) (T':=T')<|show m<=900 by lia).2;have sz:=QG (p:=p) (w:=w) (wd:=wd) (wd':=wd') (T:=T) (T':=T') hm;let γ:Cell->Cell->Cell->Ctx:=λg I O=>[.val (zK p m w wd T),.val<|zK p m w wd' T',.val<|.lst<|jJ m w wd wd' J,g,I,O];let Z:=Cell.val<|.lst<|kZ m w wd wd';let z:Nat->D:=λk=>.tup [.int (eA w wd k:Nat),.int (ez w wd' k:Nat)];have d:∀(k s:Nat) (I O:Cell),s+k=m->∃U Y,kD (.tp [4,5]) AM ((PL s k).map λ(k:Nat)=>D.tup [.int k,z k]) (γ Z I O)=cq (.next<|γ Z U Y):=by
  intro k
  induction k with
  |zero=>intro s I O e;exact⟨I,O,rfl⟩
  |succ k i=>
   intro s I O e;obtain⟨U,Y,q⟩:=i (s+1) (vI s) (.val<|z s) ⋯;refine⟨U,Y,?_⟩;have b:s<m:=⋯
   have j:=ot (eA w wd s) (ez w wd' s)<|J s;have l:=bh (w:=w) (wd:=wd) (wd':=wd') (J:=J) b;have h:¬((m:Int)<=(s:Int)):=⋯
   have st:AM (γ Z (vI s)<|.val<|z s)=cq (.next<|γ Z (vI s)<|.val<|z s):=by unfold AM F7;simp only[γ,z,ye,V5,lX,px,ZV,w6,bJ,xV,wx,kG,jh,ZU,MW,Np,qg,jI,Mx,Ni,je,kE,Xg,j6,b,if_true,l,j,fW,W0,bG,decide_eq_false h,Nw,if_false,Bool.not_true];rfl
   rw[OL,MT,ql];show((AM<|γ Z (vI s)<|.val<|z s).bind _)=_;rw[st];exact q
 obtain⟨I,O,q⟩:=d m 0 .no .no ⋯;rw[<-Ot]at q;have a:ZC (zg 3) (γ Z .no .no)=cq ((Ml m).map λ(k:Nat)=>D.tup [.int k,z k]):=by show cq (qU<|kZ m w wd wd')=_;unfold kZ;rw[KA]
 have n:(kZ m w wd wd').length=m:=by simp[kZ]
 exact aE (γ':=γ Z I O) (zh (γ':=γ .no .no .no) (by simp[γ,zN,Mm,f])<|zh (γ':=γ Z .no .no) (by simp[γ,Z,sz])<|zh (γ':=γ Z I O) (by rw[V7,a];exact q)<|by simp[γ,Z,je,Xg,n])
end
section
variable{p:Int}{m:Nat}{w:UK}{wd wd':UX}{T T' J:UW}
theorem cp(z:m<=4)(le:zq (λk=>((wd k+wd' k:Nat):Int)) (m+1)<=30):jZ [zK p m w wd T,zK p m w wd' T']=cq (.val<|.tup<|zH (m+1) λk=>((wd k+wd' k:Nat):Int)):=by
 have Z:=jk;have I:m+1<=lim:=⋯
 have l:=qW p m w wd T;have n:=qW p m w wd' T';have O:zT (.tp [0,1]) jO (zG jX (zg 0)<|zg 1) [Cell.no,Cell.no] ((Ml<|m+1).map λi=>D.tup [.int (wd i:Int),.int (wd' i:Int)])=cq (zH (m+1) λk=>((wd k+wd' k:Nat):Int)):=by rw[qG (m+1) λk=>((wd k+wd' k:Nat):Int)];refine zw _ _ λk o=>zy rfl rfl ?_;show zG _ _ _ [vI (wd k:Int),vI (wd' k:Int)]=_;simp
 have f:hM 3 1=cq 1:=rfl;have g:(jG 2<|zX<|jH<|zV (YE (dj (zm 0)<|sI 1)<|dj (zm 1)<|sI 1) (.tp [0,1]) 2 [] jO (zG jX (zg 0)<|zg 1)) (zN 3 [zK p m w wd T,zK p m w wd' T'])=cq (.next [.val (zK p m w wd T),.val<|zK p m w wd' T',.val (.tup<|zH (m+1) λk=>((wd k+wd' k:Nat):Int))]):=by
  have b:YE (dj (zm 0)<|sI 1) (dj (zm 1)<|sI 1) [.val (zK p m w wd T),.val<|zK p m w wd' T',.no]=cq ((Ml<|m+1).map λi=>D.tup [.int (wd i:Int),.int (wd' i:Int)]):=by rw[<-wD (m+1) (λk=>(wd k:Int)) λk=>(wd' k:Int)];simp[l,n,f,qA]
  have e:((Ml<|m+1).map λi=>D.tup [.int (wd i:Int),.int (wd' i:Int)]).length<=lim:=by simpa using I
  show(((zV _ _ _ _ _ _ [.val (zK p m w wd T),.val<|zK p m w wd' T',.no]).map λd=>(Sk.L,d)).map λa=>D.tup a.2).map _=_;rw[kF,b];simp only[Mx];rw[UJ e,show jm 2 [] [.val (zK p m w wd T),.val<|zK p m w wd' T',.no]=[Cell.no,Cell.no]from rfl,O];rfl
 have j:qB [.tup (zH (m+1) λk=>((wd k+wd' k:Nat):Int))]=cq (.val .ej):=by
  have U:=kj (λk=>((wd k+wd' k:Nat):Int))<|m+1;have Y:¬((30:Int)<zq (λk=>((wd k+wd' k:Nat):Int)) (m+1)):=⋯
  refine aE (γ':=[.val (.tup<|zH (m+1) λk=>((wd k+wd' k:Nat):Int))]) ?_;simp only[zN,MT,TV,NB,NZ,Og,Nat.sub_self,Mm,Ra,ye,px,ZV,bI,xV,KB,MW,jI,qA,Mx,Ni,U,Az,bG,decide_eq_false Y,Nw,if_false];rfl
 have h:(Jg<|zD qB<|zb (zg 2) zB) [.val (zK p m w wd T),.val<|zK p m w wd' T',.val (.tup<|zH (m+1) λk=>((wd k+wd' k:Nat):Int))]=cq (.next [.val (zK p m w wd T),.val<|zK p m w wd' T',.val (.tup<|zH (m+1) λk=>((wd k+wd' k:Nat):Int))]):=by simp only[AZ,kG,jh,ZU,w6,MW,Np,qg,Mx,Ni,j]
 exact zW<|zh g<|zh h rfl
theorem Hl(hm:m<=4)(hw:∀k,wd k<=9)(O:∀k,wd' k<=9)(le:zq (λk=>((wd k+wd' k:Nat):Int)) (m+1)<=30):Zw [zK p m w wd T,zK p m w wd' T',.lst (jJ m w wd wd' J)]=cq (.val<|uV p m w wd wd' T T' J):=by
 have y:=jk;have Y:m<=lim:=⋯
 have r:2<=lim:=⋯
 have s:3<=lim:=⋯
 have t:=cp (p:=p) (w:=w) (T:=T) (T':=T') hm le;have I:∀(u:UX),(∀k,u k<=9)->∀k,eA w u k<=400/\ez w u k<=400:=λu U k=>by rw[<-qT,<-xf];have:=U<|xG w k;have:=U<|xN w k;lia
 let Z:List D:=(Ml m).map λk=>D.tup [vD w wd T k,vD w wd' T' k,jR (eA w wd k) (ez w wd' k) (J k)];let A:List D:=qZ m w (λk=>wd k+wd' k) λk=>dG (eA w wd k) (ez w wd k) (T k) (T' k)<|J k;have f:zT (.tp [0,1,2]) jO (qC<|zb (dj (zm 0)<|sI 0)<|zb (zD qM<|zb (dj (zm 0)<|sI 1)<|zb (dj (zm 1)<|sI 1)<|zb (zg 2) zB) zB) [Cell.no,Cell.no,Cell.no] Z=cq A:=by refine zw _ _ λk x=>zy rfl rfl ?_;have j:=iy (h:=eA w wd k) (w:=ez w wd k) (h':=eA w wd' k) (w':=ez w wd' k) (T k) (T' k) (J k) (I wd hw k).1 (I wd hw k).2 (I wd' O k).1 (I wd' O k).2;have d:jD (vD w wd T k)=cq (.T,[.str (kJ<|hB<|w k),jR (eA w wd k) (ez w wd k) (T k)]):=rfl;have e:jD (vD w wd' T' k)=cq (.T,[.str (kJ<|hB<|w k),jR (eA w wd' k) (ez w wd' k) (T' k)]):=rfl;show qC _ [Cell.val (vD w wd T k),Cell.val<|vD w wd' T' k,Cell.val (jR (eA w wd k) (ez w wd' k)<|J k)]=_;simp[d,e,hM,j,r];unfold vD;rw[Aj,sA]
 have z:We (qZ m w wd T) (qZ m w wd' T') (jJ m w wd wd' J)=Z:=by unfold We qZ jJ;rw[Pq,Pq,Nh];rfl
 let a:Cell->Cell->Ctx:=λi l=>[.val (zK p m w wd T),.val<|zK p m w wd' T',.val<|.lst<|jJ m w wd wd' J,i,l];let S:=Cell.val<|.tup<|zH (m+1) λk=>((wd k+wd' k:Nat):Int);have b:tG (dj (zm 0)<|sI 2) (dj (zm 1)<|sI 2) (zg 2) (a S .no)=cq Z:=by rw[<-z];rfl
 have n:Z.length<=lim:=by simpa[Z]using Y
 have o:YB [zK p m w wd T,zK p m w wd' T',.lst (jJ m w wd wd' J)]=cq (.val<|uV p m w wd wd' T T' J):=by
  refine zW<|zh (γ':=a S .no) (by simp[a,S,zN,t])<|zh (γ':=a S<|.val<|.lst A) ?_ ?_
  ·rw[yN,V6,kF,b]
   simp only[Mx];rw[UJ n,show jm 3 [] (a S .no)=[Cell.no,Cell.no,Cell.no]from rfl,f];rfl
  ·rw[w9,V3,jh,jh,jh,show dj (zm 0) (sI 0) (a S<|.val<|.lst A)=cq (.int p)from rfl]
   simp[a,S,je,s];rfl
 have g:=AN (p:=p) (w:=w) (wd:=wd) (wd':=wd') (T:=T) (T':=T') (J:=J) hm;exact zW (zh (γ':=[.val (zK p m w wd T),.val<|zK p m w wd' T',.val (.lst<|jJ m w wd wd' J)]) (by simp[zN,g])<|by simp[o])
end
section
variable{m:Nat}{w:UK}{wd:UX}{T:UW}
theorem JZ(m w wd T):jD (xi m w wd T)=cq (.T,[.lst (zH (m+1) λk=>(wd k:Int)),.lst (Zy m w wd T)]):=rfl
theorem sN(h w f):jD (jR h w f)=cq (.T,[.int (h:Int),.int (w:Int),.tup (zP h w f)]):=rfl
theorem Jw(h w f):(zP h w f).length=h:=by simp[zP]
theorem WY(s w:Nat)(f:UV):zP (s+1) w f=zP s w f++[.tup (zH w<|f s)]:=kK _ _
end
def wl(l:List Bool):Str:=⟨⟨l.map hB⟩⟩
theorem eU(m w):j7 m w=wl ((Ml m).map w):=by have h:=qQ m w;rw[show(Ml m).map (λk=>hB<|w k)=((Ml m).map w).map hB by rw[Nh];rfl]at h;unfold wl;generalize j7 m w=a at h;obtain⟨⟨l⟩⟩:=a;exact congrArg (λx=>Str.mk ⟨x⟩) h
theorem Yo(b:Bool):gw (.str (kJ (hB b))) (.str "r")=cq (.bl (!b)):=by cases b<;>kernel_rfl
abbrev TB:=Nat×Nat×(Nat->Nat->Int)
def tD(t:TB):D:=jR t.1 t.2.1 t.2.2
theorem EX{x y:D}(hx:l8 x=cI)(I:l8 y=cI):gw x y=cq (.bl<|jn x y):=by unfold gw;rw[UJ ⟨hx,I⟩]
def ZG(bs:List (Int×Int))(I us:List TB):D:=.tup [.lst (yd bs),.lst<|I.map tD,.lst (us.map tD)]
structure g8 where
 s:Nat
 n:Nat
 v:Nat->Vc
def g8.has(b:g8)(r:Nat):Bool:=decide (b.s<=r)&&decide (r<b.s+b.n)
theorem o9{b:g8}{r:Nat}:b.has r=cI↔b.s<=r/\r<b.s+b.n:=by simp[g8.has]
def ml:g8:=⟨0,0,λ_ _=>0⟩
structure t5(p:Int)(w:UK)(wd:UX)(T:UW)(k:Nat)(b:g8):Prop where
 n1:1<=b.n
 le:b.s+b.n<=k+1
 m4:∀r i,b.has r=cI->i<wd r->0<=b.v r i/\b.v r i<p
 arr:∀j,j<k->b.has (xN w j)=cI->∀i,i<wd (xG w j)->app (T j) (wd<|xN w j) (b.v<|xN w j) i%p=(if b.has (xG w j)=cI then b.v (xG w j) i else 0)%p
def Ord(w:UK)(a b:g8):Prop:=(a.s<b.s->w (b.s-1)=cI)/\(b.s<a.s->w (a.s-1)=di)
def Li(z:List g8)(r:Nat):Vc->Prop:=λg=>∃b,b∈z/\b.has r=cI/\g=b.v r
def t4(p:Int)(A:Nat->g8)(N:Nat)(t:Vc)(r:Nat):Vc:=λc=>zq (λj=>if (A j).has r=cI then t j*(A j).v r c else 0) N%p
def L3(p:Int)(A:Nat->g8)(N:Nat)(t:Vc)(i:Nat):g8:=⟨(A i).s,(A i).n,t4 p A N t⟩
section
variable{p:Int}{w:UK}{wd:UX}{T:UW}{k N:Nat}{A:Nat->g8}
theorem Zu(f:UV)(h:Nat)(t:Vc)(u:Nat->Vc)(n:Nat)(i:Nat):app f h (λc=>zq (λj=>t j*u j c) n) i=zq (λj=>t j*app f h (u j) i) n:=by
 unfold app;have e:zq (λj=>f i j*zq (λk=>t k*u k j) n) h=zq (λj=>zq (λk=>t k*(f i j*u k j)) n) h:=zO λj _=>by rw[<-qz];exact zO λk _=>by rw[<-RI,<-RI,Pe (f i j)]
 rw[e,yF];exact zO λj _=>qz ..
theorem uZ(c:Prop) [Decidable c](x y:Int):(if c then x*y else 0)=x*(if c then y else 0):=by split<;>simp
theorem AQ(f:UV)(h r:Nat)(t:Vc)(i:Nat):app f h (t4 p A N t r) i%p=zq (λj=>t j*(if (A j).has r=cI then app f h ((A j).v r) i else 0)) N%p:=by
 have e:app f h (t4 p A N t r) i%p=app f h (λc=>zq (λj=>t j*(if (A j).has r=cI then (A j).v r c else 0)) N) i%p:=km (λc _=>by unfold t4;rw[ND];congr 1;exact zO λj _=>uZ ..) i
 rw[e,Zu];congr 1;refine zO λj _=>?_;congr 1;by_cases I:(A j).has r=cI
 ·simp only[UJ I]
 ·simp only[UY I]
  unfold app;simp[jr]
theorem Em(p0:0<p)(hA:∀j,j<N->t5 p w wd T k (A j))(hk:∀j,j<N->(A j).has k=cI){t:Vc}{i:Nat}(hi:i<N)(hO:∀c,i<c->c<N->Ord w (A i) (A c))(tz:∀c,c<i->t c=0):
 t5 p w wd T k (L3 p A N t i):=by
 refine⟨(hA i hi).n1,(hA i hi).le,λr c _ _=>⟨Nj _ ⋯,Ng _ p0⟩,λj g O c f=>?_⟩;have O:(A i).has (xN w j)=cI:=O;show app (T j) (wd<|xN w j) (t4 p A N t<|xN w j) c%p=(if (A i).has (xG w j)=cI then t4 p A N t (xG w j) c else 0)%p;rw[AQ];have h I:I<N->t I≠0->((A i).has (xG w j)=cI->(A I).has (xG w j)=cI->(A I).has (xN w j)=cI)/\((A i).has (xG w j)=di->(A I).has (xN w j)=cI->(A I).has (xG w j)=di):=λU b=>by
  have x:=o9.mp<|hk i hi;have y:=o9.mp<|hk I U;have Y:i<=I:=Nat.not_lt.mp λz=>b<|tz I z;rcases Nat.lt_or_eq_of_le Y with Y|Y
  ·obtain⟨o,u⟩:=hO I Y U
   have O:=o9.mp O;cases hw:w j with
   | false=>
    have Z:xN w j=j:=by unfold xN;rw[hw];rfl
    have d:xG w j=j+1:=by unfold xG;rw[hw];rfl
    rw[Z]at O;rw[Z,d];refine⟨λ_ q=>o9.mpr ?_,λq _=>?_⟩
    ·have q:=o9.mp q
     refine⟨Nat.not_lt.mp λz=>?_,⋯⟩;have e:(A I).s=j+1:=⋯
     have:=o ⋯;rw[e]at this;simp[hw]at this
    ·exfalso
     have:(A i).has (j+1)=cI:=o9.mpr ⋯;rw[this]at q;cases q
   | true=>
    have Z:xN w j=j+1:=by unfold xN;rw[hw];rfl
    have d:xG w j=j:=by unfold xG;rw[hw];rfl
    rw[Z]at O;rw[Z,d];refine⟨λ_ q=>o9.mpr ?_,λq _=>?_⟩
    ·have q:=o9.mp q
     lia
    ·cases a:(A I).has j with
     |false=>rfl
     | true=>
      exfalso;have a:=o9.mp a;have e:(A i).s=j+1:=by
       have:¬((A i).s<=j):=λz=>by have:(A i).has j=cI:=o9.mpr ⋯;rw[this]at q;cases q
       lia
      have:=u ⋯;rw[e]at this;simp[hw]at this
  ·subst Y
   exact⟨λ_ _=>O,λq _=>q⟩
 have l:zq (λI=>t I*(if (A I).has (xN w j)=cI then app (T j) (wd<|xN w j) ((A I).v (xN w j)) c else 0)) N%p
  = zq (λI=>if (A i).has (xG w j)=cI then (if (A I).has (xG w j)=cI then t I*(A I).v (xG w j) c else 0)else 0) N%p:=jC λI U=>by
  by_cases b:t I=0
  ·simp[b]
  obtain⟨m,n⟩:=h I U b;cases a:(A i).has (xG w j)with
  | false=>
   cases hy:(A I).has (xN w j)with
   |false=>simp
   |true=>
    have q:=(hA I U).arr j g hy c f;rw[n a hy]at q;simp only[if_true];rw[MK,q];simp
  | true=>
   cases hy:(A I).has (xN w j)with
   |false=>
    cases hz:(A I).has (xG w j)with
    |false=>simp
    |true=>rw[m a hz]at hy;cases hy
   |true=>
    have q:=(hA I U).arr j g hy c f;simp only[if_true];rw[MK,q,<-MK];congr 1;cases hz:(A I).has (xG w j)<;>simp
 rw[l];cases a:(A i).has (xG w j)with
 |false=>simp[jr]
 |true=>
  simp only[if_true];unfold t4;rw[ND]
theorem nZ{G':Vc->Prop}{r n:Nat}{A':Nat->g8}(t:Nat->Vc)(a1:∀i,i<N->t i i=1)(hz:∀i c,i<N->c<i->t i c=0)
 (a2:∀i,i<N->(A i).has r=cI->Span p n G' ((A' i).v r)) (he:∀i,i<N->(A i).has r=cI->∀c,c<n->(A' i).v r c%p=t4 p A N (t i) r c%p):
 ∀i,i<N->(A i).has r=cI->Span p n G' ((A i).v r):=by
 have e : ∀d i,N - i<=d->i<N->(A i).has r=cI->Span p n G' ((A i).v r):=by
  intro d
  induction d with
  |zero=>intro i b O;lia
  | succ d u=>
   intro i b O U;have s:Span p n G' λc=>zq (λj=>(if j=i then 0 else if (A j).has r=cI then t i j else 0)*(A j).v r c) N:=by
    have gen:∀M,M<=N->Span p n G' λc=>zq (λj=>(if j=i then 0 else if (A j).has r=cI then t i j else 0)*(A j).v r c) M:=by
     intro M
     induction M with
     |zero=>intro _;exact .zero λc _=>by simp[zq]
     | succ M f=>
      intro w;have q:=f ⋯;by_cases I:M=i\/¬((A M).has r=cI)\/M<i
      ·refine q.congr λc _=>?_
       show(zq _ M+_)%p=_;rcases I with I|I|I
       ·simp[I]
       ·simp[I]
       ·have z:=hz i M O I;simp only[z];simp
      ·have g:M≠i/\(A M).has r=cI/\¬M<i:=by
        refine⟨λz=>I<|.inl z,?_,λz=>I<|.inr<|.inr z⟩;cases a:(A M).has r with
        |true=>rfl
        |false=>exact absurd (.inr<|.inl<|by rw[a];decide) I
       exact((u M ⋯ ⋯ g.2.1).add q (if M=i then 0 else if (A M).has r=cI then t i M else 0)).congr λc _=>rfl
    exact gen N<|Mq _
   have m:=s.add (a2 i O U) (-1);refine m.congr λc I=>?_;have h:zq (λj=>if (A j).has r=cI then t i j*(A j).v r c else 0) N=(A i).v r c+zq (λj=>(if j=i then 0 else if (A j).has r=cI then t i j else 0)*(A j).v r c) N:=by
    have l:(A i).v r c=zq (λj=>if j=i then (A i).v r c else 0) N:=by rw[jB O λk _ o=>by simp[o]];simp
    rw[l,<-qJ];refine zO λj x=>?_;by_cases Z:j=i
    ·subst Z;simp[U,a1 j O]
    ·simp only[UY Z]
     by_cases a:(A j).has r=cI
     ·simp[a]
     ·simp[a]
   have Y:=he i O U c I;unfold t4 at Y;rw[ND,h]at Y;rw[NW,Y,<-NW];congr 1;lia
 exact λi b O=>e N i ⋯ b O
end
section
variable{p:Int}{n m N h r r2 q:Nat}{B B2 K:Nat->Vc}{l l2:UX}{M f:UV}
theorem QF(I:Span p n (eK m U) v):∃t:Vc,∀i,i<n->v i%p=zq (λj=>t j*U j i) m%p:=by
 induction I with
 |zero h=>exact⟨λ_=>0,λi a=>by rw[h i a];simp[jr]⟩
 |@step v w g c O o Y Z=>
  obtain⟨t,l⟩:=Z;obtain⟨k,d,rfl⟩:=O;refine⟨λj=>t j+if j=k then c else 0,λi a=>?_⟩;rw[Y i a,NW,l i a,<-NW];congr 1;have e:zq (λj=>(t j+if j=k then c else 0)*U j i) m=zq (λj=>t j*U j i) m+zq (λj=>(if j=k then c else 0)*U j i) m:=by rw[<-qJ];exact zO λj _=>Int.add_mul ..
  rw[e,jB (f:=λj=>(if j=k then c else 0)*U j i) d λj _ b=>by simp[b]];simp
theorem yG(a b:Nat->Int)(n:Nat):zq (λj=>a j*b j) n=zq (λj=>b j*a j) n:=zO λj _=>Pe ..
theorem Dl:Span p h (eK N λj i=>M i j) u ↔ ∃x:Vc,∀i,i<h->u i%p=app M N x i%p:=by
 constructor
 ·intro q
  obtain⟨t,I⟩:=QF q;exact⟨t,λi a=>by rw[I i a];unfold app;rw[yG]⟩
 ·rintro⟨x,b⟩
  refine(Span.sum (u:=λj i=>M i j) x (m:=N) λj O=>.gen ⟨j,O,rfl⟩).congr λi a=>?_;rw[b i a];unfold app;rw[yG]
theorem VE(n:Nat)(v:Vc):Span p n (eK n j9) v:=by refine(Span.sum (u:=j9) v (m:=n) λj I=>.gen ⟨j,I,rfl⟩).congr λi a=>?_;rw[jB (f:=λk=>v k*j9 k i) a λk _ O=>by simp[j9,O]];simp[j9]
theorem Xk(I:Pr p)(z:N<=16)(hs:∀v:Vc,∃t,∀i,i<N->v i%p=app f N t i%p)(U:∀i,i<N->app f N t i%p=0):∀j,j<N->t j%p=0:=by
 obtain⟨q,K,l,s,_,g,O,Y,e⟩:=vn I (h:=N) (w:=N) ⋯ ⋯ f;have Z:Rk p N N (λj i=>f i j) N:=⟨j9,id,ao I N,λv=>⟨λ_=>Dl.mpr<|hs v,λ_=>VE N v⟩⟩;have:=Ji I Y Z;have d:q=0:=⋯
 subst d;have:=(O t).mpr λi b=>by have:=U i b;unfold app at this;exact this
 cases this with
 |zero h=>exact h
 |step a _ _=>obtain⟨k,O,_⟩:=a;lia
def X5(r:Nat)(B:Nat->Vc)(l:UX)(t:Vc):Vc:=λi=>t i-zq (λj=>t (l j)*B j i) r
theorem Kr(O:il p N r B l)(t:Vc)(I:j<r):X5 r B l t (l j)=0:=by unfold X5;rw[jB (f:=λU=>t (l U)*B U (l j)) I λk Y Z=>by rw[O.wy k j Y I (Nr Z)];simp];rw[O.one j I];lia
theorem aY(t:Vc):Span p N (eK r B) λi=>zq (λj=>t (l j)*B j i) r:=Span.sum (u:=B) (λj=>t<|l j) λj I=>.gen ⟨j,I,rfl⟩
theorem Ah(I:il p N r B l)(h:Span p N (eK r B) t)(hz:∀j,j<r->t (l j)%p=0):∀i,i<N->t i%p=0:=λi a=>by
 rw[Xr I h i a];have e:zq (λk=>t (l k)*B k i) r%p=zq (λ_=>0) r%p:=jC λk O=>by rw[MK,hz k O];simp
 rw[e,jr];simp
theorem aj(I:Pr p)(O:il p N r B l)(z:i<N)(hn:∀j,j<r->l j≠i):¬Span p N (eK r B) (j9 i):=λh=>by have:=Ah O h (λj U=>by unfold j9;rw[UY (Nr<|hn j U)];simp) i z;unfold j9 at this;rw[UJ rfl,I.one]at this;lia
theorem Xx(g:UV)(w:Nat)(u v:Vc)(i:Nat):app g w (λj=>u j-v j) i=app g w u i-app g w v i:=by
 have e:app g w u i=app g w (λj=>u j-v j) i+app g w v i:=by unfold app;rw[<-qJ];exact zO λj _=>by dsimp only;rw[<-SH];congr 1;lia
 lia
def WA(M f:UV)(N:Nat):Nat->Nat->Int:=λi j=>zq (λk=>M i k*f k j) N
theorem J7(t:Vc)(i:Nat):app (WA M f N) N t i=app M N (app f N t) i:=by
 unfold app WA;have e:zq (λj=>zq (λk=>M i k*f k j) N*t j) N=zq (λj=>zq (λk=>M i k*(f k j*t j)) N) N:=zO λj _=>by rw[<-cC];exact zO λk _=>RI ..
 rw[e,yF];exact zO λk _=>qz ..
theorem BF(hp:Pr p)(hN:N<=16)(hh:h<=16)(hs:∀v:Vc,∃t,∀i,i<N->v i%p=app f N t i%p)(hb:il p N r B l)(Y:∀t,Span p N (eK r B) t↔DF p h N M (app f N t))
 (a6:il p h r2 B2 l2) (hI:∀v,Span p h (eK r2 B2) v↔Span p h (eK N λj i=>M i j) v):
 (∀j,j<r->∀i,i<h->app M N (app f N<|B j) i%p=0)/\(∀c,c<N->(∀j,j<r->l j≠c)->∃i,i<h/\app M N (λa=>f a c) i%p≠0)/\r+r2=N/\
   ∀U:Vc->Prop,(∀c,c<N->(∀j,j<r->l j≠c)->Span p h U (app M N λa=>f a c))->(∀c,c<h->(∀j,j<r2->l2 j≠c)->Span p h U (j9 c))->∀v,Span p h U v:=by
 have g:∀t:Vc,DF p h N M (app f N t) ↔ ∀i,i<h->app M N (app f N t) i%p=0:=λt=>Iff.rfl;have o:∀(c:Nat),c<N->∀i,app M N (λa=>f a c) i%p=app M N (app f N<|j9 c) i%p:=λc I i=>km (λa _=>by rw[J6 f I]) i;refine⟨λj O=>(g _).mp ((Y<|B j).mp (.gen ⟨j,O,rfl⟩)),λc I L=>?_,?_,λU G H v=>?_⟩
 ·refine NO λz=>aj hp hb I L ((Y _).mpr ((g _).mpr λi b=>?_))
  rw[<-o c I i];exact NO λy=>z ⟨i,b,y⟩
 ·obtain⟨S,K',l',T,_,s,n,A,b2⟩:=vn hp (h:=h) (w:=N) ⋯ ⋯ (WA M f N)
  have e1:S=r:=(Xu hp s hb (λv k=>(Y v).mpr λi b=>by
   have:=(n v).mp k i b;rw[show zq (λj=>WA M f N i j*v j) N=app (WA M f N) N v i from rfl,J7]at this;exact this) λv k=>(n v).mpr λi b=>by
   have:=(Y v).mp k i b;rw[show zq (λj=>WA M f N i j*v j) N=app (WA M f N) N v i from rfl,J7];exact this).1
  have e2:T=r2:=by
   refine Ji hp A ⟨B2,l2,a6,λv=>(hI v).trans ⟨λz=>?_,λz=>?_⟩⟩
   ·obtain⟨x,m⟩:=Dl.mp z
    obtain⟨t,Z⟩:=hs x;refine Dl.mpr ⟨t,λi b=>?_⟩;rw[m i b,J7];exact km Z i
   ·obtain⟨t,Z⟩:=Dl.mp z
    exact Dl.mpr ⟨app f N t,λi b=>by rw[Z i b,J7]⟩
  lia
 ·
  have R:∀t:Vc,Span p h U (app M N<|app f N t):=λt=>by
   have Q:=(g _).mp ((Y _).mp (aY (p:=p) (N:=N) (B:=B) (r:=r) (l:=l) t));have e i:i<h->app M N (app f N t) i%p=app M N (app f N<|X5 r B l t) i%p:=λb=>by
    have E:app M N (app f N<|X5 r B l t) i=app M N (app f N t) i-app M N (app f N λi=>zq (λj=>t (l j)*B j i) r) i:=by rw[<-Xx];congr 1;funext a;exact Xx ..
    rw[E,OP,Q i b];simp
   refine Span.congr ?_ e;have F i:app M N (app f N<|X5 r B l t) i=zq (λc=>X5 r B l t c*app M N (λa=>f a c) i) N:=by rw[<-Zu];congr 1;funext a;unfold app;exact yG ..
   have W:∀K,K<=N->Span p h U λi=>zq (λc=>X5 r B l t c*app M N (λa=>f a c) i) K:=by
    intro K
    induction K with
    |zero=>intro _;exact .zero λi _=>by simp[zq]
    | succ K d=>
     intro J;by_cases I:∃j,j<r/\l j=K
     ·obtain⟨j,O,rfl⟩:=I
      refine(d ⋯).congr λi _=>?_;show(zq _ (l j)+_)%p=_;have z:=Kr hb t O;simp only[z];simp
     ·exact((G K ⋯ λj O z=>I ⟨j,O,z⟩).add (d ⋯) _).congr λi _=>rfl
   exact(W N<|Mq _).congr λi _=>by rw[F]
  have C u:Span p h (eK r2 B2) u->Span p h U u:=λP=>by obtain⟨x,m⟩:=Dl.mp<|(hI u).mp P;obtain⟨t,Z⟩:=hs x;exact(R t).congr λi b=>by rw[m i b];exact km Z i
  have X:∀K,K<=h->Span p h U λi=>zq (λc=>X5 r2 B2 l2 v c*j9 c i) K:=by
   intro K
   induction K with
   |zero=>intro _;exact .zero λi _=>by simp[zq]
   | succ K d=>
    intro J;by_cases I:∃j,j<r2/\l2 j=K
    ·obtain⟨j,O,rfl⟩:=I
     refine(d ⋯).congr λi _=>?_;show(zq _ (l2 j)+_)%p=_;have z:=Kr a6 v O;simp only[z];simp
    ·exact((H K ⋯ λj O z=>I ⟨j,O,z⟩).add (d ⋯) _).congr λi _=>rfl
  refine((C _<|aY (B:=B2) (r:=r2) (l:=l2) v).add (X h<|Mq _) 1).congr λi b=>?_;congr 1;rw[jB (f:=λc=>X5 r2 B2 l2 v c*j9 c i) b λc _ I=>by simp[j9,I]];simp only[j9,if_true,X5];lia
theorem BG(O:Pr p)(hN:N<=16)(hh:h<=16)(hs:∀v:Vc,∃t,∀i,i<N->v i%p=app f N t i%p)(hb:il p N r B l)(hW:∀t,Span p N (eK r B) t↔Span p N (eK h λj i=>M i j) (app f N t))
 (hk:∀v,Span p h (eK q K) v↔DF p N h M v) (hr:Rk p N h (λj i=>M i j) s) (b9:q+s=h):
 (∀j,j<r->∃y:Vc,∀i,i<N->app M h y i%p=app f N (B j) i%p)/\(∀c,c<N->(∀j,j<r->l j≠c)->¬∃y:Vc,∀i,i<N->app M h y i%p=f i c%p)/\r+q=h/\
   ∀(Gx:Vc->Prop) (x:Nat->Vc),(∀j,j<r->Span p h Gx (x j)/\∀i,i<N->app M h (x j) i%p=app f N (B j) i%p)->(∀j,j<q->Span p h Gx (K j))->∀v,Span p h Gx v:=by
 have o t:Span p N (eK r B) t ↔ ∃y:Vc,∀i,i<N->app f N t i%p=app M h y i%p:=(hW t).trans Dl;have inj:∀{t:Vc},(∀i,i<N->app f N t i%p=0)->∀j,j<N->t j%p=0:=λY=>Xk O hN hs Y;refine⟨λj I=>?_,λc R hn z=>?_,?_,λGx x P h2 v=>?_⟩
 ·obtain⟨y,d⟩:=(o<|B j).mp (.gen ⟨j,I,rfl⟩)
  exact⟨y,λi b=>(d i b).symm⟩
 ·obtain⟨y,d⟩:=z
  exact aj O hb R hn<|(o _).mpr ⟨y,λi b=>by rw[J6 f R,d i b]⟩
 ·have J:s<=16/\r<=16:=by
   obtain⟨E,bb,X⟩:=tM O (n:=N) (m:=h) ⋯ hh λj i=>M i j;refine⟨by rw[Ji O hr X];lia,?_⟩;have:∀A,A<=r->A<=N:=by
    intro A;have mono:∀k,k<r->k<=l k:=by
     intro k
     induction k with
     |zero=>intro _;lia
     |succ k ih=>intro hk;have:=ih ⋯;have:=hb.mono k (k+1) ⋯ hk;lia
    intro bd;cases A with
    |zero=>lia
    |succ L=>have:=mono L ⋯;have:=hb.lt L ⋯;lia
   have:=this r<|Mq _;lia
  have be:s<=r:=by
   obtain⟨E,T,F⟩:=tM O (n:=N) (m:=r) ⋯ J.2 λj=>app f N<|B j;have e:s=E:=by
    obtain⟨C,Z,H,w⟩:=hr;refine Ji O (m:=h) (W:=λj i=>M i j) ⟨C,Z,H,w⟩ ?_;obtain⟨S,b3,b4,b5⟩:=F;refine⟨S,b3,b4,λv=>(b5 v).trans ⟨λz=>?_,λz=>?_⟩⟩
    ·exact z.le λg U=>by obtain⟨j,I,rfl⟩:=U;exact(hW<|B j).mp (.gen ⟨j,I,rfl⟩)
    ·obtain⟨y,d⟩:=Dl.mp z
     obtain⟨t,Y⟩:=hs v;have G:Span p N (eK r B) t:=(o t).mpr ⟨y,λi b=>by rw[<-Y i b,d i b]⟩;refine(Span.sum (u:=λj=>app f N<|B j) (λj=>t<|l j) (m:=r) λj I=>.gen ⟨j,I,rfl⟩).congr λi b=>?_;rw[Y i b,<-Zu];exact km (λj I=>Xr hb G j I) i
   lia
  have bg:r<=s:=by
   obtain⟨C,Z,H,w⟩:=hr;have ex j:∃t:Vc,∀i,i<N->C j i%p=app f N t i%p:=hs<|C j;have U:∃g:Nat->Vc,∀j i,i<N->C j i%p=app f N (g j) i%p:=⟨λj=>Classical.choose<|ex j,λj=>Classical.choose_spec<|ex j⟩;obtain⟨g,U⟩:=U;obtain⟨E,T,F⟩:=tM O (n:=N) (m:=s) ⋯ J.1 g;have e:r=E:=by
    refine Ji O (m:=s) (W:=g) ⟨B,l,hb,λv=>⟨λz=>?_,λz=>?_⟩⟩ F
    ·have hv:=(w _).mpr ((hW v).mp z)
     refine(Span.sum (u:=g) (λj=>app f N v<|Z j) (m:=s) λj I=>.gen ⟨j,I,rfl⟩).congr λi b=>?_;have z0 a:a<N->app f N (λi=>v i-zq (λj=>app f N v (Z j)*g j i) s) a%p=0:=λQ=>by
      rw[Xx,Zu,OP,Xr H hv a Q];have e:zq (λk=>app f N v (Z k)*C k a) s%p=zq (λk=>app f N v (Z k)*app f N (g k) a) s%p:=jC λk _=>by rw[MK,U k a Q,<-MK]
      rw[e];simp
     have:=inj z0 i b;exact(Int.emod_emod_of_dvd _<|Int.dvd_refl p).symm.trans (by
      rw[ND];have:(v i-zq (λj=>app f N v (Z j)*g j i) s)%p=0:=this;exact Te.mpr this)
    ·refine z.le λu hu=>?_
     obtain⟨j,I,rfl⟩:=hu;refine(hW _).mpr (((w<|C j).mp (.gen ⟨j,I,rfl⟩)).congr λi b=>(U j i b).symm)
   lia
  lia
 ·obtain⟨t,Y⟩:=hs (app M h v)
  have G:Span p N (eK r B) t:=(o t).mpr ⟨v,λi b=>(Y i b).symm⟩;have hx:Span p h Gx λc=>zq (λj=>t (l j)*x j c) r:=Span.sum (u:=x) (λj=>t<|l j) λj I=>(P j I).1;have hd:Span p h Gx λc=>v c-zq (λj=>t (l j)*x j c) r:=by
   refine((hk _).mpr λi b=>?_).le λg U=>by obtain⟨j,I,rfl⟩:=U;exact h2 j I
   show app M h (λc=>v c-zq (λj=>t (l j)*x j c) r) i%p=0;rw[Xx,Zu,OP];have e:zq (λj=>t (l j)*app M h (x j) i) r%p=app M h v i%p:=by rw[Y i b,km (λj I=>Xr hb G j I) i,Zu];exact jC λj I=>by rw[MK,(P j I).2 i b,<-MK]
   rw[e];simp
  refine(hx.add hd 1).congr λc _=>?_;congr 1;lia
end
structure Dd(p:Int)(w:UK)(wd:UX)(T:UW)(k:Nat)(eL:List g8):Prop where
 ok:∀b,b∈eL->t5 p w wd T k b
 sp:∀r,r<=k->∀v,Span p (wd r) (Li eL r) v
 ct:∀r,r<=k->eL.countP (λb=>b.has r)=wd r
 od:(eL.filter λb=>b.has k).Pairwise (Ord w)
def m8(r:Nat)(l:UX)(i:Nat):Option Nat:=(Ml r).find? λj=>l j==i
theorem ke(h:m8 r l i=cq j):j<r/\l j=i:=by have a:=List.find?_some h;have I:=List.mem_of_find?_eq_some h;exact⟨Mn.mp I,by simpa using a⟩
theorem J1(h:m8 r l i=da):∀j,j<r->l j≠i:=λj I=>by have:=List.find?_eq_none.mp h j<|Mn.mpr I;simpa using this
def h9(p:Int)(A:Nat->g8)(N r:Nat)(B:Nat->Vc)(l:UX)(i:Nat):g8:=match m8 r l i with
 |some j=>L3 p A N (B j) i
 |none=>A i
def l7(k:Nat)(b:g8):Option Vc->g8
 |none=>b
 |some y=>⟨b.s,b.n+1,λr=>if r=k+1 then y else b.v r⟩
def r6(k:Nat)(y:Vc):g8:=⟨k+1,1,λ_=>y⟩
def M0(r:Nat)(B:Nat->Vc)(l:UX)(i:Nat):Vc:=match m8 r l i with
 |some j=>B j
 |none=>j9 i
theorem fE(p A N r B l i):(h9 p A N r B l i).s=(A i).s:=by unfold h9;split<;>rfl
theorem BH(p A N r B l i):(h9 p A N r B l i).n=(A i).n:=by unfold h9;split<;>rfl
theorem Wl(p A N r B l i rm):(h9 p A N r B l i).has rm=(A i).has rm:=by unfold g8.has;rw[fE,BH]
theorem Jr:(r6 k y).has r=decide (r=k+1):=by
 unfold r6 g8.has;by_cases h:r=k+1
 ·simp[h]
 ·simp[h];intro;lia
section
variable{p:Int}{w:UK}{wd:UX}{T:UW}{k N r:Nat}{A:Nat->g8}{B:Nat->Vc}{l:UX}
theorem pH(I:il p N r B l)(z:i<N):M0 r B l i i=1/\∀c,c<i->M0 r B l i c=0:=by
 unfold M0;cases hj:m8 r l i with
 |some j=>
  obtain⟨a,U⟩:=ke hj;subst U;exact⟨I.one j a,λc O=>I.m6 j c a O⟩
 |none=>exact⟨by simp[j9],λc O=>by simp only[j9];rw[UY ⋯]⟩
theorem sT(z:i<N)(O:(A i).has rm=cI):(h9 p A N r B l i).v rm c%p=t4 p A N (M0 r B l i) rm c%p:=by
 unfold h9 M0;cases I:m8 r l i with
 |some j=>rfl
 |none=>
  show(A i).v rm c%p=_;unfold t4;rw[ND];congr 1;rw[jB (f:=λj=>if (A j).has rm=cI then j9 i j*(A j).v rm c else 0) z λj _ I=>by unfold j9;rw[UY (Nr I)];simp];simp[j9,O]
theorem pM(p0:0<p)(U:il p N r B l)(O:∀j,j<N->t5 p w wd T k (A j))(Y:∀j,j<N->(A j).has k=cI)(Z:∀i c,i<c->c<N->Ord w (A i) (A c))(z:i<N):t5 p w wd T k (h9 p A N r B l i):=by
 unfold h9;split
 ·next j d=>
  obtain⟨a,I⟩:=ke d;subst I;exact Em p0 O Y z (λc a I=>Z _ c a I) λc b=>U.m6 j c a b
 ·exact O i z
theorem Ky(I:rm<=k)(O:b.s+b.n=k+1):(l7 k b o).has rm=b.has rm/\(l7 k b o).v rm=b.v rm:=by
 cases o with
 |none=>exact⟨rfl,rfl⟩
 |some y=>
  refine⟨?_,by simp only[l7];rw[UY ⋯]⟩;unfold l7 g8.has;simp only;congr 1;exact decide_eq_decide.mpr ⋯
theorem WV(I:b.s+b.n=k+1):(l7 k b o).has (k+1)=o.isSome:=by
 cases o with
 |none=>unfold l7 g8.has;simp;lia
 |some y=>unfold l7 g8.has;simp;lia
theorem Ar(k b o):(l7 k b o).s=b.s:=by cases o<;>rfl
theorem EO(p0:0<p)(U:b.s+b.n=k+1)(z:t5 p w wd T k b)(hr:∀y,o=cq y->∀c,c<wd (k+1)->0<=y c/\y c<p)
 (h0:o=da->w k=di->∀c,c<wd (k+1)->app (T k) (wd k) (b.v k) c%p=0) (h1:∀y,o=cq y->w k=di->∀c,c<wd (k+1)->app (T k) (wd k) (b.v k) c%p=y c%p)
 (h2:∀y,o=cq y->w k=cI->∀c,c<wd k->app (T k) (wd<|k+1) y c%p=b.v k c%p):t5 p w wd T (k+1) (l7 k b o):=by
 have x:=z.n1;refine⟨?_,?_,λY c h I=>?_,λj A d c I=>?_⟩
 ·cases o with
  |none=>exact z.n1
  |some y=>show 1<=b.n+1;lia
 ·cases o with
  |none=>show b.s+b.n<=k+1+1;lia
  |some y=>show b.s+(b.n+1)<=k+1+1;lia
 ·by_cases m:Y<=k
  ·obtain⟨a,O⟩:=Ky (o:=o) m U
   rw[a]at h;rw[O];exact z.m4 Y c h I
  ·have i:=o9.mp h
   cases o with
   |none=>exact absurd i.2 (by show ¬(Y<b.s+b.n);lia)
   |some y=>
    have:Y=k+1:=by have:Y<b.s+(b.n+1):=i.2;lia
    subst this;have e:(l7 k b<|some y).v (k+1)=y:=by simp[l7]
    rw[e];exact hr y rfl c I
 ·by_cases g:j<k
  ·have g1:xN w j<=k:=by unfold xN;split<;>lia
   have g2:xG w j<=k:=by unfold xG;split<;>lia
   obtain⟨a,O⟩:=Ky (o:=o) g1 U;obtain⟨t,u⟩:=Ky (o:=o) g2 U;rw[a]at d;rw[O,t,u];exact z.arr j g d c I
  ·have g:j=k:=⋯
   subst g;obtain⟨a,O⟩:=Ky (o:=o) (Mq j) U;have l:=WV (k:=j) (o:=o) U;have r:b.has j=cI:=o9.mpr ⋯;cases hw:w j with
   |false=>
    have f:xN w j=j:=by unfold xN;rw[hw];rfl
    have Z:xG w j=j+1:=by unfold xG;rw[hw];rfl
    rw[Z]at I;rw[f,Z,O,l];cases o with
    |none=>rw[h0 rfl hw c I];simp
    |some y=>rw[h1 y rfl hw c I];simp[l7]
   | true=>
    have f:xN w j=j+1:=by unfold xN;rw[hw];rfl
    have Z:xG w j=j:=by unfold xG;rw[hw];rfl
    rw[Z]at I;rw[f,l]at d;rw[f,Z,a,O,r];cases o with
    |none=>cases d
    |some y=>
     have e:(l7 j b<|some y).v (j+1)=y:=by simp[l7]
     rw[e,h2 y rfl hw c I];simp
theorem Ek(hr:∀c,c<wd (k+1)->0<=y c/\y c<p)(z:w k=cI->∀c,c<wd k->app (T k) (wd<|k+1) y c%p=0):t5 p w wd T (k+1) (r6 k y):=by
 refine⟨Mq _,by show k+1+1<=k+1+1;lia,λe c U I=>?_,λj d O c I=>?_⟩
 ·rw[Jr]at U
  have:=of_decide_eq_true U;subst this;exact hr c I
 ·rw[Jr]at O
  have O:=of_decide_eq_true O;cases hw:w j with
  |false=>
   have Y:xN w j=j:=by unfold xN;rw[hw];rfl
   lia
  |true=>
   have Y:xN w j=j+1:=by unfold xN;rw[hw];rfl
   have Z:xG w j=j:=by unfold xG;rw[hw];rfl
   have a:j=k:=⋯
   subst a;rw[Z]at I;have b:(r6 j y).has (xG w j)=di:=by rw[Jr,Z];simp
   rw[b,Y];show app (T j) (wd<|j+1) y c%p=_;rw[z hw c I];simp
def w5(p:Int)(k:Nat)(w:UK)(z:List g8)(A:Nat->g8)(N r:Nat)(B:Nat->Vc)(l:UX)(nx:Nat->Option Vc)(I:List Vc):List g8:=
 (z.filter λb=> !b.has k)++(if w k then (Ml N).map (λi=>l7 k (h9 p A N r B l i)<|nx i)++I.map (r6 k)else I.map (r6 k)++(Ml N).map λi=>l7 k (h9 p A N r B l i)<|nx i)
theorem iR(p0:0<p)(I:Dd p w wd T k eL)(hN:(eL.filter λb=>b.has k).length=N)(Z:∀j,A j=(eL.filter λb=>b.has k).getD j ml)(U:il p N r B l)
 (c1 : ∀i y,i<N->nx i=cq y->∀c,c<wd (k+1)->0<=y c/\y c<p) (c2 : ∀y,y∈news->∀c,c<wd (k+1)->0<=y c/\y c<p)
   (d0:∀i,i<N->nx i=da->w k=di->∀c,c<wd (k+1)->app (T k) (wd k) ((h9 p A N r B l i).v k) c%p=0)
   (d1:∀i y,i<N->nx i=cq y->w k=di->∀c,c<wd (k+1)->app (T k) (wd k) ((h9 p A N r B l i).v k) c%p=y c%p)
   (d2:∀i y,i<N->nx i=cq y->w k=cI->∀c,c<wd k->app (T k) (wd<|k+1) y c%p=(h9 p A N r B l i).v k c%p)
   (d3:∀y,y∈news->w k=cI->∀c,c<wd k->app (T k) (wd<|k+1) y c%p=0)
   (s1:∀v,Span p (wd<|k+1) (λg=>(∃i,i<N/\nx i=cq g)\/g∈news) v) (n1:(Ml N).countP (λi=>(nx i).isSome)+news.length=wd (k+1)):
   Dd p w wd T (k+1) (w5 p k w eL A N r B l nx news):=by
  have F j:j<N->A j∈eL/\(A j).has k=cI:=λC=>by
   have:A j∈eL.filter λb=>b.has k:=by rw[Z j,Mz,Mp ⋯];exact Rx _
   have:=Nf.mp this;exact⟨this.1,by simpa using this.2⟩
  have S j:j<N->t5 p w wd T k (A j):=λC=>I.ok _ (F j C).1;have X i c:i<c->c<N->Ord w (A i) (A c):=λm O=>by have:=PD.mp I.od i c ⋯ ⋯ m;rw[Z i,Z c,Mz,Mp ⋯,Mz,Mp ⋯];exact this
  have i9 i:i<N->t5 p w wd T k (h9 p A N r B l i):=λd=>pM p0 U S (λj C=>(F j C).2) X d;have a2 i:i<N->(h9 p A N r B l i).s+(h9 p A N r B l i).n=k+1:=λd=>by rw[fE,BH];have m:=o9.mp (F i d).2;have O:=(S i d).le;lia
  have G b:b∈eL->b.has k=di->b.s+b.n<=k:=λU Q=>by have m:=(I.ok b U).le;have O:=(I.ok b U).n1;refine Nat.not_lt.mp λz=>?_;have:b.has k=cI:=o9.mpr ⋯;rw[this]at Q;cases Q
  have u b:b∈w5 p k w eL A N r B l nx news↔(b∈eL/\b.has k=di)\/(∃i,i<N/\b=l7 k (h9 p A N r B l i) (nx i))\/∃y,y∈news/\b=r6 k y:=by
   unfold w5;rw[PY,Nf];refine or_congr ⋯ ?_;cases w k<;>simp only[Nw,if_false,if_true,PY,Na,Mn]
   ·constructor
    ·rintro(⟨y,m,O⟩|⟨i,m,O⟩)
     ·exact .inr ⟨y,m,O.symm⟩
     ·exact .inl ⟨i,m,O.symm⟩
    ·rintro(⟨i,m,O⟩|⟨y,m,O⟩)
     ·exact .inr ⟨i,m,O.symm⟩
     ·exact .inl ⟨y,m,O.symm⟩
   ·constructor
    ·rintro(⟨i,m,O⟩|⟨y,m,O⟩)
     ·exact .inl ⟨i,m,O.symm⟩
     ·exact .inr ⟨y,m,O.symm⟩
    ·rintro(⟨i,m,O⟩|⟨y,m,O⟩)
     ·exact .inl ⟨i,m,O.symm⟩
     ·exact .inr ⟨y,m,O.symm⟩
  have cnt:∀P:g8->Bool,(w5 p k w eL A N r B l nx news).countP P=(eL.filter λb=> !b.has k).countP P+(Ml N).countP (λi=>P<|l7 k (h9 p A N r B l i)<|nx i)+(news.map<|r6 k).countP P:=λP=>by
   unfold w5;rw[List.countP_append];cases w k<;>simp only[Nw,if_false,if_true,List.countP_append,List.countP_map (f:=λi=>l7 k (h9 p A N r B l i)<|nx i)]
   ·rw[TL,Ua (List.countP P<|List.map (r6 k) news)];rfl
   ·rw[TL];rfl
  refine⟨λb b5=>?_,λY hr v=>?_,λY hr=>?_,?_⟩
  ·rcases (u b).mp b5 with⟨m,O⟩|⟨i,d,rfl⟩|⟨y,hy,rfl⟩
   ·have Q:=G b m O
    have R:=I.ok b m;refine⟨R.n1,⋯,R.m4,λj C W c L=>?_⟩;have bb:=o9.mp W;refine R.arr j ?_ W c L;have:xN w j>=j:=by unfold xN;split<;>lia
    lia
   ·exact EO p0 (a2 i d) (i9 i d) (λy e=>c1 i y d e) (λe=>d0 i d e) (λy e=>d1 i y d e) λy e=>d2 i y d e
   ·exact Ek (c2 y hy)<|d3 y hy
  ·by_cases x:Y<=k
   ·refine(I.sp Y x v).le λg hg=>?_
    obtain⟨b,m,O,rfl⟩:=hg;cases I':b.has k with
    |false=>exact .gen ⟨b,(u b).mpr (.inl ⟨m,I'⟩),O,rfl⟩
    |true=>
     have b7:b∈eL.filter λb=>b.has k:=Nf.mpr ⟨m,by simpa using I'⟩;obtain⟨i,d,e⟩:=List.getElem_of_mem b7;have ei:A i=b:=by rw[Z i,Mz,Mp d];exact e
     rw[<-ei]at O ⊢;refine nZ (A:=A) (A':=λi=>h9 p A N r B l i) (t:=λi=>M0 r B l i) (λi d=>(pH U d).1) (λi c d L=>(pH U d).2 c L) (λi d M=>?_) (λi d M c _=>sT d M) i ⋯ O;obtain⟨x1,x2⟩:=Ky (o:=nx i) x<|a2 i d;exact .gen ⟨_,(u _).mpr (.inr<|.inl ⟨i,d,rfl⟩),by rw[x1,Wl];exact M,by rw[x2]⟩
   ·have:Y=k+1:=⋯
    subst this;refine(s1 v).le λg hg=>?_;rcases hg with⟨i,d,e⟩|hg
    ·refine .gen ⟨_,(u _).mpr (.inr<|.inl ⟨i,d,rfl⟩),?_,?_⟩
     ·rw[WV (a2 i d),e];rfl
     ·rw[e];simp[l7]
    ·exact .gen ⟨_,(u _).mpr (.inr<|.inr ⟨g,hg,rfl⟩),by rw[Jr];simp,rfl⟩
  ·rw[cnt]
   by_cases x:Y<=k
   ·have J:(news.map<|r6 k).countP (λb=>b.has Y)=0:=List.countP_eq_zero.mpr λb U=>by
     obtain⟨y,_,rfl⟩:=Na.mp U;rw[Jr];simp;lia
    have K:(Ml N).countP (λi=>(l7 k (h9 p A N r B l i)<|nx i).has Y)=(eL.filter λb=>b.has k).countP λb=>b.has Y:=by
     have:(eL.filter λb=>b.has k)=(Ml N).map A:=by rw[<-qf ml (eL.filter λb=>b.has k),hN];exact MI λj _=>(Z j).symm
     rw[this,List.countP_map];refine Pa λi d=>?_;have d:=Mn.mp d;rw[(Ky (o:=nx i) x<|a2 i d).1,Wl];rfl
    rw[J,K,<-I.ct Y x,List.countP_eq_countP_filter_add eL (λb=>b.has Y) λb=>b.has k];lia
   ·have:Y=k+1:=⋯
    subst this;have H:(eL.filter λb=> !b.has k).countP (λb=>b.has<|k+1)=0:=List.countP_eq_zero.mpr λb U=>by obtain⟨m,O⟩:=Nf.mp U;have:=G b m (by simpa using O);intro z;have:=o9.mp z;lia
    have J:(news.map<|r6 k).countP (λb=>b.has<|k+1)=news.length:=by rw[List.countP_eq_length.mpr λb U=>?_,MN];obtain⟨y,_,rfl⟩:=Na.mp U;rw[Jr];simp
    have K:(Ml N).countP (λi=>(l7 k (h9 p A N r B l i)<|nx i).has (k+1))=(Ml N).countP λi=>(nx i).isSome:=Pa λi d=>by rw[WV (a2 i<|Mn.mp d)]
    rw[H,J,K];lia
  ·have H:((eL.filter λb=> !b.has k).filter λb=>b.has<|k+1)=[]:=List.filter_eq_nil_iff.mpr λb U=>by
    obtain⟨m,O⟩:=Nf.mp U;have:=G b m (by simpa using O);intro z;have:=o9.mp z;lia
   have pO:((Ml N).map λi=>l7 k (h9 p A N r B l i)<|nx i).Pairwise (Ord w):=by rw[Rp];refine RB (λ{a b} E U h=>?_)<|Rn (n:=N);have:=X a b h<|Mn.mp U;unfold Ord;rw[Ar,Ar,fE,fE];exact this
   have pN:(news.map<|r6 k).Pairwise (Ord w):=by
    rw[Rp];refine PD.mpr λ_ _ _ _ _=>⟨λz=>?_,λz=>?_⟩
    ·exact absurd z<|Nq<|k+1
    ·exact absurd z<|Nq<|k+1
   have so b:b∈(Ml N).map (λi=>l7 k (h9 p A N r B l i)<|nx i)->b.s<=k:=λU=>by obtain⟨i,d,rfl⟩:=Na.mp U;have d:=Mn.mp d;rw[Ar,fE];exact(o9.mp (F i d).2).1
   have sn b:b∈news.map (r6 k)->b.s=k+1:=λU=>by obtain⟨y,_,rfl⟩:=Na.mp U;rfl
   unfold w5;rw[RY,H,RL];refine Sr _ ?_;cases hw:w k with
   |false=>
    simp only[Nw,if_false];refine List.pairwise_append.mpr ⟨pN,pO,λa E b U=>?_⟩;have m:=sn a E;have O:=so b U;exact⟨λz=>by lia,λ_=>by rw[m];exact hw⟩
   |true=>
    simp only[if_true];refine List.pairwise_append.mpr ⟨pO,pN,λa E b U=>?_⟩;have m:=sn b U;have O:=so a E;exact⟨λ_=>by rw[m];exact hw,λz=>by lia⟩
end
theorem KC(I:Pr p)(O:h<=100)(z:w<=lim)(f:UV):
 ∃r B l,JA [.int p,jR h w f]=cq (.own<|zP r h B)/\il p h r B l/\∀v,Span p h (eK r B) v↔Span p h (eK w λj i=>f i j) v:=by
 obtain⟨r,B,l,e,U,a⟩:=wC I O z .T λj i=>f i j;have Y:=jk;refine⟨r,B,l,?_,U,a⟩;simp only[su]at e;have o:=kq f (⋯:h<=lim) z;unfold jR at o ⊢;simp[JA,jv,zN,o,e]
theorem VF(P:Nat->Ctx->Prop):∀(ds es:List D) (k:Nat) (γ:Ctx),P k γ->(∀i d γ,ds[i]? = cq d->P (k+i) γ->∃γ',(kP T d γ).bind F=cq (.next γ')/\P (k+i+1) γ')->
 ∃γ',P (k+ds.length) γ'/\kD T F (ds++es) γ=kD T F es γ'
 |[],es,k,γ,h,_=>⟨γ,h,rfl⟩
 | d::ds,es,k,γ,h,step=>by
  obtain⟨a,e,f⟩:=step 0 d γ rfl h;obtain⟨γ',I,O⟩:=VF P ds es (k+1) a (by simpa using f) (λi b U g Y=>by have:=step (i+1) b U (by simpa using g) (by rw[show k+(i+1)=k+1+i by lia];exact Y);rw[show k+(i+1)+1=k+1+i+1 by lia]at this;exact this)
  refine⟨γ',by rw[show k+(d::ds).length=k+1+ds.length by simp;lia];exact I,?_⟩;rw[Ub,ql];cases eb:kP T d γ with
  |none=>rw[eb]at e;simp at e
  |some Z=>
   rw[eb]at e;simp only[Mx]at e ⊢;rw[e];exact O
theorem bt(n:Nat)(v:Vc):qU (zH n v)=(Ml n).map λ(i:Nat)=>D.tup [.int i,.int (v i)]:=by unfold qU;rw[ZO];refine MI λi a=>?_;have:=Mn.mp a;simp[zH,this]
theorem wA(hn:n<=lim)(v:Vc)(ha:a<n)(h0:∀i,i<a->v i=0)(Z:v a≠0):xI [.tup (zH n v)]=cq (.val<|.int a):=by
 have I:zT (.tp [0,1]) (sB<|zG mc (zg 1)<|sI 0) (zg 0) [Cell.no,Cell.no] ((Ml n).map λ(i:Nat)=>D.tup [.int i,.int (v i)])=cq (((Ml n).filter λi=> !decide (v i=0)).map λ(i:Nat)=>D.int i):=by refine jV _ _ _ λi d=>⟨_,rfl,?_,λ_=>rfl⟩;simp
 cases hf:(Ml n).filter λi=> !decide (v i=0)with
 |nil=>exact absurd (by have:=gX hf a ha;simpa using this) Z
 | cons b rest=>
  obtain⟨Y,O,U⟩:=VI hf;have e:b=a:=by
   rcases Sv a b with z|z|z
   ·exact absurd (by have:=U a z;simpa using this) Z
   ·exact z.symm
   ·exact absurd (h0 b z) (by simpa using O)
  subst e;rw[hf]at I;simp[xI,jv,zN,bt,hn,jm,Mm,I]
theorem dR(Y:a<n)(v I:Vc)(x:Int)(z:I a=x)(O:∀i,i<n->i≠a->I i=v i):(zH n v).set a (.int x)=zH n I:=by
 apply TR;intro i;rw[List.getElem?_set];by_cases b:i<n
 ·by_cases e:a=i
  ·subst e;simp[Y,zH,z]
  ·have:=O i b (Nr e)
   simp[e,zH,b,this]
 ·have d:(zH n v)[i]? = da:=by simp[zH];lia
  have f:(zH n I)[i]? = da:=by simp[zH];lia
  rw[d,f,UY ⋯]
def V9(w:Nat)(B:Nat->Vc)(l:UX)(r:Nat):Vc:=λj=>zq (λk=>if l k=j then B k w else 0) r
section
variable{p:Int}{h w r:Nat}
theorem aU{l:UX}(Y:∀k m,k<m->m<r->l k<l m){k m:Nat}(I:k<r)(O:m<r)(e:l k=l m):k=m:=by
 rcases Sv k m with z|z|z
 ·have:=Y k m z O;lia
 ·exact z
 ·have:=Y m k z I;lia
def aug(w:Nat)(f:UV)(b:Vc):Nat->Vc:=λi j=>if j<w then f i j else b i
theorem cF(z:w+1<=lim)(Z:il p (w+1) r B l)(hs:s<=r)(h1:∀k,k<s->l k<w)(es:List D)(a0 U Y:Cell):
 ∃I O,kD (.nm 5) yc (zP s (w+1) B++es) [a0,U,Y,vI w,.own<|zH w λ_=>0,.no,.no]=kD (.nm 5) yc es [a0,U,Y,vI w,.own<|zH w<|V9 w B l s,I,O]:=by
 obtain⟨G,⟨I,O,rfl⟩,e⟩:=VF (T:=.nm 5) (F:=yc) (λt u=>∃I O,u=[a0,U,Y,vI w,.own<|zH w<|V9 w B l t,I,O]) (zP s (w+1) B) es 0 [a0,U,Y,vI w,.own<|zH w λ_=>0,.no,.no]
  ⟨.no,.no,by rw[vi (f:=V9 w B l 0) (g:=λ_=>0) λi _=>rfl]⟩ (by
   rintro k d u h ⟨I,O,rfl⟩;rw[Og];have o:k<s:=by have:=(MR.mp h).1;simpa using this
   have x:d=.tup (zH (w+1)<|B k):=by simp[o]at h;exact h.symm
   subst x;have a:k<r:=⋯
   have j:=h1 k o;have le:=wA z (B k) (⋯:l k<w+1) (λi n=>Z.m6 k i a n) (by rw[Z.one k a];decide);refine⟨_,?_,.val<|.tup<|zH (w+1)<|B k,vI<|l k,rfl⟩;have b:¬((l k:Int)=(w:Int)):=⋯
   have y:¬l k=w:=⋯
   have E:w<w+1:=⋯
   have A:=dR j (V9 w B l k) (V9 w B l<|k+1) (B k w) (by
    unfold V9;simp only[zq,if_true];rw[zO (g:=λ_=>0) λm C=>by rw[UY λe=>by have:=Z.mono m k C a;lia],jr]
    lia) (λi n b=>by
    unfold V9;simp only[zq];rw[UY (Nr b)];lia)
   simp[yc,jK,le,b,y,j,E,A])
 rw[oU]at e;refine⟨I,O,?_⟩;rw[e];rw[Og]
theorem lT(w:Nat)(f:UV)(b:Vc)(i:Nat):zH w (f i)++[.int (b i)]=zH (w+1) (aug w f b i):=by
 unfold zH;rw[Ox,Nx];congr 1
 ·exact MI λj I=>by simp[aug,Mn.mp I]
 ·simp[aug]
theorem Zv(Y:Pr p)(hh:h<=190)(hw:w<=190)(f:UV)(b:Vc):
 ∃r B l s,il p (w+1) r B l/\(∀v,Span p (w+1) (eK r B) v↔Span p (w+1) (eK h<|aug w f b) v)/\s<=r/\(∀k,k<s->l k<w)/\(∀k,s<=k->k<r->w<=l k)/\
  kQ [.int p,jR h w f,.tup (zH h b)]=cq (.val<|if s<r then .ej else .tup (zH w<|V9 w B l s)):=by
 have R:=jk;have U:h<=lim:=⋯
 have Z:w<=lim:=⋯
 have O:w+1<=lim:=⋯
 obtain⟨r,B,l,e,I,n⟩:=vx Y (⋯:w+1<=200) U .L<|aug w f b;obtain⟨s,j,m,g⟩:=JW w I.mono;refine⟨r,B,l,s,I,n,j,m,g,?_⟩;have a:zT (.tp [0,1]) jO (zG jX (zg 0)<|qC<|zb (zg 1) zB) [Cell.no,Cell.no] ((Ml h).map λi=>D.tup [.tup (zH w<|f i),.int (b i)])=cq (zP h (w+1)<|aug w f b):=by unfold zP;refine zw _ _ λi E=>zy rfl rfl ?_;simp[jX,O,lT]
 have J:wW (zP h w f) (zH h b)=(Ml h).map λi=>D.tup [.tup (zH w<|f i),.int (b i)]:=by unfold wW zP zH;rw[Pq];simp
 have o:Mm w (D.int 0)=zH w λ_=>0:=by rw[ZE];rfl
 have y:((w+1:Nat):Int)=(w:Int)+1:=⋯
 simp only[su]at e;rw[y]at e;obtain⟨d,C⟩:∃d,r=s+d:=⟨r-s,⋯⟩;have G:zP r (w+1) B=zP s (w+1) B++zP d (w+1) λk=>B (s+k):=by unfold zP;rw[C,PB,Nx,Nh];rfl
 obtain⟨K,M,F⟩:=cF O I j m (zP d (w+1) λk=>B<|s+k) (vI p) (.val<|jR h w f)<|.val<|.tup<|zH h b;have H:jD (jR h w f)=cq (.T,[.int h,.int w,.tup (zP h w f)]):=rfl;have A:kQ=jv 7 (zR (jG 3<|dj (zm 1)<|sI 1)<|zR (kB 4<|KQ (jH<|jL<|zb (sI 0) zB)<|zg 3)<|zR (Zk (zY<|zC<|jU<|jf xJ<|zb (zg 0)<|zb (zG jX (zg 3)<|sI 1)<|zb (jU<|zV (YE (dj (zm 1)<|sI 2)<|zg 2) (.tp [0,1]) 2 [] jO (zG jX (zg 0)<|qC<|zb (zg 1) zB)) zB) (.nm 5) yc)<|qV<|zX<|zm 4):=rfl;rw[A];simp[jv,zN,jK,H,Z,J,U,jm,Mm,a,e];rw[o,G,F];by_cases z:s<r
 ·
  have t:d=1:=by
   rcases MQ 1 d with q|q
   ·have N:=I.mono s (s+1) ⋯ ⋯
    have P:=g s (Mq _) z;have Q:=I.lt (s+1) ⋯;lia
   ·lia
  subst t;have u:l s=w:=by have:=g s (Mq _) z;have:=I.lt s z;lia
  have le:=wA O (B s) (⋯:w<w+1) (λi E=>I.m6 s i z ⋯) (by have:=I.one s z;rw[u]at this;rw[this];decide);have one:zP 1 (w+1) (λk=>B<|s+k)=[.tup (zH (w+1)<|B s)]:=rfl;rw[one,ql];simp[yc,jK,le,z]
 ·have x:d=0:=⋯
  subst x;have zero:zP 0 (w+1) (λk=>B<|s+k)=[]:=rfl;rw[zero];simp[kD,z]
end
theorem AY(γ:Ctx)(i g):Wq i g γ=(qh γ[i]?).bind λds=>(g γ).bind λa=>match a.1 with
 |.T=>if ds.length+a.2.length<=lim then cq (.next<|γ.set i<|.own<|ds++a.2)else da
 |.L=>da:=rfl
def off(hs ws:UX):Nat->Nat
 |0=>0
 |k+1=>off hs ws k+hs k*ws k
def vp(hs ws:UX)(T:UW):Nat->Nat->Int
 |0,_=>0
 |k+1,x=>if x<off hs ws k then vp hs ws T k x else T k ((x-off hs ws k)/ws k) ((x-off hs ws k)%ws k)
def ja(n:Nat)(hs ws:UX)(T:UW):List D:=(Ml n).map λk=>jR (hs k) (ws k)<|T k
def r9(n:Nat)(hs ws:UX):List D:=(Ml n).map λk=>D.tup [.int (hs k:Nat),.int (ws k:Nat)]
section
variable{hs ws:UX}{T:UW}
theorem Yc{a b:Nat}(h:a<=b):off hs ws a<=off hs ws b:=by
 induction b with
 |zero=>
  obtain rfl:a=0:=⋯
  exact Mq _
 | succ b I=>
  by_cases e:a=b+1
  ·subst e;exact Mq _
  ·have:=I ⋯
   show _<=off hs ws b+hs b*ws b;lia
theorem AD{h w i j:Nat}(z:i<h)(I:j<w):i*w+j<h*w:=by have:(i+1)*w<=h*w:=Td w z;rw[SO]at this;lia
theorem HK{n k i j:Nat}(O:k<n)(z:i<hs k)(I:j<ws k):off hs ws k+i*ws k+j<off hs ws n:=by have a:=Yc (hs:=hs) (ws:=ws) (⋯:k+1<=n);have U:=AD z I;have:off hs ws (k+1)=off hs ws k+hs k*ws k:=rfl;lia
theorem rV{w i j:Nat}(I:j<w):(i*w+j)/w=i/\(i*w+j)%w=j:=by
 have a:0<w:=⋯
 constructor
 ·rw[Ua,Nat.add_mul_div_right _ _ a,Nat.div_eq_of_lt I,Og]
 ·rw[Ua,Nat.add_mul_mod_self_right,Nat.mod_eq_of_lt I]
theorem pE{k i j:Nat}(z:i<hs k)(I:j<ws k):∀n,k<n->vp hs ws T n (off hs ws k+i*ws k+j)=T k i j
 |0,h=>by lia
 | n+1,h=>by
  unfold vp;by_cases e:k=n
  ·subst e
   rw[UY ⋯];have:off hs ws k+i*ws k+j-off hs ws k=i*ws k+j:=⋯
   rw[this,(rV I).1,(rV I).2]
  ·have:=HK (hs:=hs) (ws:=ws) (⋯:k<n) z I
   rw[UJ this];exact pE z I n ⋯
theorem oQ{a b:Nat}{f g h:Nat->Int}(z:∀x,x<a->h x=f x)(I:∀x,x<b->h (a+x)=g x):zH a f++zH b g=zH (a+b) h:=by
 unfold zH;rw[PB,Nx,Nh];congr 1
 ·exact MI λx d=>by rw[z x (Mn.mp d)]
 ·exact MI λx d=>by simp only[Sg];rw[I x (Mn.mp d)]
theorem wR(n f):(zH n f).length=n:=by simp[zH]
theorem Wj(n hs ws T):(ja n hs ws T).length=n:=by simp[ja]
theorem sR(n hs ws):(r9 n hs ws).length=n:=by simp[r9]
theorem pJ{n k:Nat}(h:k<n):(ja n hs ws T)[k]? = cq (jR (hs k) (ws k)<|T k):=by unfold ja;simp[h]
theorem sv(U Y:Cell)(w:Nat)(f:UV)(a:Nat)(g G:Nat->Int)(Z:∀x,x<a->G x=g x)(h:Nat)(z:∀i j,i<h->j<w->G (a+i*w+j)=f i j)(hz:a+h*w<=2000)(I:Cell):
 ∃O,kD (.nm 3) (Wq 1<|zm 3) (zP h w f) [U,.own<|zH a g,Y,I]=cq (.next [U,.own<|zH (a+h*w) G,Y,O]):=by
 have p:=jk;have d:∀(k s:Nat) (I:Cell),s+k=h->∃O,kD (.nm 3) (Wq 1<|zm 3) ((PL s k).map λi=>D.tup<|zH w<|f i) [U,.own<|zH (a+s*w) G,Y,I]=cq (.next [U,.own<|zH (a+h*w) G,Y,O]):=by
  intro k
  induction k with
  |zero=>
   intro s I e;obtain rfl:s=h:=⋯
   exact⟨I,rfl⟩
  |succ k m=>
   intro s I e;obtain⟨O,q⟩:=m (s+1) (.val<|.tup<|zH w<|f s) ⋯;refine⟨O,?_⟩;rw[<-q,OL,MT,ql];have n:(s+1)*w<=h*w:=Td w ⋯;have o:(s+1)*w=s*w+w:=SO s w;have le:a+s*w+w<=lim:=⋯
   have l:zH (a+s*w) G++zH w (f s)=zH (a+(s+1)*w) G:=by rw[show a+(s+1)*w=a+s*w+w by lia];exact oQ (λx _=>rfl) λx b=>z s x ⋯ b
   simp[AY,qh,qA,wR,le,l]
 obtain⟨O,q⟩:=d h 0 I ⋯;refine⟨O,?_⟩;rw[<-Ot,Nat.zero_mul,Nat.add_zero]at q;rw[vi (f:=g) (g:=G) λx b=>(Z x b).symm];exact q
theorem Kb{n:Nat}(hz:off hs ws n<=2000):yO [.lst (ja n hs ws T)]=cq (.val<|.tup<|zH (off hs ws n)<|vp hs ws T n):=by
 have g:hM 3 2=cq 2:=rfl;have Z:∀(k s:Nat) (Y I:Cell),s+k=n->∃O U,kD (.nm 2) (Zk (zY<|zC<|dj (zm 2)<|sI 2) (.nm 3)<|Wq 1<|zm 3) ((PL s k).map λk=>jR (hs k) (ws k)<|T k) [.val (.lst<|ja n hs ws T),.own<|zH (off hs ws s)<|vp hs ws T s,Y,I]=cq (.next [.val (.lst<|ja n hs ws T),.own<|zH (off hs ws n)<|vp hs ws T n,O,U]):=by
  intro k
  induction k with
  |zero=>
   intro s Y I e;obtain rfl:s=n:=⋯
   exact⟨Y,I,rfl⟩
  | succ k h=>
   intro s Y I e;have p:=Yc (hs:=hs) (ws:=ws) (⋯:s+1<=n);obtain⟨a,r⟩:=sv (.val<|.lst<|ja n hs ws T) (.val<|jR (hs s) (ws s)<|T s) (ws s) (T s) (off hs ws s) (vp hs ws T s) (vp hs ws T<|s+1) (λx f=>by show(if x<off hs ws s then _ else _)=_;rw[UJ f]) (hs s) (λi j b d=>pE b d (s+1) ⋯) (by
    have:off hs ws (s+1)=off hs ws s+hs s*ws s:=rfl;lia) I
   obtain⟨O,U,q⟩:=h (s+1) (.val<|jR (hs s) (ws s)<|T s) a ⋯;refine⟨O,U,?_⟩;rw[<-q,OL,MT,ql];have o:=sN (hs s) (ws s)<|T s;simp[o,g,qA,r];rfl
 obtain⟨O,U,q⟩:=Z n 0 .no .no ⋯;rw[<-Ot]at q;have l:(kB 1<|jL zB) (zN 4 [.lst (ja n hs ws T)])=cq (.next [.val (.lst<|ja n hs ws T),.own<|zH (off hs ws 0)<|vp hs ws T 0,.no,.no]):=rfl;have m:(Zk (zY<|zC<|zg 0) (.nm 2)<|Zk (zY<|zC<|dj (zm 2)<|sI 2) (.nm 3)<|Wq 1<|zm 3) [.val (.lst<|ja n hs ws T),.own<|zH (off hs ws 0)<|vp hs ws T 0,.no,.no]=cq (.next [.val (.lst<|ja n hs ws T),.own<|zH (off hs ws n)<|vp hs ws T n,O,U]):=by rw[V7];simp[je];exact q
 exact zW<|zh l<|zh m rfl
theorem AA{n a b:Nat}(u:Nat->Int)(z:a<=b)(I:b<=n):eM (zH n u) (cq (a:Int)) (cq (b:Int))=zH (b-a) λx=>u (a+x):=by unfold zH;exact lF (λx=>D.int<|u x) z I
def aQ(hs ws:UX)(u:Nat->Int)(k i j:Nat):Int:=u<|off hs ws k+i*ws k+j
theorem vL{n:Nat}(hn:n<=100)(hh:∀k,hs k<=100)(hw:∀k,ws k<=100)(u:Nat->Int){N:Nat}(z:N=off hs ws n):xj [.lst (r9 n hs ws),.tup (zH N u)]=cq (.own<|ja n hs ws<|aQ hs ws u):=by
 have P:=jk;subst z;let f:=aQ hs ws u;let γ:Cell->Cell->Cell->Cell->Cell->Ctx:=λr t O U I=>[.val (.lst<|r9 n hs ws),.val<|.tup<|zH (off hs ws n) u,r,t,O,U,I];let o:Nat->Cell:=λs=>.val (.int (off hs ws s:Nat));have l:∀(k s:Nat) (O U I:Cell),s+k=n->∃Y Z d,kD (.tp [4,5]) Uq ((PL s k).map λk=>D.tup [.int (hs k:Nat),.int (ws k:Nat)]) (γ (.own<|ja s hs ws f) (o s) O U I)=cq (.next<|γ (.own<|ja n hs ws f) (o n) Y Z d):=by
  intro k
  induction k with
  |zero=>
   intro s O U I e;obtain rfl:s=n:=⋯
   exact⟨O,U,I,rfl⟩
  |succ k y=>
   intro s O U I e;let H:=Cell.val<|.int (hs s:Nat);let W:=Cell.val<|.int (ws s:Nat);let M:=Cell.val<|.lst<|zP (hs s) (ws s)<|f s;obtain⟨Y,Z,d,q⟩:=y (s+1) H W M ⋯;refine⟨Y,Z,d,?_⟩;have F:=hh s;have G:=hw s;have J:=Yc (hs:=hs) (ws:=ws) (⋯:s+1<=n);have w:off hs ws (s+1)=off hs ws s+hs s*ws s:=rfl;have j:∀x:Int,XM x (ws s:Int)=cI:=λx=>Xt _ _ ⋯ ⋯;have A:zT (.nm 0) jO (aC (zg 1) (ro<|zG jX (zg 2)<|zG yS (zg 0)<|zg 3)<|ro<|zG jX (zg 2)<|zG yS (zG jX (zg 0)<|sI 1)<|zg 3) [Cell.no,.val<|.tup<|zH (off hs ws n) u,o s,W] (zH (hs s) λi=>(i:Int))=cq (zP (hs s) (ws s)<|f s):=by unfold zP;refine zw _ _ λi h=>zy rfl rfl ?_;have h:=Mn.mp h;have K:(i+1)*ws s<=hs s*ws s:=Td _ h;have L:(i+1)*ws s=i*ws s+ws s:=SO i<|ws s;have g:=AA (n:=off hs ws n) (a:=off hs ws s+i*ws s) (b:=off hs ws s+(i+1)*ws s) u ⋯ ⋯;rw[show off hs ws s+(i+1)*ws s-(off hs ws s+i*ws s)=ws s by lia]at g;simp only[Int.natCast_add,SU,Int.natCast_one]at g;simp[o,W,j,g];rfl
   have C:inR (hs s:Int)=cI:=vY ⋯ ⋯;have m:hs s<=lim:=⋯
   have p:s<lim:=⋯
   have B:3<=lim:=⋯
   have E:=Wj s hs ws f;rw[<-q,OL,MT,ql];show((Uq<|γ (.own<|ja s hs ws f) (o s) H W I).bind _)=_;rw[show Uq (γ (.own<|ja s hs ws f) (o s) H W I)=_ from zh (γ':=γ (.own<|ja s hs ws f) (o s) H W M) (by simp[γ,o,H,W,C,q8,ZO,m,jm,xT];exact⟨_,A,rfl⟩) (zh (γ':=γ (.own<|ja (s+1) hs ws f) (o s) H W M) (by rw[show ja (s+1) hs ws f=ja s hs ws f++[jR (hs s) (ws s) (f s)]from kK _ _];simp[γ,H,W,M,je,B,E,p];rfl)<|show _=cq (Fl.next<|γ (.own<|ja (s+1) hs ws f) (o<|s+1) H W M)by simp[γ,o,H,W,j,w])];rfl
 obtain⟨O,U,I,q⟩:=l n 0 .no .no .no ⋯;rw[<-Ot]at q;exact zW<|zh rfl<|zh rfl<|zh (show _=cq (Fl.next<|γ (.own<|ja n hs ws f) (o n) O U I)from q) rfl
theorem gV(hs ws:UX):∀n,zq (λk=>(hs k:Int)*(ws k:Int)) n=(off hs ws n:Nat)
 |0=>rfl
 |n+1=>by show zq _ n+_=((off hs ws n+hs n*ws n:Nat):Int);rw[gV hs ws n,Int.natCast_add,SU]
theorem kN{n:Nat}(hn:n<=100)(z:∀k,ws k<=100):qN [.lst (r9 n hs ws)]=cq (.val<|.int (off hs ws n:Nat)):=by
 have Z:=jk;have I:n<=lim:=⋯
 have a:zT (.tp [0,1]) jO (zG yS (zg 0)<|zg 1) [Cell.no,Cell.no] (r9 n hs ws)=cq (zH n λk=>(hs k:Int)*(ws k:Int)):=by unfold r9;rw[qG n λk=>(hs k:Int)*(ws k:Int)];refine zw _ _ λk b=>zy rfl rfl ?_;have O:XM (hs k:Int) (ws k:Int)=cI:=Xt _ _ ⋯ (by have:=z k;lia);show zG _ _ _ [vI (hs k:Nat),vI (ws k:Nat)]=_;simp[O]
 have U:=kj (λk=>(hs k:Int)*(ws k:Int)) n;have Y:=sR n hs ws;refine zW ?_;show((eD _) [.val (.lst<|r9 n hs ws)]).map _=_;simp only[bI,wu,kF,J8,xV,MW,jI,je,Ni,Mx,Y,I,if_true];rw[show jm 2 [] [Cell.val (.lst<|r9 n hs ws)]=[Cell.no,Cell.no]from rfl,a];simp only[Ni,Mx,U,gV]
end
section
variable{p:Int}{m:Nat}{w:UK}{wd wd':UX}{T T' S:UW}
def EK(p:Int)(w:UK)(wd wd':UX)(T T' S:UW)(k i j:Nat):Int:=
 (zq (λt=>T' k t j*S (xG w k) i t) (eA w wd' k)%p+(-1)*(zq (λt=>S (xN w k) t j*T k i t) (ez w wd k)%p))%p
theorem yW(Y:m<=4):ko [zK p m w wd' T',zK p m w wd T]=cq (.own<|r9 (m+1) wd wd'):=by
 have O:=jk;have I:m+1<=lim:=⋯
 have b:=qW p m w wd T;have d:=qW p m w wd' T';have a:hM 3 1=cq 1:=rfl;have z:wW (zH (m+1) λk=>(wd k:Int)) (zH (m+1) λk=>(wd' k:Int))=r9 (m+1) wd wd':=wD (m+1) (λk=>(wd k:Int)) λk=>(wd' k:Int);refine zW ?_;show((fR _ _) [.val (zK p m w wd' T'),.val (zK p m w wd T)]).map _=_;simp[b,d,a,qA,wR,I,z]
theorem Ep{h w:Nat}(f g:UV)(I:0<p)(O:h<=lim)(z:w<=lim):mh [.int p,jR h w f,jR h w g]=cq (.val<|jR h w λi j=>(f i j+(-1)*g i j)%p):=by have e:=JV (-1) f g ⋯ ⋯ I O z;refine zW ?_;show((zD xM _) [vI p,.val<|jR h w f,.val (jR h w g)]).map _=_;have U:mV (sI 1) [vI p,.val<|jR h w f,.val (jR h w g)]=cq (.int (-1)):=rfl;simp[U,e,fW]
theorem EJ(hp:0<p)(ac:p<=100)(hm:m<=4)(hw:∀k,wd k<=9)(a4:∀k,wd' k<=9)(a5:∀k i j,0<=T' k i j/\T' k i j<p)(bS:∀k i j,0<=S k i j/\S k i j<100){k:Nat}(z:k<m):
 pB [zK p m w wd' T',zK p m w wd T,.lst<|ja (m+1) wd wd' S,.int (k:Int)]=cq (.val<|jR (eA w wd k) (ez w wd' k)<|EK p w wd wd' T T' S k):=by
 have J:=jk;have b:∀(u:UX) (U:UW),(qZ m w u U).length=m/\(qZ m w u U)[k]? = cq (vD w u U k):=λu U=>by unfold qZ;simp[z]
 have f:=Ju (w:=w) z;have g:=Jy (w:=w) z;have o:=Wj (m+1) wd wd' S;have n:=pJ (hs:=wd) (ws:=wd') (T:=S) f;have l:=pJ (hs:=wd) (ws:=wd') (T:=S) g;rw[qT w wd,qT w wd']at n;rw[xf w wd,xf w wd']at l;have C:=bN w k;have y:=Zh w k;have d:eA w wd k<=lim:=by rw[<-qT];have:=hw<|xG w k;lia
 have r:eA w wd' k<=lim:=by rw[<-qT];have:=a4<|xG w k;lia
 have s:ez w wd k<=lim:=by rw[<-xf];have:=hw<|xN w k;lia
 have e:ez w wd' k<=lim:=by rw[<-xf];have:=a4<|xN w k;lia
 have E:=JL (h:=eA w wd k) (m:=eA w wd' k) (w:=ez w wd' k) (S<|xG w k) (T' k) hp d r e λi j _ _=>by have:=a5 k i j;lia
 have F:=JL (h:=eA w wd k) (m:=ez w wd k) (w:=ez w wd' k) (T k) (S<|xN w k) hp d s e λi j _ _=>bS _ i j;have le:=Ep (h:=eA w wd k) (w:=ez w wd' k) (λi j=>zq (λt=>T' k t j*S (xG w k) i t) (eA w wd' k)%p) (λi j=>zq (λt=>S (xN w k) t j*T k i t) (ez w wd k)%p) hp d e;let a:Cell->Cell->Cell->Cell->Ctx:=λI O Y Z=>[.val (zK p m w wd' T'),.val<|zK p m w wd T,.val<|.lst<|ja (m+1) wd wd' S,vI k,I,O,Y,Z];let P:=Cell.val<|.int p;let W:=Cell.val<|.str<|kJ<|hB<|w k;let A:=Cell.val<|jR (eA w wd k) (ez w wd' k) λi j=>zq (λt=>T' k t j*S (xG w k) i t) (eA w wd' k)%p;let B:=Cell.val<|jR (eA w wd k) (ez w wd' k) λi j=>zq (λt=>S (xN w k) t j*T k i t) (ez w wd k)%p;have v:∀(I O Y Z:Cell),(dj (zC<|dj (zm 0)<|sI 2)<|zg 3) (a I O Y Z)=cq (vD w wd' T' k)/\(dj (zC<|dj (zm 1)<|sI 2)<|zg 3) (a I O Y Z)=cq (vD w wd T k):=λI O Y Z=>by
  constructor
  ·show((hM (qZ m w wd' T').length (k:Int)).bind λx=>(qZ m w wd' T')[x]?)=_
   rw[(b wd' T').1,j6,UJ z];exact(b wd' T').2
  ·show((hM (qZ m w wd T).length (k:Int)).bind λx=>(qZ m w wd T)[x]?)=_
   rw[(b wd T).1,j6,UJ z];exact(b wd T).2
 have G:∀(I O Y Z:Cell),(dj (zC<|dj (zC<|dj (zm 0)<|sI 2)<|zg 3)<|sI 1) (a I O Y Z)=cq (jR (eA w wd' k) (ez w wd' k)<|T' k):=λI O Y Z=>by rw[wx,yv,(v I O Y Z).1];rfl
 have H:∀(I O Y Z:Cell),(dj (zC<|dj (zC<|dj (zm 1)<|sI 2)<|zg 3)<|sI 1) (a I O Y Z)=cq (jR (eA w wd k) (ez w wd k)<|T k):=λI O Y Z=>by rw[wx,yv,(v I O Y Z).2];rfl
 refine zW<|zh (γ':=a P .no .no .no) rfl<|zh (γ':=a P W .no .no) ?_ (zh (γ':=a P W A .no) ?_ (zh (γ':=a P W A B) ?_ ?_))
 ·rw[yN,wx,yv,(v P .no .no .no).1];rfl
 ·rw[yN,kG,jh,jh,jh,G]
  simp only[a,P,W,wx,kG,jh,ZU,w6,xV,MW,Np,qg,jI,Mx,Ni,je,kE,C,fW,o,j6,f,if_true,n,E];rfl
 ·rw[yN,kG,jh,jh,jh,H]
  simp only[a,P,W,wx,kG,jh,ZU,w6,xV,MW,Np,qg,jI,Mx,Ni,je,kE,y,fW,o,j6,g,if_true,l,F];rfl
 ·rw[w9,kG,show(zb (zg 4)<|zb (zg 6)<|zb (zg 7) zB) (a P W A B)=cq [.int p,_,_]from rfl,Mx,le]
  rfl
theorem Al(I:0<p)(O:p<=100)(hm:m<=4)(hw:∀k,wd k<=9)(U:∀k,wd' k<=9)(Y:∀k i j,0<=T' k i j/\T' k i j<p)(z:∀k i j,0<=S k i j/\S k i j<100):
 bM [zK p m w wd' T',zK p m w wd T,.lst (ja (m+1) wd wd' S)]=cq (.own<|ja m (eA w wd) (ez w wd')<|EK p w wd wd' T T' S):=by
 have l:=jk;have Z:m<=lim:=⋯
 have h:=qW p m w wd' T';have d:hM 3 2=cq 2:=rfl;have a:(qZ m w wd' T').length=m:=by simp[qZ]
 have f:inR (m:Int)=cI:=vY ⋯ ⋯;have e:zT (.nm 0) jO (zD pB<|zb (zg 1)<|zb (zg 2)<|zb (zg 3)<|zb (zg 0) zB) [Cell.no,.val<|zK p m w wd' T',.val<|zK p m w wd T,.val (.lst<|ja (m+1) wd wd' S)] ((Ml m).map λk:Nat=>D.int (k:Int))=cq (ja m (eA w wd) (ez w wd')<|EK p w wd wd' T T' S):=by unfold ja;refine zw _ _ λk b=>zy rfl rfl ?_;have g:=EJ (w:=w) (T:=T) (S:=S) I O hm hw U Y z<|Mn.mp b;unfold ja at g;show zD _ _ [vI k,.val<|zK p m w wd' T',.val<|zK p m w wd T,.val (.lst _)]=_;simp[g,fW]
 refine zW ?_;show((zV _ _ _ _ _ _) [.val (zK p m w wd' T'),.val<|zK p m w wd T,.val (.lst<|ja (m+1) wd wd' S)]).map _=_;simp only[kF,V4,bJ,yv,wx,xV,KB,MW,Np,NB,NZ,Og,TK,jI,Mx,Ni,h,kE,d,qA,a,f,if_true,Oj,q8,wR,Z];rw[qG m λi=>(i:Int),show jm 1 [0,1,2] [.val (zK p m w wd' T'),.val<|zK p m w wd T,.val (.lst<|ja (m+1) wd wd' S)]=[Cell.no,.val<|zK p m w wd' T',.val<|zK p m w wd T,.val (.lst<|ja (m+1) wd wd' S)]from rfl,e];rfl
def Wi(c x:Nat):Int:=if c=x then 1 else 0
def Bl(p:Int)(m:Nat)(w:UK)(wd wd':UX)(T T':UW)(e c:Nat):Int:=vp (eA w wd) (ez w wd') (EK p w wd wd' T T'<|aQ wd wd'<|Wi c) m e
theorem I_(z:∀k,wd k<=9)(k):eA w wd k<=100:=by rw[<-qT];have:=z<|xG w k;lia
theorem c_(z:∀k,wd k<=9)(k):ez w wd k<=100:=by rw[<-xf];have:=z<|xN w k;lia
theorem Yk(Y:0<p)(a1:p<=100)(z:m<=4)(hw:∀k,wd k<=9)(I:∀k,wd' k<=9)(a2:∀k i j,0<=T' k i j/\T' k i j<p)(h1:off wd wd' (m+1)<=2000)(h2:off (eA w wd) (ez w wd') m<=2000):
 wB [zK p m w wd' T',zK p m w wd T]=cq (.val<|jR (off (eA w wd) (ez w wd') m) (off wd wd'<|m+1)<|Bl p m w wd wd' T T'):=by
 have K:=jk;have y:=yW (p:=p) (w:=w) (wd:=wd) (wd':=wd') (T:=T) (T':=T') z;have x:=kN (n:=m+1) (hs:=wd) (ws:=wd') ⋯ λk=>by have:=I k;lia
 have b:jF [zK p m w wd' T',zK p m w wd T]=cq (.own<|r9 m (eA w wd)<|ez w wd'):=QG z;have u:=kN (n:=m) (hs:=eA w wd) (ws:=ez w wd') ⋯<|c_ I;generalize hN:off wd wd' (m+1)=N at *;generalize hA:off (eA w wd) (ez w wd') m=A at *;have O:N<=lim:=⋯
 have d:A<=lim:=⋯
 have B:=yQ O;have C:jD (jR N N λi j=>if i=j then 1 else 0)=cq (.T,[.int (N:Int),.int (N:Int),.tup (zP N N λi j=>if i=j then 1 else 0)]):=rfl;have t:3<=lim:=⋯
 have s:zT (.nm 0) jO (zD yO<|zb (jU<|jf bM<|zb (zg 1)<|zb (zg 2)<|zb (jU<|jf xj<|zb (zg 3)<|zb (zg 0) zB) zB) zB) [Cell.no,.val<|zK p m w wd' T',.val<|zK p m w wd T,.val (.lst<|r9 (m+1) wd wd')] (zP N N λi j=>if i=j then 1 else 0)=cq (zP N A λc e=>Bl p m w wd wd' T T' e c):=by
  unfold zP;refine zw _ _ λc J=>zy rfl rfl ?_;have F:=vL (n:=m+1) (hs:=wd) (ws:=wd') ⋯ (λk=>by have:=hw k;lia) (λk=>by have:=I k;lia) (Wi c) hN.symm;have f k i j:0<=aQ wd wd' (Wi c) k i j/\aQ wd wd' (Wi c) k i j<100:=by unfold aQ Wi;split<;>decide
  have g:=Al (m:=m) (w:=w) (T:=T) Y a1 z hw I a2 f;have U:=Kb (n:=m) (hs:=eA w wd) (ws:=ez w wd') (T:=EK p w wd wd' T T'<|aQ wd wd'<|Wi c) ⋯;rw[hA]at U;have G:xj [.lst (r9 (m+1) wd wd'),.tup (zH N λj=>if c=j then 1 else 0)]=cq (.own<|ja (m+1) wd wd'<|aQ wd wd'<|Wi c):=F;show zD _ _ [Cell.val (.tup<|zH N λj=>if c=j then 1 else 0),.val<|zK p m w wd' T',.val<|zK p m w wd T,.val (.lst<|r9 (m+1) wd wd')]=_;simp[G,Fw,g,U,fW];rfl
 have H:=kq (h:=N) (w:=A) (λc e=>Bl p m w wd wd' T T' e c) O d;let a:Cell->Cell->Cell->Ctx:=λl o r=>[.val (zK p m w wd' T'),.val<|zK p m w wd T,l,o,r];let Z:=Cell.val<|.lst<|r9 (m+1) wd wd';let M:=Cell.val<|.lst<|zP N A λc e=>Bl p m w wd wd' T T' e c;refine zW<|zh (γ':=a Z .no .no) (by simp[a,Z,zN,y])<|zh (γ':=a Z (vI N) .no) (by simp[a,Z,x])<|zh (γ':=a Z (vI N) M) ?_ ?_
 ·rw[yN,V6,kF,J8,show(zC<|dj (zC<|zD qc<|zb (zg 3) zB)<|sI 2) (a Z (vI N) .no)=cq (.T,zP N N λi j=>if i=j then 1 else 0)by
   simp[a,B,C,hM,qA]]
  simp only[Ni,Mx,Jw,O,if_true];rw[show jm 1 [0,1,2] (a Z (vI N) .no)=[Cell.no,.val<|zK p m w wd' T',.val<|zK p m w wd T,Z]from rfl,s];rfl
 ·have E:(qC<|zb (zg 3)<|zb (zD qN<|zb (jU<|jf jF<|zb (zg 0)<|zb (zg 1) zB) zB)<|zb (zX<|zm 4) zB) (a Z (vI N) M)=cq (jR N A λc e=>Bl p m w wd wd' T T' e c):=by
   simp[a,M,b,u,je,t];rfl
  rw[w9,kG,jh,E];simp[H]
end
theorem Bb(h:∀k,k<r->l k≠j):V9 w B l r j=0:=by unfold V9;rw[zO (g:=λ_=>0) λk I=>UY<|h k I,jr]
theorem Fi{p:Int}{w n r:Nat}{B:Nat->Vc}{l:UX}(O:il p n r B l){k:Nat}(I:k<r):V9 w B l r (l k)=B k w:=by unfold V9;rw[jB I λm a U=>UY λe=>U<|aU O.mono a I e,UJ rfl]
theorem mM{p:Int}{h w:Nat}{f:UV}{b y:Vc}(U:∀i,i<h->zq (λj=>f i j*y j) w%p=b i%p){v:Vc}(Y:Span p (w+1) (eK h<|aug w f b) v):(v w-zq (λj=>v j*y j) w)%p=0:=by
 induction Y with
 |@zero v a=>
  have e:zq (λj=>v j*y j) w%p=zq (λ_=>0) w%p:=jC λj O=>by rw[MK,a j ⋯];simp
  rw[OP,e,a w ⋯,jr];simp
 | @step v I g c Z s d r=>
  obtain⟨i,o,rfl⟩:=Z;have k:zq (λj=>v j*y j) w%p=(zq (λj=>I j*y j) w+c*zq (λj=>f i j*y j) w)%p:=by
   rw[<-qz,<-qJ];refine jC λj O=>?_;rw[MK,d j ⋯,<-MK];have:aug w f b i j=f i j:=by simp[aug,O]
   rw[this,Int.add_mul,RI]
  have l:v w%p=(I w+c*b i)%p:=by
   rw[d w ⋯];have:aug w f b i w=b i:=by simp[aug]
   rw[this]
  have m:(c*zq (λj=>f i j*y j) w)%p=(c*b i)%p:=by rw[MK,U i o,<-MK]
  rw[OP,k,l,<-OP];have n:(I w+c*b i-(zq (λj=>I j*y j) w+c*zq (λj=>f i j*y j) w))=(I w-zq (λj=>I j*y j) w)+(c*b i-c*zq (λj=>f i j*y j) w):=⋯
  rw[n,NW,r,OP,m];simp
theorem KO(Y:Pr p)(hh:h<=190)(hw:w<=190)(f:UV)(b y:Vc)(U:∀i,i<h->0<=b i/\b i<p)(hy:∀i,i<h->zq (λj=>f i j*y j) w%p=b i):
 ∃x:Vc,kQ [.int p,jR h w f,.tup (zH h b)]=cq (.val<|.tup<|zH w x)/\(∀j,0<=x j/\x j<p)/\∀i,i<h->zq (λj=>f i j*x j) w%p=b i:=by
 have H:=Y.pos;obtain⟨r,B,l,s,O,Z,N,o,J,d⟩:=Zv Y hh hw f b;have t:¬s<r:=λz=>by
  have L:=O.lt s z;have M:=J s (Mq _) z;have C:l s=w:=⋯
  have K:=(Z<|B s).mp (.gen ⟨s,z,rfl⟩);have q:=mM (y:=y) (λi a=>by rw[hy i a,Om (U i a).1 (U i a).2]) K;have n:=O.one s z;rw[C]at n;have F:zq (λj=>B s j*y j) w=0:=by rw[zO (g:=λ_=>0) λj G=>by rw[O.m6 s j z ⋯];simp];exact jr _
  rw[n,F,Int.sub_zero,Y.one]at q;lia
 rw[UY t]at d;have E:s=r:=⋯
 subst E;refine⟨_,d,λj=>?_,λi a=>?_⟩
 ·by_cases e:∃k,k<s/\l k=j
  ·obtain⟨k,I,rfl⟩:=e
   rw[Fi O I];exact O.m4 k w I ⋯
  ·rw[Bb λk I A=>e ⟨k,I,A⟩];exact⟨Int.le_refl _,H⟩
 ·have m:=Xr O ((Z<|aug w f b i).mpr (.gen ⟨i,a,rfl⟩)) w ⋯
  have u:aug w f b i w=b i:=by simp[aug]
  rw[u,Om (U i a).1 (U i a).2]at m;rw[m];congr 1;unfold V9;rw[zO (g:=λj=>zq (λk=>f i j*(if l k=j then B k w else 0)) s) λj _=>(qz _ _ _).symm,yF];refine zO λk I=>?_;rw[jB (i:=l k) (o k I) λj G ad=>by rw[UY (Nr ad)];simp,UJ rfl];simp only[aug,UJ (o k I)]
def yt(wd:UX)(b:g8):List D:=(Ml b.n).map λi=>D.tup<|zH (wd<|b.s+i)<|b.v<|b.s+i
def qu(wd:UX)(b:g8):D:=.tup [.int b.s,.tup (yt wd b)]
@[simp] theorem dB(wd b):(yt wd b).length=b.n:=by simp[yt]
theorem aX(h:i<b.n):(yt wd b)[i]? = cq (.tup<|zH (wd<|b.s+i)<|b.v<|b.s+i):=by simp[yt,h]
@[simp] theorem HI(wd b):jD (qu wd b)=cq (.T,[.int b.s,.tup (yt wd b)]):=rfl
section
variable{wd:UX}{b:g8}
theorem Kg(z:1<=b.n)(I:b.s+b.n<=100):qb [qu wd b]=cq (.val<|.tup [.int b.s,.int ((b.s+b.n-1:Nat):Int)]):=by
 have e:((b.s:Int)+(b.n:Int)-1)=((b.s+b.n-1:Nat):Int):=⋯
 simp[qb,jv,zN,qu,Mm];lia
theorem vh(z:b.s+b.n<=100)(r:Nat):j8 [qu wd b,.int r]=cq (.val<|.bl<|b.has r):=by
 by_cases h:b.s<=r
 ·by_cases I:r<b.s+b.n
  ·have:(r:Int)<(b.s:Int)+b.n:=⋯
   simp[j8,jv,zN,qu,Mm,g8.has,h,I,this]
  ·have:¬((r:Int)<(b.s:Int)+b.n):=⋯
   simp[j8,jv,zN,qu,Mm,g8.has,h,I,this]
 ·simp[j8,jv,zN,qu,Mm,g8.has,h]
theorem Zq{N:Nat}{A:Nat->g8}(O:∀j,j<N->(A j).s+(A j).n<=100)(U:N<=lim)(r:Nat):
 xu [.lst ((Ml N).map λj=>qu wd<|A j),.int r]=cq (.own<|((Ml N).filter λj=>(A j).has r).map λj=>D.tup<|zH (wd r)<|(A j).v r):=by
 simp[xu,jv,zN,Mm,Ub,Zt,jD,U];rw[jV (λj=>(A j).has r) (λj=>D.tup<|zH (wd r)<|(A j).v r) (Ml N) λj Y=>⟨_,rfl,?_,λZ=>?_⟩]
 ·rfl
 ·have e:=vh (wd:=wd) (O j<|Mn.mp Y) r
  simp[jm,e]
 ·obtain⟨b,d⟩:=o9.mp Z
  obtain⟨i,rfl⟩:=Nat.exists_eq_add_of_le b;have a:i<(A j).n:=⋯
  have I:=aX (wd:=wd) a;simp[jm,qu,a,I];rw[show((A j).s:Int)+(i:Int)-((A j).s:Int)=(i:Int)by lia,j6,UJ a];exact I
theorem Jx(g:Nat->Vc)(I:q<=lim)(O:h<=lim):yi [.int h,.lst (zP q h g)]=cq (.val<|jR h q λi j=>g j i):=by have e:=kq (h:=q) (w:=h) g I O;unfold jR at e;simp[yi,jv,zN,Mm,I,e];rfl
theorem aW(h:Nat)(u:Nat->Vc)(L:List Nat):(L.map λj=>D.tup<|zH h<|u j)=zP L.length h λi=>u (L.getD i 0):=by
 unfold zP
 conv=>lhs;rw[<-qf 0 L]
 rw[Nh];rfl
theorem og(u:Nat->Int)(L:List Nat):(L.map λj=>D.int<|u j)=zH L.length λi=>u (L.getD i 0):=by
 unfold zH
 conv=>lhs;rw[<-qf 0 L]
 rw[Nh];rfl
theorem Kf(P:UK)(g:Nat->Int):∀N,zq (λi=>g<|((Ml N).filter P).getD i 0) ((Ml N).filter P).length=zq (λj=>if P j=cI then g j else 0) N
 |0=>rfl
 | N+1=>by
  have I:=Kf P g N;rw[Ox,RY];show _=zq _ N+_;rw[<-I];cases hP:P N with
  |false=>simp[hP]
  | true=>
   have e:([N].filter P)=[N]:=by simp[hP]
   rw[e,Nv,OM];show zq _ _+_=_;simp only[if_true];congr 1
   ·refine zO λi a=>?_
    simp[Mz,Oa a]
   ·simp[Mz,hP]
end
section
variable{wd:UX}{N m:Nat}{A:Nat->g8}{p:Int}{w:UK}{T:UW}{t:Vc}
theorem mv:wW (zH N t) ((Ml N).map λj=>qu wd<|A j)=(Ml N).map λj=>D.tup [.int (t j),qu wd (A j)]:=by
 unfold wW zH;rw[List.zip_map,Nh];have e:(Ml N).zip (Ml N)=(Ml N).map λi=>(i,i):=by rw[List.zip_eq_zipWith,List.zipWith_self]
 rw[e,Nh];rfl
theorem Yf(U:Pr p)(Y:∀j,j<N->(A j).s+(A j).n<=100)(hN:N<=60)(hm:m<=5)(Z:∀k,wd k<=60)(hr:r<=m)(hv:∀j i,j<N->(A j).has r=cI->i<wd r->0<=(A j).v r i/\(A j).v r i<p):
 yx [zK p m w wd T,.lst<|(Ml N).map λj=>qu wd<|A j,.tup<|zH N t,.int r]=cq (.val<|.tup<|zH (wd r)<|t4 p A N t r):=by
 have C:=jk;have F:=U.le;have B:=Z r;have a:=Zq (wd:=wd) Y (⋯:N<=lim) r;rw[aW (wd r) (λj=>(A j).v r)]at a;have E:((Ml N).filter λj=>(A j).has r).length<=N:=by have:=List.length_filter_le (λj=>(A j).has r)<|Ml N;simpa using this
 have g:=Jx (q:=((Ml N).filter λj=>(A j).has r).length) (h:=wd r) (λi=>(A<|((Ml N).filter λj=>(A j).has r).getD i 0).v r) ⋯ ⋯;have I:=YA (p:=p) (h:=wd r) (w:=((Ml N).filter λj=>(A j).has r).length) .L (λi j=>(A<|((Ml N).filter λj=>(A j).has r).getD j 0).v r i) (λi=>t<|((Ml N).filter λj=>(A j).has r).getD i 0) U.pos ⋯ ⋯ (λi j y O=>by
  have b:((Ml N).filter λj=>(A j).has r).getD j 0∈(Ml N).filter λj=>(A j).has r:=by rw[Mz,Mp O];exact Rx _
  obtain⟨u,x⟩:=Nf.mp b;have:=hv _ i (Mn.mp u) (by simpa using x) y;lia)
 have l:(zH (wd r) λi=>zq (λj=>(A<|((Ml N).filter λj=>(A j).has r).getD j 0).v r i*t (((Ml N).filter λj=>(A j).has r).getD j 0)) ((Ml N).filter λj=>(A j).has r).length%p)=zH (wd r) (t4 p A N t r):=vi λi _=>by unfold t4;rw[Kf (λj=>(A j).has r) (λj=>(A j).v r i*t j) N];congr 1;refine zO λj _=>?_;rw[Pe]
 rw[l]at I;have o:zT (.tp [0,1]) (sB<|zD j8<|zb (zg 1)<|zb (zg 2) zB) (zg 0) [.no,.no,vI r] ((Ml N).map λj=>D.tup [.int (t j),qu wd (A j)])=cq (zH ((Ml N).filter λj=>(A j).has r).length λi=>t<|((Ml N).filter λj=>(A j).has r).getD i 0):=by rw[<-og];refine jV (λj=>(A j).has r) (λj=>D.int<|t j) _ λj O=>⟨_,rfl,?_,λ_=>rfl⟩;have e:=vh (wd:=wd) (Y j<|Mn.mp O) r;simp[e]
 have d:r<m+1:=⋯
 have z:=mv (N:=N) (wd:=wd) (t:=t) (A:=A);simp only[su]at I;have f:N<=lim:=⋯
 refine zW<|zh (γ':=[.val (zK p m w wd T),.val<|.lst<|(Ml N).map λj=>qu wd<|A j,.val<|.tup<|zH N t,vI r,.val (.lst<|zH ((Ml N).filter λj=>(A j).has r).length λi=>t<|((Ml N).filter λj=>(A j).has r).getD i 0)]) ?_ ?_
 ·simp[-Mz,zN,jm,Mm,z,o,f]
 ·simp[-Mz,zK,a,g,I,d]
theorem nY(Y:Pr p)(O:∀j,j<N->(A j).s+(A j).n<=m+1)(Z:N<=60)(hm:m<=5)(a1:∀k,wd k<=60)(hv:∀j r i,j<N->(A j).has r=cI->i<wd r->0<=(A j).v r i/\(A j).v r i<p)(z:a<N)(t0:∀i,i<a->t i=0)(t1:t a≠0):
 Yy [zK p m w wd T,.lst<|(Ml N).map λj=>qu wd<|A j,.tup (zH N t)]=cq (.val<|qu wd<|L3 p A N t a):=by
 have C:=jk;have f:N<=lim:=⋯
 have h:=wA f t z t0 t1;have B:=O a z;have l:zT (.nm 0) jO (zD yx<|zb (zg 1)<|zb (zg 2)<|zb (zg 3)<|zb (zG jX (dj (zm 4)<|sI 0)<|zg 0) zB) [.no,.val<|zK p m w wd T,.val<|.lst<|(Ml N).map λj=>qu wd<|A j,.val<|.tup<|zH N t,.val (qu wd<|A a)] ((Ml (A a).n).map λ(i:Nat)=>D.int i)=cq (yt wd<|L3 p A N t a):=by
  unfold yt;refine zw _ _ λi b=>zy rfl rfl ?_;have b:=Mn.mp b;have e:=Yf (T:=T) (w:=w) (t:=t) Y (λj I=>by have:=O j I;lia) Z hm a1 (r:=(A a).s+i) (by have:i<(A a).n:=b;lia) λj c I x u=>hv j _ c I x u;have o:(((A a).s+i:Nat):Int)=((A a).s:Int)+(i:Int):=⋯
  rw[o]at e;have E:inR (((A a).s:Int)+(i:Int))=cI:=decide_eq_true (by have:i<(A a).n:=b;lia);simp[e];rfl
 have d:(A a).n<=lim:=⋯
 have y:inR ((A a).n:Int)=cI:=decide_eq_true ⋯;refine zW<|zh (γ':=[.val (zK p m w wd T),.val<|.lst<|(Ml N).map λj=>qu wd<|A j,.val<|.tup<|zH N t,.val<|qu wd<|A a,.no]) ?_ (zh (γ':=[.val (zK p m w wd T),.val<|.lst<|(Ml N).map λj=>qu wd<|A j,.val<|.tup<|zH N t,.val<|qu wd<|A a,.val (.lst<|yt wd<|L3 p A N t a)]) ?_ ?_)
 ·simp[zN,Mm,h,z]
 ·have U:=l
  rw[show((Ml (A a).n).map λ(i:Nat)=>D.int i)=zH (A a).n λi=>(i:Int)from rfl]at U;simp[jm,q8,y,d,U]
 ·have g:(L3 p A N t a).n<=lim:=d
  simp[dB,g];rfl
end
section
variable{wd:UX}{N m k r:Nat}{A:Nat->g8}{p:Int}{w:UK}{T:UW}{B:Nat->Vc}{l:UX}
theorem bp(l:UX)(g:Nat->D)(i:Nat):∀(L:List Nat),bq (L.map λj=>D.int ((l j:Nat):Int)) (L.map g) (i:Int)=(L.find? λj=>l j==i).map g
 |[]=>rfl
 | j::L=>by
  have I:=bp l g i L;simp only[MT,bq,OZ];by_cases h:l j=i
  ·simp[h]
  ·have O:¬((l j:Nat):Int)=(i:Int):=⋯
   rw[UY O,I];have:(l j==i)=di:=by simpa using h
   rw[this]
theorem Vy(l:UX):∀L:List Nat,Yh (L.map λj=>D.int ((l j:Nat):Int))=cq (L.map λj=>((l j:Nat):Int))
 |[]=>rfl
 |j::L=>by simp[Yh,Vy l L]
theorem dD(I:il p N r B l)(O:r<=lim):oY ((Ml r).map λj=>D.int ((l j:Nat):Int)) ((Ml r).map λj=>D.tup<|zH N<|B j)=cq (.n4 ((Ml r).map λj=>D.int ((l j:Nat):Int))<|(Ml r).map λj=>D.tup<|zH N<|B j):=by unfold oY;rw[Vy];dsimp only;rw[UJ];refine⟨by simp,?_,by simpa using O⟩;rw[List.nodup_iff_pairwise_ne,Rp];refine RB (λ{a b} d U h=>?_)<|Rn (n:=r);have:=I.mono a b h<|Mn.mp U;lia
theorem YM(f g:Nat->D):∀L:List Nat,JD (L.map λj=>D.tup [f j,g j])=cq (L.map f,L.map g)
 |[]=>rfl
 |j::L=>by simp[JD,YM f g L]
theorem Xw(h:k<(qZ m w wd T).length):(qZ m w wd T)[k]=vD w wd T k:=by simp[qZ]
theorem yM(w wd T k):jD (vD w wd T k)=cq (.T,[.str (kJ<|hB<|w k),jR (eA w wd k) (ez w wd k) (T k)]):=rfl
theorem WX:qU ((Ml N).map λj=>qu wd<|A j)=(Ml N).map λ(i:Nat)=>D.tup [.int i,qu wd (A i)]:=by unfold qU;simp only[MN,Od];refine MI λi a=>?_;have a:=Mn.mp a;simp[a]
def Bd(p:Int)(w:UK)(wd:UX)(T:UW)(k:Nat)(u:Vc):Prop:=if w k=cI then Span p (wd k) (eK (wd<|k+1) λj i=>T k i j) u else DF p (wd<|k+1) (wd k) (T k) u
theorem cD(U:Pr p)(Y:∀k,wd k<=16)(w)(T)(k:Nat):∃q g,q<=100/\(∀u,Span p (wd k) (eK q g) u↔Bd p w wd T k u)/\
 (if w k=cI then JA [.int p,jR (eA w wd k) (ez w wd k) (T k)]=cq (.own<|zP q (wd k) g)else vo [.int p,jR (eA w wd k) (ez w wd k) (T k)]=cq (.own<|zP q (wd k) g)):=by
 have m:=jk;have Z:=Y k;have j:=Y<|k+1;have d:∀{r n:Nat} {B:Nat->Vc} {l:UX},il p n r B l->r<=n:=λ{r n B l} I=>by
  have mono:∀k,k<r->k<=l k:=by
   intro k
   induction k with
   |zero=>intro _;lia
   |succ k i=>intro Z;have:=i ⋯;have:=I.mono k (k+1) ⋯ Z;lia
  cases r with
  |zero=>lia
  |succ f=>have:=mono f ⋯;have:=I.lt f ⋯;lia
 cases hw:w k with
 |true=>
  have a:eA w wd k=wd k:=by unfold eA;rw[hw];rfl
  have O:ez w wd k=wd (k+1):=by unfold ez;rw[hw];rfl
  obtain⟨r,B,l,e,I,b⟩:=KC U (h:=wd k) (w:=wd<|k+1) ⋯ ⋯<|T k;refine⟨r,B,by have:=d I;lia,λu=>by unfold Bd;rw[hw,UJ rfl];exact b u,?_⟩;rw[UJ rfl,a,O];exact e
 |false=>
  have a:eA w wd k=wd (k+1):=by unfold eA;rw[hw];rfl
  have O:ez w wd k=wd k:=by unfold ez;rw[hw];rfl
  obtain⟨q,K,l,s,e,I,b,_⟩:=vn U (h:=wd<|k+1) (w:=wd k) ⋯ ⋯<|T k;refine⟨q,K,by have:=d I;lia,λu=>by unfold Bd;rw[hw,UY ⋯];exact b u,?_⟩;rw[UY ⋯,a,O];exact e
theorem cJ(hp:Pr p)(hb:∀j,j<N->(A j).s+(A j).n<=m+1)(hk:∀j,j<N->(A j).has k=cI)(a6:k<m)(hN:N<=16)(hm:m<=5)(z:∀k,wd k<=16)(hv:∀j r i,j<N->(A j).has r=cI->i<wd r->0<=(A j).v r i/\(A j).v r i<p):
 ∃r B l,il p N r B l/\(∀t,Span p N (eK r B) t↔Bd p w wd T k (app (λi j=>(A j).v k i) N t))/\
  ZX [zK p m w wd T,.int k,.lst ((Ml N).map λj=>qu wd<|A j)]=cq (.own<|(Ml N).map λi=>qu wd<|h9 p A N r B l i):=by
 have hl:=jk;obtain⟨q,g,S,y,Y⟩:=cD hp z w T k;have b5:=z k;obtain⟨r,B,l,G,I,W⟩:=Yz hp (h:=wd k) (w:=N) (q:=q) ⋯ ⋯ S (λi j=>(A j).v k i) g;refine⟨r,B,l,I,λt=>(W t).trans (y _),?_⟩;have Z:N<=lim:=⋯
 have C:k<m+1:=⋯
 have rN:r<=N:=by
  have mono:∀k,k<r->k<=l k:=by
   intro k
   induction k with
   |zero=>intro _;lia
   |succ k X=>intro hk;have:=X ⋯;have:=I.mono k (k+1) ⋯ hk;lia
  cases r with
  |zero=>lia
  |succ f=>have:=mono f ⋯;have:=I.lt f ⋯;lia
 have o:r<=lim:=⋯
 have u:=Zq (wd:=wd) (A:=A) (N:=N) (λj O=>by have:=hb j O;lia) Z k;have Q:((Ml N).filter λj=>(A j).has k)=Ml N:=List.filter_eq_self.mpr λj O=>hk j<|Mn.mp O;rw[Q]at u;have H:=Jx (q:=N) (h:=wd k) (λj=>(A j).v k) Z ⋯;have E:xu [.lst ((Ml N).map λj=>qu wd<|A j),.int k]=cq (.own<|zP N (wd k) λj=>(A j).v k):=u;have J:zT (.nm 0) jO (qC<|zb (zD xI<|zb (zg 0) zB)<|zb (zg 0) zB) [.no] (zP r N B)=cq ((Ml r).map λj=>D.tup [.int ((l j:Nat):Int),.tup (zH N<|B j)]):=by unfold zP;refine zw _ _ λj O=>zy rfl rfl ?_;have O:=Mn.mp O;have e:=wA Z (B j) (I.lt j O) (λi b=>I.m6 j i O b) (by rw[I.one j O];decide);simp[e]
 have K:=dD I o;have M:=YM (λj=>D.int ((l j:Nat):Int)) (λj=>D.tup<|zH N<|B j)<|Ml r;let d:D:=.n4 ((Ml r).map λj=>D.int ((l j:Nat):Int)) ((Ml r).map λj=>D.tup<|zH N<|B j);let L:D:=.lst ((Ml N).map λj=>qu wd<|A j);have P:zT (.tp [0,1]) jO (cM (sB<|BW (zg 0)<|zg 4) (zD Yy<|zb (zg 2)<|zb (zg 3)<|zb (Ft (zg 4)<|zg 0) zB)<|zg 1) [.no,.no,.val<|zK p m w wd T,.val L,.val d] ((Ml N).map λ(i:Nat)=>D.tup [.int i,qu wd (A i)])=cq ((Ml N).map λi=>qu wd<|h9 p A N r B l i):=by
  refine zw _ _ λi b=>zy rfl rfl ?_;have b:=Mn.mp b;have U:=bp l (λj=>D.tup<|zH N<|B j) i<|Ml r;have F:(Ml r).find? (λj=>l j==i)=m8 r l i:=rfl;rw[F]at U;unfold h9;cases hx:m8 r l i with
  |none=>
   rw[hx]at U;simp[d,BW,U]
  |some j=>
   rw[hx]at U;obtain⟨x,R⟩:=ke hx;have e:=nY (T:=T) (w:=w) (t:=B j) hp hb ⋯ hm (λk=>by have:=z k;lia) hv (a:=i) b (λc hc=>I.m6 j c x ⋯) (by rw[<-R,I.one j x];decide);simp[d,BW,Ft,U,L,e]
 rw[ZX];refine zW (zh (γ':=[.val (zK p m w wd T),vI k,.val L,.val<|.str<|kJ<|hB<|w k,.no,.no,.no,.no]) ?_
  (zh (γ':=[.val (zK p m w wd T),vI k,.val L,.val<|.str<|kJ<|hB<|w k,.val<|jR (eA w wd k) (ez w wd k)<|T k,.no,.no,.no]) ?_
  (zh (γ':=[.val (zK p m w wd T),vI k,.val L,.val<|.str<|kJ<|hB<|w k,.val<|jR (eA w wd k) (ez w wd k)<|T k,.val<|.lst<|zP q (wd k) g,.no,.no]) ?_
  (zh (γ':=[.val (zK p m w wd T),vI k,.val L,.val<|.str<|kJ<|hB<|w k,.val<|jR (eA w wd k) (ez w wd k)<|T k,.val<|.lst<|zP q (wd k) g,.val<|.lst<|zP r N B,.no]) ?_
  (zh (γ':=[.val (zK p m w wd T),vI k,.val L,.val<|.str<|kJ<|hB<|w k,.val<|jR (eA w wd k) (ez w wd k)<|T k,.val<|.lst<|zP q (wd k) g,.val<|.lst<|zP r N B,.val d]) ?_ ?_)))))
 ·simp[S',zN,Mm,vN,yM,Xw,a6];rfl
 ·simp[S_,vN,yM,Xw,a6]
 ·cases hw:w k with
  |true=>
   rw[hw,UJ rfl]at Y;have eq:=Yo cI;simp[U6,vN,eq,Y]
  |false=>
   rw[hw,UY ⋯]at Y;have eq:=Yo di;simp[U6,vN,eq,Y]
 ·simp[T_,vN,C,L,E,H,G]
 ·simp[U',jm,J,o,M,K];rfl
 ·simp[U_,jm,L,WX,Z,P]
end
def oD(n:Nat):Option Vc->D
 |none=>.ej
 |some y=>.tup (zH n y)
theorem cG(U:Pr p)(Y:h<=190)(hw:w<=190)(f:UV)(b:Vc)(O:∀i,i<h->0<=b i/\b i<p):
 ∃o:Option Vc,kQ [.int p,jR h w f,.tup (zH h b)]=cq (.val<|oD w o)/\(∀x,o=cq x->(∀j,0<=x j/\x j<p)/\∀i,i<h->app f w x i%p=b i%p)/\(o=da->¬∃y:Vc,∀i,i<h->app f w y i%p=b i%p):=by
 have m i:i<h->b i%p=b i:=λa=>Om (O i a).1 (O i a).2;by_cases I:∃y:Vc,∀i,i<h->app f w y i%p=b i%p
 ·obtain⟨y,I⟩:=I
  obtain⟨x,e,H,J⟩:=KO U Y hw f b y O λi a=>by rw[<-m i a,<-I i a];rfl
  refine⟨cq x,e,λP F=>?_,λz=>by cases z⟩;cases F;exact⟨H,λi a=>by rw[m i a];exact J i a⟩
 ·obtain⟨r,B,l,s,K,A,M,u,N,Z⟩:=Zv U Y hw f b
  have d:s<r:=by
   refine NO λd=>I ?_;have G:s=r:=⋯
   subst G;refine⟨V9 w B l s,λi a=>?_⟩;have n:=Xr K ((A<|aug w f b i).mpr (.gen ⟨i,a,rfl⟩)) w ⋯;have C:aug w f b i w=b i:=by simp[aug]
   rw[C]at n;rw[n];congr 1;unfold app V9;rw[zO (g:=λj=>zq (λk=>f i j*(if l k=j then B k w else 0)) s) λj _=>(qz _ _ _).symm,yF];refine zO λk t=>?_;rw[jB (i:=l k) (u k t) λj L E=>by rw[UY (Nr E)];simp,UJ rfl];simp only[aug,UJ (u k t)]
  rw[UJ d]at Z;exact⟨da,Z,nofun,λ_=>I⟩
section
variable{wd:UX}{k:Nat}{p:Int}{w:UK}{T:UW}
theorem Yp(b:Bool):gw (.str (kJ (hB b))) (.str "l")=cq (.bl b):=by cases b<;>kernel_rfl
theorem Vn(I:Pr p)(a4:∀k,wd k<=16)(hT:∀i j,i<eA w wd k->j<ez w wd k->0<=T k i j/\T k i j<p)(u:Vc)(hu:∀i,i<wd k->0<=u i/\u i<p):
 ∃o:Option Vc,x9 [.int p,vD w wd T k,.tup (zH (wd k) u)]=cq (.val<|oD (wd<|k+1) o)/\(∀y,o=cq y->∀c,c<wd (k+1)->0<=y c/\y c<p)/\
  (w k=di->(o=da->∀c,c<wd (k+1)->app (T k) (wd k) u c%p=0)/\∀y,o=cq y->(∀c,c<wd (k+1)->app (T k) (wd k) u c%p=y c%p)/\∃c,c<wd (k+1)/\y c%p≠0)/\
  (w k=cI->(o=da->¬∃y:Vc,∀c,c<wd k->app (T k) (wd<|k+1) y c%p=u c%p)/\∀y,o=cq y->∀c,c<wd k->app (T k) (wd<|k+1) y c%p=u c%p):=by
 have C:=jk;have E:=I.le;have B:=a4 k;have A:=a4<|k+1;rw[x9];cases hw:w k with
 |true=>
  have b:eA w wd k=wd k:=by unfold eA;rw[hw];rfl
  have O:ez w wd k=wd (k+1):=by unfold ez;rw[hw];rfl
  obtain⟨o,n,a,U⟩:=cG I (h:=wd k) (w:=wd<|k+1) ⋯ ⋯ (T k) u hu;refine⟨o,?_,λy e c _=>(a y e).1 c,nofun,λ_=>⟨U,λy e=>(a y e).2⟩⟩;refine zW ?_;have Y:=Yp cI;have r:O3 (zN 4 [.int p,vD w wd T k,.tup (zH (wd k) u)])=cq (.ret<|.val<|oD (wd<|k+1) o):=by simp[O3,zN,Mm,yM,hw,Y,b,O,n]
  rw[jK,r];rfl
 | false=>
  have b:eA w wd k=wd (k+1):=by unfold eA;rw[hw];rfl
  have O:ez w wd k=wd k:=by unfold ez;rw[hw];rfl
  rw[b,O]at hT;have Z:=YA (p:=p) (h:=wd<|k+1) (w:=wd k) .T (T k) u I.pos ⋯ ⋯ λi j t x=>by have:=hT i j t x;lia
  simp only[su]at Z;have Y:=Yp di;have m:=av (λi=>zq (λj=>T k i j*u j) (wd k)%p)<|wd<|k+1;by_cases d:∃c,c<wd (k+1)/\zq (λj=>T k c j*u j) (wd k)%p≠0
  ·refine⟨cq λi=>zq (λj=>T k i j*u j) (wd k)%p,?_,(λy e c _=>by cases e;exact⟨Nj _ (by have:=I.pos;lia),Ng _ I.pos⟩),λ_=>⟨nofun,(λy e=>by cases e;exact⟨(λc _=>by rw[ND];rfl),(by obtain⟨c,a,U⟩:=d;exact⟨c,a,(by rw[ND];exact U)⟩)⟩)⟩,nofun⟩
   refine zW<|zh (γ':=[vI p,.val<|vD w wd T k,.val<|.tup<|zH (wd k) u,.no]) ?_ (zh (γ':=[vI p,.val<|vD w wd T k,.val<|.tup<|zH (wd k) u,.val (.tup<|zH (wd<|k+1) λi=>zq (λj=>T k i j*u j) (wd k)%p)]) ?_ ?_)
   ·simp[O3,zN,Mm,yM,hw,Y]
   ·simp[U3,yM,b,O,Z]
   ·have f:(Ml<|wd<|k+1).any (λi=>(zq (λj=>T k i j*u j) (wd k)%p) != 0)=cI:=by
     obtain⟨c,a,U⟩:=d;exact Uc.mpr ⟨c,Mn.mpr a,by simpa using U⟩
    have g:Bi (zm 3) [vI p,.val<|vD w wd T k,.val<|.tup<|zH (wd k) u,.val (.tup<|zH (wd<|k+1) λi=>zq (λj=>T k i j*u j) (wd k)%p)]=cq (.bl cI):=by show((YQ _).map λs=>D.bl<|s.any id)=_;rw[m];show cq (D.bl<|((Ml<|wd<|k+1).map λi=>(zq (λj=>T k i j*u j) (wd k)%p) != 0).any id)=_;rw[List.any_map];rw[show(id∘λi=>(zq (λj=>T k i j*u j) (wd k)%p) != 0)=λi=>(zq (λj=>T k i j*u j) (wd k)%p) != 0 from rfl,f]
    unfold U4;simp only[w9,sd,px,g];rfl
  ·refine⟨da,?_,nofun,λ_=>⟨λ_ c l=>NO λz=>d ⟨c,l,z⟩,nofun⟩,nofun⟩
   refine zW<|zh (γ':=[vI p,.val<|vD w wd T k,.val<|.tup<|zH (wd k) u,.no]) ?_ (zh (γ':=[vI p,.val<|vD w wd T k,.val<|.tup<|zH (wd k) u,.val (.tup<|zH (wd<|k+1) λi=>zq (λj=>T k i j*u j) (wd k)%p)]) ?_ ?_)
   ·simp[O3,zN,Mm,yM,hw,Y]
   ·simp[U3,yM,b,O,Z]
   ·have f:(Ml<|wd<|k+1).any (λi=>(zq (λj=>T k i j*u j) (wd k)%p) != 0)=di:=List.any_eq_false.mpr λc l z=>d ⟨c,Mn.mp l,by simpa using z⟩
    have g:Bi (zm 3) [vI p,.val<|vD w wd T k,.val<|.tup<|zH (wd k) u,.val (.tup<|zH (wd<|k+1) λi=>zq (λj=>T k i j*u j) (wd k)%p)]=cq (.bl di):=by show((YQ _).map λs=>D.bl<|s.any id)=_;rw[m];show cq (D.bl<|((Ml<|wd<|k+1).map λi=>(zq (λj=>T k i j*u j) (wd k)%p) != 0).any id)=_;rw[List.any_map];rw[show(id∘λi=>(zq (λj=>T k i j*u j) (wd k)%p) != 0)=λi=>(zq (λj=>T k i j*u j) (wd k)%p) != 0 from rfl,f]
    unfold U4;simp only[w9,sd,px,g];rfl
end
section
variable{wd:UX}{k:Nat}{p:Int}{w:UK}{T:UW}
theorem oo(h:1<=n):hM n (-1)=cq (n-1):=by unfold hM;rw[UY ⋯,UJ ⋯];congr 1;lia
theorem ib(I:b.s+b.n=k+1)(y:Vc):yt wd (l7 k b<|some y)=yt wd b++[D.tup (zH (wd<|k+1) y)]:=by
 unfold yt l7;dsimp only;rw[Ox,Nx];congr 1
 ·refine MI λi a=>?_
  have a:=Mn.mp a;rw[UY ⋯]
 ·simp[I]
theorem mI(z:1<=b.n)(O:b.s+b.n=k+1)(Z:k<=20)(e:x9 [.int p,vD w wd T k,.tup (zH (wd k)<|b.v k)]=cq (.val<|oD (wd<|k+1) o)):
 yP [.int p,vD w wd T k,qu wd b]=cq (.val<|qu wd<|l7 k b o):=by
 have h:=jk;have f:=oo z;have I:=aX (wd:=wd) (b:=b) (i:=b.n-1) ⋯;rw[show b.s+(b.n-1)=k by lia]at I;rw[yP];refine zW<|zh (γ':=[vI p,.val<|vD w wd T k,.val<|qu wd b,.val (oD (wd<|k+1) o)]) ?_ ?_
 ·unfold _b
  have a:dj (zC<|dj (zm 2)<|sI 1) (mV<|sI 1) (zN 4 [.int p,vD w wd T k,qu wd b])=cq (.tup<|zH (wd k)<|b.v k):=by have U:∀g:Ctx,mV (sI 1) g=cq (.int (-1)):=λ_=>rfl;simp[zN,Mm,f,U];exact I
  simp only[yN,kG,jh,ZU,a];simp[zN,Mm,e]
 ·cases o with
  |none=>simp[a',oD,EW,l7]
  |some y=>
   have d:b.n+1<=lim:=⋯
   have Y:=ib (wd:=wd) O y;simp[a',oD,EW,d,jX];unfold qu;rw[Y];rfl
def me(p:Int)(w:UK)(wd:UX)(T:UW)(k:Nat)(L:List Vc):Prop:=
 if w k=cI then ∃q K l s,L=(Ml q).map K/\il p (wd<|k+1) q K l/\(∀v,Span p (wd<|k+1) (eK q K) v↔DF p (wd k) (wd<|k+1) (T k) v)/\Rk p (wd k) (wd<|k+1) (λj i=>T k i j) s/\q+s=wd (k+1)
 else ∃r B l,il p (wd<|k+1) r B l/\(∀v,Span p (wd<|k+1) (eK r B) v↔Span p (wd<|k+1) (eK (wd k) λj i=>T k i j) v)/\L=((Ml<|wd<|k+1).filter λ(c:Nat)=> !decide ((c:Int)∈(Ml r).map λj=>((l j:Nat):Int))).map j9
theorem Kw(l:UX):∀L:List Nat,WT (L.map λj=>D.int ((l j:Nat):Int))=cq (L.map λj=>((l j:Nat):Int))
 |[]=>rfl
 |j::L=>by simp[WT,Kw l L]
theorem tN(I:il p n r B l):r<=n:=by
 have mono:∀k,k<r->k<=l k:=by
  intro k
  induction k with
  |zero=>intro _;lia
  |succ k U=>intro Y;have:=U ⋯;have:=I.mono k (k+1) ⋯ Y;lia
 cases r with
 |zero=>lia
 |succ O=>have:=mono O ⋯;have:=I.lt O ⋯;lia
theorem iW(n:Nat):qU (zP n n λi j=>if i=j then 1 else 0)=(Ml n).map λ(i:Nat)=>D.tup [.int i,.tup (zH n<|j9 i)]:=by unfold qU zP;simp only[MN,Od];refine MI λi a=>?_;have a:=Mn.mp a;simp[a];rfl
theorem Vo(hp:Pr p)(z:∀k,wd k<=16):∃L:List Vc,me p w wd T k L/\vm [.int p,vD w wd T k]=cq (.own<|L.map λy=>D.tup<|zH (wd<|k+1) y):=by
 have H:=jk;have G:=z k;have F:=z<|k+1;rw[vm];unfold me;cases hw:w k with
 |true=>
  have a:eA w wd k=wd k:=by unfold eA;rw[hw];rfl
  have U:ez w wd k=wd (k+1):=by unfold ez;rw[hw];rfl
  obtain⟨q,K,l,s,e,I,d,C,t⟩:=vn hp (h:=wd k) (w:=wd<|k+1) ⋯ ⋯<|T k;refine⟨(Ml q).map K,by rw[UJ rfl];exact⟨q,K,l,s,rfl,I,d,C,t⟩,zW ?_⟩;have Y:=Yp cI;have b:Tb (zN 3 [.int p,vD w wd T k])=cq (.ret<|.own<|zP q (wd<|k+1) K):=by simp[Tb,zN,Mm,yM,hw,Y,a,U,e]
  rw[jK,b,Nh];rfl
 | false=>
  have a:eA w wd k=wd (k+1):=by unfold eA;rw[hw];rfl
  have U:ez w wd k=wd k:=by unfold ez;rw[hw];rfl
  obtain⟨r,B,l,e,I,d⟩:=KC hp (h:=wd<|k+1) (w:=wd k) ⋯ ⋯<|T k;have J:=tN I;have u:r<=lim:=⋯
  have Z:wd (k+1)<=lim:=⋯
  refine⟨_,by rw[UY ⋯];exact⟨r,B,l,I,d,rfl⟩,?_⟩;have Y:=Yp di;have x:zT (.nm 0) jO (zD xI<|zb (zg 0) zB) [.no] (zP r (wd<|k+1) B)=cq ((Ml r).map λj=>D.int ((l j:Nat):Int)):=by unfold zP;refine zw _ _ λj O=>zy rfl rfl ?_;have O:=Mn.mp O;have e:=wA Z (B j) (I.lt j O) (λi f=>I.m6 j i O f) (by rw[I.one j O];decide);simp[e]
  have A:zT (.tp [0,1]) (sB<|KR (zg 0)<|zm 2) (zg 1) [.no,.no,.val (.lst<|(Ml r).map λj=>D.int ((l j:Nat):Int))] ((Ml<|wd<|k+1).map λ(i:Nat)=>D.tup [.int i,.tup (zH (wd<|k+1)<|j9 i)]) =
   cq (((Ml<|wd<|k+1).filter λ(c:Nat)=> !decide ((c:Int)∈(Ml r).map λj=>((l j:Nat):Int))).map λ(i:Nat)=>D.tup<|zH (wd<|k+1)<|j9 i):=by
   refine jV (λ(c:Nat)=> !decide ((c:Int)∈(Ml r).map λj=>((l j:Nat):Int))) (λ(i:Nat)=>D.tup<|zH (wd<|k+1)<|j9 i) _ λi f=>⟨_,rfl,?_,λ_=>rfl⟩;have E:=Kw l<|Ml r;show(KR (zg 0) (zm 2) [vI i,_,.val (.lst<|(Ml r).map λj=>D.int ((l j:Nat):Int))]).bind C5=_;show((WT<|(Ml r).map λj=>D.int ((l j:Nat):Int)).map λl=>D.bl<|!decide ((i:Int)∈l)).bind C5=_;rw[E];rfl
  have b:=yQ (n:=wd<|k+1) Z;refine zW<|zh (γ':=[vI p,.val<|vD w wd T k,.no]) ?_ (zh (γ':=[vI p,.val<|vD w wd T k,.val (.lst<|(Ml r).map λj=>D.int ((l j:Nat):Int))]) ?_ ?_)
  ·simp[Tb,zN,Mm,yM,hw,Y]
  ·simp[P_,jm,yM,a,U,e,u,x]
  ·have g:jD (jR (eA w wd k) (ez w wd k)<|T k)=cq (.T,[.int (wd (k+1):Nat),.int (wd k:Nat),.tup (zP (wd<|k+1) (wd k)<|T k)]):=by rw[a,U];rfl
   have m:jD (jR (wd<|k+1) (wd<|k+1) λi j=>if i=j then 1 else 0)=cq (.T,[.int (wd (k+1):Nat),.int (wd (k+1):Nat),.tup (zP (wd<|k+1) (wd<|k+1) λi j=>if i=j then 1 else 0)]):=rfl;have o:=iW<|wd<|k+1;simp[Q_,jm,yM,g,b,m,o,Z];rw[A];exact congrArg cq (congrArg (List.map _)<|List.filter_congr λc _=>by simp)
end
section
variable{wd:UX}{k r N:Nat}{p:Int}{w:UK}{T:UW}{B:Nat->Vc}{l:UX}{A:Nat->g8}
theorem rF(O:il p N r B l){j:Nat}(I:j<r):m8 r l (l j)=cq j:=by
 cases h:m8 r l (l j)with
 |none=>exact absurd rfl<|J1 h j I
 |some i=>
  obtain⟨a,U⟩:=ke h;rw[aU O.mono a I U]
theorem WR{a b:List Nat}(z:a.Nodup)(I:b.Nodup)(h:∀x,x∈a↔x∈b):a.length=b.length:=((List.perm_ext_iff_of_nodup z I).mpr h).length_eq
theorem Ys(I:il p N r B l):(Ml N).countP (λi=>(m8 r l i).isSome)=r:=by
 rw[Oi];have e:((Ml N).filter λi=>(m8 r l i).isSome).length=((Ml r).map l).length:=by
  refine WR (List.nodup_range.sublist List.filter_sublist) ?_ λx=>?_
  ·rw[List.nodup_iff_pairwise_ne,Rp]
   refine RB (λ{a b} g U h=>?_)<|Rn (n:=r);have:=I.mono a b h<|Mn.mp U;lia
  ·rw[Nf,Na]
   constructor
   ·rintro⟨d,O⟩
    obtain⟨j,Y⟩:=Ny.mp O;obtain⟨Z,f⟩:=ke Y;exact⟨j,Mn.mpr Z,f⟩
   ·rintro⟨j,d,O⟩
    have d:=Mn.mp d;subst O;exact⟨Mn.mpr<|I.lt j d,by rw[rF I d];rfl⟩
 rw[e];simp
theorem lG(q:UK)(N:Nat):(Ml N).countP q+(Ml N).countP (λi=> !q i)=N:=by
 have:=TM q (l:=Ml N);rw[Od]at this;rw[this];congr 1
 ·rw[<-this]
 ·rw[<-this]
  exact Pa λi _=>by simp
theorem Hi(I:∀j,j<N->(A j).has k=cI)(t:Vc)(c:Nat):t4 p A N t k c%p=app (λi j=>(A j).v k i) N t c%p:=by unfold t4 app;rw[ND];congr 1;exact zO λj O=>by rw[UJ (I j O),Pe]
theorem Jd(I:∀j,j<N->(A j).has k=cI)(h:m8 r l i=cq j)(c:Nat):(h9 p A N r B l i).v k c%p=app (λi j=>(A j).v k i) N (B j) c%p:=by unfold h9;rw[h];exact Hi I (B j) c
theorem KN(h:m8 r l i=da):h9 p A N r B l i=A i:=by unfold h9;rw[h]
theorem dJ(hp:Pr p)(a5:∀k,wd k<=16)(hk:∀j,j<wd k->(A j).has k=cI)(hs:∀v:Vc,∃t,∀i,i<wd k->v i%p=app (λi j=>(A j).v k i) (wd k) t i%p)
 (hb:il p (wd k) r B l) (hW:∀t,Span p (wd k) (eK r B) t↔Bd p w wd T k (app (λi j=>(A j).v k i) (wd k) t)) {Z:List Vc} (hn:me p w wd T k Z) {nx:Nat->Option Vc}
 (hr:∀i,i<wd k->w k=di->(nx i=da->∀c,c<wd (k+1)->app (T k) (wd k) ((h9 p A (wd k) r B l i).v k) c%p=0)/\∀y,nx i=cq y->(∀c,c<wd (k+1)->app (T k) (wd k) ((h9 p A (wd k) r B l i).v k) c%p=y c%p)/\∃c,c<wd (k+1)/\y c%p≠0)
 (hl:∀i,i<wd k->w k=cI->(nx i=da->¬∃y:Vc,∀c,c<wd k->app (T k) (wd<|k+1) y c%p=(h9 p A (wd k) r B l i).v k c%p)/\∀y,nx i=cq y->∀c,c<wd k->app (T k) (wd<|k+1) y c%p=(h9 p A (wd k) r B l i).v k c%p):
 (∀y,y∈Z->∀c,c<wd (k+1)->0<=y c/\y c<p)/\(∀y,y∈Z->w k=cI->∀c,c<wd k->app (T k) (wd<|k+1) y c%p=0)/\
   (∀v,Span p (wd<|k+1) (λg=>(∃i,i<wd k/\nx i=cq g)\/g∈Z) v)/\(Ml<|wd k).countP (λi=>(nx i).isSome)+Z.length=wd (k+1):=by
 have two:=hp.two;cases hw:w k with
 | false=>
  have u t:Span p (wd k) (eK r B) t↔DF p (wd<|k+1) (wd k) (T k) (app (λi j=>(A j).v k i) (wd k) t):=by have:=hW t;unfold Bd at this;rw[hw,UY ⋯]at this;exact this
  unfold me at hn;rw[hw,UY ⋯]at hn;obtain⟨o,B2,n,G,X,U⟩:=hn;obtain⟨g1,g2,g3,F⟩:=BF hp (a5 k) (a5<|k+1) hs hb u G X;have b0 c:c<wd (k+1)->(∀j,j<o->n j≠c)->j9 c∈Z:=λO hn=>by rw[U];refine Na.mpr ⟨c,Nf.mpr ⟨Mn.mpr O,?_⟩,rfl⟩;simp only[Oe,decide_eq_false_iff_not,Na,Mn];rintro⟨j,f,h⟩;exact hn j f ⋯
  have on i:i<wd k->(nx i).isSome=(m8 r l i).isNone:=λd=>by
   cases b:m8 r l i with
   | none=>
    obtain⟨c,f,h⟩:=g2 i d<|J1 b;cases I:nx i with
    |some y=>rfl
    |none=>
     have:=(hr i d hw).1 I c f;rw[KN b]at this;exact absurd this h
   | some j=>
    obtain⟨f,h⟩:=ke b;cases I:nx i with
    |none=>rfl
    |some y=>
     obtain⟨e,c,J,W⟩:=(hr i d hw).2 y I;have z:=g1 j f c J;rw[<-km (λa _=>Jd (B:=B) (r:=r) (l:=l) hk b a) c,e c J]at z;exact absurd z W
  refine⟨λy I c O=>?_,(λy I z=>by cases z),λv=>F _ (λc O x=>?_) (λc O x=>.gen (.inr<|b0 c O x)) v,?_⟩
  ·rw[U]at I
   obtain⟨i,_,rfl⟩:=Na.mp I;unfold j9;split<;>lia
  ·have b:m8 r l c=da:=by
    cases b:m8 r l c with
    |none=>rfl
    |some j=>exact absurd (ke b).2 (x j (ke b).1)
   have m:=on c O;rw[b]at m;obtain⟨y,I⟩:=Ny.mp m;refine(Span.gen<|.inl ⟨c,O,I⟩).congr λi d=>?_;have:=((hr c O hw).2 y I).1 i d;rw[KN b]at this;exact this
  ·have E:(Ml<|wd k).countP (λi=>(nx i).isSome)=(Ml<|wd k).countP λi=> !(m8 r l i).isSome:=Pa λi d=>by
    rw[on i (Mn.mp d)];cases m8 r l i<;>simp
   have Q:=lG (λi=>(m8 r l i).isSome)<|wd k;rw[Ys hb]at Q;have R:=lG (λi=>(m8 o n i).isSome)<|wd<|k+1;rw[Ys G]at R;have S:Z.length=(Ml<|wd<|k+1).countP λi=> !(m8 o n i).isSome:=by
    rw[U,MN,<-Oi];refine Pa λi d=>?_;cases b:m8 o n i with
    | none=>
     have:=J1 b;simp only[Oe,decide_eq_false_iff_not,Na,Mn];constructor
     ·intro _;rfl
     ·rintro _ ⟨j,f,h⟩
      exact this j f ⋯
    |some j=>
     obtain⟨f,h⟩:=ke b;simp only[Oe,decide_eq_false_iff_not,Na,Mn];constructor
     ·intro z;exact absurd ⟨j,f,by rw[h]⟩ z
     ·intro z;cases z
   rw[E,S];lia
 | true=>
  have u t:Span p (wd k) (eK r B) t↔Span p (wd k) (eK (wd<|k+1) λj i=>T k i j) (app (λi j=>(A j).v k i) (wd k) t):=by have:=hW t;unfold Bd at this;rw[hw,UJ rfl]at this;exact this
  unfold me at hn;rw[hw,UJ rfl]at hn;obtain⟨q,K,lK,s,U,L,H,M,N⟩:=hn;obtain⟨g1,g2,g3,F⟩:=BG hp (a5 k) (a5<|k+1) hs hb u H M N;have on i:i<wd k->(nx i).isSome=(m8 r l i).isSome:=λd=>by
   cases b:m8 r l i with
   | none=>
    cases I:nx i with
    |none=>rfl
    |some y=>
     have:=(hl i d hw).2 y I;rw[KN b]at this;exact absurd ⟨y,this⟩<|g2 i d<|J1 b
   | some j=>
    obtain⟨f,h⟩:=ke b;cases I:nx i with
    |some y=>rfl
    |none=>
     obtain⟨y,P⟩:=g1 j f;exact absurd ⟨y,λc O=>by rw[P c O,Jd hk b c]⟩<|(hl i d hw).1 I
  refine⟨λy I c O=>?_,λy I _ c O=>?_,λv=>F _ (λj=>(nx<|l j).getD λ_=>0) (λj Y=>?_) (λj Y=>?_) v,?_⟩
  ·rw[U]at I
   obtain⟨j,Y,rfl⟩:=Na.mp I;exact L.m4 j c (Mn.mp Y) O
  ·rw[U]at I
   obtain⟨j,Y,rfl⟩:=Na.mp I;exact(H<|K j).mp (.gen ⟨j,Mn.mp Y,rfl⟩) c O
  ·have b:=rF hb Y
   have C:=hb.lt j Y;have m:=on (l j) C;rw[b]at m;obtain⟨y,I⟩:=Ny.mp m;rw[I];refine⟨.gen<|.inl ⟨l j,C,I⟩,λc O=>?_⟩;have:=(hl (l j) C hw).2 y I c O;rw[Jd hk b c]at this;exact this
  ·refine .gen (.inr ?_)
   rw[U];exact Na.mpr ⟨j,Mn.mpr Y,rfl⟩
  ·have E:(Ml<|wd k).countP (λi=>(nx i).isSome)=(Ml<|wd k).countP λi=>(m8 r l i).isSome:=Pa λi d=>by
    rw[on i (Mn.mp d)]
   rw[E,Ys hb,U,MN,Od];lia
end
section
variable{wd:UX}{m k:Nat}{p:Int}{w:UK}{T:UW}
theorem Hh(y:Vc):qu wd (r6 k y)=.tup [.int ((k:Int)+1),.tup [.tup (zH (wd<|k+1) y)]]:=by unfold qu r6 yt;simp
theorem oG(hp:Pr p)(U:∀k,wd k<=16)(hm:m<=5)(al:k<m)(hT:∀i j,i<eA w wd k->j<ez w wd k->0<=T k i j/\T k i j<p){eL:List g8}(I:Dd p w wd T k eL)(as:eL.length<=100):
 ∃a7,Dd p w wd T (k+1) a7/\a7.length<=eL.length+wd (k+1)/\XE [zK p m w wd T,.int k,.lst (eL.map<|qu wd)]=cq (.val<|.lst<|a7.map<|qu wd):=by
 have hl:=jk;have Q:=hp.pos;have J:eL.length<=lim:=⋯
 have E:(eL.filter λb=>b.has k).length=wd k:=by rw[<-Oi];exact I.ct k<|Mq _
 let A:Nat->g8:=λj=>(eL.filter λb=>b.has k).getD j ml;have M:(eL.filter λb=>b.has k)=(Ml<|wd k).map A:=by rw[<-E];exact(qf ml _).symm
 have P j:j<wd k->A j∈eL/\(A j).has k=cI:=λO=>by
  have:A j∈eL.filter λb=>b.has k:=by show(eL.filter λb=>b.has k).getD j ml∈_;rw[Mz,Mp ⋯];exact Rx _
  have:=Nf.mp this;exact⟨this.1,by simpa using this.2⟩
 have F j:j<wd k->t5 p w wd T k (A j):=λO=>I.ok _ (P j O).1;have hO i c:i<c->c<wd k->Ord w (A i) (A c):=λd s=>by have:=PD.mp I.od i c ⋯ ⋯ d;show Ord w ((eL.filter λb=>b.has k).getD i ml) ((eL.filter λb=>b.has k).getD c ml);rw[Mz,Mp ⋯,Mz,Mp ⋯];exact this
 have C j:j<wd k->(A j).has k=cI:=λO=>(P j O).2;obtain⟨r,B,l,G,hW,eS⟩:=cJ (T:=T) (w:=w) (A:=A) (N:=wd k) (k:=k) hp (λj O=>by have:=(F j O).le;lia) C al (U k) hm U λj rm i O hh a=>(F j O).m4 rm i hh a;have i9 i:i<wd k->t5 p w wd T k (h9 p A (wd k) r B l i):=λa=>pM Q G F C hO a;have ap i:i<wd k->(h9 p A (wd k) r B l i).has k=cI:=λa=>by rw[Wl];exact C i a
 have ex:∀i,∃o:Option Vc,i<wd k->(x9 [.int p,vD w wd T k,.tup (zH (wd k)<|(h9 p A (wd k) r B l i).v k)]=cq (.val<|oD (wd<|k+1) o)/\(∀y,o=cq y->∀c,c<wd (k+1)->0<=y c/\y c<p)/\
  (w k=di->(o=da->∀c,c<wd (k+1)->app (T k) (wd k) ((h9 p A (wd k) r B l i).v k) c%p=0)/\∀y,o=cq y->(∀c,c<wd (k+1)->app (T k) (wd k) ((h9 p A (wd k) r B l i).v k) c%p=y c%p)/\∃c,c<wd (k+1)/\y c%p≠0)/\
  (w k=cI->(o=da->¬∃y:Vc,∀c,c<wd k->app (T k) (wd<|k+1) y c%p=(h9 p A (wd k) r B l i).v k c%p)/\∀y,o=cq y->∀c,c<wd k->app (T k) (wd<|k+1) y c%p=(h9 p A (wd k) r B l i).v k c%p)):=λi=>by
  by_cases a:i<wd k
  ·obtain⟨o,h⟩:=Vn (T:=T) (w:=w) (k:=k) hp U hT ((h9 p A (wd k) r B l i).v k) λc hc=>(i9 i a).m4 k c (ap i a) hc
   exact⟨o,λ_=>h⟩
  ·exact⟨da,λz=>absurd z a⟩
 obtain⟨nx,Z⟩:=Sb ex;obtain⟨Y,hN,eN⟩:=Vo (T:=T) (w:=w) (k:=k) hp U;have hs:∀v:Vc,∃t,∀i,i<wd k->v i%p=app (λi j=>(A j).v k i) (wd k) t i%p:=λv=>by
  have hv:Span p (wd k) (eK (wd k) λj=>(A j).v k) v:=(I.sp k (Mq _) v).le λg hg=>by obtain⟨b,d,s,rfl⟩:=hg;have K:b∈eL.filter λb=>b.has k:=Nf.mpr ⟨d,by simpa using s⟩;rw[M]at K;obtain⟨j,O,rfl⟩:=Na.mp K;exact .gen ⟨j,Mn.mp O,rfl⟩
  obtain⟨t,ht⟩:=QF hv;exact⟨t,λi a=>by rw[ht i a];unfold app;rw[yG]⟩
 obtain⟨f1,f2,f3,f4⟩:=dJ (T:=T) (w:=w) (A:=A) hp U C hs G hW hN (nx:=nx) (λi a=>(Z i a).2.2.1) λi a=>(Z i a).2.2.2;refine⟨w5 p k w eL A (wd k) r B l nx Y,iR Q I E (λ_=>rfl) G (λi y a e=>(Z i a).2.1 y e) f1 (λi a e f=>((Z i a).2.2.1 f).1 e) (λi y a e f=>(((Z i a).2.2.1 f).2 y e).1) (λi y a e f=>((Z i a).2.2.2 f).2 y e) f2 f3 f4,?_,?_⟩
 ·have d:(eL.filter λb=> !b.has k).length+wd k=eL.length:=by
   have:=TM (λb:g8=>b.has k) (l:=eL);rw[<-E,<-Oi,<-Oi,this];have e:eL.countP (λb=> !b.has k)=eL.countP λb=>decide (¬b.has k=cI):=Pa λb _=>by simp
   rw[e];lia
  unfold w5;rw[Nv];cases w k<;>simp<;>lia
 ·
  let L:D:=.lst (eL.map<|qu wd);have W:zT (.nm 0) (QJ<|sB<|zD j8<|zb (zg 0)<|zb (zg 1) zB) (zg 0) [.no,vI k] (eL.map<|qu wd)=cq ((eL.filter λb=> !b.has k).map (qu wd)):=by refine jV (g:=qu wd) (λb=> !b.has k) (qu wd) eL λb H=>⟨[.val (qu wd b),vI k],rfl,?_,λ_=>by rfl⟩;have e:=vh (wd:=wd) (b:=b) (by have:=(I.ok b H).le;lia) k;simp[e]
  have X:zT (.nm 0) (sB<|zD j8<|zb (zg 0)<|zb (zg 1) zB) (zg 0) [.no,vI k] (eL.map<|qu wd)=cq ((Ml<|wd k).map λj=>qu wd<|A j):=by
   have:((eL.filter λb=>b.has k).map (qu wd))=(Ml<|wd k).map λj=>qu wd (A j):=by rw[M,Nh];rfl
   rw[<-this];refine jV (g:=qu wd) (λb=>b.has k) (qu wd) eL λb H=>⟨[.val (qu wd b),vI k],rfl,?_,λ_=>by rfl⟩;have e:=vh (wd:=wd) (b:=b) (by have:=(I.ok b H).le;lia) k;simp[e]
  have e5:zT (.nm 0) jO (zD yP<|zb (zg 1)<|zb (zg 2)<|zb (zg 0) zB) [.no,vI p,.val (vD w wd T k)] ((Ml<|wd k).map λi=>qu wd<|h9 p A (wd k) r B l i)=cq ((Ml<|wd k).map λi=>qu wd<|l7 k (h9 p A (wd k) r B l i)<|nx i):=by refine zw _ _ λi a=>zy rfl rfl ?_;have a:=Mn.mp a;have d:=o9.mp<|ap i a;have e:=mI (p:=p) (i9 i a).n1 (by have:=(i9 i a).le;lia) (⋯:k<=20) (Z i a).1;simp[e]
  have e6:zT (.nm 0) jO (qC<|zb (zG jX (zg 1)<|sI 1)<|zb (qC<|zb (zg 0) zB) zB) [.no,vI k] (Y.map λy=>D.tup<|zH (wd<|k+1) y)=cq ((Y.map<|r6 k).map (qu wd)):=by rw[Nh];refine zw _ _ λy hy=>zy rfl rfl ?_;show _=cq (qu wd<|r6 k y);rw[Hh];rfl
  have R:Y.length<=lim:=by have:=U<|k+1;lia
  have S:wd k<=lim:=by have:=U k;lia
  let n:D:=.lst ((eL.filter λb=> !b.has k).map (qu wd));let x:D:=.lst ((Ml<|wd k).map λi=>qu wd<|h9 p A (wd k) r B l i);let u:D:=.lst ((Ml<|wd k).map λi=>qu wd<|l7 k (h9 p A (wd k) r B l i)<|nx i);let Ne:D:=.lst ((Y.map<|r6 k).map (qu wd));rw[XE];refine zW (zh (γ':=[.val (zK p m w wd T),vI k,.val L,vI p,.no,.no,.no,.no,.no]) ?_
   (zh (γ':=[.val (zK p m w wd T),vI k,.val L,vI p,.val<|vD w wd T k,.no,.no,.no,.no]) ?_
   (zh (γ':=[.val (zK p m w wd T),vI k,.val L,vI p,.val<|vD w wd T k,.val n,.no,.no,.no]) ?_
   (zh (γ':=[.val (zK p m w wd T),vI k,.val L,vI p,.val<|vD w wd T k,.val n,.val x,.no,.no]) ?_
   (zh (γ':=[.val (zK p m w wd T),vI k,.val L,vI p,.val<|vD w wd T k,.val n,.val x,.val u,.no]) ?_
   (zh (γ':=[.val (zK p m w wd T),vI k,.val L,vI p,.val<|vD w wd T k,.val n,.val x,.val u,.val Ne]) ?_ ?_))))))
  ·simp[D_,zN,Mm,vN,L]
  ·simp[E_,vN,Xw,al]
  ·simp[F',jm,L,J,W,n]
  ·simp[F_,jm,L,J,X,eS,x]
  ·simp[G_,jm,x,S,e5,u]
  ·simp[H_,jm,eN,R]
   rw[e6];simp[Ne]
  ·have c1:(eL.filter λb=> !b.has k).length<=100:=Nl (List.length_filter_le _ _) as
   have q1:=U k;have q2:=U<|k+1;cases f:w k with
   |false=>
    have eq:=Yo di;have d:Y.length+wd k<=lim:=⋯
    have s:(eL.filter λb=> !b.has k).length+(Y.length+wd k)<=lim:=⋯
    simp[UO,yM,f,eq,n,u,Ne,w5,d,s]
   |true=>
    have eq:=Yo cI;have d:wd k+Y.length<=lim:=⋯
    have s:(eL.filter λb=> !b.has k).length+(wd k+Y.length)<=lim:=⋯
    simp[UO,yM,f,eq,n,u,Ne,w5,d,s]
end
section
variable{wd:UX}{m k:Nat}{p:Int}{w:UK}{T:UW}
def mq(c:Nat):g8:=⟨0,1,λ_=>j9 c⟩
theorem Am(Z:Pr p):Dd p w wd T 0 ((Ml<|wd 0).map mq):=by
 have two:=Z.two;have a b:b∈(Ml<|wd 0).map mq ↔ ∃c,c<wd 0/\b=mq c:=by rw[Na];exact⟨λ⟨c,d,I⟩=>⟨c,Mn.mp d,I.symm⟩,λ⟨c,d,I⟩=>⟨c,Mn.mpr d,I.symm⟩⟩
 have Y c:(mq c).has 0=cI:=o9.mpr ⟨Mq _,by show 0<0+1;lia⟩;refine⟨λb O=>?_,λr f v=>?_,λr f=>?_,?_⟩
 ·obtain⟨c,U,rfl⟩:=(a b).mp O
  exact⟨Mq _,by show 0+1<=0+1;lia,λr i _ _=>by show 0<=j9 c i/\j9 c i<p;unfold j9;split<;>lia,λj h=>by lia⟩
 ·have:r=0:=⋯
  subst this;refine(VE (wd 0) v).le λg e=>?_;obtain⟨c,U,rfl⟩:=e;exact .gen ⟨mq c,(a _).mpr ⟨c,U,rfl⟩,Y c,rfl⟩
 ·have:r=0:=⋯
  subst this;rw[List.countP_eq_length.mpr λb O=>?_]
  ·simp
  ·obtain⟨c,U,rfl⟩:=(a b).mp O
   exact Y c
 ·refine Sr _ ?_
  rw[Rp];exact PD.mpr λ_ _ _ _ _=>⟨λz=>absurd z<|Nq 0,λz=>absurd z<|Nq 0⟩
def ix(b:g8):Int×Int:=((b.s:Int),((b.s+b.n-1:Nat):Int))
theorem ik:∀z:List g8,(∀b,b∈z->1<=b.n/\b.s+b.n<=100)->Vv qb (z.map<|qu wd)=cq (z.map ix)
 |[],_=>rfl
 |b::z,h=>by have a:=h b MS;have e:=Kg (wd:=wd) a.1 a.2;have I:=ik z λb O=>h b<|MO _ O;simp only[MT,Vv,e,I,Mx];rfl
def yB(z:List g8):List g8:=(yJ<|z.map ix).map λi=>z.getD i ml
theorem YX(z:List g8):(yB z).Perm z:=by have h:=kR<|z.map ix;rw[MN]at h;have:=h.map λi=>z.getD i ml;rw[qf]at this;exact this
theorem Yw{b:Nat}(Y:Pr p)(O:b<=16)(al:b*(m+1)<=48)(U:∀k,wd k<=b)(hm:m<=5)(hT:∀k i j,k<m->i<eA w wd k->j<ez w wd k->0<=T k i j/\T k i j<p):
 ∃z,Dd p w wd T m z/\z.length<=48/\vy [zK p m w wd T]=cq (.own<|(yB z).map (qu wd)):=by
 have L:=jk;have K:=U 0;have t k:wd k<=16:=Nl (U k) O;have Z:wd 0<=lim:=⋯
 have B:=yQ (n:=wd 0) Z;have r:jD (jR (wd 0) (wd 0) λi j=>if i=j then 1 else 0)=cq (.T,[.int (wd 0:Nat),.int (wd 0:Nat),.tup (zP (wd 0) (wd 0) λi j=>if i=j then 1 else 0)]):=rfl;have x:zT (.nm 0) jO (qC<|zb (sI 0)<|zb (qC<|zb (zg 0) zB) zB) [.no] (zP (wd 0) (wd 0) λi j=>if i=j then 1 else 0)=cq (((Ml<|wd 0).map mq).map (qu wd)):=by rw[Nh];unfold zP;refine zw _ _ λi a=>zy rfl rfl ?_;show cq _=cq (qu wd<|mq i);unfold qu mq yt;simp;rfl
 have E:UC (zN 3 [zK p m w wd T])=cq (.next [.val (zK p m w wd T),.val<|.lst<|((Ml<|wd 0).map mq).map (qu wd),.no]):=by simp[UC,zN,Mm,vN,B,r,jm,Z];rw[x];simp
 obtain⟨H,G,z,c,I,u,rfl⟩:=kT (T:=.nm 2) (F:=jG 1<|zD XE<|zb (zg 0)<|zb (zg 2)<|zb (zg 1) zB) (f:=JP<|zC<|dj (zm 0)<|sI 2)
  (λj γ=>∃z c,Dd p w wd T j z/\z.length<=b*(j+1)/\γ=[.val (zK p m w wd T),.val<|.lst<|z.map<|qu wd,c]) m ⋯ (γ:=[.val (zK p m w wd T),.val<|.lst<|((Ml<|wd 0).map mq).map (qu wd),.no])
  (by simp[vN]) ⟨_,_,Am Y,by simp;lia,rfl⟩ λs l γ d=>by obtain⟨z,c,I,u,rfl⟩:=d;obtain⟨g,o,J,e⟩:=oG (T:=T) (w:=w) (k:=s) Y t hm l (hT s · · l) I (by have:=Nat.mul_le_mul_left b (⋯:s+1<=m+1);lia);refine⟨_,[.val (zK p m w wd T),.val<|.lst<|g.map<|qu wd,vI s],rfl,?_,g,_,o,by have:=U<|s+1;rw[Nat.mul_succ b (s+1)];lia,rfl⟩;simp[e]
 refine⟨z,I,⋯,?_⟩;have A:=ik (wd:=wd) z λb O=>⟨(I.ok b O).n1,by have:=(I.ok b O).le;lia⟩;rw[vy];refine zW<|zh E<|zh (show t_ _=_ from G) ?_;have ad:z.length<64:=⋯
 unfold u_;have y:fO qb (zm 1) [.val (zK p m w wd T),.val<|.lst<|z.map<|qu wd,c]=cq ((yB z).map (qu wd)):=by show((Vv qb<|z.map<|qu wd).bind λC=>if (z.map<|qu wd).length<64 then cq ((yJ C).map λi=>(z.map<|qu wd).getD i .ej)else da)=_;rw[A];simp only[Mx,MN,ad,if_true];congr 1;unfold yB;rw[Nh];refine MI λi a=>?_;have h:=kR<|z.map ix;have a:=Mn.mp<|h.mem_iff.mp a;rw[MN]at a;simp[a]
 rw[AV,y];rfl
theorem Dd.perm(h:UD.Perm eL)(I:Dd p w wd T k eL):(∀b,b∈UD->t5 p w wd T k b)/\(∀r,r<=k->∀v,Span p (wd r) (Li UD r) v)/\∀r,r<=k->UD.countP (λb=>b.has r)=wd r:=by
 refine⟨λb U=>I.ok b<|h.mem_iff.mp U,λr O v=>(I.sp r O v).le λg Y=>?_,λr O=>?_⟩
 ·obtain⟨b,a,Z,d⟩:=Y
  exact .gen ⟨b,h.mem_iff.mpr a,Z,d⟩
 ·rw[h.countP_eq];exact I.ct r O
end
def mK(m:Nat)(wd:UX)(f:UW):List TB:=(Ml<|m+1).map λk=>(wd k,wd k,f k)
theorem fB(m wd f):(mK m wd f).map tD=vK (m+1) wd f:=by unfold mK vK;rw[Nh];rfl
section
variable{p:Int}{n:Nat}
theorem mj(z:Pr p)(hn:n<=20)(f:UV):∃r B l,il p (n+n) r B l/\(∀v,Span p (n+n) (eK r B) v↔Span p (n+n) (eK n λi=>yu n (f i)<|j9 i) v)/\
 yj [.int p,jR n n f]=cq (.val<|if jn (.lst<|zP r n B) (.lst<|zP n n j9)=cI then .tup [.int n,.int n,.tup (zP r n λk j=>B k<|n+j)]else .ej):=by
 have A:=jk;have I:n<=lim:=⋯
 have m:n+n<=lim:=⋯
 obtain⟨r,B,l,e,O,o⟩:=wC z (⋯:n+n<=100) I .L λi=>yu n (f i)<|j9 i;refine⟨r,B,l,O,o,?_⟩;have U:r<=lim:=by have:r<=n+n:=WI O.mono O.lt;lia
 have Y:=yQ (n:=n) I;have a:zT (.tp [0,1]) jO (zG jX (zg 0)<|zg 1) [Cell.no,Cell.no] ((Ml n).map λi=>D.tup [.tup (zH n<|f i),.tup (zH n λk=>if i=k then 1 else 0)])=cq (zP n (n+n) λi=>yu n (f i)<|j9 i):=by unfold zP;refine zw _ _ λj y=>zy rfl rfl ?_;simp[jX,m,wU];rfl
 have Z:=aa n n f λi j=>if i=j then 1 else 0;have t:((n:Int)+(n:Int))=((n+n:Nat):Int):=⋯
 simp only[su]at e;rw[<-t]at e;have d:zT (.nm 0) jO (aC (zg 0) Wp<|ro<|zg 1) [Cell.no,vI n] (zP r (n+n) B)=cq (zP r n B):=by unfold zP;refine zw _ _ λk u=>zy rfl rfl ?_;simp[bD]
 have s:zT (.nm 0) jO (aC (zg 0) (ro<|zg 1) Wp) [Cell.no,vI n] (zP r (n+n) B)=cq (zP r n λk j=>B k<|n+j):=by unfold zP;refine zw _ _ λk u=>zy rfl rfl ?_;simp[bC]
 have b:mc (.lst<|zP r n B) (.lst<|zP n n λi j=>if i=j then 1 else 0)=cq (.bl<|!jn (.lst<|zP r n B) (.lst<|zP n n j9)):=by unfold mc;rw[UJ ⟨aS _ _ _,aS _ _ _⟩];rfl
 have g:∀(h w:Nat) (f:UV),jD (jR h w f)=cq (.T,[.int h,.int w,.tup (zP h w f)]):=λ_ _ _=>rfl;by_cases q:jn (.lst<|zP r n B) (.lst<|zP n n j9)=cI
 ·rw[q]at b
  rw[UJ q];simp[yj,jv,zN,jK,g,Y,Z,I,U,jm,xT,Mm,a,e,d,s,b]
 ·have x:jn (.lst<|zP r n B) (.lst<|zP n n j9)=di:=by simpa using q
  rw[x]at b;rw[UY q];simp[yj,jv,zN,jK,g,Y,Z,I,U,jm,xT,Mm,a,e,d,b]
theorem W9(Z:Pr p)(hn:n<=20)(h1:sg p n f g)(h2:sg p n g f)(bg:∀i j,i<n->j<n->0<=g i j/\g i j<p):yj [.int p,jR n n f]=cq (.val<|jR n n g):=by
 obtain⟨r,B,l,A,h,e⟩:=mj Z hn f;have two:=Z.two;have w:il p (n+n) n (λk=>yu n (j9 k)<|g k) id:={
  lt:=λk I=>by simp only[id];lia
  mono:=λk m I _=>I
  one:=λk I=>by simp only[id];rw[qm I];exact UJ rfl
  m6:=λk j I U=>by simp only[id]at U;rw[qm ⋯];exact UY ⋯
  wy:=λk m I C Y=>by simp only[id];rw[qm C];exact UY ⋯
  m4:=λk i I a=>by
   rcases MQ i n with z|z
   ·rw[qm z];unfold j9;split<;>lia
   ·obtain⟨j,rfl⟩:∃j,i=n+j:=⟨i-n,⋯⟩
    rw[qH];exact bg k j I ⋯}
 have o v:Span p (n+n) (eK n λk=>yu n (j9 k)<|g k) v->Span p (n+n) (eK n λi=>yu n (f i)<|j9 i) v:=λO=>O.le λs d=>by
  obtain⟨k,I,b⟩:=d;subst b;refine(Span.sum (u:=λi=>yu n (f i)<|j9 i) (λi=>g k i) (m:=n) λi a=>.gen ⟨i,a,rfl⟩).congr λj U=>?_;rcases MQ j n with z|z
  ·simp only[qm z]
   exact(h2 k j I z).symm
  ·obtain⟨m,rfl⟩:∃m,j=n+m:=⟨j-n,⋯⟩
   simp only[qH];rw[jB (i:=m) ⋯ λi _ Y=>by simp[j9,Y]];simp[j9]
 have t v:Span p (n+n) (eK n λi=>yu n (f i)<|j9 i) v->Span p (n+n) (eK n λk=>yu n (j9 k)<|g k) v:=λO=>O.le λs d=>by
  obtain⟨i,a,b⟩:=d;subst b;refine(Span.sum (u:=λk=>yu n (j9 k)<|g k) (λk=>f i k) (m:=n) λk I=>.gen ⟨k,I,rfl⟩).congr λj U=>?_;rcases MQ j n with z|z
  ·simp only[qm z]
   rw[jB (i:=j) z λk _ Y=>by simp[j9,Y]];simp[j9]
  ·obtain⟨m,rfl⟩:∃m,j=n+m:=⟨j-n,⋯⟩
   simp only[qH];exact(h1 i m a ⋯).symm
 obtain⟨rfl,_,u⟩:=Xu Z A w (λv O=>t v<|(h v).mp O)<|λv O=>(h v).mpr (o v O);have x:zP r r B=zP r r j9:=Yq λk i I a=>by rw[u k i I ⋯,qm a]
 have y:zP r r (λk j=>B k<|r+j)=zP r r g:=Yq λk j I U=>by rw[u k (r+j) I ⋯,qH]
 rw[e,x,UJ<|Ol _,y];rfl
end
section
variable{wd:UX}{m k N:Nat}{p:Int}{w:UK}{T:UW}{A:Nat->g8}
def En(A:Nat->g8)(N r:Nat):List Nat:=(Ml N).filter λj=>(A j).has r
def Xv(A:Nat->g8)(N r:Nat):Nat->Nat->Int:=λi j=>(A<|(En A N r).getD j 0).v r i
theorem YO(I:Pr p)(hn:n<=16)(hs:∀v:Vc,∃t,∀i,i<n->v i%p=app f n t i%p):∃g:UV,sg p n f g/\sg p n g f/\∀i j,0<=g i j/\g i j<p:=by
 have o:=I.pos;obtain⟨t,O⟩:=Sb λj=>hs<|j9 j;refine⟨λi j=>t j i%p,?_,?_,λi j=>⟨Nj _ ⋯,Ng _ o⟩⟩
 ·intro i j d U
  have e:zq (λk=>f i k*(t j k%p)) n%p=app f n (t j) i%p:=jC λk _=>Vq p _ _;rw[e,<-O j i d];unfold j9 R9;simp only[eq_comm]
 ·intro i j d U
  have z a:a<n->app f n (λb=>zq (λk=>(t k b%p)*f k j) n-j9 j b) a%p=0:=λh=>by
   rw[Xx,J6 f U,OP];have e:app f n (λb=>zq (λk=>(t k b%p)*f k j) n) a%p=f a j%p:=by
    have l:app f n (λb=>zq (λk=>(t k b%p)*f k j) n) a=zq (λk=>f k j*app f n (λb=>t k b%p) a) n:=by rw[<-Zu];congr 1;funext b;exact yG ..
    rw[l];have Y:zq (λk=>f k j*app f n (λb=>t k b%p) a) n%p=zq (λk=>f k j*j9 k a) n%p:=jC λk _=>by rw[MK,km (u:=t k) (λb _=>ND _ _) a,<-O k a h,<-MK]
    rw[Y,jB (f:=λk=>f k j*j9 k a) h λk _ Z=>by simp[j9,Z]];simp[j9]
   rw[e];simp
  have:=Xk I hn hs z i d;have m:(zq (λk=>(t k i%p)*f k j) n)%p=j9 j i%p:=Te.mpr this;show zq (λk=>(t k i%p)*f k j) n%p=R9 i j%p;rw[m];unfold j9 R9;simp only[eq_comm]
theorem dY{b:Nat}(hp:Pr p)(hb:b<=16)(ad:b*(m+1)<=48)(Z:∀k,wd k<=b)(hm:m<=5)(hT:∀k i j,k<m->i<eA w wd k->j<ez w wd k->0<=T k i j/\T k i j<p):
 ∃(N:Nat) (A:Nat->g8) (g:UW),N<=48/\(∀j,j<N->t5 p w wd T m (A j))/\(∀r,r<=m->(En A N r).length=wd r)/\(∀r,r<=m->sg p (wd r) (Xv A N r) (g r)/\sg p (wd r) (g r) (Xv A N r)/\∀i j,0<=g r i j/\g r i j<p)/\
  (∃eL:List g8,((Ml N).map λj=>ix<|A j)=(yB eL).map ix)/\
  xK [zK p m w wd T]=cq (.val<|ZG ((Ml N).map λj=>ix<|A j) (mK m wd g)<|mK m wd λr=>Xv A N r):=by
 have hl:=jk;obtain⟨eL,I,F,C⟩:=Yw (T:=T) (w:=w) hp hb ad Z hm hT;obtain⟨ok,sp,P⟩:=I.perm<|YX eL;have G:(yB eL).length=eL.length:=(YX eL).length_eq;let A:Nat->g8:=λj=>(yB eL).getD j ml;have Y:yB eL=(Ml eL.length).map A:=by rw[<-G];exact(qf ml _).symm
 have f j:j<eL.length->t5 p w wd T m (A j):=λU=>ok _ (by
  rw[Y];exact Na.mpr ⟨j,Mn.mpr U,rfl⟩)
 have cnt r:r<=m->(En A eL.length r).length=wd r:=λO=>by have:=P r O;rw[Y,List.countP_map,Oi]at this;exact this
 have H r:r<=m->∀v:Vc,∃t,∀i,i<wd r->v i%p=app (Xv A eL.length r) (wd r) t i%p:=λO v=>by
  have hv:Span p (wd r) (eK (wd r) λj i=>Xv A eL.length r i j) v:=(sp r O v).le λgg d=>by obtain⟨b,a,o,rfl⟩:=d;rw[Y]at a;obtain⟨j,U,rfl⟩:=Na.mp a;have J:j∈En A eL.length r:=Nf.mpr ⟨U,by simpa using o⟩;obtain⟨i,E,e⟩:=List.getElem_of_mem J;refine .gen ⟨i,by rw[<-cnt r O];exact E,?_⟩;funext c;show(A j).v r c=(A<|(En A eL.length r).getD i 0).v r c;rw[Mz,Mp E];simp[e]
  exact Dl.mp hv
 have K r:∃g:UV,r<=m->sg p (wd r) (Xv A eL.length r) g/\sg p (wd r) g (Xv A eL.length r)/\∀i j,0<=g i j/\g i j<p:=by
  by_cases O:r<=m
  ·obtain⟨g,h⟩:=YO hp (Nl (Z r) hb) (H r O)
   exact⟨g,λ_=>h⟩
  ·exact⟨λ_ _=>0,λz=>absurd z O⟩
 obtain⟨g,d⟩:=Sb K;have S:(yB eL).map ix=(Ml eL.length).map λj=>ix (A j):=by
  conv=>lhs;rw[Y,Nh]
  rfl
 refine⟨eL.length,A,g,F,f,cnt,d,⟨eL,S.symm⟩,?_⟩
 ·have u:eL.length<=lim:=⋯
  have W:((yB eL).map (qu wd))=(Ml eL.length).map λj=>qu wd (A j):=by
   conv=>lhs;rw[Y,Nh]
   rfl
  rw[W]at C;let L:D:=.lst ((Ml eL.length).map λj=>qu wd<|A j);have x j:j<eL.length->(A j).s+(A j).n<=100:=λU=>by have:=(f j U).le;lia
  have Q:zT (.tp [0,1]) jO (zD yi<|zb (zg 1)<|zb (jU<|jf xu<|zb (zg 2)<|zb (zg 0) zB) zB) [.no,.no,.val L] ((Ml<|m+1).map λ(i:Nat)=>D.tup [.int i,.int (wd i:Nat)])=cq (vK (m+1) wd λr=>Xv A eL.length r):=by unfold vK;refine zw _ _ λr O=>zy rfl rfl ?_;have O:=Mn.mp O;have B:=Zq (wd:=wd) x u r;rw[aW (wd r) (λj=>(A j).v r),show((Ml eL.length).filter λj=>(A j).has r)=En A eL.length r from rfl,cnt r ⋯]at B;have b7:=Z r;have l:=Jx (q:=wd r) (h:=wd r) (λi=>(A<|(En A eL.length r).getD i 0).v r) ⋯ ⋯;simp[-Mz,L,B,l];rfl
  have l:zT (.nm 0) jO (zD yj<|zb (dj (zm 1)<|sI 0)<|zb (zg 0) zB) [.no,.val (zK p m w wd T)] (vK (m+1) wd λr=>Xv A eL.length r)=cq (vK (m+1) wd g):=by unfold vK;refine zw _ _ λr O=>zy rfl rfl ?_;have O:=Mn.mp O;obtain⟨a,o,h3⟩:=d r ⋯;have e:=W9 hp (n:=wd r) (by have:=Z r;lia) a o λi j _ _=>h3 i j;simp[vN,e]
  have R:zT (.nm 0) jO (zD qb<|zb (zg 0) zB) [.no] ((Ml eL.length).map λj=>qu wd<|A j)=cq (yd<|(Ml eL.length).map λj=>ix<|A j):=by unfold yd;rw[Nh];refine zw _ _ λj U=>zy rfl rfl ?_;have U:=Mn.mp U;have e:=Kg (wd:=wd) (f j U).n1 (x j U);simp[e];exact⟨rfl,rfl⟩
  have X:qU (zH (m+1) λk=>(wd k:Int))=(Ml<|m+1).map λ(i:Nat)=>D.tup [.int i,.int (wd i:Nat)]:=bt _ _;have y:m+1<=lim:=⋯
  have M:∀g:UW,(vK (m+1) wd g).length=m+1:=λg=>by simp[vK]
  rw[xK];refine zW<|zh (γ':=[.val (zK p m w wd T),.val L,.no,.no]) ?_ (zh (γ':=[.val (zK p m w wd T),.val L,.val<|.lst<|vK (m+1) wd λr=>Xv A eL.length r,.no]) ?_ (zh (γ':=[.val (zK p m w wd T),.val L,.val<|.lst<|vK (m+1) wd λr=>Xv A eL.length r,.val (.lst<|vK (m+1) wd g)]) ?_ ?_))
  ·simp[w_,zN,Mm,C,L]
  ·simp[x',jm,vN,X,y,Q]
  ·simp[x_,jm,M,y,l]
  ·unfold ZG
   rw[fB,fB];simp[y',jm,L,u,R]
end
def mm:List Int->Int
 |[]=>0
 |x::r=>x+mm r
theorem QB:∀L:List Int,Wk (L.map D.int)=cq (mm L)
 |[]=>rfl
 |x::L=>by show(Wk<|L.map D.int).map _=_;rw[QB L];rfl
theorem Cy{c:Int}(h:0<=c):∃q:Nat,Pr (q:Int)/\([D.int 2,.int 3,.int 5,.int 7])[(c%4).toNat]? = cq (.int q)/\hM 4 (c%4)=cq (c%4).toNat:=by
 have a:=Nj c (show(4:Int)≠0 by decide);obtain⟨r,I⟩:=Rg a;rw[I];have O:r<4:=⋯
 rw[j6,UJ O,Oj];rcases (⋯:r=0\/r=1\/r=2\/r=3)with e|e|e|e<;>subst e
 ·exact⟨2,.inl rfl,rfl,rfl⟩
 ·exact⟨3,.inr<|.inl rfl,rfl,rfl⟩
 ·exact⟨5,.inr<|.inr<|.inl rfl,rfl,rfl⟩
 ·exact⟨7,.inr<|.inr<|.inr rfl,rfl,rfl⟩
def ki(ns:List Int)(t p few:Int)(w i j:Nat):Int:=Zs ns (t+(w:Int)*(i:Int)+(j:Int))/7%p*(if few<=Zs ns (t+(w:Int)*(i:Int)+(j:Int))/64%3 then 1 else 0)
theorem fC{ns:List Int}(z:ns.length<=63){t p few:Int}(ht:0<=t)(ak:t<1000)(hp:0<p)(am:p<10){h w:Nat}(hh:h<=10)(hw:w<=10):
 kg [VP ns,.int t,.int p,.int h,.int w,.int few]=cq (.own<|WO h w<|ki ns t p few w):=by
 have G:=jk;let γ:Cell->Cell->Cell->Cell->Cell->Ctx:=λU Y Z I O=>[.val (VP ns),vI t,vI p,vI h,vI w,vI few,U,Y,Z,I,O];have j:∀s (u:Nat->Int),zH (s+1) u=zH s u++[.int (u s)]:=λs u=>kK _ _;have l:∀(i:Nat) (U I O:Cell),i<10->∃b d,(Zk (jS<|zg 4) (.nm 9) oC) (γ U (vI i) (.own []) I O)=cq (.next<|γ U (vI i) (.own<|zH w<|ki ns t p few w i) b d):=by
  intro i U I O E;obtain⟨_,q,b,d,rfl⟩:=kT (T:=.nm 9) (F:=oC) (f:=zg 4) (γ:=γ U (vI i) (.own []) I O) (λs a=>∃I O,a=γ U (vI i) (.own<|zH s<|ki ns t p few w i) I O) w ⋯ rfl ⟨_,_,rfl⟩ (by
   rintro s A _ ⟨I,O,rfl⟩;have C:0<=(w:Int)*(i:Int)/\(w:Int)*(i:Int)<=100:=by have:w*i<=10*10:=Nat.mul_le_mul hw ⋯;rw[<-SU];lia
   obtain⟨y,_,_⟩:=W4 z (k:=t+(w:Int)*(i:Int)+(s:Int)) ⋯ ⋯;refine⟨_,γ U (vI i) (.own<|zH (s+1)<|ki ns t p few w i) (vI s)<|.val<|.int<|Zs ns<|t+(w:Int)*(i:Int)+(s:Int),rfl,?_,_,_,rfl⟩;have o:XM (w:Int) (i:Int)=cI:=ZR _ _ ⋯ ⋯;have e:s<lim:=⋯
   have m:∀x:Int,XM x 1=cI/\XM x 0=cI:=λx=>⟨Xt _ _ ⋯ ⋯,Xt _ _ ⋯ ⋯⟩;rw[j];by_cases g:few<=Zs ns (t+(w:Int)*(i:Int)+(s:Int))/64%3<;>simp[oC,γ,jK,y,o,hp,g,e,ZO,m,ki])
  exact⟨b,d,q⟩
 obtain⟨_,q,Y,Z,I,O,rfl⟩:=kT (T:=.nm 7) (F:=CU) (f:=zg 3) (γ:=γ (.own []) .no .no .no .no) (λs a=>∃Y Z I O,a=γ (.own<|WO s w<|ki ns t p few w) Y Z I O) h ⋯ rfl ⟨_,_,_,_,rfl⟩ (by
  rintro s A _ ⟨Y,Z,I,O,rfl⟩;obtain⟨r,n,B⟩:=l s (.own<|WO s w<|ki ns t p few w) I O ⋯;refine⟨_,γ (.own<|WO (s+1) w<|ki ns t p few w) (vI s) (.val<|.lst<|zH w<|ki ns t p few w s) r n,rfl,zh rfl<|zh B ?_,_,_,_,_,rfl⟩;have e:s<lim:=⋯
  rw[show WO (s+1) w (ki ns t p few w)=WO s w (ki ns t p few w)++[.lst (zH w<|ki ns t p few w s)]from kK _ _];simp[γ,BV,qh,e,Yg])
 exact zW<|zh rfl<|zh q rfl
theorem Ke{ns:List Int}{t p few:Int}(I:0<p){w i j:Nat}:0<=ki ns t p few w i j/\ki ns t p few w i j<p:=by unfold ki;have a:=Nj (Zs ns (t+(w:Int)*(i:Int)+(j:Int))/7) (⋯:p≠0);have O:=Ng (Zs ns (t+(w:Int)*(i:Int)+(j:Int))/7) I;split<;>lia
theorem V8{b:Nat}(hb:b<=6){ns:List Int}(z:ns.length<=63){t p few:Int}(ht:0<=t)(aq:t<100)(Z:0<p)(a5:p<10){m:Nat}(hm:m<=5)(w:UK):
 ∃wd T,(∀k,wd k<=b)/\(∀k i j,0<=T k i j/\T k i j<p)/\qd [VP ns,.int t,.int p,.str<|j7 m w,.int (b:Int),.int few]=cq (.val<|xi m w wd T):=by
 have N:=jk;have x:m+1<=lim:=⋯
 have n:(0:Int)<(b:Int)+1:=⋯
 obtain⟨wd,h⟩:∃wd:UX,∀k:Nat,(wd k:Int)=Zs ns (t+(k:Int))/3%((b:Int)+1):=⟨λk=>(Zs ns (t+(k:Int))/3%((b:Int)+1)).toNat,λk=>P8<|Nj _ ⋯⟩;have Y k:wd k<=b:=by have:=Ng (Zs ns (t+(k:Int))/3) n;have:=h k;lia
 let f:Nat->Nat->Nat->Int:=λk=>ki ns (t+5+9*(k:Int)) p few<|ez w wd k;refine⟨wd,f,Y,λk i j=>Ke Z,?_⟩;let V:=Cell.val<|.lst<|zH (m+1) λk=>(wd k:Int);let γ:Cell->Cell->Cell->Cell->Cell->Ctx:=λA B I O U=>[.val (VP ns),vI t,vI p,.val<|.str<|j7 m w,vI b,vI few,A,B,I,O,U];have K:zT (.nm 0) jO (zG wj (zG JI (zD j3<|zb (zg 1)<|zb (zG jX (zg 2)<|zg 0) zB)<|sI 3)<|zG jX (zg 3)<|sI 1) [Cell.no,Cell.val<|VP ns,vI t,vI b] (zH (m+1) λi=>(i:Int))=cq (zH (m+1) λk=>(wd k:Int)):=by unfold zH;refine zw _ _ λk o=>zy rfl rfl ?_;have o:=Mn.mp o;obtain⟨H,_,_⟩:=W4 z (k:=t+(k:Int)) ⋯ ⋯;simp[H,h,n]
 have wl:=yT m w;have l:=xl w (⋯:m<=1000);have r:inR ((m:Int)+1)=cI:=vY ⋯ ⋯;have e:((m:Int)+1).toNat=m+1:=⋯
 have dl:(zH (m+1) λk=>(wd k:Int)).length=m+1:=ZO _ _;obtain⟨_,q,I,O,U,rfl⟩:=kT (T:=.nm 8) (F:=se) (f:=vE<|zg 3) (γ:=γ V (.own []) .no .no .no) (λs g=>∃I O U,g=γ V (.own<|Zy s w wd f) I O U) m ⋯ (by simp[γ,wl,l]) ⟨_,_,_,rfl⟩ (by
  rintro s d _ ⟨I,O,U,rfl⟩;have J:=vq (w:=w) hm d;have u:=Ju (w:=w) d;have a:=Jy (w:=w) d;have L:=fC z (t:=t+5+9*(s:Int)) (p:=p) (few:=few) ⋯ ⋯ Z a5 (show eA w wd s<=10 by rw[<-qT];have:=Y<|xG w s;lia) (show ez w wd s<=10 by rw[<-xf];have:=Y<|xN w s;lia);refine⟨_,γ V (.own<|Zy (s+1) w wd f) (vI s) (.val<|.int ((xN w s:Nat):Int))<|vI<|xG w s,rfl,zh (γ':=γ V (.own<|Zy s w wd f) (vI s) (.val<|.int ((xN w s:Nat):Int))<|vI<|xG w s) (by simp[γ,J]) ?_,_,_,_,rfl⟩;have y:s<lim:=⋯
  have C:XM 9 (s:Int)=cI:=ZR _ _ ⋯ ⋯;have E:(zH (m+1) λk=>(wd k:Int))[xG w s]? = cq (.int (eA w wd s:Nat)):=by rw[<-qT];unfold zH;simp[u]
  have G:(zH (m+1) λk=>(wd k:Int))[xN w s]? = cq (.int (ez w wd s:Nat)):=by rw[<-xf];unfold zH;simp[a]
  have M:(Zy s w wd f).length=s:=by simp[Zy]
  rw[show Zy (s+1) w wd f=Zy s w wd f++[D.lst (WO (eA w wd s) (ez w wd s)<|f s)]from kK _ _];simp only[γ,V,Xy,V6,bK,jh,ZU,w6,ZV,KB,wx,xV,MW,Np,qg,jI,qh,Mx,Ni,pe,pd,C,if_true,jD,kE,dl,j6,u,a,E,G,L,Fw,M,y,List.set_cons_succ,List.set_cons_zero];rfl)
 have a:2<=lim:=⋯
 exact zW (zh (γ':=γ V .no .no .no .no) (by simp[γ,V,zN,Mm,wl,l,r,e,q8,jm,xT,x,K])<|zh rfl<|zh q<|by simp[γ,V,BV,qh,a,xi])
theorem uX{ns:List Int}(hn:ns.length<=63){p few:Int}(Z:0<p)(z:p<10){m:Nat}(hm:m<=4)(w:UK){wd wd':UX}(hw:∀k,wd k<=9)(a5:∀k,wd' k<=9)(T T':UW):
 ∃J,(∀k i j,0<=J k i j/\J k i j<p)/\kh [VP ns,.int 120,.int p,.str<|j7 m w,xi m w wd T,xi m w wd' T',.int few]=cq (.own<|jJ m w wd wd' J):=by
 have M:=jk;let f:Nat->Nat->Nat->Int:=λk=>ki ns (120+9*(k:Int)) p few<|ez w wd' k;refine⟨f,λk i j=>Ke Z,?_⟩;have wl:=yT m w;have n:=xl w (⋯:m<=1000);let γ:Cell->Cell->Cell->Cell->Cell->Ctx:=λr O U Y I=>[.val (VP ns),vI 120,vI p,.val<|.str<|j7 m w,.val<|xi m w wd T,.val<|xi m w wd' T',vI few,r,O,U,Y,I];obtain⟨_,q,O,U,Y,I,rfl⟩:=kT (T:=.nm 8) (F:=iA) (f:=vE<|zg 3) (γ:=γ (.own []) .no .no .no .no) (λs b=>∃O U Y I,b=γ (.own<|jJ s w wd wd' f) O U Y I) m ⋯ (by simp[γ,wl,n]) ⟨_,_,_,_,rfl⟩ (by
  rintro s a _ ⟨O,U,Y,I,rfl⟩;let S:=Cell.val<|.int (s:Int);let B:=Cell.val<|.int ((xN w s:Nat):Int);let E:=Cell.val<|.int ((xG w s:Nat):Int);let R:=Cell.val<|.lst<|WO (eA w wd s) (ez w wd' s)<|f s;have C:=vq (w:=w) (⋯:m<=5) a;have G:eA w wd s<=10:=by rw[<-qT];have:=hw<|xG w s;lia
  have L:=fC hn (t:=120+9*(s:Int)) (p:=p) (few:=few) ⋯ ⋯ Z z G (show ez w wd' s<=10 by rw[<-xf];have:=a5<|xN w s;lia);have e:=Ju (w:=w) a;have g:=Jy (w:=w) a;have dl:∀u:UX,(zH (m+1) λk=>(u k:Int)).length=m+1:=λu=>ZO _ _;have x:XM 9 (s:Int)=cI:=ZR _ _ ⋯ ⋯;have y:(zH (m+1) λk=>(wd k:Int))[xG w s]? = cq (.int (eA w wd s:Nat)):=by rw[<-qT];unfold zH;simp[e]
  have A:(zH (m+1) λk=>(wd' k:Int))[xN w s]? = cq (.int (ez w wd' s:Nat)):=by rw[<-xf];unfold zH;simp[g]
  have h:(dj (zC<|dj (zm 4)<|sI 0)<|zg 10) (γ (.own<|jJ s w wd wd' f) S B E I)=cq (.int (eA w wd s:Nat)):=by show((hM _ ((xG w s:Nat):Int)).bind λk=>(zH (m+1) λk=>(wd k:Int))[k]?)=_;rw[dl,j6,UJ e];exact y
  have l:(dj (zC<|dj (zm 5)<|sI 0)<|zg 9) (γ (.own<|jJ s w wd wd' f) S B E I)=cq (.int (ez w wd' s:Nat)):=by show((hM _ ((xN w s:Nat):Int)).bind λk=>(zH (m+1) λk=>(wd' k:Int))[k]?)=_;rw[dl,j6,UJ g];exact A
  refine⟨_,γ (.own<|jJ (s+1) w wd wd' f) S B E R,rfl,zh (γ':=γ (.own<|jJ s w wd wd' f) S B E I) (by simp[γ,S,B,E,C])<|zh (γ':=γ (.own<|jJ s w wd wd' f) S B E R) ?_ ?_,_,_,_,_,rfl⟩
  ·rw[yN,V6,bK,jh,jh,jh,jh,jh,h,l]
   simp[γ,S,R,x,L];rfl
  ·have o:s<lim:=⋯
   have K:3<=lim:=⋯
   have d:eA w wd s<=lim:=⋯
   have tp:=pG (eA w wd s) (ez w wd' s) d (f s) [];rw[show jJ (s+1) w wd wd' f=jJ s w wd wd' f++[jR (eA w wd s) (ez w wd' s) (f s)]from kK _ _,Xy,V3,jh,jh,show(dj (zC<|dj (zm 4)<|sI 0)<|zg 10) (γ (.own<|jJ s w wd wd' f) S B E R)=_ from h,show(dj (zC<|dj (zm 5)<|sI 0)<|zg 9) (γ (.own<|jJ s w wd wd' f) S B E R)=_ from l];have H:(jJ s w wd wd' f).length=s:=by simp[jJ]
   simp[γ,R,jD,d,Yg,jm,tp,K,H,o,qh];rfl)
 exact zW<|zh rfl<|zh q rfl
abbrev Jn:=Nat×Nat×(Nat->Nat->Int)
def gv(x:Jn):D:=jR x.1 x.2.1 x.2.2
def jz:Jn:=(0,0,λ_ _=>0)
def JB(n b:Nat)(L:List Jn):Prop:=L.length<=n/\∀x∈L,x.1<=b/\x.2.1<=b
theorem Eh(L:List Jn):l8 (.lst<|L.map gv)=cI:=gU (n:=4) (by
 simp only[deep];have:zi (L.map gv)<=3:=ZP λd a=>by simp only[Na]at a;obtain⟨k,_,rfl⟩:=a;exact pb _ _ _
 lia) ⋯ (by
 simp only[i9];exact Ya λd a=>by simp only[Na]at a;obtain⟨k,_,rfl⟩:=a;exact uN _ _ _)
theorem gY(L:List Jn):mc (.lst<|L.map gv) (.lst [])=cq (.bl<|!L.isEmpty):=by have a:=Eh L;unfold mc;rw[UJ ⟨a,rfl⟩];cases L<;>rfl
def iO(x:Jn):Jn:=(x.1+1,x.2.1,λi=>if i<x.1 then x.2.2 i else λ_=>0)
def sy(x:Jn):Jn:=(x.1,x.2.1+1,aug x.2.1 x.2.2 λ_=>0)
def jd(L:List Jn)(c I a:Int)(O U Y Z:Cell):Ctx:=[.own (L.map gv),vI c,vI I,vI a,O,U,Y,Z]
theorem BJ{L:List Jn}{c O:Int}{a:Nat}(hw:4<O)(ha:a<L.length)(hb:∀x∈L,x.1<=100/\x.2.1<=100)(Y Z c6 U:Cell):∃d4 d5 d6 d7,∃y:Jn,(y=iO (L.getD a jz)\/y=sy (L.getD a jz))/\YW (jd L c O a Y Z c6 U)=cq (.next<|jd (L.set a y) c O a d4 d5 d6 d7):=by
 have T:=jk;obtain⟨x,l⟩:∃x,L[a]? = cq x:=⟨_,Mp ha⟩;have H:L.getD a jz=x:=by simp[List.getD,l]
 have N:x∈L:=RA l;obtain⟨E,p⟩:=hb x N;obtain⟨h,w,f⟩:=x;have ad:L.isEmpty=di:=by cases L with
  |nil=>cases ha
  |cons=>rfl
 have t:(cN 0<|ZD (sB<|zG o7 (zg 2)<|sI 4)<|sB<|zG mc (zg 0)<|jU<|jL zB) (jd L c O a Y Z c6 U)=cq cI:=by simp[jd,qh,hw,gY,ad]
 have K:(L.map gv)[a]? = cq (jR h w f):=by rw[NC,l];rfl
 have o:hM (L.map gv).length (a:Int)=cq a:=by rw[MN,j6,UJ ha]
 have B:w+1<=lim:=by simp at p;lia
 have C:h+1<=lim:=by simp at E;lia
 have wl:w<=lim:=⋯
 have M:h<=lim:=⋯
 have s:3<=lim:=⋯
 have r:2<=lim:=⋯
 have P:inR (w:Int)=cI:=vY ⋯ (by simp at p;lia);have J:zT (.nm 0) jO (zG jX (zg 0)<|qC<|zb (sI 0) zB) [Cell.no] (zP h w f)=cq (zP h (w+1)<|aug w f λ_=>0):=by unfold zP;refine zw _ _ λi d=>zy rfl rfl ?_;have e:=lT w f (λ_=>0) i;simp[jX,B,e]
 have z:(Mm w [D.int 0]).flatten=zH w λ_=>0:=by rw[Rj,ZE];rfl
 have d:zP h w f++[.tup (zH w λ_=>0)]=zP (h+1) w (λi=>if i<h then f i else λ_=>0):=by rw[WY,Yq (f:=λi=>if i<h then f i else λ_=>0) (g:=f) λi j d _=>by rw[UJ d],UY (Nq h)]
 let b:Ctx:=jd L c O a (vI h) (.val<|.int (w:Int)) (.val<|.tup<|zP h w f) U;let I:Ctx:=jd L c O a (vI h) (.val<|.int (w:Int)) (.val<|.tup<|zP h w f)<|.val<|.tup<|zP h (w+1)<|aug w f λ_=>0;have R:(KP (.tp [4,5,6])<|dj (zm 0)<|zg 3) (jd L c O a Y Z c6 U)=cq (.next b):=by
  have e:(dj (zm 0)<|zg 3) (jd L c O a Y Z c6 U)=cq (jR h w f):=by rw[wx];show((hM (L.map gv).length (a:Int)).bind λk=>(L.map gv)[k]?)=_;rw[o];exact K
  rw[AS,e];rfl
 have S:(jG 7<|zX<|jH<|zV (zY<|zm 6) (.nm 0) 1 [] jO (zG jX (zg 0)<|qC<|zb (sI 0) zB)) b=cq (.next I):=by simp[b,I,jd,M,Jw,jm,J,jD]
 have u:(qC<|zb (zG jX (zg 4)<|sI 1)<|zb (zg 5)<|zb (zG jX (zg 6)<|qC<|zb (zG yS (qC<|zb (sI 0) zB)<|zg 5) zB) zB) I=cq (gv<|iO (h,w,f)):=by
  have F:yS (.tup [.int 0]) (.int (w:Int))=cq (.tup<|zH w λ_=>0):=by simp[yS,P,wl,z]
  have G:jX (.tup<|zP h w f) (.tup [.tup (zH w λ_=>0)])=cq (.tup<|zP (h+1) w<|λi=>if i<h then f i else λ_=>0):=by simp[jX,Jw,C,d]
  have Q:1<=lim:=⋯
  simp[I,jd,F,G,Q,s,gv,iO,jR]
 have A:(qC<|zb (zg 4)<|zb (zG jX (zg 5)<|sI 1)<|zb (zg 7) zB) I=cq (gv<|sy (h,w,f)):=by simp[I,jd,s,gv,sy,jR]
 have n:∀y:Jn,(dj (jH<|jL<|zb (qC<|zb (zG jX (zg 4)<|sI 1)<|zb (zg 5)<|zb (zG jX (zg 6)<|qC<|zb (zG yS (qC<|zb (sI 0) zB)<|zg 5) zB) zB)<|zb (qC<|zb (zg 4)<|zb (zG jX (zg 5)<|sI 1)<|zb (zg 7) zB) zB)<|zG wj (zg 2)<|sI 2) I=cq (gv y)->
  YW (jd L c O a Y Z c6 U)=cq (.next<|jd (L.set a y) c O a (vI h) (.val<|.int (w:Int)) (.val<|.tup<|zP h w f)<|.val<|.tup<|zP h (w+1)<|aug w f λ_=>0):=λy e=>by
  unfold YW;rw[ye,t];refine zh R<|zh S ?_;rw[pw,e];show((hM (L.map gv).length (a:Int)).map λj=>Fl.next<|I.set 0<|.own<|(L.map gv).set j (gv y))=_;rw[o];simp[I,jd]
 rw[H];rcases Int.emod_two_eq O with e|e
 ·refine⟨_,_,_,_,_,.inl rfl,n _ ?_⟩
  have m:zG wj (zg 2) (sI 2) I=cq (.int 0):=by simp[I,jd,e]
  rw[wx,wu,lY,jh,u,jh,A,m];simp[r,hM]
 ·refine⟨_,_,_,_,_,.inr rfl,n _ ?_⟩
  have m:zG wj (zg 2) (sI 2) I=cq (.int 1):=by simp[I,jd,e]
  rw[wx,wu,lY,jh,u,jh,A,m];simp[r,hM]
theorem aA{L:List Jn}{c:Int}{n b:Nat}(I:JB n b L)(hn:n<=50)(hb:b<=50):∃L',JB (n+2) (b+1) L'/\qO [.lst (L.map gv),.int c]=cq (.own<|L'.map gv):=by
 have hl:=jk;obtain⟨q,q0,r,eq⟩:∃q:Nat,0<q/\(L ≠ []->q=L.length)/\(if (L.length:Int)>1 then (L.length:Int)else 1)=(q:Int):=by
  by_cases g:1<L.length
  ·exact⟨L.length,⋯,λ_=>rfl,by rw[UJ ⋯]⟩
  ·refine⟨1,⋯,λh=>?_,by rw[UY ⋯];rfl⟩
   have:=List.length_pos_iff.mpr h;lia
 obtain⟨a,w⟩:∃a:Nat,c/8%(q:Int)=(a:Int):=⟨(c/8%(q:Int)).toNat,(P8<|Nj _ ⋯).symm⟩;have S:a<q:=by have:=Ng (c/8) (show(0:Int)<(q:Int)by lia);lia
 have w0:=Nj c (show(8:Int)≠0 by decide);rw[qO];have K:sV (zN 8 [.lst (L.map gv),.int c])=cq (.next [.own (L.map gv),vI c,.no,.no,.no,.no,.no,.no]):=rfl;have N:mP [.own (L.map gv),vI c,.no,.no,.no,.no,.no,.no]=cq (.next [.own (L.map gv),vI c,vI<|c%8,.no,.no,.no,.no,.no]):=by simp[mP]
 have P:mO [.own (L.map gv),vI c,vI<|c%8,.no,.no,.no,.no,.no]=cq (.next<|jd L c (c%8) a .no .no .no .no):=by
  have m:cK (sI 1) (JP<|zm 0) [.own (L.map gv),vI c,vI<|c%8,.no,.no,.no,.no,.no]=cq (.int (q:Int)):=by rw[<-eq];simp
  unfold mO;rw[yN,ZV,m];have t:q≠0:=⋯
  have u:(0:Int)<(q:Int):=⋯
  simp[jd,t,u,w]
 have O:∀{L':List Jn},JB (n+2) (b+1) L'->(zR cE<|zR Wn<|zR YW sU) (jd L c (c%8) a .no .no .no .no)=cq (.ret<|.own<|L'.map gv)->∃L',JB (n+2) (b+1) L'/\jv 8 (zR sV<|zR mP<|zR mO<|zR cE<|zR Wn<|zR YW sU) [.lst (L.map gv),.int c]=cq (.own<|L'.map gv):=λh e=>⟨_,h,zW<|zh K<|zh N<|zh P e⟩;have j:∀{L':List Jn},JB n b L'->JB (n+2) (b+1) L':=λh=>⟨by have:=h.1;lia,λx d=>by have:=h.2 x d;lia⟩;have s:∀M:List Jn,(cN 0<|ZD (sB<|zG gw (zg 2)<|sI 1)<|sB<|zG mc (zg 0)<|jU<|jL zB) (jd M c (c%8) a .no .no .no .no)=cq (decide (c%8=1)&&!M.isEmpty):=λM=>by by_cases g:c%8=1<;>simp[jd,qh,g,gY]
 have R:∀M:List Jn,(cN 0<|ZD (sB<|zG o7 (zg 2)<|sI 4)<|sB<|zG mc (zg 0)<|jU<|jL zB) (jd M c (c%8) a .no .no .no .no)=cq (decide (4<c%8)&&!M.isEmpty):=λM=>by by_cases g:4<c%8<;>simp[jd,qh,g,gY]
 have U:∀M:List Jn,(c%8=1->M=[])->cE (jd M c (c%8) a .no .no .no .no)=cq (.next<|jd M c (c%8) a .no .no .no .no):=λM h=>by
  unfold cE;rw[ye,s];by_cases g:c%8=1
  ·rw[h g,decide_eq_true g];rfl
  ·rw[decide_eq_false g];rfl
 have Z:∀M:List Jn,c%8≠2->Wn (jd M c (c%8) a .no .no .no .no)=cq (.next<|jd M c (c%8) a .no .no .no .no):=λM h=>by unfold Wn;simp[jd,h]
 have Y:∀M:List Jn,(4<c%8->M=[])->YW (jd M c (c%8) a .no .no .no .no)=cq (.next<|jd M c (c%8) a .no .no .no .no):=λM h=>by
  unfold YW;rw[ye,R];by_cases g:4<c%8
  ·rw[h g,decide_eq_true g];rfl
  ·rw[decide_eq_false g];rfl
 have l:c%8=2->∃k,k<=2/\Wn (jd L c (c%8) a .no .no .no .no)=cq (.next<|jd (L++Mm k jz) c (c%8) a .no .no .no .no):=λh=>by
  have k0:=Nj (c/8) (show(2:Int)≠0 by decide);refine⟨(1+c/8%2).toNat,⋯,?_⟩;have E:inR (1+c/8%2)=cI:=vY ⋯ ⋯;have F:1<=lim:=⋯
  have G:3<=lim:=⋯
  have lk:(1+c/8%2).toNat<=lim:=⋯
  have ln:=I.1;have H:L.length+(1+c/8%2).toNat<=lim:=⋯
  have z:(Mm (1+c/8%2).toNat [D.tup [.int 0,.int 0,.tup []]]).flatten=(Mm (1+c/8%2).toNat jz).map gv:=by rw[Rj,List.map_replicate];rfl
  have J:(KQ (jH<|jL<|zb (qC<|zb (sI 0)<|zb (sI 0)<|zb (qC zB) zB) zB)<|zG jX (sI 1)<|zG wj (zG JI (zg 1)<|sI 8)<|sI 2) (jd L c (c%8) a .no .no .no .no)=cq ((Mm (1+c/8%2).toNat jz).map gv):=by rw[<-z];simp[jd,E,F,G,lk]
  unfold Wn;rw[ye,show(sB<|zG gw (zg 2)<|sI 2) (jd L c (c%8) a .no .no .no .no)=cq cI by simp[jd,h]];show kB 0 _ _=_;rw[AU,Ba,wu,J];simp[jd,H]
 have o:∀{k:Nat},k<=2->JB (n+2) (b+1) (L++Mm k jz):=λ{k} f=>⟨by have:=I.1;simp;lia,λx d=>by
  rcases PY.mp d with h|h
  ·have:=I.2 x h;lia
  ·rw[(List.mem_replicate.mp h).2];exact⟨NJ _,NJ _⟩⟩
 by_cases e:L=[]
 ·by_cases g2:c%8=2
  ·obtain⟨k,f,i⟩:=l g2
   refine O (L':=L++Mm k jz) (o f)<|zh (U L λ_=>e)<|zh i<|zh (Y _ λh=>by lia) rfl
  ·exact O (j I)<|zh (U L λ_=>e)<|zh (Z L g2)<|zh (Y L λ_=>e) rfl
 by_cases g1:c%8=1
 ·refine O (L':=L.dropLast) (j ⟨by have:=I.1;simp;lia,λx d=>I.2 x<|(List.dropLast_sublist L).subset d⟩) (zh (γ':=jd L.dropLast c (c%8) a .no .no .no .no) ?_ (zh (Z _ ⋯)<|zh (Y _ λh=>by lia) rfl))
  have C:L.isEmpty=di:=by cases L with
   |nil=>exact absurd rfl e
   |cons=>rfl
  unfold cE;rw[ye,s,decide_eq_true g1,C];simp[jd,AW,qh,e]
 by_cases g2:c%8=2
 ·obtain⟨k,f,i⟩:=l g2
  refine O (L':=L++Mm k jz) (o f)<|zh (U L λh=>absurd h g1)<|zh i<|zh (Y _ λh=>by lia) rfl
 by_cases p:4<c%8
 ·obtain⟨T,W,X,d7,y,B,Q⟩:=BJ (L:=L) (c:=c) (a:=a) p (by have:=r e;lia) (λx d=>by have:=I.2 x d;lia) .no .no .no .no
  have A:L.getD a jz∈L:=by
   have h:a<L.length:=by have:=r e;lia
   simp only[List.getD,Mp h,Option.getD_some];exact Rx h
  refine O (L':=L.set a y) ⟨by have:=I.1;simp;lia,λx d=>?_⟩<|zh (U L λh=>by lia)<|zh (Z L g2)<|zh Q rfl;rcases List.mem_or_eq_of_mem_set d with h|rfl
  ·have:=I.2 x h;lia
  ·have:=I.2 _ A
   rcases B with rfl|rfl
   ·exact⟨by show(L.getD a jz).1+1<=_;lia,by show(L.getD a jz).2.1<=_;lia⟩
   ·exact⟨by show(L.getD a jz).1<=_;lia,by show(L.getD a jz).2.1+1<=_;lia⟩
 ·exact O (j I)<|zh (U L λh=>absurd h g1)<|zh (Z L g2)<|zh (Y L λh=>absurd h p) rfl
section
variable{p:Int}{m:Nat}{w:UK}{wd wd':UX}{T T':UW}
abbrev fz(m:Nat)(wd wd':UX):D:=.tup (zH (m+1) λk=>((wd k+wd' k:Nat):Int))
theorem fw(z:m<=900):(jG 2<|zX<|jH<|zV (YE (dj (zm 0)<|sI 1)<|dj (zm 1)<|sI 1) (.tp [0,1]) 2 [] jO (zG jX (zg 0)<|zg 1)) (zN 3 [zK p m w wd T,zK p m w wd' T'])=cq (.next [.val (zK p m w wd T),.val<|zK p m w wd' T',.val (fz m wd wd')]):=by
 have U:=jk;have I:m+1<=lim:=⋯
 have g:=qW p m w wd T;have h:=qW p m w wd' T';have O:zT (.tp [0,1]) jO (zG jX (zg 0)<|zg 1) [Cell.no,Cell.no] ((Ml<|m+1).map λi=>D.tup [.int (wd i:Int),.int (wd' i:Int)])=cq (zH (m+1) λk=>((wd k+wd' k:Nat):Int)):=by rw[qG (m+1) λk=>((wd k+wd' k:Nat):Int)];refine zw _ _ λk Y=>zy rfl rfl ?_;show zG _ _ _ [vI (wd k:Int),vI (wd' k:Int)]=_;simp
 have f:hM 3 1=cq 1:=rfl;have b:YE (dj (zm 0)<|sI 1) (dj (zm 1)<|sI 1) [.val (zK p m w wd T),.val<|zK p m w wd' T',.no]=cq ((Ml<|m+1).map λi=>D.tup [.int (wd i:Int),.int (wd' i:Int)]):=by rw[<-wD (m+1) (λk=>(wd k:Int)) λk=>(wd' k:Int)];simp[g,h,f,qA]
 have e:((Ml<|m+1).map λi=>D.tup [.int (wd i:Int),.int (wd' i:Int)]).length<=lim:=by simpa using I
 show(((zV _ _ _ _ _ _ [.val (zK p m w wd T),.val<|zK p m w wd' T',.no]).map λd=>(Sk.L,d)).map λa=>D.tup a.2).map _=_;rw[kF,b];simp only[Mx];rw[UJ e,show jm 2 [] [.val (zK p m w wd T),.val<|zK p m w wd' T',.no]=[Cell.no,Cell.no]from rfl,O];rfl
theorem fv:Wk (zH (m+1) λk=>((wd k+wd' k:Nat):Int))=cq (zq (λk=>(wd k:Int)) (m+1)+zq (λk=>(wd' k:Int)) (m+1)):=by rw[kj,<-lS];congr 1
theorem ay:Wk (zH (m+1) λk=>(wd k:Int)+(wd' k:Int))=cq (zq (λk=>(wd k:Int)) (m+1)+zq (λk=>(wd' k:Int)) (m+1)):=by rw[kj,<-lS]
theorem BA(z:m<=900)(h:¬(30<zq (λk=>(wd k:Int)) (m+1)+zq (λk=>(wd' k:Int)) (m+1))):jZ [zK p m w wd T,zK p m w wd' T']=cq (.val<|fz m wd wd')/\ji [zK p m w wd T,zK p m w wd' T']=da:=by
 have I:=fv (m:=m) (wd:=wd) (wd':=wd');have O:=ay (m:=m) (wd:=wd) (wd':=wd');have b:qB [fz m wd wd']=cq (.val .ej):=by simp[qB,jv,zN,Mm,jD,fz,I,O,h]
 have U:jY [fz m wd wd']=da:=by simp[jY,JX,zN,Mm,jD,fz,I,O,h,ni,vr]
 have a:=fw (p:=p) (w:=w) (wd:=wd) (wd':=wd') (T:=T) (T':=T') z;constructor
 ·refine zW (zh a<|zh (γ':=[.val (zK p m w wd T),.val<|zK p m w wd' T',.val (fz m wd wd')]) ?_ rfl)
  simp[b]
 ·unfold ji JX
  rw[lW,a];show(j4 jY<|zb (zg 2) zB) [.val (zK p m w wd T),.val<|zK p m w wd' T',.val (fz m wd wd')]=da;simp[j4,U]
theorem mH(z:m<=900)(h:30<zq (λk=>(wd k:Int)) (m+1)+zq (λk=>(wd' k:Int)) (m+1)):ji [zK p m w wd T,zK p m w wd' T']=cq ((("TooMany" : Str),da):Xn):=by
 have I:=fv (m:=m) (wd:=wd) (wd':=wd');have O:=ay (m:=m) (wd:=wd) (wd':=wd');have U:jY [fz m wd wd']=cq ((("TooMany" : Str),da):Xn):=by simp[jY,JX,zN,Mm,jD,fz,I,O,h,ni,Bg]
 have a:=fw (p:=p) (w:=w) (wd:=wd) (wd':=wd') (T:=T) (T':=T') z;unfold ji JX;rw[lW,a];show(j4 jY<|zb (zg 2) zB) [.val (zK p m w wd T),.val<|zK p m w wd' T',.val (fz m wd wd')]=_;simp[j4,U]
end
theorem mQ{p:Int}(U:Pr p){h w:Nat}(hh:h<=190)(hw:w<=190)(f:UV)(b:Vc)(Y:∀i,i<h->0<=b i/\b i<p):
 (∃x:Vc,∀i,i<h->zq (λj=>f i j*x j) w%p=b i)\/kQ [.int p,jR h w f,.tup (zH h b)]=cq (.val .ej)/\∃y:Vc,(∀j,j<w->zq (λi=>f i j*y i) h%p=0)/\zq (λi=>b i*y i) h%p=1:=by
 obtain⟨r,B,l,s,O,Z,H,t,F,u⟩:=Zv U hh hw f b;by_cases I:s<r
 ·refine .inr ⟨by rw[u,UJ I],?_⟩
  have G:=O.lt s I;have ad:=F s (Mq _) I;have C:l s=w:=⋯
  obtain⟨y,o⟩:=QF<|(Z<|B s).mp (.gen ⟨s,I,rfl⟩);refine⟨y,λj m=>?_,?_⟩
  ·have:=o j ⋯
   rw[O.m6 s j I ⋯,zO (g:=λi=>f i j*y i) λi _=>by simp[aug,m,Pe]]at this;rw[<-this];rfl
  ·have:=o w ⋯
   have e:=O.one s I;rw[C]at e;rw[e,zO (g:=λi=>b i*y i) λi _=>by simp[aug,Pe],U.one]at this;exact this.symm
 ·refine .inl ⟨V9 w B l s,λi a=>?_⟩
  have E:s=r:=⋯
  subst E;have d:=Xr O ((Z<|aug w f b i).mpr (.gen ⟨i,a,rfl⟩)) w ⋯;have z:aug w f b i w=b i:=by simp[aug]
  rw[z,Om (Y i a).1 (Y i a).2]at d;rw[d];congr 1;unfold V9;rw[zO (g:=λj=>zq (λk=>f i j*(if l k=j then B k w else 0)) s) λj _=>(qz _ _ _).symm,yF];refine zO λk n=>?_;rw[jB (i:=l k) (t k n) λj m A=>by rw[UY (Nr A)];simp,UJ rfl];simp only[aug,UJ (t k n)]
theorem bU{p:Int}(O:Pr p){h w:Nat}(hh:h<=189)(hw:w<=189)(f:UV)(b y:Vc)(h1:∀j,j<w->zq (λi=>f i j*y i) h%p=0)(Y:zq (λi=>b i*y i) h%p=1):
 ∃x:Vc,xY [.int p,jR h w f,.tup (zH h b)]=cq (.val<|.tup<|zH h x)/\(∀j,0<=x j/\x j<p)/\(∀j,j<w->zq (λi=>f i j*x i) h%p=0)/\zq (λi=>b i*x i) h%p=1:=by
 have K:=jk;have Z:h<=lim:=⋯
 have n:w<=lim:=⋯
 have J:w+1<=lim:=⋯
 have L:=O.two;let g:Nat->Nat->Int:=λj i=>if j<w then f i j else b i;let c:Vc:=λj=>if j<w then 0 else 1;have U:∀v:Vc,∀j,j<w->zq (λi=>g j i*v i) h=zq (λi=>f i j*v i) h:=λv j I=>zO λi _=>by show(if j<w then f i j else b i)*v i=_;rw[UJ I]
 have gl:∀v:Vc,zq (λi=>g w i*v i) h=zq (λi=>b i*v i) h:=λv=>zO λi _=>by show(if w<w then f i w else b i)*v i=_;rw[UY ⋯]
 obtain⟨x,H,o,k⟩:=KO O (h:=w+1) (w:=h) ⋯ ⋯ g c y (λj _=>by show 0<=(if j<w then (0:Int)else 1)/\(if j<w then (0:Int)else 1)<p;split<;>lia) λj I=>by
  by_cases e:j<w
  ·rw[U y j e,h1 j e];show 0=(if j<w then (0:Int)else 1);rw[UJ e]
  ·obtain rfl:j=w:=⋯
   rw[gl y,Y];show 1=(if j<j then (0:Int)else 1);rw[UY e]
 refine⟨x,?_,o,λj I=>?_,?_⟩
 ·have G:=kq f Z n
  have m:jD (jR w h λi j=>f j i)=cq (.T,[.int (w:Int),.int (h:Int),.tup (zP w h λi j=>f j i)]):=rfl;have F:3<=lim:=⋯
  have l:1<=lim:=⋯
  have u:zP w h (λi j=>f j i)++[D.tup (zH h b)]=zP (w+1) h g:=by
   unfold zP;rw[kK];congr 1
   ·refine MI λj I=>?_
    have I:=Mn.mp I;show D.tup (zH h λi=>f i j)=D.tup (zH h λi=>if j<w then f i j else b i);simp only[I,if_true]
   ·show [D.tup (zH h b)]=[D.tup (zH h λi=>if w<w then f i w else b i)]
    simp only[Nq,if_false]
  have z:Mm w (D.int 0)++[D.int 1]=zH (w+1) c:=by
   unfold zH;rw[kK];congr 1
   ·refine(List.eq_replicate_iff.mpr ⟨by simp,λd E=>?_⟩).symm
    obtain⟨j,I,rfl⟩:=Na.mp E;have I:=Mn.mp I;show D.int (if j<w then (0:Int)else 1)=_;rw[UJ I]
   ·show [D.int 1]=[D.int (if w<w then (0:Int)else 1)]
    rw[UY ⋯]
  have A:jX (.tup<|zP w h λi j=>f j i) (.tup [D.tup (zH h b)])=cq (.tup<|zP (w+1) h g):=by rw[<-u];show(if (zP w h λi j=>f j i).length+1<=lim then _ else da)=_;rw[UJ (by simp[zP];lia)]
  have B:(yS (.tup [D.int 0])<|.int (w:Int)).bind (λx=>jX x<|.tup [D.int 1])=cq (.tup<|zH (w+1) c):=by have r:inR (w:Int)=cI:=vY ⋯ ⋯;rw[<-z];show((if 1*(w:Int).toNat<=lim/\inR (w:Int)=cI then cq (D.tup (Mm (w:Int).toNat [D.int 0]).flatten)else da).bind λx=>jX x<|.tup [D.int 1])=_;rw[Oj,UJ ⟨⋯,r⟩,Mx,Rj];show(if (Mm w<|D.int 0).length+1<=lim then _ else da)=_;rw[UJ (by simp;lia)]
  let a:Cell->Cell->Ctx:=λs t=>[vI p,.val<|jR h w f,.val<|.tup<|zH h b,s,t];let C:=Cell.val<|jR w h λi j=>f j i;refine zW<|zh (γ':=a C .no) (by simp[a,C,zN,G])<|zh (γ':=a C<|.val<|jR (w+1) h g) (by simp[a,C,m,hM,l,F,A];rfl) ?_;rw[w9,kG,jh,jh,jh,show(zG jX (zG yS (qC<|zb (sI 0) zB)<|dj (zm 3)<|sI 0)<|qC<|zb (sI 1) zB) (a C<|.val<|jR (w+1) h g)=cq (.tup<|zH (w+1) c)by
   rw[<-B];simp[a,C,m,hM,l]]
  simp[a,H]
 ·have:=k j ⋯
  rw[U x j I]at this;rw[this];show(if j<w then (0:Int)else 1)=0;rw[UJ I]
 ·have:=k w ⋯
  rw[gl x]at this;rw[this];show(if w<w then (0:Int)else 1)=1;rw[UY ⋯]
def Di(w:UK)(b c:Int×Int):Int:=if R7 w b.1.toNat b.2.toNat c.1.toNat c.2.toNat=cI then 1 else 0
theorem Cv{n:Int}{b:Int×Int}(h:si n b):D.tup [.int b.1,.int b.2]=pr b.1.toNat b.2.toNat:=by obtain⟨a,I,_⟩:=h;unfold pr;rw[P8 a,P8 ⋯]
section
variable{p:Int}{m:Nat}{w:UK}{wd1 wd2:UX}{T1 T2:UW}{bs u6 B4:List (Int×Int)}{c:Int×Int}{_c _d _h _i:List TB}
theorem HJ(z:m<=5){b:Int×Int}(I:si ((m+1:Nat):Int) b)(O:si ((m+1:Nat):Int) c):kX [.str (j7 m w),.tup [.int b.1,.int b.2],.tup [.int c.1,.int c.2]]=cq (.val<|.int<|Di w b c):=by rw[Cv I,Cv O];obtain⟨a,U,Y⟩:=I;obtain⟨Z,g2,g3⟩:=O;exact YC z ⋯ ⋯ ⋯ ⋯
theorem Aa(z:m<=5)(h:∀b∈bs,si ((m+1:Nat):Int) b)(I:bs.length<=lim)(O:si ((m+1:Nat):Int) c):yh [.str (j7 m w),.lst<|yd bs,.tup [.int c.1,.int c.2]]=cq (.val<|.int<|mm<|bs.map λb=>Di w b c):=by
 have d:zT (.nm 0) jO (zD kX<|zb (zg 1)<|zb (zg 0)<|zb (zg 2) zB) [Cell.no,.val<|.str<|j7 m w,.val (.tup [.int c.1,.int c.2])] (yd bs)=cq (bs.map λb=>D.int<|Di w b c):=by unfold yd;exact zw _ _ λb U=>zy (γ1:=[.val (.tup [.int b.1,.int b.2]),.val<|.str<|j7 m w,.val (.tup [.int c.1,.int c.2])]) rfl rfl (by simp[HJ z (h b U) O])
 have Y:(yd bs).length<=lim:=by simpa using I
 have Z:Wk (bs.map λb=>D.int<|Di w b c)=cq (mm<|bs.map λb=>Di w b c):=by rw[<-QB,Nh];rfl
 unfold yh;refine zW ?_;have a:zY (zm 1) [Cell.val (.str<|j7 m w),.val<|.lst<|yd bs,.val (.tup [.int c.1,.int c.2])]=cq (yd bs):=rfl;show qV _ [Cell.val (.str<|j7 m w),.val<|.lst<|yd bs,.val (.tup [.int c.1,.int c.2])]=_;rw[w9,bI,wu,kF,a];simp only[Mx,Y,if_true];rw[show jm 1 [0,2] [Cell.val (.str<|j7 m w),.val<|.lst<|yd bs,.val (.tup [.int c.1,.int c.2])]=[Cell.no,.val<|.str<|j7 m w,.val (.tup [.int c.1,.int c.2])]from rfl,d];simp[Z]
theorem pf(hm:m<=5)(h1:∀b∈u6,si ((m+1:Nat):Int) b)(I:∀b∈B4,si ((m+1:Nat):Int) b)(l1:u6.length<=lim)(l2:B4.length<=lim)(z:xK [zK p m w wd1 T1]=cq (.val<|ZG u6 _c _h))(O:xK [zK p m w wd2 T2]=cq (.val<|ZG B4 _d _i)):
 xw [zK p m w wd1 T1,zK p m w wd2 T2]=cq (.val<|.int<|mm<|B4.map λc=>mm<|u6.map λb=>Di w b c):=by
 have U:=(wt (p:=p) (w:=w) (wd:=wd1) (T:=T1) (wd':=wd2) (T':=T2)<|show m<=900 by lia).2;have Y:=kn (p:=p) (w:=w) (wd:=wd1) (T:=T1) (⋯:m<=900);let a:=zK p m w wd1 T1;let R2:=zK p m w wd2 T2;have g:zT (.nm 0) jO (zD yh<|zb (zD qL<|zb (zg 1) zB)<|zb (zg 2)<|zb (zg 0) zB) [Cell.no,.val a,.val (.lst<|yd u6)] (yd B4)=cq (B4.map λc=>D.int<|mm<|u6.map λb=>Di w b c):=by
  conv=>lhs;unfold yd
  exact zw _ _ λc Z=>zy (γ1:=[.val (.tup [.int c.1,.int c.2]),.val a,.val (.lst<|yd u6)]) rfl rfl (by simp[a,Y,Aa hm h1 l1 (I c Z)])
 have e:(yd B4).length<=lim:=by simpa using l2
 have j:Wk (B4.map λc=>D.int<|mm<|u6.map λb=>Di w b c)=cq (mm<|B4.map λc=>mm<|u6.map λb=>Di w b c):=by rw[<-QB,Nh];rfl
 have h:xK [a]=cq (.val<|ZG u6 _c _h):=z;have i:xK [R2]=cq (.val<|ZG B4 _d _i):=O;have f:jN [a,R2]=cq (.val .ej):=U;show xw [a,R2]=_
 clear_value a R2
 unfold xw;refine zW<|zh (γ':=[.val a,.val R2,.no]) (by simp[zN,f])<|zh (γ':=[.val a,.val R2,.val (.lst<|yd u6)]) (by simp[h,ZG,hM]) ?_;have d:zY (zC<|dj (zC<|zD xK<|zb (zg 1) zB)<|sI 0) [Cell.val a,.val R2,.val (.lst<|yd u6)]=cq (yd B4):=by simp[i,ZG,hM]
 rw[w9,bI,wu,kF,d];simp only[Mx,e,if_true];rw[show jm 1 [0,2] [Cell.val a,.val R2,.val (.lst<|yd u6)]=[Cell.no,.val a,.val (.lst<|yd u6)]from rfl,g];simp[j]
theorem nG(z:m<=4)(Y:∀k,wd1 k<=100)(a3:∀k,wd2 k<=100):xk [zK p m w wd1 T1,zK p m w wd2 T2]=cq (.val<|.int<|(off wd2 wd1 (m+1):Int)-(off (eA w wd2) (ez w wd1) m:Int)):=by have O:=(wt (p:=p) (w:=w) (wd:=wd1) (T:=T1) (wd':=wd2) (T':=T2)<|show m<=900 by lia).2;have U:=yW (p:=p) (w:=w) (wd:=wd2) (T:=T2) (wd':=wd1) (T':=T1) z;have I:=QG (p:=p) (w:=w) (wd:=wd2) (T:=T2) (wd':=wd1) (T':=T1) z;have a:=kN (hs:=wd2) (ws:=wd1) (n:=m+1) ⋯ Y;have Z:=kN (hs:=eA w wd2) (ws:=ez w wd1) (n:=m) ⋯ (λk=>by unfold ez;split<;>exact Y _);have e:kZ m w wd2 wd1=r9 m (eA w wd2) (ez w wd1):=rfl;rw[e]at I;generalize zK p m w wd1 T1=R1 at O U I;generalize zK p m w wd2 T2=R2 at O U I;unfold xk;refine zW<|zh (γ':=[.val R1,.val R2]) (by simp[zN,O]) ?_;simp[U,I,a,Z]
theorem sG(O:m<=4){x y:Int}{R1 R2:D}(z:xw [R1,R2]=cq (.val<|.int x))(I:xk [R1,R2]=cq (.val<|.int y)):kx [R1,R2]=cq (.val<|.int<|x-y):=by unfold kx;refine zW ?_;simp[zN,z,I]
end
section ap
variable(γ:Ctx)
@[simp] def Ic:=@Wr.eq_1
@[simp] def IY:=@GN.eq_1
@[simp] theorem HV(f):mV f γ=((f γ).bind n5).map λi=>.int (-i):=rfl
end ap
theorem QA{G:CO Xn}{F:CO Fl}{H:CO Xn}{γ γ':Ctx}{r:Option Xn}(z:G γ=da)(I:F γ=cq (.next γ'))(O:H γ'=r):XN G F H γ=r:=by unfold XN;rw[z,I];exact O
theorem Ka{G:CO Xn}{F:CO Fl}{H:CO Xn}{γ:Ctx}{c:Xn}(z:G γ=cq c):XN G F H γ=cq c:=by unfold XN;rw[z]
def V0(f:UK):Nat->Nat->Option Nat
 |_,0=>da
 |s,n+1=>if f s=cI then V0 f (s+1) n else cq s
theorem VZ{f:UK}:∀{n s:Nat},V0 f s n=da->∀k,s<=k->k<s+n->f k=cI
 |0,s,_,k,h1,h2=>by lia
 | n+1,s,h,k,h1,h2=>by
  by_cases z:f s=cI
  ·rw[V0,UJ z]at h
   by_cases e:k=s
   ·rw[e];exact z
   ·exact VZ h k ⋯ ⋯
  ·rw[V0,UY z]at h;cases h
def yl(w:UK)(wd wd':UX)(L:List Jn)(k:Nat):Bool:=decide (k<L.length)&&(decide ((L.getD k jz).1=eA w wd k)&&decide ((L.getD k jz).2.1=ez w wd' k))
section
variable{p:Int}{m:Nat}{w:UK}{wd wd':UX}{T T':UW}{L:List Jn}
def m7(p:Int)(m:Nat)(w:UK)(wd wd':UX)(T T':UW)(L:List Jn)(I O U:Cell):Ctx:=[vI p,.val<|.str<|j7 m w,.val<|xi m w wd T,.val<|xi m w wd' T',.val<|.lst<|L.map gv,I,O,U]
theorem uY{k:Nat}(h:k<L.length):(L.map gv)[k]? = cq (gv<|L.getD k jz):=by simp[List.getD,Mp h]
theorem ES{s:Nat}(hs:s<m):UH (m7 p m w wd wd' T T' L (vI s) (.val<|.int ((xN w s:Nat):Int))<|vI<|xG w s)=cq (!yl w wd wd' L s):=by
 unfold UH yl;by_cases h:s<L.length
 ·have a:=Ju (w:=w) hs
  have b:=Jy (w:=w) hs;have O:=bV a wd;have U:=bV b wd';rw[qT w wd]at O;rw[xf w wd']at U;have I:¬((L.length:Int)<=(s:Int)):=⋯
  have f:=JZ m w wd T;have g:=JZ m w wd' T';have Y:hM 2 0=cq 0:=rfl;have i:hM 3 0=cq 0:=rfl;have Z:hM 3 1=cq 1:=rfl;have d:=uY h;have e:jD (gv<|L.getD s jz)=cq (.T,[.int ((L.getD s jz).1:Int),.int ((L.getD s jz).2.1:Int),.tup (zP (L.getD s jz).1 (L.getD s jz).2.1 (L.getD s jz).2.2)]):=rfl;simp only[m7,V5,px,ZV,w6,bJ,xV,wx,yv,KB,MW,Np,NB,NZ,Og,TK,qg,jI,Mx,Ni,je,kE,MN,j6,h,a,b,if_true,d,e,f,g,Y,i,Z,eR,O,U,W0,Ay,bG,decide_eq_false I,Nw,if_false,decide_true,Bool.true_and,Int.natCast_inj];generalize (L.getD s jz).1=x;generalize (L.getD s jz).2.1=y;by_cases g1:x=eA w wd s<;>by_cases g2:y=ez w wd' s<;>simp[g1,g2]
 ·have I:(L.length:Int)<=(s:Int):=⋯
  simp[m7,je,I,h]
theorem lh(hm:m<=5):∀(n s:Nat) (U I O:Cell),s+n=m->∃Y Z a1,kD (.nm 5) N9 ((PL s n).map λ(j:Nat)=>D.int j) (m7 p m w wd wd' T T' L U I O)=cq (match V0 (yl w wd wd' L) s n with
 |some k=>.ret (.own [.str "arrow",.int (k:Int)])
 |none=>.next (m7 p m w wd wd' T T' L Y Z a1))
 |0,s,U,I,O,_=>⟨U,I,O,rfl⟩
 | n+1,s,U,I,O,h=>by
  have o:=jk;have i:2<=lim:=⋯
  have d:s<m:=⋯
  obtain⟨a,b,c,g⟩:=lh hm n (s+1) (vI s) (.val<|.int ((xN w s:Nat):Int)) (vI<|xG w s) ⋯;have f:=vq (w:=w) hm d;have e:(KP (.tp [6,7])<|zD xv<|zb (zg 1)<|zb (zg 5) zB) (m7 p m w wd wd' T T' L (vI s) I O)=cq (.next<|m7 p m w wd wd' T T' L (vI s) (.val<|.int ((xN w s:Nat):Int))<|vI<|xG w s):=by simp[m7,f]
  have t:=ES (p:=p) (w:=w) (wd:=wd) (wd':=wd') (T:=T) (T':=T') (L:=L) d;refine⟨a,b,c,?_⟩;rw[OL,MT,ql,V0];show((N9<|m7 p m w wd wd' T T' L (vI s) I O).bind _)=_;by_cases z:yl w wd wd' L s=cI
  ·rw[UJ z,<-g]
   rw[z]at t;rw[show N9 (m7 p m w wd wd' T T' L (vI s) I O)=cq (.next<|m7 p m w wd wd' T T' L (vI s) (.val<|.int ((xN w s:Nat):Int))<|vI<|xG w s)from zh e (by rw[ye,t];rfl)];rfl
  ·rw[UY z]
   have l:yl w wd wd' L s=di:=by cases hh:yl w wd wd' L s with
    |true=>exact absurd hh z
    |false=>rfl
   rw[l]at t;rw[show N9 (m7 p m w wd wd' T T' L (vI s) I O)=cq (.ret (.own [.str "arrow",.int (s:Int)]))from zh e (by rw[ye,t];simp[m7,i])];rfl
def VN(m:Nat)(w:UK)(wd wd':UX)(L:List Jn):Res:=match V0 (yl w wd wd' L) 0 m with
 |some k=>.own [.str "arrow",.int (k:Int)]
 |none=>if m<L.length then .own [.str "arrow",.int 5]else if 30<zq (λk=>(wd k:Int)) (m+1)+zq (λk=>(wd' k:Int)) (m+1)then .own [.str "many"]else .val .ej
theorem oR(z:m<=5):yz [.int p,.str<|j7 m w,xi m w wd T,xi m w wd' T',.lst (L.map gv)]=cq (VN m w wd wd' L):=by
 have r:=jk;have f:2<=lim:=⋯
 have e:1<=lim:=⋯
 have wl:=yT m w;have Z:=xl w (⋯:m<=1000);have d:inR (m:Int)=cI:=vY ⋯ ⋯;obtain⟨I,O,U,q⟩:=lh (p:=p) (w:=w) (wd:=wd) (wd':=wd') (T:=T) (T':=T') (L:=L) z m 0 .no .no .no ⋯;rw[<-Ot]at q;have a:ET (zN 8 [.int p,.str<|j7 m w,xi m w wd T,xi m w wd' T',.lst (L.map gv)])=cq (match V0 (yl w wd wd' L) 0 m with
  |some k=>.ret (.own [.str "arrow",.int (k:Int)])
  |none=>.next (m7 p m w wd wd' T T' L I O U)):=by
  show Zk _ _ _ (m7 p m w wd wd' T T' L .no .no .no)=_;rw[V7];rw[show jS (vE<|zg 1) (m7 p m w wd wd' T T' L .no .no .no)=cq ((Ml m).map λ(j:Nat)=>D.int (j:Int))by
   simp[m7,Z,wl,d,q8];rfl]
  exact q
 rw[yz];unfold VN;cases hb:V0 (yl w wd wd' L) 0 m with
 |some k=>
  rw[hb]at a;refine zW ?_;unfold zR;rw[a];rfl
 | none=>
  rw[hb]at a;refine zW<|zh a ?_;by_cases g:m<L.length
  ·rw[UJ g]
   have b:(m:Int)<(L.length:Int):=⋯
   unfold zR;rw[show lq (m7 p m w wd wd' T T' L I O U)=cq (.ret (.own [.str "arrow",.int 5]))by simp[lq,m7,je,wl,Z,g,b,f]];rfl
  ·rw[UY g]
   have b:¬(m:Int)<(L.length:Int):=⋯
   refine zh (show lq (m7 p m w wd wd' T T' L I O U)=cq (.next<|m7 p m w wd wd' T T' L I O U)by simp[lq,m7,je,wl,Z,g,b]) ?_;have t:(sB<|zG o7 (zG jX (eD<|zC<|dj (zm 2)<|sI 0)<|eD<|zC<|dj (zm 3)<|sI 0)<|sI 30) (m7 p m w wd wd' T T' L I O U)=cq (decide<|30<zq (λk=>(wd k:Int)) (m+1)+zq (λk=>(wd' k:Int)) (m+1)):=by have l:=JZ m w wd T;have n:=JZ m w wd' T';have o:hM 2 0=cq 0:=rfl;have h:=kj (λk=>(wd k:Int))<|m+1;have i:=kj (λk=>(wd' k:Int))<|m+1;simp[m7,je,l,n,o,h,i]
   by_cases Y:30<zq (λk=>(wd k:Int)) (m+1)+zq (λk=>(wd' k:Int)) (m+1)
   ·rw[UJ Y]
    unfold zR;rw[show lj (m7 p m w wd wd' T T' L I O U)=cq (.ret (.own [.str "many"]))by unfold lj;rw[ye,t,decide_eq_true Y];simp[e]];rfl
   ·rw[UY Y]
    exact zh (show lj (m7 p m w wd wd' T T' L I O U)=cq (.next<|m7 p m w wd wd' T T' L I O U)by unfold lj;rw[ye,t,decide_eq_false Y];rfl) rfl
end
section
variable{p q:Int}{m:Nat}{w:UK}{wd wd':UX}{T T':UW}{L:List Jn}{R1 R2:D}
theorem oq(h v:Nat)(x:Jn):yR [.tup [.int (h:Int),.int (v:Int)],gv x]=cq (.val<|.bl<|decide (x.1=h)&&decide (x.2.1=v)):=by
 have c:aC (zg 1) Wp (ro<|sI 2) [.val (.tup [.int (h:Int),.int (v:Int)]),.val (gv x)]=cq (.tup [.int (x.1:Int),.int (x.2.1:Int)]):=rfl;have q:gw (.tup [.int (x.1:Int),.int (x.2.1:Int)]) (.tup [.int (h:Int),.int (v:Int)])=cq (.bl<|decide (x.1=h)&&decide (x.2.1=v)):=by rw[EX rfl rfl];show cq (D.bl<|S0 (x.1:Int) (.int (h:Int))&&(S0 (x.2.1:Int) (.int (v:Int))&&cI))=_;simp only[S0,TC];congr 3<;>rw[N2]<;>simp<;>lia
 have ty:rJ Ty.tuple (gv x)=cI:=rfl;simp[yR,jv,zN,c,q,ty,Mm,-rZ]
def C3:=i8 F7 QK qD
theorem sf:xX=JX 6 (XN (j4 jM (zb (zg 0) (zb (zg 1) zB))) (Jg (zD jN (zb (zg 0) (zb (zg 1) zB)))) (XN vr (jG 3 (jU (jf jF (zb (zg 1) (zb (zg 0) zB))))) (XN (Br (ZC (zg 3)) (.tp [4,5]) C4 C3) (Zk (ZC (zg 3)) (.tp [4,5]) C3) (ni (sB (zG o7 (JP (zm 2)) (JP (zm 3)))) (Wh "NoArrow" (sI 5)) vr)))):=rfl
def rh(R1 R2:D)(m:Nat)(w:UK)(wd wd':UX)(L:List Jn)(I O:Cell):Ctx:=[.val R1,.val R2,.val<|.lst<|L.map gv,.val<|.lst<|kZ m w wd wd',I,O]
def xr(w:UK)(wd wd':UX)(k:Nat):D:=.tup [.int (eA w wd k:Nat),.int (ez w wd' k:Nat)]
theorem Fj{s:Nat}:F7 (rh R1 R2 m w wd wd' L (vI s)<|.val<|xr w wd wd' s)=cq (!yl w wd wd' L s):=by
 unfold F7 yl;by_cases h:s<L.length
 ·have I:¬((L.length:Int)<=(s:Int)):=⋯
  have O:=uY h;have U:=oq (eA w wd s) (ez w wd' s)<|L.getD s jz;simp only[rh,xr,V5,lX,px,ZV,w6,bJ,xV,wx,kG,jh,ZU,MW,Np,qg,jI,Mx,Ni,je,kE,MN,j6,h,if_true,O,U,fW,W0,bG,decide_eq_false I,Nw,if_false,decide_true,Bool.true_and]
 ·have I:(L.length:Int)<=(s:Int):=⋯
  simp[rh,je,I,h]
theorem ma(hm:m<=5):∀(n s:Nat) (I O:Cell),s+n=m->JC (.tp [4,5]) C4 C3 ((PL s n).map λ(k:Nat)=>D.tup [.int k,xr w wd wd' k]) (rh R1 R2 m w wd wd' L I O)=(V0 (yl w wd wd' L) s n).map (λk=>(("NoArrow" : Str),cq (k:Int)))/\(V0 (yl w wd wd' L) s n=da->∃Y Z,kD (.tp [4,5]) C3 ((PL s n).map λ(k:Nat)=>D.tup [.int k,xr w wd wd' k]) (rh R1 R2 m w wd wd' L I O)=cq (.next (rh R1 R2 m w wd wd' L Y Z)))
 |0,s,I,O,_=>⟨rfl,λ_=>⟨I,O,rfl⟩⟩
 | n+1,s,I,O,h=>by
  obtain⟨b,d⟩:=ma hm n (s+1) (vI s) (.val<|xr w wd wd' s) ⋯;have t:=Fj (R1:=R1) (R2:=R2) (m:=m) (w:=w) (wd:=wd) (wd':=wd') (L:=L) (s:=s);have is:inR (s:Int)=cI:=vY ⋯ ⋯;rw[OL,MT,ql,V0];show(match C4 (rh R1 R2 m w wd wd' L (vI s)<|.val<|xr w wd wd' s)with
   |some c=>cq c
   |none=>(C3<|rh R1 R2 m w wd wd' L (vI s)<|.val<|xr w wd wd' s).bind λa=>match a with
    |.next U=>JC (.tp [4,5]) C4 C3 _ U
    |.cont U=>JC (.tp [4,5]) C4 C3 _ U
    |_=>da)=_/\(_->∃Y Z,((C3<|rh R1 R2 m w wd wd' L (vI s)<|.val<|xr w wd wd' s).bind _)=_)
  by_cases z:yl w wd wd' L s=cI
  ·rw[z]at t
   have g:C4 (rh R1 R2 m w wd wd' L (vI s)<|.val<|xr w wd wd' s)=da:=by unfold C4 ni;rw[t];rfl
   have f:C3 (rh R1 R2 m w wd wd' L (vI s)<|.val<|xr w wd wd' s)=cq (.next<|rh R1 R2 m w wd wd' L (vI s)<|.val<|xr w wd wd' s):=by unfold C3;rw[ye,t];rfl
   rw[UJ z,g,f];exact⟨b,d⟩
  ·have i:yl w wd wd' L s=di:=by cases hh:yl w wd wd' L s with
    |true=>exact absurd hh z
    |false=>rfl
   rw[i]at t;have g:C4 (rh R1 R2 m w wd wd' L (vI s) (.val (xr w wd wd' s)))=cq (("NoArrow" : Str),cq (s:Int)):=by unfold C4 ni;rw[t];simp[Wh,rh,is]
   rw[UY z,g];exact⟨rfl,λe=>by cases e⟩
def rY(m:Nat)(w:UK)(wd wd':UX)(L:List Jn):Option Xn:=match V0 (yl w wd wd' L) 0 m with
 |some k=>cq (("NoArrow" : Str),cq (k:Int))
 |none=>if m<L.length then cq (("NoArrow" : Str),cq 5)else da
theorem HL(z:m<=4):xX [zK p m w wd T,zK p m w wd' T',.lst (L.map gv)]=rY m w wd wd' L:=by
 obtain⟨I,O⟩:=wt (p:=p) (w:=w) (wd:=wd) (wd':=wd') (T:=T) (T':=T') (⋯:m<=900);have sz:=QG (p:=p) (w:=w) (wd:=wd) (wd':=wd') (T:=T) (T':=T') z;obtain⟨b,d⟩:=ma (R1:=zK p m w wd T) (R2:=zK p m w wd' T') (w:=w) (wd:=wd) (wd':=wd') (L:=L) (⋯:m<=5) m 0 .no .no ⋯;rw[<-Ot]at b d;have a:ZC (zg 3) (rh (zK p m w wd T) (zK p m w wd' T') m w wd wd' L .no .no)=cq ((Ml m).map λ(k:Nat)=>D.tup [.int k,xr w wd wd' k]):=by show cq (qU<|kZ m w wd wd')=_;unfold kZ;rw[KA];rfl
 have f:(kZ m w wd wd').length=m:=by simp[kZ]
 rw[sf];show XN _ _ _ [.val (zK p m w wd T),.val<|zK p m w wd' T',.val<|.lst<|L.map gv,.no,.no,.no]=_;refine QA (γ':=[.val (zK p m w wd T),.val<|zK p m w wd' T',.val<|.lst<|L.map gv,.no,.no,.no]) (by simp[j4,I]) (by simp[O])<|QA (γ':=rh (zK p m w wd T) (zK p m w wd' T') m w wd wd' L .no .no) rfl (by simp[sz,rh]) ?_;unfold rY;cases hb:V0 (yl w wd wd' L) 0 m with
 |some k=>
  rw[hb]at b;refine Ka ?_;unfold Br;rw[a];exact b
 | none=>
  rw[hb]at b;obtain⟨Y,Z,d⟩:=d hb;refine QA (by unfold Br;rw[a];exact b) (by rw[V7,a];exact d) ?_;have U:inR 5=cI:=by decide
  by_cases g:m<L.length
  ·have e:(m:Int)<(L.length:Int):=⋯
   rw[UJ g];simp[ni,Wh,vr,rh,je,f,g,e,U]
  ·have e:¬(m:Int)<(L.length:Int):=⋯
   rw[UY g];simp[ni,Wh,vr,rh,je,f,g,e]
theorem om(h:rY m w wd wd' L=da):L.map gv=jJ m w wd wd' λk=>(L.getD k jz).2.2:=by
 unfold rY at h;cases hb:V0 (yl w wd wd' L) 0 m with
 |some k=>rw[hb]at h;cases h
 | none=>
  rw[hb]at h;have a:=VZ hb;by_cases g:m<L.length
  ·rw[UJ g]at h;cases h
  ·have O k:k<m->k<L.length/\(L.getD k jz).1=eA w wd k/\(L.getD k jz).2.1=ez w wd' k:=λI=>by
    have:=a k ⋯ ⋯;unfold yl at this;simpa using this
   have U:L.length=m:=by
    rcases Nat.eq_zero_or_pos m with z|z
    ·lia
    ·have:=(O (m-1) ⋯).1;lia
   apply TR;intro k;by_cases I:k<m
   ·rw[uY ⋯,bh I]
    unfold gv;rw[(O k I).2.1,(O k I).2.2]
   ·rw[List.getElem?_eq_none (by rw[MN];lia),List.getElem?_eq_none (by rw[Xg];lia)]
end
section
variable{p q:Int}{m m':Nat}{w w':UK}{wd wd':UX}{T T':UW}{L:List Jn}{R1 R2 J:D}
theorem LL:qt [.exc "Unlike" da]=cq (.own [.str "unlike"]):=by kernel_rfl
theorem IL:qt [.exc "TooMany" da]=cq (.own [.str "many"]):=by kernel_rfl
theorem LM(k:Int):qt [.exc "NoArrow" (cq k)]=cq (.own [.str "arrow",.int k]):=by kernel_rfl
def lp(R1 R2 J:D)(z:Int)(I O:Cell):Ctx:=[.val R1,.val R2,.val J,vI z,I,O,.no]
theorem V1{z:Int}{cl:Str}{nn:Option Int}{ds:List D}(I:y8 (lp R1 R2 J z (.val .ej)<|.val .ej)=cq (cl,nn))(O:qt [.exc cl nn]=cq (.own ds)):zQ [R1,R2,J,.int z]=cq (.own ds):=by
 have a:lU (lp R1 R2 J z (.val .ej)<|.val .ej)=cq (.next<|lp R1 R2 J z (.val<|.exc cl nn)<|.val .ej):=by unfold lU fN;rw[I];rfl
 rw[zQ];refine zW<|zh (γ':=lp R1 R2 J z (.val .ej) .no) rfl<|zh (γ':=lp R1 R2 J z (.val .ej)<|.val .ej) rfl<|zh a ?_;have t:pq (lp R1 R2 J z (.val<|.exc cl nn)<|.val .ej)=cq (.ret<|.own ds):=by unfold pq;rw[ye,show sB (zG vj (zg 4)<|qv .ej) (lp R1 R2 J z (.val<|.exc cl nn)<|.val .ej)=cq cI from rfl];simp[lp,O]
 unfold zR;rw[t];rfl
theorem bH{z:Int}{d:D}{I:Str}(O:y8 (lp R1 R2 J z (.val .ej)<|.val .ej)=da)(U:F6 (lp R1 R2 J z (.val .ej)<|.val .ej)=cq (.next<|lp R1 R2 J z (.val .ej)<|.val d))
 (hx:(hM 4 z).bind (λk=>[D.str "row",.str "fallen",.str "number",.str "number"][k]?)=cq (.str I)):zQ [R1,R2,J,.int z]=cq (.own [.str I,d]):=by
 have Z:=jk;have a:2<=lim:=⋯
 have Y:4<=lim:=⋯
 have b:lU (lp R1 R2 J z (.val .ej)<|.val .ej)=cq (.next<|lp R1 R2 J z (.val .ej)<|.val d):=by unfold lU fN;rw[O];exact U
 rw[zQ];refine zW<|zh (γ':=lp R1 R2 J z (.val .ej) .no) rfl<|zh (γ':=lp R1 R2 J z (.val .ej)<|.val .ej) rfl<|zh b<|zh (γ':=lp R1 R2 J z (.val .ej)<|.val d) ?_ ?_
 ·unfold pq
  rw[ye,show sB (zG vj (zg 4)<|qv .ej) (lp R1 R2 J z (.val .ej)<|.val d)=cq di from rfl];rfl
 ·simp[Fe,lp,a,Y,hx]
theorem mE(Z:m<=900)(I:m'<=900)(h:¬(p=q/\JU m m' w w')){z:Int}(hz:z=0\/z=1\/z=2\/z=3):zQ [zK p m w wd T,zK q m' w' wd' T',J,.int z]=cq (.own [.str "unlike"]):=by
 have g:=JK (p:=p) (p':=q) (w:=w) (w':=w') (wd:=wd) (T:=T) (wd':=wd') (T':=T') Z I h;have b:=JK (p:=q) (p':=p) (w:=w') (w':=w) (wd:=wd') (T:=T') (wd':=wd) (T':=T) I Z (λz=>h ⟨z.1.symm,z.2.1.symm,λk Y=>(z.2.2 k (by have:=z.2.1;lia)).symm⟩);have a:xX [zK p m w wd T,zK q m' w' wd' T',J]=cq ((("Unlike" : Str),da):Xn):=by rw[sf];exact Ka (by simp[zN,j4,g])
 have d:yf [zK p m w wd T,zK q m' w' wd' T',J]=cq ((("Unlike" : Str),da):Xn):=Ka (by simp[zN,j4,a]);have O:ZW [zK p m w wd T,zK q m' w' wd' T',J]=cq ((("Unlike" : Str),da):Xn):=Ka (by simp[zN,j4,a]);have g2:xW [zK q m' w' wd' T',zK p m w wd T]=cq ((("Unlike" : Str),da):Xn):=by simp[xW,JX,zN,j4,b]
 have U:xq [zK q m' w' wd' T',zK p m w wd T]=cq ((("Unlike" : Str),da):Xn):=by simp[xq,yw,JX,zN,j4,b]
 refine V1 ?_ LL;rcases hz with rfl|rfl|rfl|rfl<;>simp[y8,lp,ni,j4,d,O,g2,U]
theorem rX(U:Pr p)(Y:∀k,wd k<=6)(z:m<=5)(Z:∀k i j,0<=T k i j/\T k i j<p):∃bs ts us,(∀b∈bs,si ((m+1:Nat):Int) b)/\bs.length<=48/\xK [zK p m w wd T]=cq (.val<|ZG bs ts us):=by obtain⟨N,A,g,d,I,_,_,_,a⟩:=dY (b:=8) (T:=T) (w:=w) (wd:=wd) (m:=m) U ⋯ ⋯ (λk=>by have:=Y k;lia) z λk i j _ _ _=>Z k i j;refine⟨(Ml N).map λj=>ix<|A j,_,_,λb e=>?_,by rw[MN,Od];exact d,a⟩;obtain⟨j,O,rfl⟩:=Na.mp e;have:=(I j<|Mn.mp O).n1;have:=(I j<|Mn.mp O).le;exact⟨by show(0:Int)<=((A j).s:Int);lia,by show((A j).s:Int)<=(((A j).s+(A j).n-1:Nat):Int);lia,by show(((A j).s+(A j).n-1:Nat):Int)<_;lia⟩
theorem Yd{hs ws:UX}{a b:Nat}(z:∀k,hs k<=a)(I:∀k,ws k<=b):∀n,off hs ws n<=n*(a*b)
 |0=>NJ _
 |n+1=>by have:=Yd z I n;have:=Nat.mul_le_mul (z n)<|I n;show off hs ws n+hs n*ws n<=_;rw[SO];lia
theorem fJ{F G:CO Fl}{γ:Ctx}{r:Res}(e:F γ=cq (.ret r)):zR F G γ=cq (.ret r):=by rw[jK,e];rfl
theorem EN(I:Pr p)(z:m<=4)(h1:∀k,wd k<=6)(U:∀k,wd' k<=6)(r':∀k i j,0<=T' k i j/\T' k i j<p){J:UW}{d:D}(tg:jZ [zK p m w wd T,zK p m w wd' T']=cq (.val d)):
 ∃Y d,(Y=("parted" : Str)\/Y=("stuck" : Str))/\J9 [zK p m w wd T,zK p m w wd' T',.lst (jJ m w wd wd' J)]=cq (.val (.tup [.str Y,d])):=by
 have hl:=jk;have s:=I.pos;have p7:=I.le;have M:off wd wd' (m+1)<=189:=Nl (Yd (a:=6) (b:=6) h1 U<|m+1) ⋯;have Q:off (eA w wd) (ez w wd') m<=189:=Nl (Yd (a:=6) (b:=6) (λk=>by rw[<-qT];exact h1 _) (λk=>by rw[<-xf];exact U _) m) ⋯;have o k:wd k<=9:=by have:=h1 k;lia
 have O k:wd' k<=9:=by have:=U k;lia
 have H:=AN (p:=p) (w:=w) (wd:=wd) (wd':=wd') (T:=T) (T':=T') (J:=J) z;have gt:=Yk (w:=w) (T:=T) s ⋯ z o O r' ⋯ ⋯;have wr:yO [.lst (jJ m w wd wd' J)]=cq (.val<|.tup<|zH (off (eA w wd) (ez w wd') m)<|vp (eA w wd) (ez w wd') J m):=Kb (n:=m) (hs:=eA w wd) (ws:=ez w wd') (T:=J) ⋯;have rs:=yW (p:=p) (w:=w) (wd:=wd) (wd':=wd') (T:=T) (T':=T') z;have K:jF [zK p m w wd' T',zK p m w wd T]=cq (.own<|r9 m (eA w wd)<|ez w wd'):=QG z;have ti:=λx=>vL (n:=m+1) (hs:=wd) (ws:=wd') ⋯ (λk=>by have:=o k;lia) (λk=>by have:=O k;lia) x rfl;have tj:=λx=>vL (n:=m) (hs:=eA w wd) (ws:=ez w wd') ⋯ (I_ o) (c_ O) x rfl;generalize Bl p m w wd wd' T T'=g at *;generalize vp (eA w wd) (ez w wd') J m=u at *;generalize off wd wd' (m+1)=N at *;generalize off (eA w wd) (ez w wd') m=A at *;have t:A<=lim:=⋯
 have C:2<=lim:=⋯
 have F:m<=lim:=⋯
 have ng:zT (.nm 0) jO (mV<|zg 0) [Cell.no] (zH A u)=cq (zH A λe=> -(u e)):=by unfold zH;exact zw _ _ λe _=>zy rfl rfl rfl
 have E:=Jz .L (λe=> -(u e)) s t;simp only[su]at E;let f:Cell->Cell->Cell->Cell->Cell->Ctx:=λR S W X c7=>[.val (zK p m w wd T),.val<|zK p m w wd' T',.val<|.lst<|jJ m w wd wd' J,R,S,W,X,c7];let P:=Cell.val<|.int p;let G:=Cell.val<|jR A N g;let B:=Cell.val<|.tup<|zH A λe=> -(u e)%p;have l r:C_ (f P G B .no .no)=cq (.ret r)->J9 [zK p m w wd T,zK p m w wd' T',.lst (jJ m w wd wd' J)]=cq r:=λh=>
  zW (zh (γ':=f .no .no .no .no .no) (by simp[f,zN,H])<|zh (γ':=f .no .no .no .no .no) (by simp[f,tg])<|zh (γ':=f P .no .no .no .no) rfl<|zh (γ':=f P G .no .no .no) (by simp[f,P,G,gt])<|zh (γ':=f P G B .no .no) (by simp[f,P,G,B,wr,jD,wR,t,jm,ng,E]) h)
 rcases mQ I (⋯:A<=190) (⋯:N<=190) g (λe=> -(u e)%p) (λe _=>⟨Nj _ ⋯,Ng _ s⟩)with⟨x,hx⟩|⟨Z,y,y1,y2⟩
 ·obtain⟨x,Z,_,_⟩:=KO I (⋯:A<=190) (⋯:N<=190) g (λe=> -(u e)%p) x (λe _=>⟨Nj _ ⋯,Ng _ s⟩) hx
  refine⟨_,_,.inl rfl,l _ (zh (γ':=f P G B (.val (.tup (zH N x))) .no) (by simp[f,P,G,B,Z]) (fJ (r:=.val (.tup [.str "parted",.lst (ja (m+1) wd wd' (aQ wd wd' x))])) ?_))⟩;rw[ye,show sB (zG vj (zg 6) (qv .ej)) (f P G B (.val (.tup (zH N x))) .no)=cq cI from rfl];simp[f,rs,ti,C]
 ·obtain⟨x,we,_⟩:=bU I Q M g (λe=> -(u e)%p) y y1 y2
  have tl:=Wj m (eA w wd) (ez w wd')<|aQ (eA w wd) (ez w wd') x;have kk:zT (.nm 0) jO (zD jE<|zb (zg 0) zB) [Cell.no] (ja m (eA w wd) (ez w wd')<|aQ (eA w wd) (ez w wd') x)=cq (ja m (ez w wd') (eA w wd) λk i j=>aQ (eA w wd) (ez w wd') x k j i):=by unfold ja;refine zw _ _ λk hk=>zy rfl rfl ?_;have a1:=I_ (w:=w) o k;have a2:=c_ (w:=w) O k;have ov:=kq (aQ (eA w wd) (ez w wd') x k) (⋯:eA w wd k<=lim) (⋯:ez w wd' k<=lim);simp[ov]
  exact⟨_,_,.inr rfl,l _<|zh (γ':=f P G B (.val .ej) .no) (by simp[f,P,G,B,Z])<|zh (γ':=f P G B (.val .ej) .no) rfl<|zh (γ':=f P G B (.val .ej)<|.val<|.lst<|ja m (eA w wd) (ez w wd')<|aQ (eA w wd) (ez w wd') x) (by simp[f,P,G,B,K,we,tj])<|by simp[f,jD,tl,F,C,jm,kk];rfl⟩
def Fn(m:Nat)(w:UK)(wd wd':UX)(L:List Jn)(A0 O:List D):Prop:=(∃a,VN m w wd wd' L=.own a/\A0=a/\O=a/\l8 (.lst a)=cI)\/(VN m w wd wd' L=.val .ej/\∃d I b,A0=[.str "row",d]/\O=[.str "fallen",.tup [.str I,b]]/\(I=("parted" : Str)\/I=("stuck" : Str)))
theorem BQ(hp:Pr p)(z:m<=4)(h1:∀k,wd k<=6)(U:∀k,wd' k<=6)(r:∀k i j,0<=T k i j/\T k i j<p)(r':∀k i j,0<=T' k i j/\T' k i j<p):
 ∃A0 A1 O x3,zQ [zK p m w wd T,zK p m w wd' T',.lst (L.map gv),.int 0]=cq (.own A0)/\zQ [zK p m w wd T,zK p m w wd' T',.lst (L.map gv),.int 1]=cq (.own A1)/\zQ [zK p m w wd T,zK p m w wd' T',.lst (L.map gv),.int 2]=cq (.own [.str "number",.int O])/\zQ [zK p m w wd T,zK p m w wd' T',.lst (L.map gv),.int 3]=cq (.own [.str "number",.int x3])/\Fn m w wd wd' L A0 A1:=by
 have S:=jk;have n:=(wt (p:=p) (w:=w) (wd:=wd') (T:=T') (wd':=wd) (T':=T)<|show m<=900 by lia).1;have g2:xW [zK p m w wd' T',zK p m w wd T]=da:=by simp[xW,JX,zN,j4,n]
 have g3:xq [zK p m w wd' T',zK p m w wd T]=da:=by simp[xq,yw,JX,zN,j4,n]
 obtain⟨O,f2⟩:∃O,xk [zK p m w wd' T',zK p m w wd T]=cq (.val (.int O)):=⟨_,nG (p:=p) (w:=w) (wd1:=wd') (wd2:=wd) (T1:=T') (T2:=T) z (λk=>by have:=U k;lia) (λk=>by have:=h1 k;lia)⟩;obtain⟨Q,t1,u1,G,W,x⟩:=rX (w:=w) (T:=T') hp U (⋯:m<=5) r';obtain⟨R,t2,u2,H,X,y⟩:=rX (w:=w) (T:=T) hp h1 (⋯:m<=5) r;obtain⟨x3,B⟩:∃x3,kx [zK p m w wd' T',zK p m w wd T]=cq (.val (.int x3)):=⟨_,sG z (pf (⋯:m<=5) G H ⋯ ⋯ x y) f2⟩;have Y:zQ [zK p m w wd T,zK p m w wd' T',.lst (L.map gv),.int 2]=cq (.own [.str "number",.int O]):=bH (by simp[y8,lp,ni,j4,g2]) (by simp[F6,lp,f2]) rfl;have Z:zQ [zK p m w wd T,zK p m w wd' T',.lst (L.map gv),.int 3]=cq (.own [.str "number",.int x3]):=bH (by simp[y8,lp,ni,j4,g3]) (by simp[F6,lp,B]) rfl;have a:=HL (p:=p) (w:=w) (wd:=wd) (wd':=wd') (T:=T) (T':=T') (L:=L) z;have u:∀{c:Xn} {f:List D},rY m w wd wd' L=cq c->qt [.exc c.1 c.2]=cq (.own f)->zQ [zK p m w wd T,zK p m w wd' T',.lst (L.map gv),.int 0]=cq (.own f)/\zQ [zK p m w wd T,zK p m w wd' T',.lst (L.map gv),.int 1]=cq (.own f):=λ{c f} h t=>by rw[h]at a;have l:yf [zK p m w wd T,zK p m w wd' T',.lst (L.map gv)]=cq c:=Ka (by simp[zN,j4,a]);have g1:ZW [zK p m w wd T,zK p m w wd' T',.lst (L.map gv)]=cq c:=Ka (by simp[zN,j4,a]);exact⟨V1 (cl:=c.1) (nn:=c.2) (by simp[y8,lp,ni,j4,l]) t,V1 (cl:=c.1) (nn:=c.2) (by simp[y8,lp,ni,j4,g1]) t⟩
 cases hj:rY m w wd wd' L with
 | some c=>
  have:∃k:Int,c=(("NoArrow" : Str),cq k)/\VN m w wd wd' L=.own [.str "arrow",.int k]:=by
   unfold rY at hj;unfold VN;cases hb:V0 (yl w wd wd' L) 0 m with
   |some k=>rw[hb]at hj;cases hj;exact⟨_,rfl,rfl⟩
   |none=>
    rw[hb]at hj;by_cases g:m<L.length
    ·rw[UJ g]at hj;cases hj;exact⟨5,rfl,by rw[UJ g]⟩
    ·rw[UY g]at hj;cases hj
  obtain⟨k,rfl,b⟩:=this;obtain⟨N,P⟩:=u hj<|LM k;exact⟨_,_,_,_,N,P,Y,Z,.inl ⟨_,b,rfl,rfl,by kernel_rfl⟩⟩
 | none=>
  obtain⟨I,A⟩:∃I,L.map gv=jJ m w wd wd' I:=⟨_,om hj⟩;have b:VN m w wd wd' L=if 30<zq (λk=>(wd k:Int)) (m+1)+zq (λk=>(wd' k:Int)) (m+1)then .own [.str "many"]else .val .ej:=by
   unfold rY at hj;unfold VN;cases hb:V0 (yl w wd wd' L) 0 m with
   |some k=>rw[hb]at hj;cases hj
   |none=>
    rw[hb]at hj;by_cases g:m<L.length
    ·rw[UJ g]at hj;cases hj
    ·rw[UY g]
  rw[hj]at a;rw[A]at a Y Z ⊢;have s:=AN (p:=p) (w:=w) (wd:=wd) (wd':=wd') (T:=T) (T':=T') (J:=I) z;have l:∀{o:Option Xn},ji [zK p m w wd T,zK p m w wd' T']=o->yf [zK p m w wd T,zK p m w wd' T',.lst (jJ m w wd wd' I)]=o:=λh=>QA (γ':=[.val (zK p m w wd T),.val<|zK p m w wd' T',.val (.lst<|jJ m w wd wd' I)]) (by simp[zN,j4,a]) (by simp[zN,s]) (by simp[j4,Yx,JX,zN,h]);have g1:∀{o:Option Xn},ji [zK p m w wd T,zK p m w wd' T']=o->ZW [zK p m w wd T,zK p m w wd' T',.lst (jJ m w wd wd' I)]=o:=λh=>QA (γ':=zN 8 [zK p m w wd T,zK p m w wd' T',.lst (jJ m w wd wd' I)]) (by simp[zN,j4,a]) (by simp[zN,s]) (by simp[j4,zN,h]);by_cases g:30<zq (λk=>(wd k:Int)) (m+1)+zq (λk=>(wd' k:Int)) (m+1)
  ·have e:=mH (p:=p) (w:=w) (wd:=wd) (wd':=wd') (T:=T) (T':=T') (⋯:m<=900) g
   rw[UJ g]at b;exact⟨_,_,_,_,V1 (by simp[y8,lp,ni,j4,l e]) IL,V1 (by simp[y8,lp,ni,j4,g1 e]) IL,Y,Z,.inl ⟨_,b,rfl,rfl,by kernel_rfl⟩⟩
  ·obtain⟨K,e⟩:=BA (p:=p) (w:=w) (wd:=wd) (wd':=wd') (T:=T) (T':=T') (⋯:m<=900) g
   rw[UY g]at b;have F:=Hl (p:=p) (w:=w) (wd:=wd) (wd':=wd') (T:=T) (T':=T') (J:=I) z (λk=>by have:=h1 k;lia) (λk=>by have:=U k;lia) (by
    rw[zO (g:=λk=>(wd k:Int)+(wd' k:Int)) λk _=>by lia,qJ];lia)
   obtain⟨M,d,E,C⟩:=EN (w:=w) (T:=T) (T':=T') (J:=I) hp z h1 U r' K;exact⟨_,_,_,_,bH (d:=uV p m w wd wd' T T' I) (by simp[y8,lp,ni,j4,l e]) (by simp[F6,lp,F]) rfl,bH (d:=.tup [.str M,d]) (by simp[y8,lp,ni,j4,g1 e]) (by simp[F6,lp,C]) rfl,Y,Z,.inr ⟨b,_,_,_,rfl,rfl,E⟩⟩
end
theorem YZ{F G:CO Fl}{γ:Ctx}{r:Res}(e:F γ=cq (.ret r)):zR F G γ=cq (.ret r):=by rw[jK,e];rfl
def Bm(x:Str):Option D:=(Wr (xA (qv (.str "lr")) (fT (xA (qv (.str x)) (sI 0)))) (GN (qv (.str x)) (ro (sI 1)) Wp)) []
section
variable{ns:List Int}{p q c:Int}{m m':Nat}{w w':UK}{wd wd':UX}{T T':UW}
def mr(w:UK)(k:Nat):Bool:=if k=0 then !w 0 else w k
theorem Aq(z:0<m)(I:m<=4):Bm (j7 m w)=cq (.str<|j7 m<|mr w):=by
 rw[eU,eU];rcases (⋯:m=1\/m=2\/m=3\/m=4)with rfl|rfl|rfl|rfl
 ·show Bm (wl [w 0])=cq (.str<|wl [!w 0])
  generalize w 0=a;cases a<;>kernel_rfl
 ·show Bm (wl [w 0,w 1])=cq (.str<|wl [!w 0,w 1])
  generalize w 0=a;generalize w 1=b;cases a<;>cases b<;>kernel_rfl
 ·show Bm (wl [w 0,w 1,w 2])=cq (.str<|wl [!w 0,w 1,w 2])
  generalize w 0=a;generalize w 1=b;generalize w 2=c;cases a<;>cases b<;>cases c<;>kernel_rfl
 ·show Bm (wl [w 0,w 1,w 2,w 3])=cq (.str<|wl [!w 0,w 1,w 2,w 3])
  generalize w 0=a;generalize w 1=b;generalize w 2=c;generalize w 3=d;cases a<;>cases b<;>cases c<;>cases d<;>kernel_rfl
def vC(ns:List Int)(c p:Int)(x:Str)(b:Nat)(U V J:D)(R:D)(o:Int)(I O Y Z:Cell):Ctx:=[.val (VP ns),vI c,vI p,.val<|.str x,vI b,.val U,.val V,.val J,.val R,vI o,I,O,Y,Z]
theorem Hg(a7:ns.length<=63)(hc:0<=c)(hp:Pr p)(hm:m<=4){b:Nat}(hb:b<=6)(U V J R:D)(o:Int):∃R' I O,(R'=R\/∃q m' w' wd' T',m'<=5/\¬(p=q/\JU m m' w w')/\R'=zK q m' w' wd' T')/\
 ∃γ1 d_,fg (vC ns c p (j7 m w) b U V J R o .no .no .no .no)=cq (.next γ1)/\ff γ1=cq (.next d_)/\eZ d_=cq (.next<|vC ns c p (j7 m w) b U V J R' o I O .no .no):=by
 let σ:D->Cell->Cell->Ctx:=λR I O=>vC ns c p (j7 m w) b U V J R o I O .no .no;have wl:=yT m w;have g:=xl w (⋯:m<=1000);have A:=hp.pos;have j O R:o≠1->fg (σ R .no O)=cq (.next<|σ R .no O):=λh=>by unfold fg;rw[ye,show(sB<|zG gw (zg 9)<|sI 1) (σ R .no O)=cq di by simp[σ,vC,h]];rfl
 have l I R:o≠2->ff (σ R I .no)=cq (.next<|σ R I .no):=λh=>by unfold ff;rw[ye,show(ZD (sB<|zG gw (zg 9)<|sI 2)<|sB<|zG DN (vE<|zg 3)<|sI 5) (σ R I .no)=cq di by simp[σ,vC,h]];rfl
 have n I O R:¬(o=3/\0<m)->eZ (σ R I O)=cq (.next<|σ R I O):=λh=>by
  unfold eZ;rw[ye,show(ZD (sB<|zG gw (zg 9)<|sI 3)<|sB<|zG o7 (vE<|zg 3)<|sI 0) (σ R I O)=cq di by
   by_cases r:o=3
   ·have L:¬0<m:=λz=>h ⟨r,z⟩
    simp[σ,vC,r,wl,g];lia
   ·simp[σ,vC,r]]
  rfl
 have u:p<10:=by rcases hp with rfl|rfl|rfl|rfl<;>decide
 by_cases i:o=1
 ·obtain⟨q,y,B,eq⟩:∃q:Int,(q=2\/q=3\/q=5\/q=7)/\p≠q/\(dj (jH<|jL<|zb (sI 3)<|zb (sI 5)<|zb (sI 7)<|zb (sI 2) zB)<|tJ (jH<|jL<|zb (sI 2)<|zb (sI 3)<|zb (sI 5)<|zb (sI 7) zB)<|zg 2) (σ R .no .no)=cq (.int q):=by
   refine⟨if p=2 then 3 else if p=3 then 5 else if p=5 then 7 else 2,?_,?_,?_⟩
   ·rcases hp with rfl|rfl|rfl|rfl<;>decide
   ·rcases hp with rfl|rfl|rfl|rfl<;>decide
   ·rcases hp with rfl|rfl|rfl|rfl<;>kernel_rfl
  have H:0<q:=by rcases y with rfl|rfl|rfl|rfl<;>decide
  have as:q<10:=by rcases y with rfl|rfl|rfl|rfl<;>decide
  obtain⟨Y,Z,e,_,a⟩:=V8 hb a7 (t:=60) (p:=q) (few:=1) ⋯ ⋯ H as (⋯:m<=5) w;have d:=vZ (p:=q) (⋯:m<=5) w (wd:=Y) (λk=>by have:=e k;lia) Z;refine⟨zK q m w Y Z,vI q,.no,.inr ⟨q,m,w,Y,Z,⋯,λz=>B z.1,rfl⟩,_,_,?_,l _ _ ⋯,n _ _ _ λz=>by lia⟩;unfold fg;rw[ye,show(sB<|zG gw (zg 9)<|sI 1) (σ R .no .no)=cq cI by simp[σ,vC,i]];refine zh (γ':=σ R (vI q) .no) (by rw[yN,eq];rfl) ?_;simp[σ,vC,a,d]
 by_cases s:o=2
 ·obtain⟨x,G⟩:∃x:Bool,(xA (qv (.str "rl")) (zG wj (zG JI (zg 1) (sI 20)) (sI 2))) (σ R .no .no)=cq (.str (kJ (hB x))):=by
   have:(zG wj (zG JI (zg 1)<|sI 20)<|sI 2) (σ R .no .no)=cq (.int<|c/20%2):=by simp[σ,vC]
   rcases (⋯:c/20%2=0\/c/20%2=1)with z|z
   ·exact⟨di,by rw[vk,this,z];kernel_rfl⟩
   ·exact⟨cI,by rw[vk,this,z];kernel_rfl⟩
  let w':Nat->Bool:=λk=>if k<m then w k else x;have C:j7 m w=j7 m w':=b_.mpr ⟨rfl,λk F=>by show _=if k<m then w k else x;rw[UJ F]⟩;have E:j7 m w++kJ (hB x)=j7 (m+1) w':=by rw[<-eV,<-C,show w' m=x from UY (Nq m)]
  have K:ju (kJ<|hB x)=cI:=by cases x<;>decide
  obtain⟨Y,Z,e,_,a⟩:=V8 (b:=2) ⋯ a7 (t:=60) (p:=p) (few:=1) ⋯ ⋯ A u (⋯:m+1<=5) w';have d:=vZ (p:=p) (⋯:m+1<=5) w' (wd:=Y) (λk=>by have:=e k;lia) Z;refine⟨zK p (m+1) w' Y Z,.no,.val<|.str<|j7 (m+1) w',.inr ⟨p,m+1,w',Y,Z,⋯,λz=>by have:=z.2.1;lia,rfl⟩,_,_,j _ _ i,?_,n _ _ _ λz=>by lia⟩;unfold ff;rw[ye,show(ZD (sB<|zG gw (zg 9)<|sI 2)<|sB<|zG DN (vE<|zg 3)<|sI 5) (σ R .no .no)=cq cI by
   have:(m:Int)<5:=⋯
   simp[σ,vC,s,wl,g,this]]
  refine zh (γ':=vC ns c p (j7 m w) b U V J R o .no (.val<|.str<|j7 (m+1) w') .no .no) ?_ ?_
  ·rw[yN]
   have:(Wr (zg 3) (xA (qv (.str "rl")) (zG wj (zG JI (zg 1) (sI 20)) (sI 2)))) (σ R .no .no)=cq (.str (j7 (m+1) w')):=by unfold Wr;rw[G,<-E];simp[σ,vC,g,K]
   rw[this];rfl
  ·have a:qd [VP ns,.int 60,.int p,.str<|j7 (m+1) w',.int 2,.int 1]=cq (.val<|xi (m+1) w' Y Z):=a
   simp[σ,vC,a,d]
 by_cases f:o=3/\0<m
 ·obtain⟨Y,Z,e,_,a⟩:=V8 (b:=2) ⋯ a7 (t:=60) (p:=p) (few:=1) ⋯ ⋯ A u (⋯:m<=5) (mr w)
  have d:=vZ (p:=p) (⋯:m<=5) (mr w) (wd:=Y) (λk=>by have:=e k;lia) Z;refine⟨zK p m (mr w) Y Z,.no,.val<|.str<|j7 m<|mr w,.inr ⟨p,m,mr w,Y,Z,⋯,λz=>by have:=z.2.2 0 f.2;unfold mr at this;simp at this,rfl⟩,_,_,j _ _ i,l _ _ s,?_⟩;unfold eZ;rw[ye,show(ZD (sB<|zG gw (zg 9)<|sI 3)<|sB<|zG o7 (vE<|zg 3)<|sI 0) (σ R .no .no)=cq cI by simp[σ,vC,f.1,wl,g,f.2]];refine zh (γ':=vC ns c p (j7 m w) b U V J R o .no (.val<|.str<|j7 m<|mr w) .no .no) ?_ ?_
  ·have:=Aq (w:=w) f.2 hm
   rw[yN];show(Bm<|j7 m w).map _=_;rw[this];rfl
  ·have a:qd [VP ns,.int 60,.int p,.str<|j7 m<|mr w,.int 2,.int 1]=cq (.val<|xi m (mr w) Y Z):=a
   simp[σ,vC,a,d]
 ·exact⟨R,.no,.no,.inl rfl,_,_,j _ _ i,l _ _ s,n _ _ _ f⟩
theorem pL(hm:m<=900)(Z:m'<=900)(b:Nat)(U V J M:D)(o:Int)(I O:Cell):X1 (vC ns c p (j7 m w) b U V J (zK q m' w' wd' T') o I O (.val M) .no)=cq (!decide (p=q/\JU m m' w w')):=by
 have wl:=yT m w;have g:=xl w (⋯:m<=1000);have s:Bk (vC ns c p (j7 m w) b U V J (zK q m' w' wd' T') o I O (.val M) .no)=cq (.str<|j7 m' w'):=by
  have e:=kn (p:=q) (w:=w') (wd:=wd') (T:=T') Z;have z:qL [zK q m' w' wd' T']=(Bk (vC ns c p (j7 m w) b U V J (zK q m' w' wd' T') o I O (.val M) .no)).map Res.val:=by have j:(fS (qv (.str "")) (jH (zV (zY (zC (dj (zm 0) (sI 2)))) (.nm 0) 1 [] jO (dj (zm 0) (sI 0))))) (zN 1 [zK q m' w' wd' T'])=Bk (vC ns c p (j7 m w) b U V J (zK q m' w' wd' T') o I O (.val M) .no):=rfl;unfold qL jv;rw[w9,j];cases Bk (vC ns c p (j7 m w) b U V J (zK q m' w' wd' T') o I O (.val M) .no)<;>rfl
  rw[z]at e;cases h:Bk (vC ns c p (j7 m w) b U V J (zK q m' w' wd' T') o I O (.val M) .no)with
  |none=>rw[h]at e;cases e
  |some d=>rw[h]at e;cases e;rfl
 have d:mc (.str<|j7 m' w') (.str<|j7 m w)=cq (.bl<|!decide (JU m' m w' w)):=by unfold mc;rw[UJ ⟨Yb m' w',Yb m w⟩];congr 3;rw[N2];show S1 (j7 m' w') (.str<|j7 m w)=cI↔_;simp only[S1,beq_iff_eq,decide_eq_true_eq,b_]
 have f:JU m' m w' w↔JU m m' w w':=⟨λz=>⟨z.1.symm,λk l=>(z.2 k (by have:=z.1;lia)).symm⟩,λz=>⟨z.1.symm,λk l=>(z.2 k (by have:=z.1;lia)).symm⟩⟩;have n:hM 3 0=cq 0:=rfl;have r:hM 3 2=cq 2:=rfl;have t:=qW q m' w' wd' T';unfold X1;rw[V5,V5,px,px,px,ZV,ZV,ZV,s];simp[vC,qA,t,n,r,wl,g,d];by_cases a:q=p
 ·by_cases Y:m'=m
  ·rw[Y]at f
   simp[a,Y];exact f
  ·have:¬JU m m' w w':=λz=>Y z.1.symm
   have i:¬(m':Int)=(m:Int):=⋯
   simp[a,i,this]
 ·have:¬p=q:=λz=>a z.symm
  simp[a,this]
end
theorem Ij(m:Nat)(w:UK)(wd wd':UX)(J:UW):jJ m w wd wd' J=((Ml m).map λk=>((eA w wd k,ez w wd' k,J k):Jn)).map gv:=by rw[Nh];rfl
theorem Hj(ns:List Int)(a4:ns.length<=63):Ja [VP ns]=cq (.val<|.bl cI):=by
 have hl:=jk;obtain⟨e1,H,b1⟩:=W4 a4 (k:=0) ⋯ ⋯;generalize Zs ns 0=c at e1 H b1;obtain⟨pn,n,ep,b0⟩:=Cy H;have G:=n.pos;obtain⟨p,b2⟩:∃p:Int,(pn:Int)=p:=⟨_,rfl⟩;rw[b2]at n ep G;have J:p<10:=by rcases n with rfl|rfl|rfl|rfl<;>decide
 obtain⟨m,em,F⟩:∃m:Nat,1+c/4%5=1+(m:Int)/\m<=4:=⟨(c/4%5).toNat,⋯,⋯⟩;obtain⟨w,ew⟩:=Bt (c:=c/20) ⋯ (m:=m) ⋯;obtain⟨b,N,eb,b7⟩:∃b:Nat,b<=6/\([D.int 3,.int 3,.int 3,.int 6])[(c/640%4).toNat]? = cq (.int (b:Int))/\hM 4 (c/640%4)=cq (c/640%4).toNat:=by
  rcases (⋯:c/640%4=0\/c/640%4=1\/c/640%4=2\/c/640%4=3)with z|z|z|z<;>rw[z]
  ·exact⟨3,⋯,rfl,rfl⟩
  ·exact⟨3,⋯,rfl,rfl⟩
  ·exact⟨3,⋯,rfl,rfl⟩
  ·exact⟨6,⋯,rfl,rfl⟩
 obtain⟨U,Y,ha,ra,ea⟩:=V8 N a4 (t:=1) (p:=p) (few:=1) ⋯ ⋯ G J (⋯:m<=5) w;obtain⟨I,O,bb,rb,be⟩:=V8 N a4 (t:=60) (p:=p) (few:=1) ⋯ ⋯ G J (⋯:m<=5) w;have s k:U k<=6:=by have:=ha k;lia
 have u k:I k<=6:=by have:=bb k;lia
 obtain⟨J0,_,E⟩:=uX (few:=1) a4 G J F w (wd:=U) (wd':=I) (λk=>by have:=s k;lia) (λk=>by have:=u k;lia) Y O;rw[Ij]at E;obtain⟨o,h0,E⟩:∃o,JB 4 6 o/\kh [VP ns,.int 120,.int p,.str<|j7 m w,xi m w U Y,xi m w I O,.int 1]=cq (.own<|o.map gv):=⟨_,⟨by simpa using F,λx hx=>by obtain⟨k,_,rfl⟩:=Na.mp hx;exact⟨by show eA w U k<=6;rw[<-qT];exact s _,by show ez w I k<=6;rw[<-xf];exact u _⟩⟩,E⟩
 obtain⟨L1,h1,bi⟩:=aA (L:=o) (c:=c/3000) h0 ⋯ ⋯;obtain⟨L,hL,el⟩:=aA (L:=L1) (c:=c/40000) h1 ⋯ ⋯;have hh:=vZ (p:=p) (⋯:m<=5) w (wd:=I) (λk=>by have:=u k;lia) O;have hu:=vZ (p:=p) (⋯:m<=5) w (wd:=U) (λk=>by have:=s k;lia) Y;obtain⟨r,K,M,hR,γ1,d_,bx,c0,c1⟩:=Hg (c:=c) (w:=w) a4 H n F N (xi m w U Y) (xi m w I O) (.lst<|L.map gv) (zK p m w I O)<|c/2560%6;let γ:Cell->Cell->Ctx:=λca cb=>vC ns c p (j7 m w) b (xi m w U Y) (xi m w I O) (.lst<|L.map gv) r (c/2560%6) K M ca cb;let a:Cell->Cell->Cell->Cell->Cell->Cell->Cell->Cell->Ctx:=λc2 c3 c4 c5 c6 c7 c8 c9=>[.val (VP ns),vI c,c2,c3,c4,c5,c6,c7,c8,c9,.no,.no,.no,.no];let P:=Cell.val<|.int p;let W:=Cell.val<|.str<|j7 m w;let B:=Cell.val<|.int (b:Int);let A:=Cell.val<|xi m w U Y;let h:=Cell.val<|xi m w I O;let j:=Cell.val<|.lst<|L.map gv;have S:∀{A:Nat->List D},(∀z:Nat,z<4->zQ [zK p m w U Y,r,.lst<|L.map gv,.int (z:Int)]=cq (.own<|A z))->
  (zR eY<|zR Bv<|zR mD<|zR sE Bu) (γ (.val<|.lst [.lst (A 0),.lst<|A 1,.lst<|A 2,.lst (A 3)]) .no)=cq (.ret<|.val<|.bl cI)->Ja [VP ns]=cq (.val<|.bl cI):=λ{Q} y z=>by
  have co:sF (γ .no .no)=cq (.next<|γ (.val<|.lst [.lst (Q 0),.lst<|Q 1,.lst<|Q 2,.lst (Q 3)]) .no):=by
   have k:zT (.nm 0) jO (jU<|jf zQ<|zb (zD jQ<|zb (zg 1)<|zb (zg 2)<|zb (zg 3) zB)<|zb (zg 5)<|zb (jU<|QL<|zm 4)<|zb (zg 0) zB) [Cell.no,P,W,A,j,.val r] ((Ml 4).map λi:Nat=>D.int (i:Int))=cq ((Ml 4).map λi=>.lst (Q i)):=
    zw _ _ λi hi=>zy rfl rfl (by simp[P,W,A,j,hu,y i<|Mn.mp hi,je])
   have l4:4<=lim:=⋯
   unfold sF;rw[yN,V6,kF];rw[show jS (sI 4) (γ .no .no)=cq ((Ml 4).map λi:Nat=>D.int (i:Int))from rfl];rw[Mx,UJ (by show 4<=lim;exact l4),show jm 1 [2,3,5,7,8] (γ .no .no)=[Cell.no,P,W,A,j,.val r]from rfl,k];rfl
  rw[Ja];refine zW<|zh (γ':=a .no .no .no .no .no .no .no .no) (by simp[IA,zN,e1,a])<|zh (γ':=a P .no .no .no .no .no .no .no) (by simp[Iz,a,b0,ep,P])<|zh (γ':=a P W .no .no .no .no .no .no) (by simp[Iy,a,em,ew,P,W])<|zh (γ':=a P W B .no .no .no .no .no) (by simp[Iw,a,b7,eb,B])<|zh (γ':=a P W B A .no .no .no .no) (by simp[Iv,a,P,W,B,A,ea])<|zh (γ':=a P W B A h .no .no .no) (by simp[Iu,a,P,W,B,h,be])<|zh (γ':=a P W B A h j .no .no) (by simp[Ir,a,P,W,A,h,j,E,bi,el])<|zh (γ':=a P W B A h j (.val<|zK p m w I O) .no) (by simp[Iq,a,P,W,h,hh])<|zh (γ':=vC ns c p (j7 m w) b (xi m w U Y) (xi m w I O) (.lst<|L.map gv) (zK p m w I O) (c/2560%6) .no .no .no .no) (by simp[Ip,a,vC,P,W,B,A,h,j])<|zh bx<|zh c0<|zh c1<|zh co z
 have l1:1<=lim:=⋯
 have l4:4<=lim:=⋯
 have l2:2<=lim:=⋯
 rcases hR with rfl|⟨q,m',w',wd',T',cy,as,rfl⟩
 ·obtain⟨l,Z,f,g,y0,y1,y2,y3,gd⟩:=BQ (L:=L) (w:=w) n F s u ra rb
  refine S (A:=λz=>if z=0 then l else if z=1 then Z else if z=2 then [.str "number",.int f]else [.str "number",.int g]) (λz hz=>by rcases (⋯:z=0\/z=1\/z=2\/z=3)with rfl|rfl|rfl|rfl<;>assumption) ?_;show zR eY _ (γ (.val (.lst [.lst l,.lst Z,.lst [.str "number",.int f],.lst [.str "number",.int g]])) .no)=_;have t:=pL (ns:=ns) (c:=c) (p:=p) (q:=p) (m:=m) (m':=m) (w:=w) (w':=w) (wd':=I) (T':=O) ⋯ ⋯ b (xi m w U Y) (xi m w I O) (.lst (L.map gv)) (.lst [.lst l,.lst Z,.lst [.str "number",.int f],.lst [.str "number",.int g]]) (c/2560%6) K M;rw[decide_eq_true ⟨rfl,rfl,λ_ _=>rfl⟩]at t;refine zh (γ':=γ (.val (.lst [.lst l,.lst Z,.lst [.str "number",.int f],.lst [.str "number",.int g]])) .no) (by unfold eY;rw[ye,t];rfl) ?_;refine zh (γ':=γ (.val (.lst [.lst l,.lst Z,.lst [.str "number",.int f],.lst [.str "number",.int g]])) .no) (by kernel_rfl) ?_;have C:=oR (p:=p) (w:=w) (wd:=U) (wd':=I) (T:=Y) (T':=O) (L:=L) (⋯:m<=5);rcases gd with⟨ds,R,rfl,rfl,ok⟩|⟨R,d,tx,X,rfl,rfl,ht⟩
  ·rw[R]at C
   refine zh (γ':=γ (.val (.lst [.lst Z,.lst Z,.lst [.str "number",.int f],.lst [.str "number",.int g]])) (.val (.lst Z))) (by simp[mD,γ,vC,C]) (YZ ?_);have e:=bB ok;have i0:hM 4 0=cq 0:=rfl;have i1:hM 4 1=cq 1:=rfl;simp[sE,γ,vC,je,i0,i1,e,vj]
  ·rw[R]at C
   refine zh (γ':=γ (.val (.lst [.lst [.str "row",d],.lst [.str "fallen",.tup [.str tx,X]],.lst [.str "number",.int f],.lst [.str "number",.int g]])) (.val .ej)) (by simp[mD,γ,vC,C]) (zh (γ':=γ (.val (.lst [.lst [.str "row",d],.lst [.str "fallen",.tup [.str tx,X]],.lst [.str "number",.int f],.lst [.str "number",.int g]])) (.val .ej)) rfl ?_);rcases ht with rfl|rfl<;>kernel_rfl
 ·refine S (A:=λ_=>[.str "unlike"]) (λz hz=>mE (⋯:m<=900) (⋯:m'<=900) as ⋯) ?_
  have t:=pL (ns:=ns) (c:=c) (p:=p) (q:=q) (m:=m) (m':=m') (w:=w) (w':=w') (wd':=wd') (T':=T') ⋯ ⋯ b (xi m w U Y) (xi m w I O) (.lst (L.map gv)) (.lst [.lst [.str "unlike"],.lst [.str "unlike"],.lst [.str "unlike"],.lst [.str "unlike"]]) (c/2560%6) K M;rw[decide_eq_false as]at t;refine YZ ?_;unfold eY;rw[ye,t]
  kernel_rfl
def top(i:Nat):PySem.Stmt:=PySem.Challenge.pw_barsplit_k45_laying_refused.main.body.getD i<|.Pass ⟨0,0,0,0⟩
section
variable{P:PySem.Program}{w:PySem.World}{K:Mj}{mg:PySem.Str->Option PySem.Value}{base:PySem.Heap}
theorem Jb(h:us.length=n+1):∃a t,us=a::t/\t.length=n:=by
 cases us with
 |nil=>exact absurd h<|Nat.zero_ne_add_one n
 |cons a t=>exact⟨a,t,rfl,Nat.succ.inj h⟩
theorem Mf(h:us.length=1):∃a,us=[a]:=by obtain⟨a,I,rfl,b⟩:=Jb h;rw[MX b];exact⟨a,rfl⟩
theorem LJ(h:us.length=2):∃a b,us=[a,b]:=by obtain⟨a,I,rfl,d⟩:=Jb h;obtain⟨b,O,rfl,e⟩:=Jb d;rw[MX e];exact⟨a,b,rfl⟩
theorem Me(h:us.length=3):∃a b c,us=[a,b,c]:=by obtain⟨a,O,rfl,d⟩:=Jb h;obtain⟨b,U,rfl,e⟩:=Jb d;obtain⟨c,Y,rfl,I⟩:=Jb e;rw[MX I];exact⟨a,b,c,rfl⟩
theorem Md(h:us.length=4):∃a b c d,us=[a,b,c,d]:=by obtain⟨a,U,rfl,e⟩:=Jb h;obtain⟨b,Y,rfl,f⟩:=Jb e;obtain⟨c,Z,rfl,I⟩:=Jb f;obtain⟨d,g,rfl,O⟩:=Jb I;rw[MX O];exact⟨a,b,c,d,rfl⟩
theorem Mc{z:Type}{us:List z}(h:us.length=5):∃a b c d e,us=[a,b,c,d,e]:=by obtain⟨a,Y,rfl,f⟩:=Jb h;obtain⟨b,Z,rfl,g⟩:=Jb f;obtain⟨c,i,rfl,I⟩:=Jb g;obtain⟨d,j,rfl,O⟩:=Jb I;obtain⟨e,k,rfl,U⟩:=Jb O;rw[MX U];exact⟨a,b,c,d,e,rfl⟩
theorem Mb{z:Type}{us:List z}(h:us.length=6):∃a b c d e f,us=[a,b,c,d,e,f]:=by obtain⟨a,Z,rfl,g⟩:=Jb h;obtain⟨b,j,rfl,i⟩:=Jb g;obtain⟨c,k,rfl,I⟩:=Jb i;obtain⟨d,l,rfl,O⟩:=Jb I;obtain⟨e,m,rfl,U⟩:=Jb O;obtain⟨f,n,rfl,Y⟩:=Jb U;rw[MX Y];exact⟨a,b,c,d,e,f,rfl⟩
theorem Ma{z:Type}{us:List z}(h:us.length=7):∃a b c d e f g,us=[a,b,c,d,e,f,g]:=by obtain⟨a,k,rfl,i⟩:=Jb h;obtain⟨b,l,rfl,j⟩:=Jb i;obtain⟨c,m,rfl,I⟩:=Jb j;obtain⟨d,n,rfl,O⟩:=Jb I;obtain⟨e,o,rfl,U⟩:=Jb O;obtain⟨f,p,rfl,Y⟩:=Jb U;obtain⟨g,r,rfl,Z⟩:=Jb Y;rw[MX Z];exact⟨a,b,c,d,e,f,g,rfl⟩
structure E0(K:Mj)(mg:PySem.Str->Option PySem.Value):Prop where
 Q0:fA K mg "_law_cell" (top 84) ["_law_script","_law_k"]
 Q1:fA K mg "_law_ways" (top 88) ["_law_cell_here","_law_rooms"]
 Q2:fA K mg "_law_ends" (top 86) ["_law_ways_here","_law_k"]
 Q3:fA K mg "_law_table" (top 90) ["_law_script","_law_at","_law_p","_law_high","_law_wide","_law_few"]
 Q4:fA K mg "_law_any" (top 91) ["_law_script","_law_at","_law_p","_law_ways_here","_law_most","_law_few"]
 Q5:fA K mg "_law_spoilt" (top 95) ["_law_joins_here","_law_cell_here"]
 Q6:fA K mg "_law_handed" (top 89) ["_law_p","_law_ways_here","_law_row"]
 Q7:fA K mg "_law_due" (top 96) ["_law_p","_law_ways_here","_law_under","_law_upper","_law_joins_here"]
 Q8:fA K mg "_law_kind" (top 93) ["_law_caught"]
 Q9:fA K mg "ways_of" (top 28) ["row"]
 Qa:fA K mg "one_kind" (top 29) ["one","other"]
 Qb:fA K mg "ask_one_kind" (top 30) ["one","other"]
 Qc:fA K mg "end_of" (top 27) ["k","way"]
 Qd:fA K mg "beginning_of" (top 26) ["k","way"]
 Qe:fA K mg "arrow_sizes" (top 62) ["one","other"]
 Qf:fA K mg "is_join" (top 76) ["size","join"]
 Qg:fA K mg "ask_joins" (top 77) ["under","upper","joins"]
 Qh:fA K mg "ask_together" (top 31) ["widths"]
 Qi:fA K mg "widths_together" (top 34) ["one","other"]
 Qj:fA K mg "tables_joined" (top 33) ["one","other","join"]
 Qk:fA K mg "joined" (top 35) ["one","other","joins"]
 Ql:fA K mg "laid_upon" (top 78) ["under","upper","joins"]
 Qm:fA K mg "room_sizes" (top 61) ["one","other"]
 Qn:fA K mg "numbers_in" (top 63) ["sizes"]
 Qo:fA K mg "turned_over" (top 22) ["table"]
 Qp:fA K mg "written" (top 64) ["tables"]
 Qq:fA K mg "rests" (top 16) ["p","numbers"]
 Qr:fA K mg "led" (top 18) ["p","table","load"]
 Qs:fA K mg "product" (top 19) ["p","one","other"]
 Qt:fA K mg "added_times" (top 20) ["p","one","much","other"]
 Qu:fA K mg "less" (top 21) ["p","one","other"]
 Qv:fA K mg "gap" (top 66) ["one","other","tables","k"]
 Qw:fA K mg "gaps" (top 67) ["one","other","tables"]
 Qx:fA K mg "tables_in" (top 65) ["sizes","load"]
 Qy:fA K mg "same_table" (top 23) ["many"]
 Qz:fA K mg "gaps_table" (top 68) ["one","other"]
 _q:fA K mg "inverse" (top 17) ["p","x"]
 _r:fA K mg "cleared" (top 38) ["p","load","pivot","place"]
 _s:fA K mg "base_of" (top 39) ["p","long","loads"]
 _t:fA K mg "lead_of" (top 37) ["load"]
 _u:fA K mg "solved" (top 44) ["p","table","load"]
 _v:fA K mg "weights_against" (top 79) ["p","slanted","load"]
 l_:fA K mg "fallen" (top 80) ["under","upper","joins"]
 m_:fA K mg "plain_sum" (top 81) ["upper","under"]
 _w:fA K mg "behind_noughts" (top 40) ["many","base"]
 _x:fA K mg "led_into" (top 41) ["p","table","base"]
 _y:fA K mg "kernel" (top 42) ["p","table"]
 _z:fA K mg "image" (top 43) ["p","table"]
 _A:fA K mg "columns" (top 50) ["high","loads"]
 _B:fA K mg "has_room" (top 48) ["bar","room"]
 _C:fA K mg "loads_in" (top 49) ["bars","room"]
 _D:fA K mg "mixed_load" (top 51) ["row","bars","times","room"]
 _E:fA K mg "mixed" (top 52) ["row","bars","times"]
 _F:fA K mg "settled" (top 53) ["row","k","bars"]
 _G:fA K mg "next_load" (top 54) ["p","arrow","load"]
 _H:fA K mg "taken_on" (top 55) ["p","arrow","bar"]
 _I:fA K mg "new_loads" (top 56) ["p","arrow"]
 _J:fA K mg "grown" (top 57) ["row","k","bars"]
 _K:fA K mg "stretch_of" (top 47) ["bar"]
 _L:fA K mg "all_grown" (top 58) ["row"]
 _M:fA K mg "back_of" (top 45) ["p","table"]
 _N:fA K mg "barred" (top 59) ["row"]
 _O:fA K mg "left_holds" (top 69) ["ways","one","other"]
 _P:fA K mg "right_holds" (top 70) ["ways","one","other"]
 _Q:fA K mg "bar_ways" (top 71) ["ways","one","other"]
 _R:fA K mg "ways_into" (top 72) ["ways","bars","bar"]
 n_:fA K mg "count_ways" (top 73) ["one","other"]
 o_:fA K mg "count_upon" (top 82) ["upper","under"]
 _S:fA K mg "_law_asked" (top 94) ["_law_under","_law_upper","_law_joins_here","_law_what"]
 _T:fA K mg "_law_joins" (top 92) ["_law_script","_law_at","_law_p","_law_ways_here","_law_under","_law_upper","_law_few"]
 _U:fA K mg "_law_whole" (top 85) ["_law_found"]
 _V:fA K mg "law" (top 97) ["_law_script"]
 Z0:mg "len" = da
 Z1:mg "min" = da
 Z2:mg "range" = da
 Z3:mg "int" = da
 Z4:mg "list" = da
 Z5:mg "max" = da
 Z6:mg "tuple" = da
 Z7:mg "sum" = da
 Z8:mg "ValueError" = da
 Z9:mg "isinstance" = da
 Za:mg "enumerate" = da
 Zb:mg "zip" = da
 Zc:mg "any" = da
 Zd:mg "dict" = da
 Ze:mg "sorted" = da
 Zf:mg "bool" = da
 G0:XI K mg "NoArrow"
 G1:XI K mg "NoLine"
 G2:XI K mg "NoPrime"
 G3:XI K mg "NoRoom"
 G4:XI K mg "NoRow"
 G5:XI K mg "NoTable"
 G6:XI K mg "NoText"
 G7:XI K mg "NoTurn"
 G8:XI K mg "NoWidths"
 G9:XI K mg "Nothing"
 Ga:XI K mg "Nought"
 Gb:XI K mg "TooMany"
 Gc:XI K mg "Unlike"
 Gd:Io K "at" = cI
 Ge:XC K mg "Unlike"
 Gf:GL K mg "BEYOND_ALL_ARROWS" (.int 5)
 Gg:GL K mg "MOST_TOGETHER" (.int 30)
 Gh:XC K mg "TooMany"
 Gi:XS K mg
 Gj:N4 K mg "NoArrow" "NoArrow.__init__" "at" (EF (top 12) 0) "at"
theorem JH(A:N4 K mg "NoArrow" "NoArrow.__init__" "at" (EF (top 12) 0) "at"):XJ P w K mg base 1 "NoArrow":=
 Gq (k:=0) A ⋯ ⋯ λC I X O d U b Y a=>by subst O d U b Y;exact aL (nA a I ⋯ ⋯ ⋯ ⋯ ⋯)<|Wy<|um a I ⋯ ⋯
theorem Zp(E:E0 K mg):fy P w K mg base 1 "_law_cell" 2 j3:=
 qP (N:=["_law_script","_law_k","_law_cell_here","_law_turn","_law_given"]) E (·.Q0) ⋯ λX E a b=>by refine zc (jA (Jl (Jk (vz (qK a ⋯ E.Z0 zM) ze) (wG (qw a (qS (zu zM ze) ze) ze)))) (by refine zc (zZ (zu zM (z7 ze (qS zA (ZF (qK a ⋯ E.Z0 zM) ze))))) ?_;refine zc (xo b a (j5 a ⋯ E.Z2 (gf a ⋯ E.Z1 ze (k4 zA (ZF (qK a ⋯ E.Z0 zM) ze)))) (zk (zZ (k4 zA (gb ze ze))))) ?_;exact(zk (zJ (qS zA (gb ze ze))))) zS) ?_;refine zc (zZ zA) ?_;refine zc (jA (vz (qK a ⋯ E.Z0 zM) ze) (zk (zZ (zu zM (qS zA (qK a ⋯ E.Z0 zM))))) zS) ?_;exact(zk (zJ (qS (qR (qS (z7 (z7 (z7 (qR (qS zA (gb ze ze)) ze) (qR (qR ze zA) zA)) (qR ze zA)) ze) ze) ze) ze)))
theorem QU(E:E0 K mg):fy P w K mg base 1 "_law_ways" 2 kf:=
 qP (N:=["_law_cell_here","_law_rooms"]) E (·.Q1) ⋯ λX E a d=>zk (zJ (Wv jg (PO.q (qX a (i6.c (j5 a ⋯ E.Z2 (ZF zA ze))) (λ_ _ _ b=>yn jg (qS (k4 zA (zu (PO.q (jw (qk (za ze (za ze (za ze (za ze (za ze zo)))))))) zA)) ze))))))
theorem vc(E:E0 K mg):fy P w K mg base 1 "_law_ends" 2 xv:=
 qP (N:=["_law_ways_here","_law_k"]) E (·.Q2) ⋯ λX E a b=>by refine zc (jA (qw a (yn zA zA) jg) (zk (zJ (jj (qk (za zA (za (z7 zA ze) zo)))))) zS) ?_;exact(zk (zJ (jj (qk (za (z7 zA ze) h7)))))
theorem vV(E:E0 K mg):fy P w K mg base 2 "_law_table" 6 kg:=
 qP (N:=["_law_script","_law_at","_law_p","_law_high","_law_wide","_law_few","_law_rows","_law_i","_law_row","_law_j","_law_cell_here"]) E (·.Q3) ⋯ λX E a b=>by refine zc (xP (jw (qk zo))) ?_;refine zc (xo b a (j5 a ⋯ E.Z2 zA) (by refine zc (xP (jw (qk zo))) ?_;refine zc (xo b a (j5 a ⋯ E.Z2 zA) (by refine zc (zZ (zL (Zp E) (za zA (za (z7 (z7 zA (qR zA zA)) zA) zo)))) ?_;exact(zk (vQ 8 a ⋯ (qR (qS (k4 zA ze) zA) (QO a ⋯ E.Z3 (GU (qS (k4 zA ze) ze) zA))))))) ?_;exact(zk (gu 8 (vQ 6 a ⋯ zA))))) ?_;exact(zk (kL 6 (a.var ⋯)))
theorem xE(E:E0 K mg):fy P w K mg base 3 "_law_any" 6 qd:=
 qP (N:=["_law_script","_law_at","_law_p","_law_ways_here","_law_most","_law_few","_law_widths","_law_tables","_law_k","_law_begin","_law_end"]) E (·.Q4) ⋯ λX E a b=>by refine zc (jx 6 (yE a (i6.c (j5 a ⋯ E.Z2 (z7 (yY a ⋯ E.Z0 zA) ze))) (λ_ _ _ d=>qS (k4 (zL (Zp E) (za zA (za (z7 zA zA) zo))) ze) (z7 zA ze)))) ?_;refine zc (xP (jw (qk zo))) ?_;refine zc (xo b a (j5 a ⋯ E.Z2 (yY a ⋯ E.Z0 zA)) (by refine zc (wH (Bh a) (zL (vc E) hH)) ?_;exact(zk (vQ 7 a ⋯ (PO.v (qI (vV E) (za zA (za (z7 (z7 zA ze) (qR ze zA)) (za zA (za (zu zM zA) (za (zu zM zA) h7))))))))))) ?_;exact(zk (gu 7 (zJ (jj (qk hH)))))
theorem vB(E:E0 K mg):fy P w K mg base 1 "_law_spoilt" 2 qO:=
 qP (N:=["_law_joins_here","_law_cell_here","_law_way","_law_at","_law_high","_law_wide","_law_rows","_law_wider"]) E (·.Q5) ⋯ λX E a d=>by refine zc (xP (WB a ⋯ E.Z4 zM)) ?_;refine zc (zZ (qS zA ze)) ?_;refine zc (zZ (qS (k4 zA ze) (gh a ⋯ E.Z5 ze (qK a ⋯ E.Z0 zM)))) ?_;refine zc (jA (gp 0 (Jl (Jk (qw a zA ze) (wG (yI a zA (PO.v (jw (qk zo)))))))) (zk (ny 0 a ⋯)) zS) ?_;refine zc (jA (qw a zA ze) (zk (xP (vA zM (PO.q (Kn (jw (qk (za (jj (qk (za ze (za ze (za (jj (qk zo)) zo))))) zo))) (z7 ze (qS (k4 zA ze) ze))))))) zS) ?_;refine zc (jA (gp 0 (Jl (Jk (vz zA ze) (wG (yI a zA (PO.v (jw (qk zo)))))))) (by refine zc (wH (Bh a) (zu zM zA)) ?_;refine zc (zZ (jt a ⋯ E.Z6 (PO.q (qX a (jc zM) (λ_ _ _ b=>z7 zA (jj (qk (za ze zo)))))))) ?_;exact(zk (Y7 0 a ⋯ zA (zu (PO.q (jw (qk (za (jj (qk (za (z7 zA ze) (za zA (za (z7 zA (jj (qk (za (qR (jj (qk (za ze zo))) zA) zo)))) zo))))) (za (jj (qk (za zA (za (z7 zA ze) h7)))) zo))))) (qS zA ze))))) zS) ?_;exact(zk (kL 0 (a.var ⋯)))
theorem qx(E:E0 K mg):fy P w K mg base 2 "_law_handed" 3 jQ:=
 qP (N:=["_law_p","_law_ways_here","_law_row","_law_widths","_law_tables","_law_arrows","_law_k","_law_begin","_law_end","_law_rows"]) E (·.Q6) ⋯ λX E a d=>by refine zc (wH (Bh a) zA) ?_;refine zc (xP (jw (qk zo))) ?_;refine zc (xo d a (j5 a ⋯ E.Z2 (yY a ⋯ E.Z0 zA)) (by refine zc (wH (Bh a) (zL (vc E) hH)) ?_;refine zc (zZ (jt a ⋯ E.Z6 (PO.q (qX a (jc (PV.q (zu zM zA))) (λ_ _ _ b=>jt b ⋯ E.Z6 zM))))) ?_;exact(zk (vQ 5 a ⋯ (jj (qk (za (yn zA zA) (za (jj (qk (za (zu zM zA) (za (zu zM zA) h7)))) zo)))))))) ?_;exact(zk (zJ (jj (qk (za zA (za (jt a ⋯ E.Z6 zM) (za (jt a ⋯ E.Z6 zM) zo)))))))
theorem K6(E:E0 K mg):fy P w K mg base 2 "_law_due" 5 yz:=
 qP (N:=["_law_p","_law_ways_here","_law_under","_law_upper","_law_joins_here","_law_k","_law_begin","_law_end"]) E (·.Q7) ⋯ λX E a b=>by refine zc (xo b a (j5 a ⋯ E.Z2 (yY a ⋯ E.Z0 zA)) (by refine zc (wH (Bh a) (zL (vc E) hH)) ?_;exact(zk (jA (Jl (wX (Y6 zA (qK a ⋯ E.Z0 zM)) (wX (yI a (zu (PV.q (zu zM zA)) ze) (zu (PV.q (zu zM ze)) zA)) (Zm (yI a (zu (PV.q (zu zM zA)) ze) (zu (PV.q (zu zM ze)) zA)))))) (zk (qa (jw (qk (za jg h7))))) zS)))) ?_;refine zc (jA (vz (qK a ⋯ E.Z0 zM) (yY a ⋯ E.Z0 zA)) (zk (qa (jw (qk (za jg (za ze zo)))))) zS) ?_;refine zc (jA (vz (z7 (JF a ⋯ E.Z7 (PV.q (zu zM ze))) (JF a ⋯ E.Z7 (PV.q (zu zM ze)))) ze) (zk (qa (jw (qk (za jg zo))))) zS) ?_;exact(zk (zJ vP))
theorem XZ(E:E0 K mg):fy P w K mg base 1 "_law_kind" 1 qt:=
 qP (N:=["_law_caught","_law_told","_law_odd"]) E (·.Q8) ⋯ λX E a b=>by refine zc (xP (jw (qk zo))) ?_;refine zc (jA (qE (yH a ⋯ E.Z9 ⋯ E.Gc zA)) (zk (vQ 1 a ⋯ jg)) zS) ?_;refine zc (jA (qE (yH a ⋯ E.Z9 ⋯ E.Gb zA)) (zk (vQ 1 a ⋯ jg)) zS) ?_;refine zc (jA (qE (yH a ⋯ E.Z9 ⋯ E.G0 zA)) (zk (xP (vA zM (PO.q (jw (qk (za jg (za (uf E.Gd zA) zo)))))))) zS) ?_;refine zc (xo b a (vS (PO.v (jw (qk (za (yH a ⋯ E.Z9 ⋯ E.G1 zA) (za (yH a ⋯ E.Z9 ⋯ E.G2 zA) (za (yH a ⋯ E.Z9 ⋯ E.G3 zA) zo))))))) (zk (xP (vA zM (PO.q (Kn (jw (qk (za jg zo))) (QO a ⋯ E.Z3 zA))))))) ?_;refine zc (xo b a (vS (PO.v (jw (qk (za (yH a ⋯ E.Z9 ⋯ E.G4 zA) (za (yH a ⋯ E.Z9 ⋯ E.G5 zA) (za (yH a ⋯ E.Z9 ⋯ E.G6 zA) zo))))))) (zk (xP (vA zM (PO.q (Kn (jw (qk (za jg zo))) (QO a ⋯ E.Z3 zA))))))) ?_;refine zc (xo b a (vS (PO.v (jw (qk (za (yH a ⋯ E.Z9 ⋯ E.G9 zA) (za (yH a ⋯ E.Z9 ⋯ E.G7 zA) (za (yH a ⋯ E.Z9 ⋯ E.G8 zA) zo))))))) (zk (xP (vA zM (PO.q (Kn (jw (qk (za jg zo))) (QO a ⋯ E.Z3 zA))))))) ?_;refine zc (xo b a (vS (PO.v (jw (qk (za (yH a ⋯ E.Z9 ⋯ E.Ga zA) (za (pW (tZ a ⋯ E.Z9 ⋯ E.Z8 zA)) zo)))))) (zk (xP (vA zM (PO.q (Kn (jw (qk (za jg zo))) (QO a ⋯ E.Z3 zA))))))) ?_;exact(zk (kL 1 (a.var ⋯)))
theorem wJ(E:E0 K mg):fy P w K mg base 1 "ways_of" 1 qL:=
 qP (N:=["row"]) E (·.Q9) ⋯ λX E a d=>zk (zJ (Wv jg (PO.q (qX a (jc (PV.q (zu zM ze))) (λ_ _ _ b=>zu zM ze)))))
theorem QS(E:E0 K mg):fy P w K mg base 2 "one_kind" 2 kU:=
 qP (N:=["one","other"]) E (·.Qa) ⋯ λX E a b=>zk (zJ (Kk (XR a (zu zM ze) (zu zM ze)) (Y5 (XR a (zL (wJ E) h7) (zL (wJ E) h7)))))
theorem xF(E:E0 K mg):fy P w K mg base 3 "ask_one_kind" 2 jN:=
 qP (N:=["one","other"]) E (·.Qb) ⋯ λX E a b=>zk (jA (yD (qE (zL (QS E) hH))) (zk k7) zS)
theorem kC(E:E0 K mg):rp P w K mg base 3 "ask_one_kind" 2 jM:=
 Ym (N:=["one","other"]) E.Qb ⋯ λX I d O b U a=>by subst I d O b U;have Y:=a.iw (λ_ _=>False);have e:(X.iw λ_ _=>False).xe=(λ_ _=>False):=rfl;exact xh (mY (yD (qE (zL (QS E) hH))) (xh (aK Y ⋯ E.Ge jg)) aJ)
theorem Vj(E:E0 K mg):fy P w K mg base 1 "end_of" 2 vw:=
 qP (N:=["k","way"]) E (·.Qc) ⋯ λX E a b=>zk (zJ (xB (qw a zA jg) (z7 zA ze) zA))
theorem vW(E:E0 K mg):fy P w K mg base 1 "beginning_of" 2 qj:=
 qP (N:=["k","way"]) E (·.Qd) ⋯ λX E a b=>zk (zJ (xB (qw a zA jg) zA (z7 zA ze)))
theorem qY(E:E0 K mg):fy P w K mg base 2 "arrow_sizes" 2 jF:=
 qP (N:=["one","other","ways"]) E (·.Qe) ⋯ λX E a d=>by refine zc (zZ (zL (wJ E) h7)) ?_;exact(zk (qa (qX a (i6.c (uz a ⋯ E.Za zA)) (λ_ _ _ b=>jj (qk (za (zu (PV.q (zu zM ze)) (zL (Vj E) hH)) (za (zu (PV.q (zu zM ze)) (zL (vW E) hH)) zo)))))))
theorem wM(E:E0 K mg):fy P w K mg base 1 "is_join" 2 yR:=
 qP (N:=["size","join"]) E (·.Qf) ⋯ λX E a b=>zk (zJ (Kk (Ww a ⋯ E.Z9 ⋯ E.Z6 zA) (Y5 (XR a (Ki zA Jo (vT ze)) zA))))
theorem yp(E:E0 K mg):fy P w K mg base 4 "ask_joins" 3 ka:=
 qP (N:=["under","upper","joins","sizes","k","size"]) E (·.Qg) ⋯ λX E a b=>by refine zc (kc (zL (xF E) hH)) ?_;refine zc (zZ (PO.v (qI (qY E) hH))) ?_;refine zc (xo b a (KZ a ⋯ E.Za zA) (zk (jA (Jl (wX (Y6 zA (qK a ⋯ E.Z0 zM)) (Zm (yD (qE (zL (wM E) (za zA (za (zu zM zA) zo)))))))) (zk k7) zS))) ?_;exact(zk (jA (vz (qK a ⋯ E.Z0 zM) (qK a ⋯ E.Z0 zM)) (zk k7) zS))
theorem ZH(E:E0 K mg):rp P w K mg base 4 "ask_joins" 3 xX:=
 Hw (N:=["under","upper","joins","sizes","k","size"]) E.Qg ⋯ λX O d U b Y a Z=>by subst O d U b Y;have I:=a.iw (λ_ _=>False);have e:(X.iw λ_ _=>False).xe=(λ_ _=>False):=rfl;exact QN (fZ (Zl (kC E) ⋯ I ⋯ hH)) (kc (zL (xF E) hH)) (QN (fZ Cg) (zZ (PO.v (qI (qY E) hH))) (QN (tR (T:=.tp [4,5]) a.calm (KZ a ⋯ E.Za zA) (a.YP (va (a.DW 4 ⋯) (va (a.DW 5 ⋯) WC))) (tP (xh (mY (Jl (wX (Y6 zA (qK I ⋯ E.Z0 zM)) (Zm (yD (qE (zL (wM E) (za zA (za (zu zM zA) zo)))))))) (xh (Y4 I ⋯ (JH E.Gj) ⋯ zA)) aJ))) (zk (jA (Jl (wX (Y6 zA (qK I ⋯ E.Z0 zM)) (Zm (yD (qE (zL (wM E) (za zA (za (zu zM zA) zo)))))))) (zk k7) zS))) (xo e I (KZ I ⋯ E.Za zA) (zk (jA (Jl (wX (Y6 zA (qK I ⋯ E.Z0 zM)) (Zm (yD (qE (zL (wM E) (za zA (za (zu zM zA) zo)))))))) (zk k7) zS))) (aH (fZ (mY (vz (qK I ⋯ E.Z0 zM) (qK I ⋯ E.Z0 zM)) (xh (Y4 I ⋯ (JH E.Gj) ⋯ (uc I ⋯ E.Gf))) aJ)))))
theorem QX(E:E0 K mg):fy P w K mg base 1 "ask_together" 1 qB:=
 qP (N:=["widths"]) E (·.Qh) ⋯ λX E a b=>zk (jA (vz (JF a ⋯ E.Z7 zM) (uc a ⋯ E.Gg)) (zk k7) zS)
theorem JQ(E:E0 K mg):rp P w K mg base 1 "ask_together" 1 jY:=
 Ym (N:=["widths"]) E.Qh ⋯ λX O d U b Y a=>by subst O d U b Y;have I:=a.iw (λ_ _=>False);have e:(X.iw λ_ _=>False).xe=(λ_ _=>False):=rfl;exact xh (mY (vz (JF I ⋯ E.Z7 zM) (uc I ⋯ E.Gg)) (xh (aK I ⋯ E.Gh jg)) aJ)
theorem yo(E:E0 K mg):fy P w K mg base 2 "widths_together" 2 jZ:=
 qP (N:=["one","other","widths"]) E (·.Qi) ⋯ λX E a d=>by refine zc (zZ (jt a ⋯ E.Z6 (PO.q (qX a (i6.c (vR a ⋯ E.Zb (zu zM ze) (zu zM ze))) (λ_ _ _ b=>z7 zA zA))))) ?_;refine zc (kc (zL (QX E) h7)) ?_;exact(zk (kL 2 (a.var ⋯)))
theorem k9(E:E0 K mg):rp P w K mg base 2 "widths_together" 2 ji:=
 Ym (N:=["one","other","widths"]) E.Qi ⋯ λX O d U b Y a=>by subst O d U b Y;have I:=a.iw (λ_ _=>False);have f:(X.iw λ_ _=>False).xe=(λ_ _=>False):=rfl;exact KW Cg (zZ (jt I ⋯ E.Z6 (PO.q (qX I (i6.c (vR I ⋯ E.Zb (zu zM ze) (zu zM ze))) (λ_ _ _ e=>z7 zA zA))))) (xh (Zl (JQ E) ⋯ I ⋯ h7))
theorem JR(E:E0 K mg):fy P w K mg base 1 "tables_joined" 3 qM:=
 qP (N:=["one","other","join","first","second"]) E (·.Qj) ⋯ λX E a d=>by refine zc (jx 3 (yE a (i6.c (vR a ⋯ E.Zb (zu zM ze) (zu zM ze))) (λ_ _ _ b=>z7 zA zA))) ?_;refine zc (jx 4 (yE a (jc (PV.q (zu zM ze))) (λ_ _ _ b=>z7 (qR (jj (qk (za ze zo))) (zu zM ze)) zA))) ?_;exact(zk (zJ (jj (qk (za (z7 (zu zM ze) (zu zM ze)) (za (z7 (zu zM ze) (zu zM ze)) (za (jt a ⋯ E.Z6 (PV.q (PO.v (vA zM zM)))) zo)))))))
theorem gQ(E:E0 K mg):fy P w K mg base 3 "joined" 3 YB:=
 qP (N:=["one","other","joins","widths","arrows"]) E (·.Qk) ⋯ λX E a d=>by refine zc (zZ (zL (yo E) hH)) ?_;refine zc (jx 4 (yE a (i6.c (ux a ⋯ E.Zb (zu zM ze) (zu zM ze) zA)) (λ_ _ _ b=>jj (qk (za (zu zM ze) (za (zL (JR E) (za (zu zM ze) (za (zu zM ze) h7))) zo)))))) ?_;exact(zk (zJ (jj (qk (za (zu zM ze) (za zA (za (jt a ⋯ E.Z6 zM) zo)))))))
theorem de(E:E0 K mg):rp P w K mg base 3 "joined" 3 Yx:=
 Ym (N:=["one","other","joins","widths","arrows"]) E.Qk ⋯ λX I d O b U a=>by subst I d O b U;have Y:=a.iw (λ_ _=>False);have e:(X.iw λ_ _=>False).xe=(λ_ _=>False):=rfl;exact xh (tU (k9 E) ⋯ Y ⋯ hH)
theorem Vh(E:E0 K mg):fy P w K mg base 5 "laid_upon" 3 Zw:=
 qP (N:=["under","upper","joins"]) E (·.Ql) ⋯ λX E a b=>by refine zc (kc (zL (yp E) m9)) ?_;exact(zk (zJ (zL (gQ E) m9)))
theorem K1(E:E0 K mg):rp P w K mg base 5 "laid_upon" 3 yf:=
 Ym (N:=["under","upper","joins"]) E.Ql ⋯ λX O d U b Y a=>by subst O d U b Y;have I:=a.iw (λ_ _=>False);have e:(X.iw λ_ _=>False).xe=(λ_ _=>False):=rfl;exact KW (Zl (ZH E) ⋯ I ⋯ m9) (kc (zL (yp E) m9)) (xh (tW (de E) ⋯ I ⋯ m9))
theorem vb(E:E0 K mg):fy P w K mg base 1 "room_sizes" 2 ko:=
 qP (N:=["one","other"]) E (·.Qm) ⋯ λX E a b=>zk (qa (nF a ⋯ E.Z4 ⋯ E.Zb (zu zM ze) (zu zM ze)))
theorem kM(E:E0 K mg):fy P w K mg base 1 "numbers_in" 1 qN:=
 qP (N:=["sizes"]) E (·.Qn) ⋯ λX E a d=>zk (zJ (JF a ⋯ E.Z7 (PO.q (qX a (jc zM) (λ_ _ _ b=>qR zA zA)))))
theorem qe(E:E0 K mg):fy P w K mg base 1 "turned_over" 1 jE:=
 qP (N:=["table","columns"]) E (·.Qo) ⋯ λX E a d=>by refine zc (jx 1 (yE a (i6.c (j5 a ⋯ E.Z2 (zu zM ze))) (λ_ _ _ b=>jt b ⋯ E.Z6 (PO.q (qX b (jc (PV.q (zu zM ze))) (λ_ _ _ I=>zu zM zA)))))) ?_;exact(zk (zJ (jj (qk (za (zu zM ze) (za (zu zM ze) (za (jt a ⋯ E.Z6 zM) zo)))))))
theorem Ko(E:E0 K mg):fy P w K mg base 1 "written" 1 yO:=
 qP (N:=["tables","load","table","line"]) E (·.Qp) ⋯ λX E a b=>by refine zc (xP (jw (qk zo))) ?_;refine zc (xo b a (vS zA) (zk (xo b a (vS (zu zM ze)) (zk (nz 1 a ⋯ zM))))) ?_;exact(zk (zJ (jt a ⋯ E.Z6 zM)))
theorem wK(E:E0 K mg):fy P w K mg base 1 "rests" 2 xZ:=
 qP (N:=["p","numbers"]) E (·.Qq) ⋯ λX E a d=>zk (zJ (jt a ⋯ E.Z6 (PO.q (qX a (jc zM) (λ_ _ _ b=>qS zA zA)))))
theorem gP(E:E0 K mg):fy P w K mg base 2 "led" 3 eB:=
 qP (N:=["p","table","load"]) E (·.Qr) ⋯ λX E b d=>zk (zJ (zL (wK E) (za zA (za (PO.v (qX b (jc (PV.q (zu zM ze))) (λ_ _ _ a=>JF a ⋯ E.Z7 (PO.q (qX a (i6.c (vR a ⋯ E.Zb zA zA)) (λ_ _ _ I=>qR zA zA)))))) zo))))
theorem Kp(E:E0 K mg):fy P w K mg base 3 "product" 3 wz:=
 qP (N:=["p","one","other","over"]) E (·.Qs) ⋯ λX E a d=>by refine zc (zZ (zL (qe E) h7)) ?_;exact(zk (zJ (jj (qk (za (zu zM ze) (za (zu zM ze) (za (jt a ⋯ E.Z6 (PO.q (qX a (jc (PV.q (zu zM ze))) (λ_ _ _ b=>zL (gP E) m9)))) zo)))))))
theorem X0(E:E0 K mg):fy P w K mg base 2 "added_times" 4 xM:=
 qP (N:=["p","one","much","other","rows"]) E (·.Qt) ⋯ λX E a d=>by refine zc (jx 4 (yE a (i6.c (vR a ⋯ E.Zb (zu zM ze) (zu zM ze))) (λ_ _ _ b=>zL (wK E) (za zA (za (PO.v (qX b (i6.c (vR b ⋯ E.Zb zA zA)) (λ_ _ _ I=>z7 zA (qR zA zA)))) zo))))) ?_;exact(zk (zJ (jj (qk (za (zu zM ze) (za (zu zM ze) (za (jt a ⋯ E.Z6 zM) zo)))))))
theorem uK(E:E0 K mg):fy P w K mg base 3 "less" 3 mh:=
 qP (N:=["p","one","other"]) E (·.Qu) ⋯ λX E a b=>zk (zJ (zL (X0 E) (za zA (za zA (za (gc ze) h7)))))
theorem Eg(E:E0 K mg):fy P w K mg base 4 "gap" 4 pB:=
 qP (N:=["one","other","tables","k","p","way","first_along","first_across"]) E (·.Qv) ⋯ λX E a b=>by refine zc (zZ (zu zM ze)) ?_;refine zc (zZ (zu (PV.q (zu (PV.q (zu zM ze)) zA)) ze)) ?_;refine zc (zZ (zL (Kp E) (za zA (za (zu zM (zL (Vj E) hH)) (za (zu (PV.q (zu (PV.q (zu zM ze)) zA)) ze) zo))))) ?_;refine zc (zZ (zL (Kp E) (za zA (za (zu (PV.q (zu (PV.q (zu zM ze)) zA)) ze) (za (zu zM (zL (vW E) hH)) zo))))) ?_;exact(zk (zJ (zL (uK E) m9)))
theorem uL(E:E0 K mg):fy P w K mg base 5 "gaps" 3 bM:=
 qP (N:=["one","other","tables"]) E (·.Qw) ⋯ λX E a d=>zk (qa (qX a (i6.c (j5 a ⋯ E.Z2 (qK a ⋯ E.Z0 (PV.q (zu zM ze))))) (λ_ _ _ b=>zL (Eg E) (za zA m9))))
theorem vU(E:E0 K mg):fy P w K mg base 1 "tables_in" 2 xj:=
 qP (N:=["sizes","load","made","begin","high","wide","lines"]) E (·.Qx) ⋯ λX E a b=>by refine zc (xP (jw (qk zo))) ?_;refine zc (zZ ze) ?_;refine zc (xo b a (vS zA) (by refine zc (jx 6 (yE a (i6.c (j5 a ⋯ E.Z2 zA)) (λ_ _ _ d=>Ki zA (vT (z7 zA (qR zA zA))) (vT (z7 zA (qR (z7 zA ze) zA)))))) ?_;refine zc (vQ 2 a ⋯ (jj (qk (za zA (za zA (za (jt a ⋯ E.Z6 zM) zo)))))) ?_;exact(zk (zZ (z7 zA (qR zA zA)))))) ?_;exact(zk (kL 2 (a.var ⋯)))
theorem xD(E:E0 K mg):fy P w K mg base 1 "same_table" 1 qc:=
 qP (N:=["many","rows"]) E (·.Qy) ⋯ λX E a d=>by refine zc (jx 1 (yE a (i6.c (j5 a ⋯ E.Z2 zA)) (λ_ _ _ b=>jt b ⋯ E.Z6 (PO.q (qX b (i6.c (j5 b ⋯ E.Z2 zA)) (λ_ _ _ I=>xB (qw I zA zA) ze ze)))))) ?_;exact(zk (zJ (jj (qk (za zA (za zA (za (jt a ⋯ E.Z6 zM) zo)))))))
theorem K7(E:E0 K mg):fy P w K mg base 6 "gaps_table" 2 wB:=
 qP (N:=["one","other","sizes","many","led_units"]) E (·.Qz) ⋯ λX E a d=>by refine zc (zZ (PO.v (qI (vb E) hH))) ?_;refine zc (zZ (zL (kM E) h7)) ?_;refine zc (jx 4 (yE a (jc (PV.q (zu (PV.q (zL (xD E) h7)) ze))) (λ_ _ _ b=>zL (Ko E) (za (PO.v (qI (uL E) (za zA (za zA (za (PO.v (qI (vU E) hH)) zo))))) zo)))) ?_;exact(zk (zJ (zL (qe E) (za (jj (qk (za zA (za (zL (kM E) (za (PO.v (qI (qY E) hH)) zo)) (za (jt a ⋯ E.Z6 zM) zo))))) zo))))
theorem dh(E:E0 K mg):fy P w K mg base 1 "inverse" 2 XD:=
 qP (N:=["p","x","y"]) E (·._q) ⋯ λX E a b=>by refine zc (xo b a (nH a ⋯ E.Z2 ze zA) (zk (jA (qw a (qS (qR zA zA) zA) ze) (zk (kL 2 (a.var ⋯))) zS))) ?_;exact(zk k7)
theorem Kq(E:E0 K mg):fy P w K mg base 2 "cleared" 4 ky:=
 qP (N:=["p","load","pivot","place","much"]) E (·._r) ⋯ λX E a d=>by refine zc (zZ (zu zM zA)) ?_;refine zc (jA (qw a zA ze) (zk (kL 1 (a.var ⋯))) zS) ?_;exact(zk (zJ (zL (wK E) (za zA (za (PO.v (qX a (i6.c (vR a ⋯ E.Zb zA zA)) (λ_ _ _ b=>ZF zA (qR zA zA)))) zo)))))
theorem wN(E:E0 K mg):fy P w K mg base 3 "base_of" 3 xJ:=
 qP (N:=["p","long","loads","left","base","place","leading","times","pivot"]) E (·._s) ⋯ λX E a d=>by refine zc (jx 3 (yE a (jc zM) (λ_ _ _ b=>zL (wK E) hH))) ?_;refine zc (xP (jw (qk zo))) ?_;refine zc (xo d a (j5 a ⋯ E.Z2 zA) (by refine zc (jx 6 (uo a (jc zM) (λ_ _ _ b=>yI b (zu zM zA) ze) (λ_ _ _ b=>mn b))) ?_;refine zc (jA (yD (nq zM)) (zk Y8) zS) ?_;refine zc (zZ (zL (dh E) (za zA (za (zu (PV.q (zu zM ze)) zA) zo)))) ?_;refine zc (zZ (zL (wK E) (za zA (za (PO.v (qX a (jc (PV.q (zu zM ze))) (λ_ _ _ b=>qR zA zA))) zo)))) ?_;refine zc (jx 3 (yE a (jc zM) (λ_ _ _ b=>zL (Kq E) (za zA m9)))) ?_;exact(zk (xP (vA (PO.q (qX a (jc zM) (λ_ _ _ b=>zL (Kq E) (za zA m9)))) (PO.q (jw (qk h7)))))))) ?_;exact(zk (kL 4 (a.var ⋯)))
theorem wL(E:E0 K mg):fy P w K mg base 1 "lead_of" 1 xI:=
 qP (N:=["load"]) E (·._t) ⋯ λX E b d=>zk (zJ (zu (PO.q (gC b (i6.c (gF b ⋯ E.Za zA)) (λ_ _ _ a=>yI a zA ze) (λ_ _ _ a=>mn a))) ze))
theorem QR(E:E0 K mg):fy P w K mg base 4 "solved" 3 kQ:=
 qP (N:=["p","table","load","wide","answer","line","place"]) E (·._u) ⋯ λX E a b=>by refine zc (zZ (zu zM ze)) ?_;refine zc (xP (Kn (jw (qk (za ze zo))) zA)) ?_;refine zc (xo b a (vS (PO.v (qI (wN E) (za zA (za (z7 zA ze) (za (PO.v (qX a (i6.c (vR a ⋯ E.Zb (zu zM ze) zA)) (λ_ _ _ d=>z7 zA (jj (qk h7))))) zo)))))) (by refine zc (zZ (zL (wL E) h7)) ?_;refine zc (jA (qw a zA zA) (zk (zJ vP)) zS) ?_;exact(zk (Y7 4 a ⋯ zA (zu zM zA))))) ?_;exact(zk (zJ (jt a ⋯ E.Z6 zM)))
theorem ZI(E:E0 K mg):fy P w K mg base 5 "weights_against" 3 xY:=
 qP (N:=["p","slanted","load","columns","table"]) E (·._v) ⋯ λX E a b=>by refine zc (zZ (zL (qe E) h7)) ?_;refine zc (zZ (jj (qk (za (z7 (zu zM ze) ze) (za (zu zM ze) (za (z7 (zu zM ze) (jj (qk h7))) zo)))))) ?_;exact(zk (zJ (zL (QR E) (za zA (za zA (za (z7 (qR (jj (qk (za ze zo))) (zu zM ze)) (jj (qk (za ze zo)))) zo))))))
theorem gS(E:E0 K mg):fy P w K mg base 7 "fallen" 3 J9:=
 qP (N:=["under","upper","joins","p","slanted","load","slants","weights"]) E (·.l_) ⋯ λX E a d=>by refine zc (kc (zL (yp E) m9)) ?_;refine zc (kc (zL (yo E) hH)) ?_;refine zc (zZ (zu zM ze)) ?_;refine zc (zZ (zL (K7 E) hH)) ?_;refine zc (zZ (zL (wK E) (za zA (za (PO.v (qX a (jc (PV.q (zL (Ko E) h7))) (λ_ _ _ b=>gc zA))) zo)))) ?_;refine zc (zZ (zL (QR E) m9)) ?_;refine zc (jA (Jm zA vP) (zk (zJ (jj (qk (za jg (za (PO.v (qI (vU E) (za (PO.v (qI (vb E) hH)) h7))) zo)))))) zS) ?_;refine zc (zZ (PO.v (qI (vU E) (za (PO.v (qI (qY E) hH)) (za (zL (ZI E) m9) zo))))) ?_;exact(zk (zJ (jj (qk (za jg (za (PO.v (qX a (jc zM) (λ_ _ _ b=>zL (qe E) h7))) zo))))))
theorem df(E:E0 K mg):rp P w K mg base 7 "fallen" 3 ZW:=
 Ym (N:=["under","upper","joins","p","slanted","load","slants","weights"]) E.l_ ⋯ λX O d U b Y a=>by subst O d U b Y;have I:=a.iw (λ_ _=>False);have e:(X.iw λ_ _=>False).xe=(λ_ _=>False):=rfl;exact KW (Zl (ZH E) ⋯ I ⋯ m9) (kc (zL (yp E) m9)) (xh (Zl (k9 E) ⋯ I ⋯ hH))
theorem JG(E:E0 K mg):fy P w K mg base 4 "plain_sum" 2 xk:=
 qP (N:=["upper","under"]) E (·.m_) ⋯ λX E a b=>by refine zc (kc (zL (xF E) hH)) ?_;exact(zk (zJ (ZF (zL (kM E) (za (PO.v (qI (vb E) hH)) zo)) (zL (kM E) (za (PO.v (qI (qY E) hH)) zo)))))
theorem K0(E:E0 K mg):rp P w K mg base 4 "plain_sum" 2 xW:=
 Ym (N:=["upper","under"]) E.m_ ⋯ λX I d O b U a=>by subst I d O b U;have Y:=a.iw (λ_ _=>False);have e:(X.iw λ_ _=>False).xe=(λ_ _=>False):=rfl;exact xh (Zl (kC E) ⋯ Y ⋯ hH)
theorem Jq(E:E0 K mg):fy P w K mg base 1 "behind_noughts" 2 q9:=
 qP (N:=["many","base"]) E (·._w) ⋯ λX E b d=>zk (qa (gC b (jc zM) (λ_ _ _ a=>yD (qE (pY a ⋯ E.Zc (PV.q (Ki zA Jo (vT zA)))))) (λ_ _ _ a=>Ki zA (vT zA) Jo)))
theorem QT(E:E0 K mg):fy P w K mg base 4 "led_into" 3 kW:=
 qP (N:=["p","table","base","pairs","free"]) E (·._x) ⋯ λX E a d=>by refine zc (jx 3 (yE a (i6.c (vR a ⋯ E.Zb (zu (PV.q (zL (qe E) h7)) ze) (zu (PV.q (zL (xD E) (za (zu zM ze) zo))) ze))) (λ_ _ _ b=>z7 zA zA))) ?_;refine zc (jx 4 (yE a (jc zM) (λ_ _ _ b=>z7 zA (qR (jj (qk (za ze zo))) (zu zM ze))))) ?_;exact(zk (qa (qI (Jq E) (za (zu zM ze) (za (PO.v (qI (wN E) (za zA (za (z7 (zu zM ze) (zu zM ze)) (za (PO.v (vA zM zM)) zo))))) zo)))))
theorem Vi(E:E0 K mg):fy P w K mg base 5 "kernel" 2 vo:=
 qP (N:=["p","table"]) E (·._y) ⋯ λX E a b=>zk (qa (qI (QT E) (za zA (za zA (za (PO.v (jw (qk zo))) zo)))))
theorem aR(E:E0 K mg):fy P w K mg base 4 "image" 2 JA:=
 qP (N:=["p","table"]) E (·._z) ⋯ λX E a b=>zk (qa (qI (wN E) (za zA (za (zu zM ze) (za (zu (PV.q (zL (qe E) h7)) ze) zo)))))
theorem Jp(E:E0 K mg):fy P w K mg base 2 "columns" 2 yi:=
 qP (N:=["high","loads"]) E (·._A) ⋯ λX E a b=>zk (zJ (zL (qe E) (za (jj (qk (za (qK a ⋯ E.Z0 zM) (za zA (za (jt a ⋯ E.Z6 zM) zo))))) zo)))
theorem vd(E:E0 K mg):fy P w K mg base 1 "has_room" 2 j8:=
 qP (N:=["bar","room"]) E (·._B) ⋯ λX E a b=>zk (zJ (nh He Ec BK pP (zu zM ze) zA (z7 (zu zM ze) (qK a ⋯ E.Z0 (PV.q (zu zM ze))))))
theorem Zo(E:E0 K mg):fy P w K mg base 2 "loads_in" 2 xu:=
 qP (N:=["bars","room"]) E (·._C) ⋯ λX E a d=>zk (qa (gC a (jc zM) (λ_ _ _ b=>qE (zL (vd E) hH)) (λ_ _ _ b=>zu (PV.q (zu zM ze)) (ZF zA (zu zM ze)))))
theorem K4(E:E0 K mg):fy P w K mg base 3 "mixed_load" 4 yx:=
 qP (N:=["row","bars","times","room","there"]) E (·._D) ⋯ λX E a d=>by refine zc (jx 4 (uo a (i6.c (vR a ⋯ E.Zb zA zA)) (λ_ _ _ b=>qE (zL (vd E) hH)) (λ_ _ _ b=>mn b))) ?_;exact(zk (zJ (zL (gP E) (za (zu zM ze) (za (zL (Jp E) (za (zu (PV.q (zu zM ze)) zA) (za (PO.v (qI (Zo E) hH)) zo))) h7)))))
theorem nT(E:E0 K mg):fy P w K mg base 4 "mixed" 3 Yy:=
 qP (N:=["row","bars","times","first","loads"]) E (·._E) ⋯ λX E a d=>by refine zc (zZ (zu zM (zL (wL E) h7))) ?_;refine zc (jx 4 (yE a (i6.c (j5 a ⋯ E.Z2 (qK a ⋯ E.Z0 (PV.q (zu zM ze))))) (λ_ _ _ b=>zL (K4 E) (za zA (za zA (za zA (za (z7 (zu zM ze) zA) zo))))))) ?_;exact(zk (zJ (jj (qk (za (zu zM ze) (za (jt a ⋯ E.Z6 zM) zo))))))
theorem dg(E:E0 K mg):fy P w K mg base 6 "settled" 3 ZX:=
 qP (N:=["row","k","bars","way","table","special","base","leads"]) E (·._F) ⋯ λX E a d=>by refine zc (zZ (zu (PV.q (zu (PV.q (zu zM ze)) zA)) ze)) ?_;refine zc (zZ (zu (PV.q (zu (PV.q (zu zM ze)) zA)) ze)) ?_;refine zc (zZ (xB (qw a zA jg) (PO.v (qI (Vi E) (za (zu zM ze) h7))) (PO.v (qI (aR E) (za (zu zM ze) h7))))) ?_;refine zc (zZ (PO.v (qI (QT E) (za (zu zM ze) (za (zL (Jp E) (za (zu (PV.q (zu zM ze)) zA) (za (PO.v (qI (Zo E) hH)) zo))) h7))))) ?_;refine zc (zZ (nc a ⋯ E.Zd (qX a (jc zM) (λ_ _ _ b=>jj (qk (za (zL (wL E) h7) h7)))))) ?_;exact(zk (qa (qX a (i6.c (KZ a ⋯ E.Za zA)) (λ_ _ _ b=>xB (uh b zA zA) (zL (nT E) (za zA (za zA (za (Cp b zA zA) zo)))) zA))))
theorem Ve(E:E0 K mg):fy P w K mg base 5 "next_load" 3 x9:=
 qP (N:=["p","arrow","load","there"]) E (·._G) ⋯ λX E a b=>by refine zc (jA (qw a (zu zM ze) jg) (zk (zJ (zL (QR E) (za zA (za (zu zM ze) h7))))) zS) ?_;refine zc (zZ (zL (gP E) (za zA (za (zu zM ze) h7)))) ?_;exact(zk (zJ (xB (qE (pY a ⋯ E.Zc zM)) zA vP)))
theorem WG(E:E0 K mg):fy P w K mg base 6 "taken_on" 3 yP:=
 qP (N:=["p","arrow","bar","load"]) E (·._H) ⋯ λX E a b=>by refine zc (zZ (zL (Ve E) (za zA (za zA (za (zu (PV.q (zu zM ze)) (gc ze)) zo))))) ?_;exact(zk (zJ (xB (ug zA vP) zA (jj (qk (za (zu zM ze) (za (z7 (zu zM ze) (jj (qk h7))) zo)))))))
theorem Vf(E:E0 K mg):fy P w K mg base 6 "new_loads" 2 vm:=
 qP (N:=["p","arrow","leads"]) E (·._I) ⋯ λX E a d=>by refine zc (jA (qw a (zu zM ze) jg) (zk (qa (qI (Vi E) (za zA (za (zu zM ze) zo))))) zS) ?_;refine zc (jx 2 (yE a (jc (PO.q (qI (aR E) (za zA (za (zu zM ze) zo))))) (λ_ _ _ b=>zL (wL E) h7))) ?_;exact(zk (qa (gC a (i6.c (gF a ⋯ E.Za (zu (PV.q (zL (xD E) (za (zu (PV.q (zu zM ze)) ze) zo))) ze))) (λ_ _ _ b=>cT zA zM) (λ_ _ _ b=>mn b))))
theorem nU(E:E0 K mg):fy P w K mg base 7 "grown" 3 XE:=
 qP (N:=["row","k","bars","p","arrow","ended","here","old","new"]) E (·._J) ⋯ λX E b d=>by refine zc (zZ (zu zM ze)) ?_;refine zc (zZ (zu (PV.q (zu zM ze)) zA)) ?_;refine zc (jx 5 (uo b (jc zM) (λ_ _ _ a=>yD (qE (zL (vd E) hH))) (λ_ _ _ a=>mn a))) ?_;refine zc (zZ (PO.v (qI (dg E) (za zA (za zA (za (PO.v (gC b (jc zM) (λ_ _ _ a=>qE (zL (vd E) hH)) (λ_ _ _ a=>mn a))) zo)))))) ?_;refine zc (jx 7 (yE b (jc zM) (λ_ _ _ a=>zL (WG E) m9))) ?_;refine zc (jx 8 (yE b (jc (PO.q (qI (Vf E) hH))) (λ_ _ _ a=>jj (qk (za (z7 zA ze) (za (jj (qk h7)) zo)))))) ?_;exact(zk (zJ (PO.v (vA zM (PV.q (xB (qw b (zu zM ze) jg) (PO.v (vA zM zM)) (PO.v (vA zM zM))))))))
theorem ZJ(E:E0 K mg):fy P w K mg base 1 "stretch_of" 1 qb:=
 qP (N:=["bar"]) E (·._K) ⋯ λX E a b=>zk (zJ (jj (qk (za (zu zM ze) (za (ZF (z7 (zu zM ze) (qK a ⋯ E.Z0 (PV.q (zu zM ze)))) ze) zo)))))
theorem Vl(E:E0 K mg):fy P w K mg base 9 "all_grown" 1 vy:=
 qP (N:=["row","bars","k"]) E (·._L) ⋯ λX E a b=>by refine zc (jx 1 (yE a (jc (PV.q (zu (PV.q (zL (xD E) (za (zu (PV.q (zu zM ze)) ze) zo))) ze))) (λ_ _ _ d=>jj (qk (za ze (za (jj (qk h7)) zo)))))) ?_;refine zc (xo b a (j5 a ⋯ E.Z2 (qK a ⋯ E.Z0 (PV.q (zu zM ze)))) (zk (zZ (zL (nU E) m9)))) ?_;exact(zk (qa (nE (ZJ E) a ⋯ ⋯ E.Ze ⋯ zM)))
theorem dm(E:E0 K mg):fy P w K mg base 4 "back_of" 2 yj:=
 qP (N:=["p","table","many","same","base"]) E (·._M) ⋯ λX E a d=>by refine zc (zZ (zu zM ze)) ?_;refine zc (jA (yI a (zu zM ze) zA) (zk (zJ vP)) zS) ?_;refine zc (zZ (zu (PV.q (zL (xD E) h7)) ze)) ?_;refine zc (zZ (PO.v (qI (wN E) (za zA (za (z7 zA zA) (za (PO.v (qX a (i6.c (vR a ⋯ E.Zb (zu zM ze) zA)) (λ_ _ _ b=>z7 zA zA))) zo)))))) ?_;refine zc (jA (yI a (PO.v (qX a (jc zM) (λ_ _ _ b=>Ki zA Jo (vT zA)))) (PO.v (WB a ⋯ E.Z4 zM))) (zk (zJ vP)) zS) ?_;exact(zk (zJ (jj (qk (za zA (za zA (za (jt a ⋯ E.Z6 (PO.q (qX a (jc zM) (λ_ _ _ b=>Ki zA (vT zA) Jo)))) zo)))))))
theorem Vk(E:E0 K mg):fy P w K mg base 10 "barred" 1 xK:=
 qP (N:=["row","bars","backs","turns"]) E (·._N) ⋯ λX E a d=>by refine zc (zZ (PO.v (qI (Vl E) h7))) ?_;refine zc (jx 2 (yE a (i6.c (gF a ⋯ E.Za (zu zM ze))) (λ_ _ _ b=>zL (Jp E) (za zA (za (PO.v (qI (Zo E) hH)) zo))))) ?_;refine zc (jx 3 (yE a (jc zM) (λ_ _ _ b=>zL (dm E) (za (zu zM ze) h7)))) ?_;exact(zk (zJ (jj (qk (za (PO.v (qX a (jc zM) (λ_ _ _ b=>zL (ZJ E) h7))) hH)))))
theorem K5(E:E0 K mg):fy P w K mg base 1 "left_holds" 3 ku:=
 qP (N:=["ways","one","other"]) E (·._O) ⋯ λX E a b=>by refine zc (jA (qw a (zu zM ze) (zu zM ze)) (zk (zJ ue)) zS) ?_;exact(zk (zJ (XR a (yn zA (ZF (gh a ⋯ E.Z5 (zu zM ze) (zu zM ze)) ze)) (xB (rf (zu zM ze) (zu zM ze)) jg jg))))
theorem XY(E:E0 K mg):fy P w K mg base 1 "right_holds" 3 xH:=
 qP (N:=["ways","one","other"]) E (·._P) ⋯ λX E a b=>by refine zc (jA (qw a (zu zM ze) (zu zM ze)) (zk (zJ ue)) zS) ?_;exact(zk (zJ (XR a (yn zA (gf a ⋯ E.Z1 (zu zM ze) (zu zM ze))) (xB (vz (zu zM ze) (zu zM ze)) jg jg))))
theorem WH(E:E0 K mg):fy P w K mg base 2 "bar_ways" 3 kX:=
 qP (N:=["ways","one","other"]) E (·._Q) ⋯ λX E a b=>by refine zc (jA (vz (gh a ⋯ E.Z5 (zu zM ze) (zu zM ze)) (gf a ⋯ E.Z1 (zu zM ze) (zu zM ze))) (zk (zJ ze)) zS) ?_;exact(zk (zJ (xB (Jl (Jk (qE (zL (K5 E) m9)) (wG (qE (zL (XY E) m9))))) ze ze)))
theorem Vd(E:E0 K mg):fy P w K mg base 3 "ways_into" 3 yh:=
 qP (N:=["ways","bars","bar"]) E (·._R) ⋯ λX E a d=>zk (zJ (JF a ⋯ E.Z7 (PO.q (qX a (jc zM) (λ_ _ _ b=>zL (WH E) m9)))))
theorem K8(E:E0 K mg):fy P w K mg base 11 "count_ways" 2 xw:=
 qP (N:=["one","other","bars"]) E (·.n_) ⋯ λX E a d=>by refine zc (kc (zL (xF E) hH)) ?_;refine zc (zZ (zu (PV.q (zL (Vk E) h7)) ze)) ?_;exact(zk (zJ (JF a ⋯ E.Z7 (PO.q (qX a (jc (PV.q (zu (PV.q (zL (Vk E) h7)) ze))) (λ_ _ _ b=>zL (Vd E) (za (zL (wJ E) h7) hH)))))))
theorem XU(E:E0 K mg):rp P w K mg base 11 "count_ways" 2 yw:=
 Ym (N:=["one","other","bars"]) E.n_ ⋯ λX I d O b U a=>by subst I d O b U;have Y:=a.iw (λ_ _=>False);have e:(X.iw λ_ _=>False).xe=(λ_ _=>False):=rfl;exact xh (Zl (kC E) ⋯ Y ⋯ hH)
theorem K9(E:E0 K mg):fy P w K mg base 12 "count_upon" 2 kx:=
 qP (N:=["upper","under"]) E (·.o_) ⋯ λX E a b=>zk (zJ (ZF (zL (K8 E) hH) (zL (JG E) hH)))
theorem XX(E:E0 K mg):rp P w K mg base 12 "count_upon" 2 xq:=
 Ym (N:=["upper","under"]) E.o_ ⋯ λX I d O b U a=>by subst I d O b U;have Y:=a.iw (λ_ _=>False);have e:(X.iw λ_ _=>False).xe=(λ_ _=>False):=rfl;exact xh (tX (XU E) ⋯ Y ⋯ hH)
theorem QW(E:E0 K mg):fy P w K mg base 13 "_law_asked" 4 zQ:=
 Hx (N:=["_law_under","_law_upper","_law_joins_here","_law_what","_law_caught","_law_found","e"]) E._S ⋯ λX O d U b Y a e Z=>by subst O d U b Y;exact by refine zc (zZ vP) ?_;refine zc (zZ vP) ?_;refine zc (nu 6 4 ⋯ a Z ⋯ ⋯ ⋯ ⋯ ⋯ E.Gi (have I:=a.iw (λ_ _=>False);jA (qw I zA ze) (zk (zZ (zL (Vh E) m9))) (zk (jA (qw I zA ze) (zk (zZ (zL (gS E) m9))) (zk (jA (qw I zA ze) (zk (zZ (zL (JG E) hH))) (zk (zZ (zL (K9 E) hH)))))))) (have I:=a.iw (λ_ _=>False);uF (qw I zA ze) (aP a ⋯ (K1 E) ⋯ m9) (uF (qw I zA ze) (aP a ⋯ (df E) ⋯ m9) (uF (qw I zA ze) (aP a ⋯ (K0 E) ⋯ hH) (aP a ⋯ (XX E) ⋯ hH))))) ?_;refine zc (jA (Jm zA vP) (zk (qa (qI (XZ E) h7))) zS) ?_;exact(zk (qa (jw (qk (za (zu (PO.q (jw (qk (za jg (za jg (za jg (za jg zo))))))) zA) h7)))))
theorem QV(E:E0 K mg):fy P w K mg base 3 "_law_joins" 7 kh:=
 qP (N:=["_law_script","_law_at","_law_p","_law_ways_here","_law_under","_law_upper","_law_few","_law_joins_here","_law_k","_law_begin","_law_end","_law_rows"]) E (·._T) ⋯ λX E a d=>by refine zc (xP (jw (qk zo))) ?_;refine zc (xo d a (j5 a ⋯ E.Z2 (yY a ⋯ E.Z0 zA)) (by refine zc (wH (Bh a) (zL (vc E) hH)) ?_;refine zc (zZ (PO.v (qI (vV E) (za zA (za (z7 zA (qR ze zA)) (za zA (za (zu (PV.q (zu zM ze)) zA) (za (zu (PV.q (zu zM ze)) zA) h7)))))))) ?_;exact(zk (vQ 7 a ⋯ (jj (qk (za (zu (PV.q (zu zM ze)) zA) (za (zu (PV.q (zu zM ze)) zA) (za (jt a ⋯ E.Z6 (PO.q (qX a (jc zM) (λ_ _ _ b=>jt b ⋯ E.Z6 zM)))) zo))))))))) ?_;exact(zk (kL 7 (a.var ⋯)))
theorem Vg(E:E0 K mg):fy P w K mg base 1 "_law_whole" 1 XB:=
 qP (N:=["_law_found"]) E (·._U) ⋯ λX E a b=>zk (zJ (Kk (gi a ⋯ E.Z9 ⋯ E.Z3 zA) (Y5 (pW (cR a ⋯ E.Z9 ⋯ E.Zf zA)))))
theorem IK(D:L2.A5 K "law" "law" (top 97) f fd)(E:E0 K mg):q5 P w K mg base sa 14 f fd ["_law_script"] (t9 K 1 Ja):=
 Hy (N:=["_law_script","_law_cell_here","_law_p","_law_ways_here","_law_most","_law_under","_law_upper","_law_joins_here","_law_other","_law_odd","_law_q","_law_wise","_law_told","_law_due_here"]) D ⋯ λX I e O d U a g=>by subst I e O d U;exact by refine zc (zZ (zL (Zp E) (za zA (za ze zo)))) ?_;refine zc (zZ (zu (PO.q (jw (qk (za ze (za ze (za ze (za ze zo))))))) (qS zA ze))) ?_;refine zc (zZ (zL (QU E) (za (k4 zA ze) (za (z7 ze (qS (k4 zA ze) ze)) zo)))) ?_;refine zc (zZ (zu (PO.q (jw (qk (za ze (za ze (za ze (za ze zo))))))) (qS (k4 zA ze) ze))) ?_;refine zc (zZ (zL (xE E) (za zA (za ze (za zA (za zA (za zA (za ze zo)))))))) ?_;refine zc (zZ (zL (xE E) (za zA (za ze (za zA (za zA (za zA (za ze zo)))))))) ?_;refine zc (zZ (PO.v (qI (vB E) (za (PO.v (qI (vB E) (za (PO.v (qI (QV E) (za zA (za ze (za zA (za zA (za zA (za zA (za ze zo))))))))) (za (k4 zA ze) zo)))) (za (k4 zA ze) zo))))) ?_;refine zc (zZ (zL (qx E) m9)) ?_;refine zc (zZ (qS (k4 zA ze) ze)) ?_;refine zc (jA (qw a zA ze) (by refine zc (zZ (zu (PO.q (jw (qk (za ze (za ze (za ze (za ze zo))))))) (ub a (PO.q (jw (qk (za ze (za ze (za ze (za ze zo))))))) zA))) ?_;exact(zk (zZ (zL (qx E) (za zA (za zA (za (zL (xE E) (za zA (za ze (za zA (za zA (za zA (za ze zo))))))) zo))))))) zS) ?_;refine zc (jA (Jl (Jk (qw a zA ze) (wG (rf (yY a ⋯ E.Z0 zA) ze)))) (by refine zc (zZ (gj zA (yn jg (qS (k4 zA ze) ze)))) ?_;exact(zk (zZ (zL (qx E) (za zA (za zA (za (zL (xE E) (za zA (za ze (za zA (za zA (za ze (za ze zo))))))) zo))))))) zS) ?_;refine zc (jA (Jl (Jk (qw a zA ze) (wG (vz (yY a ⋯ E.Z0 zA) ze)))) (by refine zc (zZ (gj (yn jg (mZ (yn zA ze))) (Cn zA (vT ze) Jo))) ?_;exact(zk (zZ (zL (qx E) (za zA (za zA (za (zL (xE E) (za zA (za ze (za zA (za zA (za ze (za ze zo))))))) zo))))))) zS) ?_;refine zc (jx 12 (yE a (i6.c (j5 a ⋯ E.Z2 ze)) (λ_ _ _ b=>PO.v (qI (QW E) (za (zL (qx E) m9) (za zA (za (PO.v (WB b ⋯ E.Z4 zM)) h7))))))) ?_;refine zc (jA (Jl (wX (yI a (zu zM ze) zA) (wX (yI a (qK a ⋯ E.Z0 (PV.q (zu zM ze))) (yY a ⋯ E.Z0 zA)) (Zm (yI a (Wv jg (PO.q (qX a (jc (PV.q (zu zM ze))) (λ_ _ _ b=>zu zM ze)))) zA))))) (zk (zJ (XR a zA (PO.v (jw (qk (za (PO.v (jw (qk (za jg zo)))) (za (PO.v (jw (qk (za jg zo)))) (za (PO.v (jw (qk (za jg zo)))) (za (PO.v (jw (qk (za jg zo)))) zo)))))))))) zS) ?_;refine zc (jA (Jl (wX (yI a (zu (PV.q (zu zM ze)) ze) jg) (wX (yI a (zu (PV.q (zu zM ze)) ze) jg) (Zm (yD (qE (zL (Vg E) (za (zu (PV.q (zu zM ze)) ze) zo)))))))) (zk (zJ ue)) zS) ?_;refine zc (zZ (zL (K6 E) (za zA (za zA m9)))) ?_;refine zc (jA (Jm zA vP) (zk (zJ (Kk (XR a (zu zM ze) zA) (Y5 (XR a (zu zM ze) zA))))) zS) ?_;exact(zk (zJ (Kk (XR a (zu (PV.q (zu zM ze)) ze) jg) (Kk (XR a (zu (PV.q (zu zM ze)) ze) jg) (Y5 (Co (zu (PV.q (zu (PV.q (zu zM ze)) ze)) ze) (PO.q (jw (qk (za jg (za jg zo)))))))))))
end
end DL
section
open Lean
local macro_rules|`(#check $_)=>do
 let mut a:=#[]
 for(s,l)in[("env",[41]),("heap",[39,46,725]),("o",List.range' 43 682),("sts",[49,64,79,94,109,124,139,154,169,184,199,214,236,258,307,386,468,545,628,706]),("tree",[47,63,78,93,108,123,138,153,168,183,198,213,235,257,306,385,467,544,627,705,724]),("view",[39])]do
  for i in l do a:=a.push (←`(command|noncomputable def $(mkIdent (.str `PySem.W.Fast s!"tw{(Name.mkStr `PySem.Challenge.cw_barsplit_k45_laying_refused_holds s!"{s}_{i}").hash}")):ident:=0))
 return mkNullNode a
#check 0
end
def PySem.W.Fast.tw4946327362606825244:=0
def PySem.W.Fast.tw2119538269471559455:=0
open PySem PySem.W PyProof.Rows
set_option maxRecDepth 100000 in
set_option maxHeartbeats 0 in
theorem PySem.Challenge.cw_barsplit_k45_laying_refused_holds : PySem.Challenge.rw_barsplit_k45_laying_refused.Holds := by
 w_on;o_law;k_head;(case hw=>w_witness2)
 k_fill
 refine L2.Fp (l:=Rv) (n:=63) (k:=14) (x:="_law_script") (CX:=L2.sa) (sp:=λK=>DL.t9 K 1 DL.Ja) rfl ⋯ rfl ⟨rfl,by decide,by decide⟩ (λw h Y=>PySem.W.kIn_of Y) ?F ?S ?C
 case S=>exact λK H a ns U hO Z=>DL.FP Z (DL.Hj ns U)
 case C=>exact λ_ _ _ _ z=>z
 case F=>
  intro w mg fa h I G a1;have O:DL.YD (L2.nr I)=cI:=by kernel_rfl
  have a6:DL.XI (L2.nr I) mg "NoArrow":=DL.Ln I G O ⋯;have a7:DL.XI (L2.nr I) mg "NoLine":=DL.Ln I G O ⋯;have a8:DL.XI (L2.nr I) mg "NoPrime":=DL.Ln I G O ⋯;have a9:DL.XI (L2.nr I) mg "NoRoom":=DL.Ln I G O ⋯;have ac:DL.XI (L2.nr I) mg "NoRow":=DL.Ln I G O ⋯;have ad:DL.XI (L2.nr I) mg "NoTable":=DL.Ln I G O ⋯;have ak:DL.XI (L2.nr I) mg "NoText":=DL.Ln I G O ⋯;have al:DL.XI (L2.nr I) mg "NoTurn":=DL.Ln I G O ⋯;have am:DL.XI (L2.nr I) mg "NoWidths":=DL.Ln I G O ⋯;have an:DL.XI (L2.nr I) mg "Nothing":=DL.Ln I G O ⋯;have ap:DL.XI (L2.nr I) mg "Nought":=DL.Ln I G O ⋯;have aq:DL.XS (L2.nr I) mg:=DL.Lm I G (by kernel_rfl);have ar:DL.XI (L2.nr I) mg "TooMany":=DL.Ln I G O ⋯;have as:DL.XI (L2.nr I) mg "Unlike":=DL.Ln I G O ⋯;have ax:DL.XC (L2.nr I) mg "TooMany":=DL.Lo I G O ⋯ (by kernel_rfl);have b0:DL.XC (L2.nr I) mg "Unlike":=DL.Lo I G O ⋯ (by kernel_rfl);have b1:DL.N4 (L2.nr I) mg "NoArrow" "NoArrow.__init__" "at" (DL.EF (DL.top 12) 0) "at":=by
   dsimp only[L2.nr];refine' DL.Gs I G O ⋯ ?nC ?nS ?iC ?uI ?vI ?w1 ?z1 ?b ?gI
   (case nC=>k_is)
   (case nS=>k_is)
   (case iC=>k_is)
   (case uI=>k_is)
   (case vI=>k_is)
   (case w1=>k_is)
   (case z1=>k_is)
   (case b=>kernel_rfl)
   (case gI=>intro _ _ _ _ _ _ us U;obtain⟨_,_,rfl⟩:=DL.LJ U;rfl)
  have b2:DL.Io (L2.nr I) "at" = cI:=by kernel_rfl
  have b3:DL.GL (L2.nr I) mg "BEYOND_ALL_ARROWS" (.int 5):=by
   dsimp only[L2.nr];refine' DL.IM I G ?a
   (case a=>k_is)
  have b4:DL.GL (L2.nr I) mg "MOST_TOGETHER" (.int 30):=by
   dsimp only[L2.nr];refine' DL.IM I G ?a
   (case a=>k_is)
  have E:DL.E0 (L2.nr I) mg:=by
   constructor
   all_goals first
    |assumption
    |exact PySem.W.mg_none_of I G (by k_is)
    |(dsimp only[L2.nr];refine' DL.IT I G ?a ?l ?c ?k ?b;(case a=>k_is);(case l=>k_is);(case c=>k_is);(case k=>k_is);(case b=>intro _ _ _ _ _ _ us U;first|(obtain⟨_,rfl⟩:=DL.Mf U;rfl)|(obtain⟨_,_,rfl⟩:=DL.LJ U;rfl)|(obtain⟨_,_,_,rfl⟩:=DL.Me U;rfl)|(obtain⟨_,_,_,_,rfl⟩:=DL.Md U;rfl)|(obtain⟨_,_,_,_,_,rfl⟩:=DL.Mc U;rfl)|(obtain⟨_,_,_,_,_,_,rfl⟩:=DL.Mb U;rfl)|(obtain⟨_,_,_,_,_,_,_,rfl⟩:=DL.Ma U;rfl)))
  obtain⟨f,fd,Fu,hb,hm⟩:=E._V.ex;have e0:=a1.symm.trans hm;cases e0;refine⟨fd,λs u=>.of_eq (hb [u] rfl),λbase kb nb=>?_⟩;exact DL.IK Fu E
