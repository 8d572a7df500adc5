import PyProof.Rows.All
import Wide.All
import OpenK.ZHead
import KE.KDictList
import KE.KEqDict
import KE.KFromBytes
import KE.KIntText
import KE.KItem
import KE.KxBytes
import OpenK.KCall
import OpenK.KCls
import OpenK.KDescr
import OpenK.KFacts
import OpenK.KGet
import OpenK.KLine
import OpenK.KMake
import OpenK.KMore
import OpenK.KOps
import OpenK.KRaise
import OpenK.KWalk
import OpenK.Peek
import Wide.FinOn
import Lean
import PyProof.EqAt
import PyProof.EqKinds
import PyProof.TupleCall
import PySem.Str
import PyProof.ZipIter
import PyProof.IsiBase
import KE.KItemsList
import KE.KIsAll
import OpenK.KOwn
import KE.KSortAsk
import PyProof.StrBlockI
import PyProof.Rows.EqDataRows
import PyProof.Rows.InDataRows
import PyProof.SumWalkG
import PyProof.ConsumeWalk
import PyProof.WalksMore
import KE.KSortTup
import PyProof.ListMulRoad
import PyProof.EnumFor
import PyProof.Rows.EnumRows
import PyProof.StrBlockL
import PyProof.JoinWalk
import PyProof.NsDelKeeps
import KE.KTryDeep
import PyProof.InstStoreFacts
import PyProof.NsCount
import PyProof.ExcClass2
import PyProof.Rows.FStr
import PyProof.StationsW
import PyProof.Rows.Catch
import KE.KRevIter
import PyProof.CollectIter
import PyProof.TupleOfGen
import PyProof.Rows.Tup
import PyProof.Draws
import PyProof.EnumMake
import PyProof.StrWalks
import PyProof.SliceStr2
import PyProof.ListNew
import KE.KDictOf
import PyProof.ListRange
import PyProof.Rows.GenSrcRange
import PyProof.ListCopy
import PyProof.AttrMissHeap
import PyProof.DictWalks
import PyProof.FactsDict
import KE.KSortKey
import KE.IntText
import PyProof.TableCode
import PyProof.Rows.KernelRfl
import PySem.Challenge.RW_barsplit_k37_ways_refused
open PySem.W renaming Frag->MC,kia_one->Nx,kitOne->Om,mroIn->OS,findIn->PR,hideAll_get->PY,cellsFrom_some->Rl,keepIn->Rx,fnOf->Rz,hideAll->RO,nsIn->RY,kitx_dict->Sj,clsIn->R8,typeIn->SV,codeIn->SW,of_hideAll->Tn,Looks->To,specialIn->TF,methodObj->TH,kitx_list->TJ,plainGet->TX,clsIn->S7,looks_findIn->Y_
open PySem renaming wpAny_bind->MD,wpAny_pure->ML,wpAny_mono->Nv,wpAny_callSpecial?_slot->NG,wpAny_field->NL,wpAny_call_entry->Oh,wpAny_setField_rec->C8,wpAny_seqItems->Ov,wpAny_newObj_type->Ox,wpAny_holding->Oy,wpAny_Call_Name_kw->OJ,wpAny_loadPart'->OR,wpAny_attempt->Pc,wpAny_truthy_bool->Pd,call_meets->PB,mem_of_lookup->Rb,Builtin->Ri,wpAny_execs_cons->Rj,wpAny_typeOf->Rw,wpAny_getItem_str_slice->RF,wpAny_rule->RM,sizeLine_eq->RN,builtinLookup_eq_fast->RV,wpAny_updateSeq->Sw,wpAny_passesOwn->Sx,pushCells_keeps->Sz,codeAny_builtin->R7,wpAny_pyIter_tuple->SI,codeAny_mono->SJ,wpAny_letGo->N9,wpAny_isInstance->Tf,wpAny_execs_nil->Tv,typeLookup_type->Tw,post_val_or_str->Tx,wpAny_updateSeq_pair->TU,codeAny_call_builtin->TV,wpAny_newTuple->Uc,isSubtype_stop->Ud,wpAny_standAt->Uo,wpAny_onRaise->Up,wpAny_pyIter_list->Uw,wpAny_call->Ux,typeIs_str->Uy,typeIs_int->Uz,concat_meets->UA,wpAny_pyIter_zip->UB,noFill_tuple_add->UC,Addr->dy,Value->d9,Shared->ej,eval->eA,model->eF,Expr->eK,Heap->fh,sizeLine->fy,starEach->fA,Pos->gv,World->g8,Scope->h7,Program->ir,Stmt->i7,Around->lp,Obj->l7,Env->ml,IsPair->nt,Sem->n0,backTo->p3,Tok->ro,mainGlobals->r3,FuncData->sa,compareOp->sh,IsZip->uS,Keyword->u0,foldedSetIterable->u5,swapsWith->u7,cellsFrom->vt,binaryOp->xr,pyNext->z8,NameKind->A9,ZipApart->B5,relabel->C3,assign->Dc,behindInMarks->Dd,bootBuiltins->De,cLine->Dg,rawInt->Dm,IsPart->Dv,assignEach->Dy,getItem->DG,spliced->DP,sysModules->DR,Model->DY,pushCells->D3,backToKw->E6,bindC->E7,bindL->E8,callerA->E9,isTrue->F3,leaving->F5,atKey->I0,attributeBase->I8,standAt->M5,typeLookup->N0,valueAt->N2,setField->P6,BindsTo->R0,letOwnedTupleGo->T9,noteFrame->UI,pyIter->UP,setFlight->UT,strIterType->U2,subscripted->E_,swapsWithSole->F',GenState->K_,PassesOwn->N_,bindArgs->R_,builtinsNs->S',entryPlaceOf->U_,isInstance->X',newFunctionEnv->_b,newList->_c,seq_tuple_add->_d,tupleKind->_m,wpAny_Name->_t,boundAndCalled->e?,checkBuiltinCall->j?,comprehension->l?,getAttrByItsOwn->s?,recursionLimit->H?,underTheClaimsCaller->S?,wpAny_assign_Name->U?,wpAny_sequenceKey->V?
open List renaming range->ME,mem_range->MG,getElem?_eq_getElem->MH,replicate->MI,getD_eq_getElem?_getD->MK,getElem?_cons_zero->MN,size_toArray->MP,mem_cons->MQ,getElem?_cons_succ->MT,getElem?_set_ne->MV,not_mem_nil->MY,mem_append_right->Nb,mem_cons_self->Nc,length_map->Nf,mem_cons_of_mem->Ng,map_congr_left->Ni,mem_filter->Nl,map_cons->Nn,getElem?_eq_some_iff->Np,length_cons->Nr,mem_map->Ny,map_map->NB,length_append->NC,eq_nil_of_length_eq_zero->NI,length_nil->NK,getElem?_map->NS,count_eq_zero_of_not_mem->NT,map_append->NU,getElem?_set_self->NZ,lookup_cons->Ob,set_cons_zero->Od,set_cons_succ->Oe,length_range->Og,getElem?_append_right->Ow,getElem?_append_left->OA,all_eq_true->OB,countP_eq_length_filter->OE,range_succ->OH,getElem_mem->OI,replicate_succ->Pb,length_singleton->Pf,pairwise_iff_getElem->Pj,find?_cons->Pp,countP_congr->Pq,mem_singleton->PJ,flatten_cons->PN,Pairwise->_y,range_eq_range'->PX,drop_eq_getElem_cons->Ra,length_take->Rc,nodup_cons->Rm,nil_append->Rn,getElem?_replicate->Ro,filter_append->Rp,append_nil->Rq,take_of_length_le->RB,pairwise_lt_range->RD,pairwise_map->RE,range_add->RH,range'_succ->RL,zip_map'->RT,mem_append->RZ,idxOf_lt_length_of_mem->Sa,getElem?_range->Sb,forIn_cons->Sd,zip_cons_cons->Sm,toArray->Sn,mem_filterMap->So,forIn_nil->Sv,range'->SK,any_cons->R9,all_cons->SM,nodup_range->SN,drop_eq_nil_of_le->SS,countP_map->SY,mem_of_getElem?->Th,mem_append_left->Ti,perm_iff_count->Tr,length->Ts,getElem_of_mem->Tt,filterMap_cons->Tu,getElem_idxOf->TM,forIn_toArray->TN,find?_eq_none->TQ,length_eq_countP_add_countP->Ub,foldl->Ue,map_nil->Uh,cons_append->Ul,any_eq_true->Um
open PySem.Heap renaming get?_push_of_some->MF,lt_size->MR,get?_push_size->MU,get?_update_other->Nh,push->Nm,size_push->NA,get?_update_self->Oo,FlyingW->Pg,SameBut->Rf,size_update->SR
open Option renaming bind_some->MJ,map_some->MW,isSome_iff_exists->Oa,some->OF,map->Ss,some->da
open Nat renaming le_refl->MM,lt_of_lt_of_le->MX,ne_of_lt->MZ,lt_or_ge->Nj,not_lt_zero->Nq,le_add_right->Nt,le_trans->NJ,lt_irrefl->NP,zero_add->NW,lt_succ_of_lt->Oc,zero_le->rn,lt_succ_self->OC,reduceAdd->OX,add_sub_cancel_left->OY,ne_of_gt->OZ,mul_comm->C9,lt_trichotomy->RG,mul_le_mul_right->RR,succ_mul->Su,min_eq_left->Tb,le_of_lt->Tc,add_zero->Td,le_succ->TK,eq_zero_or_pos->TZ,add_assoc->Ua,add_comm->Uk,mod_eq_of_lt->Ur,min_le_right->Us,div_eq_of_lt->Ut
open Bool renaming and_eq_true->MO,false_ne_true->Nd,false_eq_true->NV,or_eq_true->Oq,not_eq_true'->OO,false_or->Rt,eq_iff_iff->Ru,and_true->TR,true->dj,false->dt
open Int renaming mul_emod->MS,emod_lt_of_pos->NF,emod_emod->NM,emod_eq_of_lt->NO,emod_nonneg->NX,add_emod->Ot,toNat_natCast->Ou,mul_comm->Oz,emod_eq_emod_iff_emod_sub_eq_zero->OT,sub_emod->Pa,emod_emod_of_dvd->Pu,mul_assoc->PD,eq_ofNat_of_zero_le->PF,mul_zero->Rg,natCast_mul->Rv,toNat_of_nonneg->Sf,natCast_add->Sg,mul_left_comm->SG,mul_one->SO,mul_add->SQ,dvd_refl->Te
open PySem.Builtin.SmallTypes renaming nextOf->Na,ownedTupleIsFree->Nk,ownedTupleHandOut->OL,ownedTupleFields->Si
open PySem.NameKind renaming free->Nu,cell->Po
open PySem.Value renaming ref->Nw,none->NY,type->OP,str->Tz,int->TC
open PySem.Str renaming ofString->Nz,join->Uv
open PyProof.Rows renaming callWith_type1->ND,slot_tuple_getitem->Oj,callWith_builtin1->Ph,boot_isinstance->Ry,boot_list->Sh,slot_tupleiter_next->Sy,tupleItemsOf_->Ta,listUpdate_at->Uq,AllBare->Dp,IsTup->N4,IntsAre->R6,envOfC->S8,Subscript_->P',subscriptTail->_e,args_tuple_getitem->b?,args_tupleiter_next->d?,entry_tupleiter_next->n?,subscriptTail_builtinR->N?
open Ne renaming symm->NH
open PySem.Obj renaming mapSeq->NQ,data_mapFields->TY
open Option.some renaming inj->NR
open Classical renaming byContradiction->Of,axiomOfChoice->Sr
open PySem.SeqAt renaming EqAt->Oi,readOf->RJ,readsAll_map->RW
open PySem.F renaming slot_zip_next->OD,plainAttrs_list->Pw,slot_enumerate_next->PU,args_zip_next_1->PZ,entry_zip_next->Rh,slot_list_getattribute->Rr,slot_tuple_mul->RX,args_tuple_add_2->Sl,plain_extend_loop->Sq,entry_tuple_add->SD,slot_tuple_add->SF,slot_int_rmul->Tp,args_tuple_mul_2->Ui,entry_tuple_mul->Uu
open PySem.Calls renaming spliced_cons->OG,spliced_nil->PM
open PySem.Builtin.Tuple renaming tupleExact->OK,tupleIsExact->PH
open PySem.Builtin.List renaming listTooLong->OM,listExtendWith->OQ,listItems->a_,listSameRef->RU
open Array renaming length_toList->ON,getElem?_setIfInBounds->OU,getD_eq_getD_getElem?->PL
open PySem.PyData renaming eqv->OV,depth->Py,canLay0->RA,depthAll->RQ,eqvAll->Tq,canLayAll0->TL
open Sum renaming inl->OW,inr->Ug
open PySem.Sem renaming wp->Pe
open False renaming elim->Pk
open True renaming intro->Pn
open PySem.Builtin.Slice renaming slicePlaces->PK,sliceAdjust->RI
open PySem.Challenge renaming rw_barsplit_k37_ways_refused->RK
open List.Pairwise renaming imp_of_mem->RP,filter->SE
open ForInStep renaming yield->SH
open PySem.SeqAt.EqAt renaming int_int->SU
open Function renaming comp->Tj
open PySem.Txt renaming slice_le->Uj
local macro_rules| `(⋯) => `(by first|decide +kernel|omega|simp)
set_option autoImplicit true
noncomputable section
set_option Elab.async false
set_option linter.all false
set_option maxRecDepth 100000
set_option maxHeartbeats 4000000
abbrev EQ:=PySem.Value->PySem.Shared->Prop
abbrev UQ:=List (PySem.Addr×PySem.Obj)
abbrev UW:=Nat->Nat->Nat->Int
abbrev UV:=Nat->Nat->Int
abbrev UK:=Nat->Bool
abbrev UX:=Nat->Nat
abbrev UZ:=PySem.Str->Option PySem.Value
theorem UJ{c:Prop}{h:Decidable c}(z:c){α}{a b:α}:ite c a b=a:=if_pos z
theorem UY{c:Prop}{h:Decidable c}(z:¬c){α}{a b:α}:ite c a b=b:=if_neg z
namespace L2
open PySem PySem.Spec PyProof.Rows
abbrev Key:=Sum Int Str
def cK:Key->d9->Bool
 |.inl k,v=>Value.isInt k v
 |.inr x,v=>Value.isStrOf x v
def Mc(w:g8):Key->Int
 |.inl k=>hashInt k
 |.inr x=>hashStr w x
theorem qf:∀{k:Key} {v:d9},cK k v=dj->(∃i t,k=OW i/\v=TC i t)\/(∃x t,k=Ug x/\v=Tz x t)
 |.inl i,v,h=>by obtain⟨t,e⟩:=Value.isInt_shape (k:=i) (v:=v) h;exact .inl ⟨i,t,rfl,e⟩
 |.inr x,v,h=>by obtain⟨t,e⟩:=Value.isStrOf_shape (x:=x) (v:=v) h;exact .inr ⟨x,t,rfl,e⟩
theorem gy(i:Int)(t:ro):cK (.inl i) (.int i t)=dj:=by simp[cK,Value.isInt]
theorem gx(x:Str)(t:ro):cK (.inr x) (.str x t)=dj:=by simp[cK,Value.isStrOf]
theorem CD(a b:Int):decide ((OW a:Key)=OW b)=(a==b):=by
 by_cases e:a=b
 ·subst e;simp
 ·have h:¬(OW a:Key)=OW b:=λq=>e (OW.inj q)
  rw[decide_eq_false h];exact(beq_eq_false_iff_ne.mpr e).symm
theorem CA(a b:Str):decide ((Ug a:Key)=Ug b)=decide (a=b):=by
 by_cases e:a=b
 ·subst e;simp
 ·have h:¬(Ug a:Key)=Ug b:=λq=>e (Ug.inj q)
  rw[decide_eq_false h,decide_eq_false e]
theorem CC(a:Int)(b:Str):decide ((OW a:Key)=Ug b)=dt:=decide_eq_false<|λq=>nomatch q
theorem CB(a:Str)(b:Int):decide ((Ug a:Key)=OW b)=dt:=decide_eq_false<|λq=>nomatch q
noncomputable def xN(prog:ir)(w:g8):PySem.KeyKind prog w Key where
 is:=cK
 hash:=Mc w
 inj:=λv a b ha O=>by
  rcases qf ha with⟨i,t,rfl,rfl⟩|⟨x,t,rfl,rfl⟩
  ·rcases qf O with⟨j,u,rfl,e⟩|⟨y,u,rfl,e⟩
   ·injection e with e1 _;rw[e1]
   ·exact nomatch e
  ·rcases qf O with⟨j,u,rfl,e⟩|⟨y,u,rfl,e⟩
   ·exact nomatch e
   ·injection e with e1 _;rw[e1]
 byValue:=λk v h=>by rcases qf h with⟨i,t,rfl,rfl⟩|⟨x,t,rfl,rfl⟩<;>rfl
 pyHash:=λI h=>by
  rcases qf I with⟨i,t,rfl,rfl⟩|⟨x,t,rfl,rfl⟩
  ·exact wpAny_pyHash_int h
  ·exact wpAny_pyHash_str h
 eqBool:=λU I h=>by
  rcases qf U with⟨i,t,rfl,rfl⟩|⟨x,t,rfl,rfl⟩
  ·rcases qf I with⟨j,u,rfl,rfl⟩|⟨y,u,rfl,rfl⟩
   ·rw[CD]at h;exact wpAny_eqBool_int h
   ·rw[CC]at h;exact Oi.int_str i t y u _ _ _ _ h
  ·rcases qf I with⟨j,u,rfl,rfl⟩|⟨y,u,rfl,rfl⟩
   ·rw[CB]at h;exact Oi.str_int x t j u _ _ _ _ h
   ·rw[CA]at h;exact wpAny_eqBool_str h
 «strs» :=λk x t v h=>by
  rcases qf h with⟨i,u,rfl,e⟩|⟨y,u,rfl,e⟩
  ·exact nomatch e
  ·injection e with e1 _
   subst e1;cases v<;>rfl
theorem V4(prog:ir)(w:g8)(i:Int)(t:ro):(xN prog w).is (.inl i) (.int i t)=dj:=gy i t
theorem V3(prog:ir)(w:g8)(x:Str)(t:ro):(xN prog w).is (.inr x) (.str x t)=dj:=gx x t
inductive V where
 |el|bl (b:Bool)|int (i:Int)|str (x:Str)|O2 (b:Array UInt8)|L6 (b:UInt64)|ref (a:dy)|ty (n:String)
 deriving DecidableEq
noncomputable def RelV:V->d9->Prop
 |.el,u=>u=NY
 |.bl b,u=>u=Value.bool b
 |.int i,u=>∃t,u=TC i t
 |.str x,u=>∃t,u=Tz x t
 |.O2 b,u=>∃t,u=Value.bytes b t
 |.L6 b,u=>∃t,u=Value.float b t
 |.ref a,u=>u=Nw a
 |.ty n,u=>u=OP n
abbrev f6:List V->List d9->Prop:=Paired RelV
theorem f6.length(r:f6 xs us):xs.length=us.length:=Paired.length r
theorem f6.get:∀{xs:List V} {us:List d9} {i:Nat} {x:V},f6 xs us->xs[i]? = da x->∃u,us[i]? = da u/\RelV x u
 |_,_,_,_,.nil,e=>by simp at e
 |_,_,0,_,.cons r _,e=>by simp at e;subst e;exact⟨_,rfl,r⟩
 |_,_,i+1,x,.cons _ t,e=>by obtain⟨u,a,b⟩:=f6.get (i:=i) (x:=x) t (by simpa using e);exact⟨u,by simpa using a,b⟩
theorem f6.set(r:RelV x u):∀{xs:List V} {us:List d9} (i:Nat),f6 xs us->f6 (xs.set i x) (us.set i u)
 |_,_,_,.nil=>.nil
 |_,_,0,.cons _ t=>.cons r t
 |_,_,i+1,.cons q t=>.cons q (f6.set r i t)
theorem f6.append:∀{xs ys:List V} {us ws:List d9},f6 xs us->f6 ys ws->f6 (xs++ys) (us++ws)
 |_,_,_,_,.nil,s=>s
 |_,_,_,_,.cons r t,s=>.cons r (f6.append t s)
theorem f6.take:∀{xs:List V} {us:List d9} (n:Nat),f6 xs us->f6 (xs.take n) (us.take n)
 |_,_,0,_=>.nil
 |_,_,_+1,.nil=>.nil
 |_,_,n+1,.cons r t=>.cons r (f6.take n t)
theorem f6.drop:∀{xs:List V} {us:List d9} (n:Nat),f6 xs us->f6 (xs.drop n) (us.drop n)
 |_,_,0,r=>r
 |_,_,_+1,.nil=>.nil
 |_,_,n+1,.cons _ t=>f6.drop n t
def B3:Option V->Option d9->Prop
 |some v,da u=>RelV v u
 |none,none=>True
 |_,_=>False
noncomputable def KV{z:Type}:List (z×V)->List (z×d9)->Prop:=Paired λ(p:z×V) (q:z×d9)=>p.1=q.1/\RelV p.2 q.2
def kV:Key->V
 |.inl i=>.int i
 |.inr x=>.str x
inductive HO where
 |lst (xs:List V)
 |tup (xs:List V)
 |dK (mu:List (Key×V))|dT (mu:List (List Key×V))
 |set (S:Int->Bool) (n:Nat)
 |ins (C dx:dy) (fs:List (Str×V))
 |own (x:dy)
 |xd (fs:List (Str×V))
 |met (f x:dy)
 |n7 (lo hi:Int)
 |rb (o:l7) (u:HO)
 |D5 (ps:Array d9)
 |ext (φ:fh->Prop)
abbrev Hp:=dy->Option HO
def upd(H:Hp)(a:dy)(o:HO):Hp:=λb=>if b=a then da o else H b
theorem zM:upd H a o a=da o:=by unfold upd;rw[UJ rfl]
theorem zK(h:b≠a):upd H a o b=H b:=by unfold upd;rw[UY h]
theorem Zl{H:Hp}{a:dy}{o u:HO}:upd (upd H a o) a u=upd H a u:=by funext b;unfold upd;split<;>rfl
theorem jy{H:Hp}{a b:dy}{o:HO}(h:H a=da o)(h':H b=none):a≠b:=by intro e;subst e;rw[h]at h';cases h'
noncomputable def A7(h:fh)(a:dy)(items:Array d9):Prop:=∃o,h.get? a=da o/\(o.cls,o.dict)=(OP "tuple",none)/\∃n,o.data=.seq items n
theorem A7.new(h:fh)(items:Array d9):A7 (h.push {cls:=.type "tuple",data:=.seq items}) h.objs.size items:=⟨_,MU _ rfl,rfl,_,rfl⟩
theorem A7.tup(x:A7 h a items):N4 h a items:=let ⟨o,e,c,r⟩:=x;⟨o,e,(Prod.mk.inj c).1,r⟩
section
variable(P:ir)(w:g8)
noncomputable def l8(H:Hp)(h:fh)(a:dy):HO->Prop
 |.lst e=>e.length<=fy/\∃(b:List d9) (n:Nat),f6 e b/\h.get? a=da {cls:=.type "list",data:=.seq b.toArray n}
 |.tup e=>e.length<=fy/\∃b:List d9,f6 e b/\A7 h a b.toArray
 |.dK d=>d.length<=fy/\(a==DR)=dt/\∃m,KV d m/\h.DictOf (xN P w) a m
 |.dT d=>d.length<=fy/\(a==DR)=dt/\∃e:List (List Key×dy×d9),
  Paired (λ(p:List Key×V) (q:List Key×dy×d9)=>p.1=q.1/\H q.2.1=da (.tup<|p.1.map kV)/\RelV p.2 q.2.2) d e/\
  ∃o j I,h.get? a=da o/\o.ExactDict/\o.data=.dict j I/\j.toList=e.map (entryOfKey<|tupleKind<|xN P w)/\(e.map (·.1)).Nodup
 |.set S n=>h.SetOf (intKind P w) a S n
 |.ins C g fs=>H g=da (.own a)/\fs.length<=1000/\g≠a/\h.get? a=da (PySem.W.instObj C g)/\
  ∃mA,h.Ns1 g mA/\(∀f,B3 (fs.lookup f)<|mA f)/\PySem.Within mA (fs.map (·.1))
 |.own _=>∃o,h.get? a=da o
 |.xd fs=>∃mA,h.Ns1 a mA/\∀f,B3 (fs.lookup f)<|mA f
 |.n7 lo r=>∃t u v,h.get? a=da {cls:=.type "range",data:=.fields #[.int lo t,.int r u,.int 1 v]}
 |.rb o u=>h.get? a=da o/\l8 H h a u
 |.D5 s=>h.get? a=da {cls:=.none,data:=.fields s}
 |.met f x=>h.get? a=da (TH (.ref f)<|.ref x)
 |.ext i=>i h/\(∃o,h.get? a=da o)/\∀k l:fh,i k->(∀o,k.get? a=da o->l.get? a=da o)->i l
def md(H:Hp)(h:fh):Prop:=∀a o,H a=da o->l8 P w H h a o
end
section
variable{P:ir}{w:g8}{H H':Hp}{h h':fh}{a:dy}{o:HO}
theorem l8.lt(x:l8 P w H h a o):a<h.objs.size:=by
 cases o with
 |lst d=>obtain⟨_,_,_,_,e⟩:=x;exact MR e
 |tup d=>obtain⟨_,_,_,p⟩:=x;exact p.tup.lt
 |dK b=>obtain⟨_,_,_,_,o,_,_,e,_⟩:=x;exact MR e
 |dT b=>obtain⟨_,_,_,_,o,_,_,e,_⟩:=x;exact MR e
 |set S n=>obtain⟨o,_,_,_,e,_⟩:=x;exact MR e
 |ins C g fs=>obtain⟨_,_,_,e,_⟩:=x;exact MR e
 |own y=>obtain⟨_,e⟩:=x;exact MR e
 |xd fs=>obtain⟨_,⟨_,_,_,e,_⟩,_⟩:=x;exact MR e
 |n7 lo i=>obtain⟨_,_,_,e⟩:=x;exact MR e
 |rb I u=>obtain⟨e,_⟩:=x;exact MR e
 |D5 j=>exact MR (show h.get? a=da _ from x)
 |met f y=>exact MR (show h.get? a=da _ from x)
 |ext k=>obtain⟨_,⟨_,e⟩,_⟩:=x;exact MR e
theorem Paired.Z_:∀{I:List α} {O:List β},Paired F I O->(∀a b,F a b->G a b)->Paired G I O
 |_,_,.nil,_=>.nil
 |_,_,.cons r t,f=>.cons (f _ _ r) (Paired.Z_ t f)
theorem l8.A5(x:l8 P w H h a o)(k:∀b u,(b=a\/H b=da (.own a))->h.get? b=da u->h'.get? b=da u)
 (U:∀b,H b=da (.own a)->H' b=da (.own a)) (Y:∀b xs,H b=da (.tup xs)->H' b=da (.tup xs)):l8 P w H' h' a o:=by
 induction o with
 |lst xs=>obtain⟨z,i,n,r,e⟩:=x;exact⟨z,i,n,r,k _ _ (.inl rfl) e⟩
 |tup xs=>obtain⟨z,i,r,I,e,c⟩:=x;exact⟨z,i,r,I,k _ _ (.inl rfl) e,c⟩
 |dK j=>obtain⟨z,y,F,r,I,g,O,e,c⟩:=x;exact⟨z,y,F,r,I,g,O,k _ _ (.inl rfl) e,c⟩
 |dT j=>
  obtain⟨z,y,xs,r,I,g,O,e,c⟩:=x;exact⟨z,y,xs,Paired.Z_ r λp q z=>⟨z.1,Y _ _ z.2.1,z.2.2⟩,I,g,O,k _ _ (.inl rfl) e,c⟩
 |set S n=>obtain⟨I,g,O,t,e,c⟩:=x;exact⟨I,g,O,t,k _ _ (.inl rfl) e,c⟩
 |ins C G fs=>
  obtain⟨d,z,E,e,l,⟨m,g,O,A,c⟩,r⟩:=x;exact⟨U _ d,z,E,k _ _ (.inl rfl) e,l,⟨m,g,O,k _ _ (.inr d) A,c⟩,r⟩
 |own y=>obtain⟨I,e⟩:=x;exact⟨I,k _ _ (.inl rfl) e⟩
 |xd fs=>obtain⟨l,⟨m,g,O,e,c⟩,r⟩:=x;exact⟨l,⟨m,g,O,k _ _ (.inl rfl) e,c⟩,r⟩
 |n7 lo J=>obtain⟨t,u,v,e⟩:=x;exact⟨t,u,v,k _ _ (.inl rfl) e⟩
 |rb I u B=>obtain⟨e,q⟩:=x;exact⟨k _ _ (.inl rfl) e,B q⟩
 |D5 s=>
  have e:h.get? a=da {cls:=.none,data:=.fields s}:=x;show h'.get? a=da {cls:=.none,data:=.fields s};exact k a _ (.inl rfl) e
 |met f y=>
  have e:h.get? a=da (TH (.ref f)<|.ref y):=x;show h'.get? a=da (TH (.ref f)<|.ref y);exact k a _ (.inl rfl) e
 |ext K=>obtain⟨p,⟨o,e⟩,st⟩:=x;exact⟨st _ _ p λo q=>k _ _ (.inl rfl) q,⟨o,k _ _ (.inl rfl) e⟩,st⟩
theorem md.lt(x:md P w H h)(e:H a=da o):a<h.objs.size:=(x a o e).lt
theorem md.fresh(x:md P w H h)(e:h.objs.size<=a):H a=none:=by
 cases q:H a with
 |none=>rfl
 |some u=>exact absurd (MX (x.lt q) e)<|NP _
theorem md.kept(x:md P w H h)(k:∀b u,h.get? b=da u->h'.get? b=da u):md P w H h':=λa o e=>
 (x a o e).A5 (λb u _ q=>k b u q) (λ_ q=>q) λ_ _ q=>q
theorem md.laid(x:md P w H h)(k:∀b u,h.get? b=da u->h'.get? b=da u)(O:h.objs.size<=a)(new:l8 P w (upd H a o) h' a o):md P w (upd H a o) h':=λb u e=>by
 have d:=x.fresh O;by_cases I:b=a
 ·subst I;rw[zM]at e;cases e;exact new
 ·rw[zK I]at e
  exact(x b u e).A5 (λc v _ q=>k c v q) (λc q=>by rw[zK (jy q d)];exact q) λc f q=>by rw[zK (jy q d)];exact q
end
def Rd(H:Hp)(a:dy)(u:HO):Prop:=H a=da u\/∃o,H a=da (.rb o u)
theorem Rd.ok(r:Rd H a u)(x:md P w H h):l8 P w H h a u:=by
 rcases r with r|⟨o,r⟩
 ·exact x a u r
 ·obtain⟨_,q⟩:=x a _ r
  exact q
noncomputable def N6:Option HO->Prop
 |some (.lst _)=>True
 |some (.dK _)=>True
 |some (.dT _)=>True
 |some (.set _ _)=>True
 |some (.ins _ _ _)=>True
 |some (.ext _)=>True
 |_=>False
section
variable{P:ir}{w:g8}{H:Hp}{h h':fh}{x e:dy}{o':HO}
theorem md.write(ok:md P w H h)(I:N6 (H x))(J:e=x\/H e=da (.own x))(k:∀b u,b≠e->h.get? b=da u->h'.get? b=da u)(L:∃u,h'.get? e=da u)
 (new:l8 P w (upd H x o') h' x o'):md P w (upd H x o') h':=λb u q=>by
 have d:∀c y,H c=da (.own y)->c≠x:=λc y r z=>by subst z;rw[r]at I;exact I
 have g:∀c a,H c=da (.tup a)->c≠x:=λc a r z=>by subst z;rw[r]at I;exact I
 by_cases O:b=x
 ·subst O;rw[zM]at q;cases q;exact new
 ·rw[zK O]at q
  by_cases U:b=e
  ·have f:H b=da (.own x):=by
    rcases J with z|z
    ·exact absurd (U.trans z) O
    ·rw[U];exact z
   rw[q]at f;cases f;obtain⟨v,i⟩:=L;exact⟨v,by rw[U];exact i⟩
  ·refine(ok b u q).A5 (λc v Y r=>k c v ?_ r) (λc r=>by rw[zK (d c b r)];exact r) λc a r=>by rw[zK (g c a r)];exact r
   rcases Y with rfl|Y
   ·exact U
   ·rintro rfl
    rcases J with z|z
    ·exact d c b Y z
    ·rw[Y]at z;cases z;exact O rfl
end
structure Un(fs ex:List dy)(H H':Hp)(h h':fh):Prop where
 keep:∀b o,h.get? b=da o->H b=none->b∉fs->b∉ex->h'.get? b=da o
 slot:∀b o,h.get? b=da o->H b=none->b∈fs->b∉ex->∃sl,h'.get? b=da {o with slots:=sl}
 free:∀b o,h.get? b=da o->H b=none->b∉ex->H' b=none
 there:∀b o,h.get? b=da o->b∉ex->∃o',h'.get? b=da o'
 vl:∀b xs,H b=da (.tup xs)->H' b=da (.tup xs)
 wa:∀b o u,H b=da (.rb o u)->H' b=da (.rb o u)
 u9:∀b ps,H b=da (.D5 ps)->∃more,H' b=da (.D5<|ps++more)
section
variable{fs r? ex W?:List dy}{H H1 H2:Hp}{h h1 h2 h':fh}{a x e:dy}{o:HO}
theorem Un.any(u:Un fs ex H H1 h h1)(q:h.get? b=da ob)(n:H b=none)(hx:b∉ex):∃z,h1.get? b=da {ob with slots:=z}:=by
 by_cases I:b∈fs
 ·exact u.slot b ob q n I hx
 ·exact⟨ob.slots,u.keep b ob q n I hx⟩
theorem Un.kept(k:∀b u,h.get? b=da u->h'.get? b=da u):Un fs ex H H h h':=
 ⟨λb I q _ _ _=>k b I q,λb I q _ _ _=>⟨I.slots,k b I q⟩,λ_ _ _ n _=>n,λb I q _=>⟨I,k b I q⟩,λ_ _ q=>q,λ_ _ _ q=>q,λ_ a q=>⟨#[],by rw[q];simp⟩⟩
theorem Un.refl:Un fs ex H H h h:=Un.kept λ_ _ q=>q
theorem Un.laid(k:∀b u,h.get? b=da u->h'.get? b=da u)(I:h.objs.size<=a)(hn:H a=none):Un fs ex H (upd H a o) h h' where
 keep:=λb u q _ _ _=>k b u q
 slot:=λb u q _ _ _=>⟨u.slots,k b u q⟩
 free:=λb u q n _=>by rw[zK (MZ<|MX (MR q) I)];exact n
 there:=λb u q _=>⟨u,k b u q⟩
 vl:=λb xs q=>by rw[zK (jy q hn)];exact q
 wa:=λb u xs q=>by rw[zK (jy q hn)];exact q
 u9:=λb ps q=>⟨#[],by rw[zK (jy q hn),q];simp⟩
theorem Un.write(I:N6 (H x))(Y:e=x\/H e=da (.own x))(k:∀b u,b≠e->h.get? b=da u->h'.get? b=da u)(J:∃u,h'.get? e=da u):Un fs ex H (upd H x o) h h':=by
 have d:∀b,H b=none->b≠x:=λb n z=>by subst z;rw[n]at I;exact I
 have O:∀b,H b=none->b≠e:=λb n z=>by
  subst z;rcases Y with r|r
  ·exact d b n r
  ·rw[n]at r;cases r
 have a:∀b u,H b=da u->¬N6 (da u)->b≠x:=λb u q nm z=>by subst z;rw[q]at I;exact nm I
 refine⟨λb u q n _ _=>k b u (O b n) q,λb u q n _ _=>⟨u.slots,k b u (O b n) q⟩,λb u q n _=>by rw[zK (d b n)];exact n,λb u q _=>?_,
  λb f q=>by rw[zK (a b _ q λz=>z)];exact q,λb u f q=>by rw[zK (a b _ q λz=>z)];exact q,λb g q=>⟨#[],by rw[zK (a b _ q λz=>z),q];simp⟩⟩
 by_cases U:b=e
 ·subst U;exact J
 ·exact⟨u,k b u U q⟩
end
def U5(h:fh)(H:Hp):List dy:=(ME h.objs.size).filter λa=>(H a).isSome
def nF(h:fh)(H:Hp):fh:=RO h<|U5 h H
theorem gM(h:fh)(H:Hp):(nF h H).objs.size=h.objs.size:=PySem.W.hideAll_size _ _
theorem nE(e:h.get? b=da o)(n:H b=none):(nF h H).get? b=da o:=
 PY _ e λa=>by have q:(H b).isSome=dj:=(Nl.mp a).2;rw[n]at q;simp at q
theorem ua(e:(nF h H).get? b=da o):h.get? b=da o/\H b=none:=by
 have I:h.get? b=da o:=Tn (U5 h H) e;refine⟨I,?_⟩;cases q:H b with
 |none=>rfl
 |some x=>
  have a:b∈U5 h H:=Nl.mpr ⟨MG.mpr<|MR I,by simp[q]⟩;have z:(nF h H).get? b=none:=PySem.W.hideAll_none (U5 h H) a;rw[z]at e;cases e
noncomputable def Af(g h:fh)(L:dy):List (dy×l7):=(ME h.objs.size).filterMap λa=>if a=L\/(g.get? a).isSome=dj then none else (h.get? a).map λo=>(a,o)
def yS(g h:fh)(L d:dy):List (dy×l7):=(Af g h L).filter λp=>decide<|p.1≠d
structure Mod(K:MC)(mg:UZ)(base:fh):Prop where
 L9:K.In base
 glob:base.Ns r3 mg
 blt:∃mb,base.Ns S' mb/\∀x:Str,x ≠ "__name__"->mb x=De x
 nolimit:base.NoLimit
structure Cx where
 prog:ir
 w:g8
 K:MC
 mg:Str->Option d9
 base:fh
 A:lp
 N:List Str
 i6:ej
 DV:Hp
 env:ml
 outer:List ml
 stack:List ml
 ex:List dy
 fn:Str->Bool
 calm:Bool
 pn:List (dy×l7)
 xe:d9->ej->Prop
def n5(l:List ml):List dy:=l.filterMap (·.frame)
abbrev Cx.fs(X:Cx):List dy:=n5 X.outer
noncomputable def Ol(z:h7)(x:Str):Prop:=z.names.lookup x=da .local\/z.names.lookup x=da .cell\/z.names.lookup x=da .free
def Loc(z:h7)(x:Str):Prop:=z.names.lookup x=da .local\/z.names.lookup x=da .cell
noncomputable def Mp(env:ml)(h:fh)(m:UZ)(x:Str)(u:d9):Prop:=
 (env.kindOf x=da .local/\m x=da u)\/((env.kindOf x=da .cell\/env.kindOf x=da .free)/\∃c,env.cells.lookup x=da c/\h.IsCell c (da u))
structure Cx.Ok(X:Cx):Prop where
 mod:Mod X.K X.mg X.base
 kind:X.env.scope.kind=.function
 glob:X.env.globals=r3
 blt:X.env.builtins=S'
 above:X.i6.heap.objs.size<=X.env.locals
 inj:∀x y c,X.env.cells.lookup x=da c->X.env.cells.lookup y=da c->x=y
 has:∀x,(X.env.kindOf x=da .cell\/X.env.kindOf x=da .free)->∃c,X.env.cells.lookup x=da c
 L0:∀x c,X.fn x=dj->X.env.cells.lookup x=da c->X.i6.heap.objs.size<=c
 hd:X.calm=dj->X.A.handled=none
 frames:X.A.frames=da X.stack
 DQ:X.stack=X.outer\/(X.stack=X.env::X.outer/\X.env.frame=da X.env.locals)
 O6:∀b∈X.ex,b≠X.env.locals/\∀x c,X.env.cells.lookup x=da c->c≠b
 bs:∀b o,X.base.get? b=da o->X.i6.heap.get? b=da o/\X.DV b=none
 B7:X.base.objs.size<=X.i6.heap.objs.size
 M3:∀b o,X.base.get? b=da o->b∉X.ex
 L5:∀b∈X.ex,b∉X.fs
 q7:X.i6.heap.FunFrames X.base X.outer
 B9:∀b∈X.fs,X.DV b=none
structure Inv(X:Cx)(pins:UQ)(σ:List (Option V))(H:Hp)(s:ej):Prop where
 ok:X.Ok
 os:s.os=X.i6.os
 bare:Dp s.gens
 base:Un X.fs X.ex X.DV H X.i6.heap s.heap
 loc:∃m,s.heap.Ns X.env.locals m/\∀(i:Nat) (x:Str) (v:V),X.N[i]? = da x->σ[i]? = da (da v)->Ol X.env.scope x->∃u,RelV v u/\Mp X.env s.heap m x u
 cell:∀x c,X.env.cells.lookup x=da c->∃v,s.heap.IsCell c v
 free:H X.env.locals=none
 vu:∀x c,X.env.cells.lookup x=da c->H c=none
 pin:∀p∈X.pn++pins,s.heap.get? p.1=da p.2/\H p.1=none/\p.1≠X.env.locals/\p.1∉X.fs/\∀v,p.2.data ≠ .cell v
 ft:md X.prog X.w H s.heap
 len:σ.length=X.N.length
section
variable{X:Cx}{pins:UQ}{σ:List (Option V)}{H H':Hp}{s:ej}{h':fh}
theorem Cx.Ok.A?(ok:X.Ok)(e:X.base.get? b=da o):b∉X.fs:=λI=>by have:=(ok.q7.mem I).1;rw[e]at this;cases this
theorem Inv.bs(I:Inv X pins σ H s):∀b o,X.base.get? b=da o->s.heap.get? b=da o/\H b=none:=λb o e=>
 ⟨I.base.keep b o (I.ok.bs b o e).1 (I.ok.bs b o e).2 (I.ok.A? e) (I.ok.M3 b o e),I.base.free b o (I.ok.bs b o e).1 (I.ok.bs b o e).2 (I.ok.M3 b o e)⟩
theorem Inv.bk(I:Inv X pins σ H s):∀b o,X.base.get? b=da o->s.heap.get? b=da o:=λb o e=>(I.bs b o e).1
theorem Inv.mod(I:Inv X pins σ H s):Mod X.K X.mg X.base:=I.ok.mod
theorem Inv.m3(I:Inv X pins σ H s):X.K.In s.heap:=I.ok.mod.L9.keeps I.bk
theorem Inv.lt(I:Inv X pins σ H s):X.env.locals<s.heap.objs.size:=let ⟨_,a,_⟩:=I.loc;a.lt
theorem Inv.sz(I:Inv X pins σ H s):X.i6.heap.objs.size<=s.heap.objs.size:=NJ I.ok.above<|Tc I.lt
theorem Inv.C?(I:Inv X pins σ H s)(h:s.heap.objs.size<=a):a∉X.fs:=λO=>by obtain⟨_,o,U,_⟩:=I.ok.q7.mem O;exact absurd (MX (MR U)<|NJ I.sz h)<|NP _
theorem Inv.Dz(I:Inv X pins σ H s):∀x c,X.env.cells.lookup x=da c->c≠X.env.locals:=λx c e z=>by obtain⟨v,o,O,a⟩:=I.cell x c e;obtain⟨m,⟨f,d,b,U,Y,_⟩,_⟩:=I.loc;rw[z,U]at O;cases O;rw[Y]at a;cases a
theorem Inv.q7(I:Inv X pins σ H s):s.heap.FunFrames X.base X.outer:=by
 have all:∀(l:List ml),(∀b∈n5 l,b∈X.fs)->X.i6.heap.FunFrames X.base l->s.heap.FunFrames X.base l:=by
  intro l
  induction l with
  |nil=>intro _ _;trivial
  |cons f r Y=>
   intro d i;obtain⟨h,⟨L,o,a,j,k,g⟩,m⟩:=i;have O:L∈X.fs:=d L (by unfold n5;rw[Tu,a];exact Nc);obtain⟨n,e⟩:=I.base.slot L o k (I.ok.B9 L O) O λz=>I.ok.L5 L z O;exact⟨h,⟨L,_,a,j,e,g⟩,Y (λb U=>d b<|by unfold n5;rw[Tu,a];exact Ng _ U) m⟩
 exact all X.outer (λ_ U=>U) I.ok.q7
theorem Inv.stack(I:Inv X pins σ H s):s.heap.FunFrames X.base X.stack:=by
 rcases I.ok.DQ with e|⟨e,hf⟩
 ·rw[e];exact I.q7
 ·rw[e]
  obtain⟨m,a,_⟩:=I.loc;refine .cons (by rw[I.ok.kind];decide) hf a ?_ I.q7;exact Heap.get?_none_of_le<|NJ I.ok.B7 I.ok.above
theorem Inv.M7(I:Inv X pins σ H s):∀b∈n5 X.stack,b∈X.env.locals::X.fs:=λb O=>by
 rcases I.ok.DQ with e|⟨e,hf⟩
 ·rw[e]at O;exact Ng _ O
 ·rw[e]at O
  unfold n5 at O;rw[Tu,hf]at O;exact O
theorem Inv.M6(I:Inv X pins σ H s):∀b∈n5 X.stack,H b=none:=λb O=>by
 rcases MQ.mp (I.M7 b O)with e|O
 ·rw[e];exact I.free
 ·obtain⟨_,o,U,_⟩:=I.ok.q7.mem O
  exact I.base.free b o U (I.ok.B9 b O) λz=>I.ok.L5 b z O
theorem Inv.step{g':Array K_}{t':Nat}{d':Drawn}{ch:List dy}(I:Inv X pins σ H s)
 (Y:∀b∈ch,(b∈X.ex\/X.i6.heap.objs.size<=b)/\b≠X.env.locals/\(∀x c,X.env.cells.lookup x=da c->c≠b)/\∀p∈X.pn++pins,p.1≠b)
 (keep:∀b o,b≠X.env.locals->b∉X.fs->b∉ch->s.heap.get? b=da o->H b=none->h'.get? b=da o)
 (J:∀b o,b≠X.env.locals->b∈X.fs->b∉ch->s.heap.get? b=da o->H b=none->∃sl,h'.get? b=da {o with slots:=sl}) (free:∀b o,b∉ch->s.heap.get? b=da o->H b=none->H' b=none)
 (L:∀b o,b∉ch->s.heap.get? b=da o->∃o',h'.get? b=da o')
 (vl:∀b xs,H b=da (.tup xs)->H' b=da (.tup xs)) (Z:∀b o u,H b=da (.rb o u)->H' b=da (.rb o u)) (u9:∀b ps,H b=da (.D5 ps)->∃more,H' b=da (.D5<|ps++more))
 (ns:∀m,s.heap.Ns X.env.locals m->h'.Ns X.env.locals m) (ft:md X.prog X.w H' h') (hg:Dp g'):
 Inv X pins σ H' {s with heap:=h',gens:=g',drawn:=d',toks:=t'}:=by
 have y:∀b o,X.i6.heap.get? b=da o->b≠X.env.locals:=λb o e=>MZ<|MX (MR e) I.ok.above;have j:∀b o,X.i6.heap.get? b=da o->b∉X.ex->b∉ch:=λb o e a O=>by
  rcases (Y b O).1 with z|z
  ·exact a z
  ·exact absurd (MX (MR e) z)<|NP _
 have A:∀x c,X.env.cells.lookup x=da c->∀v,s.heap.IsCell c v->h'.IsCell c v:=λx c e v M=>by
  obtain⟨o,U,t⟩:=M;have g:c∉ch:=λz=>(Y c z).2.2.1 x c e rfl;by_cases B:c∈X.fs
  ·obtain⟨sl,q⟩:=J c o (I.Dz x c e) B g U (I.vu x c e)
   exact⟨_,q,t⟩
  ·exact⟨o,keep c o (I.Dz x c e) B g U<|I.vu x c e,t⟩
 refine⟨I.ok,I.os,hg,⟨λb o e n O a=>?_,λb o e n O a=>?_,λb o e n a=>?_,λb o e a=>?_,λb xs e=>vl b xs<|I.base.vl b xs e,λb o xs e=>Z b o xs<|I.base.wa b o xs e,λb ps e=>?_⟩,?_,λx c e=>?_,?_,λx c e=>?_,λp C=>?_,ft,I.len⟩
 ·exact keep b o (y b o e) O (j b o e a) (I.base.keep b o e n O a)<|I.base.free b o e n a
 ·obtain⟨sl,f⟩:=I.base.slot b o e n O a
  obtain⟨G,h⟩:=J b _ (y b o e) O (j b o e a) f<|I.base.free b o e n a;exact⟨G,h⟩
 ·obtain⟨o',f⟩:=I.base.there b o e a
  exact free b o' (j b o e a) f<|I.base.free b o e n a
 ·obtain⟨o',f⟩:=I.base.there b o e a
  exact L b o' (j b o e a) f
 ·obtain⟨Q,f⟩:=I.base.u9 b ps e
  obtain⟨R,h⟩:=u9 b _ f;exact⟨Q++R,by rw[h,Array.append_assoc]⟩
 ·obtain⟨m,P,N⟩:=I.loc
  refine⟨m,ns m P,λi x v f h K=>?_⟩;obtain⟨u,r,l⟩:=N i x v f h K;refine⟨u,r,?_⟩;rcases l with l|⟨k,c,e,z⟩
  ·exact .inl l
  ·exact .inr ⟨k,c,e,A x c e _ z⟩
 ·obtain⟨v,z⟩:=I.cell x c e
  exact⟨v,A x c e v z⟩
 ·obtain⟨m,⟨o,_,_,U,_⟩,_⟩:=I.loc
  exact free _ o (λz=>(Y _ z).2.1 rfl) U I.free
 ·obtain⟨v,o,U,t⟩:=I.cell x c e
  exact free c o (λz=>(Y c z).2.2.1 x c e rfl) U<|I.vu x c e
 ·obtain⟨e,n,E,F,d⟩:=I.pin p C
  have g:p.1∉ch:=λz=>(Y p.1 z).2.2.2 p C rfl;exact⟨keep p.1 p.2 E F g e n,free p.1 p.2 g e n,E,F,d⟩
theorem Inv.un{t':Nat}(I:Inv X pins σ H s)(u:Un X.fs [] H H' s.heap h')(J:md X.prog X.w H' h'):Inv X pins σ H' {s with heap:=h',toks:=t'}:=by
 obtain⟨m,⟨o,j,i,U,r⟩,_⟩:=id I.loc;obtain⟨p,f⟩:=u.any U I.free ⋯;exact I.step (g':=s.gens) (d':=s.drawn) (ch:=[]) (λ_ z=>nomatch z) (λb o _ O _ e n=>u.keep b o e n O ⋯) (λb o _ O _ e n=>u.slot b o e n O ⋯) (λb o _ e n=>u.free b o e n ⋯) (λb o _ e=>u.there b o e ⋯) u.vl u.wa u.u9 (λk g=>by obtain⟨l,a,d,Y,h⟩:=g;rw[U]at Y;cases Y;exact⟨_,a,d,f,h⟩) J I.bare
theorem Inv.call{g':Array K_}{t':Nat}{d':Drawn}{ch:List dy}(I:Inv X pins σ H s)(u:Un (n5 X.stack) ch H H' s.heap h')(J:md X.prog X.w H' h')(L:Dp g')
 (Y:∀b∈ch,(b∈X.ex\/X.i6.heap.objs.size<=b)/\b≠X.env.locals/\(∀x c,X.env.cells.lookup x=da c->c≠b)/\∀p∈X.pn++pins,p.1≠b):
 Inv X pins σ H' {s with heap:=h',gens:=g',drawn:=d',toks:=t'}:=by
 obtain⟨m,⟨o,l,k,d,r⟩,_⟩:=id I.loc;obtain⟨A,U⟩:=u.any d I.free λz=>(Y _ z).2.1 rfl;exact I.step (ch:=ch) Y (λb o U h O e n=>u.keep b o e n (λz=>(MQ.mp<|I.M7 b z).elim U h) O) (λb o _ _ O e n=>u.any e n O) (λb o O e n=>u.free b o e n O) (λb o O e=>u.there b o e O) u.vl u.wa u.u9 (λt i=>by obtain⟨y,f,g,a,j⟩:=i;rw[d]at a;cases a;exact⟨_,f,g,U,j⟩) J L
theorem Inv.turned{t':Nat}{it:dy}(I:Inv X pins σ H s)(k:∀b o,b≠it->s.heap.get? b=da o->h'.get? b=da o)(hn:H it=none)(U:it≠X.env.locals)
 (J:it∈X.ex\/X.i6.heap.objs.size<=it) (L:∀x c,X.env.cells.lookup x=da c->c≠it) (Z:∀p∈X.pn++pins,p.1≠it):Inv X pins σ H {s with heap:=h',toks:=t'}:=by
 have Y:∀b u,H b=da u->b≠it:=λb u e z=>by rw[z,hn]at e;cases e
 refine I.step (g':=s.gens) (d':=s.drawn) (ch:=[it]) (λb f=>?_) (λb o _ _ O e _=>k b o (λz=>O<|by simp[z]) e) (λb o _ _ O e _=>⟨o.slots,k b o (λz=>O<|by simp[z]) e⟩) (λ_ _ _ _ n=>n)
  (λb o O e=>⟨o,k b o (λz=>O<|by simp[z]) e⟩) (λ_ _ e=>e) (λ_ _ _ e=>e) (λb i e=>⟨#[],by rw[e];simp⟩) (λm g=>?_) (λb u e=>?_) I.bare
 ·have e:b=it:=by simpa using f
  subst e;exact⟨J,U,L,Z⟩
 ·obtain⟨o,d,a,h,r⟩:=g
  exact⟨o,d,a,k _ o (NH U) h,r⟩
 ·refine(I.ft b u e).A5 (λc v O q=>k c v ?_ q) (λ_ q=>q) λ_ _ q=>q
  rcases O with z|z
  ·rw[z];exact Y b u e
  ·exact Y c _ z
theorem Inv.tok(I:Inv X pins σ H s)(t:Nat):Inv X pins σ H {s with toks:=t}:=I.un (h':=s.heap) (t':=t) Un.refl I.ft
theorem Inv.kept(I:Inv X pins σ H s)(k:∀b u,s.heap.get? b=da u->h'.get? b=da u):Inv X pins σ H {s with heap:=h',toks:=t'}:=I.un (Un.kept k)<|I.ft.kept k
theorem Inv.laid(I:Inv X pins σ H s)(k:∀b u,s.heap.get? b=da u->h'.get? b=da u)(O:s.heap.objs.size<=a)(new:l8 X.prog X.w (upd H a o) h' a o):
 Inv X pins σ (upd H a o) {s with heap:=h',toks:=t'}:=I.un (Un.laid k O<|I.ft.fresh O)<|I.ft.laid k O new
theorem Inv.write(I:Inv X pins σ H s)(O:N6 (H x))(U:e=x\/H e=da (.own x))(k:∀b u,b≠e->s.heap.get? b=da u->h'.get? b=da u)(Y:∃u,h'.get? e=da u)
 (new:l8 X.prog X.w (upd H x o) h' x o):Inv X pins σ (upd H x o) {s with heap:=h',toks:=t'}:=I.un (Un.write O U k Y)<|I.ft.write O U k Y new
theorem Inv.UN(I:Inv X pins σ H s)(h:∀p∈O,s.heap.get? p.1=da p.2/\H p.1=none/\p.1≠X.env.locals/\p.1∉X.fs/\∀v,p.2.data ≠ .cell v):Inv X O σ H s:=
 ⟨I.ok,I.os,I.bare,I.base,I.loc,I.cell,I.free,I.vu,λp U=>(RZ.mp U).elim (λz=>I.pin p<|Ti _ z) (h p),I.ft,I.len⟩
theorem Ky{N:List Str}(I:N.Nodup){i j:Nat}{x:Str}(a:N[i]? = da x)(b:N[j]? = da x):i=j:=by obtain⟨e,d⟩:=Np.mp a;obtain⟨f,O⟩:=Np.mp b;exact(List.getElem_inj I).mp (d.trans O.symm)
theorem Yx{M:DY}{A:lp}{E:EQ}{i:Nat}{x:Str}{v:V}{u:d9}{Q:Unit->ej->Prop}(I:Inv X pins σ H s)(hN:X.N.Nodup)(J:X.N[i]? = da x)(hx:Loc X.env.scope x)(r:RelV v u)
 (h:∀s',Inv X pins (σ.set i<|some v) H s'->(∃a,Rf a s.heap s'.heap/\(a=X.env.locals\/X.env.cells.lookup x=da a))->Q () s') (hf:X.fn x=dj\/X.env.scope.names.lookup x=da .local:=by first|exact .inl rfl|exact .inr rfl|assumption):wpAny M A (storeName X.env x u) Q E s:=by
 obtain⟨m,L,hl⟩:=id I.loc;have as:(X.env.scope.kind ==.class || (X.env.scope.kind ==.module&&X.env.locals != X.env.globals))=dt:=by rw[I.ok.kind];rfl
 have ac:i<σ.length:=by rw[I.len];exact(Np.mp J).1
 have Dz:=I.Dz;have ae:∀{a:dy} {h':fh},(∃o,s.heap.get? a=da o/\H a=none)->Rf a s.heap h'->md X.prog X.w H h':=λ{a h'} ha f b ob e=>by
  obtain⟨_,_,ak⟩:=ha;refine(I.ft b ob e).A5 (λc F O q=>(f.2 c ?_).trans q) (λ_ q=>q) λ_ _ q=>q;rintro rfl;rcases O with rfl|O
  ·rw[ak]at e;cases e
  ·rw[ak]at O;cases O
 rcases hx with Y|Y
 ·refine wpAny_storeName_local Y L (λh' b0 f=>?_) as
  obtain⟨oL,_,_,bb,_⟩:=id L;refine h _ ⟨I.ok,I.os,I.bare,⟨λb o e n l hx=>?_,λb o e n l hx=>?_,I.base.free,λb o e hx=>?_,I.base.vl,I.base.wa,I.base.u9⟩,⟨_,b0,λj y v' g U K=>?_⟩,λy c e=>?_,I.free,I.vu,λp P=>?_,ae ⟨oL,bb,I.free⟩ f,by simpa using I.len⟩ ⟨_,f,.inl rfl⟩
  ·exact(f.2 b<|MZ<|MX (MR e) I.ok.above).trans (I.base.keep b o e n l hx)
  ·obtain⟨W,g⟩:=I.base.slot b o e n l hx
   exact⟨W,(f.2 b<|MZ<|MX (MR e) I.ok.above).trans g⟩
  ·obtain⟨S,g⟩:=I.base.there b o e hx
   exact⟨S,(f.2 b<|MZ<|MX (MR e) I.ok.above).trans g⟩
  ·by_cases t:j=i
   ·subst t
    rw[J]at g;cases g;rw[NZ ac]at U;cases U;exact⟨u,r,.inl ⟨Y,by simp⟩⟩
   ·rw[MV (NH t)]at U
    obtain⟨Z,T,q⟩:=hl j y v' g U K;refine⟨Z,T,?_⟩;rcases q with⟨k,e⟩|⟨k,c,e,z⟩
    ·refine .inl ⟨k,?_⟩
     have:y≠x:=λe=>t<|Ky hN g<|e ▸ J;simp[this,e]
    ·exact .inr ⟨k,c,e,z.sameBut f<|Dz y c e⟩
  ·obtain⟨F,z⟩:=I.cell y c e
   exact⟨F,z.sameBut f<|Dz y c e⟩
  ·obtain⟨e,n,C,R,d⟩:=I.pin p P
   exact⟨(f.2 p.1 C).trans e,n,C,R,d⟩
 ·have G:X.fn x=dj:=by
   rcases hf with z|z
   ·exact z
   ·rw[z]at Y;cases Y
  obtain⟨c,O⟩:=I.ok.has x<|.inl Y;obtain⟨F,z⟩:=I.cell x c O;refine wpAny_storeName_cell I.ok.kind Y O z<|λh' am f=>?_;obtain⟨oc,an,bd⟩:=id z;refine h {s with heap:=h'} ⟨I.ok,I.os,I.bare,⟨λb o e n l hx=>?_,λb o e n l hx=>?_,I.base.free,λb o e hx=>?_,I.base.vl,I.base.wa,I.base.u9⟩,⟨m,L.sameBut f<|NH<|Dz x c O,λj y v' g U K=>?_⟩,λy B e=>?_,I.free,I.vu,λp P=>?_,ae ⟨oc,an,I.vu x c O⟩ f,by simpa using I.len⟩ ⟨c,f,.inr O⟩
  ·exact(f.2 b<|MZ<|MX (MR e)<|I.ok.L0 x c G O).trans (I.base.keep b o e n l hx)
  ·obtain⟨W,g⟩:=I.base.slot b o e n l hx
   exact⟨W,(f.2 b<|MZ<|MX (MR e)<|I.ok.L0 x c G O).trans g⟩
  ·obtain⟨S,g⟩:=I.base.there b o e hx
   exact⟨S,(f.2 b<|MZ<|MX (MR e)<|I.ok.L0 x c G O).trans g⟩
  ·by_cases t:j=i
   ·subst t
    rw[J]at g;cases g;rw[NZ ac]at U;cases U;exact⟨u,r,.inr ⟨.inl Y,c,O,am⟩⟩
   ·rw[MV (NH t)]at U
    obtain⟨Z,T,q⟩:=hl j y v' g U K;refine⟨Z,T,?_⟩;rcases q with q|⟨k,B,e,z'⟩
    ·exact .inl q
    ·refine .inr ⟨k,B,e,z'.sameBut f ?_⟩
     rintro rfl;exact t<|Ky hN g<|I.ok.inj _ _ _ e O ▸ J
  ·by_cases ap:B=c
   ·subst ap;exact⟨_,am⟩
   ·obtain⟨w2,z2⟩:=I.cell y B e
    exact⟨w2,z2.sameBut f ap⟩
  ·obtain⟨e,n,C,R,d⟩:=I.pin p P
   refine⟨(f.2 p.1 ?_).trans e,n,C,R,d⟩;intro q;rw[q,an]at e;have q':oc=p.2:=NR e;exact d F (by rw[<-q'];exact bd)
theorem Ka(I:Inv X pins σ H s)(O:X.N.Nodup)(J:X.N[i]? = da x)(hx:Loc X.env.scope x)(r:RelV v u)
 (h:∀s',Inv X pins (σ.set i<|some v) H s'->Q () s') (z:X.fn x=dj\/X.env.scope.names.lookup x=da .local:=by first|exact .inl rfl|exact .inr rfl|assumption):wpAny M A (storeName X.env x u) Q E s:=
 Yx I O J hx r (λs' U _=>h s' U) z
theorem Inv.S_(I:Inv X pins σ H s)(O:s'.os=s.os)(u:Un (n5 X.stack) ch H H' s.heap s'.heap)(z:md X.prog X.w H' s'.heap)(U:Dp s'.gens)
 (Y:∀b∈ch,(b∈X.ex\/X.i6.heap.objs.size<=b)/\b≠X.env.locals/\(∀x c,X.env.cells.lookup x=da c->c≠b)/\∀p∈X.pn++pins,p.1≠b):Inv X pins σ H' s':=by
 obtain⟨h',g',d',t',a⟩:=s';have e:a=s.os:=O;subst e;exact I.call (g':=g') (t':=t') (d':=d') u z U Y
end
abbrev XK:=d9->Option dy->Hp->Prop
abbrev St:=List (Option V)
abbrev VK:=V->Hp->Prop
abbrev TE:=St->Hp->VK->Prop
abbrev TT:=St->Hp->(Bool->Hp->Prop)->Prop
abbrev TA:=St->Hp->(List V->Hp->Prop)->Prop
structure Ends where
 nx:St->Hp->Prop
 rt:VK
 bk:St->Hp->Prop:=λ_ _=>False
 ct:St->Hp->Prop:=λ_ _=>False
abbrev TS:=Ends->St->Hp->Prop
def EP(X:Cx)(z:UQ)(I:St)(Q:VK)(u:d9)(s':ej):Prop:=∃v a,Inv X z I a s'/\RelV v u/\Q v a
def TP(X:Cx)(z:UQ)(I:St)(Q:Bool->Hp->Prop)(b:Bool)(s':ej):Prop:=∃a,Inv X z I a s'/\Q b a
noncomputable def AP(X:Cx)(z:UQ)(I:St)(Q:List V->Hp->Prop)(us:List d9)(s':ej):Prop:=∃b a,Inv X z I a s'/\f6 b us/\Q b a
noncomputable def SP(X:Cx)(z:UQ)(D:Ends)(f:Flow)(s':ej):Prop:=
 match f with
 |.next=>∃a b,Inv X z a b s'/\D.nx a b
 |.brk=>∃a b,Inv X z a b s'/\D.bk a b
 |.cont=>∃a b,Inv X z a b s'/\D.ct a b
 |.ret u=>∃v a b,Inv X z a b s'/\RelV v u/\D.rt v b
noncomputable def PE(X:Cx)(e:eK)(t:TE):Prop:=
 ∀(a:UQ) (s:ej) (b:St) (H:Hp) (Q:VK),Inv X a b H s->t b H Q->wpAny (eF X.prog X.w) X.A (eA e X.env) (EP X a b Q) X.xe s
noncomputable def PT(X:Cx)(e:eK)(t:TT):Prop:=
 ∀(a:UQ) (s:ej) (b:St) (H:Hp) (Q:Bool->Hp->Prop),Inv X a b H s->t b H Q->wpAny (eF X.prog X.w) X.A (F3 e X.env<|eval e X.env) (TP X a b Q) X.xe s
noncomputable def PW(X:Cx)(e:eK)(t:TT):Prop:=
 ∀(I:n0 d9) (a:UQ) (s:ej) (b:St) (H:Hp) (Q:Bool->Hp->Prop),Inv X a b H s->t b H Q->wpAny (eF X.prog X.w) X.A (F3 e X.env I) (TP X a b Q) X.xe s
theorem PW.pt(h:PW X e t):PT X e t:=h _
noncomputable def PA(X:Cx)(es:List eK)(t:TA):Prop:=
 ∀(pos:gv) (a:UQ) (s:ej) (b:St) (H:Hp) (Q:List V->Hp->Prop),Inv X a b H s->t b H Q->wpAny (eF X.prog X.w) X.A (DP<|backTo pos<|starEach es X.env) (AP X a b Q) X.xe s
noncomputable def PS(X:Cx)(st:i7)(t:TS):Prop:=
 ∀(a:UQ) (s:ej) (b:St) (H:Hp) (D:Ends),Inv X a b H s->t D b H->wpAny (eF X.prog X.w) X.A (exec st X.env) (SP X a D) X.xe s
noncomputable def u4(X:Cx)(st:List i7)(t:TS):Prop:=
 ∀(a:UQ) (s:ej) (b:St) (H:Hp) (D:Ends),Inv X a b H s->t D b H->wpAny (eF X.prog X.w) X.A (execs st X.env) (SP X a D) X.xe s
theorem f7(h:wpAny M A t Q E s)(I:∀a s,Q a s->Q' a s):wpAny M A t Q' E s:=Nv h I λ_ _ x=>x
section
variable{X:Cx}
def oI(i:Nat):TE:=λa H Q=>∃v,a[i]? = da (da v)/\Q v H
def tC(v:V):TE:=λ_ H Q=>Q v H
theorem pj(L:X.N[i]? = da x)(Z:Ol X.env.scope x)(z:(x==("__debug__" : Str))=dt:=by decide)(J:(x==("__classdict__" : Str))=dt:=by decide):PE X (.Name x pos) (oI i):=by
 intro a s j H Q I h;obtain⟨v,e,h⟩:=h;obtain⟨m,g,d⟩:=I.loc;obtain⟨u,r,l⟩:=d i x v L e Z;have U:EP X a j Q u s:=⟨v,H,I,r,h⟩;rcases l with⟨O,f⟩|⟨O,c,Y,b⟩
 ·exact _t (wpAny_loadName_local I.ok.kind O g f U) z
 ·rcases O with O|O
  ·exact _t (wpAny_loadName_cell I.ok.kind O Y b U) z
  ·exact _t (wpAny_loadName_free I.ok.kind O Y b U J) z
theorem BN:PE X (.Constant (.int i) j pos) (tC<|.int i):=λ_ _ _ H _ I h=>wpAny_Constant_int ⟨.int i,H,I.tok _,⟨_,rfl⟩,h⟩
theorem GK:PE X (.Constant (.bool b) j pos) (tC<|.bl b):=λ_ _ _ H _ I h=>Constant_bool ⟨.bl b,H,I,rfl,h⟩
theorem BK:PE X (.Constant .none j pos) (tC .el):=λ_ _ _ H _ I h=>Constant_none ⟨.el,H,I,rfl,h⟩
theorem BH:PE X (.Constant (.str x) j pos) (tC<|.str x):=λ_ _ _ H _ I h=>Calls.Constant_str ⟨.str x,H,I.tok _,⟨_,rfl⟩,h⟩
def Gl(X:Cx)(x:Str):Prop:=X.env.kindOf x=da .globalImplicit
theorem v7(I:Inv X pins σ H s)(O:Gl X x)(J:X.mg x=da u)(h:Q u s)
 (z:(x==("__debug__" : Str))=dt:=by decide):wpAny (eF X.prog X.w) X.A (eA (.Name x pos) X.env) Q E s:=
 Calls.Name_function_global I.ok.kind O (Calls.loadGlobal_global (by rw[I.ok.glob];exact I.mod.glob.keeps I.bk) J h) z
theorem xX(I:Inv X pins σ H s)(O:Gl X x)(J:X.mg x=none)(U:De x=da u)(h:Q u s)
 (L:x ≠ "__name__":=by decide) (z:(x==("__debug__" : Str))=dt:=by decide):wpAny (eF X.prog X.w) X.A (eA (.Name x pos) X.env) Q E s:=by
 obtain⟨d,a,b⟩:=I.mod.blt;exact Calls.Name_function_global I.ok.kind O (Calls.loadGlobal_builtin (by rw[I.ok.glob];exact I.mod.glob.keeps I.bk) J (by rw[I.ok.blt];exact a.keeps I.bk) ((b x L).trans U) h) z
variable{a b:eK}{ta tb:TE}{pos:gv}
noncomputable def PC(X:Cx)(I:CmpOp)(a b:eK)(t:TE):Prop:=
 ∀(d:UQ) (s:ej) (e:St) (H:Hp) (Q:VK),Inv X d e H s->t e H Q->
  wpAny (eF X.prog X.w) X.A (eA a X.env) (λv O=>wpAny (eF X.prog X.w) X.A (eA b X.env) (λu U=>wpAny (eF X.prog X.w) X.A (sh I v u) (EP X d e Q) X.xe U) X.xe O) X.xe s
theorem mW(b:eK)(h:op ≠ .In)(z:op ≠ .NotIn):Dd op b=dt:=by
 have a:(op==CmpOp.In)=dt:=by cases op<;>first|rfl|exact absurd rfl h
 have I:(op==CmpOp.NotIn)=dt:=by cases op<;>first|rfl|exact absurd rfl z
 cases b<;>simp[Dd,a,I]
def tB(t:TE):TT:=λb H Q=>t b H λx a=>∃c,x=.bl c/\Q c a
theorem By(h:PC X op a b t)(z:Dd op b=dt:=by first|exact mW _ ⋯ ⋯ |rfl):PT X (.Compare a [op] [b] pos) (tB t):=by intro e s k H Q I i;refine wpAny_isTrue_Compare1 (f7 (h e s k H _ I i) λv l z=>f7 z λu m g=>f7 g λc n O=>?_) z;obtain⟨x,f,U,Y,j⟩:=O;obtain⟨d,rfl,q⟩:=j;cases Y;exact Pd ⟨f,U,q⟩
theorem Bw(h:PE X e t)(U:∀O,F3 e X.env O=(do let v<-O;M5 e.pos;holding [v] (truthy v)):=by intro _;rfl):PT X e (tB t):=by intro a s k H Q I g;refine isTrue_plain (f7 (h a s k H _ I g) λv l Y=>?_)<|U _;obtain⟨x,b,f,j,i⟩:=Y;obtain⟨d,rfl,q⟩:=i;cases j;exact Pd ⟨b,f,q⟩
variable{tA U3:TT}{yS:List eK}
def LJ(t u:TT):TT:=λb H Q=>t b H λc a=>if c=dj then u b a Q else Q dt a
def O?(t u:TT):TT:=λb H Q=>t b H λc a=>if c=dj then Q dj a else u b a Q
def LD(t:TT):TT:=λb H Q=>t b H λc a=>Q (!c) a
theorem sL(z:PT X a tA):PW X (.BoolOp .And [a] pos) tA:=by
 intro O b s d H Q I h;refine isTrue_and<|f7 (z b s d H Q I h) λc f e=>?_;cases c with
 |true=>exact isTrue_and_nil e
 |false=>exact e
theorem Bp(z:PT X a tA):PW X (.BoolOp .Or [a] pos) tA:=by
 intro O b s d H Q I h;refine isTrue_or<|f7 (z b s d H Q I h) λc f e=>?_;cases c with
 |false=>exact isTrue_or_nil e
 |true=>exact e
theorem Bq(z:PT X a tA)(Y:PW X (.BoolOp .And (b::yS) pos) U3):PW X (.BoolOp .And (a::b::yS) pos) (LJ tA U3):=by
 intro j d s f H Q I h;refine isTrue_and<|f7 (z d s f H _ I h) λc i g=>?_;obtain⟨e,O,U⟩:=g;cases c with
 |true=>exact Y j d i f e Q O U
 |false=>exact⟨e,O,U⟩
theorem GC(z:PT X a tA)(Y:PW X (.BoolOp .Or (b::yS) pos) U3):PW X (.BoolOp .Or (a::b::yS) pos) (O? tA U3):=by
 intro j d s f H Q I h;refine isTrue_or<|f7 (z d s f H _ I h) λc i g=>?_;obtain⟨e,O,U⟩:=g;cases c with
 |true=>exact⟨e,O,U⟩
 |false=>exact Y j d i f e Q O U
theorem Bx(ha:PT X a tA):PT X (.UnaryOp .Not a pos) (LD tA):=by intro b s e H Q I h;exact isTrue_not<|ha b s e H (λc d=>Q (!c) d) I h
noncomputable def Gi(ta tb:TE):TE:=λb H Q=>ta b H λx a=>∃c,x=.bl c/\if c=dj then tb b a Q else Q (.bl dt) a
def FV(ta:TE):TE:=λb H Q=>ta b H λx a=>∃c,x=.bl c/\Q (.bl<|!c) a
theorem BI(h:PE X a t):PE X (.BoolOp op [a] pos) t:=λb s e H Q I d=>BoolOp_one<|h b s e H Q I d
theorem BO(z:PE X a ta)(Y:PE X (.BoolOp .And (b::yS) pos) tb):PE X (.BoolOp .And (a::b::yS) pos) (Gi ta tb):=by
 intro d s f H Q I h;refine BoolOp_and<|f7 (z d s f H _ I h) λv j g=>?_;obtain⟨x,e,U,i,O⟩:=g;obtain⟨c,rfl,O⟩:=O;cases i;refine Pd ?_;cases c with
 |true=>exact Y d j f e Q U O
 |false=>exact⟨.bl dt,e,U,rfl,O⟩
theorem BJ(z:PE X a ta):PE X (.UnaryOp .Not a pos) (FV ta):=by intro b s f H Q I h;refine UnaryOp_<|f7 (z b s f H _ I h) λv g U=>?_;obtain⟨x,d,Y,e,O⟩:=U;obtain⟨c,rfl,O⟩:=O;cases e;exact not_of<|Pd ⟨.bl<|!c,d,Y,rfl,O⟩
def F_(t:TT)(ta tb:TE):TE:=λa H Q=>t a H λc b=>if c=dj then ta a b Q else tb a b Q
theorem mG(Y:PT X c tA)(z:PE X a ta)(J:PE X b tb):PE X (.IfExp c a b pos) (F_ tA ta tb):=by
 intro e s f H Q I h;refine wpAny_IfExp<|f7 (Y e s f H _ I h) λd i j=>?_;obtain⟨g,O,U⟩:=j;cases d with
 |true=>exact z e i f g Q O U
 |false=>exact J e i f g Q O U
end
noncomputable def hM(K:MC)(H:Hp)(a:dy)(xs:List V):Prop:=
 Rd H a (.lst xs)\/
  ∃(o:l7) (b:Array d9) (n:Nat),K.lookup a=da o/\o.cls=.type "list"/\o.dict=none/\o.data=.seq b n/\b.size<=fy/\f6 xs b.toList
noncomputable def h8(K:MC)(H:Hp)(a:dy)(xs:List V):Prop:=
 Rd H a (.tup xs)\/
  ∃(o:l7) (b:Array d9) (n:Nat),K.lookup a=da o/\(o.cls,o.dict)=(OP "tuple",none)/\o.data=.seq b n/\b.size<=fy/\f6 xs b.toList
noncomputable def Mm:d9->Option V
 |.none=>da .el
 |.bool b=>da (.bl b)
 |.int i _=>da (.int i)
 |.str x _=>da (.str x)
 |.bytes b _=>da (.O2 b)
 |.float b _=>da (.L6 b)
 |.ref a=>da (.ref a)
 |.type n=>da (.ty n)
 |_=>none
theorem RelV.abs(r:RelV x u):Mm u=da x:=by
 cases x with
 |el=>cases r;rfl
 |bl _=>cases r;rfl
 |int _=>obtain⟨t,rfl⟩:=r;rfl
 |str _=>obtain⟨t,rfl⟩:=r;rfl
 |O2 _=>obtain⟨t,rfl⟩:=r;rfl
 |L6 _=>obtain⟨t,rfl⟩:=r;rfl
 |ref _=>cases r;rfl
 |ty _=>cases r;rfl
theorem RelV.inj(r:RelV x u)(q:RelV y u):x=y:=NR<|r.abs.symm.trans q.abs
theorem f6.inj:∀{xs ys:List V} {us:List d9},f6 xs us->f6 ys us->xs=ys
 |_,_,_,.nil,.nil=>rfl
 |_,_,_,.cons r t,.cons r' t'=>by rw[r.inj r',f6.inj t t']
section
variable{X:Cx}{pins:UQ}{σ:St}{H:Hp}{s:ej}{a:dy}{xs ys:List V}
theorem hM.of{K:MC}(h:H a=da (.lst xs)):hM K H a xs:=.inl (.inl h)
theorem h8.of{K:MC}(h:H a=da (.tup xs)):h8 K H a xs:=.inl (.inl h)
theorem Inv.list(I:Inv X pins σ H s)(h:hM X.K H a xs):∃its:List d9,f6 xs its/\PlainL s.heap a its.toArray/\xs.length<=fy:=by
 rcases h with h|⟨o,its,n,O,U,hd,hs,hz,r⟩
 ·obtain⟨z,its,n,r,e⟩:=h.ok I.ft
  exact⟨its,r,⟨_,n,e,rfl,rfl,rfl⟩,z⟩
 ·refine⟨its.toList,r,⟨o,n,I.m3 a o O,U,hd,by simpa using hs⟩,?_⟩
  have e:=r.length;simp only[ON]at e;omega
theorem Inv.tuple(I:Inv X pins σ H s)(h:h8 X.K H a xs):∃its:List d9,f6 xs its/\N4 s.heap a its.toArray/\xs.length<=fy:=by
 rcases h with h|⟨o,its,n,O,U,hs,hz,r⟩
 ·obtain⟨z,its,r,p⟩:=h.ok I.ft
  exact⟨its,r,p.tup,z⟩
 ·refine⟨its.toList,r,⟨o,I.m3 a o O,(Prod.mk.inj U).1,n,by simpa using hs⟩,?_⟩
  have e:=r.length;simp only[ON]at e;omega
theorem Inv.x'(I:Inv X pins σ H s)(h:hM X.K H a xs)(h':hM X.K H a ys):xs=ys:=by
 obtain⟨f,r,⟨o,n,e,_,_,d⟩,_⟩:=I.list h;obtain⟨b,i,⟨k,j,O,_,_,g⟩,_⟩:=I.list h';rw[e]at O;cases O;rw[d]at g;injection g with U _;have:f=b:=by simpa using congrArg Array.toList U
 subst this;exact r.inj i
theorem Inv._n(I:Inv X pins σ H s)(h:h8 X.K H a xs)(h':h8 X.K H a ys):xs=ys:=by
 obtain⟨f,r,⟨o,e,_,n,d⟩,_⟩:=I.tuple h;obtain⟨b,i,⟨k,O,_,j,g⟩,_⟩:=I.tuple h';rw[e]at O;cases O;rw[d]at g;injection g with U _;have:f=b:=by simpa using congrArg Array.toList U
 subst this;exact r.inj i
end
abbrev Cx.ov(X:Cx)(E:EQ):Cx:={X with xe:=E}
abbrev Cx.rh(X:Cx):Cx:=X.ov λ_ _=>False
theorem Cx.Ok.ov{X:Cx}(ok:X.Ok)(E:EQ):(X.ov E).Ok:=
 ⟨ok.mod,ok.kind,ok.glob,ok.blt,ok.above,ok.inj,ok.has,ok.L0,ok.hd,ok.frames,ok.DQ,ok.O6,ok.bs,ok.B7,ok.M3,ok.L5,ok.q7,ok.B9⟩
theorem Cx.Ok.s9{X:Cx}{E:EQ}(ok:(X.ov E).Ok):X.Ok:=
 ⟨ok.mod,ok.kind,ok.glob,ok.blt,ok.above,ok.inj,ok.has,ok.L0,ok.hd,ok.frames,ok.DQ,ok.O6,ok.bs,ok.B7,ok.M3,ok.L5,ok.q7,ok.B9⟩
section
variable{X:Cx}{pins:UQ}{σ:St}{H:Hp}{s:ej}{E:EQ}
theorem Inv.ov(I:Inv X pins σ H s)(E:EQ):Inv (X.ov E) pins σ H s:=⟨I.ok.ov E,I.os,I.bare,I.base,I.loc,I.cell,I.free,I.vu,I.pin,I.ft,I.len⟩
theorem Inv.s9(I:Inv (X.ov E) pins σ H s):Inv X pins σ H s:=⟨I.ok.s9,I.os,I.bare,I.base,I.loc,I.cell,I.free,I.vu,I.pin,I.ft,I.len⟩
theorem SP.s9(h:SP (X.ov E) pins D f s'):SP X pins D f s':=by
 cases f with
 |next=>obtain⟨a,b,I,q⟩:=h;exact⟨a,b,I.s9,q⟩
 |brk=>obtain⟨a,b,I,q⟩:=h;exact⟨a,b,I.s9,q⟩
 |cont=>obtain⟨a,b,I,q⟩:=h;exact⟨a,b,I.s9,q⟩
 |ret u=>obtain⟨v,a,b,I,r,q⟩:=h;exact⟨v,a,b,I.s9,r,q⟩
theorem u4.rh{st:List i7}{t:TS}(h:u4 X.rh st t):u4 X st t:=λpins s σ H D I a=>
 Nv (h pins s σ H D (I.ov _) a) (λ_ _ q=>q.s9) λ_ _ z=>Pk z
end
section
variable{X:Cx}{st:i7}{yS:List i7}{t u:TS}{e:eK}{te:TE}{pos:gv}
def FX:TS:=λD a H=>D.nx a H
def LB(t u:TS):TS:=λD a H=>t {D with nx:=u D} a H
theorem sT:u4 X [] FX:=λ_ _ a H _ I h=>Tv ⟨a,H,I,h⟩
theorem mi(z:PS X st t)(J:u4 X yS u):u4 X (st::yS) (LB t u):=by
 intro a s g H D I h;refine Rj<|f7 (z a s g H {D with nx:=u D} I h) λf e q=>?_;cases f with
 |next=>
  obtain⟨b,d,O,q⟩:=q;exact J a e b d D O q
 |ret v=>exact q
 |brk=>exact q
 |cont=>exact q
theorem fv(z:PS X st t):u4 X [st] t:=by
 intro a s b H D I h;refine Rj<|f7 (z a s b H D I h) λf d q=>?_;cases f with
 |next=>exact Tv q
 |ret v=>exact q
 |brk=>exact q
 |cont=>exact q
def Gh:TS:=λD a H=>D.ct a H
theorem VS:PS X (.Continue pos) Gh:=λ_ _ a H _ I h=>wpAny_Continue ⟨a,H,I,h⟩
theorem Inv.quiet(I:Inv X pins σ H s):interactive X.env=dt:=by simp[interactive,I.ok.kind]
def FY(te:TE):TS:=λD a H=>te a H λ_ b=>D.nx a b
theorem Km(O:PE X e te)(hs:u7 e none pos.line X.env=pure dt:=by rfl):PS X (.Expr e pos) (FY te):=by intro a s b H D I h;exact wpAny_Expr_any (f7 (O a s b H _ I h) λv g ⟨x,d,U,f,Y⟩=>⟨b,d,U,Y⟩) I.quiet hs
def LC(te:TE):TS:=λD a H=>te a H D.rt
theorem fz(O:PE X e te):PS X (.Return (da e) pos) (LC te):=by intro a s b H D I h;exact wpAny_Return_some<|f7 (O a s b H _ I h) λv g ⟨x,d,U,Y,f⟩=>⟨x,b,d,U,Y,f⟩
def LG(c:TT)(t u:TS):TS:=λD a H=>c a H λb d=>if b=dj then t D a d else u D a d
theorem GH(Y:PT X c tc)(z:u4 X a t)(J:u4 X b u):PS X (.If c a b pos) (LG tc t u):=by
 intro e s f H D I h;refine wpAny_If<|f7 (Y e s f H _ I h) λd i j=>?_;obtain⟨g,O,U⟩:=j;cases d with
 |true=>exact z e i f g D O U
 |false=>exact J e i f g D O U
def AH:TS:=λ_ _ _=>False
theorem mq:PS X st AH:=λ_ _ _ _ _ _ h=>h.elim
end
abbrev TG:=V->St->Hp->(St->Hp->Prop)->Prop
abbrev Ht:=List V->St->Hp->(St->Hp->Prop)->Prop
noncomputable def PG(X:Cx)(I:eK)(t:TG):Prop:=
 ∀(a:UQ) (s:ej) (e:St) (H:Hp) (v:V) (u:d9) (Q:St->Hp->Prop),Inv X a e H s->RelV v u->t v e H Q->
  wpAny (eF X.prog X.w) X.A (Dc I X.env u) (λ_ f=>∃b d,Inv X a b d f/\Q b d) X.xe s
noncomputable def N7(X:Cx)(I:List eK)(t:Ht):Prop:=
 ∀(a:UQ) (s:ej) (g:St) (H:Hp) (f:List V) (e:List d9) (Q:St->Hp->Prop),Inv X a g H s->f6 f e->t f g H Q->
  wpAny (eF X.prog X.w) X.A (assignInOrder ((Dy I X.env).map (·.2)) e) (λ_ h=>∃b d,Inv X a b d h/\Q b d) X.xe s
abbrev Lq:=V->V->V->Hp->(Hp->Prop)->Prop
noncomputable def Lr(X:Cx)(t:Lq):Prop:=
 ∀(a:UQ) (s:ej) (d:St) (H:Hp) (o i v:V) (I O u:d9) (Q:Hp->Prop),Inv X a d H s->RelV o I->RelV i O->RelV v u->t o i v H Q->
  wpAny (eF X.prog X.w) X.A (setItem I O u) (λ_ e=>∃b,Inv X a d b e/\Q b) X.xe s
section
variable{X:Cx}{pos:gv}
def vh(i:Nat):TG:=λv a H Q=>Q (a.set i<|some v) H
theorem fI(O:X.N.Nodup)(J:X.N[i]? = da x)(hx:Loc X.env.scope x)(z:X.fn x=dj\/X.env.scope.names.lookup x=da .local:=by first|exact .inl rfl|exact .inr rfl|assumption):PG X (.Name x pos) (vh i):=by intro a s d H v u Q I r h;exact U?<|Ka I O J hx r (λb U=>⟨_,H,U,h⟩) z
def IS:Ht:=λa b H Q=>a=[]/\Q b H
def CY(t:TG)(u:Ht):Ht:=λd e H Q=>∃v r,d=v::r/\t v e H λa b=>u r a b Q
theorem fH:N7 X [] IS:=by intro a s b H f d Q I r h;obtain⟨e,h⟩:=h;subst e;cases r;exact assignInOrder_nil ⟨b,H,I,h⟩
theorem wF(z:PG X e t)(J:N7 X es u)
 (hs:(Dy (e::es) X.env).map (·.2)=Dc e X.env::(Dy es X.env).map (·.2):=by rfl):N7 X (e::es) (CY t u):=by
 intro a s j H m k Q I r h;obtain⟨v,l,f,h⟩:=h;subst f;cases r with
 |cons r O=>
  rw[hs];refine assignInOrder_cons<|f7 (z a s j H _ _ _ I r h) λ_ i U=>?_;obtain⟨Y,b,d,g⟩:=U;exact J a i Y b _ _ Q d O g
def IR(K:MC)(n:Nat)(t:Ht):TG:=λv d H Q=>∃a b,v=.ref a/\h8 K H a b/\b.length=n/\t b d H Q
theorem BE(U:X.calm=dj)(h:N7 X es t)
 (z:(Dy es X.env).length=n:=by rfl) (Y:(Dy es X.env).findIdx? (·.1)=none:=by rfl):PG X (.Tuple es k pos) (IR X.K n t):=by
 intro d s g H v u Q I r f;obtain⟨a,A,j,p,m,f⟩:=f;subst j;cases r;obtain⟨y,O,w,B⟩:=I.tuple p;refine assign_Tuple_tuple (I.ok.hd U) w (by simp[z,<-m,O.length]) Y λl x=>?_;have i:Inv X d g H {s with heap:=l}:=I.kept (t':=s.toks) λb o e=>x b o (MZ<|MR e) e;exact h d _ g H A _ Q i (by simpa using O) f
def Mg(to I:TE)(t:Lq):TG:=λv a H Q=>to a H λo b=>I a b λi d=>t o i v d λO=>Q a O
theorem BF(L:PE X o to)(J:PE X i ti)(hs:Lr X t)
 (z:∀v,Dc (.Subscript o i pos) X.env v=(do
   let O<-holding [v] (eA o X.env);let U<-holding [v,O] (eA i X.env)
   M5 pos
   holding [v,O,U] (setItem O U v)
   release [v,O,U] []):=by intro _;rfl):PG X (.Subscript o i pos) (Mg to ti t):=by
 intro a s b H v u Q I r h;rw[z];refine MD<|Oy<|f7 (L a s b H _ I h) λO A Y=>?_;obtain⟨x,d,g,p,l⟩:=Y;refine MD<|Oy<|f7 (J a A b d _ g l) λU B Y=>?_;obtain⟨y,e,j,w,m⟩:=Y;refine MD<|Uo<|MD<|Oy<|f7 (hs a B b e x y v O U u _ j p w r m) λ_ C Y=>?_;obtain⟨f,k,n⟩:=Y;exact wpAny_release ⟨b,f,k,n⟩
def WS(z:TE)(g:TG):TS:=λD a H=>z a H λx b=>g x a b D.nx
theorem fB(O:PE X e te)(U:PG X tg g)(hs:F' [tg] e pos.line X.env=pure dt:=by rfl)(J:swappedStores [tg] e X.env=pure none:=by rfl)
 (z:(Dy [tg] X.env).map (·.2)=[Dc tg X.env]:=by rfl):PS X (.Assign [tg] e pos) (WS te g):=by
 intro a s b H D I h;refine wpAny_Assign_stores (f7 (O a s b H _ I h) λv k Y=>?_) hs J;obtain⟨x,d,f,j,i⟩:=Y;rw[z];exact f7 (U a k b d x v _ f j i) λ_ l q=>q
theorem pe(O:X.N.Nodup)(J:X.N[i]? = da x)(hx:Loc X.env.scope x)(U:PE X e te)(hs:u7 e (da (.Name x pos')) pos.line X.env=pure dt:=by rfl)(z:X.fn x=dj\/X.env.scope.names.lookup x=da .local:=by first|exact .inl rfl|exact .inr rfl|assumption):
 PS X (.Assign [.Name x pos'] e pos) (WS te<|vh i):=by
 intro a s k H D I h;refine wpAny_Assign_Name (f7 (U a s k H _ I h) λv l Y=>?_) hs;obtain⟨y,b,d,j,g⟩:=Y;exact Ka d O J hx j (λm f=>⟨_,b,f,g⟩) z
end
structure It where
 go:Nat->Hp->Prop
 DT:Nat->Hp->V->Hp->Prop
 stop:Nat->Hp->Prop
noncomputable def vR(X:Cx)(z:UQ)(H:Hp)(b:dy):Prop:=
 H b=none/\b≠X.env.locals/\b∉X.fs/\(b∈X.ex\/X.i6.heap.objs.size<=b)/\(∀x c,X.env.cells.lookup x=da c->c≠b)/\∀p∈X.pn++z,p.1≠b
theorem Inv.Dj(I:Inv X pins σ H s)(O:s.heap.objs.size<=b)(J:H' b=none):vR X pins H' b:=by
 refine⟨J,OZ<|MX I.lt O,I.C? O,.inr<|NJ I.sz O,λx c e z=>?_,λp U z=>?_⟩
 ·obtain⟨v,q⟩:=I.cell x c e
  exact absurd (MX q.lt<|by rw[z];exact O)<|NP _
 ·exact absurd (MX (MR (I.pin p U).1)<|by rw[z];exact O)<|NP _
structure Turn(P:ir)(w:g8)(K:MC)(tg:eK)(J:It)(fp:List dy)(it:dy)(tn:Nat->fh->Prop):Prop where
 mem:it∈fp
 obj:∀i h,tn i h->∀b∈fp,∃o,h.get? b=da o/\∀v,o.data ≠ .cell v
 keep:∀i h h',tn i h->(∀b∈fp,∀o,h.get? b=da o->h'.get? b=da o)->tn i h'
 item:∀(X:Cx),X.prog=P->X.w=w->X.K=K->X.calm=dj->∀(i:Nat) (pins:UQ) (s:ej) (σ:St) (H:Hp) (E:EQ),Inv X pins σ H s->(∀b∈fp,vR X pins H b)->tn i s.heap->J.go i H->
  wpAny (eF P w) X.A (z8<|.ref it) (λr s1=>∃u,r=da u/\
   wpAny (eF P w) X.A (T9 tg (.ref it) u) (λ_ s2=>∃x H',Inv X pins σ H' s2/\RelV x u/\J.DT i H x H'/\tn (i+1) s2.heap/\∀b∈fp,H' b=none) E s1) E s
 done:∀(X:Cx),X.prog=P->X.w=w->X.K=K->X.calm=dj->∀(i:Nat) (pins:UQ) (s:ej) (σ:St) (H:Hp) (E:EQ),Inv X pins σ H s->(∀b∈fp,vR X pins H b)->tn i s.heap->J.stop i H->
  wpAny (eF P w) X.A (z8<|.ref it) (λr s1=>r=none/\Inv X pins σ H s1) E s
 self:∀(A:lp) (i:Nat) (s:ej) (Q:EQ) (E:EQ),tn i s.heap->Q (.ref it) s->wpAny (eF P w) A (UP<|.ref it) Q E s
abbrev TI:=St->Hp->(It->Hp->Prop)->Prop
noncomputable def N'(X:Cx)(z:UQ)(Y:St)(O:eK)(R:It->Hp->Prop)(I:d9)(L:ej):Prop:=
 ∃(e:dy) (d:List dy) (f:Nat->fh->Prop) (J:It) (a:Hp),I=.ref e/\Inv X z Y a L/\Turn X.prog X.w X.K O J d e f/\f 0 L.heap/\(∀b∈d,vR X z a b)/\R J a
noncomputable def PI(X:Cx)(I z:eK)(J:TI):Prop:=
 ∀(a:UQ) (s:ej) (b:St) (H:Hp) (R:It->Hp->Prop),Inv X a b H s->J b H R->
  wpAny (eF X.prog X.w) X.A (eA z X.env) (λv d=>wpAny (eF X.prog X.w) X.A (UP v) (N' X a b I R) X.xe d) X.xe s
theorem uy(O:s.heap.get? it=da o)(U:o.cls=.type n)(z:o.data=.fields vs)
 (J:["enumerate","zip","dict_itemiterator","dict_reverseitemiterator","odict_iterator","itertools.zip_longest","itertools.pairwise"].contains n=dt) (I:Q () s):wpAny M A (T9 tg (.ref it) u) Q E s:=by
 unfold T9;cases tg<;>first
  |exact ML I
  |(cases u<;>first
      |exact ML I
      | (refine MD (wpAny_load O ?_)
         rw[U,z];show wpAny M A (if (["enumerate","zip","dict_itemiterator","dict_reverseitemiterator","odict_iterator","itertools.zip_longest","itertools.pairwise"].contains n&&vs[0]? == da (Dm _))=dj then _ else _) Q E s;rw[UY (by intro h;rw[J,Bool.false_and]at h;cases h)];exact ML I))
noncomputable def M'(K:MC)(a:dy):It:=
 ⟨λi H=>∃b x,hM K H a b/\b[i]? = da x,λi H x d=>d=H/\∀b,hM K H a b->b[i]? = da x,λi H=>∃b,hM K H a b/\b.length<=i⟩
noncomputable def M_(K:MC)(a:dy):It:=
 ⟨λi H=>∃b x,h8 K H a b/\b[i]? = da x,λi H x d=>d=H/\∀b,h8 K H a b->b[i]? = da x,λi H=>∃b,h8 K H a b/\b.length<=i⟩
def DW(lo:Int)(n:Nat):It:=⟨λi _=>i<n,λi H x a=>a=H/\x=.int (lo+i),λi _=>n<=i⟩
theorem dH{P:ir}{w:g8}{K:MC}{tg:eK}(a it:dy):Turn P w K tg (M' K a) [it] it (λi h=>h.IsListIter it a i) where
 mem:=by simp
 obj:=λi h st b O=>by
  have e:b=it:=by simpa using O
  subst e;obtain⟨o,e,c,d⟩:=st;exact⟨o,e,λv z=>by rw[d]at z;cases z⟩
 keep:=λi h h' st k=>st.at λo e=>k it ⋯ o e
 item:=by intro X Y hw hK hc i pins s σ H E I hf st hg;subst Y hw hK;obtain⟨xs,x,U,hx⟩:=hg;obtain⟨its,rv,p,hz⟩:=I.list U;obtain⟨u,hu,ru⟩:=rv.get hx;obtain⟨f0,f1,f2,f3,f4,f5⟩:=hf it ⋯;refine wpAny_pyNext_list_item st p.isList (x:=u) (by simpa using hu) λh' aa sb=>?_;have I1:Inv X pins σ H {s with heap:=h'}:=I.turned (t':=s.toks) (λb o O e=>(sb.2 b O).trans e) f0 f1 f3 f4 f5;obtain⟨o,e,c,d⟩:=id aa;exact⟨u,rfl,uy (s:={s with heap:=h'}) e c d ⋯ ⟨x,H,I1,ru,⟨rfl,λys hy=>by rw[I.x' hy U];exact hx⟩,aa,λb O=>(hf b O).1⟩⟩
 done:=by intro X Y hw hK hc i pins s σ H E I hf st hg;subst Y hw hK;obtain⟨xs,U,hx⟩:=hg;obtain⟨its,rv,p,hz⟩:=I.list U;obtain⟨f0,f1,f2,f3,f4,f5⟩:=hf it ⋯;have hl:=rv.length;exact wpAny_pyNext_list_end (I.ok.hd hc) st p.isList (by simp;omega) λh' eb=>⟨rfl,I.turned (t':=s.toks) (λb o O e=>eb b o O e) f0 f1 f3 f4 f5⟩
 self:=λ_ _ _ _ _ st h=>wpAny_pyIter_listiter st h
theorem bw{P:ir}{w:g8}{K:MC}{tg:eK}(a it:dy):Turn P w K tg (M_ K a) [it] it (λi h=>h.IsTupleIter it a i) where
 mem:=by simp
 obj:=λi h st b O=>by
  have e:b=it:=by simpa using O
  subst e;obtain⟨o,e,c,d⟩:=st;exact⟨o,e,λv z=>by rw[d]at z;cases z⟩
 keep:=λi h h' st k=>st.at λo e=>k it ⋯ o e
 item:=by intro X Y hw hK hc i pins s σ H E I hf st hg;subst Y hw hK;obtain⟨xs,x,U,hx⟩:=hg;obtain⟨its,rv,p,hz⟩:=I.tuple U;obtain⟨u,hu,ru⟩:=rv.get hx;obtain⟨f0,f1,f2,f3,f4,f5⟩:=hf it ⋯;refine wpAny_pyNext_tuple_item st (show s.heap.IsTuple a its.toArray from p) (x:=u) (by simpa using hu) λh' aa sb=>?_;have I1:Inv X pins σ H {s with heap:=h'}:=I.turned (t':=s.toks) (λb o O e=>(sb.2 b O).trans e) f0 f1 f3 f4 f5;obtain⟨o,e,c,d⟩:=id aa;exact⟨u,rfl,uy (s:={s with heap:=h'}) e c d ⋯ ⟨x,H,I1,ru,⟨rfl,λys hy=>by rw[I._n hy U];exact hx⟩,aa,λb O=>(hf b O).1⟩⟩
 done:=by intro X Y hw hK hc i pins s σ H E I hf st hg;subst Y hw hK;obtain⟨xs,U,hx⟩:=hg;obtain⟨its,rv,p,hz⟩:=I.tuple U;obtain⟨f0,f1,f2,f3,f4,f5⟩:=hf it ⋯;have hl:=rv.length;exact wpAny_pyNext_tuple_end (I.ok.hd hc) st (show s.heap.IsTuple a its.toArray from p) (by simp;omega) λh' eb=>⟨rfl,I.turned (t':=s.toks) (λb o O e=>eb b o O e) f0 f1 f3 f4 f5⟩
 self:=λ_ _ _ _ _ st h=>wpAny_pyIter_tupleiter st h
theorem bx{P:ir}{w:g8}{K:MC}{tg:eK}(it:dy)(lo:Int)(n:Nat):Turn P w K tg (DW lo n) [it] it (λi h=>IsRangeIter h it (lo+(i:Nat)*1) ((n:Int)-(i:Nat)) 1) where
 mem:=by simp
 obj:=λi h st b O=>by
  have e:b=it:=by simpa using O
  subst e;exact⟨_,st,λv z=>by have z':Data.fields _=Data.cell v:=z;cases z'⟩
 keep:=λi h h' st k=>k it ⋯ _ st
 item:=by intro X U hw Y hc i pins s σ H E I hf st hg;subst U hw Y;obtain⟨f0,f1,f2,f3,f4,f5⟩:=hf it ⋯;have W:=Walks.range (prog:=X.prog) (w:=X.w) (I.ok.hd hc) it lo 1 n;refine W.item i s _ _ hg st λv h' tk hv a8 kk=>?_;obtain⟨t,rfl⟩:=hv;have I1:Inv X pins σ H {s with heap:=h',toks:=tk}:=I.turned (λb o O e=>kk b o (by simpa using O) e) f0 f1 f3 f4 f5;refine⟨_,rfl,uy (s:={s with heap:=h',toks:=tk}) (n:="range_iterator") a8 rfl rfl ⋯ ⟨.int (lo+i),H,I1,⟨t,?_⟩,⟨rfl,rfl⟩,a8,λb O=>(hf b O).1⟩⟩;rw[SO]
 done:=by intro X U hw Y hc i pins s σ H E I hf st hg;subst U hw Y;obtain⟨f0,f1,f2,f3,f4,f5⟩:=hf it ⋯;exact wpAny_pyNext_range_end (I.ok.hd hc) st (by have:n<=i:=hg;omega) λh' eb=>⟨rfl,I.turned (t':=s.toks) (λb o O e=>eb b o O e) f0 f1 f3 f4 f5⟩
 self:=λ_ _ _ _ _ st h=>wpAny_pyIter_rangeiter st h
section
variable{X:Cx}{tg:eK}
theorem W5{J:UQ}{Z:St}{H:Hp}{s:ej}{R:It->Hp->Prop}{E:EQ}{lo z:Int}{t u v:ro}{L:Nat}(I:Inv X J Z H s)(h1 : -(2^62)<=lo)(h2:lo<2^62)(U : -(2^62)<=z)(Y:z<2^62)
 (q:R (DW lo (z-lo).toNat) H):wpAny (eF X.prog X.w) X.A (UP (.ref s.heap.objs.size)) (N' X J Z tg R) E {s with heap:=s.heap.push {cls:=.type "range",data:=.fields #[.int lo t,.int z u,.int 1 v]},toks:=L}:=by
 refine wpAny_pyIter_range (IsRange.new ..) (small_one h1 h2 U Y) ?_;have O:Inv X J Z H {s with heap:=s.heap.push {cls:=.type "range",data:=.fields #[.int lo t,.int z u,.int 1 v]},toks:=L}:=I.kept λb o e=>MF _ e;refine⟨(s.heap.push {cls:=.type "range",data:=.fields #[.int lo t,.int z u,.int 1 v]}).objs.size,[(s.heap.push {cls:=.type "range",data:=.fields #[.int lo t,.int z u,.int 1 v]}).objs.size],_,_,H,rfl,
  O.kept (t':=L) λb o e=>MF _ e,bx _ lo (z-lo).toNat,?_,λb f=>?_,q⟩
 ·have a:lo+((0:Nat):Int)*1=lo:=by simp
  have d:(((z-lo).toNat:Nat):Int)-((0:Nat):Int)=Builtin.Range.rangeSize lo z 1:=by rw[rangeSize_one];split<;>omega
  show IsRangeIter _ _ (lo+((0:Nat):Int)*1) ((((z-lo).toNat:Nat):Int)-((0:Nat):Int)) 1;rw[a,d];exact MU _ rfl
 ·have e:b=(s.heap.push {cls:=.type "range",data:=.fields #[.int lo t,.int z u,.int 1 v]}).objs.size:=by simpa using f
  subst e;exact O.Dj (MM _)<|O.ft.fresh<|MM _
noncomputable def Hf(z:TA):TI:=λd H R=>z d H λb a=>∃j:Int,b=[.int j]/\ -(2^62)<=j/\j<2^62/\R (DW 0 j.toNat) a
noncomputable def He(z:TA):TI:=λd H R=>z d H λb a=>∃i j:Int,b=[.int i,.int j]/\(-(2^62)<=i/\i<2^62/\ -(2^62)<=j/\j<2^62)/\R (DW i (j-i).toNat) a
theorem fG{a:eK}{z:TA}{p pos:gv}(U:Gl X "range")(L:X.mg "range" = none)(J:PA X [a] z)(hs:fA [a] X.env=[(dt,eA a X.env)]:=by rfl):PI X tg (.Call (.Name "range" p) [a] [] pos) (Hf z):=by
 intro b s k H R I h;refine Call_<|xX I U L boot_range<|ND (f7 (J pos b s k H _ I h) λn m Y=>?_) hs rfl;obtain⟨o,l,d,g,O⟩:=Y;obtain⟨j,e,O,f,q⟩:=O;subst e;cases g with
 |cons r i=>
  cases i;obtain⟨t,rfl⟩:=r;exact call_range_1 (W5 d ⋯ ⋯ O f<|by simpa using q)
theorem fF(J:Gl X "range")(L:X.mg "range" = none)(z:PA X [a,b] ta)(hs:fA [a,b] X.env=[(dt,eA a X.env),(dt,eA b X.env)]:=by rfl)(Y:fA [b] X.env=[(dt,eA b X.env)]:=by rfl):
 PI X tg (.Call (.Name "range" p) [a,b] [] pos) (He ta):=by
 intro d s u H R I h;refine Call_ (xX I J L boot_range<|ND (f7 (z pos d s u H _ I h) λA x g=>?_) (by rw[hs,Y])<|by rw[Y];rfl);obtain⟨B,w,f,o,O⟩:=g;obtain⟨i,j,e,⟨O,k,l,m⟩,q⟩:=O;subst e;cases o with
 | cons r U=>
  cases U with
  |cons n U=>
   cases U;obtain⟨t,rfl⟩:=r;obtain⟨y,rfl⟩:=n;exact call_range_2<|W5 f O k l m q
noncomputable def LH(L:TI)(g:TG)(z:TS):TS:=λD a H=>L a H λJ f=>∃W:Nat->Nat->St->Hp->Prop,(∃m,W 0 m a f)/\∀i m a H,W i m a H->
 (J.stop i H/\D.nx a H)\/(J.go i H/\∃N:St->Hp->Prop,(∀d b,N d b->∃e,e<m/\W (i+1) e d b)/\∀x b,J.DT i H x b->g x a b λI h=>z {D with nx:=N,ct:=N,bk:=D.nx} I h)
def YK(fp:List dy)(h:fh):List (dy×l7):=fp.filterMap λb=>(h.get? b).map λo=>(b,o)
theorem vE(I:b∈fp)(e:h.get? b=da o):(b,o)∈YK fp h:=So.mpr ⟨b,I,by rw[e];rfl⟩
theorem fS(I:p∈YK fp h):p.1∈fp/\h.get? p.1=da p.2:=by
 obtain⟨b,O,e⟩:=So.mp I;cases q:h.get? b with
 |none=>rw[q]at e;cases e
 |some o=>
  rw[q]at e;have U:(b,o)=p:=NR e;subst U;exact⟨O,q⟩
theorem Inv.pinned(I:Inv X pins σ H s)(J:∀b∈fp,vR X pins H b)(Y:∀b∈fp,∃o,s.heap.get? b=da o/\∀v,o.data ≠ .cell v):Inv X (pins++YK fp s.heap) σ H s:=
 I.UN λp f=>(RZ.mp f).elim (λz=>I.pin p<|Nb _ z) λz=>by obtain⟨O,e⟩:=fS z;obtain⟨a,f1,f2,_⟩:=J p.1 O;obtain⟨o,U,d⟩:=Y p.1 O;rw[e]at U;cases U;exact⟨e,a,f1,f2,d⟩
theorem Inv.P9(I:Inv X (pins++pl) σ H s):Inv X pins σ H s:=I.UN λp O=>I.pin p<|Nb _<|Ti _ O
theorem Bz(L:N_ (eF X.prog X.w) X.A X.env X.xe)(hc:X.calm=dj)(hi:PI X tg iter wi)(hg:PG X tg g)(O:u4 X body tb)
 (hs:∀x,u5 iter X.env x=pure x:=by intro _;rfl):PS X (.For tg iter body [] pos) (LH wi g tb):=by
 intro a s σ H D I h;refine wpAny_For (f7 (hi a s σ H _ I h) λv s1 h1=>f7 h1 λc9 s2 h2=>?_) hs;obtain⟨it,z,tn,J,H2,e,I2,T,b9,f2,W,⟨m0,w0⟩,be⟩:=h2;subst e;have G:∀{p:Hp},(∀b∈z,p b=none)->∀b∈z,vR X a p b:=λhn b O=>⟨hn b O,(f2 b O).2⟩;refine codeAny_forLoop_any (λn s'=>∃i k p,Inv X a k p s'/\tn i s'.heap/\(∀b∈z,p b=none)/\W i n k p) ?_ m0 ⟨0,σ,H2,I2,b9,λb O=>(f2 b O).1,w0⟩;rintro n s3 ⟨i,l,F,S,C,Z,w3⟩;rcases be i n l F w3 with⟨E,qn⟩|⟨go,N,hN,step⟩
 ·refine Sx L (f7 (T.done X rfl rfl rfl hc i a s3 l F X.xe S (G Z) C E) λr s4 y=>?_)
  obtain⟨M,I4⟩:=y;subst M;exact Tv ⟨l,F,I4,qn⟩
 ·refine Sx L (f7 (T.item X rfl rfl rfl hc i a s3 l F X.xe S (G Z) C go) λr s4 y=>?_)
  obtain⟨u,M,h4⟩:=y;subst M;refine Sx L<|f7 h4 λ_ s5 y=>?_;obtain⟨x,R,I5,r5,y5,K,c0⟩:=y;have c1:=I5.pinned (G c0)<|T.obj _ _ K;refine Sx L<|f7 (hg _ s5 l R x u _ c1 r5<|step x R y5) λ_ s6 y=>?_;obtain⟨Q,H6,I6,q6⟩:=y;refine Sx L<|f7 (O _ s6 Q H6 _ I6 q6) λf P t=>?_;have again:∀{U:St} {Y:Hp},Inv X (a++YK z s5.heap) U Y P->N U Y->∃m,m<n/\∃i k p,Inv X a k p P/\tn i P.heap/\(∀b∈z,p b=none)/\W i m k p:=λ{U Y} j B=>by obtain⟨m',hm,w7⟩:=hN U Y B;refine⟨m',hm,i+1,U,Y,j.P9,T.keep _ _ _ K λb O o e=>(j.pin (b,o)<|Nb _<|Nb _<|vE O e).1,λb O=>?_,w7⟩;obtain⟨o,e,d⟩:=T.obj _ _ K b O;exact(j.pin (b,o)<|Nb _<|Nb _<|vE O e).2.1
  cases f with
  |next=>obtain⟨U,Y,j,B⟩:=t;exact again j B
  |cont=>obtain⟨U,Y,j,B⟩:=t;exact again j B
  |brk=>obtain⟨U,Y,j,t⟩:=t;exact⟨U,Y,j.P9,t⟩
  |ret v=>obtain⟨x7,U,Y,j,r7,t⟩:=t;exact⟨x7,U,Y,j.P9,r7,t⟩
end
theorem Vj{lo:Int}{n:Nat}{g:TG}{Z:TS}{D:Ends}{z:St}{H:Hp}(I:Nat->St->Hp->Prop)(h0:I 0 z H)
 (hs:∀i z H,i<n->I i z H->g (.int<|lo+i) z H λO L=>Z {D with nx:=I<|i+1,ct:=I<|i+1,bk:=D.nx} O L) (hd:∀z H,I n z H->D.nx z H):
 ∃W:Nat->Nat->St->Hp->Prop,(∃m,W 0 m z H)/\∀i m z H,W i m z H->
  ((DW lo n).stop i H/\D.nx z H)\/((DW lo n).go i H/\∃N:St->Hp->Prop,(∀J H',N J H'->∃Y,Y<m/\W (i+1) Y J H')/\∀x H',(DW lo n).DT i H x H'->g x z H' λO L=>Z {D with nx:=N,ct:=N,bk:=D.nx} O L):=by
 refine⟨λi m z H=>m=n-i/\i<=n/\I i z H,⟨n,by simp,rn _,h0⟩,?_⟩;rintro i m z H ⟨rfl,b,p⟩;by_cases U:i<n
 ·refine .inr ⟨U,I<|i+1,λJ H' a=>⟨n-(i+1),by omega,rfl,U,a⟩,λx H' y=>?_⟩
  obtain⟨e,y⟩:=y;subst e y;exact hs i z _ U p
 ·have e:i=n:=by omega
  subst e;exact .inl ⟨MM _,hd z H p⟩
abbrev R2:=V->V->Hp->VK->Prop
noncomputable def l9(X:Cx)(f:d9->d9->n0 d9)(r:R2):Prop:=
 ∀(a:UQ) (s:ej) (b:St) (H:Hp) (x y:V) (v u:d9) (Q:VK),Inv X a b H s->RelV x v->RelV y u->r x y H Q->
  wpAny (eF X.prog X.w) X.A (f v u) (EP X a b Q) X.xe s
noncomputable def b_(X:Cx)(f:d9->n0 d9)(r:V->Hp->VK->Prop):Prop:=
 ∀(a:UQ) (s:ej) (b:St) (H:Hp) (x:V) (v:d9) (Q:VK),Inv X a b H s->RelV x v->r x H Q->
  wpAny (eF X.prog X.w) X.A (f v) (EP X a b Q) X.xe s
noncomputable def QR(X:Cx)(f:d9)(r:List V->Hp->VK->Prop):Prop:=
 ∀(a:UQ) (s:ej) (e:St) (H:Hp) (d:List V) (b:List d9) (Q:VK),Inv X a e H s->f6 d b->r d H Q->
  wpAny (eF X.prog X.w) X.A (call f b) (EP X a e Q) X.xe s
noncomputable def Mn(X:Cx)(r:V->Hp->(Bool->Hp->Prop)->Prop):Prop:=
 ∀(a:UQ) (s:ej) (b:St) (H:Hp) (x:V) (v:d9) (Q:Bool->Hp->Prop),Inv X a b H s->RelV x v->r x H Q->
  wpAny (eF X.prog X.w) X.A (truthy v) (TP X a b Q) X.xe s
def P7(r:R2)(z I:TE):TE:=λa H Q=>z a H λx b=>I a b λy d=>r x y d Q
def Q?(r:V->Hp->VK->Prop)(z:TE):TE:=λb H Q=>z b H λx a=>r x a Q
noncomputable def rI(C:Int->Int->Prop)(g:Int->Int->V):R2:=λx y H Q=>∃i j,x=.int i/\y=.int j/\C i j/\Q (g i j) H
def yr(g:Int->Int->V):R2:=λx y H Q=>∃i j,x=.int i/\y=.int j/\Q (g i j) H
def rU(g:Int->V):V->Hp->VK->Prop:=λx H Q=>∃i,x=.int i/\Q (g i) H
section
variable{X:Cx}{a b c:eK}{ta tb tc:TE}{pos:gv}
theorem HC(ha:PE X a ta)(U:PE X b tb){z:UQ}{s:ej}{L:St}{H:Hp}{R:V->V->Hp->Prop}(I:Inv X z L H s)
 (h:ta L H λx H1=>tb L H1 λy J=>R x y J) {Q:EQ} {f:d9->d9->n0 d9}
 (hf:∀v u s2 x y J,Inv X z L J s2->RelV x v->RelV y u->R x y J->wpAny (eF X.prog X.w) X.A (f v u) Q X.xe s2):
 wpAny (eF X.prog X.w) X.A (eA a X.env) (λv Y=>wpAny (eF X.prog X.w) X.A (eA b X.env) (λu Z=>wpAny (eF X.prog X.w) X.A (f v u) Q X.xe Z) X.xe Y) X.xe s:=by
 refine f7 (ha z s L H _ I h) λv l O=>?_;obtain⟨x,H1,d,j,g⟩:=O;refine f7 (U z l L H1 _ d g) λu s2 O=>?_;obtain⟨y,J,e,k,i⟩:=O;exact hf v u s2 x y J e j k i
theorem mF{O:Operator}{r:R2}(U:l9 X (xr O) r)(z:PE X a ta)(Y:PE X b tb):PE X (.BinOp a O b pos) (P7 r ta tb):=by intro d s k H Q I h;exact wpAny_BinOp<|HC z Y I h λv u j x y e f g i q=>U d j k e x y v u Q f g i q
theorem GJ(O:b_ X (unaryOp op) r)(z:PE X a ta):PE X (.UnaryOp op a pos) (Q? r ta):=by intro b s d H Q I h;exact UnaryOp_<|f7 (z b s d H _ I h) λv g ⟨x,e,U,Y,f⟩=>O b g d e x v Q U Y f
theorem UL{f:d9->d9->n0 d9}{C:Int->Int->Prop}{g:Int->Int->Int}
 (rule:∀(i j:Int) (t u:ro) (s:ej) (Q:EQ) (E:EQ),C i j->Q (.int (g i j) s.toks) {s with toks:=s.toks+1}->wpAny (eF X.prog X.w) X.A (f (.int i t)<|.int j u) Q E s):
 l9 X f (rI C λi j=>.int (g i j)):=by
 intro a s d H x y v u Q I O U h;obtain⟨i,j,rfl,rfl,Y,q⟩:=h;obtain⟨t,rfl⟩:=O;obtain⟨b,rfl⟩:=U;exact rule i j t b s _ _ Y ⟨.int<|g i j,H,I.tok _,⟨_,rfl⟩,q⟩
theorem IK{f:d9->d9->n0 d9}{g:Int->Int->Int}
 (rule:∀(i j:Int) (t u:ro) (s:ej) (Q:EQ) (E:EQ),Q (.int (g i j) s.toks) {s with toks:=s.toks+1}->wpAny (eF X.prog X.w) X.A (f (.int i t)<|.int j u) Q E s):
 l9 X f (yr λi j=>.int (g i j)):=by
 intro a s d H x y v u Q I O U h;obtain⟨i,j,rfl,rfl,q⟩:=h;obtain⟨t,rfl⟩:=O;obtain⟨b,rfl⟩:=U;exact rule i j t b s _ _ ⟨.int<|g i j,H,I.tok _,⟨_,rfl⟩,q⟩
theorem GP{f:d9->d9->n0 d9}{g:Int->Int->Bool}
 (rule:∀(i j:Int) (t u:ro) (s:ej) (Q:EQ) (E:EQ),Q (.bool<|g i j) s->wpAny (eF X.prog X.w) X.A (f (.int i t)<|.int j u) Q E s):
 l9 X f (yr λi j=>.bl (g i j)):=by
 intro a s d H x y v u Q I O U h;obtain⟨i,j,rfl,rfl,q⟩:=h;obtain⟨t,rfl⟩:=O;obtain⟨b,rfl⟩:=U;exact rule i j t b s _ _ ⟨.bl<|g i j,H,I,rfl,q⟩
def Lw(i j:Int):Prop:=0<j/\j<1073741824
def Lv(i j:Int):Prop:=0<=j/\j<=1000000/\i.natAbs<2^64
def F9(i j:Int):Prop:=(-(2^64)<i/\i<2^64)\/(-(2^64)<j/\j<2^64)
theorem F9.ok(h:F9 i j):IntMulOk i j:=by
 rcases h with⟨a,b⟩|⟨a,b⟩
 ·exact .of_left<|intBits_le_64 a b
 ·exact .of_right<|intBits_le_64 a b
theorem D?:l9 X (xr .Add) (yr λi j=>.int (i+j)):=IK λ_ _ _ _ _ _ _ q=>add_int q
theorem Ca:l9 X (xr .Sub) (yr λi j=>.int (i-j)):=IK λ_ _ _ _ _ _ _ q=>sub_int q
theorem E?:l9 X (xr .Mult) (rI F9 λi j=>.int (i*j)):=UL λ_ _ _ _ _ _ _ I q=>mul_int q I.ok
theorem tU:l9 X (xr .FloorDiv) (rI Lw λi j=>.int (i/j)):=UL λi j _ _ _ _ _ I q=>by have a:(0:Int)<j:=I.1;have b:j<1073741824:=I.2;exact floordiv_int ⋯ (by rw[Int.fdiv_eq_ediv_of_nonneg i ⋯];exact q)<|.inl<|PyProof.noPylong_small ⋯
theorem Cd:l9 X (xr .Mod) (rI (λ_ j=>0<j) λi j=>.int (i%j)):=UL λi j _ _ _ _ _ I q=>by have a:(0:Int)<j:=I;exact mod_int' ⋯ (by rw[Int.fmod_eq_emod_of_nonneg i ⋯];exact q)
theorem Cc:l9 X (xr .Pow) (rI Lv λi j=>.int (i^j.toNat)):=UL λ_ _ _ _ _ _ _ I q=>pow_int_small I.1 I.2.1 I.2.2 q
theorem R?{f:d9->n0 d9}{g:Int->Int}
 (rule:∀(i:Int) (t:ro) (s:ej) (Q:EQ) (E:EQ),Q (.int (g i) s.toks) {s with toks:=s.toks+1}->wpAny (eF X.prog X.w) X.A (f<|.int i t) Q E s):
 b_ X f (rU λi=>.int (g i)):=by
 intro a s b H x v Q I O h;obtain⟨i,rfl,q⟩:=h;obtain⟨t,rfl⟩:=O;exact rule i t s _ _ ⟨.int<|g i,H,I.tok _,⟨_,rfl⟩,q⟩
theorem AA:b_ X (unaryOp .USub) (rU λi=>.int (-i)):=R? λ_ _ _ _ _ q=>neg_int q
end
section
variable{X:Cx}{a b c:eK}{ta tb tc:TE}{pos:gv}
theorem pT(I:Inv X pins σ H s)(q:Q (.bl k) H)(e:k=k'):EP X pins σ Q (.bool k') s:=by subst e;exact⟨.bl k,H,I,rfl,q⟩
theorem Ce:l9 X (sh .Lt) (yr λi j=>.bl (decide<|i<j)):=GP λ_ _ _ _ _ _ _ q=>lt_int q
theorem GN:l9 X (sh .LtE) (yr λi j=>.bl (decide<|i<=j)):=GP λ_ _ _ _ _ _ _ q=>le_int q
theorem GO:l9 X (sh .Gt) (yr λi j=>.bl (decide<|j<i)):=GP λ_ _ _ _ _ _ _ q=>gt_int q
theorem Cf:l9 X (sh .Is) (λx y H Q=>y=.el/\Q (.bl<|decide<|x=.el) H):=by
 intro a s b H x y v u Q I O U h;obtain⟨rfl,q⟩:=h;cases U;refine is_none_gen<|pT I q ?_;cases x<;>first
  |(cases O;rfl)
  |(obtain⟨t,rfl⟩:=O;rfl)
theorem tR:l9 X (sh .IsNot) (λx y H Q=>y=.el/\Q (.bl<|!decide (x=.el)) H):=by
 intro a s b H x y v u Q I O U h;obtain⟨rfl,q⟩:=h;cases U;refine isnot_none_gen<|pT I q ?_;cases x<;>first
  |(cases O;rfl)
  |(obtain⟨t,rfl⟩:=O;rfl)
def Hd:HO->Bool
 |.lst _=>dj
 |.ins _ _ _=>dj
 |_=>dt
theorem wK{J:UQ}{s:ej}{L:St}{H:Hp}{a:dy}{o:HO}(I:Inv X J L H s)(h:H a=da o)(p:Hd o=dj):∃O,s.heap.get? a=da O/\O.cls ≠ .type "tuple":=by
 cases o with
 |lst d=>
  obtain⟨_,b,n,_,e⟩:d.length<=fy/\∃(b:List d9) (n:Nat),f6 d b/\s.heap.get? a=da {cls:=.type "list",data:=.seq b.toArray n}:=I.ft a _ h;exact⟨_,e,(by show OP "list" ≠ .type "tuple";decide +kernel)⟩
 |ins C f fs=>
  have x:=I.ft a _ h;obtain⟨_,_,_,e,_⟩:=x;exact⟨_,e,(by show Nw C ≠ .type "tuple";exact λz=>by cases z)⟩
 |_=>exact absurd (show dt=dj from p) Nd
theorem l9.or(h:l9 X f r)(h':l9 X f r'):l9 X f (λx y H Q=>r x y H Q\/r' x y H Q):=by
 intro a s b H x y v u Q I O U q;rcases q with q|q
 ·exact h a s b H x y v u Q I O U q
 ·exact h' a s b H x y v u Q I O U q
theorem ZQ(b:eK)(h:op ≠ .In:=by decide)(z:op ≠ .NotIn:=by decide):Dd op b=dt:=by
 have a:(op==CmpOp.In)=dt:=by cases op<;>first|rfl|exact absurd rfl h
 have I:(op==CmpOp.NotIn)=dt:=by cases op<;>first|rfl|exact absurd rfl z
 cases b<;>simp[Dd,a,I]
theorem tJ{O:CmpOp}{r:R2}(U:l9 X (sh O) r)(z:PE X a ta)(Y:PE X b tb)(J:Dd O b=dt):PE X (.Compare a [O] [b] pos) (P7 r ta tb):=by intro d s k H Q I h;exact wpAny_Compare1 (HC z Y I h λv u j x y e f g i q=>U d j k e x y v u Q f g i q) J
def FT(t:TE):TT:=λb H Q=>t b H λx a=>∃k,x=.bl k/\Q k a
theorem fu(O:l9 X (sh op) r)(J:PE X a ta)(U:PE X b tb)(L:Dd op b=dt):PT X (.Compare a [op] [b] pos) (FT<|P7 r ta tb):=by
 intro d s f H Q I h;refine wpAny_isTrue_Compare1 (f7 (J d s f H _ I h) λv B ⟨x,g,Y,t,n⟩=>f7 (U d B f g _ Y n) λu C ⟨y,i,l,w,o⟩=>
  f7 (O d C f i x y v u _ l t w o) λc E ⟨z,j,m,A,k,e,p⟩=>?_) L
 subst e;cases A;exact Pd ⟨j,m,p⟩
noncomputable def AJ(r J:R2)(ta tb tc:TE):TE:=λa H Q=>ta a H λx b=>tb a b λy d=>r x y d λz I=>∃k,z=.bl k/\
 (if k=dj then tc a I λe O=>J y e O Q else Q (.bl dt) I)
theorem mH(ho:l9 X (sh op) r)(J:l9 X (sh Pz) r')(L:PE X a ta)(Z:PE X b tb)(hc:PE X c tc)
 (hm:lastMarks [op,Pz] [b,c]=dt:=by with_unfolding_all rfl):PE X (.Compare a [op,Pz] [b,c] pos) (AJ r r' ta tb tc):=by
 intro f s g H Q I h;refine Compare_chain (f7 (L f s g H _ I h) λv F ⟨x,j,n,B,t⟩=>chain_link (f7 (Z f F g j _ n t) λu G ⟨y,l,o,i,w⟩=>
  f7 (ho f G g l x y v u _ o B i w) λd K ⟨z,O,U,C,k,e,Y⟩=>?_)) hm
 subst e;cases C;refine Pd ?_;cases k with
 |false=>exact ite_ff ⟨.bl dt,O,U,rfl,Y⟩
 |true=>exact ite_tt<|chain_last<|f7 (hc f K g O _ U Y) λN M ⟨P,m,p,E,A⟩=>J f M g m y P u N Q p i E A
noncomputable def Lp(K:MC)(x:V)(H:Hp)(k:Bool):Prop:=
 match x with
 |.el=>k=dt
 |.bl b=>k=b
 |.int i=>k=(i != 0)
 |.str y=>y.length<=fy/\k=((y.length:Int) != 0)
 |.O2 y=>y.size<=fy/\k=((y.size:Int) != 0)
 |.ref p=>(∃d,hM K H p d/\k = !d.isEmpty)\/(∃d,h8 K H p d/\k = !d.isEmpty)\/∃a,H p=da (.dK a)/\k = !a.isEmpty
 |_=>False
theorem cL(r:KV mu vs):(!vs.isEmpty) = !mu.isEmpty:=by cases r<;>rfl
theorem XF(r:f6 xs its):(!its.toArray.isEmpty) = !xs.isEmpty:=by cases r<;>simp
theorem J0:(fy:Nat)<2^63:=by rw[RN];decide
theorem AC:Mn X (λx H Q=>∃k,Lp X.K x H k/\Q k H):=by
 intro o s C H x v Q I U h;obtain⟨k,e,q⟩:=h;have A:=J0;have B:fy=16777216:=RN;cases x with
 |el=>
  cases U;have O:k=dt:=e;subst O;exact truthy_none ⟨H,I,q⟩
 |bl b=>
  cases U;have O:k=b:=e;subst O;exact Pd ⟨H,I,q⟩
 |int i=>
  obtain⟨t,rfl⟩:=U;have O:k=(i != 0):=e;subst O;exact PySem.P.truthy_int ⟨H,I,q⟩
 |str y=>
  obtain⟨t,rfl⟩:=U;obtain⟨z,O⟩:y.length<=fy/\k=((y.length:Int) != 0):=e;subst O;exact PySem.P.truthy_str ⋯ ⟨H,I.tok _,q⟩
 |O2 y=>
  obtain⟨t,rfl⟩:=U;obtain⟨z,O⟩:y.size<=fy/\k=((y.size:Int) != 0):=e;subst O;exact PySem.W.truthy_bytes ⋯ ⟨H,I.tok _,q⟩
 | ref p=>
  cases U;have O:(∃d,hM X.K H p d/\k = !d.isEmpty)\/(∃d,h8 X.K H p d/\k = !d.isEmpty)\/∃a,H p=da (.dK a)/\k = !a.isEmpty:=e;rcases O with⟨d,f,O⟩|⟨d,f,O⟩|⟨a,f,O⟩
  ·subst O
   obtain⟨j,r,Y,n⟩:=I.list f;have l:=r.length;exact wpAny_truthy_list Y.isList (by simp only[MP];omega) ⟨H,I.tok _,by rw[XF r];exact q⟩
  ·subst O
   obtain⟨j,r,Y,n⟩:=I.tuple f;have l:=r.length;exact truthy_tuple Y (by simp only[MP];omega) ⟨H,I.tok _,by rw[XF r];exact q⟩
  ·subst O
   obtain⟨n,u,g,r,m⟩:a.length<=fy/\(p==DR)=dt/\∃g,KV a g/\s.heap.DictOf (xN X.prog X.w) p g:=I.ft p _ f;have l:a.length=g.length:=Paired.length r;exact wpAny_truthy_dict u m ⋯ ⟨H,I.tok _,by rw[cL r];exact q⟩
 |_=>exact(show False from e).elim
theorem mh(J:PE X a ta)(U:∀O,F3 a X.env O=(do let v<-O;M5 a.pos;holding [v] (truthy v))):
 PT X a (λz H Q=>ta z H λx H'=>∃k,Lp X.K x H' k/\Q k H'):=by
 intro b s z H Q I h;exact isTrue_plain (f7 (J b s z H _ I h) λv g ⟨x,d,Y,f,e⟩=>AC b g z d x v Q Y f e)<|U _
theorem bY:l9 X (xr .Add) (λx y H Q=>∃i j,x=.str i/\y=.str j/\i.length+j.length<=fy/\Q (.str<|i++j) H):=by intro a s f H x y v u Q I O U h;obtain⟨i,j,rfl,rfl,b,q⟩:=h;obtain⟨t,rfl⟩:=O;obtain⟨d,rfl⟩:=U;exact add_str (λd e=>⟨.str<|i++j,H,I.tok _,⟨_,rfl⟩,q⟩) b
theorem yA(r:f6 [x] us):∃u,us=[u]/\RelV x u:=by
 cases r with
 |cons I a=>cases a;exact⟨_,rfl,I⟩
theorem lD(r:f6 [x,y] us):∃u w',us=[u,w']/\RelV x u/\RelV y w':=by
 cases r with
 |cons I a=>
  cases a with
  |cons O U=>cases U;exact⟨_,_,rfl,I,O⟩
theorem iC(U:X.calm=dj):QR X (.builtin "max") (λxs H Q=>∃i j,xs=[.int i,.int j]/\Q (.int (if j>i then j else i)) H):=by
 intro a s l H xs f Q I r h;obtain⟨i,j,rfl,q⟩:=h;obtain⟨u,g,rfl,⟨t,rfl⟩,⟨d,rfl⟩⟩:=lD r;refine max_two_ints (I.ok.hd U) λb e k=>⟨_,H,I.kept k,?_,q⟩;by_cases O:j>i
 ·rw[UJ O,UJ O];exact⟨_,rfl⟩
 ·rw[UY O,UY O];exact⟨_,rfl⟩
theorem iB(U:X.calm=dj):QR X (.builtin "min") (λxs H Q=>∃i j,xs=[.int i,.int j]/\Q (.int (if j<i then j else i)) H):=by
 intro a s l H xs f Q I r h;obtain⟨i,j,rfl,q⟩:=h;obtain⟨u,g,rfl,⟨t,rfl⟩,⟨d,rfl⟩⟩:=lD r;refine min_two_ints (I.ok.hd U) λb e k=>⟨_,H,I.kept k,?_,q⟩;by_cases O:j<i
 ·rw[UJ O,UJ O];exact⟨_,rfl⟩
 ·rw[UY O,UY O];exact⟨_,rfl⟩
theorem iD:QR X (.type "int") (λxs H Q=>(∃i,xs=[.int i]/\Q (.int i) H)\/∃k,xs=[.bl k]/\Q (.int (if k then 1 else 0)) H):=by
 intro a s d H xs b Q I r h;rcases h with⟨i,rfl,q⟩|⟨k,rfl,q⟩
 ·obtain⟨u,rfl,t,rfl⟩:=yA r
  exact call_int_int ⟨.int i,H,I,⟨_,rfl⟩,q⟩
 ·obtain⟨u,rfl,O⟩:=yA r
  cases O;exact call_int_bool ⟨.int<|if k then 1 else 0,H,I.tok _,⟨_,rfl⟩,q⟩
end
structure a'(h:fh)(x dx C:dy)(mA:UZ):Prop where
 obj:h.get? x=da (PySem.W.instObj C dx)
 ns:h.Ns1 dx mA
 ne:dx≠x
theorem gh{h:fh}{J:dy}{L:UZ}(n:h.Ns1 J L):∃od,h.get? J=da od/\∀name,PySem.W.lookIn name od=da (L name):=by
 obtain⟨o,b,i,I,f,O,_,g⟩:=n;refine⟨o,I,λname=>?_⟩;have e:=g name;unfold nsFind findBy at e;rw[<-Array.find?_toList]at e;unfold PySem.W.lookIn;rw[f];dsimp only;split
 ·rename_i y q
  rw[q]at e;exact congrArg da e
 ·rename_i q
  rw[q]at e;have a:b.toList.any (·.refKey)=dt:=by rw[List.any_eq_false];intro y U;obtain⟨z,t,Y⟩:=O y<|Array.mem_toList_iff.mp U;simp[DictEntry.refKey,Y]
  have d:¬b.toList.any (·.refKey)=dj:=by rw[a];exact Nd
  rw[UY d];exact congrArg da e
theorem a'.look(I:a' h x dx C mA):∃od,PySem.W.InstAt h x (PySem.W.instObj C dx) C (da od)/\∀name,PySem.W.lookIn name od=da (mA name):=
 let ⟨od,O,U⟩:=gh I.ns
 ⟨od,⟨I.obj,rfl,rfl,O⟩,U⟩
noncomputable def GF(f:Str)(v:V):List (Str×V)->List (Str×V)
 |[]=>[(f,v)]
 |(g,x)::r=>if g=f then (g,v)::r else (g,x)::GF f v r
theorem B3.some_of(r:B3 (da v) o):∃u,o=da u/\RelV v u:=by
 cases o with
 |none=>exact(show False from r).elim
 |some u=>exact⟨u,rfl,r⟩
section
variable{P:ir}{w:g8}{H H':Hp}{h h':fh}{a C dx:dy}{fs r?:List (Str×V)}
theorem uo(J:md P w H h)(e:H a=da (.ins C dx fs)):∃mA,a' h a dx C mA/\(∀f,B3 (fs.lookup f)<|mA f)/\PySem.Within mA (fs.map (·.1))/\fs.length<=1000/\H dx=da (.own a):=by obtain⟨d,z,b,I,mA,n,r,q⟩:=(show l8 P w H h a (.ins C dx fs)from J a _ e);exact⟨mA,⟨I,n,b⟩,r,q,z,d⟩
end
structure R4(K:MC)(C:dy):Prop where
 pg:TX K C Str.empty=dj
 hd:PySem.W.hasDictIn K C=dj
 po:PySem.W.plainOver K C=dj
 zac:PR K (.ref C) "__setattr__" = da (da (.builtin "object.__setattr__"))
theorem R4.get{K:MC}{C:dy}(c:R4 K C)(f:Str):TX K C f=dj:=c.pg
section
variable{X:Cx}{pins:UQ}{σ:St}{H:Hp}{s:ej}{A:lp}{E:EQ}{Q:EQ}{c:d9}{b:Bool}
inductive xg(K:MC)(H:Hp):V->d9->Prop where
 |el:xg K H .el (.type "NoneType")
 |bl (x:Bool):xg K H (.bl x) (.type "bool")
 |int (i:Int):xg K H (.int i) (.type "int")
 |str (x:Str):xg K H (.str x) (.type "str")
 |L6 (x:UInt64):xg K H (.L6 x) (.type "float")
 |lst {a:dy} {xs:List V} (e:H a=da (.lst xs)):xg K H (.ref a) (.type "list")
 |rb {a:dy} {o:l7} {xs:List V} (e:H a=da (.rb o (.lst xs))):xg K H (.ref a) (.type "list")
 |tup {a:dy} {xs:List V} (e:H a=da (.tup xs)):xg K H (.ref a) (.type "tuple")
 |dK {a:dy} {mu:List (Key×V)} (e:H a=da (.dK mu)):xg K H (.ref a) (.type "dict")
 |dT {a:dy} {mu:List (List Key×V)} (e:H a=da (.dT mu)):xg K H (.ref a) (.type "dict")
 |ins {a C dx:dy} {fs:List (Str×V)} (e:H a=da (.ins C dx fs)) (cl:R4 K C) (ha:PR K (.ref C) "__class__" = da (da (.builtin "object.__class__")))
  (hn:TF K (.builtin "object.__class__") "__get__" = da (da (.builtin "getset_descriptor.__get__"))) (X?:PySem.W.takesIn K (.builtin "object.__class__")=da dj)
  (hm:OS K C (.type "object")=da dj):xg K H (.ref a) (.ref C)
theorem gD(I:Inv X pins σ H s)(U:RelV x u)(ty:xg X.K H x t)(e:Om X.K t c=da b)(h:∀Z,Q (.bool b) {s with toks:=Z}):
 wpAny (eF X.prog X.w) A (call (.builtin "isinstance") [u,c]) Q E s:=by
 cases ty with
 |el=>cases (show u=NY from U);exact Nx PySem.W.kitx_none I.m3 Pn e (λz=>nomatch z) h
 |bl y=>cases (show u=Value.bool y from U);exact Nx PySem.W.kitx_bool I.m3 Pn e (λz=>nomatch z) h
 |int i=>obtain⟨t,q⟩:=(show ∃t,u=TC i t from U);cases q;exact Nx PySem.W.kitx_int I.m3 Pn e (λz=>nomatch z) h
 |str y=>obtain⟨t,q⟩:=(show ∃t,u=Tz y t from U);cases q;exact Nx PySem.W.kitx_str I.m3 Pn e (λz=>nomatch z) h
 |L6 y=>obtain⟨t,q⟩:=(show ∃t,u=Value.float y t from U);cases q;exact Nx PySem.W.kitx_float I.m3 Pn e (λz=>nomatch z) h
 |@lst a g Y=>
  cases (show u=Nw a from U);obtain⟨_,_,n,_,d⟩:=(show l8 X.prog X.w H s.heap a (.lst g)from I.ft a _ Y);exact Nx TJ I.m3 ⟨_,d,rfl⟩ e (λz=>nomatch z) h
 |@rb a L g Y=>
  cases (show u=Nw a from U);obtain⟨_,_,_,n,_,d⟩:=(show l8 X.prog X.w H s.heap a (.rb L<|.lst g)from I.ft a _ Y);exact Nx TJ I.m3 ⟨_,d,rfl⟩ e (λz=>nomatch z) h
 |@tup a g Y=>
  cases (show u=Nw a from U);obtain⟨_,_,_,p⟩:=(show l8 X.prog X.w H s.heap a (.tup g)from I.ft a _ Y);obtain⟨o,d,j,_⟩:=p;exact Nx PySem.W.kitx_tuple I.m3 ⟨o,d,(Prod.mk.inj j).1⟩ e (λz=>nomatch z) h
 |@dK a f Y=>
  cases (show u=Nw a from U);obtain⟨_,_,R,_,p⟩:=(show l8 X.prog X.w H s.heap a (.dK f)from I.ft a _ Y);obtain⟨o,r,m,d,j,_⟩:=p;exact Nx Sj I.m3 ⟨o,d,j.1⟩ e (λz=>nomatch z) h
 |@dT a f Y=>
  cases (show u=Nw a from U);obtain⟨_,_,g,_,o,r,m,d,j,_⟩:=(show l8 X.prog X.w H s.heap a (.dT f)from I.ft a _ Y);exact Nx Sj I.m3 ⟨o,d,j.1⟩ e (λz=>nomatch z) h
 |@ins a C M fs Y l B G k F=>
  cases (show u=Nw a from U);obtain⟨N,O,_⟩:=uo I.ft Y;obtain⟨P,J,_⟩:=O.look;exact Nx (PySem.W.kitx_own (l.get _) l.hd B G k F) I.m3 J e (λz=>nomatch z) h
end
structure pf(k:Nat)(A:lp):Prop where
 hd:A.handled=none
 dp:A.depth+3*k+5<H?
 un:A.units+16*k+200<Dg
theorem pf.mono(r:pf k A)(h:j<=k):pf j A:=⟨r.hd,by have:=r.dp;omega,by have:=r.un;omega⟩
theorem pf.deeper(r:pf (k+1) A)(env:ml):pf k (A.deeper env):=
 ⟨r.hd,by have:=r.dp;show A.depth+1+3*k+5<_;omega,by have:=r.un;show A.units+3+16*k+200<_;omega⟩
theorem pf.in1(r:pf (k+1) A):pf k A.in1:=
 ⟨r.hd,by have:=r.dp;show A.depth+3*k+5<_;omega,by have:=r.un;show A.units+1+16*k+200<_;omega⟩
theorem pf.depth(r:pf k A):A.depth<H?:=by have:=r.dp;omega
def IA:TA:=λ_ H Q=>Q [] H
def AI(z:TE)(I:TA):TA:=λa H Q=>z a H λx b=>I a b λe d=>Q (x::e) d
section
variable{X:Cx}{e:eK}{es:List eK}{te:TE}{t:TA}{pos:gv}
theorem qd:PA X [] IA:=λ_ _ _ _ H Q I h=>PM ⟨[],H,I,.nil,h⟩
theorem jr(z:PE X e te)(O:PA X es t)(hs:fA (e::es) X.env=(dt,eA e X.env)::fA es X.env:=by rfl):PA X (e::es) (AI te t):=by intro pos a s b H Q I h;rw[hs];show wpAny _ _ (DP ((dt,eA e X.env)::p3 pos (fA es X.env))) _ _ s;refine OG<|f7 (z a s b H _ I h) λu m U=>?_;obtain⟨x,d,Y,k,i⟩:=U;exact f7 (O pos a m b d _ Y i) λp o ⟨n,f,g,l,j⟩=>⟨x::n,f,g,.cons k l,j⟩
noncomputable def LA(t:TA):TE:=λd H Q=>t d H λb a=>b.length<=fy/\∀p,a p=none->Q (.ref p) (upd a p<|.tup b)
noncomputable def LF(t:TA):TE:=λd H Q=>t d H λb a=>b.length<=fy/\∀p,a p=none->Q (.ref p) (upd a p<|.lst b)
theorem BG(h:PA X es t):PE X (.Tuple es x1 pos) (LA t):=by intro a s k H Q I U;refine wpAny_Tuple_spliced<|f7 (h pos a s k H _ I U) λi d ⟨j,f,O,r,z,q⟩=>⟨by rw[<-r.length];exact z,?_⟩;have g:f d.heap.objs.size=none:=O.ft.fresh<|MM _;refine⟨.ref d.heap.objs.size,upd f d.heap.objs.size<|.tup j,O.laid (t':=d.toks) (λb u e=>MF _ e) (MM _) ?_,rfl,q _ g⟩;exact⟨z,i,r,⟨_,MU _ rfl,rfl,_,rfl⟩⟩
theorem BL(h:PA X es t):PE X (.List es pos) (LF t):=by intro a s k H Q I U;refine wpAny_List_spliced<|f7 (h pos a s k H _ I U) λi d ⟨j,f,O,r,z,q⟩=>⟨by rw[<-r.length];exact z,?_⟩;have g:f d.heap.objs.size=none:=O.ft.fresh<|MM _;refine⟨.ref d.heap.objs.size,upd f d.heap.objs.size<|.lst j,O.laid (t':=d.toks) (λb u e=>MF _ e) (MM _) ?_,rfl,q _ g⟩;exact⟨z,i,0,r,MU _ rfl⟩
end
abbrev Sp:=List V->Hp->VK->XK->Prop
abbrev wo:=List ml->Hp->ej->XK->d9->ej->Prop
structure Dt(P:ir)(w:g8)(K:MC)(mg:UZ)(base:fh)(A:lp)(outer:List ml)(s:ej)(H:Hp):Prop where
 frames:A.frames=da outer
 mod:Mod K mg base
 bs:∀b o,base.get? b=da o->s.heap.get? b=da o/\H b=none
 B7:base.objs.size<=s.heap.objs.size
 q7:s.heap.FunFrames base outer
 B9:∀b∈n5 outer,H b=none
 ft:md P w H s.heap
 bare:Dp s.gens
noncomputable def CE(outer:List ml)(P:ir)(w:g8)(H:Hp)(s:ej)(Q:VK)(u:d9)(s':ej):Prop:=
 ∃v a,s'.os=s.os/\Dp s'.gens/\Un (n5 outer) [] H a s.heap s'.heap/\md P w a s'.heap/\RelV v u/\Q v a
noncomputable def CR(CX:wo)(outer:List ml)(P:ir)(w:g8)(H:Hp)(s:ej)(Q:VK)(E:XK)(r:Result)(s':ej):Prop:=
 match r with
 |.ok (.ret u)=>CE outer P w H s Q u s'
 |.ok _=>False
 |.error e=>CX outer H s E e s'
structure r9(P:ir)(w:g8)(K:MC)(mg:UZ)(base:fh)(CX:wo)(k:Nat)(f:dy)(fd:sa)(ps:List Str)(sp:Sp):Prop where
 len:∀vs H Q E,sp vs H Q E->vs.length=ps.length
 run:∀(A:lp) (outer:List ml) (s:ej) (H:Hp) (args:Args) (us:List d9) (vs:List V) (Q:VK) (E:XK),pf k A->Dt P w K mg base A outer s H->R0 s fd args (ps.zip us)->f6 vs us->sp vs H Q E->
  codeAny (eF P w) A (.call (.ref f) args) (CR CX outer P w H s Q E) s
theorem Dt.in1{P:ir}{w:g8}{K:MC}{z:UZ}{base:fh}{A:lp}{outer:List ml}{s:ej}{H:Hp}(e:Dt P w K z base A outer s H):
 Dt P w K z base A.in1 outer s H:=⟨e.frames,e.mod,e.bs,e.B7,e.q7,e.B9,e.ft,e.bare⟩
section
variable{X:Cx}{pins:UQ}{σ:St}{H:Hp}{s s':ej}
theorem Inv.Dh(I:Inv X pins σ H s):Dt X.prog X.w X.K X.mg X.base X.A X.stack s H:=
 ⟨I.ok.frames,I.ok.mod,I.bs,NJ I.ok.B7 I.sz,I.stack,I.M6,I.ft,I.bare⟩
theorem Inv.after(I:Inv X pins σ H s)(h:CE X.stack X.prog X.w H s Q u s'):EP X pins σ Q u s':=by obtain⟨v,f,os,a,un,e,r,q⟩:=h;obtain⟨O,g,d,t,U⟩:=s';obtain rfl:U=s.os:=os;exact⟨v,f,I.call (h':=O) (g':=g) (d':=d) (t':=t) (ch:=[]) un e a<|λb z=>absurd z ⋯,r,q⟩
end
def rW(sp:Sp)(z:List V)(E:XK)(t:TA):TE:=λd H Q=>t d H λb a=>sp (b++z) a Q E
noncomputable def Binds(K:MC)(z:sa)(ps:List Str)(ds:List d9):Prop:=
 ∀(s:ej) (a:List d9),K.In s.heap->(a++ds).length=ps.length->R0 s z ⟨a,[]⟩ (ps.zip<|a++ds)
theorem Binds.all{K:MC}{z:sa}{ps:List Str}(h:∀us:List d9,us.length=ps.length->R_ z ⟨us,[]⟩=pure (ps.zip us)):Binds K z ps []:=λs us _ I=>by rw[Rq]at I ⊢;exact .of_eq<|h us I
noncomputable def iQ(CX:wo)(X:Cx)(E:XK):Prop:=∀(a:UQ) (d:St) (H:Hp) (s:ej) (e:d9) (b:ej),Inv X a d H s->CX X.stack H s E e b->X.xe e b
section
variable{X:Cx}{CX:wo}{k:Nat}{f C:dy}{fd:sa}{ps:List Str}{sp:Sp}{L3:List V}{ds:List d9}{E:XK}{x m:Str}{p pos apos:gv}{e o:eK}{es:List eK}{ta:TE}{t:TA}
theorem Bf(F:r9 X.prog X.w X.K X.mg X.base CX k f fd ps sp)(U:pf k X.A)(Y:Binds X.K fd ps ds)(z:f6 L3 ds)(hx:iQ CX X E)
 (I:Inv X pins σ H s) (r:f6 vs us) (h:sp (vs++L3) H Q E):wpAny (eF X.prog X.w) X.A (call (.ref f) us) (EP X pins σ Q) X.xe s:=by
 have a:f6 (vs++L3) (us++ds):=r.append z;have d:(us++ds).length=ps.length:=by rw[<-a.length];exact F.len _ _ _ _ h
 refine Ux<|SJ (F.run X.A X.stack s H ⟨us,[]⟩ (us++ds) (vs++L3) Q E U I.Dh (Y s us I.m3 d) a h) λr g O=>?_;cases r with
 |error e=>exact hx pins σ H s e g I O
 |ok b=>
  cases b with
  |ret u=>exact I.after O
  |next=>exact Pk O
  |brk=>exact Pk O
  |cont=>exact Pk O
theorem fJ(F:r9 X.prog X.w X.K X.mg X.base CX k f fd ps sp)(U:pf k X.A)(Y:Gl X x)(hm:X.mg x=da (.ref f))(hk:Rx X.K (.ref f)=dj)(Z:Binds X.K fd ps ds)(hd:f6 L3 ds)(hx:iQ CX X E)
 (L:PA X (e::es) t) (z:(x==("__debug__" : Str))=dt:=by decide) (he:fA (e::es) X.env=(dt,eA e X.env)::fA es X.env:=by rfl) (J:(p3 pos (fA es X.env)).any (·.1)=dt:=by rfl):
 PE X (.Call (.Name x p) (e::es) [] pos) (rW sp L3 E t):=by
 intro a s b H Q I h;refine OJ<|v7 I Y hm ?_ z;refine PySem.W.callWith_K (h₀:=X.base) I.ok.mod.L9 hk (f7 (L pos a s b H _ I h) λi g ⟨j,d,O,r,q⟩=>⟨O.m3,?_⟩) he J;exact Bf F U Z hd hx O r q
end
structure N3(N P:List Str)(sc:h7):Prop where
 kind:sc.kind=.function
 co:sc.isCoroutine=dt
 gen:sc.isGenerator=dt
 nd:N.Nodup
 pre:N.take P.length=P
 par:∀x∈P,sc.names.lookup x=da .local\/sc.names.lookup x=da .cell
 B?:∀y∈sc.names,y.2 ≠ .free
theorem Vw{kindOf:Str->Option A9}{x:Str}:∀{I:List (Str×d9)} {m:UZ},(∀v,(x,v)∉I)->E8 kindOf I m x=m x
 |[],_,_=>rfl
 | (n,v)::r,m,h=>by
  unfold E8;rw[Vw λw a=>h w (Ng _ a)];split
  ·have:x≠n:=by rintro rfl;exact h v Nc
   simp[this]
  ·rfl
theorem Vy{kindOf:Str->Option A9}{x:Str}:∀{I:List (Str×d9)} {m:UZ},(∀v,(x,v)∉I)->E7 kindOf I m x=m x
 |[],_,_=>rfl
 | (n,v)::r,m,h=>by
  unfold E7;rw[Vy λw a=>h w (Ng _ a)];split
  ·rfl
  ·have:x≠n:=by rintro rfl;exact h v Nc
   simp[this]
theorem Vx{kindOf:Str->Option A9}{x:Str}{v:d9}:∀{P:List Str} {vs:List d9} {i:Nat} {m:UZ},P.Nodup->P[i]? = da x->vs[i]? = da v->kindOf x=da .local->
 E8 kindOf (P.zip vs) m x=da v
 |[],_,_,_,_,h,_,_=>by simp at h
 |_::_,[],_,_,_,_,h,_=>by simp at h
 |p::P,w::vs,0,m,nd,h1,h2,hk=>by simp at h1 h2;subst h1;subst h2;show E8 kindOf ((p,w)::P.zip vs) m p=_;unfold E8;rw[Vw λv I=>(Rm.mp nd).1 (List.of_mem_zip I).1,UJ hk];simp
 |p::P,w::vs,i+1,m,nd,h1,h2,hk=>by show E8 kindOf ((p,w)::P.zip vs) m x=_;unfold E8;exact Vx (i:=i) (Rm.mp nd).2 (by simpa using h1) (by simpa using h2) hk
theorem Vz{kindOf:Str->Option A9}{x:Str}{v:d9}:∀{P:List Str} {vs:List d9} {i:Nat} {m:UZ},P.Nodup->P[i]? = da x->vs[i]? = da v->kindOf x≠da .local->
 E7 kindOf (P.zip vs) m x=da v
 |[],_,_,_,_,h,_,_=>by simp at h
 |_::_,[],_,_,_,_,h,_=>by simp at h
 |p::P,w::vs,0,m,nd,h1,h2,hk=>by simp at h1 h2;subst h1;subst h2;show E7 kindOf ((p,w)::P.zip vs) m p=_;unfold E7;rw[Vy λv I=>(Rm.mp nd).1 (List.of_mem_zip I).1,UY hk];simp
 |p::P,w::vs,i+1,m,nd,h1,h2,hk=>by show E7 kindOf ((p,w)::P.zip vs) m x=_;unfold E7;exact Vz (i:=i) (Rm.mp nd).2 (by simpa using h1) (by simpa using h2) hk
def QW(N:List Str)(vs:List V):St:=vs.map da++MI (N.length-vs.length) none
noncomputable def Vr(CX:wo)(P:ir)(w:g8)(K:MC)(mg:UZ)(base:fh)(N:List Str)(qual:Str)(scope:h7)(f:dy)(cd:d9)(A:lp)(outer:List ml)(s:ej)(H:Hp)(E:XK):Cx where
 prog:=P
 w:=w
 K:=K
 mg:=mg
 base:=base
 A:=A.deeper<|envOfC qual scope s.heap.objs.size f cd
 N:=N
 i6:=s
 DV:=H
 env:=S8 qual scope s.heap.objs.size f cd
 outer:=outer
 stack:=S8 qual scope s.heap.objs.size f cd::outer
 ex:=[]
 calm:=dj
 fn:=λ_=>dj
 pn:=[]
 xe:=λe s'=>wpAny (eF P w) (A.deeper<|envOfC qual scope s.heap.objs.size f cd) (F5 (S8 qual scope s.heap.objs.size f cd) e) (λ_ I=>CX outer H s E e I) (λO I=>CX outer H s E O I) s'
theorem aX{z:h7}{n:Nat}{x:Str}(h:z.names.lookup x=da .cell):∃c,(vt n z.names []).lookup x=da c:=by have q:=Rl z.names n [] (.inl h);exact Oa.mp q
theorem gG{CX:wo}{P:ir}{w:g8}{K:MC}{L:UZ}{base:fh}{N ps:List Str}{qual:Str}{scope:h7}{f:dy}{J:d9}{A:lp}{outer:List ml}{s Z:ej}{H:Hp}{E:XK}{us:List d9}{vs:List V}
 (S:N3 N ps scope) (hd:A.handled=none) (I:Dt P w K L base A outer s H) (hl:vs.length=ps.length) (r:f6 vs us)
 (x:InCallC s s.heap.objs.size (E8 (S8 qual scope s.heap.objs.size f J).kindOf (ps.zip us) λ_=>none) (vt (s.heap.objs.size+1) scope.names []) (E7 (S8 qual scope s.heap.objs.size f J).kindOf (ps.zip us) λ_=>none) Z):
 Inv (Vr CX P w K L base N qual scope f J A outer s H E) [] (QW N vs) H Z:=by
 have C:ps.length<=N.length:=by have:=congrArg Ts S.pre;rw[Rc]at this;omega
 obtain⟨g,G,rfl,m⟩:=x.done;have Y:∀b:dy,b∉(Vr CX P w K L base N qual scope f J A outer s H E).ex:=λb z=>absurd (show b∈([]:List dy)from z) ⋯;refine⟨⟨I.mod,S.kind,rfl,rfl,MM _,λy z c g d=>?_,λy O=>?_,λy c _ h=>?_,λ_=>hd,Around.frames_deeper I.frames,.inr ⟨rfl,rfl⟩,λb z=>absurd z<|Y b,I.bs,I.B7,λb _ _=>Y b,λb z=>absurd z<|Y b,I.q7,I.B9⟩,
  rfl,I.bare,Un.kept m,⟨_,x.toInCall.ns,λi y v g d F=>?_⟩,λy c h=>⟨_,x.cell y c h⟩,I.ft.fresh<|MM _,λy c h=>?_,λp U=>absurd (show p∈([]:UQ)from U) ⋯,I.ft.kept m,?_⟩
 ·exact name_of_addr x.apart (Rb g)<|Rb d
 ·have O:scope.names.lookup y=da .cell\/scope.names.lookup y=da .free:=O
  rcases O with O|O
  ·exact aX O
  ·exact absurd rfl<|S.B? _<|Rb O
 ·exact Tc<|x.above y c<|Rb h
 ·have j:i<vs.length:=by
   unfold QW at d;by_cases j:i<vs.length
   ·exact j
   ·rw[Ow (by simpa using j)]at d
    rw[Ro]at d;split at d<;>cases d
  have t:vs[i]? = da v:=by
   unfold QW at d;rw[OA (by simpa using j),NS]at d;cases e:vs[i]? with
   |none=>rw[e]at d;cases d
   |some a=>rw[e]at d;cases d;rfl
  obtain⟨u,o,B⟩:=r.get t;have U:ps[i]? = da y:=by rw[<-S.pre,List.getElem?_take_of_lt ⋯];exact g
  have l:ps.Nodup:=by rw[<-S.pre];exact S.nd.sublist<|List.take_sublist _ _
  refine⟨u,B,?_⟩;rcases S.par y (Th U)with k|k
  ·exact .inl ⟨k,Vx l U o k⟩
  ·obtain⟨c,e⟩:=aX (n:=s.heap.objs.size+1) k
   refine .inr ⟨.inl k,c,e,?_⟩;have q:=x.cell y c e;rw[Vz l U o (by show scope.names.lookup y≠_;rw[k];decide)]at q;exact q
 ·exact I.ft.fresh<|Tc<|x.above y c<|Rb h
 ·unfold QW
  show _=N.length;rw[NC,Nf,List.length_replicate];omega
theorem Ea{CX:wo}{P:ir}{w:g8}{K:MC}{mg:UZ}{base:fh}{k:Nat}{f:dy}{name qual:Str}{a1:Arguments}{L:List i7}{scope:h7}{dV kV Z pm z ct oc:d9}{an od:Option dy}
 {UM:Array (Option d9)} {N ps:List Str} {sp:Sp} (lk:K.lookup f=da ⟨oc,od,.func<|Rz name qual a1 L scope dV kV Z pm an z ct,UM⟩) (a6:SW K z qual=dj) (S:N3 N ps scope)
 (len:∀vs H Q E,sp vs H Q E->vs.length=ps.length)
 (a7:∀(A:lp) (outer:List ml) (s:ej) (H:Hp) (vs:List V) (Q:VK) (E:XK),pf k (A.deeper<|envOfC qual scope s.heap.objs.size f z)->sp vs H Q E->
   ∃t,u4 (Vr CX P w K mg base N qual scope f z A outer s H E) L t/\t {nx:=λ_ H'=>Q .el H',rt:=Q} (QW N vs) H):
 r9 P w K mg base CX (k+1) f (Rz name qual a1 L scope dV kV Z pm an z ct) ps sp:=by
 refine⟨len,λA outer s H l X vs Q E U O hb r i=>?_⟩;have G:=len _ _ _ _ i;have h:K.In s.heap:=O.mod.L9.keeps λb o e=>(O.bs b o e).1;have lim:s.heap.NoLimit:=O.mod.nolimit.keeps λb o e=>(O.bs b o e).1;have p:∀y∈ps.zip X,scope.names.lookup y.1=da .local\/(scope.names.lookup y.1=da .cell/\((vt (s.heap.objs.size+1) scope.names []).lookup y.1).isSome=dj):=λ⟨n,v⟩ T=>by
  rcases S.par n (List.of_mem_zip T).1 with q|q
  ·exact .inl q
  ·exact .inr ⟨q,Rl _ _ _<|.inl q⟩
 refine codeAny_call_function U.depth (h _ _ lk) rfl S.co S.gen rfl (PySem.W.codeRec_of h a6)<|hb _ _ _ _ ?_;refine wpAny_newFunctionEnv_cells S.kind p λB F m x=>?_;subst F;refine⟨lim.keeps x.toInCall.keep,codeAny_func ?_⟩;obtain⟨t,R,M⟩:=a7 A outer s H vs Q E (U.deeper _) i;have I:Inv (Vr CX P w K mg base N qual scope f z A outer s H E) [] (QW N vs) H m:=gG S U.hd O G r x;refine Nv (R [] m (QW N vs) H _ I M) (λC g d=>?_) λe g d=>d;have j:∀{a:St} {H':Hp} {v:V} {u:d9},Inv (Vr CX P w K mg base N qual scope f z A outer s H E) [] a H' g->RelV v u->Q v H'->CE outer P w H s Q u g:=
  λ{a H' v u} J Y q=>⟨v,H',J.os,J.bare,J.base,J.ft,Y,q⟩
 cases C with
 |ret u=>
  obtain⟨v,a,H',J,Y,q⟩:=d;exact j J Y q
 |next=>
  obtain⟨a,H',J,q⟩:=d;exact j (v:=V.el) (u:=NY) J rfl q
 |brk=>
  obtain⟨_,_,_,q⟩:=d;exact Pk q
 |cont=>
  obtain⟨_,_,_,q⟩:=d;exact Pk q
section
variable{X:Cx}{x:Str}{p pos:gv}{e:eK}{es:List eK}{t:TA}{id T:String}{r:List V->Hp->VK->Prop}
def _h(r:List V->Hp->VK->Prop)(t:TA):TE:=λd H Q=>t d H λb a=>r b a Q
theorem vB(O:QR X (.builtin id) r)(U:Gl X x)(hm:X.mg x=none)(Y:De x=da (.builtin id))(L:PA X (e::es) t)(hn:x ≠ "__name__":=by decide)(z:(x==("__debug__" : Str))=dt:=by decide)
 (Z:fA (e::es) X.env=(dt,eA e X.env)::fA es X.env:=by rfl) (J:(p3 pos<|starEach es X.env).any (·.1)=dt:=by rfl):PE X (.Call (.Name x p) (e::es) [] pos) (_h r t):=by
 intro a s b H Q I h;refine OJ<|xX I U hm Y ?_ hn z;exact Ph (f7 (L pos a s b H _ I h) λk j ⟨l,d,f,i,g⟩=>O a j b d l k Q f i g) Z J
theorem JO(O:QR X (.type T) r)(U:Gl X x)(hm:X.mg x=none)(Y:De x=da (.type T))(L:PA X (e::es) t)(hn:x ≠ "__name__":=by decide)(z:(x==("__debug__" : Str))=dt:=by decide)
 (Z:fA (e::es) X.env=(dt,eA e X.env)::fA es X.env:=by rfl) (J:(p3 pos<|starEach es X.env).any (·.1)=dt:=by rfl):PE X (.Call (.Name x p) (e::es) [] pos) (_h r t):=by
 intro a s b H Q I h;refine OJ<|xX I U hm Y ?_ hn z;exact ND (f7 (L pos a s b H _ I h) λk j ⟨l,d,f,i,g⟩=>O a j b d l k Q f i g) Z J
end
end L2
namespace HT
open PySem PyProof.Rows
section
variable{prog:ir}{w:g8}{A:lp}{E:EQ}{s:ej}
theorem HB(Z:N4 s.heap t vs.toArray)(L:N4 s.heap b ws.toArray)(U:vs ≠ [])
 (z:ws=[]->Q (.ref t) s) (J:ws ≠ []->Q (.ref s.heap.objs.size) {s with heap:=s.heap.push {cls:=.type "tuple",data:=.seq (vs++ws).toArray}})
 (hsz:vs.length+ws.length<=fy):wpAny (eF prog w) A (xr .Add (.ref t)<|.ref b) Q E s:=by
 obtain⟨⟨cls,i,data,l⟩,I,Y,n,j⟩:=id Z;obtain⟨⟨m,d,data2,f⟩,O,g,k,h⟩:=id L;simp only at Y j g h;subst Y j g h;have e:vs.toArray++ws.toArray=(vs++ws).toArray:=by simp
 by_cases a:ws=[]
 ·exact UA ⟨_,I,rfl⟩ ⟨_,O,rfl⟩ UC _d SF SD (Sl _ _)
   (tuple_addW1 t b vs.toArray ws.toArray n k i d l f (by simpa using U)<|by simp[a]) ⟨I,O,z a⟩
 ·refine UA ⟨_,I,rfl⟩ ⟨_,O,rfl⟩ UC _d SF SD (Sl _ _)
   (tuple_addW2 t b vs.toArray ws.toArray n k i d l f (by simpa using U) (by simpa using a)<|by rw[MP,MP];exact hsz) ⟨I,O,?_⟩
  rw[e];exact J a
noncomputable def dv(n d:Nat):Option Int->Nat
 |none=>d
 |some v=>if v<0 then (v+(n:Int)).toNat else min v.toNat n
theorem Bb(n d:Nat)(z:d<=n)(o:Option Int):dv n d o<=n:=by
 cases o with
 |none=>exact z
 |some v=>
  show(if v<0 then (v+(n:Int)).toNat else min v.toNat n)<=n;by_cases I:v<0
  ·rw[UJ I];omega
  ·rw[UY I];exact Us _ _
theorem ix(v:Int)(n d:Nat):(if v<0 then max (v+(n:Int)) 0 else min v (n:Int))=((dv n d (da v):Nat):Int):=by
 show(if v<0 then max (v+(n:Int)) 0 else min v (n:Int))=(((if v<0 then (v+(n:Int)).toNat else min v.toNat n):Nat):Int);by_cases I:v<0
 ·simp only[UJ I];omega
 ·simp only[UY I];omega
theorem dc(lo z:Option Int)(n:Nat):RI lo z 1 (n:Int)=(((dv n 0 lo:Nat):Int),((dv n n z:Nat):Int)):=by
 have a:¬((1:Int)<0):=by omega
 unfold RI;simp only[a,if_false];refine Prod.ext ?_ ?_
 ·cases lo with
  |none=>rfl
  |some v=>exact ix v n 0
 ·cases z with
  |none=>rfl
  |some v=>exact ix v n n
theorem bT(i j:Nat):PK (i:Int) (j:Int) 1=j-i:=by
 unfold PK;have a:(1:Int)>0:=by omega
 simp only[a,if_true,Int.ediv_one];split<;>omega
theorem Xs(p:Dv v o)(h:Q o s):wpAny (eF prog w) A (Builtin.Slice.slicePartIndex v) Q E s:=by
 cases p with
 |none=>exact slicePart_none h
 |int i t=>exact slicePart_int h
theorem ZX{J:dy}{I O:d9}{lo z:Option Int}{n:Nat}{Q:Int×Int×Nat->ej->Prop}(hs:s.heap.IsSliceOf J I O .none)(L:Dv I lo)(Z:Dv O z)
 (h:Q (((dv n 0 lo:Nat):Int),1,dv n n z-dv n 0 lo) s):wpAny (eF prog w) A (Builtin.Slice.sliceApplied (.ref J)<|pure (n:Int)) Q E s:=by
 obtain⟨os,U,a,Y⟩:=id hs;unfold Builtin.Slice.sliceApplied Builtin.Slice.sliceFields;refine MD<|MD<|NL U Y (x:=I) rfl<|MD<|NL U Y (x:=O) rfl<|MD<|NL U Y (x:=.none) rfl<|ML ?_;refine MD<|slicePart_none ?_;show wpAny _ _ (if ((1:Int)==0)=dj then _ else _) _ _ s;rw[UY ⋯];refine MD<|Xs L<|MD<|Xs Z<|MD<|ML ?_;show wpAny _ _ (match RI lo z 1 (n:Int)with|(lo,z)=>pure (lo,(1:Int),PK lo z 1)) _ _ s;rw[dc lo z n];show wpAny _ _ (pure (((dv n 0 lo:Nat):Int),(1:Int),PK ((dv n 0 lo:Nat):Int) ((dv n n z:Nat):Int) 1)) _ _ s;rw[bT];exact ML h
theorem mC(xs:Array d9)(i k:Nat):((ME k).filterMap λ(m:Nat)=>xs[((i:Int)+(m:Int)*1).toNat]?).toArray=((xs.toList.drop i).take k).toArray:=by
 have e:(λ(m:Nat)=>xs[((i:Int)+(m:Int)*1).toNat]?)=λm=>xs[i+m]? :=by
  funext m;have:((i:Int)+(m:Int)*1).toNat=i+m:=by omega
  rw[this]
 rw[e];have:=pick_run xs i k;rw[List.filterMap_map]at this;have I:((λx=>xs[x]?)∘λx=>i+x)=λm=>xs[i+m]? :=rfl;rw[I]at this;rw[this]
theorem cO{t J:dy}{items:Array d9}{U Y:d9}{lo z:Option Int}{Q:EQ}(I:N4 s.heap t items)(hs:s.heap.IsSliceOf J U Y .none)(Z:Dv U lo)(pu:Dv Y z)
 (L:¬(dv items.size 0 lo=0/\dv items.size items.size z=items.size))
 (h:Q (.ref s.heap.objs.size) {s with heap:=s.heap.push {cls:=.type "tuple",data:=.seq ((items.toList.drop (dv items.size 0 lo)).take (dv items.size items.size z-dv items.size 0 lo)).toArray}})
 (hsz:items.size<=fy):wpAny (eF prog w) A (DG (.ref t)<|.ref J) Q E s:=by
 have O:sizeOk (.seq ((items.toList.drop<|dv items.size 0 lo).take (dv items.size items.size z-dv items.size 0 lo)).toArray):=by show((items.toList.drop<|dv items.size 0 lo).take (dv items.size items.size z-dv items.size 0 lo)).toArray.size<=fy;rw[MP,Rc,List.length_drop,ON];omega
 have g:dv items.size items.size z<=items.size:=Bb _ _ (MM _) z;obtain⟨os,a,b,f⟩:=id hs;have d:s.TypeIs (.ref J) "slice":=⟨os,a,b⟩;unfold DG
 try with_reducible refine Oy ?_
 first|refine MD (ML ?_)|skip
 refine MD (V? I.typeIs ⋯ ?_);refine MD (NG (name:=Nz "__getitem__") I.typeIs Oj
  (Oh Oj I.typeIs entry_tuple_getitem ?_ (b? _ _)))
 show wpAny _ _ (Builtin.Tuple.tupleItemsOf (.ref t) >>= _) _ _ s;refine MD<|Ta I ?_;refine MD<|Rw d ?_;rw[UJ ⋯];refine MD<|ZX hs Z pu ?_;have e:¬((((dv items.size 0 lo:Nat):Int)==0&&(1:Int)==1&&(dv items.size items.size z-dv items.size 0 lo)==items.size)=dj):=by intro q;rw[MO,MO]at q;have i:((dv items.size 0 lo:Nat):Int)=0:=eq_of_beq q.1.1;have j:dv items.size items.size z-dv items.size 0 lo=items.size:=eq_of_beq q.2;exact L ⟨by omega,by omega⟩
 show wpAny _ _ (if (((dv items.size 0 lo:Nat):Int)==0&&(1:Int)==1&&(dv items.size items.size z-dv items.size 0 lo)==items.size)=dj then _ else _) _ _ s;rw[UY e,mC]
 first
  |exact MD (m:=OK _)<|Ox (ML ⟨_,rfl,ML h⟩) O
  |exact MD (m:=OK _)<|Ox (MD<|ML<|ML ⟨_,rfl,ML h⟩) O
  |exact MD<|MD (m:=OK _)<|Ox (ML<|ML ⟨_,rfl,ML h⟩) O
  |exact MD<|MD (m:=OK _)<|Ox (ML ⟨_,rfl,ML h⟩) O
end
end HT
namespace L2
open PySem PySem.Spec PyProof.Rows
abbrev TO:=St->Hp->(Option Int->Hp->Prop)->Prop
noncomputable def PO(X:Cx)(e:Option eK)(t:TO):Prop:=
 ∀(a:UQ) (s:ej) (b:St) (H:Hp) (Q:Option Int->Hp->Prop),Inv X a b H s->t b H Q->
  wpAny (eF X.prog X.w) X.A (evalPart e X.env) (λu f=>∃o d,Inv X a b d f/\Dv u o/\Q o d) X.xe s
def rV:TO:=λ_ H Q=>Q none H
def FU(t:TE):TO:=λb H Q=>t b H λx a=>∃i,x=.int i/\Q (da i) a
section
variable{X:Cx}{e:eK}{te:TE}{lo hi:Option eK}{tl th:TO}{pos p2:gv}
theorem sZ:PO X none rV:=by intro a s b H Q I h;rw[evalPart_none];exact ML ⟨none,H,I,.none,h⟩
theorem sY(h:PE X e te):PO X (da e) (FU te):=by intro a s g H Q I d;rw[evalPart_some];refine f7 (h a s g H _ I d) λu j O=>?_;obtain⟨x,b,U,Y,f⟩:=O;obtain⟨i,rfl,q⟩:=f;obtain⟨t,rfl⟩:=Y;exact⟨da i,b,U,.int i t,q⟩
noncomputable def Se(X:Cx)(r:V->Option Int->Option Int->Hp->VK->Prop):Prop:=
 ∀(a:UQ) (s:ej) (d:St) (H:Hp) (x:V) (v I O:d9) (lo hi:Option Int) (b:dy) (Q:VK),Inv X a d H s->RelV x v->s.heap.IsSliceOf b I O .none->Dv I lo->Dv O hi->r x lo hi H Q->
  ∃T id,N0 (.type T) "__getitem__" = pure (da (.builtin id))/\s.TypeIs v T/\wpAny (eF X.prog X.w) X.A (DG v (.ref b)) (EP X a d Q) X.xe s
noncomputable def P?(r:V->Option Int->Option Int->Hp->VK->Prop)(te:TE)(tl th:TO):TE:=λa H Q=>te a H λx b=>tl a b λl d=>th a d λu I=>r x l u I Q
theorem ai(L:Se X r)(z:PE X e te)(J:PO X lo tl)(Z:PO X hi th):PE X (.Subscript e (.Slice lo hi none p2) pos) (P? r te tl th):=by intro a s d H Q I h;refine P' (f7 (z a s d H _ I h) λv M p=>?_);obtain⟨x,g,j,K,E⟩:=p;refine wpAny_Slice (f7 (J a M d g _ j E) λU N ⟨l,i,k,B,F⟩=>f7 (Z a N d i _ k F) λY O ⟨u,f,m,C,G⟩=>?_);rw[evalPart_none];refine ML ?_;have n:Inv X a d f {O with heap:=O.heap.push {cls:=.type "slice",data:=.fields #[U,Y,.none]}}:=m.kept (t':=O.toks) λb P q=>MF _ q;obtain⟨T,id,o,y,t⟩:=L a {O with heap:=O.heap.push {cls:=.type "slice",data:=.fields #[U,Y,.none]}} d f x v U Y l u O.heap.objs.size Q n K (Heap.IsSliceOf.new ..) B C G;show wpAny (eF X.prog X.w) X.A (_e e (.Slice lo hi none p2) v (.ref O.heap.objs.size)) (EP X a d Q) X.xe {O with heap:=O.heap.push {cls:=.type "slice",data:=.fields #[U,Y,.none]}};exact tail_any (ops:=[.ref O.heap.objs.size,v]) y o t (by with_unfolding_all rfl)
noncomputable def uM(xs:List V)(lo hi:Option Int):List V:=(xs.drop<|HT.dv xs.length 0 lo).take (HT.dv xs.length xs.length hi-HT.dv xs.length 0 lo)
theorem Wl(xs:List V)(lo hi:Option Int):(uM xs lo hi).length<=xs.length:=by unfold uM;rw[Rc,List.length_drop];omega
noncomputable def LU(K:MC):V->Option Int->Option Int->Hp->VK->Prop:=λx lo hi H Q=>∃a b,x=.ref a/\h8 K H a b/\
 ¬(HT.dv b.length 0 lo=0/\HT.dv b.length b.length hi=b.length)/\∀p,H p=none->Q (.ref p) (upd H p<|.tup<|uM b lo hi)
theorem AR:Se X (LU X.K):=by
 intro g s w H x v t u lo hi p Q I Y i l m h;obtain⟨a,d,rfl,k,j,q⟩:=h;cases Y;obtain⟨e,r,U,f⟩:=I.tuple k;have O:e.toArray.size=d.length:=by rw[MP];exact r.length.symm
 refine⟨"tuple",_,Oj.lookup,U.typeIs,?_⟩;refine HT.cO U i l m (by rw[O];exact j) ?_ (by rw[O];exact f);rw[O];refine⟨.ref s.heap.objs.size,_,I.laid (t':=s.toks) (o:=.tup (uM d lo hi)) (λb n q=>MF _ q) (MM _) ?_,rfl,q _ (I.ft.fresh (MM _))⟩;exact⟨NJ (Wl d lo hi) f,_,(r.drop (HT.dv d.length 0 lo)).take (HT.dv d.length d.length hi-HT.dv d.length 0 lo),A7.new _ _⟩
theorem f6.UE(r:f6 xs us):us=[]↔xs=[]:=by
 cases r with
 |nil=>simp
 |cons _ _=>simp
end
noncomputable def F4(n:Nat)(i:Int):Option Nat:=if 0<=i then (if i<n then da i.toNat else none)else if -(n:Int)<=i then da (i+n).toNat else none
def DZ{z:Type}(xs:List z)(i:Int):Option z:=(F4 xs.length i).bind λj=>xs[j]?
theorem gA(h:F4 n i=da j):seqIndex? i n=da j/\j<n/\ -(n:Int)<=i/\i<n:=by
 unfold F4 at h;by_cases b:0<=i
 ·rw[UJ b]at h
  by_cases a:i<n
  ·rw[UJ a]at h
   have e:i.toNat=j:=NR h;exact⟨by rw[seqIndex_of b a,e],by omega,by omega,a⟩
  ·rw[UY a]at h;cases h
 ·rw[UY b]at h
  by_cases a : -(n:Int)<=i
  ·rw[UJ a]at h
   have e:(i+n).toNat=j:=NR h;exact⟨by rw[seqIndex_neg ⋯ a,e],by omega,a,by omega⟩
  ·rw[UY a]at h;cases h
theorem Wq(h:DZ xs i=da v):∃j,seqIndex? i xs.length=da j/\xs[j]? = da v/\j<xs.length/\ -(xs.length:Int)<=i/\i<xs.length:=by
 unfold DZ at h;cases e:F4 xs.length i with
 |none=>rw[e]at h;cases h
 |some j=>
  rw[e]at h;obtain⟨a,b,I,O⟩:=gA e;exact⟨j,a,h,b,I,O⟩
def Wv(b:eK):Prop:=∀o i,E_ b dt o i=operate [o,i] (DG o i)
noncomputable def DX(X:Cx)(r:R2):Prop:=
 ∀(b I:eK) (a:UQ) (s:ej) (d:St) (H:Hp) (x y:V) (v u:d9) (Q:VK),Inv X a d H s->RelV x v->RelV y u->r x y H Q->
  E_ I dt v u=operate [v,u] (DG v u)->wpAny (eF X.prog X.w) X.A (_e b I v u) (EP X a d Q) X.xe s
noncomputable def N5(X:Cx)(id:String)(r:V->List V->Hp->VK->Prop):Prop:=
 ∀(a:UQ) (s:ej) (e:St) (H:Hp) (x:V) (d:List V) (v:d9) (b:List d9) (Q:VK),Inv X a e H s->RelV x v->f6 d b->r x d H Q->
  wpAny (eF X.prog X.w) X.A (call (.builtin id) (v::b)) (EP X a e Q) X.xe s
section
variable{X:Cx}{a b:eK}{ta tb:TE}{pos:gv}
theorem DX.or(h:DX X r)(h':DX X r'):DX X (λx y H Q=>r x y H Q\/r' x y H Q):=by
 intro a O b s e H x y v u Q I U Y q d;rcases q with q|q
 ·exact h a O b s e H x y v u Q I U Y q d
 ·exact h' a O b s e H x y v u Q I U Y q d
theorem BM(O:DX X r)(z:PE X a ta)(U:PE X b tb)(hs:Wv b):PE X (.Subscript a b pos) (P7 r ta tb):=by intro d s j H Q I h;exact P'<|HC z U I h λv u i x y e Y f g q=>O a b d i j e x y v u Q Y f g q<|hs _ _
def LY(K:MC):R2:=λx y H Q=>∃p a i v,x=.ref p/\y=.int i/\hM K H p a/\DZ a i=da v/\Q v H
def LW(K:MC):R2:=λx y H Q=>∃p a i v,x=.ref p/\y=.int i/\h8 K H p a/\DZ a i=da v/\Q v H
noncomputable def LX:R2:=λx y H Q=>∃z i c,x=.str z/\y=.int i/\z.length<=fy/\DZ z.cps.toList i=da c/\Q (.str ⟨#[c]⟩) H
theorem w?:DX X (LY X.K):=by
 intro e L a s l H x y v u Q I F G h k;obtain⟨p,R,i,z,rfl,rfl,E,B,q⟩:=h;cases F;obtain⟨t,rfl⟩:=G;obtain⟨d,r,O,P⟩:=I.list E;obtain⟨j,b,n,M,o,A⟩:=Wq B;obtain⟨w,Y,m⟩:=r.get n;have C:=r.length;have N:=J0;have f:EP X a l Q w s:=⟨z,H,I,m,q⟩;by_cases g:0<=i
 ·have U:i.toNat=j:=by
   rw[seqIndex_of g A]at b;exact NR b
  exact item_listR O.isList g ⋯ (by rw[U];simpa using Y) f k
 ·have U:(i+(d.toArray.size:Int)).toNat=j:=by
   rw[seqIndex_neg ⋯ o]at b;rw[MP,<-C];exact NR b
  exact N? (x:=w) O.isList.typeIs slot_list_getitem.lookup
   (wpAny_getItem_list_neg (Q:=λr J=>r=w/\EP X a l Q r J) O.isList ⋯ (by rw[MP]<;>omega) ⋯ (by rw[U];simpa using Y) ⟨rfl,f⟩) k
theorem CK:DX X (LW X.K):=by
 intro b E a s d H x y v u Q I U Y h A;obtain⟨p,N,i,z,rfl,rfl,o,m,q⟩:=h;cases U;obtain⟨t,rfl⟩:=Y;obtain⟨B,r,O,M⟩:=I.tuple o;obtain⟨j,k,l,F,G,J⟩:=Wq m;obtain⟨w,g,e⟩:=r.get l;have n:=r.length;have L:=J0;have f:EP X a d Q w s:=⟨z,H,I,e,q⟩;exact N? (x:=w) O.typeIs slot_tuple_getitem.lookup
  (getItem_tuple (j:=j) (Q:=λr C=>r=w/\EP X a d Q r C) O ⋯ ⋯ (by rw[MP,<-n];exact k) (by simpa using g) ⟨rfl,f⟩) A
theorem CM:DX X LX:=by
 intro a o d s B H x y v u Q I O U h n;obtain⟨z,i,c,rfl,rfl,w,Y,q⟩:=h;obtain⟨t,rfl⟩:=O;obtain⟨A,rfl⟩:=U;obtain⟨j,b,g,p,k,l⟩:=Wq Y;have m:z.cps.toList.length=z.length:=by simp[Str.length]
 rw[m]at b k l;have r:=J0;exact tail_any (Uy s z t) slot_str_getitem.lookup (getItem_str (c:=c) (by
  have e:decide (i < -(2^63:Int))=dt:=decide_eq_false ⋯;have f:decide (i>=2^63)=dt:=decide_eq_false ⋯;rw[e,f,Bool.or_false]) (by rw[b];simpa using g) ⟨.str ⟨#[c]⟩,H,I.tok _,⟨_,rfl⟩,q⟩) n
theorem cD(its:List d9)(n j:Nat)(u:d9):NQ (·.setIfInBounds j u) {cls:=.type "list",data:=.seq its.toArray n} = {cls:=.type "list",data:=.seq (its.set j u).toArray n}:=by simp[NQ]
theorem Inv.lst(I:Inv X pins σ H s)(h:H p=da (.lst xs)):
 ∃(its:List d9) (n:Nat),f6 xs its/\s.heap.get? p=da {cls:=.type "list",data:=.seq its.toArray n}/\xs.length<=fy:=by
 obtain⟨z,its,n,r,e⟩:=I.ft p _ h;exact⟨its,n,r,e,z⟩
theorem Inv.y?{z:UQ}{L:St}{H:Hp}{s:ej}{p:dy}{xs ys:List V}{its its':List d9}{n n':Nat}{f:l7->l7}(I:Inv X z L H s)(h:H p=da (.lst xs))
 (O:s.heap.get? p=da {cls:=.type "list",data:=.seq its.toArray n}) (J:f {cls:=.type "list",data:=.seq its.toArray n} = {cls:=.type "list",data:=.seq its'.toArray n'}) (r:f6 ys its') (hz:ys.length<=fy) (t:Nat):
 Inv X z L (upd H p<|.lst ys) {s with heap:=s.heap.update p f,toks:=t}:=by
 have e:(s.heap.update p f).get? p=da {cls:=.type "list",data:=.seq its'.toArray n'}:=by rw[Oo f O (by rw[J]<;>rfl),J]
 refine I.write (x:=p) (e:=p) (by rw[h];trivial) (.inl rfl) (λb u U q=>(Nh _ _<|NH U).trans q) ⟨_,e⟩ ?_;exact⟨hz,its',n',r,e⟩
noncomputable def Gw:V->V->V->Hp->(Hp->Prop)->Prop:=λo i v H Q=>∃p a k j,o=.ref p/\i=.int k/\H p=da (.lst a)/\F4 a.length k=da j/\Q (upd H p<|.lst<|a.set j v)
theorem lT:Lr X Gw:=by
 intro b s C H o i v J G u Q I z y A h;obtain⟨p,B,k,j,rfl,rfl,m,w,q⟩:=h;cases z;obtain⟨t,rfl⟩:=y;obtain⟨a,n,r,O,x⟩:=I.lst m;obtain⟨d,E,g,l⟩:=gA w;have U:=r.length;have F:=J0;have e:Inv X b C (upd H p<|.lst<|B.set j v) {s with heap:=s.heap.update p (NQ (·.setIfInBounds j u))}:=
  I.y? m O (cD a n j u) (r.set A j) (by rw[List.length_set];exact x) s.toks
 by_cases f:0<=k
 ·have Y:k.toNat=j:=by
   rw[seqIndex_of f l]at d;exact NR d
  exact PySem.W.ki_setAt O f ⋯ (by rw[MP,<-U];exact l) (by rw[Y];exact⟨_,e,q⟩)
 ·have Y:(k+(a.toArray.size:Int)).toNat=j:=by
   rw[seqIndex_neg ⋯ g]at d;rw[MP,<-U];exact NR d
  exact PySem.W.ki_setBack O ⋯ (by rw[MP,<-U];exact g) ⋯ (by rw[Y];exact⟨_,e,q⟩)
def KN:V->Bool
 |.el=>dj
 |.bl _=>dj
 |.int _=>dj
 |.str _=>dj
 |_=>dt
noncomputable def DE:V->V->Bool
 |.el,.el=>dj
 |.bl a,.bl b=>a==b
 |.bl a,.int b=>(if a then 1 else 0)==b
 |.int a,.bl b=>a==(if b then 1 else 0)
 |.int a,.int b=>a==b
 |.str a,.str b=>a==b
 |_,_=>dt
theorem Ee(O:RelV y u)(I:RelV x v)(U:KN y=dj)(fx:KN x=dj):Oi A s u v (DE y x):=by
 cases y with
 |el=>
  cases O;cases x with
  |el=>cases I;exact Oi.same _
  |bl b=>cases I;exact Oi.none_bool b
  |int b=>obtain⟨t,rfl⟩:=I;exact Oi.none_int b t
  |str b=>obtain⟨t,rfl⟩:=I;exact Oi.none_str b t
  |_=>exact absurd (show dt=dj from fx) Nd
 |bl a=>
  cases O;cases x with
  |el=>cases I;exact Oi.bool_none a
  |bl b=>cases I;exact Oi.bool_bool a b
  |int b=>obtain⟨t,rfl⟩:=I;exact Oi.bool_int a b t
  |str b=>obtain⟨t,rfl⟩:=I;exact Oi.bool_str a b t
  |_=>exact absurd (show dt=dj from fx) Nd
 |int a=>
  obtain⟨d,rfl⟩:=O;cases x with
  |el=>cases I;exact Oi.int_none a d
  |bl b=>cases I;exact Oi.int_bool a d b
  |int b=>obtain⟨t,rfl⟩:=I;exact SU a d b t
  |str b=>obtain⟨t,rfl⟩:=I;exact Oi.int_str a d b t
  |_=>exact absurd (show dt=dj from fx) Nd
 |str a=>
  obtain⟨d,rfl⟩:=O;cases x with
  |el=>cases I;exact Oi.str_none a d
  |bl b=>cases I;exact Oi.str_bool a d b
  |int b=>obtain⟨t,rfl⟩:=I;exact Oi.str_int a d b t
  |str b=>obtain⟨t,rfl⟩:=I;exact Oi.str_str a d b t
  |_=>exact absurd (show dt=dj from fx) Nd
 |_=>exact absurd (show dt=dj from U) Nd
noncomputable def DD(x:V)(u:d9):Bool:=match u with
 |.none=>DE .el x
 |.bool b=>DE (.bl b) x
 |.int i _=>DE (.int i) x
 |.str z _=>DE (.str z) x
 |_=>dt
theorem pW(r:RelV y u)(f:KN y=dj):DD x u=DE y x:=by
 cases y with
 |el=>cases r;rfl
 |bl b=>cases r;rfl
 |int i=>obtain⟨t,rfl⟩:=r;rfl
 |str z=>obtain⟨t,rfl⟩:=r;rfl
 |_=>exact absurd (show dt=dj from f) Nd
theorem Ws:∀{xs:List V} {us:List d9},f6 xs us->xs.all KN=dj->us.any (DD x)=xs.any λy=>DE y x
 |_,_,.nil,_=>rfl
 |y::xs,u::us,.cons r t,f=>by rw[SM,MO]at f;rw[R9,R9,pW r f.1,Ws t f.2]
theorem KA(O:RelV x v)(fx:KN x=dj):∀{xs:List V} {us:List d9},f6 xs us->xs.all KN=dj->∀u∈us,Oi A s u v (DD x u)
 |_,_,.nil,_=>λu I=>by cases I
 |y::xs,u::us,.cons r t,f=>λU I=>by
  rw[SM,MO]at f;rcases MQ.mp I with rfl|I
  ·rw[pW r f.1];exact Ee r O f.1 fx
  ·exact KA O fx t f.2 U I
def T6(x:V)(xs:List V):Bool:=xs.any λy=>DE y x
noncomputable def G?(K:MC)(I:Bool):R2:=λx y H Q=>∃p a,y=.ref p/\(hM K H p a\/h8 K H p a)/\KN x=dj/\a.all KN=dj/\Q (.bl<|if I then !T6 x a else T6 x a) H
theorem YM:l9 X (sh .NotIn) (G? X.K dj):=by
 intro d s i H x y v u Q I Y f h;obtain⟨p,g,rfl,O,fx,fs,q⟩:=h;cases f;rcases O with O|O
 ·obtain⟨a,r,U,e⟩:=I.list O
  refine SeqAt.notIn_listAt (DD x) U.isList (λw b=>KA Y fx r fs w<|by simpa using b) ⟨.bl _,H,I,rfl,?_⟩;rw[show a.toArray.any (DD x)=a.any (DD x)by simp,Ws r fs];exact q
 ·obtain⟨a,r,U,e⟩:=I.tuple O
  refine SeqAt.notIn_tupleAt (DD x) U (λw b=>KA Y fx r fs w<|by simpa using b) ⟨.bl _,H,I,rfl,?_⟩;rw[show a.toArray.any (DD x)=a.any (DD x)by simp,Ws r fs];exact q
theorem Vv:QR X (.builtin "len") (λxs H Q=>∃p ys,xs=[.ref p]/\(hM X.K H p ys\/h8 X.K H p ys)/\Q (.int ys.length) H):=by
 intro d s j H xs i Q I r h;obtain⟨p,ys,rfl,O,q⟩:=h;obtain⟨u,rfl,f⟩:=yA r;cases f;have g:=J0;rcases O with O|O
 ·obtain⟨a,b,U,e⟩:=I.list O
  have Y:=b.length;exact Calls.call_len_list U.isList (by simp only[MP]<;>omega) ⟨.int ys.length,H,I.tok _,⟨s.toks+1,by rw[MP,Y]⟩,q⟩
 ·obtain⟨a,b,U,e⟩:=I.tuple O
  have Y:=b.length;exact len_tuple U (by simp only[MP]<;>omega) ⟨.int ys.length,H,I.tok _,⟨s.toks+1,by rw[MP,Y]⟩,q⟩
theorem Vu:QR X (.builtin "len") (λxs H Q=>∃z,xs=[.str z]/\z.length<=fy/\Q (.int z.length) H):=by intro a s f H xs e Q I r h;obtain⟨z,rfl,d,q⟩:=h;obtain⟨u,rfl,t,rfl⟩:=yA r;have b:=J0;exact len_str ⋯ ⟨.int z.length,H,I.tok _,⟨_,rfl⟩,q⟩
theorem Vt:QR X (.type "list") (λxs H Q=>∃p ys,xs=[.ref p]/\(hM X.K H p ys\/h8 X.K H p ys)/\∀l,H l=none->Q (.ref l) (upd H l (.lst ys))):=by
 intro j s B H xs C Q I r h;obtain⟨p,ys,rfl,U,q⟩:=h;obtain⟨u,rfl,A⟩:=yA r;cases A;have x:∀(a:List d9),f6 ys a->ys.length<=fy->∀(d:fh) (O:Nat),(∀b y,s.heap.get? b=da y->d.get? b=da y)->
  d.get? s.heap.objs.size=da {cls:=.type "list",dict:=none,data:=.seq a.toArray O,slots:=#[]}->EP X j B Q (.ref s.heap.objs.size) {s with heap:=d}:=λa f g d O i e=>
  ⟨.ref s.heap.objs.size,_,I.laid (t':=s.toks) i (MM _) (show l8 X.prog X.w _ d _ (.lst ys)from⟨g,a,O,f,e⟩),rfl,q _<|I.ft.fresh<|MM _⟩
 rcases U with U|U
 ·obtain⟨a,f,Y,g⟩:=I.list U
  have z:=f.length;obtain⟨o,t,k,n,m⟩:=Y.isList;exact call_list_seq p (.inl rfl) t k m (λd O i e=>x a f g d O i e) (by simp only[MP]<;>omega)
 ·obtain⟨a,f,Y,g⟩:=I.tuple U
  have z:=f.length;obtain⟨o,t,k,n,m⟩:=Y;exact call_list_seq p (.inr rfl) t k m (λd O i e=>x a f g d O i e) (by simp only[MP]<;>omega)
theorem K0:QR X (.type "tuple") (λxs H Q=>∃p ys,xs=[.ref p]/\((hM X.K H p ys/\∀l,H l=none->Q (.ref l) (upd H l (.tup ys)))\/(h8 X.K H p ys/\Q (.ref p) H))):=by
 intro a s j H xs x Q I r h;obtain⟨p,ys,rfl,h⟩:=h;obtain⟨u,rfl,n⟩:=yA r;cases n;rcases h with⟨O,q⟩|⟨O,q⟩
 ·obtain⟨d,g,U,i⟩:=I.list O
  have t:=g.length;refine call_tuple_list U.isList (λf m=>?_) (by simp only[MP]<;>omega);have Y:Inv X a j H {s with heap:=f}:=I.kept (t':=s.toks) m;have k:Inv X a j (upd H f.objs.size (.tup ys)) {s with heap:=f.push {cls:=.type "tuple",data:=.seq d.toArray}}:=
   Y.laid (t':=s.toks) (λb o e=>MF _ e) (MM _) (show l8 X.prog X.w _ _ _ (.tup ys)from⟨i,d,g,A7.new _ _⟩)
  exact⟨.ref f.objs.size,_,k,rfl,q _<|Y.ft.fresh<|MM _⟩
 ·obtain⟨d,g,U,i⟩:=I.tuple O
  exact call_tuple_same U ⟨.ref p,H,I,rfl,q⟩
noncomputable def _o(K:MC)(T:String)(x:V)(H:Hp):Prop:=match x with
 |.str _=>T = "str"
 |.int _=>T = "int"
 |.ref p=>(T = "list"/\∃b,hM K H p b)\/(T = "tuple"/\∃o,K.lookup p=da o/\o.cls=.type "tuple"/\o.dict=none)\/
  (T = "dict"/\((∃a,H p=da (.dK a))\/∃a,H p=da (.dT a)))\/(T = "set"/\∃S n,H p=da (.set S n))
 |_=>False
theorem AB(I:Inv X pins σ H s)(r:RelV x v)(ty:_o X.K T x H):
 s.TypeIs v T/\∀a,v=.ref a->∃Y,s.heap.get? a=da Y/\Y.dict=none:=by
 cases x with
 |str z=>
  obtain⟨t,rfl⟩:=r;cases (show T = "str" from ty);exact⟨Uy s z t,λ_ e=>nomatch e⟩
 |int i=>
  obtain⟨t,rfl⟩:=r;cases (show T = "int" from ty);exact⟨Uz s i t,λ_ e=>nomatch e⟩
 | ref p=>
  cases r;rcases ty with⟨rfl,l,j⟩|⟨rfl,o,O,h,d⟩|⟨rfl,O⟩|⟨rfl,S,n,O⟩
  ·obtain⟨k,_,g,_⟩:=I.list j
   refine⟨g.isList.typeIs,λa e=>?_⟩;cases e;obtain⟨o,n,e,c,d,_⟩:=g;exact⟨o,e,d⟩
  ·refine⟨⟨o,I.m3 p o O,h⟩,λa e=>?_⟩
   cases e;exact⟨o,I.m3 _ o O,d⟩
  ·have z:∃o,s.heap.get? p=da o/\o.ExactDict:=by
    rcases O with⟨f,O⟩|⟨f,O⟩
    ·obtain⟨_,_,_,_,o,_,_,e,b,_⟩:=I.ft p _ O
     exact⟨o,e,b⟩
    ·obtain⟨_,_,_,_,o,_,_,e,b,_⟩:=I.ft p _ O
     exact⟨o,e,b⟩
   obtain⟨o,e,b⟩:=z;refine⟨⟨o,e,b.1⟩,λa U=>?_⟩;cases U;exact⟨o,e,b.2.1⟩
  ·obtain⟨o,_,_,_,e,b,_⟩:=I.ft p _ O
   refine⟨⟨o,e,b.1⟩,λa U=>?_⟩;cases U;exact⟨o,e,b.2.1⟩
 |_=>exact Pk ty
noncomputable def _g(K:MC)(T:String)(r:V->List V->Hp->VK->Prop)(to:TE)(t:TA):TE:=λb H Q=>to b H λx a=>_o K T x a/\t b a λe d=>r x e d Q
variable{o e:eK}{es:List eK}{to:TE}{t:TA}{name:Str}{apos cpos:gv}{T id:String}{r:V->List V->Hp->VK->Prop}
theorem VW(pa:PlainAttrs T)(z:Slot T name id)(J:typeOf (.builtin id)=pure (.type "method_descriptor"))(hm:N5 X id r)(ho:PE X o to)(ha:PA X (e::es) t)
 (L:I8 o name X.env (eA o X.env)=eA o X.env:=by rfl)
 (Z:((p3 cpos<|starEach (e::es) X.env).all (λx=> !x.1)&&(E6 cpos<|keywordEach [] X.env).all (λx=>x.1.isSome)
   &&decide ((e::es).length+([]:List u0).length+(if ([]:List u0).isEmpty then 0 else 1)<30))=dj:=by rfl)
 (a6:(apos.endLine==cpos.line)=dj:=by rfl) (hs:fA (e::es) X.env=(dt,eA e X.env)::fA es X.env:=by rfl) (a7:(p3 cpos<|starEach es X.env).any (·.1)=dt:=by rfl):
 PE X (.Call (.Attribute o name apos) (e::es) [] cpos) (_g X.K T r to t):=by
 intro a s b H Q I h;refine wpAny_Call_method_late L Z a6 rfl<|f7 (ho a s b H _ I h) λv p k=>?_;obtain⟨x,d,O,U,ty,l⟩:=k;obtain⟨i,j⟩:=AB O U ty;refine⟨T,id,pa,z,J,i,j,?_⟩;have Y:=ha cpos a p b d _ O l;rw[hs]at Y ⊢;refine Calls.callWith_builtin (by show(dt || (p3 cpos<|starEach es X.env).any (·.1))=dt;rw[a7]<;>rfl)<|Calls.evalArgs_plain ?_;exact f7 Y λw u ⟨y,f,g,n,m⟩=>hm a u b f x y v w Q g U n m
end
noncomputable def XP(X:Cx)(id:String)(r:V->List V->Hp->VK->Prop):Prop:=
 ∀(a:UQ) (s:ej) (e:St) (H:Hp) (x:V) (d:List V) (v:d9) (b:List d9) (Q:VK),Inv X a e H s->RelV x v->f6 d b->r x d H Q->
  wpAny (eF X.prog X.w) X.A (call (.builtin id) (v::b)) (EP X a e Q) X.xe s
theorem f6.one:∀{x:V} {us:List d9},f6 [x] us->∃u,us=[u]/\RelV x u
 |_,_,.cons r .nil=>⟨_,rfl,r⟩
theorem f6.dropLast(h:f6 xs us):f6 xs.dropLast us.dropLast:=by
 induction h with
 |nil=>exact .nil
 |cons r t I=>
  cases t with
  |nil=>exact .nil
  |cons q a=>exact .cons r I
theorem f6.rep(h:f6 xs us):∀k:Nat,f6 (MI k xs).flatten (MI k us).flatten
 |0=>.nil
 |k+1=>by rw[Pb,Pb,PN,PN];exact f6.append h<|f6.rep h k
theorem J9(its:List d9):∀(k:Nat) (acc:List d9),
 Ue (λx1 I=>x1++I) acc.toArray (MI k its.toArray)=(acc++(MI k its).flatten).toArray
 |0,acc=>by simp
 |k+1,acc=>by
  have e:acc.toArray++its.toArray=(acc++its).toArray:=by simp
  have O:(acc++its)++(MI k its).flatten=acc++(MI (k+1) its).flatten:=by rw[Pb,PN,List.append_assoc]
  rw[<-O,<-J9 its k (acc++its),<-e,Pb,List.foldl_cons]
section
variable{X:Cx}{pins:UQ}{σ:St}{H:Hp}{s:ej}{l b:dy}{xs ys zs:List V}
theorem Inv.D2{its its':List d9}{n:Nat}{f:Array d9->Array d9}{t':Nat}(I:Inv X pins σ H s)(O:H l=da (.lst xs))
 (e:s.heap.get? l=da {cls:=.type "list",data:=.seq its.toArray n}) (z:f its.toArray=its'.toArray) (U:f6 ys its') (hz:ys.length<=fy):
 Inv X pins σ (upd H l<|.lst ys) {s with heap:=s.heap.update l<|NQ f,toks:=t'}:=by
 have q:=PySem.IsL.update e f;rw[z]at q;refine I.write (x:=l) (e:=l) (by rw[O];exact trivial) (.inl rfl) (λb u Y a=>(Nh s.heap (NQ f)<|NH Y).trans a) ⟨_,q⟩ ?_;exact⟨hz,its',_,U,q⟩
theorem Inv.x_(I:Inv X pins σ H s)(O:f6 ys its)(hz:ys.length<=fy):
 Inv X pins σ (upd H s.heap.objs.size (.lst ys)) {s with heap:=s.heap.push {cls:=.type "list",data:=.seq its.toArray},toks:=t'}:=
 I.laid (λ_ _ q=>MF _ q) (MM _) ⟨hz,its,0,O,MU _ rfl⟩
theorem Inv.fresh(I:Inv X pins σ H s):H s.heap.objs.size=none:=I.ft.fresh<|MM _
theorem Inv.Dl(I:Inv X pins σ H s)(O:H l=da (.lst xs)):xs.length<=fy/\∃(its:List d9) (n:Nat),f6 xs its/\xs.length=its.length/\s.heap.get? l=da {cls:=.type "list",data:=.seq its.toArray n}:=by obtain⟨z,its,n,r,e⟩:=I.ft l _ O;exact⟨z,its,n,r,r.length,e⟩
theorem Kx(h:n<=fy):OM n=dt:=by unfold OM;exact decide_eq_false ⋯
end
section
variable{X:Cx}
noncomputable def eW:V->List V->Hp->VK->Prop:=λx b H Q=>∃l a y,x=.ref l/\b=[y]/\H l=da (.lst a)/\a.length<fy/\Q .el (upd H l<|.lst<|a++[y])
theorem fX:XP X "list.append" eW:=by intro b s m H x j v i Q I U Y h;obtain⟨l,k,y,rfl,rfl,O,g,q⟩:=h;cases U;obtain⟨u,rfl,d⟩:=Y.one;obtain⟨z,a,n,r,f,e⟩:=I.Dl O;refine PB F.slot_list_append ⟨_,e,rfl⟩ F.entry_list_append (F.args_list_append_2 _ _) (PySem.list_append l a.toArray n u (by rw[MP];omega)) ⟨e,?_⟩;refine⟨.el,_,I.D2 (its':=a++[u]) O e ⋯ (r.append (.cons d .nil)) ?_,rfl,q⟩;rw[NC,Pf];omega
noncomputable def sH:V->List V->Hp->VK->Prop:=λx e H Q=>∃l b a d,x=.ref l/\e=[.ref b]/\H l=da (.lst a)/\H b=da (.lst d)/\a.length+d.length<=fy/\Q .el (upd H l<|.lst<|a++d)
theorem fV:XP X "list.extend" sH:=by
 intro f s J H x B v A Q I Y p h;obtain⟨l,b,C,G,rfl,rfl,U,j,y,q⟩:=h;cases Y;obtain⟨u,rfl,o⟩:=p.one;cases o;obtain⟨z,a,n,r,w,e⟩:=I.Dl U;obtain⟨E,O,k,m,t,i⟩:=I.Dl j;have d:a.toArray.size+O.toArray.size<=fy:=by rw[MP,MP];omega
 have g:¬(!a.toArray.isEmpty&&OM (a.toArray.size+O.toArray.size))=dj:=by rw[Kx d,Bool.and_false];exact Nd
 refine PB F.slot_list_extend ⟨_,e,rfl⟩ F.entry_list_extend (F.args_list_extend_2 _ _)
  (AutoSeq1.list_extend_list_list_0 l a.toArray n b O.toArray k g (by rw[MP];omega) ⋯) ⟨e,i,?_⟩
 refine⟨.el,_,I.D2 (its':=a++O) U e ⋯ (r.append m) ?_,rfl,q⟩;rw[NC];omega
noncomputable def LV:R2:=λx y H Q=>∃l k a,x=.ref l/\y=.int k/\H l=da (.lst a)/\ -(2^63)<=k/\k<2^63/\a.length*k.toNat<=fy/\
 ∀p,H p=none->Q (.ref p) (upd H p<|.lst (MI k.toNat a).flatten)
theorem V8(xs:List α)(k:Nat):(MI k xs).flatten.length=k*xs.length:=by
 induction k with
 |zero=>simp
 |succ k I=>rw[Pb,PN,NC,I,Su,Uk]
theorem Cb:l9 X (xr .Mult) LV:=by
 intro f s M H x y v u Q I Y G h;obtain⟨l,k,L,rfl,rfl,C,A,B,d,q⟩:=h;cases Y;obtain⟨t,rfl⟩:=G;obtain⟨z,b,n,r,E,e⟩:=I.Dl C;have g:b.toArray.size*k.toNat<=fy:=by rw[MP,<-E];exact d
 have i:¬b.toArray.size*k.toNat>(2^63-1)/8:=by
  have:(fy:Nat)<=(2^63-1)/8:=by decide
  omega
 have j:¬(!Builtin.List.listFitsIndex k)=dj:=by rw[fitsIndex_both A B];exact Nd
 have o:¬OM (b.toArray.size*k.toNat)=dj:=by rw[Kx g];exact Nd
 have p:Ue (λx1 O=>x1++O) #[] (MI (if b.toArray.isEmpty=dj then 0 else k.toNat) b.toArray)=(MI k.toNat b).flatten.toArray:=by
  have w:∀m:Nat,Ue (λx1 O=>x1++O) #[] (MI m b.toArray)=(MI m b).flatten.toArray:=λm=>by have:=J9 b m [];rw[Rn]at this;exact this
  rw[w];cases b with
  |nil=>simp
  |cons a K=>rw[UY ⋯]
 refine wpAny_binaryOp_repeat_ref (T:="list") (U:="int") ⋯ ⟨_,e,rfl⟩ (λJ=>Uz J k t) noFill_list_mul F.fills_int_mul Tp repeat_list F.slot_int_index.lookup
  (PB Tp (Uz s k t) F.entry_int_rmul (F.args_int_rmul_2 _ _) (int___rmul___int_list k t l b.toArray n)
    ⟨e,rfl,⟨_,e,rfl⟩,PB F.slot_list_mul ⟨_,e,rfl⟩ F.entry_list_mul (F.args_list_mul_2 _ _) (AutoListH.list___mul___list_int_3 l b.toArray n k t j i o) ⟨e,?_⟩⟩)
 rw[p];exact⟨.ref _,_,I.x_ (t':=s.toks) (r.rep k.toNat) (by rw[V8,C9];exact d),rfl,q _ I.fresh⟩
end
end L2
namespace Att
open PySem PySem.W PySem.Calls PyProof.Rows
theorem J3:∀(ns:List Int) (vs:List d9),WellAll P h vs (ns.map WData.int)->R6 vs ns:=by
 intro ns
 induction ns with
 |nil=>
  intro vs w;rw[Uh]at w;cases w;exact .nil
 | cons n ns I=>
  intro vs w;rw[Nn]at w;cases w with
  |cons a b=>
   cases a;exact .cons _ _<|I _ b
theorem dX{l:OpenLaw}{n:Nat}(J:l.most=da n){P:Params}{h:fh}{args:List WData}{U:List d9}
 (Y:l.row.toRowW.claim.pre args=dj) (z:WellAll P h U args):
 ∃a vs ns,U=[Nw a]/\args=[WData.list (ns.map WData.int)]/\h.get? a=da {cls:=.type "list",data:=.seq vs.toArray}/\R6 vs ns/\ns.length<=n:=by
 have e:WShape.hasAll [] args [.list .int]=dj:=(pre_splitW Y).1;have b:l.pre.holds [] {args:=args}=dj:=(pre_splitW Y).2;obtain⟨d,r,rfl,i,j⟩:=hasAllW_cons e;obtain rfl:=hasAllW_nil j;obtain⟨t,rfl,k⟩:=hasW_list i;obtain⟨ns,rfl⟩:=items_int k;have f:ns.length<=n:=by
  unfold OpenLaw.pre at b;have I:(WTm.not<|.lt (.lit<|.int (n:Int))<|.len<|.arg 0).holds [] {args:=[.list (ns.map .int)]}=dj:=by have I:=(holds_andW b).1;rw[J]at I;exact I
  have O:=condW_of I<|w_not<|w_lt w_lit<|w_len_list<|w_arg rfl;rw[Nf]at O;refine Nat.le_of_not_lt λq=>?_;have o:(n:Int)<((ns.length:Nat):Int):=by omega
  first
   |(rw[decide_eq_true o]at O;exact absurd O ⋯)
   |(simp at O;omega)
 cases z with
 |cons p s=>
  cases s;cases p with
  |list m g=>exact⟨_,_,ns,rfl,rfl,m,J3 ns _ g,f⟩
theorem fC(l:OpenLaw)(args:List WData):l.row.toRowW.claim.post args (.bool dj) args=dj:=
 postW_of (r:=l.row.toRowW) (X:=(dj==dj))
  (show WShape.has [] (.bool dj) .bool=dj by first|rfl|decide|simp[WShape.has,WShape.arms,WShape.armsAll])
  (show(WTm.eq .res<|.lit<|.bool dj).value [] {args:=args,res:=da (.bool dj),after:=args}=da (.bool<|true==dj)from w_eq_bool (w_res rfl) w_lit) rfl
theorem uW{l:OpenLaw}{n:Nat}{q:ir}{O:List Str}{U:(Str->Option d9)->fh->Prop}{YP:g8->fh->Prop}{d:DefRec}
 (hn:l.most=da n) (a3:d.params.defaults=[])
 (call:∀(w:g8) (i6 I:ej) (Z mb:UZ) (J:dy) (o:l7) (pm L z:d9) (a:dy) (vs:List d9) (ns:List Int),
   Ground q O [] U w i6 Z mb I.heap->YP w I.heap->
   I.heap.get? J=da o->o.data=.func (docDef d.name d.params d.body d.scope pm L z)->I.heap.CodeRec L d.name->Z d.name=da (.ref J)->
   I.heap.get? a=da {cls:=.type "list",data:=.seq vs.toArray}->R6 vs ns->ns.length<=n->I.gens = #[]->
   codeAny (eF l.prog w) E9 (.call (.ref J) ⟨[.ref a],[]⟩) (λr s'=>r=.ok (.ret<|.bool dj)/\OldK I.heap s'.heap/\s'.os=I.os/\Dp s'.gens) I):
 WalkO q O U YP l.row.toRowW d [] (λf vs=>PySem.call f vs):=by
 intro w i6 I Z mb G Y J o pm L z s kV C y g e h A b F as i H K j M;obtain rfl:s=.none:=Dflts.none e a3;obtain rfl:kV=.none:=Dflts.noKw e;obtain⟨a,vs,ns,rfl,rfl,k,m,p⟩:=dX hn i j;refine enter_call<|SJ (call w i6 I Z mb J o pm L z a vs ns G Y C (fd_plain y) g h k m p A) λr s' E=>?_;obtain⟨rfl,t,u,x⟩:=E;exact⟨.inl ⟨.bool dj,.bool dj,[],rfl,λ_=>rfl,.bool dj,fC l _,λ_=>⟨_y.nil,λ_ B=>(nomatch B)⟩⟩,t,u,x⟩
end Att
namespace L2
open PySem PySem.Spec PyProof.Rows
theorem wm:∀{vs:List d9} {ns:List Int},R6 vs ns->f6 (ns.map V.int) vs
 |_,_,.nil=>.nil
 |_,_,.cons n t h=>.cons ⟨t,rfl⟩ (wm h)
def FL(H:Hp):Prop:=∀b,H b=none\/∃o a,H b=da (.rb o<|.lst a)
theorem nq{P:ir}{w:g8}{K:MC}{J mb:UZ}{CX:wo}{k:Nat}{Z a:dy}{fd:sa}{x:Str}{sp:Sp}{I:ej}{vs:List d9}{ns:List Int}
 (KX:K.In I.heap) (a4:I.heap.Ns r3 J) (O:I.heap.Ns S' mb) (ab:∀x:Str,x ≠ "__name__"->mb x=De x) (ac:I.heap.NoLimit) (hg:I.gens = #[])
 (L:I.heap.get? a=da {cls:=.type "list",data:=.seq vs.toArray}) (hi:R6 vs ns) (hl:ns.length<=fy) (hr:pf k E9)
 (F:∀base:fh,K.In base->base.Ns r3 J->r9 P w K J base CX k Z fd [x] sp) (am:∀(s:ej) (u:d9),R0 s fd ⟨[u],[]⟩ [(x,u)])
 (an:∀H:Hp,FL H->hM K H a (ns.map V.int)->sp [.ref a] H (λv _=>v=.bl dj) λ_ _ _=>False)
 (ap:∀H e s',CX [] H I (λ_ _ _=>False) e s'->False):
 codeAny (eF P w) E9 (.call (.ref Z) ⟨[.ref a],[]⟩) (λr s'=>r=.ok (.ret<|.bool dj)/\OldK I.heap s'.heap/\s'.os=I.os/\Dp s'.gens) I:=by
 have C:=wm hi;have as:=hi.length;have p:∀H:Hp,FL H->hM K H a (ns.map V.int)->md P w H I.heap->(∀b,H b≠none->b=a)->(H a≠none->K.lookup a=none)->
  codeAny (eF P w) E9 (.call (.ref Z) ⟨[.ref a],[]⟩) (λr s'=>r=.ok (.ret<|.bool dj)/\OldK I.heap s'.heap/\s'.os=I.os/\Dp s'.gens) I:=by
  intro H B X j A T;have f:∀{b:dy} {o:l7},I.heap.get? b=da o->H b=none->(nF I.heap H).get? b=da o:=λe n=>nE e n;have b9:∀{b:dy} {o:l7} {i:Array DictEntry} {U:Nat},I.heap.get? b=da o->o.data=.dict i U->H b=none:=λ{b o i U} e d=>by
   cases q:H b with
   |none=>rfl
   |some u=>
    have l:b=a:=A b (by rw[q];simp);subst l;rw[L]at e;cases e;have G:Data.seq vs.toArray _=Data.dict i U:=d;cases G
  have a1:∀{b:dy} {m:UZ},I.heap.Ns b m->(nF I.heap H).Ns b m:=λ{b m} ⟨o,i,U,e,d,r⟩=>⟨o,i,U,f e<|b9 e d,d,r⟩;have t:K.In (nF I.heap H):=λb o e=>f (KX b o e) (by
   cases q:H b with
   |none=>rfl
   |some u=>
    have l:b=a:=A b (by rw[q];simp);subst l;rw[T (by rw[q];simp)]at e;cases e)
  have W:Mod K J (nF I.heap H):=⟨t,a1 a4,⟨mb,a1 O,ab⟩,let ⟨mc,R,S⟩:=ac;⟨mc,a1 R,S⟩⟩;have M:Dt P w K J (nF I.heap H) E9 [] I H:=⟨rfl,W,λb o e=>ua e,Nat.le_of_eq<|gM _ _,trivial,λb O=>absurd (show b∈([]:List dy)from O) ⋯,j,.of_eq hg⟩;refine SJ ((F _ t<|a1 a4).run E9 [] I H ⟨[.ref a],[]⟩ [.ref a] [.ref a] _ _ hr M (am I<|.ref a) (.cons rfl .nil) (an H B X)) λr s' h=>?_;cases r with
  |error e=>exact(ap H e s' h).elim
  | ok Q=>
   cases Q with
   |next=>exact Pk h
   |brk=>exact Pk h
   |cont=>exact Pk h
   | ret u=>
    obtain⟨v,H',os,g,un,E,r',q⟩:=h;have q':v=.bl dj:=q;subst q';obtain rfl:u=Value.bool dj:=r';refine⟨rfl,OldK.of_keep λb o e=>?_,os,g⟩;cases q:H b with
    |none=>exact un.keep b o e q (by intro z;exact absurd (show b∈([]:List dy)from z) ⋯) ⋯
    | some u=>
     rcases B b with z|⟨ob,xs,z⟩
     ·rw[q]at z;cases z
     ·have z2:=un.wa b ob _ z
      obtain⟨y,_⟩:=j b _ z;obtain⟨N,_⟩:=E b _ z2;rw[e]at y;cases y;exact N
 cases hk:K.lookup a with
 |some o=>
  have e:=KX a o hk;rw[L]at e;cases e;refine p (λ_=>none) (λ_=>.inl rfl) (.inr ⟨_,vs.toArray,_,hk,rfl,rfl,rfl,by rw[MP,as];exact hl,by simpa using C⟩) (λb u z=>by have Y:(none:Option HO)=da u:=z;cases Y) (λb z=>absurd rfl z) λz=>absurd rfl z
 | none=>
  refine p (λb=>if b=a then da (.rb {cls:=.type "list",data:=.seq vs.toArray} (.lst (ns.map V.int)))else none) (λb=>?_) (.inl (.inr ⟨{cls:=.type "list",data:=.seq vs.toArray},UJ rfl⟩)) (λb u z=>?_) (λb z=>?_) λ_=>hk
  ·by_cases O:b=a
   ·exact .inr ⟨_,_,UJ O⟩
   ·exact .inl<|UY O
  ·by_cases O:b=a
   ·have Y:=(UJ O).symm.trans z
    cases Y;subst O;exact⟨L,by rw[Nf];exact hl,vs,_,C,L⟩
   ·have Y:=(UY O).symm.trans z
    cases Y
  ·by_cases O:b=a
   ·exact O
   ·exact absurd (UY O) z
abbrev p8{K:MC}{h:fh}(_:K.In h):MC:=K
theorem rE{l:PySem.W.OpenLaw}{n k:Nat}{q:ir}{a1:List Str}{Z:(Str->Option d9)->fh->Prop}{I:g8->fh->Prop}{d:DefRec}{K:Params->MC}{CX:g8->wo}{sp:g8->Sp}{x:Str}
 (hn:l.most=da n) (a3:n<=fy) (a4:d.params.defaults=[]) (hr:pf k E9)
 (hY:∀(w:g8) (h:fh),I w h->(K w.params).In h)
 (F : ∀(w:g8) (z:UZ) (J:dy) (h:fh),(K w.params).In h->h.Ns r3 z->z d.name=da (.ref J)->
   ∃L:sa,(∀(s:ej) (u:d9),R0 s L ⟨[u],[]⟩ [(x,u)])/\
    ∀base:fh,(K w.params).In base->base.Ns r3 z->r9 l.prog w (K w.params) z base (CX w) k J L [x] (sp w))
 (a7:∀(w:g8) (H:Hp) (a:dy) (ns:List Int),ns.length<=n->FL H->hM (K w.params) H a (ns.map V.int)->sp w [.ref a] H (λv _=>v=.bl dj) λ_ _ _=>False)
 (a8:∀(w:g8) (H:Hp) (s:ej) (e:d9) (s':ej),CX w [] H s (λ_ _ _=>False) e s'->False):
 PySem.W.WalkO q a1 Z I l.row.toRowW d [] (λf vs=>PySem.call f vs):=by
 refine Att.uW hn a4 λw j i z R J o S N t a vs ns G Y Q P M m p r O E=>?_;have U:=hY w _ Y;obtain⟨L,C,y⟩:=F w z J _ U G.T.g m;exact nq U G.T.g G.T.b G.T.builtins G.T.nolimit E p r (NJ O a3) hr y C (λH A B=>a7 w H a ns O A B) λH e s'=>a8 w H i e s'
theorem ER{l:PySem.W.OpenLaw}{n k:Nat}{q:ir}{O:List Str}{U:(Str->Option d9)->fh->Prop}{I:g8->fh->Prop}{d:DefRec}{K:Params->MC}{CX:wo}{sp:MC->Sp}{x:Str}
 (hn:l.most=da n) (Y:n<=fy) (Z:d.params.defaults=[]) (hr:pf k E9)
 (hY:∀(w:g8) (h:fh),I w h->(K w.params).In h)
 (F : ∀(w:g8) (z:UZ) (J:dy) (h:fh),(K w.params).In h->h.Ns r3 z->z d.name=da (.ref J)->
   ∃L:sa,(∀(s:ej) (u:d9),R0 s L ⟨[u],[]⟩ [(x,u)])/\
    ∀base:fh,(K w.params).In base->base.Ns r3 z->r9 l.prog w (K w.params) z base CX k J L [x] (sp<|K w.params))
 (a4:∀(K:MC) (H:Hp) (a:dy) (ns:List Int),ns.length<=n->FL H->hM K H a (ns.map V.int)->sp K [.ref a] H (λv _=>v=.bl dj) λ_ _ _=>False)
 (a5:∀(H:Hp) (s:ej) (e:d9) (s':ej),CX [] H s (λ_ _ _=>False) e s'->False):
 PySem.W.WalkO q O U I l.row.toRowW d [] (λf vs=>PySem.call f vs):=
 rE (K:=K) (CX:=λ_=>CX) (sp:=λw=>sp<|K w.params) hn Y Z hr hY F (λw H a ns b g i=>a4 (K w.params) H a ns b g i) λ_ H s e s'=>a5 H s e s'
noncomputable def QC(s:i7):Arguments:=match s with
 |.FunctionDef _ a _ _ _ _ _ _ _ _=>a
 |_=>{posonlyargs:=[],args:=[],vararg:=none,kwonlyargs:=[],kw_defaults:=[],kwarg:=none,defaults:=[]}
def kO(s:i7):List i7:=match s with
 |.FunctionDef _ _ b _ _ _ _ _ _ _=>b
 |_=>[]
noncomputable def jB(s:i7):h7:=match s with
 |.FunctionDef _ _ _ _ _ _ a _ _ _=>a
 |_=>{kind:=.function,names:=[],isGenerator:=dt,isCoroutine:=dt}
abbrev uR:wo:=λ_ _ _ _ _ _=>False
abbrev E0:XK:=λ_ _ _=>False
theorem BR:iQ uR X E0:=λ_ _ _ _ _ _ _ h=>h.elim
structure D9(K:MC)(x qual:Str)(st:i7)(f:dy)(fd:sa):Prop where
 ex:∃(oc:d9) (od:Option dy) (kV doc pm:d9) (an:Option dy) (n_ ct:d9) (UM:Array (Option d9)),
  fd=Rz x qual (QC st) (kO st) (jB st) .none kV doc pm an n_ ct/\K.lookup f=da ⟨oc,od,.func fd,UM⟩/\SW K n_ qual=dj
 kp:Rx K (.ref f)=dj
section
variable{P:ir}{w:g8}{K:MC}{mg:UZ}{base:fh}
theorem D9.ok{x qual:Str}{st:i7}{f:dy}{J:sa}{N ps:List Str}{k:Nat}{sp:Sp}(F:D9 K x qual st f J)(S:N3 N ps (jB st))(len:∀vs H Q E,sp vs H Q E->vs.length=ps.length)
 (I:∀(z:d9) (A:lp) (outer:List ml) (s:ej) (H:Hp) (vs:List V) (Q:VK) (E:XK),pf k (A.deeper<|envOfC qual (jB st) s.heap.objs.size f z)->sp vs H Q E->
   ∃t,u4 (Vr uR P w K mg base N qual (jB st) f z A outer s H E).rh (kO st) t/\t {nx:=λ_ H'=>Q .el H',rt:=Q} (QW N vs) H):r9 P w K mg base uR (k+1) f J ps sp:=by
 obtain⟨g,i,kV,a,j,d,z,e,b,rfl,lk,O⟩:=F.ex;refine Ea lk O S len λA outer s H vs Q E U Y=>?_;obtain⟨t,h,q⟩:=I z A outer s H vs Q E U Y;exact⟨t,h.rh,q⟩
theorem CZ{x qual:Str}{st:i7}{f:dy}{Y:d9}{od L:Option dy}{J:Array (Option d9)}{kV I O z ct:d9}(l:K.lookup f=da ⟨Y,od,.func<|Rz x qual (QC st) (kO st) (jB st) .none kV I O L z ct,J⟩)
 (c:SW K z qual=dj) (k:Rx K (.ref f)=dj):D9 K x qual st f (Rz x qual (QC st) (kO st) (jB st) .none kV I O L z ct):=⟨⟨Y,od,kV,I,O,L,z,ct,J,rfl,l,c⟩,k⟩
end
def g5(H H':Hp):Prop:=∀b o,H b=da o->H' b=da o
theorem g5.refl(H:Hp):g5 H H:=λ_ _ h=>h
theorem g5.trans(a:g5 H H1)(b:g5 H1 H2):g5 H H2:=λc o h=>b c o<|a c o h
theorem g5.free(e:g5 H H')(h:H' l=Option.none):H l=Option.none:=by
 cases q:H l with
 |none=>rfl
 |some o=>
  rw[e l o q]at h;cases h
theorem g5.seq{K:MC}{H H':Hp}{a:dy}{xs:List V}(e:g5 H H')(h:hM K H a xs):hM K H' a xs:=by
 rcases h with(h|⟨o,h⟩)|h
 ·exact .inl<|.inl<|e _ _ h
 ·exact .inl<|.inr ⟨o,e _ _ h⟩
 ·exact .inr h
noncomputable def Yd(cells:List (Str×dy)):List (Str×A9)->List (Str×dy)->List (Str×dy)
 |[],acc=>acc
 |(n,k)::r,acc=>Yd cells r<|if k==Nu then (match cells.lookup n with|some c=>(n,c)::acc|none=>acc)else acc
theorem vk(f:Str×A9->List (Str×dy)->n0 (ForInStep<|List<|Str×dy))
 (z:∀name kind O,f (name,kind) O=if kind==Nu then (do let a<-cellOf env name;pure (.yield ((name,a)::O)))else pure (.yield O)):
 ∀(names:List (Str×A9)) (acc:List (Str×dy)),(∀n,(n,Nu)∈names->∃c,env.cells.lookup n=da c)->
  forIn names acc f=(pure (Yd env.cells names acc):n0 _)
 |[],acc,_=>by rw[Sv];rfl
 | (n,k)::r,acc,h=>by
  rw[Sd,z];have U:∀n,(n,Nu)∈r->∃c,env.cells.lookup n=da c:=λm d=>h m<|Ng _ d;unfold Yd;by_cases I:(k==Nu)=dj
  ·rw[UJ I,UJ I]
   have b:k=Nu:=by simpa using I
   subst b;obtain⟨c,Y⟩:=h n Nc;have e:cellOf env n=pure c:=by unfold cellOf;rw[Y]
   rw[e,Y];exact vk f z r _ U
  ·rw[UY I,UY I]
   exact vk f z r acc U
theorem KW(h:∀n,(n,Nu)∈scope.names->∃c,env.cells.lookup n=da c):
 closureFor scope env=pure (Yd env.cells scope.names []):=by
 simp only[closureFor];rw[vk (env:=env) _ (λb a I=>by cases hk:a==Nu<;>simp[hk]) scope.names [] h];rfl
theorem ya
 (I:Q {scope:=scope,locals:=s.heap.objs.size,globals:=globals,cells:=vt (s.heap.objs.size+1) scope.names cl,qual:=qual,func:=none,code:=env.code,frame:=env.frame,builtins:=env.builtins}
   {s with heap:=D3 (s.heap.push {cls:=.type "dict",data:=.dict #[]}) scope.names}):
 wpAny M A (_b scope globals cl [] qual none .none (da env)) Q E s:=by
 simp only[_b,Option.isSome_some,if_true];refine MD (wpAny_alloc ?_);refine MD (wpAny_layCells _ (λb a cells=>by cases t?:a==Po<;>simp[t?]) _ _ _ _ ?_);rw[show({s with heap:=s.heap.push {cls:=.type "dict",data:=.dict #[]}}:ej).heap.objs.size=s.heap.objs.size+1 from NA ..];exact MD (ML (ML I))
theorem av:∀{names:List (Str×A9)} {acc:List (Str×dy)},(n,c)∈Yd cells names acc->(n,c)∈acc\/((n,Nu)∈names/\cells.lookup n=da c)
 |[],acc,h=>.inl h
 | (m,k)::r,acc,h=>by
  unfold Yd at h;rcases av h with g|⟨h1,h2⟩
  ·clear h
   by_cases I:(k==Nu)=dj
   ·rw[UJ I]at g
    have O:k=Nu:=by simpa using I
    subst O;cases e:cells.lookup m with
    |none=>rw[e]at g;exact .inl g
    |some U=>
     rw[e]at g;rcases MQ.mp g with g|g
     ·cases g;exact .inr ⟨Nc,e⟩
     ·exact .inl g
   ·rw[UY I]at g;exact .inl g
  ·exact .inr ⟨Ng _ h1,h2⟩
theorem JY:∀{names:List (Str×A9)} {acc:List (Str×dy)},((acc.lookup n).isSome=dj\/((n,Nu)∈names/\(cells.lookup n).isSome=dj))->((Yd cells names acc).lookup n).isSome=dj
 |[],acc,h=>by
  rcases h with h|⟨h,_⟩
  ·exact h
  ·cases h
 | (m,k)::r,acc,h=>by
  unfold Yd;apply JY;by_cases I:(k==Nu)=dj
  ·rw[UJ I]
   have U:k=Nu:=by simpa using I
   subst U;cases e:cells.lookup m with
   | none=>
    rcases h with h|⟨h1,h2⟩
    ·exact .inl h
    ·rcases MQ.mp h1 with h1|h1
     ·cases h1;rw[e]at h2;cases h2
     ·exact .inr ⟨h1,h2⟩
   | some Y=>
    dsimp only;by_cases O:n=m
    ·subst O;left;simp
    ·rcases h with h|⟨h1,h2⟩
     ·left;rw[Ob];split<;>simp_all
     ·rcases MQ.mp h1 with h1|h1
      ·cases h1;exact absurd rfl O
      ·exact .inr ⟨h1,h2⟩
  ·rw[UY I]
   rcases h with h|⟨h1,h2⟩
   ·exact .inl h
   ·rcases MQ.mp h1 with h1|h1
    ·cases h1;exact absurd rfl I
    ·exact .inr ⟨h1,h2⟩
theorem kj:∀{names:List (Str×A9)} {k:Nat} {acc:List (Str×dy)},(n,c)∈vt k names acc->(n,c)∈acc\/(k<=c/\(n,Po)∈names)
 |[],_,_,h=>.inl h
 | (m,kd)::r,k,acc,h=>by
  unfold vt at h;split at h
  ·rename_i I
   have O:kd=Po:=by simpa using I
   subst O;rcases kj h with h|⟨h1,h2⟩
   ·rcases MQ.mp h with h|h
    ·cases h;exact .inr ⟨MM _,Nc⟩
    ·exact .inl h
   ·exact .inr ⟨by omega,Ng _ h2⟩
  ·rcases kj h with h|⟨h1,h2⟩
   ·exact .inl h
   ·exact .inr ⟨h1,Ng _ h2⟩
theorem yK:∀{names:List (Str×A9)} {k:Nat} {acc:List (Str×dy)},(∀p∈acc,∀q∈acc,p.2=q.2->p.1=q.1)->(∀p∈acc,p.2<k)->
 ∀p∈vt k names acc,∀q∈vt k names acc,p.2=q.2->p.1=q.1
 |[],_,_,h,_=>h
 | (m,kd)::r,k,acc,h,hl=>by
  unfold vt;split
  ·refine yK (λp I q O e=>?_) (λp I=>?_)
   ·rcases MQ.mp I with rfl|I<;>rcases MQ.mp O with rfl|O
    ·rfl
    ·have U:k=q.2:=e
     exact absurd (U ▸ hl q O)<|NP _
    ·have U:p.2=k:=e
     exact absurd (U ▸ hl p I)<|NP _
    ·exact h p I q O e
   ·rcases MQ.mp I with rfl|I
    ·exact OC _
    ·exact Oc<|hl p I
  ·exact yK h hl
theorem QE:∀{names:List (Str×A9)} {h:fh} {acc:List (Str×dy)} {n:Str} {c:dy},(n,c)∈vt h.objs.size names acc->(n,c)∈acc\/(D3 h names).IsCell c none
 |[],_,_,_,_,hm=>.inl hm
 | (m,kd)::r,h,acc,n,c,hm=>by
  unfold vt at hm;unfold D3;split at hm
  ·rename_i I
   rw[UJ I];have e:h.objs.size+1=(h.push {cls:=.type "cell",data:=.cell none}).objs.size:=(NA ..).symm;rw[e]at hm;rcases QE hm with hm|hm
   ·rcases MQ.mp hm with hm|hm
    ·cases hm
     have O:(h.push {cls:=.type "cell",data:=.cell none}).IsCell h.objs.size none:=⟨{cls:=.type "cell",data:=.cell none},MU _ rfl,rfl⟩;exact .inr (O.keeps λb o q=>Sz _ _ b o q)
    ·exact .inl hm
   ·exact .inr hm
  ·rename_i I
   rw[UY I];exact QE hm
theorem vF{J:Type}{l:List (Str×J)}(z:(l.map (·.1)).Nodup):∀{n:Str} {a:J},(n,a)∈l->l.lookup n=da a:=by
 induction l with
 |nil=>intro n a h;cases h
 | cons p r I=>
  intro n a h;obtain⟨m,b⟩:=p;rw[Nn,Rm]at z;rw[Ob];rcases MQ.mp h with h|h
  ·cases h;simp
  ·have O:(n==m)=dt:=by
    have:n≠m:=λe=>z.1 (by rw[<-e];exact Ny.mpr ⟨(n,a),h,rfl⟩);simpa using this
   rw[O];exact I z.2 h
theorem vP(scope:h7)(env:ml)(x:Str):(C3 scope env).names.lookup x =
 (scope.names.lookup x).map λk=>if (k==Nu&&env.scope.kind ==.function&&env.kindOf x==da .cell)then Po else k:=by
 unfold C3;dsimp only;generalize scope.names=l
 induction l with
 |nil=>rfl
 | cons p r O=>
  obtain⟨n,k⟩:=p;rw[Nn];cases hx:x==n with
  |true=>
   have e:x=n:=by simpa using hx
   subst e;rw[Ob,Ob];dsimp only;by_cases I:(k==Nu&&env.scope.kind ==.function&&env.kindOf x==da .cell)=dj
   ·rw[UJ I,beq_self_eq_true];dsimp only[Ss];rw[UJ I]
   ·rw[UY I,beq_self_eq_true];dsimp only[Ss];rw[UY I]
  |false=>
   have:∀U,List.lookup x ((n,U)::(r.map λx=>match x with|(n,k)=>if (k==Nu&&env.scope.kind ==.function&&env.kindOf n==da .cell)=dj then (n,Po)else (n,k)))=List.lookup x (r.map λx=>match x with|(n,k)=>if (k==Nu&&env.scope.kind ==.function&&env.kindOf n==da .cell)=dj then (n,Po)else (n,k)):=λU=>by rw[Ob,hx]
   rw[Ob (k:=n),hx];dsimp only;split
   ·rw[this];exact O
   ·rw[this];exact O
noncomputable def wY(scope:h7)(env:ml)(L:dy):ml:=
 {scope:=C3 scope env,locals:=L,globals:=env.globals,cells:=vt (L+1) scope.names<|Yd env.cells scope.names [],qual:=env.qual,func:=none,code:=env.code,frame:=env.frame,builtins:=env.builtins}
noncomputable def jJ(X:Cx)(scope:h7)(I:List Str)(fp:List dy)(z:ej)(J:Hp):Cx:=
 {X with N:=I,i6:=z,DV:=J,env:=wY scope X.env<|z.heap.objs.size+1,outer:=X.stack,stack:=X.stack,ex:=fp,fn:=λx=>scope.names.lookup x==da .cell,pn:=[],xe:=λ_ _=>False}
structure xb(X:Cx)(scope:h7)(fr:List (Str×Nat)):Prop where
 kind:scope.kind=.function
 nd:(scope.names.map (·.1)).Nodup
 free:∀p∈scope.names,p.2=Nu->X.env.kindOf p.1=da .cell\/X.env.kindOf p.1=da .free
 fr:∀p∈fr,scope.names.lookup p.1=da .free/\X.N[p.2]? = da p.1
noncomputable def oZ(own:List Str)(fr:List (Str×Nat))(z:St):St:=own.map (λ_=>none)++fr.map λp=>(z[p.2]?).join
abbrev V7:l7:={cls:=.type "list",data:=.seq #[]}
abbrev pZ:l7:={cls:=.type "dict",data:=.dict #[]}
theorem nB{X:Cx}{L:UQ}{σ:St}{Z:Hp}{J:ej}{scope:h7}{own:List Str}{fr:List (Str×Nat)}{fp:List dy}(I:Inv X L σ Z J)(ok:xb X scope fr)
 (a5:∀b∈fp,vR X L Z b) (ax:∀b∈fp,∃o,J.heap.get? b=da o):
 Inv (jJ X scope (own++fr.map (·.1)) fp J Z) [] (oZ own fr σ) (upd Z J.heap.objs.size<|.lst []) {J with heap:=D3 ((J.heap.push V7).push pZ) scope.names}:=by
 have H:(J.heap.push V7).objs.size=J.heap.objs.size+1:=NA ..;have z2:((J.heap.push V7).push pZ).objs.size=J.heap.objs.size+2:=by rw[NA,H]
 have a1:∀n c,(n,c)∈Yd X.env.cells scope.names []->(n,Nu)∈scope.names/\X.env.cells.lookup n=da c:=λn c h=>(av h).resolve_left ⋯;have ac:∀n c,X.env.cells.lookup n=da c->c<J.heap.objs.size:=λn c h=>by obtain⟨v,q⟩:=I.cell n c h;exact q.lt
 have K:∀p∈Yd X.env.cells scope.names [],p.2<J.heap.objs.size+1+1:=λp U=>by exact Oc<|Oc<|ac p.1 p.2 (a1 p.1 p.2 U).2
 have hC:(wY scope X.env<|J.heap.objs.size+1).cells=vt (J.heap.objs.size+2) scope.names (Yd X.env.cells scope.names []):=rfl;have a:∀x c,(wY scope X.env<|J.heap.objs.size+1).cells.lookup x=da c->((x,Nu)∈scope.names/\X.env.cells.lookup x=da c)\/(J.heap.objs.size+2<=c/\(x,Po)∈scope.names):=λx c h=>by
  rcases kj (mem_of_lookup h)with h|h
  ·exact .inl<|a1 x c h
  ·exact .inr h
 have B:∀x,(x,Nu)∈scope.names->∃c,X.env.cells.lookup x=da c/\(wY scope X.env<|J.heap.objs.size+1).cells.lookup x=da c:=λx l=>by
  obtain⟨c,d⟩:=I.ok.has x<|ok.free (x,.free) l rfl;have t:((Yd X.env.cells scope.names []).lookup x).isSome=dj:=JY<|.inr ⟨l,by rw[d];rfl⟩;have j:=Rl scope.names (J.heap.objs.size+2) (Yd X.env.cells scope.names [])<|.inr t;obtain⟨F,C⟩:=Oa.mp j;refine⟨c,d,?_⟩;rcases a x F C with⟨_,q⟩|⟨_,q⟩
  ·rw[d]at q;cases q;exact C
  ·exact absurd ((vF ok.nd q).symm.trans (vF ok.nd l)) ⋯
 have keep:∀b o,J.heap.get? b=da o->(D3 ((J.heap.push V7).push pZ) scope.names).get? b=da o:=λb o e=>
  Sz _ _ b o (MF _<|MF _ e)
 have an:∀b∈fp,b<J.heap.objs.size:=λb O=>by obtain⟨o,e⟩:=ax b O;exact MR e
 have fresh:Z J.heap.objs.size=none:=I.ft.fresh<|MM _;have E:∀c,J.heap.objs.size<c->(upd Z J.heap.objs.size<|.lst []) c=none:=λc d=>by rw[zK (OZ d)];exact I.ft.fresh<|Tc d
 obtain⟨m0,M⟩:∃m,(D3 ((J.heap.push V7).push pZ) scope.names).Ns (J.heap.objs.size+1) m:=by have q:=(Heap.Ns.new (J.heap.push V7) (.type "dict")).keeps (λb o e=>Sz scope.names _ b o e);rw[H]at q;exact⟨_,q⟩
 refine⟨⟨I.ok.mod,ok.kind,I.ok.glob,I.ok.blt,TK _,λx y c t j=>?_,λx l=>?_,λx c T h=>?_,I.ok.hd,I.ok.frames,.inl rfl,λb O=>⟨?_,λx c h z=>?_⟩,λb o e=>I.bs b o e,?_,λb o e O=>?_,λb O hs=>?_,I.stack,I.M6⟩,
  rfl,I.bare,Un.laid keep (MM _) fresh,⟨m0,M,λi x v G Y e3=>?_⟩,λx c h=>?_,?_,λx c h=>?_,λp U=>?_,?_,?_⟩
 ·have q:=yK (names:=scope.names) (k:=J.heap.objs.size+2) (acc:=Yd X.env.cells scope.names []) (λp U q hq e=>I.ok.inj p.1 q.1 p.2 (a1 _ _ U).2 (by rw[e];exact(a1 _ _ hq).2)) K
  exact q (x,c) (mem_of_lookup t) (y,c) (mem_of_lookup j) rfl
 ·have f:(C3 scope X.env).names.lookup x=da .cell\/(C3 scope X.env).names.lookup x=da .free:=l
  have:scope.names.lookup x=da .cell\/scope.names.lookup x=da .free:=by
   rw[vP]at f;cases e:scope.names.lookup x with
   |none=>rw[e]at f;simp at f
   |some k=>
    rw[e]at f;cases k<;>simp at f ⊢
  rcases this with h|h
  ·exact Oa.mp<|Rl scope.names _ _<|.inl h
  ·obtain⟨c,_,j⟩:=B x<|mem_of_lookup h;exact⟨c,j⟩
 ·have N:(scope.names.lookup x==da .cell)=dj:=T
  have P:scope.names.lookup x=da .cell:=by simpa using N
  rcases a x c h with⟨q,_⟩|⟨q,_⟩
  ·exact absurd ((vF ok.nd q).symm.trans P) ⋯
  ·exact NJ (Nt _ 2) q
 ·exact MZ<|Oc<|an b O
 ·rcases a x c h with⟨_,q⟩|⟨q,_⟩
  ·exact(a5 b O).2.2.2.2.1 x c q z
  ·exact absurd (MX (an b O)<|NJ (Nt _ 2)<|z ▸ q)<|NP _
 ·exact NJ I.ok.B7 I.sz
 ·rcases (a5 b O).2.2.2.1 with q|q
  ·exact I.ok.M3 b o e q
  ·exact absurd (MX (MR e)<|NJ I.ok.B7 q)<|NP _
 ·rcases MQ.mp (I.M7 b hs)with q|q
  ·exact(a5 b O).2.1 q
  ·exact(a5 b O).2.2.1 q
 ·have hi:i<(own++fr.map (·.1)).length:=(Np.mp G).1
  by_cases s:i<own.length
  ·unfold oZ at Y
   rw[OA (by simpa using s)]at Y;simp[NS,s]at Y
  ·have W:∃p,fr[i-own.length]? = da p/\p.1=x/\(σ[p.2]?).join=da v:=by
    unfold oZ at Y;have g:(own++fr.map (·.1))[i]? = da x:=G;rw[Ow ⋯,NS]at g;rw[Ow (by simpa using s),NS,Nf]at Y;cases q:fr[i-own.length]? with
    |none=>rw[q]at g;cases g
    |some p=>
     rw[q]at g Y;exact⟨p,rfl,by simpa using g,by simpa using Y⟩
   obtain⟨p,U,bl,r⟩:=W;obtain⟨g1,g2⟩:=ok.fr p<|Th U;rw[bl]at g1 g2;have w:σ[p.2]? = da (da v):=by
    cases q:σ[p.2]? with
    |none=>rw[q]at r;cases r
    |some o=>rw[q]at r;simpa using r
   have as:=ok.free (x,.free) (mem_of_lookup g1) rfl;obtain⟨m,hn,hl⟩:=I.loc;obtain⟨u,ru,lk⟩:=hl p.2 x v g2 w (by rcases as with k|k;exact .inr<|.inl k;exact .inr<|.inr k);refine⟨u,ru,.inr ?_⟩;obtain⟨c,Q,R⟩:=B x<|mem_of_lookup g1;have S:J.heap.IsCell c (da u):=by
    rcases lk with⟨k,_⟩|⟨_,F,e,z⟩
    ·rcases as with k'|k'<;>rw[k]at k'<;>cases k'
    ·rw[Q]at e;cases e;exact z
   refine⟨?_,c,R,S.keeps keep⟩;show(C3 scope X.env).names.lookup x=da .cell\/(C3 scope X.env).names.lookup x=da .free;rw[vP,g1];dsimp only[Ss];split
   ·exact .inl rfl
   ·exact .inr rfl
 ·rcases kj (mem_of_lookup h)with q|q
  ·obtain⟨v,A⟩:=I.cell x c (a1 x c q).2
   exact⟨v,A.keeps keep⟩
  ·have q2:=mem_of_lookup h
   have q3:(x,c)∈vt ((J.heap.push V7).push pZ).objs.size scope.names (Yd X.env.cells scope.names []):=by rw[z2];exact q2
   rcases QE q3 with q4|q4
   ·obtain⟨v,A⟩:=I.cell x c (a1 x c q4).2
    exact⟨v,A.keeps keep⟩
   ·exact⟨none,q4⟩
 ·exact E _<|OC _
 ·rcases a x c h with⟨_,q⟩|⟨q,_⟩
  ·rw[zK (MZ<|ac x c q)];exact I.vu x c q
  ·exact E c<|MX (Oc<|OC _) q
 ·exact absurd (show p∈([]:UQ)from U) ⋯
 ·refine I.ft.laid keep (MM _) ⟨rn _,[],0,.nil,?_⟩
  exact Sz _ _ _ _<|MF _<|MU _ rfl
 ·show(oZ own fr σ).length=(own++fr.map (·.1)).length
  simp[oZ]
theorem vK(I:Nat->ej->Prop)
 (L : ∀n s,I n s->wpAny (eF prog w) A (z8 it) (λr O=>match r with
   |none=>R (.ok .next) O
   | some v=>wpAny (eF prog w) A (T9 target it v) (λ_ O=>wpAny (eF prog w) A (Dc target env v) (λ_ Y=>
    wpAny (eF prog w) A (forIn ifs dj λc r=>if r=dj then do let ok<-F3 c env (eA c env);pure (SH ok)else pure (SH r)) (λok U=>
     if ok=dj then wpAny (eF prog w) A (eA elt env) (λx z=>
      wpAny (eF prog w) A (call (.builtin "list.append") [acc,x]) (λ_ J=>∃m,m<n/\I m J) (λ_ _=>False) z) (λ_ _=>False) U
     else ∃m,m<n/\I m U) (λ_ _=>False) Y) (λ_ _=>False) O) (λ_ _=>False) O) (λ_ _=>False) s)
 (n:Nat) (h:I n s):
 codeAny (eF prog w) A (.compLoop (.ListComp elt [⟨target,iter,ifs,0⟩] scope pos) 0 it acc env) R s:=by
 refine codeAny_loop rfl I (λn s j=>?_) n h;show wpAny _ A ((compTurn (.ListComp elt [⟨target,iter,ifs,0⟩] scope pos) 0 it acc env).onRaise (λx=>do UI x env;theTreesLotGoes x)) _ _ s;refine wpAny_noted ?_;rw[compTurn_list];refine MD<|Uo<|MD<|Nv (L n s j) (λr O b=>?_) λ_ _ a=>a.elim;cases r with
 |none=>exact ML b
 | some v=>
  refine MD<|Nv b (λ_ k i=>?_) λ_ _ a=>a.elim;refine MD<|Nv i (λ_ Y e=>MD<|Nv e (λok U d=>?_) λ_ _ a=>a.elim) λ_ _ a=>a.elim;cases ok with
  |false=>exact ML ⟨rfl,d⟩
  |true=>
   exact MD<|MD<|Nv d (λx z f=>MD<|Nv f (λ_ J g=>ML<|ML ⟨rfl,g⟩) λ_ _ a=>a.elim) λ_ _ a=>a.elim
noncomputable def Ar(X:Cx)(z:List eK)(t:TT):Prop:=
 ∀(a:UQ) (s:ej) (b:St) (H:Hp) (Q:Bool->Hp->Prop),Inv X a b H s->t b H Q->
  wpAny (eF X.prog X.w) X.A (forIn z dj λc r=>if r=dj then do let ok<-F3 c X.env (eA c X.env);pure (SH ok)else pure (SH r)) (TP X a b Q) X.xe s
def FW:TT:=λ_ H Q=>Q dj H
theorem ag:Ar X [] FW:=λ_ _ _ H _ I h=>wpAny_tests_nil ⟨H,I,h⟩
theorem af(h:PT X c t):Ar X [c] t:=λa s b H Q I O=>wpAny_tests_one<|h a s b H Q I O
noncomputable def CW(J:It)(g:TG)(L:TT)(z:TE)(D:dy)(Q:VK)(W:Nat->Nat->List V->St->Hp->Prop):Prop:=
 ∀i m a f H,W i m a f H->H D=da (.lst a)/\((J.stop i H/\Q (.ref D) H)\/(J.go i H/\a.length<fy/\∀x e,J.DT i H x e->g x f e λI h=>L I h λb O=>
  if b=dj then z I O λv U=>U D=da (.lst a)/\∃d,d<m/\W (i+1) d (a++[v]) I (upd U D<|.lst<|a++[v])else ∃d,d<m/\W (i+1) d a I O))
noncomputable def ot(X:Cx)(z:UQ)(H:Hp)(L:dy):Prop:=
 H L=none/\L≠X.env.locals/\X.i6.heap.objs.size<=L/\(∀x c,X.env.cells.lookup x=da c->c≠L)/\∀p∈X.pn++z,p.1≠L
theorem oh
 (hc:X.calm=dj) (I:Inv X pins σ H2 s2) (ok:xb X scope fr) (T:Turn X.prog X.w X.K tg J fp it tn) (st:tn 0 s2.heap) (Y:∀b∈fp,vR X pins H2 b)
 (hg:PG (jJ X scope (own++fr.map (·.1)) fp s2 H2) tg g) (ht:Ar (jJ X scope (own++fr.map (·.1)) fp s2 H2) ifs tt) (he:PE (jJ X scope (own++fr.map (·.1)) fp s2 H2) elt te)
 (hW:∀D,H2 D=none->∃W:Nat->Nat->List V->St->Hp->Prop,(∃m,W 0 m [] (oZ own fr σ) (upd H2 D<|.lst []))/\CW J g tt te D Q W):
 wpAny (eF X.prog X.w) X.A (_c []) (λacc L=>wpAny (eF X.prog X.w) X.A (_b scope X.env.globals (Yd X.env.cells scope.names []) [] X.env.qual none .none (da X.env)) (λab Z=>
  codeAny (eF X.prog X.w) X.A (.compStart (.ListComp elt [⟨tg,iter,ifs,0⟩] scope pos) 0 (.ref it) acc {ab with scope:=C3 scope X.env})
   (λr s'=>(∃f,r=.ok f)/\∃D H',acc=.ref D/\Inv X pins σ H' s'/\Q (.ref D) H'/\(∃m,s'.heap.Ns ab.locals m)/\ot X pins H' ab.locals) Z) E L) E s2:=by
 have b0:∀b∈fp,∃o,s2.heap.get? b=da o:=λb O=>by obtain⟨o,e,_⟩:=T.obj 0 _ st b O;exact⟨o,e⟩
 have N:=nB (own:=own) I ok Y b0;obtain⟨W,⟨m0,w0⟩,cw⟩:=hW _ I.fresh;refine Ox<|ya ?_;have z1:(s2.heap.push V7).objs.size=s2.heap.objs.size+1:=NA ..;show codeAny _ _ (.compStart _ 0 (.ref it) (.ref s2.heap.objs.size) {scope:=C3 scope X.env,locals:=(s2.heap.push V7).objs.size,globals:=X.env.globals,cells:=vt ((s2.heap.push V7).objs.size+1) scope.names<|Yd X.env.cells scope.names [],qual:=X.env.qual,func:=none,code:=X.env.code,frame:=X.env.frame,builtins:=X.env.builtins})
  (λr s'=>(∃f,r=.ok f)/\∃D H',Nw s2.heap.objs.size=.ref D/\Inv X pins σ H' s'/\Q (.ref D) H'/\(∃m,s'.heap.Ns (s2.heap.push V7).objs.size m)/\ot X pins H' (s2.heap.push V7).objs.size) {s2 with heap:=D3 ((s2.heap.push V7).push pZ) scope.names}
 rw[z1];have b9:tn 0 (D3 ((s2.heap.push V7).push pZ) scope.names):=T.keep 0 _ _ st λb _ o e=>Sz _ _ b o<|MF _<|MF _ e;have c7:∀b∈fp,b<s2.heap.objs.size:=λb O=>by obtain⟨o,e⟩:=b0 b O;exact MR e
 have ac:∀{H':Hp},(∀b∈fp,H' b=none)->∀b∈fp,vR (jJ X scope (own++fr.map (·.1)) fp s2 H2) [] H' b:=λhn b O=>
  ⟨hn b O,(N.ok.O6 b O).1,N.ok.L5 b O,.inl O,(N.ok.O6 b O).2,λp hp=>absurd (show p∈([]:UQ)from hp) ⋯⟩
 have bb:codeAny (eF X.prog X.w) X.A (.compLoop (.ListComp elt [⟨tg,iter,ifs,0⟩] scope pos) 0 (.ref it) (.ref s2.heap.objs.size)<|wY scope X.env<|s2.heap.objs.size+1)
  (λr s'=>(∃f,r=.ok f)/\∃D H',Nw s2.heap.objs.size=.ref D/\Inv X pins σ H' s'/\Q (.ref D) H'/\(∃m,s'.heap.Ns (s2.heap.objs.size+1) m)/\ot X pins H' (s2.heap.objs.size+1)) {s2 with heap:=D3 ((s2.heap.push V7).push pZ) scope.names}:=by
  refine vK (λn s'=>∃i B C H',Inv (jJ X scope (own++fr.map (·.1)) fp s2 H2) [] C H' s'/\tn i s'.heap/\(∀b∈fp,H' b=none)/\W i n B C H') ?_ m0
   ⟨0,[],_,_,N,b9,λb O=>by rw[zK (MZ<|c7 b O)];exact(Y b O).1,w0⟩
  rintro n s3 ⟨i,B,a,H,I3,t,bf,w3⟩;obtain⟨hD,c9⟩:=cw i n B a H w3;rcases c9 with⟨y,qn⟩|⟨go,hz,step⟩
  ·refine f7 (T.done (jJ X scope (own++fr.map (·.1)) fp s2 H2) rfl rfl rfl hc i [] s3 a H _ I3 (ac bf) t y) λr s4 U=>?_
   obtain⟨hr,j⟩:=U;subst hr;refine⟨⟨_,rfl⟩,_,H,rfl,I.S_ (ch:=fp) j.os j.base j.ft j.bare<|λb O=>⟨(Y b O).2.2.2.1,(Y b O).2.1,(Y b O).2.2.2.2.1,(Y b O).2.2.2.2.2⟩,qn,?_,j.free,?_,?_,?_,?_⟩
   ·obtain⟨m,hn,_⟩:=j.loc
    exact⟨m,hn⟩
   ·exact OZ<|Oc I.lt
   ·exact Nat.le_succ_of_le I.sz
   ·intro x c e z
    obtain⟨v,q⟩:=I.cell x c e;exact absurd (Oc q.lt) (by rw[z];exact NP _)
   ·intro p hp z
    exact absurd (Oc<|MR (I.pin p hp).1) (by rw[z];exact NP _)
  ·refine f7 (T.item (jJ X scope (own++fr.map (·.1)) fp s2 H2) rfl rfl rfl hc i [] s3 a H _ I3 (ac bf) t go) λr s4 U=>?_
   obtain⟨u,hr,h4⟩:=U;subst hr;refine f7 h4 λ_ s5 U=>?_;obtain⟨x,H5,I5,r5,y5,am,cl⟩:=U;have cm:=I5.pinned (ac cl)<|T.obj _ _ am;refine f7 (hg _ s5 a H5 x u _ cm r5<|step x H5 y5) λ_ s6 U=>?_;obtain⟨h,H6,I6,q6⟩:=U;refine f7 (ht _ s6 h H6 _ I6 q6) λb s7 U=>?_;obtain⟨H7,P,R⟩:=U;have after:∀{G:St} {M:Hp} {s:ej},Inv (jJ X scope (own++fr.map (·.1)) fp s2 H2) ([]++YK fp s5.heap) G M s->tn (i+1) s.heap/\∀b∈fp,M b=none:=λ{G M s} k=>by refine⟨T.keep _ _ _ am λb O o e=>(k.pin (b,o)<|Nb _<|Nb _<|vE O e).1,λb O=>?_⟩;obtain⟨o,e,d⟩:=T.obj _ _ am b O;exact(k.pin (b,o)<|Nb _<|Nb _<|vE O e).2.1
   cases b with
   |false=>
    rw[UY Nd]at R ⊢;obtain⟨m',hm,w7⟩:=R;exact⟨m',hm,i+1,B,h,H7,P.P9,(after P).1,(after P).2,w7⟩
   |true=>
    rw[UJ rfl]at R ⊢;refine f7 (he _ s7 h H7 _ P R) λv8 s U=>?_;obtain⟨x8,M,k,r8,bn,m',hm,w8⟩:=U;obtain⟨zak,l,n8,rv,d3,e8⟩:=k.Dl bn;refine PB F.slot_list_append ⟨_,e8,rfl⟩ F.entry_list_append (F.args_list_append_2 _ _) (PySem.list_append _ l.toArray n8 v8<|by rw[MP];omega) ⟨e8,?_⟩;have S:=k.D2 (its':=l++[v8]) (f:=(·.push v8)) (t':=s.toks) bn e8 ⋯ (rv.append<|.cons r8 .nil) (by rw[NC,Pf];omega);exact⟨m',hm,i+1,B++[x8],h,_,S.P9,(after S).1,(after S).2,w8⟩
 exact codeAny_compStart_list bb<|T.self _ 0 _ _ _ b9 bb
noncomputable def lM(L:TI)(own:List Str)(fr:List (Str×Nat))(g:TG)(I:TT)(z:TE):TE:=λb H Q=>L b H λJ a=>∀D,a D=none->
 ∃W:Nat->Nat->List V->St->Hp->Prop,(∃m,W 0 m [] (oZ own fr b) (upd a D<|.lst []))/\CW J g I z D Q W
section
variable{X:Cx}{scope:h7}{own:List Str}{fr:List (Str×Nat)}{elt tg iter:eK}{ifs:List eK}{pos:gv}{wi:TI}{g:TG}{tt:TT}{te:TE}
theorem aV
 (O:X.calm=dj) (ok:xb X scope fr) (hi:PI X tg iter wi) (U:∀fp Z z,PG (jJ X scope (own++fr.map (·.1)) fp Z z) tg g)
 (Y:∀fp Z z,Ar (jJ X scope (own++fr.map (·.1)) fp Z z) ifs tt) (he:∀fp Z z,PE (jJ X scope (own++fr.map (·.1)) fp Z z) elt te)
 (I:Inv X pins σ H s) (h:lM wi own fr g tt te σ H Q)
 (hR:∀D H' s' L,Inv X pins σ H' s'->Q (.ref D) H'->(∃m,s'.heap.Ns L m)->ot X pins H' L->
   compPost (eF X.prog X.w) X.A X.xe use R (.ref D) L (.ok .next) s')
 (hs:∀x,u5 iter X.env x=pure x:=by intro _;rfl):
 wpAny (eF X.prog X.w) X.A (l? (.ListComp elt [⟨tg,iter,ifs,0⟩] scope pos) scope X.env (firstIterPos [⟨tg,iter,ifs,0⟩] pos) (_c []) dt (eA iter X.env) use) R X.xe s:=by
 refine wpAny_comprehension_free rfl hs (KW λn a=>I.ok.has n<|ok.free (n,.free) a rfl) ok.kind (λx F e=>by rw[<-e];exact vF ok.nd<|show(x.1,x.2)∈scope.names from F) ?_;refine f7 (hi pins s σ H _ I h) λv N l=>f7 l λK Z o=>?_;obtain⟨M,fp,W,J,z,e,d,T,i,f2,B⟩:=o;subst e;refine f7 (oh (own:=own) (Q:=Q) (E:=X.xe) O d ok T i f2 (U fp Z z) (Y fp Z z) (he fp Z z) B) λacc P p=>f7 p λj S t=>SJ t λr s' u=>?_;obtain⟨⟨f,C⟩,D,H',k,b,q,a,y⟩:=u;subst C;subst k;have G:=hR D H' s' j.locals b q a y;cases use<;>exact G
theorem VV(O:X.calm=dj)(ok:xb X scope fr)(hi:PI X tg iter wi)(U:∀fp J z,PG (jJ X scope (own++fr.map (·.1)) fp J z) tg g)
 (Y:∀fp J z,Ar (jJ X scope (own++fr.map (·.1)) fp J z) ifs tt) (Z:∀fp J z,PE (jJ X scope (own++fr.map (·.1)) fp J z) elt te)
 (hs:∀x,u5 iter X.env x=pure x:=by intro _;rfl):
 PE X (.ListComp elt [⟨tg,iter,ifs,0⟩] scope pos) (lM wi own fr g tt te):=by
 intro a s B H Q I h;rw[eval_ListComp];refine aV (use:=none) O ok hi U Y Z I h (λD d l L f q k y=>?_) hs;obtain⟨m,j⟩:=k;obtain⟨p,r,t,u,w⟩:=y;refine⟨m,j,λA n=>⟨.ref D,d,f.turned (t':=l.toks) (it:=L) (λb o i e=>n.extBut b o i e) p r (.inr t) u w,rfl,q⟩⟩
theorem Xx(U:X.N.Nodup)(Y:X.N[i]? = da y)(hy:Loc X.env.scope y)(hf:X.fn y=dj\/X.env.scope.names.lookup y=da .local)
 (Z:X.calm=dj) (ok:xb X scope fr) (hi:PI X tg iter wi) (hg:∀fp J z,PG (jJ X scope (own++fr.map (·.1)) fp J z) tg g)
 (ht:∀fp J z,Ar (jJ X scope (own++fr.map (·.1)) fp J z) ifs tt) (he:∀fp J z,PE (jJ X scope (own++fr.map (·.1)) fp J z) elt te)
 (hs:∀x,u5 iter X.env x=pure x:=by intro _;rfl):
 PS X (.Assign [.Name y py] (.ListComp elt [⟨tg,iter,ifs,0⟩] scope pos) spos) (WS (lM wi own fr g tt te)<|vh i):=by
 have O:∃b:Bool,u7 (.ListComp elt [⟨tg,iter,ifs,0⟩] scope pos) (da (.Name y py)) spos.line X.env=pure b:=⟨_,rfl⟩;obtain⟨b,O⟩:=O;cases b with
 |false=>
  have u:F' [.Name y py] (.ListComp elt [⟨tg,iter,ifs,0⟩] scope pos) spos.line X.env=u7 (.ListComp elt [⟨tg,iter,ifs,0⟩] scope pos) (da (.Name y py)) spos.line X.env:=rfl;exact fB (VV Z ok hi hg ht he hs) (fI U Y hy hf) (by rw[u];exact O)
 | true=>
  intro d s S H D I h;rw[exec_Assign_Name_used _ _ _ _ O];refine MD<|Uo<|MD ?_;show wpAny _ X.A (do let _<-l? (.ListComp elt [⟨tg,iter,ifs,0⟩] scope pos) scope X.env _ (_c []) dt (eA iter X.env) (da (Dc (.Name y py) X.env))) _ _ s;refine MD<|f7 (aV (R:=λ_ f=>SP X d D .next f) (use:=da (Dc (.Name y py) X.env)) Z ok hi hg ht he I h (λj P f L l q C M=>?_) hs) λ_ f q=>ML<|ML q;obtain⟨F,k,G,y4,K⟩:=M;obtain⟨m,B⟩:=C;show wpAny _ _ (Dc (.Name y py) X.env<|.ref j) _ _ _;refine U?<|Yx l U Y hy (v:=.ref j) rfl (λn p r=>?_) hf;obtain⟨a,E,w⟩:=r;have as:L≠a:=by
   rcases w with e|e
   ·rw[e];exact k
   ·exact NH<|y4 _ _ e
  refine⟨m,B.sameBut E as,λQ t=>⟨_,_,p.turned (t':=n.toks) (it:=L) (λb o O e=>t.extBut b o O e) F k (.inr G) y4 K,q⟩⟩
end
inductive Sk where
 |L|T
 deriving DecidableEq
end L2
namespace DL
open PySem L2
inductive D where
 |el|bl (b:Bool)|int (i:Int)|str (x:Str)|tup (xs:List D)|lst (xs:List D)
 |exc (c:Str) (n:Option Int)
 |n9 (ks vs:List D)
 |ng (ks:List (List Int)) (vs:List D)
 |ins (c:Str) (p t:D)
inductive Cell where
 |no|val (d:D)|own (ds:List D)|nest (rows:List (List D))
abbrev Ctx:=List Cell
abbrev CO (a : Type) := Ctx -> Option a
def lim:Nat:=2500
def jx:D->Option (Sk×List D)
 |.tup a=>da (.T,a)
 |.lst a=>da (.L,a)
 |_=>none
def zJ(f:CO D)(γ:Ctx):Option (Sk×List D):=(f γ).bind jx
def jz(f:CO (List D))(γ:Ctx):Option D:=(f γ).map D.lst
def jm(f:CO (List D))(γ:Ctx):Option (Sk×List D):=(f γ).map λa=>(Sk.L,a)
def iz:Option Cell->Option D
 |some (.val d)=>da d
 |_=>none
noncomputable def wc:Option Cell->Option (Sk×List D)
 |some (.val d)=>jx d
 |some (.own ds)=>da (.L,ds)
 |_=>none
def zc(i:Nat)(γ:Ctx):Option D:=iz γ[i]?
def zk(i:Nat)(γ:Ctx):Option (Sk×List D):=wc γ[i]?
noncomputable def zu(d:D):CO D:=λ_=>da d
def zH(F:D->D->Option D)(z I:CO D)(γ:Ctx):Option D:=(z γ).bind λx=>(I γ).bind λy=>F x y
def B6:D->Option Bool
 |.bl b=>da b
 |_=>none
def o6:D->Option Int
 |.int i=>da i
 |_=>none
def sB(f:CO D)(γ:Ctx):Option Bool:=(f γ).bind B6
def QX(f g:CO Bool)(γ:Ctx):Option Bool:=(f γ).bind λb=>if b=dj then g γ else da dt
def lg(f g:CO Bool)(γ:Ctx):Option Bool:=(f γ).bind λb=>if b=dj then da dj else g γ
def yb(f:CO Bool)(γ:Ctx):Option Bool:=(f γ).map λb=> !b
noncomputable def lh(f g:CO D)(γ:Ctx):Option D:=((f γ).bind B6).bind λb=>if b=dj then g γ else da (.bl dt)
noncomputable def K?(f g:CO D)(γ:Ctx):Option D:=((f γ).bind B6).bind λb=>if b=dj then da (.bl dj)else g γ
def Ba(f:CO D)(γ:Ctx):Option D:=((f γ).bind B6).map λb=>.bl (!b)
def W0(c:CO Bool)(f g:CO D)(γ:Ctx):Option D:=(c γ).bind λb=>if b=dj then f γ else g γ
def zF:CO (List D):=λ_=>da []
def zb(f:CO D)(g:CO (List D))(γ:Ctx):Option (List D):=(f γ).bind λx=>(g γ).map λr=>x::r
noncomputable def qF(f:CO (List D))(γ:Ctx):Option D:=(f γ).bind λa=>if a.length<=lim then da (.tup a)else none
noncomputable def jC(f:CO (List D))(γ:Ctx):Option (List D):=(f γ).bind λa=>if a.length<=lim then da a else none
inductive Res where
 |val (d:D)|own (ds:List D)
inductive Fl where
 |next (γ:Ctx)|brk (γ:Ctx)|cont (γ:Ctx)|ret (r:Res)
def qj(γ:Ctx):Option Fl:=da (.next γ)
def zT(F G:CO Fl):CO Fl:=λb=>(F b).bind λI=>match I with
 |.next a=>G a
 |f=>da f
def j9(f:CO D)(γ:Ctx):Option Fl:=(f γ).map λd=>.ret (.val d)
def yB(f:CO (List D))(γ:Ctx):Option Fl:=(f γ).map λd=>.ret (.own d)
noncomputable def Wo:Option Cell->Option Fl
 |some (.val d)=>da (.ret<|.val d)
 |some (.own ds)=>da (.ret<|.own ds)
 |_=>none
def Kd(i:Nat)(γ:Ctx):Option Fl:=Wo γ[i]?
def Mv(γ:Ctx):Option Fl:=da (.brk γ)
def sE(γ:Ctx):Option Fl:=da (.cont γ)
def JH:CO Fl:=λ_=>none
def jn(k:CO Bool)(F G:CO Fl)(γ:Ctx):Option Fl:=(k γ).bind λb=>if b=dj then F γ else G γ
def jj(i:Nat)(f:CO D)(γ:Ctx):Option Fl:=(f γ).map λd=>.next (γ.set i<|.val d)
def kF(i:Nat)(f:CO (List D))(γ:Ctx):Option Fl:=(f γ).map λa=>.next (γ.set i<|.own a)
def eP(f:CO D)(γ:Ctx):Option Fl:=(f γ).map λ_=>.next γ
def xA:Option Cell->Option (List D)
 |some (.own ds)=>da ds
 |_=>none
noncomputable def yD(i:Nat)(f:CO D)(γ:Ctx):Option Fl:=(xA γ[i]?).bind λa=>(f γ).bind λd=>if a.length<lim then da (.next<|γ.set i<|.own<|a++[d])else none
def z9(n:Nat)(ds:List D):Ctx:=ds.map Cell.val++MI (n-ds.length) Cell.no
noncomputable def jk(n:Nat)(F:CO Fl)(ds:List D):Option Res:=(F<|z9 n ds).bind λI=>match I with
 |.ret r=>da r
 |.next _=>da (.val .el)
 |_=>none
def W4:Res->D
 |.val d=>d
 |.own a=>.lst a
def zD(F:List D->Option Res)(g:CO (List D))(γ:Ctx):Option D:=(g γ).bind λa=>(F a).map W4
def Am:Res->Option (List D)
 |.own a=>da a
 |_=>none
noncomputable def je(F:List D->Option Res)(g:CO (List D))(γ:Ctx):Option (List D):=(g γ).bind λa=>(F a).bind Am
def wy(lo:Int)(n:Nat):List D:=(ME n).map λ(i:Nat)=>D.int<|lo+(i:Int)
def yY(ds es:List D):List D:=(ds.zip es).map λp=>D.tup [p.1,p.2]
def zN(f:CO (Sk×List D))(γ:Ctx):Option (List D):=(f γ).map (·.2)
def inR(i:Int):Bool:=decide<|i.natAbs<2^62
noncomputable def jE(f:CO D)(γ:Ctx):Option (List D):=((f γ).bind o6).bind λn=>if inR n=dj then da (wy 0 n.toNat)else none
noncomputable def Ke(f g:CO D)(γ:Ctx):Option (List D):=((f γ).bind o6).bind λm=>((g γ).bind o6).bind λn=>if inR m=dj/\inR n=dj then da (wy m (n-m).toNat)else none
noncomputable def QT(f g:CO D)(γ:Ctx):Option (List D):=((f γ).bind jx).bind λm=>((g γ).bind jx).map λn=>yY m.2 n.2
inductive Tg where
 |nm (i:Nat)|tp (is:List Nat)
def xk:List Nat->List D->Ctx->Ctx
 |i::is,d::ds,γ=>xk is ds<|γ.set i<|.val d
 |_,_,γ=>γ
noncomputable def km:Tg->D->CO Ctx
 |.nm i,d,γ=>da (γ.set i<|.val d)
 |.tp is,.tup ds,γ=>if ds.length=is.length then da (xk is ds γ)else none
 |_,_,_=>none
noncomputable def kX(T:Tg)(F:CO Fl):List D->CO Fl
 |[],a=>da (.next a)
 |d::e,a=>(km T d a).bind λb=>(F b).bind λO=>match O with
  |.next I=>kX T F e I
  |.cont I=>kX T F e I
  |.brk I=>da (.next I)
  |.ret r=>da (.ret r)
def ZY(z:CO (List D))(T:Tg)(F:CO Fl)(γ:Ctx):Option Fl:=(z γ).bind λa=>kX T F a γ
def ke:Cell->Cell
 |.own _=>.no
 |.nest _=>.no
 |c=>c
def jo(n:Nat)(fr:List Nat)(γ:Ctx):Ctx:=MI n Cell.no++fr.map λj=>ke<|γ[j]?.getD .no
noncomputable def zY(T:Tg)(k:CO Bool)(f:CO D)(γ:Ctx):List D->Option (List D)
 |[]=>da []
 |d::ds=>(km T d γ).bind λa=>(k a).bind λb=>if b=dj then (f a).bind λe=>(zY T k f γ ds).map λr=>e::r else zY T k f γ ds
noncomputable def zO(z:CO (List D))(T:Tg)(n:Nat)(fr:List Nat)(k:CO Bool)(f:CO D)(γ:Ctx):Option (List D):=(z γ).bind λa=>if a.length<=lim then zY T k f (jo n fr γ) a else none
def jt:CO Bool:=λ_=>da dj
def Tg.idx:Tg->List Nat
 |.nm i=>[i]
 |.tp is=>is
def dI(g:Int->Int->D):D->D->Option D
 |.int i,.int j=>da (g i j)
 |_,_=>none
noncomputable def O3(c:Int->Int->Bool)(g:Int->Int->D):D->D->Option D
 |.int i,.int j=>if c i j=dj then da (g i j)else none
 |_,_=>none
def dq:D->D->Option D:=dI λi j=>.int (i-j)
def XU(i j:Int):Bool:=decide (i.natAbs<2^64) || decide (j.natAbs<2^64)
def Eo(_ j:Int):Bool:=decide (0<j)&&decide (j.natAbs<1073741824)
def Xj:D->D->Option D:=O3 Eo λi j=>.int (i/j)
def Fw(_ j:Int):Bool:=decide<|0<j
def yN:D->D->Option D:=O3 Fw λi j=>.int (i%j)
def Em(i j:Int):Bool:=decide (0<=j)&&decide (j.natAbs<=1000000)&&decide (i.natAbs<2^64)
def uK:D->D->Option D:=O3 Em λi j=>.int (i^j.toNat)
def DC:D->D->Option D:=dI λi j=>.bl (decide<|i<j)
def B8:D->D->Option D:=dI λi j=>.bl (decide<|i<=j)
def qs:D->D->Option D:=dI λi j=>.bl (decide<|j<i)
def T_:D->D->Option D:=dI λi j=>.bl (decide<|j<=i)
noncomputable def qv:D->D->Option D
 |.int i,.int j=>da (.int<|i+j)
 |.tup xs,.tup ys=>if xs.length+ys.length<=lim then da (.tup<|xs++ys)else none
 |_,_=>none
noncomputable def yq:D->D->Option D
 |.int i,.int j=>if XU i j=dj then da (.int<|i*j)else none
 |.tup xs,.int j=>if xs.length*j.toNat<=lim/\inR j=dj then da (.tup (MI j.toNat xs).flatten)else none
 |_,_=>none
noncomputable def JJ(f g:CO (Sk×List D))(γ:Ctx):Option (List D):=(f γ).bind λa=>(g γ).bind λb=>
 match a.1,b.1 with
 |.L,.L=>if a.2.length+b.2.length<=lim then da (a.2++b.2)else none
 |_,_=>none
noncomputable def YB(f:CO (Sk×List D))(g:CO D)(γ:Ctx):Option (List D):=(f γ).bind λa=>((g γ).bind o6).bind λj=>
 match a.1 with
 |.L=>if a.2.length*j.toNat<=lim/\inR j=dj then da (MI j.toNat a.2).flatten else none
 |_=>none
noncomputable def i0(n:Nat)(i:Int):Option Nat:=if 0<=i/\i<n then da i.toNat else if i<0/\0<=i+n then da (i+n).toNat else none
noncomputable def dv(f:CO (Sk×List D))(g:CO D)(γ:Ctx):Option D:=(f γ).bind λa=>((g γ).bind o6).bind λi=>(i0 a.2.length i).bind λk=>a.2[k]?
noncomputable def eE(i:Nat)(g f:CO D)(γ:Ctx):Option Fl:=(f γ).bind λd=>(xA γ[i]?).bind λa=>((g γ).bind o6).bind λk=>(i0 a.length k).map λj=>.next (γ.set i<|.own<|a.set j d)
noncomputable def Wm(n dflt:Nat):Option Int->Nat
 |none=>dflt
 |some i=>if i<0 then (i+n).toNat else min i.toNat n
noncomputable def dr(xs:List D)(lo z:Option Int):List D:=(xs.drop<|Wm xs.length 0 lo).take (Wm xs.length xs.length z-Wm xs.length 0 lo)
def dm:CO (Option Int):=λ_=>da none
def ra(f:CO D)(γ:Ctx):Option (Option Int):=((f γ).bind o6).map da
noncomputable def WY(f:CO D)(l h:CO (Option Int))(γ:Ctx):Option D:=(f γ).bind λd=>(l γ).bind λlo=>(h γ).bind λa=>match d with
 |.tup b=>da (.tup<|dr b lo a)
 |_=>none
def Kg(f:CO (Sk×List D))(γ:Ctx):Option D:=(f γ).map λa=>.int a.2.length
inductive Ty where
 |int|bool|str|tuple|list
 deriving DecidableEq
@[simp] def pQ:D->Bool
 |.int _=>dj
 |.bl _=>dj
 |_=>dt
@[simp] def CN:D->Bool
 |.bl _=>dj
 |_=>dt
@[simp] def pL:D->Bool
 |.str _=>dj
 |_=>dt
@[simp] def pK:D->Bool
 |.tup _=>dj
 |_=>dt
@[simp] def pP:D->Bool
 |.lst _=>dj
 |_=>dt
def lj:Ty->D->Bool
 |.int=>pQ
 |.bool=>CN
 |.str=>pL
 |.tuple=>pK
 |.list=>pP
def A3(T:Ty)(f:CO D)(γ:Ctx):Option D:=(f γ).map λd=>.bl (lj T d)
def Hc:Ty->Sk->Bool
 |.tuple,.T=>dj
 |.list,.L=>dj
 |_,_=>dt
def Mr(T:Ty)(f:CO (Sk×List D))(γ:Ctx):Option D:=(f γ).map λa=>.bl (Hc T a.1)
@[simp] def o?:D->Bool
 |.el=>dj
 |_=>dt
@[simp] def eqB(a:Bool):D->Bool
 |.bl b=>a==b
 |.int b=>(if a then 1 else 0)==b
 |_=>dt
@[simp] def S9(a:Int):D->Bool
 |.bl b=>a==(if b then 1 else 0)
 |.int b=>a==b
 |_=>dt
@[simp] def T3(a:Str):D->Bool
 |.str b=>a==b
 |_=>dt
@[simp] def p?(a:Str)(i:Option Int):D->Bool
 |.exc b j=>a==b&&i==j
 |_=>dt
mutual
def i4:D->D->Bool
 |.el,y=>o? y
 |.bl a,y=>eqB a y
 |.int a,y=>S9 a y
 |.str a,y=>T3 a y
 |.tup xs,y=>match y with
  |.tup e=>t6 xs e
  |_=>dt
 |.lst xs,y=>match y with
  |.lst e=>t6 xs e
  |_=>dt
 |.exc a i,y=>p? a i y
 |.n9 a b,y=>match y with
  |.n9 c d=>t6 a c&&t6 b d
  |_=>dt
 |.ng a b,y=>match y with
  |.ng c d=>a==c&&t6 b d
  |_=>dt
 |.ins a b c,y=>match y with
  |.ins I O U=>a==I&&(i4 b O&&i4 c U)
  |_=>dt
def t6:List D->List D->Bool
 |[],[]=>dj
 |x::xs,y::ys=>i4 x y&&t6 xs ys
 |_,_=>dt
end
mutual
def deep:D->Nat
 |.tup a=>x6 a+1
 |.lst a=>x6 a+1
 |_=>0
def x6:List D->Nat
 |[]=>0
 |x::xs=>max (deep x)<|x6 xs
end
mutual
def kr:D->Bool
 |.str x=>x.cps.all (· < 0x110000)
 |.exc _ _=>dt
 |.n9 _ _=>dt
 |.ng _ _=>dt
 |.ins _ _ _=>dt
 |.tup a=>nr a
 |.lst a=>nr a
 |_=>dj
def nr:List D->Bool
 |[]=>dj
 |x::xs=>kr x&&nr xs
end
def m4(d:D):Bool:=decide (deep d<=20)&&kr d
def g4(x y:D):Option D:=if m4 x=dj/\m4 y=dj then da (.bl<|i4 x y)else none
def my(x y:D):Option D:=if m4 x=dj/\m4 y=dj then da (.bl<|!i4 x y)else none
def Ej:D->D->Option D
 |x,.el=>da (.bl<|match x with|.el=>dj|_=>dt)
 |_,_=>none
def QD:D->D->Option D
 |x,.el=>da (.bl<|match x with|.el=>dt|_=>dj)
 |_,_=>none
def z7(f:CO (Sk×List D))(γ:Ctx):Option D:=(f γ).map λa=>.tup a.2
def eJ(f:CO (Sk×List D))(γ:Ctx):Option (List D):=(f γ).map λa=>a.2
def bC:List D->Option Int
 |[]=>da 0
 |.int i::r=>(bC r).map λs=>i+s
 |_::_=>none
def bI(f:CO (Sk×List D))(γ:Ctx):Option D:=(f γ).bind λa=>(bC a.2).map D.int
def FQ:D->Option Bool
 |.el=>da dt
 |.bl b=>da b
 |.int i=>da (i != 0)
 |_=>none
def X7:List D->Option (List Bool)
 |[]=>da []
 |d::r=>(FQ d).bind λb=>(X7 r).map λs=>b::s
def Gu(f:CO (Sk×List D))(γ:Ctx):Option D:=(f γ).bind λa=>(X7 a.2).map λs=>.bl (s.all id)
def Al(f:CO (Sk×List D))(γ:Ctx):Option D:=(f γ).bind λa=>(X7 a.2).map λs=>.bl (s.any id)
noncomputable def eM(f:CO D)(γ:Ctx):Option D:=(f γ).bind λd=>match d with
 |.int i=>da (.int i)
 |.bl b=>da (.int<|if b then 1 else 0)
 |_=>none
noncomputable def lV(f g:CO D)(γ:Ctx):Option D:=((f γ).bind o6).bind λi=>((g γ).bind o6).map λj=>.int (if j>i then j else i)
def sA(f:CO (Sk×List D))(γ:Ctx):Option Bool:=(f γ).map λa=> !a.2.isEmpty
def sC(f:CO D):CO D:=λa=>((f a).bind o6).map λi=>.int (-i)
noncomputable def JI(F G:D->D->Option D)(I J L:CO D):CO D:=λa=>(I a).bind λx=>(J a).bind λy=>((F x y).bind B6).bind λb=>if b=dj then (L a).bind λz=>G y z else da (.bl dt)
def eD(T:Tg)(f:CO D)(γ:Ctx):Option Fl:=(f γ).bind λd=>(km T d γ).map .next
def Md:D->Option Int
 |.tup (.int k::_)=>da k
 |_=>none
def Cz:List D->Option (List Int)
 |[]=>da []
 |d::r=>(Md d).bind λk=>(Cz r).map λl=>k::l
def IW:List Int->Bool
 |a::b::r=>decide (a<b)&&IW (b::r)
 |_=>dj
def LZ(ks:List Int):Nat:=(ks.dropLast.filter λk=>decide<|k<ks.getLast?.getD 0).length
noncomputable def Me(q:Nat)(ds:List D):List D:=ds.dropLast.take q++(ds.drop (ds.length-1)++ds.dropLast.drop q)
noncomputable def Gn(ds:List D):Option (List D):=(Cz ds).bind λa=>if (1<=ds.length/\ds.length<=8)/\IW a.dropLast=dj/\decide (a.getLast?.getD 0∈a.dropLast)=dt then da (Me (LZ a) ds)else none
noncomputable def Gp(f:CO (Sk×List D))(γ:Ctx):Option (List D):=(f γ).bind λa=>match a.1 with
 |.L=>Gn a.2
 |_=>none
noncomputable def Hl:D->Bool
 |.tup _=>dt
 |.lst _=>dt
 |.exc _ _=>dt
 |.n9 _ _=>dt
 |.ng _ _=>dt
 |.ins _ _ _=>dt
 |_=>dj
end DL
namespace L2
open PySem PySem.Spec PyProof.Rows
noncomputable def la(k:Sk)(h:fh)(i l:dy)(n:Nat):Prop:=match k with
 |.L=>h.IsListIter i l n
 |.T=>h.IsTupleIter i l n
noncomputable def n4(k:Sk)(h:fh)(l:dy)(xs:Array d9):Prop:=match k with
 |.L=>h.IsList l xs
 |.T=>h.IsTuple l xs
noncomputable def l5(k:Sk)(l:dy):l7:=match k with
 |.L=>{cls:=.type "list_iterator",data:=.fields #[.ref l,.int 0 0]}
 |.T=>{cls:=.type "tuple_iterator",data:=.fields #[.ref l,.int 0 0]}
theorem la.at(x:la k h i l n)(e:∀o,h.get? i=da o->h'.get? i=da o):la k h' i l n:=by cases k<;>exact let ⟨o,I,r⟩:=x;⟨o,e _ I,r⟩
theorem n4.at(x:n4 k h l xs)(e:∀o,h.get? l=da o->h'.get? l=da o):n4 k h' l xs:=by cases k<;>exact let ⟨o,I,r⟩:=x;⟨o,e _ I,r⟩
theorem la.obj(x:la k h i l n):∃o,h.get? i=da o/\∀v,o.data ≠ .cell v:=by cases k<;>exact let ⟨o,I,_,d⟩:=x;⟨o,I,λv z=>by rw[d]at z;cases z⟩
theorem n4.lt(x:n4 k h l xs):l<h.objs.size:=by cases k<;>exact let ⟨o,I,_⟩:=x;MR I
theorem J2(k:Sk)(h:fh)(l:dy):la k (h.push<|l5 k l) h.objs.size l 0:=by cases k<;>exact⟨_,MU _ rfl,rfl,rfl⟩
section
variable{prog:ir}{w:g8}{A:lp}{E:EQ}{s:ej}
theorem aF(I:n4 k s.heap l xs)(O:Q (.ref s.heap.objs.size) {s with heap:=s.heap.push (l5 k l)}):wpAny (eF prog w) A (UP<|.ref l) Q E s:=by
 cases k
 ·exact Uw I O
 ·exact SI I O
theorem kN(U:la k s.heap it l i)(Y:n4 k s.heap l items)(hx:items[i]? = da x)
 (z:∀h',la k h' it l (i+1)->Rf it s.heap h'->Q x {s with heap:=h'}):wpAny (eF prog w) A (Na<|.ref it) Q E s:=by
 cases k with
 |L=>exact wpAny_nextOf_list_item U Y hx z
 |T=>
  have O:s.heap.IsTupleIter it l i:=U;obtain⟨o,I,e,a⟩:=id O;obtain⟨ol,b,_,f,d⟩:=(show s.heap.IsTuple l items from Y);unfold Na;refine MD (NG (name:=Nz "__next__") O.typeIs Sy (Oh Sy O.typeIs n? ?_ (d? _)));refine MD (m:=field (.ref it) 0) (NL I a (x:=.ref l) rfl ?_);show wpAny _ _ (if (Nw l==NY)=dj then _ else _) _ _ s;rw[UY (show ¬((Nw l==NY)=dj)from Nd)];refine MD (m:=field (.ref it) 1) (NL I a (x:=.int i 0) rfl ?_);refine MD (m:=seqItems? (.ref l)) (Ov b d ?_);simp only[Ou,hx];refine MD (wpAny_setField I a ⋯ (ML ⟨x,rfl,ML (z _ ?_ (Rf.update ..))⟩));show Heap.IsTupleIter _ it l (i+1);exact⟨_,Oo _ I (Obj.isFreed_of_fields (TY a _)),(Obj.cls_mapFields ..).trans e,by rw[TY a];simp[Dm]⟩
theorem wL(I:A.handled=none)(Y:la k s.heap it l i)(z:n4 k s.heap l items)(hx:items[i]? = none)
 (hE:∀h' e,Heap.ExtBut it s.heap h'->(∃o,h'.get? e=da o/\o.cls=.type "StopIteration")->E (.ref e) {s with heap:=h'}):wpAny (eF prog w) A (Na (.ref it)) Q E s:=by
 cases k with
 |L=>exact wpAny_nextOf_list_end I Y z hx hE
 |T=>
  have O:s.heap.IsTupleIter it l i:=Y;obtain⟨o,U,g,b⟩:=id O;obtain⟨ol,d,_,h,f⟩:=(show s.heap.IsTuple l items from z);unfold Na;refine MD (NG (name:=Nz "__next__") O.typeIs Sy (Oh Sy O.typeIs n? ?_ (d? _)));refine MD (m:=field (.ref it) 0) (NL U b (x:=.ref l) rfl ?_);show wpAny _ _ (if (Nw l==NY)=dj then _ else _) _ _ s;rw[UY (show ¬((Nw l==NY)=dj)from Nd)];refine MD (m:=field (.ref it) 1) (NL U b (x:=.int i 0) rfl ?_);refine MD (m:=seqItems? (.ref l)) (Ov d f ?_);simp only[Ou,hx];refine MD (RM (MD (wpAny_setField U b ⋯ ?_)));refine MD (m:=newExc (.type "StopIteration") []) ?_;simp only[newExc,newTuple];refine MD (Ox ?_ (by size_fits));refine MD (m:=firstArgMember _ _) (wpAny_of_eq (a:=NY) (by first|rfl|(simp only[firstArgMember];rfl)) ?_);refine Ox ?_ (by size_fits);simp only[raiseNew];refine MD (wpAny_handled ?_)
  first|rw[show A.in1.handled=none from I]|rw[I]
  exact MD<|ML<|wpAny_throw<|hE _ _ (((Rf.update ..).extBut.push _).push _) ⟨_,MU _ rfl,rfl⟩
theorem Ye{k1 k2:Sk}{z TI TO J L Z l2:dy}{n1 n2:Nat}{xs ys:Array d9}{x y a b:d9}{Q:EQ}(D:B5 z TI TO J L Z l2)
 (hz:uS s.heap z TI TO .none) (bd:nt s.heap TI (.ref J) (.ref L)) (be:nt s.heap TO a b)
 (h1:la k1 s.heap J Z n1) (h2:la k2 s.heap L l2 n2) (bf:n4 k1 s.heap Z xs) (bg:n4 k2 s.heap l2 ys) (hx:xs[n1]? = da x) (hy:ys[n2]? = da y)
 (hQ:∀h',uS h' z TI TO (Dm s.heap.objs.size)->nt h' TO x y->la k1 h' J Z (n1+1)->la k2 h' L l2 (n2+1)->nt h' s.heap.objs.size x y->h'.objs.size=s.heap.objs.size+1->
   (∀c o,c≠z->c≠TO->c≠J->c≠L->s.heap.get? c=da o->h'.get? c=da o)->Q (.ref s.heap.objs.size) {s with heap:=h'}):
 wpAny (eF prog w) A (Builtin.«zip.__next__» ⟨[.ref z],[]⟩) (λbm s'=>∃v,bm=.done (.ret v)/\Q v s') E s:=by
 refine MD (m:=field (.ref z) 2)<|NL hz rfl (x:=.bool dt) rfl ?_;refine MD (m:=field (.ref z) 3)<|NL hz rfl (x:=.ref TI) rfl ?_;refine MD<|Ov bd rfl ?_;refine MD (m:=Nk<|.ref z) ?_;unfold Nk;refine MD<|NL hz rfl (x:=.none) rfl<|ML ?_;simp only[if_true];refine MD<|RM<|MD<|NL hz rfl (x:=.ref TO) rfl ?_;refine MD<|C8 hz ⋯ λg1 p O=>?_;replace p:uS g1 z TI TO .ellipsis:=p;refine MD ?_;simp only[List.zipIdx_cons,List.zipIdx_nil,Sd,Sv];refine MD<|MD<|Up ?_;refine MD (m:=Na<|.ref J)<|kN (h1.at λo e=>O.extBut _ _ D.i1z e) (bf.at λo e=>O.extBut _ _ D.l1z e) hx λg2 P Y=>ML ?_;have G:nt g2 TO a b:=Y.extBut _ _ D.TOi1<|O.extBut _ _ D.TOz be;refine MD<|Ov G rfl<|MD<|TU G λg3 r d=>?_;replace r:nt g3 TO x b:=r;refine MD<|N9<|ML<|MD<|MD<|Up ?_;refine MD (m:=Na<|.ref L)<|kN (h2.at λo e=>d.extBut _ _ D.TOi2.symm<|Y.extBut _ _ D.i12.symm<|O.extBut _ _ D.i2z e) (bg.at λo e=>d.extBut _ _ D.l2TO<|Y.extBut _ _ D.l2i1<|O.extBut _ _ D.l2z e) hy λX R f=>ML ?_;have as:nt X TO x b:=f.extBut _ _ D.TOi2 r;refine MD<|Ov as rfl<|MD<|TU as λI j g=>?_;replace j:nt I TO x y:=j;refine MD<|N9<|ML<|ML<|MD<|Ov j rfl<|MD<|Uc ?_;have i:I.objs.size=s.heap.objs.size:=by rw[g.1,f.1,d.1,Y.1,O.1]
 have H:uS I z TI TO .ellipsis:=g.extBut _ _ D.TOz.symm (f.extBut _ _ D.i2z.symm (d.extBut _ _ D.TOz.symm (Y.extBut _ _ D.i1z.symm p)));have c5:∀c o,c≠z->c≠TO->c≠J->c≠L->s.heap.get? c=da o->I.get? c=da o:=λc o U l C F e=>g.extBut _ _ l (f.extBut _ _ F (d.extBut _ _ l (Y.extBut _ _ C (O.extBut _ _ U e))));have S:la k1 I J Z (n1+1):=P.at λo e=>g.extBut _ _ D.TOi1.symm (f.extBut _ _ D.i12 (d.extBut _ _ D.TOi1.symm e));have T:la k2 I L l2 (n2+1):=R.at λo e=>g.extBut _ _ D.TOi2.symm e;have K:z<I.objs.size:=MR H;refine MD (m:=OL (.ref z) (.ref I.objs.size)) ?_;unfold OL;have W:uS (I.push {cls:=.type "tuple",data:=.seq #[x,y]}) z TI TO .ellipsis:=MF _ H;refine MD (C8 W ⋯ λg7 t u=>?_);replace t:uS g7 z TI TO (Dm I.objs.size):=t;refine C8 t ⋯ λh k B=>?_;replace k:uS h z TI TO (Dm I.objs.size):=k;have n:∀c o,c≠z->I.get? c=da o->h.get? c=da o:=λc o U e=>B.extBut _ _ U (u.extBut _ _ U (MF _ e));have M:nt h I.objs.size x y:=B.extBut _ _ (OZ K) (u.extBut _ _ (OZ K) (MU _ rfl));have N:h.objs.size=I.objs.size+1:=by rw[B.1,u.1,NA]
 rw[i]at k M N;refine ML ⟨_,rfl,?_⟩;show Q (.ref I.objs.size) _;rw[i];exact hQ h k (n _ _ D.TOz j) (S.at λo e=>n _ o D.i1z e) (T.at λo e=>n _ o D.i2z e) M N λc o U l C F e=>n c o U<|c5 c o U l C F e
theorem WD{k1 k2:Sk}{z TI TO J L Z l2:dy}{n1 n2:Nat}{xs ys:Array d9}{a b:d9}{Q:Fin->ej->Prop}(hh:A.handled=none)(D:B5 z TI TO J L Z l2)
 (hz:uS s.heap z TI TO .none) (an:nt s.heap TI (.ref J) (.ref L)) (ap:nt s.heap TO a b)
 (h1:la k1 s.heap J Z n1) (h2:la k2 s.heap L l2 n2) (ab:n4 k1 s.heap Z xs) (as:n4 k2 s.heap l2 ys) (ax:xs[n1]? = none\/ys[n2]? = none)
 (hE:∀h' e,(∀c o,c≠z->c≠TO->c≠J->c≠L->s.heap.get? c=da o->h'.get? c=da o)->(∃o,h'.get? e=da o/\o.cls=.type "StopIteration")->E (.ref e) {s with heap:=h'}):
 wpAny (eF prog w) A (Builtin.«zip.__next__» ⟨[.ref z],[]⟩) Q E s:=by
 refine MD (m:=field (.ref z) 2) (NL hz rfl (x:=.bool dt) rfl ?_);refine MD (m:=field (.ref z) 3) (NL hz rfl (x:=.ref TI) rfl ?_);refine MD (Ov an rfl ?_);refine MD (m:=Nk (.ref z)) ?_;unfold Nk;refine MD (NL hz rfl (x:=.none) rfl (ML ?_));simp only[if_true];refine MD (RM (MD (NL hz rfl (x:=.ref TO) rfl ?_)));refine MD (C8 hz ⋯ λg1 k I=>?_);replace k:uS g1 z TI TO .ellipsis:=k;refine MD ?_;simp only[List.zipIdx_cons,List.zipIdx_nil,Sd,Sv];refine MD (MD (Up ?_));have r:∀{g e:_} {i:l7},uS g z TI TO .ellipsis->(∀c o,c≠z->c≠TO->c≠J->c≠L->s.heap.get? c=da o->g.get? c=da o)->g.get? e=da i->i.cls=.type "StopIteration"->
  wpAny (eF prog w) A (P6 (.ref z) 0 .none) (λ_ C=>E (.ref e) C) E {s with heap:=g}:=λ{g e i} rr hk U d=>by
  have y:e≠z:=λq=>by subst q;rw[rr]at U;cases U;simp at d
  exact C8 rr ⋯ λg3 _ Y=>hE g3 e (λc o f l j n q=>Y.extBut _ _ f<|hk c o f l j n q) ⟨i,Y.extBut _ _ y U,d⟩
 cases hx:xs[n1]? with
 |none=>
  refine MD (m:=Na<|.ref J)<|wL hh (h1.at λo e=>I.extBut _ _ D.i1z e) (ab.at λo e=>I.extBut _ _ D.l1z e) hx λg2 e O p=>?_;obtain⟨i,U,d⟩:=p;exact r (O _ _ D.i1z.symm k) (λc o f _ j _ q=>O _ _ j<|I.extBut _ _ f q) U d
 |some x=>
  have B:ys[n2]? = none:=by rcases ax with h|h;rw[hx]at h;cases h;exact h
  refine MD (m:=Na<|.ref J)<|kN (h1.at λo e=>I.extBut _ _ D.i1z e) (ab.at λo e=>I.extBut _ _ D.l1z e) hx λg2 F O=>ML ?_;have t:nt g2 TO a b:=O.extBut _ _ D.TOi1<|I.extBut _ _ D.TOz ap;refine MD<|Ov t rfl<|MD<|TU t λg3 G Y=>?_;refine MD<|N9<|ML<|MD<|MD<|Up ?_;refine MD (m:=Na<|.ref L)<|wL hh (h2.at λo e=>Y.extBut _ _ D.TOi2.symm<|O.extBut _ _ D.i12.symm<|I.extBut _ _ D.i2z e) (as.at λo e=>Y.extBut _ _ D.l2TO<|O.extBut _ _ D.l2i1<|I.extBut _ _ D.l2z e) B λH e u p=>?_;obtain⟨i,U,d⟩:=p;exact r (u _ _ D.i2z.symm<|Y.extBut _ _ D.TOz.symm<|O.extBut _ _ D.i1z.symm k) (λc o f l j n q=>u _ _ n<|Y.extBut _ _ l<|O.extBut _ _ j<|I.extBut _ _ f q) U d
end
def kL(a b:d9):l7:={cls:=.type "tuple",data:=.seq #[a,b]}
noncomputable def EN(TI TO:dy):l7:={cls:=.type "zip",data:=.fields #[.none,.bool dt,.bool dt,.ref TI,.ref TO]}
noncomputable def yX(k1 k2:Sk)(h:fh)(I z:dy):fh:=
 Nm (Nm (Nm (Nm (Nm h<|l5 k1 I)<|l5 k2 z)<|kL (.ref h.objs.size)<|.ref<|h.objs.size+1)<|kL .none .none) (EN (h.objs.size+2)<|h.objs.size+3)
theorem WC(k1 k2:Sk)(I z:dy)(xs ys:Array d9):
 Meets (Builtin.«zip.__new__» ⟨[.type "zip",.ref I,.ref z],[]⟩) (λ_ R s=>n4 k1 s.heap I xs/\n4 k2 s.heap z ys/\
  R (.ok<|.ret<|.ref<|s.heap.objs.size+4) {s with heap:=yX k1 k2 s.heap I z}):=
 .of_wp λa w A R s h=>by
  obtain⟨O,g,d,b,os⟩:=s;obtain⟨U,Y,h⟩:=h;have j:=sub_zip;have f:n4 k1 (Shared.heap ⟨O,g,d,b,os⟩) I xs:=U;have i:n4 k2 (Shared.heap ⟨O.push<|l5 k1 I,g,d,b,os⟩) z ys:=Y.at λo e=>MF _ e
  wp_walk using aF f,aF i
  refine⟨_,rfl,?_⟩;simp only[yX,kL,EN,NA]at h ⊢;exact h
section
variable{X:Cx}{pins:UQ}{σ:St}{H:Hp}{s:ej}{h':fh}
theorem Inv.I'{t':Nat}{fp:List dy}{a:dy}{o:HO}(I:Inv X pins σ H s)(k:∀b u,b∉fp->s.heap.get? b=da u->h'.get? b=da u)(J:∀b∈fp,vR X pins H b)
 (L:s.heap.objs.size<=a) (new:l8 X.prog X.w (upd H a o) h' a o):Inv X pins σ (upd H a o) {s with heap:=h',toks:=t'}:=by
 have d:H a=none:=I.ft.fresh L;have f:∀b u,H b=da u->b∉fp:=λb u e z=>by rw[(J b z).1]at e;cases e
 have h:∀b u,s.heap.get? b=da u->b≠a:=λb u e=>MZ<|MX (MR e) L;refine I.step (g':=s.gens) (d':=s.drawn) (ch:=fp) (λb O=>⟨(J b O).2.2.2.1,(J b O).2.1,(J b O).2.2.2.2.1,(J b O).2.2.2.2.2⟩) (λb u _ _ U e _=>k b u U e) (λb u _ _ U e _=>⟨u.slots,k b u U e⟩)
  (λb u _ e n=>by rw[zK (h b u e)];exact n) (λb u U e=>⟨u,k b u U e⟩) (λb g e=>by rw[zK (jy e d)];exact e) (λb Y g e=>by rw[zK (jy e d)];exact e)
  (λb t e=>⟨#[],by rw[zK (jy e d),e];simp⟩) (λm l=>?_) (λb u e=>?_) I.bare
 ·obtain⟨Y,j,i,p,r⟩:=l
  refine⟨Y,j,i,k _ Y (λz=>(J _ z).2.1 rfl) p,r⟩
 ·by_cases O:b=a
  ·subst O;rw[zM]at e;cases e;exact new
  ·rw[zK O]at e
   refine(I.ft b u e).A5 (λc v U q=>k c v ?_ q) (λc q=>by rw[zK (jy q d)];exact q) λc g q=>by rw[zK (jy q d)];exact q
   rcases U with z|z
   ·rw[z];exact f b u e
   ·exact f c _ z
theorem Inv.C5{t':Nat}{fp:List dy}(I:Inv X pins σ H s)(k:∀b u,b∉fp->s.heap.get? b=da u->h'.get? b=da u)(J:∀b∈fp,vR X pins H b):Inv X pins σ H {s with heap:=h',toks:=t'}:=by
 have a:∀b u,H b=da u->b∉fp:=λb u e z=>by rw[(J b z).1]at e;cases e
 refine I.step (g':=s.gens) (d':=s.drawn) (ch:=fp) (λb U=>⟨(J b U).2.2.2.1,(J b U).2.1,(J b U).2.2.2.2.1,(J b U).2.2.2.2.2⟩) (λb u _ _ O e _=>k b u O e) (λb u _ _ O e _=>⟨u.slots,k b u O e⟩)
  (λb u _ e n=>n) (λb u O e=>⟨u,k b u O e⟩) (λb d e=>e) (λb Y d e=>e)
  (λb j e=>⟨#[],by rw[e];simp⟩) (λm h=>?_) (λb u e=>?_) I.bare
 ·obtain⟨Y,g,f,i,r⟩:=h
  refine⟨Y,g,f,k _ Y (λz=>(J _ z).2.1 rfl) i,r⟩
 ·refine(I.ft b u e).A5 (λc v O q=>k c v ?_ q) (λc q=>q) λc d q=>q
  rcases O with z|z
  ·rw[z];exact a b u e
  ·exact a c _ z
end
noncomputable def m5(k:Sk)(K:MC)(H:Hp)(a:dy)(xs:List V):Prop:=match k with
 |.L=>hM K H a xs
 |.T=>h8 K H a xs
theorem Inv.sq(I:Inv X pins σ H s)(h:m5 k X.K H a xs):
 ∃its:List d9,f6 xs its/\n4 k s.heap a its.toArray/\xs.length<=fy:=by
 cases k with
 |L=>obtain⟨its,r,p,z⟩:=I.list h;exact⟨its,r,p.isList,z⟩
 |T=>obtain⟨its,r,p,z⟩:=I.tuple h;exact⟨its,r,p,z⟩
theorem Inv.D_(I:Inv X pins σ H s)(h:m5 k X.K H a xs)(h':m5 k X.K H a ys):xs=ys:=by
 cases k with
 |L=>exact I.x' h h'
 |T=>exact I._n h h'
noncomputable def U9(k1 k2:Sk)(K:MC)(a b:dy):It:=
 ⟨λi H=>∃d e,m5 k1 K H a d/\m5 k2 K H b e/\i<d.length/\i<e.length,
  λi H x f=>∃p u v,x=.ref p/\H p=none/\f=upd H p (.tup [u,v])/\(∀d,m5 k1 K H a d->d[i]? = da u)/\(∀e,m5 k2 K H b e->e[i]? = da v),
  λi H=>∃d e,m5 k1 K H a d/\m5 k2 K H b e/\(d.length<=i\/e.length<=i)⟩
theorem lF{P:ir}{w:g8}{K:MC}{elts:List eK}{x1:Nat}{uP:gv}(k1 k2:Sk){z TI TO i1 i2 a b:dy}(D:B5 z TI TO i1 i2 a b):
 Turn P w K (.Tuple elts x1 uP) (U9 k1 k2 K a b) [z,TI,TO,i1,i2] z (λi h=>uS h z TI TO .none/\nt h TI (.ref i1) (.ref i2)/\(∃c d,nt h TO c d)/\la k1 h i1 a i/\la k2 h i2 b i) where
 mem:=by simp
 obj:=λi h ⟨hz,Y,⟨c,d,a8⟩,h1,h2⟩ y hy=>by
  simp only[MQ,MY,or_false]at hy;rcases hy with rfl|rfl|rfl|rfl|rfl
  ·exact⟨_,hz,λv q=>by cases q⟩
  ·exact⟨_,Y,λv q=>by cases q⟩
  ·exact⟨_,a8,λv q=>by cases q⟩
  ·exact h1.obj
  ·exact h2.obj
 keep:=λi h h' ⟨hz,Y,⟨c,d,a8⟩,h1,h2⟩ k=>
  ⟨k z ⋯ _ hz,k TI ⋯ _ Y,⟨c,d,k TO ⋯ _ a8⟩,h1.at λo e=>k i1 ⋯ o e,h2.at λo e=>k i2 ⋯ o e⟩
 item:=by
  rintro X hP hw hK hc i pins s σ H E I hf ⟨hz,Y,⟨c,d,a8⟩,h1,h2⟩ ⟨xs,ys,ac,ae,bb,bd⟩;subst hP hw hK;obtain⟨be,an,p1,z1⟩:=I.sq ac;obtain⟨bg,as,p2,z2⟩:=I.sq ae;have hx:xs[i]? = da xs[i]:=MH bb;have hy:ys[i]? = da ys[i]:=MH bd;obtain⟨u1,bl,bm⟩:=an.get hx;obtain⟨u2,bn,br⟩:=as.get hy;have hT:s.TypeIs (.ref z) "zip":=⟨_,hz,rfl⟩;unfold z8;refine MD (Pc (NG (name:=Nz "__next__") hT OD (Oh OD hT Rh
   (Ye D hz Y a8 h1 h2 p1 p2 (x:=u1) (y:=u2) (by simpa using bl) (by simpa using bn) λg a1 a2 a3 a4 a5 a6 a7=>ML ⟨_,rfl,?_⟩) (PZ _))))
  refine wpAny_letOwnedTupleGo_zip a1 λg2 rr a9=>?_;have lt:∀{c o},s.heap.get? c=da o->s.heap.objs.size≠c:=λe=>OZ<|MR e;have c3:nt g2 s.heap.objs.size u1 u2:=a9.extBut _ _ (lt hz) a5;have kk:∀U u,U ∉ [z,TI,TO,i1,i2]->s.heap.get? U=da u->g2.get? U=da u:=λU u O e=>by simp only[MQ,MY,or_false,not_or]at O;exact a9.extBut _ _ O.1<|a7 U u O.1 O.2.2.1 O.2.2.2.1 O.2.2.2.2 e
  have I1:Inv X pins σ (upd H s.heap.objs.size<|.tup [xs[i],ys[i]]) {s with heap:=g2,toks:=s.toks}:=
   I.I' (fp:=[z,TI,TO,i1,i2]) kk hf (MM _) ⟨by show 2<=fy;decide,[u1,u2],.cons bm<|.cons br .nil,⟨_,c3,rfl,_,rfl⟩⟩
  have c5:H s.heap.objs.size=none:=I.fresh;refine⟨.ref s.heap.objs.size,_,I1,rfl,⟨_,_,_,rfl,c5,rfl,λcc ax=>by rw[I.D_ ax ac];exact hx,λce ax=>by rw[I.D_ ax ae];exact hy⟩,?_,λU O=>?_⟩
  ·exact⟨rr,a9.extBut _ _ D.TIz<|a7 _ _ D.TIz D.TITO D.TIi1 D.TIi2 Y,⟨_,_,a9.extBut _ _ D.TOz a2⟩,a3.at λo e=>a9.extBut _ _ D.i1z e,a4.at λo e=>a9.extBut _ _ D.i2z e⟩
  ·have c6:U≠s.heap.objs.size:=by
    simp only[MQ,MY,or_false]at O;rcases O with rfl|rfl|rfl|rfl|rfl
    ·exact(lt hz).symm
    ·exact(lt Y).symm
    ·exact(lt a8).symm
    ·obtain⟨o,e,_⟩:=h1.obj;exact(lt e).symm
    ·obtain⟨o,e,_⟩:=h2.obj;exact(lt e).symm
   rw[zK c6];exact(hf U O).1
 done:=by
  rintro X hP hw hK hc i pins s σ H E I hf ⟨hz,Y,⟨c,d,a8⟩,h1,h2⟩ ⟨xs,ys,ac,ae,hi⟩;subst hP hw hK;obtain⟨be,an,p1,z1⟩:=I.sq ac;obtain⟨bg,as,p2,z2⟩:=I.sq ae;have hT:s.TypeIs (.ref z) "zip":=⟨_,hz,rfl⟩;have l1:=an.length;have l2:=as.length;unfold z8;refine MD (Pc (NG (name:=Nz "__next__") hT OD (Oh OD hT Rh
   (WD (show X.A.handled=none from I.ok.hd hc) D hz Y a8 h1 h2 p1 p2 (by rcases hi with q|q;left;simp;omega;right;simp;omega) λg e hk he=>?_) (PZ _))))
  obtain⟨o,ho,ca⟩:=he;refine MD (Tf (T:="StopIteration") (b:=dj) ⟨o,ho,ca⟩ Ud (ML ⟨rfl,?_⟩));refine I.C5 (t':=s.toks) (fp:=[z,TI,TO,i1,i2]) (λU u O e=>?_) hf;simp only[MQ,MY,or_false,not_or]at O;exact hk U u O.1 O.2.2.1 O.2.2.2.1 O.2.2.2.2 e
 self:=λ_ _ _ _ _ st h=>UB st.1 h
noncomputable def Mf(K:MC)(z:TA):TI:=λj H R=>z j H λg d=>∃e f a b,g=[.ref a,.ref b]/\(∃h,m5 e K d a h)/\(∃i,m5 f K d b i)/\R (U9 e f K a b) d
theorem BD{X:Cx}{L O:eK}{ta:TA}{p pos:gv}{z:List eK}{x1:Nat}{J:gv}(hg:Gl X "zip")(hm:X.mg "zip" = none)(ha:PA X [L,O] ta)
 (hv:De "zip" = da (.type "zip")) (hs:fA [L,O] X.env=[(dt,eA L X.env),(dt,eA O X.env)]:=by rfl) (Z:fA [O] X.env=[(dt,eA O X.env)]:=by rfl):
 PI X (.Tuple z x1 J) (.Call (.Name "zip" p) [L,O] [] pos) (Mf X.K ta):=by
 intro j s C H R I h;refine Call_ (xX I hg hm hv<|ND (f7 (ha pos j s C H _ I h) λus d T=>?_) (by rw[hs,Z])<|by rw[Z];rfl);obtain⟨vs,r,U,r1,q1⟩:=T;obtain⟨f,g,a,b,e,⟨xs,G⟩,⟨ys,M⟩,q⟩:=q1;subst e;obtain⟨w1,w2,S,as,N⟩:=lD r1;subst S;cases as;cases N;obtain⟨P,bn,w,z1⟩:=U.sq G;obtain⟨Q,bu,x,z2⟩:=U.sq M;have W:=w.lt;have lb:=x.lt;refine callType_new F.called_zip ⋯ (F.typeCall_zip_2 _ _) (F.newCall_zip_2 _ _) (λobj=>F.args_object_init_3 obj _ _) F.entry_zip_new (WC f g a b P.toArray Q.toArray) ⟨w,x,?_⟩;have keep:∀c o,d.heap.get? c=da o->(yX f g d.heap a b).get? c=da o:=λc o e=>
  MF _ (MF _<|MF _<|MF _<|MF _ e)
 have y:(Nm d.heap<|l5 f a).objs.size=d.heap.objs.size+1:=NA ..;have A:(Nm (Nm d.heap<|l5 f a)<|l5 g b).objs.size=d.heap.objs.size+2:=by rw[NA,y]
 have B:(Nm (Nm (Nm d.heap<|l5 f a)<|l5 g b)<|kL (.ref d.heap.objs.size)<|.ref<|d.heap.objs.size+1).objs.size=d.heap.objs.size+3:=by rw[NA,A]
 have y4:(Nm (Nm (Nm (Nm d.heap<|l5 f a)<|l5 g b)<|kL (.ref d.heap.objs.size)<|.ref<|d.heap.objs.size+1)<|kL .none .none).objs.size=d.heap.objs.size+4:=by rw[NA,B]
 have g0:la f (yX f g d.heap a b) d.heap.objs.size a 0:=(J2 f d.heap a).at λo e=>MF _<|MF _<|MF _<|MF _ e;have g1:la g (yX f g d.heap a b) (d.heap.objs.size+1) b 0:=by have q:=J2 g (Nm d.heap<|l5 f a) b;rw[y]at q;exact q.at λo e=>MF _<|MF _<|MF _ e
 have g2:nt (yX f g d.heap a b) (d.heap.objs.size+2) (.ref d.heap.objs.size) (.ref<|d.heap.objs.size+1):=by have q:_=da (kL (.ref d.heap.objs.size)<|.ref<|d.heap.objs.size+1):=MU (Nm (Nm d.heap<|l5 f a)<|l5 g b) (o:=kL (.ref d.heap.objs.size)<|.ref<|d.heap.objs.size+1) rfl;rw[A]at q;exact MF _<|MF _ q
 have g3:nt (yX f g d.heap a b) (d.heap.objs.size+3) .none .none:=by have q:_=da (kL .none .none):=MU (Nm (Nm (Nm d.heap<|l5 f a)<|l5 g b)<|kL (.ref d.heap.objs.size)<|.ref<|d.heap.objs.size+1) (o:=kL .none .none) rfl;rw[B]at q;exact MF _ q
 have l:uS (yX f g d.heap a b) (d.heap.objs.size+4) (d.heap.objs.size+2) (d.heap.objs.size+3) .none:=by have q:=MU (Nm (Nm (Nm (Nm d.heap<|l5 f a)<|l5 g b)<|kL (.ref d.heap.objs.size)<|.ref<|d.heap.objs.size+1)<|kL .none .none) (o:=EN (d.heap.objs.size+2)<|d.heap.objs.size+3) rfl;rw[y4]at q;exact q
 refine⟨⟨_,l,rfl⟩,UB (s:={d with heap:=yX f g d.heap a b}) l ?_⟩;have E:Inv X j C r {d with heap:=yX f g d.heap a b,toks:=d.toks}:=U.kept keep;have nn:∀m:Nat,d.heap.objs.size≠d.heap.objs.size+m+1:=λm=>by omega
 have Y:∀m:Nat,a≠d.heap.objs.size+m:=λm=>MZ<|MX W<|Nt _ m;have k:∀m:Nat,b≠d.heap.objs.size+m:=λm=>MZ<|MX lb<|Nt _ m;have i:∀m n:Nat,m≠n->(d.heap.objs.size+m:Nat)≠d.heap.objs.size+n:=λm n h=>by omega
 have D:B5 (d.heap.objs.size+4) (d.heap.objs.size+2) (d.heap.objs.size+3) d.heap.objs.size (d.heap.objs.size+1) a b:=
  ⟨i 2 4 ⋯,i 3 4 ⋯,i 0 4 ⋯,i 1 4 ⋯,i 2 3 ⋯,i 2 0 ⋯,i 2 1 ⋯,i 3 0 ⋯,i 3 1 ⋯,i 0 1 ⋯,
   Y 4,Y 3,Y 0,Y 1,k 4,k 3,k 0,k 1⟩
 refine⟨_,[d.heap.objs.size+4,d.heap.objs.size+2,d.heap.objs.size+3,d.heap.objs.size,d.heap.objs.size+1],_,_,r,rfl,E,lF f g D,⟨l,g2,⟨_,_,g3⟩,g0,g1⟩,λc u=>?_,q⟩;have t:d.heap.objs.size<=c:=by
  simp only[MQ,MY,or_false]at u;rcases u with rfl|rfl|rfl|rfl|rfl
  ·exact Nt _ _
  ·exact Nt _ _
  ·exact Nt _ _
  ·exact MM _
  ·exact Nt _ _
 exact U.Dj t<|U.ft.fresh t
def L_(k:Sk)(K:MC)(a:dy):It:=match k with
 |.L=>M' K a
 |.T=>M_ K a
noncomputable def IM(K:MC)(z:TE):TI:=λe H R=>z e H λx b=>∃a k,x=.ref a/\(∃d,m5 k K b a d)/\R (L_ k K a) b
theorem ph(Y:PE X l tl):PI X tg l (IM X.K tl):=by
 intro d s u H R I h;refine f7 (Y d s u H _ I h) λv f i=>?_;obtain⟨x,g,O,t,r⟩:=i;obtain⟨a,k,e,⟨z,m⟩,q⟩:=r;subst e;cases t;have U:∀b ∈ [f.heap.objs.size],vR X d g b:=λb j=>by
  have e:b=f.heap.objs.size:=by simpa using j
  subst e;exact O.Dj (MM _)<|O.ft.fresh<|MM _
 obtain⟨n,y,p,w⟩:=O.sq m;cases k with
 |L=>exact Uw p ⟨f.heap.objs.size,[f.heap.objs.size],_,_,g,rfl,O.kept (t':=f.toks) λb o e=>MF _ e,dH a _,⟨_,MU _ rfl,rfl,rfl⟩,U,q⟩
 |T=>exact SI p ⟨f.heap.objs.size,[f.heap.objs.size],_,_,g,rfl,O.kept (t':=f.toks) λb o e=>MF _ e,bw a _,⟨_,MU _ rfl,rfl,rfl⟩,U,q⟩
end L2
namespace DL
open PySem PySem.Spec PyProof.Rows L2
noncomputable def VJ(z:dy)(b:Bool)(TI TO:dy):l7:={cls:=.type "zip",dict:=none,data:=.fields #[Dm z,.bool b,.bool dt,.ref TI,.ref TO],slots:=#[]}
section
variable{prog:ir}{w:g8}{A:lp}{E:EQ}{s:ej}
theorem Yf{z J TI TO:dy}{b:Bool}{O:l7}{Q:Bool->ej->Prop}(hz:s.heap.get? z=da (VJ J b TI TO))(L:s.heap.get? J=da O)
 (I:∀h',h'.get? z=da (VJ J dj TI TO)->Rf z s.heap h'->Q dt {s with heap:=h'}):wpAny (eF prog w) A (Nk<|.ref z) Q E s:=by
 unfold Nk;refine MD<|NL hz rfl (x:=Dm J) rfl ?_;show wpAny _ _ (loadIfAlive ((J:Int).toNat) >>= _) _ _ _;rw[Ou];refine MD<|PySem.W.kdx_alive L ?_;simp only[Option.isNone_some,NV,if_false];refine MD<|NL hz rfl (x:=.bool b) rfl ?_;cases b with
 |true=>
  rw[UY ⋯];exact ML<|I _ hz ⟨rfl,λ_ _=>rfl⟩
 |false=>
  rw[UJ ⋯];refine MD<|C8 hz ⋯ λg U a=>?_;exact ML<|I g U a
theorem dw{k1 k2:Sk}{z TI TO J L Y l2 Z:dy}{b:Bool}{oa:l7}{n1 n2:Nat}{xs ys:Array d9}{x y:d9}{Q:EQ}(D:B5 z TI TO J L Y l2)
 (hz:s.heap.get? z=da (VJ Z b TI TO)) (ha:s.heap.get? Z=da oa) (a4:nt s.heap TI (.ref J) (.ref L))
 (h1:la k1 s.heap J Y n1) (h2:la k2 s.heap L l2 n2) (a5:n4 k1 s.heap Y xs) (a6:n4 k2 s.heap l2 ys) (hx:xs[n1]? = da x) (hy:ys[n2]? = da y)
 (hQ:∀h',h'.get? z=da (VJ Z dj TI TO)->la k1 h' J Y (n1+1)->la k2 h' L l2 (n2+1)->nt h' s.heap.objs.size x y->h'.objs.size=s.heap.objs.size+1->
   (∀c o,c≠z->c≠J->c≠L->s.heap.get? c=da o->h'.get? c=da o)->Q (.ref s.heap.objs.size) {s with heap:=h'}):
 wpAny (eF prog w) A (Builtin.«zip.__next__» ⟨[.ref z],[]⟩) (λa9 s'=>∃v,a9=.done (.ret v)/\Q v s') E s:=by
 refine MD (m:=field (.ref z) 2)<|NL hz rfl (x:=.bool dt) rfl ?_;refine MD (m:=field (.ref z) 3)<|NL hz rfl (x:=.ref TI) rfl ?_;refine MD<|Ov a4 rfl ?_;refine MD (m:=Nk<|.ref z)<|Yf hz ha λg1 f I=>?_;simp only[NV,if_false];rw[show(#[Nw J,Nw L]:Array d9)=[Nw J,Nw L].toArray from rfl,TN];simp only[Sd,Sv];refine MD<|MD<|MD ?_;refine MD (m:=Na<|.ref J)<|kN (h1.at λo e=>I.extBut _ _ D.i1z e) (a5.at λo e=>I.extBut _ _ D.l1z e) hx λg2 g U=>ML ?_;refine ML<|MD<|MD<|Oy ?_;refine MD (m:=Na<|.ref L)<|kN (h2.at λo e=>U.extBut _ _ D.i12.symm<|I.extBut _ _ D.i2z e) (a6.at λo e=>U.extBut _ _ D.l2i1<|I.extBut _ _ D.l2z e) hy λO h a=>ML ?_;refine ML<|ML ?_;have hsz:O.objs.size=s.heap.objs.size:=by rw[a.1,U.1,I.1]
 refine MD (Uc (hsz:=by show 2<=fy;decide) ?_);refine ML ⟨_,rfl,?_⟩;show Q (.ref O.objs.size) _;rw[hsz];have d:∀c o,O.get? c=da o->(O.push {cls:=.type "tuple",data:=.seq #[x,y]}).get? c=da o:=λc o e=>MF _ e;have i:O.get? z=da (VJ Z dj TI TO):=a.extBut _ _ D.i2z.symm (U.extBut _ _ D.i1z.symm f);refine hQ _ (d _ _ i) ((g.at λo e=>d _ o (a.extBut _ _ D.i12 e))) (h.at λo e=>d _ o e) ?_ ?_ λc o j k l e=>d c o (a.extBut _ _ l (U.extBut _ _ k (I.extBut _ _ j e)))
 ·have:=MU O (o:={cls:=.type "tuple",data:=.seq #[x,y]}) rfl
  rw[hsz]at this;exact this
 ·rw[NA,hsz]
theorem lz{k1 k2:Sk}{z TI TO J L U Z al:dy}{b:Bool}{oa:l7}{n1 n2:Nat}{xs ys:Array d9}{Q:Fin->ej->Prop}(hh:A.handled=none)(D:B5 z TI TO J L U Z)
 (hz:s.heap.get? z=da (VJ al b TI TO)) (ha:s.heap.get? al=da oa) (a7:nt s.heap TI (.ref J) (.ref L))
 (h1:la k1 s.heap J U n1) (h2:la k2 s.heap L Z n2) (a4:n4 k1 s.heap U xs) (a8:n4 k2 s.heap Z ys) (a9:xs[n1]? = none\/ys[n2]? = none)
 (hE:∀h' e,(∀c o,c≠z->c≠J->c≠L->s.heap.get? c=da o->h'.get? c=da o)->(∃o,h'.get? e=da o/\o.cls=.type "StopIteration")->E (.ref e) {s with heap:=h'}):
 wpAny (eF prog w) A (Builtin.«zip.__next__» ⟨[.ref z],[]⟩) Q E s:=by
 refine MD (m:=field (.ref z) 2)<|NL hz rfl (x:=.bool dt) rfl ?_;refine MD (m:=field (.ref z) 3)<|NL hz rfl (x:=.ref TI) rfl ?_;refine MD<|Ov a7 rfl ?_;refine MD (m:=Nk<|.ref z)<|Yf hz ha λg1 j I=>?_;simp only[NV,if_false];rw[show(#[Nw J,Nw L]:Array d9)=[Nw J,Nw L].toArray from rfl,TN];simp only[Sd,Sv];refine MD<|MD<|MD ?_;cases hx:xs[n1]? with
 |none=>
  refine MD (m:=Na<|.ref J)<|wL hh (h1.at λo e=>I.extBut _ _ D.i1z e) (a4.at λo e=>I.extBut _ _ D.l1z e) hx λg2 e O Y=>?_;exact hE g2 e (λc o a d _ q=>O _ _ d<|I.extBut _ _ a q) Y
 |some x=>
  have i:ys[n2]? = none:=by rcases a9 with h|h;rw[hx]at h;cases h;exact h
  refine MD (m:=Na<|.ref J)<|kN (h1.at λo e=>I.extBut _ _ D.i1z e) (a4.at λo e=>I.extBut _ _ D.l1z e) hx λg2 k O=>ML ?_;refine ML<|MD<|MD<|Oy ?_;refine MD (m:=Na<|.ref L)<|wL hh (h2.at λo e=>O.extBut _ _ D.i12.symm<|I.extBut _ _ D.i2z e) (a8.at λo e=>O.extBut _ _ D.l2i1<|I.extBut _ _ D.l2z e) i λg3 e f Y=>?_;exact hE g3 e (λc o a d g q=>f _ _ g<|O.extBut _ _ d<|I.extBut _ _ a q) Y
end
end DL
namespace L2
open PySem PySem.Spec PyProof.Rows
section
variable{κ:Type} [DecidableEq κ]
def WI(z:List (κ×V))(k:κ):Option V:=(z.find? λI=>decide<|I.1=k).map (·.2)
noncomputable def dn(z:List (κ×V))(k:κ)(v:V):List (κ×V):=
 if (z.any λI=>decide<|I.1=k)=dj then z.map (λI=>if I.1=k then (I.1,v)else I)else z++[(k,v)]
theorem X5{p:κ×V}{r:List (κ×V)}{k:κ}(e:p.1=k):WI (p::r) k=da p.2:=by simp[WI,Pp,e]
theorem WH{p:κ×V}{r:List (κ×V)}{k:κ}(e:¬p.1=k):WI (p::r) k=WI r k:=by simp[WI,Pp,e]
theorem J1(z:List (κ×V))(k:κ)(v:V):(dn z k v).length<=z.length+1:=by
 unfold dn;split
 ·rw[Nf];omega
 ·rw[NC,Nr,NK];omega
theorem B3.X_(r:B3 o u):o.isSome=u.isSome:=by
 cases o with
 |none=>cases u with
  |none=>rfl
  |some _=>exact(show False from r).elim
 |some _=>cases u with
  |none=>exact(show False from r).elim
  |some _=>rfl
theorem KV.val{J:List (κ×V)}{vs:List (κ×d9)}(r:KV J vs)(k:κ):B3 (WI J k) (N2 vs k):=by
 unfold KV at r
 induction r with
 |nil=>exact Pn
 | @cons p q f I h t U=>
  obtain⟨a,d⟩:=h;by_cases e:p.1=k
  ·have O:q.1=k:=a.symm.trans e
   have b:N2 (q::I) k=da q.2:=by simp[N2,Pp,O]
   rw[X5 e,b];exact d
  ·have O:¬q.1=k:=λz=>e (a.trans z)
   have b:N2 (q::I) k=N2 I k:=by simp[N2,Pp,O]
   rw[WH e,b];exact U
theorem KV.any(r:KV mu vs)(k:κ):(mu.any λI=>decide<|I.1=k)=vs.any λI=>decide (I.1=k):=by
 unfold KV at r
 induction r with
 |nil=>rfl
 |cons h t O=>rw[R9,R9,O,h.1]
theorem KV.I?(r:KV mu vs)(k:κ)(O:RelV y u):
 KV (mu.map λI=>if I.1=k then (I.1,y)else I) (vs.map λI=>if I.1=k then (I.1,u)else I):=by
 unfold KV at r ⊢
 induction r with
 |nil=>exact .nil
 |@cons p q d Y h t U=>
  rw[Nn,Nn];refine .cons ?_ U;obtain⟨a,b⟩:=h;by_cases e:p.1=k
  ·rw[UJ e,UJ (a.symm.trans e)];exact⟨a,O⟩
  ·rw[UY e,UY (λz=>e<|a.trans z)];exact⟨a,b⟩
theorem KV.put(r:KV mu vs)(k:κ)(I:RelV y u):KV (dn mu k y) (stored vs k u):=by
 unfold dn stored;rw[r.any k];by_cases e:(vs.any λO=>decide<|O.1=k)=dj
 ·rw[UJ e,UJ e];exact r.I? k I
 ·rw[UY e,UY e];exact Paired.snoc r ⟨rfl,I⟩
theorem KV.length(r:KV mu vs):mu.length=vs.length:=Paired.length r
end
theorem nv(r:RelV (kV k) u):(xN P w).is k u=dj:=by
 cases k with
 |inl i=>obtain⟨t,e⟩:=(show ∃t,u=TC i t from r);subst e;exact V4 P w i t
 |inr x=>obtain⟨t,e⟩:=(show ∃t,u=Tz x t from r);subst e;exact V3 P w x t
theorem Y8:∀{ks:List Key} {us:List d9},f6 (ks.map kV) us->ItemsAre (xN P w) ks us
 |[],_,r=>by rw[Uh]at r;cases r;exact .nil
 |k::ks,_,r=>by
  rw[Nn]at r;cases r with
  |cons h t=>exact .cons (nv h)<|Y8 t
abbrev KT(H:Hp):List (List Key×V)->List (List Key×dy×d9)->Prop:=Paired λp q=>p.1=q.1/\H q.2.1=da (.tup (p.1.map kV))/\RelV p.2 q.2.2
theorem KT.val{H:Hp}{J:List (List Key×V)}{xs:List (List Key×dy×d9)}(r:KT H J xs)(k:List Key):B3 (WI J k) ((I0 xs k).map (·.2)):=by
 induction r with
 |nil=>exact Pn
 | @cons p q f I h t U=>
  obtain⟨a,_,d⟩:=h;by_cases e:p.1=k
  ·have O:q.1=k:=a.symm.trans e
   have b:I0 (q::I) k=da q.2:=by simp[I0,Pp,O]
   rw[X5 e,b];exact d
  ·have O:¬q.1=k:=λz=>e (a.trans z)
   have b:I0 (q::I) k=I0 I k:=by simp[I0,Pp,O]
   rw[WH e,b];exact U
section
variable{P:ir}{w:g8}{H:Hp}{h:fh}{a:dy}
theorem Bk(ok:md P w H h)(e:Rd H a u):l8 P w H h a u:=e.ok ok
theorem nT(ok:md P w H h)(e:Rd H a (.dK mu)):mu.length<=fy/\(a==DR)=dt/\∃vs,KV mu vs/\h.DictOf (xN P w) a vs:=
 show l8 P w H h a (.dK mu)from Bk ok e
theorem Hq(ok:md P w H h)(e:H a=da (.dK mu)):mu.length<=fy/\(a==DR)=dt/\∃vs,KV mu vs/\h.DictOf (xN P w) a vs:=nT ok<|.inl e
theorem gu(ok:md P w H h)(e:H a=da (.tup<|ks.map kV)):(_m<|xN P w).is h ks a:=by obtain⟨_,b,r,o,d,f,n,I⟩:=(show l8 P w H h a (.tup<|ks.map kV)from ok a _ e);exact⟨o,b.toArray,n,d,(Prod.mk.inj f).1,I,by simpa using Y8 r⟩
theorem uH(ok:md P w H h)(e:Rd H a (.dT mu)):mu.length<=fy/\(a==DR)=dt/\
 ∃xs,KT H mu xs/\h.DictOfH (_m<|xN P w) a xs:=by
 obtain⟨z,y,xs,r,o,b,O,d,f,U,Y,g⟩:=(show l8 P w H h a (.dT mu)from Bk ok e);refine⟨z,y,xs,r,o,b,O,d,f,U,Y,λx hx=>?_,g⟩;have all:∀{l:List (List Key×V)} {m:List (List Key×dy×d9)},KT H l m->∀x∈m,(_m<|xN P w).is h x.1 x.2.1:=by
  intro l m q
  induction q with
  |nil=>intro x hx;exact nomatch hx
  | @cons p q j k I t i=>
   intro x hx;rcases MQ.mp hx with e|hx
   ·subst e
    exact gu ok (by rw[<-I.1];exact I.2.1)
   ·exact i x hx
 exact all r x hx
end
noncomputable def EM(H:Hp)(a:dy)(y:V)(r:Option V):Prop:=
 (∃d k,Rd H a (.dK d)/\y=kV k/\r=WI d k)\/∃d k b,Rd H a (.dT d)/\y=.ref b/\H b=da (.tup<|k.map kV)/\r=WI d k
section
variable{X:Cx}{pins:UQ}{σ:St}{H:Hp}{s:ej}{a:dy}{y v:V}{u r:d9}{o:Option V}{A:lp}{E:EQ}
theorem Inv.big(I:Inv X pins σ H s):DR<s.heap.objs.size:=by have h:r3<s.heap.objs.size:=(I.mod.glob.keeps I.bk).lt;exact Nat.lt_trans ⋯ h
theorem ik(L:A.units+1<Dg)(I:Inv X pins σ H s)(g:EM H a y (da v))(J:RelV y u)(h:∀w' s',Inv X pins σ H s'->RelV v w'->Q w' s'):
 wpAny (eF X.prog X.w) A (DG (.ref a) u) Q E s:=by
 rcases g with⟨i,k,e,O,l⟩|⟨i,k,b,e,O,m,l⟩
 ·subst O
  obtain⟨z,n,t,U,d⟩:=nT I.ft e;obtain⟨w',f,Y⟩:=B3.some_of (v:=v) (o:=N2 t k) (by rw[l];exact U.val k);exact wpAny_getItem_of (nv J) d.mapOf f<|h w' _ (I.tok _) Y
 ·subst O
  cases (show u=Nw b from J);obtain⟨z,n,x,U,d⟩:=uH I.ft e;obtain⟨w',f,Y⟩:=B3.some_of (v:=v) (o:=(I0 x k).map (·.2)) (by rw[l];exact U.val k);obtain⟨p,r,j⟩:=Option.map_eq_some_iff.mp f;refine wpAny_getItem_heap (tupleKind_room_in1 L) (gu I.ft m) d r ?_;rw[j];exact h w' _ (I.tok _) Y
theorem Mh(J:A.units+1<Dg)(I:Inv X pins σ H s)(g:EM H a y o)(Y:RelV y u)(h:∀s',Inv X pins σ H s'->Q (.bool o.isSome) s'):
 wpAny (eF X.prog X.w) A (sh .In u<|.ref a) Q E s:=by
 rcases g with⟨i,k,e,O,l⟩|⟨i,k,b,e,O,j,l⟩
 ·subst O
  obtain⟨z,f,m,U,d⟩:=nT I.ft e;refine wpAny_in_of (nv Y) f d.mapOf ?_;rw[<-(U.val k).X_,<-l];exact h _<|I.tok _
 ·subst O
  cases (show u=Nw b from Y);obtain⟨z,f,n,U,d⟩:=uH I.ft e;refine wpAny_in_heap (tupleKind_room_in1 J) (gu I.ft j) f d ?_;have q:=(U.val k).X_;rw[Option.isSome_map]at q;rw[<-q,<-l];exact h _<|I.tok _
theorem uJ(I:Inv X pins σ H s)(O:N6 (H a))(hs:Rf a s.heap h')(U:∃q,h'.get? a=da q)(new:l8 X.prog X.w (upd H a ob) h' a ob):
 Inv X pins σ (upd H a ob) {s with heap:=h',toks:=t'}:=
 I.write (x:=a) (e:=a) O (.inl rfl) (λb q Y z=>(hs.2 b Y).trans z) U new
theorem Eh(z:mu.length<=fy)(J:(a==DR)=dt)(I:KV mu vs)(dd:h'.DictOf (xN P w) a vs):
 l8 P w H' h' a (.dK mu):=⟨z,J,vs,I,dd⟩
end
def Iu(i:eK):Prop:=∀I O,E_ i dt I O=operate [I,O] (DG I O)
theorem rY{prog:ir}{w:g8}{A:lp}{E:EQ}{s:ej}{env:ml}{z I:eK}{pos:gv}{T id:String}{Q:EQ}
 (L:N0 (.type T) "__getitem__" = pure (da (.builtin id))) (hs:Iu I)
 (h:wpAny (eF prog w) A (eA z env) (λo J=>wpAny (eF prog w) A (eA I env) (λi O=>O.TypeIs o T/\wpAny (eF prog w) A (DG o i) Q E O) E J) E s):
 wpAny (eF prog w) A (eA (.Subscript z I pos) env) Q E s:=by
 refine P'<|Nv h (λo J b=>Nv b (λi O U=>?_) λ_ _ x=>x) λ_ _ x=>x;obtain⟨e,U⟩:=U;unfold _e;refine MD ?_;rw[getitemInPython_of_ne e.not_modules];refine MD<|wpAny_specialOf e L ?_;have Y:wpAny (eF prog w) A (E_ I dt o i) (λr a=>wpAny (eF prog w) A (letTemporaryGo z o r >>= λ_=>pure r) Q E a) E O:=by rw[hs o i];exact wpAny_operating<|Nv U (λr a d=>MD<|wpAny_letTemporaryGo<|ML d) λ_ _ x=>x
 first
  |exact ML<|MD Y
  |exact MD<|ML<|MD Y
  |exact MD Y
theorem Wk(I:Inv X pins σ H s)(g:EM H a y o):s.TypeIs (.ref a) "dict":=by
 rcases g with⟨f,k,e,_,_⟩|⟨f,k,b,e,_,_,_⟩
 ·obtain⟨_,_,h,_,d⟩:=nT I.ft e
  exact d.typeIs
 ·obtain⟨_,_,i,_,d⟩:=uH I.ft e
  exact d.typeIs
noncomputable def FZ(z ty:TE):TE:=λd H Q=>z d H λx e=>ty d e λy b=>∃a v,x=.ref a/\EM b a y (da v)/\Q v b
noncomputable def LI(ty z:TE):TE:=λd H Q=>ty d H λy e=>z d e λx b=>∃a o,x=.ref a/\EM b a y o/\Q (.bl o.isSome) b
section
variable{X:Cx}{o i e value:eK}{pos pos' uP:gv}{td ty zae:TE}
theorem tI(U:X.A.units+1<Dg)(Y:PE X o td)(z:PE X i ty)(hs:Iu i):PE X (.Subscript o i pos) (FZ td ty):=by intro b s d H Q I h;refine rY PySem.F.slot_dict_getitem.lookup hs<|f7 (Y b s d H _ I h) λu w ⟨x,e,j,r,n⟩=>f7 (z b w d e _ j n) λB C ⟨y,f,O,t,a,v,m,g,p⟩=>?_;subst m;obtain rfl:u=Nw a:=r;exact⟨Wk O g,ik U O g t λG E k l=>⟨v,f,k,l,p⟩⟩
theorem BP(O:X.A.units+1<Dg)(z:PE X i ty)(U:PE X o td):PC X .In i o (LI ty td):=by intro b s d H Q I h;refine f7 (z b s d H _ I h) λB w ⟨y,e,Y,t,n⟩=>f7 (U b w d e _ Y n) λu C ⟨x,f,j,r,a,m,l,g,p⟩=>?_;subst l;obtain rfl:u=Nw a:=r;exact Mh O j g t λE k=>⟨.bl m.isSome,f,k,rfl,p⟩
end
theorem nU(h:fh)(I:DR<h.objs.size):l8 P w H (h.push {cls:=.type "dict",data:=.dict #[]}) h.objs.size (.dK []):=
 ⟨rn _,beq_eq_false_iff_ne.mpr<|NH<|MZ I,[],.nil,Heap.DictOf.new h⟩
end L2
namespace DL
open PySem PySem.Spec PyProof.Rows L2
noncomputable def uQ:List Str:=["NoPrime","Nought","NoTable","NoWidths","NoRow","Unlike","TooMany","NoTurn","NoLine","Nothing","NoArrow","NoText","NoRoom"]
noncomputable def j_:List d9:=[.type "ValueError",.type "Exception",.type "BaseException",.type "object"]
def QS(K:MC)(c:Str):Option dy:=match RY K r3 c with
 |some (da (.ref C))=>da C
 |_=>none
noncomputable def oE(K:MC)(C:dy):Bool:=
 ["int","bool","str","tuple","list"].all (λt=>Om K (.ref C) (.type t)==da dt)&&Om K (.ref C) (.type "ValueError")==da dj&&
 PR K (.ref C) "__getattribute__" == da (da (.builtin "BaseException.__getattribute__"))&&PR K (.ref C) "__getattr__" == da none&&
 PR K (.ref C) "__class__" == da (da (.builtin "object.__class__"))&&OS K C (.type "object")==da dj&&OS K C (.type "BaseException")==da dj&&
 TF K (.builtin "object.__class__") "__get__" == da (da (.builtin "getset_descriptor.__get__"))&&PySem.W.takesIn K (.builtin "object.__class__")==da dj&&
 (R8 K C).any (λa=> !a.hasDel)&&SV K (.ref C)==da (.type "type")
noncomputable def WE(K:MC):Bool:=match QS K "SplitError" with
 | some S=>uQ.all λc=>match QS K c with
  |some C=>oE K C&&Om K (.ref C) (.ref S)==da dj&&uQ.all λI=>match QS K I with
   |some O=>Om K (.ref C) (.ref O)==da (c==I)
   |none=>dt
  |none=>dt
 |none=>dt
def de(h:fh)(a:dy)(C:dy):Prop:=∃o b,h.get? a=da o/\o.cls=.ref C/\o.data=.fields b
structure B4(K:MC)(H:Hp)(c:Str)(n:Option Int)(a:dy):Prop where
 all:WE K=dj
 mem:c∈uQ
 ex:∃C φ,QS K c=da C/\H a=da (.ext φ)/\(∀h,φ h->de h a C)/\
  match n with
  |none=>True
  |some i=>∃d,(∀h,φ h->∃o,h.get? a=da o/\o.dict=da d)/\H d=da (.xd [(if c==("NoRoom" : Str)then "room" else "at",.int i)])
theorem B4.mono{K:MC}{H H':Hp}{c:Str}{n:Option Int}{a:dy}(e:∀b o,H b=da o->H' b=da o)(h:B4 K H c n a):B4 K H' c n a:=by
 obtain⟨f,g,C,j,O,g2,U,I⟩:=h;refine⟨f,g,C,j,O,e _ _ g2,U,?_⟩;cases n with
 |none=>exact I
 |some i=>obtain⟨d,Y,f2⟩:=I;exact⟨d,Y,e _ _ f2⟩
theorem Jv{K:MC}{c:Str}{C:dy}(h:WE K=dj)(U:c∈uQ)(e:QS K c=da C):∃S,QS K "SplitError" = da S/\oE K C=dj/\Om K (.ref C) (.ref S)=da dj/\
 ∀I O,I∈uQ->QS K I=da O->Om K (.ref C) (.ref O)=da (c==I):=by
 unfold WE at h;split at h
 ·rename_i S Y
  have a:=OB.mp h c U;rw[e]at a;simp only[MO,beq_iff_eq]at a;refine⟨S,Y,a.1.1,a.1.2,λI O d f=>?_⟩;have b:=OB.mp a.2 I d;rw[f]at b;exact beq_iff_eq.mp b
 ·cases h
abbrev St:=L2.St
def CG:D->Option Key
 |.int i=>da (.inl i)
 |.str x=>da (.inr x)
 |_=>none
def Y5:List D->Option (List Key)
 |[]=>da []
 |d::ds=>(CG d).bind λk=>(Y5 ds).map λr=>k::r
noncomputable def D7(H:Hp)(a:dy)(ks:List D)(xs:List V):Prop:=∃b,Y5 ks=da b/\b.length=xs.length/\∃o,H a=da (.rb o<|.dK<|b.zip xs)
def FR(k:List Int):Int:=reduceHash<|Builtin.Tuple.tupleHashOf<|k.map hashInt
noncomputable def Mq(o:l7)(xs:List (List Int×dy×d9)):Prop:=o.ExactDict/\∃a I,o.data=.dict a I/\a.toList=xs.map (λx=>⟨FR x.1,.ref x.2.1,x.2.2⟩)/\(xs.map (·.1)).Nodup
def Q_(a:dy)(o:l7):HO:=.ext λh=>h.get? a=da o
noncomputable def R5(K:MC)(H:Hp)(a:dy)(ks:List (List Int))(ys:List V):Prop:=
 (a==DR)=dt/\∃o b,H a=da (Q_ a o)/\Mq o b/\b.map (·.1)=ks/\b.length<=fy/\(∀x∈b,h8 K H x.2.1<|x.1.map V.int)/\f6 ys (b.map (·.2.2))
def T4(I O:V):List (Str×V):=GF "table" O (GF "p" I [])
noncomputable def Vd(K:MC)(C:dy):Bool:=TX K C Str.empty&&(PySem.W.hasDictIn K C&&(PySem.W.plainOver K C&&(PR K (.ref C) "__setattr__" == da (da (.builtin "object.__setattr__"))&&(PR K (.ref C) "__class__" == da (da (.builtin "object.__class__"))&&
 (TF K (.builtin "object.__class__") "__get__" == da (da (.builtin "getset_descriptor.__get__"))&&(PySem.W.takesIn K (.builtin "object.__class__")==da dj&&(OS K C (.type "object")==da dj&&["int","bool","str","tuple","list"].all λt=>Om K (.ref C) (.type t)==da dt)))))))
noncomputable def L8(K:MC)(c:Str):Option dy:=match RY K r3 c with
 |some (da (.ref C))=>if Vd K C=dj then da C else none
 |_=>none
theorem aG{K:MC}{c:Str}{C:dy}(h:L8 K c=da C):Vd K C=dj:=by
 unfold L8 at h;split at h
 ·split at h
  ·rename_i I;cases h;exact I
  ·cases h
 ·cases h
mutual
def Rep(K:MC)(H:Hp):D->V->Prop
 |.el,v=>v=.el
 |.bl b,v=>v=.bl b
 |.int i,v=>v=.int i
 |.str x,v=>v=.str x
 |.tup ds,v=>∃a d,v=.ref a/\h8 K H a d/\ec K H ds d
 |.lst ds,v=>∃a d,v=.ref a/\hM K H a d/\ec K H ds d
 |.exc c n,v=>∃a,v=.ref a/\B4 K H c n a
 |.n9 ks vs,v=>∃a d,v=.ref a/\D7 H a ks d/\ec K H vs d
 |.ng ks vs,v=>∃a d,v=.ref a/\R5 K H a ks d/\ec K H vs d
 |.ins c p t,v=>∃a C e I O,v=.ref a/\L8 K c=da C/\H a=da (.ins C e<|T4 I O)/\Rep K H p I/\Rep K H t O
def ec(K:MC)(H:Hp):List D->List V->Prop
 |[],xs=>xs=[]
 |d::ds,xs=>∃x r,xs=x::r/\Rep K H d x/\ec K H ds r
end
theorem p4{K:MC}{H H':Hp}{a:dy}{xs:List V}(e:g5 H H')(h:h8 K H a xs):h8 K H' a xs:=by
 rcases h with(h|⟨o,h⟩)|h
 ·exact .inl<|.inl<|e _ _ h
 ·exact .inl<|.inr ⟨o,e _ _ h⟩
 ·exact .inr h
theorem vJ{k:Sk}{K:MC}{H H':Hp}{a:dy}{xs:List V}(e:g5 H H')(h:m5 k K H a xs):m5 k K H' a xs:=by
 cases k
 ·exact e.seq h
 ·exact p4 e h
mutual
theorem Rep.mono{K:MC}{H H':Hp}(e:g5 H H'):∀{d:D} {v:V},Rep K H d v->Rep K H' d v
 |.el,_,h=>h
 |.bl _,_,h=>h
 |.int _,_,h=>h
 |.str _,_,h=>h
 |.tup ds,v,h=>by obtain⟨a,b,f,i,g⟩:=(show ∃a b,v=.ref a/\h8 K H a b/\ec K H ds b from h);exact(show ∃a b,v=.ref a/\h8 K H' a b/\ec K H' ds b from⟨a,b,f,p4 e i,ec.mono e g⟩)
 |.lst ds,v,h=>by obtain⟨a,b,f,i,g⟩:=(show ∃a b,v=.ref a/\hM K H a b/\ec K H ds b from h);exact(show ∃a b,v=.ref a/\hM K H' a b/\ec K H' ds b from⟨a,b,f,e.seq i,ec.mono e g⟩)
 |.exc c n,v,h=>by obtain⟨a,f,i⟩:=(show ∃a,v=.ref a/\B4 K H c n a from h);exact(show ∃a,v=.ref a/\B4 K H' c n a from⟨a,f,i.mono e⟩)
 |.n9 ks vs,v,h=>by obtain⟨a,b,f,⟨w,U,g2,o,Y⟩,g⟩:=(show ∃a b,v=.ref a/\D7 H a ks b/\ec K H vs b from h);exact(show ∃a b,v=.ref a/\D7 H' a ks b/\ec K H' vs b from⟨a,b,f,⟨w,U,g2,o,e _ _ Y⟩,ec.mono e g⟩)
 |.ng ks vs,v,h=>by obtain⟨a,b,f,⟨U,o,y,g2,Y,k,l,g6,m⟩,g⟩:=(show ∃a b,v=.ref a/\R5 K H a ks b/\ec K H vs b from h);exact(show ∃a b,v=.ref a/\R5 K H' a ks b/\ec K H' vs b from⟨a,b,f,⟨U,o,y,e _ _ g2,Y,k,l,λx u=>p4 e<|g6 x u,m⟩,ec.mono e g⟩)
 |.ins c p t,v,h=>by obtain⟨a,C,j,I,O,f,i,g,r,s⟩:=(show ∃a C j I O,v=.ref a/\L8 K c=da C/\H a=da (.ins C j<|T4 I O)/\Rep K H p I/\Rep K H t O from h);exact(show ∃a C j I O,v=.ref a/\L8 K c=da C/\H' a=da (.ins C j<|T4 I O)/\Rep K H' p I/\Rep K H' t O from⟨a,C,j,I,O,f,i,e _ _ g,Rep.mono e r,Rep.mono e s⟩)
theorem ec.mono{K:MC}{H H':Hp}(e:g5 H H'):∀{ds:List D} {xs:List V},ec K H ds xs->ec K H' ds xs
 |[],_,h=>h
 |d::ds,xs,h=>by obtain⟨x,r,a,b,f⟩:=(show ∃x r,xs=x::r/\Rep K H d x/\ec K H ds r from h);exact(show ∃x r,xs=x::r/\Rep K H' d x/\ec K H' ds r from⟨x,r,a,Rep.mono e b,ec.mono e f⟩)
end
section
variable{K:MC}{H:Hp}
theorem ec.nil:ec K H [] []:=(show([]:List V)=[]from rfl)
theorem ec.cons(h:Rep K H d x)(t:ec K H ds xs):ec K H (d::ds) (x::xs):=⟨x,xs,rfl,h,t⟩
theorem ec.t7(h:ec K H [] xs):xs=[]:=h
theorem ec.p6(h:ec K H (d::ds) xs):∃x r,xs=x::r/\Rep K H d x/\ec K H ds r:=h
theorem ec.length:∀{ds:List D} {xs:List V},ec K H ds xs->xs.length=ds.length
 |[],xs,h=>by rw[h.t7];rfl
 |d::ds,xs,h=>by obtain⟨x,r,e,_,t⟩:=h.p6;rw[e,Nr,Nr,ec.length t]
theorem ec.get:∀{ds:List D} {xs:List V} {i:Nat} {d:D},ec K H ds xs->ds[i]? = da d->∃x,xs[i]? = da x/\Rep K H d x
 |[],_,_,_,_,e=>by simp at e
 |c::ds,xs,0,d,h,e=>by obtain⟨x,r,a,b,_⟩:=h.p6;simp at e;subst e;exact⟨x,by rw[a];rfl,b⟩
 |c::ds,xs,i+1,d,h,e=>by obtain⟨x,r,a,_,t⟩:=h.p6;obtain⟨y,I,g2⟩:=ec.get (i:=i) (d:=d) t (by simpa using e);exact⟨y,by rw[a];simpa using I,g2⟩
theorem ec.L7{ds:List D}{xs:List V}{i:Nat}{x:V}(h:ec K H ds xs)(e:xs[i]? = da x):∃d,ds[i]? = da d/\Rep K H d x:=by
 have b:i<ds.length:=by rw[<-h.length];exact(Np.mp e).1
 obtain⟨y,a,r⟩:=h.get<|MH b;rw[e]at a;cases a;exact⟨_,MH b,r⟩
theorem ec.append:∀{ds es:List D} {xs ys:List V},ec K H ds xs->ec K H es ys->ec K H (ds++es) (xs++ys)
 |[],_,xs,_,h,g=>by rw[h.t7];exact g
 |d::ds,es,xs,ys,h,g=>by obtain⟨x,r,e,a,t⟩:=h.p6;rw[e];exact ec.cons a<|ec.append t g
theorem ec.drop:∀{ds:List D} {xs:List V} (n:Nat),ec K H ds xs->ec K H (ds.drop n) (xs.drop n)
 |_,_,0,h=>h
 |[],xs,n+1,h=>by rw[h.t7];exact ec.nil
 |d::ds,xs,n+1,h=>by obtain⟨x,r,e,_,t⟩:=h.p6;rw[e];exact ec.drop n t
theorem ec.take:∀{ds:List D} {xs:List V} (n:Nat),ec K H ds xs->ec K H (ds.take n) (xs.take n)
 |_,_,0,h=>by simp;exact ec.nil
 |[],xs,n+1,h=>by rw[h.t7];exact ec.nil
 |d::ds,xs,n+1,h=>by obtain⟨x,r,e,a,t⟩:=h.p6;rw[e];exact ec.cons a<|ec.take n t
theorem ec.set:∀{ds:List D} {xs:List V} {d:D} {x:V} (i:Nat),ec K H ds xs->Rep K H d x->ec K H (ds.set i d) (xs.set i x)
 |[],xs,_,_,_,h,_=>by rw[h.t7];exact ec.nil
 |c::ds,xs,d,x,0,h,g=>by obtain⟨y,r,e,_,t⟩:=h.p6;rw[e];exact ec.cons g t
 |c::ds,xs,d,x,i+1,h,g=>by obtain⟨y,r,e,a,t⟩:=h.p6;rw[e];exact ec.cons a<|ec.set i t g
end
structure Ext(H0 H C7 H':Hp):Prop where
 s0:g5 H0 C7
 s1:g5 H H'
 sub:g5 C7 H'
 new:∀a,H0 a=none->H a≠none->C7 a=none
theorem Ext.refl(s:g5 H0 H):Ext H0 H H0 H:=⟨g5.refl _,g5.refl _,s,λ_ h _=>h⟩
theorem Ext.trans(a:Ext H0 H H1 G1)(b:Ext H1 G1 H2 G2):Ext H0 H H2 G2:=
 ⟨a.s0.trans b.s0,a.s1.trans b.s1,b.sub,λc e d=>b.new c (a.new c e d) (by
  cases q:H c with
  |none=>exact absurd q d
  |some o=>rw[a.s1 c o q];simp)⟩
theorem jF(h:H p=none)(o:HO):g5 H (upd H p o):=λb u q=>by rw[zK (jy q h)];exact q
theorem jA(s:g5 H0 H)(h:H p=none):H0 p=none:=s.free h
theorem dZ(s:g5 H0 H):g5 (upd H0 p o) (upd H p o):=λb u q=>by
 by_cases e:b=p
 ·subst e;rw[zM]at q ⊢;exact q
 ·rw[zK e]at q ⊢;exact s b u q
theorem Ext.alloc(s:g5 H0 H)(h:H p=none)(o:HO):Ext H0 H (upd H0 p o) (upd H p o):=
 ⟨jF (jA s h) o,jF h o,dZ s,λa b d=>by rw[zK (λe=>d<|by rw[e];exact h)];exact b⟩
theorem Ext.hide(s:g5 H0 H)(h:H p=none)(o:HO):Ext H0 H H0 (upd H p o):=
 ⟨g5.refl _,jF h o,s.trans<|jF h o,λa b _=>b⟩
theorem Ext.show(e:Ext H0 H C7 H')(J:H a=none)(L:C7 a=none)(O:H' a=da o)(s:g5 H0 H):Ext H0 H (upd C7 a o) H':=
 ⟨e.s0.trans<|jF L o,e.s1,λb u q=>by
  by_cases z:b=a
  ·subst z;rw[zM]at q;rw[O];exact q
  ·rw[zK z]at q;exact e.sub b u q,λb U I=>by
  rw[zK (λz=>I<|by rw[z];exact J)];exact e.new b U I⟩
structure En(K:MC)(H0 H:Hp)(rows:List (List D))(a:dy)(bs:List dy):Prop where
 a0:H0 a=none
 ha:H a=da (.lst<|bs.map V.ref)
 nd:(a::bs).Nodup
 len:bs.length=rows.length
 row:∀(k:Nat) b row,bs[k]? = da b->rows[k]? = da row->H0 b=none/\∃xs,H b=da (.lst xs)/\ec K H0 row xs
theorem En.at{K:MC}{H0 H:Hp}{z:List (List D)}{a:dy}{bs:List dy}(n:En K H0 H z a bs){b:dy}(I:b∈a::bs):H0 b=none/\∃xs,H b=da (.lst xs):=by
 rcases MQ.mp I with rfl|I
 ·exact⟨n.a0,_,n.ha⟩
 ·obtain⟨k,O⟩:=List.getElem?_of_mem I
  have U:=(Np.mp O).1;rw[n.len]at U;obtain⟨d,xs,e,_⟩:=n.row k b _ O<|MH U;exact⟨d,xs,e⟩
theorem En.move{K:MC}{H0 H J H':Hp}{z:List (List D)}{a:dy}{bs:List dy}(n:En K H0 H z a bs)(s:g5 H0 J)(L:∀b∈a::bs,J b=none)(h:∀b∈a::bs,H' b=H b):En K J H' z a bs:=
 ⟨L a Nc,by rw[h a Nc];exact n.ha,n.nd,n.len,λk b row I U=>by obtain⟨_,e,d,Y⟩:=n.row k b row I U;have O:b∈a::bs:=Ng _<|Th I;exact⟨L b O,e,by rw[h b O];exact d,Y.mono s⟩⟩
noncomputable def tv(K:MC)(H0 H:Hp)(z:St)(γ:Ctx):Prop:=
 (∀(i:Nat) b,γ[i]? = da (.nest b)->∃a bs,z[i]? = da (da (.ref a))/\En K H0 H b a bs/\∀(j:Nat) d c,γ[j]? = da (.own d)->z[j]? = da (da (.ref c))->c∉a::bs)/\
 ∀(i j:Nat) I e,γ[i]? = da (.nest I)->γ[j]? = da (.nest e)->i=j
theorem tv.UD{K:MC}{H0 H:Hp}{J:St}{γ:Ctx}(h:∀(i:Nat) z,γ[i]? ≠ da (.nest z)):tv K H0 H J γ:=⟨λi z e=>absurd e<|h i z,λi j I a e=>absurd e<|h i I⟩
theorem tv.move{K:MC}{H0 H J H':Hp}{L:St}{γ:Ctx}(n:tv K H0 H L γ)(s:g5 H0 J)(h:∀(i:Nat) z a bs,γ[i]? = da (.nest z)->L[i]? = da (da (.ref a))->En K H0 H z a bs->(∀(j:Nat) ds c,γ[j]? = da (.own ds)->L[j]? = da (da (.ref c))->c∉a::bs)->∀b∈a::bs,J b=none/\H' b=H b):tv K J H' L γ:=
 ⟨λi z e=>by obtain⟨a,bs,d,f,I⟩:=n.1 i z e;exact⟨a,bs,d,f.move s (λb O=>(h i z a bs e d f I b O).1)<|λb O=>(h i z a bs e d f I b O).2,I⟩,n.2⟩
theorem tv.ext{K:MC}{H0 H z H':Hp}{J:St}{γ:Ctx}(n:tv K H0 H J γ)(e:Ext H0 H z H'):tv K z H' J γ:=
 n.move e.s0 λi d a bs _ _ f _ b I=>by obtain⟨O,g,g2⟩:=f.at I;exact⟨e.new b O (by rw[g2];simp),by rw[e.s1 b _ g2,g2]⟩
structure RC(K:MC)(H0 H:Hp)(σ:St)(γ:Ctx):Prop where
 sub:g5 H0 H
 len:σ.length=γ.length
 val:∀(i:Nat) d,γ[i]? = da (.val d)->∃v,σ[i]? = da (da v)/\Rep K H0 d v
 own:∀(i:Nat) ds,γ[i]? = da (.own ds)->∃a xs,σ[i]? = da (da (.ref a))/\H0 a=none/\H a=da (.lst xs)/\ec K H0 ds xs
 ne:∀(i j:Nat) a ds es,γ[i]? = da (.own ds)->γ[j]? = da (.own es)->σ[i]? = da (da (.ref a))->σ[j]? = da (da (.ref a))->i=j
 C1:tv K H0 H σ γ
theorem RC.ext{K:MC}{H0 H z H':Hp}{J:St}{γ:Ctx}(r:RC K H0 H J γ)(e:Ext H0 H z H'):RC K z H' J γ:=
 ⟨e.sub,r.len,λi d h=>let ⟨v,b,f⟩:=r.val i d h;⟨v,b,f.mono e.s0⟩,
  λi g h=>let ⟨a,j,b,f,I,O⟩:=r.own i g h;⟨a,j,b,e.new a f (by rw[I];simp),e.s1 _ _ I,O.mono e.s0⟩,r.ne,r.C1.ext e⟩
noncomputable def tV(K:MC)(f:CO D):TE:=λh H Q=>∃e g d,RC K e H h g/\f g=da d/\∀v b a,Ext e H a b->Rep K a d v->Q v b
noncomputable def tQ(K:MC)(f:CO (Sk×List D)):TE:=λj H Q=>∃g i k h,RC K g H j i/\f i=da (k,h)/\∀a e d b,Ext g H b d->m5 k K d a e->(k=.T->h8 K b a e)->ec K b h e->Q (.ref a) d
noncomputable def tO(K:MC)(f:CO (List D)):TE:=λj H Q=>∃e i g,RC K e H j i/\f i=da g/\
 ∀a h d b,Ext e H b d->H a=none->b a=none->d a=da (.lst h)->ec K b g h->Q (.ref a) d
noncomputable def tT(K:MC)(f:CO Bool):TT:=λh H Q=>∃e g b,RC K e H h g/\f g=da b/\∀d a,Ext e H a d->Q b d
noncomputable def tA(K:MC)(f:CO (List D)):TA:=λi H Q=>∃d h e,RC K d H i h/\f h=da e/\∀g b a,Ext d H a b->ec K a e g->Q g b
abbrev PV(X:Cx)(e:eK)(f:CO D):Prop:=PE X e (tV X.K f)
abbrev PQ(X:Cx)(e:eK)(f:CO (Sk×List D)):Prop:=PE X e (tQ X.K f)
abbrev PO(X:Cx)(e:eK)(f:CO (List D)):Prop:=PE X e (tO X.K f)
abbrev ow(X:Cx)(e:eK)(f:CO Bool):Prop:=PT X e (tT X.K f)
abbrev E1(X:Cx)(e:eK)(f:CO Bool):Prop:=PW X e (tT X.K f)
abbrev Dw(X:Cx)(es:List eK)(f:CO (List D)):Prop:=PA X es (tA X.K f)
theorem qc(h:PE X e t)(i:∀z H Q,t' z H Q->t z H Q):PE X e t':=λa s z H Q I q=>h a s z H Q I<|i z H Q q
theorem bO(h:PT X e t)(i:∀z H Q,t' z H Q->t z H Q):PT X e t':=λa s z H Q I q=>h a s z H Q I<|i z H Q q
theorem Br(h:PW X e t)(i:∀z H Q,t' z H Q->t z H Q):PW X e t':=λO a s z H Q I q=>h O a s z H Q I<|i z H Q q
theorem BS(h:PA X es t)(i:∀z H Q,t' z H Q->t z H Q):PA X es t':=λpos a s z H Q I q=>h pos a s z H Q I<|i z H Q q
theorem yV{X:Cx}{st:i7}{t t':TS}(h:PS X st t)(i:∀D z H,t' D z H->t D z H):PS X st t':=λa s z H D I q=>h a s z H D I<|i D z H q
theorem pd{X:Cx}{st:List i7}{t t':TS}(h:u4 X st t)(i:∀D z H,t' D z H->t D z H):u4 X st t':=λa s z H D I q=>h a s z H D I<|i D z H q
theorem Ko(h:PI X tg e t)(i:∀z H R,t' z H R->t z H R):PI X tg e t':=λa s z H R I q=>h a s z H R I<|i z H R q
theorem vg(h:n<=lim):n<=fy:=NJ h ⋯
section
variable{X:Cx}{e a b c:eK}{pos:gv}
theorem PV.q(h:PV X e f):PQ X e (zJ f):=qc h λs H Q Y=>by
 obtain⟨p,o,k,i,rc,I,q⟩:=Y;unfold zJ at I;cases e1:f o with
 |none=>rw[e1]at I;cases I
 | some d=>
  rw[e1]at I;refine⟨p,o,d,rc,e1,λv n b ext r=>?_⟩;cases d with
  |tup l=>
   obtain⟨O,U⟩:k=.T/\i=l:=by simp[jx]at I;exact⟨I.1.symm,I.2.symm⟩
   subst O U;obtain⟨a,g,rfl,j,m⟩:=(show ∃a g,v=.ref a/\h8 X.K b a g/\ec X.K b i g from r);exact q a g n b ext (p4 ext.sub j) (λ_=>j) m
  |lst l=>
   obtain⟨O,U⟩:k=.L/\i=l:=by simp[jx]at I;exact⟨I.1.symm,I.2.symm⟩
   subst O U;obtain⟨a,g,rfl,j,m⟩:=(show ∃a g,v=.ref a/\hM X.K b a g/\ec X.K b i g from r);exact q a g n b ext (ext.sub.seq j) (λz=>nomatch z) m
  |_=>simp[jx]at I
theorem PO.v(h:PO X e f):PV X e (jz f):=qc h λp H Q Y=>by
 obtain⟨j,i,d,rc,I,q⟩:=Y;unfold jz at I;cases e1:f i with
 |none=>rw[e1]at I;cases I
 |some b=>
  rw[e1]at I;cases I;refine⟨j,i,b,rc,e1,λa n o k ext l g m r=>?_⟩;exact q _ _ _ (ext.show l g m rc.sub) (show ∃O U,V.ref a=.ref O/\hM X.K _ O U/\ec X.K _ b U from⟨a,n,rfl,hM.of zM,r.mono<|jF g _⟩)
theorem PO.q(h:PO X e f):PQ X e (jm f):=qc h λp H Q O=>by
 obtain⟨i,d,k,l,rc,I,q⟩:=O;unfold jm at I;cases e1:f d with
 |none=>rw[e1]at I;cases I
 |some m=>
  rw[e1]at I;cases I;exact⟨i,d,_,rc,e1,λa j g b ext n o U r=>q a j g b ext (hM.of U) (λz=>nomatch z) r⟩
theorem Bs(i:Nat)(h:PE X e (oI i)):PV X e (zc i):=qc h λm H Q O=>by
 obtain⟨b,j,d,rc,I,q⟩:=O;unfold zc at I;cases e1:j[i]? with
 |none=>rw[e1]at I;cases I
 | some c=>
  rw[e1]at I;cases c with
  |val k=>
   cases I;obtain⟨v,f,g⟩:=rc.val i d e1;exact⟨v,f,q v H b (Ext.refl rc.sub) g⟩
  |no=>cases I
  |own l=>cases I
  |nest a=>cases I
theorem BB(i:Nat)(h:PE X e (oI i)):PQ X e (zk i):=qc h λt H Q r=>by
 obtain⟨f,s,k,g,rc,I,q⟩:=r;unfold zk at I;cases e1:s[i]? with
 |none=>rw[e1]at I;cases I
 | some c=>
  rw[e1]at I;cases c with
  |no=>cases I
  |nest n=>cases I
  |own j=>
   cases I;obtain⟨a,b,l,m,o,p⟩:=rc.own i g e1;exact⟨_,l,q a b H f (Ext.refl rc.sub) (hM.of o) (λz=>nomatch z) p⟩
  | val d=>
   obtain⟨v,l,m⟩:=rc.val i d e1;refine⟨v,l,?_⟩;cases d with
   |tup j=>
    obtain⟨U,Y⟩:k=.T/\g=j:=by simp[wc,jx]at I;exact⟨I.1.symm,I.2.symm⟩
    subst U Y;obtain⟨a,b,rfl,O,g2⟩:=(show ∃a b,v=.ref a/\h8 X.K f a b/\ec X.K f g b from m);exact q a b H f (Ext.refl rc.sub) (p4 rc.sub O) (λ_=>O) g2
   |lst j=>
    obtain⟨U,Y⟩:k=.L/\g=j:=by simp[wc,jx]at I;exact⟨I.1.symm,I.2.symm⟩
    subst U Y;obtain⟨a,b,rfl,O,g2⟩:=(show ∃a b,v=.ref a/\hM X.K f a b/\ec X.K f g b from m);exact q a b H f (Ext.refl rc.sub) (rc.sub.seq O) (λz=>nomatch z) g2
   |_=>simp[wc,jx]at I
theorem Ji(h:PE X e (tC v))(r:∀H,Rep X.K H d v):PV X e (zu d):=qc h λg H Q I=>by obtain⟨a,f,b,rc,O,q⟩:=I;cases O;exact q v H a (Ext.refl rc.sub)<|r a
theorem zf:PV X (.Constant (.int i) j pos) (zu<|.int i):=Ji BN λ_=>(show V.int i=.int i from rfl)
theorem sQ:PV X (.Constant (.bool x) j pos) (zu<|.bl x):=Ji GK λ_=>(show V.bl x=.bl x from rfl)
theorem wz:PV X (.Constant .none j pos) (zu .el):=Ji BK λ_=>(show V.el=.el from rfl)
theorem j5:PV X (.Constant (.str x) j pos) (zu<|.str x):=Ji BH λ_=>(show V.str x=.str x from rfl)
noncomputable def p9(K:MC)(r:R2)(F:D->D->Option D):Prop:=∀b H x y f I d Q,g5 b H->Rep K b f x->Rep K b I y->F f I=da d->(∀v e a,Ext b H a e->Rep K a d v->Q v e)->r x y H Q
theorem zh(h:o.bind f=da y):∃x,o=da x/\f x=da y:=by
 cases o with
 |none=>cases h
 |some x=>exact⟨x,rfl,h⟩
theorem VX{K:MC}{r:R2}{F:D->D->Option D}{J L:CO D}(hs:p9 K r F):∀z H Q,tV K (zH F J L) z H Q->P7 r (tV K J) (tV K L) z H Q:=λz H Q U=>by obtain⟨f,b,d,rc,I,q⟩:=U;obtain⟨x,j,I⟩:=zh I;obtain⟨y,Y,I⟩:=zh I;refine⟨f,b,x,rc,j,λn p h x1 k=>⟨h,b,y,rc.ext x1,Y,λo g i O l=>?_⟩⟩;exact hs i g n o x y d Q O.sub (k.mono O.s0) l I λv e a x3 m=>q v e a (x1.trans<|O.trans x3) m
theorem Xv(I:l9 X (xr op) r)(hs:p9 X.K r F)(z:PV X a fa)(O:PV X b fb):PV X (.BinOp a op b pos) (zH F fa fb):=
 qc (mF I z O) (VX hs)
theorem oX(I:l9 X (sh op) r)(hs:p9 X.K r F)(z:PV X a fa)(O:PV X b fb)(J:Dd op b=dt):PV X (.Compare a [op] [b] pos) (zH F fa fb):=
 qc (tJ I z O J) (VX hs)
theorem K4{d:D}{b:Bool}(h:B6 d=da b):d=.bl b:=by cases d<;>simp[B6]at h;rw[h]
theorem Zs(O:l9 X (sh op) r)(hs:p9 X.K r F)(z:PV X a fa)(U:PV X b fb)(J:Dd op b=dt):ow X (.Compare a [op] [b] pos) (sB<|zH F fa fb):=
 bO (fu O z U J) λj H Q Y=>by obtain⟨g,i,k,rc,I,q⟩:=Y;obtain⟨d,h,I⟩:=zh I;refine VX hs j H _ ⟨g,i,d,rc,h,λv f e x r=>?_⟩;rw[K4 I]at r;exact⟨k,r,q f e x⟩
theorem xo{f:CO D}(h:PV X e f)(U:∀O,F3 e X.env O=(do let v<-O;M5 e.pos;holding [v] (truthy v)):=by intro _;rfl):ow X e (sB f):=
 bO (Bw h U) λl H Q Y=>by obtain⟨g,j,k,rc,I,q⟩:=Y;obtain⟨d,i,I⟩:=zh I;refine⟨g,j,d,rc,i,λv b a x r=>?_⟩;rw[K4 I]at r;exact⟨k,r,q b a x⟩
theorem Jh(h:ow X a f):E1 X (.BoolOp .And [a] pos) f:=sL h
theorem sJ(h:ow X a f):E1 X (.BoolOp .Or [a] pos) f:=Bp h
theorem Kk{f g:CO Bool}{yS:List eK}(z:ow X a f)(O:E1 X (.BoolOp .And (b::yS) pos) g):E1 X (.BoolOp .And (a::b::yS) pos) (QX f g):=
 Br (Bq z O) λn H Q U=>by
  obtain⟨i,e,k,rc,I,q⟩:=U;obtain⟨c,l,I⟩:=zh I;refine⟨i,e,c,rc,l,λh d x=>?_⟩;cases c with
  |true=>rw[UJ rfl]at I ⊢;exact⟨d,e,k,rc.ext x,I,λj Y m=>q j Y<|x.trans m⟩
  |false=>rw[UY Nd]at I ⊢;cases I;exact q h d x
theorem eX{f g:CO Bool}{yS:List eK}(z:ow X a f)(O:E1 X (.BoolOp .Or (b::yS) pos) g):E1 X (.BoolOp .Or (a::b::yS) pos) (lg f g):=
 Br (GC z O) λn H Q U=>by
  obtain⟨i,e,k,rc,I,q⟩:=U;obtain⟨c,l,I⟩:=zh I;refine⟨i,e,c,rc,l,λh d x=>?_⟩;cases c with
  |true=>rw[UJ rfl]at I ⊢;cases I;exact q h d x
  |false=>rw[UY Nd]at I ⊢;exact⟨d,e,k,rc.ext x,I,λj Y m=>q j Y<|x.trans m⟩
theorem Zr(z:ow X a f):ow X (.UnaryOp .Not a pos) (yb f):=
 bO (Bx z) λh H Q O=>by
  obtain⟨g,d,k,rc,I,q⟩:=O;unfold yb at I;cases e1:f d with
  |none=>rw[e1]at I;cases I
  |some c=>rw[e1]at I;cases I;exact⟨g,d,c,rc,e1,λe b x=>q e b x⟩
theorem fm(h:E1 X e f):ow X e f:=h.pt
theorem eZ(h:PV X a f):PV X (.BoolOp op [a] pos) f:=BI h
theorem W8{f g:CO D}{yS:List eK}(z:PV X a f)(O:PV X (.BoolOp .And (b::yS) pos) g):PV X (.BoolOp .And (a::b::yS) pos) (lh f g):=
 qc (BO z O) λt H Q U=>by
  obtain⟨k,i,d,rc,I,q⟩:=U;obtain⟨c,h,I⟩:=zh I;obtain⟨Y,n,h⟩:=zh h;refine⟨k,i,Y,rc,n,λv j e x r=>?_⟩;rw[K4 h]at r;refine⟨c,r,?_⟩;cases c with
  |true=>rw[UJ rfl]at I ⊢;exact⟨e,i,d,rc.ext x,I,λp l m s o=>q p l m (x.trans s) o⟩
  |false=>rw[UY Nd]at I ⊢;cases I;exact q _ j e x (show V.bl dt=.bl dt from rfl)
theorem oU(z:PV X a f):PV X (.UnaryOp .Not a pos) (Ba f):=
 qc (BJ z) λi H Q U=>by
  obtain⟨h,e,d,rc,I,q⟩:=U;unfold Ba at I;cases e1:f e with
  |none=>rw[e1]at I;cases I
  |some O=>
   rw[e1]at I;refine⟨h,e,O,rc,e1,λv g b x r=>?_⟩;cases O with
   |bl c=>cases I;exact⟨c,r,q _ g b x<|show V.bl (!c)=.bl (!c)from rfl⟩
   |_=>cases I
theorem xl(L:ow X c k)(z:PV X a f)(J:PV X b g):PV X (.IfExp c a b pos) (W0 k f g):=
 qc (mG L z J) λp H Q n=>by
  obtain⟨l,j,d,rc,I,q⟩:=n;obtain⟨t,m,I⟩:=zh I;refine⟨l,j,t,rc,m,λo e x=>?_⟩;cases t with
  |true=>rw[UJ rfl]at I ⊢;exact⟨e,j,d,rc.ext x,I,λO h U Y i=>q O h U (x.trans Y) i⟩
  |false=>rw[UY Nd]at I ⊢;exact⟨e,j,d,rc.ext x,I,λO h U Y i=>q O h U (x.trans Y) i⟩
theorem tM:Dw X [] zF:=BS qd λe H Q I=>by obtain⟨a,d,b,rc,O,q⟩:=I;cases O;exact q [] H a (Ext.refl rc.sub) ec.nil
theorem mK(z:PV X e f)(Y:Dw X es g)(hs:fA (e::es) X.env=(dt,eA e X.env)::fA es X.env:=by rfl):Dw X (e::es) (zb f g):=
 BS (jr z Y hs) λs H Q k=>by
  obtain⟨b,a,p,rc,I,q⟩:=k;obtain⟨x,j,I⟩:=zh I;cases O:g a with
  |none=>rw[O]at I;cases I
  |some r=>
   rw[O]at I;cases I;exact⟨b,a,x,rc,j,λv o h x1 l=>⟨h,a,r,rc.ext x1,O,λn d i U m=>q (v::n) d i (x1.trans U)<|ec.cons (l.mono U.s0) m⟩⟩
theorem jL(h:Dw X es f):PV X (.Tuple es x1 pos) (qF f):=
 qc (BG h) λo H Q j=>by
  obtain⟨g,l,d,rc,I,q⟩:=j;obtain⟨b,i,I⟩:=zh I;by_cases O:b.length<=lim
  ·rw[UJ O]at I;cases I
   refine⟨g,l,b,rc,i,λk m n x1 U=>⟨vg (by rw[U.length];exact O),λp Y=>?_⟩⟩;exact q _ _ _ (x1.trans<|Ext.alloc x1.sub Y _) (show ∃a e,V.ref p=.ref a/\h8 X.K _ a e/\ec X.K _ b e from⟨p,k,rfl,h8.of zM,U.mono<|jF (jA x1.sub Y) _⟩)
  ·rw[UY O]at I;cases I
theorem jI(h:Dw X es f):PO X (.List es pos) (jC f):=
 qc (BL h) λm H Q i=>by
  obtain⟨a,k,d,rc,I,q⟩:=i;obtain⟨e,g,I⟩:=zh I;by_cases U:e.length<=lim
  ·rw[UJ U]at I;cases I
   refine⟨a,k,_,rc,g,λj l b x1 Y=>⟨vg (by rw[Y.length];exact U),λp O=>?_⟩⟩;exact q p j _ b (x1.trans<|Ext.hide x1.sub O _) (by
    cases z:H p with
    |none=>rfl
    |some o=>rw[x1.s1 p o z]at O;cases O) (jA x1.sub O) zM Y
  ·rw[UY U]at I;cases I
end
noncomputable def Dx(k1 k2:Sk)(z TI TO J L I Y:dy)(n:Nat)(h:fh):Prop:=
 (uS h z TI TO .none\/∃a b O,h.get? z=da (VJ a b TI TO)/\h.get? a=da O)/\nt h TI (.ref J) (.ref L)/\(∃c e,nt h TO c e)/\la k1 h J I n/\la k2 h L Y n
section
variable{prog:ir}{w:g8}{A:lp}{E:EQ}{s:ej}
theorem Au{k1 k2:Sk}{z TI TO J L U l2:dy}{n:Nat}{xs ys:Array d9}{Q:Option d9->ej->Prop}(hh:A.handled=none)(D:B5 z TI TO J L U l2)
 (Z:Dx k1 k2 z TI TO J L U l2 n s.heap) (a5:n4 k1 s.heap U xs) (a6:n4 k2 s.heap l2 ys) (a7:xs[n]? = none\/ys[n]? = none)
 (hQ:∀h',(∀c o,c ∉ [z,TI,TO,J,L]->s.heap.get? c=da o->h'.get? c=da o)->Q none {s with heap:=h'}):wpAny (eF prog w) A (z8<|.ref z) Q E s:=by
 obtain⟨a,i,⟨c,e,l⟩,j,k⟩:=Z;unfold z8;rcases a with a|⟨al,b,oa,a,ha⟩
 ·have O:s.TypeIs (.ref z) "zip":=⟨_,a,rfl⟩
  refine MD (Pc (NG (name:=Nz "__next__") O OD (Oh OD O Rh
   (WD (show A.in1.handled=none from hh) D a i l j k a5 a6 a7 λg e Y f=>?_) (PZ _))))
  obtain⟨o,h,d⟩:=f;refine MD (Tf (T:="StopIteration") (b:=dj) ⟨o,h,d⟩ Ud (ML ?_));refine hQ g λc o I q=>?_;simp only[MQ,MY,or_false,not_or]at I;exact Y c o I.1 I.2.2.1 I.2.2.2.1 I.2.2.2.2 q
 ·have O:s.TypeIs (.ref z) "zip":=⟨_,a,rfl⟩
  refine MD (Pc (NG (name:=Nz "__next__") O OD (Oh OD O Rh
   (lz (show A.in1.handled=none from hh) D a ha i j k a5 a6 a7 λg e Y f=>?_) (PZ _))))
  obtain⟨o,h,d⟩:=f;refine MD (Tf (T:="StopIteration") (b:=dj) ⟨o,h,d⟩ Ud (ML ?_));refine hQ g λc o I q=>?_;simp only[MQ,MY,or_false,not_or]at I;exact Y c o I.1 I.2.2.2.1 I.2.2.2.2 q
end
def me(z:List (Key×V))(ps:List (Key×V)):List (Key×V):=ps.foldl (λacc I=>dn acc I.1 I.2) z
theorem vi:entryFor table "dict.update.loop" = da Builtin.«dict.update.loop» :=entryFor_of_tree (by kernel_rfl)
theorem va(args:Args):(Code.builtin "dict.update.loop" args).quiet=dj:=Code.quiet_builtin _ ⋯
noncomputable def Mw(i:Nat)(f:CO D)(γ:Ctx):Option D:=(xA γ[i]?).bind λa=>(f<|γ.set i<|.val<|.lst a).bind λd=>if Hl d=dj then da d else none
def LS(i:Nat)(f:CO Bool)(γ:Ctx):Option Bool:=(xA γ[i]?).bind λa=>f<|γ.set i<|.val<|.lst a
def IE(i:Nat)(γ:Ctx):Option Fl:=(xA γ[i]?).map λ_=>.next (γ.set i<|.own [])
def xy(ds:List D):List D:=(ME ds.length).map λ(i:Nat)=>D.tup [.int i,ds[i]?.getD .el]
noncomputable def lW(f:CO D)(γ:Ctx):Option (List D):=(f γ).bind λd=>match d with
 |.tup a=>da (xy a)
 |_=>none
def KG:List D->Option (List Int)
 |[]=>da []
 |.int i::r=>(KG r).map λl=>i::l
 |_::_=>none
noncomputable def Ms(f:CO D)(g:CO (Sk×List D))(γ:Ctx):Option D:=(f γ).bind λd=>(g γ).bind λa=>(o6 d).bind λi=>(KG a.2).map λl=>.bl (decide<|i∈l)
noncomputable def gS(k:Int):List Int->Option Nat
 |[]=>none
 |i::r=>if i=k then da 0 else (gS k r).map (· + 1)
noncomputable def Mt(f g:CO D)(γ:Ctx):Option D:=(f γ).bind λd=>((g γ).bind o6).bind λk=>match d with
 |.tup a=>(KG a).bind λl=>(gS k l).map λ(j:Nat)=>D.int (j:Int)
 |_=>none
noncomputable def iu(T:Tg)(f:CO (List D))(γ:Ctx):List D->Option (List<|List D)
 |[]=>da []
 |d::ds=>(km T d γ).bind λa=>(f a).bind λe=>(iu T f γ ds).map λr=>e::r
noncomputable def ID(z:CO (List D))(T:Tg)(n:Nat)(fr:List Nat)(f:CO (List D))(γ:Ctx):Option (List<|List D):=(z γ).bind λa=>if a.length<=lim then iu T f (jo n fr γ) a else none
def KZ:Option Cell->Option (List<|List D)
 |some (.nest rows)=>da rows
 |_=>none
def oP(γ:Ctx)(j i:Nat)(r:List D):Ctx:=(γ.set j .no).set i (.own r)
noncomputable def aK(j i:Nat)(g f:CO D)(γ:Ctx):List (List D)->Option (List<|List D)
 |[]=>da []
 |r::rs=>(f<|oP γ j i r).bind λd=>((g<|oP γ j i r).bind o6).bind λk=>(i0 r.length k).bind λm=>(aK j i g f γ rs).map λt=>r.set m d::t
noncomputable def Gs(j i:Nat)(g f:CO D)(γ:Ctx):Option Fl:=(KZ γ[j]?).bind λa=>if i=j\/γ.length<=i then none else (aK j i g f γ a).map λI=>.next ((γ.set j<|.nest I).set i .no)
def Mu(i:Nat)(F:CO Fl)(γ:Ctx):Option Fl:=(xA γ[i]?).bind λa=>F<|γ.set i<|.val<|.lst a
noncomputable def LP(i:Nat)(F:CO Fl)(γ:Ctx):Option Fl:=(KZ γ[i]?).bind λa=>F<|γ.set i<|.val<|.lst<|a.map D.lst
noncomputable def IB(is:List Nat)(f:CO D)(γ:Ctx):Option Fl:=(f γ).bind λd=>match d with
 |.lst a=>if a.length=is.length then da (.next<|xk is a γ)else none
 |_=>none
def Yv:List D->Option (List Str)
 |[]=>da []
 |.str x::r=>(Yv r).map λl=>x::l
 |_::_=>none
def js(x:Str):Bool:=decide<|x.length<=1000
noncomputable def sD(f:CO D)(g:CO (Sk×List D))(γ:Ctx):Option D:=(f γ).bind λd=>(g γ).bind λa=>match d,a.1 with
 |.str sep,.L=>(Yv a.2).bind λl=>if l.length<=lim/\l.all js=dj/\js sep=dj then da (.str<|Uv sep l)else none
 |_,_=>none
noncomputable def qS(f g:CO D)(γ:Ctx):Option D:=(f γ).bind λd=>((g γ).bind o6).bind λi=>match d with
 |.str z=>if js z=dj then (i0 z.cps.toList.length i).bind λk=>z.cps.toList[k]?.map λc=>.str ⟨#[c]⟩else none
 |_=>none
noncomputable def yC(f:CO D)(γ:Ctx):Option D:=(f γ).bind λd=>match d with
 |.str z=>if js z=dj then da (.int z.length)else none
 |_=>none
noncomputable def LQ(k1 I k2 O:Str)(f:CO D)(γ:Ctx):Option D:=(f γ).bind λd=>match d with
 |.str x=>if k1=k2 then none else if x=k1 then da (.str I)else if x=k2 then da (.str O)else none
 |_=>none
noncomputable def eH(f g:CO D)(γ:Ctx):Option D:=((f γ).bind o6).bind λi=>((g γ).bind o6).map λj=>.int (if j<i then j else i)
abbrev Xn:=Str×Option Int
def C6:CO Xn:=λ_=>none
def iZ(c:Str):CO Xn:=λ_=>da (c,none)
def tu(k:CO Bool)(G H:CO Xn):CO Xn:=λa=>(k a).bind λb=>if b=dj then G a else H a
noncomputable def oC(G:CO Xn)(F:CO Fl)(H:CO Xn):CO Xn:=λb=>match G b with
 |some c=>da c
 |none=>(F b).bind λI=>match I with
  |.next a=>H a
  |_=>none
def yc(G:List D->Option Xn)(g:CO (List D)):CO Xn:=λa=>(g a).bind G
def W1(n:Nat)(G:CO Xn)(ds:List D):Option Xn:=G<|z9 n ds
noncomputable def WZ(c:Str)(f:CO D):CO D:=λa=>(f a).bind λd=>match d with
 |.exc I _=>da (.bl<|I==c)
 |_=>none
def Bc(f:CO D):CO D:=λa=>(f a).bind λd=>match d with
 |.exc _ _=>da (.bl dj)
 |_=>none
def Mi(c:Str):Str:=if c==("NoRoom" : Str)then "room" else "at"
noncomputable def Kf(f:CO D)(g:CO (Sk×List D)):CO D:=λb=>(f b).bind λd=>(g b).bind λa=>(o6 d).bind λi=>(KG a.2).map λl=>.bl (!decide (i∈l))
end DL
namespace DL
open PySem L2
open PySem.W (KasT kas_sort)
def kf(z:Str):List D:=z.cps.toList.map λc=>D.str ⟨#[c]⟩
noncomputable def AY(f:CO D)(γ:Ctx):Option (List D):=(f γ).bind λd=>match d with
 |.str z=>if js z=dj then da (kf z)else none
 |_=>none
noncomputable def Xt(f:CO D)(γ:Ctx):Option (List D):=(f γ).bind λd=>match d with
 |.str z=>if js z=dj then da (xy<|kf z)else none
 |_=>none
noncomputable def eO(f:CO D)(γ:Ctx):Option (List D):=(f γ).bind λd=>match d with
 |.lst a=>da (xy a)
 |_=>none
noncomputable def LN(f:CO D)(g:CO (Sk×List D))(γ:Ctx):Option D:=(f γ).bind λd=>(g γ).bind λa=>match d with
 |.str x=>(Yv a.2).map λl=>.bl (l.any λy=>y==x)
 |_=>none
noncomputable def Kh(f g:CO D)(γ:Ctx):Option D:=(f γ).bind λd=>(g γ).bind λe=>match d,e with
 |.str x,.str y=>if js x=dj/\js y=dj then da (.str<|x++y)else none
 |_,_=>none
noncomputable def Gq(f:CO D)(l h:CO (Option Int))(γ:Ctx):Option D:=(f γ).bind λd=>(l γ).bind λlo=>(h γ).bind λa=>match d with
 |.str z=>if js z=dj then da (.str<|Txt.slice z lo a)else none
 |_=>none
noncomputable def EU(f:CO (Sk×List D))(γ:Ctx):Option (List D):=(f γ).bind λa=>match a.1 with
 |.L=>if a.2.length<=lim then da a.2.reverse else none
 |_=>none
def GM:D->Option (Int×Int)
 |.tup [.int a,.int b]=>da (a,b)
 |_=>none
noncomputable def pk:List D->Option (List<|Int×Int)
 |[]=>da []
 |d::r=>(GM d).bind λp=>(pk r).map λl=>p::l
def wN(x y:Int×Int):Bool:=if x.1=y.1 then decide (x.2<y.2)else decide (x.1<y.1)
def ky{z:Type}(lt:Nat->Nat->Bool):KasT z->z
 |.ret a=>a
 |.ask i j k=>ky lt<|k<|lt i j
noncomputable def kK(ps:List (Int×Int)):List Nat:=if ps.length<2 then ME ps.length else (ky (λi j=>wN (ps.getD i (0,0))<|ps.getD j (0,0))<|kas_sort ps.length).toList
noncomputable def Gm(ds:List D):Option (List D):=(pk ds).bind λa=>if ds.length<64 then da ((kK a).map λi=>ds.getD i .el)else none
noncomputable def AZ(f:CO (Sk×List D))(γ:Ctx):Option (List D):=(f γ).bind λa=>match a.1 with
 |.L=>Gm a.2
 |_=>none
end DL
namespace DL
open PySem L2
noncomputable def VO(i:Nat)(f:CO (List D))(γ:Ctx):Option Fl:=(xA γ[i]?).bind λa=>(f γ).bind λb=>if a.length+b.length<=lim then da (.next<|γ.set i<|.own<|a++b)else none
noncomputable def IF(F G:List D->Option Res)(g:CO (List D))(γ:Ctx):Option (List D):=(g γ).bind λl=>match l with
 |[p,.str z,t,b]=>((if z=("r" : Str)then F else G) [p,t,b]).bind Am
 |_=>none
def Xh:List D->Option (List Int)
 |[]=>da []
 |.int i::r=>(Xh r).map λl=>i::l
 |_::_=>none
noncomputable def nV(ds es:List D):Option D:=match Xh ds with
 |some a=>if ds.length=es.length/\a.Nodup/\ds.length<=lim then da (.n9 ds es)else none
 |none=>none
noncomputable def aJ:List D->List D->Int->Option D
 |k::ks,v::vs,i=>match k with
  |.int j=>if j=i then da v else aJ ks vs i
  |_=>aJ ks vs i
 |_,_,_=>none
open PySem.Spec PyProof.Rows
structure RS(K:MC)(E0 E H0 H:Hp)(σ:St)(γ:Ctx):Prop where
 rc:RC K H0 H σ γ
 ext:Ext E0 E H0 H
 fresh:∀(i:Nat) ds a,γ[i]? = da (.own ds)->σ[i]? = da (da (.ref a))->E a=none
 DF:∀(i:Nat) rows a xs,γ[i]? = da (.nest rows)->σ[i]? = da (da (.ref a))->H a=da (.lst xs)->E a=none/\∀b,V.ref b∈xs->E b=none
noncomputable def Sat(K:MC)(E0 E:Hp)(D:Ends):Fl->Prop
 |.next f=>∀e H b,RS K E0 E b H e f->D.nx e H
 |.brk f=>∀e H b,RS K E0 E b H e f->D.bk e H
 |.cont f=>∀e H b,RS K E0 E b H e f->D.ct e H
 |.ret (.val d)=>∀v H b,Ext E0 E b H->Rep K b d v->D.rt v H
 |.ret (.own es)=>∀a g H b,Ext E0 E b H->E a=none->b a=none->H a=da (.lst g)->ec K b es g->D.rt (.ref a) H
def tS(K:MC)(F:CO Fl):TS:=λD d H=>∃E0 E b a I,RS K E0 E b H d a/\F a=da I/\Sat K E0 E D I
abbrev o8(X:Cx)(st:i7)(F:CO Fl):Prop:=PS X st (tS X.K F)
abbrev du(X:Cx)(M?:List i7)(F:CO Fl):Prop:=u4 X M? (tS X.K F)
section
variable{K:MC}{E0 E H0 H C7 H':Hp}{σ:St}{γ:Ctx}
theorem RS.step(r:RS K E0 E H0 H σ γ)(e:Ext H0 H C7 H'):RS K E0 E C7 H' σ γ:=⟨r.rc.ext e,r.ext.trans e,r.fresh,λi b a g d f O=>by obtain⟨U,bs,I,g2,_⟩:=r.rc.C1.1 i b d;rw[f]at I;cases I;have:=e.s1 a _ g2.ha;rw[O]at this;cases this;exact r.DF i b a _ d f g2.ha⟩
theorem jd{z:Type}{l:List z}{i j:Nat}{x y:z}(h:(l.set i x)[j]? = da y):(j=i/\y=x/\i<l.length)\/(j≠i/\l[j]? = da y):=by
 by_cases e:i=j
 ·subst e
  by_cases I:i<l.length
  ·rw[NZ I]at h;cases h;exact .inl ⟨rfl,rfl,I⟩
  ·rw[List.set_eq_of_length_le ⋯]at h
   exact absurd (Np.mp h).1 I
 ·rw[MV e]at h;exact .inr ⟨NH e,h⟩
theorem tv.A4{i:Nat}{d:D}{v:V}(n:tv K H0 H σ γ):tv K H0 H (σ.set i<|some v) (γ.set i<|.val d):=
 ⟨λj b e=>by
  rcases jd e with⟨_,z,_⟩|⟨U,z⟩
  ·cases z
  ·obtain⟨a,bs,h,l,Y⟩:=n.1 j b z
   refine⟨a,bs,by rw[MV (NH U)];exact h,l,λk g c f I=>?_⟩;rcases jd f with⟨_,z,_⟩|⟨m,O⟩
   ·cases z
   ·rw[MV (NH m)]at I;exact Y k g c O I,
 λj k o p f I=>by
  rcases jd f with⟨_,z,_⟩|⟨_,O⟩
  ·cases z
  ·rcases jd I with⟨_,z,_⟩|⟨_,r⟩
   ·cases z
   ·exact n.2 j k o p O r⟩
theorem RC.A4{i:Nat}{d:D}{v:V}(r:RC K H0 H σ γ)(h:Rep K H0 d v):RC K H0 H (σ.set i<|some v) (γ.set i<|.val d):=by
 refine⟨r.sub,by simp[r.len],λj g e=>?_,λj b e=>?_,λj k a b n l m U Y=>?_,r.C1.A4⟩
 ·rcases jd e with⟨rfl,z,f⟩|⟨I,z⟩
  ·cases z;exact⟨v,NZ (by rw[r.len];exact f),h⟩
  ·obtain⟨p,O,g2⟩:=r.val j g z
   exact⟨p,by rw[MV (NH I)];exact O,g2⟩
 ·rcases jd e with⟨rfl,z,f⟩|⟨I,z⟩
  ·cases z
  ·obtain⟨a,s,O,g2⟩:=r.own j b z
   exact⟨a,s,by rw[MV (NH I)];exact O,g2⟩
 ·rcases jd l with⟨_,z,_⟩|⟨I,t⟩
  ·cases z
  ·rcases jd m with⟨_,z,_⟩|⟨o,u⟩
   ·cases z
   ·rw[MV (NH I)]at U
    rw[MV (NH o)]at Y;exact r.ne j k a b n t u U Y
theorem RS.A4{i:Nat}{d:D}{v:V}(r:RS K E0 E H0 H σ γ)(h:Rep K H0 d v):RS K E0 E H0 H (σ.set i<|some v) (γ.set i<|.val d):=
 ⟨r.rc.A4 h,r.ext,λj f a e I=>by
  rcases jd e with⟨_,z,_⟩|⟨O,z⟩
  ·cases z
  ·rw[MV (NH O)]at I;exact r.fresh j f a z I,
 λj b a g e I U=>by
  rcases jd e with⟨_,z,_⟩|⟨O,z⟩
  ·cases z
  ·rw[MV (NH O)]at I;exact r.DF j b a g z I U⟩
theorem JV:∀{I bs:List dy},I.map V.ref=bs.map V.ref->I=bs
 |[],[],_=>rfl
 |[],_::_,h=>by cases h
 |_::_,[],h=>by cases h
 |a::I,b::bs,h=>by rw[Nn,Nn]at h;injection h with h1 h2;injection h1 with h1;rw[h1,JV h2]
theorem RS.L?{i:Nat}{es:List D}{a:dy}{xs:List V}{L G:Hp}(r:RS K E0 E L G σ γ)(e:Ext L G H0 H)(J:G a=none)(Z:H0 a=none)(h3:H a=da (.lst xs))(h4:ec K H0 es xs):
 RS K E0 E H0 H (σ.set i<|some (.ref a)) (γ.set i<|.own es):=by
 have rc:=r.rc.ext e;have no:∀(j:Nat) f,γ[j]? = da (.own f)->¬σ[j]? = da (da (.ref a)):=λj f g z=>by obtain⟨b,u,I,g2,g3,_⟩:=r.rc.own j f g;rw[z]at I;cases I;rw[J]at g3;cases g3
 refine⟨⟨rc.sub,by simp[rc.len],λj x g=>?_,λj f g=>?_,λj k b f fs t Y h l=>?_,⟨λj d g=>?_,λj k C F I g2=>?_⟩⟩,r.ext.trans e,λj f b I g2=>?_,λj d b xs I g2 g3=>?_⟩
 ·rcases jd g with⟨_,z,_⟩|⟨O,z⟩
  ·cases z
  ·obtain⟨M,I,g2⟩:=rc.val j x z
   exact⟨M,by rw[MV (NH O)];exact I,g2⟩
 ·rcases jd g with⟨rfl,z,U⟩|⟨O,z⟩
  ·cases z;exact⟨a,xs,NZ (by rw[rc.len];exact U),Z,h3,h4⟩
  ·obtain⟨b,u,I,g2⟩:=rc.own j f z
   exact⟨b,u,by rw[MV (NH O)];exact I,g2⟩
 ·rcases jd t with⟨rfl,z,U⟩|⟨O,m⟩
  ·rcases jd Y with⟨rfl,_,_⟩|⟨n,p⟩
   ·rfl
   ·rw[NZ (by rw[rc.len];exact U)]at h
    rw[MV (NH n)]at l;cases h;exact absurd l<|no k fs p
  ·rcases jd Y with⟨rfl,z,U⟩|⟨n,p⟩
   ·rw[NZ (by rw[rc.len];exact U)]at l
    rw[MV (NH O)]at h;cases l;exact absurd h<|no j f m
   ·rw[MV (NH O)]at h
    rw[MV (NH n)]at l;exact rc.ne j k b f fs m p h l
 ·rcases jd g with⟨_,z,_⟩|⟨O,z⟩
  ·cases z
  ·obtain⟨b,bs,I,g2,g3⟩:=r.rc.C1.1 j d z
   obtain⟨P,s,f1,f2,A⟩:=rc.C1.1 j d z;rw[I]at f1;cases f1;have y:s.map V.ref=bs.map V.ref:=by have:=e.s1 b _ g2.ha;rw[f2.ha]at this;injection this with this;injection this
   have w:s=bs:=JV y;subst w;refine⟨b,s,by rw[MV (NH O)];exact I,f2,λk f c t Y=>?_⟩;rcases jd t with⟨rfl,_,U⟩|⟨n,m⟩
   ·rw[NZ (by rw[rc.len];exact U)]at Y;cases Y
    intro B;obtain⟨_,N,q⟩:=g2.at B;rw[J]at q;cases q
   ·rw[MV (NH n)]at Y;exact A k f c m Y
 ·rcases jd I with⟨_,z,_⟩|⟨_,m⟩
  ·cases z
  ·rcases jd g2 with⟨_,z,_⟩|⟨_,p⟩
   ·cases z
   ·exact rc.C1.2 j k C F m p
 ·rcases jd I with⟨rfl,z,U⟩|⟨O,z⟩
  ·rw[NZ (by rw[rc.len];exact U)]at g2;cases g2
   cases q:E a with
   |none=>rfl
   |some o=>rw[r.ext.s1 a o q]at J;cases J
  ·rw[MV (NH O)]at g2;exact r.fresh j f b z g2
 ·rcases jd I with⟨_,z,_⟩|⟨O,z⟩
  ·cases z
  ·rw[MV (NH O)]at g2;exact(r.step e).DF j d b xs z g2 g3
theorem RS.rewrite{i:Nat}{ds es:List D}{a:dy}{xs ys:List V}(r:RS K E0 E H0 H σ γ)(J:γ[i]? = da (.own ds))(hs:σ[i]? = da (da (.ref a)))(L:ec K H0 es ys):
 RS K E0 E H0 (upd H a<|.lst ys) σ (γ.set i<|.own es):=by
 obtain⟨F,G,g1,g2,g3,N⟩:=r.rc.own i ds J;rw[hs]at g1;cases g1;have as:i<γ.length:=(Np.mp J).1;refine⟨⟨λb o q=>?_,by simp[r.rc.len],λj x g=>?_,λj fs g=>?_,λj k b fs gs e I l y=>?_,⟨λj d g=>?_,λj k B C e I=>?_⟩⟩,⟨r.ext.s0,λb o q=>?_,λb o q=>?_,r.ext.new⟩,λj fs b e I=>?_,λj d b s e I l=>?_⟩
 ·rw[zK (λz=>by rw[z,g2]at q;cases q)];exact r.rc.sub b o q
 ·rcases jd g with⟨_,z,_⟩|⟨m,z⟩
  ·cases z
  ·exact r.rc.val j x z
 ·rcases jd g with⟨rfl,z,P⟩|⟨m,z⟩
  ·cases z;exact⟨a,ys,hs,g2,zM,L⟩
  ·obtain⟨b,s,O,U,Y,A⟩:=r.rc.own j fs z
   refine⟨b,s,O,U,?_,A⟩;rw[zK (λq=>m<|r.rc.ne j i a fs ds z J (by rw[O,q]) hs)];exact Y
 ·have u:∃f,γ[j]? = da (.own f):=by
   rcases jd e with⟨q,_,_⟩|⟨_,z⟩
   ·exact⟨ds,by rw[q];exact J⟩
   ·exact⟨fs,z⟩
  have w:∃f,γ[k]? = da (.own f):=by
   rcases jd I with⟨q,_,_⟩|⟨_,z⟩
   ·exact⟨ds,by rw[q];exact J⟩
   ·exact⟨gs,z⟩
  obtain⟨O,h⟩:=u;obtain⟨U,p⟩:=w;exact r.rc.ne j k b O U h p l y
 ·rcases jd g with⟨_,z,_⟩|⟨m,z⟩
  ·cases z
  ·obtain⟨b,bs,O,U,Y⟩:=r.rc.C1.1 j d z
   have t:=Y i ds a J hs;refine⟨b,bs,O,U.move (g5.refl _) (λc n=>(U.at n).1)<|λc n=>zK λq=>t<|q ▸ n,λk fs c e I=>?_⟩;rcases jd e with⟨q,_,_⟩|⟨_,h⟩
   ·rw[q,hs]at I;cases I;exact t
   ·exact Y k fs c h I
 ·rcases jd e with⟨_,z,_⟩|⟨_,h⟩
  ·cases z
  ·rcases jd I with⟨_,z,_⟩|⟨_,p⟩
   ·cases z
   ·exact r.rc.C1.2 j k B C h p
 ·rw[zK (λz=>by rw[z,r.fresh i ds a J hs]at q;cases q)];exact r.ext.s1 b o q
 ·rw[zK (λz=>by rw[z,g2]at q;cases q)];exact r.ext.sub b o q
 ·rcases jd e with⟨q,_,_⟩|⟨_,z⟩
  ·rw[q]at I;exact r.fresh i ds b J I
  ·exact r.fresh j fs b z I
 ·rcases jd e with⟨_,z,_⟩|⟨m,z⟩
  ·cases z
  ·obtain⟨M,bs,O,U,Y⟩:=r.rc.C1.1 j d z
   rw[I]at O;cases O;rw[zK (show b≠a from λq=>Y i ds a J hs<|by rw[q];exact Nc)]at l;exact r.DF j d b s z I l
end
section
variable{X:Cx}{e a b c:eK}{pos:gv}{st:i7}{yS:List i7}
theorem jh:du X [] qj:=pd sT λD b H I=>by obtain⟨E0,E,a,e,d,O,U,Y⟩:=I;cases U;exact Y b H a O
theorem zg{F G:CO Fl}(z:o8 X st F)(J:du X yS G):du X (st::yS) (zT F G):=pd (mi z J) λD l H Y=>by
 obtain⟨E0,E,d,i,g,h,I,O⟩:=Y;obtain⟨U,f,I⟩:=zh I;refine⟨E0,E,d,i,U,h,f,?_⟩;cases U with
 |next a=>exact λj k b e=>⟨E0,E,b,a,g,e,I,O⟩
 |brk a=>cases I;exact O
 |cont a=>cases I;exact O
 |ret r=>cases I;cases r<;>exact O
theorem zo(z:o8 X st F):du X [st] F:=fv z
theorem zI(h:o.map f=da y):∃x,o=da x/\f x=y:=by
 cases o with
 |none=>cases h
 |some x=>exact⟨x,rfl,by simpa using h⟩
theorem zL{f:CO D}(h:PV X e f):o8 X (.Return (da e) pos) (j9 f):=yV (fz h) λD l H U=>by obtain⟨E0,E,g,j,k,O,I,Y⟩:=U;obtain⟨d,i,I⟩:=zI I;subst I;exact⟨g,j,d,O.rc,i,λv b a x r=>Y v b a (O.ext.trans x) r⟩
theorem qr{f:CO (List D)}(h:PO X e f):o8 X (.Return (da e) pos) (yB f):=yV (fz h) λD t H U=>by
 obtain⟨E0,E,i,p,s,I,O,Y⟩:=U;obtain⟨j,k,O⟩:=zI O;subst O;refine⟨i,p,j,I.rc,k,λa n g b x d l m r=>Y a n g b (I.ext.trans x) ?_ l m r⟩;cases q:E a with
 |none=>rfl
 |some o=>rw[I.ext.s1 a o q]at d;cases d
theorem vz(i:Nat)(h:PE X e (oI i)):o8 X (.Return (da e) pos) (Kd i):=yV (fz h) λD s H Y=>by
 obtain⟨E0,E,j,p,r,O,I,U⟩:=Y;unfold Kd at I;cases b:p[i]? with
 |none=>rw[b]at I;cases I
 | some c=>
  rw[b]at I;cases c with
  |no=>cases I
  |val d=>
   cases I;obtain⟨v,f,g⟩:=O.rc.val i d b;exact⟨v,f,U v H j O.ext g⟩
  |nest l=>cases I
  |own k=>
   cases I;obtain⟨a,o,f,g,m,n⟩:=O.rc.own i k b;exact⟨_,f,U a o H j O.ext (O.fresh i k a b f) g m n⟩
theorem YJ:o8 X (.Continue pos) sE:=yV VS λD b H ⟨E0,E,a,d,Y,I,O,U⟩=>by cases O;exact U b H a I
theorem JL:o8 X st JH:=yV mq λD d H ⟨E0,E,a,b,O,U,I,Y⟩=>by cases I
theorem j6{k:CO Bool}{F G:CO Fl}{x y:List i7}(L:ow X c k)(z:du X x F)(J:du X y G):o8 X (.If c x y pos) (jn k F G):=yV (GH L z J) λD h H f=>by
 obtain⟨E0,E,d,b,U,O,I,Y⟩:=f;obtain⟨t,e,I⟩:=zh I;refine⟨d,b,t,O.rc,e,λg a x=>?_⟩;cases t with
 |true=>rw[UJ rfl]at I ⊢;exact⟨E0,E,a,b,U,O.step x,I,Y⟩
 |false=>rw[UY Nd]at I ⊢;exact⟨E0,E,a,b,U,O.step x,I,Y⟩
theorem sU(i:Nat){f:CO D}(h:PS X st (WS (tV X.K f)<|vh i)):o8 X st (jj i f):=yV h λD l H U=>by obtain⟨E0,E,b,g,k,O,I,Y⟩:=U;obtain⟨d,e,I⟩:=zI I;subst I;exact⟨b,g,d,O.rc,e,λv j a x r=>Y _ _ a<|(O.step x).A4 r⟩
theorem mm(i:Nat){f:CO (List D)}(h:PS X st (WS (tO X.K f)<|vh i)):o8 X st (kF i f):=yV h λD s H U=>by obtain⟨E0,E,d,m,o,O,I,Y⟩:=U;obtain⟨e,g,I⟩:=zI I;subst I;exact⟨d,m,e,O.rc,g,λa p n b x j k l r=>Y _ _ b<|O.L? x j k l r⟩
theorem k6(h:xA o=da ds):o=da (.own ds):=by
 cases o with
 |none=>cases h
 |some c=>cases c<;>simp[xA]at h;rw[h]
theorem bP(i:Nat){f:CO D}(h:PE X e (_g X.K "list" eW (oI i) (AI (tV X.K f) IA)))(hs:u7 e none pos.line X.env=pure dt:=by rfl):o8 X (.Expr e pos) (yD i f):=
 yV (Km h hs) λD A H t=>by
  obtain⟨E0,E,m,u,y,O,I,n⟩:=t;obtain⟨j,b,I⟩:=zh I;obtain⟨d,s,I⟩:=zh I;have b:=k6 b;by_cases U:j.length<lim
  ·rw[UJ U]at I;cases I
   obtain⟨a,xs,k,z,Y,l⟩:=O.rc.own i j b;refine⟨_,k,.inl ⟨rfl,_,hM.of Y⟩,m,u,d,O.rc,s,λv w g x r=>?_⟩;have o:=O.step x;have p:=x.s1 _ _ Y;refine⟨a,xs,v,rfl,rfl,p,?_,?_⟩
   ·exact MX (by rw[l.length];exact U)<|vg<|MM _
   ·exact n _ _ g<|o.rewrite (xs:=xs) b k<|(l.mono x.s0).append (ec.cons r ec.nil)
  ·rw[UY U]at I;cases I
end
noncomputable def Mo(K:MC)(H0 H:Hp)(Q:VK):Res->Prop
 |.val d=>∀v e b,Ext H0 H b e->Rep K b d v->Q v e
 |.own g=>∀a f e b,Ext H0 H b e->H a=none->b a=none->e a=da (.lst f)->ec K b g f->Q (.ref a) e
noncomputable def u6(K:MC)(n:Nat)(F:List D->Option Res):Sp:=λd H Q _=>∃a b r,g5 a H/\ec K a b d/\b.length=n/\F b=da r/\Mo K a H Q r
theorem u6.len{K:MC}{n:Nat}{F:List D->Option Res}{ps:List Str}(z:ps.length=n):∀vs H Q E,u6 K n F vs H Q E->vs.length=ps.length:=λvs H Q E h=>by obtain⟨d,e,r,_,a,b,_⟩:=h;rw[a.length,b,z]
section
variable{P:ir}{w:g8}{K:MC}{mg:UZ}{base:fh}
theorem W2(s:g5 H0 H)(h:ec K H0 ds vs)(z:ds.length<=N.length):RS K H0 H H0 H (QW N vs) (z9 N.length ds):=by
 have I:=h.length;refine⟨⟨s,by simp[L2.QW,z9,I],λi d e=>?_,λi g e=>?_,λi j a g fs e _ _ _=>?_,tv.UD λi f e=>?_⟩,Ext.refl s,λi g a e _=>?_,λi f a l e _ _=>?_⟩
 all_goals unfold z9 at e
 ·by_cases b:i<ds.length
  ·rw[OA (by simpa using b),NS]at e
   cases e1:ds[i]? with
   |none=>rw[e1]at e;cases e
   |some k=>
    rw[e1]at e;cases e;obtain⟨x,O,g2⟩:=h.get e1;refine⟨x,?_,g2⟩;unfold L2.QW;rw[OA (by simp;omega),NS,O];rfl
  ·rw[Ow (by simpa using b),Ro]at e
   split at e<;>cases e
 all_goals
  by_cases b:i<ds.length
  ·rw[OA (by simpa using b),NS]at e
   cases e1:ds[i]? with
   |none=>rw[e1]at e;cases e
   |some k=>rw[e1]at e;cases e
  ·rw[Ow (by simpa using b),Ro]at e
   split at e<;>cases e
theorem uD{x qual:Str}{st:i7}{f:dy}{J:sa}{N ps:List Str}{k:Nat}{F:CO Fl}(Y:L2.D9 K x qual st f J)(S:N3 N ps (jB st))
 (L:∀(z:d9) (A:lp) (outer:List ml) (s:ej) (H:Hp) (E:XK),pf k (A.deeper<|envOfC qual (jB st) s.heap.objs.size f z)->du (Vr uR P w K mg base N qual (jB st) f z A outer s H E).rh (kO st) F):
 r9 P w K mg base uR (k+1) f J ps (u6 K ps.length<|jk N.length F):=by
 refine Y.ok S (u6.len rfl)<|λz A outer s H B Q E m h=>⟨_,L z A outer s H E m,?_⟩;obtain⟨b,g,r,o,j,u,l,O⟩:=h;obtain⟨U,i,I⟩:=zh l;have t:ps.length<=N.length:=by have:=congrArg Ts S.pre;rw[Rc]at this;omega
 refine⟨b,H,b,z9 N.length g,U,W2 o j ⋯,i,?_⟩;cases U with
 |ret y=>cases I;cases r<;>exact O
 |next d=>cases I;exact λp e a n=>O .el e a n.ext (show V.el=.el from rfl)
 |brk d=>cases I
 |cont d=>cases I
end
section
variable{X:Cx}{es:List eK}{pos p:gv}{k:Nat}{f:dy}{fd:sa}{ps:List Str}{x:Str}{F:List D->Option Res}{g:CO (List D)}
theorem sP{A0:List eK}(G:r9 X.prog X.w X.K X.mg X.base uR k f fd ps (u6 X.K ps.length F))(z:Dw X es g)(L:∀γ ds,g γ=da ds->ds.length=ps.length)
 (J:∀{t:TA},PA X es t->PE X (.Call (.Name x p) es [] pos) (rW (u6 X.K ps.length F) [] E0 t)):PV X (.Call (.Name x p) es [] pos) (zD F g):=
 qc (J z) λE H Q u=>by
  obtain⟨l,γ,d,rc,I,q⟩:=u;obtain⟨ds,i,I⟩:=zh I;obtain⟨r,n,I⟩:=zI I;refine⟨l,γ,ds,rc,i,λC B m x1 y=>⟨m,ds,r,x1.sub,by simpa using y,L γ ds i,n,?_⟩⟩;subst I;cases r with
  |val d=>exact λv e b O h=>q v e b (x1.trans O) h
  |own fs=>
   refine λa A e b O o j s h=>q _ e _ (x1.trans<|O.show o j s x1.sub) ?_;exact(show ∃U Y,V.ref a=.ref U/\hM X.K _ U Y/\ec X.K _ fs Y from⟨a,A,rfl,hM.of zM,h.mono<|jF j _⟩)
theorem tm(G:r9 X.prog X.w X.K X.mg X.base uR k f fd ps (u6 X.K ps.length F))(J:Dw X es g)(O:∀γ ds,g γ=da ds->ds.length=ps.length)
 (U:∀{t:TA},PA X es t->PE X (.Call (.Name x p) es [] pos) (rW (u6 X.K ps.length F) [] E0 t)):PO X (.Call (.Name x p) es [] pos) (je F g):=
 qc (U J) λL H Q Y=>by
  obtain⟨j,γ,fs,rc,I,q⟩:=Y;obtain⟨ds,e,I⟩:=zh I;obtain⟨r,m,I⟩:=zh I;refine⟨j,γ,ds,rc,e,λE C l x1 u=>⟨l,ds,r,x1.sub,by simpa using u,O γ ds e,m,?_⟩⟩;cases r with
  |val d=>cases I
  | own gs=>
   cases I;exact λa B i b A h n s y=>q a B i b (x1.trans A) (by
    cases z:H a with
    |none=>rfl
    |some o=>rw[x1.s1 a o z]at h;cases h) n s y
end
structure Walk(K:MC)(H0 Hs:Hp)(J:It)(ds:List D):Prop where
 go:∀i H1,g5 Hs H1->i<ds.length->J.go i H1
 stop:∀H1,g5 Hs H1->J.stop ds.length H1
 DT:∀i H1 x L',g5 Hs H1->i<ds.length->J.DT i H1 x L'->∃d,ds[i]? = da d/\∀G0,g5 H0 G0->g5 G0 H1->∃J_,Ext G0 H1 J_ L'/\Rep K J_ d x
theorem Walk.weak{K:MC}{H0 z I:Hp}{J:It}{ds:List D}(w:Walk K H0 z J ds)(s:g5 z I):Walk K H0 I J ds:=
 ⟨λi a h=>w.go i a<|s.trans h,λa h=>w.stop a<|s.trans h,λi a x b h=>w.DT i a x b<|s.trans h⟩
theorem X4{k:Sk}{K:MC}{H0 z:Hp}{a:dy}{xs:List V}{ds:List D}(h:m5 k K z a xs)(r:ec K H0 ds xs):Walk K H0 z (L_ k K a) ds:=by
 have U:=r.length;refine⟨λi b s n=>?_,λb s=>?_,λi b x f s n y=>?_⟩
 ·have g:i<xs.length:=by omega
  cases k with
  |L=>exact⟨xs,xs[i],s.seq h,MH g⟩
  |T=>exact⟨xs,xs[i],p4 s h,MH g⟩
 ·cases k with
  |L=>exact⟨xs,s.seq h,by omega⟩
  |T=>exact⟨xs,p4 s h,by omega⟩
 ·have e:f=b/\xs[i]? = da x:=by
   cases k with
   |L=>exact⟨y.1,y.2 xs<|s.seq h⟩
   |T=>exact⟨y.1,y.2 xs<|p4 s h⟩
  obtain⟨l,I⟩:=e;subst l;obtain⟨d,m,O⟩:=r.L7 I;exact⟨d,m,λj o p=>⟨j,Ext.refl p,O.mono o⟩⟩
theorem Zp(lo:Int)(n:Nat):(wy lo n).length=n:=by simp[wy]
theorem Xl{K:MC}{H0 z:Hp}(lo:Int)(n:Nat):Walk K H0 z (DW lo n) (wy lo n):=by
 refine⟨λi b s a=>?_,λb s=>?_,λi b x e s a y=>?_⟩
 ·rw[Zp]at a;exact a
 ·rw[Zp];exact MM _
 ·rw[Zp]at a
  obtain⟨f,I⟩:=y;subst f I;exact⟨.int<|lo+i,by simp[wy,a],λd h g=>⟨d,Ext.refl g,(show V.int (lo+i)=.int (lo+i)from rfl)⟩⟩
theorem lB{k1 k2:Sk}{K:MC}{H0 z:Hp}{a b:dy}{xs ys:List V}{ds es:List D}(J:m5 k1 K z a xs)(O:ec K H0 ds xs)(L:m5 k2 K z b ys)(Z:ec K H0 es ys):
 Walk K H0 z (U9 k1 k2 K a b) (yY ds es):=by
 have B:=O.length;have C:=Z.length;have A:(yY ds es).length=min ds.length es.length:=by simp[yY]
 refine⟨λi f s t=>?_,λf s=>?_,λi f x j s t y=>?_⟩
 ·exact⟨xs,ys,vJ s J,vJ s L,by omega,by omega⟩
 ·refine⟨xs,ys,vJ s J,vJ s L,?_⟩
  rw[A];omega
 ·obtain⟨p,u,v,m,I,n,g1,g2⟩:=y
  obtain⟨d,r,w⟩:=O.L7<|g1 xs<|vJ s J;obtain⟨c,o,k⟩:=Z.L7<|g2 ys<|vJ s L;refine⟨.tup [d,c],?_,λh g e=>⟨upd h p<|.tup [u,v],?_,?_⟩⟩
  ·have l:(ds.zip es)[i]? = da (d,c):=List.getElem?_zip_eq_some.mpr ⟨r,o⟩
   simp[yY,l]
  ·rw[n];exact Ext.alloc e I _
  ·rw[m]
   exact(show ∃U Y,V.ref p=.ref U/\h8 K _ U Y/\ec K _ [d,c] Y from⟨p,[u,v],rfl,h8.of zM,ec.cons ((w.mono g).mono (jF (jA e I) _))<|ec.cons ((k.mono g).mono (jF (jA e I) _)) ec.nil⟩)
noncomputable def _i(K:MC)(z:CO (List D)):TI:=λg H R=>∃d f e,RC K d H g f/\z f=da e/\∀J b a,Ext d H a b->Walk K a b J e->R J b
noncomputable def F_(K:MC)(z:CO (List D)):TI:=λg H R=>∃d f e,RC K d H g f/\z f=da e/\∀J b a,Ext d H a b->Walk K a a J e->R J b
abbrev zi(X:Cx)(tg e:eK)(src:CO (List D)):Prop:=PI X tg e (_i X.K src)
abbrev kA(X:Cx)(tg e:eK)(src:CO (List D)):Prop:=PI X tg e (F_ X.K src)
section
variable{X:Cx}{tg e a b:eK}{pos p:gv}
theorem kA.c(h:kA X tg e src):zi X tg e src:=Ko h λi H R ⟨d,g,f,rc,I,q⟩=>⟨d,g,f,rc,I,λJ b a x w=>q J b a x<|w.weak x.sub⟩
theorem ji(h:PQ X e f):zi X tg e (zN f):=Ko (ph h) λp H R I=>by obtain⟨i,n,o,rc,O,q⟩:=I;obtain⟨⟨k,l⟩,j,U⟩:=zI O;subst U;exact⟨i,n,k,l,rc,j,λa m g b x d _ r=>⟨a,k,rfl,⟨m,d⟩,q _ g b x<|X4 d r⟩⟩
theorem vb(h:PV X e f):kA X tg e (zN<|zJ f):=Ko (ph h) λu H R U=>by
 obtain⟨o,s,t,rc,Y,q⟩:=U;obtain⟨⟨k,l⟩,g,I⟩:=zI Y;subst I;obtain⟨d,p,g⟩:=zh g;refine⟨o,s,d,rc,p,λv n b x r=>?_⟩;cases d with
 |tup fs=>
  obtain⟨I,O⟩:k=.T/\l=fs:=by simp[jx]at g;exact⟨g.1.symm,g.2.symm⟩
  subst I O;obtain⟨a,i,rfl,j,m⟩:=(show ∃a i,v=.ref a/\h8 X.K b a i/\ec X.K b l i from r);exact⟨a,.T,rfl,⟨i,p4 x.sub j⟩,q _ n b x<|X4 (k:=.T) j m⟩
 |lst fs=>
  obtain⟨I,O⟩:k=.L/\l=fs:=by simp[jx]at g;exact⟨g.1.symm,g.2.symm⟩
  subst I O;obtain⟨a,i,rfl,j,m⟩:=(show ∃a i,v=.ref a/\hM X.K b a i/\ec X.K b l i from r);exact⟨a,.L,rfl,⟨i,x.sub.seq j⟩,q _ n b x<|X4 (k:=.L) j m⟩
 |_=>simp[jx]at g
theorem jV(h:o6 d=da i):d=.int i:=by cases d<;>simp[o6]at h;rw[h]
theorem J7(h:inR i=dj): -(2^62)<=i/\i<2^62:=by unfold inR at h;have h:=of_decide_eq_true h;omega
theorem bV(O:Gl X "range")(J:X.mg "range" = none)(z:PV X a f)(hs:fA [a] X.env=[(dt,eA a X.env)]:=by rfl):kA X tg (.Call (.Name "range" p) [a] [] pos) (jE f):=
 Ko (fG O J (jr z qd hs) hs) λo H R U=>by
  obtain⟨i,l,m,rc,I,q⟩:=U;obtain⟨n,e,I⟩:=zh I;obtain⟨d,Y,e⟩:=zh e;by_cases g:inR n=dj
  ·rw[UJ g]at I;cases I
   refine⟨i,l,d,rc,Y,λv h b x r=>?_⟩;rw[jV e]at r;obtain⟨j,k⟩:=J7 g;exact⟨n,by rw[show v=.int n from r],j,k,q _ h b x<|Xl 0 n.toNat⟩
  ·rw[UY g]at I;cases I
theorem bU(Y:Gl X "range")(Z:X.mg "range" = none)(J:PV X a f)(L:PV X b g)(hs:fA [a,b] X.env=[(dt,eA a X.env),(dt,eA b X.env)]:=by rfl)(O:fA [b] X.env=[(dt,eA b X.env)]:=by rfl):
 kA X tg (.Call (.Name "range" p) [a,b] [] pos) (Ke f g):=
 Ko (fF Y Z (jr J (jr L qd O)<|by rw[hs,O]) hs O) λK H R B=>by
  obtain⟨l,k,G,rc,I,q⟩:=B;obtain⟨m,i,I⟩:=zh I;obtain⟨d,t,i⟩:=zh i;obtain⟨n,U,I⟩:=zh I;obtain⟨c,u,U⟩:=zh U;by_cases e:inR m=dj/\inR n=dj
  ·rw[UJ e]at I;cases I
   refine⟨l,k,d,rc,t,λv F h x r=>⟨h,k,c,rc.ext x,u,λC o s E j=>?_⟩⟩;rw[jV i]at r;rw[jV U]at j;obtain⟨w,y⟩:=J7 e.1;obtain⟨z,A⟩:=J7 e.2;exact⟨m,n,by rw[show v=.int m from r,show C=.int n from j],⟨w,y,z,A⟩,q _ o s (x.trans E)<|Xl m (n-m).toNat⟩
  ·rw[UY e]at I;cases I
theorem Kc{K:MC}{H:Hp}{d:D}{v:V}{k:Sk}{ds:List D}(r:Rep K H d v)(e:jx d=da (k,ds)):∃a xs,v=.ref a/\m5 k K H a xs/\ec K H ds xs:=by
 cases d with
 |tup fs=>simp[jx]at e;obtain⟨b,I⟩:=e;subst b I;exact r
 |lst fs=>simp[jx]at e;obtain⟨b,I⟩:=e;subst b I;exact r
 |_=>simp[jx]at e
theorem tE{f g:CO D}{z:List eK}{x1:Nat}{J:gv}(hg:Gl X "zip")(hm:X.mg "zip" = none)(L:PV X a f)(Z:PV X b g)(hs:fA [a,b] X.env=[(dt,eA a X.env),(dt,eA b X.env)]:=by rfl)(U:fA [b] X.env=[(dt,eA b X.env)]:=by rfl):
 kA X (.Tuple z x1 J) (.Call (.Name "zip" p) [a,b] [] pos) (QT f g):=
 Ko (BD hg hm (jr L (jr Z qd U)<|by rw[hs,U]) PyProof.Rows.boot_zip hs U) λN H R y=>by obtain⟨j,i,K,rc,I,q⟩:=y;obtain⟨⟨A,m⟩,h,I⟩:=zh I;obtain⟨d,t,h⟩:=zh h;obtain⟨⟨B,n⟩,Y,I⟩:=zI I;obtain⟨c,u,Y⟩:=zh Y;subst I;refine⟨j,i,d,rc,t,λv G e x r=>⟨e,i,c,rc.ext x,u,λM k s O C=>?_⟩⟩;obtain⟨l,E,rfl,g1,g2⟩:=Kc (r.mono O.s0) h;obtain⟨o,F,rfl,g3,w⟩:=Kc C Y;exact⟨A,B,l,o,rfl,⟨E,vJ O.sub g1⟩,⟨F,vJ O.sub g3⟩,q _ k s (x.trans O)<|lB g1 g2 g3 w⟩
end
def WX:List Nat->List V->St->St
 |i::is,v::vs,σ=>WX is vs<|σ.set i<|some v
 |_,_,σ=>σ
def gs:List Nat->Ht
 |[]=>IS
 |i::is=>CY (vh i)<|gs is
def wb(K:MC):Tg->TG
 |.nm i=>vh i
 |.tp is=>IR K is.length<|gs is
theorem gN:∀{is:List Nat} {vs:List V} {z:St} {H:Hp} {Q:St->Hp->Prop},vs.length=is.length->Q (WX is vs z) H->gs is vs z H Q
 |[],[],_,_,_,_,q=>⟨rfl,q⟩
 |i::is,v::vs,z,H,Q,hl,q=>⟨v,vs,rfl,gN (by simpa using hl) q⟩
 |[],_::_,_,_,_,hl,_=>by simp at hl
 |_::_,[],_,_,_,hl,_=>by simp at hl
theorem RS.P5{K:MC}{E0 E H0 H:Hp}:∀{is:List Nat} {ds:List D} {vs:List V} {z:St} {γ:Ctx},RS K E0 E H0 H z γ->ec K H0 ds vs->RS K E0 E H0 H (WX is vs z) (xk is ds γ)
 |[],ds,vs,z,γ,r,h=>by cases ds<;>cases vs<;>exact r
 |i::is,[],vs,z,γ,r,h=>by rw[h.t7];exact r
 |i::is,d::ds,vs,z,γ,r,h=>by obtain⟨x,t,e,a,b⟩:=h.p6;subst e;show RS K E0 E H0 H (DL.WX is t<|z.set i<|some x) (xk is ds<|γ.set i<|.val d);exact RS.P5 (r.A4 a) b
theorem RC.P5{K:MC}{H0 H:Hp}:∀{is:List Nat} {ds:List D} {vs:List V} {z:St} {γ:Ctx},RC K H0 H z γ->ec K H0 ds vs->RC K H0 H (WX is vs z) (xk is ds γ)
 |[],ds,vs,z,γ,r,h=>by cases ds<;>cases vs<;>exact r
 |i::is,[],vs,z,γ,r,h=>by rw[h.t7];exact r
 |i::is,d::ds,vs,z,γ,r,h=>by obtain⟨x,t,e,a,b⟩:=h.p6;subst e;show RC K H0 H (DL.WX is t<|z.set i<|some x) (xk is ds<|γ.set i<|.val d);exact RC.P5 (r.A4 a) b
theorem QF{K:MC}{H0 H:Hp}{T:Tg}{d:D}{v:V}{z:St}{γ γ1:Ctx}{Q:St->Hp->Prop}(s:g5 H0 H)(h:Rep K H0 d v)(e:km T d γ=da γ1)
 (q:∀I,(RC K H0 H z γ->RC K H0 H I γ1)->(∀E0 E,RS K E0 E H0 H z γ->RS K E0 E H0 H I γ1)->Q I H):wb K T v z H Q:=by
 cases T with
 |nm i=>cases e;exact q _ (λr=>r.A4 h) λE0 E r=>r.A4 h
 | tp is=>
  cases d with
  | tup g=>
   simp only[km]at e;by_cases O:g.length=is.length
   ·rw[UJ O]at e;cases e
    obtain⟨a,b,rfl,k,f⟩:=(show ∃a b,v=.ref a/\h8 K H0 a b/\ec K H0 g b from h);have j:b.length=is.length:=by rw[f.length,O]
    exact⟨a,b,rfl,p4 s k,j,gN j<|q _ (λr=>r.P5 f) λE0 E r=>r.P5 f⟩
   ·rw[UY O]at e;cases e
  |_=>simp[km]at e
theorem Ext.rebase{E0 E I H0 H B:Hp}(e:Ext E0 E I B)(x:Ext I E H0 H):Ext E0 E H0 H:=
 ⟨e.s0.trans x.s0,x.s1,x.sub,λa d b=>x.new a (e.new a d b) b⟩
theorem Ext.base{E0 E I B:Hp}(e:Ext E0 E I B):Ext I E I B:=⟨g5.refl _,e.s1,e.sub,λa h _=>h⟩
theorem Sat.rebase{K:MC}{E0 E O B:Hp}{D:Ends}{I:Fl}(e:Ext E0 E O B)(h:Sat K E0 E D I):Sat K O E D I:=by
 cases I with
 |next g=>exact λf H b r=>h f H b ⟨r.rc,e.rebase r.ext,r.fresh,r.DF⟩
 |brk g=>exact λf H b r=>h f H b ⟨r.rc,e.rebase r.ext,r.fresh,r.DF⟩
 |cont g=>exact λf H b r=>h f H b ⟨r.rc,e.rebase r.ext,r.fresh,r.DF⟩
 |ret r=>
  cases r with
  |val d=>exact λv H b x q=>h v H b (e.rebase x) q
  |own l=>exact λa k H b x i j U q=>h a k H b (e.rebase x) i j U q
section
variable{X:Cx}{tg iter:eK}{body:List i7}{pos:gv}
theorem sV{z:CO (List D)}{T:Tg}{F:CO Fl}(hp:N_ (eF X.prog X.w) X.A X.env X.xe)(hc:X.calm=dj)(Z:kA X tg iter z)(hg:PG X tg (wb X.K T))(hb:du X body F)
 (hs:∀x,u5 iter X.env x=pure x:=by intro _;rfl):o8 X (.For tg iter body [] pos) (ZY z T F):=
 yV (Bz hp hc Z hg hb hs) λD k H hZ=>by
  obtain⟨E0,E,g,b,O,U,I,h⟩:=hZ;obtain⟨a,S,I⟩:=zh I;refine⟨g,b,a,U.rc,S,λJ H1 Y x1 t=>?_⟩;have l:=U.step x1;have G:=l.ext;refine⟨λi m k H=>m=a.length-i/\i<=a.length/\∃g b O,RS X.K Y E g H k b/\kX T F (a.drop i) b=da O/\Sat X.K Y E D O,⟨_,rfl,rn _,Y,b,O,⟨l.rc,G.base,l.fresh,l.DF⟩,I,h.rebase G⟩,?_⟩;rintro i m k H ⟨rfl,Z,g,b,O,U,I,h⟩;have o:g5 Y H:=U.ext.s0.trans U.ext.sub;by_cases j:i<a.length
  ·refine .inr ⟨t.go i H o j,λk H=>i+1<=a.length/\∃g b O,RS X.K Y E g H k b/\kX T F (a.drop<|i+1) b=da O/\Sat X.K Y E D O,λJ' C n=>⟨a.length-(i+1),by omega,rfl,n.1,n.2⟩,λx C y=>?_⟩
   obtain⟨d,L,hx⟩:=t.DT i H x C o j y;obtain⟨N,M,rg⟩:=hx g U.ext.s0 U.rc.sub;have Q:a.drop i=d::a.drop (i+1):=by
    have R:d=a[i]:=by rw[MH j]at L;exact(NR L).symm
    rw[R];exact Ra j
   rw[Q]at I;simp only[kX]at I;obtain⟨u,eb,I⟩:=zh I;obtain⟨f1,W,I⟩:=zh I;refine QF M.sub rg eb λ_w _ as=>⟨Y,E,N,u,f1,as Y E<|U.step M,W,?_⟩;cases f1 with
   |next f=>exact λB P p s=>⟨j,p,f,O,s,I,h⟩
   |cont f=>exact λB P p s=>⟨j,p,f,O,s,I,h⟩
   |brk f=>cases I;exact h
   |ret r=>cases I;cases r<;>exact h
  ·have e:i=a.length:=by omega
   subst e;rw[List.drop_length]at I;cases I;exact .inl ⟨t.stop H o,h k H g U⟩
end
theorem kH(h:(jo n fr γ)[i]? = da c):c=.no\/(∃d j,c=.val d/\n<=i/\fr[i-n]? = da j/\γ[j]? = da (.val d)):=by
 unfold jo at h;by_cases b:i<n
 ·rw[OA (by simpa using b),Ro,UJ b]at h
  exact .inl (NR h).symm
 ·rw[Ow (by simpa using b),NS,List.length_replicate]at h
  cases e:fr[i-n]? with
  |none=>rw[e]at h;cases h
  | some j=>
   rw[e]at h;have a:ke (γ[j]?.getD .no)=c:=by simpa using h
   cases e2:γ[j]? with
   |none=>rw[e2]at a;exact .inl a.symm
   |some I=>
    rw[e2]at a;cases I with
    |no=>exact .inl a.symm
    |own g=>exact .inl a.symm
    |nest f=>exact .inl a.symm
    |val d=>exact .inr ⟨d,j,a.symm,by omega,rfl,e2⟩
theorem RC.pull{K:MC}{H0 H:Hp}{J:St}{γ:Ctx}{own:List Str}{fr:List (Str×Nat)}(r:RC K H0 H J γ):RC K H0 H (L2.oZ own fr J) (jo own.length (fr.map (·.2)) γ):=by
 refine⟨r.sub,by simp[L2.oZ,jo],λi d h=>?_,λi e h=>?_,λi j a e k h _ _ _=>?_,tv.UD λi b h=>?_⟩
 ·rcases kH h with z|⟨d',j,z,hi,I,O⟩
  ·cases z
  ·cases z
   obtain⟨v,f,g⟩:=r.val j d O;refine⟨v,?_,g⟩;rw[NS]at I;cases q:fr[i-own.length]? with
   |none=>rw[q]at I;cases I
   |some p=>
    rw[q]at I;have U:p.2=j:=by simpa using I
    unfold L2.oZ;rw[Ow (by simpa using hi),NS,Nf,q];simp[U,f]
 ·rcases kH h with z|⟨d',j,z,_⟩<;>cases z
 ·rcases kH h with z|⟨d',j,z,_⟩<;>cases z
 ·rcases kH h with z|⟨d',j,z,_⟩<;>cases z
theorem RC.weak{K:MC}{H0 H:Hp}{J:St}{γ γ':Ctx}(r:RC K H0 H J γ)(O:γ'.length=γ.length)(U:∀(i:Nat) d,γ'[i]? = da (.val d)->γ[i]? = da (.val d))(I:∀(i:Nat) ds,γ'[i]? ≠ da (.own ds))(Y:∀(i:Nat) z,γ'[i]? ≠ da (.nest z)):RC K H0 H J γ':=
 ⟨r.sub,by rw[O];exact r.len,λi d h=>r.val i d<|U i d h,λi ds h=>absurd h<|I i ds,λi j a ds b h _ _ _=>absurd h<|I i ds,tv.UD Y⟩
theorem RC.upd{K:MC}{H0 H:Hp}{L:St}{γ:Ctx}{D:dy}{o:HO}(r:RC K H0 H L γ)(Y:H0 D=none)(I:∀(i:Nat) ds,γ[i]? ≠ da (.own ds))(O:∀(i:Nat) J,γ[i]? ≠ da (.nest J)):RC K H0 (upd H D o) L γ:=
 ⟨λb u q=>by rw[zK (λz=>by rw[z,Y]at q;cases q)];exact r.sub b u q,r.len,r.val,λi ds h=>absurd h<|I i ds,λi j a ds d h _ _ _=>absurd h<|I i ds,tv.UD O⟩
theorem JE:∀{is:List Nat} {ds:List D} {γ:Ctx},(xk is ds γ).length=γ.length
 |[],ds,γ=>by cases ds<;>rfl
 |i::is,[],γ=>rfl
 |i::is,d::ds,γ=>by show(xk is ds<|γ.set i<|.val d).length=_;rw[JE];simp
theorem JF:∀{is:List Nat} {ds:List D} {γ:Ctx} {i:Nat},i∉is->(xk is ds γ)[i]? = γ[i]?
 |[],ds,γ,i,_=>by cases ds<;>rfl
 |j::is,[],γ,i,_=>rfl
 |j::is,d::ds,γ,i,h=>by show(xk is ds<|γ.set j<|.val d)[i]? = _;rw[JF (λz=>h<|Ng _ z),MV (λz=>h<|by rw[<-z];exact Nc)]
theorem iF(h:km T d γ=da γ1):γ1.length=γ.length/\∀i,i∉T.idx->γ1[i]? = γ[i]? :=by
 cases T with
 |nm j=>cases h;exact⟨by simp,λi a=>MV<|λz=>a<|by simp[Tg.idx,z]⟩
 | tp is=>
  cases d with
  |tup b=>
   simp only[km]at h;by_cases I:b.length=is.length
   ·rw[UJ I]at h;cases h;exact⟨JE,λi a=>JF a⟩
   ·rw[UY I]at h;cases h
  |_=>simp[km]at h
section
variable{K:MC}{own:List Str}{fr:List (Str×Nat)}{src:CO (List D)}{T:Tg}{k:CO Bool}{f:CO D}
theorem wX(hT:∀i∈T.idx,i<own.length)(bu:∀L H Q,tT K k L H Q->tt L H Q):∀L H Q,tO K (zO src T own.length (fr.map (·.2)) k f) L H Q->lM (_i K src) own fr (wb K T) tt (tV K f) L H Q:=λL H Q hZ=>by
 obtain⟨H0,s,ds,rc,U,q⟩:=hZ;obtain⟨items,e1,U⟩:=zh U;by_cases hl:items.length<=lim
 ·rw[UJ hl]at U
  refine⟨H0,s,items,rc,e1,λJ H1 N x1 wk D u=>?_⟩;have P:∀(i:Nat) es,(jo own.length (fr.map (·.2)) s)[i]? ≠ da (.own es):=λi es h=>by rcases kH h with z|⟨d',j,z,_⟩<;>cases z
  have R:∀(i:Nat) A,(jo own.length (fr.map (·.2)) s)[i]? ≠ da (.nest A):=λi es h=>by rcases kH h with z|⟨d',j,z,_⟩<;>cases z
  have ax:N D=none:=jA x1.sub u;have c0:H D=none:=by
   cases z:H D with
   |none=>rfl
   |some o=>rw[x1.s1 D o z]at u;cases u
  refine⟨λi m l C g=>m=items.length-i/\i<=items.length/\l.length<=i/\g D=da (.lst l)/\∃a t F,RC K a g C (jo own.length (fr.map (·.2)) s)/\a D=none/\Ext N H1 a g/\ec K a t l/\zY T k f (jo own.length (fr.map (·.2)) s) (items.drop i)=da F/\ds=t++F,
   ⟨_,rfl,rn _,MM _,zM,N,[],ds,((rc.ext x1).pull).upd ax P R,ax,Ext.hide x1.sub u _,ec.nil,U,rfl⟩,?_⟩
  rintro i m l C g ⟨rfl,hi,hy,G,a,t,F,S,b0,Y,r',I,rfl⟩;refine⟨G,?_⟩;by_cases p:i<items.length
  ·refine .inr ⟨wk.go i g Y.s1 p,?_,λx W y=>?_⟩
   ·have:=vg<|MM lim;omega
   obtain⟨d,hd,hx⟩:=wk.DT i g x W Y.s1 p y;obtain⟨G0,O,rg⟩:=hx a Y.s0 S.sub;have c1:items.drop i=d::items.drop (i+1):=by
    have c2:d=items[i]:=by rw[MH p]at hd;exact(NR hd).symm
    rw[c2];exact Ra p
   rw[c1]at I;simp only[zY]at I;obtain⟨n,eb,I⟩:=zh I;obtain⟨b,ek,I⟩:=zh I;have c4:G0 D=none:=O.new D b0 (by rw[G];simp);have b9:W D=da (.lst l):=O.s1 _ _ G;obtain⟨bl,bg⟩:=iF eb;have bb:∀{E:St} {G2 H2:Hp},RC K G2 H2 E n->RC K G2 H2 E (jo own.length (fr.map (·.2)) s):=λr=>r.weak bl.symm (λj d' hj=>by
    by_cases hm:j∈T.idx
    ·rcases kH hj with z|⟨d2,j2,_,hn,_⟩
     ·cases z
     ·exact absurd (hT j hm) ⋯
    ·rw[bg j hm];exact hj) P R
   refine QF O.sub rg eb λ_w bf _=>bu _w W _ ⟨G0,n,b,bf<|S.ext O,ek,λH3 X x3=>?_⟩;have Z:=(bf<|S.ext O).ext x3;have xa:=Y.trans<|O.trans x3;have bm:X D=none:=x3.new D c4 (by rw[b9];simp);have an:H3 D=da (.lst l):=x3.s1 _ _ b9;cases b with
   |true=>
    dsimp only;rw[UJ rfl]at I ⊢;obtain⟨e,ee,I⟩:=zh I;obtain⟨yS,er,I⟩:=zI I;refine⟨X,n,e,Z,ee,λv H4 bn B r4=>?_⟩;have ap:bn D=none:=B.new D bm (by rw[an];simp);have cb:H4 D=da (.lst l):=B.s1 _ _ an;have M:=xa.trans B;refine⟨cb,items.length-(i+1),by omega,rfl,p,by rw[NC,Pf];omega,zM,bn,t++[e],yS,(bb<|Z.ext B).upd ap P R,ap,?_,(r'.mono<|(O.trans<|x3.trans B).s0).append (ec.cons r4 ec.nil),er,?_⟩
    ·exact⟨M.s0,λc o z=>by rw[zK (λw=>by rw[w,u]at z;cases z)];exact M.s1 c o z,λc o z=>by rw[zK (λw=>by rw[w,ap]at z;cases z)];exact M.sub c o z,M.new⟩
    ·rw[<-I];simp
   |false=>
    dsimp only;rw[UY Nd]at I ⊢;exact⟨items.length-(i+1),by omega,rfl,p,by omega,an,X,t,F,bb Z,bm,xa,r'.mono<|(O.trans x3).s0,I,rfl⟩
  ·have e:i=items.length:=by omega
   subst e;rw[List.drop_length]at I;cases I;rw[Rq]at q;exact .inl ⟨wk.stop g Y.s1,q D l g a (x1.trans Y) c0 b0 G r'⟩
 ·rw[UY hl]at U;cases U
end
section
variable{X:Cx}{scope:h7}{own:List Str}{fr:List (Str×Nat)}{elt tg iter c:eK}{pos:gv}{src:CO (List D)}{T:Tg}{k:CO Bool}{f:CO D}
theorem tj(I:X.calm=dj)(ok:xb X scope fr)(O:∀i∈T.idx,i<own.length)(L:zi X tg iter src)(U:∀fp J z,PG (jJ X scope (own++fr.map (·.1)) fp J z) tg<|wb X.K T)
 (Y:∀fp J z,PV (jJ X scope (own++fr.map (·.1)) fp J z) elt f) (hs:∀x,u5 iter X.env x=pure x:=by intro _;rfl):
 PO X (.ListComp elt [⟨tg,iter,[],0⟩] scope pos) (zO src T own.length (fr.map (·.2)) jt f):=
 qc (VV I ok L U (λ_ _ _=>ag) Y hs) (wX O λg H Q ⟨a,e,b,rc,d,q⟩=>by cases d;exact q H a<|Ext.refl rc.sub)
theorem fD(I:X.calm=dj)(ok:xb X scope fr)(O:∀i∈T.idx,i<own.length)(Z:zi X tg iter src)(U:∀fp J z,PG (jJ X scope (own++fr.map (·.1)) fp J z) tg<|wb X.K T)
 (Y:∀fp J z,ow (jJ X scope (own++fr.map (·.1)) fp J z) c k) (L:∀fp J z,PV (jJ X scope (own++fr.map (·.1)) fp J z) elt f) (hs:∀x,u5 iter X.env x=pure x:=by intro _;rfl):
 PO X (.ListComp elt [⟨tg,iter,[c],0⟩] scope pos) (zO src T own.length (fr.map (·.2)) k f):=
 qc (VV I ok Z U (λfp J z=>af<|Y fp J z) L hs) (wX O λa H Q h=>h)
theorem mr(I:X.N.Nodup)(O:X.N[i]? = da y)(U:Loc X.env.scope y)(hf:X.fn y=dj\/X.env.scope.names.lookup y=da .local)
 (Y:X.calm=dj) (ok:xb X scope fr) (L:∀i∈T.idx,i<own.length) (hi:zi X tg iter src) (hg:∀fp J z,PG (jJ X scope (own++fr.map (·.1)) fp J z) tg<|wb X.K T)
 (Z:∀fp J z,PV (jJ X scope (own++fr.map (·.1)) fp J z) elt f) (hs:∀x,u5 iter X.env x=pure x:=by intro _;rfl):
 PS X (.Assign [.Name y py] (.ListComp elt [⟨tg,iter,[],0⟩] scope pos) spos) (WS (tO X.K<|zO src T own.length (fr.map (·.2)) jt f)<|vh i):=
 yV (Xx I O U hf Y ok hi hg (λ_ _ _=>ag) Z hs) λD a H h=>wX L (λa H Q g=>by obtain⟨d,j,b,rc,e,q⟩:=g;cases e;exact q H d<|Ext.refl rc.sub) a H _ h
theorem bR(I:X.N.Nodup)(O:X.N[i]? = da y)(U:Loc X.env.scope y)(hf:X.fn y=dj\/X.env.scope.names.lookup y=da .local)
 (Y:X.calm=dj) (ok:xb X scope fr) (L:∀i∈T.idx,i<own.length) (hi:zi X tg iter src) (hg:∀fp J z,PG (jJ X scope (own++fr.map (·.1)) fp J z) tg<|wb X.K T)
 (hk:∀fp J z,ow (jJ X scope (own++fr.map (·.1)) fp J z) c k) (Z:∀fp J z,PV (jJ X scope (own++fr.map (·.1)) fp J z) elt f) (hs:∀x,u5 iter X.env x=pure x:=by intro _;rfl):
 PS X (.Assign [.Name y py] (.ListComp elt [⟨tg,iter,[c],0⟩] scope pos) spos) (WS (tO X.K<|zO src T own.length (fr.map (·.2)) k f)<|vh i):=
 yV (Xx I O U hf Y ok hi hg (λfp J z=>af<|hk fp J z) Z hs) λD a H h=>wX L (λa H Q h=>h) a H _ h
end
theorem jN{K:MC}{H:Hp}{i:Int}{v:V}(h:Rep K H (.int i) v):v=.int i:=h
theorem lR{K:MC}{g:Int->Int->D}{I:Int->Int->V}(U:∀H i j,Rep K H (g i j)<|I i j):p9 K (yr I) (dI g):=λa H x y b Y d Q s e f O q=>by cases b<;>cases Y<;>simp[dI]at O;subst O;exact⟨_,_,jN e,jN f,q _ H a (Ext.refl s)<|U a _ _⟩
theorem dU{K:MC}{C:Int->Int->Prop}{c:Int->Int->Bool}{g:Int->Int->D}{I:Int->Int->V}(U:∀i j,c i j=dj->C i j)(Y:∀H i j,Rep K H (g i j)<|I i j):p9 K (rI C I) (O3 c g):=λa H x y b e d Q s k l O q=>by cases b<;>cases e<;>simp[O3]at O;obtain⟨f,h⟩:=O;subst h;exact⟨_,_,jN k,jN l,U _ _ f,q _ H a (Ext.refl s)<|Y a _ _⟩
theorem se{K:MC}:p9 K (yr λi j=>.int (i-j)) dq:=lR λ_ _ _=>rfl
theorem om(h:XU i j=dj):F9 i j:=by unfold XU at h;rw[Oq,decide_eq_true_eq,decide_eq_true_eq]at h;unfold F9;omega
theorem sr{K:MC}:p9 K (rI Lw λi j=>.int (i/j)) Xj:=dU (λi j h=>by unfold Eo at h;rw[MO,decide_eq_true_eq,decide_eq_true_eq]at h;exact⟨h.1,by omega⟩) λ_ _ _=>rfl
theorem si{K:MC}:p9 K (rI (λ_ j=>0<j) λi j=>.int (i%j)) yN:=dU (λi j h=>by unfold Fw at h;exact of_decide_eq_true h) λ_ _ _=>rfl
theorem sf{K:MC}:p9 K (rI Lv λi j=>.int (i^j.toNat)) uK:=dU (λi j h=>by unfold Em at h;rw[MO,MO,decide_eq_true_eq,decide_eq_true_eq,decide_eq_true_eq]at h;exact⟨h.1.1,by omega,h.2⟩) λ_ _ _=>rfl
theorem oM{K:MC}:p9 K (yr λi j=>.bl (decide<|i<j)) DC:=lR λ_ _ _=>rfl
theorem AO{K:MC}:p9 K (yr λi j=>.bl (decide<|i<=j)) B8:=lR λ_ _ _=>rfl
theorem AQ{K:MC}:p9 K (yr λi j=>.bl (decide<|j<i)) qs:=lR λ_ _ _=>rfl
section
variable{X:Cx}
noncomputable def oR(K:MC):R2:=λx y H Q=>∃a b d e,x=.ref a/\y=.ref b/\h8 K H a d/\h8 K H b e/\d.length+e.length<=fy/\
 (d=[]->Q (.ref b) H)/\(e=[]->Q (.ref a) H)/\∀p,H p=none->Q (.ref p) (upd H p<|.tup<|d++e)
theorem mO:l9 X (xr .Add) (oR X.K):=by
 intro w s σ H x y v u Q I S T h;obtain⟨a,b,A,Z,rfl,rfl,J,L,t,N,P,R⟩:=h;cases S;cases T;obtain⟨d,r,U,z1⟩:=I.tuple J;obtain⟨B,f,Y,z2⟩:=I.tuple L;by_cases O:A=[]
 ·have e:d=[]:=(r.UE).mpr O
  obtain⟨⟨F,G,k,W⟩,p,l,n,m⟩:=id U;obtain⟨⟨ap,C,data2,E⟩,g,i,M,j⟩:=id Y;simp only at l m i j;subst l m i j;exact UA ⟨_,p,rfl⟩ ⟨_,g,rfl⟩ UC _d SF SD (Sl _ _)
   (tuple_addW0 a b d.toArray B.toArray n M G C W E<|by simp[e]) ⟨p,g,⟨.ref b,H,I,rfl,N O⟩⟩
 ·have e:d ≠ []:=λz=>O ((r.UE).mp z)
  refine HT.HB U Y e (λz=>⟨.ref a,H,I,rfl,P<|(f.UE).mp z⟩) (λ_=>?_) (by rw[<-r.length,<-f.length];exact t);refine⟨.ref s.heap.objs.size,_,I.laid (t':=s.toks) (o:=.tup (A++Z)) (λc ob q=>MF _ q) (MM _) ?_,rfl,R _<|I.ft.fresh<|MM _⟩;exact⟨by rw[NC];exact t,_,r.append f,A7.new _ _⟩
noncomputable def Bn(K:MC):R2:=λx y H Q=>∃l b a d,x=.ref l/\y=.ref b/\hM K H l a/\hM K H b d/\a.length+d.length<=fy/\∀p,H p=none->Q (.ref p) (upd H p<|.lst<|a++d)
theorem mP:l9 X (xr .Add) (Bn X.K):=by
 intro d s L H x y v u Q I E G h;obtain⟨l,b,W,zs,rfl,rfl,A,z,R,q⟩:=h;cases E;cases G;obtain⟨a,r,⟨o,n,e,U,Y,f⟩,Z⟩:=I.list A;obtain⟨O,m,⟨C,B,k,g,i,j⟩,z2⟩:=I.list z;have S:=r.length;have T:=m.length;obtain⟨cls,ng,P,J⟩:=o;obtain⟨as,M,N,p⟩:=C;simp only at U Y f g i j;subst U Y f g i j;have t:EP X d L Q (.ref s.heap.objs.size) {s with heap:=s.heap.push {cls:=.type "list",data:=.seq (a++O).toArray}}:=
  ⟨.ref _,_,I.x_ (t':=s.toks) (r.append m) (by rw[NC];omega),rfl,q _ I.fresh⟩
 have w:a.toArray++O.toArray=(a++O).toArray:=by simp
 refine UA ⟨_,e,rfl⟩ ⟨_,k,rfl⟩ noFill_list_add seq_list_add PySem.F.slot_list_add PySem.F.entry_list_add (PySem.F.args_list_add_2 _ _)
  (list_addW l b a.toArray O.toArray n B none none J p<|by rw[MP,MP];omega) ⟨e,k,?_⟩
 rw[w];exact t
end
noncomputable def yG(scope z:h7):h7:={scope with names:=scope.names.map λp=>if p.2==Nu&&z.kind ==.function&&z.names.lookup p.1==da .cell then (p.1,Po)else (p.1,p.2)}
theorem bJ(scope:h7)(env:ml):C3 scope env=yG scope env.scope:=by unfold C3 yG;rfl
structure SX(X:Cx)(sc:h7)(N T:List Str)(k:Nat):Prop where
 Di:X.env.scope=sc
 eN:X.N=N
 nd:N.Nodup
 calm:X.calm=dj
 room:pf k X.A
 fn:∀x∈T,X.fn x=dj\/sc.names.lookup x=da .local
noncomputable def Jw(z:h7)(N:List Str)(i:Nat)(x:Str):Bool:=
 decide (N[i]? = da x)&&(decide (z.names.lookup x=da .local) || decide (z.names.lookup x=da .cell) || decide (z.names.lookup x=da .free))&&!(x==("__debug__" : Str))&&!(x==("__classdict__" : Str))
noncomputable def ye(z:h7)(N T:List Str)(i:Nat)(x:Str):Bool:=decide (x∈T)&&decide (N[i]? = da x)&&(decide (z.names.lookup x=da .local) || decide (z.names.lookup x=da .cell))
noncomputable def kW(z:h7)(x:Str):Bool:=decide (z.names.lookup x=da .globalImplicit)&&!(x==("__name__" : Str))&&!(x==("__debug__" : Str))
section
variable{X:Cx}{sc:h7}{N T:List Str}{k:Nat}{i:Nat}{x:Str}{pos:gv}
theorem SX.var(h:SX X sc N T k)(c:Jw sc N i x=dj):PE X (.Name x pos) (oI i):=by
 unfold Jw at c;simp only[MO,Oq,decide_eq_true_eq,OO]at c;obtain⟨⟨⟨a,h2⟩,I⟩,O⟩:=c;refine pj (by rw[h.eN];exact a) ?_ I O;unfold Ol;rw[h.Di];rcases h2 with(h2|h2)|h2
 ·exact .inl h2
 ·exact .inr<|.inl h2
 ·exact .inr<|.inr h2
theorem SX.loc(h:SX X sc N T k)(c:ye sc N T i x=dj):X.N[i]? = da x/\L2.Loc X.env.scope x/\(X.fn x=dj\/X.env.scope.names.lookup x=da .local):=by
 unfold ye at c;simp only[MO,Oq,decide_eq_true_eq]at c;refine⟨by rw[h.eN];exact c.1.2,?_,?_⟩
 ·unfold L2.Loc;rw[h.Di];exact c.2
 ·rw[h.Di];exact h.fn x c.1.1
theorem SX.F7(h:SX X sc N T k):X.N.Nodup:=by rw[h.eN];exact h.nd
theorem SX.M9(h:SX X sc N T k)(i:Nat)(c:ye sc N T i x=dj):PG X (.Name x pos) (vh i):=by obtain⟨a,b,I⟩:=h.loc c;exact fI h.F7 a b I
theorem SX._j(h:SX X sc N T k)(g:N7 X es (gs is))(z:(Dy es X.env).length=is.length:=by rfl)(I:(Dy es X.env).findIdx? (·.1)=none:=by rfl):PG X (.Tuple es j pos) (wb X.K<|.tp is):=
 BE h.calm g z I
theorem SX.set(h:SX X sc N T k)(i:Nat)(c:ye sc N T i x=dj)(I:PE X e te)(hs:u7 e (da (.Name x pos')) pos.line X.env=pure dt:=by rfl):PS X (.Assign [.Name x pos'] e pos) (WS te<|vh i):=by obtain⟨a,b,O⟩:=h.loc c;exact pe h.F7 a b I hs O
theorem SX.gl(h:SX X sc N T k)(c:kW sc x=dj):Gl X x/\x ≠ "__name__"/\(x==("__debug__" : Str))=dt:=by
 unfold kW at c;simp only[MO,decide_eq_true_eq,OO]at c;refine⟨?_,?_,c.2⟩
 ·show X.env.scope.names.lookup x=_
  rw[h.Di];exact c.1.1
 ·intro e;rw[e]at c;simp at c
noncomputable def Wn(sc scope:h7)(N:List Str)(fr:List (Str×Nat)):Bool:=
 decide (scope.kind=.function)&&decide ((scope.names.map (·.1)).Nodup)&&scope.names.all (λp=> !(p.2==Nu) || decide (sc.names.lookup p.1=da .cell) || decide (sc.names.lookup p.1=da .free))&&
 fr.all λp=>decide (scope.names.lookup p.1=da .free)&&decide (N[p.2]? = da p.1)
noncomputable def Gj(own:List Str)(scope:h7)(fr:List (Str×Nat)):Bool:=decide ((own++fr.map (·.1)).Nodup)&&own.all (λx=>decide (scope.names.lookup x=da .local) || decide (scope.names.lookup x=da .cell))
theorem SX.k?(h:SX X sc N T k)(c:Wn sc scope N fr=dj):xb X scope fr:=by
 unfold Wn at c;simp only[MO,decide_eq_true_eq,OB,Oq,OO]at c;obtain⟨⟨⟨U,Y⟩,a⟩,O⟩:=c;refine⟨U,Y,λp I b=>?_,λp I=>⟨(O p I).1,by rw[h.eN];exact(O p I).2⟩⟩;have e:X.env.kindOf p.1=sc.names.lookup p.1:=by show X.env.scope.names.lookup p.1=_;rw[h.Di]
 rw[e];rcases a p I with(q|q)|q
 ·rw[b]at q;exact absurd q ⋯
 ·exact .inl q
 ·exact .inr q
theorem JX(scope sc:h7)(x:Str):(yG scope sc).names.lookup x=(scope.names.lookup x).map λk=>if (k==Nu&&sc.kind ==.function&&sc.names.lookup x==da .cell)then Po else k:=by
 unfold yG;dsimp only;generalize scope.names=l
 induction l with
 |nil=>rfl
 | cons p r O=>
  obtain⟨n,a⟩:=p;rw[Nn];cases hx:x==n with
  |true=>
   have e:x=n:=by simpa using hx
   subst e;dsimp only;split
   ·rename_i I;rw[Ob,Ob,beq_self_eq_true];dsimp only[Ss];rw[UJ I]
   ·rename_i I;rw[Ob,Ob,beq_self_eq_true];dsimp only[Ss];rw[UY I]
  |false=>
   dsimp only;split
   ·rw[Ob,Ob,hx];exact O
   ·rw[Ob,Ob,hx];exact O
theorem SX.comp(h:SX X sc N T k)(c:Gj own scope fr=dj):
 SX (jJ X scope (own++fr.map (·.1)) fp s2 H2) (yG scope sc) (own++fr.map (·.1)) own k:=by
 unfold Gj at c;simp only[MO,decide_eq_true_eq,OB,Oq]at c;refine⟨?_,rfl,c.1,h.calm,h.room,λx a=>?_⟩
 ·show C3 scope X.env=_
  rw[bJ,h.Di]
 ·rcases c.2 x a with q|q
  ·right;rw[JX,q];rfl
  ·left
   show(scope.names.lookup x==da .cell)=dj;rw[q];rfl
end
mutual
def kv:D->PyData
 |.el=>.none
 |.bl b=>.bool b
 |.int i=>.int i
 |.str x=>.str x
 |.tup a=>.tuple (o5 a)
 |.lst a=>.list (o5 a)
 |.exc _ _=>.none
 |.n9 _ _=>.none
 |.ng _ _=>.none
 |.ins _ _ _=>.none
def o5:List D->List PyData
 |[]=>[]
 |d::ds=>kv d::o5 ds
end
theorem DN(h:kr (.exc c n)=dj):False:=by simp[kr]at h
theorem DM(h:kr (.n9 ks vs)=dj):False:=by simp[kr]at h
theorem DO{c:Str}{p t:D}(h:kr (.ins c p t)=dj):False:=by simp[kr]at h
theorem DK(h:kr (.ng ks vs)=dj):False:=by simp[kr]at h
mutual
theorem O5:∀x y:D,kr x=dj->kr y=dj->OV (kv x) (kv y)=i4 x y
 |.el,y,_,h=>by cases y<;>first|exact(DN h).elim|exact(DM h).elim|exact(DK h).elim|exact(DO h).elim|simp[kv,OV,i4]
 |.bl a,y,_,h=>by cases y<;>first|exact(DN h).elim|exact(DM h).elim|exact(DK h).elim|exact(DO h).elim|simp[kv,OV,i4]
 |.int a,y,_,h=>by cases y<;>first|exact(DN h).elim|exact(DM h).elim|exact(DK h).elim|exact(DO h).elim|simp[kv,OV,i4]
 |.str a,y,_,h=>by cases y<;>first|exact(DN h).elim|exact(DM h).elim|exact(DK h).elim|exact(DO h).elim|simp[kv,OV,i4]
 |.exc c n,y,h,_=>(DN h).elim
 |.n9 c n,y,h,_=>(DM h).elim
 |.ng c n,y,h,_=>(DK h).elim
 |.ins c p t,y,h,_=>(DO h).elim
 |.tup xs,y,h1,h2=>by
  cases y with
  |tup b=>simp only[kr]at h1 h2;simp only[kv,OV,i4];exact p_ xs b h1 h2
  |exc c n=>exact(DN h2).elim
  |n9 c n=>exact(DM h2).elim
  |ng c n=>exact(DK h2).elim
  |ins c p t=>exact(DO h2).elim
  |_=>simp[kv,OV,i4]
 |.lst xs,y,h1,h2=>by
  cases y with
  |lst b=>simp only[kr]at h1 h2;simp only[kv,OV,i4];exact p_ xs b h1 h2
  |exc c n=>exact(DN h2).elim
  |n9 c n=>exact(DM h2).elim
  |ng c n=>exact(DK h2).elim
  |ins c p t=>exact(DO h2).elim
  |_=>simp[kv,OV,i4]
theorem p_:∀xs ys:List D,nr xs=dj->nr ys=dj->Tq (o5 xs) (o5 ys)=t6 xs ys
 |[],ys,_,_=>by cases ys<;>simp[o5,Tq,t6]
 | x::xs,ys,h1,h2=>by
  cases ys with
  |nil=>simp[o5,Tq,t6]
  |cons y ys=>
   simp only[nr,MO]at h1 h2;simp only[o5,Tq,t6];rw[O5 x y h1.1 h2.1,p_ xs ys h1.2 h2.2]
end
mutual
theorem T7:∀x:D,kr x=dj->(kv x).canLay0=dj
 |.el,_=>by simp[kv,RA]
 |.bl a,_=>by simp[kv,RA]
 |.int a,_=>by simp[kv,RA]
 |.str a,h=>by simpa[kv,RA,kr,PyData.strOk]using h
 |.tup xs,h=>by simp only[kr]at h;simp only[kv,RA];exact O8 xs h
 |.lst xs,h=>by simp only[kr]at h;simp only[kv,RA];exact O8 xs h
 |.exc c n,h=>(DN h).elim
 |.n9 c n,h=>(DM h).elim
 |.ng c n,h=>(DK h).elim
 |.ins c p t,h=>(DO h).elim
theorem O8:∀xs:List D,nr xs=dj->TL (o5 xs)=dj
 |[],_=>by simp[o5,TL]
 |x::xs,h=>by simp only[nr,MO]at h;simp only[o5,TL];rw[T7 x h.1,O8 xs h.2];rfl
end
mutual
theorem U':∀x:D,(kv x).depth=deep x
 |.el=>by simp[kv,Py,deep]
 |.bl a=>by simp[kv,Py,deep]
 |.int a=>by simp[kv,Py,deep]
 |.str a=>by simp[kv,Py,deep]
 |.exc c n=>by simp[kv,Py,deep]
 |.n9 c n=>by simp[kv,Py,deep]
 |.ng c n=>by simp[kv,Py,deep]
 |.ins c p t=>by simp[kv,Py,deep]
 |.tup b=>by simp only[kv,Py,deep];rw[o_ b]
 |.lst b=>by simp only[kv,Py,deep];rw[o_ b]
theorem o_:∀xs:List D,RQ (o5 xs)=x6 xs
 |[]=>by simp[o5,RQ,x6]
 |x::xs=>by simp only[o5,RQ,x6];rw[U' x,o_ xs]
end
theorem xu(h:m4 d=dj):kr d=dj:=by unfold m4 at h;rw[MO]at h;exact h.2
theorem yh(h:m4 d=dj):SeqAt.shaped (kv d)=dj:=by unfold m4 at h;rw[MO,decide_eq_true_eq]at h;unfold SeqAt.shaped;rw[T7 d h.2,Bool.true_and,U'];exact decide_eq_true ⋯
section
variable{X:Cx}{pins:UQ}{σ:St}{H0 H:Hp}{s:ej}
mutual
theorem F8(I:Inv X pins σ H s)(sub:g5 H0 H):∀{d:D} {v:V} {u:d9},kr d=dj->Rep X.K H0 d v->RelV v u->∃O,Reads s.heap u (kv d) O
 |.el,v,u,_,h,r=>by cases (show v=.el from h);cases r;exact⟨_,.none⟩
 |.bl b,v,u,_,h,r=>by cases (show v=.bl b from h);cases r;exact⟨_,.bool b⟩
 |.int i,v,u,_,h,r=>by cases (show v=.int i from h);obtain⟨t,rfl⟩:=r;exact⟨_,.int i t⟩
 |.str x,v,u,_,h,r=>by cases (show v=.str x from h);obtain⟨t,rfl⟩:=r;exact⟨_,.str x t⟩
 |.exc c n,v,u,o,_,_=>(DN o).elim
 |.n9 c n,v,u,o,_,_=>(DM o).elim
 |.ng c n,v,u,o,_,_=>(DK o).elim
 |.ins c p t,v,u,o,_,_=>(DO o).elim
 |.tup ds,v,u,o,h,r=>by obtain⟨a,e,rfl,f,g⟩:=(show ∃a e,v=.ref a/\h8 X.K H0 a e/\ec X.K H0 ds e from h);cases r;simp only[kr]at o;obtain⟨l,U,⟨y,Y,j,n,k⟩,w⟩:=I.tuple<|p4 sub f;obtain⟨O,m⟩:=UR I sub o g U;exact⟨O,.tuple Y j k<|by simpa using m⟩
 |.lst ds,v,u,o,h,r=>by obtain⟨a,e,rfl,f,g⟩:=(show ∃a e,v=.ref a/\hM X.K H0 a e/\ec X.K H0 ds e from h);cases r;simp only[kr]at o;obtain⟨l,U,p,w⟩:=I.list<|sub.seq f;obtain⟨y,Y,j,n,k⟩:=p.isList;obtain⟨O,m⟩:=UR I sub o g U;exact⟨_,.list Y j k<|by simpa using m⟩
theorem UR(I:Inv X pins σ H s)(sub:g5 H0 H):∀{ds:List D} {xs:List V} {us:List d9},nr ds=dj->ec X.K H0 ds xs->f6 xs us->∃O,ReadsAll s.heap us (o5 ds) O
 |[],xs,us,_,h,r=>by rw[h.t7]at r;cases r;exact⟨_,.nil⟩
 | d::ds,xs,us,o,h,r=>by
  obtain⟨x,t,e,a,b⟩:=h.p6;subst e;simp only[nr,MO]at o;cases r with
  |cons U f=>
   obtain⟨O,Y⟩:=F8 I sub o.1 a U;obtain⟨bs,g⟩:=UR I sub o.2 b f;exact⟨_,.cons Y g⟩
end
end
noncomputable def IH(K:MC):R2:=λx y H Q=>∃a b I,g5 a H/\Rep K a b x/\Rep K a I y/\m4 b=dj/\m4 I=dj/\Q (.bl<|i4 b I) H
noncomputable def IG(K:MC):R2:=λx y H Q=>∃a b I,g5 a H/\Rep K a b x/\Rep K a I y/\m4 b=dj/\m4 I=dj/\Q (.bl<|!i4 b I) H
theorem pv(Y:X.A.units+64<Dg):l9 X (sh .Eq) (IH X.K):=by intro a s m H x y v u Q I g i h;obtain⟨j,k,l,sub,b,d,O,U,q⟩:=h;obtain⟨as,e⟩:=F8 I sub (xu O) b g;obtain⟨bs,f⟩:=F8 I sub (xu U) d i;exact eq_dataH e f (yh O) (yh U) Y ⟨.bl _,H,I,by rw[O5 _ _ (xu O) (xu U)];rfl,q⟩
theorem pq(Y:X.A.units+64<Dg):l9 X (sh .NotEq) (IG X.K):=by intro a s m H x y v u Q I g i h;obtain⟨j,k,l,sub,b,d,O,U,q⟩:=h;obtain⟨as,e⟩:=F8 I sub (xu O) b g;obtain⟨bs,f⟩:=F8 I sub (xu U) d i;exact ne_dataH e f (yh O) (yh U) Y ⟨.bl _,H,I,by rw[O5 _ _ (xu O) (xu U)];rfl,q⟩
theorem dW{K:MC}:p9 K (IH K) g4:=λa H x y b O d Q s U Y I q=>by
 unfold g4 at I;split at I
 ·rename_i h;cases I;exact⟨a,b,O,s,U,Y,h.1,h.2,q _ H a (Ext.refl s) rfl⟩
 ·cases I
theorem dS{K:MC}:p9 K (IG K) my:=λa H x y b O d Q s U Y I q=>by
 unfold my at I;split at I
 ·rename_i h;cases I;exact⟨a,b,O,s,U,Y,h.1,h.2,q _ H a (Ext.refl s) rfl⟩
 ·cases I
theorem SX.N1(h:SX X sc N T k):X.A.units+64<Dg:=by have:=h.room.un;omega
section
variable{X:Cx}{sc:h7}{N T:List Str}{k:Nat}{a b c:eK}{pos p:gv}{fa fb fc:CO D}
theorem ZO(z:PV X a fa)(I:PV X b fb):PV X (.BinOp a .Sub b pos) (zH dq fa fb):=Xv Ca se z I
theorem vM(z:PV X a fa)(I:PV X b fb):PV X (.BinOp a .FloorDiv b pos) (zH Xj fa fb):=Xv tU sr z I
theorem qT(z:PV X a fa)(I:PV X b fb):PV X (.BinOp a .Mod b pos) (zH yN fa fb):=Xv Cd si z I
theorem eY(z:PV X a fa)(I:PV X b fb):PV X (.BinOp a .Pow b pos) (zH uK fa fb):=Xv Cc sf z I
theorem YI(h:SX X sc N T k)(z:PV X a fa)(I:PV X b fb):PV X (.Compare a [.Eq] [b] pos) (zH g4 fa fb):=oX (pv h.N1) dW z I<|ZQ b
theorem GD(h:SX X sc N T k)(z:PV X a fa)(I:PV X b fb):PV X (.Compare a [.NotEq] [b] pos) (zH my fa fb):=oX (pq h.N1) dS z I<|ZQ b
theorem pb(z:PV X a fa)(I:PV X b fb):ow X (.Compare a [.Lt] [b] pos) (sB<|zH DC fa fb):=Zs Ce oM z I<|ZQ b
theorem wC(z:PV X a fa)(I:PV X b fb):ow X (.Compare a [.Gt] [b] pos) (sB<|zH qs fa fb):=Zs GO AQ z I<|ZQ b
theorem qE(h:SX X sc N T k)(z:PV X a fa)(I:PV X b fb):ow X (.Compare a [.Eq] [b] pos) (sB<|zH g4 fa fb):=Zs (pv h.N1) dW z I<|ZQ b
theorem wB(h:SX X sc N T k)(z:PV X a fa)(I:PV X b fb):ow X (.Compare a [.NotEq] [b] pos) (sB<|zH my fa fb):=Zs (pq h.N1) dS z I<|ZQ b
theorem JK{K:MC}{H:Hp}{d:D}(h:Rep K H d .el):d=.el:=by
 cases d with
 |el=>rfl
 |bl b=>exact V.noConfusion (show V.el=.bl b from h)
 |int b=>exact V.noConfusion (show V.el=.int b from h)
 |str b=>exact V.noConfusion (show V.el=.str b from h)
 |tup b=>obtain⟨a,f,e,_⟩:=h;cases e
 |lst b=>obtain⟨a,f,e,_⟩:=h;cases e
 |exc c n=>obtain⟨a,e,_⟩:=h;cases e
 |n9 c n=>obtain⟨a,f,e,_⟩:=h;cases e
 |ng c n=>obtain⟨a,f,e,_⟩:=h;cases e
 |ins c p t=>obtain⟨a,C,g,I,O,e,_⟩:=h;cases e
theorem sj{K:MC}:p9 K (λx y H Q=>y=.el/\Q (.bl<|decide<|x=.el) H) Ej:=λa H x y b U d Q s I Y O q=>by
 cases U with
 | el=>
  refine⟨Y,?_⟩;cases b with
  |el=>cases O;rw[show x=V.el from I];exact q _ H a (Ext.refl s) (by simp;rfl)
  |_=>
   cases O;refine q _ H a (Ext.refl s) ?_;have:¬x=V.el:=λe=>by rw[e]at I;exact D.noConfusion<|JK I
   rw[decide_eq_false this];rfl
 |_=>cases b<;>cases O
theorem bG{K:MC}:p9 K (λx y H Q=>y=.el/\Q (.bl<|!decide (x=.el)) H) QD:=λa H x y b U d Q s I Y O q=>by
 cases U with
 | el=>
  refine⟨Y,?_⟩;cases b with
  |el=>cases O;rw[show x=V.el from I];exact q _ H a (Ext.refl s) (by simp;rfl)
  |_=>
   cases O;refine q _ H a (Ext.refl s) ?_;have:¬x=V.el:=λe=>by rw[e]at I;exact D.noConfusion<|JK I
   rw[decide_eq_false this];rfl
 |_=>cases b<;>cases O
theorem sR(z:PV X a fa)(I:PV X b fb):ow X (.Compare a [.Is] [b] pos) (sB<|zH Ej fa fb):=Zs Cf sj z I<|ZQ b
theorem bN(z:PV X a fa)(I:PV X b fb):ow X (.Compare a [.IsNot] [b] pos) (sB<|zH QD fa fb):=Zs tR bG z I<|ZQ b
theorem y8{K:MC}{H:Hp}{ds:List D}{v:V}(h:Rep K H (.tup ds) v):∃a xs,v=.ref a/\h8 K H a xs/\ec K H ds xs:=h
theorem gd{K:MC}{H:Hp}{ds:List D}{v:V}(h:Rep K H (.lst ds) v):∃a xs,v=.ref a/\hM K H a xs/\ec K H ds xs:=h
theorem xM{K:MC}{H:Hp}{ds:List D}{a:dy}{xs:List V}(z:h8 K H a xs)(I:ec K H ds xs):Rep K H (.tup ds) (.ref a):=⟨a,xs,rfl,z,I⟩
theorem eU{K:MC}{H:Hp}{ds:List D}{a:dy}{xs:List V}(z:hM K H a xs)(I:ec K H ds xs):Rep K H (.lst ds) (.ref a):=⟨a,xs,rfl,z,I⟩
theorem su{K:MC}:p9 K (λx y H Q=>yr (λi j=>.int (i+j)) x y H Q\/oR K x y H Q) qv:=λg H x y o r d Q s Y m O q=>by
 cases o<;>cases r<;>simp[qv]at O
 ·subst O;exact .inl ⟨_,_,jN Y,jN m,q _ H g (Ext.refl s) rfl⟩
 ·rename_i n t
  obtain⟨u,rfl⟩:=O;obtain⟨a,w,rfl,h,f⟩:=y8 Y;obtain⟨b,z,rfl,k,I⟩:=y8 m;refine .inr ⟨a,b,w,z,rfl,rfl,p4 s h,p4 s k,vg (by rw[f.length,I.length];exact u),λe=>?_,λe=>?_,λp l=>?_⟩
  ·have U:n=[]:=by
    have:=f.length;rw[e]at this;exact NI this.symm
   subst U;exact q _ H g (Ext.refl s)<|xM k I
  ·have U:t=[]:=by
    have:=I.length;rw[e]at this;exact NI this.symm
   subst U;exact q _ H g (Ext.refl s) (by rw[Rq];exact xM h f)
  ·exact q _ _ _ (Ext.alloc s l _)<|xM (h8.of zM)<|(f.append I).mono (jF (jA s l) _)
theorem jM(z:PV X a fa)(I:PV X b fb):PV X (.BinOp a .Add b pos) (zH qv fa fb):=Xv (D?.or mO) su z I
end
theorem WG(U:A.handled=none)(k:Sk)(I O:dy)(Y:O≠I)(items:Array d9):
 Walks P w A I [I,O] [I] items.size (λi v=>items[i]? = da v) (λi h=>la k h I O i/\n4 k h O items):=by
 cases k
 ·exact Walks.list U I O Y items
 ·exact Walks.tuple U I O Y items
theorem JN(z:List Int):∀n,preSum (λi=>z.getD i 0) n=(z.take n).sum
 |0=>by simp[preSum]
 | n+1=>by
  have I:=JN z n;simp only[preSum,I];by_cases h:n<z.length
  ·rw[List.take_succ_eq_append_getElem h,List.sum_append]
   simp[h]
  ·rw[RB ⋯,RB ⋯]
   simp[h]
section
variable{X:Cx}{pins:UQ}{σ:St}{H:Hp}{s:ej}
theorem iA(J:X.calm=dj):QR X (.builtin "sum") (λxs H Q=>∃p k ys z,xs=[.ref p]/\m5 k X.K H p ys/\ys=(z:List Int).map V.int/\Q (.int z.sum) H):=by
 intro pins s σ H F E Q I w h;obtain⟨p,k,ys,z,rfl,m,rfl,q⟩:=h;obtain⟨u,rfl,O⟩:=yA w;cases O;obtain⟨a,r,d,C⟩:=I.sq m;have lt:=d.lt;have U:=r.length;rw[Nf]at U;refine call_sum_walkG<|aF d ⟨_,[_,p],[_],a.toArray.size,_,_,λi=>z.getD i 0,rfl,WG (A:=X.A.in1) (I.ok.hd J) k _ p (MZ lt) a.toArray,⟨J2 k _ p,d.at λo e=>MF _ e⟩,?_,?_,?_⟩
 ·intro b Y
  rw[NA];simp only[MQ,MY,or_false]at Y;rcases Y with rfl|rfl
  ·exact OC _
  ·exact Oc lt
 ·intro i v n
  have f:a[i]? = da v:=by simpa using n
  have j:i<z.length:=by rw[U];exact(Np.mp f).1
  obtain⟨u,g,O⟩:=r.get (i:=i) (x:=.int z[i]) (by simp[j]);rw[f]at g;cases g;obtain⟨t,rfl⟩:=O;exact⟨t,by simp[j]⟩
 ·intro B y t' l
  have e:preSum (λi=>z.getD i 0) a.toArray.size=z.sum:=by rw[JN,RB (by rw[MP,U];exact MM _)]
  refine⟨.int z.sum,H,I.kept (t':=y)<|λb u e=>l b u ?_ (MF _ e),⟨t',by rw[e]⟩,q⟩;simp only[MQ,MY,or_false];exact MZ<|MR e
def AD:V->Option Bool
 |.el=>da dt
 |.bl b=>da b
 |.int i=>da (i != 0)
 |_=>none
theorem lI(r:RelV x u)(e:AD x=da b)(q:Q b s):wpAny (eF P w) A (truthy u) Q E s:=by
 cases x with
 |el=>cases r;cases e;exact λ_ _ _=>q
 |bl c=>cases r;cases e;exact Pd q
 |int i=>obtain⟨t,rfl⟩:=r;cases e;exact PyProof.Rows.truthy_int q
 |_=>cases e
def dM:List V->Option (List Bool)
 |[]=>da []
 |x::r=>(AD x).bind λb=>(dM r).map λl=>b::l
theorem Yn:∀{xs:List V} {bs:List Bool},dM xs=da bs->bs.length=xs.length/\∀(i:Nat) x,xs[i]? = da x->AD x=da (bs.getD i dt)
 |[],bs,h=>by cases h;exact⟨rfl,λi x e=>by simp at e⟩
 |y::xs,bs,h=>by
  obtain⟨b,a,h⟩:=zh h;obtain⟨l,I,h⟩:=zI h;subst h;obtain⟨d,f⟩:=Yn I;refine⟨by simp[d],λi x e=>?_⟩;cases i with
  |zero=>simp at e;subst e;simpa using a
  |succ i=>simpa using f i x (by simpa using e)
theorem iP(bs:List Bool):(ME bs.length).any (λi=>bs.getD i dt)=bs.any id:=by
 rw[Ru];simp only[Um,MG,id_eq];constructor
 ·rintro⟨i,a,h⟩
  rw[MK,MH a]at h;exact⟨_,OI a,h⟩
 ·rintro⟨b,I,h⟩
  obtain⟨i,a,e⟩:=List.mem_iff_getElem.mp I;refine⟨i,a,?_⟩;rw[MK,MH a,Option.getD_some,e];exact h
theorem iE(z:X.calm=dj):QR X (.builtin "any") (λxs H Q=>∃p k ys bs,xs=[.ref p]/\m5 k X.K H p ys/\dM ys=da bs/\Q (.bl (bs.any id)) H):=by
 intro pins s σ H N M Q I B h;obtain⟨p,k,ys,bs,rfl,t,w,q⟩:=h;obtain⟨u,rfl,O⟩:=yA B;cases O;obtain⟨a,r,d,J⟩:=I.sq t;have lt:=d.lt;have U:=r.length;obtain⟨j,l⟩:=Yn w;refine call_any_walk<|aF d ⟨_,[_,p],[_],a.toArray.size,_,_,λi=>bs.getD i dt,rfl,WG (A:=X.A.in1) (I.ok.hd z) k _ p (MZ lt) a.toArray,⟨J2 k _ p,d.at λo e=>MF _ e⟩,?_,?_⟩
 ·intro i v L F E y m
  have Y:a[i]? = da v:=by simpa using y
  have g:i<ys.length:=by rw[U];exact(Np.mp Y).1
  obtain⟨u,f,O⟩:=r.get (i:=i) (x:=ys[i]) (by simp[g]);rw[Y]at f;cases f;exact lI O (l i ys[i] (by simp[g])) m
 ·intro G C n
  have e:(ME a.toArray.size).any (λi=>bs.getD i dt)=bs.any id:=by rw[MP,<-U,<-j];exact iP bs
  refine⟨.bl<|bs.any id,H,I.kept (t':=C)<|λb u e=>n b u ?_ (MF _ e),by rw[e];rfl,q⟩;simp only[MQ,MY,or_false];exact MZ<|MR e
end
section
variable{X:Cx}{sc:h7}{N T:List Str}{k:Nat}{e a b c:eK}{pos p p2:gv}{f g:CO D}{fq:CO (Sk×List D)}
theorem AN{K:MC}{H:Hp}{k:Sk}{a:dy}{xs:List V}(h:m5 k K H a xs):hM K H a xs\/h8 K H a xs:=by
 cases k
 ·exact .inl h
 ·exact .inr h
theorem yT(h:SX X sc N T k)(c:kW sc "len" = dj)(z:X.mg "len" = none)(I:PQ X e fq)(hs:fA [e] X.env=[(dt,eA e X.env)]:=by rfl):PV X (.Call (.Name "len" p) [e] [] pos) (Kg fq):=
 qc (vB Vv (h.gl c).1 z PySem.boot_len (jr I qd hs) ⋯ ⋯ hs rfl) λt H Q O=>by obtain⟨j,o,d,rc,U,q⟩:=O;obtain⟨⟨n,f⟩,l,Y⟩:=zI U;subst Y;refine⟨j,o,n,f,rc,l,λa g i b ext m s r=>⟨a,g,rfl,AN m,?_⟩⟩;exact q _ i b ext (show V.int g.length=.int f.length by rw[r.length])
theorem jU(h:SX X sc N T k)(c:kW sc "tuple" = dj)(z:X.mg "tuple" = none)(O:PQ X e fq)(hs:fA [e] X.env=[(dt,eA e X.env)]:=by rfl):PV X (.Call (.Name "tuple" p) [e] [] pos) (z7 fq):=
 qc (JO K0 (h.gl c).1 z PyProof.Rows.boot_tuple (jr O qd hs) ⋯ ⋯ hs rfl) λw H Q U=>by
  obtain⟨j,u,d,rc,Y,q⟩:=U;obtain⟨⟨g,m⟩,n,o⟩:=zI Y;subst o;refine⟨j,u,g,m,rc,n,λa t i b ext f s r=>⟨a,t,rfl,?_⟩⟩;cases g with
  |L=>exact .inl ⟨f,λl I=>q _ _ _ (ext.trans<|Ext.alloc ext.sub I _)<|xM (h8.of zM)<|r.mono<|jF (jA ext.sub I) _⟩
  |T=>exact .inr ⟨f,q _ i b ext (xM (s rfl) r)⟩
theorem yo{H H':Hp}(s:g5 H H'){a:dy}(h:H' a=none):H a=none:=by
 cases z:H a with
 |none=>rfl
 |some o=>rw[s a o z]at h;cases h
theorem tf(h:SX X sc N T k)(c:kW sc "list" = dj)(z:X.mg "list" = none)(O:PQ X e fq)(hs:fA [e] X.env=[(dt,eA e X.env)]:=by rfl):PO X (.Call (.Name "list" p) [e] [] pos) (eJ fq):=
 qc (JO Vt (h.gl c).1 z Sh (jr O qd hs) ⋯ ⋯ hs rfl) λw H Q U=>by obtain⟨g,s,d,rc,Y,q⟩:=U;obtain⟨⟨o,i⟩,j,m⟩:=zI Y;subst m;refine⟨g,s,o,i,rc,j,λa f t b ext n u r=>⟨a,f,rfl,AN n,λl I=>?_⟩⟩;exact q l f _ b (ext.trans<|Ext.hide ext.sub I _) (yo ext.s1 I) (jA ext.sub I) zM r
theorem Yt:∀{ds:List D} {n:Int},bC ds=da n->∃z:List Int,ds=z.map D.int/\n=z.sum
 |[],n,h=>by cases h;exact⟨[],rfl,rfl⟩
 | d::ds,n,h=>by
  cases d with
  |int i=>
   obtain⟨s,e,h⟩:=zI h;obtain⟨z,rfl,rfl⟩:=Yt e;exact⟨i::z,rfl,by rw[<-h];simp⟩
  |_=>cases h
theorem YE{K:MC}{H:Hp}:∀{I:List Int} {xs:List V},ec K H (I.map D.int) xs->xs=I.map V.int
 |[],xs,h=>h.t7
 |z::I,xs,h=>by obtain⟨x,r,e,a,b⟩:=ec.p6 h;rw[e,jN a,YE b];rfl
theorem YG(h:SX X sc N T k)(c:kW sc "sum" = dj)(z:X.mg "sum" = none)(U:PQ X e fq)(hs:fA [e] X.env=[(dt,eA e X.env)]:=by rfl):PV X (.Call (.Name "sum" p) [e] [] pos) (bI fq):=
 qc (vB (iA h.calm) (h.gl c).1 z PyProof.Rows.boot_sum (jr U qd hs) ⋯ ⋯ hs rfl) λy H Q Y=>by obtain⟨j,w,d,rc,I,q⟩:=Y;obtain⟨⟨f,l⟩,m,I⟩:=zh I;obtain⟨n,o,s⟩:=zI I;subst s;obtain⟨g,O,rfl⟩:=Yt o;have O:l=g.map D.int:=O;subst O;exact⟨j,w,f,_,rc,m,λa u i b ext t x r=>⟨a,f,u,g,rfl,t,YE r,q _ i b ext rfl⟩⟩
theorem rQ{K:MC}{H:Hp}{d:D}{x:V}{b:Bool}(h:Rep K H d x)(e:FQ d=da b):AD x=da b:=by
 cases d with
 |el=>cases (show x=.el from h);exact e
 |bl c=>cases (show x=.bl c from h);exact e
 |int i=>cases (show x=.int i from h);exact e
 |_=>cases e
theorem WQ{K:MC}{H:Hp}:∀{ds:List D} {xs:List V} {bs:List Bool},ec K H ds xs->X7 ds=da bs->dM xs=da bs
 |[],xs,bs,h,e=>by rw[h.t7];exact e
 |d::ds,xs,bs,h,e=>by obtain⟨x,r,I,f,g⟩:=h.p6;obtain⟨b,a,e⟩:=zh e;obtain⟨l,O,e⟩:=zI e;subst I e;show(AD x).bind _=_;rw[rQ f a];show((dM r).map λl=>b::l)=_;rw[WQ g O];rfl
theorem oY(h:SX X sc N T k)(c:kW sc "any" = dj)(z:X.mg "any" = none)(O:PQ X e fq)(hs:fA [e] X.env=[(dt,eA e X.env)]:=by rfl):PV X (.Call (.Name "any" p) [e] [] pos) (Al fq):=
 qc (vB (iE h.calm) (h.gl c).1 z PyProof.Rows.boot_any (jr O qd hs) ⋯ ⋯ hs rfl) λu H Q U=>by obtain⟨i,o,d,rc,I,q⟩:=U;obtain⟨⟨f,s⟩,j,I⟩:=zh I;obtain⟨bs,Y,l⟩:=zI I;subst l;exact⟨i,o,f,_,rc,j,λa n g b ext m t r=>⟨a,f,n,bs,rfl,m,WQ r Y,q _ g b ext rfl⟩⟩
theorem Kl(h:SX X sc N T k)(c:kW sc "int" = dj)(z:X.mg "int" = none)(U:PV X e f)(hs:fA [e] X.env=[(dt,eA e X.env)]:=by rfl):PV X (.Call (.Name "int" p) [e] [] pos) (eM f):=
 qc (JO iD (h.gl c).1 z PyProof.Rows.boot_int (jr U qd hs) ⋯ ⋯ hs rfl) λn H Q Y=>by
  obtain⟨j,m,d,rc,I,q⟩:=Y;obtain⟨O,l,I⟩:=zh I;refine⟨j,m,O,rc,l,λv g a ext r=>?_⟩;cases O with
  |int i=>cases I;exact .inl ⟨i,by rw[jN r],q _ g a ext rfl⟩
  |bl b=>cases I;exact .inr ⟨b,by rw[show v=.bl b from r],q _ g a ext rfl⟩
  |_=>cases I
theorem oW(h:SX X sc N T k)(c:kW sc "max" = dj)(z:X.mg "max" = none)(J:PV X a f)(Y:PV X b g)(hs:fA [a,b] X.env=[(dt,eA a X.env),(dt,eA b X.env)]:=by rfl)(O:fA [b] X.env=[(dt,eA b X.env)]:=by rfl):
 PV X (.Call (.Name "max" p) [a,b] [] pos) (lV f g):=
 qc (vB (iC h.calm) (h.gl c).1 z PyProof.Rows.boot_max (jr J (jr Y qd O)<|by rw[hs,O]) ⋯ ⋯ (by rw[hs,O]) (by rw[O];rfl)) λG H Q B=>by obtain⟨o,n,d,rc,I,q⟩:=B;obtain⟨i,l,I⟩:=zh I;obtain⟨u,y,l⟩:=zh l;obtain⟨j,U,I⟩:=zI I;obtain⟨w,A,U⟩:=zh U;subst I;refine⟨o,n,u,rc,y,λv E e x r=>⟨e,n,w,rc.ext x,A,λF s t C m=>⟨i,j,?_,q _ s t (x.trans C) rfl⟩⟩⟩;rw[jV l]at r;rw[jV U]at m;rw[jN r,jN m]
end
end DL
namespace DL
open PySem PySem.Spec PySem.Calls PyProof.Rows PySem.W PySem.Builtin PySem.Builtin.ObjectAttr PySem.Builtin.Getset_descriptor
section
variable{prog:ir}{w:g8}{A:lp}{E:EQ}{s:ej}{K:Frag}{x C:dy}
theorem wV(x:de h a C):Looks M h (typeOf<|.ref a) (.ref C):=by obtain⟨o,d,I,O,b⟩:=x;exact O ▸ (Looks.ld I).andThen .now
structure H9(K:Frag)(C:dy):Prop where
 ga:findIn K (.ref C) "__getattribute__" = da (da (.builtin "BaseException.__getattribute__"))
 gn:findIn K (.ref C) "__getattr__" = da none
 ca:findIn K (.ref C) "__class__" = da (da (.builtin "object.__class__"))
 gt:specialIn K (.builtin "object.__class__") "__get__" = da (da (.builtin "getset_descriptor.__get__"))
 tk:takesIn K (.builtin "object.__class__")=da dj
 mo:mroIn K C (.type "object")=da dj
 mb:mroIn K C (.type "BaseException")=da dj
theorem nK(X:K.In h)(G:H9 K C):Looks M h (find (.ref x) (.ref C) "__class__") (.bind (.builtin "getset_descriptor.__get__") (.builtin "object.__class__")):=by have I:=Y_ (M:=M) X G.ca;have O:Looks M h (getOf (da (.builtin "object.__class__"))) (da (.builtin "getset_descriptor.__get__")):=looks_specialIn X G.gt;have U:=looks_takesIn (M:=M) X G.tk;have Y:Looks M h (dataDescriptor? (da (.builtin "object.__class__")) (da (.builtin "getset_descriptor.__get__"))) (da (.builtin "getset_descriptor.__get__",.builtin "object.__class__")):=U.andThen .now;exact I.andThen (O.andThen (Y.andThen (Looks.tag .now)))
theorem nL(X:K.In s.heap)(I:de s.heap x C)(G:H9 K C)(h:R (.ok<|.ret<|.ref C) s):
 codeAny (eF prog w) A (.call (.builtin "getset_descriptor.__get__") ⟨[.builtin "object.__class__",.ref x,tp],[]⟩) R s:=by
 obtain⟨d,g0,O,U,Y⟩:=s;have a:=wV (M:=eF prog w) I;have b:=looks_mroIn (M:=eF prog w) X G.mo;refine TV KF.slot_gs.plain KF.entry_gs<|KF.slot_gs.check _ _ _ _ _ _ _ _ KF.type_class (KF.args_gs _ _ _) ?_;unfold Builtin.«getset_descriptor.__get__» descrGet;rw[dga_obj];refine MD<|ML ?_;unfold descrGetter descrCheckInstance descrNameAndClass X';simp only[KF.owner_class]
 repeat lk
 refine And.intro (Code.quiet_builtin _ ⋯)<|R7 KF.entry_class ?_;unfold Builtin.«object.__class__» shownTypeOf
 repeat lk
 exact h
theorem gU(X:K.In s.heap)(I:de s.heap x C)(G:H9 K C)(O:Q () s):wpAny M A (j? "BaseException.__getattribute__" ⟨[.ref x,z?],[]⟩) Q E s:=by
 obtain⟨g,g0,f,i,h⟩:=s;have U:=wV (M:=M) I;have Y:=looks_mroIn (M:=M) X G.mb;have d:builtinKind "BaseException.__getattribute__" = da .slot:=by decide +kernel
 have b:splitId "BaseException.__getattribute__" = da ("BaseException","__getattribute__"):=by decide +kernel
 have a:=PySem.F.args_bexc_ga (.ref x) z?;simp only[j?,d,b];refine MD (show wpAny _ _ (X' (.ref x) (.type "BaseException")) _ _ _ from ?_);refine(U.andThen Y).at ?_;rw[UY ⋯];unfold argsOk at a;cases hs:Manifest.signature? "BaseException.__getattribute__" with
 |none=>exact ML O
 |some e=>
  rw[hs]at a;exact wpAny_of_eq a O
theorem gT(X:K.In s.heap)(I:de s.heap x C)(G:H9 K C)(h:Q (da (.ref C)) {s with toks:=s.toks+1}):wpAny (eF prog w) A (getAttr? (.ref x) "__class__") Q E s:=by obtain⟨b,g0,O,U,Y⟩:=s;have a:=wV (M:=eF prog w) I;have d:=Y_ (M:=eF prog w) X G.ga;have e:=Y_ (M:=eF prog w) X G.gn;have f:=nK (M:=eF prog w) (x:=x) X G;have B:=PySem.F.attr_ValueError.ga.bind (.ref x);unfold getAttr? getAttrBy? getAttrBy;refine MD (wpAny_mkText (MD (Pc (Oy (MD (a.at (MD (d.at ?_))))))));show wpAny _ _ (s? _ _ _ _ _ _) _ _ _;unfold s?;refine MD (e.at ?_);refine MD (Pc (Oy ?_));show wpAny _ _ (e? (.builtin "BaseException.__getattribute__") (.ref x) _) _ _ _;unfold e?;refine MD (wpAny_of_eq B ?_);refine Ux (TV PySem.F.attr_ValueError.ga.plain PySem.F.entry_bexc_ga (gU (s:=⟨b,g0,O,U+1,Y⟩) X I G ?_));refine MD (ML ?_);refine MD (ML ?_);refine MD (a.at (MD (f.at ?_)));show wpAny _ _ (bindTo _ _ _ _) _ _ _;unfold bindTo;refine MD (Oy (Ux (nL (s:=⟨b,g0,O,U+1,Y⟩) X I G ?_)));refine ML ?_;exact ML (ML h)
theorem dz(h:oE K C=dj):H9 K C:=by unfold oE at h;simp only[MO,beq_iff_eq]at h;exact⟨h.1.1.1.1.1.1.1.1.2,h.1.1.1.1.1.1.1.2,h.1.1.1.1.1.1.2,h.1.1.1.2,h.1.1.2,h.1.1.1.1.1.2,h.1.1.1.1.2⟩
theorem aC(G:H9 K C)(Y:(S7 K C).isSome=dj):KitX K (.ref x) (.ref C) (λh=>de h x C) where
 ty:=λ_ _ _ I=>wV I
 it:=λ_ _ X _=>by
  obtain⟨cd,O⟩:=Oa.mp Y;unfold S7 at O;split at O
  ·rename_i c' d' a2 a3 U
   intro A' Q' E' s' k q;unfold isType loadHead;exact MD<|wpAny_loadPart (k _ _<|X _ _ U)<|ML q
  ·cases O
 ne:=λh tp dd its n sl X a4=>by
  obtain⟨cd,O⟩:=Oa.mp Y;refine Bool.eq_false_iff.mpr λq=>?_;have e:C=tp:=Nw.inj<|beq_iff_eq.mp q;subst e;unfold S7 at O;split at O
  ·rename_i c' d' a2 a3 U
   have z:=(X _ _ U).symm.trans a4;cases z
  ·cases O
 ca:=λX I k=>gT X I G k
theorem dA(h:oE K C=dj):(S7 K C).isSome=dj:=by
 unfold oE at h;simp only[MO]at h;have:=h.1.2;cases q:S7 K C with
 |none=>rw[q]at this;cases this
 |some a=>rfl
end
end DL
namespace DL
open PySem PySem.Spec PyProof.Rows L2
section
variable{X:Cx}{sc:h7}{N T:List Str}{k:Nat}{e a b c:eK}{pos p p2:gv}{f g:CO D}{fq:CO (Sk×List D)}
theorem gC(h:i0 n i=da j):F4 n i=da j:=by
 unfold i0 at h;unfold F4;split at h
 ·rename_i a;rw[UJ a.1,UJ a.2];exact h
 ·split at h
  ·rename_i a b;rw[UY ⋯,UJ ⋯];exact h
  ·cases h
theorem zE(J:PQ X a fq)(Z:PV X b g)(hs:Wv b:=by intro _ _;rfl):PV X (.Subscript a b pos) (dv fq g):=
 qc (BM (w?.or CK) J Z hs) λM H Q B=>by
  obtain⟨o,n,d,rc,I,q⟩:=B;obtain⟨⟨m,w⟩,y,I⟩:=zh I;obtain⟨i,U,I⟩:=zh I;obtain⟨u,z,U⟩:=zh U;obtain⟨j,A,I⟩:=zh I;refine⟨o,n,m,w,rc,y,λp h F e ext l G r=>⟨e,n,u,rc.ext ext,z,λK s t O f=>?_⟩⟩;rw[jV U]at f;obtain⟨x,C,E⟩:=r.get I;have Y:DZ h i=da x:=by unfold DZ;rw[r.length,gC A];exact C
  have k:=q x s t (ext.trans O)<|E.mono O.s0;cases m with
  |L=>exact .inl ⟨p,h,i,x,rfl,jN f,O.s1.seq l,Y,k⟩
  |T=>exact .inr ⟨p,h,i,x,rfl,jN f,p4 O.s1 l,Y,k⟩
theorem ZG{P:ir}{w:g8}{A:lp}{E:EQ}{s:ej}{t J:dy}{items:Array d9}{O U:d9}{lo z:Option Int}{Q:EQ}(I:N4 s.heap t items)(hs:s.heap.IsSliceOf J O U .none)(Y:Dv O lo)(Z:Dv U z)
 (L:HT.dv items.size 0 lo=0/\HT.dv items.size items.size z=items.size) (h:Q (.ref t) s):wpAny (eF P w) A (DG (.ref t)<|.ref J) Q E s:=by
 obtain⟨os,a,b,f⟩:=id hs;have d:s.TypeIs (.ref J) "slice":=⟨os,a,b⟩;unfold DG
 try with_reducible refine Oy ?_
 first|refine MD (ML ?_)|skip
 refine MD (V? I.typeIs ⋯ ?_);refine MD (NG (name:=Nz "__getitem__") I.typeIs Oj
  (Oh Oj I.typeIs entry_tuple_getitem ?_ (b? _ _)))
 show wpAny _ _ (Builtin.Tuple.tupleItemsOf (.ref t) >>= _) _ _ s;refine MD<|Ta I ?_;refine MD<|Rw d ?_;rw[UJ ⋯];refine MD<|HT.ZX hs Y Z ?_;have e:(((HT.dv items.size 0 lo:Nat):Int)==0&&(1:Int)==1&&(HT.dv items.size items.size z-HT.dv items.size 0 lo)==items.size)=dj:=by rw[L.1,L.2];simp
 show wpAny _ _ (if (((HT.dv items.size 0 lo:Nat):Int)==0&&(1:Int)==1&&(HT.dv items.size items.size z-HT.dv items.size 0 lo)==items.size)=dj then _ else _) _ _ s;rw[UJ e];refine MD (m:=PH _) ?_;unfold PH;refine MD<|Rw I.typeIs<|ML ?_;rw[UJ ⋯];exact MD<|RM<|ML ⟨_,rfl,ML h⟩
noncomputable def Gv(K:MC):V->Option Int->Option Int->Hp->VK->Prop:=λx lo d H Q=>∃a b,x=.ref a/\h8 K H a b/\(HT.dv b.length 0 lo=0/\HT.dv b.length b.length d=b.length->Q (.ref a) H)/\∀p,H p=none->Q (.ref p) (upd H p<|.tup<|uM b lo d)
theorem sv:Se X (Gv X.K):=by
 intro d s u H x v p t lo g o Q I O i U Y h;obtain⟨a,b,rfl,k,m,n⟩:=h;by_cases e:HT.dv b.length 0 lo=0/\HT.dv b.length b.length g=b.length
 ·cases O
  obtain⟨f,r,j,w⟩:=I.tuple k;have l:f.toArray.size=b.length:=by rw[MP];exact r.length.symm
  refine⟨"tuple",_,Oj.lookup,j.typeIs,?_⟩;exact ZG j i U Y (by rw[l];exact e) ⟨.ref a,H,I,rfl,m e⟩
 ·exact AR d s u H (.ref a) v p t lo g o Q I O i U Y ⟨a,b,rfl,k,e,n⟩
theorem Jp(n d:Nat)(o:Option Int):Wm n d o=HT.dv n d o:=by cases o<;>rfl
theorem lX{K:MC}{H:Hp}{ds:List D}{xs:List V}(r:ec K H ds xs)(lo z:Option Int):ec K H (dr ds lo z) (uM xs lo z):=by unfold dr uM;rw[<-Jp,<-Jp,r.length];exact(r.drop _).take _
theorem ip{ds:List D}{lo z:Option Int}(h:HT.dv ds.length 0 lo=0/\HT.dv ds.length ds.length z=ds.length):dr ds lo z=ds:=by unfold dr;rw[Jp,Jp,h.1,h.2];simp
noncomputable def tB(K:MC)(f:CO (Option Int)):TO:=λg H Q=>∃d e o,RC K d H g e/\f e=da o/\∀b a,Ext d H a b->Q o b
theorem Zt:L2.PO X none (tB X.K dm):=λa s d H Q I ⟨b,e,o,rc,O,q⟩=>sZ a s d H Q I (by cases O;exact q H b<|Ext.refl rc.sub)
theorem vc(h:PV X e f):L2.PO X (da e) (tB X.K<|ra f):=λa s m H Q I ⟨k,l,o,rc,O,q⟩=>sY h a s m H Q I (by
 obtain⟨i,g,U⟩:=zI O;obtain⟨d,Y,g⟩:=zh g;subst U;refine⟨k,l,d,rc,Y,λv j b x r=>?_⟩;rw[jV g]at r;exact⟨i,jN r,q j b x⟩)
theorem YH{lo z:Option eK}{U Y:CO (Option Int)}(J:PV X a f)(Z:L2.PO X lo (tB X.K U))(L:L2.PO X z (tB X.K Y)):PV X (.Subscript a (.Slice lo z none p2) pos) (WY f U Y):=
 qc (ai sv J Z L) λP H Q E=>by
  obtain⟨n,g,d,rc,I,q⟩:=E;obtain⟨h,A,I⟩:=zh I;obtain⟨l,B,I⟩:=zh I;obtain⟨u,C,I⟩:=zh I;refine⟨n,g,h,rc,A,λv G b x r=>⟨b,g,l,rc.ext x,B,λM t O=>⟨t,g,u,(rc.ext x).ext O,C,λo w x3=>?_⟩⟩⟩;have m:=x.trans<|O.trans x3;cases h with
  | tup N=>
   cases I;obtain⟨s,F,rfl,i,e⟩:=y8<|r.mono (O.trans x3).s0;have y:=e.length;refine⟨s,F,rfl,p4 x3.sub i,λk=>?_,λp j=>?_⟩
   ·rw[y]at k
    exact q _ o w m (by rw[ip k];exact xM i e)
   ·exact q _ _ _ (m.trans<|Ext.alloc x3.sub j _)<|xM (h8.of zM)<|(lX e _ _).mono (jF (jA x3.sub j) _)
  |_=>cases I
theorem Kj{K:MC}{H:Hp}{ds:List D}{xs:List V}(r:ec K H ds xs):∀n:Nat,ec K H (MI n ds).flatten (MI n xs).flatten
 |0=>ec.nil
 |n+1=>by rw[Pb,Pb,PN,PN];exact r.append<|Kj r n
theorem wD(z:PQ X a fq)(J:PQ X b gq):PO X (.BinOp a .Add b pos) (JJ fq gq):=
 qc (mF mP z J) λG H Q w=>by
  obtain⟨k,j,C,rc,I,q⟩:=w;obtain⟨⟨x,d⟩,r,I⟩:=zh I;obtain⟨⟨y,e⟩,s,I⟩:=zh I;cases x<;>cases y<;>try (simp at I;done)
  dsimp only at I;by_cases U:d.length+e.length<=lim
  ·rw[UJ U]at I;cases I
   refine⟨k,j,.L,d,rc,r,λl h A n x1 t E f=>⟨n,j,.L,e,rc.ext x1,s,λm i B o O u F g=>⟨l,m,h,i,rfl,rfl,O.s1.seq t,u,vg (by rw[f.length,g.length];exact U),λp Y=>?_⟩⟩⟩;exact q p (h++i) _ o (x1.trans<|O.trans<|Ext.hide O.sub Y _) (yo (x1.trans O).s1 Y) (jA O.sub Y) zM<|(f.mono O.s0).append g
  ·rw[UY U]at I;cases I
theorem Xy(z:PO X a gn)(J:PV X b g):PO X (.BinOp a .Mult b pos) (YB (jm gn) g):=
 qc (mF Cb z J) λM H Q w=>by
  obtain⟨l,k,C,rc,I,q⟩:=w;obtain⟨⟨G,f⟩,d,I⟩:=zh I;obtain⟨B,s,d⟩:=zI d;cases d;obtain⟨j,Y,I⟩:=zh I;obtain⟨r,t,Y⟩:=zh Y;dsimp only at I;by_cases U:f.length*j.toNat<=lim/\inR j=dj
  ·rw[UJ U]at I;cases I
   refine⟨l,k,f,rc,s,λm x y n x1 E F u h=>⟨n,k,r,rc.ext x1,t,λv A o O i=>?_⟩⟩;rw[jV Y]at i;obtain⟨K,L⟩:=J7 U.2;refine⟨m,j,x,rfl,jN i,O.s1 _ _ u,by omega,by omega,vg (by rw[h.length];exact U.1),λp e=>?_⟩;exact q p _ _ o (x1.trans<|O.trans<|Ext.hide O.sub e _) (yo (x1.trans O).s1 e) (jA O.sub e) zM<|(Kj h _).mono O.s0
  ·rw[UY U]at I;cases I
theorem Cv{K:MC}{t c:String}{b:Bool}(h:(if ((OP t) ==.type c)=dj then da dj else if PySem.W.kitMeta c=dj then (fastBuiltinMro t).map (·.contains (.type c))else none)=da b):Om K (.type t) (.type c)=da b:=h
noncomputable def NN:Ty->String
 |.int=>"int"
 |.bool=>"bool"
 |.str=>"str"
 |.tuple=>"tuple"
 |.list=>"list"
noncomputable def Cw:D->String
 |.el=>"NoneType"
 |.bl _=>"bool"
 |.int _=>"int"
 |.str _=>"str"
 |.tup _=>"tuple"
 |.lst _=>"list"
 |.exc _ _=>""
 |.n9 _ _=>"dict"
 |.ng _ _=>"dict"
 |.ins _ _ _=>""
theorem Y4{K:MC}(T:Ty)(d:D)(hx:∀c n,d ≠ .exc c n)(I:∀c p t,d ≠ .ins c p t:=by intro _ _ _ z;exact nomatch z):Om K (.type<|Cw d) (.type<|NN T)=da (lj T d):=by cases d<;>cases T<;>first|exact absurd rfl (hx _ _)|exact absurd rfl (I _ _ _)|(dsimp only[Cw,NN,lj,pQ,CN,pL,pK,pP];exact Cv ⋯)
theorem ur{K:MC}{C:dy}(b:Vd K C=dj):R4 K C:=by unfold Vd at b;simp only[MO,beq_iff_eq]at b;exact⟨b.1,b.2.1,b.2.2.1,b.2.2.2.1⟩
theorem CQ{K:MC}{H:Hp}{a C z:dy}{fs:List (Str×V)}(b:Vd K C=dj)(e:H a=da (.ins C z fs)):xg K H (.ref a) (.ref C):=by have c:=ur b;unfold Vd at b;simp only[MO,beq_iff_eq]at b;obtain⟨_,_,_,_,b5,b6,b7,b8,_⟩:=b;exact .ins e c b5 b6 b7 b8
theorem uk{K:MC}{C:dy}{c:Str}{p t:D}(b:Vd K C=dj)(T:Ty):Om K (.ref C) (.type<|NN T)=da (lj T<|.ins c p t):=by
 unfold Vd at b;simp only[MO,beq_iff_eq,SM,List.all_nil]at b;obtain⟨_,_,_,_,_,_,_,_,b1,b2,b3,b4,b5,_⟩:=b;cases T
 ·exact b1
 ·exact b2
 ·exact b3
 ·exact b4
 ·exact b5
theorem nA{J:UQ}{σ:St}{H0 H:Hp}{s:ej}{A:lp}{E:EQ}{Q:EQ}{d:D}{x:V}{u:d9}(I:Inv X J σ H s)(sub:g5 H0 H)(O:RelV x u)(r:Rep X.K H0 d x)(T:Ty)
 (h:∀Z,Q (.bool (lj T d)) {s with toks:=Z}):wpAny (eF X.prog X.w) A (call (.builtin "isinstance") [u,.type (NN T)]) Q E s:=by
 cases d with
 |el=>have e:=Y4 (K:=X.K) T .el<|λ_ _ z=>nomatch z;cases (show x=.el from r);cases (show u=NY from O);exact Nx PySem.W.kitx_none I.m3 Pn e (λz=>nomatch z) h
 |bl y=>have e:=Y4 (K:=X.K) T (.bl y)<|λ_ _ z=>nomatch z;cases (show x=.bl y from r);cases (show u=Value.bool y from O);exact Nx PySem.W.kitx_bool I.m3 Pn e (λz=>nomatch z) h
 |int i=>have e:=Y4 (K:=X.K) T (.int i)<|λ_ _ z=>nomatch z;cases (show x=.int i from r);obtain⟨t,q⟩:=(show ∃t,u=TC i t from O);cases q;exact Nx PySem.W.kitx_int I.m3 Pn e (λz=>nomatch z) h
 |str y=>have e:=Y4 (K:=X.K) T (.str y)<|λ_ _ z=>nomatch z;cases (show x=.str y from r);obtain⟨t,q⟩:=(show ∃t,u=Tz y t from O);cases q;exact Nx PySem.W.kitx_str I.m3 Pn e (λz=>nomatch z) h
 |tup l=>
  have e:=Y4 (K:=X.K) T (.tup l)<|λ_ _ z=>nomatch z;obtain⟨a,f,rfl,b,g⟩:=y8 r;cases (show u=Nw a from O);obtain⟨m,R,⟨o,U,Y,_⟩,N⟩:=I.tuple<|p4 sub b;exact Nx PySem.W.kitx_tuple I.m3 ⟨o,U,Y⟩ e (λz=>nomatch z) h
 |lst l=>
  have e:=Y4 (K:=X.K) T (.lst l)<|λ_ _ z=>nomatch z;obtain⟨a,f,rfl,b,g⟩:=gd r;cases (show u=Nw a from O);obtain⟨m,R,p,N⟩:=I.list<|sub.seq b;obtain⟨o,U,Y,_⟩:=p.isList;exact Nx TJ I.m3 ⟨o,U,Y⟩ e (λz=>nomatch z) h
 | exc c n=>
  obtain⟨a,rfl,G⟩:=(show ∃a,x=.ref a/\B4 X.K H0 c n a from r);cases (show u=Nw a from O);obtain⟨C,φ,g1,g2,g3,_⟩:=G.ex;obtain⟨S,_,x1,_,_⟩:=Jv G.all G.mem g1;obtain⟨p,_,_⟩:=(show l8 X.prog X.w H s.heap a (.ext φ)from I.ft a _<|sub _ _ g2);have e:Om X.K (.ref C) (.type<|NN T)=da (lj T<|.exc c n):=by
   unfold oE at x1;simp only[MO,SM,List.all_nil,beq_iff_eq]at x1;have t:=x1.1.1.1.1.1.1.1.1.1.1;cases T
   ·exact t.1
   ·exact t.2.1
   ·exact t.2.2.1
   ·exact t.2.2.2.1
   ·exact t.2.2.2.2.1
  exact Nx (aC (dz x1)<|dA x1) I.m3 (g3 _ p) e (λz=>nomatch z) h
 |n9 j k=>
  have e:=Y4 (K:=X.K) T (.n9 j k)<|λ_ _ z=>nomatch z;obtain⟨a,f,rfl,⟨P,_,_,o,b⟩,_⟩:=(show ∃a f,x=.ref a/\D7 H0 a j f/\ec X.K H0 k f from r);cases (show u=Nw a from O);obtain⟨_,_,_,_,_,M⟩:=(show l8 X.prog X.w H s.heap a (.rb o<|.dK<|P.zip f)from I.ft a _<|sub _ _ b);exact Nx Sj I.m3 M.typeIs e (λz=>nomatch z) h
 |ng j k=>
  have e:=Y4 (K:=X.K) T (.ng j k)<|λ_ _ z=>nomatch z;obtain⟨a,f,rfl,⟨_,o,zs,b,g,_⟩,_⟩:=(show ∃a f,x=.ref a/\R5 X.K H0 a j f/\ec X.K H0 k f from r);cases (show u=Nw a from O);obtain⟨U,_⟩:=(show l8 X.prog X.w H s.heap a (Q_ a o)from I.ft a _<|sub _ _ b);exact Nx Sj I.m3 ⟨o,U,g.1.1⟩ e (λz=>nomatch z) h
 |ins c p t=>
  obtain⟨a,C,L,B,F,rfl,b,g,_,_⟩:=(show ∃a C L B F,x=.ref a/\L8 X.K c=da C/\H0 a=da (.ins C L<|T4 B F)/\Rep X.K H0 p B/\Rep X.K H0 t F from r);exact gD I O (CQ (aG b)<|sub _ _ g) (uk (aG b) T) h
theorem sN(T:Ty)(h:SX X sc N L k)(c:kW sc "isinstance" = dj)(z:X.mg "isinstance" = none)(O:kW sc ty=dj)(z2:X.mg ty=none)(Z:De ty=da (.type (NN T)))(J:PV X a f)
 (hs:fA [a,.Name ty p2] X.env=[(dt,eA a X.env),(dt,eA (.Name ty p2) X.env)]:=by rfl):PV X (.Call (.Name "isinstance" p) [a,.Name ty p2] [] pos) (A3 T f):=by
 intro e s E H Q I ⟨i,C,d,rc,o,q⟩;obtain⟨Y,m,n⟩:=zI o;subst n;refine OJ<|xX I (h.gl c).1 z Ry ?_ ⋯ ⋯;refine Ph ?_ (by rw[hs];rfl) rfl;rw[hs];show wpAny _ _ (DP ((dt,eA a X.env)::p3 pos [(dt,eA (.Name ty p2) X.env)])) _ _ s;refine OG<|f7 (J e s E H _ I ⟨i,C,Y,rc,m,λv g b x r=>(show(λv g=>∃b,Ext i H b g/\Rep X.K b Y v) v g from⟨b,x,r⟩)⟩) λu A t=>?_;obtain⟨x,j,U,w,l,x1,y⟩:=t;show wpAny _ _ (DP ((dt,eA (.Name ty p2) X.env)::[])) _ _ A;refine OG<|xX U (h.gl O).1 z2 Z ?_ (h.gl O).2.1 (h.gl O).2.2;refine PM ?_;exact nA U x1.sub w y T λB=>⟨.bl _,j,U.tok B,rfl,q _ j l x1 rfl⟩
end
section
variable{X:Cx}{sc:h7}{N L:List Str}{k:Nat}{e a b c:eK}{pos p p2:gv}{f g:CO D}{fq:CO (Sk×List D)}
theorem qa(h:SX X sc N L k)(c:kW sc "range" = dj)(z:X.mg "range" = none)(I:PV X a f)(hs:fA [a] X.env=[(dt,eA a X.env)]:=by rfl):kA X tg (.Call (.Name "range" p) [a] [] pos) (jE f):=bV (h.gl c).1 z I hs
theorem ah(h:SX X sc N L k)(c:kW sc "range" = dj)(z:X.mg "range" = none)(J:PV X a f)(I:PV X b g)(hs:fA [a,b] X.env=[(dt,eA a X.env),(dt,eA b X.env)]:=by rfl)(O:fA [b] X.env=[(dt,eA b X.env)]:=by rfl):
 kA X tg (.Call (.Name "range" p) [a,b] [] pos) (Ke f g):=bU (h.gl c).1 z J I hs O
theorem vO(h:SX X sc N L k)(c:kW sc "zip" = dj)(z:X.mg "zip" = none)(J:PV X a f)(I:PV X b g)(hs:fA [a,b] X.env=[(dt,eA a X.env),(dt,eA b X.env)]:=by rfl)(O:fA [b] X.env=[(dt,eA b X.env)]:=by rfl):
 kA X (.Tuple elts x1 uP) (.Call (.Name "zip" p) [a,b] [] pos) (QT f g):=tE (h.gl c).1 z J I hs O
theorem fi(h:SX X sc N L k)(c:kW sc "isinstance" = dj)(z:X.mg "isinstance" = none)(I:kW sc "int" = dj)(O:X.mg "int" = none)(J:PV X a f)
 (hs:fA [a,.Name "int" p2] X.env=[(dt,eA a X.env),(dt,eA (.Name "int" p2) X.env)]:=by rfl):PV X (.Call (.Name "isinstance" p) [a,.Name "int" p2] [] pos) (A3 .int f):=sN .int h c z I O PyProof.Rows.boot_int J hs
theorem bL(h:SX X sc N L k)(c:kW sc "isinstance" = dj)(z:X.mg "isinstance" = none)(I:kW sc "bool" = dj)(O:X.mg "bool" = none)(J:PV X a f)
 (hs:fA [a,.Name "bool" p2] X.env=[(dt,eA a X.env),(dt,eA (.Name "bool" p2) X.env)]:=by rfl):PV X (.Call (.Name "isinstance" p) [a,.Name "bool" p2] [] pos) (A3 .bool f):=sN .bool h c z I O PyProof.Rows.boot_bool J hs
theorem bK(h:SX X sc N L k)(c:kW sc "isinstance" = dj)(z:X.mg "isinstance" = none)(I:kW sc "list" = dj)(O:X.mg "list" = none)(J:PV X a f)
 (hs:fA [a,.Name "list" p2] X.env=[(dt,eA a X.env),(dt,eA (.Name "list" p2) X.env)]:=by rfl):PV X (.Call (.Name "isinstance" p) [a,.Name "list" p2] [] pos) (A3 .list f):=sN .list h c z I O Sh J hs
theorem mf(z:PQ X a fq)(O:∀I,F3 a X.env I=(do let v<-I;M5 a.pos;holding [v] (truthy v)):=by intro _;rfl):ow X a (sA fq):=
 bO (mh z O) λo H Q U=>by
  obtain⟨j,m,t,rc,Y,q⟩:=U;obtain⟨⟨h,b⟩,k,l⟩:=zI Y;subst l;refine⟨j,m,h,b,rc,k,λp d i f ext g n r=>⟨!b.isEmpty,?_,q i f ext⟩⟩;have e:d.isEmpty=b.isEmpty:=by have:=r.length;cases d<;>cases b<;>simp_all
  rw[<-e];cases h with
  |L=>exact .inl ⟨d,g,rfl⟩
  |T=>exact .inr<|.inl ⟨d,g,rfl⟩
theorem oV(z:PV X a f):PV X (.UnaryOp .USub a pos) (sC f):=
 qc (GJ AA z) λl H Q I=>by obtain⟨h,k,d,rc,O,q⟩:=I;obtain⟨i,e,U⟩:=zI O;obtain⟨Y,j,e⟩:=zh e;subst U;refine⟨h,k,Y,rc,j,λv g b x r=>?_⟩;rw[jV e]at r;exact⟨i,jN r,q _ g b x rfl⟩
theorem JM(i:Nat)(h:SX X sc N L k)(c:Jw sc N i x=dj)(z:PV X a f)(hs:fA [a] X.env=[(dt,eA a X.env)]:=by rfl)
 (I:I8 (.Name x np) "append" X.env (eA (.Name x np) X.env)=eA (.Name x np) X.env:=by rfl)
 (O:((p3 cpos<|starEach [a] X.env).all (λx=> !x.1)&&(E6 cpos<|keywordEach [] X.env).all (λx=>x.1.isSome)
   &&decide ([a].length+([]:List u0).length+(if ([]:List u0).isEmpty then 0 else 1)<30))=dj:=by rfl)
 (U:(apos.endLine==cpos.line)=dj:=by rfl) (Y:u7 (.Call (.Attribute (.Name x np) "append" apos) [a] [] cpos) none pos.line X.env=pure dt:=by rfl):
 o8 X (.Expr (.Call (.Attribute (.Name x np) "append" apos) [a] [] cpos) pos) (yD i f):=
 bP i (VW Pw PySem.F.slot_list_append PySem.F.type_list_append fX (h.var c) (jr z qd hs) I O U hs rfl) Y
theorem jv(i:Nat){st:i7}{f:CO (List D)}(h:PS X st (WS (tO X.K f)<|vh i)):o8 X st (jj i<|jz f):=yV h λD u H U=>by obtain⟨E0,E,g,o,s,I,O,Y⟩:=U;obtain⟨d,b,O⟩:=zI O;obtain⟨k,l,b⟩:=zI b;subst O b;exact⟨g,o,k,I.rc,l,λa t p j x m e n r=>Y _ _ _<|(I.step<|x.show m e n I.rc.sub).A4 (eU (hM.of zM)<|r.mono<|jF e _)⟩
theorem F?(i:Nat)(h:SX X sc N L k)(c:ye sc N L i y=dj)
 (I:X.calm=dj) (ok:xb X scope fr) (O:∀i∈T.idx,i<own.length) (Z:zi X tg iter src) (U:∀fp J z,PG (jJ X scope (own++fr.map (·.1)) fp J z) tg<|wb X.K T)
 (Y:∀fp J z,PV (jJ X scope (own++fr.map (·.1)) fp J z) elt f) (hs:∀x,u5 iter X.env x=pure x:=by intro _;rfl):
 PS X (.Assign [.Name y py] (.ListComp elt [⟨tg,iter,[],0⟩] scope cpos) spos) (WS (tO X.K<|zO src T own.length (fr.map (·.2)) jt f)<|vh i):=by
 obtain⟨a,b,d⟩:=h.loc c;exact mr h.F7 a b d I ok O Z U Y hs
theorem GG(i:Nat)(h:SX X sc N L k)(c:ye sc N L i y=dj)
 (I:X.calm=dj) (ok:xb X scope fr) (O:∀i∈T.idx,i<own.length) (hi:zi X tg iter src) (U:∀fp J z,PG (jJ X scope (own++fr.map (·.1)) fp J z) tg<|wb X.K T)
 (Y:∀fp J z,ow (jJ X scope (own++fr.map (·.1)) fp J z) L1 kk) (Z:∀fp J z,PV (jJ X scope (own++fr.map (·.1)) fp J z) elt f) (hs:∀x,u5 iter X.env x=pure x:=by intro _;rfl):
 PS X (.Assign [.Name y py] (.ListComp elt [⟨tg,iter,[L1],0⟩] scope cpos) spos) (WS (tO X.K<|zO src T own.length (fr.map (·.2)) kk f)<|vh i):=by
 obtain⟨a,b,d⟩:=h.loc c;exact bR h.F7 a b d I ok O hi U Y Z hs
theorem fw(i:Nat)(h:SX X sc N L k)(c:Jw sc N i x=dj)(hi:PV X b g)(he:PV X e f)
 (Z:∀v,Dc (.Subscript (.Name x np) b p) X.env v=(do
   let O<-holding [v] (eA (.Name x np) X.env);let iv<-holding [v,O] (eA b X.env)
   M5 p
   holding [v,O,iv] (setItem O iv v)
   release [v,O,iv] []):=by intro _;rfl)
 (hs:F' [.Subscript (.Name x np) b p] e pos.line X.env=pure dt:=by rfl) (hw:swappedStores [.Subscript (.Name x np) b p] e X.env=pure none:=by rfl)
 (z:(Dy [.Subscript (.Name x np) b p] X.env).map (·.2)=[Dc (.Subscript (.Name x np) b p) X.env]:=by rfl):
 o8 X (.Assign [.Subscript (.Name x np) b p] e pos) (eE i g f):=
 yV (fB he (BF (h.var c) hi lT Z) hs hw z) λD σ H P=>by obtain⟨E0,E,w,u,T,t,I,y⟩:=P;obtain⟨d,G,I⟩:=zh I;obtain⟨F,U,I⟩:=zh I;obtain⟨Q,n,I⟩:=zh I;obtain⟨C,J,n⟩:=zh n;obtain⟨j,K,I⟩:=zI I;subst I;have U:=k6 U;refine⟨w,u,d,t.rc,G,λv R l x r=>?_⟩;have m:=t.step x;obtain⟨a,xs,z,W,M,o⟩:=m.rc.own i F U;refine⟨_,z,l,u,C,m.rc,J,λv2 S A Y s=>?_⟩;rw[jV n]at s;have B:=m.step Y;refine⟨a,xs,Q,j,rfl,jN s,Y.s1 _ _ M,by rw[o.length];exact gC K,?_⟩;exact y _ _ A<|B.rewrite (xs:=xs) U z<|(o.mono Y.s0).set j (r.mono Y.s0)
theorem W9(U:PG X tg (wb X.K T))(Y:PV X e f)(hs:F' [tg] e pos.line X.env=pure dt:=by rfl)(J:swappedStores [tg] e X.env=pure none:=by rfl)
 (z:(Dy [tg] X.env).map (·.2)=[Dc tg X.env]:=by rfl):o8 X (.Assign [tg] e pos) (eD T f):=
 yV (fB Y U hs J z) λD p H l=>by obtain⟨E0,E,h,m,o,O,I,i⟩:=l;obtain⟨d,j,I⟩:=zh I;obtain⟨n,k,I⟩:=zI I;subst I;refine⟨h,m,d,O.rc,j,λv g a x r=>?_⟩;exact QF x.sub r k λb _ a5=>i b g a<|a5 E0 E<|O.step x
end
structure gw(P:ir)(w:g8)(K:MC)(mg:UZ)(base:fh)(k:Nat)(x:Str)(n:Nat)(F:List D->Option Res):Prop where
 ex:∃(f:dy) (fd:sa) (ps:List Str),ps.length=n/\r9 P w K mg base uR k f fd ps (u6 K ps.length F)/\mg x=da (.ref f)/\Rx K (.ref f)=dj/\Binds K fd ps []
structure gB(K:MC)(mg:UZ)(x:Str)(st:i7)(ps:List Str):Prop where
 ex:∃(f:dy) (fd:sa),L2.D9 K x x st f fd/\(∀us:List d9,us.length=ps.length->R_ fd ⟨us,[]⟩=pure (ps.zip us))/\mg x=da (.ref f)
def B0(X:Cx)(es:List eK)(n:Nat)(g:CO (List D)):Prop:=Dw X es g/\∀b a,g b=da a->a.length=n
section
variable{X:Cx}{sc:h7}{N L:List Str}{k:Nat}{e:eK}{es:List eK}{f:CO D}{g:CO (List D)}{n:Nat}{pos p:gv}{x:Str}
theorem ze:B0 X [] 0 zF:=⟨tM,λb a h=>by cases h;rfl⟩
theorem za(z:PV X e f)(I:B0 X es n g)(hs:fA (e::es) X.env=(dt,eA e X.env)::fA es X.env:=by rfl):B0 X (e::es) (n+1) (zb f g):=
 ⟨mK z I.1 hs,λa b h=>by obtain⟨y,d,h⟩:=zh h;obtain⟨r,O,h⟩:=zI h;subst h;rw[Nr,I.2 a r O]⟩
variable{j:Nat}{F:List D->Option Res}
theorem GE(J:gw X.prog X.w X.K X.mg X.base j x n F)(I:j<=k)(h:SX X sc N L k)(c:kW sc x=dj)(z:B0 X (e::es) n g)
 (O:fA (e::es) X.env=(dt,eA e X.env)::fA es X.env:=by rfl) (U:(p3 pos<|starEach es X.env).any (·.1)=dt:=by rfl):PV X (.Call (.Name x p) (e::es) [] pos) (zD F g):=by
 obtain⟨i,l,m,f,G,d,Y,b⟩:=J.ex;subst f;exact sP (A0:=[]) G z.1 z.2 λ{t} a=>fJ G (h.room.mono I) (h.gl c).1 d Y b .nil BR a (h.gl c).2.2 O U
theorem GI(J:gw X.prog X.w X.K X.mg X.base j x n F)(I:j<=k)(h:SX X sc N L k)(c:kW sc x=dj)(z:B0 X (e::es) n g)
 (O:fA (e::es) X.env=(dt,eA e X.env)::fA es X.env:=by rfl) (U:(p3 pos<|starEach es X.env).any (·.1)=dt:=by rfl):PO X (.Call (.Name x p) (e::es) [] pos) (je F g):=by
 obtain⟨i,l,m,f,G,d,Y,b⟩:=J.ex;subst f;exact tm G z.1 z.2 λ{t} a=>fJ G (h.room.mono I) (h.gl c).1 d Y b .nil BR a (h.gl c).2.2 O U
end
section
variable{P:ir}{w:g8}{K:MC}{mg:UZ}{base:fh}
noncomputable def cV(N ps:List Str)(st:i7):Bool:=
 decide ((jB st).kind=.function)&&decide ((jB st).isCoroutine=dt)&&decide ((jB st).isGenerator=dt)&&decide N.Nodup&&decide (N.take ps.length=ps)&&
 ps.all (λx=>decide ((jB st).names.lookup x=da .local) || decide ((jB st).names.lookup x=da .cell))&&(jB st).names.all (λy=> !(y.2==Nu))
theorem Jg{N ps:List Str}{st:i7}(h:cV N ps st=dj):N3 N ps (jB st):=by unfold cV at h;simp only[MO,decide_eq_true_eq,OB,Oq,OO]at h;obtain⟨⟨⟨⟨⟨⟨a,b⟩,I⟩,O⟩,U⟩,Y⟩,d⟩:=h;exact⟨a,b,I,O,U,Y,λy f e=>by have:=d y f;rw[e]at this;exact absurd this ⋯⟩
theorem BQ{X:Cx}(hx:X.xe=λ_ _=>False):N_ (eF X.prog X.w) X.A X.env X.xe:=by rw[hx];exact PassesOwn.never
theorem qX{x:Str}{st:i7}{N ps:List Str}{k:Nat}{F:CO Fl}(A:gB K mg x st ps)(z:cV N ps st=dj)
 (O:∀X:Cx,X.prog=P->X.w=w->X.K=K->X.mg=mg->X.base=base->SX X (jB st) N N k->X.xe=(λ_ _=>False)->du X (kO st) F):
 gw P w K mg base (k+1) x ps.length (jk N.length F):=by
 obtain⟨f,d,I,U,e⟩:=A.ex;have S:=Jg z;refine⟨f,d,ps,rfl,uD I S λb A a s H E Y=>?_,e,I.kp,.all U⟩;exact O _ rfl rfl rfl rfl rfl ⟨rfl,rfl,S.nd,rfl,Y,λ_ _=>.inl rfl⟩ rfl
theorem IV{h:fh}{x:Str}{st:i7}{ps:List Str}{f:dy}{oc:d9}{od L:Option dy}{Y:Array (Option d9)}{kV J O z ct:d9}(I:K.In h)(G:h.Ns r3 mg)
 (a:RY K r3 x=da (da (.ref f))) (l:K.lookup f=da ⟨oc,od,.func<|Rz x x (QC st) (kO st) (jB st) .none kV J O L z ct,Y⟩)
 (c:SW K z x=dj) (Z:Rx K (.ref f)=dj)
 (b:∀(kV J O:d9) (L:Option dy) (z ct:d9) (us:List d9),us.length=ps.length->R_ (Rz x x (QC st) (kO st) (jB st) .none kV J O L z ct) ⟨us,[]⟩=pure (ps.zip us)):gB K mg x st ps:=
 ⟨f,_,CZ l c Z,b kV J O L z ct,PySem.W.mg_of I G a⟩
theorem Hk{x:Str}{st:i7}{f:dy}{z:sa}{N ps:List Str}{k:Nat}{F:CO Fl}(I:L2.D9 K x x st f z)(J:cV N ps st=dj)
 (O:∀X:Cx,X.prog=P->X.w=w->X.K=K->X.mg=mg->X.base=base->SX X (jB st) N N k->X.xe=(λ_ _=>False)->du X (kO st) F):
 r9 P w K mg base uR (k+1) f z ps (u6 K ps.length<|jk N.length F):=by
 have S:=Jg J;exact uD I S λb A a s H E U=>O _ rfl rfl rfl rfl rfl ⟨rfl,rfl,S.nd,rfl,U,λ_ _=>.inl rfl⟩ rfl
theorem Fo{F:List D->Option Res}{H:Hp}{a:dy}{ns:List Int}(I:hM K H a (ns.map V.int))(O:F [.lst (ns.map D.int)]=da (.val<|.bl dj)):
 u6 K 1 F [.ref a] H (λv _=>v=.bl dj) λ_ _ _=>False:=by
 refine⟨H,[.lst (ns.map D.int)],.val<|.bl dj,g5.refl _,ec.cons (eU I ?_) ec.nil,rfl,O,λv d b _ r=>r⟩;clear O I
 induction ns with
 |nil=>exact ec.nil
 |cons n ns U=>exact ec.cons rfl U
end
end DL
namespace DL
open PySem PySem.Spec PyProof.Rows L2
open PySem.W (KasT kas_sort kas_ask kat_run kat_snds kat_lt kat_cons kat_no kat_kind KatTups KatGo)
noncomputable def EL(h:fh)(v:d9)(k:Int):Prop:=∃x o a m t,v=.ref x/\h.get? x=da o/\o.cls=.type "tuple"/\o.data=.seq a m/\a[0]? = da (.int k t)
theorem pI:∀{vs:List d9} {ks:Nat->Int},(∀i (z:i<vs.length),EL h vs[i] (ks i))->∃fs,KatTups h vs fs/\fs.length=vs.length/\∀f∈fs,∃k t,f=TC k t
 |[],ks,_=>⟨[],KatTups.nil,rfl,λf hf=>by cases hf⟩
 | v::vs,ks,H=>by
  obtain⟨fs,d,e,I⟩:=pI (vs:=vs) (ks:=λi=>ks<|i+1) λi z=>H (i+1) (by simpa using z);obtain⟨x,o,g,m,t,a,O,U,Y,b⟩:=H 0 ⋯;have a:v=.ref x:=a;subst a;exact⟨.int (ks 0) t::fs,KatTups.cons O U Y b d,by simp[e],λf hf=>by
   rcases MQ.mp hf with rfl|hf
   ·exact⟨_,_,rfl⟩
   ·exact I f hf⟩
end DL
namespace DL
open PySem PySem.Spec PyProof.Rows L2
open AutoSeq1 (wpAny_loadPart')
theorem Ja:fillsNumberSlot (.type "tuple") "mul" = pure dt:=
 PySem.fillsNumberSlot_seq (id:="tuple.__mul__") (r:=da (.builtin "tuple.__rmul__")) RX.lookup ⋯ F.slot_tuple_rmul.lookup ⋯
theorem YF:seqRepeat? (.type "tuple")=pure (da (.builtin "tuple.__mul__")):=by unfold seqRepeat?;rw[PySem.seqSlot_of (T:="tuple") (name:="__mul__") (id:="tuple.__mul__") RX.lookup ⋯,PySem.seqSlot_of (T:="tuple") (name:="__rmul__") (id:="tuple.__rmul__") F.slot_tuple_rmul.lookup ⋯];rfl
theorem Xg(a:Int)(t:ro)(l:dy)(items:Array d9)(n:Nat)(dd:Option dy)(z:Array (Option d9)):
 Meets (Builtin.«int.__rmul__» ⟨[.int a t,.ref l],[]⟩) (λ_ R s=>s.heap.get? l=da {cls:=.type "tuple",dict:=dd,data:=.seq items n,slots:=z}/\R (.ok (.ret Value.notImplemented)) s):=
 .of_wp λb w A R s h=>by obtain⟨I,g,d,e,os⟩:=s;obtain⟨O,h⟩:=h;wp_walk;exact⟨_,rfl,h⟩
theorem X6(a:Int)(t:ro)(l:dy)(items:Array d9)(n:Nat)(dd:Option dy)(L:Array (Option d9))(z:¬(decide (a < -(2^63)) || decide (a>=2^63))=dj)(J:¬(items.isEmpty || a==1)=dj)
 (O:¬(decide (a<=0) || items.isEmpty)=dj) (U:¬((items.size:Int)*a>(2^63-1)/8)) (Y:¬Builtin.Tuple.tupleTooMany ((items.size:Int)*a)=dj) (hz:((MI a.toNat items).foldl (· ++ ·) #[]).size<=fy):
 Meets (Builtin.«tuple.__mul__» ⟨[.ref l,.int a t],[]⟩) (λ_ R s=>s.heap.get? l=da {cls:=.type "tuple",dict:=dd,data:=.seq items n,slots:=L}/\
  R (.ok (.ret (.ref s.heap.objs.size))) {s with heap:=s.heap.push {cls:=.type "tuple",data:=.seq ((MI a.toNat items).foldl (· ++ ·) #[])}}):=
 .of_wp λb w A R s h=>by
  obtain⟨e,g,d,f,os⟩:=s;obtain⟨I,h⟩:=h
  wp_walk using OR I
  rw[UY z];refine MD<|Ta (s:=⟨e,g,d,f,os⟩) ⟨_,I,rfl,n,rfl⟩ ?_;dsimp only;rw[UY J,UY O,UY U,UY Y];refine MD (m:=OK _)<|Ox ?_ hz;exact ML ⟨_,rfl,h⟩
theorem QV(a:Int)(t:ro)(l:dy)(items:Array d9)(n:Nat)(dd:Option dy)(L:Array (Option d9))(z:¬(decide (a < -(2^63)) || decide (a>=2^63))=dj)(J:¬(items.isEmpty || a==1)=dj)
 (O:(decide (a<=0) || items.isEmpty)=dj):
 Meets (Builtin.«tuple.__mul__» ⟨[.ref l,.int a t],[]⟩) (λ_ R s=>s.heap.get? l=da {cls:=.type "tuple",dict:=dd,data:=.seq items n,slots:=L}/\
  R (.ok (.ret (.ref s.heap.objs.size))) {s with heap:=s.heap.push {cls:=.type "tuple",data:=.seq #[]}}):=
 .of_wp λb w A R s h=>by
  obtain⟨U,g,d,e,os⟩:=s;obtain⟨I,h⟩:=h
  wp_walk using OR I
  rw[UY z];refine MD<|Ta (s:=⟨U,g,d,e,os⟩) ⟨_,I,rfl,n,rfl⟩ ?_;dsimp only;rw[UY J,UJ O];refine MD (m:=OK _)<|Ox ?_ (rn _);exact ML ⟨_,rfl,h⟩
theorem QU(a:Int)(t:ro)(l:dy)(items:Array d9)(n:Nat)(dd:Option dy)(L:Array (Option d9))(z:¬(decide (a < -(2^63)) || decide (a>=2^63))=dj)(J:(items.isEmpty || a==1)=dj):
 Meets (Builtin.«tuple.__mul__» ⟨[.ref l,.int a t],[]⟩) (λ_ R s=>s.heap.get? l=da {cls:=.type "tuple",dict:=dd,data:=.seq items n,slots:=L}/\R (.ok (.ret (.ref l))) s):=
 .of_wp λb w A R s h=>by
  obtain⟨O,g,d,e,os⟩:=s;obtain⟨I,h⟩:=h
  wp_walk using OR I
  rw[UY z];refine MD (Ta (s:=⟨O,g,d,e,os⟩) ⟨_,I,rfl,n,rfl⟩ ?_);dsimp only;rw[UJ J];refine MD (m:=PH _) ?_;unfold PH;refine MD (Rw (T:="tuple") ⟨_,I,rfl⟩ (ML ?_));rw[UJ ⋯];exact MD (RM (ML ⟨_,rfl,h⟩))
section
variable{X:Cx}
noncomputable def Bl(K:MC):R2:=λx y H Q=>∃l k a,x=.ref l/\y=.int k/\h8 K H l a/\ -(2^62)<=k/\k<2^62/\a.length*k.toNat<=fy/\(a=[]\/k=1->Q (.ref l) H)/\
 ∀p,H p=none->Q (.ref p) (upd H p<|.tup (MI k.toNat a).flatten)
theorem tP:l9 X (xr .Mult) (Bl X.K):=by
 intro E s σ H x y v u Q I rx ry h;obtain⟨l,k,J,rfl,rfl,R,h1,h2,C,Z,G⟩:=h;cases rx;obtain⟨t,rfl⟩:=ry;obtain⟨a,r,S,z1⟩:=I.tuple R;obtain⟨⟨P,b,p,d⟩,O,z,n,A⟩:=id S;simp only at z A;subst z A;have L:=r.length;have g1:¬(decide (k < -(2^63)) || decide (k>=2^63))=dj:=by simp;omega
 refine wpAny_binaryOp_repeat_ref (T:="tuple") (U:="int") ⋯ ⟨_,O,rfl⟩ (λs'=>Uz s' k t) Ja F.fills_int_mul Tp YF F.slot_int_index.lookup
  (PB Tp (Uz s k t) F.entry_int_rmul (F.args_int_rmul_2 _ _) (Xg k t l a.toArray n b d) ⟨O,rfl,⟨_,O,rfl⟩,?_⟩)
 have w:∀m:Nat,Ue (λx1 j=>x1++j) #[] (MI m a.toArray)=(MI m a).flatten.toArray:=λm=>by have:=J9 a m [];rw[Rn]at this;exact this
 by_cases g2:(a.toArray.isEmpty || k==1)=dj
 ·refine PB RX ⟨_,O,rfl⟩ Uu (Ui _ _) (QU k t l a.toArray n b d g1 g2) ⟨O,⟨.ref l,H,I,rfl,Z ?_⟩⟩
  rw[Oq]at g2;rcases g2 with g|g
  ·left
   have:a=[]:=by simpa using g
   exact(r.UE).mp this
  ·right;simpa using g
 ·have f:=g2
  simp only[Oq,not_or]at f;have M:a ≠ []:=by intro e;exact f.1 (by rw[e];rfl)
  have as:0<a.length:=List.length_pos_iff.mpr M;by_cases Y:(decide (k<=0) || a.toArray.isEmpty)=dj
  ·have B:k.toNat=0:=by
    rw[Oq]at Y;rcases Y with g|g
    ·have:=of_decide_eq_true g;omega
    ·exact absurd g f.1
   refine PB RX ⟨_,O,rfl⟩ Uu (Ui _ _) (QV k t l a.toArray n b d g1 g2 Y) ⟨O,?_⟩;refine⟨.ref s.heap.objs.size,_,I.laid (t':=s.toks) (o:=.tup (MI k.toNat J).flatten) (λc W q=>MF _ q) (MM _) ?_,rfl,G _<|I.ft.fresh<|MM _⟩;rw[B];exact⟨rn _,[],.nil,A7.new _ _⟩
  ·have B:¬k<=0:=by intro g;exact Y (by rw[Oq];exact .inl<|decide_eq_true g)
   have i:a.length*k.toNat<=fy:=by rw[<-L];exact C
   have ax:((a.toArray.size:Nat):Int)*k<=(fy:Int):=by
    rw[MP];have e:((a.length*k.toNat:Nat):Int)=(a.length:Int)*k:=by rw[Rv,Sf ⋯]
    omega
   have b0:fy=16777216:=RN;have N:(Ue (λx1 j=>x1++j) #[] (MI k.toNat a.toArray)).size<=fy:=by rw[w,MP,V8,C9];exact i
   refine PB RX ⟨_,O,rfl⟩ Uu (Ui _ _) (X6 k t l a.toArray n b d g1 g2 Y ⋯ (by unfold Builtin.Tuple.tupleTooMany;simp only[decide_eq_true_eq];omega) N) ⟨O,?_⟩;rw[w];refine⟨.ref s.heap.objs.size,_,I.laid (t':=s.toks) (o:=.tup (MI k.toNat J).flatten) (λc W q=>MF _ q) (MM _) ?_,rfl,G _<|I.ft.fresh<|MM _⟩;exact⟨by rw[V8,C9];exact C,_,r.rep k.toNat,A7.new _ _⟩
theorem sg{K:MC}:p9 K (λx y H Q=>rI F9 (λi j=>.int (i*j)) x y H Q\/Bl K x y H Q) yq:=λh H x y l m d Q s U Y I q=>by
 cases l<;>cases m<;>simp[yq]at I
 ·obtain⟨n,O⟩:=I
  subst O;exact .inl ⟨_,_,jN U,jN Y,om n,q _ H h (Ext.refl s) rfl⟩
 ·rename_i f j
  obtain⟨⟨r,o⟩,rfl⟩:=I;obtain⟨a,w,rfl,g,b⟩:=y8 U;obtain⟨t,u⟩:=J7 o;refine .inr ⟨a,j,w,rfl,jN Y,p4 s g,t,u,vg (by rw[b.length];exact r),λe=>?_,λp k=>?_⟩
  ·refine q _ H h (Ext.refl s) ?_
   rcases e with e|e
   ·have O:f=[]:=by
     have:=b.length;rw[e]at this;exact NI this.symm
    subst O;rw[show(MI j.toNat ([]:List D)).flatten=[]by simp];exact xM g b
   ·subst e
    rw[show(MI (1:Int).toNat f).flatten=f by simp];exact xM g b
  ·exact q _ _ _ (Ext.alloc s k _)<|xM (h8.of zM)<|(Kj b _).mono (jF (jA s k) _)
theorem xW(z:PV X a fa)(I:PV X b fb):PV X (.BinOp a .Mult b pos) (zH yq fa fb):=Xv (E?.or tP) sg z I
end
end DL
namespace L2
open PySem PySem.Spec PyProof.Rows
open AutoSeq1 (wpAny_loadPart')
section
variable{prog:ir}{w:g8}{A:lp}{E:EQ}{s:ej}
theorem cQ{z it l:dy}{n:Nat}{xs:Array d9}{x U:d9}{Q:EQ}(hz:IsEnum s.heap z it n U)(Z:la .T s.heap it l n)(hl:n4 .T s.heap l xs)(hx:xs[n]? = da x)(J:z≠it)
 (hQ:∀g,IsEnumOut g z it ((n:Int)+1) x s.heap.objs.size->la .T g it l (n+1)->nt g s.heap.objs.size (.int n s.toks) x->g.objs.size=s.heap.objs.size+1->
   (∀c o,c≠z->c≠it->s.heap.get? c=da o->g.get? c=da o)->Q (.ref s.heap.objs.size) {s with heap:=g,toks:=s.toks+1}):
 wpAny (eF prog w) A (Builtin.«enumerate.__next__» ⟨[.ref z],[]⟩) (λL s'=>∃v,L=.done (.ret v)/\Q v s') E s:=by
 refine MD (m:=field (.ref z) 2) (NL hz rfl (x:=.ref it) rfl ?_);refine MD (m:=Na (.ref it)) (kN Z hl hx λg1 G f=>?_);have h:IsEnum g1 z it n U:=f.extBut _ _ J hz;refine MD (m:=field (.ref z) 3) (NL h rfl (x:=Dm n) rfl ?_);refine MD (m:=field (.ref z) 4) (NL h rfl (x:=.none) rfl ?_);refine MD (m:=mkInt n) (wpAny_mkInt ?_);refine MD (m:=P6 (.ref z) 3 (Dm ((n:Int)+1))) (C8 h ⋯ λg2 rr i=>?_);replace rr:IsEnum g2 z it ((n:Int)+1) U:=rr;refine MD (m:=P6 (.ref z) 4 .none) (C8 rr ⋯ λY j k=>?_);replace j:IsEnum Y z it ((n:Int)+1) U:=j;refine MD (m:=newTuple [.int n s.toks,x]) (Uc ?_);have d:IsEnum (Y.push {cls:=.type "tuple",data:=.seq #[.int n s.toks,x]}) z it ((n:Int)+1) U:=MF _ j;generalize a4:Y.push {cls:=.type "tuple",data:=.seq #[.int n s.toks,x]}=O at d;have R:g1.objs.size=s.heap.objs.size:=f.1;have S:g2.objs.size=g1.objs.size:=i.1;have W:Y.objs.size=g2.objs.size:=k.1;have a:Y.objs.size=s.heap.objs.size:=by rw[W,S,R]
 have H:z<s.heap.objs.size:=MR hz;have bl:nt O s.heap.objs.size (.int n s.toks) x:=by show O.get? _=_;rw[<-a4,<-a];exact MU _ rfl
 have X:O.objs.size=s.heap.objs.size+1:=by rw[<-a4,NA,a]
 have bn:∀c o,c≠z->c≠it->s.heap.get? c=da o->O.get? c=da o:=λc o I u e=>by rw[<-a4];exact MF _<|k.extBut _ _ I<|i.extBut _ _ I<|f.extBut _ _ u e
 have K:la .T O it l (n+1):=G.at λo e=>by rw[<-a4];exact MF _<|k.extBut _ _ J.symm<|i.extBut _ _ J.symm e
 refine MD (m:=Nk<|.ref z) ?_;unfold Nk;refine MD<|NL d rfl (x:=.none) rfl<|ML ?_;simp only[if_true];refine MD<|RM<|MD<|NL d rfl (x:=U) rfl ?_;refine MD<|C8 d ⋯ λy p C=>?_;replace p:IsEnum y z it ((n:Int)+1) x:=p;rw[a];refine MD (m:=OL (.ref z)<|.ref s.heap.objs.size) ?_;unfold OL;refine MD<|C8 p ⋯ λg6 r as=>?_;replace r:IsEnumOut g6 z it ((n:Int)+1) x s.heap.objs.size:=r;refine C8 r ⋯ λb t F=>?_;replace t:IsEnumOut b z it ((n:Int)+1) x s.heap.objs.size:=t;have B:∀c o,c≠z->O.get? c=da o->b.get? c=da o:=λc o I e=>F.extBut _ _ I<|as.extBut _ _ I<|C.extBut _ _ I e;have y7:b.objs.size=s.heap.objs.size+1:=by have M:y.objs.size=O.objs.size:=C.1;have N:g6.objs.size=y.objs.size:=as.1;have P:b.objs.size=g6.objs.size:=F.1;rw[P,N,M,X]
 exact MD<|N9<|ML ⟨_,rfl,hQ b t (K.at λo e=>B _ o J.symm e) (B _ _ (OZ H) bl) y7 λc o I u e=>B c o I<|bn c o I u e⟩
theorem gY{z it l:dy}{n:Nat}{xs:Array d9}{I:d9}{Q:Fin->ej->Prop}(O:A.handled=none)(hz:IsEnum s.heap z it n I)(J:la .T s.heap it l n)(U:n4 .T s.heap l xs)(hx:xs[n]? = none)
 (Y:∀g e,Heap.ExtBut it s.heap g->(∃o,g.get? e=da o/\o.cls=.type "StopIteration")->E (.ref e) {s with heap:=g}):
 wpAny (eF prog w) A (Builtin.«enumerate.__next__» ⟨[.ref z],[]⟩) Q E s:=
 MD (m:=field (.ref z) 2) (NL hz rfl (x:=.ref it) rfl<|MD (m:=Na<|.ref it)<|wL O J U hx Y)
end
noncomputable def uG(i:dy):l7:={cls:=.type "enumerate",data:=.fields #[.none,.bool dt,.ref i,Dm 0,.none,.none]}
def QB(h:fh)(l:dy):fh:=Nm (Nm h<|l5 .T l)<|uG h.objs.size
theorem gX(l:dy)(xs:Array d9):
 Meets (Builtin.«enumerate.__new__» ⟨[.type "enumerate",.ref l],[]⟩) (λ_ R s=>n4 .T s.heap l xs/\R (.ok (.ret (.ref (s.heap.objs.size+1)))) {s with heap:=QB s.heap l}):=
 .of_wp λb w A R s h=>by
  obtain⟨Y,g,d,i,os⟩:=s;obtain⟨f,h⟩:=h;have j:=sub_enumerate;have I:Heap.IsTuple (Shared.heap ⟨Y,g,d,i,os⟩) l xs:=f;obtain⟨o,O,U,m,a⟩:=id I;obtain⟨e,ng,k,n⟩:=o;simp only at U a;subst U a;simp only[QB,uG,l5,NA]at h
  wp_walk using OR O
  refine wpAny_stack_any λst=>ML ?_;split
  ·rename_i c _ _ _ _ _
   cases (c==OP "enumerate")<;>(wp_walk using OR O,SI I;exact⟨_,rfl,by simpa[NA,Si]using h⟩)
  ·wp_walk using OR O,SI I
   exact⟨_,rfl,by simpa[NA,Si]using h⟩
noncomputable def U8(K:MC)(a:dy):It:=
 ⟨λi H=>∃b,m5 .T K H a b/\i<b.length,
  λi H x d=>∃p u,x=.ref p/\H p=none/\d=upd H p (.tup [.int i,u])/\(∀b,m5 .T K H a b->b[i]? = da u),
  λi H=>∃b,m5 .T K H a b/\b.length<=i⟩
theorem yp(hz:IsEnum s.heap z it n old)(h:Q (.ref z) s):wpAny (eF prog w) A (UP (.ref z)) Q E s:=by have I:s.TypeIs (.ref z) "enumerate":=⟨_,hz,rfl⟩;refine wpAny_pyIter_slot I F.slot_enumerate_iter (Oh F.slot_enumerate_iter I F.entry_enumerate_iter ?_ (F.args_enumerate_iter_1 _));have O:wpAny (eF prog w) A.in1 (ret (.ref z)) (λO a=>∃v,O=.done (.ret v)/\∃T m,a.TypeIs v T/\N0 (.type T) "__next__" = pure (da m)/\Q v a) E s:=ML ⟨_,rfl,"enumerate",_,I,PU.lookup,h⟩;exact O
theorem dJ{P:ir}{w:g8}{K:MC}{elts:List eK}{x1:Nat}{uP:gv}{z it a:dy}(ae:z≠it):
 Turn P w K (.Tuple elts x1 uP) (U8 K a) [z,it] z (λi h=>(∃Y,IsEnum h z it i Y)/\la .T h it a i) where
 mem:=by simp
 obj:=λi h ⟨⟨Y,hz⟩,h1⟩ y hy=>by
  simp only[MQ,MY,or_false]at hy;rcases hy with rfl|rfl
  ·exact⟨_,hz,λv q=>by cases q⟩
  ·exact h1.obj
 keep:=λi h h' ⟨⟨Y,hz⟩,h1⟩ k=>⟨⟨Y,k z ⋯ _ hz⟩,h1.at λo e=>k it ⋯ o e⟩
 item:=by
  rintro X hP hw hK hc i pins s σ H E I hf ⟨⟨Y,hz⟩,h1⟩ ⟨xs,a7,an⟩;subst hP hw hK;obtain⟨ap,aa,p1,z1⟩:=I.sq a7;have hx:xs[i]? = da xs[i]:=MH an;obtain⟨u1,ax,b0⟩:=aa.get hx;have hT:s.TypeIs (.ref z) "enumerate":=⟨_,hz,rfl⟩;unfold z8;refine MD (Pc (NG (name:=Nz "__next__") hT PU (Oh PU hT F.entry_enumerate_next
   (cQ hz h1 p1 (x:=u1) (by simpa using ax) ae λg a1 a2 a3 a4 a5=>ML ⟨_,rfl,?_⟩) (F.args_enumerate_next_1 _))))
  refine wpAny_letOwnedTupleGo_enum a1 λg2 rr ac=>?_;have lt:∀{c o},s.heap.get? c=da o->s.heap.objs.size≠c:=λe=>OZ<|MR e;have bf:nt g2 s.heap.objs.size (.int i s.toks) u1:=ac.extBut _ _ (lt hz) a3;have kk:∀U u,U ∉ [z,it]->s.heap.get? U=da u->g2.get? U=da u:=λU u O e=>by simp only[MQ,MY,or_false,not_or]at O;exact ac.extBut _ _ O.1<|a5 U u O.1 O.2 e
  have I1:Inv X pins σ (upd H s.heap.objs.size<|.tup [.int i,xs[i]]) {s with heap:=g2,toks:=s.toks+1}:=
   I.I' (fp:=[z,it]) kk hf (MM _) ⟨by show 2<=fy;decide,[.int i s.toks,u1],.cons ⟨_,rfl⟩<|.cons b0 .nil,⟨_,bf,rfl,_,rfl⟩⟩
  have bi:H s.heap.objs.size=none:=I.fresh;refine⟨.ref s.heap.objs.size,_,I1,rfl,⟨_,_,rfl,bi,rfl,λc1 bl=>by rw[I.D_ bl a7];exact hx⟩,?_,λU O=>?_⟩
  ·exact⟨⟨_,by have:=rr;rwa [show((i:Int)+1)=((i+1:Nat):Int)by omega]at this⟩,a2.at λo e=>ac.extBut _ _ ae.symm e⟩
  ·have bm:U≠s.heap.objs.size:=by
    simp only[MQ,MY,or_false]at O;rcases O with rfl|rfl
    ·exact(lt hz).symm
    ·obtain⟨o,e,_⟩:=h1.obj;exact(lt e).symm
   rw[zK bm];exact(hf U O).1
 done:=by
  rintro X hP hw hK hc i pins s σ H E I hf ⟨⟨Y,hz⟩,h1⟩ ⟨xs,a7,hi⟩;subst hP hw hK;obtain⟨ap,aa,p1,z1⟩:=I.sq a7;have hT:s.TypeIs (.ref z) "enumerate":=⟨_,hz,rfl⟩;have l1:=aa.length;unfold z8;refine MD (Pc (NG (name:=Nz "__next__") hT PU (Oh PU hT F.entry_enumerate_next
   (gY (show X.A.handled=none from I.ok.hd hc) hz h1 p1 (by simp;omega) λg e hk he=>?_) (F.args_enumerate_next_1 _))))
  obtain⟨o,ho,bv⟩:=he;refine MD (Tf (T:="StopIteration") (b:=dj) ⟨o,ho,bv⟩ Ud (ML ⟨rfl,?_⟩));refine I.C5 (t':=s.toks) (fp:=[z,it]) (λU u O e=>?_) hf;simp only[MQ,MY,or_false,not_or]at O;exact hk U u O.2 e
 self:=λ_ _ _ _ _ st h=>yp st.1.choose_spec h
noncomputable def Hg(K:MC)(z:TA):TI:=λf H R=>z f H λd b=>∃a,d=[.ref a]/\(∃e,m5 .T K b a e)/\R (U8 K a) b
theorem tH{X:Cx}{L:eK}{Z:TA}{p pos:gv}{z:List eK}{x1:Nat}{J:gv}(hg:Gl X "enumerate")(hm:X.mg "enumerate" = none)(ha:PA X [L] Z)
 (hv:De "enumerate" = da (.type "enumerate")) (hs:fA [L] X.env=[(dt,eA L X.env)]:=by rfl):
 PI X (.Tuple z x1 J) (.Call (.Name "enumerate" p) [L] [] pos) (Hg X.K Z):=by
 intro d s j H R I h;refine Call_<|xX I hg hm hv<|ND (f7 (ha pos d s j H _ I h) λB b t=>?_) (by rw[hs];rfl) rfl;obtain⟨C,f,O,w,u⟩:=t;obtain⟨a,e,⟨G,l⟩,q⟩:=u;subst e;obtain⟨E,r,m⟩:=yA w;subst r;cases m;obtain⟨n,y,Y,M⟩:=O.sq l;have A:=Y.lt;refine callType_new F.called_enumerate ⋯ (F.typeCall_enumerate_1 _) (F.newCall_enumerate_1 _) (λobj=>F.args_object_init_2 obj _) F.entry_enumerate_new (gX a n.toArray) ⟨Y,?_⟩;have keep:∀c o,b.heap.get? c=da o->(QB b.heap a).get? c=da o:=λc o e=>MF _<|MF _ e;have x:(Nm b.heap<|l5 .T a).objs.size=b.heap.objs.size+1:=NA ..;have g0:la .T (QB b.heap a) b.heap.objs.size a 0:=(J2 .T b.heap a).at λo e=>MF _ e;have U:IsEnum (QB b.heap a) (b.heap.objs.size+1) b.heap.objs.size 0 .none:=by have q:=MU (Nm b.heap<|l5 .T a) (o:=uG b.heap.objs.size) rfl;rw[x]at q;exact q
 refine⟨⟨_,U,rfl⟩,yp (s:={b with heap:=QB b.heap a}) U ?_⟩;have k:Inv X d j f {b with heap:=QB b.heap a,toks:=b.toks}:=O.kept keep;refine⟨_,[b.heap.objs.size+1,b.heap.objs.size],_,_,f,rfl,k,dJ<|OZ<|OC _,⟨⟨_,U⟩,g0⟩,λc i=>?_,q⟩;have g:b.heap.objs.size<=c:=by
  simp only[MQ,MY,or_false]at i;rcases i with rfl|rfl
  ·exact Nt _ _
  ·exact MM _
 exact O.Dj g<|O.ft.fresh g
end L2
namespace DL
open PySem PySem.Spec PyProof.Rows L2
theorem Y9{K:MC}{H:Hp}:∀{ds:List D} {xs:List V} {l:List Int},ec K H ds xs->KG ds=da l->xs=l.map V.int
 |[],xs,l,r,e=>by cases e;rw[show xs=[]from r];rfl
 | d::ds,xs,l,r,e=>by
  obtain⟨x,g,rfl,I,b⟩:=(show ∃x r,xs=x::r/\Rep K H d x/\ec K H ds r from r);cases d with
  |int i=>
   obtain⟨f,a,rfl⟩:=zI (show(KG ds).map (λl=>i::l)=da l from e);rw[Y9 b a,show x=.int i from I];rfl
  |_=>cases e
theorem Vm:∀l:List Int,(l.map V.int).all KN=dj
 |[]=>rfl
 |i::l=>by simp only[Nn,SM,Vm l,TR];rfl
theorem gI(i:Int):∀l:List Int,T6 (.int i) (l.map V.int)=decide (i∈l)
 |[]=>rfl
 | j::l=>by
  have I:=gI i l;unfold T6 at I ⊢;rw[Nn,R9,I];have e:DE (.int j) (.int i)=(j==i):=rfl;rw[e];by_cases h:i=j
  ·subst h
   rw[beq_self_eq_true,Bool.true_or];exact(decide_eq_true Nc).symm
  ·rw[beq_false_of_ne (NH h),Rt]
   exact decide_eq_decide.mpr ⟨λq=>Ng _ q,λq=>(MQ.mp q).resolve_left h⟩
theorem dC{K:MC}{H0 z:Hp}{a:dy}{xs:List V}{ds:List D}(h:h8 K z a xs)(r:ec K H0 ds xs):Walk K H0 z (U8 K a) (xy ds):=by
 have o:=r.length;have t:(xy ds).length=ds.length:=by simp[xy]
 refine⟨λi b s m=>?_,λb s=>?_,λi b x g s m y=>?_⟩
 ·exact⟨xs,p4 s h,by omega⟩
 ·exact⟨xs,p4 s h,by omega⟩
 ·obtain⟨p,u,k,I,O,U⟩:=y
  obtain⟨d,l,Y⟩:=r.L7<|U xs<|p4 s h;refine⟨.tup [.int i,d],?_,λf n e=>⟨upd f p<|.tup [.int i,u],?_,?_⟩⟩
  ·have j:i<ds.length:=by omega
   unfold xy;rw[NS,Sb j,MW,l];rfl
  ·rw[O];exact Ext.alloc e I _
  ·rw[k]
   exact xM (h8.of zM)<|ec.cons (show V.int i=.int i from rfl)<|ec.cons ((Y.mono n).mono (jF (jA e I) _)) ec.nil
section
variable{X:Cx}{sc:h7}{N L:List Str}{k:Nat}{a b c:eK}{pos p:gv}{f fa fb fc:CO D}
theorem fE(h:SX X sc N L k)(c:kW sc "enumerate" = dj)(z:X.mg "enumerate" = none)(J:PV X a f)(hs:fA [a] X.env=[(dt,eA a X.env)]:=by rfl):
 kA X (.Tuple elts x1 uP) (.Call (.Name "enumerate" p) [a] [] pos) (lW f):=
 Ko (tH (h.gl c).1 z (jr J qd hs) boot_enumerate hs) λo H R U=>by
  obtain⟨g,l,m,rc,I,q⟩:=U;obtain⟨d,Y,I⟩:=zh I;cases d with
  |tup n=>
   cases I;refine⟨g,l,_,rc,Y,λv e b x r=>?_⟩;obtain⟨i,j,rfl,O,g2⟩:=y8 r;exact⟨i,rfl,⟨j,p4 x.sub O⟩,q _ e b x<|dC O g2⟩
  |_=>cases I
theorem ma(ho:l9 X (sh op) r)(J:l9 X (sh Pz) r')(s1:p9 X.K r F)(s2:p9 X.K r' G)(Z:PV X a fa)(hb:PV X b fb)(hc:PV X c fc)
 (hm:lastMarks [op,Pz] [b,c]=dt:=by with_unfolding_all rfl):PV X (.Compare a [op,Pz] [b,c] pos) (JI F G fa fb fc):=
 qc (mH ho J Z hb hc hm) λσ H Q M=>by
  obtain⟨j,e,d,rc,I,q⟩:=M;obtain⟨x,w,I⟩:=zh I;obtain⟨y,A,I⟩:=zh I;obtain⟨k,B,I⟩:=zh I;obtain⟨Y,C,g⟩:=zh B;refine⟨j,e,x,rc,w,λT H1 p x1 N=>⟨p,e,y,rc.ext x1,A,λi l s O h=>s1 s l T i x y Y _ O.sub (N.mono O.s0) h C λW m f x3 P=>?_⟩⟩;cases Y with
  | bl k'=>
   cases g;refine⟨k,show W=.bl k from P,?_⟩;cases k with
   |true=>
    rw[UJ rfl];rw[UJ rfl]at I;obtain⟨z,E,L⟩:=zh I;exact⟨f,e,z,((rc.ext x1).ext O).ext x3,E,λv4 n t U R=>s2 t n i v4 y z d _ U.sub ((h.mono x3.s0).mono U.s0) R L λv5 o u x5 S=>q v5 o u (((x1.trans O).trans x3).trans (U.trans x5)) S⟩
   |false=>
    rw[UY ⋯];rw[UY ⋯]at I;cases I;exact q _ m f ((x1.trans O).trans x3) rfl
  |_=>cases g
end
theorem wm:∀{l:List Int} {us:List d9},f6 (l.map V.int) us->∀i,i<us.toArray.size->∃z u,us.toArray[i]? = da (.int z u)/\l[i]? = da z
 |[],us,r,i,hi=>by cases r;exact absurd hi<|Nq _
 | z::l,u::us,.cons r t,i,hi=>by
  cases i with
  |zero=>
   obtain⟨b,rfl⟩:=r;exact⟨z,b,by simp,by simp⟩
  |succ i=>
   obtain⟨I,O,a,U⟩:=wm t i (by simpa using hi);exact⟨I,O,by simpa using a,by simpa using U⟩
section
variable{K:MC}{E0 E H0 H:Hp}{σ:St}{γ:Ctx}
theorem RS.forget(r:RS K E0 E H0 H σ γ):RS K E0 E H0 H (σ.set i v) (γ.set i .no):=by
 have Y:∀{j:Nat} {e:List D} {b:dy},(γ.set i .no)[j]? = da (.own e)->γ[j]? = da (.own e)/\(σ.set i v)[j]? = σ[j]? :=λ{j e b} g=>by
  rcases jd g with⟨_,z,_⟩|⟨f,z⟩
  ·cases z
  ·exact⟨z,MV<|NH f⟩
 have nw:∀{j:Nat} {d:List (List D)},(γ.set i .no)[j]? = da (.nest d)->γ[j]? = da (.nest d)/\(σ.set i v)[j]? = σ[j]? :=λ{j d} g=>by
  rcases jd g with⟨_,z,_⟩|⟨f,z⟩
  ·cases z
  ·exact⟨z,MV<|NH f⟩
 refine⟨⟨r.rc.sub,by simp[r.rc.len],λj s g=>?_,λj e g=>?_,λj k b e fs l h o p=>?_,⟨λj d g=>?_,λj k x y U g2=>r.rc.C1.2 j k x y (nw U).1 (nw g2).1⟩⟩,r.ext,λj e b U g2=>?_,λj d b B U g2 g3=>?_⟩
 ·rcases jd g with⟨_,z,_⟩|⟨f,z⟩
  ·cases z
  ·obtain⟨A,U,g2⟩:=r.rc.val j s z
   exact⟨A,by rw[MV (NH f)];exact U,g2⟩
 ·obtain⟨I,O⟩:=Y (b:=0) g
  rw[O];exact r.rc.own j e I
 ·obtain⟨I,O⟩:=Y (b:=0) l
  obtain⟨m,n⟩:=Y (b:=0) h;rw[O]at o;rw[n]at p;exact r.rc.ne j k b e fs I m o p
 ·obtain⟨I,O⟩:=nw g
  obtain⟨a,bs,t,u,w⟩:=r.rc.C1.1 j d I;refine⟨a,bs,by rw[O];exact t,u,λk e c l h=>?_⟩;obtain⟨m,n⟩:=Y (b:=0) l;rw[n]at h;exact w k e c m h
 ·obtain⟨I,O⟩:=Y (b:=0) U
  rw[O]at g2;exact r.fresh j e b I g2
 ·obtain⟨I,O⟩:=nw U
  rw[O]at g2;exact r.DF j d b B I g2 g3
end
section
variable{K:MC}{E0 E H0 H:Hp}{σ:St}{γ:Ctx}
open Classical in
end
end DL
namespace L2
open PySem PySem.Spec PyProof.Rows
noncomputable def Gy(K:MC):V->List V->Hp->VK->Prop:=λx d H Q=>∃I p b,x=.str I/\d=[.ref p]/\hM K H p (b.map V.str)/\Builtin.Str.tooLong (b.toArray.foldl (λa p=>a+p.length+I.length) 0)=dt/\Q (.str<|Uv I b) H
theorem Yi:∀{I:List Str} {us:List d9},f6 (I.map V.str) us->∃l:List (Str×ro),strValues l=us/\l.map (·.1)=I
 |[],us,r=>by cases r;exact⟨[],rfl,rfl⟩
 |z::I,u::us,.cons r t=>by obtain⟨a,rfl⟩:=r;obtain⟨l,rfl,h⟩:=Yi t;exact⟨(z,a)::l,rfl,by simp[h]⟩
theorem uc{X:Cx}:N5 X "str.join" (Gy X.K):=by intro a s y H x n v m Q I Y i h;obtain⟨O,p,w,rfl,rfl,d,U,q⟩:=h;obtain⟨t,rfl⟩:=Y;obtain⟨u,rfl,rw⟩:=yA i;cases rw;obtain⟨f,r,g,j⟩:=I.list d;obtain⟨l,rfl,e⟩:=Yi r;subst e;refine PB F.slot_str_join (Uy _ _ _) F.entry_str_join (F.args_str_join_2 _ _) (meets_str_join_list O t p l U) ⟨g.isList,post_join l ⟨joinFit_length U,λt' k=>?_⟩⟩;refine⟨.str (Uv O (l.map (·.1))),H,(I.kept (h':=s.heap) (t':=k) λb o e=>e),⟨t',?_⟩,q⟩;show Tz (Builtin.Str.glued O (l.map (·.1))) t'=_;rw[StrLaws.glued_eq_join]
end L2
namespace DL
open PySem PySem.Spec PyProof.Rows L2
theorem Yu{K:MC}{H:Hp}:∀{ds:List D} {xs:List V} {l:List Str},ec K H ds xs->Yv ds=da l->xs=l.map V.str
 |[],xs,l,r,e=>by cases e;rw[show xs=[]from r];rfl
 | d::ds,xs,l,r,e=>by
  obtain⟨x,g,rfl,I,b⟩:=(show ∃x r,xs=x::r/\Rep K H d x/\ec K H ds r from r);cases d with
  |str i=>
   obtain⟨f,a,rfl⟩:=zI (show(Yv ds).map (λl=>i::l)=da l from e);rw[Yu b a,show x=.str i from I];rfl
  |_=>cases e
section
variable{X:Cx}{sc:h7}{N L:List Str}{k:Nat}{o e a b:eK}{apos cpos pos p:gv}{f g:CO D}{q:CO (Sk×List D)}
theorem wx(h:js x=dj):x.length<=1000:=of_decide_eq_true h
theorem Zn(h:js x=dj):x.length<=fy:=NJ (wx h) ⋯
theorem ff(Y:PV X o f)(he:PQ X e q)(z:I8 o "join" X.env (eA o X.env)=eA o X.env:=by rfl)
 (J:((p3 cpos<|starEach [e] X.env).all (λx=> !x.1)&&(E6 cpos<|keywordEach [] X.env).all (λx=>x.1.isSome)&&decide ([e].length+([]:List u0).length+(if ([]:List u0).isEmpty then 0 else 1)<30))=dj:=by rfl)
 (Z:(apos.endLine==cpos.line)=dj:=by rfl) (hs:fA [e] X.env=[(dt,eA e X.env)]:=by rfl):PV X (.Call (.Attribute o "join" apos) [e] [] cpos) (sD f q):=
 qc (VW PySem.F.plainAttrs_str PySem.F.slot_str_join PySem.F.type_str_join uc Y (jr he qd hs) z J Z hs rfl) λW H Q A=>by
  obtain⟨h,g,d,rc,I,G⟩:=A;obtain⟨k,n,I⟩:=zh I;obtain⟨⟨E,m⟩,p,I⟩:=zh I;cases k with
  | str U=>
   cases E with
   | L=>
    obtain⟨l,s,I⟩:=zh I;by_cases O:l.length<=lim/\l.all js=dj/\js U=dj
    ·rw[UJ O]at I;cases I
     refine⟨h,g,_,rc,n,λv N b x r=>?_⟩;rw[show v=.str U from r];refine⟨rfl,b,g,.L,m,rc.ext x,p,λa S i j M u P K=>?_⟩;have t:=Yu K s;subst t;refine⟨U,a,l,rfl,rfl,u,StrLaws.joinFits (B:=1000) (λy C=>wx<|OB.mp O.2.1 y C) ?_,G _ i j (x.trans M) rfl⟩;have R:=O.1;have:lim=2500:=rfl;have w:=wx O.2.2;have:l.length*U.length<=2500*1000:=Nat.mul_le_mul ⋯ w;omega
    ·rw[UY O]at I;cases I
   |T=>cases I
  |_=>cases I
theorem kY(J:PV X a f)(Y:PV X b g)(hs:Wv b:=by intro _ _;rfl):PV X (.Subscript a b pos) (qS f g):=
 qc (BM CM J Y hs) λF H Q A=>by
  obtain⟨m,l,d,rc,I,q⟩:=A;obtain⟨p,t,I⟩:=zh I;obtain⟨i,O,I⟩:=zh I;obtain⟨s,u,O⟩:=zh O;cases p with
  | str z=>
   by_cases U:js z=dj
   ·have I:(if js z=dj then (i0 z.cps.toList.length i).bind λk=>z.cps.toList[k]?.map λc=>D.str ⟨#[c]⟩else none)=da d:=I
    rw[UJ U]at I;obtain⟨j,w,I⟩:=zh I;obtain⟨c,y,rfl⟩:=zI I;refine⟨m,l,_,rc,t,λv C e x r=>⟨e,l,s,rc.ext x,u,λE n o B h=>?_⟩⟩;rw[jV O]at h;refine⟨z,i,c,r,jN h,Zn U,?_,q _ n o (x.trans B) rfl⟩;unfold DZ;rw[gC w];exact y
   ·have I:(if js z=dj then (i0 z.cps.toList.length i).bind λk=>z.cps.toList[k]?.map λc=>D.str ⟨#[c]⟩else none)=da d:=I
    rw[UY U]at I;cases I
  |_=>cases I
theorem Zq(h:SX X sc N L k)(c:kW sc "len" = dj)(z:X.mg "len" = none)(J:PV X e f)(hs:fA [e] X.env=[(dt,eA e X.env)]:=by rfl):PV X (.Call (.Name "len" p) [e] [] pos) (yC f):=
 qc (vB Vu (h.gl c).1 z PySem.boot_len (jr J qd hs) ⋯ ⋯ hs rfl) λl H Q U=>by
  obtain⟨g,j,d,rc,I,q⟩:=U;obtain⟨Y,i,I⟩:=zh I;cases Y with
  | str z=>
   by_cases O:js z=dj
   ·have I:(if js z=dj then da (D.int z.length)else none)=da d:=I
    rw[UJ O]at I;cases I;refine⟨g,j,_,rc,i,λv b a x r=>⟨z,by rw[show v=.str z from r],Zn O,q _ b a x rfl⟩⟩
   ·have I:(if js z=dj then da (D.int z.length)else none)=da d:=I
    rw[UY O]at I;cases I
  |_=>cases I
end
section
variable{X:Cx}{sc:h7}{N L:List Str}{k:Nat}{b:eK}{f:CO D}
theorem fe(h:SX X sc N L k)(c:kW sc "min" = dj)(z:X.mg "min" = none)(J:PV X a f)(Y:PV X b g)(hs:fA [a,b] X.env=[(dt,eA a X.env),(dt,eA b X.env)]:=by rfl)(O:fA [b] X.env=[(dt,eA b X.env)]:=by rfl):
 PV X (.Call (.Name "min" p) [a,b] [] pos) (eH f g):=
 qc (vB (iB h.calm) (h.gl c).1 z PyProof.Rows.boot_min (jr J (jr Y qd O)<|by rw[hs,O]) ⋯ ⋯ (by rw[hs,O]) (by rw[O];rfl)) λG H Q B=>by obtain⟨o,n,d,rc,I,q⟩:=B;obtain⟨i,l,I⟩:=zh I;obtain⟨u,y,l⟩:=zh l;obtain⟨j,U,I⟩:=zI I;obtain⟨w,A,U⟩:=zh U;subst I;refine⟨o,n,u,rc,y,λv E e x r=>⟨e,n,w,rc.ext x,A,λF s t C m=>⟨i,j,?_,q _ s t (x.trans C) rfl⟩⟩⟩;rw[jV l]at r;rw[jV U]at m;rw[jN r,jN m]
end
end DL
namespace DL
open PySem PySem.Spec PySem.Calls PyProof.Rows PySem.W
noncomputable def IT(C:dy)(dd:Option dy)(a0:dy):l7:=⟨.ref C,dd,.fields #[.ref a0,.none,.none,.none,.bool dt,.none],#[]⟩
end DL
namespace DL
open PySem PySem.Spec PySem.Calls PyProof.Rows
def QQ(e d:dy)(h:fh):Prop:=∃o,h.get? e=da o/\o.dict=da d
def oB(e:dy)(h:fh):Prop:=∃o a,h.get? e=da o/\o.data=.fields a/\a[2]? = da NY
inductive DS{α:Type}:n0 α->Prop
 |pure (a:α):DS (.pure a)
 |raise (e:d9):DS (.raise e)
 |A6 (w:String):DS (.unsupported w)
 |rule {t:String} {k:Unit->n0 α} (h:∀u,DS<|k u):DS (.rule t k)
 |at {p:gv} {k:Unit->n0 α} (h:∀u,DS<|k u):DS (.at p k)
 |load {a:dy} {p:Option d9} {k:l7->n0 α} (h:∀o,DS<|k o):DS (.load a p k)
 |update {a:dy} {p:Option d9} {f:l7->l7} {k:Unit->n0 α} (hf:∀o,(f o).dict=o.dict/\(o.isFreed=dt->(f o).isFreed=dt)/\∀vs,o.data=.fields vs->∃_s,(f o).data=.fields _s/\_s[2]? = vs[2]?) (h:∀u,DS<|k u):DS (.update a p f k)
 |alloc {o:l7} {k:dy->n0 α} (h:∀a,DS<|k a):DS (.alloc o k)
 |register {a:dy} {k:Unit->n0 α}:DS (.register a k)
 |fresh {k:ro->n0 α} (h:∀a,DS<|k a):DS (.fresh k)
 |ask {k:Setting->n0 α} (h:∀a,DS<|k a):DS (.ask k)
 |stack {k:List (Code×gv)->n0 α} (h:∀a,DS<|k a):DS (.stack k)
 |handled {b:Bool} {k:Option d9->n0 α} (h:∀a,DS<|k a):DS (.handled b k)
 |point {l:List d9} {k:Unit->n0 α} (h:∀a,DS<|k a):DS (.point l k)
theorem FO{z:Type}{M:DY}{Γ:PySem.Ctx}{e d:dy}{t:n0 z}(h:DS t):∀{Q:z->gv->ej->Prop} {E:d9->gv->ej->Prop} {p:gv} {s:ej},QQ e d s.heap->Pe M Γ t Q E p s->
 Pe M Γ t (λa p' s'=>Q a p' s'/\QQ e d s'.heap) (λx p' s'=>E x p' s'/\QQ e d s'.heap) p s:=by
 induction h with
 |pure a=>intro Q E p s b w;rw[Pe]at w ⊢;exact⟨w,b⟩
 |raise x=>intro Q E p s b w;rw[Pe]at w ⊢;exact⟨w,b⟩
 |A6 x=>intro Q E p s b w;rw[Pe]at w;exact w.elim
 |rule h I=>intro Q E p s b w;rw[Pe]at w ⊢;exact I _ b w
 |«at» h I=>intro Q E p s b w;rw[Pe]at w ⊢;exact I _ b w
 |load h I=>intro Q E p s b w;rw[Pe]at w ⊢;obtain⟨o,O,w⟩:=w;exact⟨o,O,I _ b w⟩
 | @update a p f k g h I=>
  intro Q E p s b w;rw[Pe]at w ⊢;obtain⟨i,w⟩:=w;refine⟨i,I _ ?_ w⟩;obtain⟨o,O,U⟩:=b;by_cases q:a=e
  ·subst q
   exact⟨f o,Oo _ O<|(g o).2.1 (Heap.get?_some_iff.mp O).2,by rw[(g o).1];exact U⟩
  ·exact⟨o,(Nh _ _ q).trans O,U⟩
 |alloc h I=>intro Q E p s b w;rw[Pe]at w ⊢;obtain⟨o,O,U⟩:=b;exact I _ ⟨o,MF _ O,U⟩ w
 |register=>intro Q E p s b w;rw[Pe]at w;exact w.elim
 |fresh h I=>intro Q E p s b w;rw[Pe]at w ⊢;exact I _ b w
 |ask h I=>intro Q E p s b w;rw[Pe]at w ⊢;exact I _ b w
 |stack h I=>intro Q E p s b w;rw[Pe]at w ⊢;exact I _ b w
 |handled h I=>intro Q E p s b w;rw[Pe]at w ⊢;exact I _ b w
 |point h I=>intro Q E p s b w;rw[Pe]at w ⊢;exact I _ b w
theorem Av{z:Type}{M:DY}{Γ:PySem.Ctx}{e:dy}{t:n0 z}(h:DS t):∀{Q:z->gv->ej->Prop} {E:d9->gv->ej->Prop} {p:gv} {s:ej},oB e s.heap->Pe M Γ t Q E p s->
 Pe M Γ t (λa p' s'=>Q a p' s'/\oB e s'.heap) (λx p' s'=>E x p' s'/\oB e s'.heap) p s:=by
 induction h with
 |pure a=>intro Q E p s b w;rw[Pe]at w ⊢;exact⟨w,b⟩
 |raise x=>intro Q E p s b w;rw[Pe]at w ⊢;exact⟨w,b⟩
 |A6 x=>intro Q E p s b w;rw[Pe]at w;exact w.elim
 |rule h I=>intro Q E p s b w;rw[Pe]at w ⊢;exact I _ b w
 |«at» h I=>intro Q E p s b w;rw[Pe]at w ⊢;exact I _ b w
 |load h I=>intro Q E p s b w;rw[Pe]at w ⊢;obtain⟨o,O,w⟩:=w;exact⟨o,O,I _ b w⟩
 | @update a p f k j h I=>
  intro Q E p s b w;rw[Pe]at w ⊢;obtain⟨l,w⟩:=w;refine⟨l,I _ ?_ w⟩;obtain⟨o,d,O,U,i⟩:=b;by_cases q:a=e
  ·subst q
   obtain⟨g,Y,m⟩:=(j o).2.2 d U;exact⟨f o,g,Oo _ O<|(j o).2.1 (Heap.get?_some_iff.mp O).2,Y,m.trans i⟩
  ·exact⟨o,d,(Nh _ _ q).trans O,U,i⟩
 |alloc h I=>intro Q E p s b w;rw[Pe]at w ⊢;obtain⟨o,d,O,U⟩:=b;exact I _ ⟨o,d,MF _ O,U⟩ w
 |register=>intro Q E p s b w;rw[Pe]at w;exact w.elim
 |fresh h I=>intro Q E p s b w;rw[Pe]at w ⊢;exact I _ b w
 |ask h I=>intro Q E p s b w;rw[Pe]at w ⊢;exact I _ b w
 |stack h I=>intro Q E p s b w;rw[Pe]at w ⊢;exact I _ b w
 |handled h I=>intro Q E p s b w;rw[Pe]at w ⊢;exact I _ b w
 |point h I=>intro Q E p s b w;rw[Pe]at w ⊢;exact I _ b w
theorem lA{z:Type}{M:DY}{A:lp}{e d:dy}{t:n0 z}{Q:z->ej->Prop}{E:EQ}{s:ej}(h:DS t)(J:QQ e d s.heap)(w:wpAny M A t Q E s):
 wpAny M A t (λa s'=>Q a s'/\QQ e d s'.heap) (λx s'=>E x s'/\QQ e d s'.heap) s:=λΓ p I=>FO h J<|w Γ p I
theorem Yg{z:Type}{M:DY}{A:lp}{e:dy}{t:n0 z}{Q:z->ej->Prop}{E:EQ}{s:ej}(h:DS t)(J:oB e s.heap)(w:wpAny M A t Q E s):
 wpAny M A t (λa s'=>Q a s'/\oB e s'.heap) (λx s'=>E x s'/\oB e s'.heap) s:=λΓ p I=>Av h J<|w Γ p I
theorem DS.bind{z β:Type}{t:n0 z}{k:z->n0 β}(h:DS t)(O:∀a,DS<|k a):DS (t >>= k):=by
 show DS (Sem.bind t k)
 induction h with
 |pure a=>exact O a
 |raise x=>exact .raise x
 |A6 x=>exact .A6 x
 |rule h I=>exact .rule I
 |«at» h I=>exact .at I
 |load h I=>exact .load I
 |update b h I=>exact .update b I
 |alloc h I=>exact .alloc I
 |register=>exact .register
 |fresh h I=>exact .fresh I
 |ask h I=>exact .ask I
 |stack h I=>exact .stack I
 |handled h I=>exact .handled I
 |point h I=>exact .point I
theorem JW(g:Array d9->Array d9)(I:∀vs,(g vs)[2]? = vs[2]?)(o:l7):(Obj.mapFields g o).dict=o.dict/\(o.isFreed=dt->(Obj.mapFields g o).isFreed=dt)/\∀vs,o.data=.fields vs->∃z,(Obj.mapFields g o).data=.fields z/\z[2]? = vs[2]? :=by obtain⟨c,d,O,a⟩:=o;cases O<;>first|exact⟨rfl,λh=>h,λvs q=>by cases q;exact⟨_,rfl,I _⟩⟩|exact⟨rfl,λh=>h,λvs q=>nomatch q⟩
theorem Jm(v:d9)(i:Nat):DS (field v i):=by
 unfold field fieldsOf load
 repeat (first|exact DS.A6 _|exact DS.pure _|exact DS.raise _|exact DS.register|refine DS.bind ?_ λ_=>?_|refine DS.load λ_=>?_|refine DS.rule λ_=>?_|refine DS.alloc λ_=>?_|refine DS.stack λ_=>?_|refine DS.update (λo=>⟨rfl,λh=>h,λa q=>⟨a,q,rfl⟩⟩) λ_=>?_|refine DS.update (JW _<|by intro a;simp[OU,w_]) λ_=>?_|split)
theorem v9(v:d9)(i:Nat)(x:d9)(I:i≠2:=by decide):DS (P6 v i x):=by
 unfold P6 updateField update load
 repeat (first|exact DS.A6 _|exact DS.pure _|exact DS.raise _|exact DS.register|refine DS.bind ?_ λ_=>?_|refine DS.load λ_=>?_|refine DS.rule λ_=>?_|refine DS.alloc λ_=>?_|refine DS.stack λ_=>?_|refine DS.update (λo=>⟨rfl,λh=>h,λa q=>⟨a,q,rfl⟩⟩) λ_=>?_|refine DS.update (JW _<|by intro a;simp[OU,I]) λ_=>?_|split)
theorem vj(e:d9)(f:Option dy):DS (UT e f):=by
 unfold UT;refine DS.bind (Jm _ _) λ_=>?_;split
 ·exact v9 _ _ _
 ·exact DS.pure _
theorem Ef(ty:String)(vs:List d9):DS (newFields ty vs):=by
 unfold newFields newObj newObjAsIs
 repeat (first|exact DS.A6 _|exact DS.pure _|exact DS.raise _|exact DS.register|refine DS.bind ?_ λ_=>?_|refine DS.load λ_=>?_|refine DS.rule λ_=>?_|refine DS.alloc λ_=>?_|refine DS.stack λ_=>?_|refine DS.update (λo=>⟨rfl,λh=>h,λvs q=>⟨vs,q,rfl⟩⟩) λ_=>?_|refine DS.update (JW _<|by intro vs;simp[OU,w_]) λ_=>?_|split)
theorem nP(f:dy)(b:Bool):DS (U_ f b):=by
 unfold U_ stack
 repeat (first|exact DS.A6 _|exact DS.pure _|exact DS.raise _|exact DS.register|refine DS.bind ?_ λ_=>?_|refine DS.load λ_=>?_|refine DS.rule λ_=>?_|refine DS.alloc λ_=>?_|refine DS.stack λ_=>?_|refine DS.update (λo=>⟨rfl,λh=>h,λa q=>⟨a,q,rfl⟩⟩) λ_=>?_|refine DS.update (JW _<|by intro a;simp[OU,w_]) λ_=>?_|split)
theorem hV:DS S?:=by
 unfold S?
 repeat (first|exact DS.A6 _|exact DS.pure _|exact DS.raise _|exact DS.register|refine DS.bind ?_ λ_=>?_|refine DS.load λ_=>?_|refine DS.rule λ_=>?_|refine DS.alloc λ_=>?_|refine DS.stack λ_=>?_|refine DS.update (λo=>⟨rfl,λh=>h,λa q=>⟨a,q,rfl⟩⟩) λ_=>?_|refine DS.update (JW _<|by intro a;simp[OU,w_]) λ_=>?_|split)
theorem ia(env:ml)(outer:List ml):DS (behindIsImport env outer):=by
 unfold behindIsImport;split
 ·exact DS.pure _
 ·split
  ·exact DS.pure _
  ·exact DS.bind (Jm _ _) λ_=>DS.pure _
theorem uI(env:ml)(b:Bool)(outer:List ml):DS (keptBack env b outer):=by
 unfold keptBack;split
 ·split
  ·exact DS.pure _
  ·exact DS.bind hV λ_=>DS.pure _
 ·exact DS.pure _
theorem aO:∀l:List ml,DS (readyFrames l)
 |[]=>DS.pure _
 | env::outer=>by
  unfold readyFrames;split
  ·unfold load update
   refine DS.bind (DS.load λ_=>DS.pure _) λo=>?_;split
   ·exact DS.pure _
   ·refine DS.bind (ia _ _) λ_=>DS.bind (uI _ _ _) λ_=>DS.bind (DS.update (λo=>⟨rfl,λh=>by obtain⟨c,d,I,a⟩:=o;cases I<;>exact h,λb q=>⟨b,by obtain⟨c,d,I,a⟩:=o;cases q;rfl,rfl⟩⟩) λ_=>DS.pure _) λ_=>aO outer
  ·exact DS.A6 _
theorem nQ(env:ml):DS (PySem.frameOf env):=by
 unfold PySem.frameOf frameEnvs stack;refine DS.bind (DS.bind (DS.stack λ_=>DS.pure _) λ_=>DS.pure _) λl=>DS.bind ?_ λ_=>?_
 ·unfold frameObject
  split
  ·exact DS.pure _
  ·exact DS.bind (aO _) λ_=>DS.pure _
 ·split
  ·exact DS.pure _
  ·exact DS.A6 _
theorem hU(e:d9)(env:ml):DS (UI e env):=by
 unfold UI;split
 ·refine DS.bind (Jm _ _) λa=>?_
  have I:∀f:dy,∀b:Bool,DS (do P6 e 1 (<-EntryCells.newEntry a (<-PySem.frameOf env) .none (Dm f) .none (<-U_ f b))):=λf b=>by refine DS.bind (nQ _) λ_=>DS.bind (nP _ _) λ_=>?_;unfold EntryCells.newEntry;exact DS.bind (Ef _ _) λ_=>v9 _ _ _
  split
  ·refine DS.bind (Jm _ _) λ_=>?_
   split
   ·exact DS.pure _
   ·exact DS.bind (v9 _ _ _) λ_=>I _ _
  ·exact I _ _
 ·exact DS.A6 _
theorem ZI(env:ml)(e:d9):DS (F5 env e):=by unfold F5;exact DS.bind (hU _ _) λ_=>vj _ _
def p7(od:Option dy)(e:dy)(h:fh):Prop:=(∀d,od=da d->QQ e d h)/\(od=none->oB e h)
theorem p7.obj{od:Option dy}{e:dy}{I g2:fh}(x:p7 od e I)(k:∀o,I.get? e=da o->g2.get? e=da o):p7 od e g2:=
 ⟨λd q=>by obtain⟨o,z,r⟩:=x.1 d q;exact⟨o,k o z,r⟩,λq=>by obtain⟨o,a,z,r⟩:=x.2 q;exact⟨o,a,k o z,r⟩⟩
theorem yZ{J:Type}{M:DY}{A:lp}{e:dy}{od:Option dy}{t:n0 J}{Q:J->ej->Prop}{E:EQ}{s:ej}(h:DS t)(I:p7 od e s.heap)(w:wpAny M A t Q E s):
 wpAny M A t (λa s'=>Q a s'/\p7 od e s'.heap) E s:=by
 cases od with
 |none=>exact Nv (Yg h (I.2 rfl) w) (λa s' z=>⟨z.1,(λd q=>nomatch q),λ_=>z.2⟩) λ_ _ z=>z.1
 |some d=>exact Nv (lA h (I.1 d rfl) w) (λa s' z=>⟨z.1,(λb q=>by cases q;exact z.2),λq=>nomatch q⟩) λ_ _ z=>z.1
section
variable{M:DY}{A:lp}{E:EQ}{s:ej}{base:fh}{env:ml}{l outer:List ml}{L e:dy}{cls a0:d9}{od:Option dy}{Q:Unit->ej->Prop}
theorem Cr(I:A.frames=da (env::outer))(Y:env.frame=da L)(O:Pg base (env::outer) e cls a0 s.heap)(J:p7 od e s.heap)
 (U:∀h',Heap.HeldW base (env::outer) e cls a0 L h'->s.heap.UpToSlots h'->p7 od e h'->Q () {s with heap:=h'}):wpAny M A (UI (.ref e) env) Q E s:=by
 refine Nv (yZ (hU _ _) J<|wpAny_looks_onW (Q:=λ_ a=>∃h',a = {s with heap:=h'}/\Heap.HeldW base (env::outer) e cls a0 L h'/\s.heap.UpToSlots h') I Y O λh' x y=>⟨h',rfl,x,y⟩) (λ_ a z=>?_) λ_ _ z=>z;obtain⟨⟨h',rfl,x,y⟩,w⟩:=z;exact U h' x y w
theorem Cu(I:Heap.HeldW base l e cls a0 L s.heap)(J:p7 od e s.heap)(O:∀h',Pg base l e cls a0 h'->s.heap.UpToSlots h'->p7 od e h'->Q () {s with heap:=h'}):wpAny M A (UT (.ref e) none) Q E s:=by refine Nv (yZ (vj _ _) J<|wpAny_landsW (Q:=λ_ a=>∃h',a = {s with heap:=h'}/\Pg base l e cls a0 h'/\s.heap.UpToSlots h') I λh' x y=>⟨h',rfl,x,y⟩) (λ_ a z=>?_) λ_ _ z=>z;obtain⟨⟨h',rfl,x,y⟩,w⟩:=z;exact O h' x y w
theorem EI(I:Pg base l e cls a0 s.heap)(J:p7 od e s.heap)(O:∀h',Pg base l e cls a0 h'->s.heap.UpToSlots h'->p7 od e h'->Q () {s with heap:=h'}):wpAny M A (UT (.ref e) none) Q E s:=by refine Nv (yZ (vj _ _) J<|lands_againW (Q:=λ_ a=>∃h',a = {s with heap:=h'}/\Pg base l e cls a0 h'/\s.heap.UpToSlots h') I λh' x y=>⟨h',rfl,x,y⟩) (λ_ a z=>?_) λ_ _ z=>z;obtain⟨⟨h',rfl,x,y⟩,w⟩:=z;exact O h' x y w
theorem ug(I:A.frames=da (env::outer))(Y:env.frame=da L)(O:Pg base (env::outer) e cls a0 s.heap)(J:p7 od e s.heap)
 (U:∀h',Pg base outer e cls a0 h'->s.heap.UpToSlots h'->p7 od e h'->Q () {s with heap:=h'}):wpAny M A (F5 env<|.ref e) Q E s:=by
 refine Nv (yZ (ZI _ _) J<|wpAny_leaves_onW (Q:=λ_ a=>∃h',a = {s with heap:=h'}/\Pg base outer e cls a0 h'/\s.heap.UpToSlots h') I Y O λh' x y=>⟨h',rfl,x,y⟩) (λ_ a z=>?_) λ_ _ z=>z;obtain⟨⟨h',rfl,x,y⟩,w⟩:=z;exact U h' x y w
theorem Eb{I:l7}{vs:Array d9}(O:A.frames=da (env::outer))(U:s.heap.FunFrames base (env::outer))(hf:env.frame=da L)(Y:s.heap.get? e=da I)(J:base.StaysIn s.heap)(Z:base.get? e=none)(a3:I.data=.fields vs)
 (h1:vs[1]? = da .none) (h0:vs[0]? = da a0) (hd:p7 od e s.heap) (hQ:∀h',Heap.LeftW base (env::outer) e I.cls a0 s.heap h'->p7 od e h'->Q () {s with heap:=h'}):wpAny M A (F5 env<|.ref e) Q E s:=by
 refine Nv (yZ (ZI _ _) hd<|wpAny_leaving_firstW (Q:=λ_ a=>∃h',a = {s with heap:=h'}/\Heap.LeftW base (env::outer) e I.cls a0 s.heap h') O U hf Y J Z a3 h1 h0 λh' x=>⟨h',rfl,x⟩) (λ_ a z=>?_) λ_ _ z=>z;obtain⟨⟨h',rfl,x⟩,w⟩:=z;exact hQ h' x w
end
end DL
namespace DL
open PySem PySem.Spec PyProof.Rows L2
theorem wK{P:ir}{w:g8}{H:Hp}{h:fh}{a:dy}{o:HO}(x:l8 P w H h a o):∃I,h.get? a=da I:=by
 induction o with
 |lst d=>obtain⟨_,_,_,_,e⟩:=x;exact⟨_,e⟩
 |tup d=>obtain⟨_,_,_,I,e,_⟩:=x;exact⟨_,e⟩
 |dK b=>obtain⟨_,_,_,_,o,_,_,e,_⟩:=x;exact⟨_,e⟩
 |dT b=>obtain⟨_,_,_,_,o,_,_,e,_⟩:=x;exact⟨_,e⟩
 |set S n=>obtain⟨o,_,_,_,e,_⟩:=x;exact⟨_,e⟩
 |ins C g fs=>obtain⟨_,_,_,e,_⟩:=x;exact⟨_,e⟩
 |own y=>obtain⟨_,e⟩:=x;exact⟨_,e⟩
 |xd fs=>obtain⟨_,⟨_,_,_,e,_⟩,_⟩:=x;exact⟨_,e⟩
 |n7 lo i=>obtain⟨_,_,_,e⟩:=x;exact⟨_,e⟩
 |rb I u _=>obtain⟨e,_⟩:=x;exact⟨_,e⟩
 |D5 j=>exact⟨_,(show h.get? a=da _ from x)⟩
 |met f y=>exact⟨_,(show h.get? a=da _ from x)⟩
 |ext k=>obtain⟨_,⟨_,e⟩,_⟩:=x;exact⟨_,e⟩
theorem yL{P:ir}{w:g8}{H:Hp}{h h':fh}(x:md P w H h)(k:∀b u,H b≠none->h.get? b=da u->h'.get? b=da u):md P w H h':=λa o e=>
 (x a o e).A5 (λb u I q=>k b u (by
   rcases I with rfl|I
   ·rw[e];simp
   ·rw[I];simp) q) (λ_ q=>q) λ_ _ q=>q
theorem uw{P:ir}{w:g8}{H:Hp}{h:fh}{a:dy}{z:fh->Prop}(x:md P w H h)(J:H a=none)(L:z h)(Y:∃o,h.get? a=da o)
 (U:∀I g2:fh,z I->(∀o,I.get? a=da o->g2.get? a=da o)->z g2):md P w (upd H a<|.ext z) h:=λb o e=>by
 by_cases O:b=a
 ·subst O;rw[zM]at e;cases e;exact⟨L,Y,U⟩
 ·rw[zK O]at e
  exact(x b o e).A5 (λ_ _ _ q=>q) (λc q=>by rw[zK (jy q J)];exact q) λc d q=>by rw[zK (jy q J)];exact q
structure _x(l:List ml)(a C:dy)(H':Hp)(h0 h:fh):Prop where
 ex:∃B t,Pg B l a (.ref C) (.ref t) h/\(∀b o,h.get? b=da o->H' b≠none->B.get? b=da o)/\∀b o,h.get? b=da o->h0.get? b≠none->b∉n5 l->B.get? b=da o
noncomputable def p5(P:ir)(w:g8):wo:=λb H s E e d=>∃a C f g,e=.ref a/\E (.ref C) g f/\p7 g a d.heap/\d.os=s.os/\Dp d.gens/\Un (n5 b) [] H f s.heap d.heap/\md P w f d.heap/\f a=none/\s.heap.get? a=none/\_x b a C f s.heap d.heap
section
variable{P:ir}{w:g8}{K:MC}{mg:UZ}{base:fh}{N:List Str}{qual:Str}{scope:h7}{f:dy}{cd:d9}{A:lp}{outer:List ml}{s:ej}{H:Hp}{E:XK}
theorem cG{Z:UQ}{σ:St}{L:Hp}{J:ej}{h':fh}{a C:dy}{vs:List d9}(I:Inv (Vr (p5 P w) P w K mg base N qual scope f cd A outer s H E) Z σ L J)
 (hx:Heap.MadeExcOf J.heap h' a (.ref C) vs) (hE:E (.ref C) none L):(Vr (p5 P w) P w K mg base N qual scope f cd A outer s H E).xe (.ref a) {J with heap:=h'}:=by
 generalize U:Vr (p5 P w) P w K mg base N qual scope f cd A outer s H E=X at I;have B:X.stack=X.env::X.outer:=by rw[<-U];rfl
 have T:X.env.frame=da X.env.locals:=by rw[<-U];rfl
 have j:X.ex=[]:=by rw[<-U];rfl
 have as:=I.stack;have DQ:=I.M6;have ax:∀env∈X.stack,∀b,env.frame=da b->b∈n5 X.stack:=λenv he b O=>So.mpr ⟨env,he,O⟩;have p:∀b o,X.i6.heap.get? b=da o->∃g,J.heap.get? b=da g:=λb o q=>I.base.there b o q (by rw[j];simp);have b9:∀b o,X.i6.heap.get? b=da o->b≠X.env.locals:=λb o q=>MZ<|MX (MR q) I.ok.above;have a6:∀b o,X.i6.heap.get? b=da o->b∉X.fs->b∉n5 X.stack:=λb o q n i=>by
  rcases MQ.mp (I.M7 b i)with z|z
  ·exact b9 b o q z
  ·exact n z
 have G:wpAny (eF P w) X.A (F5 X.env<|.ref a) (λ_ Y=>p5 P w outer H s E (.ref a) Y) (λr Y=>p5 P w outer H s E r Y) {J with heap:=h'}:=by
  have f2:oB a h':=by obtain⟨t,q,_⟩:=hx.there;exact⟨_,_,q,rfl,rfl⟩
  refine Nv (Yg (e:=a) (s:={J with heap:=h'}) (ZI X.env<|.ref a) f2 (Q:=λ_ Y=>oB a Y.heap->p5 P w outer H s E (.ref a) Y) (E:=λr Y=>p5 P w outer H s E r Y) ?_) (λ_ _ z=>z.1 z.2) λ_ _ z=>z.1;refine wpAny_leaves_madeW (base:=RO J.heap<|n5 X.stack) (h:=J.heap) (env:=X.env) (outer:=X.outer) (by rw[<-B];exact I.ok.frames) T (λb o q=>Tn _ q)
   (by rw[<-B];exact PySem.W.funFrames_hide as ax) hx λbd t x1 x2 x3 S be=>?_
  have Dk:∀b o,J.heap.get? b=da o->b∉n5 X.stack->bd.get? b=da o:=λb o q n=>x1.1 b o<|PY _ q n;have e1:X.outer=outer:=by rw[<-U];rfl
  have e2:X.DV=H:=by rw[<-U];rfl
  have e3:X.i6=s:=by rw[<-U];rfl
  have e4:X.prog=P:=by rw[<-U];rfl
  have e5:X.w=w:=by rw[<-U];rfl
  have R:∀b u,L b=da u->∃o,J.heap.get? b=da o:=λb u q=>wK<|I.ft b u q;have ae:∀b u,L b=da u->b∉n5 X.stack:=λb u q i=>by rw[DQ b i]at q;cases q
  have bm:L a=none:=by
   cases q:L a with
   |none=>rfl
   |some u=>obtain⟨o,z⟩:=R a u q;rw[hx.new]at z;cases z
  have bn:X.i6.heap.get? a=none:=by
   cases q:X.i6.heap.get? a with
   |none=>rfl
   |some o=>obtain⟨g,z⟩:=p a o q;rw[hx.new]at z;cases z
  rw[<-e3]at *;rw[<-e2]at *;subst e1;refine⟨a,C,L,none,rfl,hE,⟨(λd q=>nomatch q),λ_=>be⟩,?_,I.bare,⟨λb o q n O _=>?_,λb o q n O _=>?_,λb o q n _=>?_,λb o q _=>?_,I.base.vl,I.base.wa,I.base.u9⟩,?_,bm,bn,⟨_,t,x1,λb o q n=>?_,λb o q n O=>?_⟩⟩
  ·exact I.os
  ·exact Dk b o (I.base.keep b o q n O<|by rw[j];simp)<|a6 b o q O
  ·obtain⟨sl,z⟩:=I.base.slot b o q n O (by rw[j];simp)
   have k:∀vs,o.data ≠ .fields vs:=by obtain⟨_,g,m,y⟩:=I.ok.q7.mem O;rw[q]at m;cases m;exact y
   obtain⟨F,x⟩:=S b _ (hx.keeps b _ z) k;exact⟨F,x⟩
  ·exact I.base.free b o q n (by rw[j];simp)
  ·obtain⟨g,z⟩:=p b o q
   by_cases O:b∈X.fs
   ·obtain⟨_,l,m,y⟩:=I.q7.mem O
    obtain⟨F,x⟩:=S b _ (hx.keeps b _ m) y;exact⟨_,x⟩
   ·exact⟨g,Dk b g z<|a6 b o q O⟩
  ·rw[<-e4,<-e5]
   exact yL I.ft λb u n q=>Dk b u q λi=>n<|DQ b i
  ·cases q1:L b with
   |none=>exact absurd q1 n
   |some u=>
    obtain⟨l,z⟩:=R b u q1;have:=Dk b l z<|ae b u q1;rw[q]at this;cases this;exact PY _ z<|ae b u q1
  ·cases q1:X.i6.heap.get? b with
   |none=>exact absurd q1 n
   |some M=>
    obtain⟨l,z⟩:=p b M q1;have k:=a6 b M q1 O;have:=Dk b l z k;rw[q]at this;cases this;exact PY _ z k
 rw[<-U]at G ⊢;exact G
theorem Wb{J:UQ}{σ:St}{Z:Hp}{L s':ej}{e:d9}{E':XK}(I:Inv (Vr (p5 P w) P w K mg base N qual scope f cd A outer s H E) J σ Z L)
 (hx:p5 P w (Vr (p5 P w) P w K mg base N qual scope f cd A outer s H E).stack Z L E' e s') (hE:∀c o H',E' c o H'->E c o H'):(Vr (p5 P w) P w K mg base N qual scope f cd A outer s H E).xe e s':=by
 generalize hX:Vr (p5 P w) P w K mg base N qual scope f cd A outer s H E=X at I hx;have x:X.stack=X.env::X.outer:=by rw[<-hX];rfl
 have S:X.env.frame=da X.env.locals:=by rw[<-hX];rfl
 have Y:X.ex=[]:=by rw[<-hX];rfl
 have DQ:=I.M6;have i:∀b o,X.i6.heap.get? b=da o->∃k,L.heap.get? b=da k:=λb o q=>I.base.there b o q (by rw[Y];simp);have T:∀b o,X.i6.heap.get? b=da o->b≠X.env.locals:=λb o q=>MZ<|MX (MR q) I.ok.above;have a6:∀b o,X.i6.heap.get? b=da o->b∉X.fs->b∉n5 X.stack:=λb o q n hm=>by
  rcases MQ.mp (I.M7 b hm)with z|z
  ·exact T b o q z
  ·exact n z
 obtain⟨a,C,H',od,rfl,hC,W,bd,be,un,ft,bf,bg,⟨B,t,y,ak,a9⟩⟩:=hx;have F:wpAny (eF P w) X.A (F5 X.env<|.ref a) (λ_ p=>p5 P w outer H s E (.ref a) p) (λe' p=>p5 P w outer H s E e' p) s':=by
  rw[x]at y;refine ug (by rw[<-x];exact I.ok.frames) S y W λbl x1 M bm=>?_;have st:∀b o,B.get? b=da o->bl.get? b=da o:=λb o q=>x1.1 b o q;have e1:X.outer=outer:=by rw[<-hX];rfl
  have e2:X.DV=H:=by rw[<-hX];rfl
  have e3:X.i6=s:=by rw[<-hX];rfl
  have tr:∀b u,H' b=da u->∃o,s'.heap.get? b=da o:=λb u q=>wK<|ft b u q;have bv:X.i6.heap.get? a=none:=by
   cases q:X.i6.heap.get? a with
   |none=>rfl
   |some o=>obtain⟨k,z⟩:=i a o q;rw[bg]at z;cases z
  rw[<-e3]at *;rw[<-e2]at *;subst e1;refine⟨a,C,H',od,rfl,hE _ _ _ hC,bm,?_,be,⟨λb o q n O _=>?_,λb o q n O _=>?_,λb o q n _=>?_,λb o q _=>?_,λb Q q=>un.vl b Q<|I.base.vl b Q q,λb o u q=>un.wa b o u<|I.base.wa b o u q,λb ps q=>?_⟩,?_,bf,bv,⟨B,t,x1,λb o q n=>?_,λb o q n O=>?_⟩⟩
  ·exact bd.trans I.os
  ·have j:=I.base.keep b o q n O (by rw[Y];simp)
   have k2:=un.keep b o j (I.base.free b o q n<|by rw[Y];simp) (a6 b o q O) ⋯;exact st b o<|a9 b o k2 (by rw[j];simp)<|a6 b o q O
  ·obtain⟨sl,z⟩:=I.base.slot b o q n O (by rw[Y];simp)
   have r:∀vs,o.data ≠ .fields vs:=by obtain⟨_,k,l,U⟩:=I.ok.q7.mem O;rw[q]at l;cases l;exact U
   obtain⟨c0,U⟩:=un.any z (I.base.free b o q n<|by rw[Y];simp) ⋯;obtain⟨c1,z'⟩:=M b _ U r;exact⟨c1,z'⟩
  ·obtain⟨d,j⟩:=i b o q
   exact un.free b d j (I.base.free b o q n<|by rw[Y];simp) ⋯
  ·obtain⟨d,z⟩:=i b o q
   obtain⟨h,U⟩:=un.there b d z ⋯;by_cases O:b∈X.fs
   ·obtain⟨_,k,R,y2⟩:=I.ok.q7.mem O
    rw[q]at R;cases R;obtain⟨sl,g⟩:=I.base.any q (I.ok.B9 b O) (by rw[Y];simp);obtain⟨c0,m⟩:=un.any g (I.base.free b o q (I.ok.B9 b O)<|by rw[Y];simp) ⋯;obtain⟨c7,z5⟩:=M b _ m y2;exact⟨_,z5⟩
   ·exact⟨h,st b h<|a9 b h U (by rw[z];simp)<|a6 b o q O⟩
  ·obtain⟨m1,l⟩:=I.base.u9 b ps q
   obtain⟨m2,U⟩:=un.u9 b _ l;exact⟨m1++m2,by rw[U,Array.append_assoc]⟩
  ·exact yL ft λb u n q=>st b u<|ak b u q n
  ·cases q1:H' b with
   |none=>exact absurd q1 n
   |some u=>
    obtain⟨d,z⟩:=tr b u q1;have U:=ak b d z (by rw[q1];simp);have g:=st b d U;rw[q]at g;cases g;exact U
  ·cases q1:X.i6.heap.get? b with
   |none=>exact absurd q1 n
   |some G=>
    obtain⟨d,z⟩:=i b G q1;obtain⟨h,U⟩:=un.there b d z ⋯;have r:=a6 b G q1 O;have g:=a9 b h U (by rw[z];simp) r;have m:=st b h g;rw[q]at m;cases m;exact g
 rw[<-hX]at F ⊢;exact F
theorem cH{pins:UQ}{σ:St}{L:Hp}{J:ej}{a C d t:dy}{Z:fh->Prop}(I:Inv (Vr (p5 P w) P w K mg base N qual scope f cd A outer s H E) pins σ L J)
 (u?:L a=da (.ext Z)) (he:J.heap.get? a=da (IT C (da d) t)) (hs:s.heap.get? a=none) (hE:E (.ref C) (da d) (λb=>if b=a then none else L b)):(Vr (p5 P w) P w K mg base N qual scope f cd A outer s H E).xe (.ref a) J:=by
 generalize U:Vr (p5 P w) P w K mg base N qual scope f cd A outer s H E=X at I;have M:X.stack=X.env::X.outer:=by rw[<-U];rfl
 have bb:X.env.frame=da X.env.locals:=by rw[<-U];rfl
 have i:X.ex=[]:=by rw[<-U];rfl
 have bd:=I.stack;have y:=I.M6;have be:∀env∈X.stack,∀b,env.frame=da b->b∈a::n5 X.stack:=λenv he b O=>Ng _<|So.mpr ⟨env,he,O⟩;have Q:∀b o,X.i6.heap.get? b=da o->∃h,J.heap.get? b=da h:=λb o q=>I.base.there b o q (by rw[i];simp);have bf:∀b o,X.i6.heap.get? b=da o->b≠X.env.locals:=λb o q=>MZ<|MX (MR q) I.ok.above;have a8:∀b o,X.i6.heap.get? b=da o->b∉X.fs->b∉n5 X.stack:=λb o q n x=>by
  rcases MQ.mp (I.M7 b x)with z|z
  ·exact bf b o q z
  ·exact n z
 have e1:X.outer=outer:=by rw[<-U];rfl
 have e2:X.DV=H:=by rw[<-U];rfl
 have e3:X.i6=s:=by rw[<-U];rfl
 have e4:X.prog=P:=by rw[<-U];rfl
 have e5:X.w=w:=by rw[<-U];rfl
 have off:∀b o,L b=da o->(∀Z,o ≠ .ext Z)->(if b=a then none else L b)=da o:=λb o q z=>by rw[UY (λw=>by rw[w,u?]at q;cases q;exact z _ rfl),q]
 have R:X.i6.heap.get? a=none:=by rw[e3];exact hs
 have bm:md X.prog X.w (λb=>if b=a then none else L b) J.heap:=λb o q=>by
  have q:(if b=a then none else L b)=da o:=q;by_cases O:b=a
  ·rw[UJ O]at q;cases q
  ·rw[UY O]at q
   exact(I.ft b o q).A5 (λ_ _ _ z=>z) (λc z=>off c _ z<|λZ w=>nomatch w) λc xs z=>off c _ z<|λZ w=>nomatch w
 have go:wpAny (eF P w) X.A (F5 X.env<|.ref a) (λ_ r=>p5 P w outer H s E (.ref a) r) (λe' r=>p5 P w outer H s E e' r) J:=by
  have S:(RO J.heap (a::n5 X.stack)).get? a=none:=PySem.W.hideAll_none _ ⋯;refine Eb (od:=da d) (base:=RO J.heap (a::n5 X.stack)) (env:=X.env) (outer:=X.outer) (a0:=.ref t) (by rw[<-M];exact I.ok.frames) (by rw[<-M];exact PySem.W.funFrames_hide bd be) bb he (λb o q=>Tn _ q) S rfl rfl rfl
   ⟨(λd' q=>by cases q;exact⟨_,he,rfl⟩),λq=>nomatch q⟩ λbr hL bv=>?_
  obtain⟨k1,⟨_,_,k2⟩,k3,x4⟩:=hL;have Dk:∀b o,J.heap.get? b=da o->b≠a->b∉n5 X.stack->(RO J.heap (a::n5 X.stack)).get? b=da o:=λb o q e g=>PY _ q (by simp[e];exact g);have Y:∀b o,J.heap.get? b=da o->b≠a->b∉n5 X.stack->br.get? b=da o:=λb o q e g=>k1 b o<|Dk b o q e g;rw[<-e3]at *;rw[<-e2]at *;subst e1;have na:∀b o,X.i6.heap.get? b=da o->b≠a:=λb o q z=>by rw[z,R]at q;cases q
  have B:∀b,(if b=a then none else L b)≠none->b≠a/\b∉n5 X.stack/\∃o,J.heap.get? b=da o:=λb n=>by
   by_cases O:b=a
   ·rw[UJ O]at n;exact absurd rfl n
   ·rw[UY O]at n
    cases q:L b with
    |none=>exact absurd q n
    |some u=>exact⟨O,(λx=>by rw[y b x]at q;cases q),wK<|I.ft b u q⟩
  refine⟨a,C,_,da d,rfl,hE,bv,I.os,I.bare,⟨λb o q n O _=>?_,λb o q n O _=>?_,λb o q n _=>?_,λb o q _=>?_,λb xs q=>off b _ (I.base.vl b xs q)<|λZ w=>(nomatch w),λb o u q=>off b _ (I.base.wa b o u q)<|λZ w=>(nomatch w),λb ps q=>?_⟩,?_,UJ rfl,R,⟨_,t,⟨k1,S,k2,k3⟩,λb o q n=>?_,λb o q n O=>?_⟩⟩
  ·exact Y b o (I.base.keep b o q n O<|by rw[i];simp) (na b o q)<|a8 b o q O
  ·obtain⟨sl,z⟩:=I.base.slot b o q n O (by rw[i];simp)
   have j:∀vs,o.data ≠ .fields vs:=by obtain⟨_,h,p,G⟩:=I.ok.q7.mem O;rw[q]at p;cases p;exact G
   obtain⟨T,F⟩:=x4 b _ z j;exact⟨T,F⟩
  ·rw[UY (na b o q)];exact I.base.free b o q n (by rw[i];simp)
  ·obtain⟨h,z⟩:=Q b o q
   by_cases O:b∈X.fs
   ·obtain⟨_,l,p,G⟩:=I.q7.mem O
    obtain⟨T,F⟩:=x4 b _ p G;exact⟨_,F⟩
   ·exact⟨h,Y b h z (na b o q)<|a8 b o q O⟩
  ·obtain⟨m,z⟩:=I.base.u9 b ps q
   exact⟨m,off b _ z<|λZ w=>nomatch w⟩
  ·rw[<-e4,<-e5]
   exact yL bm λb u n q=>Y b u q (B b n).1 (B b n).2.1
  ·obtain⟨e,g,l,z⟩:=B b n
   have:=Y b l z e g;rw[q]at this;cases this;exact Dk b o z e g
  ·cases q1:X.i6.heap.get? b with
   |none=>exact absurd q1 n
   |some k=>
    obtain⟨l,z⟩:=Q b k q1;have j:=a8 b k q1 O;have:=Y b l z (na b k q1) j;rw[q]at this;cases this;exact Dk b o z (na b k q1) j
 rw[<-U]at go ⊢;exact go
end
def HA(o:l7):Option ClassData:=match o.data with
 |.cls a=>da a
 |_=>none
noncomputable def FN(K:MC)(C:dy):Bool:=match K.lookup C with
 |some o=>o.cls==OP "type"&&o.slots.size==6&&(o.slots.toList.drop 4).take 1 == [da (Value.builtin "ValueError.__new__")]&&(match HA o with
  |some a=>a.mro.take 1 == [Nw C]&&!a.hasDel&&PySem.W.tailIn K j_ (a.mro.drop 1)&&PySem.W.nsOkIn K a.ns&&RY K a.ns "__init__" == da none
  |none=>dt)
 |none=>dt
theorem AU{z:Type}{l:List z}{a:z}(h:l.length=6)(e:(l.drop 4).take 1=[a]):∃I b1 b2 b3 b5,l=[I,b1,b2,b3,a,b5]:=by
 cases l with
 |nil=>cases h
 | cons I l=>cases l with
  |nil=>cases h
  | cons b1 l=>cases l with
   |nil=>cases h
   | cons b2 l=>cases l with
    |nil=>cases h
    | cons b3 l=>cases l with
     |nil=>cases h
     | cons b4 l=>cases l with
      |nil=>cases h
      | cons b5 l=>cases l with
       |nil=>
        cases e;exact⟨I,b1,b2,b3,b5,rfl⟩
       |cons b6 l=>simp at h
theorem Cg{z:Type}{l:List z}{a:z}(e:l.take 1=[a]):l=a::l.drop 1:=by
 cases l with
 |nil=>cases e
 |cons b l=>cases e;rfl
structure XC(K:MC)(mg:UZ)(c:Str):Prop where
 all:WE K=dj
 mem:c∈uQ
 ex:∃C,QS K c=da C/\mg c=da (.ref C)/\FN K C=dj
noncomputable def YW(c:Xn)(od:Option dy)(H0:Hp):Prop:=match c.2 with
 |none=>od=none
 |some i=>∃d,od=da d/\H0 d=da (.xd [(Mi c.1,.int i)])
noncomputable def XW(X:Cx)(U z:Hp)(c:Xn):Prop:=(∀(f:UQ) (O:St) (g I:Hp) (h:ej) (k:fh) (a C:dy) (o:List d9),Inv X f O g h->Ext U z I g->WE X.K=dj->c.1∈uQ->QS X.K c.1=da C->c.2=none->
 Heap.MadeExcOf h.heap k a (.ref C) o->X.xe (.ref a) {h with heap:=k})/\
 (∀(f:UQ) (O:St) (g I:Hp) (h:ej) (e:d9) (l:ej),Inv X f O g h->Ext U z I g->
   p5 X.prog X.w X.stack g h (λj n m=>∃C i,j=.ref C/\WE X.K=dj/\c.1∈uQ/\QS X.K c.1=da C/\YW c n i/\Ext I g i m) e l->X.xe e l)/\
 ∀(f:UQ) (O:St) (g I:Hp) (h:ej) (a C d t:dy) (p:fh->Prop),Inv X f O g h->g a=da (.ext p)->h.heap.get? a=da (IT C (da d) t)->(X.ex=[]->X.i6.heap.get? a=none)->
  Ext U z I (λb=>if b=a then none else g b)->WE X.K=dj->c.1∈uQ->QS X.K c.1=da C->YW c (da d) I->X.xe (.ref a) h
noncomputable def Px(X:Cx)(st:i7)(G:CO Xn):Prop:=∀(a:UQ) (s:ej) (e:St) (H I b f:Hp) (d:Ctx) (c:Xn),Inv X a e H s->RS X.K I b f H e d->G d=da c->XW X I b c->
 wpAny (eF X.prog X.w) X.A (exec st X.env) (λ_ _=>False) X.xe s
noncomputable def E5(X:Cx)(z:List i7)(G:CO Xn):Prop:=∀(a:UQ) (s:ej) (e:St) (H I b f:Hp) (d:Ctx) (c:Xn),Inv X a e H s->RS X.K I b f H e d->G d=da c->XW X I b c->
 wpAny (eF X.prog X.w) X.A (execs z X.env) (λ_ _=>False) X.xe s
section
variable{X:Cx}{sc:h7}{N L:List Str}{k:Nat}{st:i7}{yS:List i7}{G G':CO Xn}{F:CO Fl}
theorem SX.ov(h:SX X sc N L k)(E:EQ):SX (X.ov E) sc N L k:=⟨h.Di,h.eN,h.nd,h.calm,h.room,h.fn⟩
theorem GB:Px X st C6:=λa s g H O b d f c I U e _=>by cases e
theorem oS{z:List i7}:E5 X z C6:=λa s g H O b d f c I U e _=>by cases e
theorem vX{yS:List i7}(h:Px X st G):E5 X (st::yS) G:=λa s g H O b d f c I U e w=>
 Rj (Nv (h a s g H O b d f c I U e w) (λ_ _ z=>z.elim) λ_ _ z=>z)
theorem W6(J:Px X st G)(Z:o8 X.rh st F)(h3:E5 X yS G'):E5 X (st::yS) (oC G F G'):=λb s m H O h k j c I l e w=>by
 unfold oC at e;cases q:G j with
 |some t=>
  rw[q]at e;cases e;exact vX J b s m H O h k j c I l q w
 | none=>
  rw[q]at e;obtain⟨p,o,U⟩:=zh e;cases p with
  | next d=>
   have U:G' d=da c:=U;refine Rj<|Nv (Z b s m H {nx:=λg i=>∃a,RS X.K O h a i g d,rt:=λ_ _=>False} (I.ov _) ⟨O,h,k,j,.next d,l,o,λg i a Y=>⟨a,Y⟩⟩) (λf r z=>?_) λ_ _ z=>z.elim;cases f with
   |next=>
    obtain⟨g,i,n,a,Y⟩:=z;exact h3 b r g i O h a d c n.s9 Y U w
   |ret v=>obtain⟨_,_,_,_,_,z⟩:=z;exact z.elim
   |brk=>obtain⟨_,_,_,z⟩:=z;exact z.elim
   |cont=>obtain⟨_,_,_,z⟩:=z;exact z.elim
  |_=>cases U
theorem Bo{J:CO Bool}{c:eK}{x y:List i7}{pos:gv}(hc:ow X.rh c J)(Z:E5 X x G)(hb:E5 X y G'):Px X (.If c x y pos) (tu J G G'):=λa s g H Y h j f n I U e w=>by
 obtain⟨t,p,O⟩:=zh e;refine wpAny_If<|Nv (hc a s g H (λb i=>b=t/\∃d,Ext j H d i) (I.ov _) ⟨j,f,t,U.rc,p,λi d x=>⟨rfl,d,x⟩⟩) (λb o z=>?_) λ_ _ z=>z.elim;obtain⟨k,l,rfl,m,x1⟩:=z;cases b with
 |true=>rw[UJ rfl]at O;exact Z a o g k Y h m f n l.s9 (U.step x1) O w
 |false=>rw[UY Nd]at O;exact hb a o g k Y h m f n l.s9 (U.step x1) O w
theorem W7{a:eK}{f:CO D}{c:Str}{np cpos pos:gv}(h:SX X.rh sc N L k)(hc:kW sc c=dj)(x:XC X.K X.mg c)(ha:PV X.rh a f)(hf:∀γ,∃d,f γ=da d:=by intro γ;exact⟨_,rfl⟩)
 (hs:fA [a] X.env=[(dt,eA a X.env)]:=by rfl):Px X (.Raise (da (.Call (.Name c np) [a] [] cpos)) none pos) (iZ c):=λi s σ H F0 F1 Q γ cc I rs e w=>by
 cases e;obtain⟨C,x1,x2,x3⟩:=x.ex;have P:=PySem.F.excBase_ValueError;have hh:X.A.handled=none:=I.ok.hd (show X.calm=dj from h.calm);have T:=h.gl hc;obtain⟨d,j⟩:=hf γ;have KI:=I.m3;have cls:∃nm q N bs bm hdct sn sub ab col dd k0 k1 k2 k3 k5,X.K.lookup C=da (excClassObj nm q C N bs bm hdct sn sub ab col dd k0 k1 k2 k3 k5 "ValueError.__new__")/\PySem.W.tailIn X.K j_ bm=dj/\PySem.W.nsOkIn X.K N=dj/\RY X.K N "__init__" = da none:=by
  unfold FN at x3;cases t:X.K.lookup C with
  |none=>rw[t]at x3;cases x3
  | some o=>
   rw[t]at x3;obtain⟨oc,dd,G,J⟩:=o;simp only[MO,beq_iff_eq]at x3;obtain⟨⟨⟨y1,y2⟩,y3⟩,U⟩:=x3;subst y1;obtain⟨k0,k1,k2,k3,k5,hs⟩:=AU (by simpa using y2) y3;cases j:HA ⟨.type "type",dd,G,J⟩with
   |none=>rw[j]at U;cases U
   | some cd=>
    rw[j]at U;have bd:G=.cls cd:=by
     unfold HA at j;cases G with
     |cls c2=>cases j;rfl
     |_=>cases j
    subst bd;simp only[MO,beq_iff_eq,OO]at U;obtain⟨⟨⟨⟨y5,Z⟩,n⟩,b⟩,p⟩:=U;obtain⟨nm,bs,be,ns,qn,bg,sn,sub,ab,col,c3⟩:=cd;dsimp only at y5 Z n b p;subst Z;have bi:J = #[k0,k1,k2,k3,da (.builtin "ValueError.__new__"),k5]:=by obtain⟨l⟩:=J;simp only at hs;rw[hs]
    subst bi;have r:=Cg y5;generalize be.drop 1=bm at r n;subst r;exact⟨nm,qn,ns,bs,bm,bg,sn,sub,ab,col,dd,k0,k1,k2,k3,k5,rfl,n,b,p⟩
 obtain⟨nm,q,O,bs,bm,hdct,sn,sub,ab,col,dd,k0,k1,k2,k3,k5,t,n,b,p⟩:=cls;have S:∀{g:fh},X.K.In g->OwnTail g j_ bm:=λY=>PySem.W.tail_of_in Y n;refine wpAny_Raise_call_subT (C:=C) (nm:=nm) (q:=q) (N:=O) (bs:=bs) (bm:=bm) (hdct:=hdct) (sn:=sn) (sub:=sub) (ab:=ab) (col:=col) (dd:=dd) (k0:=k0) (k1:=k1) (k2:=k2) (k3:=k3) (k5:=k5)
  P (mN:=X.base.nsMap O) ((S KI).hasType P.hasBase) hh (by rw[hs];rfl) (PySem.W.nsMap_none_of_in I.ok.mod.L9 b p) (v7 I (show Gl X c from T.1) x2 ⟨rfl,?_⟩ T.2.2)
 have bl:PA X.rh [a] _:=jr ha qd (show fA [a] X.rh.env=[(dt,eA a X.rh.env)]from hs);have key:=bl cpos i s σ H (λvs B=>∃v,vs=[v]/\∃E,Ext Q H E B) (I.ov _) ⟨Q,γ,d,rs.rc,j,λv H' y M zaa=>⟨v,rfl,y,M⟩⟩;rw[hs];rw[show fA [a] X.rh.env=[(dt,eA a X.env)]from hs]at key;refine Calls.evalArgs_plain<|Nv key (λus s2 hZ=>?_) λ_ _ z=>z.elim;obtain⟨vs,B,m,rv,v,ev,E,M⟩:=hZ;subst ev;obtain⟨u,rfl,ru⟩:=yA rv;have m:=m.s9;have R:=m.m3;have n1:X.base.Ns O (X.base.nsMap O):=.of_isNs (PySem.W.isNs_of_in I.ok.mod.L9 b);have bv:s2.heap.Ns O (X.base.nsMap O):=n1.keeps m.bk;exact⟨rfl,by show 1<=fy;decide,R _ _ t,bv,S R,λh' e r=>w.1 i σ B E s2 h' e C _ m (rs.ext.trans M) x.all x.mem x1 rfl r⟩
end
noncomputable def U1(K:MC)(n:Nat)(G:List D->Option Xn):Sp:=λg H _ E=>∃b d c,g5 b H/\ec K b d g/\d.length=n/\G d=da c/\
 ∀C e a f,WE K=dj->c.1∈uQ->QS K c.1=da C->YW c f a->Ext b H a e->E (.ref C) f e
theorem U1.len{K:MC}{n:Nat}{G:List D->Option Xn}{ps:List Str}(z:ps.length=n):∀vs H Q E,U1 K n G vs H Q E->vs.length=ps.length:=λvs H Q E h=>by obtain⟨d,e,c,_,a,b,_⟩:=h;rw[a.length,b,z]
structure DU(P:ir)(w:g8)(K:MC)(mg:UZ)(base:fh)(k:Nat)(x:Str)(n:Nat)(G:List D->Option Xn):Prop where
 ex:∃(f:dy) (fd:sa) (ps:List Str),ps.length=n/\r9 P w K mg base (p5 P w) k f fd ps (U1 K ps.length G)/\mg x=da (.ref f)/\Rx K (.ref f)=dj/\Binds K fd ps []
theorem nI{P:ir}{w:g8}{K:MC}{J:UZ}{base:fh}{x:Str}{st:i7}{N ps:List Str}{k:Nat}{G:CO Xn}(A:gB K J x st ps)(hd:cV N ps st=dj)
 (a9:∀X:Cx,X.prog=P->X.w=w->X.K=K->X.mg=J->X.base=base->SX X (jB st) N N k->E5 X (kO st) G):DU P w K J base (k+1) x ps.length (W1 N.length G):=by
 obtain⟨f,fd,F,hb,hm⟩:=A.ex;have S:=Jg hd;have bf:ps.length<=N.length:=by have:=congrArg Ts S.pre;rw[Rc]at this;omega
 refine⟨f,fd,ps,rfl,?_,hm,F.kp,.all hb⟩;obtain⟨oc,T,kV,doc,pm,an,n_,ct,UM,rfl,lk,ab⟩:=F.ex;refine Ea lk ab S (U1.len rfl) λA p s H vs Q E hr ae=>⟨λ_ Z g=>Z=QW N vs/\g=H,λh s1 Z M D I n=>?_,rfl,rfl⟩;obtain⟨rfl,rfl⟩:=n;obtain⟨L,ds,c,s0,h1,h2,h3,h4⟩:=ae;refine Nv (a9 _ rfl rfl rfl rfl rfl ⟨rfl,rfl,S.nd,rfl,hr,λ_ _=>.inl rfl⟩ h s1 _ M L M L (z9 N.length ds) c I (W2 s0 h1 ⋯) h3 ⟨λR i j O W h' a C us U Y r y u B m=>?_,λR i j O W e s' U Y m=>?_,λR i j O W a C d t φ U y1 y2 y3 Y r y u B=>?_⟩) (λ_ _ z=>z.elim) λ_ _ z=>z
 ·exact cG U m<|h4 C j O none r y u (by unfold YW;rw[B]) Y
 ·refine Wb (E':=λl T g=>∃C b,l=.ref C/\WE K=dj/\c.1∈uQ/\QS K c.1=da C/\YW c T b/\Ext O j b g) U m λcc o g z=>?_
  obtain⟨C,b,rfl,z1,z2,z3,z4,z5⟩:=z;exact h4 C g b o z1 z2 z3 z4<|Y.trans z5
 ·exact cH U y1 y2 (y3 rfl)<|h4 C _ O (da d) r y u B Y
section
variable{X:Cx}{sc:h7}{N L:List Str}{k j n:Nat}{e:eK}{es:List eK}{g:CO (List D)}{G:List D->Option Xn}{x:Str}{p pos:gv}
noncomputable def As(X:Cx)(z:UQ)(J:St)(H0 H:Hp)(I:Xn)(e:d9)(s':ej):Prop:=∃b O f,Inv X z J b f/\Ext H0 H O b/\
 p5 X.prog X.w X.stack b f (λd h g=>∃C a,d=.ref C/\WE X.K=dj/\I.1∈uQ/\QS X.K I.1=da C/\YW I h a/\Ext O b a g) e s'
theorem pU{J:UQ}{Z:St}{H H0:Hp}{γ:Ctx}{ds:List D}{O:Xn}{s:ej}(hf:DU X.prog X.w X.K X.mg X.base j x n G)(hj:j<=k)(h:SX X sc N L k)(c:kW sc x=dj)(ha:B0 X.rh (e::es) n g)
 (I:Inv X J Z H s) (rc:RC X.K H0 H Z γ) (eg:g γ=da ds) (eG:G ds=da O)
 (he:fA (e::es) X.env=(dt,eA e X.env)::fA es X.env:=by rfl) (a8:(p3 pos<|starEach es X.env).any (·.1)=dt:=by rfl):
 wpAny (eF X.prog X.w) X.A (eA (.Call (.Name x p) (e::es) [] pos) X.env) (λ_ _=>False) (As X J Z H0 H O) s:=by
 obtain⟨fa,fd,y,hn,F,T,R,Q⟩:=hf.ex;subst hn;refine OJ<|v7 I (h.gl c).1 T ?_ (h.gl c).2.2;refine PySem.W.callWith_K (h₀:=X.base) I.ok.mod.L9 R (Nv (ha.1 pos J s Z H (λf b=>∃U,Ext H0 H U b/\ec X.K U ds f) (I.ov _) ⟨H0,γ,ds,rc,eg,λf l a x r=>⟨a,x,r⟩⟩) (λi o ⟨f,b,Y,E,U,x1,B⟩=>⟨Y.s9.m3,?_⟩) λ_ _ z=>z.elim) he a8;have Y:=Y.s9;have M:f.length=y.length:=by rw[B.length];exact ha.2 γ ds eg
 have S:i.length=y.length:=by rw[<-E.length];exact M
 refine Ux (SJ (F.run X.A X.stack o b ⟨i,[]⟩ i f (λ_ _=>False) (λm t l=>∃C a,m=.ref C/\WE X.K=dj/\O.1∈uQ/\QS X.K O.1=da C/\YW O t a/\Ext U b a l) (h.room.mono hj) Y.Dh
  (by simpa using Q o i Y.m3 (by simpa using S)) E ⟨U,ds,O,x1.sub,B,ha.2 γ ds eg,eG,λC l a t xa xm xc xn xx=>⟨C,a,rfl,xa,xm,xc,xn,xx⟩⟩) λr s' d=>?_)
 cases r with
 |error e=>exact⟨b,U,o,Y,x1,d⟩
 |ok P=>
  cases P with
  |ret u=>obtain⟨_,_,_,_,_,_,_,z⟩:=d;exact z.elim
  |next=>exact d.elim
  |brk=>exact d.elim
  |cont=>exact d.elim
theorem VQ{spos:gv}(hf:DU X.prog X.w X.K X.mg X.base j x n G)(U:j<=k)(h:SX X.rh sc N L k)(c:kW sc x=dj)(Z:B0 X.rh (e::es) n g)
 (Y:fA (e::es) X.env=(dt,eA e X.env)::fA es X.env:=by rfl) (J:(p3 pos<|starEach es X.env).any (·.1)=dt:=by rfl)
 (hs:u7 (.Call (.Name x p) (e::es) [] pos) none spos.line X.env=pure dt:=by rfl):
 Px X (.Expr (.Call (.Name x p) (e::es) [] pos) spos) (yc G g):=λa s u H y A B F C I O eq w=>by
 obtain⟨E,l,m⟩:=zh eq;refine wpAny_Expr_any (Nv (pU hf U (⟨h.Di,h.eN,h.nd,h.calm,h.room,h.fn⟩:SX X sc N L k) c Z I O.rc l m Y J) (λ_ _ z=>z.elim) λo r z=>?_) I.quiet hs;obtain⟨b,f,t,d,x1,i⟩:=z;exact w.2.1 a u b f t o r d (O.ext.trans x1) i
end
def F6(X:Cx)(e:d9):Cx:={X with A:=X.A.mark<|some e,calm:=dt,xe:=λ_ _=>False}
theorem gH{X:Cx}{J:UQ}{L:St}{H:Hp}{s:ej}(I:L2.Inv X J L H s)(e:d9):L2.Inv (F6 X e) J L H s:=
 ⟨⟨I.ok.mod,I.ok.kind,I.ok.glob,I.ok.blt,I.ok.above,I.ok.inj,I.ok.has,I.ok.L0,(λz=>nomatch z),I.ok.frames,I.ok.DQ,I.ok.O6,I.ok.bs,I.ok.B7,I.ok.M3,I.ok.L5,I.ok.q7,I.ok.B9⟩,I.os,I.bare,I.base,I.loc,I.cell,I.free,I.vu,I.pin,I.ft,I.len⟩
theorem gE{X:Cx}{z:UQ}{J:St}{H:Hp}{s:ej}{e:d9}(ok:X.Ok)(I:L2.Inv (F6 X e) z J H s):L2.Inv X z J H s:=
 ⟨ok,I.os,I.bare,I.base,I.loc,I.cell,I.free,I.vu,I.pin,I.ft,I.len⟩
theorem fU{X:Cx}{J:UQ}{L:St}{H:Hp}{s:ej}{M:DY}{A:lp}{E:EQ}{Q:Unit->ej->Prop}{i:Nat}{n:Str}{pos:gv}(I:L2.Inv X J L H s)(Z:X.N.Nodup)(hi:X.N[i]? = da n)(hl:X.env.scope.names.lookup n=da .local)
 (h:∀s',L2.Inv X J (L.set i none) H s'->Q () s'):wpAny M A (do bindName X.env n .none;unbindBehindTheSuite X.env n pos) Q E s:=by
 obtain⟨m,C,G⟩:=id I.loc;have u:(X.env.scope.kind ==.class || (X.env.scope.kind ==.module&&X.env.locals != X.env.globals))=dt:=by rw[I.ok.kind];rfl
 refine wpAny_nameGoes_keeps hl C u λh' v w a=>h _ ?_;have U:∀b o,X.i6.heap.get? b=da o->b≠X.env.locals:=λb o e=>MZ<|MX (MR e) I.ok.above;refine⟨I.ok,I.os,I.bare,⟨λb o e n Y f=>?_,λb o e n Y f=>?_,I.base.free,λb o e f=>?_,I.base.vl,I.base.wa,I.base.u9⟩,⟨_,w,λj y v' l g x=>?_⟩,λy c e=>?_,I.free,I.vu,λp F=>?_,λb R e=>?_,by simpa using I.len⟩
 ·exact(a.2 b<|U b o e).trans (I.base.keep b o e n Y f)
 ·obtain⟨T,z⟩:=I.base.slot b o e n Y f
  exact⟨T,(a.2 b<|U b o e).trans z⟩
 ·obtain⟨P,z⟩:=I.base.there b o e f
  exact⟨P,(a.2 b<|U b o e).trans z⟩
 ·rcases jd g with⟨_,z,_⟩|⟨B,g⟩
  ·cases z
  ·obtain⟨W,S,q⟩:=G j y v' l g x
   refine⟨W,S,?_⟩;rcases q with⟨k,e⟩|⟨k,c,e,z⟩
   ·refine .inl ⟨k,?_⟩
    have:y≠n:=λe=>B<|Ky Z l<|e ▸ hi;simp[this,e]
   ·exact .inr ⟨k,c,e,z.sameBut a<|I.Dz y c e⟩
 ·obtain⟨t,z⟩:=I.cell y c e
  exact⟨t,z.sameBut a<|I.Dz y c e⟩
 ·obtain⟨e,n,r,K,d⟩:=I.pin p F
  exact⟨(a.2 p.1 r).trans e,n,r,K,d⟩
 ·refine(I.ft b R e).A5 (λc t O q=>(a.2 c ?_).trans q) (λ_ q=>q) λ_ _ q=>q
  rintro rfl;rcases O with O|O
  ·rw[<-O,I.free]at e;cases e
  ·rw[I.free]at O;cases O
structure XS(K:MC)(mg:UZ):Prop where
 ex:∃S,QS K "SplitError" = da S/\mg "SplitError" = da (.ref S)/\SV K (.ref S)=da (.type "type")/\OS K S (.type "BaseException")=da dj/\(R8 K S).isSome=dj/\OS K S (.ref S)=da dj
theorem Wi{M:DY}{h:fh}{K:MC}{a C S:dy}(X:K.In h)(I:de h a C)(z:SV K (.ref S)=da (.type "type"))(J:OS K S (.type "BaseException")=da dj)(U:(R8 K S).isSome=dj)(Y:OS K C (.ref S)=da dj):
 To M h (excMatches (.ref a)<|.ref S) dj:=by
 have b:=wV (M:=M) I;have d:=PySem.W.looks_typeIn (M:=M) X z;have e:=PySem.W.looks_mroIn (M:=M) X J;have f:To M h (isType<|.ref S) dj:=by
  obtain⟨F,O⟩:=Oa.mp U;unfold R8 at O;split at O
  ·rename_i B G x y j
   intro t w u P k q;unfold isType loadHead;exact MD<|wpAny_loadPart (k _ _<|X _ _ j)<|ML q
  ·cases O
 have g:=PySem.W.looks_mroIn (M:=M) X Y;have i:To M h (isSubtype (.type "type") (.type "tuple")) dt:=.of_pure tc_notTuple;intro A Q E s k q;obtain⟨L,g0,H,R,N⟩:=s;have l:=b.keeps k;have m:=d.keeps k;have n:=e.keeps k;have o:=f.keeps k;have p:=g.keeps k;have r:=i.keeps k;unfold excMatches isExcClass X'
 repeat (first|with_reducible refine m.at ?_|with_reducible refine r.at ?_|with_reducible refine o.at ?_|with_reducible refine n.at ?_|with_reducible refine l.at ?_|with_reducible refine p.at ?_|wp_step)
 exact q
section
variable{X:Cx}{sc:h7}{N L:List Str}{k:Nat}
theorem oj{J:UQ}{Z:St}{H H0:Hp}{γ:Ctx}{O:Xn}{ev:d9}{s':ej}{D:Ends}{F0 F1:Hp}{I j:Nat}{nx zx:Str}{np pz pn a9 c4:gv}(h:SX X sc N L k)(aa:X.stack=X.env::X.outer/\X.env.frame=da X.env.locals)
 (x:XS X.K X.mg) (b9:kW sc "SplitError" = dj) (cn:ye sc N L I nx=dj) (cl:decide (sc.names.lookup nx=da .local)=dj) (cv:Jw sc N I nx=dj) (cz:ye sc N L j zx=dj) (c7:I≠j)
 (rs:RS X.K F0 F1 H0 H Z γ) (lf:As X J Z H0 H O ev s') (ca:Sat X.K F0 F1 D (.next<|(γ.set j<|.val<|.exc O.1 O.2).set I .no))
 (hs:u7 (.Name nx pn) (da (.Name zx pz)) a9.line X.env=pure dt:=by rfl):
 wpAny (eF X.prog X.w) X.A (UI ev X.env) (λ_ s2=>wpAny (eF X.prog X.w) X.A (UT ev none) (λ_ s3=>
  wpAny (eF X.prog X.w) X.A (handleBy ev X.env [.ExceptHandler (da (.Name "SplitError" np)) (da nx) [.Assign [.Name zx pz] (.Name nx pn) a9] c4]) (SP X J D) X.xe s3) X.xe s2) X.xe s':=by
 obtain⟨H1,eh,s1,s,x1,a,C,H',G,rfl,⟨U,P,eC,xa,xm,xc,xn,x2⟩,cf,ci,cm,un,ft,y,co,⟨B,t,fl,cq,bg⟩⟩:=lf;obtain rfl:U=C:=(Nw.inj eC).symm;have cr:X.A.frames=da (X.env::X.outer):=by rw[<-aa.1];exact s.ok.frames
 rw[aa.1]at fl;obtain⟨S,cs,ct,cw,cx,cy,d0⟩:=x.ex;obtain⟨M,bi,y1,l,y3⟩:=Jv xa xm xc;obtain rfl:M=S:=by rw[cs]at bi;exact(NR bi).symm
 have bl:∀m:fh,Pg B (X.env::X.outer) a (.ref U) (.ref t) m->s'.heap.UpToSlots m->p7 G a m->L2.Inv X J Z (upd H' a<|.ext λg=>de g a U/\p7 G a g) {s' with heap:=m}:=λm f sm dk=>by
  have obj:de m a U:=by obtain⟨oe,p,_,_,_,E,⟨e2,_⟩,e3,_⟩:=f.2.2.2;exact⟨oe,p,E,e2,e3⟩
  have ne:∀b o,s1.heap.get? b=da o->b≠a:=λb o q z=>by rw[z,co]at q;cases q
  have bm:∀b,b∈n5 X.stack->∃o,s1.heap.get? b=da o/\(∀p,o.data ≠ .fields p)/\∃sl,m.get? b=da {o with slots:=sl}:=λb Y=>by obtain⟨_,o,q,nf⟩:=s.stack.mem Y;obtain⟨sl,z⟩:=un.slot b o q (s.M6 b Y) Y ⋯;obtain⟨d3,z'⟩:=sm b _ z nf;exact⟨o,q,nf,d3,z'⟩
  refine s.S_ (s':={s' with heap:=m}) (ch:=[]) ci ⟨λb o q n Y _=>?_,λb o q n Y _=>?_,λb o q n _=>?_,λb o q _=>?_,λb xs q=>?_,λb o u q=>?_,λb ps q=>?_⟩ ?_ cm (λ_ z=>nomatch z)
  ·exact f.1 b o<|bg b o (un.keep b o q n Y ⋯) (by rw[q];simp) Y
  ·obtain⟨F,q',_,z⟩:=bm b Y
   rw[q]at q';cases q';exact z
  ·rw[zK (ne b o q)];exact un.free b o q n ⋯
  ·by_cases Y:b∈n5 X.stack
   ·obtain⟨F,_,_,sl,z⟩:=bm b Y
    exact⟨_,z⟩
   ·obtain⟨F,z⟩:=un.there b o q ⋯
    exact⟨F,f.1 b F<|bg b F z (by rw[q];simp) Y⟩
  ·have z:=un.vl b xs q
   rw[zK (jy z y)];exact z
  ·have z:=un.wa b o u q
   rw[zK (jy z y)];exact z
  ·obtain⟨more,z⟩:=un.u9 b ps q
   exact⟨more,by rw[zK (jy z y)];exact z⟩
  ·refine uw (yL ft λb u n q=>f.1 b u<|cq b u q n) y ⟨obj,dk⟩ ?_ ?_
   ·obtain⟨o,_,e,_⟩:=obj;exact⟨o,e⟩
   ·rintro g1 g2 ⟨⟨o,p,e,r⟩,d5⟩ kk
    exact⟨⟨o,p,kk o e,r⟩,d5.obj kk⟩
 refine Cr cr aa.2 fl cf λh4 d6 bu d7=>?_;refine Cu d6 d7 λh5 R c0 c1=>?_;have I5:=gH (bl h5 R (bu.trans c0) c1)<|.ref a;have d8:de h5 a U:=by obtain⟨oe,p,_,_,_,E,⟨e2,_⟩,e3,_⟩:=R.2.2.2;exact⟨oe,p,E,e2,e3⟩
 have mS:OS X.K U (.ref M)=da dj:=by
  have l:=l;unfold Om at l;by_cases z:(Nw U==Nw M)=dj
  ·have e:U=M:=Nw.inj (beq_iff_eq.mp z)
   subst e;exact d0
  ·rw[UY z]at l
   unfold PySem.W.kitCls at l;dsimp only at l;split at l
   ·exact l
   ·cases l
 refine wpAny_handleBy_cons (codeAny_handlers_test<|v7 (X:=F6 X<|.ref a) I5 (show Gl X _ from(h.gl b9).1) ct ?_ (h.gl b9).2.2) (by intro q;cases q);refine(Wi I5.m3 d8 cw cx cy mS) _ _ _ _ (λ_ _ z=>z) ?_;refine codeAny_handlers_suite_as<|EI R c1 λh6 db dd di=>?_;have I6:=gH (bl h6 db ((bu.trans c0).trans dd) di)<|.ref a;obtain⟨n1,n2,n3⟩:=h.loc cn;obtain⟨z1,z2,z3⟩:=h.loc cz;refine Ka (X:=F6 X<|.ref a) (v:=.ref a) I6 (show X.N.Nodup from h.F7) n1 n2 rfl (λs7 I7=>?_) n3;have hv:PE (F6 X<|.ref a) (.Name nx pn) (oI I):=by
  unfold Jw at cv;simp only[MO,Oq,decide_eq_true_eq,OO]at cv;obtain⟨⟨⟨v1,v2⟩,v3⟩,v4⟩:=cv;refine pj (by show X.N[I]? = da nx;rw[h.eN];exact v1) ?_ v3 v4;show Ol X.env.scope nx;unfold Ol;rw[h.Di];rcases v2 with(v2|v2)|v2
  ·exact .inl v2
  ·exact .inr<|.inl v2
  ·exact .inr<|.inr v2
 have e8:PS (F6 X<|.ref a) (.Assign [.Name zx pz] (.Name nx pn) a9) (WS (oI I)<|vh j):=pe (X:=F6 X<|.ref a) (show X.N.Nodup from h.F7) z1 z2 hv hs z3;have e9:I<Z.length:=by rw[s.len];exact(Np.mp n1).1
 have run:=(fv e8) J s7 (Z.set I<|some (.ref a)) _ {nx:=λJ' Hn=>J'=(Z.set I<|some (.ref a)).set j (da (.ref a))/\Hn=upd H' a (.ext λg=>de g a U/\p7 G a g),rt:=λ_ _=>False} I7
  ⟨.ref a,NZ e9,rfl,rfl⟩
 refine Nv run (λf s8 z=>?_) λ_ _ z=>z.elim;cases f with
 | next=>
  obtain⟨zan,H8,Q,rfl,rfl⟩:=z;have Q:=gE s.ok Q;refine fU Q h.F7 n1 (by rw[h.Di];exact of_decide_eq_true cl) λzab I9=>⟨_,_,I9,?_⟩;have xt:=x1.trans<|x2.trans<|Ext.alloc x2.sub y<|.ext λg=>de g a U/\p7 G a g;have rep:Rep X.K (upd P a<|.ext λg=>de g a U/\p7 G a g) (.exc O.1 O.2) (.ref a):=by
   refine(show ∃b,V.ref a=.ref b/\B4 X.K _ O.1 O.2 b from⟨a,rfl,xa,xm,U,_,xc,zM,λ_ z=>z.1,?_⟩);unfold YW at xn;cases hc:O.2 with
   |none=>trivial
   |some i=>
    rw[hc]at xn;obtain⟨d,ee,T⟩:=xn;have ef:d≠a:=λq=>by rw[q,x2.sub.free y]at T;cases T
    exact⟨d,λg z=>z.2.1 d ee,by rw[zK ef];exact T⟩
  have r1:=((rs.step xt).A4 (i:=I) rep).A4 (i:=j) rep;have r2:=r1.forget (i:=I) (v:=none);have E:((γ.set I<|.val<|.exc O.1 O.2).set j (.val<|.exc O.1 O.2)).set I .no=(γ.set j<|.val<|.exc O.1 O.2).set I .no:=by rw[List.set_comm _ _ c7,List.set_set]
  rw[E]at r2;exact ca _ _ _ r2
 |ret v=>obtain⟨_,_,_,_,_,z⟩:=z;exact z.elim
 |brk=>obtain⟨_,_,_,z⟩:=z;exact z.elim
 |cont=>obtain⟨_,_,_,z⟩:=z;exact z.elim
end
section ap
variable(γ:Ctx)
@[simp] def xU:=@zJ.eq_1
@[simp] def ZT:=@jz.eq_1
@[simp] def we:=@jm.eq_1
@[simp] def qY:=@zc.eq_1
@[simp] def qo:=@zk.eq_1
@[simp] theorem vq(d):zu d γ=da d:=rfl
@[simp] def ba:=@zH.eq_1
@[simp] def Iq:=@sB.eq_1
@[simp] def Ip:=@QX.eq_1
@[simp] def iO:=@lg.eq_1
@[simp] def HP:=@yb.eq_1
@[simp] def Ln:=@lh.eq_1
@[simp] def Mj:=@K?.eq_1
@[simp] def Ld:=@Ba.eq_1
@[simp] def rq:=@W0.eq_1
@[simp] theorem kQ:zF γ=da []:=rfl
@[simp] def jO:=@zb.eq_1
@[simp] def VB:=@qF.eq_1
@[simp] def HV:=@jC.eq_1
@[simp] def HQ:=@qj.eq_1
@[simp] def ZS:=@j9.eq_1
@[simp] def iN:=@yB.eq_1
@[simp] def HM:=@Kd.eq_1
@[simp] def Lk:=@Mv.eq_1
@[simp] def Ij:=@sE.eq_1
@[simp] def vL:=@jn.eq_1
@[simp] def xY:=@jj.eq_1
@[simp] def HL:=@kF.eq_1
@[simp] def Ie:=@eP.eq_1
@[simp] def QJ:=@yD.eq_1
@[simp] def xO:=@zD.eq_1
@[simp] def K5:=@je.eq_1
@[simp] def kn:=@zN.eq_1
@[simp] def w4:=@jE.eq_1
@[simp] def EB:=@Ke.eq_1
@[simp] def La:=@QT.eq_1
@[simp] def aZ:=@ZY.eq_1
@[simp] def qp:=@zO.eq_1
@[simp] theorem Lb:jt γ=da dj:=rfl
@[simp] def Il:=@JJ.eq_1
@[simp] def HN:=@YB.eq_1
@[simp] def w5:=@dv.eq_1
@[simp] def FA:=@eE.eq_1
@[simp] theorem Le:dm γ=da none:=rfl
@[simp] def Io:=@ra.eq_1
@[simp] def EA:=@WY.eq_1
@[simp] def ED:=@Kg.eq_1
@[simp] def Mk:=@A3.eq_1
@[simp] def Lf:=@Mr.eq_1
@[simp] def XY:=@z7.eq_1
@[simp] def EC:=@eJ.eq_1
@[simp] def aY:=@bI.eq_1
@[simp] def Lo:=@Gu.eq_1
@[simp] def Lm:=@Al.eq_1
@[simp] def HZ:=@eM.eq_1
@[simp] def HU:=@lV.eq_1
@[simp] def HJ:=@sA.eq_1
theorem jP(F G):zT F G γ=(F γ).bind λI=>match I with
 |.next a=>G a
 |f=>da f:=rfl
end ap
@[simp] theorem Ex(ds):jx (.tup ds)=da (.T,ds):=rfl
@[simp] theorem IX(ds):jx (.lst ds)=da (.L,ds):=rfl
@[simp] theorem jb(d):iz (da (.val d))=da d:=rfl
@[simp] theorem jg(d):wc (da (.val d))=jx d:=rfl
@[simp] theorem zaf(d):wc (da (.own d))=da (.L,d):=rfl
@[simp] theorem zai(d):xA (da (.own d))=da d:=rfl
@[simp] theorem zag(d):Wo (da (.val d))=da (.ret<|.val d):=rfl
@[simp] theorem zah(d):Wo (da (.own d))=da (.ret<|.own d):=rfl
@[simp] theorem IZ(b):B6 (.bl b)=da b:=rfl
@[simp] theorem qG(b):o6 (.int b)=da b:=rfl
@[simp] theorem EX(d):W4 (.val d)=d:=rfl
@[simp] theorem EY(d):W4 (.own d)=.lst d:=rfl
@[simp] theorem EW(d):Am (.own d)=da d:=rfl
@[simp] theorem Fq(i j):dq (.int i) (.int j)=da (.int<|i-j):=rfl
@[simp] theorem aR(i j):qv (.int i) (.int j)=da (.int<|i+j):=rfl
@[simp] theorem Ft(i j):yN (.int i) (.int j)=if 0<j then da (.int<|i%j)else none:=by show(if Fw i j=dj then _ else _)=_;simp[Fw]
@[simp] theorem Fv(i j):Xj (.int i) (.int j)=if 0<j/\j<1073741824 then da (.int<|i/j)else none:=by
 show(if Eo i j=dj then _ else _)=_;have e:(Eo i j=dj)=(0<j/\j<1073741824):=by unfold Eo;rw[MO,decide_eq_true_eq,decide_eq_true_eq];apply propext;constructor<;>intro h<;>exact⟨h.1,by omega⟩
 simp only[e]
@[simp] theorem aQ(i j):yq (.int i) (.int j)=if XU i j=dj then da (.int<|i*j)else none:=rfl
@[simp] theorem Fs(i j):uK (.int i) (.int j)=if Em i j=dj then da (.int<|i^j.toNat)else none:=rfl
@[simp] theorem Hv(i j):DC (.int i) (.int j)=da (.bl<|decide<|i<j):=rfl
@[simp] theorem Hw(i j):B8 (.int i) (.int j)=da (.bl<|decide<|i<=j):=rfl
@[simp] theorem Hx(i j):qs (.int i) (.int j)=da (.bl<|decide<|j<i):=rfl
@[simp] theorem Hy(i j):T_ (.int i) (.int j)=da (.bl<|decide<|j<=i):=rfl
@[simp] theorem Hz(i j):g4 (.int i) (.int j)=da (.bl<|decide<|i=j):=by unfold g4;rw[UJ ⟨rfl,rfl⟩];exact congrArg (λb=>da (D.bl b)) (by rw[Ru];simp[i4])
@[simp] theorem Hu(i j):my (.int i) (.int j)=da (.bl<|!decide (i=j)):=by unfold my;rw[UJ ⟨rfl,rfl⟩];exact congrArg (λb=>da (D.bl !b)) (by rw[Ru];simp[i4])
@[simp] theorem AW(i is d ds γ):xk (i::is) (d::ds) γ=xk is ds (γ.set i<|.val d):=rfl
@[simp] theorem AV(ds γ):xk [] ds γ=γ:=by cases ds<;>rfl
@[simp] theorem Jt(i d γ):km (.nm i) d γ=da (γ.set i<|.val d):=rfl
@[simp] theorem Er(i j a b γ):km (.tp [i,j]) (.tup [a,b]) γ=da ((γ.set i<|.val a).set j (.val b)):=rfl
@[simp] theorem lU(γ:Ctx)(G:CO Fl):(da (Fl.next γ)).bind (λI=>match I with
 |.next γ'=>G γ'
 |f=>da f)=G γ:=rfl
theorem XT(i j:Int)(z : -(2^64)<j)(I:j<2^64):XU i j=dj:=by unfold XU;rw[Oq];right;exact decide_eq_true ⋯
theorem ZR(i j:Int)(z : -(2^64)<i)(I:i<2^64):XU i j=dj:=by unfold XU;rw[Oq];left;exact decide_eq_true ⋯
theorem J6(z : -(2^62)<i)(I:i<2^62):inR i=dj:=by unfold inR;exact decide_eq_true ⋯
@[simp] theorem qQ(n k:Nat):i0 n (k:Int)=if k<n then da k else none:=by
 unfold i0;by_cases h:k<n
 ·rw[UJ ⟨Int.natCast_nonneg k,by omega⟩,UJ h];simp
 ·rw[UY ⋯,UY ⋯,UY h]
theorem jl:lim=2500:=rfl
@[simp] theorem Fn:0<=lim:=rn _
@[simp] theorem Fm:1<=lim:=by decide
@[simp] theorem Fk:2<=lim:=by decide
@[simp] theorem Fj:3<=lim:=by decide
@[simp] theorem Fi:4<=lim:=by decide
@[simp] theorem Fh:5<=lim:=by decide
@[simp] theorem Fg:6<=lim:=by decide
@[simp] theorem Ff:7<=lim:=by decide
@[simp] theorem Fe:8<=lim:=by decide
@[simp] theorem Fc:0<lim:=by decide
@[simp] theorem uv(h:n<=lim):inR (n:Int)=dj:=J6 ⋯ (by have:=jl;omega)
@[simp] theorem Y?(n:Nat):i0 (n+1) 0=da 0:=qQ (n+1) 0 ▸ rfl
@[simp] theorem Z?(n:Nat):i0 (n+2) 1=da 1:=by have:=qQ (n+2) 1;simpa using this
@[simp] theorem v?(n:Nat):i0 (n+3) 2=da 2:=by have:=qQ (n+3) 2;simpa using this
theorem zC(r:α->D):∀(l:List α),(∀x∈l,zY T k f γ [g x]=da [r x])->zY T k f γ (l.map g)=da (l.map r)
 |[],_=>rfl
 | x::l,h=>by
  have a:=h x Nc;have i:=zC r l λy I=>h y<|Ng _ I;simp only[Nn,zY]at a ⊢;cases e1:km T (g x) γ with
  |none=>rw[e1]at a;simp at a
  | some d=>
   rw[e1]at a;simp only[MJ]at a ⊢;cases e2:k d with
   |none=>rw[e2]at a;simp at a
   | some b=>
    rw[e2]at a;simp only[MJ]at a ⊢;cases b with
    |false=>simp at a
    | true=>
     simp only[UJ]at a ⊢;cases e3:f d with
     |none=>rw[e3]at a;simp at a
     |some e=>
      rw[e3]at a;simp at a;rw[i];simp[a]
theorem zB(z:km T d γ=da γ1)(J:k γ1=da dj)(I:f γ1=da e):zY T k f γ [d]=da [e]:=by simp[zY,z,J,I]
theorem qW(T F d ds γ):kX T F (d::ds) γ=(km T d γ).bind λγ1=>(F γ1).bind λO=>match O with
 |.next I=>kX T F ds I
 |.cont I=>kX T F ds I
 |.brk I=>da (.next I)
 |.ret r=>da (.ret r):=rfl
theorem Vl(P:Nat->Ctx->Prop):∀(ds:List D) (k:Nat) (γ:Ctx),P k γ->(∀i d γ,ds[i]? = da d->P (k+i) γ->∃γ',((km T d γ).bind F=da (.next γ')\/(km T d γ).bind F=da (.cont γ'))/\P (k+i+1) γ')->
 ∃γ',kX T F ds γ=da (.next γ')/\P (k+ds.length) γ'
 |[],k,γ,h,_=>⟨γ,rfl,h⟩
 | d::ds,k,γ,h,step=>by
  obtain⟨a,e,f⟩:=step 0 d γ rfl h;obtain⟨γ',I,g⟩:=Vl P ds (k+1) a (by simpa using f) (λi b O j U=>by have:=step (i+1) b O (by simpa using j) (by rw[show k+(i+1)=k+1+i by omega];exact U);rw[show k+(i+1)+1=k+1+i+1 by omega]at this;exact this)
  refine⟨γ',?_,by rw[show k+(d::ds).length=k+1+ds.length by simp;omega];exact g⟩;rw[qW];cases eb:km T d γ with
  |none=>rw[eb]at e;simp at e
  |some Y=>
   rw[eb]at e;simp only[MJ]at e ⊢;rcases e with e|e<;>rw[e]<;>exact I
def zG(n:Nat)(f:Nat->Int):List D:=(ME n).map λi=>D.int<|f i
theorem qu(n f):zG n f=(ME n).map λi=>D.int (f i):=rfl
def zX(h w:Nat)(f:UV):List D:=(ME h).map λi=>D.tup<|zG w<|f i
def jZ(h w:Nat)(f:UV):D:=.tup [.int h,.int w,.tup (zX h w f)]
@[simp] theorem k4(n f):(zG n f).length=n:=by simp[zG]
@[simp] theorem nR(h w f):(zX h w f).length=h:=by simp[zX]
@[simp] theorem Hm(f)(h:i<(zG n f).length):(zG n f)[i]=.int (f i):=by simp[zG]
theorem nN(f)(h:i<n):(zG n f)[i]? = da (.int<|f i):=by simp[zG,h]
@[simp] theorem Ho(f)(z:i<(zX h w f).length):(zX h w f)[i]=.tup (zG w<|f i):=by simp[zX]
theorem wW(h:∀i,i<n->f i=g i):zG n f=zG n g:=by unfold zG;apply Ni;intro i a;rw[h i (MG.mp a)]
theorem aP(e:∀i j,i<h->j<w->f i j=g i j):zX h w f=zX h w g:=by unfold zX;apply Ni;intro i a;rw[wW λj I=>e i j (MG.mp a) I]
theorem qM(n:Nat):wy 0 n=zG n λi=>(i:Int):=by simp[wy,zG]
theorem wj(n:Nat)(f g:Nat->Int):yY (zG n f) (zG n g)=(ME n).map λi=>D.tup [.int (f i),.int (g i)]:=by unfold yY zG;rw[RT];simp
theorem WB(n w:Nat)(f g:UV):yY (zX n w f) (zX n w g)=(ME n).map λi=>D.tup [.tup (zG w<|f i),.tup (zG w<|g i)]:=by unfold yY zX;rw[RT];simp
def zm(f:Nat->Int):Nat->Int
 |0=>0
 |n+1=>zm f n+f n
theorem JA:∀(xs:List Int) (y:Int),bC (xs.map D.int++[.int y])=(bC<|xs.map D.int).map λs=>s+y
 |[],y=>by simp[bC]
 |x::xs,y=>by simp only[Nn,Ul,bC];rw[JA xs y];cases e:bC (xs.map D.int)<;>simp[Int.add_assoc]
theorem wt(f:Nat->Int):∀n,bC (zG n f)=da (zm f n)
 |0=>rfl
 |n+1=>by
  have I:=wt f n;have e:∀m,zG m f=((ME m).map f).map D.int:=λm=>by simp[zG]
  rw[e]at I ⊢;rw[OH,NU,NU,List.map_singleton,List.map_singleton,JA,I];simp[zm]
def xP:=jk 2<|j9<|z7<|jm<|zO (zN<|zk 1) (.nm 0) 1 [0] jt (zH yN (zc 0)<|zc 1)
noncomputable def dg:=jk 3<|j9<|zD xP<|zb (zc 0)<|zb (jz<|zO (zN<|zJ<|dv (zk 1)<|zu<|.int 2) (.nm 0) 1 [2] jt (bI<|jm<|zO (QT (zc 0)<|zc 1) (.tp [0,1]) 2 [] jt (zH yq (zc 0)<|zc 1))) zF
noncomputable def jQ:=jk 2<|zT (jj 1<|jz<|zO (jE<|dv (zk 0)<|zu<|.int 1) (.nm 0) 1 [0] jt (z7<|jm<|zO (zN<|zJ<|dv (zk 1)<|zu<|.int 2) (.nm 0) 1 [0] jt (dv (zk 0)<|zc 1)))<|j9<|qF<|zb (dv (zk 0)<|zu<|.int 1)<|zb (dv (zk 0)<|zu<|.int 0)<|zb (z7<|zk 1) zF
noncomputable def qA:=jk 4<|zT (jj 3<|zD jQ<|zb (zc 2) zF)<|j9<|qF<|zb (dv (zk 1)<|zu<|.int 0)<|zb (dv (zk 2)<|zu<|.int 1)<|zb (z7<|jm<|zO (zN<|zJ<|dv (zk 1)<|zu<|.int 2) (.nm 0) 1 [0,3] jt (zD dg<|zb (zc 1)<|zb (zc 2)<|zb (zc 0) zF)) zF
noncomputable def xG:=jk 5<|zT (jj 4<|jz<|zO (QT (dv (zk 1)<|zu<|.int 2)<|dv (zk 3)<|zu<|.int 2) (.tp [0,1]) 2 [0,2] jt (zD xP<|zb (zc 2)<|zb (jz<|zO (QT (zc 0)<|zc 1) (.tp [0,1]) 2 [3] jt (zH qv (zc 0)<|zH yq (zc 2)<|zc 1)) zF))<|j9<|qF<|zb (dv (zk 1)<|zu<|.int 0)<|zb (dv (zk 1)<|zu<|.int 1)<|zb (z7<|zk 4) zF
noncomputable def j8:=jk 2<|zT (jj 1<|jz<|zO (jE<|zc 0) (.nm 0) 1 [0] jt (z7<|jm<|zO (jE<|zc 1) (.nm 0) 1 [0] jt (W0 (sB<|zH g4 (zc 1)<|zc 0) (zu<|.int 1)<|zu<|.int 0)))<|j9<|qF<|zb (zc 0)<|zb (zc 0)<|zb (z7<|zk 1) zF
def xR:=jk 1<|j9<|lh (A3 .int<|zc 0)<|Ba<|A3 .bool<|zc 0
noncomputable def Zj:=jk 3<|zT (ZY (Ke (zu<|.int 1)<|zc 0) (.nm 2)<|jn (sB<|zH g4 (zH yN (zH yq (zc 1)<|zc 2)<|zc 0)<|zu<|.int 1) (Kd 2) qj) JH
noncomputable def qL:=jk 5<|zT (jj 4<|dv (zk 1)<|zc 3)<|zT (jn (sB<|zH g4 (zc 4)<|zu<|.int 0) (Kd 1) qj)<|j9<|zD xP<|zb (zc 0)<|zb (jz<|zO (QT (zc 1)<|zc 2) (.tp [0,1]) 2 [4] jt (zH dq (zc 0)<|zH yq (zc 2)<|zc 1)) zF
noncomputable def xF:=jk 9<|zT (jj 3<|jz<|zO (zN<|zk 2) (.nm 0) 1 [0] jt (zD xP<|zb (zc 1)<|zb (zc 0) zF))<|zT (kF 4<|jC zF)<|zT (ZY (jE<|zc 1) (.nm 5)<|zT (jj 6<|jz<|zO (zN<|zk 3) (.nm 0) 1 [5] (sB<|zH my (dv (zk 0)<|zc 1)<|zu<|.int 0) (zc 0))<|zT (jn (yb<|sA<|zk 6) sE qj)<|zT (jj 7<|zD Zj<|zb (zc 0)<|zb (dv (zJ<|dv (zk 6)<|zu<|.int 0)<|zc 5) zF)<|zT (jj 8<|zD xP<|zb (zc 0)<|zb (jz<|zO (zN<|zJ<|dv (zk 6)<|zu<|.int 0) (.nm 0) 1 [7] jt (zH yq (zc 1)<|zc 0)) zF)<|zT (jj 3<|jz<|zO (zN<|zk 3) (.nm 0) 1 [0,5,8] jt (zD qL<|zb (zc 1)<|zb (zc 0)<|zb (zc 3)<|zb (zc 2) zF))<|kF 4<|JJ (jm<|zO (zN<|zk 4) (.nm 0) 1 [0,5,8] jt (zD qL<|zb (zc 1)<|zb (zc 0)<|zb (zc 3)<|zb (zc 2) zF))<|jm<|jC<|zb (zc 8) zF)<|Kd 4
noncomputable def qN:=jk 2<|yB<|zO (zN<|zk 1) (.nm 0) 1 [0] (yb<|sB<|Al<|zJ<|WY (zc 0) dm<|ra<|zc 1) (WY (zc 0) (ra<|zc 1) dm)
noncomputable def kB:=jk 5<|zT (jj 3<|jz<|zO (QT (dv (zJ<|zD jQ<|zb (zc 1) zF)<|zu<|.int 2)<|dv (zJ<|zD j8<|zb (dv (zk 1)<|zu<|.int 1) zF)<|zu<|.int 2) (.tp [0,1]) 2 [] jt (zH qv (zc 0)<|zc 1))<|zT (jj 4<|jz<|zO (zN<|zk 2) (.nm 0) 1 [1] jt (zH qv (zc 0)<|zH yq (qF<|zb (zu<|.int 0) zF)<|dv (zk 1)<|zu<|.int 1))<|yB<|je qN<|zb (dv (zk 1)<|zu<|.int 0)<|zb (jz<|je xF<|zb (zc 0)<|zb (zH qv (dv (zk 1)<|zu<|.int 0)<|dv (zk 1)<|zu<|.int 1)<|zb (jz<|JJ (zk 3)<|zk 4) zF) zF
def ko:=jk 2<|yB<|je kB<|zb (zc 0)<|zb (zc 1)<|zb (jz<|jC zF) zF
noncomputable def ZL:=jk 2<|yB<|je xF<|zb (zc 0)<|zb (dv (zk 1)<|zu<|.int 0)<|zb (dv (zJ<|zD jQ<|zb (zc 1) zF)<|zu<|.int 2) zF
section
variable(γ:Ctx)
@[simp] def Ll:=@Mw.eq_1
@[simp] def Im:=@LS.eq_1
@[simp] def FH:=@IE.eq_1
end
noncomputable def qK:=jk 1<|j9<|dv (jm<|zO (lW<|zc 0) (.tp [0,1]) 2 [] (sB<|zH my (zc 1)<|zu<|.int 0) (zc 0))<|zu<|.int 0
noncomputable def vH:=jk 7<|zT (jj 3<|dv (zk 1)<|zu<|.int 1)<|zT (kF 4<|YB (jm<|jC<|zb (zu<|.int 0) zF)<|zc 3)<|zT (ZY (zN<|zJ<|jz<|je xF<|zb (zc 0)<|zb (zH qv (zc 3)<|zu<|.int 1)<|zb (jz<|zO (QT (dv (zk 1)<|zu<|.int 2)<|zc 2) (.tp [0,1]) 2 [] jt (zH qv (zc 0)<|qF<|zb (zc 1) zF)) zF) (.nm 5)<|zT (jj 6<|zD qK<|zb (zc 5) zF)<|zT (jn (sB<|zH g4 (zc 6)<|zc 3) (j9<|zu .el) qj)<|eE 4 (zc 6)<|dv (zk 5)<|zc 3)<|j9<|z7<|zk 4
section
variable(γ:Ctx)
@[simp] def Ic:=@lW.eq_1
@[simp] def Lh:=@Ms.eq_1
@[simp] def Li:=@Mt.eq_1
@[simp] theorem FI(F G a b c):JI F G a b c γ=(a γ).bind λx=>(b γ).bind λy=>((F x y).bind B6).bind λk=>if k=dj then (c γ).bind λz=>G y z else da (.bl dt):=rfl
@[simp] def HK:=@eD.eq_1
end
noncomputable def kT:=jk 5<|zT (jj 2<|dv (zk 1)<|zu<|.int 0)<|zT (jn (sB<|zH my (dv (zk 1)<|zu<|.int 1)<|zc 2) (j9<|zu .el) qj)<|zT (jj 3<|dv (zJ<|zD j8<|zb (zc 2) zF)<|zu<|.int 2)<|zT (jj 4<|jz<|je xF<|zb (zc 0)<|zb (zH qv (zc 2)<|zc 2)<|zb (jz<|zO (QT (dv (zk 1)<|zu<|.int 2)<|zc 3) (.tp [0,1]) 2 [] jt (zH qv (zc 0)<|zc 1)) zF)<|zT (jn (sB<|zH my (jz<|zO (zN<|zk 4) (.nm 0) 1 [2] jt (WY (zc 0) dm<|ra<|zc 1))<|jz<|eJ<|zk 3) (j9<|zu .el) qj)<|j9<|qF<|zb (zc 2)<|zb (zc 2)<|zb (z7<|jm<|zO (zN<|zk 4) (.nm 0) 1 [2] jt (WY (zc 0) (ra<|zc 1) dm)) zF
section
variable(γ:Ctx)
@[simp] def FG:=@ID.eq_1
@[simp] def EE:=@Gs.eq_1
@[simp] def Lj:=@Mu.eq_1
@[simp] def Ib:=@LP.eq_1
@[simp] def Fz:=@IB.eq_1
end
@[simp] theorem oi(r):KZ (da (.nest r))=da r:=rfl
section
variable(γ:Ctx)
@[simp] def vG:=@qS.eq_1
@[simp] def HX:=@yC.eq_1
@[simp] def Ii:=@LQ.eq_1
@[simp] def Ab:=@sD.eq_1
end
noncomputable def jH:=jk 2 (j9 (W0 (sB (zH g4 (zc 1) (zu (.str "r")))) (zc 0) (zH qv (zc 0) (zu (.int 1)))))
noncomputable def kq:=jk 2 (j9 (W0 (sB (zH g4 (zc 1) (zu (.str "r")))) (zH qv (zc 0) (zu (.int 1))) (zc 0)))
def Gr(f:CO D):CO D:=λa=>(f a).map λd=>.bl (lj .list d || lj .tuple d)
def dh:=jk 1<|j9<|lh (A3 .int<|zc 0)<|Ba<|A3 .bool<|zc 0
def VD:=jk 2<|j9<|lh (zD dh<|zb (zc 1) zF)<|JI B8 DC (zu<|.int 0) (zc 1)<|zc 0
def Wx:=jk 2<|j9<|lh (Gr<|zc 0)<|zH g4 (Kg<|zk 0)<|zc 1
noncomputable def qI:=jk 1 (j9 (sD (zu (.str "")) (jm (zO (zN (zJ (dv (zk 0) (zu (.int 2))))) (.nm 0) 1 [] jt (dv (zk 0) (zu (.int 0)))))))
noncomputable def kz:=jk 2<|j9<|lh (zH g4 (dv (zk 0)<|zu<|.int 0)<|dv (zk 1)<|zu<|.int 0)<|zH g4 (zD qI<|zb (zc 0) zF)<|zD qI<|zb (zc 1) zF
def jT:=jk 2<|jn (yb<|sB<|zD kz<|zb (zc 0)<|zb (zc 1) zF) JH qj
noncomputable def jR:List D->Option Xn:=W1 2 (tu (yb (sB (zD kz (zb (zc 0) (zb (zc 1) zF))))) (iZ "Unlike") C6)
section
variable{X:Cx}{sc:h7}{N L:List Str}{k:Nat}{a e:eK}{es:List eK}{f:CO D}{g:CO (List D)}{pos p p2:gv}
theorem Jj(U:PV X e f)(hs:u7 e none pos.line X.env=pure dt:=by rfl):o8 X (.Expr e pos) (eP f):=yV (Km U hs) λD k H Y=>by obtain⟨E0,E,g,j,l,O,I,h⟩:=Y;obtain⟨d,i,I⟩:=zI I;subst I;exact⟨g,j,d,O.rc,i,λv b a x r=>h k b a<|O.step x⟩
theorem Hj{P:ir}{w:g8}{K:MC}{z:UZ}{base:fh}{x:Str}{st:i7}{N ps:List Str}{k:Nat}{F:CO Fl}(A:gB K z x st ps)(J:cV N ps st=dj)
 (O:∀X:Cx,X.prog=P->X.w=w->X.K=K->X.mg=z->X.base=base->SX X (jB st) N N k->X.xe=(λ_ _=>False)->(X.stack=X.env::X.outer/\X.env.frame=da X.env.locals)->du X (kO st) F):
 gw P w K z base (k+1) x ps.length (jk N.length F):=by
 obtain⟨f,b,I,U,d⟩:=A.ex;have S:=Jg J;refine⟨f,b,ps,rfl,uD I S λa A outer s H E Y=>?_,d,I.kp,.all U⟩;exact O _ rfl rfl rfl rfl rfl ⟨rfl,rfl,S.nd,rfl,Y,λ_ _=>.inl rfl⟩ rfl ⟨rfl,rfl⟩
structure XI(K:MC)(mg:UZ)(c:Str):Prop where
 mem:c∈uQ
 ex:∃C,QS K c=da C/\mg c=da (.ref C)
theorem pJ{J:UQ}{σ:St}{H:Hp}{s:ej}{A:lp}{E:EQ}{Q:EQ}{b:dy}{t:d9}{c:Str}{n:Option Int}{H0:Hp}{r:Bool}(I:L2.Inv X J σ H s)(sub:g5 H0 H)(O:B4 X.K H0 c n b)
 (Y:∀C,QS X.K c=da C->Om X.K (.ref C) t=da r) (h:∀Z,Q (.bool r) {s with toks:=Z}):wpAny (eF X.prog X.w) A (call (.builtin "isinstance") [.ref b,t]) Q E s:=by
 obtain⟨C,a,U,g2,g3,_⟩:=O.ex;obtain⟨S,_,x1,_,_⟩:=Jv O.all O.mem U;obtain⟨p,_,_⟩:=(show l8 X.prog X.w H s.heap b (.ext a)from I.ft b _<|sub _ _ g2);exact Nx (aC (dz x1)<|dA x1) I.m3 (g3 _ p) (Y C U) (λz=>nomatch z) h
theorem yj{c:Str}(h:SX X sc N L k)(Z:kW sc "isinstance" = dj)(z:X.mg "isinstance" = none)(J:kW sc c=dj)(x:XI X.K X.mg c)(ha:PV X a f)
 (hs:fA [a,.Name c p2] X.env=[(dt,eA a X.env),(dt,eA (.Name c p2) X.env)]:=by rfl):PV X (.Call (.Name "isinstance" p) [a,.Name c p2] [] pos) (WZ c f):=by
 intro g s T H Q I ⟨l,R,d,rc,O,q⟩;obtain⟨w,y,O⟩:=zh O;obtain⟨C,x1,M⟩:=x.ex;cases w with
 |exc U n=>
  cases O;refine OJ<|xX I (h.gl Z).1 z Ry ?_ ⋯ ⋯;refine Ph ?_ (by rw[hs];rfl) rfl;rw[hs];show wpAny _ _ (DP ((dt,eA a X.env)::p3 pos [(dt,eA (.Name c p2) X.env)])) _ _ s;refine OG<|f7 (ha g s T H (λv j=>∃e,Ext l H e j/\Rep X.K e (.exc U n) v) I ⟨l,R,_,rc,y,λv j e x r=>⟨e,x,r⟩⟩) λu F A=>?_;obtain⟨v,m,Y,B,o,t,E⟩:=A;obtain⟨b,rfl,i⟩:=(show ∃b,v=.ref b/\B4 X.K o U n b from E);cases (show u=Nw b from B);show wpAny _ _ (DP ((dt,eA (.Name c p2) X.env)::[])) _ _ F;refine OG<|v7 Y (h.gl J).1 M ?_ (h.gl J).2.2;refine PM ?_;refine pJ Y t.sub i (λW g1=>?_) λG=>⟨.bl<|U==c,m,Y.tok G,rfl,q _ m o t rfl⟩;obtain⟨S,_,_,_,P⟩:=Jv i.all i.mem g1;exact P c C x.mem x1
 |_=>cases O
theorem uU:De "ValueError" = da (.type "ValueError"):=by decide +kernel
theorem sM(h:SX X sc N L k)(J:kW sc "isinstance" = dj)(z:X.mg "isinstance" = none)(U:kW sc "ValueError" = dj)(zv:X.mg "ValueError" = none)(Z:PV X a f)
 (hs:fA [a,.Name "ValueError" p2] X.env=[(dt,eA a X.env),(dt,eA (.Name "ValueError" p2) X.env)]:=by rfl):PV X (.Call (.Name "isinstance" p) [a,.Name "ValueError" p2] [] pos) (Bc f):=by
 intro g s R H Q I ⟨m,P,d,rc,O,q⟩;obtain⟨A,B,O⟩:=zh O;cases A with
 |exc y n=>
  cases O;refine OJ (xX I (h.gl J).1 z Ry ?_ ⋯ ⋯);refine Ph ?_ (by rw[hs];rfl) rfl;rw[hs];show wpAny _ _ (DP ((dt,eA a X.env)::p3 pos [(dt,eA (.Name "ValueError" p2) X.env)])) _ _ s;refine OG (f7 (Z g s R H (λv l=>∃e,Ext m H e l/\Rep X.K e (.exc y n) v) I ⟨m,P,_,rc,B,λv l e x r=>⟨e,x,r⟩⟩) λu G C=>?_);obtain⟨v,o,Y,E,t,w,F⟩:=C;obtain⟨b,rfl,i⟩:=(show ∃b,v=.ref b/\B4 X.K t y n b from F);cases (show u=Nw b from E);show wpAny _ _ (DP ((dt,eA (.Name "ValueError" p2) X.env)::[])) _ _ G;refine OG (xX Y (h.gl U).1 zv uU ?_ (h.gl U).2.1 (h.gl U).2.2);refine PM ?_;refine pJ (r:=dj) Y w.sub i (λT g1=>?_) λM=>⟨.bl dj,o,Y.tok M,rfl,q _ o t w rfl⟩;obtain⟨S,_,j,_,_⟩:=Jv i.all i.mem g1;unfold oE at j;simp only[MO,beq_iff_eq]at j;exact j.1.1.1.1.1.1.1.1.1.2
 |_=>cases O
structure GL(K:MC)(mg:UZ)(x:Str)(d:D):Prop where
 ex:∃u v,mg x=da u/\RelV v u/\∀H,Rep K H d v
theorem Bt{x:Str}{d:D}(h:SX X sc N L k)(c:kW sc x=dj)(O:GL X.K X.mg x d):PV X (.Name x pos) (zu d):=by intro b s j H Q I ⟨a,i,g,rc,U,q⟩;cases U;obtain⟨u,v,e,f,Y⟩:=O.ex;exact v7 I (h.gl c).1 e ⟨v,H,I,f,q v H a (Ext.refl rc.sub)<|Y a⟩ (h.gl c).2.2
end
section
variable{K:MC}{mg:UZ}{h:fh}
theorem fZ{c:Str}{C:dy}(I:K.In h)(G:h.Ns r3 mg)(e:QS K c=da C):mg c=da (.ref C):=by
 unfold QS at e;split at e
 ·rename_i O q
  cases e;exact PySem.W.mg_of I G q
 ·cases e
noncomputable def _v(K:MC):Bool:=match QS K "SplitError" with
 |some S=>SV K (.ref S)==da (.type "type")&&OS K S (.type "BaseException")==da dj&&(R8 K S).isSome&&OS K S (.ref S)==da dj
 |none=>dt
def _u(K:MC)(c:Str):Bool:=match QS K c with
 |some C=>FN K C
 |none=>dt
theorem Lx(I:K.In h)(G:h.Ns r3 mg)(e:_v K=dj):XS K mg:=by
 unfold _v at e;split at e
 ·rename_i S q
  simp only[MO,beq_iff_eq]at e;exact⟨S,q,fZ I G q,e.1.1.1,e.1.1.2,e.1.2,e.2⟩
 ·cases e
theorem Ly{c:Str}(I:K.In h)(G:h.Ns r3 mg)(e:WE K=dj)(z:c∈uQ):XI K mg c:=by
 unfold WE at e;split at e
 ·have a:=OB.mp e c z
  split at a
  ·rename_i C q
   exact⟨z,C,q,fZ I G q⟩
  ·cases a
 ·cases e
theorem Lz{c:Str}(I:K.In h)(G:h.Ns r3 mg)(e:WE K=dj)(z:c∈uQ)(b:_u K c=dj):XC K mg c:=by
 unfold _u at b;split at b
 ·rename_i C q
  exact⟨e,z,C,q,fZ I G q,b⟩
 ·cases b
theorem IP{x:Str}{n:Int}{t:ro}(I:K.In h)(G:h.Ns r3 mg)(a:RY K r3 x=da (da (.int n t))):GL K mg x (.int n):=
 ⟨_,.int n,PySem.W.mg_of I G a,⟨t,rfl⟩,λ_=>(show V.int n=.int n from rfl)⟩
end
theorem qB(h:B0 X es n g):Dw X es g:=h.1
section
variable{K:MC}{E0 E H0 H:Hp}{σ:St}{γ:Ctx}
theorem ec.dropLast:∀{ds:List D} {xs:List V},ec K H ds xs->ec K H ds.dropLast xs.dropLast
 |[],xs,r=>by rw[r.t7];exact ec.nil
 |[d],xs,r=>by obtain⟨x,b,e,_,a⟩:=r.p6;rw[e,a.t7];exact ec.nil
 |d::d2::ds,xs,r=>by obtain⟨x,b,e,I,a⟩:=r.p6;obtain⟨U,Y,O,_,_⟩:=a.p6;subst e O;exact ec.cons I<|ec.dropLast a
end
section
variable{X:Cx}{sc:h7}{N L:List Str}{k:Nat}{a b e:eK}{pos p p2:gv}{f g:CO D}
theorem bM{c:eK}{z:CO D}(J:PV X a z){U:CO (Sk×List D)}(Z:PQ X c U)(hm:Dd .NotIn c=dt:=by with_unfolding_all rfl):ow X (.Compare a [.NotIn] [c] pos) (sB<|Kf z U):=
 bO (fu YM J Z hm) λN H Q A=>by
  obtain⟨h,g,d,rc,I,q⟩:=A;obtain⟨F,n,w⟩:=zh I;obtain⟨x,o,I⟩:=zh n;obtain⟨⟨f,m⟩,s,I⟩:=zh I;obtain⟨i,t,I⟩:=zh I;obtain⟨l,u,rfl⟩:=zI I;cases w;refine⟨h,g,x,rc,o,λY E j x1 O=>⟨j,g,f,m,rc.ext x1,s,λp M b k C e G r=>?_⟩⟩;rw[jV t]at O;have y:=Y9 r u;subst y;have B:hM X.K b p (l.map V.int)\/h8 X.K b p (l.map V.int):=by
   cases f with
   |L=>exact .inl e
   |T=>exact .inr e
  refine⟨p,_,rfl,B,by rw[show Y=.int i from O];rfl,Vm l,?_⟩;rw[show Y=.int i from O,gI];exact⟨_,rfl,q b k<|x1.trans C⟩
end
end DL
namespace L2
open PySem PySem.Spec PyProof.Rows
theorem Ha(z:Str):U2 z = "str_ascii_iterator"\/U2 z = "str_iterator":=by unfold U2;split<;>simp
theorem aN{X:Cx}{J:UQ}{σ:St}{H:Hp}{s:ej}{E:EQ}{z it:dy}{i L:Nat}{x:d9}{v:V}{g:fh}{Z:List eK}{x1:Nat}{uP:gv}{Q:Unit->ej->Prop}
 (I:Inv X J σ H s) (hf:∀b ∈ [z,it],vR X J H b) (hz:z<s.heap.objs.size) (hi:it<s.heap.objs.size) (a1:IsEnumOut g z it ((i:Int)+1) x s.heap.objs.size)
 (a3:nt g s.heap.objs.size (.int i L) x) (a5:∀b o,b≠z->b≠it->s.heap.get? b=da o->g.get? b=da o) (rx:RelV v x)
 (a8:∀g2,IsEnum g2 z it ((i+1:Nat):Int) x->Rf z g g2->Inv X J σ (upd H s.heap.objs.size<|.tup [.int i,v]) {s with heap:=g2,toks:=L+1}->H s.heap.objs.size=none->
   (∀b ∈ [z,it],upd H s.heap.objs.size (.tup [.int i,v]) b=none)->Q () {s with heap:=g2,toks:=L+1}):
 wpAny (eF X.prog X.w) X.A (T9 (.Tuple Z x1 uP) (.ref z)<|.ref s.heap.objs.size) Q E {s with heap:=g,toks:=L+1}:=by
 refine wpAny_letOwnedTupleGo_enum a1 λg2 rr Y=>?_;have a:nt g2 s.heap.objs.size (.int i L) x:=Y.extBut _ _ (OZ hz) a3;have f:∀O u,O ∉ [z,it]->s.heap.get? O=da u->g2.get? O=da u:=λO u U e=>by simp only[MQ,MY,or_false,not_or]at U;exact Y.extBut _ _ U.1<|a5 O u U.1 U.2 e
 refine a8 g2 (by have:=rr;rwa [show((i:Int)+1)=((i+1:Nat):Int)by omega]at this) Y (I.I' (fp:=[z,it]) f hf (MM _) ⟨by show 2<=fy;decide,[.int i L,x],.cons ⟨_,rfl⟩<|.cons rx .nil,⟨_,a,rfl,_,rfl⟩⟩) I.fresh λO U=>?_;have d:O≠s.heap.objs.size:=by
  simp only[MQ,MY,or_false]at U;rcases U with rfl|rfl
  ·exact MZ hz
  ·exact MZ hi
 rw[zK d];exact(hf O U).1
noncomputable def Iw(K:MC)(a:dy):It:=
 ⟨λi H=>∃b,hM K H a b/\i<b.length,
  λi H x d=>∃p u,x=.ref p/\H p=none/\d=upd H p (.tup [.int i,u])/\(∀b,hM K H a b->b[i]? = da u),
  λi H=>∃b,hM K H a b/\b.length=i⟩
theorem bA{P:ir}{w:g8}{K:MC}{elts:List eK}{x1:Nat}{uP:gv}{z it a:dy}(ab:z≠it):
 Turn P w K (.Tuple elts x1 uP) (Iw K a) [z,it] z (λi h=>(∃U,IsEnum h z it i U)/\h.IsListIter it a i) where
 mem:=by simp
 obj:=λi h ⟨⟨U,hz⟩,h1⟩ y hy=>by
  simp only[MQ,MY,or_false]at hy;rcases hy with rfl|rfl
  ·exact⟨_,hz,λv q=>by cases q⟩
  ·obtain⟨o,e,c,d⟩:=h1
   exact⟨o,e,λv q=>by rw[d]at q;cases q⟩
 keep:=λi h h' ⟨⟨U,hz⟩,h1⟩ k=>⟨⟨U,k z ⋯ _ hz⟩,h1.at λo e=>k it ⋯ o e⟩
 item:=by
  rintro X rfl rfl rfl hc i pins s σ H E I hf ⟨⟨U,hz⟩,h1⟩ ⟨xs,a7,b0⟩;obtain⟨a8,a9,p1,z1⟩:=I.list a7;have Y:=p1.isList;have hx:xs[i]? = da xs[i]:=MH b0;have l1:=a9.length;have ak:a≠it:=λe=>by obtain⟨o,e1,O,_⟩:=Y;obtain⟨o2,e2,c2,_⟩:=h1;rw[e,e2]at e1;cases e1;rw[c2]at O;exact absurd O ⋯
  have bd:z≠a:=λe=>by obtain⟨o,e1,O,_⟩:=Y;have as:s.heap.get? z=da _:=hz;rw[e,e1]at as;cases as;exact absurd O ⋯
  have be:it<s.heap.objs.size:=by obtain⟨o2,e2,_⟩:=h1;exact MR e2
  have Dr:=Draws.list (prog:=X.prog) (w:=X.w) (A:=X.A.in1) (show X.A.in1.handled=none from I.ok.hd hc) it a ak a8.toArray;refine wpAny_pyNext_enum_itemD Dr hz ⟨h1,Y⟩ (by simp;omega) ab (by simp;exact⟨ab,bd⟩) λx g tk hP a1 a2 a3 a4 a5=>⟨_,rfl,?_⟩;obtain⟨u1,bn,br⟩:=a9.get hx;obtain rfl:u1=x:=by have:=hP;simp[bn]at this;exact this
  refine aN I hf (MR hz) be a1 a3 a5 br λg2 b1 b2 I1 bv hn=>⟨.ref s.heap.objs.size,_,I1,rfl,⟨_,_,rfl,bv,rfl,λc7 c0=>by rw[I.x' c0 a7];exact hx⟩,⟨⟨_,b1⟩,a2.1.at λo e=>b2.extBut _ _ ab.symm e⟩,hn⟩
 done:=by
  rintro X rfl rfl rfl hc i pins s σ H E I hf ⟨⟨U,hz⟩,h1⟩ ⟨xs,a7,hi⟩;obtain⟨a8,a9,p1,z1⟩:=I.list a7;have Y:=p1.isList;have l1:=a9.length;have ak:a≠it:=λe=>by obtain⟨o,e1,O,_⟩:=Y;obtain⟨o2,e2,c2,_⟩:=h1;rw[e,e2]at e1;cases e1;rw[c2]at O;exact absurd O ⋯
  have Dr:=Draws.list (prog:=X.prog) (w:=X.w) (A:=X.A.in1) (show X.A.in1.handled=none from I.ok.hd hc) it a ak a8.toArray;have en:a8.toArray.size=i:=by simp;omega
  rw[en]at Dr;refine wpAny_pyNext_enum_endD Dr hz ⟨h1,Y⟩ λg hk=>⟨rfl,?_⟩;refine I.C5 (t':=s.toks) (fp:=[z,it]) (λb' u hb e=>?_) hf;simp only[MQ,MY,or_false,not_or]at hb;exact hk b' u hb.2 e
 self:=λ_ _ _ _ _ st h=>yp st.1.choose_spec h
noncomputable def Iv(z:Str):It:=
 ⟨λi _=>i<z.cps.size,λi H x a=>∃p c,x=.ref p/\H p=none/\a=upd H p (.tup [.int i,.str ⟨#[c]⟩])/\z.cps[i]? = da c,λi _=>i=z.cps.size⟩
theorem Vq{prog:ir}{w:g8}{A:lp}(I:A.handled=none)(it:dy)(x:Str)(t:ro):
 Draws prog w A it [it] x.cps.size (λi v=>∃c u,x.cps[i]? = da c/\v=.str ⟨#[c]⟩ u) (λi h=>h.IsStrIter it (U2 x) x t i):=by
 rcases Ha x with q|q
 ·rw[q];exact Draws.strAscii I it x t
 ·rw[q];exact Draws.strWide I it x t
theorem bz{P:ir}{w:g8}{K:MC}{elts:List eK}{x1:Nat}{uP:gv}{z it:dy}(x:Str)(t:ro)(U:z≠it):
 Turn P w K (.Tuple elts x1 uP) (Iv x) [z,it] z (λi h=>(∃O,IsEnum h z it i O)/\h.IsStrIter it (U2 x) x t i) where
 mem:=by simp
 obj:=λi h ⟨⟨O,hz⟩,h1⟩ y hy=>by
  simp only[MQ,MY,or_false]at hy;rcases hy with rfl|rfl
  ·exact⟨_,hz,λv q=>by cases q⟩
  ·obtain⟨o,e,c,d⟩:=h1
   exact⟨o,e,λv q=>by rw[d]at q;cases q⟩
 keep:=λi h h' ⟨⟨O,hz⟩,h1⟩ k=>⟨⟨O,k z ⋯ _ hz⟩,by obtain⟨o,e,r⟩:=h1;exact⟨o,k it ⋯ o e,r⟩⟩
 item:=by
  rintro X rfl rfl rfl Y i pins s σ H E I hf ⟨⟨O,hz⟩,h1⟩ a9;have aa:it<s.heap.objs.size:=by obtain⟨o2,e2,_⟩:=h1;exact MR e2
  have Dr:=Vq (prog:=X.prog) (w:=X.w) (A:=X.A.in1) (show X.A.in1.handled=none from I.ok.hd Y) it x t;refine wpAny_pyNext_enum_itemD Dr hz h1 a9 U (by simp;exact U) λu g tk hP a1 a2 a3 a4 a5=>⟨_,rfl,?_⟩;obtain⟨c,zad,ap,rfl⟩:=hP;refine aN (v:=.str ⟨#[c]⟩) I hf (MR hz) aa a1 a3 a5 ⟨_,rfl⟩ λg2 b1 b2 I1 ax hn=>⟨.ref s.heap.objs.size,_,I1,rfl,⟨_,_,rfl,ax,rfl,ap⟩,⟨⟨_,b1⟩,?_⟩,hn⟩;obtain⟨o,e,r⟩:=a2;exact⟨o,b2.extBut _ _ U.symm e,r⟩
 done:=by rintro X rfl rfl rfl Y i pins s σ H E I hf ⟨⟨O,hz⟩,h1⟩ hi;have hi:i=x.cps.size:=hi;subst hi;have Dr:=Vq (prog:=X.prog) (w:=X.w) (A:=X.A.in1) (show X.A.in1.handled=none from I.ok.hd Y) it x t;refine wpAny_pyNext_enum_endD Dr hz h1 λg hk=>⟨rfl,?_⟩;refine I.C5 (t':=s.toks) (fp:=[z,it]) (λb' u hb e=>?_) hf;simp only[MQ,MY,or_false,not_or]at hb;exact hk b' u hb.2 e
 self:=λ_ _ _ _ _ st h=>yp st.1.choose_spec h
def CU(K:MC)(z:TA):TI:=λf H R=>z f H λd b=>∃a,d=[.ref a]/\(∃e,hM K b a e)/\R (Iw K a) b
def CT(I:TA):TI:=λd H R=>I d H λb a=>∃z,b=[.str z]/\R (Iv z) a
section
variable{X:Cx}{e1:eK}{ta:TA}{p pos:gv}{elts:List eK}{x1:Nat}{uP:gv}
theorem mE(J:Gl X "enumerate")(L:X.mg "enumerate" = none)(z:PA X [e1] ta)
 (Z:De "enumerate" = da (.type "enumerate")) (hs:fA [e1] X.env=[(dt,eA e1 X.env)]:=by rfl):
 PI X (.Tuple elts x1 uP) (.Call (.Name "enumerate" p) [e1] [] pos) (CU X.K ta):=by
 intro b s n H R I h;refine Call_<|xX I J L Z<|ND (f7 (z pos b s n H _ I h) λt d j=>?_) (by rw[hs];rfl) rfl;obtain⟨u,e,O,m,l⟩:=j;obtain⟨a,rfl,⟨x,f⟩,q⟩:=l;obtain⟨w,rfl,i⟩:=yA m;cases i;obtain⟨o,r,k,y⟩:=O.list f;refine call_enumerate_list k.isList λg b1 b2 b3 b4=>yp (s:={d with heap:=g}) b1 ?_;refine⟨_,[d.heap.objs.size+1,d.heap.objs.size],_,_,e,rfl,O.kept (t':=d.toks) b4,bA<|OZ<|OC _,⟨⟨_,b1⟩,b2⟩,λc U=>?_,q⟩;have Y:d.heap.objs.size<=c:=by
  simp only[MQ,MY,or_false]at U;rcases U with rfl|rfl
  ·exact Nt _ _
  ·exact MM _
 exact O.Dj Y<|O.ft.fresh Y
theorem mD(L:Gl X "enumerate")(Z:X.mg "enumerate" = none)(J:PA X [e1] ta)
 (hv:De "enumerate" = da (.type "enumerate")) (hs:fA [e1] X.env=[(dt,eA e1 X.env)]:=by rfl):
 PI X (.Tuple elts x1 uP) (.Call (.Name "enumerate" p) [e1] [] pos) (CT ta):=by
 intro a s k H R I h;refine Call_<|xX I L Z hv<|ND (f7 (J pos a s k H _ I h) λl b f=>?_) (by rw[hs];rfl) rfl;obtain⟨m,d,O,j,i⟩:=f;obtain⟨z,rfl,q⟩:=i;obtain⟨n,rfl,e⟩:=yA j;obtain⟨t,rfl⟩:=e;refine call_enumerate_str λg b1 b2 b3 b4=>yp (s:={b with heap:=g}) b1 ?_;refine⟨_,[b.heap.objs.size+1,b.heap.objs.size],_,_,d,rfl,O.kept (t':=b.toks) b4,bz z t<|OZ<|OC _,⟨⟨_,b1⟩,b2⟩,λc U=>?_,q⟩;have Y:b.heap.objs.size<=c:=by
  simp only[MQ,MY,or_false]at U;rcases U with rfl|rfl
  ·exact Nt _ _
  ·exact MM _
 exact O.Dj Y<|O.ft.fresh Y
end
theorem AS{X:Cx}:Se X (λx lo J H Q=>∃z,x=.str z/\z.length<=fy/\Q (.str<|Txt.slice z lo J) H):=by
 rintro a s i H x v m n lo J j Q I h ⟨o,O,U,b⟩ f g ⟨z,rfl,d,q⟩;obtain⟨t,rfl⟩:=h;have Y:∀e k,EP X a i Q (.str (Txt.slice z lo J) e) {s with toks:=k}:=λe k=>⟨.str _,H,I.tok k,⟨_,rfl⟩,q⟩;refine⟨"str",_,F.slot_str_getitem.lookup,Uy _ _ _,?_⟩;cases f<;>cases g
 ·exact RF (l:=none) (u:=none) (st:=none) ⟨o,O,U,b⟩ rfl<|Tx ⟨NJ (Uj z _ _) d,Y⟩
 ·exact RF (l:=none) (u:=da (_,_)) (st:=none) ⟨o,O,U,b⟩ rfl<|Tx ⟨NJ (Uj z _ _) d,Y⟩
 ·exact RF (l:=da (_,_)) (u:=none) (st:=none) ⟨o,O,U,b⟩ rfl<|Tx ⟨NJ (Uj z _ _) d,Y⟩
 ·exact RF (l:=da (_,_)) (u:=da (_,_)) (st:=none) ⟨o,O,U,b⟩ rfl<|Tx ⟨NJ (Uj z _ _) d,Y⟩
end L2
namespace DL
open PySem PySem.Spec PyProof.Rows L2
theorem YA(z:Str):(kf z).length=z.cps.size:=by simp[kf]
theorem lS(z:Str){i c:Nat}(h:z.cps[i]? = da c):(kf z)[i]? = da (.str ⟨#[c]⟩):=by simp[kf,h]
theorem bq{K:MC}{H0 J:Hp}(z:Str):Walk K H0 J (Iv z) (xy<|kf z):=by
 have b:(xy<|kf z).length=z.cps.size:=by simp[xy,YA]
 refine⟨λi d s a=>?_,λd s=>?_,λi d x f s a y=>?_⟩
 ·rw[b]at a;exact a
 ·rw[b];exact rfl
 ·obtain⟨p,c,rfl,I,rfl,O⟩:=y
  refine⟨.tup [.int i,.str ⟨#[c]⟩],?_,λe h g=>⟨upd e p<|.tup [.int i,.str ⟨#[c]⟩],Ext.alloc g I _,?_⟩⟩
  ·rw[b]at a
   unfold xy;rw[NS,Sb (by rw[YA];exact a),MW,lS z O];rfl
  ·exact xM (h8.of zM)<|ec.cons (show V.int i=.int i from rfl)<|ec.cons (show V.str ⟨#[c]⟩=.str ⟨#[c]⟩from rfl) ec.nil
theorem bt{K:MC}{H0 z:Hp}{a:dy}{xs:List V}{ds:List D}(h:hM K z a xs)(r:ec K H0 ds xs):Walk K H0 z (Iw K a) (xy ds):=by
 have Y:=r.length;have m:(xy ds).length=ds.length:=by simp[xy]
 refine⟨λi b s k=>?_,λb s=>?_,λi b x g s k y=>?_⟩
 ·exact⟨xs,s.seq h,by omega⟩
 ·exact⟨xs,s.seq h,by omega⟩
 ·obtain⟨p,u,rfl,I,rfl,O⟩:=y
  obtain⟨d,j,U⟩:=r.L7<|O xs<|s.seq h;refine⟨.tup [.int i,d],?_,λf l e=>⟨upd f p<|.tup [.int i,u],Ext.alloc e I _,?_⟩⟩
  ·unfold xy
   rw[NS,Sb ⋯,MW,j];rfl
  ·exact xM (h8.of zM)<|ec.cons (show V.int i=.int i from rfl)<|ec.cons ((U.mono l).mono (jF (jA e I) _)) ec.nil
section
variable{X:Cx}{sc:h7}{N L:List Str}{k:Nat}{a b e:eK}{pos p p2:gv}{f fa fb:CO D}
theorem tF{J:List eK}{x1:Nat}{Z:gv}(h:SX X sc N L k)(c:kW sc "enumerate" = dj)(z:X.mg "enumerate" = none)(ha:PV X a f)(hs:fA [a] X.env=[(dt,eA a X.env)]:=by rfl):
 kA X (.Tuple J x1 Z) (.Call (.Name "enumerate" p) [a] [] pos) (Xt f):=
 Ko (mD (h.gl c).1 z (jr ha qd hs) boot_enumerate hs) λl H R U=>by
  obtain⟨i,j,e,rc,I,q⟩:=U;obtain⟨d,Y,I⟩:=zh I;cases d with
  | str z=>
   by_cases O:js z=dj
   ·have I:(if js z=dj then da (xy<|kf z)else none)=da e:=I
    rw[UJ O]at I;cases I;exact⟨i,j,_,rc,Y,λv g b x r=>⟨z,by rw[show v=.str z from r],q _ g b x<|bq z⟩⟩
   ·have I:(if js z=dj then da (xy<|kf z)else none)=da e:=I
    rw[UY O]at I;cases I
  |_=>cases I
theorem tG(h:SX X sc N L k)(c:kW sc "enumerate" = dj)(z:X.mg "enumerate" = none)(J:PV X a f)(hs:fA [a] X.env=[(dt,eA a X.env)]:=by rfl):
 kA X (.Tuple elts x1 uP) (.Call (.Name "enumerate" p) [a] [] pos) (eO f):=
 Ko (mE (h.gl c).1 z (jr J qd hs) boot_enumerate hs) λo H R U=>by
  obtain⟨g,l,m,rc,I,q⟩:=U;obtain⟨d,Y,I⟩:=zh I;cases d with
  |lst n=>
   cases I;refine⟨g,l,_,rc,Y,λv e b x r=>?_⟩;obtain⟨i,j,rfl,O,g2⟩:=gd r;exact⟨i,rfl,⟨j,x.sub.seq O⟩,q _ e b x<|bt O g2⟩
  |_=>cases I
theorem VR(z:PV X a fa)(U:PV X b fb):PV X (.BinOp a .Add b pos) (Kh fa fb):=
 qc (mF bY z U) λA H Q Y=>by
  obtain⟨f,e,d,rc,I,q⟩:=Y;obtain⟨x,j,I⟩:=zh I;obtain⟨y,k,I⟩:=zh I;cases x with
  | str u=>
   cases y with
   | str w=>
    by_cases O:js u=dj/\js w=dj
    ·have I:(if js u=dj/\js w=dj then da (D.str<|u++w)else none)=da d:=I
     rw[UJ O]at I;cases I;refine⟨f,e,_,rc,j,λs o h x1 l=>⟨h,e,_,rc.ext x1,k,λt g i n m=>⟨u,w,l,m,?_,q _ g i (x1.trans n) rfl⟩⟩⟩;have p:=wx O.1;have r:=wx O.2;have:2000<=fy:=by decide
     omega
    ·have I:(if js u=dj/\js w=dj then da (D.str<|u++w)else none)=da d:=I
     rw[UY O]at I;cases I
   |_=>cases I
  |_=>cases I
theorem oT{lo J:Option eK}{U Y:CO (Option Int)}(Z:PV X a f)(hl:L2.PO X lo (tB X.K U))(hh:L2.PO X J (tB X.K Y)):PV X (.Subscript a (.Slice lo J none p2) pos) (Gq f U Y):=
 qc (ai AS Z hl hh) λA H Q s=>by
  obtain⟨i,e,d,rc,I,q⟩:=s;obtain⟨g,n,I⟩:=zh I;obtain⟨l,o,I⟩:=zh I;obtain⟨u,p,I⟩:=zh I;refine⟨i,e,g,rc,n,λv w b x r=>⟨b,e,l,rc.ext x,o,λy k h=>⟨k,e,u,(rc.ext x).ext h,p,λj m x3=>?_⟩⟩⟩;have t:=x.trans<|h.trans x3;cases g with
  | str z=>
   by_cases O:js z=dj
   ·have I:(if js z=dj then da (D.str<|Txt.slice z l u)else none)=da d:=I
    rw[UJ O]at I;cases I;exact⟨z,r,Zn O,q _ j m t rfl⟩
   ·have I:(if js z=dj then da (D.str<|Txt.slice z l u)else none)=da d:=I
    rw[UY O]at I;cases I
  |_=>cases I
end
end DL
namespace DL
open PySem L2 PyProof.Rows
open PySem.W (KasT kas_sort kas_asc kas_desc kas_tail3 kas_descPart kas_count kas_place kas_bin kas_rev)
noncomputable def Good{z:Type}(n:Nat)(P:z->Prop):KasT z->Prop
 |.ret a=>P a
 |.ask i j k=>i<n/\j<n/\∀b,Good n P<|k b
theorem Good.mono{z:Type}{n:Nat}{P I:z->Prop}(h:∀a,P a->I a):∀{t:KasT z},Good n P t->Good n I t
 |.ret a,g=>h a g
 |.ask i j k,g=>⟨g.1,g.2.1,λb=>(g.2.2 b).mono h⟩
theorem Good.bind{z β:Type}{n:Nat}{P:z->Prop}{I:β->Prop}{f:z->KasT β}(J:∀a,P a->Good n I (f a)):∀{t:KasT z},Good n P t->Good n I (t.bind f)
 |.ret a,g=>J a g
 |.ask i j k,g=>⟨g.1,g.2.1,λb=>(g.2.2 b).bind J⟩
theorem Good.run:∀{t:KasT α},Good n P t->P (ky lt t)
 |.ret a,g=>g
 |.ask i j k,g=>(g.2.2 _).run
def Pm(n:Nat)(p:Array Nat):Prop:=p.toList.Perm<|ME n
theorem Pm.lt(h:Pm n p)(z:0<n)(i:Nat):p.getD i 0<n:=by
 by_cases a:i<p.size
 ·have e:p.getD i 0=p[i]:=by simp[Array.getD,a]
  rw[e];exact MG.mp<|h.mem_iff.mp ⋯
 ·have e:p.getD i 0=0:=by simp[Array.getD,a]
  rw[e];exact z
theorem Pm.rev(h:Pm n p)(i j:Nat):Pm n (kas_rev p i j):=(Array.perm_iff_toList_perm.mp<|mirror_perm p i j _).trans h
theorem Pm.f?(h:Pm n p)(i j:Nat):Pm n (bubble p i j):=(Array.perm_iff_toList_perm.mp<|bubble_perm p i j).trans h
theorem KH(h:Pm n p)(z:0<n):∀f m,Good n (λ_=>True) (kas_asc p f m)
 |0,m=>trivial
 |f+1,m=>⟨h.lt z _,h.lt z _,λb=>by
  cases b with
  |true=>exact trivial
  |false=>exact KH h z f<|m+1⟩
theorem wU(z:0<n):∀f p m q,Pm n p->Good n (λr=>Pm n r.1) (kas_desc f p m q)
 |0,p,m,q,h=>h
 | f+1,p,m,q,h=>⟨h.lt z _,h.lt z _,λb=>by
  cases b with
  |true=>
   show Good n _ (if q>0 then _ else _);split
   ·exact wU z f _ _ _<|h.rev _ _
   ·exact wU z f _ _ _ h
  |false=>exact⟨h.lt z _,h.lt z _,λd=>by
   cases d with
   |true=>exact h
   |false=>exact wU z f _ _ _ h⟩⟩
theorem Vf{n:Nat}(z:0<n)(m r:Nat){p:Array Nat}(h:Pm n p):Good n (λr=>Pm n r.2) (kas_tail3 m r p):=by unfold kas_tail3;refine Good.bind (P:=λ_=>True) (λa _=>?_)<|KH (h.rev _ _) z _ _;exact(show Pm n (kas_rev p 0 m)from h.rev _ _)
theorem Vh{n:Nat}(z:0<n)(m r:Nat){p:Array Nat}(h:Pm n p):Good n (λr=>Pm n r.2) (kas_descPart m r p):=
 (wU z _ _ _ _ h).bind λa b=>by
   show Good n _ (if a.2.2>0 then _ else _);split
   ·exact Vf z _ _<|Pm.rev b _ _
   ·exact Vf z _ _ b
theorem cN{n:Nat}(z:0<n)(r:Nat){p:Array Nat}(h:Pm n p):Good n (λr=>Pm n r.2) (kas_count r p):=
 (KH h z _ _).bind λm _=>by
   show Good n _ (if (m==r)=dj then _ else if m>1 then _ else _);split
   ·exact h
   ·split
    ·exact⟨h.lt z _,h.lt z _,λc=>by
      cases c with
      |true=>exact h
      |false=>exact Vh z _ _<|h.rev _ _⟩
    ·exact Vh z _ _ h
theorem ZF(z:0<n)(h:Pm n p)(k:Nat):∀f l r,Good n (λ_=>True) (kas_place p k f l r)
 |0,l,r=>trivial
 |f+1,l,r=>by
  show Good n _ (if l>=r then _ else _);split
  ·exact trivial
  ·exact⟨h.lt z _,h.lt z _,λc=>by
    cases c with
    |true=>exact ZF z h k f _ _
    |false=>exact ZF z h k f _ _⟩
theorem aH{n:Nat}(z:0<n):∀f p k,Pm n p->Good n (Pm n) (kas_bin f p k)
 |0,p,k,h=>h
 |f+1,p,k,h=>(ZF z h k k 0 k).bind λl _=>aH z f _ _<|h.f? _ _
theorem Vg{n:Nat}(z:0<n):Good n (Pm n) (kas_sort n):=
 (cN z n<|show Pm n (Sn<|ME n)from List.Perm.refl _).bind λr I=>by
   show Good n _ (if r.1<n then _ else _);split
   ·exact aH z _ _ _ I
   ·exact I
theorem qU(ps:List (Int×Int)):(kK ps).Perm (ME ps.length):=by
 unfold kK;split
 ·exact List.Perm.refl _
 ·exact(Vg ⋯).run
theorem jG(d:α):∀ds:List α,(ME ds.length).map (λi=>ds.getD i d)=ds:=λds=>by
 apply List.ext_getElem?;intro i;by_cases a:i<ds.length
 ·simp[a]
 ·simp[a,Nat.not_lt.mp a]
end DL
namespace DL
open PySem PySem.Spec PyProof.Rows L2
open PySem.W (KasT kas_sort kas_ask kat_run kat_snds kat_lt kat_cons kat_no kat_yes kat_nil kat_go kat_one kat_kind KatTups KatGo)
theorem gQ(I:∀i j C,i<n->j<n->C (lt i j) s->cmp i j C s):
 ∀{t:KasT α},Good n P t->Q (ky lt t) s->t.kasWp cmp Q s
 |.ret _,_,q=>q
 |.ask i j k,g,q=>I i j _ g.1 g.2.1<|gQ I (g.2.2 _) q
noncomputable def S0(h:fh)(v:d9)(k l:Int):Prop:=∃x o a m t u,v=.ref x/\h.get? x=da o/\o.cls=.type "tuple"/\o.data=.seq a m/\a.toList=[.int k t,.int l u]
theorem S0.one(a:S0 h v k l):EL h v k:=by obtain⟨x,o,e,m,t,u,b,d,I,O,U⟩:=a;exact⟨x,o,e,m,t,b,d,I,O,by rw[<-Array.getElem?_toList,U];rfl⟩
section
variable{X:Cx}
theorem YD{K:MC}{H:Hp}{ds:List D}{xs:List V}(r:ec K H ds xs):∀(o:List Nat),(∀i∈o,i<xs.length)->ec K H (o.map λi=>ds.getD i .el) (o.map λi=>xs.getD i .el)
 |[],_=>ec.nil
 |i::o,h=>by have a:=h i Nc;obtain⟨d,b,I⟩:=r.L7<|MH a;refine ec.cons ?_ (YD r o λj O=>h j<|Ng _ O);show Rep K H (ds.getD i .el) (xs.getD i .el);rw[MK,MK,MH a,b];exact I
end
end DL
namespace DL
open PySem PySem.Spec PyProof.Rows L2
theorem Zl{H:Hp}{x:dy}{o z:HO}:upd (upd H x o) x z=upd H x z:=by
 funext b;by_cases h:b=x
 ·subst h;rw[zM,zM]
 ·rw[zK h,zK h,zK h]
section
variable{X:Cx}{sc:h7}{N L:List Str}{k:Nat}{a:eK}{pos:gv}{f:CO (List D)}
theorem sW(i:Nat)(h:SX X sc N L k)(c:Jw sc N i x=dj)(ha:PO X a f)(hs:fA [a] X.env=[(dt,eA a X.env)]:=by rfl)
 (z:I8 (.Name x np) "extend" X.env (eA (.Name x np) X.env)=eA (.Name x np) X.env:=by rfl)
 (J:((p3 cpos<|starEach [a] X.env).all (λx=> !x.1)&&(E6 cpos<|keywordEach [] X.env).all (λx=>x.1.isSome)
   &&decide ([a].length+([]:List u0).length+(if ([]:List u0).isEmpty then 0 else 1)<30))=dj:=by rfl)
 (Z:(apos.endLine==cpos.line)=dj:=by rfl) (a6:u7 (.Call (.Attribute (.Name x np) "extend" apos) [a] [] cpos) none pos.line X.env=pure dt:=by rfl):
 o8 X (.Expr (.Call (.Attribute (.Name x np) "extend" apos) [a] [] cpos) pos) (VO i f):=
 yV (Km (VW Pw PySem.F.slot_list_extend PySem.F.type_list_extend fV (h.var c) (jr ha qd hs) z J Z hs rfl) a6) λD K H w=>by
  obtain⟨E0,E,p,A,C,O,I,s⟩:=w;obtain⟨e,d,I⟩:=zh I;obtain⟨g,u,I⟩:=zh I;have d:=k6 d;by_cases U:e.length+g.length<=lim
  ·rw[UJ U]at I;cases I
   obtain⟨l,xs,m,G,Y,n⟩:=O.rc.own i e d;refine⟨_,m,.inl ⟨rfl,_,hM.of Y⟩,p,A,g,O.rc,u,λb o B r x g1 g2 g3 j=>?_⟩;have y:xs.length+o.length<=fy:=by
    rw[n.length,j.length];have:lim<=fy:=by decide
    omega
   refine⟨l,b,xs,o,rfl,rfl,x.s1 _ _ Y,g3,y,?_⟩;have t:=O.step x;exact s _ _ _<|t.rewrite (xs:=xs) d m<|(n.mono x.s0).append j
  ·rw[UY U]at I;cases I
end
section
variable{X:Cx}{pins:UQ}{σ:St}{H H0:Hp}{s:ej}
theorem nM{ta:TA}{L O:eK}{p pos:gv}{Q:EQ}{xs ys:List V}(I:Inv X pins σ H s)(hg:Gl X "zip")(hm:X.mg "zip" = none)(ha:PA X [L,O] ta)
 (h:ta σ H λvs J=>∃k1 k2 a b,vs=[.ref a,.ref b]/\(∃xs,m5 k1 X.K J a xs)/\(∃ys,m5 k2 X.K J b ys)/\
   ∀Z z TI TO i1 i2,Inv X pins σ J Z->B5 z TI TO i1 i2 a b->Dx k1 k2 z TI TO i1 i2 a b 0 Z.heap->uS Z.heap z TI TO .none->(∀c ∈ [z,TI,TO,i1,i2],vR X pins J c)->Q (.ref z) Z)
 (hs:fA [L,O] X.env=[(dt,eA L X.env),(dt,eA O X.env)]:=by rfl) (a3:fA [O] X.env=[(dt,eA O X.env)]:=by rfl):
 wpAny (eF X.prog X.w) X.A (eA (.Call (.Name "zip" p) [L,O] [] pos) X.env) Q X.xe s:=by
 refine Call_ (xX I hg hm PyProof.Rows.boot_zip<|ND (f7 (ha pos pins s σ H _ I h) λus d P=>?_) (by rw[hs,a3])<|by rw[a3];rfl);obtain⟨vs,J,U,W,T⟩:=P;obtain⟨k1,k2,a,b,e,⟨xs,B⟩,⟨ys,C⟩,q⟩:=T;subst e;obtain⟨w1,w2,N,E,as⟩:=lD W;subst N;cases E;cases as;obtain⟨G,bm,l,z1⟩:=U.sq B;obtain⟨M,br,r,z2⟩:=U.sq C;have R:=l.lt;have S:=r.lt;refine callType_new F.called_zip ⋯ (F.typeCall_zip_2 _ _) (F.newCall_zip_2 _ _) (λobj=>F.args_object_init_3 obj _ _) F.entry_zip_new (WC k1 k2 a b G.toArray M.toArray) ⟨l,r,?_⟩;have keep:∀c o,d.heap.get? c=da o->(yX k1 k2 d.heap a b).get? c=da o:=λc o e=>
  MF _ (MF _<|MF _<|MF _<|MF _ e)
 have t:(Nm d.heap<|l5 k1 a).objs.size=d.heap.objs.size+1:=NA ..;have u:(Nm (Nm d.heap<|l5 k1 a)<|l5 k2 b).objs.size=d.heap.objs.size+2:=by rw[NA,t]
 have x:(Nm (Nm (Nm d.heap<|l5 k1 a)<|l5 k2 b)<|kL (.ref d.heap.objs.size)<|.ref<|d.heap.objs.size+1).objs.size=d.heap.objs.size+3:=by rw[NA,u]
 have y4:(Nm (Nm (Nm (Nm d.heap<|l5 k1 a)<|l5 k2 b)<|kL (.ref d.heap.objs.size)<|.ref<|d.heap.objs.size+1)<|kL .none .none).objs.size=d.heap.objs.size+4:=by rw[NA,x]
 have g0:la k1 (yX k1 k2 d.heap a b) d.heap.objs.size a 0:=(J2 k1 d.heap a).at λo e=>MF _<|MF _<|MF _<|MF _ e;have g1:la k2 (yX k1 k2 d.heap a b) (d.heap.objs.size+1) b 0:=by have q:=J2 k2 (Nm d.heap<|l5 k1 a) b;rw[t]at q;exact q.at λo e=>MF _<|MF _<|MF _ e
 have g2:nt (yX k1 k2 d.heap a b) (d.heap.objs.size+2) (.ref d.heap.objs.size) (.ref<|d.heap.objs.size+1):=by have q:_=da (kL (.ref d.heap.objs.size)<|.ref<|d.heap.objs.size+1):=MU (Nm (Nm d.heap<|l5 k1 a)<|l5 k2 b) (o:=kL (.ref d.heap.objs.size)<|.ref<|d.heap.objs.size+1) rfl;rw[u]at q;exact MF _<|MF _ q
 have g3:nt (yX k1 k2 d.heap a b) (d.heap.objs.size+3) .none .none:=by have q:_=da (kL .none .none):=MU (Nm (Nm (Nm d.heap<|l5 k1 a)<|l5 k2 b)<|kL (.ref d.heap.objs.size)<|.ref<|d.heap.objs.size+1) (o:=kL .none .none) rfl;rw[x]at q;exact MF _ q
 have i:uS (yX k1 k2 d.heap a b) (d.heap.objs.size+4) (d.heap.objs.size+2) (d.heap.objs.size+3) .none:=by have q:=MU (Nm (Nm (Nm (Nm d.heap<|l5 k1 a)<|l5 k2 b)<|kL (.ref d.heap.objs.size)<|.ref<|d.heap.objs.size+1)<|kL .none .none) (o:=EN (d.heap.objs.size+2)<|d.heap.objs.size+3) rfl;rw[y4]at q;exact q
 refine⟨⟨_,i,rfl⟩,?_⟩;have y:Inv X pins σ J {d with heap:=yX k1 k2 d.heap a b,toks:=d.toks}:=U.kept keep;have Y:∀m:Nat,a≠d.heap.objs.size+m:=λm=>MZ<|MX R<|Nt _ m;have g:∀m:Nat,b≠d.heap.objs.size+m:=λm=>MZ<|MX S<|Nt _ m;have f:∀m n:Nat,m≠n->(d.heap.objs.size+m:Nat)≠d.heap.objs.size+n:=λm n h=>by omega
 have D:B5 (d.heap.objs.size+4) (d.heap.objs.size+2) (d.heap.objs.size+3) d.heap.objs.size (d.heap.objs.size+1) a b:=
  ⟨f 2 4 ⋯,f 3 4 ⋯,f 0 4 ⋯,f 1 4 ⋯,f 2 3 ⋯,f 2 0 ⋯,f 2 1 ⋯,f 3 0 ⋯,f 3 1 ⋯,f 0 1 ⋯,
   Y 4,Y 3,Y 0,Y 1,g 4,g 3,g 0,g 1⟩
 refine q _ _ _ _ _ _ y D ⟨.inl i,g2,⟨_,_,g3⟩,g0,g1⟩ i λc k=>?_;have j:d.heap.objs.size<=c:=by
  simp only[MQ,MY,or_false]at k;rcases k with rfl|rfl|rfl|rfl|rfl
  ·exact Nt _ _
  ·exact Nt _ _
  ·exact Nt _ _
  ·exact MM _
  ·exact Nt _ _
 exact U.Dj j<|U.ft.fresh j
theorem J8{o:HO}{c p:dy}(h:vR X pins H c)(I:c≠p):vR X pins (upd H p o) c:=⟨by rw[zK I];exact h.1,h.2⟩
end
theorem XH:∀{ds:List D} {ns:List Int},Xh ds=da ns->Y5 ds=da (ns.map OW)
 |[],ns,e=>by cases e;rfl
 | d::ds,ns,e=>by
  cases d with
  |int i=>
   obtain⟨l,a,I⟩:=zI e;subst I;show((CG<|.int i).bind λk=>(Y5 ds).map λr=>k::r)=_;rw[XH a];rfl
  |_=>cases e
theorem Xw:∀(ps acc:List (Key×V)),((acc++ps).map (·.1)).Nodup->me acc ps=acc++ps
 |[],acc,_=>by simp[me]
 |(k,v)::ps,acc,h=>by
  have d:¬((acc.any λI=>decide<|I.1=k)=dj):=λq=>by obtain⟨I,a,b⟩:=Um.mp q;rw[NU,Nn]at h;have:=(List.nodup_append.mp h).2.2 I.1 (Ny.mpr ⟨I,a,rfl⟩) k ⋯;exact this<|of_decide_eq_true b
  show me (dn acc k v) ps=_;rw[show dn acc k v=acc++[(k,v)]by unfold dn;rw[UY d]];rw[Xw ps (acc++[(k,v)]) (by simpa using h)];simp
theorem YX:∀{ns:List Int},ns.Nodup->(ns.map<|OW (β:=Str)).Nodup
 |[],_=>by simp
 |n::ns,h=>by simp only[Nn,Rm,Ny,OW.injEq,exists_eq_right]at h ⊢;exact⟨h.1,YX h.2⟩
section
variable{X:Cx}{pins:UQ}{σ:St}{H:Hp}{s:ej}{p:dy}{mu:List (Key×V)}
theorem Inv.q?(I:Inv X pins σ H s)(O:H p=da (.dK mu)):∃o,Inv X pins σ (upd H p<|.rb o<|.dK mu) s:=by
 have U:=(show l8 X.prog X.w H s.heap p (.dK mu)from I.ft p _ O);obtain⟨o,Y⟩:∃o,s.heap.get? p=da o:=by obtain⟨_,_,_,_,o,_,_,e,_⟩:=U;exact⟨_,e⟩
 exact⟨o,I.write (x:=p) (e:=p) (o:=.rb o (.dK mu)) (t':=s.toks) (h':=s.heap) (by rw[O];exact Pn) (.inl rfl) (λb q a z=>z) ⟨_,Y⟩ ⟨Y,U⟩⟩
end
theorem KJ{K:MC}{H:Hp}{i:Int}:∀{ks vs:List D} {z:List Key} {xs:List V},Y5 ks=da z->z.length=xs.length->ec K H vs xs->
 (∀d,aJ ks vs i=da d->∃v,WI (z.zip xs) (OW i)=da v/\Rep K H d v)/\(aJ ks vs i=none->WI (z.zip xs) (OW i)=none)
 |[],vs,z,xs,e,l,r=>by cases e;exact⟨(λd q=>by cases q),λ_=>rfl⟩
 |k::ks,[],z,xs,e,l,r=>by rw[r.t7]at l ⊢;rw[List.length_eq_zero_iff.mp l];exact⟨(λd q=>by cases q),λ_=>rfl⟩
 | k::ks,v::vs,z,xs,e,l,r=>by
  obtain⟨f,a,g⟩:=zh e;obtain⟨O,h,m⟩:=zI g;subst m;obtain⟨x,U,rfl,o,p⟩:=r.p6;have Y:=KJ (i:=i) h (by simpa using l) p;have step:f≠OW i->WI ((f::O).zip (x::U)) (OW i)=WI (O.zip U) (OW i):=λb=>by rw[Sm];simp[WI,Pp,b]
  cases k with
  | int j=>
   cases a;by_cases I:j=i
   ·subst I
    refine⟨λd q=>⟨x,?_,?_⟩,λq=>?_⟩
    ·rw[Sm];exact X5 rfl
    ·have:v=d:=by simpa[aJ]using q
     exact this ▸ o
    ·simp[aJ]at q
   ·have b:(OW j:Key)≠OW i:=λq=>I (OW.inj q)
    rw[step b];have n:aJ (.int j::ks) (v::vs) i=aJ ks vs i:=by simp[aJ,I]
    rw[n];exact Y
  |str y=>
   cases a;rw[step (λq=>by cases q)];exact Y
  |_=>cases a
noncomputable def oN(g:CO D):CO D:=λa=>(g a).bind λd=>match d with
 |.str y=>if y=("r" : Str)then da (.int 0)else if y=("l" : Str)then da (.int 1)else none
 |_=>none
noncomputable def xK(g:CO (Sk×List D))(z:CO D):CO D:=λb=>(g b).bind λa=>(z b).bind λx=>match a.1 with
 |.L=>if m4 x=dj/\nr a.2=dj then da (.int (a.2.countP λd=>i4 d x:Nat))else none
 |.T=>none
noncomputable def Bm:V->List V->Hp->VK->Prop:=λx a H Q=>∃y j,x=.str "rl"/\a=[.str y]/\Builtin.Str.occurrences "rl" y 0 2 1=[j]/\Q (.int j) H
theorem mY{X:Cx}:N5 X "str.index" Bm:=by intro a s f H x d v b Q I O U h;obtain⟨y,j,rfl,rfl,Y,q⟩:=h;obtain⟨t,rfl⟩:=O;obtain⟨e,rfl,rw⟩:=yA U;obtain⟨u,rfl⟩:=rw;exact call_gives F.slot_str_index (Uy _ _ _) F.entry_str_index (F.args_str_index_2 _ _) (gives_str_index "rl" y t u j [] Y) ⟨.int j,H,I.tok _,⟨_,rfl⟩,q⟩
section
variable{X:Cx}{e:eK}{apos cpos sp:gv}{kd:Nat}{g:CO D}
theorem lY(O:PV X e g)
 (U:((p3 cpos<|starEach [e] X.env).all (λx=> !x.1)&&(E6 cpos<|keywordEach [] X.env).all (λx=>x.1.isSome)&&decide ([e].length+([]:List u0).length+(if ([]:List u0).isEmpty then 0 else 1)<30))=dj:=by rfl)
 (Y:(apos.endLine==cpos.line)=dj:=by rfl) (hs:fA [e] X.env=[(dt,eA e X.env)]:=by rfl):PV X (.Call (.Attribute (.Constant (.str "rl") kd sp) "index" apos) [e] [] cpos) (oN g):=
 qc (VW PySem.F.plainAttrs_str PySem.F.slot_str_index PySem.F.type_str_index mY (show PV X (.Constant (.str "rl") kd sp) (zu (.str "rl"))from j5) (jr O qd hs) rfl U Y hs rfl) λA H Q o=>by
  obtain⟨i,h,d,rc,I,s⟩:=o;obtain⟨m,n,I⟩:=zh I;cases m with
  | str y=>
   have key:∃j:Nat,d=.int j/\Builtin.Str.occurrences "rl" y 0 2 1=[j]:=by
    have I:(if y=("r" : Str)then da (D.int 0)else if y=("l" : Str)then da (.int 1)else none)=da d:=I;by_cases b:y=("r" : Str)
    ·rw[UJ b]at I;cases I;subst b;exact⟨0,rfl,by kernel_rfl⟩
    ·rw[UY b]at I
     by_cases f:y=("l" : Str)
     ·rw[UJ f]at I;cases I;subst f;exact⟨1,rfl,by kernel_rfl⟩
     ·rw[UY f]at I;cases I
   obtain⟨j,rfl,p⟩:=key;refine⟨i,h,.str "rl",rc,rfl,λv z a x r=>?_⟩;rw[show v=.str "rl" from r];refine⟨rfl,a,h,.str y,rc.ext x,n,λu k l w t=>?_⟩;rw[show u=.str y from t];exact⟨y,j,rfl,rfl,p,s _ k l (x.trans w) rfl⟩
  |_=>cases I
end
theorem Xu(I:Inv X pins σ H s)(sub:g5 H0 H)(U:hM X.K H p xs)(r:ec X.K H0 ds xs)(o:nr ds=dj):∃O,Reads s.heap (.ref p) (.list<|o5 ds) O:=by obtain⟨e,Y,q,g⟩:=I.list U;obtain⟨h,d,a,n,b⟩:=q.isList;obtain⟨O,f⟩:=UR I sub o r Y;exact⟨_,.list d a b<|by simpa using f⟩
section
variable{X:Cx}{sc:h7}{N L:List Str}{k:Nat}{a b:eK}{pos:gv}{fa:CO D}{g:CO (Sk×List D)}
theorem SX._p(h:SX X sc N L k):X.A.units+66<Dg:=by have:=h.room.un;omega
end
noncomputable def sI(K:MC):V->List V->Hp->VK->Prop:=λx g H Q=>∃a e v p f b,g5 a H/\x=.ref p/\g=[v]/\Rep K a e v/\hM K H p f/\ec K a b f/\m4 e=dj/\nr b=dj/\Q (.int (b.countP λd=>i4 d e:Nat)) H
theorem XR(hx:kr x=dj):∀ds:List D,nr ds=dj->(o5 ds).countP (λy=>OV y<|kv x)=ds.countP λd=>i4 d x
 |[],_=>by simp[o5]
 |d::ds,h=>by simp only[nr,MO]at h;simp only[o5,List.countP_cons];rw[O5 d x h.1 hx,XR hx ds h.2]
theorem fW(Z:X.A.units+66<Dg):N5 X "list.count" (sI X.K):=by
 intro k s W H x S v R Q I E C h;obtain⟨J,a,y,p,T,f,sub,rfl,rfl,u,o,w,O,U,q⟩:=h;cases E;obtain⟨G,rfl,rw⟩:=yA C;obtain⟨as,z⟩:=F8 I sub (xu O) u rw;obtain⟨bs,B⟩:=Xu I sub o w U;have N:=PySem.SeqAt.depth_of_shaped<|yh O;have Y:=O8 f U;cases B with
 | list i l m j=>
  rename_i r b n L
  obtain⟨P,t,M,g⟩:=r;subst l m;refine PB F.slot_list_count ⟨_,i,rfl⟩ F.entry_list_count (F.args_list_count_2 _ _) (PySem.SeqAt.list_countAt p b n t g G<|λy=>OV (RJ s.heap y)<|kv a) ⟨i,PySem.SeqAt.items_eqAt j z Y (T7 a<|xu O) ?_,?_⟩
  ·have:min (RQ<|o5 f) (kv a).depth<=(kv a).depth:=Us _ _
   omega
  ·have e:b.toList.countP (λy=>OV (RJ s.heap y)<|kv a)=f.countP λd=>i4 d a:=by
    rw[<-XR (xu O) f U,<-RW _ _ _ Y j,SY];rfl
   rw[e];exact⟨.int _,H,I.tok _,⟨_,rfl⟩,q⟩
section
variable{X:Cx}{sc:h7}{N L:List Str}{k:Nat}{o e:eK}{apos cpos:gv}{fa:CO D}{g:CO (Sk×List D)}
theorem wA(h:SX X sc N L k)(ho:PQ X o g)(he:PV X e fa)(z:I8 o "count" X.env (eA o X.env)=eA o X.env:=by rfl)
 (J:((p3 cpos<|starEach [e] X.env).all (λx=> !x.1)&&(E6 cpos<|keywordEach [] X.env).all (λx=>x.1.isSome)&&decide ([e].length+([]:List u0).length+(if ([]:List u0).isEmpty then 0 else 1)<30))=dj:=by rfl)
 (Z:(apos.endLine==cpos.line)=dj:=by rfl) (hs:fA [e] X.env=[(dt,eA e X.env)]:=by rfl):PV X (.Call (.Attribute o "count" apos) [e] [] cpos) (xK g fa):=
 qc (VW Pw PySem.F.slot_list_count PySem.F.type_list_count (fW h._p) ho (jr he qd hs) z J Z hs rfl) λC H Q t=>by
  obtain⟨j,i,d,rc,I,q⟩:=t;obtain⟨⟨u,a⟩,s,I⟩:=zh I;obtain⟨x,n,I⟩:=zh I;cases u with
  |T=>cases I
  | L=>
   have I:(if m4 x=dj/\nr a=dj then da (D.int (a.countP λd=>i4 d x:Nat))else none)=da d:=I;by_cases O:m4 x=dj/\nr a=dj
   ·rw[UJ O]at I;cases I
    refine⟨j,i,.L,a,rc,s,λp f A m x1 b B r=>⟨.inl ⟨rfl,f,b⟩,m,i,x,rc.ext x1,n,λy l Y U w=>?_⟩⟩;exact⟨Y,x,y,p,f,a,U.sub,rfl,rfl,w,U.s1.seq b,r.mono U.s0,O.1,O.2,q _ l Y (x1.trans U) rfl⟩
   ·rw[UY O]at I;cases I
end
noncomputable def ET(f:CO D)(γ:Ctx):Option (List D):=((f γ).bind o6).bind λn=>if inR n=dj/\n.toNat<=lim then da (wy 0 n.toNat)else none
@[simp] def Ap:=@ET.eq_1
def FM(ds es fs:List D):List D:=(ds.zip<|es.zip fs).map λp=>D.tup [p.1,p.2.1,p.2.2]
noncomputable def LK(f g h:CO D)(γ:Ctx):Option (List D):=((f γ).bind jx).bind λm=>((g γ).bind jx).bind λn=>((h γ).bind jx).map λo=>FM m.2 n.2 o.2
@[simp] def HI:=@LK.eq_1
noncomputable def VP(i:Nat)(g:CO (Sk×List D)):CO Fl:=λb=>(xA b[i]?).bind λd=>(g b).bind λa=>match a.1 with
 |.T=>if d.length+a.2.length<=lim then da (.next<|b.set i<|.own<|d++a.2)else none
 |.L=>none
end DL
namespace L2
open PySem PySem.Spec PyProof.Rows
theorem cP(l b:dy)(its:Array d9)(n:Nat)(I:Array d9)(n2:Nat)(o:l7)(Y:¬(!its.isEmpty&&OM (its.size+I.size))=dj)(z:its.size<=fy)(J:its.size+I.size<=fy+1):
 Meets (Builtin.«list.extend» ⟨[.ref l,.ref b],[]⟩) (λ_ R s=>s.heap.get? l=da {cls:=.type "list",dict:=none,data:=.seq its n,slots:=#[]}/\s.heap.get? b=da o/\o.cls=.type "tuple"/\o.data=.seq I n2/\R (.ok (.ret NY)) {s with heap:=s.heap.update l (NQ λx=>x++I)}):=
 .of_wp λa w A R s h=>by
  obtain⟨O,U,f,g,h⟩:=h;have d:(its++I).size<=fy+1:=by rw[Array.size_append];exact J
  refine MD (m:=PySem.selfAndOne "list.extend" ⟨[.ref l,.ref b],[]⟩) (ML ?_);show wpAny _ _ (OQ (.ref l) (.ref b) .none) _ _ s;unfold OQ;refine MD (m:=typeOf (.ref b)) (Rw ⟨o,U,f⟩ ?_);have e:(RU (.ref l) (.ref b) || OP "tuple" == OP "list" || OP "tuple" == OP "tuple")=dj:=by simp
  rw[UJ e];refine MD (m:=a_<|.ref b) ?_;unfold a_;refine MD (m:=seqItems?<|.ref b)<|Ov U g<|ML ?_;refine MD ?_;refine MD (m:=seqItems?<|.ref l)<|Ov O rfl<|ML ?_;rw[UY Y];exact MD (m:=updateSeq l λx=>x++I)<|Sw O rfl (hz:=z) (_hz':=d)<|ML ⟨_,rfl,h⟩
noncomputable def GA(K:MC):V->List V->Hp->VK->Prop:=λx e H Q=>∃l b a d,x=.ref l/\e=[.ref b]/\H l=da (.lst a)/\h8 K H b d/\a.length+d.length<=fy/\Q .el (upd H l<|.lst<|a++d)
theorem ue{X:Cx}:XP X "list.extend" (GA X.K):=by
 intro f s M H x G v E Q I Y y h;obtain⟨l,b,J,L,rfl,rfl,U,j,C,q⟩:=h;cases Y;obtain⟨u,rfl,w⟩:=y.one;cases w;obtain⟨z,a,n,r,B,e⟩:=I.Dl U;obtain⟨O,g,⟨o,p,k,t,m⟩,A⟩:=I.tuple j;have Mb:=r.length;have Ma:=g.length;have d:a.toArray.size+O.toArray.size<=fy:=by rw[MP,MP];omega
 have i:¬(!a.toArray.isEmpty&&OM (a.toArray.size+O.toArray.size))=dj:=by rw[Kx d,Bool.and_false];exact Nd
 refine PB F.slot_list_extend ⟨_,e,rfl⟩ F.entry_list_extend (F.args_list_extend_2 _ _) (cP l b a.toArray n O.toArray t o i (by rw[MP];omega) ⋯) ⟨e,p,k,m,?_⟩;exact⟨.el,_,I.D2 (its':=a++O) U e ⋯ (r.append g) (by rw[NC];omega),rfl,q⟩
end L2
namespace DL
open PySem PySem.Spec PyProof.Rows L2
section
variable{X:Cx}{sc:h7}{N L:List Str}{k:Nat}{a:eK}{g:CO (Sk×List D)}{pos:gv}
theorem mn(i:Nat){x:Str}{z cpos O:gv}(h:SX X sc N L k)(c:Jw sc N i x=dj)(ha:PQ X a g)(hs:fA [a] X.env=[(dt,eA a X.env)]:=by rfl)
 (J:I8 (.Name x O) "extend" X.env (eA (.Name x O) X.env)=eA (.Name x O) X.env:=by rfl)
 (Z:((p3 cpos<|starEach [a] X.env).all (λx=> !x.1)&&(E6 cpos<|keywordEach [] X.env).all (λx=>x.1.isSome)
   &&decide ([a].length+([]:List u0).length+(if ([]:List u0).isEmpty then 0 else 1)<30))=dj:=by rfl)
 (a6:(z.endLine==cpos.line)=dj:=by rfl) (a7:u7 (.Call (.Attribute (.Name x O) "extend" z) [a] [] cpos) none pos.line X.env=pure dt:=by rfl):
 o8 X (.Expr (.Call (.Attribute (.Name x O) "extend" z) [a] [] cpos) pos) (VP i g):=
 yV (Km (VW Pw PySem.F.slot_list_extend PySem.F.type_list_extend ue (h.var c) (jr ha qd hs) J Z a6 hs rfl) a7) λD M H A=>by
  obtain⟨E0,E,r,p,y,U,I,t⟩:=A;obtain⟨d,e,I⟩:=zh I;obtain⟨⟨C,f⟩,w,I⟩:=zh I;have e:=k6 e;cases C with
  |L=>cases I
  | T=>
   have I:(if d.length+f.length<=lim then da (Fl.next<|p.set i<|.own<|d++f)else none)=da y:=I;by_cases Y:d.length+f.length<=lim
   ·rw[UJ Y]at I;cases I
    obtain⟨l,xs,j,K,m,n⟩:=U.rc.own i d e;refine⟨_,j,.inl ⟨rfl,_,hM.of m⟩,r,p,.T,f,U.rc,w,λb o G s x g1 g2 g3=>?_⟩;have B:xs.length+o.length<=fy:=by
     rw[n.length,g3.length];have:lim<=fy:=by decide
     omega
    refine⟨l,b,xs,o,rfl,rfl,x.s1 _ _ m,g1,B,?_⟩;have u:=U.step x;exact t _ _ _<|u.rewrite (xs:=xs) e j<|(n.mono x.s0).append g3
   ·rw[UY Y]at I;cases I
end
noncomputable def eI(f g:CO D)(γ:Ctx):Option (List D):=((f γ).bind jx).bind λm=>((g γ).bind jx).bind λn=>if m.2.length<=lim then da (yY m.2 n.2)else none
@[simp] def oq:=@eI.eq_1
section
variable{prog:ir}{w:g8}{A:lp}{E:EQ}{s:ej}
theorem rz{k1 k2:Sk}{z TI TO J L Y l2:dy}{n:Nat}{xs ys:Array d9}{x y:d9}{Q:Option d9->ej->Prop}(D:B5 z TI TO J L Y l2)
 (Z:Dx k1 k2 z TI TO J L Y l2 n s.heap) (am:n4 k1 s.heap Y xs) (an:n4 k2 s.heap l2 ys) (hx:xs[n]? = da x) (hy:ys[n]? = da y)
 (hQ:∀h',Dx k1 k2 z TI TO J L Y l2 (n+1) h'->nt h' s.heap.objs.size x y->(∀c o,c ∉ [z,TI,TO,J,L]->s.heap.get? c=da o->h'.get? c=da o)->Q (da (.ref s.heap.objs.size)) {s with heap:=h'}):
 wpAny (eF prog w) A (z8<|.ref z) Q E s:=by
 obtain⟨a,j,⟨c,e,m⟩,p,r⟩:=Z;unfold z8;rcases a with a|⟨al,b,oa,a,ha⟩
 ·have U:s.TypeIs (.ref z) "zip":=⟨_,a,rfl⟩
  refine MD (Pc (NG (name:=Nz "__next__") U OD (Oh OD U Rh
   (Ye D a j m p r am an hx hy λg d C f h i F O=>ML ?_) (PZ _))))
  refine hQ g ⟨.inr ⟨s.heap.objs.size,dt,_,d,i⟩,O _ _ D.TIz D.TITO D.TIi1 D.TIi2 j,⟨_,_,C⟩,f,h⟩ i λc o I q=>?_;simp only[MQ,MY,or_false,not_or]at I;exact O c o I.1 I.2.2.1 I.2.2.2.1 I.2.2.2.2 q
 ·have U:s.TypeIs (.ref z) "zip":=⟨_,a,rfl⟩
  refine MD (Pc (NG (name:=Nz "__next__") U OD (Oh OD U Rh
   (dw D a ha j p r am an hx hy λg d f h i F O=>ML ?_) (PZ _))))
  have k:∃l,g.get? al=da l:=by
   by_cases t:al=z
   ·exact⟨_,(congrArg g.get? t).trans d⟩
   ·by_cases u:al=J
    ·obtain⟨o,e,_⟩:=f.obj;exact⟨o,u ▸ e⟩
    ·by_cases B:al=L
     ·obtain⟨o,e,_⟩:=h.obj;exact⟨o,B ▸ e⟩
     ·exact⟨oa,O al oa t u B ha⟩
  obtain⟨l,k⟩:=k;refine hQ g ⟨.inr ⟨al,dj,l,d,k⟩,O _ _ D.TIz D.TIi1 D.TIi2 j,⟨_,_,O _ _ D.TOz D.TOi1 D.TOi2 m⟩,f,h⟩ i λc o I q=>?_;simp only[MQ,MY,or_false,not_or]at I;exact O c o I.1 I.2.2.2.1 I.2.2.2.2 q
end
theorem Dx.keep{k1 k2:Sk}{z TI TO J L a b:dy}{n:Nat}{h h':fh}(Z:Dx k1 k2 z TI TO J L a b n h)(k:∀c ∈ [z,TI,TO,J,L],∀o,h.get? c=da o->h'.get? c=da o)(e:∀c o,h.get? c=da o->∃o',h'.get? c=da o'):Dx k1 k2 z TI TO J L a b n h':=by
 obtain⟨I,O,⟨c,d,U⟩,Y,g⟩:=Z;refine⟨?_,k TI ⋯ _ O,⟨c,d,k TO ⋯ _ U⟩,Y.at λo q=>k J ⋯ o q,g.at λo q=>k L ⋯ o q⟩;rcases I with I|⟨al,bb,oa,I,a4⟩
 ·exact .inl<|k z ⋯ _ I
 ·obtain⟨f,i⟩:=e al oa a4
  exact .inr ⟨al,bb,f,k z ⋯ _ I,i⟩
theorem fj{h:fh}{o z:l7}{c:dy}(I:c≠h.objs.size)(q:(h.push o).get? c=da z):h.get? c=da z:=by unfold Heap.get? Nm at q;unfold Heap.get?;simp only[Array.getElem?_push,UY I]at q;exact q
theorem nJ{H00 Hb H0 H:Hp}{S p:dy}{o J:HO}(E:Ext H00 Hb H0 H)(O:Hb S=none)(U:H0 S=none)(I:H p=none)(Y:p≠S):Ext H00 Hb (upd H0 p o) (upd (upd H p o) S J):=by
 have e:H0 p=none:=jA E.sub I;refine⟨E.s0.trans<|jF e o,λb u q=>?_,λb u q=>?_,λb a d=>?_⟩
 ·have a:=E.s1 b u q
  rw[zK (λz=>by rw[z,O]at q;cases q),zK (λz=>by rw[z,I]at a;cases a)];exact a
 ·by_cases z:b=p
  ·subst z
   rw[zM]at q;rw[zK Y,zM];exact q
  ·rw[zK z]at q
   rw[zK (λy=>by rw[y,U]at q;cases q),zK z];exact E.sub b u q
 ·have:b≠p:=λz=>by
   cases q:Hb b with
   |none=>exact d q
   |some u=>have:=E.s1 b u q;rw[z,I]at this;cases this
  rw[zK this];exact E.new b a d
section
variable{X:Cx}{pins:UQ}{σ:St}{A:lp}{R:Result->ej->Prop}{H00 Hb:Hp}{k1 k2:Sk}{z TI TO i1 i2 a b S:dy}{xs ys:List V}{ds es:List D}{res:d9}
theorem eR{K:MC}{H:Hp}{d e:D}{x y:V}{p:dy}(J:Rep K H d x)(L:Rep K H e y)(I:H p=da (.tup [x,y])):Rep K H (.tup [d,e]) (.ref p):=
 show ∃a xs,V.ref p=.ref a/\h8 K H a xs/\ec K H [d,e] xs from⟨p,[x,y],rfl,.inl<|.inl I,.cons J<|.cons L .nil⟩
theorem gj(hh:A.handled=none)(DA:B5 z TI TO i1 i2 a b)(hS:Hb S=none):∀(m n:Nat) (s:ej) (H H0:Hp) (acc:List D) (vs:List V),n+m=(ds.zip es).length->
 Inv X pins σ H s->Ext H00 Hb H0 H->H0 S=none->m5 k1 X.K H0 a xs->m5 k2 X.K H0 b ys->ec X.K H0 ds xs->ec X.K H0 es ys->ec X.K H0 acc vs->(∀c ∈ [z,TI,TO,i1,i2],vR X pins H c)->Dx k1 k2 z TI TO i1 i2 a b n s.heap->H S=da (.lst vs)->vs.length+m<=fy->
 (∀s' H' J L,Inv X pins σ H' s'->Ext H00 Hb J H'->J S=none->H' S=da (.lst L)->ec X.K J (acc++(yY ds es).drop n) L->R (.ok<|.ret res) s')->
 codeAny (eF X.prog X.w) A (.builtin "list.extend.loop" ⟨[.ref S,.ref z,res],[]⟩) R s:=by
 intro m
 induction m with
 |zero=>
  intro n s H H0 acc vs P I E j t u Y i W B Z g hz hR;obtain⟨b0,l,Q,z1⟩:=I.sq<|vJ E.sub t;obtain⟨bb,p,T,z2⟩:=I.sq<|vJ E.sub u;have l1:=l.length;have l2:=p.length;have l3:=Y.length;have l4:=i.length;simp only[List.length_zip,Td]at P;refine R7 F.entry_extend_loop ?_;rw[Around.under_plainId Sq _];show wpAny _ A.in1 (z8 (.ref z) >>= _) _ _ s;refine MD<|Au (s:=s) hh DA Z Q T (by rw[P];rcases Nat.le_total ds.length es.length with q|q;left;simp;omega;right;simp;omega) λh' k=>?_;refine ML<|hR _ H H0 vs (I.C5 (t':=s.toks) (fp:=[z,TI,TO,i1,i2]) k B) E j g ?_;rw[SS (by unfold yY;simp;omega),Rq];exact W
 | succ m ih=>
  intro n s H H0 acc vs P I E j t u Y i W B Z g hz hR;obtain⟨b0,l,Q,z1⟩:=I.sq<|vJ E.sub t;obtain⟨bb,p,T,z2⟩:=I.sq<|vJ E.sub u;have l1:=l.length;have l2:=p.length;have l3:=Y.length;have l4:=i.length;have ac:n<(ds.zip es).length:=by omega
  have bl:=ac;simp only[List.length_zip]at bl;have hk:ds[n]? = da ds[n]:=MH ⋯;have hy:es[n]? = da es[n]:=MH ⋯;obtain⟨x,ex,rx⟩:=Y.get hk;obtain⟨y,ey,ry⟩:=i.get hy;obtain⟨u1,c1,c2⟩:=l.get ex;obtain⟨u2,c3,c4⟩:=p.get ey;have r:H s.heap.objs.size=none:=I.fresh;have C:s.heap.objs.size≠S:=λq=>by rw[q,g]at r;cases r
  refine R7 F.entry_extend_loop ?_;rw[Around.under_plainId Sq _];show wpAny _ A.in1 (z8 (.ref z) >>= _) _ _ s;refine MD (rz (s:=s) DA Z Q T (x:=u1) (y:=u2) (by simpa using c1) (by simpa using c3) λh' Z' hP k=>?_);have I1:Inv X pins σ (upd H s.heap.objs.size (.tup [x,y])) {s with heap:=s.heap.push {cls:=.type "tuple",data:=.seq #[u1,u2]}}:=
   I.laid (t':=s.toks) (λb o e=>MF _ e) (MM _) (show l8 X.prog X.w _ _ _ (.tup [x,y])from⟨(show 2<=fy by decide),[u1,u2],.cons c2<|.cons c4 .nil,A7.new _ _⟩)
  have np:∀c ∈ [z,TI,TO,i1,i2],c≠s.heap.objs.size:=λc O q=>by
   obtain⟨d,c9,⟨c',e',ca⟩,g1,g2⟩:=Z;obtain⟨o1,G,_⟩:=g1.obj;obtain⟨o2,e2,_⟩:=g2.obj;have N:∃o,s.heap.get? z=da o:=by
    rcases d with d|⟨_,_,_,d,_⟩
    ·exact⟨_,d⟩
    ·exact⟨_,d⟩
   obtain⟨oz,N⟩:=N;simp only[MQ,MY,or_false]at O;rcases O with rfl|rfl|rfl|rfl|rfl
   ·exact absurd q<|MZ<|MR N
   ·exact absurd q<|MZ<|MR c9
   ·exact absurd q<|MZ<|MR ca
   ·exact absurd q<|MZ<|MR G
   ·exact absurd q<|MZ<|MR e2
  have ae:∀c ∈ [z,TI,TO,i1,i2],vR X pins (upd H s.heap.objs.size<|.tup [x,y]) c:=λc O=>J8 (B c O)<|np c O;have I2:=I1.C5 (h':=h') (t':=s.toks) (fp:=[z,TI,TO,i1,i2]) (λc o O q=>by
   by_cases e:c=s.heap.objs.size
   ·rw[e]at q ⊢
    rw[MU _ rfl]at q;cases q;exact hP
   ·exact k c o O<|fj e q) ae
  have am:upd H s.heap.objs.size (.tup [x,y]) S=da (.lst vs):=by rw[zK (NH C)];exact g
  obtain⟨zz,h,c0,rl,ll,M⟩:=I2.Dl am;show wpAny _ A.in1 (updateSeq S (·.push (.ref s.heap.objs.size)) >>= _) _ _ _;refine MD ?_;refine Sw M rfl (ML ⟨plainId_quiet Sq _,?_⟩) (by rw[MP];omega) (by show(h.toArray.push _).size<=fy+1;rw[Array.size_push,MP];omega);have nS:∀c ∈ [z,TI,TO,i1,i2],c≠S:=λc O q=>by have:=(B c O).1;rw[q,g]at this;cases this
  have I3:=I2.D2 (t':=s.toks) (f:=(·.push (.ref s.heap.objs.size))) (its':=h++[.ref s.heap.objs.size]) (ys:=vs++[.ref s.heap.objs.size]) am M ⋯ (rl.append<|.cons (show L2.RelV (.ref s.heap.objs.size) (.ref s.heap.objs.size)from rfl) .nil) (by rw[NC,Pf];omega);have E3:Ext H00 Hb (upd H0 s.heap.objs.size<|.tup [x,y]) (upd (upd H s.heap.objs.size<|.tup [x,y]) S<|.lst<|vs++[.ref s.heap.objs.size]):=nJ E hS j r C;have U:g5 H0 (upd H0 s.heap.objs.size<|.tup [x,y]):=jF (jA E.sub r) _;refine ih (n+1) _ _ _ (acc++[.tup [ds[n],es[n]]]) (vs++[.ref s.heap.objs.size]) ⋯ I3 E3 (by rw[zK (NH C)];exact j) (vJ U t) (vJ U u) (Y.mono U) (i.mono U) ((W.mono U).append (.cons (eR (rx.mono U) (ry.mono U) zM) .nil)) (λc O=>J8 (ae c O)<|nS c O) ?_ zM (by rw[NC,Pf];omega) λs' H' J L I4 E4 y1 y2 y3=>hR s' H' J L I4 E4 y1 y2 ?_
  ·refine Z'.keep (λc O o q=>(Nh _ _<|NH<|nS c O).trans q) λc o q=>?_
   by_cases e:c=S
   ·exact⟨_,by rw[e];exact Oo _ M rfl⟩
   ·exact⟨o,(Nh _ _<|NH e).trans q⟩
  ·have G:(yY ds es).drop n=.tup [ds[n],es[n]]::(yY ds es).drop (n+1):=by
    have:n<(yY ds es).length:=by unfold yY;simpa using ac
    rw[Ra this];congr 1;simp[yY]
   rw[G];rw[List.append_assoc]at y3;exact y3
theorem bj:N0 (.type "zip") "__len__" = pure none:=by rw[Tw,RV];kernel_rfl
theorem VI:N0 (.type "zip") "__length_hint__" = pure none:=by rw[Tw,RV];kernel_rfl
theorem cW{Q:EQ}{H0 H:Hp}{s:ej}(I:Inv X pins σ H s)(hh:X.A.handled=none)(E:Ext H00 Hb H0 H)(DA:B5 z TI TO i1 i2 a b)
 (h1:m5 k1 X.K H0 a xs) (h2:m5 k2 X.K H0 b ys) (r1:ec X.K H0 ds xs) (r2:ec X.K H0 es ys) (Z:Dx k1 k2 z TI TO i1 i2 a b 0 s.heap) (hz:uS s.heap z TI TO .none) (hf:∀c ∈ [z,TI,TO,i1,i2],vR X pins H c) (hl:(ds.zip es).length<=fy)
 (hQ:∀s' H' J S L,Hb S=none->Inv X pins σ H' s'->Ext H00 Hb J H'->J S=none->H' S=da (.lst L)->ec X.K J (yY ds es) L->Q (.ref S) s'):wpAny (eF X.prog X.w) X.A (call (.type "list") [.ref z]) Q X.xe s:=by
 have Y:H s.heap.objs.size=none:=I.fresh;have p:Hb s.heap.objs.size=none:=yo E.s1 Y;have B:H0 s.heap.objs.size=none:=jA E.sub Y;refine callType_codes (Q₁:=λobj d=>obj=.ref s.heap.objs.size/\d = {s with heap:=s.heap.push {cls:=.type "list",data:=.seq #[]}}) F.called_list (F.typeCall_list_1 _) F.entry_list_init (code_list_new _ ⟨rfl,rfl⟩) ?_;rintro obj d ⟨rfl,rfl⟩;have x:Inv X pins σ (upd H s.heap.objs.size (.lst [])) {s with heap:=s.heap.push {cls:=.type "list",data:=.seq #[]}}:=I.x_ (its:=[]) (ys:=[]) (t':=s.toks) .nil (rn _);have t:Ext H00 Hb H0 (upd H s.heap.objs.size (.lst [])):=E.trans (Ext.hide E.sub Y _);have U:(s.heap.push {cls:=.type "list",data:=.seq #[]}).get? s.heap.objs.size=da {cls:=.type "list",data:=.seq #[]}:=MU _ rfl;have nd:∀c ∈ [z,TI,TO,i1,i2],c≠s.heap.objs.size:=λc O q=>by
  obtain⟨W,C,⟨c',e',G⟩,g1,g2⟩:=Z;obtain⟨o1,j,_⟩:=g1.obj;obtain⟨o2,k,_⟩:=g2.obj;simp only[MQ,MY,or_false]at O;rcases O with rfl|rfl|rfl|rfl|rfl
  ·exact absurd q<|MZ<|MR hz
  ·exact absurd q<|MZ<|MR C
  ·exact absurd q<|MZ<|MR G
  ·exact absurd q<|MZ<|MR j
  ·exact absurd q<|MZ<|MR k
 refine⟨⟨_,U,rfl⟩,F.args_list_init_2 _ _,?_⟩;show wpAny _ X.A.in1.in1 (do let bb<-a_ (.ref s.heap.objs.size);Builtin.List.listUpdate (.ref s.heap.objs.size) (λ_=>#[]);letGo bb.toList.reverse;OQ (.ref s.heap.objs.size) (.ref z) .none) _ _ _;refine MD ?_;unfold a_;refine MD (Ov U rfl (ML ?_));show wpAny _ _ (updateSeq s.heap.objs.size (λ_=>#[]) >>= λ_=>letGo (#[]:Array d9).toList.reverse >>= λ_=>OQ (.ref s.heap.objs.size) (.ref z) .none) _ _ _;refine MD (Sw U rfl ?_);have l:=x.D2 (t':=s.toks) (f:=λ_=>#[]) (its:=[]) (its':=[]) (xs:=[]) (ys:=[]) zM U rfl .nil (rn _);rw[Zl]at l;have g:=Oo (NQ (λ_=>(#[]:Array d9))) U rfl;refine MD (N9 ?_);unfold OQ;have h:∀c o,c≠s.heap.objs.size->s.heap.get? c=da o->((s.heap.push {cls:=.type "list",data:=.seq #[]}).update s.heap.objs.size (NQ (λ_=>(#[]:Array d9)))).get? c=da o:=λc o O q=>(Nh _ _ (NH O)).trans (MF _ q);have rr:=h z _ (nd z ⋯) hz;refine MD (Rw (T:="zip") ⟨_,rr,rfl⟩ ?_);have j:RU (.ref s.heap.objs.size) (.ref z)=dt:=by have:=nd z ⋯;simp[RU,NH this]
 have k:(OP "zip" == OP "list")=dt:=by decide
 have N:(OP "zip" == OP "tuple")=dt:=by decide
 simp only[j,k,N,Bool.or_false,NV,if_false];refine MD (UB rr ?_);refine MD (Oy ?_);unfold Builtin.List.listLengthHint;refine MD (wpAny_specialOf (T:="zip") ⟨_,rr,rfl⟩ bj ?_);show wpAny _ _ (specialOf (Nw z) (Nz "__length_hint__") >>= _) _ _ _;refine MD (wpAny_specialOf (T:="zip") ⟨_,rr,rfl⟩ VI ?_);refine ML ?_;show wpAny _ _ (rule "list.extend.makes-room" >>= λ_=>Builtin.List.listTouch (.ref s.heap.objs.size) >>= λ_=>
  again (.builtin "list.extend.loop" ⟨[.ref s.heap.objs.size,.ref z,.none],[]⟩)) _ _ _
 refine MD<|RM ?_;refine MD ?_;show wpAny _ _ (updateSeq s.heap.objs.size (·.push .none) >>= λ_=>updateSeq s.heap.objs.size (·.pop)) _ _ _;refine MD<|Sw g rfl ?_;have i:=Oo (NQ (·.push NY)) g rfl;have m:=l.D2 (t':=s.toks) (f:=(·.push NY)) (its:=[]) (its':=[.none]) (xs:=[]) (ys:=[.el]) zM g rfl (.cons (show L2.RelV .el .none from rfl) .nil) ⋯;rw[Zl]at m;refine Sw (hz:=by seq_fits) i rfl ?_;have M:=Oo (NQ (·.pop)) i rfl;have n:=m.D2 (t':=s.toks) (f:=(·.pop)) (its:=[.none]) (its':=[]) (xs:=[.el]) (ys:=[]) zM i rfl .nil ⋯;rw[Zl]at n;refine ML ⟨plainId_quiet Sq _,?_⟩;refine gj (A:=X.A.in1) (ds:=ds) (es:=es) (xs:=xs) (ys:=ys) (k1:=k1) (k2:=k2) (show X.A.in1.handled=none from hh) DA p (ds.zip es).length 0 _ (upd H s.heap.objs.size<|.lst []) H0 [] [] (NW _) n t B h1 h2 r1 r2 .nil (λc O=>J8 (hf c O)<|nd c O) ?_ zM (by simpa using hl) λs' H' J L y u P R r=>?_
 ·refine Z.keep (λc O o q=>?_) λc o q=>?_
  ·exact(Nh _ _<|NH<|nd c O).trans ((Nh _ _<|NH<|nd c O).trans (h c o (nd c O) q))
  ·by_cases e:c=s.heap.objs.size
   ·exact⟨_,by rw[e];exact M⟩
   ·exact⟨o,(Nh _ _<|NH e).trans ((Nh _ _<|NH e).trans (h c o e q))⟩
 ·rw[Rn,List.drop_zero]at r
  exact⟨rfl,hQ s' H' J _ L p y u P R r⟩
end
section
variable{X:Cx}{sc:h7}{N L:List Str}{k:Nat}{a b:eK}{f g:CO D}{p p2 pos UO:gv}
theorem mz(h:SX X sc N L k)(cd:kW sc "list" = dj)(zd:X.mg "list" = none)(cz:kW sc "zip" = dj)(zz:X.mg "zip" = none)(ha:PV X a f)(hb:PV X b g)
 (hs:fA [.Call (.Name "zip" p2) [a,b] [] UO] X.env=[(dt,eA (.Call (.Name "zip" p2) [a,b] [] UO) X.env)]:=by rfl)
 (J:fA [a,b] X.env=[(dt,eA a X.env),(dt,eA b X.env)]:=by rfl) (Y:fA [b] X.env=[(dt,eA b X.env)]:=by rfl):
 PO X (.Call (.Name "list" p) [.Call (.Name "zip" p2) [a,b] [] UO] [] pos) (eI f g):=by
 intro n s σ H Q I W;obtain⟨l,o,d,rc,O,q⟩:=W;obtain⟨⟨k1,G⟩,B,O⟩:=zh O;obtain⟨F,K,P⟩:=zh B;obtain⟨⟨k2,es⟩,C,O⟩:=zh O;obtain⟨E,M,R⟩:=zh C;have hh:X.A.handled=none:=I.ok.hd h.calm;dsimp only at O;by_cases m:G.length<=lim
 ·rw[UJ m]at O
  cases O;refine OJ (xX I (h.gl cd).1 zd Sh (ND ?_ (by rw[hs];rfl) rfl) ⋯ ⋯);rw[hs];show wpAny _ _ (DP ((dt,eA (.Call (.Name "zip" p2) [a,b] [] UO) X.env)::[])) _ _ s;refine OG (nM (xs:=[]) (ys:=[]) I (h.gl cz).1 zz (jr ha (jr hb qd Y) (by rw[J,Y])) ?_ J Y);refine⟨l,o,F,rc,K,λv i e x r=>⟨e,o,E,rc.ext x,M,λv2 H2 bv U r2=>?_⟩⟩;obtain⟨w,xs,rfl,g1,g2⟩:=Kc (r.mono U.s0) P;obtain⟨y,ys,rfl,g3,T⟩:=Kc r2 R;refine⟨k1,k2,w,y,rfl,⟨xs,vJ U.sub g1⟩,⟨ys,vJ U.sub g3⟩,λs2 z TI TO i1 i2 u t Z hz hf=>PM ?_⟩;have xa:=x.trans U;refine cW (H00:=l) (Hb:=H) u hh xa t g1 g3 g2 T Z hz hf ?_ λs' i e S j y0 y1 y2 y3 y4 y5=>?_
  ·have:lim<=fy:=by decide
   simp only[List.length_zip];omega
  ·exact⟨.ref S,i,y1,rfl,q S j i e y2 y0 y3 y4 y5⟩
 ·rw[UY m]at O;cases O
end
theorem Y3:N0 (.type "list") "keys" = pure none:=by rw[Tw,RV];kernel_rfl
theorem Xi:entryFor table "list.__getattribute__" = da Builtin.«object.__getattribute__» :=
 entryFor_alias (id':="object.__getattribute__") (by kernel_rfl) (by first|rfl|decide +kernel) ⋯ (by kernel_rfl)
section
variable{prog:ir}{w:g8}{A:lp}{E:EQ}{h:fh}{g:Array K_}{d:Drawn}{t:Nat}{os:OsState}{a:dy}{o:l7}
theorem JZ(hx:h.get? a=da ⟨.type "list",none,.seq vs nk,sl⟩)(z:A.handled=none)
 (hE:∀h' e t',(∀b u,h.get? b=da u->h'.get? b=da u)->(∃U,h'.get? e=da U/\U.cls=.type "AttributeError")->E (.ref e) ⟨h',g,d,t',os⟩):
 wpAny (eF prog w) A (Builtin.«object.__getattribute__» ⟨[.ref a,.str "keys" tk],[]⟩) Q E ⟨h,g,d,t,os⟩:=by
 have n:(⟨h,g,d,t,os⟩:ej).TypeIs (.ref a) "list":=⟨_,hx,rfl⟩;have k:=Y3
 repeat (any_goals (first|assumption|wp_step))
 unfold raiseAttrError;have f:((Nz (toString "'" ++ toString ((Manifest.find? "list").elim "list" λx=>x.tpName)++toString "' object has no attribute '")++Nz "keys" ++ Nz "'"):Str).length<=fy:=by decide +kernel
 generalize (Nz (toString "'" ++ toString ((Manifest.find? "list").elim "list" λx=>x.tpName)++toString "' object has no attribute '")++Nz "keys" ++ Nz "'")=I at f ⊢;refine MD (wpAny_mkStr (hx:=f) ?_);refine MD ?_;unfold newExc newTuple;refine MD (Ox ?_ (by size_fits));refine MD (m:=firstArgMember _ _) (wpAny_of_eq (a:=NY) (by first|rfl|(simp only[firstArgMember];rfl)) ?_);refine Ox ?_ (by size_fits);simp only[NA];have O:((h.push {cls:=.type "tuple",data:=.seq #[.str I t]}).push {cls:=.type "AttributeError",data:=.fields (#[.ref h.objs.size,.none,.none,.none,.bool dt,.none]++ownMembersOf (.type "AttributeError") [.str I t])}).get? (h.objs.size+1) =
  da {cls:=.type "AttributeError",data:=.fields (#[.ref h.objs.size,.none,.none,.none,.bool dt,.none]++ownMembersOf (.type "AttributeError") [.str I t])}:=by heap_get
 have Y:∀b u,h.get? b=da u->((h.push {cls:=.type "tuple",data:=.seq #[.str I t]}).push {cls:=.type "AttributeError",data:=.fields (#[.ref h.objs.size,.none,.none,.none,.bool dt,.none]++ownMembersOf (.type "AttributeError") [.str I t])}).get? b=da u:=λb u e=>MF _ (MF _ e);have i:h.get? (h.objs.size+1)=none:=Heap.get?_none_of_le (TK _);generalize ((h.push {cls:=.type "tuple",data:=.seq #[.str I t]}).push {cls:=.type "AttributeError",data:=.fields (#[.ref h.objs.size,.none,.none,.none,.bool dt,.none]++ownMembersOf (.type "AttributeError") [.str I t])})=h2 at O Y ⊢;refine MD (wpAny_mkText ?_);unfold noteAttr lacksNameAndObj;have j:(⟨h2,g,d,t+1+1,os⟩:ej).TypeIs (.ref (h.objs.size+1)) "AttributeError":=⟨_,O,rfl⟩;have l:isSubtype (.type "AttributeError") (.type "AttributeError")=pure dj:=by rw[isSubtype_type];kernel_rfl
 repeat (any_goals (first|assumption|with_reducible refine wpAny_loadPart_at O ?_|with_reducible refine wpAny_load O ?_|wp_step))
 refine wpAny_raiseNew_none z<|hE _ _ _ (λb u e=>?_) ⟨_,Oo _ O<|Obj.isFreed_of_fields<|TY rfl _,Obj.cls_mapFields ..⟩;rw[Nh _ _ (λq=>by rw[<-q]at e;rw[i]at e;cases e)];exact Y b u e
theorem Xe(hx:h.get? a=da ⟨.type "list",none,.seq vs nk,sl⟩)(O:A.handled=none)
 (U:∀h' e t',(∀b u,h.get? b=da u->h'.get? b=da u)->(∃I,h'.get? e=da I/\I.cls=.type "AttributeError")->R (.error (.ref e)) ⟨h',g,d,t',os⟩):
 codeAny (eF prog w) A (.call (.builtin "list.__getattribute__") ⟨[.ref a,.str "keys" tk],[]⟩) R ⟨h,g,d,t,os⟩:=
 TV Rr.plain Xi (Rr.check _ _ _ _ _ _ _ _ (show(⟨h,g,d,t,os⟩:ej).TypeIs (.ref a) "list" from⟨_,hx,rfl⟩) (F.args_list_getattribute_2 _ _) (JZ hx O U))
theorem cF:N0 (.type "list") "__getattr__" = pure none:=by rw[Tw,RV];kernel_rfl
theorem gk(hx:h.get? a=da ⟨.type "list",none,.seq vs nk,sl⟩)(O:A.handled=none)
 (U:∀h' t',(∀b u,h.get? b=da u->h'.get? b=da u)->Q none ⟨h',g,d,t',os⟩):wpAny (eF prog w) A (getAttr? (.ref a) "keys") Q E ⟨h,g,d,t,os⟩:=by
 have o:(⟨h,g,d,t+1,os⟩:ej).TypeIs (.ref a) "list":=⟨_,hx,rfl⟩;have f2:=Rr.lookup;have l:=Rr.bind (.ref a);have m:=cF;have n:isSubtype (.type "AttributeError") (.type "AttributeError")=pure dj:=by rw[isSubtype_type];kernel_rfl
 unfold getAttr? getAttrBy? getAttrBy
 repeat (any_goals (first|assumption|wp_step))
 refine Xe (g:=g) (d:=d) (os:=os) hx O λh' e t' Y I=>?_;obtain⟨i,I,f⟩:=I;have j:(⟨h',g,d,t',os⟩:ej).TypeIs (.ref e) "AttributeError":=⟨i,I,f⟩;have k:=U h' t' Y;show wpAny _ _ (getattributeRaised _ _ _ _ _ _ _) _ _ _;unfold getattributeRaised hookOrError attributeErrorLeaves
 repeat (any_goals (first|assumption|wp_step))
end
noncomputable def wq:List D->Option (List D×List D)
 |[]=>da ([],[])
 | d::r=>match d with
  |.tup a=>match a with
   |[k,v]=>(wq r).map λp=>(k::p.1,v::p.2)
   |_=>none
  |_=>none
def oO(f:CO (List D))(γ:Ctx):Option D:=(f γ).bind λa=>(wq a).bind λp=>nV p.1 p.2
@[simp] def FF:=@oO.eq_1
noncomputable def EV(z I:CO D):CO D:=λa=>(z a).bind λd=>(I a).bind λk=>match d with
 |.n9 b e=>(o6 k).bind λi=>aJ b e i
 |_=>none
noncomputable def Be(I z:CO D):CO D:=λa=>(I a).bind λk=>(z a).bind λd=>match d with
 |.n9 b e=>(o6 k).map λi=>.bl (aJ b e i).isSome
 |_=>none
section
variable{X:Cx}{pins:UQ}{σ:St}{A:lp}{R:Result->ej->Prop}{H0:Hp}{l it d:dy}{ks:List Key}{ys xs:List V}
theorem cU(hh:A.handled=none)(hx:xs.length=ks.length)(hy:ys.length=ks.length)(hp:∀(n:Nat) (h1:n<xs.length) (h2:n<ks.length) (h3:n<ys.length),∃p,xs[n]=.ref p/\h8 X.K H0 p [kV ks[n],ys[n]])(Z:H0 d=none)(ae:l≠d):∀(m n:Nat) (s:ej) (H:Hp) (z:List (Key×V)) (i:Int) (t:ro),n+m=ks.length->
 Inv X pins σ H s->g5 H0 H->H l=da (.lst xs)->s.heap.IsListIter it l n->vR X pins H it->H d=da (.dK z)->z.length+m<=fy->
 (∀s',Inv X pins σ (upd H d<|.dK<|me z<|(ks.zip ys).drop n) s'->R (.ok<|.ret .none) s')->
 codeAny (eF X.prog X.w) A (.builtin "dict.update.loop" ⟨[.ref d,.ref it,.int i t,.none],[]⟩) R s:=by
 intro m
 induction m with
 | zero=>
  intro n s H z i t hn I sub U st f g hz hR;obtain⟨z1,a,c,J,ll,Y⟩:=I.Dl U;refine R7 vi ?_;unfold Builtin.«dict.update.loop»;have j:s.heap.IsList l a.toArray:=⟨_,Y,rfl,_,rfl⟩;refine MD<|wpAny_pyNext_list_end (s:=s) hh st j (by simp;omega) λh' eb=>?_;refine MD<|ML ?_;have e0:upd H d (.dK<|me z<|(ks.zip ys).drop n)=H:=by
   rw[SS (by simp;omega)];funext c;by_cases q:c=d
   ·rw[q,zM,g];rfl
   ·rw[zK q]
  rw[e0]at hR;exact ML (hR _<|I.C5 (t':=s.toks) (fp:=[it]) (λb o O e=>eb b o (by simpa using O) e)<|λb O=>by rw[PJ.mp O];exact f)
 | succ m ih=>
  intro n s H z i t hn I sub U st f g hz hR;obtain⟨z1,a,c,J,ll,Y⟩:=I.Dl U;have j:s.heap.IsList l a.toArray:=⟨_,Y,rfl,_,rfl⟩;have as:n<ks.length:=by omega
  obtain⟨p,ep,N⟩:=hp n ⋯ as ⋯;obtain⟨u,hu,G⟩:=J.get (MH<|show n<xs.length by omega);rw[ep]at G;have eu:u=.ref p:=G;subst eu;refine R7 vi ?_;unfold Builtin.«dict.update.loop»;refine MD<|wpAny_pyNext_list_item (s:=s) st j (x:=.ref p) (by simpa using hu) λh' P sb=>?_;have h:=I.C5 (h':=h') (t':=s.toks) (fp:=[it]) (λb o O e=>(sb.2 b<|by simpa using O).trans e) (λb O=>by rw[PJ.mp O];exact f);obtain⟨ts,rt,⟨o,C,co,nn,Q⟩,zam⟩:=h.tuple<|p4 sub N;obtain⟨u1,r,rfl,S,k⟩:∃u1 r,ts=u1::r/\RelV (kV ks[n]) u1/\f6 [ys[n]] r:=by
   cases rt with
   |cons q1 k=>exact⟨_,_,rfl,q1,k⟩
  obtain⟨u2,rfl,T⟩:=yA k;have W:({s with heap:=h'}:ej).TypeIs (.ref p) "tuple":=⟨_,C,co⟩;refine MD (Oy (MD (wpAny_tryCatch ?_)));unfold Builtin.Dict.pairItems;refine MD (Rw W ?_);rw[UJ ⋯];refine MD (Ov C Q (ML ?_));show wpAny _ _ (holding [u1,u2] (dictSet d u1 u2)) _ _ _;obtain⟨zz,bu,vs,y,dd⟩:=Hq h.ft g;have bv:vs.length<=fy:=by rw[<-y.length];exact zz
  have c0:(dn z ks[n] ys[n]).length<=fy:=by have:=J1 z ks[n] ys[n];omega
  refine Oy<|wpAny_dictSet_pairs (hsz:=bv) (nv S) dd λc1 B E=>?_;have he:∃q,c1.get? d=da q:=let ⟨q,_,_,hq,_⟩:=B;⟨q,hq⟩;have L:=uJ (t':=s.toks+1) h (by rw[g];exact Pn) E he<|Eh c0 bu (y.put ks[n] T) B;have F:it≠d:=λq=>by have:=f.1;rw[q,g]at this;cases this
  refine ML ⟨va _,ih (n+1) _ _ (dn z ks[n] ys[n]) (i+1) 0 ⋯ L (λc o e=>?_) (by rw[zK ae];exact U) (P.at λo q=>(E.2 it F).trans q) ⟨by rw[zK F];exact f.1,f.2⟩ zM (by have:=J1 z ks[n] ys[n];omega) λs' M=>hR s' ?_⟩
  ·rw[zK (λq=>by rw[q,Z]at e;cases e)];exact sub _ _ e
  ·have c6:n<(ks.zip ys).length:=by simp;omega
   have e1:(ks.zip ys).drop n=(ks[n],ys[n])::(ks.zip ys).drop (n+1):=by rw[Ra c6];simp
   have e2:upd (upd H d<|.dK<|dn z ks[n] ys[n]) d (.dK<|me (dn z ks[n] ys[n])<|(ks.zip ys).drop (n+1))=upd H d (.dK<|me z<|(ks.zip ys).drop n):=by
    funext c;by_cases q:c=d
    ·rw[q,zM,zM,e1];rfl
    ·rw[zK q,zK q,zK q]
   rw[<-e2];exact M
theorem cX(I:Inv X pins σ H s)(z:X.A.handled=none)(sub:g5 H0 H)(O:H l=da (.lst xs))(hx:xs.length=ks.length)(Z:ys.length=ks.length)
 (L:∀(n:Nat) (h1:n<xs.length) (h2:n<ks.length) (h3:n<ys.length),∃p,xs[n]=.ref p/\h8 X.K H0 p [kV ks[n],ys[n]]) (hz:ks.length<=fy)
 (J:∀s' p,H p=none->Inv X pins σ (upd H p (.dK (me [] (ks.zip ys)))) s'->Q (.ref p) s'):wpAny (eF X.prog X.w) X.A (call (.type "dict") [.ref l]) Q X.xe s:=by
 have U:H s.heap.objs.size=none:=I.fresh;have y:H0 s.heap.objs.size=none:=jA sub U;have m:l≠s.heap.objs.size:=λq=>by rw[q,U]at O;cases O
 refine callType_codes (Q₁:=λobj f=>obj=.ref s.heap.objs.size/\f = {s with heap:=s.heap.push {cls:=.type "dict",data:=.dict #[]}}) F.kt_called_dict (F.kt_typeCall_dict_1 _) F.entry_dict_init (kt_code_dict_new _ ⟨rfl,rfl⟩) ?_;rintro obj f ⟨rfl,rfl⟩;have u:=I.laid (a:=s.heap.objs.size) (o:=.dK []) (t':=s.toks) (λ_ _ q=>MF {cls:=.type "dict",data:=.dict #[]} q) (MM _) (nU s.heap I.big);have r:({s with heap:=s.heap.push {cls:=.type "dict",data:=.dict #[]}}:ej).TypeIs (.ref s.heap.objs.size) "dict":=⟨_,MU _ rfl,rfl⟩;obtain⟨P,h,c,N,M,C⟩:=I.Dl O;have Y:(s.heap.push {cls:=.type "dict",data:=.dict #[]}).get? l=da {cls:=.type "list",data:=.seq h.toArray c}:=MF _ C;refine⟨r,F.args_dict_init_2 _ _,?_⟩;unfold Builtin.«dict.__init__»;refine MD ?_;unfold Builtin.Dict.selfAndRest;refine MD (wpAny_notOrdered_dict r ?_);show wpAny _ _ (pure (s.heap.objs.size,[Nw l])) _ _ _;refine ML ?_;show wpAny _ _ (Builtin.Dict.updateFrom "dict.__init__" s.heap.objs.size (.ref l) [] .none) _ _ _;unfold Builtin.Dict.updateFrom;refine MD (Rw (T:="list") ⟨_,Y,rfl⟩ ?_);rw[UJ ⋯];refine MD (gk (g:=s.gens) (d:=s.drawn) (t:=s.toks) (os:=s.os) Y (show X.A.in1.in1.handled=none from z) λh' t' k=>?_);have i:Inv X pins σ (upd H s.heap.objs.size (.dK [])) {s with heap:=h',toks:=t'}:=u.kept k;have B:=k _ _ Y;simp only[Option.isNone_none,if_true];refine MD (RM (MD (Uw (items:=h.toArray) ⟨_,B,rfl,_,rfl⟩ ?_)));refine ML ⟨va _,?_⟩;have x:=i.kept (h':=h'.push {cls:=.type "list_iterator",data:=.fields #[.ref l,.int 0 0]}) (t':=t') λb o e=>MF _ e;have G:s.heap.objs.size<h'.objs.size:=by have:=MR (k _ _ (MU s.heap (o:={cls:=.type "dict",data:=.dict #[]}) rfl));exact this
 have E:=i.Dj (b:=h'.objs.size) (H':=upd H s.heap.objs.size<|.dK []) (MM _) i.fresh;refine cU (H0:=H0) (l:=l) (it:=h'.objs.size) (ks:=ks) (ys:=ys) (xs:=xs) (show X.A.in1.handled=none from z) hx Z L y m ks.length 0 _ (upd H s.heap.objs.size<|.dK []) [] 0 0 (NW _) x (sub.trans<|jF U _) (by rw[zK m];exact O) ⟨_,MU _ rfl,rfl,rfl⟩ E zM (by simpa using hz) λs' j=>?_;rw[Zl,List.drop_zero]at j;exact⟨rfl,J s' _ U j⟩
end
theorem Yl:∀{ps ks vs:List D},wq ps=da (ks,vs)->ks.length=ps.length/\vs.length=ps.length
 |[],ks,vs,h=>by cases h;exact⟨rfl,rfl⟩
 | d::r,ks,vs,h=>by
  unfold wq at h;split at h
  ·split at h
   ·obtain⟨⟨a,b⟩,e,I⟩:=zI h
    cases I;obtain⟨f,g⟩:=Yl e;exact⟨by simp[f],by simp[g]⟩
   ·cases h
  ·cases h
theorem Xm{K:MC}{H:Hp}:∀{ps ks vs:List D} {xs:List V} {ns:List Int},wq ps=da (ks,vs)->ec K H ps xs->Xh ks=da ns->
 ∃ys,ec K H vs ys/\ys.length=ns.length/\xs.length=ns.length/\∀(n:Nat) (z:n<xs.length) (J:n<ns.length) (I:n<ys.length),∃p,xs[n]=.ref p/\h8 K H p [.int ns[n],ys[n]]
 |[],ks,vs,xs,ns,h,r,hi=>by cases h;cases hi;rw[r.t7];exact⟨[],ec.nil,rfl,rfl,λn z=>by cases z⟩
 | d::ps,ks,vs,xs,ns,h,r,hi=>by
  unfold wq at h;split at h
  ·split at h
   ·rename_i k v
    obtain⟨⟨a,b⟩,e,O⟩:=zI h;cases O;obtain⟨x,B,rfl,z,J⟩:=r.p6;cases k with
    |int j=>
     obtain⟨A,U,Y⟩:=zI hi;subst Y;obtain⟨ys,o,s,t,u⟩:=Xm e J U;obtain⟨q,F,rfl,I,f⟩:=y8 z;obtain⟨C,E,rfl,g,i⟩:=f.p6;obtain⟨w,y,rfl,l,m⟩:=i.p6;rw[m.t7,jN g]at I;refine⟨w::ys,ec.cons l o,by simp[s],by simp[t],λn g1 g2 g3=>?_⟩;cases n with
     |zero=>exact⟨q,rfl,I⟩
     |succ n=>exact u n (by simpa using g1) (by simpa using g2) (by simpa using g3)
    |_=>cases hi
   ·cases h
  ·cases h
section
variable{X:Cx}{sc:h7}{N L:List Str}{k:Nat}{a o i:eK}{f:CO (List D)}{fd fk:CO D}{p pos:gv}
theorem lZ(h:SX X sc N L k)(J:kW sc "dict" = dj)(zd:X.mg "dict" = none)(Z:PO X a f)(hs:fA [a] X.env=[(dt,eA a X.env)]:=by rfl):
 PV X (.Call (.Name "dict" p) [a] [] pos) (oO f):=by
 intro g s σ H Q I r;obtain⟨H0,γ,d,rc,O,q⟩:=r;obtain⟨z,C,O⟩:=zh O;obtain⟨⟨b,j⟩,x,O⟩:=zh O;have M:X.A.handled=none:=I.ok.hd h.calm;unfold nV at O;cases hi:Xh b with
 |none=>rw[show(b,j).1=b from rfl,hi]at O;cases O
 | some e=>
  rw[show(b,j).1=b from rfl,hi]at O;dsimp only at O;by_cases u:b.length=j.length/\e.Nodup/\b.length<=lim
  ·rw[UJ u]at O
   cases O;refine Call_<|xX I (h.gl J).1 zd PyProof.Rows.boot_dict (ND ?_ (by rw[hs];rfl) rfl);rw[hs];show wpAny _ _ (DP ((dt,eA a X.env)::[])) _ _ s;refine OG<|f7 (Z g s σ H (λv i=>∃l xs U,v=.ref l/\Ext H0 H U i/\U l=none/\i l=da (.lst xs)/\ec X.K U z xs) I ⟨H0,γ,z,rc,C,λl xs i U x1 g1 g2 g3 m=>⟨l,xs,U,rfl,x1,g2,g3,m⟩⟩) λv s1 r=>?_;obtain⟨y,i,B,W,l,xs,U,rfl,x1,g2,g3,m⟩:=r;cases W;refine PM ?_;obtain⟨ys,P,R,S,T⟩:=Xm x m hi;have w:(e.map<|OW (β:=Str)).length=e.length:=by simp
   have nl:e.length=b.length:=by have:=(Yl x).1;have:=m.length;omega
   refine cX (H0:=U) (ks:=e.map OW) (ys:=ys) (xs:=xs) B M x1.sub g3 (by rw[w];exact S) (by rw[w];exact R) (λn E F G=>?_) ?_ λs' p o Y=>?_
   ·obtain⟨t,t1,t2⟩:=T n E (by simpa using F) G
    refine⟨t,t1,?_⟩;simpa[kV]using t2
   ·have:lim<=fy:=by decide
    rw[w];omega
   ·have as:me [] ((e.map<|OW (β:=Str)).zip ys)=(e.map OW).zip ys:=by
     rw[Xw _ []]
     ·simp
     ·rw[Rn,List.map_fst_zip ⋯]
      exact YX u.2.1
    rw[as]at Y;obtain⟨of,Y⟩:=Inv.q? Y zM;rw[Zl]at Y;exact⟨.ref p,_,Y,rfl,q (.ref p) _ _ ((x1.trans<|Ext.hide x1.sub o _).show (yo x1.s1 o) (jA x1.sub o) zM rc.sub)
     (show ∃a xs,V.ref p=.ref a/\D7 (upd U p _) a b xs/\ec X.K (upd U p _) j xs from⟨p,ys,rfl,⟨_,XH hi,by omega,of,zM⟩,P.mono<|jF (jA x1.sub o) _⟩)⟩
  ·rw[UY u]at O;cases O
theorem Bu(h:SX X sc N L k)(Z:PV X o fd)(J:PV X i fk)(hs:Iu i:=by intro _ _;rfl):PV X (.Subscript o i pos) (EV fd fk):=
 qc (tI (by have:=h.N1;omega) Z J hs) λS H Q B=>by
  obtain⟨g,f,d,rc,I,q⟩:=B;obtain⟨s,t,I⟩:=zh I;obtain⟨P,u,I⟩:=zh I;cases s with
  |n9 E G=>
   obtain⟨j,w,z⟩:=zh I;refine⟨g,f,_,rc,t,λv M O x r=>⟨O,f,_,rc.ext x,u,λy l m U e=>?_⟩⟩;obtain⟨ad,b,rfl,⟨R,g1,g2,F,g3⟩,A⟩:=(show ∃a b,v=.ref a/\D7 O a E b/\ec X.K O G b from r);rw[jV w]at e;have C:y=.int j:=e;obtain⟨Y,n,p⟩:=(KJ (i:=j) g1 g2<|A.mono U.s0).1 d z;refine⟨ad,Y,rfl,?_,q Y l m (x.trans U) p⟩;rw[C,<-n];exact .inl ⟨_,OW j,.inr ⟨F,U.s1 _ _<|x.sub _ _ g3⟩,rfl,rfl⟩
  |_=>cases I
theorem sS(h:SX X sc N L k)(Z:PV X i fk)(ho:PV X o fd)(hm:Dd .In o=dt:=by with_unfolding_all rfl):ow X (.Compare i [.In] [o] pos) (sB<|Be fk fd):=
 bO (By (BP (by have:=h.N1;omega) Z ho) hm) λσ H Q P=>by
  obtain⟨p,n,b,rc,I,q⟩:=P;obtain⟨W,B,J⟩:=zh I;obtain⟨k1,C,I⟩:=zh B;obtain⟨z,E,I⟩:=zh I;cases z with
  | n9 g m=>
   obtain⟨j,F,G⟩:=zI I;subst G;cases J;refine⟨p,n,_,rc,C,λy S s x Y=>⟨s,n,_,rc.ext x,E,λv e O U r=>?_⟩⟩;obtain⟨ad,d,rfl,⟨kk,g1,g2,l,g3⟩,M⟩:=(show ∃a d,v=.ref a/\D7 O a g d/\ec X.K O m d from r);rw[jV F]at Y;have f:y=.int j:=Y;obtain⟨t,u⟩:=KJ (i:=j) g1 g2 M;cases hv:aJ g m j with
   | none=>
    refine⟨ad,none,rfl,?_,_,rfl,?_⟩
    ·rw[f,<-u hv]
     exact .inl ⟨_,OW j,.inr ⟨l,U.sub _ _ g3⟩,rfl,rfl⟩
    ·rw[hv]at q;exact q e O<|x.trans U
   | some A=>
    obtain⟨R,w,T⟩:=t A hv;refine⟨ad,da R,rfl,?_,_,rfl,?_⟩
    ·rw[f,<-w]
     exact .inl ⟨_,OW j,.inr ⟨l,U.sub _ _ g3⟩,rfl,rfl⟩
    ·rw[hv]at q;exact q e O<|x.trans U
  |_=>cases I
end
def GZ:D->Option (List Int)
 |.tup a=>Xh a
 |_=>none
noncomputable def Cy:List D->Option (List<|List Int)
 |[]=>da []
 |d::ds=>(GZ d).bind λk=>(Cy ds).map λr=>k::r
noncomputable def IC(f:CO (List D))(γ:Ctx):Option D:=(f γ).bind λb=>(wq b).bind λp=>(Cy p.1).bind λa=>if a.Nodup/\a.length<=lim then da (.ng a p.2)else none
noncomputable def Hi:List (List Int)->List D->List Int->Option D
 |k::ks,v::vs,i=>if k=i then da v else Hi ks vs i
 |_,_,_=>none
noncomputable def LR(z I:CO D)(γ:Ctx):Option D:=(z γ).bind λd=>(I γ).bind λk=>match d with
 |.ng a b=>(GZ k).bind λi=>Hi a b i
 |_=>none
noncomputable def Hh(d k x:D):Option D:=match d with
 |.ng a b=>(GZ k).map λi=>(Hi a b i).getD x
 |_=>none
noncomputable def LO(z I fx:CO D)(γ:Ctx):Option D:=(z γ).bind λd=>(I γ).bind λk=>(fx γ).bind λx=>Hh d k x
noncomputable def LM(f:CO D)(γ:Ctx):Option (List D):=(f γ).bind λd=>match d with
 |.ng a _=>da (a.map λk=>.tup (k.map .int))
 |_=>none
section
variable(γ:Ctx)
@[simp] def FE:=@IC.eq_1
@[simp] def Ih:=@LR.eq_1
@[simp] def Ia:=@LO.eq_1
@[simp] def HY:=@LM.eq_1
end
noncomputable def IQ:List (List Int)->List Int->List Int->Option Int
 |k::ks,n::ns,i=>if k=i then da n else IQ ks ns i
 |_,_,_=>none
noncomputable def eqT(ks:List (List Int))(ns:List Int)(I:List (List Int))(O:List Int):Bool:=decide (ks.length=I.length)&&(ks.zip ns).all λx=>decide<|IQ I O x.1=da x.2
noncomputable def IU(d e:D):Option Bool:=match d with
 |.ng b g=>match e with
  |.ng I a=>(Xh g).bind λf=>(Xh a).map λO=>eqT b f I O
  |_=>none
 |_=>none
@[simp] def MB(d e:D):Option D:=(IU d e).map D.bl
@[simp] def MA(d e:D):Option D:=(IU d e).map λb=>D.bl<|!b
noncomputable def LL(f:CO D)(γ:Ctx):Option D:=(f γ).bind λd=>match d with
 |.ng a _=>da (.int a.length)
 |_=>none
@[simp] def HW:=@LL.eq_1
abbrev TT:=List (List (List Int))
inductive Pl where
 |out|tab (k:Nat)|row (k m:Nat)
deriving DecidableEq
section
variable{K:MC}{al:List (Nat×Pl)}{E0 E H0 H C7 H':Hp}{σ J':St}{γ γ':Ctx}{Z:TT}{ad:Pl->dy}
open Classical in
end
open Classical in
section
variable{H:Hp}{Z:TT}{ad:Pl->dy}
end
end DL
namespace DL
open PySem PySem.Spec PyProof.Rows L2
open PySem.W (KasT kas_sort kas_ask kat_run kat_snds kat_lt kat_cons kat_no kat_yes kat_nil kat_go kat_one kat_kind KatTups KatGo)
section
variable{prog:ir}{w:g8}{A:lp}{E:EQ}{s:ej}
theorem aE{a kS:dy}{O:List d9}{out:List d9}{e z:Nat}{P:PySem.Fin->ej->Prop}{st:SortSt}(U:s.heap.get? kS=da (seqObj "list" O.toArray e))(Z:s.heap.get? a=da (seqObj "list" #[] z))(Y:kS≠a)(J:O.length<=fy)(L:out.length<=fy)
 (ho:(arrOf st).map (·.2)=out.toArray) (hf:failedOf st=none)
 (h:∀h' c,h'.objs.size=s.heap.objs.size->(∀b o,b≠a->b≠kS->s.heap.get? b=da o->h'.get? b=da o)->h'.get? a=da (seqObj "list" out.toArray c)->P (.done (.ret .none)) {s with heap:=h'}):
 wpAny (eF prog w) A (ksk_tail a dt z (.ref kS) st) P E s:=by
 unfold ksk_tail;refine MD (Uq U rfl ?_ (by rw[MP];exact J) (rn _));refine MD (N9 ?_);have I:(s.heap.update kS (NQ λ_=>(#[]:Array d9))).get? a=da (seqObj "list" #[] z):=(Nh _ _ Y).trans Z;refine MD (seqEpoch_at I rfl ?_);simp only[NV,if_false];rw[ho];refine MD (Uq I rfl ?_ (rn _) (by show out.toArray.size<=_;rw[MP];exact Nat.le_succ_of_le L));rw[hf];simp only[bne_self_eq_false,NV,if_false];obtain⟨c,g⟩:∃c,((s.heap.update kS (NQ λ_=>(#[]:Array d9))).update a (NQ λ_=>out.toArray)).get? a=da (seqObj "list" out.toArray c):=⟨_,get?_update_seq I λ_=>out.toArray⟩;refine ML (h _ c (by rw[SR,SR]) (λb o d f q=>?_) g);exact(Nh _ _ (NH d)).trans ((Nh _ _ (NH f)).trans q)
theorem uh{a kS:dy}{vs I:List d9}{ps:List (Int×Int)}{e z:Nat}{P:PySem.Fin->ej->Prop}(hk:s.heap.get? kS=da (seqObj "list" I.toArray e))(ha:s.heap.get? a=da (seqObj "list" #[] z))(aa:kS≠a)(ab:I.length=vs.length)(J:ps.length=vs.length)(as:vs.length<64)
 (L:∀i (Z:i<I.length),S0 s.heap I[i] (ps.getD i (0,0)).1 (ps.getD i (0,0)).2)
 (h:∀h' c,h'.objs.size=s.heap.objs.size->(∀b o,b≠a->b≠kS->s.heap.get? b=da o->h'.get? b=da o)->h'.get? a=da (seqObj "list" (Sn ((kK ps).map λi=>vs.getD i NY)) c)->P (.done (.ret .none)) {s with heap:=h'}):
 wpAny (eF prog w) A (ksk_end a dt vs.toArray z (.ref kS) I.toArray) P E s:=by
 have hz:vs.length<=fy:=by rw[RN];omega
 have n:vs.toArray.size=vs.length:=by simp
 have c4:((kK ps).map λi=>vs.getD i NY).length=vs.length:=by rw[Nf,(qU ps).length_eq,Og,J]
 have step:∀t:n0 PySem.Fin,wpAny (eF prog w) A t P E s->wpAny (eF prog w) A (if dt=dj then (do let _<-rule "list.sort.reverse";t)else t) P E s:=λt ht=>ht;unfold ksk_end
 try dsimp only
 refine step _ ?_;by_cases g:vs.toArray.size<2
 ·rw[UJ g,UJ g]
  refine MD<|ML ?_;rw[StateT.run_pure];refine MD<|ML ?_;dsimp only;have ev:(kK ps).map (λi=>vs.getD i NY)=vs:=by unfold kK;rw[UJ ⋯,J];exact jG _ _
  have e7:Array.map (λx=>x.snd) (arrOf<|SortSt.mk' general' (I.toArray.zip vs.toArray) #[] 7 none)=((kK ps).map (λi=>vs.getD i NY)).toArray:=by show Array.map (λx=>x.snd) (I.toArray.zip vs.toArray)=_;rw[ev];apply Array.ext';simp[Array.toList_map,Array.toList_zip];rw[List.map_snd_zip ⋯]
  exact aE hk ha aa ⋯ ⋯ e7 rfl h
 ·rw[UY g,UY g]
  have n2:2<=vs.length:=by rw[<-n];omega
  obtain⟨fs,f1,f2,f3⟩:=pI (ks:=λi=>(ps.getD i (0,0)).1) λi Z=>(L i Z).one;refine MD (kat_kind (T:=OP "int") f1 ⋯ (λv hv=>?_) ⋯ ?_)
  ·obtain⟨k,t,rfl⟩:=f3 v hv
   exact To.of_pure rfl
  have ep:(ky (λi j=>wN (ps.getD i (0,0))<|ps.getD j (0,0))<|kas_sort vs.length).toList=kK ps:=by unfold kK;rw[UY ⋯,J]
  refine MD (Nv (kat_run (E:=E) (ks:=I) (Q:=λf d=>∃p:Array Nat,arrOf f=p.map (PySem.W.kas_item<|I.toArray.zip vs.toArray)/\failedOf f=none/\p.toList=kK ps/\d=s)
   (G:=λp d=>p.toList=kK ps/\d=s)
   ab n2 as (λp f d a1 N R r=>⟨p,N,R,r.1,r.2⟩) (gQ (lt:=λi j=>wN (ps.getD i (0,0))<|ps.getD j (0,0)) (λi j C Z hj O=>?_) (Vg ⋯) ⟨ep,rfl⟩)) ?_ λ_ _ e=>e)
  ·show wpAny _ _ (keyLt' _ (I.getD i NY)<|I.getD j NY) C _ _
   have B:i<I.length:=by omega
   have F:j<I.length:=by omega
   rw[show I.getD i NY=I[i]by simp[B],show I.getD j NY=I[j]by simp[F]];obtain⟨x,ox,xs,m,t,u,z,e2,e3,e4,M⟩:=L i B;obtain⟨y,oy,ys,m',t',u',d1,d2,d3,d4,K⟩:=L j F;rw[z,d1];refine kat_lt e2 e4 d2 d4 ?_;have S:xs.size=2:=by rw[<-ON,M];rfl
   have X:ys.size=2:=by rw[<-ON,K];rfl
   rw[M,K,S,X,Sm,Sm];unfold wN at O;generalize ps.getD i (0,0)=Y at O ⊢;generalize ps.getD j (0,0)=X2 at O ⊢;refine kat_cons<|SU Y.1 t X2.1 t' _ _ _ _ ?_;refine kat_go (λU=>?_) λU=>?_
   ·have U:Y.1=X2.1:=by simpa using U
    rw[UJ U]at O;refine kat_yes<|kat_cons<|SU Y.2 u X2.2 u' _ _ _ _<|kat_go (λl=>?_) λl=>?_
    ·have l:Y.2=X2.2:=by simpa using l
     refine kat_yes<|kat_nil ?_;rw[show decide (Y.2<X2.2)=dt by rw[l];simp]at O;exact O
    ·exact kat_no<|kat_one _ _<|lt_int O
   ·have U:Y.1≠X2.1:=by simpa using U
    rw[UY U]at O;exact kat_no<|oneLt_int O
  rintro⟨⟨⟩,f⟩ d ⟨p,c2,hf,hp,rfl⟩;dsimp only;have H:=kat_snds ab c2;rw[hp]at H;exact aE hk ha aa ⋯ ⋯ H hf h
end
end DL
namespace DL
open PySem PySem.Spec PyProof.Rows L2
section
variable{X:Cx}{pins:UQ}{σ:St}{H:Hp}{s:ej}{a:dy}{o:HO}
theorem gF(I:Inv X pins σ H s)(f:vR X pins H a)(new:l8 X.prog X.w (upd H a o) s.heap a o):Inv X pins σ (upd H a o) s:=by
 obtain⟨f1,f2,y,j,k,l⟩:=f;have d:∀b u,H b=da u->b≠a:=λb u q z=>by rw[z,f1]at q;cases q
 refine⟨I.ok,I.os,I.bare,⟨I.base.keep,I.base.slot,λb U q n h=>?_,I.base.there,λb i q=>?_,λb U u q=>?_,λb t q=>?_⟩,I.loc,I.cell,?_,λx c e=>?_,λp g=>?_,λb u e=>?_,I.len⟩
 ·have O:b≠a:=λz=>by
   rcases j with Y|Y
   ·exact h<|z ▸ Y
   ·have:=MR q
    rw[z]at this;exact absurd this<|Nat.not_lt_of_le Y
  rw[zK O];exact I.base.free b U q n h
 ·have:=I.base.vl b i q
  rw[zK (d b _ this)];exact this
 ·have:=I.base.wa b U u q
  rw[zK (d b _ this)];exact this
 ·obtain⟨m,this⟩:=I.base.u9 b t q
  exact⟨m,by rw[zK (d b _ this)];exact this⟩
 ·rw[zK (NH f2)];exact I.free
 ·rw[zK (k x c e)];exact I.vu x c e
 ·obtain⟨e,n,r⟩:=I.pin p g
  exact⟨e,by rw[zK (l p g)];exact n,r⟩
 ·by_cases O:b=a
  ·subst O;rw[zM]at e;cases e;exact new
  ·rw[zK O]at e
   exact(I.ft b u e).A5 (λ_ _ _ q=>q) (λc q=>by rw[zK (d c _ q)];exact q) λc i q=>by rw[zK (d c _ q)];exact q
theorem sF{A:lp}{Q:VK}{us:List d9}{vs:List V}{CX:wo}{k:Nat}{f:dy}{z:sa}{ps:List Str}{sp:Sp}(F:r9 X.prog X.w X.K X.mg X.base uR k f z ps sp)(U:pf k A)(Y:Dt X.prog X.w X.K X.mg X.base A X.stack s H)(J:Binds X.K z ps [])
 (I:Inv X pins σ H s) (r:f6 vs us) (h:sp vs H Q E0):wpAny (eF X.prog X.w) A (call (.ref f) us) (EP X pins σ Q) (λ_ _=>False) s:=by
 have b:us.length=ps.length:=by rw[<-r.length];exact F.len _ _ _ _ h
 refine Ux<|SJ (F.run A X.stack s H ⟨us,[]⟩ us vs Q E0 U Y (by simpa using J s us I.m3 (by simpa using b)) r h) λr d O=>?_;cases r with
 |error e=>exact O.elim
 |ok a=>
  cases a with
  |ret u=>exact I.after O
  |next=>exact Pk O
  |brk=>exact Pk O
  |cont=>exact Pk O
theorem Bj(I:Inv X pins σ H s)(J:vR X pins H kS)(z:vR X pins H a)(U:s.heap.get? kS=da ok)(L:s.heap.get? a=da oa)(Y:∀v,ok.data ≠ .cell v)(na:∀v,oa.data ≠ .cell v):Inv X (pins++[(kS,ok),(a,oa)]) σ H s:=
 I.UN λp O=>by
  rcases RZ.mp O with O|O
  ·exact I.pin p<|Nb _ O
  ·rcases MQ.mp O with rfl|O
   ·exact⟨U,J.1,J.2.1,J.2.2.1,Y⟩
   ·rw[PJ.mp O];exact⟨L,z.1,z.2.1,z.2.2.1,na⟩
theorem Az(I:Inv X (pins++more) σ H s):Inv X pins σ H s:=I.UN λp O=>I.pin p<|Nb _<|Ti _ O
end
def YL(ps:List (Int×Int)):List D:=ps.map λp=>D.tup [.int p.1,.int p.2]
section
variable{X:Cx}{pins:UQ}{σ:St}{F:List D->Option Res}{k:Nat}{f:dy}{fd:sa}{pr:List Str}{A:lp}{E:EQ}
theorem rP(I:Inv X pins σ H s)(sub:g5 H0 H)(r:Rep X.K H0 (.tup [.int i,.int j]) v)(J:RelV v u):S0 s.heap u i j:=by
 obtain⟨b,L,rfl,e,h⟩:=y8 r;obtain⟨y,G,g,k,l⟩:=h.p6;obtain⟨F,C,d,m,p⟩:=l.p6;rw[p.t7]at d;rw[g,d,jN k,jN m]at e;cases J;obtain⟨f,B,⟨o,z,w,n,x⟩,_⟩:=I.tuple<|p4 sub e;obtain⟨O,U,rfl,Y,a⟩:∃O U,f=O::U/\RelV (.int i) O/\f6 [.int j] U:=by
  cases B with
  |cons Y a=>exact⟨_,_,rfl,Y,a⟩
 obtain⟨E,rfl,A⟩:=yA a;obtain⟨t,rfl⟩:=Y;obtain⟨u,rfl⟩:=A;exact⟨b,o,_,n,t,u,rfl,z,w,x,rfl⟩
theorem nu{a kS:dy}{vs:List d9}{xs:List V}{ds:List D}{ps:List (Int×Int)}{L:Nat}{P:PySem.Fin->ej->Prop}{H0 H:Hp}{s:ej}
 (G:r9 X.prog X.w X.K X.mg X.base uR k f fd pr (u6 X.K pr.length F)) (h1:pr.length=1) (hr:pf k A) (bl:A.frames=da X.stack) (O:Binds X.K fd pr [])
 (I:Inv X pins σ H s) (sub:g5 H0 H) (rv:f6 xs vs) (rd:ec X.K H0 ds xs) (as:ps.length=vs.length) (bm:vs.length<64)
 (hF:∀(i:Nat) d p,ds[i]? = da d->ps[i]? = da p->F [d]=da (.val<|.tup [.int p.1,.int p.2]))
 (hk:s.heap.get? kS=da (seqObj "list" #[] 0)) (ha:s.heap.get? a=da (seqObj "list" #[] L)) (ax:kS≠a) (fk:vR X pins H kS) (fa:vR X pins H a)
 (h:∀s' H' J c,Inv X pins σ H' s'->Ext H0 H J H'->s'.heap.get? a=da (seqObj "list" (Sn ((kK ps).map λi=>vs.getD i NY)) c)->vR X pins H' a->P (.done (.ret .none)) s'):
 wpAny (eF X.prog X.w) A (ksk_rest a (.ref f) dt vs.toArray L<|.ref kS) P E s:=by
 have ce:=rv.length;have cf:=rd.length;have hz:vs.length<=fy:=by rw[RN];omega
 unfold ksk_rest;refine MD (RM ?_);rw[TN];refine MD (ksk_fold (λj s'=>∃l n U e,Inv X (pins++[(kS,seqObj "list" U e),(a,seqObj "list" #[] L)]) σ l s'/\Ext H0 H n l/\∃g:List V,f6 g U.toList/\ec X.K n (YL (ps.take j)) g) vs 0 s
  ⟨H,H0,#[],0,Bj I fk fa hk ha (λv z=>by cases z) (λv z=>by cases z),Ext.refl sub,[],.nil,ec.nil⟩ ?step ?done)
 case step=>
  rintro j x s' hx ⟨l,n,U,e,Y,x1,g,B,m⟩;simp only[NW]at m ⊢;have hj:j<vs.length:=(Np.mp hx).1;have hp:ps[j]? = da ps[j]:=MH ⋯;have hd:ds[j]? = da ds[j]:=MH ⋯;have b9:xs[j]? = da xs[j]:=MH ⋯;obtain⟨u',bb,br⟩:=rv.get b9;rw[hx]at bb;cases bb;obtain⟨zaj,bd,bu⟩:=rd.get hd;rw[b9]at bd;cases bd;have env:Dt X.prog X.w X.K X.mg X.base A X.stack s' l:=⟨bl,Y.Dh.mod,Y.Dh.bs,Y.Dh.B7,Y.Dh.q7,Y.Dh.B9,Y.Dh.ft,Y.Dh.bare⟩;refine MD (Pc (Nv (sF (CX:=uR) (Q:=λv H'=>∃J,Ext n l J H'/\Rep X.K J (.tup [.int ps[j].1,.int ps[j].2]) v) G hr env O Y (vs:=[xs[j]]) (us:=[x]) (.cons br .nil)
   ⟨n,[ds[j]],_,x1.sub,ec.cons (bu.mono x1.s0) ec.nil,by rw[h1];rfl,hF j _ _ hd hp,λv H' J R r2=>⟨J,R,r2⟩⟩) (λv C he=>?_) λ_ _ hF=>hF.elim))
  obtain⟨vv,S,t,c1,c3,R,r2⟩:=he
  try dsimp only
  obtain⟨r,T,_⟩:=t.pin (kS,seqObj "list" U e) (Nb _ (Nb _ (.head _)));obtain⟨na,W,_⟩:=t.pin (a,seqObj "list" #[] L) (Nb _ (Nb _ (.tail _ (.head _))));have c4:=Az t;have M:vR X pins S kS:=⟨T,fk.2⟩;have N:vR X pins S a:=⟨W,fa.2⟩;have kl:U.size=j:=by have:=B.length;have:=m.length;simp only[YL,Nf,Rc,ON]at *;omega
  refine MD (Uq r rfl ?_ (by rw[kl,RN];omega) (NJ (Nat.le_of_eq (Array.size_push ..)) (by rw[kl,RN];omega)));obtain⟨Z,c5⟩:∃Z,(C.heap.update kS (NQ (·.push v))).get? kS=da (seqObj "list" (U.push v) Z):=⟨_,get?_update_seq r (·.push v)⟩;have I3:=c4.C5 (h':=C.heap.update kS (NQ (·.push v))) (t':=C.toks) (fp:=[kS]) (λb o O q=>(Nh _ _ (λz=>O (by rw[z];exact List.mem_singleton_self _))).trans q) (λb O=>by rw[PJ.mp O];exact M);have c7:(C.heap.update kS (NQ (·.push v))).get? a=da (seqObj "list" #[] L):=(Nh _ _ ax).trans na;refine ML ⟨rfl,S,c3,U.push v,Z,Bj I3 M N c5 c7 (λv z=>by cases z) (λv z=>by cases z),x1.trans R,g++[vv],?_,?_⟩
  ·rw[Array.toList_push];exact B.append<|.cons c1 .nil
  ·have ek:ps.take (j+1)=ps.take j++[ps[j]]:=by rw[List.take_add_one,hp];simp
   rw[ek];unfold YL at m ⊢;rw[NU];exact(m.mono R.s0).append (ec.cons r2 ec.nil)
 case done=>
  rintro s' ⟨l,n,U,e,Y,x1,g,B,m⟩;rw[NW,<-as,List.take_length]at m;obtain⟨r,T,_⟩:=Y.pin (kS,seqObj "list" U e) (Nb _ (Nb _ (.head _)));obtain⟨na,W,_⟩:=Y.pin (a,seqObj "list" #[] L) (Nb _ (Nb _ (.tail _ (.head _))));have bf:=Az Y;have M:vR X pins l kS:=⟨T,fk.2⟩;have N:vR X pins l a:=⟨W,fa.2⟩
  try dsimp only
  refine MD<|listItems_at r rfl ?_;have l1:=B.length;have l2:=m.length;simp only[YL,Nf]at l2;have ek:U=U.toList.toArray:=by simp
  rw[ek]at r ⊢;refine uh r na ax ⋯ as bm (λi hi=>?_) λh' c hsz kp hA=>?_
  ·have c9:i<ps.length:=by omega
   obtain⟨y,ey,ry⟩:=m.get (i:=i) (d:=.tup [.int (ps.getD i (0,0)).1,.int (ps.getD i (0,0)).2]) (by unfold YL;simp[c9]);obtain⟨u,hu,ru⟩:=B.get ey;have:U.toList[i]=u:=by rw[MH hi]at hu;exact NR hu
   rw[this];exact rP bf x1.sub ry ru
  ·have t:=bf.C5 (h':=h') (t':=s'.toks) (fp:=[a,kS]) (λb o O q=>kp b o (λz=>O<|by rw[z];simp) (λz=>O<|by rw[z];simp) q) (λb O=>by
    rcases MQ.mp O with rfl|O
    ·exact N
    ·rw[PJ.mp O];exact M)
   exact h _ l n c t x1 hA N
end
noncomputable def tL:Res->Option (Int×Int)
 | .val d=>match d with
  |.tup a=>match a with
   |[x,y]=>(o6 x).bind λi=>(o6 y).map λj=>(i,j)
   |_=>none
  |_=>none
 |.own _=>none
noncomputable def Y7(F:List D->Option Res):List D->Option (List<|Int×Int)
 |[]=>da []
 |d::r=>((F [d]).bind tL).bind λp=>(Y7 F r).map λl=>p::l
noncomputable def eB(F:List D->Option Res)(f:CO (Sk×List D)):CO (List D):=λd=>(f d).bind λa=>match a.1 with
 |.L=>(Y7 F a.2).bind λb=>if a.2.length<64 then da ((kK b).map λi=>a.2.getD i .el)else none
 |_=>none
theorem Yj(I:f6 xs vs):∀(o:List Nat),(∀i∈o,i<xs.length)->f6 (o.map λi=>xs.getD i .el) (o.map λi=>vs.getD i NY)
 |[],_=>.nil
 |i::o,h=>by have a:=h i Nc;refine .cons ?_ (Yj I o λj O=>h j<|Ng _ O);obtain⟨v,U,g2⟩:=I.get (i:=i) (x:=xs[i])<|MH a;show RelV (xs.getD i V.el) (vs.getD i NY);rw[MK,MK,MH a,U];exact g2
section
variable{X:Cx}{pins:UQ}{σ:St}{F:List D->Option Res}{k:Nat}{f:dy}{fd:sa}{pr:List Str}
theorem cJ
 (G:r9 X.prog X.w X.K X.mg X.base uR k f fd pr (u6 X.K pr.length F)) (h1:pr.length=1) (hr:pf (k+1+1) X.A) (O:Binds X.K fd pr [])
 (I:Inv X pins σ H s) (sub:g5 H0 H) (hl:s.heap.IsList l vs.toArray) (Y:f6 xs vs) (rd:ec X.K H0 ds xs) (L:ps.length=vs.length) (Z:vs.length<64)
 (hF:∀(i:Nat) d p,ds[i]? = da d->ps[i]? = da p->F [d]=da (.val<|.tup [.int p.1,.int p.2]))
 (h:∀s' H' J D,H D=none->H' D=none->Ext H0 H J H'->Inv X pins σ (upd H' D<|.lst<|(kK ps).map λi=>xs.getD i .el) s'->Q (.ref D) s'):
 wpAny (eF X.prog X.w) X.A (call (.builtin "sorted") [.ref l] [(Nz "key",.ref f)]) Q E s:=by
 have as:=Y.length;have e:vs.length<=fy:=by rw[RN];omega
 refine call_function_entry_kw kind_sorted plain_sorted entry_sorted (ksk_s1 _ _) ?_;unfold Builtin.«sorted»;refine MD (m:=checkCount "sorted" 1 1 _) (ML ?_);refine MD (collect_list hl ?_ e);refine MD (wpAny_newList ?_ e);have a:((s.heap.push (seqObj "list" #[] 0)).update s.heap.objs.size (NQ (· ++ vs.toArray))).objs.size=s.heap.objs.size+1:=by rw[SR,size_push']
 have U:(((s.heap.push (seqObj "list" #[] 0)).update s.heap.objs.size (NQ (· ++ vs.toArray))).push (seqObj "list" vs.toArray 0)).get? (s.heap.objs.size+1)=da (seqObj "list" vs.toArray 0):=by rw[<-a];exact MU _ rfl
 have keep:∀b o,s.heap.get? b=da o->(((s.heap.push (seqObj "list" #[] 0)).update s.heap.objs.size (NQ (· ++ vs.toArray))).push (seqObj "list" vs.toArray 0)).get? b=da o:=λb o q=>by have j:b<s.heap.objs.size:=MR q;rw[Heap.get?_push_ne _ _ _ (by rw[a];exact MZ (Oc j)),Heap.get?_update_ne _ _ _ _ (MZ j),Heap.get?_push_ne _ _ _ (MZ j)];exact q
 have n:(((s.heap.push (seqObj "list" #[] 0)).update s.heap.objs.size (NQ (· ++ vs.toArray))).push (seqObj "list" vs.toArray 0)).objs.size=s.heap.objs.size+2:=by rw[size_push',a]
 show wpAny _ _ _ _ _ {s with heap:=((s.heap.push (seqObj "list" #[] 0)).update s.heap.objs.size (NQ (· ++ vs.toArray))).push (seqObj "list" vs.toArray 0)};rw[a];generalize ((s.heap.push (seqObj "list" #[] 0)).update s.heap.objs.size (NQ (· ++ vs.toArray))).push (seqObj "list" vs.toArray 0)=g at U keep n ⊢;have N:Inv X pins σ H {s with heap:=g}:=I.kept (t':=s.toks) keep;have x:vR X pins H (s.heap.objs.size+1):=I.Dj (TK _) (I.ft.fresh (TK _));refine MD (Oy (wpAny_call_entry_kw slot_list_sort ⟨_,U,rfl⟩ entry_list_sort ?body (ksk_l1 _ _)))
 case body=>
  show wpAny (eF X.prog X.w) X.A.in1.in1 (Builtin.«list.sort» ⟨[.ref (s.heap.objs.size+1)],[(Nz "key",.ref f)]⟩) _ _ _;rw[ksk_t1];unfold ksk_tree;refine MD (listItems_at U rfl ?_);refine MD (Uq U rfl ?_ (by rw[MP];exact e) (rn _));obtain⟨t,r⟩:∃t,(g.update (s.heap.objs.size+1) (NQ λ_=>(#[]:Array d9))).get? (s.heap.objs.size+1)=da (seqObj "list" #[] t):=⟨_,get?_update_seq U λ_=>#[]⟩;refine MD (seqEpoch_at r rfl ?_);refine MD (Uc ?_ (by show vs.length<=_;exact e));refine MD (wpAny_newList ?_ (rn _));refine Oy ?_;have B:=N.C5 (h':=g.update (s.heap.objs.size+1) (NQ λ_=>(#[]:Array d9))) (t':=s.toks) (fp:=[s.heap.objs.size+1]) (λb o O q=>(Nh _ _ (λz=>O (by rw[z];exact List.mem_singleton_self _))).trans q) (λb O=>by rw[PJ.mp O];exact x);have C:=B.kept (h':=((g.update (s.heap.objs.size+1) (NQ λ_=>(#[]:Array d9))).push (seqObj "tuple" vs.toArray 0)).push (seqObj "list" #[] 0)) (t':=s.toks) (λb o q=>MF _ (MF _ q));have y:((g.update (s.heap.objs.size+1) (NQ λ_=>(#[]:Array d9))).push (seqObj "tuple" vs.toArray 0)).objs.size=s.heap.objs.size+3:=by rw[size_push',SR,n]
  have S:vR X pins H (s.heap.objs.size+3):=I.Dj (Nt _ _) (I.ft.fresh (Nt _ _));refine nu (A:=X.A.in1.in1) (ps:=ps) (xs:=xs) (ds:=ds) (H0:=H0) (H:=H) (s:={s with heap:=((g.update (s.heap.objs.size+1) (NQ λ_=>(#[]:Array d9))).push (seqObj "tuple" vs.toArray 0)).push (seqObj "list" #[] 0)}) (kS:=((g.update (s.heap.objs.size+1) (NQ λ_=>(#[]:Array d9))).push (seqObj "tuple" vs.toArray 0)).objs.size)
   G h1 hr.in1.in1 I.Dh.in1.in1.frames O C sub Y rd L Z hF (MU _ rfl) (MF _<|MF _ r) (by rw[y];exact λz=>absurd (Nat.add_left_cancel z) ⋯) (by rw[y];exact S) x λs' H' J c M x3 T u=>⟨_,rfl,?_⟩
  refine ML ⟨_,rfl,h s' H' J _ (I.ft.fresh<|TK _) u.1 x3<|gF M u ?_⟩;have P:∀i∈kK ps,i<xs.length:=λi W=>by have:=(qU ps).mem_iff.mp W;have:=MG.mp this;omega
  have R:((kK ps).map λi=>xs.getD i V.el).length=vs.length:=by rw[Nf,(qU ps).length_eq,Og,L]
  exact⟨by rw[R];exact e,(kK ps).map λi=>vs.getD i NY,c,Yj Y _ P,T⟩
end
theorem Y6:∀{ds:List D} {ps:List (Int×Int)},Y7 F ds=da ps->ps.length=ds.length
 |[],ps,h=>by cases h;rfl
 |d::r,ps,h=>by obtain⟨p,_,a⟩:=zh h;obtain⟨l,I,O⟩:=zI a;subst O;simp[Y6 I]
theorem bX(h:tL r=da p):r=.val (.tup [.int p.1,.int p.2]):=by
 unfold tL at h;split at h
 ·split at h
  ·split at h
   ·obtain⟨i,a,b⟩:=zh h
    obtain⟨j,I,O⟩:=zI b;subst O;rw[jV a,jV I]
   ·cases h
  ·cases h
 ·cases h
theorem aD:∀{ds:List D} {ps:List (Int×Int)},Y7 F ds=da ps->∀(i:Nat) d p,ds[i]? = da d->ps[i]? = da p->F [d]=da (.val<|.tup [.int p.1,.int p.2])
 |[],ps,h,i,d,p,hd,hp=>by simp at hd
 | c::r,ps,h,i,d,p,hd,hp=>by
  obtain⟨q,b,e⟩:=zh h;obtain⟨l,I,O⟩:=zI e;subst O;cases i with
  |zero=>
   simp at hd hp;subst hd hp;obtain⟨Y,a,U⟩:=zh b;rw[a,bX U]
  |succ i=>exact aD I i d p (by simpa using hd) (by simpa using hp)
section
variable{X:Cx}{sc:h7}{N L:List Str}{k j:Nat}{e:eK}{fq:CO (Sk×List D)}{F:List D->Option Res}{x:Str}{p p2 pos x?:gv}
theorem mw(Z:gw X.prog X.w X.K X.mg X.base j x 1 F)(h:SX X sc N L k)(hj:j+1+1<=k)(c:kW sc "sorted" = dj)(z:X.mg "sorted" = none)(J:kW sc x=dj)(hq:PQ X e fq)
 (hs:fA [e] X.env=[(dt,eA e X.env)]:=by rfl):
 PO X (.Call (.Name "sorted" p) [e] [⟨da "key",.Name x p2,x?⟩] pos) (eB F fq):=by
 intro b s σ H Q I m;obtain⟨H0,γ,out,rc,O,q⟩:=m;obtain⟨⟨kk,ds⟩,C,O⟩:=zh O;obtain⟨E,fd,pr,W,G,S,hk,P⟩:=Z.ex;cases kk with
 |T=>cases O
 | L=>
  have O:((Y7 F ds).bind λps=>if ds.length<64 then da ((kK ps).map λi=>ds.getD i .el)else none)=da out:=O;obtain⟨ps,t,O⟩:=zh O;by_cases y:ds.length<64
  ·rw[UJ y]at O
   cases O;refine OJ (xX (u:=.builtin "sorted") I (h.gl c).1 z ⋯ (callWith_kw ?_ (by rw[hs];rfl) (by rw[hs];rfl)) ⋯ ⋯);refine f7 ((jr hq qd hs) pos b s σ H (λvs d=>∃a xs U,vs=[.ref a]/\Ext H0 H U d/\hM X.K d a xs/\ec X.K U ds xs) I ⟨H0,γ,.L,ds,rc,C,λa xs d U x1 g1 g2 Y=>⟨a,xs,U,rfl,x1,g1,Y⟩⟩) λus A m=>?_;obtain⟨vs,d,l,rv,a,xs,U,rfl,x1,g1,Y⟩:=m;obtain⟨u,rfl,ru⟩:=yA rv;cases ru;show wpAny _ _ (evalAll ((do let v<-eA (.Name x p2) X.env;M5 pos;pure v)::[])) _ _ A;refine wpAny_evalAll_cons (MD (v7 l (h.gl J).1 S (MD (Uo (ML ?_))) (h.gl J).2.2));refine wpAny_evalAll_nil ?_;obtain⟨n,r,pl,hz⟩:=l.list g1;have l1:=r.length;have l2:=Y.length;have l3:=Y6 t;show wpAny _ _ (call (.builtin "sorted") [.ref a] [(Nz "key",.ref E)]) _ _ A;refine cJ (H0:=U) (ps:=ps) (xs:=xs) (ds:=ds) (vs:=n) (F:=F) G W (h.room.mono hj) P l x1.sub pl.isList r Y ⋯ ⋯ (aD t) λs' H' g D M o f B=>?_;refine⟨.ref D,_,B,rfl,q D _ _ g (x1.trans (f.trans (Ext.hide f.sub o _))) (yo x1.s1 M) (jA f.sub o) zM ?_⟩;refine YD (Y.mono f.s0) _ λi R=>?_;have:=(qU ps).mem_iff.mp R;have:=MG.mp this;omega
  ·rw[UY y]at O;cases O
end
section
variable{X:Cx}{sc:h7}{N L:List Str}{k j n i:Nat}{a b c e:eK}{es:List eK}{f:CO D}{g:CO (List D)}{p pos:gv}{x:Str}{st st3 st4:i7}{yS:List i7}{F:List D->Option Res}
open Classical in
def DI(H:Hp)(p:dy):Hp:=λc=>if c=p then none else H c
theorem T8{H:Hp}{p c:dy}(h:c≠p):DI H p c=H c:=UY h
end
mutual
def y':D->Bool
 |.tup a=>O9 a
 |.lst a=>O9 a
 |.exc _ _=>dt
 |.n9 _ _=>dt
 |.ng _ _=>dt
 |.ins _ _ _=>dt
 |_=>dj
def O9:List D->Bool
 |[]=>dj
 |x::xs=>y' x&&O9 xs
end
mutual
theorem Rep.less{K:MC}{H:Hp}{p:dy}{z:fh->Prop}(O:H p=da (.ext z)):∀{d:D} {v:V},y' d=dj->Rep K H d v->Rep K (DI H p) d v
 |.el,_,_,h=>h
 |.bl _,_,_,h=>h
 |.int _,_,_,h=>h
 |.str _,_,_,h=>h
 |.tup ds,v,n,h=>by
  obtain⟨a,b,f,g,i⟩:=(show ∃a b,v=.ref a/\h8 K H a b/\ec K H ds b from h);refine(show ∃a b,v=.ref a/\h8 K (DI H p) a b/\ec K (DI H p) ds b from⟨a,b,f,?_,ec.less O n i⟩);have I:∀{u:HO},(∀z,u ≠ .ext z)->H a=da u->a≠p:=λU q e=>by rw[e,O]at q;exact U _ (NR q).symm
  rcases g with(hq|⟨o',hq⟩)|hq
  ·exact .inl (.inl<|by rw[T8 (I (λ_=>by simp) hq)];exact hq)
  ·exact .inl<|.inr ⟨o',by rw[T8 (I (λ_=>by simp) hq)];exact hq⟩
  ·exact .inr hq
 |.lst ds,v,n,h=>by
  obtain⟨a,b,f,g,i⟩:=(show ∃a b,v=.ref a/\hM K H a b/\ec K H ds b from h);refine(show ∃a b,v=.ref a/\hM K (DI H p) a b/\ec K (DI H p) ds b from⟨a,b,f,?_,ec.less O n i⟩);have I:∀{u:HO},(∀z,u ≠ .ext z)->H a=da u->a≠p:=λU q e=>by rw[e,O]at q;exact U _ (NR q).symm
  rcases g with(hq|⟨o',hq⟩)|hq
  ·exact .inl (.inl<|by rw[T8 (I (λ_=>by simp) hq)];exact hq)
  ·exact .inl<|.inr ⟨o',by rw[T8 (I (λ_=>by simp) hq)];exact hq⟩
  ·exact .inr hq
 |.exc _ _,_,n,_=>nomatch n
 |.n9 _ _,_,n,_=>nomatch n
 |.ng _ _,_,n,_=>nomatch n
 |.ins _ _ _,_,n,_=>nomatch n
theorem ec.less{K:MC}{H:Hp}{p:dy}{z:fh->Prop}(I:H p=da (.ext z)):∀{ds:List D} {xs:List V},O9 ds=dj->ec K H ds xs->ec K (DI H p) ds xs
 |[],_,_,h=>h
 |d::ds,xs,n,h=>by obtain⟨x,r,a,b,e⟩:=(show ∃x r,xs=x::r/\Rep K H d x/\ec K H ds r from h);have n:(y' d&&O9 ds)=dj:=n;rw[MO]at n;exact(show ∃x r,xs=x::r/\Rep K (DI H p) d x/\ec K (DI H p) ds r from⟨x,r,a,Rep.less I n.1 b,ec.less I n.2 e⟩)
end
section
variable{X:Cx}{sc:h7}{N L:List Str}{k j n i:Nat}{a b c e:eK}{es:List eK}{g:CO (List D)}{p pos:gv}{x y:Str}{st:i7}{body yS:List i7}{F:List D->Option Res}
open Classical in
end
abbrev P_:=Ctx->List Int->List D->Option (Ctx×List Int×List D)
def IM(F G:P_):P_:=λd a b=>(F d a b).bind λr=>G r.1 r.2.1 r.2.2
def DJ(e:eK):Str:=match e with|.Name x _=>x|_=>""
def Dn(e:eK):List Str:=match e with|.Tuple a _ _=>a.map DJ|e=>[DJ e]
def D1(N:List Str)(fs:List Nat):List (Str×Nat):=fs.map λi=>(N.getD i "",i)
theorem KM(N:List Str)(fs:List Nat):(D1 N fs).map (·.2)=fs:=by unfold D1;rw[NB];exact List.map_id fs
def pM(e:eK):Bool:=match e with|.Name _ _=>dj|_=>dt
theorem cu{e:eK}(h:pM e=dj):∃p,e=.Name (DJ e) p:=by
 unfold pM at h;split at h
 ·exact⟨_,rfl⟩
 ·cases h
noncomputable def Iy(z:h7)(N L:List Str)(is:List Nat)(es:List eK):Bool:=match is with
 |[i,j]=>(match es with|[a,b]=>pM a&&(ye z N L i (DJ a)&&(pM b&&ye z N L j (DJ b)))|_=>dt)
 |[i,j,l]=>(match es with|[a,b,c]=>pM a&&(ye z N L i (DJ a)&&(pM b&&(ye z N L j (DJ b)&&(pM c&&ye z N L l (DJ c)))))|_=>dt)
 |_=>dt
noncomputable def P8(z:h7)(N L:List Str)(e:eK)(T:Tg):Bool:=match T with
 |.nm i=>pM e&&ye z N L i (DJ e)
 |.tp is=>(match e with|.Tuple a _ _=>Iy z N L is a|_=>dt)
theorem rS{X:Cx}{z:h7}{N L:List Str}{k:Nat}(h:SX X z N L k){e:eK}{T:Tg}(c:P8 z N L e T=dj):PG X e (wb X.K T):=by
 cases T with
 |nm i=>
  have c:=Bool.and_eq_true_iff.mp c;obtain⟨p,q⟩:=cu c.1;rw[q];exact h.M9 _ c.2
 | tp is=>
  unfold P8 at c;dsimp only at c;split at c
  ·next f j pos=>
   unfold Iy at c;split at c
   ·split at c
    ·simp only[MO]at c
     obtain⟨I,O,b1,b2⟩:=c;obtain⟨p,q⟩:=cu I;obtain⟨b,U⟩:=cu b1;rw[q,U];exact h._j<|wF (h.M9 _ O)<|wF (h.M9 _ b2) fH
    ·cases c
   ·split at c
    ·simp only[MO]at c
     obtain⟨I,O,b1,b2,Y,a⟩:=c;obtain⟨p,q⟩:=cu I;obtain⟨b,U⟩:=cu b1;obtain⟨g,d⟩:=cu Y;rw[q,U,d];exact h._j<|wF (h.M9 _ O)<|wF (h.M9 _ b2)<|wF (h.M9 _ a) fH
    ·cases c
   ·cases c
  ·cases c
noncomputable def cB(I scope:h7)(N:List Str)(z:eK)(T:Tg)(n:Nat)(fs:List Nat):Bool:=
 Wn I scope N (D1 N fs)&&(Gj (Dn z) scope (D1 N fs)&&(decide (∀i∈T.idx,i<(Dn z).length)&&(decide ((Dn z).length=n)&&P8 (yG scope I) (Dn z++(D1 N fs).map (·.1)) (Dn z) z T)))
abbrev D0(X:Cx)(scope:h7)(N:List Str)(tg:eK)(fs:List Nat):=jJ X scope (Dn tg++(D1 N fs).map (·.1))
abbrev SA(X:Cx)(sc scope:h7)(N:List Str)(tg:eK)(fs:List Nat)(k:Nat)(fp:List dy)(s2:ej)(H2:Hp):Prop:=SX (D0 X scope N tg fs fp s2 H2) (yG scope sc) (Dn tg++(D1 N fs).map (·.1)) (Dn tg) k
section
variable{X:Cx}{sc scope:h7}{N L:List Str}{k n i:Nat}{fs:List Nat}{T:Tg}{e elt tg iter L1:eK}{es:List eK}{pos p py spos cpos:gv}{x y:Str}{f g:CO D}{fo:CO (List D)}{src gl:CO (List D)}{kk:CO Bool}
theorem cA(h:SX X sc N L k)(c:cB sc scope N tg T n fs=dj):xb X scope (D1 N fs)/\(∀i∈T.idx,i<(Dn tg).length)/\(Dn tg).length=n/\(∀fp J z,SA X sc scope N tg fs k fp J z)/\∀fp J z,PG (D0 X scope N tg fs fp J z) tg (wb X.K T):=by unfold cB at c;simp only[MO,decide_eq_true_eq]at c;obtain⟨I,O,U,Y,a⟩:=c;have s:∀fp J z,SA X sc scope N tg fs k fp J z:=λfp J z=>h.comp O;exact⟨h.k? I,U,Y,s,λfp J z=>rS (s fp J z) a⟩
theorem xi(h:SX X sc N L k)(O:zi X tg iter src)(I:∀fp J z,SA X sc scope N tg fs k fp J z->PV (D0 X scope N tg fs fp J z) elt f)(c:cB sc scope N tg T n fs=dj:=by decide +kernel)(hs:∀x,u5 iter X.env x=pure x:=by intro _;rfl):
 PO X (.ListComp elt [⟨tg,iter,[],0⟩] scope pos) (zO src T n fs jt f):=by
 obtain⟨a,b,d,s,q⟩:=cA h c;have r:=tj (pos:=pos) h.calm a b O q (λfp J z=>I fp J z<|s fp J z) hs;rw[d,KM]at r;exact r
theorem VU(h:SX X sc N L k)(Y:zi X tg iter src)(I:∀fp J z,SA X sc scope N tg fs k fp J z->ow (D0 X scope N tg fs fp J z) L1 kk)(O:∀fp J z,SA X sc scope N tg fs k fp J z->PV (D0 X scope N tg fs fp J z) elt f)(c:cB sc scope N tg T n fs=dj:=by decide +kernel)(hs:∀x,u5 iter X.env x=pure x:=by intro _;rfl):
 PO X (.ListComp elt [⟨tg,iter,[L1],0⟩] scope pos) (zO src T n fs kk f):=by
 obtain⟨a,b,d,s,q⟩:=cA h c;have r:=fD (pos:=pos) h.calm a b Y q (λfp J z=>I fp J z<|s fp J z) (λfp J z=>O fp J z<|s fp J z) hs;rw[d,KM]at r;exact r
theorem yl(h:SX X sc N L k)(O:zi X tg iter src)(I:∀fp J z,SA X sc scope N tg fs k fp J z->PV (D0 X scope N tg fs fp J z) elt f)(ct:ye sc N L i y=dj:=by decide +kernel)(c:cB sc scope N tg T n fs=dj:=by decide +kernel)(hs:∀x,u5 iter X.env x=pure x:=by intro _;rfl):
 PS X (.Assign [.Name y py] (.ListComp elt [⟨tg,iter,[],0⟩] scope cpos) spos) (WS (tO X.K<|zO src T n fs jt f)<|vh i):=by
 obtain⟨a,b,d,s,q⟩:=cA h c;have r:=F? (cpos:=cpos) (spos:=spos) (py:=py) i h ct h.calm a b O q (λfp J z=>I fp J z<|s fp J z) hs;rw[d,KM]at r;exact r
theorem sX(h:SX X sc N L k)(Y:zi X tg iter src)(I:∀fp J z,SA X sc scope N tg fs k fp J z->ow (D0 X scope N tg fs fp J z) L1 kk)(O:∀fp J z,SA X sc scope N tg fs k fp J z->PV (D0 X scope N tg fs fp J z) elt f)(ct:ye sc N L i y=dj:=by decide +kernel)(c:cB sc scope N tg T n fs=dj:=by decide +kernel)(hs:∀x,u5 iter X.env x=pure x:=by intro _;rfl):
 PS X (.Assign [.Name y py] (.ListComp elt [⟨tg,iter,[L1],0⟩] scope cpos) spos) (WS (tO X.K<|zO src T n fs kk f)<|vh i):=by
 obtain⟨a,b,d,s,q⟩:=cA h c;have r:=GG (cpos:=cpos) (spos:=spos) (py:=py) i h ct h.calm a b Y q (λfp J z=>I fp J z<|s fp J z) (λfp J z=>O fp J z<|s fp J z) hs;rw[d,KM]at r;exact r
theorem zy(h:SX X sc N L k)(c:Jw sc N i x=dj:=by decide +kernel):PV X (.Name x pos) (zc i):=Bs i<|h.var c
theorem zV(h:SX X sc N L k)(c:Jw sc N i x=dj:=by decide +kernel):PQ X (.Name x pos) (zk i):=BB i<|h.var c
theorem Iz(h:SX X sc N L k)(c:P8 sc N L e T=dj:=by decide +kernel):PG X e (wb X.K T):=rS h c
theorem jq(h:SX X sc N L k)(I:PV X e f)(c:ye sc N L i x=dj:=by decide +kernel)(hs:u7 e (da (.Name x py)) pos.line X.env=pure dt:=by rfl):o8 X (.Assign [.Name x py] e pos) (jj i f):=sU i<|h.set i c I hs
theorem yk(h:SX X sc N L k)(I:PO X e fo)(c:ye sc N L i x=dj:=by decide +kernel)(hs:u7 e (da (.Name x py)) pos.line X.env=pure dt:=by rfl):o8 X (.Assign [.Name x py] e pos) (kF i fo):=mm i<|h.set i c I hs
theorem kJ{z:List i7}{F:CO Fl}(hx:X.xe=λ_ _=>False)(h:SX X sc N L k)(J:kA X tg iter src)(I:du X z F)(c:P8 sc N L tg T=dj:=by decide +kernel)(hs:∀x,u5 iter X.env x=pure x:=by intro _;rfl):o8 X (.For tg iter z [] pos) (ZY src T F):=sV (BQ hx) h.calm J (rS h c) I hs
variable{j:Nat}{F:List D->Option Res}
theorem zW(J:gw X.prog X.w X.K X.mg X.base j x n F)(h:SX X sc N L k)(z:B0 X (e::es) n gl)(I:j<=k:=by decide)(c:kW sc x=dj:=by decide +kernel)
 (O:fA (e::es) X.env=(dt,eA e X.env)::fA es X.env:=by rfl) (U:(p3 pos<|starEach es X.env).any (·.1)=dt:=by rfl):PV X (.Call (.Name x p) (e::es) [] pos) (zD F gl):=GE J I h c z O U
theorem xh(J:gw X.prog X.w X.K X.mg X.base j x n F)(h:SX X sc N L k)(z:B0 X (e::es) n gl)(I:j<=k:=by decide)(c:kW sc x=dj:=by decide +kernel)
 (O:fA (e::es) X.env=(dt,eA e X.env)::fA es X.env:=by rfl) (U:(p3 pos<|starEach es X.env).any (·.1)=dt:=by rfl):PO X (.Call (.Name x p) (e::es) [] pos) (je F gl):=GI J I h c z O U
end
noncomputable def Bd(g:CO (Sk×List D))(z:CO D):CO D:=λb=>(g b).bind λa=>(z b).bind λx=>match a.1 with
 |.L=>if (m4 x=dj/\nr a.2=dj)/\a.2.length<=lim then (a.2.findIdx? λd=>i4 d x).map λ(j:Nat)=>D.int (j:Int)else none
 |.T=>none
noncomputable def Gz(K:MC):V->List V->Hp->VK->Prop:=λx g H Q=>∃b e v p f a j,g5 b H/\x=.ref p/\g=[v]/\Rep K b e v/\hM K H p f/\ec K b a f/\m4 e=dj/\nr a=dj/\a.length<=lim/\a.findIdx? (λd=>i4 d e)=da j/\Q (.int (j:Nat)) H
theorem Vo{x:D}(hx:kr x=dj):∀ds:List D,nr ds=dj->(o5 ds).findIdx? (λy=>OV y<|kv x)=ds.findIdx? λd=>i4 d x
 |[],_=>by simp[o5]
 |d::ds,h=>by simp only[nr,MO]at h;simp only[o5,List.findIdx?_cons];rw[O5 d x h.1 hx,Vo hx ds h.2]
theorem ud{X:Cx}(hu:X.A.units+66<Dg):N5 X "list.index" (Gz X.K):=by
 intro o s σ H x vs v us Q I W T h;obtain⟨H0,d,y,p,xs,f,j,sub,rfl,rfl,N,G,P,O,U,bb,E,q⟩:=h;cases W;obtain⟨Z,rfl,rw⟩:=yA T;obtain⟨as,R⟩:=F8 I sub (xu O) N rw;obtain⟨bs,S⟩:=Xu I sub G P U;have hs:=PySem.SeqAt.depth_of_shaped<|yh O;have Y:=O8 f U;cases S with
 | list k B C g=>
  rename_i L b n be
  obtain⟨oc,M,bf,i⟩:=L;subst B C;have e:b.toList.findIdx? (λy=>OV (RJ s.heap y)<|kv d)=da j:=by rw[<-E,<-Vo (xu O) f U,<-RW _ _ _ Y g,List.findIdx?_map];rfl
  rw[List.findIdx?_eq_some_iff_getElem]at e;obtain⟨r,u,w⟩:=e;have b1:j<b.size:=by simpa using r
  have b2:b.size=f.length:=by
   have:=congrArg Ts<|RW _ _ _ Y g;have t:∀l:List D,(o5 l).length=l.length:=λl=>by induction l with
    |nil=>simp[o5]
    |cons a l J=>simp[o5,J]
   simpa[t]using this
  have b3:(lim:Int)<2^62:=by unfold lim;decide
  refine PB F.slot_list_index ⟨_,k,rfl⟩ F.entry_list_index (F.args_list_index_2 _ _) (PySem.SeqAt.list_indexAt p b n M i Z (λy=>OV (RJ s.heap y)<|kv d) j b1 ⋯ (by simpa using u)<|λm hm z=>by simpa using w m z) ⟨k,PySem.SeqAt.items_eqAt g R Y (T7 d<|xu O) ?_,?_⟩
  ·have:min (RQ<|o5 f) (kv d).depth<=(kv d).depth:=Us _ _
   omega
  ·exact⟨.int _,H,I.tok _,⟨_,rfl⟩,q⟩
section
variable{X:Cx}{sc:h7}{N L:List Str}{k:Nat}{o e:eK}{apos cpos:gv}{fa:CO D}{g:CO (Sk×List D)}
theorem sO(h:SX X sc N L k)(ho:PQ X o g)(he:PV X e fa)(z:I8 o "index" X.env (eA o X.env)=eA o X.env:=by rfl)
 (J:((p3 cpos<|starEach [e] X.env).all (λx=> !x.1)&&(E6 cpos<|keywordEach [] X.env).all (λx=>x.1.isSome)&&decide ([e].length+([]:List u0).length+(if ([]:List u0).isEmpty then 0 else 1)<30))=dj:=by rfl)
 (Z:(apos.endLine==cpos.line)=dj:=by rfl) (hs:fA [e] X.env=[(dt,eA e X.env)]:=by rfl):PV X (.Call (.Attribute o "index" apos) [e] [] cpos) (Bd g fa):=
 qc (VW Pw PySem.F.slot_list_index PySem.F.type_list_index (ud h._p) ho (jr he qd hs) z J Z hs rfl) λG H Q w=>by
  obtain⟨l,i,d,rc,I,q⟩:=w;obtain⟨⟨y,a⟩,t,I⟩:=zh I;obtain⟨x,s,I⟩:=zh I;cases y with
  |T=>cases I
  | L=>
   have I:(if (m4 x=dj/\nr a=dj)/\a.length<=lim then (a.findIdx? λd=>i4 d x).map λ(j:Nat)=>D.int (j:Int)else none)=da d:=I;by_cases O:(m4 x=dj/\nr a=dj)/\a.length<=lim
   ·rw[UJ O]at I
    obtain⟨j,u,rfl⟩:=zI I;refine⟨l,i,.L,a,rc,t,λp f C n x1 b E r=>⟨.inl ⟨rfl,f,b⟩,n,i,x,rc.ext x1,s,λB m Y U A=>?_⟩⟩;exact⟨Y,x,B,p,f,a,j,U.sub,rfl,rfl,A,U.s1.seq b,r.mono U.s0,O.1.1,O.1.2,O.2,u,q _ m Y (x1.trans U) rfl⟩
   ·rw[UY O]at I;cases I
end
noncomputable def ed(e j:Nat)(F:CO Fl)(G:CO Xn):CO Fl:=λa=>match G a with
 |some c=>da (.next<|(a.set j<|.val<|.exc c.1 c.2).set e .no)
 |none=>F a
section
variable{X:Cx}{sc:h7}{N L:List Str}{k:Nat}{e:eK}{es:List eK}{g:CO (List D)}{G G':CO Xn}
noncomputable def N8(X:Cx)(z:List i7)(G:CO Xn):Prop:=∀(a:UQ) (s:ej) (b:St) (H I f d:Hp) (e:Ctx) (c:Xn),Inv X a b H s->RS X.K I f d H b e->G e=da c->
 wpAny (eF X.prog X.w) X.A (execs z X.env) (λ_ _=>False) (As X a b d H c) s
theorem fN{y fx:Str}{py fp cpos J:gv}{n j:Nat}{G:List D->Option Xn}(h:SX X sc N L k)(O:kW sc fx=dj)(hx:DU X.prog X.w X.K X.mg X.base j fx n G)(U:j<=k)(ha:B0 X.rh (e::es) n g)
 (Y:fA (e::es) X.env=(dt,eA e X.env)::fA es X.env:=by rfl) (Z:(p3 cpos<|starEach es X.env).any (·.1)=dt:=by rfl)
 (a2:u7 (.Call (.Name fx fp) (e::es) [] cpos) (da (.Name y py)) J.line X.env=pure dt:=by rfl):
 N8 X [.Assign [.Name y py] (.Call (.Name fx fp) (e::es) [] cpos) J] (yc G g):=λa s u H i l m t c I f eq=>by
 obtain⟨o,b,d⟩:=zh eq;exact Rj<|wpAny_Assign_Name (Nv (pU hx U h O ha I f.rc b d Y Z) (λ_ _ z=>z.elim) λp r z=>z) a2
theorem BU{J:CO Bool}{c:eK}{x y:List i7}{pos:gv}(hc:ow X.rh c J)(Z:N8 X x G)(hb:N8 X y G'):N8 X [.If c x y pos] (tu J G G'):=λa s f H m n g l O I Y e=>by
 obtain⟨t,F,U⟩:=zh e;refine Rj<|Nv (wpAny_If (Q:=λ_ _=>False) (E:=As X a f g H O)<|Nv (hc a s f H (λb o=>b=t/\∃d,Ext g H d o) (I.ov _) ⟨g,l,t,Y.rc,F,λo d x=>⟨rfl,d,x⟩⟩) (λb r z=>?_) λ_ _ z=>z.elim) (λ_ _ z=>z.elim) λ_ _ z=>z;obtain⟨h,p,rfl,i,x1⟩:=z;have u:∀j k,As X a f i h O j k->As X a f g H O j k:=λj k ⟨w,B,K,A,L,C⟩=>⟨w,B,K,A,x1.trans L,C⟩;cases b with
 |true=>rw[UJ rfl]at U;exact Nv (Z a r f h m n i l O p.s9 (Y.step x1) U) (λ_ _ z=>z) u
 |false=>rw[UY Nd]at U;exact Nv (hb a r f h m n i l O p.s9 (Y.step x1) U) (λ_ _ z=>z) u
theorem mj(U Y:Nat){st:i7}{nx Z:Str}{np pz pn a4 a9 J:gv}{F:CO Fl}(aa:U≠Y)(h:SX X sc N L k)(ab:X.stack=X.env::X.outer/\X.env.frame=da X.env.locals)
 (ac:kW sc "SplitError" = dj) (cn:ye sc N L U nx=dj) (cl:decide (sc.names.lookup nx=da .local)=dj) (cv:Jw sc N U nx=dj) (cz:ye sc N L Y Z=dj) (x:XS X.K X.mg)
 (hF:o8 X.rh st F) (hG:N8 X [st] G)
 (hs:u7 (.Name nx pn) (da (.Name Z pz)) a4.line X.env=pure dt:=by rfl):
 o8 X (.Try [st] [.ExceptHandler (da (.Name "SplitError" np)) (da nx) [.Assign [.Name Z pz] (.Name nx pn) a4] a9] [] [] J) (ed U Y F G):=by
 intro a s l H D I ⟨e,f,g,d,j,b,O,i⟩;refine wpAny_Try_except ?_;unfold ed at O;cases q:G d with
 |some m=>
  rw[q]at O;cases O;refine Nv (hG a s l H e f g d m I b q) (λ_ _ z=>z.elim) λn o z=>?_;exact oj h ab x ac cn cl cv cz aa b z i hs
 |none=>
  rw[q]at O;refine Nv (zo hF a s l H D (I.ov _) ⟨e,f,g,d,_,b,O,i⟩) (λj p z=>?_) λ_ _ z=>z.elim;have z:=z.s9;cases j with
  |next=>exact Tv z
  |ret v=>exact z
  |brk=>exact z
  |cont=>exact z
end
noncomputable def X3:=jk 1 (zT (jn (lg (yb (sB (A3 .str (zc 0)))) (sB (zH T_ (yC (zc 0)) (zu (.int 6))))) (j9 (zu (.bl dt))) qj) (j9 (Gu (jm (zO (AY (zc 0)) (.nm 0) 1 [] jt (LN (zc 0) (zJ (zu (.tup [.str "r",.str "l"])))))))))
noncomputable def ZV:=jk 2<|zT (jn (lg (yb<|sB<|zD Wx<|zb (zc 1)<|zb (zu<|.int 2) zF)<|lg (yb<|sB<|zD VD<|zb (zc 0)<|zb (dv (zk 1)<|zu<|.int 0) zF)<|yb<|sB<|zD VD<|zb (zc 0)<|zb (dv (zk 1)<|zu<|.int 1) zF) (j9<|zu<|.bl dt) qj)<|j9<|zH B8 (dv (zk 1)<|zu<|.int 0)<|dv (zk 1)<|zu<|.int 1
noncomputable def iV:=jk 2<|yB<|zO (eO<|zc 0) (.tp [0,1]) 2 [1] (sB<|JI B8 B8 (dv (zk 1)<|zu<|.int 0) (zc 2)<|dv (zk 1)<|zu<|.int 1) (zc 0)
noncomputable def Wz:=jk 3<|zT (jj 2<|jz<|zO (zN<|zk 0) (.nm 0) 1 [1] jt (z7<|jm<|zO (zN<|zk 1) (.nm 0) 1 [0] jt (W0 (sB<|zH g4 (zc 1)<|zc 0) (zu<|.int 1)<|zu<|.int 0)))<|j9<|qF<|zb (Kg<|zk 0)<|zb (Kg<|zk 1)<|zb (z7<|zk 2) zF
noncomputable def ju:=jk 5<|zT (jn (QX (sB<|zH qs (Kg<|zk 0)<|zu<|.int 1)<|sB<|zH g4 (zH yN (dv (zk 0)<|zu<|.int 0)<|zu<|.int 2)<|zu<|.int 1) (zT (jj 2<|dv (zk 0)<|zH qv (zu<|.int 1)<|zH yN (zc 1)<|zH dq (Kg<|zk 0)<|zu<|.int 1)<|zT (ZY (jE<|eH (zu<|.int 60)<|zH Xj (zc 1)<|zH dq (Kg<|zk 0)<|zu<|.int 1) (.nm 3)<|jj 2<|zH Xj (zc 2)<|zH uK (zu<|.int 10)<|zu<|.int 9)<|j9<|zH yN (zc 2)<|zH uK (zu<|.int 10)<|zu<|.int 9) qj)<|zT (jj 4<|zc 1)<|zT (jn (sB<|zH qs (Kg<|zk 0)<|zu<|.int 0) (jj 4<|dv (zk 0)<|zH yN (zc 1)<|Kg<|zk 0) qj)<|j9<|zH yN (zH yq (zH yN (zH qv (zH qv (zH qv (zH yq (zH yN (zc 4)<|zH uK (zu<|.int 10)<|zu<|.int 30)<|zu<|.int 48271)<|zH yq (zH yq (zu<|.int 7)<|zc 1)<|zc 1)<|zH yq (zu<|.int 13)<|zc 1)<|zu<|.int 5)<|zu<|.int 2147483647)<|zu<|.int 69621)<|zu<|.int 1000000007
noncomputable def Zh:=jk 3<|j9<|z7<|jm<|zO (zN<|zk 1) (.nm 0) 1 [0,2] jt (zH yN (bI<|jm<|zO (QT (zc 0)<|zc 2) (.tp [0,1]) 2 [] jt (zH yq (zc 0)<|zc 1))<|zc 1)
noncomputable def QM:=jk 6 (zT (eD (.tp [4,5]) (zc 1)) (zT (jn (sB (zH g4 (zc 4) (zu (.str "r")))) (j9 (zH g4 (zD Zh (zb (zc 0) (zb (dv (zk 5) (zu (.int 2))) (zb (zc 2) zF)))) (zc 3))) qj) (j9 (zH g4 (zD Zh (zb (zc 0) (zb (dv (zk 5) (zu (.int 2))) (zb (zc 3) zF)))) (zc 2)))))
noncomputable def x9:=jk 3 (zT (jn (sB (zH g4 (dv (zk 1) (zu (.int 0))) (dv (zk 2) (zu (.int 0))))) (j9 (zu (.bl dj))) qj) (j9 (zH g4 (qS (zc 0) (zH dq (lV (dv (zk 1) (zu (.int 0))) (dv (zk 2) (zu (.int 0)))) (zu (.int 1)))) (W0 (sB (zH DC (dv (zk 1) (zu (.int 0))) (dv (zk 2) (zu (.int 0))))) (zu (.str "l")) (zu (.str "r"))))))
noncomputable def xC:=jk 3 (zT (jn (sB (zH g4 (dv (zk 1) (zu (.int 1))) (dv (zk 2) (zu (.int 1))))) (j9 (zu (.bl dj))) qj) (j9 (zH g4 (qS (zc 0) (eH (dv (zk 1) (zu (.int 1))) (dv (zk 2) (zu (.int 1))))) (W0 (sB (zH qs (dv (zk 1) (zu (.int 1))) (dv (zk 2) (zu (.int 1))))) (zu (.str "r")) (zu (.str "l"))))))
noncomputable def kC:=jk 3<|zT (jn (sB<|zH qs (lV (dv (zk 1)<|zu<|.int 0)<|dv (zk 2)<|zu<|.int 0)<|eH (dv (zk 1)<|zu<|.int 1)<|dv (zk 2)<|zu<|.int 1) (j9<|zu<|.int 0) qj)<|j9<|W0 (QX (sB<|zD x9<|zb (zc 0)<|zb (zc 1)<|zb (zc 2) zF)<|sB<|zD xC<|zb (zc 0)<|zb (zc 1)<|zb (zc 2) zF) (zu<|.int 1)<|zu<|.int 0
noncomputable def vI:=jk 2 (zT (jn (sB (zH g4 (qS (zc 0) (zc 1)) (zu (.str "r")))) (j9 (qF (zb (zc 1) (zb (zH qv (zc 1) (zu (.int 1))) zF)))) qj) (j9 (qF (zb (zH qv (zc 1) (zu (.int 1))) (zb (zc 1) zF)))))
noncomputable def xV:=jk 2 (j9 (sD (zu (.str "")) (jm (zO (jE (zH dq (zc 1) (zu (.int 1)))) (.nm 0) 1 [0] jt (qS (zu (.str "rl")) (zH yN (zH Xj (zc 1) (dv (jm (jC (zb (zu (.int 1)) (zb (zu (.int 2)) (zb (zu (.int 4)) (zb (zu (.int 8)) (zb (zu (.int 16)) zF))))))) (zc 0))) (zu (.int 2))))))))
noncomputable def qm:=jk 3<|zT (kF 1<|jC zF)<|zT (ZY (jE<|zc 0) (.nm 2)<|VO 1<|zO (Ke (zc 2)<|zc 0) (.nm 0) 1 [2] jt (qF<|zb (zc 1)<|zb (zc 0) zF))<|Kd 1
noncomputable def qD:=jk 3<|zT (jj 2<|zD qI<|zb (zc 0) zF)<|yB<|zO (Xt<|zc 2) (.tp [0,1]) 2 [0,1] jt (qF<|zb (dv (zJ<|dv (zk 3)<|zu<|.int 1)<|zD kq<|zb (zc 0)<|zb (zc 1) zF)<|zb (dv (zJ<|dv (zk 2)<|zu<|.int 1)<|zD jH<|zb (zc 0)<|zb (zc 1) zF) zF)
def q8:=jk 2<|yB<|eI (dv (zk 1)<|zu<|.int 1)<|dv (zk 0)<|zu<|.int 1
def jS:=jk 1<|j9<|bI<|jm<|zO (zN<|zk 0) (.tp [0,1]) 2 [] jt (zH yq (zc 0)<|zc 1)
noncomputable def vw:=jk 4<|zT (kF 1<|jC zF)<|zT (ZY (zN<|zJ<|zc 0) (.nm 2)<|ZY (zN<|zJ<|dv (zk 2)<|zu<|.int 2) (.nm 3)<|VP 1<|zk 3)<|j9<|z7<|zk 1
def bc:=jk 3<|j9<|zD xG<|zb (zc 0)<|zb (zc 1)<|zb (sC<|zu<|.int 1)<|zb (zc 2) zF
noncomputable def oA:=jk 8<|zT (jj 4<|dv (zk 0)<|zu<|.int 0)<|zT (jj 5<|dv (zJ<|dv (zJ<|dv (zk 0)<|zu<|.int 2)<|zc 3)<|zu<|.int 0)<|zT (jj 6<|zD qA<|zb (zc 4)<|zb (dv (zk 2)<|zD kq<|zb (zc 3)<|zb (zc 5) zF)<|zb (dv (zJ<|dv (zJ<|dv (zk 0)<|zu<|.int 2)<|zc 3)<|zu<|.int 1) zF)<|zT (jj 7<|zD qA<|zb (zc 4)<|zb (dv (zJ<|dv (zJ<|dv (zk 1)<|zu<|.int 2)<|zc 3)<|zu<|.int 1)<|zb (dv (zk 2)<|zD jH<|zb (zc 3)<|zb (zc 5) zF) zF)<|j9<|zD bc<|zb (zc 4)<|zb (zc 6)<|zb (zc 7) zF
noncomputable def VF:=jk 3<|yB<|zO (jE<|Kg<|zJ<|dv (zk 0)<|zu<|.int 2) (.nm 0) 1 [0,1,2] jt (zD oA<|zb (zc 1)<|zb (zc 2)<|zb (zc 3)<|zb (zc 0) zF)
noncomputable def qh:=jk 7<|zT (kF 2<|jC zF)<|zT (jj 3<|zu<|.int 0)<|zT (ZY (zN<|zJ<|zc 0) (.tp [4,5])<|zT (jj 6<|jz<|zO (jE<|zc 4) (.nm 0) 1 [1,3,5] jt (WY (zc 1) (ra<|zH qv (zc 2)<|zH yq (zc 0)<|zc 3)<|ra<|zH qv (zc 2)<|zH yq (zH qv (zc 0)<|zu<|.int 1)<|zc 3))<|zT (yD 2<|qF<|zb (zc 4)<|zb (zc 5)<|zb (z7<|zk 6) zF)<|jj 3<|zH qv (zc 3)<|zH yq (zc 4)<|zc 5)<|Kd 2
noncomputable def k8:=jk 5<|zT (jj 2<|jz<|je q8<|zb (zc 0)<|zb (zc 1) zF)<|zT (jj 3<|zD jS<|zb (zc 2) zF)<|zT (jj 4<|jz<|zO (zN<|zJ<|dv (zJ<|zD j8<|zb (zc 3) zF)<|zu<|.int 2) (.nm 0) 1 [0,1,2] jt (zD vw<|zb (jz<|je VF<|zb (zc 1)<|zb (zc 2)<|zb (jz<|je qh<|zb (zc 3)<|zb (zc 0) zF) zF) zF))<|j9<|zD jQ<|zb (qF<|zb (zc 3)<|zb (zD jS<|zb (jz<|je qD<|zb (zc 0)<|zb (zc 1) zF) zF)<|zb (z7<|zk 4) zF) zF
noncomputable def j7:=jk 1<|j9<|qF<|zb (dv (zk 0)<|zu<|.int 0)<|zb (zH dq (zH qv (dv (zk 0)<|zu<|.int 0)<|Kg<|zJ<|dv (zk 0)<|zu<|.int 1)<|zu<|.int 1) zF
noncomputable def j3:=jk 2<|j9<|JI B8 DC (dv (zk 0)<|zu<|.int 0) (zc 1)<|zH qv (dv (zk 0)<|zu<|.int 0)<|Kg<|zJ<|dv (zk 0)<|zu<|.int 1
noncomputable def q9:=jk 2<|yB<|zO (zN<|zk 0) (.nm 0) 1 [1] (sB<|zD j3<|zb (zc 0)<|zb (zc 1) zF) (dv (zJ<|dv (zk 0)<|zu<|.int 1)<|zH dq (zc 1)<|dv (zk 0)<|zu<|.int 0)
def kR:=jk 2<|j9<|zD jQ<|zb (qF<|zb (Kg<|zk 1)<|zb (zc 0)<|zb (z7<|zk 1) zF) zF
noncomputable def k7:=jk 5<|zT (jj 4<|jz<|zO (QT (zc 2)<|zc 1) (.tp [0,1]) 2 [3] (sB<|zD j3<|zb (zc 1)<|zb (zc 2) zF) (zc 0))<|j9<|zD dg<|zb (dv (zk 0)<|zu<|.int 0)<|zb (zD kR<|zb (dv (zJ<|dv (zk 0)<|zu<|.int 1)<|zc 3)<|zb (jz<|je q9<|zb (zc 1)<|zb (zc 3) zF) zF)<|zb (zc 4) zF
noncomputable def K9:=jk 5<|zT (jj 3<|dv (zk 1)<|zD qK<|zb (zc 2) zF)<|zT (jj 4<|jz<|zO (jE<|Kg<|zJ<|dv (zk 3)<|zu<|.int 1) (.nm 0) 1 [0,1,2,3] jt (zD k7<|zb (zc 1)<|zb (zc 2)<|zb (zc 3)<|zb (zH qv (dv (zk 4)<|zu<|.int 0)<|zc 0) zF))<|j9<|qF<|zb (dv (zk 3)<|zu<|.int 0)<|zb (z7<|zk 4) zF
def A_:=(jj 3<|dv (zJ<|dv (zJ<|dv (zk 0)<|zu<|.int 2)<|zc 1)<|zu<|.int 0)
def B_:=(jj 4<|dv (zJ<|dv (zJ<|dv (zk 0)<|zu<|.int 2)<|zc 1)<|zu<|.int 1)
noncomputable def US:=(jj 5 (W0 (sB (zH g4 (zc 3) (zu (.str "r")))) (jz (je ko (zb (dv (zk 0) (zu (.int 0))) (zb (zc 4) zF)))) (jz (je ZL (zb (dv (zk 0) (zu (.int 0))) (zb (zc 4) zF))))))
noncomputable def C':=(jj 6<|jz<|je kB<|zb (dv (zk 0)<|zu<|.int 0)<|zb (zD kR<|zb (dv (zJ<|dv (zk 0)<|zu<|.int 1)<|zc 1)<|zb (jz<|je q9<|zb (zc 2)<|zb (zc 1) zF) zF)<|zb (zc 5) zF)
noncomputable def C_:=(jj 7<|oO<|zO (zN<|zk 6) (.nm 0) 1 [] jt (qF<|zb (zD qK<|zb (zc 0) zF)<|zb (zc 0) zF))
noncomputable def D':=(yB<|zO (eO<|zc 2) (.tp [0,1]) 2 [0,2,7] jt (W0 (sB<|Be (zc 0)<|zc 4) (zD K9<|zb (zc 2)<|zb (zc 3)<|zb (EV (zc 4)<|zc 0) zF)<|zc 1))
def w6:=jk 8<|zT A_<|zT B_<|zT US<|zT C'<|zT C_ D'
noncomputable def M1:=(jn (sB (zH g4 (dv (zk 1) (zu (.int 0))) (zu (.str "l")))) (j9 (zD vH (zb (zc 0) (zb (dv (zk 1) (zu (.int 1))) (zb (zc 2) zF))))) qj)
def UG:=(jj 3<|zD dg<|zb (zc 0)<|zb (dv (zk 1)<|zu<|.int 1)<|zb (zc 2) zF)
def UH:=(j9<|W0 (sB<|Al<|zk 3) (zc 3)<|zu .el)
def xQ:=jk 4<|zT M1<|zT UG UH
noncomputable def H_:=(jj 3<|zD xQ<|zb (zc 0)<|zb (zc 1)<|zb (dv (zJ<|dv (zk 2)<|zu<|.int 1)<|sC<|zu<|.int 1) zF)
noncomputable def U4:=(j9<|W0 (sB<|zH Ej (zc 3)<|zu .el) (zc 2)<|qF<|zb (dv (zk 2)<|zu<|.int 0)<|zb (zH qv (dv (zk 2)<|zu<|.int 1)<|qF<|zb (zc 3) zF) zF)
def yw:=jk 4<|zT H_ U4
noncomputable def Pt:=(jn (sB (zH g4 (dv (zk 1) (zu (.int 0))) (zu (.str "l")))) (yB (je ko (zb (zc 0) (zb (dv (zk 1) (zu (.int 1))) zF)))) qj)
noncomputable def y_:=(jj 2<|jz<|zO (zN<|jm<|je ZL<|zb (zc 0)<|zb (dv (zk 1)<|zu<|.int 1) zF) (.nm 0) 1 [] jt (zD qK<|zb (zc 0) zF))
noncomputable def z_:=(yB<|zO (lW<|dv (zJ<|zD j8<|zb (dv (zJ<|dv (zk 1)<|zu<|.int 1)<|zu<|.int 0) zF)<|zu<|.int 2) (.tp [0,1]) 2 [2] (sB<|Kf (zc 0)<|zk 2) (zc 1))
def yP:=jk 3<|zT Pt<|zT y_ z_
def q_:=(jj 3<|dv (zk 0)<|zu<|.int 0)
def r_:=(jj 4<|dv (zJ<|dv (zk 0)<|zu<|.int 2)<|zc 1)
noncomputable def s_:=(jj 5<|jz<|zO (zN<|zk 2) (.nm 0) 1 [1] (yb<|sB<|zD j3<|zb (zc 0)<|zb (zc 1) zF) (zc 0))
noncomputable def t_:=(jj 6<|jz<|je w6<|zb (zc 0)<|zb (zc 1)<|zb (jz<|zO (zN<|zk 2) (.nm 0) 1 [1] (sB<|zD j3<|zb (zc 0)<|zb (zc 1) zF) (zc 0)) zF)
noncomputable def u_:=(jj 7<|jz<|zO (zN<|zk 6) (.nm 0) 1 [3,4] jt (zD yw<|zb (zc 1)<|zb (zc 2)<|zb (zc 0) zF))
noncomputable def v_:=(jj 8<|jz<|zO (zN<|jm<|je yP<|zb (zc 3)<|zb (zc 4) zF) (.nm 0) 1 [1] jt (qF<|zb (zH qv (zc 1)<|zu<|.int 1)<|zb (qF<|zb (zc 0) zF) zF))
noncomputable def T5:=(j9 (jz (JJ (zk 5) (zJ (W0 (sB (zH g4 (dv (zk 4) (zu (.int 0))) (zu (.str "r")))) (jz (JJ (zk 8) (zk 7))) (jz (JJ (zk 7) (zk 8))))))))
def QN:=jk 9<|zT q_<|zT r_<|zT s_<|zT t_<|zT u_<|zT v_ T5
noncomputable def S3:=(jj 1<|jz<|zO (zN<|zJ<|dv (zJ<|zD j8<|zb (dv (zJ<|dv (zk 0)<|zu<|.int 1)<|zu<|.int 0) zF)<|zu<|.int 2) (.nm 0) 1 [] jt (qF<|zb (zu<|.int 0)<|zb (qF<|zb (zc 0) zF) zF))
noncomputable def c_:=(ZY (jE<|Kg<|zJ<|dv (zk 0)<|zu<|.int 2) (.nm 2)<|jj 1<|zD QN<|zb (zc 0)<|zb (zc 2)<|zb (zc 1) zF)
def d_:=(yB<|eB j7<|zk 1)
def yR:=jk 3<|zT S3<|zT c_ d_
def g_:=(jj 1<|jz<|je yR<|zb (zc 0) zF)
noncomputable def h_:=(jj 2<|jz<|zO (lW<|dv (zk 0)<|zu<|.int 1) (.tp [0,1]) 2 [1] jt (zD kR<|zb (zc 1)<|zb (jz<|je q9<|zb (zc 2)<|zb (zc 0) zF) zF))
noncomputable def i':=(jj 3<|jz<|zO (zN<|zk 2) (.nm 0) 1 [0] jt (zD kT<|zb (dv (zk 1)<|zu<|.int 0)<|zb (zc 0) zF))
noncomputable def i_:=(j9<|qF<|zb (jz<|zO (zN<|zk 1) (.nm 0) 1 [] jt (zD j7<|zb (zc 0) zF))<|zb (zc 3)<|zb (zc 2) zF)
def jW:=jk 4<|zT g_<|zT h_<|zT i' i_
noncomputable def qg:=jk 3<|j9<|bI<|jm<|zO (zN<|zk 1) (.nm 0) 1 [0,2] jt (zD kC<|zb (zc 1)<|zb (zc 0)<|zb (zc 2) zF)
noncomputable def ka:=jk 3<|zT (eP<|zD jT<|zb (zc 0)<|zb (zc 1) zF)<|zT (jj 2<|dv (zJ<|zD jW<|zb (zc 0) zF)<|zu<|.int 0)<|j9<|bI<|jm<|zO (zN<|zJ<|dv (zJ<|zD jW<|zb (zc 1) zF)<|zu<|.int 0) (.nm 0) 1 [0,2] jt (zD qg<|zb (zD qI<|zb (zc 1) zF)<|zb (zc 2)<|zb (zc 0) zF)
noncomputable def qJ:=jk 3<|yB<|zO (QT (zc 1)<|zc 2) (.tp [0,1]) 2 [0] jt (zD qA<|zb (zc 2)<|zb (zc 0)<|zb (zc 1) zF)
noncomputable def qO:=jk 4<|j9<|zH my (zD qg<|zb (zc 0)<|zb (zc 1)<|zb (zc 3) zF)<|zD qg<|zb (zc 0)<|zb (zc 2)<|zb (zc 3) zF
def EK:CO Bool:=sB<|zH my (xK (zk 1)<|zc 0)<|xK (zk 2)<|zc 0
def EJ:CO Bool:=sB<|zD qO<|zb (zc 1)<|zb (zc 2)<|zb (zc 3)<|zb (zc 0) zF
noncomputable def QP:=jk 6 (zT (jj 3 (jz (je qm (zb (zH qv (yC (zc 0)) (zu (.int 1))) zF)))) (zT (jj 4 (dv (jm (zO (zN (zk 3)) (.nm 0) 1 [1,2] EK (zc 0))) (zu (.int 0)))) (zT (jj 5 (dv (jm (zO (zN (zk 3)) (.nm 0) 1 [0,1,2] EJ (zc 0))) (zu (.int 0)))) (j9 (qF (zb (zu (.str "apart")) (zb (zc 4) (zb (xK (zk 1) (zc 4)) (zb (xK (zk 2) (zc 4)) (zb (zc 5) zF))))))))))
noncomputable def wg:=jk 6 (zT (eP (zD jT (zb (zc 0) (zb (zc 1) zF)))) (zT (jj 2 (zD jW (zb (zc 0) zF))) (zT (jj 3 (zD jW (zb (zc 1) zF))) (zT (jn (sB (zH my (dv (zk 2) (zu (.int 0))) (dv (zk 3) (zu (.int 0))))) (j9 (zD QP (zb (zD qI (zb (zc 0) zF)) (zb (dv (zk 2) (zu (.int 0))) (zb (dv (zk 3) (zu (.int 0))) zF))))) qj) (zT (jj 4 (jz (je qJ (zb (dv (zk 0) (zu (.int 0))) (zb (dv (zk 3) (zu (.int 2))) (zb (dv (zk 2) (zu (.int 1))) zF)))))) (zT (jj 5 (jz (je qJ (zb (dv (zk 0) (zu (.int 0))) (zb (dv (zk 2) (zu (.int 2))) (zb (dv (zk 3) (zu (.int 1))) zF)))))) (j9 (qF (zb (zu (.str "alike")) (zb (zc 4) (zb (zc 5) zF)))))))))))
noncomputable def yO:=jk 3<|zT (eP<|zD jT<|zb (zc 0)<|zb (zc 1) zF)<|zT (jj 2<|jz<|je q8<|zb (zc 0)<|zb (zc 1) zF)<|zT (jn (sB<|zH qs (zD jS<|zb (zc 2) zF)<|zu<|.int 60) JH qj)<|yB<|zO (zN<|jm<|je ko<|zb (dv (zk 0)<|zu<|.int 0)<|zb (zD k8<|zb (zc 0)<|zb (zc 1) zF) zF) (.nm 0) 1 [2] jt (jz<|je qh<|zb (zc 1)<|zb (zc 0) zF)
noncomputable def M4:=jn (sB<|zH g4 (zH yN (zc 3)<|zu<|.int 6)<|zu<|.int 1) (jj 1<|dv (jm<|jC<|zb (zu<|.int 3)<|zb (zu<|.int 5)<|zb (zu<|.int 7)<|zb (zu<|.int 2) zF)<|Bd (jm<|jC<|zb (zu<|.int 2)<|zb (zu<|.int 3)<|zb (zu<|.int 5)<|zb (zu<|.int 7) zF)<|zc 1) qj
noncomputable def IJ:=zT (jj 5 (qS (zu (.str "lr")) (oN (qS (zc 2) (zc 4))))) (jj 2 (Kh (Kh (Gq (zc 2) dm (ra (zc 4))) (zc 5)) (Gq (zc 2) (ra (zH qv (zc 4) (zu (.int 1)))) dm)))
noncomputable def P0:=jn (QX (sB<|zH g4 (zH yN (zc 3)<|zu<|.int 6)<|zu<|.int 2)<|sB<|zH qs (yC<|zc 2)<|zu<|.int 0) (zT (jj 4<|zH yN (zH Xj (zc 3)<|zu<|.int 6)<|yC<|zc 2) IJ) qj
def tN:CO D:=zH yN (zH Xj (zc 3)<|zu<|.int 6)<|zu<|.int 2
noncomputable def P4:=jn (sB (zH g4 (zH yN (zc 3) (zu (.int 6))) (zu (.int 3)))) (jj 2 (Kh (zc 2) (qS (zu (.str "rl")) tN))) qj
def xD:=jk 6<|zT M4<|zT P0<|zT P4<|j9<|qF<|zb (zc 1)<|zb (zc 2) zF
noncomputable def S4:=jj 5<|jz<|zO (jE<|zH qv (yC<|zc 3)<|zu<|.int 1) (.nm 0) 1 [0,1] jt (zH yN (zH Xj (zD ju<|zb (zc 1)<|zb (zH qv (zc 2)<|zc 0) zF)<|zu<|.int 7)<|zu<|.int 8)
noncomputable def HH:CO D:=dv (jm<|jC<|zb (zu<|.int 0)<|zb (zu<|.int 1)<|zb (zu<|.int 2)<|zb (zu<|.int 3)<|zb (zu<|.int 6)<|zb (zu<|.int 1)<|zb (zu<|.int 2)<|zb (zu<|.int 5) zF)<|zc 0
def S5:=jj 6<|jz<|zO (zN<|zk 5) (.nm 0) 1 [] jt HH
noncomputable def O1:=jn (QX (sB<|zH g4 (yC<|zc 3)<|zu<|.int 1)<|sB<|zH qs (zc 4)<|zu<|.int 0) (jj 6<|dv (jm<|jC<|zb (jz<|jC<|zb (zu<|.int 5)<|zb (zu<|.int 6) zF)<|zb (jz<|jC<|zb (zu<|.int 6)<|zb (zu<|.int 5) zF)<|zb (jz<|jC<|zb (zu<|.int 6)<|zb (zu<|.int 5) zF) zF)<|zH dq (zc 4)<|zu<|.int 1) qj
noncomputable def f_:=(zT (jj 13<|zH qv (zH qv (zH qv (zc 1)<|zu<|.int 4)<|zH yq (zu<|.int 7)<|zc 12)<|zc 8)<|zT (jj 5<|jz<|zO (jE<|dv (zk 6)<|zc 9) (.nm 0) 1 [0,13] jt (zD ju<|zb (zc 1)<|zb (zH qv (zc 2)<|zc 0) zF))<|yD 11<|z7<|jm<|zO (zN<|zk 5) (.nm 0) 1 [2] jt (zH yN (zH Xj (zc 0)<|zu<|.int 11)<|zc 1))
def HG:=eD (.tp [9,10])<|zD vI<|zb (zc 3)<|zb (zc 8) zF
noncomputable def HF:=yD 7<|qF<|zb (qS (zc 3)<|zc 8)<|zb (qF<|zb (dv (zk 6)<|zc 10)<|zb (dv (zk 6)<|zc 9)<|zb (z7<|zk 11) zF) zF
def S6:=zT HG<|zT (kF 11<|jC zF)<|zT (ZY (jE<|dv (zk 6)<|zc 10) (.nm 12) f_) HF
noncomputable def xf:=jk 14<|zT S4<|zT S5<|zT O1<|zT (kF 7<|jC zF)<|zT (ZY (jE<|yC<|zc 3) (.nm 8) S6)<|j9<|qF<|zb (zc 2)<|zb (z7<|zk 6)<|zb (z7<|zk 7) zF
noncomputable def qk:=jk 5 (zT (jn (lg (sB (zH my (dv (zk 3) (zu (.int 0))) (jz (jC zF)))) (lg (sB (zH my (dv (zk 4) (zu (.int 0))) (jz (jC zF)))) (lg (yb (sB (zD xR (zb (dv (zk 3) (zu (.int 1))) zF)))) (sB (zH DC (dv (zk 3) (zu (.int 1))) (zu (.int 0))))))) (j9 (zu (.bl dt))) qj) (zT (jn (sB (zH qs (bI (jm (zO (QT (dv (zk 0) (zu (.int 1))) (dv (zk 1) (zu (.int 1)))) (.tp [0,1]) 2 [] jt (zH yq (zc 0) (zc 1))))) (zu (.int 60)))) (j9 (zH g4 (dv (zk 2) (zu (.int 0))) (jz (jC (zb (zu (.str "many")) zF))))) qj) (j9 (lh (zH g4 (dv (zk 2) (zu (.int 0))) (jz (jC zF))) (lh (A3 .list (dv (zk 2) (zu (.int 1)))) (zH g4 (Kg (zJ (dv (zk 2) (zu (.int 1))))) (dv (zk 3) (zu (.int 1)))))))))
noncomputable def qR:List D->Option Xn:=W1 3 (oC (yc jR (zb (zc 0) (zb (zc 1) zF))) (eP (zD jT (zb (zc 0) (zb (zc 1) zF)))) (oC C6 (jj 2 (jz (je q8 (zb (zc 0) (zb (zc 1) zF))))) (tu (sB (zH qs (zD jS (zb (zc 2) zF)) (zu (.int 60)))) (iZ "TooMany") C6)))
noncomputable def xE:=jk 3 (zT (kF 1 (jC zF)) (zT (jn (sB (WZ "Unlike" (zc 0))) (yD 1 (zu (.str "unlike"))) qj) (zT (jn (sB (WZ "TooMany" (zc 0))) (yD 1 (zu (.str "many"))) qj) (zT (ZY (zN (zJ (jz (jC (zb (WZ "NoArrow" (zc 0)) (zb (WZ "NoLine" (zc 0)) (zb (WZ "NoPrime" (zc 0)) zF))))))) (.nm 2) (kF 1 (JJ (zk 1) (jm (YB (jm (jC (zb (zu (.str "odd")) zF))) (eM (zc 2))))))) (zT (ZY (zN (zJ (jz (jC (zb (WZ "NoRoom" (zc 0)) (zb (WZ "NoRow" (zc 0)) (zb (WZ "NoTable" (zc 0)) zF))))))) (.nm 2) (kF 1 (JJ (zk 1) (jm (YB (jm (jC (zb (zu (.str "odd")) zF))) (eM (zc 2))))))) (zT (ZY (zN (zJ (jz (jC (zb (WZ "NoText" (zc 0)) (zb (WZ "Nothing" (zc 0)) (zb (WZ "NoTurn" (zc 0)) zF))))))) (.nm 2) (kF 1 (JJ (zk 1) (jm (YB (jm (jC (zb (zu (.str "odd")) zF))) (eM (zc 2))))))) (zT (ZY (zN (zJ (jz (jC (zb (WZ "NoWidths" (zc 0)) (zb (WZ "Nought" (zc 0)) (zb (Ba (Bc (zc 0))) zF))))))) (.nm 2) (kF 1 (JJ (zk 1) (jm (YB (jm (jC (zb (zu (.str "odd")) zF))) (eM (zc 2))))))) (Kd 1))))))))
def qZ:List D->Option Xn:=W1 3<|yc jR<|zb (zc 0)<|zb (zc 1) zF
def ZK:List D->Option Xn:=W1 6<|yc jR<|zb (zc 0)<|zb (zc 1) zF
noncomputable def Ey:=jn (sB<|zH g4 (zc 2)<|zu<|.int 0) (jj 4<|jz<|je yO<|zb (zc 0)<|zb (zc 1) zF)<|jn (sB<|zH g4 (zc 2)<|zu<|.int 1) (jj 4<|zD ka<|zb (zc 0)<|zb (zc 1) zF)<|jj 4<|zD wg<|zb (zc 0)<|zb (zc 1) zF
noncomputable def rk:CO Xn:=tu (sB<|zH g4 (zc 2)<|zu<|.int 0) (yc qR<|zb (zc 0)<|zb (zc 1) zF)<|tu (sB<|zH g4 (zc 2)<|zu<|.int 1) (yc qZ<|zb (zc 0)<|zb (zc 1) zF)<|yc ZK<|zb (zc 0)<|zb (zc 1) zF
def Ig:=ed 5 3 Ey rk
noncomputable def O0:=jn (sB<|zH QD (zc 3)<|zu .el) (j9<|qF<|zb (jz<|je xE<|zb (zc 3) zF)<|zb (zu .el) zF) qj
def e_:=j9<|qF<|zb (jz<|jC zF)<|zb (zc 4) zF
def zQ:=jk 6<|zT (jj 3<|zu .el)<|zT (jj 4<|zu .el)<|zT Ig<|zT O0 e_
def rO:=jj 1<|zD ju<|zb (zc 0)<|zb (zu<|.int 0) zF
noncomputable def rM:=jj 2<|dv (jm<|jC<|zb (zu<|.int 2)<|zb (zu<|.int 3)<|zb (zu<|.int 5)<|zb (zu<|.int 7) zF)<|zH yN (zc 1)<|zu<|.int 4
noncomputable def rL:=jj 3<|zD xV<|zb (zH Xj (zc 1)<|zu<|.int 16)<|zb (zH qv (zu<|.int 1)<|zH yN (zH Xj (zc 1)<|zu<|.int 4)<|zu<|.int 3) zF
noncomputable def rK:=eD (.tp [4,5])<|zD xD<|zb (zc 0)<|zb (zc 2)<|zb (zc 3)<|zb (zD ju<|zb (zc 0)<|zb (zu<|.int 1) zF) zF
def rJ:=jj 6<|zH yN (zH Xj (zc 1)<|zu<|.int 128)<|zu<|.int 4
def rH:=jj 7<|zD xf<|zb (zc 0)<|zb (zu<|.int 2)<|zb (zc 2)<|zb (zc 3)<|zb (zc 6) zF
noncomputable def dG:CO D:=dv (jm<|jC<|zb (zu<|.int 0)<|zb (zu<|.int 2)<|zb (zu<|.int 2)<|zb (zu<|.int 1) zF)<|zc 6
def rG:=jj 8<|zD xf<|zb (zc 0)<|zb (zu<|.int 60)<|zb (zc 4)<|zb (zc 5)<|zb dG zF
noncomputable def lE:=jj 9<|jz<|zO (jE<|zu<|.int 3) (.nm 0) 1 [7,8] jt (zD zQ<|zb (zc 1)<|zb (zc 2)<|zb (zc 0) zF)
def dE:CO Bool:=sB<|zH my (qF<|zb (zc 2)<|zb (zc 3) zF)<|qF<|zb (zc 4)<|zb (zc 5) zF
noncomputable def dF:=jn dE (j9 (zH g4 (jz (zO (zN (zk 9)) (.nm 0) 1 [] jt (dv (zk 0) (zu (.int 0))))) (jz (YB (jm (jC (zb (jz (jC (zb (zu (.str "unlike")) zF))) zF))) (zu (.int 3)))))) qj
noncomputable def WJ:=j9<|zD qk<|zb (zc 7)<|zb (zc 8)<|zb (dv (zk 9)<|zu<|.int 0)<|zb (dv (zk 9)<|zu<|.int 1)<|zb (dv (zk 9)<|zu<|.int 2) zF
def Zi:=jk 10<|zT rO<|zT rM<|zT rL<|zT rK<|zT rJ<|zT rH<|zT rG<|zT lE<|zT dF WJ
theorem zw(h:F γ=da (.next γ'))(g:G γ'=r):zT F G γ=r:=by rw[jP,h];exact g
theorem jf(h:F (z9 n ds)=da (.ret r)):jk n F ds=da r:=by show(F<|z9 n ds).bind _=_;rw[h];rfl
theorem Vj{T:Tg}{F:CO Fl}(P:Nat->Ctx->Prop)(n:Nat){γ:Ctx}(z:P 0 γ)(step:∀s,s<n->∀γ,P s γ->∃γ1 I,km T (.int (s:Int)) γ=da γ1/\F γ1=da (.next I)/\P (s+1) I):
 ∃γ',kX T F ((ME n).map λ(i:Nat)=>D.int (i:Int)) γ=da (.next γ')/\P n γ':=by
 have key:∀(k s:Nat) (γ:Ctx),s+k=n->P s γ->∃γ',kX T F ((SK s k).map λ(i:Nat)=>D.int (i:Int)) γ=da (.next γ')/\P n γ':=by
  intro k
  induction k with
  |zero=>
   intro s γ e O;obtain rfl:s=n:=by omega
   exact⟨γ,rfl,O⟩
  |succ k U=>
   intro s γ e O;obtain⟨γ1,I,a,Y,b⟩:=step s ⋯ γ O;obtain⟨γ',d,f⟩:=U (s+1) I ⋯ b;refine⟨γ',?_,f⟩;rw[RL,Nn,qW,a];simp only[MJ,Y];exact d
 have:=key n 0 γ ⋯ z;rw[<-PX]at this;exact this
theorem ZC(P:Nat->Ctx->Prop)(n:Nat)(L:n<=lim)(J:f γ=da (.int (n:Int)))(z:P 0 γ)(step:∀s,s<n->∀γ,P s γ->∃γ1 I,km T (.int (s:Int)) γ=da γ1/\F γ1=da (.next I)/\P (s+1) I):
 ∃γ',ZY (jE f) T F γ=da (.next γ')/\P n γ':=by
 obtain⟨γ',e,O⟩:=Vj P n z step;refine⟨γ',?_,O⟩;have U:=jl;have r:inR (n:Int)=dj:=J6 ⋯ ⋯;rw[aZ,w4,J];simp only[MJ,qG,r,if_true,Ou,qM];rw[qu n λi=>(i:Int)];exact e
abbrev t5(k:Sk)(xs:List D):D:=match k with|.T=>D.tup xs|.L=>D.lst xs
@[simp] theorem IY(k xs):jx (t5 k xs)=da (k,xs):=by cases k<;>rfl
theorem XZ(k:Sk)(f:Nat->Int)(I:0<p)(z:n<=lim):
 xP [.int p,t5 k (zG n f)]=da (.val<|.tup<|zG n λi=>f i%p):=by
 simp[xP,jk,z9,jo,z,ke];unfold zG;rw[zC (r:=λi=>D.int<|f i%p)]
 ·simp
 ·intro i a
  refine zB rfl rfl ?_;simp[I]
theorem iT(f:Nat->Int)(I:0<p)(z:n<=lim):
 xP [.int p,.tup (zG n f)]=da (.val<|.tup<|zG n λi=>f i%p):=XZ .T f I z
theorem w9(f:Nat->Int)(I:0<p)(z:n<=lim):
 xP [.int p,.lst (zG n f)]=da (.val<|.tup<|zG n λi=>f i%p):=XZ .L f I z
theorem Yb(k:Sk)(f:UV)(g:Nat->Int)(O:0<p)(I:h<=lim)(J:w<=lim)(z:∀i j,i<h->j<w->0<=f i j/\f i j<100):
 dg [.int p,jZ h w f,t5 k (zG w g)]=da (.val<|.tup<|zG h λi=>zm (λj=>f i j*g j) w%p):=by
 simp[dg,jk,z9,jo,I,ke,jZ,MI];unfold zX;rw[zC (r:=λi=>D.int<|zm (λj=>f i j*g j) w)]
 ·simp
  rw[show(List.map (λi=>D.int<|zm (λj=>f i j*g j) w)<|ME h)=zG h λi=>zm (λj=>f i j*g j) w from rfl,w9 _ O I];rfl
 ·intro i a
  refine zB rfl rfl ?_;simp[jo,wj,J];rw[zC (r:=λj=>D.int<|f i j*g j)]
  ·simp
   rw[show(List.map (λj=>D.int<|f i j*g j)<|ME w)=zG w λj=>f i j*g j from rfl,wt]
  ·intro j U
   refine zB rfl rfl ?_;have:=z i j (MG.mp a)<|MG.mp U;simp[ZR (f i j) (g j) ⋯ ⋯]
theorem yz(f:UV)(I:h<=lim)(z:w<=lim):jQ [jZ h w f]=da (.val<|jZ w h λi j=>f j i):=by
 simp[jQ,jk,z9,jo,I,z,ke,jZ,MI,jP,qM];rw[qu w λi=>(i:Int)];rw[zC (r:=λj=>D.tup<|zG h λi=>f i j)]
 ·simp
  rfl
 ·intro j O
  refine zB rfl rfl ?_;simp[jo,I,ke];unfold zX;rw[zC (r:=λi=>D.int<|f i j)]
  ·simp
   rfl
  ·intro i b
   refine zB rfl rfl ?_;have a:=MG.mp O;simp[a,nN _ a]
theorem vx{p:Int}{h m w:Nat}(f g:UV)(I:0<p)(O:h<=lim)(z:m<=lim)(J:w<=lim)(U:∀i j,i<m->j<w->0<=g i j/\g i j<100):
 qA [.int p,jZ h m f,jZ m w g]=da (.val<|jZ h w λi j=>zm (λk=>g k j*f i k) m%p):=by
 simp[qA,jk,z9,jP,yz g z J];simp[jo,O,z,J,ke,jZ];rw[show zX h m f=(ME h).map λi=>D.tup (zG m<|f i)from rfl];rw[zC (r:=λi=>D.tup<|zG w λj=>zm (λk=>g k j*f i k) m%p)]
 ·simp
  rfl
 ·intro i l
  refine zB rfl rfl ?_;have e:=Yb .T (λi j=>g j i) (f i) I J z<|λa b d Y=>U b a Y d;simp[jZ]at e ⊢;rw[e];simp
theorem Jd{p:Int}{h w:Nat}(c:Int)(f g:UV)(I : -(2^64)<c)(O:c<2^64)(U:0<p)(Y:h<=lim)(z:w<=lim):
 xG [.int p,jZ h w f,.int c,jZ h w g]=da (.val<|jZ h w λi j=>(f i j+c*g i j)%p):=by
 simp[xG,jk,z9,jP,jZ,WB,Y,jo,ke,MI];rw[zC (r:=λi=>D.tup<|zG w λj=>(f i j+c*g i j)%p)]
 ·simp
  rfl
 ·intro i a
  refine zB rfl rfl ?_;simp[wj,z,jo,MI];rw[zC (r:=λj=>D.int<|f i j+c*g i j)]
  ·simp
   rw[show(List.map (λj=>D.int<|f i j+c*g i j)<|ME w)=zG w λj=>f i j+c*g i j from rfl,w9 _ U z];simp
  ·intro j b
   refine zB rfl rfl ?_;simp[ke,ZR c _ I O]
theorem yx(z:n<=lim):j8 [.int n]=da (.val<|jZ n n λi j=>if i=j then 1 else 0):=by
 simp[j8,jk,z9,jP,z,jo,ke,MI,qM];rw[qu n λi=>(i:Int)];rw[zC (r:=λi=>D.tup<|zG n λj=>if i=j then 1 else 0)]
 ·simp
  rfl
 ·intro i a
  refine zB rfl rfl ?_;simp[z,jo,MI,qM,ke];rw[qu n λi=>(i:Int)];rw[zC (r:=λj=>D.int<|if i=j then 1 else 0)]
  ·simp
   rfl
  ·intro j I
   refine zB rfl rfl ?_;simp;by_cases e:i=j
   ·simp[e]
   ·rw[UY ⋯,UY e]
theorem eT(d:D)(w:Nat):MI w d=(ME w).map λ_=>d:=by
 induction w with
 |zero=>rfl
 |succ n I=>rw[List.replicate_succ',I,OH,NU];simp
def XQ(ns:List Int):D:=.lst (ns.map D.int)
mutual
theorem O4:∀d:D,i4 d d=dj
 |.el=>rfl
 |.bl b=>by simp[i4]
 |.int i=>by simp[i4]
 |.str x=>by simp[i4]
 |.tup e=>by simp only[i4];exact L4 e
 |.lst e=>by simp only[i4];exact L4 e
 |.exc c n=>by simp[i4]
 |.n9 a b=>by simp only[i4];rw[L4 a,L4 b];rfl
 |.ng a b=>by simp only[i4];rw[L4 b];simp
 |.ins a b c=>by simp only[i4];rw[O4 b,O4 c];simp
theorem L4:∀ds:List D,t6 ds ds=dj
 |[]=>rfl
 |d::ds=>by simp only[t6,O4 d,L4 ds,Bool.and_self]
end
theorem Jn:∀{l:List D} {n:Nat},(∀d∈l,deep d<=n)->x6 l<=n
 |[],n,_=>rn n
 |d::ds,n,h=>by simp only[x6];exact Nat.max_le.mpr ⟨h d Nc,Jn λe I=>h e<|Ng _ I⟩
theorem nW(n f):deep (.tup<|zG n f)<=1:=by
 simp only[deep];have:x6 (zG n f)<=0:=Jn λd a=>by simp[zG]at a;obtain⟨i,_,rfl⟩:=a;exact MM _
 omega
theorem nX(h w f):deep (.tup<|zX h w f)<=2:=by
 simp only[deep];have:x6 (zX h w f)<=1:=Jn λd a=>by simp[zX]at a;obtain⟨i,_,rfl⟩:=a;exact nW _ _
 omega
theorem Kv:∀{l:List D},(∀d∈l,kr d=dj)->nr l=dj
 |[],_=>rfl
 |d::ds,h=>by simp only[nr,h d Nc,Kv λe I=>h e<|Ng _ I,Bool.and_self]
theorem aq(h:deep d<=n)(I:n<=20)(z:kr d=dj):m4 d=dj:=by unfold m4;rw[z,TR];exact decide_eq_true<|NJ h I
theorem tY(n f):kr (.tup<|zG n f)=dj:=by
 simp only[kr];exact Kv λd a=>by simp[zG]at a;obtain⟨i,_,rfl⟩:=a;rfl
theorem tZ(h w f):kr (.tup<|zX h w f)=dj:=by
 simp only[kr];exact Kv λd a=>by simp[zX]at a;obtain⟨i,_,rfl⟩:=a;exact tY _ _
theorem nY{d:D}(h:m4 d=dj):my d d=da (.bl dt):=by unfold my;rw[UJ ⟨h,h⟩,O4];rfl
theorem Ww(i:Int):xR [.int i]=da (.val<|.bl dj):=by simp[xR,jk,z9,lj]
def ij(b:Bool):Nat:=if b then 108 else 114
def xS(c:Nat):Str:=⟨#[c]⟩
theorem XE:∀(l:List Nat),(Uv "" (l.map xS)).cps.toList=l
 |[]=>rfl
 |[c]=>rfl
 |c::d::l=>by
  have I:=XE (d::l);show((xS c++("" : Str))++Uv "" ((d::l).map xS)).cps.toList=_;have e:∀a b:Str,(a++b).cps.toList=a.cps.toList++b.cps.toList:=λa b=>by show(a.cps++b.cps).toList=_;simp
  rw[e,e,I];rfl
def jK(m:Nat)(w:UK):Str:=Uv "" ((ME m).map λk=>xS (ij (w k)))
theorem ku(m w):(jK m w).cps.toList=(ME m).map λk=>ij (w k):=by have:=XE<|(ME m).map λk=>ij<|w k;rw[NB]at this;exact this
theorem Je(m w):(jK m w).length=m:=by show(jK m w).cps.size=m;rw[<-ON,ku];simp
theorem yd{m:Nat}(w)(z:m<=1000):js (jK m w)=dj:=decide_eq_true (by rw[Je];exact z)
theorem X9{z:Type}(g:z->Str):∀l:List z,Yv (l.map λx=>D.str<|g x)=da (l.map g)
 |[]=>rfl
 |a::l=>by simp[Yv,X9 g l]
def gm(w:UK)(wd:UX)(k:Nat):Nat:=if w k then wd k else wd (k+1)
def f9(w:UK)(wd:UX)(k:Nat):Nat:=if w k then wd (k+1)else wd k
noncomputable def vn(w:UK)(wd:UX)(T:UW)(k:Nat):D:=.tup [.str (xS<|ij<|w k),jZ (gm w wd k) (f9 w wd k) (T k)]
def jY(m:Nat)(w:UK)(wd:UX)(T:UW):List D:=(ME m).map (vn w wd T)
noncomputable def zR(p:Int)(m:Nat)(w:UK)(wd:UX)(T:UW):D:=.tup [.int p,.tup<|zG (m+1) λk=>(wd k:Int),.tup (jY m w wd T)]
@[simp] theorem iL(m w wd T):(jY m w wd T).length=m:=by simp[jY]
theorem wu{m k:Nat}(w)(J:m<=1000)(I:k<m)(γ:Ctx)(f g:CO D)(z:f γ=da (.str<|jK m w))(O:g γ=da (.int k)):qS f g γ=da (.str<|xS<|ij<|w k):=by rw[vG,z,O];simp only[MJ,qG];rw[UJ (yd w J),ku];simp[I,xS]
theorem pV(b:Bool):g4 (.str (xS (ij b))) (.str "l")=da (.bl b):=by
 have e:∀b:Bool,(xS (ij b)==(Nz "l"))=b:=by decide +kernel
 have I:∀b:Bool,m4 (.str<|xS<|ij b)=dj:=by decide +kernel
 have O:m4 (.str (Nz "l"))=dj:=by decide +kernel
 unfold g4;rw[UJ ⟨I b,O⟩];show da (D.bl (xS (ij b)==Nz "l"))=_;rw[e]
theorem Cj(b:Bool):m4 (.str<|xS<|ij b)=dj:=by cases b<;>decide +kernel
theorem QA(b:Bool):g4 (.str (xS (ij b))) (.str "r")=da (.bl (!b)):=by
 have e:∀b:Bool,(xS (ij b)==(Nz "r")) = !b:=by decide +kernel
 have I:m4 (.str (Nz "r"))=dj:=by decide +kernel
 unfold g4;rw[UJ ⟨Cj b,I⟩];show da (D.bl (xS (ij b)==Nz "r"))=_;rw[e]
theorem iq(f:Nat->D)(J:i<=j)(z:j<=n):dr ((ME n).map f) (da (i:Int)) (da (j:Int))=(ME<|j-i).map λk=>f (i+k):=by
 have c:∀(d k:Nat),k<=n->Wm n d (da (k:Int))=k:=λd k O=>by show(if (k:Int)<0 then ((k:Int)+n).toNat else min (k:Int).toNat n)=k;rw[UY ⋯];simp only[Ou];omega
 have I:((ME n).map f).length=n:=by simp
 unfold dr;rw[I,c 0 i ⋯,c n j z];apply List.ext_getElem
 ·simp;omega
 ·intro k U g2
  simp
theorem zA:∀{n:Nat},(∀k,k<n->f k=g k)->zm f n=zm g n
 |0,_=>rfl
 |n+1,h=>by simp only[zm];rw[zA (n:=n) λk I=>h k ⋯,h n ⋯]
theorem zU(n:Nat):zm (λ_=>0) n=0:=by
 induction n with
 |zero=>rfl
 |succ n I=>simp[zm,I]
theorem z6(z:i<n)(h:∀k,k<n->k≠i->f k=0):zm f n=f i:=by
 induction n with
 |zero=>omega
 | succ n I=>
  simp only[zm];by_cases e:i=n
  ·subst e
   rw[zA (g:=λ_=>0) (λk O=>h k ⋯ ⋯),zU];omega
  ·rw[I ⋯ λk O=>h k ⋯,h n ⋯ ⋯]
   omega
theorem qz(f g:Nat->Int)(n:Nat):zm (λk=>f k+g k) n=zm f n+zm g n:=by
 induction n with
 |zero=>rfl
 |succ n I=>simp only[zm,I];omega
theorem kx(f:Nat->Int)(c:Int)(n:Nat):zm (λk=>f k*c) n=zm f n*c:=by
 induction n with
 |zero=>simp[zm]
 |succ n I=>simp only[zm,I,Int.add_mul]
theorem jD(f:Nat->Int)(c:Int)(n:Nat):zm (λk=>c*f k) n=c*zm f n:=by
 induction n with
 |zero=>simp[zm]
 |succ n I=>simp only[zm,I,SQ]
theorem ql(f:UV)(n m:Nat):zm (λi=>zm (λj=>f i j) m) n=zm (λj=>zm (λi=>f i j) n) m:=by
 induction n with
 |zero=>simp[zm,zU]
 |succ n I=>simp only[zm];rw[I,<-qz]
theorem zS:∀{n:Nat},(∀k,k<n->f k%p=g k%p)->zm f n%p=zm g n%p
 |0,_=>rfl
 |n+1,h=>by simp only[zm];rw[Ot,zS (n:=n)<|λk I=>h k ⋯,h n ⋯,<-Ot]
theorem fY(p x y:Int):(x%p*y)%p=(x*y)%p:=by rw[MS,NM,<-MS]
theorem wM(p x y:Int):(x*(y%p))%p=(x*y)%p:=by rw[MS,NM,<-MS]
theorem dQ(p:Int)(a b c:UV)(m w i j:Nat):
 zm (λk=>a i k*(zm (λl=>b k l*c l j) w%p)) m%p=zm (λl=>(zm (λk=>a i k*b k l) m%p)*c l j) w%p:=by
 rw[zS (g:=λk=>zm (λl=>a i k*(b k l*c l j)) w) (λk _=>by rw[wM,jD]),
  zS (f:=λl=>(zm (λk=>a i k*b k l) m%p)*c l j) (g:=λl=>zm (λk=>a i k*(b k l*c l j)) m) (λl _=>by rw[fY,<-kx];exact congrArg (· % p)<|zA λk _=>PD _ _ _),ql]
abbrev Vc:=Nat->Int
def Pr(p:Int):Prop:=p=2\/p=3\/p=5\/p=7
theorem Pr.pos(h:Pr p):0<p:=by unfold Pr at h;omega
theorem Pr.two(h:Pr p):2<=p:=by unfold Pr at h;omega
theorem Pr.le(h:Pr p):p<=7:=by unfold Pr at h;omega
theorem Pr.one(h:Pr p):(1:Int)%p=1:=NO ⋯ (by have:=h.two;omega)
inductive Span(p:Int)(n:Nat)(G:Vc->Prop):Vc->Prop where
 |zero {v:Vc}:(∀i,i<n->v i%p=0)->Span p n G v
 |step {v w g:Vc} {c:Int}:G g->Span p n G w->(∀i,i<n->v i%p=(w i+c*g i)%p)->Span p n G v
section
variable{p:Int}{n:Nat}{G G':Vc->Prop}
theorem Span.congr(h:Span p n G v)(e:∀i,i<n->v' i%p=v i%p):Span p n G v':=by
 cases h with
 |zero h=>exact .zero λi a=>by rw[e i a,h i a]
 |step I b h=>exact .step I b λi a=>by rw[e i a,h i a]
theorem Span.gen(h:G g):Span p n G g:=.step (c:=1) h (.zero (v:=λ_=>0) λi _=>by simp) λi _=>by simp
theorem Span.add(O:Span p n G v)(z:Span p n G w):∀c:Int,Span p n G λi=>w i+c*v i:=by
 induction O with
 |zero h=>
  intro c;refine z.congr λi a=>?_;rw[Ot,MS,h i a];simp
 |@step v b g I U d h Y=>
  intro c;refine .step (c:=c*I) U (Y c) λi a=>?_;have e:(c*v i)%p=(c*(b i+I*g i))%p:=by rw[MS,h i a,<-MS]
  rw[Ot,e,<-Ot];congr 1;rw[SQ,<-PD,Int.add_assoc]
theorem Span.smul(I:Span p n G v)(c:Int):Span p n G λi=>c*v i:=
 (I.add (w:=λ_=>0) (.zero λi _=>by simp) c).congr λi _=>by simp
theorem Span.le(h:Span p n G v)(I:∀g,G g->Span p n G' g):Span p n G' v:=by
 induction h with
 |zero h=>exact .zero h
 |step O a h U=>exact((I _ O).add U _).congr h
end
structure i3(p:Int)(n r:Nat)(B:Nat->Vc)(l:UX):Prop where
 lt:∀k,k<r->l k<n
 mono:∀k m,k<m->m<r->l k<l m
 one:∀k,k<r->B k (l k)=1
 o7:∀k j,k<r->j<l k->B k j=0
 wh:∀k m,k<r->m<r->m≠k->B k (l m)=0
 n7:∀k i,k<r->i<n->0<=B k i/\B k i<p
def eL(r:Nat)(B:Nat->Vc):Vc->Prop:=λv=>∃k,k<r/\v=B k
section
variable{p:Int}{n r r':Nat}{B B':Nat->Vc}{l l':UX}
theorem Jb(O:i3 p n r B l)(h:Span p n (eL r B) v):∀i,i<n->v i%p=zm (λk=>v (l k)*B k i) r%p:=by
 induction h with
 |@zero v h=>
  intro i a;rw[h i a];have:zm (λk=>v (l k)*B k i) r%p=zm (λ_=>0) r%p:=zS λk I=>by rw[MS,h _ (O.lt k I)];simp
  rw[this,zU];rfl
 |@step v w g c U j h Y=>
  intro i a;obtain⟨m,b,rfl⟩:=U;rw[h i a];have e:zm (λk=>v (l k)*B k i) r%p=zm (λk=>w (l k)*B k i+c*B m (l k)*B k i) r%p:=zS λk I=>by rw[MS,h _<|O.lt k I,<-MS,Int.add_mul]
  have f:zm (λk=>c*B m (l k)*B k i) r=c*B m i:=by rw[z6 (i:=m) b λk I d=>by rw[O.wh m k b I d];simp,O.one m b];simp
  rw[e,qz,f,Ot,Y i a,<-Ot]
theorem Wc(I:i3 p n r B l)(h:Span p n (eL r B) v)(U:j<n)(z:v j%p≠0)(hz:∀i,i<j->v i%p=0):∃k,k<r/\l k=j:=by
 apply Of;intro Y;apply z;rw[Jb I h j U];have:zm (λk=>v (l k)*B k j) r%p=zm (λ_=>0) r%p:=zS λk O=>by
  have a:l k≠j:=λe=>Y ⟨k,O,e⟩;rcases Nj (l k) j with q|q
  ·rw[MS,hz _ q];simp
  ·rw[I.o7 k j O ⋯];simp
 rw[this,zU];rfl
theorem aB(O:∀k m,k<m->m<r->l k<l m)(U:∀k m,k<m->m<r'->l' k<l' m)(J:∀k,k<r->∃m,m<r'/\l' m=l k)(L:∀k,k<r'->∃m,m<r/\l m=l' k):
 ∀k,k<r->k<r'/\l k=l' k:=by
 intro k
 induction k using Nat.strongRecOn with
 | ind k Y=>
  intro a;obtain⟨m,b,em⟩:=J k a;have e:k<=m:=by
   rcases Nj m k with q|q
   ·have:=(Y m q ⋯).2
    have:=O m k q a;omega
   ·exact q
  have I:k<r':=by omega
  refine⟨I,?_⟩;obtain⟨q,d,eq⟩:=L k I;have f:k<=q:=by
   rcases Nj q k with z|z
   ·have:=(Y q z ⋯).2
    have:=U q k z I;omega
   ·exact z
  rcases Nj k m with z|z
  ·have g:=U k m z b
   have h:l k<=l q:=by
    rcases Nj k q with y|y
    ·exact Tc<|O k q y d
    ·have:k=q:=by omega
     subst this;exact MM _
   omega
  ·have:m=k:=by omega
   subst this;exact em.symm
theorem QG(L:Pr p)(O:i3 p n r B l)(U:i3 p n r' B' l')(z:∀v,Span p n (eL r B) v->Span p n (eL r' B') v)(J:∀v,Span p n (eL r' B') v->Span p n (eL r B) v):
 r=r'/\(∀k,k<r->l k=l' k)/\∀k i,k<r->i<n->B k i=B' k i:=by
 have one:=L.one;have f:∀k,k<r->∃m,m<r'/\l' m=l k:=λk I=>Wc U (z _<|.gen ⟨k,I,rfl⟩) (O.lt k I) (by rw[O.one k I,one];decide) λi a=>by rw[O.o7 k i I a];simp
 have g:∀k,k<r'->∃m,m<r/\l m=l' k:=λk I=>Wc O (J _<|.gen ⟨k,I,rfl⟩) (U.lt k I) (by rw[U.one k I,one];decide) λi a=>by rw[U.o7 k i I a];simp
 have b:=aB O.mono U.mono f g;have j:=aB U.mono O.mono g f;have o:r=r':=by
  rcases RG r r' with q|q|q
  ·exact absurd (j r q).1 (NP _)
  ·exact q
  ·exact absurd (b r' q).1 (NP _)
 subst o;refine⟨rfl,λk I=>(b k I).2,λk i I a=>?_⟩;have c:=Jb U (z _<|.gen ⟨k,I,rfl⟩) i a;rw[z6 (i:=k) I λm d h=>by rw[<-(b m d).2,O.wh k m I d h];simp,<-(b k I).2,O.one k I,Int.one_mul]at c;have Y:=O.n7 k i I a;have e:=U.n7 k i I a;rw[NO Y.1 Y.2,NO e.1 e.2]at c;exact c
end
theorem jw(q:α->Bool)(r:α->D):∀(l:List α),(∀x∈l,∃γ1,km T (g x) γ=da γ1/\k γ1=da (q x)/\(q x=dj->f γ1=da (r x)))->
 zY T k f γ (l.map g)=da ((l.filter q).map r)
 |[],_=>rfl
 |x::l,h=>by
  obtain⟨γ1,a,b,O⟩:=h x Nc;have I:=jw q r l λy U=>h y<|Ng _ U;simp only[Nn,zY,a,b,MJ];cases e:q x with
  |true=>simp[O e,I,e]
  |false=>simp[I,e]
theorem CP(I:Pr p)(z:0<x)(J:x<p):∃y:Nat,1<=y/\(y:Int)<p/\(y:Int)*x%p=1:=by
 rcases I with rfl|rfl|rfl|rfl
 ·obtain rfl:x=1:=by omega
  exact⟨1,by decide,by decide,by decide⟩
 ·rcases (show x=1\/x=2 by omega)with rfl|rfl
  ·exact⟨1,by decide,by decide,by decide⟩
  ·exact⟨2,by decide,by decide,by decide⟩
 ·rcases (show x=1\/x=2\/x=3\/x=4 by omega)with rfl|rfl|rfl|rfl
  ·exact⟨1,by decide,by decide,by decide⟩
  ·exact⟨3,by decide,by decide,by decide⟩
  ·exact⟨2,by decide,by decide,by decide⟩
  ·exact⟨4,by decide,by decide,by decide⟩
 ·rcases (show x=1\/x=2\/x=3\/x=4\/x=5\/x=6 by omega)with rfl|rfl|rfl|rfl|rfl|rfl
  ·exact⟨1,by decide,by decide,by decide⟩
  ·exact⟨4,by decide,by decide,by decide⟩
  ·exact⟨5,by decide,by decide,by decide⟩
  ·exact⟨2,by decide,by decide,by decide⟩
  ·exact⟨3,by decide,by decide,by decide⟩
  ·exact⟨6,by decide,by decide,by decide⟩
theorem Vn{q:UK}{n a:Nat}{yS:List Nat}(h:(ME n).filter q=a::yS):a<n/\q a=dj/\∀i,i<a->q i=dt:=by
 have b:a∈(ME n).filter q:=by rw[h];exact Nc
 refine⟨MG.mp (Nl.mp b).1,(Nl.mp b).2,λi f=>?_⟩;apply Of;intro I;have O:q i=dj:=by simpa using I
 have U:i∈a::yS:=by rw[<-h];exact Nl.mpr ⟨MG.mpr (by have:=MG.mp (Nl.mp b).1;omega),O⟩
 have d:(a::yS).Pairwise (· < ·):=by rw[<-h];exact SE _ RD
 rcases MQ.mp U with e|e
 ·omega
 ·have:=(List.pairwise_cons.mp d).1 i e;omega
theorem fT(h:(ME n).filter q=[]):∀i,i<n->q i=dt:=λi a=>by apply Of;intro I;have:i∈(ME n).filter q:=Nl.mpr ⟨MG.mpr a,by simpa using I⟩;rw[h]at this;simp at this
theorem VE(I:Pr p)(z:0<x)(J:x<p):∃y,Zj [.int p,.int x]=da (.val<|.int y)/\1<=y/\y<p/\x*y%p=1:=by
 rcases I with rfl|rfl|rfl|rfl
 ·have:x=1:=by omega
  subst this;exact⟨1,rfl,by decide,by decide,by decide⟩
 ·have:x=1\/x=2:=by omega
  rcases this with rfl|rfl
  ·exact⟨1,rfl,by decide,by decide,by decide⟩
  ·exact⟨2,rfl,by decide,by decide,by decide⟩
 ·have:x=1\/x=2\/x=3\/x=4:=by omega
  rcases this with rfl|rfl|rfl|rfl
  ·exact⟨1,rfl,by decide,by decide,by decide⟩
  ·exact⟨3,rfl,by decide,by decide,by decide⟩
  ·exact⟨2,rfl,by decide,by decide,by decide⟩
  ·exact⟨4,rfl,by decide,by decide,by decide⟩
 ·have:x=1\/x=2\/x=3\/x=4\/x=5\/x=6:=by omega
  rcases this with rfl|rfl|rfl|rfl|rfl|rfl
  ·exact⟨1,rfl,by decide,by decide,by decide⟩
  ·exact⟨4,rfl,by decide,by decide,by decide⟩
  ·exact⟨5,rfl,by decide,by decide,by decide⟩
  ·exact⟨2,rfl,by decide,by decide,by decide⟩
  ·exact⟨3,rfl,by decide,by decide,by decide⟩
  ·exact⟨6,rfl,by decide,by decide,by decide⟩
theorem ZW(O:Pr p)(J:n<=lim)(I:t<n)(w P:Nat->Int)(z:∀i,i<n->0<=w i/\w i<p):
 qL [.int p,.tup<|zG n w,.tup<|zG n P,.int t]=da (.val<|.tup<|zG n λi=>(w i-w t*P i)%p):=by
 have Y:=z t I;have d:=O.le;have U:∀x,XU (w t) x=dj:=λx=>ZR _ _ ⋯ ⋯;by_cases b:w t=0
 ·simp[qL,jk,z9,jP,I,b]
  apply wW;intro i a;rw[NO (z i a).1 (z i a).2]
 ·simp[qL,jk,z9,jP,I,b,wj,J,jo,ke,MI]
  rw[zC (r:=λi=>D.int<|w i-w t*P i)]
  ·rw[<-qu]
   simp[w9 _ O.pos J]
  ·intro i a
   refine zB rfl rfl ?_;simp[U]
theorem V2{l:UX}{r t:Nat}(z:∀k m,k<m->m<r->l k<l m)(I:∀k,k<r->l k<t):r<=t:=by
 have key:∀k,k<r->k<=l k:=by
  intro k
  induction k with
  |zero=>intro _;exact rn _
  |succ k O=>
   intro U;have a:=O ⋯;have b:=z k (k+1) ⋯ U;omega
 cases r with
 |zero=>exact rn _
 |succ r=>
  have a:=key r ⋯;have b:=I r ⋯;omega
noncomputable def Js:=(zT (jj 6<|jz<|zO (zN<|zk 3) (.nm 0) 1 [5] (sB<|zH my (dv (zk 0)<|zc 1)<|zu<|.int 0) (zc 0))<|zT (jn (yb<|sA<|zk 6) sE qj)<|zT (jj 7<|zD Zj<|zb (zc 0)<|zb (dv (zJ<|dv (zk 6)<|zu<|.int 0)<|zc 5) zF)<|zT (jj 8<|zD xP<|zb (zc 0)<|zb (jz<|zO (zN<|zJ<|dv (zk 6)<|zu<|.int 0) (.nm 0) 1 [7] jt (zH yq (zc 1)<|zc 0)) zF)<|zT (jj 3<|jz<|zO (zN<|zk 3) (.nm 0) 1 [0,5,8] jt (zD qL<|zb (zc 1)<|zb (zc 0)<|zb (zc 3)<|zb (zc 2) zF))<|kF 4<|JJ (jm<|zO (zN<|zk 4) (.nm 0) 1 [0,5,8] jt (zD qL<|zb (zc 1)<|zb (zc 0)<|zb (zc 3)<|zb (zc 2) zF))<|jm<|jC<|zb (zc 8) zF)
def Un(r:Nat)(B:Nat->Vc)(m:Nat)(W:Nat->Vc):Vc->Prop:=λv=>eL r B v\/eL m W v
structure Dq(p:Int)(n m:Nat)(W:Nat->Vc)(t r:Nat)(B:Nat->Vc)(l:UX)(Wt:Nat->Vc):Prop where
 n7:∀j i,j<m->i<n->0<=Wt j i/\Wt j i<p
 D6:∀j i,j<m->i<t->Wt j i=0
 DH:i3 p n r B l
 lt:∀k,k<r->l k<t
 span:∀v,Span p n (Un r B m Wt) v↔Span p n (eL m W) v
section
variable{p:Int}{n m:Nat}{W:Nat->Vc}{t r:Nat}{B:Nat->Vc}{l:UX}{Wt:Nat->Vc}
theorem Dq.skip(h:Dq p n m W t r B l Wt)(hz:∀j,j<m->Wt j t=0):Dq p n m W (t+1) r B l Wt:=
 ⟨h.n7,λj i I a=>by
  rcases Nj i t with q|q
  ·exact h.D6 j i I q
  ·have:i=t:=by omega
   subst this;exact hz j I,h.DH,λk O=>Oc<|h.lt k O,h.span⟩
def l0(p:Int)(P:Vc)(t:Nat)(w:Vc):Vc:=λi=>(w i-w t*P i)%p
def cC(p:Int)(P:Vc)(t r:Nat)(B:Nat->Vc):Nat->Vc:=λk=>if k<r then l0 p P t (B k)else P
def pC(t r:Nat)(l:UX):Nat->Nat:=λk=>if k<r then l k else t
theorem Jr(I:Span p n G P)(z:Span p n G w):Span p n G (l0 p P t w):=
 (I.add z (-(w t))).congr λi _=>by unfold l0;rw[NM];congr 1;rw[Int.neg_mul];omega
theorem WN(I:Span p n G P)(z:Span p n G (l0 p P t w)):Span p n G w:=
 (I.add z<|w t).congr λi _=>by unfold l0;rw[Ot,NM,<-Ot];congr 1;omega
theorem Dq.next(J:Pr p)(h:Dq p n m W t r B l Wt)(Z:t<n)(L:j0<m)(hy:Wt j0 t*y%p=1)(Y:∀i,i<n->P i=y*Wt j0 i%p):
 Dq p n m W (t+1) (r+1) (cC p P t r B) (pC t r l) (λj=>l0 p P t<|Wt j):=by
 have H:=J.pos;have one:=J.one;have A:P t=1:=by rw[Y t Z,Oz];exact hy
 have f:∀i,i<t->P i=0:=λi a=>by rw[Y i ⋯,h.D6 j0 i L a];simp
 have K:∀i,i<n->0<=P i/\P i<p:=λi a=>by rw[Y i a];exact⟨NX _ ⋯,NF _ H⟩
 have E:∀(w:Vc) i,0<=l0 p P t w i/\l0 p P t w i<p:=λw i=>⟨NX _ ⋯,NF _ H⟩;have b:∀(w:Vc) i,i<t->0<=w i->w i<p->l0 p P t w i=w i:=λw i a Q R=>by unfold l0;rw[f i a,Rg,Int.sub_zero];exact NO Q R
 have F:∀w:Vc,l0 p P t w t=0:=λw=>by unfold l0;rw[A,SO,Int.sub_self];simp
 refine⟨λj i O a=>E _ _,λj i O a=>?_,⟨λk I=>?_,λk q M S=>?_,λk I=>?_,λk j I O=>?_,λk q I S N=>?_,λk i I a=>?_⟩,λk I=>?_,λv=>?_⟩
 ·rcases Nj i t with q|q
  ·have e:=h.D6 j i O q
   rw[b _ i q ⋯ ⋯];exact e
  ·have:i=t:=by omega
   subst this;exact F _
 ·unfold pC;split
  ·rename_i q;exact h.DH.lt k q
  ·exact Z
 ·unfold pC
  have I:k<r:=by omega
  rw[UJ I];split
  ·rename_i z;exact h.DH.mono k q M z
  ·exact h.lt k I
 ·unfold pC cC;split
  ·rename_i q
   have e:=h.DH.one k q;have d:=h.lt k q;rw[b _ _ d ⋯ (by have:=J.two;omega)];exact e
  ·exact A
 ·unfold cC;unfold pC at O;split at O
  ·rename_i q
   have e:=h.DH.o7 k j q O;have d:=h.lt k q;rw[UJ q,b _ _ ⋯ ⋯ ⋯];exact e
  ·rename_i q
   rw[UY q];exact f j O
 ·unfold cC pC
  by_cases x:k<r
  ·rw[UJ x]
   by_cases U:q<r
   ·rw[UJ U]
    have e:=h.DH.wh k q x U N;have d:=h.lt q U;rw[b _ _ d ⋯ ⋯];exact e
   ·rw[UY U];exact F _
  ·rw[UY x]
   have U:q<r:=by omega
   rw[UJ U];exact f _<|h.lt q U
 ·unfold cC;split
  ·exact E _ _
  ·exact K i a
 ·unfold pC;split
  ·rename_i q;exact Oc<|h.lt k q
  ·exact OC _
 ·rw[<-h.span v]
  have o:Span p n (Un r B m Wt) P:=((Span.gen (p:=p) (n:=n) (G:=Un r B m Wt) (g:=Wt j0)<|.inr ⟨j0,L,rfl⟩).smul y).congr λi a=>by rw[Y i a,NM]
  have C:Span p n (Un (r+1) (cC p P t r B) m λj=>l0 p P t<|Wt j) P:=.gen (.inl ⟨r,OC r,by unfold cC;rw[UY (NP r)]⟩);constructor
  ·refine λu=>u.le λg s=>?_
   rcases s with⟨k,I,rfl⟩|⟨j,O,rfl⟩
   ·unfold cC;split
    ·rename_i q;exact Jr o<|.gen<|.inl ⟨k,q,rfl⟩
    ·exact o
   ·exact Jr o<|.gen<|.inr ⟨j,O,rfl⟩
  ·refine λu=>u.le λg s=>?_
   rcases s with⟨k,I,rfl⟩|⟨j,O,rfl⟩
   ·refine WN (t:=t) C (.gen<|.inl ⟨k,Oc I,?_⟩)
    unfold cC;rw[UJ I]
   ·exact WN (t:=t) C<|.gen<|.inr ⟨j,O,rfl⟩
theorem Dq.done(h:Dq p n m W n r B l Wt)(v:Vc):Span p n (eL r B) v↔Span p n (eL m W) v:=by
 rw[<-h.span v];constructor
 ·exact λO=>O.le λg I=>.gen (.inl I)
 ·refine λO=>O.le λg I=>?_
  rcases I with I|⟨j,U,rfl⟩
  ·exact .gen I
  ·exact .zero λi a=>by rw[h.D6 j i U a];simp
theorem ic(O:True)(P:Vc):zX (r+1) n (cC p P t r B)=zX r n (λk=>l0 p P t<|B k)++[.tup (zG n P)]:=by
 unfold zX;rw[OH,NU];congr 1
 ·apply Ni
  intro k I;have:=MG.mp I;simp[cC,this]
 ·simp[cC]
end
theorem Zk{p:Int}(z:Pr p){n m:Nat}(hn:n<=200)(L:m<=lim)(J:Sk)(W:Nat->Vc):
 ∃r B l,xF [.int p,.int n,t5 J (zX m n W)]=da (.own<|zX r n B)/\i3 p n r B l/\∀v,Span p n (eL r B) v↔Span p n (eL m W) v:=by
 have hl:=jl;have b:n<=lim:=by omega
 have E:=z.pos;have key:=Vl (T:=.nm 5) (F:=Js)
  (λt N=>∃r B l Wt s u h o,N=[.val (.int p),.val<|.int n,.val<|t5 J<|zX m n W,.val<|.lst<|zX m n Wt,.own<|zX r n B,s,u,h,o]/\Dq p n m W t r B l Wt)
  ((ME n).map λ(i:Nat)=>D.int i) 0 [.val (.int p),.val<|.int n,.val<|t5 J<|zX m n W,.val<|.lst<|zX m n λj i=>W j i%p,.own [],.no,.no,.no,.no]
  ⟨0,λ_ _=>0,λ_=>0,λj i=>W j i%p,.no,.no,.no,.no,rfl,λj i _ _=>⟨NX _ ⋯,NF _ E⟩,λj i _ e=>absurd e<|Nq _,
   ⟨λk O=>absurd O<|Nq _,λk q _ O=>absurd O<|Nq _,λk O=>absurd O<|Nq _,λk j O=>absurd O<|Nq _,λk q O=>absurd O<|Nq _,λk i O=>absurd O<|Nq _⟩,
   λk O=>absurd O<|Nq _,λv=>⟨λC=>C.le λg A=>by
    rcases A with⟨k,O,_⟩|⟨j,Y,rfl⟩
    ·exact absurd O<|Nq _
    ·exact(Span.gen (p:=p) (n:=n) (G:=eL m W) (g:=W j) ⟨j,Y,rfl⟩).congr λi _=>NM _ _,λC=>C.le λg A=>by
    obtain⟨j,Y,rfl⟩:=A;exact(Span.gen (p:=p) (n:=n) (G:=Un 0 (λ_ _=>0) m λj i=>W j i%p) (g:=λi=>W j i%p)<|.inr ⟨j,Y,rfl⟩).congr λi _=>(NM _ _).symm⟩⟩ (by
   rintro t d N w ⟨r,B,l,Wt,s,u,h,o,rfl,U⟩;rw[NW]at U ⊢;have a:t<n:=by have:=(Np.mp w).1;simpa using this
   have Q:d=.int t:=by simp[a]at w;exact w.symm
   subst Q;have f:zY (.nm 0) (sB<|zH my (dv (zk 0)<|zc 1)<|zu<|.int 0) (zc 0) [Cell.no,Cell.val (.int t)] (zX m n Wt)=da (((ME m).filter λj=> !decide (Wt j t=0)).map λj=>D.tup<|zG n<|Wt j):=by unfold zX;refine jw _ _ _ λj Y=>⟨_,rfl,?_,λ_=>rfl⟩;simp[a]
   have hr:r<=t:=V2 U.DH.mono U.lt;have R:r<=lim:=by omega
   cases hf:(ME m).filter λj=> !decide (Wt j t=0)with
   |nil=>
    have hz:∀j,j<m->Wt j t=0:=λj Y=>by apply Of;intro H;have:j∈(ME m).filter λj=> !decide (Wt j t=0):=Nl.mpr ⟨MG.mpr Y,by simp[H]⟩;rw[hf]at this;simp at this
    rw[hf]at f;refine⟨_,.inr ?_,r,B,l,Wt,.val<|.int t,.val<|.lst [],h,o,rfl,U.skip hz⟩;simp only[Jt,MJ,Oe,Od,Js];rw[jP];simp[jP,jo,ke,MI,f,L]
   |cons I yS=>
    have K:I∈(ME m).filter λj=> !decide (Wt j t=0):=by rw[hf];exact Nc
    have M:I<m:=MG.mp (Nl.mp K).1;have H:Wt I t≠0:=by simpa using (Nl.mp K).2
    have S:=U.n7 I t M a;obtain⟨y,ey,y1,y2,yy⟩:=VE z (x:=Wt I t) ⋯ S.2;rw[hf]at f;have nx:=U.next z a M yy (P:=λi=>y*Wt I i%p) λi _=>rfl;refine⟨_,.inl ?_,r+1,cC p (λi=>y*Wt I i%p) t r B,pC t r l,λj=>l0 p (λi=>y*Wt I i%p) t<|Wt j,.val<|.int t,.val<|.lst<|(I::yS).map λj=>D.tup<|zG n<|Wt j,.val<|.int y,.val<|.tup<|zG n λi=>y*Wt I i%p,rfl,nx⟩;have bl:=z.le;have cy:∀x,XU y x=dj:=λx=>ZR _ _ ⋯ ⋯;have X:zY (.nm 0) jt (zH yq (zc 1)<|zc 0) [Cell.no,Cell.val (.int y)] (zG n<|Wt I)=da (zG n λi=>y*Wt I i):=by rw[qu,qu];refine zC _ _ λi e=>zB rfl rfl ?_;simp[cy]
    have as:zY (.nm 0) jt (zD qL<|zb (zc 1)<|zb (zc 0)<|zb (zc 3)<|zb (zc 2) zF) [Cell.no,Cell.val<|.int p,Cell.val<|.int t,Cell.val (.tup<|zG n λi=>y*Wt I i%p)] (zX m n Wt)=da (zX m n λj=>l0 p (λi=>y*Wt I i%p) t<|Wt j):=by unfold zX;refine zC _ _ λj Y=>zB rfl rfl ?_;simp[ZW z b a (Wt j) (λi=>y*Wt I i%p) λi e=>U.n7 j i (MG.mp Y) e];rfl
    have Z:zY (.nm 0) jt (zD qL<|zb (zc 1)<|zb (zc 0)<|zb (zc 3)<|zb (zc 2) zF) [Cell.no,Cell.val<|.int p,Cell.val<|.int t,Cell.val (.tup<|zG n λi=>y*Wt I i%p)] (zX r n B)=da (zX r n λj=>l0 p (λi=>y*Wt I i%p) t<|B j):=by unfold zX;refine zC _ _ λj Y=>zB rfl rfl ?_;simp[ZW z b a (B j) (λi=>y*Wt I i%p) λi e=>U.DH.n7 j i (MG.mp Y) e];rfl
    have b0:r+1<=lim:=by omega
    rw[ic trivial];simp only[Jt,MJ,Oe,Od,Js];rw[jP];simp[jP,jo,ke,MI,f,L,b,a,ey,X,w9 _ E b,as,Z,R,b0])
 obtain⟨γ',e1,r,B,l,Wt,s,u,h,o,rfl,U⟩:=key;simp only[Nf,Og,NW]at U;refine⟨r,B,l,?_,U.DH,U.done⟩;have b9:zY (.nm 0) jt (zD xP<|zb (zc 1)<|zb (zc 0) zF) [Cell.no,Cell.val (.int p)] (zX m n W)=da (zX m n λj i=>W j i%p):=by unfold zX;refine zC _ _ λj Y=>zB rfl rfl ?_;simp[iT _ E b]
 have e0:xF [.int p,.int n,t5 J (zX m n W)]=jk 9 (zT (jj 3<|jz<|zO (zN<|zk 2) (.nm 0) 1 [0] jt (zD xP<|zb (zc 1)<|zb (zc 0) zF))<|zT (kF 4<|jC zF)<|zT (ZY (jE<|zc 1) (.nm 5) Js)<|Kd 4) [.int p,.int n,t5 J (zX m n W)]:=rfl;rw[e0];simp[jk,z9,jP,L,jo,ke,MI,b9,b,qM];rw[qu n λi=>(i:Int),e1];simp
theorem k9{p:Int}(I:Pr p){n m:Nat}(L:n<=100)(J:m<=lim)(z:Sk)(W:Nat->Vc):
 ∃r B l,xF [.int p,.int n,t5 z (zX m n W)]=da (.own<|zX r n B)/\i3 p n r B l/\∀v,Span p n (eL r B) v↔Span p n (eL m W) v:=Zk I ⋯ J z W
@[simp] def Ez:=@Gp.eq_1
noncomputable def J4{z:Type}(q:Nat)(x:z)(f:Nat->z):Nat->z:=λk=>if k<q then f k else if k=q then x else f (k-1)
def Jc(l:UX)(r x:Nat):Nat:=((ME r).filter λk=>decide<|l k<x).length
theorem KS:∀{r:Nat},(∀k m,k<m->m<r->l k<l m)->(∀k,k<r->l k≠x)->Jc l r x<=r/\(∀k,k<Jc l r x->l k<x)/\∀k,Jc l r x<=k->k<r->x<l k
 |0,_,_=>⟨MM _,λk I=>absurd I (by simp[Jc]),λk _ I=>absurd I<|Nq _⟩
 | r+1,hm,V_=>by
  obtain⟨g,d,O⟩:=KS (r:=r) (x:=x) (λk m a b=>hm k m a ⋯) λk I=>V_ k ⋯;have e:Jc l (r+1) x=Jc l r x+if l r<x then 1 else 0:=by unfold Jc;rw[OH,Rp,NC];by_cases q:l r<x<;>simp[q]
  by_cases q:l r<x
  ·rw[e,UJ q]
   have U:Jc l r x=r:=by
    rcases Nj (Jc l r x) r with z|z
    ·have Y:=O (Jc l r x) (MM _) z
     have f:=hm (Jc l r x) r z<|OC r;omega
    ·omega
   rw[U];refine⟨MM _,λk I=>?_,λk a b=>absurd b ⋯⟩;rcases Nj k r with z|z
   ·exact d k ⋯
   ·have:k=r:=by omega
    subst this;exact q
  ·rw[e,UY q,Td]
   refine⟨by omega,d,λk a b=>?_⟩;rcases Nj k r with z|z
   ·exact O k a z
   ·have:k=r:=by omega
    subst this;have:=V_ k b;omega
section
variable{p:Int}{n r:Nat}{B:Nat->Vc}{l:UX}{w:Vc}
structure Gx(p:Int)(n r:Nat)(B:Nat->Vc)(l:UX)(w:Vc)(k:Nat)(R:Vc):Prop where
 n7:∀i,i<n->0<=R i/\R i<p
 D6:∀q,q<k->R (l q)=0
 eqv:∀G,(∀k,k<r->Span p n G (B k))->(Span p n G w↔Span p n G R)
theorem Gx.next(J:Pr p)(Y:i3 p n r B l)(h:Gx p n r B l w k R)(I:k<r):Gx p n r B l w (k+1) (l0 p (B k) (l k) R):=by
 have a:=J.pos;refine⟨λi _=>⟨NX _ ⋯,NF _ a⟩,λq b=>?_,λG O=>?_⟩
 ·unfold l0
  rcases Nj q k with z|z
  ·rw[h.D6 q z,Y.wh k q I ⋯ ⋯];simp
  ·have:q=k:=by omega
   subst this;rw[Y.one q I];simp
 ·rw[h.eqv G O]
  exact⟨λU=>Jr (O k I) U,λU=>WN (O k I) U⟩
theorem Vb(O:q<=r)(U:k<r+1):(k=q/\J4 q x f k=x)\/∃I,I<r/\J4 q x f k=f I/\((k<q/\I=k)\/(q<k/\I+1=k)):=by
 unfold J4;rcases RG k q with z|z|z
 ·right;exact⟨k,by omega,by rw[UJ z],.inl ⟨z,rfl⟩⟩
 ·left;subst z;exact⟨rfl,by rw[UY (NP _),UJ rfl]⟩
 ·right;exact⟨k-1,by omega,by rw[UY ⋯,UY ⋯],.inr ⟨z,by omega⟩⟩
theorem W_:J4 q x f q=x:=by unfold J4;rw[UY (NP _),UJ rfl]
theorem uj:∃I,(I<q/\I=k\/q<I/\I=k+1)/\J4 q x f I=f k:=by
 rcases Nj k q with z|z
 ·exact⟨k,.inl ⟨z,rfl⟩,by unfold J4;rw[UJ z]⟩
 ·exact⟨k+1,.inr ⟨by omega,rfl⟩,by unfold J4;rw[UY ⋯,UY ⋯];rfl⟩
theorem um(hp:Pr p)(J:i3 p n r B l)(ha:a<n)(L:R a=1)(hz:∀i,i<a->R i=0)(Z:∀k,k<r->R (l k)=0)(hR:∀i,i<n->0<=R i/\R i<p):
 i3 p n (r+1) (J4 (Jc l r a) R λk=>l0 p R a<|B k) (J4 (Jc l r a) a l):=by
 have Q:=hp.pos;have F:∀k,k<r->l k≠a:=λk O e=>by have:=Z k O;rw[e,L]at this;omega
 obtain⟨P,S,T⟩:=KS J.mono F;have K:∀(w:Vc) i,0<=l0 p R a w i/\l0 p R a w i<p:=λw i=>⟨NX _ ⋯,NF _ Q⟩;have G:∀w:Vc,l0 p R a w a=0:=λw=>by unfold l0;rw[L,SO,Int.sub_self];simp
 have A:∀(w:Vc) k,k<r->0<=w (l k)->w (l k)<p->l0 p R a w (l k)=w (l k):=λw k O L M=>by unfold l0;rw[Z k O,Rg,Int.sub_zero];exact NO L M
 have H:∀k j,k<r->j<l k->l0 p R a (B k) j=0:=λk j O s=>by
  unfold l0;rw[J.o7 k j O s];rcases Nj a (l k)with z|z
  ·rw[J.o7 k a O z];simp
  ·rw[hz j ⋯];simp
 have two:=hp.two;have Y:∀k,k<r+1->(k=Jc l r a/\J4 (Jc l r a) R (λk=>l0 p R a<|B k) k=R/\J4 (Jc l r a) a l k=a)\/
  ∃I,I<r/\J4 (Jc l r a) R (λk=>l0 p R a<|B k) k=l0 p R a (B I)/\J4 (Jc l r a) a l k=l I/\((k<Jc l r a/\I=k)\/(Jc l r a<k/\I+1=k)):=by
  intro k O;rcases Vb (x:=R) (f:=λk=>l0 p R a<|B k) P O with⟨b,t⟩|⟨I,U,b,t⟩
  ·left;refine⟨b,t,?_⟩;subst b;exact W_
  ·right
   refine⟨I,U,b,?_,t⟩;rcases t with⟨C,E⟩|⟨C,E⟩
   ·unfold J4;rw[UJ C,E]
   ·unfold J4;rw[UY ⋯,UY ⋯];congr 1;omega
 refine⟨λk O=>?_,λk m as u=>?_,λk O=>?_,λk j O s=>?_,λk m O u W=>?_,λk i O N=>?_⟩
 ·rcases Y k O with⟨_,_,e⟩|⟨I,U,_,e,_⟩
  ·rw[e];exact ha
  ·rw[e];exact J.lt I U
 ·rcases Y k ⋯with⟨z,_,e⟩|⟨I,U,_,e,z⟩<;>rcases Y m u with⟨y,_,h⟩|⟨g,d,_,h,y⟩<;>rw[e,h]
  ·omega
  ·exact T g ⋯ d
  ·exact S I ⋯
  ·exact J.mono I g ⋯ d
 ·rcases Y k O with⟨_,b,e⟩|⟨I,U,b,e,_⟩<;>rw[b,e]
  ·exact L
  ·have o:=J.one I U
   rw[A _ I U ⋯ ⋯];exact o
 ·rcases Y k O with⟨_,b,e⟩|⟨I,U,b,e,_⟩<;>rw[b]<;>rw[e]at s
  ·exact hz j s
  ·exact H I j U s
 ·rcases Y k O with⟨z,b,_⟩|⟨I,U,b,_,z⟩<;>rcases Y m u with⟨y,_,h⟩|⟨g,d,_,h,y⟩<;>rw[b,h]
  ·omega
  ·exact Z g d
  ·exact G _
  ·have o:=J.wh I g U d ⋯
   rw[A _ g d ⋯ ⋯];exact o
 ·rcases Y k O with⟨_,b,_⟩|⟨I,U,b,_,_⟩<;>rw[b]
  ·exact hR i N
  ·exact K _ _
theorem uq(I:q<=r)(hR:Span p n G R)(O:∀k,k<r->Span p n G (F k)):∀g,eL (r+1) (J4 q R F) g->Span p n G g:=by
 rintro g ⟨k,U,rfl⟩;rcases Vb (x:=R) (f:=F) I U with⟨_,e⟩|⟨Y,a,e,_⟩<;>rw[e]
 ·exact hR
 ·exact O Y a
theorem uf(O:q<=r):eL (r+1) (J4 q R F) R/\∀k,k<r->eL (r+1) (J4 q R F) (F k):=by refine⟨⟨q,by omega,W_.symm⟩,λk U=>?_⟩;obtain⟨I,h,e⟩:=uj (q:=q) (x:=R) (f:=F) (k:=k);exact⟨I,by omega,e.symm⟩
theorem nC(hp:Pr p)(hb:i3 p n r B l)(Z:a<n)(hs:∀v,Span p n (eL r B) v↔Span p n (eL j W) v)(U:Gx p n r B l (W j) r R)(L:y*R a%p=1)(Y:∀i,i<n->R' i=y*R i%p)(J:Jc l r a<=r)(v:Vc):
 Span p n (eL (r+1)<|J4 (Jc l r a) R' λk=>l0 p R' a<|B k) v↔Span p n (eL (j+1) W) v:=by
 have u:∀v,Span p n (eL j W) v->Span p n (eL (j+1) W) v:=λv O=>O.le λg ⟨i,b,e⟩=>.gen ⟨i,by omega,e⟩;have a2:∀k,k<r->Span p n (eL (j+1) W) (B k):=λk I=>u _<|(hs _).mp (.gen ⟨k,I,rfl⟩);have m:Span p n (eL (j+1) W) R:=(U.eqv _ a2).mp (.gen ⟨j,by omega,rfl⟩);have d:Span p n (eL (j+1) W) R':=(m.smul y).congr λi b=>by rw[Y i b,NM]
 obtain⟨s,m2⟩:=uf (R:=R') (F:=λk=>l0 p R' a<|B k) J;have f:Span p n (eL (r+1)<|J4 (Jc l r a) R' λk=>l0 p R' a<|B k) R':=.gen s;have h:∀k,k<r->Span p n (eL (r+1)<|J4 (Jc l r a) R' λk=>l0 p R' a<|B k) (B k):=λk I=>WN (t:=a) f<|.gen<|m2 k I;have gR:Span p n (eL (r+1)<|J4 (Jc l r a) R' λk=>l0 p R' a<|B k) R:=(f.smul<|R a).congr λi b=>by rw[Y i b,wM,<-PD,Oz (R a) y,MS,L,Int.one_mul,NM]
 constructor
 ·exact λO=>O.le<|uq J d λk I=>Jr d<|a2 k I
 ·refine λO=>O.le ?_
  rintro g ⟨i,b,rfl⟩;rcases Nj i j with z|z
  ·exact((hs _).mpr (.gen ⟨i,z,rfl⟩)).le λg o=>by obtain⟨k,I,e⟩:=o;rw[e];exact h k I
  ·have:i=j:=by omega
   subst this;exact(U.eqv _ h).mpr gR
theorem dY(hs:∀v,Span p n (eL r B) v↔Span p n (eL j W) v)(O:Gx p n r B l (W j) r R)(J:∀i,i<n->R i=0)(v:Vc):Span p n (eL r B) v↔Span p n (eL (j+1) W) v:=by
 constructor
 ·exact λI=>((hs v).mp I).le λg ⟨i,a,e⟩=>.gen ⟨i,by omega,e⟩
 ·refine λI=>I.le ?_
  rintro g ⟨i,a,rfl⟩;rcases Nj i j with z|z
  ·exact(hs _).mpr (.gen ⟨i,z,rfl⟩)
  ·have:i=j:=by omega
   subst this;exact(O.eqv _ λk U=>.gen ⟨k,U,rfl⟩).mpr (.zero λi a=>by rw[J i a];simp)
end
section
variable{p:Int}{n m r:Nat}{G:Vc->Prop}
theorem Span.sum{u:Nat->Vc}(c:Nat->Int):∀{m:Nat},(∀k,k<m->Span p n G (u k))->Span p n G λi=>zm (λk=>c k*u k i) m
 |0,_=>.zero λi _=>by simp[zm]
 |m+1,h=>(((h m ⋯).add (Span.sum c (m:=m) λk I=>h k ⋯) (c m))).congr λi _=>by simp[zm]
noncomputable def Rk(p:Int)(n m:Nat)(W:Nat->Vc)(r:Nat):Prop:=∃B l,i3 p n r B l/\∀v,Span p n (eL r B) v↔Span p n (eL m W) v
theorem vW(U:Pr p)(h:Rk p n m W r)(h':Rk p n m W r'):r=r':=by obtain⟨B,l,Y,a⟩:=h;obtain⟨d,e,b,O⟩:=h';exact(QG U Y b (λv I=>(O v).mpr ((a v).mp I))<|λv I=>(a v).mpr ((O v).mp I)).1
theorem W3(I:Pr p)(O:i3 p n r B l)(z:∀i,i<n->0<=w i/\w i<p):∀k,k<=r->∃R,Gx p n r B l w k R
 |0,_=>⟨w,z,λq U=>absurd U<|Nq _,λG _=>Iff.rfl⟩
 |k+1,h=>by obtain⟨R,hR⟩:=W3 I O z k ⋯;exact⟨_,hR.next I O ⋯⟩
theorem aL:∀(n:Nat) (R:Vc),(∀i,i<n->R i=0)\/∃a,a<n/\R a≠0/\∀i,i<a->R i=0
 |0,R=>.inl λi b=>absurd b<|Nq _
 | n+1,R=>by
  rcases aL n R with h|⟨a,h1,h2,I⟩
  ·by_cases e:R n=0
   ·exact .inl λi b=>by rcases Nj i n with z|z;exact h i z;rw[show i=n by omega];exact e
   ·exact .inr ⟨n,by omega,e,h⟩
  ·exact .inr ⟨a,by omega,h2,I⟩
theorem oQ(O:Pr p)(W:Nat->Vc)(z:∀j i,0<=W j i/\W j i<p):∀m,∃r,r<=m/\Rk p n m W r
 |0=>⟨0,MM _,λ_ _=>0,λ_=>0,⟨λk I=>absurd I<|Nq _,λk q _ I=>absurd I<|Nq _,λk I=>absurd I<|Nq _,λk j I=>absurd I<|Nq _,λk q I=>absurd I<|Nq _,λk i I=>absurd I<|Nq _⟩,
  λv=>⟨λb=>b.le λg ⟨k,I,_⟩=>absurd I<|Nq _,λb=>b.le λg ⟨k,I,_⟩=>absurd I<|Nq _⟩⟩
 | m+1=>by
  obtain⟨r,u,B,l,U,d⟩:=oQ O W z m;have t:=O.pos;obtain⟨R,Y⟩:=W3 O U (w:=W m) (λi _=>z m i) r<|MM _;rcases aL n R with h0|⟨a,ha,a5,a6⟩
  ·exact⟨r,by omega,B,l,U,dY d Y h0⟩
  ·have h:=Y.n7 a ha
   obtain⟨y,_,_,f⟩:=CP O (x:=R a) ⋯ h.2;have o:∀k,k<r->l k≠a:=λk I e=>by have:=Y.D6 k I;rw[e]at this;exact a5 this
   exact⟨r+1,by omega,_,_,um O U (R:=λi=>(y:Int)*R i%p) ha f (λi s=>by rw[a6 i s];simp) (λk I=>by rw[Y.D6 k I];simp) λi _=>⟨NX _ ⋯,NF _ t⟩,
    nC O (R':=λi=>(y:Int)*R i%p) U ha d Y f (λi _=>rfl) (KS U.mono o).1⟩
theorem YC(I:Pr p)(m:Nat)(W:Nat->Vc):∃r,r<=m/\Rk p n m W r:=by
 obtain⟨r,U,B,l,Y,a⟩:=oQ (n:=n) I (λj i=>W j i%p) (λj i=>⟨NX _ (by have:=I.pos;omega),NF _ I.pos⟩) m;refine⟨r,U,B,l,Y,λv=>(a v).trans ⟨λh=>h.le λg ⟨k,O,e⟩=>?_,λh=>h.le λg ⟨k,O,e⟩=>?_⟩⟩
 ·subst e;exact(Span.gen (g:=W k) ⟨k,O,rfl⟩).congr λi _=>by rw[NM]
 ·subst e;exact(Span.gen (g:=λi=>W k i%p) ⟨k,O,rfl⟩).congr λi _=>by rw[NM]
theorem sG(I:Pr p){b:Nat}(_:n<=100)(_:m<=b)(W:Nat->Vc):∃r,r<=m/\Rk p n m W r:=YC I m W
theorem Bh(J:Pr p)(h:Rk p n m W r)(h':Rk p n m' W' r')(L:∀j,j<m->Span p n (eL m' W') (W j)):r<=r':=by
 obtain⟨B,l,U,w⟩:=h;obtain⟨A,d,Y,o⟩:=h';have f:∀k,k<r->∃q,q<r'/\d q=l k:=λk I=>Wc Y ((o _).mpr (((w _).mp (.gen ⟨k,I,rfl⟩)).le λg ⟨j,u,e⟩=>e ▸ L j u)) (U.lt k I) (by rw[U.one k I,J.one];decide) λi t=>by rw[U.o7 k i I t];simp
 have key:∀k,k<r->∀q,q<r'->d q=l k->k<=q:=by
  intro k
  induction k with
  |zero=>intro _ q _ _;exact rn _
  | succ k x=>
   intro I q b e;obtain⟨O,a,s⟩:=f k ⋯;have C:=x ⋯ O a s;have E:=U.mono k (k+1) ⋯ I;rcases Nj O q with z|z
   ·omega
   ·rcases Nj q O with y|y
    ·have:=Y.mono q O y a
     omega
    ·have:q=O:=by omega
     subst this;omega
 rcases TZ r with z|z
 ·omega
 ·obtain⟨q,b,e⟩:=f (r-1) ⋯
  have:=key (r-1) ⋯ q b e;omega
end
theorem ig(h w f):deep (.lst<|zX h w f)<=2:=nX h w f
theorem mV(h w f):kr (.lst<|zX h w f)=dj:=tZ h w f
theorem ar(h w f):m4 (.lst<|zX h w f)=dj:=aq (ig h w f) ⋯<|mV h w f
section
variable{p:Int}{n m r h w:Nat}
theorem Jf{l:UX}(h:Nat):∀{r:Nat},(∀k m,k<m->m<r->l k<l m)->∃s,s<=r/\(∀k,k<s->l k<h)/\∀k,s<=k->k<r->h<=l k
 |0,_=>⟨0,MM _,λk I=>absurd I<|Nq _,λk _ I=>absurd I<|Nq _⟩
 | r+1,hm=>by
  obtain⟨s,b,a,O⟩:=Jf h (r:=r) λk m I U=>hm k m I ⋯;by_cases e:l r<h
  ·refine⟨r+1,MM _,λk I=>?_,λk b a=>by omega⟩
   rcases Nj k r with z|z
   ·have:=hm k r z ⋯;omega
   ·have:k=r:=by omega
    subst this;exact e
  ·refine⟨s,by omega,a,λk I Y=>?_⟩
   rcases Nj k r with z|z
   ·exact O k I z
   ·have:k=r:=by omega
    subst this;omega
theorem Wg(hs:s<=r)(z:∀k,k<s->q k=dt)(J:∀k,s<=k->k<r->q k=dj):(ME r).filter q=(ME<|r-s).map (s + ·):=by
 obtain⟨d,rfl⟩:∃d,r=s+d:=⟨r-s,by omega⟩;rw[RH,Rp];have a:(ME s).filter q=[]:=List.filter_eq_nil_iff.mpr λk I=>by rw[z k (MG.mp I)];decide
 have O:((ME d).map (s + ·)).filter q=(ME d).map (s + ·):=List.filter_eq_self.mpr λk I=>by obtain⟨i,b,rfl⟩:=Ny.mp I;exact J _ ⋯ (by have:=MG.mp b;omega)
 rw[a,O,OY];rfl
def yW(h:Nat)(u v:Vc):Vc:=λi=>if i<h then u i else v (i-h)
def jX(j:Nat):Vc:=λk=>if j=k then 1 else 0
theorem qb(z:i<h):yW h u v i=u i:=UJ z
theorem qw(i:Nat):yW h u v (h+i)=v i:=by unfold yW;rw[UY ⋯,OY]
theorem Jl(h w:Nat)(u v:Vc):zG h u++zG w v=zG (h+w) (yW h u v):=by
 unfold zG;rw[RH,NU];congr 1
 ·exact Ni λi a=>by rw[qb (MG.mp a)]
 ·rw[NB]
  exact Ni λi _=>by simp only[Tj];rw[qw]
theorem gZ(h w:Nat)(v:Vc):(zG (h+w) v).take h=zG h v:=by unfold zG;rw[<-List.map_take,List.take_range,Tb (Nt h w)]
theorem hJ(h w:Nat)(v:Vc):(zG (h+w) v).drop h=zG w λj=>v (h+j):=by unfold zG;rw[RH,NU,List.drop_append_of_le_length ⋯,SS ⋯,NB];rfl
theorem aT(h w:Nat)(v:Vc):dr (zG (h+w) v) none (da (h:Int))=zG h v:=by
 have c:¬((h:Int)<0):=by omega
 have e:min h (h+w)=h:=Tb<|Nt h w;simp[dr,Wm,c,e,gZ]
theorem aS(h w:Nat)(v:Vc):dr (zG (h+w) v) (da (h:Int)) none=zG w λj=>v (h+j):=by
 have c:¬((h:Int)<0):=by omega
 have e:min h (h+w)=h:=Tb<|Nt h w;have t:∀g:Vc,(zG w g).take w=zG w g:=λg=>RB ⋯;simp[dr,Wm,c,e,hJ,t]
theorem WO(v:Vc):∀n,X7 (zG n v)=da ((ME n).map λi=>v i != 0)
 |0=>rfl
 | n+1=>by
  have key:∀l:List Nat,X7 (l.map λi=>D.int<|v i)=da (l.map λi=>v i != 0):=by
   intro l
   induction l with
   |nil=>rfl
   |cons a l I=>simp[X7,FQ,I]
  exact key _
theorem QO(O:i3 p (h+w) r B l)(U:r<=lim)(hs:s<=r)(z:∀k,k<s->l k<h)(h2:∀k,s<=k->k<r->h<=l k):
 qN [.int h,.lst (zX r (h+w) B)]=da (.own<|zX (r-s) w λk j=>B (s+k)<|h+j):=by
 have key:zY (.nm 0) (yb<|sB<|Al<|zJ<|WY (zc 0) dm<|ra<|zc 1) (WY (zc 0) (ra<|zc 1) dm) [Cell.no,Cell.val (.int h)] (zX r (h+w) B)=da (((ME r).filter λk=>decide<|h<=l k).map λk=>D.tup<|zG w λj=>B k<|h+j):=by
  unfold zX;refine jw (λk=>decide<|h<=l k) _ _ λk I=>⟨_,rfl,?_,λY=>?_⟩
  ·have I:=MG.mp I
   simp[aT,WO];by_cases e:h<=l k
   ·simp[e]
    intro i d;have:=O.o7 k i I ⋯;simp[this]
   ·simp[e]
    exact⟨l k,by omega,by rw[O.one k I];decide⟩
  ·simp[aS]
 rw[Wg hs (λk I=>decide_eq_false (by have:=z k I;omega)) (λk a b=>decide_eq_true<|h2 k a b)]at key;simp[qN,jk,z9,U,jo,ke,MI,key];unfold zX;rfl
def A8(p:Int)(h w:Nat)(f:UV)(v:Vc):Prop:=∀i,i<h->zm (λj=>f i j*v j) w%p=0
theorem mI{f:UV}{v:Vc}(O:Span p (h+w) (eL w λj=>yW h (λi=>f i j)<|jX j) v):∀i,i<h->v i%p=zm (λj=>f i j*v (h+j)) w%p:=by
 induction O with
 |@zero v b=>
  intro i a;rw[b i ⋯];have:zm (λj=>f i j*v (h+j)) w%p=zm (λ_=>0) w%p:=zS λj U=>by rw[MS,b (h+j) ⋯];simp
  rw[this,zU];rfl
 |@step v u g c Y n I l=>
  intro i a;obtain⟨m,k,rfl⟩:=Y;rw[I i ⋯,Ot,l i a,<-Ot];have e:zm (λj=>f i j*v (h+j)) w%p=zm (λj=>f i j*u (h+j)+c*(f i j*jX m j)) w%p:=zS λj U=>by rw[MS,I (h+j) ⋯,<-MS];simp only[qw];rw[SQ,SG]
  rw[e,qz,jD,z6 (f:=λj=>f i j*jX m j) k λj _ d=>by simp[jX,NH d]];simp[jX,qb a]
theorem WM(O:Pr p)(w:Nat):i3 p w w jX id where
 lt:=λk I=>I
 mono:=λk m I _=>I
 one:=λk _=>UJ rfl
 o7:=λk j _ U=>UY (by simp only[id]at U;omega)
 wh:=λk m _ _ Y=>UY (by simp only[id];omega)
 n7:=λk i _ _=>by have:=O.two;unfold jX;split<;>omega
theorem Span.map(t:UX)(I:∀i,i<n'->t i<n)(O:∀g,G g->Span p n' G' λi=>g<|t i)(U:Span p n G v):Span p n' G' λi=>v (t i):=by
 induction U with
 |@zero v d=>exact .zero λi a=>d _<|I i a
 |@step v u g c Y f b e=>exact((O _ Y).add e c).congr λi a=>b _<|I i a
theorem ZU(J:Pr p)(hh:h<=100)(hw:w<=100)(f:UV):
 ∃q K l s,ko [.int p,jZ h w f]=da (.own<|zX q w K)/\i3 p w q K l/\(∀v,Span p w (eL q K) v↔A8 p h w f v)/\Rk p h w (λj i=>f i j) s/\q+s=w:=by
 have hl:=jl;have R:h<=lim:=by omega
 have y:w<=lim:=by omega
 have S:h+w<=lim:=by omega
 obtain⟨r,B,l,e,O,x⟩:=Zk J (show h+w<=200 by omega) y .L λj=>yW h (λi=>f i j)<|jX j;have X:∀v,Span p (h+w) (eL r B) v->∀i,i<h->v i%p=zm (λj=>f i j*v (h+j)) w%p:=λv Y=>mI<|(x v).mp Y;have Z:r<=w:=by obtain⟨r',C,E⟩:=YC J (n:=h+w) w λj=>yW h (λi=>f i j)<|jX j;rw[vW J ⟨B,l,O,x⟩ E];exact C
 have ak:w<=r:=by obtain⟨r',C,E⟩:=YC J (n:=w) r λk j=>B k<|h+j;refine NJ (Bh J (m:=w) (W:=jX) ⟨jX,id,WM J w,λv=>Iff.rfl⟩ E λj U=>?_) C;have:=Span.map (n':=w) (G':=eL r λk j=>B k<|h+j) (λi=>h+i) (λi a=>by omega) (λg ⟨k,I,b⟩=>.gen ⟨k,I,by rw[b]⟩)<|(x<|yW h (λi=>f i j)<|jX j).mpr (.gen ⟨j,U,rfl⟩);exact this.congr λi _=>by rw[qw]
 have er:r=w:=Nat.le_antisymm Z ak;subst er;obtain⟨s,hs,M,o⟩:=Jf h O.mono;have eb:=QO O y hs M o;have an:i3 p r (r-s) (λk j=>B (s+k)<|h+j) (λk=>l (s+k)-h):={
  lt:=λk I=>by have:=O.lt (s+k) ⋯;have:=o (s+k) ⋯ ⋯;omega
  mono:=λk m I G=>by have:=O.mono (s+k) (s+m) ⋯ ⋯;have:=o (s+k) ⋯ ⋯;omega
  one:=λk I=>by have:=o (s+k) ⋯ ⋯;rw[show h+(l (s+k)-h)=l (s+k)by omega];exact O.one _ ⋯
  o7:=λk j I U=>O.o7 _ _ ⋯ ⋯
  wh:=λk m I G A=>by have:=o (s+m) ⋯ ⋯;rw[show h+(l (s+m)-h)=l (s+m)by omega];exact O.wh _ _ ⋯ ⋯ ⋯
  n7:=λk i I a=>O.n7 _ _ ⋯ ⋯}
 refine⟨r-s,_,_,s,?_,an,λv=>⟨λY=>?_,λY=>?_⟩,?_,by omega⟩
 ·have P:=yz f R y
  have Q:=yx (n:=r) y;have key:zY (.tp [0,1]) jt (zH qv (zc 0)<|zc 1) [Cell.no,Cell.no] ((ME r).map λj=>D.tup [.tup (zG h λi=>f i j),.tup (zG r λk=>if j=k then 1 else 0)])=da (zX r (h+r) λj=>yW h (λi=>f i j)<|jX j):=by unfold zX;refine zC _ _ λj U=>zB rfl rfl ?_;simp[qv,S,Jl];rfl
  have zp:yY (zX r h λi j=>f j i) (zX r r λi j=>if i=j then 1 else 0)=(ME r).map λj=>D.tup [.tup (zG h λi=>f i j),.tup (zG r λk=>if j=k then 1 else 0)]:=by unfold yY zX;rw[RT];simp
  have c1:((h:Int)+(r:Int))=((h+r:Nat):Int):=by omega
  simp only[t5]at e;rw[<-c1]at e;unfold jZ at P Q ⊢;have nl:∀T t f γ,zY T t f γ []=da []:=λ_ _ _ _=>rfl;simp[ko,kB,jk,z9,jP,P,Q,zp,y,jo,MI,key,nl,e,eb]
 ·intro i a
  induction Y with
  |@zero v hz=>
   have:zm (λj=>f i j*v j) r%p=zm (λ_=>0) r%p:=zS λj U=>by rw[MS,hz j U];simp
   rw[this,zU];rfl
  |@step v u g c hg hu he H=>
   obtain⟨k,I,rfl⟩:=hg;have e1:zm (λj=>f i j*v j) r%p=zm (λj=>f i j*u j+c*(f i j*B (s+k) (h+j))) r%p:=zS λj U=>by rw[MS,he j U,<-MS,SQ,SG]
   have N:=X (B<|s+k) (.gen ⟨s+k,by omega,rfl⟩) i a;have e3:B (s+k) i=0:=O.o7 _ _ ⋯ (by have:=o (s+k) ⋯ ⋯;omega);rw[e3]at N;rw[e1,qz,jD,Ot,H,MS,<-N];simp
 ·
  have bd:Span p (h+r) (eL r B) (yW h (λ_=>0) v):=by
   refine(x _).mpr ((Span.sum (u:=λj=>yW h (λi=>f i j)<|jX j) v (m:=r) λj U=>.gen ⟨j,U,rfl⟩).congr λi a=>?_);rcases Nj i h with z|z
   ·simp only[qb z]
    rw[zA (g:=λj=>f i j*v j) λj _=>Oz _ _,Y i z];simp
   ·obtain⟨k,rfl⟩:∃k,i=h+k:=⟨i-h,by omega⟩
    simp only[qw];rw[z6 (f:=λj=>v j*jX j k) (i:=k) ⋯ λj _ A=>by simp[jX,A]];simp[jX]
  have co:=Jb O bd;refine(Span.sum (u:=λk j=>B (s+k)<|h+j) (λk=>yW h (λ_=>0) v<|l<|s+k) (m:=r-s) λk I=>.gen ⟨k,I,rfl⟩).congr λj U=>?_;have:=co (h+j) ⋯;rw[qw]at this;rw[this];obtain⟨d,rfl⟩:∃d,r=s+d:=⟨r-s,by omega⟩;rw[OY];have sp:∀(F:Nat->Int) (d:Nat),(∀k,k<s->F k=0)->zm F (s+d)=zm (λk=>F<|s+k) d:=by
   intro F d hF
   induction d with
   |zero=>
    show zm F s=0;rw[zA (g:=λ_=>0) hF,zU]
   |succ d H=>rw[<-Ua];simp only[zm];rw[H]
  rw[sp _ d λk I=>by rw[qb (M k I)];simp]
 ·
  refine⟨λk i=>B k i,l,⟨λk I=>M k I,λk m I G=>O.mono k m I ⋯,λk I=>O.one k ⋯,λk j I U=>O.o7 k j ⋯ U,λk m I G A=>O.wh k m ⋯ ⋯ A,λk i I a=>O.n7 k i ⋯ ⋯⟩,λv=>⟨λY=>Y.le λg ⟨k,I,b⟩=>?_,λY=>Y.le λg ⟨j,U,b⟩=>?_⟩⟩
  ·subst b
   exact Span.map (n':=h) (G':=eL r λj i=>f i j) (λi=>i) (λi a=>by omega) (λg ⟨j,U,b⟩=>(Span.gen (g:=λi=>f i j) ⟨j,U,rfl⟩).congr λi a=>by rw[b];simp only[qb a])<|(x<|B k).mp (.gen ⟨k,by omega,rfl⟩)
  ·subst b
   have:=Span.map (n':=h) (G':=eL s λk i=>B k i) (λi=>i) (λi a=>by omega) (λg hZ=>by
    obtain⟨k,I,b⟩:=hZ;subst b;rcases Nj k s with z|z
    ·exact .gen ⟨k,z,rfl⟩
    ·exact .zero λi a=>by rw[O.o7 k i I (by have:=o k z I;omega)];simp) ((x<|yW h (λi=>f i j)<|jX j).mpr (.gen ⟨j,U,rfl⟩))
   exact this.congr λi a=>by rw[qb a]
theorem yQ(I:Pr p)(O:h<=20)(z:w<=20)(f:UV):
 ∃q K l s,ko [.int p,jZ h w f]=da (.own<|zX q w K)/\i3 p w q K l/\(∀v,Span p w (eL q K) v↔A8 p h w f v)/\Rk p h w (λj i=>f i j) s/\q+s=w:=ZU I ⋯ ⋯ f
end
@[simp] def HS:=@eH.eq_1
theorem rD{a b:Bool}(h:ij a=ij b):a=b:=by cases a<;>cases b<;>first|rfl|exact absurd h ⋯
def K8(m z:Nat)(w w':UK):Prop:=m=z/\∀k,k<m->w k=w' k
instance (m m':Nat) (w w':UK):Decidable (K8 m m' w w'):=inferInstanceAs (Decidable (m=m'/\∀k,k<m->w k=w' k))
theorem I_{m z:Nat}{w w':UK}:jK m w=jK z w'↔K8 m z w w':=by
 constructor
 ·intro h
  have a:=ku m w;rw[h,ku]at a;have O:m=z:=by have:=congrArg Ts a;simpa using this.symm
  subst O;refine⟨rfl,λk I=>?_⟩;have:=congrArg (λl=>l[k]?) a;simp[I]at this;exact(rD this).symm
 ·rintro⟨rfl,h⟩
  unfold jK;rw[Ni λk I=>by rw[h k (MG.mp I)]]
theorem V1(m w):m4 (.str<|jK m w)=dj:=by refine aq (n:=0) (by simp[deep]) ⋯ ?_;show(jK m w).cps.all (· < 0x110000)=dj;rw[<-Array.all_toList,ku];simp only[OB];intro c I;obtain⟨k,_,rfl⟩:=Ny.mp I;unfold ij;split<;>decide
section
variable{p p':Int}{m m':Nat}{w w':UK}{wd wd':UX}{T T':UW}
theorem vV:jx (zR p m w wd T)=da (.T,[.int p,.tup<|zG (m+1) λk=>(wd k:Int),.tup (jY m w wd T)]):=rfl
theorem uX(k):jx (vn w wd T k)=da (.T,[.str (xS<|ij<|w k),jZ (gm w wd k) (f9 w wd k) (T k)]):=rfl
theorem dB:zY (.nm 0) jt (dv (zk 0)<|zu<|.int 0) [Cell.no] (jY m w wd T)=da ((ME m).map λk=>D.str<|xS<|ij<|w k):=by unfold jY;refine zC _ _ λk I=>zB rfl rfl ?_;simp[uX]
theorem xZ(z:m<=900):qI [zR p m w wd T]=da (.val<|.str<|jK m w):=by
 have U:=jl;have I:m<=lim:=by omega
 have st:Yv ((ME m).map λk=>D.str<|xS<|ij<|w k)=da ((ME m).map λk=>xS<|ij<|w k):=X9 _ _;have O:((ME m).map λk=>xS<|ij<|w k).all js=dj:=by simp only[OB];intro x a;obtain⟨k,_,rfl⟩:=Ny.mp a;unfold ij;split<;>decide
 have b:js "" = dj:=by decide +kernel
 simp only[qI,jk,z9];simp only[ZS,Ab,vq,we,qp,kn,xU,w5,qo,Nn,Uh,Nr,NK,MI,Rq,MN,jg,vV,MJ,MW,qG,v?,MT,Ex,Nat.sub_self,NW];rw[iL,UJ I,show jo 1 [] [Cell.val (zR p m w wd T)]=[Cell.no]from rfl,dB];simp only[MW,MJ,st];rw[UJ ⟨by simpa using I,O,b⟩];rfl
theorem Zg(z:m<=900)(O:m'<=900):kz [zR p m w wd T,zR p' m' w' wd' T']=da (.val<|.bl<|decide<|p=p'/\K8 m m' w w'):=by
 have I:=xZ (p:=p) (wd:=wd) (T:=T) (w:=w) z;have U:=xZ (p:=p') (wd:=wd') (T:=T') (w:=w') O;have d:g4 (.str<|jK m w) (.str<|jK m' w')=da (.bl<|decide<|K8 m m' w w'):=by unfold g4;rw[UJ ⟨V1 m w,V1 m' w'⟩];congr 2;rw[Ru];simp only[i4,T3,beq_iff_eq,decide_eq_true_eq];exact I_
 by_cases q:p=p'
 ·simp[kz,jk,z9,vV,q,I,U,d]
  subst q;simp[I,d]
 ·simp[kz,jk,z9,vV,q]
end
theorem iy(xs:List D)(n:Nat)(J:xs.length=n)(L:∀i (h:i<n),∃z,xs[i]'(J ▸ h)=.int z)(bm:n<=63)(k:Int)(Z:0<=k)(bn:k<100000):
 ∃m,ju [.lst xs,.int k]=da (.val<|.int m)/\0<=m/\m<1000000007:=by
 have O:∀x:Int,XU x 48271=dj:=λx=>XT _ _ ⋯ ⋯;have U:∀x:Int,XU 7 x=dj:=λx=>ZR _ _ ⋯ ⋯;have Y:∀x:Int,XU 13 x=dj:=λx=>ZR _ _ ⋯ ⋯;have e:∀x:Int,XU x 69621=dj:=λx=>XT _ _ ⋯ ⋯;have f:XU (7*k) k=dj:=XT _ _ ⋯ ⋯;have I:Em 10 9=dj:=by decide
 have b:Em 10 30=dj:=by decide
 have hl:lim=2500:=rfl;by_cases E:n=0
 ·subst E
  have g:xs=[]:=NI J;subst g;simp[ju,jk,z9,jP,O,U,Y,e,f,I,b];omega
 ·have l:0<n:=by omega
  obtain⟨i,N⟩:=PF (NX k<|show(n:Int)≠0 by omega);have r:i<n:=by have:=NF k (show(0:Int)<n by omega);omega
  obtain⟨zal,y⟩:=L i r;have ii:i0 n (i:Int)=da i:=by rw[qQ,UJ r]
  by_cases K:n=1
  ·subst K
   have o:i=0:=by omega
   subst o;have k1:k%1=0:=by omega
   simp[ju,jk,z9,jP,O,U,Y,e,f,I,b,J,y];omega
  ·obtain⟨X,g⟩:=L 0 l
   have o:i0 n 0=da 0:=by have:=qQ n 0;rw[UJ l]at this;exact this
   have B:(0:Int)<(n:Int)-1:=by omega
   have C:(1:Int)<(n:Int):=by omega
   have w:1<n:=by omega
   have T:(n:Int)-1<1073741824:=by omega
   have W:(0:Int)<(n:Int):=by omega
   obtain⟨j,P⟩:=PF (NX k<|show(n:Int)-1≠0 by omega);have u:1+j<n:=by have:=NF k B;omega
   obtain⟨zj,H⟩:=L (1+j) u;have S:i0 n (1+(j:Int))=da (1+j):=by have:=qQ n<|1+j;rw[UJ u]at this;rw[<-this];congr 1
   have M:0<=k/((n:Int)-1)/\k/((n:Int)-1)<=k:=⟨Int.ediv_nonneg Z ⋯,Int.ediv_le_self _ Z⟩;obtain⟨t,Q⟩:=PF M.1;by_cases A:X%2=1
   ·obtain⟨a,F,bv⟩:∃a:Nat,(if (t:Int)<60 then (t:Int)else 60)=a/\a<=60:=by
     split
     ·exact⟨t,rfl,by omega⟩
     ·exact⟨60,rfl,by omega⟩
    have G:inR (a:Int)=dj:=J6 ⋯ ⋯;simp[ju,jk,z9,jP,O,U,Y,e,f,J,l,u,C,w,g,o,B,T,A,P,S,H,Q,I,b];rw[F,UJ G];simp only[MJ,qM,Ou];rw[qu a λi=>(i:Int)];have key:∀(m s:Nat) (v:Int) (c:Cell),∃p d,kX (.nm 3) (jj 2<|zH Xj (zc 2)<|zH uK (zu<|D.int 10)<|zu<|D.int 9) ((SK s m).map λ(i:Nat)=>D.int i) [.val (.lst xs),.val<|.int k,.val<|.int v,c,.no] =
     da (.next [.val (.lst xs),.val<|.int k,.val<|.int p,d,.no]):=by
     intro m
     induction m with
     |zero=>intro s v c;exact⟨v,c,rfl⟩
     |succ m R=>
      intro s v c;rw[RL,Nn,qW];obtain⟨p,d,h⟩:=R (s+1) (v/10^9)<|.val<|.int s;refine⟨p,d,?_⟩;rw[<-h];simp[I]
    obtain⟨p,d,h⟩:=key a 0 zj .no;rw[<-PX]at h;rw[h];simp[I];omega
   ·simp[ju,jk,z9,jP,O,U,Y,e,f,J,C,w,W,l,g,o,A,N,y,r,ii,I,b]
    omega
theorem uO(ns:List Int)(z:ns.length<=63)(k:Int)(I:0<=k)(O:k<100000):∃m,ju [XQ ns,.int k]=da (.val<|.int m)/\0<=m/\m<1000000007:=
 iy (ns.map D.int) ns.length ⋯ (λi a=>⟨ns[i],by simp⟩) z k I O
def vm(ns:List Int)(k:Int):Int:=match ju [XQ ns,.int k]with
 |some (.val<|.int m)=>m
 |_=>0
theorem KY(z:ns.length<=63)(I:0<=k)(O:k<100000):ju [XQ ns,.int k]=da (.val<|.int<|vm ns k)/\0<=vm ns k/\vm ns k<1000000007:=by
 obtain⟨m,h,a,b⟩:=uO ns z k I O;have e:vm ns k=m:=by unfold vm;rw[h]
 rw[e];exact⟨h,a,b⟩
def jc(bs:List (Int×Int)):List D:=bs.map λb=>D.tup [.int b.1,.int b.2]
@[simp] theorem Es(bs):(jc bs).length=bs.length:=by simp[jc]
def vU(bs:List (Int×Int)):List (Int×Int):=(kK bs).map λi=>bs.getD i (0,0)
theorem Xr(bs):(vU bs).Perm bs:=by have:=(qU bs).map λi=>bs.getD i (0,0);rw[jG]at this;exact this
def yU(n:Int)(b:Int×Int):Prop:=0<=b.1/\b.1<=b.2/\b.2<n
@[simp] def Fy:=@AZ.eq_1
section ap
variable(γ:Ctx)
@[simp] def Fx:=@AY.eq_1
@[simp] def FC:=@Xt.eq_1
@[simp] def FD:=@eO.eq_1
@[simp] def Lg:=@LN.eq_1
end ap
def Fp(b:Int×Int)(r:Int):Bool:=decide (b.1<=r)&&decide (r<=b.2)
noncomputable def qt(bs:List (Int×Int))(r:Int):List Nat:=(ME bs.length).filter λi=>Fp (bs.getD i (0,0)) r
def GS(l:List Nat):List D:=l.map λ(i:Nat)=>D.int i
@[simp] theorem Fb(l):(GS l).length=l.length:=by simp[GS]
section
variable{p:Int}
def ie(h w:Nat)(f:UV):List D:=(ME h).map λi=>D.lst<|zG w<|f i
@[simp] theorem Eg(h w f):(ie h w f).length=h:=by simp[ie]
end
@[simp] theorem Ao(h w f):(ie h w f).length=h:=by simp[ie]
section
variable{p:Int}{h w q r:Nat}
def app(f:UV)(w:Nat)(v:Vc):Vc:=λi=>zm (λj=>f i j*v j) w
theorem uZ(I:∀j,j<w->v j%p=(u j+c*g j)%p)(i:Nat):app f w v i%p=(app f w u i+c*app f w g i)%p:=by
 unfold app;have e:zm (λj=>f i j*v j) w%p=zm (λj=>f i j*u j+c*(f i j*g j)) w%p:=zS λj O=>by rw[MS,I j O,<-MS,SQ,SG]
 rw[e,qz,jD]
theorem oo(hz:∀j,j<w->v j%p=0)(i:Nat):app f w v i%p=0:=by
 unfold app;have:zm (λj=>f i j*v j) w%p=zm (λ_=>0) w%p:=zS λj I=>by rw[MS,hz j I];simp
 rw[this,zU];rfl
theorem xB(I:∀j,j<w->v j%p=u j%p)(i:Nat):app f w v i%p=app f w u i%p:=by unfold app;exact zS λj O=>by rw[MS,I j O,<-MS]
theorem bB(O:i3 p (h+w) r B l)(hs:s<=r)(L:∀k,k<s->l k<h)(J:∀k,s<=k->k<r->h<=l k):
 i3 p w (r-s) (λk j=>B (s+k)<|h+j) (λk=>l (s+k)-h)/\∀v,Span p w (eL (r-s) λk j=>B (s+k)<|h+j) v↔Span p (h+w) (eL r B) (yW h (λ_=>0) v):=by
 refine⟨{
  lt:=λk I=>by have:=O.lt (s+k) ⋯;have:=J (s+k) ⋯ ⋯;omega
  mono:=λk m I t=>by have:=O.mono (s+k) (s+m) ⋯ ⋯;have:=J (s+k) ⋯ ⋯;omega
  one:=λk I=>by have:=J (s+k) ⋯ ⋯;rw[show h+(l (s+k)-h)=l (s+k)by omega];exact O.one _ ⋯
  o7:=λk j I o=>O.o7 _ _ ⋯ ⋯
  wh:=λk m I t A=>by have:=J (s+m) ⋯ ⋯;rw[show h+(l (s+m)-h)=l (s+m)by omega];exact O.wh _ _ ⋯ ⋯ ⋯
  n7:=λk i I a=>O.n7 _ _ ⋯ ⋯},λv=>⟨λU=>?_,λU=>?_⟩⟩
 ·induction U with
  | @zero v x=>
   refine .zero λi a=>?_;rcases Nj i h with z|z
   ·rw[qb z];simp
   ·obtain⟨k,rfl⟩:∃k,i=h+k:=⟨i-h,by omega⟩
    rw[qw];exact x k ⋯
  | @step v u g c n C f Y=>
   obtain⟨k,I,rfl⟩:=n;refine .step (g:=B<|s+k) (c:=c) ⟨s+k,by omega,rfl⟩ Y λi a=>?_;rcases Nj i h with z|z
   ·rw[qb z,qb z,O.o7 (s+k) i ⋯ (by have:=J (s+k) ⋯ ⋯;omega)];simp
   ·obtain⟨j,rfl⟩:∃k,i=h+k:=⟨i-h,by omega⟩
    rw[qw,qw];exact f j ⋯
 ·have b:=Jb O U
  refine(Span.sum (u:=λk j=>B (s+k)<|h+j) (λk=>yW h (λ_=>0) v<|l<|s+k) (m:=r-s) λk I=>.gen ⟨k,I,rfl⟩).congr λj o=>?_;have:=b (h+j) ⋯;rw[qw]at this;rw[this];obtain⟨d,rfl⟩:∃d,r=s+d:=⟨r-s,by omega⟩;rw[OY];have y:∀(F:Nat->Int) (d:Nat),(∀k,k<s->F k=0)->zm F (s+d)=zm (λk=>F<|s+k) d:=by
   intro F d e
   induction d with
   |zero=>
    show zm F s=0;rw[zA (g:=λ_=>0) e,zU]
   |succ d Y=>rw[<-Ua];simp only[zm];rw[Y]
  rw[y _ d λk I=>by rw[qb (L k I)];simp]
end
section
variable{p:Int}{h w q:Nat}
noncomputable def xj(h w:Nat)(f:UV)(g:Nat->Vc):Nat->Vc:=λm=>if m<w then yW h (λi=>f i m) (jX m)else yW h (g<|m-w) (λ_=>0)
theorem ib(f:UV)(g:Nat->Vc):zX w (h+w) (λj=>yW h (λi=>f i j)<|jX j)++zX q (h+w) (λk=>yW h (g k) λ_=>0)=zX (w+q) (h+w) (xj h w f g):=by
 unfold zX;rw[RH,NU,NB];congr 1
 ·refine Ni λm a=>?_
  unfold xj;rw[UJ (MG.mp a)]
 ·refine Ni λm a=>?_
  simp only[Tj];unfold xj;rw[UY ⋯,OY]
theorem wZ(f:UV)(I:j<w)(i:Nat):app f w (jX j) i=f i j:=by unfold app;rw[z6 (f:=λk=>f i k*jX j k) I λk _ O=>by simp[jX,NH O]];simp[jX]
theorem fM(hz:Span p (h+w) (eL (w+q)<|xj h w f g) z):Span p h (eL q g) λi=>z i-app f w (λj=>z<|h+j) i:=by
 induction hz with
 |@zero z hz=>
  refine .zero λi a=>?_;rw[Pa,hz i ⋯,oo (p:=p) (λj e=>hz (h+j) ⋯) i];simp
 | @step z u k c d n U Y=>
  obtain⟨m,l,rfl⟩:=d;have b:=λi=>uZ (p:=p) (w:=w) (f:=f) (u:=λj=>u<|h+j) (g:=λj=>xj h w f g m<|h+j) (v:=λj=>z<|h+j) (c:=c) (λj e=>U (h+j) ⋯) i;have key:∀i,i<h->(z i-app f w (λj=>z<|h+j) i)%p=((u i-app f w (λj=>u<|h+j) i)+c*(xj h w f g m i-app f w (λj=>xj h w f g m<|h+j) i))%p:=λi a=>by rw[Pa,U i ⋯,b i,<-Pa];congr 1;rw[Int.mul_sub];omega
  rcases Nj m w with I|I
  ·refine Y.congr λi a=>?_
   rw[key i a];have t:app f w (λj=>xj h w f g m<|h+j) i=f i m:=by
    have:(λj=>xj h w f g m<|h+j)=jX m:=by funext j;unfold xj;rw[UJ I,qw]
    rw[this,wZ f I]
   have O:xj h w f g m i=f i m:=by unfold xj;rw[UJ I,qb a]
   rw[t,O];simp
  ·refine .step (g:=g<|m-w) (c:=c) ⟨m-w,by omega,rfl⟩ Y λi a=>?_
   rw[key i a];have t:app f w (λj=>xj h w f g m<|h+j) i=0:=by
    have:(λj=>xj h w f g m<|h+j)=λ_=>0:=by funext j;unfold xj;rw[UY ⋯,qw]
    rw[this];unfold app;simp[zU]
   have O:xj h w f g m i=g (m-w) i:=by unfold xj;rw[UY ⋯,qb a]
   rw[t,O];simp
theorem uC(I:Span p h (eL q g) y):Span p (h+w) (eL (w+q)<|xj h w f g) (yW h y λ_=>0):=by
 induction I with
 | @zero y b=>
  refine .zero λi a=>?_;rcases Nj i h with z|z
  ·rw[qb z];exact b i z
  ·obtain⟨k,rfl⟩:∃k,i=h+k:=⟨i-h,by omega⟩
   rw[qw];simp
 | @step y u d c O m U Y=>
  obtain⟨k,l,rfl⟩:=O;refine .step (g:=xj h w f g<|w+k) (c:=c) ⟨w+k,by omega,rfl⟩ Y λi a=>?_;have e:xj h w f g (w+k)=yW h (g k) λ_=>0:=by unfold xj;rw[UY ⋯,OY]
  rw[e];rcases Nj i h with z|z
  ·rw[qb z,qb z,qb z];exact U i z
  ·obtain⟨j,rfl⟩:∃k,i=h+k:=⟨i-h,by omega⟩
   rw[qw,qw,qw];simp
theorem Ya(Z:Pr p)(hh:h<=20)(hw:w<=20)(hq:q<=100)(f:UV)(g:Nat->Vc):
 ∃r B l,kB [.int p,jZ h w f,.lst (zX q h g)]=da (.own<|zX r w B)/\i3 p w r B l/\∀v,Span p w (eL r B) v↔Span p h (eL q g) (app f w v):=by
 have hl:=jl;have Q:h<=lim:=by omega
 have I:w<=lim:=by omega
 have U:h+w<=lim:=by omega
 have R:q<=lim:=by omega
 have Y:w+q<=lim:=by omega
 obtain⟨r,B,l,e,O,E⟩:=k9 Z (show h+w<=100 by omega) Y .L<|xj h w f g;have S:r<=h+w:=V2 O.mono O.lt;obtain⟨s,o,y,A⟩:=Jf h O.mono;have J:=QO O ⋯ o y A;obtain⟨F,N⟩:=bB O o y A;refine⟨r-s,_,_,?_,F,λv=>(N v).trans ((E _).trans ⟨λt=>?_,λt=>?_⟩)⟩
 ·have x:=yz f Q I
  have C:=yx (n:=w) I;have key:zY (.tp [0,1]) jt (zH qv (zc 0)<|zc 1) [Cell.no,Cell.no] ((ME w).map λj=>D.tup [.tup (zG h λi=>f i j),.tup (zG w λk=>if j=k then 1 else 0)])=da (zX w (h+w) λj=>yW h (λi=>f i j)<|jX j):=by unfold zX;refine zC _ _ λj d=>zB rfl rfl ?_;simp[qv,U,Jl];rfl
  have P:yY (zX w h λi j=>f j i) (zX w w λi j=>if i=j then 1 else 0)=(ME w).map λj=>D.tup [.tup (zG h λi=>f i j),.tup (zG w λk=>if j=k then 1 else 0)]:=by unfold yY zX;rw[RT];simp
  have H:inR (w:Int)=dj:=uv I;have zr:yq (.tup [.int 0]) (.int w)=da (.tup<|zG w λ_=>0):=by
   show(if [D.int 0].length*(w:Int).toNat<=lim/\inR (w:Int)=dj then da (D.tup (MI (w:Int).toNat [D.int 0]).flatten)else none)=_;rw[UJ ⟨by simpa using I,H⟩];congr 2;rw[Ou];clear key P C x J F N E O e H Y U I hw hq y A o S
   induction w with
   |zero=>rfl
   |succ w X=>rw[List.replicate_succ',List.flatten_append,X];unfold zG;rw[OH,NU];rfl
  have fr:zY (.nm 0) jt (zH qv (zc 0)<|zH yq (qF<|zb (zu<|.int 0) zF)<|dv (zk 1)<|zu<|.int 1) [Cell.no,Cell.val (jZ h w f)] (zX q h g)=da (zX q (h+w) λk=>yW h (g k) λ_=>0):=by unfold zX;refine zC _ _ λk M=>zB rfl rfl ?_;have sq:jx (jZ h w f)=da (.T,[.int h,.int w,.tup (zX h w f)]):=rfl;simp[sq,zr,qv,U,Jl]
  have W:((h:Int)+(w:Int))=((h+w:Nat):Int):=by omega
  simp only[t5]at e;rw[<-W,<-ib]at e;have sq:jx (jZ h w f)=da (.T,[.int h,.int w,.tup (zX h w f)]):=rfl;unfold jZ at x C fr ⊢;simp[kB,jk,z9,jP,x,C,P,I,R,Y,jo,ke,MI,key,fr,e,J]
 ·have:=fM t
  refine(this.smul (-1)).congr λi K=>?_;congr 1;show app f w v i = -1*(yW h (λ_=>0) v i-app f w (λj=>yW h (λ_=>0) v<|h+j) i);rw[qb K,show(λj=>yW h (λ_=>0) v<|h+j)=v from funext λj=>qw j];omega
 ·have a:=Span.sum (p:=p) (n:=h+w) (G:=eL (w+q)<|xj h w f g) (u:=λj=>xj h w f g j) v (m:=w) λj d=>.gen ⟨j,by omega,rfl⟩
  have b:=uC (w:=w) (f:=f) t;refine(b.add a (-1)).congr λi K=>?_;congr 1;rcases Nj i h with z|z
  ·rw[qb z,qb z]
   have:zm (λk=>v k*xj h w f g k i) w=app f w v i:=by unfold app;exact zA λk M=>by unfold xj;rw[UJ M,qb z,Oz]
   rw[this];omega
  ·obtain⟨k,rfl⟩:∃k,i=h+k:=⟨i-h,by omega⟩
   rw[qw,qw];have:zm (λj=>v j*xj h w f g j (h+k)) w=v k:=by rw[z6 (f:=λj=>v j*xj h w f g j (h+k)) (i:=k) ⋯ λj d as=>by unfold xj;rw[UJ d,qw];simp[jX,as]];unfold xj;rw[UJ (show k<w by omega),qw];simp[jX]
   rw[this];simp
end
section
variable{p p':Int}{m m':Nat}{w w':UK}{wd wd':UX}{T T':UW}
theorem rA(l z:List D):(yY l z).length=min l.length z.length:=by simp[yY]
theorem VC(z:m<=900)(I:m'<=900)(h:¬(p=p'/\K8 m m' w w')):jR [zR p m w wd T,zR p' m' w' wd' T']=da ((("Unlike" : Str),none):Xn):=by have a:=Zg (p:=p) (p':=p') (w:=w) (w':=w') (wd:=wd) (wd':=wd') (T:=T) (T':=T') z I;rw[decide_eq_false h]at a;simp[jR,W1,z9,oC,tu,iZ,a,MI]
theorem yu(z:m<=900):jR [zR p m w wd T,zR p m w wd' T']=none/\jT [zR p m w wd T,zR p m w wd' T']=da (.val .el):=by
 have a:=Zg (p:=p) (p':=p) (w:=w) (w':=w) (wd:=wd) (wd':=wd') (T:=T) (T':=T') z z;rw[decide_eq_true ⟨rfl,rfl,λ_ _=>rfl⟩]at a;constructor
 ·simp[jR,W1,z9,oC,tu,iZ,C6,a,MI]
 ·simp[jT,jk,z9,a,MI]
end
@[simp] def FK:=@IF.eq_1
section
variable{p:Int}{m:Nat}{w:UK}{wd:UX}{T:UW}{a:Nat}
abbrev lk(p:Int)(m:Nat)(w:UK)(wd:UX)(T:UW)(i j:Int)(a:Nat)(ds:List D)(c:Cell):Ctx:=[.val (zR p m w wd T),.val (.int i),.val (.int j),.val (jZ a a λi j=>if i=j then 1 else 0),.own ds,c]
end
@[simp] def EF:=@VO.eq_1
noncomputable def Dk:=(VO 7<|zO (zN<|zk 6) (.nm 0) 1 [0,1,5,8,9] (sB<|zD QM<|zb (zc 1)<|zb (dv (zJ<|dv (zk 2)<|zu<|.int 2)<|zc 3)<|zb (zc 5)<|zb (zc 0) zF) (qF<|zb (zc 4)<|zb (zc 0) zF))
section
variable{p:Int}{m:Nat}{w:UK}{wd:UX}{T:UW}
theorem y9:jx (zR p m w wd T)=da (.T,[.int p,.tup<|zG (m+1) λk=>(wd k:Int),.tup (jY m w wd T)]):=rfl
end
def sk(i j:Nat):Int:=if i=j then 1 else 0
def QK(p:Int)(n:Nat)(f g:UV):Prop:=∀i j,i<n->j<n->zm (λk=>f i k*g k j) n%p=sk i j%p
@[simp] theorem An(r):ke (.nest r)=.no:=rfl
@[simp] theorem Cn(r):ke (.own r)=.no:=rfl
@[simp] theorem Cm(d):ke (.val d)=.val d:=rfl
@[simp] theorem EZ:ke .no=.no:=rfl
section
variable{p:Int}{n:Nat}
structure Pair(p:Int)(n:Nat)(f g:UV):Prop where
 bf:∀i j,i<n->j<n->0<=f i j/\f i j<p
 bg:∀i j,i<n->j<n->0<=g i j/\g i j<p
 fg:QK p n f g
 gf:QK p n g f
end
def zZ(w:UK)(k:Nat):Nat:=if w k then k+1 else k
def ja(w:UK)(k:Nat):Nat:=if w k then k else k+1
theorem vS(w:UK)(k:Nat):jH [.int k,.str (xS<|ij<|w k)]=da (.val<|.int (zZ w k:Nat)):=by have q:=QA<|w k;cases h:w k<;>rw[h]at q<;>simp[jH,jk,z9,zZ,q,h]
theorem bh(w:UK)(k:Nat):kq [.int k,.str (xS<|ij<|w k)]=da (.val<|.int (ja w k:Nat)):=by have q:=QA<|w k;cases h:w k<;>rw[h]at q<;>simp[kq,jk,z9,ja,q,h]
def j4(m:Nat)(wd:UX)(f:UW):List D:=(ME m).map λk=>jZ (wd k) (wd k)<|f k
@[simp] theorem AG(m wd f):(j4 m wd f).length=m:=by simp[j4]
@[simp] theorem ES(wd f)(h:k<(j4 m wd f).length):(j4 m wd f)[k]=jZ (wd k) (wd k) (f k):=by simp[j4]
noncomputable def lH(p:Int)(w:UK)(wd:UX)(f g T:UW)(k i j:Nat):Int:=
 zm (λb=>g (zZ w k) b j*(zm (λa=>T k a b*f (ja w k) i a) (wd<|ja w k)%p)) (wd<|zZ w k)%p
@[simp] theorem EG(γ:Ctx)(f):Xt f γ=(f γ).bind λd=>match d with
 |.str z=>if js z=dj then da (xy<|kf z)else none
 |_=>none:=rfl
@[simp] theorem FJ(γ:Ctx)(f g):Kh f g γ=(f γ).bind λd=>(g γ).bind λe=>match d,e with
 |.str x,.str y=>if js x=dj/\js y=dj then da (.str<|x++y)else none
 |_,_=>none:=rfl
theorem XN(m:Nat)(w:UK):xy (kf<|jK m w)=(ME m).map λ(k:Nat)=>D.tup [.int k,.str (xS<|ij<|w k)]:=by
 have e:kf (jK m w)=(ME m).map λk=>D.str (xS<|ij<|w k):=by unfold kf;rw[ku,NB];rfl
 unfold xy;rw[e];simp only[Nf,Og];refine Ni λk I=>?_;simp[MG.mp I]
def pr(a b:Nat):D:=.tup [.int a,.int b]
@[simp] theorem II(a b):jx (pr a b)=da (.T,[.int (a:Int),.int (b:Int)]):=rfl
theorem V6(a c:Nat):(if a<c then (c:Int)else (a:Int))=((max a c:Nat):Int):=by
 by_cases h:c>a
 ·rw[UJ h,Nat.max_eq_right ⋯]
 ·rw[UY h,Nat.max_eq_left ⋯]
theorem V5(a c:Nat):(if c<a then (c:Int)else (a:Int))=((min a c:Nat):Int):=by
 by_cases h:c<a
 ·rw[UJ h,Nat.min_eq_right ⋯]
 ·rw[UY h,Tb ⋯]
def C0(w:UK)(a c:Nat):Bool:=decide (a=c) || (w (max a c-1)==decide (a<c))
def C4(w:UK)(b d:Nat):Bool:=decide (b=d) || (w (min b d)==decide (b<d))
section
variable{m a b c d:Nat}{w:UK}
theorem iU(L:m<=5)(z:a<=m)(J:c<=m):x9 [.str (jK m w),pr a b,pr c d]=da (.val<|.bl<|C0 w a c):=by
 by_cases q:a=c
 ·subst q
  simp[x9,jk,z9,jP,C0]
 ·have I:¬((a:Int)=(c:Int)):=by omega
  have e:qS (zc 0) (zH dq (lV (dv (zk 1)<|zu<|.int 0)<|dv (zk 2)<|zu<|.int 0)<|zu<|.int 1) [Cell.val (.str<|jK m w),Cell.val<|pr a b,Cell.val (pr c d)]=da (.str<|xS<|ij<|w<|max a c-1):=by refine wu w ⋯ ⋯ _ _ _ rfl ?_;simp[V6];omega
  simp only[x9,jk,z9,jP,MI,Nr,NK];simp[-vG,I,e];by_cases l:a<c
  ·have f:(a:Int)<c:=by omega
   simp[l,pV,C0,q]
  ·simp[l,QA,C0,q]
theorem df(L:m<=5)(z:b<=m)(J:d<=m):xC [.str (jK m w),pr a b,pr c d]=da (.val<|.bl<|C4 w b d):=by
 by_cases q:b=d
 ·subst q
  simp[xC,jk,z9,jP,C4]
 ·have I:¬((b:Int)=(d:Int)):=by omega
  have f:qS (zc 0) (eH (dv (zk 1)<|zu<|.int 1)<|dv (zk 2)<|zu<|.int 1) [Cell.val (.str<|jK m w),Cell.val<|pr a b,Cell.val (pr c d)]=da (.str<|xS<|ij<|w<|min b d):=by refine wu w ⋯ ⋯ _ _ _ rfl ?_;simp[V5]
  simp only[xC,jk,z9,jP,MI,Nr,NK];simp[-vG,I,f];by_cases l:d<b
  ·have e:¬b<d:=by omega
   simp[l,e,QA,C4,q]
  ·have e:b<d:=by omega
   simp[l,e,pV,C4,q]
def t4(w:UK)(a b c d:Nat):Bool:=decide (max a c<=min b d)&&(C0 w a c&&C4 w b d)
theorem Yc(z:m<=5)(J:a<=m)(O:b<=m)(U:c<=m)(L:d<=m):kC [.str (jK m w),pr a b,pr c d]=da (.val<|.int<|if t4 w a b c d=dj then 1 else 0):=by
 have e:=iU (b:=b) (d:=d) (w:=w) z J U;have Y:=df (a:=a) (c:=c) (w:=w) z O L;simp only[kC,jk,z9,jP,MI,Nr,NK];by_cases q:max a c<=min b d
 ·have I:¬((min b d:Nat):Int)<((max a c:Nat):Int):=by omega
  simp[V6,V5,I,e,t4,q];cases h1:C0 w a c
  ·simp[h1]
  ·simp[h1,Y]
   cases h2:C4 w b d<;>simp[h2]
 ·have I:((min b d:Nat):Int)<((max a c:Nat):Int):=by omega
  simp[V6,V5,I,t4,q]
theorem Wy(z:m<=5){k:Nat}(I:k<m):vI [.str (jK m w),.int k]=da (.val<|.tup [.int ((zZ w k:Nat):Int),.int ((ja w k:Nat):Int)]):=by have a:qS (zc 0) (zc 1) [Cell.val (.str<|jK m w),Cell.val (.int k)]=da (.str<|xS<|ij<|w k):=wu w ⋯ I _ _ _ rfl rfl;simp only[vI,jk,z9,jP,MI,Nr,NK];simp[-vG,a,QA];cases h:w k<;>simp[h,zZ,ja]
end
def mk(lo:Nat)(ch:List Int)(r:Nat):Int:=if lo<=r then ch.getD (r-lo) 0 else 0
noncomputable def UU:=jj 3<|jz<|zO (jE<|zH qv (yC<|zc 0)<|zu<|.int 1) (.nm 0) 1 [1,2] (QX (sB<|JI B8 B8 (dv (zk 1)<|zu<|.int 0) (zc 0)<|dv (zk 1)<|zu<|.int 1)<|sB<|JI B8 B8 (dv (zk 2)<|zu<|.int 0) (zc 0)<|dv (zk 2)<|zu<|.int 1) (zc 0)
def U0:=jj 4<|jz<|jC<|zb (jz<|jC zF) zF
theorem Ay{c:Int}(z:0<=c){m:Nat}(J:m<=5):∃w,xV [.int c,.int (1+(m:Int))]=da (.val<|.str<|jK m w):=by
 have d:=jl;have I:m<=lim:=by omega
 refine⟨λk=>decide (c/2^k%2=1),?_⟩;have key:zY (.nm 0) jt (qS (zu (.str "rl")) (zH yN (zH Xj (zc 1) (dv (jm (jC (zb (zu (.int 1)) (zb (zu (.int 2)) (zb (zu (.int 4)) (zb (zu (.int 8)) (zb (zu (.int 16)) zF))))))) (zc 0))) (zu (.int 2)))) [Cell.no,Cell.val (.int c)] ((ME m).map λi:Nat=>D.int (i:Int)) =
  da ((ME m).map λ(k:Nat)=>D.str<|xS<|ij<|decide<|c/2^k%2=1):=by
  refine zC _ _ λk O=>zB rfl rfl ?_;have O:=MG.mp O;have U:zH yN (zH Xj (zc 1)<|dv (jm<|jC<|zb (zu<|.int 1)<|zb (zu<|.int 2)<|zb (zu<|.int 4)<|zb (zu<|.int 8)<|zb (zu<|.int 16) zF)<|zc 0) (zu<|.int 2) [Cell.val (.int k),Cell.val (.int c)]=da (.int<|c/2^k%2):=by
   have Y:k=0\/k=1\/k=2\/k=3\/k=4:=by omega
   rcases Y with rfl|rfl|rfl|rfl|rfl<;>simp[jx,i0]
  show qS _ _ [Cell.val (.int k),Cell.val (.int c)]=_;rw[vG,U];have q:c/2^k%2=0\/c/2^k%2=1:=by omega
  rcases q with q|q
  ·rw[q];rfl
  ·rw[q];rfl
 have all1:((ME m).map λ(k:Nat)=>xS<|ij<|decide<|c/2^k%2=1).all js=dj:=by
  rw[List.all_map];exact OB.mpr λk _=>by show js (xS _)=dj;rfl
 have b:js ("" : Str)=dj:=rfl;have a:(1:Int)+(m:Int)-1=(m:Int):=by omega
 simp[xV,jk,z9,jP,a,I,qM,jo,ke,MI];rw[qu m λi=>(i:Int)];rw[key];simp only[MW,MJ,Tj];rw[X9];simp only[MJ];rw[UJ ⟨by simpa using I,OB.mp all1,b⟩];rfl
def GV(h w:Nat)(f:UV):List D:=(ME h).map λi=>D.lst<|zG w<|f i
@[simp] theorem Fd(h w f):(GV h w f).length=h:=by simp[GV]
theorem kP(ds:List D):jx (.lst ds)=da (.L,ds):=rfl
theorem qC(ds:List D):jx (.tup ds)=da (.T,ds):=rfl
theorem Ki(s:Nat)(f:Nat->α):(ME<|s+1).map f=(ME s).map f++[f s]:=by rw[OH,NU];rfl
theorem xw(w:UK)(wd:UX)(k:Nat):wd (ja w k)=gm w wd k:=by unfold ja gm;split<;>rfl
theorem qP(w:UK)(wd:UX)(k:Nat):wd (zZ w k)=f9 w wd k:=by unfold zZ f9;split<;>rfl
theorem KQ{w:UK}{k m:Nat}(h:k<m):ja w k<m+1:=by unfold ja;split<;>omega
theorem K3{w:UK}{k m:Nat}(h:k<m):zZ w k<m+1:=by unfold zZ;split<;>omega
noncomputable def FS(m:Nat)(w:UK)(wd:UX)(T:UW):List D:=(ME m).map λk=>D.lst<|GV (gm w wd k) (f9 w wd k)<|T k
noncomputable def mJ(m:Nat)(w:UK)(wd:UX)(T:UW):D:=.tup [.lst (zG (m+1) λk=>(wd k:Int)),.lst (FS m w wd T)]
noncomputable def CJ(m:Nat)(w:UK)(wd wd':UX)(J:UW):List D:=(ME m).map λk=>jZ (gm w wd k) (f9 w wd' k)<|J k
def b1:=(jn (yb<|sB<|zD X3<|zb (zc 1) zF) JH qj)
def b2:=(jj 3<|zH qv (yC<|zc 1)<|zu<|.int 1)
noncomputable def b3:=(jn (yb<|sB<|Gu<|jm<|zO (zN<|zk 2) (.nm 0) 1 [3] jt (zD ZV<|zb (zc 1)<|zb (zc 0) zF)) JH qj)
def b4:=(jj 4<|jz<|AZ<|zk 2)
def b5:=(jj 5<|jz<|zO (jE<|zc 3) (.nm 0) 1 [4] jt (jz<|je iV<|zb (zc 1)<|zb (zc 0) zF))
def b6:=(jj 6<|z7<|jm<|zO (zN<|zk 5) (.nm 0) 1 [] jt (Kg<|zk 0))
def b7:=(jn (sB<|zH qs (bI<|zk 6)<|zu<|.int 30) JH qj)
noncomputable def b8:=(jj 7<|jz<|zO (Xt<|zc 1) (.tp [0,1]) 2 [5] jt (qF<|zb (zc 1)<|zb (zD Wz<|zb (dv (zk 2)<|zD kq<|zb (zc 0)<|zb (zc 1) zF)<|zb (dv (zk 2)<|zD jH<|zb (zc 0)<|zb (zc 1) zF) zF) zF))
def x1:CO Xn:=(tu (yb (sB (zD X3 (zb (zc 1) zF)))) (iZ "NoRow") C6)
noncomputable def x3:CO Xn:=(tu (yb (sB (Gu (jm (zO (zN (zk 2)) (.nm 0) 1 [3] jt (zD ZV (zb (zc 1) (zb (zc 0) zF)))))))) (iZ "NoRow") C6)
def x7:CO Xn:=(tu (sB (zH qs (bI (zk 6)) (zu (.int 30)))) (iZ "TooMany") C6)
def Bg(m:Nat)(bs:List (Int×Int)):List D:=(ME<|m+1).map λ(r:Nat)=>D.lst<|GS<|qt bs r
def rC(m:Nat)(bs:List (Int×Int)):List D:=zG (m+1) λr=>((qt bs r).length:Int)
section
variable{p:Int}{m:Nat}{w:UK}{bs:List (Int×Int)}
abbrev g0(p:Int)(z:Str)(bs:List (Int×Int)):Ctx:=[.val (.int p),.val (.str z),.val (.lst (jc bs)),.no,.no,.no,.no,.no]
abbrev g2(p:Int)(z:Str)(m:Nat)(bs:List (Int×Int)):Ctx:=[.val (.int p),.val (.str z),.val (.lst (jc bs)),.val (.int ((m+1:Nat):Int)),.no,.no,.no,.no]
abbrev g6(p:Int)(z:Str)(m:Nat)(bs:List (Int×Int)):Ctx:=[.val (.int p),.val (.str z),.val (.lst (jc bs)),.val (.int ((m+1:Nat):Int)),.val (.lst (jc (vU bs))),.val (.lst (Bg m (vU bs))),.val (.tup (rC m (vU bs))),.no]
end
theorem iM(G F H)(γ:Ctx):oC G F H γ=match G γ with
 |some c=>da c
 |none=>(F γ).bind λI=>match I with
  |.next a=>H a
  |_=>none:=rfl
theorem rp(k G H)(γ:Ctx):tu k G H γ=(k γ).bind λb=>if b=dj then G γ else H γ:=rfl
end DL
namespace DL
open PySem L2 PySem.W PyProof.Rows
def m7(x y:Int×Int):Prop:=wN y x=dt
theorem wQ(x):m7 x x:=by unfold m7 wN;simp
theorem KC:m7 x y↔x.1<y.1\/(x.1=y.1/\x.2<=y.2):=by
 unfold m7 wN;by_cases h:y.1=x.1
 ·rw[UJ h,decide_eq_false_iff_not];omega
 ·rw[UY h,decide_eq_false_iff_not];omega
theorem gc:wN x y=dj↔x.1<y.1\/(x.1=y.1/\x.2<y.2):=by
 unfold wN;by_cases h:x.1=y.1
 ·rw[UJ h,decide_eq_true_iff];omega
 ·rw[UY h,decide_eq_true_iff];omega
theorem wO(a:m7 x y)(b:m7 y z):m7 x z:=by rw[KC]at *;omega
theorem wR(a:wN x y=dj):m7 x y:=by rw[gc]at a;rw[KC];omega
theorem Cq(a:wN x y=dj)(b:m7 y z):wN x z=dj:=by rw[gc]at *;rw[KC]at b;omega
theorem KD(a:m7 x y)(b:m7 y x):x=y:=by rw[KC]at *;obtain⟨x1,I⟩:=x;obtain⟨O,U⟩:=y;simp only[Prod.mk.injEq]at *;omega
section
variable(key:Nat->Int×Int)
def vA(p:Array Nat)(i:Nat):Int×Int:=key<|p.getD i 0
def l6(i j:Nat):Bool:=wN (key i)<|key j
def vr(p:Array Nat)(n:Nat):Prop:=∀i j,i<=j->j<n->m7 (vA key p i) (vA key p j)
def Dec(p:Array Nat)(n:Nat):Prop:=∀i j,i<=j->j<n->m7 (vA key p j) (vA key p i)
variable{key}
theorem yi(f:α->KasT β):∀t:KasT α,ky lt (t.bind f)=ky lt (f<|ky lt t)
 |.ret a=>rfl
 |.ask i j k=>yi f<|k<|lt i j
theorem yF(p:Array Nat)(i j):(kas_rev p i j).size=p.size:=mirror_size _ _ _ _
theorem FP(p:Array Nat)(i:Nat):vA key p i=key (p[i]?.getD 0):=by unfold vA;rw[PL]
theorem dD(I:j<=p.size)(k:Nat):vA key (kas_rev p i j) k=if i<=k/\k<j then vA key p (i+j-1-k)else vA key p k:=by have:=getElem?_mirror_all (xs:=p) (i:=i) I k;unfold vA kas_rev;rw[PL,this];split<;>rw[PL]
theorem Jx(O:j<=p.size)(I:∀k,i<=k->k<j->vA key p k=vA key p (j-1))(k:Nat):vA key (kas_rev p i j) k=vA key p k:=by
 rw[dD O];split
 ·rename_i h
  rw[I _ ⋯ ⋯,I k h.1 h.2]
 ·rfl
theorem oF(I:k<p.size)(O:l<=k)(i:Nat):vA key (bubble p k<|k-l) i=if i=l then vA key p k else if l<i/\i<=k then vA key p (i-1)else vA key p i:=by
 have:=getElem?_bubble (xs:=p) I (k-l) ⋯ i;rw[show k-(k-l)=l by omega]at this;simp only[FP];rw[this];split
 ·rfl
 ·split<;>rfl
theorem lO(z:1<=n)(hs:vr key p n)(h:m7 (vA key p<|n-1) (vA key p n)):vr key p (n+1):=λi j I U=>by
 by_cases e:j=n
 ·subst e
  by_cases O:i=j
  ·subst O;exact wQ _
  ·exact wO (hs i (j-1) ⋯ ⋯) h
 ·exact hs i j I ⋯
theorem Jo(z:1<=n)(hs:Dec key p n)(h:m7 (vA key p n) (vA key p<|n-1)):Dec key p (n+1):=λi j I U=>by
 by_cases e:j=n
 ·subst e
  by_cases O:i=j
  ·subst O;exact wQ _
  ·exact wO h<|hs i (j-1) ⋯ ⋯
 ·exact hs i j I ⋯
theorem iK(p:Array Nat):∀(f n:Nat),1<=n->vr key p n->n<=ky (l6 key) (kas_asc p f n)/\ky (l6 key) (kas_asc p f n)<=n+f/\vr key p (ky (l6 key)<|kas_asc p f n)/\(ky (l6 key) (kas_asc p f n)=n+f\/wN (vA key p<|ky (l6 key)<|kas_asc p f n) (vA key p<|ky (l6 key) (kas_asc p f n)-1)=dj)
 |0,n,hn,hs=>⟨MM _,MM _,hs,.inl rfl⟩
 | f+1,n,hn,hs=>by
  have e:ky (l6 key) (kas_asc p (f+1) n)=ky (l6 key) (if wN (vA key p n) (vA key p<|n-1)=dj then .ret n else kas_asc p f (n+1)):=rfl;rw[e];by_cases c:wN (vA key p n) (vA key p<|n-1)=dj
  ·rw[UJ c]
   exact⟨MM _,by show n<=n+(f+1);omega,hs,.inr c⟩
  ·rw[UY c]
   obtain⟨U,Y,I,O⟩:=iK p f (n+1) ⋯ (lO hn hs<|by unfold m7;simpa using c);exact⟨by omega,by omega,I,O.imp (λh=>by omega) id⟩
noncomputable def R3(key:Nat->Int×Int)(p:Array Nat)(n q:Nat):Prop:=q+1<=n/\∀i,n-(q+1)<=i->i<n->vA key p i=vA key p (n-1)
theorem Wp(p:Array Nat)(z:1<=n):R3 key p n 0:=⟨z,λi a b=>by rw[show i=n-1 by omega]⟩
theorem KR:∀(f:Nat) (p:Array Nat) (n q:Nat),Dec key p n->R3 key p n q->n+f<=p.size->
 ∃p' n' I,ky (l6 key) (kas_desc f p n q)=(p',n',I)/\p'.size=p.size/\n<=n'/\n'<=n+f/\Dec key p' n'/\R3 key p' n' I
 |0,p,n,q,hd,hb,_=>⟨p,n,q,rfl,rfl,MM _,MM _,hd,hb⟩
 | f+1,p,n,q,hd,hb,hs=>by
  have b:1<=n:=by have:=hb.1;omega
  have e:ky (l6 key) (kas_desc (f+1) p n q)=ky (l6 key) (if wN (vA key p n) (vA key p<|n-1)=dj then (if q>0 then kas_desc f (kas_rev p (n-(q+1)) n) (n+1) 0 else kas_desc f p (n+1) 0)
   else .ask (p.getD (n-1) 0) (p.getD n 0) λd=>if d=dj then .ret (p,n,q)else kas_desc f p (n+1) (q+1)):=rfl
  rw[e];by_cases c:wN (vA key p n) (vA key p<|n-1)=dj
  ·rw[UJ c]
   by_cases l:q>0
   ·rw[UJ l]
    have k:=Jx (key:=key) (p:=p) (i:=n-(q+1)) (j:=n) ⋯ hb.2;have o:Dec key (kas_rev p (n-(q+1)) n) (n+1):=λi j r w=>by rw[k,k];exact Jo b hd (wR c) i j r w
    obtain⟨p',n',I,a,O,g,h,U,Y⟩:=KR f (kas_rev p (n-(q+1)) n) (n+1) 0 o (Wp _ ⋯) (by rw[yF];omega);exact⟨p',n',I,a,by rw[O,yF],by omega,by omega,U,Y⟩
   ·rw[UY l]
    obtain⟨p',n',I,a,O,g,h,U,Y⟩:=KR f p (n+1) 0 (Jo b hd<|wR c) (Wp _ ⋯) ⋯;exact⟨p',n',I,a,O,by omega,by omega,U,Y⟩
  ·rw[UY c]
   have t:ky (l6 key) (.ask (p.getD (n-1) 0) (p.getD n 0) λd=>if d=dj then .ret (p,n,q)else kas_desc f p (n+1) (q+1))=ky (l6 key) (if wN (vA key p<|n-1) (vA key p n)=dj then .ret (p,n,q)else kas_desc f p (n+1) (q+1)):=rfl;rw[t];by_cases d:wN (vA key p<|n-1) (vA key p n)=dj
   ·rw[UJ d]
    exact⟨p,n,q,rfl,rfl,MM _,by omega,hd,hb⟩
   ·rw[UY d]
    have x:m7 (vA key p<|n-1) (vA key p n):=by unfold m7;simpa using c
    have m:m7 (vA key p n) (vA key p<|n-1):=by unfold m7;simpa using d
    have eq:=KD x m;have s:R3 key p (n+1) (q+1):=⟨by have:=hb.1;omega,λi y z=>by
     rw[Nat.add_sub_cancel];by_cases u:i=n
     ·rw[u]
     ·rw[hb.2 i ⋯ ⋯,eq]⟩
    obtain⟨p',n',I,a,O,g,h,U,Y⟩:=KR f p (n+1) (q+1) (Jo b hd m) s ⋯;exact⟨p',n',I,a,O,by omega,by omega,U,Y⟩
noncomputable def iX(key:Nat->Int×Int)(z nrem:Nat)(r:Nat×Array Nat):Prop:=1<=r.1/\r.1<=nrem/\r.2.size=z/\vr key r.2 r.1
theorem WR(J:1<=n)(U:n<=nrem)(hs:nrem<=p.size)(z:Dec key p n):iX key p.size nrem (ky (l6 key)<|kas_tail3 n nrem p):=by
 have I:vr key (kas_rev p 0 n) n:=λi j Y d=>by rw[dD ⋯,dD ⋯,UJ ⟨by omega,by omega⟩,UJ ⟨by omega,by omega⟩];exact z _ _ ⋯ ⋯
 obtain⟨a,b,O,_⟩:=iK (kas_rev p 0 n) (nrem-n) n J I;unfold kas_tail3;rw[yi];exact⟨by show 1<=ky _ _;omega,by show ky _ _<=nrem;omega,yF _ _ _,O⟩
theorem fK(J:1<=n)(L:n<nrem)(hs:nrem<=p.size)(U:∀i,i<n->vA key p i=vA key p (n-1))(z:wN (vA key p n) (vA key p<|n-1)=dj):iX key p.size nrem (ky (l6 key)<|kas_descPart n nrem p):=by
 have k:Dec key p n:=λi j Y O=>by rw[U i ⋯,U j O];exact wQ _
 obtain⟨b,a,I,g,d,l,m,e,h⟩:=KR (nrem-(n+1)) p (n+1) 0 (Jo J k<|wR z) (Wp _ ⋯) ⋯;unfold kas_descPart;rw[yi,g];show iX key p.size nrem (ky (l6 key)<|if I>0 then kas_tail3 a nrem (kas_rev b (a-(I+1)) a)else kas_tail3 a nrem b);split
 ·have f:=Jx (key:=key) (p:=b) (i:=a-(I+1)) (j:=a) ⋯ h.2
  have:=WR (p:=kas_rev b (a-(I+1)) a) (n:=a) (nrem:=nrem) ⋯ ⋯ (by rw[yF];omega) (λi j Y O=>by rw[f,f];exact e i j Y O);rw[yF,d]at this;exact this
 ·have:=WR (p:=b) (n:=a) (nrem:=nrem) ⋯ ⋯ ⋯ e
  rw[d]at this;exact this
theorem nZ(z:1<=nrem)(hs:nrem<=p.size):iX key p.size nrem (ky (l6 key)<|kas_count nrem p):=by
 have g:vr key p 1:=λi j o s=>by rw[show i=j by omega];exact wQ _
 obtain⟨I,f,O,Y⟩:=iK p (nrem-1) 1 (MM _) g;unfold kas_count;rw[yi];generalize ky (l6 key) (kas_asc p (nrem-1) 1)=n at I f O Y;show iX key p.size nrem (ky (l6 key)<|if (n==nrem)=dj then .ret (n,p)else if n>1 then .ask (p.getD 0 0) (p.getD (n-1) 0) λc=>if c=dj then .ret (n,p)else kas_descPart n nrem (kas_rev p 0 n)else kas_descPart n nrem p);split
 ·rename_i h
  have:=eq_of_beq h;exact⟨I,by show n<=nrem;omega,rfl,O⟩
 ·rename_i h
  have r:n≠nrem:=λe=>h (by rw[e];exact beq_self_eq_true _);have b:wN (vA key p n) (vA key p<|n-1)=dj:=Y.resolve_left ⋯;split
  ·have e:ky (l6 key) (.ask (p.getD 0 0) (p.getD (n-1) 0) λc=>if c=dj then .ret (n,p)else kas_descPart n nrem (kas_rev p 0 n))=ky (l6 key) (if wN (vA key p 0) (vA key p<|n-1)=dj then .ret (n,p)else kas_descPart n nrem (kas_rev p 0 n)):=rfl
   rw[e];split
   ·exact⟨I,by show n<=nrem;omega,rfl,O⟩
   ·rename_i c
    have l:m7 (vA key p<|n-1) (vA key p 0):=by unfold m7;simpa using c
    have d:∀i,i<n->vA key p i=vA key p (n-1):=λi a=>KD (O i (n-1) ⋯ ⋯)<|wO l<|O 0 i ⋯ a;have U:=Jx (key:=key) (p:=p) (i:=0) (j:=n) ⋯<|λk _ m=>d k m;have:=fK (key:=key) (p:=kas_rev p 0 n) (n:=n) (nrem:=nrem) I ⋯ (by rw[yF];omega) (λi a=>by rw[U,U];exact d i a) (by rw[U,U];exact b);rw[yF]at this;exact this
  ·exact fK I ⋯ hs (λi a=>by rw[show i=n-1 by omega]) b
theorem Kn(hs:vr key p k):∀(f l r:Nat),l<=r->r<=k->r-l<=f->(∀i,i<l->m7 (vA key p i) (vA key p k))->(∀i,r<=i->i<k->wN (vA key p k) (vA key p i)=dj)->
 ky (l6 key) (kas_place p k f l r)<=k/\(∀i,i<ky (l6 key) (kas_place p k f l r)->m7 (vA key p i) (vA key p k))/\∀i,ky (l6 key) (kas_place p k f l r)<=i->i<k->wN (vA key p k) (vA key p i)=dj
 |0,l,r,h1,h2,h3,h4,h5=>⟨by show l<=k;omega,h4,λi a I=>h5 i (by have:l<=i:=a;omega) I⟩
 | f+1,l,r,h1,h2,h3,h4,h5=>by
  have e:ky (l6 key) (kas_place p k (f+1) l r)=ky (l6 key) (if l>=r then .ret l else .ask (p.getD k 0) (p.getD ((l+r)/2) 0) λc=>if c=dj then kas_place p k f l ((l+r)/2)else kas_place p k f ((l+r)/2+1) r):=rfl;rw[e];by_cases O:l>=r
  ·rw[UJ O]
   exact⟨by show l<=k;omega,h4,λi a I=>h5 i (by have:l<=i:=a;omega) I⟩
  ·rw[UY O]
   have U:ky (l6 key) (.ask (p.getD k 0) (p.getD ((l+r)/2) 0) λc=>if c=dj then kas_place p k f l ((l+r)/2)else kas_place p k f ((l+r)/2+1) r)=ky (l6 key) (if wN (vA key p k) (vA key p<|(l+r)/2)=dj then kas_place p k f l ((l+r)/2)else kas_place p k f ((l+r)/2+1) r):=rfl;rw[U];by_cases c:wN (vA key p k) (vA key p<|(l+r)/2)=dj
   ·rw[UJ c]
    exact Kn hs f l ((l+r)/2) ⋯ ⋯ ⋯ h4 λi a I=>Cq c<|hs _ _ a I
   ·rw[UY c]
    have Y:m7 (vA key p<|(l+r)/2) (vA key p k):=by unfold m7;simpa using c
    exact Kn hs f ((l+r)/2+1) r ⋯ h2 ⋯ (λi a=>wO (hs i ((l+r)/2) ⋯ ⋯) Y) h5
theorem Bv(O:k<p.size)(U:l<=k)(hs:vr key p k)(z:∀i,i<l->m7 (vA key p i) (vA key p k))(h2:∀i,l<=i->i<k->wN (vA key p k) (vA key p i)=dj):vr key (bubble p k<|k-l) (k+1):=λi j d e=>by
 rw[oF O U,oF O U];by_cases b:i=l
 ·subst b
  rw[UJ rfl];by_cases I:j=i
  ·rw[UJ I];exact wQ _
  ·rw[UY I,UJ ⟨by omega,by omega⟩]
   exact wR<|h2 _ ⋯ ⋯
 ·rw[UY b]
  by_cases Y:l<i/\i<=k
  ·rw[UJ Y,UY (show ¬j=l by omega),UJ ⟨by omega,by omega⟩]
   exact hs _ _ ⋯ ⋯
  ·rw[UY Y]
   by_cases I:j=l
   ·rw[UJ I];exact z i ⋯
   ·rw[UY I]
    by_cases a:l<j/\j<=k
    ·rw[UJ a];exact hs _ _ ⋯ ⋯
    ·rw[UY a];exact hs _ _ d ⋯
theorem rf:∀(f:Nat) (p:Array Nat) (k n:Nat),k+f=n->p.size=n->vr key p k->vr key (ky (l6 key)<|kas_bin f p k) n/\(ky (l6 key)<|kas_bin f p k).size=n
 |0,p,k,n,h1,h2,hs=>by
  obtain rfl:k=n:=by omega
  exact⟨hs,h2⟩
 |f+1,p,k,n,h1,h2,hs=>by obtain⟨I,O,U⟩:=Kn hs k 0 k ⋯ (MM _) ⋯ (λi b=>by omega) (λi Y a=>by omega);unfold kas_bin;rw[yi];exact rf f _ (k+1) n ⋯ (by rw[bubble_size];exact h2)<|Bv ⋯ I hs O U
theorem sd(z:1<=n):vr key (ky (l6 key)<|kas_sort n) n/\(ky (l6 key)<|kas_sort n).size=n:=by
 have a:(Sn<|ME n).size=n:=by simp
 obtain⟨O,U,Y,I⟩:=nZ (key:=key) (p:=Sn<|ME n) (nrem:=n) z ⋯;unfold kas_sort;rw[yi];generalize ky (l6 key) (kas_count n<|Sn<|ME n)=r at O U Y I;show vr key (ky (l6 key)<|if r.1<n then kas_bin (n-max r.1 1) r.2 (max r.1 1)else .ret r.2) n/\(ky (l6 key)<|if r.1<n then kas_bin (n-max r.1 1) r.2 (max r.1 1)else .ret r.2).size=n;rw[show max r.1 1=r.1 by omega];split
 ·exact rf (n-r.1) r.2 r.1 n ⋯ ⋯ I
 ·have:r.1=n:=by omega
  rw[this]at I;exact⟨I,by show r.2.size=n;omega⟩
end
theorem ZN(bs:List (Int×Int)):(vU bs).Pairwise m7:=by
 unfold vU kK;by_cases h:bs.length<2
 ·rw[UJ h]
  rcases bs with _|⟨a,_|⟨b,bs⟩⟩
  ·exact _y.nil
  ·exact List.pairwise_singleton _ _
  ·simp only[Nr]at h;omega
 ·rw[UY h]
  obtain⟨f,g⟩:=sd (key:=λi=>bs.getD i (0,0)) (n:=bs.length) ⋯;have e:(ky (λi j=>wN (bs.getD i (0,0))<|bs.getD j (0,0))<|kas_sort bs.length)=ky (l6 λi=>bs.getD i (0,0)) (kas_sort bs.length):=rfl;rw[e];generalize ky (l6 λi=>bs.getD i (0,0)) (kas_sort bs.length)=p at f g;rw[Pj];intro i j d I O;simp only[Nf,ON]at d I;have:=f i j ⋯ ⋯;unfold vA at this;simp only[PL,Array.getElem?_eq_getElem d,Array.getElem?_eq_getElem I,Option.getD_some]at this;simpa using this
theorem JB:∀{a b:List (Int×Int)},a.Perm b->a.Pairwise m7->b.Pairwise m7->a=b
 |[],b,h,_,_=>by rw[h.nil_eq]
 |x::a,[],h,_,_=>by have:=h.length_eq;simp at this
 | x::a,y::b,h,ha,hb=>by
  have d:x∈y::b:=h.mem_iff.mp Nc;have O:y∈x::a:=h.mem_iff.mpr Nc;have e:x=y:=by
   rcases MQ.mp d with e|e
   ·exact e
   ·rcases MQ.mp O with I|I
    ·exact I.symm
    ·exact KD (List.rel_of_pairwise_cons ha I)<|List.rel_of_pairwise_cons hb e
  subst e;rw[JB (List.Perm.cons_inv h) ha.of_cons hb.of_cons]
theorem JD(h:a.Perm b):vU a=vU b:=
 JB ((Xr a).trans (h.trans (Xr b).symm)) (ZN a) (ZN b)
end DL
namespace DL
open PySem L2
theorem Ax{m k:Nat}(h:k<m+1)(wd:UX):(zG (m+1) λk=>(wd k:Int))[k]? = da (.int (wd k:Int)):=by unfold zG;simp[h]
theorem Aw(m:Nat)(wd:UX):(zG (m+1) λk=>(wd k:Int)).length=m+1:=by simp[zG]
section
variable{p:Int}{m:Nat}{w:UK}{wd wd':UX}{T T' J:UW}
theorem kG(p m w wd T):jx (zR p m w wd T)=da (.T,[.int p,.tup<|zG (m+1) λk=>(wd k:Int),.tup (jY m w wd T)]):=rfl
noncomputable def WW(m:Nat)(w:UK)(wd wd':UX):List D:=(ME m).map λk=>D.tup [.int (gm w wd k:Nat),.int (f9 w wd' k:Nat)]
theorem sy(z:m<=4):qD [zR p m w wd' T',zR p m w wd T]=da (.own<|WW m w wd wd'):=by
 have t:=jl;have d:m<=lim:=by omega
 have s:=kG p m w wd T;have x1:=kG p m w wd' T';have r:=xZ (p:=p) (wd:=wd') (T:=T') (w:=w) (show m<=900 by omega);have e:=yd w (show m<=1000 by omega);have l:2<=lim:=by omega
 have key:zY (.tp [0,1]) jt (qF<|zb (dv (zJ<|dv (zk 3)<|zu<|.int 1)<|zD kq<|zb (zc 0)<|zb (zc 1) zF)<|zb (dv (zJ<|dv (zk 2)<|zu<|.int 1)<|zD jH<|zb (zc 0)<|zb (zc 1) zF) zF) [Cell.no,Cell.no,Cell.val<|zR p m w wd' T',Cell.val (zR p m w wd T)] ((ME m).map λ(k:Nat)=>D.tup [.int k,.str (xS<|ij<|w k)])=da (WW m w wd wd'):=by unfold WW;refine zC _ _ λk I=>zB rfl rfl ?_;have I:=MG.mp I;have O:=KQ (w:=w) I;have U:=K3 (w:=w) I;have Y:=Ax O wd;have b:=Ax U wd';rw[xw w wd]at Y;rw[qP w wd']at b;have g:=bh w k;have h:=vS w k;have j:i0 3 1=da 1:=rfl;show qF _ [Cell.val (.int (k:Int)),Cell.val<|.str<|xS<|ij<|w k,Cell.val<|zR p m w wd' T',Cell.val (zR p m w wd T)]=_;simp only[VB,jO,kQ,w5,xU,qo,qY,vq,xO,MN,MT,Nr,NK,NW,OX,jb,jg,MJ,MW,s,x1,qG,j,qC,g,h,W4,Aw,qQ,O,U,if_true,Y,b,l]
 have i:(xy<|kf<|jK m w).length<=lim:=by rw[XN];simpa using d
 have n:(jj 2<|zD qI<|zb (zc 0) zF) (z9 3 [zR p m w wd' T',zR p m w wd T])=da (.next [.val (zR p m w wd' T'),.val<|zR p m w wd T,.val (.str<|jK m w)]):=by simp[z9,MI,r]
 have o:(yB<|zO (Xt<|zc 2) (.tp [0,1]) 2 [0,1] jt (qF<|zb (dv (zJ<|dv (zk 3)<|zu<|.int 1)<|zD kq<|zb (zc 0)<|zb (zc 1) zF)<|zb (dv (zJ<|dv (zk 2)<|zu<|.int 1)<|zD jH<|zb (zc 0)<|zb (zc 1) zF) zF)) [.val (zR p m w wd' T'),.val<|zR p m w wd T,.val (.str<|jK m w)]=da (.ret<|.own<|WW m w wd wd'):=by
  have a:Xt (zc 2) [.val (zR p m w wd' T'),.val<|zR p m w wd T,.val (.str<|jK m w)]=da (xy<|kf<|jK m w):=by show(if js (jK m w)=dj then _ else _)=_;rw[UJ e]
  have pc:jo 2 [0,1] [.val (zR p m w wd' T'),.val<|zR p m w wd T,.val (.str<|jK m w)]=[Cell.no,Cell.no,Cell.val<|zR p m w wd' T',Cell.val (zR p m w wd T)]:=rfl;show((zO _ _ _ _ _ _ _).map λf=>Fl.ret<|.own f)=_;rw[qp,a];simp only[MJ];rw[UJ i,XN,pc,key];rfl
 exact jf<|zw n o
end
section
variable{p:Int}{m:Nat}{w:UK}{bs:List (Int×Int)}
theorem XM(a b c d:Int):i4 (.tup [.int a,.int b]) (.tup [.int c,.int d])=(a==c&&b==d):=by simp[i4,t6,S9]
theorem Vp:∀a b:List (Int×Int),t6 (jc a) (jc b)=decide (a=b)
 |[],[]=>rfl
 |[],_::_=>rfl
 |_::_,[]=>rfl
 |(x1,x2)::a,(y1,y2)::b=>by have I:=Vp a b;show(i4 (.tup [.int x1,.int x2]) (.tup [.int y1,.int y2])&&t6 (jc a) (jc b))=_;rw[I,XM];by_cases d:x1=y1<;>by_cases e:x2=y2<;>by_cases O:a=b<;>simp[d,e,O]
end
section
variable{p:Int}{m:Nat}{w:UK}{wd wd':UX}{T T' J:UW}
theorem rT(h w f):jx (jZ h w f)=da (.T,[.int (h:Int),.int (w:Int),.tup (zX h w f)]):=rfl
theorem cT(h w f):(zX h w f).length=h:=by simp[zX]
end
def wl(l:List Bool):Str:=⟨⟨l.map ij⟩⟩
noncomputable def GR(n k:Nat)(u:Nat->Int):Int:=if 0<k then (if k+1<n then u (k-1)+(u (k+1)+0)else u (k-1)+0)else if k+1<n then u (k+1)+0 else 0
def mv(n k:Nat)(u:Nat->Int)(i:Nat):Int:=if i=k then GR n k u-u k else u i
def J?(n:Nat)(ks:List Nat)(u:Nat->Int):Nat->Int:=ks.foldl (λu k=>mv n k u) u
def sw(k i:Nat):Nat:=if i=k then k+1 else if i=k+1 then k else i
def Y'(n:Nat)(ks:List Nat)(u:Nat->Int):Nat->Nat->Int
 |0=>u
 |j+1=>J? n ks<|Y' n ks u j
noncomputable def acc(n:Nat)(ks:List Nat)(u:Nat->Int):Nat->Nat->Int
 |0=>λ_=>0
 |j+1=>λi=>acc n ks u j i+Y' n ks u j i
theorem KO(b:Bool):g4 (.str (xS (ij b))) (.str "r")=da (.bl (!b)):=by cases b<;>kernel_rfl
abbrev TB:=Nat×Nat×(Nat->Nat->Int)
def tD(t:TB):D:=jZ t.1 t.2.1 t.2.2
theorem Zz(bs):m4 (.lst<|jc bs)=dj:=aq (n:=2) (by
 simp only[deep];have:x6 (jc bs)<=1:=Jn λd a=>by simp only[jc,Ny]at a;obtain⟨b,_,rfl⟩:=a;simp[deep,x6]
 omega) ⋯ (by
 simp only[kr];exact Kv λd a=>by simp only[jc,Ny]at a;obtain⟨b,_,rfl⟩:=a;rfl)
noncomputable def kg(bs:List (Int×Int))(I us:List TB):D:=.tup [.lst (jc bs),.lst<|I.map tD,.lst (us.map tD)]
structure g9 where
 s:Nat
 n:Nat
 v:Nat->Vc
def g9.has(b:g9)(r:Nat):Bool:=decide (b.s<=r)&&decide (r<b.s+b.n)
theorem q5{b:g9}{r:Nat}:b.has r=dj↔b.s<=r/\r<b.s+b.n:=by simp[g9.has]
def iY:g9:=⟨0,0,λ_ _=>0⟩
structure ri(p:Int)(w:UK)(wd:UX)(T:UW)(k:Nat)(b:g9):Prop where
 n1:1<=b.n
 le:b.s+b.n<=k+1
 n7:∀r i,b.has r=dj->i<wd r->0<=b.v r i/\b.v r i<p
 arr:∀j,j<k->b.has (zZ w j)=dj->∀i,i<wd (ja w j)->app (T j) (wd<|zZ w j) (b.v<|zZ w j) i%p=(if b.has (ja w j)=dj then b.v (ja w j) i else 0)%p
def Ord(w:UK)(a b:g9):Prop:=(a.s<b.s->w (b.s-1)=dj)/\(b.s<a.s->w (a.s-1)=dt)
def Lu(z:List g9)(r:Nat):Vc->Prop:=λg=>∃b,b∈z/\b.has r=dj/\g=b.v r
noncomputable def t9(p:Int)(A:Nat->g9)(N:Nat)(t:Vc)(r:Nat):Vc:=λc=>zm (λj=>if (A j).has r=dj then t j*(A j).v r c else 0) N%p
def M0(p:Int)(A:Nat->g9)(N:Nat)(t:Vc)(i:Nat):g9:=⟨(A i).s,(A i).n,t9 p A N t⟩
section
variable{p:Int}{w:UK}{wd:UX}{T:UW}{k N:Nat}{A:Nat->g9}
theorem vo(f:UV)(h:Nat)(t:Vc)(u:Nat->Vc)(n:Nat)(i:Nat):app f h (λc=>zm (λj=>t j*u j c) n) i=zm (λj=>t j*app f h (u j) i) n:=by
 unfold app;have e:zm (λj=>f i j*zm (λk=>t k*u k j) n) h=zm (λj=>zm (λk=>t k*(f i j*u k j)) n) h:=zA λj _=>by rw[<-jD];exact zA λk _=>by rw[<-PD,<-PD,Oz (f i j)]
 rw[e,ql];exact zA λj _=>jD ..
theorem ui(c:Prop) [Decidable c](x y:Int):(if c then x*y else 0)=x*(if c then y else 0):=by split<;>simp
theorem uY(f:UV)(h r:Nat)(t:Vc)(i:Nat):app f h (t9 p A N t r) i%p=zm (λj=>t j*(if (A j).has r=dj then app f h ((A j).v r) i else 0)) N%p:=by
 have e:app f h (t9 p A N t r) i%p=app f h (λc=>zm (λj=>t j*(if (A j).has r=dj then (A j).v r c else 0)) N) i%p:=xB (λc _=>by unfold t9;rw[NM];congr 1;exact zA λj _=>ui ..) i
 rw[e,vo];congr 1;refine zA λj _=>?_;congr 1;by_cases I:(A j).has r=dj
 ·simp only[UJ I]
 ·simp only[UY I]
  unfold app;simp[zU]
theorem Cp(p0:0<p)(J:∀j,j<N->ri p w wd T k (A j))(hk:∀j,j<N->(A j).has k=dj){t:Vc}{i:Nat}(L:i<N)(Z:∀c,i<c->c<N->Ord w (A i) (A c))(tz:∀c,c<i->t c=0):
 ri p w wd T k (M0 p A N t i):=by
 refine⟨(J i L).n1,(J i L).le,λr c _ _=>⟨NX _ ⋯,NF _ p0⟩,λj h O c g=>?_⟩;have O:(A i).has (zZ w j)=dj:=O;show app (T j) (wd<|zZ w j) (t9 p A N t<|zZ w j) c%p=(if (A i).has (ja w j)=dj then t9 p A N t (ja w j) c else 0)%p;rw[uY];have key:∀I,I<N->t I≠0->((A i).has (ja w j)=dj->(A I).has (ja w j)=dj->(A I).has (zZ w j)=dj)/\((A i).has (ja w j)=dt->(A I).has (zZ w j)=dj->(A I).has (ja w j)=dt):=λI U d=>by
  have x:=q5.mp<|hk i L;have y:=q5.mp<|hk I U;have Y:i<=I:=Nat.not_lt.mp λz=>d<|tz I z;rcases Nat.lt_or_eq_of_le Y with Y|Y
  ·obtain⟨o,u⟩:=Z I Y U
   have O:=q5.mp O;cases hw:w j with
   | false=>
    have b:zZ w j=j:=by unfold zZ;rw[hw];rfl
    have e:ja w j=j+1:=by unfold ja;rw[hw];rfl
    rw[b]at O;rw[b,e];refine⟨λ_ q=>q5.mpr ?_,λq _=>?_⟩
    ·have q:=q5.mp q
     refine⟨Nat.not_lt.mp λz=>?_,by omega⟩;have f:(A I).s=j+1:=by omega
     have:=o ⋯;rw[f]at this;simp[hw]at this
    ·exfalso
     have:(A i).has (j+1)=dj:=q5.mpr ⋯;rw[this]at q;cases q
   | true=>
    have b:zZ w j=j+1:=by unfold zZ;rw[hw];rfl
    have e:ja w j=j:=by unfold ja;rw[hw];rfl
    rw[b]at O;rw[b,e];refine⟨λ_ q=>q5.mpr ?_,λq _=>?_⟩
    ·have q:=q5.mp q
     omega
    ·cases a:(A I).has j with
     |false=>rfl
     | true=>
      exfalso;have a:=q5.mp a;have f:(A i).s=j+1:=by
       have:¬((A i).s<=j):=λz=>by have:(A i).has j=dj:=q5.mpr ⋯;rw[this]at q;cases q
       omega
      have:=u ⋯;rw[f]at this;simp[hw]at this
  ·subst Y
   exact⟨λ_ _=>O,λq _=>q⟩
 have l:zm (λI=>t I*(if (A I).has (zZ w j)=dj then app (T j) (wd<|zZ w j) ((A I).v (zZ w j)) c else 0)) N%p
  = zm (λI=>if (A i).has (ja w j)=dj then (if (A I).has (ja w j)=dj then t I*(A I).v (ja w j) c else 0)else 0) N%p:=zS λI U=>by
  by_cases d:t I=0
  ·simp[d]
  obtain⟨m,n⟩:=key I U d;cases a:(A i).has (ja w j)with
  | false=>
   cases hy:(A I).has (zZ w j)with
   |false=>simp
   |true=>
    have q:=(J I U).arr j h hy c g;rw[n a hy]at q;simp only[if_true];rw[MS,q];simp
  | true=>
   cases hy:(A I).has (zZ w j)with
   |false=>
    cases hz:(A I).has (ja w j)with
    |false=>simp
    |true=>rw[m a hz]at hy;cases hy
   |true=>
    have q:=(J I U).arr j h hy c g;simp only[if_true];rw[MS,q,<-MS];congr 1;cases hz:(A I).has (ja w j)<;>simp
 rw[l];cases a:(A i).has (ja w j)with
 |false=>simp[zU]
 |true=>
  simp only[if_true];unfold t9;rw[NM]
theorem nc{G':Vc->Prop}{r n:Nat}{A':Nat->g9}(t:Nat->Vc)(J:∀i,i<N->t i i=1)(hz:∀i c,i<N->c<i->t i c=0)
 (L:∀i,i<N->(A i).has r=dj->Span p n G' ((A' i).v r)) (Z:∀i,i<N->(A i).has r=dj->∀c,c<n->(A' i).v r c%p=t9 p A N (t i) r c%p):
 ∀i,i<N->(A i).has r=dj->Span p n G' ((A i).v r):=by
 have key:∀d i,N-i<=d->i<N->(A i).has r=dj->Span p n G' ((A i).v r):=by
  intro d
  induction d with
  |zero=>intro i e a;omega
  | succ d u=>
   intro i e a O;have s:Span p n G' λc=>zm (λj=>(if j=i then 0 else if (A j).has r=dj then t i j else 0)*(A j).v r c) N:=by
    have gen:∀M,M<=N->Span p n G' λc=>zm (λj=>(if j=i then 0 else if (A j).has r=dj then t i j else 0)*(A j).v r c) M:=by
     intro M
     induction M with
     |zero=>intro _;exact .zero λc _=>by simp[zm]
     | succ M f=>
      intro w;have q:=f ⋯;by_cases I:M=i\/¬((A M).has r=dj)\/M<i
      ·refine q.congr λc _=>?_
       show(zm _ M+_)%p=_;rcases I with I|I|I
       ·simp[I]
       ·simp[I]
       ·have z:=hz i M a I;simp only[z];simp
      ·have g:M≠i/\(A M).has r=dj/\¬M<i:=by
        refine⟨λz=>I<|.inl z,?_,λz=>I<|.inr<|.inr z⟩;cases b:(A M).has r with
        |true=>rfl
        |false=>exact absurd (.inr<|.inl<|by rw[b];decide) I
       exact((u M ⋯ ⋯ g.2.1).add q (if M=i then 0 else if (A M).has r=dj then t i M else 0)).congr λc _=>rfl
    exact gen N<|MM _
   have m:=s.add (L i a O) (-1);refine m.congr λc I=>?_;have h:zm (λj=>if (A j).has r=dj then t i j*(A j).v r c else 0) N=(A i).v r c+zm (λj=>(if j=i then 0 else if (A j).has r=dj then t i j else 0)*(A j).v r c) N:=by
    have l:(A i).v r c=zm (λj=>if j=i then (A i).v r c else 0) N:=by rw[z6 a λk _ o=>by simp[o]];simp
    rw[l,<-qz];refine zA λj x=>?_;by_cases Y:j=i
    ·subst Y;simp[O,J j a]
    ·simp only[UY Y]
     by_cases b:(A j).has r=dj
     ·simp[b]
     ·simp[b]
   have U:=Z i a O c I;unfold t9 at U;rw[NM,h]at U;rw[Ot,U,<-Ot];congr 1;omega
 exact λi e a=>key N i ⋯ e a
end
section
variable{p:Int}{n m N h r r2 q:Nat}{B B2 K:Nat->Vc}{l l2 lK:UX}{M f:UV}
theorem Yy(I:Span p n (eL m U) v):∃t:Vc,∀i,i<n->v i%p=zm (λj=>t j*U j i) m%p:=by
 induction I with
 |zero h=>exact⟨λ_=>0,λi a=>by rw[h i a];simp[zU]⟩
 |@step v w g c O r Y o=>
  obtain⟨t,l⟩:=o;obtain⟨k,d,rfl⟩:=O;refine⟨λj=>t j+if j=k then c else 0,λi a=>?_⟩;rw[Y i a,Ot,l i a,<-Ot];congr 1;have e:zm (λj=>(t j+if j=k then c else 0)*U j i) m=zm (λj=>t j*U j i) m+zm (λj=>(if j=k then c else 0)*U j i) m:=by rw[<-qz];exact zA λj _=>Int.add_mul ..
  rw[e,z6 (f:=λj=>(if j=k then c else 0)*U j i) d λj _ b=>by simp[b]];simp
theorem xJ(a b:Nat->Int)(n:Nat):zm (λj=>a j*b j) n=zm (λj=>b j*a j) n:=zA λj _=>Oz ..
theorem DB:Span p h (eL N λj i=>M i j) u ↔ ∃x:Vc,∀i,i<h->u i%p=app M N x i%p:=by
 constructor
 ·intro q
  obtain⟨t,I⟩:=Yy q;exact⟨t,λi a=>by rw[I i a];unfold app;rw[xJ]⟩
 ·rintro⟨x,b⟩
  refine(Span.sum (u:=λj i=>M i j) x (m:=N) λj O=>.gen ⟨j,O,rfl⟩).congr λi a=>?_;rw[b i a];unfold app;rw[xJ]
theorem Vi(n:Nat)(v:Vc):Span p n (eL n jX) v:=by refine(Span.sum (u:=jX) v (m:=n) λj I=>.gen ⟨j,I,rfl⟩).congr λi a=>?_;rw[z6 (f:=λk=>v k*jX k i) a λk _ O=>by simp[jX,O]];simp[jX]
theorem J5(I:Pr p)(z:N<=16)(hs:∀v:Vc,∃t,∀i,i<N->v i%p=app f N t i%p)(U:∀i,i<N->app f N t i%p=0):∀j,j<N->t j%p=0:=by
 obtain⟨q,K,l,s,_,m,O,Y,g⟩:=yQ I (h:=N) (w:=N) ⋯ ⋯ f;have a:Rk p N N (λj i=>f i j) N:=⟨jX,id,WM I N,λv=>⟨λ_=>DB.mpr<|hs v,λ_=>Vi N v⟩⟩;have:=vW I Y a;have e:q=0:=by omega
 subst e;have:=(O t).mpr λi d=>by have:=U i d;unfold app at this;exact this
 cases this with
 |zero h=>exact h
 |step b _ _=>obtain⟨k,O,_⟩:=b;omega
def Xf(r:Nat)(B:Nat->Vc)(l:UX)(t:Vc):Vc:=λi=>t i-zm (λj=>t (l j)*B j i) r
theorem XA(O:i3 p N r B l)(t:Vc)(I:j<r):Xf r B l t (l j)=0:=by unfold Xf;rw[z6 (f:=λU=>t (l U)*B U (l j)) I λk Y a=>by rw[O.wh k j Y I (NH a)];simp];rw[O.one j I];omega
theorem aA(t:Vc):Span p N (eL r B) λi=>zm (λj=>t (l j)*B j i) r:=Span.sum (u:=B) (λj=>t<|l j) λj I=>.gen ⟨j,I,rfl⟩
theorem uu(I:i3 p N r B l)(h:Span p N (eL r B) t)(hz:∀j,j<r->t (l j)%p=0):∀i,i<N->t i%p=0:=λi a=>by
 rw[Jb I h i a];have e:zm (λk=>t (l k)*B k i) r%p=zm (λ_=>0) r%p:=zS λk O=>by rw[MS,hz k O];simp
 rw[e,zU];simp
theorem WL(I:Pr p)(O:i3 p N r B l)(z:i<N)(hn:∀j,j<r->l j≠i):¬Span p N (eL r B) (jX i):=λh=>by have:=uu O h (λj U=>by unfold jX;rw[UY (NH<|hn j U)];simp) i z;unfold jX at this;rw[UJ rfl,I.one]at this;omega
theorem QI(g:UV)(w:Nat)(u v:Vc)(i:Nat):app g w (λj=>u j-v j) i=app g w u i-app g w v i:=by
 have e:app g w u i=app g w (λj=>u j-v j) i+app g w v i:=by unfold app;rw[<-qz];exact zA λj _=>by dsimp only;rw[<-SQ];congr 1;omega
 omega
def VT(M f:UV)(N:Nat):Nat->Nat->Int:=λi j=>zm (λk=>M i k*f k j) N
theorem Ju(t:Vc)(i:Nat):app (VT M f N) N t i=app M N (app f N t) i:=by
 unfold app VT;have e:zm (λj=>zm (λk=>M i k*f k j) N*t j) N=zm (λj=>zm (λk=>M i k*(f k j*t j)) N) N:=zA λj _=>by rw[<-kx];exact zA λk _=>PD ..
 rw[e,ql];exact zA λk _=>jD ..
theorem AK(J:Pr p)(hN:N<=16)(hh:h<=16)(hs:∀v:Vc,∃t,∀i,i<N->v i%p=app f N t i%p)(L:i3 p N r B l)(Y:∀t,Span p N (eL r B) t↔A8 p h N M (app f N t))
 (Z:i3 p h r2 B2 l2) (hI:∀v,Span p h (eL r2 B2) v↔Span p h (eL N λj i=>M i j) v):
 (∀j,j<r->∀i,i<h->app M N (app f N<|B j) i%p=0)/\(∀c,c<N->(∀j,j<r->l j≠c)->∃i,i<h/\app M N (λa=>f a c) i%p≠0)/\r+r2=N/\
   ∀U:Vc->Prop,(∀c,c<N->(∀j,j<r->l j≠c)->Span p h U (app M N λa=>f a c))->(∀c,c<h->(∀j,j<r2->l2 j≠c)->Span p h U (jX c))->∀v,Span p h U v:=by
 have k:∀t:Vc,A8 p h N M (app f N t) ↔ ∀i,i<h->app M N (app f N t) i%p=0:=λt=>Iff.rfl;have s:∀(c:Nat),c<N->∀i,app M N (λa=>f a c) i%p=app M N (app f N<|jX c) i%p:=λc I i=>xB (λa _=>by rw[wZ f I]) i;refine⟨λj O=>(k _).mp ((Y<|B j).mp (.gen ⟨j,O,rfl⟩)),λc I Q=>?_,?_,λU G H v=>?_⟩
 ·refine Of λz=>WL J L I Q ((Y _).mpr ((k _).mpr λi b=>?_))
  rw[<-s c I i];exact Of λy=>z ⟨i,b,y⟩
 ·obtain⟨T,K',l',W,_,A,o,C,bd⟩:=yQ J (h:=h) (w:=N) ⋯ ⋯ (VT M f N)
  have e1:T=r:=(QG J A L (λv m=>(Y v).mpr λi b=>by
   have:=(o v).mp m i b;rw[show zm (λj=>VT M f N i j*v j) N=app (VT M f N) N v i from rfl,Ju]at this;exact this) λv m=>(o v).mpr λi b=>by
   have:=(Y v).mp m i b;rw[show zm (λj=>VT M f N i j*v j) N=app (VT M f N) N v i from rfl,Ju];exact this).1
  have e2:W=r2:=by
   refine vW J C ⟨B2,l2,Z,λv=>(hI v).trans ⟨λz=>?_,λz=>?_⟩⟩
   ·obtain⟨x,n⟩:=DB.mp z
    obtain⟨t,d⟩:=hs x;refine DB.mpr ⟨t,λi b=>?_⟩;rw[n i b,Ju];exact xB d i
   ·obtain⟨t,d⟩:=DB.mp z
    exact DB.mpr ⟨app f N t,λi b=>by rw[d i b,Ju]⟩
  omega
 ·
  have im:∀t:Vc,Span p h U (app M N<|app f N t):=λt=>by
   have S:=(k _).mp ((Y _).mp (aA (p:=p) (N:=N) (B:=B) (r:=r) (l:=l) t));have e:∀i,i<h->app M N (app f N t) i%p=app M N (app f N<|Xf r B l t) i%p:=λi b=>by
    have E:app M N (app f N<|Xf r B l t) i=app M N (app f N t) i-app M N (app f N λi=>zm (λj=>t (l j)*B j i) r) i:=by rw[<-QI];congr 1;funext a;exact QI ..
    rw[E,Pa,S i b];simp
   refine Span.congr ?_ e;have F:∀i,app M N (app f N<|Xf r B l t) i=zm (λc=>Xf r B l t c*app M N (λa=>f a c) i) N:=λi=>by rw[<-vo];congr 1;funext a;unfold app;exact xJ ..
   have X:∀K,K<=N->Span p h U λi=>zm (λc=>Xf r B l t c*app M N (λa=>f a c) i) K:=by
    intro K
    induction K with
    |zero=>intro _;exact .zero λi _=>by simp[zm]
    | succ K g=>
     intro P;by_cases I:∃j,j<r/\l j=K
     ·obtain⟨j,O,rfl⟩:=I
      refine(g ⋯).congr λi _=>?_;show(zm _ (l j)+_)%p=_;have z:=XA L t O;simp only[z];simp
     ·exact((G K ⋯ λj O z=>I ⟨j,O,z⟩).add (g ⋯) _).congr λi _=>rfl
   exact(X N<|MM _).congr λi _=>by rw[F]
  have as:∀u,Span p h (eL r2 B2) u->Span p h U u:=λu R=>by obtain⟨x,n⟩:=DB.mp<|(hI u).mp R;obtain⟨t,d⟩:=hs x;exact(im t).congr λi b=>by rw[n i b];exact xB d i
  have s2:∀K,K<=h->Span p h U λi=>zm (λc=>Xf r2 B2 l2 v c*jX c i) K:=by
   intro K
   induction K with
   |zero=>intro _;exact .zero λi _=>by simp[zm]
   | succ K g=>
    intro P;by_cases I:∃j,j<r2/\l2 j=K
    ·obtain⟨j,O,rfl⟩:=I
     refine(g ⋯).congr λi _=>?_;show(zm _ (l2 j)+_)%p=_;have z:=XA Z v O;simp only[z];simp
    ·exact((H K ⋯ λj O z=>I ⟨j,O,z⟩).add (g ⋯) _).congr λi _=>rfl
  refine((as _<|aA (B:=B2) (r:=r2) (l:=l2) v).add (s2 h<|MM _) 1).congr λi b=>?_;congr 1;rw[z6 (f:=λc=>Xf r2 B2 l2 v c*jX c i) b λc _ I=>by simp[jX,I]];simp only[jX,if_true,Xf];omega
theorem AL(O:Pr p)(hN:N<=16)(hh:h<=16)(hs:∀v:Vc,∃t,∀i,i<N->v i%p=app f N t i%p)(L:i3 p N r B l)(Z:∀t,Span p N (eL r B) t↔Span p N (eL h λj i=>M i j) (app f N t))
 (hk:∀v,Span p h (eL q K) v↔A8 p N h M v) (hr:Rk p N h (λj i=>M i j) s) (bn:q+s=h):
 (∀j,j<r->∃y:Vc,∀i,i<N->app M h y i%p=app f N (B j) i%p)/\(∀c,c<N->(∀j,j<r->l j≠c)->¬∃y:Vc,∀i,i<N->app M h y i%p=f i c%p)/\r+q=h/\
   ∀(J:Vc->Prop) (x:Nat->Vc),(∀j,j<r->Span p h J (x j)/\∀i,i<N->app M h (x j) i%p=app f N (B j) i%p)->(∀j,j<q->Span p h J (K j))->∀v,Span p h J v:=by
 have o:∀t,Span p N (eL r B) t ↔ ∃y:Vc,∀i,i<N->app f N t i%p=app M h y i%p:=λt=>(Z t).trans DB;have inj:∀{t:Vc},(∀i,i<N->app f N t i%p=0)->∀j,j<N->t j%p=0:=λY=>J5 O hN hs Y;refine⟨λj I=>?_,λc T hn z=>?_,?_,λJ x R h2 v=>?_⟩
 ·obtain⟨y,d⟩:=(o<|B j).mp (.gen ⟨j,I,rfl⟩)
  exact⟨y,λi b=>(d i b).symm⟩
 ·obtain⟨y,d⟩:=z
  exact WL O L T hn<|(o _).mpr ⟨y,λi b=>by rw[wZ f T,d i b]⟩
 ·have P:s<=16/\r<=16:=by
   obtain⟨E,br,b0⟩:=sG O (n:=N) (m:=h) ⋯ hh λj i=>M i j;refine⟨by rw[vW O hr b0];omega,?_⟩;have:∀A,A<=r->A<=N:=by
    intro A;have mono:∀k,k<r->k<=l k:=by
     intro k
     induction k with
     |zero=>intro _;omega
     |succ k ih=>intro hk;have:=ih ⋯;have:=L.mono k (k+1) ⋯ hk;omega
    intro bu;cases A with
    |zero=>omega
    |succ Q=>have:=mono Q ⋯;have:=L.lt Q ⋯;omega
   have:=this r<|MM _;omega
  have bv:s<=r:=by
   obtain⟨E,a1,F⟩:=sG O (n:=N) (m:=r) ⋯ P.2 λj=>app f N<|B j;have e:s=E:=by
    obtain⟨C,lC,H,w⟩:=hr;refine vW O (m:=h) (W:=λj i=>M i j) ⟨C,lC,H,w⟩ ?_;obtain⟨X,be,bf,bg⟩:=F;refine⟨X,be,bf,λv=>(bg v).trans ⟨λz=>?_,λz=>?_⟩⟩
    ·exact z.le λg U=>by obtain⟨j,I,rfl⟩:=U;exact(Z<|B j).mp (.gen ⟨j,I,rfl⟩)
    ·obtain⟨y,d⟩:=DB.mp z
     obtain⟨t,Y⟩:=hs v;have G:Span p N (eL r B) t:=(o t).mpr ⟨y,λi b=>by rw[<-Y i b,d i b]⟩;refine(Span.sum (u:=λj=>app f N<|B j) (λj=>t<|l j) (m:=r) λj I=>.gen ⟨j,I,rfl⟩).congr λi b=>?_;rw[Y i b,<-vo];exact xB (λj I=>Jb L G j I) i
   omega
  have c0:r<=s:=by
   obtain⟨C,lC,H,w⟩:=hr;have ex:∀j,∃t:Vc,∀i,i<N->C j i%p=app f N t i%p:=λj=>hs<|C j;have g:Nat->Vc:=λj=>Classical.choose<|ex j;have U:∃g:Nat->Vc,∀j i,i<N->C j i%p=app f N (g j) i%p:=⟨λj=>Classical.choose<|ex j,λj=>Classical.choose_spec<|ex j⟩;obtain⟨g,U⟩:=U;obtain⟨E,a1,F⟩:=sG O (n:=N) (m:=s) ⋯ P.1 g;have e:r=E:=by
    refine vW O (m:=s) (W:=g) ⟨B,l,L,λv=>⟨λz=>?_,λz=>?_⟩⟩ F
    ·have hv:=(w _).mpr ((Z v).mp z)
     refine(Span.sum (u:=g) (λj=>app f N v<|lC j) (m:=s) λj I=>.gen ⟨j,I,rfl⟩).congr λi b=>?_;have z0:∀a,a<N->app f N (λi=>v i-zm (λj=>app f N v (lC j)*g j i) s) a%p=0:=λa S=>by
      rw[QI,vo,Pa,Jb H hv a S];have e:zm (λk=>app f N v (lC k)*C k a) s%p=zm (λk=>app f N v (lC k)*app f N (g k) a) s%p:=zS λk _=>by rw[MS,U k a S,<-MS]
      rw[e];simp
     have:=inj z0 i b;have q2:=Pu;exact(Pu _<|Te p).symm.trans (by
      rw[NM];have:(v i-zm (λj=>app f N v (lC j)*g j i) s)%p=0:=this;exact OT.mpr this)
    ·refine z.le λu hu=>?_
     obtain⟨j,I,rfl⟩:=hu;refine(Z _).mpr (((w<|C j).mp (.gen ⟨j,I,rfl⟩)).congr λi b=>(U j i b).symm)
   omega
  omega
 ·obtain⟨t,Y⟩:=hs (app M h v)
  have G:Span p N (eL r B) t:=(o t).mpr ⟨v,λi b=>(Y i b).symm⟩;have hx:Span p h J λc=>zm (λj=>t (l j)*x j c) r:=Span.sum (u:=x) (λj=>t<|l j) λj I=>(R j I).1;have hd:Span p h J λc=>v c-zm (λj=>t (l j)*x j c) r:=by
   refine((hk _).mpr λi b=>?_).le λg U=>by obtain⟨j,I,rfl⟩:=U;exact h2 j I
   show app M h (λc=>v c-zm (λj=>t (l j)*x j c) r) i%p=0;rw[QI,vo,Pa];have e:zm (λj=>t (l j)*app M h (x j) i) r%p=app M h v i%p:=by rw[Y i b,xB (λj I=>Jb L G j I) i,vo];exact zS λj I=>by rw[MS,(R j I).2 i b,<-MS]
   rw[e];simp
  refine(hx.add hd 1).congr λc _=>?_;congr 1;omega
end
structure Ds(p:Int)(w:UK)(wd:UX)(T:UW)(k:Nat)(o9:List g9):Prop where
 ok:∀b,b∈o9->ri p w wd T k b
 sp:∀r,r<=k->∀v,Span p (wd r) (Lu o9 r) v
 ct:∀r,r<=k->o9.countP (λb=>b.has r)=wd r
 od:(o9.filter λb=>b.has k).Pairwise (Ord w)
def o4(r:Nat)(l:UX)(i:Nat):Option Nat:=(ME r).find? λj=>l j==i
theorem xT(h:o4 r l i=da j):j<r/\l j=i:=by have a:=List.find?_some h;have b:=List.mem_of_find?_eq_some h;exact⟨MG.mp b,by simpa using a⟩
theorem Jk(h:o4 r l i=none):∀j,j<r->l j≠i:=λj I=>by have:=TQ.mp h j<|MG.mpr I;simpa using this
noncomputable def i5(p:Int)(A:Nat->g9)(N r:Nat)(B:Nat->Vc)(l:UX)(i:Nat):g9:=match o4 r l i with
 |some j=>M0 p A N (B j) i
 |none=>A i
noncomputable def ni(k:Nat)(b:g9):Option Vc->g9
 |none=>b
 |some y=>⟨b.s,b.n+1,λr=>if r=k+1 then y else b.v r⟩
def r6(k:Nat)(y:Vc):g9:=⟨k+1,1,λ_=>y⟩
def M8(r:Nat)(B:Nat->Vc)(l:UX)(i:Nat):Vc:=match o4 r l i with
 |some j=>B j
 |none=>jX i
theorem dR(p A N r B l i):(i5 p A N r B l i).s=(A i).s:=by unfold i5;split<;>rfl
theorem AM(p A N r B l i):(i5 p A N r B l i).n=(A i).n:=by unfold i5;split<;>rfl
theorem VM(p A N r B l i rm):(i5 p A N r B l i).has rm=(A i).has rm:=by unfold g9.has;rw[dR,AM]
theorem ZA:(r6 k y).has r=decide (r=k+1):=by
 unfold r6 g9.has;by_cases h:r=k+1
 ·simp[h]
 ·simp[h];intro;omega
section
variable{p:Int}{w:UK}{wd:UX}{T:UW}{k N r:Nat}{A:Nat->g9}{B:Nat->Vc}{l:UX}
theorem oG(I:i3 p N r B l)(z:i<N):M8 r B l i i=1/\∀c,c<i->M8 r B l i c=0:=by
 unfold M8;cases hj:o4 r l i with
 |some j=>
  obtain⟨a,b⟩:=xT hj;subst b;exact⟨I.one j a,λc O=>I.o7 j c a O⟩
 |none=>exact⟨by simp[jX],λc O=>by simp only[jX];rw[UY ⋯]⟩
theorem rZ(z:i<N)(O:(A i).has rm=dj):(i5 p A N r B l i).v rm c%p=t9 p A N (M8 r B l i) rm c%p:=by
 unfold i5 M8;cases I:o4 r l i with
 |some j=>rfl
 |none=>
  show(A i).v rm c%p=_;unfold t9;rw[NM];congr 1;rw[z6 (f:=λj=>if (A j).has rm=dj then jX i j*(A j).v rm c else 0) z λj _ I=>by unfold jX;rw[UY (NH I)];simp];simp[jX,O]
theorem oK(O:0<p)(U:i3 p N r B l)(I:∀j,j<N->ri p w wd T k (A j))(Y:∀j,j<N->(A j).has k=dj)(J:∀i c,i<c->c<N->Ord w (A i) (A c))(z:i<N):ri p w wd T k (i5 p A N r B l i):=by
 unfold i5;split
 ·next j e=>
  obtain⟨a,b⟩:=xT e;subst b;exact Cp O I Y z (λc a b=>J _ c a b) λc d=>U.o7 j c a d
 ·exact I i z
theorem XJ(I:rm<=k)(O:b.s+b.n=k+1):(ni k b o).has rm=b.has rm/\(ni k b o).v rm=b.v rm:=by
 cases o with
 |none=>exact⟨rfl,rfl⟩
 |some y=>
  refine⟨?_,by simp only[ni];rw[UY ⋯]⟩;unfold ni g9.has;simp only;congr 1;exact decide_eq_decide.mpr ⋯
theorem Wh(I:b.s+b.n=k+1):(ni k b o).has (k+1)=o.isSome:=by
 cases o with
 |none=>unfold ni g9.has;simp;omega
 |some y=>unfold ni g9.has;simp;omega
theorem uE(k b o):(ni k b o).s=b.s:=by cases o<;>rfl
theorem Ec(p0:0<p)(U:b.s+b.n=k+1)(z:ri p w wd T k b)(hr:∀y,o=da y->∀c,c<wd (k+1)->0<=y c/\y c<p)
 (J:o=none->w k=dt->∀c,c<wd (k+1)->app (T k) (wd k) (b.v k) c%p=0) (L:∀y,o=da y->w k=dt->∀c,c<wd (k+1)->app (T k) (wd k) (b.v k) c%p=y c%p)
 (Z:∀y,o=da y->w k=dj->∀c,c<wd k->app (T k) (wd<|k+1) y c%p=b.v k c%p):ri p w wd T (k+1) (ni k b o):=by
 have A:=z.n1;refine⟨?_,?_,λY c i I=>?_,λj B f c I=>?_⟩
 ·cases o with
  |none=>exact z.n1
  |some y=>show 1<=b.n+1;omega
 ·cases o with
  |none=>show b.s+b.n<=k+1+1;omega
  |some y=>show b.s+(b.n+1)<=k+1+1;omega
 ·by_cases r:Y<=k
  ·obtain⟨a,O⟩:=XJ (o:=o) r U
   rw[a]at i;rw[O];exact z.n7 Y c i I
  ·have l:=q5.mp i
   cases o with
   |none=>exact absurd l.2 (by show ¬(Y<b.s+b.n);omega)
   |some y=>
    have:Y=k+1:=by have:Y<b.s+(b.n+1):=l.2;omega
    subst this;have e:(ni k b<|some y).v (k+1)=y:=by simp[ni]
    rw[e];exact hr y rfl c I
 ·by_cases h:j<k
  ·have g1:zZ w j<=k:=by unfold zZ;split<;>omega
   have g2:ja w j<=k:=by unfold ja;split<;>omega
   obtain⟨a,O⟩:=XJ (o:=o) g1 U;obtain⟨u,x⟩:=XJ (o:=o) g2 U;rw[a]at f;rw[O,u,x];exact z.arr j h f c I
  ·have h:j=k:=by omega
   subst h;obtain⟨a,O⟩:=XJ (o:=o) (MM j) U;have m:=Wh (k:=j) (o:=o) U;have t:b.has j=dj:=q5.mpr ⋯;cases hw:w j with
   |false=>
    have g:zZ w j=j:=by unfold zZ;rw[hw];rfl
    have d:ja w j=j+1:=by unfold ja;rw[hw];rfl
    rw[d]at I;rw[g,d,O,m];cases o with
    |none=>rw[J rfl hw c I];simp
    |some y=>rw[L y rfl hw c I];simp[ni]
   | true=>
    have g:zZ w j=j+1:=by unfold zZ;rw[hw];rfl
    have d:ja w j=j:=by unfold ja;rw[hw];rfl
    rw[d]at I;rw[g,m]at f;rw[g,d,a,O,t];cases o with
    |none=>cases f
    |some y=>
     have e:(ni j b<|some y).v (j+1)=y:=by simp[ni]
     rw[e,Z y rfl hw c I];simp
theorem Co(J:∀c,c<wd (k+1)->0<=y c/\y c<p)(z:w k=dj->∀c,c<wd k->app (T k) (wd<|k+1) y c%p=0):ri p w wd T (k+1) (r6 k y):=by
 refine⟨MM _,by show k+1+1<=k+1+1;omega,λf c U I=>?_,λj e O c I=>?_⟩
 ·rw[ZA]at U
  have:=of_decide_eq_true U;subst this;exact J c I
 ·rw[ZA]at O
  have O:=of_decide_eq_true O;cases hw:w j with
  |false=>
   have a:zZ w j=j:=by unfold zZ;rw[hw];rfl
   omega
  |true=>
   have a:zZ w j=j+1:=by unfold zZ;rw[hw];rfl
   have Y:ja w j=j:=by unfold ja;rw[hw];rfl
   have b:j=k:=by omega
   subst b;rw[Y]at I;have d:(r6 j y).has (ja w j)=dt:=by rw[ZA,Y];simp
   rw[d,a];show app (T j) (wd<|j+1) y c%p=_;rw[z hw c I];simp
noncomputable def vQ(p:Int)(k:Nat)(w:UK)(z:List g9)(A:Nat->g9)(N r:Nat)(B:Nat->Vc)(l:UX)(nx:Nat->Option Vc)(I:List Vc):List g9:=
 (z.filter λb=> !b.has k)++(if w k then (ME N).map (λi=>ni k (i5 p A N r B l i)<|nx i)++I.map (r6 k)else I.map (r6 k)++(ME N).map λi=>ni k (i5 p A N r B l i)<|nx i)
theorem gO(p0:0<p)(I:Ds p w wd T k o9)(hN:(o9.filter λb=>b.has k).length=N)(Y:∀j,A j=(o9.filter λb=>b.has k).getD j iY)(O:i3 p N r B l)
 (c1 : ∀i y,i<N->nx i=da y->∀c,c<wd (k+1)->0<=y c/\y c<p) (c2 : ∀y,y∈news->∀c,c<wd (k+1)->0<=y c/\y c<p)
   (d0:∀i,i<N->nx i=none->w k=dt->∀c,c<wd (k+1)->app (T k) (wd k) ((i5 p A N r B l i).v k) c%p=0)
   (d1:∀i y,i<N->nx i=da y->w k=dt->∀c,c<wd (k+1)->app (T k) (wd k) ((i5 p A N r B l i).v k) c%p=y c%p)
   (d2:∀i y,i<N->nx i=da y->w k=dj->∀c,c<wd k->app (T k) (wd<|k+1) y c%p=(i5 p A N r B l i).v k c%p)
   (d3:∀y,y∈news->w k=dj->∀c,c<wd k->app (T k) (wd<|k+1) y c%p=0)
   (s1:∀v,Span p (wd<|k+1) (λg=>(∃i,i<N/\nx i=da g)\/g∈news) v) (n1:(ME N).countP (λi=>(nx i).isSome)+news.length=wd (k+1)):
   Ds p w wd T (k+1) (vQ p k w o9 A N r B l nx news):=by
  have G:∀j,j<N->A j∈o9/\(A j).has k=dj:=λj E=>by
   have:A j∈o9.filter λb=>b.has k:=by rw[Y j,MK,MH ⋯];exact OI _
   have:=Nl.mp this;exact⟨this.1,by simpa using this.2⟩
  have W:∀j,j<N->ri p w wd T k (A j):=λj E=>I.ok _ (G j E).1;have Z:∀i c,i<c->c<N->Ord w (A i) (A c):=λi c m u=>by have:=Pj.mp I.od i c ⋯ ⋯ m;rw[Y i,Y c,MK,MH ⋯,MK,MH ⋯];exact this
  have kr:∀i,i<N->ri p w wd T k (i5 p A N r B l i):=λi d=>oK p0 O W (λj E=>(G j E).2) Z d;have a2:∀i,i<N->(i5 p A N r B l i).s+(i5 p A N r B l i).n=k+1:=λi d=>by rw[dR,AM];have m:=q5.mp (G i d).2;have u:=(W i d).le;omega
  have H:∀b,b∈o9->b.has k=dt->b.s+b.n<=k:=λb O R=>by have m:=(I.ok b O).le;have u:=(I.ok b O).n1;refine Nat.not_lt.mp λz=>?_;have:b.has k=dj:=q5.mpr ⋯;rw[this]at R;cases R
  have x:∀b,b∈vQ p k w o9 A N r B l nx news↔(b∈o9/\b.has k=dt)\/(∃i,i<N/\b=ni k (i5 p A N r B l i) (nx i))\/∃y,y∈news/\b=r6 k y:=λb=>by
   unfold vQ;rw[RZ,Nl];refine or_congr ⋯ ?_;cases w k<;>simp only[NV,if_false,if_true,RZ,Ny,MG]
   ·constructor
    ·rintro(⟨y,m,u⟩|⟨i,m,u⟩)
     ·exact .inr ⟨y,m,u.symm⟩
     ·exact .inl ⟨i,m,u.symm⟩
    ·rintro(⟨i,m,u⟩|⟨y,m,u⟩)
     ·exact .inr ⟨i,m,u.symm⟩
     ·exact .inl ⟨y,m,u.symm⟩
   ·constructor
    ·rintro(⟨i,m,u⟩|⟨y,m,u⟩)
     ·exact .inl ⟨i,m,u.symm⟩
     ·exact .inr ⟨y,m,u.symm⟩
    ·rintro(⟨i,m,u⟩|⟨y,m,u⟩)
     ·exact .inl ⟨i,m,u.symm⟩
     ·exact .inr ⟨y,m,u.symm⟩
  have cnt:∀P:g9->Bool,(vQ p k w o9 A N r B l nx news).countP P=(o9.filter λb=> !b.has k).countP P+(ME N).countP (λi=>P<|ni k (i5 p A N r B l i)<|nx i)+(news.map<|r6 k).countP P:=λP=>by
   unfold vQ;rw[List.countP_append];cases w k<;>simp only[NV,if_false,if_true,List.countP_append,SY (f:=λi=>ni k (i5 p A N r B l i)<|nx i)]
   ·rw[Ua,Uk (List.countP P<|List.map (r6 k) news)];rfl
   ·rw[Ua];rfl
  refine⟨λb bi=>?_,λU hr v=>?_,λU hr=>?_,?_⟩
  ·rcases (x b).mp bi with⟨m,u⟩|⟨i,d,rfl⟩|⟨y,hy,rfl⟩
   ·have R:=H b m u
    have S:=I.ok b m;refine⟨S.n1,by omega,S.n7,λj E X c M=>?_⟩;have bu:=q5.mp X;refine S.arr j ?_ X c M;have:zZ w j>=j:=by unfold zZ;split<;>omega
    omega
   ·exact Ec p0 (a2 i d) (kr i d) (λy e=>c1 i y d e) (λe=>d0 i d e) (λy e=>d1 i y d e) λy e=>d2 i y d e
   ·exact Co (c2 y hy)<|d3 y hy
  ·by_cases C:U<=k
   ·refine(I.sp U C v).le λg hg=>?_
    obtain⟨b,m,u,rfl⟩:=hg;cases V':b.has k with
    |false=>exact .gen ⟨b,(x b).mpr (.inl ⟨m,V'⟩),u,rfl⟩
    |true=>
     have bm:b∈o9.filter λb=>b.has k:=Nl.mpr ⟨m,by simpa using V'⟩;obtain⟨i,d,e⟩:=Tt bm;have ei:A i=b:=by rw[Y i,MK,MH d];exact e
     rw[<-ei]at u ⊢;refine nc (A:=A) (A':=λi=>i5 p A N r B l i) (t:=λi=>M8 r B l i) (λi d=>(oG O d).1) (λi c d M=>(oG O d).2 c M) (λi d Q=>?_) (λi d Q c _=>rZ d Q) i ⋯ u;obtain⟨x1,x2⟩:=XJ (o:=nx i) C<|a2 i d;exact .gen ⟨_,(x _).mpr (.inr<|.inl ⟨i,d,rfl⟩),by rw[x1,VM];exact Q,by rw[x2]⟩
   ·have:U=k+1:=by omega
    subst this;refine(s1 v).le λg hg=>?_;rcases hg with⟨i,d,e⟩|hg
    ·refine .gen ⟨_,(x _).mpr (.inr<|.inl ⟨i,d,rfl⟩),?_,?_⟩
     ·rw[Wh (a2 i d),e];rfl
     ·rw[e];simp[ni]
    ·exact .gen ⟨_,(x _).mpr (.inr<|.inr ⟨g,hg,rfl⟩),by rw[ZA];simp,rfl⟩
  ·rw[cnt]
   by_cases C:U<=k
   ·have K:(news.map<|r6 k).countP (λb=>b.has U)=0:=List.countP_eq_zero.mpr λb O=>by
     obtain⟨y,_,rfl⟩:=Ny.mp O;rw[ZA];simp;omega
    have L:(ME N).countP (λi=>(ni k (i5 p A N r B l i)<|nx i).has U)=(o9.filter λb=>b.has k).countP λb=>b.has U:=by
     have:(o9.filter λb=>b.has k)=(ME N).map A:=by rw[<-jG iY (o9.filter λb=>b.has k),hN];exact Ni λj _=>(Y j).symm
     rw[this,SY];refine Pq λi d=>?_;have d:=MG.mp d;rw[(XJ (o:=nx i) C<|a2 i d).1,VM];rfl
    rw[K,L,<-I.ct U C,List.countP_eq_countP_filter_add o9 (λb=>b.has U) λb=>b.has k];omega
   ·have:U=k+1:=by omega
    subst this;have J:(o9.filter λb=> !b.has k).countP (λb=>b.has<|k+1)=0:=List.countP_eq_zero.mpr λb O=>by obtain⟨m,u⟩:=Nl.mp O;have:=H b m (by simpa using u);intro z;have:=q5.mp z;omega
    have K:(news.map<|r6 k).countP (λb=>b.has<|k+1)=news.length:=by rw[List.countP_eq_length.mpr λb O=>?_,Nf];obtain⟨y,_,rfl⟩:=Ny.mp O;rw[ZA];simp
    have L:(ME N).countP (λi=>(ni k (i5 p A N r B l i)<|nx i).has (k+1))=(ME N).countP λi=>(nx i).isSome:=Pq λi d=>by rw[Wh (a2 i<|MG.mp d)]
    rw[J,K,L];omega
  ·have J:((o9.filter λb=> !b.has k).filter λb=>b.has<|k+1)=[]:=List.filter_eq_nil_iff.mpr λb O=>by
    obtain⟨m,u⟩:=Nl.mp O;have:=H b m (by simpa using u);intro z;have:=q5.mp z;omega
   have pO:((ME N).map λi=>ni k (i5 p A N r B l i)<|nx i).Pairwise (Ord w):=by rw[RE];refine RP (λ{a b} F O h=>?_)<|RD (n:=N);have:=Z a b h<|MG.mp O;unfold Ord;rw[uE,uE,dR,dR];exact this
   have pN:(news.map<|r6 k).Pairwise (Ord w):=by
    rw[RE];refine Pj.mpr λ_ _ _ _ _=>⟨λz=>?_,λz=>?_⟩
    ·exact absurd z<|NP<|k+1
    ·exact absurd z<|NP<|k+1
   have so:∀b,b∈(ME N).map (λi=>ni k (i5 p A N r B l i)<|nx i)->b.s<=k:=λb O=>by obtain⟨i,d,rfl⟩:=Ny.mp O;have d:=MG.mp d;rw[uE,dR];exact(q5.mp (G i d).2).1
   have sn:∀b,b∈news.map (r6 k)->b.s=k+1:=λb O=>by obtain⟨y,_,rfl⟩:=Ny.mp O;rfl
   unfold vQ;rw[Rp,J,Rn];refine SE _ ?_;cases hw:w k with
   |false=>
    simp only[NV,if_false];refine List.pairwise_append.mpr ⟨pN,pO,λa F b O=>?_⟩;have m:=sn a F;have u:=so b O;exact⟨λz=>by omega,λ_=>by rw[m];exact hw⟩
   |true=>
    simp only[if_true];refine List.pairwise_append.mpr ⟨pO,pN,λa F b O=>?_⟩;have m:=sn b O;have u:=so a F;exact⟨λ_=>by rw[m];exact hw,λz=>by omega⟩
end
theorem X0(I:Pr p)(O:h<=100)(z:w<=lim)(f:UV):
 ∃r B l,ZL [.int p,jZ h w f]=da (.own<|zX r h B)/\i3 p h r B l/\∀v,Span p h (eL r B) v↔Span p h (eL w λj i=>f i j) v:=by
 obtain⟨r,B,l,e,U,a⟩:=k9 I O z .T λj i=>f i j;have Y:=jl;refine⟨r,B,l,?_,U,a⟩;simp only[t5]at e;have o:=yz f (show h<=lim by omega) z;unfold jZ at o ⊢;simp[ZL,jk,z9,o,e]
theorem Vk(P:Nat->Ctx->Prop):∀(ds es:List D) (k:Nat) (γ:Ctx),P k γ->(∀i d γ,ds[i]? = da d->P (k+i) γ->∃γ',(km T d γ).bind F=da (.next γ')/\P (k+i+1) γ')->
 ∃γ',P (k+ds.length) γ'/\kX T F (ds++es) γ=kX T F es γ'
 |[],es,k,γ,h,_=>⟨γ,h,rfl⟩
 | d::ds,es,k,γ,h,step=>by
  obtain⟨a,e,f⟩:=step 0 d γ rfl h;obtain⟨γ',g,I⟩:=Vk P ds es (k+1) a (by simpa using f) (λi b O j U=>by have:=step (i+1) b O (by simpa using j) (by rw[show k+(i+1)=k+1+i by omega];exact U);rw[show k+(i+1)+1=k+1+i+1 by omega]at this;exact this)
  refine⟨γ',by rw[show k+(d::ds).length=k+1+ds.length by simp;omega];exact g,?_⟩;rw[Ul,qW];cases eb:km T d γ with
  |none=>rw[eb]at e;simp at e
  |some Y=>
   rw[eb]at e;simp only[MJ]at e ⊢;rw[e];exact I
theorem aM(n:Nat)(v:Vc):xy (zG n v)=(ME n).map λ(i:Nat)=>D.tup [.int i,.int (v i)]:=by unfold xy;rw[k4];refine Ni λi a=>?_;have:=MG.mp a;simp[zG,this]
theorem vy(Z:n<=lim)(v:Vc)(Y:a<n)(L:∀i,i<a->v i=0)(J:v a≠0):qK [.tup (zG n v)]=da (.val<|.int a):=by
 have key:zY (.tp [0,1]) (sB<|zH my (zc 1)<|zu<|.int 0) (zc 0) [Cell.no,Cell.no] ((ME n).map λ(i:Nat)=>D.tup [.int i,.int (v i)])=da (((ME n).filter λi=> !decide (v i=0)).map λ(i:Nat)=>D.int i):=by refine jw _ _ _ λi d=>⟨_,rfl,?_,λ_=>rfl⟩;simp
 cases hf:(ME n).filter λi=> !decide (v i=0)with
 |nil=>exact absurd (by have:=fT hf a Y;simpa using this) J
 | cons b yS=>
  obtain⟨U,I,O⟩:=Vn hf;have e:b=a:=by
   rcases RG a b with z|z|z
   ·exact absurd (by have:=O a z;simpa using this) J
   ·exact z.symm
   ·exact absurd (L b z) (by simpa using I)
  subst e;rw[hf]at key;simp[qK,jk,z9,aM,Z,jo,MI,key]
theorem cR(L:a<n)(v I:Vc)(x:Int)(z:I a=x)(J:∀i,i<n->i≠a->I i=v i):(zG n v).set a (.int x)=zG n I:=by
 apply List.ext_getElem?;intro i;rw[List.getElem?_set];by_cases b:i<n
 ·by_cases e:a=i
  ·subst e;simp[L,zG,z]
  ·have:=J i b (NH e)
   simp[e,zG,b,this]
 ·have O:(zG n v)[i]? = none:=by simp[zG];omega
  have d:(zG n I)[i]? = none:=by simp[zG];omega
  rw[O,d,UY ⋯]
def Wu(w:Nat)(B:Nat->Vc)(l:UX)(r:Nat):Vc:=λj=>zm (λk=>if l k=j then B k w else 0) r
noncomputable def yt:=(zT (jj 6<|zD qK<|zb (zc 5) zF)<|zT (jn (sB<|zH g4 (zc 6)<|zc 3) (j9<|zu .el) qj)<|eE 4 (zc 6)<|dv (zk 5)<|zc 3)
section
variable{p:Int}{h w r:Nat}
theorem au{l:UX}(J:∀k m,k<m->m<r->l k<l m){k m:Nat}(I:k<r)(O:m<r)(e:l k=l m):k=m:=by
 rcases RG k m with z|z|z
 ·have:=J k m z O;omega
 ·exact z
 ·have:=J m k z I;omega
def aug(w:Nat)(f:UV)(b:Vc):Nat->Vc:=λi j=>if j<w then f i j else b i
theorem bE(L:w+1<=lim)(U:i3 p (w+1) r B l)(hs:s<=r)(Z:∀k,k<s->l k<w)(es:List D)(a0 I O:Cell):
 ∃z J,kX (.nm 5) yt (zX s (w+1) B++es) [a0,I,O,.val<|.int w,.own<|zG w λ_=>0,.no,.no]=kX (.nm 5) yt es [a0,I,O,.val<|.int w,.own<|zG w<|Wu w B l s,z,J]:=by
 obtain⟨E,⟨z,J,rfl⟩,e⟩:=Vk (T:=.nm 5) (F:=yt) (λt o=>∃z J,o=[a0,I,O,.val<|.int w,.own<|zG w<|Wu w B l t,z,J]) (zX s (w+1) B) es 0 [a0,I,O,.val<|.int w,.own<|zG w λ_=>0,.no,.no]
  ⟨.no,.no,by rw[wW (f:=Wu w B l 0) (g:=λ_=>0) λi _=>rfl]⟩ (by
   rintro k d o b ⟨z,J,rfl⟩;rw[NW];have n:k<s:=by have:=(Np.mp b).1;simpa using this
   have u:d=.tup (zG (w+1)<|B k):=by simp[n]at b;exact b.symm
   subst u;have Y:k<r:=by omega
   have h:=Z k n;have le:=vy L (B k) (show l k<w+1 by omega) (λi j=>U.o7 k i Y j) (by rw[U.one k Y];decide);refine⟨_,?_,.val<|.tup<|zG (w+1)<|B k,.val<|.int<|l k,rfl⟩;have a:¬((l k:Int)=(w:Int)):=by omega
   have x:¬l k=w:=by omega
   have C:w<w+1:=by omega
   have y:=cR h (Wu w B l k) (Wu w B l<|k+1) (B k w) (by
    unfold Wu;simp only[zm,if_true];rw[zA (g:=λ_=>0) λm A=>by rw[UY λe=>by have:=U.mono m k A Y;omega],zU]
    omega) (λi j a=>by
    unfold Wu;simp only[zm];rw[UY (NH a)];omega)
   simp[yt,jP,le,a,x,h,C,y])
 rw[nR]at e;refine⟨z,J,?_⟩;rw[e];rw[NW]
theorem uV(w:Nat)(f:UV)(b:Vc)(i:Nat):zG w (f i)++[.int (b i)]=zG (w+1) (aug w f b i):=by
 unfold zG;rw[OH,NU];congr 1
 ·exact Ni λj I=>by simp[aug,MG.mp I]
 ·simp[aug]
theorem QL(Y:Pr p)(Z:h<=90)(hw:w<=90)(f:UV)(b:Vc):
 ∃r B l s,i3 p (w+1) r B l/\(∀v,Span p (w+1) (eL r B) v↔Span p (w+1) (eL h<|aug w f b) v)/\s<=r/\(∀k,k<s->l k<w)/\(∀k,s<=k->k<r->w<=l k)/\
  vH [.int p,jZ h w f,.tup (zG h b)]=da (.val<|if s<r then .el else .tup (zG w<|Wu w B l s)):=by
 have S:=jl;have U:h<=lim:=by omega
 have n:w<=lim:=by omega
 have O:w+1<=lim:=by omega
 obtain⟨r,B,l,e,I,o⟩:=k9 Y (show w+1<=100 by omega) U .L<|aug w f b;obtain⟨s,j,m,g⟩:=Jf w I.mono;refine⟨r,B,l,s,I,o,j,m,g,?_⟩;have a:zY (.tp [0,1]) jt (zH qv (zc 0)<|qF<|zb (zc 1) zF) [Cell.no,Cell.no] ((ME h).map λi=>D.tup [.tup (zG w<|f i),.int (b i)])=da (zX h (w+1)<|aug w f b):=by unfold zX;refine zC _ _ λi F=>zB rfl rfl ?_;simp[qv,O,uV]
 have K:yY (zX h w f) (zG h b)=(ME h).map λi=>D.tup [.tup (zG w<|f i),.int (b i)]:=by unfold yY zX zG;rw[RT];simp
 have t:MI w (D.int 0)=zG w λ_=>0:=by rw[eT];rfl
 have A:((w+1:Nat):Int)=(w:Int)+1:=by omega
 simp only[t5]at e;rw[A]at e;obtain⟨d,E⟩:∃d,r=s+d:=⟨r-s,by omega⟩;have H:zX r (w+1) B=zX s (w+1) B++zX d (w+1) λk=>B (s+k):=by unfold zX;rw[E,RH,NU,NB];rfl
 obtain⟨M,N,G⟩:=bE O I j m (zX d (w+1) λk=>B<|s+k) (.val<|.int p) (.val<|jZ h w f)<|.val<|.tup<|zG h b;have J:jx (jZ h w f)=da (.T,[.int h,.int w,.tup (zX h w f)]):=rfl;have C:vH=jk 7 (zT (jj 3<|dv (zk 1)<|zu<|.int 1)<|zT (kF 4<|YB (jm<|jC<|zb (zu<|.int 0) zF)<|zc 3)<|zT (ZY (zN<|zJ<|jz<|je xF<|zb (zc 0)<|zb (zH qv (zc 3)<|zu<|.int 1)<|zb (jz<|zO (QT (dv (zk 1)<|zu<|.int 2)<|zc 2) (.tp [0,1]) 2 [] jt (zH qv (zc 0)<|qF<|zb (zc 1) zF)) zF) (.nm 5) yt)<|j9<|z7<|zk 4):=rfl;rw[C];simp[jk,z9,jP,J,n,K,U,jo,MI,a,e];rw[t,H,G];by_cases z:s<r
 ·
  have u:d=1:=by
   rcases Nj 1 d with q|q
   ·have P:=I.mono s (s+1) ⋯ ⋯
    have Q:=g s (MM _) z;have R:=I.lt (s+1) ⋯;omega
   ·omega
  subst u;have x:l s=w:=by have:=g s (MM _) z;have:=I.lt s z;omega
  have le:=vy O (B s) (show w<w+1 by omega) (λi F=>I.o7 s i z ⋯) (by have:=I.one s z;rw[x]at this;rw[this];decide);have one:zX 1 (w+1) (λk=>B<|s+k)=[.tup (zG (w+1)<|B s)]:=rfl;rw[one,qW];simp[yt,jP,le,z]
 ·have y:d=0:=by omega
  subst y;have zero:zX 0 (w+1) (λk=>B<|s+k)=[]:=rfl;rw[zero];simp[kX,z]
end
theorem Ac(γ:Ctx)(i g):VP i g γ=(xA γ[i]?).bind λds=>(g γ).bind λa=>match a.1 with
 |.T=>if ds.length+a.2.length<=lim then da (.next<|γ.set i<|.own<|ds++a.2)else none
 |.L=>none:=rfl
def off(hs ws:UX):Nat->Nat
 |0=>0
 |k+1=>off hs ws k+hs k*ws k
noncomputable def vp(hs ws:UX)(T:UW):Nat->Nat->Int
 |0,_=>0
 |k+1,x=>if x<off hs ws k then vp hs ws T k x else T k ((x-off hs ws k)/ws k) ((x-off hs ws k)%ws k)
def il(n:Nat)(hs ws:UX)(T:UW):List D:=(ME n).map λk=>jZ (hs k) (ws k)<|T k
def i8(n:Nat)(hs ws:UX):List D:=(ME n).map λk=>D.tup [.int (hs k:Nat),.int (ws k:Nat)]
section
variable{hs ws:UX}{T:UW}
theorem Kw{a b:Nat}(h:a<=b):off hs ws a<=off hs ws b:=by
 induction b with
 |zero=>
  obtain rfl:a=0:=by omega
  exact MM _
 | succ b I=>
  by_cases e:a=b+1
  ·subst e;exact MM _
  ·have:=I ⋯
   show _<=off hs ws b+hs b*ws b;omega
theorem uN{h w i j:Nat}(z:i<h)(I:j<w):i*w+j<h*w:=by have:(i+1)*w<=h*w:=RR w z;rw[Su]at this;omega
theorem iI{n k i j:Nat}(O:k<n)(z:i<hs k)(I:j<ws k):off hs ws k+i*ws k+j<off hs ws n:=by have a:=Kw (hs:=hs) (ws:=ws) (show k+1<=n by omega);have b:=uN z I;have:off hs ws (k+1)=off hs ws k+hs k*ws k:=rfl;omega
theorem pX{w i j:Nat}(I:j<w):(i*w+j)/w=i/\(i*w+j)%w=j:=by
 have a:0<w:=by omega
 constructor
 ·rw[Uk,Nat.add_mul_div_right _ _ a,Ut I,NW]
 ·rw[Uk,Nat.add_mul_mod_self_right,Ur I]
theorem Xk{k i j:Nat}(z:i<hs k)(I:j<ws k):∀n,k<n->vp hs ws T n (off hs ws k+i*ws k+j)=T k i j
 |0,h=>by omega
 | n+1,h=>by
  unfold vp;by_cases e:k=n
  ·subst e
   rw[UY ⋯];have:off hs ws k+i*ws k+j-off hs ws k=i*ws k+j:=by omega
   rw[this,(pX I).1,(pX I).2]
  ·have:=iI (hs:=hs) (ws:=ws) (show k<n by omega) z I
   rw[UJ this];exact Xk z I n ⋯
theorem tw:∀(n x:Nat),x<off hs ws n->∃k i j,k<n/\i<hs k/\j<ws k/\x=off hs ws k+i*ws k+j
 |0,x,h=>by simp[off]at h
 | n+1,x,h=>by
  by_cases e:x<off hs ws n
  ·obtain⟨k,i,j,d,a,I,O⟩:=tw n x e
   exact⟨k,i,j,by omega,a,I,O⟩
  ·have h:x<off hs ws n+hs n*ws n:=h
   have b:0<ws n:=by apply Nat.pos_of_ne_zero;intro z;rw[z,Nat.mul_zero]at h;omega
   refine⟨n,(x-off hs ws n)/ws n,(x-off hs ws n)%ws n,by omega,Nat.div_lt_of_lt_mul ?_,Nat.mod_lt _ b,?_⟩
   ·rw[C9];omega
   ·have:=Nat.div_add_mod (x-off hs ws n) (ws n)
    rw[C9]at this;omega
theorem nO{a b:Nat}{f g h:Nat->Int}(z:∀x,x<a->h x=f x)(I:∀x,x<b->h (a+x)=g x):zG a f++zG b g=zG (a+b) h:=by
 unfold zG;rw[RH,NU,NB];congr 1
 ·exact Ni λx d=>by rw[z x (MG.mp d)]
 ·exact Ni λx d=>by simp only[Tj];rw[I x (MG.mp d)]
theorem ZH(n f):(zG n f).length=n:=by simp[zG]
theorem dN(n hs ws T):(il n hs ws T).length=n:=by simp[il]
theorem rX(n hs ws):(i8 n hs ws).length=n:=by simp[i8]
theorem oH{n k:Nat}(h:k<n):(il n hs ws T)[k]? = da (jZ (hs k) (ws k)<|T k):=by unfold il;simp[h]
theorem rB(U Y:Cell)(w:Nat)(f:UV)(a:Nat)(g G:Nat->Int)(J:∀x,x<a->G x=g x)(h:Nat)(z:∀i j,i<h->j<w->G (a+i*w+j)=f i j)(hz:a+h*w<=2000)(I:Cell):
 ∃O,kX (.nm 3) (VP 1<|zk 3) (zX h w f) [U,.own<|zG a g,Y,I]=da (.next [U,.own<|zG (a+h*w) G,Y,O]):=by
 have o:=jl;have key:∀(k s:Nat) (I:Cell),s+k=h->∃O,kX (.nm 3) (VP 1<|zk 3) ((SK s k).map λi=>D.tup<|zG w<|f i) [U,.own<|zG (a+s*w) G,Y,I]=da (.next [U,.own<|zG (a+h*w) G,Y,O]):=by
  intro k
  induction k with
  |zero=>
   intro s I e;obtain rfl:s=h:=by omega
   exact⟨I,rfl⟩
  |succ k l=>
   intro s I e;obtain⟨O,q⟩:=l (s+1) (.val<|.tup<|zG w<|f s) ⋯;refine⟨O,?_⟩;rw[<-q,RL,Nn,qW];have m:(s+1)*w<=h*w:=RR w ⋯;have n:(s+1)*w=s*w+w:=Su s w;have le:a+s*w+w<=lim:=by omega
   have d:zG (a+s*w) G++zG w (f s)=zG (a+(s+1)*w) G:=by rw[show a+(s+1)*w=a+s*w+w by omega];exact nO (λx _=>rfl) λx b=>z s x ⋯ b
   simp only[Jt,MJ,Oe,Od,Ac,qo,MN,MT,xA,jg,qC,ZH,le,if_true,d]
 obtain⟨O,q⟩:=key h 0 I ⋯;refine⟨O,?_⟩;rw[<-PX,Nat.zero_mul,Td]at q;rw[wW (f:=g) (g:=G) λx b=>(J x b).symm];exact q
theorem bo{n:Nat}(hz:off hs ws n<=2000):vw [.lst (il n hs ws T)]=da (.val<|.tup<|zG (off hs ws n)<|vp hs ws T n):=by
 have g:i0 3 2=da 2:=rfl;have key:∀(k s:Nat) (Y I:Cell),s+k=n->∃O U,kX (.nm 2) (ZY (zN<|zJ<|dv (zk 2)<|zu<|.int 2) (.nm 3)<|VP 1<|zk 3) ((SK s k).map λk=>jZ (hs k) (ws k)<|T k) [.val (.lst<|il n hs ws T),.own<|zG (off hs ws s)<|vp hs ws T s,Y,I]=da (.next [.val (.lst<|il n hs ws T),.own<|zG (off hs ws n)<|vp hs ws T n,O,U]):=by
  intro k
  induction k with
  |zero=>
   intro s Y I e;obtain rfl:s=n:=by omega
   exact⟨Y,I,rfl⟩
  | succ k h=>
   intro s Y I e;have p:=Kw (hs:=hs) (ws:=ws) (show s+1<=n by omega);obtain⟨a,r⟩:=rB (.val<|.lst<|il n hs ws T) (.val<|jZ (hs s) (ws s)<|T s) (ws s) (T s) (off hs ws s) (vp hs ws T s) (vp hs ws T<|s+1) (λx f=>by show(if x<off hs ws s then _ else _)=_;rw[UJ f]) (hs s) (λi j b d=>Xk b d (s+1) ⋯) (by
    have:off hs ws (s+1)=off hs ws s+hs s*ws s:=rfl;omega) I
   obtain⟨O,U,q⟩:=h (s+1) (.val<|jZ (hs s) (ws s)<|T s) a ⋯;refine⟨O,U,?_⟩;rw[<-q,RL,Nn,qW];have o:=rT (hs s) (ws s)<|T s;simp only[Jt,MJ,Oe,Od,aZ,kn,xU,w5,qo,vq,MN,MT,Nr,NK,NW,OX,jg,MW,o,qG,g,qC,r];rfl
 obtain⟨O,U,q⟩:=key n 0 .no .no ⋯;rw[<-PX]at q;have l:(kF 1<|jC zF) (z9 4 [.lst (il n hs ws T)])=da (.next [.val (.lst<|il n hs ws T),.own<|zG (off hs ws 0)<|vp hs ws T 0,.no,.no]):=rfl;have m:(ZY (zN<|zJ<|zc 0) (.nm 2)<|ZY (zN<|zJ<|dv (zk 2)<|zu<|.int 2) (.nm 3)<|VP 1<|zk 3) [.val (.lst<|il n hs ws T),.own<|zG (off hs ws 0)<|vp hs ws T 0,.no,.no]=da (.next [.val (.lst<|il n hs ws T),.own<|zG (off hs ws n)<|vp hs ws T n,O,U]):=by rw[aZ];simp only[kn,xU,qY,MN,jb,MJ,kP,MW];exact q
 exact jf<|zw l<|zw m rfl
theorem uL{n a b:Nat}(u:Nat->Int)(z:a<=b)(I:b<=n):dr (zG n u) (da (a:Int)) (da (b:Int))=zG (b-a) λx=>u (a+x):=by unfold zG;exact iq (λx=>D.int<|u x) z I
noncomputable def G_:=(zT (jj 6<|jz<|zO (jE<|zc 4) (.nm 0) 1 [1,3,5] jt (WY (zc 1) (ra<|zH qv (zc 2)<|zH yq (zc 0)<|zc 3)<|ra<|zH qv (zc 2)<|zH yq (zH qv (zc 0)<|zu<|.int 1)<|zc 3))<|zT (yD 2<|qF<|zb (zc 4)<|zb (zc 5)<|zb (z7<|zk 6) zF)<|jj 3<|zH qv (zc 3)<|zH yq (zc 4)<|zc 5)
def kM(hs ws:UX)(u:Nat->Int)(k i j:Nat):Int:=u<|off hs ws k+i*ws k+j
theorem ZM{n:Nat}(hn:n<=100)(L:∀k,hs k<=100)(Z:∀k,ws k<=100)(u:Nat->Int){N:Nat}(J:N=off hs ws n):qh [.lst (i8 n hs ws),.tup (zG N u)]=da (.own<|il n hs ws<|kM hs ws u):=by
 have S:=jl;subst J;have key:∀(k s:Nat) (I f d:Cell),s+k=n->∃O U Y,kX (.tp [4,5]) G_ ((SK s k).map λk=>D.tup [.int (hs k:Nat),.int (ws k:Nat)]) [.val (.lst<|i8 n hs ws),.val<|.tup<|zG (off hs ws n) u,.own<|il s hs ws<|kM hs ws u,.val<|.int (off hs ws s:Nat),I,f,d]=da (.next [.val (.lst<|i8 n hs ws),.val<|.tup<|zG (off hs ws n) u,.own<|il n hs ws<|kM hs ws u,.val<|.int (off hs ws n:Nat),O,U,Y]):=by
  intro k
  induction k with
  |zero=>
   intro s I f d e;obtain rfl:s=n:=by omega
   exact⟨I,f,d,rfl⟩
  | succ k F=>
   intro s I f d e;obtain⟨O,U,Y,q⟩:=F (s+1) (.val<|.int (hs s:Nat)) (.val<|.int (ws s:Nat)) (.val<|.lst<|zX (hs s) (ws s)<|kM hs ws u s) ⋯;refine⟨O,U,Y,?_⟩;rw[<-q,RL,Nn,qW];have P:=L s;have g:=Z s;have as:=Kw (hs:=hs) (ws:=ws) (show s+1<=n by omega);have C:off hs ws (s+1)=off hs ws s+hs s*ws s:=rfl;have o:∀x y:Nat,y<=100->XU (x:Int) (y:Int)=dj:=λx y E=>XT _ _ ⋯ ⋯;have p:∀x y:Nat,y<=100->XU ((x:Int)+1) (y:Int)=dj:=λx y E=>XT _ _ ⋯ ⋯;have B:km (.tp [4,5]) (.tup [.int (hs s:Nat),.int (ws s:Nat)]) [.val (.lst<|i8 n hs ws),.val<|.tup<|zG (off hs ws n) u,.own<|il s hs ws<|kM hs ws u,.val<|.int (off hs ws s:Nat),I,f,d]=da [.val (.lst<|i8 n hs ws),.val<|.tup<|zG (off hs ws n) u,.own<|il s hs ws<|kM hs ws u,.val<|.int (off hs ws s:Nat),.val<|.int (hs s:Nat),.val<|.int (ws s:Nat),d]:=rfl;have G:zY (.nm 0) jt (WY (zc 1) (ra<|zH qv (zc 2)<|zH yq (zc 0)<|zc 3)<|ra<|zH qv (zc 2)<|zH yq (zH qv (zc 0)<|zu<|.int 1)<|zc 3) [Cell.no,.val<|.tup<|zG (off hs ws n) u,.val<|.int (off hs ws s:Nat),.val (.int (ws s:Nat))] ((ME<|hs s).map λi:Nat=>D.int (i:Int))=da (zX (hs s) (ws s)<|kM hs ws u s):=by
    unfold zX;refine zC _ _ λi h=>zB rfl rfl ?_;have h:=MG.mp h;have Q:(i+1)*ws s<=hs s*ws s:=RR _ h;have R:(i+1)*ws s=i*ws s+ws s:=Su i<|ws s;have w:=uL (n:=off hs ws n) (a:=off hs ws s+i*ws s) (b:=off hs ws s+(i+1)*ws s) u ⋯ ⋯;have z:(off hs ws s:Int)+(i:Int)*(ws s:Int)=((off hs ws s+i*ws s:Nat):Int):=by rw[Sg,Rv]
    have A:(off hs ws s:Int)+((i:Int)+1)*(ws s:Int)=((off hs ws s+(i+1)*ws s:Nat):Int):=by rw[Sg,Rv];rfl
    show WY _ _ _ [Cell.val (.int (i:Int)),.val<|.tup<|zG (off hs ws n) u,.val<|.int (off hs ws s:Nat),.val (.int (ws s:Nat))]=_;simp only[EA,qY,Io,ba,vq,MN,MT,jb,MJ,aR,aQ,o i (ws s) g,p i (ws s) g,if_true,qG,MW,z,A,w];congr 2;rw[show off hs ws s+(i+1)*ws s-(off hs ws s+i*ws s)=ws s by omega];rfl
   have K:inR (hs s:Int)=dj:=J6 ⋯ ⋯;have r:hs s<=lim:=by omega
   have j:(jj 6<|jz<|zO (jE<|zc 4) (.nm 0) 1 [1,3,5] jt (WY (zc 1) (ra<|zH qv (zc 2)<|zH yq (zc 0)<|zc 3)<|ra<|zH qv (zc 2)<|zH yq (zH qv (zc 0)<|zu<|.int 1)<|zc 3)) [.val (.lst<|i8 n hs ws),.val<|.tup<|zG (off hs ws n) u,.own<|il s hs ws<|kM hs ws u,.val<|.int (off hs ws s:Nat),.val<|.int (hs s:Nat),.val<|.int (ws s:Nat),d]=da (.next [.val (.lst<|i8 n hs ws),.val<|.tup<|zG (off hs ws n) u,.own<|il s hs ws<|kM hs ws u,.val<|.int (off hs ws s:Nat),.val<|.int (hs s:Nat),.val<|.int (ws s:Nat),.val (.lst<|zX (hs s) (ws s)<|kM hs ws u s)]):=by rw[xY,ZT,qp,w4,qY];simp only[MN,MT,jb,MJ,qG,K,if_true,Ou,qM,k4,r];rw[qu (hs s) λi=>(i:Int),show jo 1 [1,3,5] [.val (.lst<|i8 n hs ws),.val<|.tup<|zG (off hs ws n) u,.own<|il s hs ws<|kM hs ws u,.val<|.int (off hs ws s:Nat),.val<|.int (hs s:Nat),.val<|.int (ws s:Nat),d]=[Cell.no,.val<|.tup<|zG (off hs ws n) u,.val<|.int (off hs ws s:Nat),.val (.int (ws s:Nat))]from rfl,G];rfl
   have t:s<lim:=by omega
   have H:3<=lim:=by omega
   have M:=dN s hs ws<|kM hs ws u;have l:(yD 2<|qF<|zb (zc 4)<|zb (zc 5)<|zb (z7<|zk 6) zF) [.val (.lst<|i8 n hs ws),.val<|.tup<|zG (off hs ws n) u,.own<|il s hs ws<|kM hs ws u,.val<|.int (off hs ws s:Nat),.val<|.int (hs s:Nat),.val<|.int (ws s:Nat),.val (.lst<|zX (hs s) (ws s)<|kM hs ws u s)]=da (.next [.val (.lst<|i8 n hs ws),.val<|.tup<|zG (off hs ws n) u,.own<|il (s+1) hs ws<|kM hs ws u,.val<|.int (off hs ws s:Nat),.val<|.int (hs s:Nat),.val<|.int (ws s:Nat),.val (.lst<|zX (hs s) (ws s)<|kM hs ws u s)]):=by rw[show il (s+1) hs ws (kM hs ws u)=il s hs ws (kM hs ws u)++[jZ (hs s) (ws s) (kM hs ws u s)]from Ki _ _];simp only[QJ,VB,jO,kQ,qY,qo,XY,MN,MT,jb,jg,xA,kP,MJ,MW,Nr,NK,NW,OX,H,if_true,M,t,Oe,Od];rfl
   have m:(jj 3<|zH qv (zc 3)<|zH yq (zc 4)<|zc 5) [.val (.lst<|i8 n hs ws),.val<|.tup<|zG (off hs ws n) u,.own<|il (s+1) hs ws<|kM hs ws u,.val<|.int (off hs ws s:Nat),.val<|.int (hs s:Nat),.val<|.int (ws s:Nat),.val (.lst<|zX (hs s) (ws s)<|kM hs ws u s)]=da (.next [.val (.lst<|i8 n hs ws),.val<|.tup<|zG (off hs ws n) u,.own<|il (s+1) hs ws<|kM hs ws u,.val<|.int (off hs ws (s+1):Nat),.val<|.int (hs s:Nat),.val<|.int (ws s:Nat),.val (.lst<|zX (hs s) (ws s)<|kM hs ws u s)]):=by simp only[xY,ba,qY,MN,MT,jb,MJ,aQ,o (hs s) (ws s) g,if_true,aR,MW,Oe,Od];rw[C,Sg,Rv]
   rw[B];simp only[MJ];rw[show G_ _=_ from zw j (zw l m)];rfl
 obtain⟨I,f,d,q⟩:=key n 0 .no .no .no ⋯;rw[<-PX]at q;have j:(kF 2<|jC zF) (z9 7 [.lst (i8 n hs ws),.tup (zG (off hs ws n) u)])=da (.next [.val (.lst<|i8 n hs ws),.val<|.tup<|zG (off hs ws n) u,.own<|il 0 hs ws<|kM hs ws u,.no,.no,.no,.no]):=rfl;have l:(jj 3<|zu<|.int 0) [.val (.lst<|i8 n hs ws),.val<|.tup<|zG (off hs ws n) u,.own<|il 0 hs ws<|kM hs ws u,.no,.no,.no,.no]=da (.next [.val (.lst<|i8 n hs ws),.val<|.tup<|zG (off hs ws n) u,.own<|il 0 hs ws<|kM hs ws u,.val<|.int (off hs ws 0:Nat),.no,.no,.no]):=rfl;have m:(ZY (zN<|zJ<|zc 0) (.tp [4,5]) G_) [.val (.lst<|i8 n hs ws),.val<|.tup<|zG (off hs ws n) u,.own<|il 0 hs ws<|kM hs ws u,.val<|.int (off hs ws 0:Nat),.no,.no,.no]=da (.next [.val (.lst<|i8 n hs ws),.val<|.tup<|zG (off hs ws n) u,.own<|il n hs ws<|kM hs ws u,.val<|.int (off hs ws n:Nat),I,f,d]):=by rw[aZ];simp only[kn,xU,qY,MN,jb,MJ,kP,MW];exact q
 exact jf<|zw j<|zw l<|zw m rfl
theorem fR(hs ws:UX):∀n,zm (λk=>(hs k:Int)*(ws k:Int)) n=(off hs ws n:Nat)
 |0=>rfl
 |n+1=>by show zm _ n+_=((off hs ws n+hs n*ws n:Nat):Int);rw[fR hs ws n,Sg,Rv]
theorem ki{n:Nat}(J:n<=100)(z:∀k,ws k<=100):jS [.lst (i8 n hs ws)]=da (.val<|.int (off hs ws n:Nat)):=by
 have d:=jl;have I:n<=lim:=by omega
 have a:zY (.tp [0,1]) jt (zH yq (zc 0)<|zc 1) [Cell.no,Cell.no] (i8 n hs ws)=da (zG n λk=>(hs k:Int)*(ws k:Int)):=by unfold i8;rw[qu n λk=>(hs k:Int)*(ws k:Int)];refine zC _ _ λk b=>zB rfl rfl ?_;have O:XU (hs k:Int) (ws k:Int)=dj:=XT _ _ ⋯ (by have:=z k;omega);show zH _ _ _ [Cell.val (.int (hs k:Nat)),Cell.val (.int (ws k:Nat))]=_;simp[O]
 have U:=wt (λk=>(hs k:Int)*(ws k:Int)) n;have Y:=rX n hs ws;refine jf ?_;show((bI _) [.val (.lst<|i8 n hs ws)]).map _=_;simp only[aY,we,qp,kn,qo,MN,jg,kP,MW,MJ,Y,I,if_true];rw[show jo 2 [] [Cell.val (.lst<|i8 n hs ws)]=[Cell.no,Cell.no]from rfl,a];simp only[MW,MJ,U,fR]
end
section
variable{p:Int}{m:Nat}{w:UK}{wd wd':UX}{T T' S:UW}
noncomputable def pS(p:Int)(w:UK)(wd wd':UX)(T T' S:UW)(k i j:Nat):Int:=
 (zm (λt=>T' k t j*S (ja w k) i t) (gm w wd' k)%p+(-1)*(zm (λt=>S (zZ w k) t j*T k i t) (f9 w wd k)%p))%p
theorem yE(J:m<=4):q8 [zR p m w wd' T',zR p m w wd T]=da (.own<|i8 (m+1) wd wd'):=by
 have U:=jl;have I:m+1<=lim:=by omega
 have O:=kG p m w wd T;have x1:=kG p m w wd' T';have a:i0 3 1=da 1:=rfl;have z:yY (zG (m+1) λk=>(wd k:Int)) (zG (m+1) λk=>(wd' k:Int))=i8 (m+1) wd wd':=wj (m+1) (λk=>(wd k:Int)) λk=>(wd' k:Int);refine jf ?_;show((eI _ _) [.val (zR p m w wd' T'),.val (zR p m w wd T)]).map _=_;simp only[oq,w5,qo,vq,MN,MT,Nr,NK,NW,OX,jg,MJ,MW,O,x1,qG,a,qC,ZH,I,if_true,z]
theorem Ct{h w:Nat}(f g:UV)(I:0<p)(O:h<=lim)(z:w<=lim):bc [.int p,jZ h w f,jZ h w g]=da (.val<|jZ h w λi j=>(f i j+(-1)*g i j)%p):=by have e:=Jd (-1) f g ⋯ ⋯ I O z;refine jf ?_;show((zD xG _) [.val (.int p),.val<|jZ h w f,.val (jZ h w g)]).map _=_;have U:sC (zu<|.int 1) [.val (.int p),.val<|jZ h w f,.val (jZ h w g)]=da (.int (-1)):=rfl;simp only[xO,jO,kQ,qY,U,MN,MT,jb,MJ,MW,e,W4]
theorem CV(O:0<p)(Z:p<=100)(hm:m<=4)(z:∀k,wd k<=9)(U:∀k,wd' k<=9)(J:∀k i j,0<=T' k i j/\T' k i j<p)(bS:∀k i j,0<=S k i j/\S k i j<100){k:Nat}(I:k<m):
 oA [zR p m w wd' T',zR p m w wd T,.lst<|il (m+1) wd wd' S,.int (k:Int)]=da (.val<|jZ (gm w wd k) (f9 w wd' k)<|pS p w wd wd' T T' S k):=by
 have N:=jl;have M:=kG p m w wd T;have x1:=kG p m w wd' T';have A:i0 3 0=da 0:=rfl;have a:i0 3 2=da 2:=rfl;have B:i0 2 0=da 0:=rfl;have Y:i0 2 1=da 1:=rfl;have u:(jY m w wd T).length=m:=by simp[jY]
 have d:(jY m w wd' T').length=m:=by simp[jY]
 have s:(jY m w wd T)[k]? = da (vn w wd T k):=by unfold jY;simp[I]
 have e:(jY m w wd' T')[k]? = da (vn w wd' T' k):=by unfold jY;simp[I]
 have r:jx (vn w wd T k)=da (.T,[.str (xS<|ij<|w k),jZ (gm w wd k) (f9 w wd k) (T k)]):=rfl;have b:jx (vn w wd' T' k)=da (.T,[.str (xS<|ij<|w k),jZ (gm w wd' k) (f9 w wd' k) (T' k)]):=rfl;have f:=KQ (w:=w) I;have g:=K3 (w:=w) I;have o:=dN (m+1) wd wd' S;have n:=oH (hs:=wd) (ws:=wd') (T:=S) f;have l:=oH (hs:=wd) (ws:=wd') (T:=S) g;rw[xw w wd,xw w wd']at n;rw[qP w wd,qP w wd']at l;have y:=bh w k;have x:=vS w k;have b1:gm w wd k<=lim:=by rw[<-xw];have:=z<|ja w k;omega
 have b2:gm w wd' k<=lim:=by rw[<-xw];have:=U<|ja w k;omega
 have b3:f9 w wd k<=lim:=by rw[<-qP];have:=z<|zZ w k;omega
 have b4:f9 w wd' k<=lim:=by rw[<-qP];have:=U<|zZ w k;omega
 have C:=vx (h:=gm w wd k) (m:=gm w wd' k) (w:=f9 w wd' k) (S<|ja w k) (T' k) O b1 b2 b4 λi j _ _=>by have:=J k i j;omega
 have E:=vx (h:=gm w wd k) (m:=f9 w wd k) (w:=f9 w wd' k) (T k) (S<|zZ w k) O b1 b3 b4 λi j _ _=>bS _ i j;have le:=Ct (h:=gm w wd k) (w:=f9 w wd' k) (λi j=>zm (λt=>T' k t j*S (ja w k) i t) (gm w wd' k)%p) (λi j=>zm (λt=>S (zZ w k) t j*T k i t) (f9 w wd k)%p) O b1 b4;have F:(jj 4<|dv (zk 0)<|zu<|.int 0) (z9 8 [zR p m w wd' T',zR p m w wd T,.lst<|il (m+1) wd wd' S,.int (k:Int)])=da (.next [.val (zR p m w wd' T'),.val<|zR p m w wd T,.val<|.lst<|il (m+1) wd wd' S,.val<|.int (k:Int),.val<|.int p,.no,.no,.no]):=by show(jj _ _) [.val (zR p m w wd' T'),.val<|zR p m w wd T,.val<|.lst<|il (m+1) wd wd' S,.val<|.int (k:Int),.no,.no,.no,.no]=_;simp only[xY,w5,qo,vq,MN,Nr,NK,NW,OX,jg,MJ,MW,x1,qG,A,Oe,Od]
 have G:(jj 5<|dv (zJ<|dv (zJ<|dv (zk 0)<|zu<|.int 2)<|zc 3)<|zu<|.int 0) [.val (zR p m w wd' T'),.val<|zR p m w wd T,.val<|.lst<|il (m+1) wd wd' S,.val<|.int (k:Int),.val<|.int p,.no,.no,.no]=da (.next [.val (zR p m w wd' T'),.val<|zR p m w wd T,.val<|.lst<|il (m+1) wd wd' S,.val<|.int (k:Int),.val<|.int p,.val<|.str<|xS<|ij<|w k,.no,.no]):=by simp only[xY,w5,xU,qo,qY,vq,MN,MT,Nr,NK,NW,OX,jg,jb,MJ,MW,x1,qG,a,qC,d,qQ,I,if_true,e,b,B,Oe,Od]
 have H:(jj 6<|zD qA<|zb (zc 4)<|zb (dv (zk 2)<|zD kq<|zb (zc 3)<|zb (zc 5) zF)<|zb (dv (zJ<|dv (zJ<|dv (zk 0)<|zu<|.int 2)<|zc 3)<|zu<|.int 1) zF) [.val (zR p m w wd' T'),.val<|zR p m w wd T,.val<|.lst<|il (m+1) wd wd' S,.val<|.int (k:Int),.val<|.int p,.val<|.str<|xS<|ij<|w k,.no,.no]=da (.next [.val (zR p m w wd' T'),.val<|zR p m w wd T,.val<|.lst<|il (m+1) wd wd' S,.val<|.int (k:Int),.val<|.int p,.val<|.str<|xS<|ij<|w k,.val<|jZ (gm w wd k) (f9 w wd' k) λi j=>zm (λt=>T' k t j*S (ja w k) i t) (gm w wd' k)%p,.no]):=by simp only[xY,xO,jO,kQ,w5,xU,qo,qY,vq,MN,MT,Nr,NK,NW,OX,jg,jb,MJ,MW,x1,qG,a,qC,kP,d,qQ,I,f,if_true,e,b,Y,y,W4,o,n,C,Oe,Od]
 have K:(jj 7<|zD qA<|zb (zc 4)<|zb (dv (zJ<|dv (zJ<|dv (zk 1)<|zu<|.int 2)<|zc 3)<|zu<|.int 1)<|zb (dv (zk 2)<|zD jH<|zb (zc 3)<|zb (zc 5) zF) zF) [.val (zR p m w wd' T'),.val<|zR p m w wd T,.val<|.lst<|il (m+1) wd wd' S,.val<|.int (k:Int),.val<|.int p,.val<|.str<|xS<|ij<|w k,.val<|jZ (gm w wd k) (f9 w wd' k) λi j=>zm (λt=>T' k t j*S (ja w k) i t) (gm w wd' k)%p,.no]=da (.next [.val (zR p m w wd' T'),.val<|zR p m w wd T,.val<|.lst<|il (m+1) wd wd' S,.val<|.int (k:Int),.val<|.int p,.val<|.str<|xS<|ij<|w k,.val<|jZ (gm w wd k) (f9 w wd' k) λi j=>zm (λt=>T' k t j*S (ja w k) i t) (gm w wd' k)%p,.val (jZ (gm w wd k) (f9 w wd' k) λi j=>zm (λt=>S (zZ w k) t j*T k i t) (f9 w wd k)%p)]):=by simp only[xY,xO,jO,kQ,w5,xU,qo,qY,vq,MN,MT,Nr,NK,NW,OX,jg,jb,MJ,MW,M,qG,a,qC,kP,u,qQ,I,g,if_true,s,r,Y,x,W4,o,l,E,Oe,Od]
 have L:(j9<|zD bc<|zb (zc 4)<|zb (zc 6)<|zb (zc 7) zF) [.val (zR p m w wd' T'),.val<|zR p m w wd T,.val<|.lst<|il (m+1) wd wd' S,.val<|.int (k:Int),.val<|.int p,.val<|.str<|xS<|ij<|w k,.val<|jZ (gm w wd k) (f9 w wd' k) λi j=>zm (λt=>T' k t j*S (ja w k) i t) (gm w wd' k)%p,.val (jZ (gm w wd k) (f9 w wd' k) λi j=>zm (λt=>S (zZ w k) t j*T k i t) (f9 w wd k)%p)]=da (.ret<|.val<|jZ (gm w wd k) (f9 w wd' k)<|pS p w wd wd' T T' S k):=by simp only[ZS,xO,jO,kQ,qY,MN,MT,jb,MJ,MW,le,W4];rfl
 exact jf<|zw F<|zw G<|zw H<|zw K L
theorem uz(I:0<p)(O:p<=100)(z:m<=4)(J:∀k,wd k<=9)(U:∀k,wd' k<=9)(Y:∀k i j,0<=T' k i j/\T' k i j<p)(bS:∀k i j,0<=S k i j/\S k i j<100):
 VF [zR p m w wd' T',zR p m w wd T,.lst (il (m+1) wd wd' S)]=da (.own<|il m (gm w wd) (f9 w wd')<|pS p w wd wd' T T' S):=by
 have l:=jl;have a:m<=lim:=by omega
 have x1:=kG p m w wd' T';have e:i0 3 2=da 2:=rfl;have b:(jY m w wd' T').length=m:=by simp[jY]
 have h:inR (m:Int)=dj:=J6 ⋯ ⋯;have f:zY (.nm 0) jt (zD oA<|zb (zc 1)<|zb (zc 2)<|zb (zc 3)<|zb (zc 0) zF) [Cell.no,.val<|zR p m w wd' T',.val<|zR p m w wd T,.val (.lst<|il (m+1) wd wd' S)] ((ME m).map λk:Nat=>D.int (k:Int))=da (il m (gm w wd) (f9 w wd')<|pS p w wd wd' T T' S):=by unfold il;refine zC _ _ λk d=>zB rfl rfl ?_;have g:=CV (w:=w) (T:=T) (S:=S) I O z J U Y bS<|MG.mp d;unfold il at g;show zD _ _ [Cell.val (.int (k:Int)),.val<|zR p m w wd' T',.val<|zR p m w wd T,.val (.lst _)]=_;simp only[xO,jO,kQ,qY,MN,MT,jb,MJ,MW,g,W4]
 refine jf ?_;show((zO _ _ _ _ _ _) [.val (zR p m w wd' T'),.val<|zR p m w wd T,.val (.lst<|il (m+1) wd wd' S)]).map _=_;simp only[qp,w4,ED,xU,w5,qo,vq,MN,MT,Nr,NK,NW,OX,jg,MJ,MW,x1,qG,e,qC,b,h,if_true,Ou,qM,ZH,a];rw[qu m λi=>(i:Int),show jo 1 [0,1,2] [.val (zR p m w wd' T'),.val<|zR p m w wd T,.val (.lst<|il (m+1) wd wd' S)]=[Cell.no,.val<|zR p m w wd' T',.val<|zR p m w wd T,.val (.lst<|il (m+1) wd wd' S)]from rfl,f];rfl
def vT(c x:Nat):Int:=if c=x then 1 else 0
noncomputable def VH(p:Int)(m:Nat)(w:UK)(wd wd':UX)(T T':UW)(e c:Nat):Int:=vp (gm w wd) (f9 w wd') (pS p w wd wd' T T'<|kM wd wd'<|vT c) m e
theorem T?(z:∀k,wd k<=9)(k):f9 w wd k<=100:=by rw[<-qP];have:=z<|zZ w k;omega
theorem KL(Y:0<p)(L:p<=100)(z:m<=4)(J:∀k,wd k<=9)(I:∀k,wd' k<=9)(Z:∀k i j,0<=T' k i j/\T' k i j<p)(h1:off wd wd' (m+1)<=2000)(h2:off (gm w wd) (f9 w wd') m<=2000):
 k8 [zR p m w wd' T',zR p m w wd T]=da (.val<|jZ (off (gm w wd) (f9 w wd') m) (off wd wd'<|m+1)<|VH p m w wd wd' T T'):=by
 have M:=jl;have s:=yE (p:=p) (w:=w) (wd:=wd) (wd':=wd') (T:=T) (T':=T') z;have r:=ki (n:=m+1) (hs:=wd) (ws:=wd') ⋯ λk=>by have:=I k;omega
 have a:qD [zR p m w wd' T',zR p m w wd T]=da (.own<|i8 m (gm w wd)<|f9 w wd'):=sy z;have na:=ki (n:=m) (hs:=gm w wd) (ws:=f9 w wd') ⋯<|T? I;generalize hN:off wd wd' (m+1)=N at *;generalize hA:off (gm w wd) (f9 w wd') m=A at *;have O:N<=lim:=by omega
 have b:A<=lim:=by omega
 have B:=yx O;have C:jx (jZ N N λi j=>if i=j then 1 else 0)=da (.T,[.int (N:Int),.int (N:Int),.tup (zX N N λi j=>if i=j then 1 else 0)]):=rfl;have f:i0 3 2=da 2:=rfl;have o:3<=lim:=by omega
 have l:zY (.nm 0) jt (zD vw<|zb (jz<|je VF<|zb (zc 1)<|zb (zc 2)<|zb (jz<|je qh<|zb (zc 3)<|zb (zc 0) zF) zF) zF) [Cell.no,.val<|zR p m w wd' T',.val<|zR p m w wd T,.val (.lst<|i8 (m+1) wd wd')] (zX N N λi j=>if i=j then 1 else 0)=da (zX N A λc e=>VH p m w wd wd' T T' e c):=by
  unfold zX;refine zC _ _ λc K=>zB rfl rfl ?_;have F:=ZM (n:=m+1) (hs:=wd) (ws:=wd') ⋯ (λk=>by have:=J k;omega) (λk=>by have:=I k;omega) (vT c) hN.symm;have d:∀k i j,0<=kM wd wd' (vT c) k i j/\kM wd wd' (vT c) k i j<100:=λk i j=>by unfold kM vT;split<;>decide
  have g:=uz (m:=m) (w:=w) (T:=T) Y L z J I Z d;have U:=bo (n:=m) (hs:=gm w wd) (ws:=f9 w wd') (T:=pS p w wd wd' T T'<|kM wd wd'<|vT c) ⋯;rw[hA]at U;have G:qh [.lst (i8 (m+1) wd wd'),.tup (zG N λj=>if c=j then 1 else 0)]=da (.own<|il (m+1) wd wd'<|kM wd wd'<|vT c):=F;show zD _ _ [Cell.val (.tup<|zG N λj=>if c=j then 1 else 0),.val<|zR p m w wd' T',.val<|zR p m w wd T,.val (.lst<|i8 (m+1) wd wd')]=_;simp only[xO,jO,kQ,qY,ZT,K5,MN,MT,jb,MJ,MW,G,Am,g,U,W4];rfl
 have t:(jj 2<|jz<|je q8<|zb (zc 0)<|zb (zc 1) zF) (z9 5 [zR p m w wd' T',zR p m w wd T])=da (.next [.val (zR p m w wd' T'),.val<|zR p m w wd T,.val<|.lst<|i8 (m+1) wd wd',.no,.no]):=by show(jj _ _) [.val (zR p m w wd' T'),.val<|zR p m w wd T,.no,.no,.no]=_;simp only[xY,ZT,K5,jO,kQ,qY,MN,MT,jb,MJ,MW,s,Am,Oe,Od]
 have u:(jj 3<|zD jS<|zb (zc 2) zF) [.val (zR p m w wd' T'),.val<|zR p m w wd T,.val<|.lst<|i8 (m+1) wd wd',.no,.no]=da (.next [.val (zR p m w wd' T'),.val<|zR p m w wd T,.val<|.lst<|i8 (m+1) wd wd',.val<|.int (N:Int),.no]):=by simp only[xY,xO,jO,kQ,qY,MN,MT,jb,MJ,MW,r,W4,Oe,Od]
 have x:(jj 4<|jz<|zO (zN<|zJ<|dv (zJ<|zD j8<|zb (zc 3) zF)<|zu<|.int 2) (.nm 0) 1 [0,1,2] jt (zD vw<|zb (jz<|je VF<|zb (zc 1)<|zb (zc 2)<|zb (jz<|je qh<|zb (zc 3)<|zb (zc 0) zF) zF) zF)) [.val (zR p m w wd' T'),.val<|zR p m w wd T,.val<|.lst<|i8 (m+1) wd wd',.val<|.int (N:Int),.no]=da (.next [.val (zR p m w wd' T'),.val<|zR p m w wd T,.val<|.lst<|i8 (m+1) wd wd',.val<|.int (N:Int),.val (.lst<|zX N A λc e=>VH p m w wd wd' T T' e c)]):=by rw[xY,ZT,qp];simp only[kn,xU,w5,xO,jO,kQ,qY,vq,MN,MT,Nr,NK,NW,OX,jb,MJ,MW,B,W4,C,qG,f,qC,cT,O,if_true];rw[show jo 1 [0,1,2] [.val (zR p m w wd' T'),.val<|zR p m w wd T,.val<|.lst<|i8 (m+1) wd wd',.val<|.int (N:Int),.no]=[Cell.no,.val<|zR p m w wd' T',.val<|zR p m w wd T,.val (.lst<|i8 (m+1) wd wd')]from rfl,l];rfl
 have H:=yz (h:=N) (w:=A) (λc e=>VH p m w wd wd' T T' e c) O b;have y:(j9<|zD jQ<|zb (qF<|zb (zc 3)<|zb (zD jS<|zb (jz<|je qD<|zb (zc 0)<|zb (zc 1) zF) zF)<|zb (z7<|zk 4) zF) zF) [.val (zR p m w wd' T'),.val<|zR p m w wd T,.val<|.lst<|i8 (m+1) wd wd',.val<|.int (N:Int),.val (.lst<|zX N A λc e=>VH p m w wd wd' T T' e c)]=da (.ret<|.val<|jZ A N<|VH p m w wd wd' T T'):=by
  have E:(qF<|zb (zc 3)<|zb (zD jS<|zb (jz<|je qD<|zb (zc 0)<|zb (zc 1) zF) zF)<|zb (z7<|zk 4) zF) [.val (zR p m w wd' T'),.val<|zR p m w wd T,.val<|.lst<|i8 (m+1) wd wd',.val<|.int (N:Int),.val (.lst<|zX N A λc e=>VH p m w wd wd' T T' e c)]=da (jZ N A λc e=>VH p m w wd wd' T T' e c):=by simp only[VB,jO,kQ,qY,qo,XY,xO,ZT,K5,MN,MT,Nr,NK,NW,OX,jb,jg,kP,MJ,MW,a,Am,na,W4,o,if_true];rfl
  simp only[ZS,xO,jO,kQ,E,MJ,MW,H,W4]
 exact jf<|zw t<|zw u<|zw x y
end
theorem Ae(h:∀k,k<r->l k≠j):Wu w B l r j=0:=by unfold Wu;rw[zA (g:=λ_=>0) λk I=>UY<|h k I,zU]
theorem EH{p:Int}{w n r:Nat}{B:Nat->Vc}{l:UX}(O:i3 p n r B l){k:Nat}(I:k<r):Wu w B l r (l k)=B k w:=by unfold Wu;rw[z6 I λm a U=>UY λe=>U<|au O.mono a I e,UJ rfl]
theorem lP{p:Int}{h w:Nat}{f:UV}{b y:Vc}(U:∀i,i<h->zm (λj=>f i j*y j) w%p=b i%p){v:Vc}(Y:Span p (w+1) (eL h<|aug w f b) v):(v w-zm (λj=>v j*y j) w)%p=0:=by
 induction Y with
 |@zero v a=>
  have e:zm (λj=>v j*y j) w%p=zm (λ_=>0) w%p:=zS λj O=>by rw[MS,a j ⋯];simp
  rw[Pa,e,a w ⋯,zU];simp
 | @step v I g c o t d s=>
  obtain⟨i,r,rfl⟩:=o;have k:zm (λj=>v j*y j) w%p=(zm (λj=>I j*y j) w+c*zm (λj=>f i j*y j) w)%p:=by
   rw[<-jD,<-qz];refine zS λj O=>?_;rw[MS,d j ⋯,<-MS];have:aug w f b i j=f i j:=by simp[aug,O]
   rw[this,Int.add_mul,PD]
  have l:v w%p=(I w+c*b i)%p:=by
   rw[d w ⋯];have:aug w f b i w=b i:=by simp[aug]
   rw[this]
  have m:(c*zm (λj=>f i j*y j) w)%p=(c*b i)%p:=by rw[MS,U i r,<-MS]
  rw[Pa,k,l,<-Pa];have n:(I w+c*b i-(zm (λj=>I j*y j) w+c*zm (λj=>f i j*y j) w))=(I w-zm (λj=>I j*y j) w)+(c*b i-c*zm (λj=>f i j*y j) w):=by omega
  rw[n,Ot,s,Pa,m];simp
theorem lQ(Y:Pr p)(J:h<=90)(L:w<=90)(f:UV)(b y:Vc)(U:∀i,i<h->0<=b i/\b i<p)(Z:∀i,i<h->zm (λj=>f i j*y j) w%p=b i):
 ∃x:Vc,vH [.int p,jZ h w f,.tup (zG h b)]=da (.val<|.tup<|zG w x)/\(∀j,0<=x j/\x j<p)/\∀i,i<h->zm (λj=>f i j*x j) w%p=b i:=by
 have M:=Y.pos;obtain⟨r,B,l,s,O,d,S,t,N,m⟩:=QL Y J L f b;have u:¬s<r:=λz=>by
  have Q:=O.lt s z;have R:=N s (MM _) z;have F:l s=w:=by omega
  have P:=(d<|B s).mp (.gen ⟨s,z,rfl⟩);have q:=lP (y:=y) (λi a=>by rw[Z i a,NO (U i a).1 (U i a).2]) P;have o:=O.one s z;rw[F]at o;have H:zm (λj=>B s j*y j) w=0:=by rw[zA (g:=λ_=>0) λj K=>by rw[O.o7 s j z ⋯];simp];exact zU _
  rw[o,H,Int.sub_zero,Y.one]at q;omega
 rw[UY u]at m;have G:s=r:=by omega
 subst G;refine⟨_,m,λj=>?_,λi a=>?_⟩
 ·by_cases e:∃k,k<s/\l k=j
  ·obtain⟨k,I,rfl⟩:=e
   rw[EH O I];exact O.n7 k w I ⋯
  ·rw[Ae λk I E=>e ⟨k,I,E⟩];exact⟨Int.le_refl _,M⟩
 ·have n:=Jb O ((d<|aug w f b i).mpr (.gen ⟨i,a,rfl⟩)) w ⋯
  have A:aug w f b i w=b i:=by simp[aug]
  rw[A,NO (U i a).1 (U i a).2]at n;rw[n];congr 1;unfold Wu;rw[zA (g:=λj=>zm (λk=>f i j*(if l k=j then B k w else 0)) s) λj _=>(jD _ _ _).symm,ql];refine zA λk I=>?_;rw[z6 (i:=l k) (t k I) λj K C=>by rw[UY (NH C)];simp,UJ rfl];simp only[aug,UJ (t k I)]
theorem WK{n N:Nat}(a:Nat->Int)(idx:UX)(x:Nat->Int)(I:∀t,t<n->idx t<N):zm (λc=>zm (λt=>a t*vT c (idx t)) n*x c) N=zm (λt=>a t*x (idx t)) n:=by rw[zA (g:=λc=>zm (λt=>a t*vT c (idx t)*x c) n) λc _=>(kx _ _ _).symm,ql];refine zA λt O=>?_;rw[z6 (i:=idx t) (I t O) λc Y U=>by unfold vT;rw[UY U];simp];unfold vT;rw[UJ rfl,SO]
section
variable{p:Int}{m:Nat}{w:UK}{wd wd':UX}{T T' S J:UW}
noncomputable def pG(w:UK)(wd wd':UX)(T T' X:UW)(k i j:Nat):Int:=
 zm (λt=>T' k t j*X (ja w k) i t) (gm w wd' k)-zm (λt=>T k i t*X (zZ w k) t j) (f9 w wd k)
theorem uA(X:UW)(k i j:Nat):pS p w wd wd' T T' X k i j%p=pG w wd wd' T T' X k i j%p:=by
 unfold pS pG;rw[NM];rw[zA (f:=λt=>X (zZ w k) t j*T k i t) (g:=λt=>T k i t*X (zZ w k) t j) λt _=>Oz _ _];generalize zm (λt=>T' k t j*X (ja w k) i t) (gm w wd' k)=a;generalize zm (λt=>T k i t*X (zZ w k) t j) (f9 w wd k)=b;have:a%p + -1*(b%p)=a%p-b%p:=by omega
 rw[this,<-Pa]
theorem nG(x:Nat->Int){k i j:Nat}(I:k<m)(z:i<gm w wd k)(U:j<f9 w wd' k):
 zm (λc=>VH p m w wd wd' T T' (off (gm w wd) (f9 w wd') k+i*f9 w wd' k+j) c*x c) (off wd wd'<|m+1)%p=pG w wd wd' T T' (kM wd wd' x) k i j%p:=by
 have Y:=KQ (w:=w) I;have d:=K3 (w:=w) I;have a:zm (λc=>VH p m w wd wd' T T' (off (gm w wd) (f9 w wd') k+i*f9 w wd' k+j) c*x c) (off wd wd'<|m+1)%p=zm (λc=>pG w wd wd' T T' (kM wd wd'<|vT c) k i j*x c) (off wd wd'<|m+1)%p:=zS λc e=>by unfold VH;rw[Xk z U m I,MS,uA,<-MS]
 rw[a];congr 1;have b:∀c,pG w wd wd' T T' (kM wd wd'<|vT c) k i j*x c=zm (λt=>T' k t j*vT c (off wd wd' (ja w k)+i*wd' (ja w k)+t)) (gm w wd' k)*x c+(-1)*(zm (λt=>T k i t*vT c (off wd wd' (zZ w k)+t*wd' (zZ w k)+j)) (f9 w wd k)*x c):=λc=>by unfold pG kM;rw[Int.sub_mul];omega
 rw[zA (λc _=>b c),qz,jD];rw[WK (λt=>T' k t j) (λt=>off wd wd' (ja w k)+i*wd' (ja w k)+t) x λt O=>iI Y (by rw[xw w wd];exact z) (by rw[xw w wd'];exact O)];rw[WK (λt=>T k i t) (λt=>off wd wd' (zZ w k)+t*wd' (zZ w k)+j) x λt O=>iI d (by rw[qP w wd];exact O) (by rw[qP w wd'];exact U)];unfold pG kM;omega
end
def kZ(wd:UX)(b:g9):List D:=(ME b.n).map λi=>D.tup<|zG (wd<|b.s+i)<|b.v<|b.s+i
def qi(wd:UX)(b:g9):D:=.tup [.int b.s,.tup (kZ wd b)]
@[simp] theorem cE(wd b):(kZ wd b).length=b.n:=by simp[kZ]
theorem ay(h:i<b.n):(kZ wd b)[i]? = da (.tup<|zG (wd<|b.s+i)<|b.v<|b.s+i):=by simp[kZ,h]
@[simp] theorem HD(wd b):jx (qi wd b)=da (.T,[.int b.s,.tup (kZ wd b)]):=rfl
section
variable{wd:UX}{b:g9}{o9:List g9}
theorem Xq(z:1<=b.n)(I:b.s+b.n<=100):j7 [qi wd b]=da (.val<|.tup [.int b.s,.int ((b.s+b.n-1:Nat):Int)]):=by
 have e:((b.s:Int)+(b.n:Int)-1)=((b.s+b.n-1:Nat):Int):=by omega
 simp[j7,jk,z9,qi,MI];omega
theorem yM(z:b.s+b.n<=100)(r:Nat):j3 [qi wd b,.int r]=da (.val<|.bl<|b.has r):=by
 by_cases h:b.s<=r
 ·by_cases a:r<b.s+b.n
  ·have:(r:Int)<(b.s:Int)+b.n:=by omega
   simp[j3,jk,z9,qi,MI,g9.has,h,a,this]
  ·have:¬((r:Int)<(b.s:Int)+b.n):=by omega
   simp[j3,jk,z9,qi,MI,g9.has,h,a,this]
 ·simp[j3,jk,z9,qi,MI,g9.has,h]
theorem vZ{N:Nat}{A:Nat->g9}(I:∀j,j<N->(A j).s+(A j).n<=100)(O:N<=lim)(r:Nat):
 q9 [.lst ((ME N).map λj=>qi wd<|A j),.int r]=da (.own<|((ME N).filter λj=>(A j).has r).map λj=>D.tup<|zG (wd r)<|(A j).v r):=by
 simp only[q9,jk,z9,iN,qp,kn,qo,Nn,Uh,Nr,NK,MI,Rq,Ul,Rn,MN,wc,jx,MW,MJ,Nf,Og,O,if_true];rw[jw (λj=>(A j).has r) (λj=>D.tup<|zG (wd r)<|(A j).v r) (ME N) λj U=>⟨_,rfl,?_,λd=>?_⟩]
 ·rfl
 ·have e:=yM (wd:=wd) (I j<|MG.mp U) r
  simp[jo,e]
 ·obtain⟨b,h⟩:=q5.mp d
  obtain⟨i,rfl⟩:=Nat.exists_eq_add_of_le b;have a:i<(A j).n:=by omega
  have g:(((A j).s+i:Nat):Int)-((A j).s:Int)=(i:Int):=by omega
  have Y:=ay (wd:=wd) a;have O:=jl;have f:=I j<|MG.mp U;simp[jo,qi,a,Y];rw[show((A j).s:Int)+(i:Int)-((A j).s:Int)=(i:Int)by omega,qQ,UJ a];exact Y
theorem ZJ(g:Nat->Vc)(I:q<=lim)(O:h<=lim):kR [.int h,.lst (zX q h g)]=da (.val<|jZ h q λi j=>g j i):=by have e:=yz (h:=q) (w:=h) g I O;unfold jZ at e;simp[kR,jk,z9,MI,I,e];rfl
theorem aw(h:Nat)(u:Nat->Vc)(L:List Nat):(L.map λj=>D.tup<|zG h<|u j)=zX L.length h λi=>u (L.getD i 0):=by
 unfold zX
 conv=>lhs;rw[<-jG 0 L]
 rw[NB];rfl
theorem nh(u:Nat->Int)(L:List Nat):(L.map λj=>D.int<|u j)=zG L.length λi=>u (L.getD i 0):=by
 unfold zG
 conv=>lhs;rw[<-jG 0 L]
 rw[NB];rfl
theorem Xo(P:UK)(g:Nat->Int):∀N,zm (λi=>g<|((ME N).filter P).getD i 0) ((ME N).filter P).length=zm (λj=>if P j=dj then g j else 0) N
 |0=>rfl
 | N+1=>by
  have I:=Xo P g N;rw[OH,Rp];show _=zm _ N+_;rw[<-I];cases hP:P N with
  |false=>simp[hP]
  | true=>
   have e:([N].filter P)=[N]:=by simp[hP]
   rw[e,NC,Pf];show zm _ _+_=_;simp only[if_true];congr 1
   ·refine zA λi a=>?_
    simp[MK,OA a]
   ·simp[MK,hP]
end
section
variable{wd:UX}{N m:Nat}{A:Nat->g9}{p:Int}{w:UK}{T:UW}{t:Vc}
theorem lu:yY (zG N t) ((ME N).map λj=>qi wd<|A j)=(ME N).map λj=>D.tup [.int (t j),qi wd (A j)]:=by
 unfold yY zG;rw[List.zip_map,NB];have e:(ME N).zip (ME N)=(ME N).map λi=>(i,i):=by rw[List.zip_eq_zipWith,List.zipWith_self]
 rw[e,NB];rfl
theorem Kz(U:Pr p)(Y:∀j,j<N->(A j).s+(A j).n<=100)(hN:N<=60)(hm:m<=5)(J:∀k,wd k<=60)(hr:r<=m)(Z:∀j i,j<N->(A j).has r=dj->i<wd r->0<=(A j).v r i/\(A j).v r i<p):
 k7 [zR p m w wd T,.lst<|(ME N).map λj=>qi wd<|A j,.tup<|zG N t,.int r]=da (.val<|.tup<|zG (wd r)<|t9 p A N t r):=by
 have C:=jl;have F:=U.le;have B:=J r;have a:=vZ (wd:=wd) Y (show N<=lim by omega) r;rw[aw (wd r) (λj=>(A j).v r)]at a;have E:((ME N).filter λj=>(A j).has r).length<=N:=by have:=List.length_filter_le (λj=>(A j).has r)<|ME N;simpa using this
 have g:=ZJ (q:=((ME N).filter λj=>(A j).has r).length) (h:=wd r) (λi=>(A<|((ME N).filter λj=>(A j).has r).getD i 0).v r) ⋯ ⋯;have I:=Yb (p:=p) (h:=wd r) (w:=((ME N).filter λj=>(A j).has r).length) .L (λi j=>(A<|((ME N).filter λj=>(A j).has r).getD j 0).v r i) (λi=>t<|((ME N).filter λj=>(A j).has r).getD i 0) U.pos ⋯ ⋯ (λi j y O=>by
  have b:((ME N).filter λj=>(A j).has r).getD j 0∈(ME N).filter λj=>(A j).has r:=by rw[MK,MH O];exact OI _
  obtain⟨u,x⟩:=Nl.mp b;have:=Z _ i (MG.mp u) (by simpa using x) y;omega)
 have l:(zG (wd r) λi=>zm (λj=>(A<|((ME N).filter λj=>(A j).has r).getD j 0).v r i*t (((ME N).filter λj=>(A j).has r).getD j 0)) ((ME N).filter λj=>(A j).has r).length%p)=zG (wd r) (t9 p A N t r):=wW λi _=>by unfold t9;rw[Xo (λj=>(A j).has r) (λj=>(A j).v r i*t j) N];congr 1;refine zA λj _=>?_;rw[Oz]
 rw[l]at I;have o:zY (.tp [0,1]) (sB<|zD j3<|zb (zc 1)<|zb (zc 2) zF) (zc 0) [.no,.no,.val (.int r)] ((ME N).map λj=>D.tup [.int (t j),qi wd (A j)])=da (zG ((ME N).filter λj=>(A j).has r).length λi=>t<|((ME N).filter λj=>(A j).has r).getD i 0):=by rw[<-nh];refine jw (λj=>(A j).has r) (λj=>D.int<|t j) _ λj O=>⟨_,rfl,?_,λ_=>rfl⟩;have e:=yM (wd:=wd) (Y j<|MG.mp O) r;simp[e]
 have d:r<m+1:=by omega
 have z:=lu (N:=N) (wd:=wd) (t:=t) (A:=A);simp only[t5]at I;have f:N<=lim:=by omega
 refine jf<|zw (γ':=[.val (zR p m w wd T),.val<|.lst<|(ME N).map λj=>qi wd<|A j,.val<|.tup<|zG N t,.val<|.int r,.val (.lst<|zG ((ME N).filter λj=>(A j).has r).length λi=>t<|((ME N).filter λj=>(A j).has r).getD i 0)]) ?_ ?_
 ·simp[-MK,z9,jo,MI,z,o,f]
 ·simp[-MK,zR,a,g,I,d]
theorem mZ(Y:Pr p)(O:∀j,j<N->(A j).s+(A j).n<=m+1)(L:N<=60)(Z:m<=5)(J:∀k,wd k<=60)(hv:∀j r i,j<N->(A j).has r=dj->i<wd r->0<=(A j).v r i/\(A j).v r i<p)(z:a<N)(t0:∀i,i<a->t i=0)(t1:t a≠0):
 K9 [zR p m w wd T,.lst<|(ME N).map λj=>qi wd<|A j,.tup (zG N t)]=da (.val<|qi wd<|M0 p A N t a):=by
 have C:=jl;have f:N<=lim:=by omega
 have h:=vy f t z t0 t1;have B:=O a z;have l:zY (.nm 0) jt (zD k7<|zb (zc 1)<|zb (zc 2)<|zb (zc 3)<|zb (zH qv (dv (zk 4)<|zu<|.int 0)<|zc 0) zF) [.no,.val<|zR p m w wd T,.val<|.lst<|(ME N).map λj=>qi wd<|A j,.val<|.tup<|zG N t,.val (qi wd<|A a)] ((ME (A a).n).map λ(i:Nat)=>D.int i)=da (kZ wd<|M0 p A N t a):=by
  unfold kZ;refine zC _ _ λi b=>zB rfl rfl ?_;have b:=MG.mp b;have e:=Kz (T:=T) (w:=w) (t:=t) Y (λj I=>by have:=O j I;omega) L Z J (r:=(A a).s+i) (by have:i<(A a).n:=b;omega) λj c I x u=>hv j _ c I x u;have o:(((A a).s+i:Nat):Int)=((A a).s:Int)+(i:Int):=by omega
  rw[o]at e;have E:inR (((A a).s:Int)+(i:Int))=dj:=decide_eq_true (by have:i<(A a).n:=b;omega);simp[e];rfl
 have d:(A a).n<=lim:=by omega
 have y:inR ((A a).n:Int)=dj:=decide_eq_true ⋯;refine jf<|zw (γ':=[.val (zR p m w wd T),.val<|.lst<|(ME N).map λj=>qi wd<|A j,.val<|.tup<|zG N t,.val<|qi wd<|A a,.no]) ?_ (zw (γ':=[.val (zR p m w wd T),.val<|.lst<|(ME N).map λj=>qi wd<|A j,.val<|.tup<|zG N t,.val<|qi wd<|A a,.val (.lst<|kZ wd<|M0 p A N t a)]) ?_ ?_)
 ·simp[z9,MI,h,z]
 ·have U:=l
  rw[show((ME (A a).n).map λ(i:Nat)=>D.int i)=zG (A a).n λi=>(i:Int)from rfl]at U;simp[jo,qM,y,d,U]
 ·have g:(M0 p A N t a).n<=lim:=d
  simp[cE,g];rfl
end
section
variable{wd:UX}{N m k r:Nat}{A:Nat->g9}{p:Int}{w:UK}{T:UW}{B:Nat->Vc}{l:UX}
theorem aI(l:UX)(g:Nat->D)(i:Nat):∀(L:List Nat),aJ (L.map λj=>D.int ((l j:Nat):Int)) (L.map g) (i:Int)=(L.find? λj=>l j==i).map g
 |[]=>rfl
 | j::L=>by
  have I:=aI l g i L;simp only[Nn,aJ,Pp];by_cases h:l j=i
  ·simp[h]
  ·have a:¬((l j:Nat):Int)=(i:Int):=by omega
   rw[UY a,I];have:(l j==i)=dt:=by simpa using h
   rw[this]
theorem Va(l:UX):∀L:List Nat,Xh (L.map λj=>D.int ((l j:Nat):Int))=da (L.map λj=>((l j:Nat):Int))
 |[]=>rfl
 |j::L=>by simp[Xh,Va l L]
theorem cI(I:i3 p N r B l)(O:r<=lim):nV ((ME r).map λj=>D.int ((l j:Nat):Int)) ((ME r).map λj=>D.tup<|zG N<|B j)=da (.n9 ((ME r).map λj=>D.int ((l j:Nat):Int))<|(ME r).map λj=>D.tup<|zG N<|B j):=by unfold nV;rw[Va];dsimp only;rw[UJ];refine⟨by simp,?_,by simpa using O⟩;rw[List.nodup_iff_pairwise_ne,RE];refine RP (λ{a b} d U h=>?_)<|RD (n:=r);have:=I.mono a b h<|MG.mp U;omega
theorem Yk(f g:Nat->D):∀L:List Nat,wq (L.map λj=>D.tup [f j,g j])=da (L.map f,L.map g)
 |[]=>rfl
 |j::L=>by simp[wq,Yk f g L]
theorem QH(h:k<(jY m w wd T).length):(jY m w wd T)[k]=vn w wd T k:=by simp[jY]
theorem yv(w wd T k):jx (vn w wd T k)=da (.T,[.str (xS<|ij<|w k),jZ (gm w wd k) (f9 w wd k) (T k)]):=rfl
theorem Wj:xy ((ME N).map λj=>qi wd<|A j)=(ME N).map λ(i:Nat)=>D.tup [.int i,qi wd (A i)]:=by unfold xy;simp only[Nf,Og];refine Ni λi a=>?_;have a:=MG.mp a;simp[a]
noncomputable def Ak(p:Int)(w:UK)(wd:UX)(T:UW)(k:Nat)(u:Vc):Prop:=if w k=dj then Span p (wd k) (eL (wd<|k+1) λj i=>T k i j) u else A8 p (wd<|k+1) (wd k) (T k) u
theorem bD(U:Pr p)(Y:∀k,wd k<=16)(w)(T)(k:Nat):∃q g,q<=100/\(∀u,Span p (wd k) (eL q g) u↔Ak p w wd T k u)/\
 (if w k=dj then ZL [.int p,jZ (gm w wd k) (f9 w wd k) (T k)]=da (.own<|zX q (wd k) g)else ko [.int p,jZ (gm w wd k) (f9 w wd k) (T k)]=da (.own<|zX q (wd k) g)):=by
 have o:=jl;have i:=Y k;have m:=Y<|k+1;have d:∀{r n:Nat} {B:Nat->Vc} {l:UX},i3 p n r B l->r<=n:=λ{r n B l} I=>by
  have mono:∀k,k<r->k<=l k:=by
   intro k
   induction k with
   |zero=>intro _;omega
   |succ k j=>intro i;have:=j ⋯;have:=I.mono k (k+1) ⋯ i;omega
  cases r with
  |zero=>omega
  |succ f=>have:=mono f ⋯;have:=I.lt f ⋯;omega
 cases hw:w k with
 |true=>
  have a:gm w wd k=wd k:=by unfold gm;rw[hw];rfl
  have O:f9 w wd k=wd (k+1):=by unfold f9;rw[hw];rfl
  obtain⟨r,B,l,e,I,b⟩:=X0 U (h:=wd k) (w:=wd<|k+1) ⋯ ⋯<|T k;refine⟨r,B,by have:=d I;omega,λu=>by unfold Ak;rw[hw,UJ rfl];exact b u,?_⟩;rw[UJ rfl,a,O];exact e
 |false=>
  have a:gm w wd k=wd (k+1):=by unfold gm;rw[hw];rfl
  have O:f9 w wd k=wd k:=by unfold f9;rw[hw];rfl
  obtain⟨q,K,l,s,e,I,b,_⟩:=yQ U (h:=wd<|k+1) (w:=wd k) ⋯ ⋯<|T k;refine⟨q,K,by have:=d I;omega,λu=>by unfold Ak;rw[hw,UY ⋯];exact b u,?_⟩;rw[UY ⋯,a,O];exact e
theorem VN:w6=jk 8 (zT A_<|zT B_<|zT US<|zT C'<|zT C_ D'):=rfl
theorem bH(Z:Pr p)(hb:∀j,j<N->(A j).s+(A j).n<=m+1)(J:∀j,j<N->(A j).has k=dj)(a7:k<m)(hN:N<=16)(hm:m<=5)(z:∀k,wd k<=16)(hv:∀j r i,j<N->(A j).has r=dj->i<wd r->0<=(A j).v r i/\(A j).v r i<p):
 ∃r B l,i3 p N r B l/\(∀t,Span p N (eL r B) t↔Ak p w wd T k (app (λi j=>(A j).v k i) N t))/\
  w6 [zR p m w wd T,.int k,.lst ((ME N).map λj=>qi wd<|A j)]=da (.own<|(ME N).map λi=>qi wd<|i5 p A N r B l i):=by
 have hl:=jl;obtain⟨q,g,W,C,Y⟩:=bD Z z w T k;have bg:=z k;obtain⟨r,B,l,G,I,X⟩:=Ya Z (h:=wd k) (w:=N) (q:=q) ⋯ ⋯ W (λi j=>(A j).v k i) g;refine⟨r,B,l,I,λt=>(X t).trans (C _),?_⟩;have d:N<=lim:=by omega
 have E:k<m+1:=by omega
 have rN:r<=N:=by
  have mono:∀k,k<r->k<=l k:=by
   intro k
   induction k with
   |zero=>intro _;omega
   |succ k ih=>intro J;have:=ih ⋯;have:=I.mono k (k+1) ⋯ J;omega
  cases r with
  |zero=>omega
  |succ o=>have:=mono o ⋯;have:=I.lt o ⋯;omega
 have u:r<=lim:=by omega
 have x:=vZ (wd:=wd) (A:=A) (N:=N) (λj O=>by have:=hb j O;omega) d k;have R:((ME N).filter λj=>(A j).has k)=ME N:=List.filter_eq_self.mpr λj O=>J j<|MG.mp O;rw[R]at x;have H:=ZJ (q:=N) (h:=wd k) (λj=>(A j).v k) d ⋯;have as:q9 [.lst ((ME N).map λj=>qi wd<|A j),.int k]=da (.own<|zX N (wd k) λj=>(A j).v k):=x;have K:zY (.nm 0) jt (qF<|zb (zD qK<|zb (zc 0) zF)<|zb (zc 0) zF) [.no] (zX r N B)=da ((ME r).map λj=>D.tup [.int ((l j:Nat):Int),.tup (zG N<|B j)]):=by unfold zX;refine zC _ _ λj O=>zB rfl rfl ?_;have O:=MG.mp O;have e:=vy d (B j) (I.lt j O) (λi b=>I.o7 j i O b) (by rw[I.one j O];decide);simp[e]
 have M:=cI I u;have P:=Yk (λj=>D.int ((l j:Nat):Int)) (λj=>D.tup<|zG N<|B j)<|ME r;let f:D:=.n9 ((ME r).map λj=>D.int ((l j:Nat):Int)) ((ME r).map λj=>D.tup<|zG N<|B j);let L:D:=.lst ((ME N).map λj=>qi wd<|A j);have Q:zY (.tp [0,1]) jt (W0 (sB<|Be (zc 0)<|zc 4) (zD K9<|zb (zc 2)<|zb (zc 3)<|zb (EV (zc 4)<|zc 0) zF)<|zc 1) [.no,.no,.val<|zR p m w wd T,.val L,.val f] ((ME N).map λ(i:Nat)=>D.tup [.int i,qi wd (A i)])=da ((ME N).map λi=>qi wd<|i5 p A N r B l i):=by
  refine zC _ _ λi b=>zB rfl rfl ?_;have b:=MG.mp b;have U:=aI l (λj=>D.tup<|zG N<|B j) i<|ME r;have F:(ME r).find? (λj=>l j==i)=o4 r l i:=rfl;rw[F]at U;unfold i5;cases hx:o4 r l i with
  |none=>
   rw[hx]at U;simp[f,Be,U]
  |some j=>
   rw[hx]at U;obtain⟨y,S⟩:=xT hx;have e:=mZ (T:=T) (w:=w) (t:=B j) Z hb ⋯ hm (λk=>by have:=z k;omega) hv (a:=i) b (λc hc=>I.o7 j c y ⋯) (by rw[<-S,I.one j y];decide);simp[f,Be,EV,U,L,e]
 rw[VN];refine jf (zw (γ':=[.val (zR p m w wd T),.val<|.int k,.val L,.val<|.str<|xS<|ij<|w k,.no,.no,.no,.no]) ?_
  (zw (γ':=[.val (zR p m w wd T),.val<|.int k,.val L,.val<|.str<|xS<|ij<|w k,.val<|jZ (gm w wd k) (f9 w wd k)<|T k,.no,.no,.no]) ?_
  (zw (γ':=[.val (zR p m w wd T),.val<|.int k,.val L,.val<|.str<|xS<|ij<|w k,.val<|jZ (gm w wd k) (f9 w wd k)<|T k,.val<|.lst<|zX q (wd k) g,.no,.no]) ?_
  (zw (γ':=[.val (zR p m w wd T),.val<|.int k,.val L,.val<|.str<|xS<|ij<|w k,.val<|jZ (gm w wd k) (f9 w wd k)<|T k,.val<|.lst<|zX q (wd k) g,.val<|.lst<|zX r N B,.no]) ?_
  (zw (γ':=[.val (zR p m w wd T),.val<|.int k,.val L,.val<|.str<|xS<|ij<|w k,.val<|jZ (gm w wd k) (f9 w wd k)<|T k,.val<|.lst<|zX q (wd k) g,.val<|.lst<|zX r N B,.val f]) ?_ ?_)))))
 ·simp[A_,z9,MI,y9,yv,QH,a7];rfl
 ·simp[B_,y9,yv,QH,a7]
 ·cases hw:w k with
  |true=>
   rw[hw,UJ rfl]at Y;have eq:=KO dj;simp[US,y9,eq,Y]
  |false=>
   rw[hw,UY ⋯]at Y;have eq:=KO dt;simp[US,y9,eq,Y]
 ·simp[C',y9,E,L,as,H,G]
 ·simp[C_,jo,K,u,P,M];rfl
 ·simp[D',jo,L,Wj,d,Q]
end
def oD(n:Nat):Option Vc->D
 |none=>.el
 |some y=>.tup (zG n y)
theorem bF(U:Pr p)(Y:h<=90)(J:w<=90)(f:UV)(b:Vc)(O:∀i,i<h->0<=b i/\b i<p):
 ∃o:Option Vc,vH [.int p,jZ h w f,.tup (zG h b)]=da (.val<|oD w o)/\(∀x,o=da x->(∀j,0<=x j/\x j<p)/\∀i,i<h->app f w x i%p=b i%p)/\(o=none->¬∃y:Vc,∀i,i<h->app f w y i%p=b i%p):=by
 have n:∀i,i<h->b i%p=b i:=λi a=>NO (O i a).1 (O i a).2;by_cases I:∃y:Vc,∀i,i<h->app f w y i%p=b i%p
 ·obtain⟨y,I⟩:=I
  obtain⟨x,e,K,L⟩:=lQ U Y J f b y O λi a=>by rw[<-n i a,<-I i a];rfl
  refine⟨da x,e,λR G=>?_,λz=>by cases z⟩;cases G;exact⟨K,λi a=>by rw[n i a];exact L i a⟩
 ·obtain⟨r,B,l,s,M,C,P,A,Q,d⟩:=QL U Y J f b
  have m:s<r:=by
   refine Of λm=>I ?_;have H:s=r:=by omega
   subst H;refine⟨Wu w B l s,λi a=>?_⟩;have t:=Jb M ((C<|aug w f b i).mpr (.gen ⟨i,a,rfl⟩)) w ⋯;have E:aug w f b i w=b i:=by simp[aug]
   rw[E]at t;rw[t];congr 1;unfold app Wu;rw[zA (g:=λj=>zm (λk=>f i j*(if l k=j then B k w else 0)) s) λj _=>(jD _ _ _).symm,ql];refine zA λk u=>?_;rw[z6 (i:=l k) (A k u) λj N F=>by rw[UY (NH F)];simp,UJ rfl];simp only[aug,UJ (A k u)]
  rw[UJ m]at d;exact⟨none,d,nofun,λ_=>I⟩
section
variable{wd:UX}{m k:Nat}{p:Int}{w:UK}{T:UW}
theorem mX:xQ=jk 4 (zT M1<|zT UG UH):=rfl
theorem KP(b:Bool):g4 (.str (xS (ij b))) (.str "l")=da (.bl b):=by cases b<;>kernel_rfl
theorem YY(I:Pr p)(J:∀k,wd k<=16)(L:∀i j,i<gm w wd k->j<f9 w wd k->0<=T k i j/\T k i j<p)(u:Vc)(Z:∀i,i<wd k->0<=u i/\u i<p):
 ∃o:Option Vc,xQ [.int p,vn w wd T k,.tup (zG (wd k) u)]=da (.val<|oD (wd<|k+1) o)/\(∀y,o=da y->∀c,c<wd (k+1)->0<=y c/\y c<p)/\
  (w k=dt->(o=none->∀c,c<wd (k+1)->app (T k) (wd k) u c%p=0)/\∀y,o=da y->(∀c,c<wd (k+1)->app (T k) (wd k) u c%p=y c%p)/\∃c,c<wd (k+1)/\y c%p≠0)/\
  (w k=dj->(o=none->¬∃y:Vc,∀c,c<wd k->app (T k) (wd<|k+1) y c%p=u c%p)/\∀y,o=da y->∀c,c<wd k->app (T k) (wd<|k+1) y c%p=u c%p):=by
 have E:=jl;have F:=I.le;have C:=J k;have B:=J<|k+1;rw[mX];cases hw:w k with
 |true=>
  have b:gm w wd k=wd k:=by unfold gm;rw[hw];rfl
  have O:f9 w wd k=wd (k+1):=by unfold f9;rw[hw];rfl
  obtain⟨o,r,a,d⟩:=bF I (h:=wd k) (w:=wd<|k+1) ⋯ ⋯ (T k) u Z;refine⟨o,?_,λy e c _=>(a y e).1 c,nofun,λ_=>⟨d,λy e=>(a y e).2⟩⟩;refine jf ?_;have U:=KP dj;have t:M1 (z9 4 [.int p,vn w wd T k,.tup (zG (wd k) u)])=da (.ret<|.val<|oD (wd<|k+1) o):=by simp[M1,z9,MI,yv,hw,U,b,O,r]
  rw[jP,t];rfl
 | false=>
  have b:gm w wd k=wd (k+1):=by unfold gm;rw[hw];rfl
  have O:f9 w wd k=wd k:=by unfold f9;rw[hw];rfl
  rw[b,O]at L;have Y:=Yb (p:=p) (h:=wd<|k+1) (w:=wd k) .T (T k) u I.pos ⋯ ⋯ λi j x A=>by have:=L i j x A;omega
  simp only[t5]at Y;have U:=KP dt;have n:=WO (λi=>zm (λj=>T k i j*u j) (wd k)%p)<|wd<|k+1;by_cases f:∃c,c<wd (k+1)/\zm (λj=>T k c j*u j) (wd k)%p≠0
  ·refine⟨da λi=>zm (λj=>T k i j*u j) (wd k)%p,?_,(λy e c _=>by cases e;exact⟨NX _ (by have:=I.pos;omega),NF _ I.pos⟩),λ_=>⟨nofun,(λy e=>by cases e;exact⟨(λc _=>by rw[NM];rfl),(by obtain⟨c,a,d⟩:=f;exact⟨c,a,(by rw[NM];exact d)⟩)⟩)⟩,nofun⟩
   refine jf<|zw (γ':=[.val (.int p),.val<|vn w wd T k,.val<|.tup<|zG (wd k) u,.no]) ?_ (zw (γ':=[.val (.int p),.val<|vn w wd T k,.val<|.tup<|zG (wd k) u,.val (.tup<|zG (wd<|k+1) λi=>zm (λj=>T k i j*u j) (wd k)%p)]) ?_ ?_)
   ·simp[M1,z9,MI,yv,hw,U]
   ·simp[UG,yv,b,O,Y]
   ·have g:(ME<|wd<|k+1).any (λi=>(zm (λj=>T k i j*u j) (wd k)%p) != 0)=dj:=by
     obtain⟨c,a,d⟩:=f;exact Um.mpr ⟨c,MG.mpr a,by simpa using d⟩
    have l:Al (zk 3) [.val (.int p),.val<|vn w wd T k,.val<|.tup<|zG (wd k) u,.val (.tup<|zG (wd<|k+1) λi=>zm (λj=>T k i j*u j) (wd k)%p)]=da (.bl dj):=by show((X7 _).map λs=>D.bl<|s.any id)=_;rw[n];show da (D.bl<|((ME<|wd<|k+1).map λi=>(zm (λj=>T k i j*u j) (wd k)%p) != 0).any id)=_;rw[List.any_map];rw[show(id∘λi=>(zm (λj=>T k i j*u j) (wd k)%p) != 0)=λi=>(zm (λj=>T k i j*u j) (wd k)%p) != 0 from rfl,g]
    unfold UH;simp only[ZS,rq,Iq,l];rfl
  ·refine⟨none,?_,nofun,λ_=>⟨λ_ c m=>Of λz=>f ⟨c,m,z⟩,nofun⟩,nofun⟩
   refine jf<|zw (γ':=[.val (.int p),.val<|vn w wd T k,.val<|.tup<|zG (wd k) u,.no]) ?_ (zw (γ':=[.val (.int p),.val<|vn w wd T k,.val<|.tup<|zG (wd k) u,.val (.tup<|zG (wd<|k+1) λi=>zm (λj=>T k i j*u j) (wd k)%p)]) ?_ ?_)
   ·simp[M1,z9,MI,yv,hw,U]
   ·simp[UG,yv,b,O,Y]
   ·have g:(ME<|wd<|k+1).any (λi=>(zm (λj=>T k i j*u j) (wd k)%p) != 0)=dt:=List.any_eq_false.mpr λc m z=>f ⟨c,MG.mp m,by simpa using z⟩
    have l:Al (zk 3) [.val (.int p),.val<|vn w wd T k,.val<|.tup<|zG (wd k) u,.val (.tup<|zG (wd<|k+1) λi=>zm (λj=>T k i j*u j) (wd k)%p)]=da (.bl dt):=by show((X7 _).map λs=>D.bl<|s.any id)=_;rw[n];show da (D.bl<|((ME<|wd<|k+1).map λi=>(zm (λj=>T k i j*u j) (wd k)%p) != 0).any id)=_;rw[List.any_map];rw[show(id∘λi=>(zm (λj=>T k i j*u j) (wd k)%p) != 0)=λi=>(zm (λj=>T k i j*u j) (wd k)%p) != 0 from rfl,g]
    unfold UH;simp only[ZS,rq,Iq,l];rfl
end
section
variable{wd:UX}{m k:Nat}{p:Int}{w:UK}{T:UW}
theorem ny(h:1<=n):i0 n (-1)=da (n-1):=by unfold i0;rw[UY ⋯,UJ ⋯];congr 1;omega
theorem gi(I:b.s+b.n=k+1)(y:Vc):kZ wd (ni k b<|some y)=kZ wd b++[D.tup (zG (wd<|k+1) y)]:=by
 unfold kZ ni;dsimp only;rw[OH,NU];congr 1
 ·refine Ni λi a=>?_
  have a:=MG.mp a;rw[UY ⋯]
 ·simp[I]
theorem dO:yw=jk 4 (zT H_ U4):=rfl
theorem lL(z:1<=b.n)(O:b.s+b.n=k+1)(J:k<=20)(e:xQ [.int p,vn w wd T k,.tup (zG (wd k)<|b.v k)]=da (.val<|oD (wd<|k+1) o)):
 yw [.int p,vn w wd T k,qi wd b]=da (.val<|qi wd<|ni k b o):=by
 have j:=jl;have f:=ny z;have I:=ay (wd:=wd) (b:=b) (i:=b.n-1) ⋯;rw[show b.s+(b.n-1)=k by omega]at I;have h:b.n-1<b.n:=by omega
 rw[dO];refine jf<|zw (γ':=[.val (.int p),.val<|vn w wd T k,.val<|qi wd b,.val (oD (wd<|k+1) o)]) ?_ ?_
 ·unfold H_
  have a:dv (zJ<|dv (zk 2)<|zu<|.int 1) (sC<|zu<|.int 1) (z9 4 [.int p,vn w wd T k,qi wd b])=da (.tup<|zG (wd k)<|b.v k):=by have U:∀g:Ctx,sC (zu<|.int 1) g=da (.int (-1)):=λ_=>rfl;simp[z9,MI,f,U];exact I
  simp only[xY,xO,jO,kQ,a];simp[z9,MI,e]
 ·cases o with
  |none=>simp[U4,oD,Ej,ni]
  |some y=>
   have d:b.n+1<=lim:=by omega
   have Y:=gi (wd:=wd) O y;simp[U4,oD,Ej,d,qv];unfold qi;rw[Y];rfl
noncomputable def iR(p:Int)(w:UK)(wd:UX)(T:UW)(k:Nat)(L:List Vc):Prop:=
 if w k=dj then ∃q K l s,L=(ME q).map K/\i3 p (wd<|k+1) q K l/\(∀v,Span p (wd<|k+1) (eL q K) v↔A8 p (wd k) (wd<|k+1) (T k) v)/\Rk p (wd k) (wd<|k+1) (λj i=>T k i j) s/\q+s=wd (k+1)
 else ∃r B l,i3 p (wd<|k+1) r B l/\(∀v,Span p (wd<|k+1) (eL r B) v↔Span p (wd<|k+1) (eL (wd k) λj i=>T k i j) v)/\L=((ME<|wd<|k+1).filter λ(c:Nat)=> !decide ((c:Int)∈(ME r).map λj=>((l j:Nat):Int))).map jX
theorem ub:yP=jk 3 (zT Pt<|zT y_ z_):=rfl
theorem XG(l:UX):∀L:List Nat,KG (L.map λj=>D.int ((l j:Nat):Int))=da (L.map λj=>((l j:Nat):Int))
 |[]=>rfl
 |j::L=>by simp[KG,XG l L]
theorem eV(I:i3 p n r B l):r<=n:=by
 have mono:∀k,k<r->k<=l k:=by
  intro k
  induction k with
  |zero=>intro _;omega
  |succ k U=>intro Y;have:=U ⋯;have:=I.mono k (k+1) ⋯ Y;omega
 cases r with
 |zero=>omega
 |succ O=>have:=mono O ⋯;have:=I.lt O ⋯;omega
theorem gW(n:Nat):xy (zX n n λi j=>if i=j then 1 else 0)=(ME n).map λ(i:Nat)=>D.tup [.int i,.tup (zG n<|jX i)]:=by unfold xy zX;simp only[Nf,Og];refine Ni λi a=>?_;have a:=MG.mp a;simp[a];rfl
theorem YZ(J:Pr p)(z:∀k,wd k<=16):∃L:List Vc,iR p w wd T k L/\yP [.int p,vn w wd T k]=da (.own<|L.map λy=>D.tup<|zG (wd<|k+1) y):=by
 have G:=jl;have F:=z k;have as:=z<|k+1;rw[ub];unfold iR;cases hw:w k with
 |true=>
  have a:gm w wd k=wd k:=by unfold gm;rw[hw];rfl
  have U:f9 w wd k=wd (k+1):=by unfold f9;rw[hw];rfl
  obtain⟨q,K,l,s,e,I,f,E,u⟩:=yQ J (h:=wd k) (w:=wd<|k+1) ⋯ ⋯<|T k;refine⟨(ME q).map K,by rw[UJ rfl];exact⟨q,K,l,s,rfl,I,f,E,u⟩,jf ?_⟩;have Y:=KP dj;have d:Pt (z9 3 [.int p,vn w wd T k])=da (.ret<|.own<|zX q (wd<|k+1) K):=by simp[Pt,z9,MI,yv,hw,Y,a,U,e]
  rw[jP,d,NB];rfl
 | false=>
  have a:gm w wd k=wd (k+1):=by unfold gm;rw[hw];rfl
  have U:f9 w wd k=wd k:=by unfold f9;rw[hw];rfl
  obtain⟨r,B,l,e,I,f⟩:=X0 J (h:=wd<|k+1) (w:=wd k) ⋯ ⋯<|T k;have H:=eV I;have x:r<=lim:=by omega
  have b:wd (k+1)<=lim:=by omega
  refine⟨_,by rw[UY ⋯];exact⟨r,B,l,I,f,rfl⟩,?_⟩;have Y:=KP dt;have A:zY (.nm 0) jt (zD qK<|zb (zc 0) zF) [.no] (zX r (wd<|k+1) B)=da ((ME r).map λj=>D.int ((l j:Nat):Int)):=by unfold zX;refine zC _ _ λj O=>zB rfl rfl ?_;have O:=MG.mp O;have e:=vy b (B j) (I.lt j O) (λi g=>I.o7 j i O g) (by rw[I.one j O];decide);simp[e]
  have C:zY (.tp [0,1]) (sB<|Kf (zc 0)<|zk 2) (zc 1) [.no,.no,.val (.lst<|(ME r).map λj=>D.int ((l j:Nat):Int))] ((ME<|wd<|k+1).map λ(i:Nat)=>D.tup [.int i,.tup (zG (wd<|k+1)<|jX i)]) =
   da (((ME<|wd<|k+1).filter λ(c:Nat)=> !decide ((c:Int)∈(ME r).map λj=>((l j:Nat):Int))).map λ(i:Nat)=>D.tup<|zG (wd<|k+1)<|jX i):=by
   refine jw (λ(c:Nat)=> !decide ((c:Int)∈(ME r).map λj=>((l j:Nat):Int))) (λ(i:Nat)=>D.tup<|zG (wd<|k+1)<|jX i) _ λi g=>⟨_,rfl,?_,λ_=>rfl⟩;have im:=XG l<|ME r;show(Kf (zc 0) (zk 2) [.val (.int i),_,.val (.lst<|(ME r).map λj=>D.int ((l j:Nat):Int))]).bind B6=_;show((KG<|(ME r).map λj=>D.int ((l j:Nat):Int)).map λl=>D.bl<|!decide ((i:Int)∈l)).bind B6=_;rw[im];rfl
  have d:=yx (n:=wd<|k+1) b;refine jf<|zw (γ':=[.val (.int p),.val<|vn w wd T k,.no]) ?_ (zw (γ':=[.val (.int p),.val<|vn w wd T k,.val (.lst<|(ME r).map λj=>D.int ((l j:Nat):Int))]) ?_ ?_)
  ·simp[Pt,z9,MI,yv,hw,Y]
  ·simp[y_,jo,yv,a,U,e,x,A]
  ·have m:jx (jZ (gm w wd k) (f9 w wd k)<|T k)=da (.T,[.int (wd (k+1):Nat),.int (wd k:Nat),.tup (zX (wd<|k+1) (wd k)<|T k)]):=by rw[a,U];rfl
   have o:jx (jZ (wd<|k+1) (wd<|k+1) λi j=>if i=j then 1 else 0)=da (.T,[.int (wd (k+1):Nat),.int (wd (k+1):Nat),.tup (zX (wd<|k+1) (wd<|k+1) λi j=>if i=j then 1 else 0)]):=rfl;have t:=gW<|wd<|k+1;simp[z_,jo,yv,m,d,o,t,b];rw[C];exact congrArg da (congrArg (List.map _)<|List.filter_congr λc _=>by simp)
end
section
variable{wd:UX}{m k r N:Nat}{p:Int}{w:UK}{T:UW}{B:Nat->Vc}{l:UX}{A:Nat->g9}
theorem pH(O:i3 p N r B l){j:Nat}(I:j<r):o4 r l (l j)=da j:=by
 cases h:o4 r l (l j)with
 |none=>exact absurd rfl<|Jk h j I
 |some i=>
  obtain⟨a,b⟩:=xT h;rw[au O.mono a I b]
theorem V9{a b:List Nat}(z:a.Nodup)(I:b.Nodup)(h:∀x,x∈a↔x∈b):a.length=b.length:=((List.perm_ext_iff_of_nodup z I).mpr h).length_eq
theorem KU(I:i3 p N r B l):(ME N).countP (λi=>(o4 r l i).isSome)=r:=by
 rw[OE];have e:((ME N).filter λi=>(o4 r l i).isSome).length=((ME r).map l).length:=by
  refine V9 (SN.sublist List.filter_sublist) ?_ λx=>?_
  ·rw[List.nodup_iff_pairwise_ne,RE]
   refine RP (λ{a b} k O h=>?_)<|RD (n:=r);have:=I.mono a b h<|MG.mp O;omega
  ·rw[Nl,Ny]
   constructor
   ·rintro⟨d,f⟩
    obtain⟨j,U⟩:=Oa.mp f;obtain⟨Y,g⟩:=xT U;exact⟨j,MG.mpr Y,g⟩
   ·rintro⟨j,d,f⟩
    have d:=MG.mp d;subst f;exact⟨MG.mpr<|I.lt j d,by rw[pH I d];rfl⟩
 rw[e];simp
theorem iw(q:UK)(N:Nat):(ME N).countP q+(ME N).countP (λi=> !q i)=N:=by
 have:=Ub q (l:=ME N);rw[Og]at this;rw[this];congr 1
 ·rw[<-this]
 ·rw[<-this]
  exact Pq λi _=>by simp
theorem GT(I:∀j,j<N->(A j).has k=dj)(t:Vc)(c:Nat):t9 p A N t k c%p=app (λi j=>(A j).v k i) N t c%p:=by unfold t9 app;rw[NM];congr 1;exact zA λj O=>by rw[UJ (I j O),Oz]
theorem Zm(I:∀j,j<N->(A j).has k=dj)(h:o4 r l i=da j)(c:Nat):(i5 p A N r B l i).v k c%p=app (λi j=>(A j).v k i) N (B j) c%p:=by unfold i5;rw[h];exact GT I (B j) c
theorem Kb(h:o4 r l i=none):i5 p A N r B l i=A i:=by unfold i5;rw[h]
theorem cM(hp:Pr p)(a5:∀k,wd k<=16)(hk:∀j,j<wd k->(A j).has k=dj)(hs:∀v:Vc,∃t,∀i,i<wd k->v i%p=app (λi j=>(A j).v k i) (wd k) t i%p)
 (Z:i3 p (wd k) r B l) (hW:∀t,Span p (wd k) (eL r B) t↔Ak p w wd T k (app (λi j=>(A j).v k i) (wd k) t)) {L:List Vc} (J:iR p w wd T k L) {nx:Nat->Option Vc}
 (hr:∀i,i<wd k->w k=dt->(nx i=none->∀c,c<wd (k+1)->app (T k) (wd k) ((i5 p A (wd k) r B l i).v k) c%p=0)/\∀y,nx i=da y->(∀c,c<wd (k+1)->app (T k) (wd k) ((i5 p A (wd k) r B l i).v k) c%p=y c%p)/\∃c,c<wd (k+1)/\y c%p≠0)
 (hl:∀i,i<wd k->w k=dj->(nx i=none->¬∃y:Vc,∀c,c<wd k->app (T k) (wd<|k+1) y c%p=(i5 p A (wd k) r B l i).v k c%p)/\∀y,nx i=da y->∀c,c<wd k->app (T k) (wd<|k+1) y c%p=(i5 p A (wd k) r B l i).v k c%p):
 (∀y,y∈L->∀c,c<wd (k+1)->0<=y c/\y c<p)/\(∀y,y∈L->w k=dj->∀c,c<wd k->app (T k) (wd<|k+1) y c%p=0)/\
   (∀v,Span p (wd<|k+1) (λg=>(∃i,i<wd k/\nx i=da g)\/g∈L) v)/\(ME<|wd k).countP (λi=>(nx i).isSome)+L.length=wd (k+1):=by
 have two:=hp.two;cases hw:w k with
 | false=>
  have u:∀t,Span p (wd k) (eL r B) t↔A8 p (wd<|k+1) (wd k) (T k) (app (λi j=>(A j).v k i) (wd k) t):=λt=>by have:=hW t;unfold Ak at this;rw[hw,UY ⋯]at this;exact this
  unfold iR at J;rw[hw,UY ⋯]at J;obtain⟨o,B2,n,G,X,U⟩:=J;obtain⟨g1,g2,g3,F⟩:=AK hp (a5 k) (a5<|k+1) hs Z u G X;have b9:∀c,c<wd (k+1)->(∀j,j<o->n j≠c)->jX c∈L:=λc O J=>by rw[U];refine Ny.mpr ⟨c,Nl.mpr ⟨MG.mpr O,?_⟩,rfl⟩;simp only[OO,decide_eq_false_iff_not,Ny,MG];rintro⟨j,f,h⟩;exact J j f ⋯
  have on:∀i,i<wd k->(nx i).isSome=(o4 r l i).isNone:=λi d=>by
   cases b:o4 r l i with
   | none=>
    obtain⟨c,f,h⟩:=g2 i d<|Jk b;cases I:nx i with
    |some y=>rfl
    |none=>
     have:=(hr i d hw).1 I c f;rw[Kb b]at this;exact absurd this h
   | some j=>
    obtain⟨f,h⟩:=xT b;cases I:nx i with
    |none=>rfl
    |some y=>
     obtain⟨e,c,H,W⟩:=(hr i d hw).2 y I;have z:=g1 j f c H;rw[<-xB (λa _=>Zm (B:=B) (r:=r) (l:=l) hk b a) c,e c H]at z;exact absurd z W
  refine⟨λy I c O=>?_,(λy I z=>by cases z),λv=>F _ (λc O x=>?_) (λc O x=>.gen (.inr<|b9 c O x)) v,?_⟩
  ·rw[U]at I
   obtain⟨i,_,rfl⟩:=Ny.mp I;unfold jX;split<;>omega
  ·have b:o4 r l c=none:=by
    cases b:o4 r l c with
    |none=>rfl
    |some j=>exact absurd (xT b).2 (x j (xT b).1)
   have m:=on c O;rw[b]at m;obtain⟨y,I⟩:=Oa.mp m;refine(Span.gen<|.inl ⟨c,O,I⟩).congr λi d=>?_;have:=((hr c O hw).2 y I).1 i d;rw[Kb b]at this;exact this
  ·have E:(ME<|wd k).countP (λi=>(nx i).isSome)=(ME<|wd k).countP λi=> !(o4 r l i).isSome:=Pq λi d=>by
    rw[on i (MG.mp d)];cases o4 r l i<;>simp
   have Q:=iw (λi=>(o4 r l i).isSome)<|wd k;rw[KU Z]at Q;have R:=iw (λi=>(o4 o n i).isSome)<|wd<|k+1;rw[KU G]at R;have S:L.length=(ME<|wd<|k+1).countP λi=> !(o4 o n i).isSome:=by
    rw[U,Nf,<-OE];refine Pq λi d=>?_;cases b:o4 o n i with
    | none=>
     have:=Jk b;simp only[OO,decide_eq_false_iff_not,Ny,MG];constructor
     ·intro _;rfl
     ·rintro _ ⟨j,f,h⟩
      exact this j f ⋯
    |some j=>
     obtain⟨f,h⟩:=xT b;simp only[OO,decide_eq_false_iff_not,Ny,MG];constructor
     ·intro z;exact absurd ⟨j,f,by rw[h]⟩ z
     ·intro z;cases z
   rw[E,S];omega
 | true=>
  have u:∀t,Span p (wd k) (eL r B) t↔Span p (wd k) (eL (wd<|k+1) λj i=>T k i j) (app (λi j=>(A j).v k i) (wd k) t):=λt=>by have:=hW t;unfold Ak at this;rw[hw,UJ rfl]at this;exact this
  unfold iR at J;rw[hw,UJ rfl]at J;obtain⟨q,K,lK,s,U,M,as,N,bl⟩:=J;obtain⟨g1,g2,g3,F⟩:=AL hp (a5 k) (a5<|k+1) hs Z u as N bl;have on:∀i,i<wd k->(nx i).isSome=(o4 r l i).isSome:=λi d=>by
   cases b:o4 r l i with
   | none=>
    cases I:nx i with
    |none=>rfl
    |some y=>
     have:=(hl i d hw).2 y I;rw[Kb b]at this;exact absurd ⟨y,this⟩<|g2 i d<|Jk b
   | some j=>
    obtain⟨f,h⟩:=xT b;cases I:nx i with
    |some y=>rfl
    |none=>
     obtain⟨y,P⟩:=g1 j f;exact absurd ⟨y,λc O=>by rw[P c O,Zm hk b c]⟩<|(hl i d hw).1 I
  refine⟨λy I c O=>?_,λy I _ c O=>?_,λv=>F _ (λj=>(nx<|l j).getD λ_=>0) (λj Y=>?_) (λj Y=>?_) v,?_⟩
  ·rw[U]at I
   obtain⟨j,Y,rfl⟩:=Ny.mp I;exact M.n7 j c (MG.mp Y) O
  ·rw[U]at I
   obtain⟨j,Y,rfl⟩:=Ny.mp I;exact(as<|K j).mp (.gen ⟨j,MG.mp Y,rfl⟩) c O
  ·have b:=pH Z Y
   have C:=Z.lt j Y;have m:=on (l j) C;rw[b]at m;obtain⟨y,I⟩:=Oa.mp m;rw[I];refine⟨.gen<|.inl ⟨l j,C,I⟩,λc O=>?_⟩;have:=(hl (l j) C hw).2 y I c O;rw[Zm hk b c]at this;exact this
  ·refine .gen (.inr ?_)
   rw[U];exact Ny.mpr ⟨j,MG.mpr Y,rfl⟩
  ·have E:(ME<|wd k).countP (λi=>(nx i).isSome)=(ME<|wd k).countP λi=>(o4 r l i).isSome:=Pq λi d=>by
    rw[on i (MG.mp d)]
   rw[E,KU Z,U,Nf,Og];omega
end
section
variable{wd:UX}{m k:Nat}{p:Int}{w:UK}{T:UW}
theorem gP:QN=jk 9 (zT q_<|zT r_<|zT s_<|zT t_<|zT u_<|zT v_ T5):=rfl
theorem GQ(y:Vc):qi wd (r6 k y)=.tup [.int ((k:Int)+1),.tup [.tup (zG (wd<|k+1) y)]]:=by unfold qi r6 kZ;simp
theorem nH(Z:Pr p)(O:∀k,wd k<=16)(hm:m<=5)(ae:k<m)(hT:∀i j,i<gm w wd k->j<f9 w wd k->0<=T k i j/\T k i j<p){J:List g9}(I:Ds p w wd T k J)(b0:J.length<=100):
 ∃a7,Ds p w wd T (k+1) a7/\a7.length<=J.length+wd (k+1)/\QN [zR p m w wd T,.int k,.lst (J.map<|qi wd)]=da (.val<|.lst<|a7.map<|qi wd):=by
 have hl:=jl;have R:=Z.pos;have M:J.length<=lim:=by omega
 have F:(J.filter λb=>b.has k).length=wd k:=by rw[<-OE];exact I.ct k<|MM _
 let A:Nat->g9:=λj=>(J.filter λb=>b.has k).getD j iY;have P:(J.filter λb=>b.has k)=(ME<|wd k).map A:=by rw[<-F];exact(jG iY _).symm
 have Q:∀j,j<wd k->A j∈J/\(A j).has k=dj:=λj U=>by
  have:A j∈J.filter λb=>b.has k:=by show(J.filter λb=>b.has k).getD j iY∈_;rw[MK,MH ⋯];exact OI _
  have:=Nl.mp this;exact⟨this.1,by simpa using this.2⟩
 have G:∀j,j<wd k->ri p w wd T k (A j):=λj U=>I.ok _ (Q j U).1;have hO:∀i c,i<c->c<wd k->Ord w (A i) (A c):=λi c d u=>by have:=Pj.mp I.od i c ⋯ ⋯ d;show Ord w ((J.filter λb=>b.has k).getD i iY) ((J.filter λb=>b.has k).getD c iY);rw[MK,MH ⋯,MK,MH ⋯];exact this
 have E:∀j,j<wd k->(A j).has k=dj:=λj U=>(Q j U).2;obtain⟨r,B,l,H,hW,eS⟩:=bH (T:=T) (w:=w) (A:=A) (N:=wd k) (k:=k) Z (λj U=>by have:=(G j U).le;omega) E ae (O k) hm O λj rm i U hh a=>(G j U).n7 rm i hh a;have kr:∀i,i<wd k->ri p w wd T k (i5 p A (wd k) r B l i):=λi a=>oK R H G E hO a;have ap:∀i,i<wd k->(i5 p A (wd k) r B l i).has k=dj:=λi a=>by rw[VM];exact E i a
 have ex:∀i,∃o:Option Vc,i<wd k->(xQ [.int p,vn w wd T k,.tup (zG (wd k)<|(i5 p A (wd k) r B l i).v k)]=da (.val<|oD (wd<|k+1) o)/\(∀y,o=da y->∀c,c<wd (k+1)->0<=y c/\y c<p)/\
  (w k=dt->(o=none->∀c,c<wd (k+1)->app (T k) (wd k) ((i5 p A (wd k) r B l i).v k) c%p=0)/\∀y,o=da y->(∀c,c<wd (k+1)->app (T k) (wd k) ((i5 p A (wd k) r B l i).v k) c%p=y c%p)/\∃c,c<wd (k+1)/\y c%p≠0)/\
  (w k=dj->(o=none->¬∃y:Vc,∀c,c<wd k->app (T k) (wd<|k+1) y c%p=(i5 p A (wd k) r B l i).v k c%p)/\∀y,o=da y->∀c,c<wd k->app (T k) (wd<|k+1) y c%p=(i5 p A (wd k) r B l i).v k c%p)):=λi=>by
  by_cases a:i<wd k
  ·obtain⟨o,h⟩:=YY (T:=T) (w:=w) (k:=k) Z O hT ((i5 p A (wd k) r B l i).v k) λc hc=>(kr i a).n7 k c (ap i a) hc
   exact⟨o,λ_=>h⟩
  ·exact⟨none,λz=>absurd z a⟩
 obtain⟨nx,s⟩:=Sr ex;obtain⟨Y,hN,eN⟩:=YZ (T:=T) (w:=w) (k:=k) Z O;have hs:∀v:Vc,∃t,∀i,i<wd k->v i%p=app (λi j=>(A j).v k i) (wd k) t i%p:=λv=>by
  have hv:Span p (wd k) (eL (wd k) λj=>(A j).v k) v:=(I.sp k (MM _) v).le λg hg=>by obtain⟨b,d,u,rfl⟩:=hg;have as:b∈J.filter λb=>b.has k:=Nl.mpr ⟨d,by simpa using u⟩;rw[P]at as;obtain⟨j,U,rfl⟩:=Ny.mp as;exact .gen ⟨j,MG.mp U,rfl⟩
  obtain⟨t,ht⟩:=Yy hv;exact⟨t,λi a=>by rw[ht i a];unfold app;rw[xJ]⟩
 obtain⟨f1,f2,f3,f4⟩:=cM (T:=T) (w:=w) (A:=A) Z O E hs H hW hN (nx:=nx) (λi a=>(s i a).2.2.1) λi a=>(s i a).2.2.2;refine⟨vQ p k w J A (wd k) r B l nx Y,gO R I F (λ_=>rfl) H (λi y a e=>(s i a).2.1 y e) f1 (λi a e f=>((s i a).2.2.1 f).1 e) (λi y a e f=>(((s i a).2.2.1 f).2 y e).1) (λi y a e f=>((s i a).2.2.2 f).2 y e) f2 f3 f4,?_,?_⟩
 ·have d:(J.filter λb=> !b.has k).length+wd k=J.length:=by
   have:=Ub (λb:g9=>b.has k) (l:=J);rw[<-F,<-OE,<-OE,this];have e:J.countP (λb=> !b.has k)=J.countP λb=>decide (¬b.has k=dj):=Pq λb _=>by simp
   rw[e];omega
  have u:=O<|k+1;unfold vQ;rw[NC];cases w k<;>simp<;>omega
 ·
  let L:D:=.lst (J.map<|qi wd);have X:zY (.nm 0) (yb<|sB<|zD j3<|zb (zc 0)<|zb (zc 1) zF) (zc 0) [.no,.val (.int k)] (J.map<|qi wd)=da ((J.filter λb=> !b.has k).map (qi wd)):=by refine jw (g:=qi wd) (λb=> !b.has k) (qi wd) J λb K=>⟨[.val (qi wd b),.val (.int k)],rfl,?_,λ_=>by rfl⟩;have e:=yM (wd:=wd) (b:=b) (by have:=(I.ok b K).le;omega) k;simp[e]
  have e4:zY (.nm 0) (sB<|zD j3<|zb (zc 0)<|zb (zc 1) zF) (zc 0) [.no,.val (.int k)] (J.map<|qi wd)=da ((ME<|wd k).map λj=>qi wd<|A j):=by
   have:((J.filter λb=>b.has k).map (qi wd))=(ME<|wd k).map λj=>qi wd (A j):=by rw[P,NB];rfl
   rw[<-this];refine jw (g:=qi wd) (λb=>b.has k) (qi wd) J λb K=>⟨[.val (qi wd b),.val (.int k)],rfl,?_,λ_=>by rfl⟩;have e:=yM (wd:=wd) (b:=b) (by have:=(I.ok b K).le;omega) k;simp[e]
  have e5:zY (.nm 0) jt (zD yw<|zb (zc 1)<|zb (zc 2)<|zb (zc 0) zF) [.no,.val<|.int p,.val (vn w wd T k)] ((ME<|wd k).map λi=>qi wd<|i5 p A (wd k) r B l i)=da ((ME<|wd k).map λi=>qi wd<|ni k (i5 p A (wd k) r B l i)<|nx i):=by refine zC _ _ λi a=>zB rfl rfl ?_;have a:=MG.mp a;have d:=q5.mp<|ap i a;have e:=lL (p:=p) (kr i a).n1 (by have:=(kr i a).le;omega) (show k<=20 by omega) (s i a).1;simp[e]
  have e6:zY (.nm 0) jt (qF<|zb (zH qv (zc 1)<|zu<|.int 1)<|zb (qF<|zb (zc 0) zF) zF) [.no,.val (.int k)] (Y.map λy=>D.tup<|zG (wd<|k+1) y)=da ((Y.map<|r6 k).map (qi wd)):=by rw[NB];refine zC _ _ λy hy=>zB rfl rfl ?_;show _=da (qi wd<|r6 k y);rw[GQ];rfl
  have S:Y.length<=lim:=by have:=O<|k+1;omega
  have W:wd k<=lim:=by have:=O k;omega
  let n:D:=.lst ((J.filter λb=> !b.has k).map (qi wd));let C:D:=.lst ((ME<|wd k).map λi=>qi wd<|i5 p A (wd k) r B l i);let x:D:=.lst ((ME<|wd k).map λi=>qi wd<|ni k (i5 p A (wd k) r B l i)<|nx i);let Ne:D:=.lst ((Y.map<|r6 k).map (qi wd));rw[gP];refine jf (zw (γ':=[.val (zR p m w wd T),.val<|.int k,.val L,.val<|.int p,.no,.no,.no,.no,.no]) ?_
   (zw (γ':=[.val (zR p m w wd T),.val<|.int k,.val L,.val<|.int p,.val<|vn w wd T k,.no,.no,.no,.no]) ?_
   (zw (γ':=[.val (zR p m w wd T),.val<|.int k,.val L,.val<|.int p,.val<|vn w wd T k,.val n,.no,.no,.no]) ?_
   (zw (γ':=[.val (zR p m w wd T),.val<|.int k,.val L,.val<|.int p,.val<|vn w wd T k,.val n,.val C,.no,.no]) ?_
   (zw (γ':=[.val (zR p m w wd T),.val<|.int k,.val L,.val<|.int p,.val<|vn w wd T k,.val n,.val C,.val x,.no]) ?_
   (zw (γ':=[.val (zR p m w wd T),.val<|.int k,.val L,.val<|.int p,.val<|vn w wd T k,.val n,.val C,.val x,.val Ne]) ?_ ?_))))))
  ·simp[q_,z9,MI,y9,L]
  ·simp[r_,y9,QH,ae]
  ·simp[s_,jo,L,M,X,n]
  ·simp[t_,jo,L,M,e4,eS,C]
  ·simp[u_,jo,C,W,e5,x]
  ·simp[v_,jo,eN,S]
   rw[e6];simp[Ne]
  ·have c9:(J.filter λb=> !b.has k).length<=100:=NJ (List.length_filter_le _ _) b0
   have q1:=O k;have q2:=O<|k+1;cases f:w k with
   |false=>
    have eq:=KO dt;have d:Y.length+wd k<=lim:=by omega
    have u:(J.filter λb=> !b.has k).length+(Y.length+wd k)<=lim:=by omega
    simp[T5,yv,f,eq,n,x,Ne,vQ,d,u]
   |true=>
    have eq:=KO dj;have d:wd k+Y.length<=lim:=by omega
    have u:(J.filter λb=> !b.has k).length+(wd k+Y.length)<=lim:=by omega
    simp[T5,yv,f,eq,n,x,Ne,vQ,d,u]
end
section
variable{wd:UX}{m k:Nat}{p:Int}{w:UK}{T:UW}
def lq(c:Nat):g9:=⟨0,1,λ_=>jX c⟩
theorem uB(Y:Pr p):Ds p w wd T 0 ((ME<|wd 0).map lq):=by
 have two:=Y.two;have a:∀b,b∈(ME<|wd 0).map lq ↔ ∃c,c<wd 0/\b=lq c:=λb=>by rw[Ny];exact⟨λ⟨c,d,e⟩=>⟨c,MG.mp d,e.symm⟩,λ⟨c,d,e⟩=>⟨c,MG.mpr d,e.symm⟩⟩
 have U:∀c,(lq c).has 0=dj:=λc=>q5.mpr ⟨MM _,by show 0<0+1;omega⟩;refine⟨λb I=>?_,λr h v=>?_,λr h=>?_,?_⟩
 ·obtain⟨c,O,rfl⟩:=(a b).mp I
  exact⟨MM _,by show 0+1<=0+1;omega,λr i _ _=>by show 0<=jX c i/\jX c i<p;unfold jX;split<;>omega,λj k=>by omega⟩
 ·have:r=0:=by omega
  subst this;refine(Vi (wd 0) v).le λg f=>?_;obtain⟨c,O,rfl⟩:=f;exact .gen ⟨lq c,(a _).mpr ⟨c,O,rfl⟩,U c,rfl⟩
 ·have:r=0:=by omega
  subst this;rw[List.countP_eq_length.mpr λb I=>?_]
  ·simp
  ·obtain⟨c,O,rfl⟩:=(a b).mp I
   exact U c
 ·refine SE _ ?_
  rw[RE];exact Pj.mpr λ_ _ _ _ _=>⟨λz=>absurd z<|NP 0,λz=>absurd z<|NP 0⟩
theorem K7:yR=jk 3 (zT S3<|zT c_ d_):=rfl
def XD(b:g9):Int×Int:=((b.s:Int),((b.s+b.n-1:Nat):Int))
theorem gr:∀z:List g9,(∀b,b∈z->1<=b.n/\b.s+b.n<=100)->Y7 j7 (z.map<|qi wd)=da (z.map XD)
 |[],_=>rfl
 |b::z,h=>by have a:=h b Nc;have e:=Xq (wd:=wd) a.1 a.2;have I:=gr z λb O=>h b<|Ng _ O;simp only[Nn,Y7,e,I,MJ];rfl
def kE(z:List g9):List g9:=(kK<|z.map XD).map λi=>z.getD i iY
theorem JC(z:List g9):(kE z).Perm z:=by have h:=qU<|z.map XD;rw[Nf]at h;have:=h.map λi=>z.getD i iY;rw[jG]at this;exact this
theorem Yz(z:List g9):(kE z).map XD=vU (z.map XD):=by unfold kE vU;rw[NB];refine Ni λi a=>?_;have h:=qU<|z.map XD;have a:=MG.mp<|h.mem_iff.mp a;rw[Nf]at a;simp[a]
theorem K6{b:Nat}(Y:Pr p)(O:b<=16)(Z:b*(m+1)<=48)(U:∀k,wd k<=b)(L:m<=5)(J:∀k i j,k<m->i<gm w wd k->j<f9 w wd k->0<=T k i j/\T k i j<p):
 ∃z,Ds p w wd T m z/\z.length<=48/\yR [zR p m w wd T]=da (.own<|(kE z).map (qi wd)):=by
 have P:=jl;have N:=U 0;have u:∀k,wd k<=16:=λk=>NJ (U k) O;have g:wd 0<=lim:=by omega
 have E:=yx (n:=wd 0) g;have t:jx (jZ (wd 0) (wd 0) λi j=>if i=j then 1 else 0)=da (.T,[.int (wd 0:Nat),.int (wd 0:Nat),.tup (zX (wd 0) (wd 0) λi j=>if i=j then 1 else 0)]):=rfl;have A:zY (.nm 0) jt (qF<|zb (zu<|.int 0)<|zb (qF<|zb (zc 0) zF) zF) [.no] (zX (wd 0) (wd 0) λi j=>if i=j then 1 else 0)=da (((ME<|wd 0).map lq).map (qi wd)):=by rw[NB];unfold zX;refine zC _ _ λi a=>zB rfl rfl ?_;show da _=da (qi wd<|lq i);unfold qi lq kZ;simp;rfl
 have x1:S3 (z9 3 [zR p m w wd T])=da (.next [.val (zR p m w wd T),.val<|.lst<|((ME<|wd 0).map lq).map (qi wd),.no]):=by simp[S3,z9,MI,y9,E,t,jo,g];rw[A];simp
 obtain⟨K,H,z,c,I,x,rfl⟩:=ZC (T:=.nm 2) (F:=jj 1<|zD QN<|zb (zc 0)<|zb (zc 2)<|zb (zc 1) zF) (f:=Kg<|zJ<|dv (zk 0)<|zu<|.int 2)
  (λj γ=>∃z c,Ds p w wd T j z/\z.length<=b*(j+1)/\γ=[.val (zR p m w wd T),.val<|.lst<|z.map<|qi wd,c]) m ⋯ (γ:=[.val (zR p m w wd T),.val<|.lst<|((ME<|wd 0).map lq).map (qi wd),.no])
  (by simp[y9]) ⟨_,_,uB Y,by simp;omega,rfl⟩ λs o γ d=>by obtain⟨z,c,I,x,rfl⟩:=d;obtain⟨l,r,M,e⟩:=nH (T:=T) (w:=w) (k:=s) Y u L o (J s · · o) I (by have:=Nat.mul_le_mul_left b (show s+1<=m+1 by omega);omega);refine⟨_,[.val (zR p m w wd T),.val<|.lst<|l.map<|qi wd,.val (.int s)],rfl,?_,l,_,r,by have:=U<|s+1;rw[Nat.mul_succ b (s+1)];omega,rfl⟩;simp[e]
 refine⟨z,I,by omega,?_⟩;have C:=gr (wd:=wd) z λb O=>⟨(I.ok b O).n1,by have:=(I.ok b O).le;omega⟩;rw[K7];refine jf<|zw x1<|zw (show c_ _=_ from H) ?_;have y:z.length<64:=by omega
 unfold d_;have B:eB j7 (zk 1) [.val (zR p m w wd T),.val<|.lst<|z.map<|qi wd,c]=da ((kE z).map (qi wd)):=by show((Y7 j7<|z.map<|qi wd).bind λG=>if (z.map<|qi wd).length<64 then da ((kK G).map λi=>(z.map<|qi wd).getD i .el)else none)=_;rw[C];simp only[MJ,Nf,y,if_true];congr 1;unfold kE;rw[NB];refine Ni λi a=>?_;have h:=qU<|z.map XD;have a:=MG.mp<|h.mem_iff.mp a;rw[Nf]at a;simp[a]
 rw[iN,B];rfl
theorem Ds.perm(h:j'.Perm o9)(I:Ds p w wd T k o9):(∀b,b∈j'->ri p w wd T k b)/\(∀r,r<=k->∀v,Span p (wd r) (Lu j' r) v)/\∀r,r<=k->j'.countP (λb=>b.has r)=wd r:=by
 refine⟨λb U=>I.ok b<|h.mem_iff.mp U,λr O v=>(I.sp r O v).le λg Y=>?_,λr O=>?_⟩
 ·obtain⟨b,a,d,e⟩:=Y
  exact .gen ⟨b,h.mem_iff.mpr a,d,e⟩
 ·rw[h.countP_eq];exact I.ct r O
end
def qq(bs:List (Int×Int))(k:Nat):Nat:=(qt bs k).length
noncomputable def tx(w:UK)(bs:List (Int×Int))(k i j:Nat):Int:=if (qt bs<|ja w k).getD i 0=(qt bs<|zZ w k).getD j 0 then 1 else 0
def yf(m:Nat)(wd:UX)(f:UW):List TB:=(ME<|m+1).map λk=>(wd k,wd k,f k)
theorem X8(m wd f):(yf m wd f).map tD=j4 (m+1) wd f:=by unfold yf j4;rw[NB];rfl
section
variable{p:Int}{n:Nat}
theorem iW(z:Pr p)(J:n<=20)(f:UV):∃r B l,i3 p (n+n) r B l/\(∀v,Span p (n+n) (eL r B) v↔Span p (n+n) (eL n λi=>yW n (f i)<|jX i) v)/\
 kT [.int p,jZ n n f]=da (.val<|if i4 (.lst<|zX r n B) (.lst<|zX n n jX)=dj then .tup [.int n,.int n,.tup (zX r n λk j=>B k<|n+j)]else .el):=by
 have C:=jl;have I:n<=lim:=by omega
 have o:n+n<=lim:=by omega
 obtain⟨r,B,l,e,O,s⟩:=k9 z (show n+n<=100 by omega) I .L λi=>yW n (f i)<|jX i;refine⟨r,B,l,O,s,?_⟩;have U:r<=lim:=by have:r<=n+n:=V2 O.mono O.lt;omega
 have Y:=yx (n:=n) I;have a:zY (.tp [0,1]) jt (zH qv (zc 0)<|zc 1) [Cell.no,Cell.no] ((ME n).map λi=>D.tup [.tup (zG n<|f i),.tup (zG n λk=>if i=k then 1 else 0)])=da (zX n (n+n) λi=>yW n (f i)<|jX i):=by unfold zX;refine zC _ _ λj A=>zB rfl rfl ?_;simp[qv,o,Jl];rfl
 have m:=WB n n f λi j=>if i=j then 1 else 0;have u:((n:Int)+(n:Int))=((n+n:Nat):Int):=by omega
 simp only[t5]at e;rw[<-u]at e;have d:zY (.nm 0) jt (WY (zc 0) dm<|ra<|zc 1) [Cell.no,Cell.val (.int n)] (zX r (n+n) B)=da (zX r n B):=by unfold zX;refine zC _ _ λk x=>zB rfl rfl ?_;simp[aT]
 have t:zY (.nm 0) jt (WY (zc 0) (ra<|zc 1) dm) [Cell.no,Cell.val (.int n)] (zX r (n+n) B)=da (zX r n λk j=>B k<|n+j):=by unfold zX;refine zC _ _ λk x=>zB rfl rfl ?_;simp[aS]
 have b:my (.lst<|zX r n B) (.lst<|zX n n λi j=>if i=j then 1 else 0)=da (.bl<|!i4 (.lst<|zX r n B) (.lst<|zX n n jX)):=by unfold my;rw[UJ ⟨ar _ _ _,ar _ _ _⟩];rfl
 have g:∀(h w:Nat) (f:UV),jx (jZ h w f)=da (.T,[.int h,.int w,.tup (zX h w f)]):=λ_ _ _=>rfl;by_cases q:i4 (.lst<|zX r n B) (.lst<|zX n n jX)=dj
 ·rw[q]at b
  rw[UJ q];simp[kT,jk,z9,jP,g,Y,m,I,U,jo,ke,MI,a,e,d,t,b]
 ·have y:i4 (.lst<|zX r n B) (.lst<|zX n n jX)=dt:=by simpa using q
  rw[y]at b;rw[UY q];simp[kT,jk,z9,jP,g,Y,m,I,U,jo,ke,MI,a,e,d,b]
theorem WA(U:Pr p)(hn:n<=20)(L:QK p n f g)(Z:QK p n g f)(J:∀i j,i<n->j<n->0<=g i j/\g i j<p):kT [.int p,jZ n n f]=da (.val<|jZ n n g):=by
 obtain⟨r,B,l,C,o,e⟩:=iW U hn f;have two:=U.two;have one:=U.one;have x:i3 p (n+n) n (λk=>yW n (jX k)<|g k) id:={
  lt:=λk I=>by simp only[id];omega
  mono:=λk m I _=>I
  one:=λk I=>by simp only[id];rw[qb I];exact UJ rfl
  o7:=λk j I Y=>by simp only[id]at Y;rw[qb ⋯];exact UY ⋯
  wh:=λk m I E b=>by simp only[id];rw[qb E];exact UY ⋯
  n7:=λk i I a=>by
   rcases Nj i n with z|z
   ·rw[qb z];unfold jX;split<;>omega
   ·obtain⟨j,rfl⟩:∃j,i=n+j:=⟨i-n,by omega⟩
    rw[qw];exact J k j I ⋯}
 have t:∀v,Span p (n+n) (eL n λk=>yW n (jX k)<|g k) v->Span p (n+n) (eL n λi=>yW n (f i)<|jX i) v:=λv O=>O.le λs h=>by
  obtain⟨k,I,d⟩:=h;subst d;refine(Span.sum (u:=λi=>yW n (f i)<|jX i) (λi=>g k i) (m:=n) λi a=>.gen ⟨i,a,rfl⟩).congr λj Y=>?_;rcases Nj j n with z|z
  ·simp only[qb z]
   exact(Z k j I z).symm
  ·obtain⟨m,rfl⟩:∃m,j=n+m:=⟨j-n,by omega⟩
   simp only[qw];rw[z6 (i:=m) ⋯ λi _ b=>by simp[jX,b]];simp[jX]
 have w:∀v,Span p (n+n) (eL n λi=>yW n (f i)<|jX i) v->Span p (n+n) (eL n λk=>yW n (jX k)<|g k) v:=λv O=>O.le λs h=>by
  obtain⟨i,a,d⟩:=h;subst d;refine(Span.sum (u:=λk=>yW n (jX k)<|g k) (λk=>f i k) (m:=n) λk I=>.gen ⟨k,I,rfl⟩).congr λj Y=>?_;rcases Nj j n with z|z
  ·simp only[qb z]
   rw[z6 (i:=j) z λk _ b=>by simp[jX,b]];simp[jX]
  ·obtain⟨m,rfl⟩:∃m,j=n+m:=⟨j-n,by omega⟩
   simp only[qw];exact(L i m a ⋯).symm
 obtain⟨rfl,_,u⟩:=QG U C x (λv O=>w v<|(o v).mp O)<|λv O=>(o v).mpr (t v O);have y:zX r r B=zX r r jX:=aP λk i I a=>by rw[u k i I ⋯,qb a]
 have A:zX r r (λk j=>B k<|r+j)=zX r r g:=aP λk j I Y=>by rw[u k (r+j) I ⋯,qw]
 rw[e,y,UJ<|O4 _,A];rfl
end
section
variable{wd:UX}{m k N:Nat}{p:Int}{w:UK}{T:UW}{A:Nat->g9}
def m6(A:Nat->g9)(N r:Nat):List Nat:=(ME N).filter λj=>(A j).has r
def xH(A:Nat->g9)(N r:Nat):Nat->Nat->Int:=λi j=>(A<|(m6 A N r).getD j 0).v r i
theorem We{r j:Nat}(h:j<(m6 A N r).length):(m6 A N r).getD j 0<N/\(A<|(m6 A N r).getD j 0).has r=dj:=by
 have d:(m6 A N r).getD j 0∈m6 A N r:=by rw[MK,MH h];exact OI _
 obtain⟨a,b⟩:=Nl.mp d;exact⟨MG.mp a,by simpa using b⟩
theorem Ym(I:Pr p)(J:n<=16)(hs:∀v:Vc,∃t,∀i,i<n->v i%p=app f n t i%p):∃g:UV,QK p n f g/\QK p n g f/\∀i j,0<=g i j/\g i j<p:=by
 have Y:=I.pos;obtain⟨t,O⟩:=Sr λj=>hs<|jX j;refine⟨λi j=>t j i%p,?_,?_,λi j=>⟨NX _ ⋯,NF _ Y⟩⟩
 ·intro i j d U
  have e:zm (λk=>f i k*(t j k%p)) n%p=app f n (t j) i%p:=zS λk _=>wM p _ _;rw[e,<-O j i d];unfold jX sk;simp only[eq_comm]
 ·intro i j d U
  have z:∀a,a<n->app f n (λb=>zm (λk=>(t k b%p)*f k j) n-jX j b) a%p=0:=λa h=>by
   rw[QI,wZ f U,Pa];have e:app f n (λb=>zm (λk=>(t k b%p)*f k j) n) a%p=f a j%p:=by
    have l:app f n (λb=>zm (λk=>(t k b%p)*f k j) n) a=zm (λk=>f k j*app f n (λb=>t k b%p) a) n:=by rw[<-vo];congr 1;funext b;exact xJ ..
    rw[l];have m:zm (λk=>f k j*app f n (λb=>t k b%p) a) n%p=zm (λk=>f k j*jX k a) n%p:=zS λk _=>by rw[MS,xB (u:=t k) (λb _=>NM _ _) a,<-O k a h,<-MS]
    rw[m,z6 (f:=λk=>f k j*jX k a) h λk _ r=>by simp[jX,r]];simp[jX]
   rw[e];simp
  have:=J5 I J hs z i d;have o:(zm (λk=>(t k i%p)*f k j) n)%p=jX j i%p:=OT.mpr this;show zm (λk=>(t k i%p)*f k j) n%p=sk i j%p;rw[o];unfold jX sk;simp only[eq_comm]
theorem cZ:jW=jk 4 (zT g_<|zT h_<|zT i' i_):=rfl
theorem cY{b:Nat}(Z:Pr p)(hb:b<=16)(ab:b*(m+1)<=48)(J:∀k,wd k<=b)(hm:m<=5)(hT:∀k i j,k<m->i<gm w wd k->j<f9 w wd k->0<=T k i j/\T k i j<p):
 ∃(N:Nat) (A:Nat->g9) (g:UW),N<=48/\(∀j,j<N->ri p w wd T m (A j))/\(∀r,r<=m->(m6 A N r).length=wd r)/\(∀r,r<=m->QK p (wd r) (xH A N r) (g r)/\QK p (wd r) (g r) (xH A N r)/\∀i j,0<=g r i j/\g r i j<p)/\
  vU ((ME N).map λj=>XD<|A j)=((ME N).map λj=>XD<|A j)/\
  jW [zR p m w wd T]=da (.val<|kg ((ME N).map λj=>XD<|A j) (yf m wd g)<|yf m wd λr=>xH A N r):=by
 have hl:=jl;obtain⟨a,I,G,E⟩:=K6 (T:=T) (w:=w) Z hb ab J hm hT;obtain⟨ok,sp,Q⟩:=I.perm<|JC a;have H:(kE a).length=a.length:=(JC a).length_eq;let A:Nat->g9:=λj=>(kE a).getD j iY;have Y:kE a=(ME a.length).map A:=by rw[<-H];exact(jG iY _).symm
 have l:∀j,j<a.length->ri p w wd T m (A j):=λj U=>ok _ (by
  rw[Y];exact Ny.mpr ⟨j,MG.mpr U,rfl⟩)
 have cnt:∀r,r<=m->(m6 A a.length r).length=wd r:=λr O=>by have:=Q r O;rw[Y,SY,OE]at this;exact this
 have K:∀r,r<=m->∀v:Vc,∃t,∀i,i<wd r->v i%p=app (xH A a.length r) (wd r) t i%p:=λr O v=>by
  have hv:Span p (wd r) (eL (wd r) λj i=>xH A a.length r i j) v:=(sp r O v).le λgg f=>by obtain⟨b,d,u,rfl⟩:=f;rw[Y]at d;obtain⟨j,U,rfl⟩:=Ny.mp d;have M:j∈m6 A a.length r:=Nl.mpr ⟨U,by simpa using u⟩;obtain⟨i,F,e⟩:=Tt M;refine .gen ⟨i,by rw[<-cnt r O];exact F,?_⟩;funext c;show(A j).v r c=(A<|(m6 A a.length r).getD i 0).v r c;rw[MK,MH F];simp[e]
  exact DB.mp hv
 have as:∀r,∃g:UV,r<=m->QK p (wd r) (xH A a.length r) g/\QK p (wd r) g (xH A a.length r)/\∀i j,0<=g i j/\g i j<p:=λr=>by
  by_cases O:r<=m
  ·obtain⟨g,h⟩:=Ym Z (NJ (J r) hb) (K r O)
   exact⟨g,λ_=>h⟩
  ·exact⟨λ_ _=>0,λz=>absurd z O⟩
 obtain⟨g,f⟩:=Sr as;have W:(kE a).map XD=(ME a.length).map λj=>XD (A j):=by
  conv=>lhs;rw[Y,NB]
  rfl
 refine⟨a.length,A,g,G,l,cnt,f,?_,?_⟩
 ·rw[<-W,Yz]
  refine JD ?_;have:=(JC a).map XD;rw[Yz]at this;exact this
 ·have x:a.length<=lim:=by omega
  have X:((kE a).map (qi wd))=(ME a.length).map λj=>qi wd (A j):=by
   conv=>lhs;rw[Y,NB]
   rfl
  rw[X]at E;let L:D:=.lst ((ME a.length).map λj=>qi wd<|A j);have y:∀j,j<a.length->(A j).s+(A j).n<=100:=λj U=>by have:=(l j U).le;omega
  have R:zY (.tp [0,1]) jt (zD kR<|zb (zc 1)<|zb (jz<|je q9<|zb (zc 2)<|zb (zc 0) zF) zF) [.no,.no,.val L] ((ME<|m+1).map λ(i:Nat)=>D.tup [.int i,.int (wd i:Nat)])=da (j4 (m+1) wd λr=>xH A a.length r):=by unfold j4;refine zC _ _ λr O=>zB rfl rfl ?_;have O:=MG.mp O;have C:=vZ (wd:=wd) y x r;rw[aw (wd r) (λj=>(A j).v r),show((ME a.length).filter λj=>(A j).has r)=m6 A a.length r from rfl,cnt r ⋯]at C;have bl:=J r;have o:=ZJ (q:=wd r) (h:=wd r) (λi=>(A<|(m6 A a.length r).getD i 0).v r) ⋯ ⋯;simp[-MK,L,C,o];rfl
  have o:zY (.nm 0) jt (zD kT<|zb (dv (zk 1)<|zu<|.int 0)<|zb (zc 0) zF) [.no,.val (zR p m w wd T)] (j4 (m+1) wd λr=>xH A a.length r)=da (j4 (m+1) wd g):=by unfold j4;refine zC _ _ λr O=>zB rfl rfl ?_;have O:=MG.mp O;obtain⟨d,u,h3⟩:=f r ⋯;have e:=WA Z (n:=wd r) (by have:=J r;omega) d u λi j _ _=>h3 i j;simp[y9,e]
  have S:zY (.nm 0) jt (zD j7<|zb (zc 0) zF) [.no] ((ME a.length).map λj=>qi wd<|A j)=da (jc<|(ME a.length).map λj=>XD<|A j):=by unfold jc;rw[NB];refine zC _ _ λj U=>zB rfl rfl ?_;have U:=MG.mp U;have e:=Xq (wd:=wd) (l j U).n1 (y j U);simp[e];exact⟨rfl,rfl⟩
  have ew:xy (zG (m+1) λk=>(wd k:Int))=(ME<|m+1).map λ(i:Nat)=>D.tup [.int i,.int (wd i:Nat)]:=aM _ _;have B:m+1<=lim:=by omega
  have P:∀g:UW,(j4 (m+1) wd g).length=m+1:=λg=>by simp[j4]
  rw[cZ];refine jf<|zw (γ':=[.val (zR p m w wd T),.val L,.no,.no]) ?_ (zw (γ':=[.val (zR p m w wd T),.val L,.val<|.lst<|j4 (m+1) wd λr=>xH A a.length r,.no]) ?_ (zw (γ':=[.val (zR p m w wd T),.val L,.val<|.lst<|j4 (m+1) wd λr=>xH A a.length r,.val (.lst<|j4 (m+1) wd g)]) ?_ ?_))
  ·simp[g_,z9,MI,E,L]
  ·simp[h_,jo,y9,ew,B,R]
  ·simp[i',jo,P,B,o]
  ·unfold kg
   rw[X8,X8];simp[i_,jo,L,x,S]
theorem iG(I:Pr p)(O:∀k,wd k<=8)(z:m<=5)(U:∀k i j,k<m->i<gm w wd k->j<f9 w wd k->0<=T k i j/\T k i j<p):
 ∃(N:Nat) (A:Nat->g9) (g:UW),N<=48/\(∀j,j<N->ri p w wd T m (A j))/\(∀r,r<=m->(m6 A N r).length=wd r)/\(∀r,r<=m->QK p (wd r) (xH A N r) (g r)/\QK p (wd r) (g r) (xH A N r)/\∀i j,0<=g r i j/\g r i j<p)/\
  vU ((ME N).map λj=>XD<|A j)=((ME N).map λj=>XD<|A j)/\
  jW [zR p m w wd T]=da (.val<|kg ((ME N).map λj=>XD<|A j) (yf m wd g)<|yf m wd λr=>xH A N r):=cY (b:=8) I ⋯ ⋯ O z U
end
section
variable{wd:UX}{m k N:Nat}{p:Int}{w:UK}{T:UW}{A:Nat->g9}{g:UW}
def ZD(A:Nat->g9)(N:Nat):List (Int×Int):=(ME N).map λj=>XD<|A j
theorem ux{b:g9}(z:1<=b.n)(r:Nat):Fp (XD b) (r:Int)=b.has r:=by
 unfold Fp XD g9.has;dsimp only;congr 1
 ·exact decide_eq_decide.mpr ⋯
 ·exact decide_eq_decide.mpr ⋯
theorem ym(z:∀j,j<N->1<=(A j).n)(r:Nat):qt (ZD A N) (r:Int)=m6 A N r:=by unfold qt m6 ZD;simp only[Nf,Og];refine List.filter_congr λj I=>?_;have I:=MG.mp I;rw[MK,NS,Sb I];exact ux (z j I) r
theorem gz(A N r):(m6 A N r).Nodup:=SN.sublist List.filter_sublist
theorem cp{L:List Nat}(h:L.Nodup){a b:Nat}(z:a<L.length)(I:b<L.length)(e:L.getD a 0=L.getD b 0):a=b:=by rw[MK,MK,MH z,MH I]at e;exact(List.getElem_inj h).mp e
theorem nD(O:∀j,j<N->ri p w wd T m (A j))(U:k<m){i b:Nat}(J:i<wd (ja w k))(Y:b<(m6 A N<|zZ w k).length):
 zm (λa=>(if (m6 A N<|ja w k).getD a 0=(m6 A N<|zZ w k).getD b 0 then (1:Int)else 0)*xH A N (ja w k) i a) (m6 A N<|ja w k).length%p=app (T k) (wd<|zZ w k) (λc=>xH A N (zZ w k) c b) i%p:=by
 obtain⟨h,s⟩:=We Y;have q:=(O _ h).arr k U s i J;show _=app (T k) (wd<|zZ w k) ((A<|(m6 A N<|zZ w k).getD b 0).v (zZ w k)) i%p;rw[q];congr 1;cases hx:(A<|(m6 A N<|zZ w k).getD b 0).has (ja w k)with
 |true=>
  have n:(m6 A N<|zZ w k).getD b 0∈m6 A N (ja w k):=Nl.mpr ⟨MG.mpr h,by simpa using hx⟩;obtain⟨l,I,r⟩:=Tt n;have d:(m6 A N<|ja w k).getD l 0=(m6 A N<|zZ w k).getD b 0:=by rw[<-r,MK,MH I];rfl
  rw[z6 (f:=λa=>(if (m6 A N<|ja w k).getD a 0=(m6 A N<|zZ w k).getD b 0 then (1:Int)else 0)*xH A N (ja w k) i a) I λa e o=>by rw[UY λz=>o (cp (gz A N _) e I<|z.trans d.symm)];simp]
  rw[UJ d,UJ rfl];unfold xH;rw[d];simp
 | false=>
  rw[UY ⋯];rw[zA (g:=λ_=>0) λa e=>by
   rw[UY λz=>by have:=(We e).2;rw[z,hx]at this;cases this]
   simp]
  exact zU _
theorem ou(Z:Pr p)(U:∀j,j<N->ri p w wd T m (A j))(cnt:∀r,r<=m->(m6 A N r).length=wd r)(z:∀r,r<=m->QK p (wd r) (xH A N r) (g r))(J:k<m){i j:Nat}(L:i<wd (ja w k))(I:j<wd (zZ w k))(Y:0<=T k i j/\T k i j<p):
 T k i j=lH p w (qq<|ZD A N) (λr=>xH A N r) g (tx w<|ZD A N) k i j:=by
 have d:∀j,j<N->1<=(A j).n:=λj I=>(U j I).n1;have O:zZ w k<=m:=by unfold zZ;split<;>omega
 have e:ja w k<=m:=by unfold ja;split<;>omega
 unfold lH;have o:qq (ZD A N) (zZ w k)=wd (zZ w k):=by unfold qq;rw[ym d,cnt _ O]
 have s:qq (ZD A N) (ja w k)=wd (ja w k):=by unfold qq;rw[ym d,cnt _ e]
 rw[o,s];have f:zm (λb=>g (zZ w k) b j*(zm (λa=>tx w (ZD A N) k a b*xH A N (ja w k) i a) (wd<|ja w k)%p)) (wd<|zZ w k)%p
  = zm (λb=>g (zZ w k) b j*app (T k) (wd<|zZ w k) (λc=>xH A N (zZ w k) c b) i) (wd<|zZ w k)%p:=zS λb t=>by
  have:=nD (T:=T) (k:=k) U J L (b:=b) (by rw[cnt _ O];exact t);rw[cnt _ e]at this;have h:zm (λa=>tx w (ZD A N) k a b*xH A N (ja w k) i a) (wd<|ja w k)=zm (λa=>(if (m6 A N<|ja w k).getD a 0=(m6 A N<|zZ w k).getD b 0 then (1:Int)else 0)*xH A N (ja w k) i a) (wd<|ja w k):=zA λa _=>by unfold tx;rw[ym d,ym d]
  rw[h,this,wM]
 have l:zm (λb=>g (zZ w k) b j*app (T k) (wd<|zZ w k) (λc=>xH A N (zZ w k) c b) i) (wd<|zZ w k)=app (T k) (wd<|zZ w k) (λc=>zm (λb=>xH A N (zZ w k) c b*g (zZ w k) b j)<|wd<|zZ w k) i:=by rw[<-vo];congr 1;funext c;exact xJ ..
 rw[show(zm (λb=>g (zZ w k) b j*(zm (λa=>tx w (ZD A N) k a b*(λr=>xH A N r) (ja w k) i a) (wd<|ja w k)%p)) (wd<|zZ w k)%p)=_ from f,l,
  xB (u:=jX j) (λc x=>by rw[z _ O c j x I];unfold sk jX;simp only[eq_comm]) i,wZ (T k) I]
 exact(NO Y.1 Y.2).symm
end
section
variable{p:Int}{n:Nat}
theorem pR{l:UX}:∀{r:Nat},(∀k m,k<m->m<r->l k<l m)->∃j,j<=r/\∀k,k<r->l k≠j
 |0,_=>⟨0,MM _,λk I=>absurd I<|Nq _⟩
 | r+1,h=>by
  obtain⟨j,f,d⟩:=pR (r:=r) λk m a b=>h k m a ⋯;by_cases e:l r=j
  ·refine⟨r+1,MM _,λk I=>?_⟩
   rcases Nj k r with z|z
   ·have:=h k r z ⋯;omega
   ·rw[show k=r by omega];omega
  ·refine⟨j,by omega,λk I=>?_⟩
   rcases Nj k r with z|z
   ·exact d k z
   ·rw[show k=r by omega];exact e
theorem CS(J:Pr p){h N:Nat}{f:UV}(inj:∀t:Vc,(∀i,i<h->app f N t i%p=0)->∀j,j<N->t j%p=0):N<=h:=by
 rcases Nj h N with aa|a9
 ·exfalso
  obtain⟨r,y,B,l,b,w⟩:=YC (n:=N) J h f;obtain⟨O,x,a5⟩:=pR b.mono;have m:O<N:=by omega
  let t:Vc:=λj=>if j=O then 1 else zm (λk=>if l k=j then B k O*(-1)else 0) r;have s:t O=1:=UJ rfl;have A:∀k,k<r->t (l k)=B k O*(-1):=λk U=>by
   show(if l k=O then _ else _)=_;rw[UY (a5 k U),z6 (f:=λI=>if l I=l k then B I O*(-1)else 0) U λI Y a=>by
    rw[UY λe=>a (by
     rcases RG I k with z|z|z
     ·have:=b.mono I k z U;omega
     ·exact z
     ·have:=b.mono k I z Y;omega)]]
   rw[UJ rfl]
  have key:∀k,k<r->zm (λj=>B k j*t j) N=0:=λk U=>by
   have e:zm (λj=>B k j*t j) N=zm (λj=>(if j=O then B k O else 0)+zm (λI=>if l I=j then B k (l I)*(B I O*(-1))else 0) r) N:=zA λj o=>by
    by_cases z:j=O
    ·subst z
     rw[s,UJ rfl,zA (g:=λ_=>0) λI Y=>UY<|a5 I Y,zU];simp
    ·show B k j*(if j=O then _ else _)=_
     rw[UY z,UY z,Int.zero_add,Oz,<-kx];refine zA λI Y=>?_;by_cases e:l I=j
     ·rw[UJ e,UJ e,<-e,Oz]
     ·rw[UY e,UY e];simp
   rw[e,qz,z6 (f:=λj=>if j=O then B k O else 0) m<|λj _ a=>UY a,UJ rfl,ql];have d:zm (λI=>zm (λj=>if l I=j then B k (l I)*(B I O*(-1))else 0) N) r=zm (λI=>B k (l I)*(B I O*(-1))) r:=zA λI Y=>by rw[z6 (f:=λj=>if l I=j then B k (l I)*(B I O*(-1))else 0) (b.lt I Y) λj _ a=>UY<|NH a,UJ rfl]
   rw[d,z6 (f:=λI=>B k (l I)*(B I O*(-1))) U λI Y a=>by rw[b.wh k I U Y a];simp];rw[b.one k U];omega
  have:=inj t (λi u=>by
   have c:=Jb b<|(w<|f i).mpr (.gen ⟨i,u,rfl⟩);unfold app;have e:zm (λj=>f i j*t j) N%p=zm (λj=>zm (λk=>f i (l k)*B k j) r*t j) N%p:=zS λj o=>by rw[MS,c j o,<-MS]
   rw[e];have d:zm (λj=>zm (λk=>f i (l k)*B k j) r*t j) N=zm (λk=>f i (l k)*zm (λj=>B k j*t j) N) r:=by rw[zA (g:=λj=>zm (λk=>f i (l k)*B k j*t j) r) λj _=>(kx _ _ _).symm,ql];refine zA λk _=>?_;rw[<-jD];exact zA λj _=>PD _ _ _
   rw[d,zA (g:=λ_=>0) λk U=>by rw[key k U,Rg],zU];simp) O m
  rw[s,J.one]at this;cases this
 ·exact a9
theorem WT(W:Nat->Vc)(t:Vc):Span p n (eL m W) λi=>zm (λj=>t j*W j i) m:=Span.sum (u:=W) t λj I=>.gen ⟨j,I,rfl⟩
theorem Ei(I:Pr p)(O:i3 p n s B l)(sp:∀v,Span p n (eL s B) v↔Span p n (eL m W) v)(ind:∀t:Vc,(∀i,i<n->zm (λj=>t j*W j i) m%p=0)->∀j,j<m->t j%p=0):m=s:=by
 have b:s<=m:=by obtain⟨r,e,hR⟩:=YC (n:=n) I m W;have:=vW I (m:=m) (W:=W) ⟨B,l,O,sp⟩ hR;omega
 have g:s<=n:=eV O;have d:m<=s:=CS I (f:=λi j=>W j<|l i) λt U=>ind t λi a=>by
  have c:=Jb O ((sp _).mpr (WT (n:=n) W t)) i a;rw[c];have:zm (λk=>zm (λj=>t j*W j (l k)) m*B k i) s%p=zm (λ_=>0) s%p:=zS λk Y=>by have:=U k Y;unfold app at this;rw[xJ]at this;rw[MS,this];simp
  rw[this,zU];simp
 omega
end
def gV(p:Int)(a b:Nat)(c:Int)(v:Vc):Vc:=λi=>if i=b then (v b+c*v a)%p else v i
section
variable{p:Int}{m:Nat}{w:UK}{wd:UX}{T:UW}
noncomputable def dP(w:UK)(wd:UX)(T:UW)(m:Nat):List D:=(ME m).map λk=>D.lst<|ie (gm w wd k) (f9 w wd k)<|T k
@[simp] theorem AF(m):(dP w wd T m).length=m:=by simp[dP]
abbrev rc(p:Int)(m:Nat)(w:UK)(wd:UX)(T:UW)(acc:List D)(c5 c6 c7 c8:Cell):Ctx:=[.val (.int p),.val (.str (jK m w)),.val (.lst (zG (m+1) λk=>(wd k:Int))),.val (.lst (dP w wd T m)),.own acc,c5,c6,c7,c8]
end
def stN(M:Nat):List (Nat×Nat):=(ME M).flatMap λi=>(SK i<|M-i).map λj=>(i,j)
def kI(s:Nat×Nat):List Int:=[(s.1:Int),(s.2:Int)]
def kD(s:Nat×Nat):D:=.tup [.int s.1,.int s.2]
theorem _a:s∈stN M↔s.1<=s.2/\s.2<M:=by
 unfold stN;simp only[List.mem_flatMap,MG,Ny,List.mem_range'_1];constructor
 ·rintro⟨i,a,j,I,rfl⟩
  exact⟨I.1,by show j<M;omega⟩
 ·intro h
  exact⟨s.1,by omega,s.2,⟨h.1,by omega⟩,rfl⟩
theorem lN:∀M:Fin 7,(stN M.val).Nodup/\((stN M.val).map kI).Nodup/\(stN M.val).length<=21:=by decide +kernel
theorem Gk:∀M:Fin 7,qm [.int (M.val:Int)]=da (.own<|(stN M.val).map kD)
 |⟨0,_⟩=>by kernel_rfl
 |⟨1,_⟩=>by kernel_rfl
 |⟨2,_⟩=>by kernel_rfl
 |⟨3,_⟩=>by kernel_rfl
 |⟨4,_⟩=>by kernel_rfl
 |⟨5,_⟩=>by kernel_rfl
 |⟨6,_⟩=>by kernel_rfl
def kU:List Int->Int
 |[]=>0
 |x::r=>x+kU r
theorem Jz:∀L:List Int,bC (L.map D.int)=da (kU L)
 |[]=>rfl
 |x::L=>by show(bC<|L.map D.int).map _=_;rw[Jz L];rfl
def u1:=(jj 1<|zD ju<|zb (zc 0)<|zb (zu<|.int 0) zF)
noncomputable def u2:=(jj 2<|dv (jm<|jC<|zb (zu<|.int 2)<|zb (zu<|.int 3)<|zb (zu<|.int 5)<|zb (zu<|.int 7) zF)<|zH yN (zc 1)<|zu<|.int 4)
noncomputable def u3:=(eD (.tp [3,4])<|dv (jm<|jC<|zb (qF<|zb (zu<|.int 4)<|zb (zu<|.int 2) zF)<|zb (qF<|zb (zu<|.int 3)<|zb (zu<|.int 2) zF)<|zb (qF<|zb (zu<|.int 2)<|zb (zu<|.int 2) zF)<|zb (qF<|zb (zu<|.int 2)<|zb (zu<|.int 2) zF)<|zb (qF<|zb (zu<|.int 6)<|zb (zu<|.int 1) zF)<|zb (qF<|zb (zu<|.int 5)<|zb (zu<|.int 1) zF)<|zb (qF<|zb (zu<|.int 4)<|zb (zu<|.int 1) zF)<|zb (qF<|zb (zu<|.int 3)<|zb (zu<|.int 1) zF) zF)<|zH yN (zc 1)<|zu<|.int 8)
theorem BC{c:Int}(h:0<=c):∃q:Nat,Pr (q:Int)/\([D.int 2,.int 3,.int 5,.int 7])[(c%4).toNat]? = da (.int q)/\i0 4 (c%4)=da (c%4).toNat:=by
 have a:=NX c (show(4:Int)≠0 by decide);have b:=NF c (show(0:Int)<4 by decide);obtain⟨r,I⟩:=PF a;rw[I];have O:r<4:=by omega
 rw[qQ,UJ O,Ou];rcases (by omega:r=0\/r=1\/r=2\/r=3)with e|e|e|e<;>subst e
 ·exact⟨2,.inl rfl,rfl,rfl⟩
 ·exact⟨3,.inr<|.inl rfl,rfl,rfl⟩
 ·exact⟨5,.inr<|.inr<|.inl rfl,rfl,rfl⟩
 ·exact⟨7,.inr<|.inr<|.inr rfl,rfl,rfl⟩
def bS(bs:List (Int×Int))(j:Nat):Nat:=(bs.getD j (0,0)).1.toNat
theorem YU:∀bs:List (Int×Int),nr (jc bs)=dj
 |[]=>rfl
 |b::bs=>by have I:=YU bs;unfold jc at I ⊢;rw[Nn];show(kr _&&nr _)=dj;rw[I];rfl
theorem Et:xf=jk 14 (zT S4<|zT S5<|zT O1<|zT (kF 7<|jC zF)<|zT (ZY (jE<|yC<|zc 3) (.nm 8) S6)<|j9<|qF<|zb (zc 2)<|zb (z7<|zk 6)<|zb (z7<|zk 7) zF):=rfl
section
variable{ns:List Int}{t p od:Int}{m:Nat}{w:UK}{wd:UX}
noncomputable def j1(ns:List Int)(t p od:Int)(m:Nat)(w:UK)(wd:UX)(O Y Z c9 z I J L:Cell):Ctx:=
 [.val (XQ ns),.val<|.int t,.val<|.int p,.val<|.str<|jK m w,.val<|.int od,O,.val<|.lst<|zG (m+1) λk=>(wd k:Int),Y,Z,c9,z,I,J,L]
def hB(ns:List Int)(t p:Int)(k i j:Nat):Int:=vm ns (t+4+7*(i:Int)+(k:Int)+(j:Int))/11%p
theorem Eu(hn:ns.length<=63)(ht:0<=t)(aa:t<200)(O:0<p)(U:∀k,wd k<=6){k b s:Nat}(hb:b<=m)(hm:m<=4)(hk:k<m)(hs:s<7)(Z J z L:Cell):
 ∃Y a1,f_ (j1 ns t p od m w wd Z J (.val<|.int (k:Int)) (.val<|.int (b:Int)) z (.own<|zX s (wd b)<|hB ns t p k) (.val<|.int (s:Int)) L)=da (.next<|j1 ns t p od m w wd Y J (.val<|.int (k:Int)) (.val<|.int (b:Int)) z (.own<|zX (s+1) (wd b)<|hB ns t p k) (.val<|.int (s:Int)) a1):=by
 have y:=jl;have x:=U b;refine⟨.val<|.lst<|zG (wd b) λj=>vm ns<|t+4+7*(s:Int)+(k:Int)+(j:Int),.val<|.int<|t+4+7*(s:Int)+(k:Int),?_⟩;have a:XU 7 (s:Int)=dj:=ZR _ _ ⋯ ⋯;have x1:(jj 13<|zH qv (zH qv (zH qv (zc 1)<|zu<|.int 4)<|zH yq (zu<|.int 7)<|zc 12)<|zc 8) (j1 ns t p od m w wd Z J (.val<|.int (k:Int)) (.val<|.int (b:Int)) z (.own<|zX s (wd b)<|hB ns t p k) (.val<|.int (s:Int)) L)=da (.next<|j1 ns t p od m w wd Z J (.val<|.int (k:Int)) (.val<|.int (b:Int)) z (.own<|zX s (wd b)<|hB ns t p k) (.val<|.int (s:Int))<|.val<|.int<|t+4+7*(s:Int)+(k:Int)):=by simp[j1,a]
 have f:zY (.nm 0) jt (zD ju<|zb (zc 1)<|zb (zH qv (zc 2)<|zc 0) zF) [.no,.val<|XQ ns,.val (.int<|t+4+7*(s:Int)+(k:Int))] (zG (wd b) λi=>(i:Int))=da (zG (wd b) λj=>vm ns<|t+4+7*(s:Int)+(k:Int)+(j:Int)):=by unfold zG;refine zC _ _ λj I=>zB rfl rfl ?_;have I:=MG.mp I;have e:=(KY hn (k:=t+4+7*(s:Int)+(k:Int)+(j:Int)) ⋯ ⋯).1;simp[e]
 have g:zY (.nm 0) jt (zH yN (zH Xj (zc 0)<|zu<|.int 11)<|zc 1) [.no,.val (.int p)] (zG (wd b) λj=>vm ns<|t+4+7*(s:Int)+(k:Int)+(j:Int))=da (zG (wd b)<|hB ns t p k s):=by unfold zG;refine zC _ _ λj I=>zB rfl rfl ?_;simp[O,hB]
 have dl:(zG (m+1) λk=>(wd k:Int)).length=m+1:=by simp[zG]
 have d:(zG (m+1) λk=>(wd k:Int))[b]? = da (.int (wd b:Nat)):=by unfold zG;simp[show b<m+1 by omega]
 have bl:b<m+1:=by omega
 have n:inR ((wd b:Nat):Int)=dj:=J6 ⋯ ⋯;have wl:wd b<=lim:=by omega
 have u:(jj 5<|jz<|zO (jE<|dv (zk 6)<|zc 9) (.nm 0) 1 [0,13] jt (zD ju<|zb (zc 1)<|zb (zH qv (zc 2)<|zc 0) zF)) (j1 ns t p od m w wd Z J (.val<|.int (k:Int)) (.val<|.int (b:Int)) z (.own<|zX s (wd b)<|hB ns t p k) (.val<|.int (s:Int))<|.val<|.int<|t+4+7*(s:Int)+(k:Int))=da (.next<|j1 ns t p od m w wd (.val<|.lst<|zG (wd b) λj=>vm ns<|t+4+7*(s:Int)+(k:Int)+(j:Int)) J (.val<|.int (k:Int)) (.val<|.int (b:Int)) z (.own<|zX s (wd b)<|hB ns t p k) (.val<|.int (s:Int))<|.val<|.int<|t+4+7*(s:Int)+(k:Int)):=by rw[xY,ZT,qp,w4];simp only[j1,w5,qo,qY,MN,MT,jb,jg,MJ,jx,qG,dl,qQ,bl,if_true,d,n,Ou,qM,k4,wl];rw[show jo 1 [0,13] [Cell.val (XQ ns),.val<|.int t,.val<|.int p,.val<|.str<|jK m w,.val<|.int od,Z,.val<|.lst<|zG (m+1) λk=>(wd k:Int),J,.val<|.int (k:Int),.val<|.int (b:Int),z,.own<|zX s (wd b)<|hB ns t p k,.val<|.int (s:Int),.val (.int<|t+4+7*(s:Int)+(k:Int))]=[.no,.val<|XQ ns,.val (.int<|t+4+7*(s:Int)+(k:Int))]from rfl,f];rfl
 refine zw x1<|zw u ?_;have o:(zX s (wd b)<|hB ns t p k).length=s:=by simp[zX]
 have r:s<lim:=by omega
 have l:z7 (jm<|zO (zN<|zk 5) (.nm 0) 1 [2] jt (zH yN (zH Xj (zc 0)<|zu<|.int 11)<|zc 1)) (j1 ns t p od m w wd (.val<|.lst<|zG (wd b) λj=>vm ns<|t+4+7*(s:Int)+(k:Int)+(j:Int)) J (.val<|.int (k:Int)) (.val<|.int (b:Int)) z (.own<|zX s (wd b)<|hB ns t p k) (.val<|.int (s:Int))<|.val<|.int<|t+4+7*(s:Int)+(k:Int))=da (.tup<|zG (wd b)<|hB ns t p k s):=by
  have h:zO (zN<|zk 5) (.nm 0) 1 [2] jt (zH yN (zH Xj (zc 0)<|zu<|.int 11)<|zc 1) (j1 ns t p od m w wd (.val<|.lst<|zG (wd b) λj=>vm ns<|t+4+7*(s:Int)+(k:Int)+(j:Int)) J (.val<|.int (k:Int)) (.val<|.int (b:Int)) z (.own<|zX s (wd b)<|hB ns t p k) (.val<|.int (s:Int))<|.val<|.int<|t+4+7*(s:Int)+(k:Int))=da (zG (wd b)<|hB ns t p k s):=by rw[qp,kn];simp only[j1,qo,MN,MT,jg,jx,MW,MJ,k4,wl,if_true];exact g
  unfold z7 jm;rw[h];rfl
 rw[QJ,l];rw[show zX (s+1) (wd b) (hB ns t p k)=zX s (wd b) (hB ns t p k)++[.tup (zG (wd b)<|hB ns t p k s)]from Ki _ _];simp[j1,o,r]
theorem Ew(hn:ns.length<=63)(ht:0<=t)(a7:t<200)(hp:0<p)(a2:∀k,wd k<=6)(hm:m<=4){k:Nat}(Y:k<m)(Z c9 Ls L z J:Cell):
 ∃a3 a9 aa ab ac a4,S6 (j1 ns t p od m w wd Z (.own<|jY k w wd<|hB ns t p) (.val<|.int (k:Int)) c9 Ls L z J)=da (.next<|j1 ns t p od m w wd a3 (.own<|jY (k+1) w wd<|hB ns t p) (.val<|.int (k:Int)) a9 aa ab ac a4):=by
 have B:=jl;have l:=Wy (w:=w) (show m<=5 by omega) Y;have a:=KQ (w:=w) Y;have g:=K3 (w:=w) Y;have x1:HG (j1 ns t p od m w wd Z (.own<|jY k w wd<|hB ns t p) (.val<|.int (k:Int)) c9 Ls L z J)=da (.next<|j1 ns t p od m w wd Z (.own<|jY k w wd<|hB ns t p) (.val<|.int (k:Int)) (.val<|.int ((zZ w k:Nat):Int)) (.val<|.int ((ja w k:Nat):Int)) L z J):=by simp[HG,j1,l]
 have x:(kF 11<|jC zF) (j1 ns t p od m w wd Z (.own<|jY k w wd<|hB ns t p) (.val<|.int (k:Int)) (.val<|.int ((zZ w k:Nat):Int)) (.val<|.int ((ja w k:Nat):Int)) L z J)=da (.next<|j1 ns t p od m w wd Z (.own<|jY k w wd<|hB ns t p) (.val<|.int (k:Int)) (.val<|.int ((zZ w k:Nat):Int)) (.val<|.int ((ja w k:Nat):Int)) (.own<|zX 0 (wd<|zZ w k)<|hB ns t p k) z J):=rfl;have dl:(zG (m+1) λk=>(wd k:Int)).length=m+1:=by simp[zG]
 have d:(zG (m+1) λk=>(wd k:Int))[ja w k]? = da (.int (wd (ja w k):Nat)):=by unfold zG;simp[a]
 have i:(zG (m+1) λk=>(wd k:Int))[zZ w k]? = da (.int (wd (zZ w k):Nat)):=by unfold zG;simp[g]
 have A:=a2<|ja w k;obtain⟨y,x3,⟨I,U,O,rfl⟩⟩:=ZC (T:=.nm 12) (F:=f_) (f:=dv (zk 6)<|zc 10) (γ:=j1 ns t p od m w wd Z (.own<|jY k w wd<|hB ns t p) (.val<|.int (k:Int)) (.val<|.int ((zZ w k:Nat):Int)) (.val<|.int ((ja w k:Nat):Int)) (.own<|zX 0 (wd<|zZ w k)<|hB ns t p k) z J)
  (λs γ=>∃I U O,γ=j1 ns t p od m w wd I (.own<|jY k w wd<|hB ns t p) (.val<|.int (k:Int)) (.val<|.int ((zZ w k:Nat):Int)) (.val<|.int ((ja w k:Nat):Int)) (.own<|zX s (wd<|zZ w k)<|hB ns t p k) U O) (wd<|ja w k) ⋯ (by
    simp only[j1,w5,qo,qY,MN,MT,jb,jg,MJ,jx,qG,dl,qQ,a,if_true,d]) ⟨_,_,_,rfl⟩ (by
    rintro s C γ ⟨I,U,O,rfl⟩;obtain⟨a3,a4,e⟩:=Eu (od:=od) (w:=w) hn ht a7 hp a2 (k:=k) (b:=zZ w k) (s:=s) (m:=m) ⋯ hm Y ⋯ I (.own<|jY k w wd<|hB ns t p) (.val<|.int ((ja w k:Nat):Int)) O;exact⟨_,_,rfl,e,_,_,_,rfl⟩)
 refine⟨I,.val<|.int ((zZ w k:Nat):Int),.val<|.int ((ja w k:Nat):Int),.own<|zX (wd<|ja w k) (wd<|zZ w k)<|hB ns t p k,U,O,zw x1<|zw x<|zw x3 ?_⟩;have u:qS (zc 3) (zc 8) (j1 ns t p od m w wd I (.own<|jY k w wd<|hB ns t p) (.val<|.int (k:Int)) (.val<|.int ((zZ w k:Nat):Int)) (.val<|.int ((ja w k:Nat):Int)) (.own<|zX (wd<|ja w k) (wd<|zZ w k)<|hB ns t p k) U O)=da (.str<|xS<|ij<|w k):=wu w ⋯ Y _ _ _ rfl rfl;have h:(jY k w wd<|hB ns t p).length=k:=by simp[jY]
 have o:k<lim:=by omega
 have r:(zX (wd<|ja w k) (wd<|zZ w k)<|hB ns t p k).length=wd (ja w k):=by simp[zX]
 have j:wd (ja w k)<=lim:=by omega
 have n:qF (zb (qS (zc 3)<|zc 8)<|zb (qF<|zb (dv (zk 6)<|zc 10)<|zb (dv (zk 6)<|zc 9)<|zb (z7<|zk 11) zF) zF) (j1 ns t p od m w wd I (.own<|jY k w wd<|hB ns t p) (.val<|.int (k:Int)) (.val<|.int ((zZ w k:Nat):Int)) (.val<|.int ((ja w k:Nat):Int)) (.own<|zX (wd<|ja w k) (wd<|zZ w k)<|hB ns t p k) U O)=da (vn w wd (hB ns t p) k):=by rw[VB,jO,u];unfold vn;rw[<-xw,<-qP];simp[j1,jx,dl,qQ,a,g,d,i,r,j,jZ]
 show HF _=_;unfold HF;rw[QJ,n];rw[show jY (k+1) w wd (hB ns t p)=jY k w wd (hB ns t p)++[vn w wd (hB ns t p) k]from Ki _ _];simp[j1,h,o]
end
section
variable{ns:List Int}{t p od:Int}{m:Nat}{w:UK}
def D4:List Nat:=[0,1,2,3,6,1,2,5]
theorem iH(I:0<p)(k i j:Nat):0<=hB ns t p k i j/\hB ns t p k i j<p:=⟨NX _ ⋯,NF _ I⟩
theorem Ad(J:ns.length<=63)(ht:0<=t)(L:t<200)(Z:0<p)(hm:m<=3)(o0:0<=od)(o3:od<=3):
 ∃wd:UX,(∀k,wd k<=6)/\xf [XQ ns,.int t,.int p,.str<|jK m w,.int od]=da (.val<|zR p m w wd<|hB ns t p):=by
 have hl:=jl;have y:m+1<=lim:=by omega
 obtain⟨j,a7,G⟩:∃j:UX,(∀k,j k<8)/\∀k:Nat,vm ns (t+(k:Int))/7%8=((j k:Nat):Int):=by
  refine⟨λk=>(vm ns (t+(k:Int))/7%8).toNat,λk=>?_,λk=>?_⟩
  ·show(vm ns (t+(k:Int))/7%8).toNat<8;omega
  ·rw[Sf ⋯]
 have wl:=Je m w;have I:=yd w (show m<=1000 by omega);have M:zY (.nm 0) jt (zH yN (zH Xj (zD ju<|zb (zc 1)<|zb (zH qv (zc 2)<|zc 0) zF)<|zu<|.int 7)<|zu<|.int 8) [Cell.no,Cell.val<|XQ ns,Cell.val (.int t)] (zG (m+1) λi=>(i:Int))=da (zG (m+1) λk=>(j k:Int)):=by unfold zG;refine zC _ _ λk B=>zB rfl rfl ?_;have B:=MG.mp B;have e:=(KY J (k:=t+(k:Int)) ⋯ ⋯).1;simp[e,G]
 have x1:S4 (z9 14 [XQ ns,.int t,.int p,.str<|jK m w,.int od])=da (.next [.val (XQ ns),.val<|.int t,.val<|.int p,.val<|.str<|jK m w,.val<|.int od,.val<|.lst<|zG (m+1) λk=>(j k:Int),.no,.no,.no,.no,.no,.no,.no,.no]):=by
  have r:inR ((m:Int)+1)=dj:=J6 ⋯ ⋯;have e:((m:Int)+1).toNat=m+1:=by omega
  simp[S4,z9,MI,wl,I,r,e,qM,jo,ke,y,M]
 have t8:∀c:Nat,c<8->HH [Cell.val (.int (c:Int))]=da (.int ((D4.getD c 0:Nat):Int)):=λ|0,_|1,_|2,_|3,_|4,_|5,_|6,_|7,_=>rfl|n+8,h=>by omega
 have N:zY (.nm 0) jt HH [Cell.no] (zG (m+1) λk=>(j k:Int))=da (zG (m+1) λk=>((D4.getD (j k) 0:Nat):Int)):=by unfold zG;exact zC _ _ λk B=>zB rfl rfl<|t8 _<|a7 k
 have R:S5 [.val (XQ ns),.val<|.int t,.val<|.int p,.val<|.str<|jK m w,.val<|.int od,.val<|.lst<|zG (m+1) λk=>(j k:Int),.no,.no,.no,.no,.no,.no,.no,.no]=da (.next<|j1 ns t p od m w (λk=>D4.getD (j k) 0) (.val<|.lst<|zG (m+1) λk=>(j k:Int)) .no .no .no .no .no .no .no):=by unfold S5;rw[xY,ZT,qp,kn];simp only[qo,MN,MT,jg,jx,MW,MJ,k4,y,if_true];rw[show jo 1 [] [Cell.val (XQ ns),.val<|.int t,.val<|.int p,.val<|.str<|jK m w,.val<|.int od,.val<|.lst<|zG (m+1) λk=>(j k:Int),.no,.no,.no,.no,.no,.no,.no,.no]=[.no]from rfl,N];rfl
 have Q:∀k,D4.getD (j k) 0<=6:=λk=>(by decide:∀c:Fin 8,D4.getD c 0<=6) ⟨j k,a7 k⟩
 obtain⟨wd,E,x3⟩:∃wd:UX,(∀k,wd k<=6)/\O1 (j1 ns t p od m w (λk=>D4.getD (j k) 0) (.val<|.lst<|zG (m+1) λk=>(j k:Int)) .no .no .no .no .no .no .no)=da (.next<|j1 ns t p od m w wd (.val<|.lst<|zG (m+1) λk=>(j k:Int)) .no .no .no .no .no .no .no):=by
  by_cases h:m=1/\0<od
  ·obtain⟨x,A⟩:=h
   subst x;have C:QX (sB<|zH g4 (yC<|zc 3)<|zu<|.int 1) (sB<|zH qs (zc 4)<|zu<|.int 0) (j1 ns t p od 1 w (λk=>D4.getD (j k) 0) (.val<|.lst<|zG (1+1) λk=>(j k:Int)) .no .no .no .no .no .no .no)=da dj:=by simp[j1,wl,I,A]
   refine⟨λk=>if od=1 then (if k=0 then 5 else 6)else (if k=0 then 6 else 5),λk=>by dsimp only;split<;>split<;>omega,?_⟩;unfold O1;rw[vL,C];rcases (by omega:od=1\/od=2\/od=3)with rfl|rfl|rfl<;>rfl
  ·have C:QX (sB<|zH g4 (yC<|zc 3)<|zu<|.int 1) (sB<|zH qs (zc 4)<|zu<|.int 0) (j1 ns t p od m w (λk=>D4.getD (j k) 0) (.val<|.lst<|zG (m+1) λk=>(j k:Int)) .no .no .no .no .no .no .no)=da dt:=by
    by_cases x:m=1
    ·have A:¬(0<od):=λz=>h ⟨x,z⟩
     subst x;simp[j1,wl,I,A]
    ·have:¬((m:Int)=1):=by omega
     simp[j1,wl,I,this]
   refine⟨λk=>D4.getD (j k) 0,Q,?_⟩;unfold O1;rw[vL,C];rfl
 refine⟨wd,E,?_⟩;have S:(kF 7<|jC zF) (j1 ns t p od m w wd (.val<|.lst<|zG (m+1) λk=>(j k:Int)) .no .no .no .no .no .no .no)=da (.next<|j1 ns t p od m w wd (.val<|.lst<|zG (m+1) λk=>(j k:Int)) (.own<|jY 0 w wd<|hB ns t p) .no .no .no .no .no .no):=rfl;obtain⟨γ',W,⟨O,u,U,Y,l,n,o,rfl⟩⟩:=ZC (T:=.nm 8) (F:=S6) (f:=yC<|zc 3) (γ:=j1 ns t p od m w wd (.val<|.lst<|zG (m+1) λk=>(j k:Int)) (.own<|jY 0 w wd<|hB ns t p) .no .no .no .no .no .no)
  (λs γ=>∃O u U Y l n o,γ=j1 ns t p od m w wd O (.own<|jY s w wd<|hB ns t p) u U Y l n o) m ⋯ (by simp[j1,wl,I]) ⟨_,_,_,_,_,_,_,rfl⟩ (by
    rintro s K γ ⟨O,u,U,Y,l,n,o,rfl⟩;obtain⟨a,b,c,d,e,f,g⟩:=Ew (od:=od) (w:=w) J ht L Z E (show m<=4 by omega) K O U Y l n o;exact⟨_,_,rfl,g,_,_,_,_,_,_,_,rfl⟩)
 have H:(jY m w wd<|hB ns t p).length=m:=by simp[jY]
 have P:m<=lim:=by omega
 have X:(j9<|qF<|zb (zc 2)<|zb (z7<|zk 6)<|zb (z7<|zk 7) zF) (j1 ns t p od m w wd O (.own<|jY m w wd<|hB ns t p) u U Y l n o)=da (.ret<|.val<|zR p m w wd<|hB ns t p):=by simp[j1,H,P,jx,k4,y,zR]
 rw[Et];exact jf<|zw x1<|zw R<|zw x3<|zw S<|zw W X
end
section
variable{ns:List Int}{p c:Int}{m:Nat}{w:UK}
def Df(a b:Bool):Nat->Bool:=λk=>if k=0 then a else b
def g?(a b d:Bool):Nat->Bool:=λk=>if k=0 then a else if k=1 then b else d
theorem BW:xD=jk 6 (zT M4<|zT P0<|zT P4<|j9<|qF<|zb (zc 1)<|zb (zc 2) zF):=rfl
noncomputable def m8(ns:List Int)(p:Int)(x:Str)(c:Int)(I z:Cell):Ctx:=[.val (XQ ns),.val<|.int p,.val<|.str x,.val<|.int c,I,z]
theorem BZ(I:p=2\/p=3\/p=5\/p=7)(x:Str):∃q,(q=2\/q=3\/q=5\/q=7)/\M4 (m8 ns p x c .no .no)=da (.next<|m8 ns q x c .no .no):=by
 by_cases h:c%6=1
 ·have t:sB (zH g4 (zH yN (zc 3)<|zu<|.int 6)<|zu<|.int 1) (m8 ns p x c .no .no)=da dj:=by simp[m8,h]
  refine⟨if p=2 then 3 else if p=3 then 5 else if p=5 then 7 else 2,?_,?_⟩
  ·rcases I with rfl|rfl|rfl|rfl<;>decide
  ·unfold M4;rw[vL,t]
   rcases I with rfl|rfl|rfl|rfl<;>kernel_rfl
 ·have t:sB (zH g4 (zH yN (zc 3)<|zu<|.int 6)<|zu<|.int 1) (m8 ns p x c .no .no)=da dt:=by simp[m8,h]
  exact⟨p,I,by unfold M4;rw[vL,t];rfl⟩
theorem BY(L:m<=2):∃w' O J,P0 (m8 ns p (jK m w) c .no .no)=da (.next<|m8 ns p (jK m w') c O J):=by
 have wl:=Je m w;have I:=yd w (show m<=1000 by omega);by_cases h:c%6=2/\0<m
 ·obtain⟨h,g⟩:=h
  have t:QX (sB<|zH g4 (zH yN (zc 3)<|zu<|.int 6)<|zu<|.int 2) (sB<|zH qs (yC<|zc 2)<|zu<|.int 0) (m8 ns p (jK m w) c .no .no)=da dj:=by simp[m8,h,wl,I,g]
  obtain⟨a,U,f⟩:∃a:Nat,c/6%(m:Int)=a/\a<m:=by obtain⟨a,f⟩:=PF (NX (c/6)<|show(m:Int)≠0 by omega);have:=NF (c/6) (show(0:Int)<m by omega);exact⟨a,f,by omega⟩
  have x1:(jj 4<|zH yN (zH Xj (zc 3)<|zu<|.int 6)<|yC<|zc 2) (m8 ns p (jK m w) c .no .no)=da (.next<|m8 ns p (jK m w) c (.val<|.int (a:Int)) .no):=by
   have z:¬m=0:=by omega
   simp[m8,wl,I,z,U]
  suffices z:∃w' J,IJ (m8 ns p (jK m w) c (.val<|.int (a:Int)) .no)=da (.next<|m8 ns p (jK m w') c (.val<|.int (a:Int)) J)by
   obtain⟨w',J,z⟩:=z;exact⟨w',_,J,by unfold P0;rw[vL,t];exact zw x1 z⟩
  rcases (by omega:(m=1/\a=0)\/(m=2/\a=0)\/(m=2/\a=1))with⟨rfl,rfl⟩|⟨rfl,rfl⟩|⟨rfl,rfl⟩
  ·refine⟨Df (!w 0) dt,.val<|.str<|xS<|ij<|!w 0,?_⟩
   rw[show jK 1 w=jK 1 (Df (w 0) dt)from rfl];generalize w 0=b;cases b<;>kernel_rfl
  ·refine⟨Df (!w 0)<|w 1,.val<|.str<|xS<|ij<|!w 0,?_⟩
   rw[show jK 2 w=jK 2 (Df (w 0)<|w 1)from rfl];generalize w 0=b;generalize w 1=d;cases b<;>cases d<;>kernel_rfl
  ·refine⟨Df (w 0)<|!w 1,.val<|.str<|xS<|ij<|!w 1,?_⟩
   rw[show jK 2 w=jK 2 (Df (w 0)<|w 1)from rfl];generalize w 0=b;generalize w 1=d;cases b<;>cases d<;>kernel_rfl
 ·refine⟨w,.no,.no,?_⟩
  have t:QX (sB<|zH g4 (zH yN (zc 3)<|zu<|.int 6)<|zu<|.int 2) (sB<|zH qs (yC<|zc 2)<|zu<|.int 0) (m8 ns p (jK m w) c .no .no)=da dt:=by
   by_cases e:c%6=2
   ·have i:m=0:=by
     rcases TZ m with z|z
     ·exact z
     ·exact absurd ⟨e,z⟩ h
    subst i;simp[m8,e,wl,I]
   ·simp[m8,e]
  unfold P0;rw[vL,t];rfl
theorem BX(Y:m<=2)(I J:Cell):∃L w',L<=3/\P4 (m8 ns p (jK m w) c I J)=da (.next<|m8 ns p (jK L w') c I J):=by
 by_cases h:c%6=3
 ·have t:sB (zH g4 (zH yN (zc 3)<|zu<|.int 6)<|zu<|.int 3) (m8 ns p (jK m w) c I J)=da dj:=by simp[m8,h]
  have e:∃b:Bool,tN (m8 ns p (jK m w) c I J)=da (.int<|if b then 1 else 0):=by
   refine⟨decide<|c/6%2=1,?_⟩;have:tN (m8 ns p (jK m w) c I J)=da (.int<|c/6%2):=by simp[tN,m8]
   rw[this];by_cases z:c/6%2=1
   ·rw[z];rfl
   ·have z:c/6%2=0:=by omega
    rw[z];rfl
  obtain⟨b,e⟩:=e;have x:qS (zu (.str "rl")) tN (m8 ns p (jK m w) c I J)=da (.str (xS (ij b))):=by rw[vG,e];cases b<;>kernel_rfl
  suffices z:∃L w',L<=3/\Kh (zc 2) (qS (zu (.str "rl")) tN) (m8 ns p (jK m w) c I J)=da (.str (jK L w'))by
   obtain⟨L,w',O,z⟩:=z;exact⟨L,w',O,by unfold P4;rw[vL,t];simp only[if_true,MJ];rw[xY,z];rfl⟩
  have z:Kh (zc 2) (qS (zu (.str "rl")) tN) (m8 ns p (jK m w) c I J)=Kh (zu (.str (jK m w))) (zu (.str (xS (ij b)))) []:=by unfold Kh;rw[x];rfl
  rw[z];rcases (by omega:m=0\/m=1\/m=2)with rfl|rfl|rfl
  ·exact⟨1,Df b dt,by omega,by cases b<;>kernel_rfl⟩
  ·refine⟨2,Df (w 0) b,by omega,?_⟩
   rw[show jK 1 w=jK 1 (Df (w 0) dt)from rfl];generalize w 0=d;cases b<;>cases d<;>kernel_rfl
  ·refine⟨3,g? (w 0) (w 1) b,by omega,?_⟩
   rw[show jK 2 w=jK 2 (Df (w 0)<|w 1)from rfl];generalize w 0=d;generalize w 1=f;cases b<;>cases d<;>cases f<;>kernel_rfl
 ·have t:sB (zH g4 (zH yN (zc 3)<|zu<|.int 6)<|zu<|.int 3) (m8 ns p (jK m w) c I J)=da dt:=by simp[m8,h]
  exact⟨m,w,by omega,by unfold P4;rw[vL,t];rfl⟩
theorem mL(I:p=2\/p=3\/p=5\/p=7)(J:m<=2):∃q z w',(q=2\/q=3\/q=5\/q=7)/\z<=3/\xD [XQ ns,.int p,.str<|jK m w,.int c]=da (.val<|.tup [.int q,.str (jK z w')]):=by
 have f:=jl;obtain⟨q,O,x1⟩:=BZ (ns:=ns) (c:=c) I<|jK m w;obtain⟨U,Y,a,e⟩:=BY (ns:=ns) (p:=q) (c:=c) (w:=w) J;obtain⟨z,w',b,x3⟩:=BX (ns:=ns) (p:=q) (c:=c) (w:=U) J Y a;refine⟨q,z,w',O,b,?_⟩;rw[BW];have d:2<=lim:=by omega
 exact jf (zw (show M4 (m8 ns p (jK m w) c .no .no)=_ from x1)<|zw e<|zw x3<|by simp[m8,d])
end
def mM(p:Int)(n:Nat)(f g:UV):Nat->Nat->Int:=λi j=>zm (λk=>f i k*g k j) n%p
section
variable{p:Int}{n:Nat}{f f' g g':UV}{i j:Nat}
theorem xv(p:Int)(n w:Nat)(a b c:UV)(i j:Nat):mM p n a (mM p w b c) i j=mM p w (mM p n a b) c i j:=dQ p a b c n w i j
theorem qe(z:∀k,k<n->f i k=f' i k)(O:∀k,k<n->g k j=g' k j):mM p n f g i j=mM p n f' g' i j:=by unfold mM;rw[zA λk I=>by rw[z k I,O k I]]
theorem nj(I:0<p)(n:Nat)(f g:UV)(i j:Nat):0<=mM p n f g i j/\mM p n f g i j<p:=⟨NX _ ⋯,NF _ I⟩
theorem gb(I:j<n)(f:UV)(i:Nat):mM p n f sk i j=f i j%p:=by unfold mM;rw[z6 (i:=j) I λk _ O=>by unfold sk;rw[UY O];simp];simp[sk]
theorem Ci(z:i<n)(g:UV)(j:Nat):mM p n sk g i j=g i j%p:=by unfold mM;rw[z6 (i:=i) z λk _ I=>by unfold sk;rw[UY (NH I)];simp];simp[sk]
theorem KB(two:2<=p)(u:QK p n f g)(z:i<n)(I:j<n):mM p n f g i j=sk i j:=by have:=u i j z I;unfold mM;rw[this];unfold sk;split<;>first|exact NO ⋯ ⋯ |rfl
theorem lG(p:Int)(w:UK)(wd:UX)(f g T:UW)(k i j:Nat):lH p w wd f g T k i j=mM p (wd<|zZ w k) (mM p (wd<|ja w k) (f<|ja w k)<|T k) (g<|zZ w k) i j:=by unfold lH mM;congr 2;funext b;rw[Oz];congr 3;funext a;exact Oz _ _
end
section
variable{p:Int}{m:Nat}{w:UK}{wd:UX}{f g T1 T2 F1 G1 F2 G2:UW}{bs:List (Int×Int)}
theorem lr(n:Nat)(f g:Nat->D):yY ((ME n).map f) ((ME n).map g)=(ME n).map λi=>D.tup [f i,g i]:=by unfold yY;rw[RT,NB];rfl
theorem eQ(O:0<p)(J:p<=7)(z:m<=60)(U:∀k,wd k<=60)(Y:∀k i j,k<m->i<wd k->j<wd k->0<=g k i j/\g k i j<p):qJ [.int p,.lst<|j4 m wd f,.lst (j4 m wd g)]=da (.own<|j4 m wd λk=>mM p (wd k) (f k)<|g k):=by
 have s:=jl;have b:m<=lim:=by omega
 have n:zY (.tp [0,1]) jt (zD qA<|zb (zc 2)<|zb (zc 0)<|zb (zc 1) zF) [Cell.no,.no,.val (.int p)] ((ME m).map λk=>D.tup [jZ (wd k) (wd k) (f k),jZ (wd k) (wd k) (g k)])=da (j4 m wd λk=>mM p (wd k) (f k)<|g k):=by
  unfold j4;refine zC _ _ λk I=>zB (γ1:=[.val (jZ (wd k) (wd k)<|f k),.val<|jZ (wd k) (wd k)<|g k,.val (.int p)]) rfl rfl ?_;have I:=MG.mp I;have t:=U k;have e:=vx (p:=p) (h:=wd k) (m:=wd k) (w:=wd k) (f k) (g k) O ⋯ ⋯ ⋯ (λi j o r=>by have:=Y k i j I o r;omega);have l:(jZ (wd k) (wd k) λi j=>zm (λx=>g k x j*f k i x) (wd k)%p)=jZ (wd k) (wd k) (mM p (wd k) (f k)<|g k):=by congr 1;funext i j;unfold mM;rw[zA λx _=>Oz _ _]
  rw[l]at e;simp[e]
 unfold qJ;refine jf ?_;show yB _ [Cell.val (.int p),.val<|.lst<|j4 m wd f,.val (.lst<|j4 m wd g)]=_;have a:QT (zc 1) (zc 2) [Cell.val (.int p),.val<|.lst<|j4 m wd f,.val (.lst<|j4 m wd g)]=da ((ME m).map λk=>D.tup [jZ (wd k) (wd k) (f k),jZ (wd k) (wd k) (g k)]):=by show da (yY (j4 m wd f)<|j4 m wd g)=_;unfold j4;rw[lr]
 rw[show yB (zO (QT (zc 1)<|zc 2) (.tp [0,1]) 2 [0] jt (zD qA<|zb (zc 2)<|zb (zc 0)<|zb (zc 1) zF)) [Cell.val (.int p),.val<|.lst<|j4 m wd f,.val (.lst<|j4 m wd g)]=(zO (QT (zc 1)<|zc 2) (.tp [0,1]) 2 [0] jt (zD qA<|zb (zc 2)<|zb (zc 0)<|zb (zc 1) zF) [Cell.val (.int p),.val<|.lst<|j4 m wd f,.val (.lst<|j4 m wd g)]).map (λd=>Fl.ret<|.own d)from rfl,qp,a];simp only[MJ,Nf,Og,b,if_true];rw[show jo 2 [0] [Cell.val (.int p),.val<|.lst<|j4 m wd f,.val (.lst<|j4 m wd g)]=[Cell.no,.no,.val (.int p)]from rfl,n];rfl
theorem Ah(Y:0<p)(L:p<=7)(Z:m<=50)(J:∀k,wd k<=60)(b1:∀k i j,k<m+1->i<wd k->j<wd k->0<=G1 k i j/\G1 k i j<p)(b2:∀k i j,k<m+1->i<wd k->j<wd k->0<=G2 k i j/\G2 k i j<p)
 (z:jW [zR p m w wd T1]=da (.val<|kg bs (yf m wd G1)<|yf m wd F1)) (U:jW [zR p m w wd T2]=da (.val<|kg bs (yf m wd G2)<|yf m wd F2)):
 wg [zR p m w wd T1,zR p m w wd T2]=da (.val (.tup [.str "alike",.lst (j4 (m+1) wd λk=>mM p (wd k) (F2 k) (G1 k)),.lst (j4 (m+1) wd λk=>mM p (wd k) (F1 k) (G2 k))])):=by
 have n:=jl;have b:=(yu (p:=p) (w:=w) (wd:=wd) (T:=T1) (wd':=wd) (T':=T2)<|show m<=900 by omega).2;have h:=eQ (f:=F2) (g:=G1) Y L (show m+1<=60 by omega) J b1;have l:=eQ (f:=F1) (g:=G2) Y L (show m+1<=60 by omega) J b2;unfold kg at z U;rw[X8,X8]at z U;have a:=vV (p:=p) (m:=m) (w:=w) (wd:=wd) (T:=T1);generalize zR p m w wd T1=R1 at *;generalize zR p m w wd T2=R2 at *;have e:my (.lst<|jc bs) (.lst<|jc bs)=da (.bl dt):=nY<|Zz bs;have d:3<=lim:=by omega
 unfold wg;let I:D:=.tup [.lst (jc bs),.lst<|j4 (m+1) wd G1,.lst (j4 (m+1) wd F1)];let O:D:=.tup [.lst (jc bs),.lst<|j4 (m+1) wd G2,.lst (j4 (m+1) wd F2)];refine jf<|zw (γ':=[.val R1,.val R2,.no,.no,.no,.no]) (by simp[z9,b])<|zw (γ':=[.val R1,.val R2,.val I,.no,.no,.no]) (by simp[z,I])<|zw (γ':=[.val R1,.val R2,.val I,.val O,.no,.no]) (by simp[U,O])<|zw (γ':=[.val R1,.val R2,.val I,.val O,.no,.no]) (by simp[I,O,i0,e])<|zw (γ':=[.val R1,.val R2,.val I,.val O,.val<|.lst<|j4 (m+1) wd λk=>mM p (wd k) (F2 k)<|G1 k,.no]) (by simp[I,O,i0,a,h])<|zw (γ':=[.val R1,.val R2,.val I,.val O,.val<|.lst<|j4 (m+1) wd λk=>mM p (wd k) (F2 k)<|G1 k,.val (.lst<|j4 (m+1) wd λk=>mM p (wd k) (F1 k)<|G2 k)]) (by simp[I,O,i0,a,l]) ?_;simp[d]
end
section
variable{p:Int}{m:Nat}{w:UK}{bs:List (Int×Int)}
abbrev rr(p:Int)(z:Str)(m:Nat)(bs:List (Int×Int)):Ctx:=[.val (.int p),.val (.str z),.val (.lst (jc bs)),.val (.int ((m+1:Nat):Int))]
end
section
variable{α β:Type}
theorem Yr(f g:α->Int):∀L:List α,kU (L.map λx=>f x+g x)=kU (L.map f)+kU (L.map g)
 |[]=>rfl
 |x::L=>by simp only[Nn,kU,Yr f g L];omega
theorem WU:∀L:List α,kU (L.map λ_=>(0:Int))=0
 |[]=>rfl
 |x::L=>by simp only[Nn,kU,WU L];omega
theorem Yp(f:α->β->Int):∀(K:List α) (L:List β),kU (K.map λa=>kU<|L.map λb=>f a b)=kU (L.map λb=>kU<|K.map λa=>f a b)
 |[],L=>(WU L).symm
 |a::K,L=>by simp only[Nn,kU];rw[Yp f K L,Yr]
theorem Yq{K L:List Int}(h:K.Perm L):kU K=kU L:=by
 induction h with
 |nil=>rfl
 |cons x _ I=>simp only[kU,I]
 |swap x y l=>simp only[kU];omega
 |trans _ _ a b=>exact a.trans b
end
noncomputable def m9(w:UK)(b c:Int×Int):Int:=if t4 w b.1.toNat b.2.toNat c.1.toNat c.2.toNat=dj then 1 else 0
theorem BA{n:Int}{b:Int×Int}(h:yU n b):D.tup [.int b.1,.int b.2]=pr b.1.toNat b.2.toNat:=by obtain⟨a,d,_⟩:=h;unfold pr;rw[Sf a,Sf ⋯]
section
variable{p:Int}{m:Nat}{w:UK}{wd1 wd2:UX}{T1 T2:UW}{bs hH h9:List (Int×Int)}{c:Int×Int}{_k _l _q _r:List TB}
theorem HE(z:m<=5){b:Int×Int}(I:yU ((m+1:Nat):Int) b)(O:yU ((m+1:Nat):Int) c):kC [.str (jK m w),.tup [.int b.1,.int b.2],.tup [.int c.1,.int c.2]]=da (.val<|.int<|m9 w b c):=by rw[BA I,BA O];obtain⟨a,d,U⟩:=I;obtain⟨Y,g2,g3⟩:=O;exact Yc z ⋯ ⋯ ⋯ ⋯
theorem Wf(z:m<=5)(h:∀b∈bs,yU ((m+1:Nat):Int) b)(I:bs.length<=lim)(O:yU ((m+1:Nat):Int) c):qg [.str (jK m w),.lst<|jc bs,.tup [.int c.1,.int c.2]]=da (.val<|.int<|kU<|bs.map λb=>m9 w b c):=by
 have d:zY (.nm 0) jt (zD kC<|zb (zc 1)<|zb (zc 0)<|zb (zc 2) zF) [Cell.no,.val<|.str<|jK m w,.val (.tup [.int c.1,.int c.2])] (jc bs)=da (bs.map λb=>D.int<|m9 w b c):=by unfold jc;exact zC _ _ λb U=>zB (γ1:=[.val (.tup [.int b.1,.int b.2]),.val<|.str<|jK m w,.val (.tup [.int c.1,.int c.2])]) rfl rfl (by simp[HE z (h b U) O])
 have Y:(jc bs).length<=lim:=by simpa using I
 have e:bC (bs.map λb=>D.int<|m9 w b c)=da (kU<|bs.map λb=>m9 w b c):=by rw[<-Jz,NB];rfl
 unfold qg;refine jf ?_;have a:zN (zk 1) [Cell.val (.str<|jK m w),.val<|.lst<|jc bs,.val (.tup [.int c.1,.int c.2])]=da (jc bs):=rfl;show j9 _ [Cell.val (.str<|jK m w),.val<|.lst<|jc bs,.val (.tup [.int c.1,.int c.2])]=_;rw[ZS,aY,we,qp,a];simp only[MJ,Y,if_true];rw[show jo 1 [0,2] [Cell.val (.str<|jK m w),.val<|.lst<|jc bs,.val (.tup [.int c.1,.int c.2])]=[Cell.no,.val<|.str<|jK m w,.val (.tup [.int c.1,.int c.2])]from rfl,d];simp[e]
theorem og(Z:m<=5)(J:∀b∈hH,yU ((m+1:Nat):Int) b)(L:∀b∈h9,yU ((m+1:Nat):Int) b)(I:hH.length<=lim)(l2:h9.length<=lim)(z:jW [zR p m w wd1 T1]=da (.val<|kg hH _k _q))(O:jW [zR p m w wd2 T2]=da (.val<|kg h9 _l _r)):
 ka [zR p m w wd1 T1,zR p m w wd2 T2]=da (.val<|.int<|kU<|h9.map λc=>kU<|hH.map λb=>m9 w b c):=by
 have U:=(yu (p:=p) (w:=w) (wd:=wd1) (T:=T1) (wd':=wd2) (T':=T2)<|show m<=900 by omega).2;have Y:=xZ (p:=p) (w:=w) (wd:=wd1) (T:=T1) (show m<=900 by omega);let a:=zR p m w wd1 T1;let R2:=zR p m w wd2 T2;have g:zY (.nm 0) jt (zD qg<|zb (zD qI<|zb (zc 1) zF)<|zb (zc 2)<|zb (zc 0) zF) [Cell.no,.val a,.val (.lst<|jc hH)] (jc h9)=da (h9.map λc=>D.int<|kU<|hH.map λb=>m9 w b c):=by
  conv=>lhs;unfold jc
  exact zC _ _ λc h=>zB (γ1:=[.val (.tup [.int c.1,.int c.2]),.val a,.val (.lst<|jc hH)]) rfl rfl (by simp[a,Y,Wf Z J I (L c h)])
 have e:(jc h9).length<=lim:=by simpa using l2
 have k:bC (h9.map λc=>D.int<|kU<|hH.map λb=>m9 w b c)=da (kU<|h9.map λc=>kU<|hH.map λb=>m9 w b c):=by rw[<-Jz,NB];rfl
 have i:jW [a]=da (.val<|kg hH _k _q):=z;have j:jW [R2]=da (.val<|kg h9 _l _r):=O;have f:jT [a,R2]=da (.val .el):=U;show ka [a,R2]=_
 clear_value a R2
 unfold ka;refine jf<|zw (γ':=[.val a,.val R2,.no]) (by simp[z9,f])<|zw (γ':=[.val a,.val R2,.val (.lst<|jc hH)]) (by simp[i,kg,i0]) ?_;have d:zN (zJ<|dv (zJ<|zD jW<|zb (zc 1) zF)<|zu<|.int 0) [Cell.val a,.val R2,.val (.lst<|jc hH)]=da (jc h9):=by simp[j,kg,i0]
 rw[ZS,aY,we,qp,d];simp only[MJ,e,if_true];rw[show jo 1 [0,2] [Cell.val a,.val R2,.val (.lst<|jc hH)]=[Cell.no,.val a,.val (.lst<|jc hH)]from rfl,g];simp[k]
end
noncomputable def y6(p:Int)(m:Nat)(w:UK)(wd1 wd2:UX)(T1 T2 h:UW):Prop:=
 ∀k,k<m->∀i j,i<wd2 (ja w k)->j<wd1 (zZ w k)->mM p (wd1<|ja w k) (h<|ja w k) (T1 k) i j=mM p (wd2<|zZ w k) (T2 k) (h<|zZ w k) i j
section
variable{p:Int}{m a b c d:Nat}{w:UK}{f:Nat->Int}
abbrev n6(a b r:Nat):Prop:=a<=r/\r<=b
structure zt(p:Int)(m:Nat)(w:UK)(a b c d:Nat)(f:Nat->Int):Prop where
 zero:∀r,¬(n6 a b r/\n6 c d r)->f r=0
 pass:∀k,k<m->n6 c d (ja w k)->n6 a b (zZ w k)->f (ja w k)%p=f (zZ w k)%p
theorem zt.next(h:zt p m w a b c d f)(I:b<=m){r:Nat}(J:n6 a b r/\n6 c d r)(z:n6 a b (r+1)/\n6 c d (r+1)):f (r+1)%p=f r%p:=by
 have x:=h.pass r (by have:=z.1.2;omega);unfold ja zZ at x;cases hw:w r with
 |true=>
  simp only[hw,if_true]at x;exact(x J.2 z.1).symm
 |false=>
  simp only[hw,NV,if_false]at x;exact x z.2 J.1
theorem zt.const(h:zt p m w a b c d f)(I:b<=m):∀s,n6 a b (max a c+s)/\n6 c d (max a c+s)->f (max a c+s)%p=f (max a c)%p
 |0,_=>rfl
 |s+1,e=>by have g:n6 a b (max a c+s)/\n6 c d (max a c+s):=⟨⟨by omega,by have:=e.1.2;omega⟩,⟨by omega,by have:=e.2.2;omega⟩⟩;rw[<-zt.const h I s g];exact zt.next h I g e
theorem zt.all(h:zt p m w a b c d f)(O:b<=m){r:Nat}(I:n6 a b r/\n6 c d r):f r%p=f (max a c)%p:=by obtain⟨s,rfl⟩:∃s,r=max a c+s:=⟨r-max a c,by have:=I.1.1;have:=I.2.1;omega⟩;exact h.const O s I
theorem zt.none(h:zt p m w a b c d f)(ab:a<=b)(z:c<=d)(U:b<=m)(J:d<=m)(n:t4 w a b c d=dt)(r:Nat):f r%p=0:=by
 by_cases Y:n6 a b r/\n6 c d r
 ·obtain⟨⟨k,o⟩,s,t⟩:=Y
  have g:max a c<=min b d:=by omega
  have e:=h.all U (r:=r) ⟨⟨k,o⟩,s,t⟩;unfold t4 at n;rw[decide_eq_true g,Bool.true_and,Bool.and_eq_false_iff]at n;rcases n with n|n
  ·rw[e]
   unfold C0 at n;rw[Bool.or_eq_false_iff]at n;have j:¬a=c:=by simpa using n.1
   have I:=n.2;by_cases l:a<c
   ·rw[show max a c=c by omega]at I ⊢
    rw[decide_eq_true l]at I;have O:w (c-1)=dt:=by simpa using I
    have x:=h.pass (c-1) ⋯;unfold ja zZ at x;simp only[O,NV,if_false]at x;rw[show c-1+1=c by omega]at x;rw[x ⟨by omega,z⟩ ⟨by omega,by omega⟩,h.zero (c-1) (λq=>by have:=q.2.1;omega)];rfl
   ·rw[show max a c=a by omega]at I ⊢
    rw[decide_eq_false l]at I;have O:w (a-1)=dj:=by simpa using I
    have x:=h.pass (a-1) ⋯;unfold ja zZ at x;simp only[O,if_true]at x;rw[show a-1+1=a by omega]at x;rw[<-x ⟨by omega,by omega⟩ ⟨by omega,ab⟩,h.zero (a-1) (λq=>by have:=q.1.1;omega)];rfl
  ·have i:=h.all U (r:=min b d) ⟨⟨by omega,by omega⟩,by omega,by omega⟩
   rw[e,<-i];unfold C4 at n;rw[Bool.or_eq_false_iff]at n;have j:¬b=d:=by simpa using n.1
   have I:=n.2;by_cases l:b<d
   ·rw[show min b d=b by omega]at I ⊢
    rw[decide_eq_true l]at I;have O:w b=dt:=by simpa using I
    have x:=h.pass b ⋯;unfold ja zZ at x;simp only[O,NV,if_false]at x;rw[<-x ⟨by omega,by omega⟩ ⟨ab,by omega⟩,h.zero (b+1) (λq=>by have:=q.1.2;omega)];rfl
   ·rw[show min b d=d by omega]at I ⊢
    rw[decide_eq_false l]at I;have O:w d=dj:=by simpa using I
    have x:=h.pass d ⋯;unfold ja zZ at x;simp only[O,if_true]at x;rw[x ⟨z,by omega⟩ ⟨by omega,by omega⟩,h.zero (d+1) (λq=>by have:=q.2.2;omega)];rfl
 ·rw[h.zero r Y];rfl
theorem tK(y:t4 w a b c d=dj)(t:Int):zt p m w a b c d λr=>if n6 a b r/\n6 c d r then t else 0 where
 zero:=λr h=>UY h
 pass:=λk hk U Y=>by
  unfold t4 at y;simp only[MO]at y;obtain⟨y1,I,O⟩:=y;have y1:=of_decide_eq_true y1;have key:(n6 a b (ja w k)/\n6 c d (ja w k))↔(n6 a b (zZ w k)/\n6 c d (zZ w k)):=by
   unfold C0 at I;unfold C4 at O;unfold n6 at U Y ⊢;unfold ja at U ⊢;unfold zZ at Y ⊢;cases hw:w k with
   | true=>
    simp only[hw,if_true]at U Y ⊢;constructor
    ·rintro⟨q1,q2⟩
     refine⟨Y,?_⟩;have:¬(k=d):=λe=>by
      have z:min b d=d:=by omega
      have ne:¬b=d:=by omega
      rw[z,<-e,hw]at O;simp only[decide_eq_false_iff_not.mpr (show ¬b=k by omega),Rt]at O;simp at O;omega
     omega
    ·rintro⟨q1,q2⟩
     refine⟨?_,U⟩;have:¬(k+1=a):=λe=>by
      have z:max a c-1=k:=by omega
      rw[z,hw]at I;simp only[decide_eq_false_iff_not.mpr (show ¬a=c by omega),Rt]at I;simp at I;omega
     omega
   | false=>
    simp only[hw,NV,if_false]at U Y ⊢;constructor
    ·rintro⟨q1,q2⟩
     refine⟨Y,?_⟩;have:¬(k+1=c):=λe=>by
      have z:max a c-1=k:=by omega
      rw[z,hw]at I;simp only[decide_eq_false_iff_not.mpr (show ¬a=c by omega),Rt]at I;simp at I;omega
     omega
    ·rintro⟨q1,q2⟩
     refine⟨?_,U⟩;have:¬(k=b):=λe=>by
      have z:min b d=b:=by omega
      rw[z,<-e,hw]at O;simp only[decide_eq_false_iff_not.mpr (show ¬k=d by omega),Rt]at O;simp at O;omega
     omega
  by_cases q:n6 a b (ja w k)/\n6 c d (ja w k)
  ·rw[UJ q,UJ (key.mp q)]
  ·rw[UY q,UY (λz=>q<|key.mpr z)]
end
section
variable{p:Int}{m:Nat}{w:UK}{K K1 K2:List (Int×Int)}{h:UW}
abbrev stK(K:List (Int×Int))(x:Nat):Nat:=(K.getD x (0,0)).1.toNat
abbrev sx(K:List (Int×Int))(x:Nat):Nat:=(K.getD x (0,0)).2.toNat
abbrev i9(K:List (Int×Int))(r a:Nat):Nat:=(qt K r).getD a 0
abbrev yg(K:List (Int×Int))(r x:Nat):Nat:=(qt K r).idxOf x
abbrev r0(K:List (Int×Int))(x r:Nat):Prop:=n6 (stK K x) (sx K x) r
theorem Yw(I:∀b∈K,yU ((m+1:Nat):Int) b){x:Nat}(hx:x<K.length):stK K x<=sx K x/\sx K x<=m/\((stK K x:Int),(sx K x:Int))=K.getD x (0,0):=by
 have e:K.getD x (0,0)=K[x]:=by simp[hx]
 obtain⟨a,d,O⟩:=I K[x] (OI hx);unfold stK sx;rw[e];refine⟨by omega,by omega,Prod.ext ?_ ?_⟩
 ·show((K[x].1.toNat:Nat):Int)=_;omega
 ·show((K[x].2.toNat:Nat):Int)=_;omega
theorem qV(O:∀b∈K,yU ((m+1:Nat):Int) b){x r:Nat}:x∈qt K r↔x<K.length/\r0 K x r:=by unfold qt;rw[Nl,MG];refine and_congr_right λd=>?_;obtain⟨_,_,I⟩:=Yw O d;have a:=congrArg Prod.fst I;have U:=congrArg Prod.snd I;dsimp only at a U;unfold Fp;simp only[MO,decide_eq_true_eq];unfold r0 n6;omega
theorem vN{r a:Nat}(z:a<qq K r):i9 K r a∈qt K r:=by unfold i9;rw[MK,MH z];exact OI z
theorem mB(K:List (Int×Int))(r:Int):(qt K r).Nodup:=SN.filter _
theorem QY{r x:Nat}(hx:x∈qt K r):yg K r x<qq K r/\i9 K r (yg K r x)=x:=by have l:(qt K r).idxOf x<(qt K r).length:=Sa hx;refine⟨l,?_⟩;unfold i9 yg;rw[MK,MH l];exact TM l
theorem bQ{r a:Nat}(z:a<qq K r):yg K r (i9 K r a)=a:=by unfold i9 yg;rw[MK,MH z];exact(mB K r).idxOf_getElem a z
noncomputable def Yh(K1 K2:List (Int×Int))(h:UW)(x y r:Nat):Int:=if r0 K1 x r/\r0 K2 y r then h r (yg K2 r y) (yg K1 r x)else 0
theorem Ir(J:∀b∈K1,yU ((m+1:Nat):Int) b)(L:∀b∈K2,yU ((m+1:Nat):Int) b){r a b:Nat}(z:a<qq K2 r)(I:b<qq K1 r):Yh K1 K2 h (i9 K1 r b) (i9 K2 r a) r=h r a b:=by unfold Yh;rw[UJ ⟨((qV J).mp (vN I)).2,((qV L).mp (vN z)).2⟩,bQ z,bQ I]
theorem pE(z:∀b∈K1,yU ((m+1:Nat):Int) b){f:UV}{k a b:Nat}(U:b<qq K1 (zZ w k)):mM p (qq K1<|ja w k) f (tx w K1 k) a b=(if r0 K1 (i9 K1 (zZ w k) b) (ja w k)then f a (yg K1 (ja w k)<|i9 K1 (zZ w k) b)else 0)%p:=by
 have d:=(qV z).mp (vN U);generalize ex:i9 K1 (zZ w k) b=x at d;unfold mM tx;have e:(qt K1<|zZ w k).getD b 0=x:=ex;rw[e];by_cases q:r0 K1 x (ja w k)
 ·have i:x∈qt K1 (ja w k):=(qV z).mpr ⟨d.1,q⟩
  obtain⟨l,Y⟩:=QY i;rw[UJ q,z6 l λc I h=>by rw[UY,Rg];intro O;have:=bQ (K:=K1) (r:=ja w k) I;rw[show i9 K1 (ja w k) c=x from O]at this;exact h this.symm]
  rw[show(qt K1<|ja w k).getD (yg K1 (ja w k) x) 0=x from Y,UJ rfl,SO]
 ·rw[UY q,zA (g:=λ_=>0) λc I=>by rw[UY,Rg];intro O;have:=(qV z).mp (vN (K:=K1) I);rw[show i9 K1 (ja w k) c=x from O]at this;exact q this.2,zU]
theorem pF(z:∀b∈K2,yU ((m+1:Nat):Int) b){f:UV}{k a b:Nat}(J:a<qq K2 (ja w k)):mM p (qq K2<|zZ w k) (tx w K2 k) f a b=(if r0 K2 (i9 K2 (ja w k) a) (zZ w k)then f (yg K2 (zZ w k)<|i9 K2 (ja w k) a) b else 0)%p:=by
 have d:=(qV z).mp (vN J);generalize ex:i9 K2 (ja w k) a=x at d;unfold mM tx;have e:(qt K2<|ja w k).getD a 0=x:=ex;rw[e];by_cases q:r0 K2 x (zZ w k)
 ·have h:x∈qt K2 (zZ w k):=(qV z).mpr ⟨d.1,q⟩
  obtain⟨l,U⟩:=QY h;rw[UJ q,z6 l λc I Y=>by rw[UY,Int.zero_mul];intro O;have:=bQ (K:=K2) (r:=zZ w k) I;rw[show i9 K2 (zZ w k) c=x from O.symm]at this;exact Y this.symm]
  rw[show(qt K2<|zZ w k).getD (yg K2 (zZ w k) x) 0=x from U,UJ rfl,Int.one_mul]
 ·rw[UY q,zA (g:=λ_=>0) λc I=>by rw[UY,Int.zero_mul];intro O;have:=(qV z).mp (vN (K:=K2) I);rw[show i9 K2 (zZ w k) c=x from O.symm]at this;exact q this.2,zU]
theorem gK(J:∀b∈K1,yU ((m+1:Nat):Int) b)(L:∀b∈K2,yU ((m+1:Nat):Int) b):y6 p m w (qq K1) (qq K2) (tx w K1) (tx w K2) h ↔ ∀x y,x<K1.length->y<K2.length->zt p m w (stK K1 x) (sx K1 x) (stK K2 y) (sx K2 y) (Yh K1 K2 h x y):=by
 constructor
 ·intro H x y t u
  refine⟨λr s=>UY s,λk Y d a=>?_⟩;have mx:x∈qt K1 (zZ w k):=(qV J).mpr ⟨t,a⟩;have U:y∈qt K2 (ja w k):=(qV L).mpr ⟨u,d⟩;obtain⟨g,n⟩:=QY mx;obtain⟨l,o⟩:=QY U;have:=H k Y (yg K2 (ja w k) y) (yg K1 (zZ w k) x) l g;rw[pE J g,pF L l,n,o]at this;unfold Yh;by_cases I:r0 K1 x (ja w k)<;>by_cases O:r0 K2 y (zZ w k)
  ·rw[UJ ⟨I,d⟩,UJ ⟨a,O⟩];rw[UJ I,UJ O]at this;exact this
  ·rw[UJ ⟨I,d⟩,UY (λz=>O z.2)];rw[UJ I,UY O]at this;exact this
  ·rw[UY (λz=>I z.1),UJ ⟨a,O⟩];rw[UY I,UJ O]at this;exact this
  ·rw[UY (λz=>I z.1),UY (λz=>O z.2)]
 ·intro H k Y i j e f
  rw[pE J f,pF L e];have mx:=(qV J).mp (vN f);have U:=(qV L).mp (vN e);have:=(H _ _ mx.1 U.1).pass k Y U.2 mx.2;unfold Yh at this;rw[bQ e,bQ f]at this;by_cases I:r0 K1 (i9 K1 (zZ w k) j) (ja w k)<;>by_cases O:r0 K2 (i9 K2 (ja w k) i) (zZ w k)
  ·rw[UJ I,UJ O];rw[UJ ⟨I,U.2⟩,UJ ⟨mx.2,O⟩]at this;exact this
  ·rw[UJ I,UY O];rw[UJ ⟨I,U.2⟩,UY (λz=>O z.2)]at this;exact this
  ·rw[UY I,UJ O];rw[UY (λz=>I z.1),UJ ⟨mx.2,O⟩]at this;exact this
  ·rw[UY I,UY O]
end
section
variable{p:Int}{m:Nat}{w:UK}{wd wd':UX}{T T' X J:UW}
abbrev fx(p:Int)(m:Nat)(w:UK)(wd wd':UX)(T T' X J:UW)(c6 c7 c8 c9 Ls k_ l_ m_ i?:Cell):Ctx:=
 [.val (.int p),.val<|.str<|jK m w,.val<|mJ m w wd T,.val<|mJ m w wd' T',.val<|.lst<|CJ m w wd wd' J,.val<|.lst<|il (m+1) wd wd' X,c6,c7,c8,c9,Ls,k_,l_,m_,i?]
end
section
variable{p:Int}{m:Nat}{w:UK}{wd wd':UX}{T T' J:UW}
abbrev mx(ns:List Int)(p:Int)(m:Nat)(w:UK)(wd wd':UX)(T T':UW)(c5 c6 c7 c8 c9 Ls k_ l_ m_:Cell):Ctx:=
 [.val (XQ ns),.val<|.int p,.val<|.str<|jK m w,.val<|mJ m w wd T,.val<|mJ m w wd' T',c5,c6,c7,c8,c9,Ls,k_,l_,m_]
end
theorem Ys(f:Nat->Int)(a:Nat):∀b,zm f (a+b)=zm f a+zm (λx=>f<|a+x) b
 |0=>by show zm f a=zm f a+0;omega
 |b+1=>by show zm f (a+b)+f (a+b)=zm f a+(zm (λx=>f<|a+x) b+f (a+b));rw[Ys f a b];omega
theorem Jy(f:Nat->Int)(w:Nat):∀h,zm f (h*w)=zm (λi=>zm (λj=>f<|i*w+j) w) h
 |0=>by rw[Nat.zero_mul];rfl
 |h+1=>by rw[Su,Ys,Jy f w h];rfl
theorem Xp(g:Nat->Int):∀n,kU ((ME n).map g)=zm g n
 |0=>rfl
 |n+1=>by rw[OH,NU,Yq List.perm_append_comm];show g n+kU ((ME n).map g)=zm g n+g n;rw[Xp g n,Int.add_comm]
theorem WV(f:Int×Int->Int)(K:List (Int×Int)):kU (K.map f)=zm (λx=>f<|K.getD x (0,0)) K.length:=by
 rw[<-Xp]
 conv=>lhs;rw[<-jG (0,0) K,NB]
 rfl
theorem XB(q:UK):∀n,(((ME n).filter q).length:Int)=zm (λs=>if q s=dj then 1 else 0) n
 |0=>rfl
 |n+1=>by
  rw[OH,Rp,NC];show _=zm (λs=>if q s=dj then 1 else 0) n+_;rw[<-XB q n];by_cases h:q n=dj
  ·simp[h]
  ·simp[h]
structure Du(p:Int)(m:Nat)(w:UK)(wd1 wd2:UX)(T1 T2:UW)(c:Nat)(E:Nat->Nat->Nat->Nat->Int):Prop where
 O7:∀s,s<c->y6 p m w wd1 wd2 T1 T2 (E s)
 span:∀h,y6 p m w wd1 wd2 T1 T2 h->∃t:Nat->Int,∀r,r<=m->∀i j,i<wd2 r->j<wd1 r->h r i j%p=zm (λs=>t s*E s r i j) c%p
 ind:∀t:Nat->Int,(∀r,r<=m->∀i j,i<wd2 r->j<wd1 r->zm (λs=>t s*E s r i j) c%p=0)->∀s,s<c->t s%p=0
theorem XO{w:UK}{m k:Nat}(h:k<m):ja w k<=m:=by unfold ja;split<;>omega
theorem XX{w:UK}{m k:Nat}(h:k<m):zZ w k<=m:=by unfold zZ;split<;>omega
section
variable{p:Int}{m:Nat}{w:UK}{wd1 wd2 U6 U7:UX}{T1 T2 S1 S2 A1 B1 A2 B2:UW}{K1 K2:List (Int×Int)}{h:UW}{c:Nat}{E:Nat->Nat->Nat->Nat->Int}
theorem y6.wd(z:∀r,r<=m->wd1 r=U6 r)(O:∀r,r<=m->wd2 r=U7 r)(H:y6 p m w wd1 wd2 T1 T2 h):y6 p m w U6 U7 T1 T2 h:=λk I i j b U=>by have Y:=XO (w:=w) I;have a:=XX (w:=w) I;rw[<-O _ Y]at b;rw[<-z _ a]at U;rw[<-z _ Y,<-O _ a];exact H k I i j b U
theorem Du.wd(e1:∀r,r<=m->wd1 r=U6 r)(O:∀r,r<=m->wd2 r=U7 r)(H:Du p m w wd1 wd2 T1 T2 c E):Du p m w U6 U7 T1 T2 c E where
 O7:=λs hs=>(H.O7 s hs).wd e1 O
 span:=λh hh=>by obtain⟨t,U⟩:=H.span h<|hh.wd (λr I=>(e1 r I).symm) λr I=>(O r I).symm;exact⟨t,λr I i j hi Y=>U r I i j (by rw[O r I];exact hi)<|by rw[e1 r I];exact Y⟩
 ind:=λt U s hs=>H.ind t (λr I i j hi Y=>U r I i j (by rw[<-O r I];exact hi)<|by rw[<-e1 r I];exact Y) s hs
noncomputable def xI(w:UK)(K1 K2:List (Int×Int)):List Nat:=(ME<|K1.length*K2.length).filter λs=>t4 w (stK K1<|s/K2.length) (sx K1<|s/K2.length) (stK K2<|s%K2.length)<|sx K2<|s%K2.length
theorem bW:((xI w K1 K2).length:Int)=kU (K1.map λb=>kU<|K2.map λc=>m9 w b c):=by
 unfold xI;rw[XB,Jy,WV];refine zA λx d=>?_;rw[WV];refine zA λy I=>?_;have a:(x*K2.length+y)/K2.length=x:=by rw[C9,Nat.mul_add_div ⋯,Ut I,Td]
 have O:(x*K2.length+y)%K2.length=y:=by rw[C9,Nat.mul_add_mod,Ur I]
 rw[a,O];rfl
noncomputable def D8(w:UK)(K1 K2:List (Int×Int))(s r a b:Nat):Int:=if i9 K1 r b*K2.length+i9 K2 r a=(xI w K1 K2).getD s 0 then 1 else 0
theorem aj{x y N:Nat}(I:y<N):(x*N+y)/N=x/\(x*N+y)%N=y:=by
 constructor
 ·rw[C9,Nat.mul_add_div ⋯,Ut I,Td]
 ·rw[C9,Nat.mul_add_mod,Ur I]
theorem Y0{x y:Nat}(hx:x<K1.length)(I:y<K2.length):x*K2.length+y∈xI w K1 K2↔t4 w (stK K1 x) (sx K1 x) (stK K2 y) (sx K2 y)=dj:=by
 unfold xI;obtain⟨a,O⟩:=aj (x:=x) I;rw[Nl,MG,a,O];have:x*K2.length+y<K1.length*K2.length:=by have:(x+1)*K2.length<=K1.length*K2.length:=RR _ hx;rw[Nat.add_mul]at this;omega
 exact and_iff_right this
theorem Yo(t:Nat->Int){L:List Nat}(J:L.Nodup)(z:Nat):zm (λs=>t s*if z=L.getD s 0 then 1 else 0) L.length=if z∈L then t (L.idxOf z)else 0:=by
 by_cases h:z∈L
 ·rw[UJ h]
  have l:=Sa h;rw[z6 l λs a I=>by rw[UY,Rg];intro e;rw[MK,MH a]at e;have:=J.idxOf_getElem s a;rw[show L[s]=z from e.symm]at this;exact I this.symm]
  rw[UJ,SO];rw[MK,MH l];exact(TM l).symm
 ·rw[UY h,zA (g:=λ_=>0) λs a=>by rw[UY,Rg];intro e;rw[MK,MH a]at e;exact h<|e ▸ OI a,zU]
theorem Kp:(xI w K1 K2).Nodup:=SN.filter _
theorem gL(h1:∀b∈K1,yU ((m+1:Nat):Int) b)(h2:∀b∈K2,yU ((m+1:Nat):Int) b):Du p m w (qq K1) (qq K2) (tx w K1) (tx w K2) (xI w K1 K2).length (D8 w K1 K2) where
 O7:=λs hs=>(gK h1 h2).mpr λx y hx I=>by
  by_cases e:x*K2.length+y=(xI w K1 K2).getD s 0
  ·have mem:x*K2.length+y∈xI w K1 K2:=by
    rw[e,MK,MH hs];exact OI hs
   have P:=tK (p:=p) (m:=m) ((Y0 hx I).mp mem) 1;have:Yh K1 K2 (D8 w K1 K2 s) x y=λr=>if n6 (stK K1 x) (sx K1 x) r/\n6 (stK K2 y) (sx K2 y) r then 1 else 0:=by
    funext r;unfold Yh;by_cases q:r0 K1 x r/\r0 K2 y r
    ·rw[UJ q,UJ q]
     unfold D8;rw[(QY<|(qV h1).mpr ⟨hx,q.1⟩).2,(QY<|(qV h2).mpr ⟨I,q.2⟩).2,UJ e]
    ·rw[UY q,UY q]
   rw[this];exact P
  ·have:Yh K1 K2 (D8 w K1 K2 s) x y=λ_=>0:=by
    funext r;unfold Yh;by_cases q:r0 K1 x r/\r0 K2 y r
    ·rw[UJ q]
     unfold D8;rw[(QY<|(qV h1).mpr ⟨hx,q.1⟩).2,(QY<|(qV h2).mpr ⟨I,q.2⟩).2,UY e]
    ·rw[UY q]
   rw[this];exact⟨λ_ _=>rfl,λ_ _ _ _=>rfl⟩
 span:=λh hh=>by
  have H:=(gK h1 h2).mp hh;let N:=K2.length;refine⟨λs=>let z:=(xI w K1 K2).getD s 0;Yh K1 K2 h (z/N) (z%N) (max (stK K1<|z/N)<|stK K2<|z%N),λr hr i j hi hj=>?_⟩;have mx:=(qV h1).mp (vN hj);have O:=(qV h2).mp (vN hi);have P:=H _ _ mx.1 O.1;obtain⟨x1,U,_⟩:=Yw h1 mx.1;obtain⟨y1,y2,_⟩:=Yw h2 O.1;rw[<-Ir (h:=h) h1 h2 hi hj];have d:=Yo (λs=>let z:=(xI w K1 K2).getD s 0;Yh K1 K2 h (z/N) (z%N) (max (stK K1<|z/N)<|stK K2<|z%N)) (Kp (w:=w) (K1:=K1) (K2:=K2))<|i9 K1 r j*K2.length+i9 K2 r i;unfold D8;rw[d];by_cases mem:i9 K1 r j*K2.length+i9 K2 r i∈xI w K1 K2
  ·rw[UJ mem]
   have l:=Sa mem;have e:(xI w K1 K2).getD ((xI w K1 K2).idxOf (i9 K1 r j*K2.length+i9 K2 r i)) 0=i9 K1 r j*K2.length+i9 K2 r i:=by rw[MK,MH l];exact TM l
   obtain⟨e1,e2⟩:=aj (x:=i9 K1 r j) O.1;dsimp only;rw[e];show _=Yh K1 K2 h ((i9 K1 r j*K2.length+i9 K2 r i)/K2.length) ((i9 K1 r j*K2.length+i9 K2 r i)%K2.length) (max (stK K1<|(i9 K1 r j*K2.length+i9 K2 r i)/K2.length)<|stK K2<|(i9 K1 r j*K2.length+i9 K2 r i)%K2.length)%p;rw[e1,e2];exact P.all U ⟨mx.2,O.2⟩
  ·rw[UY mem]
   have n:t4 w (stK K1<|i9 K1 r j) (sx K1<|i9 K1 r j) (stK K2<|i9 K2 r i) (sx K2<|i9 K2 r i)=dt:=Bool.eq_false_iff.mpr λI=>mem<|(Y0 mx.1 O.1).mpr I;rw[P.none x1 y1 U y2 n r];rfl
 ind:=λt ht s hs=>by
  let z:=(xI w K1 K2)[s];have mem:z∈xI w K1 K2:=OI hs;have Y:=mem;unfold xI at Y;rw[Nl,MG]at Y;obtain⟨zl,zq⟩:=Y;have n2:0<K2.length:=by
   rcases TZ K2.length with e|e
   ·rw[e,Nat.mul_zero]at zl;omega
   ·exact e
  have I:z%K2.length<K2.length:=Nat.mod_lt _ n2;have hx:z/K2.length<K1.length:=Nat.div_lt_of_lt_mul (by rw[C9];exact zl);have ez:z/K2.length*K2.length+z%K2.length=z:=by rw[C9];exact Nat.div_add_mod z K2.length
  generalize ex:z/K2.length=x at *;generalize ey:z%K2.length=y at *;obtain⟨x1,U,_⟩:=Yw h1 hx;obtain⟨y1,y2,_⟩:=Yw h2 I;have lo:max (stK K1 x) (stK K2 y)<=min (sx K1 x) (sx K2 y):=by unfold t4 at zq;simp only[MO]at zq;exact of_decide_eq_true zq.1
  let r:=max (stK K1 x)<|stK K2 y;have qx:r0 K1 x r:=⟨by show _<=max _ _;omega,by show max _ _<=_;omega⟩;have qy:r0 K2 y r:=⟨by show _<=max _ _;omega,by show max _ _<=_;omega⟩;obtain⟨lx,px⟩:=QY<|(qV h1).mpr ⟨hx,qx⟩;obtain⟨ly,py⟩:=QY<|(qV h2).mpr ⟨I,qy⟩;have g:=ht r (by show max _ _<=_;omega) _ _ ly lx;have d:=Yo t (Kp (w:=w) (K1:=K1) (K2:=K2))<|x*K2.length+y;unfold D8 at g;rw[px,py,d,ez,UJ mem]at g;have:=Kp (w:=w) (K1:=K1) (K2:=K2) |>.idxOf_getElem s hs;rw[show(xI w K1 K2).idxOf z=s from this]at g;exact g
theorem aU(two:2<=p)(u1:∀r,r<=m->QK p (wd1 r) (B1 r) (A1 r))(u2:∀r,r<=m->QK p (wd2 r) (B2 r) (A2 r))
 (J:∀k,k<m->∀i j,i<wd1 (ja w k)->j<wd1 (zZ w k)->T1 k i j%p=mM p (wd1<|zZ w k) (mM p (wd1<|ja w k) (A1<|ja w k)<|S1 k) (B1<|zZ w k) i j)
 (L:∀k,k<m->∀i j,i<wd2 (ja w k)->j<wd2 (zZ w k)->T2 k i j%p=mM p (wd2<|zZ w k) (mM p (wd2<|ja w k) (A2<|ja w k)<|S2 k) (B2<|zZ w k) i j)
 (H:y6 p m w wd1 wd2 S1 S2 h):y6 p m w wd1 wd2 T1 T2 λr=>mM p (wd1 r) (mM p (wd2 r) (A2 r)<|h r) (B1 r):=λk Y i j A B=>by
 show mM p (wd1<|ja w k) (mM p (wd1<|ja w k) (mM p (wd2<|ja w k) (A2<|ja w k)<|h<|ja w k)<|B1<|ja w k) (T1 k) i j=mM p (wd2<|zZ w k) (T2 k) (mM p (wd1<|zZ w k) (mM p (wd2<|zZ w k) (A2<|zZ w k)<|h<|zZ w k)<|B1<|zZ w k) i j;have e:0<p:=by omega
 have u:=XO (w:=w) Y;have t:=XX (w:=w) Y;have H:=H k Y;have o:=u1 _ u;have s:=u2 _ t;have J:=J k Y;have L:=L k Y;generalize wd1 (ja w k)=ae at *;generalize wd1 (zZ w k)=ab at *;generalize wd2 (ja w k)=I at *;generalize wd2 (zZ w k)=cb at *;generalize A1 (ja w k)=ap at *;generalize B1 (ja w k)=as at *;generalize B1 (zZ w k)=a3 at *;generalize A2 (ja w k)=O at *;generalize A2 (zZ w k)=a7 at *;generalize B2 (zZ w k)=ax at *;generalize h (ja w k)=he at *;generalize h (zZ w k)=hb at *;have C:∀(n:Nat) (f g g':UV) (i j:Nat),(∀x,x<n->g x j%p=g' x j)->mM p n f g i j=mM p n f g' i j:=λn f g g' i j q=>by unfold mM;exact zS λx a=>by rw[<-q x a,MS (f i x)<|g x j%p,Pu _<|Te p,<-MS]
 have E:∀(n:Nat) (f f' g:UV) (i j:Nat),(∀x,x<n->f i x%p=f' i x)->mM p n f g i j=mM p n f' g i j:=λn f f' g i j q=>by unfold mM;exact zS λx a=>by rw[<-q x a,MS (f i x%p)<|g x j,Pu _<|Te p,<-MS]
 have d:∀(n:Nat) (f g:UV) (i j:Nat),mM p n f g i j%p=mM p n f g i j:=λn f g i j=>NO (nj e n f g i j).1 (nj e n f g i j).2;have l:mM p ae (mM p ae (mM p I O he) as) (T1 k) i j=mM p ab (mM p I O<|mM p ae he<|S1 k) a3 i j:=by rw[C ae _ _ (mM p ab (mM p ae ap<|S1 k) a3) i j λx a=>J x j a B,xv];refine qe (λx a=>?_) λ_ _=>rfl;rw[xv,qe (f':=mM p I O he) (g':=S1 k) (λy U=>?_) λ_ _=>rfl,<-xv];rw[<-xv,qe (f':=mM p I O he) (g':=sk) (λ_ _=>rfl) λz b=>KB two o b U,gb U,d]
 have r:mM p cb (T2 k) (mM p ab (mM p cb a7 hb) a3) i j=mM p ab (mM p I O<|mM p cb (S2 k) hb) a3 i j:=by rw[xv];refine qe (λx a=>?_) λ_ _=>rfl;rw[xv,xv];refine qe (λy U=>?_) λ_ _=>rfl;rw[E cb (T2 k) (mM p cb (mM p I O<|S2 k) ax) a7 i y λx a=>L i x A a,<-xv,qe (f':=mM p I O<|S2 k) (g':=sk) (λ_ _=>rfl) λz b=>KB two s b U,gb U,d]
 rw[l,r];refine qe (λx a=>?_) λ_ _=>rfl;exact qe (λ_ _=>rfl) λy U=>H y x U a
end
section ap
variable(γ:Ctx)
@[simp] def Ik:=@Kh.eq_1
@[simp] def Lc:=@Gq.eq_1
@[simp] theorem HR(f):sC f γ=((f γ).bind o6).map λi=>.int (-i):=rfl
@[simp] def Aq:=@EU.eq_1
end ap
structure _z(p:Int)(m:Nat)(w:UK)(wd:UX)(K:List (Int×Int))(T F G:UW):Prop where
 pr:∀r,r<m+1->Pair p (wd r) (F r) (G r)
 eb:jW [zR p m w wd T]=da (.val<|kg K (yf m wd G)<|yf m wd F)
 et:∀k,k<m->∀i j,i<wd (ja w k)->j<wd (zZ w k)->T k i j=mM p (wd<|zZ w k) (mM p (wd<|ja w k) (F<|ja w k)<|tx w K k) (G<|zZ w k) i j
 rg:∀k i j,0<=T k i j/\T k i j<p
section
variable{p:Int}{n n1 n2 c i j:Nat}{A A1 B1 A2 B2 X h:UV}{E:UW}{t:Nat->Int}
theorem pD(I:0<p)(n:Nat)(f g:UV)(i j:Nat):mM p n f g i j%p=mM p n f g i j:=NO (nj I n f g i j).1 (nj I n f g i j).2
theorem GU{g g':UV}(f:UV)(q:∀x,x<n->g x j%p=g' x j%p):mM p n f g i j=mM p n f g' i j:=by unfold mM;exact zS λx a=>by rw[MS,q x a,<-MS]
theorem Zo(two:2<=p)(u2:QK p n2 A2 B2)(u1:QK p n1 A1 B1)(J:i<n2)(I:j<n1):mM p n1 (mM p n2 A2<|mM p n1 (mM p n2 B2 h) A1) B1 i j=h i j%p:=by
 have O:0<p:=by omega
 have e:∀x,x<n1->mM p n2 A2 (mM p n1 (mM p n2 B2 h) A1) i x=mM p n1 (λa b=>h a b%p) A1 i x:=λx d=>by rw[xv];refine qe (λy U=>?_) λ_ _=>rfl;rw[xv,qe (f':=sk) (g':=h) (λz f=>KB two u2 J f) λ_ _=>rfl,Ci J]
 rw[qe (f':=mM p n1 (λa b=>h a b%p) A1) (g':=B1) e λ_ _=>rfl,<-xv,qe (f':=λa b=>h a b%p) (g':=sk) (λ_ _=>rfl) λx d=>KB two u1 d I,gb I];exact Pu _<|Te p
theorem VL(c:Nat)(t u:Nat->Int):zm (λs=>t s*(u s%p)) c%p=zm (λs=>t s*u s) c%p:=zS λs _=>by rw[MS,Pu _<|Te p,<-MS]
theorem GW(q:∀x,x<n->X x j%p=zm (λs=>t s*E s x j) c%p):mM p n A X i j=zm (λs=>t s*mM p n A (E s) i j) c%p:=by
 unfold mM;rw[VL];have e:zm (λk=>A i k*X k j) n%p=zm (λk=>A i k*zm (λs=>t s*E s k j) c) n%p:=zS λx a=>by rw[MS,q x a,<-MS]
 rw[e];congr 1;rw[zA (g:=λk=>zm (λs=>A i k*(t s*E s k j)) c) λk _=>by rw[jD],ql];refine zA λs _=>?_;rw[<-jD];exact zA λk _=>by rw[SG]
theorem GX(q:∀x,x<n->X i x%p=zm (λs=>t s*E s i x) c%p):mM p n X A i j=zm (λs=>t s*mM p n (E s) A i j) c%p:=by
 unfold mM;rw[VL];have e:zm (λk=>X i k*A k j) n%p=zm (λk=>zm (λs=>t s*E s i k) c*A k j) n%p:=zS λx a=>by rw[MS,q x a,<-MS]
 rw[e];congr 1;rw[zA (g:=λk=>zm (λs=>t s*E s i k*A k j) c) λk _=>by rw[kx],ql];refine zA λs _=>?_;rw[<-jD];exact zA λk _=>PD ..
theorem az(I:0<p)(q:∀a b,a<n2->b<n1->X a b%p=zm (λs=>t s*E s a b) c%p)(A B:UV)(i j:Nat):mM p n1 (mM p n2 A X) B i j=zm (λs=>t s*mM p n1 (mM p n2 A<|E s) B i j) c%p:=
 GX λx d=>by rw[pD I,GW (t:=t) (E:=E) (c:=c) λy O=>q y x O d]
end
section
variable{p:Int}{m c:Nat}{w:UK}{wd1 wd2:UX}{T1 T2 S1 S2 A1 B1 A2 B2:UW}{h:UW}{E:Nat->Nat->Nat->Nat->Int}
theorem Du.m?(two:2<=p)(u1:∀r,r<=m->QK p (wd1 r) (B1 r) (A1 r))(u2:∀r,r<=m->QK p (wd2 r) (B2 r) (A2 r))(Z:∀r,r<=m->QK p (wd1 r) (A1 r) (B1 r))(v2:∀r,r<=m->QK p (wd2 r) (A2 r) (B2 r))
 (J:∀k,k<m->∀i j,i<wd1 (ja w k)->j<wd1 (zZ w k)->T1 k i j%p=mM p (wd1<|zZ w k) (mM p (wd1<|ja w k) (A1<|ja w k)<|S1 k) (B1<|zZ w k) i j)
 (L:∀k,k<m->∀i j,i<wd2 (ja w k)->j<wd2 (zZ w k)->T2 k i j%p=mM p (wd2<|zZ w k) (mM p (wd2<|ja w k) (A2<|ja w k)<|S2 k) (B2<|zZ w k) i j)
 (H:Du p m w wd1 wd2 S1 S2 c E):Du p m w wd1 wd2 T1 T2 c λs r=>mM p (wd1 r) (mM p (wd2 r) (A2 r)<|E s r) (B1 r):=by
 have U:0<p:=by omega
 have F:∀{wd:UX} {T S A B:UW},(∀r,r<=m->QK p (wd r) (B r) (A r))->(∀k,k<m->∀i j,i<wd (ja w k)->j<wd (zZ w k)->T k i j%p=mM p (wd<|zZ w k) (mM p (wd<|ja w k) (A<|ja w k)<|S k) (B<|zZ w k) i j)->∀k,k<m->∀i j,i<wd (ja w k)->j<wd (zZ w k)->S k i j%p=mM p (wd<|zZ w k) (mM p (wd<|ja w k) (B<|ja w k)<|T k) (A<|zZ w k) i j:=λ{wd T S A B} u e k Y i j d O=>by rw[<-Zo (h:=S k) two (u _<|XO (w:=w) Y) (u _<|XX (w:=w) Y) d O];refine qe (λx M=>?_) λ_ _=>rfl;refine GU _ λy N=>?_;rw[e k Y y x N M,pD U]
 refine⟨λs o=>aU two u1 u2 J L<|H.O7 s o,λh K=>?_,λt C s o=>?_⟩
 ·have G:=aU (A1:=B1) (B1:=A1) (A2:=B2) (B2:=A2) two Z v2 (F u1 J) (F u2 L) K
  obtain⟨t,C⟩:=H.span _ G;refine⟨t,λr I i j d O=>?_⟩;rw[<-Zo (h:=h r) two (v2 r I) (Z r I) d O,az U (t:=t) (E:=λs=>E s r) (c:=c) λa b f n=>C r I a b f n]
 ·refine H.ind t (λr I i j d O=>?_) s o
  have z:∀s,mM p (wd1 r) (mM p (wd2 r) (B2 r)<|mM p (wd1 r) (mM p (wd2 r) (A2 r)<|E s r)<|B1 r) (A1 r) i j=E s r i j%p:=λs=>Zo (h:=E s r) two (u2 r I) (u1 r I) d O;have l:=az (n1:=wd1 r) (n2:=wd2 r) (X:=λ_ _=>0) U (t:=t) (E:=λs=>mM p (wd1 r) (mM p (wd2 r) (A2 r)<|E s r)<|B1 r) (c:=c) (λa b f n=>(C r I a b f n).symm) (B2 r) (A1 r) i j;rw[zA (g:=λs=>t s*(E s r i j%p)) λs _=>by rw[z s],VL]at l;rw[<-l];have P:∀x,mM p (wd2 r) (B2 r) (λ_ _=>0) i x=0:=λx=>by unfold mM;rw[zA (g:=λ_=>0) λk _=>Rg _,zU];rfl
  unfold mM;rw[zA (g:=λ_=>0) λk _=>by have:=P k;unfold mM at this;rw[this,Int.zero_mul],zU]
  rfl
end
structure E2(p:Int)(m:Nat)(w:UK)(wd:UX)(K:List (Int×Int))(T F G:UW):Prop where
 pp:_z p m w wd K T F G
 st:∀b∈K,yU ((m+1:Nat):Int) b
 br:∀r,r<=m->qq K r=wd r
 le:K.length<=48
theorem gJ{p:Int}{m:Nat}{w:UK}{wd1 wd2:UX}{K1 K2:List (Int×Int)}{T1 z L T2 J Z:UW}(hp:Pr p)(I:E2 p m w wd1 K1 T1 z L)(O:E2 p m w wd2 K2 T2 J Z):∃(c:Nat) (E:Nat->Nat->Nat->Nat->Int),(c:Int)=kU (K1.map λb=>kU<|K2.map λc=>m9 w b c)/\Du p m w wd1 wd2 T1 T2 c E:=by
 have two:=hp.two;refine⟨_,_,bW,Du.m? (S1:=tx w K1) (S2:=tx w K2) (A1:=z) (B1:=L) (A2:=J) (B2:=Z) two (λr U=>(I.pp.pr r ⋯).gf) (λr U=>(O.pp.pr r ⋯).gf) (λr U=>(I.pp.pr r ⋯).fg) (λr U=>(O.pp.pr r ⋯).fg) (λk Y i j a d=>?_) (λk Y i j a d=>?_)<|(gL (p:=p) (w:=w) I.st O.st).wd I.br O.br⟩
 ·rw[NO (I.pp.rg k i j).1 (I.pp.rg k i j).2]
  exact I.pp.et k Y i j a d
 ·rw[NO (O.pp.rg k i j).1 (O.pp.rg k i j).2]
  exact O.pp.et k Y i j a d
def hR(g:UV)(s k:Nat):Nat->Int:=g<|if k<=s then k-1 else k
noncomputable def gR(p:Int)(g:UV)(r s c:Nat)(y:Int)(k j:Nat):Int:=if k<r then g k j else if k=r then g s j*y%p else (hR g s k j-hR g s k c*(g s j*y%p))%p
theorem cS{n:Nat}{u v:Nat->Int}(h:∀x,x<n->u x=v x):zG n u=zG n v:=by unfold zG;exact Ni λx a=>by rw[h x (MG.mp a)]
section
variable{p:Int}{m:Nat}{w:UK}{wd1 wd2:UX}{T1 T2:UW}{h h':UW}
theorem y6.ext(e:∀r,r<=m->∀i j,i<wd2 r->j<wd1 r->h r i j=h' r i j)(H:y6 p m w wd1 wd2 T1 T2 h):y6 p m w wd1 wd2 T1 T2 h':=λk I i j a U=>by have Y:=XO (w:=w) I;have b:=XX (w:=w) I;rw[qe (f':=h<|ja w k) (g':=T1 k) (λt O=>(e _ Y i t a O).symm) λ_ _=>rfl,qe (f':=T2 k) (g':=h<|zZ w k) (λ_ _=>rfl) λt O=>(e _ b t j O U).symm];exact H k I i j a U
theorem BV{r i j:Nat}(O:r<=m)(z:i<wd2 r)(I:j<wd1 r)(h:UW):kM wd2 wd1 (vp wd2 wd1 h<|m+1) r i j=h r i j:=Xk (T:=h) z I (m+1) ⋯
end
section
variable{p:Int}{m:Nat}{w:UK}{wd1 wd2:UX}{T1 T2 Q:UW}
theorem CI(v:Nat->Int):A8 p (off (gm w wd2) (f9 w wd1) m) (off wd2 wd1<|m+1) (VH p m w wd2 wd1 T2 T1) v↔y6 p m w wd1 wd2 T1 T2 (kM wd2 wd1 v):=by
 have key:∀{k i j:Nat},k<m->i<gm w wd2 k->j<f9 w wd1 k->(zm (λc=>VH p m w wd2 wd1 T2 T1 (off (gm w wd2) (f9 w wd1) k+i*f9 w wd1 k+j) c*v c) (off wd2 wd1<|m+1)%p=0↔mM p (wd1<|ja w k) (kM wd2 wd1 v<|ja w k) (T1 k) i j=mM p (wd2<|zZ w k) (T2 k) (kM wd2 wd1 v<|zZ w k) i j):=λ{k i j} O a I=>by rw[nG v O a I];unfold pG mM;rw[<-xw,<-qP,zA (f:=λt=>T1 k t j*kM wd2 wd1 v (ja w k) i t) (g:=λt=>kM wd2 wd1 v (ja w k) i t*T1 k t j) λt _=>Oz ..];exact⟨λz=>OT.mpr z,λz=>OT.mp z⟩
 constructor
 ·intro H k O i j a I
  rw[xw w wd2 k]at a;rw[qP w wd1 k]at I;exact(key O a I).mp (H _<|iI O a I)
 ·intro H e U
  obtain⟨k,i,j,O,a,I,rfl⟩:=tw _ _ U;exact(key O a I).mpr (H k O i j (by rw[xw w wd2 k];exact a)<|by rw[qP w wd1 k];exact I)
theorem Hr{K1 K2:List (Int×Int)}{J Z L G2:UW}{q:Nat}{B:Nat->Vc}{l:UX}(z:Pr p)(P1:E2 p m w wd1 K1 T1 J Z)(P2:E2 p m w wd2 K2 T2 L G2)(hb:i3 p (off wd2 wd1<|m+1) q B l)(sp:∀v,Span p (off wd2 wd1<|m+1) (eL q B) v↔A8 p (off (gm w wd2) (f9 w wd1) m) (off wd2 wd1<|m+1) (VH p m w wd2 wd1 T2 T1) v):
 (q:Int)=kU (K1.map λb=>kU<|K2.map λc=>m9 w b c):=by
 obtain⟨c,E,f,H⟩:=gJ z P1 P2;have:=Ei z hb (W:=λs=>vp wd2 wd1 (E s)<|m+1) (m:=c) (λv=>?_) λt U s d=>?_
 ·omega
 ·constructor
  ·intro Y
   obtain⟨t,U⟩:=H.span _<|(CI v).mp ((sp v).mp Y);refine(WT (m:=c) (λs=>vp wd2 wd1 (E s)<|m+1) t).congr λx e=>?_;obtain⟨r,i,j,O,a,I,rfl⟩:=tw _ _ e;have:=U r ⋯ i j a I;rw[show kM wd2 wd1 v r i j=v (off wd2 wd1 r+i*wd1 r+j)from rfl]at this;rw[this];exact zS λs _=>by rw[Xk (T:=E s) a I (m+1) O]
  ·intro Y
   refine Y.le ?_;rintro _ ⟨s,d,rfl⟩;exact(sp _).mpr ((CI _).mpr ((H.O7 s d).ext λr O i j a I=>(BV O a I<|E s).symm))
 ·refine H.ind t (λr O i j a I=>?_) s d
  have:=U _<|iI (show r<m+1 by omega) a I;rw[<-this];exact zS λs _=>by rw[Xk (T:=E s) a I (m+1) ⋯]
end
section
variable{p:Int}{m:Nat}{w:UK}{wd1 wd2:UX}{T1 T2 Q:UW}{hs ws:UX}{T:UW}
abbrev EO(m:Nat)(wd1 wd2:UX)(u:Nat->Int):List D:=il (m+1) wd2 wd1 (kM wd2 wd1 u)
theorem bp(I:Pr p)(L:m<=4)(z:∀k,wd1 k<=9)(J:∀k,wd2 k<=9)(O:∀k i j,0<=T1 k i j/\T1 k i j<p)(Z:off wd2 wd1 (m+1)<=60)(hR:off (gm w wd2) (f9 w wd1) m<=100):
 ∃q B l,yO [zR p m w wd1 T1,zR p m w wd2 T2]=da (.own<|(ME q).map λs=>D.lst<|EO m wd1 wd2<|B s)/\i3 p (off wd2 wd1<|m+1) q B l/\∀v,Span p (off wd2 wd1<|m+1) (eL q B) v↔A8 p (off (gm w wd2) (f9 w wd1) m) (off wd2 wd1<|m+1) (VH p m w wd2 wd1 T2 T1) v:=by
 have x:=jl;have U:=I.pos;have A:=I.le;obtain⟨q,B,l,s,Y,g,r,_,eq⟩:=ZU (p:=p) I hR (show off wd2 wd1 (m+1)<=100 by omega)<|VH p m w wd2 wd1 T2 T1;refine⟨q,B,l,?_,g,r⟩;have d:=(yu (p:=p) (w:=w) (wd:=wd1) (T:=T1) (wd':=wd2) (T':=T2)<|show m<=900 by omega).2;have b:=yE (p:=p) (w:=w) (wd:=wd2) (T:=T2) (wd':=wd1) (T':=T1) L;have h:=ki (hs:=wd2) (ws:=wd1) (n:=m+1) ⋯ (λk=>by have:=z k;omega);have gt:=KL (p:=p) (w:=w) (wd:=wd2) (wd':=wd1) (T:=T2) (T':=T1) U ⋯ L J z O ⋯ ⋯;have sq:=vV (p:=p) (m:=m) (w:=w) (wd:=wd1) (T:=T1);have t:∀u:Nat->Int,qh [.lst (i8 (m+1) wd2 wd1),.tup (zG (off wd2 wd1<|m+1) u)]=da (.own<|EO m wd1 wd2 u):=λu=>ZM ⋯ (λk=>by have:=J k;omega) (λk=>by have:=z k;omega) u rfl;have f:zY (.nm 0) jt (jz<|je qh<|zb (zc 1)<|zb (zc 0) zF) [Cell.no,.val (.lst<|i8 (m+1) wd2 wd1)] (zX q (off wd2 wd1<|m+1) B)=da ((ME q).map λs=>D.lst<|EO m wd1 wd2<|B s):=by unfold zX;refine zC _ _ λs hs=>zB (γ1:=[.val (.tup<|zG (off wd2 wd1<|m+1)<|B s),.val (.lst<|i8 (m+1) wd2 wd1)]) rfl rfl ?_;simp[t]
 generalize zR p m w wd1 T1=R1 at *;generalize zR p m w wd2 T2=R2 at *;let S:=Cell.val<|.lst<|i8 (m+1) wd2 wd1;have y:¬((off wd2 wd1 (m+1):Int)>60):=by omega
 have o:(zX q (off wd2 wd1<|m+1) B).length<=lim:=by rw[show(zX q (off wd2 wd1<|m+1) B).length=q by simp[zX]];omega
 unfold yO;refine jf<|zw (γ':=[.val R1,.val R2,.no]) (by simp[z9,d])<|zw (γ':=[.val R1,.val R2,S]) (by simp[b,S])<|zw (γ':=[.val R1,.val R2,S]) ?_ ?_
 ·rw[vL,show sB (zH qs (zD jS<|zb (zc 2) zF)<|zu<|.int 60) [.val R1,.val R2,S]=da dt by simp[S,h];omega]
  rfl
 ·have a:zN (jm<|je ko<|zb (dv (zk 0)<|zu<|.int 0)<|zb (zD k8<|zb (zc 0)<|zb (zc 1) zF) zF) [.val R1,.val R2,S]=da (zX q (off wd2 wd1<|m+1) B):=by
   simp[sq,i0,gt,Y]
  show((zO _ _ _ _ _ _ [Cell.val R1,.val R2,S]).map λe=>Fl.ret<|.own e)=_;rw[qp,a,MJ,UJ o,show jo 1 [2] [Cell.val R1,.val R2,S]=[Cell.no,S]from rfl,f];rfl
end
section
variable{p q:Int}{m m':Nat}{w w':UK}{wd wd':UX}{T T':UW}{R1 R2:D}
theorem Wd:xE [.exc "Unlike" none]=da (.own [.str "unlike"]):=by kernel_rfl
theorem gp:xE [.exc "TooMany" none]=da (.own [.str "many"]):=by kernel_rfl
theorem rj:zQ=jk 6 (zT (jj 3<|zu .el)<|zT (jj 4<|zu .el)<|zT Ig<|zT O0 e_):=rfl
theorem iJ{z:Int}{J:Str}{I:D}(O:rk [.val R1,.val R2,.val<|.int z,.val .el,.val .el,.no]=da (J,none))
 (U:xE [.exc J none]=da (.own [I])):zQ [R1,R2,.int z]=da (.val<|.tup [.lst [I],.el]):=by
 have Y:=jl;have a:2<=lim:=by omega
 have x3:Ig [.val R1,.val R2,.val<|.int z,.val .el,.val .el,.no]=da (.next [.val R1,.val R2,.val<|.int z,.val<|.exc J none,.val .el,.no]):=by unfold Ig ed;rw[O];rfl
 rw[rj];refine jf<|zw (γ':=[.val R1,.val R2,.val<|.int z,.val .el,.no,.no]) rfl<|zw (γ':=[.val R1,.val R2,.val<|.int z,.val .el,.val .el,.no]) rfl<|zw x3 ?_;have t:O0 [.val R1,.val R2,.val<|.int z,.val<|.exc J none,.val .el,.no]=da (.ret<|.val<|.tup [.lst [I],.el]):=by unfold O0;rw[vL,show sB (zH QD (zc 3)<|zu .el) [.val R1,.val R2,.val<|.int z,.val<|.exc J none,.val .el,.no]=da dj from rfl];simp[U,a]
 unfold zT;rw[t];rfl
theorem Wr{z:Int}{d:D}(I:rk [.val R1,.val R2,.val<|.int z,.val .el,.val .el,.no]=none)
 (O:Ey [.val R1,.val R2,.val<|.int z,.val .el,.val .el,.no]=da (.next [.val R1,.val R2,.val<|.int z,.val .el,.val d,.no])):zQ [R1,R2,.int z]=da (.val<|.tup [.lst [],d]):=by
 have U:=jl;have a:2<=lim:=by omega
 have x3:Ig [.val R1,.val R2,.val<|.int z,.val .el,.val .el,.no]=da (.next [.val R1,.val R2,.val<|.int z,.val .el,.val d,.no]):=by unfold Ig ed;rw[I];exact O
 rw[rj];refine jf<|zw (γ':=[.val R1,.val R2,.val<|.int z,.val .el,.no,.no]) rfl<|zw (γ':=[.val R1,.val R2,.val<|.int z,.val .el,.val .el,.no]) rfl<|zw x3<|zw (γ':=[.val R1,.val R2,.val<|.int z,.val .el,.val d,.no]) ?_ ?_
 ·unfold O0
  rw[vL,show sB (zH QD (zc 3)<|zu .el) [.val R1,.val R2,.val<|.int z,.val .el,.val d,.no]=da dt from rfl];rfl
 ·simp[e_,a]
theorem VA(J:m<=900)(I:m'<=900)(h:¬(p=q/\K8 m m' w w')){z:Int}(hz:z=0\/z=1\/z=2):zQ [zR p m w wd T,zR q m' w' wd' T',.int z]=da (.val (.tup [.lst [.str "unlike"],.el])):=by
 have g:=VC (p:=p) (p':=q) (w:=w) (w':=w') (wd:=wd) (T:=T) (wd':=wd') (T':=T') J I h;have g0:qR [zR p m w wd T,zR q m' w' wd' T']=da ((("Unlike" : Str),none):Xn):=by simp[qR,W1,z9,oC,yc,g]
 have O:qZ [zR p m w wd T,zR q m' w' wd' T']=da ((("Unlike" : Str),none):Xn):=by simp[qZ,W1,z9,yc,g]
 have g2:ZK [zR p m w wd T,zR q m' w' wd' T']=da ((("Unlike" : Str),none):Xn):=by simp[ZK,W1,z9,yc,g]
 refine iJ ?_ Wd;rcases hz with rfl|rfl|rfl<;>simp[rk,tu,yc,g0,O,g2]
end
theorem pw{hs ws:UX}{a b:Nat}(z:∀k,hs k<=a)(h2:∀k,ws k<=b):∀n,off hs ws n<=n*(a*b)
 |0=>rn _
 |n+1=>by have:=pw z h2 n;have:=Nat.mul_le_mul (z n)<|h2 n;show off hs ws n+hs n*ws n<=_;rw[Su];omega
def CH(w:UK)(a:Nat):Int:=if w (a-1)=dj then (a:Int)else -(a:Int)
def CF(w:UK)(m b:Nat):Int:=if w b=dj then (b:Int)-m else (m:Int)-b
theorem Cs{w:UK}{a c:Nat}(h:C0 w a c=dj):a=c\/CH w a<CH w c:=by
 by_cases q:a=c
 ·exact .inl q
 ·right
  unfold C0 at h;simp only[q,decide_false,Rt,beq_iff_eq]at h;unfold CH;by_cases l:a<c
  ·rw[show max a c=c by omega,decide_eq_true l]at h
   rw[UJ h];split<;>omega
  ·rw[show max a c=a by omega,decide_eq_false l]at h
   rw[UY (by rw[h];decide)];split<;>omega
theorem Bi{w:UK}{m b d:Nat}(I:b<=m)(z:d<=m)(h:C4 w b d=dj):b=d\/CF w m b<CF w m d:=by
 by_cases q:b=d
 ·exact .inl q
 ·right
  unfold C4 at h;simp only[q,decide_false,Rt,beq_iff_eq]at h;unfold CF;by_cases l:b<d
  ·rw[show min b d=b by omega]at h
   rw[h];simp only[l,decide_true,if_true];split<;>omega
  ·rw[show min b d=d by omega]at h
   rw[h];simp only[l,decide_false];simp;split<;>omega
def VG(w:UK)(m:Nat)(b:Int×Int):Int:=CH w b.1.toNat+CF w m b.2.toNat
theorem Ep{w:UK}{m:Nat}{b c:Int×Int}(I:yU ((m+1:Nat):Int) b)(O:yU ((m+1:Nat):Int) c)(h:m9 w b c≠0):b=c\/VG w m b<VG w m c:=by
 obtain⟨b1,b2,b3⟩:=I;obtain⟨U,Y,d⟩:=O;have a:t4 w b.1.toNat b.2.toNat c.1.toNat c.2.toNat=dj:=by
  unfold m9 at h;by_cases q:t4 w b.1.toNat b.2.toNat c.1.toNat c.2.toNat=dj
  ·exact q
  ·rw[UY q]at h;exact absurd rfl h
 unfold t4 at a;simp only[MO]at a;have l:=Cs a.2.1;have r:=Bi (m:=m) ⋯ ⋯ a.2.2;unfold VG;rcases l with l|l<;>rcases r with r|r
 ·left
  refine Prod.ext ?_ ?_<;>omega
 ·rw[l];right;omega
 ·rw[r];right;omega
 ·right;omega
theorem uT{w:UK}{n:Int}{b:Int×Int}(I:yU n b):m9 w b b=1:=by obtain⟨a,d,O⟩:=I;unfold m9 t4 C0 C4;rw[UJ];simp;omega
theorem ZE{w:UK}{m:Nat}{c:Int×Int}(I:yU ((m+1:Nat):Int) c):∀bs:List (Int×Int),(∀b∈bs,yU ((m+1:Nat):Int) b)->kU (bs.map λb=>m9 w b c)=(bs.count c:Int)+kU ((bs.filter λb=>decide<|VG w m b<VG w m c).map λb=>m9 w b c)
 |[],_=>rfl
 | b::bs,h=>by
  have U:=ZE (w:=w) I bs λx d=>h x<|Ng _ d;have O:=h b Nc;rw[Nn];show m9 w b c+kU (bs.map λb=>m9 w b c)=_;rw[U];by_cases e:b=c
  ·subst e
   rw[List.filter_cons_of_neg ⋯,uT O,List.count_cons_self];omega
  ·rw[List.count_cons_of_ne e]
   by_cases k:VG w m b<VG w m c
   ·rw[List.filter_cons_of_pos (by simpa using k)]
    show _=_+(m9 w b c+kU _);omega
   ·rw[List.filter_cons_of_neg (by simpa using k)]
    have z:m9 w b c=0:=Decidable.byContradiction λa=>(Ep O I a).elim e k;omega
theorem AE{w:UK}{m:Nat}{z J:List (Int×Int)}(h1:∀b∈z,yU ((m+1:Nat):Int) b)(L:∀b∈J,yU ((m+1:Nat):Int) b)
 (e:∀c,yU ((m+1:Nat):Int) c->kU (z.map λb=>m9 w b c)=kU (J.map λb=>m9 w b c)):z.Perm J:=by
 have key:∀(n:Nat) (c:Int×Int),(VG w m c+100+4*m).toNat<n->z.count c=J.count c:=by
  intro n
  induction n with
  |zero=>intro c h;omega
  | succ n U=>
   intro c d;by_cases a:yU ((m+1:Nat):Int) c
   ·have f:=ZE (w:=w) a z h1
    have g:=ZE (w:=w) a J L;have lo:∀b,yU ((m+1:Nat):Int) b->0<=VG w m b+100+4*m:=λb I=>by obtain⟨b1,b2,b3⟩:=I;unfold VG CH CF;split<;>split<;>omega
    have Y:(z.filter λb=>decide<|VG w m b<VG w m c).Perm (J.filter λb=>decide<|VG w m b<VG w m c):=by
     rw[Tr];intro b;by_cases k:VG w m b<VG w m c
     ·rw[List.count_filter (by simpa using k),List.count_filter (by simpa using k)]
      by_cases O:yU ((m+1:Nat):Int) b
      ·have:=lo b O
       exact U b ⋯
      ·rw[NT λI=>O<|h1 b I,NT λI=>O (L b I)]
     ·rw[NT (by simp[k]),NT (by simp[k])]
    have:=Yq<|Y.map λb=>m9 w b c;have:=e c a;omega
   ·rw[NT λI=>a<|h1 c I,NT λI=>a (L c I)]
 rw[Tr];exact λc=>key _ c<|OC _
abbrev zP(s:Nat×Nat):Int×Int:=((s.1:Int),(s.2:Int))
theorem Ed(x b:Int×Int):i4 (.tup [.int x.1,.int x.2]) (.tup [.int b.1,.int b.2])=(x==b):=by rw[XM,Ru];simp[Prod.ext_iff]
theorem aW(b:Int×Int):∀bs:List (Int×Int),((jc bs).countP λd=>i4 d<|.tup [.int b.1,.int b.2])=bs.count b
 |[]=>rfl
 |x::bs=>by have I:=aW b bs;show((D.tup [.int x.1,.int x.2]::jc bs).countP _)=_;rw[List.countP_cons,List.count_cons,I];rw[Ed x b]
theorem Jq{γ:Ctx}{g:CO (Sk×List D)}{f:CO D}{bs:List (Int×Int)}{b:Int×Int}(z:g γ=da (.L,jc bs))(I:f γ=da (.tup [.int b.1,.int b.2])):xK g f γ=da (.int (bs.count b:Nat)):=by unfold xK;rw[z,I];show(if m4 (.tup [.int b.1,.int b.2])=dj/\nr (jc bs)=dj then da (D.int ((jc bs).countP λd=>i4 d (.tup [.int b.1,.int b.2]):Nat))else none)=_;rw[UJ ⟨rfl,YU bs⟩,aW]
def pY(z I:List (Int×Int))(s:Nat×Nat):Bool:=decide<|z.count (zP s)≠I.count (zP s)
section
variable{m:Nat}{w:UK}{hH h9:List (Int×Int)}
theorem Ve{P:Nat×Nat->Bool}{g:Nat×Nat->D}{L:List (Nat×Nat)}{s:Nat×Nat}(h:L.find? P=da s):((i0 ((L.filter P).map g).length 0).bind λk=>((L.filter P).map g)[k]?)=da (g s):=by
 rw[<-List.head?_filter]at h;obtain⟨t,e⟩:∃t,L.filter P=s::t:=by
  cases q:L.filter P with
  |nil=>rw[q]at h;cases h
  |cons a t=>rw[q]at h;cases h;exact⟨t,rfl⟩
 rw[e];simp[i0]
noncomputable def lJ(w:UK)(hH h9:List (Int×Int))(s:Nat×Nat):Bool:=decide<|kU (hH.map λb=>m9 w b<|zP s)≠kU (h9.map λb=>m9 w b<|zP s)
noncomputable def Ml(hH h9:List (Int×Int))(s t:Nat×Nat):D:=.tup [.str "apart",kD s,.int (hH.count (zP s):Nat),.int (h9.count (zP s):Nat),kD t]
theorem oJ{M:Nat}{s:Nat×Nat}(h:s∈stN M):yU (M:Int) (zP s):=by obtain⟨a,b⟩:=_a.mp h;exact⟨by show(0:Int)<=(s.1:Int);omega,by show(s.1:Int)<=(s.2:Int);omega,by show(s.2:Int)<_;omega⟩
theorem Aj:QP=jk 6 (zT (jj 3 (jz (je qm (zb (zH qv (yC (zc 0)) (zu (.int 1))) zF)))) (zT (jj 4 (dv (jm (zO (zN (zk 3)) (.nm 0) 1 [1,2] EK (zc 0))) (zu (.int 0)))) (zT (jj 5 (dv (jm (zO (zN (zk 3)) (.nm 0) 1 [0,1,2] EJ (zc 0))) (zu (.int 0)))) (j9 (qF (zb (zu (.str "apart")) (zb (zc 4) (zb (xK (zk 1) (zc 4)) (zb (xK (zk 2) (zc 4)) (zb (zc 5) zF)))))))))):=rfl
theorem rR(z:m<=5)(J:∀b∈hH,yU ((m+1:Nat):Int) b)(L:∀b∈h9,yU ((m+1:Nat):Int) b)(O:hH.length<=lim)(Y:h9.length<=lim){s:Nat×Nat}(hs:s∈stN (m+1)):qO [.str (jK m w),.lst<|jc hH,.lst<|jc h9,kD s]=da (.val<|.bl<|lJ w hH h9 s):=by
 have a:qg [.str (jK m w),.lst<|jc hH,kD s]=da (.val<|.int<|kU<|hH.map λb=>m9 w b<|zP s):=Wf (w:=w) (c:=zP s) z J O<|oJ hs;have I:qg [.str (jK m w),.lst<|jc h9,kD s]=da (.val<|.int<|kU<|h9.map λb=>m9 w b<|zP s):=Wf (w:=w) (c:=zP s) z L Y<|oJ hs;unfold qO;refine jf ?_;show j9 _ [.val (.str<|jK m w),.val<|.lst<|jc hH,.val<|.lst<|jc h9,.val (kD s)]=_;unfold lJ;by_cases q:kU (hH.map λb=>m9 w b<|zP s)=kU (h9.map λb=>m9 w b<|zP s)
 ·simp[a,I,q]
 ·simp[a,I,q]
theorem Aa(L:m<=5)(z:∀b∈hH,yU ((m+1:Nat):Int) b)(J:∀b∈h9,yU ((m+1:Nat):Int) b)(l1:hH.length<=lim)(l2:h9.length<=lim){s t:Nat×Nat}(hs:(stN<|m+1).find? (pY hH h9)=da s)(Z:(stN<|m+1).find? (lJ w hH h9)=da t):
 QP [.str (jK m w),.lst<|jc hH,.lst (jc h9)]=da (.val<|Ml hH h9 s t):=by
 have u:=jl;have U:=Gk ⟨m+1,by omega⟩;have r:=(lN ⟨m+1,by omega⟩).2.2;dsimp only at U r;have Y:((stN<|m+1).map kD).length<=lim:=by rw[Nf];omega
 let γ:Cell->Cell->Cell->Ctx:=λg h i=>[.val (.str<|jK m w),.val<|.lst<|jc hH,.val<|.lst<|jc h9,g,h,i];let S:=Cell.val<|.lst<|(stN<|m+1).map kD;have l:jj 3 (jz<|je qm<|zb (zH qv (yC<|zc 0)<|zu<|.int 1) zF) (γ .no .no .no)=da (.next<|γ S .no .no):=by
  have f:qm [.int ((m:Int)+1)]=da (.own<|(stN<|m+1).map kD):=by rw[<-U];rfl
  have p:=yd (m:=m) w ⋯;simp[γ,S,Je,f,p]
 have n:jj 4 (dv (jm<|zO (zN<|zk 3) (.nm 0) 1 [1,2] EK (zc 0))<|zu<|.int 0) (γ S .no .no)=da (.next<|γ S (.val<|kD s) .no):=by
  have a:zY (.nm 0) EK (zc 0) [Cell.no,.val<|.lst<|jc hH,.val (.lst<|jc h9)] ((stN<|m+1).map kD)=da (((stN<|m+1).filter (pY hH h9)).map kD):=jw _ _ _ λx d=>⟨[.val (kD x),.val<|.lst<|jc hH,.val (.lst<|jc h9)],rfl,by
   have I:xK (zk 1) (zc 0) [.val (kD x),.val<|.lst<|jc hH,.val (.lst<|jc h9)]=da (.int (hH.count (zP x):Nat)):=Jq rfl rfl;have O:xK (zk 2) (zc 0) [.val (kD x),.val<|.lst<|jc hH,.val (.lst<|jc h9)]=da (.int (h9.count (zP x):Nat)):=Jq rfl rfl;unfold EK pY;rw[Iq,ba,I,O];by_cases q:hH.count (zP x)=h9.count (zP x)
   ·simp[q]
   ·have j:¬((hH.count (zP x):Nat):Int)=((h9.count (zP x):Nat):Int):=by omega
    simp[q,j],λ_=>rfl⟩
  rw[xY,w5,we,qp,show zN (zk 3) (γ S .no .no)=da ((stN<|m+1).map kD)from rfl,MJ,UJ Y,show jo 1 [1,2] (γ S .no .no)=[Cell.no,.val<|.lst<|jc hH,.val (.lst<|jc h9)]from rfl,a];show Ss _ ((i0 (((stN<|m+1).filter (pY hH h9)).map kD).length 0).bind λk=>(((stN<|m+1).filter (pY hH h9)).map kD)[k]?)=_;rw[Ve hs];rfl
 have o:jj 5 (dv (jm<|zO (zN<|zk 3) (.nm 0) 1 [0,1,2] EJ (zc 0))<|zu<|.int 0) (γ S (.val<|kD s) .no)=da (.next<|γ S (.val<|kD s)<|.val<|kD t):=by
  have a:zY (.nm 0) EJ (zc 0) [Cell.no,.val<|.str<|jK m w,.val<|.lst<|jc hH,.val (.lst<|jc h9)] ((stN<|m+1).map kD)=da (((stN<|m+1).filter (lJ w hH h9)).map kD):=jw _ _ _ λx d=>⟨[.val (kD x),.val<|.str<|jK m w,.val<|.lst<|jc hH,.val (.lst<|jc h9)],rfl,by
   have e:=rR (w:=w) L z J l1 l2 d;simp[EJ,e],λ_=>rfl⟩
  rw[xY,w5,we,qp,show zN (zk 3) (γ S (.val<|kD s) .no)=da ((stN<|m+1).map kD)from rfl,MJ,UJ Y,show jo 1 [0,1,2] (γ S (.val<|kD s) .no)=[Cell.no,.val<|.str<|jK m w,.val<|.lst<|jc hH,.val (.lst<|jc h9)]from rfl,a];show Ss _ ((i0 (((stN<|m+1).filter (lJ w hH h9)).map kD).length 0).bind λk=>(((stN<|m+1).filter (lJ w hH h9)).map kD)[k]?)=_;rw[Ve Z];rfl
 rw[Aj];refine jf<|zw (γ':=γ S .no .no) l<|zw n<|zw o ?_;have I:xK (zk 1) (zc 4) (γ S (.val<|kD s)<|.val<|kD t)=da (.int (hH.count (zP s):Nat)):=Jq rfl rfl;have O:xK (zk 2) (zc 4) (γ S (.val<|kD s)<|.val<|kD t)=da (.int (h9.count (zP s):Nat)):=Jq rfl rfl;rw[ZS,VB,jO,jO,jO,jO,jO,kQ,I,O];rfl
end
theorem JG{F G:CO Fl}{γ:Ctx}{r:Res}(e:F γ=da (.ret r)):zT F G γ=da (.ret r):=by rw[jP,e];rfl
section
variable{p:Int}{m:Nat}{w:UK}{bs hH h9:List (Int×Int)}
theorem pA{c:Int×Int}(h:yU ((m+1:Nat):Int) c):∃s,s∈stN (m+1)/\zP s=c:=by
 obtain⟨a,b,I⟩:=h;refine⟨(c.1.toNat,c.2.toNat),_a.mpr ⟨by dsimp only;omega,by dsimp only;omega⟩,?_⟩;refine Prod.ext ?_ ?_
 ·show((c.1.toNat:Nat):Int)=c.1;omega
 ·show((c.2.toNat:Nat):Int)=c.2;omega
theorem uF(h1:∀b∈hH,yU ((m+1:Nat):Int) b)(z:∀b∈h9,yU ((m+1:Nat):Int) b)(O:¬hH.Perm h9):(∃s,(stN<|m+1).find? (pY hH h9)=da s)/\∃t,(stN<|m+1).find? (lJ w hH h9)=da t:=by
 constructor
 ·cases q:(stN<|m+1).find? (pY hH h9)with
  |some s=>exact⟨s,rfl⟩
  | none=>
   refine absurd (Tr.mpr λc=>?_) O;by_cases a:yU ((m+1:Nat):Int) c
   ·obtain⟨s,d,rfl⟩:=pA a
    have:=TQ.mp q s d;simpa[pY]using this
   ·rw[NT λI=>a<|h1 c I,NT λI=>a (z c I)]
 ·cases q:(stN<|m+1).find? (lJ w hH h9)with
  |some s=>exact⟨s,rfl⟩
  |none=>
   refine absurd (AE (w:=w) h1 z λc a=>?_) O;obtain⟨s,d,rfl⟩:=pA a;have:=TQ.mp q s d;simpa[lJ]using this
end
section
variable{p:Int}{m:Nat}{w:UK}{wd wd1 wd2:UX}{T1 T2 F1 G1 F2 G2:UW}{K1 K2 hH h9:List (Int×Int)}
theorem Ag(L:m<=5)(z:jW [zR p m w wd1 T1]=da (.val<|kg K1 (yf m wd1 G1)<|yf m wd1 F1))(U:jW [zR p m w wd2 T2]=da (.val<|kg K2 (yf m wd2 G2)<|yf m wd2 F2))(J:K1≠K2){d:D}(Y:QP [.str (jK m w),.lst<|jc K1,.lst (jc K2)]=da (.val d)):
 wg [zR p m w wd1 T1,zR p m w wd2 T2]=da (.val d):=by
 have a:=(yu (p:=p) (w:=w) (wd:=wd1) (T:=T1) (wd':=wd2) (T':=T2)<|show m<=900 by omega).2;have e:=xZ (p:=p) (w:=w) (wd:=wd1) (T:=T1) (show m<=900 by omega);unfold kg at z U;generalize zR p m w wd1 T1=R1 at *;generalize zR p m w wd2 T2=R2 at *;have b:my (.lst<|jc K1) (.lst<|jc K2)=da (.bl dj):=by unfold my;rw[UJ ⟨Zz _,Zz _⟩];have:=Vp K1 K2;show da (D.bl<|!t6 (jc K1) (jc K2))=_;rw[this,decide_eq_false J];rfl
 unfold wg;generalize (yf m wd1 G1)=X1 at *;generalize (yf m wd1 F1)=Y1 at *;generalize (yf m wd2 G2)=X2 at *;generalize (yf m wd2 F2)=Y2 at *;let I:D:=.tup [.lst (jc K1),.lst<|X1.map tD,.lst (Y1.map tD)];let O:D:=.tup [.lst (jc K2),.lst<|X2.map tD,.lst (Y2.map tD)];refine jf<|zw (γ':=[.val R1,.val R2,.no,.no,.no,.no]) (by simp[z9,a])<|zw (γ':=[.val R1,.val R2,.val I,.no,.no,.no]) (by simp[z,I])<|zw (γ':=[.val R1,.val R2,.val I,.val O,.no,.no]) (by simp[U,O])<|JG ?_;simp[I,O,i0,b,e,Y]
end
section
variable{p:Int}{m:Nat}{w:UK}{wd wd1 wd2:UX}{T T1 T2:UW}{K K1 K2:List (Int×Int)}{F1 G1 F2 G2:UW}
def C2(m:Nat)(wd:UX)(k:Nat):Nat:=if k<=m then wd k else 0
theorem fL(J:Pr p)(L:∀k,wd k<=8)(Z:m<=5)(z:∀k i j,0<=T k i j/\T k i j<p):∃K F G,E2 p m w wd K T F G/\vU K=K:=by
 obtain⟨O,a,g,B,U,cnt,h,o,u⟩:=iG (T:=T) (w:=w) J L Z λk i j _ _ _=>z k i j;have A:∀j,j<O->1<=(a j).n:=λj I=>(U j I).n1;have d:∀r,r<=m->qq (ZD a O) r=wd r:=λr Y=>by unfold qq;rw[ym A,cnt _ Y]
 refine⟨ZD a O,λr=>xH a O r,g,⟨⟨λr Y=>?_,u,λk f i j e I=>?_,z⟩,λb l=>?_,d,by unfold ZD;rw[Nf,Og];omega⟩,o⟩
 ·obtain⟨u1,u2,u3⟩:=h r ⋯
  refine⟨λi j e I=>?_,λi j _ _=>u3 i j,u1,u2⟩;have t:j<(m6 a O r).length:=by rw[cnt r ⋯];exact I
  obtain⟨x,y⟩:=We t;exact(U _ x).n7 r i y e
 ·rw[ou J U cnt (λr Y=>(h r Y).1) f e I (z k i j),lG,d _<|XX f,d _ (XO f)]
 ·unfold ZD at l
  obtain⟨j,I,rfl⟩:=Ny.mp l;have:=(U j<|MG.mp I).n1;have:=(U j<|MG.mp I).le;exact⟨by show(0:Int)<=((a j).s:Int);omega,by show((a j).s:Int)<=(((a j).s+(a j).n-1:Nat):Int);omega,by show(((a j).s+(a j).n-1:Nat):Int)<_;omega⟩
end
section
variable{p:Int}{m:Nat}{w:UK}{wd wd1 wd2:UX}{T T1 T2:UW}{K1 K2:List (Int×Int)}{F1 G1 F2 G2:UW}
theorem pB:zR p m w wd T=zR p m w (C2 m wd) T:=by
 unfold zR;have a:(zG (m+1) λk=>(wd k:Int))=zG (m+1) λk=>(C2 m wd k:Int):=cS λx b=>by unfold C2;rw[UJ ⋯]
 have O:jY m w wd T=jY m w (C2 m wd) T:=by unfold jY;refine Ni λk I=>?_;have I:=MG.mp I;unfold vn;rw[<-xw,<-qP,<-xw,<-qP];unfold C2;rw[UJ (XO I),UJ (XX I)]
 rw[a,O]
theorem Ai(z:Pr p)(hm:m<=3)(J:∀k,wd1 k<=6)(L:∀k,m<k->wd1 k=0)(Z:∀k,m<k->wd2 k=0)(I:E2 p m w wd1 K1 T1 F1 G1)(UU:vU K1=K1)(O:E2 p m w wd2 K2 T2 F2 G2)(U0:vU K2=K2):∃d,wg [zR p m w wd1 T1,zR p m w wd2 T2]=da (.val d):=by
 have o:=jl;have n:=I.le;have m7:=O.le;by_cases e:K1=K2
 ·have b:wd1=wd2:=by
   funext k;by_cases q:k<=m
   ·rw[<-I.br k q,<-O.br k q,e]
   ·rw[L k ⋯,Z k ⋯]
  subst b e;exact⟨_,Ah z.pos z.le (show m<=50 by omega) (λk=>by have:=J k;omega) (λk i j U a Y=>(I.pp.pr k U).bg i j a Y) (λk i j U a Y=>(O.pp.pr k U).bg i j a Y) I.pp.eb O.pp.eb⟩
 ·have h:¬K1.Perm K2:=λl=>e (by rw[<-UU,<-U0,JD l])
  obtain⟨⟨s,f⟩,t,g⟩:=uF (w:=w) I.st O.st h;exact⟨_,Ag (show m<=5 by omega) I.pp.eb O.pp.eb e<|Aa (w:=w) (show m<=5 by omega) I.st O.st ⋯ ⋯ f g⟩
theorem iS(J:m<=3)(z:∀k,wd1 k<=6):qR [zR p m w wd1 T1,zR p m w wd2 T2]=if 60<off wd2 wd1 (m+1)then da (("TooMany" : Str),none)else none:=by
 obtain⟨I,O⟩:=yu (p:=p) (w:=w) (wd:=wd1) (T:=T1) (wd':=wd2) (T':=T2) (show m<=900 by omega);have U:=yE (p:=p) (w:=w) (wd:=wd2) (T:=T2) (wd':=wd1) (T':=T1) (show m<=4 by omega);have Y:=ki (hs:=wd2) (ws:=wd1) (n:=m+1) ⋯ (λk=>by have:=z k;omega);generalize zR p m w wd1 T1=R1 at *;generalize zR p m w wd2 T2=R2 at *;by_cases g:60<off wd2 wd1 (m+1)
 ·rw[UJ g]
  have a:(60:Int)<(off wd2 wd1 (m+1):Int):=by omega
  simp[qR,W1,z9,iM,rp,yc,C6,iZ,MI,I,O,U,Y,a]
 ·rw[UY g]
  have a:¬(60:Int)<(off wd2 wd1 (m+1):Int):=by omega
  simp[qR,W1,z9,iM,rp,yc,C6,iZ,MI,I,O,U,Y,a]
noncomputable def Ek:CO Bool:=sB<|zH qs (bI<|jm<|zO (QT (dv (zk 0)<|zu<|.int 1)<|dv (zk 1)<|zu<|.int 1) (.tp [0,1]) 2 [] jt (zH yq (zc 0)<|zc 1))<|zu<|.int 60
theorem YV:∀n,((off wd2 wd1 n:Nat):Int)=zm (λk=>(wd1 k:Int)*(wd2 k:Int)) n
 |0=>rfl
 |n+1=>by show((off wd2 wd1 n+wd2 n*wd1 n:Nat):Int)=zm _ n+_;rw[<-YV n,Sg,Rv,Oz]
theorem El(L:m<=3)(z:∀k,wd1 k<=6)(J:∀k,wd2 k<=6)(A0 A1 A2:D):Ek [.val (zR p m w wd1 T1),.val<|zR p m w wd2 T2,.val A0,.val A1,.val A2]=da (decide<|60<off wd2 wd1 (m+1)):=by
 have i:=jl;have f:m+1<=lim:=by omega
 have d:=vV (p:=p) (m:=m) (w:=w) (wd:=wd1) (T:=T1);have e:=vV (p:=p) (m:=m) (w:=w) (wd:=wd2) (T:=T2);have b:zY (.tp [0,1]) jt (zH yq (zc 0)<|zc 1) [Cell.no,Cell.no] (yY (zG (m+1) λk=>(wd1 k:Int))<|zG (m+1) λk=>(wd2 k:Int))=da (zG (m+1) λk=>(wd1 k:Int)*(wd2 k:Int)):=by rw[wj,qu];refine zC _ _ λk h=>zB rfl rfl ?_;have:=z k;have I:XU (wd1 k:Int) (wd2 k:Int)=dj:=ZR _ _ ⋯ ⋯;simp[I]
 have O:(yY (zG (m+1) λk=>(wd1 k:Int))<|zG (m+1) λk=>(wd2 k:Int)).length<=lim:=by rw[rA,k4,k4];omega
 have U:zO (QT (dv (zk 0)<|zu<|.int 1)<|dv (zk 1)<|zu<|.int 1) (.tp [0,1]) 2 [] jt (zH yq (zc 0)<|zc 1) [.val (zR p m w wd1 T1),.val<|zR p m w wd2 T2,.val A0,.val A1,.val A2]=da (zG (m+1) λk=>(wd1 k:Int)*(wd2 k:Int)):=by rw[qp];rw[show QT (dv (zk 0)<|zu<|.int 1) (dv (zk 1)<|zu<|.int 1) [.val (zR p m w wd1 T1),.val<|zR p m w wd2 T2,.val A0,.val A1,.val A2]=da (yY (zG (m+1) λk=>(wd1 k:Int))<|zG (m+1) λk=>(wd2 k:Int))by simp[d,e,i0]];rw[MJ,UJ O];exact b
 have Y:bI (jm<|zO (QT (dv (zk 0)<|zu<|.int 1)<|dv (zk 1)<|zu<|.int 1) (.tp [0,1]) 2 [] jt (zH yq (zc 0)<|zc 1)) [.val (zR p m w wd1 T1),.val<|zR p m w wd2 T2,.val A0,.val A1,.val A2]=da (.int (off wd2 wd1 (m+1):Nat)):=by rw[aY,we,U];simp only[MW,MJ,wt];rw[YV]
 unfold Ek;have:zH qs (bI<|jm<|zO (QT (dv (zk 0)<|zu<|.int 1)<|dv (zk 1)<|zu<|.int 1) (.tp [0,1]) 2 [] jt (zH yq (zc 0)<|zc 1)) (zu<|.int 60) [.val (zR p m w wd1 T1),.val<|zR p m w wd2 T2,.val A0,.val A1,.val A2]=da (.bl<|decide<|60<off wd2 wd1 (m+1)):=by
  rw[ba,Y];by_cases g:60<off wd2 wd1 (m+1)
  ·have a:(60:Int)<(off wd2 wd1 (m+1):Int):=by omega
   simp[g,a]
  ·have a:¬(60:Int)<(off wd2 wd1 (m+1):Int):=by omega
   simp[g,a]
 unfold sB;rw[this];rfl
theorem Vs(hm:m<=3)(J:∀k,wd1 k<=6)(L:∀k,wd2 k<=6){n:Nat}{A0 O:D}(z:A0=(if 60<off wd2 wd1 (m+1)then .tup [.lst [.str "many"],.el]else A0))(Z:¬60<off wd2 wd1 (m+1)->∃I:List D,I.length=n/\A0=.tup [.lst [],.lst I]):
 qk [zR p m w wd1 T1,zR p m w wd2 T2,A0,.tup [.lst [],.int (n:Int)],.tup [.lst [],O]]=da (.val<|.bl dj):=by
 have x:=jl;have U:=El (p:=p) (w:=w) (T1:=T1) (T2:=T2) hm J L A0 (.tup [.lst [],.int (n:Int)])<|.tup [.lst [],O];have t:=Ww (n:Int);generalize zR p m w wd1 T1=R1 at *;generalize zR p m w wd2 T2=R2 at *;let a:Ctx:=[.val R1,.val R2,.val A0,.val<|.tup [.lst [],.int (n:Int)],.val (.tup [.lst [],O])];have Y:jx (.tup [.lst [],.int (n:Int)])=da (.T,[.lst [],.int (n:Int)]):=rfl;have s:jx (.tup [.lst [],O])=da (.T,[.lst [],O]):=rfl;have d:my (.lst []) (.lst [])=da (.bl dt):=rfl;have u:¬((n:Int)<0):=by omega
 rw[show qk=jk 5 (zT (jn (lg (sB (zH my (dv (zk 3) (zu (.int 0))) (jz (jC zF)))) (lg (sB (zH my (dv (zk 4) (zu (.int 0))) (jz (jC zF)))) (lg (yb (sB (zD xR (zb (dv (zk 3) (zu (.int 1))) zF)))) (sB (zH DC (dv (zk 3) (zu (.int 1))) (zu (.int 0))))))) (j9 (zu (.bl dt))) qj) (zT (jn Ek (j9 (zH g4 (dv (zk 2) (zu (.int 0))) (jz (jC (zb (zu (.str "many")) zF))))) qj) (j9 (lh (zH g4 (dv (zk 2) (zu (.int 0))) (jz (jC zF))) (lh (A3 .list (dv (zk 2) (zu (.int 1)))) (zH g4 (Kg (zJ (dv (zk 2) (zu (.int 1))))) (dv (zk 3) (zu (.int 1)))))))))from rfl];refine jf (zw (γ':=a) ?_ ?_)
 ·show jn _ _ _ a=_
  have e:sB (zH my (dv (zk 3)<|zu<|.int 0)<|jz<|jC zF) a=da dt:=by simp[a,Y,i0,d]
  have f:sB (zH my (dv (zk 4)<|zu<|.int 0)<|jz<|jC zF) a=da dt:=by simp[a,s,i0,d]
  have h:yb (sB<|zD xR<|zb (dv (zk 3)<|zu<|.int 1) zF) a=da dt:=by simp[a,Y,i0,t]
  have i:sB (zH DC (dv (zk 3)<|zu<|.int 1)<|zu<|.int 0) a=da dt:=by simp[a,Y,i0,u]
  rw[vL,iO,e,iO,f,iO,h,i];rfl
 ·by_cases g:60<off wd2 wd1 (m+1)
  ·rw[UJ g]at z
   rw[decide_eq_true g]at U;refine JG ?_;rw[vL,show Ek a=da dj from U];subst z;have b:jx (.tup [.lst [.str "many"],.el])=da (.T,[.lst [.str "many"],.el]):=rfl;have l:g4 (.lst [.str "many"]) (.lst [.str "many"])=da (.bl dj):=by kernel_rfl
   have r:1<=lim:=by omega
   simp[a,b,i0,l,r]
  ·obtain⟨I,o,rfl⟩:=Z g
   rw[decide_eq_false g]at U;refine zw (γ':=a) (by rw[vL,show Ek a=da dt from U];rfl) ?_;have b:jx (.tup [.lst [],.lst I])=da (.T,[.lst [],.lst I]):=rfl;have j:g4 (.lst []) (.lst [])=da (.bl dj):=rfl;have ty:lj Ty.list (.lst I)=dj:=rfl;simp[a,b,Y,i0,j,ty,o]
end
theorem rF:Zi=jk 10 (zT rO<|zT rM<|zT rL<|zT rK<|zT rJ<|zT rH<|zT rG<|zT lE<|zT dF WJ):=rfl
section
variable{p:Int}{m:Nat}{w:UK}{wd1 wd2:UX}{T1 T2:UW}
theorem AX(I:Pr p)(hm:m<=2)(J:∀k,wd1 k<=6)(L:∀k,wd2 k<=6)(z1:∀k,m<k->wd1 k=0)(z2:∀k,m<k->wd2 k=0)(Z:∀k i j,0<=T1 k i j/\T1 k i j<p)(r2:∀k i j,0<=T2 k i j/\T2 k i j<p):
 ∃A0 A1 A2,zQ [zR p m w wd1 T1,zR p m w wd2 T2,.int 0]=da (.val A0)/\zQ [zR p m w wd1 T1,zR p m w wd2 T2,.int 1]=da (.val A1)/\zQ [zR p m w wd1 T1,zR p m w wd2 T2,.int 2]=da (.val A2)/\qk [zR p m w wd1 T1,zR p m w wd2 T2,A0,A1,A2]=da (.val<|.bl dj):=by
 have N:=jl;obtain⟨K,C,G,O,UU⟩:=fL (w:=w) (wd:=wd1) (T:=T1) I (λk=>by have:=J k;omega) (show m<=5 by omega) Z;obtain⟨M,F,H,U,U0⟩:=fL (w:=w) (wd:=wd2) (T:=T2) I (λk=>by have:=L k;omega) (show m<=5 by omega) r2;have as:=O.le;have m7:=U.le;have d:=og (show m<=5 by omega) O.st U.st ⋯ ⋯ O.pp.eb U.pp.eb;rw[Yp]at d;obtain⟨n,E,r,_⟩:=gJ I O U;rw[<-r]at d;obtain⟨o,h⟩:=Ai I (show m<=3 by omega) J z1 z2 O UU U U0;have Y:=iS (p:=p) (w:=w) (T1:=T1) (T2:=T2) (wd2:=wd2) (show m<=3 by omega) J;have e:=(yu (p:=p) (w:=w) (wd:=wd1) (T:=T1) (wd':=wd2) (T':=T2)<|show m<=900 by omega).1;have g1:qZ [zR p m w wd1 T1,zR p m w wd2 T2]=none:=by simp[qZ,W1,z9,yc,e]
 have g2:ZK [zR p m w wd1 T1,zR p m w wd2 T2]=none:=by simp[ZK,W1,z9,yc,e]
 have x1:zQ [zR p m w wd1 T1,zR p m w wd2 T2,.int 1]=da (.val<|.tup [.lst [],.int (n:Int)]):=Wr (by simp[rk,tu,yc,g1]) (by simp[Ey,d]);have f:zQ [zR p m w wd1 T1,zR p m w wd2 T2,.int 2]=da (.val<|.tup [.lst [],o]):=Wr (by simp[rk,tu,yc,g2]) (by simp[Ey,h]);by_cases g:60<off wd2 wd1 (m+1)
 ·rw[UJ g]at Y
  refine⟨.tup [.lst [.str "many"],.el],_,_,iJ (by simp[rk,tu,yc,Y]) gp,x1,f,Vs (show m<=3 by omega) J L (by rw[UJ g]) λz=>absurd g z⟩
 ·rw[UY g]at Y
  have hR:off (gm w wd2) (f9 w wd1) m<=100:=NJ (pw (a:=6) (b:=6) (λk=>by rw[<-xw];exact L _) (λk=>by rw[<-qP];exact J _) m) ⋯;obtain⟨q,B,l,t,u,y⟩:=bp (w:=w) (T2:=T2) I (show m<=4 by omega) (λk=>by have:=J k;omega) (λk=>by have:=L k;omega) Z (show off wd2 wd1 (m+1)<=60 by omega) hR;have eq:=Hr I O U u y;have x:q=n:=by omega
  have A:zQ [zR p m w wd1 T1,zR p m w wd2 T2,.int 0]=da (.val<|.tup [.lst [],.lst ((ME q).map λs=>D.lst<|EO m wd1 wd2<|B s)]):=Wr (by simp[rk,tu,yc,Y]) (by simp[Ey,t]);exact⟨_,_,_,A,x1,f,Vs (show m<=3 by omega) J L (by rw[UY g]) λ_=>⟨_,by simp[x],rfl⟩⟩
end
theorem GY(ns:List Int)(J:ns.length<=63):Zi [XQ ns]=da (.val<|.bl dj):=by
 have hl:=jl;obtain⟨S,L,b1⟩:=KY J (k:=0) ⋯ ⋯;obtain⟨X,a2,b2⟩:=KY J (k:=1) ⋯ ⋯;generalize vm ns 0=c at S L b1;generalize vm ns 1=c' at X a2 b2;obtain⟨a,H,ep,bf⟩:=BC L;have C:=H.pos;obtain⟨m,em,hm⟩:∃m:Nat,1+c/4%3=1+(m:Int)/\m<=2:=⟨(c/4%3).toNat,by omega,by omega⟩;obtain⟨w,ew⟩:=Ay (c:=c/16) ⋯ (m:=m) ⋯;obtain⟨q,l,w',hq,bn,eo⟩:=mL (ns:=ns) (c:=c') (p:=(a:Int)) (w:=w) H hm;have q0:0<q:=by rcases hq with rfl|rfl|rfl|rfl<;>decide
 obtain⟨od,bv,N⟩:∃od:Int,c/128%4=od/\0<=od/\od<=3:=⟨_,rfl,by omega,by omega⟩;obtain⟨U,c0,B⟩:∃U:Int,([D.int 0,.int 2,.int 2,.int 1])[od.toNat]? = da (.int U)/\0<=U/\U<=3:=by
  rcases (by omega:od=0\/od=1\/od=2\/od=3)with rfl|rfl|rfl|rfl
  ·exact⟨0,rfl,by decide,by decide⟩
  ·exact⟨2,rfl,by decide,by decide⟩
  ·exact⟨2,rfl,by decide,by decide⟩
  ·exact⟨1,rfl,by decide,by decide⟩
 have c1:i0 4 od=da od.toNat:=by rcases (by omega:od=0\/od=1\/od=2\/od=3)with rfl|rfl|rfl|rfl<;>rfl
 obtain⟨Y,ha,ea⟩:=Ad (w:=w) (od:=od) J (t:=2) (p:=(a:Int)) ⋯ ⋯ C (show m<=3 by omega) N.1 N.2;let γ:Cell->Cell->Cell->Cell->Cell->Cell->Cell->Cell->Ctx:=λc2 c3 c4 c5 c6 c7 c8 c9=>[.val (XQ ns),.val<|.int c,c2,c3,c4,c5,c6,c7,c8,c9];let P:=Cell.val<|.int (a:Int);let W:=Cell.val<|.str<|jK m w;let Q:=Cell.val<|.int q;let I:=Cell.val<|.str<|jK l w';let O:=Cell.val<|.int od;let A:=Cell.val<|zR (a:Int) m w Y<|hB ns 2 (a:Int);have R:∀{R2 b e f:D},xf [XQ ns,.int 60,.int q,.str<|jK l w',.int U]=da (.val R2)->
  zQ [zR (a:Int) m w Y (hB ns 2 (a:Int)),R2,.int 0]=da (.val b)->zQ [zR (a:Int) m w Y (hB ns 2 (a:Int)),R2,.int 1]=da (.val e)->zQ [zR (a:Int) m w Y (hB ns 2 (a:Int)),R2,.int 2]=da (.val f)->
  zT dF WJ (γ P W Q I O A (.val R2)<|.val<|.lst [b,e,f])=da (.ret<|.val<|.bl dj)->Zi [XQ ns]=da (.val<|.bl dj):=λ{R2 b e f} s E F G z=>by
  have s8:lE (γ P W Q I O A (.val R2) .no)=da (.next<|γ P W Q I O A (.val R2)<|.val<|.lst [b,e,f]):=by
   have k:zY (.nm 0) jt (zD zQ<|zb (zc 1)<|zb (zc 2)<|zb (zc 0) zF) [Cell.no,A,.val R2] [.int 0,.int 1,.int 2]=da [b,e,f]:=by
    have g0:zD zQ (zb (zc 1)<|zb (zc 2)<|zb (zc 0) zF) [.val (.int 0),A,.val R2]=da b:=by simp[A,E]
    have g1:zD zQ (zb (zc 1)<|zb (zc 2)<|zb (zc 0) zF) [.val (.int 1),A,.val R2]=da e:=by simp[A,F]
    have g2:zD zQ (zb (zc 1)<|zb (zc 2)<|zb (zc 0) zF) [.val (.int 2),A,.val R2]=da f:=by simp[A,G]
    have t0:=zB (T:=.nm 0) (k:=jt) (d:=.int 0) (γ:=[Cell.no,A,.val R2]) rfl rfl g0;have t1:=zB (T:=.nm 0) (k:=jt) (d:=.int 1) (γ:=[Cell.no,A,.val R2]) rfl rfl g1;have t2:=zB (T:=.nm 0) (k:=jt) (d:=.int 2) (γ:=[Cell.no,A,.val R2]) rfl rfl g2;exact zC (g:=λi:Nat=>D.int (i:Int)) (λi:Nat=>if i=0 then b else if i=1 then e else f) [0,1,2] λx hx=>by
     simp only[MQ,MY,or_false]at hx;rcases hx with rfl|rfl|rfl
     ·exact t0
     ·exact t1
     ·exact t2
   have l3:3<=lim:=by omega
   unfold lE;rw[xY,ZT,qp];rw[show jE (zu<|.int 3) (γ P W Q I O A (.val R2) .no)=da [.int 0,.int 1,.int 2]from rfl];rw[MJ,UJ (by show 3<=lim;exact l3),show jo 1 [7,8] (γ P W Q I O A (.val R2) .no)=[Cell.no,A,.val R2]from rfl,k];rfl
  rw[rF];refine jf<|zw (γ':=γ .no .no .no .no .no .no .no .no) (by simp[rO,z9,S,γ])<|zw (γ':=γ P .no .no .no .no .no .no .no) (by simp[rM,γ,bf,ep,P])<|zw (γ':=γ P W .no .no .no .no .no .no) (by simp[rL,γ,em,ew,P,W])<|zw (γ':=γ P W Q I .no .no .no .no) (by simp[rK,γ,P,W,Q,I,X,eo])<|zw (γ':=γ P W Q I O .no .no .no) (by simp[rJ,γ,O,bv])<|zw (γ':=γ P W Q I O A .no .no) (by simp[rH,γ,P,W,O,A,ea])<|zw (γ':=γ P W Q I O A (.val R2) .no) ?_ (zw s8 z);have o:dG (γ P W Q I O A .no .no)=da (.int U):=by simp[dG,γ,O,c1,c0]
  unfold rG;rw[xY,xO,jO,jO,jO,jO,jO,o];simp[γ,Q,I,s]
 have tq:∀(R2 M:D),dE (γ P W Q I O A (.val R2)<|.val M)=da (!decide ((a:Int)=q/\K8 m l w w')):=λR2 M=>by
  have l2:2<=lim:=by omega
  have d:my (.tup [.int (a:Int),.str (jK m w)]) (.tup [.int q,.str (jK l w')])=da (.bl<|!decide ((a:Int)=q/\K8 m l w w')):=by
   have ok:∀(z:Int) (m:Nat) (w:UK),m4 (.tup [.int z,.str (jK m w)])=dj:=λz m w=>by have h:=V1 m w;unfold m4 at h;have h:=(MO _ _ ▸ h:decide (deep (.str<|jK m w)<=20)=dj/\kr (.str<|jK m w)=dj).2;refine aq (n:=1) (by simp[deep,x6]) ⋯ ?_;show nr [.int z,.str (jK m w)]=dj;simp only[nr,kr,Bool.true_and,TR];exact h
   unfold my;rw[UJ ⟨ok _ _ _,ok _ _ _⟩];congr 3;rw[Ru];show(S9 (a:Int) (.int q)&&(T3 (jK m w) (.str<|jK l w')&&dj))=dj↔_;simp only[S9,T3,TR,MO,beq_iff_eq,decide_eq_true_eq,I_]
  simp[dE,γ,P,W,Q,I,l2,d]
 by_cases K:(a:Int)=q/\K8 m l w w'
 ·obtain⟨rfl,sw⟩:=K
  have et:jK l w'=jK m w:=(I_.mpr sw).symm;obtain⟨r,Z,s⟩:=Ad (w:=w) (od:=U) J (t:=60) (p:=(a:Int)) ⋯ ⋯ C (show m<=3 by omega) B.1 B.2;have nb:∀(wd:UX) k,(∀k,wd k<=6)->C2 m wd k<=6:=λwd k h=>by unfold C2;have:=h k;split<;>omega
  have nz:∀(wd:UX) k,m<k->C2 m wd k=0:=λwd k h=>by unfold C2;rw[UY ⋯]
  obtain⟨b,e,f,E,F,G,y3⟩:=AX (w:=w) (wd1:=C2 m Y) (wd2:=C2 m r) (T1:=hB ns 2 (a:Int)) (T2:=hB ns 60 (a:Int)) H hm (λk=>nb Y k ha) (λk=>nb r k Z) (nz Y) (nz r) (λk i j=>iH C k i j)<|λk i j=>iH C k i j;rw[<-pB,<-pB]at E F G y3;refine R (by rw[et];exact s) E F G ?_;have u:=tq (zR (a:Int) m w r<|hB ns 60 (a:Int))<|.lst [b,e,f];rw[decide_eq_true ⟨rfl,sw⟩]at u;refine zw (γ':=γ P W Q I O A (.val<|zR (a:Int) m w r<|hB ns 60 (a:Int))<|.val<|.lst [b,e,f]) (by unfold dF;rw[vL,u];rfl) ?_;simp[WJ,γ,A,jx,i0,y3]
 ·obtain⟨r,Z,s⟩:=Ad (w:=w') (od:=U) J (t:=60) (p:=q) ⋯ ⋯ q0 bn B.1 B.2
  have y:=λ(z:Int) (hz:z=0\/z=1\/z=2)=>VA (w:=w) (w':=w') (wd:=Y) (wd':=r) (T:=hB ns 2 (a:Int)) (T':=hB ns 60 q) (show m<=900 by omega) (show l<=900 by omega) K hz;refine R s (y 0 (.inl rfl)) (y 1 (.inr (.inl rfl))) (y 2 (.inr (.inr rfl))) ?_;have u:=tq (zR q l w' r (hB ns 60 q)) (.lst [.tup [.lst [.str "unlike"],.el],.tup [.lst [.str "unlike"],.el],.tup [.lst [.str "unlike"],.el]]);rw[decide_eq_false K]at u;refine JG ?_;unfold dF;rw[vL,u]
  kernel_rfl
open PySem.Spec PyProof.Rows
noncomputable def top(i:Nat):PySem.Stmt:=PySem.Challenge.pw_barsplit_k37_ways_refused.main.body.getD i<|.Pass ⟨0,0,0,0⟩
section
variable{CR CL:PySem.Addr}{P:PySem.Program}{w:PySem.World}{K:MC}{mg:PySem.Str->Option PySem.Value}{base:PySem.Heap}
theorem Wa(h:us.length=n+1):∃a t,us=a::t/\t.length=n:=by
 cases us with
 |nil=>exact absurd h<|Nat.zero_ne_add_one n
 |cons a t=>exact⟨a,t,rfl,Nat.succ.inj h⟩
theorem Mb(h:us.length=1):∃a,us=[a]:=by obtain⟨a,I,rfl,b⟩:=Wa h;rw[NI b];exact⟨a,rfl⟩
theorem Ma(h:us.length=2):∃a b,us=[a,b]:=by obtain⟨a,I,rfl,d⟩:=Wa h;obtain⟨b,O,rfl,e⟩:=Wa d;rw[NI e];exact⟨a,b,rfl⟩
theorem Mz(h:us.length=3):∃a b c,us=[a,b,c]:=by obtain⟨a,I,rfl,d⟩:=Wa h;obtain⟨b,O,rfl,e⟩:=Wa d;obtain⟨c,U,rfl,f⟩:=Wa e;rw[NI f];exact⟨a,b,c,rfl⟩
theorem My(h:us.length=4):∃a b c d,us=[a,b,c,d]:=by obtain⟨a,O,rfl,e⟩:=Wa h;obtain⟨b,U,rfl,f⟩:=Wa e;obtain⟨c,Y,rfl,g⟩:=Wa f;obtain⟨d,i,rfl,I⟩:=Wa g;rw[NI I];exact⟨a,b,c,d,rfl⟩
theorem Mx{z:Type}{us:List z}(h:us.length=5):∃a b c d e,us=[a,b,c,d,e]:=by obtain⟨a,U,rfl,f⟩:=Wa h;obtain⟨b,Y,rfl,g⟩:=Wa f;obtain⟨c,j,rfl,i⟩:=Wa g;obtain⟨d,k,rfl,I⟩:=Wa i;obtain⟨e,l,rfl,O⟩:=Wa I;rw[NI O];exact⟨a,b,c,d,e,rfl⟩
structure E0(K:MC)(mg:PySem.Str->Option PySem.Value):Prop where
 Q0:gB K mg "_law_cell" (top 78) ["_law_script","_law_k"]
 Q1:gB K mg "_law_ways" (top 82) ["_law_cell_here","_law_rooms"]
 Q2:gB K mg "_law_others" (top 86) ["_law_script","_law_p","_law_ways_here","_law_cell_here"]
 Q3:gB K mg "_law_ends" (top 80) ["_law_ways_here","_law_k"]
 Q4:gB K mg "_law_any" (top 83) ["_law_script","_law_at","_law_p","_law_ways_here","_law_odd"]
 Q5:gB K mg "_law_whole" (top 79) ["_law_found"]
 Q6:gB K mg "_law_counted" (top 87) ["_law_one","_law_other","_law_base","_law_many","_law_alikes"]
 Q7:gB K mg "ways_of" (top 51) ["row"]
 Q8:gB K mg "one_kind" (top 52) ["one","other"]
 Q9:gB K mg "ask_one_kind" (top 53) ["one","other"]
 Qa:gB K mg "room_sizes" (top 56) ["one","other"]
 Qb:gB K mg "numbers_in" (top 58) ["sizes"]
 Qc:gB K mg "tables_in" (top 60) ["sizes","load"]
 Qd:gB K mg "behind_noughts" (top 28) ["many","base"]
 Qe:gB K mg "rests" (top 16) ["p","numbers"]
 Qf:gB K mg "inverse" (top 17) ["p","x"]
 Qg:gB K mg "cleared" (top 26) ["p","load","pivot","place"]
 Qh:gB K mg "base_of" (top 27) ["p","long","loads"]
 Qi:gB K mg "turned_over" (top 22) ["table"]
 Qj:gB K mg "same_table" (top 23) ["many"]
 Qk:gB K mg "led_into" (top 29) ["p","table","base"]
 Ql:gB K mg "kernel" (top 30) ["p","table"]
 Qm:gB K mg "written" (top 59) ["tables"]
 Qn:gB K mg "led" (top 18) ["p","table","load"]
 Qo:gB K mg "product" (top 19) ["p","one","other"]
 Qp:gB K mg "added_times" (top 20) ["p","one","much","other"]
 Qq:gB K mg "less" (top 21) ["p","one","other"]
 Qr:gB K mg "end_of" (top 50) ["k","way"]
 Qs:gB K mg "beginning_of" (top 49) ["k","way"]
 Qt:gB K mg "gap" (top 61) ["one","other","tables","k"]
 Qu:gB K mg "gaps" (top 62) ["one","other","tables"]
 Qv:gB K mg "arrow_sizes" (top 57) ["one","other"]
 Qw:gB K mg "gaps_table" (top 63) ["one","other"]
 Qx:gB K mg "ways_base" (top 64) ["one","other"]
 Qy:gB K mg "_law_kind" (top 84) ["_law_caught"]
 Qz:gB K mg "image" (top 31) ["p","table"]
 _A:gB K mg "columns" (top 38) ["high","loads"]
 _B:gB K mg "has_room" (top 36) ["bar","room"]
 _C:gB K mg "loads_in" (top 37) ["bars","room"]
 _D:gB K mg "lead_of" (top 25) ["load"]
 _E:gB K mg "mixed_load" (top 39) ["row","bars","times","room"]
 _F:gB K mg "mixed" (top 40) ["row","bars","times"]
 _G:gB K mg "settled" (top 41) ["row","k","bars"]
 _H:gB K mg "solved" (top 32) ["p","table","load"]
 _I:gB K mg "next_load" (top 42) ["p","arrow","load"]
 _J:gB K mg "taken_on" (top 43) ["p","arrow","bar"]
 _K:gB K mg "new_loads" (top 44) ["p","arrow"]
 _L:gB K mg "grown" (top 45) ["row","k","bars"]
 _M:gB K mg "stretch_of" (top 35) ["bar"]
 _N:gB K mg "all_grown" (top 46) ["row"]
 _O:gB K mg "back_of" (top 33) ["p","table"]
 _P:gB K mg "barred" (top 47) ["row"]
 _Q:gB K mg "left_holds" (top 65) ["ways","one","other"]
 _R:gB K mg "right_holds" (top 66) ["ways","one","other"]
 _S:gB K mg "bar_ways" (top 67) ["ways","one","other"]
 _T:gB K mg "ways_into" (top 68) ["ways","bars","bar"]
 O':gB K mg "count_ways" (top 69) ["one","other"]
 _U:gB K mg "room_by_room" (top 73) ["p","ones","others"]
 _V:gB K mg "stretches_of" (top 71) ["many"]
 _W:gB K mg "are_told_apart" (top 74) ["ways","ones","others","bar"]
 _X:gB K mg "apart" (top 75) ["ways","ones","others"]
 O_:gB K mg "alike" (top 76) ["one","other"]
 _Y:gB K mg "_law_asked" (top 85) ["_law_one","_law_other","_law_what"]
 _Z:gB K mg "law" (top 88) ["_law_script"]
 Z0:mg "len" = none
 Z1:mg "min" = none
 Z2:mg "range" = none
 Z3:mg "tuple" = none
 Z4:mg "bool" = none
 Z5:mg "int" = none
 Z6:mg "isinstance" = none
 Z7:mg "list" = none
 Z8:mg "sum" = none
 Z9:mg "zip" = none
 Za:mg "any" = none
 Zb:mg "enumerate" = none
 Zc:mg "ValueError" = none
 Zd:mg "dict" = none
 Ze:mg "sorted" = none
 Zf:mg "max" = none
 G0:XC K mg "Unlike"
 G1:GL K mg "MOST_NUMBERS" (.int 60)
 G2:XC K mg "TooMany"
 G3:XI K mg "NoArrow"
 G4:XI K mg "NoLine"
 G5:XI K mg "NoPrime"
 G6:XI K mg "NoRoom"
 G7:XI K mg "NoRow"
 G8:XI K mg "NoTable"
 G9:XI K mg "NoText"
 Ga:XI K mg "NoTurn"
 Gb:XI K mg "NoWidths"
 Gc:XI K mg "Nothing"
 Gd:XI K mg "Nought"
 Ge:XI K mg "TooMany"
 Gf:XI K mg "Unlike"
 Gg:XS K mg
theorem yI(E:E0 K mg):gw P w K mg base 1 "_law_cell" 2 ju:=
 qX (N:=["_law_script","_law_k","_law_cell_here","_law_turn","_law_given"]) E.Q0 ⋯ λX I d O b U a e=>by subst I d O b U;exact by refine zg (j6 (fm (Kk (wC (yT a ⋯ E.Z0 (zV a)) zf) (Jh (qE a (qT (zE (zV a) zf) zf) zf)))) (by refine zg (jq a (zE (zV a) (jM zf (qT (zy a) (ZO (yT a ⋯ E.Z0 (zV a)) zf))))) ?_;refine zg (kJ e a (qa a ⋯ E.Z2 (fe a ⋯ E.Z1 zf (vM (zy a) (ZO (yT a ⋯ E.Z0 (zV a)) zf)))) (zo (jq a (vM (zy a) (eY zf zf))))) ?_;exact(zo (zL (qT (zy a) (eY zf zf))))) jh) ?_;refine zg (jq a (zy a)) ?_;refine zg (j6 (wC (yT a ⋯ E.Z0 (zV a)) zf) (zo (jq a (zE (zV a) (qT (zy a) (yT a ⋯ E.Z0 (zV a)))))) jh) ?_;exact(zo (zL (qT (xW (qT (jM (jM (jM (xW (qT (zy a) (eY zf zf)) zf) (xW (xW zf (zy a)) (zy a))) (xW zf (zy a))) zf) zf) zf) zf)))
theorem JS(E:E0 K mg):gw P w K mg base 1 "_law_ways" 2 xV:=
 qX (N:=["_law_cell_here","_law_rooms"]) E.Q1 ⋯ λX I e O d U a f=>by subst I e O d U;exact zo (zL (ff j5 (PO.q (xi a (kA.c (qa a ⋯ E.Z2 (ZO (zy a) zf))) (λ_ _ _ b=>kY j5 (qT (vM (zy b) (zE (PO.q (jI (qB (za zf (za zf (za zf (za zf (za zf ze)))))))) (zy b))) zf))))))
theorem ZZ(E:E0 K mg):gw P w K mg base 1 "_law_others" 4 xD:=
 qX (N:=["_law_script","_law_p","_law_ways_here","_law_cell_here","_law_at","_law_other"]) E.Q2 ⋯ λX I d O b U a e=>by subst I d O b U;exact by refine zg (j6 (qE a (qT (zy a) zf) zf) (zo (jq a (zE (PO.q (jI (qB (za zf (za zf (za zf (za zf ze))))))) (sO a (PO.q (jI (qB (za zf (za zf (za zf (za zf ze))))))) (zy a))))) jh) ?_;refine zg (j6 (fm (Kk (qE a (qT (zy a) zf) zf) (Jh (wC (Zq a ⋯ E.Z0 (zy a)) zf)))) (by refine zg (jq a (qT (vM (zy a) zf) (Zq a ⋯ E.Z0 (zy a)))) ?_;refine zg (jq a (kY j5 (lY (kY (zy a) (zy a))))) ?_;exact(zo (jq a (VR (VR (oT (zy a) Zt (vc (zy a))) (zy a)) (oT (zy a) (vc (jM (zy a) zf)) Zt))))) jh) ?_;refine zg (j6 (qE a (qT (zy a) zf) zf) (zo (jq a (VR (zy a) (kY j5 (qT (vM (zy a) zf) zf))))) jh) ?_;exact(zo (zL (jL (qB (za (zy a) (za (zy a) ze))))))
theorem VZ(E:E0 K mg):gw P w K mg base 1 "_law_ends" 2 vI:=
 qX (N:=["_law_ways_here","_law_k"]) E.Q3 ⋯ λX I d O b U a e=>by subst I d O b U;exact by refine zg (j6 (qE a (kY (zy a) (zy a)) j5) (zo (zL (jL (qB (za (zy a) (za (jM (zy a) zf) ze)))))) jh) ?_;exact(zo (zL (jL (qB (za (jM (zy a) zf) (za (zy a) ze))))))
theorem wI(E:E0 K mg):gw P w K mg base 2 "_law_any" 5 xf:=
 qX (N:=["_law_script","_law_at","_law_p","_law_ways_here","_law_odd","_law_cells","_law_widths","_law_arrows","_law_k","_law_begin","_law_end","_law_rows","_law_i","_law_first"]) E.Q4 ⋯ λX I f O e U a d=>by subst I f O e U;exact by refine zg (jv 5 (yl a (kA.c (qa a ⋯ E.Z2 (jM (Zq a ⋯ E.Z0 (zy a)) zf))) (λ_ _ _ b=>qT (vM (zW (yI E) b (za (zy b) (za (jM (zy b) (zy b)) ze))) zf) zf))) ?_;refine zg (jv 6 (yl a (ji (zV a)) (λ_ _ _ b=>zE (PO.q (jI (qB (za zf (za zf (za zf (za zf (za zf (za zf (za zf (za zf ze))))))))))) (zy b)))) ?_;refine zg (j6 (fm (Kk (qE a (Zq a ⋯ E.Z0 (zy a)) zf) (Jh (wC (zy a) zf)))) (zo (jq a (zE (PO.q (jI (qB (za (PO.v (jI (qB (za zf (za zf ze))))) (za (PO.v (jI (qB (za zf (za zf ze))))) (za (PO.v (jI (qB (za zf (za zf ze))))) ze)))))) (ZO (zy a) zf)))) jh) ?_;refine zg (yk a (jI (qB ze))) ?_;refine zg (kJ d a (qa a ⋯ E.Z2 (Zq a ⋯ E.Z0 (zy a))) (by refine zg (W9 (Iz a) (zW (VZ E) a (za (zy a) (za (zy a) ze)))) ?_;refine zg (yk a (jI (qB ze))) ?_;refine zg (kJ d a (qa a ⋯ E.Z2 (zE (zV a) (zy a))) (by refine zg (jq a (jM (jM (jM (zy a) zf) (xW zf (zy a))) (zy a))) ?_;refine zg (jv 5 (yl a (kA.c (qa a ⋯ E.Z2 (zE (zV a) (zy a)))) (λ_ _ _ b=>zW (yI E) b (za (zy b) (za (jM (zy b) (zy b)) ze))))) ?_;exact(zo (JM 11 a ⋯ (jU a ⋯ E.Z3 (PO.q (xi a (ji (zV a)) (λ_ _ _ b=>qT (vM (zy b) zf) (zy b))))))))) ?_;exact(zo (JM 7 a ⋯ (jL (qB (za (kY (zy a) (zy a)) (za (jL (qB (za (zE (zV a) (zy a)) (za (zE (zV a) (zy a)) (za (jU a ⋯ E.Z3 (zV a)) ze))))) ze)))))))) ?_;exact(zo (zL (jL (qB (za (zy a) (za (jU a ⋯ E.Z3 (zV a)) (za (jU a ⋯ E.Z3 (zV a)) ze)))))))
theorem YR(E:E0 K mg):gw P w K mg base 1 "_law_whole" 1 xR:=
 qX (N:=["_law_found"]) E.Q5 ⋯ λX I d O b U a e=>by subst I d O b U;exact zo (zL (W8 (fi a ⋯ E.Z6 ⋯ E.Z5 (zy a)) (eZ (oU (bL a ⋯ E.Z6 ⋯ E.Z4 (zy a))))))
theorem Zv(E:E0 K mg):gw P w K mg base 2 "_law_counted" 5 qk:=
 qX (N:=["_law_one","_law_other","_law_base","_law_many","_law_alikes"]) E.Q6 ⋯ λX I e O d U a f=>by subst I e O d U;exact by refine zg (j6 (fm (eX (wB a (zE (zV a) zf) (PO.v (jI (qB ze)))) (eX (wB a (zE (zV a) zf) (PO.v (jI (qB ze)))) (eX (Zr (xo (zW (YR E) a (za (zE (zV a) zf) ze)))) (sJ (pb (zE (zV a) zf) zf)))))) (zo (zL sQ)) jh) ?_;refine zg (j6 (wC (YG a ⋯ E.Z8 (PO.q (xi a (kA.c (vO a ⋯ E.Z9 (zE (zV a) zf) (zE (zV a) zf))) (λ_ _ _ b=>xW (zy b) (zy b))))) zf) (zo (zL (YI a (zE (zV a) zf) (PO.v (jI (qB (za j5 ze))))))) jh) ?_;exact(zo (zL (W8 (YI a (zE (zV a) zf) (PO.v (jI (qB ze)))) (W8 (bK a ⋯ E.Z6 ⋯ E.Z7 (zE (zV a) zf)) (eZ (YI a (yT a ⋯ E.Z0 (PV.q (zE (zV a) zf))) (zE (zV a) zf)))))))
theorem yn(E:E0 K mg):gw P w K mg base 1 "ways_of" 1 qI:=
 qX (N:=["row"]) E.Q7 ⋯ λX I e O d U a f=>by subst I e O d U;exact zo (zL (ff j5 (PO.q (xi a (ji (PV.q (zE (zV a) zf))) (λ_ _ _ b=>zE (zV b) zf)))))
theorem JQ(E:E0 K mg):gw P w K mg base 2 "one_kind" 2 kz:=
 qX (N:=["one","other"]) E.Q8 ⋯ λX I d O b U a e=>by subst I d O b U;exact zo (zL (W8 (YI a (zE (zV a) zf) (zE (zV a) zf)) (eZ (YI a (zW (yn E) a (za (zy a) ze)) (zW (yn E) a (za (zy a) ze))))))
theorem xq(E:E0 K mg):gw P w K mg base 3 "ask_one_kind" 2 jT:=
 qX (N:=["one","other"]) E.Q9 ⋯ λX I d O b U a e=>by subst I d O b U;exact zo (j6 (Zr (xo (zW (JQ E) a (za (zy a) (za (zy a) ze))))) (zo JL) jh)
theorem kc(E:E0 K mg):DU P w K mg base 3 "ask_one_kind" 2 jR:=
 nI (N:=["one","other"]) E.Q9 ⋯ λX O d U b Y a=>by subst O d U b Y;have I:=a.ov (λ_ _=>False);have e:(X.ov λ_ _=>False).xe=(λ_ _=>False):=rfl;exact vX (Bo (Zr (xo (zW (JQ E) I (za (zy I) (za (zy I) ze))))) (vX (W7 I ⋯ E.G0 j5)) oS)
theorem yH(E:E0 K mg):gw P w K mg base 1 "room_sizes" 2 q8:=
 qX (N:=["one","other"]) E.Qa ⋯ λX I d O b U a e=>by subst I d O b U;exact zo (qr (mz a ⋯ E.Z7 ⋯ E.Z9 (zE (zV a) zf) (zE (zV a) zf)))
theorem kh(E:E0 K mg):gw P w K mg base 1 "numbers_in" 1 jS:=
 qX (N:=["sizes"]) E.Qb ⋯ λX I e O d U a f=>by subst I e O d U;exact zo (zL (YG a ⋯ E.Z8 (PO.q (xi a (ji (zV a)) (λ_ _ _ b=>xW (zy b) (zy b))))))
theorem ZP(E:E0 K mg):gw P w K mg base 1 "tables_in" 2 qh:=
 qX (N:=["sizes","load","made","begin","high","wide","lines"]) E.Qc ⋯ λX I e O d U a f=>by subst I e O d U;exact by refine zg (yk a (jI (qB ze))) ?_;refine zg (jq a zf) ?_;refine zg (kJ f a (vb (zy a)) (by refine zg (jv 6 (yl a (kA.c (qa a ⋯ E.Z2 (zy a))) (λ_ _ _ b=>YH (zy b) (vc (jM (zy b) (xW (zy b) (zy b)))) (vc (jM (zy b) (xW (jM (zy b) zf) (zy b))))))) ?_;refine zg (JM 2 a ⋯ (jL (qB (za (zy a) (za (zy a) (za (jU a ⋯ E.Z3 (zV a)) ze)))))) ?_;exact(zo (jq a (jM (zy a) (xW (zy a) (zy a))))))) ?_;exact(zo (vz 2 (a.var ⋯)))
theorem Zx(E:E0 K mg):gw P w K mg base 1 "behind_noughts" 2 qN:=
 qX (N:=["many","base"]) E.Qd ⋯ λX I e O d U b f=>by subst I e O d U;exact zo (qr (VU b (ji (zV b)) (λ_ _ _ a=>Zr (xo (oY a ⋯ E.Za (PV.q (YH (zy a) Zt (vc (zy a))))))) (λ_ _ _ a=>YH (zy a) (vc (zy a)) Zt)))
theorem wH(E:E0 K mg):gw P w K mg base 1 "rests" 2 xP:=
 qX (N:=["p","numbers"]) E.Qe ⋯ λX I e O d U a f=>by subst I e O d U;exact zo (zL (jU a ⋯ E.Z3 (PO.q (xi a (ji (zV a)) (λ_ _ _ b=>qT (zy b) (zy b))))))
theorem cj(E:E0 K mg):gw P w K mg base 1 "inverse" 2 Zj:=
 qX (N:=["p","x","y"]) E.Qf ⋯ λX I d O b U a e=>by subst I d O b U;exact by refine zg (kJ e a (ah a ⋯ E.Z2 zf (zy a)) (zo (j6 (qE a (qT (xW (zy a) (zy a)) (zy a)) zf) (zo (vz 2 (a.var ⋯))) jh))) ?_;exact(zo JL)
theorem Xz(E:E0 K mg):gw P w K mg base 2 "cleared" 4 qL:=
 qX (N:=["p","load","pivot","place","much"]) E.Qg ⋯ λX I e O d U a f=>by subst I e O d U;exact by refine zg (jq a (zE (zV a) (zy a))) ?_;refine zg (j6 (qE a (zy a) zf) (zo (vz 1 (a.var ⋯))) jh) ?_;exact(zo (zL (zW (wH E) a (za (zy a) (za (PO.v (xi a (kA.c (vO a ⋯ E.Z9 (zy a) (zy a))) (λ_ _ _ b=>ZO (zy b) (xW (zy b) (zy b))))) ze)))))
theorem vD(E:E0 K mg):gw P w K mg base 3 "base_of" 3 xF:=
 qX (N:=["p","long","loads","left","base","place","leading","times","pivot"]) E.Qh ⋯ λX I e O d U a f=>by subst I e O d U;exact by refine zg (jv 3 (yl a (ji (zV a)) (λ_ _ _ b=>zW (wH E) b (za (zy b) (za (zy b) ze))))) ?_;refine zg (yk a (jI (qB ze))) ?_;refine zg (kJ f a (qa a ⋯ E.Z2 (zy a)) (by refine zg (jv 6 (sX a (ji (zV a)) (λ_ _ _ b=>wB b (zE (zV b) (zy b)) zf) (λ_ _ _ b=>zy b))) ?_;refine zg (j6 (Zr (mf (zV a))) (zo YJ) jh) ?_;refine zg (jq a (zW (cj E) a (za (zy a) (za (zE (PV.q (zE (zV a) zf)) (zy a)) ze)))) ?_;refine zg (jq a (zW (wH E) a (za (zy a) (za (PO.v (xi a (ji (PV.q (zE (zV a) zf))) (λ_ _ _ b=>xW (zy b) (zy b)))) ze)))) ?_;refine zg (jv 3 (yl a (ji (zV a)) (λ_ _ _ b=>zW (Xz E) b (za (zy b) (za (zy b) (za (zy b) (za (zy b) ze))))))) ?_;exact(zo (yk a (wD (PO.q (xi a (ji (zV a)) (λ_ _ _ b=>zW (Xz E) b (za (zy b) (za (zy b) (za (zy b) (za (zy b) ze))))))) (PO.q (jI (qB (za (zy a) ze))))))))) ?_;exact(zo (vz 4 (a.var ⋯)))
theorem qH(E:E0 K mg):gw P w K mg base 1 "turned_over" 1 jQ:=
 qX (N:=["table","columns"]) E.Qi ⋯ λX I f O e U a g=>by subst I f O e U;exact by refine zg (jv 1 (yl a (kA.c (qa a ⋯ E.Z2 (zE (zV a) zf))) (λ_ _ _ b=>jU b ⋯ E.Z3 (PO.q (xi b (ji (PV.q (zE (zV b) zf))) (λ_ _ _ d=>zE (zV d) (zy d))))))) ?_;exact(zo (zL (jL (qB (za (zE (zV a) zf) (za (zE (zV a) zf) (za (jU a ⋯ E.Z3 (zV a)) ze)))))))
theorem xp(E:E0 K mg):gw P w K mg base 1 "same_table" 1 j8:=
 qX (N:=["many","rows"]) E.Qj ⋯ λX I f O e U a g=>by subst I f O e U;exact by refine zg (jv 1 (yl a (kA.c (qa a ⋯ E.Z2 (zy a))) (λ_ _ _ b=>jU b ⋯ E.Z3 (PO.q (xi b (kA.c (qa b ⋯ E.Z2 (zy b))) (λ_ _ _ d=>xl (qE d (zy d) (zy d)) zf zf)))))) ?_;exact(zo (zL (jL (qB (za (zy a) (za (zy a) (za (jU a ⋯ E.Z3 (zV a)) ze)))))))
theorem JR(E:E0 K mg):gw P w K mg base 4 "led_into" 3 kB:=
 qX (N:=["p","table","base","pairs","free"]) E.Qk ⋯ λX I e O d U a f=>by subst I e O d U;exact by refine zg (jv 3 (yl a (kA.c (vO a ⋯ E.Z9 (zE (PV.q (zW (qH E) a (za (zy a) ze))) zf) (zE (PV.q (zW (xp E) a (za (zE (zV a) zf) ze))) zf))) (λ_ _ _ b=>jM (zy b) (zy b)))) ?_;refine zg (jv 4 (yl a (ji (zV a)) (λ_ _ _ b=>jM (zy b) (xW (jL (qB (za zf ze))) (zE (zV b) zf))))) ?_;exact(zo (qr (xh (Zx E) a (za (zE (zV a) zf) (za (PO.v (xh (vD E) a (za (zy a) (za (jM (zE (zV a) zf) (zE (zV a) zf)) (za (PO.v (wD (zV a) (zV a))) ze))))) ze)))))
theorem JU(E:E0 K mg):gw P w K mg base 5 "kernel" 2 ko:=
 qX (N:=["p","table"]) E.Ql ⋯ λX I d O b U a e=>by subst I d O b U;exact zo (qr (xh (JR E) a (za (zy a) (za (zy a) (za (PO.v (jI (qB ze))) ze)))))
theorem bZ(E:E0 K mg):gw P w K mg base 1 "written" 1 vw:=
 qX (N:=["tables","load","table","line"]) E.Qm ⋯ λX I e O d U a b=>by subst I e O d U;exact by refine zg (yk a (jI (qB ze))) ?_;refine zg (kJ b a (vb (zy a)) (zo (kJ b a (vb (zE (zV a) zf)) (zo (mn 1 a ⋯ (zV a)))))) ?_;exact(zo (zL (jU a ⋯ E.Z3 (zV a))))
theorem fQ(E:E0 K mg):gw P w K mg base 2 "led" 3 dg:=
 qX (N:=["p","table","load"]) E.Qn ⋯ λX I f O e U b g=>by subst I f O e U;exact zo (zL (zW (wH E) b (za (zy b) (za (PO.v (xi b (ji (PV.q (zE (zV b) zf))) (λ_ _ _ a=>YG a ⋯ E.Z8 (PO.q (xi a (kA.c (vO a ⋯ E.Z9 (zy a) (zy a))) (λ_ _ _ d=>xW (zy d) (zy d))))))) ze))))
theorem Zu(E:E0 K mg):gw P w K mg base 3 "product" 3 qA:=
 qX (N:=["p","one","other","over"]) E.Qo ⋯ λX I e O d U a f=>by subst I e O d U;exact by refine zg (jq a (zW (qH E) a (za (zy a) ze))) ?_;exact(zo (zL (jL (qB (za (zE (zV a) zf) (za (zE (zV a) zf) (za (jU a ⋯ E.Z3 (PO.q (xi a (ji (PV.q (zE (zV a) zf))) (λ_ _ _ b=>zW (fQ E) b (za (zy b) (za (zy b) (za (zy b) ze))))))) ze)))))))
theorem Xd(E:E0 K mg):gw P w K mg base 2 "added_times" 4 xG:=
 qX (N:=["p","one","much","other","rows"]) E.Qp ⋯ λX I f O e U a g=>by subst I f O e U;exact by refine zg (jv 4 (yl a (kA.c (vO a ⋯ E.Z9 (zE (zV a) zf) (zE (zV a) zf))) (λ_ _ _ b=>zW (wH E) b (za (zy b) (za (PO.v (xi b (kA.c (vO b ⋯ E.Z9 (zy b) (zy b))) (λ_ _ _ d=>jM (zy d) (xW (zy d) (zy d))))) ze))))) ?_;exact(zo (zL (jL (qB (za (zE (zV a) zf) (za (zE (zV a) zf) (za (jU a ⋯ E.Z3 (zV a)) ze)))))))
theorem tW(E:E0 K mg):gw P w K mg base 3 "less" 3 bc:=
 qX (N:=["p","one","other"]) E.Qq ⋯ λX I d O b U a e=>by subst I d O b U;exact zo (zL (zW (Xd E) a (za (zy a) (za (zy a) (za (oV zf) (za (zy a) ze))))))
theorem YS(E:E0 K mg):gw P w K mg base 1 "end_of" 2 kq:=
 qX (N:=["k","way"]) E.Qr ⋯ λX I d O b U a e=>by subst I d O b U;exact zo (zL (xl (qE a (zy a) j5) (jM (zy a) zf) (zy a)))
theorem vf(E:E0 K mg):gw P w K mg base 1 "beginning_of" 2 jH:=
 qX (N:=["k","way"]) E.Qs ⋯ λX I d O b U a e=>by subst I d O b U;exact zo (zL (xl (qE a (zy a) j5) (zy a) (jM (zy a) zf)))
theorem Ck(E:E0 K mg):gw P w K mg base 4 "gap" 4 oA:=
 qX (N:=["one","other","tables","k","p","way","first_along","first_across"]) E.Qt ⋯ λX I d O b U a e=>by subst I d O b U;exact by refine zg (jq a (zE (zV a) zf)) ?_;refine zg (jq a (zE (PV.q (zE (PV.q (zE (zV a) zf)) (zy a))) zf)) ?_;refine zg (jq a (zW (Zu E) a (za (zy a) (za (zE (zV a) (zW (YS E) a (za (zy a) (za (zy a) ze)))) (za (zE (PV.q (zE (PV.q (zE (zV a) zf)) (zy a))) zf) ze))))) ?_;refine zg (jq a (zW (Zu E) a (za (zy a) (za (zE (PV.q (zE (PV.q (zE (zV a) zf)) (zy a))) zf) (za (zE (zV a) (zW (vf E) a (za (zy a) (za (zy a) ze)))) ze))))) ?_;exact(zo (zL (zW (tW E) a (za (zy a) (za (zy a) (za (zy a) ze))))))
theorem tX(E:E0 K mg):gw P w K mg base 5 "gaps" 3 VF:=
 qX (N:=["one","other","tables"]) E.Qu ⋯ λX I e O d U b f=>by subst I e O d U;exact zo (qr (xi b (kA.c (qa b ⋯ E.Z2 (yT b ⋯ E.Z0 (PV.q (zE (zV b) zf))))) (λ_ _ _ a=>zW (Ck E) a (za (zy a) (za (zy a) (za (zy a) (za (zy a) ze)))))))
theorem Xc(E:E0 K mg):gw P w K mg base 2 "arrow_sizes" 2 qD:=
 qX (N:=["one","other","ways"]) E.Qv ⋯ λX I e O d U b f=>by subst I e O d U;exact by refine zg (jq b (zW (yn E) b (za (zy b) ze))) ?_;exact(zo (qr (xi b (kA.c (tF b ⋯ E.Zb (zy b))) (λ_ _ _ a=>jL (qB (za (zE (PV.q (zE (zV a) zf)) (zW (YS E) a (za (zy a) (za (zy a) ze)))) (za (zE (PV.q (zE (zV a) zf)) (zW (vf E) a (za (zy a) (za (zy a) ze)))) ze)))))))
theorem Kt(E:E0 K mg):gw P w K mg base 6 "gaps_table" 2 k8:=
 qX (N:=["one","other","sizes","many","led_units"]) E.Qw ⋯ λX I e O d U a f=>by subst I e O d U;exact by refine zg (jq a (PO.v (xh (yH E) a (za (zy a) (za (zy a) ze))))) ?_;refine zg (jq a (zW (kh E) a (za (zy a) ze))) ?_;refine zg (jv 4 (yl a (ji (PV.q (zE (PV.q (zW (xp E) a (za (zy a) ze))) zf))) (λ_ _ _ b=>zW (bZ E) b (za (PO.v (xh (tX E) b (za (zy b) (za (zy b) (za (PO.v (xh (ZP E) b (za (zy b) (za (zy b) ze)))) ze))))) ze)))) ?_;exact(zo (zL (zW (qH E) a (za (jL (qB (za (zy a) (za (zW (kh E) a (za (PO.v (xh (Xc E) a (za (zy a) (za (zy a) ze)))) ze)) (za (jU a ⋯ E.Z3 (zV a)) ze))))) ze))))
theorem YN(E:E0 K mg):gw P w K mg base 7 "ways_base" 2 yO:=
 qX (N:=["one","other","sizes"]) E.Qx ⋯ λX I e O d U a f=>by subst I e O d U;exact by refine zg (Jj (zW (xq E) a (za (zy a) (za (zy a) ze)))) ?_;refine zg (jq a (PO.v (xh (yH E) a (za (zy a) (za (zy a) ze))))) ?_;refine zg (j6 (wC (zW (kh E) a (za (zy a) ze)) (Bt a ⋯ E.G1)) (zo JL) jh) ?_;exact(zo (qr (xi a (ji (PO.q (xh (JU E) a (za (zE (zV a) zf) (za (zW (Kt E) a (za (zy a) (za (zy a) ze))) ze))))) (λ_ _ _ b=>PO.v (xh (ZP E) b (za (zy b) (za (zy b) ze)))))))
theorem Kq(E:E0 K mg):DU P w K mg base 7 "ways_base" 2 qR:=
 nI (N:=["one","other","sizes"]) E.Qx ⋯ λX O d U b Y a=>by subst O d U b Y;have I:=a.ov (λ_ _=>False);have e:(X.ov λ_ _=>False).xe=(λ_ _=>False):=rfl;exact W6 (VQ (kc E) ⋯ I ⋯ (za (zy I) (za (zy I) ze))) (Jj (zW (xq E) I (za (zy I) (za (zy I) ze)))) (W6 GB (jq I (PO.v (xh (yH E) I (za (zy I) (za (zy I) ze))))) (vX (Bo (wC (zW (kh E) I (za (zy I) ze)) (Bt I ⋯ E.G1)) (vX (W7 I ⋯ E.G2 j5)) oS)))
theorem Xb(E:E0 K mg):gw P w K mg base 1 "_law_kind" 1 xE:=
 qX (N:=["_law_caught","_law_told","_law_odd"]) E.Qy ⋯ λX I e O d U a b=>by subst I e O d U;exact by refine zg (yk a (jI (qB ze))) ?_;refine zg (j6 (xo (yj a ⋯ E.Z6 ⋯ E.Gf (zy a))) (zo (JM 1 a ⋯ j5)) jh) ?_;refine zg (j6 (xo (yj a ⋯ E.Z6 ⋯ E.Ge (zy a))) (zo (JM 1 a ⋯ j5)) jh) ?_;refine zg (kJ b a (vb (PO.v (jI (qB (za (yj a ⋯ E.Z6 ⋯ E.G3 (zy a)) (za (yj a ⋯ E.Z6 ⋯ E.G4 (zy a)) (za (yj a ⋯ E.Z6 ⋯ E.G5 (zy a)) ze))))))) (zo (yk a (wD (zV a) (PO.q (Xy (jI (qB (za j5 ze))) (Kl a ⋯ E.Z5 (zy a)))))))) ?_;refine zg (kJ b a (vb (PO.v (jI (qB (za (yj a ⋯ E.Z6 ⋯ E.G6 (zy a)) (za (yj a ⋯ E.Z6 ⋯ E.G7 (zy a)) (za (yj a ⋯ E.Z6 ⋯ E.G8 (zy a)) ze))))))) (zo (yk a (wD (zV a) (PO.q (Xy (jI (qB (za j5 ze))) (Kl a ⋯ E.Z5 (zy a)))))))) ?_;refine zg (kJ b a (vb (PO.v (jI (qB (za (yj a ⋯ E.Z6 ⋯ E.G9 (zy a)) (za (yj a ⋯ E.Z6 ⋯ E.Gc (zy a)) (za (yj a ⋯ E.Z6 ⋯ E.Ga (zy a)) ze))))))) (zo (yk a (wD (zV a) (PO.q (Xy (jI (qB (za j5 ze))) (Kl a ⋯ E.Z5 (zy a)))))))) ?_;refine zg (kJ b a (vb (PO.v (jI (qB (za (yj a ⋯ E.Z6 ⋯ E.Gb (zy a)) (za (yj a ⋯ E.Z6 ⋯ E.Gd (zy a)) (za (oU (sM a ⋯ E.Z6 ⋯ E.Zc (zy a))) ze))))))) (zo (yk a (wD (zV a) (PO.q (Xy (jI (qB (za j5 ze))) (Kl a ⋯ E.Z5 (zy a)))))))) ?_;exact(zo (vz 1 (a.var ⋯)))
theorem ao(E:E0 K mg):gw P w K mg base 4 "image" 2 ZL:=
 qX (N:=["p","table"]) E.Qz ⋯ λX I d O b U a e=>by subst I d O b U;exact zo (qr (xh (vD E) a (za (zy a) (za (zE (zV a) zf) (za (zE (PV.q (zW (qH E) a (za (zy a) ze))) zf) ze)))))
theorem Zw(E:E0 K mg):gw P w K mg base 2 "columns" 2 kR:=
 qX (N:=["high","loads"]) E._A ⋯ λX I d O b U a e=>by subst I d O b U;exact zo (zL (zW (qH E) a (za (jL (qB (za (yT a ⋯ E.Z0 (zV a)) (za (zy a) (za (jU a ⋯ E.Z3 (zV a)) ze))))) ze)))
theorem yJ(E:E0 K mg):gw P w K mg base 1 "has_room" 2 j3:=
 qX (N:=["bar","room"]) E._B ⋯ λX I d O b U a e=>by subst I d O b U;exact zo (zL (ma GN Ce AO oM (zE (zV a) zf) (zy a) (jM (zE (zV a) zf) (yT a ⋯ E.Z0 (PV.q (zE (zV a) zf))))))
theorem vY(E:E0 K mg):gw P w K mg base 2 "loads_in" 2 q9:=
 qX (N:=["bars","room"]) E._C ⋯ λX I e O d U b f=>by subst I e O d U;exact zo (qr (VU b (ji (zV b)) (λ_ _ _ a=>xo (zW (yJ E) a (za (zy a) (za (zy a) ze)))) (λ_ _ _ a=>zE (PV.q (zE (zV a) zf)) (ZO (zy a) (zE (zV a) zf)))))
theorem vC(E:E0 K mg):gw P w K mg base 1 "lead_of" 1 qK:=
 qX (N:=["load"]) E._D ⋯ λX I e O d U b f=>by subst I e O d U;exact zo (zL (zE (PO.q (VU b (kA.c (fE b ⋯ E.Zb (zy b))) (λ_ _ _ a=>wB a (zy a) zf) (λ_ _ _ a=>zy a))) zf))
theorem Kr(E:E0 K mg):gw P w K mg base 3 "mixed_load" 4 k7:=
 qX (N:=["row","bars","times","room","there"]) E._E ⋯ λX I e O d U a f=>by subst I e O d U;exact by refine zg (jv 4 (sX a (kA.c (vO a ⋯ E.Z9 (zy a) (zy a))) (λ_ _ _ b=>xo (zW (yJ E) b (za (zy b) (za (zy b) ze)))) (λ_ _ _ b=>zy b))) ?_;exact(zo (zL (zW (fQ E) a (za (zE (zV a) zf) (za (zW (Zw E) a (za (zE (PV.q (zE (zV a) zf)) (zy a)) (za (PO.v (xh (vY E) a (za (zy a) (za (zy a) ze)))) ze))) (za (zy a) ze))))))
theorem mQ(E:E0 K mg):gw P w K mg base 4 "mixed" 3 K9:=
 qX (N:=["row","bars","times","first","loads"]) E._F ⋯ λX I e O d U a f=>by subst I e O d U;exact by refine zg (jq a (zE (zV a) (zW (vC E) a (za (zy a) ze)))) ?_;refine zg (jv 4 (yl a (kA.c (qa a ⋯ E.Z2 (yT a ⋯ E.Z0 (PV.q (zE (zV a) zf))))) (λ_ _ _ b=>zW (Kr E) b (za (zy b) (za (zy b) (za (zy b) (za (jM (zE (zV b) zf) (zy b)) ze))))))) ?_;exact(zo (zL (jL (qB (za (zE (zV a) zf) (za (jU a ⋯ E.Z3 (zV a)) ze))))))
theorem cg(E:E0 K mg):gw P w K mg base 6 "settled" 3 w6:=
 qX (N:=["row","k","bars","way","table","special","base","leads"]) E._G ⋯ λX I e O d U a f=>by subst I e O d U;exact by refine zg (jq a (zE (PV.q (zE (PV.q (zE (zV a) zf)) (zy a))) zf)) ?_;refine zg (jq a (zE (PV.q (zE (PV.q (zE (zV a) zf)) (zy a))) zf)) ?_;refine zg (jq a (xl (qE a (zy a) j5) (PO.v (xh (JU E) a (za (zE (zV a) zf) (za (zy a) ze)))) (PO.v (xh (ao E) a (za (zE (zV a) zf) (za (zy a) ze)))))) ?_;refine zg (jq a (PO.v (xh (JR E) a (za (zE (zV a) zf) (za (zW (Zw E) a (za (zE (PV.q (zE (zV a) zf)) (zy a)) (za (PO.v (xh (vY E) a (za (zy a) (za (zy a) ze)))) ze))) (za (zy a) ze)))))) ?_;refine zg (jq a (lZ a ⋯ E.Zd (xi a (ji (zV a)) (λ_ _ _ b=>jL (qB (za (zW (vC E) b (za (zy b) ze)) (za (zy b) ze))))))) ?_;exact(zo (qr (xi a (kA.c (tG a ⋯ E.Zb (zy a))) (λ_ _ _ b=>xl (sS b (zy b) (zy b)) (zW (mQ E) b (za (zy b) (za (zy b) (za (Bu b (zy b) (zy b)) ze)))) (zy b)))))
theorem fP(E:E0 K mg):gw P w K mg base 4 "solved" 3 vH:=
 qX (N:=["p","table","load","wide","answer","line","place"]) E._H ⋯ λX I e O d U a f=>by subst I e O d U;exact by refine zg (jq a (zE (zV a) zf)) ?_;refine zg (yk a (Xy (jI (qB (za zf ze))) (zy a))) ?_;refine zg (kJ f a (vb (PO.v (xh (vD E) a (za (zy a) (za (jM (zy a) zf) (za (PO.v (xi a (kA.c (vO a ⋯ E.Z9 (zE (zV a) zf) (zy a))) (λ_ _ _ b=>jM (zy b) (jL (qB (za (zy b) ze)))))) ze)))))) (by refine zg (jq a (zW (vC E) a (za (zy a) ze))) ?_;refine zg (j6 (qE a (zy a) (zy a)) (zo (zL wz)) jh) ?_;exact(zo (fw 4 a ⋯ (zy a) (zE (zV a) (zy a)))))) ?_;exact(zo (zL (jU a ⋯ E.Z3 (zV a))))
theorem YO(E:E0 K mg):gw P w K mg base 5 "next_load" 3 xQ:=
 qX (N:=["p","arrow","load","there"]) E._I ⋯ λX I d O b U a e=>by subst I d O b U;exact by refine zg (j6 (qE a (zE (zV a) zf) j5) (zo (zL (zW (fP E) a (za (zy a) (za (zE (zV a) zf) (za (zy a) ze)))))) jh) ?_;refine zg (jq a (zW (fQ E) a (za (zy a) (za (zE (zV a) zf) (za (zy a) ze))))) ?_;exact(zo (zL (xl (xo (oY a ⋯ E.Za (zV a))) (zy a) wz)))
theorem VY(E:E0 K mg):gw P w K mg base 6 "taken_on" 3 yw:=
 qX (N:=["p","arrow","bar","load"]) E._J ⋯ λX I d O b U a e=>by subst I d O b U;exact by refine zg (jq a (zW (YO E) a (za (zy a) (za (zy a) (za (zE (PV.q (zE (zV a) zf)) (oV zf)) ze))))) ?_;exact(zo (zL (xl (sR (zy a) wz) (zy a) (jL (qB (za (zE (zV a) zf) (za (jM (zE (zV a) zf) (jL (qB (za (zy a) ze)))) ze)))))))
theorem YQ(E:E0 K mg):gw P w K mg base 6 "new_loads" 2 yP:=
 qX (N:=["p","arrow","leads"]) E._K ⋯ λX I e O d U a f=>by subst I e O d U;exact by refine zg (j6 (qE a (zE (zV a) zf) j5) (zo (qr (xh (JU E) a (za (zy a) (za (zE (zV a) zf) ze))))) jh) ?_;refine zg (jv 2 (yl a (ji (PO.q (xh (ao E) a (za (zy a) (za (zE (zV a) zf) ze))))) (λ_ _ _ b=>zW (vC E) b (za (zy b) ze)))) ?_;exact(zo (qr (VU a (kA.c (fE a ⋯ E.Zb (zE (PV.q (zW (xp E) a (za (zE (PV.q (zE (zV a) zf)) zf) ze))) zf))) (λ_ _ _ b=>bM (zy b) (zV b)) (λ_ _ _ b=>zy b))))
theorem mR(E:E0 K mg):gw P w K mg base 7 "grown" 3 QN:=
 qX (N:=["row","k","bars","p","arrow","ended","here","old","new"]) E._L ⋯ λX I e O d U a f=>by subst I e O d U;exact by refine zg (jq a (zE (zV a) zf)) ?_;refine zg (jq a (zE (PV.q (zE (zV a) zf)) (zy a))) ?_;refine zg (jv 5 (sX a (ji (zV a)) (λ_ _ _ b=>Zr (xo (zW (yJ E) b (za (zy b) (za (zy b) ze))))) (λ_ _ _ b=>zy b))) ?_;refine zg (jq a (PO.v (xh (cg E) a (za (zy a) (za (zy a) (za (PO.v (VU a (ji (zV a)) (λ_ _ _ b=>xo (zW (yJ E) b (za (zy b) (za (zy b) ze)))) (λ_ _ _ b=>zy b))) ze)))))) ?_;refine zg (jv 7 (yl a (ji (zV a)) (λ_ _ _ b=>zW (VY E) b (za (zy b) (za (zy b) (za (zy b) ze)))))) ?_;refine zg (jv 8 (yl a (ji (PO.q (xh (YQ E) a (za (zy a) (za (zy a) ze))))) (λ_ _ _ b=>jL (qB (za (jM (zy b) zf) (za (jL (qB (za (zy b) ze))) ze)))))) ?_;exact(zo (zL (PO.v (wD (zV a) (PV.q (xl (qE a (zE (zV a) zf) j5) (PO.v (wD (zV a) (zV a))) (PO.v (wD (zV a) (zV a)))))))))
theorem wG(E:E0 K mg):gw P w K mg base 1 "stretch_of" 1 j7:=
 qX (N:=["bar"]) E._M ⋯ λX I d O b U a e=>by subst I d O b U;exact zo (zL (jL (qB (za (zE (zV a) zf) (za (ZO (jM (zE (zV a) zf) (yT a ⋯ E.Z0 (PV.q (zE (zV a) zf)))) zf) ze)))))
theorem YT(E:E0 K mg):gw P w K mg base 9 "all_grown" 1 yR:=
 qX (N:=["row","bars","k"]) E._N ⋯ λX I e O d U a f=>by subst I e O d U;exact by refine zg (jv 1 (yl a (ji (PV.q (zE (PV.q (zW (xp E) a (za (zE (PV.q (zE (zV a) zf)) zf) ze))) zf))) (λ_ _ _ b=>jL (qB (za zf (za (jL (qB (za (zy b) ze))) ze)))))) ?_;refine zg (kJ f a (qa a ⋯ E.Z2 (yT a ⋯ E.Z0 (PV.q (zE (zV a) zf)))) (zo (jq a (zW (mR E) a (za (zy a) (za (zy a) (za (zy a) ze))))))) ?_;exact(zo (qr (mw (wG E) a ⋯ ⋯ E.Ze ⋯ (zV a))))
theorem ck(E:E0 K mg):gw P w K mg base 4 "back_of" 2 kT:=
 qX (N:=["p","table","many","same","base"]) E._O ⋯ λX I e O d U a f=>by subst I e O d U;exact by refine zg (jq a (zE (zV a) zf)) ?_;refine zg (j6 (wB a (zE (zV a) zf) (zy a)) (zo (zL wz)) jh) ?_;refine zg (jq a (zE (PV.q (zW (xp E) a (za (zy a) ze))) zf)) ?_;refine zg (jq a (PO.v (xh (vD E) a (za (zy a) (za (jM (zy a) (zy a)) (za (PO.v (xi a (kA.c (vO a ⋯ E.Z9 (zE (zV a) zf) (zy a))) (λ_ _ _ b=>jM (zy b) (zy b)))) ze)))))) ?_;refine zg (j6 (wB a (PO.v (xi a (ji (zV a)) (λ_ _ _ b=>YH (zy b) Zt (vc (zy b))))) (PO.v (tf a ⋯ E.Z7 (zV a)))) (zo (zL wz)) jh) ?_;exact(zo (zL (jL (qB (za (zy a) (za (zy a) (za (jU a ⋯ E.Z3 (PO.q (xi a (ji (zV a)) (λ_ _ _ b=>YH (zy b) (vc (zy b)) Zt)))) ze)))))))
theorem wJ(E:E0 K mg):gw P w K mg base 10 "barred" 1 jW:=
 qX (N:=["row","bars","backs","turns"]) E._P ⋯ λX I e O d U a f=>by subst I e O d U;exact by refine zg (jq a (PO.v (xh (YT E) a (za (zy a) ze)))) ?_;refine zg (jv 2 (yl a (kA.c (fE a ⋯ E.Zb (zE (zV a) zf))) (λ_ _ _ b=>zW (Zw E) b (za (zy b) (za (PO.v (xh (vY E) b (za (zy b) (za (zy b) ze)))) ze))))) ?_;refine zg (jv 3 (yl a (ji (zV a)) (λ_ _ _ b=>zW (ck E) b (za (zE (zV b) zf) (za (zy b) ze))))) ?_;exact(zo (zL (jL (qB (za (PO.v (xi a (ji (zV a)) (λ_ _ _ b=>zW (wG E) b (za (zy b) ze)))) (za (zy a) (za (zy a) ze)))))))
theorem Ks(E:E0 K mg):gw P w K mg base 1 "left_holds" 3 x9:=
 qX (N:=["ways","one","other"]) E._Q ⋯ λX I d O b U a e=>by subst I d O b U;exact by refine zg (j6 (qE a (zE (zV a) zf) (zE (zV a) zf)) (zo (zL sQ)) jh) ?_;exact(zo (zL (YI a (kY (zy a) (ZO (oW a ⋯ E.Zf (zE (zV a) zf) (zE (zV a) zf)) zf)) (xl (pb (zE (zV a) zf) (zE (zV a) zf)) j5 j5))))
theorem Xa(E:E0 K mg):gw P w K mg base 1 "right_holds" 3 xC:=
 qX (N:=["ways","one","other"]) E._R ⋯ λX I d O b U a e=>by subst I d O b U;exact by refine zg (j6 (qE a (zE (zV a) zf) (zE (zV a) zf)) (zo (zL sQ)) jh) ?_;exact(zo (zL (YI a (kY (zy a) (fe a ⋯ E.Z1 (zE (zV a) zf) (zE (zV a) zf))) (xl (wC (zE (zV a) zf) (zE (zV a) zf)) j5 j5))))
theorem V0(E:E0 K mg):gw P w K mg base 2 "bar_ways" 3 kC:=
 qX (N:=["ways","one","other"]) E._S ⋯ λX I d O b U a e=>by subst I d O b U;exact by refine zg (j6 (wC (oW a ⋯ E.Zf (zE (zV a) zf) (zE (zV a) zf)) (fe a ⋯ E.Z1 (zE (zV a) zf) (zE (zV a) zf))) (zo (zL zf)) jh) ?_;exact(zo (zL (xl (fm (Kk (xo (zW (Ks E) a (za (zy a) (za (zy a) (za (zy a) ze))))) (Jh (xo (zW (Xa E) a (za (zy a) (za (zy a) (za (zy a) ze)))))))) zf zf)))
theorem vd(E:E0 K mg):gw P w K mg base 3 "ways_into" 3 qg:=
 qX (N:=["ways","bars","bar"]) E._T ⋯ λX I e O d U b f=>by subst I e O d U;exact zo (zL (YG b ⋯ E.Z8 (PO.q (xi b (ji (zV b)) (λ_ _ _ a=>zW (V0 E) a (za (zy a) (za (zy a) (za (zy a) ze))))))))
theorem Ku(E:E0 K mg):gw P w K mg base 11 "count_ways" 2 ka:=
 qX (N:=["one","other","bars"]) E.O' ⋯ λX I e O d U a f=>by subst I e O d U;exact by refine zg (Jj (zW (xq E) a (za (zy a) (za (zy a) ze)))) ?_;refine zg (jq a (zE (PV.q (zW (wJ E) a (za (zy a) ze))) zf)) ?_;exact(zo (zL (YG a ⋯ E.Z8 (PO.q (xi a (ji (PV.q (zE (PV.q (zW (wJ E) a (za (zy a) ze))) zf))) (λ_ _ _ b=>zW (vd E) b (za (zW (yn E) b (za (zy b) ze)) (za (zy b) (za (zy b) ze)))))))))
theorem QZ(E:E0 K mg):DU P w K mg base 11 "count_ways" 2 qZ:=
 nI (N:=["one","other","bars"]) E.O' ⋯ λX O d U b Y a=>by subst O d U b Y;have I:=a.ov (λ_ _=>False);have e:(X.ov λ_ _=>False).xe=(λ_ _=>False):=rfl;exact vX (VQ (kc E) ⋯ I ⋯ (za (zy I) (za (zy I) ze)))
theorem ve(E:E0 K mg):gw P w K mg base 4 "room_by_room" 3 qJ:=
 qX (N:=["p","ones","others"]) E._U ⋯ λX I e O d U a f=>by subst I e O d U;exact zo (qr (xi a (kA.c (vO a ⋯ E.Z9 (zy a) (zy a))) (λ_ _ _ b=>zW (Zu E) b (za (zy b) (za (zy b) (za (zy b) ze))))))
theorem JP(E:E0 K mg):gw P w K mg base 1 "stretches_of" 1 qm:=
 qX (N:=["many","found","i"]) E._V ⋯ λX I e O d U a f=>by subst I e O d U;exact by refine zg (yk a (jI (qB ze))) ?_;refine zg (kJ f a (qa a ⋯ E.Z2 (zy a)) (zo (sW 1 a ⋯ (xi a (kA.c (ah a ⋯ E.Z2 (zy a) (zy a))) (λ_ _ _ b=>jL (qB (za (zy b) (za (zy b) ze)))))))) ?_;exact(zo (vz 1 (a.var ⋯)))
theorem Zy(E:E0 K mg):gw P w K mg base 4 "are_told_apart" 4 qO:=
 qX (N:=["ways","ones","others","bar"]) E._W ⋯ λX I d O b U a e=>by subst I d O b U;exact zo (zL (GD a (zW (vd E) a (za (zy a) (za (zy a) (za (zy a) ze)))) (zW (vd E) a (za (zy a) (za (zy a) (za (zy a) ze))))))
theorem mT(E:E0 K mg):gw P w K mg base 5 "apart" 3 QP:=
 qX (N:=["ways","ones","others","stretches","stretch","told"]) E._X ⋯ λX I e O d U a f=>by subst I e O d U;exact by refine zg (jq a (PO.v (xh (JP E) a (za (jM (Zq a ⋯ E.Z0 (zy a)) zf) ze)))) ?_;refine zg (jq a (zE (PO.q (VU a (ji (zV a)) (λ_ _ _ b=>wB b (wA b (zV b) (zy b)) (wA b (zV b) (zy b))) (λ_ _ _ b=>zy b))) zf)) ?_;refine zg (jq a (zE (PO.q (VU a (ji (zV a)) (λ_ _ _ b=>xo (zW (Zy E) b (za (zy b) (za (zy b) (za (zy b) (za (zy b) ze)))))) (λ_ _ _ b=>zy b))) zf)) ?_;exact(zo (zL (jL (qB (za j5 (za (zy a) (za (wA a (zV a) (zy a)) (za (wA a (zV a) (zy a)) (za (zy a) ze)))))))))
theorem mU(E:E0 K mg):gw P w K mg base 11 "alike" 2 wg:=
 qX (N:=["one","other","first","second","there","back"]) E.O_ ⋯ λX I d O b U a e=>by subst I d O b U;exact by refine zg (Jj (zW (xq E) a (za (zy a) (za (zy a) ze)))) ?_;refine zg (jq a (zW (wJ E) a (za (zy a) ze))) ?_;refine zg (jq a (zW (wJ E) a (za (zy a) ze))) ?_;refine zg (j6 (wB a (zE (zV a) zf) (zE (zV a) zf)) (zo (zL (zW (mT E) a (za (zW (yn E) a (za (zy a) ze)) (za (zE (zV a) zf) (za (zE (zV a) zf) ze)))))) jh) ?_;refine zg (jq a (PO.v (xh (ve E) a (za (zE (zV a) zf) (za (zE (zV a) zf) (za (zE (zV a) zf) ze)))))) ?_;refine zg (jq a (PO.v (xh (ve E) a (za (zE (zV a) zf) (za (zE (zV a) zf) (za (zE (zV a) zf) ze)))))) ?_;exact(zo (zL (jL (qB (za j5 (za (zy a) (za (zy a) ze)))))))
theorem fO(E:E0 K mg):DU P w K mg base 11 "alike" 2 ZK:=
 nI (N:=["one","other","first","second","there","back"]) E.O_ ⋯ λX O d U b Y a=>by subst O d U b Y;have I:=a.ov (λ_ _=>False);have e:(X.ov λ_ _=>False).xe=(λ_ _=>False):=rfl;exact vX (VQ (kc E) ⋯ I ⋯ (za (zy I) (za (zy I) ze)))
theorem JT(E:E0 K mg):gw P w K mg base 12 "_law_asked" 3 zQ:=
 Hj (N:=["_law_one","_law_other","_law_what","_law_caught","_law_found","e"]) E._Y ⋯ λX O e U d Y a f b=>by subst O e U d Y;exact by refine zg (jq a wz) ?_;refine zg (jq a wz) ?_;refine zg (mj 5 3 ⋯ a b ⋯ ⋯ ⋯ ⋯ ⋯ E.Gg (have I:=a.ov (λ_ _=>False);j6 (qE I (zy I) zf) (zo (jq I (PO.v (xh (YN E) I (za (zy I) (za (zy I) ze)))))) (zo (j6 (qE I (zy I) zf) (zo (jq I (zW (Ku E) I (za (zy I) (za (zy I) ze))))) (zo (jq I (zW (mU E) I (za (zy I) (za (zy I) ze)))))))) (have I:=a.ov (λ_ _=>False);BU (qE I (zy I) zf) (fN a ⋯ (Kq E) ⋯ (za (zy I) (za (zy I) ze))) (BU (qE I (zy I) zf) (fN a ⋯ (QZ E) ⋯ (za (zy I) (za (zy I) ze))) (fN a ⋯ (fO E) ⋯ (za (zy I) (za (zy I) ze)))))) ?_;refine zg (j6 (bN (zy a) wz) (zo (zL (jL (qB (za (PO.v (xh (Xb E) a (za (zy a) ze))) (za wz ze)))))) jh) ?_;exact(zo (zL (jL (qB (za (PO.v (jI (qB ze))) (za (zy a) ze))))))
theorem IL(D:L2.D9 K "law" "law" (top 88) f fd)(E:E0 K mg):r9 P w K mg base uR 13 f fd ["_law_script"] (u6 K 1 Zi):=
 Hk (N:=["_law_script","_law_cell_here","_law_p","_law_ways_here","_law_q","_law_wise","_law_odd","_law_one","_law_other","_law_told"]) D ⋯ λX I e O d U a g=>by subst I e O d U;exact by refine zg (jq a (zW (yI E) a (za (zy a) (za zf ze)))) ?_;refine zg (jq a (zE (PO.q (jI (qB (za zf (za zf (za zf (za zf ze))))))) (qT (zy a) zf))) ?_;refine zg (jq a (zW (JS E) a (za (vM (zy a) zf) (za (jM zf (qT (vM (zy a) zf) zf)) ze)))) ?_;refine zg (W9 (Iz a) (zW (ZZ E) a (za (zy a) (za (zy a) (za (zy a) (za (zW (yI E) a (za (zy a) (za zf ze))) ze)))))) ?_;refine zg (jq a (qT (vM (zy a) zf) zf)) ?_;refine zg (jq a (zW (wI E) a (za (zy a) (za zf (za (zy a) (za (zy a) (za (zy a) ze))))))) ?_;refine zg (jq a (zW (wI E) a (za (zy a) (za zf (za (zy a) (za (zy a) (za (zE (PO.q (jI (qB (za zf (za zf (za zf (za zf ze))))))) (zy a)) ze))))))) ?_;refine zg (jv 9 (yl a (kA.c (qa a ⋯ E.Z2 zf)) (λ_ _ _ b=>zW (JT E) b (za (zy b) (za (zy b) (za (zy b) ze)))))) ?_;refine zg (j6 (wB a (jL (qB (za (zy a) (za (zy a) ze)))) (jL (qB (za (zy a) (za (zy a) ze))))) (zo (zL (YI a (PO.v (xi a (ji (zV a)) (λ_ _ _ b=>zE (zV b) zf))) (PO.v (Xy (jI (qB (za (PO.v (jI (qB (za j5 ze)))) ze))) zf))))) jh) ?_;exact(zo (zL (zW (Zv E) a (za (zy a) (za (zy a) (za (zE (zV a) zf) (za (zE (zV a) zf) (za (zE (zV a) zf) ze))))))))
end
end DL
namespace PySem.W.Fast
def tw17923672679392559471:=0
def tw13706713523234301896:=0
def tw5910712603560894963:=0
def tw5421928941292981027:=0
def tw782778507305986800:=0
def tw11838669130204295134:=0
def tw14167545424961695919:=0
def tw10870082532501943400:=0
def tw15162185710415075807:=0
def tw7507441586939384222:=0
def tw9115418032850436405:=0
def tw8768692847239752650:=0
def tw9555372344964322067:=0
def tw16984330120399259869:=0
def tw12576643254802115391:=0
def tw17593781658673050537:=0
def tw2748151801039752058:=0
def tw4075728592062707672:=0
def tw4836868274802940239:=0
def tw14166076987109685736:=0
def tw11707761927823070167:=0
def tw3425430866718942841:=0
def tw1105024080752918216:=0
def tw7113290161703600407:=0
def tw12674600552781844741:=0
def tw2494772826916805301:=0
def tw444529945189272104:=0
def tw2019234655177201991:=0
def tw16237033495194930373:=0
def tw10349172209457563477:=0
def tw15950428305678872135:=0
def tw17825421377548333200:=0
def tw5903262794962688507:=0
def tw8863081961632594288:=0
def tw4566846988003521661:=0
def tw16484112934730410356:=0
def tw4402595715181298534:=0
def tw13509467029073329145:=0
def tw9105134111219927752:=0
def tw9241644706354581219:=0
def tw12621276473101692222:=0
def tw1122647572759892704:=0
def tw3872907373871357838:=0
def tw4642694374532835676:=0
def tw9611247601409173408:=0
def tw13577869056949481230:=0
def tw12127791541551175700:=0
def tw7352860320151950480:=0
def tw17942636417030118991:=0
def tw12147300505633691834:=0
def tw13442432918174916865:=0
def tw7398530885978594817:=0
def tw13332953867845782855:=0
def tw13896068725767078443:=0
def tw17460131367296798863:=0
def tw528537992775097087:=0
def tw9374555327819736262:=0
def tw9150343000392183717:=0
def tw12347320229183654798:=0
def tw13982182890138100731:=0
def tw4270748813994965584:=0
def tw11665822393486400491:=0
def tw11956472818354029944:=0
def tw6106580757681733246:=0
def tw16818647267949014896:=0
def tw2851171506909438573:=0
def tw4096776389539215996:=0
def tw13929423650077328380:=0
def tw7414808048337819561:=0
def tw6086604470540450947:=0
def tw14793135193080543395:=0
def tw11958744954540766745:=0
def tw5758382803127302138:=0
def tw3490273063068407220:=0
def tw17696095539586144720:=0
def tw7093968536925963359:=0
def tw14828851931433850209:=0
def tw16370535075328540346:=0
def tw3463809218485151750:=0
def tw10568564877448085742:=0
def tw9402899658144011638:=0
def tw2403967187349623031:=0
def tw9784721099241329249:=0
def tw1017801954505698089:=0
def tw12367288538075164564:=0
def tw14316153627562456264:=0
def tw10996890037294530876:=0
def tw8424041114285652182:=0
def tw617564042840535290:=0
def tw1793013209184887556:=0
def tw8340685652495178563:=0
def tw7397074397137014408:=0
def tw2031847789991755761:=0
def tw5932900739627263073:=0
def tw5180589086621719581:=0
def tw16441939463068032245:=0
def tw12567406190912650697:=0
def tw54042648525307055:=0
def tw2483531286161697183:=0
def tw1733828333092883558:=0
def tw12017410186875097601:=0
def tw7293256483236257396:=0
def tw711143106268630429:=0
def tw15141544722542136306:=0
def tw17322679042279858662:=0
def tw11240587988368159103:=0
def tw17507362925072872930:=0
def tw4822742987884400536:=0
def tw12475226064661271428:=0
def tw774562976259061436:=0
def tw8753323966460853840:=0
def tw5358134620834436280:=0
def tw3506088644193796591:=0
def tw10208985287520106625:=0
def tw16030476042198289078:=0
def tw12414773263493446591:=0
def tw9516093699615351475:=0
def tw313117577772194942:=0
def tw5848261982913072068:=0
def tw7871584485202502559:=0
def tw26818007650324551:=0
def tw17389670526506022213:=0
def tw3350064598393513856:=0
def tw4317141492725194721:=0
def tw3602859414539175613:=0
def tw9281602193230399655:=0
def tw4119510215096660710:=0
def tw17143804166281158308:=0
def tw5275384460860300541:=0
def tw9519255354145514194:=0
def tw9084950409250210304:=0
def tw16685849995579889917:=0
def tw12978493039500286684:=0
def tw1915043432682315838:=0
def tw10074936177736473919:=0
def tw17621845029288562687:=0
def tw12800020281725704585:=0
def tw14946989145360732791:=0
def tw17162359430376373949:=0
def tw13367962568761786758:=0
def tw936989891825454202:=0
def tw15652314719387588499:=0
def tw3712292508912221948:=0
def tw6161865399945008076:=0
def tw13166514410268369595:=0
def tw14207688776539435507:=0
def tw15103597853372188911:=0
def tw8082996483689845049:=0
def tw12604815461631360021:=0
def tw18317506639931262657:=0
def tw13618044121427898591:=0
def tw14048805074509388291:=0
def tw1084877649121512635:=0
def tw9854595575297266307:=0
def tw18021968648990526500:=0
def tw303411379483363450:=0
def tw16164214544680424578:=0
def tw4725337308634810368:=0
def tw12045631438254052793:=0
def tw4324594441538145148:=0
def tw10681322203711828376:=0
def tw6440425164747664029:=0
def tw5039302327792487395:=0
def tw150617663683568595:=0
def tw7471805126927230217:=0
def tw17105229456414272382:=0
def tw14477525880968413827:=0
def tw7800811909789363627:=0
def tw18240991748524788370:=0
def tw16062113426090364789:=0
def tw14168328003623233477:=0
def tw9580449207657852163:=0
def tw735782112606793448:=0
def tw16216787897581243152:=0
def tw1388112381454634953:=0
def tw2411794491865757350:=0
def tw735557666285770915:=0
def tw142357867721461288:=0
def tw11955980841443139598:=0
def tw1146125081405220113:=0
def tw17708734629365666560:=0
def tw14250238293882532403:=0
def tw13006515419144414007:=0
def tw14948239471432838854:=0
def tw18209500274571180760:=0
def tw15743888332222793799:=0
def tw7887160052556604708:=0
def tw16451612811756347843:=0
def tw13781001912845611801:=0
def tw9419875771594557011:=0
def tw6394098621800032238:=0
def tw4585032470840400909:=0
def tw16534302868312489911:=0
def tw9064989651373173726:=0
def tw13122874746841991726:=0
def tw15702192732825642640:=0
def tw17456504774011018102:=0
def tw9787683040772464950:=0
def tw4542950673195952686:=0
def tw3539958997442575662:=0
def tw1572769575184261918:=0
def tw13004708334597340244:=0
def tw12773633110125190320:=0
def tw9815619784193812202:=0
def tw8977757397404785603:=0
def tw17614403407991922719:=0
def tw5950765763702391536:=0
def tw9310621540278613927:=0
def tw3962808180611993305:=0
def tw15485576639246236049:=0
def tw4630433998494047516:=0
def tw3721731597127765693:=0
def tw5237071823550074987:=0
def tw8608864428896688613:=0
def tw17923185896246013012:=0
def tw16851021533486117427:=0
def tw16146989892226115436:=0
def tw11813055666749983231:=0
def tw15750169349810821619:=0
def tw17283053951240895536:=0
def tw14142857074270122764:=0
def tw11217340240879278859:=0
def tw9072391611665532751:=0
def tw4346846118251436601:=0
def tw7584954985854481792:=0
def tw419699853080140130:=0
def tw2262962966034632582:=0
def tw13376873954062611045:=0
def tw10955961331805082425:=0
def tw934522066878162996:=0
def tw3957895546657888208:=0
def tw2312812166004594750:=0
end PySem.W.Fast
open PySem PySem.W PyProof.Rows
set_option maxRecDepth 100000 in
set_option maxHeartbeats 0 in
theorem PySem.Challenge.cw_barsplit_k37_ways_refused_holds : PySem.Challenge.rw_barsplit_k37_ways_refused.Holds := by
 w_on;o_law;k_head;(case hw=>w_witness2)
 k_fill
 refine L2.ER (l:=RK) (n:=63) (k:=13) (x:="_law_script") (CX:=L2.uR) (sp:=λK=>DL.u6 K 1 DL.Zi) rfl ⋯ rfl ⟨rfl,by decide,by decide⟩ (λw h Y=>PySem.W.kIn_of Y) ?F ?S ?C
 case S=>exact λK H a ns U hO hS=>DL.Fo hS (DL.GY ns U)
 case C=>exact λ_ _ _ _ z=>z
 case F=>
  intro w mg fa h I G a2;have O:DL.WE (L2.p8 I)=dj:=by kernel_rfl
  have a7:DL.XI (L2.p8 I) mg "NoArrow":=DL.Ly I G O ⋯;have a8:DL.XI (L2.p8 I) mg "NoLine":=DL.Ly I G O ⋯;have a9:DL.XI (L2.p8 I) mg "NoPrime":=DL.Ly I G O ⋯;have aa:DL.XI (L2.p8 I) mg "NoRoom":=DL.Ly I G O ⋯;have ab:DL.XI (L2.p8 I) mg "NoRow":=DL.Ly I G O ⋯;have ac:DL.XI (L2.p8 I) mg "NoTable":=DL.Ly I G O ⋯;have ae:DL.XI (L2.p8 I) mg "NoText":=DL.Ly I G O ⋯;have ak:DL.XI (L2.p8 I) mg "NoTurn":=DL.Ly I G O ⋯;have am:DL.XI (L2.p8 I) mg "NoWidths":=DL.Ly I G O ⋯;have an:DL.XI (L2.p8 I) mg "Nothing":=DL.Ly I G O ⋯;have ap:DL.XI (L2.p8 I) mg "Nought":=DL.Ly I G O ⋯;have as:DL.XS (L2.p8 I) mg:=DL.Lx I G (by kernel_rfl);have ax:DL.XI (L2.p8 I) mg "TooMany":=DL.Ly I G O ⋯;have b0:DL.XI (L2.p8 I) mg "Unlike":=DL.Ly I G O ⋯;have b9:DL.XC (L2.p8 I) mg "TooMany":=DL.Lz I G O ⋯ (by kernel_rfl);have bb:DL.XC (L2.p8 I) mg "Unlike":=DL.Lz I G O ⋯ (by kernel_rfl);have bd:DL.GL (L2.p8 I) mg "MOST_NUMBERS" (.int 60):=by
   dsimp only[L2.p8];refine' DL.IP I G ?a
   (case a=>k_is)
  have E:DL.E0 (L2.p8 I) mg:=by
   constructor
   all_goals first
    |assumption
    |exact PySem.W.mg_none_of I G (by k_is)
    |(dsimp only[L2.p8];refine' DL.IV I G ?a ?l ?c ?k ?b;(case a=>k_is);(case l=>k_is);(case c=>k_is);(case k=>k_is);(case b=>intro _ _ _ _ _ _ us U;first|(obtain⟨_,rfl⟩:=DL.Mb U;rfl)|(obtain⟨_,_,rfl⟩:=DL.Ma U;rfl)|(obtain⟨_,_,_,rfl⟩:=DL.Mz U;rfl)|(obtain⟨_,_,_,_,rfl⟩:=DL.My U;rfl)|(obtain⟨_,_,_,_,_,rfl⟩:=DL.Mx U;rfl)))
  obtain⟨f,fd,Fu,hb,hm⟩:=E._Z.ex;have e0:=a2.symm.trans hm;cases e0;refine⟨fd,λs u=>.of_eq (hb [u] rfl),λbase kb nb=>?_⟩;exact DL.IL Fu E
