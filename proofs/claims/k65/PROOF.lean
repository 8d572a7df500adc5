import PyProof.Rows.All
import Wide.All
import OpenK.ZHead
import KE.KEqDict
import KE.KFromBytes
import Wide.FinOn
import KE.KItemsList
import KE.KIsAll
import KE.KSortTup
import KE.KTryDeep
import KE.KRevIter
import KE.KDictOf
import KE.KIntText
import PySem.Challenge.RW_barsplit_k65_what_a_desk_tells_of_a_row
section
open Lean
local macro_rules|`(#check $_)=>do
 let mut a:=#[]
 for(s,l)in[("env",[41]),("heap",[39,46,1193]),("o",List.range' 43 1150),("sts",[49,64,79,94,109,124,139,154,169,184,199,214,236,258,307,385,464,541,622,659,688,736,811,890,965,1014,1066,1123]),("tree",[47,63,78,93,108,123,138,153,168,183,198,213,235,257,306,384,463,540,621,658,687,735,810,889,964,1011,1065,1122,1192]),("view",[39])]do
  for i in l do a:=a.push (←`(command|noncomputable def $(mkIdent (.str `PySem.W.Fast s!"tw{(Name.mkStr `hd0 s!"{s}_{i}").hash}")):ident:=0))
 return mkNullNode a
#check 0
end
def PySem.W.Fast.tw1933662023710977842:=0
def PySem.W.Fast.tw18293870838424395454:=0
section
set_option Elab.async false
open PySem PySem.W PyProof.Rows
set_option maxRecDepth 100000 in
set_option maxHeartbeats 0 in
open_top hd0 for PySem.Challenge.rw_barsplit_k65_what_a_desk_tells_of_a_row
end
open Classical renaming byContradiction->dj,axiomOfChoice->R4
open PySem.W renaming Frag->cL,findIn->g0,kia_one->l9,keepIn->lK,fnOf->mW,kitOne->oy,mg_of->oV,mroIn->pw,nsIn->o6,kia_tup->sC,codeIn->sL,plainGet->zv,callWith_K->DG,isFn->tW,kitx_dict->DI,hasDictIn->DC,emptyDict->DD,clsIn->vk,typeIn->A5,hideAll_get->Ml,instObj->D1,cellsFrom_some->R6,specialIn->LQ,plainOver->L0,Looks->DU,makesIn->LO,kitx_list->S2,findCls->Sh,lookIn->Sn,plainGet_of->_g,tail_of_in->Y',of_hideAll->Y_,kitx_tuple->Z',kitx_none->_A,kitx_bool->_B,kitx_str->_J,kitx_int->_K,any_some->_L,Looks->sT,clsIn->s9,findIn->uD,looks_findIn->uQ,looks_clsIn->i_,looks_mroIn->j'
open PySem renaming wpAny_bind->cS,wpAny_pure->d7,wpAny_mono->fU,wpAny_holding->m7,wpAny_Call_Name_kw->pk,wpAny_field->l7,wpAny_newObj_type->p9,wpAny_callSpecial?_slot->va,wpAny_setField_rec->sa,wpAny_truthy_bool->sf,wpAny_call_entry->sy,wpAny_loadPart_at->tY,sizeLine_eq->oo,wpAny_loadPart'->DO,wpAny_seqItems->tQ,codeAny_call_builtin->DE,call_meets->o5,wpAny_passesOwn->A6,wpAny_execs_nil->A7,codeAny_mono->t9,wpAny_call->q0,wpAny_attempt->v7,mem_of_lookup->Mr,Builtin->zeq,wpAny_standAt->A1,wpAny_getItem_str_slice->R3,strLen_append->A2,wpAny_typeOf->z4,wpAny_execs_cons->M0,Within->D6,intText?->M1,wpAny_rule->w4,wpAny_of_eq->B3,pushCells_keeps->M4,wpAny_pyIter_tuple->Sg,typeIs_str->B0,post_val_or_str->Um,wpAny_updateSeq_pair->_I,wpAny_newTuple->T1,wpAny_Expr_any->T2,wpAny_letGo->M5,wpAny_onRaise->T8,wpAny_newList->T9,wpAny_pyIter_list->_r,typeIs_int->M7,strKind_is->M8,slot_list_getitem->_s,plainObj_wpAny_Assign_Attribute->zgV,concat_meets->Ug,wpAny_Try_except->_u,noFill_tuple_add->_v,Addr->cI,Value->da,model->dq,eval->dv,Shared->dy,Expr->dE,starEach->dU,Heap->dV,Pos->eg,sizeLine->ej,Stmt->en,World->eu,Program->eA,Scope->e9,FuncData->gv,Obj->gB,backTo->gE,mainGlobals->gF,Env->hH,Around->hO,Sem->ip,compareOp->i3,Tok->mr,holding->my,foldedSetIterable->m3,swapsWith->ni,behindInMarks->nv,IsPair->n8,binaryOp->ot,standAt->oS,cellsFrom->pg,NameKind->pC,assignEach->pE,attributeBase->pF,backToKw->pG,bootBuiltins->pH,relabel->pQ,sysModules->pR,IsPart->rk,Keyword->rn,assign->rx,bindArgs->rz,getItem->rG,ExceptHandler->sQ,cLine->s8,IsEnum->ur,callerA->uB,getMethod->uH,isTrue->uK,pushCells->u3,sliceBounds->u4,strIterType->u5,IsZip->xg,bindC->yr,bindL->yy,pyNext->zd,Meets->B7,PassesOwn->C0,atKey->C6,callWith->C8,letOwnedTupleGo->Df,setFlight->Dl,truthy->Dt,typeLookup->Dv,typeOf->Dw,valueAt->Dy,BindsTo->D8,GenState->D9,excClassObj->Fx,getAttr->FG,hashStr->FI,leaving->FL,pyIter->F7,swapsWithSole->Gx,DictEntry->N5,OsState->N9,boundAndCalled->O4,getAttr?->O9,lastMarks->PM,noteFrame->P6,ownMembersOf->P7,setAttr->P9,setField->Rn,setItem->Rw,slicePick->RF,spliced->RG,subscripted->RI,swappedStores->RJ,builtinsNs->UN,checkBuiltinCall->U0,entryPlaceOf->U4,interactive->XP,isInstance->YP,recursionLimit->n_,seqIndex_neg->p',seqIndex_of->p_,seq_tuple_add->q_,tupleKind->C_,wpAny_Name->D_,wpAny_mkText->E',builtinLookup_eq_fast->U?,codeAny_builtin->X?,getattributeRaised->zhN,tupleKind_room_in1->zkO,underTheClaimsCaller->zlb,wpAny_Assign_Name->zlp,wpAny_Return_some->zlq,wpAny_Tuple_spliced->zlr,wpAny_assign_Name->zls,wpAny_binaryOp_repeat_ref->zlt,wpAny_getItem_list_slice->zlu,wpAny_isSubtype_exc->zlv,wpAny_isTrue_Compare1->zlw,wpAny_letOwnedTupleGo_enum->zlx,wpAny_pyNext_enum_endD->zly,wpAny_pyNext_enum_itemD->zlz,wpAny_raiseNew_none->zlA
open List renaming range->cT,replicate->d5,getElem?_eq_getElem->eW,mem_range->ed,getElem?_set_ne->fW,getD_eq_getElem?_getD->hB,mem_cons_of_mem->gy,mem_cons->eL,mem_cons_self->gH,getElem?_eq_some_iff->kG,size_toArray->gN,mem_map->fx,length_map->gr,getElem?_set_self->mV,mem_append_right->mU,map_congr_left->ll,map_map->gj,not_mem_nil->lp,getElem?_append_left->o3,getElem?_append_right->pv,length_append->n3,mem_of_getElem?->oA,getElem?_map->n4,length_cons->nK,map_cons->mc,mem_singleton->oE,mem_filter->nN,eq_nil_of_length_eq_zero->ve,all_eq_true->om,mem_append->n5,map_append->n6,countP_eq_length_filter->u9,length_range->pq,getElem?_eq_none->tN,nodup_cons->pU,take_of_length_le->zz,countP_congr->tX,range_succ->sD,filterMap_cons_some->DN,lookup_cons->t4,getElem?_cons_zero->DP,pairwise_iff_getElem->I0,drop_eq_getElem_cons->I7,find?_cons->vl,filterMap_cons_none->I8,ext_getElem?->zt,getElem?_cons_succ->I9,zip_cons_cons->DH,length_singleton->H8,length_nil->zp,length_filter_le->H9,Pairwise->zd9,zip_map'->A8,nil_append->D2,getElem?_replicate->R7,countP_map->D3,all_cons->A9,pairwise_lt_range->R0,drop_eq_nil_of_le->R1,pairwise_map->L1,range_add->DT,length_take->L4,length_drop->L5,getElem_mem->L6,drop_length->L7,cons_append->L8,lookup->z5,length->z8,filter_sublist->Sv,countP_eq_zero->S0,append_nil->MZ,toArray->D7,mem_filterMap->S3,filter_append->S4,reverse_cons->S7,getElem?_set->S8,any_eq_false->S9,nodup_range->Si,mem_nil_iff->Sj,any_eq_true->Sl,find?_cons_of_neg->_d,filter_eq_nil_iff->_e,set_set->ML,any_map->MR,range_eq_range'->W_,mem_append_left->X',getElem?_of_mem->X_,replicate_succ->_w,getElem_of_mem->_x,getElem?_range->_y,filterMap_cons->_z,set_cons_zero->_G,set_cons_succ->_H,length_eq_countP_add_countP->zgz,map_nil->T4
open PySem.Heap renaming get?_push_of_some->eo,lt_size->ft,get?_push_size->ir,size_push->nc,get?_update_other->qs,push->il,get?_update_self->zP,FlyingW->px,get?_update_ne->DF,SameBut->tP,get?_push_ne->D0,get?_none_of_le->RY,size_update->Sm
open Option renaming bind_some->eK,isSome_iff_exists->qd,some->zcI,map->oh,map_some->t5,bind->tR,getD_some->Sa,some->aF,none->aT
open Nat renaming le_refl->ec,lt_or_ge->fY,le_trans->fZ,lt_of_lt_of_le->i9,ne_of_lt->gq,le_add_right->nM,lt_succ_of_lt->oj,lt_irrefl->m6,add_sub_cancel_left->sh,not_lt_zero->oi,zero_le->l6,lt_succ_self->o1,ne_of_gt->pz,le_succ->uc,exists_eq_add_of_le->RZ,zero_add->A4,le_succ_of_le->Sb,min_eq_left->So,le_of_eq->Ms,sub_succ_lt_self->Z_,mul_le_mul_left->_C,add_lt_add_left->_D,add_assoc->Up,lt_trichotomy->_l,le_of_lt->T6,add_zero->T7
open Bool renaming and_eq_true->fS,false_ne_true->iu,false_eq_true->tL,or_eq_true->sE,not_eq_true'->vv,eq_iff_iff->vr,true->aG,false->bB
open PySem.Challenge renaming rw_barsplit_k65_what_a_desk_tells_of_a_row->r9
open Int renaming mul_emod->eG,emod_lt_of_pos->m9,add_emod->ix,emod_nonneg->mZ,emod_emod->kR,mul_comm->nj,toNat_of_nonneg->tG,emod_eq_of_lt->sd,mul_assoc->oX,sub_emod->o7,emod_eq_emod_iff_emod_sub_eq_zero->RX,mul_zero->sm,eq_ofNat_of_zero_le->K2,add_zero->wh,toNat_natCast->L3,mul_left_comm->Se,mul_one->D4,mul_add->D5,zero_mul->MJ,one_mul->M9,add_mul->Nj,min_le_right->_o
open Ne renaming symm->ew
open PySem.Str renaming ofString->hG,join->ng,empty->o4
open Option.some renaming inj->l8
open PySem.Calls renaming spliced_cons->oC,spliced_nil->vu,callWith_builtin->_c,Constant_str->_E
open PyProof.Rows renaming callWith_type1->u7,slot_tuple_getitem->DB,callWith_builtin1->Ht,boot_isinstance->RQ,listUpdate_at->A3,boot_int->_i,slot_tupleiter_next->S6,tupleItemsOf_->MY,get?_update_seq->Uo,joinParts_cons->T3,seqEpoch_at->M6,seqObj->fD,AllBare->pA,Call_->xb,IsTup->B5,IntsAre->E2,envOfC->E9,Subscript_->Oy,size_push'->Rx,boot_enumerate->UM,args_tuple_getitem->Q?,args_tupleiter_next->R?,entry_tupleiter_next->zhj,formatField_int_small->zhy,subscriptTail_builtinR->zky
open PySem.SeqAt renaming EqAt->m8
open PySem.Obj renaming mapSeq->ky,data_mapFields->_M
open PySem.Value renaming none->lC,ref->nq,type->t7,int->B1
open Array renaming length_toList->sj,getElem?_setIfInBounds->K3,getD_eq_getD_getElem?->U_
open PySem.NameKind renaming free->oz,cell->M3
open True renaming intro->mY
open PySem.Builtin.Str renaming occurrences->DM,strSliceIndices->RW
open PySem.F renaming store_ValueError->zr,slot_enumerate_next->L9,attr_ValueError->R5,slot_list_getattribute->R8,excBase_ValueError->U',slot_tuple_mul->LP,args_tuple_add_2->_h,entry_tuple_add->_j,slot_tuple_add->_a,plainAttrs_str->_b,slot_zip_next->Uh,slot_int_rmul->Uk,args_tuple_mul_2->_m,args_str_split_2->_n,entry_tuple_mul->_p,entry_str_split->_q,slot_str_split->_t
open PySem.PyData renaming depth->sk,eqv->t6,canLay0->DR,eqvAll->Ul,canLayAll0->_F
open PySem.Builtin.SmallTypes renaming nextOf->RR,ownedTupleIsFree->S_,ownedTupleHandOut->zfe,ownedTupleFields->zfh
open Sum renaming inl->nf
open PySem.SeqAt.EqAt renaming int_int->Mq
open False renaming elim->t8
open PySem.Txt renaming slice->sP,split->wy,slice_le->T5
open PySem.Builtin.Slice renaming slicePlaces->V',sliceAdjust->V_
open List.Pairwise renaming imp_of_mem->T',filter->_k
open PySem.Builtin.List renaming listTooLong->T_
open Function renaming comp_def->S1,comp->R9
open PySem.Code renaming quiet_builtin->S5
open ForInStep renaming yield->Sf
set_option hygiene false
local macro_rules|`(tactic|simp?[$a,*]$[$l:location]?)=>`(tactic|simp only[$a,*]$[$l:location]?)
local macro_rules|`(↥$x)=>`(($x).heap.objs.size)
local macro_rules|`(⇑$x)=>if x.raw.getId==`X then `(wpAny (dq X.prog X.w) X.A)else `($x X.prog X.w X.K X.mg X.base)
local macro_rules|`(↑$x)=>`($x P w K mg base)
local macro_rules|`(tactic|erw[$[$a:rwRule],*]$[$l:location]?)=>let b:=a.map (⟨·.raw[1]⟩);`(tactic|unfold $[$b:ident]* $[$l:location]?)
local macro_rules|`(~~~$x)=>`(by simpa using $x)
local macro_rules|`(⋯)=>`(X.env)
local macro_rules|`(tactic|show $e)=>`(tactic|refine $e)
local macro_rules|`(tactic|exists $e)=>`(tactic|exact $e)|`(tactic|exists $e,$f,*)=>`(tactic|(refine ze $e ?_;exists $f,*))
set_option hygiene true
local macro_rules|`(($a,$b,*))=>`(⟨$a,$b,*⟩)
local macro_rules|`(tactic|let $p:term$[:$t]?:=$e)=>do
 let f s:=Lean.mkNode ``Lean.Parser.Tactic.rcasesPatMed #[Lean.mkNullNode #[if s.isIdent then Lean.mkNode ``Lean.Parser.Tactic.rcasesPat.one #[s]else if s.isOfKind ``Lean.Parser.Term.hole then Lean.mkNode ``Lean.Parser.Tactic.rcasesPat.ignore #[s[0]]else s]]
 let q:=p.raw.rewriteBottomUp λs=>if s.isOfKind ``Lean.Parser.Term.tuple then Lean.mkNode ``Lean.Parser.Tactic.rcasesPat.tuple #[Lean.mkAtom "⟨",Lean.mkNullNode (Array.map (λe=>if e.isAtom then e else Lean.mkNode ``Lean.Parser.Tactic.rcasesPatLo #[f e,Lean.mkNullNode]) (#[s[1][0],s[1][1]]++s[1][2].getArgs)),Lean.mkAtom "⟩"]else s
 `(tactic|obtain $(⟨f q⟩):rcasesPatMed $[:$t]?:=$e)
local macro_rules|`(()) => `(by first|decide +kernel|lia|omega|simp)
set_option autoImplicit true
set_option compiler.extract_closed false
set_option bootstrap.genMatcherCode false
set_option tactic.hygienic false
set_option Elab.async false
set_option linter.all false
set_option maxRecDepth 100000
set_option maxHeartbeats 4000000
noncomputable section
local macro_rules(kind:=Lean.Parser.Command.declaration)|s=>if s.getPos?.isNone then Lean.Macro.throwUnsupported else let t:=s.rewriteBottomUp λ|.ident _ r v p=>.ident .none r v p|.atom _ v=>.atom .none v|.node _ k a=>.node .none k a|s=>s;return if t[1].isOfKind ``Lean.Parser.Command.definition&&t[0][4].isNone then t.setArg 0 (t[0].setArg 4 (.node .none `null #[.node .none ``Lean.Parser.Command.noncomputable #[.atom .none "noncomputable"]]))else t
namespace Lake
abbrev zn:=@List
abbrev xz:=@Option
abbrev EQ:=PySem.Value->PySem.Shared->Prop
abbrev TW:=zn (PySem.Addr×PySem.Obj)
abbrev DQ:=Nat->Nat->Nat->Int
abbrev DW:=Nat->Nat->Int
abbrev DV:=Nat->Bool
abbrev DX:=Nat->Nat
abbrev DZ:=PySem.Str->xz PySem.Value
theorem DJ{c:Prop}{h:Decidable c}(z:c){α}{a b:α}:ite c a b=a:=if_pos z
theorem DY{c:Prop}{h:Decidable c}(z:¬c){α}{a b:α}:ite c a b=b:=if_neg z
namespace L2
open PySem PySem.Spec PyProof.Rows
abbrev Key:=Sum Int Str
def pd:Key->da->Bool
 |.inl k,v=>Value.isInt k v
 |.inr x,v=>Value.isStrOf x v
def zbd(w:eu):Key->Int
 |.inl k=>hashInt k
 |.inr x=>FI w x
theorem qt:∀{k:Key} {v:da},pd k v=aG->(∃i t,k=nf i/\v=B1 i t)\/(∃x t,k=Sum.inr x/\v=Value.str x t)
 |.inl i,v,h=>by let(t,e):=Value.isInt_shape h;show .inl (i,t,rfl,e)
 |.inr x,v,h=>by let(t,e):=Value.isStrOf_shape h;show .inr (x,t,rfl,e)
theorem zk2(i:Int)(t:mr):pd (.inl i) (.int i t)=aG:=by simp[pd,Value.isInt]
theorem zk1(x:Str)(t:mr):pd (.inr x) (.str x t)=aG:=by simp[pd,Value.isStrOf]
theorem OK(a b:Int):decide ((nf a:Key)=nf b)=(a==b):=()
theorem OH(a b:Str):decide ((Sum.inr a:Key)=Sum.inr b)=decide (a=b):=()
theorem OJ(a:Int)(b:Str):decide ((nf a)=Sum.inr b)=bB:=decide_eq_false<|λq=>nomatch q
theorem OI(a:Str)(b:Int):decide ((Sum.inr a)=nf b)=bB:=decide_eq_false<|λq=>nomatch q
def kK(prog:eA)(w:eu):PySem.KeyKind prog w Key where
 is:=pd
 hash:=zbd w
 inj:=λv a b ha hb=>by
  rcases qt ha with⟨i,t,rfl,rfl⟩|⟨x,t,rfl,rfl⟩
  .rcases qt hb with⟨j,u,rfl,e⟩|⟨y,u,rfl,e⟩
   .injection e with e1 _;rw[e1]
   .exact nomatch e
  .rcases qt hb with⟨j,u,rfl,e⟩|⟨y,u,rfl,e⟩
   .exact nomatch e
   .injection e with e1 _;rw[e1]
 byValue:=λk v h=>by rcases qt h with⟨i,t,rfl,rfl⟩|⟨x,t,rfl,rfl⟩<;>rfl
 pyHash:=λz h=>by
  rcases qt z with⟨i,t,rfl,rfl⟩|⟨x,t,rfl,rfl⟩
  .exact wpAny_pyHash_int h
  .exact wpAny_pyHash_str h
 eqBool:=λI z h=>by
  rcases qt I with⟨i,t,rfl,rfl⟩|⟨x,t,rfl,rfl⟩
  .rcases qt z with⟨j,u,rfl,rfl⟩|⟨y,u,rfl,rfl⟩
   .rw[OK]at h;show wpAny_eqBool_int h
   .rw[OJ]at h;show m8.int_str i t y u _ _ _ _ h
  .rcases qt z with⟨j,u,rfl,rfl⟩|⟨y,u,rfl,rfl⟩
   .rw[OI]at h;show m8.str_int x t j u _ _ _ _ h
   .rw[OH]at h;show wpAny_eqBool_str h
 «strs» :=λk x t v h=>by
  rcases qt h with⟨i,u,rfl,e⟩|⟨y,u,rfl,e⟩
  .exact nomatch e
  .injection e with e1 _
   subst e1;cases v<;>rfl
theorem zhM(prog:eA)(w:eu)(i:Int)(t:mr):(kK prog w).is (.inl i) (.int i t)=aG:=zk2 i t
theorem zhL(prog:eA)(w:eu)(x:Str)(t:mr):(kK prog w).is (.inr x) (.str x t)=aG:=zk1 x t
inductive V where
 |dw|bl (b:Bool)|int (i:Int)|str (x:Str)|oL (b:Array UInt8)|uG (b:UInt64)|ref (a:cI)|ty (n:String)
 deriving DecidableEq
def RelV:V->da->Prop
 |.dw,u=>u=lC
 |.bl b,u=>u=Value.bool b
 |.int i,u=>∃t,u=B1 i t
 |.str x,u=>∃t,u=Value.str x t
 |.oL b,u=>∃t,u=Value.bytes b t
 |.uG b,u=>∃t,u=Value.float b t
 |.ref a,u=>u=nq a
 |.ty n,u=>u=t7 n
abbrev d8:zn V->zn da->Prop:=Paired RelV
theorem d8.length(r:d8 xs us):xs.length=us.length:=Paired.length r
theorem d8.get:∀{xs:zn V} {z:zn da} {i:Nat} {x:V},d8 xs z->xs[i]? = aF x->∃u,z[i]? = aF u/\RelV x u
 |_,_,_,_,.nil,e=>by simp at e
 |_,_,0,_,.cons r _,e=>by simp at e;subst e;show(_,rfl,r)
 |_,_,i+1,x,.cons _ t,e=>by let(u,a,b):=d8.get t (~~~e);show(u,~~~a,b)
theorem d8.set(r:RelV x u):∀{xs:zn V} {e:zn da} i,d8 xs e->d8 (xs.set i x) (e.set i u)
 |_,_,_,.nil=>.nil
 |_,_,0,.cons _ t=>.cons r t
 |_,_,i+1,.cons q t=>.cons q (d8.set r i t)
theorem d8.append(h:d8 xs us)(s:d8 ys ws):d8 (xs++ys) (us++ws):=by
 induction h with
 |nil=>show s
 |cons r t y=>show .cons r y
theorem d8.take:∀{xs:zn V} {e:zn da} n,d8 xs e->d8 (xs.take n) (e.take n)
 |_,_,0,_=>.nil
 |_,_,_+1,.nil=>.nil
 |_,_,n+1,.cons r t=>.cons r (d8.take n t)
theorem d8.drop:∀{xs:zn V} {e:zn da} n,d8 xs e->d8 (xs.drop n) (e.drop n)
 |_,_,0,r=>r
 |_,_,_+1,.nil=>.nil
 |_,_,n+1,.cons _ t=>d8.drop n t
def nT:xz V->xz da->Prop
 |some v,aF u=>RelV v u
 |none,aT=>True
 |_,_=>False
def KV{e:Type}:zn (e×V)->zn (e×da)->Prop:=Paired λ(p:e×V) (q:e×da)=>p.1=q.1/\RelV p.2 q.2
def kV:Key->V
 |.inl i=>.int i
 |.inr x=>.str x
inductive HO where
 |lst (xs:List V)
 |tup (xs:List V)
 |dK (hL:List (Key×V))|dT (hL:List (List Key×V))
 |set (S:Int->Bool) (n:Nat)
 |ins (C dx:cI) (fs:List (Str×V))
 |own (x:cI)
 |xd (fs:List (Str×V))
 |met (f x:cI)
 |hM (lo hi:Int)
 |ny (o:gB) (u:HO)
 |tE (ps:Array da)
 |ext (φ:dV->Prop)
abbrev Hp:=cI->xz HO
def upd(H:Hp)(a:cI)(o:HO):Hp:=λb=>if b=a then aF o else H b
theorem zA:upd H a o a=aF o:=by erw[upd];rw[DJ rfl]
theorem zC(h:b≠a):upd H a o b=H b:=by erw[upd];rw[DY h]
theorem ZQ{a:cI}{o u:HO}:upd (upd H a o) a u=upd H a u:=by funext b;erw[upd];split<;>rfl
theorem jk{H:Hp}{a b:cI}{o:HO}(h:H a=aF o)(h':H b=aT):a≠b:=()
def pB(h:dV)(a:cI)(e:Array da):Prop:=∃o,h.get? a=aF o/\Prod.mk o.cls o.dict=(t7 "tuple",aT)/\∃n,o.data=.seq e n
theorem pB.new(h:dV)(e:Array da):pB (h.push {cls:=.type "tuple",data:=.seq e}) h.objs.size e:=(_,ir _ rfl,rfl,_,rfl)
theorem pB.tup(x:pB h a items):B5 h a items:=let (o,e,c,r):=x;(o,e,(Prod.mk.inj c).1,r)
section
variable(P:eA)(w:eu)
def i7(H:Hp)(h:dV)(a:cI):HO->Prop
 |.lst d=>d.length<=ej/\∃(y:zn da) (n:Nat),d8 d y/\h.get? a=aF {cls:=.type "list",data:=.seq y.toArray n}
 |.tup d=>d.length<=ej/\∃y:zn da,d8 d y/\pB h a y.toArray
 |.dK b=>b.length<=ej/\(a==pR)=bB/\∃l,KV b l/\h.DictOf (kK P w) a l
 |.dT b=>b.length<=ej/\(a==pR)=bB/\∃d:zn (zn Key×cI×da),
  Paired (λ(p:zn Key×V) (q:zn Key×cI×da)=>p.1=q.1/\H q.2.1=aF (.tup<|p.1.map kV)/\RelV p.2 q.2.2) b d/\
  ∃o i m,h.get? a=aF o/\o.ExactDict/\o.data=.dict i m/\i.toList=d.map (entryOfKey<|tupleKind<|kK P w)/\(d.map (·.1)).Nodup
 |.set S n=>h.SetOf (intKind P w) a S n
 |.ins C e fs=>H e=aF (.own a)/\fs.length<=1000/\e≠a/\h.get? a=aF (D1 C e)/\
  ∃mA,h.Ns1 e mA/\(∀f,nT (fs.lookup f)<|mA f)/\D6 mA (fs.map (·.1))
 |.own _=>∃o,h.get? a=aF o
 |.xd fs=>∃mA,h.Ns1 a mA/\∀f,nT (fs.lookup f)<|mA f
 |.hM lo r=>∃t u v,h.get? a=aF {cls:=.type "range",data:=.fields #[.int lo t,.int r u,.int 1 v]}
 |.ny o u=>h.get? a=aF o/\i7 H h a u
 |.tE s=>h.get? a=aF {cls:=.none,data:=.fields s}
 |.met f x=>h.get? a=aF (PySem.W.methodObj (.ref f)<|.ref x)
 |.ext g=>g h/\(∃o,h.get? a=aF o)/\∀j k:dV,g j->(∀o,j.get? a=aF o->k.get? a=aF o)->g k
def gm(H:Hp)(h:dV):Prop:=∀a o,H a=aF o->i7 P w H h a o
end
section
theorem i7.lt(x:i7 P w H h a o):a<h.objs.size:=by
 cases o with
 |lst d=>let(_,_,_,_,e):=x;show ft e
 |tup d=>let(_,_,_,p):=x;show p.tup.lt
 |dK b=>let(_,_,_,_,o,_,_,e,_):=x;show ft e
 |dT b=>let(_,_,_,_,o,_,_,e,_):=x;show ft e
 |set S n=>let(o,_,_,_,e,_):=x;show ft e
 |ins C g fs=>let(_,_,_,e,_):=x;show ft e
 |own y=>let(_,e):=x;show ft e
 |xd fs=>let(_,(_,_,_,e,_),_):=x;show ft e
 |hM lo i=>let(_,_,_,e):=x;show ft e
 |ny z u=>let(e,_):=x;show ft e
 |tE j=>show ft x
 |met f y=>show ft x
 |ext k=>let(_,(_,e),_):=x;show ft e
theorem Paired.ziu(h:Paired F zik zil)(f:∀a b,F a b->G a b):Paired G zik zil:=by
 induction h with
 |nil=>show .nil
 |cons r t y=>show .cons (f _ _ r) y
theorem i7.og(x:i7 P w H h a o)(k:∀b u,(b=a\/H b=aF (.own a))->h.get? b=aF u->h'.get? b=aF u)
 (O:∀b,H b=aF (.own a)->H' b=aF (.own a)) (Q:∀b xs,H b=aF (.tup xs)->H' b=aF (.tup xs)):i7 P w H' h' a o:=by
 induction o with
 |lst xs=>let(z,J,n,r,e):=x;show(z,J,n,r,k _ _ (.inl rfl) e)
 |tup xs=>let(z,J,r,I,e,c):=x;show(z,J,r,I,k _ _ (.inl rfl) e,c)
 |dK j=>let(z,y,A,r,I,i,g,e,c):=x;show(z,y,A,r,I,i,g,k _ _ (.inl rfl) e,c)
 |dT j=>
  let(z,y,xs,r,I,i,g,e,c):=x;show(z,y,xs,Paired.ziu r λp q z=>(z.1,Q _ _ z.2.1,z.2.2),I,i,g,k _ _ (.inl rfl) e,c)
 |set S n=>let(I,i,g,t,e,c):=x;show(I,i,g,t,k _ _ (.inl rfl) e,c)
 |ins C B fs=>
  let(d,z,s,e,l,(m,i,g,U,c),r):=x;show(O _ d,z,s,k _ _ (.inl rfl) e,l,(m,i,g,k _ _ (.inr d) U,c),r)
 |own y=>let(I,e):=x;show(I,k _ _ (.inl rfl) e)
 |xd fs=>let(l,(m,i,g,e,c),r):=x;show(l,(m,i,g,k _ _ (.inl rfl) e,c),r)
 |hM lo E=>let(t,u,v,e):=x;show(t,u,v,k _ _ (.inl rfl) e)
 |ny I u W=>let(e,q):=x;show(k _ _ (.inl rfl) e,W q)
 |tE F=>
  have e:=x;show k a _ (.inl rfl) e
 |met f y=>
  have e:=x;show k a _ (.inl rfl) e
 |ext G=>let(p,(o,e),st):=x;show(st _ _ p λo q=>k _ _ (.inl rfl) q,(o,k _ _ (.inl rfl) e),st)
theorem gm.lt(x:gm P w H h)(e:H a=aF o):a<h.objs.size:=(x a o e).lt
theorem gm.fresh(x:gm P w H h)(e:h.objs.size<=a):H a=aT:=by
 cases q:H a with
 |none=>rfl
 |some u=>show absurd (i9 (x.lt q) e)<|m6 _
theorem gm.kept(x:gm P w H h)(k:∀b u,h.get? b=aF u->h'.get? b=aF u):gm P w H h':=λa o e=>
 (x a o e).og (λb u _ q=>k b u q) (λ_ q=>q) λ_ _ q=>q
theorem gm.laid(x:gm P w H h)(k:∀b u,h.get? b=aF u->h'.get? b=aF u)(z:h.objs.size<=a)(new:i7 P w (upd H a o) h' a o):gm P w (upd H a o) h':=λb u e=>by
 have f:=x.fresh z;by_cases d:b=a
 .subst d;rw[zA]at e;lia
 .rw[zC d]at e
  show(x b u e).og (λc v _ q=>k c v q) (λc q=>by rw[zC (jk q f)];show q) λc g q=>by rw[zC (jk q f)];show q
end
def Rd(H:Hp)(a:cI)(u:HO):Prop:=H a=aF u\/∃o,H a=aF (.ny o u)
theorem Rd.ok(r:Rd H a u)(x:gm P w H h):i7 P w H h a u:=by
 rcases r with r|⟨o,r⟩
 .exact x a u r
 .let(_,q):=x a _ r
  show q
def B9:xz HO->Prop
 |some (.lst _)=>True
 |some (.dK _)=>True
 |some (.dT _)=>True
 |some (.set _ _)=>True
 |some (.ins _ _ _)=>True
 |some (.ext _)=>True
 |_=>False
section
theorem gm.write(ok:gm P w H h)(I:B9 (H x))(B:e=x\/H e=aF (.own x))(k:∀b u,b≠e->h.get? b=aF u->h'.get? b=aF u)(O:∃u,h'.get? e=aF u)
 (new:i7 P w (upd H x o') h' x o'):gm P w (upd H x o') h':=λb u q=>by
 have Q c y:H c=aF (.own y)->c≠x:=λr z=>by subst z;rw[r]at I;show I
 have U c a:H c=aF (.tup a)->c≠x:=λr z=>by subst z;rw[r]at I;show I
 by_cases d:b=x
 .subst d;rw[zA]at q;lia
 .rw[zC d]at q
  by_cases W:b=e
  .have J:H b=aF (.own x):=by
    lia
   rw[q]at J;cases J;let(v,Y):=O;show(v,by rw[W];show Y)
  .refine(ok b u q).og (λc v f r=>k c v ?_ r) (λc r=>by rw[zC (Q c b r)];show r) λc a r=>by rw[zC (U c a r)];show r
   grind
end
structure Un(fs ex:List cI)(H H':Hp)(h h':dV):Prop where
 keep:∀b o,h.get? b=aF o->H b=aT->b∉fs->b∉ex->h'.get? b=aF o
 slot:∀b o,h.get? b=aF o->H b=aT->b∈fs->b∉ex->∃sl,h'.get? b=aF {o with slots:=sl}
 free:∀b o,h.get? b=aF o->H b=aT->b∉ex->H' b=aT
 there:∀b o,h.get? b=aF o->b∉ex->∃o',h'.get? b=aF o'
 nG:∀b xs,H b=aF (.tup xs)->H' b=aF (.tup xs)
 nW:∀b o u,H b=aF (.ny o u)->H' b=aF (.ny o u)
 nY:∀b ps,H b=aF (.tE ps)->∃more,H' b=aF (.tE<|ps++more)
section
theorem Un.any(u:Un fs ex H H1 h h1)(q:h.get? b=aF ob)(n:H b=aT)(y:b∉ex):∃e,h1.get? b=aF {ob with slots:=e}:=by
 by_cases a:b∈fs
 .exact u.slot b ob q n a y
 .exact(ob.slots,u.keep b ob q n a y)
theorem Un.trans(a:Un fs ex H H1 h h1)(b:Un fs ex H1 H2 h1 h2):Un fs ex H H2 h h2 where
 keep:=λc y q n hc z=>b.keep c y (a.keep c y q n hc z) (a.free c y q n z) hc z
 slot:=λc y q n hc z=>by let(sl,e1):=a.slot c y q n hc z;let(J,I):=b.slot c _ e1 (a.free c y q n z) hc z;show(J,I)
 free:=λc y q n z=>by let(o',e1):=a.there c y q z;show b.free c o' e1 (a.free c y q n z) z
 there:=λc y q z=>by let(o',e1):=a.there c y q z;show b.there c o' e1 z
 nG:=λc xs q=>b.nG c xs<|a.nG c xs q
 nW:=λc y xs q=>b.nW c y xs<|a.nW c y xs q
 nY:=λc ps q=>by let(O,e1):=a.nY c ps q;let(Q,I):=b.nY c _ e1;show(O++Q,by rw[I,Array.append_assoc])
theorem Un.kept(k:∀b u,h.get? b=aF u->h'.get? b=aF u):Un fs ex H H h h':=
 (λb y q _ _ _=>k b y q,λb y q _ _ _=>(y.slots,k b y q),λ_ _ _ n _=>n,λb y q _=>(y,k b y q),λ_ _ q=>q,λ_ _ _ q=>q,λ_ a q=>(#[],by rw[q];simp))
theorem Un.refl:Un fs ex H H h h:=Un.kept λ_ _ q=>q
theorem Un.laid(k:∀b u,h.get? b=aF u->h'.get? b=aF u)(hp:h.objs.size<=a)(hn:H a=aT):Un fs ex H (upd H a o) h h' where
 keep:=λb u q _ _ _=>k b u q
 slot:=λb u q _ _ _=>(u.slots,k b u q)
 free:=λb u q n _=>by rw[zC (gq<|i9 (ft q) hp)];show n
 there:=λb u q _=>(u,k b u q)
 nG:=λb xs q=>by rw[zC (jk q hn)];show q
 nW:=λb u xs q=>by rw[zC (jk q hn)];show q
 nY:=λb ps q=>(#[],by rw[zC (jk q hn),q];simp)
theorem Un.write(y:B9 (H x))(B:e=x\/H e=aF (.own x))(k:∀b u,b≠e->h.get? b=aF u->h'.get? b=aF u)(J:∃u,h'.get? e=aF u):Un fs ex H (upd H x o) h h':=by
 have I b:H b=aT->b≠x:=λn z=>by subst z;rw[n]at y;show y
 have d b:H b=aT->b≠e:=λn z=>by lia
 have a b u:H b=aF u->¬B9 (aF u)->b≠x:=λq nm z=>by lia
 show(λb u q n _ _=>k b u (d b n) q,λb u q n _ _=>(u.slots,k b u (d b n) q),λb u q n _=>by rw[zC (I b n)];show n,λb u q _=>?_,
  λb f q=>by rw[zC (a b _ q λz=>z)];show q,λb u f q=>by rw[zC (a b _ q λz=>z)];show q,λb g q=>(#[],by rw[zC (a b _ q λz=>z),q];simp))
 grind
theorem Un.mono(u:Un fs ex H H1 h h1)(hs:∀b∈fs,b∈fs')(I:∀b∈ex,b∈ex'):Un fs' ex' H H1 h h1:=
 (λb y q n d a=>u.keep b y q n (λz=>d<|hs b z) λz=>a<|I b z,λ_ _ q n _ a=>u.any q n λz=>a<|I _ z,λb y q n a=>u.free b y q n λz=>a<|I b z,λb y q a=>u.there b y q λz=>a<|I b z,u.nG,u.nW,u.nY)
end
def Hn(h:dV)(H:Hp):zn cI:=(cT h.objs.size).filter λa=>(H a).isSome
def Mo(h:dV)(H:Hp):dV:=PySem.W.hideAll h<|Hn h H
theorem Ao(h:dV)(H:Hp):(Mo h H).objs.size=h.objs.size:=PySem.W.hideAll_size _ _
theorem EK(e:h.get? b=aF o)(n:H b=aT):(Mo h H).get? b=aF o:=
 Ml _ e λa=>by have q:=(nN.mp a).2;rw[n]at q;simp at q
theorem IW(e:(Mo h H).get? b=aF o):h.get? b=aF o/\H b=aT:=by
 have y:=Y_ (Hn h H) e;show(y,?_);cases q:H b with
 |none=>rfl
 |some x=>
  have a:b∈Hn h H:=nN.mpr (ed.mpr<|ft y,by simp[q]);have z:(Mo h H).get? b=aT:=PySem.W.hideAll_none (Hn h H) a;lia
def Mc(g h:dV)(L:cI):zn (cI×gB):=(cT h.objs.size).filterMap λa=>if a=L\/(g.get? a).isSome=aG then aT else (h.get? a).map λo=>(a,o)
def rest(g h:dV)(L d:cI):zn (cI×gB):=(Mc g h L).filter λp=>decide<|p.1≠d
structure Mod(K:cL)(mg:DZ)(base:dV):Prop where
 tr:K.In base
 glob:base.Ns gF mg
 blt:∃mb,base.Ns UN mb/\∀x:Str,x ≠ "__name__"->mb x=pH x
 nolimit:base.NoLimit
structure Cx where
 prog:eA
 w:eu
 K:cL
 mg:Str->Option da
 base:dV
 A:hO
 N:List Str
 g8:dy
 uo:Hp
 env:hH
 outer:List hH
 stack:List hH
 ex:List cI
 fn:Str->Bool
 calm:Bool
 pn:List (cI×gB)
 xe:da->dy->Prop
def m4(l:zn hH):zn cI:=l.filterMap (·.frame)
abbrev Cx.fs(X:Cx):zn cI:=m4 X.outer
def E5(e:e9)(x:Str):Prop:=e.names.lookup x=aF .local\/e.names.lookup x=aF .cell\/e.names.lookup x=aF .free
def Loc(e:e9)(x:Str):Prop:=e.names.lookup x=aF .local\/e.names.lookup x=aF .cell
def zbo(env:hH)(h:dV)(m:DZ)(x:Str)(u:da):Prop:=
 (env.kindOf x=aF .local/\m x=aF u)\/((env.kindOf x=aF .cell\/env.kindOf x=aF .free)/\∃c,env.cells.lookup x=aF c/\h.IsCell c (aF u))
structure Cx.Ok(X:Cx):Prop where
 mod:Mod X.K X.mg X.base
 kind:⋯.scope.kind=.function
 glob:⋯.globals=gF
 blt:⋯.builtins=UN
 above:X.g8.heap.objs.size<=⋯.locals
 inj:∀x y c,⋯.cells.lookup x=aF c->⋯.cells.lookup y=aF c->x=y
 has:∀x,(⋯.kindOf x=aF .cell\/⋯.kindOf x=aF .free)->∃c,⋯.cells.lookup x=aF c
 y0:∀x c,X.fn x=aG->⋯.cells.lookup x=aF c->X.g8.heap.objs.size<=c
 hd:X.calm=aG->X.A.handled=aT
 frames:X.A.frames=aF X.stack
 Dm:X.stack=X.outer\/(X.stack=⋯::X.outer/\⋯.frame=aF ⋯.locals)
 Dd:∀b∈X.ex,b≠⋯.locals/\∀x c,⋯.cells.lookup x=aF c->c≠b
 bs:∀b o,X.base.get? b=aF o->X.g8.heap.get? b=aF o/\X.uo b=aT
 oK:X.base.objs.size<=X.g8.heap.objs.size
 y8:∀b o,X.base.get? b=aF o->b∉X.ex
 y7:∀b∈X.ex,b∉X.fs
 nz:X.g8.heap.FunFrames X.base X.outer
 ph:∀b∈X.fs,X.uo b=aT
structure Inv(X:Cx)(pins:TW)(σ:List (Option V))(H:Hp)(s:dy):Prop where
 ok:X.Ok
 os:s.os=X.g8.os
 bare:pA s.gens
 base:Un X.fs X.ex X.uo H X.g8.heap s.heap
 loc:∃m,s.heap.Ns ⋯.locals m/\∀(i:Nat) (x:Str) (v:V),X.N[i]? = aF x->σ[i]? = aF (aF v)->E5 ⋯.scope x->∃u,RelV v u/\zbo ⋯ s.heap m x u
 cell:∀x c,⋯.cells.lookup x=aF c->∃v,s.heap.IsCell c v
 free:H ⋯.locals=aT
 oe:∀x c,⋯.cells.lookup x=aF c->H c=aT
 pin:∀p∈X.pn++pins,s.heap.get? p.1=aF p.2/\H p.1=aT/\p.1≠⋯.locals/\p.1∉X.fs/\∀v,p.2.data ≠ .cell v
 dS:gm X.prog X.w H s.heap
 len:σ.length=X.N.length
section
variable{X:Cx}{pins:TW}{σ:zn (xz V)}{H H':Hp}{s:dy}{h':dV}
theorem Cx.Ok.ziV(ok:X.Ok)(e:X.base.get? b=aF o):b∉X.fs:=λa=>by have:=(ok.nz.mem a).1;lia
theorem Inv.bs(I:Inv X pins σ H s):∀b o,X.base.get? b=aF o->s.heap.get? b=aF o/\H b=aT:=λb o e=>
 (I.base.keep b o (I.ok.bs b o e).1 (I.ok.bs b o e).2 (I.ok.ziV e) (I.ok.y8 b o e),I.base.free b o (I.ok.bs b o e).1 (I.ok.bs b o e).2 (I.ok.y8 b o e))
theorem Inv.bk(I:Inv X pins σ H s):∀b o,X.base.get? b=aF o->s.heap.get? b=aF o:=λb o e=>(I.bs b o e).1
theorem Inv.mod(I:Inv X pins σ H s):Mod X.K X.mg X.base:=I.ok.mod
theorem Inv.eF(I:Inv X pins σ H s):X.K.In s.heap:=I.ok.mod.tr.keeps I.bk
theorem Inv.lt(I:Inv X pins σ H s):⋯.locals<↥s:=let (_,a,_):=I.loc;a.lt
theorem Inv.sz(I:Inv X pins σ H s):X.g8.heap.objs.size<=↥s:=fZ I.ok.above<|T6 I.lt
theorem Inv.ziX(I:Inv X pins σ H s)(h:↥s<=a):a∉X.fs:=λb=>by let(_,o,y,_):=I.ok.nz.mem b;show absurd (i9 (ft y)<|fZ I.sz h)<|m6 _
theorem Inv.rA(I:Inv X pins σ H s):∀x c,⋯.cells.lookup x=aF c->c≠⋯.locals:=λx c e z=>by let(v,o,y,d):=I.cell x c e;let(m,(f,b,a,J,O,_),_):=I.loc;lia
theorem Inv.nz(I:Inv X pins σ H s):s.heap.FunFrames X.base X.outer:=by
 have all:∀l,(∀b∈m4 l,b∈X.fs)->X.g8.heap.FunFrames X.base l->s.heap.FunFrames X.base l:=by
  intro l
  induction l with
  |nil=>intro _ _;trivial
  |cons g r J=>
   intro f O;let(Q,(L,o,d,i,U,h),W):=O;have y:=f L (by erw[m4];rw[_z,d];show gH);let(j,e):=I.base.slot L o U (I.ok.ph L y) y λz=>I.ok.y7 L z y;show(Q,(L,_,d,i,e,h),J (λb a=>f b<|by erw[m4];rw[_z,d];show gy _ a) W)
 show all X.outer (λ_ a=>a) I.ok.nz
theorem Inv.stack(I:Inv X pins σ H s):s.heap.FunFrames X.base X.stack:=by
 rcases I.ok.Dm with e|⟨e,hf⟩
 .rw[e];show I.nz
 .rw[e]
  let(m,a,_):=I.loc;show .cons (by rw[I.ok.kind];decide) hf a ?_ I.nz;show RY<|fZ I.ok.oK I.ok.above
theorem Inv.Dp(I:Inv X pins σ H s):∀b∈m4 X.stack,b∈⋯.locals::X.fs:=λb a=>by
 rcases I.ok.Dm with e|⟨e,hf⟩
 .rw[e]at a;show gy _ a
 .rw[e]at a
  erw[m4]at a;rw[_z,hf]at a;show a
theorem Inv.Dn(I:Inv X pins σ H s):∀b∈m4 X.stack,H b=aT:=λb hb=>by
 rcases eL.mp (I.Dp b hb)with e|hb
 .rw[e];show I.free
 .let(_,o,y,_):=I.ok.nz.mem hb
  show I.base.free b o y (I.ok.ph b hb) λz=>I.ok.y7 b z hb
theorem Inv.step{Y:Array D9}{t':Nat}{d':Drawn}{ch:zn cI}(I:Inv X pins σ H s)
 (O:∀b∈ch,(b∈X.ex\/X.g8.heap.objs.size<=b)/\b≠⋯.locals/\(∀x c,⋯.cells.lookup x=aF c->c≠b)/\∀p∈X.pn++pins,p.1≠b)
 (keep:∀b o,b≠⋯.locals->b∉X.fs->b∉ch->s.heap.get? b=aF o->H b=aT->h'.get? b=aF o)
 (B:∀b o,b≠⋯.locals->b∈X.fs->b∉ch->s.heap.get? b=aF o->H b=aT->∃sl,h'.get? b=aF {o with slots:=sl}) (free:∀b o,b∉ch->s.heap.get? b=aF o->H b=aT->H' b=aT)
 (L:∀b o,b∉ch->s.heap.get? b=aF o->∃o',h'.get? b=aF o')
 (nG:∀b xs,H b=aF (.tup xs)->H' b=aF (.tup xs)) (S:∀b o u,H b=aF (.ny o u)->H' b=aF (.ny o u)) (nY:∀b ps,H b=aF (.tE ps)->∃more,H' b=aF (.tE<|ps++more))
 (ns:∀m,s.heap.Ns ⋯.locals m->h'.Ns ⋯.locals m) (dS:gm X.prog X.w H' h') (hg:pA Y):
 Inv X pins σ H' {s with heap:=h',gens:=Y,drawn:=d',toks:=t'}:=by
 have Z:∀b o,_=aF o->b≠⋯.locals:=λb o e=>gq<|i9 (ft e) I.ok.above;have U:∀b o,_=aF o->b∉X.ex->b∉ch:=λb o e y f=>by
  rcases (O b f).1 with z|z
  .exact y z
  .exact absurd (i9 (ft e) z)<|m6 _
 have h:∀x c,_=aF c->∀v,s.heap.IsCell c v->h'.IsCell c v:=λx c e v G=>by
  let(o,J,g):=G;have Q:=λz=>(O c z).2.2.1 x c e rfl;by_cases j:c∈X.fs
  .let(sl,q):=B c o (I.rA x c e) j Q J (I.oe x c e)
   show(_,q,g)
  .exact(o,keep c o (I.rA x c e) j Q J<|I.oe x c e,g)
 show(I.ok,I.os,hg,(λb o e n f y=>?_,λb o e n f y=>?_,λb o e n y=>?_,λb o e y=>?_,λb xs e=>nG b xs<|I.base.nG b xs e,λb o xs e=>S b o xs<|I.base.nW b o xs e,λb ps e=>?_),?_,λx c e=>?_,?_,λx c e=>?_,λp t=>?_,dS,I.len)
 .exact keep b o (Z b o e) f (U b o e y) (I.base.keep b o e n f y)<|I.base.free b o e n y
 .let(sl,a):=I.base.slot b o e n f y
  let(E,W):=B b _ (Z b o e) f (U b o e y) a<|I.base.free b o e n y;show(E,W)
 .let(o',a):=I.base.there b o e y
  show free b o' (U b o e y) a<|I.base.free b o e n y
 .let(o',a):=I.base.there b o e y
  show L b o' (U b o e y) a
 .let(N,a):=I.base.nY b ps e
  grind
 .let(m,M,K):=I.loc
  show(m,ns m M,λi x v a W F=>?_);let(u,r,l):=K i x v a W F;show(u,r,?_);rcases l with l|⟨k,c,e,z⟩
  .exact .inl l
  .exact .inr (k,c,e,h x c e _ z)
 .let(v,z):=I.cell x c e
  show(v,h x c e v z)
 .let(m,(o,_,_,J,_),_):=I.loc
  show free _ o (λz=>(O _ z).2.1 rfl) J I.free
 .let(v,o,J,g):=I.cell x c e
  show free c o (λz=>(O c z).2.2.1 x c e rfl) J<|I.oe x c e
 .let(e,n,A,C,d):=I.pin p t
  have Q:=λz=>(O p.1 z).2.2.2 p t rfl;show(keep p.1 p.2 A C Q e n,free p.1 p.2 Q e n,A,C,d)
theorem Inv.un(I:Inv X pins σ H s)(u:Un X.fs [] H H' s.heap h')(B:gm X.prog X.w H' h'):Inv X pins σ H' {s with heap:=h',toks:=t'}:=by
 let(m,(o,h,g,y,r),_):=id I.loc;let(k,O):=u.any y I.free ();show I.step (ch:=[]) (λ_ z=>nomatch z) (λb o _ a _ e n=>u.keep b o e n a ()) (λb o _ a _ e n=>u.slot b o e n a ()) (λb o _ e n=>u.free b o e n ()) (λb o _ e=>u.there b o e ()) u.nG u.nW u.nY (λi d=>by let(j,Q,U,J,f):=d;rw[y]at J;cases J;show(_,Q,U,O,f)) B I.bare
theorem Inv.call(I:Inv X pins σ H s)(u:Un (m4 X.stack) ch H H' s.heap h')(B:gm X.prog X.w H' h')(U:pA W)
 (J:∀b∈ch,(b∈X.ex\/X.g8.heap.objs.size<=b)/\b≠⋯.locals/\(∀x c,⋯.cells.lookup x=aF c->c≠b)/\∀p∈X.pn++pins,p.1≠b):
 Inv X pins σ H' {s with heap:=h',gens:=W,drawn:=d',toks:=t'}:=by
 let(m,(o,i,h,O,r),_):=id I.loc;let(l,y):=u.any O I.free λz=>(J _ z).2.1 rfl;show I.step J (λb o y d a e n=>u.keep b o e n (λz=>(eL.mp<|I.Dp b z).elim y d) a) (λb o _ _ a e n=>u.any e n a) (λb o a e n=>u.free b o e n a) (λb o a e=>u.there b o e a) u.nG u.nW u.nY (λj f=>by let(k,Y,Z,Q,g):=f;rw[O]at Q;cases Q;show(_,Y,Z,y,g)) B U
theorem Inv.turned(I:Inv X pins σ H s)(k:∀b o,b≠it->s.heap.get? b=aF o->h'.get? b=aF o)(S:H it=aT)(y:it≠⋯.locals)
 (B:it∈X.ex\/X.g8.heap.objs.size<=it) (L:∀x c,⋯.cells.lookup x=aF c->c≠it) (O:∀p∈X.pn++pins,p.1≠it):Inv X pins σ H {s with heap:=h',toks:=t'}:=by
 show I.step (ch:=[it]) (λb g=>?_) (λb o _ _ a e _=>k b o (λz=>a<|by simp[z]) e) (λb o _ _ a e _=>(o.slots,k b o (λz=>a<|by simp[z]) e)) (λ_ _ _ _ n=>n)
  (λb o a e=>(o,k b o (λz=>a<|by simp[z]) e)) (λ_ _ e=>e) (λ_ _ _ e=>e) (λb i e=>(#[],by rw[e];simp)) (λm h=>?_) (λb u e=>?_) I.bare
 .have e:= ~~~g
  subst e;show(B,y,L,O)
 .let(o,f,d,J,r):=h
  show(o,f,d,k _ o (ew y) J,r)
 .refine(I.dS b u e).og (λc v a q=>k c v ?_ q) (λ_ q=>q) λ_ _ q=>q
  lia
theorem Inv.tok(I:Inv X pins σ H s)(t:Nat):Inv X pins σ H {s with toks:=t}:=I.un Un.refl I.dS
theorem Inv.kept(I:Inv X pins σ H s)(k:∀b u,s.heap.get? b=aF u->h'.get? b=aF u):Inv X pins σ H {s with heap:=h',toks:=t'}:=I.un (Un.kept k)<|I.dS.kept k
theorem Inv.laid(I:Inv X pins σ H s)(k:∀b u,s.heap.get? b=aF u->h'.get? b=aF u)(e:↥s<=a)(new:i7 X.prog X.w (upd H a o) h' a o):
 Inv X pins σ (upd H a o) {s with heap:=h',toks:=t'}:=I.un (Un.laid k e<|I.dS.fresh e)<|I.dS.laid k e new
theorem Inv.write(I:Inv X pins σ H s)(y:B9 (H x))(B:e=x\/H e=aF (.own x))(k:∀b u,b≠e->s.heap.get? b=aF u->h'.get? b=aF u)(z:∃u,h'.get? e=aF u)
 (new:i7 X.prog X.w (upd H x o) h' x o):Inv X pins σ (upd H x o) {s with heap:=h',toks:=t'}:=I.un (Un.write y B k z)<|I.dS.write y B k z new
theorem Inv.F5(I:Inv X pins σ H s)(h:∀p∈y,s.heap.get? p.1=aF p.2/\H p.1=aT/\p.1≠⋯.locals/\p.1∉X.fs/\∀v,p.2.data ≠ .cell v):Inv X y σ H s:=
 (I.ok,I.os,I.bare,I.base,I.loc,I.cell,I.free,I.oe,λp a=>(n5.mp a).elim (λz=>I.pin p<|X' _ z) (h p),I.dS,I.len)
theorem WD{N:zn Str}(y:N.Nodup){i j:Nat}{x:Str}(a:N[i]? = aF x)(b:N[j]? = aF x):i=j:=by let(e,d):=kG.mp a;let(f,z):=kG.mp b;show(List.getElem_inj y).mp (d.trans z.symm)
theorem bc(I:Inv X pins σ H s)(hN:X.N.Nodup)(B:X.N[i]? = aF x)(J:Loc ⋯.scope x)(r:RelV v u)
 (h:∀s',Inv X pins (σ.set i<|some v) H s'->(∃a,tP a s.heap s'.heap/\(a=⋯.locals\/⋯.cells.lookup x=aF a))->Q ⟨⟩ s') (hf:X.fn x=aG\/⋯.scope.names.lookup x=aF .local:=by first|show .inl rfl|show .inr rfl|assumption):wpAny M A (storeName ⋯ x u) Q E s:=by
 let(m,K,hl):=id I.loc;have ad:(⋯.scope.kind ==.class || (⋯.scope.kind ==.module&&⋯.locals != ⋯.globals))=bB:=by rw[I.ok.kind];rfl
 have a6:i<σ.length:=by rw[I.len];show(kG.mp B).1
 have rA:=I.rA;have a7:∀{a:cI} {h':dV},(∃o,s.heap.get? a=aF o/\H a=aT)->tP a s.heap h'->gm X.prog X.w H h':=λ{a h'} ha f b ob e=>by let(_,_,b0):=ha;show(I.dS b ob e).og (λc F l q=>(f.2 c ?_).trans q) (λ_ q=>q) λ_ _ q=>q;lia
 rcases J with W|W
 .refine wpAny_storeName_local W K (λh' am f=>?_) ad
  show dj λkZ=>?_;let(zi9,_,_,ap,_):=id K;show kZ ?_;show h _ (I.ok,I.os,I.bare,(λb o e n t J=>?_,λb o e n t J=>?_,I.base.free,λb o e J=>?_,I.base.nG,I.base.nW,I.base.nY),(_,am,λj y v' g O Z=>?_),λy c e=>?_,I.free,I.oe,λp L=>?_,a7 (zi9,ap,I.free) f,~~~I.len) (_,f,.inl rfl)
  .exact(f.2 b<|gq<|i9 (ft e) I.ok.above).trans (I.base.keep b o e n t J)
  .let(T,g):=I.base.slot b o e n t J
   show(T,(f.2 b<|gq<|i9 (ft e) I.ok.above).trans g)
  .let(R,g):=I.base.there b o e J
   show(R,(f.2 b<|gq<|i9 (ft e) I.ok.above).trans g)
  .by_cases U:j=i
   .subst U
    rw[B]at g;cases g;rw[mV a6]at O;cases O;show(u,r,.inl (W,by simp))
   .rw[fW (ew U)]at O
    let(u',S,q):=hl j y v' g O Z;show(u',S,?_);rcases q with⟨k,e⟩|⟨k,c,e,z⟩
    .refine .inl (k,?_)
     have:y≠x:=λe=>U<|WD hN g<|e ▸ B;simp[this,e]
    .exact .inr (k,c,e,z.sameBut f<|rA y c e)
  .let(F,z):=I.cell y c e
   show(F,z.sameBut f<|rA y c e)
  .let(e,n,C,P,d):=I.pin p L
   show((f.2 p.1 C).trans e,n,C,P,d)
 .have G:X.fn x=aG:=by
   lia
  let(c,l):=I.ok.has x<|.inl W;let(F,z):=I.cell x c l;show wpAny_storeName_cell I.ok.kind W l z<|λh' a8 f=>?_;let(oc,a9,as):=id z;show h _ (I.ok,I.os,I.bare,(λb o e n t J=>?_,λb o e n t J=>?_,I.base.free,λb o e J=>?_,I.base.nG,I.base.nW,I.base.nY),(m,K.sameBut f<|ew<|rA x c l,λj y v' g O Z=>?_),λy Y e=>?_,I.free,I.oe,λp L=>?_,a7 (oc,a9,I.oe x c l) f,~~~I.len) (c,f,.inr l)
  .exact(f.2 b<|gq<|i9 (ft e)<|I.ok.y0 x c G l).trans (I.base.keep b o e n t J)
  .let(T,g):=I.base.slot b o e n t J
   show(T,(f.2 b<|gq<|i9 (ft e)<|I.ok.y0 x c G l).trans g)
  .let(R,g):=I.base.there b o e J
   show(R,(f.2 b<|gq<|i9 (ft e)<|I.ok.y0 x c G l).trans g)
  .by_cases U:j=i
   .subst U
    rw[B]at g;cases g;rw[mV a6]at O;cases O;show(u,r,.inr (.inl W,c,l,a8))
   .rw[fW (ew U)]at O
    let(u',S,q):=hl j y v' g O Z;show(u',S,?_);rcases q with q|⟨k,Y,e,z'⟩
    .exact .inl q
    .refine .inr (k,Y,e,z'.sameBut f ?_)
     rintro rfl;show U<|WD hN g<|I.ok.inj _ _ _ e l ▸ B
  .by_cases ac:Y=c
   .subst ac;show(_,a8)
   .let(w2,z2):=I.cell y Y e
    show(w2,z2.sameBut f ac)
  .let(e,n,C,P,d):=I.pin p L
   show((f.2 p.1 ?_).trans e,n,C,P,d);intro q;rw[q,a9]at e;have q':=l8 e;show d F (by rw[<-q'];show as)
theorem V6(I:Inv X pins σ H s)(y:X.N.Nodup)(L:X.N[i]? = aF x)(z:Loc ⋯.scope x)(r:RelV v u)
 (h:∀e,Inv X pins (σ.set i<|some v) H e->Q ⟨⟩ e) (B:X.fn x=aG\/⋯.scope.names.lookup x=aF .local:=by first|show .inl rfl|show .inr rfl|assumption):wpAny M A (storeName ⋯ x u) Q E s:=
 bc I y L z r (λe J _=>h e J) B
theorem Inv.UP(I:Inv X pins σ H s)(y:s'.os=s.os)(u:Un (m4 X.stack) ch H H' s.heap s'.heap)(B:gm X.prog X.w H' s'.heap)(z:pA s'.gens)
 (J:∀b∈ch,(b∈X.ex\/X.g8.heap.objs.size<=b)/\b≠⋯.locals/\(∀x c,⋯.cells.lookup x=aF c->c≠b)/\∀p∈X.pn++pins,p.1≠b):Inv X pins σ H' s':=by
 let(h',O,a,f,d):=s';have e:=y;subst e;show I.call u B z J
end
abbrev XK:=da->xz cI->Hp->Prop
abbrev St:=zn (xz V)
abbrev VK:=V->Hp->Prop
abbrev TE:=St->Hp->VK->Prop
abbrev TT:=St->Hp->(Bool->Hp->Prop)->Prop
abbrev TA:=St->Hp->(zn V->Hp->Prop)->Prop
structure Ends where
 nx:St->Hp->Prop
 rt:VK
 bk:St->Hp->Prop:=λ_ _=>False
 ct:St->Hp->Prop:=λ_ _=>False
abbrev TS:=Ends->St->Hp->Prop
inductive EP(X:Cx)(pins:TW)(σ:St)(Q:VK)(u:da)(s':dy):Prop
 |mk (v H') (_:Inv X pins σ H' s') (_:RelV v u) (_:Q v H')
inductive TP(X:Cx)(pins:TW)(σ:St)(Q:Bool->Hp->Prop)(b:Bool)(s':dy):Prop
 |mk H' (_:Inv X pins σ H' s') (_:Q b H')
inductive AP(X:Cx)(pins:TW)(σ:St)(Q:List V->Hp->Prop)(us:List da)(s':dy):Prop
 |mk (vs H') (_:Inv X pins σ H' s') (_:d8 vs us) (_:Q vs H')
def SP(X:Cx)(e:TW)(D:Ends)(f:Flow)(z:dy):Prop:=
 match f with
 |.next=>∃a b,Inv X e a b z/\D.nx a b
 |.brk=>∃a b,Inv X e a b z/\D.bk a b
 |.cont=>∃a b,Inv X e a b z/\D.ct a b
 |.ret u=>∃v a b,Inv X e a b z/\RelV v u/\D.rt v b
def PE(X:Cx)(e:dE)(t:TE):Prop:=
 ∀(a:TW) (s:dy) (b:St) (H:Hp) (Q:VK),Inv X a b H s->t b H Q->⇑X (dv e ⋯) (EP X a b Q) X.xe s
def PT(X:Cx)(e:dE)(t:TT):Prop:=
 ∀(a:TW) (s:dy) (b:St) (H:Hp) (Q:Bool->Hp->Prop),Inv X a b H s->t b H Q->⇑X (uK e ⋯<|eval e ⋯) (TP X a b Q) X.xe s
def PW(X:Cx)(e:dE)(t:TT):Prop:=
 ∀(y:ip da) (a:TW) (s:dy) (b:St) (H:Hp) (Q:Bool->Hp->Prop),Inv X a b H s->t b H Q->⇑X (uK e ⋯ y) (TP X a b Q) X.xe s
theorem PW.pt(h:PW X e t):PT X e t:=h _
def PA(X:Cx)(e:zn dE)(t:TA):Prop:=
 ∀(pos:eg) (a:TW) (s:dy) (b:St) (H:Hp) (Q:zn V->Hp->Prop),Inv X a b H s->t b H Q->⇑X (RG<|backTo pos<|starEach e ⋯) (AP X a b Q) X.xe s
def PS(X:Cx)(st:en)(t:TS):Prop:=
 ∀(a:TW) (s:dy) (b:St) (H:Hp) (D:Ends),Inv X a b H s->t D b H->⇑X (exec st ⋯) (SP X a D) X.xe s
def h8(X:Cx)(st:zn en)(t:TS):Prop:=
 ∀(a:TW) (s:dy) (b:St) (H:Hp) (D:Ends),Inv X a b H s->t D b H->⇑X (execs st ⋯) (SP X a D) X.xe s
theorem dQ(h:wpAny M A t Q E s)(y:∀a s,Q a s->Q' a s):wpAny M A t Q' E s:=fU h y λ_ _ x=>x
section
variable{X:Cx}
def QE(i:Nat):TE:=λa H Q=>∃v,a[i]? = aF (aF v)/\Q v H
def tC(v:V):TE:=λ_ H Q=>Q v H
theorem GF(O:X.N[i]? = aF x)(U:E5 ⋯.scope x)(B:(x==("__debug__"))=bB:=by decide)(W:(x==("__classdict__"))=bB:=by decide):PE X (.Name x pos) (QE i):=by
 intro a s g H Q I h;let(v,e,h):=h;let(m,f,Y):=I.loc;let(u,r,l):=Y i x v O e U;have z:EP X a g Q u s:=(v,H,I,r,h);rcases l with⟨y,d⟩|⟨y,c,b,J⟩
 .exact D_ (wpAny_loadName_local I.ok.kind y f d z) B
 .rcases y with y|y
  .exact D_ (wpAny_loadName_cell I.ok.kind y b J z) B
  .exact D_ (wpAny_loadName_free I.ok.kind y b J z W) B
theorem Ob:PE X (.Constant (.int i) j pos) (tC<|.int i):=λ_ _ _ H _ I h=>wpAny_Constant_int (.int i,H,I.tok _,(_,rfl),h)
theorem Od:PE X (.Constant (.bool b) j pos) (tC<|.bl b):=λ_ _ _ H _ I h=>Constant_bool (.bl b,H,I,rfl,h)
theorem bN:PE X (.Constant .none j pos) (tC .dw):=λ_ _ _ H _ I h=>Constant_none (.dw,H,I,rfl,h)
theorem GG:PE X (.Constant (.str x) j pos) (tC<|.str x):=λ_ _ _ H _ I h=>_E (.str x,H,I.tok _,(_,rfl),h)
def Gl(X:Cx)(x:Str):Prop:=⋯.kindOf x=aF .globalImplicit
theorem yq(I:Inv X pins σ H s)(y:Gl X x)(z:X.mg x=aF u)(h:Q u s)
 (e:(x==("__debug__"))=bB:=by decide):⇑X (dv (.Name x pos) ⋯) Q E s:=
 Calls.Name_function_global I.ok.kind y (Calls.loadGlobal_global (by rw[I.ok.glob];show I.mod.glob.keeps I.bk) z h) e
theorem xT(I:Inv X pins σ H s)(y:Gl X x)(B:X.mg x=aT)(z:pH x=aF u)(h:Q u s)
 (J:x ≠ "__name__":=by decide) (e:(x==("__debug__"))=bB:=by decide):⇑X (dv (.Name x pos) ⋯) Q E s:=by
 let(d,a,b):=I.mod.blt;show Calls.Name_function_global I.ok.kind y (Calls.loadGlobal_builtin (by rw[I.ok.glob];show I.mod.glob.keeps I.bk) B (by rw[I.ok.blt];show a.keeps I.bk) ((b x J).trans z) h) e
variable{a b:dE}{ta tb:TE}{pos:eg}
def PC(X:Cx)(y:CmpOp)(a b:dE)(t:TE):Prop:=
 ∀(d:TW) (s:dy) (e:St) (H:Hp) (Q:VK),Inv X d e H s->t e H Q->
  ⇑X (dv a ⋯) (λv z=>⇑X (dv b ⋯) (λu I=>⇑X (i3 y v u) (EP X d e Q) X.xe I) X.xe z) X.xe s
theorem Ek(b:dE)(h:op ≠ .In)(e:op ≠ .NotIn):nv op b=bB:=by
 have a:(op==CmpOp.In)=bB:=by cases op<;>first|rfl|show absurd rfl h
 have y:(op==CmpOp.NotIn)=bB:=by cases op<;>first|rfl|show absurd rfl e
 cases b<;>simp[nv,a,y]
def tB(t:TE):TT:=λb H Q=>t b H λx a=>∃c,x=.bl c/\Q c a
theorem NI(h:PC X op a b t)(B:nv op b=bB:=by first|show Ek _ () () |rfl):PT X (.Compare a [op] [b] pos) (tB t):=by intro e s k H Q I i;show zlw (dQ (h e s k H _ I i) λv l B=>dQ B λu m g=>dQ g λc O y=>?_) B;let(x,f,z,j,J):=y;let(d,rfl,q):=J;cases j;show sf (f,z,q)
theorem NG(h:PE X e t)(he:∀y,uK e ⋯ y=(do let v<-y;oS e.pos;my [v] (Dt v)):=by intro _;rfl):PT X e (tB t):=by intro a s i H Q I f;show isTrue_plain (dQ (h a s i H _ I f) λv j z=>?_)<|he _;let(x,b,J,g,O):=z;let(d,rfl,q):=O;cases g;show sf (b,J,q)
variable{tA GR:TT}{rest:zn dE}
def UX(t u:TT):TT:=λb H Q=>t b H λc a=>if c=aG then u b a Q else Q bB a
def tOr(t u:TT):TT:=λb H Q=>t b H λc a=>if c=aG then Q aG a else u b a Q
def zaS(t:TT):TT:=λb H Q=>t b H λc a=>Q (!c) a
theorem sZ(z:PT X a tA):PW X (.BoolOp .And [a] pos) tA:=by
 intro y b s d H Q I h;show isTrue_and<|dQ (z b s d H Q I h) λc f e=>?_;cases c with
 |true=>show isTrue_and_nil e
 |false=>show e
theorem Nt(z:PT X a tA):PW X (.BoolOp .Or [a] pos) tA:=by
 intro y b s d H Q I h;show isTrue_or<|dQ (z b s d H Q I h) λc f e=>?_;cases c with
 |false=>show isTrue_or_nil e
 |true=>show e
theorem Gu(B:PT X a tA)(L:PW X (.BoolOp .And (b::rest) pos) GR):PW X (.BoolOp .And (a::b::rest) pos) (UX tA GR):=by
 intro J d s f H Q I h;show isTrue_and<|dQ (B d s f H _ I h) λc g O=>?_;let(e,y,z):=O;cases c with
 |true=>show L J d g f e Q y z
 |false=>show(e,y,z)
theorem Tb(B:PT X a tA)(L:PW X (.BoolOp .Or (b::rest) pos) GR):PW X (.BoolOp .Or (a::b::rest) pos) (tOr tA GR):=by
 intro J d s f H Q I h;show isTrue_or<|dQ (B d s f H _ I h) λc g O=>?_;let(e,y,z):=O;cases c with
 |true=>show(e,y,z)
 |false=>show L J d g f e Q y z
theorem NH(e:PT X a tA):PT X (.UnaryOp .Not a pos) (zaS tA):=by intro b s d H Q I h;show isTrue_not (dQ (e b s d H (λc=>Q<|!c) I h) λ_ _ z=>by cases z;constructor<;>assumption)
def SN(ta tb:TE):TE:=λb H Q=>ta b H λx a=>∃c,x=.bl c/\if c=aG then tb b a Q else Q (.bl bB) a
def SH(ta:TE):TE:=λb H Q=>ta b H λx a=>∃c,x=.bl c/\Q (.bl<|!c) a
theorem NX(h:PE X a t):PE X (.BoolOp op [a] pos) t:=λb s e H Q I d=>BoolOp_one<|h b s e H Q I d
theorem Oe(B:PE X a ta)(L:PE X (.BoolOp .And (b::rest) pos) tb):PE X (.BoolOp .And (a::b::rest) pos) (SN ta tb):=by
 intro d s f H Q I h;show BoolOp_and<|dQ (B d s f H _ I h) λv i J=>?_;let(x,e,z,g,y):=J;let(c,rfl,y):=y;cases g;show sf ?_;cases c with
 |true=>show L d i f e Q z y
 |false=>show(.bl bB,e,z,rfl,y)
theorem NY(e:PE X a ta):PE X (.UnaryOp .Not a pos) (SH ta):=by intro b s g H Q I h;show UnaryOp_<|dQ (e b s g H _ I h) λv i z=>?_;let(x,d,J,f,y):=z;let(c,rfl,y):=y;cases f;show not_of<|sf (.bl<|!c,d,J,rfl,y)
def Hc(t:TT)(ta tb:TE):TE:=λa H Q=>t a H λc b=>if c=aG then ta a b Q else tb a b Q
theorem CV(O:PT X c tA)(B:PE X a ta)(L:PE X b tb):PE X (.IfExp c a b pos) (Hc tA ta tb):=by
 intro e s f H Q I h;show wpAny_IfExp<|dQ (O e s f H _ I h) λd i J=>?_;let(g,y,z):=J;cases d with
 |true=>show B e i f g Q y z
 |false=>show L e i f g Q y z
end
def eJ(K:cL)(H:Hp)(a:cI)(xs:zn V):Prop:=
 Rd H a (.lst xs)\/
  ∃(o:gB) (y:Array da) (n:Nat),K.lookup a=aF o/\o.cls=.type "list"/\o.dict=aT/\o.data=.seq y n/\y.size<=ej/\d8 xs y.toList
def fC(K:cL)(H:Hp)(a:cI)(xs:zn V):Prop:=
 Rd H a (.tup xs)\/
  ∃(o:gB) (y:Array da) (n:Nat),K.lookup a=aF o/\Prod.mk o.cls o.dict=(t7 "tuple",aT)/\o.data=.seq y n/\y.size<=ej/\d8 xs y.toList
def zbm:da->xz V
 |.none=>aF .dw
 |.bool b=>aF (.bl b)
 |.int i _=>aF (.int i)
 |.str x _=>aF (.str x)
 |.bytes b _=>aF (.oL b)
 |.float b _=>aF (.uG b)
 |.ref a=>aF (.ref a)
 |.type n=>aF (.ty n)
 |_=>aT
theorem RelV.abs(r:RelV x u):zbm u=aF x:=by
 cases x with
 |dw=>cases r;rfl
 |bl _=>cases r;rfl
 |int _=>let(t,rfl):=r;rfl
 |str _=>let(t,rfl):=r;rfl
 |oL _=>let(t,rfl):=r;rfl
 |uG _=>let(t,rfl):=r;rfl
 |ref _=>cases r;rfl
 |ty _=>cases r;rfl
theorem RelV.inj(r:RelV x u)(q:RelV y u):x=y:=l8<|r.abs.symm.trans q.abs
theorem d8.inj(h:d8 xs us):d8 ys us->xs=ys:=by
 induction h generalizing ys with
 |nil=>intro h;cases h;rfl
 |cons r t y=>intro h;cases h with|cons a b=>rw[r.inj a,y b]
section
variable{H:Hp}{a:cI}{xs ys:zn V}
theorem eJ.of{K:cL}(h:H a=aF (.lst xs)):eJ K H a xs:=.inl (.inl h)
theorem fC.of{K:cL}(h:H a=aF (.tup xs)):fC K H a xs:=.inl (.inl h)
theorem Inv.list(I:Inv X pins σ H s)(h:eJ X.K H a xs):∃y,d8 xs y/\PlainL s.heap a y.toArray/\xs.length<=ej:=by
 rcases h with h|⟨o,y,n,J,hc,hd,hs,O,r⟩
 .let(z,y,n,r,e):=h.ok I.dS
  show(y,r,(_,n,e,rfl,rfl,rfl),z)
 .refine(y.toList,r,(o,n,I.eF a o J,hc,hd,~~~hs),?_)
  have e:=r.length;simp?[sj]at e;lia
theorem Inv.tuple(I:Inv X pins σ H s)(h:fC X.K H a xs):∃y,d8 xs y/\B5 s.heap a y.toArray/\xs.length<=ej:=by
 rcases h with h|⟨o,y,n,J,hc,hs,O,r⟩
 .let(z,y,r,p):=h.ok I.dS
  show(y,r,p.tup,z)
 .refine(y.toList,r,(o,I.eF a o J,(Prod.mk.inj hc).1,n,~~~hs),?_)
  have e:=r.length;simp?[sj]at e;lia
theorem Inv.PX(I:Inv X pins σ H s)(h:eJ X.K H a xs)(h':eJ X.K H a ys):xs=ys:=by
 let(J,r,(o,n,e,_,_,d),_):=I.list h;let(O,f,(i,g,y,_,_,b),_):=I.list h';rw[e]at y;cases y;rw[d]at b;injection b with z _;have:= ~~~congrArg Array.toList z
 subst this;show r.inj f
theorem Inv.D'(I:Inv X pins σ H s)(h:fC X.K H a xs)(h':fC X.K H a ys):xs=ys:=by
 let(J,r,(o,e,_,n,d),_):=I.tuple h;let(O,f,(i,y,_,g,b),_):=I.tuple h';rw[e]at y;cases y;rw[d]at b;injection b with z _;have:= ~~~congrArg Array.toList z
 subst this;show r.inj f
end
abbrev Cx.gd(X:Cx)(E:EQ):Cx:={X with xe:=E}
abbrev Cx.kb(X:Cx):Cx:=X.gd λ_ _=>False
theorem Cx.Ok.gd{X:Cx}(ok:X.Ok)(E:EQ):(X.gd E).Ok:=
 (ok.mod,ok.kind,ok.glob,ok.blt,ok.above,ok.inj,ok.has,ok.y0,ok.hd,ok.frames,ok.Dm,ok.Dd,ok.bs,ok.oK,ok.y8,ok.y7,ok.nz,ok.ph)
theorem Cx.Ok.l4{X:Cx}{E:EQ}(ok:(X.gd E).Ok):X.Ok:=
 (ok.mod,ok.kind,ok.glob,ok.blt,ok.above,ok.inj,ok.has,ok.y0,ok.hd,ok.frames,ok.Dm,ok.Dd,ok.bs,ok.oK,ok.y8,ok.y7,ok.nz,ok.ph)
section
variable{X:Cx}{pins:TW}{σ:St}{H:Hp}{s:dy}{E:EQ}
theorem Inv.gd(I:Inv X pins σ H s)(E:EQ):Inv (X.gd E) pins σ H s:=(I.ok.gd E,I.os,I.bare,I.base,I.loc,I.cell,I.free,I.oe,I.pin,I.dS,I.len)
theorem Inv.l4(I:Inv (X.gd E) pins σ H s):Inv X pins σ H s:=(I.ok.l4,I.os,I.bare,I.base,I.loc,I.cell,I.free,I.oe,I.pin,I.dS,I.len)
theorem SP.l4(h:SP (X.gd E) pins D f s'):SP X pins D f s':=by
 cases f with
 |next=>let(a,b,I,q):=h;show(a,b,I.l4,q)
 |brk=>let(a,b,I,q):=h;show(a,b,I.l4,q)
 |cont=>let(a,b,I,q):=h;show(a,b,I.l4,q)
 |ret u=>let(v,a,b,I,r,q):=h;show(v,a,b,I.l4,r,q)
theorem h8.kb{st:zn en}{t:TS}(h:h8 X.kb st t):h8 X st t:=λpins s σ H D I a=>
 fU (h pins s σ H D (I.gd _) a) (λ_ _ q=>q.l4) λ_ _ z=>t8 z
end
section
variable{X:Cx}{st:en}{rest:zn en}{t u:TS}
def Cc:TS:=λD a H=>D.nx a H
def pV(t u:TS):TS:=λD a H=>t {D with nx:=u D} a H
theorem KM:h8 X [] Cc:=λ_ _ a H _ I h=>A7 (a,H,I,h)
theorem qL(e:PS X st t)(z:h8 X rest u):h8 X (st::rest) (pV t u):=by
 intro a s i H D I h;show M0<|dQ (e a s i H _ I h) λf g q=>?_;cases f with
 |next=>
  let(b,d,y,q):=q;show z a g b d D y q
 |ret v=>show q
 |brk=>show q
 |cont=>show q
theorem kJ(e:PS X st t):h8 X [st] t:=by
 intro a s b H D I h;show M0<|dQ (e a s b H D I h) λf d q=>?_;cases f with
 |next=>show A7 q
 |ret v=>show q
 |brk=>show q
 |cont=>show q
def SM:TS:=λD a H=>D.ct a H
theorem zhp:PS X (.Continue pos) SM:=λ_ _ a H _ I h=>wpAny_Continue (a,H,I,h)
theorem Inv.quiet(I:Inv X pins σ H s):XP ⋯=bB:=by simp[XP,I.ok.kind]
def SK(te:TE):TS:=λD a H=>te a H λ_ b=>D.nx a b
theorem fH(B:PE X e te)(hs:ni e aT pos.line ⋯=pure bB:=by rfl):PS X (.Expr e pos) (SK te):=by intro a s b H D I h;show T2 (dQ (B a s b H _ I h) λv g (x,d,y,f,z)=>(b,d,y,z)) I.quiet hs
def Mh(te:TE):TS:=λD a H=>te a H D.rt
theorem Jw(B:PE X e te):PS X (.Return (aF e) pos) (Mh te):=by intro a s b H D I h;show zlq<|dQ (B a s b H _ I h) λv g (x,d,y,f,z)=>(x,b,d,y,f,z)
def Rp(c:TT)(t u:TS):TS:=λD a H=>c a H λb d=>if b=aG then t D a d else u D a d
theorem tU(O:PT X c tc)(B:h8 X a t)(L:h8 X b u):PS X (.If c a b pos) (Rp tc t u):=by
 intro e s f H D I h;show wpAny_If<|dQ (O e s f H _ I h) λd i J=>?_;let(g,y,z):=J;cases d with
 |true=>show B e i f g D y z
 |false=>show L e i f g D y z
def Vl:TS:=λ_ _ _=>False
theorem CG:PS X st Vl:=λ_ _ _ _ _ _ h=>h.elim
theorem KN{e:zn en}:h8 X e Vl:=λ_ _ _ _ _ _ h=>h.elim
end
abbrev TG:=V->St->Hp->(St->Hp->Prop)->Prop
abbrev x8:=zn V->St->Hp->(St->Hp->Prop)->Prop
def PG(X:Cx)(y:dE)(t:TG):Prop:=
 ∀(a:TW) (s:dy) (e:St) (H:Hp) (v:V) (u:da) (Q:St->Hp->Prop),Inv X a e H s->RelV v u->t v e H Q->
  ⇑X (rx y ⋯ u) (λ_ f=>∃b d,Inv X a b d f/\Q b d) X.xe s
def Cj(X:Cx)(y:zn dE)(t:x8):Prop:=
 ∀(a:TW) (s:dy) (g:St) (H:Hp) (f:zn V) (e:zn da) (Q:St->Hp->Prop),Inv X a g H s->d8 f e->t f g H Q->
  ⇑X (assignInOrder ((pE y ⋯).map (·.2)) e) (λ_ h=>∃b d,Inv X a b d h/\Q b d) X.xe s
abbrev G_:=V->V->V->Hp->(Hp->Prop)->Prop
def H_(X:Cx)(t:G_):Prop:=
 ∀(a:TW) (s:dy) (d:St) (H:Hp) (o i v:V) (y z u:da) (Q:Hp->Prop),Inv X a d H s->RelV o y->RelV i z->RelV v u->t o i v H Q->
  ⇑X (Rw y z u) (λ_ e=>∃b,Inv X a d b e/\Q b) X.xe s
section
def yK(i:Nat):TG:=λv a H Q=>Q (a.set i<|some v) H
theorem uf(y:X.N.Nodup)(B:X.N[i]? = aF x)(z:Loc ⋯.scope x)(e:X.fn x=aG\/⋯.scope.names.lookup x=aF .local:=by first|show .inl rfl|show .inr rfl|assumption):PG X (.Name x pos) (yK i):=by intro a s d H v u Q I r h;show zls<|V6 I y B z r (λb J=>(_,H,J,h)) e
def O_:x8:=λa b H Q=>a=[]/\Q b H
def OX(t:TG)(u:x8):x8:=λd e H Q=>∃v r,d=v::r/\t v e H λa b=>u r a b Q
theorem ue:Cj X [] O_:=by intro a s b H f d Q I r h;let(e,h):=h;subst e;cases r;show assignInOrder_nil (b,H,I,h)
theorem Jz(B:PG X e t)(L:Cj X es u)
 (hs:(pE (e::es) ⋯).map (·.2)=rx e ⋯::(pE es ⋯).map (·.2):=by rfl):Cj X (e::es) (OX t u):=by
 intro a s g H j i Q I r h;let(v,W,d,h):=h;subst d;cases r with
 |cons r y=>
  rw[hs];show assignInOrder_cons<|dQ (B a s g H _ _ _ I r h) λ_ f z=>?_;let(J,b,O,U):=z;show L a f J b _ _ Q O y U
def O'(K:cL)(n:Nat)(t:x8):TG:=λv d H Q=>∃a b,v=.ref a/\fC K H a b/\b.length=n/\t b d H Q
theorem NV(B:X.calm=aG)(h:Cj X es t)
 (L:(pE es ⋯).length=n:=by rfl) (z:(pE es ⋯).findIdx? (·.1)=aT:=by rfl):PG X (.Tuple es k pos) (O' X.K n t):=by
 intro d s l H v u Q I r f;let(a,j,g,i,J,f):=f;subst g;cases r;let(Y,y,O,Z):=I.tuple i;show assign_Tuple_tuple (I.ok.hd B) O (by simp[L,<-J,y.length]) z λm U=>?_;have W:=I.kept (t':=s.toks) λb o e=>U b o (gq<|ft e) e;show h d _ l H j _ Q W (~~~y) f
def zbh(to y:TE)(t:G_):TG:=λv a H Q=>to a H λo b=>y a b λi d=>t o i v d λz=>Q a z
theorem GD(W:PE X o to)(L:PE X i zkL)(hs:H_ X t)
 (B:∀v,rx (.Subscript o i pos) ⋯ v=(do
   let z<-my [v] (dv o ⋯);let J<-my [v,z] (dv i ⋯)
   oS pos
   my [v,z,J] (Rw z J v)
   release [v,z,J] []):=by intro _;rfl):PG X (.Subscript o i pos) (zbh to zkL t):=by
 intro a s b H v u Q I r h;rw[B];show cS<|m7<|dQ (W a s b H _ I h) λz p O=>?_;show dj λU=>?_;let(x,d,Y,m,Z):=O;show U ?_;show cS<|m7<|dQ (L a p b d _ Y Z) λJ w O=>?_;show dj λU=>?_;let(y,e,g,n,k):=O;show U ?_;show cS<|A1<|cS<|m7<|dQ (hs a w b e x y v z J u _ g m n r k) λ_ A O=>?_;let(f,j,l):=O;show wpAny_release (b,f,j,l)
def aD(te:TE)(g:TG):TS:=λD a H=>te a H λx b=>g x a b D.nx
theorem lE(L:PE X e te)(y:PG X tg g)(hs:Gx [tg] e pos.line ⋯=pure bB:=by rfl)(S:RJ [tg] e ⋯=pure aT:=by rfl)
 (B:(pE [tg] ⋯).map (·.2)=[rx tg ⋯]:=by rfl):PS X (.Assign [tg] e pos) (aD te g):=by
 intro a s b H D I h;show wpAny_Assign_stores (dQ (L a s b H _ I h) λv i z=>?_) hs S;let(x,d,J,f,O):=z;rw[B];show dQ (y a i b d x v _ J f O) λ_ j q=>q
theorem Gz(z:X.N.Nodup)(S:X.N[i]? = aF x)(J:Loc ⋯.scope x)(B:PE X e te)(hs:ni e (aF (.Name x pos')) pos.line ⋯=pure bB:=by rfl)(L:X.fn x=aG\/⋯.scope.names.lookup x=aF .local:=by first|show .inl rfl|show .inr rfl|assumption):
 PS X (.Assign [.Name x pos'] e pos) (aD te<|yK i):=by
 intro a s f H D I h;show zlp (dQ (B a s f H _ I h) λv g O=>?_) hs;let(y,b,Q,d,U):=O;show V6 Q z S J d (λj W=>(_,b,W,U)) L
end
section
def MM(c:TT)(z:TS):TS:=λD a H=>∃W:Nat->St->Hp->Prop,(∃m,W m a H)/\∀m a H,W m a H->
 c a H λb f=>if b=aG then ∃N:St->Hp->Prop,(∀d e,N d e->∃g,g<m/\W g d e)/\z {D with nx:=N,ct:=N,bk:=D.nx} a f else D.nx a f
theorem CF{e:zn en}(B:C0 (dq X.prog X.w) X.A ⋯ X.xe)(S:PT X c tc)(L:h8 X e tb):PS X (.While c e [] pos) (MM tc tb):=by
 intro a s G H D I h;let(W,(t,E),a4):=h;show wpAny_While<|codeAny_whileLoop (λn u=>∃d k,Inv X a d k u/\W n d k) ?_ t (G,H,I,E);rintro n x ⟨J,l,p,F⟩;show A6 B<|dQ (S a x J l _ p<|a4 n J l F) λb C r=>?_;let(m,Z,O):=r;cases b with
 | true=>
  let(N,o,O):=O;rw[DJ rfl];show A6 B<|dQ (L a C J m _ Z O) λf K Q=>?_;cases f with
  |next=>
   let(y,z,U,Y):=Q;let(i,g,j):=o y z Y;show(i,g,y,z,U,j)
  |cont=>
   let(y,z,U,Y):=Q;let(i,g,j):=o y z Y;show(i,g,y,z,U,j)
  |brk=>show Q
  |ret v=>show Q
 |false=>
  rw[DY iu];show A7 (J,m,Z,O)
end
structure It where
 go:Nat->Hp->Prop
 pT:Nat->Hp->V->Hp->Prop
 stop:Nat->Hp->Prop
def YO(X:Cx)(e:TW)(H:Hp)(b:cI):Prop:=
 H b=aT/\b≠⋯.locals/\b∉X.fs/\(b∈X.ex\/X.g8.heap.objs.size<=b)/\(∀x c,⋯.cells.lookup x=aF c->c≠b)/\∀p∈X.pn++e,p.1≠b
theorem Inv.pJ(I:Inv X pins σ H s)(B:↥s<=b)(J:H' b=aT):YO X pins H' b:=by
 show(J,pz<|i9 I.lt B,I.ziX B,.inr<|fZ I.sz B,λx c e z=>?_,λp a z=>?_)
 .let(v,q):=I.cell x c e
  show absurd (i9 q.lt<|by rw[z];show B)<|m6 _
 .exact absurd (i9 (ft (I.pin p a).1)<|by rw[z];show B)<|m6 _
structure Turn(P:eA)(w:eu)(K:cL)(tg:dE)(J:It)(fp:List cI)(it:cI)(tn:Nat->dV->Prop):Prop where
 mem:it∈fp
 obj:∀i h,tn i h->∀b∈fp,∃o,h.get? b=aF o/\∀v,o.data ≠ .cell v
 keep:∀i h h',tn i h->(∀b∈fp,∀o,h.get? b=aF o->h'.get? b=aF o)->tn i h'
 item:∀(X:Cx),X.prog=P->X.w=w->X.K=K->X.calm=aG->∀(i:Nat) (pins:TW) (s:dy) (σ:St) (H:Hp) (E:EQ),Inv X pins σ H s->(∀b∈fp,YO X pins H b)->tn i s.heap->J.go i H->
  wpAny (dq P w) X.A (zd<|.ref it) (λr s1=>∃u,r=aF u/\
   wpAny (dq P w) X.A (Df tg (.ref it) u) (λ_ s2=>∃x H',Inv X pins σ H' s2/\RelV x u/\J.pT i H x H'/\tn (i+1) s2.heap/\∀b∈fp,H' b=aT) E s1) E s
 done:∀(X:Cx),X.prog=P->X.w=w->X.K=K->X.calm=aG->∀(i:Nat) (pins:TW) (s:dy) (σ:St) (H:Hp) (E:EQ),Inv X pins σ H s->(∀b∈fp,YO X pins H b)->tn i s.heap->J.stop i H->
  wpAny (dq P w) X.A (zd<|.ref it) (λr s1=>r=aT/\Inv X pins σ H s1) E s
 self:∀(A:hO) (i:Nat) (s:dy) (Q:EQ) (E:EQ),tn i s.heap->Q (.ref it) s->wpAny (dq P w) A (F7<|.ref it) Q E s
abbrev TI:=St->Hp->(It->Hp->Prop)->Prop
def UG(X:Cx)(e:TW)(H:St)(B:dE)(R:It->Hp->Prop)(y:da)(z:dy):Prop:=
 ∃(f:cI) (d:zn cI) (g:Nat->dV->Prop) (J:It) (a:Hp),y=.ref f/\Inv X e H a z/\Turn X.prog X.w X.K B J d f g/\g 0 z.heap/\(∀b∈d,YO X e a b)/\R J a
def PI(X:Cx)(z e:dE)(y:TI):Prop:=
 ∀(a:TW) (s:dy) (b:St) (H:Hp) (R:It->Hp->Prop),Inv X a b H s->y b H R->
  ⇑X (dv e ⋯) (λv d=>⇑X (F7 v) (UG X a b z R) X.xe d) X.xe s
theorem EO(z:s.heap.get? it=aF o)(e:o.cls=.type n)(B:o.data=.fields vs)
 (H:["enumerate","zip","dict_itemiterator","dict_reverseitemiterator","odict_iterator","itertools.zip_longest","itertools.pairwise"].contains n=bB) (y:Q ⟨⟩ s):wpAny M A (Df tg (.ref it) u) Q E s:=by
 erw[Df];cases tg<;>first
  |show d7 y
  |(cases u<;>first
      |show d7 y
      | (show cS (wpAny_load z ?_)
         rw[e,B];change wpAny M A (if _=aG then _ else _) Q E s;rw[DY (by intro h;rw[H,Bool.false_and]at h;cases h)];show d7 y))
def UB(K:cL)(a:cI):It:=
 (λi H=>∃b x,eJ K H a b/\b[i]? = aF x,λi H x d=>d=H/\∀b,eJ K H a b->b[i]? = aF x,λi H=>∃b,eJ K H a b/\b.length<=i)
def UC(K:cL)(a:cI):It:=
 (λi H=>∃b x,fC K H a b/\b[i]? = aF x,λi H x d=>d=H/\∀b,fC K H a b->b[i]? = aF x,λi H=>∃b,fC K H a b/\b.length<=i)
def B6(lo:Int)(n:Nat):It:=(λi _=>i<n,λi H x a=>a=H/\x=.int (lo+i),λi _=>n<=i)
theorem zj5{P:eA}{w:eu}{K:cL}{tg:dE}(a it:cI):Turn P w K tg (UB K a) [it] it (λi h=>h.IsListIter it a i) where
 mem:=by simp
 obj:=λi h st b hb=>by
  have e:b=it:= ~~~hb
  subst e;let(o,e,c,d):=st;show(o,e,λv z=>by rw[d]at z;cases z)
 keep:=λi h h' st k=>st.at λo e=>k it () o e
 item:=by intro X y hw J hc i pins s σ H E I hf st O;subst y hw J;let(xs,x,hq,Q):=O;let(a3,U,p,hz):=I.list hq;let(u,hu,ru):=U.get Q;let(W,f1,f2,Y,Z,f5):=hf it ();show wpAny_pyNext_list_item st p.isList (x:=u) (~~~hu) λh' a2 sb=>?_;have I1:Inv X pins σ H {s with heap:=h'}:=I.turned (t':=s.toks) (λb o hb e=>(sb.2 b hb).trans e) W f1 Y Z f5;let(o,e,c,d):=id a2;show(u,rfl,EO (s:={s with heap:=h'}) e c d () (x,H,I1,ru,(rfl,λys hy=>by rw[I.PX hy hq];show Q),a2,λb hb=>(hf b hb).1))
 done:=by intro X y hw J hc i pins s σ H E I hf st O;subst y hw J;let(xs,hq,Q):=O;let(a3,U,p,hz):=I.list hq;let(W,f1,f2,Y,Z,f5):=hf it ();have hl:=U.length;show wpAny_pyNext_list_end (I.ok.hd hc) st p.isList (by simp;lia) λh' eb=>(rfl,I.turned (t':=s.toks) (λb o hb e=>eb b o hb e) W f1 Y Z f5)
 self:=λ_ _ _ _ _ st h=>wpAny_pyIter_listiter st h
theorem ziY{P:eA}{w:eu}{K:cL}{tg:dE}(a it:cI):Turn P w K tg (UC K a) [it] it (λi h=>h.IsTupleIter it a i) where
 mem:=by simp
 obj:=λi h st b hb=>by
  have e:b=it:= ~~~hb
  subst e;let(o,e,c,d):=st;show(o,e,λv z=>by rw[d]at z;cases z)
 keep:=λi h h' st k=>st.at λo e=>k it () o e
 item:=by intro X y hw J hc i pins s σ H E I hf st O;subst y hw J;let(xs,x,hq,Q):=O;let(U,W,p,hz):=I.tuple hq;let(u,hu,ru):=W.get Q;let(Y,f1,f2,Z,f4,f5):=hf it ();show wpAny_pyNext_tuple_item st (show s.heap.IsTuple a U.toArray from p) (x:=u) (~~~hu) λh' a3 sb=>?_;have I1:Inv X pins σ H {s with heap:=h'}:=I.turned (t':=s.toks) (λb o hb e=>(sb.2 b hb).trans e) Y f1 Z f4 f5;let(o,e,c,d):=id a3;show(u,rfl,EO (s:={s with heap:=h'}) e c d () (x,H,I1,ru,(rfl,λys hy=>by rw[I.D' hy hq];show Q),a3,λb hb=>(hf b hb).1))
 done:=by intro X y hw J hc i pins s σ H E I hf st O;subst y hw J;let(xs,hq,Q):=O;let(U,W,p,hz):=I.tuple hq;let(Y,f1,f2,Z,f4,f5):=hf it ();have hl:=W.length;show wpAny_pyNext_tuple_end (I.ok.hd hc) st (show s.heap.IsTuple a U.toArray from p) (by simp;lia) λh' eb=>(rfl,I.turned (t':=s.toks) (λb o hb e=>eb b o hb e) Y f1 Z f4 f5)
 self:=λ_ _ _ _ _ st h=>wpAny_pyIter_tupleiter st h
theorem ziZ{P:eA}{w:eu}{K:cL}{tg:dE}(it:cI)(lo:Int)(n:Nat):Turn P w K tg (B6 lo n) [it] it (λi h=>IsRangeIter h it (lo+(i:Nat)*1) ((n:Int)-(i:Nat)) 1) where
 mem:=by simp
 obj:=λi h st b hb=>by
  have e:b=it:= ~~~hb
  subst e;show(_,st,λv z=>by have z':Data.fields _=Data.cell v:=z;cases z')
 keep:=λi h h' st k=>k it () _ st
 item:=by intro X y hw J hc i pins s σ H E I hf st O;subst y hw J;let(Q,f1,f2,U,Y,Z):=hf it ();have W:=Walks.range (prog:=X.prog) (w:=X.w) (I.ok.hd hc) it lo 1 n;show W.item i s _ _ O st λv h' tk hv a1 kk=>?_;let(t,rfl):=hv;have I1:Inv X pins σ H {s with heap:=h',toks:=tk}:=I.turned (λb o hb e=>kk b o (~~~hb) e) Q f1 U Y Z;show(_,rfl,EO (s:={s with heap:=h',toks:=tk}) (n:="range_iterator") a1 rfl rfl () (.int (lo+i),H,I1,(t,?_),(rfl,rfl),a1,λb hb=>(hf b hb).1));rw[D4]
 done:=by intro X y hw J hc i pins s σ H E I hf st O;subst y hw J;let(Q,f1,f2,U,Y,Z):=hf it ();show wpAny_pyNext_range_end (I.ok.hd hc) st (by have:n<=i:=O;lia) λh' eb=>(rfl,I.turned (t':=s.toks) (λb o hb e=>eb b o hb e) Q f1 U Y Z)
 self:=λ_ _ _ _ _ st h=>wpAny_pyIter_rangeiter st h
section
variable{X:Cx}{tg:dE}
theorem lq{B:TW}{L:St}{H:Hp}{s:dy}{R:It->Hp->Prop}{E:EQ}{lo J:Int}{t u v:mr}{O:Nat}(I:Inv X B L H s)(S : -(2^62)<=lo)(U:lo<2^62)(Y : -(2^62)<=J)(Z:J<2^62)
 (q:R (B6 lo (J-lo).toNat) H):⇑X (F7 (.ref ↥s)) (UG X B L tg R) E {s with heap:=s.heap.push {cls:=.type "range",data:=.fields #[.int lo t,.int J u,.int 1 v]},toks:=O}:=by
 show wpAny_pyIter_range (IsRange.new ..) (small_one S U Y Z) ?_;have y:Inv X B L H {s with heap:=s.heap.push {cls:=.type "range",data:=.fields #[.int lo t,.int J u,.int 1 v]},toks:=O}:=I.kept λb o e=>eo _ e;show(_,_,_,_,H,rfl,
  y.kept λb o e=>eo _ e,ziZ _ lo _,?_,λb d=>?_,q)
 .have a:lo+((0:Nat))*1=lo:=by simp
  have z:(((J-lo).toNat:Nat))-((0:Nat))=Builtin.Range.rangeSize lo J 1:=by rw[rangeSize_one];lia
  rw[a,z];show ir _ rfl
 .have e:b=(s.heap.push {cls:=.type "range",data:=.fields #[.int lo t,.int J u,.int 1 v]}).objs.size:= ~~~d
  subst e;show y.pJ (ec _)<|y.dS.fresh<|ec _
def TU(e:TA):TI:=λd H R=>e d H λb a=>∃j:Int,b=[.int j]/\ -(2^62)<=j/\j<2^62/\R (B6 0 j.toNat) a
def TR(e:TA):TI:=λd H R=>e d H λb a=>∃i j:Int,b=[.int i,.int j]/\(-(2^62)<=i/\i<2^62/\ -(2^62)<=j/\j<2^62)/\R (B6 i (j-i).toNat) a
theorem zk8{a:dE}{B:TA}{p pos:eg}(z:Gl X "range")(S:X.mg "range" = aT)(L:PA X [a] B)(hs:dU [a] ⋯=[(bB,dv a ⋯)]:=by rfl):PI X tg (.Call (.Name "range" p) [a] [] pos) (TU B):=by
 intro b s f H R I h;show xb<|xT I z S boot_range<|u7 (dQ (L pos b s f H _ I h) λk i J=>?_) hs rfl;let(l,g,O,d,y):=J;let(j,e,y,Q,q):=y;subst e;cases d with
 |cons r U=>
  cases U;let(t,rfl):=r;show call_range_1 (lq O () () y Q<|by simpa using q)
theorem zk7(O:Gl X "range")(L:X.mg "range" = aT)(B:PA X [a,b] ta)(hs:dU [a,b] ⋯=[(bB,dv a ⋯),(bB,dv b ⋯)]:=by rfl)(J:dU [b] ⋯=[(bB,dv b ⋯)]:=by rfl):
 PI X tg (.Call (.Name "range" p) [a,b] [] pos) (TR ta):=by
 intro d s k H R I h;show xb (xT I O L boot_range<|u7 (dQ (B pos d s k H _ I h) λo m Q=>?_) (by rw[hs,J])<|by rw[J];rfl);let(u,l,U,g,y):=Q;let(i,j,e,(y,W,Y,Z),q):=y;subst e;cases g with
 | cons r z=>
  cases z with
  |cons f z=>
   cases z;let(t,rfl):=r;let(n,rfl):=f;show call_range_2<|lq U y W Y Z q
def zaU(y:TI)(g:TG)(B:TS):TS:=λD a H=>y a H λJ f=>∃W:Nat->Nat->St->Hp->Prop,(∃m,W 0 m a f)/\∀i m a H,W i m a H->
 (J.stop i H/\D.nx a H)\/(J.go i H/\∃N:St->Hp->Prop,(∀d b,N d b->∃e,e<m/\W (i+1) e d b)/\∀x b,J.pT i H x b->g x a b λz h=>B {D with nx:=N,ct:=N,bk:=D.nx} z h)
def tZ(fp:zn cI)(h:dV):zn (cI×gB):=fp.filterMap λb=>(h.get? b).map λo=>(b,o)
theorem Zp(z:b∈fp)(e:h.get? b=aF o):(b,o)∈tZ fp h:=S3.mpr (b,z,by rw[e];rfl)
theorem zlh(z:p∈tZ fp h):p.1∈fp/\h.get? p.1=aF p.2:=by
 let(b,a,e):=S3.mp z;cases q:h.get? b with
 |none=>grind
 |some o=>
  grind
theorem Inv.pinned(I:Inv X pins σ H s)(B:∀b∈fp,YO X pins H b)(y:∀b∈fp,∃o,s.heap.get? b=aF o/\∀v,o.data ≠ .cell v):Inv X (pins++tZ fp s.heap) σ H s:=
 I.F5 λp d=>(n5.mp d).elim (λz=>I.pin p<|mU _ z) λz=>by
  show dj λJ=>?_;let(a,e):=zlh z;let(O,f1,Q,_):=B p.1 a
  grind
theorem Inv.Dx(I:Inv X (pins++pl) σ H s):Inv X pins σ H s:=I.F5 λp a=>I.pin p<|mU _<|X' _ a
theorem GA(L:C0 (dq X.prog X.w) X.A ⋯ X.xe)(hc:X.calm=aG)(hi:PI X tg iter wi)(hg:PG X tg g)(B:h8 X body tb)
 (hs:∀x,m3 iter ⋯ x=pure x:=by intro _;rfl):PS X (.For tg iter body [] pos) (zaU wi g tb):=by
 intro a s σ H D I h;show wpAny_For (dQ (hi a s σ H _ I h) λv s1 h1=>dQ h1 λbl s2 h2=>?_) hs;show dj λU=>?_;let(it,C,tn,J,H2,e,I2,T,ao,f2,W,(m0,w0),aw):=h2;show U ?_;subst e;have E:∀{k:Hp},(∀b∈C,k b=aT)->∀b∈C,YO X a k b:=λhn b B=>(hn b B,(f2 b B).2);show codeAny_forLoop_any (λn s'=>∃i j k,Inv X a j k s'/\tn i s'.heap/\(∀b∈C,k b=aT)/\W i n j k) ?_ m0 (0,σ,H2,I2,ao,λb B=>(f2 b B).1,w0);rintro n s3 ⟨i,Z,t,R,S,ad,w3⟩;rcases aw i n Z t w3 with⟨p,qn⟩|⟨go,N,hN,step⟩
 .refine A6 L (dQ (T.done X rfl rfl rfl hc i a s3 Z t X.xe R (E ad) S p) λr s4 Y=>?_)
  let(G,I4):=Y;subst G;show A7 (Z,t,I4,qn)
 .refine A6 L (dQ (T.item X rfl rfl rfl hc i a s3 Z t X.xe R (E ad) S go) λr s4 Y=>?_)
  let(u,G,h4):=Y;subst G;show A6 L<|dQ h4 λ_ s5 Y=>?_;show dj λU=>?_;let(x,P,I5,r5,y5,F,b7):=Y;show U ?_;have b8:=I5.pinned (E b7)<|T.obj _ _ F;show A6 L<|dQ (hg _ s5 Z P x u _ b8 r5<|step x P y5) λ_ s6 Y=>?_;show dj λU=>?_;let(M,H6,I6,q6):=Y;show U ?_;show A6 L<|dQ (B _ s6 M H6 _ I6 q6) λf K Q=>?_;have again:∀{y:St} {z:Hp},Inv X _ y z K->N y z->∃m,m<n/\∃i j k,Inv X a j k K/\tn i K.heap/\(∀b∈C,k b=aT)/\W i m j k:=λ{y z} O l=>by let(m',hm,w7):=hN y z l;show(m',hm,i+1,y,z,O.Dx,T.keep _ _ _ F λb B o e=>(O.pin (b,o)<|mU _<|mU _<|Zp B e).1,λb B=>?_,w7);let(o,e,d):=T.obj _ _ F b B;show(O.pin (b,o)<|mU _<|mU _<|Zp B e).2.1
  cases f with
  |next=>let(y,z,O,l):=Q;show again O l
  |cont=>let(y,z,O,l):=Q;show again O l
  |brk=>let(y,z,O,Q):=Q;show(y,z,O.Dx,Q)
  |ret v=>show dj λU=>?_;let(zlB,y,z,O,r7,Q):=Q;show U ?_;show(zlB,y,z,O.Dx,r7,Q)
end
abbrev R2:=V->V->Hp->VK->Prop
def fJ(X:Cx)(f:da->da->ip da)(r:R2):Prop:=
 ∀(a:TW) (s:dy) (b:St) (H:Hp) (x y:V) (v u:da) (Q:VK),Inv X a b H s->RelV x v->RelV y u->r x y H Q->
  ⇑X (f v u) (EP X a b Q) X.xe s
def O0(X:Cx)(f:da->ip da)(r:V->Hp->VK->Prop):Prop:=
 ∀(a:TW) (s:dy) (b:St) (H:Hp) (x:V) (v:da) (Q:VK),Inv X a b H s->RelV x v->r x H Q->
  ⇑X (f v) (EP X a b Q) X.xe s
def J6(X:Cx)(f:da)(r:zn V->Hp->VK->Prop):Prop:=
 ∀(a:TW) (s:dy) (e:St) (H:Hp) (d:zn V) (b:zn da) (Q:VK),Inv X a e H s->d8 d b->r d H Q->
  ⇑X (call f b) (EP X a e Q) X.xe s
def zbn(X:Cx)(r:V->Hp->(Bool->Hp->Prop)->Prop):Prop:=
 ∀(a:TW) (s:dy) (b:St) (H:Hp) (x:V) (v:da) (Q:Bool->Hp->Prop),Inv X a b H s->RelV x v->r x H Q->
  ⇑X (Dt v) (TP X a b Q) X.xe s
def u6(r:R2)(e z:TE):TE:=λa H Q=>e a H λx b=>z a b λy d=>r x y d Q
def tUn(r:V->Hp->VK->Prop)(e:TE):TE:=λb H Q=>e b H λx a=>r x a Q
def rI(C:Int->Int->Prop)(g:Int->Int->V):R2:=λx y H Q=>∃i j,x=.int i/\y=.int j/\C i j/\Q (g i j) H
def nX(g:Int->Int->V):R2:=λx y H Q=>∃i j,x=.int i/\y=.int j/\Q (g i j) H
def rU(g:Int->V):V->Hp->VK->Prop:=λx H Q=>∃i,x=.int i/\Q (g i) H
section
variable{X:Cx}{a b:dE}{ta tb:TE}
theorem Ut(ha:PE X a ta)(hb:PE X b tb){e:TW}{s:dy}{L:St}{H:Hp}{R:V->V->Hp->Prop}(I:Inv X e L H s)
 (h:ta L H λx H1=>tb L H1 λy B=>R x y B) {Q:EQ} {f:da->da->ip da}
 (hf:∀v u S x y B,Inv X e L B S->RelV x v->RelV y u->R x y B->⇑X (f v u) Q X.xe S):
 ⇑X (dv a ⋯) (λv J=>⇑X (dv b ⋯) (λu O=>⇑X (f v u) Q X.xe O) X.xe J) X.xe s:=by
 show dQ (ha e s L H _ I h) λv i z=>?_;let(x,H1,U,d,W):=z;show dQ (hb e i L H1 _ U W) λu S z=>?_;let(y,B,Y,g,Z):=z;show hf v u S x y B Y d g Z
theorem CT(z:fJ X (ot op) r)(B:PE X a ta)(L:PE X b tb):PE X (.BinOp a op b pos) (u6 r ta tb):=by intro d s g H Q I h;show wpAny_BinOp<|Ut B L I h λv u f x y e J O U q=>z d f g e x y v u Q J O U q
theorem Tn(y:O0 X (unaryOp op) r)(B:PE X a ta):PE X (.UnaryOp op a pos) (tUn r ta):=by intro b s d H Q I h;show UnaryOp_<|dQ (B b s d H _ I h) λv g (x,e,z,f,J)=>y b g d e x v Q z f J
theorem F4{f:da->da->ip da}{C:Int->Int->Prop}{g:Int->Int->Int}
 (rule:∀i j t u s Q E,C i j->Q (.int (g i j) s.toks) {s with toks:=s.toks+1}->⇑X (f (.int i t)<|.int j u) Q E s):
 fJ X f (rI C λi j=>.int (g i j)):=by
 intro a s e H x y v u Q I z J h;let(i,j,rfl,rfl,b,q):=h;let(t,rfl):=z;let(d,rfl):=J;show rule i j t d s _ _ b (.int<|g i j,H,I.tok _,(_,rfl),q)
theorem L_{f:da->da->ip da}{g:Int->Int->Int}
 (rule:∀i j t u s Q E,Q (.int (g i j) s.toks) {s with toks:=s.toks+1}->⇑X (f (.int i t)<|.int j u) Q E s):
 fJ X f (nX λi j=>.int (g i j)):=by
 intro a s d H x y v u Q I z J h;let(i,j,rfl,rfl,q):=h;let(t,rfl):=z;let(b,rfl):=J;show rule i j t b s _ _ (.int<|g i j,H,I.tok _,(_,rfl),q)
theorem Ry{f:da->da->ip da}{g:Int->Int->Bool}
 (rule:∀i j t u s Q E,Q (.bool<|g i j) s->⇑X (f (.int i t)<|.int j u) Q E s):
 fJ X f (nX λi j=>.bl (g i j)):=by
 intro a s d H x y v u Q I z J h;let(i,j,rfl,rfl,q):=h;let(t,rfl):=z;let(b,rfl):=J;show rule i j t b s _ _ (.bl<|g i j,H,I,rfl,q)
def J'(i j:Int):Prop:=0<j/\j<1073741824
def I_(i j:Int):Prop:=0<=j/\j<=1000000/\i.natAbs<2^64
def w8(i j:Int):Prop:=(-(2^64)<i/\i<2^64)\/(-(2^64)<j/\j<2^64)
theorem w8.ok(h:w8 i j):IntMulOk i j:=by
 rcases h with⟨a,b⟩|⟨a,b⟩
 .exact .of_left<|intBits_le_64 a b
 .exact .of_right<|intBits_le_64 a b
theorem zjo:fJ X (ot .Add) (nX λi j=>.int (i+j)):=L_ λ_ _ _ _ _ _ _ q=>add_int q
theorem Oj:fJ X (ot .Sub) (nX λi j=>.int (i-j)):=L_ λ_ _ _ _ _ _ _ q=>sub_int q
theorem zjp:fJ X (ot .Mult) (rI w8 λi j=>.int (i*j)):=F4 λ_ _ _ _ _ _ _ a q=>mul_int q a.ok
theorem IP:fJ X (ot .FloorDiv) (rI J' λi j=>.int (i/j)):=F4 λi j _ _ _ _ _ a q=>by have b:=a.1;have d:=a.2;show floordiv_int () (by rw[Int.fdiv_eq_ediv_of_nonneg i ()];show q)<|.inl<|PyProof.noPylong_small ()
theorem On:fJ X (ot .Mod) (rI (λ_ j=>0<j) λi j=>.int (i%j)):=F4 λi j _ _ _ _ _ a q=>by have b:=a;show mod_int' () (by rw[Int.fmod_eq_emod_of_nonneg i ()];show q)
theorem Om:fJ X (ot .Pow) (rI I_ λi j=>.int (i^j.toNat)):=F4 λ_ _ _ _ _ _ _ a q=>pow_int_small a.1 a.2.1 a.2.2 q
theorem unI{f:da->ip da}{g:Int->Int}
 (rule:∀i t s Q E,Q (.int (g i) s.toks) {s with toks:=s.toks+1}->⇑X (f<|.int i t) Q E s):
 O0 X f (rU λi=>.int (g i)):=by
 intro a s b H x v Q I y h;let(i,rfl,q):=h;let(t,rfl):=y;show rule i t s _ _ (.int<|g i,H,I.tok _,(_,rfl),q)
theorem ME:O0 X (unaryOp .USub) (rU λi=>.int (-i)):=unI λ_ _ _ _ _ q=>neg_int q
end
def zaX:V->V->Bool
 |.dw,.dw=>aG|.dw,.int _=>aG|.int _,.dw=>aG|.dw,.bl _=>aG|.bl _,.dw=>aG|.dw,.str _=>aG|.str _,.dw=>aG
 |.int _,.int _=>aG|.bl _,.bl _=>aG|.str _,.str _=>aG|.oL _,.oL _=>aG
 |.int _,.str _=>aG|.str _,.int _=>aG|.bl _,.str _=>aG|.str _,.bl _=>aG
 |_,_=>bB
def l_:R2:=λx y H Q=>zaX x y=aG/\Q (.bl<|decide<|x=y) H
theorem LF:decide (V.int i=V.int j)=(i==j):=by rw[vr];simp
theorem Pi:decide (V.bl i=V.bl j)=(i==j):=by rw[vr];simp
theorem LD:decide (V.str i=V.str j)=(i==j):=by rw[vr];simp
theorem LG:decide (V.oL i=V.oL j)=(i.toList==j.toList):=by
 rw[vr]
 simp_all
section
theorem ku(I:Inv X pins σ H s)(q:Q (.bl k) H)(e:k=k'):EP X pins σ Q (.bool k') s:=by subst e;show(.bl k,H,I,rfl,q)
theorem To:fJ X (i3 .Eq) l_:=by
 intro d s e H x y v u Q I J z h;let(b,q):=h;cases x with
 |dw=>
  cases J;cases y with
  |dw=>cases z;show PySem.EqNone.eq_none_none<|ku I q ()
  |bl j=>cases z;show PySem.EqNone.eq_none_bool<|ku I q ()
  |int j=>let(a,rfl):=z;show PySem.EqNone.eq_none_int<|ku I q ()
  |str j=>let(a,rfl):=z;show PySem.EqNone.eq_none_str<|ku I q ()
  |_=>show absurd b iu
 |bl i=>
  cases J;cases y with
  |dw=>cases z;show PySem.EqNone.eq_bool_none<|ku I q ()
  |bl j=>cases z;show eq_bool<|ku I q Pi
  |str j=>let(a,rfl):=z;show PySem.EqMixed.eq_bool_str<|ku I q ()
  |_=>show absurd b iu
 |int i=>
  let(t,rfl):=J;cases y with
  |dw=>cases z;show PySem.EqNone.eq_int_none<|ku I q ()
  |int j=>let(a,rfl):=z;show eq_int<|ku I q LF
  |str j=>let(a,rfl):=z;show PySem.EqMixed.eq_int_str<|ku I q ()
  |_=>show absurd b iu
 |str i=>
  let(t,rfl):=J;cases y with
  |dw=>cases z;show PySem.EqNone.eq_str_none<|ku I q ()
  |bl j=>cases z;show PySem.EqMixed.eq_str_bool<|ku I q ()
  |int j=>let(a,rfl):=z;show PySem.EqMixed.eq_str_int<|ku I q ()
  |str j=>let(a,rfl):=z;show eq_str<|ku I q LD
  |_=>show absurd b iu
 |oL i=>
  let(t,rfl):=J;cases y with
  |oL j=>let(a,rfl):=z;show PySem.W.eq_bytes<|ku I q LG
  |_=>show absurd (show bB=aG from b) iu
 |_=>cases y<;>show absurd (show bB=aG from b) iu
theorem Ec:fJ X (i3 .Lt) (nX λi j=>.bl (decide<|i<j)):=Ry λ_ _ _ _ _ _ _ q=>lt_int q
theorem Y2:fJ X (i3 .LtE) (nX λi j=>.bl (decide<|i<=j)):=Ry λ_ _ _ _ _ _ _ q=>le_int q
theorem Oo:fJ X (i3 .Gt) (nX λi j=>.bl (decide<|j<i)):=Ry λ_ _ _ _ _ _ _ q=>gt_int q
theorem Oq:fJ X (i3 .GtE) (nX λi j=>.bl (decide<|j<=i)):=Ry λ_ _ _ _ _ _ _ q=>ge_int q
theorem zld:fJ X (i3 .In) (λx y H Q=>∃i j,x=.str i/\y=.str j/\Q (.bl<|!(DM j i 0 j.length 1).isEmpty) H):=by intro a s d H x y v u Q I z J h;let(i,j,rfl,rfl,q):=h;let(t,rfl):=z;let(b,rfl):=J;show in_str<|ku I q rfl
theorem GI:fJ X (i3 .Is) (λx y H Q=>y=.dw/\Q (.bl<|decide<|x=.dw) H):=by
 intro a s b H x y v u Q I z J h;let(rfl,q):=h;cases J;show is_none_gen<|ku I q ?_;cases x<;>first
  |(cases z;rfl)
  |(let(t,rfl):=z;rfl)
def TQ:HO->Bool
 |.lst _=>aG
 |.ins _ _ _=>aG
 |_=>bB
theorem vy{B:TW}{s:dy}{L:St}(I:Inv X B L H s)(h:H a=aF o)(p:TQ o=aG):∃J,s.heap.get? a=aF J/\J.cls ≠ .type "tuple":=by
 cases o with
 |lst b=>
  let(_,y,n,_,e):b.length<=ej/\∃(y:zn da) (n:Nat),d8 b y/\s.heap.get? a=aF {cls:=.type "list",data:=.seq y.toArray n}:=I.dS a _ h;show(_,e,(by change t7 "list" ≠ .type "tuple";decide +kernel))
 |ins C d fs=>
  have x:=I.dS a _ h;let(_,_,_,e,_):=x;show(_,e,(by change nq C ≠ .type "tuple";show λz=>by cases z))
 |_=>show absurd (show bB=aG from p) iu
theorem fJ.or(h:fJ X f r)(h':fJ X f r'):fJ X f (λx y H Q=>r x y H Q\/r' x y H Q):=by
 intro a s b H x y v u Q I z J q;rcases q with q|q
 .exact h a s b H x y v u Q I z J q
 .exact h' a s b H x y v u Q I z J q
theorem yP(b:dE)(h:op ≠ .In:=by decide)(e:op ≠ .NotIn:=by decide):nv op b=bB:=by
 have a:(op==CmpOp.In)=bB:=()
 have y:(op==CmpOp.NotIn)=bB:=()
 cases b<;>simp[nv,a,y]
theorem Wp(z:fJ X (i3 op) r)(B:PE X a ta)(L:PE X b tb)(S:nv op b=bB):PE X (.Compare a [op] [b] pos) (u6 r ta tb):=by intro d s g H Q I h;show wpAny_Compare1 (Ut B L I h λv u f x y e J O U q=>z d f g e x y v u Q J O U q) S
def Cb(t:TE):TT:=λb H Q=>t b H λx a=>∃k,x=.bl k/\Q k a
theorem wM(J:fJ X (i3 op) r)(B:PE X a ta)(L:PE X b tb)(S:nv op b=bB):PT X (.Compare a [op] [b] pos) (Cb<|u6 r ta tb):=by intro d s e H Q I h;show zlw (dQ (B d s e H _ I h) ?_) S;rintro v o ⟨x,f,O,l,U⟩;show dQ (L d o e f _ O U) ?_;rintro u p ⟨y,g,W,m,Y⟩;show dQ (J d p e g x y v u _ W l m Y) ?_;rintro c t ⟨z,Z,i,n,k,rfl,j⟩;cases n;show sf (Z,i,j)
def FP(r e:R2)(B L J:TE):TE:=λa H Q=>B a H λx b=>L a b λy d=>r x y d λz I=>∃k,z=.bl k/\
 (if k=aG then J a I λf O=>e y f O Q else Q (.bl bB) I)
theorem CY(W:fJ X (i3 op) r)(Y:fJ X (i3 Dh) r')(B:PE X a ta)(L:PE X b tb)(S:PE X c tc)
 (hm:PM [op,Dh] [b,c]=bB:=by with_unfolding_all rfl):PE X (.Compare a [op,Dh] [b,c] pos) (FP r r' ta tb tc):=by
 intro e s f H Q I h;show Compare_chain (dQ (B e s f H _ I h) ?_) hm;rintro v E ⟨x,i,Z,w,o⟩;show chain_link<|dQ (L e E f i _ Z o) ?_;rintro u F ⟨y,j,m,g,p⟩;show dQ (W e F f j x y v u _ m w g p) ?_;rintro d G ⟨z,J,O,A,k,rfl,U⟩;cases A;show sf ?_;cases k with
 |false=>show ite_ff (.bl bB,J,O,rfl,U)
 |true=>show ite_tt<|chain_last<|dQ (S e G f J _ O U) λM K (N,l,n,C,t)=>Y e K f l y N u M Q n g C t
theorem Cw{J O:CmpOp}(Z:fJ X (i3 J) r)(B:fJ X (i3 O) r')(L:PE X a ta)(S:PE X b tb)(hc:PE X c tc)
 (hm:PM [J,O] [b,c]=bB:=by with_unfolding_all rfl):PT X (.Compare a [J,O] [b,c] pos) (Cb<|FP r r' ta tb tc):=by
 intro e s f H Q I h;show isTrue_chain (dQ (L e s f H _ I h) ?_) hm;rintro v T ⟨x,i,n,M,E⟩;show test_link<|dQ (S e T f i _ n E) ?_;rintro u s2 ⟨y,j,o,g,F⟩;show dQ (Z e s2 f j x y v u _ o M g F) ?_;rintro d s3 ⟨z,U,W,N,k,rfl,Y⟩;cases N;show sf ?_;cases k with
 |false=>
  let(k',w,C):=Y;cases w;show ite_ff (U,W,C)
 |true=>
  show ite_tt<|test_last<|dQ (hc e s3 f U _ W Y) λw' s4 (z',l,p,P,G)=>dQ (B e s4 f l y z' u w' _ p g P G) λd' s5 (z2,m,t,R,k2,A,K)=>?_;subst A;cases R;show sf (m,t,K)
def F_(K:cL)(x:V)(H:Hp)(k:Bool):Prop:=
 match x with
 |.dw=>k=bB
 |.bl b=>k=b
 |.int i=>k=(i != 0)
 |.str y=>y.length<=ej/\k=((y.length:Int) != 0)
 |.oL y=>y.size<=ej/\k=((y.size:Int) != 0)
 |.ref p=>(∃d,eJ K H p d/\k = !d.isEmpty)\/(∃d,fC K H p d/\k = !d.isEmpty)\/∃a,H p=aF (.dK a)/\k = !a.isEmpty
 |_=>False
theorem zjO(r:KV hL vs):(!vs.isEmpty) = !hL.isEmpty:=by cases r<;>rfl
theorem VF(r:d8 xs its):(!its.toArray.isEmpty) = !xs.isEmpty:=by cases r<;>simp
theorem Yd:(ej:Nat)<2^63:=by rw[oo];decide
theorem MG:zbn X (λx H Q=>∃k,F_ X.K x H k/\Q k H):=by
 intro a s w H x v Q I J h;let(k,e,q):=h;have n:=Yd;have o:=oo;cases x with
 |dw=>
  cases J;have z:=e;subst z;show truthy_none (H,I,q)
 |bl b=>
  cases J;have z:=e;subst z;show sf (H,I,q)
 |int i=>
  let(t,rfl):=J;have z:=e;subst z;show PySem.P.truthy_int (H,I,q)
 |str y=>
  let(t,rfl):=J;let(g,z):_/\_:=e;subst z;show PySem.P.truthy_str () (H,I.tok _,q)
 |oL y=>
  let(t,rfl):=J;let(g,z):_/\_:=e;subst z;show PySem.W.truthy_bytes () (H,I.tok _,q)
 | ref p=>
  cases J;have z:=e;rcases z with⟨l,O,z⟩|⟨l,O,z⟩|⟨j,O,z⟩
  .subst z
   let(d,r,U,Y):=I.list O;have Z:=r.length;show wpAny_truthy_list U.isList (by simp?[gN];lia) (H,I.tok _,by rw[VF r];show q)
  .subst z
   let(d,r,U,Y):=I.tuple O;have Z:=r.length;show truthy_tuple U (by simp?[gN];lia) (H,I.tok _,by rw[VF r];show q)
  .subst z
   let(Y,f,u,r,m):_/\_:=I.dS p _ O;have Z:=Paired.length r;show wpAny_truthy_dict f m () (H,I.tok _,by rw[zjO r];show q)
 |_=>show(e).elim
theorem Cv(L:PE X a ta)(he:∀y,uK a ⋯ y=(do let v<-y;oS a.pos;my [v] (Dt v))):
 PT X a (λe H Q=>ta e H λx B=>∃k,F_ X.K x B k/\Q k B):=by
 intro b s e H Q I h;show isTrue_plain (dQ (L b s e H _ I h) λv g (x,d,z,f,J)=>MG b g e d x v Q z f J)<|he _
theorem zjn:fJ X (ot .Add) (λx y H Q=>∃i j,x=.str i/\y=.str j/\i.length+j.length<=ej/\Q (.str<|i++j) H):=by intro a s e H x y v u Q I z J h;let(i,j,rfl,rfl,O,q):=h;let(t,rfl):=z;let(b,rfl):=J;show add_str (λb d=>(.str<|i++j,H,I.tok _,(_,rfl),q)) O
theorem yc(r:d8 [x] us):∃u,us=[u]/\RelV x u:=by
 cases r with
 |cons a b=>cases b;show(_,rfl,a)
theorem Mw(r:d8 [x,y] us):∃u w',us=[u,w']/\RelV x u/\RelV y w':=by
 cases r with
 |cons a b=>
  cases b with
  |cons z I=>cases I;show(_,_,rfl,a,z)
theorem Be(e:X.calm=aG):J6 X (.builtin "min") (λxs H Q=>∃i j,xs=[.int i,.int j]/\Q (.int (if j<i then j else i)) H):=by
 intro a s m H xs g Q I r h;let(i,j,rfl,q):=h;let(u,l,rfl,(t,rfl),(d,rfl)):=Mw r;show min_two_ints (I.ok.hd e) λb f k=>(_,H,I.kept k,?_,q);by_cases y:j<i
 .rw[DJ y,DJ y];show(_,rfl)
 .rw[DY y,DY y];show(_,rfl)
theorem Bg:J6 X (.type "int") (λxs H Q=>(∃i,xs=[.int i]/\Q (.int i) H)\/∃k,xs=[.bl k]/\Q (.int (if k then 1 else 0)) H):=by
 intro a s e H xs d Q I r h;rcases h with⟨i,rfl,q⟩|⟨k,rfl,q⟩
 .let(u,rfl,t,rfl):=yc r
  show call_int_int (.int i,H,I,(_,rfl),q)
 .let(u,rfl,b):=yc r
  cases b;show call_int_bool (.int _,H,I.tok _,(_,rfl),q)
theorem dA:J6 X (.type "str") (λxs H Q=>∃i,xs=[.int i]/\i.natAbs.log2<1920/\Q (.str (toString i)) H):=by intro a s d H xs b Q I r h;let(i,rfl,y,q):=h;let(u,rfl,t,rfl):=yc r;show PySem.P.str_of_int y (.str _,H,I.tok _,(_,rfl),q)
end
structure uw(h:dV)(x dx C:cI)(mA:DZ):Prop where
 obj:h.get? x=aF (D1 C dx)
 ns:h.Ns1 dx mA
 ne:dx≠x
set_option tactic.hygienic true in
theorem zkW{h:dV}{B:cI}{H:DZ}(n:h.Ns1 B H):∃od,h.get? B=aF od/\∀name,Sn name od=aF (H name):=by
 let(o,b,g,I,d,J,_,f):=n;show(o,I,λname=>?_);have e:=f name;erw[nsFind,findBy]at e;rw[<-Array.find?_toList]at e;erw[Sn];rw[d];dsimp only;split
 .rename_i y q
  rw[q]at e;show congrArg aF e
 .rename_i q
  rw[q]at e;have a:b.toList.any (·.refKey)=bB:=by rw[S9];intro y O;let(z,t,Q):=J y<|Array.mem_toList_iff.mp O;simp[DictEntry.refKey,Q]
  grind
theorem uw.look(I:uw h x dx C mA):∃od,PySem.W.InstAt h x (D1 C dx) C (aF od)/\∀name,Sn name od=aF (mA name):=
 let (od,y,z):=zkW I.ns
 (od,(I.obj,rfl,rfl,y),z)
section
variable{prog:eA}{w:eu}{A:hO}{E:EQ}{s:dy}{K:cL}{x dx C f:cI}{mA:DZ}{name:Str}{v:da}
theorem Lp(X:K.In s.heap)(I:uw s.heap x dx C mA)(y:zv K C name=aG)(z:DC K C=aG)
 (e:g0 K (.ref C) name=aF aT) (O:mA name=aF v) (U:PySem.W.handedIn v=aG) (h:Q v {s with toks:=s.toks+1}):
 wpAny (dq prog w) A (FG (.ref x) name expr) Q E s:=by
 let(a,J,Y):=I.look;show PySem.W.get_value X J (_g y).1 (PySem.W.findObj_own z e rfl<|by rw[Y,O]) U h
theorem ER(X:K.In s.heap)(I:uw s.heap x dx C mA)(y:zv K C name=aG)
 (e:g0 K (.ref C) name=aF (aF (.ref f))) (z:tW K (.ref f)=aG) (O:mA name=aT) (h:Q (.ref f,[.ref x]) s):
 wpAny (dq prog w) A (uH (.ref x) name pl) Q E s:=by
 let(a,J,U):=I.look;show PySem.W.method_fn X J (_g y).1 (_g y).2 e (beq_iff_eq.mp z) (by change(Sn name a).map (·.isSome)=aF bB;rw[U,O];rfl) h
theorem HY(X:K.In s.heap)(I:uw s.heap x dx C mA)
 (hs:g0 K (.ref C) "__setattr__" = aF (aF (.builtin "object.__setattr__"))) (B:L0 K C=aG) (U:PySem.W.takerIn K C name=aF aT) (Y:DC K C=aG)
 (H:D6 mA ns) (hsz:ns.length<=ej)
 (h:∀h',uw h' x dx C (λy=>if y=name then aF v else mA y)->tP dx s.heap h'->Q ⟨⟩ {s with heap:=h',toks:=s.toks+2}):
 wpAny (dq prog w) A (P9 (.ref x) name v) Q E s:=by
 let(m,J,l):=I.look;show PySem.W.set_plain X J hs<|PySem.W.osa_open X J B U λb=>?_;let(k,f,Z):=_L Y;have g:=I.obj;show cS<|d7<|cS<|cS<|wpAny_loadPart g<|cS<|DU.here (PySem.W.looks_clsIn X f) ?_;rw[Z];show d7<|cS<|d7<|cS ?_;show wpAny_nsSet1 I.ns λh' z O=>?_;let(oD,i,j,a,d,e):=z.count<|D6.cons name v H;show cS<|wpAny_lookBehind a (by rw[d];show pastItsLine_dict<|fZ e<|by rw[nK];lia) ?_;show d7<|h _ ((O.2 _<|ew I.ne).trans I.obj,z,I.ne) O
theorem Es(X:K.In s.heap)(B:LO K C=aG)
 (z:g0 K (.ref C) "__init__" = aF (aF (.ref f))) (e:A5 K (.ref f)=aF (.type "function"))
 (h:codeAny (dq prog w) (A.under (.builtin "type.__call__" (.ref C::vs,kw))) (.call (.ref f) (.ref (↥s+1)::vs,kw)) (PySem.W.InitBack (↥s+1) R)
   {s with heap:=(s.heap.push DD).push (D1 C ↥s)}):
 codeAny (dq prog w) A (.call (.ref C) (vs,kw)) R s:=by
 let(y,g,d,t,os):=s;show PySem.W.make_core (PySem.W.makes_of X B) (PySem.W.looks_findIn X z) (λa=>PySem.W.bind_fn X a e) (.inl rfl) h
end
def aE(f:Str)(v:V):zn (Str×V)->zn (Str×V)
 |[]=>[(f,v)]
 |(g,x)::r=>if g=f then (g,v)::r else (g,x)::aE f v r
theorem ZZ(f g:Str)(v:V):∀fs,(aE f v fs).lookup g=if g=f then aF v else fs.lookup g
 | []=>by
  change z5 g [(f,v)]=_;by_cases h:g=f
  .have a:=beq_iff_eq.mpr h
   simp?[z5,a,DJ h]
  .have a:=beq_eq_false_iff_ne.mpr h
   simp?[z5,a,DY h]
 |(k,x)::r=>by
  have y:=ZZ f g v r;rw[show aE f v _=(if k=f then (k,v)::r else (k,x)::aE f v r)from rfl]
  grind
theorem Yg(f:Str)(v:V):∀fs,f∈(aE f v fs).map (·.1)/\∀g,g∈fs.map (·.1)->g∈(aE f v fs).map (·.1)
 |[]=>(by simp[aE],λg h=>by simp at h)
 |(k,x)::r=>by
  let(y,z):=Yg f v r;rw[show aE f v _=(if k=f then (k,v)::r else (k,x)::aE f v r)from rfl]
  grind
theorem Yf(f:Str)(v:V):∀fs,(aE f v fs).length<=fs.length+1
 |[]=>by simp[aE]
 |(k,x)::r=>by
  have z:=Yf f v r;rw[show aE f v _=(if k=f then (k,v)::r else (k,x)::aE f v r)from rfl];by_cases y:k=f
  .rw[DJ y,nK,nK];lia
  .rw[DY y,nK,nK];lia
theorem nT.some_of(r:nT (aF v) o):∃u,o=aF u/\RelV v u:=by
 cases o with
 |none=>show(r).elim
 |some u=>show(u,rfl,r)
theorem nT.none_of(r:nT aT o):o=aT:=by
 cases o with
 |none=>rfl
 |some u=>show(r).elim
theorem Aq(r:RelV v u):PySem.W.handedIn u=aG:=by
 cases v with
 |dw=>cases r;rfl
 |bl b=>cases r;rfl
 |int i=>let(t,e):=(r);cases e;rfl
 |str x=>let(t,e):=(r);cases e;rfl
 |oL b=>let(t,e):=(r);cases e;rfl
 |uG b=>let(t,e):=(r);cases e;rfl
 |ref a=>cases r;rfl
 |ty n=>cases r;rfl
section
theorem Yk(B:gm P w H h)(e:H a=aF (.ins C dx fs)):∃mA,uw h a dx C mA/\(∀f,nT (fs.lookup f)<|mA f)/\D6 mA (fs.map (·.1))/\fs.length<=1000/\H dx=aF (.own a):=by show dj λy=>?_;let(d,z,b,I,mA,n,r,q):=(B a _ e);show y ?_;show(mA,(I,n,b),r,q,z,d)
end
structure oF(K:cL)(C:cI):Prop where
 zjQ:zv K C o4=aG
 hd:DC K C=aG
 po:L0 K C=aG
 zkr:g0 K (.ref C) "__setattr__" = aF (aF (.builtin "object.__setattr__"))
theorem oF.get{K:cL}{C:cI}(c:oF K C)(f:Str):zv K C f=aG:=c.zjQ
def pD(K:cL)(C:cI)(f:Str):Prop:=g0 K (.ref C) f=aF aT
theorem pD.zkK{K:cL}{C:cI}{f:Str}(n:pD K C f):PySem.W.takerIn K C f=aF aT:=by erw[PySem.W.takerIn];rw[n];rfl
structure ro(K:cL)(C:cI)(m:Str)(f:cI):Prop where
 at_:g0 K (.ref C) m=aF (aF (.ref f))
 fn:tW K (.ref f)=aG
 kp:lK K (.ref f)=aG
section
theorem zjV(I:Inv X pins σ H s)(e:H a=aF (.ins C dx fs))(c:oF X.K C)(n:pD X.K C f)(l:fs.lookup f=aF v)
 (h:∀u B,Inv X pins σ H B->RelV v u->Q u B):wpAny (dq X.prog X.w) A (FG (.ref a) f b) Q E s:=by
 let(d,O,r,_,_,_):=Yk I.dS e;let(u,z,y):=nT.some_of (by rw[<-l];show r f);show Lp I.eF O (c.get f) c.hd n z (Aq y)<|h u _ (I.tok _) y
theorem VI(I:Inv X pins σ H s)(e:H a=aF (.ins C dx fs))(c:oF X.K C)(k:ro X.K C m g)(l:fs.lookup m=aT)
 (h:Q (.ref g,[.ref a]) s):wpAny (dq X.prog X.w) A (uH (.ref a) m pl) Q E s:=by
 let(d,O,r,_,_,_):=Yk I.dS e;have b:=nT.none_of (by rw[<-l];show r m);show ER I.eF O (c.get m) k.at_ k.fn b h
theorem ziE(I:Inv X pins σ H s)(e:H a=aF (.ins C dx fs))(c:oF X.K C)(n:pD X.K C f)(L:fs.length<1000)(Y:RelV y u)
 (h:∀B,Inv X pins σ (upd H a<|.ins C dx<|aE f y fs) B->Q ⟨⟩ B):wpAny (dq X.prog X.w) A (P9 (.ref a) f u) Q E s:=by
 let(p,O,r,U,_,W):=Yk I.dS e;have Z:(fs.map (·.1)).length<=ej:=by rw[gr,oo];lia
 show HY I.eF O c.zkr c.po n.zkK c.hd U Z λi J m=>h _ ?_;have k:∃o,i.get? dx=aF o:=let (o,_,_,d,_):=J.ns;(o,d);show I.write (by rw[e];show mY) (.inr W) (λb q j z=>(m.2 b j).trans z) k ?_;show(by rw[zC O.ne];show W,?_,O.ne,J.obj,_,J.ns,λg=>?_,λg l=>?_)
 .have:=Yf f y fs;lia
 .rw[ZZ]
  by_cases q:g=f
  .rw[DJ q,DJ q];show Y
  .rw[DY q,DY q];show r g
 .by_cases q:g=f
  .rw[q];show(Yg f y fs).1
  .refine(Yg f y fs).2 g (U g λz=>l ?_)
   lia
theorem Inv.made(I:Inv X pins σ H s):Inv X pins σ (upd (upd H ↥s<|.own<|↥s+1) (↥s+1)<|.ins C ↥s [])
 {s with heap:=(s.heap.push DD).push (D1 C ↥s)}:=by
 have a:_=aF DD:=ir s.heap rfl;have z:=by
  have:=ir (s.heap.push DD) (o:=D1 C ↥s) rfl
  rwa [nc]at this
 have J:(s.heap.push DD).Ns _ _:=(DD,#[],_,a,rfl,(λe f=>absurd f ()),λ_=>rfl);have O:=I.laid (o:=.own (↥s+1)) (t':=s.toks) (λb u q=>eo _ q) (ec _) (_,a);show O.laid (λb u q=>eo _ q) (Ms<|nc _ _) ?_;have d:_≠↥s+1:=gq<|o1 _;show(by rw[zC d,zA],l6 _,d,z,λ_=>aT,(Heap.Ns1.of_empty J).at λo q=>eo _ q,λ_=>mY,λy Q=>absurd rfl Q)
theorem Bl(z:pF e f env (dv e env)=dv e env)
 (h:wpAny (dq prog w) A (dv e env) (λo y=>wpAny (dq prog w) A (FG o f aG) Q E y) E s):wpAny (dq prog w) A (dv (.Attribute e f pos) env) Q E s:=
 Attribute_any_ h (by simp?[arm_eval_Attribute,z])
end
def Rq(K:cL)(e:TE)(f:Str):TE:=λg H Q=>e g H λx b=>∃a C d fs v,x=.ref a/\b a=aF (.ins C d fs)/\oF K C/\pD K C f/\fs.lookup f=aF v/\Q v b
def Ng(K:cL)(B z:TE)(f:Str):TS:=λD b H=>z b H λy g=>B b g λx d=>∃a C e fs,x=.ref a/\d a=aF (.ins C e fs)/\oF K C/\pD K C f/\fs.length<1000/\
 D.nx b (upd d a<|.ins C e<|aE f y fs)
section
theorem JA(L:PE X e ta)(B:pF e f ⋯ (dv e ⋯)=dv e ⋯):PE X (.Attribute e f pos) (Rq X.K ta f):=by intro b s i H Q I h;show Bl B<|dQ (L b s i H _ I h) λu k y=>?_;show dj λz=>?_;let(x,d,J,O,a,C,j,fs,v,g,U,c,n,l,q):=y;subst g;obtain rfl:u=nq a:=O;show z ?_;show zjV J U c n l λZ m W Y=>(v,d,W,Y,q)
theorem lD(B:PE X o ta)(z:PE X value zkP)(hs:ni value (aF (.Attribute o f pos')) pos.line ⋯=pure bB):PS X (.Assign [.Attribute o f pos'] value pos) (Ng X.K ta zkP f):=by intro b s d H D I h;show zgV (dQ (z b s d H _ I h) ?_) hs;rintro u i ⟨y,e,J,O,q⟩;show dQ (B b i d e _ J q) ?_;rintro Q m ⟨x,j,U,W,a,C,k,fs,rfl,Y,c,n,l,Z⟩;obtain rfl:Q=nq a:=W;show ziE U Y c n l O λp g=>(d,_,g,Z)
end
section
inductive oq(K:cL)(H:Hp):V->da->Prop where
 |dw:oq K H .dw (.type "NoneType")
 |bl (x:Bool):oq K H (.bl x) (.type "bool")
 |int (i:Int):oq K H (.int i) (.type "int")
 |str (x:Str):oq K H (.str x) (.type "str")
 |uG (x:UInt64):oq K H (.uG x) (.type "float")
 |lst {a:cI} {xs:List V} (e:H a=aF (.lst xs)):oq K H (.ref a) (.type "list")
 |ny {a:cI} {o:gB} {xs:List V} (e:H a=aF (.ny o (.lst xs))):oq K H (.ref a) (.type "list")
 |tup {a:cI} {xs:List V} (e:H a=aF (.tup xs)):oq K H (.ref a) (.type "tuple")
 |dK {a:cI} {hL:List (Key×V)} (e:H a=aF (.dK hL)):oq K H (.ref a) (.type "dict")
 |dT {a:cI} {hL:List (List Key×V)} (e:H a=aF (.dT hL)):oq K H (.ref a) (.type "dict")
 |ins {a C dx:cI} {fs:List (Str×V)} (e:H a=aF (.ins C dx fs)) (cl:oF K C) (ha:g0 K (.ref C) "__class__" = aF (aF (.builtin "object.__class__")))
  (hn:LQ K (.builtin "object.__class__") "__get__" = aF (aF (.builtin "getset_descriptor.__get__"))) (U8:PySem.W.takesIn K (.builtin "object.__class__")=aF aG)
  (hm:pw K C (.type "object")=aF aG):oq K H (.ref a) (.ref C)
theorem Ac(I:Inv X pins σ H s)(U:RelV x u)(ty:oq X.K H x t)(e:oy X.K t c=aF b)(h:∀L,Q (.bool b) {s with toks:=L}):
 wpAny (dq X.prog X.w) A (call (.builtin "isinstance") [u,c]) Q E s:=by
 cases ty with
 |dw=>cases U;show l9 _A I.eF mY e (λz=>nomatch z) h
 |bl y=>cases U;show l9 _B I.eF mY e (λz=>nomatch z) h
 |int i=>let(t,q):=(U);cases q;show l9 _K I.eF mY e (λz=>nomatch z) h
 |str y=>let(t,q):=(U);cases q;show l9 _J I.eF mY e (λz=>nomatch z) h
 |uG y=>let(t,q):=(U);cases q;show l9 PySem.W.kitx_float I.eF mY e (λz=>nomatch z) h
 |@lst a k Y=>
  cases U;let(_,_,n,_,d):=(I.dS a _ Y);show l9 S2 I.eF (_,d,rfl) e (λz=>nomatch z) h
 |@ny a Z k Y=>
  cases U;let(_,_,_,n,_,d):=(I.dS a _ Y);show l9 S2 I.eF (_,d,rfl) e (λz=>nomatch z) h
 |@tup a k Y=>
  cases U;let(_,_,_,p):=(I.dS a _ Y);let(o,d,f,_):=p;show l9 Z' I.eF (o,d,(Prod.mk.inj f).1) e (λz=>nomatch z) h
 |@dK a j Y=>
  cases U;let(_,_,R,_,p):=(I.dS a _ Y);let(o,r,m,d,f,_):=p;show l9 DI I.eF (o,d,f.1) e (λz=>nomatch z) h
 |@dT a j Y=>
  cases U;let(_,_,k,_,o,r,m,d,f,_):=(I.dS a _ Y);show l9 DI I.eF (o,d,f.1) e (λz=>nomatch z) h
 |@ins a C M fs Y l B G g F=>
  cases U;let(N,O,_):=Yk I.dS Y;let(P,J,_):=O.look;show l9 (PySem.W.kitx_own (l.get _) l.hd B G g F) I.eF J e (λz=>nomatch z) h
end
structure g6(k:Nat)(A:hO):Prop where
 hd:A.handled=aT
 dp:A.depth+3*k+5<n_
 un:A.units+16*k+200<s8
theorem g6.mono(r:g6 k A)(h:j<=k):g6 j A:=(r.hd,by have:=r.dp;lia,by have:=r.un;lia)
theorem g6.deeper(r:g6 (k+1) A)(env:hH):g6 k (A.deeper env):=
 (r.hd,by have:=r.dp;change A.depth+1+3*k+5<_;lia,by have:=r.un;change A.units+3+16*k+200<_;lia)
theorem g6.in1(r:g6 (k+1) A):g6 k A.in1:=
 (r.hd,by have:=r.dp;lia,by have:=r.un;lia)
theorem zja{A:hO}{C:cI}{e:zn da}{y:zn (Str×da)}:(A.under (.builtin "type.__call__" (.ref C::e,y))).depth=A.depth+1:=by rfl
theorem zi8{A:hO}{C:cI}{e:zn da}{y:zn (Str×da)}:(A.under (.builtin "type.__call__" (.ref C::e,y))).units=A.units+1:=by rfl
theorem g6.make(r:g6 (k+1) A)(C:cI)(e:zn da)(y:zn (Str×da)):g6 k (A.under (.builtin "type.__call__" (.ref C::e,y))):=
 (r.hd,by have:=r.dp;rw[zja];lia,by have:=r.un;rw[zi8];lia)
theorem g6.depth(r:g6 k A):A.depth<n_:=by have:=r.dp;lia
def pW:TA:=λ_ H Q=>Q [] H
def Zx(e:TE)(y:TA):TA:=λa H Q=>e a H λx b=>y a b λf d=>Q (x::f) d
section
theorem jH:PA X [] pW:=λ_ _ _ _ H Q I h=>vu ([],H,I,.nil,h)
theorem zS(B:PE X e te)(y:PA X es t)(hs:dU (e::es) ⋯=(bB,dv e ⋯)::dU es ⋯:=by rfl):PA X (e::es) (Zx te t):=by intro pos a s b H Q I h;rw[hs];show oC<|dQ (B a s b H _ I h) λu j z=>?_;let(x,d,J,g,O):=z;show dQ (y pos a j b d _ J O) λm l (k,f,U,i,W)=>(x::k,f,U,.cons g i,W)
def zaQ(t:TA):TE:=λd H Q=>t d H λb a=>b.length<=ej/\∀p,a p=aT->Q (.ref p) (upd a p<|.tup b)
def zaT(t:TA):TE:=λd H Q=>t d H λb a=>b.length<=ej/\∀p,a p=aT->Q (.ref p) (upd a p<|.lst b)
theorem NW(h:PA X es t):PE X (.Tuple es x1 pos) (zaQ t):=by intro a s i H Q I f;show zlr<|dQ (h pos a s i H _ I f) λg k (l,j,y,r,z,q)=>(by rw[<-r.length];show z,?_);have d:=y.dS.fresh<|ec _;show(.ref _,_,y.laid (λb u e=>eo _ e) (ec _) ?_,rfl,q _ d);show(z,g,r,(_,ir _ rfl,rfl,_,rfl))
theorem NZ(h:PA X es t):PE X (.List es pos) (zaT t):=by intro a s i H Q I f;show wpAny_List_spliced<|dQ (h pos a s i H _ I f) λg k (l,j,y,r,z,q)=>(by rw[<-r.length];show z,?_);have d:=y.dS.fresh<|ec _;show(.ref _,_,y.laid (λb u e=>eo _ e) (ec _) ?_,rfl,q _ d);show(z,g,0,r,ir _ rfl)
end
abbrev Sp:=zn V->Hp->VK->XK->Prop
abbrev o9:=zn hH->Hp->dy->XK->da->dy->Prop
structure pa(P:eA)(w:eu)(K:cL)(mg:DZ)(base:dV)(A:hO)(outer:List hH)(s:dy)(H:Hp):Prop where
 frames:A.frames=aF outer
 mod:Mod K mg base
 bs:∀b o,base.get? b=aF o->s.heap.get? b=aF o/\H b=aT
 oK:base.objs.size<=↥s
 nz:s.heap.FunFrames base outer
 ph:∀b∈m4 outer,H b=aT
 dS:gm P w H s.heap
 bare:pA s.gens
def CE(outer:zn hH)(P:eA)(w:eu)(H:Hp)(s:dy)(Q:VK)(u:da)(e:dy):Prop:=
 ∃v a,e.os=s.os/\pA e.gens/\Un (m4 outer) [] H a s.heap e.heap/\gm P w a e.heap/\RelV v u/\Q v a
def CR(CX:o9)(outer:zn hH)(P:eA)(w:eu)(H:Hp)(s:dy)(Q:VK)(E:XK)(r:Result)(z:dy):Prop:=
 match r with
 |.ok (.ret u)=>CE outer P w H s Q u z
 |.ok _=>False
 |.error e=>CX outer H s E e z
structure fy(P:eA)(w:eu)(K:cL)(mg:DZ)(base:dV)(CX:o9)(k:Nat)(f:cI)(fd:gv)(ps:List Str)(sp:Sp):Prop where
 len:∀vs H Q E,sp vs H Q E->vs.length=ps.length
 run:∀(A:hO) (outer:List hH) (s:dy) (H:Hp) (args:Args) (us:List da) (vs:List V) (Q:VK) (E:XK),g6 k A->↑pa A outer s H->D8 s fd args (ps.zip us)->d8 vs us->sp vs H Q E->
  codeAny (dq P w) A (.call (.ref f) args) (CR CX outer P w H s Q E) s
theorem pa.make{P:eA}{w:eu}{K:cL}{z:DZ}{base:dV}{A:hO}{outer:zn hH}{s:dy}{H:Hp}(e:pa P w K z base A outer s H)(C:cI)(B:zn da)(y:zn (Str×da)):
 pa P w K z base (A.under (.builtin "type.__call__" (.ref C::B,y))) outer s H:=(by first|show e.frames|(simpa[Around.under,Code.envs,Code.isFrame,pushEnvs]using e.frames),e.mod,e.bs,e.oK,e.nz,e.ph,e.dS,e.bare)
theorem pa.in1{P:eA}{w:eu}{K:cL}{z:DZ}{base:dV}{A:hO}{outer:zn hH}{s:dy}{H:Hp}(e:pa P w K z base A outer s H):
 pa P w K z base A.in1 outer s H:=(e.frames,e.mod,e.bs,e.oK,e.nz,e.ph,e.dS,e.bare)
section
theorem Inv.ow(I:Inv X pins σ H s):⇑pa X.A X.stack s H:=
 (I.ok.frames,I.ok.mod,I.bs,fZ I.ok.oK I.sz,I.stack,I.Dn,I.dS,I.bare)
theorem Inv.after(I:Inv X pins σ H s)(h:CE X.stack X.prog X.w H s Q u s'):EP X pins σ Q u s':=by let(v,f,os,a,un,e,r,q):=h;let(J,g,d,t,y):=s';obtain rfl:y=s.os:=os;show(v,f,I.call un e a<|λb z=>absurd z (),r,q)
end
def aY(sp:Sp)(y:zn V)(E:XK)(t:TA):TE:=λd H Q=>t d H λb a=>sp (b++y) a Q E
def SJ(C:cI)(m:Str)(sp:Sp)(y:zn V)(E:XK)(z:TE)(t:TA):TE:=λd H Q=>z d H λx b=>∃a f fs,x=.ref a/\b a=aF (.ins C f fs)/\fs.lookup m=aT/\
 t d b λg e=>sp (x::(g++y)) e Q E
def eP(C:cI)(sp:Sp)(y:zn V)(E:XK)(t:TA):TE:=λf H Q=>t f H λe b=>∀x a,b x=aT->b a=aT->a≠x->
 sp (.ref x::(e++y)) (upd (upd b a<|.own x) x<|.ins C a []) (λv d=>v=.dw/\Q (.ref x) d) E
def Binds(K:cL)(z:gv)(ps:zn Str)(e:zn da):Prop:=
 ∀(s:dy) (a:zn da),K.In s.heap->(a++e).length=ps.length->D8 s z (a,[]) (ps.zip<|a++e)
theorem Binds.all{K:cL}{z:gv}{ps:zn Str}(h:∀e,e.length=ps.length->rz z (e,[])=pure (ps.zip e)):Binds K z ps []:=λs e _ y=>by rw[MZ]at y ⊢;show .of_eq<|h e y
def YN(CX:o9)(X:Cx)(E:XK):Prop:=∀(a:TW) (d:St) (H:Hp) (s:dy) (e:da) (b:dy),Inv X a d H s->CX X.stack H s E e b->X.xe e b
section
theorem Gq(F:⇑fy CX k f fd ps sp)(y:g6 k X.A)(B:Binds X.K fd ps ds)(L:d8 ou ds)(z:YN CX X E)
 (I:Inv X pins σ H s) (r:d8 vs us) (h:sp (vs++ou) H Q E):⇑X (call (.ref f) us) (EP X pins σ Q) X.xe s:=by
 have b:=r.append L;have J:(us++ds).length=ps.length:=by rw[<-b.length];show F.len _ _ _ _ h
 show q0<|t9 (F.run X.A X.stack s H _ (us++ds) (vs++ou) Q E y I.ow (B s us I.eF J) b h) λr g a=>?_;cases r with
 |error e=>show z pins σ H s e g I a
 |ok d=>
  cases d with
  |ret u=>show I.after a
  |next=>assumption
  |brk=>assumption
  |cont=>assumption
theorem ZX(F:⇑fy CX k f fd ps sp)(z:g6 k X.A)(J:Gl X x)(hm:X.mg x=aF (.ref f))(O:lK X.K (.ref f)=aG)(L:Binds X.K fd ps ds)(S:d8 ou ds)(U:YN CX X E)
 (B:PA X (e::es) t) (W:(x==("__debug__"))=bB:=by decide) (Z:dU (e::es) ⋯=(bB,dv e ⋯)::dU es ⋯:=by rfl) (Y:(gE pos (dU es ⋯)).any (·.1)=bB:=by rfl):
 PE X (.Call (.Name x p) (e::es) [] pos) (aY sp ou E t):=by
 intro a s b H Q I h;show pk<|yq I J hm ?_ W;show DG I.ok.mod.tr O (dQ (B pos a s b H _ I h) λi g (j,d,y,r,q)=>(y.eF,?_)) Z Y;show Gq F z L S U y r q
theorem fM(he:PE X o ta)(c:oF X.K C)(B:ro X.K C m f)(F:⇑fy CX k f fd ps sp)(O:g6 k X.A)(S:Binds X.K fd ps ds)(hd:d8 ou ds)(U:YN CX X E)(L:PA X (e::es) t)
 (Y:dU (e::es) ⋯=(bB,dv e ⋯)::dU es ⋯:=by rfl) (Z:(gE pos<|starEach es ⋯).any (·.1)=bB:=by rfl)
 (ht:dv (.Call (.Attribute o m apos) (e::es) [] pos) ⋯=(do
   let y<-dv o ⋯
   oS apos.atName
   let (f,first)<-my [y] (uH y m pl)
   C8 pos f first (gE pos<|starEach (e::es) ⋯) (pG pos<|keywordEach [] ⋯)):=by rfl):
 PE X (.Call (.Attribute o m apos) (e::es) [] pos) (SJ C m sp ou E ta t):=by
 intro b s d H Q I h;show PySem.W.methodCall_KW (dQ (he b s d H _ I h) λu N n=>?_) ht;show dj λp=>?_;let(x,g,z,M,a,R,fs,j,i,l,q):=n;subst j;obtain rfl:u=nq a:=M;show p ?_;show VI z i c B l ?_;show DG I.ok.mod.tr B.kp (dQ (L pos b N d g _ z q) λus T (vs,P,J,r,G)=>(J.eF,?_)) Y Z;show Gq (vs:=.ref a::vs) F O S hd U J (.cons rfl r) G
structure Mk(K:cL)(C f:cI):Prop where
 makes:LO K C=aG
 init:g0 K (.ref C) "__init__" = aF (aF (.ref f))
 fn:tW K (.ref f)=aG
 kp:lK K (.ref C)=aG
theorem iY(M:Mk X.K C f)(F:⇑fy CX k f fd ps sp)(J:g6 (k+1) X.A)(S:Binds X.K fd ps ds)(hd:d8 ou ds)
 (O:YN CX X E) (I:Inv X pins σ H s) (r:d8 vs us)
 (h:∀x B,H x=aT->H B=aT->B≠x->sp (.ref x::(vs++ou)) (upd (upd H B<|.own x) x<|.ins C B []) (λv L=>v=.dw/\Q (.ref x) L) E):
 ⇑X (call (.ref C) us) (EP X pins σ Q) X.xe s:=by
 have a:=h _ _ (I.dS.fresh<|uc _) (I.dS.fresh<|ec _)<|gq<|o1 _;have y:=Inv.made (C:=C) I;have b:d8 (V.ref (↥s+1)::(vs++ou)) _:=.cons rfl (r.append hd);have U:=by have e:=b.length;rw[F.len _ _ _ _ a]at e;show e.symm
 show q0 (Es I.eF M.makes M.init (beq_iff_eq.mp M.fn) (t9 (F.run _ X.stack _ _ _ _ _ _ E (J.make C us [])
  (y.ow.make C us []) (S _ _ y.eF U) b a) λr j z=>?_))
 cases r with
 |error e=>show O pins σ _ _ e j y z
 | ok g=>
  cases g with
  |ret u=>
   let(v,d,W,Y,Z,i):=y.after z;subst Z;show(Y,(V.ref _,d,W,rfl,i))
  |next=>assumption
  |brk=>assumption
  |cont=>assumption
theorem ui(M:Mk X.K C f)(F:⇑fy CX k f fd ps sp)(z:g6 (k+1) X.A)(J:Gl X x)(Z:X.mg x=aF (.ref C))(L:Binds X.K fd ps ds)(S:d8 ou ds)(O:YN CX X E)
 (B:PA X (e::es) t) (U:(x==("__debug__"))=bB:=by decide) (Y:dU (e::es) ⋯=(bB,dv e ⋯)::dU es ⋯:=by rfl) (W:(gE pos (dU es ⋯)).any (·.1)=bB:=by rfl):
 PE X (.Call (.Name x p) (e::es) [] pos) (eP C sp ou E t):=by
 intro a s b H Q I h;show pk<|yq I J Z (DG I.ok.mod.tr M.kp (dQ (B pos a s b H _ I h) λi g (j,d,y,r,q)=>(y.eF,iY M F z L S O y r q)) Y W) U
theorem CU(M:Mk X.K C f)(F:⇑fy CX k f fd ps sp)(y:g6 (k+1) X.A)(z:Gl X x)(L:X.mg x=aF (.ref C))(e:Binds X.K fd ps ds)(B:d8 ou ds)(J:YN CX X E)
 (O:(x==("__debug__"))=bB:=by decide):PE X (.Call (.Name x p) [] [] pos) (eP C sp ou E pW):=by
 intro a s b H Q I h;show pk<|yq I z L ?_ O;show PySem.W.callWith_K0 I.eF M.kp<|iY M F y e B J I .nil h
end
structure B4(N P:List Str)(sc:e9):Prop where
 kind:sc.kind=.function
 co:sc.isCoroutine=bB
 gen:sc.isGenerator=bB
 nd:N.Nodup
 pre:N.take P.length=P
 par:∀x∈P,sc.names.lookup x=aF .local\/sc.names.lookup x=aF .cell
 ziW:∀y∈sc.names,y.2 ≠ .free
theorem dF{kindOf:Str->xz pC}{x:Str}:∀{binds:zn (Str×da)} {m:DZ},(∀v,(x,v)∉binds)->yy kindOf binds m x=m x
 |[],_,_=>rfl
 |(n,v)::r,m,h=>by
  erw[yy];rw[dF λw a=>h w (gy _ a)];split
  .grind
  .rfl
theorem dJ{kindOf:Str->xz pC}{x:Str}:∀{binds:zn (Str×da)} {m:DZ},(∀v,(x,v)∉binds)->yr kindOf binds m x=m x
 |[],_,_=>rfl
 |(n,v)::r,m,h=>by
  erw[yr];rw[dJ λw a=>h w (gy _ a)];split
  .rfl
  grind
theorem dG{kindOf:Str->xz pC}{x:Str}{v:da}:∀{P:zn Str} {vs:zn da} {i:Nat} {m:DZ},P.Nodup->P[i]? = aF x->vs[i]? = aF v->kindOf x=aF .local->
 yy kindOf (P.zip vs) m x=aF v
 |[],_,_,_,_,h,_,_=>by simp at h
 |_::_,[],_,_,_,_,h,_=>by simp at h
 |p::P,w::vs,0,m,nd,h1,h2,hk=>by simp at h1 h2;subst h1;subst h2;change yy kindOf ((p,w)::P.zip vs) m p=_;erw[yy];rw[dF λv y=>(pU.mp nd).1 (List.of_mem_zip y).1,DJ hk];simp
 |p::P,w::vs,i+1,m,nd,h1,h2,hk=>by erw[yy];show dG (pU.mp nd).2 (~~~h1) (~~~h2) hk
theorem dM{kindOf:Str->xz pC}{x:Str}{v:da}:∀{P:zn Str} {vs:zn da} {i:Nat} {m:DZ},P.Nodup->P[i]? = aF x->vs[i]? = aF v->kindOf x≠aF .local->
 yr kindOf (P.zip vs) m x=aF v
 |[],_,_,_,_,h,_,_=>by simp at h
 |_::_,[],_,_,_,_,h,_=>by simp at h
 |p::P,w::vs,0,m,nd,h1,h2,hk=>by simp at h1 h2;subst h1;subst h2;change yr kindOf ((p,w)::P.zip vs) m p=_;erw[yr];rw[dJ λv y=>(pU.mp nd).1 (List.of_mem_zip y).1,DY hk];simp
 |p::P,w::vs,i+1,m,nd,h1,h2,hk=>by erw[yr];show dM (pU.mp nd).2 (~~~h1) (~~~h2) hk
def Xy(N:zn Str)(vs:zn V):St:=vs.map aF++d5 (N.length-vs.length) aT
def du(CX:o9)(P:eA)(w:eu)(K:cL)(mg:DZ)(base:dV)(N:zn Str)(qual:Str)(scope:e9)(f:cI)(cd:da)(A:hO)(outer:zn hH)(s:dy)(H:Hp)(E:XK):Cx where
 prog:=P
 w:=w
 K:=K
 mg:=mg
 base:=base
 A:=A.deeper<|envOfC qual scope ↥s f cd
 N:=N
 g8:=s
 uo:=H
 env:=E9 qual scope ↥s f cd
 outer:=outer
 stack:=E9 qual scope ↥s f cd::outer
 ex:=[]
 calm:=aG
 fn:=λ_=>aG
 pn:=[]
 xe:=λe s'=>wpAny (dq P w) (A.deeper<|envOfC qual scope ↥s f cd) (FL (E9 qual scope ↥s f cd) e) (λ_ y=>CX outer H s E e y) (λz y=>CX outer H s E z y) s'
theorem mH{e:e9}{n:Nat}{x:Str}(h:e.names.lookup x=aF .cell):∃c,(pg n e.names []).lookup x=aF c:=by have q:=R6 e.names n [] (.inl h);show qd.mp q
theorem Af{CX:o9}{P:eA}{w:eu}{K:cL}{L:DZ}{base:dV}{N ps:zn Str}{qual:Str}{scope:e9}{f:cI}{B:da}{A:hO}{outer:zn hH}{s s1:dy}{H:Hp}{E:XK}{us:zn da}{vs:zn V}
 (S:B4 N ps scope) (hd:A.handled=aT) (I:pa P w K L base A outer s H) (Z:vs.length=ps.length) (r:d8 vs us)
 (x:InCallC s ↥s (yy (E9 qual scope ↥s f B).kindOf (ps.zip us) λ_=>aT) (pg (↥s+1) scope.names []) (yr (E9 qual scope ↥s f B).kindOf (ps.zip us) λ_=>aT) s1):
 Inv (du CX P w K L base N qual scope f B A outer s H E) [] (Xy N vs) H s1:=by
 have n:ps.length<=N.length:=by have:=congrArg z8 S.pre;rw[L4]at this;lia
 let(j,t,rfl,Q):=x.done;have O b:b∉(du CX P w K L base N qual scope f B A outer s H E).ex:=λz=>absurd (show b∈([])from z) ();show((I.mod,S.kind,rfl,rfl,ec _,λy z c j d=>?_,λy J=>?_,λy c _ h=>?_,λ_=>hd,Around.frames_deeper I.frames,.inr (rfl,rfl),λb z=>absurd z<|O b,I.bs,I.oK,λb _ _=>O b,λb z=>absurd z<|O b,I.nz,I.ph),
  rfl,I.bare,Un.kept Q,(_,x.toInCall.ns,λi y v j d o=>?_),λy c h=>(_,x.cell y c h),I.dS.fresh<|ec _,λy c h=>?_,λp g=>absurd (show p∈([])from g) (),I.dS.kept Q,?_)
 .exact name_of_addr x.apart (Mr j)<|Mr d
 .have J:=J
  rcases J with J|J
  .exact mH J
  .exact absurd rfl<|S.ziW _<|Mr J
 .exact T6<|x.above y c<|Mr h
 .have l:i<vs.length:=by
   erw[Xy]at d;by_cases l:i<vs.length
   .exact l
   .rw[pv (~~~l)]at d
    rw[R7]at d;split at d<;>cases d
  have m:vs[i]? = aF v:=by
   erw[Xy]at d;rw[o3 (~~~l),n4]at d;cases e:vs[i]? with
   |none=>rw[e]at d;cases d
   |some a=>rw[e]at d;cases d;rfl
  let(u,U,Y):=r.get m;have g:ps[i]? = aF y:=by rw[<-S.pre,List.getElem?_take_of_lt ()];show j
  have W:ps.Nodup:=by rw[<-S.pre];show S.nd.sublist<|List.take_sublist _ _
  show(u,Y,?_);rcases S.par y (oA g)with k|k
  .exact .inl (k,dG W g U k)
  .let(c,e):=mH k
   show .inr (.inl k,c,e,?_);have q:=x.cell y c e;rw[dM W g U (by change scope.names.lookup y≠_;rw[k];decide)]at q;show q
 .exact I.dS.fresh<|T6<|x.above y c<|Mr h
 .unfold Xy
  change _=N.length;simp?[n3,gr,List.length_replicate];lia
theorem OY{CX:o9}{P:eA}{w:eu}{K:cL}{mg:DZ}{base:dV}{k:Nat}{f:cI}{name qual:Str}{Y:Arguments}{L:zn en}{scope:e9}{Z kV doc pm B ct oc:da}{an od:xz cI}
 {Di:Array (xz da)} {N ps:zn Str} {sp:Sp} (lk:K.lookup f=aF (oc,od,.func<|mW name qual Y L scope Z kV doc pm an B ct,Di)) (a4:sL K B qual=aG) (S:B4 N ps scope)
 (len:∀vs H Q E,sp vs H Q E->vs.length=ps.length)
 (a5:∀A outer s H vs Q E,g6 k (A.deeper<|envOfC qual scope ↥s f B)->sp vs H Q E->
   ∃t,h8 (du CX P w K mg base N qual scope f B A outer s H E) L t/\t {nx:=λ_ H'=>Q .dw H',rt:=Q} (Xy N vs) H):
 fy P w K mg base CX (k+1) f (mW name qual Y L scope Z kV doc pm an B ct) ps sp:=by
 show(len,λA outer s H l us vs Q E O z hb r i=>?_);have M:=len _ _ _ _ i;have h:=z.mod.tr.keeps λb o e=>(z.bs b o e).1;have lim:=z.mod.nolimit.keeps λb o e=>(z.bs b o e).1;have p:∀y∈ps.zip us,scope.names.lookup y.1=aF .local\/(scope.names.lookup y.1=aF .cell/\((pg (↥s+1) scope.names []).lookup y.1).isSome=aG):=λ(n,v) X=>by
  rcases S.par n (List.of_mem_zip X).1 with q|q
  .exact .inl q
  .exact .inr (q,R6 _ _ _<|.inl q)
 show codeAny_call_function O.depth (h _ _ lk) rfl S.co S.gen rfl (PySem.W.codeRec_of h a4)<|hb _ _ _ _ ?_;show wpAny_newFunctionEnv_cells S.kind p λC G m x=>?_;subst G;show(lim.keeps x.toInCall.keep,codeAny_func ?_);let(t,T,R):=a5 A outer s H vs Q E (O.deeper _) i;have I:Inv (du CX P w K mg base N qual scope f B A outer s H E) [] _ H m:=Af S O.hd z M r x;show fU (T [] m _ H _ I R) (λF g d=>?_) λe g d=>d;have j:∀{a:St} {H':Hp} {v:V} {u:da},Inv (du CX P w K mg base N qual scope f B A outer s H E) [] a H' g->RelV v u->Q v H'->CE outer P w H s Q u g:=
  λ{a H' v u} J U q=>(v,H',J.os,J.bare,J.base,J.dS,U,q)
 cases F with
 |ret u=>
  let(v,a,H',J,U,q):=d;show j J U q
 |next=>
  let(a,H',J,q):=d;show j (v:=V.dw) J rfl q
 |brk=>
  let(_,_,_,q):=d;show t8 q
 |cont=>
  let(_,_,_,q):=d;show t8 q
section
variable{X:Cx}{x:Str}{p pos:eg}{e:dE}{es:zn dE}{t:TA}{id T:String}{r:zn V->Hp->VK->Prop}
def t_(r:zn V->Hp->VK->Prop)(t:TA):TE:=λd H Q=>t d H λb a=>r b a Q
theorem vM(L:J6 X (.builtin id) r)(y:Gl X x)(Y:X.mg x=aT)(z:pH x=aF (.builtin id))(B:PA X (e::es) t)(Z:x ≠ "__name__":=by decide)(J:(x==("__debug__"))=bB:=by decide)
 (S:dU (e::es) ⋯=(bB,dv e ⋯)::dU es ⋯:=by rfl) (O:(gE pos<|starEach es ⋯).any (·.1)=bB:=by rfl):PE X (.Call (.Name x p) (e::es) [] pos) (t_ r t):=by
 intro a s b H Q I h;show pk<|xT I y Y z ?_ Z J;show Ht (dQ (B pos a s b H _ I h) λi g (j,d,U,f,W)=>L a g b d j i Q U f W) S O
theorem wN(L:J6 X (.type T) r)(y:Gl X x)(Y:X.mg x=aT)(z:pH x=aF (.type T))(B:PA X (e::es) t)(Z:x ≠ "__name__":=by decide)(J:(x==("__debug__"))=bB:=by decide)
 (S:dU (e::es) ⋯=(bB,dv e ⋯)::dU es ⋯:=by rfl) (O:(gE pos<|starEach es ⋯).any (·.1)=bB:=by rfl):PE X (.Call (.Name x p) (e::es) [] pos) (t_ r t):=by
 intro a s b H Q I h;show pk<|xT I y Y z ?_ Z J;show u7 (dQ (B pos a s b H _ I h) λi g (j,d,U,f,W)=>L a g b d j i Q U f W) S O
end
end L2
namespace HT
open PySem PyProof.Rows
section
variable{prog:eA}{w:eu}{A:hO}{E:EQ}{s:dy}
theorem Us(Y:B5 s.heap t vs.toArray)(L:B5 s.heap b y.toArray)(J:vs ≠ [])
 (B:y=[]->Q (.ref t) s) (H:y ≠ []->Q (.ref ↥s) {s with heap:=s.heap.push {cls:=.type "tuple",data:=.seq (vs++y).toArray}})
 (hsz:vs.length+y.length<=ej):wpAny (dq prog w) A (ot .Add (.ref t)<|.ref b) Q E s:=by
 show dj λZ=>?_;let((cls,d,data,f),z,i,n,j):=id Y;let((k,O,data2,U),I,g,W,h):=id L;show Z ?_;subst i j g h;have e:vs.toArray++y.toArray=(vs++y).toArray:=by simp
 by_cases a:y=[]
 .exact Ug (_,z,rfl) (_,I,rfl) _v q_ _a _j (_h _ _)
   (tuple_addW1 t b vs.toArray y.toArray n W d O f U (~~~J)<|by simp[a]) (z,I,B a)
 .refine Ug (_,z,rfl) (_,I,rfl) _v q_ _a _j (_h _ _)
   (tuple_addW2 t b vs.toArray y.toArray n W d O f U (~~~J) (~~~a)<|by assumption) (z,I,?_)
  rw[e];show H a
def cR(n d:Nat):xz Int->Nat
 |none=>d
 |some v=>if v<0 then (v+(n:Int)).toNat else min v.toNat n
theorem Ba(v:Int)(n d:Nat):(if v<0 then max (v+n) 0 else min v n)=((cR n d (aF v):Nat)):=by
 change(if v<0 then max (v+n) 0 else min v n)=(((if v<0 then (v+(n:Int)).toNat else min v.toNat n):Nat));by_cases y:v<0
 .simp?[DJ y];lia
 .simp?[DY y];lia
theorem zjK(lo e:xz Int)(n:Nat):V_ lo e 1 n=(((cR n 0 lo):Int),((cR n n e):Int)):=by
 have a:¬(1<0):=()
 erw[V_];simp?[a,if_false];show Prod.ext ?_ ?_
 .cases lo with
  |none=>rfl
  |some v=>show Ba v n 0
 .cases e with
  |none=>rfl
  |some v=>show Ba v n n
theorem ziP(i j:Nat):V' i j 1=j-i:=by
 erw[V'];have a:(1:Int)>0:=()
 simp?[a,if_true,Int.ediv_one];split<;>lia
theorem Vn(p:rk v o)(h:Q o s):wpAny (dq prog w) A (Builtin.Slice.slicePartIndex v) Q E s:=by
 cases p with
 |none=>show slicePart_none h
 |int i t=>show slicePart_int h
theorem Xz{B:cI}{y z:da}{lo e:xz Int}{n:Nat}{Q:Int×Int×Nat->dy->Prop}(hs:s.heap.IsSliceOf B y z .none)(O:rk y lo)(U:rk z e)
 (h:Q (((cR n 0 lo:Nat)),1,cR n n e-cR n 0 lo) s):wpAny (dq prog w) A (Builtin.Slice.sliceApplied (.ref B)<|pure n) Q E s:=by
 let(os,I,W,J):=id hs;show cS<|cS<|l7 I J (x:=y) rfl<|cS<|l7 I J (x:=z) rfl<|cS<|l7 I J rfl<|d7 ?_;show cS<|slicePart_none ?_;rw[DY ()];show cS<|Vn O<|cS<|Vn U<|cS<|d7 ?_;change wpAny _ _ (match V_ lo e 1 n with|(lo,e)=>pure (Prod.mk lo (Prod.mk (1:Int) (V' lo e 1)))) _ _ s;rw[zjK lo e n];change wpAny _ _ (pure _) _ _ s;rw[ziP];show d7 h
theorem CP(xs:Array da)(i k:Nat):((cT k).filterMap λ(m:Nat)=>xs[(i+(m:Int)*1).toNat]?).toArray=((xs.toList.drop i).take k).toArray:=by
 have e:(λ(m:Nat)=>xs[(i+(m:Int)*1).toNat]?)=λm=>xs[i+m]? :=by
  funext m;have:(i+(m:Int)*1).toNat=i+m:=()
  rw[this]
 rw[e];have:=pick_run xs i k;rw[List.filterMap_map]at this;have y:(_∘_)=λm=>xs[i+m]? :=rfl;rw[y]at this;rw[this]
theorem zjW{t H:cI}{e:Array da}{I J:da}{lo B:xz Int}{Q:EQ}(y:B5 s.heap t e)(hs:s.heap.IsSliceOf H I J .none)(O:rk I lo)(U:rk J B)
 (L:¬(cR e.size 0 lo=0/\cR e.size e.size B=e.size))
 (h:Q (.ref ↥s) {s with heap:=s.heap.push {cls:=.type "tuple",data:=.seq ((e.toList.drop (cR e.size 0 lo)).take (cR e.size e.size B-cR e.size 0 lo)).toArray}})
 (hsz:e.size<=ej):wpAny (dq prog w) A (rG (.ref t)<|.ref H) Q E s:=by
 have z:=by change((e.toList.drop<|cR e.size 0 lo).take (cR e.size e.size B-cR e.size 0 lo)).toArray.size<=ej;simp?[gN,L4,L5,sj];show fZ (Nat.min_le_right ..)<|fZ (Nat.sub_le ..) hsz
 let(os,W,Y,b):=id hs;have Z:s.TypeIs (.ref H) "slice":=(os,W,Y);erw[rG]
 try with_reducible show m7 ?_
 first|show cS (d7 ?_)|skip
 show cS<|wpAny_sequenceKey y.typeIs () ?_;show cS (va y.typeIs DB
  (sy DB y.typeIs entry_tuple_getitem ?_ (Q? _ _)))
 change wpAny _ _ (Builtin.Tuple.tupleItemsOf (.ref t) >>= _) _ _ s;show cS<|MY y ?_;show cS<|z4 Z ?_;rw[DJ ()];show cS<|Xz hs O U ?_;have a:¬((((cR e.size 0 lo):Int)==0&&(1:Int)==1&&(cR e.size e.size B-cR e.size 0 lo)==e.size)=aG):=()
 change wpAny _ _ (if _=aG then _ else _) _ _ s;rw[DY a,CP]
 first
  |show cS<|p9 (d7 (_,rfl,d7 h)) z
  |show cS<|p9 (cS<|d7<|d7 (_,rfl,d7 h)) z
  |show cS<|cS<|p9 (d7<|d7 (_,rfl,d7 h)) z
  |show cS<|cS<|p9 (d7 (_,rfl,d7 h)) z
end
end HT
namespace L2
open PySem PySem.Spec PyProof.Rows
abbrev TO:=St->Hp->(xz Int->Hp->Prop)->Prop
def PO(X:Cx)(e:xz dE)(t:TO):Prop:=
 ∀(a:TW) (s:dy) (b:St) (H:Hp) (Q:xz Int->Hp->Prop),Inv X a b H s->t b H Q->
  ⇑X (evalPart e ⋯) (λu f=>∃o d,Inv X a b d f/\rk u o/\Q o d) X.xe s
def HK:TO:=λ_ H Q=>Q aT H
def SG(t:TE):TO:=λb H Q=>t b H λx a=>∃i,x=.int i/\Q (aF i) a
section
variable{X:Cx}{e:dE}{te:TE}{lo hi:xz dE}{tl th:TO}{pos p2:eg}
theorem IB:PO X aT HK:=by intro a s b H Q I h;rw[evalPart_none];show d7 (aT,H,I,.none,h)
theorem IA(h:PE X e te):PO X (aF e) (SG te):=by intro a s g H Q I d;rw[evalPart_some];show dQ (h a s g H _ I d) λu j y=>?_;let(x,b,z,f,J):=y;let(i,rfl,q):=J;let(t,rfl):=f;show(aF i,b,z,.int i t,q)
def C1(X:Cx)(r:V->xz Int->xz Int->Hp->VK->Prop):Prop:=
 ∀(a:TW) (s:dy) (d:St) (H:Hp) (x:V) (v y z:da) (lo hi:xz Int) (b:cI) (Q:VK),Inv X a d H s->RelV x v->s.heap.IsSliceOf b y z .none->rk y lo->rk z hi->r x lo hi H Q->
  ∃T id,Dv (.type T) "__getitem__" = pure (aF (.builtin id))/\s.TypeIs v T/\⇑X (rG v (.ref b)) (EP X a d Q) X.xe s
def tSl(r:V->xz Int->xz Int->Hp->VK->Prop)(te:TE)(tl th:TO):TE:=λa H Q=>te a H λx b=>tl a b λl d=>th a d λu y=>r x l u y Q
theorem Wo(U:C1 X r)(B:PE X e te)(W:PO X lo tl)(Y:PO X hi th):PE X (.Subscript e (.Slice lo hi aT p2) pos) (tSl r te tl th):=by intro a s d H Q I h;show Oy (dQ (B a s d H _ I h) λv G Z=>?_);let(x,f,i,F,A):=Z;show wpAny_Slice (dQ (W a G d f _ i A) λy K (l,g,j,t,C)=>dQ (Y a K d g _ j C) λz J (u,O,k,w,E)=>?_);rw[evalPart_none];show d7 ?_;have m:Inv X a d O {J with heap:=J.heap.push {cls:=.type "slice",data:=.fields #[y,z,.none]}}:=k.kept λb L q=>eo _ q;let(T,id,n,p,o):=U a _ d O x v y z l u _ Q m F (Heap.IsSliceOf.new ..) t w E;show tail_any p n o (by rfl)
def LL(xs:zn V)(lo hi:xz Int):zn V:=(xs.drop<|HT.cR xs.length 0 lo).take (HT.cR xs.length xs.length hi-HT.cR xs.length 0 lo)
theorem Yz(xs:zn V)(lo hi:xz Int):(LL xs lo hi).length<=xs.length:=by erw[LL];rw[L4,L5];show fZ (Nat.min_le_right ..)<|Nat.sub_le ..
def zaY(K:cL):V->xz Int->xz Int->Hp->VK->Prop:=λx lo hi H Q=>∃a b,x=.ref a/\fC K H a b/\
 ¬(HT.cR b.length 0 lo=0/\HT.cR b.length b.length hi=b.length)/\∀p,H p=aT->Q (.ref p) (upd H p<|.tup<|LL b lo hi)
theorem MV:C1 X (zaY X.K):=by
 intro d s m H x v k l lo hi j Q I O f U W h;let(a,e,rfl,Y,g,q):=h;cases O;let(Z,r,z,J):=I.tuple Y;have y:Z.toArray.size=e.length:=by rw[gN];show r.length.symm
 show("tuple",_,DB.lookup,z.typeIs,?_);show HT.zjW z f U W (by rw[y];show g) ?_ (by rw[y];show J);rw[y];show(.ref _,_,I.laid (λb i q=>eo _ q) (ec _) ?_,rfl,q _ (I.dS.fresh (ec _)));show(fZ (Yz e lo hi) J,_,(r.drop _).take _,pB.new _ _)
theorem d8.P5(r:d8 xs us):us=[]↔xs=[]:=by
 cases r with
 |nil=>simp
 |cons _ _=>simp
end
def uM(n:Nat)(i:Int):xz Nat:=if 0<=i then (if i<n then aF i.toNat else aT)else if -(n:Int)<=i then aF (i+n).toNat else aT
def sV{e:Type}(xs:zn e)(i:Int):xz e:=(uM xs.length i).bind λj=>xs[j]?
theorem uZ(h:uM n i=aF j):seqIndex? i n=aF j/\j<n/\ -n<=i/\i<n:=by
 erw[uM]at h;by_cases b:0<=i
 .rw[DJ b]at h
  by_cases a:i<n
  .rw[DJ a]at h
   have e:=l8 h;show(by rw[p_ b a,e],(),(),a)
  .rw[DY a]at h;cases h
 .rw[DY b]at h
  by_cases a : -n<=i
  .rw[DJ a]at h
   have e:=l8 h;show(by rw[p' () a,e],(),a,())
  .rw[DY a]at h;cases h
theorem hJ(h:sV xs i=aF v):∃j,seqIndex? i xs.length=aF j/\xs[j]? = aF v/\j<xs.length/\ -(xs.length)<=i/\i<xs.length:=by
 erw[sV]at h;cases e:uM xs.length i with
 |none=>rw[e]at h;cases h
 |some j=>
  rw[e]at h;let(a,b,d,f):=uZ e;show(j,a,h,b,d,f)
def ig(b:dE):Prop:=∀o i,RI b bB o i=operate [o,i] (rG o i)
def sS(X:Cx)(r:R2):Prop:=
 ∀(I z:dE) (a:TW) (s:dy) (b:St) (H:Hp) (x y:V) (v u:da) (Q:VK),Inv X a b H s->RelV x v->RelV y u->r x y H Q->
  RI z bB v u=operate [v,u] (rG v u)->⇑X (subscriptTail I z v u) (EP X a b Q) X.xe s
def B8(X:Cx)(id:String)(r:V->zn V->Hp->VK->Prop):Prop:=
 ∀(a:TW) (s:dy) (e:St) (H:Hp) (x:V) (d:zn V) (v:da) (b:zn da) (Q:VK),Inv X a e H s->RelV x v->d8 d b->r x d H Q->
  ⇑X (call (.builtin id) (v::b)) (EP X a e Q) X.xe s
section
variable{X:Cx}{a b:dE}
theorem sS.or(h:sS X r)(h':sS X r'):sS X (λx y H Q=>r x y H Q\/r' x y H Q):=by
 intro z J a s d H x y v u Q I O U q b;rcases q with q|q
 .exact h z J a s d H x y v u Q I O U q b
 .exact h' z J a s d H x y v u Q I O U q b
theorem Oa(z:sS X r)(B:PE X a ta)(L:PE X b tb)(hs:ig b):PE X (.Subscript a b pos) (u6 r ta tb):=by intro d s g H Q I h;show Oy<|Ut B L I h λv u f x y e J O U q=>z a b d f g e x y v u Q J O U q<|hs _ _
def za3(K:cL):R2:=λx y H Q=>∃p a i v,x=.ref p/\y=.int i/\eJ K H p a/\sV a i=aF v/\Q v H
def za1(K:cL):R2:=λx y H Q=>∃p a i v,x=.ref p/\y=.int i/\fC K H p a/\sV a i=aF v/\Q v H
def za2:R2:=λx y H Q=>∃z i c,x=.str z/\y=.int i/\z.length<=ej/\sV z.cps.toList i=aF c/\Q (.str ⟨#[c]⟩) H
theorem zh6:sS X (za3 X.K):=by
 intro E F a s C H x y v u Q I Y Z h e;let(p,N,i,z,rfl,rfl,A,n,q):=h;cases Y;show dj λB=>?_;let(t,rfl):=Z;let(f,r,J,M):=I.list A;let(j,b,k,G,l,m):=hJ n;let(w,U,g):=r.get k;show B ?_;have o:=r.length;have L:=Yd;have W:EP X a C Q w s:=(z,H,I,g,q);by_cases d:0<=i
 .have O:=by
   rw[p_ d m]at b;show l8 b
  show item_listR J.isList d () (by rw[O];simpa using U) W e
 .have O:(i+(f.toArray.size)).toNat=j:=by
   rw[p' () l]at b;rw[gN,<-o];show l8 b
  show zky J.isList.typeIs _s.lookup
   (wpAny_getItem_list_neg J.isList () (by rw[gN]<;>lia) () (by rw[O];simpa using U) (rfl,W)) e
theorem ON:sS X (za1 X.K):=by
 intro n o a s m H x y v u Q I O U h l;let(p,L,i,z,rfl,rfl,k,f,q):=h;cases O;show dj λW=>?_;let(t,rfl):=U;let(A,r,J,G):=I.tuple k;let(j,d,e,B,C,E):=hJ f;let(w,Y,Z):=r.get e;show W ?_;have g:=r.length;have F:=Yd;have b:EP X a m Q w s:=(z,H,I,Z,q);show zky J.typeIs slot_tuple_getitem.lookup
  (getItem_tuple J () () (by rw[gN,<-g];show d) (~~~Y) (rfl,b)) l
theorem OO:sS X za2:=by
 intro Y Z b s p H x y v u Q I J O h k;show dj λU=>?_;let(z,i,c,rfl,rfl,n,g,q):=h;let(t,rfl):=J;let(o,rfl):=O;let(j,a,d,l,e,f):=hJ g;show U ?_;have W:z.cps.toList.length=z.length:=by rfl
 rw[W]at a e f;have m:=Yd;show tail_any (B0 s z t) slot_str_getitem.lookup (getItem_str (by
  lia) (by rw[a];simpa using d) (.str _,H,I.tok _,(_,rfl),q)) k
theorem zi7(y:zn da)(n j:Nat)(u:da):ky (·.setIfInBounds j u) {cls:=.type "list",data:=.seq y.toArray n} = {cls:=.type "list",data:=.seq (y.set j u).toArray n}:=by simp[ky]
theorem Inv.lst(I:Inv X pins σ H s)(h:H p=aF (.lst xs)):
 ∃y n,d8 xs y/\s.heap.get? p=aF {cls:=.type "list",data:=.seq y.toArray n}/\xs.length<=ej:=by
 let(z,y,n,r,e):=I.dS p _ h;show(y,n,r,e,z)
theorem Inv.zij{B:TW}{U:St}{H:Hp}{s:dy}{p:cI}{xs L:zn V}{z y:zn da}{n n':Nat}{f:gB->gB}(I:Inv X B U H s)(h:H p=aF (.lst xs))
 (J:s.heap.get? p=aF {cls:=.type "list",data:=.seq z.toArray n}) (S:f {cls:=.type "list",data:=.seq z.toArray n} = {cls:=.type "list",data:=.seq y.toArray n'}) (r:d8 L y) (O:L.length<=ej) (t:Nat):
 Inv X B U (upd H p<|.lst L) {s with heap:=s.heap.update p f,toks:=t}:=by
 have e:(s.heap.update p f).get? p=aF {cls:=.type "list",data:=.seq y.toArray n'}:=by rw[zP f J (by rw[S]<;>rfl),S]
 show I.write (by rw[h];trivial) (.inl rfl) (λb u a q=>(qs _ _<|ew a).trans q) (_,e) ?_;show(O,y,n',r,e)
def SY:V->V->V->Hp->(Hp->Prop)->Prop:=λo i v H Q=>∃p a k j,o=.ref p/\i=.int k/\H p=aF (.lst a)/\uM a.length k=aF j/\Q (upd H p<|.lst<|a.set j v)
theorem iP:H_ X SY:=by
 intro g s G H o i v E C u Q I Y Z x h;let(p,F,k,j,rfl,rfl,f,l,q):=h;cases Y;show dj λw=>?_;let(t,rfl):=Z;let(O,n,r,y,m):=I.lst f;let(a,A,d,e):=uZ l;show w ?_;have z:=r.length;have B:=Yd;have U:=
  I.zij f y (zi7 O n j u) (r.set x j) (by rw[List.length_set];show m) s.toks
 by_cases b:0<=k
 .have J:=by
   rw[p_ b e]at a;show l8 a
  show PySem.W.ki_setAt y b () (by rw[gN,<-z];show e) (by rw[J];show(_,U,q))
 .have J:(k+(O.toArray.size)).toNat=j:=by
   rw[p' () d]at a;rw[gN,<-z];show l8 a
  show PySem.W.ki_setBack y () (by rw[gN,<-z];show d) () (by rw[J];show(_,U,q))
theorem bq(lo e:xz Int)(n:Nat):(u4 lo e aT n).1=((HT.cR n 0 lo:Nat))/\(u4 lo e aT n).2.1=((HT.cR n n e:Nat))/\(u4 lo e aT n).2.2=1:=by
 show(?_,?_,rfl)
 .cases lo with
  |none=>rfl
  |some i=>
   simp?[u4,HT.cR,Option.getD_none,show 1>0 by decide,if_true];by_cases h:i<0
   .simp?[h,if_true]<;>lia
   .simp?[h,if_false]<;>lia
 .cases e with
  |none=>rfl
  |some i=>
   simp?[u4,HT.cR,Option.getD_none,show 1>0 by decide,if_true];by_cases h:i<0
   .simp?[h,if_true]<;>lia
   .simp?[h,if_false]<;>lia
theorem Wa(y:zn da)(lo e:xz Int):RF y.toArray lo e aT=((y.drop<|HT.cR y.length 0 lo).take (HT.cR y.length y.length e-HT.cR y.length 0 lo)).toArray:=by let(a,b,d):=bq lo e y.toArray.size;erw[RF];simp?[a,b,d];simp?[sliceRange_one,pick_run,gN]<;>rfl
def zaZ(K:cL):V->xz Int->xz Int->Hp->VK->Prop:=λx lo d H Q=>∃a b,x=.ref a/\eJ K H a b/\∀p,H p=aT->Q (.ref p) (upd H p<|.lst<|LL b lo d)
theorem HX:C1 X (zaZ X.K):=by intro d s m H x v Z l lo e k Q I z f J O h;let(a,g,rfl,U,q):=h;cases z;let(i,r,y,W):=I.list U;have Y:=r.length;show("list",_,_s.lookup,y.isList.typeIs,?_);show zlu y.isList f J O .none () ?_ (by rw[gN]<;>lia);rw[Wa,<-Y];show(.ref _,_,I.laid (λb j q=>eo _ q) (ec _) ?_,rfl,q _ (I.dS.fresh (ec _)));show(fZ (Yz g lo e) W,_,0,(r.drop _).take _,ir _ rfl)
def Va:V->Bool
 |.dw=>aG
 |.bl _=>aG
 |.int _=>aG
 |.str _=>aG
 |_=>bB
def rF:V->V->Bool
 |.dw,.dw=>aG
 |.bl a,.bl b=>a==b
 |.bl a,.int b=>(if a then 1 else 0)==b
 |.int a,.bl b=>a==(if b then 1 else 0)
 |.int a,.int b=>a==b
 |.str a,.str b=>a==b
 |_,_=>bB
theorem Pd(I:RelV y u)(z:RelV x v)(O:Va y=aG)(J:Va x=aG):m8 A s u v (rF y x):=by
 cases y with
 |dw=>
  cases I;cases x with
  |dw=>cases z;show m8.same _
  |bl b=>cases z;show m8.none_bool b
  |int b=>let(t,rfl):=z;show m8.none_int b t
  |str b=>let(t,rfl):=z;show m8.none_str b t
  |_=>show absurd J iu
 |bl a=>
  cases I;cases x with
  |dw=>cases z;show m8.bool_none a
  |bl b=>cases z;show m8.bool_bool a b
  |int b=>let(t,rfl):=z;show m8.bool_int a b t
  |str b=>let(t,rfl):=z;show m8.bool_str a b t
  |_=>show absurd J iu
 |int a=>
  let(d,rfl):=I;cases x with
  |dw=>cases z;show m8.int_none a d
  |bl b=>cases z;show m8.int_bool a d b
  |int b=>let(t,rfl):=z;show Mq a d b t
  |str b=>let(t,rfl):=z;show m8.int_str a d b t
  |_=>show absurd J iu
 |str a=>
  let(d,rfl):=I;cases x with
  |dw=>cases z;show m8.str_none a d
  |bl b=>cases z;show m8.str_bool a d b
  |int b=>let(t,rfl):=z;show m8.str_int a d b t
  |str b=>let(t,rfl):=z;show m8.str_str a d b t
  |_=>show absurd J iu
 |_=>show absurd O iu
def nU(x:V)(u:da):Bool:=match u with
 |.none=>rF .dw x
 |.bool b=>rF (.bl b) x
 |.int i _=>rF (.int i) x
 |.str z _=>rF (.str z) x
 |_=>bB
theorem Hj(r:RelV y u)(f:Va y=aG):nU x u=rF y x:=by
 cases y with
 |dw=>cases r;rfl
 |bl b=>cases r;rfl
 |int i=>let(t,rfl):=r;rfl
 |str z=>let(t,rfl):=r;rfl
 |_=>show absurd f iu
theorem au(h:d8 xs us)(f:xs.all Va=aG):us.any (nU x)=xs.any λy=>rF y x:=by
 induction h with
 |nil=>rfl
 |cons r t z=>
  simp?[A9,fS]at f;simp?[List.any_cons,Hj r f.1,z f.2]
theorem X0(z:RelV x v)(I:Va x=aG)(h:d8 xs e)(f:xs.all Va=aG):∀u∈e,m8 A s u v (nU x u):=by
 induction h with
 |nil=>intro u y;cases y
 |cons r t J=>
  intro O y;simp?[A9,fS]at f;rcases eL.mp y with rfl|y
  .rw[Hj r f.1];show Pd r z f.1 I
  .exact J f.2 O y
def pK(x:V)(xs:zn V):Bool:=xs.any λy=>rF y x
def m_(K:cL)(z:Bool):R2:=λx y H Q=>∃p a,y=.ref p/\(eJ K H p a\/fC K H p a)/\Va x=aG/\a.all Va=aG/\Q (.bl<|if z then !pK x a else pK x a) H
theorem KR:fJ X (i3 .In) (m_ X.K bB):=by
 intro b s e H x y v u Q I O W h;let(p,d,rfl,hq,U,fs,q):=h;cases W;rcases hq with hq|hq
 .let(z,r,J,Y):=I.list hq
  show SeqAt.in_listAt (nU x) J.isList (λw a=>X0 O U r fs w<|by simpa using a) (.bl _,H,I,rfl,?_);rw[show z.toArray.any (nU x)=z.any (nU x)by simp,au r fs];show q
 .let(z,r,J,Y):=I.tuple hq
  show SeqAt.in_tupleAt (nU x) J (λw a=>X0 O U r fs w<|by simpa using a) (.bl _,H,I,rfl,?_);rw[show z.toArray.any (nU x)=z.any (nU x)by simp,au r fs];show q
theorem Xt:fJ X (i3 .NotIn) (m_ X.K aG):=by
 intro b s e H x y v u Q I O W h;let(p,d,rfl,hq,U,fs,q):=h;cases W;rcases hq with hq|hq
 .let(z,r,J,Y):=I.list hq
  show SeqAt.notIn_listAt (nU x) J.isList (λw a=>X0 O U r fs w<|by simpa using a) (.bl _,H,I,rfl,?_);rw[show z.toArray.any (nU x)=z.any (nU x)by simp,au r fs];show q
 .let(z,r,J,Y):=I.tuple hq
  show SeqAt.notIn_tupleAt (nU x) J (λw a=>X0 O U r fs w<|by simpa using a) (.bl _,H,I,rfl,?_);rw[show z.toArray.any (nU x)=z.any (nU x)by simp,au r fs];show q
theorem zg0:J6 X (.builtin "len") (λxs H Q=>∃p e,xs=[.ref p]/\(eJ X.K H p e\/fC X.K H p e)/\Q (.int e.length) H):=by
 intro b s g H xs f Q I r h;let(p,e,rfl,hq,q):=h;let(u,rfl,J):=yc r;cases J;have d:=Yd;rcases hq with hq|hq
 .let(O,a,y,U):=I.list hq
  have z:=a.length;show Calls.call_len_list y.isList (by simp?[gN]<;>lia) (.int e.length,H,I.tok _,(s.toks+1,by rw[gN,z]),q)
 .let(O,a,y,U):=I.tuple hq
  have z:=a.length;show len_tuple y (by simp?[gN]<;>lia) (.int e.length,H,I.tok _,(s.toks+1,by rw[gN,z]),q)
theorem dD:J6 X (.builtin "len") (λxs H Q=>∃z,xs=[.str z]/\z.length<=ej/\Q (.int z.length) H):=by intro a s e H xs d Q I r h;let(z,rfl,y,q):=h;let(u,rfl,t,rfl):=yc r;have b:=Yd;show len_str () (.int z.length,H,I.tok _,(_,rfl),q)
theorem dC:J6 X (.type "list") (λxs H Q=>∃p B,xs=[.ref p]/\(eJ X.K H p B\/fC X.K H p B)/\∀l,H l=aT->Q (.ref l) (upd H l (.lst B))):=by
 intro d s m H xs t Q I r h;let(p,B,rfl,hq,q):=h;let(u,rfl,Y):=yc r;cases Y;have U:∀y,d8 B y->B.length<=ej->∀f W,(∀b j,_=aF j->f.get? b=aF j)->
  _=_->EP X d m Q _ {s with heap:=f}:=λy a z f W k e=>
  (.ref _,_,I.laid k (ec _) (show i7 X.prog X.w _ f _ (.lst B)from(z,y,W,a,e)),rfl,q _<|I.dS.fresh<|ec _)
 rcases hq with hq|hq
 .let(y,a,J,z):=I.list hq
  have Z:=a.length;let(o,O,g,n,i):=J.isList;show call_list_seq p (.inl rfl) O g i ((U y a z)) (by simp?[gN]<;>lia)
 .let(y,a,J,z):=I.tuple hq
  have Z:=a.length;let(o,O,g,n,i):=J;show call_list_seq p (.inr rfl) O g i ((U y a z)) (by simp?[gN]<;>lia)
theorem ah:J6 X (.type "tuple") (λxs H Q=>∃p B,xs=[.ref p]/\((eJ X.K H p B/\∀l,H l=aT->Q (.ref l) (upd H l (.tup B)))\/(fC X.K H p B/\Q (.ref p) H))):=by
 intro f s k H xs j Q I r h;let(p,B,rfl,h):=h;let(u,rfl,U):=yc r;cases U;rcases h with⟨a,q⟩|⟨a,q⟩
 .let(z,d,y,J):=I.list a
  have Y:=d.length;show call_tuple_list y.isList (λg i=>?_) (by simp?[gN]<;>lia);have O:=I.kept (t':=s.toks) i;have W:=
   O.laid (t':=s.toks) (λb o e=>eo _ e) (ec _) (show i7 X.prog X.w _ _ _ (.tup B)from(J,z,d,pB.new _ _))
  show(.ref g.objs.size,_,W,rfl,q _<|O.dS.fresh<|ec _)
 .let(z,d,y,J):=I.tuple a
  show call_tuple_same y (.ref p,H,I,rfl,q)
def RN(K:cL)(T:String)(x:V)(H:Hp):Prop:=match x with
 |.str _=>T = "str"
 |.int _=>T = "int"
 |.ref p=>(T = "list"/\∃b,eJ K H p b)\/(T = "tuple"/\∃o,K.lookup p=aF o/\o.cls=.type "tuple"/\o.dict=aT)\/
  (T = "dict"/\((∃a,H p=aF (.dK a))\/∃a,H p=aF (.dT a)))\/(T = "set"/\∃S n,H p=aF (.set S n))
 |_=>False
theorem FM(I:Inv X pins σ H s)(r:RelV x v)(ty:RN X.K T x H):
 s.TypeIs v T/\∀a,v=.ref a->∃O,s.heap.get? a=aF O/\O.dict=aT:=by
 cases x with
 |str z=>
  let(t,rfl):=r;cases ty;show(B0 s z t,λ_ e=>nomatch e)
 |int i=>
  let(t,rfl):=r;cases ty;show(M7 s i t,λ_ e=>nomatch e)
 | ref p=>
  cases r;rcases ty with⟨rfl,j,h⟩|⟨rfl,o,y,g,d⟩|⟨rfl,y⟩|⟨rfl,S,n,y⟩
  .let(U,_,Q,_):=I.list h
   show(Q.isList.typeIs,λa e=>?_);cases e;let(o,n,e,c,d,_):=Q;show(o,e,d)
  .refine((o,I.eF p o y,g),λa e=>?_)
   cases e;show(o,I.eF _ o y,d)
  .have z:∃o,s.heap.get? p=aF o/\o.ExactDict:=by
    rcases y with⟨f,y⟩|⟨f,y⟩
    .let(_,_,_,_,o,_,_,e,b,_):=I.dS p _ y
     show(o,e,b)
    .let(_,_,_,_,o,_,_,e,b,_):=I.dS p _ y
     show(o,e,b)
   let(o,e,b):=z;show((o,e,b.1),λa J=>?_);cases J;show(o,e,b.2.1)
  .let(o,_,_,_,e,b,_):=I.dS p _ y
   show((o,e,b.1),λa J=>?_);cases J;show(o,e,b.2.1)
 |_=>show t8 ty
def zaW(K:cL)(T:String)(r:V->zn V->Hp->VK->Prop)(to:TE):TE:=λb H Q=>to b H λx a=>RN K T x a/\r x [] a Q
def s_(K:cL)(T:String)(r:V->zn V->Hp->VK->Prop)(to:TE)(t:TA):TE:=λb H Q=>to b H λx a=>RN K T x a/\t b a λe d=>r x e d Q
variable{o e:dE}{es:zn dE}{to:TE}{t:TA}{name:Str}{apos cpos:eg}{T id:String}{r:V->zn V->Hp->VK->Prop}
theorem Oc(z:PlainAttrs T)(B:Slot T name id)(J:Dw (.builtin id)=pure (.type "method_descriptor"))(hm:B8 X id r)(O:PE X o to)
 (U:pF o name ⋯ (dv o ⋯)=dv o ⋯:=by rfl) (W:(apos.endLine==cpos.line)=aG:=by rfl):PE X (.Call (.Attribute o name apos) [] [] cpos) (zaW X.K T r to):=by
 intro a s d H Q I h;show wpAny_Call_method0_late U W<|dQ (O a s d H _ I h) λv i Y=>?_;let(x,e,y,b,ty,Z):=Y;let(f,g):=FM y b ty;show(T,id,z,B,J,f,g,_c rfl<|PySem.evalArgs_none<|hm a i d e x [] v [] Q y b .nil Z)
theorem CZ(J:PlainAttrs T)(B:Slot T name id)(O:Dw (.builtin id)=pure (.type "method_descriptor"))(S:B8 X id r)(U:PE X o to)(L:PA X (e::es) t)
 (W:pF o name ⋯ (dv o ⋯)=dv o ⋯:=by rfl)
 (Y:((gE cpos<|starEach (e::es) ⋯).all (λx=> !x.1)&&(pG cpos<|keywordEach [] ⋯).all (λx=>x.1.isSome)
   &&decide ((e::es).length+([]:zn rn).length+(if ([]:zn rn).isEmpty then 0 else 1)<30))=aG:=by rfl)
 (Z:(apos.endLine==cpos.line)=aG:=by rfl) (hs:dU (e::es) ⋯=(bB,dv e ⋯)::dU es ⋯:=by rfl) (a6:(gE cpos<|starEach es ⋯).any (·.1)=bB:=by rfl):
 PE X (.Call (.Attribute o name apos) (e::es) [] cpos) (s_ X.K T r to t):=by
 intro a s b H Q I h;show wpAny_Call_method_late W Y Z rfl<|dQ (U a s b H _ I h) λv w l=>?_;show dj λm=>?_;let(x,f,y,d,ty,n):=l;let(j,k):=FM y d ty;show m ?_;show(T,id,J,B,O,j,k,?_);have z:=L cpos a w b f _ y n;rw[hs]at z ⊢;show _c (by assumption)<|Calls.evalArgs_plain ?_;show dQ z λC A (E,g,i,u,p)=>S a A b g x E v C Q i d u p
end
def UE(X:Cx)(id:String)(r:V->zn V->Hp->VK->Prop):Prop:=
 ∀(a:TW) (s:dy) (e:St) (H:Hp) (x:V) (d:zn V) (v:da) (b:zn da) (Q:VK),Inv X a e H s->RelV x v->d8 d b->r x d H Q->
  ⇑X (call (.builtin id) (v::b)) (EP X a e Q) X.xe s
theorem d8.one(h:d8 [x] us):∃u,us=[u]/\RelV x u:=by cases h with|cons r t=>cases t;show(_,rfl,r)
theorem d8.zero:∀{e:zn da},d8 [] e->e=[]
 |_,.nil=>rfl
theorem d8.reverse(h:d8 xs us):d8 xs.reverse us.reverse:=by
 induction h with
 |nil=>show .nil
 |cons r t y=>rw[S7,S7];show d8.append y<|.cons r .nil
theorem d8.rep(h:d8 xs us):∀k,d8 (d5 k xs).flatten (d5 k us).flatten
 |0=>.nil
 |k+1=>by show d8.append h<|d8.rep h k
theorem Yu(y:zn da):∀k B,
 List.foldl (λH z=>H++z) B.toArray (d5 k y.toArray)=(B++(d5 k y).flatten).toArray
 |0,B=>by simp
 |k+1,B=>by
  have e:B.toArray++y.toArray=(B++y).toArray:=by simp
  have I:(B++y)++(d5 k y).flatten=B++(d5 (k+1) y).flatten:=by simp?[_w,List.flatten_cons,List.append_assoc]
  rw[<-I,<-Yu y k (B++y),<-e,_w,List.foldl_cons]
section
variable{X:Cx}{pins:TW}{σ:St}{H:Hp}{s:dy}{l:cI}{xs ys:zn V}
theorem Inv.PY{z y:zn da}{n:Nat}{f:Array da->Array da}{t':Nat}(I:Inv X pins σ H s)(J:H l=aF (.lst xs))
 (e:s.heap.get? l=aF {cls:=.type "list",data:=.seq z.toArray n}) (B:f z.toArray=y.toArray) (O:d8 ys y) (Q:ys.length<=ej):
 Inv X pins σ (upd H l<|.lst ys) {s with heap:=s.heap.update l<|ky f,toks:=t'}:=by
 have q:=PySem.IsL.update e f;rw[B]at q;show I.write (by rw[J];show trivial) (.inl rfl) (λW u a U=>(qs s.heap _<|ew a).trans U) (_,q) ?_;show(Q,y,_,O,q)
theorem Inv.FO(I:Inv X pins σ H s)(z:d8 ys y)(J:ys.length<=ej):
 Inv X pins σ (upd H ↥s (.lst ys)) {s with heap:=s.heap.push {cls:=.type "list",data:=.seq y.toArray},toks:=t'}:=
 I.laid (λ_ _ q=>eo _ q) (ec _) (J,y,0,z,ir _ rfl)
theorem Inv.fresh(I:Inv X pins σ H s):H ↥s=aT:=I.dS.fresh<|ec _
theorem Inv.uS(I:Inv X pins σ H s)(J:H l=aF (.lst xs)):xs.length<=ej/\∃y n,d8 xs y/\xs.length=y.length/\s.heap.get? l=aF {cls:=.type "list",data:=.seq y.toArray n}:=by let(z,y,n,r,e):=I.dS l _ J;show(z,y,n,r,r.length,e)
theorem Ej(h:n<=ej):T_ n=bB:=by erw[T_];show decide_eq_false ()
end
section
variable{X:Cx}
def sW:V->zn V->Hp->VK->Prop:=λx b H Q=>∃l a y,x=.ref l/\b=[y]/\H l=aF (.lst a)/\a.length<ej/\Q .dw (upd H l<|.lst<|a++[y])
theorem zkV:UE X "list.append" sW:=by intro a s i H x f v d Q I O U h;let(l,g,y,rfl,rfl,J,Z,q):=h;cases O;let(u,rfl,W):=U.one;let(z,Y,n,r,b,e):=I.uS J;show o5 F.slot_list_append (_,e,rfl) F.entry_list_append (F.args_list_append_2 _ _) (PySem.list_append l Y.toArray n u (by rw[gN];lia)) (e,?_);show(.dw,_,I.PY J e () (r.append (.cons W .nil)) ?_,rfl,q);rw[n3,H8];lia
def za0:R2:=λx y H Q=>∃l k a,x=.ref l/\y=.int k/\H l=aF (.lst a)/\ -(2^63)<=k/\k<2^63/\a.length*k.toNat<=ej/\
 ∀p,H p=aT->Q (.ref p) (upd H p<|.lst (d5 k.toNat a).flatten)
theorem gi(xs:zn α)(k:Nat):(d5 k xs).flatten.length=k*xs.length:=by simp_all
theorem Ol:fJ X (ot .Mult) za0:=by
 intro b s K H x y v u Q I U W h;let(l,k,G,rfl,rfl,Y,p,w,O,q):=h;cases U;let(t,rfl):=W;let(z,J,n,r,Z,e):=I.uS Y;have d:J.toArray.size*k.toNat<=ej:=by rw[gN,<-Z];show O
 have f:¬J.toArray.size*k.toNat>(2^63-1)/8:=by
  have:ej<=(2^63-1)/8:=by decide
  lia
 have g:¬(!Builtin.List.listFitsIndex k)=aG:=by rw[fitsIndex_both p w];show iu
 have i:¬T_ (J.toArray.size*k.toNat)=aG:=by rw[Ej d];show iu
 have j:List.foldl (λB C=>B++C) #[] (d5 (if J.toArray.isEmpty=aG then 0 else k.toNat) J.toArray)=(d5 k.toNat J).flatten.toArray:=by
  have o:=λm=>by have:=Yu J m [];rw[D2]at this;show this
  rw[o];cases J with
  |nil=>simp
  |cons a E=>rfl
 show zlt () (_,e,rfl) (λA=>M7 A k t) noFill_list_mul F.fills_int_mul Uk repeat_list F.slot_int_index.lookup
  (o5 Uk (M7 s k t) F.entry_int_rmul (F.args_int_rmul_2 _ _) (int___rmul___int_list k t l J.toArray n)
    (e,rfl,(_,e,rfl),o5 F.slot_list_mul (_,e,rfl) F.entry_list_mul (F.args_list_mul_2 _ _) (AutoListH.list___mul___list_int_3 l J.toArray n k t g f i) (e,?_)))
 rw[j];show(.ref _,_,I.FO (r.rep k.toNat) (by rw[gi,Nat.mul_comm];show O),rfl,q _ I.fresh)
end
end L2
namespace Att
open PySem PySem.W PySem.Calls PyProof.Rows
theorem Yj:∀e vs,WellAll P h vs (e.map WData.int)->E2 vs e:=by
 intro e
 induction e with
 |nil=>
  intro vs w;rw[T4]at w;cases w;show .nil
 | cons n e y=>
  intro vs w;rw[mc]at w;cases w with
  |cons a b=>
   cases a;show .cons _ _<|y _ b
theorem zkg{l:OpenLaw}{n:Nat}(B:l.most=aF n){P:Params}{h:dV}{args:zn WData}{y:zn da}
 (z:l.row.toRowW.claim.pre args=aG) (I:WellAll P h y args):
 ∃a vs e,y=[nq a]/\args=[WData.list (e.map WData.int)]/\h.get? a=aF {cls:=.type "list",data:=.seq vs.toArray}/\E2 vs e/\e.length<=n:=by
 have J:WShape.hasAll [] args [.list .int]=aG:=(pre_splitW z).1;have f:l.pre.holds [] {args:=args}=aG:=(pre_splitW z).2;let(d,r,rfl,g,i):=hasAllW_cons J;obtain rfl:=hasAllW_nil i;let(p,rfl,j):=hasW_list g;let(e,rfl):=items_int j;have O:e.length<=n:=by
  erw[OpenLaw.pre]at f;have b:=by have b:=(holds_andW f).1;rw[B]at b;show b
  have o:=condW_of b<|w_not<|w_lt w_lit<|w_len_list<|w_arg rfl
  grind
 cases I with
 |cons k m=>
  cases m;cases k with
  |list Q U=>show(_,_,e,rfl,rfl,Q,Yj e _ U,O)
theorem zkH(l:OpenLaw)(args:zn WData):l.row.toRowW.claim.post args (.bool aG) args=aG:=
 postW_of
  (by rfl)
  (w_eq_bool (w_res rfl) w_lit) rfl
theorem LX{l:OpenLaw}{n:Nat}{q:eA}{z:zn Str}{I:(Str->xz da)->dV->Prop}{J:eu->dV->Prop}{d:DefRec}
 (hn:l.most=aF n) (Q:d.params.defaults=[])
 (call:∀w g8 y L mb B o pm H e a vs S,
   Ground q z [] I w g8 L mb y.heap->J w y.heap->
   y.heap.get? B=aF o->o.data=.func (docDef d.name d.params d.body d.scope pm H e)->y.heap.CodeRec H d.name->L d.name=aF (.ref B)->
   y.heap.get? a=aF {cls:=.type "list",data:=.seq vs.toArray}->E2 vs S->S.length<=n->y.gens = #[]->
   codeAny (dq l.prog w) uB (.call (.ref B) ([.ref a],[])) (λr s'=>r=.ok (.ret<|.bool aG)/\OldK y.heap s'.heap/\s'.os=y.os/\pA s'.gens) y):
 WalkO q z I J l.row.toRowW d [] (λf vs=>PySem.call f vs):=by
 intro w g8 y L mb G Y B o pm H e U kV W u Z O g x b E as h F ad i K;obtain rfl:U=.none:=Dflts.none O Q;obtain rfl:kV=.none:=Dflts.noKw O;let(a,vs,S,rfl,rfl,j,k,m):=zkg hn h i;show enter_call<|t9 (call w g8 y L mb B o pm H e a vs S G Y W (fd_plain u) Z g j k m x) λr s' C=>?_;let(rfl,p,s,t):=C;show(.inl (.bool aG,.bool aG,[],rfl,λ_=>rfl,.bool aG,zkH l _,λ_=>(zd9.nil,λ_ A=>(nomatch A))),p,s,t)
end Att
namespace L2
open PySem PySem.Spec PyProof.Rows
theorem zj1(h:E2 vs ns):d8 (ns.map V.int) vs:=by
 induction h with
 |nil=>show .nil
 |cons n t h y=>show .cons (t,rfl) y
def Sq(H:Hp):Prop:=∀b,H b=aT\/∃o a,H b=aF (.ny o<|.lst a)
theorem Ez{P:eA}{w:eu}{K:cL}{S mb:DZ}{CX:o9}{k:Nat}{fa a:cI}{fd:gv}{x:Str}{sp:Sp}{y:dy}{vs:zn da}{ns:zn Int}
 (O:K.In y.heap) (Q:y.heap.Ns gF S) (B:y.heap.Ns UN mb) (a2:∀x:Str,x ≠ "__name__"->mb x=pH x) (a3:y.heap.NoLimit) (hg:y.gens = #[])
 (ha:y.heap.get? a=aF {cls:=.type "list",data:=.seq vs.toArray}) (hi:E2 vs ns) (U:ns.length<=ej) (hr:g6 k uB)
 (F:∀base,K.In base->base.Ns gF S->fy P w K S base CX k fa fd [x] sp) (a6:∀s u,D8 s fd ([u],[]) [(x,u)])
 (a7:∀H,Sq H->eJ K H a (ns.map V.int)->sp [.ref a] H (λv _=>v=.bl aG) λ_ _ _=>False)
 (a8:∀H e L,CX [] H y (λ_ _ _=>False) e L->False):
 codeAny (dq P w) uB (.call (.ref fa) ([.ref a],[])) (λr L=>r=.ok (.ret<|.bool aG)/\OldK y.heap L.heap/\L.os=y.os/\pA L.gens) y:=by
 have W:=zj1 hi;have p:=hi.length;have Y:∀H,Sq H->eJ K H a (ns.map V.int)->gm P w H y.heap->(∀b,H b≠aT->b=a)->(H a≠aT->K.lookup a=aT)->
  codeAny (dq P w) uB (.call (.ref fa) ([.ref a],[])) (λr L=>r=.ok (.ret<|.bool aG)/\OldK y.heap L.heap/\L.os=y.os/\pA L.gens) y:=by
  intro H Z N i hA hK;have f:∀{b:cI} {o:gB},_=aF o->H b=aT->(Mo y.heap H).get? b=aF o:=EK;have ad:∀{b:cI} {o:gB} {l:Array N5} {j:Nat},y.heap.get? b=aF o->o.data=.dict l j->H b=aT:=λ{b o l j} e d=>by grind
  have I:∀{b:cI} {m:DZ},y.heap.Ns b m->(Mo y.heap H).Ns b m:=λ{b m} (o,l,j,e,d,r)=>(o,l,j,f e<|ad e d,d,r);have n:=λb o e=>f (O b o e) (by
   grind)
  have M:Mod K S _:=(n,I Q,(mb,I B,a2),let (R,E,G):=a3;(R,I E,G));have A:pa P w K S _ uB [] y H:=(rfl,M,λb o e=>IW e,Ms<|Ao _ _,trivial,λb B=>absurd (show b∈([])from B) (),i,.of_eq hg);show t9 ((F _ n<|I Q).run uB [] y H _ [.ref a] [.ref a] _ _ hr A (a6 y<|.ref a) (.cons rfl .nil) (a7 H Z N)) λr L h=>?_;cases r with
  |error e=>show(a8 H e L h).elim
  | ok C=>
   cases C with
   |next=>show t8 h
   |brk=>show t8 h
   |cont=>show t8 h
   | ret u=>
    let(v,H',os,g,un,t,X,q):=h;have T:=q;subst T;obtain rfl:u=Value.bool aG:=X;show(rfl,OldK.of_keep λb o e=>?_,os,g);cases q:H b with
    |none=>show un.keep b o e q (by intro z;show absurd (show b∈([])from z) ()) ()
    | some u=>
     rcases Z b with z|⟨ob,xs,z⟩
     .lia
     .have z2:=un.nW b ob _ z
      let(e1,_):=i b _ z;let(e2,_):=t b _ z2;lia
 cases hk:K.lookup a with
 |some o=>
  have e:=O a o hk;rw[ha]at e;cases e;show Y _ (λ_=>.inl rfl) (.inr (_,vs.toArray,_,hk,rfl,rfl,rfl,by rw[gN,p];show U,~~~W)) (λb u z=>by lia) (λb z=>absurd rfl z)<|absurd rfl
 | none=>
  show Y (λb=>if b=a then aF (.ny {cls:=.type "list",data:=.seq vs.toArray} _)else aT) (λb=>?_) (.inl (.inr (_,DJ rfl))) (λb u z=>?_) (λb z=>?_) λ_=>hk
  .by_cases B:b=a
   .exact .inr (_,_,DJ B)
   .exact .inl<|DY B
  .by_cases B:b=a
   .have J:=(DJ B).symm.trans z
    cases J;subst B;show(ha,by rw[gr];show U,vs,_,W,ha)
   .have J:=(DY B).symm.trans z
    cases J
  .by_cases B:b=a
   .exact B
   .exact absurd (DY B) z
abbrev gc{K:cL}{h:dV}(_:K.In h):cL:=K
theorem Hy{l:PySem.W.OpenLaw}{n k:Nat}{q:eA}{J:zn Str}{O:(Str->xz da)->dV->Prop}{y:eu->dV->Prop}{d:DefRec}{K:Params->cL}{CX:eu->o9}{sp:eu->Sp}{x:Str}
 (hn:l.most=aF n) (Q:n<=ej) (U:d.params.defaults=[]) (Z:g6 k uB)
 (zh0:∀w h,y w h->(K w.params).In h)
 (F : ∀w B L h,(K w.params).In h->h.Ns gF B->B d.name=aF (.ref L)->
   ∃fd,(∀s u,D8 s fd ([u],[]) [(x,u)])/\
    ∀base,(K w.params).In base->base.Ns gF B->fy l.prog w (K w.params) B base (CX w) k L fd [x] (sp w))
 (a2:∀w H a (S:zn Int),S.length<=n->Sq H->eJ (K w.params) H a (S.map V.int)->sp w [.ref a] H (λv _=>v=.bl aG) λ_ _ _=>False)
 (a3:∀w H s e s',CX w [] H s (λ_ _ _=>False) e s'->False):
 PySem.W.WalkO q J O y l.row.toRowW d [] (λf vs=>PySem.call f vs):=by
 show Att.LX hn U λw j i B mb L o pm R t a vs S G Y ho X P m p r z N=>?_;have I:=zh0 w _ Y;let(fd,M,A):=F w B L _ I G.T.g m;show Ez I G.T.g G.T.b G.T.builtins G.T.nolimit N p r (fZ z Q) Z A M (λH C E=>a2 w H a S z C E) λH e s'=>a3 w H i e s'
theorem Rl{l:PySem.W.OpenLaw}{n k:Nat}{q:eA}{z:zn Str}{I:(Str->xz da)->dV->Prop}{y:eu->dV->Prop}{d:DefRec}{K:Params->cL}{CX:o9}{sp:cL->Sp}{x:Str}
 (hn:l.most=aF n) (J:n<=ej) (O:d.params.defaults=[]) (Q:g6 k uB)
 (U:∀w h,y w h->(K w.params).In h)
 (F : ∀w B fa h,(K w.params).In h->h.Ns gF B->B d.name=aF (.ref fa)->
   ∃fd,(∀s u,D8 s fd ([u],[]) [(x,u)])/\
    ∀base,(K w.params).In base->base.Ns gF B->fy l.prog w (K w.params) B base CX k fa fd [x] (sp<|K w.params))
 (Y:∀K H a (L:zn Int),L.length<=n->Sq H->eJ K H a (L.map V.int)->sp K [.ref a] H (λv _=>v=.bl aG) λ_ _ _=>False)
 (Z:∀H s e S,CX [] H s (λ_ _ _=>False) e S->False):
 PySem.W.WalkO q z I y l.row.toRowW d [] (λf vs=>PySem.call f vs):=
 Hy hn J O Q U F (λw H a L b g i=>Y (K w.params) H a L b g i) λ_ H s e S=>Z H s e S
def qB(s:en):Arguments:=match s with
 |.FunctionDef _ a _ _ _ _ _ _ _ _=>a
 |_=>{posonlyargs:=[],args:=[],vararg:=aT,kwonlyargs:=[],kw_defaults:=[],kwarg:=aT,defaults:=[]}
def jn(s:en):zn en:=match s with
 |.FunctionDef _ _ b _ _ _ _ _ _ _=>b
 |_=>[]
def zK(s:en):e9:=match s with
 |.FunctionDef _ _ _ _ _ _ a _ _ _=>a
 |_=>{kind:=.function,names:=[],isGenerator:=bB,isCoroutine:=bB}
abbrev f7:o9:=λ_ _ _ _ _ _=>False
abbrev E0:XK:=λ_ _ _=>False
theorem QQ:YN f7 X E0:=λ_ _ _ _ _ _ _ h=>h.elim
structure g5(K:cL)(x qual:Str)(st:en)(f:cI)(fd:gv):Prop where
 ex:∃(oc:da) (od:Option cI) (kV doc pm:da) (an:Option cI) (E7 ct:da) (Di:Array (Option da)),
  fd=mW x qual (qB st) (jn st) (zK st) .none kV doc pm an E7 ct/\K.lookup f=aF (oc,od,.func fd,Di)/\sL K E7 qual=aG
 kp:lK K (.ref f)=aG
section
variable{P:eA}{w:eu}{K:cL}{mg:DZ}{base:dV}
theorem g5.ok{x qual:Str}{st:en}{f:cI}{B:gv}{N ps:zn Str}{k:Nat}{sp:Sp}(F:g5 K x qual st f B)(S:B4 N ps (zK st))(len:∀vs H Q E,sp vs H Q E->vs.length=ps.length)
 (y:∀e A outer s H vs Q E,g6 k (A.deeper<|envOfC qual (zK st) ↥s f e)->sp vs H Q E->
   ∃t,h8 (du f7 P w K mg base N qual (zK st) f e A outer s H E).kb (jn st) t/\t {nx:=λ_ L=>Q .dw L,rt:=Q} (Xy N vs) H):↑fy f7 (k+1) f B ps sp:=by
 let(i,j,kV,a,l,d,e,g,b,rfl,lk,z):=F.ex;show OY lk z S len λA outer s H vs Q E I J=>?_;let(t,h,q):=y e A outer s H vs Q E I J;show(t,h.kb,q)
theorem g5.binds{x qual:Str}{st:en}{f:cI}{J:gv}{ps:zn Str}(F:g5 K x qual st f J)
 (h:∀kV z H B e ct I,I.length=ps.length->rz (mW x qual (qB st) (jn st) (zK st) .none kV z H B e ct) (I,[])=pure (ps.zip I)):Binds K J ps []:=by
 let(b,d,kV,z,H,B,e,ct,a,rfl,lk,y):=F.ex;show .all<|h kV z H B e ct
theorem Yq{x qual:Str}{st:en}{f:cI}{J:da}{od H:xz cI}{B:Array (xz da)}{kV z I e ct:da}(l:K.lookup f=aF (J,od,.func<|mW x qual (qB st) (jn st) (zK st) .none kV z I H e ct,B))
 (c:sL K e qual=aG) (k:lK K (.ref f)=aG):g5 K x qual st f (mW x qual (qB st) (jn st) (zK st) .none kV z I H e ct):=((J,od,kV,z,I,H,e,ct,B,rfl,l,c),k)
end
def et(H e:Hp):Prop:=∀b o,H b=aF o->e b=aF o
theorem et.refl(H:Hp):et H H:=λ_ _ h=>h
theorem et.trans(a:et H H1)(b:et H1 H2):et H H2:=λc o h=>b c o<|a c o h
theorem et.free(e:et H H')(h:H' l=Option.none):H l=Option.none:=by
 cases q:H l with
 |none=>rfl
 |some o=>
  rw[e l o q]at h;cases h
theorem et.seq{K:cL}{H z:Hp}{a:cI}{xs:zn V}(e:et H z)(h:eJ K H a xs):eJ K z a xs:=by
 rcases h with(h|⟨o,h⟩)|h
 .exact .inl<|.inl<|e _ _ h
 .exact .inl<|.inr (o,e _ _ h)
 .exact .inr h
def rf(cells:zn (Str×cI)):zn (Str×pC)->zn (Str×cI)->zn (Str×cI)
 |[],acc=>acc
 |(n,k)::r,acc=>rf cells r<|if k==oz then (match cells.lookup n with|some c=>(n,c)::acc|none=>acc)else acc
theorem w5(f:Str×pC->zn (Str×cI)->ip (ForInStep<|List<|Str×cI))
 (H:∀name kind y,f (name,kind) y=if kind==oz then (do let a<-cellOf env name;pure (.yield ((name,a)::y)))else pure (.yield y)):
 ∀names B,(∀n,(n,oz)∈names->∃c,env.cells.lookup n=aF c)->
  forIn names B f=(pure<|rf env.cells names B)
 |[],B,_=>by rfl
 | (n,k)::r,B,h=>by
  rw[List.forIn_cons,H];have I:=λm d=>h m<|gy _ d;erw[rf];by_cases z:(k==oz)=aG
  .have J:= ~~~z
   subst J;let(c,b):=h n gH;have e:cellOf env n=pure c:=by erw[cellOf];rw[b]
   rw[e,b];show w5 f H r _ I
  .rw[DY z,DY z]
   show w5 f H r B I
theorem ae(h:∀n,(n,oz)∈scope.names->∃c,env.cells.lookup n=aF c):
 closureFor scope env=pure (rf env.cells scope.names []):=by
 simp?[closureFor];rw[w5 _ (λb a y=>by rfl) scope.names [] h];rfl
theorem zli
 (y:Q {scope:=scope,locals:=↥s,globals:=globals,cells:=pg (↥s+1) scope.names cl,qual:=qual,func:=aT,code:=env.code,frame:=env.frame,builtins:=env.builtins}
   {s with heap:=u3 (s.heap.push {cls:=.type "dict",data:=.dict #[]}) scope.names}):
 wpAny M A (newFunctionEnv scope globals cl [] qual aT .none (aF env)) Q E s:=by
 show cS<|wpAny_alloc ?_;show cS<|wpAny_layCells _ (λb a cells=>by rfl) _ _ _ _ ?_;rw[nc ..];show cS<|d7<|d7 y
theorem lU:∀{names:zn (Str×pC)} {e:zn (Str×cI)},(n,c)∈rf cells names e->(n,c)∈e\/((n,oz)∈names/\cells.lookup n=aF c)
 |[],e,h=>.inl h
 |(m,k)::r,e,h=>by
  erw[rf]at h;rcases lU h with g|⟨h1,h2⟩
  .grind
  .exact .inr (gy _ h1,h2)
theorem Ya:∀{names:zn (Str×pC)} {B:zn (Str×cI)},((B.lookup n).isSome=aG\/((n,oz)∈names/\(cells.lookup n).isSome=aG))->((rf cells names B).lookup n).isSome=aG
 |[],B,h=>by
  rcases h with h|⟨h,_⟩
  .exact h
  grind
 | (m,k)::r,B,h=>by
  erw[rf];apply Ya;by_cases y:(k==oz)=aG
  .rw[DJ y]
   have I:= ~~~y
   subst I;cases e:cells.lookup m with
   | none=>
    rcases h with h|⟨h1,h2⟩
    .exact .inl h
    .rcases eL.mp h1 with h1|h1
     .cases h1;rw[e]at h2;cases h2
     .exact .inr (h1,h2)
   | some J=>
    dsimp only;by_cases z:n=m
    .subst z;left;simp
    .rcases h with h|⟨h1,h2⟩
     .left;rw[t4];split<;>simp_all
     .rcases eL.mp h1 with h1|h1
      .cases h1;show absurd rfl z
      .exact .inr (h1,h2)
  .rw[DY y]
   rcases h with h|⟨h1,h2⟩
   .exact .inl h
   .rcases eL.mp h1 with h1|h1
    .cases h1;show absurd rfl y
    .exact .inr (h1,h2)
theorem kY:∀{names:zn (Str×pC)} {k:Nat} {e:zn (Str×cI)},(n,c)∈pg k names e->(n,c)∈e\/(k<=c/\(n,M3)∈names)
 |[],_,_,h=>.inl h
 | (m,kd)::r,k,e,h=>by
  erw[pg]at h;split at h
  .rename_i y
   have z:= ~~~y
   subst z;rcases kY h with h|⟨h1,h2⟩
   .grind
   .exact .inr ((),gy _ h2)
  .rcases kY h with h|⟨h1,h2⟩
   .exact .inl h
   .exact .inr (h1,gy _ h2)
theorem vS:∀{names:zn (Str×pC)} {k:Nat} {z:zn (Str×cI)},(∀p∈z,∀q∈z,p.2=q.2->p.1=q.1)->(∀p∈z,p.2<k)->
 ∀p∈pg k names z,∀q∈pg k names z,p.2=q.2->p.1=q.1
 |[],_,_,h,_=>h
 | (m,kd)::r,k,z,h,hl=>by
  erw[pg];split
  .refine vS (λp hp q hq e=>?_) (λp hp=>?_)
   .rcases eL.mp hp with rfl|hp<;>rcases eL.mp hq with rfl|hq
    .rfl
    .exact absurd (e ▸ hl q hq)<|m6 _
    .exact absurd (e ▸ hl p hp)<|m6 _
    .exact h p hp q hq e
   .rcases eL.mp hp with rfl|hp
    .exact o1 _
    .exact oj<|hl p hp
  .exact vS h hl
theorem YB:∀{names:zn (Str×pC)} {h:dV} {e:zn (Str×cI)} {n:Str} {c:cI},(n,c)∈pg h.objs.size names e->(n,c)∈e\/(u3 h names).IsCell c aT
 |[],_,_,_,_,hm=>.inl hm
 | (m,kd)::r,h,e,n,c,hm=>by
  erw[pg]at hm;erw[u3];split at hm
  .rename_i y
   rw[DJ y];rw[((nc ..).symm)]at hm;rcases YB hm with hm|hm
   .rcases eL.mp hm with hm|hm
    .cases hm
     have z:(h.push _).IsCell h.objs.size aT:=({cls:=.type "cell",data:=.cell aT},ir _ rfl,rfl);show .inr (z.keeps (M4 _ _))
    .exact .inl hm
   .exact .inr hm
  .rename_i y
   rw[DY y];show YB hm
theorem Zq{e:Type}{l:zn (Str×e)}(z:(l.map (·.1)).Nodup):∀{n:Str} {a:e},(n,a)∈l->l.lookup n=aF a:=by
 induction l with
 |nil=>grind
 |cons p r y=>
  grind
theorem ZL(scope:e9)(env:hH)(x:Str):(pQ scope env).names.lookup x =
 (scope.names.lookup x).map λk=>if (k==oz&&env.scope.kind ==.function&&env.kindOf x==aF .cell)then M3 else k:=by
 erw[pQ];dsimp only;generalize scope.names=l
 induction l with
 |nil=>rfl
 |cons p r y=>
  grind
def mG(scope:e9)(env:hH)(L:cI):hH:=
 {scope:=pQ scope env,locals:=L,globals:=env.globals,cells:=pg (L+1) scope.names<|rf env.cells scope.names [],qual:=env.qual,func:=aT,code:=env.code,frame:=env.frame,builtins:=env.builtins}
def jR(X:Cx)(scope:e9)(y:zn Str)(fp:zn cI)(e:dy)(z:Hp):Cx:=
 {X with N:=y,g8:=e,uo:=z,env:=mG scope ⋯<|↥e+1,outer:=X.stack,stack:=X.stack,ex:=fp,fn:=λx=>scope.names.lookup x==aF .cell,pn:=[],xe:=λ_ _=>False}
structure n7(X:Cx)(scope:e9)(fr:List (Str×Nat)):Prop where
 kind:scope.kind=.function
 nd:(scope.names.map (·.1)).Nodup
 free:∀p∈scope.names,p.2=oz->⋯.kindOf p.1=aF .cell\/⋯.kindOf p.1=aF .free
 fr:∀p∈fr,scope.names.lookup p.1=aF .free/\X.N[p.2]? = aF p.1
def Cu(own:zn Str)(e:zn (Str×Nat))(z:St):St:=own.map (λ_=>aT)++e.map λp=>(z[p.2]?).join
abbrev Mn:gB:={cls:=.type "list",data:=.seq #[]}
abbrev Pj:gB:={cls:=.type "dict",data:=.dict #[]}
theorem EI{B:TW}{scope:e9}{own:zn Str}(I:Inv X B σ H2 s2)(ok:n7 X scope fr)
 (W:∀b∈fp,YO X B H2 b) (ad:∀b∈fp,∃o,s2.heap.get? b=aF o):
 Inv (jR X scope (own++fr.map (·.1)) fp s2 H2) [] (Cu own fr σ) (upd H2 ↥s2<|.lst []) {s2 with heap:=u3 ((s2.heap.push Mn).push Pj) scope.names}:=by
 have z2:((s2.heap.push Mn).push Pj).objs.size=↥s2+2:=by simp_all
 have O:∀n c,(n,c)∈rf ⋯.cells scope.names []->_/\_:=λn c h=>(lU h).resolve_left ();have a5:∀n c,_=aF c->c<_:=λn c h=>by let(v,q):=I.cell n c h;show q.lt
 have a:∀x c,_=aF c->_\/(↥s2+2<=c/\(x,M3)∈scope.names):=λx c h=>by
  rcases kY (mem_of_lookup h)with h|h
  .exact .inl<|O x c h
  .exact .inr h
 have A:∀x,_∈scope.names->∃c,_/\_:=λx Q=>by
  let(c,g):=I.ok.has x<|ok.free (x,.free) Q rfl;have r:((rf ⋯.cells scope.names []).lookup x).isSome=aG:=Ya<|.inr (Q,by rw[g];rfl);let(F,C):=qd.mp<|R6 scope.names (↥s2+2) _<|.inr r;show(c,g,?_);rcases a x F C with⟨_,q⟩|⟨_,q⟩
  .rw[g]at q;cases q;show C
  .exact absurd ((Zq ok.nd q).symm.trans (Zq ok.nd Q)) ()
 have keep:∀b o,_=aF o->(u3 ((s2.heap.push Mn).push Pj) scope.names).get? b=aF o:=λb o e=>
  M4 _ _ b o (eo _<|eo _ e)
 have a9:∀b∈fp,b<_:=λb d=>by let(o,e):=ad b d;show ft e
 have E:∀c,_<c->(upd H2 ↥s2<|.lst []) c=aT:=λc g=>by rw[zC (pz g)];show I.dS.fresh<|T6 g
 let(m0,G):∃m,(u3 _ scope.names).Ns _ m:=by have q:=(Heap.Ns.new (s2.heap.push Mn) (.type "dict")).keeps ((M4 scope.names _));rw[(nc ..)]at q;show(_,q)
 show((I.ok.mod,ok.kind,I.ok.glob,I.ok.blt,uc _,λx y c r s=>(vS (names:=scope.names) (λp f q T e=>I.ok.inj p.1 q.1 p.2 (O _ _ f).2 (by rw[e];show(O _ _ T).2)) (λp f=>by
  show oj<|oj<|a5 p.1 p.2 (O p.1 p.2 f).2)) (x,c) (mem_of_lookup r) (y,c) (mem_of_lookup s) rfl,λx Q=>?_,λx c P h=>?_,I.ok.hd,I.ok.frames,.inl rfl,λb d=>(gq<|oj<|a9 b d,λx c h z=>?_),I.bs,fZ I.ok.oK I.sz,λb o e d=>?_,λb d hs=>?_,I.stack,I.Dn),
  rfl,I.bare,Un.laid keep (ec _)<|I.dS.fresh<|ec _,(m0,G,λi x v N J e3=>?_),λx c h=>?_,E _<|o1 _,λx c h=>?_,λp f=>absurd (show p∈([])from f) (),?_,?_)
 .have j:(pQ scope ⋯).names.lookup x=aF .cell\/(pQ scope ⋯).names.lookup x=aF .free:=Q
  have:scope.names.lookup x=aF .cell\/scope.names.lookup x=aF .free:=by
   rw[ZL]at j;cases e:scope.names.lookup x with
   |none=>rw[e]at j;simp at j
   |some k=>
    grind
  rcases this with h|h
  .exact qd.mp<|R6 scope.names _ _<|.inl h
  .let(c,_,s):=A x<|mem_of_lookup h;show(c,s)
 .have H:(scope.names.lookup x==aF .cell)=aG:=P
  rcases a x c h with⟨q,_⟩|⟨q,_⟩
  .exact absurd ((Zq ok.nd q).symm.trans (~~~H)) ()
  .exact fZ (nM _ 2) q
 .rcases a x c h with⟨_,q⟩|⟨q,_⟩
  .exact(W b d).2.2.2.2.1 x c q z
  .exact absurd (i9 (a9 b d)<|fZ (nM _ 2)<|z ▸ q)<|m6 _
 .rcases (W b d).2.2.2.1 with q|q
  .exact I.ok.y8 b o e q
  .exact absurd (i9 (ft e)<|fZ I.ok.oK q)<|m6 _
 .rcases eL.mp (I.Dp b hs)with q|q
  .exact(W b d).2.1 q
  .exact(W b d).2.2.1 q
 .by_cases l:i<own.length
  .unfold Cu at J
   rw[o3 (~~~l)]at J;simp[n4,l]at J
  .have R:∃p,fr[i-own.length]? = aF p/\p.1=x/\(σ[p.2]?).join=aF v:=by
    erw[Cu]at J;have U:(own++fr.map (·.1))[i]? = aF x:=N;rw[pv (),n4]at U;rw[pv (~~~l),n4,gr]at J;cases q:fr[i-own.length]? with
    |none=>rw[q]at U;cases U
    |some p=>
     rw[q]at U J;show(p,rfl,~~~U,~~~J)
   show dj λt=>?_;let(p,f,K,Y):=R;let(Z,g2):=ok.fr p<|oA f;show t ?_;rw[K]at Z g2;have as:=ok.free (x,.free) (mem_of_lookup Z) rfl;let(m,hn,S):=I.loc;let(u,ru,lk):=S p.2 x v g2 (by
    cases q:σ[p.2]? with
    |none=>rw[q]at Y;cases Y
    |some o=>rw[q]at Y;simpa using Y) (by rcases as with k|k;show .inr<|.inl k;show .inr<|.inr k)
   show(u,ru,.inr ?_);show dj λt=>?_;let(c,b3,L):=A x<|mem_of_lookup Z;show t ?_;have M:s2.heap.IsCell c (aF u):=by
    rcases lk with⟨k,_⟩|⟨_,F,e,z⟩
    .lia
    lia
   show(?_,c,L,M.keeps keep);change(pQ scope ⋯).names.lookup x=aF .cell\/(pQ scope ⋯).names.lookup x=aF .free;rw[ZL,Z];dsimp?[oh];split
   .exact .inl rfl
   .exact .inr rfl
 .rcases kY (mem_of_lookup h)with q|q
  .let(v,w):=I.cell x c (O x c q).2
   show(v,w.keeps keep)
  .rcases YB (by rw[z2];show(mem_of_lookup h))with q4|q4
   .let(v,w):=I.cell x c (O x c q4).2
    show(v,w.keeps keep)
   .exact(aT,q4)
 .rcases a x c h with⟨_,q⟩|⟨q,_⟩
  .rw[zC (gq<|a5 x c q)];show I.oe x c q
  .exact E c<|i9 (oj<|o1 _) q
 .refine I.dS.laid keep (ec _) (l6 _,[],0,.nil,?_)
  show M4 _ _ _ _<|eo _<|ir _ rfl
 .show(Cu own fr σ).length=(own++fr.map (·.1)).length
  simp[Cu]
theorem Zz(I:Nat->dy->Prop)
 (Y : ∀n s,I n s->wpAny (dq prog w) A (zd it) (λr y=>match r with
   |none=>R (.ok .next) y
   | some v=>wpAny (dq prog w) A (Df target it v) (λ_ y=>wpAny (dq prog w) A (rx target env v) (λ_ J=>
    wpAny (dq prog w) A (forIn ifs aG λc r=>if r=aG then do let ok<-uK c env (dv c env);pure (Sf ok)else pure (Sf r)) (λok z=>
     if ok=aG then wpAny (dq prog w) A (dv elt env) (λx O=>
      wpAny (dq prog w) A (call (.builtin "list.append") [acc,x]) (λ_ Q=>∃m,m<n/\I m Q) (λ_ _=>False) O) (λ_ _=>False) z
     else ∃m,m<n/\I m z) (λ_ _=>False) J) (λ_ _=>False) y) (λ_ _=>False) y) (λ_ _=>False) s)
 (n:Nat) (h:I n s):
 codeAny (dq prog w) A (.compLoop (.ListComp elt [(target,iter,ifs,0)] scope pos) 0 it acc env) R s:=by
 show codeAny_loop rfl I (λn s Z=>?_) n h;show wpAny_noted ?_;rw[compTurn_list];show cS<|A1<|cS<|fU (Y n s Z) (λr y U=>?_) λ_ _ a=>a.elim;cases r with
 |none=>show d7 U
 | some v=>
  show cS<|fU U (λ_ g f=>?_) λ_ _ a=>a.elim;show cS<|fU f (λ_ J b=>cS<|fU b (λok z W=>?_) λ_ _ a=>a.elim) λ_ _ a=>a.elim;cases ok with
  |false=>show d7 (rfl,W)
  |true=>
   show cS<|cS<|fU W (λx O d=>cS<|fU d (λ_ Q e=>d7<|d7 (rfl,e)) λ_ _ a=>a.elim) λ_ _ a=>a.elim
def Mt(X:Cx)(y:zn dE)(t:TT):Prop:=
 ∀(a:TW) (s:dy) (b:St) (H:Hp) (Q:Bool->Hp->Prop),Inv X a b H s->t b H Q->
  ⇑X (forIn y aG λc r=>if r=aG then do let ok<-uK c ⋯ (dv c ⋯);pure (Sf ok)else pure (Sf r)) (TP X a b Q) X.xe s
def SI:TT:=λ_ H Q=>Q aG H
theorem Wl:Mt X [] SI:=λ_ _ _ H _ I h=>wpAny_tests_nil (H,I,h)
theorem lH(h:PT X c t):Mt X [c] t:=λa s d H Q I b=>wpAny_tests_one<|h a s d H Q I b
def CW(J:It)(g:TG)(O:TT)(te:TE)(D:cI)(Q:VK)(W:Nat->Nat->zn V->St->Hp->Prop):Prop:=
 ∀i m a f H,W i m a f H->H D=aF (.lst a)/\((J.stop i H/\Q (.ref D) H)\/(J.go i H/\a.length<ej/\∀x e,J.pT i H x e->g x f e λy h=>O y h λb z=>
  if b=aG then te y z λv I=>I D=aF (.lst a)/\∃d,d<m/\W (i+1) d (a++[v]) y (upd I D<|.lst<|a++[v])else ∃d,d<m/\W (i+1) d a y z))
def Md(X:Cx)(e:TW)(H:Hp)(L:cI):Prop:=
 H L=aT/\L≠⋯.locals/\X.g8.heap.objs.size<=L/\(∀x c,⋯.cells.lookup x=aF c->c≠L)/\∀p∈X.pn++e,p.1≠L
theorem Ft
 (hc:X.calm=aG) (I:Inv X pins σ H2 s2) (ok:n7 X scope fr) (T:Turn X.prog X.w X.K tg J fp it tn) (st:tn 0 s2.heap) (U:∀b∈fp,YO X pins H2 b)
 (hg:PG (jR X scope (own++fr.map (·.1)) fp s2 H2) tg g) (ht:Mt (jR X scope (own++fr.map (·.1)) fp s2 H2) ifs tt) (he:PE (jR X scope (own++fr.map (·.1)) fp s2 H2) elt te)
 (hW:∀D,H2 D=aT->∃W,(∃m,W 0 m [] (Cu own fr σ) (upd H2 D<|.lst []))/\CW J g tt te D Q W):
 ⇑X (newList []) (λL S=>⇑X (newFunctionEnv scope ⋯.globals (rf ⋯.cells scope.names []) [] ⋯.qual aT .none (aF ⋯)) (λa8 zkz=>
  codeAny (dq X.prog X.w) X.A (.compStart (.ListComp elt [(tg,iter,ifs,0)] scope pos) 0 (.ref it) L {a8 with scope:=pQ scope ⋯})
   (λr H=>(∃f,r=.ok f)/\∃D B,L=.ref D/\Inv X pins σ B H/\Q (.ref D) B/\(∃m,H.heap.Ns a8.locals m)/\Md X pins B a8.locals) zkz) E S) E s2:=by
 have an:∀b∈fp,∃o,_=aF o:=λb a=>by let(o,e,_):=T.obj 0 _ st b a;show(o,e)
 have M:=EI (own:=own) I ok U an;show dj λO=>?_;let(W,(m0,w0),cw):=hW _ I.fresh;show O ?_;show p9<|zli ?_;rw[(nc ..)];have ao:tn 0 (u3 ((s2.heap.push Mn).push Pj) scope.names):=T.keep 0 _ _ st λb _ o e=>M4 _ _ b o<|eo _<|eo _ e;have bi:∀b∈fp,b<_:=λb a=>by let(o,e):=an b a;show ft e
 have a9:∀{B:Hp},(∀b∈fp,B b=aT)->∀b∈fp,YO _ [] B b:=λhn b a=>
  (hn b a,(M.ok.Dd b a).1,M.ok.y7 b a,.inl a,(M.ok.Dd b a).2,λp hp=>absurd (show p∈([])from hp) ())
 have ap:codeAny (dq X.prog X.w) X.A (.compLoop (.ListComp elt [(tg,iter,ifs,0)] scope pos) 0 (.ref it) (.ref ↥s2)<|mG scope ⋯<|↥s2+1)
  (λr H=>(∃f,r=.ok f)/\∃D B,nq ↥s2=.ref D/\Inv X pins σ B H/\Q (.ref D) B/\(∃m,H.heap.Ns (↥s2+1) m)/\Md X pins B (↥s2+1)) {s2 with heap:=u3 ((s2.heap.push Mn).push Pj) scope.names}:=by
  show Zz (λn H=>∃i l s B,Inv _ [] s B H/\tn i H.heap/\(∀b∈fp,B b=aT)/\W i n l s B) ?_ m0
   (0,[],_,_,M,ao,λb a=>by rw[zC (gq<|bi b a)];show(U b a).1,w0)
  rintro n s3 ⟨i,l,h,C,I3,ax,b0,w3⟩;let(hD,bl):=cw i n l h C w3;rcases bl with⟨k,qn⟩|⟨go,hz,step⟩
  .refine dQ (T.done (jR X scope _ fp s2 H2) rfl rfl rfl hc i [] s3 h C _ I3 (a9 b0) ax k) λr s4 y=>?_
   let(hr,Y):=y;subst hr;show((_,rfl),_,C,rfl,I.UP Y.os Y.base Y.dS Y.bare<|λb a=>((U b a).2.2.2.1,(U b a).2.1,(U b a).2.2.2.2.1,(U b a).2.2.2.2.2),qn,?_,Y.free,pz<|oj I.lt,Sb I.sz,?_,?_)
   .let(m,hn,_):=Y.loc
    show(m,hn)
   .intro x c e z
    let(v,q):=I.cell x c e;show absurd (oj q.lt) (by rw[z];show m6 _)
   .intro p hp z
    show absurd (oj<|ft (I.pin p hp).1) (by rw[z];show m6 _)
  .refine dQ (T.item (jR X scope _ fp s2 H2) rfl rfl rfl hc i [] s3 h C _ I3 (a9 b0) ax go) λr s4 y=>?_
   let(u,hr,h4):=y;subst hr;show dQ h4 λ_ s5 y=>?_;show dj λO=>?_;let(x,H5,I5,r5,y5,ad,c6):=y;show O ?_;show dQ (hg _ s5 h H5 x u _ (I5.pinned (a9 c6)<|T.obj _ _ ad) r5<|step x H5 y5) λ_ s6 y=>?_;show dj λO=>?_;let(j,H6,I6,q6):=y;show O ?_;show dQ (ht _ s6 j H6 _ I6 q6) λb s7 y=>?_;let(H7,N,q7):=y;have after:∀{t:St} {G:Hp} {P:dy},Inv (jR X scope (own++fr.map (·.1)) fp s2 H2) ([]++_) t G P->_/\∀b∈fp,G b=aT:=λ{t G P} Z=>by show(T.keep _ _ _ ad λb a o e=>(Z.pin (b,o)<|mU _<|mU _<|Zp a e).1,λb a=>?_);let(o,e,d):=T.obj _ _ ad b a;show(Z.pin (b,o)<|mU _<|mU _<|Zp a e).2.1
   cases b with
   |false=>
    let(m',hm,w7):=q7;show(m',hm,i+1,l,j,H7,N.Dx,(after N).1,(after N).2,w7)
   |true=>
    show dQ (he _ s7 j H7 _ N q7) λv8 P y=>?_;show dj λO=>?_;let(zlC,G,Z,r8,b6,m',hm,zlo):=y;let(znq,cj,zix,rv,cr,e8):=Z.uS b6;show O ?_;show o5 F.slot_list_append (_,e8,rfl) F.entry_list_append (F.args_list_append_2 _ _) (PySem.list_append _ cj.toArray zix v8<|by rw[gN];lia) (e8,?_);have R:=Z.PY (f:=(·.push v8)) (t':=P.toks) b6 e8 () (rv.append<|.cons r8 .nil) (by rw[n3,H8];lia);show(m',hm,i+1,l++[zlC],j,_,R.Dx,(after R).1,(after R).2,zlo)
 show codeAny_compStart_list ap<|T.self _ 0 _ _ _ ao ap
def rX(y:TI)(own:zn Str)(e:zn (Str×Nat))(g:TG)(z:TT)(te:TE):TE:=λb H Q=>y b H λJ a=>∀D,a D=aT->
 ∃W:Nat->Nat->zn V->St->Hp->Prop,(∃m,W 0 m [] (Cu own e b) (upd a D<|.lst []))/\CW J g z te D Q W
section
theorem mF
 (hc:X.calm=aG) (ok:n7 X scope fr) (hi:PI X tg iter wi) (z:∀fp S B,PG (jR X scope (own++fr.map (·.1)) fp S B) tg g)
 (O:∀fp S B,Mt (jR X scope (own++fr.map (·.1)) fp S B) ifs tt) (he:∀fp S B,PE (jR X scope (own++fr.map (·.1)) fp S B) elt te)
 (I:Inv X pins σ H s) (h:rX wi own fr g tt te σ H Q)
 (U:∀D H' s' L,Inv X pins σ H' s'->Q (.ref D) H'->(∃m,s'.heap.Ns L m)->Md X pins H' L->
   compPost (dq X.prog X.w) X.A X.xe use R (.ref D) L (.ok .next) s')
 (hs:∀x,m3 iter ⋯ x=pure x:=by intro _;rfl):
 ⇑X (comprehension (.ListComp elt [(tg,iter,ifs,0)] scope pos) scope ⋯ (firstIterPos [(tg,iter,ifs,0)] pos) (newList []) bB (dv iter ⋯) use) R X.xe s:=by
 show wpAny_comprehension_free rfl hs (ae λn a=>I.ok.has n<|ok.free (n,.free) a rfl) ok.kind (λx W e=>by rw[<-e];show Zq ok.nd W) ?_;show dQ (hi pins s σ H _ I h) λv K l=>dQ l λF S o=>?_;show dj λY=>?_;let(G,fp,P,J,B,e,Z,T,d,f2,C):=o;show Y ?_;subst e;show dQ (Ft hc Z ok T d f2 (z fp S B) (O fp S B) (he fp S B) C) λj M p=>dQ p λi N t=>t9 t λr s' u=>?_;let((f,E),D,H',k,b,q,a,y):=u;subst E;subst k;cases use<;>show(U D H' s' i.locals b q a y)
theorem fN(S:X.calm=aG)(ok:n7 X scope fr)(hi:PI X tg iter wi)(z:∀fp B e,PG (jR X scope (own++fr.map (·.1)) fp B e) tg g)
 (J:∀fp B e,Mt (jR X scope (own++fr.map (·.1)) fp B e) ifs tt) (he:∀fp B e,PE (jR X scope (own++fr.map (·.1)) fp B e) elt te)
 (hs:∀x,m3 iter ⋯ x=pure x:=by intro _;rfl):
 PE X (.ListComp elt [(tg,iter,ifs,0)] scope pos) (rX wi own fr g tt te):=by
 intro a s n H Q I h;rw[eval_ListComp];show mF S ok hi z J he I h (λD b l L O q f y=>?_) hs;let(m,d):=f;let(U,W,Y,Z,j):=y;show(m,d,λk i=>(.ref D,b,O.turned i.extBut U W (.inr Y) Z j,rfl,q))
theorem QN(z:X.N.Nodup)(J:X.N[i]? = aF y)(O:Loc ⋯.scope y)(hf:X.fn y=aG\/⋯.scope.names.lookup y=aF .local)
 (hc:X.calm=aG) (ok:n7 X scope fr) (hi:PI X tg iter wi) (Q:∀fp S B,PG (jR X scope (own++fr.map (·.1)) fp S B) tg g)
 (U:∀fp S B,Mt (jR X scope (own++fr.map (·.1)) fp S B) ifs tt) (he:∀fp S B,PE (jR X scope (own++fr.map (·.1)) fp S B) elt te)
 (hs:∀x,m3 iter ⋯ x=pure x:=by intro _;rfl):
 PS X (.Assign [.Name y py] (.ListComp elt [(tg,iter,ifs,0)] scope pos) spos) (aD (rX wi own fr g tt te)<|yK i):=by
 have d:∃b,ni (.ListComp elt [(tg,iter,ifs,0)] scope pos) (aF (.Name y py)) spos.line ⋯=pure b:=(_,rfl);let(b,d):=d;cases b with
 |false=>
  have o:Gx [.Name y py] (.ListComp elt [(tg,iter,ifs,0)] scope pos) spos.line ⋯=_:=rfl;show lE (fN hc ok hi Q U he hs) (uf z J O hf) (by rw[o];show d)
 | true=>
  intro f s P H D I h;rw[exec_Assign_Name_used _ _ _ _ d];show cS<|A1<|cS ?_;show cS<|dQ (mF hc ok hi Q U he I h (λZ K w L j q t G=>?_) hs) λ_ w q=>d7<|d7 q;show dj λu=>?_;let(C,W,E,Y,F):=G;let(m,r):=t;show u ?_;show zls<|bc j z J O (v:=.ref Z) rfl (λad k l=>?_) hf;let(a,A,p):=l;show(m,r.sameBut A (by
   rcases p with e|e
   .rw[e];show W
   .exact ew<|Y _ _ e),λM n=>(_,_,k.turned n.extBut C W (.inr E) Y F,q))
end
inductive Sk where
 |L|T
 deriving DecidableEq
end L2
namespace DL
open PySem L2
inductive D where
 |dw|bl (b:Bool)|int (i:Int)|str (x:Str)|tup (xs:List D)|lst (xs:List D)
 |exc (c:Str) (n:Option Int)
 |hV (ks vs:List D)
 |i4 (ks:List (List Int)) (vs:List D)
 |ins (c:Str) (p t:D)
inductive Cell where
 |no|val (d:D)|own (ds:List D)|nest (rows:List (List D))
abbrev Ctx:=zn Cell
abbrev CO (a : Type) := Ctx -> xz a
abbrev vI(n:Int):Cell:=.val (.int n)
def lim:Nat:=2500
def qc:D->xz (Sk×zn D)
 |.tup a=>aF (.T,a)
 |.lst a=>aF (.L,a)
 |_=>aT
def zN(f:CO D)(γ:Ctx):xz (Sk×zn D):=(f γ).bind qc
def jY(f:CO (zn D))(γ:Ctx):xz D:=(f γ).map D.lst
def jq(f:CO (zn D))(γ:Ctx):xz (Sk×zn D):=(f γ).map λa=>Prod.mk Sk.L a
def Bc:xz Cell->xz D
 |some (.val d)=>aF d
 |_=>aT
def Jg:xz Cell->xz (Sk×zn D)
 |some (.val d)=>qc d
 |some (.own ds)=>aF (.L,ds)
 |_=>aT
def zf(i:Nat)(γ:Ctx):xz D:=Bc γ[i]?
def zh(i:Nat)(γ:Ctx):xz (Sk×zn D):=Jg γ[i]?
def je(d:D):CO D:=λ_=>aF d
abbrev sI(n:Int):CO D:=je (.int n)
def zF(F:D->D->xz D)(e z:CO D)(γ:Ctx):xz D:=(e γ).bind λx=>(z γ).bind λy=>F x y
def pe:D->xz Bool
 |.bl b=>aF b
 |_=>aT
def i1:D->xz Int
 |.int i=>aF i
 |_=>aT
def sB(f:CO D)(γ:Ctx):xz Bool:=(f γ).bind pe
def bu(f g:CO Bool)(γ:Ctx):xz Bool:=(f γ).bind λb=>if b=aG then g γ else aF bB
def nI(f g:CO Bool)(γ:Ctx):xz Bool:=(f γ).bind λb=>if b=aG then aF aG else g γ
def qA(f:CO Bool)(γ:Ctx):xz Bool:=(f γ).map λb=> !b
def BE(f g:CO D)(γ:Ctx):xz D:=((f γ).bind pe).bind λb=>if b=aG then g γ else aF (.bl bB)
def SR(f:CO D)(γ:Ctx):xz D:=((f γ).bind pe).map λb=>.bl (!b)
def fw(c:CO Bool)(f g:CO D)(γ:Ctx):xz D:=(c γ).bind λb=>if b=aG then f γ else g γ
def zH:CO (zn D):=λ_=>aF []
def zc(f:CO D)(g:CO (zn D))(γ:Ctx):xz (zn D):=(f γ).bind λx=>(g γ).map λr=>x::r
def kN(f:CO (zn D))(γ:Ctx):xz D:=(f γ).bind λa=>if a.length<=lim then aF (.tup a)else aT
def xY(f:CO (zn D))(γ:Ctx):xz (zn D):=(f γ).bind λa=>if a.length<=lim then aF a else aT
inductive Res where
 |val (d:D)|own (ds:List D)
inductive Fl where
 |next (γ:Ctx)|brk (γ:Ctx)|cont (γ:Ctx)|ret (r:Res)
def jO(γ:Ctx):xz Fl:=aF (.next γ)
def zW(F G:CO Fl):CO Fl:=λd=>(F d).bind λb=>match b with
 |.next a=>G a
 |f=>aF f
def qo(f:CO D)(γ:Ctx):xz Fl:=(f γ).map λd=>.ret (.val d)
def yH(f:CO (zn D))(γ:Ctx):xz Fl:=(f γ).map λd=>.ret (.own d)
def gS:xz Cell->xz Fl
 |some (.val d)=>aF (.ret<|.val d)
 |some (.own ds)=>aF (.ret<|.own ds)
 |_=>aT
def XB(i:Nat)(γ:Ctx):xz Fl:=gS γ[i]?
def Ni(γ:Ctx):xz Fl:=aF (.cont γ)
def qp:CO Fl:=λ_=>aT
def eI(k:CO Bool)(F G:CO Fl)(γ:Ctx):xz Fl:=(k γ).bind λb=>if b=aG then F γ else G γ
def jF(i:Nat)(f:CO D)(γ:Ctx):xz Fl:=(f γ).map λd=>.next (γ.set i<|.val d)
def yG(i:Nat)(f:CO (zn D))(γ:Ctx):xz Fl:=(f γ).map λa=>.next (γ.set i<|.own a)
def sN(f:CO D)(γ:Ctx):xz Fl:=(f γ).map λ_=>.next γ
def Jh:xz Cell->xz (zn D)
 |some (.own ds)=>aF ds
 |_=>aT
def qk(i:Nat)(f:CO D)(γ:Ctx):xz Fl:=(Jh γ[i]?).bind λa=>(f γ).bind λd=>if a.length<lim then aF (.next<|γ.set i<|.own<|a++[d])else aT
def z7(n:Nat)(e:zn D):Ctx:=e.map Cell.val++d5 (n-e.length) Cell.no
def ju(n:Nat)(F:CO Fl)(ds:zn D):xz Res:=(F<|z7 n ds).bind λfl=>match fl with
 |.ret r=>aF r
 |.next _=>aF (.val .dw)
 |_=>aT
def Ky:Res->D
 |.val d=>d
 |.own a=>.lst a
def zD(F:zn D->xz Res)(g:CO (zn D))(γ:Ctx):xz D:=(g γ).bind λa=>(F a).map Ky
def SU:Res->xz (zn D)
 |.own a=>aF a
 |_=>aT
def jx(F:zn D->xz Res)(g:CO (zn D))(γ:Ctx):xz (zn D):=(g γ).bind λa=>(F a).bind SU
def Xm(lo:Int)(n:Nat):zn D:=(cT n).map λ(i:Nat)=>D.int<|lo+(i:Int)
def XS(e z:zn D):zn D:=(e.zip z).map λp=>D.tup [p.1,p.2]
def zR(f:CO (Sk×zn D))(γ:Ctx):xz (zn D):=(f γ).map (·.2)
def inR(i:Int):Bool:=decide<|i.natAbs<2^62
def jv(f:CO D)(γ:Ctx):xz (zn D):=((f γ).bind i1).bind λn=>if inR n=aG then aF (Xm 0 n.toNat)else aT
def fj(f g:CO D)(γ:Ctx):xz (zn D):=((f γ).bind i1).bind λm=>((g γ).bind i1).bind λn=>if inR m=aG/\inR n=aG then aF (Xm m (n-m).toNat)else aT
def eZ(f g:CO D)(γ:Ctx):xz (zn D):=((f γ).bind qc).bind λm=>((g γ).bind qc).map λn=>XS m.2 n.2
inductive Tg where
 |nm (i:Nat)|tp (is:List Nat)
def xX:zn Nat->zn D->Ctx->Ctx
 |i::is,d::ds,γ=>xX is ds<|γ.set i<|.val d
 |_,_,γ=>γ
def kM:Tg->D->CO Ctx
 |.nm i,d,γ=>aF (γ.set i<|.val d)
 |.tp is,.tup ds,γ=>if ds.length=is.length then aF (xX is ds γ)else aT
 |_,_,_=>aT
def vj(T:Tg)(F:CO Fl):zn D->CO Fl
 |[],a=>aF (.next a)
 |d::e,a=>(kM T d a).bind λb=>(F b).bind λf=>match f with
  |.next y=>vj T F e y
  |.cont y=>vj T F e y
  |.brk y=>aF (.next y)
  |.ret r=>aF (.ret r)
def XU(e:CO (zn D))(T:Tg)(F:CO Fl)(γ:Ctx):xz Fl:=(e γ).bind λa=>vj T F a γ
def yo:Cell->Cell
 |.own _=>.no
 |.nest _=>.no
 |c=>c
def jj(n:Nat)(e:zn Nat)(γ:Ctx):Ctx:=d5 n Cell.no++e.map λj=>yo<|γ[j]?.getD .no
def zI(T:Tg)(k:CO Bool)(f:CO D)(γ:Ctx):zn D->xz (zn D)
 |[]=>aF []
 |d::ds=>(kM T d γ).bind λa=>(k a).bind λb=>if b=aG then (f a).bind λe=>(zI T k f γ ds).map λr=>e::r else zI T k f γ ds
def zL(e:CO (zn D))(T:Tg)(n:Nat)(z:zn Nat)(k:CO Bool)(f:CO D)(γ:Ctx):xz (zn D):=(e γ).bind λa=>if a.length<=lim then zI T k f (jj n z γ) a else aT
def jb:CO Bool:=λ_=>aF aG
def Tg.idx:Tg->zn Nat
 |.nm i=>[i]
 |.tp is=>is
def dI(g:Int->Int->D):D->D->xz D
 |.int i,.int j=>aF (g i j)
 |_,_=>aT
def Dc(c:Int->Int->Bool)(g:Int->Int->D):D->D->xz D
 |.int i,.int j=>if c i j=aG then aF (g i j)else aT
 |_,_=>aT
def W3:D->D->xz D:=dI λi j=>.int (i-j)
def mJ(i j:Int):Bool:=decide (i.natAbs<2^64) || decide (j.natAbs<2^64)
def Pp(_ j:Int):Bool:=decide (0<j)&&decide (j.natAbs<1073741824)
def VO:D->D->xz D:=Dc Pp λi j=>.int (i/j)
def Sd(_ j:Int):Bool:=decide<|0<j
def yL:D->D->xz D:=Dc Sd λi j=>.int (i%j)
def Po(i j:Int):Bool:=decide (0<=j)&&decide (j.natAbs<=1000000)&&decide (i.natAbs<2^64)
def LI:D->D->xz D:=Dc Po λi j=>.int (i^j.toNat)
def oM:D->D->xz D:=dI λi j=>.bl (decide<|i<j)
def l0:D->D->xz D:=dI λi j=>.bl (decide<|i<=j)
def ti:D->D->xz D:=dI λi j=>.bl (decide<|j<i)
def lT:D->D->xz D:=dI λi j=>.bl (decide<|j<=i)
def qv:D->D->xz D
 |.int i,.int j=>aF (.int<|i+j)
 |.tup xs,.tup ys=>if xs.length+ys.length<=lim then aF (.tup<|xs++ys)else aT
 |_,_=>aT
def vE:D->D->xz D
 |.int i,.int j=>if mJ i j=aG then aF (.int<|i*j)else aT
 |.tup xs,.int j=>if xs.length*j.toNat<=lim/\inR j=aG then aF (.tup (d5 j.toNat xs).flatten)else aT
 |_,_=>aT
def Y0(f g:CO (Sk×zn D))(γ:Ctx):xz (zn D):=(f γ).bind λa=>(g γ).bind λb=>
 match a.1,b.1 with
 |.L,.L=>if a.2.length+b.2.length<=lim then aF (a.2++b.2)else aT
 |_,_=>aT
def Ib(f:CO (Sk×zn D))(g:CO D)(γ:Ctx):xz (zn D):=(f γ).bind λa=>((g γ).bind i1).bind λj=>
 match a.1 with
 |.L=>if a.2.length*j.toNat<=lim/\inR j=aG then aF (d5 j.toNat a.2).flatten else aT
 |_=>aT
def fX(n:Nat)(i:Int):xz Nat:=if 0<=i/\i<n then aF i.toNat else if i<0/\0<=i+n then aF (i+n).toNat else aT
def cR(f:CO (Sk×zn D))(g:CO D)(γ:Ctx):xz D:=(f γ).bind λa=>((g γ).bind i1).bind λi=>(fX a.2.length i).bind λk=>a.2[k]?
def iU(i:Nat)(g f:CO D)(γ:Ctx):xz Fl:=(f γ).bind λd=>(Jh γ[i]?).bind λa=>((g γ).bind i1).bind λk=>(fX a.length k).map λj=>.next (γ.set i<|.own<|a.set j d)
def YA(n dflt:Nat):xz Int->Nat
 |none=>dflt
 |some i=>if i<0 then (i+n).toNat else min i.toNat n
def Vd(xs:zn D)(lo e:xz Int):zn D:=(xs.drop<|YA xs.length 0 lo).take (YA xs.length xs.length e-YA xs.length 0 lo)
def Jk:CO (xz Int):=λ_=>aF aT
def fP(f:CO D)(γ:Ctx):xz (xz Int):=((f γ).bind i1).map aF
def dX(f:CO D)(l h:CO (xz Int))(γ:Ctx):xz D:=(f γ).bind λd=>(l γ).bind λlo=>(h γ).bind λa=>match d with
 |.tup b=>aF (.tup<|Vd b lo a)
 |_=>aT
def J7(f:CO (Sk×zn D))(γ:Ctx):xz D:=(f γ).map λa=>.int a.2.length
inductive Ty where
 |int|bool|str|tuple|list
 deriving DecidableEq
@[simp] def GY:D->Bool
 |.int _=>aG
 |.bl _=>aG
 |_=>bB
@[simp] def OP:D->Bool
 |.bl _=>aG
 |_=>bB
@[simp] def GW:D->Bool
 |.str _=>aG
 |_=>bB
@[simp] def GV:D->Bool
 |.tup _=>aG
 |_=>bB
@[simp] def GX:D->Bool
 |.lst _=>aG
 |_=>bB
def BF:Ty->D->Bool
 |.int=>GY
 |.bool=>OP
 |.str=>GW
 |.tuple=>GV
 |.list=>GX
def zi(T:Ty)(f:CO D)(γ:Ctx):xz D:=(f γ).map λd=>.bl (BF T d)
@[simp] def Fn:D->Bool
 |.dw=>aG
 |_=>bB
@[simp] def eqB(a:Bool):D->Bool
 |.bl b=>a==b
 |.int b=>(if a then 1 else 0)==b
 |_=>bB
@[simp] def eqI(a:Int):D->Bool
 |.bl b=>a==(if b then 1 else 0)
 |.int b=>a==b
 |_=>bB
@[simp] def eqS(a:Str):D->Bool
 |.str b=>a==b
 |_=>bB
@[simp] def eqX(a:Str)(i:xz Int):D->Bool
 |.exc b j=>a==b&&i==j
 |_=>bB
mutual
def hC:D->D->Bool
 |.dw,y=>Fn y
 |.bl a,y=>eqB a y
 |.int a,y=>eqI a y
 |.str a,y=>eqS a y
 |.tup xs,y=>match y with
  |.tup e=>oO xs e
  |_=>bB
 |.lst xs,y=>match y with
  |.lst e=>oO xs e
  |_=>bB
 |.exc a i,y=>eqX a i y
 |.hV a b,y=>match y with
  |.hV c d=>oO a c&&oO b d
  |_=>bB
 |.i4 a b,y=>match y with
  |.i4 c d=>a==c&&oO b d
  |_=>bB
 |.ins a b c,y=>match y with
  |.ins z I J=>a==z&&(hC b I&&hC c J)
  |_=>bB
def oO:zn D->zn D->Bool
 |[],[]=>aG
 |x::xs,y::ys=>hC x y&&oO xs ys
 |_,_=>bB
end
mutual
def deep:D->Nat
 |.tup a=>oN a+1
 |.lst a=>oN a+1
 |_=>0
def oN:zn D->Nat
 |[]=>0
 |x::xs=>max (deep x)<|oN xs
end
mutual
def gx:D->Bool
 |.str x=>x.cps.all (· < 0x110000)
 |.exc _ _=>bB
 |.hV _ _=>bB
 |.i4 _ _=>bB
 |.ins _ _ _=>bB
 |.tup a=>oR a
 |.lst a=>oR a
 |_=>aG
def oR:zn D->Bool
 |[]=>aG
 |x::xs=>gx x&&oR xs
end
def g7(d:D):Bool:=decide (deep d<=20)&&gx d
def ei(x y:D):xz D:=if g7 x=aG/\g7 y=aG then aF (.bl<|hC x y)else aT
def kA(x y:D):xz D:=if g7 x=aG/\g7 y=aG then aF (.bl<|!hC x y)else aT
def BG:D->D->xz D
 |x,.dw=>aF (.bl<|match x with|.dw=>aG|_=>bB)
 |_,_=>aT
def jt(f:CO (Sk×zn D))(γ:Ctx):xz D:=(f γ).map λa=>.tup a.2
def sH(f:CO (Sk×zn D))(γ:Ctx):xz (zn D):=(f γ).map λa=>a.2
def se:zn D->xz Int
 |[]=>aF 0
 |.int i::r=>(se r).map λs=>i+s
 |_::_=>aT
def Mi(f:CO (Sk×zn D))(γ:Ctx):xz D:=(f γ).bind λa=>(se a.2).map D.int
def Rm:D->xz Bool
 |.dw=>aF bB
 |.bl b=>aF b
 |.int i=>aF (i != 0)
 |_=>aT
def Jl:zn D->xz (zn Bool)
 |[]=>aF []
 |d::r=>(Rm d).bind λb=>(Jl r).map λs=>b::s
def sO(f:CO (Sk×zn D))(γ:Ctx):xz D:=(f γ).bind λa=>(Jl a.2).map λs=>.bl (s.all id)
def Mj(f:CO (Sk×zn D))(γ:Ctx):xz D:=(f γ).bind λa=>(Jl a.2).map λs=>.bl (s.any id)
def QH(f:CO D)(γ:Ctx):xz D:=(f γ).bind λd=>match d with
 |.int i=>aF (.int i)
 |.bl b=>aF (.int<|if b then 1 else 0)
 |_=>aT
def Ck(f:CO (Sk×zn D))(γ:Ctx):xz Bool:=(f γ).map λa=> !a.2.isEmpty
def fv(f:CO D):CO D:=λa=>((f a).bind i1).map λi=>.int (-i)
def wt(F G:D->D->xz D)(e B H:CO D):CO D:=λa=>(e a).bind λx=>(B a).bind λy=>((F x y).bind pe).bind λb=>if b=aG then (H a).bind λz=>G y z else aF (.bl bB)
def HZ(T:Tg)(f:CO D)(γ:Ctx):xz Fl:=(f γ).bind λd=>(kM T d γ).map .next
end DL
namespace L2
open PySem PySem.Spec PyProof.Rows
def i0(k:Sk)(h:dV)(i l:cI)(n:Nat):Prop:=match k with
 |.L=>h.IsListIter i l n
 |.T=>h.IsTupleIter i l n
def mm(k:Sk)(h:dV)(l:cI)(xs:Array da):Prop:=match k with
 |.L=>h.IsList l xs
 |.T=>h.IsTuple l xs
def k4(k:Sk)(l:cI):gB:=match k with
 |.L=>{cls:=.type "list_iterator",data:=.fields #[.ref l,.int 0 0]}
 |.T=>{cls:=.type "tuple_iterator",data:=.fields #[.ref l,.int 0 0]}
theorem i0.at(x:i0 k h i l n)(e:∀o,h.get? i=aF o->h'.get? i=aF o):i0 k h' i l n:=by cases k<;>show let (o,y,r):=x;(o,e _ y,r)
theorem mm.at(x:mm k h l xs)(e:∀o,h.get? l=aF o->h'.get? l=aF o):mm k h' l xs:=by cases k<;>show let (o,y,r):=x;(o,e _ y,r)
theorem i0.obj(x:i0 k h i l n):∃o,h.get? i=aF o/\∀v,o.data ≠ .cell v:=by cases k<;>show let (o,y,_,d):=x;(o,y,λv z=>by rw[d]at z;cases z)
theorem mm.lt(x:mm k h l xs):l<h.objs.size:=by cases k<;>show let (o,y,_):=x;ft y
theorem VE(k:Sk)(h:dV)(l:cI):i0 k (h.push<|k4 k l) h.objs.size l 0:=by cases k<;>show(_,ir _ rfl,rfl,rfl)
section
variable{prog:eA}{w:eu}{A:hO}{E:EQ}{s:dy}
theorem cO(y:mm k s.heap l xs)(z:Q (.ref ↥s) {s with heap:=s.heap.push (k4 k l)}):wpAny (dq prog w) A (F7<|.ref l) Q E s:=by
 cases k
 .exact _r y z
 .exact Sg y z
theorem JF(I:i0 k s.heap it l i)(J:mm k s.heap l items)(O:items[i]? = aF x)
 (U:∀h',i0 k h' it l (i+1)->tP it s.heap h'->Q x {s with heap:=h'}):wpAny (dq prog w) A (RR<|.ref it) Q E s:=by
 cases k with
 |L=>show wpAny_nextOf_list_item I J O U
 |T=>
  have z:=I;let(o,y,b,a):=id z;let(Z,W,_,d,Y):=(J);erw[RR];show cS<|va z.typeIs S6<|sy S6 z.typeIs zhj ?_ (R? _);show cS (m:=field (.ref it) 0)<|l7 y a (x:=.ref l) rfl ?_;show cS<|l7 y a rfl ?_;show cS<|tQ W Y ?_;simp?[L3,O];show cS<|wpAny_setField y a ()<|d7 (x,rfl,d7<|U _ (_,zP _ y<|Obj.isFreed_of_fields<|_M a _,(Obj.cls_mapFields ..).trans b,by rw[_M a];rfl)<|tP.update ..)
theorem WG(y:A.handled=aT)(J:i0 k s.heap it l i)(O:mm k s.heap l items)(U:items[i]? = aT)
 (W:∀h' e,Heap.ExtBut it s.heap h'->(∃o,h'.get? e=aF o/\o.cls=.type "StopIteration")->E (.ref e) {s with heap:=h'}):wpAny (dq prog w) A (RR (.ref it)) Q E s:=by
 cases k with
 |L=>show wpAny_nextOf_list_end y J O U W
 |T=>
  have z:=J;let(o,I,b,a):=id z;let(f,Y,_,d,Z):=(O);erw[RR];show cS<|va z.typeIs S6<|sy S6 z.typeIs zhj ?_ (R? _);show cS (m:=field (.ref it) 0)<|l7 I a (x:=.ref l) rfl ?_;show cS<|l7 I a rfl ?_;show cS<|tQ Y Z ?_;simp?[L3,U];show cS<|w4<|cS<|wpAny_setField I a () ?_;show cS ?_;simp?[newExc,newTuple];show cS<|p9 ?_ (by size_fits);show cS<|B3 (by rfl) ?_;show p9 ?_ (by size_fits);simp?[raiseNew];show cS<|wpAny_handled ?_
  first|rw[y]|rw[y]
  show cS<|d7<|wpAny_throw<|W _ _ (((tP.update ..).extBut.push _).push _) (_,ir _ rfl,rfl)
theorem zkb{k1 k2:Sk}{z TI TO W Y B H:cI}{L S:Nat}{xs ys:Array da}{x y a b:da}{Q:EQ}(D:ZipApart z TI TO W Y B H)
 (Z:xg s.heap z TI TO .none) (b2:n8 s.heap TI (.ref W) (.ref Y)) (b3:n8 s.heap TO a b)
 (h1:i0 k1 s.heap W B L) (h2:i0 k2 s.heap Y H S) (b4:mm k1 s.heap B xs) (b5:mm k2 s.heap H ys) (hx:xs[L]? = aF x) (hy:ys[S]? = aF y)
 (hQ:∀h',xg h' z TI TO (rawInt ↥s)->n8 h' TO x y->i0 k1 h' W B (L+1)->i0 k2 h' Y H (S+1)->n8 h' ↥s x y->h'.objs.size=↥s+1->
   (∀c o,c≠z->c≠TO->c≠W->c≠Y->s.heap.get? c=aF o->h'.get? c=aF o)->Q (.ref ↥s) {s with heap:=h'}):
 wpAny (dq prog w) A (Builtin.«zip.__next__» ([.ref z],[])) (λb9 s'=>∃v,b9=.done (.ret v)/\Q v s') E s:=by
 show cS (m:=field (.ref z) 2)<|l7 Z rfl (x:=.bool bB) rfl ?_;show cS<|l7 Z rfl rfl ?_;show cS<|tQ b2 rfl ?_;show cS ?_;erw[S_];show cS<|l7 Z rfl rfl<|d7 ?_;simp?[if_true];show cS<|w4<|cS<|l7 Z rfl rfl ?_;show cS<|sa Z () λg1 n I=>?_;replace n:=n;show cS ?_;simp?[List.zipIdx_cons,List.zipIdx_nil,List.forIn_cons,List.forIn_nil];show cS<|cS<|T8 ?_;show cS<|JF (h1.at λo e=>I.extBut _ _ D.i1z e) (b4.at λo e=>I.extBut _ _ D.l1z e) hx λg2 R J=>d7 ?_;have G:=J.extBut _ _ D.TOi1<|I.extBut _ _ D.TOz b3;show cS<|tQ G rfl<|cS<|_I G λg3 p O=>?_;replace p:=p;show cS<|M5<|d7<|cS<|cS<|T8 ?_;show cS<|JF (h2.at λo e=>O.extBut _ _ D.TOi2.symm<|J.extBut _ _ D.i12.symm<|I.extBut _ _ D.i2z e) (b5.at λo e=>O.extBut _ _ D.l2TO<|J.extBut _ _ D.l2i1<|I.extBut _ _ D.l2z e) hy λg4 T f=>d7 ?_;have as:=f.extBut _ _ D.TOi2 p;show cS<|tQ as rfl<|cS<|_I as λU i g=>?_;replace i:n8 U TO x y:=i;show cS<|M5<|d7<|d7<|cS<|tQ i rfl<|cS<|T1 ?_;have h:U.objs.size=↥s:=by simp?[g.1,f.1,O.1,J.1,I.1]
 have K:=g.extBut _ _ D.TOz.symm (f.extBut _ _ D.i2z.symm (O.extBut _ _ D.TOz.symm (J.extBut _ _ D.i1z.symm n)));have M:=ft K;show cS ?_;erw[zfe];have X:xg (U.push {cls:=.type "tuple",data:=.seq #[x,y]}) z TI TO .ellipsis:=eo _ K;show cS (sa X () λzhE r ad=>?_);replace r:xg zhE z TI TO (rawInt U.objs.size):=r;show sa r () λF j t=>?_;replace j:=j;have l c o:c≠z->U.get? c=aF o->F.get? c=aF o:=λd e=>t.extBut _ _ d (ad.extBut _ _ d (eo _ e));have N:=t.extBut _ _ (pz M) (ad.extBut _ _ (pz M) (ir _ rfl));have P:F.objs.size=U.objs.size+1:=by rw[t.1,ad.1,nc]
 rw[h]at j N P;show d7 (_,rfl,?_);rw[h];show hQ F j (l _ _ D.TOz i) ((R.at λo e=>g.extBut _ _ D.TOi1.symm<|f.extBut _ _ D.i12<|O.extBut _ _ D.TOi1.symm e).at λo e=>l _ o D.i1z e) ((T.at λo e=>g.extBut _ _ D.TOi2.symm e).at λo e=>l _ o D.i2z e) N P λc o d k u C e=>l c o d<|(λc o d k u C e=>g.extBut _ _ k<|f.extBut _ _ C<|O.extBut _ _ k<|J.extBut _ _ u<|I.extBut _ _ d e) c o d k u C e
theorem BK{k1 k2:Sk}{z TI TO U W B H:cI}{L n2:Nat}{xs ys:Array da}{a b:da}{Q:Fin->dy->Prop}(hh:A.handled=aT)(D:ZipApart z TI TO U W B H)
 (Y:xg s.heap z TI TO .none) (am:n8 s.heap TI (.ref U) (.ref W)) (an:n8 s.heap TO a b)
 (h1:i0 k1 s.heap U B L) (h2:i0 k2 s.heap W H n2) (S:mm k1 s.heap B xs) (ao:mm k2 s.heap H ys) (aw:xs[L]? = aT\/ys[n2]? = aT)
 (hE:∀h' e,(∀c o,c≠z->c≠TO->c≠U->c≠W->s.heap.get? c=aF o->h'.get? c=aF o)->(∃o,h'.get? e=aF o/\o.cls=.type "StopIteration")->E (.ref e) {s with heap:=h'}):
 wpAny (dq prog w) A (Builtin.«zip.__next__» ([.ref z],[])) Q E s:=by
 show cS (m:=field (.ref z) 2) (l7 Y rfl (x:=.bool bB) rfl ?_);show cS (l7 Y rfl rfl ?_);show cS (tQ am rfl ?_);show cS ?_;erw[S_];show cS (l7 Y rfl rfl (d7 ?_));simp?[if_true];show cS (w4 (cS (l7 Y rfl rfl ?_)));show cS (sa Y () λg1 i y=>?_);replace i:=i;show cS ?_;simp?[List.zipIdx_cons,List.zipIdx_nil,List.forIn_cons,List.forIn_nil];show cS (cS (T8 ?_));have p:∀{g e:_} {O:gB},xg g z TI TO .ellipsis->(∀c o,c≠z->c≠TO->c≠U->c≠W->_=aF o->g.get? c=aF o)->g.get? e=aF O->O.cls=.type "StopIteration"->
  wpAny (dq prog w) A (Rn (.ref z) 0 .none) (λ_ t=>E (.ref e) t) E {s with heap:=g}:=λ{g e O} n hk Z f=>by
  show sa n () λg3 _ J=>hE g3 e (λc o d j h k q=>J.extBut _ _ d<|hk c o d j h k q) (O,J.extBut _ _ (λq=>by lia) Z,f)
 cases hx:xs[L]? with
 |none=>
  show cS<|WG hh (h1.at λo e=>y.extBut _ _ D.i1z e) (S.at λo e=>y.extBut _ _ D.l1z e) hx λg2 e I l=>?_;let(O,Z,f):=l;show p (I _ _ D.i1z.symm i) (λc o d _ h _ q=>I _ _ h<|y.extBut _ _ d q) Z f
 |some x=>
  show cS<|JF (h1.at λo e=>y.extBut _ _ D.i1z e) (S.at λo e=>y.extBut _ _ D.l1z e) hx λg2 u I=>d7 ?_;have ad:=I.extBut _ _ D.TOi1<|y.extBut _ _ D.TOz an;show cS<|tQ ad rfl<|cS<|_I ad λg3 C J=>?_;show cS<|M5<|d7<|cS<|cS<|T8 ?_;show cS<|WG hh (h2.at λo e=>J.extBut _ _ D.TOi2.symm<|I.extBut _ _ D.i12.symm<|y.extBut _ _ D.i2z e) (ao.at λo e=>J.extBut _ _ D.l2TO<|I.extBut _ _ D.l2i1<|y.extBut _ _ D.l2z e) () λF e r l=>?_;let(O,Z,f):=l;show p (r _ _ D.i2z.symm<|J.extBut _ _ D.TOz.symm<|I.extBut _ _ D.i1z.symm i) (λc o d j h k q=>r _ _ k<|J.extBut _ _ j<|I.extBut _ _ h<|y.extBut _ _ d q) Z f
end
def KQ(a b:da):gB:={cls:=.type "tuple",data:=.seq #[a,b]}
def Ss(TI TO:cI):gB:={cls:=.type "zip",data:=.fields #[.none,.bool bB,.bool bB,.ref TI,.ref TO]}
def dZ(k1 k2:Sk)(h:dV)(y e:cI):dV:=
 il (il (il (il (il h<|k4 k1 y)<|k4 k2 e)<|KQ (.ref h.objs.size)<|.ref<|h.objs.size+1)<|KQ .none .none) (Ss (h.objs.size+2)<|h.objs.size+3)
theorem BJ(k1 k2:Sk)(y B:cI)(xs H:Array da):
 B7 (Builtin.«zip.__new__» ([.type "zip",.ref y,.ref B],[])) (λ_ R s=>mm k1 s.heap y xs/\mm k2 s.heap B H/\
  R (.ok<|.ret<|.ref<|↥s+4) {s with heap:=dZ k1 k2 s.heap y B}):=
 .of_wp λa w A R s h=>by
  let(b,g,d,f,os):=s;let(z,I,h):=h;have J:=sub_zip
  wp_walk using cO z,cO<|I.at λo e=>eo _ e
  show(_,rfl,?_);simp?[dZ,KQ,Ss,nc]at h ⊢;show h
section
variable{X:Cx}{pins:TW}{σ:St}{H:Hp}{s:dy}{h':dV}
theorem Inv.RM{t':Nat}{fp:zn cI}{a:cI}{o:HO}(I:Inv X pins σ H s)(k:∀b u,b∉fp->s.heap.get? b=aF u->h'.get? b=aF u)(B:∀b∈fp,YO X pins H b)
 (L:↥s<=a) (new:i7 X.prog X.w (upd H a o) h' a o):Inv X pins σ (upd H a o) {s with heap:=h',toks:=t'}:=by
 have g:=I.dS.fresh L;have J b u:H b=aF u->b∉fp:=λe z=>by rw[(B b z).1]at e;cases e
 show I.step (λb d=>((B b d).2.2.2.1,(B b d).2.1,(B b d).2.2.2.2.1,(B b d).2.2.2.2.2)) (λb u _ _ f e _=>k b u f e) (λb u _ _ f e _=>(u.slots,k b u f e))
  (λb u _ e n=>by rw[zC ((λb u e=>gq<|i9 (ft e) L) b u e)];show n) (λb u f e=>(u,k b u f e)) (λb h e=>by rw[zC (jk e g)];show e) (λb y h e=>by rw[zC (jk e g)];show e)
  (λb p e=>(#[],by rw[zC (jk e g),e];simp)) (λm l=>?_) (λb u e=>?_) I.bare
 .let(y,j,i,O,r):=l
  show(y,j,i,k _ y (λz=>(B _ z).2.1 rfl) O,r)
 .by_cases d:b=a
  .subst d;rw[zA]at e;lia
  .rw[zC d]at e
   show(I.dS b u e).og (λc v f q=>k c v ?_ q) (λc q=>by rw[zC (jk q g)];show q) λc h q=>by rw[zC (jk q g)];show q
   rcases f with z|z
   .rw[z];show J b u e
   .exact J c _ z
theorem Inv.r6{t':Nat}{fp:zn cI}(I:Inv X pins σ H s)(k:∀b u,b∉fp->s.heap.get? b=aF u->h'.get? b=aF u)(B:∀b∈fp,YO X pins H b):Inv X pins σ H {s with heap:=h',toks:=t'}:=by
 have J b u:H b=aF u->b∉fp:=λe z=>by rw[(B b z).1]at e;cases e
 show I.step (λb d=>((B b d).2.2.2.1,(B b d).2.1,(B b d).2.2.2.2.1,(B b d).2.2.2.2.2)) (λb u _ _ a e _=>k b u a e) (λb u _ _ a e _=>(u.slots,k b u a e))
  (λb u _ e n=>n) (λb u a e=>(u,k b u a e)) (λb f e=>e) (λb y f e=>e)
  (λb j e=>(#[],by rw[e];simp)) (λm i=>?_) (λb u e=>?_) I.bare
 .let(y,h,g,O,r):=i
  show(y,h,g,k _ y (λz=>(B _ z).2.1 rfl) O,r)
 .refine(I.dS b u e).og (λc v a q=>k c v ?_ q) (λc q=>q) λc f q=>q
  rcases a with z|z
  .rw[z];show J b u e
  .exact J c _ z
end
def h9(k:Sk)(K:cL)(H:Hp)(a:cI)(xs:zn V):Prop:=match k with
 |.L=>eJ K H a xs
 |.T=>fC K H a xs
theorem Inv.sq(I:Inv X pins σ H s)(h:h9 k X.K H a xs):
 ∃y,d8 xs y/\mm k s.heap a y.toArray/\xs.length<=ej:=by
 cases k with
 |L=>let(y,r,p,z):=I.list h;show(y,r,p.isList,z)
 |T=>let(y,r,p,z):=I.tuple h;show(y,r,p,z)
theorem Inv.RH(I:Inv X pins σ H s)(h:h9 k X.K H a xs)(h':h9 k X.K H a ys):xs=ys:=by
 cases k with
 |L=>show I.PX h h'
 |T=>show I.D' h h'
def N8(k1 k2:Sk)(K:cL)(a b:cI):It:=
 (λi H=>∃d e,h9 k1 K H a d/\h9 k2 K H b e/\i<d.length/\i<e.length,
  λi H x f=>∃p u v,x=.ref p/\H p=aT/\f=upd H p (.tup [u,v])/\(∀d,h9 k1 K H a d->d[i]? = aF u)/\(∀e,h9 k2 K H b e->e[i]? = aF v),
  λi H=>∃d e,h9 k1 K H a d/\h9 k2 K H b e/\(d.length<=i\/e.length<=i))
theorem BW{P:eA}{w:eu}{K:cL}{elts:zn dE}{x1:Nat}{n0:eg}(k1 k2:Sk){z TI TO U W a b:cI}(D:ZipApart z TI TO U W a b):
 Turn P w K (.Tuple elts x1 n0) (N8 k1 k2 K a b) [z,TI,TO,U,W] z (λi h=>xg h z TI TO .none/\n8 h TI (.ref U) (.ref W)/\(∃c d,n8 h TO c d)/\i0 k1 h U a i/\i0 k2 h W b i) where
 mem:=by simp
 obj:=λi h hZ y hy=>by
  let(J,Q,(c,d,Y),h1,h2):=hZ;simp?[eL,lp,or_false]at hy;rcases hy with rfl|rfl|rfl|rfl|rfl
  .exact(_,J,λv q=>by cases q)
  .exact(_,Q,λv q=>by cases q)
  .exact(_,Y,λv q=>by cases q)
  .exact h1.obj
  .exact h2.obj
 keep:=λi h h' (J,Q,(c,d,Y),h1,h2) k=>
  (k z () _ J,k TI () _ Q,(c,d,k TO () _ Y),h1.at λo e=>k U () o e,h2.at λo e=>k W () o e)
 item:=by
  rintro X hP hw hK hc i pins s σ H E I hf ⟨J,Q,⟨c,d,Y⟩,h1,h2⟩ ⟨xs,ys,ac,ad,b1,b2⟩;subst hP hw hK;let(b3,an,p1,z1):=I.sq ac;let(b4,ap,p2,z2):=I.sq ad;have hx:xs[i]? = aF xs[i]:=eW b1;have hy:ys[i]? = aF ys[i]:=eW b2;let(u1,b5,b6):=an.get hx;let(u2,b7,b8):=ap.get hy;have hT:s.TypeIs (.ref z) "zip":=(_,J,rfl);erw[zd];show cS (v7 (va (name:=hG "__next__") hT Uh (sy Uh hT F.entry_zip_next
   (zkb D J Q Y h1 h2 p1 p2 (x:=u1) (y:=u2) (~~~b5) (~~~b7) λg a1 a2 a3 a4 a5 a6 a7=>d7 (_,rfl,?_)) (F.args_zip_next_1 _))))
  show wpAny_letOwnedTupleGo_zip a1 λg2 Pt Z=>?_;have lt:∀{c o},s.heap.get? c=aF o->↥s≠c:=λe=>pz<|ft e;have bg:n8 g2 ↥s u1 u2:=Z.extBut _ _ (lt J) a5;have kk O u:O ∉ [z,TI,TO,U,W]->s.heap.get? O=aF u->g2.get? O=aF u:=λhb e=>by simp?[eL,lp,or_false,not_or]at hb;show Z.extBut _ _ hb.1<|a7 O u hb.1 hb.2.2.1 hb.2.2.2.1 hb.2.2.2.2 e
  have I1:Inv X pins σ (upd H ↥s<|.tup [xs[i],ys[i]]) {s with heap:=g2,toks:=s.toks}:=
   I.RM (fp:=[z,TI,TO,U,W]) kk hf (ec _) (by change 2<=ej;decide,[u1,u2],.cons b6<|.cons b8 .nil,(_,bg,rfl,_,rfl))
  have bn:H ↥s=aT:=I.fresh;show(.ref ↥s,_,I1,rfl,(_,_,_,rfl,bn,rfl,λc6 as=>by rw[I.RH as ac];show hx,λc7 as=>by rw[I.RH as ad];show hy),?_,λO hb=>?_)
  .exact(Pt,Z.extBut _ _ D.TIz<|a7 _ _ D.TIz D.TITO D.TIi1 D.TIi2 Q,(_,_,Z.extBut _ _ D.TOz a2),a3.at λo e=>Z.extBut _ _ D.i1z e,a4.at λo e=>Z.extBut _ _ D.i2z e)
  .have br:O≠↥s:=by
    simp?[eL,lp,or_false]at hb;rcases hb with rfl|rfl|rfl|rfl|rfl
    .exact(lt J).symm
    .exact(lt Q).symm
    .exact(lt Y).symm
    .let(o,e,_):=h1.obj;show(lt e).symm
    .let(o,e,_):=h2.obj;show(lt e).symm
   rw[zC br];show(hf O hb).1
 done:=by
  rintro X hP hw hK hc i pins s σ H E I hf ⟨J,Q,⟨c,d,Y⟩,h1,h2⟩ ⟨xs,ys,ac,ad,hi⟩;subst hP hw hK;let(b3,an,p1,z1):=I.sq ac;let(b4,ap,p2,z2):=I.sq ad;have hT:s.TypeIs (.ref z) "zip":=(_,J,rfl);have l1:=an.length;have l2:=ap.length;erw[zd];show cS (v7 (va (name:=hG "__next__") hT Uh (sy Uh hT F.entry_zip_next
   (BK (show X.A.handled=aT from I.ok.hd hc) D J Q Y h1 h2 p1 p2 (by rcases hi with q|q;left;simp;lia;right;simp;lia) λg e hk he=>?_) (F.args_zip_next_1 _))))
  let(o,ho,c3):=he;show cS (wpAny_isInstance (T:="StopIteration") (b:=aG) (o,ho,c3) isSubtype_stop (d7 (rfl,?_)));show I.r6 (t':=s.toks) (fp:=[z,TI,TO,U,W]) (λO u hb e=>?_) hf;simp?[eL,lp,or_false,not_or]at hb;show hk O u hb.1 hb.2.2.1 hb.2.2.2.1 hb.2.2.2.2 e
 self:=λ_ _ _ _ _ st h=>wpAny_pyIter_zip st.1 h
def zbe(K:cL)(z:TA):TI:=λj H R=>z j H λg d=>∃e f a b,g=[.ref a,.ref b]/\(∃h,h9 e K d a h)/\(∃i,h9 f K d b i)/\R (N8 e f K a b) d
theorem NS{X:Cx}{S y:dE}{ta:TA}{p pos:eg}{B:zn dE}{x1:Nat}{L:eg}(hg:Gl X "zip")(hm:X.mg "zip" = aT)(ha:PA X [S,y] ta)
 (hv:pH "zip" = aF (.type "zip")) (hs:dU [S,y] ⋯=[(bB,dv S ⋯),(bB,dv y ⋯)]:=by rfl) (W:dU [y] ⋯=[(bB,dv y ⋯)]:=by rfl):
 PI X (.Tuple B x1 L) (.Call (.Name "zip" p) [S,y] [] pos) (zbe X.K ta):=by
 intro j s x H R I h;show xb (xT I hg hm hv<|u7 (dQ (ha pos j s x H _ I h) λus d hZ=>?_) (by rw[hs,W])<|by rw[W];rfl);show dj λQ=>?_;let(vs,k,z,r1,q1):=hZ;let(f,g,a,b,e,(xs,C),(ys,E),q):=q1;subst e;let(w1,w2,P,ad,G):=Mw r1;show Q ?_;subst P;cases ad;cases G;show dj λQ=>?_;let(M,ax,Y,z1):=z.sq C;let(N,b0,t,z2):=z.sq E;show Q ?_;show callType_new F.called_zip () (F.typeCall_zip_2 _ _) (F.newCall_zip_2 _ _) (λobj=>F.args_object_init_3 obj _ _) F.entry_zip_new (BJ f g a b M.toArray N.toArray) (Y,t,?_);have Z:(il d.heap<|k4 f a).objs.size=_:=nc ..;have u:(il (il d.heap<|k4 f a)<|k4 g b).objs.size=↥d+2:=by rw[nc,Z]
 have w:(il (il (il d.heap<|k4 f a)<|k4 g b)<|KQ (.ref ↥d)<|.ref<|↥d+1).objs.size=↥d+3:=by rw[nc,u]
 have zlD:(il (il (il (il d.heap<|k4 f a)<|k4 g b)<|KQ (.ref ↥d)<|.ref<|↥d+1)<|KQ .none .none).objs.size=↥d+4:=by rw[nc,w]
 have T:i0 f (dZ f g d.heap a b) ↥d a 0:=(VE f d.heap a).at λo e=>eo _<|eo _<|eo _<|eo _ e;have g1:i0 g (dZ f g d.heap a b) (↥d+1) b 0:=by have q:=VE g (il d.heap<|k4 f a) b;rw[Z]at q;show q.at λo e=>eo _<|eo _<|eo _ e
 have g2:n8 (dZ f g d.heap a b) (↥d+2) (.ref ↥d) (.ref<|↥d+1):=by have q:=ir (il (il d.heap<|k4 f a)<|k4 g b) (o:=KQ (.ref ↥d)<|.ref<|↥d+1) rfl;rw[u]at q;show eo _<|eo _ q
 have g3:n8 (dZ f g d.heap a b) (↥d+3) .none .none:=by have q:=ir (il (il (il d.heap<|k4 f a)<|k4 g b)<|KQ (.ref ↥d)<|.ref<|↥d+1) (o:=KQ .none .none) rfl;rw[w]at q;show eo _ q
 have U:=by have q:=ir (il (il (il (il d.heap<|k4 f a)<|k4 g b)<|KQ (.ref ↥d)<|.ref<|↥d+1)<|KQ .none .none) (o:=Ss (↥d+2)<|↥d+3) rfl;rw[zlD]at q;show q
 show((_,U,rfl),wpAny_pyIter_zip U ?_);have A:Inv X j x k {d with heap:=dZ f g d.heap a b,toks:=d.toks}:=z.kept (λc o e=>
  eo _ (eo _<|eo _<|eo _<|eo _ e))
 have J:=λm=>gq<|i9 Y.lt<|nM _ m;have O:=λm=>gq<|i9 t.lt<|nM _ m;have i m n:m≠n->(↥d+m)≠↥d+n:=λh=>by lia
 show(_,[↥d+4,↥d+2,↥d+3,↥d,↥d+1],_,_,k,rfl,A,BW f g (i 2 4 (),i 3 4 (),i 0 4 (),i 1 4 (),i 2 3 (),i 2 0 (),i 2 1 (),i 3 0 (),i 3 1 (),i 0 1 (),
  J 4,J 3,J 0,J 1,O 4,O 3,O 0,O 1),(U,g2,(_,_,g3),T,g1),λc r=>?_,q)
 have l:↥d<=c:=by
  simp?[eL,lp,or_false]at r;rcases r with rfl|rfl|rfl|rfl|rfl
  .exact nM _ _
  .exact nM _ _
  .exact nM _ _
  .exact ec _
  .exact nM _ _
 show z.pJ l<|z.dS.fresh l
def UA(k:Sk)(K:cL)(a:cI):It:=match k with
 |.L=>UB K a
 |.T=>UC K a
def zbg(K:cL)(e:TE):TI:=λf H R=>e f H λx b=>∃a k,x=.ref a/\(∃d,h9 k K b a d)/\R (UA k K a) b
theorem ub(J:PE X l tl):PI X tg l (zbg X.K tl):=by
 intro d s n H R I h;show dQ (J d s n H _ I h) λv m O=>?_;let(x,f,y,j,Q):=O;let(a,k,e,(r,i),q):=Q;subst e;cases j;have z:∀b ∈ [↥m],YO X d f b:=λb g=>by
  have e:= ~~~g
  subst e;show y.pJ (ec _)<|y.dS.fresh<|ec _
 let(U,W,p,Y):=y.sq i;cases k with
 |L=>show _r p (_,_,_,_,f,rfl,y.kept λb o e=>eo _ e,zj5 a _,(_,ir _ rfl,rfl,rfl),z,q)
 |T=>show Sg p (_,_,_,_,f,rfl,y.kept λb o e=>eo _ e,ziY a _,(_,ir _ rfl,rfl,rfl),z,q)
section
variable{κ:Type} [DecidableEq κ]
def iz(e:zn (κ×V))(k:κ):xz V:=(e.find? λa=>decide<|a.1=k).map (·.2)
def pY(e:zn (κ×V))(k:κ)(v:V):zn (κ×V):=
 if (e.any λa=>decide<|a.1=k)=aG then e.map (λa=>if a.1=k then (a.1,v)else a)else e++[(k,v)]
theorem V0{p:κ×V}{r:zn (κ×V)}{k:κ}(e:p.1=k):iz (p::r) k=aF p.2:=by simp[iz,vl,e]
theorem iy{p:κ×V}{r:zn (κ×V)}{k:κ}(e:¬p.1=k):iz (p::r) k=iz r k:=by simp[iz,vl,e]
theorem Ye(e:zn (κ×V))(k:κ)(v:V):(pY e k v).length<=e.length+1:=by
 erw[pY];split
 .rw[gr];lia
 .simp?[n3,nK,zp];lia
theorem nT.a_(r:nT o u):o.isSome=u.isSome:=by
 cases o with
 |none=>cases u with
  |none=>rfl
  |some _=>show(r).elim
 |some _=>cases u with
  |none=>show(r).elim
  |some _=>rfl
theorem KV.val{B:zn (κ×V)}(r:KV B vs)(k:κ):nT (iz B k) (Dy vs k):=by
 erw[KV]at r
 induction r with
 |nil=>show mY
 | @cons p q f y h t J=>
  let(a,d):=h;by_cases e:p.1=k
  .have I:=a.symm.trans e
   have b:Dy (q::y) k=aF q.2:=by simp[Dy,vl,I]
   rw[V0 e,b];show d
  .have I:¬q.1=k:=λz=>e (a.trans z)
   have b:Dy (q::y) k=Dy y k:=by simp[Dy,vl,I]
   rw[iy e,b];show J
theorem KV.any(r:KV hL vs)(k:κ):(hL.any λe=>decide<|e.1=k)=vs.any λe=>decide (e.1=k):=by
 erw[KV]at r
 induction r with
 |nil=>rfl
 |cons h t y=>simp?[List.any_cons,List.any_cons,y,h.1]
theorem KV.zka(r:KV hL vs)(k:κ)(I:RelV y u):
 KV (hL.map λe=>if e.1=k then (e.1,y)else e) (vs.map λe=>if e.1=k then (e.1,u)else e):=by
 erw[KV]at r ⊢
 induction r with
 |nil=>show .nil
 |@cons p q a J h t z=>
  show .cons ?_ z;lia
theorem KV.put(r:KV hL vs)(k:κ)(z:RelV y u):KV (pY hL k y) (stored vs k u):=by
 erw[pY,stored];rw[r.any k];by_cases e:(vs.any λa=>decide<|a.1=k)=aG
 .rw[DJ e,DJ e];show r.zka k z
 .rw[DY e,DY e];show Paired.snoc r (rfl,z)
theorem KV.length(r:KV hL vs):hL.length=vs.length:=Paired.length r
end
theorem EC(r:RelV (kV k) u):(kK P w).is k u=aG:=by
 cases k with
 |inl i=>let(t,e):=(r);subst e;show zhM P w i t
 |inr x=>let(t,e):=(r);subst e;show zhL P w x t
theorem cP:∀{e:zn Key} {z:zn da},d8 (e.map kV) z->ItemsAre (kK P w) e z
 |[],_,r=>by rw[T4]at r;cases r;show .nil
 |k::e,_,r=>by
  rw[mc]at r;cases r with
  |cons h t=>show .cons (EC h)<|cP t
abbrev KT(H:Hp):zn (zn Key×V)->zn (zn Key×cI×da)->Prop:=Paired λp q=>p.1=q.1/\H q.2.1=aF (.tup (p.1.map kV))/\RelV p.2 q.2.2
theorem KT.val{B:zn (zn Key×V)}(r:KT H B xs)(k:zn Key):nT (iz B k) ((C6 xs k).map (·.2)):=by
 induction r with
 |nil=>show mY
 | @cons p q f y h t J=>
  let(a,_,d):=h;by_cases e:p.1=k
  .have I:=a.symm.trans e
   have b:C6 (q::y) k=aF q.2:=by simp[C6,vl,I]
   rw[V0 e,b];show d
  .have I:¬q.1=k:=λz=>e (a.trans z)
   have b:C6 (q::y) k=C6 y k:=by simp[C6,vl,I]
   rw[iy e,b];show J
section
theorem Nm(ok:gm P w H h)(e:Rd H a u):i7 P w H h a u:=e.ok ok
theorem AM(ok:gm P w H h)(e:Rd H a (.dK hL)):hL.length<=ej/\(a==pR)=bB/\∃vs,KV hL vs/\h.DictOf (kK P w) a vs:=
 Nm ok e
theorem Ui(ok:gm P w H h)(e:H a=aF (.dK hL)):hL.length<=ej/\(a==pR)=bB/\∃vs,KV hL vs/\h.DictOf (kK P w) a vs:=AM ok<|.inl e
theorem uO(ok:gm P w H h)(e:H a=aF (.tup<|ks.map kV)):(C_<|kK P w).is h ks a:=by let(_,y,r,o,b,d,n,f):=(ok a _ e);show(o,y.toArray,n,b,(Prod.mk.inj d).1,f,~~~cP r)
theorem LA(ok:gm P w H h)(e:Rd H a (.dT hL)):hL.length<=ej/\(a==pR)=bB/\
 ∃xs,KT H hL xs/\h.DictOfH (C_<|kK P w) a xs:=by
 show dj λJ=>?_;let(z,y,xs,r,o,f,d,g,i,j,k,n):=(Nm ok e);show J ?_;show(z,y,xs,r,o,f,d,g,i,j,k,λx I=>?_,n);have all:∀{l:zn _} {m:zn _},KT H l m->∀x∈m,(C_<|kK P w).is h x.1 x.2.1:=by
  intro l m q
  induction q with
  |nil=>intro x I;show nomatch I
  | @cons p q s Q b t O=>
   intro x I;rcases eL.mp I with e|I
   .subst e
    show uO ok (by rw[<-b.1];show b.2.1)
   .exact O x I
 show all r x I
end
def Ri(H:Hp)(a:cI)(y:V)(r:xz V):Prop:=
 (∃d k,Rd H a (.dK d)/\y=kV k/\r=iz d k)\/∃d k b,Rd H a (.dT d)/\y=.ref b/\H b=aF (.tup<|k.map kV)/\r=iz d k
section
theorem Inv.big(I:Inv X pins σ H s):pR<↥s:=by have h:=(I.mod.glob.keeps I.bk).lt;show Nat.lt_trans () h
theorem AO(Y:A.units+1<s8)(I:Inv X pins σ H s)(g:Ri H a y (aF v))(W:RelV y u)(h:∀w' B,Inv X pins σ H B->RelV v w'->Q w' B):
 wpAny (dq X.prog X.w) A (rG (.ref a) u) Q E s:=by
 rcases g with⟨i,k,e,J,l⟩|⟨i,k,b,e,J,Z,l⟩
 .subst J
  let(z,m,o,O,d):=AM I.dS e;let(w',f,U):=nT.some_of (by rw[l];show O.val k);show wpAny_getItem_of (EC W) d.mapOf f<|h w' _ (I.tok _) U
 .subst J
  cases W;let(z,m,r,O,d):=LA I.dS e;let(w',f,U):=nT.some_of (by rw[l];show O.val k);let(p,n,j):=Option.map_eq_some_iff.mp f;show wpAny_getItem_heap (zkO Y) (uO I.dS Z) d n ?_;rw[j];show h w' _ (I.tok _) U
theorem zbj(W:A.units+1<s8)(I:Inv X pins σ H s)(g:Ri H a y o)(U:RelV y u)(h:∀B,Inv X pins σ H B->Q (.bool o.isSome) B):
 wpAny (dq X.prog X.w) A (i3 .In u<|.ref a) Q E s:=by
 rcases g with⟨i,k,e,J,l⟩|⟨i,k,b,e,J,Y,l⟩
 .subst J
  let(z,f,j,O,d):=AM I.dS e;show wpAny_in_of (EC U) f d.mapOf ?_;rw[<-(O.val k).a_,<-l];show h _<|I.tok _
 .subst J
  cases U;let(z,f,m,O,d):=LA I.dS e;show wpAny_in_heap (zkO W) (uO I.dS Y) f d ?_;have q:=(O.val k).a_;rw[Option.isSome_map]at q;simp?[<-q,<-l];show h _<|I.tok _
theorem LH(I:Inv X pins σ H s)(y:B9 (H a))(hs:tP a s.heap h')(e:∃q,h'.get? a=aF q)(new:i7 X.prog X.w (upd H a ob) h' a ob):
 Inv X pins σ (upd H a ob) {s with heap:=h',toks:=t'}:=
 I.write y (.inl rfl) (λb q d z=>(hs.2 b d).trans z) e new
theorem Pg(z:hL.length<=ej)(e:(a==pR)=bB)(y:KV hL vs)(dd:h'.DictOf (kK P w) a vs):
 i7 P w H' h' a (.dK hL):=(z,e,vs,y,dd)
end
def Sr(i:dE):Prop:=∀y z,RI i bB y z=operate [y,z] (rG y z)
theorem sg{prog:eA}{w:eu}{A:hO}{E:EQ}{s:dy}{env:hH}{I y:dE}{pos:eg}{T id:String}{Q:EQ}
 (Z:Dv (.type T) "__getitem__" = pure (aF (.builtin id))) (hs:Sr y)
 (h:wpAny (dq prog w) A (dv I env) (λo U=>wpAny (dq prog w) A (dv y env) (λi z=>z.TypeIs o T/\wpAny (dq prog w) A (rG o i) Q E z) E U) E s):
 wpAny (dq prog w) A (dv (.Subscript I y pos) env) Q E s:=by
 show Oy<|fU h (λo U a=>fU a (λi z J=>?_) λ_ _ x=>x) λ_ _ x=>x;let(W,J):=J;erw[subscriptTail];show cS ?_;rw[getitemInPython_of_ne W.not_modules];show cS<|wpAny_specialOf W Z ?_;have O:wpAny (dq prog w) A (RI y bB o i) (λr Y=>wpAny (dq prog w) A (letTemporaryGo I o r >>= λ_=>pure r) Q E Y) E z:=by rw[hs o i];show wpAny_operating<|fU J (λr Y b=>cS<|wpAny_letTemporaryGo<|d7 b) λ_ _ x=>x
 first
  |show d7<|cS O
  |show cS<|d7<|cS O
  |show cS O
theorem zhJ(I:Inv X pins σ H s)(g:Ri H a y o):s.TypeIs (.ref a) "dict":=by
 rcases g with⟨f,k,e,_,_⟩|⟨f,k,b,e,_,_,_⟩
 .let(_,_,h,_,d):=AM I.dS e
  show d.typeIs
 .let(_,_,i,_,d):=LA I.dS e
  show d.typeIs
def SL(z ty:TE):TE:=λd H Q=>z d H λx e=>ty d e λy b=>∃a v,x=.ref a/\Ri b a y (aF v)/\Q v b
def zaV(ty z:TE):TE:=λd H Q=>ty d H λy e=>z d e λx b=>∃a o,x=.ref a/\Ri b a y o/\Q (.bl o.isSome) b
section
theorem IJ(J:X.A.units+1<s8)(O:PE X o td)(B:PE X i ty)(hs:Sr i):PE X (.Subscript o i pos) (SL td ty):=by intro b s d H Q I h;show sg PySem.F.slot_dict_getitem.lookup hs<|dQ (O b s d H _ I h) ?_;rintro u m ⟨x,e,U,W,Y⟩;show dQ (B b m d e _ U Y) ?_;rintro n p ⟨y,f,z,Z,a,v,rfl,g,l⟩;obtain rfl:u=nq a:=W;show(zhJ z g,AO J z g Z λt r j k=>(v,f,j,k,l))
theorem Of(z:X.A.units+1<s8)(B:PE X i ty)(J:PE X o td):PC X .In i o (zaV ty td):=by intro b s d H Q I h;show dQ (B b s d H _ I h) ?_;rintro n m ⟨y,e,O,U,W⟩;show dQ (J b m d e _ O W) ?_;rintro u p ⟨x,f,Y,Z,a,k,rfl,g,l⟩;obtain rfl:u=nq a:=Z;show zbj z Y g U λr j=>(.bl k.isSome,f,j,rfl,l)
end
theorem Fi(h:dV)(e:pR<h.objs.size):i7 P w H (h.push {cls:=.type "dict",data:=.dict #[]}) h.objs.size (.dK []):=
 (l6 _,beq_eq_false_iff_ne.mpr<|ew<|gq e,[],.nil,Heap.DictOf.new h)
end L2
namespace DL
open PySem PySem.Spec PyProof.Rows L2
def l5:zn Str:=["NoPrime","Nought","NoTable","NoWidths","NoRow","Unlike","TooMany","NoTurn","NoLine","Nothing","NoArrow","NoText","NoRoom"]
def pf:zn da:=[.type "ValueError",.type "Exception",.type "BaseException",.type "object"]
def J9(K:cL)(c:Str):xz cI:=match o6 K gF c with
 |some (aF (.ref C))=>aF C
 |_=>aT
def BL(K:cL)(C:cI):Bool:=
 ["int","bool","str","tuple","list"].all (λt=>oy K (.ref C) (.type t)==aF bB)&&oy K (.ref C) (.type "ValueError")==aF aG&&
 g0 K (.ref C) "__getattribute__" == aF (aF (.builtin "BaseException.__getattribute__"))&&g0 K (.ref C) "__getattr__" == aF aT&&
 g0 K (.ref C) "__class__" == aF (aF (.builtin "object.__class__"))&&pw K C (.type "object")==aF aG&&pw K C (.type "BaseException")==aF aG&&
 LQ K (.builtin "object.__class__") "__get__" == aF (aF (.builtin "getset_descriptor.__get__"))&&PySem.W.takesIn K (.builtin "object.__class__")==aF aG&&
 (vk K C).any (λa=> !a.hasDel)&&A5 K (.ref C)==aF (.type "type")
def eD(K:cL):Bool:=match J9 K "SplitError" with
 | some S=>l5.all λc=>match J9 K c with
  |some C=>BL K C&&oy K (.ref C) (.ref S)==aF aG&&l5.all λy=>match J9 K y with
   |some z=>oy K (.ref C) (.ref z)==aF (c==y)
   |none=>bB
  |none=>bB
 |none=>bB
def rh(h:dV)(a:cI)(C:cI):Prop:=∃o b,h.get? a=aF o/\o.cls=.ref C/\o.data=.fields b
structure uA(K:cL)(H:Hp)(c:Str)(n:Option Int)(a:cI):Prop where
 all:eD K=aG
 mem:c∈l5
 ex:∃C φ,J9 K c=aF C/\H a=aF (.ext φ)/\(∀h,φ h->rh h a C)/\
  match n with
  |none=>True
  |some i=>∃d,(∀h,φ h->∃o,h.get? a=aF o/\o.dict=aF d)/\H d=aF (.xd [(if c==("NoRoom" : Str)then "room" else "at",.int i)])
theorem uA.mono{K:cL}{H B:Hp}{c:Str}{n:xz Int}{a:cI}(e:∀b o,H b=aF o->B b=aF o)(h:uA K H c n a):uA K B c n a:=by
 let(f,g,C,j,z,g2,I,y):=h;show(f,g,C,j,z,e _ _ g2,I,?_);cases n with
 |none=>show y
 |some i=>let(d,f1,J):=y;show(d,f1,e _ _ J)
set_option tactic.hygienic true in
theorem J8{K:cL}{c:Str}{C:cI}(h:eD K=aG)(B:c∈l5)(e:J9 K c=aF C):∃S,J9 K "SplitError" = aF S/\BL K C=aG/\oy K (.ref C) (.ref S)=aF aG/\
 ∀y z,y∈l5->J9 K y=aF z->oy K (.ref C) (.ref z)=aF (c==y):=by
 erw[eD]at h;split at h
 .rename_i S I
  have a:=om.mp h c B;rw[e]at a;simp?[fS,beq_iff_eq]at a;show(S,I,a.1.1,a.1.2,λy z J O=>?_);have b:=om.mp a.2 y J;rw[O]at b;show beq_iff_eq.mp b
 .cases h
abbrev St:=L2.St
def OL:D->xz Key
 |.int i=>aF (.inl i)
 |.str x=>aF (.inr x)
 |_=>aT
def ma:zn D->xz (zn Key)
 |[]=>aF []
 |d::ds=>(OL d).bind λk=>(ma ds).map λr=>k::r
def N2(H:Hp)(a:cI)(e:zn D)(xs:zn V):Prop:=∃y,ma e=aF y/\y.length=xs.length/\∃o,H a=aF (.ny o<|.dK<|y.zip xs)
def SE(k:zn Int):Int:=reduceHash<|Builtin.Tuple.tupleHashOf<|k.map hashInt
def zbp(o:gB)(xs:zn (zn Int×cI×da)):Prop:=o.ExactDict/\∃a b,o.data=.dict a b/\a.toList=xs.map (λx=>(SE x.1,.ref x.2.1,x.2.2))/\(xs.map (·.1)).Nodup
def S?(a:cI)(o:gB):HO:=.ext λh=>h.get? a=aF o
def N3(K:cL)(H:Hp)(a:cI)(e:zn (zn Int))(z:zn V):Prop:=
 (a==pR)=bB/\∃o b,H a=aF (S? a o)/\zbp o b/\b.map (·.1)=e/\b.length<=ej/\(∀x∈b,fC K H x.2.1<|x.1.map V.int)/\d8 z (b.map (·.2.2))
def kT(v:V):zn (Str×V):=aE "row" v []
def tq(e z:V):zn (Str×V):=aE "table" z (aE "p" e [])
theorem Ua(e z:V):(tq e z).lookup ("p" : Str)=aF e:=by rfl
theorem TZ(z e:V):(tq z e).lookup ("table" : Str)=aF e:=by rfl
theorem Ub(e z:V):(tq e z).lookup ("forth" : Str)=aT:=by rfl
def cW(K:cL)(C:cI):Bool:=zv K C o4&&(DC K C&&(L0 K C&&(g0 K (.ref C) "__setattr__" == aF (aF (.builtin "object.__setattr__"))&&(g0 K (.ref C) "__class__" == aF (aF (.builtin "object.__class__"))&&
 (LQ K (.builtin "object.__class__") "__get__" == aF (aF (.builtin "getset_descriptor.__get__"))&&(PySem.W.takesIn K (.builtin "object.__class__")==aF aG&&(pw K C (.type "object")==aF aG&&["int","bool","str","tuple","list"].all λt=>oy K (.ref C) (.type t)==aF bB)))))))
def pL(K:cL)(c:Str):xz cI:=match o6 K gF c with
 |some (aF (.ref C))=>if cW K C=aG then aF C else aT
 |_=>aT
theorem yQ{K:cL}{c:Str}{C:cI}(h:pL K c=aF C):cW K C=aG:=by
 erw[pL]at h;split at h
 .split at h
  .rename_i y;cases h;show y
  .cases h
 .cases h
mutual
def Rep(K:cL)(H:Hp):D->V->Prop
 |.dw,v=>v=.dw
 |.bl b,v=>v=.bl b
 |.int i,v=>v=.int i
 |.str x,v=>v=.str x
 |.tup ds,v=>∃a d,v=.ref a/\fC K H a d/\di K H ds d
 |.lst ds,v=>∃a d,v=.ref a/\eJ K H a d/\di K H ds d
 |.exc c n,v=>∃a,v=.ref a/\uA K H c n a
 |.hV ks vs,v=>∃a d,v=.ref a/\N2 H a ks d/\di K H vs d
 |.i4 ks vs,v=>∃a d,v=.ref a/\N3 K H a ks d/\di K H vs d
 |.ins c p t,v=>∃a C f e g,v=.ref a/\pL K c=aF C/\H a=aF (.ins C f<|kT e)/\Rep K H p e/\Rep K H t g
def di(K:cL)(H:Hp):zn D->zn V->Prop
 |[],xs=>xs=[]
 |d::ds,xs=>∃x r,xs=x::r/\Rep K H d x/\di K H ds r
end
theorem i6{K:cL}{H z:Hp}{a:cI}{xs:zn V}(e:et H z)(h:fC K H a xs):fC K z a xs:=by
 rcases h with(h|⟨o,h⟩)|h
 .exact .inl<|.inl<|e _ _ h
 .exact .inl<|.inr (o,e _ _ h)
 .exact .inr h
theorem bt{k:Sk}{K:cL}{H z:Hp}{a:cI}{xs:zn V}(e:et H z)(h:h9 k K H a xs):h9 k K z a xs:=by
 cases k
 .exact e.seq h
 .exact i6 e h
mutual
theorem Rep.mono{K:cL}{H B:Hp}(e:et H B):∀{d:D} {v:V},Rep K H d v->Rep K B d v
 |.dw,_,h=>h
 |.bl _,_,h=>h
 |.int _,_,h=>h
 |.str _,_,h=>h
 |.tup ds,v,h=>by let(a,b,f,i,g):=(show ∃a b,v=.ref a/\fC K H a b/\di K H ds b from h);show(show ∃a b,v=.ref a/\fC K B a b/\di K B ds b from(a,b,f,i6 e i,di.mono e g))
 |.lst ds,v,h=>by let(a,b,f,i,g):=(show ∃a b,v=.ref a/\eJ K H a b/\di K H ds b from h);show(show ∃a b,v=.ref a/\eJ K B a b/\di K B ds b from(a,b,f,e.seq i,di.mono e g))
 |.exc c n,v,h=>by let(a,f,i):=(show ∃a,v=.ref a/\uA K H c n a from h);show(show ∃a,v=.ref a/\uA K B c n a from(a,f,i.mono e))
 |.hV ks vs,v,h=>by let(a,b,f,(I,y,g2,o,z),g):=(show ∃a b,v=.ref a/\N2 H a ks b/\di K H vs b from h);show(show ∃a b,v=.ref a/\N2 B a ks b/\di K B vs b from(a,b,f,(I,y,g2,o,e _ _ z),di.mono e g))
 |.i4 ks vs,v,h=>by let(a,b,f,(y,o,s,g2,z,J,O,zhD,Q),g):=(show ∃a b,v=.ref a/\N3 K H a ks b/\di K H vs b from h);show(show ∃a b,v=.ref a/\N3 K B a ks b/\di K B vs b from(a,b,f,(y,o,s,e _ _ g2,z,J,O,λx U=>i6 e<|zhD x U,Q),di.mono e g))
 |.ins c p t,v,h=>by let(a,C,k,j,l,f,i,g,m,r):=(show ∃a C k j l,v=.ref a/\pL K c=aF C/\H a=aF (.ins C k<|kT j)/\Rep K H p j/\Rep K H t l from h);show(show ∃a C k j l,v=.ref a/\pL K c=aF C/\B a=aF (.ins C k<|kT j)/\Rep K B p j/\Rep K B t l from(a,C,k,j,l,f,i,e _ _ g,Rep.mono e m,Rep.mono e r))
theorem di.mono{K:cL}{H B:Hp}(e:et H B):∀{z:zn D} {xs:zn V},di K H z xs->di K B z xs
 |[],_,h=>h
 |d::z,xs,h=>by let(x,r,a,b,f):=(show ∃x r,xs=x::r/\Rep K H d x/\di K H z r from h);show(show ∃x r,xs=x::r/\Rep K B d x/\di K B z r from(x,r,a,Rep.mono e b,di.mono e f))
end
section
variable{K:cL}{H:Hp}
theorem di.nil:di K H [] []:=(show([]:zn V)=[]from rfl)
theorem di.cons(h:Rep K H d x)(t:di K H ds xs):di K H (d::ds) (x::xs):=(x,xs,rfl,h,t)
theorem di.nB(h:di K H [] xs):xs=[]:=h
theorem di.kF(h:di K H (d::ds) xs):∃x r,xs=x::r/\Rep K H d x/\di K H ds r:=h
theorem di.length:∀{z:zn D} {xs:zn V},di K H z xs->xs.length=z.length
 |[],xs,h=>by rw[h.nB];rfl
 |d::z,xs,h=>by let(x,r,e,_,t):=h.kF;simp?[e,nK,nK,di.length t]
theorem di.get:∀{B:zn D} {xs:zn V} {i:Nat} {d:D},di K H B xs->B[i]? = aF d->∃x,xs[i]? = aF x/\Rep K H d x
 |[],_,_,_,_,e=>by simp at e
 |c::B,xs,0,d,h,e=>by let(x,r,a,b,_):=h.kF;simp at e;subst e;show(x,by rw[a];rfl,b)
 |c::B,xs,i+1,d,h,e=>by let(x,r,a,_,t):=h.kF;let(y,z,g2):=di.get t (~~~e);show(y,by rw[a];simpa using z,g2)
theorem di.uJ{z:zn D}{xs:zn V}{i:Nat}{x:V}(h:di K H z xs)(e:xs[i]? = aF x):∃d,z[i]? = aF d/\Rep K H d x:=by
 have b:i<z.length:=by rw[<-h.length];show(kG.mp e).1
 let(y,a,r):=h.get<|eW b;rw[e]at a;cases a;show(_,eW b,r)
theorem di.append:∀{z B:zn D} {xs I:zn V},di K H z xs->di K H B I->di K H (z++B) (xs++I)
 |[],_,xs,_,h,g=>by rw[h.nB];show g
 |d::z,B,xs,I,h,g=>by let(x,r,e,a,t):=h.kF;rw[e];show di.cons a<|di.append t g
theorem di.drop:∀{z:zn D} {xs:zn V} n,di K H z xs->di K H (z.drop n) (xs.drop n)
 |_,_,0,h=>h
 |[],xs,n+1,h=>by rw[h.nB];show di.nil
 |d::z,xs,n+1,h=>by let(x,r,e,_,t):=h.kF;rw[e];show di.drop n t
theorem di.take:∀{z:zn D} {xs:zn V} n,di K H z xs->di K H (z.take n) (xs.take n)
 |_,_,0,h=>by rfl
 |[],xs,n+1,h=>by rw[h.nB];show di.nil
 |d::z,xs,n+1,h=>by let(x,r,e,a,t):=h.kF;rw[e];show di.cons a<|di.take n t
theorem di.set:∀{z:zn D} {xs:zn V} {d:D} {x:V} i,di K H z xs->Rep K H d x->di K H (z.set i d) (xs.set i x)
 |[],xs,_,_,_,h,_=>by rw[h.nB];rfl
 |c::z,xs,d,x,0,h,g=>by let(y,r,e,_,t):=h.kF;rw[e];show di.cons g t
 |c::z,xs,d,x,i+1,h,g=>by let(y,r,e,a,t):=h.kF;rw[e];show di.cons a<|di.set i t g
end
structure Ext(H0 H el H':Hp):Prop where
 s0:et H0 el
 s1:et H H'
 sub:et el H'
 new:∀a,H0 a=aT->H a≠aT->el a=aT
theorem Ext.refl(s:et H0 H):Ext H0 H H0 H:=(et.refl _,et.refl _,s,λ_ h _=>h)
theorem Ext.trans(a:Ext H0 H H1 G1)(b:Ext H1 G1 H2 G2):Ext H0 H H2 G2:=
 (a.s0.trans b.s0,a.s1.trans b.s1,b.sub,λc e d=>b.new c (a.new c e d) (by
  cases q:H c with
  |none=>show absurd q d
  |some o=>rw[a.s1 c o q];simp))
theorem js(h:H p=aT)(o:HO):et H (upd H p o):=λb u q=>by rw[zC (jk q h)];show q
theorem jw(s:et H0 H)(h:H p=aT):H0 p=aT:=s.free h
theorem zki(s:et H0 H):et (upd H0 p o) (upd H p o):=λb u q=>by
 by_cases e:b=p
 .subst e;rw[zA]at q ⊢;show q
 .rw[zC e]at q ⊢;show s b u q
theorem Ext.alloc(s:et H0 H)(h:H p=aT)(o:HO):Ext H0 H (upd H0 p o) (upd H p o):=
 (js (jw s h) o,js h o,zki s,λa b d=>by rw[zC (λe=>d<|by rw[e];show h)];show b)
theorem Ext.hide(s:et H0 H)(h:H p=aT)(o:HO):Ext H0 H H0 (upd H p o):=
 (et.refl _,js h o,s.trans<|js h o,λa b _=>b)
theorem Ext.show(e:Ext H0 H el H')(B:H a=aT)(J:el a=aT)(L:H' a=aF o)(s:et H0 H):Ext H0 H (upd el a o) H':=
 (e.s0.trans<|js J o,e.s1,λb u q=>by
  by_cases z:b=a
  .subst z;rw[zA]at q;rw[L];show q
  .rw[zC z]at q;show e.sub b u q,λb I y=>by
  rw[zC (λz=>y<|by rw[z];show B)];show e.new b I y)
structure pb(K:cL)(H0 H:Hp)(rows:List (List D))(a:cI)(bs:List cI):Prop where
 a0:H0 a=aT
 ha:H a=aF (.lst<|bs.map V.ref)
 nd:(a::bs).Nodup
 len:bs.length=rows.length
 row:∀(k:Nat) b row,bs[k]? = aF b->rows[k]? = aF row->H0 b=aT/\∃xs,H b=aF (.lst xs)/\di K H0 row xs
theorem pb.at{K:cL}{B H:Hp}{e:zn (zn D)}{a:cI}{bs:zn cI}(n:pb K B H e a bs){b:cI}(hb:b∈a::bs):B b=aT/\∃xs,H b=aF (.lst xs):=by
 rcases eL.mp hb with rfl|hb
 .exact(n.a0,_,n.ha)
 .let(k,y):=X_ hb
  have z:=(kG.mp y).1;rw[n.len]at z;let(d,xs,f,_):=n.row k b _ y<|eW z;show(d,xs,f)
theorem pb.move{K:cL}{J H B I:Hp}{e:zn (zn D)}{a:cI}{bs:zn cI}(n:pb K J H e a bs)(s:et J B)(L:∀b∈a::bs,B b=aT)(h:∀b∈a::bs,I b=H b):pb K B I e a bs:=
 (L a gH,by rw[h a gH];show n.ha,n.nd,n.len,λk b row y z=>by let(_,i,f,g):=n.row k b row y z;have d:b∈a::bs:=gy _<|oA y;show(L b d,i,by rw[h b d];show f,g.mono s))
def lL(K:cL)(z H:Hp)(e:St)(γ:Ctx):Prop:=
 (∀(i:Nat) b,γ[i]? = aF (.nest b)->∃a bs,e[i]? = aF (aF (.ref a))/\pb K z H b a bs/\∀(j:Nat) d c,γ[j]? = aF (.own d)->e[j]? = aF (aF (.ref c))->c∉a::bs)/\
 ∀(i j:Nat) f g,γ[i]? = aF (.nest f)->γ[j]? = aF (.nest g)->i=j
theorem lL.tu{K:cL}{B H:Hp}{I:St}{γ:Ctx}(h:∀(i:Nat) z,γ[i]? ≠ aF (.nest z)):lL K B H I γ:=(λi z e=>absurd e<|h i z,λi j a b e=>absurd e<|h i a)
theorem lL.move{K:cL}{J H B L:Hp}{I:St}{γ:Ctx}(n:lL K J H I γ)(s:et J B)(h:∀(i:Nat) z a bs,γ[i]? = aF (.nest z)->I[i]? = aF (aF (.ref a))->pb K J H z a bs->(∀(j:Nat) O c,γ[j]? = aF (.own O)->I[j]? = aF (aF (.ref c))->c∉a::bs)->∀b∈a::bs,B b=aT/\L b=H b):lL K B L I γ:=
 (λi z e=>by let(a,bs,d,f,g):=n.1 i z e;show(a,bs,d,f.move s (λb k=>(h i z a bs e d f g b k).1)<|λb k=>(h i z a bs e d f g b k).2,g),n.2)
theorem lL.ext{K:cL}{I H z B:Hp}{J:St}{γ:Ctx}(n:lL K I H J γ)(e:Ext I H z B):lL K z B J γ:=
 n.move e.s0 λi d a bs _ _ f _ b g=>by let(y,h,g2):=f.at g;show(e.new b y (),by rw[e.s1 b _ g2,g2])
structure RC(K:cL)(H0 H:Hp)(σ:St)(γ:Ctx):Prop where
 sub:et H0 H
 len:σ.length=γ.length
 val:∀(i:Nat) d,γ[i]? = aF (.val d)->∃v,σ[i]? = aF (aF v)/\Rep K H0 d v
 own:∀(i:Nat) ds,γ[i]? = aF (.own ds)->∃a xs,σ[i]? = aF (aF (.ref a))/\H0 a=aT/\H a=aF (.lst xs)/\di K H0 ds xs
 ne:∀(i j:Nat) a ds es,γ[i]? = aF (.own ds)->γ[j]? = aF (.own es)->σ[i]? = aF (aF (.ref a))->σ[j]? = aF (aF (.ref a))->i=j
 kq:lL K H0 H σ γ
theorem RC.ext{K:cL}{I H z B:Hp}{J:St}{γ:Ctx}(r:RC K I H J γ)(e:Ext I H z B):RC K z B J γ:=
 (e.sub,r.len,λi d h=>let (v,b,f):=r.val i d h;(v,b,f.mono e.s0),
  λi g h=>let (a,l,b,f,j,k):=r.own i g h;(a,l,b,e.new a f (),e.s1 _ _ j,k.mono e.s0),r.ne,r.kq.ext e)
inductive tV(K:cL)(f:CO D)(σ:St)(H:Hp)(Q:VK):Prop
 |mk (H0 γ d) (_:RC K H0 H σ γ) (_:f γ=aF d) (_:∀v H' el,Ext H0 H el H'->Rep K el d v->Q v H')
inductive zkF(K:cL)(f:CO (Sk×List D))(σ:St)(H:Hp)(Q:VK):Prop
 |mk (H0 γ k ds) (_:RC K H0 H σ γ) (_:f γ=aF (k,ds)) (_:∀a xs H' el,Ext H0 H el H'->h9 k K H' a xs->(k=.T->fC K el a xs)->di K el ds xs->Q (.ref a) H')
inductive tO(K:cL)(f:CO (List D))(σ:St)(H:Hp)(Q:VK):Prop
 |mk (H0 γ ds) (_:RC K H0 H σ γ) (_:f γ=aF ds) (_:∀a xs H' el,Ext H0 H el H'->H a=aT->el a=aT->H' a=aF (.lst xs)->di K el ds xs->Q (.ref a) H')
inductive tT(K:cL)(f:CO Bool)(σ:St)(H:Hp)(Q:Bool->Hp->Prop):Prop
 |mk (H0 γ b) (_:RC K H0 H σ γ) (_:f γ=aF b) (_:∀H' el,Ext H0 H el H'->Q b H')
inductive tA(K:cL)(f:CO (List D))(σ:St)(H:Hp)(Q:List V->Hp->Prop):Prop
 |mk (H0 γ ds) (_:RC K H0 H σ γ) (_:f γ=aF ds) (_:∀vs H' el,Ext H0 H el H'->di K el ds vs->Q vs H')
abbrev PV(X:Cx)(e:dE)(f:CO D):Prop:=PE X e (tV X.K f)
abbrev PQ(X:Cx)(e:dE)(f:CO (Sk×zn D)):Prop:=PE X e (zkF X.K f)
abbrev PO(X:Cx)(e:dE)(f:CO (zn D)):Prop:=PE X e (tO X.K f)
abbrev gO(X:Cx)(e:dE)(f:CO Bool):Prop:=PT X e (tT X.K f)
abbrev uy(X:Cx)(e:dE)(f:CO Bool):Prop:=PW X e (tT X.K f)
abbrev rp(X:Cx)(es:zn dE)(f:CO (zn D)):Prop:=PA X es (tA X.K f)
theorem j3(h:PE X e t)(i:∀z H Q,t' z H Q->t z H Q):PE X e t':=λa s z H Q I q=>h a s z H Q I<|i z H Q q
theorem KL(h:PT X e t)(i:∀z H Q,t' z H Q->t z H Q):PT X e t':=λa s z H Q I q=>h a s z H Q I<|i z H Q q
theorem Nu(h:PW X e t)(i:∀z H Q,t' z H Q->t z H Q):PW X e t':=λy a s z H Q I q=>h y a s z H Q I<|i z H Q q
theorem Oi(h:PA X es t)(i:∀e H Q,t' e H Q->t e H Q):PA X es t':=λpos a s e H Q I q=>h pos a s e H Q I<|i e H Q q
theorem yJ{X:Cx}{st:en}{t t':TS}(h:PS X st t)(i:∀D e H,t' D e H->t D e H):PS X st t':=λa s e H D I q=>h a s e H D I<|i D e H q
theorem Gw{X:Cx}{st:zn en}{t t':TS}(h:h8 X st t)(i:∀D e H,t' D e H->t D e H):h8 X st t':=λa s e H D I q=>h a s e H D I<|i D e H q
theorem Y1(h:PI X tg e t)(i:∀z H R,t' z H R->t z H R):PI X tg e t':=λa s z H R I q=>h a s z H R I<|i z H R q
theorem vQ(h:n<=lim):n<=ej:=fZ h ()
section
variable{X:Cx}{e a b c:dE}{pos:eg}
theorem PV.q(h:PV X e f):PQ X e (zN f):=j3 h λt H Q O=>by
 let(p,o,k,n,s,y,q):=O;erw[zN]at y;cases e1:f o with
 |none=>grind
 | some d=>
  rw[e1]at y;show(p,o,d,s,e1,λv m b ext r=>?_);cases d with
  |tup i=>
   let(I,J):k=.T/\n=i:=by simp[qc]at y;show(y.1.symm,y.2.symm)
   subst I J;let(a,l,rfl,g,j):=(r);show q a l m b ext (i6 ext.sub g) (λ_=>g) j
  |lst i=>
   let(I,J):k=.L/\n=i:=by simp[qc]at y;show(y.1.symm,y.2.symm)
   subst I J;let(a,l,rfl,g,j):=(r);show q a l m b ext (ext.sub.seq g) (λz=>nomatch z) j
  |_=>simp[qc]at y
theorem PO.v(h:PO X e f):PV X e (jY f):=j3 h λs H Q z=>by
 let(j,i,d,g,y,q):=z;erw[jY]at y;cases e1:f i with
 |none=>grind
 |some l=>
  rw[e1]at y;cases y;show(j,i,l,g,e1,λa o p k ext m b n r=>q _ _ _ (ext.show m b n g.sub)<|(a,o,rfl,eJ.of zA,r.mono<|js b _))
theorem PO.q(h:PO X e f):PQ X e (jq f):=j3 h λt H Q I=>by
 let(i,d,k,n,l,y,q):=I;erw[jq]at y;cases e1:f d with
 |none=>grind
 |some o=>
  rw[e1]at y;cases y;show(i,d,_,l,e1,λa m g b ext p s j r=>q a m g b ext (eJ.of j) (λz=>nomatch z) r)
theorem KG(i:Nat)(h:PE X e (QE i)):PV X e (zf i):=j3 h λn H Q z=>by
 let(f,k,d,a,y,q):=z;erw[zf]at y;cases e1:k[i]? with
 |none=>rw[e1]at y;cases y
 | some c=>
  rw[e1]at y;cases c with
  |val l=>
   cases y;let(v,g,j):=a.val i d e1;show(v,g,q v H f (Ext.refl a.sub) j)
  |no=>cases y
  |own m=>cases y
  |nest b=>cases y
theorem NN(i:Nat)(h:PE X e (QE i)):PQ X e (zh i):=j3 h λt H Q U=>by
 let(j,s,k,l,b,y,q):=U;erw[zh]at y;cases e1:s[i]? with
 |none=>rw[e1]at y;cases y
 | some c=>
  rw[e1]at y;cases c with
  |no=>cases y
  |nest o=>cases y
  |own g=>
   cases y;let(a,f,m,n,p,r):=b.own i l e1;show(_,m,q a f H j (Ext.refl b.sub) (eJ.of p) (λz=>nomatch z) r)
  | val d=>
   let(v,m,n):=b.val i d e1;show(v,m,?_);cases d with
   |tup g=>
    let(J,O):k=.T/\l=g:=by simp[Jg,qc]at y;show(y.1.symm,y.2.symm)
    subst J O;let(a,f,rfl,I,g2):=(n);show q a f H j (Ext.refl b.sub) (i6 b.sub I) (λ_=>I) g2
   |lst g=>
    let(J,O):k=.L/\l=g:=by simp[Jg,qc]at y;show(y.1.symm,y.2.symm)
    subst J O;let(a,f,rfl,I,g2):=(n);show q a f H j (Ext.refl b.sub) (b.sub.seq I) (λz=>nomatch z) g2
   |_=>simp[Jg,qc]at y
theorem XY(h:PE X e (tC v))(r:∀H,Rep X.K H d v):PV X e (je d):=j3 h λi H Q y=>by let(a,g,f,b,z,q):=y;cases z;show q v H a (Ext.refl b.sub)<|r a
theorem zy:PV X (.Constant (.int i) j pos) (sI i):=XY Ob λ_=>(rfl)
theorem fF:PV X (.Constant (.bool x) j pos) (je<|.bl x):=XY Od λ_=>(rfl)
theorem wL:PV X (.Constant .none j pos) (je .dw):=XY bN λ_=>(rfl)
theorem zM:PV X (.Constant (.str x) j pos) (je<|.str x):=XY GG λ_=>(rfl)
def jc(K:cL)(r:R2)(F:D->D->xz D):Prop:=∀b H x y f z d Q,et b H->Rep K b f x->Rep K b z y->F f z=aF d->(∀v e a,Ext b H a e->Rep K a d v->Q v e)->r x y H Q
inductive _P{α β:Type}(o:Option α)(f:α->Option β)(y:β):Prop
 |mk x (_:o=aF x) (_:f x=aF y)
theorem zb(h:o.bind f=aF y):_P o f y:=by
 cases o with
 |none=>cases h
 |some x=>show(x,rfl,h)
theorem fO{K:cL}{r:R2}{F:D->D->xz D}{L S:CO D}(hs:jc K r F):∀B H Q,tV K (zF F L S) B H Q->u6 r (tV K L) (tV K S) B H Q:=λB H Q J=>by let(i,g,d,e,z,q):=J;let(x,k,z):=zb z;let(y,O,z):=zb z;show(i,g,x,e,k,λU o b f l=>(b,g,y,e.ext f,O,λW j Y I m=>hs Y j U W x y d Q I.sub (l.mono I.s0) m z λv h a n Z=>q v h a (f.trans<|I.trans n) Z))
theorem Vs(y:fJ X (ot op) r)(hs:jc X.K r F)(z:PV X a fa)(B:PV X b fb):PV X (.BinOp a op b pos) (zF F fa fb):=
 j3 (CT y z B) (fO hs)
theorem bH(y:fJ X (i3 op) r)(hs:jc X.K r F)(z:PV X a fa)(B:PV X b fb)(H:nv op b=bB):PV X (.Compare a [op] [b] pos) (zF F fa fb):=
 j3 (Wp y z B H) (fO hs)
theorem JW{d:D}{b:Bool}(h:pe d=aF b):d=.bl b:=by cases d<;>simp[pe]at h;rw[h]
theorem ZW(z:fJ X (i3 op) r)(hs:jc X.K r F)(B:PV X a fa)(J:PV X b fb)(L:nv op b=bB):gO X (.Compare a [op] [b] pos) (sB<|zF F fa fb):=
 KL (wM z B J L) λl H Q I=>by let(g,j,k,i,y,q):=I;let(d,h,y):=zb y;show fO hs l H _ (g,j,d,i,h,λv f e x r=>?_);rw[JW y]at r;show(k,r,q f e x)
theorem jG{f:CO D}(h:PV X e f)(B:∀z,uK e ⋯ z=(do let v<-z;oS e.pos;my [v] (Dt v)):=by intro _;rfl):gO X e (sB f):=
 KL (NG h B) λm H Q I=>by let(g,l,k,j,y,q):=I;let(d,i,y):=zb y;show(g,l,d,j,i,λv b a x r=>?_);rw[JW y]at r;show(k,r,q b a x)
theorem Jt(h:gO X a f):uy X (.BoolOp .And [a] pos) f:=sZ h
theorem vK(h:gO X a f):uy X (.BoolOp .Or [a] pos) f:=Nt h
theorem KD{f g:CO Bool}{rest:zn dE}(B:gO X a f)(L:uy X (.BoolOp .And (b::rest) pos) g):uy X (.BoolOp .And (a::b::rest) pos) (bu f g):=
 Nu (Gu B L) λn H Q z=>by
  let(i,h,k,e,y,q):=z;let(c,l,y):=zb y;show(i,h,c,e,l,λm d x=>?_);cases c with
  |true=>show(d,h,k,e.ext x,y,λj I J=>q j I<|x.trans J)
  |false=>grind
theorem ZG{f g:CO Bool}{rest:zn dE}(B:gO X a f)(L:uy X (.BoolOp .Or (b::rest) pos) g):uy X (.BoolOp .Or (a::b::rest) pos) (nI f g):=
 Nu (Tb B L) λn H Q z=>by
  let(i,h,k,e,y,q):=z;let(c,l,y):=zb y;show(i,h,c,e,l,λm d x=>?_);cases c with
  |true=>grind
  |false=>show(d,h,k,e.ext x,y,λj I J=>q j I<|x.trans J)
theorem jV(B:gO X a f):gO X (.UnaryOp .Not a pos) (qA f):=
 KL (NH B) λg H Q z=>by
  let(d,b,k,e,y,q):=z;erw[qA]at y;cases e1:f b with
  |none=>grind
  |some c=>rw[e1]at y;cases y;show(d,b,c,e,e1,q)
theorem Jv(h:uy X e f):gO X e f:=h.pt
theorem Xp(h:PV X a f):PV X (.BoolOp op [a] pos) f:=NX h
theorem Xq{f g:CO D}{rest:zn dE}(B:PV X a f)(L:PV X (.BoolOp .And (b::rest) pos) g):PV X (.BoolOp .And (a::b::rest) pos) (BE f g):=
 j3 (Oe B L) λo H Q z=>by
  let(l,j,d,i,y,q):=z;let(c,h,y):=zb y;let(I,J,h):=zb h;show(l,j,I,i,J,λv k e x r=>?_);rw[JW h]at r;show(c,r,?_);cases c with
  |true=>show(e,j,d,i.ext x,y,λO m U W n=>q O m U (x.trans W) n)
  |false=>cases y;show q _ k e x rfl
theorem Nv(B:PV X a f):PV X (.UnaryOp .Not a pos) (SR f):=
 j3 (NY B) λj H Q I=>by
  let(h,e,d,i,y,q):=I;erw[SR]at y;cases e1:f e with
  |none=>grind
  |some z=>
   rw[e1]at y;show(h,e,z,i,e1,λv g b x r=>?_);cases z with
   |bl c=>cases y;show(c,r,q _ g b x rfl)
   |_=>cases y
theorem xo(S:gO X c k)(B:PV X a f)(L:PV X b g):PV X (.IfExp c a b pos) (fw k f g):=
 j3 (CV S B L) λp H Q O=>by
  let(m,l,d,j,y,q):=O;let(t,n,y):=zb y;show(m,l,t,j,n,λo e x=>?_);cases t with
  |true=>show(e,l,d,j.ext x,y,λz h I J i=>q z h I (x.trans J) i)
  |false=>show(e,l,d,j.ext x,y,λz h I J i=>q z h I (x.trans J) i)
theorem uq:rp X [] zH:=Oi jH λf H Q y=>by let(a,e,d,b,z,q):=y;cases z;show q [] H a (Ext.refl b.sub) di.nil
theorem xE(B:PV X e f)(J:rp X es g)(hs:dU (e::es) ⋯=(bB,dv e ⋯)::dU es ⋯:=by rfl):rp X (e::es) (zc f g):=
 Oi (zS B J hs) λs H Q O=>by
  let(i,b,p,d,y,q):=O;let(x,k,y):=zb y;cases z:g b with
  |none=>grind
  |some r=>
   rw[z]at y;cases y;show(i,b,x,d,k,λv o a h l=>(a,b,r,d.ext h,z,λn j U I m=>q (v::n) j U (h.trans I)<|di.cons (l.mono I.s0) m))
theorem jP(h:rp X es f):PV X (.Tuple es B pos) (kN f):=
 j3 (NW h) λo H Q I=>by
  let(g,m,d,k,y,q):=I;let(a,j,y):=zb y;by_cases z:a.length<=lim
  .rw[DJ z]at y;cases y
   show(g,m,a,k,j,λl n i B e=>(vQ (by rw[e.length];show z),λp b=>q _ _ _ (B.trans<|Ext.alloc B.sub b _)<|(p,l,rfl,fC.of zA,e.mono<|js (jw B.sub b) _)))
  .rw[DY z]at y;cases y
theorem qQ(h:rp X es f):PO X (.List es pos) (xY f):=
 j3 (NZ h) λs H Q J=>by
  let(i,n,d,l,y,q):=J;let(j,k,y):=zb y;by_cases I:j.length<=lim
  .rw[DJ I]at y;cases y
   show(i,n,_,l,k,λm r b a g=>(vQ (by rw[g.length];show I),λp e=>q p m _ b (a.trans<|Ext.hide a.sub e _) (by
    cases z:H p with
    |none=>rfl
    |some o=>rw[a.s1 p o z]at e;lia) (jw a.sub e) zA g))
  .rw[DY I]at y;cases y
end
def Ct(e:zn (Key×V))(ps:zn (Key×V)):zn (Key×V):=ps.foldl (λa b=>pY a b.1 b.2) e
theorem wW:entryFor table "dict.update.loop" = aF Builtin.«dict.update.loop» :=entryFor_of_tree (by kernel_rfl)
theorem wK(args:Args):(Code.builtin "dict.update.loop" args).quiet=aG:=S5 _ ()
def xB(e:zn D):zn D:=(cT e.length).map λ(i:Nat)=>D.tup [.int i,e[i]?.getD .dw]
def Wc(f:CO D)(γ:Ctx):xz (zn D):=(f γ).bind λd=>match d with
 |.tup a=>aF (xB a)
 |_=>aT
def gz:zn D->xz (zn Int)
 |[]=>aF []
 |.int i::r=>(gz r).map λl=>i::l
 |_::_=>aT
def UZ(f:CO D)(g:CO (Sk×zn D))(γ:Ctx):xz D:=(f γ).bind λd=>(g γ).bind λa=>(i1 d).bind λi=>(gz a.2).map λl=>.bl (decide<|i∈l)
def Jf(T:Tg)(f:CO (zn D))(γ:Ctx):zn D->xz (List<|zn D)
 |[]=>aF []
 |d::ds=>(kM T d γ).bind λa=>(f a).bind λe=>(Jf T f γ ds).map λr=>e::r
def iX(e:CO (zn D))(T:Tg)(n:Nat)(z:zn Nat)(f:CO (zn D))(γ:Ctx):xz (List<|zn D):=(e γ).bind λa=>if a.length<=lim then Jf T f (jj n z γ) a else aT
def cQ:Cell->Bool
 |.nest _=>aG
 |_=>bB
def Cm(i:Nat)(f:CO (List<|zn D)):CO Fl:=λb=>(f b).bind λa=>if b.any cQ=bB then aF (.next<|b.set i<|.nest a)else aT
def Kc:xz Cell->xz (List<|zn D)
 |some (.nest rows)=>aF rows
 |_=>aT
def wu(γ:Ctx)(j i:Nat)(r:zn D):Ctx:=(γ.set j .no).set i (.own r)
def yR(j i:Nat)(g f:CO D)(γ:Ctx):zn (zn D)->xz (List<|zn D)
 |[]=>aF []
 |r::rs=>(f<|wu γ j i r).bind λd=>((g<|wu γ j i r).bind i1).bind λk=>(fX r.length k).bind λm=>(yR j i g f γ rs).map λt=>r.set m d::t
def fz(j i:Nat)(g f:CO D)(γ:Ctx):xz Fl:=(Kc γ[j]?).bind λb=>if i=j\/γ.length<=i then aT else (yR j i g f γ b).map λa=>.next ((γ.set j<|.nest a).set i .no)
def Ru(i:Nat)(F:CO Fl)(γ:Ctx):xz Fl:=(Jh γ[i]?).bind λa=>F<|γ.set i<|.val<|.lst a
def Nf(i:Nat)(F:CO Fl)(γ:Ctx):xz Fl:=(Kc γ[i]?).bind λa=>F<|γ.set i<|.val<|.lst<|a.map D.lst
def ba:zn D->xz (zn Str)
 |[]=>aF []
 |.str x::r=>(ba r).map λl=>x::l
 |_::_=>aT
def zT(x:Str):Bool:=decide<|x.length<=1000
def wA(f:CO D)(g:CO (Sk×zn D))(γ:Ctx):xz D:=(f γ).bind λd=>(g γ).bind λa=>match d,a.1 with
 |.str sep,.L=>(ba a.2).bind λl=>if l.length<=lim/\l.all zT=aG/\zT sep=aG then aF (.str<|ng sep l)else aT
 |_,_=>aT
def iT(f g:CO D)(γ:Ctx):xz D:=(f γ).bind λd=>((g γ).bind i1).bind λi=>match d with
 |.str z=>if zT z=aG then (fX z.cps.toList.length i).bind λk=>z.cps.toList[k]?.map λc=>.str ⟨#[c]⟩else aT
 |_=>aT
def Nc(f:CO D)(γ:Ctx):xz D:=(f γ).bind λd=>match d with
 |.str z=>if zT z=aG then aF (.int z.length)else aT
 |_=>aT
def Nb(f g:CO D)(γ:Ctx):xz D:=((f γ).bind i1).bind λi=>((g γ).bind i1).map λj=>.int (if j<i then j else i)
abbrev Xn:=Str×xz Int
def nH:CO Xn:=λ_=>aT
def eB(c:Str)(f:CO D):CO Xn:=λa=>((f a).bind i1).bind λi=>if inR i=aG then aF (c,aF i)else aT
def oU(k:CO Bool)(G H:CO Xn):CO Xn:=λa=>(k a).bind λb=>if b=aG then G a else H a
def dW(G:CO Xn)(F:CO Fl)(H:CO Xn):CO Xn:=λb=>match G b with
 |some c=>aF c
 |none=>(F b).bind λd=>match d with
  |.next a=>H a
  |_=>aT
def mX(G:zn D->xz Xn)(g:CO (zn D)):CO Xn:=λa=>(g a).bind G
def iZ(n:Nat)(G:CO Xn)(e:zn D):xz Xn:=G<|z7 n e
def iV(c:Str)(f:CO D):CO D:=λa=>(f a).bind λd=>match d with
 |.exc y _=>aF (.bl<|y==c)
 |_=>aT
def Nd(f:CO D):CO D:=λa=>(f a).bind λd=>match d with
 |.exc _ _=>aF (.bl aG)
 |_=>aT
def pP(c:Str):Str:=if c==("NoRoom" : Str)then "room" else "at"
def SS(nm:Str)(f:CO D):CO D:=λa=>(f a).bind λd=>match d with
 |.exc c (aF n)=>if (pP c==nm)=aG then aF (.int n)else aT
 |_=>aT
def fu(f:CO D)(g:CO (Sk×zn D)):CO D:=λb=>(f b).bind λd=>(g b).bind λa=>(i1 d).bind λi=>(gz a.2).map λl=>.bl (!decide (i∈l))
open PySem.W (KasT kas_sort)
def ye(z:Str):zn D:=z.cps.toList.map λc=>D.str ⟨#[c]⟩
def Vp(f:CO D)(γ:Ctx):xz (zn D):=(f γ).bind λd=>match d with
 |.str z=>if zT z=aG then aF (ye z)else aT
 |_=>aT
def sM(f:CO D)(γ:Ctx):xz (zn D):=(f γ).bind λd=>match d with
 |.str z=>if zT z=aG then aF (xB<|ye z)else aT
 |_=>aT
def Xk(f:CO D)(γ:Ctx):xz (zn D):=(f γ).bind λd=>match d with
 |.lst a=>aF (xB a)
 |_=>aT
def Co(f:CO D)(g:CO (Sk×zn D))(γ:Ctx):xz D:=(f γ).bind λd=>(g γ).bind λa=>match d with
 |.str x=>(ba a.2).map λl=>.bl (l.any λy=>y==x)
 |_=>aT
def yI(f g:CO D)(γ:Ctx):xz D:=(f γ).bind λd=>(g γ).bind λe=>match d,e with
 |.str x,.str y=>if zT x=aG/\zT y=aG then aF (.str<|x++y)else aT
 |_,_=>aT
def pX(f:CO D)(l h:CO (xz Int))(γ:Ctx):xz D:=(f γ).bind λd=>(l γ).bind λlo=>(h γ).bind λa=>match d with
 |.str z=>if zT z=aG then aF (.str<|sP z lo a)else aT
 |_=>aT
def Rt(f:CO (Sk×zn D))(γ:Ctx):xz (zn D):=(f γ).bind λa=>match a.1 with
 |.L=>if a.2.length<=lim then aF a.2.reverse else aT
 |_=>aT
def Eb:D->xz (Int×Int)
 |.tup [.int a,.int b]=>aF (a,b)
 |_=>aT
def Xs:zn D->xz (List<|Int×Int)
 |[]=>aF []
 |d::r=>(Eb d).bind λp=>(Xs r).map λl=>p::l
def QT(x y:Int×Int):Bool:=if x.1=y.1 then decide (x.2<y.2)else decide (x.1<y.1)
def vg{e:Type}(lt:Nat->Nat->Bool):KasT e->e
 |.ret a=>a
 |.ask i j k=>vg lt<|k<|lt i j
def xq(ps:zn (Int×Int)):zn Nat:=if ps.length<2 then cT ps.length else (vg (λi j=>QT (ps.getD i (0,0))<|ps.getD j (0,0))<|kas_sort ps.length).toList
def Cg(e:zn D):xz (zn D):=(Xs e).bind λa=>if e.length<64 then aF ((xq a).map λi=>e.getD i .dw)else aT
def FW(f:CO (Sk×zn D))(γ:Ctx):xz (zn D):=(f γ).bind λa=>match a.1 with
 |.L=>Cg a.2
 |_=>aT
def FZ(F G:zn D->xz Res)(g:CO (zn D))(γ:Ctx):xz (zn D):=(g γ).bind λl=>match l with
 |[p,.str z,t,b]=>((if z=("r" : Str)then F else G) [p,t,b]).bind SU
 |_=>aT
def WT:zn D->xz (zn Int)
 |[]=>aF []
 |.int i::r=>(WT r).map λl=>i::l
 |_::_=>aT
def Fk(e z:zn D):xz D:=match WT e with
 |some a=>if e.length=z.length/\a.Nodup/\e.length<=lim then aF (.hV e z)else aT
 |none=>aT
def mn:zn D->zn D->Int->xz D
 |k::ks,v::vs,i=>match k with
  |.int j=>if j=i then aF v else mn ks vs i
  |_=>mn ks vs i
 |_,_,_=>aT
open PySem.Spec PyProof.Rows
structure RS(K:cL)(E0 E H0 H:Hp)(σ:St)(γ:Ctx):Prop where
 rc:RC K H0 H σ γ
 ext:Ext E0 E H0 H
 fresh:∀(i:Nat) ds a,γ[i]? = aF (.own ds)->σ[i]? = aF (aF (.ref a))->E a=aT
 oP:∀(i:Nat) rows a xs,γ[i]? = aF (.nest rows)->σ[i]? = aF (aF (.ref a))->H a=aF (.lst xs)->E a=aT/\∀b,V.ref b∈xs->E b=aT
def Sat(K:cL)(E0 E:Hp)(D:Ends):Fl->Prop
 |.next f=>∀e H b,RS K E0 E b H e f->D.nx e H
 |.brk f=>∀e H b,RS K E0 E b H e f->D.bk e H
 |.cont f=>∀e H b,RS K E0 E b H e f->D.ct e H
 |.ret (.val d)=>∀v H b,Ext E0 E b H->Rep K b d v->D.rt v H
 |.ret (.own es)=>∀a g H b,Ext E0 E b H->E a=aT->b a=aT->H a=aF (.lst g)->di K b es g->D.rt (.ref a) H
inductive tS(K:cL)(F:CO Fl)(D:Ends)(σ:St)(H:Hp):Prop
 |mk (E0 E H0 γ fl) (_:RS K E0 E H0 H σ γ) (_:F γ=aF fl) (_:Sat K E0 E D fl)
abbrev gg(X:Cx)(st:en)(F:CO Fl):Prop:=PS X st (tS X.K F)
abbrev VT(X:Cx)(sts:zn en)(F:CO Fl):Prop:=h8 X sts (tS X.K F)
section
variable{K:cL}{E0 E H0 H el H':Hp}{σ:St}{γ:Ctx}
theorem RS.step(r:RS K E0 E H0 H σ γ)(e:Ext H0 H el H'):RS K E0 E el H' σ γ:=(r.rc.ext e,r.ext.trans e,r.fresh,λi b a h d f g=>by let(z,bs,y,g2,_):=r.rc.kq.1 i b d;rw[f]at y;cases y;have:=e.s1 a _ g2.ha;rw[g]at this;cases this;show r.oP i b a _ d f g2.ha)
theorem zG{B:Type}{l:zn B}{i j:Nat}{x y:B}(h:(l.set i x)[j]? = aF y):(j=i/\y=x/\i<l.length)\/(j≠i/\l[j]? = aF y):=by
 by_cases e:i=j
 .subst e
  by_cases z:i<l.length
  .rw[mV z]at h;cases h;show .inl (rfl,rfl,z)
  .rw[List.set_eq_of_length_le ()]at h
   show absurd (kG.mp h).1 z
 .rw[fW e]at h;show .inr (ew e,h)
theorem lL.nF{i:Nat}{d:D}{v:V}(n:lL K H0 H σ γ):lL K H0 H (σ.set i<|some v) (γ.set i<|.val d):=
 (λj b e=>by
  rcases zG e with⟨_,z,_⟩|⟨I,z⟩
  .cases z
  .let(a,bs,l,m,o):=n.1 j b z
   show(a,bs,by rw[fW (ew I)];show l,m,λk h c f y=>?_);rcases zG f with⟨_,z,_⟩|⟨J,g⟩
   .cases z
   .rw[fW (ew J)]at y;show o k h c g y,
 λj k p r f y=>by
  rcases zG f with⟨_,z,_⟩|⟨_,g⟩
  .cases z
  .rcases zG y with⟨_,z,_⟩|⟨_,s⟩
   .cases z
   .exact n.2 j k p r g s)
theorem RC.nF{i:Nat}{d:D}{v:V}(r:RC K H0 H σ γ)(h:Rep K H0 d v):RC K H0 H (σ.set i<|some v) (γ.set i<|.val d):=by
 show(r.sub,by simp[r.len],λj f e=>?_,λj b e=>?_,λj k a b l g U J O=>?_,r.kq.nF)
 .rcases zG e with⟨rfl,z,Q⟩|⟨y,z⟩
  .cases z;show(v,mV (by rw[r.len];show Q),h)
  .let(m,I,g2):=r.val j f z
   show(m,by rw[fW (ew y)];show I,g2)
 .rcases zG e with⟨rfl,z,Q⟩|⟨y,z⟩
  .cases z
  .let(a,n,I,g2):=r.own j b z
   show(a,n,by rw[fW (ew y)];show I,g2)
 .rcases zG g with⟨_,z,_⟩|⟨y,o⟩
  .cases z
  .rcases zG U with⟨_,z,_⟩|⟨W,p⟩
   .cases z
   .rw[fW (ew y)]at J
    rw[fW (ew W)]at O;show r.ne j k a b l o p J O
theorem RS.nF{i:Nat}{d:D}{v:V}(r:RS K E0 E H0 H σ γ)(h:Rep K H0 d v):RS K E0 E H0 H (σ.set i<|some v) (γ.set i<|.val d):=
 (r.rc.nF h,r.ext,λj f a e y=>by
  rcases zG e with⟨_,z,_⟩|⟨I,z⟩
  .cases z
  .rw[fW (ew I)]at y;show r.fresh j f a z y,
 λj b a g e y J=>by
  rcases zG e with⟨_,z,_⟩|⟨I,z⟩
  .cases z
  .rw[fW (ew I)]at y;show r.oP j b a g z y J)
theorem vP:∀{y bs:zn cI},y.map V.ref=bs.map V.ref->y=bs
 |[],[],_=>rfl
 |[],_::_,h=>by cases h
 |_::_,[],h=>by cases h
 |a::y,b::bs,h=>by injection h with h1 h2;injection h1 with h1;rw[h1,vP h2]
theorem RS.zku{i:Nat}{L:zn D}{a:cI}{xs:zn V}{B G:Hp}(r:RS K E0 E B G σ γ)(e:Ext B G H0 H)(S:G a=aT)(h2:H0 a=aT)(h3:H a=aF (.lst xs))(h4:di K H0 L xs):
 RS K E0 E H0 H (σ.set i<|some (.ref a)) (γ.set i<|.own L):=by
 have f:=r.rc.ext e;have no:∀(j:Nat) h,γ[j]? = _->¬σ[j]? = aF (aF (.ref a)):=λj h g z=>by let(b,p,y,g2,Y,_):=r.rc.own j h g;lia
 show((f.sub,by simp[f.len],λj t g=>?_,λj h g=>?_,λj k b h fs n O Q U=>?_,(λj d g=>?_,λj k C F y g2=>?_)),r.ext.trans e,λj h b y g2=>?_,λj d b xs y g2 Y=>?_)
 .rcases zG g with⟨_,z,_⟩|⟨I,z⟩
  .cases z
  .let(M,y,g2):=f.val j t z
   show(M,by rw[fW (ew I)];show y,g2)
 .rcases zG g with⟨rfl,z,J⟩|⟨I,z⟩
  .cases z;show(a,xs,mV (by rw[f.len];show J),h2,h3,h4)
  .let(b,p,y,g2):=f.own j h z
   show(b,p,by rw[fW (ew I)];show y,g2)
 .rcases zG n with⟨rfl,z,J⟩|⟨I,l⟩
  .rcases zG O with⟨rfl,_,_⟩|⟨W,m⟩
   .rfl
   .rw[mV (by rw[f.len];show J)]at Q
    rw[fW (ew W)]at U;cases Q;show absurd U<|no k fs m
  .rcases zG O with⟨rfl,z,J⟩|⟨W,m⟩
   .rw[mV (by rw[f.len];show J)]at U
    rw[fW (ew I)]at Q;cases U;show absurd Q<|no j h l
   .rw[fW (ew I)]at Q
    rw[fW (ew W)]at U;show f.ne j k b h fs l m Q U
 .rcases zG g with⟨_,z,_⟩|⟨I,z⟩
  .cases z
  .refine dj λA=>?_;let(b,bs,y,g2,Y):=r.rc.kq.1 j d z
   let(P,Z,f1,f2,w):=f.kq.1 j d z;show A ?_;rw[y]at f1;cases f1;have u:Z.map V.ref=bs.map V.ref:=by have:=e.s1 b _ g2.ha;rw[f2.ha]at this;injection this with this;injection this
   have s:=vP u;subst s;show(b,Z,by rw[fW (ew I)];show y,f2,λk h c n O=>?_);rcases zG n with⟨rfl,_,J⟩|⟨W,l⟩
   .rw[mV (by rw[f.len];show J)]at O;cases O
    intro x;let(_,N,q):=g2.at x;lia
   .rw[fW (ew W)]at O;show w k h c l O
 .rcases zG y with⟨_,z,_⟩|⟨_,l⟩
  .cases z
  .rcases zG g2 with⟨_,z,_⟩|⟨_,m⟩
   .cases z
   .exact f.kq.2 j k C F l m
 .rcases zG y with⟨rfl,z,J⟩|⟨I,z⟩
  .rw[mV (by rw[f.len];show J)]at g2;cases g2
   cases q:E a with
   |none=>rfl
   |some o=>rw[r.ext.s1 a o q]at S;lia
  .rw[fW (ew I)]at g2;show r.fresh j h b z g2
 .rcases zG y with⟨_,z,_⟩|⟨I,z⟩
  .cases z
  .rw[fW (ew I)]at g2;show(r.step e).oP j d b xs z g2 Y
theorem RS.rewrite{i:Nat}{e S:zn D}{a:cI}{xs L:zn V}(r:RS K E0 E H0 H σ γ)(B:γ[i]? = aF (.own e))(hs:σ[i]? = aF (aF (.ref a)))(h4:di K H0 S L):
 RS K E0 E H0 (upd H a<|.lst L) σ (γ.set i<|.own S):=by
 let(A,C,W,g2,g3,G):=r.rc.own i e B;rw[hs]at W;cases W;show((λb o q=>?_,by simp[r.rc.len],λj t g=>?_,λj fs g=>?_,λj k b fs gs f y O Z=>?_,(λj d g=>?_,λj k w x f y=>?_)),(r.ext.s0,λb o q=>?_,λb o q=>?_,r.ext.new),λj fs b f y=>?_,λj d b n f y O=>?_)
 .rw[zC (λz=>by lia)];show r.rc.sub b o q
 .rcases zG g with⟨_,z,_⟩|⟨Q,z⟩
  .cases z
  .exact r.rc.val j t z
 .rcases zG g with⟨rfl,z,M⟩|⟨Q,z⟩
  .cases z;show(a,L,hs,g2,zA,h4)
  .let(b,n,f1,I,J,u):=r.rc.own j fs z
   show(b,n,f1,I,?_,u);rw[zC (λq=>Q<|r.rc.ne j i a fs e z B (by rw[f1,q]) hs)];show J
 .have p:∃U,γ[j]? = aF (.own U):=by
   rcases zG f with⟨q,_,_⟩|⟨_,z⟩
   .exact(e,by rw[q];show B)
   .exact(fs,z)
  have s:∃U,γ[k]? = aF (.own U):=by
   rcases zG y with⟨q,_,_⟩|⟨_,z⟩
   .exact(e,by rw[q];show B)
   .exact(gs,z)
  let(f1,h):=p;let(I,m):=s;show r.rc.ne j k b f1 I h m O Z
 .rcases zG g with⟨_,z,_⟩|⟨Q,z⟩
  .cases z
  .let(b,bs,f1,I,J):=r.rc.kq.1 j d z
   have Y:=J i e a B hs;show(b,bs,f1,I.move (et.refl _) (λc l=>(I.at l).1)<|λc l=>zC λq=>Y<|q ▸ l,λk fs c f y=>?_);rcases zG f with⟨q,_,_⟩|⟨_,h⟩
   .rw[q,hs]at y;cases y;show Y
   .exact J k fs c h y
 .rcases zG f with⟨_,z,_⟩|⟨_,h⟩
  .cases z
  .rcases zG y with⟨_,z,_⟩|⟨_,m⟩
   .cases z
   .exact r.rc.kq.2 j k w x h m
 .rw[zC (λz=>by rw[z,r.fresh i e a B hs]at q;cases q)];show r.ext.s1 b o q
 .rw[zC (λz=>by lia)];show r.ext.sub b o q
 .rcases zG f with⟨q,_,_⟩|⟨_,z⟩
  .rw[q]at y;show r.fresh i e b B y
  .exact r.fresh j fs b z y
 .rcases zG f with⟨_,z,_⟩|⟨Q,z⟩
  .cases z
  .let(F,bs,f1,I,J):=r.rc.kq.1 j d z
   rw[y]at f1;cases f1;rw[zC (λq=>J i e a B hs<|by rw[q];show gH)]at O;show r.oP j d b n z y O
end
section
variable{X:Cx}{e a c:dE}{pos:eg}{st:en}{rest:zn en}
theorem zO:VT X [] jO:=Gw KM λD d H y=>by let(E0,E,a,f,e,b,z,I):=y;cases z;show I d H a b
theorem ze{F G:CO Fl}(B:gg X st F)(L:VT X rest G):VT X (st::rest) (zW F G):=Gw (qL B L) λD k H I=>by
 let(E0,E,d,h,f,g,y,z):=I;let(f1,e,y):=zb y;show(E0,E,d,h,f1,g,e,?_);cases f1 with
 |next a=>show λi j b J=>(E0,E,b,a,f,J,y,z)
 |brk a=>cases y;show z
 |cont a=>cases y;show z
 |ret r=>cases y;cases r<;>show z
theorem zg(z:gg X st F):VT X [st] F:=kJ z
inductive _T{α β:Type}(o:Option α)(f:α->β)(y:β):Prop
 |mk x (_:o=aF x) (_:f x=y)
theorem zq(h:o.map f=aF y):_T o f y:=by
 cases o with
 |none=>cases h
 |some x=>show(x,rfl,l8 h)
theorem zE{f:CO D}(h:PV X e f):gg X (.Return (aF e) pos) (qo f):=yJ (Jw h) λD m H z=>by let(E0,E,i,k,l,b,y,I):=z;let(d,j,y):=zq y;subst y;show(i,k,d,b.rc,j,λv g a x r=>I v g a (b.ext.trans x) r)
theorem jZ{f:CO (zn D)}(h:PO X e f):gg X (.Return (aF e) pos) (yH f):=yJ (Jw h) λD u H z=>by
 let(E0,E,i,s,t,d,y,I):=z;let(j,k,y):=zq y;subst y;show(i,s,j,d.rc,k,λa p g b x l m n r=>I a p g b (d.ext.trans x) ?_ m n r);cases q:E a with
 |none=>rfl
 |some o=>rw[d.ext.s1 a o q]at l;lia
theorem kX(i:Nat)(h:PE X e (QE i)):gg X (.Return (aF e) pos) (XB i):=yJ (Jw h) λD t H I=>by
 let(E0,E,k,r,s,f,y,z):=I;erw[XB]at y;cases b:r[i]? with
 |none=>rw[b]at y;cases y
 | some c=>
  rw[b]at y;cases c with
  |no=>cases y
  |val d=>
   cases y;let(v,g,j):=f.rc.val i d b;show(v,g,z v H k f.ext j)
  |nest m=>cases y
  |own l=>
   cases y;let(a,p,g,j,n,o):=f.rc.own i l b;show(_,g,z a p H k f.ext (f.fresh i l a b g) j n o)
theorem bJ:gg X (.Continue pos) Ni:=yJ zhp λD d H y=>by let(E0,E,a,f,e,b,z,I):=y;cases z;show I d H a b
theorem qw:gg X st qp:=yJ CG λD f H y=>by let(E0,E,a,e,b,d,z,I):=y;cases z
theorem jo{k:CO Bool}{F G:CO Fl}{x y:zn en}(O:gO X c k)(B:VT X x F)(L:VT X y G):gg X (.If c x y pos) (eI k F G):=yJ (tU O B L) λD i H J=>by
 let(E0,E,f,d,e,b,z,I):=J;let(t,g,z):=zb z;show(f,d,t,b.rc,g,λh a x=>?_);cases t with
 |true=>show(E0,E,a,d,e,b.step x,z,I)
 |false=>show(E0,E,a,d,e,b.step x,z,I)
theorem QM(i:Nat){f:CO D}(h:PS X st (aD (tV X.K f)<|yK i)):gg X st (jF i f):=yJ h λD m H z=>by let(E0,E,e,j,l,b,y,I):=z;let(d,g,y):=zq y;subst y;show(e,j,d,b.rc,g,λv k a x r=>I _ _ a<|(b.step x).nF r)
theorem XZ(i:Nat){f:CO (zn D)}(h:PS X st (aD (tO X.K f)<|yK i)):gg X st (yG i f):=yJ h λD t H z=>by let(E0,E,e,n,p,d,y,I):=z;let(g,j,y):=zq y;subst y;show(e,n,g,d.rc,j,λa s o b x k l m r=>I _ _ b<|d.zku x k l m r)
theorem yT(h:Jh o=aF ds):o=aF (.own ds):=by
 cases o with
 |none=>cases h
 |some c=>cases c<;>simp[Jh]at h;rw[h]
theorem ziM(i:Nat){f:CO D}(h:PE X e (s_ X.K "list" sW (QE i) (Zx (tV X.K f) pW)))(hs:ni e aT pos.line ⋯=pure bB:=by rfl):gg X (.Expr e pos) (qk i f):=
 yJ (fH h hs) λD w H I=>by
  show dj λJ=>?_;let(E0,E,o,p,t,j,y,O):=I;let(k,b,y):=zb y;let(d,Q,y):=zb y;show J ?_;have b:=yT b;by_cases z:k.length<lim
  .rw[DJ z]at y;cases y
   let(a,xs,l,u,m,n):=j.rc.own i k b;show(_,l,.inl (rfl,_,eJ.of m),o,p,d,j.rc,Q,λv s g x r=>(a,xs,v,rfl,rfl,x.s1 _ _ m,i9 (by rw[n.length];show z)<|vQ<|ec _,O _ _ g<|(j.step x).rewrite (xs:=xs) b l ((n.mono x.s0).append (di.cons r di.nil))))
  .rw[DY z]at y;cases y
end
def UQ(K:cL)(z H:Hp)(Q:VK):Res->Prop
 |.val d=>∀v e b,Ext z H b e->Rep K b d v->Q v e
 |.own g=>∀a f e b,Ext z H b e->H a=aT->b a=aT->e a=aF (.lst f)->di K b g f->Q (.ref a) e
inductive kr(K:cL)(n:Nat)(F:List D->Option Res)(vs:List V)(H:Hp)(Q:VK)(_:XK):Prop
 |mk (H0 ds r) (_:et H0 H) (_:di K H0 ds vs) (_:ds.length=n) (_:F ds=aF r) (_:UQ K H0 H Q r)
theorem kr.len{K:cL}{n:Nat}{F:zn D->xz Res}{ps:zn Str}(e:ps.length=n):∀vs H Q E,kr K n F vs H Q E->vs.length=ps.length:=λvs H Q E h=>by let(d,f,r,_,a,b,_):=h;rw[a.length,b,e]
section
variable{P:eA}{w:eu}{K:cL}{mg:DZ}{base:dV}
theorem XX(s:et H0 H)(h:di K H0 ds vs)(B:ds.length<=N.length):RS K H0 H H0 H (Xy N vs) (z7 N.length ds):=by
 have y:=h.length;show((s,by simp[L2.Xy,z7,y],λi d e=>?_,λi g e=>?_,λi j a g fs e _ _ _=>?_,lL.tu λi f e=>?_),Ext.refl s,λi g a e _=>?_,λi f a l e _ _=>?_)
 all_goals erw[z7]at e
 .by_cases b:i<ds.length
  .rw[o3 (~~~b),n4]at e
   cases e1:ds[i]? with
   |none=>rw[e1]at e;cases e
   |some k=>
    rw[e1]at e;cases e;let(x,z,g2):=h.get e1;show(x,?_,g2);erw[L2.Xy];rw[o3 (by simp;lia),n4,z];rfl
  .rw[pv (~~~b),R7]at e
   split at e<;>cases e
 all_goals
  by_cases b:i<ds.length
  .rw[o3 (~~~b),n4]at e
   cases e1:ds[i]? with
   |none=>rw[e1]at e;cases e
   |some k=>rw[e1]at e;cases e
  .rw[pv (~~~b),R7]at e
   split at e<;>cases e
theorem EU{x qual:Str}{st:en}{f:cI}{B:gv}{N ps:zn Str}{k:Nat}{F:CO Fl}(z:L2.g5 K x qual st f B)(S:B4 N ps (zK st))
 (I:∀e A outer s H E,g6 k (A.deeper<|envOfC qual (zK st) ↥s f e)->VT (du f7 P w K mg base N qual (zK st) f e A outer s H E).kb (jn st) F):
 fy P w K mg base f7 (k+1) f B ps (kr K ps.length<|ju N.length F):=by
 show z.ok S (kr.len rfl)<|λe A outer s H L Q E J h=>(_,I e A outer s H E J,?_);show dj λO=>?_;let(b,u,r,p,m,C,n,g):=h;let(d,l,y):=zb n;show O ?_;have U:ps.length<=N.length:=by have:=congrArg z8 S.pre;grind
 show(b,H,b,_,d,XX p m (),l,?_);cases d with
 |ret G=>cases y;cases r<;>show g
 |next i=>cases y;show λt j a o=>g .dw j a o.ext rfl
 |brk i=>cases y
 |cont i=>cases y
end
section
theorem Iq{A0:zn dE}(G:⇑fy f7 k f fd ps (kr X.K ps.length F))(B:rp X es g)(I:∀γ e,g γ=aF e->e.length=ps.length)
 (L:∀{t:TA},PA X es t->PE X (.Call (.Name x p) es [] pos) (aY (kr X.K ps.length F) [] E0 t)):PV X (.Call (.Name x p) es [] pos) (zD F g):=
 j3 (L B) λP H Q J=>by
  show dj λO=>?_;let(o,γ,d,C,y,q):=J;let(e,m,y):=zb y;let(r,U,y):=zq y;show O ?_;show(o,γ,e,C,m,λN M j h A=>(j,e,r,h.sub,~~~A,I γ e m,U,?_));subst y;cases r with
  |val d=>show λv i b z l=>q v i b (h.trans z) l
  |own fs=>
   show λa E i b z s n u l=>q _ i _ (h.trans<|z.show s n u h.sub)<|(a,E,rfl,eJ.of zA,l.mono<|js n _)
theorem IE(G:⇑fy f7 k f fd ps (kr X.K ps.length F))(B:rp X es g)(I:∀γ e,g γ=aF e->e.length=ps.length)
 (L:∀{t:TA},PA X es t->PE X (.Call (.Name x p) es [] pos) (aY (kr X.K ps.length F) [] E0 t)):PO X (.Call (.Name x p) es [] pos) (jx F g):=
 j3 (L B) λR H Q J=>by
  show dj λO=>?_;let(m,γ,fs,E,y,q):=J;let(e,j,y):=zb y;let(r,U,y):=zb y;show O ?_;show(m,γ,e,E,j,λP N h i A=>(h,e,r,i.sub,~~~A,I γ e j,U,?_));cases r with
  |val d=>cases y
  | own gs=>
   cases y;show λa M l b W n s u C=>q a M l b (i.trans W) (by
    cases z:H a with
    |none=>rfl
    |some o=>rw[i.s1 a o z]at n;lia) s u C
end
structure Walk(K:cL)(H0 Hs:Hp)(J:It)(ds:List D):Prop where
 go:∀i H1,et Hs H1->i<ds.length->J.go i H1
 stop:∀H1,et Hs H1->J.stop ds.length H1
 pT:∀i H1 x Uz,et Hs H1->i<ds.length->J.pT i H1 x Uz->∃d,ds[i]? = aF d/\∀G0,et H0 G0->et G0 H1->∃Uy,Ext G0 H1 Uy Uz/\Rep K Uy d x
theorem Walk.weak{K:cL}{e z y:Hp}{J:It}{B:zn D}(w:Walk K e z J B)(s:et z y):Walk K e y J B:=
 (λi a h=>w.go i a<|s.trans h,λa h=>w.stop a<|s.trans h,λi a x b h=>w.pT i a x b<|s.trans h)
theorem VZ{k:Sk}{K:cL}{B H:Hp}{a:cI}{xs:zn V}{S:zn D}(h:h9 k K H a xs)(r:di K B S xs):Walk K B H (UA k K a) S:=by
 have O:=r.length;show(λi b s m=>?_,λb s=>?_,λi b x f s m y=>?_)
 .have z:i<xs.length:=()
  cases k with
  |L=>show(xs,xs[i],s.seq h,eW z)
  |T=>show(xs,xs[i],i6 s h,eW z)
 .cases k with
  |L=>show(xs,s.seq h,())
  |T=>show(xs,i6 s h,())
 .have e:f=b/\xs[i]? = aF x:=by
   cases k with
   |L=>show(y.1,y.2 xs<|s.seq h)
   |T=>show(y.1,y.2 xs<|i6 s h)
  let(j,I):=e;subst j;let(d,l,J):=r.uJ I;show(d,l,λg n o=>(g,Ext.refl o,J.mono n))
theorem QK(lo:Int)(n:Nat):(Xm lo n).length=n:=by simp[Xm]
theorem Vh{K:cL}{e B:Hp}(lo:Int)(n:Nat):Walk K e B (B6 lo n) (Xm lo n):=by
 show(λi b s a=>?_,λb s=>?_,λi b x f s a y=>?_)
 .rw[QK]at a;show a
 .rw[QK];show ec _
 .rw[QK]at a
  let(g,z):=y;subst g z;show(.int<|lo+i,by simp[Xm,a],λd j h=>(d,Ext.refl h,(rfl)))
theorem BP{k1 k2:Sk}{K:cL}{L S:Hp}{a b:cI}{xs e:zn V}{B H:zn D}(Z:h9 k1 K S a xs)(r1:di K L B xs)(h2:h9 k2 K S b e)(r2:di K L H e):
 Walk K L S (N8 k1 k2 K a b) (XS B H):=by
 have W:=r1.length;have t:=r2.length;have Y:(XS B H).length=min B.length H.length:=by simp[XS]
 show(λi h s r=>(xs,e,bt s Z,bt s h2,(),()),λh s=>?_,λi h x l s r y=>?_)
 .refine(xs,e,bt s Z,bt s h2,?_)
  lia
 .refine dj λz=>?_;let(p,u,v,m,f,I,J,g2):=y
  let(d,o,O):=r1.uJ<|J xs<|bt s Z;let(c,n,Q):=r2.uJ<|g2 e<|bt s h2;show z ?_;show(.tup [d,c],?_,λk j g=>(upd k p<|.tup [u,v],?_,?_))
  .have U:_=aF (Prod.mk d c):=List.getElem?_zip_eq_some.mpr (o,n)
   simp[XS,U]
  .rw[I];show Ext.alloc g f _
  .rw[m]
   show((p,[u,v],rfl,fC.of zA,di.cons ((O.mono j).mono (js (jw g f) _))<|di.cons ((Q.mono j).mono (js (jw g f) _)) di.nil))
inductive RK(K:cL)(src:CO (List D))(σ:St)(H:Hp)(R:It->Hp->Prop):Prop
 |mk (H0 γ ds) (_:RC K H0 H σ γ) (_:src γ=aF ds) (_:∀J H' el,Ext H0 H el H'->Walk K el H' J ds->R J H')
inductive Hc(K:cL)(src:CO (List D))(σ:St)(H:Hp)(R:It->Hp->Prop):Prop
 |mk (H0 γ ds) (_:RC K H0 H σ γ) (_:src γ=aF ds) (_:∀J H' el,Ext H0 H el H'->Walk K el el J ds->R J H')
abbrev n9(X:Cx)(tg e:dE)(src:CO (zn D)):Prop:=PI X tg e (RK X.K src)
abbrev fh(X:Cx)(tg e:dE)(src:CO (zn D)):Prop:=PI X tg e (Hc X.K src)
section
variable{X:Cx}{tg e a b:dE}{pos p:eg}
theorem fh.c(h:fh X tg e src):n9 X tg e src:=Y1 h λj H R y=>by let(d,i,f,g,z,q):=y;show(d,i,f,g,z,λJ b a x w=>q J b a x<|w.weak x.sub)
theorem zQ(h:PQ X e f):n9 X tg e (zR f):=Y1 (ub h) λs H R y=>by let(i,o,p,m,z,q):=y;let((k,l),j,I):=zq z;subst I;show(i,o,k,l,m,j,λa n g b x d _ r=>(a,k,rfl,(n,d),q _ g b x<|VZ d r))
theorem Wm(h:PV X e f):fh X tg e (zR<|zN f):=Y1 (ub h) λu H R I=>by
 let(o,s,t,p,J,q):=I;let((k,n),b,y):=zq J;subst y;let(d,O,b):=zb b;show(o,s,d,p,O,λv m g x r=>?_);cases d with
 |tup fs=>
  let(y,z):k=.T/\n=fs:=by simp[qc]at b;show(b.1.symm,b.2.symm)
  subst y z;let(a,l,rfl,i,j):=(r);show(a,.T,rfl,(l,i6 x.sub i),q _ m g x<|VZ i j)
 |lst fs=>
  let(y,z):k=.L/\n=fs:=by simp[qc]at b;show(b.1.symm,b.2.symm)
  subst y z;let(a,l,rfl,i,j):=(r);show(a,.L,rfl,(l,x.sub.seq i),q _ m g x<|VZ i j)
 |_=>simp[qc]at b
theorem jT(h:i1 d=aF i):d=.int i:=by cases d<;>simp[i1]at h;rw[h]
theorem Ym(h:inR i=aG): -(2^62)<=i/\i<2^62:=by
 erw[inR]at h
 grind
theorem zjl(z:Gl X "range")(L:X.mg "range" = aT)(B:PV X a f)(hs:dU [a] ⋯=[(bB,dv a ⋯)]:=by rfl):fh X tg (.Call (.Name "range" p) [a] [] pos) (jv f):=
 Y1 (zk8 z L (zS B jH hs) hs) λs H R I=>by
  let(i,m,o,l,y,q):=I;let(n,e,y):=zb y;let(d,J,e):=zb e;by_cases g:inR n=aG
  .rw[DJ g]at y;cases y
   show(i,m,d,l,J,λv h b x r=>?_);rw[jT e]at r;let(j,k):=Ym g;show(n,by rw[r],j,k,q _ h b x<|Vh 0 n.toNat)
  lia
theorem zjk(J:Gl X "range")(S:X.mg "range" = aT)(B:PV X a f)(L:PV X b g)(hs:dU [a,b] ⋯=[(bB,dv a ⋯),(bB,dv b ⋯)]:=by rfl)(z:dU [b] ⋯=[(bB,dv b ⋯)]:=by rfl):
 fh X tg (.Call (.Name "range" p) [a,b] [] pos) (fj f g):=
 Y1 (zk7 J S (zS B (zS L jH z)<|by rw[hs,z]) hs z) λG H R O=>by
  show dj λQ=>?_;let(o,l,E,k,y,q):=O;let(m,i,y):=zb y;let(d,U,i):=zb i;let(n,I,y):=zb y;let(c,W,I):=zb I;show Q ?_;by_cases e:inR m=aG/\inR n=aG
  .rw[DJ e]at y;cases y
   show(o,l,d,k,U,λv C h x r=>(h,l,c,k.ext x,W,λF s Y Z j=>?_));rw[jT i]at r;rw[jT I]at j;let(t,u):=Ym e.1;let(w,A):=Ym e.2;show(m,n,by rw[r,j],(t,u,w,A),q _ s Y (x.trans Z)<|Vh m (n-m).toNat)
  .rw[DY e]at y;cases y
theorem sA{K:cL}{H:Hp}{d:D}{v:V}{k:Sk}{z:zn D}(r:Rep K H d v)(e:qc d=aF (k,z)):∃a xs,v=.ref a/\h9 k K H a xs/\di K H z xs:=by
 cases d with
 |tup fs=>simp[qc]at e;let(b,y):=e;subst b y;show r
 |lst fs=>simp[qc]at e;let(b,y):=e;subst b y;show r
 |_=>simp[qc]at e
theorem IG{f g:CO D}{B:zn dE}{x1:Nat}{L:eg}(U:Gl X "zip")(hm:X.mg "zip" = aT)(S:PV X a f)(hb:PV X b g)(hs:dU [a,b] ⋯=[(bB,dv a ⋯),(bB,dv b ⋯)]:=by rfl)(I:dU [b] ⋯=[(bB,dv b ⋯)]:=by rfl):
 fh X (.Tuple B x1 L) (.Call (.Name "zip" p) [a,b] [] pos) (eZ f g):=
 Y1 (NS U hm (zS S (zS hb jH I)<|by rw[hs,I]) PyProof.Rows.boot_zip hs I) λP H R W=>by show dj λY=>?_;let(k,j,M,i,y,q):=W;let((A,m),h,y):=zb y;let(d,Z,h):=zb h;let((C,n),J,y):=zq y;let(c,u,J):=zb J;show Y ?_;subst y;show(k,j,d,i,Z,λv K e x r=>(e,j,c,i.ext x,u,λN l t z E=>?_));let(o,F,rfl,O,g2):=sA (r.mono z.s0) h;let(s,G,rfl,Q,w):=sA E J;show(A,C,o,s,rfl,(F,bt z.sub O),(G,bt z.sub Q),q _ l t (x.trans z)<|BP O g2 Q w)
end
def iQ:zn Nat->zn V->St->St
 |i::is,v::vs,σ=>iQ is vs<|σ.set i<|some v
 |_,_,σ=>σ
def gs:zn Nat->x8
 |[]=>O_
 |i::is=>OX (yK i)<|gs is
def nA(K:cL):Tg->TG
 |.nm i=>yK i
 |.tp is=>O' K is.length<|gs is
theorem Ar:∀{is:zn Nat} {vs:zn V} {e:St} {H:Hp} {Q:St->Hp->Prop},vs.length=is.length->Q (iQ is vs e) H->gs is vs e H Q
 |[],[],_,_,_,_,q=>(rfl,q)
 |i::is,v::vs,e,H,Q,hl,q=>(v,vs,rfl,Ar (~~~hl) q)
 |[],_::_,_,_,_,hl,_=>by simp at hl
 |_::_,[],_,_,_,hl,_=>by simp at hl
theorem RS.Dk{K:cL}{E0 E I H:Hp}:∀{is:zn Nat} {z:zn D} {vs:zn V} {B:St} {γ:Ctx},RS K E0 E I H B γ->di K I z vs->RS K E0 E I H (iQ is vs B) (xX is z γ)
 |[],z,vs,B,γ,r,h=>by assumption
 |i::is,[],vs,B,γ,r,h=>by rw[h.nB];show r
 |i::is,d::z,vs,B,γ,r,h=>by let(x,t,e,a,b):=h.kF;subst e;change RS K E0 E I H _ (xX is z _);show RS.Dk (r.nF a) b
theorem RC.Dk{K:cL}{I H:Hp}:∀{is:zn Nat} {z:zn D} {vs:zn V} {B:St} {γ:Ctx},RC K I H B γ->di K I z vs->RC K I H (iQ is vs B) (xX is z γ)
 |[],z,vs,B,γ,r,h=>by assumption
 |i::is,[],vs,B,γ,r,h=>by rw[h.nB];show r
 |i::is,d::z,vs,B,γ,r,h=>by let(x,t,e,a,b):=h.kF;subst e;change RC K I H _ (xX is z _);show RC.Dk (r.nF a) b
theorem JU{K:cL}{B H:Hp}{T:Tg}{d:D}{v:V}{J:St}{γ γ1:Ctx}{Q:St->Hp->Prop}(s:et B H)(h:Rep K B d v)(e:kM T d γ=aF γ1)
 (q:∀y,(RC K B H J γ->RC K B H y γ1)->(∀E0 E,RS K E0 E B H J γ->RS K E0 E B H y γ1)->Q y H):nA K T v J H Q:=by
 cases T with
 |nm i=>cases e;show q _ (λr=>r.nF h) λE0 E r=>r.nF h
 | tp is=>
  cases d with
  | tup g=>
   simp?[kM]at e;by_cases z:g.length=is.length
   .rw[DJ z]at e;cases e
    let(a,f,rfl,j,b):=(h);have I:f.length=is.length:=by rw[b.length,z]
    show(a,f,rfl,i6 s j,I,Ar I<|q _ (λr=>r.Dk b) λE0 E r=>r.Dk b)
   .rw[DY z]at e;cases e
  |_=>simp[kM]at e
theorem Ext.rebase{E0 E y z H B:Hp}(e:Ext E0 E y B)(x:Ext y E z H):Ext E0 E z H:=
 (e.s0.trans x.s0,x.s1,x.sub,λa d b=>x.new a (e.new a d b) b)
theorem Ext.base{E0 E y B:Hp}(e:Ext E0 E y B):Ext y E y B:=(et.refl _,e.s1,e.sub,λa h _=>h)
theorem Sat.rebase{K:cL}{E0 E y B:Hp}{D:Ends}{z:Fl}(e:Ext E0 E y B)(h:Sat K E0 E D z):Sat K y E D z:=by
 cases z with
 |next g=>show λf H b r=>h f H b (r.rc,e.rebase r.ext,r.fresh,r.oP)
 |brk g=>show λf H b r=>h f H b (r.rc,e.rebase r.ext,r.fresh,r.oP)
 |cont g=>show λf H b r=>h f H b (r.rc,e.rebase r.ext,r.fresh,r.oP)
 |ret r=>
  cases r with
  |val d=>show λv H b x q=>h v H b (e.rebase x) q
  |own m=>show λa l H b x i j k q=>h a l H b (e.rebase x) i j k q
section
variable{X:Cx}{tg iter:dE}{body:zn en}{pos:eg}
theorem Iw{B:CO (zn D)}{T:Tg}{F:CO Fl}(hp:C0 (dq X.prog X.w) X.A ⋯ X.xe)(hc:X.calm=aG)(L:fh X tg iter B)(hg:PG X tg (nA X.K T))(hb:VT X body F)
 (hs:∀x,m3 iter ⋯ x=pure x:=by intro _;rfl):gg X (.For tg iter body [] pos) (XU B T F):=
 yJ (GA hp hc L hg hb hs) λD k H hZ=>by
  let(E0,E,h,j,g,b,z,I):=hZ;let(f,S,z):=zb z;show(h,j,f,b.rc,S,λJ H1 a x1 W=>?_);have Q:=b.step x1;have u:=Q.ext;show(λi m k H=>m=f.length-i/\i<=f.length/\∃h j g,RS X.K a E h H k j/\vj T F (f.drop i) j=aF g/\Sat X.K a E D g,(_,rfl,l6 _,a,j,g,(Q.rc,u.base,Q.fresh,Q.oP),z,I.rebase u),?_);rintro i m k H ⟨rfl,L,h,j,g,b,z,I⟩;have Y:=b.ext.s0.trans b.ext.sub;by_cases O:i<f.length
  .refine .inr (W.go i H Y O,λk H=>_/\_,λo8 t n=>(_,Z_ _ _ O,rfl,n.1,n.2),λx t y=>?_)
   show dj λZ=>?_;let(d,C,hx):=W.pT i H x t Y O y;let(M,G,rg):=hx h b.ext.s0 b.rc.sub;show Z ?_;have P:f.drop i=d::f.drop (i+1):=by
    have al:=by rw[eW O]at C;show(l8 C).symm
    simp_all
   rw[P]at z;simp?[vj]at z;show dj λZ=>?_;let(p,eb,z):=zb z;let(f1,zg8,z):=zb z;show Z ?_;show JU G.sub rg eb λN0 _ R=>(a,E,M,p,f1,R a E<|b.step G,zg8,?_);cases f1 with
   |next U=>show λs N l o=>(O,l,U,g,o,z,I)
   |cont U=>show λs N l o=>(O,l,U,g,o,z,I)
   |brk U=>cases z;show I
   |ret r=>cases z;cases r<;>show I
  .have e:i=f.length:=()
   subst e;rw[L7]at z;cases z;show .inl (W.stop H Y,I k H h b)
end
theorem qZ(h:(jj n fr γ)[i]? = aF c):c=.no\/(∃d j,c=.val d/\n<=i/\fr[i-n]? = aF j/\γ[j]? = aF (.val d)):=by
 erw[jj]at h;by_cases b:i<n
 .rw[o3 (~~~b),R7,DJ b]at h
  show .inl (l8 h).symm
 .rw[pv (~~~b),n4,List.length_replicate]at h
  cases e:fr[i-n]? with
  |none=>rw[e]at h;cases h
  | some j=>
   rw[e]at h;have a:= ~~~h
   cases e2:γ[j]? with
   |none=>rw[e2]at a;show .inl a.symm
   |some y=>
    rw[e2]at a;cases y with
    |no=>show .inl a.symm
    |own g=>show .inl a.symm
    |nest f=>show .inl a.symm
    |val d=>show .inr (d,j,a.symm,(),rfl,e2)
theorem RC.pull{K:cL}{B H:Hp}{J:St}{γ:Ctx}{own:zn Str}{e:zn (Str×Nat)}(r:RC K B H J γ):RC K B H (L2.Cu own e J) (jj own.length (e.map (·.2)) γ):=by
 show(r.sub,by simp[L2.Cu,jj],λi d h=>?_,λi f h=>?_,λi j a f l h _ _ _=>?_,lL.tu λi b h=>?_)
 .rcases qZ h with z|⟨d',j,z,hi,y,I⟩
  .cases z
  .cases z
   let(v,g,k):=r.val j d I;show(v,?_,k);rw[n4]at y;cases q:e[i-own.length]? with
   |none=>rw[q]at y;cases y
   |some p=>
    rw[q]at y;erw[L2.Cu];rw[pv (~~~hi),n4,gr,q];simp[(~~~y),g]
 .rcases qZ h with z|⟨d',j,z,_⟩<;>cases z
 .rcases qZ h with z|⟨d',j,z,_⟩<;>cases z
 .rcases qZ h with z|⟨d',j,z,_⟩<;>cases z
theorem RC.weak{K:cL}{L H:Hp}{O:St}{γ γ':Ctx}(r:RC K L H O γ)(z:γ'.length=γ.length)(I:∀(i:Nat) d,γ'[i]? = aF (.val d)->γ[i]? = aF (.val d))(y:∀(i:Nat) e,γ'[i]? ≠ aF (.own e))(J:∀(i:Nat) B,γ'[i]? ≠ aF (.nest B)):RC K L H O γ':=
 (r.sub,by rw[z];show r.len,λi d h=>r.val i d<|I i d h,λi e h=>absurd h<|y i e,λi j a e b h _ _ _=>absurd h<|y i e,lL.tu J)
theorem RC.upd{K:cL}{J H:Hp}{L:St}{γ:Ctx}{D:cI}{o:HO}(r:RC K J H L γ)(O:J D=aT)(y:∀(i:Nat) e,γ[i]? ≠ aF (.own e))(I:∀(i:Nat) B,γ[i]? ≠ aF (.nest B)):RC K J (upd H D o) L γ:=
 (λb u q=>by rw[zC (λz=>by lia)];show r.sub b u q,r.len,r.val,λi e h=>absurd h<|y i e,λi j a e d h _ _ _=>absurd h<|y i e,lL.tu I)
theorem Kv:∀{is:zn Nat} {e:zn D} {γ:Ctx},(xX is e γ).length=γ.length
 |[],e,γ=>by rfl
 |i::is,[],γ=>rfl
 |i::is,d::e,γ=>by change(xX is e _).length=_;rw[Kv];simp
theorem Kw:∀{is:zn Nat} {e:zn D} {γ:Ctx} {i:Nat},i∉is->(xX is e γ)[i]? = γ[i]?
 |[],e,γ,i,_=>by rfl
 |j::is,[],γ,i,_=>rfl
 |j::is,d::e,γ,i,h=>by change(xX is e _)[i]? = _;rw[Kw (λz=>h<|gy _ z),fW (λz=>h<|by rw[<-z];show gH)]
theorem dH(h:kM T d γ=aF γ1):γ1.length=γ.length/\∀i,i∉T.idx->γ1[i]? = γ[i]? :=by
 cases T with
 |nm j=>cases h;show(by simp,λi a=>fW<|λz=>a<|by simp[Tg.idx,z])
 | tp is=>
  cases d with
  |tup b=>
   simp?[kM]at h;by_cases y:b.length=is.length
   .rw[DJ y]at h;cases h;show(Kv,λi a=>Kw a)
   .rw[DY y]at h;cases h
  |_=>simp[kM]at h
section
variable{K:cL}{own:zn Str}{fr:zn (Str×Nat)}{src:CO (zn D)}{T:Tg}{k:CO Bool}{f:CO D}
inductive _Q(K:cL)(T:Tg)(k:CO Bool)(f:CO D)(γ:Ctx)(items ds:List D)(D:cI)(ri H1:Hp)(i m:Nat)(ys:List V)(o8:St)(H':Hp):Prop
 |mk (el:Hp) (U2 U3:List DL.D) (h1:m=items.length-i) (h2:i<=items.length) (h3:ys.length<=i) (h4:H' D=aF (.lst ys)) (h5:RC K el H' o8 γ) (h6:el D=aT) (h7:Ext ri H1 el H') (zhU:di K el U2 ys) (zhV:zI T k f γ (items.drop i)=aF U3) (h10:ds=U2++U3)
theorem JR(hT:∀i∈T.idx,i<own.length)(b4:∀B H Q,tT K k B H Q->tt B H Q):∀B H Q,tO K (zL src T own.length (fr.map (·.2)) k f) B H Q->rX (RK K src) own fr (nA K T) tt (tV K f) B H Q:=λB H Q hZ=>by
 let(H0,G,ds,rc,E,q):=hZ;let(a,e1,E):=zb E;by_cases hl:a.length<=lim
 .rw[DJ hl]at E
  show(H0,G,a,rc,e1,λJ H1 p u wk D hD=>?_);have L:∀(i:Nat) X,(jj own.length (fr.map (·.2)) G)[i]? ≠ aF (.own X):=λi X h=>by rcases qZ h with z|⟨d',j,z,_⟩<;>cases z
  have M:∀(i:Nat) t,(jj own.length (fr.map (·.2)) G)[i]? ≠ aF (.nest t):=λi X h=>by rcases qZ h with z|⟨d',j,z,_⟩<;>cases z
  have ac:=jw u.sub hD;show(_Q K T k f (jj own.length (fr.map (·.2)) G) a ds D p H1,(_,p,[],ds,rfl,l6 _,ec _,zA,((rc.ext u).pull).upd ac L M,ac,Ext.hide u.sub hD _,di.nil,E,rfl),?_);rintro i m ys o8 C ⟨n,s,S,rfl,hi,hy,N,P,ad,U,r',I,rfl⟩;show(N,?_);by_cases W:i<a.length
  .refine .inr (wk.go i C U.s1 W,?_,λx al y=>?_)
   .have:=vQ<|ec lim;lia
   show dj λY=>?_;let(d,hd,hx):=wk.pT i C x al U.s1 W y;let(G0,O,rg):=hx n U.s0 P.sub;show Y ?_;have b9:a.drop i=d::a.drop (i+1):=by
    have bb:=by rw[eW W]at hd;show(l8 hd).symm
    rw[bb];show I7 W
   rw[b9]at I;simp?[zI]at I;show dj λY=>?_;let(g,eb,I):=zb I;let(b,ek,I):=zb I;have be:=O.s1 _ _ N;let(bl,bg):=dH eb;show Y ?_;have an:∀{A:St} {G2 H2:Hp},RC K G2 H2 A g->RC K G2 H2 A _:=λr=>r.weak bl.symm (λj d' hj=>by
    by_cases hm:j∈T.idx
    .rcases qZ hj with z|⟨d2,j2,_,hn,_⟩
     .cases z
     .exact absurd (hT j hm) ()
    .rw[bg j hm];show hj) L M
   show JU O.sub rg eb λN0 as _=>b4 N0 al _ (G0,g,b,as<|P.ext O,ek,λH3 aw l=>?_);have R:=(as<|P.ext O).ext l;have xa:=U.trans<|O.trans l;have b0:=l.new D (O.new D ad ()) ();have b1:=l.s1 _ _ be;cases b with
   |true=>
    show dj λY=>?_;let(e,ee,I):=zb I;let(rest,er,I):=zq I;show Y ?_;show(aw,g,e,R,ee,λv H4 br Z r4=>?_);have b2:=Z.new D b0 ();have bx:=Z.s1 _ _ b1;have F:=xa.trans Z;show(bx,_,(),br,s++[e],rest,rfl,W,by rw[n3,H8];lia,zA,(an<|R.ext Z).upd b2 L M,b2,(F.s0,λc o z=>by rw[zC (λw=>by lia)];show F.s1 c o z,λc o z=>by rw[zC (λw=>by lia)];show F.sub c o z,F.new),(r'.mono<|(O.trans<|l.trans Z).s0).append (di.cons r4 di.nil),er,?_)
    .rw[<-I];simp
   |false=>
    show(_,(),aw,s,S,rfl,W,(),b1,an R,b0,xa,r'.mono<|(O.trans l).s0,I,rfl)
  .have e:i=a.length:=()
   subst e;rw[L7]at I;cases I;rw[MZ]at q;show .inl (wk.stop C U.s1,q D ys C n (u.trans U) (by
   cases z:H D with
   |none=>rfl
   |some o=>rw[u.s1 D o z]at hD;lia) ad N r')
 lia
end
section
variable{X:Cx}{scope:e9}{own:zn Str}{fr:zn (Str×Nat)}{elt tg iter c:dE}{pos:eg}{src:CO (zn D)}{T:Tg}{k:CO Bool}{f:CO D}
theorem ID(L:X.calm=aG)(ok:n7 X scope fr)(y:∀i∈T.idx,i<own.length)(S:n9 X tg iter src)(z:∀fp B e,PG (jR X scope (own++fr.map (·.1)) fp B e) tg<|nA X.K T)
 (O:∀fp B e,PV (jR X scope (own++fr.map (·.1)) fp B e) elt f) (hs:∀x,m3 iter ⋯ x=pure x:=by intro _;rfl):
 PO X (.ListComp elt [(tg,iter,[],0)] scope pos) (zL src T own.length (fr.map (·.2)) jb f):=
 j3 (fN L ok S z (λ_ _ _=>Wl) O hs) (JR y λh H Q I=>by let(a,g,b,d,J,q):=I;cases J;show q H a<|Ext.refl d.sub)
theorem zkI(J:X.calm=aG)(ok:n7 X scope fr)(y:∀i∈T.idx,i<own.length)(O:n9 X tg iter src)(z:∀fp B e,PG (jR X scope (own++fr.map (·.1)) fp B e) tg<|nA X.K T)
 (I:∀fp B e,gO (jR X scope (own++fr.map (·.1)) fp B e) c k) (L:∀fp B e,PV (jR X scope (own++fr.map (·.1)) fp B e) elt f) (hs:∀x,m3 iter ⋯ x=pure x:=by intro _;rfl):
 PO X (.ListComp elt [(tg,iter,[c],0)] scope pos) (zL src T own.length (fr.map (·.2)) k f):=
 j3 (fN J ok O z (λfp B e=>lH<|I fp B e) L hs) (JR y λa H Q h=>h)
theorem CI(z:X.N.Nodup)(I:X.N[i]? = aF y)(J:Loc ⋯.scope y)(Z:X.fn y=aG\/⋯.scope.names.lookup y=aF .local)
 (L:X.calm=aG) (ok:n7 X scope fr) (O:∀i∈T.idx,i<own.length) (hi:n9 X tg iter src) (U:∀fp B e,PG (jR X scope (own++fr.map (·.1)) fp B e) tg<|nA X.K T)
 (S:∀fp B e,PV (jR X scope (own++fr.map (·.1)) fp B e) elt f) (hs:∀x,m3 iter ⋯ x=pure x:=by intro _;rfl):
 PS X (.Assign [.Name y py] (.ListComp elt [(tg,iter,[],0)] scope pos) spos) (aD (tO X.K<|zL src T own.length (fr.map (·.2)) jb f)<|yK i):=
 yJ (QN z I J Z L ok hi U (λ_ _ _=>Wl) S hs) λD a H h=>JR O (λa H Q W=>by let(d,j,b,g,Y,q):=W;cases Y;show q H d<|Ext.refl g.sub) a H _ h
theorem ziN(z:X.N.Nodup)(I:X.N[i]? = aF y)(J:Loc ⋯.scope y)(Y:X.fn y=aG\/⋯.scope.names.lookup y=aF .local)
 (L:X.calm=aG) (ok:n7 X scope fr) (O:∀i∈T.idx,i<own.length) (Z:n9 X tg iter src) (U:∀fp B e,PG (jR X scope (own++fr.map (·.1)) fp B e) tg<|nA X.K T)
 (W:∀fp B e,gO (jR X scope (own++fr.map (·.1)) fp B e) c k) (S:∀fp B e,PV (jR X scope (own++fr.map (·.1)) fp B e) elt f) (hs:∀x,m3 iter ⋯ x=pure x:=by intro _;rfl):
 PS X (.Assign [.Name y py] (.ListComp elt [(tg,iter,[c],0)] scope pos) spos) (aD (tO X.K<|zL src T own.length (fr.map (·.2)) k f)<|yK i):=
 yJ (QN z I J Y L ok Z U (λfp B e=>lH<|W fp B e) S hs) λD a H h=>JR O (λa H Q h=>h) a H _ h
end
theorem jL{K:cL}{H:Hp}{i:Int}{v:V}(h:Rep K H (.int i) v):v=.int i:=h
theorem sv{K:cL}{g:Int->Int->D}{I:Int->Int->V}(J:∀H i j,Rep K H (g i j)<|I i j):jc K (nX I) (dI g):=λa H x y b W d Q s O U z q=>by erw[dI]at z;split at z<;>cases z;show(_,_,jL O,jL U,q _ H a (Ext.refl s)<|J a _ _)
theorem su{K:cL}{C:Int->Int->Prop}{c:Int->Int->Bool}{g:Int->Int->D}{I:Int->Int->V}(e:∀i j,c i j=aG->C i j)(J:∀H i j,Rep K H (g i j)<|I i j):jc K (rI C I) (Dc c g):=λa H x y b W d Q s O U z q=>by
 erw[Dc]at z;split at z
 .split at z<;>cases z
  show(_,_,jL O,jL U,e _ _ ‹_›,q _ H a (Ext.refl s)<|J a _ _)
 .cases z
theorem HN{K:cL}:jc K (nX λi j=>.int (i-j)) W3:=sv λ_ _ _=>rfl
theorem Fy(h:mJ i j=aG):w8 i j:=by erw[mJ]at h;erw[w8];lia
theorem HU{K:cL}:jc K (rI J' λi j=>.int (i/j)) VO:=su (λi j h=>by erw[Pp]at h;simp?[fS,decide_eq_true_eq,decide_eq_true_eq]at h;show(h.1,())) λ_ _ _=>rfl
theorem HR{K:cL}:jc K (rI (λ_ j=>0<j) λi j=>.int (i%j)) yL:=su (λi j h=>by erw[Sd]at h;show of_decide_eq_true h) λ_ _ _=>rfl
theorem HP{K:cL}:jc K (rI I_ λi j=>.int (i^j.toNat)) LI:=su (λi j h=>by erw[Po]at h;simp?[fS,fS,decide_eq_true_eq,decide_eq_true_eq,decide_eq_true_eq]at h;show(h.1.1,(),h.2)) λ_ _ _=>rfl
theorem iN{K:cL}:jc K (nX λi j=>.bl (decide<|i<j)) oM:=sv λ_ _ _=>rfl
theorem ZD{K:cL}:jc K (nX λi j=>.bl (decide<|i<=j)) l0:=sv λ_ _ _=>rfl
theorem FS{K:cL}:jc K (nX λi j=>.bl (decide<|j<i)) ti:=sv λ_ _ _=>rfl
theorem FU{K:cL}:jc K (nX λi j=>.bl (decide<|j<=i)) lT:=sv λ_ _ _=>rfl
section
def Gs(K:cL):R2:=λx y H Q=>∃a b d e,x=.ref a/\y=.ref b/\fC K H a d/\fC K H b e/\d.length+e.length<=ej/\
 (d=[]->Q (.ref b) H)/\(e=[]->Q (.ref a) H)/\∀p,H p=aT->Q (.ref p) (upd H p<|.tup<|d++e)
theorem Ed:fJ X (ot .Add) (Gs X.K):=by
 intro g s σ H x y v u Q I Z N h;let(a,b,R,ys,rfl,rfl,w,A,J,G,L,M):=h;cases Z;cases N;let(i,r,O,z1):=I.tuple w;let(j,e,U,z2):=I.tuple A;by_cases d:R=[]
 .refine dj λE=>?_;let((p,t,f,P),W,B,n,C):=id O
  let((S,k,data2,l),Y,m,F,o):=id U;show E ?_;subst B C m o;show Ug (_,W,rfl) (_,Y,rfl) _v q_ _a _j (_h _ _)
   (tuple_addW0 a b i.toArray j.toArray n F t k P l<|by simp[((r.P5).mpr d)]) (W,Y,(.ref b,H,I,rfl,G d))
 .refine HT.Us O U (λz=>d<|(r.P5).mp z) (λz=>(.ref a,H,I,rfl,L<|(e.P5).mp z)) (λ_=>?_) (by rw[<-r.length,<-e.length];show J)
  show(.ref _,_,I.laid (λc T q=>eo _ q) (ec _) ?_,rfl,M _<|I.dS.fresh<|ec _);show(by rw[n3];show J,_,r.append e,pB.new _ _)
def Nr(K:cL):R2:=λx y H Q=>∃l b a d,x=.ref l/\y=.ref b/\eJ K H l a/\eJ K H b d/\a.length+d.length<=ej/\∀p,H p=aT->Q (.ref p) (upd H p<|.lst<|a++d)
theorem Ee:fJ X (ot .Add) (Nr X.K):=by
 intro f s σ H x y v u Q I B C h;let(l,b,T,zs,rfl,rfl,p,m,P,q):=h;cases B;cases C;show dj λt=>?_;let(z,r,(o,n,e,a,d,O),z1):=I.list p;let(J,g,(A,w,U,W,Y,Z),z2):=I.list m;have R:=r.length;have S:=g.length;let(j,i4,N,E):=o;let(G,L,M,i):=A;show t ?_;simp only at a d O W Y Z;subst a d O W Y Z;have k:z.toArray++J.toArray=(z++J).toArray:=by simp
 show Ug (_,e,rfl) (_,U,rfl) noFill_list_add seq_list_add PySem.F.slot_list_add PySem.F.entry_list_add (PySem.F.args_list_add_2 _ _)
  (list_addW l b z.toArray J.toArray n w aT aT E i<|by rw[gN,gN];lia) (e,U,?_)
 rw[k];show(.ref _,_,I.FO (r.append g) (by rw[n3];omega),rfl,q _ I.fresh)
end
def vG(scope e:e9):e9:={scope with names:=scope.names.map λp=>if p.2==oz&&e.kind ==.function&&e.names.lookup p.1==aF .cell then (p.1,M3)else (p.1,p.2)}
theorem ziG(scope:e9)(env:hH):pQ scope env=vG scope env.scope:=by erw[pQ,vG];rfl
structure SX(X:Cx)(sc:e9)(N T:List Str)(k:Nat):Prop where
 nV:⋯.scope=sc
 eN:X.N=N
 nd:N.Nodup
 calm:X.calm=aG
 room:g6 k X.A
 fn:∀x∈T,X.fn x=aG\/sc.names.lookup x=aF .local
def kQ(e:e9)(N:zn Str)(i:Nat)(x:Str):Bool:=
 decide (N[i]? = aF x)&&(decide (e.names.lookup x=aF .local) || decide (e.names.lookup x=aF .cell) || decide (e.names.lookup x=aF .free))&&!(x==("__debug__" : Str))&&!(x==("__classdict__" : Str))
def kD(e:e9)(N T:zn Str)(i:Nat)(x:Str):Bool:=decide (x∈T)&&decide (N[i]? = aF x)&&(decide (e.names.lookup x=aF .local) || decide (e.names.lookup x=aF .cell))
def xP(e:e9)(x:Str):Bool:=decide (e.names.lookup x=aF .globalImplicit)&&!(x==("__name__" : Str))&&!(x==("__debug__" : Str))
section
theorem SX.var(h:SX X sc N T k)(c:kQ sc N i x=aG):PE X (.Name x pos) (QE i):=by erw[kQ]at c;simp?[fS,sE,decide_eq_true_eq,vv]at c;let(((a,e),b),d):=c;show GF (by rw[h.eN];show a) ?_ b d;erw[E5];rw[h.nV];lia
theorem SX.loc(h:SX X sc N T k)(c:kD sc N T i x=aG):X.N[i]? = aF x/\L2.Loc ⋯.scope x/\(X.fn x=aG\/⋯.scope.names.lookup x=aF .local):=by
 erw[kD]at c;simp?[fS,sE,decide_eq_true_eq]at c;show(by rw[h.eN];show c.1.2,?_,?_)
 .unfold L2.Loc;rw[h.nV];show c.2
 .rw[h.nV];show h.fn x c.1.1
theorem SX.uV(h:SX X sc N T k):X.N.Nodup:=by rw[h.eN];show h.nd
theorem SX.tF(h:SX X sc N T k)(i:Nat)(c:kD sc N T i x=aG):PG X (.Name x pos) (yK i):=by let(a,b,d):=h.loc c;show uf h.uV a b d
theorem SX.v_(h:SX X sc N T k)(g:Cj X es (gs is))(e:(pE es ⋯).length=is.length:=by rfl)(y:(pE es ⋯).findIdx? (·.1)=aT:=by rfl):PG X (.Tuple es j pos) (nA X.K<|.tp is):=
 NV h.calm g e y
theorem SX.set(h:SX X sc N T k)(i:Nat)(c:kD sc N T i x=aG)(z:PE X e te)(hs:ni e (aF (.Name x pos')) pos.line ⋯=pure bB:=by rfl):PS X (.Assign [.Name x pos'] e pos) (aD te<|yK i):=by let(a,b,d):=h.loc c;show Gz h.uV a b z hs d
theorem SX.gl(h:SX X sc N T k)(c:xP sc x=aG):Gl X x/\x ≠ "__name__"/\(x==("__debug__"))=bB:=by
 erw[xP]at c;simp?[fS,decide_eq_true_eq,vv]at c;show(?_,?_,c.2)
 .show ⋯.scope.names.lookup x=_
  rw[h.nV];show c.1.1
 lia
def gQ(e scope:e9)(N:zn Str)(z:zn (Str×Nat)):Bool:=
 decide (scope.kind=.function)&&decide ((scope.names.map (·.1)).Nodup)&&scope.names.all (λp=> !(p.2==oz) || decide (e.names.lookup p.1=aF .cell) || decide (e.names.lookup p.1=aF .free))&&
 z.all λp=>decide (scope.names.lookup p.1=aF .free)&&decide (N[p.2]? = aF p.1)
def SO(own:zn Str)(scope:e9)(e:zn (Str×Nat)):Bool:=decide ((own++e.map (·.1)).Nodup)&&own.all (λx=>decide (scope.names.lookup x=aF .local) || decide (scope.names.lookup x=aF .cell))
theorem SX.Y?(h:SX X sc N T k)(c:gQ sc scope N fr=aG):n7 X scope fr:=by
 erw[gQ]at c;simp?[fS,decide_eq_true_eq,om,sE,vv]at c;let(((b,d),z),y):=c;show(b,d,λp a I=>?_,λp a=>((y p a).1,by rw[h.eN];show(y p a).2));have e:⋯.kindOf p.1=sc.names.lookup p.1:=by change ⋯.scope.names.lookup p.1=_;rw[h.nV]
 rw[e];rcases z p a with(q|q)|q
 .rw[I]at q;show absurd q ()
 .exact .inl q
 .exact .inr q
theorem K9(scope B:e9)(x:Str):(vG scope B).names.lookup x=(scope.names.lookup x).map λk=>if (k==oz&&B.kind ==.function&&B.names.lookup x==aF .cell)then M3 else k:=by
 erw[vG];dsimp only;generalize scope.names=l
 induction l with
 |nil=>rfl
 | cons p r y=>
  let(n,z):=p;rw[mc];cases hx:x==n with
  |true=>
   have e:= ~~~hx
   subst e;dsimp only;split
   .rename_i a;simp?[t4,t4,beq_self_eq_true];dsimp?[oh];rw[DJ a]
   .rename_i a;simp?[t4,t4,beq_self_eq_true];dsimp?[oh];rw[DY a]
  |false=>
   dsimp only;split
   .rw[t4,t4,hx];show y
   .rw[t4,t4,hx];show y
theorem SX.comp(h:SX X sc N T k)(c:SO own scope fr=aG):
 SX (jR X scope (own++fr.map (·.1)) fp s2 H2) (vG scope sc) (own++fr.map (·.1)) own k:=by
 erw[SO]at c;simp?[fS,decide_eq_true_eq,om,sE]at c;show(?_,rfl,c.1,h.calm,h.room,λx y=>?_)
 .show pQ scope ⋯=_
  rw[ziG,h.nV]
 .rcases c.2 x y with q|q
  .right;simp?[K9,q];rfl
  .left
   change(scope.names.lookup x==aF .cell)=aG;rw[q];rfl
end
mutual
def g9:D->PyData
 |.dw=>.none
 |.bl b=>.bool b
 |.int i=>.int i
 |.str x=>.str x
 |.tup a=>.tuple (nZ a)
 |.lst a=>.list (nZ a)
 |.exc _ _=>.none
 |.hV _ _=>.none
 |.i4 _ _=>.none
 |.ins _ _ _=>.none
def nZ:zn D->zn PyData
 |[]=>[]
 |d::ds=>g9 d::nZ ds
end
theorem rP(h:gx (.exc c n)=aG):False:=by simp[gx]at h
theorem rN(h:gx (.hV ks vs)=aG):False:=by simp[gx]at h
theorem rT(h:gx (.ins c p t)=aG):False:=by simp[gx]at h
theorem rM(h:gx (.i4 ks vs)=aG):False:=by simp[gx]at h
mutual
theorem O7:∀x y:D,gx x=aG->gx y=aG->t6 (g9 x) (g9 y)=hC x y
 |.dw,y,_,h=>by cases y<;>first|show(rP h).elim|show(rN h).elim|show(rM h).elim|show(rT h).elim|simp[g9,t6,hC]
 |.bl a,y,_,h=>by cases y<;>first|show(rP h).elim|show(rN h).elim|show(rM h).elim|show(rT h).elim|simp[g9,t6,hC]
 |.int a,y,_,h=>by cases y<;>first|show(rP h).elim|show(rN h).elim|show(rM h).elim|show(rT h).elim|simp[g9,t6,hC]
 |.str a,y,_,h=>by cases y<;>first|show(rP h).elim|show(rN h).elim|show(rM h).elim|show(rT h).elim|simp[g9,t6,hC]
 |.exc c n,y,h,_=>(rP h).elim
 |.hV c n,y,h,_=>(rN h).elim
 |.i4 c n,y,h,_=>(rM h).elim
 |.ins c p t,y,h,_=>(rT h).elim
 |.tup xs,y,h1,h2=>by
  cases y with
  |tup b=>simp?[gx]at h1 h2;simp?[g9,t6,hC];show O8 xs b h1 h2
  |exc c n=>show(rP h2).elim
  |hV c n=>show(rN h2).elim
  |i4 c n=>show(rM h2).elim
  |ins c p t=>show(rT h2).elim
  |_=>simp[g9,t6,hC]
 |.lst xs,y,h1,h2=>by
  cases y with
  |lst b=>simp?[gx]at h1 h2;simp?[g9,t6,hC];show O8 xs b h1 h2
  |exc c n=>show(rP h2).elim
  |hV c n=>show(rN h2).elim
  |i4 c n=>show(rM h2).elim
  |ins c p t=>show(rT h2).elim
  |_=>simp[g9,t6,hC]
theorem O8:∀xs e:zn D,oR xs=aG->oR e=aG->Ul (nZ xs) (nZ e)=oO xs e
 |[],e,_,_=>by cases e<;>simp[nZ,Ul,oO]
 | x::xs,e,h1,h2=>by
  cases e with
  |nil=>simp[nZ,Ul,oO]
  |cons y e=>
   simp?[oR,fS]at h1 h2;simp?[nZ,Ul,oO];rw[O7 x y h1.1 h2.1,O8 xs e h1.2 h2.2]
end
mutual
theorem i':∀x:D,gx x=aG->(g9 x).canLay0=aG
 |.dw,_=>by simp[g9,DR]
 |.bl a,_=>by simp[g9,DR]
 |.int a,_=>by simp[g9,DR]
 |.str a,h=>by simpa[g9,DR,gx,PyData.strOk]using h
 |.tup xs,h=>by simp?[gx]at h;simp?[g9,DR];show PU xs h
 |.lst xs,h=>by simp?[gx]at h;simp?[g9,DR];show PU xs h
 |.exc c n,h=>(rP h).elim
 |.hV c n,h=>(rN h).elim
 |.i4 c n,h=>(rM h).elim
 |.ins c p t,h=>(rT h).elim
theorem PU:∀xs:zn D,oR xs=aG->_F (nZ xs)=aG
 |[],_=>by simp[nZ,_F]
 |x::xs,h=>by simp?[oR,fS]at h;simp?[nZ,_F];rw[i' x h.1,PU xs h.2];rfl
end
mutual
theorem U1:∀x:D,(g9 x).depth=deep x
 |.dw=>by simp[g9,sk,deep]
 |.bl a=>by simp[g9,sk,deep]
 |.int a=>by simp[g9,sk,deep]
 |.str a=>by simp[g9,sk,deep]
 |.exc c n=>by simp[g9,sk,deep]
 |.hV c n=>by simp[g9,sk,deep]
 |.i4 c n=>by simp[g9,sk,deep]
 |.ins c p t=>by simp[g9,sk,deep]
 |.tup b=>by simp?[g9,sk,deep];rw[O6 b]
 |.lst b=>by simp?[g9,sk,deep];rw[O6 b]
theorem O6:∀xs:zn D,PyData.depthAll (nZ xs)=oN xs
 |[]=>by simp[nZ,PyData.depthAll,oN]
 |x::xs=>by simp?[nZ,PyData.depthAll,oN];rw[U1 x,O6 xs]
end
theorem wU(h:g7 d=aG):gx d=aG:=by erw[g7]at h;rw[fS]at h;show h.2
theorem Js(h:g7 d=aG):SeqAt.shaped (g9 d)=aG:=by erw[g7]at h;rw[fS,decide_eq_true_eq]at h;erw[SeqAt.shaped];rw[i' d h.2,Bool.true_and,U1];lia
section
variable{X:Cx}{pins:TW}{σ:St}{H0 H:Hp}{s:dy}
mutual
theorem Dj(I:Inv X pins σ H s)(sub:et H0 H):∀{d:D} {v:V} {u:da},gx d=aG->Rep X.K H0 d v->RelV v u->∃y,Reads s.heap u (g9 d) y
 |.dw,v,u,_,h,r=>by cases (show v=.dw from h);cases r;show(_,.none)
 |.bl b,v,u,_,h,r=>by cases (show v=.bl b from h);cases r;show(_,.bool b)
 |.int i,v,u,_,h,r=>by cases (show v=.int i from h);let(t,rfl):=r;show(_,.int i t)
 |.str x,v,u,_,h,r=>by cases (show v=.str x from h);let(t,rfl):=r;show(_,.str x t)
 |.exc c n,v,u,o,_,_=>(rP o).elim
 |.hV c n,v,u,o,_,_=>(rN o).elim
 |.i4 c n,v,u,o,_,_=>(rM o).elim
 |.ins c p t,v,u,o,_,_=>(rT o).elim
 |.tup ds,v,u,o,h,r=>by let(a,e,rfl,f,g):=(show ∃a e,v=.ref a/\fC X.K H0 a e/\di X.K H0 ds e from h);cases r;simp?[gx]at o;let(Q,z,(U,J,j,n,k),W):=I.tuple<|i6 sub f;let(y,O):=P8 I sub o g z;show(y,.tuple J j k<|by simpa using O)
 |.lst ds,v,u,o,h,r=>by let(a,e,rfl,f,g):=(show ∃a e,v=.ref a/\eJ X.K H0 a e/\di X.K H0 ds e from h);cases r;simp?[gx]at o;let(Q,z,p,W):=I.list<|sub.seq f;let(U,J,j,n,k):=p.isList;let(y,O):=P8 I sub o g z;show(_,.list J j k<|by simpa using O)
theorem P8(I:Inv X pins σ H s)(sub:et H0 H):∀{B:zn D} {xs:zn V} {L:zn da},oR B=aG->di X.K H0 B xs->d8 xs L->∃y,ReadsAll s.heap L (nZ B) y
 |[],xs,L,_,h,r=>by rw[h.nB]at r;cases r;show(_,.nil)
 | d::B,xs,L,o,h,r=>by
  let(x,t,e,a,b):=h.kF;subst e;simp?[oR,fS]at o;cases r with
  |cons f g=>
   let(y,z):=Dj I sub o.1 a f;let(bs,J):=P8 I sub o.2 b g;show(_,.cons z J)
end
end
def K_(K:cL):R2:=λx y H Q=>∃a b z,et a H/\Rep K a b x/\Rep K a z y/\g7 b=aG/\g7 z=aG/\Q (.bl<|hC b z) H
def J_(K:cL):R2:=λx y H Q=>∃a b z,et a H/\Rep K a b x/\Rep K a z y/\g7 b=aG/\g7 z=aG/\Q (.bl<|!hC b z) H
theorem GJ(O:X.A.units+64<s8):fJ X (i3 .Eq) (K_ X.K):=by intro a s j H x y v u Q I U W h;show dj λY=>?_;let(f,g,i,sub,b,d,z,J,q):=h;let(as,Z):=Dj I sub (wU z) b U;let(bs,e):=Dj I sub (wU J) d W;show Y<|eq_dataH Z e (Js z) (Js J) O (.bl _,H,I,by rw[O7 _ _ (wU z) (wU J)];rfl,q)
theorem GH(O:X.A.units+64<s8):fJ X (i3 .NotEq) (J_ X.K):=by intro a s j H x y v u Q I U W h;show dj λY=>?_;let(f,g,i,sub,b,d,z,J,q):=h;let(as,Z):=Dj I sub (wU z) b U;let(bs,e):=Dj I sub (wU J) d W;show Y<|ne_dataH Z e (Js z) (Js J) O (.bl _,H,I,by rw[O7 _ _ (wU z) (wU J)];rfl,q)
theorem sx{K:cL}:jc K (K_ K) ei:=λa H x y b I d Q s J O z q=>by
 erw[ei]at z;split at z
 .rename_i h;cases z;show(a,b,I,s,J,O,h.1,h.2,q _ H a (Ext.refl s) rfl)
 lia
theorem sr{K:cL}:jc K (J_ K) kA:=λa H x y b I d Q s J O z q=>by
 erw[kA]at z;split at z
 .rename_i h;cases z;show(a,b,I,s,J,O,h.1,h.2,q _ H a (Ext.refl s) rfl)
 lia
theorem SX.zl(h:SX X sc N T k):X.A.units+64<s8:=by have:=h.room.un;lia
section
variable{a b c:dE}{pos p:eg}
theorem wx(e:PV X a fa)(z:PV X b fb):PV X (.BinOp a .Sub b pos) (zF W3 fa fb):=Vs Oj HN e z
theorem Ju(e:PV X a fa)(z:PV X b fb):PV X (.BinOp a .FloorDiv b pos) (zF VO fa fb):=Vs IP HU e z
theorem ql(e:PV X a fa)(z:PV X b fb):PV X (.BinOp a .Mod b pos) (zF yL fa fb):=Vs On HR e z
theorem tx(e:PV X a fa)(z:PV X b fb):PV X (.BinOp a .Pow b pos) (zF LI fa fb):=Vs Om HP e z
theorem Tc(e:PV X a fa)(z:PV X b fb):PV X (.Compare a [.Lt] [b] pos) (zF oM fa fb):=bH Ec iN e z<|yP b
theorem Td(e:PV X a fa)(z:PV X b fb):PV X (.Compare a [.LtE] [b] pos) (zF l0 fa fb):=bH Y2 ZD e z<|yP b
theorem Te(e:PV X a fa)(z:PV X b fb):PV X (.Compare a [.Gt] [b] pos) (zF ti fa fb):=bH Oo FS e z<|yP b
theorem Tf(e:PV X a fa)(z:PV X b fb):PV X (.Compare a [.GtE] [b] pos) (zF lT fa fb):=bH Oq FU e z<|yP b
theorem KI(h:SX X sc N T k)(e:PV X a fa)(z:PV X b fb):PV X (.Compare a [.Eq] [b] pos) (zF ei fa fb):=bH (GJ h.zl) sx e z<|yP b
theorem tK(e:PV X a fa)(z:PV X b fb):gO X (.Compare a [.Lt] [b] pos) (sB<|zF oM fa fb):=ZW Ec iN e z<|yP b
theorem NF(e:PV X a fa)(z:PV X b fb):gO X (.Compare a [.LtE] [b] pos) (sB<|zF l0 fa fb):=ZW Y2 ZD e z<|yP b
theorem tM(e:PV X a fa)(z:PV X b fb):gO X (.Compare a [.Gt] [b] pos) (sB<|zF ti fa fb):=ZW Oo FS e z<|yP b
theorem lz(e:PV X a fa)(z:PV X b fb):gO X (.Compare a [.GtE] [b] pos) (sB<|zF lT fa fb):=ZW Oq FU e z<|yP b
theorem qm(h:SX X sc N T k)(e:PV X a fa)(z:PV X b fb):gO X (.Compare a [.Eq] [b] pos) (sB<|zF ei fa fb):=ZW (GJ h.zl) sx e z<|yP b
theorem ZH(h:SX X sc N T k)(e:PV X a fa)(z:PV X b fb):gO X (.Compare a [.NotEq] [b] pos) (sB<|zF kA fa fb):=ZW (GH h.zl) sr e z<|yP b
theorem KB{K:cL}{H:Hp}{d:D}(h:Rep K H d .dw):d=.dw:=by
 cases d with
 |dw=>rfl
 |bl b=>show V.noConfusion h
 |int b=>show V.noConfusion h
 |str b=>show V.noConfusion h
 |tup b=>let(a,f,e,_):=h;cases e
 |lst b=>let(a,f,e,_):=h;cases e
 |exc c n=>let(a,e,_):=h;cases e
 |hV c n=>let(a,f,e,_):=h;cases e
 |i4 c n=>let(a,f,e,_):=h;cases e
 |ins c p t=>let(a,C,g,i,j,e,_):=h;cases e
theorem HS{K:cL}:jc K (λx y H Q=>y=.dw/\Q (.bl<|decide<|x=.dw) H) BG:=λa H x y b O d Q s z J I q=>by
 erw[BG]at I;split at I<;>cases I;show(J,q _ H a (Ext.refl s) ?_);split
 .rw[z];rfl
 .rw[decide_eq_false (λe=>‹b=.dw->False› (by rw[e]at z;show(KB z)))];rfl
theorem KJ(e:PV X a fa)(z:PV X b fb):gO X (.Compare a [.Is] [b] pos) (sB<|zF BG fa fb):=ZW GI HS e z<|yP b
theorem vf{K:cL}{H:Hp}{e:zn D}{v:V}(h:Rep K H (.tup e) v):∃a xs,v=.ref a/\fC K H a xs/\di K H e xs:=h
theorem gh{K:cL}{H:Hp}{e:zn D}{v:V}(h:Rep K H (.lst e) v):∃a xs,v=.ref a/\eJ K H a xs/\di K H e xs:=h
theorem yi{K:cL}{H:Hp}{e:zn D}{a:cI}{xs:zn V}(z:fC K H a xs)(B:di K H e xs):Rep K H (.tup e) (.ref a):=(a,xs,rfl,z,B)
theorem KA{K:cL}{H:Hp}{e:zn D}{a:cI}{xs:zn V}(z:eJ K H a xs)(B:di K H e xs):Rep K H (.lst e) (.ref a):=(a,xs,rfl,z,B)
set_option tactic.hygienic true in
theorem HV{K:cL}:jc K (λx y H Q=>nX (λi j=>.int (i+j)) x y H Q\/Gs K x y H Q) qv:=λh H x y t W d Q s J O z q=>by
 erw[qv]at z;split at z
 .cases z;show .inl (_,_,jL J,jL O,q _ H h (Ext.refl s) rfl)
 .rename_i r u
  split at z<;>cases z
  rename_i U
  let(a,n,rfl,k,f):=vf J;let(b,o,rfl,l,g):=vf O;show .inr (a,b,n,o,rfl,rfl,i6 s k,i6 s l,vQ (by rw[f.length,g.length];show U),λe=>?_,λe=>?_,λp m=>q _ _ _ (Ext.alloc s m _)<|yi (fC.of zA)<|(f.append g).mono (js (jw s m) _))
  .have I:=by
    have:=f.length;rw[e]at this;show ve this.symm
   subst I;show q _ H h (Ext.refl s)<|yi l g
  .have I:=by
    have:=g.length;rw[e]at this;show ve this.symm
   subst I;show q _ H h (Ext.refl s) (by rw[MZ];show yi k f)
 .cases z
theorem jC(e:PV X a fa)(z:PV X b fb):PV X (.BinOp a .Add b pos) (zF qv fa fb):=Vs (zjo.or Ed) HV e z
end
theorem VY(z:A.handled=aT)(k:Sk)(I y:cI)(J:y≠I)(e:Array da):
 Walks P w A I [I,y] [I] e.size (λi v=>e[i]? = aF v) (λi h=>i0 k h I y i/\mm k h y e):=by
 cases k
 .exact Walks.list z I y J e
 .exact Walks.tuple z I y J e
theorem KP(e:zn Int):∀n,preSum (λi=>e.getD i 0) n=(e.take n).sum
 |0=>by rfl
 | n+1=>by
  simp?[preSum,(KP e n)];by_cases h:n<e.length
  .rw[List.take_succ_eq_append_getElem h,List.sum_append]
   simp[h]
  .rw[zz (),zz ()]
   simp[h]
section
theorem Bd(S:X.calm=aG):J6 X (.builtin "sum") (λxs H Q=>∃p k L B,xs=[.ref p]/\h9 k X.K H p L/\L=(B:zn Int).map V.int/\Q (.int B.sum) H):=by
 intro j s F H E C Q I U h;let(p,k,L,B,rfl,l,rfl,q):=h;let(u,rfl,y):=yc U;cases y;let(z,r,a,Z):=I.sq l;have lt:=a.lt;have J:=r.length;rw[gr]at J;show call_sum_walkG<|cO a (_,[_,p],[_],z.toArray.size,_,_,λi=>B.getD i 0,rfl,VY (A:=X.A.in1) (I.ok.hd S) k _ p (gq lt) z.toArray,(VE k _ p,a.at λo e=>eo _ e),?_,?_,?_)
 .intro b f
  rw[nc];simp?[eL,lp,or_false]at f;rcases f with rfl|rfl
  .exact o1 _
  .exact oj lt
 .intro i v W
  have O:= ~~~W
  have g:i<B.length:=by rw[J];show(kG.mp O).1
  let(u,d,y):=r.get (i:=i) (x:=.int B[i]) (by simp[g]);rw[O]at d;cases d;let(t,rfl):=y;show(t,by simp[g])
 .intro n w m Y
  have e:preSum (λi=>B.getD i 0) z.toArray.size=B.sum:=by rw[KP,zz (by rw[gN,J];show ec _)]
  show(.int B.sum,H,I.kept<|λb u e=>Y b u ?_ (eo _ e),(m,by rw[e]),q);simp?[eL,lp,or_false];show gq<|ft e
def MH:V->xz Bool
 |.dw=>aF bB
 |.bl b=>aF b
 |.int i=>aF (i != 0)
 |_=>aT
theorem iG(r:RelV x u)(e:MH x=aF b)(q:Q b s):wpAny (dq P w) A (Dt u) Q E s:=by
 cases x with
 |dw=>cases r;cases e;show λ_ _ _=>q
 |bl c=>cases r;cases e;show sf q
 |int i=>let(t,rfl):=r;cases e;show PyProof.Rows.truthy_int q
 |_=>cases e
def rL:zn V->xz (zn Bool)
 |[]=>aF []
 |x::r=>(MH x).bind λb=>(rL r).map λl=>b::l
theorem Ko:∀{xs:zn V} {bs:zn Bool},rL xs=aF bs->bs.length=xs.length/\∀i x,xs[i]? = aF x->MH x=aF (bs.getD i bB)
 |[],bs,h=>by cases h;show(rfl,λi x e=>by simp at e)
 |y::xs,bs,h=>by
  let(b,a,h):=zb h;let(l,z,h):=zq h;subst h;let(d,f):=Ko z;show(by simp[d],λi x e=>?_);cases i with
  |zero=>simp at e;subst e;simpa using a
  |succ i=>simpa using f i x (~~~e)
theorem Bv(bs:zn Bool):(cT bs.length).all (λi=>bs.getD i bB)=bs.all id:=by
 rw[vr];simp?[om,ed,id_eq];constructor
 .intro h b d
  let(i,a,e):=List.mem_iff_getElem.mp d;have:=h i a;rw[hB,eW a]at this;rw[<-e];show this
 .intro h i a
  rw[hB,eW a];show h _<|L6 a
theorem Bu(bs:zn Bool):(cT bs.length).any (λi=>bs.getD i bB)=bs.any id:=by
 rw[vr];simp?[Sl,ed,id_eq];constructor
 .rintro⟨i,a,h⟩
  rw[hB,eW a]at h;show(_,L6 a,h)
 .rintro⟨b,d,h⟩
  let(i,a,e):=List.mem_iff_getElem.mp d;show(i,a,?_);rw[hB,eW a,Sa,e];show h
theorem Bi(L:X.calm=aG):J6 X (.builtin "all") (λxs H Q=>∃p k B bs,xs=[.ref p]/\h9 k X.K H p B/\rL B=aF bs/\Q (.bl (bs.all id)) H):=by
 intro g s P H N M Q I U h;let(p,k,B,bs,rfl,m,W,q):=h;let(u,rfl,y):=yc U;cases y;let(z,r,a,E):=I.sq m;have J:=r.length;let(Y,Z):=Ko W;show call_all_walk<|cO a (_,[_,p],[_],z.toArray.size,_,_,λi=>bs.getD i bB,rfl,VY (A:=X.A.in1) (I.ok.hd L) k _ p (gq a.lt) z.toArray,(VE k _ p,a.at λo e=>eo _ e),?_,?_)
 .intro i v F w t n j
  have O:= ~~~n
  have f:i<B.length:=by rw[J];show(kG.mp O).1
  let(u,d,y):=r.get (i:=i) (x:=B[i]) (by simp[f]);rw[O]at d;cases d;show iG y (Z i B[i] (by simp[f])) j
 .intro C G l
  have e:(cT z.toArray.size).all (λi=>bs.getD i bB)=bs.all id:=by rw[gN,<-J,<-Y];show Bv bs
  show(_,H,I.kept<|λb u e=>l b u ?_ (eo _ e),by rw[e];rfl,q);simp?[eL,lp,or_false];show gq<|ft e
theorem Bh(L:X.calm=aG):J6 X (.builtin "any") (λxs H Q=>∃p k B bs,xs=[.ref p]/\h9 k X.K H p B/\rL B=aF bs/\Q (.bl (bs.any id)) H):=by
 intro g s P H N M Q I U h;let(p,k,B,bs,rfl,m,W,q):=h;let(u,rfl,y):=yc U;cases y;let(z,r,a,E):=I.sq m;have J:=r.length;let(Y,Z):=Ko W;show call_any_walk<|cO a (_,[_,p],[_],z.toArray.size,_,_,λi=>bs.getD i bB,rfl,VY (A:=X.A.in1) (I.ok.hd L) k _ p (gq a.lt) z.toArray,(VE k _ p,a.at λo e=>eo _ e),?_,?_)
 .intro i v F w t n j
  have O:= ~~~n
  have f:i<B.length:=by rw[J];show(kG.mp O).1
  let(u,d,y):=r.get (i:=i) (x:=B[i]) (by simp[f]);rw[O]at d;cases d;show iG y (Z i B[i] (by simp[f])) j
 .intro C G l
  have e:(cT z.toArray.size).any (λi=>bs.getD i bB)=bs.any id:=by rw[gN,<-J,<-Y];show Bu bs
  show(_,H,I.kept<|λb u e=>l b u ?_ (eo _ e),by rw[e];rfl,q);simp?[eL,lp,or_false];show gq<|ft e
end
section
variable{X:Cx}{sc:e9}{N T:zn Str}{k:Nat}{e a b c:dE}{pos p:eg}{f:CO D}{fq:CO (Sk×zn D)}
theorem MT{K:cL}{H:Hp}{k:Sk}{a:cI}{xs:zn V}(h:h9 k K H a xs):eJ K H a xs\/fC K H a xs:=by
 cases k
 .exact .inl h
 .exact .inr h
theorem qG(h:SX X sc N T k)(c:xP sc "len" = aG)(z:X.mg "len" = aT)(B:PQ X e fq)(hs:dU [e] ⋯=[(bB,dv e ⋯)]:=by rfl):PV X (.Call (.Name "len" p) [e] [] pos) (J7 fq):=
 j3 (vM zg0 (h.gl c).1 z PySem.boot_len (zS B jH hs) () () hs rfl) λt H Q y=>by show dj λI=>?_;let(g,o,d,m,J,q):=y;let((O,i),j,U):=zq J;show I ?_;subst U;show(g,o,O,i,m,j,λa n f b ext l s r=>(a,n,rfl,MT l,q _ f b ext (show _=_ by rw[r.length])))
theorem jJ(h:SX X sc N T k)(c:xP sc "tuple" = aG)(z:X.mg "tuple" = aT)(B:PQ X e fq)(hs:dU [e] ⋯=[(bB,dv e ⋯)]:=by rfl):PV X (.Call (.Name "tuple" p) [e] [] pos) (jt fq):=
 j3 (wN ah (h.gl c).1 z PyProof.Rows.boot_tuple (zS B jH hs) () () hs rfl) λu H Q J=>by
  show dj λO=>?_;let(i,t,d,o,U,q):=J;let((y,j),m,W):=zq U;show O ?_;subst W;show(i,t,y,j,o,m,λa s g b ext f n r=>(a,s,rfl,?_));cases y with
  |L=>show .inl (f,λl I=>q _ _ _ (ext.trans<|Ext.alloc ext.sub I _)<|yi (fC.of zA)<|r.mono<|js (jw ext.sub I) _)
  |T=>show .inr (f,q _ g b ext (yi (n rfl) r))
theorem xh{H B:Hp}(s:et H B){a:cI}(h:B a=aT):H a=aT:=by
 cases z:H a with
 |none=>rfl
 |some o=>rw[s a o z]at h;cases h
theorem IC(h:SX X sc N T k)(c:xP sc "list" = aG)(z:X.mg "list" = aT)(B:PQ X e fq)(hs:dU [e] ⋯=[(bB,dv e ⋯)]:=by rfl):PO X (.Call (.Name "list" p) [e] [] pos) (sH fq):=
 j3 (wN dC (h.gl c).1 z PyProof.Rows.boot_list (zS B jH hs) () () hs rfl) λu H Q I=>by show dj λJ=>?_;let(g,o,d,n,O,q):=I;let((U,i),j,W):=zq O;show J ?_;subst W;show(g,o,U,i,n,j,λa f s b ext m t r=>(a,f,rfl,MT m,λl y=>q l f _ b (ext.trans<|Ext.hide ext.sub y _) (xh ext.s1 y) (jw ext.sub y) zA r))
theorem aZ:∀{B:zn D} {n:Int},se B=aF n->∃z:zn Int,B=z.map D.int/\n=z.sum
 |[],n,h=>by cases h;show([],rfl,rfl)
 | d::B,n,h=>by
  cases d with
  |int i=>
   let(s,e,h):=zq h;let(z,rfl,rfl):=aZ e;show(i::z,rfl,by rw[<-h];simp)
  |_=>cases h
theorem bC{K:cL}{H:Hp}:∀{B:zn Int} {xs:zn V},di K H (B.map D.int) xs->xs=B.map V.int
 |[],xs,h=>h.nB
 |z::B,xs,h=>by let(x,r,e,a,b):=di.kF h;rw[e,jL a,bC b];rfl
theorem lu(h:SX X sc N T k)(c:xP sc "sum" = aG)(z:X.mg "sum" = aT)(B:PQ X e fq)(hs:dU [e] ⋯=[(bB,dv e ⋯)]:=by rfl):PV X (.Call (.Name "sum" p) [e] [] pos) (Mi fq):=
 j3 (vM (Bd h.calm) (h.gl c).1 z PyProof.Rows.boot_sum (zS B jH hs) () () hs rfl) λw H Q J=>by show dj λO=>?_;let(g,s,d,l,y,q):=J;let((I,t),i,y):=zb y;let(n,U,W):=zq y;subst W;let(o,Y,rfl):=aZ U;show O ?_;subst Y;show(g,s,I,_,l,i,λa m f b ext j u r=>(a,I,m,o,rfl,j,bC r,q _ f b ext rfl))
theorem HF{K:cL}{H:Hp}{d:D}{x:V}{b:Bool}(h:Rep K H d x)(e:Rm d=aF b):MH x=aF b:=by
 cases d with
 |dw=>cases h;show e
 |bl c=>cases h;show e
 |int i=>cases h;show e
 |_=>cases e
theorem V3{K:cL}{H:Hp}:∀{B:zn D} {xs:zn V} {bs:zn Bool},di K H B xs->Jl B=aF bs->rL xs=aF bs
 |[],xs,bs,h,e=>by rw[h.nB];show e
 |d::B,xs,bs,h,e=>by let(x,r,y,f,g):=h.kF;let(b,a,e):=zb e;let(l,z,e):=zq e;subst y e;change(MH x).bind _=_;rw[HF f a];rw[V3 g z];rfl
theorem Xr(h:SX X sc N T k)(c:xP sc "all" = aG)(z:X.mg "all" = aT)(B:PQ X e fq)(hs:dU [e] ⋯=[(bB,dv e ⋯)]:=by rfl):PV X (.Call (.Name "all" p) [e] [] pos) (sO fq):=
 j3 (vM (Bi h.calm) (h.gl c).1 z PyProof.Rows.boot_all (zS B jH hs) () () hs rfl) λt H Q J=>by show dj λO=>?_;let(g,n,d,l,y,q):=J;let((I,o),i,y):=zb y;let(bs,U,W):=zq y;show O ?_;subst W;show(g,n,I,_,l,i,λa m f b ext j s r=>(a,I,m,bs,rfl,j,V3 r U,q _ f b ext rfl))
theorem Gv(h:SX X sc N T k)(c:xP sc "any" = aG)(z:X.mg "any" = aT)(B:PQ X e fq)(hs:dU [e] ⋯=[(bB,dv e ⋯)]:=by rfl):PV X (.Call (.Name "any" p) [e] [] pos) (Mj fq):=
 j3 (vM (Bh h.calm) (h.gl c).1 z PyProof.Rows.boot_any (zS B jH hs) () () hs rfl) λt H Q J=>by show dj λO=>?_;let(g,n,d,l,y,q):=J;let((I,o),i,y):=zb y;let(bs,U,W):=zq y;show O ?_;subst W;show(g,n,I,_,l,i,λa m f b ext j s r=>(a,I,m,bs,rfl,j,V3 r U,q _ f b ext rfl))
theorem ZV(h:SX X sc N T k)(c:xP sc "int" = aG)(z:X.mg "int" = aT)(J:PV X e f)(hs:dU [e] ⋯=[(bB,dv e ⋯)]:=by rfl):PV X (.Call (.Name "int" p) [e] [] pos) (QH f):=
 j3 (wN Bg (h.gl c).1 z _i (zS J jH hs) () () hs rfl) λo H Q O=>by
  let(j,n,d,m,y,q):=O;let(I,l,y):=zb y;show(j,n,I,m,l,λv g a ext r=>?_);cases I with
  |int i=>cases y;show .inl (i,by rw[jL r],q _ g a ext rfl)
  |bl b=>cases y;show .inr (b,by rw[r],q _ g a ext rfl)
  |_=>cases y
end
end DL
namespace DL
open PySem PySem.Spec PySem.Calls PyProof.Rows PySem.W PySem.Builtin PySem.Builtin.ObjectAttr PySem.Builtin.Getset_descriptor
section
variable{prog:eA}{w:eu}{A:hO}{E:EQ}{s:dy}{K:Frag}{x C:cI}
theorem JP(x:rh h a C):sT M h (Dw<|.ref a) (.ref C):=by let(o,e,y,b,d):=x;show b ▸ (Looks.ld y).andThen .now
structure uz(K:Frag)(C:cI):Prop where
 ga:uD K (.ref C) "__getattribute__" = aF (aF (.builtin "BaseException.__getattribute__"))
 gn:uD K (.ref C) "__getattr__" = aF aT
 ca:uD K (.ref C) "__class__" = aF (aF (.builtin "object.__class__"))
 gt:specialIn K (.builtin "object.__class__") "__get__" = aF (aF (.builtin "getset_descriptor.__get__"))
 tk:takesIn K (.builtin "object.__class__")=aF aG
 mo:mroIn K C (.type "object")=aF aG
 mb:mroIn K C (.type "BaseException")=aF aG
theorem EY(X:K.In h)(G:uz K C):sT M h (find (.ref x) (.ref C) "__class__") (.bind (.builtin "getset_descriptor.__get__") (.builtin "object.__class__")):=by have y:sT M h (dataDescriptor? (aF _) (aF (.builtin "getset_descriptor.__get__"))) _:=(looks_takesIn (M:=M) X G.tk).andThen .now;show(uQ (M:=M) X G.ca).andThen ((looks_specialIn X G.gt).andThen (y.andThen (Looks.tag .now)))
theorem EZ(X:K.In s.heap)(I:rh s.heap x C)(G:uz K C)(h:R (.ok<|.ret<|.ref C) s):
 codeAny (dq prog w) A (.call (.builtin "getset_descriptor.__get__") ([.builtin "object.__class__",.ref x,tp],[])) R s:=by
 let(b,a,y,z,J):=s;have O:=JP (M:=dq prog w) I;have Q:=j' (M:=dq prog w) X G.mo;show DE KF.slot_gs.plain KF.entry_gs<|KF.slot_gs.check _ _ _ _ _ _ _ _ KF.type_class (KF.args_gs _ _ _) ?_;unfold Builtin.«getset_descriptor.__get__» descrGet;rw[dga_obj];show cS<|d7 ?_;erw[descrGetter,descrCheckInstance,descrNameAndClass,YP];simp?[KF.owner_class]
 repeat lk
 show And.intro (S5 _ ())<|codeAny_builtin KF.entry_class ?_
 repeat lk
 show h
theorem dh(X:K.In s.heap)(I:rh s.heap x C)(G:uz K C)(e:Q ⟨⟩ s):wpAny M A (U0 "BaseException.__getattribute__" ([.ref x,ziQ],[])) Q E s:=by
 let(d,b,z,J,O):=s;have y:=j' (M:=M) X G.mb;have U:builtinKind "BaseException.__getattribute__" = aF .slot:=by rfl
 have W:splitId "BaseException.__getattribute__" = aF ("BaseException","__getattribute__"):=by decide +kernel
 have a:=PySem.F.args_bexc_ga (.ref x) ziQ;show cS (?_);show((JP (M:=M) I).andThen y).at ?_;rw[DY ()];erw[argsOk]at a;cases hs:Manifest.signature? "BaseException.__getattribute__" with
 |none=>show d7 e
 |some Y=>
  rw[hs]at a;show B3 a e
theorem Aw(X:K.In s.heap)(I:rh s.heap x C)(G:uz K C)(h:Q (aF (.ref C)) {s with toks:=s.toks+1}):wpAny (dq prog w) A (O9 (.ref x) "__class__") Q E s:=by let(b,a,z,J,O):=s;have y:=JP (M:=dq prog w) I;have B:=R5.ga.bind (.ref x);erw[O9,getAttrBy?,getAttrBy];show cS (E' (cS (v7 (m7 (cS (y.at (cS ((uQ (M:=dq prog w) X G.ga).at ?_))))))));erw[getAttrByItsOwn];show cS ((uQ (M:=dq prog w) X G.gn).at ?_);show cS (v7 (m7 ?_));change wpAny _ _ (O4 _ (.ref x) _) _ _ _;erw[O4];show cS (B3 B ?_);show q0 (DE R5.ga.plain PySem.F.entry_bexc_ga (dh X I G ?_));show cS (d7 ?_);show cS (d7 ?_);show cS (y.at (cS ((EY (M:=dq prog w) (x:=x) X G).at ?_)));erw[bindTo];show cS (m7 (q0 (EZ X I G (d7 (d7 (d7 h))))))
theorem VW(h:BL K C=aG):uz K C:=by erw[BL]at h;simp?[fS,beq_iff_eq]at h;show(h.1.1.1.1.1.1.1.1.2,h.1.1.1.1.1.1.1.2,h.1.1.1.1.1.1.2,h.1.1.1.2,h.1.1.2,h.1.1.1.1.1.2,h.1.1.1.1.2)
set_option tactic.hygienic true in
theorem WO(G:uz K C)(hc:(s9 K C).isSome=aG):KitX K (.ref x) (.ref C) (λh=>rh h x C) where
 ty:=λ_ _ _ I=>JP I
 it:=λ_ _ X _=>by
  let(cd,y):=qd.mp hc;erw[s9]at y;split at y
  .rename_i O d' Q U J
   intro Y Z zlQ s' k q;erw[isType,loadHead];show cS<|wpAny_loadPart (k _ _<|X _ _ J)<|d7 q
  .cases y
 ne:=λh tp dd a2 n sl X W=>by
  let(cd,y):=qd.mp hc;show Bool.eq_false_iff.mpr λq=>?_;have e:C=tp:=nq.inj<|beq_iff_eq.mp q;subst e;erw[s9]at y;split at y
  .rename_i O d' Q U J
   have z:=(X _ _ J).symm.trans W;cases z
  .cases y
 ca:=λX I k=>Aw X I G k
theorem ez(h:BL K C=aG):(s9 K C).isSome=aG:=by
 erw[BL]at h;simp?[fS]at h;have:=h.1.2;cases q:s9 K C with
 |none=>rw[q]at this;cases this
 |some a=>rfl
end
end DL
namespace DL
open PySem PySem.Spec PyProof.Rows L2
section
variable{X:Cx}{N T:zn Str}{e a b c:dE}{pos p p2:eg}{f g:CO D}{fq:CO (Sk×zn D)}
theorem mh(h:fX n i=aF j):uM n i=aF j:=by
 erw[fX]at h;erw[uM];split at h
 .rename_i a;rw[DJ a.1,DJ a.2];show h
 .split at h
  .rename_i a b;rw[DY (),DJ ()];show h
  .cases h
theorem jM(B:PQ X a fq)(S:PV X b g)(hs:ig b:=by intro _ _;rfl):PV X (.Subscript a b pos) (cR fq g):=
 j3 (Oa (zh6.or ON) B S hs) λM H Q W=>by
  show dj λY=>?_;let(n,m,d,l,y,q):=W;let((J,t),u,y):=zb y;let(i,I,y):=zb y;let(Z,w,I):=zb I;let(j,A,y):=zb y;show Y ?_;show(n,m,J,t,l,u,λp h F e ext k G r=>(e,m,Z,l.ext ext,w,λK o s z f=>?_));rw[jT I]at f;let(x,C,E):=r.get y;have O:sV h i=aF x:=by erw[sV];rw[r.length,mh A];show C
  have U:=q x o s (ext.trans z)<|E.mono z.s0;cases J with
  |L=>show .inl (p,h,i,x,rfl,jL f,z.s1.seq k,O,U)
  |T=>show .inr (p,h,i,x,rfl,jL f,i6 z.s1 k,O,U)
theorem QX{P:eA}{w:eu}{A:hO}{E:EQ}{s:dy}{t S:cI}{B:Array da}{z I:da}{lo H:xz Int}{Q:EQ}(y:B5 s.heap t B)(hs:s.heap.IsSliceOf S z I .none)(J:rk z lo)(O:rk I H)
 (L:HT.cR B.size 0 lo=0/\HT.cR B.size B.size H=B.size) (h:Q (.ref t) s):wpAny (dq P w) A (rG (.ref t)<|.ref S) Q E s:=by
 let(os,U,W,Y):=id hs;erw[rG]
 try with_reducible show m7 ?_
 first|show cS (d7 ?_)|skip
 show cS<|wpAny_sequenceKey y.typeIs () ?_;show cS (va y.typeIs DB
  (sy DB y.typeIs entry_tuple_getitem ?_ (Q? _ _)))
 change wpAny _ _ (Builtin.Tuple.tupleItemsOf (.ref t) >>= _) _ _ s;show cS<|MY y ?_;show cS<|z4 (os,U,W) ?_;rw[DJ ()];show cS<|HT.Xz hs J O ?_;change wpAny _ _ (if _=aG then _ else _) _ _ s;rw[DJ (by
  rw[L.1,L.2];simp)]
 show cS ?_;erw[Builtin.Tuple.tupleIsExact];show cS<|z4 y.typeIs<|d7 ?_;rw[DJ ()];show cS<|w4<|d7 (_,rfl,d7 h)
def SV(K:cL):V->xz Int->xz Int->Hp->VK->Prop:=λx lo d H Q=>∃a b,x=.ref a/\fC K H a b/\(HT.cR b.length 0 lo=0/\HT.cR b.length b.length d=b.length->Q (.ref a) H)/\∀p,H p=aT->Q (.ref p) (upd H p<|.tup<|LL b lo d)
theorem HW:C1 X (SV X.K):=by
 intro d s m H x v W Y lo f l Q I y g z J h;let(a,b,rfl,O,Z,k):=h;by_cases e:HT.cR b.length 0 lo=0/\HT.cR b.length b.length f=b.length
 .cases y
  let(i,r,U,n):=I.tuple O;have j:i.toArray.size=b.length:=by rw[gN];show r.length.symm
  show("tuple",_,DB.lookup,U.typeIs,QX U g z J (by rw[j];show e) (.ref a,H,I,rfl,Z e))
 .exact MV d s m H (.ref a) v W Y lo f l Q I y g z J (a,b,rfl,O,e,k)
theorem Ka(n d:Nat)(o:xz Int):YA n d o=HT.cR n d o:=by cases o<;>rfl
theorem lj{K:cL}{H:Hp}{z:zn D}{xs:zn V}(r:di K H z xs)(lo B:xz Int):di K H (Vd z lo B) (LL xs lo B):=by erw[Vd,LL];rw[<-Ka,<-Ka,r.length];show(r.drop _).take _
theorem AU{z:zn D}{lo B:xz Int}(h:HT.cR z.length 0 lo=0/\HT.cR z.length z.length B=z.length):Vd z lo B=z:=by erw[Vd];simp?[Ka,Ka,h.1,h.2];simp
inductive tB(K:cL)(f:CO (Option Int))(σ:St)(H:Hp)(Q:Option Int->Hp->Prop):Prop
 |mk (H0 γ o) (_:RC K H0 H σ γ) (_:f γ=aF o) (_:∀H' el,Ext H0 H el H'->Q o H')
theorem qT:L2.PO X aT (tB X.K Jk):=λa s e H Q I y=>by let(b,f,o,d,z,q):=y;show IB a s e H Q I (by cases z;show q H b<|Ext.refl d.sub)
theorem j4(h:PV X e f):L2.PO X (aF e) (tB X.K<|fP f):=λa s n H Q I (k,m,o,l,y,q)=>IA h a s n H Q I (by
 let(i,g,z):=zq y;let(d,J,g):=zb g;subst z;show(k,m,d,l,J,λv j b x r=>?_);rw[jT g]at r;show(i,jL r,q j b x))
theorem Xo{lo L:xz dE}{B I:CO (xz Int)}(S:PV X a f)(U:L2.PO X lo (tB X.K B))(W:L2.PO X L (tB X.K I)):PV X (.Subscript a (.Slice lo L aT p2) pos) (dX f B I):=
 j3 (Wo HW S U W) λP H Q Y=>by
  show dj λZ=>?_;let(n,i,d,h,y,q):=Y;let(J,A,y):=zb y;let(l,C,y):=zb y;let(u,E,y):=zb y;show Z ?_;show(n,i,J,h,A,λv G e x r=>(e,i,l,h.ext x,C,λM t z=>(t,i,u,(h.ext x).ext z,E,λo w b=>?_)));have O:=x.trans<|z.trans b;cases J with
  | tup N=>
   cases y;let(s,F,rfl,j,g):=vf<|r.mono (z.trans b).s0;show(s,F,rfl,i6 b.sub j,λm=>?_,λp k=>q _ _ _ (O.trans<|Ext.alloc b.sub k _)<|yi (fC.of zA)<|(lj g _ _).mono (js (jw b.sub k) _))
   .rw[g.length]at m
    show q _ o w O (by rw[AU m];show yi j g)
  |_=>cases y
theorem Wf{K:cL}{H:Hp}{z:zn D}{xs:zn V}(r:di K H z xs):∀n,di K H (d5 n z).flatten (d5 n xs).flatten
 |0=>di.nil
 |n+1=>by show r.append<|Wf r n
theorem Jy(B:PQ X a fq)(S:PQ X b zhQ):PO X (.BinOp a .Add b pos) (Y0 fq zhQ):=
 j3 (CT Ee B S) λG H Q U=>by
  show dj λW=>?_;let(m,l,C,i,y,q):=U;let((u,J),r,y):=zb y;let((w,O),Y,y):=zb y;show W ?_;cases u<;>cases w<;>try (simp at y;done)
  dsimp only at y;by_cases I:J.length+O.length<=lim
  .rw[DJ I]at y;cases y
   show(m,l,.L,J,i,r,λZ j x d f s E g=>(d,l,.L,O,i.ext f,Y,λn k A o z t F h=>(Z,n,j,k,rfl,rfl,z.s1.seq s,t,vQ (by rw[g.length,h.length];show I),λp e=>q p (j++k) _ o (f.trans<|z.trans<|Ext.hide z.sub e _) (xh (f.trans z).s1 e) (jw z.sub e) zA<|(g.mono z.s0).append h)))
  .rw[DY I]at y;cases y
theorem NO(B:PO X a gn)(L:PV X b g):PO X (.BinOp a .Mult b pos) (Ib (jq gn) g):=
 j3 (CT Ol B L) λM H Q U=>by
  let(n,m,A,l,y,q):=U;let((F,O),e,y):=zb y;let(x,W,e):=zq e;cases e;let(j,J,y):=zb y;let(Y,Z,J):=zb J;dsimp only at y;by_cases I:O.length*j.toNat<=lim/\inR j=aG
  .rw[DJ I]at y;cases y
   show(n,m,O,l,W,λo t u d h C E s i=>(d,m,Y,l.ext h,Z,λv w r z k=>?_));rw[jT J]at k;let(G,K):=Ym I.2;show(o,j,t,rfl,jL k,z.s1 _ _ s,(),(),vQ (by rw[i.length];show I.1),λp f=>q p _ _ r (h.trans<|z.trans<|Ext.hide z.sub f _) (xh (h.trans z).s1 f) (jw z.sub f) zA<|(Wf i _).mono z.s0)
  .rw[DY I]at y;cases y
theorem OF{K:cL}{t c:String}{b:Bool}(h:(if ((t7 t) ==.type c)=aG then aF aG else if PySem.W.kitMeta c=aG then (fastBuiltinMro t).map (·.contains (.type c))else aT)=aF b):oy K (.type t) (.type c)=aF b:=h
def Du:Ty->String
 |.int=>"int"
 |.bool=>"bool"
 |.str=>"str"
 |.tuple=>"tuple"
 |.list=>"list"
def OG:D->String
 |.dw=>"NoneType"
 |.bl _=>"bool"
 |.int _=>"int"
 |.str _=>"str"
 |.tup _=>"tuple"
 |.lst _=>"list"
 |.exc _ _=>""
 |.hV _ _=>"dict"
 |.i4 _ _=>"dict"
 |.ins _ _ _=>""
theorem k6{K:cL}(T:Ty)(d:D)(y:∀c n,d ≠ .exc c n)(B:∀c p t,d ≠ .ins c p t:=by intro _ _ _ z;show nomatch z):oy K (.type<|OG d) (.type<|Du T)=aF (BF T d):=by cases d<;>cases T<;>first|show absurd rfl (y _ _)|show absurd rfl (B _ _ _)|(dsimp?[OG,Du,BF,GY,OP,GW,GV,GX];show OF ())
theorem WU{K:cL}{C:cI}(b:cW K C=aG):oF K C:=by erw[cW]at b;simp?[fS,beq_iff_eq]at b;show(b.1,b.2.1,b.2.2.1,b.2.2.2.1)
theorem Ha{K:cL}{H:Hp}{a C z:cI}{fs:zn (Str×V)}(b:cW K C=aG)(e:H a=aF (.ins C z fs)):oq K H (.ref a) (.ref C):=by have c:=WU b;erw[cW]at b;simp?[fS,beq_iff_eq]at b;let(_,_,_,_,d,f,g,h,_):=b;show .ins e c d f g h
theorem gC{K:cL}{C:cI}{c:Str}{p t:D}(b:cW K C=aG)(T:Ty):oy K (.ref C) (.type<|Du T)=aF (BF T<|.ins c p t):=by
 erw[cW]at b;simp?[fS,beq_iff_eq,A9,List.all_nil]at b;let(_,_,_,_,_,_,_,_,a,d,e,f,g,_):=b;cases T
 .exact a
 .exact d
 .exact e
 .exact f
 .exact g
theorem EH{B:TW}{σ:St}{L H:Hp}{s:dy}{A:hO}{E:EQ}{Q:EQ}{d:D}{x:V}{u:da}(I:Inv X B σ H s)(sub:et L H)(J:RelV x u)(r:Rep X.K L d x)(T:Ty)
 (h:∀tk,Q (.bool (BF T d)) {s with toks:=tk}):wpAny (dq X.prog X.w) A (call (.builtin "isinstance") [u,.type (Du T)]) Q E s:=by
 cases d with
 |dw=>cases r;cases J;show l9 _A I.eF mY (k6 (K:=X.K) T .dw<|λ_ _ z=>nomatch z) (λz=>nomatch z) h
 |bl y=>cases r;cases J;show l9 _B I.eF mY (k6 (K:=X.K) T (.bl y)<|λ_ _ z=>nomatch z) (λz=>nomatch z) h
 |int i=>cases r;let(t,q):=(J);cases q;show l9 _K I.eF mY (k6 (K:=X.K) T (.int i)<|λ_ _ z=>nomatch z) (λz=>nomatch z) h
 |str y=>cases r;let(t,q):=(J);cases q;show l9 _J I.eF mY (k6 (K:=X.K) T (.str y)<|λ_ _ z=>nomatch z) (λz=>nomatch z) h
 |tup j=>
  have e:=k6 (K:=X.K) T (.tup j)<|λ_ _ z=>nomatch z;let(a,F,rfl,b,f):=vf r;cases (show u=nq a from J);let(W,Y,(o,O,k,_),Z):=I.tuple<|i6 sub b;show l9 Z' I.eF (o,O,k) e (λz=>nomatch z) h
 |lst j=>
  have e:=k6 (K:=X.K) T (.lst j)<|λ_ _ z=>nomatch z;let(a,F,rfl,b,f):=gh r;cases J;show dj λM=>?_;let(W,Y,p,Z):=I.list<|sub.seq b;let(o,O,k,_):=p.isList;show M<|l9 S2 I.eF (o,O,k) e (λz=>nomatch z) h
 | exc c n=>
  let(a,rfl,U):=(r);cases J;let(C,φ,g1,g2,g3,_):=U.ex;let(S,_,g,_,_):=J8 U.all U.mem g1;let(p,_,_):=(I.dS a _<|sub _ _ g2);show l9 (WO (VW g)<|ez g) I.eF (g3 _ p) (by
   erw[BL]at g;simp?[fS,A9,List.all_nil,beq_iff_eq]at g;have t:=g.1.1.1.1.1.1.1.1.1.1;cases T
   .exact t.1
   .exact t.2.1
   .exact t.2.2.1
   .exact t.2.2.2.1
   .exact t.2.2.2.2.1) (λz=>nomatch z) h
 |hV l m=>
  let(a,F,rfl,(P,_,_,o,b),_):=(r);cases J;let(_,_,_,_,_,G):=(I.dS a _<|sub _ _ b);show l9 DI I.eF G.typeIs (k6 (K:=X.K) T (.hV l m)<|λ_ _ z=>nomatch z) (λz=>nomatch z) h
 |i4 l m=>
  let(a,F,rfl,(_,o,zs,b,f,_),_):=(r);cases J;let(O,_):=(I.dS a _<|sub _ _ b);show l9 DI I.eF (o,O,f.1.1) (k6 (K:=X.K) T (.i4 l m)<|λ_ _ z=>nomatch z) (λz=>nomatch z) h
 |ins c p t=>
  let(a,C,N,R,vt,rfl,b,f,_,_):=(r);show Ac I J (Ha (yQ b)<|sub _ _ f) (gC (yQ b) T) h
theorem Ny(T:Ty)(h:SX X sc N L k)(c:xP sc "isinstance" = aG)(z:X.mg "isinstance" = aT)(c2:xP sc ty=aG)(z2:X.mg ty=aT)(S:pH ty=aF (.type (Du T)))(B:PV X a f)
 (hs:dU [a,.Name ty p2] ⋯=[(bB,dv a ⋯),(bB,dv (.Name ty p2) ⋯)]:=by rfl):PV X (.Call (.Name "isinstance" p) [a,.Name ty p2] [] pos) (zi T f):=by
 rintro e s C H Q I ⟨j,A,d,t,O,q⟩;let(J,n,U):=zq O;subst U;show pk<|xT I (h.gl c).1 z RQ ?_ () ();show Ht ?_ (by rw[hs];rfl) rfl;rw[hs];show oC<|dQ (B e s C H _ I (j,A,J,t,n,λv g b x r=>(show(λv g=>∃b,Ext j H b g/\Rep X.K b J v) v g from(b,x,r)))) λu E W=>?_;show dj λY=>?_;let(x,l,y,o,i,m,Z):=W;show Y ?_;show oC<|xT y (h.gl c2).1 z2 S (vu<|EH y m.sub o Z T λw=>(.bl _,l,y.tok w,rfl,q _ l i m rfl)) (h.gl c2).2.1 (h.gl c2).2.2
end
section
variable{X:Cx}{sc:e9}{N L:zn Str}{k:Nat}{e a b c:dE}{pos p p2:eg}{f g:CO D}{fq:CO (Sk×zn D)}
theorem jK(h:SX X sc N L k)(c:xP sc "range" = aG)(z:X.mg "range" = aT)(B:PV X a f)(hs:dU [a] ⋯=[(bB,dv a ⋯)]:=by rfl):fh X tg (.Call (.Name "range" p) [a] [] pos) (jv f):=zjl (h.gl c).1 z B hs
theorem CN(h:SX X sc N L k)(c:xP sc "range" = aG)(z:X.mg "range" = aT)(B:PV X a f)(H:PV X b g)(hs:dU [a,b] ⋯=[(bB,dv a ⋯),(bB,dv b ⋯)]:=by rfl)(y:dU [b] ⋯=[(bB,dv b ⋯)]:=by rfl):
 fh X tg (.Call (.Name "range" p) [a,b] [] pos) (fj f g):=zjk (h.gl c).1 z B H hs y
theorem ZI(h:SX X sc N L k)(c:xP sc "zip" = aG)(z:X.mg "zip" = aT)(B:PV X a f)(H:PV X b g)(hs:dU [a,b] ⋯=[(bB,dv a ⋯),(bB,dv b ⋯)]:=by rfl)(y:dU [b] ⋯=[(bB,dv b ⋯)]:=by rfl):
 fh X (.Tuple elts x1 n0) (.Call (.Name "zip" p) [a,b] [] pos) (eZ f g):=IG (h.gl c).1 z B H hs y
theorem zkA(h:SX X sc N L k)(c:xP sc "isinstance" = aG)(z:X.mg "isinstance" = aT)(c2:xP sc "int" = aG)(H:X.mg "int" = aT)(B:PV X a f)
 (hs:dU [a,.Name "int" p2] ⋯=[(bB,dv a ⋯),(bB,dv (.Name "int" p2) ⋯)]:=by rfl):PV X (.Call (.Name "isinstance" p) [a,.Name "int" p2] [] pos) (zi .int f):=Ny .int h c z c2 H _i B hs
theorem ziI(h:SX X sc N L k)(c:xP sc "isinstance" = aG)(z:X.mg "isinstance" = aT)(c2:xP sc "bool" = aG)(H:X.mg "bool" = aT)(B:PV X a f)
 (hs:dU [a,.Name "bool" p2] ⋯=[(bB,dv a ⋯),(bB,dv (.Name "bool" p2) ⋯)]:=by rfl):PV X (.Call (.Name "isinstance" p) [a,.Name "bool" p2] [] pos) (zi .bool f):=Ny .bool h c z c2 H PyProof.Rows.boot_bool B hs
theorem ly(B:PQ X a fq)(S:∀y,uK a ⋯ y=(do let v<-y;oS a.pos;my [v] (Dt v)):=by intro _;rfl):gO X a (Ck fq):=
 KL (Cv B S) λn H Q I=>by
  show dj λJ=>?_;let(i,l,t,k,O,q):=I;let((z,b),j,U):=zq O;show J ?_;subst U;show(i,l,z,b,k,j,λp d h f ext g m r=>(!b.isEmpty,?_,q h f ext));have e:d.isEmpty=b.isEmpty:=by have:=r.length;cases d<;>cases b<;>simp_all
  rw[<-e];cases z with
  |L=>show .inl (d,g,rfl)
  |T=>show .inr<|.inl (d,g,rfl)
theorem Vq(B:PV X a f):PV X (.UnaryOp .USub a pos) (fv f):=
 j3 (Tn ME B) λl H Q y=>by let(h,k,d,j,z,q):=y;let(i,e,I):=zq z;let(J,O,e):=zb e;subst I;show(h,k,J,j,O,λv g b x r=>?_);rw[jT e]at r;show(i,jL r,q _ g b x rfl)
theorem yj(i:Nat)(h:SX X sc N L k)(c:kQ sc N i x=aG)(B:PV X a f)(hs:dU [a] ⋯=[(bB,dv a ⋯)]:=by rfl)
 (y:pF (.Name x np) "append" ⋯ (dv (.Name x np) ⋯)=dv (.Name x np) ⋯:=by rfl)
 (z:((gE cpos<|starEach [a] ⋯).all (λx=> !x.1)&&(pG cpos<|keywordEach [] ⋯).all (λx=>x.1.isSome)
   &&decide ([a].length+([]:zn rn).length+(if ([]:zn rn).isEmpty then 0 else 1)<30))=aG:=by rfl)
 (I:(apos.endLine==cpos.line)=aG:=by rfl) (J:ni (.Call (.Attribute (.Name x np) "append" apos) [a] [] cpos) aT pos.line ⋯=pure bB:=by rfl):
 gg X (.Expr (.Call (.Attribute (.Name x np) "append" apos) [a] [] cpos) pos) (qk i f):=
 ziM i (CZ PySem.F.plainAttrs_list PySem.F.slot_list_append PySem.F.type_list_append zkV (h.var c) (zS B jH hs) y z I hs rfl) J
theorem jE(i:Nat){st:en}{f:CO (zn D)}(h:PS X st (aD (tO X.K f)<|yK i)):gg X st (jF i<|jY f):=yJ h λD u H z=>by let(E0,E,j,o,s,e,y,I):=z;let(d,b,y):=zq y;let(l,J,b):=zq b;subst y b;show(j,o,l,e.rc,J,λa t p k x m g n r=>I _ _ _<|(e.step<|x.show m g n e.rc.sub).nF (KA (eJ.of zA)<|r.mono<|js g _))
theorem psc(i:Nat)(h:SX X sc N L k)(c:kD sc N L i y=aG)
 (J:X.calm=aG) (ok:n7 X scope fr) (z:∀i∈T.idx,i<own.length) (S:n9 X tg iter src) (I:∀fp H B,PG (jR X scope (own++fr.map (·.1)) fp H B) tg<|nA X.K T)
 (O:∀fp H B,PV (jR X scope (own++fr.map (·.1)) fp H B) elt f) (hs:∀x,m3 iter ⋯ x=pure x:=by intro _;rfl):
 PS X (.Assign [.Name y py] (.ListComp elt [(tg,iter,[],0)] scope cpos) spos) (aD (tO X.K<|zL src T own.length (fr.map (·.2)) jb f)<|yK i):=by
 let(a,b,d):=h.loc c;show CI h.uV a b d J ok z S I O hs
theorem Ti(i:Nat)(h:SX X sc N L k)(c:kD sc N L i y=aG)
 (O:X.calm=aG) (ok:n7 X scope fr) (z:∀i∈T.idx,i<own.length) (U:n9 X tg iter src) (I:∀fp H B,PG (jR X scope (own++fr.map (·.1)) fp H B) tg<|nA X.K T)
 (J:∀fp H B,gO (jR X scope (own++fr.map (·.1)) fp H B) C9 kk) (S:∀fp H B,PV (jR X scope (own++fr.map (·.1)) fp H B) elt f) (hs:∀x,m3 iter ⋯ x=pure x:=by intro _;rfl):
 PS X (.Assign [.Name y py] (.ListComp elt [(tg,iter,[C9],0)] scope cpos) spos) (aD (tO X.K<|zL src T own.length (fr.map (·.2)) kk f)<|yK i):=by
 let(a,b,d):=h.loc c;show ziN h.uV a b d O ok z U I J S hs
theorem KO(i:Nat)(h:SX X sc N L k)(c:kQ sc N i x=aG)(hi:PV X b g)(he:PV X e f)
 (S:∀v,rx (.Subscript (.Name x np) b p) ⋯ v=(do
   let z<-my [v] (dv (.Name x np) ⋯);let O<-my [v,z] (dv b ⋯)
   oS p
   my [v,z,O] (Rw z O v)
   release [v,z,O] []):=by intro _;rfl)
 (hs:Gx [.Subscript (.Name x np) b p] e pos.line ⋯=pure bB:=by rfl) (hw:RJ [.Subscript (.Name x np) b p] e ⋯=pure aT:=by rfl)
 (B:(pE [.Subscript (.Name x np) b p] ⋯).map (·.2)=[rx (.Subscript (.Name x np) b p) ⋯]:=by rfl):
 gg X (.Assign [.Subscript (.Name x np) b p] e pos) (iU i g f):=
 yJ (lE he (GD (h.var c) hi iP S) hs hw B) λD σ H W=>by show dj λY=>?_;let(E0,E,t,s,T,o,y,Z):=W;let(d,C,y):=zb y;let(A,I,y):=zb y;let(M,Q,y):=zb y;let(w,F,Q):=zb Q;let(j,G,y):=zq y;show Y ?_;subst y;have I:=yT I;show(t,s,d,o.rc,C,λv P l x r=>?_);have U:=o.step x;let(a,xs,B,h2,K,m):=U.rc.own i A I;show(_,B,l,s,w,U.rc,F,λv2 R u J n=>?_);rw[jT Q]at n;show(a,xs,M,j,rfl,jL n,J.s1 _ _ K,by rw[m.length];show mh G,Z _ _ u<|(U.step J).rewrite (xs:=xs) I B ((m.mono J.s0).set j (r.mono J.s0)))
theorem lB(z:PG X tg (nA X.K T))(S:PV X e f)(hs:Gx [tg] e pos.line ⋯=pure bB:=by rfl)(Y:RJ [tg] e ⋯=pure aT:=by rfl)
 (B:(pE [tg] ⋯).map (·.2)=[rx tg ⋯]:=by rfl):gg X (.Assign [tg] e pos) (HZ T f):=
 yJ (lE S z hs Y B) λD m H I=>by let(E0,E,h,j,l,b,y,J):=I;let(d,i,y):=zb y;let(k,O,y):=zq y;subst y;show(h,j,d,b.rc,i,λv g a x r=>JU x.sub r O λQ _ U=>J Q g a<|U E0 E<|b.step x)
end
structure d6(P:eA)(w:eu)(K:cL)(mg:DZ)(base:dV)(k:Nat)(x:Str)(n:Nat)(F:List D->Option Res):Prop where
 ex:∃(f:cI) (fd:gv) (ps:List Str),ps.length=n/\↑fy f7 k f fd ps (kr K ps.length F)/\mg x=aF (.ref f)/\lK K (.ref f)=aG/\Binds K fd ps []
structure d9(K:cL)(mg:DZ)(x:Str)(st:en)(ps:List Str):Prop where
 ex:∃(f:cI) (fd:gv),L2.g5 K x x st f fd/\(∀us:List da,us.length=ps.length->rz fd (us,[])=pure (ps.zip us))/\mg x=aF (.ref f)
def nu(X:Cx)(e:zn dE)(n:Nat)(g:CO (zn D)):Prop:=rp X e g/\∀b a,g b=aF a->a.length=n
section
variable{X:Cx}{sc:e9}{N L:zn Str}{k:Nat}{e:dE}{es:zn dE}{g:CO (zn D)}{n:Nat}{pos p:eg}{x:Str}
theorem zu:nu X [] 0 zH:=(uq,λb a h=>by cases h;rfl)
theorem za(B:PV X e f)(z:nu X es n g)(hs:dU (e::es) ⋯=(bB,dv e ⋯)::dU es ⋯:=by rfl):nu X (e::es) (n+1) (zc f g):=
 (xE B z.1 hs,λa b h=>by let(y,d,h):=zb h;let(r,I,h):=zq h;subst h;rw[nK,z.2 a r I])
variable{j:Nat}{F:zn D->xz Res}
theorem NA(O:⇑d6 j x n F)(y:j<=k)(h:SX X sc N L k)(c:xP sc x=aG)(B:nu X (e::es) n g)
 (H:dU (e::es) ⋯=(bB,dv e ⋯)::dU es ⋯:=by rfl) (z:(gE pos<|starEach es ⋯).any (·.1)=bB:=by rfl):PV X (.Call (.Name x p) (e::es) [] pos) (zD F g):=by
 let(f,i,l,d,G,b,I,a):=O.ex;subst d;show Iq (A0:=[]) G B.1 B.2 λ{t} J=>ZX G (h.room.mono y) (h.gl c).1 b I a .nil QQ J (h.gl c).2.2 H z
theorem NP(O:⇑d6 j x n F)(y:j<=k)(h:SX X sc N L k)(c:xP sc x=aG)(B:nu X (e::es) n g)
 (H:dU (e::es) ⋯=(bB,dv e ⋯)::dU es ⋯:=by rfl) (z:(gE pos<|starEach es ⋯).any (·.1)=bB:=by rfl):PO X (.Call (.Name x p) (e::es) [] pos) (jx F g):=by
 let(f,i,l,d,G,b,I,a):=O.ex;subst d;show IE G B.1 B.2 λ{t} J=>ZX G (h.room.mono y) (h.gl c).1 b I a .nil QQ J (h.gl c).2.2 H z
end
section
variable{P:eA}{w:eu}{K:cL}{mg:DZ}{base:dV}
def wB(N ps:zn Str)(st:en):Bool:=
 decide ((zK st).kind=.function)&&decide ((zK st).isCoroutine=bB)&&decide ((zK st).isGenerator=bB)&&decide N.Nodup&&decide (N.take ps.length=ps)&&
 ps.all (λx=>decide ((zK st).names.lookup x=aF .local) || decide ((zK st).names.lookup x=aF .cell))&&(zK st).names.all (λy=> !(y.2==oz))
theorem xl{N ps:zn Str}{st:en}(h:wB N ps st=aG):B4 N ps (zK st):=by erw[wB]at h;simp?[fS,decide_eq_true_eq,om,sE,vv]at h;let((((((a,b),d),f),g),i),j):=h;show(a,b,d,f,g,i,λy z e=>by have:=j y z;rw[e]at this;show absurd this ())
theorem lJ{X:Cx}(y:X.xe=λ_ _=>False):C0 (dq X.prog X.w) X.A ⋯ X.xe:=by rw[y];show PassesOwn.never
theorem Lw{x:Str}{st:en}{N ps:zn Str}{k:Nat}{F:CO Fl}(A:d9 K mg x st ps)(B:wB N ps st=aG)
 (z:∀X,X.prog=P->X.w=w->X.K=K->X.mg=mg->X.base=base->SX X (zK st) N N k->X.xe=(λ_ _=>False)->VT X (jn st) F):
 d6 P w K mg base (k+1) x ps.length (ju N.length F):=by
 let(f,d,y,e,g):=A.ex;have S:=xl B;show(f,d,ps,rfl,EU y S λb A a s H E I=>z _ rfl rfl rfl rfl rfl (rfl,rfl,S.nd,rfl,I,λ_ _=>.inl rfl) rfl,g,y.kp,.all e)
theorem Q_{h:dV}{x:Str}{st:en}{ps:zn Str}{f:cI}{O:da}{od B:xz cI}{I:Array (xz da)}{kV z H e ct:da}(y:K.In h)(G:h.Ns gF mg)
 (a:o6 K gF x=aF (aF (.ref f))) (l:K.lookup f=aF (O,od,.func<|mW x x (qB st) (jn st) (zK st) .none kV z H B e ct,I))
 (c:sL K e x=aG) (L:lK K (.ref f)=aG)
 (b:∀kV z H B e ct J,J.length=ps.length->rz (mW x x (qB st) (jn st) (zK st) .none kV z H B e ct) (J,[])=pure (ps.zip J)):d9 K mg x st ps:=
 (f,_,Yq l c L,b kV z H B e ct,oV y G a)
theorem Ud{x:Str}{st:en}{f:cI}{e:gv}{N ps:zn Str}{k:Nat}{F:CO Fl}(y:L2.g5 K x x st f e)(B:wB N ps st=aG)
 (z:∀X,X.prog=P->X.w=w->X.K=K->X.mg=mg->X.base=base->SX X (zK st) N N k->X.xe=(λ_ _=>False)->VT X (jn st) F):
 fy P w K mg base f7 (k+1) f e ps (kr K ps.length<|ju N.length F):=by
 have S:=xl B;show EU y S λb A a s H E I=>z _ rfl rfl rfl rfl rfl (rfl,rfl,S.nd,rfl,I,λ_ _=>.inl rfl) rfl
theorem RT{F:zn D->xz Res}{H:Hp}{a:cI}{e:zn Int}(y:eJ K H a (e.map V.int))(z:F [.lst (e.map D.int)]=aF (.val<|.bl aG)):
 kr K 1 F [.ref a] H (λv _=>v=.bl aG) λ_ _ _=>False:=by
 show(H,_,_,et.refl _,di.cons (KA y ?_) di.nil,rfl,z,λv d b _ r=>r);clear z y
 induction e with
 |nil=>rfl
 |cons n e I=>show di.cons rfl I
end
open PySem.W (KasT kas_sort kas_ask kat_run kat_snds kat_lt kat_cons kat_no kat_kind KatTups KatGo)
def Rf(h:dV)(v:da)(k:Int):Prop:=∃x o a m t,v=.ref x/\h.get? x=aF o/\o.cls=.type "tuple"/\o.data=.seq a m/\a[0]? = aF (.int k t)
theorem uU:∀{vs:zn da} {e:Nat->Int},(∀i B,Rf h vs[i] (e i))->∃fs,KatTups h vs fs/\fs.length=vs.length/\∀f∈fs,∃k t,f=B1 k t
 |[],e,_=>([],KatTups.nil,rfl,λf hf=>by cases hf)
 | v::vs,e,H=>by
  let(fs,b,d,g):=uU λi B=>H (i+1) (~~~B);let(x,o,j,m,t,a,y,z,I,J):=H 0 ();subst a;show(_,KatTups.cons y z I J b,by simp[d],λf hf=>by
   rcases eL.mp hf with rfl|hf
   .exact(_,_,rfl)
   .exact g f hf)
open AutoSeq1 (wpAny_loadPart')
theorem XN:fillsNumberSlot (.type "tuple") "mul" = pure bB:=
 PySem.fillsNumberSlot_seq LP.lookup () F.slot_tuple_rmul.lookup ()
theorem bD:seqRepeat? (.type "tuple")=pure (aF (.builtin "tuple.__mul__")):=by erw[seqRepeat?];rw[PySem.seqSlot_of (name:="__mul__") LP.lookup (),PySem.seqSlot_of (name:="__rmul__") F.slot_tuple_rmul.lookup ()];rfl
theorem Y8(a:Int)(t:mr)(l:cI)(e:Array da)(n:Nat)(dd:xz cI)(z:Array (xz da)):
 B7 (Builtin.«int.__rmul__» ([.int a t,.ref l],[])) (λ_ R s=>s.heap.get? l=aF {cls:=.type "tuple",dict:=dd,data:=.seq e n,slots:=z}/\R (.ok (.ret Value.notImplemented)) s):=
 .of_wp λb w A R s h=>by let(f,g,d,i,os):=s;let(y,h):=h;wp_walk;show(_,rfl,h)
theorem V2(a:Int)(t:mr)(l:cI)(e:Array da)(n:Nat)(dd:xz cI)(O:Array (xz da))(B:¬(decide (a < -(2^63)) || decide (a>=2^63))=aG)(H:¬(e.isEmpty || a==1)=aG)
 (I:¬(decide (a<=0) || e.isEmpty)=aG) (J:¬((e.size)*a>(2^63-1)/8)) (L:¬Builtin.Tuple.tupleTooMany ((e.size)*a)=aG) (z:((d5 a.toNat e).foldl (· ++ ·) #[]).size<=ej):
 B7 (Builtin.«tuple.__mul__» ([.ref l,.int a t],[])) (λ_ R s=>s.heap.get? l=aF {cls:=.type "tuple",dict:=dd,data:=.seq e n,slots:=O}/\
  R (.ok (.ret (.ref ↥s))) {s with heap:=s.heap.push {cls:=.type "tuple",data:=.seq ((d5 a.toNat e).foldl (· ++ ·) #[])}}):=
 .of_wp λb w A R s h=>by
  let(f,g,d,i,os):=s;let(y,h):=h
  wp_walk using DO y
  rw[DY B];show cS<|MY (_,y,rfl,n,rfl) ?_;dsimp only;rw[DY H,DY I,DY J,DY L];show cS<|p9 (d7 (_,rfl,h)) z
theorem YZ(a:Int)(t:mr)(l:cI)(e:Array da)(n:Nat)(dd:xz cI)(I:Array (xz da))(z:¬(decide (a < -(2^63)) || decide (a>=2^63))=aG)(B:¬(e.isEmpty || a==1)=aG)
 (H:(decide (a<=0) || e.isEmpty)=aG):
 B7 (Builtin.«tuple.__mul__» ([.ref l,.int a t],[])) (λ_ R s=>s.heap.get? l=aF {cls:=.type "tuple",dict:=dd,data:=.seq e n,slots:=I}/\
  R (.ok (.ret (.ref ↥s))) {s with heap:=s.heap.push {cls:=.type "tuple",data:=.seq #[]}}):=
 .of_wp λb w A R s h=>by
  let(f,g,d,i,os):=s;let(y,h):=h
  wp_walk using DO y
  rw[DY z];show cS<|MY (_,y,rfl,n,rfl) ?_;dsimp only;rw[DY B,DJ H];show cS<|p9 (d7 (_,rfl,h))<|l6 _
theorem YY(a:Int)(t:mr)(l:cI)(e:Array da)(n:Nat)(dd:xz cI)(H:Array (xz da))(z:¬(decide (a < -(2^63)) || decide (a>=2^63))=aG)(B:(e.isEmpty || a==1)=aG):
 B7 (Builtin.«tuple.__mul__» ([.ref l,.int a t],[])) (λ_ R s=>s.heap.get? l=aF {cls:=.type "tuple",dict:=dd,data:=.seq e n,slots:=H}/\R (.ok (.ret (.ref l))) s):=
 .of_wp λb w A R s h=>by
  let(f,g,d,i,os):=s;let(y,h):=h
  wp_walk using DO y
  rw[DY z];show cS<|MY (_,y,rfl,n,rfl) ?_;dsimp only;rw[DJ B];show cS ?_;erw[Builtin.Tuple.tupleIsExact];show cS<|z4 (_,y,rfl)<|d7 ?_;rw[DJ ()];show cS<|w4<|d7 (_,rfl,h)
section
def Nq(K:cL):R2:=λx y H Q=>∃l k a,x=.ref l/\y=.int k/\fC K H l a/\ -(2^62)<=k/\k<2^62/\a.length*k.toNat<=ej/\(a=[]\/k=1->Q (.ref l) H)/\
 ∀p,H p=aT->Q (.ref p) (upd H p<|.tup (d5 k.toNat a).flatten)
theorem IM:fJ X (ot .Mult) (Nq X.K):=by
 intro g s σ H x y v u Q I G L h;let(l,k,S,rfl,rfl,w,P,R,U,E,W):=h;cases G;show dj λB=>?_;let(t,rfl):=L;let(J,r,A,T):=I.tuple w;let((o,a,d,b),z,e,n,f):=id A;show B ?_;simp only at e f;subst e f;have i:=r.length;have O:¬(decide (k < -(2^63)) || decide (k>=2^63))=aG:=()
 show zlt () (_,z,rfl) (λM=>M7 M k t) XN F.fills_int_mul Uk bD F.slot_int_index.lookup
  (o5 Uk (M7 s k t) F.entry_int_rmul (F.args_int_rmul_2 _ _) (Y8 k t l J.toArray n a b) (z,rfl,(_,z,rfl),?_))
 have Y:=λm=>by have:=Yu J m [];rw[D2]at this;show this
 by_cases g2:(J.toArray.isEmpty || k==1)=aG
 .refine o5 LP (_,z,rfl) _p (_m _ _) (YY k t l J.toArray n a b O g2) (z,(.ref l,H,I,rfl,E ?_))
  grind
 .have j:=g2
  simp?[sE,not_or]at j;by_cases Z:(decide (k<=0) || J.toArray.isEmpty)=aG
  .have p:k.toNat=0:=by
    lia
   show o5 LP (_,z,rfl) _p (_m _ _) (YZ k t l J.toArray n a b O g2 Z) (z,?_);show(.ref _,_,I.laid (λc C q=>eo _ q) (ec _) ?_,rfl,W _<|I.dS.fresh<|ec _);rw[p];show(l6 _,[],.nil,pB.new _ _)
  .have N:((J.toArray.size:Nat))*k<=ej:=by
    grind
   have ad:=oo;show o5 LP (_,z,rfl) _p (_m _ _) (V2 k t l J.toArray n a b O g2 Z () (by erw[Builtin.Tuple.tupleTooMany];lia) (by
    rw[Y,gN,gi,Nat.mul_comm];show(by rw[<-i];show U))) (z,?_)
   rw[Y];show(.ref _,_,I.laid (λc C q=>eo _ q) (ec _) ?_,rfl,W _<|I.dS.fresh<|ec _);show(by rw[gi,Nat.mul_comm];show U,_,r.rep k.toNat,pB.new _ _)
set_option tactic.hygienic true in
theorem HQ{K:cL}:jc K (λx y H Q=>rI w8 (λi j=>.int (i*j)) x y H Q\/Nq K x y H Q) vE:=λf H x y m n d Q s I J z q=>by
 erw[vE]at z;split at z
 .split at z<;>cases z
  show .inl (_,_,jL I,jL J,Fy ‹_›,q _ H f (Ext.refl s) rfl)
 .rename_i l j
  split at z<;>cases z
  rename_i O
  let(U,W):=O;let(a,k,rfl,h,b):=vf I;let(Y,Z):=Ym W;show .inr (a,j,k,rfl,jL J,i6 s h,Y,Z,vQ (by rw[b.length];show U),λe=>?_,λp g=>q _ _ _ (Ext.alloc s g _)<|yi (fC.of zA)<|(Wf b _).mono (js (jw s g) _))
  .refine q _ H f (Ext.refl s) ?_
   rcases e with e|e
   .have o:=by
     have:=b.length;rw[e]at this;show ve this.symm
    simp_all
   simp_all
 .cases z
theorem qY(e:PV X a fa)(z:PV X b fb):PV X (.BinOp a .Mult b pos) (zF vE fa fb):=Vs (zjp.or IM) HQ e z
end
theorem RC.zih{K:cL}{L H:Hp}{σ:St}{γ:Ctx}{i:Nat}{B:zn D}{a:cI}{xs:zn V}(r:RC K L H σ γ)(e:γ[i]? = aF (.own B))(h1:σ[i]? = aF (aF (.ref a)))(S:L a=aT)(h3:H a=aF (.lst xs))(h4:di K L B xs):RC K (L2.upd L a<|.lst xs) H σ (γ.set i<|.val<|.lst B):=by
 show(λb o q=>?_,by simp[r.len],λj d g=>?_,λj m g=>?_,λj k b m fs f y U W=>?_,(λj h g=>?_,λj k s t f y=>?_))
 .by_cases z:b=a
  .subst z;rw[zA]at q;rw[h3];show q
  .rw[zC z]at q;show r.sub b o q
 .rcases zG g with⟨rfl,z,x⟩|⟨I,z⟩
  .cases z;show(_,h1,KA (eJ.of zA)<|h4.mono<|js S _)
  .let(v,J,g2):=r.val j d z
   show(v,J,g2.mono<|js S _)
 .rcases zG g with⟨_,z,_⟩|⟨I,z⟩
  .cases z
  .let(b,u,J,g2,Y,Z):=r.own j m z
   show(b,u,J,?_,Y,Z.mono<|js S _);rw[zC (λq=>I<|r.ne j i a m B z e (by rw[J,q]) h1)];show g2
 .rcases zG f with⟨_,z,_⟩|⟨I,l⟩
  .cases z
  .rcases zG y with⟨_,z,_⟩|⟨w,p⟩
   .cases z
   .exact r.ne j k b m fs l p U W
 .rcases zG g with⟨_,z,_⟩|⟨I,z⟩
  .cases z
  .let(b,bs,f1,O,Q):=r.kq.1 j h z
   show(b,bs,f1,O.move (js S _) (λc n=>by rw[zC (λq=>(Q i B a e h1)<|by rw[<-q];show n)];show(O.at n).1)<|λc n=>rfl,λk fs c f y=>?_);rcases zG f with⟨_,z,_⟩|⟨_,l⟩
   .cases z
   .exact Q k fs c l y
 .rcases zG f with⟨_,z,_⟩|⟨_,l⟩
  .cases z
  .rcases zG y with⟨_,z,_⟩|⟨_,p⟩
   .cases z
   .exact r.kq.2 j k s t l p
end DL
namespace L2
open PySem PySem.Spec PyProof.Rows
open AutoSeq1 (wpAny_loadPart')
section
variable{prog:eA}{w:eu}{A:hO}{E:EQ}{s:dy}
theorem zjx{z B l:cI}{n:Nat}{xs:Array da}{x H:da}{Q:EQ}(U:ur s.heap z B n H)(S:i0 .T s.heap B l n)(hl:mm .T s.heap l xs)(hx:xs[n]? = aF x)(y:z≠B)
 (hQ:∀g,IsEnumOut g z B (n+1) x ↥s->i0 .T g B l (n+1)->n8 g ↥s (.int n s.toks) x->g.objs.size=↥s+1->
   (∀c o,c≠z->c≠B->s.heap.get? c=aF o->g.get? c=aF o)->Q (.ref ↥s) {s with heap:=g,toks:=s.toks+1}):
 wpAny (dq prog w) A (Builtin.«enumerate.__next__» ([.ref z],[])) (λL s'=>∃v,L=.done (.ret v)/\Q v s') E s:=by
 show cS (m:=field (.ref z) 2) (l7 U rfl rfl ?_);show cS (JF S hl hx λg1 as W=>?_);have Y:=W.extBut _ _ y U;show cS (l7 Y rfl rfl ?_);show cS (l7 Y rfl rfl ?_);show cS (wpAny_mkInt ?_);show cS (sa Y () λg2 d Z=>?_);replace d:=d;show cS (sa d () λg3 f h=>?_);replace f:=f;show cS (T1 ?_);have I:ur (g3.push {cls:=.type "tuple",data:=.seq #[.int n s.toks,x]}) z B (n+1) H:=eo _ f;generalize J:g3.push _=O at I;have b:g3.objs.size=↥s:=by rw[(h.1),Z.1,(W.1)]
 have N:O.objs.size=↥s+1:=by rw[<-J,nc,b]
 have F:i0 .T O B l (n+1):=as.at λo e=>by rw[<-J];show eo _<|h.extBut _ _ y.symm<|Z.extBut _ _ y.symm e
 show cS ?_;erw[S_];show cS<|l7 I rfl rfl<|d7 ?_;simp?[if_true];show cS<|w4<|cS<|l7 I rfl rfl ?_;show cS<|sa I () λR i u=>?_;replace i:=i;rw[b];show cS ?_;erw[zfe];show cS<|sa i () λX j ad=>?_;replace j:=j;show sa j () λr k C=>?_;replace k:=k;have t c o:c≠z->O.get? c=aF o->r.get? c=aF o:=λa e=>C.extBut _ _ a<|ad.extBut _ _ a<|u.extBut _ _ a e;have P:r.objs.size=↥s+1:=by have G:=u.1;have K:=ad.1;have M:=C.1;simp?[M,K,G,N]
 show cS (M5 (d7 (_,rfl,hQ r k (F.at λo e=>t _ o y.symm e) (t _ _ (pz<|ft U) (by
  change O.get? _=_;rw[<-J,<-b];show ir _ rfl)) P λc o a p e=>t c o a ((λc o a p e=>by
  rw[<-J];show eo _<|h.extBut _ _ a<|Z.extBut _ _ a<|W.extBut _ _ p e) c o a p e))))
theorem AD{z B l:cI}{n:Nat}{xs:Array da}{y:da}{Q:Fin->dy->Prop}(I:A.handled=aT)(J:ur s.heap z B n y)(H:i0 .T s.heap B l n)(O:mm .T s.heap l xs)(U:xs[n]? = aT)
 (W:∀g e,Heap.ExtBut B s.heap g->(∃o,g.get? e=aF o/\o.cls=.type "StopIteration")->E (.ref e) {s with heap:=g}):
 wpAny (dq prog w) A (Builtin.«enumerate.__next__» ([.ref z],[])) Q E s:=
 cS (m:=field (.ref z) 2) (l7 J rfl rfl<|cS<|WG I H O U W)
end
def Ly(i:cI):gB:={cls:=.type "enumerate",data:=.fields #[.none,.bool bB,.ref i,rawInt 0,.none,.none]}
def Hk(h:dV)(l:cI):dV:=il (il h<|k4 .T l)<|Ly h.objs.size
set_option tactic.hygienic true in
theorem AC(l:cI)(xs:Array da):
 B7 (Builtin.«enumerate.__new__» ([.type "enumerate",.ref l],[])) (λ_ R s=>mm .T s.heap l xs/\R (.ok (.ret (.ref (↥s+1)))) {s with heap:=Hk s.heap l}):=
 .of_wp λe w A R s h=>by
  show dj λI=>?_;let(i,g,d,k,os):=s;let(J,h):=h;have O:=sub_enumerate;have y:Heap.IsTuple _ l xs:=J;let(o,z,a,m,b):=id y;let(f,i4,Q,j):=o;show I ?_;simp only at a b;subst a b;simp?[Hk,Ly,k4,nc]at h
  wp_walk using DO z
  show wpAny_stack_any λst=>d7 ?_;split
  .rename_i c _ _ _ _ _
   cases (c==_)<;>(wp_walk using DO z,Sg y;show(_,rfl,by simpa[nc,zfh]using h))
  .wp_walk using DO z,Sg y
   show(_,rfl,by simpa[nc,zfh]using h)
def N7(K:cL)(a:cI):It:=
 (λi H=>∃b,h9 .T K H a b/\i<b.length,
  λi H x d=>∃p u,x=.ref p/\H p=aT/\d=upd H p (.tup [.int i,u])/\(∀b,h9 .T K H a b->b[i]? = aF u),
  λi H=>∃b,h9 .T K H a b/\b.length<=i)
theorem vz(I:ur s.heap z it n old)(h:Q (.ref z) s):wpAny (dq prog w) A (F7 (.ref z)) Q E s:=by have y:s.TypeIs (.ref z) "enumerate":=(_,I,rfl);show wpAny_pyIter_slot y F.slot_enumerate_iter (sy F.slot_enumerate_iter y F.entry_enumerate_iter (d7 (_,rfl,"enumerate",_,y,L9.lookup,h)) (F.args_enumerate_iter_1 _))
theorem zj6{P:eA}{w:eu}{K:cL}{elts:zn dE}{x1:Nat}{n0:eg}{z it a:cI}(a9:z≠it):
 Turn P w K (.Tuple elts x1 n0) (N7 K a) [z,it] z (λi h=>(∃Q,ur h z it i Q)/\i0 .T h it a i) where
 mem:=by simp
 obj:=λi h ((Q,J),h1) y hy=>by
  simp?[eL,lp,or_false]at hy;rcases hy with rfl|rfl
  .exact(_,J,λv q=>by cases q)
  .exact h1.obj
 keep:=λi h h' ((Q,J),h1) k=>((Q,k z () _ J),h1.at λo e=>k it () o e)
 item:=by
  rintro X Y hw Z hc i pins s σ H E I hf ⟨⟨Q,J⟩,h1⟩ ⟨xs,W,al⟩;subst Y hw Z;let(am,a6,p1,z1):=I.sq W;have hx:xs[i]? = aF xs[i]:=eW al;let(u1,an,ao):=a6.get hx;have U:s.TypeIs (.ref z) "enumerate":=(_,J,rfl);erw[zd];show cS (v7 (va (name:=hG "__next__") U L9 (sy L9 U F.entry_enumerate_next
   (zjx J h1 p1 (x:=u1) (~~~an) a9 λg a1 a2 a3 a4 a5=>d7 (_,rfl,?_)) (F.args_enumerate_next_1 _))))
  show zlx a1 λg2 Pt a8=>?_;have lt:∀{c o},s.heap.get? c=aF o->↥s≠c:=λe=>pz<|ft e;have b0:n8 g2 ↥s (.int i s.toks) u1:=a8.extBut _ _ (lt J) a3;have kk O u:O ∉ [z,it]->s.heap.get? O=aF u->g2.get? O=aF u:=λhb e=>by simp?[eL,lp,or_false,not_or]at hb;show a8.extBut _ _ hb.1<|a5 O u hb.1 hb.2 e
  have I1:Inv X pins σ (upd H ↥s<|.tup [.int i,xs[i]]) {s with heap:=g2,toks:=s.toks+1}:=
   I.RM (fp:=[z,it]) kk hf (ec _) (by change 2<=ej;decide,[.int i s.toks,u1],.cons (_,rfl)<|.cons ao .nil,(_,b0,rfl,_,rfl))
  have b3:H ↥s=aT:=I.fresh;show(.ref ↥s,_,I1,rfl,(_,_,rfl,b3,rfl,λbb b4=>by rw[I.RH b4 W];show hx),?_,λO hb=>?_)
  .exact((_,by have:=Pt;rwa [show((i:Int)+1)=((i+1:Nat):Int)by lia]at this),a2.at λo e=>a8.extBut _ _ a9.symm e)
  .have b5:O≠↥s:=by
    simp?[eL,lp,or_false]at hb;rcases hb with rfl|rfl
    .exact(lt J).symm
    .let(o,e,_):=h1.obj;show(lt e).symm
   rw[zC b5];show(hf O hb).1
 done:=by
  rintro X Y hw Z hc i pins s σ H E I hf ⟨⟨Q,J⟩,h1⟩ ⟨xs,W,hi⟩;subst Y hw Z;let(am,a6,p1,z1):=I.sq W;have U:s.TypeIs (.ref z) "enumerate":=(_,J,rfl);have l1:=a6.length;erw[zd];show cS (v7 (va (name:=hG "__next__") U L9 (sy L9 U F.entry_enumerate_next
   (AD (show X.A.handled=aT from I.ok.hd hc) J h1 p1 (by simp;lia) λg e hk he=>?_) (F.args_enumerate_next_1 _))))
  let(o,ho,b8):=he;show cS (wpAny_isInstance (T:="StopIteration") (b:=aG) (o,ho,b8) isSubtype_stop (d7 (rfl,?_)));show I.r6 (t':=s.toks) (fp:=[z,it]) (λO u hb e=>?_) hf;simp?[eL,lp,or_false,not_or]at hb;show hk O u hb.2 e
 self:=λ_ _ _ _ _ st h=>vz st.1.choose_spec h
def TV(K:cL)(e:TA):TI:=λg H R=>e g H λd b=>∃a,d=[.ref a]/\(∃f,h9 .T K b a f)/\R (N7 K a) b
theorem II{X:Cx}{S:dE}{ta:TA}{p pos:eg}{B:zn dE}{x1:Nat}{L:eg}(O:Gl X "enumerate")(hm:X.mg "enumerate" = aT)(ha:PA X [S] ta)
 (Q:pH "enumerate" = aF (.type "enumerate")) (hs:dU [S] ⋯=[(bB,dv S ⋯)]:=by rfl):
 PI X (.Tuple B x1 L) (.Call (.Name "enumerate" p) [S] [] pos) (TV X.K ta):=by
 intro b s n H R I h;show xb<|xT I O hm Q<|u7 (dQ (ha pos b s n H _ I h) λt d U=>?_) (by rw[hs];rfl) rfl;show dj λW=>?_;let(u,g,y,m,Y):=U;let(a,e,(x,Z),q):=Y;subst e;let(w,k,i):=yc m;show W ?_;subst k;cases i;let(j,r,l,A):=y.sq Z;show callType_new F.called_enumerate () (F.typeCall_enumerate_1 _) (F.newCall_enumerate_1 _) (λobj=>F.args_object_init_2 obj _) F.entry_enumerate_new (AC a j.toArray) (l,?_);have z:=by have q:=ir (il d.heap<|k4 .T a) (o:=Ly ↥d) rfl;rw[(nc ..)]at q;show q
 show((_,z,rfl),vz z ?_);show(_,_,_,_,g,rfl,y.kept<|λc o e=>eo _<|eo _ e,zj6<|pz<|o1 _,((_,z),(VE .T d.heap a).at λo e=>eo _ e),λc f=>?_,q);have J:↥d<=c:=by
  simp?[eL,lp,or_false]at f;rcases f with rfl|rfl
  .exact nM _ _
  .exact ec _
 show y.pJ J<|y.dS.fresh J
end L2
namespace DL
open PySem PySem.Spec PyProof.Rows L2
theorem Yi{K:cL}{H:Hp}:∀{z:zn D} {xs:zn V} {l:zn Int},di K H z xs->gz z=aF l->xs=l.map V.int
 |[],xs,l,r,e=>by cases e;rw[r];rfl
 | d::z,xs,l,r,e=>by
  let(x,h,rfl,b,f):=(r);cases d with
  |int i=>
   let(g,a,rfl):=zq e;rw[Yi f a,b];rfl
  |_=>cases e
theorem Yv:∀l:zn Int,(l.map V.int).all Va=aG
 |[]=>rfl
 |i::l=>by simp?[mc,A9,Yv l,Bool.and_true];rfl
theorem gD(i:Int):∀l:zn Int,pK (.int i) (l.map V.int)=decide (i∈l)
 |[]=>rfl
 |j::l=>by
  have y:=gD i l;erw[pK]at y ⊢;have e:rF (.int j) (.int i)=(j==i):=rfl
  grind
theorem zkf{K:cL}{B H:Hp}{a:cI}{xs:zn V}{e:zn D}(h:fC K H a xs)(r:di K B e xs):Walk K B H (N7 K a) (xB e):=by
 have U:=r.length;have W:(xB e).length=e.length:=by simp[xB]
 show(λi b s n=>(xs,i6 s h,()),λb s=>(xs,i6 s h,()),λi b x k s n y=>?_)
 .refine dj λz=>?_;let(p,u,l,f,I,J):=y
  let(d,m,O):=r.uJ<|J xs<|i6 s h;show z ?_;show(.tup [.int i,d],?_,λj o g=>(upd j p<|.tup [.int i,u],?_,?_))
  .have Q:i<e.length:=()
   erw[xB];simp?[n4,_y Q,t5,m];rfl
  .rw[I];show Ext.alloc g f _
  .rw[l]
   show yi (fC.of zA)<|di.cons rfl<|di.cons ((O.mono o).mono (js (jw g f) _)) di.nil
section
variable{X:Cx}{sc:e9}{N L:zn Str}{k:Nat}{a b c:dE}{pos p:eg}{f fa fb fc:CO D}
theorem Vv(h:SX X sc N L k)(c:xP sc "enumerate" = aG)(z:X.mg "enumerate" = aT)(B:PV X a f)(hs:dU [a] ⋯=[(bB,dv a ⋯)]:=by rfl):
 fh X (.Tuple elts x1 n0) (.Call (.Name "enumerate" p) [a] [] pos) (Wc f):=
 Y1 (II (h.gl c).1 z (zS B jH hs) UM hs) λo H R J=>by
  let(g,l,m,i,y,q):=J;let(d,O,y):=zb y;cases d with
  |tup n=>
   cases y;show(g,l,_,i,O,λv e b x r=>?_);let(Q,j,rfl,I,g2):=vf r;show(Q,rfl,(j,i6 x.sub I),q _ e b x<|zkf I g2)
  |_=>cases y
theorem Wh(ho:fJ X (i3 op) r)(B:fJ X (i3 Dh) r')(s1:jc X.K r F)(s2:jc X.K r' G)(S:PV X a fa)(hb:PV X b fb)(hc:PV X c fc)
 (hm:PM [op,Dh] [b,c]=bB:=by with_unfolding_all rfl):PV X (.Compare a [op,Dh] [b,c] pos) (wt F G fa fb fc):=
 j3 (CY ho B S hb hc hm) λσ H Q N=>by
  show dj λP=>?_;let(l,i,d,h,I,q):=N;let(x,w,I):=zb I;let(y,A,I):=zb I;let(k,C,I):=zb I;let(U,E,W):=zb C;show P ?_;show(l,i,x,h,w,λv1 H1 g e R=>(g,i,y,h.ext e,A,λY m s J j=>s1 s m v1 Y x y U _ J.sub (R.mono J.s0) j E λv3 n Z f T=>?_));cases U with
  | bl k'=>
   cases W;show(k,T,?_);cases k with
   |true=>
    rw[DJ rfl];rw[DJ rfl]at I;let(z,L,M):=zb I;show(Z,i,z,((h.ext e).ext J).ext f,L,λv4 o t O r4=>s2 t o Y v4 y z d _ O.sub ((j.mono f.s0).mono O.s0) r4 M λv5 p u x5 r5=>q v5 p u (((e.trans J).trans f).trans (O.trans x5)) r5)
   |false=>
    rw[DY ()];cases I;show q _ n Z ((e.trans J).trans f) rfl
  |_=>cases W
theorem Nz(B:PV X a fa){g:CO (Sk×zn D)}(S:PQ X b g)(hm:nv .In b=bB:=by with_unfolding_all rfl):PV X (.Compare a [.In] [b] pos) (UZ fa g):=
 j3 (Wp KR B S hm) λF H Q I=>by
  show dj λJ=>?_;let(n,m,d,j,y,q):=I;let(x,t,y):=zb y;let((z,s),O,y):=zb y;let(i,U,y):=zb y;let(l,W,rfl):=zq y;show J ?_;show(n,m,x,j,t,λC w e k f=>(e,m,z,s,j.ext k,O,λp E o Y Z h A r=>?_));rw[jT U]at f;have u:=Yi r W;subst u;show(p,_,rfl,by
   cases z with
   |L=>show .inl h
   |T=>show .inr h,by rw[f];rfl,Yv l,?_)
  rw[f,gD];show q _ o Y (k.trans Z) rfl
end
theorem JS(h:Kc o=aF rows):o=aF (.nest rows):=by
 cases o with
 |none=>cases h
 |some c=>cases c<;>first|cases h;rfl|cases h
inductive zkD(K:cL)(f:CO (List (List D)))(σ:St)(H:Hp)(Q:VK):Prop
 |mk (H0 γ rows) (_:RC K H0 H σ γ) (_:f γ=aF rows) (_:∀a bs H' el,Ext H0 H el H'->(∀b∈a::bs,H b=aT)->pb K el H' rows a bs->Q (.ref a) H')
def oI(K:cL)(z H:Hp)(e:zn (zn D))(bs:zn cI):Prop:=bs.length=e.length/\∀(k:Nat) b row,bs[k]? = aF b->e[k]? = aF row->z b=aT/\∃a,H b=aF (.lst a)/\di K z row a
theorem oI.at{K:cL}{B H:Hp}{e:zn (zn D)}{bs:zn cI}(n:oI K B H e bs){b:cI}(I:b∈bs):B b=aT/\∃xs,H b=aF (.lst xs):=by let(k,y):=X_ I;have z:=(kG.mp y).1;rw[n.1]at z;let(a,xs,d,_):=n.2 k b _ y<|eW z;show(a,xs,d)
theorem oI.ext{K:cL}{L H I J:Hp}{B:zn (zn D)}{bs:zn cI}(n:oI K L H B bs)(e:Ext L H I J):oI K I J B bs:=
 (n.1,λk b row a d=>by let(y,f,g2,z):=n.2 k b row a d;show(e.new b y (),f,e.s1 _ _ g2,z.mono e.s0))
theorem oI.add{K:cL}{B H:Hp}{e:zn (zn D)}{bs:zn cI}{b:cI}{row:zn D}{xs:zn V}(n:oI K B H e bs)(J:B b=aT)(L:H b=aF (.lst xs))(O:di K B row xs):oI K B H (e++[row]) (bs++[b]):=
 (by simp[n.1],λk c r a y=>by
  rcases fY k bs.length with z|z
  .rw[o3 z]at a
   rw[o3 (by rw[<-n.1];show z)]at y;show n.2 k c r a y
  .rw[pv z]at a
   rw[pv (by rw[<-n.1];show z)]at y;have I:k-bs.length=0:=by have:=(kG.mp a).1;simp at this;lia
   rw[I]at a;rw[<-n.1,I]at y;cases a;cases y;show(J,xs,L,O))
theorem oI.hide{K:cL}{B H:Hp}{e:zn (zn D)}{bs:zn cI}{y:cI}{o:HO}(n:oI K B H e bs)(h:y∉bs):oI K B (upd H y o) e bs:=
 (n.1,λk b row a d=>by let(z,f,g2,I):=n.2 k b row a d;show(z,f,by rw[zC (λq=>h<|by rw[<-q];show oA a)];show g2,I))
section
variable{K:cL}{own:zn Str}{fr:zn (Str×Nat)}{src:CO (zn D)}{T:Tg}{f:CO (zn D)}
inductive _R(K:cL)(T:Tg)(f:CO (List D))(γ:Ctx)(items:List D)(rows:List (List D))(D:cI)(ri H1:Hp)(i m:Nat)(ys:List V)(o8:St)(H':Hp):Prop
 |mk (el:Hp) (bs:List cI) (r1 r2:List (List DL.D)) (h1:m=items.length-i) (h2:i<=items.length) (h3:ys.length<=i) (h4:H' D=aF (.lst ys)) (h5:ys=bs.map V.ref) (h6:RC K el H' o8 γ) (h7:el D=aT) (zhU:Ext ri H1 el H') (zhV:oI K el H' r1 bs) (ha:(D::bs).Nodup) (hb:∀b∈bs,H1 b=aT) (hc:Jf T f γ (items.drop i)=aF r2) (hd:rows=r1++r2)
theorem zjD(hT:∀i∈T.idx,i<own.length){tt:TT}(b9:∀B H Q,tT K jb B H Q->tt B H Q):∀B H Q,zkD K (iX src T own.length (fr.map (·.2)) f) B H Q->rX (RK K src) own fr (nA K T) tt (tO K f) B H Q:=λB H Q hZ=>by
 let(H0,A,g,rc,L,q):=hZ;let(a,e1,L):=zb L;by_cases hl:a.length<=lim
 .rw[DJ hl]at L
  show(H0,A,a,rc,e1,λJ F s u wk D M=>?_);have R:∀(i:Nat) t,(jj own.length (fr.map (·.2)) A)[i]? ≠ aF (.own t):=λi t h=>by rcases qZ h with z|⟨d',j,z,_⟩<;>cases z
  have S:∀(i:Nat) t,(jj own.length (fr.map (·.2)) A)[i]? ≠ aF (.nest t):=λi t h=>by rcases qZ h with z|⟨d',j,z,_⟩<;>cases z
  have an:=jw u.sub M;have ao c:F c=aT->H c=aT:=λhc=>by
   cases z:H c with
   |none=>rfl
   |some o=>rw[u.s1 c o z]at hc;omega
  show(_R K T f (jj own.length (fr.map (·.2)) A) a g D s F,(_,s,[],[],g,rfl,l6 _,ec _,zA,rfl,((rc.ext u).pull).upd an R S,an,Ext.hide u.sub M _,(rfl,λk b row h=>by simp at h),by simp,λb hb=>by simp at hb,L,rfl),?_);rintro i m ys o8 E ⟨p,bs,r1,r2,rfl,hi,hy,X,be,ac,ap,U,G,nd,as,I,rfl⟩;subst be;show(X,?_);by_cases W:i<a.length
  .refine .inr (wk.go i E U.s1 W,?_,λx aw y=>?_)
   .have:=vQ<|ec lim;lia
   show dj λkZ=>?_;let(d,hd,hx):=wk.pT i E x aw U.s1 W y;let(G0,O,rg):=hx p U.s0 ac.sub;show kZ ?_;have bn:a.drop i=d::a.drop (i+1):=by
    have br:=by rw[eW W]at hd;show(l8 hd).symm
    rw[br];show I7 W
   rw[bn]at I;simp?[Jf]at I;show dj λkZ=>?_;let(l,eb,I):=zb I;let(e,ee,I):=zb I;let(rest,er,I):=zq I;have c3:=O.s1 _ _ X;let(bl,bg):=dH eb;show kZ ?_;have c4:∀{C:St} {G2 H2:Hp},RC K G2 H2 C l->RC K G2 H2 C (jj own.length (fr.map (·.2)) A):=λr=>r.weak bl.symm (λj d' hj=>by
    by_cases N:j∈T.idx
    .rcases qZ hj with z|⟨d2,j2,_,hn,_⟩
     .cases z
     .exact absurd (hT j N) ()
    .rw[bg j N];show hj) R S
   show JU O.sub rg eb λN0 b2 _=>b9 N0 aw _ (G0,l,aG,b2<|ac.ext O,rfl,λH3 c7 n=>?_);have b3:=(b2<|ac.ext O).ext n;have xa:=U.trans<|O.trans n;have c8:=n.s1 _ _ c3;rw[DJ rfl];show(c7,l,e,b3,ee,λY cn H4 c9 Z g1 g2 g3 g4=>?_);have al:=Z.new D (n.new D (O.new D ap ()) ()) ();have P:=xa.trans Z;have b6:=(pU.mp nd).1;have b7:D≠Y:=λz=>by lia
   have cc:Y∉bs:=λN=>by let(_,cq,z):=((G.ext O).ext n).at N;lia
   have ce:F Y=aT:=by
    cases z:F Y with
    |none=>rfl
    |some o=>rw[xa.s1 _ _ z]at g1;cases g1
   show(Z.s1 _ _ c8,_,Z_ _ _ W,c9,bs++[Y],r1++[e],rest,rfl,W,by rw[n3,H8];lia,zA,by simp,(c4<|b3.ext Z).upd al R S,al,(P.s0,λc o z=>by rw[zC (λw=>by rw[w,M]at z;cases z)];show P.s1 c o z,λc o z=>by rw[zC (λw=>by rw[w,al]at z;cases z)];show P.sub c o z,P.new),((((G.ext O).ext n).ext Z).add g2 g3 g4).hide (by simp[b6,b7]),?_,?_,er,?_)
   .refine pU.mpr (by simp[b6,b7],List.nodup_append.mpr ((pU.mp nd).2,by simp,λc hc c' cf=>?_))
    have:= ~~~cf
    subst this;show λz=>cc (by rw[<-z];show hc)
   .intro b hb
    rcases n5.mp hb with z|z
    .exact as b z
    .have:= ~~~z
     subst this;show ce
   .rw[<-I];simp
  .have e:i=a.length:=()
   subst e;rw[L7]at I;cases I;rw[MZ]at q;show .inl (wk.stop E U.s1,q D bs E p (u.trans U) (λb hb=>?_) (ap,X,nd,G.1,G.2));rcases eL.mp hb with rfl|hb
   .exact ao _ M
   .exact ao b<|as b hb
 lia
end
section
variable{K:cL}{E0 E H0 H:Hp}{σ:St}{γ:Ctx}
theorem Kg(h:γ.any cQ=bB)(i:Nat)(z:zn (zn D)):γ[i]? ≠ aF (.nest z):=λe=>by show(S9.mp h _<|oA e) rfl
theorem RS.zkt(r:RS K E0 E G0 G σ γ)(e:Ext G0 G H0 H)(B:∀b∈a::bs,G b=aT)(n:pb K H0 H rows a bs)(O:γ.any cQ=bB):
 RS K E0 E H0 H (σ.set i<|some (.ref a)) (γ.set i<|.nest rows):=by
 have h:=r.rc.ext e;have Y:∀b∈a::bs,E b=aT:=λb p=>by
  cases q:E b with
  |none=>rfl
  |some o=>have:=B b p;rw[r.ext.s1 b o q]at this;lia
 show((h.sub,by simp[h.len],λj w g=>?_,λj f g=>?_,λj k b f fs m Q Z t=>?_,(λj d g=>?_,λj k A C y g2=>?_)),r.ext.trans e,λj f b y g2=>?_,λj d b M y g2 J=>?_)
 .rcases zG g with⟨_,z,_⟩|⟨I,z⟩
  .cases z
  .let(F,y,g2):=h.val j w z
   show(F,by rw[fW (ew I)];show y,g2)
 .rcases zG g with⟨_,z,_⟩|⟨I,z⟩
  .cases z
  .let(b,u,y,g2):=h.own j f z
   show(b,u,by rw[fW (ew I)];show y,g2)
 .rcases zG m with⟨_,z,_⟩|⟨I,l⟩
  .cases z
  .rcases zG Q with⟨_,z,_⟩|⟨U,s⟩
   .cases z
   .rw[fW (ew I)]at Z
    rw[fW (ew U)]at t;show h.ne j k b f fs l s Z t
 .rcases zG g with⟨rfl,z,W⟩|⟨I,z⟩
  .cases z
   show(a,bs,mV (by rw[h.len];show W),n,λk f c m Q=>?_);rcases zG m with⟨_,z,_⟩|⟨U,l⟩
   .cases z
   .rw[fW (ew U)]at Q
    let(L,u,y,g2,J,_):=r.rc.own k f l
    grind
  .exact absurd z<|Kg O j d
 .rcases zG y with⟨rfl,_,_⟩|⟨_,l⟩
  .rcases zG g2 with⟨rfl,_,_⟩|⟨_,s⟩
   .rfl
   .exact absurd s<|Kg O k C
  .exact absurd l<|Kg O j A
 .rcases zG y with⟨_,z,_⟩|⟨I,z⟩
  .cases z
  .rw[fW (ew I)]at g2;show r.fresh j f b z g2
 .rcases zG y with⟨rfl,z,W⟩|⟨I,z⟩
  .rw[mV (by rw[h.len];show W)]at g2;cases g2
   rw[n.ha]at J;injection J with J;injection J with J;subst J;show(Y a gH,λb p=>?_);let(c,x,q):=fx.mp p;cases q;show Y b<|gy _ x
  .exact absurd z<|Kg O j d
theorem RS.forget(r:RS K E0 E H0 H σ γ):RS K E0 E H0 H (σ.set i v) (γ.set i .no):=by
 have I:∀{j:Nat} {e:zn D} {b:cI},(γ.set i .no)[j]? = aF (.own e)->_/\(σ.set i v)[j]? = σ[j]? :=λ{j e b} g=>by
  rcases zG g with⟨_,z,_⟩|⟨J,z⟩
  .cases z
  .exact(z,fW<|ew J)
 have O:∀{j:Nat} {d:zn (zn D)},(γ.set i .no)[j]? = aF (.nest d)->_/\(σ.set i v)[j]? = σ[j]? :=λ{j d} g=>by
  rcases zG g with⟨_,z,_⟩|⟨J,z⟩
  .cases z
  .exact(z,fW<|ew J)
 show((r.rc.sub,by simp[r.rc.len],λj n g=>?_,λj e g=>?_,λj k b e fs l Q W Y=>?_,(λj d g=>?_,λj k u w y g2=>r.rc.kq.2 j k u w (O y).1 (O g2).1)),r.ext,λj e b y g2=>?_,λj d b A y g2 Z=>?_)
 .rcases zG g with⟨_,z,_⟩|⟨J,z⟩
  .cases z
  .let(x,y,g2):=r.rc.val j n z
   show(x,by rw[fW (ew J)];show y,g2)
 .let(f,h):=I (b:=0) g
  rw[h];show r.rc.own j e f
 .let(f,h):=I (b:=0) l
  let(m,U):=I (b:=0) Q;rw[h]at W;rw[U]at Y;show r.rc.ne j k b e fs f m W Y
 .refine dj λt=>?_;let(f,h):=O g
  let(a,bs,o,p,s):=r.rc.kq.1 j d f;show t ?_;show(a,bs,by rw[h];show o,p,λk e c l Q=>?_);let(m,U):=I (b:=0) l;rw[U]at Q;show s k e c m Q
 .let(f,h):=I (b:=0) y
  rw[h]at g2;show r.fresh j e b f g2
 .let(f,h):=O y
  rw[h]at g2;show r.oP j d b A f g2 Z
theorem cz:∀{l:zn cI} {m t:Nat} {b:cI},l.Nodup->l[m]? = aF b->l[t]? = aF b->m=t
 |[],m,t,b,_,h,_=>by simp at h
 | c::l,m,t,b,nd,h1,h2=>by
  let(a,y):=pU.mp nd;cases m with
  | zero=>
   cases t with
   |zero=>rfl
   |succ t=>
    have e1:= ~~~h1
    show absurd (oA<|by simpa using h2)<|e1 ▸ a
  | succ m=>
   cases t with
   |zero=>
    have z:= ~~~h1
    show absurd (oA z)<|(~~~h2) ▸ a
   |succ t=>show congrArg (· + 1) (cz y (~~~h1)<|by simpa using h2)
theorem RC.row{j i t:Nat}{R:zn (zn D)}{a b:cI}{bs:zn cI}{row:zn D}(r:RC K H0 H σ γ)(Y:γ[j]? = aF (.nest R))(hs:σ[j]? = aF (aF (.ref a)))(hn:pb K H0 H R a bs)
 (Q:∀(k:Nat) B c,γ[k]? = aF (.own B)->σ[k]? = aF (aF (.ref c))->c∉a::bs) (S:bs[t]? = aF b) (Z:R[t]? = aF row) (L:i<γ.length):
 RC K H0 H (σ.set i<|some (.ref b)) ((γ.set j .no).set i (.own row)):=by
 let(o,x,p,s):=hn.row t b row S Z;have U:b∈a::bs:=gy _<|oA S;have I:∀{k:Nat} {c:Cell},c ≠ .no->_=aF c->γ[k]? = aF c/\k≠j:=λ{k c} w g=>by
  rcases zG g with⟨_,z,_⟩|⟨y,z⟩
  .exact absurd z w
  .exact(z,y)
 show(r.sub,by simp[r.len],λk d g=>?_,λk B g=>?_,λk m c B n u W J O=>?_,lL.tu λk h g=>?_)
 .rcases zG g with⟨_,z,_⟩|⟨y,z⟩
  .cases z
  .let(e,_):=I () z
   rw[fW (ew y)];show r.val k d e
 .rcases zG g with⟨rfl,z,A⟩|⟨y,z⟩
  .cases z
   show(b,x,mV (by rw[r.len];show L),o,p,s)
  .let(e,_):=I () z
   rw[fW (ew y)];show r.own k B e
 .rcases zG u with⟨rfl,_,_⟩|⟨y,e⟩
  .rcases zG W with⟨rfl,_,_⟩|⟨l,f⟩
   .rfl
   .let(f,_):=I () f
    rw[mV (by rw[r.len];show L)]at J;rw[fW (ew l)]at O;cases J;show absurd U<|Q m n b f O
  .let(e,_):=I () e
   rcases zG W with⟨rfl,_,_⟩|⟨l,f⟩
   .rw[mV (by rw[r.len];show L)]at O
    rw[fW (ew y)]at J;cases O;show absurd U<|Q k B b e J
   .let(f,_):=I () f
    rw[fW (ew y)]at J;rw[fW (ew l)]at O;show r.ne k m c B n e f J O
 .rcases zG g with⟨_,z,_⟩|⟨y,z⟩
  .cases z
  .let(e,f):=I () z
   show f<|r.kq.2 k j h R e Y
theorem RS.ziS(r:RS K E0 E H0 H σ γ)(I:γ[j]? = aF (.nest R))(hs:σ[j]? = aF (aF (.ref a)))(B:pb K H0 H R a bs)
 (Y:∀(k:Nat) L c,γ[k]? = aF (.own L)->σ[k]? = aF (aF (.ref c))->c∉a::bs) (S:bs[t]? = aF b) (h4:di K H0 o_ ys):
 RS K E0 E H0 (upd H b<|.lst ys) σ (γ.set j<|.nest<|R.set t o_):=by
 have Q:=oA S;have Z:b≠a:=λq=>(pU.mp B.nd).1 (by rw[<-q];show Q);let(s,_):=B.at<|gy a Q;let(C,p):=r.oP j R a _ I hs B.ha;have P:=p b<|fx.mpr (b,Q,rfl);have J:∀{k:Nat} {c:Cell},(∀e,c ≠ .nest e)->(γ.set j<|.nest<|R.set t o_)[k]? = aF c->γ[k]? = aF c:=λ{k c} hc g=>by
  rcases zG g with⟨_,z,_⟩|⟨U,z⟩
  .exact absurd z<|hc _
  .exact z
 show((λc o q=>?_,by simp[r.rc.len],λk d g=>r.rc.val k d<|J () g,λk L g=>?_,λk m c L F u w x A=>r.rc.ne k m c L F (J () u) (J () w) x A,(λk e g=>?_,λk m M N y g2=>?_)),(r.ext.s0,λc o q=>?_,λc o q=>?_,r.ext.new),λk L c y g2=>r.fresh k L c (J () y) g2,λk e c i y g2 O=>?_)
 .rw[zC (λz=>by lia)];show r.rc.sub c o q
 .have z:=J () g
  let(c,i,f,h,l,G):=r.rc.own k L z;show(c,i,f,h,?_,G);rw[zC (λq=>Y k L c z f<|by rw[q];show gy _ Q)];show l
 .have U:k=j:=by
   rcases zG g with⟨z,_,_⟩|⟨_,z⟩
   .exact z
   .exact r.rc.kq.2 k j e R z I
  subst U;rw[mV ((kG.mp I).1)]at g;cases g;show(a,bs,hs,(B.a0,by rw[zC (ew Z)];show B.ha,B.nd,by simp[B.len],λm c row hc W=>?_),λm L c y g2=>Y m L c (J () y) g2);by_cases n:m=t
  .subst n
   rw[S]at hc;cases hc;have:m<R.length:=by rw[<-B.len];show(kG.mp S).1
   rw[mV this]at W;cases W;show(s,ys,zA,h4)
  .rw[fW (ew n)]at W
   let(f,i,h,l):=B.row m c row hc W;show(f,i,by rw[zC (λq=>by subst q;show n<|cz ((pU.mp B.nd).2) hc S)];show h,l)
 .have f:k=j:=by
   rcases zG y with⟨z,_,_⟩|⟨_,z⟩
   .exact z
   .exact r.rc.kq.2 k j M R z I
  have h:m=j:=by
   rcases zG g2 with⟨z,_,_⟩|⟨_,z⟩
   .exact z
   .exact r.rc.kq.2 m j N R z I
  rw[f,h]
 .rw[zC (λz=>by lia)];show r.ext.s1 c o q
 .rw[zC (λz=>by lia)];show r.ext.sub c o q
 .have U:k=j:=by
   rcases zG y with⟨z,_,_⟩|⟨_,z⟩
   .exact z
   .exact r.rc.kq.2 k j e R z I
  subst U;rw[hs]at g2;cases g2;rw[zC (ew Z),B.ha]at O;injection O with O;injection O with O;subst O;show(C,p)
end
section
variable{K:cL}{E0 E H0 H:Hp}{σ:St}{γ:Ctx}
theorem RS.freeze(r:RS K E0 E H0 H σ γ)(e:γ[i]? = aF (.own ds)):∃B,RS K E0 E B H σ (γ.set i<|.val<|.lst ds):=by
 let(a,n,f,g,k,l):=r.rc.own i ds e;have U:=r.fresh i ds a e f;let(B,m,I):∃B,B=upd H0 a (.lst n)/\_:=by show(_,rfl,RC.zih r.rc e f g k l)
 subst m;show(_,I,(r.ext.s0.trans<|js g _,r.ext.s1,I.sub,λc J O=>?_),λj h b y g2=>?_,λj d b o y g2 Q=>?_)
 .rw[zC (λz=>by lia)];show r.ext.new c J O
 .rcases zG y with⟨_,z,_⟩|⟨_,z⟩
  .cases z
  .exact r.fresh j h b z g2
 .rcases zG y with⟨_,z,_⟩|⟨_,z⟩
  .cases z
  .exact r.oP j d b o z g2 Q
open Classical in
def oY(H0 H:Hp)(L:zn cI):Hp:=λc=>if c∈L then H c else H0 c
theorem WM(h:c∈L):oY H0 H L c=H c:=by erw[oY];rw[DJ h]
theorem JL(h:c∉L):oY H0 H L c=H0 c:=by erw[oY];rw[DY h]
theorem bA:∀{e:zn (zn D)} {bs:zn cI},bs.length=e.length->(∀(k:Nat) b row,bs[k]? = aF b->e[k]? = aF row->∃xs,G b=aF (.lst xs)/\di K G row xs)->di K G (e.map D.lst) (bs.map V.ref)
 |[],[],_,_=>di.nil
 |[],_::_,h,_=>by simp at h
 |_::_,[],h,_=>by simp at h
 |row::e,b::bs,h,f=>by let(xs,y,g2):=f 0 b row rfl rfl;show di.cons (KA (eJ.of y) g2) (bA (~~~h) λk c r a z=>f (k+1) c r (~~~a)<|by simpa using z)
theorem RS.zhz(r:RS K E0 E H0 H σ γ)(e:γ[i]? = aF (.nest rows)):∃B,RS K E0 E B H σ (γ.set i<|.val<|.lst<|rows.map D.lst):=by
 let(a,bs,p,m,U):=r.rc.kq.1 i rows e;let(W,Y):=r.oP i rows a _ e p m.ha;have Z:∀b∈a::bs,E b=aT:=λb hb=>by
  rcases eL.mp hb with rfl|hb
  .exact W
  .exact Y b<|fx.mpr (b,hb,rfl)
 have n:et H0 (oY H0 H (a::bs)):=λc o q=>by rw[JL (λl=>by rw[(m.at l).1]at q;cases q)];show q
 have sub:et (oY H0 H (a::bs)) H:=λc o q=>by
  by_cases l:c∈a::bs
  .rw[WM l]at q;show q
  .rw[JL l]at q;show r.rc.sub c o q
 have s:∀{j:Nat} {f:zn (zn D)},(γ.set i<|.val<|.lst<|rows.map D.lst)[j]? ≠ aF (.nest f):=λ{j f} g=>by
  rcases zG g with⟨_,z,_⟩|⟨O,z⟩
  .cases z
  .exact O<|r.rc.kq.2 j i f rows z e
 have I:∀{j:Nat} {h:zn D},(γ.set i<|.val<|.lst<|rows.map D.lst)[j]? = aF (.own h)->γ[j]? = _:=λ{j h} g=>by
  rcases zG g with⟨_,z,_⟩|⟨O,z⟩
  .cases z
  .exact z
 show(_,(sub,by simp[r.rc.len],λj d g=>?_,λj h g=>?_,λj k c h C u w x A=>r.rc.ne j k c h C (I u) (I w) x A,lL.tu λj f=>s),(r.ext.s0.trans n,r.ext.s1,sub,λc Q J=>?_),λj h b y g2=>r.fresh j h b (I y) g2,λj f b t y=>absurd y s)
 .rcases zG g with⟨rfl,z,L⟩|⟨O,z⟩
  .cases z;show(_,p,KA (eJ.of<|by rw[WM gH];show m.ha) (bA m.len λk b row y g2=>by
  let(_,G,Q,J):=m.row k b row y g2;show(G,by rw[WM (gy _<|oA y)];show Q,J.mono n)))
  .let(v,y,g2):=r.rc.val j d z
   show(v,y,g2.mono n)
 .let(b,t,y,g2,g3,F):=r.rc.own j h (I g)
  show(b,t,y,by rw[JL (U j h b (I g) y)];show g2,g3,F.mono n)
 .rw[JL (λl=>J<|Z c l)];show r.ext.new c Q J
end
section
variable{X:Cx}{st:en}{F:CO Fl}
theorem fG(i:Nat)(h:gg X st F):gg X st (Ru i F):=yJ h λD k H z=>by let(E0,E,f,j,d,e,y,I):=z;let(g,b,y):=zb y;let(a,J):=e.freeze<|yT b;show(E0,E,a,_,d,J,y,I)
theorem CB(i:Nat)(h:gg X st F):gg X st (Nf i F):=yJ h λD k H z=>by let(E0,E,g,j,e,f,y,I):=z;let(b,d,y):=zb y;let(a,J):=f.zhz<|JS d;show(E0,E,a,_,e,J,y,I)
end
section
variable{X:Cx}{sc:e9}{N L:zn Str}{k:Nat}
theorem Cz(i:Nat)(h:SX X sc N L k)(c:kD sc N L i y=aG)
 (Z:X.calm=aG) (ok:n7 X scope fr) (O:∀i∈T.idx,i<own.length) (hi:n9 X tg iter src) (U:∀fp S B,PG (jR X scope (own++fr.map (·.1)) fp S B) tg<|nA X.K T)
 (he:∀fp S B,PO (jR X scope (own++fr.map (·.1)) fp S B) elt f) (hs:∀x,m3 iter ⋯ x=pure x:=by intro _;rfl):
 gg X (.Assign [.Name y py] (.ListComp elt [(tg,iter,[],0)] scope cpos) spos) (Cm i<|iX src T own.length (fr.map (·.2)) f):=by
 let(p,r,s):=h.loc c;show yJ (QN (te:=tO X.K f) h.uV p r s Z ok hi U (λ_ _ _=>Wl) he hs) λD m H I=>?_;show dj λW=>?_;let(E0,E,e,j,A,l,z,Y):=I;let(d,o,z):=zb z;show W ?_;by_cases J:j.any cQ=bB
 .rw[DJ J]at z;cases z
  show zjD O (λm H Q I=>by let(e,j,b,u,z,q):=I;cases z;show q H e<|Ext.refl u.sub) m H _ (e,j,d,l.rc,o,λa bs w g x t n=>Y _ _ g<|l.zkt x t n J)
 lia
theorem zkn(y:i≠j)(c:Cell)(r:zn D):((((γ.set j c).set i .no).set j .no).set i (.own r))=wu γ j i r:=by
 erw[wu];apply zt;intro m;simp?[S8,List.length_set];by_cases a:i=m
 .subst a;simp
 .by_cases b:j=m
  .subst b;simp[a]
  .simp[a,b]
theorem zhx{γ:Ctx}{j i:Nat}(y:i≠j)(c z:Cell):(((γ.set j c).set i .no).set j z)=(γ.set j z).set i .no:=by rw[List.set_comm _ _ (ew y),ML,List.set_comm _ _ y]
inductive Ux(K:cL)(E0 E:Hp)(γ:Ctx)(i j:Nat)(g f:CO D)(rows zkc:List (List D))(a:cI)(bs:List cI)(t:Nat)(o8:St)(H':Hp):Prop
 |mk (el:Hp) (dn rest:List (List D)) (_N:St) (v:Option V) (h1:dn.length=t) (h2:_N[j]? = aF (aF (V.ref a))) (h3:o8=_N.set i v) (h4:H' a=aF (.lst<|bs.map V.ref)) (h5:RS K E0 E el H' o8 ((γ.set j<|.nest<|dn++rows.drop t).set i .no)) (h6:yR j i g f γ (rows.drop t)=aF rest) (h7:zkc=dn++rest)
theorem Vu(j i:Nat){x y:Str}{b3 O b4:eg}{J e:dE}{g f:CO D}{p pos bl:eg}(hp:C0 (dq X.prog X.w) X.A ⋯ X.xe)(hc:X.calm=aG)(h:SX X sc N L k)(cj:kQ sc N j x=aG)(ci:kQ sc N i y=aG)
 (hg:PG X (.Name y b3) (yK i)) (hi:PV X J g) (he:PV X e f)
 (ha:∀v,rx (.Subscript (.Name y O) J p) ⋯ v=(do
   let ov<-my [v] (dv (.Name y O) ⋯);let iv<-my [v,ov] (dv J ⋯)
   oS p
   my [v,ov,iv] (Rw ov iv v)
   release [v,ov,iv] []):=by intro _;rfl)
 (hs:Gx [.Subscript (.Name y O) J p] e pos.line ⋯=pure bB:=by rfl) (hw:RJ [.Subscript (.Name y O) J p] e ⋯=pure aT:=by rfl)
 (h1:(pE [.Subscript (.Name y O) J p] ⋯).map (·.2)=[rx (.Subscript (.Name y O) J p) ⋯]:=by rfl)
 (hf:∀z,m3 (.Name x b4) ⋯ z=pure z:=by intro _;rfl):
 gg X (.For (.Name y b3) (.Name x b4) [.Assign [.Subscript (.Name y O) J p] e pos] [] bl) (fz j i g f):=
 yJ (GA hp hc (ub<|h.var cj) hg (kJ<|lE he (GD (h.var ci) hi iP ha) hs hw h1) hf) λD s H hZ=>by
  show dj λQ=>?_;let(E0,E,H0,r,fl,rs,Z,b5):=hZ;let(l,S,Z):=zb Z;show Q ?_;have S:=JS S;by_cases b6:i=j\/r.length<=i
  .lia
  rw[DY b6]at Z;have U:=λz=>b6<|.inl z;have ac:i<r.length:=()
  have c4:=(kG.mp S).1;let(o,e2,Z):=zq Z;subst Z;have es:s.set i (s[i]?.getD aT)=s:=by simp[show i<s.length by rw[rs.rc.len];show ac]
  let(a,bs,g1,hn,d3):=rs.rc.kq.1 j l S;show(_,g1,a,.L,rfl,(_,eJ.of hn.ha),?_);show(λt m o8 H'=>m=l.length-t/\t<=l.length/\Ux X.K E0 E r i j g f l o a bs t o8 H',(_,rfl,l6 _,H0,[],o,s,s[i]?.getD aT,rfl,g1,?_,hn.ha,?_,e2,rfl),?_)
  .exact es.symm
  .have:=rs.forget (i:=i) (v:=s[i]?.getD aT)
   rw[es]at this;have zhf:r.set j (.nest l)=r:=by simp[<-(kG.mp S).2]
   simpa[zhf]using this
  rintro t m o8 H' ⟨rfl,ht,F,dn,rest,u,v0,G,M,rfl,P,R,I,er⟩;have ad:((r.set j<|.nest<|dn++l.drop t).set i .no)[j]? = aF (.nest<|dn++l.drop t):=by rw[fW U,mV c4]
  let(a',W,q1,ap,c9):=R.rc.kq.1 j _ ad;rw[fW U,M]at q1;cases q1;have ca:W=bs:=by have:=ap.ha;rw[P]at this;injection this with this;injection this with this;show(vP this).symm
  subst ca;have al:W.length=l.length:=by rw[ap.len];simp;grind
  by_cases B:t<l.length
  .have C:W[t]? = aF (W[t]'(al ▸ B)):=eW (al ▸ B)
   generalize W[t]'(al ▸ B)=b at C;have as:=I7 B;show .inr ((_,.ref b,eJ.of P,by rw[n4,C];rfl),λ_O H2=>t+1<=l.length/\Ux X.K E0 E r i j g f l o a W (t+1) _O H2,λ_O H2 n=>(_,Z_ _ _ B,rfl,n.1,n.2),λznn H2 yl=>?_);let(rfl,yl):=yl;have cb:=by have:=yl _<|eJ.of P;rw[n4,C]at this;show(l8 this).symm
   subst cb;rw[as]at I;simp?[yR]at I;show dj λQ=>?_;let(d,f1,I):=zb I;let(kk,f2,I):=zb I;let(dk,f3,f2):=zb f2;let(T,f4,I):=zb I;let(cm,f5,I):=zq I;show Q ?_;have co:(dn++l.drop t)[t]? = aF l[t]:=by rw[as,pv<|Ms G,G];simp
   have Y:(u.set i v0).set i (aF (.ref b))=u.set i (aF (.ref b)):=ML ..;have am:=R.rc.row ad (by rw[fW U];show M) ap c9 C co (by simp;show ac);simp?[zkn U,Y]at am;show(F,wu r j i l[t],d,?_,f1,λv H3 cq x3 r3=>?_)
   .rw[Y];show am
   have bd:=am.ext x3;show dj λQ=>?_;let(b',xs,p1,p2,p3,p4):=bd.own i l[t] (by erw[wu];rw[mV (~~~ac)]);show Q ?_;have ct:b'=b:=by
    rw[mV (by
     have:=am.len;simp[wu]at this;rw[this];show ac)]at p1
    cases p1;rfl
   subst ct;show(_,by rw[Y];show p1,cq,wu r j i l[t],dk,by rw[Y];show bd,f3,λv2 H4 cw x4 r4=>?_);rw[jT f2]at r4;show(b',xs,kk,T,rfl,jL r4,x4.s1 _ _ p3,by rw[p4.length];show mh f4,?_);have b1:=((R.step x3).step x4).forget (i:=i) (v:=aF (.ref b'));simp?[(ML ..),Y]at b1;show dj λQ=>?_;let(a2,cx,w1,b2,cy):=b1.rc.kq.1 j _ ad;show Q ?_;rw[fW U,M]at w1;cases w1;have bg:=x4.s1 _ _<|x3.s1 _ _ P;have d0:cx=W:=by have:=b2.ha;rw[bg]at this;injection this with this;injection this with this;show(vP this).symm
   subst d0;have bi:=b1.ziS ad (by rw[fW U];show M) b2 cy C<|(p4.mono x4.s0).set T (r3.mono x4.s0);show(B,cw,dn++[l[t].set T d],cm,u,aF (.ref b'),by simp[G],M,Y,by rw[zC (λq=>(pU.mp b2.nd).1 (by rw[q];show oA C))];show bg,?_,f5,by rw[er,<-I];simp);rw[Y];have eR:(dn++l.drop t).set t (l[t].set T d)=(dn++[l[t].set T d])++l.drop (t+1):=by rw[as,List.set_append_right _ _<|Ms G,G,Nat.sub_self,List.append_assoc];rfl
   rw[eR,zhx U]at bi;show bi
  .have zhk:t=l.length:=()
   subst zhk;rw[L7]at I;cases I;rw[L7]at R;show .inl ((_,eJ.of P,by simp[al]),?_);rw[er]at b5;show b5 _ _ F R
end
end DL
namespace L2
open PySem PySem.Spec PyProof.Rows
def Ta(K:cL):V->zn V->Hp->VK->Prop:=λx d H Q=>∃y p b,x=.str y/\d=[.ref p]/\eJ K H p (b.map V.str)/\Builtin.Str.tooLong (b.toArray.foldl (λa p=>a+p.length+y.length) 0)=bB/\Q (.str<|ng y b) H
theorem zj0(r:d8 (e.map V.str) us):∃l,strValues l=us/\l.map (·.1)=e:=by
 induction e generalizing us with
 |nil=>cases r;show([],rfl,rfl)
 |cons z e y=>
  cases r with|cons r t=>?_;let(a,rfl):=r;let(l,rfl,h):=y t;show((z,a)::l,rfl,by simp[h])
theorem IZ:B8 X "str.join" (Ta X.K):=by intro a s n H x i v g Q I J O h;let(y,p,m,rfl,rfl,f,z,q):=h;let(t,rfl):=J;let(j,rfl,rw):=yc O;cases rw;show dj λU=>?_;let(Y,r,W,Z):=I.list f;let(l,rfl,e):=zj0 r;show U ?_;subst e;show o5 F.slot_str_join (B0 _ _ _) F.entry_str_join (F.args_str_join_2 _ _) (meets_str_join_list y t p l z) (W.isList,post_join l (joinFit_length z,λd k=>?_));show(.str _,H,(I.kept λb o e=>e),(d,?_),q);change Value.str (Builtin.Str.glued y _) d=_;rw[StrLaws.glued_eq_join]
end L2
namespace DL
open PySem PySem.Spec PyProof.Rows L2
theorem wG{K:cL}{H:Hp}:∀{z:zn D} {xs:zn V} {l:zn Str},di K H z xs->ba z=aF l->xs=l.map V.str
 |[],xs,l,r,e=>by cases e;rw[r];rfl
 | d::z,xs,l,r,e=>by
  let(x,h,rfl,b,f):=(r);cases d with
  |str i=>
   let(g,a,rfl):=zq e;rw[wG f a,b];rfl
  |_=>cases e
section
variable{X:Cx}{sc:e9}{N L:zn Str}{k:Nat}{o e a b:dE}{apos cpos pos p:eg}{f g:CO D}{q:CO (Sk×zn D)}
theorem Zn(h:zT x=aG):x.length<=1000:=of_decide_eq_true h
theorem Zm(h:zT x=aG):x.length<=ej:=fZ (Zn h) ()
theorem kE(J:PV X o f)(B:PQ X e q)(O:pF o "join" ⋯ (dv o ⋯)=dv o ⋯:=by rfl)
 (U:((gE cpos<|starEach [e] ⋯).all (λx=> !x.1)&&(pG cpos<|keywordEach [] ⋯).all (λx=>x.1.isSome)&&decide ([e].length+([]:zn rn).length+(if ([]:zn rn).isEmpty then 0 else 1)<30))=aG:=by rfl)
 (W:(apos.endLine==cpos.line)=aG:=by rfl) (hs:dU [e] ⋯=[(bB,dv e ⋯)]:=by rfl):PV X (.Call (.Attribute o "join" apos) [e] [] cpos) (wA f q):=
 j3 (CZ _b PySem.F.slot_str_join PySem.F.type_str_join IZ J (zS B jH hs) O U W hs rfl) λS H Q Y=>by
  show dj λZ=>?_;let(j,i,d,h,z,G):=Y;let(n,s,z):=zb z;let((E,p),t,z):=zb z;show Z ?_;cases n with
  | str I=>
   cases E with
   | L=>
    let(l,u,z):=zb z;by_cases b:l.length<=lim/\l.all zT=aG/\zT I=aG
    .rw[DJ b]at z;cases z
     show(j,i,_,h,s,λv N g x r=>?_);rw[r];show(rfl,g,i,.L,p,h.ext x,t,λa R k m M A P K=>?_);have w:=wG K u;subst w;show(I,a,l,rfl,rfl,A,StrLaws.joinFits (λy C=>Zn<|om.mp b.2.1 y C) ?_,G _ k m (x.trans M) rfl);have:lim=2500:=rfl;have:l.length*I.length<=2500*1000:=Nat.mul_le_mul ()<|Zn b.2.2;lia
    .rw[DY b]at z;cases z
   |T=>cases z
  |_=>cases z
theorem Cr(B:PV X a f)(S:PV X b g)(hs:ig b:=by intro _ _;rfl):PV X (.Subscript a b pos) (iT f g):=
 j3 (Oa OO B S hs) λA H Q J=>by
  let(n,m,d,l,y,q):=J;let(O,s,y):=zb y;let(i,I,y):=zb y;let(U,W,I):=zb I;cases O with
  | str z=>
   by_cases h:zT z=aG
   .have y:(if zT z=aG then (fX _ i).bind _ else aT)=aF d:=y
    rw[DJ h]at y;let(j,Y,y):=zb y;let(c,Z,rfl):=zq y;show(n,m,_,l,s,λv u e x r=>(e,m,U,l.ext x,W,λw o p t k=>?_));rw[jT I]at k;show(z,i,c,r,jL k,Zm h,?_,q _ o p (x.trans t) rfl);erw[sV];rw[mh Y];show Z
   lia
  |_=>cases y
theorem Im(h:SX X sc N L k)(c:xP sc "len" = aG)(z:X.mg "len" = aT)(B:PV X e f)(hs:dU [e] ⋯=[(bB,dv e ⋯)]:=by rfl):PV X (.Call (.Name "len" p) [e] [] pos) (Nc f):=
 j3 (vM dD (h.gl c).1 z PySem.boot_len (zS B jH hs) () () hs rfl) λn H Q I=>by
  let(i,m,d,l,y,q):=I;let(J,j,y):=zb y;cases J with
  | str z=>
   by_cases b:zT z=aG
   .have y:(if zT z=aG then aF _ else aT)=aF d:=y
    rw[DJ b]at y;cases y;show(i,m,_,l,j,λv g a x r=>(z,by rw[r],Zm b,q _ g a x rfl))
   lia
  |_=>cases y
end
section
variable{X:Cx}{sc:e9}{N L:zn Str}{k:Nat}{b:dE}{f:CO D}
theorem Nw(h:SX X sc N L k)(c:xP sc "min" = aG)(z:X.mg "min" = aT)(B:PV X a f)(S:PV X b g)(hs:dU [a,b] ⋯=[(bB,dv a ⋯),(bB,dv b ⋯)]:=by rfl)(I:dU [b] ⋯=[(bB,dv b ⋯)]:=by rfl):
 PV X (.Call (.Name "min" p) [a,b] [] pos) (Nb f g):=
 j3 (vM (Be h.calm) (h.gl c).1 z PyProof.Rows.boot_min (zS B (zS S jH I)<|by rw[hs,I]) () () (by rw[hs,I]) (by rw[I];rfl)) λF H Q O=>by show dj λU=>?_;let(s,o,d,n,y,q):=O;let(i,l,y):=zb y;let(W,Y,l):=zb l;let(j,J,y):=zq y;let(Z,w,J):=zb J;show U ?_;subst y;show(s,o,W,n,Y,λv C e x r=>(e,o,Z,n.ext x,w,λE t u A m=>(i,j,?_,q _ t u (x.trans A) rfl)));rw[jT l]at r;rw[jT J]at m;rw[jL r,jL m]
end
end DL
namespace DL
open PySem PySem.Spec PySem.Calls PyProof.Rows PySem.W PySem.Builtin PySem.Builtin.ObjectAttr
section
variable{prog:eA}{w:eu}{A:hO}{E:EQ}{h:dV}{g:Array D9}{d:Drawn}{t:Nat}{os:N9}{K:Frag}{x C S:cI}{cd:ClassData}{vs:Array da}{name:Str}{v:da}
theorem zin{tk:mr}{Q:Fin->dy->Prop}(X:K.In h){od:xz cI}(Y:od=aT)(z:h.get? x=aF (.ref C,od,.fields vs,#[]))(I:s9 K C=aF cd)(B:cd.mro=.ref C :: .ref S::pf)(a6:cd.hasDict=aG)(H:uD K (.ref C) name=aF aT)
 (L:∀h' e Z,h.get? e=aT->h'.get? x=aF (.ref C,aF e,.fields vs,#[])->h'.Ns1 e (λy=>if y=name then aF v else aT)->(∀b o,b≠x->h.get? b=aF o->h'.get? b=aF o)->Q (.done<|.ret .none) (h',g,d,Z,os)):
 wpAny (dq prog w) A (Builtin.«object.__setattr__» ([.ref x,.str name tk,v],[])) Q E (h,g,d,t,os):=by
 have J:sT (dq prog w) h (mroOf<|.ref C) cd.mro:=(i_ X I).andThen .now;rw[B]at J
 repeat (first|rw[refuse_eq]|(rw[refuseLoop_ref,refuseLoop_ref];erw[pf];rw[(zr.passes<|.ref x)])|(with_reducible show tY z ?_)|(with_reducible show J.at ?_)|(with_reducible show(uQ (M:=dq prog w) X H).at ?_)|(with_reducible show(i_ (M:=dq prog w) X I).at ?_)|wp_step)
 subst Y;have O:(h.push {cls:=.type "dict",data:=.dict #[]}).get? x=_:=eo _ z;have U:=gq (ft z);show cS (wpAny_alloc' ?_);show cS (wpAny_update' O ?_);show d7 ?_;erw[storeInDict,newKeyGuard];show cS (d7 (cS (wpAny_nsSet1 (Heap.Ns1.of_empty (_,#[],_,(DF _ _ _ _ U.symm).trans (Heap.get?_push_at rfl rfl),rfl,λe m=>absurd m (),λ_=>rfl)) λh' W f=>?_)));show dj λn=>?_;let(oD,p,r,i,j,k):=W.count (D6.cons name v D6.nil);show n ?_;show cS (wpAny_lookBehind i (by rw[j];show pastItsLine_dict (fZ k (by simp?[nK,zp,oo];lia))) ?_);show d7 (L h' h.objs.size _ (RY (ec _)) ?_ W λb o l a=>(f.2 b (gq (ft a))).trans ((DF _ _ _ _ l).trans (eo _ a)))
 .refine(f.2 x U).trans (zP _ O rfl)
theorem zio{o:gB}{y:da}{Q:Unit->dy->Prop}{M:Model}(X:K.In h)(z:h.get? x=aF o)(B:o.cls=.ref C)(I:mroIn K C (.type "object")=aF aG)(e:Q ⟨⟩ (h,g,d,t,os)):
 wpAny M A (U0 "object.__setattr__" ([.ref x,y,v],[])) Q E (h,g,d,t,os):=by
 have J:sT M h (Dw (.ref x)) (.ref C):=B ▸ (Looks.ld z).andThen .now;have O:=j' (M:=M) X I;have a:=zr.args (.ref x) y v;simp?[U0,zr.kind,zr.split];show cS ?_;show(J.andThen O).at ?_;rw[DY ()];erw[argsOk]at a;cases hs:Manifest.signature? "object.__setattr__" with
 |none=>show d7 e
 |some U=>
  rw[hs]at a;show B3 a e
theorem zaL{Q:Unit->dy->Prop}(X:K.In h)(z:h.get? x=aF (.ref C,aT,.fields vs,#[]))(hs:uD K (.ref C) "__setattr__" = aF (aF (.builtin "object.__setattr__")))(J:mroIn K C (.type "object")=aF aG)
 (O:s9 K C=aF cd) (B:cd.mro=.ref C :: .ref S::pf) (U:cd.hasDict=aG) (H:uD K (.ref C) name=aF aT)
 (L:∀h' e I,h.get? e=aT->h'.get? x=aF (.ref C,aF e,.fields vs,#[])->h'.Ns1 e (λy=>if y=name then aF v else aT)->(∀b o,b≠x->h.get? b=aF o->h'.get? b=aF o)->Q ⟨⟩ (h',g,d,I,os)):
 wpAny (dq prog w) A (P9 (.ref x) name v) Q E (h,g,d,t,os):=by
 have W:sT (dq prog w) h (Dw<|.ref x) (.ref C):=(Looks.ld z).andThen .now;have j:=zr.slot.bind<|.ref x;erw[P9,callSpecial?,specialOf]
 repeat (any_goals (first|assumption|(with_reducible show W.at ?_)|(with_reducible show(uQ (M:=dq prog w) X hs).at ?_)|wp_step))
 show DE zr.slot.plain zr.entry<|zio X z rfl J<|zin X rfl z O B U H λh' e I Y Z a f=>?_;have i:=L h' e I Y Z a f
 repeat (any_goals (first|assumption|wp_step))
end
end DL
namespace DL
open PySem PySem.Spec PySem.Calls PyProof.Rows PySem.W
def aK(C:cI)(dd:xz cI)(e:cI):gB:=(.ref C,dd,.fields #[.ref e,.none,.none,.none,.bool bB,.none],#[])
section
variable{prog:eA}{w:eu}{A:hO}{E:EQ}{h:dV}{g:Array D9}{d:Drawn}{t:Nat}{os:N9}
variable{nm q:Str}{C N x:cI}{bs bm:zn da}{hdct:Bool}{sn:zn Str}{sub:zn da}{ab:Bool}{col:xz Bool}{dd:xz cI}{k0 k1 k2 k3 k5:xz da}{a0:cI}{u:da}
theorem Sw{Q:EQ}(T:OwnTail h pf bm)(z:h.get? C=aF (Fx nm q C N bs bm hdct sn sub ab col dd k0 k1 k2 k3 k5 "ValueError.__new__"))(y:h.get? x=aF (aK C aT a0))
 (B:∀h' I,h'.get? x=aF (aK C aT I)->(∀b o,b≠x->h.get? b=aF o->h'.get? b=aF o)->Q .none (h',g,d,t,os)):
 wpAny (dq prog w) A (call (.builtin "ValueError.__init__") [.ref x,u]) Q E (h,g,d,t,os):=by
 have F:=U';show q0<|DE F.init.plain F.initEntry<|wpAny_check_init_subT F T z y rfl ?_
 wp_walk
 show B _ h.objs.size ?_ λb o a e=>(DF _ _ _ _ a).trans (eo _ e)
 .rw[zP _ (eo _ y) rfl];rfl
theorem ziq{rest:zn da}{B:cI}{O:gB}{Q:Fin->dy->Prop}(T:OwnTail h pf bm)(y:h.get? C=aF (Fx nm q C N bs bm hdct sn sub ab col dd k0 k1 k2 k3 k5 "ValueError.__new__"))
 (U:sT (dq prog w) h (Dv (.ref C) "__init__") (aF (.ref B))) (W:h.get? B=aF O) (Y:O.cls=.type "function") (Z:rest.length<=ej)
 (L:∀h' e a0,h.get? e=aT->h'.get? e=aF (aK C aT a0)->(∀b o,h.get? b=aF o->h'.get? b=aF o)->wpAny (dq prog w) A (call (.ref B) (.ref e::rest)) (λr H=>r=.none/\Q (.done<|.ret<|.ref e) H) E (h',g,d,t,os)):
 wpAny (dq prog w) A (Builtin.«type.__call__» (.ref C::rest,[])) Q E (h,g,d,t,os):=by
 have F:=U'
 repeat (first|with_reducible show wpAny_madeBy_exc y ?_|with_reducible show tY y ?_|wp_step)
 show codeAny_call_builtin_code (S5 _ F.quiet) (wpAny_check_new_subT F T y (codeAny_exc_new_subT F T y ?_ Z));have I b o:h.get? b=aF o->((h.push {cls:=.type "tuple",data:=.seq rest.toArray}).push (aK C aT h.objs.size)).get? b=aF o:=λe=>eo _ (eo _ e);have J:((h.push {cls:=.type "tuple",data:=.seq rest.toArray}).push (aK C aT h.objs.size)).get? (h.objs.size+1)=aF (aK C aT h.objs.size):=by heap_get
 have f:(nq C::bm).contains (.ref C)=aG:=by simp
 change wpAny _ _ _ _ _ ((h.push {cls:=.type "tuple",data:=.seq rest.toArray}).push (aK C aT h.objs.size),_,_,_,_);have j:=T.keeps I;have i:=I _ _ W;have a:=(L _ (h.objs.size+1) h.objs.size (RY (uc _)) J);generalize (h.push {cls:=.type "tuple",data:=.seq rest.toArray}).push (aK C aT h.objs.size)=h2 at *;erw[YP]
 repeat (first|with_reducible show tY J ?_|wp_step)
 show zlv (I _ _ y) ?_;rw[f];show cS<|m7 ?_;erw[callSpecial?,specialOf]
 repeat (first|with_reducible show tY J ?_|wp_step)
 show(U.keeps I).at ?_;show m7<|cS ?_;erw[bindSpecial];show cS<|z4 (_,i,Y) ?_;rw[DJ ()];show d7<|cS<|fU (a I) (λr H z=>?_) λ_ _ z=>z;let(rfl,z):=z
 wp_walk
 show z
theorem Sy{rest:zn da}{B:cI}{z:gB}{Q:EQ}(T:OwnTail h pf bm)(y:h.get? C=aF (Fx nm q C N bs bm hdct sn sub ab col dd k0 k1 k2 k3 k5 "ValueError.__new__"))
 (I:sT (dq prog w) h (Dv (.ref C) "__init__") (aF (.ref B))) (J:h.get? B=aF z) (O:z.cls=.type "function") (U:rest.length<=ej)
 (H:∀h' e a0,h.get? e=aT->h'.get? e=aF (aK C aT a0)->(∀b o,h.get? b=aF o->h'.get? b=aF o)->
   wpAny (dq prog w) (A.under (.builtin "type.__call__" (.ref C::rest,[]))) (call (.ref B) (.ref e::rest)) (λr L=>r=.none/\Q (.ref e) L) E (h',g,d,t,os)):
 wpAny (dq prog w) A (call (.ref C) rest) Q E (h,g,d,t,os):=by
 have f1:=tc_lookup;have W:=tc_bind (.ref C);have Y:((h,g,d,t,os):dy).TypeIs (.ref C) "type":=(_,y,rfl);show q0 (codeAny_of_tree (?_))
 repeat (any_goals (first|assumption|with_reducible show tY y ?_|wp_step))
 show(rfl,codeAny_call_builtin_at (S5 _ ()) entry_typeCall<|wpAny_check_type_call_sub y<|ziq T y I J O U H)
end
end DL
namespace DL
open PySem PySem.Spec PySem.Calls PyProof.Rows PySem.W PySem.Builtin PySem.Builtin.ObjectAttr
section
variable{prog:eA}{w:eu}{A:hO}{E:EQ}{h:dV}{g:Array D9}{dr:Drawn}{t:Nat}{os:N9}{K:Frag}{x C d:cI}{cd:ClassData}{name:Str}{mA:DZ}{i:Int}{tk:mr}
theorem zir{z:mr}{Q:Fin->dy->Prop}(X:K.In h){vs:Array da}{L:Array (xz da)}(y:h.get? x=aF (.ref C,aF d,.fields vs,L))(B:h.Ns1 d mA)(e:mA name=aF (.int i tk))(I:s9 K C=aF cd)(O:cd.hasDict=aG)(J:uD K (.ref C) name=aF aT)
 (H:Q (.done<|.ret<|.int i tk) (h,g,dr,t,os)):wpAny (dq prog w) A (Builtin.«object.__getattribute__» ([.ref x,.str name z],[])) Q E (h,g,dr,t,os):=by
 repeat (first|(with_reducible show wpAny_nsGet B.ns ?_;rw[e])|(with_reducible show((Looks.ld y).andThen .now).at ?_)|(with_reducible show(uQ (M:=dq prog w) X J).at ?_)|(with_reducible show(i_ (M:=dq prog w) X I).at ?_)|(with_reducible show tY y ?_)|wp_step)
 all_goals show H
theorem zaO{ex:Bool}{Q:EQ}(X:K.In h)(G:uz K C){vs:Array da}{L:Array (xz da)}(y:h.get? x=aF (.ref C,aF d,.fields vs,L))(H:h.Ns1 d mA)(e:mA name=aF (.int i tk))(J:s9 K C=aF cd)(O:cd.hasDict=aG)(U:uD K (.ref C) name=aF aT)
 (hq:∀t',Q (.int i tk) (h,g,dr,t',os)):wpAny (dq prog w) A (FG (.ref x) name ex) Q E (h,g,dr,t,os):=by
 have W:sT (dq prog w) h (Dw (.ref x)) (.ref C):=(Looks.ld y).andThen .now;have B:=R5.ga.bind (.ref x);erw[FG,getAttrBy];show cS (E' (m7 (cS (W.at (cS ((uQ (M:=dq prog w) X G.ga).at ?_))))));erw[getAttrByItsOwn];show cS ((uQ (M:=dq prog w) X G.gn).at ?_);show cS (v7 (m7 ?_));have a:wpAny (dq prog w) A (O4 (.builtin "BaseException.__getattribute__") (.ref x) (.str name t)) (λv b=>v=.int i tk/\b=(h,g,dr,t+1,os)) (λ_ _=>False) (h,g,dr,t+1,os):=by erw[O4];show cS (B3 B (q0 (DE R5.ga.plain PySem.F.entry_bexc_ga (dh X (_,_,y,rfl,rfl) G (zir X y H e J O U (rfl,rfl))))))
 have I:∀b,b=((h,g,dr,t+1,os))->wpAny (dq prog w) A _ Q E b:=λb z=>by subst z;show handed_on rfl<|hq _
 cases ex with
 |false=>
  show fU a (λv b z=>?_) λ_ _ z=>z.elim;let(rfl,z):=z;show I _ z
 |true=>
  show fU a (λv b z=>?_) λ_ _ z=>z.elim;let(rfl,z):=z;show I _ z
end
end DL
namespace DL
open PySem PySem.Spec PySem.Calls PyProof.Rows
def YX(e d:cI)(h:dV):Prop:=∃o,h.get? e=aF o/\o.dict=aF d
def BC(e:cI)(h:dV):Prop:=∃o a,h.get? e=aF o/\o.data=.fields a/\a[2]? = aF lC
inductive DS{α:Type}:ip α->Prop
 |pure (a:α):DS (.pure a)
 |raise (e:da):DS (.raise e)
 |oT (w:String):DS (.unsupported w)
 |rule {t:String} {k:Unit->ip α} (h:∀u,DS<|k u):DS (.rule t k)
 |at {p:eg} {k:Unit->ip α} (h:∀u,DS<|k u):DS (.at p k)
 |load {a:cI} {p:Option da} {k:gB->ip α} (h:∀o,DS<|k o):DS (.load a p k)
 |update {a:cI} {p:Option da} {f:gB->gB} {k:Unit->ip α} (hf:∀o,(f o).dict=o.dict/\(o.isFreed=bB->(f o).isFreed=bB)/\∀vs,o.data=.fields vs->∃RO,(f o).data=.fields RO/\RO[2]? = vs[2]?) (h:∀u,DS<|k u):DS (.update a p f k)
 |alloc {o:gB} {k:cI->ip α} (h:∀a,DS<|k a):DS (.alloc o k)
 |register {a:cI} {k:Unit->ip α}:DS (.register a k)
 |fresh {k:mr->ip α} (h:∀a,DS<|k a):DS (.fresh k)
 |ask {k:Setting->ip α} (h:∀a,DS<|k a):DS (.ask k)
 |stack {k:List (Code×eg)->ip α} (h:∀a,DS<|k a):DS (.stack k)
 |handled {b:Bool} {k:Option da->ip α} (h:∀a,DS<|k a):DS (.handled b k)
 |point {l:List da} {k:Unit->ip α} (h:∀a,DS<|k a):DS (.point l k)
theorem Sz{H:Type}{M:Model}{Γ:PySem.Ctx}{e d:cI}{t:ip H}(h:DS t):∀{Q:H->eg->dy->Prop} {E:da->eg->dy->Prop} {p:eg} {s:dy},YX e d s.heap->Sem.wp M Γ t Q E p s->
 Sem.wp M Γ t (λa J B=>Q a J B/\YX e d B.heap) (λx J B=>E x J B/\YX e d B.heap) p s:=by
 induction h with
 |pure a=>intro Q E p s b w;show(w,b)
 |raise x=>intro Q E p s b w;show(w,b)
 |oT x=>intro Q E p s b w;rw[Sem.wp]at w;show w.elim
 |rule h y=>intro Q E p s b w;show y _ b w
 |«at» h y=>intro Q E p s b w;show y _ b w
 |load h y=>intro Q E p s b w;let(o,z,w):=w;show(o,z,y _ b w)
 | @update a p f k g h y=>
  intro Q E p s b w;let(i,w):=w;show(i,y _ ?_ w);let(o,z,I):=b;by_cases q:a=e
  .subst q
   show(f o,zP _ z<|(g o).2.1 (Heap.get?_some_iff.mp z).2,by rw[(g o).1];show I)
  .exact(o,(qs _ _ q).trans z,I)
 |alloc h y=>intro Q E p s b w;let(o,z,I):=b;show y _ (o,eo _ z,I) w
 |register=>intro Q E p s b w;rw[Sem.wp]at w;show w.elim
 |fresh h y=>intro Q E p s b w;show y _ b w
 |ask h y=>intro Q E p s b w;show y _ b w
 |stack h y=>intro Q E p s b w;show y _ b w
 |handled h y=>intro Q E p s b w;show y _ b w
 |point h y=>intro Q E p s b w;show y _ b w
theorem Mu{H:Type}{M:Model}{Γ:PySem.Ctx}{e:cI}{t:ip H}(h:DS t):∀{Q:H->eg->dy->Prop} {E:da->eg->dy->Prop} {p:eg} {s:dy},BC e s.heap->Sem.wp M Γ t Q E p s->
 Sem.wp M Γ t (λa J B=>Q a J B/\BC e B.heap) (λx J B=>E x J B/\BC e B.heap) p s:=by
 induction h with
 |pure a=>intro Q E p s b w;show(w,b)
 |raise x=>intro Q E p s b w;show(w,b)
 |oT x=>intro Q E p s b w;rw[Sem.wp]at w;show w.elim
 |rule h y=>intro Q E p s b w;show y _ b w
 |«at» h y=>intro Q E p s b w;show y _ b w
 |load h y=>intro Q E p s b w;let(o,z,w):=w;show(o,z,y _ b w)
 | @update a p f k j h y=>
  intro Q E p s b w;let(l,w):=w;show(l,y _ ?_ w);let(o,d,z,I,i):=b;by_cases q:a=e
  .subst q
   let(g,m,n):=(j o).2.2 d I;show(f o,g,zP _ z<|(j o).2.1 (Heap.get?_some_iff.mp z).2,m,n.trans i)
  .exact(o,d,(qs _ _ q).trans z,I,i)
 |alloc h y=>intro Q E p s b w;let(o,d,z,I):=b;show y _ (o,d,eo _ z,I) w
 |register=>intro Q E p s b w;rw[Sem.wp]at w;show w.elim
 |fresh h y=>intro Q E p s b w;show y _ b w
 |ask h y=>intro Q E p s b w;show y _ b w
 |stack h y=>intro Q E p s b w;show y _ b w
 |handled h y=>intro Q E p s b w;show y _ b w
 |point h y=>intro Q E p s b w;show y _ b w
theorem BM(h:DS t)(B:YX e d s.heap)(w:wpAny M A t Q E s):
 wpAny M A t (λa z=>Q a z/\YX e d z.heap) (λx z=>E x z/\YX e d z.heap) s:=λΓ p y=>Sz h B<|w Γ p y
theorem aM(h:DS t)(B:BC e s.heap)(w:wpAny M A t Q E s):
 wpAny M A t (λa z=>Q a z/\BC e z.heap) (λx z=>E x z/\BC e z.heap) s:=λΓ p y=>Mu h B<|w Γ p y
theorem DS.bind(h:DS t)(z:∀a,DS<|k a):DS (t >>= k):=by
 induction h with
 |pure a=>show z a
 |raise x=>show .raise x
 |oT x=>show .oT x
 |rule h y=>show .rule y
 |«at» h y=>show .at y
 |load h y=>show .load y
 |update b h y=>show .update b y
 |alloc h y=>show .alloc y
 |register=>show .register
 |fresh h y=>show .fresh y
 |ask h y=>show .ask y
 |stack h y=>show .stack y
 |handled h y=>show .handled y
 |point h y=>show .point y
theorem K8(g:Array da->Array da)(y:∀vs,(g vs)[2]? = vs[2]?)(o:gB):(Obj.mapFields g o).dict=o.dict/\(o.isFreed=bB->(Obj.mapFields g o).isFreed=bB)/\∀vs,o.data=.fields vs->∃e,(Obj.mapFields g o).data=.fields e/\e[2]? = vs[2]? :=by let(c,d,z,a):=o;cases z<;>first|show(rfl,λh=>h,λvs q=>by cases q;show(_,rfl,y _))|show(rfl,λh=>h,λvs q=>nomatch q)
theorem X5(v:da)(i:Nat):DS (field v i):=by
 erw[field,fieldsOf,load]
 repeat (first|show DS.oT _|show DS.pure _|show DS.raise _|show DS.register|show DS.bind ?_ λ_=>?_|show DS.load λ_=>?_|show DS.rule λ_=>?_|show DS.alloc λ_=>?_|show DS.stack λ_=>?_|show DS.update (λo=>(rfl,λh=>h,λa q=>(a,q,rfl))) λ_=>?_|show DS.update (K8 _<|by intro a;simp[K3,Pf]) λ_=>?_|split)
theorem Je(v:da)(i:Nat)(x:da)(y:i≠2:=by decide):DS (Rn v i x):=by
 erw[Rn,updateField,update,load]
 repeat (first|show DS.oT _|show DS.pure _|show DS.raise _|show DS.register|show DS.bind ?_ λ_=>?_|show DS.load λ_=>?_|show DS.rule λ_=>?_|show DS.alloc λ_=>?_|show DS.stack λ_=>?_|show DS.update (λo=>(rfl,λh=>h,λa q=>(a,q,rfl))) λ_=>?_|show DS.update (K8 _<|by intro a;simp[K3,y]) λ_=>?_|split)
theorem wY(e:da)(f:xz cI):DS (Dl e f):=by
 erw[Dl];show DS.bind (X5 _ _) λ_=>?_;split
 .exact Je _ _ _
 .exact DS.pure _
theorem Pe(ty:String)(vs:zn da):DS (newFields ty vs):=by
 erw[newFields,newObj,newObjAsIs]
 repeat (first|show DS.oT _|show DS.pure _|show DS.raise _|show DS.register|show DS.bind ?_ λ_=>?_|show DS.load λ_=>?_|show DS.rule λ_=>?_|show DS.alloc λ_=>?_|show DS.stack λ_=>?_|show DS.update (λo=>(rfl,λh=>h,λvs q=>(vs,q,rfl))) λ_=>?_|show DS.update (K8 _<|by intro vs;simp[K3,Pf]) λ_=>?_|split)
theorem Ff(f:cI)(b:Bool):DS (U4 f b):=by
 erw[U4,stack]
 repeat (first|show DS.oT _|show DS.pure _|show DS.raise _|show DS.register|show DS.bind ?_ λ_=>?_|show DS.load λ_=>?_|show DS.rule λ_=>?_|show DS.alloc λ_=>?_|show DS.stack λ_=>?_|show DS.update (λo=>(rfl,λh=>h,λa q=>(a,q,rfl))) λ_=>?_|show DS.update (K8 _<|by intro a;simp[K3,Pf]) λ_=>?_|split)
theorem AI:DS zlb:=by
 erw[zlb]
 repeat (first|show DS.oT _|show DS.pure _|show DS.raise _|show DS.register|show DS.bind ?_ λ_=>?_|show DS.load λ_=>?_|show DS.rule λ_=>?_|show DS.alloc λ_=>?_|show DS.stack λ_=>?_|show DS.update (λo=>(rfl,λh=>h,λa q=>(a,q,rfl))) λ_=>?_|show DS.update (K8 _<|by intro a;simp[K3,Pf]) λ_=>?_|split)
theorem AJ(env:hH)(outer:zn hH):DS (behindIsImport env outer):=by
 erw[behindIsImport];split
 .exact DS.pure _
 .split
  .exact DS.pure _
  .exact DS.bind (X5 _ _) λ_=>DS.pure _
theorem LB(env:hH)(b:Bool)(outer:zn hH):DS (keptBack env b outer):=by
 erw[keptBack];split
 .split
  .exact DS.pure _
  .exact DS.bind AI λ_=>DS.pure _
 .exact DS.pure _
theorem mz:∀l,DS (readyFrames l)
 |[]=>DS.pure _
 | env::outer=>by
  erw[readyFrames];split
  .unfold load update
   show DS.bind (DS.load λ_=>DS.pure _) λo=>?_;split
   .exact DS.pure _
   .refine DS.bind (AJ _ _) λ_=>DS.bind (LB _ _ _) λ_=>DS.bind (DS.update (λo=>(rfl,λh=>by let(c,d,y,b):=o;cases y<;>show h,λa q=>(a,(),rfl))) λ_=>DS.pure _) λ_=>mz outer
  .exact DS.oT _
theorem Fg(env:hH):DS (PySem.frameOf env):=by
 erw[PySem.frameOf,frameEnvs,stack];show DS.bind (DS.bind (DS.stack λ_=>DS.pure _) λ_=>DS.pure _) λl=>DS.bind ?_ λ_=>?_
 .unfold frameObject
  split
  .exact DS.pure _
  .exact DS.bind (mz _) λ_=>DS.pure _
 .split
  .exact DS.pure _
  .exact DS.oT _
theorem AH(e:da)(env:hH):DS (P6 e env):=by
 erw[P6];split
 .refine DS.bind (X5 _ _) λa=>?_
  have y f:∀b,DS (do Rn e 1 (<-EntryCells.newEntry a (<-PySem.frameOf env) .none (rawInt f) .none (<-U4 f b))):=λb=>by show DS.bind (Fg _) λ_=>DS.bind (Ff _ _) λ_=>?_;erw[EntryCells.newEntry];show DS.bind (Pe _ _) λ_=>Je _ _ _
  split
  .refine DS.bind (X5 _ _) λ_=>?_
   split
   .exact DS.pure _
   .exact DS.bind (Je _ _ _) λ_=>y _ _
  .exact y _ _
 .exact DS.oT _
theorem QZ(env:hH)(e:da):DS (FL env e):=by erw[FL];show DS.bind (AH _ _) λ_=>wY _ _
def ml(od:xz cI)(e:cI)(h:dV):Prop:=(∀d,od=aF d->YX e d h)/\(od=aT->BC e h)
theorem ml.obj(x:ml od e g1)(k:∀o,g1.get? e=aF o->g2.get? e=aF o):ml od e g2:=
 (λd q=>by let(o,z,r):=x.1 d q;show(o,k o z,r),λq=>by let(o,a,z,r):=x.2 q;show(o,a,k o z,r))
theorem wD(h:DS t)(H:ml od e s.heap)(w:wpAny M A t Q E s):
 wpAny M A t (λa B=>Q a B/\ml od e B.heap) E s:=by
 cases od with
 |none=>show fU (aM h (H.2 rfl) w) (λa B z=>(z.1,(λd q=>nomatch q),λ_=>z.2)) λ_ _ z=>z.1
 |some d=>show fU (BM h (H.1 d rfl) w) (λa B z=>(z.1,(λb q=>by lia),λq=>nomatch q)) λ_ _ z=>z.1
section
theorem OD(I:A.frames=aF (env::outer))(H:env.frame=aF L)(J:px base (env::outer) e cls a0 s.heap)(B:ml od e s.heap)
 (O:∀h',Heap.HeldW base (env::outer) e cls a0 L h'->s.heap.UpToSlots h'->ml od e h'->Q ⟨⟩ {s with heap:=h'}):wpAny M A (P6 (.ref e) env) Q E s:=by
 show fU (wD (AH _ _) B<|wpAny_looks_onW (Q:=λ_ a=>∃h',a = {s with heap:=h'}/\Heap.HeldW base (env::outer) e cls a0 L h'/\s.heap.UpToSlots h') I H J λh' x y=>(h',rfl,x,y)) (λ_ a z=>?_) λ_ _ z=>z;let((h',rfl,x,y),w):=z;show O h' x y w
theorem OE(I:Heap.HeldW base l e cls a0 L s.heap)(B:ml od e s.heap)(J:∀h',px base l e cls a0 h'->s.heap.UpToSlots h'->ml od e h'->Q ⟨⟩ {s with heap:=h'}):wpAny M A (Dl (.ref e) aT) Q E s:=by show fU (wD (wY _ _) B<|wpAny_landsW (Q:=λ_ a=>∃h',a = {s with heap:=h'}/\px base l e cls a0 h'/\s.heap.UpToSlots h') I λh' x y=>(h',rfl,x,y)) (λ_ a z=>?_) λ_ _ z=>z;let((h',rfl,x,y),w):=z;show J h' x y w
theorem Rc(I:px base l e cls a0 s.heap)(B:ml od e s.heap)(J:∀h',px base l e cls a0 h'->s.heap.UpToSlots h'->ml od e h'->Q ⟨⟩ {s with heap:=h'}):wpAny M A (Dl (.ref e) aT) Q E s:=by show fU (wD (wY _ _) B<|lands_againW (Q:=λ_ a=>∃h',a = {s with heap:=h'}/\px base l e cls a0 h'/\s.heap.UpToSlots h') I λh' x y=>(h',rfl,x,y)) (λ_ a z=>?_) λ_ _ z=>z;let((h',rfl,x,y),w):=z;show J h' x y w
theorem Ld(I:A.frames=aF (env::outer))(H:env.frame=aF L)(J:px base (env::outer) e cls a0 s.heap)(B:ml od e s.heap)
 (O:∀h',px base outer e cls a0 h'->s.heap.UpToSlots h'->ml od e h'->Q ⟨⟩ {s with heap:=h'}):wpAny M A (FL env<|.ref e) Q E s:=by
 show fU (wD (QZ _ _) B<|wpAny_leaves_onW (Q:=λ_ a=>∃h',a = {s with heap:=h'}/\px base outer e cls a0 h'/\s.heap.UpToSlots h') I H J λh' x y=>(h',rfl,x,y)) (λ_ a z=>?_) λ_ _ z=>z;let((h',rfl,x,y),w):=z;show O h' x y w
theorem Pb(I:A.frames=aF (env::outer))(J:s.heap.FunFrames base (env::outer))(hf:env.frame=aF L)(Z:s.heap.get? e=aF y)(O:base.StaysIn s.heap)(U:base.get? e=aT)(W:y.data=.fields vs)
 (H:vs[1]? = aF .none) (B:vs[0]? = aF a0) (S:ml od e s.heap) (Y:∀h',Heap.LeftW base (env::outer) e y.cls a0 s.heap h'->ml od e h'->Q ⟨⟩ {s with heap:=h'}):wpAny M A (FL env<|.ref e) Q E s:=by
 show fU (wD (QZ _ _) S<|wpAny_leaving_firstW (Q:=λ_ a=>∃h',a = {s with heap:=h'}/\Heap.LeftW base (env::outer) e y.cls a0 s.heap h') I J hf Z O U W H B λh' x=>(h',rfl,x)) (λ_ a z=>?_) λ_ _ z=>z;let((h',rfl,x),w):=z;show Y h' x w
end
end DL
namespace DL
open PySem PySem.Spec PyProof.Rows L2
theorem vy(x:i7 P w H h a o):∃z,h.get? a=aF z:=by
 induction o with
 |lst d=>let(_,_,_,_,e):=x;show(_,e)
 |tup d=>let(_,_,_,z,e,_):=x;show(_,e)
 |dK b=>let(_,_,_,_,o,_,_,e,_):=x;show(_,e)
 |dT b=>let(_,_,_,_,o,_,_,e,_):=x;show(_,e)
 |set S n=>let(o,_,_,_,e,_):=x;show(_,e)
 |ins C g fs=>let(_,_,_,e,_):=x;show(_,e)
 |own y=>assumption
 |xd fs=>let(_,(_,_,_,e,_),_):=x;show(_,e)
 |hM lo i=>let(_,_,_,e):=x;show(_,e)
 |ny z u _=>let(e,_):=x;show(_,e)
 |tE j=>show(_,(x))
 |met f y=>show(_,(x))
 |ext k=>let(_,(_,e),_):=x;show(_,e)
theorem Jc(x:gm P w H h)(k:∀b u,H b≠aT->h.get? b=aF u->h'.get? b=aF u):gm P w H h':=λa o e=>
 (x a o e).og (λb u d q=>k b u (by
   lia) q) (λ_ q=>q) λ_ _ q=>q
theorem Lo(x:gm P w H h)(B:H a=aT)(I:z h)(J:∃o,h.get? a=aF o)
 (L:∀y g2,z y->(∀o,y.get? a=aF o->g2.get? a=aF o)->z g2):gm P w (upd H a<|.ext z) h:=λb o e=>by
 by_cases d:b=a
 .subst d;rw[zA]at e;cases e;show(I,J,L)
 .rw[zC d]at e
  show(x b o e).og (λ_ _ _ q=>q) (λc q=>by rw[zC (jk q B)];show q) λc f q=>by rw[zC (jk q B)];show q
structure _S(l:List hH)(a C:cI)(H':Hp)(h0 h:dV):Prop where
 ex:∃B t,px B l a (.ref C) (.ref t) h/\(∀b o,h.get? b=aF o->H' b≠aT->B.get? b=aF o)/\∀b o,h.get? b=aF o->h0.get? b≠aT->b∉m4 l->B.get? b=aF o
inductive md(P:eA)(w:eu)(outer:List hH)(H:Hp)(s:dy)(E:XK)(e:da)(s':dy):Prop
 |mk (a C H' od) (_:e=.ref a) (_:E (.ref C) od H') (_:ml od a s'.heap) (_:s'.os=s.os) (_:pA s'.gens) (_:Un (m4 outer) [] H H' s.heap s'.heap) (_:gm P w H' s'.heap) (_:H' a=aT) (_:s.heap.get? a=aT) (_:_S outer a C H' s.heap s'.heap)
section
variable{X:Cx}{pins:TW}{σ:St}{H1 H':Hp}{s1 s':dy}{ch:zn cI}{B h2:dV}{a C t:cI}{od:xz cI}{E:XK}
theorem dN(I:Inv X pins σ H1 s1)(J:X.ex=[])(q:s1.heap.get? a=aT):X.g8.heap.get? a=aT:=by
 cases z:X.g8.heap.get? a with
 |none=>rfl
 |some o=>let(b,y):=I.base.there a o z (by rw[J];simp);lia
theorem QU(I:Inv X pins σ H1 s1)(H:X.ex=[])(un:Un (m4 X.stack) ch H1 H' s1.heap s'.heap)(J:∀b o,X.g8.heap.get? b=aF o->b∉ch)
 (L:s'.os=s1.os) (hb:pA s'.gens) (dS:gm X.prog X.w H' s'.heap) (S:H' a=aT) (a7:X.g8.heap.get? a=aT) (e:px B X.outer a (.ref C) (.ref t) h2) (x4:s'.heap.UpToSlots h2)
 (W:∀b o,s'.heap.get? b=aF o->H' b≠aT->B.get? b=aF o) (a9:∀b o,s'.heap.get? b=aF o->s1.heap.get? b≠aT->b∉m4 X.stack->b∉ch->B.get? b=aF o)
 (hE:E (.ref C) od H') (ad:ml od a h2):md X.prog X.w X.outer X.uo X.g8 E (.ref a) {s' with heap:=h2}:=by
 have Y:∀b o,_=aF o->b∉X.fs->b∉_:=λb o q n m=>(eL.mp m).elim (gq<|i9 (ft q) I.ok.above) n;have Z:∀b,b∉X.ex:=by simp[H]
 have u:=(I.base.mono (λb m=>gy _ m) λb m=>absurd m<|Z b).trans (un.mono I.Dp λ_ m=>m);have Q:=λb o d q z n=>
  a9 b o z (λy=>by let(_,k):=I.base.there b d q<|Z b;lia) (λm=>Y b d q n<|I.Dp b m) (J b d q)
 have g b o:X.g8.heap.get? b=aF o->X.uo b=aT->b∈X.fs->∃f,h2.get? b=aF {o with slots:=f}:=λq n m=>by let(_,d,i,l):=I.ok.nz.mem m;rw[q]at i;cases i;let(f,z):=u.any q n<|J b o q;let(j,p):=x4 b _ z l;show(j,p)
 show(a,C,H',od,rfl,hE,ad,L.trans I.os,hb,(λb o q n m _=>e.1 b o<|Q b o o q (u.keep b o q n (Y b o q m)<|J b o q) m,λb o q n m _=>g b o q n m,λb o q n _=>u.free b o q n<|J b o q,λb o q _=>?_,u.nG,u.nW,u.nY),
  Jc dS λb u n q=>e.1 b u<|W b u q n,S,a7,(B,t,e,λb o q n=>?_,λb o q n m=>?_))
 .by_cases m:b∈X.fs
  .let(f,z):=g b o q (I.ok.ph b m) m
   show(_,z)
  .let(O,z):=u.there b o q (J b o q)
   show(O,e.1 b O<|Q b O o q z m)
 .cases q1:H' b with
  |none=>show absurd q1 n
  |some v=>
   let(h,z):=vy<|dS b v q1;have r:=W b h z n;rw[e.1 b h r]at q;lia
 .cases q1:X.g8.heap.get? b with
  |none=>show absurd q1 n
  |some U=>
   let(O,z):=u.there b U q1<|J b U q1;have s:=Q b O U q1 z m;rw[e.1 b O s]at q;lia
end
section
variable{P:eA}{w:eu}{K:cL}{mg:DZ}{base:dV}{N:zn Str}{qual:Str}{scope:e9}{f:cI}{cd:da}{A:hO}{outer:zn hH}{s:dy}{H:Hp}{E:XK}
theorem zjf{e:TW}{S:St}{L:Hp}{B:dy}{h':dV}{a C:cI}{vs:zn da}(I:Inv (du (md P w) P w K mg base N qual scope f cd A outer s H E) e S L B)
 (y:Heap.MadeExcOf B.heap h' a (.ref C) vs) (O:E (.ref C) aT L):(du (md P w) P w K mg base N qual scope f cd A outer s H E).xe (.ref a) {B with heap:=h'}:=by
 have h:∀b o,h'.get? b=aF o->_≠aT->B.heap.get? b=aF o:=λb o q n=>by
  cases z:B.heap.get? b with
  |none=>show absurd z n
  |some l=>rw[y.keeps b l z]at q;show q
 show fU (aM (QZ _<|.ref a) (by let(t,q,_):=y.there;show(_,_,q,rfl,rfl)) (Q:=λ_ J=>BC a J.heap->md P w outer H s E (.ref a) J) ?_) (λ_ _ z=>z.1 z.2) λ_ _ z=>z.1;show wpAny_leaves_madeW I.ok.frames rfl (λb o q=>Y_ _ q)
  (PySem.W.funFrames_hide I.stack λg j b i=>S3.mpr (g,j,i)) y λZ t p x F U Y=>?_
 show QU (ch:=[]) I rfl (Un.kept y.keeps) () rfl I.bare (Jc I.dS λb u _ q=>y.keeps b u q) ?_ (dN I rfl y.new) p U (λb o q n=>?_) (λb o q n m _=>Ml _ (h b o q n) m) O ((λd q=>nomatch q),λ_=>Y)
 .cases q:L a with
  |none=>rfl
  |some u=>let(o,z):=vy<|I.dS a u q;rw[y.new]at z;cases z
 .cases q1:L b with
  |none=>show absurd q1 n
  |some u=>
   let(r,z):=vy<|I.dS b u q1;show Ml _ (h b o q ()) λk=>n<|I.Dn b k
theorem zhR{L:TW}{σ:St}{H1:Hp}{s1 s':dy}{e:da}{y:XK}(I:Inv (du (md P w) P w K mg base N qual scope f cd A outer s H E) L σ H1 s1)
 (J:md P w (du (md P w) P w K mg base N qual scope f cd A outer s H E).stack H1 s1 y e s') (O:∀c o S,y c o S->E c o S):(du (md P w) P w K mg base N qual scope f cd A outer s H E).xe e s':=by
 let(a,C,S,u,rfl,Q,U,W,Y,un,d,Z,g,(B,t,k,h,i)):=J;show Ld I.ok.frames rfl k U λr l p j=>QU I rfl un () W Y d Z (dN I rfl g) l p h (λb o z n m _=>i b o z n m) (O _ _ _ Q) j
theorem zhP{L:TW}{σ:St}{B:Hp}{s1:dy}{h':dV}{a C d t:cI}{O J:gB}{Q vs:Array da}{φ:dV->Prop}(I:Inv (du (md P w) P w K mg base N qual scope f cd A outer s H E) L σ B s1)
 (Z:B a=aF (.ext φ)) (a1:s1.heap.get? a=aF O) (a2:O.data=.fields Q) (kp:∀b,b≠a->h'.get? b=s1.heap.get? b) (S:h'.get? a=aF J) (a3:J.cls=.ref C) (a4:J.dict=aF d) (a5:J.data=.fields vs) (h1:vs[1]? = aF .none) (h0:vs[0]? = aF (.ref t)) (hs:s.heap.get? a=aT) (hE:E (.ref C) (aF d) (λb=>if b=a then aT else B b)):(du (md P w) P w K mg base N qual scope f cd A outer s H E).xe (.ref a) {s1 with heap:=h'}:=by
 have y:∀b o,b≠a->_=aF o->h'.get? b=aF o:=λb o n q=>(kp b n).trans q;have e b o:B b=aF o->(∀φ,o ≠ .ext φ)->(if b=a then aT else B b)=aF o:=λq z=>by rw[DY (λw=>by rw[w,Z]at q;cases q;show z _ rfl),q]
 have U:(PySem.W.hideAll h' (a::m4 (du (md P w) P w K mg base N qual scope f cd A outer s H E).stack)).get? a=aT:=PySem.W.hideAll_none _ ();show Pb (od:=aF d) I.ok.frames (PySem.W.funFrames_hide (I.stack.of_keeps λb o q n=>(o,y b o (λz=>by rw[z,a1]at q;cases q;show n Q a2) q,rfl)) λh S b g=>gy _<|S3.mpr (h,S,g)) rfl S (λb o q=>Y_ _ q) U a5 h1 h0
  ((λM q=>by cases q;show(_,S,a4)),λq=>nomatch q) λad Y i=>?_
 rw[a3]at Y;let(k,(_,_,l),p,F):=Y;show QU (ch:=[a]) I rfl (λb o q n _ m=>y b o (~~~m) q,λb o q n _ m=>(o.slots,y b o (~~~m) q),λb o q n m=>by rw[DY (~~~m),n],λb o q m=>(o,y b o (~~~m) q),λb G q=>e b _ q nofun,λb o u q=>e b _ q nofun,λb T q=>(#[],by rw[e b _ q nofun];simp))
  (λb o q m=>by cases oE.mp m;cases hs.symm.trans q) rfl I.bare (λb o q=>?_) (DJ rfl) hs (k,U,l,p) F (λb o q n=>?_) (λb o q n r x=>Ml _ q λz=>(eL.mp z).elim (~~~x) r) hE i
 .have q:=q
  by_cases g:b=a
  .lia
  .rw[DY g]at q
   show(I.dS b o q).og (λc u R z=>y c u (λw=>by lia) z) (λc z=>e c _ z nofun) λc G z=>e c _ z nofun
 .by_cases g:b=a
  .lia
  .rw[DY g]at n
   show Ml _ q λz=>(eL.mp z).elim g λj=>n<|I.Dn b j
theorem zjg{e:TW}{O:St}{B:Hp}{J:dy}{a C d t:cI}{S:dV->Prop}(I:Inv (du (md P w) P w K mg base N qual scope f cd A outer s H E) e O B J)
 (y:B a=aF (.ext S)) (L:J.heap.get? a=aF (aK C (aF d) t)) (hs:s.heap.get? a=aT) (z:E (.ref C) (aF d) (λb=>if b=a then aT else B b)):(du (md P w) P w K mg base N qual scope f cd A outer s H E).xe (.ref a) J:=
 zhP I y L rfl (λ_ _=>rfl) L rfl rfl rfl rfl rfl hs z
end
def Ur(o:gB):xz ClassData:=match o.data with
 |.cls a=>aF a
 |_=>aT
theorem MX(h:l.length=6)(e:(l.drop 4).take 1=[a]):∃y z B H I,l=[y,z,B,H,a,I]:=by
 cases l with
 |nil=>cases h
 | cons y l=>cases l with
  |nil=>cases h
  | cons z l=>cases l with
   |nil=>cases h
   | cons B l=>cases l with
    |nil=>cases h
    | cons H l=>cases l with
     |nil=>cases h
     | cons b l=>cases l with
      |nil=>cases h
      | cons I l=>cases l with
       |nil=>
        cases e;lia
       |cons d l=>simp at h
theorem Os(e:l.take 1=[a]):l=a::l.drop 1:=by
 cases l with
 |nil=>cases e
 |cons b l=>grind
def WC(c:Xn)(od:xz cI)(e:Hp):Prop:=match c.2 with
 |none=>od=aT
 |some i=>∃d,od=aF d/\e d=aF (.xd [(pP c.1,.int i)])
def XW(X:Cx)(z I:Hp)(c:Xn):Prop:=(∀(f:TW) (y:St) (h g:Hp) (i:dy) (l:dV) (a C:cI) (p:zn da),Inv X f y h i->Ext z I g h->eD X.K=aG->c.1∈l5->J9 X.K c.1=aF C->c.2=aT->
 Heap.MadeExcOf i.heap l a (.ref C) p->X.xe (.ref a) {i with heap:=l})/\
 (∀(f:TW) (y:St) (h g:Hp) (i:dy) (e:da) (m:dy),Inv X f y h i->Ext z I g h->
   md X.prog X.w X.stack h i (λk o n=>∃C j,k=.ref C/\eD X.K=aG/\c.1∈l5/\J9 X.K c.1=aF C/\WC c o j/\Ext g h j n) e m->X.xe e m)/\
 ∀(f:TW) (y:St) (h g:Hp) (i:dy) (a C d t:cI) (r:dV->Prop),Inv X f y h i->h a=aF (.ext r)->i.heap.get? a=aF (aK C (aF d) t)->(X.ex=[]->X.g8.heap.get? a=aT)->
  Ext z I g (λb=>if b=a then aT else h b)->eD X.K=aG->c.1∈l5->J9 X.K c.1=aF C->WC c (aF d) g->X.xe (.ref a) i
def Px(X:Cx)(st:en)(G:CO Xn):Prop:=∀(a:TW) (s:dy) (d:St) (H y z e:Hp) (b:Ctx) (c:Xn),Inv X a d H s->RS X.K y z e H d b->G b=aF c->XW X y z c->
 ⇑X (exec st ⋯) (λ_ _=>False) X.xe s
def sU(X:Cx)(e:zn en)(G:CO Xn):Prop:=∀(a:TW) (s:dy) (d:St) (H y z f:Hp) (b:Ctx) (c:Xn),Inv X a d H s->RS X.K y z f H d b->G b=aF c->XW X y z c->
 ⇑X (execs e ⋯) (λ_ _=>False) X.xe s
section
variable{X:Cx}{st:en}{rest:zn en}{G G':CO Xn}{F:CO Fl}
theorem SX.gd(h:SX X sc N L k)(E:EQ):SX (X.gd E) sc N L k:=(h.nV,h.eN,h.nd,h.calm,h.room,h.fn)
theorem nO:Px X st nH:=λa s g H y z b f c I d e _=>by cases e
theorem lr{B:zn en}:sU X B nH:=λa s g H y z b f c I d e _=>by cases e
theorem vH{rest:zn en}(h:Px X st G):sU X (st::rest) G:=λa s g H y J b f c I d e w=>
 M0 (fU (h a s g H y J b f c I d e w) (λ_ _ z=>z.elim) λ_ _ z=>z)
theorem vJ(B:Px X st G)(L:gg X.kb st F)(S:sU X rest G'):sU X (st::rest) (dW G F G'):=λb s l H y J j i c I k e w=>by
 erw[dW]at e;cases q:G i with
 |some W=>
  rw[q]at e;cases e;show vH B b s l H y J j i c I k q w
 | none=>
  rw[q]at e;let(n,m,Q):=zb e;cases n with
  | next g=>
   show M0<|fU (L b s l H {nx:=λd h=>∃a,RS X.K y J a h d g,rt:=λ_ _=>False} (I.gd _) (y,J,j,i,.next g,k,m,λd h a O=>(a,O))) (λf o z=>?_) λ_ _ z=>z.elim;cases f with
   |next=>
    let(d,h,U,a,O):=z;show S b o d h y J a g c U.l4 O Q w
   |ret v=>let(_,_,_,_,_,z):=z;show z.elim
   |brk=>let(_,_,_,z):=z;show z.elim
   |cont=>let(_,_,_,z):=z;show z.elim
  |_=>cases Q
theorem Cq{pos:eg}(S:gO X.kb c kk)(B:sU X x G)(L:sU X y G'):Px X (.If c x y pos) (oU kk G G'):=λa s i H J O k h m I g e w=>by
 let(t,p,Q):=zb e;show wpAny_If<|fU (S a s i H (λb j=>b=t/\∃d,Ext k H d j) (I.gd _) (k,h,t,g.rc,p,λj d x=>(rfl,d,x))) (λb n z=>?_) λ_ _ z=>z.elim;let(l,U,rfl,f,o):=z;cases b with
 |true=>show B a n i l J O f h m U.l4 (g.step o) Q w
 |false=>show L a n i l J O f h m U.l4 (g.step o) Q w
end
inductive r0(K:cL)(n:Nat)(G:List D->Option Xn)(vs:List V)(H:Hp)(_:VK)(E:XK):Prop
 |mk (H0 ds c) (_:et H0 H) (_:di K H0 ds vs) (_:ds.length=n) (_:G ds=aF c) (_:∀C H' el od,eD K=aG->c.1∈l5->J9 K c.1=aF C->WC c od el->Ext H0 H el H'->E (.ref C) od H')
theorem r0.len{K:cL}{n:Nat}{G:zn D->xz Xn}{ps:zn Str}(e:ps.length=n):∀vs H Q E,r0 K n G vs H Q E->vs.length=ps.length:=λvs H Q E h=>by let(d,f,c,_,a,b,_):=h;rw[a.length,b,e]
structure uh(P:eA)(w:eu)(K:cL)(mg:DZ)(base:dV)(k:Nat)(x:Str)(n:Nat)(G:List D->Option Xn):Prop where
 ex:∃(f:cI) (fd:gv) (ps:List Str),ps.length=n/\↑fy (md P w) k f fd ps (r0 K ps.length G)/\mg x=aF (.ref f)/\lK K (.ref f)=aG/\Binds K fd ps []
theorem Hf{P:eA}{w:eu}{K:cL}{mg:DZ}{base:dV}{x q:Str}{st:en}{f:cI}{L:gv}{N ps:zn Str}{k:Nat}{G:CO Xn}(Fu:L2.g5 K x q st f L)(hd:wB N ps st=aG)
 (a6:∀X,X.prog=P->X.w=w->X.K=K->X.mg=mg->X.base=base->SX X (zK st) N N k->sU X (jn st) G):↑fy (md P w) (k+1) f L ps (r0 K ps.length<|iZ N.length G):=by
 have S:=xl hd;have as:ps.length<=N.length:=by have:=congrArg z8 S.pre;rw[L4]at this;lia
 show dj λU=>?_;let(oc,od,kV,doc,pm,an,E7,ct,Di,rfl,lk,R):=Fu.ex;show U ?_;show OY lk R S (r0.len rfl) λA n s H vs Q E hr T=>(λ_ M h=>M=Xy N vs/\h=H,λb s1 M u D I m=>?_,rfl,rfl);show dj λU=>?_;let(rfl,rfl):=m;let(r,ds,c,s0,h1,h2,h3,h4):=T;show U ?_;show fU (a6 _ rfl rfl rfl rfl rfl (rfl,rfl,S.nd,rfl,hr,λ_ _=>.inl rfl) b s1 _ u r u r _ c I (XX s0 h1 ()) h3 (λB g j O F h' a C us y J W Y Z p l=>zjf y l<|h4 C j O aT W Y Z (by erw[WC];rw[p]) J,λB g j O F e s' y J l=>?_,λB g j O F a C d t φ y y1 y2 y3 J W Y Z p=>zjg y y1 y2 (y3 rfl)<|h4 C _ O (aF d) W Y Z p J)) (λ_ _ z=>z.elim) λ_ _ z=>z
 .refine zhR y l λcc o h z=>?_
  let(C,i,rfl,z1,z2,z3,zlF,zlG):=z;show h4 C h i o z1 z2 z3 zlF<|J.trans zlG
theorem Ls{P:eA}{w:eu}{K:cL}{e:DZ}{base:dV}{x:Str}{st:en}{N ps:zn Str}{k:Nat}{G:CO Xn}(A:d9 K e x st ps)(B:wB N ps st=aG)
 (z:∀X,X.prog=P->X.w=w->X.K=K->X.mg=e->X.base=base->SX X (zK st) N N k->sU X (jn st) G):uh P w K e base (k+1) x ps.length (iZ N.length G):=by
 let(f,a,y,b,d):=A.ex;show(f,a,ps,rfl,Hf y B z,d,y.kp,.all b)
section
variable{X:Cx}{sc:e9}{N L:zn Str}{k j n:Nat}{e:dE}{es:zn dE}{g:CO (zn D)}{G:zn D->xz Xn}{x:Str}{p pos:eg}
inductive Left(X:Cx)(pins:TW)(σ:St)(H0 H:Hp)(cc:Xn)(e:da)(s':dy):Prop
 |mk (H1 ri s1) (_:Inv X pins σ H1 s1) (_:Ext H0 H ri H1) (_:md X.prog X.w X.stack H1 s1 (λcls od H'=>∃C el,cls=.ref C/\eD X.K=aG/\cc.1∈l5/\J9 X.K cc.1=aF C/\WC cc od el/\Ext ri H1 el H') e s')
theorem Hh{B:TW}{σ:St}{H H0:Hp}{γ:Ctx}{S:zn D}{cc:Xn}{s:dy}(hf:⇑uh j x n G)(Q:j<=k)(h:SX X sc N L k)(c:xP sc x=aG)(ha:nu X.kb (e::es) n g)
 (I:Inv X B σ H s) (rc:RC X.K H0 H σ γ) (J:g γ=aF S) (U:G S=aF cc)
 (he:dU (e::es) ⋯=(bB,dv e ⋯)::dU es ⋯:=by rfl) (W:(gE pos<|starEach es ⋯).any (·.1)=bB:=by rfl):
 ⇑X (dv (.Call (.Name x p) (e::es) [] pos) ⋯) (λ_ _=>False) (Left X B σ H0 H cc) s:=by
 show dj λY=>?_;let(fa,fd,ps,hn,F,hm,Z,T):=hf.ex;show Y ?_;subst hn;show pk<|yq I (h.gl c).1 hm ?_ (h.gl c).2.2;show DG I.ok.mod.tr Z (fU (ha.1 pos B s σ H (λo f=>∃b,_/\_) (I.gd _) (H0,γ,S,rc,J,λo i a x r=>(a,x,r))) (λM m (o,f,y,O,b,P,E)=>(y.l4.eF,?_)) λ_ _ z=>z.elim) he W;have y:=y.l4;show q0 (t9 (F.run X.A X.stack m f _ M o (λ_ _=>False) (λl t i=>∃C a,l=.ref C/\_/\_/\_=aF C/\WC cc t a/\Ext b f a i) (h.room.mono Q) y.ow
  (~~~T m M y.eF (~~~(by rw[<-O.length];show(by rw[E.length];show ha.2 γ S J)))) O (b,S,cc,P.sub,E,ha.2 γ S J,U,λC i a t xa xm xc xn xx=>(C,a,rfl,xa,xm,xc,xn,xx))) λr s' d=>?_)
 cases r with
 |error e=>show(f,b,m,y,P,d)
 |ok R=>
  cases R with
  |ret u=>let(_,_,_,_,_,_,_,z):=d;show z.elim
  |next=>show d.elim
  |brk=>show d.elim
  |cont=>show d.elim
theorem Il{spos:eg}(hf:⇑uh j x n G)(y:j<=k)(h:SX X.kb sc N L k)(c:xP sc x=aG)(B:nu X.kb (e::es) n g)
 (S:dU (e::es) ⋯=(bB,dv e ⋯)::dU es ⋯:=by rfl) (J:(gE pos<|starEach es ⋯).any (·.1)=bB:=by rfl)
 (hs:ni (.Call (.Name x p) (e::es) [] pos) aT spos.line ⋯=pure bB:=by rfl):
 Px X (.Expr (.Call (.Name x p) (e::es) [] pos) spos) (mX G g):=λa s r H Z t u E A I d O w=>by
 let(C,i,Q):=zb O;show T2 (fU (Hh hf y ((h.nV,h.eN,h.nd,h.calm,h.room,h.fn)) c B I d.rc i Q S J) (λ_ _ z=>z.elim) λU l z=>?_) I.quiet hs;let(f,b,m,W,o,Y):=z;show w.2.1 a r f b m U l W (d.ext.trans o) Y
end
def Dg(X:Cx)(e:da):Cx:={X with A:=X.A.mark<|some e,calm:=bB,xe:=λ_ _=>False}
theorem Ag{B:TW}(I:L2.Inv X B σ H s)(e:da):L2.Inv (Dg X e) B σ H s:=
 ((I.ok.mod,I.ok.kind,I.ok.glob,I.ok.blt,I.ok.above,I.ok.inj,I.ok.has,I.ok.y0,(λz=>nomatch z),I.ok.frames,I.ok.Dm,I.ok.Dd,I.ok.bs,I.ok.oK,I.ok.y8,I.ok.y7,I.ok.nz,I.ok.ph),I.os,I.bare,I.base,I.loc,I.cell,I.free,I.oe,I.pin,I.dS,I.len)
theorem Ad{z:TW}(ok:X.Ok)(I:L2.Inv (Dg X e) z σ H s):L2.Inv X z σ H s:=
 (ok,I.os,I.bare,I.base,I.loc,I.cell,I.free,I.oe,I.pin,I.dS,I.len)
theorem zkT{B:TW}{pos:eg}(I:L2.Inv X B σ H s)(W:X.N.Nodup)(S:X.N[i]? = aF n)(Y:⋯.scope.names.lookup n=aF .local)
 (h:∀L,L2.Inv X B (σ.set i aT) H L->Q ⟨⟩ L):wpAny M A (do bindName ⋯ n .none;unbindBehindTheSuite ⋯ n pos) Q E s:=by
 let(m,x,Z):=id I.loc;show wpAny_nameGoes_keeps Y x (by rw[I.ok.kind];rfl) λh' v t a=>h _ ?_;have O:∀b o,_=aF o->b≠⋯.locals:=λb o e=>gq<|i9 (ft e) I.ok.above;show(I.ok,I.os,I.bare,(λb o e n f J=>(a.2 b<|O b o e).trans (I.base.keep b o e n f J),λb o e n f J=>?_,I.base.free,λb o e J=>?_,I.base.nG,I.base.nW,I.base.nY),(_,t,λj y v' g U u=>?_),λy c e=>?_,I.free,I.oe,λp C=>?_,λb K e=>?_,~~~I.len)
 .let(R,z):=I.base.slot b o e n f J
  show(R,(a.2 b<|O b o e).trans z)
 .let(G,z):=I.base.there b o e J
  show(G,(a.2 b<|O b o e).trans z)
 .rcases zG U with⟨_,z,_⟩|⟨w,U⟩
  .cases z
  .let(T,P,q):=Z j y v' g U u
   show(T,P,?_);rcases q with⟨k,e⟩|⟨k,c,e,z⟩
   .refine .inl (k,?_)
    have:y≠n:=λe=>w<|WD W g<|e ▸ S;simp[this,e]
   .exact .inr (k,c,e,z.sameBut a<|I.rA y c e)
 .let(r,z):=I.cell y c e
  show(r,z.sameBut a<|I.rA y c e)
 .let(e,n,l,F,d):=I.pin p C
  show((a.2 p.1 l).trans e,n,l,F,d)
 .refine(I.dS b K e).og (λc r hc q=>(a.2 c ?_).trans q) (λ_ q=>q) λ_ _ q=>q
  rintro rfl;rcases hc with hc|hc
  .rw[<-hc,I.free]at e;cases e
  .rw[I.free]at hc;lia
section ap
variable(γ:Ctx)
@[simp] def FF:=@zN.eq_1
@[simp] def Bs:=@jY.eq_1
@[simp] def ie:=@jq.eq_1
@[simp] def VP:=@zf.eq_1
@[simp] def aq:=@zh.eq_1
@[simp] theorem Bt(d):je d γ=aF d:=rfl
@[simp] def VR:=@zF.eq_1
@[simp] def Ra:=@sB.eq_1
@[simp] def zmW:=@bu.eq_1
@[simp] def PN:=@nI.eq_1
@[simp] def Br:=@qA.eq_1
@[simp] def PZ:=@BE.eq_1
@[simp] def zaz:=@SR.eq_1
@[simp] def PR:=@fw.eq_1
@[simp] theorem VQ:zH γ=aF []:=rfl
@[simp] def vY:=@zc.eq_1
@[simp] def zaw:=@kN.eq_1
@[simp] def UF:=@xY.eq_1
@[simp] def zmL:=@jO.eq_1
@[simp] def yU:=@qo.eq_1
@[simp] def Bp:=@yH.eq_1
@[simp] def zmJ:=@XB.eq_1
@[simp] def zmT:=@Ni.eq_1
@[simp] def ZA:=@eI.eq_1
@[simp] def YK:=@jF.eq_1
@[simp] def ar:=@yG.eq_1
@[simp] def zmS:=@sN.eq_1
@[simp] def zmb:=@qk.eq_1
@[simp] def qU:=@zD.eq_1
@[simp] def zmI:=@jx.eq_1
@[simp] def mN:=@zR.eq_1
@[simp] def Bq:=@jv.eq_1
@[simp] def zl8:=@fj.eq_1
@[simp] def zau:=@eZ.eq_1
@[simp] def YL:=@XU.eq_1
@[simp] def Xd:=@zL.eq_1
@[simp] theorem zav:jb γ=aF aG:=rfl
@[simp] def zmV:=@Y0.eq_1
@[simp] def zmK:=@Ib.eq_1
@[simp] def Ma:=@cR.eq_1
@[simp] def zmC:=@iU.eq_1
@[simp] theorem zaA:Jk γ=aF aT:=rfl
@[simp] def UO:=@fP.eq_1
@[simp] def PL:=@dX.eq_1
@[simp] def zaB:=@J7.eq_1
@[simp] def zbk:=@zi.eq_1
@[simp] def zl2:=@jt.eq_1
@[simp] def PP:=@sH.eq_1
@[simp] def zax:=@Mi.eq_1
@[simp] def Hu:=@sO.eq_1
@[simp] def zaE:=@Mj.eq_1
@[simp] def zmP:=@QH.eq_1
@[simp] def zm6:=@Ck.eq_1
theorem jd(F G):zW F G γ=(F γ).bind λe=>match e with
 |.next a=>G a
 |f=>aF f:=rfl
end ap
@[simp] theorem PF(ds):qc (.tup ds)=aF (.T,ds):=rfl
@[simp] theorem PH(ds):qc (.lst ds)=aF (.L,ds):=rfl
@[simp] theorem kc(d):Bc (aF (.val d))=aF d:=rfl
@[simp] theorem vW(d):Jg (aF (.val d))=qc d:=rfl
@[simp] theorem zlU(d):Jg (aF (.own d))=aF (.L,d):=rfl
@[simp] theorem YC(d):Jh (aF (.own d))=aF d:=rfl
@[simp] theorem zlV(d):gS (aF (.val d))=aF (.ret<|.val d):=rfl
@[simp] theorem zlW(d):gS (aF (.own d))=aF (.ret<|.own d):=rfl
@[simp] theorem zar(b):pe (.bl b)=aF b:=rfl
@[simp] theorem hU(b):i1 (.int b)=aF b:=rfl
@[simp] theorem We(d):Ky (.val d)=d:=rfl
@[simp] theorem zmw(d):Ky (.own d)=.lst d:=rfl
@[simp] theorem lh(d):SU (.own d)=aF d:=rfl
@[simp] theorem zmq(i j):W3 (.int i) (.int j)=aF (.int<|i-j):=rfl
@[simp] theorem zmy(i j):qv (.int i) (.int j)=aF (.int<|i+j):=rfl
@[simp] theorem zmt(i j):yL (.int i) (.int j)=if 0<j then aF (.int<|i%j)else aT:=by change(if Sd i j=aG then _ else _)=_;simp[Sd]
@[simp] theorem zmx(i j):VO (.int i) (.int j)=if 0<j/\j<1073741824 then aF (.int<|i/j)else aT:=by
 change(if Pp i j=aG then _ else _)=_;have e:(Pp i j=aG)=(0<j/\j<1073741824):=by erw[Pp];simp?[fS,decide_eq_true_eq,decide_eq_true_eq];apply propext;constructor<;>intro h<;>show(h.1,())
 simp?[e]
@[simp] theorem zms(i j):vE (.int i) (.int j)=if mJ i j=aG then aF (.int<|i*j)else aT:=rfl
@[simp] theorem zmr(i j):LI (.int i) (.int j)=if Po i j=aG then aF (.int<|i^j.toNat)else aT:=rfl
@[simp] theorem zm0(i j):oM (.int i) (.int j)=aF (.bl<|decide<|i<j):=rfl
@[simp] theorem zm1(i j):l0 (.int i) (.int j)=aF (.bl<|decide<|i<=j):=rfl
@[simp] theorem zm2(i j):ti (.int i) (.int j)=aF (.bl<|decide<|j<i):=rfl
@[simp] theorem zm3(i j):lT (.int i) (.int j)=aF (.bl<|decide<|j<=i):=rfl
@[simp] theorem zm4(i j):ei (.int i) (.int j)=aF (.bl<|decide<|i=j):=by erw[ei];show congrArg (λb=>aF (D.bl b)) (by rw[vr];simp[hC])
@[simp] theorem zmZ(i j):kA (.int i) (.int j)=aF (.bl<|!decide (i=j)):=by rfl
@[simp] theorem zlZ(i is d ds γ):xX (i::is) (d::ds) γ=xX is ds (γ.set i<|.val d):=rfl
@[simp] theorem zlY(ds γ):xX [] ds γ=γ:=by cases ds<;>rfl
@[simp] theorem zmz(i d γ):kM (.nm i) d γ=aF (γ.set i<|.val d):=rfl
@[simp] theorem Pv(i j a b γ):kM (.tp [i,j]) (.tup [a,b]) γ=aF ((γ.set i<|.val a).set j (.val b)):=rfl
@[simp] theorem zlP(γ:Ctx)(G:CO Fl):(aF (Fl.next γ)).bind (λe=>match e with
 |.next γ'=>G γ'
 |f=>aF f)=G γ:=rfl
theorem mI(i j:Int)(e : -(2^64)<j)(z:j<2^64):mJ i j=aG:=by erw[mJ];lia
theorem ZM(i j:Int)(e : -(2^64)<i)(z:i<2^64):mJ i j=aG:=by erw[mJ];rw[sE];left;show decide_eq_true ()
theorem kP(e : -(2^62)<i)(z:i<2^62):inR i=aG:=by erw[inR];lia
@[simp] theorem yt(n k:Nat):fX n k=if k<n then aF k else aT:=by
 erw[fX];by_cases h:k<n
 .rw[DJ (Int.natCast_nonneg k,()),DJ h];simp
 .rw[DY (),DY (),DY h]
theorem jf:lim=2500:=rfl
@[simp] theorem zmp:0<=lim:=l6 _
@[simp] theorem zmo:1<=lim:=by decide
@[simp] theorem zmn:2<=lim:=by decide
@[simp] theorem zmm:3<=lim:=by decide
@[simp] theorem zml:4<=lim:=by decide
@[simp] theorem zmk:5<=lim:=by decide
@[simp] theorem zmj:6<=lim:=by decide
@[simp] theorem zmi:7<=lim:=by decide
@[simp] theorem zmh:8<=lim:=by decide
@[simp] theorem zmf:0<lim:=by decide
@[simp] theorem Al(h:n<=lim):inR n=aG:=kP () (by have:=jf;lia)
@[simp] theorem b_(n:Nat):fX (n+1) 0=aF 0:=yt (n+1) 0 ▸ rfl
@[simp] theorem PK(n:Nat):fX (n+2) 1=aF 1:=by have:=yt (n+2) 1;simpa using this
@[simp] theorem ix2(n:Nat):fX (n+3) 2=aF 2:=by have:=yt (n+3) 2;simpa using this
theorem zk(r:α->D):∀(l:zn α),(∀x∈l,zI T k f γ [g x]=aF [r x])->zI T k f γ (l.map g)=aF (l.map r)
 |[],_=>rfl
 | x::l,h=>by
  have a:=h x gH;simp?[mc,zI]at a ⊢;cases e1:kM T (g x) γ with
  |none=>grind
  | some d=>
   rw[e1]at a;simp?[eK]at a ⊢;cases e2:k d with
   |none=>grind
   | some b=>
    rw[e2]at a;simp?[eK]at a ⊢;cases b with
    |false=>simp at a
    | true=>
     cases e3:f d with
     |none=>grind
     |some e=>
      rw[e3]at a;simp at a;rw[(zk r l λy z=>h y<|gy _ z)];simp[a]
theorem zm(z:kM T d γ=aF γ1)(B:k γ1=aF aG)(H:f γ1=aF e):zI T k f γ [d]=aF [e]:=by simp[zI,z,B,H]
theorem xy(T F d e γ):vj T F (d::e) γ=(kM T d γ).bind λγ1=>(F γ1).bind λz=>match z with
 |.next y=>vj T F e y
 |.cont y=>vj T F e y
 |.brk y=>aF (.next y)
 |.ret r=>aF (.ret r):=rfl
theorem Yt(P:Nat->Ctx->Prop):∀B k γ,P k γ->(∀i d γ,B[i]? = aF d->P (k+i) γ->∃γ',((kM T d γ).bind F=aF (.next γ')\/(kM T d γ).bind F=aF (.cont γ'))/\P (k+i+1) γ')->
 ∃γ',vj T F B γ=aF (.next γ')/\P (k+B.length) γ'
 |[],k,γ,h,_=>(γ,rfl,h)
 | d::B,k,γ,h,step=>by
  let(a,e,f):=step 0 d γ rfl h;let(γ',y,g):=Yt P B (k+1) a (~~~f) (λi b z j l=>by have:=step (i+1) b z (~~~j) ();rw[show k+(i+1)+1=k+1+i+1 by lia]at this;show this)
  show(γ',?_,by rw[show k+_=k+1+B.length by simp;lia];show g);rw[xy];cases eb:kM T d γ with
  |none=>rw[eb]at e;simp at e
  |some I=>
   rw[eb]at e;simp?[eK]at e ⊢;rcases e with e|e<;>rw[e]<;>show y
def zU(n:Nat)(f:Nat->Int):zn D:=(cT n).map λi=>D.int<|f i
theorem z9(n f):zU n f=(cT n).map λi=>D.int (f i):=rfl
def ja(h w:Nat)(f:DW):zn D:=(cT h).map λi=>D.tup<|zU w<|f i
def qh(h w:Nat)(f:DW):D:=.tup [.int h,.int w,.tup (ja h w f)]
@[simp] theorem Fb(n f):(zU n f).length=n:=by simp[zU]
@[simp] theorem mB(h w f):(ja h w f).length=h:=by simp[ja]
@[simp] theorem zmX(f)(h:i<(zU n f).length):(zU n f)[i]=.int (f i):=by simp[zU]
theorem Fd(f)(h:i<n):(zU n f)[i]? = aF (.int<|f i):=by simp[zU,h]
@[simp] theorem zmY(f)(e:i<(ja h w f).length):(ja h w f)[i]=.tup (zU w<|f i):=by simp[ja]
theorem vV(h:∀i,i<n->f i=g i):zU n f=zU n g:=by erw[zU];simp_all
theorem W0(e:∀i j,i<h->j<w->f i j=g i j):ja h w f=ja h w g:=by erw[ja];apply ll;intro i a;rw[vV λj y=>e i j (ed.mp a) y]
theorem Fe(e:∀i j,i<h->j<w->f i j=g i j):qh h w f=qh h w g:=by erw[qh];rw[W0 e]
theorem qb(n:Nat):Xm 0 n=zU n λi=>(i:Int):=by simp[Xm,zU]
theorem XR(n:Nat)(f g:Nat->Int):XS (zU n f) (zU n g)=(cT n).map λi=>D.tup [.int (f i),.int (g i)]:=by erw[XS,zU];rw[A8];simp
theorem BH(n w:Nat)(f g:DW):XS (ja n w f) (ja n w g)=(cT n).map λi=>D.tup [.tup (zU w<|f i),.tup (zU w<|g i)]:=by erw[XS,ja];rw[A8];simp
def zo(f:Nat->Int):Nat->Int
 |0=>0
 |n+1=>zo f n+f n
theorem Kq:∀(xs:zn Int) y,se (xs.map D.int++[.int y])=(se<|xs.map D.int).map λs=>s+y
 |[],y=>by simp[se]
 |x::xs,y=>by simp?[mc,L8,se];rw[Kq xs y];cases e:se _<;>simp[Int.add_assoc]
theorem Jo(f:Nat->Int):∀n,se (zU n f)=aF (zo f n)
 |0=>rfl
 |n+1=>by
  have y:=Jo f n;have e m:zU m f=((cT m).map f).map D.int:=by simp[zU]
  rw[e]at y ⊢;simp?[sD,n6,n6,List.map_singleton,List.map_singleton,Kq,y];simp[zo]
def ke:=ju 2<|qo<|jt<|jq<|zL (zR<|zh 1) (.nm 0) 1 [0] jb (zF yL (zf 0)<|zf 1)
def iq:=ju 3<|qo<|zD ke<|zc (zf 0)<|zc (jY<|zL (zR<|zN<|cR (zh 1)<|sI 2) (.nm 0) 1 [2] jb (Mi<|jq<|zL (eZ (zf 0)<|zf 1) (.tp [0,1]) 2 [] jb (zF vE (zf 0)<|zf 1))) zH
def qM:=ju 2<|zW (jF 1<|jY<|zL (jv<|cR (zh 0)<|sI 1) (.nm 0) 1 [0] jb (jt<|jq<|zL (zR<|zN<|cR (zh 1)<|sI 2) (.nm 0) 1 [0] jb (cR (zh 0)<|zf 1)))<|qo<|kN<|zc (cR (zh 0)<|sI 1)<|zc (cR (zh 0)<|sI 0)<|zc (jt<|zh 1) zH
def qr:=ju 2<|zW (jF 1<|jY<|zL (jv<|zf 0) (.nm 0) 1 [0] jb (jt<|jq<|zL (jv<|zf 1) (.nm 0) 1 [0] jb (fw (sB<|zF ei (zf 1)<|zf 0) (sI 1)<|sI 0)))<|qo<|kN<|zc (zf 0)<|zc (zf 0)<|zc (jt<|zh 1) zH
def ki:=ju 2<|qo<|kN<|zc (zf 0)<|zc (zf 1)<|zc (zF vE (kN<|zc (zF vE (kN<|zc (sI 0) zH)<|zf 1) zH)<|zf 0) zH
def YV:=ju 3<|zW (XU (fj (sI 1)<|zf 0) (.nm 2)<|eI (sB<|zF ei (zF yL (zF vE (zf 1)<|zf 2)<|zf 0)<|sI 1) (XB 2) jO) qp
def yB:=ju 5<|zW (jF 4<|cR (zh 1)<|zf 3)<|zW (eI (sB<|zF ei (zf 4)<|sI 0) (XB 1) jO)<|qo<|zD ke<|zc (zf 0)<|zc (jY<|zL (eZ (zf 1)<|zf 2) (.tp [0,1]) 2 [4] jb (zF W3 (zf 0)<|zF vE (zf 2)<|zf 1)) zH
def JT:=(zW (jF 6<|jY<|zL (zR<|zh 3) (.nm 0) 1 [5] (sB<|zF kA (cR (zh 0)<|zf 1)<|sI 0) (zf 0))<|zW (eI (qA<|Ck<|zh 6) Ni jO)<|zW (jF 7<|zD YV<|zc (zf 0)<|zc (cR (zN<|cR (zh 6)<|sI 0)<|zf 5) zH)<|zW (jF 8<|zD ke<|zc (zf 0)<|zc (jY<|zL (zR<|zN<|cR (zh 6)<|sI 0) (.nm 0) 1 [7] jb (zF vE (zf 1)<|zf 0)) zH)<|zW (jF 3<|jY<|zL (zR<|zh 3) (.nm 0) 1 [0,5,8] jb (zD yB<|zc (zf 1)<|zc (zf 0)<|zc (zf 3)<|zc (zf 2) zH))<|yG 4<|Y0 (jq<|zL (zR<|zh 4) (.nm 0) 1 [0,5,8] jb (zD yB<|zc (zf 1)<|zc (zf 0)<|zc (zf 3)<|zc (zf 2) zH))<|jq<|xY<|zc (zf 8) zH)
def qJ:=ju 9<|zW (jF 3<|jY<|zL (zR<|zh 2) (.nm 0) 1 [0] jb (zD ke<|zc (zf 1)<|zc (zf 0) zH))<|zW (yG 4<|xY zH)<|zW (XU (jv<|zf 1) (.nm 5) JT)<|XB 4
def qa:=ju 2<|yH<|zL (zR<|zh 1) (.nm 0) 1 [0] (qA<|sB<|Mj<|zN<|dX (zf 0) Jk<|fP<|zf 1) (dX (zf 0) (fP<|zf 1) Jk)
def qy:=ju 5<|zW (jF 3<|jY<|zL (eZ (cR (zN<|zD qM<|zc (zf 1) zH)<|sI 2)<|cR (zN<|zD qr<|zc (cR (zh 1)<|sI 1) zH)<|sI 2) (.tp [0,1]) 2 [] jb (zF qv (zf 0)<|zf 1))<|zW (jF 4<|jY<|zL (zR<|zh 2) (.nm 0) 1 [1] jb (zF qv (zf 0)<|zF vE (kN<|zc (sI 0) zH)<|cR (zh 1)<|sI 1))<|yH<|jx qa<|zc (cR (zh 1)<|sI 0)<|zc (jY<|jx qJ<|zc (zf 0)<|zc (zF qv (cR (zh 1)<|sI 0)<|cR (zh 1)<|sI 1)<|zc (jY<|Y0 (zh 3)<|zh 4) zH) zH
def wc:=ju 2<|yH<|jx qy<|zc (zf 0)<|zc (zf 1)<|zc (jY<|xY zH) zH
def Xg:=ju 2<|yH<|jx qJ<|zc (zf 0)<|zc (cR (zh 1)<|sI 0)<|zc (cR (zN<|zD qM<|zc (zf 1) zH)<|sI 2) zH
def xI:=ju 1<|qo<|cR (jq<|zL (Wc<|zf 0) (.tp [0,1]) 2 [] (sB<|zF kA (zf 1)<|sI 0) (zf 0))<|sI 0
def yu:=(zW (jF 6<|zD xI<|zc (zf 5) zH)<|zW (eI (sB<|zF ei (zf 6)<|zf 3) (qo<|je .dw) jO)<|iU 4 (zf 6)<|cR (zh 5)<|zf 3)
def Zu:=ju 7<|zW (jF 3<|cR (zh 1)<|sI 1)<|zW (yG 4<|Ib (jq<|xY<|zc (sI 0) zH)<|zf 3)<|zW (XU (zR<|zN<|jY<|jx qJ<|zc (zf 0)<|zc (zF qv (zf 3)<|sI 1)<|zc (jY<|zL (eZ (cR (zh 1)<|sI 2)<|zf 2) (.tp [0,1]) 2 [] jb (zF qv (zf 0)<|kN<|zc (zf 1) zH)) zH) (.nm 5) yu)<|qo<|jt<|zh 4
section
variable(γ:Ctx)
@[simp] def zmR:=@Wc.eq_1
@[simp] def zaD:=@UZ.eq_1
@[simp] theorem zmG(F G a b c):wt F G a b c γ=(a γ).bind λx=>(b γ).bind λy=>((F x y).bind pe).bind λk=>if k=aG then (c γ).bind λz=>G y z else aF (.bl bB):=rfl
@[simp] def zm8:=@HZ.eq_1
end
def yC:=ju 5<|zW (jF 2<|cR (zh 1)<|sI 0)<|zW (eI (sB<|zF kA (cR (zh 1)<|sI 1)<|zf 2) (qo<|je .dw) jO)<|zW (jF 3<|cR (zN<|zD qr<|zc (zf 2) zH)<|sI 2)<|zW (jF 4<|jY<|jx qJ<|zc (zf 0)<|zc (zF qv (zf 2)<|zf 2)<|zc (jY<|zL (eZ (cR (zh 1)<|sI 2)<|zf 3) (.tp [0,1]) 2 [] jb (zF qv (zf 0)<|zf 1)) zH)<|zW (eI (sB<|zF kA (jY<|zL (zR<|zh 4) (.nm 0) 1 [2] jb (dX (zf 0) Jk<|fP<|zf 1))<|jY<|sH<|zh 3) (qo<|je .dw) jO)<|qo<|kN<|zc (zf 2)<|zc (zf 2)<|zc (jt<|jq<|zL (zR<|zh 4) (.nm 0) 1 [2] jb (dX (zf 0) (fP<|zf 1) Jk)) zH
section
variable(γ:Ctx)
@[simp] theorem zm9(i f):Cm i f γ=(f γ).bind λe=>if γ.any cQ=bB then aF (.next<|γ.set i<|.nest e)else aT:=rfl
@[simp] def zmF:=@iX.eq_1
@[simp] def zl9:=@fz.eq_1
@[simp] def Hq:=@Ru.eq_1
@[simp] def zmQ:=@Nf.eq_1
end
@[simp] theorem zlS(r):Kc (aF (.nest r))=aF r:=rfl
section
variable(γ:Ctx)
@[simp] def FE:=@iT.eq_1
@[simp] def zmO:=@Nc.eq_1
@[simp] def LZ:=@wA.eq_1
end
def ko:=ju 2 (qo (fw (sB (zF ei (zf 1) (je (.str "r")))) (zf 0) (zF qv (zf 0) (sI 1))))
def J4:=ju 2 (qo (fw (sB (zF ei (zf 1) (je (.str "r")))) (zF qv (zf 0) (sI 1)) (zf 0)))
def sJ(f:CO D):CO D:=λa=>(f a).map λd=>.bl (BF .list d || BF .tuple d)
def qz:=ju 1<|qo<|BE (zi .int<|zf 0)<|SR<|zi .bool<|zf 0
def kx:=ju 2<|qo<|BE (zD qz<|zc (zf 1) zH)<|wt l0 oM (sI 0) (zf 1)<|zf 0
def yD:=ju 4<|zW (jF 3<|J7<|zN<|cR (zh 0)<|sI 1)<|zW (eI (qA<|sB<|zD kx<|zc (zf 3)<|zc (zf 1) zH) qp jO)<|eI (nI (qA<|sB<|zD kx<|zc (zf 3)<|zc (zf 2) zH)<|sB<|zF oM (zf 2)<|zf 1) qp jO
def qI:zn D->xz Xn:=iZ 4 (dW nH (jF 3 (J7 (zN (cR (zh 0) (sI 1))))) (dW (oU (qA (sB (zD kx (zc (zf 3) (zc (zf 1) zH))))) (eB "NoRoom" (zf 1)) nH) (eI (qA (sB (zD kx (zc (zf 3) (zc (zf 1) zH))))) qp jO) (oU (nI (qA (sB (zD kx (zc (zf 3) (zc (zf 2) zH))))) (sB (zF oM (zf 2) (zf 1)))) (eB "NoRoom" (zf 2)) nH)))
def Jj:=ju 3 (zW (yG 1 (xY (zc (iV "NoPrime" (zf 0)) (zc (iV "Nought" (zf 0)) (zc (iV "NoTable" (zf 0)) (zc (iV "NoWidths" (zf 0)) zH)))))) (zW (yG 1 (Y0 (zh 1) (jq (xY (zc (iV "NoRow" (zf 0)) (zc (iV "Unlike" (zf 0)) (zc (iV "TooMany" (zf 0)) (zc (iV "NoTurn" (zf 0)) zH)))))))) (zW (yG 1 (Y0 (zh 1) (jq (xY (zc (iV "NoLine" (zf 0)) (zc (iV "Nothing" (zf 0)) (zc (iV "NoArrow" (zf 0)) (zc (iV "NoText" (zf 0)) zH)))))))) (zW (qk 1 (iV "NoRoom" (zf 0))) (zW (jF 2 (jY (xY (zc (je (.str "NoPrime")) (zc (je (.str "Nought")) (zc (je (.str "NoTable")) (zc (je (.str "NoWidths")) (zc (je (.str "NoRow")) (zc (je (.str "Unlike")) (zc (je (.str "TooMany")) (zc (je (.str "NoTurn")) (zc (je (.str "NoLine")) (zc (je (.str "Nothing")) zH))))))))))))) (zW (jF 2 (jY (Y0 (zh 2) (jq (xY (zc (je (.str "NoArrow")) (zc (je (.str "NoText")) (zc (je (.str "NoRoom")) zH)))))))) (zW (eI (qA (sB (Nd (zf 0)))) (yH (xY (zc (je (.str "no ValueError")) zH))) jO) (Ru 1 (yH (zL (jv (sI 13)) (.nm 0) 1 [1,2] (sB (cR (zh 1) (zf 0))) (cR (zh 2) (zf 0))))))))))))
def Xf:=ju 1<|qo<|BE (zD qz<|zc (zf 0) zH)<|UZ (zf 0)<|zN<|je<|.tup [.int 2,.int 3,.int 5,.int 7]
def Zi:=ju 1<|qo<|BE (zD qz<|zc (zf 0) zH)<|wt l0 l0 (sI 0) (zf 0)<|sI 30
def xw:=ju 2<|qo<|BE (sJ<|zf 0)<|zF ei (J7<|zh 0)<|zf 1
def Zj:=ju 2<|qo<|BE (zD xw<|zc (zf 1)<|zc (zf 0) zH)<|sO<|jq<|zL (zR<|zh 1) (.nm 0) 1 [] jb (zD qz<|zc (zf 0) zH)
def Zt:=ju 4<|zW (eI (qA<|sB<|zD Xf<|zc (zf 0) zH) qp jO)<|zW (eI (nI (qA<|sB<|zD Zi<|zc (zf 1) zH)<|qA<|sB<|zD Zi<|zc (zf 2) zH) qp jO)<|zW (eI (nI (qA<|sB<|zD xw<|zc (zf 3)<|zc (zf 1) zH)<|qA<|sB<|sO<|jq<|zL (zR<|zh 3) (.nm 0) 1 [2] jb (zD Zj<|zc (zf 1)<|zc (zf 0) zH)) qp jO)<|qo<|kN<|zc (zf 1)<|zc (zf 2)<|zc (jt<|jq<|zL (zR<|zh 3) (.nm 0) 1 [0] jb (zD ke<|zc (zf 1)<|zc (zf 0) zH)) zH
def FX(f:CO (Sk×zn D))(l h:CO (xz Int)):CO (zn D):=λb=>(f b).bind λa=>(l b).bind λlo=>(h b).bind λd=>match a.1 with
 |.L=>aF (Vd a.2 lo d)
 |.T=>aT
section
variable{X:Cx}{sc:e9}{N L:zn Str}{k:Nat}{a e:dE}{es:zn dE}{f:CO D}{pos p p2:eg}
theorem Wi(B:PV X e f)(hs:ni e aT pos.line ⋯=pure bB:=by rfl):gg X (.Expr e pos) (sN f):=yJ (fH B hs) λD k H z=>by let(E0,E,h,j,l,b,y,I):=z;let(d,i,y):=zq y;subst y;show(h,j,d,b.rc,i,λv g a x r=>I k g a<|b.step x)
theorem OZ{P:eA}{w:eu}{K:cL}{B:DZ}{base:dV}{x:Str}{st:en}{N ps:zn Str}{k:Nat}{F:CO Fl}(A:d9 K B x st ps)(J:wB N ps st=aG)
 (z:∀X:Cx,X.prog=P->X.w=w->X.K=K->X.mg=B->X.base=base->SX X (zK st) N N k->X.xe=(λ_ _=>False)->(X.stack=⋯::X.outer/\⋯.frame=aF ⋯.locals)->VT X (jn st) F):
 d6 P w K B base (k+1) x ps.length (ju N.length F):=by
 let(f,b,y,d,e):=A.ex;have S:=xl J;show(f,b,ps,rfl,EU y S λa A outer s H E I=>?_,e,y.kp,.all d);show z _ rfl rfl rfl rfl rfl (rfl,rfl,S.nd,rfl,I,λ_ _=>.inl rfl) rfl (rfl,rfl)
structure XI(K:cL)(mg:DZ)(c:Str):Prop where
 mem:c∈l5
 ex:∃C,J9 K c=aF C/\mg c=aF (.ref C)
theorem GU{B:TW}(I:L2.Inv X B σ H s)(sub:et H0 H)(y:uA X.K H0 c n b)
 (O:∀C,J9 X.K c=aF C->oy X.K (.ref C) t=aF r) (h:∀Y,Q (.bool r) {s with toks:=Y}):wpAny (dq X.prog X.w) A (call (.builtin "isinstance") [.ref b,t]) Q E s:=by
 show dj λU=>?_;let(C,d,J,g2,W,_):=y.ex;let(S,_,a,_,_):=J8 y.all y.mem J;let(p,_,_):=(I.dS b _<|sub _ _ g2);show U<|l9 (WO (VW a)<|ez a) I.eF (W _ p) (O C J) (λz=>nomatch z) h
theorem vq(h:SX X sc N L k)(W:xP sc "isinstance" = aG)(z:X.mg "isinstance" = aT)(B:xP sc c=aG)(x:XI X.K X.mg c)(ha:PV X a f)
 (hs:dU [a,.Name c p2] ⋯=[(bB,dv a ⋯),(bB,dv (.Name c p2) ⋯)]:=by rfl):PV X (.Call (.Name "isinstance" p) [a,.Name c p2] [] pos) (iV c f):=by
 rintro g s T H Q I ⟨m,R,d,E,y,q⟩;let(Y,o,y):=zb y;let(C,M,Z):=x.ex;cases Y with
 |exc c' n=>
  cases y;show pk<|xT I (h.gl W).1 z RQ ?_ () ();show Ht ?_ (by rw[hs];rfl) rfl;rw[hs];show oC<|dQ (ha g s T H (λv l=>∃e,_/\_) I (m,R,_,E,o,λv l e x r=>(e,x,r))) λu s1 t=>?_;show dj λw=>?_;let(v,j,J,A,i,U,F):=t;let(b,rfl,O):=(F);show w ?_;cases A;show oC<|yq J (h.gl B).1 Z ?_ (h.gl B).2.2;show vu ?_;show GU J U.sub O (λC2 g1=>?_) λG=>(.bl<|c'==c,j,J.tok G,rfl,q _ j i U rfl);let(S,_,_,_,P):=J8 O.all O.mem g1;show P c C x.mem M
 |_=>cases y
theorem LR:pH "ValueError" = aF (.type "ValueError"):=by decide +kernel
theorem Io(h:SX X sc N L k)(Y:xP sc "isinstance" = aG)(z:X.mg "isinstance" = aT)(B:xP sc "ValueError" = aG)(Z:X.mg "ValueError" = aT)(ha:PV X a f)
 (hs:dU [a,.Name "ValueError" p2] ⋯=[(bB,dv a ⋯),(bB,dv (.Name "ValueError" p2) ⋯)]:=by rfl):PV X (.Call (.Name "isinstance" p) [a,.Name "ValueError" p2] [] pos) (Nd f):=by
 rintro g s M H Q I ⟨m,K,d,E,y,q⟩;let(o,t,y):=zb y;cases o with
 |exc R n=>
  cases y;show pk<|xT I (h.gl Y).1 z RQ ?_ () ();show Ht ?_ (by rw[hs];rfl) rfl;rw[hs];show oC<|dQ (ha g s M H (λv l=>∃e,_/\_) I (m,K,_,E,t,λv l e x r=>(e,x,r))) λu T w=>?_;show dj λA=>?_;let(v,j,J,C,i,W,F):=w;let(b,rfl,O):=(F);show A ?_;cases C;show oC<|xT J (h.gl B).1 Z LR ?_ (h.gl B).2.1 (h.gl B).2.2;show vu ?_;show GU J W.sub O (λP g1=>?_) λG=>(.bl aG,j,J.tok G,rfl,q _ j i W rfl);let(S,_,U,_,_):=J8 O.all O.mem g1;erw[BL]at U;simp?[fS,beq_iff_eq]at U;show U.1.1.1.1.1.1.1.1.1.2
 |_=>cases y
structure GL(K:cL)(mg:DZ)(x:Str)(d:D):Prop where
 ex:∃u v,mg x=aF u/\RelV v u/\∀H,Rep K H d v
theorem QL(h:SX X sc N L k)(c:xP sc x=aG)(y:GL X.K X.mg x d):PV X (.Name x pos) (je d):=by rintro b s l H Q I ⟨a,j,i,g,z,q⟩;cases z;let(u,v,e,f,h3):=y.ex;show yq I (h.gl c).1 e (v,H,I,f,q v H a (Ext.refl g.sub)<|h3 a) (h.gl c).2.2
theorem tH{p3 p4:eg}{j:Nat}(h:SX X sc N L k)(c:xP sc "isinstance" = aG)(z:X.mg "isinstance" = aT)(c2:xP sc "list" = aG)(z2:X.mg "list" = aT)(c3:xP sc "tuple" = aG)(z3:X.mg "tuple" = aT)(ha:PV X a f)
 (hs:dU [a,.Tuple [.Name "list" p2,.Name "tuple" p3] j p4] ⋯=[(bB,dv a ⋯),(bB,dv (.Tuple [.Name "list" p2,.Name "tuple" p3] j p4) ⋯)]:=by rfl)
 (al:dU [.Name "list" p2,.Name "tuple" p3] ⋯=[(bB,dv (.Name "list" p2) ⋯),(bB,dv (.Name "tuple" p3) ⋯)]:=by rfl):
 PV X (.Call (.Name "isinstance" p) [a,.Tuple [.Name "list" p2,.Name "tuple" p3] j p4] [] pos) (sJ f):=by
 rintro l s σ H Q I ⟨H0,γ,d,rc,ef,q⟩;let(d1,e1,e2):=zq ef;subst e2;show pk (xT I (h.gl c).1 z RQ ?_ () ());show Ht ?_ (by rw[hs];rfl) rfl;rw[hs];show oC (dQ (ha l s σ H (λv H'=>∃A,_/\_) I (H0,γ,d1,rc,e1,λv H' A x r=>(A,x,r))) λu M hZ=>?_);let(x,H1,I1,m,ri,w,Y):=hZ;change wpAny _ _ (RG ((bB,dv _ ⋯)::[])) _ _ M;show oC (zlr ?_);rw[al];show oC (xT I1 (h.gl c2).1 z2 PyProof.Rows.boot_list ?_ (h.gl c2).2.1 (h.gl c2).2.2);show oC (xT I1 (h.gl c3).1 z3 PyProof.Rows.boot_tuple ?_ (h.gl c3).2.1 (h.gl c3).2.2);show vu ((),?_);show vu ?_;have U:L2.Inv X l σ H1 {M with heap:=M.heap.push {cls:=.type "tuple",data:=.seq #[.type "list",.type "tuple"]},toks:=M.toks}:=I1.kept λb u e=>eo _ e;have tp:(M.heap.push {cls:=.type "tuple",data:=.seq #[.type "list",.type "tuple"]}).get? _=_:=ir _ rfl;have Z:∀tk,EP X l σ Q _ _:=λtk=>(.bl _,H1,U.tok tk,rfl,q _ H1 ri w rfl);have any:∀{t:da} {R T:Bool},oy X.K t _=aF R->oy X.K t _=aF T->PySem.W.kitAny X.K t [.type "list",.type "tuple"]=aF (R || T):=λ{t R T} g1 g2=>by
  erw[PySem.W.kitAny];rw[g1];cases R with
  |true=>rfl
  |false=>
   dsimp only;erw[PySem.W.kitAny];rw[g2];cases T<;>rfl
 cases d1 with
 |dw=>cases Y;cases m;show sC _A U.eF mY tp (any (k6 .list .dw<|λ_ _ z=>nomatch z)<|k6 .tuple .dw<|λ_ _ z=>nomatch z) (λz=>nomatch z) Z
 |bl y=>cases Y;cases m;show sC _B U.eF mY tp (any (k6 .list (.bl y)<|λ_ _ z=>nomatch z)<|k6 .tuple (.bl y)<|λ_ _ z=>nomatch z) (λz=>nomatch z) Z
 |int i=>cases Y;let(t,qq):=(m);cases qq;show sC _K U.eF mY tp (any (k6 .list (.int i)<|λ_ _ z=>nomatch z)<|k6 .tuple (.int i)<|λ_ _ z=>nomatch z) (λz=>nomatch z) Z
 |str y=>cases Y;let(t,qq):=(m);cases qq;show sC _J U.eF mY tp (any (k6 .list (.str y)<|λ_ _ z=>nomatch z)<|k6 .tuple (.str y)<|λ_ _ z=>nomatch z) (λz=>nomatch z) Z
 |tup B=>
  let(a,xs,rfl,g,E):=vf Y;cases m;let(ap,rv,(o,F,hc,_),hz):=U.tuple<|i6 w.sub g;show sC Z' U.eF (o,F,hc) tp (any (k6 .list (.tup B)<|λ_ _ z=>nomatch z)<|k6 .tuple (.tup B)<|λ_ _ z=>nomatch z) (λz=>nomatch z) Z
 |lst B=>
  let(a,xs,rfl,g,E):=gh Y;cases m;let(ap,rv,p,hz):=U.list<|w.sub.seq g;let(o,F,hc,_):=p.isList;show sC S2 U.eF (o,F,hc) tp (any (k6 .list (.lst B)<|λ_ _ z=>nomatch z)<|k6 .tuple (.lst B)<|λ_ _ z=>nomatch z) (λz=>nomatch z) Z
 |exc c n=>
  let(b,rfl,xr):=(Y);cases m;let(C,φ,g1,g2,g3,_):=xr.ex;let(S,_,y1,_,_):=J8 xr.all xr.mem g1;let(p,_,_):=(U.dS b _<|w.sub _ _ g2);have ac:=y1;erw[BL]at ac;simp?[fS,A9,List.all_nil,beq_iff_eq]at ac;have t:=ac.1.1.1.1.1.1.1.1.1.1;show sC (WO (VW y1)<|ez y1) U.eF (g3 _ p) tp (any t.2.2.2.2.1 t.2.2.2.1) (λz=>nomatch z) Z
 |hV G P=>
  let(a,xs,rfl,(kk,_,_,o,g),_):=(Y);cases m;let(_,_,RO,_,dd):=AM U.dS<|.inr (o,w.sub _ _ g);show sC DI U.eF dd.typeIs tp (any (k6 .list (.hV G P)<|λ_ _ z=>nomatch z)<|k6 .tuple (.hV G P)<|λ_ _ z=>nomatch z) (λz=>nomatch z) Z
 |i4 G P=>
  let(a,xs,rfl,(_,o,zs,g,E,_),_):=(Y);cases m;let(F,_):=(U.dS a _<|w.sub _ _ g);show sC DI U.eF (o,F,E.1.1) tp (any (k6 .list (.i4 G P)<|λ_ _ z=>nomatch z)<|k6 .tuple (.i4 G P)<|λ_ _ z=>nomatch z) (λz=>nomatch z) Z
 | ins c p t=>
  let(a,C,dx,vp,vt,rfl,g,E,_,_):=(Y);cases m;have ty:=Ha (yQ g)<|w.sub _ _ E;cases ty with
  |ins ea cl ha hn U8 hm=>
   let(mA,O,_):=Yk U.dS ea;let(od,J,_):=O.look;show sC (PySem.W.kitx_own (cl.get _) cl.hd ha hn U8 hm) U.eF J tp (any (gC (yQ g) .list)<|gC (yQ g) .tuple) (λz=>nomatch z) Z
theorem lF{lo hi:xz dE}{S:CO (Sk×zn D)}{B I:CO (xz Int)}(ha:PQ X a S)(O:L2.PO X lo (tB X.K B))(U:L2.PO X hi (tB X.K I)):PO X (.Subscript a (.Slice lo hi aT p2) pos) (FX S B I):=
 j3 (Wo HX ha O U) λG H Q W=>by
  show dj λY=>?_;let(i,h,E,g,y,q):=W;let((Z,es),m,y):=zb y;let(l,n,y):=zb y;let(u,o,y):=zb y;show Y ?_;cases Z with
  |T=>cases y
  |L=>
   cases y;show(i,h,.L,es,g,m,λb t w e x p F r=>(e,h,l,g.ext x,n,λA j z=>(j,h,u,(g.ext x).ext z,o,λC k d=>?_)));have J:=x.trans<|z.trans d;show(b,t,rfl,(z.trans d).s1.seq p,λs f=>q s _ _ k (J.trans<|Ext.hide d.sub f _) (xh J.s1 f) (jw d.sub f) zA<|lj (r.mono (z.trans d).s0) _ _)
end
section
variable{K:cL}{mg:DZ}{h:dV}
set_option tactic.hygienic true in
theorem GN{c:Str}{C:cI}(y:K.In h)(G:h.Ns gF mg)(e:J9 K c=aF C):mg c=aF (.ref C):=by
 erw[J9]at e;split at e
 .rename_i z q
  cases e;show oV y G q
 .cases e
set_option tactic.hygienic true in
theorem zaN{c:Str}(y:K.In h)(G:h.Ns gF mg)(e:eD K=aG)(z:c∈l5):XI K mg c:=by
 erw[eD]at e;split at e
 .have a:=om.mp e c z
  split at a
  .rename_i C q
   show(z,C,q,GN y G q)
  .cases a
 .cases e
theorem zah{x:Str}{n:Int}{t:mr}(y:K.In h)(G:h.Ns gF mg)(a:o6 K gF x=aF (aF (.int n t))):GL K mg x (.int n):=
 (_,.int n,oV y G a,(t,rfl),λ_=>(rfl))
def gA:zn da->xz (zn Int)
 |[]=>aF []
 |.int i _::r=>(gA r).map λl=>i::l
 |_::_=>aT
theorem Xu:∀{B:zn da} {z:zn Int},gA B=aF z->d8 (z.map V.int) B
 |[],z,e=>by cases e;show .nil
 | u::B,z,e=>by
  cases u with
  |int i t=>
   let(l,a,y):=zq e;subst y;show .cons (t,rfl)<|Xu a
  |_=>cases e
theorem Xl{H:Hp}:∀e:zn Int,di K H (e.map D.int) (e.map V.int)
 |[]=>di.nil
 |n::e=>di.cons rfl<|Xl e
theorem TY{x:Str}{ad:cI}{y:Array da}{m:Nat}{B:Array (xz da)}(e:zn Int)(I:K.In h)(G:h.Ns gF mg)(a:o6 K gF x=aF (aF (.ref ad)))
 (l:K.lookup ad=aF (.type "tuple",aT,.seq y m,B)) (v:gA y.toList=aF e) (z:y.size<=ej):GL K mg x (.tup (e.map D.int)):=
 (_,.ref ad,oV I G a,rfl,λH=>((ad,_,rfl,.inr (_,y,m,l,rfl,rfl,z,Xu v),Xl e)))
end
theorem xS(h:nu X es n g):rp X es g:=h.1
theorem di.rev{K:cL}{H:Hp}{z:zn D}{xs:zn V}(r:di K H z xs):di K H z.reverse xs.reverse:=by
 induction z generalizing xs with
 |nil=>rw[r.nB];rfl
 |cons d z y=>
  let(x,f,e,a,b):=r.kF;simp?[e,S7,S7];show(y b).append (di.cons a di.nil)
section
variable{X:Cx}{L:zn Str}{a:dE}{pos p:eg}
theorem ziJ{c:dE}{B:CO D}(S:PV X a B){z:CO (Sk×zn D)}(hb:PQ X c z)(hm:nv .NotIn c=bB:=by with_unfolding_all rfl):gO X (.Compare a [.NotIn] [c] pos) (sB<|fu B z):=
 KL (wM Xt S hb hm) λK H Q J=>by
  show dj λO=>?_;let(k,j,d,g,y,q):=J;let(C,U,W):=zb y;let(x,s,y):=zb U;let((I,o),Y,y):=zb y;let(i,Z,y):=zb y;let(l,t,rfl):=zq y;show O ?_;cases W;show(k,j,x,g,s,λF A b h e=>(b,j,I,o,g.ext h,Y,λp G m n w f E r=>?_));rw[jT Z]at e;have u:=Yi r t;subst u;show(p,_,rfl,by
   cases I with
   |L=>show .inl f
   |T=>show .inr f,by rw[e];rfl,Yv l,?_)
  rw[e,gD];show(_,rfl,q m n<|h.trans w)
end
end DL
namespace L2
open PySem PySem.Spec PyProof.Rows
def E3(z:Str):It:=(λi _=>i<z.cps.size,λi H x a=>a=H/\∃c,z.cps[i]? = aF c/\x=.str ⟨#[c]⟩,λi _=>z.cps.size<=i)
theorem Ab(z:Str):u5 z = "str_ascii_iterator"\/u5 z = "str_iterator":=by erw[u5];split<;>simp
theorem BX{P:eA}{w:eu}{K:cL}{tg:dE}(z:Str)(t:mr)(it:cI):Turn P w K tg (E3 z) [it] it (λi h=>h.IsStrIter it (u5 z) z t i) where
 mem:=by simp
 obj:=λi h st b hb=>by
  have e:b=it:= ~~~hb
  subst e;let(o,e,c,d):=st;show(o,e,λv q=>by rw[d]at q;cases q)
 keep:=λi h h' st k=>by let(o,e,r):=st;show(o,k it () o e,r)
 item:=by
  rintro X rfl rfl rfl hc i pins s σ H E I hf st hg;let(U,f1,f2,W,Y,Z):=hf it ();have hi:i<z.cps.size:=hg;have y:z.cps[i]? = aF z.cps[i]:=by simp[hi]
  have a3:∀h',h'.IsStrIter it (u5 z) z t (i+1)->tP it s.heap h'->⇑X (Df tg (.ref it)<|.str ⟨#[z.cps[i]]⟩ s.toks)
   (λ_ s2=>∃x H',Inv X pins σ H' s2/\RelV x (.str ⟨#[z.cps[i]]⟩ s.toks)/\(E3 z).pT i H x H'/\s2.heap.IsStrIter it (u5 z) z t (i+1)/\∀b ∈ [it],H' b=aT) E {s with heap:=h',toks:=s.toks+1}:=λh' J O=>by
   have I1:Inv X pins σ H {s with heap:=h',toks:=s.toks+1}:=I.turned (λb o hb e=>(O.2 b hb).trans e) U f1 W Y Z;let(o,e,c,d):=id J;show EO (s:={s with heap:=h',toks:=s.toks+1}) e c d ?_ (.str ⟨#[z.cps[i]]⟩,H,I1,(_,rfl),(rfl,_,y,rfl),J,λb hb=>(hf b hb).1);rcases Ab z with q|q<;>rw[q]<;>decide
  rcases Ab z with q|q
  .rw[q]at st
   show wpAny_pyNext_ascii_item st y λh' J O=>(_,rfl,a3 h' (by rw[q];show J) O)
  .rw[q]at st
   show wpAny_pyNext_wide_item st y λh' J O=>(_,rfl,a3 h' (by rw[q];show J) O)
 done:=by
  rintro X rfl rfl rfl hc i pins s σ H E I hf st hg;let(U,f1,f2,W,Y,Z):=hf it ();have hi:z.cps.size<=i:=hg;have y:z.cps[i]? = aT:=by simp[hi]
  have hh:=I.ok.hd hc;rcases Ab z with q|q
  .rw[q]at st
   show wpAny_pyNext_ascii_end hh st y λh' eb=>(rfl,I.turned (t':=s.toks) (λb o hb e=>eb b o hb e) U f1 W Y Z)
  .rw[q]at st
   show wpAny_pyNext_wide_end hh st y λh' eb=>(rfl,I.turned (t':=s.toks) (λb o hb e=>eb b o hb e) U f1 W Y Z)
 self:=λA i s Q E st h=>by
  rcases Ab z with q|q
  .rw[q]at st;show wpAny_pyIter_striter_ascii st h
  .rw[q]at st;show wpAny_pyIter_striter_wide st h
def zbf(e:TE):TI:=λb H R=>e b H λx a=>∃z,x=.str z/\R (E3 z) a
theorem NT{X:Cx}{L l:dE}{B:TE}(J:PE X l B):PI X L l (zbf B):=by
 intro a s i H R I h;show dQ (J a s i H _ I h) λv j O=>?_;let(x,d,y,g,Q):=O;let(z,rfl,q):=Q;let(t,rfl):=g;show wpAny_pyIter_strU ?_;show(_,_,_,_,d,rfl,y.kept λb o e=>eo _ e,BX z t _,(_,ir _ rfl,rfl,rfl),λb f=>?_,q);have e:= ~~~f
 subst e;show y.pJ (ec _)<|y.dS.fresh<|ec _
theorem mx{X:Cx}{B:TW}{σ:St}{H:Hp}{s:dy}{E:EQ}{z L:cI}{i tk:Nat}{x:da}{v:V}{g:dV}{S:zn dE}{x1:Nat}{n0:eg}{Q:Unit->dy->Prop}
 (I:Inv X B σ H s) (hf:∀b ∈ [z,L],YO X B H b) (O:z<↥s) (hi:L<↥s) (U:IsEnumOut g z L (i+1) x ↥s)
 (W:n8 g ↥s (.int i tk) x) (Y:∀b o,b≠z->b≠L->s.heap.get? b=aF o->g.get? b=aF o) (Z:RelV v x)
 (a2:∀g2,ur g2 z L ((i+1:Nat)) x->tP z g g2->Inv X B σ (upd H ↥s<|.tup [.int i,v]) {s with heap:=g2,toks:=tk+1}->H ↥s=aT->
   (∀b ∈ [z,L],upd H ↥s (.tup [.int i,v]) b=aT)->Q ⟨⟩ {s with heap:=g2,toks:=tk+1}):
 ⇑X (Df (.Tuple S x1 n0) (.ref z)<|.ref ↥s) Q E {s with heap:=g,toks:=tk+1}:=by
 show zlx U λg2 d y=>?_;show a2 g2 (by rwa [show(i+1)=((i+1):Int)by lia]at d) y (I.RM (λJ u a e=>by simp?[eL,lp,or_false,not_or]at a;show y.extBut _ _ a.1<|Y J u a.1 a.2 e) hf (ec _) (by change 2<=ej;decide,_,.cons (_,rfl)<|.cons Z .nil,(_,y.extBut _ _ (pz O) W,rfl,_,rfl))) I.fresh λJ a=>?_
 rw[zC (by
  grind)];show(hf J a).1
def UT(K:cL)(a:cI):It:=
 (λi H=>∃b,eJ K H a b/\i<b.length,
  λi H x d=>∃p u,x=.ref p/\H p=aT/\d=upd H p (.tup [.int i,u])/\(∀b,eJ K H a b->b[i]? = aF u),
  λi H=>∃b,eJ K H a b/\b.length=i)
theorem zi1{P:eA}{w:eu}{K:cL}{elts:zn dE}{x1:Nat}{n0:eg}{z it a:cI}(a7:z≠it):
 Turn P w K (.Tuple elts x1 n0) (UT K a) [z,it] z (λi h=>(∃O,ur h z it i O)/\h.IsListIter it a i) where
 mem:=by simp
 obj:=λi h ((O,J),h1) y hy=>by
  simp?[eL,lp,or_false]at hy;rcases hy with rfl|rfl
  .exact(_,J,λv q=>by cases q)
  .let(o,e,c,d):=h1
   show(o,e,λv q=>by rw[d]at q;cases q)
 keep:=λi h h' ((O,J),h1) k=>((O,k z () _ J),h1.at λo e=>k it () o e)
 item:=by
  rintro X rfl rfl rfl hc i pins s σ H E I hf ⟨⟨O,J⟩,h1⟩ ⟨xs,W,an⟩;let(Y,Z,p1,z1):=I.list W;have Q:=p1.isList;have hx:xs[i]? = aF xs[i]:=eW an;have l1:=Z.length;have a9:a≠it:=λe=>by let(o,e1,c1,_):=Q;let(o2,U,c2,_):=h1;rw[e,U]at e1;cases e1;rw[c2]at c1;show absurd c1 ()
  have ap:z≠a:=λe=>by let(o,e1,c1,_):=Q;have am:s.heap.get? z=aF _:=J;rw[e,e1]at am;cases am;show absurd c1 ()
  have as:it<↥s:=by let(o2,U,_):=h1;show ft U
  have Dr:=Draws.list (prog:=X.prog) (w:=X.w) (A:=X.A.in1) (show X.A.in1.handled=aT from I.ok.hd hc) it a a9 Y.toArray;show zlz Dr J (h1,Q) (by simp;lia) a7 (by simp;show(a7,ap)) λx g tk hP a1 a2 a3 a4 a5=>(_,rfl,?_);let(u1,b5,b6):=Z.get hx;obtain rfl:u1=x:=by have:=hP;simp[b5]at this;show this
  show mx I hf (ft J) as a1 a3 a5 b6 λg2 b1 b2 I1 b8 hn=>(.ref ↥s,_,I1,rfl,(_,_,rfl,b8,rfl,λbg b9=>by rw[I.PX b9 W];show hx),((_,b1),a2.1.at λo e=>b2.extBut _ _ a7.symm e),hn)
 done:=by
  rintro X rfl rfl rfl hc i pins s σ H E I hf ⟨⟨O,J⟩,h1⟩ ⟨xs,W,hi⟩;let(Y,Z,p1,z1):=I.list W;have Q:=p1.isList;have l1:=Z.length;have a9:a≠it:=λe=>by let(o,e1,c1,_):=Q;let(o2,U,c2,_):=h1;rw[e,U]at e1;cases e1;rw[c2]at c1;show absurd c1 ()
  have Dr:=Draws.list (prog:=X.prog) (w:=X.w) (A:=X.A.in1) (show X.A.in1.handled=aT from I.ok.hd hc) it a a9 Y.toArray;have zhi:Y.toArray.size=i:=by simp;lia
  rw[zhi]at Dr;show zly Dr J (h1,Q) λg hk=>(rfl,?_);show I.r6 (t':=s.toks) (fp:=[z,it]) (λb' u hb e=>?_) hf;simp?[eL,lp,or_false,not_or]at hb;show hk b' u hb.2 e
 self:=λ_ _ _ _ _ st h=>vz st.1.choose_spec h
def US(z:Str):It:=
 (λi _=>i<z.cps.size,λi H x a=>∃p c,x=.ref p/\H p=aT/\a=upd H p (.tup [.int i,.str ⟨#[c]⟩])/\z.cps[i]? = aF c,λi _=>i=z.cps.size)
theorem dm{prog:eA}(y:A.handled=aT)(e:cI)(x:Str)(t:mr):
 Draws prog w A e [e] x.cps.size (λi v=>∃c u,x.cps[i]? = aF c/\v=.str ⟨#[c]⟩ u) (λi h=>h.IsStrIter e (u5 x) x t i):=by
 rcases Ab x with q|q
 .rw[q];show Draws.strAscii y e x t
 .rw[q];show Draws.strWide y e x t
theorem zi0{P:eA}{w:eu}{K:cL}{elts:zn dE}{x1:Nat}{n0:eg}{z it:cI}(x:Str)(t:mr)(Q:z≠it):
 Turn P w K (.Tuple elts x1 n0) (US x) [z,it] z (λi h=>(∃O,ur h z it i O)/\h.IsStrIter it (u5 x) x t i) where
 mem:=by simp
 obj:=λi h ((O,J),h1) y W=>by
  simp?[eL,lp,or_false]at W;rcases W with rfl|rfl
  .exact(_,J,λv q=>by cases q)
  .let(o,e,c,d):=h1
   show(o,e,λv q=>by rw[d]at q;cases q)
 keep:=λi h h' ((O,J),h1) k=>((O,k z () _ J),by let(o,e,r):=h1;show(o,k it () o e,r))
 item:=by
  rintro X rfl rfl rfl hc i pins s σ H E I hf ⟨⟨O,J⟩,h1⟩ Y;have Z:it<↥s:=by let(o2,e2,_):=h1;show ft e2
  have U:=dm (prog:=X.prog) (w:=X.w) (A:=X.A.in1) (show X.A.in1.handled=aT from I.ok.hd hc) it x t;show zlz U J h1 Y Q (by simp;show Q) λu g tk hP a1 a2 a3 a4 a5=>(_,rfl,?_);let(c,znl,al,rfl):=hP;show mx (v:=.str ⟨#[c]⟩) I hf (ft J) Z a1 a3 a5 (_,rfl) λg2 b1 b2 I1 an hn=>(.ref ↥s,_,I1,rfl,(_,_,rfl,an,rfl,al),((_,b1),?_),hn);let(o,e,r):=a2;show(o,b2.extBut _ _ Q.symm e,r)
 done:=by rintro X rfl rfl rfl hc i pins s σ H E I hf ⟨⟨O,J⟩,h1⟩ hi;have hi:i=x.cps.size:=hi;subst hi;have U:=dm (prog:=X.prog) (w:=X.w) (A:=X.A.in1) (show X.A.in1.handled=aT from I.ok.hd hc) it x t;show zly U J h1 λg hk=>(rfl,?_);show I.r6 (t':=s.toks) (fp:=[z,it]) (λb' u hb e=>?_) hf;simp?[eL,lp,or_false,not_or]at hb;show hk b' u hb.2 e
 self:=λ_ _ _ _ _ st h=>vz st.1.choose_spec h
def OT(K:cL)(e:TA):TI:=λg H R=>e g H λd b=>∃a,d=[.ref a]/\(∃f,eJ K b a f)/\R (UT K a) b
def OS(e:TA):TI:=λd H R=>e d H λb a=>∃z,b=[.str z]/\R (US z) a
section
variable{X:Cx}{e1:dE}{ta:TA}{p pos:eg}{elts:zn dE}{x1:Nat}{n0:eg}
theorem CS(J:Gl X "enumerate")(L:X.mg "enumerate" = aT)(B:PA X [e1] ta)
 (O:pH "enumerate" = aF (.type "enumerate")) (hs:dU [e1] ⋯=[(bB,dv e1 ⋯)]:=by rfl):
 PI X (.Tuple elts x1 n0) (.Call (.Name "enumerate" p) [e1] [] pos) (OT X.K ta):=by
 intro b s n H R I h;show xb<|xT I J L O<|u7 (dQ (B pos b s n H _ I h) λu m Q=>?_) (by rw[hs];rfl) rfl;show dj λU=>?_;let(w,f,y,l,W):=Q;let(a,rfl,(A,Y),q):=W;let(x,rfl,Z):=yc l;show U ?_;cases Z;let(o,r,k,C):=y.list Y;show call_enumerate_list k.isList λg d i t j=>vz d ?_;show(_,_,_,_,f,rfl,y.kept j,zi1<|pz<|o1 _,((_,d),i),λc e=>?_,q);have z:↥m<=c:=by
  simp?[eL,lp,or_false]at e;rcases e with rfl|rfl
  .exact nM _ _
  .exact ec _
 show y.pJ z<|y.dS.fresh z
theorem CQ(O:Gl X "enumerate")(L:X.mg "enumerate" = aT)(B:PA X [e1] ta)
 (Q:pH "enumerate" = aF (.type "enumerate")) (hs:dU [e1] ⋯=[(bB,dv e1 ⋯)]:=by rfl):
 PI X (.Tuple elts x1 n0) (.Call (.Name "enumerate" p) [e1] [] pos) (OS ta):=by
 intro a s l H R I h;show xb<|xT I O L Q<|u7 (dQ (B pos a s l H _ I h) λn k U=>?_) (by rw[hs];rfl) rfl;show dj λW=>?_;let(o,e,y,j,Y):=U;let(z,rfl,q):=Y;let(r,rfl,Z):=yc j;let(t,rfl):=Z;show W ?_;show call_enumerate_str λg b f m i=>vz b ?_;show(_,_,_,_,e,rfl,y.kept i,zi0 z t<|pz<|o1 _,((_,b),f),λc d=>?_,q);have J:↥k<=c:=by
  simp?[eL,lp,or_false]at d;rcases d with rfl|rfl
  .exact nM _ _
  .exact ec _
 show y.pJ J<|y.dS.fresh J
end
theorem MW:C1 X (λx lo e H Q=>∃z,x=.str z/\z.length<=ej/\Q (.str<|sP z lo e) H):=by
 rintro a s g H x v Z i lo e h Q I U ⟨o,y,b,d⟩ W Y ⟨z,rfl,J,q⟩;let(t,rfl):=U;have O:∀f k,EP X a g Q (.str _ f) _:=λf k=>(.str _,H,I.tok k,(_,rfl),q);show("str",_,F.slot_str_getitem.lookup,B0 _ _ _,?_);cases W<;>cases Y
 .exact R3 (l:=aT) (u:=aT) (st:=aT) (o,y,b,d) rfl<|Um (fZ (T5 z _ _) J,O)
 .exact R3 (l:=aT) (u:=aF (_,_)) (st:=aT) (o,y,b,d) rfl<|Um (fZ (T5 z _ _) J,O)
 .exact R3 (l:=aF (_,_)) (u:=aT) (st:=aT) (o,y,b,d) rfl<|Um (fZ (T5 z _ _) J,O)
 .exact R3 (l:=aF (_,_)) (u:=aF (_,_)) (st:=aT) (o,y,b,d) rfl<|Um (fZ (T5 z _ _) J,O)
end L2
namespace DL
open PySem PySem.Spec PyProof.Rows L2
theorem Jr(z:Str):(ye z).length=z.cps.size:=by simp[ye]
theorem iO(z:Str){i c:Nat}(h:z.cps[i]? = aF c):(ye z)[i]? = aF (.str ⟨#[c]⟩):=by simp[ye,h]
theorem BQ{K:cL}{e B:Hp}(z:Str):Walk K e B (E3 z) (ye z):=by
 show(λi b s a=>?_,λb s=>?_,λi b x f s a y=>?_)
 .rw[Jr]at a;show a
 .rw[Jr];show ec _
 .let(rfl,c,g,rfl):=y
  show(_,iO z g,λd j h=>(d,Ext.refl h,rfl))
theorem ziR{K:cL}{e B:Hp}(z:Str):Walk K e B (US z) (xB<|ye z):=by
 have I:(xB<|ye z).length=z.cps.size:=by simp[xB,Jr]
 show(λi b s a=>?_,λb s=>?_,λi b x d s a y=>?_)
 .rw[I]at a;show a
 .assumption
 .let(p,c,rfl,g,rfl,f):=y
  show(.tup [.int i,.str ⟨#[c]⟩],?_,λj k h=>(_,Ext.alloc h g _,yi (fC.of zA)<|di.cons rfl<|di.cons rfl di.nil))
  .rw[I]at a
   erw[xB];rw[n4,_y (by rw[Jr];show a),t5,iO z f];rfl
theorem ziT{K:cL}{B H:Hp}{a:cI}{xs:zn V}{e:zn D}(h:eJ K H a xs)(r:di K B e xs):Walk K B H (UT K a) (xB e):=by
 have J:=r.length;have O:(xB e).length=e.length:=by simp[xB]
 show(λi b s l=>(xs,s.seq h,()),λb s=>(xs,s.seq h,()),λi b x j s l y=>?_)
 .let(p,u,rfl,f,rfl,z):=y
  let(d,k,I):=r.uJ<|z xs<|s.seq h;show(.tup [.int i,d],?_,λn m g=>(_,Ext.alloc g f _,yi (fC.of zA)<|di.cons rfl<|di.cons ((I.mono m).mono (js (jw g f) _)) di.nil))
  .unfold xB
   rw[n4,_y (),t5,k];rfl
theorem Jq:∀l:zn Str,(l.map V.str).all Va=aG
 |[]=>rfl
 |i::l=>by simp?[mc,A9,Jq l,Bool.and_true];rfl
section
variable{X:Cx}{sc:e9}{N L:zn Str}{k:Nat}{a b:dE}{pos p p2:eg}{f fa fb:CO D}
theorem ua(B:PV X a f):fh X tg a (Vp f):=
 Y1 (NT B) λl H R I=>by
  let(g,k,h,j,y,q):=I;let(d,J,y):=zb y;cases d with
  | str z=>
   by_cases i:zT z=aG
   .have y:(if zT z=aG then aF (ye z)else aT)=aF h:=y
    rw[DJ i]at y;cases y;show(g,k,_,j,J,λv e b x r=>(z,r,q _ e b x<|BQ z))
   lia
  |_=>cases y
theorem IH{e:zn dE}{B:eg}(h:SX X sc N L k)(c:xP sc "enumerate" = aG)(z:X.mg "enumerate" = aT)(O:PV X a f)(hs:dU [a] ⋯=[(bB,dv a ⋯)]:=by rfl):
 fh X (.Tuple e x1 B) (.Call (.Name "enumerate" p) [a] [] pos) (sM f):=
 Y1 (CQ (h.gl c).1 z (zS O jH hs) UM hs) λo H R I=>by
  let(i,n,j,m,y,q):=I;let(d,J,y):=zb y;cases d with
  | str z=>
   by_cases l:zT z=aG
   .have y:(if zT z=aG then aF _ else aT)=aF j:=y
    rw[DJ l]at y;cases y;show(i,n,_,m,J,λv g b x r=>(z,by rw[r],q _ g b x<|ziR z))
   lia
  |_=>cases y
theorem Wn(h:SX X sc N L k)(c:xP sc "enumerate" = aG)(z:X.mg "enumerate" = aT)(B:PV X a f)(hs:dU [a] ⋯=[(bB,dv a ⋯)]:=by rfl):
 fh X (.Tuple elts x1 n0) (.Call (.Name "enumerate" p) [a] [] pos) (Xk f):=
 Y1 (CS (h.gl c).1 z (zS B jH hs) UM hs) λo H R J=>by
  let(g,l,m,i,y,q):=J;let(d,O,y):=zb y;cases d with
  |lst n=>
   cases y;show(g,l,_,i,O,λv e b x r=>?_);let(Q,j,rfl,I,g2):=gh r;show(Q,rfl,(j,x.sub.seq I),q _ e b x<|ziT I g2)
  |_=>cases y
theorem tJ(B:PV X a fa){g:CO (Sk×zn D)}(S:PQ X b g)(hm:nv .In b=bB:=by with_unfolding_all rfl):PV X (.Compare a [.In] [b] pos) (Co fa g):=
 j3 (Wp KR B S hm) λF H Q J=>by
  show dj λO=>?_;let(k,j,d,h,z,q):=J;let(x,o,z):=zb z;let((I,n),U,z):=zb z;show O ?_;cases x with
  | str w=>
   let(l,W,rfl):=zq z;show(k,j,_,h,o,λC u e i t=>(e,j,I,n,h.ext i,U,λp E m Y Z f A r=>?_));have s:=wG r W;subst s;subst t;show(p,_,rfl,by
    cases I with
    |L=>show .inl f
    |T=>show .inr f,rfl,Jq l,?_)
   have:pK (.str w) (l.map V.str)=l.any λy=>y==w:=by erw[pK];rw[MR];rfl
   rw[DY iu,this];show q _ m Y (i.trans Z) rfl
  |_=>cases z
theorem kH(B:PV X a fa)(S:PV X b fb):PV X (.BinOp a .Add b pos) (yI fa fb):=
 j3 (CT zjn B S) λs H Q I=>by
  let(j,i,d,g,z,q):=I;let(x,l,z):=zb z;let(y,J,z):=zb z;cases x with
  | str u=>
   cases y with
   | str w=>
    by_cases f:zT u=aG/\zT w=aG
    .have z:(if zT u=aG/\zT w=aG then aF _ else aT)=aF d:=z
     rw[DJ f]at z;cases z;show(j,i,_,g,l,λW o e h m=>(e,i,_,g.ext h,J,λY k O U n=>(u,w,m,n,?_,q _ k O (h.trans U) rfl)));have p:=Zn f.1;have r:=Zn f.2;have:2000<=ej:=by decide
     lia
    lia
   |_=>cases z
  |_=>cases z
theorem bG{lo S:xz dE}{B I:CO (xz Int)}(ha:PV X a f)(U:L2.PO X lo (tB X.K B))(W:L2.PO X S (tB X.K I)):PV X (.Subscript a (.Slice lo S aT p2) pos) (pX f B I):=
 j3 (Wo MW ha U W) λA H Q Y=>by
  show dj λZ=>?_;let(i,g,d,e,y,q):=Y;let(J,n,y):=zb y;let(l,o,y):=zb y;let(u,p,y):=zb y;show Z ?_;show(i,g,J,e,n,λv t b x r=>(b,g,l,e.ext x,o,λw k O=>(k,g,u,(e.ext x).ext O,p,λj m s=>?_)));cases J with
  | str z=>
   by_cases h:zT z=aG
   .have y:(if zT z=aG then aF _ else aT)=aF d:=y
    rw[DJ h]at y;cases y;show(z,r,Zm h,q _ j m (x.trans<|O.trans s) rfl)
   lia
  |_=>cases y
end
section
variable{K:cL}{mg:DZ}{h:dV}
def eQ:zn da->xz (zn Str)
 |[]=>aF []
 |.str i _::r=>(eQ r).map λl=>i::l
 |_::_=>aT
theorem Xj:∀{B:zn da} {z:zn Str},eQ B=aF z->d8 (z.map V.str) B
 |[],z,e=>by cases e;show .nil
 | u::B,z,e=>by
  cases u with
  |str i t=>
   let(l,a,y):=zq e;subst y;show .cons (t,rfl)<|Xj a
  |_=>cases e
theorem wI{H:Hp}:∀e:zn Str,di K H (e.map D.str) (e.map V.str)
 |[]=>di.nil
 |n::e=>di.cons rfl<|wI e
theorem TX{x:Str}{ad:cI}{y:Array da}{m:Nat}{B:Array (xz da)}(e:zn Str)(I:K.In h)(G:h.Ns gF mg)(a:o6 K gF x=aF (aF (.ref ad)))
 (l:K.lookup ad=aF (.type "tuple",aT,.seq y m,B)) (v:eQ y.toList=aF e) (z:y.size<=ej):GL K mg x (.tup (e.map D.str)):=
 (_,.ref ad,oV I G a,rfl,λH=>((ad,_,rfl,.inr (_,y,m,l,rfl,rfl,z,Xj v),wI e)))
end
end DL
namespace DL
open PySem L2 PyProof.Rows
open PySem.W (KasT kas_sort kas_asc kas_desc kas_tail3 kas_descPart kas_count kas_place kas_bin kas_rev)
def Good{e:Type}(n:Nat)(P:e->Prop):KasT e->Prop
 |.ret a=>P a
 |.ask i j k=>i<n/\j<n/\∀b,Good n P<|k b
theorem Good.mono{e:Type}{n:Nat}{P y:e->Prop}(h:∀a,P a->y a):∀{t:KasT e},Good n P t->Good n y t
 |.ret a,g=>h a g
 |.ask i j k,g=>(g.1,g.2.1,λb=>(g.2.2 b).mono h)
theorem Good.bind{e β:Type}{n:Nat}{P:e->Prop}{y:β->Prop}{f:e->KasT β}(z:∀a,P a->Good n y (f a)):∀{t:KasT e},Good n P t->Good n y (t.bind f)
 |.ret a,g=>z a g
 |.ask i j k,g=>(g.1,g.2.1,λb=>(g.2.2 b).bind z)
theorem Good.run:∀{t:KasT α},Good n P t->P (vg lt t)
 |.ret a,g=>g
 |.ask i j k,g=>(g.2.2 _).run
def Pm(n:Nat)(p:Array Nat):Prop:=p.toList.Perm<|cT n
theorem Pm.lt(h:Pm n p)(z:0<n)(i:Nat):p.getD i 0<n:=by
 by_cases a:i<p.size
 .have e:p.getD i 0=p[i]:=by simp[Array.getD,a]
  rw[e];show ed.mp<|h.mem_iff.mp ()
 .have e:p.getD i 0=0:=by simp[Array.getD,a]
  rw[e];show z
theorem Pm.rev(h:Pm n p)(i j:Nat):Pm n (kas_rev p i j):=(Array.perm_iff_toList_perm.mp<|mirror_perm p i j _).trans h
theorem Pm.T?(h:Pm n p)(i j:Nat):Pm n (bubble p i j):=(Array.perm_iff_toList_perm.mp<|bubble_perm p i j).trans h
theorem WW(h:Pm n p)(e:0<n):∀f m,Good n (λ_=>True) (kas_asc p f m)
 |0,m=>trivial
 |f+1,m=>(h.lt e _,h.lt e _,λb=>by
  cases b with
  |true=>show trivial
  |false=>show WW h e f<|m+1)
theorem JO(e:0<n):∀f p m q,Pm n p->Good n (λr=>Pm n r.1) (kas_desc f p m q)
 |0,p,m,q,h=>h
 | f+1,p,m,q,h=>(h.lt e _,h.lt e _,λb=>by
  cases b with
  |true=>
   split
   .exact JO e f _ _ _<|h.rev _ _
   .exact JO e f _ _ _ h
  |false=>show(h.lt e _,h.lt e _,λd=>by
   cases d with
   |true=>show h
   |false=>show JO e f _ _ _ h))
theorem cY(e:0<n)(m r:Nat)(h:Pm n p):Good n (λr=>Pm n r.2) (kas_tail3 m r p):=by erw[kas_tail3];show Good.bind (λa _=>?_)<|WW (h.rev _ _) e _ _;show(h.rev _ _)
theorem cZ(e:0<n)(m r:Nat)(h:Pm n p):Good n (λr=>Pm n r.2) (kas_descPart m r p):=
 (JO e _ _ _ _ h).bind λa b=>by
   split
   .exact cY e _ _<|Pm.rev b _ _
   .exact cY e _ _ b
theorem zjU(e:0<n)(r:Nat)(h:Pm n p):Good n (λr=>Pm n r.2) (kas_count r p):=
 (WW h e _ _).bind λm _=>by
   split
   .exact h
   .split
    .exact(h.lt e _,h.lt e _,λc=>by
      cases c with
      |true=>show h
      |false=>show cZ e _ _<|h.rev _ _)
    .exact cZ e _ _ h
theorem QW(e:0<n)(h:Pm n p)(k:Nat):∀f l r,Good n (λ_=>True) (kas_place p k f l r)
 |0,l,r=>trivial
 |f+1,l,r=>by
  change Good n _ (if l>=r then _ else _);split
  .exact trivial
  .exact(h.lt e _,h.lt e _,λc=>by
    cases c with
    |true=>show QW e h k f _ _
    |false=>show QW e h k f _ _)
theorem mi(e:0<n):∀f p k,Pm n p->Good n (Pm n) (kas_bin f p k)
 |0,p,k,h=>h
 |f+1,p,k,h=>(QW e h k k 0 k).bind λl _=>mi e f _ _<|h.T? _ _
theorem Yn(e:0<n):Good n (Pm n) (kas_sort n):=
 (zjU e n<|List.Perm.refl _).bind λr y=>by
   split
   .exact mi e _ _ _ y
   .exact y
theorem j6(ps:zn (Int×Int)):(xq ps).Perm (cT ps.length):=by
 erw[xq];split
 .rfl
 .exact(Yn ()).run
theorem bO:∀{e:zn D} {ps:zn (Int×Int)},Xs e=aF ps->ps.length=e.length
 |[],ps,h=>by cases h;rfl
 | d::e,ps,h=>by
  erw[Xs]at h;cases e1:Eb d with
  |none=>grind
  |some x=>
   cases e2:Xs e with
   |none=>grind
   |some l=>rw[e1,e2]at h;cases h;simp[bO e2]
theorem jz(d:α):∀e,(cT e.length).map (λi=>e.getD i d)=e:=λe=>by
 apply zt;intro i;by_cases a:i<e.length
 .simp[a]
 .simp[a,Nat.not_lt.mp a]
end DL
namespace DL
open PySem PySem.Spec PyProof.Rows L2
open PySem.W (KasT kas_sort kas_ask kat_run kat_snds kat_lt kat_cons kat_no kat_yes kat_nil kat_go kat_one kat_kind KatTups KatGo)
theorem gG(e:∀i j C,i<n->j<n->C (lt i j) s->cmp i j C s):
 ∀{t:KasT α},Good n P t->Q (vg lt t) s->t.kasWp cmp Q s
 |.ret _,_,q=>q
 |.ask i j k,g,q=>e i j _ g.1 g.2.1<|gG e (g.2.2 _) q
def rq(h:dV)(v:da)(k l:Int):Prop:=∃x o a m t u,v=.ref x/\h.get? x=aF o/\o.cls=.type "tuple"/\o.data=.seq a m/\a.toList=[.int k t,.int l u]
theorem rq.keep(a:rq h v k l)(e:∀b o,h.get? b=aF o->o.cls=.type "tuple"->h'.get? b=aF o):rq h' v k l:=by let(x,o,n,m,t,u,f,g,d,i,j):=a;show(x,o,n,m,t,u,f,e x o g d,d,i,j)
theorem rq.one(a:rq h v k l):Rf h v k:=by let(x,o,i,m,t,u,b,d,e,f,g):=a;show(x,o,i,m,t,b,d,e,f,by rw[<-Array.getElem?_toList,g];rfl)
section
theorem Yb(O:s.heap.get? a=aF (fD "list" vs.toArray n))(Y:ps.length=vs.length)(an:vs.length<64)
 (hT:∀i B,rq s.heap vs[i] (ps.getD i (0,0)).1 (ps.getD i (0,0)).2)
 (h:P (.done<|.ret .none) {s with heap:=sortedHeap s.heap a vs (D7<|(xq ps).map λi=>vs.getD i lC)}):
 wpAny (dq prog w) A (Builtin.«list.sort» ([.ref a],[])) P E s:=by
 rw[list_sort_plain];have X:=ft O;have Z:vs.length<=ej:=by rw[oo];lia
 show cS (listItems_at O rfl ?_);show cS (A3 O rfl ?_ (by assumption) (l6 _));let(d,M):∃d,(s.heap.update a (ky λ_=>#[])).get? a=aF (fD "list" #[] d):=(_,Uo O (λ_=>#[]));show cS (M6 M rfl ?_);show cS (T1 ?_ (by change vs.length<=_;show Z));show cS (T9 ?_ (l6 _));show m7 ?_;have J:(((s.heap.update a (ky λ_=>#[])).push (fD "tuple" vs.toArray 0)).push (fD "list" #[] 0)).get? a=aF (fD "list" #[] d):=by rw[D0 _ _ _ (by rw[Rx,Sm];show gq (oj X)),D0 _ _ _ (by rw[Sm];show gq X)];show M
 dsimp only;have K:vs.toArray.size=vs.length:=by simp
 by_cases l:vs.toArray.size<2
 .rw[DJ l,DJ l]
  show cS<|d7 ?_;rw[StateT.run_pure];show cS<|d7 ?_;dsimp only;show cS<|M6 J rfl ?_;have S:Array.map (λx=>x.snd) (arrOf<|SortSt.mk' general' (vs.toArray.zip vs.toArray) #[] 7 aT)=vs.toArray:=by apply Array.ext';simp[Array.toList_map,Array.toList_zip];rw[List.map_snd_zip (ec _)]
  have ev:(xq ps).map (λi=>vs.getD i lC)=vs:=by erw[xq];rw[DJ (),Y];show jz _ _
  rw[ev]at h;show cS (A3 J rfl ?_ (l6 _) (by rw[S,K];show Sb Z));simp?[bne_self_eq_false,tL,if_false];have e8:({s with heap:=(((s.heap.update a (ky λx=>#[])).push (fD "tuple" vs.toArray 0)).push (fD "list" #[] 0)).update a (ky λx=>Array.map (λx=>x.snd) (arrOf (SortSt.mk' general' (vs.toArray.zip vs.toArray) #[] 7 aT)))}) = {s with heap:=sortedHeap s.heap a vs vs.toArray}:=by rw[S];rfl
  show d7 ?_;rw[<-e8]at h;show h
 .rw[DY l,DY l]
  have keep b o:s.heap.get? b=aF o->o.cls=.type "tuple"->(((s.heap.update a (ky λ_=>#[])).push (fD "tuple" vs.toArray 0)).push (fD "list" #[] 0)).get? b=aF o:=λe hc=>by show eo _ (eo _ ((DF _ _ _ _ (λz=>by lia)).trans e))
  generalize hg:((s.heap.update a (ky λ_=>#[])).push (fD "tuple" vs.toArray 0)).push (fD "list" #[] 0)=g at J keep ⊢;have F:=λi B=>(hT i B).keep keep;let(fs,f1,f2,f3):=uU λi B=>(F i B).one;show cS (kat_kind (T:=t7 "int") f1 () (λv hv=>?_) () ?_)
  .let(k,t,rfl):=f3 v hv
   show DU.of_pure rfl
  show cS (fU (kat_run (Q:=λU f=>∃p,arrOf U=p.map (PySem.W.kas_item<|vs.toArray.zip vs.toArray)/\failedOf U=aT/\p.toList=xq ps/\f = {s with heap:=g})
   (G:=λp f=>p.toList=xq ps/\f = {s with heap:=g})
   rfl () an (λp U f a1 a2 a3 L=>(p,a2,a3,L.1,L.2)) (gG (λi j C B hj I=>?_) (Yn ()) (by
   erw[xq];rw[DY (),Y],rfl))) ?_ λ_ _ e=>e)
  .show wpAny _ _ (keyLt' _ (vs.getD i lC)<|vs.getD j lC) C _ _
   rw[show vs.getD i lC=vs[i]by simp[B],show vs.getD j lC=vs[j]by simp[hj]];show dj λkZ=>?_;let(x,zjt,xs,m,t,u,d,e2,e3,e4,R):=F i B;let(y,zju,ys,m',t',u',d1,d2,d3,d4,N):=F j hj;show kZ ?_;rw[d,d1];show kat_lt e2 e4 d2 d4 ?_;have bb:xs.size=2:=by rw[<-sj,R];rfl
   have bd:ys.size=2:=by rw[<-sj,N];rfl
   simp?[R,N,bb,bd,DH,DH];erw[QT]at I;generalize ps.getD i (0,0)=X1 at I ⊢;generalize ps.getD j (0,0)=X2 at I ⊢;show kat_cons<|Mq X1.1 t X2.1 t' _ _ _ _ ?_;show kat_go (λH=>?_) λH=>?_
   .rw[DJ (~~~H)]at I
    show kat_yes<|kat_cons<|Mq X1.2 u X2.2 u' _ _ _ _<|kat_go (λr=>?_) λr=>kat_no<|kat_one _ _<|lt_int I
    .have r:= ~~~r
     show kat_yes<|kat_nil ?_;rw[show decide (X1.2<X2.2)=bB by rw[r];simp]at I;show I
   .rw[DY (~~~H)]at I
    show kat_no<|oneLt_int I
  rintro⟨⟨⟩,U⟩ f ⟨p,be,hf,hp,rfl⟩;dsimp only;have bf:((xq ps).map λi=>vs.getD i lC).length=vs.length:=by rw[gr,(j6 ps).length_eq,pq,Y]
  rw[(kat_snds rfl be),hp];show cS<|M6 J rfl ?_;show cS<|A3 J rfl ?_ (l6 _) (by rw[gN];change((xq ps).map λi=>vs.getD i lC).length<=_;rw[bf];show Sb Z);rw[hf];simp?[bne_self_eq_false,tL,if_false];subst hg;show d7 h
theorem bj(J:s.heap.IsList l vs.toArray)(O:ps.length=vs.length)(U:vs.length<64)
 (W:∀i B,rq s.heap vs[i] (ps.getD i (0,0)).1 (ps.getD i (0,0)).2)
 (h:Q (.ref<|↥s+1) {s with heap:=sortedAll s.heap vs (D7<|(xq ps).map λi=>vs.getD i lC)}):
 wpAny (dq prog w) A (call (.builtin "sorted") [.ref l]) Q E s:=by
 have z:vs.length<=ej:=by rw[oo];lia
 show Calls.call_function_entry kind_sorted plain_sorted entry_sorted (args_sorted1 _) ?_;unfold Builtin.«sorted»;show cS (d7 ?_);show cS (collect_list J ?_ z);show cS (T9 ?_ z);have a:((s.heap.push (fD "list" #[] 0)).update ↥s (ky (· ++ vs.toArray))).objs.size=↥s+1:=by simp_all
 have I:(((s.heap.push (fD "list" #[] 0)).update ↥s (ky (· ++ vs.toArray))).push (fD "list" vs.toArray 0)).get? (↥s+1)=aF (fD "list" vs.toArray 0):=by rw[<-a];show ir _ rfl
 have keep:∀b o,s.heap.get? b=aF o->(((s.heap.push _).update _ _).push (fD "list" vs.toArray 0)).get? b=aF o:=λb o q=>by have y:=ft q;rw[D0 _ _ _ (by rw[a];show gq (oj y)),DF _ _ _ _ (gq y),D0 _ _ _ (gq y)];show q
 rw[a];show cS<|m7<|sy slot_list_sort (_,I,rfl) entry_list_sort (Yb I O U (λi B=>(W i B).keep λb o e _=>keep b o e) (_,rfl,d7 (_,rfl,h)))<|args_list_sort _
end
section
variable{X:Cx}
def Np(K:cL):zn V->Hp->VK->Prop:=λe H Q=>∃l b d,e=[.ref l]/\eJ K H l b/\d.length=b.length/\b.length<64/\
 (∀i (f:i<b.length),∃a,b[i]=V.ref a/\fC K H a [.int ((d:zn (Int×Int)).getD i (0,0)).1,.int (d.getD i (0,0)).2])/\∀p,H p=aT->Q (.ref p) (upd H p<|.lst<|(xq d).map λi=>b.getD i .dw)
theorem dB:J6 X (.builtin "sorted") (Np X.K):=by
 intro k s σ H vs us Q I rv h;let(l,f,ps,rfl,G,Y,ap,A,m):=h;let(u,rfl,ru):=yc rv;cases ru;let(p,r,R,M):=I.list G;have as:=r.length;show bj (ps:=ps) R.isList () () (λi d=>?_) ?_
 .let(a,w,x):=A i ()
  let(v,y,g2):=r.get (i:=i) (by rw[eW (),w]);have L:=by rw[eW d]at y;show l8 y
  rw[L];cases g2;show dj λP=>?_;let(ad,T,(o,F,B,n,C),_):=I.tuple x;let(z,J,rfl,O,U):∃z J,ad=z::J/\RelV _ z/\d8 _ J:=by
   cases T with
   |cons O U=>show(_,_,rfl,O,U)
  let(v2,rfl,S):=yc U;let(t,rfl):=O;let(u,rfl):=S;show P (a,o,_,n,t,u,rfl,F,B,C,rfl)
 .let(e,g):=sortedAll_at s.heap p _
  have Z:((xq ps).map λi=>f.getD i V.dw).length=f.length:=by rw[gr,(j6 ps).length_eq,pq,Y]
  show(.ref _,_,I.laid (λb o q=>sortedAll_old q) (uc _) ?_,rfl,m _<|I.dS.fresh<|uc _);show(by rw[Z];show M,_,e,?_,g);have W:∀i∈xq ps,i<f.length:=λi d=>by have:=(j6 ps).mem_iff.mp d;rw[Y]at this;show ed.mp this
  generalize xq ps=o at W;clear Z g
  induction o with
  |nil=>show .nil
  |cons i o N=>
   have d:=W i gH;show .cons ?_ (N λj E=>W j<|gy _ E);let(v,y,g2):=r.get<|eW d;simp?[hB,hB,eW d,y];show g2
theorem lM:∀{e:zn D} {ps:zn (Int×Int)},Xs e=aF ps->∀(i:Nat) d,e[i]? = aF d->d=.tup [.int (ps.getD i (0,0)).1,.int (ps.getD i (0,0)).2]
 |[],ps,h,i,d,hd=>by grind
 | c::e,ps,h,i,d,hd=>by
  let(k,a,h):=zb h;let(l,y,h):=zq h;subst h;cases i with
  |zero=>
   simp at hd;subst hd;erw[Eb]at a;split at a
   .cases a;rfl
   .cases a
  |succ i=>simpa using lM y i d (~~~hd)
theorem Kz{K:cL}{H:Hp}{e:zn D}{xs:zn V}(r:di K H e xs):∀(o:zn Nat),(∀i∈o,i<xs.length)->di K H (o.map λi=>e.getD i .dw) (o.map λi=>xs.getD i .dw)
 |[],_=>di.nil
 |i::o,h=>by have a:=h i gH;let(d,b,y):=r.uJ<|eW a;show di.cons ?_ (Kz r o λj z=>h j<|gy _ z);simp?[hB,hB,eW a,b];show y
theorem CJ{S:e9}{N L:zn Str}{k:Nat}{e:dE}{pos p:eg}{B:CO (Sk×zn D)}(h:SX X S N L k)(c:xP S "sorted" = aG)(z:X.mg "sorted" = aT)(hq:PQ X e B)(hs:dU [e] ⋯=[(bB,dv e ⋯)]:=by rfl):
 PO X (.Call (.Name "sorted" p) [e] [] pos) (FW B):=
 j3 (vM dB (h.gl c).1 z () (zS hq jH hs) () () hs rfl) λσ H Q W=>by
  let(s,γ,ds,P,I,q):=W;let((Y,j),t,I):=zb I;cases Y with
  |T=>cases I
  | L=>
   erw[Cg]at I;let(o,O,I):=zb I;by_cases n:j.length<64
   .rw[DJ n]at I
    cases I;have a4:=bO O;show(s,γ,.L,j,P,t,λa R H' f ext A h2 r=>?_);have a5:=r.length;show(a,R,o,rfl,A,(),(),λi g=>?_,λl J=>?_)
    .let(d,M,Z):=r.uJ (eW g)
     have x:=lM O i d M;subst x;let(b,zs,w,m,C):=vf Z;show(b,w,?_);let(y,znp,u,E,F):=C.kF;let(y2,a8,U,G,K):=F.kF;rw[K.nB]at U;rw[u,U,jL E,jL G]at m;show i6 ext.sub m
    .refine q l _ _ f (ext.trans<|Ext.hide ext.sub J _) (xh ext.s1 J) (jw ext.sub J) zA ?_
     show Kz r _ λi g=>?_;have:=ed.mp<|(j6 o).mem_iff.mp g;lia
   .rw[DY n]at I;cases I
end
section
variable{X:Cx}{a b c:dE}{pos:eg}{fa fb fc:CO D}
theorem bI{O U:CmpOp}{r B:R2}{F G:D->D->xz D}(ho:fJ X (i3 O) r)(L:fJ X (i3 U) B)(s1:jc X.K r F)(s2:jc X.K B G)(ha:PV X a fa)(hb:PV X b fb)(hc:PV X c fc)
 (hm:PM [O,U] [b,c]=bB:=by with_unfolding_all rfl):gO X (.Compare a [O,U] [b,c] pos) (sB<|wt F G fa fb fc):=
 KL (Cw ho L ha hb hc hm) λσ H Q hZ=>by
  show dj λkZ=>?_;let(m,l,zib,j,C,zjY):=hZ;let(d,I,zg6):=zb C;have q v f e:Ext m H e f->Rep X.K e d v->∃k,v=.bl k/\Q k f:=λx Y=>by rw[JW zg6]at Y;show(zib,Y,zjY f e x)
  let(x,P,I):=zb I;let(y,R,I):=zb I;let(k,S,I):=zb I;let(Z,T,o):=zb S;show kZ ?_;show(m,l,x,j,P,λv1 H1 i g r1=>(i,l,y,j.ext g,R,λs t E J p=>s1 E t v1 s x y Z _ J.sub (r1.mono J.s0) p T λv3 u n h r3=>?_));cases Z with
  | bl k'=>
   cases o;show(k,r3,?_);cases k with
   |true=>
    rw[DJ rfl];rw[DJ rfl]at I;let(z,e6,e7):=zb I;show(n,l,z,((j.ext g).ext J).ext h,e6,λv4 w M W r4=>s2 M w s v4 y z d _ W.sub ((p.mono h.s0).mono W.s0) r4 e7 λv5 A N x5 r5=>q v5 A N (((g.trans J).trans h).trans (W.trans x5)) r5)
   |false=>
    rw[DY ()];cases I;show q _ u n ((g.trans J).trans h) rfl
  |_=>cases o
end
theorem ZQ:upd (upd H x o) x o'=upd H x o':=by
 funext b;by_cases h:b=x
 .subst h;rw[zA,zA]
 .rw[zC h,zC h,zC h]
structure ra(K:cL)(C:cI):Prop where
 cls:oF K C
 np:pD K C "p"
 nt:pD K C "table"
def Kt(C:cI):Sp:=λe H Q _=>∃x a b d,e=[.ref x,b,d]/\H x=aF (.ins C a [])/\Q .dw (upd H x<|.ins C a<|tq b d)
inductive F8(K:cL)(C:cI)(F:List D->Option Res)(vs:List V)(H:Hp)(Q:VK)(_:XK):Prop
 |mk (x dx vp vt vb H0 p t b ds) (_:vs=[.ref x,vb]) (_:H x=aF (.ins C dx<|tq vp vt)) (_:et H0 H) (_:Rep K H0 p vp) (_:Rep K H0 t vt) (_:Rep K H0 b vb) (_:F [p,t,b]=aF (.own ds)) (_:UQ K H0 H Q (.own ds))
section
variable{P:eA}{w:eu}{K:cL}{mg:DZ}{base:dV}{k:Nat}
theorem Lv{q:Str}{st:en}{f C:cI}{e:gv}(y:L2.g5 K "__init__" q st f e)(B:wB ["self","p","table"] ["self","p","table"] st=aG)(c:ra K C)
 (z:∀X,X.prog=P->X.w=w->X.K=K->X.mg=mg->X.base=base->SX X (zK st) ["self","p","table"] ["self","p","table"] k->h8 X (jn st) (pV (Ng X.K (QE 0) (QE 1) "p") (Ng X.K (QE 0) (QE 2) "table"))):
 fy P w K mg base f7 (k+1) f e ["self","p","table"] (Kt C):=by
 have S:=xl B;show y.ok S (λj H Q E h=>by let(x,a,d,g,rfl,_):=h;rfl) λi A b s H j Q E I J=>(_,z _ rfl rfl rfl rfl rfl (rfl,rfl,S.nd,rfl,I,λ_ _=>.inl rfl),?_);show dj λO=>?_;let(x,a,d,g,rfl,U,q):=J;show O ?_;show(d,rfl,.ref x,rfl,x,C,a,[],rfl,U,c.cls,c.np,(),?_);show(g,rfl,.ref x,rfl,x,C,a,_,rfl,zA,c.cls,c.nt,by change 1<1000;decide,?_);rw[ZQ];show q
theorem mq{z q:Str}{st:en}{f C:cI}{B:gv}{F:zn D->xz Res}(I:L2.g5 K z q st f B)(L:wB ["self","base"] ["self","base"] st=aG)(c:ra K C)
 (J:∀X,X.prog=P->X.w=w->X.K=K->X.mg=mg->X.base=base->SX X (zK st) ["self","base"] ["self","base"] k->
   h8 X (jn st) (Mh (aY (kr X.K 3 F) [] E0 (Zx (Rq X.K (QE 0) "p") (Zx (Rq X.K (QE 0) "table") (Zx (QE 1) pW)))))):
 fy P w K mg base f7 (k+1) f B ["self","base"] (F8 K C F):=by
 have S:=xl L;show I.ok S (λG H Q E h=>by let(x,e,a,d,l,i,p,t,b,j,rfl,_):=h;rfl) λn A g s H G Q E O U=>(_,J _ rfl rfl rfl rfl rfl (rfl,rfl,S.nd,rfl,O,λ_ _=>.inl rfl),?_);show dj λW=>?_;let(x,e,a,d,l,i,p,t,b,j,rfl,y,o,r,u,Y,Z,m):=U;show W (.ref x,rfl,x,C,e,_,a,rfl,y,c.cls,c.np,Ua a d,.ref x,rfl,x,C,e,_,d,rfl,y,c.cls,c.nt,TZ a d,l,rfl,(i,[p,t,b],.own j,o,di.cons r<|di.cons u<|di.cons Y di.nil,rfl,Z,m))
def SQ(CR e:cI):Sp:=λf H Q _=>∃b s d,f=[b,.str s,d]/\∀x a,H x=aT->H a=aT->a≠x->Q (.ref x) (upd (upd H a (.own x)) x (.ins (if s=("r" : Str)then CR else e) a (tq b d)))
theorem Uc{x:Str}{st:en}{f CR e:cI}{B:gv}(y:L2.g5 K x x st f B)(L:wB ["p","way","table"] ["p","way","table"] st=aG)
 (I:∀X,X.prog=P->X.w=w->X.K=K->X.mg=mg->X.base=base->SX X (zK st) ["p","way","table"] ["p","way","table"] k->
   h8 X (jn st) (Mh (L2.Hc (Cb (u6 l_ (QE 1) (tC (.str "r")))) (eP CR (Kt CR) [] E0 (Zx (QE 0) (Zx (QE 2) pW))) (eP e (Kt e) [] E0 (Zx (QE 0) (Zx (QE 2) pW)))))):
 fy P w K mg base f7 (k+1) f B ["p","way","table"] (SQ CR e):=by
 have S:=xl L;show y.ok S (λj H Q E h=>by let(b,s,d,rfl,_):=h;rfl) λi A g s H j Q E J O=>(_,I _ rfl rfl rfl rfl rfl (rfl,rfl,S.nd,rfl,J,λ_ _=>.inl rfl),?_);let(b,z,d,rfl,q):=O;have l:∀C,(∀x a,H x=aT->H a=aT->a≠x->Q (.ref x) _)->eP C (Kt C) [] E0 (Zx (QE 0) (Zx (QE 2) pW)) (Xy ["p","way","table"] [b,.str z,d]) H Q:=λC q=>by show(b,rfl,d,rfl,λx a U W Y=>(x,a,b,d,rfl,zA,rfl,?_));rw[ZQ];show q x a U W Y
 show(.str z,rfl,rfl,_,rfl,?_)
 grind
end
section
variable{X:Cx}{sc:e9}{N L:zn Str}{k j jr jl:Nat}{a b c d:dE}{p F6 apos y9:eg}{fa fb fc fd:CO D}{F G:zn D->xz Res}{x:Str}{CR CL:cI}
structure N6(P:eA)(w:eu)(K:cL)(mg:DZ)(base:dV)(j:Nat)(x:Str)(CR CL:cI):Prop where
 ex:∃(f:cI) (fd:gv),↑fy f7 j f fd ["p","way","table"] (SQ CR CL)/\mg x=aF (.ref f)/\lK K (.ref f)=aG/\Binds K fd ["p","way","table"] []
structure MethAt(P:eA)(w:eu)(K:cL)(mg:DZ)(base:dV)(j:Nat)(C:cI)(F:List D->Option Res):Prop where
 cls:ra K C
 ex:∃(f:cI) (fd:gv),ro K C "forth" f/\↑fy f7 j f fd ["self","base"] (F8 K C F)/\Binds K fd ["self","base"] []
theorem CM(ax:⇑N6 j x CR CL)(hR:⇑MethAt jr CR F)(zhX:⇑MethAt jl CL G)(h1:j<=k)(h2:jr<=k)(h3:jl<=k)(h:SX X sc N L k)(cx:xP sc x=aG)
 (ha:PV X a fa) (hb:PV X b fb) (hc:PV X c fc) (hd:PV X d fd)
 (he:dU [a,b,c] ⋯=(bB,dv a ⋯)::dU [b,c] ⋯:=by rfl) (b2:(gE F6<|starEach [b,c] ⋯).any (·.1)=bB:=by rfl)
 (b3:dU [b,c] ⋯=(bB,dv b ⋯)::dU [c] ⋯:=by rfl) (b4:dU [c] ⋯=(bB,dv c ⋯)::dU [] ⋯:=by rfl)
 (ad:dU [d] ⋯=(bB,dv d ⋯)::dU [] ⋯:=by rfl) (b5:(gE y9<|starEach [] ⋯).any (·.1)=bB:=by rfl)
 (ht:dv (.Call (.Attribute (.Call (.Name x p) [a,b,c] [] F6) "forth" apos) [d] [] y9) ⋯=(do
   let ov<-dv (.Call (.Name x p) [a,b,c] [] F6) ⋯
   oS apos.atName
   let (f,first)<-my [ov] (uH ov "forth" pl)
   C8 y9 f first (gE y9<|starEach [d] ⋯) (pG y9<|keywordEach [] ⋯)):=by rfl):
   PO X (.Call (.Attribute (.Call (.Name x p) [a,b,c] [] F6) "forth" apos) [d] [] y9) (FZ F G (zc fa (zc fb (zc fc (zc fd zH))))):=by
  rintro e s σ H Q I ⟨H0,m,ds,g,W,q⟩;show dj λy=>?_;let(l,E,W):=zb W;let(dp,e1,E):=zb E;let(l1,P,rfl):=zq E;let(zg5,e3,P):=zb P;let(l2,R,rfl):=zq P;let(dt,e5,R):=zb R;let(l3,S,rfl):=zq R;let(db,e7,S):=zb S;let(znf,e8,rfl):=zq S;show y ?_;cases e8;cases zg5 with
  | str z=>
   let(r,Y,ao):=zb W;cases r with
   |val _=>cases ao
   | own cm=>
    cases ao;show dj λy=>?_;let(cn,co,Gy,ziv,zic,bi):=ax.ex;show y ?_;have go:∀C T Fc,(if z=("r")then CR else CL)=C->⇑MethAt T C Fc->T<=k->_=_->
     wpAny _ X.A _ _ X.xe s:=λC T Fc zhW M hj hF=>by
     show dj λy=>?_;let(zna,cr,Mm,Gm,bm):=M.ex;show y ?_;show fM (ZX (p:=p) Gy (h.room.mono h1) (h.gl cx).1 ziv zic bi .nil QQ (zS ha (zS hb (zS hc jH b4) b3) he) (h.gl cx).2.2 he b2) M.cls.cls Mm Gm (h.room.mono hj) bm .nil QQ (zS hd jH ad) ad b5 ht e s σ H Q I ?_;show(H0,m,dp,g,e1,λJ H1 t x1 r1=>(t,m,_,g.ext x1,e3,λv2 H2 bx x2 r2=>(bx,m,dt,(g.ext x1).ext x2,e5,λO H3 u i r3=>?_)));show(J,z,O,by rw[r2];rfl,λo B n1 n2 c6=>?_);rw[zhW];have xe:Ext u H3 u (upd _ o<|.ins C B<|tq J O):=(Ext.hide i.sub n2<|.own o).trans (Ext.hide (i.sub.trans<|js n2 _) (by rw[zC (ew c6)];show n1) _);have xa:=(x1.trans<|x2.trans i).trans xe;show(o,B,tq J O,rfl,zA,Ub J O,u,m,db,g.ext xa,e7,λv4 H4 c8 U r4=>?_);have aw:=U.s0;show(o,B,J,O,v4,c8,dp,dt,db,ds,rfl,U.s1 _ _ zA,U.sub,((r1.mono x2.s0).mono i.s0).mono aw,r3.mono aw,r4,hF,λa' xs H' n x5 g1 g2 g3 g4=>q a' xs H' n (xa.trans<|U.trans x5) (xh (xa.trans U).s1 g1) g2 g3 g4)
    by_cases Z:z=("r")
    .rw[DJ Z]at Y
     show go CR jr F (DJ Z) hR h2 Y
    .rw[DY Z]at Y
     show go CL jl G (DY Z) zhX h3 Y
  |_=>cases W
end
def Fv(K:cL)(C:cI):Bool:=LO K C&&lK K (.ref C)&&zv K C o4&&DC K C&&L0 K C&&
 g0 K (.ref C) "__setattr__" == aF (aF (.builtin "object.__setattr__"))&&g0 K (.ref C) "p" == aF aT&&g0 K (.ref C) "table" == aF aT
structure Uq(K:cL)(mg:DZ)(sI zkm zkj:en):Prop where
 ex:∃(CR CL fI fR fL:cI) (dI dR dL:gv),mg "Right" = aF (.ref CR)/\mg "Left" = aF (.ref CL)/\Mk K CR fI/\Mk K CL fI/\ra K CR/\ra K CL/\ro K CR "forth" fR/\ro K CL "forth" fL/\
  L2.g5 K "__init__" "Arrow.__init__" sI fI dI/\L2.g5 K "forth" "Right.forth" zkm fR dR/\L2.g5 K "forth" "Left.forth" zkj fL dL/\
  Binds K dI ["self","p","table"] []/\Binds K dR ["self","base"] []/\Binds K dL ["self","base"] []
section
variable{K:cL}{mg:DZ}{h:dV}
theorem AZ(b:Fv K C=aG):ra K C/\LO K C=aG/\lK K (.ref C)=aG:=by erw[Fv]at b;simp?[fS,beq_iff_eq]at b;let(((((((a,d),e),f),g),h),i),j):=b;show(((e,f,g,h),i,j),a,d)
theorem zas{sI S L:en}{CR CL fI fR fL:cI}{U W Y:da}{Z eR zhc aI aR aL:xz cI}{lI zie zid:Array (xz da)}{kI dI pI y tI zh8 dR zjJ z zkG kL dL zjG I zkC:da}(J:K.In h)(G:h.Ns gF mg)
 (nR:o6 K gF "Right" = aF (aF (.ref CR))) (nL:o6 K gF "Left" = aF (aF (.ref CL)))
 (iR:g0 K (.ref CR) "__init__" = aF (aF (.ref fI))) (iL:g0 K (.ref CL) "__init__" = aF (aF (.ref fI)))
 (mR:g0 K (.ref CR) "forth" = aF (aF (.ref fR))) (mL:g0 K (.ref CL) "forth" = aF (aF (.ref fL)))
 (uI:K.lookup fI=aF (U,Z,.func (mW "__init__" "Arrow.__init__" (qB sI) (jn sI) (zK sI) .none kI dI pI aI y tI),lI))
 (uR:K.lookup fR=aF (W,eR,.func (mW "forth" "Right.forth" (qB S) (jn S) (zK S) .none zh8 dR zjJ aR z zkG),zie))
 (uL:K.lookup fL=aF (Y,zhc,.func (mW "forth" "Left.forth" (qB L) (jn L) (zK L) .none kL dL zjG aL I zkC),zid))
 (vI:sL K y "Arrow.__init__" = aG) (vR:sL K z "Right.forth" = aG) (vL:sL K I "Left.forth" = aG)
 (w1:lK K (.ref fI)=aG) (w2:lK K (.ref fR)=aG) (w3:lK K (.ref fL)=aG)
 (z1:tW K (.ref fI)=aG) (z2:tW K (.ref fR)=aG) (z3:tW K (.ref fL)=aG)
 (bR:Fv K CR=aG) (bL:Fv K CL=aG)
 (gI:∀kV B pm an e ct H,H.length=3->rz (mW "__init__" "Arrow.__init__" (qB sI) (jn sI) (zK sI) .none kV B pm an e ct) (H,[])=pure ((["self","p","table"]:zn Str).zip H))
 (gR:∀kV B pm an e ct H,H.length=2->rz (mW "forth" "Right.forth" (qB S) (jn S) (zK S) .none kV B pm an e ct) (H,[])=pure ((["self","base"]:zn Str).zip H))
 (gL:∀kV B pm an e ct H,H.length=2->rz (mW "forth" "Left.forth" (qB L) (jn L) (zK L) .none kV B pm an e ct) (H,[])=pure ((["self","base"]:zn Str).zip H)):Uq K mg sI S L:=by
 let(b,d,f):=AZ bR;let(g,i,j):=AZ bL;have O:=Yq uI vI w1;have a:=Yq uR vR w2;have Q:=Yq uL vL w3;show(CR,CL,fI,fR,fL,_,_,_,oV J G nR,oV J G nL,(d,iR,z1,f),(i,iL,z1,j),b,g,(mR,z2,w2),(mL,z3,w3),O,a,Q,O.binds gI,a.binds gR,Q.binds gL)
end
def LM:en->zn en
 |.ClassDef _ _ _ b _ _ _ _ _ _ _=>b
 |_=>[]
def WV(st:en)(j:Nat):en:=(LM st).getD j (.Pass (0,0,0,0))
theorem VH:∀{B:zn D} {z:zn Int},WT B=aF z->ma B=aF (z.map nf)
 |[],z,e=>by cases e;rfl
 | d::B,z,e=>by
  cases d with
  |int i=>
   let(l,a,y):=zq e;subst y;change((OL<|.int i).bind _)=_;rw[VH a];rfl
  |_=>cases e
theorem Vt:∀ps e,((e++ps).map (·.1)).Nodup->Ct e ps=e++ps
 |[],e,_=>by simp[Ct]
 |(k,v)::ps,e,h=>by
  change Ct (pY e k v) ps=_;rw[show pY e k v=_ by erw[pY];rw[DY (λq=>by let(a,b,d):=Sl.mp q;rw[n6,mc]at h;show((List.nodup_append.mp h).2.2 a.1 (fx.mpr (a,b,rfl)) k ())<|of_decide_eq_true d)]]
  rw[Vt ps _ (~~~h)];simp
theorem zkS:∀{e:zn Int},e.Nodup->(e.map<|nf (β:=Str)).Nodup
 |[],_=>by simp
 |n::e,h=>by grind
section
theorem Inv.zhA(I:Inv X pins σ H s)(B:H p=aF (.dK hL)):∃o,Inv X pins σ (upd H p<|.ny o<|.dK hL) s:=by
 have y:=(I.dS p _ B);let(o,J):∃o,_=aF o:=by let(_,_,_,_,o,_,_,e,_):=y;show(_,e)
 show(o,I.write (by rw[B];show mY) (.inl rfl) (λb q a z=>z) (_,J) (J,y))
end
theorem WY{K:cL}{H:Hp}{i:Int}:∀{B vs:zn D} {z:zn Key} {xs:zn V},ma B=aF z->z.length=xs.length->di K H vs xs->
 (∀d,mn B vs i=aF d->∃v,iz (z.zip xs) (nf i)=aF v/\Rep K H d v)/\(mn B vs i=aT->iz (z.zip xs) (nf i)=aT)
 |[],vs,z,xs,e,l,r=>by cases e;show((λd q=>by cases q),λ_=>rfl)
 |k::B,[],z,xs,e,l,r=>by rw[r.nB]at l ⊢;rw[List.length_eq_zero_iff.mp l];show((λd q=>by cases q),λ_=>rfl)
 | k::B,v::vs,z,xs,e,l,r=>by
  let(b,a,Q):=zb e;let(J,U,W):=zq Q;subst W;let(x,O,rfl,f,g):=r.kF;have Y:=WY (i:=i) U (~~~l) g;have step:b≠nf i->iz ((b::J).zip (x::O)) (nf i)=iz (J.zip O) (nf i):=λh=>by rw[DH];simp[iz,vl,h]
  cases k with
  | int j=>
   cases a;by_cases I:j=i
   .subst I
    show(λd q=>(x,?_,(by simpa[mn]using q) ▸ f),λq=>?_)
    .rw[DH];show V0 rfl
    .simp[mn]at q
   .rw[step (λq=>I<|nf.inj q)]
    have Z:mn (.int j::B) (v::vs) i=mn B vs i:=by simp[mn,I]
    rw[Z];show Y
  |str y=>
   cases a;assumption
  |_=>cases a
def uY(C e:cI):dV->Prop:=λh=>∃a,h.get? e=aF (aK C aT a)
def pj(C e d:cI):dV->Prop:=λh=>∃a,h.get? e=aF (aK C (aF d) a)
theorem GC(q:h.get? e=aF (aK C aT a0)):i7 P w H h e (.ext<|uY C e):=
 ((a0,q),(_,q),λb d z k=>by let(a,z):=z;show(a,k _ z))
theorem NU(q:h.get? e=aF (aK C (aF d) a0)):i7 P w H h e (.ext<|pj C e d):=
 ((a0,q),(_,q),λb f z k=>by let(a,z):=z;show(a,k _ z))
section
theorem TC(I:Inv X pins σ H s)(k:∀b u,s.heap.get? b=aF u->h'.get? b=aF u)(B:s.heap.get? a=aT)(new:i7 X.prog X.w (upd H a o) h' a o):H a=aT/\Inv X pins σ (upd H a o) {s with heap:=h',toks:=t'}:=by
 have d:H a=aT:=by
  cases q:H a with
  |none=>rfl
  |some u=>let(y,e):=vy<|I.dS a u q;lia
 show(d,I.un (λb u e n _ _=>k b u e,λb u e n _ _=>(u.slots,k b u e),λb u e n _=>by rw[zC ((λb u e z=>by lia) b u e)];show n,λb u e _=>(u,k b u e),λb g e=>?_,λb y u e=>?_,λb h e=>(#[],?_)) λb u e=>?_)
 .rw[zC (jk e d)];show e
 .rw[zC (jk e d)];show e
 .rw[zC (jk e d),e];simp
 .by_cases f:b=a
  .subst f;rw[zA]at e;lia
  .rw[zC f]at e
   show(I.dS b u e).og (λc v _ q=>k c v q) (λc q=>by rw[zC (jk q d)];show q) λc g q=>by rw[zC (jk q d)];show q
end
def Mg(K:cL)(C:cI):xz cI:=match K.lookup C with
 |some o=>if (o.cls==t7 "type"&&o.slots.size==6&&(o.slots.toList.drop 4).take 1 == [aF (Value.builtin "ValueError.__new__")])=aG then (match Ur o with
  |some a=>if (a.mro.take 1 == [nq C]&&!a.hasDel&&PySem.W.tailIn K pf (a.mro.drop 1)&&PySem.W.nsOkIn K a.ns)=aG then aF a.ns else aT
  |none=>aT)else aT
 |none=>aT
theorem Hx{K:cL}{C N:cI}(e:Mg K C=aF N):∃nm q bs B hdct sn sub ab col dd k0 k1 k2 k3 k5,K.lookup C=aF (Fx nm q C N bs B hdct sn sub ab col dd k0 k1 k2 k3 k5 "ValueError.__new__")/\PySem.W.tailIn K pf B=aG/\PySem.W.nsOkIn K N=aG:=by
 erw[Mg]at e;cases ho:K.lookup C with
 |none=>rw[ho]at e;cases e
 | some o=>
  rw[ho]at e;let(j,dd,y,f):=o;dsimp only at e;by_cases b:(j==t7 "type"&&f.size==6&&(f.toList.drop 4).take 1 == [aF (Value.builtin "ValueError.__new__")])=aG
  .rw[DJ b]at e
   simp?[fS,beq_iff_eq]at b;let((J,O),Q):=b;subst J;let(k0,k1,k2,k3,k5,h):=MX (~~~O) Q;cases hd:Ur _ with
   |none=>rw[hd]at e;cases e
   | some a=>
    rw[hd]at e;dsimp only at e;have U:y=.cls a:=by
     erw[Ur]at hd;cases y with
     |cls k=>cases hd;rfl
     |_=>cases hd
    subst U;by_cases d:(a.mro.take 1 == [nq C]&&!a.hasDel&&PySem.W.tailIn K pf (a.mro.drop 1)&&PySem.W.nsOkIn K a.ns)=aG
    .rw[DJ d]at e
     cases e;simp?[fS,beq_iff_eq,vv]at d;let(((z,I),Y),g):=d;let(nm,bs,i,r,s,m,sn,sub,ab,col,n):=a;dsimp only at z I Y g;subst I;have Z:f = #[k0,k1,k2,k3,aF (.builtin "ValueError.__new__"),k5]:=by obtain⟨l⟩:=f;simp only at h;rw[h]
     subst Z;have p:=Os z
     grind
    .rw[DY d]at e;cases e
  .rw[DY b]at e;cases e
section
theorem zaP{B:Str}(I:Inv X pins σ H s)(U:H x=aF (.ext<|uY C x))(Y:s.heap.get? d=aT)(L:h'.get? x=aF (aK C (aF d) a0))(S:h'.Ns1 d (λy=>if y=B then aF u else aT))(O:RelV (.int i) u)
 (k:∀b o,b≠x->s.heap.get? b=aF o->h'.get? b=aF o):H d=aT/\d≠x/\Inv X pins σ (upd (upd H x<|.ext<|pj C x d) d<|.xd [(B,.int i)]) {s with heap:=h',toks:=t'}:=by
 have j:H d=aT:=by
  cases q:H d with
  |none=>rfl
  |some o=>let(Q,e):=vy<|I.dS d o q;lia
 have h b:H b=aT->b≠x:=λe z=>by lia
 have l b:b≠x->b≠d->upd (upd H x<|.ext<|pj C x d) d (.xd [(B,.int i)]) b=H b:=λp r=>by rw[zC r,zC p]
 have mt b o:H b=aF o->(∀a,o ≠ .ext a)->upd (upd H x<|.ext<|pj C x d) d (.xd [(B,.int i)]) b=aF o:=λe z=>by grind
 show(j,λq=>by lia,I.un (λb o e n _ _=>k b o (h b n) e,λb o e n _ _=>(o.slots,k b o (h b n) e),λb o e n _=>?_,λb o e _=>?_,λb m e=>mt b _ e<|λa z=>(nomatch z),λb Q W e=>mt b _ e<|λa z=>(nomatch z),λb w e=>(#[],?_)) λb o e=>?_)
 .grind
 .grind
 .rw[mt b _ e (λa z=>nomatch z)];simp
 .by_cases g:b=d
  .rw[g]at e ⊢
   rw[zA]at e;cases e;show(_,S,λf=>?_);by_cases q:f=B
   .subst q
    rw[DJ rfl];simp[z5];show O
   .rw[DY q]
    have:([(B,V.int i)]).lookup f=aT:=by simp[z5,beq_eq_false_iff_ne.mpr q]
    rw[this];trivial
  .rw[zC g]at e
   by_cases J:b=x
   .rw[J]at e ⊢
    rw[zA]at e;cases e;show NU L
   .rw[zC J]at e
    show(I.dS b o e).og (λc v t q=>k c v ?_ q) (λc q=>mt c _ q<|λa z=>nomatch z) λc m q=>mt c _ q<|λa z=>nomatch z;lia
end
structure XA(K:cL)(mg:DZ)(C:cI)(m1:Str):Prop where
 ex:∃S N cd,mg "SplitError" = aF (.ref S)/\Mg K C=aF N/\vk K C=aF cd/\cd.mro=.ref C :: .ref S::pf/\cd.hasDict=aG/\
  g0 K (.ref C) "__setattr__" = aF (aF (.builtin "object.__setattr__"))/\pw K C (.type "object")=aF aG/\g0 K (.ref C) m1=aF aT/\
  LQ K (.ref S) "__getattribute__" = aF (aF (.builtin "type.__getattribute__"))/\PySem.W.readsIn K S (.type "type")=aG/\
  Sh K (.ref S) (.type "type") "__init__" = aF (.val (.builtin "ValueError.__init__"))
def rV(C:cI):TS:=λD a H=>∃e i,a[0]? = aF (aF (V.ref e))/\a[1]? = aF (aF (V.int i))/\inR i=aG/\H e=aF (.ext<|uY C e)/\D.nx a H
def HJ(C:cI)(z:Str):TS:=λD a H=>∃e i,a[0]? = aF (aF (V.ref e))/\a[1]? = aF (aF (V.int i))/\H e=aF (.ext<|uY C e)/\
 ∀d,H d=aT->d≠e->D.nx a (upd (upd H e<|.ext<|pj C e d) d<|.xd [(z,.int i)])
section
theorem Iy(h:SX X sc N L k)(A:XA X.K X.mg C m1)(c0:kQ sc N 0 x0=aG)(c1:kQ sc N 1 x1=aG)(hs:ni (.Name x1 p1) (aF (.Attribute (.Name x0 p0) m1 pos')) pos.line ⋯=pure bB:=by rfl):
 PS X (.Assign [.Attribute (.Name x0 p0) m1 pos'] (.Name x1 p1) pos) (HJ C m1):=by
 intro a s f H D I O;show dj λy=>?_;let(e,i,x,B,j,q):=O;let(S,Nn,cd,a1,a2,Q,U,W,Y,Z,o,_):=A.ex;show y ?_;show zgV (dQ (h.var c1 a s f H (λv b=>v=.int i/\b=H) I (_,B,rfl,rfl)) λu p m=>dQ (h.var c0 a p f H (λv b=>v=.ref e/\b=H) (by let(v,b,J,l,rfl,rfl):=m;show J) (_,x,rfl,rfl)) λov E R=>?_) hs;show dj λy=>?_;let(v1,b,J,l,rfl,rfl):=m;let(v2,T,z,w,rfl,rfl):=R;show y ?_;cases w;let(hp,g,dr,tk,os):=E;let((a0,ad),_,_):=(z.dS e _ j);show zaL z.eF ad Y Z Q U W o λh' d b5 F G M P=>?_;let(r,t,n):=zaP z j F G M l P;show(f,_,n,q d r t)
theorem CC(h:SX X sc N L k)(A:XA X.K X.mg C m1)(Q:xP sc "SplitError" = aG)(c0:kQ sc N 0 x0=aG)(c1:kQ sc N 1 x1=aG)(l1:t1.length<=1000)(l2:t2.length<=1000)
 (hs:ni (.Call (.Attribute (.Name "SplitError" p0) "__init__" p1) [.Name x0 p2,.JoinedStr [.Constant (.str t1) zh7 p3,.FormattedValue (.Name x1 p4) (-1) aT p5,.Constant (.str t2) j2 p6] p7] [] p8) aT pos.line ⋯=pure bB:=by rfl)
 (ad:(p1.endLine==p8.line)=aG:=by rfl):
 PS X (.Expr (.Call (.Attribute (.Name "SplitError" p0) "__init__" p1) [.Name x0 p2,.JoinedStr [.Constant (.str t1) zh7 p3,.FormattedValue (.Name x1 p4) (-1) aT p5,.Constant (.str t2) j2 p6] p7] [] p8) pos) (rV C):=by
 intro a s l H D I P;show dj λy=>?_;let(e,i,s0,s1,p,j,q):=P;let(S,Nn,cd,t,u,a3,a4,a5,a6,a7,a8,w,x,as):=A.ex;show y ?_;show T2 ?_ I.quiet hs;rw[arm_eval_Call];show cS (yq I (h.gl Q).1 t ?_ (h.gl Q).2.2);show cS (A1 ?_);have B:methodCallPos aG (.Name "SplitError" p0) ⋯ p1 p8=pure p8:=by erw[methodCallPos];simp[ad]
 erw[methodCall];show cS<|m7<|PySem.W.method_cls I.eF w<|PySem.W.cls_value I.eF x as (by rfl) ?_;show cS<|B3 B ?_;show _c rfl<|Calls.evalArgs_plain ?_;show oC<|dQ (h.var c0 a _ l H (λv d=>v=.ref e/\d=H) (I.tok _) (_,s0,rfl,rfl)) λu0 s2 z2=>?_;show dj λy=>?_;let(v2,m,r,r2,rfl,rfl):=z2;show y ?_;cases r2;change wpAny _ _ (RG ((bB,dv _ ⋯)::[])) _ _ s2;have br:=oo;have U:i.natAbs.log2<1920:=by
  by_cases z:i.natAbs=0
  .rw[z];decide
  .have:=(Nat.log2_lt z).mpr (by erw[inR]at p;show of_decide_eq_true p)
   lia
 show oC<|JoinedStr_many<|T3<|_E ?_;dsimp only;show(by rw[A2];change 0+_<=_;lia,?_);show T3<|FormattedValue_plain<|dQ (h.var c1 a _ l m (λv d=>v=.int i/\d=m) (r.tok _) (_,s1,rfl,rfl)) λu1 s3 z3=>?_;let(v3,J,O,r3,rfl,rfl):=z3;let(tk,rfl):=(r3);show zhy U ?_;dsimp only;have bx:(hG<|toString i).length<=1921:=by rw[PySem.ofString_length];show(int_text_length_le () U)
 have f:(o4++t1).length=t1.length:=by rw[A2];change 0+_=_;lia
 show(by rw[A2,f,oo];lia,?_);show T3<|_E ?_;dsimp only;show(by rw[A2,A2,f,oo];lia,?_);show joinParts_nil ?_ (by rw[A2,A2,f,oo];lia);show vu ?_;show dj λy=>?_;let(nm,qn,bs,bm,o,sn,sub,ab,G,dd,k0,k1,k2,k3,k5,R,ht,T):=Hx u;let(hp,g,dr,E,os):=s3;have Y:=O.eF;let((a0,F),_,_):=(O.dS e _ j);show y ?_;show Sw (Y' Y ht) (Y _ _ R) F λh' c4 Z y2=>?_;have n:=O.write (t':=E+1+1+1+1) (by rw[j];show mY) (.inl rfl) y2 (_,Z)<|GC Z;have M:upd J e (.ext<|uY C e)=J:=by
  funext b;by_cases z:b=e
  .rw[z,zA,j]
  .rw[zC z]
 rw[M]at n;show(l,J,n.tok _,q)
end
def eV(C:cI)(z:Str):Sp:=λa H Q _=>∃e i,a=[.ref e,.int i]/\inR i=aG/\H e=aF (.ext<|uY C e)/\∀d,H d=aT->d≠e->Q .dw (upd (upd H e<|.ext<|pj C e d) d<|.xd [(z,.int i)])
theorem EV{P:eA}{w:eu}{K:cL}{U:DZ}{base:dV}{q L:Str}{st:en}{f C:cI}{O:gv}{B:Str}{k:Nat}(y:L2.g5 K "__init__" q st f O)(Y:wB ["self",L] ["self",L] st=aG)
 (z:∀X,X.prog=P->X.w=w->X.K=K->X.mg=U->X.base=base->SX X (zK st) ["self",L] ["self",L] k->h8 X (jn st) (pV (rV C) (HJ C B))):
 fy P w K U base f7 (k+1) f O ["self",L] (eV C B):=by
 have S:=xl Y;show y.ok S (λj H Q E h=>by let(e,i,rfl,_):=h;rfl) λd A a s H j Q E I J=>(_,z _ rfl rfl rfl rfl rfl (rfl,rfl,S.nd,rfl,I,λ_ _=>.inl rfl),?_);let(e,i,rfl,g,b,q):=J;show(e,i,rfl,rfl,g,b,e,i,rfl,rfl,b,q)
structure XJ(P:eA)(w:eu)(K:cL)(mg:DZ)(base:dV)(k:Nat)(c:Str):Prop where
 all:eD K=aG
 mem:c∈l5
 ex:∃C N fI fd ps,J9 K c=aF C/\mg c=aF (.ref C)/\Mg K C=aF N/\g0 K (.ref C) "__init__" = aF (aF (.ref fI))/\lK K (.ref C)=aG/\A5 K (.ref fI)=aF (.type "function")/\
  fy P w K mg base f7 k fI fd ps (eV C<|pP c)/\Binds K fd ps []
def UU(K:cL)(e:Str):Bool:=l5.all λc=> !(pP c==e) || match J9 K c with
 |some C=>(vk K C).any (λa=>a.hasDict)&&g0 K (.ref C) e==aF aT
 |none=>bB
section
variable{X:Cx}{a:dE}{f:CO D}{m1:Str}{pos:eg}
theorem Ir(x:UU X.K m1=aG)(ha:PV X a f)(hb:pF a m1 ⋯ (dv a ⋯)=dv a ⋯:=by rfl):PV X (.Attribute a m1 pos) (SS m1 f):=by
 intro h s σ H Q I hZ;show dj λJ=>?_;let(M,γ,d,rc,y,q):=hZ;let(R,e1,y):=zb y;show J ?_;cases R with
 | exc c n=>
  cases n with
  |none=>cases y
  | some i=>
   have y:(if _=aG then aF (D.int i)else aT)=aF d:=y;by_cases j:(pP c==m1)=aG
   .rw[DJ j]at y
    cases y;show Bl hb (dQ (ha h s σ H (λv L=>∃e,_/\_) I (M,γ,_,rc,e1,λv L e O r=>(e,O,r))) λu s1 z=>?_);let(v,m,W,r1,l,O,rr):=z;let(b,rfl,Y):=(rr);cases r1;show dj λJ=>?_;let(C,φ,g1,g2,g3,T,g4,zhC):=Y.ex;let(S,_,y1,_,_):=J8 Y.all Y.mem g1;show J ?_;have Z:=om.mp x c Y.mem;rw[j,g1]at Z;simp?[Bool.not_true,Bool.false_or,fS,beq_iff_eq]at Z;show dj λJ=>?_;let(w1,w2):=Z;let(cd,w3,zln):=_L w1;let(p,_,_):=(W.dS b _ (O.sub _ _ g2));let(o,F,E):=g4 _ p;let(o',vs,w,A,B):=g3 _ p;show J ?_;rw[F]at w;cases w;let(G,N,P):=(W.dS T _ (O.sub _ _ zhC));have U:=P m1;have lk:([(if c==("NoRoom" : Str)then ("room" : Str)else "at",V.int i)]).lookup m1=aF (.int i):=by rw[<-(beq_iff_eq.mp j)];erw[pP];simp[z5]
    rw[lk]at U;let(k,hm):∃k,G m1=_:=by
     cases hz:G m1 with
     |none=>rw[hz]at U;show t8 U
     |some zle=>rw[hz]at U;let(k,rfl):=(U);show(k,rfl)
    let(oc,od,as,Di):=o;dsimp only at E A B;subst E A B;let(hp,g,dr,t,os):=s1;show zaO W.eF (VW y1) F N hm w3 zln w2 λt'=>(.int i,m,W.tok t',(k,rfl),q _ m l O rfl)
   .rw[DY j]at y;cases y
 |_=>cases y
end
def Aj(K:cL)(S:cI):Bool:=match Sh K (.ref S) (.type "type") "__init__" with
 |some (.val (.builtin b))=>b == "ValueError.__init__"
 |_=>bB
def E_(K:cL)(C S:cI)(e:Str):Bool:=(Mg K C).isSome&&lK K (.ref C)&&(vk K C).any (λa=>a.mro ==.ref C :: .ref S::pf&&a.hasDict)&&
 g0 K (.ref C) "__setattr__" == aF (aF (.builtin "object.__setattr__"))&&pw K C (.type "object")==aF aG&&g0 K (.ref C) e==aF aT&&
 LQ K (.ref S) "__getattribute__" == aF (aF (.builtin "type.__getattribute__"))&&PySem.W.readsIn K S (.type "type")&&Aj K S
theorem Ai{K:cL}{S:cI}(b:Aj K S=aG):Sh K (.ref S) (.type "type") "__init__" = aF (.val (.builtin "ValueError.__init__")):=by
 erw[Aj]at b;cases q:Sh K (.ref S) _ "__init__" with
 |none=>rw[q]at b;cases b
 | some r=>
  rw[q]at b;cases r with
  |get _ _ _ _=>cases b
  |val v=>
   cases v with
   |builtin n=>rw[beq_iff_eq.mp b]
   |_=>cases b
structure C5(K:cL)(mg:DZ)(c q x1:Str)(st:en)(m1:Str):Prop where
 all:eD K=aG
 mem:c∈l5
 ex:∃C N fI fd,J9 K c=aF C/\mg c=aF (.ref C)/\Mg K C=aF N/\g0 K (.ref C) "__init__" = aF (aF (.ref fI))/\lK K (.ref C)=aG/\A5 K (.ref fI)=aF (.type "function")/\
  XA K mg C m1/\L2.g5 K "__init__" q st fI fd/\Binds K fd ["self",x1] []
theorem Sx{K:cL}{mg:DZ}{h:dV}{c q x1 B:Str}{st:en}{C S H:cI}{O:da}{Q U:xz cI}{W:Array (xz da)}{kI dI Y y Z:da}(z:K.In h)(G:h.Ns gF mg)(e:eD K=aG)(hm:c∈l5)
 (nC:o6 K gF c=aF (aF (.ref C))) (nS:o6 K gF "SplitError" = aF (aF (.ref S))) (iC:g0 K (.ref C) "__init__" = aF (aF (.ref H)))
 (uI:K.lookup H=aF (O,Q,.func (mW "__init__" q (qB st) (jn st) (zK st) .none kI dI Y U y Z),W)) (vI:sL K y q=aG) (w1:lK K (.ref H)=aG) (z1:tW K (.ref H)=aG) (b:E_ K C S B=aG)
 (gI:∀kV doc pm an L ct us,us.length=2->rz (mW "__init__" q (qB st) (jn st) (zK st) .none kV doc pm an L ct) (us,[])=pure ((["self",x1]:zn Str).zip us)):C5 K mg c q x1 st B:=by
 have I:=Yq uI vI w1;erw[E_]at b;simp?[fS,beq_iff_eq]at b;let((((((((d,f),g),i),j),k),l),m),n):=b;let(N,J):=qd.mp d;let(p,o,a):=_L g;simp?[fS,beq_iff_eq]at a;show(e,hm,C,N,H,_,by erw[J9];rw[nC],oV z G nC,J,iC,f,beq_iff_eq.mp z1,(S,N,p,oV z G nS,J,o,a.1,a.2,i,j,k,l,m,Ai n),I,I.binds gI)
theorem Su{P:eA}{w:eu}{K:cL}{H:DZ}{base:dV}{c q B e:Str}{st:en}{k:Nat}(A:C5 K H c q B st e)(S:wB ["self",B] ["self",B] st=aG)(L:pP c=e)
 (y:∀C,XA K H C e->∀X,X.prog=P->X.w=w->X.K=K->X.mg=H->X.base=base->SX X (zK st) ["self",B] ["self",B] k->h8 X (jn st) (pV (rV C) (HJ C e))):XJ P w K H base (k+1) c:=by
 subst L;let(C,N,a,b,z,I,J,O,Q,U,W,Y,Z):=A.ex;show(A.all,A.mem,C,N,a,b,_,z,I,J,O,Q,U,EV Y S<|y C W,Z)
def QA(k:CO Bool)(F:CO Fl):Nat->CO Fl
 |0,_=>aT
 |n+1,d=>(k d).bind λb=>if b=aG then (F d).bind λe=>match e with
  |.next a=>QA k F n a
  |.cont a=>QA k F n a
  |.brk a=>aF (.next a)
  |.ret r=>aF (.ret r)
  else aF (.next d)
def FV(n:Nat)(k:CO Bool)(F:CO Fl):CO Fl:=λa=>QA k F n a
section
variable{X:Cx}{c:dE}{body:zn en}{pos:eg}{k:CO Bool}{F:CO Fl}
theorem zkE(n:Nat)(S:C0 (dq X.prog X.w) X.A ⋯ X.xe)(L:gO X c k)(B:VT X body F):gg X (.While c body [] pos) (FV n k F):=
 yJ (CF S L B) λD p H W=>by
  let(E0,E,g,i,l,x,Y,J):=W;show(λm p H=>∃g i,RS X.K E0 E g H p i/\QA k F m i=aF l,(n,g,i,x,Y),λm Z G C=>?_);let(j,f,O,o):=C;cases m with
  |zero=>cases o
  | succ m=>
   let(b,t,y):=zb (show(k f).bind _=aF l from o);show(j,f,b,O.rc,t,λs Q U=>?_);cases b with
   | true=>
    rw[DJ rfl]at y ⊢;let(f1,u,I):=zb y;show(λd h=>∃g a,RS X.K E0 E g h d a/\QA k F m a=aF l,λd h z=>(m,o1 m,z),E0,E,Q,f,f1,O.step U,u,?_);cases f1 with
    |next a=>show λd h e r=>(e,a,r,I)
    |cont a=>show λd h e r=>(e,a,r,I)
    |brk a=>cases I;show J
    |ret r=>
     cases I;cases r<;>show J
   |false=>
    rw[DY iu]at y ⊢;cases y;show J Z s Q<|O.step U
end
section
theorem ziH(W:bm.contains (.type "BaseException")=aG)(I:A.handled=aT)
 (h:wpAny M A x (λv y=>∃e t d,v=.ref e/\y.heap.get? C=aF (Fx nm q C N bs bm hdct sn sub ab col dd k0 k1 k2 k3 k5 newId)/\
   y.heap.get? e=aF (aK C (aF d) t)/\E (.ref e) y) E s):
 wpAny M A (raiseStmt env (aF x) aT) Q E s:=by
 have J:(nq C::bm).contains (.type "BaseException")=aG:=by assumption
 erw[raiseStmt];show cS<|fU h (λv y O=>?_) λ_ _ x=>x;let(e,t,d,rfl,z,a,U):=O;let(f,g,b,i,os):=y;erw[aK]at a
 repeat (first|with_reducible show tY a ?_|with_reducible show tY z ?_|(with_reducible show zlv z ?_;rw[J])|wp_step)
 show zlA I U
end
section
variable{X:Cx}{sc:e9}{N L:zn Str}{k j:Nat}{a:dE}{f:CO D}{c:Str}{np pos cpos:eg}{pins:TW}{σ:St}{H H0:Hp}{s:dy}{γ:Ctx}{i:Int}
theorem Ay(h:SX X sc N L k)(cc:xP sc c=aG)(x:⇑XJ j c)(hj:j+1<=k)(ha:PV X a f)(I:Inv X pins σ H s)(rc:RC X.K H0 H σ γ)(e1:f γ=aF (.int i))(hi:inR i=aG)(he:dU [a] ⋯=[(bB,dv a ⋯)]:=by rfl):
 ⇑X (dv (.Call (.Name c np) [a] [] pos) ⋯) (λu s'=>∃e d C B S,u=.ref e/\Inv X pins σ (upd (upd B e<|.ext<|pj C e d) d<|.xd [(pP c,.int i)]) s'/\Ext H0 H S B/\B e=aT/\B d=aT/\d≠e/\J9 X.K c=aF C/\(X.ex=[]->X.g8.heap.get? e=aT)) X.xe s:=by
 show dj λy=>?_;let(C,Nn,t,fd,ps,x1,x2,x3,x4,x5,P,n,hb):=x.ex;let(nm,qn,bs,bm,F,sn,sub,ab,col,dd,k0,k1,k2,k3,k5,ho,ht,dS):=Hx x3;show y ?_;show pk<|yq I (h.gl cc).1 x2 ?_ (h.gl cc).2.2;show DG I.ok.mod.tr x5 (dQ ((zS ha jH he) pos pins s σ H (λm B=>m=[.int i]/\∃S,Ext H0 H S B) I (H0,γ,.int i,rc,e1,λv R b U rr=>(by rw[rr],b,U))) λus s1 G=>(?_,?_)) (by rw[he];rfl) rfl
 .let(m,B,J,_):=G;show J.eF
 show dj λy=>?_;let(m,B,J,rv,Y,S,U):=G;subst Y;let(u,rfl,ru):=yc rv;have O:=J.eF;let(Z,ao,ap):∃Z,X.K.lookup t=aF Z/\Z.cls=.type "function":=by
  have P:(X.K.lookup t).map (·.cls)=_:=P
  simp_all
 let(hp,g,dr,tk,os):=s1;show y ?_;show Sy (Y' O ht) (O _ _ ho) (PySem.W.looks_findIn O x4) (O _ _ ao) ap (by change 1<=ej;decide) λh' e a0 y1 y2 y3=>?_;let(hn,l):=TC J y3 y1<|GC y2;have M:eV C (pP c) [.ref e,.int i] (upd B e<|.ext<|uY C e) (λv T=>v=.dw/\∃d,B d=aT/\d≠e/\T=upd (upd B e<|.ext<|pj C e d) d (.xd [(pP c,.int i)])) (λ_ _ _=>False):=by
  show(e,i,rfl,hi,zA,λd E Q=>(rfl,d,?_,Q,?_))
  .rw[zC Q]at E;show E
  .rw[ZQ]
 show q0<|t9 (n.run _ X.stack _ _ _ _ [.ref e,.int i] _ _ ((h.room.mono hj).make C [u] []) (l.ow.make C [u] []) (~~~hb _ _ l.eF (~~~((n.len _ _ _ _ M).symm ▸ rfl))) (.cons rfl<|.cons ru .nil) M) λr s' p=>?_;cases r with
 |error ee=>show t8 p
 | ok fl=>
  cases fl with
  |ret zle=>
   show dj λy=>?_;let(v,R,I3,b1,Y,d,b2,Q,rfl):=l.after p;show y ?_;subst Y;show(b1,(e,d,C,B,S,rfl,I3,U,hn,b2,Q,x1,λb3=>by
  cases q:X.g8.heap.get? e with
  |none=>rfl
  |some o=>
   let(o',z):=J.base.there e o q (by rw[b3];simp);lia))
  |next=>assumption
  |brk=>assumption
  |cont=>assumption
theorem bF(h:SX X.kb sc N L k)(hc:xP sc c=aG)(x:⇑XJ j c)(hj:j+1<=k)(S:PV X.kb a f)
 (hs:dU [a] ⋯=[(bB,dv a ⋯)]:=by rfl):Px X (.Raise (aF (.Call (.Name c np) [a] [] cpos)) aT pos) (eB c f):=λpins s σ H F0 F1 H0 γ cc I m e w=>by
 let(i,Q,e):=zb e;let(d0,p,Q):=zb Q;rw[jT Q]at p;by_cases l:inR i=aG
 .rw[DJ l]at e
  cases e;show dj λU=>?_;let(C,B,fI,fd,ps,t,x2,x3,x4,x5,x6,zlR,hb):=x.ex;let(nm,T,bs,bm,hdct,sn,sub,ab,col,dd,k0,k1,k2,k3,k5,M,R,P):=Hx x3;show U ?_;rw[arm_exec_Raise];show cS (A1 ?_);show ziH (C:=C) (nm:=nm) (q:=T) (N:=B) (bs:=bs) (hdct:=hdct) (sn:=sn) (sub:=sub) (ab:=ab) (col:=col) (dd:=dd) (k0:=k0) (k1:=k1) (k2:=k2) (k3:=k3) (k5:=k5) (newId:="ValueError.__new__") (((λY=>Y' Y R) I.eF).hasType U'.hasBase) (I.ok.hd h.calm) ?_;show cS (fU (Ay (X:=X.kb) h hc x hj S (I.gd _) m.rc p l hs) (λu s' z=>cS (A1 (d7 ?_))) λ_ _ z=>z.elim);show dj λU=>?_;let(e,d,C',g,A,rfl,y,J,G,W,o,O,E):=z;show U ?_;have O:=O;rw[t]at O;cases O;have y:=y.l4;have r:upd (upd g e (.ext (pj C e d))) d (.xd [(pP c,.int i)]) e=aF (.ext (pj C e d)):=by rw[zC (ew o),zA]
  let((n,g1),_,_):=(y.dS e _ r);show(e,n,d,rfl,y.eF _ _ M,g1,?_);have F:(λb=>if b=e then aT else upd (upd g e<|.ext<|pj C e d) d (.xd [(pP c,.int i)]) b)=upd g d (.xd [(pP c,.int i)]):=by
   funext b;by_cases q:b=e
   .rw[DJ q,q,zC<|ew o,G]
   .rw[DY q]
    by_cases Z:b=d
    .rw[Z,zA,zA]
    .rw[zC Z,zC q,zC Z]
  show w.2.2 pins σ _ _ s' e C d n _ y r g1 E (by rw[F];show(m.ext.trans<|(J.trans<|Ext.hide J.sub W _).show (xh J.s1 W) (jw J.sub W) zA m.rc.sub)) x.all x.mem t (d,rfl,zA)
 .rw[DY l]at e;cases e
end
section
theorem sY{spos:eg}(hf:⇑uh j x n G)(y:j<=k)(h:SX X.kb sc N L k)(c:xP sc x=aG)(B:nu X.kb (e::es) n g)
 (S:dU (e::es) ⋯=(bB,dv e ⋯)::dU es ⋯:=by rfl) (J:(gE pos<|starEach es ⋯).any (·.1)=bB:=by rfl):
 Px X (.Return (aF (.Call (.Name x p) (e::es) [] pos)) spos) (mX G g):=λa s r H Z t u E A I d O w=>by
 let(C,i,Q):=zb O;show zlq<|fU (Hh hf y ((h.nV,h.eN,h.nd,h.calm,h.room,h.fn)) c B I d.rc i Q S J) (λ_ _ z=>z.elim) λU l z=>?_;let(f,b,m,W,o,Y):=z;show w.2.1 a r f b m U l W (d.ext.trans o) Y
end
theorem cG:Dv (.type "list") "keys" = pure aT:=by rw[typeLookup_type,U?];kernel_rfl
theorem Vb:entryFor table "list.__getattribute__" = aF Builtin.«object.__getattribute__» :=
 entryFor_alias (id':="object.__getattribute__") (by kernel_rfl) (by rfl) () (by kernel_rfl)
section
variable{prog:eA}{w:eu}{A:hO}{E:EQ}{h:dV}{g:Array D9}{d:Drawn}{t:Nat}{os:N9}{a:cI}
theorem Yc(J:h.get? a=aF (.type "list",aT,.seq vs nk,sl))(O:A.handled=aT)
 (U:∀h' e t',(∀b u,h.get? b=aF u->h'.get? b=aF u)->(∃z,h'.get? e=aF z/\z.cls=.type "AttributeError")->E (.ref e) (h',g,d,t',os)):
 wpAny (dq prog w) A (Builtin.«object.__getattribute__» ([.ref a,.str "keys" tk],[])) Q E (h,g,d,t,os):=by
 have W:((h,g,d,t,os):dy).TypeIs (.ref a) "list":=(_,J,rfl);have Y:=cG
 repeat (any_goals (first|assumption|wp_step))
 erw[raiseAttrError];have i:((hG (toString "'" ++ toString ((Manifest.find? "list").elim "list" λx=>x.tpName)++toString "' object has no attribute '")++hG "keys" ++ hG "'"):Str).length<=ej:=by decide +kernel
 generalize (hG (toString "'" ++ toString ((Manifest.find? "list").elim "list" λx=>x.tpName)++toString "' object has no attribute '")++hG "keys" ++ hG "'")=y at i ⊢;show cS (wpAny_mkStr ?_);show cS ?_;erw[newExc,newTuple];show cS (p9 ?_ (by size_fits));show cS (m:=firstArgMember _ _) (B3 (a:=lC) (by rfl) ?_);show p9 ?_ (by size_fits);simp?[nc];have f:((h.push {cls:=.type "tuple",data:=.seq #[.str y t]}).push {cls:=.type "AttributeError",data:=.fields (#[.ref h.objs.size,.none,.none,.none,.bool bB,.none]++P7 (.type "AttributeError") [.str y t])}).get? (h.objs.size+1) =
  aF {cls:=.type "AttributeError",data:=.fields (#[.ref h.objs.size,.none,.none,.none,.bool bB,.none]++P7 (.type "AttributeError") [.str y t])}:=by heap_get
 have I b u:h.get? b=aF u->((h.push {cls:=.type "tuple",data:=.seq #[.str y t]}).push {cls:=.type "AttributeError",data:=.fields (#[.ref h.objs.size,.none,.none,.none,.bool bB,.none]++P7 (.type "AttributeError") [.str y t])}).get? b=aF u:=λe=>eo _ (eo _ e);generalize ((h.push {cls:=.type "tuple",data:=.seq #[.str y t]}).push {cls:=.type "AttributeError",data:=.fields (#[.ref h.objs.size,.none,.none,.none,.bool bB,.none]++P7 (.type "AttributeError") [.str y t])})=h2 at f I ⊢;show cS (E' ?_);erw[noteAttr,lacksNameAndObj];have Z:((h2,g,d,t+1+1,os):dy).TypeIs (.ref (h.objs.size+1)) "AttributeError":=(_,f,rfl);have j:isSubtype (.type "AttributeError") (.type "AttributeError")=pure aG:=by rfl
 repeat (any_goals (first|assumption|with_reducible show tY f ?_|with_reducible show wpAny_load f ?_|wp_step))
 show zlA O<|U _ _ _ (λb u e=>?_) (_,zP _ f<|Obj.isFreed_of_fields<|_M rfl _,Obj.cls_mapFields ..);rw[qs _ _ (λq=>by rw[<-q]at e;rw[(RY<|uc _)]at e;cases e)];show I b u e
theorem Y7(y:h.get? a=aF (.type "list",aT,.seq vs nk,sl))(I:A.handled=aT)
 (J:∀h' e t',(∀b u,h.get? b=aF u->h'.get? b=aF u)->(∃z,h'.get? e=aF z/\z.cls=.type "AttributeError")->R (.error (.ref e)) (h',g,d,t',os)):
 codeAny (dq prog w) A (.call (.builtin "list.__getattribute__") ([.ref a,.str "keys" tk],[])) R (h,g,d,t,os):=
 DE R8.plain Vb (R8.check _ _ _ _ _ _ _ _ ((_,y,rfl)) (F.args_list_getattribute_2 _ _)<|Yc y I J)
theorem zjc:Dv (.type "list") "__getattr__" = pure aT:=by rw[typeLookup_type,U?];kernel_rfl
theorem zkY(y:h.get? a=aF (.type "list",aT,.seq vs nk,sl))(z:A.handled=aT)
 (B:∀h' t',(∀b u,h.get? b=aF u->h'.get? b=aF u)->Q aT (h',g,d,t',os)):wpAny (dq prog w) A (O9 (.ref a) "keys") Q E (h,g,d,t,os):=by
 have O:=R8.lookup;have U:=R8.bind (.ref a);have W:=zjc;have Y:isSubtype (.type "AttributeError") (.type "AttributeError")=pure aG:=by rfl
 erw[O9,getAttrBy?,getAttrBy]
 repeat (any_goals (first|assumption|wp_step))
 show Y7 y z λh' e t' I f=>?_;let(J,f,i):=f;have Z:((h',g,d,t',os):dy).TypeIs (.ref e) "AttributeError":=(J,f,i);have j:=B h' t' I;change wpAny _ _ (zhN _ _ _ _ _ _ _) _ _ _;erw[zhN,hookOrError,attributeErrorLeaves]
 repeat (any_goals (first|assumption|wp_step))
end
def Xi:zn D->xz (zn D×zn D)
 |[]=>aF ([],[])
 | d::r=>match d with
  |.tup a=>match a with
   |[k,v]=>(Xi r).map λp=>(k::p.1,v::p.2)
   |_=>aT
  |_=>aT
def FY(f:CO (zn D))(γ:Ctx):xz D:=(f γ).bind λa=>(Xi a).bind λp=>Fk p.1 p.2
@[simp] def zmE:=@FY.eq_1
def Rv(e z:CO D):CO D:=λa=>(e a).bind λd=>(z a).bind λk=>match d with
 |.hV b f=>(i1 k).bind λi=>mn b f i
 |_=>aT
def Nh(z e:CO D):CO D:=λa=>(z a).bind λk=>(e a).bind λd=>match d with
 |.hV b f=>(i1 k).map λi=>.bl (mn b f i).isSome
 |_=>aT
section
variable{X:Cx}{pins:TW}{σ:St}{A:hO}{R:Result->dy->Prop}{H0:Hp}{l it d:cI}{ks:zn Key}{ys xs:zn V}
theorem zjA(hh:A.handled=aT)(hx:xs.length=ks.length)(hy:ys.length=ks.length)(hp:∀n h1 (h2:n<ks.length) (h3:n<ys.length),∃p,xs[n]=.ref p/\fC X.K H0 p [kV ks[n],ys[n]])(b9:H0 d=aT)(S:l≠d):∀m n s H B i t,n+m=ks.length->
 Inv X pins σ H s->et H0 H->H l=aF (.lst xs)->s.heap.IsListIter it l n->YO X pins H it->H d=aF (.dK B)->B.length+m<=ej->
 (∀L,Inv X pins σ (upd H d<|.dK<|Ct B<|(ks.zip ys).drop n) L->R (.ok<|.ret .none) L)->
 codeAny (dq X.prog X.w) A (.builtin "dict.update.loop" ([.ref d,.ref it,.int i t,.none],[])) R s:=by
 intro m
 induction m with
 | zero=>
  intro n s H B i t hn I sub y st f h hz z;let(z1,M,c,Y,zii,J):=I.uS y;show X? wW ?_;show cS<|wpAny_pyNext_list_end hh st (_,J,rfl,_,rfl) (by simp;lia) λh' eb=>?_;show cS<|d7 ?_;have e0:upd H d (.dK<|Ct B<|(ks.zip ys).drop n)=H:=by
   rw[R1 (by grind)];funext c;by_cases q:c=d
   .rw[q,zA,h];rfl
   .rw[zC q]
  rw[e0]at z;show d7 (z _<|I.r6 (fp:=[it]) (λb o a e=>eb b o (~~~a) e)<|λb a=>by rw[oE.mp a];show f)
 | succ m ih=>
  intro n s H B i t hn I sub y st f h hz z;let(z1,M,c,Y,zii,J):=I.uS y;have N:n<ks.length:=by grind
  let(p,ep,P):=hp n () N ();let(u,hu,Z):=Y.get (eW<|show n<xs.length by lia);rw[ep]at Z;subst Z;show X? wW ?_;show cS<|wpAny_pyNext_list_item (s:=s) st (_,J,rfl,_,rfl) (x:=.ref p) (~~~hu) λh' T sb=>?_;have O:=I.r6 (h':=h') (t':=s.toks) (fp:=[it]) (λb o a e=>(sb.2 b<|by simpa using a).trans e) (λb a=>by rw[oE.mp a];show f);show dj λQ=>?_;let(ts,rt,(o,r,co,nn,aw),znr):=O.tuple<|i6 sub P;let(g,U,rfl,ax,W):∃g U,ts=g::U/\RelV (kV ks[n]) g/\d8 [ys[n]] U:=by
   cases rt with
   |cons q1 W=>show(_,_,rfl,q1,W)
  let(F,rfl,b1):=yc W;show Q ?_;show cS<|m7<|cS<|wpAny_tryCatch ?_;erw[Builtin.Dict.pairItems];show cS<|z4 (_,r,co) ?_;rw[DJ ()];show cS<|tQ r aw<|d7 ?_;change wpAny _ _ (my [g,F] (dictSet d g F)) _ _ _;show dj λQ=>?_;let(zlN,b3,vs,j,dd):=Ui O.dS h;show Q ?_;have b4:(pY B ks[n] ys[n]).length<=ej:=by have:=Ye B ks[n] ys[n];lia
  show m7<|wpAny_dictSet_pairs (hsz:=(by rw[<-j.length];show zlN)) (EC ax) dd λbd k C=>?_;have E:it≠d:=λq=>by have:=f.1;lia
  show d7 (wK _,ih (n+1) _ _ (pY B ks[n] ys[n]) (i+1) 0 () (LH (t':=s.toks+1) O (by rw[h];show mY) C (let (q,_,_,hq,_):=k;(q,hq))<|Pg b4 b3 (j.put ks[n] b1) k) (λc o e=>?_) (by rw[zC S];show y) (T.at λo q=>(C.2 it E).trans q) (by rw[zC E];show f.1,f.2) zA (by have:=Ye B ks[n] ys[n];lia) λL G=>z L ?_)
  .rw[zC (λq=>by lia)];show sub _ _ e
  .have e1:(ks.zip ys).drop n=(ks[n],ys[n])::(ks.zip ys).drop (n+1):=by
    rw[I7 (by simp;lia)];simp
   have e2:upd (upd H d<|.dK<|pY B ks[n] ys[n]) d (.dK<|Ct (pY B ks[n] ys[n])<|(ks.zip ys).drop (n+1))=upd H d (.dK<|Ct B<|(ks.zip ys).drop n):=by
    funext c;by_cases q:c=d
    .simp?[q,zA,zA,e1];rfl
    .simp?[zC q,zC q,zC q]
   rw[<-e2];show G
theorem zjE(I:Inv X pins σ H s)(O:X.A.handled=aT)(sub:et H0 H)(U:H l=aF (.lst xs))(hx:xs.length=ks.length)(hy:ys.length=ks.length)
 (S:∀n h1 (h2:n<ks.length) (h3:n<ys.length),∃p,xs[n]=.ref p/\fC X.K H0 p [kV ks[n],ys[n]]) (hz:ks.length<=ej)
 (L:∀B p,H p=aT->Inv X pins σ (upd H p (.dK (Ct [] (ks.zip ys)))) B->Q (.ref p) B):⇑X (call (.type "dict") [.ref l]) Q X.xe s:=by
 have y:=I.fresh;have W:l≠↥s:=λq=>by lia
 show callType_codes (Q₁:=λobj Y=>obj=_/\Y=_) F.kt_called_dict (F.kt_typeCall_dict_1 _) F.entry_dict_init (kt_code_dict_new _ (rfl,rfl)) ?_;rintro obj Y ⟨rfl,rfl⟩;have Z:({s with heap:=s.heap.push {cls:=.type "dict",data:=.dict #[]}}).TypeIs (.ref _) "dict":=(_,ir _ rfl,rfl);show dj λf=>?_;let(j,g,c,i,h,d):=I.uS U;show f ?_;have z:(s.heap.push {cls:=.type "dict",data:=.dict #[]}).get? l=_:=eo _ d;show(Z,F.args_dict_init_2 _ _,?_);show cS ?_;erw[Builtin.Dict.selfAndRest];show cS (wpAny_notOrdered_dict Z ?_);show d7 ?_;change wpAny _ _ (Builtin.Dict.updateFrom "dict.__init__" _ (.ref l) [] .none) _ _ _;erw[Builtin.Dict.updateFrom];show cS (z4 (_,z,rfl) ?_);rw[DJ ()];show cS (zkY z O λh' t' k=>?_);have J:Inv X pins σ _ {s with heap:=h',toks:=t'}:=(I.laid (t':=s.toks) (λ_ _ q=>eo _ q) (ec _) (Fi s.heap I.big)).kept k;show cS (w4 (cS (_r (_,k _ _ z,rfl,_,rfl) ?_)));show d7 (wK _,?_);show zjA (show X.A.in1.handled=aT from O) hx hy S (jw sub y) W ks.length 0 _ _ [] 0 0 (A4 _) (J.kept (h':=h'.push {cls:=.type "list_iterator",data:=.fields #[.ref l,.int 0 0]}) (t':=t') λb o e=>eo _ e) (sub.trans (js y _)) (by rw[zC W];show U) (_,ir _ rfl,rfl,rfl) (J.pJ (ec _) J.fresh) zA (~~~hz) λB a=>?_;rw[ZQ,List.drop_zero]at a;show(rfl,L B _ y a)
end
theorem aP:∀{ps e vs:zn D},Xi ps=aF (e,vs)->e.length=ps.length/\vs.length=ps.length
 |[],e,vs,h=>by cases h;show(rfl,rfl)
 | d::r,e,vs,h=>by
  erw[Xi]at h;split at h
  .split at h
   .let((a,b),f,y):=zq h
    cases y;let(z,I):=aP f;show(by simp[z],by simp[I])
   lia
  lia
set_option tactic.hygienic true in
theorem Vj{K:cL}{H:Hp}:∀{ps S vs:zn D} {xs:zn V} {e:zn Int},Xi ps=aF (S,vs)->di K H ps xs->WT S=aF e->
 ∃B,di K H vs B/\B.length=e.length/\xs.length=e.length/\∀n L (h2:n<e.length) (h3:n<B.length),∃p,xs[n]=.ref p/\fC K H p [.int e[n],B[n]]
 |[],S,vs,xs,e,h,r,hi=>by cases h;cases hi;rw[r.nB];show([],di.nil,rfl,rfl,λn L=>by cases L)
 | d::ps,S,vs,xs,e,h,r,hi=>by
  erw[Xi]at h;split at h
  .split at h
   .rename_i k v
    let((a,b),f,y):=zq h;cases y;let(x,u,rfl,L,h2):=r.kF;cases k with
    |int j=>
     show dj λz=>?_;let(t,I,J):=zq hi;subst J;let(B,O,Q,U,W):=Vj f h2 I;let(q,C,rfl,h3,g):=vf L;let(w,A,rfl,i,l):=g.kF;let(Y,s,rfl,m,o):=l.kF;show z ?_;rw[o.nB,jL i]at h3;show(Y::B,di.cons m O,by simp[Q],by simp[U],λn Z g2 g3=>?_);cases n with
     |zero=>show(q,rfl,h3)
     |succ n=>show W n (~~~Z) (~~~g2) (~~~g3)
    |_=>cases hi
   lia
  .cases h
section
variable{X:Cx}{sc:e9}{N L:zn Str}{k:Nat}{a o i:dE}{f:CO (zn D)}{fd fk:CO D}{p pos:eg}
theorem Cs(h:SX X sc N L k)(S:xP sc "dict" = aG)(zlI:X.mg "dict" = aT)(ha:PO X a f)(hs:dU [a] ⋯=[(bB,dv a ⋯)]:=by rfl):
 PV X (.Call (.Name "dict" p) [a] [] pos) (FY f):=by
 intro j s σ H Q I U;show dj λW=>?_;let(x,γ,d,C,z,q):=U;let(B,G,z):=zb z;let((g,M),Z,z):=zb z;show W ?_;erw[Fk]at z;cases hi:WT g with
 |none=>simp?[show _=g from rfl,hi]at z;cases z
 | some i=>
  rw[show _=g from rfl,hi]at z;dsimp only at z;by_cases u:g.length=M.length/\i.Nodup/\g.length<=lim
  .rw[DJ u]at z
   cases z;show xb<|xT I (h.gl S).1 zlI PyProof.Rows.boot_dict (u7 ?_ (by rw[hs];rfl) rfl);rw[hs];change wpAny _ _ (RG (_::[])) _ _ s;show oC<|dQ (ha j s σ H (λv o=>∃l m b,v=.ref l/\Ext x H b o/\b l=aT/\o l=aF (.lst m)/\di X.K b B m) I (x,γ,B,C,G,λl m o b e g1 g2 Y O=>(l,m,b,rfl,e,g2,Y,O))) λv s1 U=>?_;show dj λW=>?_;let(y,o,E,ry,l,m,b,rfl,e,g2,Y,O):=U;show W ?_;cases ry;show vu ?_;let(w,r1,r2,r3,r4):=Vj Z O hi;have A:(i.map<|nf (β:=Str)).length=i.length:=by simp
   have nl:i.length=g.length:=by have:=(aP Z).1;have:=O.length;lia
   show zjE E (I.ok.hd h.calm) e.sub Y (by rw[A];show r3) (by rw[A];show r2) (λn P R T=>?_) ?_ λs' p r J=>?_
   .let(t,t1,t2):=r4 n P (~~~R) T
    show(t,t1,?_);simpa[kV]using t2
   .have:lim<=ej:=by decide
    lia
   .have F:Ct [] ((i.map nf).zip w)=(i.map nf).zip w:=by
     rw[Vt _ []]
     .simp
     .rw[D2,List.map_fst_zip ()]
      show zkS u.2.1
    rw[F]at J;let(of,J):=Inv.zhA J zA;rw[ZQ]at J;show(.ref p,_,J,rfl,q (.ref p) _ _ ((e.trans<|Ext.hide e.sub r _).show (xh e.s1 r) (jw e.sub r) zA C.sub)
     ((p,w,rfl,(_,VH hi,(),of,zA),r1.mono<|js (jw e.sub r) _)))
  .rw[DY u]at z;cases z
theorem NB(h:SX X sc N L k)(O:PV X o fd)(B:PV X i fk)(hs:Sr i:=by intro _ _;rfl):PV X (.Subscript o i pos) (Rv fd fk):=
 j3 (IJ (by have:=h.zl;lia) O B hs) λM H Q U=>by
  let(g,f,d,e,z,q):=U;let(W,s,z):=zb z;let(C,Y,z):=zb z;cases W with
  |hV F G=>
   let(j,Z,t):=zb z;show(g,f,_,e,s,λv A a x r=>(a,f,_,e.ext x,Y,λy l m I b=>?_));let(ad,K,rfl,(E,g1,g2,w,g3),u):=(r);rw[jT Z]at b;let(J,n,p):=(WY g1 g2<|u.mono I.s0).1 d t;show(ad,J,rfl,?_,q J l m (x.trans I) p);rw[b,<-n];show .inl (_,nf j,.inr (w,I.s1 _ _<|x.sub _ _ g3),rfl,rfl)
  |_=>cases z
theorem Iv(h:SX X sc N L k)(S:PV X i fk)(Y:PV X o fd)(hm:nv .In o=bB:=by with_unfolding_all rfl):gO X (.Compare i [.In] [o] pos) (sB<|Nh fk fd):=
 KL (NI (Of (by have:=h.zl;lia) S Y) hm) λσ H Q Z=>by
  let(l,g,b,f,z,q):=Z;let(db,u,E):=zb z;let(k1,w,z):=zb u;let(s,A,z):=zb z;cases s with
  | hV K M=>
   let(j,B,C):=zq z;subst C;cases E;show(l,g,_,f,w,λy R a x e=>(a,g,_,f.ext x,A,λv d J I r=>?_));show dj λG=>?_;let(ad,xs,rfl,(kk,g1,g2,O,U),F):=(r);show G ?_;rw[jT B]at e;have W:=e;let(m,n):=WY g1 g2 F;cases hv:mn K M j with
   | none=>
    show(ad,aT,rfl,?_,_,rfl,?_)
    .rw[W,<-n hv]
     show .inl (_,nf j,.inr (O,I.sub _ _ U),rfl,rfl)
    .rw[hv]at q;show q d J<|x.trans I
   | some t=>
    let(P,p,T):=m t hv;show(ad,aF P,rfl,?_,_,rfl,?_)
    .rw[W,<-p]
     show .inl (_,nf j,.inr (O,I.sub _ _ U),rfl,rfl)
    .rw[hv]at q;show q d J<|x.trans I
  |_=>cases z
end
def M_:zn (zn Int)->zn Int->zn Int->xz Int
 |k::ks,n::ns,i=>if k=i then aF n else M_ ks ns i
 |_,_,_=>aT
def eqT(e:zn (zn Int))(B:zn Int)(y:zn (zn Int))(z:zn Int):Bool:=decide (e.length=y.length)&&(e.zip B).all λx=>decide<|M_ y z x.1=aF x.2
def P_(d e:D):xz Bool:=match d with
 |.i4 b g=>match e with
  |.i4 y a=>(WT g).bind λf=>(WT a).map λz=>eqT b f y z
  |_=>aT
 |_=>aT
@[simp] def zbw(d e:D):xz D:=(P_ d e).map D.bl
@[simp] def zbv(d e:D):xz D:=(P_ d e).map λb=>D.bl<|!b
def Yh:Cell->Bool
 |.nest _=>aG
 |_=>bB
theorem WE{γ:Ctx}(h:γ.any Yh=bB):∀(i:Nat) z,γ[i]? ≠ aF (.nest z):=λi z e=>by show(S9.mp h _<|oA e) rfl
section
variable{K:cL}{E0 E H0 H:Hp}{σ:St}{γ:Ctx}{p:cI}{u:HO}
theorem RS.zkv(r:RS K E0 E H0 H σ γ)(B:γ.any Yh=bB)(L:H p=aF u)(J:∀xs,u ≠ .lst xs)(S:H0 p=aT)(U:E p=aT):RS K E0 E (upd H0 p u) H σ γ:=by
 have I:et (upd H0 p u) H:=λb o e=>by
  by_cases z:b=p
  .subst z;rw[zA]at e;rw[L];show e
  .rw[zC z]at e;show r.rc.sub b o e
 have n:∀{a:cI} {xs:zn V},H a=aF (.lst xs)->a≠p:=λe z=>by rw[z,L]at e;show J _<|l8 e
 have j:et H0 (upd H0 p u):=js S _;show((I,r.rc.len,λi d e=>?_,λi l e=>?_,r.rc.ne,lL.tu<|WE B),(r.ext.s0.trans j,r.ext.s1,I,λc O y=>?_),r.fresh,λi f a xs e=>absurd e<|WE B i f)
 .let(v,g,h):=r.rc.val i d e
  show(v,g,h.mono j)
 .let(a,xs,g,h,k,m):=r.rc.own i l e
  show(a,xs,g,by rw[zC (n k)];show h,k,m.mono j)
 .rw[zC (λz=>by rw[z,U]at y;show y rfl)];show r.ext.new c O y
end
abbrev TT:=zn (zn (zn Int))
section
theorem Ox(s:et E H)(h:H c=aT):E c=aT:=by
 cases q:E c with
 |none=>rfl
 |some o=>rw[s c o q]at h;cases h
end
open PySem.W (KasT kas_sort kas_ask kat_run kat_snds kat_lt kat_cons kat_no kat_yes kat_nil kat_go kat_one kat_kind KatTups KatGo)
section
variable{prog:eA}{w:eu}{A:hO}{E:EQ}{s:dy}
theorem mf{a y:cI}{H:zn da}{z:zn da}{e B:Nat}{P:PySem.Fin->dy->Prop}{st:SortSt}(J:s.heap.get? y=aF (fD "list" H.toArray e))(L:s.heap.get? a=aF (fD "list" #[] B))(O:y≠a)(W:H.length<=ej)(Q:z.length<=ej)
 (U:(arrOf st).map (·.2)=z.toArray) (S:failedOf st=aT)
 (h:∀h' c,h'.objs.size=↥s->(∀b o,b≠a->b≠y->s.heap.get? b=aF o->h'.get? b=aF o)->h'.get? a=aF (fD "list" z.toArray c)->P (.done (.ret .none)) {s with heap:=h'}):
 wpAny (dq prog w) A (ksk_tail a bB B (.ref y) st) P E s:=by
 erw[ksk_tail];show cS (A3 J rfl ?_ (by assumption) (l6 _));show cS (M5 ?_);have I:(s.heap.update y (ky λ_=>(#[]))).get? a=_:=(qs _ _ O).trans L;show cS (M6 I rfl ?_);rw[U];show cS (A3 I rfl ?_ (l6 _) (by rw[gN];show Sb Q));rw[S];simp?[bne_self_eq_false,tL,if_false];let(c,g):∃c,((s.heap.update y _).update a (ky λ_=>z.toArray)).get? a=aF (fD "list" z.toArray c):=(_,Uo I _);show d7 (h _ c (by simp_all) (λb o d f q=>(qs _ _ (ew d)).trans ((qs _ _ (ew f)).trans q)) g)
theorem Lf{a I:cI}{vs B:zn da}{ps:zn (Int×Int)}{e H:Nat}{P:PySem.Fin->dy->Prop}(hk:s.heap.get? I=aF (fD "list" B.toArray e))(ha:s.heap.get? a=aF (fD "list" #[] H))(S:I≠a)(a7:B.length=vs.length)(O:ps.length=vs.length)(an:vs.length<64)
 (U:∀i L,rq s.heap B[i] (ps.getD i (0,0)).1 (ps.getD i (0,0)).2)
 (h:∀h' c,h'.objs.size=↥s->(∀b o,b≠a->b≠I->s.heap.get? b=aF o->h'.get? b=aF o)->h'.get? a=aF (fD "list" (D7 ((xq ps).map λi=>vs.getD i lC)) c)->P (.done (.ret .none)) {s with heap:=h'}):
 wpAny (dq prog w) A (ksk_end a bB vs.toArray H (.ref I) B.toArray) P E s:=by
 have hz:vs.length<=ej:=by rw[oo];lia
 have hsz:vs.toArray.size=vs.length:=by simp
 have be:((xq ps).map λi=>vs.getD i lC).length=vs.length:=by rw[gr,(j6 ps).length_eq,pq,O]
 erw[ksk_end]
 try dsimp only
 show(λt ht=>ht) _ ?_;by_cases f:vs.toArray.size<2
 .rw[DJ f,DJ f]
  show cS<|d7 ?_;rw[StateT.run_pure];show cS<|d7 ?_;dsimp only;have ev:(xq ps).map (λi=>vs.getD i lC)=vs:=by erw[xq];rw[DJ (),O];show jz _ _
  show mf hk ha S () () (by
   rw[ev];apply Array.ext';simp[Array.toList_map,Array.toList_zip];rw[List.map_snd_zip ()]) rfl h
 .rw[DY f,DY f]
  let(fs,f1,f2,f3):=uU λi L=>(U i L).one;show cS (kat_kind (T:=t7 "int") f1 () (λv hv=>?_) () ?_)
  .let(k,t,rfl):=f3 v hv
   show DU.of_pure rfl
  show cS (fU (kat_run (Q:=λJ d=>∃p,arrOf J=p.map (PySem.W.kas_item<|B.toArray.zip vs.toArray)/\failedOf J=aT/\p.toList=xq ps/\d=s)
   (G:=λp d=>p.toList=xq ps/\d=s)
   a7 () an (λp J d a1 R X n=>(p,R,X,n.1,n.2)) (gG (λi j C L hj z=>?_) (Yn ()) (by
   erw[xq];rw[DY (),O],rfl))) ?_ λ_ _ e=>e)
  .show wpAny _ _ (keyLt' _ (B.getD i lC)<|B.getD j lC) C _ _
   have r:i<B.length:=()
   have F:j<B.length:=()
   rw[show B.getD i lC=B[i]by simp[r],show B.getD j lC=B[j]by simp[F]];show dj λkZ=>?_;let(x,zjt,xs,m,t,u,H,e2,e3,e4,N):=U i r;let(y,zju,ys,m',t',u',d1,d2,d3,d4,M):=U j F;show kZ ?_;rw[H,d1];show kat_lt e2 e4 d2 d4 ?_;have b8:xs.size=2:=by rw[<-sj,N];rfl
   have b9:ys.size=2:=by rw[<-sj,M];rfl
   simp?[N,M,b8,b9,DH,DH];erw[QT]at z;generalize ps.getD i (0,0)=Y at z ⊢;generalize ps.getD j (0,0)=Z at z ⊢;show kat_cons<|Mq Y.1 t Z.1 t' _ _ _ _ ?_;show kat_go (λl=>?_) λl=>?_
   .rw[DJ (~~~l)]at z
    show kat_yes<|kat_cons<|Mq Y.2 u Z.2 u' _ _ _ _<|kat_go (λg=>?_) λg=>kat_no<|kat_one _ _<|lt_int z
    .have g:= ~~~g
     show kat_yes<|kat_nil ?_;rw[show decide (Y.2<Z.2)=bB by rw[g];simp]at z;show z
   .rw[DY (~~~l)]at z
    show kat_no<|oneLt_int z
  rintro⟨⟨⟩,J⟩ d ⟨p,bb,hf,hp,rfl⟩;dsimp only;have K:=kat_snds a7 bb;rw[hp]at K;show mf hk ha S () () K hf h
end
section
theorem Ae(I:Inv X pins σ H s)(f:YO X pins H a)(new:i7 X.prog X.w (upd H a o) s.heap a o):Inv X pins σ (upd H a o) s:=by
 let(f1,O,Y,Q,U,W):=f;have d b u:H b=aF u->b≠a:=λq z=>by lia
 show(I.ok,I.os,I.bare,(I.base.keep,I.base.slot,λb y q n J=>?_,I.base.there,λb i q=>?_,λb y u q=>?_,λb j q=>?_),I.loc,I.cell,?_,λx c e=>?_,λp h=>?_,λb u e=>?_,I.len)
 .rw[zC (λz=>by
   rcases Q with z1|z1
   .exact J<|z ▸ z1
   .have:=ft q
    rw[z]at this;show absurd this<|Nat.not_lt_of_le z1)];show I.base.free b y q n J
 .have:=I.base.nG b i q
  rw[zC (d b _ this)];show this
 .have:=I.base.nW b y u q
  rw[zC (d b _ this)];show this
 .let(m,this):=I.base.nY b j q
  show(m,by rw[zC (d b _ this)];show this)
 .rw[zC (ew O)];show I.free
 .rw[zC (U x c e)];show I.oe x c e
 .let(e,n,r):=I.pin p h
  show(e,by rw[zC (W p h)];show n,r)
 .by_cases g:b=a
  .subst g;rw[zA]at e;lia
  .rw[zC g]at e
   show(I.dS b u e).og (λ_ _ _ q=>q) (λc q=>by rw[zC (d c _ q)];show q) λc i q=>by rw[zC (d c _ q)];show q
theorem Ic{A:hO}{Q:VK}{z:zn da}{vs:zn V}{CX:o9}{k:Nat}{f:cI}{B:gv}{ps:zn Str}{sp:Sp}(F:⇑fy f7 k f B ps sp)(y:g6 k A)(L:⇑pa A X.stack s H)(J:Binds X.K B ps [])
 (I:Inv X pins σ H s) (r:d8 vs z) (h:sp vs H Q E0):wpAny (dq X.prog X.w) A (call (.ref f) z) (EP X pins σ Q) (λ_ _=>False) s:=by
 show q0<|t9 (F.run A X.stack s H _ z vs Q E0 y L (~~~J s z I.eF (~~~(by rw[<-r.length];show F.len _ _ _ _ h))) r h) λr d a=>?_;cases r with
 |error e=>show a.elim
 |ok b=>
  cases b with
  |ret u=>show I.after a
  |next=>assumption
  |brk=>assumption
  |cont=>assumption
theorem Nl(I:Inv X pins σ H s)(B:YO X pins H kS)(e:YO X pins H a)(y:s.heap.get? kS=aF ok)(L:s.heap.get? a=aF oa)(z:∀v,ok.data ≠ .cell v)(J:∀v,oa.data ≠ .cell v):Inv X (pins++[(kS,ok),(a,oa)]) σ H s:=
 I.F5 λp hp=>by
  rcases n5.mp hp with hp|hp
  .exact I.pin p<|mU _ hp
  .rcases eL.mp hp with rfl|hp
   .exact(y,B.1,B.2.1,B.2.2.1,z)
   .rw[oE.mp hp];show(L,e.1,e.2.1,e.2.2.1,J)
theorem MD(I:Inv X (pins++more) σ H s):Inv X pins σ H s:=I.F5 λp a=>I.pin p<|mU _<|X' _ a
end
def bP(ps:zn (Int×Int)):zn D:=ps.map λp=>D.tup [.int p.1,.int p.2]
section
variable{X:Cx}{pins:TW}{σ:St}{F:zn D->xz Res}{k:Nat}{f:cI}{fd:gv}{pr:zn Str}{A:hO}{E:EQ}
theorem HE(I:Inv X pins σ H s)(sub:et H0 H)(r:Rep X.K H0 (.tup [.int i,.int j]) v)(W:RelV v u):rq s.heap u i j:=by
 let(b,E,rfl,a,d):=vf r;let(y,C,Y,e,f):=d.kF;let(B,x,U,g,h):=f.kF;rw[h.nB]at U;rw[Y,U,jL e,jL g]at a;cases W;let(Z,w,(o,m,k,n,l),_):=I.tuple<|i6 sub a;let(z,J,rfl,O,Q):∃z J,Z=z::J/\RelV (.int i) z/\d8 [.int j] J:=by
  cases w with
  |cons O Q=>show(_,_,rfl,O,Q)
 let(A,rfl,p):=yc Q;let(t,rfl):=O;let(u,rfl):=p;show(b,o,_,n,t,u,rfl,m,k,l,rfl)
theorem EA{a J:cI}{vs:zn da}{xs:zn V}{ds:zn D}{ps:zn (Int×Int)}{e1:Nat}{P:PySem.Fin->dy->Prop}{H0 H:Hp}{s:dy}
 (G:⇑fy f7 k f fd pr (kr X.K pr.length F)) (h1:pr.length=1) (hr:g6 k A) (b3:A.frames=aF X.stack) (L:Binds X.K fd pr [])
 (I:Inv X pins σ H s) (sub:et H0 H) (rv:d8 xs vs) (rd:di X.K H0 ds xs) (am:ps.length=vs.length) (b4:vs.length<64)
 (hF:∀(i:Nat) d p,ds[i]? = aF d->ps[i]? = aF p->F [d]=aF (.val<|.tup [.int p.1,.int p.2]))
 (hk:s.heap.get? J=aF (fD "list" #[] 0)) (ha:s.heap.get? a=aF (fD "list" #[] e1)) (an:J≠a) (fk:YO X pins H J) (fa:YO X pins H a)
 (h:∀S H' B c,Inv X pins σ H' S->Ext H0 H B H'->S.heap.get? a=aF (fD "list" (D7 ((xq ps).map λi=>vs.getD i lC)) c)->YO X pins H' a->P (.done (.ret .none)) S):
 wpAny (dq X.prog X.w) A (ksk_rest a (.ref f) bB vs.toArray e1<|.ref J) P E s:=by
 have br:=rv.length;have bv:=rd.length;erw[ksk_rest];show cS (w4 ?_);rw[List.forIn_toArray];show cS (ksk_fold (λj S=>∃m g O e,Inv X (pins++[(J,fD "list" O e),(a,fD "list" #[] e1)]) σ m S/\Ext H0 H g m/\∃l,d8 l O.toList/\di X.K g (bP (ps.take j)) l) vs 0 s
  (H,H0,#[],0,Nl I fk fa hk ha (λv z=>by cases z) (λv z=>by cases z),Ext.refl sub,[],.nil,di.nil) ?step ?done)
 case step=>
  rintro j x S hx ⟨m,g,O,e,U,n,l,Z,W⟩;simp?[A4]at W ⊢;have hj:=(kG.mp hx).1;have hd:ds[j]? = aF ds[j]:=eW ();have ap:xs[j]? = aF xs[j]:=eW ();let(u',as,b6):=rv.get ap;rw[hx]at as;cases as;let(znm,aw,b7):=rd.get hd;rw[ap]at aw;cases aw;show cS (v7 (fU (Ic (CX:=f7) (Q:=λv H'=>∃B,Ext g m B H'/\Rep X.K B (.tup [.int ps[j].1,.int ps[j].2]) v) G hr (b3,U.ow.mod,U.ow.bs,U.ow.oK,U.ow.nz,U.ow.ph,U.ow.dS,U.ow.bare) L U (.cons b6 .nil)
   (g,[ds[j]],_,n.sub,di.cons (b7.mono n.s0) di.nil,by rw[h1];rfl,hF j _ _ hd<|eW (),λv H' B r r2=>(B,r,r2))) (λv C he=>?_) λ_ _ hF=>hF.elim))
  show dj λkZ=>?_;let(zlm,H2,t,b9,bb,r,r2):=he;show kZ ?_;try dsimp only
  show dj λkZ=>?_;let(Y,M,_):=t.pin (J,fD "list" O e) (mU _ (mU _ (.head _)));let(na,N,_):=t.pin (a,fD "list" #[] e1) (mU _ (mU _ (.tail _ (.head _))));show kZ ?_;have R:YO X pins H2 J:=(M,fk.2);have kl:O.size=j:=by have:=Z.length;have:=W.length;simp?[bP,gr,L4,sj]at *;lia
  show cS (A3 Y rfl ?_ (by rw[kl,oo];lia) (fZ (Ms (Array.size_push ..)) (by rw[kl,oo];lia)));let(T,bd):∃T,(C.heap.update J (ky (·.push v))).get? J=aF (fD "list" (O.push v) T):=(_,Uo Y (·.push v));show d7 (rfl,H2,bb,O.push v,T,Nl ((MD t).r6 (h':=C.heap.update J (ky (·.push v))) (t':=C.toks) (fp:=[J]) (λb o L q=>(qs _ _ (λz=>L (by rw[z];show List.mem_singleton_self _))).trans q) (λb L=>by rw[oE.mp L];show R)) R (N,fa.2) bd ((qs _ _ an).trans na) (λv z=>by cases z) (λv z=>by cases z),n.trans r,l++[zlm],?_,?_)
  .rw[Array.toList_push];show Z.append<|.cons b9 .nil
  .have ek:ps.take (j+1)=ps.take j++[ps[j]]:=by simp_all
   rw[ek];erw[bP]at W ⊢;rw[n6];show(W.mono r.s0).append (di.cons r2 di.nil)
 case done=>
  rintro S ⟨m,g,O,e,U,n,l,Z,W⟩;rw[A4,<-am,List.take_length]at W;let(Y,M,_):=U.pin (J,fD "list" O e) (mU _ (mU _ (.head _)));let(na,N,_):=U.pin (a,fD "list" #[] e1) (mU _ (mU _ (.tail _ (.head _))));have b0:=MD U;have R:YO X pins m J:=(M,fk.2);have be:YO X pins m a:=(N,fa.2)
  try dsimp only
  show cS<|listItems_at Y rfl ?_;have l1:=Z.length;have l2:=W.length;simp?[bP,gr]at l2;have ek:O=O.toList.toArray:=by simp
  rw[ek]at Y ⊢;show Lf Y na an () am b4 (λi hi=>?_) λh' c hsz kp hA=>h _ m g c (b0.r6 (h':=h') (t':=S.toks) (fp:=[a,J]) (λb o L q=>kp b o (λz=>L<|by rw[z];simp) (λz=>L<|by rw[z];simp) q)<|λb L=>by grind) n hA be
  .have bg:i<ps.length:=()
   let(y,ey,ry):=W.get (i:=i) (d:=.tup [.int (ps.getD i (0,0)).1,.int (ps.getD i (0,0)).2]) (by erw[bP];simp[bg]);let(u,hu,ru):=Z.get ey;have:O.toList[i]=u:=by rw[eW hi]at hu;show l8 hu
   rw[this];show HE b0 n.sub ry ru
end
def IL:Res->xz (Int×Int)
 | .val d=>match d with
  |.tup a=>match a with
   |[x,y]=>(i1 x).bind λi=>(i1 y).map λj=>(i,j)
   |_=>aT
  |_=>aT
 |.own _=>aT
def gw(F:zn D->xz Res):zn D->xz (List<|Int×Int)
 |[]=>aF []
 |d::r=>((F [d]).bind IL).bind λp=>(gw F r).map λl=>p::l
def sF(F:zn D->xz Res)(f:CO (Sk×zn D)):CO (zn D):=λd=>(f d).bind λa=>match a.1 with
 |.L=>(gw F a.2).bind λb=>if a.2.length<64 then aF ((xq b).map λi=>a.2.getD i .dw)else aT
 |_=>aT
theorem aN(y:d8 xs vs):∀(o:zn Nat),(∀i∈o,i<xs.length)->d8 (o.map λi=>xs.getD i .dw) (o.map λi=>vs.getD i lC)
 |[],_=>.nil
 |i::o,h=>by have a:=h i gH;show .cons ?_ (aN y o λj z=>h j<|gy _ z);let(v,I,g2):=y.get<|eW a;simp?[hB,hB,eW a,I];show g2
section
theorem zjN
 (G:⇑fy f7 k f fd pr (kr X.K pr.length F)) (h1:pr.length=1) (hr:g6 (k+1+1) X.A) (L:Binds X.K fd pr [])
 (I:Inv X pins σ H s) (sub:et H0 H) (hl:s.heap.IsList l vs.toArray) (O:d8 xs vs) (rd:di X.K H0 ds xs) (W:ps.length=vs.length) (a5:vs.length<64)
 (hF:∀(i:Nat) d p,ds[i]? = aF d->ps[i]? = aF p->F [d]=aF (.val<|.tup [.int p.1,.int p.2]))
 (h:∀S B e D,H D=aT->B D=aT->Ext H0 H e B->Inv X pins σ (upd B D<|.lst<|(xq ps).map λi=>xs.getD i .dw) S->Q (.ref D) S):
 ⇑X (call (.builtin "sorted") [.ref l] [(hG "key",.ref f)]) Q E s:=by
 have N:=O.length;have J:vs.length<=ej:=by rw[oo];lia
 show call_function_entry_kw kind_sorted plain_sorted entry_sorted (ksk_s1 _ _) ?_;unfold Builtin.«sorted»;show cS (d7 ?_);show cS (collect_list hl ?_ J);show cS (T9 ?_ J);have a:((s.heap.push (fD "list" #[] 0)).update ↥s (ky (· ++ vs.toArray))).objs.size=↥s+1:=by rw[Sm,Rx]
 have y:(((s.heap.push (fD "list" #[] 0)).update ↥s (ky (· ++ vs.toArray))).push (fD "list" vs.toArray 0)).get? (↥s+1)=aF (fD "list" vs.toArray 0):=by rw[<-a];show ir _ rfl
 have keep b o:s.heap.get? b=aF o->(((s.heap.push (fD "list" #[] 0)).update ↥s (ky (· ++ vs.toArray))).push (fD "list" vs.toArray 0)).get? b=aF o:=λq=>by have U:=ft q;rw[D0 _ _ _ (by rw[a];show gq (oj U)),DF _ _ _ _ (gq U),D0 _ _ _ (gq U)];show q
 have Y:(((s.heap.push (fD "list" #[] 0)).update ↥s (ky (· ++ vs.toArray))).push (fD "list" vs.toArray 0)).objs.size=↥s+2:=by rw[Rx,a]
 rw[a];generalize ((s.heap.push (fD "list" #[] 0)).update ↥s (ky (· ++ vs.toArray))).push (fD "list" vs.toArray 0)=g at y keep Y ⊢;have n:=I.pJ (uc _) (I.dS.fresh (uc _));show cS (m7 (wpAny_call_entry_kw slot_list_sort (_,y,rfl) entry_list_sort ?body (ksk_l1 _ _)))
 case body=>
  rw[ksk_t1];erw[ksk_tree];show cS (listItems_at y rfl ?_);show cS (A3 y rfl ?_ (by assumption) (l6 _));let(j,Z):∃j,(g.update (↥s+1) (ky λ_=>(#[]))).get? (↥s+1)=aF (fD "list" #[] j):=(_,Uo y λ_=>#[]);show cS (M6 Z rfl ?_);show cS (T1 ?_ (by change vs.length<=_;show J));show cS (T9 ?_ (l6 _));show m7 ?_;have r:((g.update (↥s+1) (ky λ_=>(#[]))).push (fD "tuple" vs.toArray 0)).objs.size=↥s+3:=by rw[Rx,Sm,Y]
  show EA
   G h1 hr.in1.in1 I.ow.in1.in1.frames L (((I.kept (t':=s.toks) keep).r6 (h':=g.update (↥s+1) (ky λ_=>(#[]))) (t':=s.toks) (fp:=[↥s+1]) (λb o L q=>(qs _ _ (λz=>L (by rw[z];show List.mem_singleton_self _))).trans q) (λb L=>by rw[oE.mp L];show n)).kept (h':=((g.update (↥s+1) (ky λ_=>(#[]))).push (fD "tuple" vs.toArray 0)).push (fD "list" #[] 0)) (t':=s.toks) (λb o q=>eo _ (eo _ q))) sub O rd W a5 hF (ir _ rfl) (eo _ (eo _ Z)) (by rw[r];show λz=>absurd (Nat.add_left_cancel z) ()) (by rw[r];show(I.pJ (nM _ _) (I.dS.fresh (nM _ _)))) n λS B e c t M x m=>(_,rfl,?_)
  show d7 (_,rfl,h S B e _ (I.dS.fresh<|uc _) m.1 M<|Ae t m ?_);have u:((xq ps).map λi=>xs.getD i V.dw).length=vs.length:=by rw[gr,(j6 ps).length_eq,pq,W]
  show(by rw[u];show J,(xq ps).map λi=>vs.getD i lC,c,aN O _ (λi C=>by have:=ed.mp<|(j6 ps).mem_iff.mp C;lia),x)
end
theorem cK:∀{e:zn D} {ps:zn (Int×Int)},gw F e=aF ps->ps.length=e.length
 |[],ps,h=>by cases h;rfl
 |d::r,ps,h=>by let(p,_,a):=zb h;let(l,b,f):=zq a;subst f;simp[cK b]
theorem zjm(h:IL r=aF p):r=.val (.tup [.int p.1,.int p.2]):=by
 erw[IL]at h;split at h
 .split at h
  .split at h
   .let(i,a,b):=zb h
    let(j,d,e):=zq b;subst e;rw[jT a,jT d]
   lia
  lia
 lia
theorem me:∀{e:zn D} {ps:zn (Int×Int)},gw F e=aF ps->∀(i:Nat) d p,e[i]? = aF d->ps[i]? = aF p->F [d]=aF (.val<|.tup [.int p.1,.int p.2])
 |[],ps,h,i,d,p,hd,hp=>by grind
 | c::r,ps,h,i,d,p,hd,hp=>by
  let(q,b,f):=zb h;let(l,g,j):=zq f;subst j;cases i with
  |zero=>
   simp at hd hp;subst hd hp;let(k,a,y):=zb b;rw[a,zjm y]
  |succ i=>show me g i d p (~~~hd) (~~~hp)
section
variable{X:Cx}{sc:e9}{N L:zn Str}{k j:Nat}{e:dE}{fq:CO (Sk×zn D)}{F:zn D->xz Res}{x:Str}{p p2 pos zia:eg}
theorem CK(S:⇑d6 j x 1 F)(h:SX X sc N L k)(hj:j+1+1<=k)(c:xP sc "sorted" = aG)(z:X.mg "sorted" = aT)(c2:xP sc x=aG)(hq:PQ X e fq)
 (hs:dU [e] ⋯=[(bB,dv e ⋯)]:=by rfl):
 PO X (.Call (.Name "sorted" p) [e] [(aF "key",.Name x p2,zia)] pos) (sF F fq):=by
 intro d s σ H Q I U;show dj λW=>?_;let(o,γ,ac,rc,y,q):=U;let((kk,n),M,y):=zb y;let(fa,fd,pr,hn,G,hm,hk,R):=S.ex;show W ?_;cases kk with
 |T=>cases y
 | L=>
  have y:=y;let(ps,A,y):=zb y;by_cases B:n.length<64
  .rw[DJ B]at y
   cases y;show pk (xT (u:=.builtin "sorted") I (h.gl c).1 z () (callWith_kw ?_ (by rw[hs];rfl) (by rw[hs];rfl)) () ());show dQ ((zS hq jH hs) pos d s σ H (λC l=>∃a g b,C=[.ref a]/\Ext o H b l/\eJ X.K l a g/\di X.K b n g) I (o,γ,.L,n,rc,M,λa g l b f Y g2 J=>(a,g,b,rfl,f,Y,J))) λus s1 U=>?_;show dj λW=>?_;let(C,l,Z,rv,a,g,b,rfl,f,Y,J):=U;let(u,rfl,ru):=yc rv;show W ?_;cases ru;show wpAny_evalAll_cons (cS (yq Z (h.gl c2).1 hm (cS (A1 (d7 ?_))) (h.gl c2).2.2));show wpAny_evalAll_nil ?_;let(al,r,pl,hz):=Z.list Y;have l1:=r.length;have l2:=J.length;have l3:=cK A;show zjN G hn (h.room.mono hj) R Z f.sub pl.isList r J () () (me A) λs' H' m D P t O E=>?_;show(.ref D,_,E,rfl,q D _ _ m (f.trans (O.trans (Ext.hide O.sub t _))) (xh f.s1 P) (jw O.sub t) zA ?_);show Kz (J.mono O.s0) _ λi hi=>?_;have:=ed.mp ((j6 ps).mem_iff.mp hi);lia
  .rw[DY B]at y;cases y
end
section
open Classical in
end
structure SW(X:Cx)(sc:e9)(N T:List Str)(k:Nat):Prop where
 nV:⋯.scope=sc
 eN:X.N=N
 nd:N.Nodup
 dp:X.A.depth+3*k+5<n_
 un:X.A.units+16*k+200<s8
 fn:∀x∈T,X.fn x=aG\/sc.names.lookup x=aF .local
section
theorem SW.var(h:SW X sc N T k)(c:kQ sc N i x=aG):PE X (.Name x pos) (QE i):=by erw[kQ]at c;simp?[fS,sE,decide_eq_true_eq,vv]at c;let(((a,e),b),d):=c;show GF (by rw[h.eN];show a) ?_ b d;erw[E5];rw[h.nV];lia
theorem SW.loc(h:SW X sc N T k)(c:kD sc N T i x=aG):X.N[i]? = aF x/\L2.Loc ⋯.scope x/\(X.fn x=aG\/⋯.scope.names.lookup x=aF .local):=by
 erw[kD]at c;simp?[fS,sE,decide_eq_true_eq]at c;show(by rw[h.eN];show c.1.2,?_,?_)
 .unfold L2.Loc;rw[h.nV];show c.2
 .rw[h.nV];show h.fn x c.1.1
theorem SW.set(h:SW X sc N T k)(i:Nat){y:eg}(c:kD sc N T i x=aG)(z:PE X e te)(hs:ni e (aF (.Name x y)) pos.line ⋯=pure bB:=by rfl):PS X (.Assign [.Name x y] e pos) (aD te<|yK i):=by let(a,b,d):=h.loc c;show Gz (by rw[h.eN];show h.nd) a b z hs d
end
set_option tactic.hygienic true in
theorem zjw{M:Model}{h:dV}{K:cL}{a C S:cI}{b:Bool}(X:K.In h)(I:rh h a C)(B:A5 K (.ref S)=aF (.type "type"))(H:pw K S (.type "BaseException")=aF aG)(L:(vk K S).isSome=aG)(h4:pw K C (.ref S)=aF b):
 DU M h (excMatches (.ref a)<|.ref S) b:=by
 have d:DU M h (isType<|.ref S) aG:=by
  let(p,y):=qd.mp L;erw[vk]at y;split at y
  .rename_i o r m n g
   intro i l j F k q;erw[isType,loadHead];show cS<|wpAny_loadPart (k _ _<|X _ _ g)<|d7 q
  lia
 have e:=PySem.W.looks_mroIn (M:=M) X h4;have f:DU M h _ bB:=.of_pure tc_notTuple;intro A Q E s k q;let(w,u,t,G,x):=s;have z:=(JP (M:=M) I).keeps k;have J:=(PySem.W.looks_typeIn (M:=M) X B).keeps k;have O:=(PySem.W.looks_mroIn (M:=M) X H).keeps k;have U:=d.keeps k;have Y:=e.keeps k;have Z:=f.keeps k;erw[excMatches,isExcClass,YP];cases b with
 |true=>
  repeat (first|with_reducible show J.at ?_|with_reducible show Z.at ?_|with_reducible show U.at ?_|with_reducible show O.at ?_|with_reducible show z.at ?_|with_reducible show Y.at ?_|wp_step)
  show q
 |false=>
  repeat (first|with_reducible show J.at ?_|with_reducible show Z.at ?_|with_reducible show U.at ?_|with_reducible show O.at ?_|with_reducible show z.at ?_|with_reducible show Y.at ?_|wp_step)
  show q
structure UD(X:Cx)(pins:TW)(σ:St)(H0 H:Hp)(cc:Xn)(a:cI)(s:dy):Prop where
 ex:∃H' el C φ,L2.Inv X pins σ (upd H' a<|.ext φ) s/\Ext H0 H el H'/\H' a=aT/\eD X.K=aG/\cc.1∈l5/\J9 X.K cc.1=aF C/\Rep X.K (upd el a<|.ext φ) (.exc cc.1 cc.2) (.ref a)/\rh s.heap a C/\(cc.2=aT->∀g,φ g->BC a g)
 go:∀{A:hO} {E:EQ} {Q:Unit->dy->Prop},(∀s',(∃H' el C φ,L2.Inv X pins σ (upd H' a<|.ext φ) s'/\Ext H0 H el H'/\H' a=aT/\eD X.K=aG/\cc.1∈l5/\J9 X.K cc.1=aF C/\Rep X.K (upd el a<|.ext φ) (.exc cc.1 cc.2) (.ref a)/\rh s'.heap a C/\(cc.2=aT->∀g,φ g->BC a g))->Q ⟨⟩ s')->wpAny (dq X.prog X.w) A (Dl (.ref a) aT) Q E s
section
variable{X:Cx}
theorem Le{L:TW}(W:X.stack=⋯::X.outer/\⋯.frame=aF ⋯.locals)(lf:Left X L σ H0 H cc ev s')
 (h:∀a s,ev=.ref a->UD X L σ H0 H cc a s->⇑X t Q E s):
 ⇑X (P6 ev ⋯) (λ_ s2=>⇑X (Dl ev aT) (λ_ s3=>⇑X t Q E s3) E s2) E s':=by
 show dj λkZ=>?_;let(H1,ri,s1,U,x1,a,C,l,od,rfl,(I,j,zg7,Y,Z,xc,J,x2),ap,as,aw,un,m,O,bg,(B,t',R,ax,a3)):=lf;obtain rfl:I=C:=(nq.inj zg7).symm;show kZ ?_;rw[W.1]at R;have a4:∀y,px B (⋯::X.outer) a (.ref I) (.ref t') y->s'.heap.UpToSlots y->ml od a y->∃l j C F,L2.Inv X L σ (upd l a<|.ext F) {s' with heap:=y}/\Ext H0 H j l/\l a=aT/\_/\_/\J9 X.K cc.1=aF C/\Rep X.K (upd j a<|.ext F) (.exc cc.1 cc.2) (.ref a)/\rh y a C/\(cc.2=aT->∀g,F g->BC a g):=λy f zkx dk=>by
  have obj:rh y a I:=by let(zji,x,_,_,_,e1,(e2,_),e3,_):=f.2.2.2;show(zji,x,e1,e2,e3)
  have bi:∀b,b∈m4 X.stack->∃o,s1.heap.get? b=aF o/\_/\∃sl,y.get? b=aF {o with slots:=sl}:=λb k=>by let(_,o,q,T):=U.stack.mem k;let(sl,z):=un.slot b o q (U.Dn b k) k ();let(b5,z'):=zkx b _ z T;show(o,q,T,b5,z')
  show(l,j,I,λg=>rh g a I/\ml od a g,U.UP (ch:=[]) as (λb o q n k _=>f.1 b o<|a3 b o (un.keep b o q n k ()) () k,λb o q n k _=>?_,λb o q n _=>?_,λb o q _=>?_,λb xs q=>?_,λb o u q=>?_,λb ps q=>?_) ?_ aw (λ_ z=>nomatch z),x1.trans x2,O,Y,Z,xc,?_,obj,λh g z=>z.2.2<|by erw[WC]at J;rw[h]at J;show J)
  .grind
  .rw[zC ((λb o q z=>by lia) b o q)];show un.free b o q n ()
  .by_cases k:b∈m4 X.stack
   .grind
   .let(p,z):=un.there b o q ()
    show(p,f.1 b p<|a3 b p z () k)
  .have z:=un.nG b xs q
   rw[zC (jk z O)];show z
  .have z:=un.nW b o u q
   rw[zC (jk z O)];show z
  .let(more,z):=un.nY b ps q
   show(more,by rw[zC (jk z O)];show z)
  .refine Lo (Jc m λb u n q=>f.1 b u<|ax b u q n) O (obj,dk) ?_ ?_
   .let(o,_,e,_):=obj;show(o,e)
   .rintro g1 g2 ⟨⟨o,x,e,r⟩,b7⟩ S
    show((o,x,S o e,r),b7.obj S)
  .refine((a,rfl,Y,Z,I,_,xc,zA,λ_ z=>z.1,?_))
   erw[WC]at J;cases hc:cc.2 with
   |none=>trivial
   |some i=>
    rw[hc]at J;let(d,b8,G):=J;show(d,λg z=>z.2.1 d b8,by rw[zC (λq=>by rw[q,x2.sub.free O]at G;lia)];show G)
 show OD (by rw[<-W.1];show U.ok.frames) W.2 R ap λh4 b9 M bb=>?_;show OE b9 bb λh5 N P ad=>h a _ rfl (a4 h5 N (M.trans P) ad,λ{A E Q} q=>Rc N ad λh6 bd be bf=>q _<|a4 h6 bd ((M.trans P).trans be) bf)
def HB(X:Cx)(hs:zn sQ)(I:Xn->CO Fl):Prop:=∀(b:TW) (h:St) (d H y z:Hp) (e:Xn) (a:cI) (s:dy) (g:Ctx) (f:Fl) (D:Ends),RS X.K y z d H h g->UD X b h d H e a s->I e g=aF f->Sat X.K y z D f->
 ⇑X (handleBy (.ref a) ⋯ hs) (SP X b D) X.xe s
end
def xp(f:CO D)(g:CO (Sk×zn D)):CO D:=λb=>(f b).bind λd=>(g b).bind λa=>match d with
 |.str x=>(ba a.2).map λl=>.bl (!l.any λy=>y==x)
 |_=>aT
section
variable{X:Cx}{st:en}{F:zn D->xz Res}
theorem Cy{B:sQ}{y:zn sQ}{e:eg}{F:CO Fl}(h:gg X.kb st F):gg X (.Try [st] (B::y) [] [] e) F:=by
 rintro a s i H D I ⟨J,O,d,g,b,f,Q,U⟩;show _u ?_;show fU (zg h a s i H D (I.gd _) (J,O,d,g,_,f,Q,U)) (λb j z=>?_) λ_ _ z=>z.elim;have z:=z.l4;cases b with
 |next=>show A7 z
 |ret v=>show z
 |brk=>show z
 |cont=>show z
end
open Classical in
section
variable{X:Cx}{L:zn Str}{a c:dE}{p pos:eg}{x:Str}
theorem vw{c:dE}{e:CO D}(B:PV X a e){I:CO (Sk×zn D)}(S:PQ X c I)(hm:nv .NotIn c=bB:=by with_unfolding_all rfl):gO X (.Compare a [.NotIn] [c] pos) (sB<|xp e I):=
 KL (wM Xt B S hm) λM H Q O=>by
  show dj λU=>?_;let(j,i,d,g,z,q):=O;let(E,W,Y):=zb z;let(x,o,z):=zb W;let((J,n),Z,z):=zb z;show U ?_;cases x with
  | str w=>
   let(l,s,rfl):=zq z;cases Y;show(j,i,_,g,o,λG C b h u=>(b,i,J,n,g.ext h,Z,λp K k m A f F r=>?_));have t:=wG r s;subst t;subst u;show(p,_,rfl,by
    cases J with
    |L=>show .inl f
    |T=>show .inr f,rfl,Jq l,?_)
   have:pK (.str w) (l.map V.str)=l.any λy=>y==w:=by erw[pK];rw[MR];rfl
   rw[this];show(_,rfl,q k m<|h.trans A)
  |_=>cases z
end
def rJ(e:dE):Str:=match e with|.Name x _=>x|_=>""
def pS(e:dE):zn Str:=match e with|.Tuple a _ _=>a.map rJ|e=>[rJ e]
def tj(N:zn Str)(fs:zn Nat):zn (Str×Nat):=fs.map λi=>(N.getD i "",i)
theorem Ys(N:zn Str)(fs:zn Nat):(tj N fs).map (·.2)=fs:=by erw[tj];rw[gj];show List.map_id fs
def Lh(e:dE):Bool:=match e with|.Name _ _=>aG|_=>bB
theorem oG(h:Lh e=aG):∃p,e=.Name (rJ e) p:=by cases e<;>first|show(_,rfl)|show absurd h iu
def UV(e:e9)(N L:zn Str)(is:zn Nat)(z:zn dE):Bool:=match is with
 |[i,j]=>(match z with|[a,b]=>Lh a&&(kD e N L i (rJ a)&&(Lh b&&kD e N L j (rJ b)))|_=>bB)
 |[i,j,l]=>(match z with|[a,b,c]=>Lh a&&(kD e N L i (rJ a)&&(Lh b&&(kD e N L j (rJ b)&&(Lh c&&kD e N L l (rJ c)))))|_=>bB)
 |_=>bB
def Dq(z:e9)(N L:zn Str)(e:dE)(T:Tg):Bool:=match T with
 |.nm i=>Lh e&&kD z N L i (rJ e)
 |.tp is=>(match e with|.Tuple a _ _=>UV z N L is a|_=>bB)
set_option tactic.hygienic true in
theorem HH(h:SX X sc N L k)(c:Dq sc N L e T=aG):PG X e (nA X.K T):=by
 cases T with
 |nm i=>
  have c:=Bool.and_eq_true_iff.mp c;let(p,q):=oG c.1;rw[q];show h.tF _ c.2
 | tp is=>
  erw[Dq]at c;dsimp only at c;split at c
  .next g j pos=>
   erw[UV]at c;split at c
   .split at c
    .simp?[fS]at c
     let(y,z,a,b):=c;let(p,q):=oG y;let(J,I):=oG a;rw[q,I];show h.v_<|Jz (h.tF _ z)<|Jz (h.tF _ b) ue
    .cases c
   .split at c
    .simp?[fS]at c
     let(y,z,a,b,d,f):=c;let(p,q):=oG y;let(J,I):=oG a;let(l,O):=oG d;rw[q,I,O];show h.v_<|Jz (h.tF _ z)<|Jz (h.tF _ b)<|Jz (h.tF _ f) ue
    .cases c
   .cases c
  .cases c
def cB(z scope:e9)(N:zn Str)(e:dE)(T:Tg)(n:Nat)(fs:zn Nat):Bool:=
 gQ z scope N (tj N fs)&&(SO (pS e) scope (tj N fs)&&(decide (∀i∈T.idx,i<(pS e).length)&&(decide ((pS e).length=n)&&Dq (vG scope z) (pS e++(tj N fs).map (·.1)) (pS e) e T)))
abbrev rD(X:Cx)(scope:e9)(N:zn Str)(tg:dE)(fs:zn Nat):=jR X scope (pS tg++(tj N fs).map (·.1))
abbrev SA(X:Cx)(sc scope:e9)(N:zn Str)(tg:dE)(fs:zn Nat)(k:Nat)(fp:zn cI)(s2:dy)(H2:Hp):Prop:=SX (rD X scope N tg fs fp s2 H2) (vG scope sc) (pS tg++(tj N fs).map (·.1)) (pS tg) k
section
theorem cA(h:SX X sc N L k)(c:cB sc scope N tg T n fs=aG):n7 X scope (tj N fs)/\(∀i∈T.idx,i<(pS tg).length)/\(pS tg).length=n/\(∀fp B e,SA X sc scope N tg fs k fp B e)/\∀fp B e,PG (rD X scope N tg fs fp B e) tg (nA X.K T):=by erw[cB]at c;simp?[fS,decide_eq_true_eq]at c;show dj λy=>?_;let(a,b,z,I,d):=c;show y ?_;have s fp B e:SA X sc scope N tg fs k fp B e:=h.comp b;show(h.Y? a,z,I,s,λfp B e=>HH (s fp B e) d)
theorem jQ(h:SX X sc N L k)(H:n9 X tg iter src)(B:∀fp z e,SA X sc scope N tg fs k fp z e->PV (rD X scope N tg fs fp z e) elt f)(c:cB sc scope N tg T n fs=aG:=by decide +kernel)(hs:∀x,m3 iter ⋯ x=pure x:=by intro _;rfl):
 PO X (.ListComp elt [(tg,iter,[],0)] scope pos) (zL src T n fs jb f):=by
 let(a,b,d,s,q):=cA h c;have r:=ID (pos:=pos) h.calm a b H q (λfp z e=>B fp z e<|s fp z e) hs;rw[d,Ys]at r;show r
theorem bK(h:SX X sc N L k)(H:n9 X tg iter src)(y:∀fp z e,SA X sc scope N tg fs k fp z e->gO (rD X scope N tg fs fp z e) C9 kk)(B:∀fp z e,SA X sc scope N tg fs k fp z e->PV (rD X scope N tg fs fp z e) elt f)(c:cB sc scope N tg T n fs=aG:=by decide +kernel)(hs:∀x,m3 iter ⋯ x=pure x:=by intro _;rfl):
 PO X (.ListComp elt [(tg,iter,[C9],0)] scope pos) (zL src T n fs kk f):=by
 let(a,b,d,s,q):=cA h c;have r:=zkI (pos:=pos) h.calm a b H q (λfp z e=>y fp z e<|s fp z e) (λfp z e=>B fp z e<|s fp z e) hs;rw[d,Ys]at r;show r
theorem yk(h:SX X sc N L k)(H:n9 X tg iter src)(B:∀fp z e,SA X sc scope N tg fs k fp z e->PV (rD X scope N tg fs fp z e) elt f)(ct:kD sc N L i y=aG:=by decide +kernel)(c:cB sc scope N tg T n fs=aG:=by decide +kernel)(hs:∀x,m3 iter ⋯ x=pure x:=by intro _;rfl):
 PS X (.Assign [.Name y py] (.ListComp elt [(tg,iter,[],0)] scope cpos) spos) (aD (tO X.K<|zL src T n fs jb f)<|yK i):=by
 let(a,b,d,s,q):=cA h c;have r:=psc (cpos:=cpos) (spos:=spos) (py:=py) i h ct h.calm a b H q (λfp z e=>B fp z e<|s fp z e) hs;rw[d,Ys]at r;show r
theorem CH(h:SX X sc N L k)(I:n9 X tg iter src)(z:∀fp B e,SA X sc scope N tg fs k fp B e->gO (rD X scope N tg fs fp B e) C9 kk)(H:∀fp B e,SA X sc scope N tg fs k fp B e->PV (rD X scope N tg fs fp B e) elt f)(ct:kD sc N L i y=aG:=by decide +kernel)(c:cB sc scope N tg T n fs=aG:=by decide +kernel)(hs:∀x,m3 iter ⋯ x=pure x:=by intro _;rfl):
 PS X (.Assign [.Name y py] (.ListComp elt [(tg,iter,[C9],0)] scope cpos) spos) (aD (tO X.K<|zL src T n fs kk f)<|yK i):=by
 let(a,b,d,s,q):=cA h c;have r:=Ti (cpos:=cpos) (spos:=spos) (py:=py) i h ct h.calm a b I q (λfp B e=>z fp B e<|s fp B e) (λfp B e=>H fp B e<|s fp B e) hs;rw[d,Ys]at r;show r
theorem NJ(h:SX X sc N L k)(H:n9 X tg iter src)(B:∀fp z e,SA X sc scope N tg fs k fp z e->PO (rD X scope N tg fs fp z e) elt fo)(ct:kD sc N L i y=aG:=by decide +kernel)(c:cB sc scope N tg T n fs=aG:=by decide +kernel)(hs:∀x,m3 iter ⋯ x=pure x:=by intro _;rfl):
 gg X (.Assign [.Name y py] (.ListComp elt [(tg,iter,[],0)] scope cpos) spos) (Cm i<|iX src T n fs fo):=by
 let(a,b,d,s,q):=cA h c;have r:=Cz (cpos:=cpos) (spos:=spos) (py:=py) i h ct h.calm a b H q (λfp z e=>B fp z e<|s fp z e) hs;simp?[d,Ys]at r;show r
theorem nQ(h:SX X sc N L k)(c:kQ sc N i x=aG:=by decide +kernel):PV X (.Name x pos) (zf i):=KG i<|h.var c
theorem L'(h:SX X sc N L k)(c:kQ sc N i x=aG:=by decide +kernel):PQ X (.Name x pos) (zh i):=NN i<|h.var c
theorem UW(h:SX X sc N L k)(c:Dq sc N L e T=aG:=by decide +kernel):PG X e (nA X.K T):=HH h c
theorem Th(h:SX X sc N L k)(z:PV X e f)(c:kD sc N L i x=aG:=by decide +kernel)(hs:ni e (aF (.Name x py)) pos.line ⋯=pure bB:=by rfl):gg X (.Assign [.Name x py] e pos) (jF i f):=QM i<|h.set i c z hs
theorem NK(h:SX X sc N L k)(z:PO X e fo)(c:kD sc N L i x=aG:=by decide +kernel)(hs:ni e (aF (.Name x py)) pos.line ⋯=pure bB:=by rfl):gg X (.Assign [.Name x py] e pos) (yG i fo):=XZ i<|h.set i c z hs
theorem kO{e:zn en}(y:X.xe=λ_ _=>False)(h:SX X sc N L k)(B:fh X tg iter src)(z:VT X e F)(c:Dq sc N L tg T=aG:=by decide +kernel)(hs:∀x,m3 iter ⋯ x=pure x:=by intro _;rfl):gg X (.For tg iter e [] pos) (XU src T F):=Iw (lJ y) h.calm B (HH h c) z hs
theorem zw(h:SX X sc N L k:=by assumption)(c:kQ sc N i x=aG:=by decide +kernel):PV X (.Name x pos) (zf i):=nQ h c
theorem jI(h:SX X sc N L k:=by assumption)(c:kQ sc N i x=aG:=by decide +kernel):PQ X (.Name x pos) (zh i):=L' h c
theorem zJ(h:SX X sc N L k:=by assumption)(c:kQ sc N i x=aG:=by decide +kernel):PV X (.Subscript (.Name x p1) (.Constant (.int j) u p2) p3) (cR (zh i)<|sI j):=jM (L' h c) zy
theorem eM{pos:eg}(h:SX X sc N L k:=by assumption)(c:kQ sc N i x=aG:=by decide +kernel):nu X [.Name x pos] 1 (zc (zf i) zH):=za (nQ h c) zu
theorem f9{pos e:eg}(h:SX X sc N L k:=by assumption)(c:kQ sc N i x=aG:=by decide +kernel)(c2:kQ sc N i2 x2=aG:=by decide +kernel):nu X [.Name x pos,.Name x2 e] 2 (zc (zf i)<|zc (zf i2) zH):=za (nQ h c)<|eM h c2
theorem tv{pos e y:eg}(h:SX X sc N L k:=by assumption)(c:kQ sc N i x=aG:=by decide +kernel)(c2:kQ sc N i2 x2=aG:=by decide +kernel)(z:kQ sc N zh1 x3=aG:=by decide +kernel):nu X [.Name x pos,.Name x2 e,.Name x3 y] 3 (zc (zf i)<|zc (zf i2)<|zc (zf zh1) zH):=za (nQ h c)<|f9 h c2 z
theorem jm(z:PV X e f)(h:SX X sc N L k:=by assumption)(c:kD sc N L i x=aG:=by decide +kernel)(hs:ni e (aF (.Name x py)) pos.line ⋯=pure bB:=by rfl):gg X (.Assign [.Name x py] e pos) (jF i f):=Th h z c hs
theorem yO(z:PO X e fo)(h:SX X sc N L k:=by assumption)(c:kD sc N L i x=aG:=by decide +kernel)(hs:ni e (aF (.Name x py)) pos.line ⋯=pure bB:=by rfl):gg X (.Assign [.Name x py] e pos) (yG i fo):=NK h z c hs
theorem XC(I:⇑d6 j x n F)(h:SX X sc N L k)(B:nu X (e::es) n gl)(y:j<=k:=by decide)(c:xP sc x=aG:=by decide +kernel)
 (H:dU (e::es) ⋯=(bB,dv e ⋯)::dU es ⋯:=by rfl) (z:(gE pos<|starEach es ⋯).any (·.1)=bB:=by rfl):PV X (.Call (.Name x p) (e::es) [] pos) (zD F gl):=NA I y h c B H z
theorem Tj(I:⇑d6 j x n F)(h:SX X sc N L k)(B:nu X (e::es) n gl)(y:j<=k:=by decide)(c:xP sc x=aG:=by decide +kernel)
 (H:dU (e::es) ⋯=(bB,dv e ⋯)::dU es ⋯:=by rfl) (z:(gE pos<|starEach es ⋯).any (·.1)=bB:=by rfl):PO X (.Call (.Name x p) (e::es) [] pos) (jx F gl):=NP I y h c B H z
theorem z6(I:⇑d6 j x n F)(B:nu X (e::es) n gl)(h:SX X sc N L k:=by assumption)(y:j<=k:=by decide)(c:xP sc x=aG:=by decide +kernel)
 (H:dU (e::es) ⋯=(bB,dv e ⋯)::dU es ⋯:=by rfl) (z:(gE pos<|starEach es ⋯).any (·.1)=bB:=by rfl):PV X (.Call (.Name x p) (e::es) [] pos) (zD F gl):=NA I y h c B H z
theorem xf(I:⇑d6 j x n F)(B:nu X (e::es) n gl)(h:SX X sc N L k:=by assumption)(y:j<=k:=by decide)(c:xP sc x=aG:=by decide +kernel)
 (H:dU (e::es) ⋯=(bB,dv e ⋯)::dU es ⋯:=by rfl) (z:(gE pos<|starEach es ⋯).any (·.1)=bB:=by rfl):PO X (.Call (.Name x p) (e::es) [] pos) (jx F gl):=NP I y h c B H z
end
theorem P'{P:eA}{w:eu}{K:cL}{e:DZ}{base:dV}{Q:cL->(Str->xz da)->Prop}{x:Str}{st:en}{N ps:zn Str}{k:Nat}{F:CO Fl}(E:Q K e)(A:∀{K:cL} {e:DZ},Q K e->d9 K e x st ps)(B:wB N ps st=aG)
 (y:∀X,Q X.K X.mg->SX X (zK st) N N k->X.xe=(λ_ _=>False)->VT X (jn st) F):d6 P w K e base (k+1) x ps.length (ju N.length F):=
 Lw (A E) B λX z f I d b a J=>by subst z f I d b;show y X E a J
def De(st:en):zn Str:=((zK st).names.filter λy=>y.2 ==.local || y.2 ==.cell).map (·.1)
theorem qF{P:eA}{w:eu}{K:cL}{e:DZ}{base:dV}{Q:cL->(Str->xz da)->Prop}{x:Str}{st:en}{ps:zn Str}{k n:Nat}{F:CO Fl}(E:Q K e)(A:∀{K:cL} {e:DZ},Q K e->d9 K e x st ps)
 (y:∀X,Q X.K X.mg->SX X (zK st) (De st) (De st) k->X.xe=(λ_ _=>False)->VT X (jn st) F) (z:wB (De st) ps st=aG:=by decide +kernel) (B:(De st).length=n:=by decide +kernel):d6 P w K e base (k+1) x ps.length (ju n F):=B ▸ P' (N:=De st) E A z y
def qV(i:Int):Str:=hG<|toString i
def qX(f:CO D):CO D:=λa=>((f a).bind i1).bind λi=>if inR i=aG then aF (.str<|qV i)else aT
def fi(f g:CO D):CO D:=λa=>(f a).bind λd=>(g a).bind λe=>match d,e with
 |.str x,.str y=>aF (.bl<|Txt.startswith x y)
 |_,_=>aT
def Pa(d:D):xz Str:=match d with
 |.int i=>if inR i=aG then aF (qV i)else aT
 |.str x=>if zT x=aG then aF x else aT
 |_=>aT
def nJ(f:CO D):CO D:=λa=>((f a).bind Pa).map .str
def Pn(d:D):xz Str:=match d with
 |.str x=>if zT x=aG then aF x else aT
 |_=>aT
def fB(fs:zn (CO D))(y:Str):CO D:=λa=>match fs with
 |[]=>aF (.str y)
 |f::r=>((f a).bind Pn).bind λx=>fB r (y++x) a
def QI(fs:zn (CO D)):CO D:=λa=>if fs.length<=10 then fB fs o4 a else aT
def fK(n:Nat)(lo e st:xz Int):zn Nat:=sliceRange (u4 lo e st n).1 (u4 lo e st n).2.1 (u4 lo e st n).2.2
def QP{e:Type}(xs:zn e)(lo z st:xz Int):zn e:=(fK xs.length lo z st).filterMap λi=>xs[i]?
def Rr(f:CO (Sk×zn D))(l h s:CO (xz Int)):CO (zn D):=λb=>(f b).bind λa=>(l b).bind λlo=>(h b).bind λd=>(s b).bind λst=>match a.1 with
 |.L=>if st=aF 0 then aT else if (QP a.2 lo d st).length<=lim then aF (QP a.2 lo d st)else aT
 |.T=>aT
def yh(f g:CO D):CO (zn D):=λa=>(f a).bind λd=>(g a).bind λe=>match d,e with
 |.str x,.str y=>if x.length<=20000/\(y.length==0)=bB then aF ((wy x y).map D.str)else aT
 |_,_=>aT
def Wb(f:CO D):CO D:=λa=>(f a).bind λd=>match d with
 |.str x=>if x.length<=640 then (M1 x).map D.int else aT
 |_=>aT
def Cn(f g:CO D):CO D:=λa=>(f a).bind λd=>(g a).bind λe=>match d,e with
 |.str x,.str y=>aF (.bl<|!(DM y x 0 y.length 1).isEmpty)
 |_,_=>aT
end DL
namespace L2
open PySem PySem.Spec PyProof.Rows
theorem zkU:B8 X "str.startswith" (λx vs H Q=>∃z y,x=.str z/\vs=[.str y]/\Q (.bl (Txt.startswith z y)) H):=by intro a s d H x vs v b Q I J O h;let(z,y,rfl,rfl,q):=h;let(t,rfl):=J;let(u,rfl,U,rfl):=yc O;show PySem.SC.startswith (.bl _,H,I,rfl,q)
theorem Vi:∀l,d8 ((l.map (·.1)).map V.str) (strValues l)
 |[]=>.nil
 |(z,t)::l=>.cons (t,rfl) (Vi l)
theorem En:B8 X "str.split" (λx vs H Q=>∃z y,x=.str z/\vs=[.str y]/\(y.length==0)=bB/\z.length<=20000/\∀l,H l=aT->Q (.ref l) (upd H l (.lst ((wy z y).map V.str)))):=by
 intro a s g H x vs v m Q I Y Z h;let(z,y,rfl,rfl,U,j,q):=h;let(t,rfl):=Y;let(u,rfl,J,rfl):=yc Z;have big:30000<=ej:=by decide
 have O:∀l k,l.map (·.1)=_->l.length<=ej->EP X a g Q _ {s with heap:=s.heap.push {cls:=.type "list",data:=.seq (strValues l).toArray},toks:=k}:=λl k e f=>by have W:=Vi l;rw[e]at W;show(.ref _,_,I.FO W (by rw[<-e];simpa using f),rfl,q _ (I.dS.fresh (ec _)))
 cases c1:(_ || _)with
 |true=>
  have b:wy z y=[z]:=DJ c1;show o5 _t (B0 _ _ _) _q (_n _ _) (meets_str_split_cannot_occur z y t J c1)<|O [(z,t)] s.toks (by rw[b];rfl) (by simp;lia)
 | false=>
  cases c2:(DM z y 0 z.length<|z.length+1).isEmpty with
  |true=>
   have b:wy z y=[z]:=(DY<|by rw[c1];simp).trans (DJ c2);show o5 _t (B0 _ _ _) _q (_n _ _) (meets_str_split_not_found z y t J c1 U c2)<|O [(z,t)] s.toks (by rw[b];rfl) (by simp;lia)
  | false=>
   have d:(Builtin.Str.partsBetween z (DM z y 0 z.length<|z.length+1) y.length).length<=ej:=by have i:=StrLaws.occ_length_le z y 0 z.length<|z.length+1;rw[length_partsBetween];lia
   show o5 _t (B0 _ _ _) _q (_n _ _) (meets_str_split_sep z y t J c1 U c2 () d) ?_;rw[strsFrom_eq];show O _ _ ((numbered_texts _ _).trans ((DY<|by rw[c1];simp).trans (DY<|by rw[c2];simp)).symm) (by
    have:=congrArg z8<|numbered_texts s.toks<|Builtin.Str.partsBetween z (DM z y 0 z.length<|z.length+1) y.length;rw[gr]at this;rw[this];show d)
end L2
namespace DL
open PySem PySem.Spec PyProof.Rows L2
theorem cF(h:inR i=aG):i.natAbs.log2<1920:=by
 erw[inR]at h;by_cases z:i.natAbs=0
 .rw[z];decide
 .exact(Nat.log2_lt z).mpr (i9 (of_decide_eq_true h)<|Nat.pow_le_pow_right () ())
section
variable{X:Cx}{sc:e9}{N L:zn Str}{k:Nat}{a b e o:dE}{f g:CO D}{p pos:eg}
theorem qS(h:SX X sc N L k)(c:xP sc "str" = aG)(z:X.mg "str" = aT)(I:PV X e f)(hs:dU [e] ⋯=[(bB,dv e ⋯)]:=by rfl):PV X (.Call (.Name "str" p) [e] [] pos) (qX f):=
 j3 (wN dA (h.gl c).1 z PyProof.Rows.boot_str (zS I jH hs) () () hs rfl) λo H Q J=>by
  let(l,n,d,m,y,q):=J;let(i,b,y):=zb y;let(O,U,b):=zb b;by_cases g:inR i=aG
  .rw[DJ g]at y;cases y
   show(l,n,O,m,U,λv j a x r=>?_);rw[jT b]at r;show(i,by rw[jL r],cF g,q _ j a x rfl)
  lia
theorem zkM{B cpos:eg}(J:PV X o f)(S:PV X e g)(O:pF o "startswith" ⋯ (dv o ⋯)=dv o ⋯:=by rfl)
 (U:((gE cpos<|starEach [e] ⋯).all (λx=> !x.1)&&(pG cpos<|keywordEach [] ⋯).all (λx=>x.1.isSome)&&decide ([e].length+([]:zn rn).length+(if ([]:zn rn).isEmpty then 0 else 1)<30))=aG:=by rfl)
 (W:(B.endLine==cpos.line)=aG:=by rfl) (hs:dU [e] ⋯=[(bB,dv e ⋯)]:=by rfl):PV X (.Call (.Attribute o "startswith" B) [e] [] cpos) (fi f g):=
 j3 (CZ _b PySem.F.slot_str_startswith PySem.F.type_str_startswith zkU J (zS S jH hs) O U W hs rfl) λA H Q Y=>by
  show dj λZ=>?_;let(i,h,d,b,I,q):=Y;let(l,n,I):=zb I;let(m,p,I):=zb I;show Z ?_;cases l with
  | str z=>
   cases m with
   |str y=>
    cases I;show(i,h,_,b,n,λv u a x r=>?_);rw[r];show(rfl,a,h,_,b.ext x,p,λw j k t s=>?_);rw[s];show(z,y,rfl,rfl,q _ j k (x.trans t) rfl)
   |_=>cases I
  |_=>cases I
theorem Vr(Y:j = -1)(S:PV X a f):PV X (.FormattedValue a j aT pos) (nJ f):=by
 subst Y;intro m s G H Q I J;show dj λZ=>?_;let(A,F,d,E,C,q):=J;let(y,g,rfl):=zq C;let(O,B,g):=zb g;show Z ?_;show FormattedValue_plain<|dQ (S m s G H (λv w=>∃h,_/\_) I (A,F,O,E,B,λv w h x r=>(h,x,r))) λv K J=>?_;let(x,n,U,p,k,u,W):=J;cases O with
 | int i=>
  have g:(if inR i=aG then aF (qV i)else aT)=aF y:=g;by_cases l:inR i=aG
  .rw[DJ l]at g;cases g
   rw[W]at p;let(t,rfl):=p;show zhy (cF l) (.str _,n,(U.tok _).tok _,(_,rfl),q _ n k u rfl)
  lia
 | str z=>
  have g:(if zT z=aG then aF z else aT)=aF y:=g;by_cases l:zT z=aG
  .rw[DJ l]at g;cases g
   rw[W]at p;let(t,rfl):=p;show formatField_str (λL M=>(.str _,n,(U.kept λb o e=>e),(_,rfl),q _ n k u rfl))<|Zm l
  lia
 |_=>cases g
theorem LY(x y:Str):(x++y).length=x.length+y.length:=by
 change(x++y).cps.size=x.cps.size+y.cps.size;simpa using (congrArg z8 (show(x++y).cps.toList=x.cps.toList++y.cps.toList from by
  change(x.cps++y.cps).toList=_;simp))
def PJ(X:Cx)(z:zn dE)(fs:zn (CO D)):Prop:=∀(y:Str) (m:Nat) a s e H Q,y.length<=1000*m->m+fs.length<=10->Inv X a e H s->(∃g h d,RC X.K g H e h/\fB fs y h=aF d/\∀v f b,Ext g H b f->Rep X.K b d v->Q v f)->
 ⇑X (joinParts y<|evalEach z ⋯) (EP X a e Q) X.xe s
theorem bM:PJ X [] []:=λy m a s h H Q z f I J=>by let(b,g,d,e,O,q):=J;cases O;show joinParts_nilE<|joinParts_nil (.str y,H,I.tok _,(_,rfl),q _ H b (Ext.refl e.sub) rfl)<|fZ z<|fZ (_C 1000<|by assumption) ()
theorem xZ(S:PV X e f)(h2:PJ X es fs):PJ X (e::es) (f::fs):=λU m b s o H Q P E I O=>by
 show dj λZ=>?_;let(p,n,d,k,J,q):=O;have J:=J;let(y,g,J):=zb J;let(W,B,g):=zb g;have C:W=.str y/\zT y=aG:=by
  cases W with
  |str z=>
   have g:(if zT z=aG then aF z else aT)=aF y:=g;lia
  |_=>cases g
 let(rfl,F):=C;show Z ?_;have N:=Zn F;have A:m+1+fs.length<=10:=by simp at E;lia
 have Y:(U++y).length<=1000*(m+1):=by rw[LY];lia
 show joinParts_consE<|T3<|dQ (S b s o H (λv h=>∃a,_/\_) I (p,n,_,k,B,λv h a x r=>(a,x,r))) λv L O=>?_;let(x,u,w,j,i,l,K):=O;rw[K]at j;let(t,rfl):=j;show(fZ Y<|fZ (_C 1000<|show m+1<=10 by lia) (),h2 (U++y) (m+1) b L o u Q Y A w (i,n,d,k.ext l,J,λv h a M G=>q v h a (l.trans M) G))
theorem KH(h:PJ X (B::e2::es) fs):PV X (.JoinedStr (B::e2::es) pos) (QI fs):=by
 intro a s g H Q I z;let(b,f,d,e,y,q):=z;erw[QI]at y;by_cases J:fs.length<=10
 .rw[DJ J]at y
  show JoinedStr_many<|h o4 0 a s g H Q (ec _) () I (b,f,d,e,y,q)
 lia
theorem Jx{B cpos:eg}(U:PV X o f)(S:PV X e g)(W:pF o "split" ⋯ (dv o ⋯)=dv o ⋯:=by rfl)
 (Y:((gE cpos<|starEach [e] ⋯).all (λx=> !x.1)&&(pG cpos<|keywordEach [] ⋯).all (λx=>x.1.isSome)&&decide ([e].length+([]:zn rn).length+(if ([]:zn rn).isEmpty then 0 else 1)<30))=aG:=by rfl)
 (Z:(B.endLine==cpos.line)=aG:=by rfl) (hs:dU [e] ⋯=[(bB,dv e ⋯)]:=by rfl):PO X (.Call (.Attribute o "split" B) [e] [] cpos) (yh f g):=
 j3 (CZ _b PySem.F.slot_str_split PySem.F.type_str_split En U (zS S jH hs) W Y Z hs rfl) λG H Q t=>by
  show dj λu=>?_;let(i,h,n,d,I,q):=t;let(k,p,I):=zb I;let(m,s,I):=zb I;show u ?_;cases k with
  | str z=>
   cases m with
   | str y=>
    have I:(if _/\_ then aF _ else aT)=aF n:=I;by_cases a:z.length<=20000/\(y.length==0)=bB
    .rw[DJ a]at I;cases I
     show(i,h,_,d,p,λv A b x r=>?_);rw[r];show(rfl,b,h,_,d.ext x,s,λE C j J w=>?_);rw[w];show(z,y,rfl,rfl,a.2,a.1,λl O=>q l _ _ j ((x.trans J).trans (Ext.hide J.sub O _)) (Ox (x.trans J).s1 O) (jw J.sub O) zA<|wI _)
    .rw[DY a]at I;cases I
   |_=>cases I
  |_=>cases I
theorem Bf:J6 X (.type "int") (λxs H Q=>∃z n,xs=[.str z]/\M1 z=aF n/\z.length<=640/\Q (.int n) H):=by intro a s e H xs d Q I r h;let(z,n,rfl,b,y,q):=h;let(u,rfl,t,rfl):=yc r;show PySem.W.KIN.call_text b y (.int n,H,I.tok _,(_,rfl),q)
theorem Wg(h:SX X sc N L k)(c:xP sc "int" = aG)(z:X.mg "int" = aT)(O:PV X e f)(hs:dU [e] ⋯=[(bB,dv e ⋯)]:=by rfl):PV X (.Call (.Name "int" p) [e] [] pos) (Wb f):=
 j3 (wN Bf (h.gl c).1 z _i (zS O jH hs) () () hs rfl) λo H Q U=>by
  let(g,m,d,l,y,q):=U;let(J,i,y):=zb y;show(g,m,J,l,i,λv b a ext r=>?_);cases J with
  | str w=>
   have y:(if w.length<=640 then (M1 w).map D.int else aT)=aF d:=y;by_cases I:w.length<=640
   .rw[DJ I]at y
    let(n,j,rfl):=zq y;show(w,n,by rw[r],j,I,q _ b a ext rfl)
   .rw[DY I]at y;cases y
  |_=>cases y
theorem Ip(B:PV X a f)(S:PV X b g)(hm:nv .In b=bB:=by with_unfolding_all rfl):PV X (.Compare a [.In] [b] pos) (Cn f g):=
 j3 (Wp zld B S hm) λp H Q J=>by
  let(j,i,d,h,I,q):=J;let(O,l,I):=zb I;let(U,W,I):=zb I;cases O with
  | str z=>
   cases U with
   |str y=>
    cases I;show(j,i,_,h,l,λv n e x r=>(e,i,_,h.ext x,W,λo k Y Z m=>(z,y,r,m,q _ k Y (x.trans Z) rfl)))
   |_=>cases I
  |_=>cases I
end
theorem eE(h:d8 xs us):∀l:zn Nat,d8 (l.filterMap λi=>xs[i]?) (l.filterMap λi=>us[i]?)
 |[]=>.nil
 | i::l=>by
  by_cases a:i<xs.length
  .let(u,e,r):=h.get (eW a)
   rw[DN (eW a),DN e];show .cons r<|eE h l
  .have y:¬i<us.length:=by rw[<-h.length];show a
   rw[I8 (tN ()),I8 (tN ())];show eE h l
theorem fE{K:cL}{H:Hp}{z:zn D}{xs:zn V}(h:di K H z xs):∀l:zn Nat,di K H (l.filterMap λi=>z[i]?) (l.filterMap λi=>xs[i]?)
 |[]=>di.nil
 | i::l=>by
  by_cases a:i<z.length
  .let(u,e,r):=h.get (eW a)
   rw[DN (eW a),DN e];show di.cons r<|fE h l
  .have y:¬i<xs.length:=by rw[h.length];show a
   rw[I8 (tN ()),I8 (tN ())];show fE h l
def zaR(K:cL)(te:TE)(J B z:TO):TE:=λb H Q=>te b H λx e=>J b e λl f=>B b f λu I=>z b I λk y=>k≠aF 0/\∃a d,x=.ref a/\eJ K y a d/\(QP d l u k).length<=ej/\∀p,y p=aT->Q (.ref p) (upd y p<|.lst<|QP d l u k)
section
variable{X:Cx}{a e:dE}{p2 pos:eg}
theorem zla{lo B:xz dE}{st:dE}{te:TE}{S L J:TO}(he:PE X e te)(Z:L2.PO X lo S)(hu:L2.PO X B L)(hk:L2.PO X (aF st) J):PE X (.Subscript e (.Slice lo B (aF st) p2) pos) (zaR X.K te S L J):=by
 intro a s d H Q I h;show Oy (dQ (he a s d H _ I h) λv s1 w=>?_);let(x,f,k,r1,P):=w;show wpAny_Slice (dQ (Z a s1 d f _ k P) λzlk s2 (l,g,m,M,R)=>dQ (hu a s2 d g _ m R) λzll s3 (u,i,n,N,T)=>dQ (hk a s3 d i _ n T) λzlj O (U,j,o,G,q4)=>?_);show dj λy=>?_;let(F,b,xs,rfl,E,p,q):=q4;show y ?_;cases r1;have z:Inv X a d j {O with heap:=O.heap.push {cls:=.type "slice",data:=.fields #[zlk,zll,zlj]}}:=o.kept λb ob q=>eo _ q;show dj λy=>?_;let(W,r,Y,C):=z.list E;show y ?_;have A:=r.length;show tail_any Y.isList.typeIs _s.lookup ?_ (by rfl);show zlu Y.isList (Heap.IsSliceOf.new ..) M N G F ?_ (by rw[gN];lia);have t:RF W.toArray l u U=(QP W l u U).toArray:=by erw[RF,QP,fK];simp
 rw[t];show(.ref _,_,z.FO (by
  erw[QP];rw[A];show eE r _) p,rfl,q _<|z.dS.fresh<|ec _)
theorem GB{lo hi:xz dE}{st:dE}{S:CO (Sk×zn D)}{B J fs:CO (xz Int)}(ha:PQ X a S)(Y:L2.PO X lo (tB X.K B))(Z:L2.PO X hi (tB X.K J))(hk:L2.PO X (aF st) (tB X.K fs)):PO X (.Subscript a (.Slice lo hi (aF st) p2) pos) (Rr S B J fs):=
 j3 (zla ha Y Z hk) λσ H Q E=>by
  show dj λF=>?_;let(n,f,ds,d,y,q):=E;let((G,h),s,y):=zb y;let(l,t,y):=zb y;let(u,w,y):=zb y;let(c,A,y):=zb y;show F ?_;cases G with
  |T=>cases y
  | L=>
   have y:=y;by_cases i:c=aF 0
   .rw[DJ i]at y;cases y
   rw[DY i]at y;by_cases j:(QP h l u c).length<=lim
   .rw[DJ j]at y;cases y
    show(n,f,.L,h,d,s,λb m N g x C h2 r=>(g,f,l,d.ext x,t,λP o z=>(o,f,u,(d.ext x).ext z,w,λR p e=>(p,f,c,((d.ext x).ext z).ext e,A,λH4 O I=>?_))));have U:=x.trans<|z.trans<|e.trans I;have W:di X.K O (QP h l u c) (QP m l u c):=by erw[QP];rw[r.length];show fE (r.mono (z.trans<|e.trans I).s0) _
    show(i,b,m,rfl,(z.trans<|e.trans I).s1.seq C,fZ (by rw[W.length];show j) (),λM k=>q M _ _ O (U.trans<|Ext.hide I.sub k _) (xh U.s1 k) (jw I.sub k) zA W)
   .rw[DY j]at y;cases y
end
theorem zag{K:cL}{e:DZ}{h:dV}{x z:Str}{t:mr}(y:K.In h)(G:h.Ns gF e)(a:o6 K gF x=aF (aF (.str z t))):GL K e x (.str z):=
 (_,.str z,oV y G a,(t,rfl),λ_=>(rfl))
abbrev ZF:=zn D->xz (D×D)
def MI(f1:CO D)(tA tB tC:CO Bool)(e z B:zn D->xz Res):ZF:=λf=>match f with
 |[d,l]=>(f1 [.no,.val l,.no]).bind λy=>(tA [.no,.val l,.val y]).bind λa=>if a=aG then aT else
  (if Fn d=aG then tB [.no,.val l,.val y]else aF bB).bind λb=>if b=aG then aT else
  (tC [.no,.val l,.val y]).bind λc=>if c=aG then (e [d,y]).map λr=>(Ky r,d)else (z [d,y]).bind λr=>(B [Ky r]).map λq=>(Ky q,Ky r)
 |_=>aT
abbrev ZT:=Ctx->D->xz (Bool×D)
def Dz(e:ZF)(z B:CO D):ZT:=λa d=>(z a).bind λl=>(e [d,l]).bind λo=>(B a).bind λr=>((kA o.1 r).bind pe).map λb=>(b,o.2)
def sG(e:zn Str)(f:CO D):CO D:=λa=>(f a).bind λd=>match d with
 |.str x=>aF (.bl<|!decide (x∈e))
 |_=>aT
def UY(e:zn (Str×Int))(f:CO D):CO D:=λa=>(f a).bind λd=>match d with
 |.str x=>(e.lookup x).map D.int
 |_=>aT
theorem Yr(v:V):(kT v).lookup ("row" : Str)=aF v:=by erw[kT];rw[ZZ,DJ rfl]
theorem WZ(v:V):(kT v).lookup ("tell" : Str)=aT:=by rfl
structure ug(K:cL)(C:cI):Prop where
 cls:oF K C
 nr:pD K C "row"
def WI(H:Hp)(p:cI):Hp:=λb=>if b=p then aT else H b
theorem X3:WI H p p=aT:=DJ rfl
theorem JH(h:b≠p):WI H p b=H b:=DY h
theorem zk0:et (WI H p) H:=λb o e=>by
 by_cases z:b=p
 .rw[z,X3]at e;cases e
 .rw[JH z]at e;show e
theorem Ah:∀xs,HO.ins C dx fs ≠ .lst xs:=λxs z=>by cases z
section
variable{K:cL}{E0 E H0 H el H':Hp}{σ:St}{γ:Ctx}{p:cI}{u:HO}
theorem RS.less(r:RS K E0 E H0 H σ γ)(B:γ.any Yh=bB)(J:H p=aF u)(I:∀xs,u ≠ .lst xs)(L:H0 p=aT)(O:E p=aT):RS K E0 E H0 (WI H p) σ γ:=by
 have y:et H0 (WI H p):=λb o e=>by rw[JH (λz=>by lia)];show r.rc.sub b o e
 show((y,r.rc.len,r.rc.val,λi g e=>?_,r.rc.ne,lL.tu<|WE B),(r.ext.s0,λb o e=>by rw[JH (λz=>by lia)];show r.ext.s1 b o e,y,r.ext.new),r.fresh,λi d a xs e=>absurd e<|WE B i d);let(a,xs,h,j,f,k):=r.rc.own i g e;show(a,xs,h,j,by rw[JH ((λe z=>by rw[z,J]at e;show I _<|l8 e) f)];show f,k)
theorem iS{Q:VK}{r:Res}(s:et H0 H)(q:∀v H' el,Ext H0 H el H'->Rep K el (Ky r) v->Q v H'):UQ K H0 H Q r:=by
 cases r with
 |val d=>show q
 |own fs=>show λa h H' el y e b f g=>q _ H' _ (y.show e b f s)<|(a,h,rfl,eJ.of zA,g.mono<|js b _)
theorem Ik{d:D}{v:V}(h:Rep K H d v):decide (v=.dw)=Fn d:=by
 by_cases z:d=.dw
 .subst z
  rw[h];rfl
 .rw[decide_eq_false (λq=>z<|KB<|q ▸ h)]
  cases d with
  |dw=>show absurd rfl z
  |_=>rfl
end
inductive F9(K:cL)(C:cI)(F:ZF)(vs:List V)(H:Hp)(Q:VK)(_:XK):Prop
 |mk (H0 p dx v d l lv o d') (_:vs=[.ref p,lv]) (_:et H0 H) (_:H0 p=aT) (_:H p=aF (.ins C dx<|kT v)) (_:Rep K H0 d v) (_:Rep K H0 l lv) (_:F [d,l]=aF (o,d')) (_:∀u v' H' el,Ext H0 (WI H p) el H'->H' p=aF (.ins C dx<|kT v')->el p=aT->Rep K el o u->Rep K el d' v'->Q u H')
def Vl:TS:=λ_ _ _=>False
theorem KN{e:zn en}:h8 X e Vl:=λ_ _ _ _ _ _ h=>h.elim
abbrev Ro(K:cL):TE:=Rq K (QE 0) "row"
abbrev za4:R2:=λx y H Q=>y=.dw/\Q (.bl (decide (x=.dw))) H
abbrev rW(K:cL)(tB:CO Bool):L2.TT:=UX (Cb (u6 za4 (Ro K) (tC .dw))) (tT K tB)
def SF(K:cL)(f1:CO D)(tA tB tC:CO Bool)(e z B:zn D->xz Res):TS:=
 pV (aD (tV K f1)<|yK 2) (pV (Rp (tT K tA) Vl Cc) (pV (Rp (rW K tB) Vl Cc) (pV (Rp (tT K tC) (Mh<|aY (kr K 2 e) [] E0 (Zx (Ro K)<|Zx (tV K<|zf 2) pW)) Cc)
  (pV (Ng K (QE 0) (aY (kr K 2 z) [] E0 (Zx (Ro K) (Zx (tV K (zf 2)) pW))) "row") (Mh (aY (kr K 1 B) [] E0 (Zx (Ro K) pW)))))))
theorem Ig{K:cL}{e H:Hp}{p:cI}{l:D}{z:V}(B:et e H)(y:Rep K e l z):RS K e H e H (Xy ["self","line","words"] [.ref p,z]) [.no,.val l,.no]:=
 (XX (N:=["self","line","words"]) B (di.cons (d:=D.dw) rfl (di.cons y di.nil)) (show 2<=3 by decide)).forget (i:=0)
theorem Pz{A B:Prop}(h:B):if (bB=aG)then A else B:=by rw[DY iu];show h
theorem ifT{A B:Prop}(h:A):if (aG=aG)then A else B:=by rw[DJ rfl];show h
section
variable{P:eA}{w:eu}{K:cL}{mg:DZ}{base:dV}{k:Nat}{q:Str}{st:en}{f C:cI}{fd:gv}{f1:CO D}{tA tB tC:CO Bool}{FA FC FR:zn D->xz Res}
theorem ET(Fu:L2.g5 K "tell" q st f fd)(hd:wB ["self","line","words"] ["self","line"] st=aG)(c:ug K C)
 (bb:∀X,X.prog=P->X.w=w->X.K=K->X.mg=mg->X.base=base->SX X (zK st) ["self","line","words"] ["self","line","words"] k->h8 X (jn st) (SF X.K f1 tA tB tC FA FC FR)):
 fy P w K mg base f7 (k+1) f fd ["self","line"] (F9 K C (MI f1 tA tB tC FA FC FR)):=by
 have S:=xl hd;show Fu.ok S (λvs H Q E h=>by let(F,p,g,v,d,l,lv,o,d',rfl,_):=h;rfl) λE7 A outer s H vs Q E hr be=>(_,bb _ rfl rfl rfl rfl rfl (rfl,rfl,S.nd,rfl,hr,λ_ _=>.inl rfl),?_);show dj λkZ=>?_;let(F,p,g,v,d,l,lv,o,d',rfl,s0,h0,hp,rv,rl,I,qq):=be;let(Y,e1,I):=zb I;let(a,e2,I):=zb I;show kZ ?_;have as:=Ig (p:=p) s0 rl;cases a with
 |true=>cases I
 | false=>
  let(b,e3,I):=zb I;cases b with
  |true=>cases I
  | false=>
   let(cc,e4,I):=zb I;show(F,_,Y,as.rc,e1,λwv H1 M x1 r1=>?_);have ax:=(as.rc.ext x1).nF (i:=2) r1;show(M,_,bB,ax,e2,λN a5 x2=>Pz ?_);have Z:=x1.trans x2;have b1:=ax.ext x2;have T:∀D,(∀H' L,Ext a5 N L H'->D bB H')->rW K tB ((Xy _ [.ref p,lv]).set 2 (aF wv)) N D:=λD hD=>by
    show(.ref p,rfl,p,C,g,kT v,v,rfl,Z.s1 _ _ hp,c.cls,c.nr,Yr v,rfl,_,rfl,?_);rw[Ik (rv.mono Z.s0)];cases hn:Fn d with
    |true=>
     rw[hn,DJ rfl]at e3;rw[DJ rfl];show(a5,_,bB,b1,e3,hD)
    |false=>
     rw[DY iu];show hD N a5<|Ext.refl Z.sub
   show T _ λH3 br x3=>Pz ?_;have b3:=b1.ext x3;show(br,_,cc,b3,e4,λH4 a6 x4=>?_);have m:=(Z.trans x3).trans x4;have b5:=b3.ext x4;have n:=m.s1 _ _ hp;have a7:=rv.mono m.s0;have b6:=m.new p h0 ();have E4:∀{G B},Ext a6 H4 B G->Ext F (WI H p) B G:=λ{G B} y=>by
    have z:=m.trans y;show(z.s0,λb o e=>z.s1 b o<|zk0 b o e,z.sub,λb q1 U=>by
     by_cases hb:b=p
     .subst hb;show absurd X3 U
     .rw[JH hb]at U;show z.new b q1 U)
   cases cc with
   |true=>
    rw[DJ rfl]at I;let(r,e5,e6):=zq I;cases e6;show ifT (.ref p,rfl,p,C,g,kT v,v,rfl,n,c.cls,c.nr,Yr v,a6,_,Y,b5,rfl,λbx H5 ad J r5=>?_);show(ad,[d,Y],r,J.sub,di.cons (a7.mono J.s0)<|di.cons r5 di.nil,rfl,e5,iS J.sub λu R t x6 x=>?_);have O:=J.trans x6;show qq u v R t (E4 O) (O.s1 _ _ n) (O.new p b6 ()) x<|a7.mono O.s0
   | false=>
    let(r,e5,I):=zb I;let(r2,e6,e7):=zq I;cases e7;show Pz (.ref p,rfl,p,C,g,kT v,v,rfl,n,c.cls,c.nr,Yr v,a6,_,Y,b5,rfl,λbx H5 ad J r5=>?_);show(ad,[d,Y],r,J.sub,di.cons (a7.mono J.s0)<|di.cons r5 di.nil,rfl,e5,iS J.sub λu R t x6 x=>?_);have O:=J.trans x6;have c6:=O.new p b6 ();show(.ref p,rfl,p,C,g,kT v,rfl,O.s1 _ _ n,c.cls,c.nr,by change 1<1000;decide,?_);have s6:et t (upd R p<|.ins C g<|kT u):=λb W e=>by rw[zC (λz=>by lia)];show O.sub b W e
    show(.ref p,rfl,p,C,g,kT u,u,rfl,zA,c.cls,c.nr,Yr u,?_);show(t,[Ky r],r2,s6,di.cons x di.nil,rfl,e6,iS s6 λu2 H7 c8 j r7=>?_);have z:=E4 O;show qq u2 u H7 c8 (z.s0.trans j.s0,λb W e=>j.s1 b W (by rw[zC (λy=>by rw[y,X3]at e;cases e)];show z.s1 b W e),j.sub,λb q1 U=>?_) (j.s1 _ _ zA) (j.new p c6<|by rw[zA];simp) r7<|x.mono j.s0
    .refine j.new b (z.new b q1 U) ?_
     rw[zC (λy=>by rw[y,X3]at U;show U rfl)];cases y:WI H p b with
     |none=>show absurd y U
     |some W=>rw[z.s1 b W y];simp
end
def MU(C:cI):Sp:=λb H Q _=>∃x a,b=[.ref x]/\H x=aF (.ins C a [])/\Q .dw (upd H x<|.ins C a<|kT .dw)
structure C4(P:eA)(w:eu)(K:cL)(mg:DZ)(base:dV)(j:Nat)(x:Str)(C:cI)(TF:ZF):Prop where
 ex:∃(f:cI) (fd:gv) (ps:List Str),ps.length=2/\↑fy f7 j f fd ps (F9 K C TF)/\mg x=aF (.ref f)/\lK K (.ref f)=aG/\Binds K fd ps []
section
variable{P:eA}{w:eu}{K:cL}{mg:DZ}{base:dV}{k:Nat}{q:Str}{st:en}{f C:cI}{fd:gv}
theorem EW(y:L2.g5 K "__init__" q st f fd)(e:wB ["self"] ["self"] st=aG)(c:ug K C)
 (z:∀X,X.prog=P->X.w=w->X.K=K->X.mg=mg->X.base=base->SX X (zK st) ["self"] ["self"] k->h8 X (jn st) (Ng X.K (QE 0) (tC .dw) "row")):
 fy P w K mg base f7 (k+1) f fd ["self"] (MU C):=by
 have S:=xl e;show y.ok S (λg H Q E h=>by let(x,b,rfl,_):=h;rfl) λd A a s H g Q E I J=>(_,z _ rfl rfl rfl rfl rfl (rfl,rfl,S.nd,rfl,I,λ_ _=>.inl rfl),?_);let(x,b,rfl,O,U):=J;show(.ref x,rfl,x,C,b,[],rfl,O,c.cls,c.nr,(),U)
end
theorem Ie{K:cL}{e H:Hp}{p:cI}{l:D}{B:V}{N:zn Str}(y:N.length=5)(I:et e H)(z:Rep K e l B):RS K e H e H (Xy N [.ref p,B]) [.no,.val l,.no,.no,.no]:=by have r:=(XX (N:=N) I (di.cons (d:=D.dw) (x:=V.dw) (show V.dw=.dw from rfl)<|di.cons z di.nil)<|by change 2<=N.length;omega).forget (i:=0) (v:=aF (.ref p));rw[y]at r;show r
structure ZS(K:cL)(i:Nat)(C p dx:cI)(E0 E H0 H:Hp)(σ:St)(γ:Ctx)(d:D):Prop where
 rs:RS K E0 E H0 H σ γ
 nn:γ.any Yh=bB
 sl:σ[i]? = aF (aF (.ref p))
 h0:H0 p=aT
 he:E p=aT
 hp:∃v,H p=aF (.ins C dx<|kT v)/\Rep K H0 d v
theorem ZS.step{K:cL}{i:Nat}{C p L:cI}{E0 E J H B I:Hp}{O:St}{γ:Ctx}{d:D}(z:ZS K i C p L E0 E J H O γ d)(e:Ext J H B I):ZS K i C p L E0 E B I O γ d:=by let(v,a,b):=z.hp;show(z.rs.step e,z.nn,z.sl,e.new p z.h0 (),z.he,v,e.s1 _ _ a,b.mono e.s0)
inductive u_(K:cL)(i:Nat)(C:cI)(t:ZT)(σ:St)(H:Hp)(Q:Bool->Hp->Prop):Prop
 |mk (p dx E0 E H0 γ d r) (_:ZS K i C p dx E0 E H0 H σ γ d) (_:t γ d=aF r) (_:∀H' el,ZS K i C p dx E0 E el H' σ γ r.2->Q r.1 H')
section
variable{X:Cx}{sc:e9}{N L:zn Str}{k j i:Nat}{C:cI}{TF:ZF}{e r o:dE}{fe fr:CO D}{u:ZT}{pos cpos fp:eg}{x:Str}
theorem ND(Z:⇑C4 j x C TF)(hj:j<=k)(h:SX X sc N L k)(J:xP sc x=aG)(ho:PE X o (QE i))(he:PV X e fe)(hr:PV X r fr)
 (hs:dU [o,e] ⋯=(bB,dv o ⋯)::dU [e] ⋯:=by rfl) (S:dU [e] ⋯=(bB,dv e ⋯)::dU [] ⋯:=by rfl) (a5:(gE cpos<|starEach [e] ⋯).any (·.1)=bB:=by rfl):
 PT X (.Compare (.Call (.Name x fp) [o,e] [] cpos) [.NotEq] [r] pos) (u_ X.K i C<|Dz TF fe fr):=by
 let(f,fd,ps,b7,F,hm,hk,hb):=Z.ex;show KL (wM (GH h.zl) (ZX (E:=E0) F (h.room.mono hj) (h.gl J).1 hm hk hb .nil QQ (zS ho (zS he jH S) hs) (h.gl J).2.2 hs a5) hr<|yP r) λσ H Q hZ=>?_;let(p,dx,F0,F1,B,A,d,rr,z,y,P):=hZ;let(l,e1,y):=zb y;let(m,e2,y):=zb y;let(s,e3,y):=zb y;let(b,e4,y):=zq y;let(db,e5,e6):=zb e4;subst y;show(.ref p,z.sl,B,A,l,z.rs.rc,e1,λlv H1 g t r1=>?_);have a:=z.step t;let(v,O,g2):=a.hp;show(g,p,dx,v,d,l,lv,m.1,m.2,rfl,t.sub,a.h0,O,g2,r1,e2,λu v' H2 R x2 U as ru T=>?_);have W:=(a.rs.less a.nn O Ah a.h0 a.he).step x2;show(R,A,s,W.rc,e3,λrv G b2 n r3=>?_);show sr b2 G u rv m.1 s db _ n.sub (ru.mono n.s0) r3 e5 λw M b5 x4 Y=>?_;rw[JW e6]at Y;have I:=n.trans x4;show(b,Y,P M b5 (W.step I,z.nn,z.sl,I.new p as (by rw[U];simp),z.he,v',I.s1 _ _ U,T.mono I.s0))
end
abbrev GE:=Str×mr×Int×mr
structure sR(w:eu)(K:cL)(mg:DZ)(x:Str)(kv:List (Str×Int)):Prop where
 ex:∃a o es ep,∃zs:List GE,mg x=aF (.ref a)/\(a==pR)=bB/\K.lookup a=aF o/\o.ExactDict/\o.data=.dict es ep/\es.toList=zs.map (λz=>(FI w z.1,.str z.1 z.2.1,.int z.2.2.1 z.2.2.2))/\zs.map (λz=>Prod.mk z.1 z.2.2.1)=kv
theorem He(k:Str):∀B:zn GE,(((B.map λz=>((FI w z.1,.str z.1 z.2.1,.int z.2.2.1 z.2.2.2):N5)).find? λe=>(strKind P w).is k e.key).map (·.val))=(B.find? λz=>z.1==k).map λz=>B1 z.2.2.1 z.2.2.2
 |[]=>rfl
 | z::B=>by
  rw[mc];by_cases h:z.1=k
  .rw[List.find?_cons_of_pos (by show(by rw[h];show M8 P w k _)),List.find?_cons_of_pos (~~~h)]
   rfl
  .rw[_d (by show(λq=>h<|(strKind P w).inj _ _ _ (M8 P w z.1 z.2.1) q)),_d (~~~h)]
   show(He (P:=P) (w:=w) k B)
theorem OW{P:eA}{w:eu}{h:dV}{a:cI}{o:gB}{B:Array N5}{J:Nat}{H:zn GE}(y:h.get? a=aF o)(I:o.ExactDict)(O:o.data=.dict B J)(L:B.toList=H.map (λz=>(FI w z.1,.str z.1 z.2.1,.int z.2.2.1 z.2.2.2))):
 h.MapOf (strKind P w) a (λk=>(H.find? λz=>z.1==k).map λz=>B1 z.2.2.1 z.2.2.2):=by
 show(o,B,J,y,I,O,λe b=>?_,λk=>?_)
 .have b:e∈B.toList:= ~~~b
  rw[L]at b;let(z,_,rfl):=fx.mp b;show(z.1,M8 P w z.1 _,rfl)
 .unfold findBy
  have:=He (P:=P) (w:=w) k H;rw[<-L,Array.find?_toList]at this;show this
theorem OV(k:Str):∀e:zn GE,((e.find? λz=>z.1==k).map λz=>B1 z.2.2.1 z.2.2.2).isSome=decide (k∈(e.map λz=>Prod.mk z.1 z.2.2.1).map (·.1))
 |[]=>by simp
 |z::e=>by grind
theorem N_:∀{B:zn GE},(B.map λz=>Prod.mk z.1 z.2.2.1).lookup k=aF i->∃t,((B.find? λz=>z.1==k).map λz=>B1 z.2.2.1 z.2.2.2)=aF (.int i t)
 |[],e=>by cases e
 | z::B,e=>by
  by_cases h:z.1=k
  .simp_all
  .rw[_d (~~~h)]
   simp?[mc,z5,(beq_eq_false_iff_ne.mpr λq=>h q.symm)]at e;show N_ e
section
theorem uj(h:SX X sc N L k)(c:xP sc x=aG)(e:X.mg x=aF (.ref b)):PE X (.Name x p) (tC<|.ref b):=λa s f H Q I d=>yq I (h.gl c).1 e (.ref b,H,I,rfl,d) (h.gl c).2.2
theorem ziK(G:sR X.w X.K X.mg x kv)(h:SX X sc N L k)(S:PV X a f)(c:xP sc x=aG:=by decide +kernel)(hm:nv .NotIn (.Name x p)=bB:=by with_unfolding_all rfl):gO X (.Compare a [.NotIn] [.Name x p] pos) (sB<|sG (kv.map (·.1)) f):=by
 show dj λO=>?_;let(b,o,es,ep,zs,U,g2,W,Y,Z,A,B):=G.ex;show O ?_;have M:fJ X (i3 .NotIn) (λx y H Q=>∃k,x=.str k/\y=.ref b/\Q (.bl<|!decide (k∈kv.map (·.1))) H):=by intro g s σ H x y v u Q I R T E;let(F,rfl,rfl,q):=E;let(t,rfl):=R;cases T;show wpAny_notIn_of (M8 X.prog X.w F t) g2 (OW (I.eF _ _ W) Y Z A) (.bl _,H,I.tok _,rfl,?_);rw[OV,B];show q
 show KL (wM M S (uj h c U) hm) λσ H Q C=>?_;show dj λO=>?_;let(j,γ,t,P,J,q):=C;let(db,l,n):=zb J;let(d,m,J):=zb l;show O ?_;cases d with
 |str z=>
  cases J;cases n;show(j,γ,_,P,m,λv i e x r=>(z,r,rfl,_,rfl,q i e x))
 |_=>cases J
theorem Nx(G:sR X.w X.K X.mg x kv)(h:SX X sc N L k)(ha:PV X a f)(c:xP sc x=aG:=by decide +kernel)(hs:Sr a:=by intro _ _;rfl):PV X (.Subscript (.Name x p) a pos) (UY kv f):=by
 let(b,o,es,ep,zs,g1,g2,g3,M,R,S,T):=G.ex;intro e s n H Q I hZ;show dj λkZ=>?_;let(u,γ,d,rc,J,q):=hZ;let(B,C,J):=zb J;show kZ ?_;cases B with
 |str z=>
  let(i,W,rfl):=zq J;rw[<-T]at W;let(t,E):=N_ W;show sg PySem.F.slot_dict_getitem.lookup hs<|dQ (uj h c g1 e s n H (λy j=>y=.ref b/\j=H) I (rfl,rfl)) λu1 s1 O=>?_;let(y,j,A,U,rfl,rfl):=O;cases U;show dQ (ha e s1 n j (λy l=>∃Y,_/\y=.str z) A (u,γ,_,rc,C,λv H' g x r=>(g,x,r))) λu2 s2 O=>?_;let(y,l,Z,U,Y,x2,rfl):=O;let(t2,rfl):=U;have m:=OW (P:=X.prog) (Z.eF _ _ g3) M R S;show(m.typeIs,wpAny_getItem_of (M8 X.prog X.w z t2) m E (.int i,l,Z.tok _,(t,rfl),q _ l Y x2 rfl))
 |_=>cases J
end
theorem qK{e:zn en}:VT X e qp:=λa s i H D I h=>by show dj λy=>?_;let(E0,E,b,g,d,f,z,J):=h;show y ?_;cases z
section
theorem uk(J:⇑d6 j x n F)(h:SX X sc N L k)(B:PA X (e::es) t)(y:j<=k:=by decide)(c:xP sc x=aG:=by decide +kernel)
 (H:dU (e::es) ⋯=(bB,dv e ⋯)::dU es ⋯:=by rfl) (z:(gE pos<|starEach es ⋯).any (·.1)=bB:=by rfl):PE X (.Call (.Name x p) (e::es) [] pos) (aY (kr X.K n F) [] E0 t):=by
 let(f,g,i,d,G,b,I,a):=J.ex;subst d;show ZX G (h.room.mono y) (h.gl c).1 b I a .nil QQ B (h.gl c).2.2 H z
end
section
variable{X:Cx}{a:dE}{pos:eg}
theorem Iu{c:dE}{e:CO D}(B:PV X a e){I:CO (Sk×zn D)}(S:PQ X c I)(hm:nv .In c=bB:=by with_unfolding_all rfl):gO X (.Compare a [.In] [c] pos) (sB<|Co e I):=
 KL (wM KR B S hm) λM H Q O=>by
  show dj λU=>?_;let(j,i,d,g,z,q):=O;let(E,W,Y):=zb z;let(x,o,z):=zb W;let((J,n),Z,z):=zb z;show U ?_;cases x with
  | str w=>
   let(l,s,rfl):=zq z;cases Y;show(j,i,_,g,o,λG C b h u=>(b,i,J,n,g.ext h,Z,λp K k m A f F r=>?_));have t:=wG r s;subst t;subst u;show(p,_,rfl,by
    cases J with
    |L=>show .inl f
    |T=>show .inr f,rfl,Jq l,?_)
   have:pK (.str w) (l.map V.str)=l.any λy=>y==w:=by erw[pK];rw[MR];rfl
   rw[this];show(_,rfl,q k m<|h.trans A)
  |_=>cases z
end
section
structure N4(P:eA)(w:eu)(K:cL)(mg:DZ)(base:dV)(C:cI):Prop where
 ex:∃(f:cI) (fd:gv),Mk K C f/\↑fy f7 1 f fd ["self"] (MU C)/\mg "Desk" = aF (.ref C)/\Binds K fd ["self"] []
theorem IK(y:⇑N4 C)(z:2<=k)(h:SX X sc N L k)(c:xP sc "Desk" = aG):PE X (.Call (.Name "Desk" p) [] [] pos) (eP C (MU C) [] E0 pW):=by let(f,d,M,F,b,a):=y.ex;show CU M F (h.room.mono z) (h.gl c).1 b a .nil QQ (h.gl c).2.2
end
structure Uu(K:cL)(mg:DZ)(sI zko:en):Prop where
 ex:∃(C fI fT:cI) (dI dT:gv),mg "Desk" = aF (.ref C)/\Mk K C fI/\ug K C/\ro K C "tell" fT/\L2.g5 K "__init__" "Desk.__init__" sI fI dI/\L2.g5 K "tell" "Desk.tell" zko fT dT/\Binds K dI ["self"] []/\Binds K dT ["self","line"] []
def Pl(K:cL)(C:cI):Bool:=LO K C&&lK K (.ref C)&&zv K C o4&&DC K C&&L0 K C&&
 g0 K (.ref C) "__setattr__" == aF (aF (.builtin "object.__setattr__"))&&g0 K (.ref C) "row" == aF aT
section
variable{K:cL}{mg:DZ}{h:dV}
theorem Uj{sI H:en}{C S fT:cI}{O Q:da}{U W Y Z:xz cI}{lI zif:Array (xz da)}{kI dI pI y tI zh9 dT zjL z tT:da}(KX:K.In h)(G:h.Ns gF mg)
 (nC:o6 K gF "Desk" = aF (aF (.ref C))) (iC:g0 K (.ref C) "__init__" = aF (aF (.ref S))) (mC:g0 K (.ref C) "tell" = aF (aF (.ref fT)))
 (uI:K.lookup S=aF (O,U,.func (mW "__init__" "Desk.__init__" (qB sI) (jn sI) (zK sI) .none kI dI pI Y y tI),lI))
 (uT:K.lookup fT=aF (Q,W,.func (mW "tell" "Desk.tell" (qB H) (jn H) (zK H) .none zh9 dT zjL Z z tT),zif))
 (vI:sL K y "Desk.__init__" = aG) (vT:sL K z "Desk.tell" = aG) (w1:lK K (.ref S)=aG) (w2:lK K (.ref fT)=aG)
 (z1:tW K (.ref S)=aG) (z2:tW K (.ref fT)=aG) (b:Pl K C=aG)
 (gI:∀kV B pm an e ct L,L.length=1->rz (mW "__init__" "Desk.__init__" (qB sI) (jn sI) (zK sI) .none kV B pm an e ct) (L,[])=pure ((["self"]:zn Str).zip L))
 (gT:∀kV B pm an e ct L,L.length=2->rz (mW "tell" "Desk.tell" (qB H) (jn H) (zK H) .none kV B pm an e ct) (L,[])=pure ((["self","line"]:zn Str).zip L)):Uu K mg sI H:=by
 erw[Pl]at b;simp?[fS,beq_iff_eq]at b;let((((((a,d),f),g),i),j),k):=b;have I:=Yq uI vI w1;have J:=Yq uT vT w2;show(C,S,fT,_,_,oV KX G nC,(a,iC,z1,d),((f,g,i,j),k),(mC,z2,w2),I,J,I.binds gI,J.binds gT)
theorem RV{w:eu}{x:Str}{J:zn (Str×Int)}{a:cI}{o:gB}{B:Array N5}{I:Nat}(H:zn GE)(y:K.In h)(G:h.Ns gF mg)(n:o6 K gF x=aF (aF (.ref a)))(l:K.lookup a=aF o)(s:(a==pR)=bB)(e:o.ExactDict)(d:o.data=.dict B I)
 (z:B.toList=H.map (λz=>(FI w z.1,.str z.1 z.2.1,.int z.2.2.1 z.2.2.2))) (k:H.map (λz=>Prod.mk z.1 z.2.2.1)=J):sR w K mg x J:=(a,o,B,I,H,oV y G n,s,l,e,d,z,k)
end
abbrev qC(d:D):D:=.ins "Desk" d .dw
def Ia(f:CO D):CO D:=λa=>(f a).bind λd=>match d with
 |.ins c r _=>if c = "Desk" then aF r else aT
 |_=>aT
def Yp(z e:CO D):CO (zn D):=λa=>(z a).bind λd=>match d with
 |.ins c r t=>if c = "Desk" then (e a).map λl=>[.ins c r t,l]else aT
 |_=>aT
def iW(i:Nat)(e:ZF)(z B:CO D)(S:CO Fl):CO Fl:=λa=>if (a.set i .no).any Yh=bB/\i<a.length then (Dz e z B (a.set i .no) .dw).bind λr=>if r.1=aG then aF (.ret<|.val<|.bl bB)else S (a.set i<|.val<|qC r.2)else aT
def cM(c c2:Str):Bool:=c == "SplitError" || c2==c
def EM:Xn->CO Fl:=λ_ _=>aT
def cX(c:Str)(y:Nat)(S:CO Fl)(z:Xn->CO Fl):Xn->CO Fl:=λa d=>if cM c a.1=aG then (S<|d.set y<|.val<|.exc a.1 a.2).bind λe=>match e with
 |.next b=>aF (.next<|b.set y .no)
 |_=>aT
 else z a d
def ff(y:CO Fl)(G:zn D->xz Xn)(g:CO (zn D))(z:Xn->CO Fl):CO Fl:=λa=>(g a).bind λb=>match G b with
 |some c=>z c a
 |none=>y a
def Na(i:Nat):CO Fl:=λa=>(Jh a[i]?).map λb=>.next (a.set i<|.own b.reverse)
end DL
namespace L2
open PySem PySem.Spec PyProof.Rows
def SZ:V->zn V->Hp->VK->Prop:=λx b H Q=>∃l a,x=.ref l/\b=[]/\H l=aF (.lst a)/\Q .dw (upd H l<|.lst a.reverse)
theorem IY{X:Cx}:UE X "list.reverse" SZ:=by intro a s g H x d v b Q I J O h;let(l,f,rfl,rfl,y,q):=h;cases J;have U:=O.zero;subst U;let(z,W,n,r,Y,e):=I.uS y;show o5 F.slot_list_reverse (_,e,rfl) F.entry_list_reverse (F.args_list_reverse_1 _) (AutoSeq1.list_reverse_list_0 l W.toArray n (by rw[gN];lia)) (e,(.dw,_,I.PY y e () r.reverse (by rw[List.length_reverse];lia),rfl,q))
end L2
namespace DL
open PySem PySem.Spec PyProof.Rows L2
theorem CA{X:Cx}{S:e9}{N L:zn Str}{k:Nat}(i:Nat){x:Str}{e cpos B pos:eg}(h:SX X S N L k)(c:kQ S N i x=aG)
 (y:pF (.Name x B) "reverse" ⋯ (dv (.Name x B) ⋯)=dv (.Name x B) ⋯:=by rfl) (z:(e.endLine==cpos.line)=aG:=by rfl)
 (I:ni (.Call (.Attribute (.Name x B) "reverse" e) [] [] cpos) aT pos.line ⋯=pure bB:=by rfl):
 gg X (.Expr (.Call (.Attribute (.Name x B) "reverse" e) [] [] cpos) pos) (Na i):=
 yJ (fH (Oc PySem.F.plainAttrs_list PySem.F.slot_list_reverse PySem.F.type_list_reverse IY (h.var c) y z) I) λD r H J=>by show dj λO=>?_;let(E0,E,j,p,n,g,Q,U):=J;let(l,b,rfl):=zq Q;have b:=yT b;let(a,xs,d,o,f,m):=g.rc.own i l b;show O (_,d,.inl (rfl,_,eJ.of f),a,xs,rfl,rfl,f,U _ _ j<|g.rewrite (xs:=xs) b d m.rev)
structure rb(K:cL)(C:cI):Prop where
 at_:pL K "Desk" = aF C
 nr:pD K C "row"
structure xC(P:eA)(w:eu)(K:cL)(mg:DZ)(base:dV)(j:Nat)(F:List D->Option Res):Prop where
 ex:∃(C f:cI) (fd:gv),rb K C/\ro K C "tell" f/\↑fy f7 j f fd ["self","line"] (kr K 2 F)/\Binds K fd ["self","line"] []
structure uu(P:eA)(w:eu)(K:cL)(mg:DZ)(base:dV)(j:Nat)(G:List D->Option Xn):Prop where
 ex:∃(C f:cI) (fd:gv),rb K C/\ro K C "tell" f/\↑fy (md P w) j f fd ["self","line"] (r0 K 2 G)/\Binds K fd ["self","line"] []
theorem zao{K:cL}{B:DZ}{h:dV}{C:cI}(z:K.In h)(G:h.Ns gF B)(I:B "Desk" = aF (.ref C))(J:ug K C)(b:(pL K "Desk").isSome=aG):rb K C:=by
 let(O,e):=qd.mp b;have q:=oV z G (by
  have y:=e;erw[pL]at y;split at y
  .next a=>
   split at y
   .cases y;show a
   lia
  lia)
 rw[I]at q;cases q;show(e,J.nr)
structure XM(K:cL)(mg:DZ)(c:Str):Prop where
 ex:∃C,mg c=aF (.ref C)/\A5 K (.ref C)=aF (.type "type")/\pw K C (.type "BaseException")=aF aG/\(vk K C).isSome=aG/\∀c2 C2,c2∈l5->J9 K c2=aF C2->pw K C2 (.ref C)=aF (cM c c2)
def F'(K:cL)(c:Str):Bool:=match J9 K c with
 |some C=>A5 K (.ref C)==aF (.type "type")&&pw K C (.type "BaseException")==aF aG&&(vk K C).isSome&&l5.all λa=>match J9 K a with
  |some b=>pw K b (.ref C)==aF (cM c a)
  |none=>aG
 |none=>bB
set_option tactic.hygienic true in
theorem zaM{K:cL}{B:DZ}{h:dV}{c:Str}(y:K.In h)(G:h.Ns gF B)(e:F' K c=aG):XM K B c:=by
 erw[F']at e;split at e
 .rename_i C z
  simp?[fS,beq_iff_eq,om]at e;let(((b,I),J),O):=e;show(C,GN y G z,b,I,J,λa g f d=>?_);have:=O a f;rw[d]at this;simpa using this
 lia
theorem W1{K:cL}{H:Hp}{c:Str}{r t:D}{v:V}(h:Rep K H (.ins c r t) v):∃a C z e B,v=.ref a/\pL K c=aF C/\H a=aF (.ins C z<|kT e)/\Rep K H r e/\Rep K H t B:=h
theorem Cp{K:cL}{H:Hp}{c:Str}{r t:D}{a C z:cI}{e B:V}(I:pL K c=aF C)(J:H a=aF (.ins C z<|kT e))(L:Rep K H r e)(O:Rep K H t B):Rep K H (.ins c r t) (.ref a):=((a,C,z,e,B,rfl,I,J,L,O))
section
variable{X:Cx}{sc:e9}{N L:zn Str}{k j i:Nat}{C:cI}{o e:dE}{fo fe:CO D}{F:zn D->xz Res}{G:zn D->xz Xn}{pos apos p:eg}{γ:Ctx}{ds:zn D}
theorem VJ(h:Yp fo fe γ=aF ds):∃r t l,fo γ=aF (.ins "Desk" r t)/\fe γ=aF l/\ds=[.ins "Desk" r t,l]:=by
 let(d,a,h):=zb h;cases d with
 | ins c r t=>
  dsimp only at h;split at h
  .next b=>
   let(l,y,z):=zq h;subst b;show(r,t,l,a,y,z.symm)
  lia
 |_=>cases h
theorem lx(c:rb X.K C)(I:PV X o fo)(B:pF o "row" ⋯ (dv o ⋯)=dv o ⋯:=by rfl):PV X (.Attribute o "row" p) (Ia fo):=
 j3 (JA I B) λu H Q J=>by
  let(g,γ,d,m,y,q):=J;let(O,j,y):=zb y;cases O with
  | ins n r t=>
   dsimp only at y;split at y
   .next k=>
    cases y;subst k;show(g,γ,_,m,j,λv h b f l=>?_);show dj λU=>?_;let(a,Y,i,e,s,rfl,z,g2,W,_):=W1 l;show U ?_;rw[c.at_]at z;cases z;show(a,C,i,_,e,rfl,f.sub _ _ g2,WU<|yQ c.at_,c.nr,Yr e,q e h b f W)
   lia
  |_=>cases y
theorem tf{U:ip Bool}(W:⇑xC j F)(Y:j<=k)(h:SX X sc N L k)(Z:PV X o fo)(he:PV X e fe)
 (hs:dU [e] ⋯=(bB,dv e ⋯)::dU [] ⋯:=by rfl) (B:(gE pos<|starEach [] ⋯).any (·.1)=bB:=by rfl)
 (ht:dv (.Call (.Attribute o "tell" apos) [e] [] pos) ⋯=(do
   let J<-dv o ⋯
   oS apos.atName
   let (f,first)<-my [J] (uH J "tell" U)
   C8 pos f first (gE pos<|starEach [e] ⋯) (pG pos<|keywordEach [] ⋯)):=by rfl):
 PV X (.Call (.Attribute o "tell" apos) [e] [] pos) (zD F (Yp fo fe)):=by
 let(C,f,fd,c,hm,n,T):=W.ex;show j3 (fM Z (WU<|yQ c.at_) hm n (h.room.mono Y) T .nil QQ (zS he jH hs) hs B ht) λσ H Q S=>?_;show dj λz=>?_;let(p,γ,d,m,I,q):=S;let(ds,R,I):=zb I;let(x,P,rfl):=zq I;let(r,t,l,G,M,rfl):=VJ R;show z ?_;show(p,γ,_,m,G,λv H1 b g i=>?_);show dj λz=>?_;let(a,C',E,vp,vt,rfl,O,g2,_):=W1 i;show z ?_;rw[c.at_]at O;cases O;show(a,E,_,rfl,g.sub _ _ g2,WZ vp,b,γ,l,m.ext g,M,λlv H2 A y r2=>
  (A,_,x,y.sub,di.cons (i.mono y.s0)<|di.cons r2 di.nil,rfl,P,iS y.sub λu s ad x3 r3=>q u s ad (g.trans<|y.trans x3) r3))
theorem Ax{B:TW}{S:St}{H H0:Hp}{cc:Xn}{s:dy}(hT:⇑uu j G)(hj:j<=k)(h:SX X sc N L k)(ho:PV X.kb o fo)(he:PV X.kb e fe)
 (I:Inv X B S H s) (rc:RC X.K H0 H S γ) (zhg:Yp fo fe γ=aF ds) (zg9:G ds=aF cc)
 (Y:dU [e] ⋯=(bB,dv e ⋯)::dU [] ⋯:=by rfl) (a8:(gE pos<|starEach [] ⋯).any (·.1)=bB:=by rfl) {pl:ip Bool}
 (ht:dv (.Call (.Attribute o "tell" apos) [e] [] pos) ⋯=(do
   let Z<-dv o ⋯
   oS apos.atName
   let (f,first)<-my [Z] (uH Z "tell" pl)
   C8 pos f first (gE pos<|starEach [e] ⋯) (pG pos<|keywordEach [] ⋯)):=by rfl):
 ⇑X (dv (.Call (.Attribute o "tell" apos) [e] [] pos) ⋯) (λ_ _=>False) (Left X B S H0 H cc) s:=by
 show dj λU=>?_;let(C,f,fd,c,hm,F,hb):=hT.ex;let(r,t,l,e1,e2,rfl):=VJ zhg;show U ?_;show PySem.W.methodCall_KW (fU (ho B s S H (λx p=>∃b,_/\_) (I.gd _) (H0,γ,_,rc,e1,λv p b n E=>(b,n,E))) (λu s1 hZ=>?_) λ_ _ z=>z.elim) ht;show dj λU=>?_;let(x,p,Q,zke,b,n,E):=hZ;let(a,C',dx,vp,vt,rfl,g1,g2,_):=W1 E;show U ?_;rw[c.at_]at g1;cases g1;obtain rfl:u=nq a:=zke;have Q:=Q.l4;show VI Q (n.sub _ _ g2) (WU<|yQ c.at_) hm (WZ vp) ?_;show DG I.ok.mod.tr hm.kp (fU ((zS he jH Y) pos B s1 S p (λvs g=>∃i y,vs=[i]/\Ext b p y g/\Rep X.K y l i) (Q.gd _) (b,γ,l,rc.ext n,e2,λi g y O P=>(i,y,rfl,O,P))) (λus R (vs,g,J,rv,i,y,ev,O,P)=>(J.l4.eF,?_)) λ_ _ z=>z.elim) Y a8;subst ev;have J:=J.l4;show q0 (t9 (F.run X.A X.stack R g _ _ (V.ref a::[i]) (λ_ _=>False) (λM od T=>∃C d,M=.ref C/\_/\_/\_=aF C/\WC cc od d/\Ext y g d T) (h.room.mono hj) J.ow
  (~~~hb R (nq a::us) J.eF (~~~(by rw[<-rv.length];rfl))) (.cons rfl rv) (y,_,cc,O.sub,di.cons (E.mono O.s0)<|di.cons P di.nil,rfl,zg9,λC T d od xa xm xc xn xx=>(C,d,rfl,xa,xm,xc,xn,xx))) λr s' m=>?_)
 cases r with
 |error e=>show(g,y,R,J,n.trans O,m)
 |ok fl=>
  cases fl with
  |ret u=>let(_,_,_,_,_,_,_,z):=m;show z.elim
  |next=>show m.elim
  |brk=>show m.elim
  |cont=>show m.elim
theorem Am{hs:zn sQ}:HB X hs EM:=λ_ _ _ _ _ _ _ _ _ _ _ _ _ _ e=>by cases e
theorem An{c1 nx:Str}{np a9:eg}{Z:en}{B:zn en}{rest:zn sQ}{S:CO Fl}{Hr:Xn->CO Fl}(y:Nat)(h:SX X sc N L k)(x:XM X.K X.mg c1)(hg:xP sc c1=aG)(cn:kD sc N L y nx=aG)(cl:decide (sc.names.lookup nx=aF .local)=aG)
 (hb:∀e,SW (Dg X e) sc N L k->VT (Dg X e) (Z::B) S) (hr:HB X rest Hr):HB X (.ExceptHandler (aF (.Name c1 np)) (aF nx) (Z::B) a9::rest) (cX c1 y S Hr):=by
 intro b σ G H J O j a s γ fl D u Q e p;show dj λU=>?_;let(F,m,C,E,I,W,r,xa,A,w,rep,obj,_):=Q.ex;let(zlO,x2,x3,x4,x5,x6):=x.ex;show U ?_;have o:=Ag I<|.ref a;show wpAny_handleBy_cons (codeAny_handlers_test<|yq o ((h.gl hg).1) x2 ?_ (h.gl hg).2.2) (by intro q;cases q);show(zjw o.eF obj x3 x4 x5<|x6 j.1 C A w) _ _ _ _ (λ_ _ z=>z) ?_;erw[cX]at e;by_cases l:cM c1 j.1=aG
 .rw[DJ l]at e
  rw[l];let(f1,eS,e):=zb e;cases f1 with
  | next d=>
   cases e;let(t,n2,ziw):=h.loc cn;show codeAny_handlers_suite_as<|Q.go λs6 T=>?_;show dj λU=>?_;let(F,m,C,E,I,W,r,xa,A,w,rep,obj,_):=T;show U ?_;show V6 (X:=Dg X<|.ref a) (v:=.ref a) (Ag I<|.ref a) h.uV t n2 rfl (λs7 M=>?_) ziw;show fU (hb (.ref a) (h.nV,h.eN,h.nd,h.room.dp,h.room.un,h.fn) b s7 _ _ {nx:=λg n=>∃Y,RS X.K J O Y n g d,rt:=λ_ _=>False} M (J,O,_,_,.next d,(u.step<|W.trans<|Ext.alloc W.sub r<|.ext E).nF (i:=y) rep,eS,λg n Y rr=>(Y,rr))) (λf znj z=>?_) λ_ _ z=>z.elim;cases f with
   |next=>
    let(zns,zlT,P,bf,r8):=z;show zkT (Ad I.ok P) h.uV t (by rw[h.nV];show of_decide_eq_true cl) λznk R=>(_,_,R,p _ _ _ r8.forget)
   |ret v=>let(_,_,_,_,_,z):=z;show z.elim
   |brk=>let(_,_,_,z):=z;show z.elim
   |cont=>let(_,_,_,z):=z;show z.elim
  |_=>cases e
 .rw[DY l]at e
  rw[show cM c1 j.1=bB by simpa using l];show hr b σ G H J O j a s γ fl D u Q e p
theorem lA{cpos J B:eg}{O:Nat}{pl:ip Bool}{st:en}{U:CO Fl}{S:sQ}{hs:zn sQ}{W:Xn->CO Fl}(hr:∀{Q:Flow->dy->Prop} {E:EQ} {s:dy},XP ⋯=bB->⇑X (dv (.Call (.Attribute o "tell" J) [e] [] cpos) ⋯) (λ_ _=>False) E s->⇑X (exec st ⋯) Q E s)(h:SX X sc N L k)(a5:X.stack=⋯::X.outer/\⋯.frame=aF ⋯.locals)
 (hv:gg X.kb st U) (hx:⇑uu O G) (a8:O<=k) (ho:PV X.kb o fo) (he:PV X.kb e fe) (hh:HB X (S::hs) W)
 (ad:dU [e] ⋯=(bB,dv e ⋯)::dU [] ⋯:=by rfl) (al:(gE cpos<|starEach [] ⋯).any (·.1)=bB:=by rfl)
 (ht:dv (.Call (.Attribute o "tell" J) [e] [] cpos) ⋯=(do
   let Y<-dv o ⋯
   oS J.atName
   let (f,first)<-my [Y] (uH Y "tell" pl)
   C8 cpos f first (gE cpos<|starEach [e] ⋯) (pG cpos<|keywordEach [] ⋯)):=by rfl):
 gg X (.Try [st] (S::hs) [] [] B) (ff U G (Yp fo fe) W):=by
 rintro b s m H D I ⟨Z,i,j,γ,d,g,y,l⟩;let(ds,r,y):=zb y;show _u ?_;cases q:G ds with
 |some n=>
  rw[q]at y;show M0<|hr I.quiet<|fU (Ax hx a8 h ho he I g.rc r q ad al ht) (λ_ _ z=>z.elim) λu x z=>?_;show Le a5 z λa t p as=>?_;subst p;show hh b m j H Z i n a t γ d D g as y l
 |none=>
  rw[q]at y;show fU (zg hv b s m H D (I.gd _) (Z,i,j,γ,_,g,y,l)) (λd C z=>?_) λ_ _ z=>z.elim;have z:=z.l4;cases d with
  |next=>show A7 z
  |ret v=>show z
  |brk=>show z
  |cont=>show z
end
theorem Lu{P:eA}{w:eu}{K:cL}{B:DZ}{base:dV}{q:Str}{st:en}{f:cI}{e:gv}{N:zn Str}{k:Nat}{F:CO Fl}(y:L2.g5 K "tell" q st f e)(J:wB N ["self","line"] st=aG)
 (z:∀X,X.prog=P->X.w=w->X.K=K->X.mg=B->X.base=base->SX X (zK st) N N k->X.xe=(λ_ _=>False)->VT X (jn st) F):fy P w K B base f7 (k+1) f e ["self","line"] (kr K 2 (ju N.length F)):=by
 have S:=xl J;show EU y S λb A a s H E I=>z _ rfl rfl rfl rfl rfl (rfl,rfl,S.nd,rfl,I,λ_ _=>.inl rfl) rfl
structure Oz(P:eA)(w:eu)(K:cL)(mg:DZ)(base:dV)(j:Nat)(C:cI)(TF:ZF):Prop where
 ex:∃(f:cI) (fd:gv),ug K C/\ro K C "tell" f/\↑fy f7 j f fd ["self","line"] (F9 K C TF)/\Binds K fd ["self","line"] []
def MN(K:cL)(C:cI)(z:ZF):TS:=λD f H=>∃b p h v d l i o g,f[0]? = aF (aF (.ref p))/\f[1]? = aF (aF i)/\et b H/\b p=aT/\H p=aF (.ins C h<|kT v)/\Rep K b d v/\Rep K b l i/\z [d,l]=aF (o,g)/\
 ∀u j e a,Ext b (WI H p) a e->e p=aF (.ins C h<|kT j)->a p=aT->Rep K a o u->Rep K a g j->D.nx (f.set 3<|some u) e
def Uw:=zW (eI (sB<|zF BG (zf 2)<|je .dw) (XB 3) jO) qp
section
variable{X:Cx}{sc:e9}{N L:zn Str}{k j:Nat}{C:cI}{TF:ZF}{o a:dE}
theorem Iz{y:Str}{py cpos e J B:eg}{hd:sQ}{hs:zn sQ}(Q:⇑Oz j C TF)(U:j<=k)(h:SX X sc N L k)(W:kD sc N L 3 y=aG)(Y:PE X.kb o (QE 0))(ha:PE X.kb a (QE 1))
 (S:dU [a] ⋯=(bB,dv a ⋯)::dU [] ⋯:=by rfl) (Z:(gE cpos<|starEach [] ⋯).any (·.1)=bB:=by rfl) {pl:ip Bool}
 (ht:dv (.Call (.Attribute o "tell" J) [a] [] cpos) ⋯=(do
   let O<-dv o ⋯
   oS J.atName
   let (f,first)<-my [O] (uH O "tell" pl)
   C8 cpos f first (gE cpos<|starEach [a] ⋯) (pG cpos<|keywordEach [] ⋯)):=by rfl)
 (a3:ni (.Call (.Attribute o "tell" J) [a] [] cpos) (aF (.Name y py)) e.line ⋯=pure bB:=by rfl):
 PS X (.Try [.Assign [.Name y py] (.Call (.Attribute o "tell" J) [a] [] cpos) e] (hd::hs) [] [] B) (MN X.K C TF):=by
 intro b s σ H D I A;show dj λM=>?_;let(n,p,g,v,d,l,m,P,r,z0,z1,s0,x,i,T,R,t,ad):=A;let(f,fd,c,G,F,E):=Q.ex;show M ?_;show _u ?_;show fU (kJ ((h.gd _).set 3 W (fM Y c.cls G F (h.room.mono U) E .nil QQ (zS ha jH S) S Z ht) a3) b s σ H D (I.gd _) (.ref p,z0,p,g,kT v,rfl,i,WZ v,m,z1,n,p,g,v,d,l,m,P,r,rfl,s0,x,i,T,R,t,ad)) (λu s1 z=>?_) λ_ _ z=>z.elim;have z:=z.l4;cases u with
 |next=>show A7 z
 |ret v=>show z
 |brk=>show z
 |cont=>show z
end
section
variable{P:eA}{w:eu}{K:cL}{mg:DZ}{base:dV}{k:Nat}{x:Str}{st:en}{C:cI}{TF:ZF}{N ps:zn Str}
theorem ES(A:d9 K mg x st ps)(hd:wB N ps st=aG)(O:N.length=5)(z:ps.length=2)
 (U:∀X,X.prog=P->X.w=w->X.K=K->X.mg=mg->X.base=base->SX X (zK st) N N k->h8 X (jn st) (pV (aD (tC .dw)<|yK 2)<|pV (aD (tC .dw)<|yK 3)<|pV (MN X.K C TF)<|tS X.K Uw)):
 C4 P w K mg base (k+1) x C TF:=by
 let(f,fd,I,hb,hm):=A.ex;have S:=xl hd;show(f,fd,ps,z,?_,hm,I.kp,.all hb);show I.ok S (λvs H Q E h=>by let(g,p,m,v,d,l,n,o,j,rfl,_):=h;show z.symm) λT A b s H vs Q E W Y=>(_,U _ rfl rfl rfl rfl rfl (rfl,rfl,S.nd,rfl,W,λ_ _=>.inl rfl),?_);show dj λZ=>?_;let(g,p,m,v,d,l,n,o,j,rfl,s0,h0,hp,rv,J,ef,qq):=Y;show Z ?_;have r G:Rep K G .dw .dw:=(rfl);show(g,p,m,v,d,l,n,o,j,?_,?_,s0,h0,hp,rv,J,ef,λu v' t a e F L ru M=>?_)
 .rfl
 .rfl
 show(a,t,a,_,_,(((Ie (p:=p) O e.sub<|J.mono e.s0).nF (i:=2) (r a)).nF (i:=3) (r a)).nF (i:=3) ru,rfl,λu2 B R y r2=>qq u2 v' B R (e.trans y) (y.s1 _ _ F) (y.new p L ()) r2<|M.mono y.s0)
end
section
variable{X:Cx}{i:Nat}{C:cI}{TF:ZF}{c:dE}{fe fr:CO D}{S:CO Fl}{pos:eg}{st:en}{b rest:zn en}
theorem ziL(i:Nat)(Z:rb X.K C)(B:PS X st (aD (eP C (MU C) [] E0 pW)<|yK i))(hc:PT X c (u_ X.K i C<|Dz TF fe fr))(hb:h8 X b (Mh<|tC<|.bl bB))(L:VT X rest S):VT X (st :: .If c b [] pos::rest) (iW i TF fe fr S):=by
 intro a s A H D I u;show(qL B<|qL (tU hc hb KM) L) a s A H D I ?_;show dj λJ=>?_;let(Q,U,e,E,o,d,y,W):=u;show J ?_;erw[iW]at y;split at y
 .next w=>
  show dj λJ=>?_;let(x,k):=w;let(r,n,y):=zb y;show J ?_;intro p g O l m;show(p,g,rfl,zA,rfl,?_);rw[ZQ];have h:Ext e H e (upd H g<|.own p):=Ext.hide d.rc.sub l _;show(p,g,Q,U,e,_,.dw,r,((d.forget).step (h.trans<|Ext.hide h.sub (by rw[zC (ew m)];show O) _),x,by rw[mV (by rw[d.rc.len];show k)],jw d.rc.sub O,jw d.ext.s1 O,.dw,zA,rfl),n,λj f z=>?_);by_cases Y:r.1=aG
  .rw[DJ Y]at y ⊢
   cases y;show W (.bl bB) j f z.rs.ext rfl
  .rw[DY Y]at y ⊢
   let(v,g1,g2):=z.hp;have q:=(z.rs.zkv z.nn g1 Ah z.h0 z.he).nF (i:=i) (Cp (t:=.dw) Z.at_ zA (g2.mono<|js z.h0 _) rfl);rw[ML,ML]at q;show(Q,U,_,_,o,q,y,W)
 lia
end
def J5:=ju 2<|yH<|zL (Xk<|zf 0) (.tp [0,1]) 2 [1] (sB<|wt l0 l0 (cR (zh 1)<|sI 0) (zf 2)<|cR (zh 1)<|sI 1) (zf 0)
def uC:=eI (bu (sB<|zF ti (J7<|zh 0)<|sI 1)<|sB<|zF ei (zF yL (cR (zh 0)<|sI 0)<|sI 2)<|sI 1) (zW (jF 2<|cR (zh 0)<|zF qv (sI 1)<|zF yL (zf 1)<|zF W3 (J7<|zh 0)<|sI 1)<|zW (XU (jv<|Nb (sI 60)<|zF VO (zf 1)<|zF W3 (J7<|zh 0)<|sI 1) (.nm 3)<|jF 2<|zF VO (zf 2)<|zF LI (sI 10)<|sI 9)<|qo<|zF yL (zf 2)<|zF LI (sI 10)<|sI 9) jO
def E8:=eI (sB<|zF ti (J7<|zh 0)<|sI 0) (jF 4<|cR (zh 0)<|zF yL (zf 1)<|J7<|zh 0) jO
def O5:=qo<|zF yL (zF vE (zF yL (zF qv (zF qv (zF qv (zF vE (zF yL (zf 4)<|zF LI (sI 10)<|sI 30)<|sI 48271)<|zF vE (zF vE (sI 7)<|zf 1)<|zf 1)<|zF vE (sI 13)<|zf 1)<|sI 5)<|sI 2147483647)<|sI 69621)<|sI 1000000007
def jU:=ju 5<|zW uC<|zW (jF 4<|zf 1)<|zW E8 O5
def kj:=ju 3 (qo (wA (je (.str "")) (jq (zL (jv (zF W3 (zf 2) (sI 1))) (.nm 0) 1 [0,1] jb (iT (je (.str "rl")) (zF yL (zF VO (zD jU (zc (zf 1) (zc (zF qv (zf 2) (zf 0)) zH))) (sI 8)) (sI 2)))))))
def km:=ju 8<|zW (yG 4<|xY zH)<|zW (XU (jv<|zf 3) (.nm 5)<|zW (jF 6<|zD jU<|zc (zf 0)<|zc (zF qv (zf 1)<|zf 5) zH)<|zW (jF 7<|zF yL (zf 6)<|zf 2)<|qk 4<|kN<|zc (zf 7)<|zc (zF qv (zf 7)<|zF yL (zF VO (zf 6)<|sI 16)<|zF W3 (zf 2)<|zf 7) zH)<|yH<|FW<|zh 4
def j5:=ju 2<|yH<|zL (Xk<|zf 0) (.tp [0,1]) 2 [1] (sB<|wt l0 l0 (cR (zh 1)<|sI 0) (zf 2)<|cR (zh 1)<|sI 1) (zf 0)
def uF:=(zW (jF 7 (zF qv (zf 5) (QH (zF ei (zf 6) (je (.str "l")))))) (zW (jF 8 (zF qv (zf 5) (QH (zF ei (zf 6) (je (.str "r")))))) (zW (jF 9 (jY (zL (zR (jq (jx j5 (zc (zf 2) (zc (zf 8) zH))))) (.nm 0) 1 [2,7] jb (jt (jq (zL (zR (jq (jx j5 (zc (zf 1) (zc (zf 2) zH))))) (.nm 0) 1 [0] jb (QH (zF ei (zf 1) (zf 0))))))))) (qk 4 (kN (zc (zf 6) (zc (kN (zc (cR (zh 3) (zf 8)) (zc (cR (zh 3) (zf 7)) (zc (jt (zh 9)) zH)))) zH)))))))
def wa:=ju 10<|zW (jF 3<|jY<|zL (jv<|zF qv (Nc<|zf 1)<|sI 1) (.nm 0) 1 [2] jb (J7<|jq<|jx j5<|zc (zf 1)<|zc (zf 0) zH))<|zW (yG 4<|xY zH)<|zW (XU (sM<|zf 1) (.tp [5,6]) uF)<|qo<|kN<|zc (zf 0)<|zc (jt<|zh 3)<|zc (jt<|zh 4) zH
def xH:=ju 5<|zW (jF 3<|jY<|zL (eZ (cR (zh 0)<|sI 2)<|cR (zh 2)<|sI 2) (.tp [0,1]) 2 [] jb (zF qv (zf 0)<|zf 1))<|zW (jF 4<|jY<|zL (zR<|zN<|cR (zh 1)<|sI 2) (.nm 0) 1 [0] jb (zF qv (zF vE (kN<|zc (sI 0) zH)<|cR (zh 1)<|sI 1)<|zf 0))<|qo<|kN<|zc (zF qv (cR (zh 0)<|sI 0)<|cR (zh 1)<|sI 0)<|zc (zF qv (cR (zh 0)<|sI 1)<|cR (zh 1)<|sI 1)<|zc (jt<|zN<|jY<|Y0 (zh 3)<|zh 4) zH
def J0:=ju 2<|qo<|zD ki<|zc (cR (zh 0)<|sI 0)<|zc (cR (zh 1)<|sI 1) zH
def qN:=ju 2<|qo<|zD xH<|zc (zf 0)<|zc (zf 1)<|zc (zD J0<|zc (zf 0)<|zc (zf 1) zH) zH
def v9:=ju 3<|yH<|jx qJ<|zc (zf 0)<|zc (cR (zh 1)<|sI 0)<|zc (jY<|zL (zR<|zh 2) (.nm 0) 1 [0,1] jb (zD iq<|zc (zf 1)<|zc (zf 2)<|zc (zf 0) zH)) zH
def oQ:=(Ru 4<|yG 4<|FZ v9 qy<|zc (cR (zh 0)<|sI 0)<|zc (cR (zh 5)<|sI 0)<|zc (zD qN<|zc (zf 3)<|zc (cR (zh 5)<|sI 1) zH)<|zc (zf 4) zH)
def mQ:=ju 6<|zW (jF 3<|zD qr<|zc (cR (zN<|cR (zh 0)<|sI 1)<|zf 1) zH)<|zW (yG 4<|zL (zR<|zN<|cR (zh 3)<|sI 2) (.nm 0) 1 [] jb (zF qv (zf 0)<|zf 0))<|zW (XU (zR<|zN<|dX (cR (zh 0)<|sI 2) (fP<|zf 1)<|fP<|zf 2) (.nm 5) oQ)<|XB 4
abbrev mu(k:Sk)(xs:zn D):D:=match k with|.T=>D.tup xs|.L=>D.lst xs
@[simp] theorem zaq(k xs):qc (mu k xs)=aF (k,xs):=by cases k<;>rfl
theorem VU(k:Sk)(f:Nat->Int)(z:0<p)(e:n<=lim):
 ke [.int p,mu k (zU n f)]=aF (.val<|.tup<|zU n λi=>f i%p):=by
 simp[ke,ju,z7,jj,e,yo];erw[zU];rw[zk (r:=λi=>D.int<|f i%p)]
 .simp
 .intro i a
  show zm rfl rfl ?_;simp[z]
theorem Bz(f:Nat->Int)(z:0<p)(e:n<=lim):
 ke [.int p,.tup (zU n f)]=aF (.val<|.tup<|zU n λi=>f i%p):=VU .T f z e
theorem JY(f:Nat->Int)(z:0<p)(e:n<=lim):
 ke [.int p,.lst (zU n f)]=aF (.val<|.tup<|zU n λi=>f i%p):=VU .L f z e
theorem aA(k:Sk)(f:DW)(g:Nat->Int)(B:0<p)(y:h<=lim)(H:w<=lim)(e:∀i j,i<h->j<w->0<=f i j/\f i j<100):
 iq [.int p,qh h w f,mu k (zU w g)]=aF (.val<|.tup<|zU h λi=>zo (λj=>f i j*g j) w%p):=by
 simp[iq,ju,z7,jj,y,yo,qh,d5];erw[ja];rw[zk]
 .simp
  rw[show(List.map _ _)=zU h _ from rfl,JY _ B y];rfl
 .intro i a
  show zm rfl rfl ?_;simp[jj,XR,H];rw[zk]
  .simp
   rw[show(List.map _ _)=zU w _ from rfl,Jo]
  .intro j z
   show zm rfl rfl ?_;have:=e i j (ed.mp a)<|ed.mp z;simp[ZM (f i j) (g j) () ()]
theorem JZ(f:DW)(y:h<=lim)(e:w<=lim):qM [qh h w f]=aF (.val<|qh w h λi j=>f j i):=by
 simp[qM,ju,z7,jj,y,e,yo,qh,d5,jd,qb];rw[z9 w λi=>i];rw[zk]
 .rfl
 .intro j z
  show zm rfl rfl ?_;simp[jj,y,yo];erw[ja];rw[zk]
  .rfl
  .intro i a
   show zm rfl rfl ?_
   simp_all
theorem vD(e:n<=lim):qr [.int n]=aF (.val<|qh n n λi j=>if i=j then 1 else 0):=by
 simp[qr,ju,z7,jd,e,jj,yo,d5,qb];rw[z9 n λi=>i];rw[zk]
 .rfl
 .intro i a
  show zm rfl rfl ?_;simp[e,jj,d5,qb,yo];rw[z9 n λi=>i];rw[zk]
  .rfl
  .intro j y
   show zm rfl rfl ?_;simp;lia
theorem wJ(d:D)(w:Nat):d5 w d=(cT w).map λ_=>d:=by
 induction w with
 |zero=>rfl
 |succ n y=>simp?[List.replicate_succ',y,sD,n6];simp
theorem zh2(y:h<=lim)(e:w<=lim):ki [.int h,.int w]=aF (.val<|qh h w λ_ _=>0):=by simp[ki,ju,z7,jd,vE,y,e];rw[wJ,wJ];rfl
def X6(e:zn Int):D:=.lst (e.map D.int)
mutual
theorem y4:∀d:D,hC d d=aG
 |.dw=>rfl
 |.bl b=>by simp[hC]
 |.int i=>by simp[hC]
 |.str x=>by simp[hC]
 |.tup e=>by simp?[hC];show y6 e
 |.lst e=>by simp?[hC];show y6 e
 |.exc c n=>by simp[hC]
 |.hV a b=>by simp?[hC];rw[y6 a,y6 b];rfl
 |.i4 a b=>by simp?[hC];rw[y6 b];simp
 |.ins a b c=>by simp?[hC];rw[y4 b,y4 c];simp
theorem y6:∀e:zn D,oO e e=aG
 |[]=>rfl
 |d::e=>by simp?[oO,y4 d,y6 e,Bool.and_self]
end
theorem X7:∀{l:zn D} {n:Nat},(∀d∈l,deep d<=n)->oN l<=n
 |[],n,_=>l6 n
 |d::ds,n,h=>by simp?[oN];show Nat.max_le.mpr (h d gH,X7 λe a=>h e<|gy _ a)
theorem Fm(n f):deep (.tup<|zU n f)<=1:=by
 simp?[deep];have:oN (zU n f)<=0:=X7 λd a=>by simp[zU]at a;let(i,_,rfl):=a;show ec _
 lia
theorem Fo(h w f):deep (.tup<|ja h w f)<=2:=by
 simp?[deep];have:oN (ja h w f)<=1:=X7 λd a=>by simp[ja]at a;let(i,_,rfl):=a;show Fm _ _
 lia
theorem WB:∀{l:zn D},(∀d∈l,gx d=aG)->oR l=aG
 |[],_=>rfl
 |d::ds,h=>by simp?[oR,h d gH,WB λe a=>h e<|gy _ a,Bool.and_self]
theorem lO(h:deep d<=n)(z:n<=20)(e:gx d=aG):g7 d=aG:=by erw[g7];rw[e,Bool.and_true];show decide_eq_true<|fZ h z
theorem IU(n f):gx (.tup<|zU n f)=aG:=by
 simp?[gx];show WB λd a=>by simp[zU]at a;let(i,_,rfl):=a;rfl
theorem IV(h w f):gx (.tup<|ja h w f)=aG:=by
 simp?[gx];show WB λd a=>by simp[ja]at a;let(i,_,rfl):=a;show IU _ _
theorem mD(h:g7 d=aG):ei d d=aF (.bl aG):=by erw[ei];rw[DJ (h,h),y4]
theorem W4(h:g7 d=aG):kA d d=aF (.bl bB):=by erw[kA];rw[DJ (h,h),y4];rfl
theorem wF(l:zn α):Jl (l.map λ_=>D.bl aG)=aF (l.map λ_=>aG):=by
 induction l with
 |nil=>rfl
 |cons a l y=>simp[Jl,Rm,y]
theorem JX(l:zn α):((l.map λ_=>aG).all id)=aG:=by
 induction l with
 |nil=>rfl
 |cons a l y=>simp[y]
theorem VA(k:Int)(y:0<k):∃n:Nat,m%k=n/\n<k:=by have b:=m9 m y;let(n,a):=K2 (mZ m<|show k≠0 by lia);show(n,a,())
theorem zjM(c:Str)(n:xz Int)(h:c∈(["NoPrime","Nought","NoTable","NoWidths","NoRow","Unlike","TooMany","NoTurn","NoLine","Nothing","NoArrow","NoText","NoRoom"]:zn Str)):Jj [.exc c n]=aF (.own [.str c]):=by simp?[eL,lp,or_false]at h;rcases h with rfl|rfl|rfl|rfl|rfl|rfl|rfl|rfl|rfl|rfl|rfl|rfl|rfl<;>kernel_rfl
def f6(b:Bool):Nat:=if b then 108 else 114
def jW(c:Nat):Str:=⟨#[c]⟩
theorem QV:∀l,(ng "" (l.map jW)).cps.toList=l
 |[]=>rfl
 |[c]=>rfl
 |c::d::l=>by
  change(_++ng "" _).cps.toList=_;have e:∀a b:Str,(a++b).cps.toList=a.cps.toList++b.cps.toList:=λa b=>by change(a.cps++b.cps).toList=_;simp
  simp?[e,e,(QV (d::l))];rfl
def BO(m:Nat)(w:DV):Str:=ng "" ((cT m).map λk=>jW (f6 (w k)))
theorem Vg(m w):(BO m w).cps.toList=(cT m).map λk=>f6 (w k):=by have:=QV<|(cT m).map λk=>f6<|w k;rw[gj]at this;show this
theorem iw(m w):(BO m w).length=m:=by change(BO m w).cps.size=m;rw[<-sj,Vg];simp
theorem zit(w)(e:m<=1000):zT (BO m w)=aG:=decide_eq_true (by rw[iw];show e)
theorem Jp(g:α->Str):∀l:zn α,ba (l.map λx=>D.str<|g x)=aF (l.map g)
 |[]=>rfl
 |a::l=>by simp[ba,Jp g l]
def fm(w:DV)(wd:DX)(k:Nat):Nat:=if w k then wd k else wd (k+1)
def eX(w:DV)(wd:DX)(k:Nat):Nat:=if w k then wd (k+1)else wd k
def vX(w:DV)(wd:DX)(T:DQ)(k:Nat):D:=.tup [.str (jW<|f6<|w k),qh (fm w wd k) (eX w wd k) (T k)]
def xt(m:Nat)(w:DV)(wd:DX)(T:DQ):zn D:=(cT m).map (vX w wd T)
def qE(p:Int)(m:Nat)(w:DV)(wd:DX)(T:DQ):D:=.tup [.int p,.tup<|zU (m+1) λk=>(wd k:Int),.tup (xt m w wd T)]
@[simp] theorem zl7(m w wd T):(xt m w wd T).length=m:=by simp[xt]
theorem Hi(b:Bool):ei (.str (jW (f6 b))) (.str "l")=aF (.bl b):=by
 have e:∀b,(jW (f6 b)==(hG "l"))=b:=by decide +kernel
 have y:∀b,g7 (.str<|jW<|f6 b)=aG:=by decide +kernel
 erw[ei];rw[DJ (y b,by decide +kernel)];change aF (D.bl (jW (f6 b)==hG "l"))=_;rw[e]
theorem Ot(b:Bool):g7 (.str<|jW<|f6 b)=aG:=by cases b<;>decide +kernel
theorem gK(b:Bool):ei (.str (jW (f6 b))) (.str "r")=aF (.bl (!b)):=by
 have e:∀b,(jW (f6 b)==(hG "r")) = !b:=by decide +kernel
 erw[ei];rw[DJ (Ot b,by decide +kernel)];change aF (D.bl (jW (f6 b)==hG "r"))=_;rw[e]
theorem ZO(i:Int):qz [.int i]=aF (.val<|.bl aG):=by simp[qz,ju,z7,BF]
theorem Xx(n k:Int):kx [.int n,.int k]=aF (.val<|.bl<|decide (0<=k)&&decide (k<n)):=by by_cases h:0<=k<;>simp[kx,ju,z7,ZO,wt,h]
theorem AV(f:Nat->D)(B:i<=j)(e:j<=n):Vd ((cT n).map f) (aF i) (aF j)=(cT<|j-i).map λk=>f (i+k):=by
 have c d k:k<=n->YA n d (aF k)=k:=λz=>by change(if k<0 then ((k:Int)+n).toNat else min _ n)=k;rw[DY ()];simp?[L3];lia
 have y:((cT n).map f).length=n:=by simp
 erw[Vd];rw[y,c 0 i (),c n j e];apply List.ext_getElem
 .simp;lia
 .intro k I g2
  simp
section
theorem Pk(e:i<=j)(z:j<=m):Vd (xt m w wd T) (aF i) (aF j)=xt (j-i) (λk=>w<|i+k) (λk=>wd<|i+k) (λk=>T<|i+k):=by erw[xt];rw[AV _ e z];rfl
end
section
variable{p:Int}
theorem aB(e:p=2\/p=3\/p=5\/p=7):Xf [.int p]=aF (.val<|.bl aG):=by rcases e with rfl|rfl|rfl|rfl<;>kernel_rfl
theorem Xw{n:Nat}(h:n<=30):Zi [.int n]=aF (.val<|.bl aG):=by
 have a:(n:Int)<=30:=()
 simp[Zi,ju,z7,ZO,wt,(),a]
def wZ(h w:Nat)(f:DW):zn D:=(cT h).map λi=>D.lst<|zU w<|f i
@[simp] theorem zmc(h w f):(wZ h w f).length=h:=by simp[wZ]
theorem J3(l:zn D)(h:l.length=n):xw [.lst l,.int n]=aF (.val<|.bl aG):=by simp[xw,ju,z7,sJ,BF,h]
theorem zg2(f:Nat->Int)(e:w<=lim):Zj [.int w,.lst (zU w f)]=aF (.val<|.bl aG):=by
 have a:zI (.nm 0) jb (zD qz<|zc (zf 0) zH) [Cell.no] (zU w f)=aF ((cT w).map λ_=>D.bl aG):=by rw[z9];show zk _ _ λj y=>zm rfl rfl ?_;rfl
 simp[Zj,ju,z7,J3 (n:=w) (zU w f) (),e,jj,a,wF,JX,d5]
theorem ay{h w:Nat}(e:p=2\/p=3\/p=5\/p=7)(z:h<=30)(B:w<=30)(f:DW):Zt [.int p,.int h,.int w,.lst (wZ h w f)]=aF (.val<|qh h w λi j=>f i j%p):=by
 have Q:=jf;have I:h<=lim:=()
 have y:w<=lim:=()
 have J:zI (.nm 0) jb (zD Zj<|zc (zf 1)<|zc (zf 0) zH) [Cell.no,vI w] (wZ h w f)=aF ((cT h).map λ_=>D.bl aG):=by erw[wZ];show zk _ _ λj O=>zm rfl rfl ?_;simp[zg2 (f j) y]
 have g2:zI (.nm 0) jb (zD ke<|zc (zf 1)<|zc (zf 0) zH) [Cell.no,vI p] (wZ h w f)=aF (ja h w λi j=>f i j%p):=by erw[wZ,ja];show zk _ _ λj O=>zm rfl rfl ?_;simp[JY (f j) (():0<p) y]
 simp[Zt,ju,z7,jd,aB e,Xw z,Xw B,J3 (n:=h) (wZ h w f) (),I,jj,yo,J,g2,wF,JX,d5];rfl
end
theorem zB:∀{n:Nat},(∀k,k<n->f k=g k)->zo f n=zo g n
 |0,_=>rfl
 |n+1,h=>by simp?[zo];rw[zB λk y=>h k (),h n ()]
theorem zX(n:Nat):zo (λ_=>0) n=0:=by
 induction n with
 |zero=>rfl
 |succ n y=>simp[zo,y]
theorem zV(B:i<n)(h:∀k,k<n->k≠i->f k=0):zo f n=f i:=by
 induction n with
 |zero=>lia
 | succ n y=>
  simp?[zo];by_cases e:i=n
  .subst e
   rw[zB (λk z=>h k () ()),zX];lia
  .rw[y () λk z=>h k (),h n () ()]
   lia
theorem jN(f g:Nat->Int)(n:Nat):zo (λk=>f k+g k) n=zo f n+zo g n:=by
 induction n with
 |zero=>rfl
 |succ n y=>simp?[zo,y];lia
theorem xV(f:Nat->Int)(c:Int)(n:Nat):zo (λk=>f k*c) n=zo f n*c:=by
 induction n with
 |zero=>simp[zo]
 |succ n y=>simp?[zo,y,Nj]
theorem jS(f:Nat->Int)(c:Int)(n:Nat):zo (λk=>c*f k) n=c*zo f n:=by
 induction n with
 |zero=>simp[zo]
 |succ n y=>simp?[zo,y,D5]
theorem xU(f:DW)(n m:Nat):zo (λi=>zo (λj=>f i j) m) n=zo (λj=>zo (λi=>f i j) n) m:=by
 induction n with
 |zero=>simp[zo,zX]
 |succ n y=>simp?[zo];rw[y,<-jN]
theorem zZ:∀{n:Nat},(∀k,k<n->f k%p=g k%p)->zo f n%p=zo g n%p
 |0,_=>rfl
 |n+1,h=>by simp?[zo];rw[ix,zZ<|λk y=>h k (),h n (),<-ix]
theorem cE(p x y:Int):(x*(y%p))%p=(x*y)%p:=by rw[eG,kR,<-eG]
abbrev Vc:=Nat->Int
def Pr(p:Int):Prop:=p=2\/p=3\/p=5\/p=7
theorem Pr.pos(h:Pr p):0<p:=by erw[Pr]at h;lia
theorem Pr.two(h:Pr p):2<=p:=by erw[Pr]at h;lia
theorem Pr.le(h:Pr p):p<=7:=by erw[Pr]at h;lia
theorem Pr.one(h:Pr p):1%p=1:=sd () (by have:=h.two;lia)
inductive Span(p:Int)(n:Nat)(G:Vc->Prop):Vc->Prop where
 |zero {v:Vc}:(∀i,i<n->v i%p=0)->Span p n G v
 |step {v w g:Vc} {c:Int}:G g->Span p n G w->(∀i,i<n->v i%p=(w i+c*g i)%p)->Span p n G v
section
theorem Span.congr(h:Span p n G v)(e:∀i,i<n->v' i%p=v i%p):Span p n G v':=by
 cases h with
 |zero h=>show .zero λi a=>by rw[e i a,h i a]
 |step y b h=>show .step y b λi a=>by rw[e i a,h i a]
theorem Span.gen(h:G g):Span p n G g:=.step (c:=1) h (.zero (v:=λ_=>0) λi _=>by simp) λi _=>by simp
theorem Span.add(z:Span p n G v)(B:Span p n G w):∀c,Span p n G λi=>w i+c*v i:=by
 induction z with
 |zero h=>
  intro c;show B.congr λi a=>?_;rw[ix,eG,h i a];simp
 |@step v b g y I O h J=>
  intro c;show .step (c:=c*y) I (J c) λi a=>?_;have e:(c*v i)%p=(c*(b i+y*g i))%p:=by rw[eG,h i a,<-eG]
  rw[ix,e,<-ix];congr 1;rw[D5,<-oX,Int.add_assoc]
theorem Span.smul(y:Span p n G v)(c:Int):Span p n G λi=>c*v i:=
 (y.add (w:=λ_=>0) (.zero λi _=>by simp) c).congr λi _=>by simp
theorem Span.le(h:Span p n G v)(y:∀g,G g->Span p n G' g):Span p n G' v:=by
 induction h with
 |zero h=>show .zero h
 |step z a h I=>show((y _ z).add I _).congr h
end
structure eH(p:Int)(n r:Nat)(B:Nat->Vc)(l:DX):Prop where
 lt:∀k,k<r->l k<n
 mono:∀k m,k<m->m<r->l k<l m
 one:∀k,k<r->B k (l k)=1
 ij:∀k j,k<r->j<l k->B k j=0
 nE:∀k m,k<r->m<r->m≠k->B k (l m)=0
 hM:∀k i,k<r->i<n->0<=B k i/\B k i<p
def dP(r:Nat)(B:Nat->Vc):Vc->Prop:=λv=>∃k,k<r/\v=B k
section
variable{n r r':Nat}{l l':DX}
theorem XO(e:eH p n r B l)(h:Span p n (dP r B) v):∀i,i<n->v i%p=zo (λk=>v (l k)*B k i) r%p:=by
 induction h with
 |@zero v h=>
  intro i a;rw[h i a];have:zo (λk=>v (l k)*B k i) r%p=zo (λ_=>0) r%p:=zZ λk y=>by rw[eG,h _ (e.lt k y)];simp
  rw[this,zX];rfl
 |@step v w g c z f h I=>
  intro i a;let(m,b,rfl):=z;rw[h i a];have d:zo (λk=>v (l k)*B k i) r%p=zo (λk=>_+_) r%p:=zZ λk y=>by rw[eG,h _<|e.lt k y,<-eG,Nj]
  have J:zo (λk=>c*B m (l k)*B k i) r=c*B m i:=by rw[zV b λk y O=>by rw[e.nE m k b y O];simp,e.one m b];simp
  rw[d,jN,J,ix,I i a,<-ix]
theorem gu(H:eH p n r B l)(h:Span p n (dP r B) v)(z:j<n)(L:v j%p≠0)(I:∀i,i<j->v i%p=0):∃k,k<r/\l k=j:=by
 apply dj;intro J;apply L;rw[XO H h j z];have:zo (λk=>v (l k)*B k j) r%p=zo (λ_=>0) r%p:=zZ λk y=>by
  have O:l k≠j:=λe=>J (k,y,e);rcases fY (l k) j with q|q
  .rw[eG,I _ q];simp
  .rw[H.ij k j y ()];simp
 rw[this,zX];rfl
theorem lY(O:∀k m,k<m->m<r->l k<l m)(Q:∀k m,k<m->m<r'->l' k<l' m)(e:∀k,k<r->∃m,m<r'/\l' m=l k)(B:∀k,k<r'->∃m,m<r/\l m=l' k):
 ∀k,k<r->k<r'/\l k=l' k:=by
 intro k
 induction k using Nat.strongRecOn with
 | ind k I=>
  intro J;let(m,a,U):=e k J;have W:k<=m:=by
   rcases fY m k with q|q
   .have:=(I m q ()).2
    have:=O m k q J;lia
   .exact q
  have y:k<r':=()
  show(y,?_);let(q,b,Y):=B k y;have Z:k<=q:=by
   rcases fY q k with z|z
   .have:=(I q z ()).2
    have:=Q q k z y;lia
   .exact z
  rcases fY k m with z|z
  .grind
  grind
theorem YD(S:Pr p)(e:eH p n r B l)(z:eH p n r' B' l')(H:∀v,Span p n (dP r B) v->Span p n (dP r' B') v)(L:∀v,Span p n (dP r' B') v->Span p n (dP r B) v):
 r=r'/\(∀k,k<r->l k=l' k)/\∀k i,k<r->i<n->B k i=B' k i:=by
 have one:=S.one;have f:=λk y=>gu z (H _<|.gen (k,y,rfl)) (e.lt k y) (by rw[e.one k y,one];decide) λi a=>by rw[e.ij k i y a];simp
 have g:=λk y=>gu e (L _<|.gen (k,y,rfl)) (z.lt k y) (by rw[z.one k y,one];decide) λi a=>by rw[z.ij k i y a];simp
 have b:=lY e.mono z.mono f g;have O:r=r':=by
  rcases _l r r' with q|q|q
  .exact absurd ((lY z.mono e.mono g f) r q).1 (m6 _)
  .exact q
  .exact absurd (b r' q).1 (m6 _)
 subst O;show(rfl,λk y=>(b k y).2,λk i y a=>?_);have c:=XO z (H _<|.gen (k,y,rfl)) i a;rw[zV y λm d Q=>by rw[<-(b m d).2,e.nE k m y d Q];simp,<-(b k y).2,e.one k y,M9]at c;have I:=e.hM k i y a;have J:=z.hM k i y a;rw[sd I.1 I.2,sd J.1 J.2]at c;show c
end
theorem jB(q:α->Bool)(r:α->D):∀(l:zn α),(∀x∈l,∃γ1,kM T (g x) γ=aF γ1/\k γ1=aF (q x)/\(q x=aG->f γ1=aF (r x)))->
 zI T k f γ (l.map g)=aF ((l.filter q).map r)
 |[],_=>rfl
 |x::l,h=>by
  let(γ1,a,b,d):=h x gH;have I:=jB q r l λy z=>h y<|gy _ z;simp?[mc,zI,a,b,eK]
  grind
theorem GZ(e:Pr p)(z:0<x)(B:x<p):∃y:Nat,1<=y/\y<p/\y*x%p=1:=by
 rcases e with rfl|rfl|rfl|rfl
 .obtain rfl:x=1:=()
  show(1,(),(),())
 .rcases (():x=1\/x=2)with rfl|rfl
  .exact(1,(),(),())
  .exact(2,(),(),())
 .rcases (():x=1\/x=2\/x=3\/x=4)with rfl|rfl|rfl|rfl
  .exact(1,(),(),())
  .exact(3,(),(),())
  .exact(2,(),(),())
  .exact(4,(),(),())
 .rcases (():x=1\/x=2\/x=3\/x=4\/x=5\/x=6)with rfl|rfl|rfl|rfl|rfl|rfl
  .exact(1,(),(),())
  .exact(4,(),(),())
  .exact(5,(),(),())
  .exact(2,(),(),())
  .exact(3,(),(),())
  .exact(6,(),(),())
theorem Xv{q:DV}{n a:Nat}{rest:zn Nat}(h:(cT n).filter q=a::rest):a<n/\q a=aG/\∀i,i<a->q i=bB:=by
 have b:a∈(cT n).filter q:=by rw[h];show gH
 show(ed.mp (nN.mp b).1,(nN.mp b).2,λi d=>?_);apply dj;intro f;have y:i∈a::rest:=by grind
 rcases eL.mp y with e|e
 .lia
 .have:=(List.pairwise_cons.mp<|by rw[<-h];show _k _ R0).1 i e;lia
theorem zg3(e:Pr p)(z:0<x)(B:x<p):∃y,YV [.int p,.int x]=aF (.val<|.int y)/\1<=y/\y<p/\x*y%p=1:=by
 rcases e with rfl|rfl|rfl|rfl
 .have:x=1:=()
  subst this;show(1,rfl,(),(),())
 .have:x=1\/x=2:=()
  rcases this with rfl|rfl
  .exact(1,rfl,(),(),())
  .exact(2,rfl,(),(),())
 .have:x=1\/x=2\/x=3\/x=4:=()
  rcases this with rfl|rfl|rfl|rfl
  .exact(1,rfl,(),(),())
  .exact(3,rfl,(),(),())
  .exact(2,rfl,(),(),())
  .exact(4,rfl,(),(),())
 .have:x=1\/x=2\/x=3\/x=4\/x=5\/x=6:=()
  rcases this with rfl|rfl|rfl|rfl|rfl|rfl
  .exact(1,rfl,(),(),())
  .exact(4,rfl,(),(),())
  .exact(5,rfl,(),(),())
  .exact(2,rfl,(),(),())
  .exact(3,rfl,(),(),())
  .exact(6,rfl,(),(),())
theorem zg4(H:Pr p)(B:n<=lim)(y:t<n)(w P:Nat->Int)(e:∀i,i<n->0<=w i/\w i<p):
 yB [.int p,.tup<|zU n w,.tup<|zU n P,.int t]=aF (.val<|.tup<|zU n λi=>(w i-w t*P i)%p):=by
 have I:=e t y;have J:=H.le;have z x:mJ (w t) x=aG:=ZM _ _ () ();by_cases b:w t=0
 .simp[yB,ju,z7,jd,y,b]
  apply vV;intro i a;rw[sd (e i a).1 (e i a).2]
 .simp[yB,ju,z7,jd,y,b,XR,B,jj,yo,d5]
  rw[zk (r:=λi=>D.int<|w i-w t*P i)]
  .rw[<-z9]
   simp[JY _ H.pos B]
  .intro i a
   show zm rfl rfl ?_;simp[z]
theorem K7{l:DX}{r t:Nat}(e:∀k m,k<m->m<r->l k<l m)(z:∀k,k<r->l k<t):r<=t:=by
 have a:∀k,k<r->k<=l k:=by
  intro k
  induction k with
  |zero=>intro _;show l6 _
  |succ k I=>
   intro y;have b:=e k (k+1) () y;lia
 grind
def Un(r:Nat)(B:Nat->Vc)(m:Nat)(W:Nat->Vc):Vc->Prop:=λv=>dP r B v\/dP m W v
structure q5(p:Int)(n m:Nat)(W:Nat->Vc)(t r:Nat)(B:Nat->Vc)(l:DX)(Wt:Nat->Vc):Prop where
 hM:∀j i,j<m->i<n->0<=Wt j i/\Wt j i<p
 ud:∀j i,j<m->i<t->Wt j i=0
 rH:eH p n r B l
 lt:∀k,k<r->l k<t
 span:∀v,Span p n (Un r B m Wt) v↔Span p n (dP m W) v
section
theorem q5.skip(h:q5 p n m W t r B l Wt)(z:∀j,j<m->Wt j t=0):q5 p n m W (t+1) r B l Wt:=
 (h.hM,λj i y a=>by
  rcases fY i t with q|q
  .exact h.ud j i y q
  .have:i=t:=()
   subst this;show z j y,h.rH,λk I=>oj<|h.lt k I,h.span)
def gP(p:Int)(P:Vc)(t:Nat)(w:Vc):Vc:=λi=>(w i-w t*P i)%p
def oH(p:Int)(P:Vc)(t r:Nat)(B:Nat->Vc):Nat->Vc:=λk=>if k<r then gP p P t (B k)else P
def GK(t r:Nat)(l:DX):Nat->Nat:=λk=>if k<r then l k else t
theorem Kb(y:Span p n G P)(e:Span p n G w):Span p n G (gP p P t w):=
 (y.add e (-(w t))).congr λi _=>by erw[gP];rw[kR];congr 1;rw[Int.neg_mul];lia
theorem iD(y:Span p n G P)(e:Span p n G (gP p P t w)):Span p n G w:=
 (y.add e<|w t).congr λi _=>by
   erw[gP]
   simp_all
theorem q5.next(L:Pr p)(h:q5 p n m W t r B l Wt)(S:t<n)(H:j0<m)(hy:Wt j0 t*y%p=1)(Q:∀i,i<n->P i=y*Wt j0 i%p):
 q5 p n m W (t+1) (r+1) (oH p P t r B) (GK t r l) (λj=>gP p P t<|Wt j):=by
 have x:=L.pos;have A:P t=1:=by rw[Q t S,nj];show hy
 have U i:i<t->P i=0:=λa=>by rw[Q i (),h.ud j0 i H a];simp
 have C i:i<n->0<=P i/\P i<p:=λa=>by rw[Q i a];show(mZ _ (),m9 _ x)
 have s w i:0<=gP p P t w i/\gP p P t w i<p:=(mZ _ (),m9 _ x);have O w i:i<t->0<=w i->w i<p->gP p P t w i=w i:=λa F G=>by erw[gP];rw[U i a,sm,Int.sub_zero];show sd F G
 have u w:gP p P t w t=0:=by erw[gP];simp_all
 show(λj i J a=>s _ _,λj i J a=>?_,(λk I=>?_,λk q E K=>?_,λk I=>?_,λk j I J=>?_,λk q I K ad=>?_,λk i I a=>?_),λk I=>?_,λv=>?_)
 .rcases fY i t with q|q
  .have e:=h.ud j i J q
   rw[O _ i q () ()];show e
  .have:i=t:=()
   subst this;show u _
 .unfold GK;split
  .rename_i q;show h.rH.lt k q
  .exact S
 .unfold GK
  have I:k<r:=()
  rw[DJ I];split
  .rename_i z;show h.rH.mono k q E z
  .exact h.lt k I
 .unfold GK oH;split
  .rename_i q
   have e:=h.rH.one k q;rw[O _ _ (h.lt k q) () (by have:=L.two;lia)];show e
  .exact A
 .unfold oH;erw[GK]at J;split at J
  .rename_i q
   have e:=h.rH.ij k j q J;have M:=h.lt k q;rw[DJ q,O _ _ () () ()];show e
  .rename_i q
   rw[DY q];show U j J
 .unfold oH GK
  by_cases f:k<r
  .rw[DJ f]
   by_cases b:q<r
   .rw[DJ b]
    have e:=h.rH.nE k q f b ad;rw[O _ _ (h.lt q b) () ()];show e
   .rw[DY b];show u _
  .rw[DY f]
   have b:q<r:=()
   rw[DJ b];show U _<|h.lt q b
 .unfold oH;split
  .exact s _ _
  .exact C i a
 .unfold GK;split
  .rename_i q;show oj<|h.lt k q
  .exact o1 _
 .rw[<-h.span v]
  have Y:Span p n (Un r B m Wt) P:=((Span.gen<|.inr (j0,H,rfl)).smul y).congr λi a=>by simp_all
  have o:Span p n (Un (r+1) (oH p P t r B) m λj=>gP p P t<|Wt j) P:=.gen (.inl (r,o1 r,by erw[oH];rw[DY (m6 r)]));constructor
  .refine λZ=>Z.le λg d=>?_
   rcases d with⟨k,I,rfl⟩|⟨j,J,rfl⟩
   .unfold oH;split
    .rename_i q;show Kb Y<|.gen<|.inl (k,q,rfl)
    .exact Y
   .exact Kb Y<|.gen<|.inr (j,J,rfl)
  .refine λZ=>Z.le λg d=>?_
   rcases d with⟨k,I,rfl⟩|⟨j,J,rfl⟩
   .refine iD (t:=t) o (.gen<|.inl (k,oj I,?_))
    erw[oH];rw[DJ I]
   .exact iD o<|.gen<|.inr (j,J,rfl)
theorem q5.done(h:q5 p n m W n r B l Wt)(v:Vc):Span p n (dP r B) v↔Span p n (dP m W) v:=by
 rw[<-h.span v];constructor
 .exact λz=>z.le λg y=>.gen (.inl y)
 .refine λz=>z.le λg y=>?_
  rcases y with y|⟨j,I,rfl⟩
  .exact .gen y
  .exact .zero λi a=>by rw[h.ud j i I a];simp
theorem AL(z:True)(P:Vc):ja (r+1) n (oH p P t r B)=ja r n (λk=>gP p P t<|B k)++[.tup (zU n P)]:=by
 erw[ja];simp?[sD,n6];congr 1
 .apply ll
  intro k y;simp[oH,(ed.mp y)]
 .simp[oH]
end
theorem wj{p:Int}(e:Pr p){n m:Nat}(hn:n<=200)(H:m<=lim)(Q:Sk)(W:Nat->Vc):
 ∃r B l,qJ [.int p,.int n,mu Q (ja m n W)]=aF (.own<|ja r n B)/\eH p n r B l/\∀v,Span p n (dP r B) v↔Span p n (dP m W) v:=by
 have hl:=jf;have U:n<=lim:=()
 have Z:=e.pos;show dj λkZ=>?_;let(γ',X,r,B,l,Wt,f,h,a,b,rfl,z):=(Yt (T:=.nm 5) (F:=JT)
  (λt E=>∃r B l Wt f h a b,E=[vI p,vI n,.val<|mu Q<|ja m n W,.val<|.lst<|ja m n Wt,.own<|ja r n B,f,h,a,b]/\q5 p n m W t r B l Wt)
  ((cT n).map λ(i:Nat)=>D.int i) 0 [vI p,vI n,.val<|mu Q<|ja m n W,.val<|.lst<|ja m n λj i=>W j i%p,.own [],.no,.no,.no,.no]
  (0,λ_ _=>0,λ_=>0,λj i=>W j i%p,.no,.no,.no,.no,rfl,λj i _ _=>(mZ _ (),m9 _ Z),nofun,
   (nofun,nofun,nofun,nofun,nofun,nofun),
   nofun,λv=>(λu=>u.le λg s=>by
    rcases s with⟨k,hk,_⟩|⟨j,J,rfl⟩
    .exact absurd hk<|oi _
    .exact(Span.gen (j,J,rfl)).congr λi _=>kR _ _,λu=>u.le λg s=>by
    let(j,J,rfl):=s;show(Span.gen<|.inr (j,J,rfl)).congr λi _=>(kR _ _).symm)) (by
   rintro t d E o ⟨r,B,l,Wt,f,h,a,b,rfl,z⟩;rw[A4]at z ⊢;have O:= ~~~((kG.mp o).1)
   have G:=by simp[O]at o;show o.symm
   subst G;have Y:zI (.nm 0) (sB<|zF kA (cR (zh 0)<|zf 1)<|sI 0) (zf 0) [Cell.no,vI t] (ja m n Wt)=aF (((cT m).filter λj=> !decide (Wt j t=0)).map λj=>D.tup<|zU n<|Wt j):=by erw[ja];show jB _ _ _ λj J=>(_,rfl,?_,λ_=>rfl);simp[O]
   have hr:=K7 z.rH.mono z.lt;have K:r<=lim:=()
   cases hf:(cT m).filter λj=> !decide (Wt j t=0)with
   |nil=>
    have hz:=λj J=>~~~_e.mp hf j (ed.mpr J)
    rw[hf]at Y;show(_,.inr ?_,r,B,l,Wt,vI t,.val<|.lst [],a,b,rfl,z.skip hz);simp[JT];rw[jd];simp[jd,jj,yo,d5,Y,H]
   |cons I rest=>
    let(w,b0):I<m/\Wt I t≠0:=by have:=nN.mp (by rw[hf];show gH);simpa using this
    have L:=z.hM I t w O;let(y,ey,y1,y2,zlE):=zg3 e () L.2;rw[hf]at Y;show(_,.inl ?_,r+1,oH p (λi=>y*Wt I i%p) t r B,GK t r l,λj=>gP p (λi=>y*Wt I i%p) t<|Wt j,vI t,.val<|.lst<|(I::rest).map λj=>D.tup<|zU n<|Wt j,vI y,.val<|.tup<|zU n λi=>y*Wt I i%p,rfl,z.next e O w zlE λi _=>rfl);have b3:=e.le;have R x:mJ y x=aG:=ZM _ _ () ();have M:zI (.nm 0) jb (zF vE (zf 1)<|zf 0) [Cell.no,vI y] (zU n<|Wt I)=aF (zU n λi=>y*Wt I i):=by simp?[z9,z9];show zk _ _ λi C=>zm rfl rfl ?_;simp[R]
    have A q V:(∀j i,j<q->i<n->0<=V j i/\V j i<p)->zI (.nm 0) jb (zD yB<|zc (zf 1)<|zc (zf 0)<|zc (zf 3)<|zc (zf 2) zH) [Cell.no,vI p,vI t,Cell.val (.tup<|zU n λi=>y*Wt I i%p)] (ja q n V)=aF (ja q n λj=>gP p (λi=>y*Wt I i%p) t<|V j):=λzhY=>by erw[ja];show zk _ _ λj J=>zm rfl rfl ?_;simp[zg4 e U O (V j) (λi=>y*Wt I i%p) λi C=>zhY j i (ed.mp J) C];rfl
    have N:r+1<=lim:=()
    rw[AL trivial];simp[JT];rw[jd];simp[jd,jj,yo,d5,Y,H,U,O,ey,M,JY _ Z U,A m Wt z.hM,A r B z.rH.hM,K,N]))
 show kZ ?_;simp?[gr,pq,A4]at z;show(r,B,l,?_,z.rH,z.done);have P:zI (.nm 0) jb (zD ke<|zc (zf 1)<|zc (zf 0) zH) [Cell.no,vI p] (ja m n W)=aF (ja m n λj i=>W j i%p):=by erw[ja];show zk _ _ λj J=>zm rfl rfl ?_;simp[Bz _ Z U]
 have S:qJ [.int p,.int n,mu Q (ja m n W)]=ju 9 (zW (jF 3<|jY<|zL (zR<|zh 2) (.nm 0) 1 [0] jb (zD ke<|zc (zf 1)<|zc (zf 0) zH))<|zW (yG 4<|xY zH)<|zW (XU (jv<|zf 1) (.nm 5) JT)<|XB 4) [.int p,.int n,mu Q (ja m n W)]:=rfl;rw[S];simp[ju,z7,jd,H,jj,yo,d5,P,U,qb];simp?[z9 n λi=>i,X];simp
theorem kB{p:Int}(z:Pr p){n m:Nat}(H:n<=100)(e:m<=lim)(y:Sk)(W:Nat->Vc):
 ∃r B l,qJ [.int p,.int n,mu y (ja m n W)]=aF (.own<|ja r n B)/\eH p n r B l/\∀v,Span p n (dP r B) v↔Span p n (dP m W) v:=wj z () e y W
def Y9{e:Type}(q:Nat)(x:e)(f:Nat->e):Nat->e:=λk=>if k<q then f k else if k=q then x else f (k-1)
def W9(l:DX)(r x:Nat):Nat:=((cT r).filter λk=>decide<|l k<x).length
theorem W7:∀{r:Nat},(∀k m,k<m->m<r->l k<l m)->(∀k,k<r->l k≠x)->W9 l r x<=r/\(∀k,k<W9 l r x->l k<x)/\∀k,W9 l r x<=k->k<r->x<l k
 |0,_,_=>(ec _,λk y=>absurd y (by simp[W9]),λk _ y=>absurd y<|oi _)
 | r+1,hm,U7=>by
  show dj λI=>?_;let(g,d,f):=W7 (r:=r) (λk m a b=>hm k m a ()) λk y=>U7 k ();show I ?_;have e:W9 l (r+1) x=W9 l r x+if l r<x then 1 else 0:=by erw[W9];rw[sD,S4,n3];by_cases q:l r<x<;>simp[q]
  by_cases q:l r<x
  .rw[e,DJ q]
   have J:W9 l r x=r:=by
    rcases fY _ r with z|z
    .have O:=f _ (ec _) z
     have Q:=hm _ r z<|o1 r;lia
    .lia
   rw[J];show(ec _,λk y=>?_,λk a b=>absurd b ());rcases fY k r with z|z
   .exact d k ()
   .have:k=r:=()
    subst this;show q
  .rw[e,DY q,T7]
   show((),d,λk a b=>?_);rcases fY k r with z|z
   .exact f k a z
   .have:k=r:=()
    subst this;have:=U7 k b;lia
section
structure x7(p:Int)(n r:Nat)(B:Nat->Vc)(l:DX)(w:Vc)(k:Nat)(R:Vc):Prop where
 hM:∀i,i<n->0<=R i/\R i<p
 ud:∀q,q<k->R (l q)=0
 eqv:∀G,(∀k,k<r->Span p n G (B k))->(Span p n G w↔Span p n G R)
theorem x7.next(H:Pr p)(e:eH p n r B l)(h:x7 p n r B l w k R)(y:k<r):x7 p n r B l w (k+1) (gP p (B k) (l k) R):=by
 have J:=H.pos;show(λi _=>(mZ _ (),m9 _ J),λq a=>?_,λG I=>?_)
 .unfold gP
  rcases fY q k with z|z
  .rw[h.ud q z,e.nE k q y () ()];simp
  .have:q=k:=()
   subst this;rw[e.one q y];simp
 .rw[h.eqv G I]
  show((Kb<|I k y),(iD<|I k y))
theorem cV(e:q<=r)(z:k<r+1):(k=q/\Y9 q x f k=x)\/∃y,y<r/\Y9 q x f k=f y/\((k<q/\y=k)\/(q<k/\y+1=k)):=by
 erw[Y9]
 grind
theorem U9:Y9 q x f q=x:=by erw[Y9];rw[DY (m6 _),DJ rfl]
theorem Lj:∃y,(y<q/\y=k\/q<y/\y=k+1)/\Y9 q x f y=f k:=by
 rcases fY k q with z|z
 .exact(k,.inl (z,rfl),by erw[Y9];rw[DJ z])
 .exact(k+1,.inr ((),rfl),by erw[Y9];rw[DY (),DY ()];rfl)
theorem Ll(S:Pr p)(H:eH p n r B l)(ha:a<n)(L:R a=1)(hz:∀i,i<a->R i=0)(Z:∀k,k<r->R (l k)=0)(hR:∀i,i<n->0<=R i/\R i<p):
 eH p n (r+1) (Y9 (W9 l r a) R λk=>gP p R a<|B k) (Y9 (W9 l r a) a l):=by
 have G:=S.pos;let(F,K,M):=W7 H.mono (λk I e=>by have:=Z k I;rw[e,L]at this;lia);have A w i:0<=gP p R a w i/\gP p R a w i<p:=(mZ _ (),m9 _ G);have u w:gP p R a w a=0:=by erw[gP];simp_all
 have h w k:k<r->0<=w (l k)->w (l k)<p->gP p R a w (l k)=w (l k):=λI L C=>by erw[gP];simp?[Z k I,sm,Int.sub_zero];show sd L C
 have x k j:k<r->j<l k->gP p R a (B k) j=0:=λI U=>by
  erw[gP];rw[H.ij k j I U];rcases fY a (l k)with z|z
  .rw[H.ij k a I z];simp
  .rw[hz j ()];simp
 have two:=S.two;have O:∀k,k<r+1->(k=W9 l r a/\Y9 (W9 l r a) R (λk=>gP p R a<|B k) k=R/\Y9 (W9 l r a) a l k=a)\/
  ∃y,y<r/\Y9 (W9 l r a) R (λk=>gP p R a<|B k) k=gP p R a (B y)/\Y9 (W9 l r a) a l k=l y/\((k<W9 l r a/\y=k)\/(W9 l r a<k/\y+1=k)):=by
  intro k I;rcases cV F I with⟨b,Y⟩|⟨y,J,b,Y⟩
  .left;show(b,Y,?_);subst b;show U9
  .right
   show(y,J,b,?_,Y);rcases Y with⟨s,t⟩|⟨s,t⟩
   .unfold Y9;rw[DJ s,t]
   .unfold Y9;rw[DY (),DY ()];congr 1;lia
 show(λk I=>?_,λk m N f=>?_,λk I=>?_,λk j I U=>?_,λk m I f P=>?_,λk i I E=>?_)
 .rcases O k I with⟨_,_,e⟩|⟨y,J,_,e,_⟩
  .rw[e];show ha
  .rw[e];show H.lt y J
 .rcases O k ()with⟨z,_,e⟩|⟨y,J,_,e,z⟩<;>rcases O m f with⟨g,_,W⟩|⟨d,Q,_,W,g⟩<;>simp?[e,W]
  .lia
  .exact M d () Q
  .exact K y ()
  .exact H.mono y d () Q
 .rcases O k I with⟨_,b,e⟩|⟨y,J,b,e,_⟩<;>rw[b,e]
  .exact L
  .have o:=H.one y J
   rw[h _ y J () ()];show o
 .rcases O k I with⟨_,b,e⟩|⟨y,J,b,e,_⟩<;>rw[b]<;>rw[e]at U
  .exact hz j U
  .exact x y j J U
 .rcases O k I with⟨z,b,_⟩|⟨y,J,b,_,z⟩<;>rcases O m f with⟨g,_,W⟩|⟨d,Q,_,W,g⟩<;>rw[b,W]
  .lia
  .exact Z d Q
  .exact u _
  .have o:=H.nE y d J Q ()
   rw[h _ d Q () ()];show o
 .rcases O k I with⟨_,b,_⟩|⟨y,J,b,_,_⟩<;>rw[b]
  .exact hR i E
  .exact A _ _
theorem Lm(B:q<=r)(y:Span p n G R)(z:∀k,k<r->Span p n G (F k)):∀g,dP (r+1) (Y9 q R F) g->Span p n G g:=by
 rintro g ⟨k,I,rfl⟩;rcases cV B I with⟨_,e⟩|⟨J,O,e,_⟩<;>rw[e]
 .exact y
 .exact z J O
theorem La(B:q<=r):dP (r+1) (Y9 q R F) R/\∀k,k<r->dP (r+1) (Y9 q R F) (F k):=by show((q,(),U9.symm),λk z=>?_);let(y,h,e):=Lj;show(y,(),e.symm)
theorem EJ(hp:Pr p)(hb:eH p n r B l)(ha:a<n)(hs:∀v,Span p n (dP r B) v↔Span p n (dP j W) v)(O:x7 p n r B l (W j) r R)(S:y*R a%p=1)(L:∀i,i<n->R' i=y*R i%p)(H:W9 l r a<=r)(v:Vc):
 Span p n (dP (r+1)<|Y9 (W9 l r a) R' λk=>gP p R' a<|B k) v↔Span p n (dP (j+1) W) v:=by
 have m v:Span p n (dP j W) v->Span p n (dP (j+1) W) v:=λJ=>J.le λg d=>by let(i,b,e):=d;show .gen (i,(),e)
 have Q:=λk I=>m _<|(hs _).mp (.gen (k,I,rfl));have U:Span p n _ R':=(((O.eqv _ Q).mp (.gen (j,(),rfl))).smul y).congr λi b=>by simp_all
 let(h,zim):=La H;have Y:Span p n (dP (r+1)<|Y9 _ R' λk=>gP p R' a<|B k) R':=.gen h;have Z:=λk I=>iD Y<|.gen<|zim k I;constructor
 .exact λJ=>J.le<|Lm H U λk I=>Kb U<|Q k I
 .refine λJ=>J.le ?_
  rintro g ⟨i,b,rfl⟩;rcases fY i j with z|z
  .exact((hs _).mpr (.gen (i,z,rfl))).le λg f=>by let(k,I,e):=f;rw[e];show Z k I
  .have:i=j:=()
   subst this;show(O.eqv _ Z).mpr ((Y.smul<|R a).congr λi b=>by
  rw[L i b,cE,<-oX,nj (R a) y,eG,S,M9,kR])
theorem zkh(hs:∀v,Span p n (dP r B) v↔Span p n (dP j W) v)(I:x7 p n r B l (W j) r R)(H:∀i,i<n->R i=0)(v:Vc):Span p n (dP r B) v↔Span p n (dP (j+1) W) v:=by
 constructor
 .exact λy=>((hs v).mp y).le λg (i,a,e)=>.gen (i,(),e)
 .refine λy=>y.le ?_
  rintro g ⟨i,a,rfl⟩;rcases fY i j with z|z
  .exact(hs _).mpr (.gen (i,z,rfl))
  .have:i=j:=()
   subst this;show(I.eqv _ λk J=>.gen (k,J,rfl)).mpr (.zero λi a=>by simp_all)
end
theorem AN(h w f):deep (.lst<|ja h w f)<=2:=Fo h w f
theorem Eh(h w f):gx (.lst<|ja h w f)=aG:=IV h w f
theorem lQ(h w f):g7 (.lst<|ja h w f)=aG:=lO (AN h w f) ()<|Eh h w f
@[simp] theorem zl1(h w f):(wZ h w f).length=h:=by simp[wZ]
section
variable{p:Int}{n m r:Nat}{G:Vc->Prop}
theorem Span.sum{u:Nat->Vc}(c:Nat->Int):∀{m:Nat},(∀k,k<m->Span p n G (u k))->Span p n G λi=>zo (λk=>c k*u k i) m
 |0,_=>.zero λi _=>by simp[zo]
 |m+1,h=>(((h m ()).add (Span.sum c (m:=m) λk y=>h k ()) (c m))).congr λi _=>by rfl
def Rk(p:Int)(n m:Nat)(W:Nat->Vc)(r:Nat):Prop:=∃B l,eH p n r B l/\∀v,Span p n (dP r B) v↔Span p n (dP m W) v
theorem QJ(e:Pr p)(h:Rk p n m W r)(h':Rk p n m W r'):r=r':=by let(B,l,b,a):=h;let(J,d,I,z):=h';show(YD e b I (λv y=>(z v).mpr ((a v).mp y))<|λv y=>(a v).mpr ((z v).mp y)).1
theorem lg(z:Pr p)(e:eH p n r B l)(H:∀i,i<n->0<=w i/\w i<p):∀k,k<=r->∃R,x7 p n r B l w k R
 |0,_=>(w,H,λq a=>absurd a<|oi _,λG _=>Iff.rfl)
 |k+1,h=>by let(R,y):=lg z e H k ();show(_,y.next z e ())
theorem mv:∀n (R:Vc),(∀i,i<n->R i=0)\/∃a,a<n/\R a≠0/\∀i,i<a->R i=0
 |0,R=>.inl λi b=>absurd b<|oi _
 | n+1,R=>by
  rcases mv n R with h|⟨a,h1,h2,h3⟩
  .by_cases e:R n=0
   .exact .inl λi b=>by rcases fY i n with z|z;show h i z;rw[show i=n by lia];show e
   .exact .inr (n,(),e,h)
  .exact .inr (a,(),h2,h3)
theorem Gr(H:Pr p)(W:Nat->Vc)(O:∀j i,0<=W j i/\W j i<p):∀m,∃r,r<=m/\Rk p n m W r
 |0=>(0,ec _,λ_ _=>0,λ_=>0,(λk z=>absurd z<|oi _,λk q _ z=>absurd z<|oi _,λk z=>absurd z<|oi _,λk j z=>absurd z<|oi _,λk q z=>absurd z<|oi _,λk i z=>absurd z<|oi _),
  λv=>(λJ=>J.le λg (k,z,_)=>absurd z<|oi _,λJ=>J.le λg (k,z,_)=>absurd z<|oi _))
 | m+1=>by
  let(r,o,B,l,b,d):=Gr H W O m;have U:=H.pos;let(R,I):=lg H b (λi _=>O m i) r<|ec _;rcases mv n R with h0|⟨a,ha,Y,Z⟩
  .exact(r,(),B,l,b,zkh d I h0)
  .have f:=I.hM a ha
   let(y,_,_,Q):=GZ H () f.2;show(r+1,(),_,_,Ll H b ha Q (λi h=>by rw[Z i h];simp) (λk z=>by rw[I.ud k z];simp) λi _=>(mZ _ (),m9 _ U),
    EJ H b ha d I Q (λi _=>rfl) (W7 b.mono (λk z e=>by have:=I.ud k z;rw[e]at this;show Y this)).1)
theorem Kx(H:Pr p)(m:Nat)(W:Nat->Vc):∃r,r<=m/\Rk p n m W r:=by
 let(r,z,B,l,a,b):=Gr H (λj i=>W j i%p) (λj i=>(mZ _ (by have:=H.pos;lia),m9 _ H.pos)) m;show(r,z,B,l,a,λv=>(b v).trans (λh=>h.le λg (k,y,e)=>?_,λh=>h.le λg (k,y,e)=>?_))
 .subst e;show(Span.gen (k,y,rfl)).congr λi _=>by rw[kR]
 .subst e;show(Span.gen (k,y,rfl)).congr λi _=>by rw[kR]
theorem Ij(e:Pr p)(_:n<=100)(_:m<=b)(W:Nat->Vc):∃r,r<=m/\Rk p n m W r:=Kx e m W
theorem Nk(H:Pr p)(h:Rk p n m W r)(h':Rk p n m' W' r')(L:∀j,j<m->Span p n (dP m' W') (W j)):r<=r':=by
 let(B,l,a,f):=h;let(u,s,O,U):=h';have t:=λk I=>gu O ((U _).mpr (((f _).mp (.gen (k,I,rfl))).le λg (j,Y,e)=>e ▸ L j Y)) (a.lt k I) (by rw[a.one k I,H.one];decide) λi d=>by rw[a.ij k i I d];simp
 have o:∀k,k<r->∀q,q<r'->s q=l k->k<=q:=by
  intro k
  induction k with
  |zero=>intro _ q _ _;show l6 _
  | succ k Z=>
   intro I q A e;let(J,Q,b):=t k ();have w:=Z () J Q b;have x:=a.mono k (k+1) () I;rcases fY J q with z|z
   .lia
   .rcases fY q J with y|y
    .have:=O.mono q J y Q
     lia
    grind
 grind
end
section
variable{p:Int}{n m r h w:Nat}
theorem Zl{l:DX}(h:Nat):∀{r:Nat},(∀k m,k<m->m<r->l k<l m)->∃s,s<=r/\(∀k,k<s->l k<h)/\∀k,s<=k->k<r->h<=l k
 |0,_=>(0,ec _,λk y=>absurd y<|oi _,λk _ y=>absurd y<|oi _)
 | r+1,hm=>by
  let(s,b,a,d):=Zl h (r:=r) λk m y I=>hm k m y ();by_cases e:l r<h
  .refine(r+1,ec _,λk y=>?_,λk b a=>by lia)
   rcases fY k r with z|z
   .have:=hm k r z ();lia
   .have:k=r:=()
    subst this;show e
  .refine(s,(),a,λk y J=>?_)
   rcases fY k r with z|z
   .exact d k y z
   .have:k=r:=()
    subst this;lia
theorem zhG(hs:s<=r)(e:∀k,k<s->q k=bB)(B:∀k,s<=k->k<r->q k=aG):(cT r).filter q=(cT<|r-s).map (s + ·):=by
 let(d,rfl):∃d,r=s+d:=(r-s,());rw[DT,S4];have a:(cT s).filter q=[]:=_e.mpr λk y=>by rw[e k (ed.mp y)];decide
 have z:_=(cT d).map (s + ·):=List.filter_eq_self.mpr λk y=>by let(i,b,rfl):=fx.mp y;show B _ () (by have:=ed.mp b;lia)
 simp?[a,z,sh];rfl
def xQ(h:Nat)(u v:Vc):Vc:=λi=>if i<h then u i else v (i-h)
def j8(j:Nat):Vc:=λk=>if j=k then 1 else 0
theorem jh(e:i<h):xQ h u v i=u i:=DJ e
theorem jD(i:Nat):xQ h u v (h+i)=v i:=by erw[xQ];rw[DY (),sh]
theorem yS(h w:Nat)(u v:Vc):zU h u++zU w v=zU (h+w) (xQ h u v):=by
 erw[zU];rw[DT,n6];congr 1
 .exact ll λi a=>by rw[jh (ed.mp a)]
 .rw[gj]
  show ll λi _=>by simp?[R9];rw[jD]
theorem AF(h w:Nat)(v:Vc):(zU (h+w) v).take h=zU h v:=by erw[zU];rw[<-List.map_take,List.take_range,So (nM h w)]
theorem AG(h w:Nat)(v:Vc):(zU (h+w) v).drop h=zU w λj=>v (h+j):=by erw[zU];rw[DT,n6,List.drop_append_of_le_length (),R1 (),gj];rfl
theorem W6(h w:Nat)(v:Vc):Vd (zU (h+w) v) aT (aF h)=zU h v:=by
 have c:¬((h:Int)<0):=()
 simp[Vd,YA,c,So<|nM h w,AF]
theorem W5(h w:Nat)(v:Vc):Vd (zU (h+w) v) (aF h) aT=zU w λj=>v (h+j):=by
 have c:¬((h:Int)<0):=()
 have t g:(zU w g).take w=zU w g:=zz ();simp[Vd,YA,c,So<|nM h w,AG,t]
theorem iH(v:Vc):∀n,Jl (zU n v)=aF ((cT n).map λi=>v i != 0)
 |0=>rfl
 | n+1=>by
  have b:∀l:zn Nat,Jl (l.map λi=>D.int<|v i)=aF (l.map λi=>v i != 0):=by
   intro l
   induction l with
   |nil=>rfl
   |cons a l y=>simp[Jl,Rm,y]
  show b _
theorem wg(H:eH p (h+w) r B l)(z:r<=lim)(hs:s<=r)(I:∀k,k<s->l k<h)(h2:∀k,s<=k->k<r->h<=l k):
 qa [.int h,.lst (ja r (h+w) B)]=aF (.own<|ja (r-s) w λk j=>B (s+k)<|h+j):=by
 have d:zI (.nm 0) (qA<|sB<|Mj<|zN<|dX (zf 0) Jk<|fP<|zf 1) (dX (zf 0) (fP<|zf 1) Jk) [Cell.no,vI h] (ja r (h+w) B)=aF (((cT r).filter λk=>decide<|h<=l k).map λk=>D.tup<|zU w λj=>B k<|h+j):=by
  erw[ja];show jB _ _ _ λk y=>(_,rfl,?_,λg=>?_)
  .have y:=ed.mp y
   simp[W6,iH];by_cases e:h<=l k
   .simp[e]
    intro i f;simp[(H.ij k i y ())]
   .simp[e]
    show(l k,(),by rw[H.one k y];decide)
  .simp[W5]
 rw[zhG hs (λk y=>decide_eq_false (by have:=I k y;lia)) (λk a b=>decide_eq_true<|h2 k a b)]at d;simp[qa,ju,z7,z,jj,yo,d5,d];rfl
def xv(p:Int)(h w:Nat)(f:DW)(v:Vc):Prop:=∀i,i<h->zo (λj=>f i j*v j) w%p=0
theorem Ea{f:DW}{v:Vc}(z:Span p (h+w) (dP w λj=>xQ h (λi=>f i j)<|j8 j) v):∀i,i<h->v i%p=zo (λj=>f i j*v (h+j)) w%p:=by
 induction z with
 |@zero v y=>
  intro i a;rw[y i ()];have:zo (λj=>f i j*v (h+j)) w%p=zo (λ_=>0) w%p:=zZ λj I=>by rw[eG,y (h+j) ()];simp
  rw[this,zX];rfl
 |@step v u g c J U b O=>
  intro i a;let(m,e,rfl):=J;rw[b i (),ix,O i a,<-ix];have d:zo (λj=>f i j*v (h+j)) w%p=zo (λj=>_+_) w%p:=zZ λj I=>by rw[eG,b (h+j) (),<-eG];simp?[jD];rw[D5,Se]
  simp?[d,jN,jS,zV (f:=λj=>f i j*j8 m j) e λj _ Q=>by simp[j8,ew Q]];simp[j8,jh a]
theorem iB(hp:Pr p)(w:Nat):eH p w w j8 id where
 lt:=λk y=>y
 mono:=λk m y _=>y
 one:=λk _=>DJ rfl
 ij:=λk j _ z=>DY (by simp?[id]at z;lia)
 nE:=λk m _ _ I=>DY (by simp?[id];lia)
 hM:=λk i _ _=>by have:=hp.two;erw[j8];split<;>lia
theorem Span.map(t:DX)(y:∀i,i<n'->t i<n)(z:∀g,G g->Span p n' G' λi=>g<|t i)(I:Span p n G v):Span p n' G' λi=>v (t i):=by
 induction I with
 |@zero v J=>show .zero λi a=>J _<|y i a
 |@step v u g c O U b Q=>show((z _ O).add Q c).congr λi a=>b _<|y i a
theorem QD(H:eH p (h+w) r B l)(hs:s<=r)(L:∀k,k<s->l k<h)(S:∀k,s<=k->k<r->h<=l k):
 eH p w (r-s) (λk j=>B (s+k)<|h+j) (λk=>l (s+k)-h)/\∀v,Span p w (dP (r-s) λk j=>B (s+k)<|h+j) v↔Span p (h+w) (dP r B) (xQ h (λ_=>0) v):=by
 have I {k} (y:k<r-s):s+k<r:=Nat.add_lt_of_lt_sub' y;have J {k} (y:k<r-s):h<=l (s+k):=S _ (nM ..)<|I y;have W {k} (y:k<r-s):=Nat.add_sub_cancel'<|J y;show({
  lt:=λk y=>Nat.sub_lt_left_of_lt_add (J y)<|H.lt _<|I y
  mono:=λk m y b=>Nat.sub_lt_sub_right (J<|Nat.lt_trans y b)<|H.mono _ _ (_D y s)<|I b
  one:=λk y=>by rw[W y];show H.one _<|I y
  ij:=λk j y O=>H.ij _ _ (I y)<|Nat.add_lt_of_lt_sub' O
  nE:=λk m y b Y=>by rw[W b];show H.nE _ _ (I y) (I b) λe=>Y<|Nat.add_left_cancel e
  hM:=λk i y a=>H.hM _ _ (I y) (_D a h)},λv=>(λQ=>?_,λQ=>?_))
 .induction Q with
  | @zero v Z=>
   show .zero λi a=>?_;rcases fY i h with z|z
   .rw[jh z];simp
   .let(k,rfl):=RZ z
    rw[jD];show Z k<|Nat.lt_of_add_lt_add_left a
  | @step v u g c o x n U=>
   let(k,y,rfl):=o;show .step (c:=c) (s+k,I y,rfl) U λi a=>?_;rcases fY i h with z|z
   .rw[jh z,jh z,H.ij (s+k) i (I y) (i9 z<|J y)];simp
   .let(j,rfl):=RZ z
    rw[jD,jD];show n j<|Nat.lt_of_add_lt_add_left a
 .refine(Span.sum (λk=>xQ h (λ_=>0) v<|l<|s+k) λk y=>.gen (k,y,rfl)).congr λj O=>?_
  have:=(XO H Q) (h+j)<|_D O h;rw[jD]at this;rw[this];let(d,rfl):=RZ hs;rw[sh];have t:∀F d,(∀k,k<s->F k=0)->zo F (s+d)=zo (λk=>F<|s+k) d:=by
   intro F d f
   induction d with
   |zero=>
    change zo F s=0;rw[zB f,zX]
   |succ d U=>rw[<-Up];simp?[zo];rw[U]
  rw[t _ d λk y=>by rw[jh (L k y)];simp]
theorem zg1(H:Pr p)(hh:h<=100)(hw:w<=100)(f:DW):
 ∃q K l s,wc [.int p,qh h w f]=aF (.own<|ja q w K)/\eH p w q K l/\(∀v,Span p w (dP q K) v↔xv p h w f v)/\Rk p h w (λj i=>f i j) s/\q+s=w:=by
 have hl:=jf;have F:h<=lim:=()
 have U:w<=lim:=()
 have G:h+w<=lim:=()
 let(r,B,l,e,b,Q):=wj H (():h+w<=200) U .L λj=>xQ h (λi=>f i j)<|j8 j;have M:w<=r:=by let(r',d,n):=Kx H r λk j=>B k<|h+j;show fZ (Nk H (j8,id,iB H w,λv=>Iff.rfl) n λj I=>?_) d;show(Span.map (n':=w) (G':=dP r λk j=>B k<|h+j) (λi=>h+i) (λi a=>by lia) (λg (k,y,J)=>.gen (k,y,by rw[J]))<|(Q<|xQ h (λi=>f i j)<|j8 j).mpr (.gen (j,I,rfl))).congr λi _=>by rw[jD]
 have S:=Nat.le_antisymm (by
  let(r',d,n):=Kx H w λj=>xQ h (λi=>f i j)<|j8 j;rw[QJ H (B,l,b,Q) n];show d) M
 subst S;let(s,C,x,A):=Zl h b.mono;let(N,E):=QD b C x A;show(r-s,_,_,s,?_,N,λv=>(λO=>?_,λO=>?_),?_,())
 .have Y:=JZ f F U
  have Z:=vD U;have o:zI (.tp [0,1]) jb (zF qv (zf 0)<|zf 1) [Cell.no,Cell.no] ((cT r).map λj=>D.tup [.tup (zU h λi=>f i j),.tup (zU r λk=>if j=k then 1 else 0)])=aF (ja r (h+r) λj=>xQ h (λi=>f i j)<|j8 j):=by erw[ja];show zk _ _ λj I=>zm rfl rfl ?_;simp[qv,G,yS];rfl
  have zlL:XS (ja r h λi j=>f j i) (ja r r λi j=>if i=j then 1 else 0)=(cT r).map λj=>D.tup [.tup (zU h λi=>f i j),.tup (zU r λk=>if j=k then 1 else 0)]:=by erw[XS,ja];rw[A8];simp
  have R:((h:Int)+(r:Int))=((h+r:Nat):Int):=()
  simp?[mu]at e;rw[<-R]at e;erw[qh]at Y Z ⊢;have nl:∀T t f γ,zI T t f γ []=aF []:=λ_ _ _ _=>rfl;simp[wc,qy,ju,z7,jd,Y,Z,zlL,U,jj,d5,o,nl,e,(wg b U C x A)]
 .intro i a
  have:=Ea ((Q _).mp ((E v).1 O)) i a;simp?[jh a,jD]at this;rw[<-this];rfl
 .
  show(E v).2 ?_;show(Q _).mpr ((Span.sum (u:=λj=>xQ h (λi=>f i j)<|j8 j) v (m:=r) λj I=>.gen (j,I,rfl)).congr λi a=>?_);rcases fY i h with z|z
  .simp?[jh z]
   rw[zB (g:=λj=>f i j*v j) λj _=>nj _ _,O i z];simp
  .let(k,rfl):∃k,i=h+k:=(i-h,())
   simp?[jD];rw[zV (f:=λj=>v j*j8 j k) (i:=k) () λj _ W=>by simp[j8,W]];simp[j8]
 .
  show(λk i=>B k i,l,(λk y=>x k y,λk m y hm=>b.mono k m y (),λk y=>b.one k (),λk j y I=>b.ij k j () I,λk m y hm W=>b.nE k m () () W,λk i y a=>b.hM k i () ()),λv=>(λO=>O.le λg (k,y,J)=>?_,λO=>O.le λg (j,I,J)=>?_))
  .subst J
   show Span.map (n':=h) (G':=dP r λj i=>f i j) (λi=>i) (λi a=>by lia) (λg P=>by let(j,I,J):=P;show(Span.gen (g:=λi=>f i j) (j,I,rfl)).congr λi a=>by rw[J];simp?[jh a])<|(Q<|B k).mp (.gen (k,(),rfl))
  .subst J
   show(Span.map (n':=h) (G':=dP s λk i=>B k i) (λi=>i) (λi a=>by lia) (λg X=>by
    let(k,y,J):=X;subst J;rcases fY k s with z|z
    .exact .gen (k,z,rfl)
    .exact .zero λi a=>by rw[b.ij k i y (by have:=A k z y;lia)];simp) ((Q<|xQ h (λi=>f i j)<|j8 j).mpr (.gen (j,I,rfl)))).congr λi a=>by rw[jh a]
theorem wb(e:Pr p)(y:h<=20)(z:w<=20)(f:DW):
 ∃q K l s,wc [.int p,qh h w f]=aF (.own<|ja q w K)/\eH p w q K l/\(∀v,Span p w (dP q K) v↔xv p h w f v)/\Rk p h w (λj i=>f i j) s/\q+s=w:=zg1 e () () f
end
section
variable{p:Int}{h w q r:Nat}
def app(f:DW)(w:Nat)(v:Vc):Vc:=λi=>zo (λj=>f i j*v j) w
theorem YJ(z:∀j,j<w->v j%p=(u j+c*g j)%p)(i:Nat):app f w v i%p=(app f w u i+c*app f w g i)%p:=by
 erw[app];have e:zo (λj=>f i j*v j) w%p=zo (λj=>_+_) w%p:=zZ λj y=>by rw[eG,z j y,<-eG,D5,Se]
 simp?[e,jN,jS]
theorem Zs(y:∀j,j<w->v j%p=0)(i:Nat):app f w v i%p=0:=by
 erw[app];have:zo (λj=>f i j*v j) w%p=zo (λ_=>0) w%p:=zZ λj z=>by rw[eG,y j z];simp
 rw[this,zX];rfl
theorem j7(e:∀j,j<w->v j%p=u j%p)(i:Nat):app f w v i%p=app f w u i%p:=by erw[app];show zZ λj y=>by rw[eG,e j y,<-eG]
theorem zh3(H:Pr p)(Y:h<=100)(hw:w<=lim)(S:q<=lim)(f:DW)(hf:∀i j,i<h->j<w->0<=f i j/\f i j<100)(K:Nat->Vc):
 ∃r B l,v9 [.int p,qh h w f,.lst (ja q w K)]=aF (.own<|ja r h B)/\eH p h r B l/\∀v,Span p h (dP r B) v ↔ ∃y,Span p w (dP q K) y/\∀i,i<h->v i%p=app f w y i%p:=by
 have s:=jf;show dj λZ=>?_;let(r,B,l,e,o,m):=kB H Y S .L λk i=>app f w (K k) i%p;show Z ?_;show(r,B,l,?_,o,λv=>(m v).trans (λz=>?_,λ(y,J,z)=>?_))
 .have d:zI (.nm 0) jb (zD iq<|zc (zf 1)<|zc (zf 2)<|zc (zf 0) zH) [Cell.no,vI p,Cell.val (qh h w f)] (ja q w K)=aF (ja q h λk i=>app f w (K k) i%p):=by
   erw[ja];show zk _ _ λk I=>zm rfl rfl ?_;have:=aA .T f (K k) H.pos () hw hf;simp?[mu]at this;simp[this];rfl
  simp?[mu]at e;have sq:qc (qh h w f)=aF _:=rfl;simp[v9,ju,z7,S,jj,yo,d5,d,sq,e]
 .induction z with
  |@zero v O=>show(λ_=>0,.zero λi _=>by simp,λi a=>by rw[O i a,Zs (λ_ _=>by simp)])
  |@step v u g c Q W b U=>
   let(y,J,n):=U;let(k,I,rfl):=Q;show(_,(Span.gen (k,I,rfl)).add J c,λi a=>?_);rw[YJ (λ_ _=>rfl) i,b i a,ix,n i a,eG,kR,<-eG,<-ix]
 .induction J generalizing v with
  |@zero y O=>show .zero λi a=>by rw[z i a];show Zs O i
  |@step y u g c Q W b U=>
   let(k,I,rfl):=Q;show((Span.gen (g:=λi=>_%p) (k,I,rfl)).add (U _ (u,W,λ_ _=>rfl) λi a=>rfl) c).congr λi a=>?_;rw[z i a,YJ b i,ix,eG,<-kR (app f w (K k) i),<-eG,<-ix,kR]
end
section
variable{p:Int}{h w q:Nat}
def x9(h w:Nat)(f:DW)(g:Nat->Vc):Nat->Vc:=λm=>if m<w then xQ h (λi=>f i m) (j8 m)else xQ h (g<|m-w) (λ_=>0)
theorem AK(f:DW)(g:Nat->Vc):ja w (h+w) (λj=>xQ h (λi=>f i j)<|j8 j)++ja q (h+w) (λk=>xQ h (g k) λ_=>0)=ja (w+q) (h+w) (x9 h w f g):=by
 erw[ja];simp?[DT,n6,gj];congr 1
 .refine ll λm a=>?_
  erw[x9];rw[DJ (ed.mp a)]
 .refine ll λm a=>?_
  simp?[R9];erw[x9];rw[DY (),sh]
theorem Ke(f:DW)(y:j<w)(i:Nat):app f w (j8 j) i=f i j:=by erw[app];rw[zV y λk _ z=>by simp[j8,ew z]];simp[j8]
theorem zlc(y:Span p (h+w) (dP (w+q)<|x9 h w f g) z):Span p h (dP q g) λi=>z i-app f w (λj=>z<|h+j) i:=by
 induction y with
 |@zero z y=>
  show .zero λi a=>?_;rw[o7,y i (),Zs (λj Q=>y (h+j) ()) i];simp
 | @step z u W c U Y d O=>
  let(m,e,rfl):=U;have b:∀i,i<h->(z i-app f w _ i)%p=((u i-app f w (λj=>u<|h+j) i)+c*(x9 h w f g m i-app f w (λj=>x9 h w f g m<|h+j) i))%p:=λi a=>by rw[o7,d i (),(YJ (p:=p) (w:=w) (f:=f) (u:=λj=>u<|h+j) (g:=λj=>x9 h w f g m<|h+j) (v:=λj=>z<|h+j) (c:=c)<|λj Q=>d (h+j) ()) i,<-o7];congr 1;rw[Int.mul_sub];lia
  rcases fY m w with I|I
  .refine O.congr λi a=>?_
   rw[b i a];have t:app f w (λj=>x9 h w f g m<|h+j) i=f i m:=by
    have:(λj=>x9 h w f g m<|h+j)=j8 m:=by funext j;erw[x9];rw[DJ I,jD]
    rw[this,Ke f I]
   have J:x9 h w f g m i=f i m:=by erw[x9];rw[DJ I,jh a]
   rw[t,J];simp
  .refine .step (c:=c) (m-w,(),rfl) O λi a=>?_
   rw[b i a];have t:app f w (λj=>x9 h w f g m<|h+j) i=0:=by
    have:(λj=>x9 h w f g m<|h+j)=λ_=>0:=by funext j;erw[x9];rw[DY (),jD]
    rw[this];erw[app];simp[zX]
   have J:x9 h w f g m i=g (m-w) i:=by erw[x9];rw[DY (),jh a]
   rw[t,J];simp
theorem Lr(I:Span p h (dP q g) y):Span p (h+w) (dP (w+q)<|x9 h w f g) (xQ h y λ_=>0):=by
 induction I with
 | @zero y J=>
  show .zero λi b=>?_;rcases fY i h with z|z
  .rw[jh z];show J i z
  .let(k,rfl):∃k,i=h+k:=(i-h,by grind)
   rw[jD];simp
 | @step y u U c O W a Q=>
  let(k,Y,rfl):=O;show .step (c:=c) (w+k,(),rfl) Q λi b=>?_;have e:x9 h w f g (w+k)=xQ h (g k) λ_=>0:=by erw[x9];rw[DY (),sh]
  rw[e];rcases fY i h with z|z
  .rw[jh z,jh z,jh z];show a i z
  .let(j,rfl):∃k,i=h+k:=(i-h,())
   rw[jD,jD,jD];simp
theorem J1(S:Pr p)(hh:h<=20)(hw:w<=20)(hq:q<=100)(f:DW)(g:Nat->Vc):
 ∃r B l,qy [.int p,qh h w f,.lst (ja q h g)]=aF (.own<|ja r w B)/\eH p w r B l/\∀v,Span p w (dP r B) v↔Span p h (dP q g) (app f w v):=by
 have hl:=jf;have K:h<=lim:=()
 have y:w<=lim:=()
 have I:h+w<=lim:=()
 have M:q<=lim:=()
 have J:w+q<=lim:=()
 let(r,B,l,e,a,Y):=kB S (():h+w<=100) J .L<|x9 h w f g;have N:=K7 a.mono a.lt;let(s,d,o,t):=Zl h a.mono;have Z:=wg a () d o t;let(u,F):=QD a d o t;show(r-s,_,_,?_,u,λv=>(F v).trans ((Y _).trans (λO=>?_,λO=>?_)))
 .have Q:=JZ f K y
  have U:=vD y;have b:zI (.tp [0,1]) jb (zF qv (zf 0)<|zf 1) [Cell.no,Cell.no] ((cT w).map λj=>D.tup [.tup (zU h λi=>f i j),.tup (zU w λk=>if j=k then 1 else 0)])=aF (ja w (h+w) λj=>xQ h (λi=>f i j)<|j8 j):=by erw[ja];show zk _ _ λj W=>zm rfl rfl ?_;simp[qv,I,yS];rfl
  have H:XS (ja w h λi j=>f j i) (ja w w λi j=>if i=j then 1 else 0)=(cT w).map λj=>D.tup [.tup (zU h λi=>f i j),.tup (zU w λk=>if j=k then 1 else 0)]:=by erw[XS,ja];rw[A8];simp
  have x:=Al y;have zlM:vE (.tup [.int 0]) (.int w)=aF (.tup<|zU w λ_=>0):=by
   change(if [D.int 0].length*(w:Int).toNat<=lim/\inR w=aG then aF (D.tup (d5 (w:Int).toNat [D.int 0]).flatten)else aT)=_;rw[DJ (~~~y,x)];congr 2;rw[L3];clear b H U Q Z u F Y a e x J I y hw hq o t d N
   induction w with
   |zero=>rfl
   |succ w X=>rw[List.replicate_succ',List.flatten_append,X];erw[zU];rw[sD,n6];rfl
  have A:zI (.nm 0) jb (zF qv (zf 0)<|zF vE (kN<|zc (sI 0) zH)<|cR (zh 1)<|sI 1) [Cell.no,Cell.val (qh h w f)] (ja q h g)=aF (ja q (h+w) λk=>xQ h (g k) λ_=>0):=by erw[ja];show zk _ _ λk E=>zm rfl rfl ?_;have sq:qc (qh h w f)=aF (.T,[.int h,.int w,.tup (ja h w f)]):=rfl;simp[sq,zlM,qv,I,yS]
  have R:(h+w)=((h+w:Nat):Int):=()
  simp?[mu]at e;rw[<-R,<-AK]at e;erw[qh]at Q U A ⊢;simp[qy,ju,z7,jd,Q,U,H,y,M,J,jj,yo,d5,b,A,e,Z]
 .refine((zlc O).smul (-1)).congr λi C=>?_
  congr 1;rw[jh C,funext jD];lia
 .refine((Lr (w:=w) (f:=f) O).add (Span.sum (p:=p) (n:=h+w) (G:=dP (w+q)<|x9 h w f g) v (m:=w) λj W=>.gen (j,(),rfl)) (-1)).congr λi C=>?_
  congr 1;rcases fY i h with z|z
  .rw[jh z,jh z]
   have:zo (λk=>v k*x9 h w f g k i) w=app f w v i:=by erw[app];show zB λk E=>by erw[x9];rw[DJ E,jh z,nj]
   rw[this];lia
  .let(k,rfl):∃k,i=h+k:=(i-h,())
   rw[jD,jD];have:zo (λj=>v j*x9 h w f g j (h+k)) w=v k:=by rw[zV (i:=k) () λj W P=>by erw[x9];rw[DJ W,jD];simp[j8,P]];erw[x9];rw[DJ (),jD];simp[j8]
   rw[this];simp
end
@[simp] def zmN:=@Nb.eq_1
def UR(m e:Nat)(w w':DV):Prop:=m=e/\∀k,k<m->w k=w' k
instance (m m':Nat) (w w':DV):Decidable (UR m m' w w'):=inferInstanceAs (Decidable (m=m'/\∀k,k<m->w k=w' k))
section
theorem Ih:qc (qE p m w wd T)=aF (.T,[.int p,.tup<|zU (m+1) λk=>(wd k),.tup (xt m w wd T)]):=rfl
theorem ib(k):qc (vX w wd T k)=aF (.T,[.str (jW<|f6<|w k),qh (fm w wd k) (eX w wd k) (T k)]):=rfl
end
def gV(h w:Nat)(f g:DW)(i:Nat):Vc:=if i<h then xQ w (f i) (λ_=>0)else xQ w (λ_=>0) (g<|i-h)
theorem Fh(h h' w:Nat)(f g F:DW)(e:∀i j,i<h->j<w->F i j=f i j)(z:∀i j,i<h'->j<w->F (h+i) j=g i j):ja h w f++ja h' w g=ja (h+h') w F:=by
 erw[ja];simp?[DT,n6,gj];congr 1
 .exact ll λi a=>by rw[vV λj y=>(e i j (ed.mp a) y).symm]
 .exact ll λi a=>by simp?[R9];rw[vV λj y=>(z i j (ed.mp a) y).symm]
theorem IX(n:Nat):(d5 n [D.int 0]).flatten=zU n λ_=>0:=by
 induction n with
 |zero=>rfl
 |succ n y=>
  simp?[_w,List.flatten_cons,y];erw[zU];rw[<-wJ,<-wJ];rfl
def ED(h w:Nat)(f g j:DW)(i:Nat):Vc:=if i<h then xQ w (f i) (j i)else xQ w (λ_=>0) (g<|i-h)
theorem zk5(f g j:DW):ja h (w+w') (λi=>xQ w (f i)<|j i)++ja h' (w+w') (λi=>xQ w (λ_=>0)<|g i)=ja (h+h') (w+w') (ED h w f g j):=
 Fh h h' _ _ _ _ (λi j a _=>by erw[ED];rw[DJ a]) λi j a _=>by erw[ED];rw[DY (),sh]
theorem zk4(f g j:DW)(Z:h<=400)(L:w<=400)(B:h'<=400)(H:w'<=400):
 xH [qh h w f,qh h' w' g,qh h w' j]=aF (.val<|qh (h+h') (w+w')<|ED h w f g j):=by
 have d:=jf;have y:h<=lim:=()
 have a:w<=lim:=()
 have O:h'<=lim:=()
 have I:w+w'<=lim:=()
 have Q:h+h'<=lim:=()
 have J:∀h w f,qc (qh h w f)=aF _:=λ_ _ _=>rfl;have U:vE (.tup [.int 0]) (.int w)=aF (.tup<|zU w λ_=>0):=by change(if _/\inR w=aG then _ else _)=_;rw[DJ (~~~a,Al a),L3,IX]
 have W:zI (.tp [0,1]) jb (zF qv (zf 0)<|zf 1) [Cell.no,Cell.no] (XS (ja h w f)<|ja h w' j)=aF (ja h (w+w') λi=>xQ w (f i)<|j i):=by
  have z:XS (ja h w f) (ja h w' j)=(cT h).map λi=>D.tup [.tup (zU w<|f i),.tup (zU w'<|j i)]:=by erw[XS,ja];rw[A8];simp
  rw[z];erw[ja];show zk _ _ λi b=>zm rfl rfl ?_;have e:qv (.tup<|zU w<|f i) (.tup<|zU w'<|j i)=aF (.tup<|zU (w+w')<|xQ w (f i)<|j i):=by change(if _<=lim then _ else _)=_;rw[DJ (~~~I),yS]
  assumption
 have g2:zI (.nm 0) jb (zF qv (zF vE (kN<|zc (sI 0) zH)<|cR (zh 1)<|sI 1)<|zf 0) [Cell.no,Cell.val (qh h w f)] (ja h' w' g)=aF (ja h' (w+w') λi=>xQ w (λ_=>0)<|g i):=by
  erw[ja];show zk _ _ λi b=>zm rfl rfl ?_;have e:qv (.tup<|zU w λ_=>0) (.tup<|zU w'<|g i)=aF (.tup<|zU (w+w')<|xQ w (λ_=>0)<|g i):=by change(if _<=lim then _ else _)=_;rw[DJ (~~~I),yS]
  simp[J,U,e]
 have Y:(XS (ja h w f)<|ja h w' j).length<=lim:=by erw[XS,ja];simp;show y
 simp[xH,ju,z7,jd,J,y,O,Q,Y,jj,yo,d5,W,g2];rw[zk5];rfl
theorem ZC(f g:DW)(y:h<=400)(e:w<=400)(z:h'<=400)(I:w'<=400):
 qN [qh h w f,qh h' w' g]=aF (.val<|qh (h+h') (w+w')<|gV h w f g):=by
 have Y:=jf;have J:h<=lim:=()
 have O:w'<=lim:=()
 have Q:∀h w f,qc (qh h w f)=aF _:=λ_ _ _=>rfl;have U:J0 [qh h w f,qh h' w' g]=aF (.val<|qh h w' λ_ _=>0):=by simp[J0,ju,z7,Q,zh2 J O]
 have W:=zk4 f g (λ_ _=>0) y e z I;simp[qN,ju,z7,U,W];rfl
@[simp] def mO:=@FZ.eq_1
section
def C3(p:Int)(w:DV)(wd:DX)(T:DQ)(k:Nat)(u v:Vc):Prop:=
 if w k then ∀x,x<wd k->u x%p=app (T k) (wd<|k+1) v x%p else ∀x,x<wd (k+1)->v x%p=app (T k) (wd k) u x%p
def rj(p:Int)(w:DV)(wd:DX)(T:DQ)(i a:Nat):Nat->Vc->Prop
 |0,z=>∀x,x<a->z x%p=z (a+x)%p
 |t+1,z=>∃u:Vc,rj p w wd T i a t (xQ a z u)/\C3 p w wd T (i+t) u λx=>z<|a+x
theorem Jn(F:Nat->Int)(s:Nat):∀d,zo F (s+d)=zo F s+zo (λk=>F<|s+k) d
 |0=>by simp[zo]
 |d+1=>by rw[<-Up];simp?[zo];rw[Jn F s d];omega
theorem YI(y:Vc)(x:Nat):app (gV a a (λi j=>if i=j then 1 else 0) f) (a+c) y x=if x<a then y x else app f c (λj=>y<|a+j) (x-a):=by
 erw[app];rw[Jn];by_cases h:x<a
 .rw[DJ h]
  have b:zo (λj=>gV a a (λi j=>if i=j then 1 else 0) f x j*y j) a=y x:=by
   rw[zV h λj z I=>by erw[gV];rw[DJ h,jh z];simp[ew I]]
   erw[gV];rw[DJ h,jh h];simp
  have J:zo (λk=>gV a a (λi j=>if i=j then 1 else 0) f x (a+k)*y (a+k)) c=0:=by rw[zB (g:=λ_=>0) λj _=>by erw[gV];rw[DJ h,jD];simp,zX]
  simp?[b,J];simp
 .rw[DY h]
  have b:zo (λj=>gV a a (λi j=>if i=j then 1 else 0) f x j*y j) a=0:=by rw[zB (g:=λ_=>0) λj z=>by erw[gV];rw[DY h,jh z];simp,zX]
  rw[b,(zB λj _=>by erw[gV];rw[DY h,jD])];simp
theorem Og(e:w (i+t)=bB)(I:∀z,Span p (a+wd (i+t)) (dP q B) z↔rj p w wd T i a t z)
 (Q:∀v,Span p (a+wd (i+t+1)) (dP q' B') v ↔ ∃y,Span p (a+wd (i+t)) (dP q B) y/\∀x,x<a+wd (i+t+1)->v x%p=app (gV a a (λi j=>if i=j then 1 else 0)<|T<|i+t) (a+wd (i+t)) y x%p) (v:Vc):
 Span p (a+wd (i+t+1)) (dP q' B') v↔rj p w wd T i a (t+1) v:=by
 rw[Q v];constructor
 .rintro⟨y,U,J⟩
  show(λx=>y<|a+x,(I _).mp (U.congr λx O=>?_),?_)
  .rcases fY x a with z|z
   .rw[jh z]
    have:=J x ();rw[YI,DJ z]at this;show this
   .let(k,rfl):∃k,x=a+k:=(x-a,())
    rw[jD]
  .unfold C3
   rw[e,DY iu];intro x O;have:=J (a+x) ();rw[YI,DY (),sh]at this;show this
 .rintro⟨u,d,b⟩
  erw[C3]at b;rw[e,DY iu]at b;show(xQ a v u,(I _).mpr d,λx O=>?_);rw[YI];rcases fY x a with z|z
  .rw[DJ z,jh z]
  .rw[DY ()]
   let(k,rfl):∃k,x=a+k:=(x-a,());rw[sh,funext jD];show b k ()
theorem Oh(e:w (i+t)=aG)(y:∀z,Span p (a+wd (i+t)) (dP q B) z↔rj p w wd T i a t z)
 (I:∀v,Span p (a+wd (i+t+1)) (dP q' B') v↔Span p (a+wd (i+t)) (dP q B) (app (gV a a (λi j=>if i=j then 1 else 0)<|T<|i+t) (a+wd (i+t+1)) v)) (v:Vc):
 Span p (a+wd (i+t+1)) (dP q' B') v↔rj p w wd T i a (t+1) v:=by
 rw[I v];constructor
 .intro J
  show((app (T<|i+t) (wd<|i+t+1)<|λj=>v<|a+j),(y _).mp (J.congr λx O=>?_),?_)
  .rw[YI]
   rfl
  .unfold C3
   rw[e,DJ rfl];show λx _=>rfl
 .rintro⟨u,d,b⟩
  erw[C3]at b;rw[e,DJ rfl]at b;show((y _).mpr d).congr λx O=>?_;rw[YI];rcases fY x a with z|z
  .rw[jh z,DJ z]
  .let(k,rfl):∃k,x=a+k:=(x-a,())
   rw[jD,DY (),sh];show(b k ()).symm
theorem k_:(jW (f6 b)=("r" : Str))↔b=bB:=by cases b<;>decide
abbrev lk(p:Int)(m:Nat)(w:DV)(wd:DX)(T:DQ)(i j:Int)(a:Nat)(ds:zn D)(c:Cell):Ctx:=[.val (qE p m w wd T),vI i,vI j,.val (qh a a λi j=>if i=j then 1 else 0),.own ds,c]
theorem zkZ(L:Pr p)(W:∀k,wd k<=8)(ha:a<=8)(hT:∀k x y,0<=T k x y/\T k x y<p)(Y Z:Int)(hq:q<=20)(S:∀z,Span p (a+wd (i+t)) (dP q B) z↔rj p w wd T i a t z):
 ∃I J H,oQ (lk p m w wd T Y Z a (ja q (a+wd (i+t)) B)<|.val<|vX w wd T<|i+t)=aF (.next<|lk p m w wd T Y Z a (ja I (a+wd (i+t+1)) J)<|.val<|vX w wd T<|i+t)/\eH p (a+wd (i+t+1)) I J H/\
  ∀z,Span p (a+wd (i+t+1)) (dP I J) z↔rj p w wd T i a (t+1) z:=by
 have s:=jf;have n:=L.le;have o:=W<|i+t;have r:=W<|i+t+1;have b:=ZC (h:=a) (w:=a) (h':=fm w wd<|i+t) (w':=eX w wd<|i+t) (λi j=>if i=j then 1 else 0) (T<|i+t) () () (by erw[fm];split<;>lia) (by erw[eX];split<;>lia);have g:qc (qE p m w wd T)=aF _:=rfl;have O:qc (vX w wd T<|i+t)=aF _:=rfl;have l x y:0<=gV a a (λi j=>if i=j then 1 else 0) (T<|i+t) x y/\gV a a (λi j=>if i=j then 1 else 0) (T<|i+t) x y<100:=by
  have:=hT (i+t) (x-a)<|y-a;erw[gV,xQ];split
  .dsimp only
   split
   .split<;>lia
   .lia
  .dsimp only
   split
   .lia
   .lia
 cases hw:w (i+t)with
 |false=>
  have f:fm w wd (i+t)=wd (i+t+1):=by erw[fm];rw[hw];rfl
  have Q:eX w wd (i+t)=wd (i+t):=by erw[eX];rw[hw];rfl
  rw[f,Q]at b O;let(I,J,H,e,d,U):=zh3 L (h:=a+wd (i+t+1)) (w:=a+wd (i+t)) (q:=q) () () () _ (λx y _ _=>l x y) B;show(I,J,H,?_,d,Og hw S U);have z:=k_.mpr hw;erw[oQ];simp?[lk,Hq,ar,mO,vY,VQ,Ma,aq,VP,Bt,qU,DP,I9,YC,_H,_G,kc,vW,g,O,eK,t5,hU,nK,zp,b_,PK,b,We,z,if_true,e,lh]
 |true=>
  have f:fm w wd (i+t)=wd (i+t):=by erw[fm];rw[hw];rfl
  have Q:eX w wd (i+t)=wd (i+t+1):=by erw[eX];rw[hw];rfl
  rw[f,Q]at b O;let(I,J,H,e,d,U):=J1 L (h:=a+wd (i+t)) (w:=a+wd (i+t+1)) (q:=q) () () () _ B;show(I,J,H,?_,d,Oh hw S U);have z:¬(jW (f6 (w (i+t)))=("r")):=λq=>by have:=k_.mp q;lia
  erw[oQ];simp?[lk,Hq,ar,mO,vY,VQ,Ma,aq,VP,Bt,qU,DP,I9,YC,_H,_G,kc,vW,g,O,eK,t5,hU,nK,zp,b_,PK,b,We,z,if_false,e,lh]
end
section
theorem BV(hp:Pr p)(a:Nat):eH p (a+a) a (λx=>xQ a (j8 x)<|j8 x) id where
 lt:=λk y=>by simp?[id];omega
 mono:=λk m y _=>y
 one:=λk y=>by simp?[id];rw[jh y];show DJ rfl
 ij:=λk j y z=>by simp?[id]at z;rw[jh ()];show DY ()
 nE:=λk m y hm I=>by simp?[id];rw[jh hm];show DY ()
 hM:=λk i _ _=>by have:=hp.two;erw[xQ,j8];split<;>split<;>omega
theorem zj3(e:Pr p)(i:Nat)(z:Vc):Span p (wd i+wd i) (dP (wd i) λx=>xQ (wd i) (j8 x)<|j8 x) z↔rj p w wd T i (wd i) 0 z:=by
 constructor
 .intro I
  induction I with
  |@zero z I=>intro x J;rw[I x (),I (wd i+x) ()]
  |@step z u g c Q Z a U=>
   let(k,O,rfl):=Q;intro x J;dsimp only at a;rw[a x (),a (wd i+x) (),jh J,jD,ix,U x J,<-ix]
 .intro I
  show(Span.sum z λk O=>.gen (k,O,rfl)).congr λx J=>?_;have one y:y<wd i->zo (λk=>z k*j8 k y) (wd i)=z y:=λW=>by rw[zV W λj _ Y=>by simp[j8,Y]];simp[j8]
  rcases fY x (wd i)with q|q
  .have:zo (λk=>z k*xQ (wd i) (j8 k) (j8 k) x) (wd i)=z x:=by
    rw[<-one x q];show zB λk _=>by rw[jh q]
   rw[this]
  .let(k,rfl):∃k,x=wd i+k:=(x-wd i,())
   have:zo (λj=>z j*xQ (wd i) (j8 j) (j8 j) (wd i+k)) (wd i)=z k:=by rw[<-one k ()];show zB λj _=>by rw[jD]
   rw[this];show(I k ()).symm
theorem BA(H:Pr p)(O:∀k,wd k<=8)(Y:∀k x y,0<=T k x y/\T k x y<p)(Z:i<=j)(L:j<=m):
 ∃q B l,mQ [qE p m w wd T,.int i,.int j]=aF (.own<|ja q (wd i+wd j) B)/\eH p (wd i+wd j) q B l/\∀z,Span p (wd i+wd j) (dP q B) z↔rj p w wd T i (wd i) (j-i) z:=by
 have hl:=jf;have G:=O i;have W:wd i<=lim:=()
 have n:wd i+wd i<=lim:=()
 have d:∀k t q B l c,t+k=j-i->eH p (wd i+wd (i+t)) q B l->(∀z,Span p (wd i+wd (i+t)) (dP q B) z↔rj p w wd T i (wd i) t z)->
  ∃I J f Q,vj (.nm 5) oQ ((List.range' t k).map λk=>vX w wd T<|i+k) (lk p m w wd T i j (wd i) (ja q (wd i+wd (i+t)) B) c)=aF (.next<|lk p m w wd T i j (wd i) (ja I (wd i+wd j) J) Q)/\eH p (wd i+wd j) I J f/\
   ∀z,Span p (wd i+wd j) (dP I J) z↔rj p w wd T i (wd i) (j-i) z:=by
  intro k
  induction k with
  |zero=>
   intro t q B l c h a b;have E:t=j-i:=()
   have F:i+t=j:=()
   rw[F]at a b ⊢;rw[<-E];show(q,B,l,c,rfl,a,b)
  |succ k K=>
   intro t q B l c h a b;have hq:=K7 a.mono a.lt;have:=O<|i+t;show dj λU=>?_;let(P,g,N,e,o,r):=zkZ H O G Y i j () b;let(I,J,f,Q,C,ad,s):=K (t+1) P g N _ () o r;show U ?_;show(I,J,f,Q,?_,ad,s);change((oQ<|lk p m w wd T i j (wd i) (ja q (wd i+wd (i+t)) B)<|.val<|vX w wd T<|i+t).bind _)=_;rw[e];show C
 show dj λU=>?_;let(q,B,l,c,e,a,b):=d (j-i) 0 (wd i) (λx=>xQ (wd i) (j8 x)<|j8 x) id .no () (BV H<|wd i)<|zj3 H i;show U ?_;show(q,B,l,?_,a,b);have X:i<m+1:=()
 have S:zI (.nm 0) jb (zF qv (zf 0)<|zf 0) [Cell.no] (ja (wd i) (wd i) λi j=>if i=j then 1 else 0)=aF (ja (wd i) (wd i+wd i) λx=>xQ (wd i) (j8 x)<|j8 x):=by erw[ja];show zk _ _ λx hx=>zm rfl rfl ?_;simp[qv,n,yS];rfl
 have R:qc (qE p m w wd T)=aF (.T,[.int p,.tup<|zU (m+1) λk=>(wd k),.tup (xt m w wd T)]):=rfl;have A:qc (qh (wd i) (wd i) λi j=>if i=j then 1 else 0)=aF (.T,[.int (wd i),.int<|wd i,.tup (ja (wd i) (wd i) λi j=>if i=j then 1 else 0)]):=rfl;have M:fX (m+1) i=aF i:=by simp_all
 have u:Vd (xt m w wd T) (aF i) (aF j)=(cT<|j-i).map λk=>vX w wd T (i+k):=by rw[Pk Z L];rfl
 rw[<-W_]at e;simp?[lk,T7]at e;rw[mQ];erw[ju];simp?[z7,d5,mc,T4,L8,D2,jd,YK,ar,Xd,qU,vY,VQ,Ma,FF,aq,VP,Bt,YL,mN,PL,UO,DP,I9,kc,vW,R,A,PF,eK,t5,hU,nK,zp,PK,ix2,Fb,M,Fd _ X,vD W,We,mB,W,if_true,show ∀x,jj 1 [] x=[Cell.no]from λ_=>rfl,S,_H,_G,u,e];simp
end
section
theorem ZE:qc (qE p m w wd T)=aF (.T,[.int p,.tup<|zU (m+1) λk=>(wd k:Int),.tup (xt m w wd T)]):=rfl
end
theorem zx(h:F γ=aF (.next γ'))(g:G γ'=r):zW F G γ=r:=by rw[jd,h];show g
theorem zY(h:F (z7 n ds)=aF (.ret r)):ju n F ds=aF r:=by change(F _).bind _=_;rw[h];rfl
theorem Au(P:Nat->Ctx->Prop)(n:Nat)(B:P 0 γ)(step:∀s,s<n->∀γ,P s γ->∃γ1 y,kM T (.int s) γ=aF γ1/\F γ1=aF (.next y)/\P (s+1) y):
 ∃γ',vj T F ((cT n).map λ(i:Nat)=>D.int i) γ=aF (.next γ')/\P n γ':=by
 have b:∀k s γ,s+k=n->P s γ->∃γ',vj T F ((List.range' s k).map λ(i:Nat)=>D.int i) γ=aF (.next γ')/\P n γ':=by
  intro k
  induction k with
  |zero=>
   intro s γ e a;obtain rfl:s=n:=()
   show(γ,rfl,a)
  |succ k z=>
   intro s γ e a;let(γ1,y,d,I,J):=step s () γ a;let(γ',O,Q):=z (s+1) y () J;show(γ',?_,Q);simp?[List.range'_succ,mc,xy,d];simp?[eK,I];show O
 have:=b n 0 γ () B;rw[<-W_]at this;show this
theorem VB(P:Nat->Ctx->Prop)(n:Nat)(I:n<=lim)(H:f γ=aF (.int n))(B:P 0 γ)(step:∀s,s<n->∀γ,P s γ->∃γ1 y,kM T (.int s) γ=aF γ1/\F γ1=aF (.next y)/\P (s+1) y):
 ∃γ',XU (jv f) T F γ=aF (.next γ')/\P n γ':=by
 let(γ',e,a):=Au P n B step;show(γ',?_,a);have z:=jf;have r:inR n=aG:=kP () ();simp?[YL,Bq,H];simp[r,qb];assumption
theorem Jd(P:Nat->Ctx->Prop)(n:Nat)(B:P 0 γ)(step:∀s,s<n->∀γ,P s γ->∃γ1 y,kM T (g s) γ=aF γ1/\F γ1=aF (.next y)/\P (s+1) y):
 ∃γ',vj T F ((cT n).map g) γ=aF (.next γ')/\P n γ':=by
 have b:∀k s γ,s+k=n->P s γ->∃γ',vj T F ((List.range' s k).map g) γ=aF (.next γ')/\P n γ':=by
  intro k
  induction k with
  |zero=>
   intro s γ e a;obtain rfl:s=n:=()
   show(γ,rfl,a)
  |succ k z=>
   intro s γ e a;let(γ1,y,d,I,f):=step s () γ a;let(γ',J,h):=z (s+1) y () f;show(γ',?_,h);simp?[List.range'_succ,mc,xy,d];simp?[eK,I,J]
 let(γ',e,a):=b n 0 γ () B;rw[<-W_]at e;show(γ',e,a)
theorem R_(e:γ[i]? = aF (.own L))(z:f γ=aF d)(y:L.length<lim):qk i f γ=aF (.next<|γ.set i<|.own<|L++[d]):=by simp_all
theorem Bb(xs:zn D)(n:Nat)(B:xs.length=n)(y:∀i (h:i<n),∃z,xs[i]'(B ▸ h)=.int z)(as:n<=63)(k:Int)(S:0<=k)(aw:k<100000):
 ∃m,jU [.lst xs,.int k]=aF (.val<|.int m)/\0<=m/\m<1000000007:=by
 have J:Po 10 9=aG:=by decide
 have O:∀(z:Int) (a:Nat),z=a->a<n->fX n z=aF a:=λz a e h=>by rw[e,yt,DJ h]
 let γ:Cell->Cell->Cell->Ctx:=λa b c=>[.val (.lst xs),vI k,a,b,c];have tc:∀g:Int,∃m,O5 (γ .no .no<|vI g)=aF (.ret<|.val<|.int m)/\0<=m/\m<1000000007:=λg=>(_,by
  simp[O5,γ,mI _ 48271 () (),ZM 7 k () (),ZM 13 k () (),mI _ 69621 () (),mI (7*k) k () (),show Po 10 30=aG by decide];rfl,(),())
 have X:∃g:Int,E8 (γ .no .no<|vI k)=aF (.next<|γ .no .no<|vI g):=by
  by_cases H:n=0
  .exact(k,by simp[E8,γ,B,H])
  .let(i,K):=K2 (mZ k<|show(n:Int)≠0 by lia)
   have Q:i<n:=by have:=m9 k (show(0:Int)<n by lia);lia
   let(zlJ,E):=y i Q;show(zlJ,by simp[E8,γ,B,show 0<n by lia,K,yt,Q,E])
 have f:uC (γ .no .no .no)=aF (.next<|γ .no .no .no)->∃m,jU [.lst xs,.int k]=aF (.val<|.int m)/\0<=m/\m<1000000007:=λh=>by let(g,A):=X;let(m,C,M):=tc g;show(m,zY<|zx h<|zx rfl<|zx A C,M)
 by_cases l:1<n
 .let(z0,U):=y 0 ()
  have W:fX n 0=aF 0:=O _ 0 rfl ();have Y:(1:Int)<(n:Int):=()
  have p:0<n:=()
  by_cases o:z0%2=1
  .have Z:(0:Int)<(n:Int)-1:=()
   have R:(n:Int)-1<1073741824:=()
   let(j,L):=K2 (mZ k<|show(n:Int)-1≠0 by lia);have I:1+j<n:=by have:=m9 k Z;lia
   let(zlK,G):=y (1+j) I;have P:fX n (1+(j:Int))=aF (1+j):=O _ _ () I;let(t,N):=K2 (show 0<=k/((n:Int)-1)from Int.ediv_nonneg S ());let(d,w,ax):∃d:Nat,(if (t:Int)<60 then (t:Int)else 60)=d/\d<=60:=by
    split
    .exact(t,rfl,())
    .exact(60,rfl,())
   let(_,r,u,c',rfl):=Jd (T:=.nm 3) (F:=jF 2<|zF VO (zf 2)<|zF LI (sI 10)<|sI 9) (g:=λ(i:Nat)=>D.int i) (λ_ δ=>∃(v:Int) (c:Cell),δ=γ (vI v) c .no) d (γ:=γ (vI zlK) .no .no) (_,_,rfl) (by
    rintro s _ _ ⟨v,c,rfl⟩;show(_,γ (vI<|v/10^9) (.val<|.int s) .no,rfl,by simp[γ,J],_,_,rfl))
   rw[<-z9 d λi=>(i:Int)]at r;have x:inR (d:Int)=aG:=kP () ();show(u%10^9,?_,(),());have:uC (γ .no .no .no)=aF (.ret<|.val<|.int<|u%10^9):=by simp[uC,jd,γ,B,l,p,Y,I,U,W,o,Z,R,L,P,G,N,w,x,qb,r,J]
   show zY ?_;change zW uC _ (γ .no .no .no)=_;rw[jd,this];rfl
  .exact f (by simp[uC,γ,B,l,p,Y,U,W,o])
 .exact f (by simp[uC,γ,B,show ¬(1:Int)<(n:Int)by lia])
theorem LN(e:zn Int)(B:e.length<=63)(k:Int)(y:0<=k)(z:k<100000):∃m,jU [X6 e,.int k]=aF (.val<|.int m)/\0<=m/\m<1000000007:=
 Bb _ e.length () (λi a=>(e[i],by simp)) B k y z
def Xc(e:zn Int)(k:Int):Int:=match jU [X6 e,.int k]with
 |some (.val<|.int m)=>m
 |_=>0
theorem af(B:ns.length<=63)(y:0<=k)(z:k<100000):jU [X6 ns,.int k]=aF (.val<|.int<|Xc ns k)/\0<=Xc ns k/\Xc ns k<1000000007:=by
 let(m,h,a,b):=LN ns B k y z;have e:Xc ns k=m:=by erw[Xc];rw[h]
 rw[e];show(h,a,b)
theorem Mv{e:zn Int}(B:e.length<=63){m:Nat}(H:m<=5):∃w,kj [X6 e,.int 1,.int (1+m)]=aF (.val<|.str<|BO m w):=by
 have J:=jf;have y:m<=lim:=()
 show(λk=>decide (Xc e (1+k)/8%2=1),?_);have b:zI (.nm 0) jb (iT (je (.str "rl")) (zF yL (zF VO (zD jU (zc (zf 1) (zc (zF qv (zf 2) (zf 0)) zH))) (sI 8)) (sI 2))) [Cell.no,Cell.val (X6 e),vI 1] ((cT m).map λ(i:Nat)=>D.int i) =
  aF ((cT m).map λ(k:Nat)=>D.str<|jW<|f6<|decide<|Xc e (1+k)/8%2=1):=by
  show zk _ _ λk z=>zm rfl rfl ?_;have z:=ed.mp z;let(a,O,Q):=af B (k:=1+k) () ();have I:zF yL (zF VO (zD jU<|zc (zf 1)<|zc (zF qv (zf 2)<|zf 0) zH)<|sI 8) (sI 2) [vI k,Cell.val<|X6 e,vI 1]=aF (.int<|Xc e (1+k)/8%2):=by simp[a]
  change iT _ _ [_,_,_]=_;rw[FE,I];have q:Xc e (1+k)/8%2=0\/Xc e (1+k)/8%2=1:=()
  rcases q with q|q
  .rw[q];rfl
  .rw[q];rfl
 have a:1+m-1=(m:Int):=()
 simp[kj,ju,z7,jd,a,y,qb,jj,yo,d5];rw[z9 m λi=>i,b];simp?[t5,eK,R9];rw[Jp];simp?[eK];rw[DJ (~~~y,om.mp (by
  rw[List.all_map];show om.mpr λk _=>by rfl),rfl)]
 rfl
def jy(bs:zn (Int×Int)):zn D:=bs.map λb=>D.tup [.int b.1,.int b.2]
@[simp] theorem w6(bs):(jy bs).length=bs.length:=by simp[jy]
theorem Vx:∀bs,Xs (jy bs)=aF bs
 |[]=>rfl
 |b::bs=>by have y:=Vx bs;erw[jy]at y;simp[jy,Xs,Eb,y]
def wH(bs:zn (Int×Int)):zn (Int×Int):=(xq bs).map λi=>bs.getD i (0,0)
theorem k9(bs):(wH bs).Perm bs:=by have:=(j6 bs).map λi=>bs.getD i (0,0);rw[jz]at this;show this
theorem zkw(h:bs.length<64):Cg (jy bs)=aF (jy<|wH bs):=by erw[Cg];rw[Vx];change(if _<64 then aF _ else aT)=_;rw[w6,DJ h];erw[wH];congr 1;erw[jy];rw[gj];show ll λi a=>?_;simp[(ed.mp<|(j6 bs).mem_iff.mp a)]
def dY(n:Int)(b:Int×Int):Prop:=0<=b.1/\b.1<=b.2/\b.2<n
@[simp] def zmB:=@FW.eq_1
def i5(i j:Nat):Int:=if i=j then 1 else 0
def Kh(p:Int)(n:Nat)(f g:DW):Prop:=∀i j,i<n->j<n->zo (λk=>f i k*g k j) n%p=i5 i j%p
theorem K6{p x y X Y:Int}(e:x%p=X%p)(z:y%p=Y%p):(x*y)%p=(X*Y)%p:=by rw[eG,e,z,<-eG]
section
theorem ziU(J:a*b%p=1%p)(B:Kh p n f g)(H:∀i k,i<n->k<n->f' i k%p=((if i=u then a else 1)*f i k)%p)(O:∀k j,k<n->j<n->g' k j%p=((if j=u then b else 1)*g k j)%p):Kh p n f' g':=by
 intro i j d y;rw[zZ (g:=λk=>_*(f i k*g k j)) λk z=>by rw[K6 (H i k d z) (O k j z y)];congr 1;rw[oX,oX];congr 1;rw[Se],jS,eG,B i j d y,<-eG]
 erw[i5];by_cases e:i=j
 .subst e
  by_cases I:i=u
  .simp?[DJ I,if_true,D4];show J
  .simp?[DY I,if_true];rfl
 .simp?[DY e,sm]
theorem zhb(J:b*a%p=1%p)(e:Kh p n g f)(B:∀i k,i<n->k<n->f' i k%p=((if i=u then a else 1)*f i k)%p)(O:∀k j,k<n->j<n->g' k j%p=((if j=u then b else 1)*g k j)%p):Kh p n g' f':=by
 intro i j d y;rw[<-e i j d y];show zZ λk z=>?_;rw[K6 (O i k d z) (B k j z y)];by_cases I:k=u
 .simp?[DJ I]
  rw[show b*g i k*_=(b*a)*(g i k*f k j)by grind,eG,J,<-eG,M9]
 .simp?[DY I,M9]
theorem BU(O:u<n)(Q:o<n)(H:u≠o)(h1:Kh p n f g)(B:∀i k,i<n->k<n->f' i k%p=(f i k+(if i=u then t else 0)*f o k)%p)(U:∀k j,k<n->j<n->g' k j%p=(g k j+(if j=o then -t else 0)*g k u)%p):Kh p n f' g':=by
 intro i j e I;generalize ea:(if i=u then t else 0)=a at B;have W:=λk z=>by show(B i k e z)
 rw[zZ (g:=λk=>f i k*g k j+(if j=o then -t else 0)*(f i k*g k u)+((if i=u then t else 0)*(f o k*g k j)+((if i=u then t else 0)*(if j=o then -t else 0))*(f o k*g k u))) λk z=>by
  rw[K6 (W k z) (U k j z I)]
  grind]
 simp?[jN,jN,jN,jS,jS,jS];have Z:=h1 o u Q O;have J c S d:S%p=d%p->(c*S)%p=(c*d)%p:=λh=>K6 rfl h;have ad x y X Y:x%p=X%p->y%p=Y%p->(x+y)%p=(X+Y)%p:=λa b=>by rw[ix,a,b,<-ix]
 rw[ad _ _ _ _ (ad _ _ _ _ (h1 i j e I)<|J _ _ _<|h1 i u e O) (ad _ _ _ _ (J _ _ _<|h1 o j Q I)<|J _ _ _ Z)];congr 1;erw[i5];lia
theorem zj2(J:u<n)(O:o<n)(Q:u≠o)(e:Kh p n g f)(B:∀i k,i<n->k<n->f' i k%p=(f i k+(if i=u then t else 0)*f o k)%p)(U:∀k j,k<n->j<n->g' k j%p=(g k j+(if j=o then -t else 0)*g k u)%p):Kh p n g' f':=by
 intro i j b z;rw[<-e i j b z];rw[zZ (g:=λk=>g i k*f k j+((if k=u then t*_ else 0)+(if k=o then -t*_ else 0))) λk y=>by
  rw[K6 (U i k b y) (B k j y z)];congr 1;by_cases a:k=u
  .subst a
   simp?[DY Q,if_true,MJ,wh,D5];rw[Se]
  .by_cases I:k=o
   .subst I
    simp?[DY a,if_true,MJ,wh,Int.zero_add,Nj];rw[oX]
   .simp?[DY a,DY I,MJ,wh]]
 rw[jN,jN,zV J λk _ y=>DY y,zV O λk _ y=>DY y];simp?[if_true];congr 1;rw[Int.neg_mul];lia
end
def xO(n:Nat)(f:DW):zn D:=(cT n).map λi=>D.lst<|zU n<|f i
def vh(n:Nat)(f:DW):zn (zn D):=(cT n).map λi=>zU n<|f i
theorem zkk(n f):(vh n f).map D.lst=xO n f:=by simp[vh,xO]
@[simp] theorem zkl(n f):(xO n f).length=n:=by simp[xO]
@[simp] theorem zmv(f)(e:i<(xO n f).length):(xO n f)[i]=.lst (zU n<|f i):=by simp[xO]
@[simp] theorem zl0(r):yo (.nest r)=.no:=rfl
@[simp] theorem zl6(r):yo (.own r)=.no:=rfl
@[simp] theorem zl5(d):yo (.val d)=.val d:=rfl
@[simp] theorem zmd:yo .no=.no:=rfl
theorem Yy(I:a<n)(v z:Vc)(x:Int)(H:z a=x)(B:∀i,i<n->i≠a->z i=v i):(zU n v).set a (.int x)=zU n z:=by
 apply zt;intro i;rw[S8];by_cases b:i<n
 .by_cases e:a=i
  .simp_all
  .have:=B i b (ew e)
   simp_all
 simp_all
theorem bz(I:u<n)(f y:DW)(v:Vc)(B:∀j,j<n->y u j=v j)(H:∀i j,i<n->i≠u->j<n->y i j=f i j):(xO n f).set u (.lst<|zU n v)=xO n y:=by
 apply zt;intro i;rw[S8];by_cases a:i<n
 .by_cases e:u=i
  .subst e;simp[I,xO];show vV λj z=>(B j z).symm
  .simp[e,xO,a];show vV λj z=>(H i j a (ew e) z).symm
 simp_all
theorem QY:∀(l:zn Nat),(∀k∈l,∃d y m,zhB (wu γ j i<|R k)=aF d/\zhS (wu γ j i<|R k)=aF (.int y)/\fX (R k).length y=aF m/\(R k).set m d=R' k)->yR j i zhS zhB γ (l.map R)=aF (l.map R')
 |[],_=>rfl
 |k::l,h=>by let(d,y,m,a,b,e,f):=h k gH;simp[yR,a,b,e,f,(QY l λx z=>h x<|gy _ z)]
theorem dz:∀(l:zn Nat),(∀k∈l,∃γ1,kM T (g k) γ=aF γ1/\f γ1=aF (R k))->Jf T f γ (l.map g)=aF (l.map R)
 |[],_=>rfl
 |k::l,h=>by let(γ1,a,b):=h k gH;simp[Jf,a,b,(dz l λx y=>h x<|gy _ y)]
section
structure Pair(p:Int)(n:Nat)(f g:DW):Prop where
 bf:∀i j,i<n->j<n->0<=f i j/\f i j<p
 bg:∀i j,i<n->j<n->0<=g i j/\g i j<p
 fg:Kh p n f g
 gf:Kh p n g f
end
@[simp] theorem zl4(n f):(vh n f).length=n:=by simp[vh]
def qu(w:DV)(k:Nat):Nat:=if w k then k+1 else k
def qi(w:DV)(k:Nat):Nat:=if w k then k else k+1
theorem JM(w:DV)(wd:DX)(k):fm w wd k=wd (qi w k):=by erw[fm,qi];split<;>rfl
theorem Xh(w:DV)(wd:DX)(k):eX w wd k=wd (qu w k):=by erw[eX,qu];split<;>rfl
theorem gW(w:DV)(h:k<m):qu w k<m+1:=by erw[qu];lia
theorem AE(w:DV)(h:k<m):qi w k<m+1:=by erw[qi];lia
theorem Vf(w:DV)(k:Nat):ko [.int k,.str (jW<|f6<|w k)]=aF (.val<|.int<|qu w k):=by have q:=gK<|w k;cases h:w k<;>rw[h]at q<;>simp[ko,ju,z7,qu,q,h]
theorem mS(w:DV)(k:Nat):J4 [.int k,.str (jW<|f6<|w k)]=aF (.val<|.int<|qi w k):=by have q:=gK<|w k;cases h:w k<;>rw[h]at q<;>simp[J4,ju,z7,qi,q,h]
def yF(m:Nat)(wd:DX)(f:DQ):zn D:=(cT m).map λk=>qh (wd k) (wd k)<|f k
@[simp] theorem zlX(m wd f):(yF m wd f).length=m:=by simp[yF]
@[simp] theorem zmu(wd f)(h:k<(yF m wd f).length):(yF m wd f)[k]=qh (wd k) (wd k) (f k):=by simp[yF]
def QC(p:Int)(w:DV)(wd:DX)(f g T:DQ)(k i j:Nat):Int:=
 zo (λb=>g (qu w k) b j*(zo (λa=>T k a b*f (qi w k) i a) (wd<|qi w k)%p)) (wd<|qu w k)%p
section
theorem vB(m:Nat)(F:Nat->D):xB ((cT m).map F)=(cT m).map λ(k:Nat)=>D.tup [.int k,F k]:=by
 erw[xB]
 simp_all
end
@[simp] theorem zma(γ:Ctx)(f):sM f γ=(f γ).bind λd=>match d with
 |.str z=>if zT z=aG then aF (xB<|ye z)else aT
 |_=>aT:=rfl
@[simp] theorem zmH(γ:Ctx)(f g):yI f g γ=(f γ).bind λd=>(g γ).bind λe=>match d,e with
 |.str x,.str y=>if zT x=aG/\zT y=aG then aF (.str<|x++y)else aT
 |_,_=>aT:=rfl
theorem GO{e β:Type}{f g:e->β}{xs:zn e}(h:xs.map f=xs.map g){a:e}(z:a∈xs):f a=g a:=List.map_inj_left.mp h a z
def Tx:=(jF 3<|jY<|zL (jv<|cR (zh 2)<|sI 1) (.nm 0) 1 [2] jb (jY<|zL (zR<|zN<|cR (zh 1)<|sI 2) (.nm 0) 1 [0] jb (cR (zh 0)<|zf 1)))
def zbb:=(yG 4<|xY zH)
def ltB:=(qk 4<|jt<|jq<|zL (zR<|zh 3) (.nm 0) 1 [0,5] jb (zF yL (Mi<|jq<|zL (eZ (zf 2)<|zf 0) (.tp [0,1]) 2 [] jb (zF vE (zf 0)<|zf 1))<|zf 1))
def zba:=(XU (zR<|zN<|cR (zh 1)<|sI 2) (.nm 5) ltB)
def za9:=(qo<|kN<|zc (cR (zh 1)<|sI 0)<|zc (cR (zh 2)<|sI 1)<|zc (jt<|zh 4) zH)
def xk:=ju 6<|zW Tx<|zW zbb<|zW zba za9
def x_:=(yG 4<|zL (jv<|zf 3) (.nm 0) 1 [3] jb (jY<|zL (jv<|zf 1) (.nm 0) 1 [0] jb (QH<|zF ei (zf 1)<|zf 0)))
def RL:=(Cm 5<|iX (jv<|zf 3) (.nm 0) 1 [3] (zL (jv<|zf 1) (.nm 0) 1 [0] jb (QH<|zF ei (zf 1)<|zf 0)))
def B_:=(zW (iU 4 (zf 8)<|jY<|zL (zR<|zN<|cR (zh 4)<|zf 8) (.nm 0) 1 [2,10] jb (zF yL (zF vE (zf 2)<|zf 0)<|zf 1))<|zW (jF 11<|cR (jq<|zL (jv<|zf 2) (.nm 0) 1 [2,10] (sB<|zF ei (zF yL (zF vE (zf 0)<|zf 2)<|zf 1)<|sI 1) (zf 0))<|sI 0)<|fz 5 12 (zf 8)<|zF yL (zF vE (cR (zh 12)<|zf 8)<|zf 11)<|zf 2)
def z_:=(zW (iU 4 (zf 9)<|jY<|zL (eZ (cR (zh 4)<|zf 9)<|cR (zh 4)<|zf 8) (.tp [0,1]) 2 [2,10] jb (zF yL (zF qv (zf 0)<|zF vE (zf 3)<|zf 1)<|zf 2))<|fz 5 12 (zf 8)<|zF yL (zF W3 (cR (zh 12)<|zf 8)<|zF vE (zf 10)<|cR (zh 12)<|zf 9)<|zf 2)
def Ds:=(eI (sB<|zF ei (zf 8)<|zf 9) B_ z_)
def y_:=(XU (jv<|zF vE (sI 3)<|zf 3) (.nm 6)<|zW (jF 7<|zD jU<|zc (zf 0)<|zc (zF qv (zf 1)<|zf 6) zH)<|zW (jF 8<|zF yL (zf 7)<|zf 3)<|zW (jF 9<|zF yL (zF VO (zf 7)<|zf 3)<|zf 3)<|zW (jF 10<|zF qv (sI 1)<|zF yL (zF VO (zf 7)<|sI 97)<|zF W3 (zf 2)<|sI 1) Ds)
def tn4:=(yG 13<|xY zH)
def tn5:=(Nf 5<|Ru 4<|XU (zR<|zN<|jY<|xY<|zc (zf 4)<|zc (zf 5) zH) (.nm 14)<|qk 13<|kN<|zc (zf 3)<|zc (zf 3)<|zc (jt<|jq<|zL (zR<|zh 14) (.nm 0) 1 [] jb (jt<|zh 0)) zH)
def tn6:=(XB 13)
def xJ:=ju 15<|zW x_<|zW RL<|zW y_<|zW tn4<|zW tn5 tn6
def za8:=(HZ (.tp [3,4,5])<|zf 0)
def za7:=(yG 6<|xY zH)
def P0:=(zW (jF 9 (zF qv (zf 7) (QH (zF ei (cR (zh 8) (sI 0)) (je (.str "l")))))) (zW (jF 10 (zF qv (zf 7) (QH (zF ei (cR (zh 8) (sI 0)) (je (.str "r")))))) (qk 6 (kN (zc (cR (zh 8) (sI 0)) (zc (zD xk (zc (zf 3) (zc (zD xk (zc (zf 3) (zc (cR (zh 1) (zf 10)) (zc (cR (zh 8) (sI 1)) zH)))) (zc (cR (zh 2) (zf 9)) zH)))) zH))))))
def M':=(XU (Wc<|zf 5) (.tp [7,8]) P0)
def za6:=(qo<|kN<|zc (zf 3)<|zc (zf 4)<|zc (jt<|zh 6) zH)
def qO:=ju 11<|zW za8<|zW za7<|zW M' za6
def qf:=ju 1<|qo<|kN<|zc (cR (zh 0)<|sI 0)<|zc (zF W3 (zF qv (cR (zh 0)<|sI 0)<|J7<|zN<|cR (zh 0)<|sI 1)<|sI 1) zH
def j9:=ju 2<|qo<|wt l0 oM (cR (zh 0)<|sI 0) (zf 1)<|zF qv (cR (zh 0)<|sI 0)<|J7<|zN<|cR (zh 0)<|sI 1
def xA:=ju 2<|yH<|zL (zR<|zh 0) (.nm 0) 1 [1] (sB<|zD j9<|zc (zf 0)<|zc (zf 1) zH) (cR (zN<|cR (zh 0)<|sI 1)<|zF W3 (zf 1)<|cR (zh 0)<|sI 0)
def yA:=ju 2<|qo<|zD qM<|zc (kN<|zc (J7<|zh 1)<|zc (zf 0)<|zc (jt<|zh 1) zH) zH
def yX:=ju 5<|zW (jF 4<|jY<|zL (eZ (zf 2)<|zf 1) (.tp [0,1]) 2 [3] (sB<|zD j9<|zc (zf 1)<|zc (zf 2) zH) (zf 0))<|qo<|zD iq<|zc (cR (zh 0)<|sI 0)<|zc (zD yA<|zc (cR (zN<|cR (zh 0)<|sI 1)<|zf 3)<|zc (jY<|jx xA<|zc (zf 1)<|zc (zf 3) zH) zH)<|zc (zf 4) zH
def az:=ju 5<|zW (jF 3<|cR (zh 1)<|zD xI<|zc (zf 2) zH)<|zW (jF 4<|jY<|zL (jv<|J7<|zN<|cR (zh 3)<|sI 1) (.nm 0) 1 [0,1,2,3] jb (zD yX<|zc (zf 1)<|zc (zf 2)<|zc (zf 3)<|zc (zF qv (cR (zh 4)<|sI 0)<|zf 0) zH))<|qo<|kN<|zc (cR (zh 3)<|sI 0)<|zc (jt<|zh 4) zH
def YS:=ju 8 (zW (jF 3 (cR (zN (cR (zN (cR (zh 0) (sI 2))) (zf 1))) (sI 0))) (zW (jF 4 (cR (zN (cR (zN (cR (zh 0) (sI 2))) (zf 1))) (sI 1))) (zW (jF 5 (fw (sB (zF ei (zf 3) (je (.str "r")))) (jY (jx wc (zc (cR (zh 0) (sI 0)) (zc (zf 4) zH)))) (jY (jx Xg (zc (cR (zh 0) (sI 0)) (zc (zf 4) zH)))))) (zW (jF 6 (jY (jx qy (zc (cR (zh 0) (sI 0)) (zc (zD yA (zc (cR (zN (cR (zh 0) (sI 1))) (zf 1)) (zc (jY (jx xA (zc (zf 2) (zc (zf 1) zH)))) zH))) (zc (zf 5) zH)))))) (zW (jF 7 (FY (zL (zR (zh 6)) (.nm 0) 1 [] jb (kN (zc (zD xI (zc (zf 0) zH)) (zc (zf 0) zH)))))) (yH (zL (Xk (zf 2)) (.tp [0,1]) 2 [0,2,7] jb (fw (sB (Nh (zf 0) (zf 4))) (zD az (zc (zf 2) (zc (zf 3) (zc (Rv (zf 4) (zf 0)) zH)))) (zf 1)))))))))
def yz:=ju 4 (zW (eI (sB (zF ei (cR (zh 1) (sI 0)) (je (.str "l")))) (qo (zD Zu (zc (zf 0) (zc (cR (zh 1) (sI 1)) (zc (zf 2) zH))))) jO) (zW (jF 3 (zD iq (zc (zf 0) (zc (cR (zh 1) (sI 1)) (zc (zf 2) zH))))) (qo (fw (sB (Mj (zh 3))) (zf 3) (je .dw)))))
def w_:=(jF 3<|zD yz<|zc (zf 0)<|zc (zf 1)<|zc (cR (zN<|cR (zh 2)<|sI 1)<|fv<|sI 1) zH)
def x':=(qo<|fw (sB<|zF BG (zf 3)<|je .dw) (zf 2)<|kN<|zc (cR (zh 2)<|sI 0)<|zc (zF qv (cR (zh 2)<|sI 1)<|kN<|zc (zf 3) zH) zH)
def vC:=ju 4<|zW w_ x'
def Ji:=ju 3 (zW (eI (sB (zF ei (cR (zh 1) (sI 0)) (je (.str "l")))) (yH (jx wc (zc (zf 0) (zc (cR (zh 1) (sI 1)) zH)))) jO) (zW (jF 2 (jY (zL (zR (jq (jx Xg (zc (zf 0) (zc (cR (zh 1) (sI 1)) zH))))) (.nm 0) 1 [] jb (zD xI (zc (zf 0) zH))))) (yH (zL (Wc (cR (zN (zD qr (zc (cR (zN (cR (zh 1) (sI 1))) (sI 0)) zH))) (sI 2))) (.tp [0,1]) 2 [2] (sB (fu (zf 0) (zh 2))) (zf 1)))))
def aC:=ju 9 (zW (jF 3 (cR (zh 0) (sI 0))) (zW (jF 4 (cR (zN (cR (zh 0) (sI 2))) (zf 1))) (zW (jF 5 (jY (zL (zR (zh 2)) (.nm 0) 1 [1] (qA (sB (zD j9 (zc (zf 0) (zc (zf 1) zH))))) (zf 0)))) (zW (jF 6 (jY (jx YS (zc (zf 0) (zc (zf 1) (zc (jY (zL (zR (zh 2)) (.nm 0) 1 [1] (sB (zD j9 (zc (zf 0) (zc (zf 1) zH)))) (zf 0))) zH)))))) (zW (jF 7 (jY (zL (zR (zh 6)) (.nm 0) 1 [3,4] jb (zD vC (zc (zf 1) (zc (zf 2) (zc (zf 0) zH))))))) (zW (jF 8 (jY (zL (zR (jq (jx Ji (zc (zf 3) (zc (zf 4) zH))))) (.nm 0) 1 [1] jb (kN (zc (zF qv (zf 1) (sI 1)) (zc (kN (zc (zf 0) zH)) zH)))))) (qo (jY (Y0 (zh 5) (zN (fw (sB (zF ei (cR (zh 4) (sI 0)) (je (.str "r")))) (jY (Y0 (zh 8) (zh 7))) (jY (Y0 (zh 7) (zh 8))))))))))))))
def O2:=(jF 1<|jY<|zL (zR<|zN<|cR (zN<|zD qr<|zc (cR (zN<|cR (zh 0)<|sI 1)<|sI 0) zH)<|sI 2) (.nm 0) 1 [] jb (kN<|zc (sI 0)<|zc (kN<|zc (zf 0) zH) zH))
def P?:=(XU (jv<|J7<|zN<|cR (zh 0)<|sI 2) (.nm 2)<|jF 1<|zD aC<|zc (zf 0)<|zc (zf 2)<|zc (zf 1) zH)
def UL:=(yH<|sF qf<|zh 1)
def wq:=ju 3<|zW O2<|zW P? UL
def wo:=ju 4<|zW (jF 1<|jY<|jx wq<|zc (zf 0) zH)<|zW (jF 2<|jY<|zL (Wc<|cR (zh 0)<|sI 1) (.tp [0,1]) 2 [1] jb (zD yA<|zc (zf 1)<|zc (jY<|jx xA<|zc (zf 2)<|zc (zf 0) zH) zH))<|zW (jF 3<|jY<|zL (zR<|zh 2) (.nm 0) 1 [0] jb (zD yC<|zc (cR (zh 1)<|sI 0)<|zc (zf 0) zH))<|qo<|kN<|zc (jY<|zL (zR<|zh 1) (.nm 0) 1 [] jb (zD qf<|zc (zf 0) zH))<|zc (zf 3)<|zc (zf 2) zH
def e':=jF 3<|jY<|jx mQ<|zc (zf 0)<|zc (zf 1)<|zc (zf 2) zH
def e_:=jF 4<|cR (zN<|cR (zh 0)<|sI 1)<|zf 1
def f_:=jF 5<|cR (zN<|cR (zh 0)<|sI 1)<|zf 2
def g_:=jF 6<|jY<|jx qJ<|zc (cR (zh 0)<|sI 0)<|zc (zF qv (zf 5)<|zf 4)<|zc (jY<|zL (zR<|zh 3) (.nm 0) 1 [4] jb (zF qv (dX (zf 0) (fP<|zf 1) Jk)<|dX (zf 0) Jk<|fP<|zf 1)) zH
def h_:=qo<|zF W3 (zF W3 (J7<|zh 3)<|J7<|jq<|jx qa<|zc (zf 5)<|zc (zf 6) zH)<|J7<|jq<|jx qa<|zc (zf 4)<|zc (zf 3) zH
def J2:=ju 7<|zW e'<|zW e_<|zW f_<|zW g_ h_
def OU:CO D:=jY<|jx xJ<|zc (zf 2)<|zc (zF qv (zf 3)<|zF vE (sI 20)<|zf 0)<|zc (cR (zh 4)<|sI 0)<|zc (zf 1) zH
def Ap:=jF 3<|jY<|zL (Wc<|cR (zh 2)<|sI 1) (.tp [0,1]) 2 [0,1,2] jb OU
def Hb:=qo<|zD qO<|zc (zf 2)<|zc (jY<|zL (zR<|zh 3) (.nm 0) 1 [] jb (cR (zh 0)<|sI 0))<|zc (jY<|zL (zR<|zh 3) (.nm 0) 1 [] jb (cR (zh 0)<|sI 1)) zH
def yY:=ju 4<|zW Ap Hb
def VM:CO Bool:=sB<|zF ti (Mi<|jq<|zL (zR<|zh 0) (.tp [0,1]) 2 [] jb (zF qv (zF W3 (zf 1)<|zf 0)<|sI 1))<|sI 30
def Av:=jF 0<|jY<|FX (zh 0) (fP<|sI 1) Jk
def YU:=ju 1<|zW (FV 100 VM Av)<|XB 0
def vd:=ju 1<|zW (eI (nI (qA<|sB<|sJ<|zf 0)<|qA<|sB<|wt l0 l0 (sI 1) (J7<|zh 0)<|sI 6) (qo<|je<|.bl bB) jO)<|zW (eI (qA<|sB<|sO<|jq<|zL (zR<|zh 0) (.nm 0) 1 [] jb (BE (zD qz<|zc (zf 0) zH)<|zF lT (zf 0)<|sI 0)) (qo<|je<|.bl bB) jO)<|qo<|zF l0 (Mi<|zh 0)<|sI 30
def vZ:=ju 1<|zW (eI (qA<|sB<|zD vd<|zc (zf 0) zH) qp jO)<|qo<|jt<|zh 0
def Zw:=ju 6 (zW (eI (nI (qA (sB (zD xw (zc (zf 3) (zc (sI 2) zH))))) (sB (xp (cR (zh 3) (sI 0)) (zN (je (.tup [.str "r",.str "l"])))))) qp jO) (zW (jF 4 (cR (zh 3) (sI 0))) (zW (jF 5 (zD Zt (zc (zf 0) (zc (cR (zh 1) (zD J4 (zc (zf 2) (zc (zf 4) zH)))) (zc (cR (zh 1) (zD ko (zc (zf 2) (zc (zf 4) zH)))) (zc (cR (zh 3) (sI 1)) zH)))))) (qo (kN (zc (zf 4) (zc (zf 5) zH)))))))
def yV:=ju 1 (qo (wA (je (.str "/")) (jq (zL (zR (zN (cR (zh 0) (sI 2)))) (.nm 0) 1 [] jb (wA (je (.str "")) (jq (zL (zR (zh 0)) (.nm 0) 1 [] jb (qX (zf 0)))))))))
def kC:=ju 2 (zW (jF 1 (zD yV (zc (cR (zh 0) (sI 1)) zH))) (qo (fw (sB (zF ei (cR (zh 0) (sI 0)) (je (.str "r")))) (QI [je (.str "-"),nJ (zf 1),je (.str ">")]) (QI [je (.str "<"),nJ (zf 1),je (.str "-")]))))
def Zv:=ju 5 (zW (jF 1 (cR (zh 0) (sI 0))) (zW (yG 2 (xY (zc (QI [nJ (zf 1),je (.str ":")]) (zc (qX (cR (zN (cR (zh 0) (sI 1))) (sI 0))) zH)))) (zW (XU (eZ (cR (zh 0) (sI 2)) (dX (cR (zh 0) (sI 1)) (fP (sI 1)) Jk)) (.tp [3,4]) (zW (qk 2 (zD kC (zc (zf 3) zH))) (qk 2 (qX (zf 4))))) (qo (wA (je (.str " ")) (zh 2))))))
def xM:=ju 1 (qo (Co (zf 0) (jq (zL (zR (zN (je (.tup [.int 2,.int 3,.int 5,.int 7])))) (.nm 0) 1 [] jb (QI [nJ (zf 0),je (.str ":")])))))
def xK:=ju 1<|qo<|Co (zf 0)<|jq<|zL (jv<|zF qv (sI 30)<|sI 1) (.nm 0) 1 [] jb (qX<|zf 0)
def xN:=ju 1 (zW (eI (sB (xp (yI (pX (zf 0) Jk (fP (sI 1))) (pX (zf 0) (fP (fv (sI 1))) Jk)) (zN (kN (zc (je (.str "->")) (zc (je (.str "<-")) zH)))))) (qo (je (.bl bB))) jO) (qo (sO (jq (zL (Vp (pX (zf 0) (fP (sI 1)) (fP (fv (sI 1))))) (.nm 0) 1 [] jb (Cn (zf 0) (je (.str "0123456789/"))))))))
def yb:=ju 2<|zW (eI (sB<|zF ei (zf 0)<|sI 0) (qo<|zD xM<|zc (zf 1) zH) jO)<|zW (eI (sB<|zF ei (zF yL (zf 0)<|sI 2)<|sI 1) (qo<|zD xK<|zc (zf 1) zH) jO)<|qo<|zD xN<|zc (zf 1) zH
def we:=ju 3<|zW (XU (Xk<|zf 0) (.tp [1,2])<|eI (qA<|sB<|zD yb<|zc (zf 1)<|zc (zf 2) zH) qp jO)<|eI (sB<|zF ei (zF yL (J7<|zh 0)<|sI 2)<|sI 1) qp jO
def kz:=ju 1<|yH<|zL (Vp<|zf 0) (.nm 0) 1 [] jb (Wb<|zf 0)
def yx:=ju 2 (zW (eI (bu (sB (zF ei (zf 0) (je (.str "")))) (sB (zF ei (zf 1) (sI 0)))) (yH (xY zH)) jO) (yH (zL (zR (jq (yh (zf 0) (je (.str "/"))))) (.nm 0) 1 [] jb (jY (jx kz (zc (zf 0) zH))))))
def yE:=ju 2<|qo<|sO<|jq<|zL (zR<|zh 1) (.nm 0) 1 [0] jb (zF oM (zf 0)<|zf 1)
def vc:=ju 6 (zW (jF 4 (fw (sB (fi (zf 3) (je (.str "-")))) (je (.str "r")) (je (.str "l")))) (zW (jF 5 (jY (jx yx (zc (pX (zf 3) (fP (sI 1)) (fP (fv (sI 1)))) (zc (cR (zh 1) (zD J4 (zc (zf 2) (zc (zf 4) zH)))) zH))))) (zW (eI (qA (sB (sO (jq (zL (zR (zh 5)) (.nm 0) 1 [0] jb (zD yE (zc (zf 1) (zc (zf 0) zH)))))))) qp jO) (qo (zD Zw (zc (zf 0) (zc (zf 1) (zc (zf 2) (zc (kN (zc (zf 4) (zc (zf 5) zH))) zH)))))))))
def Xe:=ju 5 (zW (jF 1 (jY (yh (zf 0) (je (.str " "))))) (zW (sN (zD we (zc (zf 1) zH))) (zW (jF 2 (Wb (pX (cR (zh 1) (sI 0)) Jk (fP (fv (sI 1)))))) (zW (jF 3 (zD vZ (zc (jY (zL (zR (jq (Rr (zh 1) (fP (sI 1)) Jk (fP (sI 2))))) (.nm 0) 1 [] jb (Wb (zf 0)))) zH))) (zW (jF 4 (jY (zL (Xk (jY (Rr (zh 1) (fP (sI 2)) Jk (fP (sI 2))))) (.tp [0,1]) 2 [2,3] jb (zD vc (zc (zf 2) (zc (zf 3) (zc (zf 0) (zc (zf 1) zH)))))))) (qo (kN (zc (zf 2) (zc (zf 3) (zc (jt (zh 4)) zH))))))))))
def uP:zn (Str×Int):=[("cut",2),("mirror",0),("opposite",0),("about",1),("split",0),("bars",0),("kept",2),("widths",0)]
def jA:=ju 2 (zW (jF 1 (cR (zh 0) (sI 0))) (zW (eI (sB (Co (zf 1) (zN (je (.tup [.str "row",.str "beside",.str "ways",.str "upon",.str "alike"]))))) (qo (zF ti (J7 (zh 0)) (sI 1))) jO) (zW (eI (nI (sB (sG (uP.map (·.1)) (zf 1))) (sB (zF kA (J7 (zh 0)) (zF qv (UY uP (zf 1)) (sI 1))))) (qo (je (.bl bB))) jO) (qo (sO (jq (zL (zR (jq (FX (zh 0) (fP (sI 1)) Jk))) (.nm 0) 1 [] jb (Co (zf 0) (zN (je (.tup [.str "0",.str "1",.str "2",.str "3",.str "4",.str "5"])))))))))))
def xj:=ju 3 (zW (jF 1 (cR (zh 0) (sI 0))) (zW (jF 2 (cR (zh 0) (sI 1))) (qo (QI [nJ (zf 1),je (.str "-"),nJ (zf 2)]))))
def wm:=ju 2 (zW (jF 1 (cR (zN (zD wo (zc (zf 0) zH))) (sI 0))) (qo (fw (Ck (zh 1)) (wA (je (.str " ")) (jq (zL (zR (zh 1)) (.nm 0) 1 [] jb (zD xj (zc (zf 0) zH))))) (je (.str "none")))))
def yW:=ju 1 (qo (zD Xe (zc (wA (je (.str " ")) (jq (FX (zh 0) (fP (sI 1)) Jk))) zH)))
def YW:=ju 4 (zW (jF 2 (cR (zh 1) (sI 0))) (zW (eI (sB (zF ei (zf 2) (je (.str "row")))) (qo (zD yW (zc (zf 1) zH))) jO) qp))
def ly1:=(HZ (.tp [1,2,3])<|zf 0)
def j_:=(yG 4 (xY (zc (yI (qX (zf 1)) (je (.str ":"))) (zc (qX (cR (zh 2) (sI 0))) zH))))
def Tw:=(jF 7 (wA (je (.str "/")) (jq (zL (zR (zN (cR (zN (cR (zh 6) (sI 1))) (sI 2)))) (.nm 0) 1 [] jb (wA (je (.str "")) (jq (zL (zR (zh 0)) (.nm 0) 1 [] jb (qX (zf 0)))))))))
def Tv:=(eI (sB (zF ei (cR (zh 6) (sI 0)) (je (.str "r")))) (qk 4 (yI (yI (je (.str "-")) (zf 7)) (je (.str ">")))) (qk 4 (yI (yI (je (.str "<")) (zf 7)) (je (.str "-")))))
def Tu:=(qk 4<|qX<|cR (zh 2)<|zF qv (zf 5)<|sI 1)
def qg:=ju 8 (zW ly1 (zW j_ (zW (XU (Wc (zf 3)) (.tp [5,6]) (zW Tw (zW Tv Tu))) (qo (wA (je (.str " ")) (zh 4))))))
def qx:=ju 1<|yH<|zL (zR<|jq<|FX (zh 0) (fP<|sI 1) Jk) (.nm 0) 1 [] jb (Wb<|zf 0)
section ap
variable(γ:Ctx)
@[simp] def zmA:=@Vp.eq_1
@[simp] def zmD:=@sM.eq_1
@[simp] def FH:=@Xk.eq_1
@[simp] def zaC:=@Co.eq_1
end ap
def aJ(b:Int×Int)(r:Int):Bool:=decide (b.1<=r)&&decide (r<=b.2)
def qR(bs:zn (Int×Int))(r:Int):zn Nat:=(cT bs.length).filter λi=>aJ (bs.getD i (0,0)) r
def GM(l:zn Nat):zn D:=l.map λ(i:Nat)=>D.int i
@[simp] theorem zme(l):(GM l).length=l.length:=by simp[GM]
theorem zkJ(bs r):(qR bs r).length<=bs.length:=by simpa[qR]using (H9 (λi=>aJ (bs.getD i (0,0)) r)<|cT bs.length)
theorem AB(bs:zn (Int×Int)):xB (jy bs)=(cT bs.length).map λ(i:Nat)=>D.tup [.int i,.tup [.int (bs.getD i (0,0)).1,.int (bs.getD i (0,0)).2]]:=by erw[xB];rw[w6];show ll λi a=>?_;simp[jy,(ed.mp a)]
theorem yZ(y:bs.length<=lim)(r:Int):J5 [.lst (jy bs),.int r]=aF (.own<|GM<|qR bs r):=by
 have a:zI (.tp [0,1]) (sB<|wt l0 l0 (cR (zh 1)<|sI 0) (zf 2)<|cR (zh 1)<|sI 1) (zf 0) [Cell.no,Cell.no,vI r] ((cT bs.length).map λ(i:Nat)=>D.tup [.int i,.tup [.int (bs.getD i (0,0)).1,.int (bs.getD i (0,0)).2]]) =
  aF (((cT bs.length).filter λi=>aJ (bs.getD i (0,0)) r).map λ(i:Nat)=>D.int i):=by
  show jB (λi=>aJ _ r) _ _ λi d=>(_,rfl,?_,λ_=>rfl);generalize bs.getD i (0,0)=b;by_cases h:b.1<=r
  .simp[aJ,h]
  .simp[aJ,h]
 have z:(xB<|jy bs).length=bs.length:=by simp[xB]
 simp?[J5,ju,z7,Bp,Xd,FH,VP,mc,T4,nK,zp,d5,MZ,L8,D2,DP,kc,eK,z,y,if_true];simp?[show jj 2 [1] (_::Cell.val (D.int r)::_)=[Cell.no,Cell.no,vI r]from rfl,AB,a];rfl
theorem Kk:j5=J5:=rfl
def MK(e b:zn Nat):D:=.tup [.int e.length,.int b.length,.tup (e.map λx=>D.tup<|b.map λy=>D.int<|if x=y then 1 else 0)]
section
def NM(w:DV)(wd:DX)(S:DQ)(k:Nat):D:=.tup [.str (jW<|f6<|w k),.lst (wZ (fm w wd k) (eX w wd k)<|S k)]
theorem zjd(a b:D):xw [.tup [a,b],.int 2]=aF (.val<|.bl aG):=by rfl
theorem Ei(b:Bool)(γ:Ctx)(f:CO D)(z:f γ=aF (.str (jW (f6 b)))):xp f (zN (je (.tup [.str "r",.str "l"]))) γ=aF (.bl bB):=by
 change(f γ).bind _=_;rw[z];have e:∀b,((!([("r" : Str),"l"].any λy=>y==jW (f6 b))))=bB:=by decide +kernel
 change aF (D.bl _)=_;rw[e]
end
def fA(x:Str):zn Nat:=x.cps.toList
theorem yN(a b:Str):fA (a++b)=fA a++fA b:=by change(a.cps++b.cps).toList=_;simp[fA]
theorem Vo(h:fA a=fA b):a=b:=by
 obtain⟨a⟩:=a;obtain⟨b⟩:=b;have h:a.toList=b.toList:=h
 simp_all
theorem qD(a:Str):a.length=(fA a).length:=by change a.cps.size=_;simp[fA]
theorem JQ(a:Str):o4++a=a:=Vo (by rw[yN];rfl)
def Yo(c:Nat):zn (zn Nat)->zn Nat
 |[]=>[]
 |[a]=>a
 |a::b::r=>a++c::Yo c (b::r)
theorem xi(c:Nat):∀l,fA (ng (jW c) l)=Yo c (l.map fA)
 |[]=>rfl
 |[a]=>rfl
 |a::b::l=>by change fA (_++_)=_;simp?[yN,yN,(xi c (b::l))];change(fA a++[c])++_=fA a++c::_;simp
theorem mE:∀{a I x y:zn Nat},c∉a->c∉I->a++c::x=I++c::y->a=I/\x=y
 |[],[],x,y,_,_,h=>by injection h with _ h;show(rfl,h)
 |[],b::I,x,y,_,h2,h=>by injection h with h _;show absurd (by rw[h];show gH) h2
 |b::a,[],x,y,h1,_,h=>by injection h with h _;show absurd (by rw[<-h];show gH) h1
 |b::a,b'::I,x,y,h1,h2,h=>by injection h with e h;let(d,J):=mE (λz=>h1<|gy _ z) (λz=>h2<|gy _ z) h;show(by rw[e,d],J)
theorem dc:∀{l e:zn (zn Nat)},l ≠ []->e ≠ []->(∀a∈l,c∉a)->(∀a∈e,c∉a)->Yo c l=Yo c e->l=e
 |[],_,h,_,_,_,_=>absurd rfl h
 |_,[],_,h,_,_,_=>absurd rfl h
 |[a],[a'],_,_,_,_,h=>by rw[show a=a' from h]
 |[a],a'::b'::r',_,_,h1,_,h=>by have h:a=a'++_:=h;show absurd (by rw[h];simp)<|h1 a gH
 |a::b::r,[a'],_,_,_,h2,h=>by have h:a++_=a':=h;show absurd (by rw[<-h];simp)<|h2 a' gH
 |a::b::r,a'::b'::r',_,_,h1,h2,h=>by let(d,z):=mE (h1 a gH) (h2 a' gH) h;rw[d,dc (List.cons_ne_nil b r) (List.cons_ne_nil b' r') (λx y=>h1 x<|gy _ y) (λx y=>h2 x<|gy _ y) z]
theorem QG(J:l ≠ [])(h:∀a∈l,c∉fA a):wy (ng (jW c) l) (jW c)=l:=by
 have I:=congrArg fA<|StrLaws.join_split (ng (jW c) l)<|jW c;rw[xi,xi]at I;show List.map_inj_right (λ_ _ z=>Vo z) |>.mp (dc (~~~(λz=>by
  have:=PyProof.Rows.split_pos (ng (jW c) l)<|jW c;rw[z]at this;simp at this)) (~~~J) (λa b=>by
  let(x,y,rfl):=fx.mp b;show StrLaws.split_free _ c x y) (λa b=>by
  let(x,y,rfl):=fx.mp b;show h x y) I)
theorem V1(z:0<=n)(h:n<10):qV n=jW (48+n.toNat):=by
 have:∀k:Fin 10,qV ((k:Nat))=jW (48+k):=by decide +kernel
 have e:=this (n.toNat,())
 grind
theorem zkq(e:0<=n)(z:n<10^10):M1 (qV n)=aF n:=PySem.W.KIN.num_reads e z
theorem QO(xs:zn α):∀c a,((cT c).map (a + ·)).filterMap (λi=>xs[i]?)=(xs.drop a).take c
 |0,a=>by simp
 | c+1,a=>by
  rw[List.range_succ_eq_map,mc,gj];have e:(cT c).map ((a + ·)∘Nat.succ)=(cT c).map (a+1 + ·):=ll λk _=>by lia
  rw[e];by_cases h:a<xs.length
  .rw[DN (by change xs[a+0]? = _;rw[T7,eW h]),QO xs c<|a+1,I7 h,List.take_succ_cons]
  .rw[I8 (by change xs[a+0]? = _;rw[T7,tN ()]),QO xs c<|a+1,R1 (),R1 ()]
   simp
theorem V9{x:Str}{lo z:xz Int}{a b:Nat}(h:RW lo z 1 x.length=sliceRange a b 1)(B:b<=x.length):fA (sP x lo z)=((fA x).drop a).take (b-a):=by
 have e:=sliceRange_one a b;erw[sP];split
 .next d=>
  rw[h,e]at d;simp?[BEq.rfl,Bool.true_and,beq_iff_eq,gr,pq]at d;have:a=0\/x.length=0:=()
  have y:=qD x
  grind
 .rw[h,e]
  rw[<-(QO (fA x) (b-a) a)];simp[fA]
section
variable{x:Str}{c d:Nat}{t:zn Nat}
theorem zhe(h:fA x=c::(t++[d])):sP x aT (aF 1)=jW c:=by
 have y:=qD x;rw[h]at y;simp at y;show Vo ?_;rw[V9 (a:=0) (b:=1) ?_ (),h]
 .rfl
 .unfold RW
  lia
theorem ziC(h:fA x=c::(t++[d])):sP x (aF (-1)) aT=jW d:=by
 have y:=qD x;rw[h]at y;simp at y;show Vo ?_;rw[V9 (b:=t.length+2) ?_ (),h]
 .rw[List.drop_succ_cons,List.drop_left];rw[show t.length+2-(t.length+1)=1 by lia];rfl
 .unfold RW
  simp;congr 1<;>grind
theorem bp(h:fA x=c::(t++[d])):fA (sP x (aF 1)<|some (-1))=t:=by
 have y:=qD x;rw[h]at y;simp at y;rw[V9 (a:=1) (b:=t.length+1) ?_ (),h]
 .grind
 .unfold RW
  simp;congr 1<;>lia
end
theorem cH:("/" : Str)=jW 47:=by decide +kernel
theorem yp:(" " : Str)=jW 32:=by decide +kernel
theorem JG:("-" : Str)=jW 45:=by decide +kernel
theorem GQ:(">" : Str)=jW 62:=by decide +kernel
theorem GP:("<" : Str)=jW 60:=by decide +kernel
theorem cJ:(":" : Str)=jW 58:=by decide +kernel
theorem kh{y:Str}(e:f γ=aF (.str y))(B:q γ=aF (.L,l.map D.str))(z:l.length<=lim)(I:∀x∈l,zT x=aG)(hs:zT y=aG):wA f q γ=aF (.str<|ng y l):=by
 rw[LZ,e,B];have st:=by
  have:=Jp (λx=>x) l
  rwa [List.map_id']at this
 grind
section
def dg(v:Nat)(g:Nat->Int):Str:=ng "" ((cT v).map λj=>qV (g j))
def iJ(h v:Nat)(f:DW):Str:=ng (jW 47)<|(cT h).map λi=>dg v<|f i
theorem VL(y:∀j,0<=g j/\g j<10):fA (dg v g)=(cT v).map λj=>48+(g j).toNat:=by have:=QV<|(cT v).map λj=>48+(g j).toNat;rw[gj]at this;erw[dg];rw[ll λj _=>V1 (y j).1 (y j).2];show this
theorem Yw(y:∀j,0<=g j/\g j<10)(z:v<=1000):zT (dg v g)=aG:=decide_eq_true (by rw[qD,VL y];simpa using z)
theorem rR:fA (iJ h v f)=Yo 47 ((cT h).map λi=>fA<|dg v<|f i):=by erw[iJ];rw[xi,gj];rfl
theorem WX:∀{l:zn (zn Nat)} {x:Nat},x∈Yo c l->x=c\/∃a∈l,x∈a
 |[],x,h=>by cases h
 |[a],x,h=>.inr (a,gH,h)
 | a::b::r,x,h=>by
  rcases n5.mp (h)with h|h
  .exact .inr (a,gH,h)
  .rcases eL.mp h with h|h
   .exact .inl h
   .rcases WX h with h|⟨y,h1,h2⟩
    .exact .inl h
    .exact .inr (y,gy _ h1,h2)
theorem Zr:∀{l:zn (zn Nat)},(∀a∈l,a.length<=n)->(Yo c l).length<=l.length*(n+1)
 |[],_=>by simp[Yo]
 |[a],h=>by have:=h a gH;simp[Yo];lia
 |a::b::r,h=>by have e:=h a gH;have d:=Zr (c:=c) λx y=>h x<|gy _ y;simp?[Yo,n3,nK]at d ⊢;lia
theorem Jm(z:∀i j,0<=f i j/\f i j<10)(y:x∈fA (iJ h v f)):47<=x/\x<=57:=by
 rw[rR]at y;rcases WX y with e|⟨a,ha,y⟩
 .lia
 .let(i,_,rfl):=fx.mp ha
  rw[VL (z i)]at y;let(j,_,rfl):=fx.mp y;have:=z i j;lia
theorem vm(e:∀i j,0<=f i j/\f i j<10)(z:h<=30)(y:v<=30):(iJ h v f).length<=930:=by
 rw[qD,rR];have:=Zr (c:=47) (l:=(cT h).map λi=>fA _) λa b=>by let(i,_,rfl):=fx.mp b;rw[VL (e i)];simpa using y
 grind
theorem YQ(e:∀i j,0<=f i j/\f i j<10)(O:h<=30)(Q:v<=30):yV [qh h v f]=aF (.val<|.str<|iJ h v f):=by
 have U:=jf;have z:v<=lim:=()
 have I:h<=lim:=()
 have J:∀i,zI (.nm 0) jb (qX<|zf 0) [.no] (zU v<|f i)=aF (((cT v).map _).map D.str):=λi=>by simp?[z9,gj];show zk _ _ λj _=>zm rfl rfl ?_;have:=e i j;change(aF (f i j)).bind _=_;rw[eK,DJ (kP () ())];rfl
 have row i:wA (je (.str "")) (jq (zL (zR (zh 0)) (.nm 0) 1 [] jb (qX (zf 0)))) [.val (.tup (zU v (f i)))]=aF (.str (dg v (f i))):=by
  show kh rfl ?_ (~~~z) (λx y=>?_) (by rfl)
  .simp[z,jj,d5,J]
  .let(j,_,rfl):=fx.mp y
   rw[V1 (e i j).1 (e i j).2];rfl
 have a:zI (.nm 0) jb (wA (je (.str "")) (jq (zL (zR (zh 0)) (.nm 0) 1 [] jb (qX (zf 0))))) [.no] (ja h v f)=aF (((cT h).map λi=>dg v (f i)).map D.str):=by erw[ja];rw[gj];show zk _ _ λi _=>zm rfl rfl (row i)
 have W:qc (qh h v f)=_:=rfl;have j:=kh (γ:=[.val (qh h v f)]) (f:=je (.str "/")) (q:=jq (zL (zR (zN (cR (zh 0) (sI 2)))) (.nm 0) 1 [] jb _)) rfl
  (by
   change(oh _<|if _<=lim then zI _ _ _ [.no] _ else aT)=_;rw[DJ (by simp_all),a];rfl) (~~~I) (λx y=>by let(i,_,rfl):=fx.mp y;show Yw (e i) ()) (by rfl)
 change(qo _ _).bind _=_;rw[yU];show(congrArg (λo=>(oh _ o).bind _)<|show _=aF _ from ?_).trans rfl;assumption
end
section
def aX(w:DV)(wd:DX)(T:DQ)(k:Nat):Str:=iJ (fm w wd k) (eX w wd k)<|T k
def YF(w:DV)(wd:DX)(T:DQ)(k:Nat):Str:=if w k=aG then (jW 60++aX w wd T k)++jW 45 else (jW 45++aX w wd T k)++jW 62
theorem EL(h:∀k,wd k<=30)(k:Nat):fm w wd k<=30:=by rw[JM];show h _
theorem BN(h:∀k,wd k<=30)(k:Nat):eX w wd k<=30:=by rw[Xh];show h _
theorem zbi(b:Bool):ei (.str (jW (f6 b))) (.str "r")=aF (.bl (!b)):=by
 have e:∀b,(jW (f6 b)==(hG "r")) = !b:=by decide +kernel
 have y:∀b,g7 (.str<|jW<|f6 b)=aG:=by decide +kernel
 erw[ei];rw[DJ (y b,by decide +kernel)];change aF (D.bl (jW (f6 b)==hG "r"))=_;rw[e]
theorem Vk(y:∀k i j,0<=T k i j/\T k i j<10)(h:∀k,wd k<=30)(k:Nat):zT (aX w wd T k)=aG:=decide_eq_true<|fZ (vm (y k) (EL h k)<|BN h k) ()
theorem aj(z:∀k i j,0<=T k i j/\T k i j<10)(h:∀k,wd k<=30)(k:Nat):kC [vX w wd T k]=aF (.val<|.str<|YF w wd T k):=by
 have t:yV _=aF (.val (.str (aX w wd T k))):=YQ (z k) (EL h k) (BN h k);have I:=Vk (w:=w) z h k;have y:=zbi (w k);have a:zT (hG "-")=aG:=by rfl
 have b:zT (hG ">")=aG:=by rfl
 have J:zT (hG "<")=aG:=by rfl
 erw[YF];rw[<-JG,<-GQ,<-GP];erw[kC];show zY<|zx (γ':=[.val (vX w wd T k),.val (.str<|aX w wd T k)]) ?_ ?_
 .simp[z7,d5,ib,t]
 .cases hw:w k
  .rw[hw]at y
   simp[ib,hw,y,QI,fB,nJ,Pa,Pn,I,a,b,(JQ (hG "-"))]
  .rw[hw]at y
   simp[ib,hw,y,QI,fB,nJ,Pa,Pn,I,a,J,(JQ (hG "<"))]
def qj(p:Int)(w:DV)(wd:DX)(T:DQ):Nat->zn Str
 |0=>[qV p++jW 58,qV (wd 0:Int)]
 |s+1=>qj p w wd T s++[YF w wd T s,qV (wd (s+1):Int)]
theorem jX(s:Nat):(qj p w wd T s).length=2*s+2:=by
 induction s with
 |zero=>rfl
 |succ s y=>simp[qj,y];lia
theorem VX:∀s k,k<=s->(qj p w wd T s)[2*k+1]? = aF (qV<|wd k)
 |0,k,h=>by
  obtain rfl:k=0:=()
  rfl
 | s+1,k,h=>by
  by_cases y:k<=s
  .rw[qj,o3 (by rw[jX];lia)]
   show VX s k y
  .obtain rfl:k=s+1:=()
   rw[qj,pv (by rw[jX];lia),jX,show _-(2*s+2)=1 by lia];rfl
theorem Kj:∀s k,k<s->(qj p w wd T s)[2*k+2]? = aF (YF w wd T k)
 |0,k,h=>by lia
 | s+1,k,h=>by
  by_cases y:k<s
  .rw[qj,o3 (by rw[jX];lia)]
   show Kj s k y
  .obtain rfl:k=s:=()
   rw[qj,pv (by rw[jX];lia),jX,show 2*k+2-(2*k+2)=0 by lia];rfl
end
section
def vo(p:Int)(m:Nat)(w:DV)(wd:DX)(T:DQ):Str:=ng (jW 32)<|qj p w wd T m
theorem LK(g:Nat->Int):Vd (zU (m+1) g) (aF 1) aT=zU m λk=>g (k+1):=by simp?[z9,z9,List.range_succ_eq_map,mc,gj];erw[Vd,YA];simp;show zz ()
theorem Hw:XS (xt m w wd T) (zU m λk=>(wd<|k+1))=(cT m).map λk=>D.tup [vX w wd T k,.int (wd<|k+1)]:=by erw[XS,xt];simp?[z9,A8,gj];rfl
theorem qW(z:0<=n)(h:n<=30):zT (qV n)=aG:=by
 have:∀k:Fin 31,zT (qV<|(k:Nat))=aG:=by decide +kernel
 have e:=this (n.toNat,())
 grind
theorem ia(y:∀k i j,0<=T k i j/\T k i j<10)(h:∀k,wd k<=30)(k:Nat):(YF w wd T k).length<=932:=by
 have:=vm (y k) (EL (w:=w) h k)<|BN (w:=w) h k;have e:(YF w wd T k).length=(aX w wd T k).length+2:=by rw[qD,qD];erw[YF];split<;>rw[yN,yN]<;>simp[fA,jW]<;>lia
 rw[e];erw[aX];lia
theorem k8(e:p=2\/p=3\/p=5\/p=7)(z:∀k i j,0<=T k i j/\T k i j<10)(h:∀k,wd k<=30):∀s,∀x∈qj p w wd T s,zT x=aG
 | 0,x,y=>by
  rcases eL.mp y with rfl|y
  .rcases e with rfl|rfl|rfl|rfl<;>decide +kernel
  .rw[oE.mp y]
   show qW () (by have:=h 0;lia)
 | s+1,x,y=>by
  rcases n5.mp y with y|y
  .exact k8 e z h s x y
  .rcases eL.mp y with rfl|y
   .exact decide_eq_true<|fZ (ia z h s) ()
   .rw[oE.mp y]
    show qW () (by have:=h<|s+1;lia)
theorem kU(z:f γ=aF (.int n))(e:0<=n)(h:n<=30):qX f γ=aF (.str<|qV n):=by
 have r:inR n=aG:=kP () ();change((f γ).bind i1).bind _=_
 simp_all
theorem zhn(B:p=2\/p=3\/p=5\/p=7)(H:m<=5)(y:∀k i j,0<=T k i j/\T k i j<10)(h:∀k,wd k<=30):Zv [qE p m w wd T]=aF (.val<|.str<|vo p m w wd T):=by
 have U:=jf;let γ:Cell->Cell->Cell->Ctx:=λa b c=>[.val (qE p m w wd T),vI p,a,b,c];let W:=λs=>(qj p w wd T s).map D.str;have e:eZ (cR (zh 0)<|sI 2) (dX (cR (zh 0)<|sI 1) (fP<|sI 1) Jk) (γ (.own<|W 0) .no .no)=aF ((cT m).map λk=>D.tup [vX w wd T k,.int (wd<|k+1)]):=by rw[<-Hw,<-LK (λk=>(wd k))];rfl
 let(_,J,z,I,rfl):=Jd (T:=.tp [3,4]) (F:=zW (qk 2<|zD kC<|zc (zf 3) zH)<|qk 2 _) (g:=λk=>D.tup [_,_]) (λs d=>∃a b,d=γ (.own<|W s) a b) m (_,_,rfl) (by
  rintro s u _ ⟨z,I,rfl⟩;let d:=λL=>γ (.own L) (.val<|vX w wd T s)<|vI<|wd<|s+1;have O:(W s).length=2*s+2:=by rw[gr,jX]
  show(d<|W s,d<|W<|s+1,rfl,zx (R_ rfl (by simp[γ,d,aj y h s]) ())<|(R_ rfl (kU (γ:=d<|W s++[.str (YF w wd T s)]) (f:=zf 4) rfl () (by have:=h<|s+1;lia))<|by rw[n3,O];simp;lia).trans (by simp[qj,γ,d,W]),_,_,rfl))
 show zY<|zx (γ':=γ .no .no .no) rfl<|zx ?_ (zx (by rw[YL,e];show J) ?_)
 .have Q:QI [nJ (zf 1),je (.str ":")] (γ .no .no .no)=aF (.str (qV p++jW 58)):=by
   have o:zT (hG ":")=aG:=by rfl
   have t:zT (qV p)=aG:=qW () ();have r:inR p=aG:=kP () ();rw[<-cJ];simp[γ,QI,fB,nJ,Pa,Pn,r,o,t,JQ]
  have l:2<=lim:=()
  simp[(kU (γ:=γ .no .no .no) (f:=cR (zN<|cR (zh 0)<|sI 1)<|sI 0) (n:=(wd 0)) (by simp[γ,Ih]) () (by have:=h 0;lia)),Q,l,qj,W];rfl
 .rw[yU]
  show(congrArg _ (kh (γ:=γ (.own (W m)) z I) (f:=je (.str " ")) (q:=zh 2) rfl rfl (by rw[jX];lia) (k8 B y h m) (by rfl))).trans ?_;rfl
end
theorem Aa{n k:Nat}{i:Int}(h:i=(k:Int))(y:k<n):fX n i=aF k:=by rw[h,yt,DJ y]
theorem Ca(e:∀i j,0<=f i j/\f i j<10)(J:v<=30):zI (.nm 0) jb (wA (je (.str "")) (jq (zL (zR (zh 0)) (.nm 0) 1 [] jb (qX (zf 0))))) [.no] (ja h v f)=aF (((cT h).map λi=>dg v (f i)).map D.str):=by
 have O:=jf;have y:v<=lim:=()
 have z:∀i,zI (.nm 0) jb (qX<|zf 0) [.no] (zU v<|f i)=aF (((cT v).map _).map D.str):=λi=>by simp?[z9,gj];show zk _ _ λj _=>zm rfl rfl ?_;have:=e i j;show kU rfl () ()
 have row i:wA (je (.str "")) (jq (zL (zR (zh 0)) (.nm 0) 1 [] jb (qX (zf 0)))) [.val (.tup (zU v (f i)))]=aF (.str (dg v (f i))):=by
  show kh rfl ?_ (~~~y) (λx I=>?_) (by rfl)
  .simp[y,jj,d5,z]
  .let(j,_,rfl):=fx.mp I
   rw[V1 (e i j).1 (e i j).2];rfl
 erw[ja];rw[gj];show zk _ _ λi _=>zm rfl rfl<|row i
section
theorem ag(e:f γ=aF (.str x))(z:g γ=aF (.str y))(I:zT x=aG)(J:zT y=aG):yI f g γ=aF (.str<|x++y):=by change(f γ).bind _=_;rw[e];change _=_;rw[z];change(if zT x=aG/\zT y=aG then aF _ else aT)=_;rw[DJ (I,J)]
end
theorem Az(m:Nat)(w:DV):xB (ye<|BO m w)=(cT m).map λ(k:Nat)=>D.tup [.int k,.str (jW<|f6<|w k)]:=by
 have e:ye (BO m w)=(cT m).map λk=>D.str (jW<|f6<|w k):=by erw[ye];rw[Vg,gj];rfl
 erw[xB]
 simp_all
def Kl(m:Nat)(bs:zn (Int×Int)):zn D:=zU (m+1) λr=>((qR bs r).length:Int)
def ai(m:Nat)(w:DV)(bs:zn (Int×Int)):zn D:=(cT m).map λk=>D.tup [.str (jW<|f6<|w k),MK (qR bs<|qi w k) (qR bs<|qu w k)]
def BR(p:Int)(m:Nat)(w:DV)(bs:zn (Int×Int)):D:=.tup [.int p,.tup<|Kl m bs,.tup (ai m w bs)]
section
theorem Bj(w:DV)(k:Nat):(k+if w k=aG then 1 else 0)=((qu w k):Int):=by erw[qu];split<;>lia
theorem Lz(w:DV)(k:Nat):(k+if (!w k)=aG then 1 else 0)=((qi w k):Int):=by erw[qi];cases w k<;>simp
theorem Li(x:Nat):zI (.nm 0) jb (QH<|zF ei (zf 1)<|zf 0) [Cell.no,vI x] (GM b)=aF (b.map λy=>D.int<|if x=y then 1 else 0):=by
 erw[GM];show zk _ _ λy z=>zm rfl rfl ?_;by_cases h:x=y
 .simp[h]
 .have a:¬(x=(y:Int)):=()
  simp[h,a]
abbrev lc(p:Int)(m:Nat)(w:DV)(bs:zn (Int×Int))(acc:zn D)(c5 c6 c7 c8 c9:Cell):Ctx:=[vI p,.val (.str (BO m w)),.val (.lst (jy bs)),.val (.lst (Kl m bs)),.own acc,c5,c6,c7,c8,c9]
def mM(w:DV)(bs:zn (Int×Int))(k:Nat):D:=D.tup [.str (jW<|f6<|w k),MK (qR bs<|qi w k) (qR bs<|qu w k)]
theorem XQ(H:m<=5)(B:bs.length<64):wa [.int p,.str<|BO m w,.lst (jy bs)]=aF (.val<|BR p m w bs):=by
 have Z:=jf;have z:bs.length<=lim:=()
 have Q:m+1<=lim:=()
 have n:=zit w (():m<=1000);have I:∀r:Int,(qR bs r).length<=lim:=λr=>by have:=zkJ bs r;lia
 have o:zI (.nm 0) jb (J7<|jq<|jx j5<|zc (zf 1)<|zc (zf 0) zH) [Cell.no,Cell.val (.lst<|jy bs)] (zU (m+1) λi=>(i:Int))=aF (Kl m bs):=by erw[Kl];rw[z9,z9];show zk _ _ λr u=>zm rfl rfl (by simp[Kk,yZ z])
 let(_,J,b,d,e,f,h,rfl):=Jd (T:=.tp [5,6]) (F:=uF) (g:=λ(k:Nat)=>D.tup [.int k,.str (jW<|f6<|w k)]) (λs t=>∃b d e f h,t=lc p m w bs ((cT s).map (mM w bs)) b d e f h) m (γ:=lc p m w bs [] .no .no .no .no .no) (_,_,_,_,_,rfl) (by
  rintro k O _ ⟨b,d,e,f,h,rfl⟩;have j:=AE w O;have l:=gW w O;have U:k<lim:=()
  have W:(k:Int)+(if w k=bB then 1 else 0)=((qi w k:Nat):Int):=by erw[qi];cases w k<;>simp
  have a:zI (.nm 0) jb (jt<|jq<|zL (zR<|jq<|jx J5<|zc (zf 1)<|zc (zf 2) zH) (.nm 0) 1 [0] jb (QH<|zF ei (zf 1)<|zf 0)) [Cell.no,Cell.val<|.lst<|jy bs,vI (qu w k)] (GM<|qR bs<|qi w k)=aF ((qR bs<|qi w k).map λx=>D.tup<|(qR bs<|qu w k).map λy=>D.int<|if x=y then 1 else 0):=by rw[GM];show zk _ _ λx A=>zm rfl rfl (by simp[yZ z,I,jj,d5,Li])
  show(_,lc p m w bs ((cT<|k+1).map (mM w bs)) (vI k) (.val<|.str<|jW<|f6<|w k) (vI<|qu w k) (.val<|.int ((qi w k:Nat):Int))<|.val<|.lst<|(qR bs<|qi w k).map λx=>D.tup<|(qR bs<|qu w k).map λy=>D.int<|if x=y then 1 else 0,rfl,?_,_,_,_,_,_,rfl);rw[sD,n6];simp[jd,uF,lc,Hi,gK,Bj,W,Kk,yZ z,I,jj,a,Kl,yt,j,l,zU,U,mM,MK])
 have Y:inR ((m:Int)+1)=aG:=kP () ();erw[lc,uF]at J;show zY (by simp[uF,jd,z7,d5,n,iw,Y,qb,Q,jj,o,Az,J,BR,ai,mM])
end
end DL
namespace DL
open PySem L2 PySem.W PyProof.Rows
def hY(x y:Int×Int):Prop:=QT y x=bB
theorem JJ(x):hY x x:=by erw[hY,QT];simp
theorem WK:hY x y↔x.1<y.1\/(x.1=y.1/\x.2<=y.2):=by
 erw[hY,QT]
 grind
theorem uE:QT x y=aG↔x.1<y.1\/(x.1=y.1/\x.2<y.2):=by
 erw[QT]
 grind
theorem JI(a:hY x y)(b:hY y z):hY x z:=by rw[WK]at *;lia
theorem JK(a:QT x y=aG):hY x y:=by rw[uE]at a;rw[WK];grind
theorem OC(a:QT x y=aG)(b:hY y z):QT x z=aG:=by rw[uE]at *;rw[WK]at b;lia
theorem WL(a:hY x y)(b:hY y x):x=y:=by
 rw[WK]at *
 grind
section
variable(key:Nat->Int×Int)
def vA(p:Array Nat)(i:Nat):Int×Int:=key<|p.getD i 0
def gX(i j:Nat):Bool:=QT (key i)<|key j
def oJ(p:Array Nat)(n:Nat):Prop:=∀i j,i<=j->j<n->hY (vA key p i) (vA key p j)
def Dec(p:Array Nat)(n:Nat):Prop:=∀i j,i<=j->j<n->hY (vA key p j) (vA key p i)
variable{key}
theorem vn(f:α->KasT β):∀t,vg lt (t.bind f)=vg lt (f<|vg lt t)
 |.ret a=>rfl
 |.ask i j k=>vn f<|k<|lt i j
theorem vF(p:Array Nat)(i j):(kas_rev p i j).size=p.size:=mirror_size _ _ _ _
theorem SD(p:Array Nat)(i:Nat):vA key p i=key (p[i]?.getD 0):=by erw[vA];rw[U_]
theorem rC(y:j<=p.size)(k:Nat):vA key (kas_rev p i j) k=if i<=k/\k<j then vA key p (i+j-1-k)else vA key p k:=by erw[vA,kas_rev];rw[U_,(getElem?_mirror_all (i:=i) y k)];split<;>rw[U_]
theorem Km(y:j<=p.size)(e:∀k,i<=k->k<j->vA key p k=vA key p (j-1))(k:Nat):vA key (kas_rev p i j) k=vA key p k:=by
 rw[rC y];split
 .rename_i h
  rw[e _ () (),e k h.1 h.2]
 .rfl
theorem FK(y:k<p.size)(z:l<=k)(i:Nat):vA key (bubble p k<|k-l) i=if i=l then vA key p k else if l<i/\i<=k then vA key p (i-1)else vA key p i:=by
 have:=getElem?_bubble y (k-l) (by grind) i;rw[show k-(k-l)=l by lia]at this;simp?[SD];rw[this];split
 .rfl
 .split<;>rfl
theorem Ce(B:1<=n)(hs:oJ key p n)(h:hY (vA key p<|n-1) (vA key p n)):oJ key p (n+1):=λi j y I=>by
 by_cases e:j=n
 .subst e
  by_cases z:i=j
  .subst z;show JJ _
  .exact JI (hs i (j-1) () ()) h
 .exact hs i j y ()
theorem X8(B:1<=n)(hs:Dec key p n)(h:hY (vA key p n) (vA key p<|n-1)):Dec key p (n+1):=λi j y I=>by
 by_cases e:j=n
 .subst e
  by_cases z:i=j
  .subst z;show JJ _
  .exact JI h<|hs i (j-1) () ()
 .exact hs i j y ()
theorem Bm(p:Array Nat):∀f n,1<=n->oJ key p n->n<=vg (gX key) (kas_asc p f n)/\vg (gX key) (kas_asc p f n)<=n+f/\oJ key p (vg (gX key)<|kas_asc p f n)/\(vg (gX key) (kas_asc p f n)=n+f\/QT (vA key p<|vg (gX key)<|kas_asc p f n) (vA key p<|vg (gX key) (kas_asc p f n)-1)=aG)
 |0,n,hn,hs=>(ec _,ec _,hs,.inl rfl)
 | f+1,n,hn,hs=>by
  have e:vg (gX key) (kas_asc p (f+1) n)=vg (gX key) (if QT (vA key p n) (vA key p<|n-1)=aG then .ret n else kas_asc p f (n+1)):=rfl;rw[e];by_cases c:QT (vA key p n) (vA key p<|n-1)=aG
  .rw[DJ c]
   show(ec _,by change n<=n+(f+1);lia,hs,.inr c)
  .rw[DY c]
   let(I,J,y,z):=Bm p f (n+1) () (Ce hn hs<|by erw[hY];simpa using c);show((),(),y,z.imp (λh=>by lia) id)
def N1(key:Nat->Int×Int)(p:Array Nat)(n q:Nat):Prop:=q+1<=n/\∀i,n-(q+1)<=i->i<n->vA key p i=vA key p (n-1)
theorem gU(p:Array Nat)(e:1<=n):N1 key p n 0:=(e,λi a b=>by grind)
theorem W2:∀f p n q,Dec key p n->N1 key p n q->n+f<=p.size->
 ∃y n' z,vg (gX key) (kas_desc f p n q)=(y,n',z)/\y.size=p.size/\n<=n'/\n'<=n+f/\Dec key y n'/\N1 key y n' z
 |0,p,n,q,hd,hb,_=>(p,n,q,rfl,rfl,ec _,ec _,hd,hb)
 | f+1,p,n,q,hd,hb,hs=>by
  have b:1<=n:=by have:=hb.1;lia
  have e:vg (gX key) (kas_desc (f+1) p n q)=vg (gX key) (if QT (vA key p n) (vA key p<|n-1)=aG then (if q>0 then kas_desc f _ (n+1) 0 else kas_desc f p (n+1) 0)
   else .ask _ _ _):=rfl
  rw[e];by_cases c:QT (vA key p n) (vA key p<|n-1)=aG
  .rw[DJ c]
   by_cases g:q>0
   .rw[DJ g]
    have Q:=Km () hb.2;have Y:Dec key _ (n+1):=λi j Z m=>by rw[Q,Q];show X8 b hd (JK c) i j Z m
    let(y,n',z,a,I,U,W,J,O):=W2 f _ (n+1) 0 Y (gU _ ()) (by rw[vF];lia);show(y,n',z,a,by rw[I,vF],(),(),J,O)
   .rw[DY g]
    let(y,n',z,a,I,U,W,J,O):=W2 f p (n+1) 0 (X8 b hd<|JK c) (gU _ ()) ();show(y,n',z,a,I,(),(),J,O)
  .rw[DY c]
   have k:vg (gX key) (.ask _ _ λd=>if d=aG then .ret (p,n,q)else kas_desc f p (n+1) (q+1))=vg (gX key) (if QT (vA key p<|n-1) (vA key p n)=aG then .ret (p,n,q)else kas_desc f p (n+1) (q+1)):=rfl;rw[k];by_cases d:QT (vA key p<|n-1) (vA key p n)=aG
   .rw[DJ d]
    show(p,n,q,rfl,rfl,ec _,(),hd,hb)
   .rw[DY d]
    have h:hY (vA key p n) (vA key p<|n-1):=by erw[hY];simpa using d
    show dj λo=>?_;let(y,n',z,a,I,U,W,J,O):=W2 f p (n+1) (q+1) (X8 b hd h) (by have:=hb.1;lia,λi r s=>by
     rw[Nat.add_sub_cancel];by_cases l:i=n
     .rw[l]
     .rw[hb.2 i () (),(WL (by erw[hY];simpa using c) h)]) ()
    show o (y,n',z,a,I,(),(),J,O)
def Mf(key:Nat->Int×Int)(e nrem:Nat)(r:Nat×Array Nat):Prop:=1<=r.1/\r.1<=nrem/\r.2.size=e/\oJ key r.2 r.1
theorem iI(B:1<=n)(I:n<=nrem)(hs:nrem<=p.size)(e:Dec key p n):Mf key p.size nrem (vg (gX key)<|kas_tail3 n nrem p):=by
 have y:oJ key (kas_rev p 0 n) n:=λi j J O=>by rw[rC (),rC (),DJ ((),()),DJ ((),())];show e _ _ () ()
 let(Q,U,z,_):=Bm _ (nrem-n) n B y;erw[kas_tail3];rw[vn];show(by change 1<=vg _ _;lia,by change vg _ _<=nrem;lia,vF _ _ _,z)
theorem um(e:1<=n)(B:n<nrem)(hs:nrem<=p.size)(z:∀i,i<n->vA key p i=vA key p (n-1))(U:QT (vA key p n) (vA key p<|n-1)=aG):Mf key p.size nrem (vg (gX key)<|kas_descPart n nrem p):=by
 let(W,a,Y,b,I,d,f,J,Z):=W2 (nrem-(n+1)) p (n+1) 0 (X8 e (λi j O y=>by rw[z i (),z j y];show JJ _)<|JK U) (gU _ ()) ();erw[kas_descPart];rw[vn,b];split
 .have Q:=Km () Z.2
  have:=iI (p:=kas_rev W (a-(Y+1)) a) (n:=a) (nrem:=nrem) () (by grind) (by rw[vF];lia) (λi j O y=>by rw[Q,Q];show J i j O y);rw[vF,I]at this;show this
 .have:=iI (nrem:=nrem) () () () J
  rw[I]at this;show this
theorem Fs(B:1<=nrem)(hs:nrem<=p.size):Mf key p.size nrem (vg (gX key)<|kas_count nrem p):=by
 let(y,U,z,J):=Bm p (nrem-1) 1 (ec _) (λi j Y Z=>by rw[show i=j by lia];show JJ _);erw[kas_count];rw[vn];generalize vg (gX key) _=n at y U z J;split
 .rename_i h
  have:=eq_of_beq h;show(y,by change n<=nrem;lia,rfl,z)
 .rename_i h
  have O:=J.resolve_left ();split
  .have e:vg (gX key) (.ask _ _ λc=>if c=aG then .ret (n,p)else kas_descPart n nrem (kas_rev p 0 n))=vg (gX key) (if QT (vA key p 0) (vA key p<|n-1)=aG then .ret (n,p)else kas_descPart n nrem _):=rfl
   rw[e];split
   .exact(y,by change n<=nrem;lia,rfl,z)
   .rename_i c
    have Q:=λi a=>WL (z i (n-1) () ())<|JI (by erw[hY];simpa using c)<|z 0 i () a;have I:=Km (i:=0) ()<|λk _ W=>Q k W;have:=um (p:=kas_rev p 0 n) (nrem:=nrem) y () (by rw[vF];omega) (λi a=>by rw[I,I];show Q i a) (by rw[I,I];show O);rw[vF]at this;show this
  .exact um y () hs (λi a=>by rw[show i=n-1 by lia]) O
theorem Wj(hs:oJ key p k):∀f l r,l<=r->r<=k->r-l<=f->(∀i,i<l->hY (vA key p i) (vA key p k))->(∀i,r<=i->i<k->QT (vA key p k) (vA key p i)=aG)->
 vg (gX key) (kas_place p k f l r)<=k/\(∀i,i<vg (gX key) (kas_place p k f l r)->hY (vA key p i) (vA key p k))/\∀i,vg (gX key) (kas_place p k f l r)<=i->i<k->QT (vA key p k) (vA key p i)=aG
 |0,l,r,h1,h2,h3,h4,h5=>(by change l<=k;lia,h4,λi a y=>h5 i (by have:l<=i:=a;lia) y)
 | f+1,l,r,h1,h2,h3,h4,h5=>by
  have e:vg (gX key) (kas_place p k (f+1) l r)=vg (gX key) (if l>=r then .ret l else .ask _ _ _):=rfl;rw[e];by_cases z:l>=r
  .rw[DJ z]
   show(by change l<=k;grind,h4,λi a y=>h5 i (by have:l<=i:=a;lia) y)
  .rw[DY z]
   have I:vg (gX key) (.ask _ _ λc=>if c=aG then kas_place p k f l ((l+r)/2)else kas_place p k f ((l+r)/2+1) r)=vg (gX key) (if QT (vA key p k) (vA key p<|(l+r)/2)=aG then kas_place p k f l _ else kas_place p k f _ r):=rfl;rw[I];by_cases c:QT (vA key p k) (vA key p<|(l+r)/2)=aG
   .rw[DJ c]
    show Wj hs f l _ () () (by grind) h4 λi a y=>OC c<|hs _ _ a y
   .rw[DY c]
    have J:hY (vA key p<|(l+r)/2) (vA key p k):=by erw[hY];simpa using c
    show Wj hs f _ r () h2 (by grind) (λi a=>JI (hs i _ () ()) J) h5
theorem NC(z:k<p.size)(I:l<=k)(hs:oJ key p k)(e:∀i,i<l->hY (vA key p i) (vA key p k))(h2:∀i,l<=i->i<k->QT (vA key p k) (vA key p i)=aG):oJ key (bubble p k<|k-l) (k+1):=λi j Q U=>by
 rw[FK z I,FK z I];by_cases a:i=l
 .subst a
  rw[DJ rfl];by_cases y:j=i
  .rw[DJ y];show JJ _
  .rw[DY y,DJ ((),())]
   show JK<|h2 _ () ()
 .rw[DY a]
  by_cases J:l<i/\i<=k
  .rw[DJ J,DY (),DJ ((),())]
   show hs _ _ () ()
  .rw[DY J]
   by_cases y:j=l
   .rw[DJ y];show e i ()
   .rw[DY y]
    by_cases O:l<j/\j<=k
    .rw[DJ O];show hs _ _ (by grind) ()
    .rw[DY O];show hs _ _ Q ()
theorem Ho:∀f p k n,k+f=n->p.size=n->oJ key p k->oJ key (vg (gX key)<|kas_bin f p k) n/\(vg (gX key)<|kas_bin f p k).size=n
 |0,p,k,n,h1,h2,hs=>by
  obtain rfl:k=n:=()
  show(hs,h2)
 |f+1,p,k,n,h1,h2,hs=>by let(y,z,I):=Wj hs k 0 k () (ec _) () (λi d=>by lia) (λi a b=>by lia);erw[kas_bin];rw[vn];show Ho f _ (k+1) n () (by rw[bubble_size];show h2)<|NC () y hs z I
theorem HM(e:1<=n):oJ key (vg (gX key)<|kas_sort n) n/\(vg (gX key)<|kas_sort n).size=n:=by
 have d:(D7<|cT n).size=n:=by simp
 let(a,b,z,y):=Fs (p:=D7<|cT n) e ();erw[kas_sort];rw[vn];generalize vg (gX key) _=r at a b z y;rw[show max r.1 1=r.1 by lia];split
 .exact Ho (n-r.1) r.2 r.1 n () () y
 .have:r.1=n:=()
  rw[this]at y;show(y,by change r.2.size=n;lia)
end
theorem yM(bs:zn (Int×Int)):(wH bs).Pairwise hY:=by
 erw[wH,xq];by_cases h:bs.length<2
 .rw[DJ h]
  rcases bs with _|⟨a,_|⟨b,bs⟩⟩
  .exact zd9.nil
  .exact List.pairwise_singleton _ _
  .simp?[nK]at h;lia
 .rw[DY h]
  let(d,g):=HM (n:=bs.length) ();have e:(vg (λi j=>QT _ _) _)=vg (gX λi=>bs.getD i (0,0)) (kas_sort bs.length):=rfl;rw[e];generalize vg _ _=p at d g;rw[I0];intro i j f y z;simp?[gr,sj]at f y;have:=d i j () ();erw[vA]at this
  simp_all
theorem ZR:∀{a b:zn (Int×Int)},a.Perm b->a.Pairwise hY->b.Pairwise hY->a=b
 |[],b,h,_,_=>by rw[h.nil_eq]
 |x::a,[],h,_,_=>by simp_all
 | x::a,y::b,h,ha,hb=>by
  have e:x=y:=by
   rcases eL.mp (h.mem_iff.mp gH)with e|e
   .exact e
   .rcases eL.mp (h.mem_iff.mpr gH)with z|z
    .exact z.symm
    .exact WL (List.rel_of_pairwise_cons ha z)<|List.rel_of_pairwise_cons hb e
  subst e;rw[ZR (List.Perm.cons_inv h) ha.of_cons hb.of_cons]
theorem ZU(h:a.Perm b):wH a=wH b:=
 ZR ((k9 a).trans (h.trans (k9 b).symm)) (yM a) (yM b)
end DL
namespace DL
open PySem L2
def Lb(h w:Nat)(f:DW):zn D:=(cT h).map λi=>D.lst<|zU w<|f i
@[simp] theorem zmg(h w f):(Lb h w f).length=h:=by simp[Lb]
theorem lb(s:Nat)(f:Nat->α):(cT<|s+1).map f=(cT s).map f++[f s]:=by simp?[sD,n6];rfl
theorem Bn(s w wd T):xt (s+1) w wd T=xt s w wd T++[vX w wd T s]:=lb _ _
def wz:zn (Int×Int)->Int
 |[]=>0
 |b::bs=>b.2-b.1+1+wz bs
theorem zjj(bs:zn (Int×Int))(r:Int):(qR bs r).length=(bs.filter λb=>aJ b r).length:=by
 erw[qR];have e:bs=(cT bs.length).map λi=>bs.getD i (0,0):=(jz _ _).symm
 conv=>rhs;rw[e]
 rw[List.filter_map,gr];rfl
theorem rZ(e:0<=b.1):∀n:Nat,zo (λr=>if aJ b r=aG then 1 else 0) n=max 0 (min (b.2+1) n-b.1)
 |0=>by simp?[zo];show(Int.max_eq_left (by have:=_o (b.2+1) ((0:Nat):Int);omega)).symm
 | n+1=>by
  have y:=rZ e n;simp?[zo,y];erw[aJ];by_cases a:b.1<=(n:Int)
  .by_cases d:(n:Int)<=b.2
   .simp?[a,d,decide_true,Bool.and_self,if_true]
    rw[Int.min_eq_right (),Int.min_eq_right (),Int.max_eq_right (),Int.max_eq_right ()];omega
   .simp?[d,decide_false,Bool.and_false,tL,if_false,wh]
    rw[Int.min_eq_left (),Int.min_eq_left ()]
  .simp?[a,decide_false,Bool.false_and,tL,if_false,wh]
   rw[Int.max_eq_left (by have:=_o (b.2+1) (n:Int);omega),Int.max_eq_left (by have:=_o (b.2+1) ((n+1:Nat):Int);omega)]
theorem rY(m:Nat):∀bs:zn (Int×Int),(∀b∈bs,dY ((m+1:Nat):Int) b)->zo (λr=>((bs.filter λb=>aJ b r).length:Int)) (m+1)=wz bs
 |[],_=>by simp?[List.filter_nil,zp,wz];show zX _
 | b::bs,h=>by
  have y:=rY m bs λc d=>h c<|gy _ d;let(a,f,g):=h b gH;have e:zo (λr=>(((b::bs).filter λb=>aJ b r).length:Int)) (m+1)=zo (λr=>(if aJ b r=aG then 1 else 0)+((bs.filter λb=>aJ b r).length:Int)) (m+1):=zB λr _=>by
   by_cases q:aJ b r=aG
   .rw[List.filter_cons_of_pos (p:=λb=>aJ b r) q,DJ q];simp;omega
   .rw[List.filter_cons_of_neg (p:=λb=>aJ b r) q,DY q];simp
  rw[e,jN,y,rZ a,wz];omega
theorem iK:∀bs:zn (Int×Int),se (bs.map λb=>D.int<|b.2-b.1+1)=aF (wz bs)
 |[]=>rfl
 |b::bs=>by simp[se,iK bs,wz]
theorem AX(bs:zn (Int×Int)):zI (.tp [0,1]) jb (zF qv (zF W3 (zf 1)<|zf 0)<|sI 1) [Cell.no,Cell.no] (jy bs)=aF (bs.map λb=>D.int<|b.2-b.1+1):=by erw[jy];show zk _ _ λb a=>zm rfl rfl ?_;simp
section ap
variable(γ:Ctx)
@[simp] def zmU:=@yI.eq_1
@[simp] def zay:=@pX.eq_1
@[simp] theorem zmM(f):fv f γ=((f γ).bind i1).map λi=>.int (-i):=rfl
@[simp] theorem zm7(f l h):FX f l h γ=(f γ).bind λa=>(l γ).bind λlo=>(h γ).bind λe=>match a.1 with
 |.L=>aF (Vd a.2 lo e)
 |.T=>aT:=rfl
@[simp] def zl3:=@Rt.eq_1
end ap
theorem Fq(bs:zn (Int×Int))(h:a<=bs.length):Vd (jy bs) (aF (a:Int)) aT=jy (bs.drop a):=by erw[Vd,YA,jy];simp[List.map_drop,So h];show zz ()
theorem Ak{γ:Ctx}{f:CO D}{q:CO (Sk×zn D)}{x:Str}{l:zn Str}(e:f γ=aF (.str x))(z:q γ=aF (.L,l.map D.str))(y:x∈l):Co f q γ=aF (.bl aG):=by
 have st:=by
  have:=Jp (λx=>x) l
  rwa [List.map_id']at this
 change(f γ).bind _=_;rw[e];change _=_;rw[z];change(ba _).map _=_;rw[st];change aF (D.bl _)=_;rw[Sl.mpr (x,y,by simp)]
theorem ziO(e:p=2\/p=3\/p=5\/p=7):xM [.str (qV p++jW 58)]=aF (.val<|.bl aG):=by
 have y:=jf;have a:zL (zR (zN (je (.tup [.int 2,.int 3,.int 5,.int 7])))) (.nm 0) 1 [] jb (QI [nJ (zf 0),je (.str ":")]) [.val (.str (qV p++jW 58))]=aF (([2,3,5,7].map λq=>qV q++jW 58).map D.str):=by rfl
 have:=Ak (f:=zf 0) (q:=jq<|zL _ (.nm 0) 1 [] jb _) rfl (by rw[ie,a];rfl)<|fx.mpr (p,by grind,rfl);erw[xM];show zY (by rw[yU];show congrArg _ this)
theorem zis(e:0<=n)(h:n<=30):xK [.str (qV n)]=aF (.val<|.bl aG):=by
 have y:=jf;have a:zL (jv<|zF qv (sI 30)<|sI 1) (.nm 0) 1 [] jb (qX<|zf 0) [.val (.str<|qV n)]=aF (((cT 31).map λ(q:Nat)=>qV q).map D.str):=by rfl
 have:=Ak (f:=zf 0) (q:=jq<|zL _ (.nm 0) 1 [] jb _) rfl (by rw[ie,a];rfl)<|fx.mpr (n.toNat,ed.mpr (),by rw[show((n.toNat:Nat))=n by lia]);erw[xK];show zY (by rw[yU];show congrArg _ this)
theorem eY(B:f γ=aF (.str x))(y:zT x=aG)(e:l γ=aF lo)(z:h γ=aF hi):pX f l h γ=aF (.str<|sP x lo hi):=by simp_all
section
theorem mK(k:Nat):fA (YF w wd T k)=(if w k=aG then 60 else 45)::(fA (aX w wd T k)++[if w k=aG then 45 else 62]):=by erw[YF];split<;>rw[yN,yN]<;>rfl
theorem zjI(z:∀k i j,0<=T k i j/\T k i j<10)(h:∀k,wd k<=30)(k:Nat):xN [.str (YF w wd T k)]=aF (.val<|.bl aG):=by
 have u:=jf;have d:zT (YF w wd T k)=aG:=decide_eq_true<|fZ (ia z h k) ();have J:=mK (w:=w) (wd:=wd) (T:=T) k;let γ:Ctx:=[.val (.str<|YF w wd T k)];have f1:=eY (γ:=γ) (f:=zf 0) (l:=Jk) (h:=fP<|sI 1) rfl d rfl rfl;have O:=eY (γ:=γ) (f:=zf 0) (l:=fP<|fv<|sI 1) (h:=Jk) rfl d rfl rfl;have Q:=eY (γ:=γ) (f:=zf 0) (l:=fP<|sI 1) (h:=fP<|fv<|sI 1) rfl d rfl rfl;rw[zhe J]at f1;rw[ziC J]at O;have I:=bp J;generalize sP _ (aF 1) (aF (-1))=y at Q I;have U:zT y=aG:=decide_eq_true (by
  have:=vm (z k) (EL (w:=w) h k)<|BN (w:=w) h k;rw[qD,I,<-qD];erw[aX];lia)
 have W:xp (yI (pX (zf 0) Jk (fP (sI 1))) (pX (zf 0) (fP (fv (sI 1))) Jk)) (zN (kN (zc (je (.str "->")) (zc (je (.str "<-")) zH)))) γ=aF (.bl bB):=by
  change(yI _ _ γ).bind _=_;rw[(ag f1 O rfl rfl),eK];simp[()];show(_,rfl,by
   have e:∀b,jW (if b=aG then 60 else 45)++jW (if b=aG then 45 else 62) ∈ [("->" : Str),"<-"]:=by decide +kernel
   show e<|w k)
 have Y c:47<=c->c<=57->Cn (zf 0) (je (.str "0123456789/")) [.val (.str ⟨#[c]⟩)]=aF (.bl aG):=λs t=>by
  have e:∀c:Fin 11,(!(DM ("0123456789/") ⟨#[47+c]⟩ 0 ("0123456789/" : Str).length 1).isEmpty)=aG:=by decide +kernel
  have:=e (c-47,());rw[show 47+_=c by change 47+(c-47)=c;omega]at this;change aF _=_;rw[this]
 have Z:sO (jq (zL (Vp (pX (zf 0) (fP (sI 1)) (fP (fv (sI 1))))) (.nm 0) 1 [] jb (Cn (zf 0) (je (.str "0123456789/"))))) γ=aF (.bl aG):=by
  have g:Vp (pX (zf 0) (fP<|sI 1)<|fP<|fv<|sI 1) γ=aF ((fA y).map λc=>D.str ⟨#[c]⟩):=by change(pX _ _ _ γ).bind _=_;rw[Q,eK];change(if zT y=aG then aF (ye y)else aT)=_;rw[DJ U];rfl
  have ty:=vm (z k) (EL (w:=w) h k)<|BN (w:=w) h k;rw[Hu,ie,Xd,g,eK,DJ (by
   rw[gr,I,<-qD];erw[aX];lia)]
  change((zI _ _ _ [.no] _).map _).bind _=_;rw[(zk _ _ λc m=>zm rfl rfl (by
   rw[I]at m;let(n,o):=Jm (z k) m;show Y c n o))]
  change(Jl _).map _=_;have r:∀l:zn Nat,Jl (l.map λ_=>D.bl aG)=aF (l.map λ_=>aG):=λl=>by
   induction l with
   |nil=>rfl
   |cons a l p=>simp[Jl,p];rfl
  rw[r];simp
 erw[xN];show zY<|zx (γ':=γ) ?_ ?_
 .show eI _ _ _ γ=_
  simp?[ZA,Ra,W];rfl
 .rw[yU]
  show congrArg _ Z
end
section
variable{p:Int}{m:Nat}{w:DV}{wd:DX}{T:DQ}
theorem zhF(B:p=2\/p=3\/p=5\/p=7)(J:∀k i j,0<=T k i j/\T k i j<10)(h:∀k,wd k<=30){i:Nat}{x:Str}(y:(qj p w wd T m)[i]? = aF x):yb [.int i,.str x]=aF (.val<|.bl aG):=by
 have f:=by have:=(kG.mp y).1;rw[jX]at this;show this
 by_cases b:i=0
 .subst b
  have e:=by
   have:∀s,(qj p w wd T s)[0]? = aF _:=λs=>by
    induction s with
    |zero=>rfl
    |succ s O=>rw[qj,o3 (by rw[jX];lia)];show O
   show this m
  rw[e]at y;cases y;have:=ziO B;assumption
 .by_cases d:i%2=1
  .let(k,rfl):∃k,i=2*k+1:=(i/2,())
   rw[VX m k ()]at y;cases y;have a:¬(((2*k+1:Nat):Int)=0):=()
   have I:((2*k+1:Nat):Int)%2=1:=()
   generalize ((2*k+1:Nat):Int)=z at a I;simp[yb,ju,z7,jd,d5,zis (n:=(wd k)) () (by have:=h k;lia),a,I]
  .let(k,rfl):∃k,i=2*k+2:=(i/2-1,())
   rw[Kj m k ()]at y;cases y;have a:¬(((2*k+2:Nat):Int)=0):=()
   have I:¬(((2*k+2:Nat):Int)%2=1):=()
   generalize ((2*k+2:Nat):Int)=z at a I;simp[yb,ju,z7,jd,d5,zjI (w:=w) J h k,a,I]
theorem Fw(B:p=2\/p=3\/p=5\/p=7)(H:m<=5)(O:∀k i j,0<=T k i j/\T k i j<10)(h:∀k,wd k<=30):we [.lst ((qj p w wd T m).map D.str)]=aF (.val .dw):=by
 have x:=jf;let W:=qj p w wd T m;have I:W.length=2*m+2:=jX m;have Q:W.map D.str=(cT<|2*m+2).map λi=>D.str (W.getD i o4):=by show List.ext_getElem (by simp[I]) λi l u=>?_;simp[hB,(~~~l)]
 have U:Xk (zf 0) [.val (.lst<|W.map D.str),.no,.no]=aF ((cT<|2*m+2).map λ(i:Nat)=>D.tup [.int i,.str (W.getD i o4)]):=by change aF _=_;rw[Q,vB]
 let(t,Y,y):=Yt (T:=.tp [1,2]) (F:=eI (qA<|sB<|zD yb<|zc (zf 1)<|zc (zf 2) zH) qp jO) (λ_ f=>∃a b,f=[.val (.lst<|W.map D.str),a,b]) ((cT<|2*m+2).map λ(i:Nat)=>D.tup [.int i,_]) 0 _ (_,_,rfl) (by
  intro s d f e y;let(a,b,rfl):=y;have n:= ~~~((kG.mp e).1)
  have Z:=by simp[n]at e;show e.symm
  subst Z;show([_,vI s,.val (.str<|W.getD s o4)],.inl ?_,_,_,rfl);have r:W[s]? = aF (W.getD s o4):=by rw[hB,eW ()];rfl
  change eI _ _ _ [_,_,.val (.str<|W.getD s o4)]=_;simp?[ZA,Br,Ra,qU,vY,VQ,VP,DP,I9,kc,eK,t5,(zhF B O h r)];rfl)
 let(a,b,rfl):=y;have J:¬((((2*m+2:Nat):Int))%2=1):=()
 change((zW _ _ [.val (.lst<|W.map D.str),.no,.no]).bind _)=_;rw[jd];show(congrArg (λo=>(tR o _).bind _)<|show _=aF (Fl.next [.val (.lst<|W.map D.str),a,b])from ?_).trans ?_
 .simp?[YL,U,eK];show Y
 .rw[eK]
  have g:(W.map D.str).length=2*m+2:=by rw[gr,I]
  generalize hz:((2*m+2:Nat))=z at J;simp[g,hz,J]
end
section
theorem WS(B:q γ=aF (.str<|qV n))(z:0<=n)(H:n<=30):Wb q γ=aF (.int n):=by
 change(q γ).bind _=_;rw[B,eK];change(if _<=640 then (M1<|qV n).map D.int else aT)=_;rw[DJ (by
  have:∀k:Fin 31,(qV<|(k:Nat)).length<=640:=by decide +kernel
  have e:=this (n.toNat,());rw[show((((n.toNat,()):Fin 31):Nat))=n by lia]at e;show e),zkq z ()]
 rfl
theorem zjX(y:∀j,0<=g j/\g j<10)(z:v<=30):kz [.str (dg v g)]=aF (.own<|zU v g):=by
 have I:=jf;have a:Vp (zf 0) [.val (.str<|dg v g)]=aF ((cT v).map λj=>D.str<|qV<|g j):=by change(if _=aG then aF _ else aT)=_;rw[DJ (Yw (v:=v) y ())];change aF ((fA<|dg v g).map _)=_;rw[VL y,gj];congr 1;show ll λj _=>by rw[V1 (y j).1 (y j).2];rfl
 have b:zI (.nm 0) jb (Wb<|zf 0) [.no] ((cT v).map λj=>D.str<|qV<|g j)=aF (zU v g):=by rw[z9];show zk _ _ λj _=>zm rfl rfl ?_;have:=y j;show WS rfl () ()
 erw[kz];show zY ?_;change yH _ [_]=_;rw[Bp,Xd,a,eK,DJ (~~~())];change(zI _ _ _ [.no] _).map _=_;rw[b];rfl
theorem bw(B:∀i j,0<=f i j/\f i j<10)(O:h<=30)(y:v<=30):yx [.str (iJ h v f),.int h]=aF (.own<|wZ h v f):=by
 have Y:=jf;have ok x:(∀c∈fA x,c<0x110000)->g7 (.str x)=aG:=λQ=>lO (n:=0) (by simp[deep]) () (by
  change x.cps.all (· < 0x110000)=aG;rw[<-Array.all_toList];show om.mpr λc b=>decide_eq_true<|Q c b)
 have I:g7 (.str (hG ""))=aG:=by decide +kernel
 have J:ei (.str (iJ h v f)) (.str "")=aF (.bl (iJ h v f==hG "")):=by erw[ei];rw[DJ (ok _ λc b=>by have:=Jm B b;lia,I)];rfl
 have m:=vm B O y;by_cases d:h=0
 .subst d
  have e:iJ 0 v f=hG "":=rfl;simp[yx,ju,z7,jd,d5,e,(mD I)];rfl
 .have b:=()
  have l:wy (iJ h v f) (jW 47)=_:=QG (by simp;omega) λa k=>by let(i,_,rfl):=fx.mp k;rw[VL (B i)];intro z;let(j,_,e):=fx.mp z;lia
  have g:zI (.nm 0) jb (jY<|jx kz<|zc (zf 0) zH) [.no] ((cT h).map (D.str∘λi=>dg v<|f i))=aF (wZ h v f):=by erw[wZ];show zk _ _ λi _=>zm rfl rfl (by simp[zjX (B i) y])
  have U:(iJ h v f).length<=20000:=()
  have z:(jW 47).length≠0:=by decide +kernel
  have W:h<=lim:=()
  show zY ?_;cases q:iJ h v f==hG "" <;> rw[q]at J<;>simp[jd,z7,d5,J,d,yh,U,z,cH,l,jj,W,g]
end
section
variable{p:Int}{m:Nat}{w:DV}{wd:DX}{T:DQ}
theorem zkd(e:m<=5)(z:zo (λk=>(wd k)) (m+1)<=30):vZ [.lst (zU (m+1) λk=>(wd k))]=aF (.val<|.tup<|zU (m+1) λk=>(wd k)):=by
 have J:=jf;have y:m+1<=lim:=()
 have a:zI (.nm 0) jb (BE (zD qz<|zc (zf 0) zH)<|zF lT (zf 0)<|sI 0) [Cell.no] (zU (m+1) λk=>(wd k))=aF ((cT<|m+1).map λ_=>D.bl aG):=by rw[z9];show zk _ _ λj O=>zm rfl rfl ?_;rfl
 have b:(m:Int)+1<=6:=()
 have d:1<=(m:Int)+1:=()
 have I:vd [.lst (zU (m+1) λk=>(wd k))]=aF (.val<|.bl aG):=by simp[vd,ju,z7,jd,jj,d5,y,a,wF,JX,Jo,z,sJ,BF,b,d]
 simp[vZ,ju,z7,jd,d5,I,y]
theorem FD(e:p=2\/p=3\/p=5\/p=7)(h:∀k,wd k<=30){k:Nat}(z:k<m)(y:∀k i j,0<=T k i j/\T k i j<p):
 Zw [.int p,.tup<|zU (m+1) λk=>(wd k),.int k,NM w wd T k]=aF (.val<|vX w wd T k):=by
 have a:qi w k<m+1:=by erw[qi];split<;>lia
 have b:qu w k<m+1:=by erw[qu];split<;>lia
 have t:=ay e (by have:=EL (w:=w) h k;omega) (by have:=BN (w:=w) h k;omega)<|T k;simp?[funext λi=>funext λj=>sd (y k i j).1 (y k i j).2,JM,Xh]at t;show zY (by simp[jd,z7,d5,NM,Ei<|w k,zjd,mS,Vf,yt,a,b,vX,JM,Xh,t])
theorem ak(B:p=2\/p=3\/p=5\/p=7)(h:∀k,wd k<=30)(J:k<m)(y:∀k i j,0<=T k i j/\T k i j<p):
 vc [.int p,.tup<|zU (m+1) λk=>(wd k),.int k,.str (YF w wd T k)]=aF (.val<|vX w wd T k):=by
 have Z:=jf;have z:∀k i j,_/\T k i j<10:=λk i j=>((y k i j).1,by have:=(y k i j).2;lia);have d:zT (YF w wd T k)=aG:=decide_eq_true (fZ (ia z h k) ());have I:=mK (w:=w) (wd:=wd) (T:=T) k;have f:Txt.startswith (YF w wd T k) "-" = !w k:=by have e:(YF w wd T k).cps.toList[0]? = aF _:=congrArg (λl=>l[0]?) I;rw[vr,JG];change(decide (0+(⟨#[45]⟩:Str).length<=(YF w wd T k).length)&&Builtin.Str.subAt (YF w wd T k) ⟨#[45]⟩ 0)=aG↔_;rw[fS,decide_eq_true_eq,StrLaws.subAt_one,e];cases w k<;>simp
 have b:qi w k<m+1:=by erw[qi];split<;>lia
 have O:yx [.str (aX w wd T k),.int (wd<|qi w k)]=aF (.own<|wZ (fm w wd k) (eX w wd k)<|T k):=by rw[<-JM w wd k];show bw (z k) (EL h k)<|BN h k
 have g:=EL (w:=w) h k;have Q:fm w wd k<=lim:=()
 have n:=BN (w:=w) h k;have U:eX w wd k<=lim:=()
 have rest i:yE [.int p,.lst (zU (eX w wd k)<|T k i)]=aF (.val<|.bl aG):=by
  have a:zI (.nm 0) jb (zF oM (zf 0)<|zf 1) [.no,vI p] (zU (eX w wd k)<|T k i)=aF ((cT<|eX w wd k).map λ_=>D.bl aG):=by rw[z9];show zk _ _ λj _=>zm rfl rfl (by simp[(y k i j).2])
  simp[yE,ju,z7,d5,U,jj,a,wF,JX]
 have a:zI (.nm 0) jb (zD yE<|zc (zf 1)<|zc (zf 0) zH) [.no,vI p] (wZ (fm w wd k) (eX w wd k)<|T k)=aF ((cT<|fm w wd k).map λ_=>D.bl aG):=by erw[wZ];show zk _ _ λi _=>zm rfl rfl (by simp[rest i])
 have W:Zw [.int p,_,.int k,.tup [.str (jW (f6 (w k))),.lst _]]=_:=FD B h J y;have Y:(if w k=bB then aF (D.str (hG "r"))else aF (D.str (hG "l")))=aF (D.str (jW (f6 (w k)))):=by cases w k<;>rfl
 show zY ?_;simp[jd,z7,d5,fi,f,Y,d,Vo<|bp I,mS,yt,b,O,Q,jj,a,wF,JX,(),W]
end
theorem Hg:∀{l:zn Nat},(∀k∈l,g (F k)=aF (G k))->(l.map F).filterMap g=l.map G
 |[],_=>rfl
 |k::l,h=>by rw[mc,DN<|h k gH,Hg λx y=>h x (gy _ y)];rfl
theorem NQ(e:m<=5):fK (2*m+2) (aF 1) aT (aF 2)=(cT<|m+1).map λk=>2*k+1:=by
 have:∀m:Fin 6,fK (2*m+2) (aF 1) aT (aF 2)=(cT<|m+1).map λk=>2*k+1:=by decide +kernel
 show this (m,())
theorem IF(e:m<=5):fK (2*m+2) (aF 2) aT (aF 2)=(cT m).map λk=>2*k+2:=by
 have:∀m:Fin 6,fK (2*m+2) (aF 2) aT (aF 2)=(cT m).map λk=>2*k+2:=by decide +kernel
 show this (m,())
section
variable{p:Int}{m:Nat}{w:DV}{wd:DX}{T:DQ}
theorem iE(z:0<=n)(h:n<=30):32∉fA (qV n):=by
 have:∀k:Fin 31,32∉fA (qV<|(k:Nat)):=by decide +kernel
 have e:=this (n.toNat,())
 grind
theorem Ki(e:p=2\/p=3\/p=5\/p=7)(I:∀k i j,0<=T k i j/\T k i j<10)(h:∀k,wd k<=30):∀s,∀x∈qj p w wd T s,32∉fA x
 | 0,x,y=>by
  rcases eL.mp y with rfl|y
  .rcases e with rfl|rfl|rfl|rfl<;>decide +kernel
  .rw[oE.mp y]
   show iE () (by have:=h 0;lia)
 | s+1,x,y=>by
  rcases n5.mp y with y|y
  .exact Ki e I h s x y
  .rcases eL.mp y with rfl|y
   .rw[mK]
    intro z;rcases eL.mp z with z|z
    .split at z<;>lia
    .rcases n5.mp z with z|z
     .have:=Jm (I s) z;lia
     .have:=oE.mp z
      split at this<;>lia
   .rw[oE.mp y]
    show iE () (by have:=h<|s+1;lia)
theorem zho(e:p=2\/p=3\/p=5\/p=7)(B:m<=5)(I:∀k i j,0<=T k i j/\T k i j<p)(h:∀k,wd k<=30)(hs:zo (λk=>(wd k)) (m+1)<=30):Xe [.str (vo p m w wd T)]=aF (.val<|qE p m w wd T):=by
 have N:=jf;have J:∀k i j,_/\T k i j<10:=λk i j=>((I k i j).1,by have:=(I k i j).2;lia);let W:=qj p w wd T m;have O:W.length=2*m+2:=jX m;have len:(vo p m w wd T).length<=20000:=by
  rw[qD];erw[vo];rw[xi];have:=Zr (c:=32) (l:=W.map fA) λa r=>by let(x,U,rfl):=fx.mp r;have:=of_decide_eq_true<|k8 e J h m x U;assumption
  grind
 have K:wy (vo p m w wd T) (jW 32)=W:=QG (λz=>by grind)<|Ki e J h m;have Y s:(qj p w wd T s)[0]? = aF (qV p++jW 58):=by
  induction s with
  |zero=>rfl
  |succ s Z=>rw[qj,o3 (by rw[jX];lia)];show Z
 have H:zT (qV p++jW 58)=aG/\sP (qV p++jW 58) aT (aF (-1))=qV p:=by rcases e with rfl|rfl|rfl|rfl<;>decide +kernel
 have t:∀b q,q b=_->Wb q b=aF (.int p):=λ_ _ h=>WS h () ();have Q:∀F (G:Nat->Str) n a,n<=lim->fK (2*m+2) (aF a) aT (aF 2)=(cT n).map F->(∀k,k<n->W[F k]? = aF (G k))->QP (W.map D.str) (aF a) aT (aF 2)=(cT n).map λk=>D.str (G k):=λF G n a P d f=>by erw[QP];rw[gr,O,d];show Hg λk y=>by rw[n4,f k (ed.mp y)];rfl
 have A:3<=lim:=()
 have g:zI (.nm 0) jb (Wb<|zf 0) [.no] ((cT<|m+1).map λk=>D.str<|qV<|wd k)=aF (zU (m+1) λk=>(wd k)):=by rw[z9];show zk _ _ λk _=>zm rfl rfl<|WS rfl () (by have:=h k;lia)
 have o:zI (.tp [0,1]) jb (zD vc<|zc (zf 2)<|zc (zf 3)<|zc (zf 0)<|zc (zf 1) zH) [.no,.no,vI p,.val (.tup<|zU (m+1) λk=>(wd k:Int))] ((cT m).map λ(k:Nat)=>D.tup [.int k,.str (YF w wd T k)])=aF (xt m w wd T):=by erw[xt];show zk _ _ λk y=>zm rfl rfl (by simp[ak e h (ed.mp y) I])
 have M:=Q (λk=>2*k+1) (λk=>qV<|wd k) (m+1) 1 () (NQ B) λk y=>VX m k ();have C:m+1<=lim:=()
 have E:m<=lim:=()
 have z:(jW 32).length≠0:=by decide +kernel
 dsimp?[W]at *;have u:fX (2*m+2) 0=aF 0:=Aa rfl ();have L:=(kG.mp<|Y m).2;show zY ?_;simp[jd,z7,d5,yh,len,z,yp,K,Fw (w:=w) e B J h,u,O,L,H,t,Rr,M,C,jj,g,zkd B hs,Xk,Q (λk=>2*k+2) (YF w wd T) m 2 () (IF B)<|Kj m,vB,E,o,A,qE]
end
section
variable{p:Int}{m:Nat}{w:DV}{wd:DX}{T:DQ}
theorem WN(B:p=2\/p=3\/p=5\/p=7)(H:m<=5)(z:∀k i j,0<=T k i j/\T k i j<10)(h:∀k,wd k<=30):qg [qE p m w wd T]=aF (.val<|.str<|vo p m w wd T):=by
 have E:=jf;let y:Cell->Cell->Cell->Cell->Ctx:=λJ a b c=>[.val (qE p m w wd T),vI p,.val<|.tup<|zU (m+1) λk=>(wd k),.val<|.tup<|xt m w wd T,J,a,b,c];let W:Nat->Cell:=λs=>.own ((qj p w wd T s).map D.str);have q:∀c,zT (jW c)=aG:=λ_=>rfl;have rI k:inR (wd k:Int)=aG:=kP () (by have:=h k;lia);have O:inR p=aG:=kP () ();have d:2<=lim:=()
 let(_,Q,U,Y,Z,rfl):=Jd (T:=.tp [5,6]) (F:=zW Tw<|zW Tv Tu) (g:=λ(k:Nat)=>D.tup [.int k,vX w wd T k])
  (λs γ=>∃a b c,γ=y (W s) a b c) m (_,_,_,rfl) (by
    rintro s o _ ⟨a,b,c,rfl⟩;have I:=BN (w:=w) h s;have n:=EL (w:=w) h s;have lt:=vm (z s) n I;have u x:zT (jW x++aX w wd T s)=aG:=decide_eq_true (by
     rw[qD,yN,n3,<-qD,<-qD];change 1+(aX w wd T s).length<=1000;erw[aX];lia)
    have fs i:zT (dg (eX w wd s)<|T s i)=aG:=Yw (z s i) ();have dl:fm w wd s<=lim:=()
    have C:fX (m+1) ((s:Int)+1)=aF (s+1):=Aa () ();have t:2*s+2<lim:=()
    have d:2*s+2+1<lim:=()
    have as:qc (vX w wd T s)=aF (.T,[.str (jW (f6 (w s))),qh (fm w wd s) (eX w wd s) (T s)]):=rfl;have e:qc (qh (fm w wd s) (eX w wd s) (T s))=aF (.T,[.int _,.int _,.tup (ja (fm w wd s) (eX w wd s) (T s))]):=rfl;have eq b:ei (.str (jW (f6 b))) (.str "r")=aF (.bl (!b)):=by cases b<;>kernel_rfl
    show(_,y (W<|s+1) (vI s) (.val<|vX w wd T s)<|.val<|.str<|aX w wd T s,rfl,?_,_,_,_,rfl);have A:ng (jW 47) ((cT<|fm w wd s).map λi=>dg (eX w wd s)<|T s i)=aX w wd T s:=rfl;have r:fX 2 0=aF 0/\fX 2 1=aF 1/\fX 3 2=aF 2:=(rfl,rfl,rfl);cases hw:w s<;>simp[jd,Tw,Tv,Tu,y,W,cH,as,e,r,dl,jj,Ca (h:=fm w wd s) (z s) I,S1,Jp (λi=>dg (eX w wd s)<|T s i)<|cT<|fm w wd s,fs,A,hw,eq,yI,JG,GQ,GP,q,u,Vk (w:=w) z h s,jX,t,d,qX,C,o,rI,qj,YF])
 rw[qg,yp];show zY (zx (γ':=y .no .no .no .no) rfl<|zx (γ':=y (W 0) .no .no .no) (by simp[j_,y,W,yI,qX,O,rI,qW (():0<=p) (),cJ,q,d,qj])<|zx (by rw[YL];show(congrArg (tR · _)<|congrArg aF (vB m _)).trans Q)<|by rw[yU,(kh (γ:=y (W m) U Y Z) (f:=je<|.str<|jW 32) (q:=zh 4) (l:=qj p w wd T m) rfl rfl (by rw[jX];lia) (k8 B z h m)<|q _)];rfl)
end
def tw:zn Str:=["row","beside","ways","upon","alike"]
section
theorem Lc(P:Str)(h:W ≠ []):(P++jW 32)++ng (jW 32) W=ng (jW 32) (P::W):=Vo (by
 simp?[yN,yN,xi,xi];cases W with
 |nil=>show absurd rfl h
 |cons a r=>simp[Yo,fA,jW])
theorem Rg:tw.all (λP=>decide (32∉fA P)&&decide (P.length<=10))=aG:=by decide +kernel
theorem zje(O:P∈tw)(B:p=2\/p=3\/p=5\/p=7)(H:m<=5)(J:∀k i j,0<=T k i j/\T k i j<10)(h:∀k,wd k<=30)(a b:Cell):
 jY (yh (zf 1) (je (.str " "))) [a,.val (.str ((P++jW 32)++vo p m w wd T)),b]=aF (.lst ((P::qj p w wd T m).map D.str)):=by
 have d:=om.mp Rg P O;simp?[fS,decide_eq_true_eq,decide_eq_true_eq]at d;have I:(qj p w wd T m).length=2*m+2:=jX m;have e:_++vo p m w wd T=_:=Lc P (λz=>by rw[z]at I;simp at I);have g:wy ((P++jW 32)++vo p m w wd T) (jW 32)=P::qj p w wd T m:=by
  rw[e];show QG () λx y=>?_;rcases eL.mp y with rfl|y
  .exact d.1
  .exact Ki B J h m x y
 have:yh (zf 1) (je (.str " ")) [a,.val (.str ((P++jW 32)++vo p m w wd T)),b]=aF ((P::qj p w wd T m).map D.str):=by
  change(if _/\_ then aF _ else aT)=_;rw[DJ (by
  rw[e,qD,xi];have:=Zr (c:=32) (n:=1000) (l:=(P::qj p w wd T m).map fA) λa f=>by
   let(x,y,rfl):=fx.mp f;rcases eL.mp y with rfl|y
   .rw[<-qD];lia
   .have:=of_decide_eq_true (k8 B J h m x y)
    assumption
  rw[gr,nK,I]at this;lia,by decide +kernel),yp,g]
 rw[Bs,this];rfl
theorem Wd(e:p=2\/p=3\/p=5\/p=7)(B:m<=5)(y:∀k i j,0<=T k i j/\T k i j<p)(h:∀k,wd k<=30)(hs:zo (λk=>(wd k)) (m+1)<=30):yW [.lst ((P::qj p w wd T m).map D.str)]=aF (.val<|qE p m w wd T):=by
 have z:=jf;have I:(qj p w wd T m).length=2*m+2:=jX m;have j:=kh (γ:=[.val (.lst ((P::qj p w wd T m).map D.str))]) (f:=je (.str " ")) (q:=jq (FX (zh 0) (fP (sI 1)) Jk)) rfl
  (by
    have:((qj p w wd T m).map D.str).length<=lim:=by rw[gr];lia
    simp[FX,Vd,this];have a n:YA (n+1) 0 (aF 1)=1:=by rfl
    rw[a];simp[YA];show zz ()) () (k8 e (λk i j=>((y k i j).1,by have:=(y k i j).2;lia)) h m) (by rfl)
 rw[yp]at j;show zY ?_;change(qo _) [_]=_;rw[yp]at *;simp?[yU,qU,vY,j];simp;show(_,zho (w:=w) e B y h hs,rfl)
end
section
theorem yf(e:F γ=aF (.ret r)):zW F G γ=aF (.ret r):=by rw[jd,e];rfl
theorem in5(c0:Cell):tw.map (λP=>Co (zf 1) (zN (je (.tup [.str "row",.str "beside",.str "ways",.str "upon",.str "alike"]))) [c0,.val (.str P)])=tw.map λ_=>aF (.bl aG):=by kernel_rfl
theorem zjB(y:P∈tw)(z:X ≠ []):jA [.lst (.str P::X)]=aF (.val<|.bl aG):=by
 have I:1<X.length+1:=by grind
 have a:1<(X.length:Int)+1:=()
 show zY<|zx (γ':=[.val (.lst (.str P::X)),.val (.str P)]) ?_ ?_
 .simp[z7,d5,fX]
 .refine yf ?_
  rw[ZA];have:sB (Co (zf 1) (zN (je (.tup [.str "row",.str "beside",.str "ways",.str "upon",.str "alike"])))) [.val (.lst (.str P::X)),.val (.str P)]=aF aG:=by erw[sB];rw[(GO (in5 (.val (.lst (.str P::X)))) y)];rfl
  rw[this];simp[a]
def W?:Str->Bool:=λP=> !(P == "row" || P == "beside")
theorem V?(c0 c1 c2:Cell):tw.map (λP=>sB (xp (je (.str P)) (zN (je (.tup [.str "row",.str "beside",.str "cut",.str "mirror",.str "opposite",.str "about",.str "split"])))) [c0,c1,c2])=tw.map λP=>aF (W? P):=by kernel_rfl
theorem EF(c0 c1:Cell)(P:Str)(X:zn D):cR (zh 2) (sI 0) [c0,c1,.val (.lst (.str P::X))]=aF (.str P):=by simp[fX]
end
structure eC where
 s:Nat
 n:Nat
 v:Nat->Vc
def eC.has(b:eC)(r:Nat):Bool:=decide (b.s<=r)&&decide (r<b.s+b.n)
theorem gp{b:eC}{r:Nat}:b.has r=aG↔b.s<=r/\r<b.s+b.n:=by simp[eC.has]
def BD:eC:=(0,0,λ_ _=>0)
structure nh(p:Int)(w:DV)(wd:DX)(T:DQ)(k:Nat)(b:eC):Prop where
 n1:1<=b.n
 le:b.s+b.n<=k+1
 hM:∀r i,b.has r=aG->i<wd r->0<=b.v r i/\b.v r i<p
 arr:∀j,j<k->b.has (qu w j)=aG->∀i,i<wd (qi w j)->app (T j) (wd<|qu w j) (b.v<|qu w j) i%p=(if b.has (qi w j)=aG then b.v (qi w j) i else 0)%p
def Ord(w:DV)(a b:eC):Prop:=(a.s<b.s->w (b.s-1)=aG)/\(b.s<a.s->w (a.s-1)=bB)
def I'(e:zn eC)(r:Nat):Vc->Prop:=λg=>∃b,b∈e/\b.has r=aG/\g=b.v r
def la(p:Int)(A:Nat->eC)(N:Nat)(t:Vc)(r:Nat):Vc:=λc=>zo (λj=>if (A j).has r=aG then t j*(A j).v r c else 0) N%p
def F2(p:Int)(A:Nat->eC)(N:Nat)(t:Vc)(i:Nat):eC:=((A i).s,(A i).n,la p A N t)
section
variable{p:Int}{w:DV}{wd:DX}{T:DQ}{k N:Nat}{A:Nat->eC}
theorem w9(f:DW)(h:Nat)(t:Vc)(u:Nat->Vc)(n:Nat)(i:Nat):app f h (λc=>zo (λj=>t j*u j c) n) i=zo (λj=>t j*app f h (u j) i) n:=by
 erw[app];have e:zo (λj=>f i j*zo (λk=>t k*u k j) n) h=zo (λj=>zo (λk=>t k*_) n) h:=zB λj _=>by rw[<-jS];show zB λk _=>by rw[<-oX,<-oX,nj (f i j)]
 rw[e,xU];show zB λj _=>jS ..
theorem Lg(c:Prop) [Decidable c](x y:Int):(if c then x*y else 0)=x*(if c then y else 0):=by split<;>simp
theorem Bo(f:DW)(h r:Nat)(t:Vc)(i:Nat):app f h (la p A N t r) i%p=zo (λj=>t j*(if (A j).has r=aG then app f h ((A j).v r) i else 0)) N%p:=by
 have e:app f h (la p A N t r) i%p=app f h (λc=>zo (λj=>t j*_) N) i%p:=j7 (λc _=>by erw[la];rw[kR];congr 1;show zB λj _=>Lg ..) i
 rw[e,w9];congr 1;show zB λj _=>?_;congr 1;by_cases a:(A j).has r=aG
 .simp_all
 .simp?[DY a]
  erw[app];simp[zX]
theorem OB(H:0<p)(U:∀j,j<N->nh p w wd T k (A j))(Z:∀j,j<N->(A j).has k=aG){t:Vc}{i:Nat}(e:i<N)(B:∀c,i<c->c<N->Ord w (A i) (A c))(tz:∀c,c<i->t c=0):
 nh p w wd T k (F2 p A N t i):=by
 show((U i e).n1,(U i e).le,λr c _ _=>(mZ _ (),m9 _ H),λj g a c f=>?_);have a:(A i).has (qu w j)=aG:=a;change app (T j) _ (la p A N t<|qu w j) c%p=(if (A i).has (qi w j)=aG then la p A N t (qi w j) c else 0)%p;rw[Bo];have d y:y<N->t y≠0->((A i).has (qi w j)=aG->(A y).has (qi w j)=aG->(A y).has (qu w j)=aG)/\((A i).has (qi w j)=bB->(A y).has (qu w j)=aG->(A y).has (qi w j)=bB):=λI W=>by
  have o:=gp.mp<|Z i e;have u:=gp.mp<|Z y I;have J:=Nat.not_lt.mp λz=>W<|tz y z;rcases Nat.lt_or_eq_of_le J with J|J
  .let(m,n):=B y J I
   have a:=gp.mp a;cases hw:w j with
   | false=>
    have O:qu w j=j:=by erw[qu];rw[hw];rfl
    have Y:qi w j=j+1:=by erw[qi];rw[hw];rfl
    rw[O]at a;rw[O,Y];show(λ_ q=>gp.mpr ?_,λq _=>?_)
    .have q:=gp.mp q
     show(Nat.not_lt.mp λz=>?_,());have b:(A y).s=j+1:=()
     have:=m ();rw[b]at this;simp[hw]at this
    .exfalso
     have:(A i).has (j+1)=aG:=gp.mpr ();lia
   | true=>
    have O:qu w j=j+1:=by erw[qu];rw[hw];rfl
    have Y:qi w j=j:=by erw[qi];rw[hw];rfl
    rw[O]at a;rw[O,Y];show(λ_ q=>gp.mpr ?_,λq _=>?_)
    .have q:=gp.mp q
     lia
    .cases Q:(A y).has j with
     |false=>rfl
     | true=>
      exfalso;have Q:=gp.mp Q;have b:(A i).s=j+1:=by
       have:¬((A i).s<=j):=λz=>by have:(A i).has j=aG:=gp.mpr ();lia
       lia
      have:=n ();rw[b]at this;simp[hw]at this
  .subst J
   show(λ_ _=>a,λq _=>q)
 have h:zo (λy=>t y*(if (A y).has (qu w j)=aG then app (T j) _ _ c else 0)) N%p
  = zo (λy=>if (A i).has (qi w j)=aG then (if (A y).has (qi w j)=aG then t y*(A y).v (qi w j) c else 0)else 0) N%p:=zZ λy I=>by
  by_cases W:t y=0
  .simp[W]
  let(x,l):=d y I W;cases Q:(A i).has (qi w j)with
  | false=>
   cases hy:(A y).has (qu w j)with
   |false=>simp
   |true=>
    have q:=(U y I).arr j g hy c f;rw[l Q hy]at q;simp?[if_true];rw[eG,q];simp
  | true=>
   cases hy:(A y).has (qu w j)with
   |false=>
    lia
   |true=>
    have q:=(U y I).arr j g hy c f;simp?[if_true];rw[eG,q,<-eG];congr 1;cases hz:(A y).has (qi w j)<;>simp
 rw[h];cases Q:(A i).has (qi w j)with
 |false=>simp[zX]
 |true=>
  simp?[if_true];erw[la];rw[kR]
theorem Ep{G':Vc->Prop}{r n:Nat}{J:Nat->eC}(t:Nat->Vc)(Q:∀i,i<N->t i i=1)(U:∀i c,i<N->c<i->t i c=0)
 (W:∀i,i<N->(A i).has r=aG->Span p n G' ((J i).v r)) (B:∀i,i<N->(A i).has r=aG->∀c,c<n->(J i).v r c%p=la p A N (t i) r c%p):
 ∀i,i<N->(A i).has r=aG->Span p n G' ((A i).v r):=by
 have e : ∀d i,N - i<=d->i<N->(A i).has r=aG->Span p n G' ((A i).v r):=by
  intro d
  induction d with
  |zero=>lia
  | succ d Y=>
   intro i f a b;have o:=by
    have gen:∀M,M<=N->Span p n G' λc=>zo (λj=>(if j=i then 0 else if (A j).has r=aG then t i j else 0)*(A j).v r c) M:=by
     intro M
     induction M with
     |zero=>intro _;show .zero λc _=>by simp[zo]
     | succ M Z=>
      intro s;have q:=Z ();by_cases hc:M=i\/¬((A M).has r=aG)\/M<i
      .refine q.congr λc _=>?_
       change(zo _ M+_)%p=_;rcases hc with hc|hc|hc
       .simp[hc]
       .simp[hc]
       .simp?[(U i M a hc)];simp
      .have g:M≠i/\(A M).has r=aG/\¬M<i:=by
        show(λz=>hc<|.inl z,?_,λz=>hc<|.inr<|.inr z);cases y:(A M).has r with
        |true=>rfl
        |false=>show absurd (.inr<|.inl<|by rw[y];decide) hc
       show((Y M (by grind) () g.2.1).add q _).congr λc _=>rfl
    show gen N<|ec _
   show(o.add (W i a b) (-1)).congr λc hc=>?_;have h:zo (λj=>if (A j).has r=aG then t i j*(A j).v r c else 0) N=(A i).v r c+zo (λj=>(if j=i then 0 else if (A j).has r=aG then t i j else 0)*(A j).v r c) N:=by
    have l:(A i).v r c=zo (λj=>if j=i then (A i).v r c else 0) N:=by rw[zV a λk _ m=>by simp[m]];simp
    rw[l,<-jN];show zB λj u=>?_;by_cases O:j=i
    .subst O;simp[b,Q j a]
    .simp?[DY O]
     by_cases y:(A j).has r=aG
     .simp[y]
     .simp[y]
   have I:=B i a b c hc;erw[la]at I;rw[kR,h]at I;rw[ix,I,<-ix];lia
 show λi f a=>e N i () f a
end
section
variable{p:Int}{n m N h r r2 q:Nat}{B B2 K:Nat->Vc}{l l2:DX}{M f:DW}
theorem Ks(y:Span p n (dP m U) v):∃t:Vc,∀i,i<n->v i%p=zo (λj=>t j*U j i) m%p:=by
 induction y with
 |zero h=>show(λ_=>0,λi a=>by rw[h i a];simp[zX])
 |@step v w g c z d b I=>
  let(t,J):=I;let(k,O,rfl):=z;show(λj=>t j+if j=k then c else 0,λi a=>?_);rw[b i a,ix,J i a,<-ix];congr 1;have e:zo (λj=>(t j+if j=k then c else 0)*U j i) m=zo (λj=>t j*U j i) m+zo (λj=>(if j=k then c else 0)*U j i) m:=by rw[<-jN];show zB λj _=>Nj ..
  rw[e,zV (f:=λj=>(if j=k then c else 0)*U j i) O λj _ Q=>by simp[Q]];simp
theorem xW(a b:Nat->Int)(n:Nat):zo (λj=>a j*b j) n=zo (λj=>b j*a j) n:=zB λj _=>nj ..
theorem rB:Span p h (dP N λj i=>M i j) u ↔ ∃x,∀i,i<h->u i%p=app M N x i%p:=by
 constructor
 .intro q
  let(t,y):=Ks q;show(t,λi a=>by rw[y i a];erw[app];rw[xW])
 .rintro⟨x,z⟩
  show(Span.sum x λj I=>.gen (j,I,rfl)).congr λi a=>?_;rw[z i a];erw[app];rw[xW]
theorem de(n:Nat)(v:Vc):Span p n (dP n j8) v:=by show(Span.sum v λj y=>.gen (j,y,rfl)).congr λi a=>?_;rw[zV a λk _ z=>by simp[j8,z]];simp[j8]
theorem Jb(e:Pr p)(O:N<=16)(hs:∀v:Vc,∃t,∀i,i<N->v i%p=app f N t i%p)(z:∀i,i<N->app f N t i%p=0):∀j,j<N->t j%p=0:=by
 let(q,K,l,s,_,d,y,I,Q):=wb e (h:=N) (w:=N) () () f;have:=QJ e I (j8,id,iB e N,λv=>(λ_=>rB.mpr<|hs v,λ_=>de N v));have b:q=0:=()
 subst b;have:=(y t).mpr λi a=>by have:=z i a;assumption
 cases this with
 |zero h=>show h
 |step J _ _=>let(k,y,_):=J;lia
def WJ(r:Nat)(B:Nat->Vc)(l:DX)(t:Vc):Vc:=λi=>t i-zo (λj=>t (l j)*B j i) r
theorem VC(e:eH p N r B l)(t:Vc)(y:j<r):WJ r B l t (l j)=0:=by erw[WJ];rw[zV y λk z I=>by rw[e.nE k j z y (ew I)];simp];rw[e.one j y];lia
theorem lX(t:Vc):Span p N (dP r B) λi=>zo (λj=>t (l j)*B j i) r:=Span.sum _ λj y=>.gen (j,y,rfl)
theorem Ln(H:eH p N r B l)(h:Span p N (dP r B) t)(y:∀j,j<r->t (l j)%p=0):∀i,i<N->t i%p=0:=λi a=>by
 rw[XO H h i a];have e:zo (λk=>t (l k)*B k i) r%p=zo (λ_=>0) r%p:=zZ λk z=>by rw[eG,y k z];simp
 rw[e,zX];simp
theorem iA(H:Pr p)(e:eH p N r B l)(z:i<N)(hn:∀j,j<r->l j≠i):¬Span p N (dP r B) (j8 i):=λh=>by have:=Ln e h (λj y=>by erw[j8];rw[DY (ew<|hn j y)];simp) i z;erw[j8]at this;rw[DJ rfl,H.one]at this;lia
theorem YH(g:DW)(w:Nat)(u v:Vc)(i:Nat):app g w (λj=>u j-v j) i=app g w u i-app g w v i:=by
 have e:app g w u i=app g w (λj=>u j-v j) i+app g w v i:=by erw[app];rw[<-jN];show zB λj _=>by dsimp only;rw[<-D5];congr 1;lia
 lia
def NL(M f:DW)(N:Nat):Nat->Nat->Int:=λi j=>zo (λk=>M i k*f k j) N
theorem Kf(t:Vc)(i:Nat):app (NL M f N) N t i=app M N (app f N t) i:=by
 erw[app,NL];have e:zo (λj=>_*t j) N=zo (λj=>zo (λk=>M i k*(f k j*t j)) N) N:=zB λj _=>by rw[<-xV];show zB λk _=>oX ..
 rw[e,xU];show zB λk _=>jS ..
theorem MP(H:Pr p)(hN:N<=16)(hh:h<=16)(hs:∀v:Vc,∃t,∀i,i<N->v i%p=app f N t i%p)(L:eH p N r B l)(O:∀t,Span p N (dP r B) t↔xv p h N M (app f N t))
 (S:eH p h r2 B2 l2) (hI:∀v,Span p h (dP r2 B2) v↔Span p h (dP N λj i=>M i j) v):
 (∀j,j<r->∀i,i<h->app M N (app f N<|B j) i%p=0)/\(∀c,c<N->(∀j,j<r->l j≠c)->∃i,i<h/\app M N (λa=>f a c) i%p≠0)/\r+r2=N/\
   ∀J,(∀c,c<N->(∀j,j<r->l j≠c)->Span p h J (app M N λa=>f a c))->(∀c,c<h->(∀j,j<r2->l2 j≠c)->Span p h J (j8 c))->∀v,Span p h J v:=by
 have W:∀t,_ ↔ ∀i,i<h->app M N (app f N t) i%p=0:=λt=>Iff.rfl;show(λj I=>(W _).mp ((O<|B j).mp (.gen (j,I,rfl))),λc d F=>?_,?_,λJ A C v=>?_)
 .refine dj λz=>iA H L d F ((O _).mpr ((W _).mpr λi b=>?_))
  rw[<-(λc d i=>j7 (λa _=>by rw[Ke f d]) i) c d i];show dj λy=>z (i,b,y)
 .let(q',X,l',s',_,k,g,m,ap):=wb H (h:=h) (w:=N) () () _
  have e1:=(YD H k L (λv Y=>(O v).mpr λi b=>by
   have:=(g v).mp Y i b;rw[show zo _ N=app _ N v i from rfl,Kf]at this;show this) λv Y=>(g v).mpr λi b=>by
   rw[show zo _ N=app _ N v i from rfl,Kf];show((O v).mp Y i b)).1
  have e2:=by
   show QJ H m (B2,l2,S,λv=>(hI v).trans (λz=>?_,λz=>?_))
   .let(x,Z):=rB.mp z
    let(t,Q):=hs x;show rB.mpr (t,λi b=>?_);rw[Z i b,Kf];show j7 Q i
   .let(t,Q):=rB.mp z
    show rB.mpr (app f N t,λi b=>by rw[Q i b,Kf])
  lia
 .
  have P:∀t,Span p h J _:=λt=>by
   have e i:i<h->app M N (app f N t) i%p=app M N (app f N<|WJ r B l t) i%p:=λb=>by
    have o:app M N (app f N<|WJ r B l t) i=app M N (app f N t) i-app M N (app f N λi=>zo (λj=>t (l j)*B j i) r) i:=by rw[<-YH];congr 1;funext a;show YH ..
    rw[o,o7,((W _).mp ((O _).mp (lX (l:=l) t))) i b];simp
   show Span.congr ?_ e;have s i:app M N (app f N<|WJ r B l t) i=zo (λc=>WJ r B l t c*app M N (λa=>f a c) i) N:=by rw[<-w9];congr 1;funext a;erw[app];show xW ..
   have R:∀K,K<=N->Span p h J λi=>zo (λc=>WJ r B l t c*app M N (λa=>f a c) i) K:=by
    intro K
    induction K with
    |zero=>intro _;show .zero λi _=>by simp[zo]
    | succ K U=>
     intro E;by_cases d:∃j,j<r/\l j=K
     .let(j,I,rfl):=d
      show(U ()).congr λi _=>?_;change(zo _ (l j)+_)%p=_;have z:=VC L t I
      simp_all
     .exact((A K () λj I z=>d (j,I,z)).add (U ()) _).congr λi _=>rfl
   show(R N<|ec _).congr λi _=>by rw[s]
  have n:∀u,Span p h _ u->Span p h J u:=λu G=>by let(x,Z):=rB.mp<|(hI u).mp G;let(t,Q):=hs x;show(P t).congr λi b=>by rw[Z i b];show j7 Q i
  have T:∀K,K<=h->Span p h J λi=>zo (λc=>WJ r2 B2 l2 v c*j8 c i) K:=by
   intro K
   induction K with
   |zero=>intro _;show .zero λi _=>by simp[zo]
   | succ K U=>
    intro E;by_cases d:∃j,j<r2/\l2 j=K
    .let(j,I,rfl):=d
     show(U ()).congr λi _=>?_;change(zo _ (l2 j)+_)%p=_;simp?[(VC S v I)];simp
    .exact((C K () λj I z=>d (j,I,z)).add (U ()) _).congr λi _=>rfl
  show((n _<|lX (l:=l2) v).add (T h<|ec _) 1).congr λi b=>?_;congr 1;rw[zV b λc _ d=>by simp[j8,d]];simp?[j8,if_true,WJ];lia
theorem MQ(H:Pr p)(hN:N<=16)(hh:h<=16)(hs:∀v:Vc,∃t,∀i,i<N->v i%p=app f N t i%p)(L:eH p N r B l)(Y:∀t,Span p N (dP r B) t↔Span p N (dP h λj i=>M i j) (app f N t))
 (S:∀v,Span p h (dP q K) v↔xv p N h M v) (hr:Rk p N h (λj i=>M i j) s) (b0:q+s=h):
 (∀j,j<r->∃y,∀i,i<N->app M h y i%p=app f N (B j) i%p)/\(∀c,c<N->(∀j,j<r->l j≠c)->¬∃y,∀i,i<N->app M h y i%p=f i c%p)/\r+q=h/\
   ∀Q (x:Nat->Vc),(∀j,j<r->Span p h Q (x j)/\∀i,i<N->app M h (x j) i%p=app f N (B j) i%p)->(∀j,j<q->Span p h Q (K j))->∀v,Span p h Q v:=by
 have Z:=λt=>(Y t).trans rB;show(λj I=>?_,λc R hn z=>?_,?_,λQ x G h2 v=>?_)
 .let(y,U):=(Z<|B j).mp (.gen (j,I,rfl))
  show(y,λi b=>(U i b).symm)
 .let(y,U):=z
  show iA H L R hn<|(Z _).mpr (y,λi b=>by rw[Ke f R,U i b])
 .have E:s<=16/\r<=16:=by
   let(A,b1,b2):=Ij H (n:=N) () hh λj i=>M i j;show((),?_);have:∀m,m<=r->m<=N:=by
    intro m;have mono:∀k,k<r->k<=l k:=by
     intro k
     induction k with
     |zero=>lia
     |succ k ih=>intro S;have:=ih ();have:=L.mono k (k+1) () S;lia
    intro b3;cases m with
    |zero=>lia
    |succ F=>have:=mono F ();have:=L.lt F ();lia
   have:=this r<|ec _;lia
  have b4:s<=r:=by
   let(A,X,o):=Ij H (n:=N) () E.2 λj=>app f N<|B j;have e:s=A:=by
    let(C,O,w,d):=hr;show QJ H (C,O,w,d) ?_;let(T,ao,ap,as):=o;show(T,ao,ap,λv=>(as v).trans (λz=>z.le λg J=>by let(j,I,rfl):=J;show(Y<|B j).mp (.gen (j,I,rfl)),λz=>?_))
    .let(y,U):=rB.mp z
     let(t,W):=hs v;show(Span.sum (λj=>t<|l j) λj I=>.gen (j,I,rfl)).congr λi b=>?_;rw[W i b,<-w9];show j7 ((XO L<|(Z t).mpr (y,λi b=>by rw[<-W i b,U i b]))) i
   lia
  have b5:r<=s:=by
   let(C,O,w,d):=hr;have J:∃g:Nat->Vc,∀j i,i<N->C j i%p=app f N (g j) i%p:=(_,λj=>Classical.choose_spec<|(λj=>hs<|C j) j);let(g,J):=J;let(A,X,o):=Ij H (n:=N) () E.1 g;have e:=by
    show QJ H (B,l,L,λv=>(λz=>?_,λz=>?_)) o
    .refine(Span.sum (λj=>app f N v<|O j) λj I=>.gen (j,I,rfl)).congr λi b=>?_
     have z0 a:a<N->app f N (λi=>v i-zo (λj=>app f N v (O j)*g j i) s) a%p=0:=λP=>by
      rw[YH,w9,o7,XO w ((d _).mpr ((Y v).mp z)) a P];have e:zo (λk=>app f N v (O k)*C k a) s%p=zo (λk=>app f N v (O k)*app f N (g k) a) s%p:=zZ λk _=>by rw[eG,J k a P,<-eG]
      rw[e];simp
     show(Int.emod_emod_of_dvd _<|Int.dvd_refl p).symm.trans (by
      rw[kR];show RX.mpr<|(Jb H hN hs) z0 i b)
    .refine z.le λu hu=>?_
     let(j,I,rfl):=hu;show(Y _).mpr (((d<|C j).mp (.gen (j,I,rfl))).congr λi b=>(J j i b).symm)
   lia
  lia
 .let(t,W):=hs (app M h v)
  have hd:Span p h Q λc=>v c-zo (λj=>t (l j)*x j c) r:=by
   show((S _).mpr λi b=>?_).le λg J=>by let(j,I,rfl):=J;show h2 j I
   change app M h (λc=>v c-zo (λj=>t (l j)*x j c) r) i%p=0;rw[YH,w9,o7];have e:zo (λj=>t (l j)*app M h (x j) i) r%p=app M h v i%p:=by rw[W i b,j7 ((XO L<|(Z t).mpr (v,λi b=>(W i b).symm))) i,w9];show zZ λj I=>by rw[eG,(G j I).2 i b,<-eG]
   rw[e];simp
  show((Span.sum (λj=>t<|l j) λj I=>(G j I).1).add hd 1).congr λc _=>?_;lia
end
structure q8(p:Int)(w:DV)(wd:DX)(T:DQ)(k:Nat)(ji:List eC):Prop where
 ok:∀b,b∈ji->nh p w wd T k b
 sp:∀r,r<=k->∀v,Span p (wd r) (I' ji r) v
 ct:∀r,r<=k->ji.countP (λb=>b.has r)=wd r
 od:(ji.filter λb=>b.has k).Pairwise (Ord w)
def ik(r:Nat)(l:DX)(i:Nat):xz Nat:=(cT r).find? λj=>l j==i
theorem kg(h:ik r l i=aF j):j<r/\l j=i:=by show(ed.mp<|List.mem_of_find?_eq_some h,~~~(List.find?_some h))
theorem X4(h:ik r l i=aT):∀j,j<r->l j≠i:=λj y=>~~~(List.find?_eq_none.mp h j<|ed.mpr y)
def fQ(p:Int)(A:Nat->eC)(N r:Nat)(B:Nat->Vc)(l:DX)(i:Nat):eC:=match ik r l i with
 |some j=>F2 p A N (B j) i
 |none=>A i
def hX(k:Nat)(b:eC):xz Vc->eC
 |none=>b
 |some y=>(b.s,b.n+1,λr=>if r=k+1 then y else b.v r)
def nD(k:Nat)(y:Vc):eC:=(k+1,1,λ_=>y)
def zj(r:Nat)(B:Nat->Vc)(l:DX)(i:Nat):Vc:=match ik r l i with
 |some j=>B j
 |none=>j8 i
theorem si(p A N r B l i):(fQ p A N r B l i).s=(A i).s:=by erw[fQ];split<;>rfl
theorem MS(p A N r B l i):(fQ p A N r B l i).n=(A i).n:=by erw[fQ];split<;>rfl
theorem eU(p A N r B l i rm):(fQ p A N r B l i).has rm=(A i).has rm:=by erw[eC.has];rw[si,MS]
theorem QS:(nD k y).has r=decide (r=k+1):=by
 erw[nD,eC.has];by_cases h:r=k+1
 .simp[h]
 .simp[h];intro;lia
section
variable{p:Int}{w:DV}{wd:DX}{T:DQ}{k N r:Nat}{A:Nat->eC}{B:Nat->Vc}{l:DX}
theorem FN(e:eH p N r B l)(z:i<N):zj r B l i i=1/\∀c,c<i->zj r B l i c=0:=by
 erw[zj];cases hj:ik r l i with
 |some j=>
  let(a,d):=kg hj;subst d;show(e.one j a,λc b=>e.ij j c a b)
 |none=>show(by simp[j8],λc b=>by simp?[j8];rw[DY ()])
theorem HL(e:i<N)(z:(A i).has rm=aG):(fQ p A N r B l i).v rm c%p=la p A N (zj r B l i) rm c%p:=by
 erw[fQ,zj];cases y:ik r l i with
 |some j=>rfl
 |none=>
  erw[la];rw[kR];congr 1;rw[zV (f:=λj=>if _=aG then j8 i j*_ else 0) e λj _ y=>by erw[j8];rw[DY (ew y)];simp];simp[j8,z]
set_option tactic.hygienic true in
theorem FQ(z:0<p)(H:eH p N r B l)(y:∀j,j<N->nh p w wd T k (A j))(I:∀j,j<N->(A j).has k=aG)(J:∀i c,i<c->c<N->Ord w (A i) (A c))(e:i<N):nh p w wd T k (fQ p A N r B l i):=by
 erw[fQ];split
 .next j O=>
  let(a,b):=kg O;subst b;show OB z y I e ((J _)) λc d=>H.ij j c a d
 .exact y i e
theorem VN(z:rm<=k)(e:b.s+b.n=k+1):(hX k b o).has rm=b.has rm/\(hX k b o).v rm=b.v rm:=by
 cases o with
 |none=>show(rfl,rfl)
 |some y=>
  show(?_,by simp?[hX];rw[DY ()]);erw[hX,eC.has];simp only;congr 1;show decide_eq_decide.mpr (by grind)
theorem gJ(e:b.s+b.n=k+1):(hX k b o).has (k+1)=o.isSome:=by
 cases o with
 |none=>erw[hX,eC.has];simp;lia
 |some y=>erw[hX,eC.has];simp;lia
theorem Lx(k b o):(hX k b o).s=b.s:=by cases o<;>rfl
theorem Pc(p0:0<p)(H:b.s+b.n=k+1)(L:nh p w wd T k b)(hr:∀y,o=aF y->∀c,c<wd (k+1)->0<=y c/\y c<p)
 (S:o=aT->w k=bB->∀c,c<wd (k+1)->app (T k) (wd k) (b.v k) c%p=0) (h1:∀y,o=aF y->w k=bB->∀c,c<wd (k+1)->app (T k) (wd k) (b.v k) c%p=y c%p)
 (h2:∀y,o=aF y->w k=aG->∀c,c<wd k->app (T k) (wd<|k+1) y c%p=b.v k c%p):nh p w wd T (k+1) (hX k b o):=by
 have i:=L.n1;show(?_,?_,λI c U a=>?_,λj l O c a=>?_)
 .cases o with
  |none=>show L.n1
  |some y=>change 1<=b.n+1;lia
 .cases o with
  |none=>change b.s+b.n<=k+1+1;lia
  |some y=>change b.s+(b.n+1)<=k+1+1;lia
 .by_cases f:I<=k
  .let(d,z):=VN f H
   rw[d]at U;rw[z];show L.hM I c U a
  .have Y:=gp.mp U
   cases o with
   |none=>show absurd Y.2 (by change ¬(I<b.s+b.n);lia)
   |some y=>
    have:I=k+1:=by have:I<b.s+(b.n+1):=Y.2;lia
    subst this;have e:(hX k b<|some y).v (k+1)=y:=by simp[hX]
    rw[e];show hr y rfl c a
 .by_cases W:j<k
  .have g1:qu w j<=k:=by erw[qu];split<;>lia
   have g2:qi w j<=k:=by erw[qi];split<;>lia
   let(d,z):=VN g1 H;let(g,h):=VN g2 H;rw[d]at O;rw[z,g,h];show L.arr j W O c a
  .have W:j=k:=()
   subst W;let(d,z):=VN (ec j) H;have Z:=gJ (o:=o) H;cases hw:w j with
   |false=>
    have Q:qu w j=j:=by erw[qu];rw[hw];rfl
    have J:qi w j=j+1:=by erw[qi];rw[hw];rfl
    rw[J]at a;rw[Q,J,z,Z];cases o with
    |none=>rw[S rfl hw c a];simp
    |some y=>rw[h1 y rfl hw c a];simp[hX]
   | true=>
    have Q:qu w j=j+1:=by erw[qu];rw[hw];rfl
    have J:qi w j=j:=by erw[qi];rw[hw];rfl
    rw[J]at a;rw[Q,Z]at O;rw[Q,J,d,z,(gp.mpr ())];cases o with
    |none=>cases O
    |some y=>
     have e:(hX j b<|some y).v (j+1)=y:=by simp[hX]
     rw[e,h2 y rfl hw c a];simp
theorem OA(Q:∀c,c<wd (k+1)->0<=y c/\y c<p)(e:w k=aG->∀c,c<wd k->app (T k) (wd<|k+1) y c%p=0):nh p w wd T (k+1) (nD k y):=by
 show(ec _,by change k+1+1<=k+1+1;lia,λY c I a=>?_,λj Z z c a=>?_)
 .rw[QS]at I
  have:=of_decide_eq_true I;subst this;show Q c a
 .rw[QS]at z
  have z:=of_decide_eq_true z;cases hw:w j with
  |false=>
   have J:qu w j=j:=by erw[qu];rw[hw];rfl
   lia
  |true=>
   have J:qu w j=j+1:=by erw[qu];rw[hw];rfl
   have O:qi w j=j:=by erw[qi];rw[hw];rfl
   have U:j=k:=()
   subst U;rw[O]at a;have W:(nD j y).has (qi w j)=bB:=by rw[QS,O];simp
   rw[W,J];change app (T j) _ y c%p=_;rw[e hw c a];simp
def JN(p:Int)(k:Nat)(w:DV)(e:zn eC)(A:Nat->eC)(N r:Nat)(B:Nat->Vc)(l:DX)(nx:Nat->xz Vc)(y:zn Vc):zn eC:=
 (e.filter λb=> !b.has k)++(if w k then (cT N).map (λi=>hX k (fQ p A N r B l i)<|nx i)++y.map (nD k)else y.map (nD k)++(cT N).map λi=>hX k (fQ p A N r B l i)<|nx i)
theorem As(p0:0<p)(I:q8 p w wd T k ji)(hN:(ji.filter λb=>b.has k).length=N)(O:∀j,A j=(ji.filter λb=>b.has k).getD j BD)(H:eH p N r B l)
 (c1 : ∀i y,i<N->nx i=aF y->∀c,c<wd (k+1)->0<=y c/\y c<p) (c2 : ∀y,y∈news->∀c,c<wd (k+1)->0<=y c/\y c<p)
   (d0:∀i,i<N->nx i=aT->w k=bB->∀c,c<wd (k+1)->app (T k) (wd k) ((fQ p A N r B l i).v k) c%p=0)
   (d1:∀i y,i<N->nx i=aF y->w k=bB->∀c,c<wd (k+1)->app (T k) (wd k) ((fQ p A N r B l i).v k) c%p=y c%p)
   (d2:∀i y,i<N->nx i=aF y->w k=aG->∀c,c<wd k->app (T k) (wd<|k+1) y c%p=(fQ p A N r B l i).v k c%p)
   (d3:∀y,y∈news->w k=aG->∀c,c<wd k->app (T k) (wd<|k+1) y c%p=0)
   (s1:∀v,Span p (wd<|k+1) (λg=>(∃i,i<N/\nx i=aF g)\/g∈news) v) (n1:(cT N).countP (λi=>(nx i).isSome)+news.length=wd (k+1)):
   q8 p w wd T (k+1) (JN p k w ji A N r B l nx news):=by
  have E j:j<N->A j∈ji/\(A j).has k=aG:=λQ=>by
   have:A j∈ji.filter λb=>b.has k:=by rw[O j,hB,eW ()];show L6 _
   grind
  have R:=λj Q=>I.ok _ (E j Q).1;have X i c:i<c->c<N->Ord w (A i) (A c):=λd u=>by rw[O i,O c,hB,eW (),hB,eW ()];show(I0.mp I.od i c () () d)
  have U i:i<N->(fQ p A N r B l i).s+(fQ p A N r B l i).n=k+1:=λm=>by rw[si,MS];have d:=gp.mp (E i m).2;have u:=(R i m).le;lia
  have Z b:b∈ji->b.has k=bB->b.s+b.n<=k:=λH hk=>by have d:=(I.ok b H).le;have u:=(I.ok b H).n1;show Nat.not_lt.mp λz=>?_;have:b.has k=aG:=gp.mpr ();lia
  have x b:b∈JN p k w ji A N r B l nx news↔(b∈ji/\b.has k=bB)\/(∃i,i<N/\b=hX k (fQ p A N r B l i) (nx i))\/∃y,y∈news/\b=nD k y:=by
   erw[JN];rw[n5,nN];show or_congr () ?_;cases w k<;>simp?[tL,if_false,if_true,n5,fx,ed]
   .constructor
    .rintro(⟨y,d,u⟩|⟨i,d,u⟩)
     .exact .inr (y,d,u.symm)
     .exact .inl (i,d,u.symm)
    .rintro(⟨i,d,u⟩|⟨y,d,u⟩)
     .exact .inr (i,d,u.symm)
     .exact .inl (y,d,u.symm)
   .constructor
    .rintro(⟨i,d,u⟩|⟨y,d,u⟩)
     .exact .inl (i,d,u.symm)
     .exact .inr (y,d,u.symm)
    .rintro(⟨i,d,u⟩|⟨y,d,u⟩)
     .exact .inl (i,d,u.symm)
     .exact .inr (y,d,u.symm)
  have cnt:∀P:eC->Bool,(JN p k w ji A N r B l nx news).countP P=(ji.filter λb=> !b.has k).countP P+(cT N).countP (λi=>P<|hX k (fQ p A N r B l i)<|nx i)+(news.map<|nD k).countP P:=λP=>by
   erw[JN];rw[List.countP_append];cases w k<;>simp?[tL,if_false,if_true,List.countP_append,D3 (f:=λi=>hX k (fQ p A N r B l i)<|nx i)]
   .rw[Up,Nat.add_comm (List.countP P<|List.map (nD k) news)];rfl
   .rw[Up];rfl
  show(λb aw=>?_,λJ hr v=>?_,λJ hr=>?_,?_)
  .rcases (x b).mp aw with⟨d,u⟩|⟨i,m,rfl⟩|⟨y,hy,rfl⟩
   .have hk:=Z b d u
    have M:=I.ok b d;show(M.n1,(),M.hM,λj Q S c K=>?_);have b4:=gp.mp S;show M.arr j ?_ S c K;have:qu w j>=j:=by erw[qu];split<;>lia
    lia
   .exact Pc p0 (U i m) ((λi m=>FQ p0 H R (λj Q=>(E j Q).2) X m) i m) (λy e=>c1 i y m e) ((d0 i m)) (λy e=>d1 i y m e) λy e=>d2 i y m e
   .exact OA (c2 y hy)<|d3 y hy
  .by_cases W:J<=k
   .refine(I.sp J W v).le λg Y=>?_
    let(b,d,u,rfl):=Y;cases U6:b.has k with
    |false=>show .gen (b,(x b).mpr (.inl (d,U6)),u,rfl)
    |true=>
     have b0:b∈ji.filter λb=>b.has k:=nN.mpr (d,~~~U6);let(i,m,e):=_x b0;have zhh:A i=b:=by rw[O i,hB,eW m];show e
     rw[<-zhh]at u ⊢;show Ep (t:=λi=>zj r B l i) (λi m=>(FN H m).1) (λi c m K=>(FN H m).2 c K) (λi m L=>?_) (λi m L c _=>HL m L) i () u;let(x1,x2):=VN (o:=nx i) W<|U i m;show .gen (_,(x _).mpr (.inr<|.inl (i,m,rfl)),by rw[x1,eU];show L,by rw[x2])
   .have:J=k+1:=()
    subst this;show(s1 v).le λg Y=>?_;rcases Y with⟨i,m,e⟩|Y
    .refine .gen (_,(x _).mpr (.inr<|.inl (i,m,rfl)),?_,?_)
     .rw[gJ (U i m),e];rfl
     .rw[e];simp[hX]
    .exact .gen (_,(x _).mpr (.inr<|.inr (g,Y,rfl)),by rw[QS];simp,rfl)
  .rw[cnt]
   by_cases W:J<=k
   .have F:(news.map<|nD k).countP (λb=>b.has J)=0:=S0.mpr λb H=>by
     let(y,_,rfl):=fx.mp H;rw[QS];simp;lia
    have G:(cT N).countP (λi=>(hX k (fQ p A N r B l i)<|nx i).has J)=(ji.filter λb=>b.has k).countP λb=>b.has J:=by
     have:(ji.filter λb=>b.has k)=(cT N).map A:=by rw[<-jz BD (ji.filter λb=>b.has k),hN];show ll λj _=>(O j).symm
     rw[this,D3];show tX λi m=>?_;rw[(VN (o:=nx i) W<|U i<|ed.mp m).1,eU];rfl
    simp?[F,G,<-I.ct J W,List.countP_eq_countP_filter_add ji (λb=>b.has J) λb=>b.has k];lia
   .have:J=k+1:=()
    subst this;have e0:(ji.filter λb=> !b.has k).countP (λb=>b.has<|k+1)=0:=S0.mpr λb H=>by let(d,u):=nN.mp H;have:=Z b d ();intro z;have:=gp.mp z;lia
    have F:(news.map<|nD k).countP (λb=>b.has<|k+1)=news.length:=by rw[List.countP_eq_length.mpr λb H=>?_,gr];let(y,_,rfl):=fx.mp H;rw[QS];simp
    have G:(cT N).countP (λi=>(hX k (fQ p A N r B l i)<|nx i).has (k+1))=(cT N).countP λi=>(nx i).isSome:=tX λi m=>by rw[gJ (U i<|ed.mp m)]
    simp?[e0,F,G];lia
  .have pO:((cT N).map λi=>hX k (fQ p A N r B l i)<|nx i).Pairwise (Ord w):=by
    rw[L1];show T' (λ{a b} C H h=>?_)<|R0 (n:=N);erw[Ord];simp?[Lx,Lx,si,si];show(X a b h<|ed.mp H)
   have pN:(news.map<|nD k).Pairwise (Ord w):=by rw[L1];show I0.mpr λ_ _ _ _ _=>(λz=>absurd z<|m6<|k+1,λz=>absurd z<|m6<|k+1)
   have so b:b∈(cT N).map (λi=>hX k (fQ p A N r B l i)<|nx i)->b.s<=k:=λH=>by let(i,m,rfl):=fx.mp H;rw[Lx,si];show(gp.mp (E i<|ed.mp m).2).1
   have sn b:b∈news.map (nD k)->b.s=k+1:=λH=>by let(y,_,rfl):=fx.mp H;rfl
   erw[JN];rw[S4,_e.mpr λb H=>by let(d,u):=nN.mp H;have:=Z b d (~~~u);intro z;have:=gp.mp z;lia,D2]
   show _k _ ?_;cases hw:w k with
   |false=>
    simp?[tL,if_false];show List.pairwise_append.mpr (pN,pO,λa C b H=>?_);have d:=sn a C;have u:=so b H;show(λz=>by lia,λ_=>by rw[d];show hw)
   |true=>
    simp?[if_true];show List.pairwise_append.mpr (pO,pN,λa C b H=>?_);have d:=sn b H;have u:=so a C;show(λ_=>by rw[d];show hw,λz=>by lia)
end
theorem VV(J:Pr p)(y:h<=100)(H:w<=lim)(f:DW):
 ∃r B l,Xg [.int p,qh h w f]=aF (.own<|ja r h B)/\eH p h r B l/\∀v,Span p h (dP r B) v↔Span p h (dP w λj i=>f i j) v:=by
 show dj λz=>?_;let(r,B,l,e,a,b):=kB J y H .T _;show z ?_;have I:=jf;show(r,B,l,?_,a,b);simp?[mu]at e;have o:=JZ f (():h<=lim) H;erw[qh]at o ⊢;simp[Xg,ju,z7,o,e]
theorem df(P:Nat->Ctx->Prop):∀B H k γ,P k γ->(∀i d γ,B[i]? = aF d->P (k+i) γ->∃γ',(kM T d γ).bind F=aF (.next γ')/\P (k+i+1) γ')->
 ∃γ',P (k+B.length) γ'/\vj T F (B++H) γ=vj T F H γ'
 |[],H,k,γ,h,_=>(γ,h,rfl)
 | d::B,H,k,γ,h,step=>by
  let(a,e,f):=step 0 d γ rfl h;let(γ',g,y):=df P B H (k+1) a (~~~f) (λi b z j l=>by have:=step (i+1) b z (~~~j) ();rw[show k+(i+1)+1=k+1+i+1 by lia]at this;show this)
  show(γ',by rw[show k+_=k+1+B.length by simp;lia];show g,?_);simp?[L8,xy];cases eb:kM T d γ with
  |none=>rw[eb]at e;simp at e
  |some I=>
   rw[eb]at e;simp?[eK]at e ⊢;rw[e];show y
theorem mw(n:Nat)(v:Vc):xB (zU n v)=(cT n).map λ(i:Nat)=>D.tup [.int i,.int (v i)]:=by
 erw[xB]
 simp_all
theorem Zh(J:n<=lim)(v:Vc)(L:a<n)(B:∀i,i<a->v i=0)(H:v a≠0):xI [.tup (zU n v)]=aF (.val<|.int a):=by
 have d:zI (.tp [0,1]) (sB<|zF kA (zf 1)<|sI 0) (zf 0) [Cell.no,Cell.no] ((cT n).map λ(i:Nat)=>D.tup [.int i,.int (v i)])=aF (((cT n).filter λi=> !decide (v i=0)).map λ(i:Nat)=>D.int i):=by show jB _ _ _ λi g=>(_,rfl,?_,λ_=>rfl);simp
 cases hf:(cT n).filter λi=> !decide (v i=0)with
 |nil=>simp_all
 | cons b rest=>
  let(f,y,I):=Xv hf;have e:b=a:=by
   rcases _l a b with z|z|z
   .exact absurd (~~~(I a z)) H
   .exact z.symm
   .exact absurd (B b z) (~~~y)
  subst e;rw[hf]at d;simp[xI,ju,z7,mw,J,jj,d5,d]
theorem zjy(I:a<n)(v z:Vc)(x:Int)(H:z a=x)(B:∀i,i<n->i≠a->z i=v i):(zU n v).set a (.int x)=zU n z:=by
 apply zt;intro i;rw[S8];by_cases b:i<n
 .by_cases e:a=i
  .simp_all
  .have:=B i b (ew e)
   simp_all
 simp_all
def mP(w:Nat)(B:Nat->Vc)(l:DX)(r:Nat):Vc:=λj=>zo (λk=>if l k=j then B k w else 0) r
section
variable{p:Int}{h w r:Nat}
theorem lS{l:DX}(B:∀k m,k<m->m<r->l k<l m){k m:Nat}(y:k<r)(I:m<r)(e:l k=l m):k=m:=by
 rcases _l k m with z|z|z
 .have:=B k m z I;lia
 .exact z
 .have:=B m k z y;lia
def aug(w:Nat)(f:DW)(b:Vc):Nat->Vc:=λi j=>if j<w then f i j else b i
theorem ziA(U:w+1<=lim)(hb:eH p (w+1) r B l)(hs:s<=r)(h1:∀k,k<s->l k<w)(S:zn D)(L y z:Cell):
 ∃c5 H,vj (.nm 5) yu (ja s (w+1) B++S) [L,y,z,vI w,.own<|zU w λ_=>0,.no,.no]=vj (.nm 5) yu S [L,y,z,vI w,.own<|zU w<|mP w B l s,c5,H]:=by
 show dj λW=>?_;let(j,(c5,H,rfl),e):=df (T:=.nm 5) (F:=yu) (λt f=>∃c5 H,f=[L,y,z,vI w,.own<|zU w<|mP w B l t,c5,H]) (ja s (w+1) B) S 0 [L,y,z,_,.own<|zU w λ_=>0,.no,.no]
  (.no,.no,by rfl) (by
   rintro k d f a ⟨c5,H,rfl⟩;rw[A4];have J:= ~~~((kG.mp a).1)
   have Y:=by simp[J]at a;show a.symm
   subst Y;have I:k<r:=()
   have O:=h1 k J;show(_,?_,.val<|.tup<|zU (w+1)<|B k,vI<|l k,rfl);have Q:¬((l k)=(w:Int)):=()
   have Z:¬l k=w:=()
   have h:w<w+1:=()
   simp[yu,jd,Zh U (B k) () (λi b=>hb.ij k i I b) (by rw[hb.one k I];decide),Q,Z,O,h,(zjy O (mP w B l k) (mP w B l<|k+1) (B k w) (by
    erw[mP];simp?[zo,if_true];rw[zB λm g=>by rw[DY λe=>by have:=hb.mono m k g I;lia],zX]
    lia) (λi b Q=>by
    erw[mP];simp?[zo];lia))])
 show W ?_;rw[mB]at e;show(c5,H,?_);rw[e];rw[A4]
theorem LW(w:Nat)(f:DW)(b:Vc)(i:Nat):zU w (f i)++[.int (b i)]=zU (w+1) (aug w f b i):=by
 erw[zU];simp?[sD,n6];congr 1
 .exact ll λj y=>by simp[aug,ed.mp y]
 .simp[aug]
theorem YR(H:Pr p)(S:h<=190)(hw:w<=190)(f:DW)(b:Vc):
 ∃r B l s,eH p (w+1) r B l/\(∀v,Span p (w+1) (dP r B) v↔Span p (w+1) (dP h<|aug w f b) v)/\s<=r/\(∀k,k<s->l k<w)/\(∀k,s<=k->k<r->w<=l k)/\
  Zu [.int p,qh h w f,.tup (zU h b)]=aF (.val<|if s<r then .dw else .tup (zU w<|mP w B l s)):=by
 have P:=jf;have I:h<=lim:=()
 have J:w<=lim:=()
 have y:w+1<=lim:=()
 let(r,B,l,e,a,O):=wj H (():w+1<=200) I .L _;let(s,m,n,j):=Zl w a.mono;show(r,B,l,s,a,O,m,n,j,?_);have g:zI (.tp [0,1]) jb (zF qv (zf 0)<|kN<|zc (zf 1) zH) [Cell.no,Cell.no] ((cT h).map λi=>D.tup [.tup (zU w<|f i),.int (b i)])=aF (ja h (w+1)<|aug w f b):=by erw[ja];show zk _ _ λi A=>zm rfl rfl ?_;simp[qv,y,LW]
 have Q:XS (ja h w f) (zU h b)=(cT h).map λi=>D.tup [.tup (zU w<|f i),.int (b i)]:=by erw[XS,ja,zU];rw[A8];simp
 have U:d5 w (D.int 0)=zU w λ_=>0:=by rw[wJ];rfl
 have u:((w+1:Nat))=(w:Int)+1:=()
 simp?[mu]at e;rw[u]at e;let(d,x):∃d,r=s+d:=(r-s,());have C:ja r (w+1) B=ja s (w+1) B++ja d (w+1) λk=>B (s+k):=by erw[ja];simp?[x,DT,n6,gj];rfl
 let(F,G,W):=ziA y a m n _ _ _ _;have Y:qc (qh h w f)=aF _:=rfl;have Z:Zu=ju 7 (zW _<|zW (yG 4<|Ib (jq<|xY<|zc (sI 0) zH)<|zf 3)<|zW (XU (zR<|zN<|jY<|jx qJ<|zc (zf 0)<|zc (zF qv (zf 3)<|sI 1)<|zc (jY<|zL (eZ (cR (zh 1)<|sI 2)<|zf 2) (.tp [0,1]) 2 [] jb (zF qv (zf 0)<|kN<|zc (zf 1) zH)) zH) (.nm 5) yu)<|qo<|jt<|zh 4):=rfl;rw[Z];simp[ju,z7,jd,Y,J,Q,I,jj,d5,g,e];rw[U,C,W];by_cases z:s<r
 .
  have o:d=1:=by
   rcases fY 1 d with q|q
   .have K:=a.mono s (s+1) () ()
    have M:=j s (ec _) z;have N:=a.lt (s+1) ();lia
   .lia
  subst o;have E:l s=w:=by have:=j s (ec _) z;have:=a.lt s z;lia
  have one:ja 1 (w+1) (λk=>B<|s+k)=[_]:=rfl;simp?[one,xy];simp[yu,jd,Zh y (B s) (():w<w+1) (λi A=>a.ij s i z ()) (by have:=a.one s z;lia),z]
 .have t:d=0:=()
  subst t;have zero:ja 0 (w+1) (λk=>B<|s+k)=[]:=rfl;rw[zero];simp[vj,z]
end
section
theorem rS(h w f):qc (qh h w f)=aF (.T,[.int (h:Int),.int (w:Int),.tup (ja h w f)]):=rfl
theorem zjz(h w f):(ja h w f).length=h:=by simp[ja]
theorem zhI(s w:Nat)(f:DW):ja (s+1) w f=ja s w f++[.tup (zU w<|f s)]:=lb _ _
end
theorem Mb(h:∀k,k<r->l k≠j):mP w B l r j=0:=by erw[mP];rw[zB λk y=>DY<|h k y,zX]
theorem Rb(H:eH p n r B l)(y:k<r):mP w B l r (l k)=B k w:=by erw[mP];rw[zV y λm a z=>DY λe=>z<|lS H.mono a y e,DJ rfl]
theorem Cf{p:Int}{h w:Nat}{f:DW}{b y:Vc}(I:∀i,i<h->zo (λj=>f i j*y j) w%p=b i%p){v:Vc}(J:Span p (w+1) (dP h<|aug w f b) v):(v w-zo (λj=>v j*y j) w)%p=0:=by
 induction J with
 |@zero v d=>
  have e:zo (λj=>v j*y j) w%p=zo (λ_=>0) w%p:=zZ λj z=>by rw[eG,d j ()];simp
  rw[o7,e,d w (),zX];simp
 | @step v a g c O Z k Q=>
  let(i,m,rfl):=O;have l:zo (λj=>v j*y j) w%p=(zo (λj=>a j*y j) w+c*zo (λj=>f i j*y j) w)%p:=by
   rw[<-jS,<-jN];show zZ λj z=>?_;rw[eG,k j (),<-eG];have:aug w f b i j=f i j:=by simp[aug,z]
   simp?[this,Nj,oX]
  have U:v w%p=(a w+c*b i)%p:=by
   rw[k w ()];have:aug w f b i w=b i:=by simp[aug]
   rw[this]
  have W:(c*zo (λj=>f i j*y j) w)%p=(c*b i)%p:=by rw[eG,I i m,<-eG]
  rw[o7,l,U,<-o7];have Y:(a w+c*b i-(zo (λj=>a j*y j) w+c*zo (λj=>f i j*y j) w))=(a w-zo (λj=>a j*y j) w)+(c*b i-c*zo (λj=>f i j*y j) w):=()
  rw[Y,ix,Q,o7,W];simp
theorem Ci(H:Pr p)(U:h<=190)(L:w<=190)(f:DW)(b y:Vc)(J:∀i,i<h->0<=b i/\b i<p)(W:∀i,i<h->zo (λj=>f i j*y j) w%p=b i):
 ∃x:Vc,Zu [.int p,qh h w f,.tup (zU h b)]=aF (.val<|.tup<|zU w x)/\(∀j,0<=x j/\x j<p)/\∀i,i<h->zo (λj=>f i j*x j) w%p=b i:=by
 show dj λY=>?_;let(r,B,l,s,d,O,P,o,K,Q):=YR H U L f b;show Y ?_;have Z:¬s<r:=λz=>by
  have M:=d.lt s z;have N:=K s (ec _) z;have C:l s=w:=()
  have q:=Cf (λi a=>by rw[W i a,sd (J i a).1 (J i a).2])<|(O<|B s).mp (.gen (s,z,rfl));have n:=d.one s z;rw[C]at n;have F:zo (λj=>B s j*y j) w=0:=by rw[zB (g:=λ_=>0) λj G=>by rw[d.ij s j z ()];simp];show zX _
  simp?[n,F,Int.sub_zero,H.one]at q;lia
 rw[DY Z]at Q;have E:s=r:=()
 subst E;show(_,Q,λj=>?_,λi a=>?_)
 .by_cases e:∃k,k<s/\l k=j
  .let(k,I,rfl):=e
   rw[Rb d I];show d.hM k w I ()
  .rw[Mb λk I A=>e (k,I,A)];show(Int.le_refl _,H.pos)
 .have m:=XO d ((O _).mpr (.gen (i,a,rfl))) w ()
  have t:aug w f b i w=b i:=by simp[aug]
  rw[t,sd (J i a).1 (J i a).2]at m;rw[m];congr 1;erw[mP];rw[zB λj _=>(jS _ _ _).symm,xU];show zB λk I=>?_;rw[zV (o k I) λj G u=>by rw[DY (ew u)];simp,DJ rfl];simp?[aug,DJ (o k I)]
def wV(wd:DX)(b:eC):zn D:=(cT b.n).map λi=>D.tup<|zU (wd<|b.s+i)<|b.v<|b.s+i
def xD(wd:DX)(b:eC):D:=.tup [.int b.s,.tup (wV wd b)]
@[simp] theorem zjb(wd b):(wV wd b).length=b.n:=by simp[wV]
theorem lW(h:i<b.n):(wV wd b)[i]? = aF (.tup<|zU (wd<|b.s+i)<|b.v<|b.s+i):=by simp[wV,h]
@[simp] theorem zm5(wd b):qc (xD wd b)=aF (.T,[.int b.s,.tup (wV wd b)]):=rfl
section
variable{wd:DX}
theorem Vm(e:1<=b.n)(z:b.s+b.n<=100):qf [xD wd b]=aF (.val<|.tup [.int b.s,.int ((b.s+b.n-1:Nat))]):=by simp[qf,ju,z7,xD,d5];omega
theorem vU(e:b.s+b.n<=100)(r:Nat):j9 [xD wd b,.int r]=aF (.val<|.bl<|b.has r):=by
 by_cases h:b.s<=r
 .by_cases a:r<b.s+b.n
  .have:r<(b.s:Int)+b.n:=()
   simp[j9,ju,z7,xD,d5,eC.has,h,a,this]
  .have:¬(r<(b.s:Int)+b.n):=()
   simp[j9,ju,z7,xD,d5,eC.has,h,a,this]
 .simp[j9,ju,z7,xD,d5,eC.has,h]
theorem Ja{N:Nat}{A:Nat->eC}(e:∀j,j<N->(A j).s+(A j).n<=100)(z:N<=lim)(r:Nat):
 xA [.lst ((cT N).map λj=>xD wd<|A j),.int r]=aF (.own<|((cT N).filter λj=>(A j).has r).map λj=>D.tup<|zU (wd r)<|(A j).v r):=by
 simp[xA,ju,z7,d5,L8,Jg,qc,z];rw[jB _ _ _ λj I=>(_,rfl,?_,λd=>?_)]
 .rfl
 .simp[jj,(vU (wd:=wd) (e j<|ed.mp I) r)]
 .let(b,f):=gp.mp d
  let(i,rfl):=RZ b;have a:i<(A j).n:=()
  have y:=lW (wd:=wd) a;simp[jj,xD,a,y];rw[show _-_=(i:Int)by lia,yt,DJ a];show y
theorem Xb(g:Nat->Vc)(z:q<=lim)(y:h<=lim):yA [.int h,.lst (ja q h g)]=aF (.val<|qh h q λi j=>g j i):=by have e:=JZ g z y;erw[qh]at e;simp[yA,ju,z7,d5,z,e];rfl
theorem lV(h:Nat)(u:Nat->Vc)(L:zn Nat):(L.map λj=>D.tup<|zU h<|u j)=ja L.length h λi=>u (L.getD i 0):=by
 erw[ja]
 conv=>lhs;rw[<-jz 0 L]
 rw[gj];rfl
theorem Er(u:Nat->Int)(L:zn Nat):(L.map λj=>D.int<|u j)=zU L.length λi=>u (L.getD i 0):=by
 erw[zU]
 conv=>lhs;rw[<-jz 0 L]
 rw[gj];rfl
theorem Zk(P:DV)(g:Nat->Int):∀N,zo (λi=>g<|((cT N).filter P).getD i 0) ((cT N).filter P).length=zo (λj=>if P j=aG then g j else 0) N
 |0=>rfl
 | N+1=>by
  rw[sD,S4];change _=zo _ N+_;rw[<-(Zk P g N)];cases hP:P N with
  |false=>simp[hP]
  | true=>
   have e:([N].filter P)=[N]:=by simp[hP]
   simp?[e,n3,H8];change zo _ _+_=_;simp?[if_true];congr 1
   .refine zB λi a=>?_
    simp[hB,o3 a]
   .simp[hB,hP]
end
section
variable{wd:DX}{N m:Nat}{A:Nat->eC}{p:Int}{w:DV}{T:DQ}{t:Vc}
theorem BI:XS (zU N t) ((cT N).map λj=>xD wd<|A j)=(cT N).map λj=>D.tup [.int (t j),xD wd (A j)]:=by
 erw[XS,zU];rw[List.zip_map,gj];have e:(cT N).zip (cT N)=(cT N).map λi=>(i,i):=by rw[List.zip_eq_zipWith,List.zipWith_self]
 simp?[e,gj];rfl
theorem WH(B:Pr p)(e:∀j,j<N->(A j).s+(A j).n<=100)(W:N<=60)(H:m<=5)(J:∀k,wd k<=60)(Y:r<=m)(O:∀j i,j<N->(A j).has r=aG->i<wd r->0<=(A j).v r i/\(A j).v r i<p):
 yX [qE p m w wd T,.lst<|(cT N).map λj=>xD wd<|A j,.tup<|zU N t,.int r]=aF (.val<|.tup<|zU (wd r)<|la p A N t r):=by
 have Z:=jf;have o:=B.le;have l:=J r;have a:=Ja (wd:=wd) e () r;have Q:=λi=>Zk (λj=>(A j).has r) (λj=>(A j).v r i*t j) N;have U:∀j∈(cT N).filter (λj=>(A j).has r),j<N/\_:=λj h=>~~~h
 have g:=H9 (λj=>(A j).has r)<|cT N;have I:zI (.tp [0,1]) (sB<|zD j9<|zc (zf 1)<|zc (zf 2) zH) (zf 0) [.no,.no,vI r] ((cT N).map λj=>D.tup [.int (t j),xD wd (A j)])=_:=jB (λj=>(A j).has r) _ _ λj y=>(_,rfl,by simp[vU (e j<|ed.mp y) r],λ_=>rfl);rw[lV (wd r) _]at a;rw[Er]at I;generalize (cT N).filter _=F at *;rw[pq]at g;have z:=aA (h:=wd r) (w:=F.length) .L (λi j=>(A<|F.getD j 0).v r i) (λi=>t<|F.getD i 0) B.pos () () λi j f y=>by let(b,d):=U (F.getD j 0) (by simp[y]);have:=O _ i b d f;lia
 rw[show(λi=>_%p)=la p A N t r from funext λi=>by rw[Q];erw[la];congr 1;show zB λj _=>by rw[nj]]at z
 simp?[mu]at z;show zY (by simp[-hB,jd,z7,jj,d5,BI,I,show N<=lim by lia,qE,a,Xb (q:=F.length) (h:=wd r) _ () (),z,show r<m+1 by lia])
theorem Eo(S:Pr p)(H:∀j,j<N->(A j).s+(A j).n<=m+1)(z:N<=60)(L:m<=5)(I:∀k,wd k<=60)(J:∀j r i,j<N->(A j).has r=aG->i<wd r->0<=(A j).v r i/\(A j).v r i<p)(B:a<N)(O:∀i,i<a->t i=0)(Q:t a≠0):
 az [qE p m w wd T,.lst<|(cT N).map λj=>xD wd<|A j,.tup (zU N t)]=aF (.val<|xD wd<|F2 p A N t a):=by
 have Z:=jf;have h:=H a B;have b:zI (.nm 0) jb (zD yX<|zc (zf 1)<|zc (zf 2)<|zc (zf 3)<|zc (zF qv (cR (zh 4)<|sI 0)<|zf 0) zH) [.no,.val<|qE p m w wd T,.val<|.lst<|(cT N).map λj=>xD wd<|A j,.val<|.tup<|zU N t,.val (xD wd<|A a)] ((cT (A a).n).map λ(i:Nat)=>D.int i)=aF (wV wd<|F2 p A N t a):=by
  erw[wV];show zk _ _ λi d=>zm rfl rfl ?_;have d:=ed.mp d;have e:=WH (T:=T) (w:=w) (t:=t) S (λj y=>by have:=H j y;lia) z L I (r:=(A a).s+i) () λj c y U g=>J j _ c y U g;have W:(((A a).s+i:Nat))=((A a).s)+(i:Int):=()
  rw[W]at e;simp[e];rfl
 have f:(A a).n<=lim:=()
 have Y:inR ((A a).n)=aG:=decide_eq_true ();rw[show((cT (A a).n).map _)=zU (A a).n λi=>i from rfl]at b;show zY ?_;simp[jd,z7,d5,Zh () t B O Q,B,jj,qb,Y,f,b,zjb,f];rfl
end
theorem rO(f g:DW)(e:0<p)(W:h<=400)(B:m<=400)(H:w<=400)(J:∀i j,i<m->j<w->0<=g i j/\g i j<100):
 xk [.int p,qh h m f,qh m w g]=aF (.val<|qh h w λi j=>zo (λk=>f i k*g k j) m%p):=by
 have Y:=jf;have d:m<=lim:=()
 have z:w<=lim:=()
 have I:=rS m w g;let γ:Cell->Cell->Cell->Ctx:=λa b c=>[vI p,.val<|qh h m f,.val<|qh m w g,a,b,c];let N:D:=.lst (Lb w m λj k=>g k j);let R:=λi j=>zo (λk=>f i k*g k j) m%p;have l j:j<w->zI (.nm 0) jb (cR (zh 0)<|zf 1) [Cell.no,vI j] (ja m w g)=aF (zU m λk=>g k j):=λy=>by rw[z9];erw[ja];show zk _ _ λi A=>zm rfl rfl (by simp[y,zU])
 have n:zI (.nm 0) jb (jY<|zL (zR<|zN<|cR (zh 1)<|sI 2) (.nm 0) 1 [0] jb (cR (zh 0)<|zf 1)) [Cell.no,Cell.val (qh m w g)] (zU w λi=>i)=aF (Lb w m λj k=>g k j):=by erw[Lb];show zk _ _ λj y=>zm rfl rfl (by simp[I,fX,d,jj,l j (ed.mp y)])
 have r:Tx (z7 6 [.int p,qh h m f,qh m w g])=aF (.next<|γ (.val N) .no .no):=by have O:inR w=aG:=kP () ();simp[Tx,z7,d5,I,fX,O,qb,z,jj,n,γ,N]
 have o i:zI (.nm 0) jb (zF yL (Mi<|jq<|zL (eZ (zf 2)<|zf 0) (.tp [0,1]) 2 [] jb (zF vE (zf 0)<|zf 1))<|zf 1) [Cell.no,vI p,Cell.val (.tup<|zU m<|f i)] (Lb w m λj k=>g k j)=aF (zU w<|R i):=by
  rw[z9 w];erw[Lb];show zk _ _ λj y=>zm rfl rfl ?_;have Q:zI (.tp [0,1]) jb (zF vE (zf 0)<|zf 1) [Cell.no,Cell.no] ((cT m).map λk=>D.tup [.int (f i k),.int (g k j)])=aF (zU m λk=>f i k*g k j):=by
   show zk _ _ λk U=>zm rfl rfl (by
    have b:=J k j (ed.mp U)<|ed.mp y;have c:mJ (f i k) (g k j)=aG:=mI _ _ () ();simp[c])
  simp[(XR m (f i) λk=>g k j),d,jj,Q,Jo _ m,e,R]
 let(_,q,x,rfl):=Jd (T:=.nm 5) (F:=ltB) (g:=λi=>D.tup<|zU m<|f i) (λs u=>∃c,u=γ (.val N) (.own<|ja s w R) c) h (_,rfl) (by
  rintro s C _ ⟨c,rfl⟩;have t:s<lim:=()
  show(_,γ (.val N) (.own<|ja (s+1) w R)<|.val<|.tup<|zU m<|f s,rfl,by simp[ltB,γ,N,z,jj,o,zjz,t,zhI],_,rfl))
 rw[xk];show zY (zx r (zx rfl (zx (by
  assumption) (by rfl))))
theorem gM(b:Bool):ei (.str (jW (f6 b))) (.str "r")=aF (.bl (!b)):=by cases b<;>kernel_rfl
section
abbrev FT(p:Int)(m:Nat)(w:DV)(wd:DX)(T f g:DQ)(c6 c7 c8 c9 c10:Cell):Ctx:=[.val (qE p m w wd T),.val (.lst (yF (m+1) wd f)),.val (.lst (yF (m+1) wd g)),vI p,.val (.tup (zU (m+1) λk=>(wd k:Int))),.val (.tup (xt m w wd T)),c6,c7,c8,c9,c10]
theorem zj8(h:k<n)(wd:DX)(f:DQ):(yF n wd f)[k]? = aF (qh (wd k) (wd k)<|f k):=by erw[yF];simp[h]
theorem zjP(I:0<p)(L:p<=7)(H:m<=5)(J:∀k,wd k<=60)(Q:∀k i j,k<m->i<fm w wd k->j<eX w wd k->0<=T k i j/\T k i j<p)(U:∀k i j,k<m+1->i<wd k->j<wd k->0<=g k i j/\g k i j<p):
 qO [qE p m w wd T,.lst<|yF (m+1) wd f,.lst (yF (m+1) wd g)]=aF (.val<|qE p m w wd<|QC p w wd f g T):=by
 have G:=jf;have B:2<=lim:=()
 let V:=QC p w wd f g T;let γ:=FT p m w wd T f g;show dj λW=>?_;let(_,q,n,o,l,d,rfl):=Jd (T:=.tp [7,8]) (F:=P0) (g:=λk=>D.tup [.int k,vX w wd T k]) (λs e=>∃n o l d,e=γ (.own<|xt s w wd V) n o l d) m (_,_,_,_,rfl) (by
  rintro s x _ ⟨n,o,l,d,rfl⟩;have A:=gW w x;have r:qc (vX w wd T s)=aF (.T,[.str (jW<|f6<|w s),qh (fm w wd s) (eX w wd s) (T s)]):=rfl;have C:s<lim:=()
  have bE:=J<|qi w s;have E:=J<|qu w s;have t:=JM w wd s;have y:=Xh w wd s;have Y:=rO (h:=wd<|qi w s) (m:=wd<|qi w s) (w:=wd<|qu w s) (f<|qi w s) (T s) I () () () λi j u z=>by have:=Q s i j x (by rw[t];show u) (by rw[y];show z);lia
  have O:=rO (h:=wd<|qi w s) (m:=wd<|qu w s) (w:=wd<|qu w s) (λi b=>zo (λa=>f (qi w s) i a*T s a b) (wd<|qi w s)%p) (g<|qu w s) I () () () λi j u z=>by have:=U (qu w s) i j A u z;lia
  rw[show(λi j=>zo (λb=>(zo (λa=>f (qi w s) i a*T s a b) (wd<|qi w s)%p)*g (qu w s) b j) (wd<|qu w s)%p)=V s by
   funext i j;simp?[V,QC,nj]]at O
  let e:=γ (.own<|xt s w wd V) (vI s)<|.val<|vX w wd T s;show(e l d,γ (.own<|xt (s+1) w wd V) (vI s) (.val<|vX w wd T s) (vI<|qu w s)<|.val<|.int<|qi w s,rfl,zx (γ':=e (vI<|qu w s) d) ?_ (zx (γ':=e (vI<|qu w s)<|.val<|.int<|qi w s) ?_ ?_),_,_,_,_,rfl)
  .rw[<-(Bj w s)]
   simp[e,γ,FT,r,fX,Hi]
  .rw[<-(Lz w s)]
   simp[e,γ,FT,r,fX,gM]
  .rw[Bn,show vX w wd V s=.tup [.str (jW<|f6<|w s),qh (wd<|qi w s) (wd<|qu w s) (V s)]by erw[vX];rw[t,y]]
   simp[e,γ,FT,r,yt,show fX 2 0=aF 0 from rfl,show fX 2 1=aF 1 from rfl,AE w x,A,zj8,t,y,Y,O,B,C])
 show W ?_;have Z:M' (γ (.own []) .no .no .no .no)=aF (.next<|γ (.own<|xt m w wd V) n o l d):=by change XU _ _ P0 _=_;simp?[YL,show Wc (zf 5) (γ (.own []) .no .no .no .no)=aF ((cT m).map λ(k:Nat)=>D.tup [.int k,vX w wd T k])from congrArg aF (vB m _)];show q
 rw[qO];show zY (zx rfl<|zx rfl<|zx Z<|by rfl)
end
section
variable{wd:DX}{N m k r:Nat}{A:Nat->eC}
theorem mj(l:DX)(g:Nat->D)(i:Nat):∀(L:zn Nat),mn (L.map λj=>D.int<|(l j:Nat)) (L.map g) i=(L.find? λj=>l j==i).map g
 |[]=>rfl
 | j::L=>by
  simp?[mc,mn,vl];by_cases h:l j=i
  .simp[h]
  .rw[DY (),(mj l g i L)]
   have:(l j==i)=bB:= ~~~h
   rw[this]
theorem cU(l:DX):∀L:zn Nat,WT (L.map λj=>D.int<|(l j:Nat))=aF (L.map λj=>((l j):Int))
 |[]=>rfl
 |j::L=>by simp[WT,cU l L]
theorem zjh(e:eH p N r B l)(y:r<=lim):Fk ((cT r).map λj=>D.int<|(l j:Nat)) ((cT r).map λj=>D.tup<|zU N<|B j)=aF (.hV ((cT r).map λj=>D.int<|(l j:Nat))<|(cT r).map λj=>D.tup<|zU N<|B j):=by erw[Fk];rw[cU];dsimp only;rw[DJ];show(by simp,?_,~~~y);rw[List.nodup_iff_pairwise_ne,L1];show T' (λ{a b} d z h=>?_) R0;have:=e.mono a b h<|ed.mp z;lia
theorem aO(f g:Nat->D):∀L:zn Nat,Xi (L.map λj=>D.tup [f j,g j])=aF (L.map f,L.map g)
 |[]=>rfl
 |j::L=>by simp[Xi,aO f g L]
theorem dO(h:k<(xt m w wd T).length):(xt m w wd T)[k]=vX w wd T k:=by simp[xt]
theorem YG(w wd T k):qc (vX w wd T k)=aF (.T,[.str (jW<|f6<|w k),qh (fm w wd k) (eX w wd k) (T k)]):=rfl
theorem zhH:xB ((cT N).map λj=>xD wd<|A j)=(cT N).map λ(i:Nat)=>D.tup [.int i,xD wd (A i)]:=by
 erw[xB]
 simp_all
def Me(p:Int)(w:DV)(wd:DX)(T:DQ)(k:Nat)(u:Vc):Prop:=if w k=aG then Span p (wd k) (dP (wd<|k+1) λj i=>T k i j) u else xv p (wd<|k+1) (wd k) (T k) u
theorem ziz(H:Pr p)(z:∀k,wd k<=16)(w)(T)(k:Nat):∃q g,q<=100/\(∀u,Span p (wd k) (dP q g) u↔Me p w wd T k u)/\
 (if w k=aG then Xg [.int p,qh (fm w wd k) (eX w wd k) (T k)]=aF (.own<|ja q (wd k) g)else wc [.int p,qh (fm w wd k) (eX w wd k) (T k)]=aF (.own<|ja q (wd k) g)):=by
 have U:=jf;have I:=z k;have W:=z<|k+1;have O:∀{r n:Nat} {B:Nat->Vc} {l:DX},eH p n r B l->r<=n:=λ{r n B l} a=>by
  have mono:∀k,k<r->k<=l k:=by
   intro k
   induction k with
   |zero=>lia
   |succ k Q=>intro I;have:=Q ();have:=a.mono k (k+1) () I;lia
  cases r with
  |zero=>lia
  |succ J=>have:=mono J ();have:=a.lt J ();lia
 cases hw:w k with
 |true=>
  have b:fm w wd k=wd k:=by erw[fm];rw[hw];rfl
  have y:eX w wd k=wd (k+1):=by erw[eX];rw[hw];rfl
  let(r,B,l,e,a,d):=VV H (h:=wd k) (w:=wd<|k+1) () ()<|T k;show(r,B,by have:=O a;lia,λu=>by erw[Me];rw[hw,DJ rfl];show d u,?_);rw[DJ rfl,b,y];show e
 |false=>
  have b:fm w wd k=wd (k+1):=by erw[fm];rw[hw];rfl
  have y:eX w wd k=wd k:=by erw[eX];rw[hw];rfl
  let(q,K,l,s,e,a,d,_):=wb H (h:=wd<|k+1) (w:=wd k) () ()<|T k;show(q,K,(),λu=>by erw[Me];rw[hw,DY ()];show d u,?_);rw[DY (),b,y];show e
theorem ziD(H:Pr p)(S:∀j,j<N->(A j).s+(A j).n<=m+1)(hk:∀j,j<N->(A j).has k=aG)(a2:k<m)(hN:N<=16)(hm:m<=5)(O:∀k,wd k<=16)(hv:∀j r i,j<N->(A j).has r=aG->i<wd r->0<=(A j).v r i/\(A j).v r i<p):
 ∃r B l,eH p N r B l/\(∀t,Span p N (dP r B) t↔Me p w wd T k (app (λi j=>(A j).v k i) N t))/\
  YS [qE p m w wd T,.int k,.lst ((cT N).map λj=>xD wd<|A j)]=aF (.own<|(cT N).map λi=>xD wd<|fQ p A N r B l i):=by
 have X:=jf;show dj λM=>?_;let(q,g,G,f,Q):=ziz H O w T k;have P:=O k;let(r,B,l,C,y,K):=J1 H (h:=wd k) (w:=N) () () G _ g;show M ?_;show(r,B,l,y,λt=>(K t).trans (f _),?_);have J:N<=lim:=()
 have o:k<m+1:=()
 have zni:=K7 y.mono y.lt;have U:r<=lim:=()
 have W:=Ja (wd:=wd) (A:=A) (λj z=>by have:=S j z;lia) J k;rw[(List.filter_eq_self.mpr λj z=>hk j<|ed.mp z)]at W;have u:xA [.lst ((cT N).map λj=>xD wd<|A j),.int k]=aF (.own<|ja N (wd k) λj=>(A j).v k):=W;have E:zI (.nm 0) jb (kN<|zc (zD xI<|zc (zf 0) zH)<|zc (zf 0) zH) [.no] (ja r N B)=aF ((cT r).map λj=>D.tup [.int ((l j:Nat)),.tup (zU N<|B j)]):=by erw[ja];show zk _ _ λj z=>zm rfl rfl ?_;have z:=ed.mp z;simp[(Zh J (B j) (y.lt j z) (λi a=>y.ij j i z a)<|by rw[y.one j z];decide)]
 let b:D:=.hV ((cT r).map λj=>D.int<|(l j:Nat)) ((cT r).map λj=>D.tup<|zU N<|B j);let L:D:=.lst ((cT N).map λj=>xD wd<|A j);have Y:zI (.tp [0,1]) jb (fw (sB<|Nh (zf 0)<|zf 4) (zD az<|zc (zf 2)<|zc (zf 3)<|zc (Rv (zf 4)<|zf 0) zH)<|zf 1) [.no,.no,.val<|qE p m w wd T,.val L,.val b] ((cT N).map λ(i:Nat)=>D.tup [.int i,xD wd (A i)])=aF ((cT N).map λi=>xD wd<|fQ p A N r B l i):=by
  show zk _ _ λi a=>zm rfl rfl ?_;have a:=ed.mp a;have I:=mj l (λj=>D.tup<|zU N<|B j) i<|cT r;have x:(cT r).find? (λj=>l j==i)=ik r l i:=rfl;rw[x]at I;erw[fQ];cases hx:ik r l i with
  |none=>
   rw[hx]at I;simp[b,Nh,I]
  |some j=>
   rw[hx]at I;let(d,F):=kg hx;have e:=Eo (T:=T) (w:=w) H S () hm (λk=>by have:=O k;lia) hv a (λc R=>y.ij j c d ()) (by rw[<-F,y.one j d];decide);simp[b,Nh,Rv,I,L,e]
 dsimp?[L,b]at Y;have Z:=gM<|w k;show zY ?_;cases hw:w k<;>simp[hw]at Q Z<;>simp[jd,z7,d5,ZE,YG,dO,a2,hw,Z,Q,o,u,Xb (h:=wd k) (λj=>(A j).v k) J (),C,jj,E,U,aO (λj=>D.int<|(l j:Nat)) (λj=>D.tup<|zU N<|B j)<|cT r,zjh y U,zhH,J,Y]
end
def oD(n:Nat):xz Vc->D
 |none=>.dw
 |some y=>.tup (zU n y)
theorem ziB(H:Pr p)(O:h<=190)(L:w<=190)(f:DW)(b:Vc)(J:∀i,i<h->0<=b i/\b i<p):
 ∃o,Zu [.int p,qh h w f,.tup (zU h b)]=aF (.val<|oD w o)/\(∀x,o=aF x->(∀j,0<=x j/\x j<p)/\∀i,i<h->app f w x i%p=b i%p)/\(o=aT->¬∃y,∀i,i<h->app f w y i%p=b i%p):=by
 have d:=λi a=>sd (J i a).1 (J i a).2;by_cases I:∃y,∀i,i<h->app f w y i%p=b i%p
 .let(y,I):=I
  let(x,e,A,C):=Ci H O L f b y J λi a=>by rw[<-d i a,<-I i a];rfl
  show(aF x,e,λN W=>?_,λz=>by cases z);cases W;show(A,λi a=>by rw[d i a];show C i a)
 .refine dj λY=>?_;let(r,B,l,s,E,Z,K,m,M,Q):=YR H O L f b
  show Y ?_;rw[DJ (by
   show dj λF=>I ?_;have u:s=r:=()
   subst u;show(mP w B l s,λi a=>?_);have g:=XO E ((Z _).mpr (.gen (i,a,rfl))) w ();have n:aug w f b i w=b i:=by simp[aug]
   rw[n]at g;rw[g];congr 1;erw[app,mP];rw[zB λj _=>(jS _ _ _).symm,xU];show zB λk U=>?_;rw[zV (m k U) λj G t=>by rw[DY (ew t)];simp,DJ rfl];simp?[aug,DJ (m k U)])]at Q
  show(aT,Q,nofun,λ_=>I)
section
theorem Yx(b:Bool):ei (.str (jW (f6 b))) (.str "l")=aF (.bl b):=by cases b<;>kernel_rfl
theorem cC(B:Pr p)(J:∀k,wd k<=16)(O:∀i j,i<fm w wd k->j<eX w wd k->0<=T k i j/\T k i j<p)(u:Vc)(U:∀i,i<wd k->0<=u i/\u i<p):
 ∃o,yz [.int p,vX w wd T k,.tup (zU (wd k) u)]=aF (.val<|oD (wd<|k+1) o)/\(∀y,o=aF y->∀c,c<wd (k+1)->0<=y c/\y c<p)/\
  (w k=bB->(o=aT->∀c,c<wd (k+1)->app (T k) (wd k) u c%p=0)/\∀y,o=aF y->(∀c,c<wd (k+1)->app (T k) (wd k) u c%p=y c%p)/\∃c,c<wd (k+1)/\y c%p≠0)/\
  (w k=aG->(o=aT->¬∃y,∀c,c<wd k->app (T k) (wd<|k+1) y c%p=u c%p)/\∀y,o=aF y->∀c,c<wd k->app (T k) (wd<|k+1) y c%p=u c%p):=by
 have Z:=jf;have n:=B.le;have m:=J k;have l:=J<|k+1;cases hw:w k with
 |true=>
  have a:fm w wd k=wd k:=by erw[fm];rw[hw];rfl
  have z:eX w wd k=wd (k+1):=by erw[eX];rw[hw];rfl
  let(o,W,b,d):=ziB B (w:=wd<|k+1) () () (T k) u U;show(o,zY (by simp[jd,z7,d5,YG,hw,Yx aG,a,z,W]),λy e c _=>(b y e).1 c,nofun,λ_=>(d,λy e=>(b y e).2))
 | false=>
  have a:fm w wd k=wd (k+1):=by erw[fm];rw[hw];rfl
  have z:eX w wd k=wd k:=by erw[eX];rw[hw];rfl
  rw[a,z]at O;let V:=λi=>zo (λj=>T k i j*u j) (wd k)%p;have I:=aA (h:=wd<|k+1) (w:=wd k) .T (T k) u B.pos () () λi j g Y=>by have:=O i j g Y;lia
  simp?[mu]at I;have Q:=iH V<|wd<|k+1;cases hb:(cT<|wd<|k+1).any λi=>V i != 0 with
  |true=>
   let(c,b,d):=Sl.mp hb;show(aF V,zY (by simp[jd,z7,d5,YG,hw,Yx bB,a,z,I,Mj,Q,MR,S1,hb,V,oD]),(λy e c _=>by cases e;show(mZ _ (by have:=B.pos;lia),m9 _ B.pos)),λ_=>(nofun,(λy e=>by cases e;show((λc _=>by simp?[V,kR];rfl),c,ed.mp b,by simpa[V]using d))),nofun)
  |false=>
   show(aT,zY (by simp[jd,z7,d5,YG,hw,Yx bB,a,z,I,Mj,Q,MR,S1,hb,V,oD]),nofun,λ_=>((λ_ c f=>by simpa[V,app]using (S9.mp hb c<|ed.mpr f)),nofun),nofun)
end
section
theorem EG(h:1<=n):fX n (-1)=aF (n-1):=by
 erw[fX]
 grind
theorem zkX(e:b.s+b.n=k+1)(y:Vc):wV wd (hX k b<|some y)=wV wd b++[D.tup (zU (wd<|k+1) y)]:=by
 erw[wV,hX];dsimp only;simp?[sD,n6];congr 1
 .refine ll λi a=>?_
  have a:=ed.mp a;rw[DY ()]
 .simp[e]
theorem BZ(B:1<=b.n)(H:b.s+b.n=k+1)(J:k<=20)(e:yz [.int p,vX w wd T k,.tup (zU (wd k)<|b.v k)]=aF (.val<|oD (wd<|k+1) o)):
 vC [.int p,vX w wd T k,xD wd b]=aF (.val<|xD wd<|hX k b o):=by
 have O:=jf;have z:=lW (wd:=wd) (b:=b) (i:=b.n-1) ();rw[show b.s+(b.n-1)=k by lia]at z;rw[vC];show zY<|zx (γ':=[vI p,.val<|vX w wd T k,.val<|xD wd b,.val (oD (wd<|k+1) o)]) ?_ ?_
 .unfold w_
  have a:cR (zN<|cR (zh 2)<|sI 1) (fv<|sI 1) (z7 4 [.int p,vX w wd T k,xD wd b])=aF (.tup<|zU (wd k)<|b.v k):=by have I:∀f,fv (sI 1) f=aF _:=λ_=>rfl;simp[z7,d5,EG B,I];show z
  simp?[YK,qU,vY,VQ,a];simp[z7,d5,e]
 .cases o with
  |none=>rfl
  |some y=>
   have d:b.n+1<=lim:=()
   simp[x',oD,BG,d,qv];erw[xD];rw[(zkX (wd:=wd) H y)];rfl
def Bx(p:Int)(w:DV)(wd:DX)(T:DQ)(k:Nat)(L:zn Vc):Prop:=
 if w k=aG then ∃q K l s,L=(cT q).map K/\eH p (wd<|k+1) q K l/\(∀v,Span p (wd<|k+1) (dP q K) v↔xv p (wd k) (wd<|k+1) (T k) v)/\Rk p (wd k) (wd<|k+1) (λj i=>T k i j) s/\q+s=wd (k+1)
 else ∃r B l,eH p (wd<|k+1) r B l/\(∀v,Span p (wd<|k+1) (dP r B) v↔Span p (wd<|k+1) (dP (wd k) λj i=>T k i j) v)/\L=((cT<|wd<|k+1).filter λ(c:Nat)=> !decide ((c:Int)∈(cT r).map λj=>((l j:Nat):Int))).map j8
theorem VG(l:DX):∀L:zn Nat,gz (L.map λj=>D.int<|(l j:Nat))=aF (L.map λj=>((l j):Int))
 |[]=>rfl
 |j::L=>by simp[gz,VG l L]
theorem KC(e:eH p n r B l):r<=n:=by
 have mono:∀k,k<r->k<=l k:=by
  intro k
  induction k with
  |zero=>lia
  |succ k z=>intro I;have:=z ();have:=e.mono k (k+1) () I;lia
 cases r with
 |zero=>lia
 |succ y=>have:=mono y ();have:=e.lt y ();lia
theorem AA(n:Nat):xB (ja n n λi j=>if i=j then 1 else 0)=(cT n).map λ(i:Nat)=>D.tup [.int i,.tup (zU n<|j8 i)]:=by erw[xB,ja];simp?[gr,pq];show ll λi a=>?_;simp[(ed.mp a)];rfl
theorem cD(H:Pr p)(O:∀k,wd k<=16):∃L,Bx p w wd T k L/\Ji [.int p,vX w wd T k]=aF (.own<|L.map λy=>D.tup<|zU (wd<|k+1) y):=by
 have Z:=jf;have o:=O k;have m:=O<|k+1;erw[Bx];cases hw:w k with
 |true=>
  have b:fm w wd k=wd k:=by erw[fm];rw[hw];rfl
  have I:eX w wd k=wd (k+1):=by erw[eX];rw[hw];rfl
  let(q,K,l,s,e,a,d,Q,U):=wb H (h:=wd k) (w:=wd<|k+1) () ()<|T k;show(_,by rw[DJ rfl];show(q,K,l,s,rfl,a,d,Q,U),zY<|by simp[jd,z7,d5,YG,hw,Yx aG,b,I,e,ja])
 | false=>
  have b:fm w wd k=wd (k+1):=by erw[fm];rw[hw];rfl
  have I:eX w wd k=wd k:=by erw[eX];rw[hw];rfl
  let(r,B,l,e,a,d):=VV H (h:=wd<|k+1) (w:=wd k) () ()<|T k;have t:=KC a;have W:r<=lim:=()
  have J:wd (k+1)<=lim:=()
  show(_,by rw[DY ()];show(r,B,l,a,d,rfl),?_);have Y:zI (.nm 0) jb (zD xI<|zc (zf 0) zH) [.no] (ja r (wd<|k+1) B)=aF ((cT r).map λj=>D.int<|(l j:Nat)):=by erw[ja];show zk _ _ λj z=>zm rfl rfl ?_;have z:=ed.mp z;simp[(Zh J (B j) (a.lt j z) (λi f=>a.ij j i z f)<|by rw[a.one j z];decide)]
  have n:zI (.tp [0,1]) (sB<|fu (zf 0)<|zh 2) (zf 1) [.no,.no,.val (.lst<|(cT r).map λj=>D.int<|(l j:Nat))] ((cT<|wd<|k+1).map λ(i:Nat)=>D.tup [.int i,.tup (zU (wd<|k+1)<|j8 i)]) =
   aF (((cT<|wd<|k+1).filter λ(c:Nat)=> !decide ((c:Int)∈(cT r).map λj=>((l j):Int))).map λi=>D.tup<|zU (wd<|k+1)<|j8 i):=by
   show jB _ _ _ λi f=>(_,rfl,?_,λ_=>rfl);change((gz _).map _).bind pe=_;rw[(VG l _)];rfl
  have g:=vD J;show zY ?_;simp[jd,z7,d5,YG,hw,Yx bB,jj,b,I,e,W,Y,rS,g,AA,J]
  simp_all
end
section
variable{wd:DX}{k r N:Nat}{p:Int}{w:DV}{T:DQ}{B:Nat->Vc}{l:DX}{A:Nat->eC}
theorem GS(e:eH p N r B l)(y:j<r):ik r l (l j)=aF j:=by
 cases h:ik r l (l j)with
 |none=>show absurd rfl<|X4 h j y
 |some i=>
  let(a,b):=kg h;rw[lS e.mono a y b]
theorem zhO{a b:zn Nat}(e:a.Nodup)(z:b.Nodup)(h:∀x,x∈a↔x∈b):a.length=b.length:=((List.perm_ext_iff_of_nodup e z).mpr h).length_eq
theorem W8(H:eH p N r B l):(cT N).countP (λi=>(ik r l i).isSome)=r:=by
 rw[u9];have e:((cT N).filter λi=>(ik r l i).isSome).length=((cT r).map l).length:=by
  show zhO (Si.sublist Sv) ?_ λx=>?_
  .rw[List.nodup_iff_pairwise_ne,L1]
   show T' (λ{a b} m y h=>?_) R0;have:=H.mono a b h<|ed.mp y;lia
  .rw[nN,fx]
   constructor
   .rintro⟨d,f⟩
    let(j,z):=qd.mp f;let(g,k):=kg z;show(j,ed.mpr g,k)
   .rintro⟨j,d,f⟩
    have d:=ed.mp d;subst f;show(ed.mpr<|H.lt j d,by rw[GS H d];rfl)
 rw[e];simp
theorem AY(q:DV)(N:Nat):(cT N).countP q+(cT N).countP (λi=> !q i)=N:=by
 have:=zgz q (l:=cT N);rw[pq]at this;rw[this];congr 1
 .rw[<-this]
 .rw[<-this]
  show tX λi _=>by simp
theorem Tt(y:∀j,j<N->(A j).has k=aG)(t:Vc)(c:Nat):la p A N t k c%p=app (λi j=>(A j).v k i) N t c%p:=by erw[la,app];rw[kR];congr 1;show zB λj z=>by rw[DJ (y j z),nj]
theorem QF(y:∀j,j<N->(A j).has k=aG)(h:ik r l i=aF j)(c:Nat):(fQ p A N r B l i).v k c%p=app (λi j=>(A j).v k i) N (B j) c%p:=by erw[fQ];rw[h];show Tt y (B j) c
theorem V7(h:ik r l i=aT):fQ p A N r B l i=A i:=by erw[fQ];rw[h]
theorem zjT(hp:Pr p)(Z:∀k,wd k<=16)(S:∀j,j<wd k->(A j).has k=aG)(hs:∀v:Vc,∃t,∀i,i<wd k->v i%p=app (λi j=>(A j).v k i) (wd k) t i%p)
 (L:eH p (wd k) r B l) (hW:∀t,Span p (wd k) (dP r B) t↔Me p w wd T k (app (λi j=>(A j).v k i) (wd k) t)) {U:zn Vc} (H:Bx p w wd T k U) {nx:Nat->xz Vc}
 (hr:∀i,i<wd k->w k=bB->(nx i=aT->∀c,c<wd (k+1)->app (T k) (wd k) ((fQ p A (wd k) r B l i).v k) c%p=0)/\∀y,nx i=aF y->(∀c,c<wd (k+1)->app (T k) (wd k) ((fQ p A (wd k) r B l i).v k) c%p=y c%p)/\∃c,c<wd (k+1)/\y c%p≠0)
 (hl:∀i,i<wd k->w k=aG->(nx i=aT->¬∃y,∀c,c<wd k->app (T k) (wd<|k+1) y c%p=(fQ p A (wd k) r B l i).v k c%p)/\∀y,nx i=aF y->∀c,c<wd k->app (T k) (wd<|k+1) y c%p=(fQ p A (wd k) r B l i).v k c%p):
 (∀y,y∈U->∀c,c<wd (k+1)->0<=y c/\y c<p)/\(∀y,y∈U->w k=aG->∀c,c<wd k->app (T k) (wd<|k+1) y c%p=0)/\
   (∀v,Span p (wd<|k+1) (λg=>(∃i,i<wd k/\nx i=aF g)\/g∈U) v)/\(cT<|wd k).countP (λi=>(nx i).isSome)+U.length=wd (k+1):=by
 have two:=hp.two;cases hw:w k with
 | false=>
  have o:=λt=>by have:=hW t;erw[Me]at this;rw[hw,DY ()]at this;show this
  erw[Bx]at H;rw[hw,DY ()]at H;let(n,B2,m,F,hI,O):=H;let(g1,g2,g3,E):=MP hp (Z k) (Z<|k+1) hs L o F hI;have an c:c<wd (k+1)->(∀j,j<n->m j≠c)->j8 c∈U:=λb H=>by rw[O];show fx.mpr (c,nN.mpr (ed.mpr b,?_),rfl);simp?[vv,decide_eq_false_iff_not,fx,ed];rintro⟨j,f,h⟩;show H j f ()
  have W i:i<wd k->(nx i).isSome=(ik r l i).isNone:=λd=>by
   cases J:ik r l i with
   | none=>
    let(c,f,h):=g2 i d<|X4 J;cases I:nx i with
    |some y=>rfl
    |none=>
     have:=(hr i d hw).1 I c f;rw[V7 J]at this;show absurd this h
   | some j=>
    let(f,h):=kg J;cases I:nx i with
    |none=>rfl
    |some y=>
     let(e,c,G,h4):=(hr i d hw).2 y I;have z:=g1 j f c G;rw[<-j7 (λa _=>QF S J a) c,e c G]at z;show absurd z h4
  show(λy I c b=>?_,(λy I z=>by cases z),(E _ (λc b u=>?_)<|λc b u=>.gen (.inr<|an c b u)),?_)
  .rw[O]at I
   let(i,_,rfl):=fx.mp I;erw[j8];lia
  .have J:ik r l c=aT:=by
    cases J:ik r l c with
    |none=>rfl
    |some j=>show absurd (kg J).2 (u j (kg J).1)
   have Y:=W c b;rw[J]at Y;let(y,I):=qd.mp Y;show(Span.gen<|.inl (c,b,I)).congr λi d=>?_;have:=((hr c b hw).2 y I).1 i d;rw[V7 J]at this;show this
  .have C:(cT<|wd k).countP (λi=>(nx i).isSome)=(cT<|wd k).countP λi=> !(ik r l i).isSome:=tX λi d=>by
    rw[W i (ed.mp d)];cases ik r l i<;>simp
   have X:=AY (λi=>(ik r l i).isSome)<|wd k;rw[W8 L]at X;have e3:=AY (λi=>(ik n m i).isSome)<|wd<|k+1;rw[W8 F]at e3;have e4:U.length=(cT<|wd<|k+1).countP λi=> !(ik n m i).isSome:=by
    rw[O,gr,<-u9];show tX λi d=>?_;cases J:ik n m i with
    |none=>
     have:=X4 J
     grind
    |some j=>
     let(f,h):=kg J
     grind
   rw[C,e4];lia
 | true=>
  have o:=λt=>by have:=hW t;erw[Me]at this;rw[hw,DJ rfl]at this;show this
  erw[Bx]at H;rw[hw,DJ rfl]at H;let(q,K,zng,s,O,M,ad,N,P):=H;let(g1,g2,g3,E):=MQ hp (Z k) (Z<|k+1) hs L o ad N P;have W i:i<wd k->(nx i).isSome=(ik r l i).isSome:=λd=>by
   cases J:ik r l i with
   | none=>
    cases I:nx i with
    |none=>rfl
    |some y=>
     have:=(hl i d hw).2 y I;rw[V7 J]at this;show absurd (y,this)<|g2 i d<|X4 J
   | some j=>
    let(f,h):=kg J;cases I:nx i with
    |some y=>rfl
    |none=>
     let(y,R):=g1 j f;show absurd (y,λc b=>by rw[R c b,QF S J c])<|(hl i d hw).1 I
  show(λy I c b=>?_,λy I _ c b=>?_,λv=>E _ (λj=>(nx<|l j).getD λ_=>0) (λj Q=>?_) (λj Q=>?_) v,?_)
  .rw[O]at I
   let(j,Q,rfl):=fx.mp I;show M.hM j c (ed.mp Q) b
  .rw[O]at I
   let(j,Q,rfl):=fx.mp I;show(ad<|K j).mp (.gen (j,ed.mp Q,rfl)) c b
  .have J:=GS L Q
   have x:=L.lt j Q;have Y:=W (l j) x;rw[J]at Y;let(y,I):=qd.mp Y;rw[I];show(.gen<|.inl (l j,x,I),λc b=>?_);have:=(hl (l j) x hw).2 y I c b;rw[QF S J c]at this;show this
  .refine .gen (.inr ?_)
   rw[O];show fx.mpr (j,ed.mpr Q,rfl)
  .have C:(cT<|wd k).countP (λi=>(nx i).isSome)=(cT<|wd k).countP λi=>(ik r l i).isSome:=tX λi d=>by
    rw[W i (ed.mp d)]
   simp?[C,W8 L,O,gr,pq];omega
end
section
theorem Ts(y:Vc):xD wd (nD k y)=.tup [.int (k+1),.tup [.tup (zU (wd<|k+1) y)]]:=by rfl
theorem EN(S:Pr p)(O:∀k,wd k<=16)(hm:m<=5)(a3:k<m)(hT:∀i j,i<fm w wd k->j<eX w wd k->0<=T k i j/\T k i j<p){H:zn eC}(I:q8 p w wd T k H)(ac:H.length<=100):
 ∃Y,q8 p w wd T (k+1) Y/\Y.length<=H.length+wd (k+1)/\aC [qE p m w wd T,.int k,.lst (H.map<|xD wd)]=aF (.val<|.lst<|Y.map<|xD wd):=by
 have hl:=jf;have G:=S.pos;have ad:H.length<=lim:=()
 have Z:(H.filter λb=>b.has k).length=wd k:=by rw[<-u9];show I.ct k<|ec _
 let A:=λj=>(H.filter λb=>b.has k).getD j BD;have E:(H.filter λb=>b.has k)=(cT<|wd k).map A:=by rw[<-Z];show(jz BD _).symm
 have F j:j<wd k->A j∈H/\(A j).has k=aG:=λJ=>by
  have:A j∈H.filter λb=>b.has k:=by change(H.filter λb=>b.has k).getD j BD∈_;rw[hB,eW ()];show L6 _
  have:=nN.mp this;show(this.1,~~~this.2)
 have s:=λj J=>I.ok _ (F j J).1;have W:=λj J=>(F j J).2;show dj λkZ=>?_;let(r,B,l,u,hW,eS):=ziD (T:=T) (w:=w) (A:=A) (N:=wd k) (k:=k) S (λj J=>by have:=(s j J).le;lia) W a3 (O k) hm O λj rm i J hh a=>(s j J).hM rm i hh a;have gx i:i<wd k->nh p w wd T k (fQ p A (wd k) r B l i):=λa=>FQ G u s W (λi c f n=>by change Ord w ((H.filter λb=>b.has k).getD i BD) ((H.filter λb=>b.has k).getD c BD);rw[hB,eW (),hB,eW ()];show(I0.mp I.od i c () () f)) a
 have a6 i:i<wd k->(fQ p A (wd k) r B l i).has k=aG:=λa=>by rw[eU];show W i a
 have ex:∀i,∃o:xz Vc,i<wd k->(yz [.int p,vX w wd T k,.tup (zU (wd k)<|(fQ p A (wd k) r B l i).v k)]=aF (.val<|oD (wd<|k+1) o)/\(∀y,o=aF y->∀c,c<wd (k+1)->0<=y c/\y c<p)/\
  (w k=bB->(o=aT->∀c,c<wd (k+1)->app (T k) (wd k) ((fQ p A (wd k) r B l i).v k) c%p=0)/\∀y,o=aF y->(∀c,c<wd (k+1)->app (T k) (wd k) ((fQ p A (wd k) r B l i).v k) c%p=y c%p)/\∃c,c<wd (k+1)/\y c%p≠0)/\
  (w k=aG->(o=aT->¬∃y:Vc,∀c,c<wd k->app (T k) (wd<|k+1) y c%p=(fQ p A (wd k) r B l i).v k c%p)/\∀y,o=aF y->∀c,c<wd k->app (T k) (wd<|k+1) y c%p=(fQ p A (wd k) r B l i).v k c%p)):=λi=>by
  by_cases a:i<wd k
  .let(o,h):=cC (T:=T) (w:=w) (k:=k) S O hT ((fQ p A (wd k) r B l i).v k) λc hc=>(gx i a).hM k c (a6 i a) hc
   show(o,λ_=>h)
  .exact(aT,λz=>absurd z a)
 let(nx,U):=R4 ex;let(Q,hN,eN):=cD (T:=T) (w:=w) (k:=k) S O;let(f1,f2,f3,f4):=zjT (T:=T) (w:=w) (A:=A) S O W (λv=>by
  let(t,ht):=Ks ((I.sp k (ec _) v).le λg hg=>by let(b,f,n,rfl):=hg;have C:b∈H.filter λb=>b.has k:=nN.mpr (f,~~~n);rw[E]at C;let(j,J,rfl):=fx.mp C;show .gen (j,ed.mp J,rfl))
  show(t,λi a=>by rw[ht i a];erw[app];rw[xW])) u hW hN (nx:=nx) (λi a=>(U i a).2.2.1) λi a=>(U i a).2.2.2
 show kZ ?_;show(JN p k w H A (wd k) r B l nx Q,As G I Z (λ_=>rfl) u (λi y a e=>(U i a).2.1 y e) f1 (λi a e d=>((U i a).2.2.1 d).1 e) (λi y a e d=>(((U i a).2.2.1 d).2 y e).1) (λi y a e d=>((U i a).2.2.2 d).2 y e) f2 f3 f4,?_,?_)
 .have f:(H.filter λb=> !b.has k).length+wd k=H.length:=by
   rw[<-Z,<-u9,<-u9,(zgz (λb:eC=>b.has k) (l:=H))];have e:H.countP (λb=> !b.has k)=H.countP λb=>decide (¬b.has k=aG):=tX λb _=>by simp
   rw[e];lia
  erw[JN];rw[n3];cases w k<;>simp<;>lia
 .
  let L:D:=.lst (H.map<|xD wd);have P:zI (.nm 0) (qA<|sB<|zD j9<|zc (zf 0)<|zc (zf 1) zH) (zf 0) [.no,vI k] (H.map<|xD wd)=aF ((H.filter λb=> !b.has k).map (xD wd)):=by show jB (g:=xD wd) (λb=> !b.has k) (xD wd) H λb x=>([.val (xD wd b),vI k],rfl,?_,λ_=>by rfl);have e:=vU (wd:=wd) (b:=b) (by have:=(I.ok b x).le;lia) k;simp[e]
  have R:zI (.nm 0) (sB<|zD j9<|zc (zf 0)<|zc (zf 1) zH) (zf 0) [.no,vI k] (H.map<|xD wd)=aF ((cT<|wd k).map λj=>xD wd<|A j):=by
   have:((H.filter λb=>b.has k).map (xD wd))=(cT<|wd k).map λj=>xD wd (A j):=by rw[E,gj];rfl
   rw[<-this];show jB (g:=xD wd) (λb=>b.has k) (xD wd) H λb x=>([.val (xD wd b),vI k],rfl,?_,λ_=>by rfl);have e:=vU (wd:=wd) (b:=b) (by have:=(I.ok b x).le;lia) k;simp[e]
  have X:zI (.nm 0) jb (zD vC<|zc (zf 1)<|zc (zf 2)<|zc (zf 0) zH) [.no,vI p,.val (vX w wd T k)] ((cT<|wd k).map λi=>xD wd<|fQ p A (wd k) r B l i)=aF ((cT<|wd k).map λi=>xD wd<|hX k (fQ p A (wd k) r B l i)<|nx i):=by show zk _ _ λi a=>zm rfl rfl ?_;have a:=ed.mp a;have f:=gp.mp<|a6 i a;have e:=BZ (p:=p) (gx i a).n1 (by have:=(gx i a).le;lia) (():k<=20) (U i a).1;simp[e]
  have e6:zI (.nm 0) jb (kN<|zc (zF qv (zf 1)<|sI 1)<|zc (kN<|zc (zf 0) zH) zH) [.no,vI k] (Q.map λy=>D.tup<|zU (wd<|k+1) y)=aF ((Q.map<|nD k).map (xD wd)):=by rw[gj];show zk _ _ λy hy=>zm rfl rfl ?_;change _=aF (xD wd<|nD k y);rw[Ts];rfl
  have K:Q.length<=lim:=by have:=O<|k+1;lia
  have M:wd k<=lim:=by have:=O k;lia
  have bd:(H.filter λb=> !b.has k).length<=100:=fZ (H9 _ _) ac;have q1:=O k;have q2:=O<|k+1;have f:Q.length+wd k<=lim:=()
  have n:(H.filter λb=> !b.has k).length+(Q.length+wd k)<=lim:=()
  have h3:wd k+Q.length<=lim:=()
  have h4:(H.filter λb=> !b.has k).length+(wd k+Q.length)<=lim:=()
  have eq:=gM<|w k;show zY ?_;simp[jd,z7,d5,ZE,dO,a3,jj,ad,P,R,eS,M,X,eN,K,e6];cases d:w k<;>simp[d]at eq<;>simp[YG,d,eq,JN,f,n,h3,h4]
end
section
variable{wd:DX}{p:Int}{w:DV}{T:DQ}
def Mp(c:Nat):eC:=(0,1,λ_=>j8 c)
theorem Lq(B:Pr p):q8 p w wd T 0 ((cT<|wd 0).map Mp):=by
 have two:=B.two;have a:∀b,b∈_ ↔ ∃c,c<wd 0/\b=Mp c:=λb=>by rw[fx];show(λy=>by let(c,d,e):=y;show(c,ed.mp d,e.symm),λy=>by let(c,d,e):=y;show(c,ed.mpr d,e.symm))
 have I c:(Mp c).has 0=aG:=gp.mpr (ec _,by change 0<0+1;lia);show(λb f=>?_,λr J v=>?_,λr J=>?_,?_)
 .let(c,h,rfl):=(a b).mp f
  show(ec _,by change 0+1<=0+1;lia,λr i _ _=>by change 0<=j8 c i/\j8 c i<p;erw[j8];lia,λj Q=>by lia)
 .have:r=0:=()
  subst this;show(de (wd 0) v).le λg O=>?_;let(c,h,rfl):=O;show .gen (Mp c,(a _).mpr (c,h,rfl),I c,rfl)
 .have:r=0:=()
  subst this;rw[List.countP_eq_length.mpr λb f=>?_]
  .simp
  grind
 .refine _k _ ?_
  rw[L1];show I0.mpr λ_ _ _ _ _=>(λz=>absurd z<|m6 0,λz=>absurd z<|m6 0)
def aH(b:eC):Int×Int:=((b.s:Int),((b.s+b.n-1:Nat):Int))
theorem uN:∀e:zn eC,(∀b,b∈e->1<=b.n/\b.s+b.n<=100)->gw qf (e.map<|xD wd)=aF (e.map aH)
 |[],_=>rfl
 |b::e,h=>by have a:=h b gH;simp?[mc,gw,Vm (wd:=wd) a.1 a.2,uN e λb d=>h b<|gy _ d,eK];rfl
def yd(e:zn eC):zn eC:=(xq<|e.map aH).map λi=>e.getD i BD
theorem Ku(e:zn eC):(yd e).Perm e:=by have h:=j6<|e.map aH;rw[gr]at h;have:=h.map λi=>e.getD i BD;rw[jz]at this;show this
theorem bo(e:zn eC):(yd e).map aH=wH (e.map aH):=by erw[yd,wH];rw[gj];show ll λi a=>?_;have a:=ed.mp<|(j6<|e.map aH).mem_iff.mp a;rw[gr]at a;simp[a]
theorem av(L:Pr p)(H:b<=16)(a3:b*(m+1)<=48)(y:∀k,wd k<=b)(S:m<=5)(J:∀k i j,k<m->i<fm w wd k->j<eX w wd k->0<=T k i j/\T k i j<p):
 ∃B,q8 p w wd T m B/\B.length<=48/\wq [qE p m w wd T]=aF (.own<|(yd B).map (xD wd)):=by
 have x:=jf;have u:=y 0;have z:wd 0<=lim:=()
 have O:qc (qh (wd 0) (wd 0) λi j=>if i=j then 1 else 0)=aF _:=rfl;have l:zI (.nm 0) jb (kN<|zc (sI 0)<|zc (kN<|zc (zf 0) zH) zH) [.no] (ja (wd 0) (wd 0) λi j=>if i=j then 1 else 0)=aF (((cT<|wd 0).map Mp).map (xD wd)):=by rw[gj];erw[ja];show zk _ _ λi a=>zm rfl rfl ?_;rfl
 have n:O2 (z7 3 [qE p m w wd T])=aF (.next [.val (qE p m w wd T),.val<|.lst<|((cT<|wd 0).map Mp).map (xD wd),.no]):=by simp[O2,z7,d5,ZE,vD z,O,jj,z];rw[l];simp
 let(o,Q,B,c,I,U,rfl):=VB (T:=.nm 2) (F:=jF 1<|zD aC<|zc (zf 0)<|zc (zf 2)<|zc (zf 1) zH) (f:=J7<|zN<|cR (zh 0)<|sI 2)
  (λj g=>∃B c,q8 p w wd T j B/\B.length<=b*(j+1)/\g=[.val (qE p m w wd T),.val<|.lst<|B.map<|xD wd,c]) m ()
  (by simp[ZE]) (_,_,Lq L,by simp;omega,rfl) λs d g W=>by let(B,c,I,U,rfl):=W;let(Y,Z,t,e):=EN L (λk=>fZ (y k) H) S d (J s · · d) I (by have:=_C b (():s+1<=m+1);lia);show(_,[_,_,vI s],rfl,?_,Y,_,Z,by grind,rfl);simp[e]
 show(B,I,(),?_);rw[wq];show zY<|zx n<|zx Q ?_;have h:B.length<64:=()
 erw[UL];have r:sF qf (zh 1) [.val (qE p m w wd T),.val<|.lst<|B.map<|xD wd,c]=aF ((yd B).map (xD wd)):=by change((gw qf _).bind _)=_;rw[(uN (wd:=wd) B λb H=>((I.ok b H).n1,by have:=(I.ok b H).le;lia))];simp?[eK,gr,h,if_true];congr 1;erw[yd];rw[gj];show ll λi a=>?_;have a:=ed.mp<|(j6<|B.map aH).mem_iff.mp a;rw[gr]at a;simp[a]
 simp_all
theorem q8.perm(h:O3.Perm ji)(I:q8 p w wd T k ji):(∀b,b∈O3->nh p w wd T k b)/\(∀r,r<=k->∀v,Span p (wd r) (I' O3 r) v)/\∀r,r<=k->O3.countP (λb=>b.has r)=wd r:=by
 show(λb f=>I.ok b<|h.mem_iff.mp f,λr y v=>(I.sp r y v).le λg z=>?_,λr y=>?_)
 .let(b,a,d,e):=z
  show .gen (b,h.mem_iff.mpr a,d,e)
 .rw[h.countP_eq];show I.ct r y
end
abbrev TB:=Nat×Nat×(Nat->Nat->Int)
def tD(t:TB):D:=qh t.1 t.2.1 t.2.2
theorem zi6(bs):g7 (.lst<|jy bs)=aG:=lO (n:=2) (by
 simp?[deep];have:oN (jy bs)<=1:=X7 λd a=>by simp?[jy,fx]at a;let(b,_,rfl):=a;simp[deep,oN]
 lia) () (by
 simp?[gx];show WB λd a=>by simp?[jy,fx]at a;let(b,_,rfl):=a;rfl)
def Z?:TB:=(0,0,λ_ _=>0)
def Vw(bs:zn (Int×Int))(y e:zn TB):D:=.tup [.lst (jy bs),.lst<|y.map tD,.lst (e.map tD)]
section
def fT(y:zn TB)(k:Nat):Nat->Nat->Int:=(y.getD k Z?).2.2
end
def A_:=(zW (jF 7<|zD jU<|zc (zf 0)<|zc (zF qv (zf 1)<|zf 6) zH)<|zW (jF 8<|zF yL (zf 7)<|zf 3)<|zW (jF 9<|zF yL (zF VO (zf 7)<|zf 3)<|zf 3)<|zW (jF 10<|zF qv (sI 1)<|zF yL (zF VO (zf 7)<|sI 97)<|zF W3 (zf 2)<|sI 1) Ds)
theorem HG:y_=XU (jv<|zF vE (sI 3)<|zf 3) (.nm 6) A_:=rfl
section
theorem zj4(B:Pr p)(H:n<=60)(h:Pair p n f g)(y:u<n)(Q:o<n)(ht:1<=tm/\tm<p)(e W Y L S:Cell):
 ∃f' g' al am,Pair p n f' g'/\Ds [e,W,vI p,vI n,.own<|xO n f,.nest<|vh n g,Y,vI cell,vI u,vI o,vI tm,L,S,.no,.no]=aF (.next [e,W,vI p,vI n,.own<|xO n f',.nest<|vh n g',Y,vI cell,vI u,vI o,vI tm,al,am,.no,.no]):=by
 have X:=jf;have H:n<=lim:=()
 have O:=B.pos;have p7:=B.le;have one:=B.one;have Z:∀z:Int,0<=z%p/\z%p<p:=λz=>(mZ _ (),m9 _ O);have m x:mJ tm x=aG:=ZM _ _ () ();by_cases d:u=o
 .subst d
  have s:zI (.nm 0) (sB<|zF ei (zF yL (zF vE (zf 0)<|zf 2)<|zf 1)<|sI 1) (zf 0) [Cell.no,vI p,vI tm] (zU p.toNat λi=>(i:Int))=aF (((cT p.toNat).filter λ(i:Nat)=>decide<|(i:Int)*tm%p=1).map λ(i:Nat)=>D.int (i:Int)):=by rw[z9];show jB _ _ _ λi a=>(_,rfl,?_,λ_=>rfl);have G:=ed.mp a;simp[ZM i tm () (),O]
  let(zno,K,M,N):=GZ B () ht.2;cases hg:(cT p.toNat).filter λ(i:Nat)=>decide (i*tm%p=1)with
  |nil=>
   simp_all
  | cons b P=>
   let(R,C,_):=Xv hg;rw[hg]at s;have w:= ~~~C
   have T:=()
   show(λi j=>if i=u then tm*f u j%p else f i j,λi j=>if j=u then g i u*b%p else g i j,vI b,.no,(λi j a I=>?_,λi j a I=>?_,?_,?_),?_)
   .split
    show Z _;show h.bf i j a I
   .split
    show Z _;show h.bg i j a I
   .refine ziU (u:=u) (by rw[nj,w,one]) h.fg (λi k _ _=>?_) (λk j _ _=>?_)<;>split<;>simp_all[nj]
   .refine zhb (u:=u) (by rw[w,one]) h.gf (λi k _ _=>?_) (λk j _ _=>?_)<;>split<;>simp_all[nj]
   .have l:zI (.nm 0) jb (zF yL (zF vE (zf 2)<|zf 0)<|zf 1) [Cell.no,vI p,vI tm] (zU n<|f u)=aF (zU n λj=>tm*f u j%p):=by
     simp?[z9,z9];show zk _ _ λj I=>zm rfl rfl (by simp[m,O])
    have r:∀U:Cell,yR 5 12 (zf 8) (zF yL (zF vE (cR (zh 12)<|zf 8)<|zf 11)<|zf 2) [e,W,vI p,vI n,U,.nest<|vh n g,Y,vI cell,vI u,vI u,vI tm,vI b,S,.no,.no] (vh n g)=aF (vh n λi j=>if j=u then g i u*(b:Int)%p else g i j):=λU=>by
     erw[vh];show QY _ λk A=>(.int<|g k u*b%p,u,u,?_,rfl,?_,Yy y _ _ _ () λi _ J=>by simp[J])
     .have q:=h.bg k u (ed.mp A) y
      simp[wu,y,ZM (g k u) b () (),O]
     .simp[y]
    have E:inR p=aG:=kP () ();have F:p.toNat<=lim:=()
    simp[Ds,B_,jd,y,H,jj,d5,l,bz y f (λi j=>if i=u then tm*f u j%p else f i j) (λj=>tm*f u j%p) (λj _=>by simp) (λi j _ J _=>by simp[J]),r,E,qb,F,s]
 .refine(λi j=>if i=o then (f o j+tm*f u j)%p else f i j,λi j=>if j=u then (g i u-tm*g i o)%p else g i j,L,.no,(λi j a I=>?_,λi j a I=>?_,?_,?_),?_)
  .split
   show Z _;show h.bf i j a I
  .split
   show Z _;show h.bg i j a I
  .refine BU (t:=tm) Q y (ew d) h.fg (λi k _ _=>?_) (λk j _ _=>?_)<;>split<;>simp_all[Int.sub_eq_add_neg,Int.neg_mul]
  .refine zj2 (t:=tm) Q y (ew d) h.gf (λi k _ _=>?_) (λk j _ _=>?_)<;>split<;>simp_all[Int.sub_eq_add_neg,Int.neg_mul]
  .have l:zI (.tp [0,1]) jb (zF yL (zF qv (zf 0)<|zF vE (zf 3)<|zf 1)<|zf 2) [Cell.no,Cell.no,vI p,vI tm] ((cT n).map λj=>D.tup [.int (f o j),.int (f u j)])=aF (zU n λj=>(f o j+tm*f u j)%p):=by
    rw[z9];show zk _ _ λj I=>zm rfl rfl (by simp[m,O])
   have r:∀U:Cell,yR 5 12 (zf 8) (zF yL (zF W3 (cR (zh 12)<|zf 8)<|zF vE (zf 10)<|cR (zh 12)<|zf 9)<|zf 2) [e,W,vI p,vI n,U,.nest<|vh n g,Y,vI cell,vI u,vI o,vI tm,L,S,.no,.no] (vh n g)=aF (vh n λi j=>if j=u then (g i u-tm*g i o)%p else g i j):=λU=>by
    erw[vh];show QY _ λk A=>(.int<|(g k u-tm*g k o)%p,u,u,?_,rfl,?_,Yy y _ _ _ () λi _ J=>by simp[J])
    .simp[wu,y,Q,m,O]
    .simp[y]
   have as:¬((u:Int)=(o:Int)):=()
   simp[Ds,z_,jd,d,as,y,Q,H,jj,d5,XR,l,bz Q f (λi j=>if i=o then (f o j+tm*f u j)%p else f i j) (λj=>(f o j+tm*f u j)%p) (λj _=>by simp) (λi j _ J _=>by simp[J]),r]
end
section
theorem MF(L:ns.length<=63)(H:Pr p)(hn:n<=60)(h0:0<=at')(h1:at'<=10000):
 ∃f g,Pair p n f g/\xJ [X6 ns,.int at',.int p,.int n]=aF (.own [qh n n f,qh n n g]):=by
 have hl:=jf;have I:n<=lim:=()
 have p0:=H.pos;have two:=H.two;have p7:=H.le;have one:=H.one;have U:∀i:Nat,zI (.nm 0) jb (QH<|zF ei (zf 1)<|zf 0) [Cell.no,vI i] ((cT n).map λ(j:Nat)=>D.int j)=aF (zU n<|i5 i):=λi=>by
  rw[z9];show zk _ _ λj hj=>zm rfl rfl ?_;by_cases e:i=j
  .subst e;simp[i5]
  .have S:¬((i:Int)=(j:Int)):=()
   simp[i5,e,S]
 have b7:zI (.nm 0) jb (jY<|zL (jv<|zf 1) (.nm 0) 1 [0] jb (QH<|zF ei (zf 1)<|zf 0)) [Cell.no,vI n] ((cT n).map λ(j:Nat)=>D.int j)=aF (xO n i5):=by erw[xO];show zk _ _ λi C=>zm rfl rfl ?_;simp[I,qb,jj,d5];rw[z9 n λi=>i,U]
 have M:Jf (.nm 0) (zL (jv<|zf 1) (.nm 0) 1 [0] jb (QH<|zF ei (zf 1)<|zf 0)) [Cell.no,vI n] ((cT n).map λ(j:Nat)=>D.int j)=aF (vh n i5):=by erw[vh];show dz _ λi C=>(_,rfl,?_);simp[I,qb,jj,d5];rw[z9 n λi=>i,U]
 let γ:Cell->Cell->Cell->Cell->Cell->Cell->Cell->Cell->Cell->Cell->Cell->Ctx:=λa b c d e f g h i j k=>[.val (X6 ns),vI at',vI p,vI n,a,b,c,d,e,f,g,h,i,j,k];have s2:RL (γ (.own<|xO n i5) .no .no .no .no .no .no .no .no .no .no)=aF (.next<|γ (.own<|xO n i5) (.nest<|vh n i5) .no .no .no .no .no .no .no .no .no):=by simp[RL,I,qb,jj,d5,γ];simp?[z9 n λi=>i,M];rfl
 have R:mJ 3 (n:Int)=aG:=ZM _ _ () ();show dj λkZ=>?_;let(_,W,f,g,B,A,x,s,l,y,z,J,rfl):=VB (T:=.nm 6) (F:=A_) (f:=zF vE (sI 3)<|zf 3)
  (λt w=>∃f g B A x s l y z,Pair p n f g/\w=γ (.own<|xO n f) (.nest<|vh n g) B A x s l y z .no .no)
  (3*n) () (by
    have:((3*n:Nat):Int)=3*(n:Int):=()
    rw[this];simp[R,γ]) (i5,i5,_,_,_,_,_,_,_,by
  have b:∀i j:Nat,i<n->j<n->0<=i5 i j/\i5 i j<p:=λi j _ _=>by erw[i5];split<;>lia
  have u:Kh p n i5 i5:=λi j C hj=>by rw[zV C λk _ ad=>by erw[i5];rw[DY (ew ad)];simp];simp[i5]
  show(b,b,u,u),rfl) (by
   rintro t ht _ ⟨f,g,B,A,x,s,l,y,z,J,rfl⟩;have Y:(0:Int)<(n:Int):=()
   let(Z,K,P):=af L (k:=at'+(t:Int)) () ();generalize Xc ns (at'+t)=cell at Z K P;let(u,zhl,hu):=VA (m:=cell) (n:Int) Y;let(o,X,ho):=VA (m:=cell/(n:Int)) (n:Int) Y;have bd:=mZ (cell/97) (():p-1≠0);have be:=m9 (cell/97) (():0<p-1);let(f',g',bf,bg,as,es):=zj4 H hn J (u:=u) (o:=o) (tm:=1+cell/97%(p-1)) (cell:=cell) () () () (.val<|X6 ns) (vI at') (.val<|.int t) y z;have E:0<n:=()
   have nb:(n:Int)<1073741824:=()
   have pm:1<p:=()
   let w:Cell->Cell->Cell->Cell->Ctx:=λa b c d=>γ (.own<|xO n f) (.nest<|vh n g) (vI t) a b c d y z .no .no;show(w A x s l,_,rfl,zx (γ':=w (vI cell) x s l) (by simp[w,γ,Z])<|zx (γ':=w (vI cell) (.val<|.int u) s l) (by simp[w,γ,E,zhl])<|zx (γ':=w (vI cell) (.val<|.int u) (vI o) l) (by simp[w,γ,E,nb,X])<|zx (γ':=w (vI cell) (.val<|.int u) (vI o)<|.val<|.int<|1+cell/97%(p-1)) (by simp[w,γ,pm]) es,f',g',_,_,_,_,_,_,_,as,rfl))
 show kZ ?_;rw[<-HG]at W;show(f,g,J,?_);have N:∀h:DW,zI (.nm 0) jb (jt<|zh 0) [Cell.no] (xO n h)=aF (ja n n h):=λh=>by erw[xO,ja];show zk _ _ λi C=>zm rfl rfl ?_;simp
 have G:∀(r:zn D) (h:DW) (O Q:Cell),r.length<=1->(qk 13<|kN<|zc (zf 3)<|zc (zf 3)<|zc (jt<|jq<|zL (zR<|zh 14) (.nm 0) 1 [] jb (jt<|zh 0)) zH) (γ O Q B A x s l y z (.own r)<|.val<|.lst<|xO n h)=aF (.next<|γ O Q B A x s l y z (.own<|r++[qh n n h])<|.val<|.lst<|xO n h):=λr h O Q ha=>by
  have zig:r.length<lim:=()
  have rl:(xO n h).length<=lim:=by rw[zkl];lia
  have l3:3<=lim:=()
  simp[γ,rl,I,jj,N,l3,zig,qh]
 rw[xJ];show zY (zx (by
  simp[x_,z7,I,qb,jj,d5,γ];assumption) (zx s2 (zx W (zx rfl (zx (by
  change vj (.nm 14) _ [.lst (xO n f),.lst ((vh n g).map D.lst)] (γ (.val<|.lst<|xO n f) (.val<|.lst<|(vh n g).map D.lst) B A x s l y z (.own []) .no)=_;rw[zkk,xy];change tR (qk 13 _<|γ _ _ B A x s l y z (.own [])<|.val<|.lst<|xO n f) _=_;rw[G [] f _ _ ()];change tR (qk 13 _<|γ _ _ B A x s l y z (.own [qh n n f])<|.val<|.lst<|xO n g) _=_;rw[G [qh n n f] g _ _ (ec 1)];rfl) rfl)))))
end
def sX(bs:zn (Int×Int))(k:Nat):Nat:=(qR bs k).length
def E6(w:DV)(bs:zn (Int×Int))(k i j:Nat):Int:=if (qR bs<|qi w k).getD i 0=(qR bs<|qu w k).getD j 0 then 1 else 0
theorem zj9(e b:zn Nat):MK e b=qh e.length b.length λi j=>if e.getD i 0=b.getD j 0 then 1 else 0:=by
 have h:∀{a:Type} (g:Nat->a) (l:zn Nat),l.map g=(cT l.length).map λi=>g _:=λg l=>by
  conv=>lhs;rw[<-jz 0 l]
  rw[gj];rfl
 erw[MK,qh,ja,zU]
 grind
theorem Rj(p:Int)(m:Nat)(w:DV)(bs:zn (Int×Int)):BR p m w bs=qE p m w (sX bs) (E6 w bs):=by
 have e:ai m w bs=xt m w (sX bs) (E6 w bs):=by erw[ai,xt];show ll λk _=>?_;rw[zj9];erw[vX];simp?[JM,Xh];rfl
 erw[BR,qE];rw[e];rfl
theorem iF(y:0<p)(w:DV)(wd:DX)(f g T:DQ)(k i j:Nat):0<=QC p w wd f g T k i j/\QC p w wd f g T k i j<p:=
 (mZ _ (),m9 _ y)
def aW(m:Nat)(wd:DX)(f:DQ):zn TB:=(cT<|m+1).map λk=>(wd k,wd k,f k)
theorem rQ(m wd f):(aW m wd f).map tD=yF (m+1) wd f:=by erw[aW,yF];rw[gj];rfl
section
variable{p:Int}{n:Nat}
theorem BB(H:Pr p)(S:n<=20)(f:DW):∃r B l,eH p (n+n) r B l/\(∀v,Span p (n+n) (dP r B) v↔Span p (n+n) (dP n λi=>xQ n (f i)<|j8 i) v)/\
 yC [.int p,qh n n f]=aF (.val<|if hC (.lst<|ja r n B) (.lst<|ja n n j8)=aG then .tup [.int n,.int n,.tup (ja r n λk j=>B k<|n+j)]else .dw):=by
 have t:=jf;have y:n<=lim:=()
 have U:n+n<=lim:=()
 show dj λW=>?_;let(r,B,l,e,d,Y):=kB H (():n+n<=100) y .L _;show W ?_;show(r,B,l,d,Y,?_);have z:r<=lim:=by have:=K7 d.mono d.lt;lia
 have I:=vD y;have a:zI (.tp [0,1]) jb (zF qv (zf 0)<|zf 1) [Cell.no,Cell.no] ((cT n).map λi=>D.tup [.tup (zU n<|f i),.tup (zU n λk=>if i=k then 1 else 0)])=aF (ja n (n+n) λi=>xQ n (f i)<|j8 i):=by erw[ja];show zk _ _ λj s=>zm rfl rfl ?_;simp[qv,U,yS];rfl
 have J:=BH n n f λi j=>if i=j then 1 else 0;have m:(n+n)=((n+n:Nat):Int):=()
 simp?[mu]at e;rw[<-m]at e;have O:zI (.nm 0) jb (dX (zf 0) Jk<|fP<|zf 1) [Cell.no,vI n] (ja r (n+n) B)=aF (ja r n B):=by erw[ja];show zk _ _ λk Z=>zm rfl rfl ?_;simp[W6]
 have g:zI (.nm 0) jb (dX (zf 0) (fP<|zf 1) Jk) [Cell.no,vI n] (ja r (n+n) B)=aF (ja r n λk j=>B k<|n+j):=by erw[ja];show zk _ _ λk Z=>zm rfl rfl ?_;simp[W5]
 have b:kA (.lst<|ja r n B) (.lst<|ja n n λi j=>if i=j then 1 else 0)=aF (.bl<|!hC (.lst<|ja r n B) (.lst<|ja n n j8)):=by erw[kA];rw[DJ (lQ _ _ _,lQ _ _ _)];rfl
 have Q:∀h w f,qc (qh h w f)=aF _:=λ_ _ _=>rfl;by_cases q:hC (.lst<|ja r n B) (.lst<|ja n n j8)=aG
 .rw[q]at b
  rw[DJ q];simp[yC,ju,z7,jd,Q,I,J,y,z,jj,yo,d5,a,e,O,g,b]
 .have o:= ~~~q
  rw[o]at b;rw[DY q];simp[yC,ju,z7,jd,Q,I,J,y,z,jj,yo,d5,a,e,O,b]
theorem zh5(H:Pr p)(hn:n<=20)(S:Kh p n f g)(h2:Kh p n g f)(L:∀i j,i<n->j<n->0<=g i j/\g i j<p):yC [.int p,qh n n f]=aF (.val<|qh n n g):=by
 let(r,B,l,d,U,e):=BB H hn f;have two:=H.two;have W:eH p (n+n) n (λk=>xQ n (j8 k)<|g k) id:={
  lt:=λk y=>by simp?[id];lia
  mono:=λk m y _=>y
  one:=λk y=>by simp?[id];rw[jh y];show DJ rfl
  ij:=λk j y J=>by simp?[id]at J;rw[jh ()];show DY ()
  nE:=λk m y h O=>by simp?[id];rw[jh h];show DY ()
  hM:=λk i y a=>by
   rcases fY i n with z|z
   .rw[jh z];erw[j8];lia
   .let(j,rfl):∃j,i=n+j:=(i-n,by grind)
    rw[jD];show L k j y ()}
 have Y v:Span p (n+n) (dP n λk=>xQ n (j8 k)<|g k) v->Span p (n+n) (dP n λi=>xQ n (f i)<|j8 i) v:=λI=>I.le λs Q=>by
  let(k,y,b):=Q;subst b;show(Span.sum ((g k)) λi a=>.gen (i,a,rfl)).congr λj J=>?_;rcases fY j n with z|z
  .simp?[jh z]
   show(h2 k j y z).symm
  .let(m,rfl):∃m,j=n+m:=(j-n,())
   simp?[jD];rw[zV (i:=m) () λi _ O=>by simp[j8,O]];simp[j8]
 have Z v:Span p (n+n) (dP n λi=>xQ n (f i)<|j8 i) v->Span p (n+n) (dP n λk=>xQ n (j8 k)<|g k) v:=λI=>I.le λs Q=>by
  let(i,a,b):=Q;subst b;show(Span.sum ((f i)) λk y=>.gen (k,y,rfl)).congr λj J=>?_;rcases fY j n with z|z
  .simp?[jh z]
   rw[zV z λk _ O=>by simp[j8,O]];simp[j8]
  .let(m,rfl):∃m,j=n+m:=(j-n,())
   simp?[jD];show(S i m a ()).symm
 let(rfl,_,u):=YD H d W (λv I=>Z v<|(U v).mp I)<|λv I=>(U v).mpr (Y v I);rw[e,W0 λk i y a=>by rw[u k i y (),jh a],DJ<|y4 _,(W0 λk j y J=>by rw[u k (r+j) y (),jD])];rfl
end
section
def j1(A:Nat->eC)(N r:Nat):zn Nat:=(cT N).filter λj=>(A j).has r
def JV(A:Nat->eC)(N r:Nat):Nat->Nat->Int:=λi j=>(A<|(j1 A N r).getD j 0).v r i
theorem aQ(B:Pr p)(H:n<=16)(hs:∀v:Vc,∃t,∀i,i<n->v i%p=app f n t i%p):∃g,Kh p n f g/\Kh p n g f/\∀i j,0<=g i j/\g i j<p:=by
 have J:=B.pos;let(t,y):=R4 λj=>hs<|j8 j;show(λi j=>t j i%p,?_,?_,λi j=>(mZ _ (),m9 _ J))
 .intro i j d I
  have e:_=app f n (t j) i%p:=zZ λk _=>cE p _ _;rw[e,<-y j i d];erw[j8,i5];simp?[eq_comm]
 .intro i j d I
  have z:∀a,a<n->app f n (λb=>zo _ n-j8 j b) a%p=0:=λa h=>by
   rw[YH,Ke f I,o7];have e:app f n (λb=>zo (λk=>(t k b%p)*f k j) n) a%p=f a j%p:=by
    have l:app f n (λb=>zo (λk=>(t k b%p)*f k j) n) a=zo (λk=>f k j*app f n (λb=>t k b%p) a) n:=by rw[<-w9];congr 1;funext b;show xW ..
    rw[l];have O:zo (λk=>f k j*app f n _ a) n%p=zo (λk=>f k j*j8 k a) n%p:=zZ λk _=>by rw[eG,j7 (λb _=>kR _ _) a,<-y k a h,<-eG]
    rw[O,zV h λk _ Q=>by simp[j8,Q]];simp[j8]
   rw[e];simp
  rw[(RX.mpr<|Jb B H hs z i d)];erw[j8,i5];simp?[eq_comm]
theorem zjF(H:Pr p)(S:b<=16)(a3:b*(m+1)<=48)(O:∀k,wd k<=b)(hm:m<=5)(hT:∀k i j,k<m->i<fm w wd k->j<eX w wd k->0<=T k i j/\T k i j<p):
 ∃N A g,N<=48/\(∀j,j<N->nh p w wd T m (A j))/\(∀r,r<=m->(j1 A N r).length=wd r)/\(∀r,r<=m->Kh p (wd r) (JV A N r) (g r)/\Kh p (wd r) (g r) (JV A N r)/\∀i j,0<=g r i j/\g r i j<p)/\
  (∃B,((cT N).map λj=>aH<|A j)=(yd B).map aH)/\
  wo [qE p m w wd T]=aF (.val<|Vw ((cT N).map λj=>aH<|A j) (aW m wd g)<|aW m wd λr=>JV A N r):=by
 have hl:=jf;show dj λkZ=>?_;let(B,I,u,Y):=av H S a3 O hm hT;let(ok,sp,K):=I.perm<|Ku B;show kZ ?_;let A:=λj=>(yd B).getD j BD;have Q:yd B=(cT B.length).map A:=by rw[<-((Ku B).length_eq)];show(jz BD _).symm
 have W:=λj J=>ok _ (by
  rw[Q];show fx.mpr (j,ed.mpr J,rfl))
 have cnt r:r<=m->(j1 A B.length r).length=wd r:=λy=>by have:=K r y;rw[Q,D3,u9]at this;show this
 have x:=λr y v=>by
  have hv:Span p (wd r) (dP (wd r) λj i=>JV A B.length r i j) v:=(sp r y v).le λznb U=>by let(b,a,d,rfl):=U;rw[Q]at a;let(j,J,rfl):=fx.mp a;have C:j∈j1 A B.length r:=nN.mpr (J,~~~d);let(i,t,e):=_x C;show .gen (i,by rw[<-cnt r y];show t,?_);funext c;change(A j).v r c=(A<|(j1 A B.length r).getD i 0).v r c;rw[hB,eW t];simp[e]
  show rB.mp hv
 have E r:∃g,r<=m->Kh p (wd r) (JV A B.length r) g/\Kh p (wd r) g (JV A B.length r)/\∀i j,0<=g i j/\g i j<p:=by
  by_cases y:r<=m
  .let(g,h):=aQ H (fZ (O r) S) (x r y)
   show(g,λ_=>h)
  .exact(λ_ _=>0,λz=>absurd z y)
 let(g,U):=R4 E;have R:(yd B).map aH=(cT B.length).map λj=>aH (A j):=by simp_all
 show(B.length,A,g,u,W,cnt,U,(B,R.symm),?_)
 .have Z:B.length<=lim:=()
  have X:((yd B).map (xD wd))=(cT B.length).map λj=>xD wd (A j):=by
   conv=>lhs;rw[Q,gj]
   rfl
  rw[X]at Y;let L:D:=.lst ((cT B.length).map λj=>xD wd<|A j);have f j:j<B.length->(A j).s+(A j).n<=100:=λJ=>by have:=(W j J).le;lia
  have o:zI (.tp [0,1]) jb (zD yA<|zc (zf 1)<|zc (jY<|jx xA<|zc (zf 2)<|zc (zf 0) zH) zH) [.no,.no,.val L] ((cT<|m+1).map λ(i:Nat)=>D.tup [.int i,.int (wd i:Nat)])=aF (yF (m+1) wd λr=>JV A B.length r):=by erw[yF];show zk _ _ λr y=>zm rfl rfl ?_;have y:=ed.mp y;have l:=Ja (wd:=wd) f Z r;simp?[lV (wd r) (λj=>(A j).v r),show((cT B.length).filter λj=>(A j).has r)=j1 A B.length r from rfl,cnt r ()]at l;have ax:=O r;simp[-hB,L,l,(Xb (q:=wd r) (h:=wd r) (λi=>(A<|(j1 A B.length r).getD i 0).v r) () ())];rfl
  have M:zI (.nm 0) jb (zD yC<|zc (cR (zh 1)<|sI 0)<|zc (zf 0) zH) [.no,.val (qE p m w wd T)] (yF (m+1) wd λr=>JV A B.length r)=aF (yF (m+1) wd g):=by erw[yF];show zk _ _ λr y=>zm rfl rfl ?_;have y:=ed.mp y;let(a,d,h3):=U r ();simp[ZE,(zh5 H (by have:=O r;lia) a d λi j _ _=>h3 i j)]
  have P:zI (.nm 0) jb (zD qf<|zc (zf 0) zH) [.no] ((cT B.length).map λj=>xD wd<|A j)=aF (jy<|(cT B.length).map λj=>aH<|A j):=by erw[jy];rw[gj];show zk _ _ λj J=>zm rfl rfl ?_;have J:=ed.mp J;simp[(Vm (wd:=wd) (W j J).n1 (f j J))];show(rfl,rfl)
  have F:m+1<=lim:=()
  have G:∀g:DQ,(yF (m+1) wd g).length=m+1:=λg=>by simp[yF]
  dsimp?[L]at o;erw[Vw];rw[rQ,rQ];show zY (by simp[jd,z7,d5,Y,jj,ZE,mw _ _,F,o,G,M,Z,P])
theorem zjH(L:Pr p)(B:b<=16)(y:b*(m+1)<=48)(z:∀k,wd k<=b)(H:m<=5)(I:∀k i j,k<m->i<fm w wd k->j<eX w wd k->0<=T k i j/\T k i j<p):
 ∃N A g,N<=48/\(∀j,j<N->nh p w wd T m (A j))/\(∀r,r<=m->(j1 A N r).length=wd r)/\(∀r,r<=m->Kh p (wd r) (JV A N r) (g r)/\Kh p (wd r) (g r) (JV A N r)/\∀i j,0<=g r i j/\g r i j<p)/\
  wH ((cT N).map λj=>aH<|A j)=((cT N).map λj=>aH<|A j)/\
  wo [qE p m w wd T]=aF (.val<|Vw ((cT N).map λj=>aH<|A j) (aW m wd g)<|aW m wd λr=>JV A N r):=by
 show dj λJ=>?_;let(N,A,g,d,f,h,l,(a,e),n):=zjF L B y z H I;show J ?_;show(N,A,g,d,f,h,l,?_,n);have:=(Ku a).map aH;rw[bo]at this;rw[e,bo];show ZU this
end
section
def oZ(A:Nat->eC)(N:Nat):zn (Int×Int):=(cT N).map λj=>aH<|A j
theorem zk6(A N r):(j1 A N r).Nodup:=Si.sublist Sv
end
structure nP(p:Int)(w:DV)(wd:DX)(T:DQ)(m N:Nat)(A:Nat->eC):Prop where
 ok:∀j,j<N->nh p w wd T m (A j)
 sp:∀r,r<=m->∀v:Vc,∃t:Vc,∀i,i<wd r->v i%p=zo (λj=>if (A j).has r=aG then t j*(A j).v r i else 0) N%p
 inj:∀r,r<=m->∀t:Vc,(∀i,i<wd r->zo (λj=>if (A j).has r=aG then t j*(A j).v r i else 0) N%p=0)->∀j,j<N->(A j).has r=aG->t j%p=0
 cnt:∀r,r<=m->(j1 A N r).length=wd r
def Lk(p:Int)(w:DV)(wd:DX)(T:DQ)(k:Nat)(y z:Vc):Prop:=
 if w k=aG then ∀i,i<wd k->y i%p=app (T k) (wd<|k+1) z i%p else ∀i,i<wd (k+1)->z i%p=app (T k) (wd k) y i%p
def Wk(p:Int)(w:DV)(wd:DX)(T:DQ)(d:Nat):Nat->Vc->Vc->Prop
 |0,u,z=>∀i,i<wd d->u i%p=z i%p
 |n+1,u,z=>∃y,Wk p w wd T d n u y/\Lk p w wd T (d+n) y z
section
variable{p:Int}{w:DV}{wd:DX}{T:DQ}{m N:Nat}{A:Nat->eC}{d:Nat}
theorem gb(e:a%p=b%p)(z:a'%p=b'%p):(a+c*a')%p=(b+c*b')%p:=by rw[ix,e,eG,z,<-eG,<-ix]
theorem Rh(c:Int)(h:Lk p w wd T k y z)(h':Lk p w wd T k y' z'):Lk p w wd T k (λi=>y i+c*y' i) λi=>z i+c*z' i:=by
 erw[Lk]at *;split
 .next b=>
  rw[DJ b]at h h';intro i a;rw[gb (h i a) (h' i a)];show(YJ (λ_ _=>rfl) i).symm
 .next b=>
  rw[DY b]at h h';intro i a;rw[gb (h i a) (h' i a)];show(YJ (λ_ _=>rfl) i).symm
theorem Bw:∀n {u z I J:Vc} c,Wk p w wd T d n u z->Wk p w wd T d n I J->Wk p w wd T d n (λi=>u i+c*I i) λi=>z i+c*J i
 |0,u,z,I,J,c,h,h'=>λi a=>gb (h i a)<|h' i a
 |n+1,u,z,I,J,c,(y,h1,h2),(y',h1',h2')=>(_,Bw n c h1 h1',Rh c h2 h2')
theorem By(k:Nat):Lk p w wd T k (λ_=>0) λ_=>0:=by erw[Lk];split<;>show λi _=>by rw[Zs (λ_ _=>by simp) i];simp
theorem YM:∀n,Wk p w wd T d n (λ_=>0) λ_=>0
 |0=>λ_ _=>rfl
 |n+1=>(_,YM n,By _)
theorem FJ(h:Lk p w wd T k y z)(I:∀i,i<wd (k+1)->z' i%p=z i%p):Lk p w wd T k y z':=by
 erw[Lk]at *;split
 .next b=>rw[DJ b]at h;intro i a;rw[h i a];show(j7 I i).symm
 .next b=>rw[DY b]at h;intro i a;rw[I i a,h i a]
theorem Re:∀{n:Nat} {u z I:Vc},Wk p w wd T d n u z->(∀i,i<wd (d+n)->I i%p=z i%p)->Wk p w wd T d n u I
 |0,u,z,I,h,hz=>λi a=>by rw[h i a,hz i a]
 |n+1,u,z,I,(y,h1,h2),hz=>(y,h1,FJ h2 hz)
theorem Ve:∀{n:Nat} {u I z:Vc},Wk p w wd T d n u z->(∀i,i<wd d->I i%p=u i%p)->Wk p w wd T d n I z
 |0,u,I,z,h,hu=>λi a=>by rw[hu i a,h i a]
 |n+1,u,I,z,(y,h1,h2),hu=>(y,Ve h1 hu,h2)
theorem Hv(t:Vc)(u z:Nat->Vc):∀K,(∀j,j<K->Wk p w wd T d n (u j) (z j))->Wk p w wd T d n (λi=>zo (λj=>t j*u j i) K) λi=>zo (λj=>t j*z j i) K
 |0,_=>YM n
 |K+1,h=>Bw n (t K) (Hv t u z K λj y=>h j ())<|h K ()
theorem Fz(H:nh p w wd T m b)(I:k<m)(e:b.has k=aG)(B:b.has (k+1)=aG):Lk p w wd T k (b.v k) (b.v<|k+1):=by
 erw[Lk];cases hw:w k with
 |true=>
  have y:qu w k=k+1:=by erw[qu];rw[hw];rfl
  have z:qi w k=k:=by erw[qi];rw[hw];rfl
  rw[DJ rfl];intro i a;have:=H.arr k I (by rw[y];show B) i (by rw[z];show a);rw[y,z,e,DJ rfl]at this;show this.symm
 |false=>
  have y:qu w k=k:=by erw[qu];rw[hw];rfl
  have z:qi w k=k+1:=by erw[qi];rw[hw];rfl
  rw[DY ()];intro i a;have:=H.arr k I (by rw[y];show e) i (by rw[z];show a);rw[y,z,B,DJ rfl]at this;show this.symm
theorem Kd(z:nh p w wd T m b)(e:b.has d=aG):∀n,d+n<=m->b.has (d+n)=aG->Wk p w wd T d n (b.v d) (b.v<|d+n)
 |0,_,_=>λ_ _=>rfl
 |n+1,hn,h2=>by have a:b.has (d+n)=aG:=gp.mpr (by have:=gp.mp e;have:=gp.mp h2;grind);show(_,Kd z e n () a,Fz z () a h2)
theorem gY(B:nh p w wd T m b)(H:b.has d=aG)(e:w (b.s+b.n-1)=bB):∀n,d+n<=m->b.has (d+n)=bB->Wk p w wd T d n (b.v d) λ_=>0
 |0,_,h2=>by lia
 | n+1,hn,h2=>by
  cases h3:b.has (d+n)with
  |false=>show(_,gY B H e n () h3,By _)
  |true=>
   show(_,Kd B H n () h3,?_);have O:=gp.mp h3;have Q:¬(d+n+1<b.s+b.n):=λz=>by have:b.has (d+(n+1))=aG:=gp.mpr ();lia
   have y:b.s+b.n-1=d+n:=()
   rw[y]at e;have I:qu w (d+n)=d+n:=by erw[qu];rw[e];rfl
   have J:qi w (d+n)=d+n+1:=by erw[qi];rw[e];rfl
   have:=B.arr (d+n) ();rw[I,J]at this;erw[Lk];rw[e,DY ()];intro i a;rw[this h3 i a,show b.has (d+n+1)=bB from h2];simp
theorem QB(D:nP p w wd T m N A):∀n,d+n<=m->∀{u z:Vc},Wk p w wd T d n u z->∀{a b:Vc},(∀i,i<wd d->u i%p=zo (λj=>if (A j).has d=aG then a j*(A j).v d i else 0) N%p)->(∀i,i<wd (d+n)->z i%p=zo (λj=>if (A j).has (d+n)=aG then b j*(A j).v (d+n) i else 0) N%p)->
 ∀j,j<N->(A j).has d=aG->((A j).has (d+n)=aG->a j%p=b j%p)/\((A j).has (d+n)=bB->w ((A j).s+(A j).n-1)=aG->a j%p=0):=by
 have O r:r<=m->∀{v:Vc} {a b:Vc},(∀i,i<wd r->v i%p=zo (λj=>if (A j).has r=aG then a j*(A j).v r i else 0) N%p)->(∀i,i<wd r->v i%p=zo (λj=>if (A j).has r=aG then b j*(A j).v r i else 0) N%p)->∀j,j<N->(A j).has r=aG->a j%p=b j%p:=λS v a b B o j I J=>by
  show RX.mpr (D.inj r S (λj=>a j-b j) (λi f=>by
   have e:zo (λj=>if (A j).has r=aG then (a j-b j)*(A j).v r i else 0) N=zo (λj=>if (A j).has r=aG then a j*(A j).v r i else 0) N+zo (λj=>(if (A j).has r=aG then b j*(A j).v r i else 0)*(-1)) N:=by
    rw[<-jN];show zB λj _=>?_;split
    .rw[Int.sub_mul];lia
    .simp
   rw[e,xV,ix,<-B i f,eG,<-o i f,<-eG,<-ix,show v i+v i * -1=0 by lia];simp) j I J)
 have F k:k<m->∀(c:Vc) (r t:Nat),r=qu w k->t=qi w k->∀i,i<wd t->app (T k) (wd r) (la p A N c r) i%p=zo (λj=>if (A j).has t=aG then (if (A j).has r=aG then c j else 0)*(A j).v t i else 0) N%p:=λP c r t G H i f=>by
  rw[Bo];show zZ λj I=>?_;cases hx:(A j).has r with
  |false=>simp
  |true=>
   have q:=(D.ok j I).arr k P (by rw[<-G];show hx) i (by rw[<-H];show f);rw[<-G,<-H]at q;simp?[if_true];rw[eG,q,<-eG];cases hy:(A j).has t<;>simp
 intro n
 induction n with
 |zero=>
  intro R u z Q a b C x j I J;show(λ_=>O d () C (λi f=>by rw[Q i f];show x i f) j I J,λh=>?_);lia
 | succ n X=>
  intro R u z Q a b C x j I J;let(y,B,o):=Q;let(c,E):=D.sp (d+n) () y;let(U,K):=X () B C E j I J;have L i:i<wd (d+n)->y i%p=la p A N c (d+n) i%p:=λf=>by rw[E i f];erw[la];rw[kR]
  have M i:i<wd (d+n+1)->z i%p=la p A N b (d+n+1) i%p:=λf=>by rw[x i f];erw[la];rw[kR];rfl
  have znh:=gp.mp J;cases hw:w (d+n)with
  | false=>
   have W:qu w (d+n)=d+n:=by erw[qu];rw[hw];rfl
   have Y:qi w (d+n)=d+n+1:=by erw[qi];rw[hw];rfl
   erw[Lk]at o;rw[hw,DY ()]at o;have l:=O (d+n+1) () x λi f=>by rw[o i f,j7 L i];show F (d+n) () c (d+n) (d+n+1) W.symm Y.symm i f
   show(λh=>?_,λh Z=>?_)
   .have g:(A j).has (d+n)=aG:=gp.mpr (by have:=gp.mp h;lia)
    have:=l j I h;rw[g,DJ rfl]at this;rw[U g,this]
   .cases g:(A j).has (d+n)with
    |false=>show K g Z
    |true=>
     have q3:=gp.mp g;have q2:¬(d+n+1<(A j).s+(A j).n):=λz=>by have:(A j).has (d+(n+1))=aG:=gp.mpr ();lia
     grind
  | true=>
   have W:qu w (d+n)=d+n+1:=by erw[qu];rw[hw];rfl
   have Y:qi w (d+n)=d+n:=by erw[qi];rw[hw];rfl
   erw[Lk]at o;rw[hw,DJ rfl]at o;have l:=O (d+n) () E λi f=>by rw[o i f,j7 M i];show F (d+n) () b (d+n+1) (d+n) W.symm Y.symm i f
   show(λh=>?_,λh Z=>?_)
   .have g:(A j).has (d+n)=aG:=gp.mpr (by have:=gp.mp h;lia)
    have:=l j I g;rw[show(A j).has (d+n+1)=aG from h,DJ rfl]at this;rw[U g,this]
   .cases g:(A j).has (d+n)with
    |false=>show K g Z
    |true=>
     have:=l j I g;rw[show(A j).has (d+n+1)=bB from h,DY ()]at this;rw[U g,this];simp
end
section
variable{p:Int}{n:Nat}
theorem Hd{l:DX}:∀{r:Nat},(∀k m,k<m->m<r->l k<l m)->∃j,j<=r/\∀k,k<r->l k≠j
 |0,_=>(0,ec _,λk y=>absurd y<|oi _)
 | r+1,h=>by
  let(j,f,d):=Hd (r:=r) λk m a b=>h k m a ();by_cases e:l r=j
  .refine(r+1,ec _,λk y=>?_)
   rcases fY k r with z|z
   .have:=h k r z ();lia
   .rw[show k=r by lia];lia
  .refine(j,(),λk y=>?_)
   rcases fY k r with z|z
   .exact d k z
   .rw[show k=r by lia];show e
theorem OQ(H:Pr p)(inj:∀t,(∀i,i<h->app f N t i%p=0)->∀j,j<N->t j%p=0):N<=h:=by
 rcases fY h N with a3|Z
 .exfalso
  let(r,s,B,l,a,m):=Kx (n:=N) H h f;let(I,o,a1):=Hd a.mono;have U:I<N:=()
  let t:=λj=>if j=I then 1 else zo (λk=>if l k=j then B k I*(-1)else 0) r;have W:t I=1:=DJ rfl;have b:∀k,k<r->zo _ N=0:=λk O=>by
   have e:zo (λj=>B k j*t j) N=zo (λj=>(if j=I then B k I else 0)+zo (λy=>if l y=j then B k (l y)*(B y I*(-1))else 0) r) N:=zB λj Y=>by
    by_cases z:j=I
    .subst z
     rw[W,DJ rfl,zB λy J=>DY<|a1 y J,zX];simp
    .show B k j*(if j=I then _ else _)=_
     rw[DY z,DY z,Int.zero_add,nj,<-xV];show zB λy J=>?_;by_cases e:l y=j
     .rw[DJ e,DJ e,<-e,nj]
     .rw[DY e,DY e];simp
   rw[e,jN,zV U<|λj _ Q=>DY Q,DJ rfl,xU];rw[(zB λy J=>by rw[zV (a.lt y J) λj _ Q=>DY<|ew Q,DJ rfl]),zV O λy J Q=>by rw[a.nE k y O J Q];simp]
   rw[a.one k O];lia
  have:=inj t (λi g=>by
   erw[app];have e:zo (λj=>f i j*t j) N%p=zo (λj=>zo _ r*t j) N%p:=zZ λj Y=>by rw[eG,(XO a<|(m<|f i).mpr (.gen (i,g,rfl))) j Y,<-eG]
   rw[e];have d:zo (λj=>zo (λk=>f i (l k)*B k j) r*t j) N=zo (λk=>f i (l k)*zo (λj=>B k j*t j) N) r:=by rw[zB λj _=>(xV _ _ _).symm,xU];show zB λk _=>?_;rw[<-jS];show zB λj _=>oX _ _ _
   rw[d,zB λk O=>by rw[b k O,sm],zX];simp) I U
  rw[W,H.one]at this;lia
 .exact Z
theorem V5(W:Nat->Vc)(t:Vc):Span p n (dP m W) λi=>zo (λj=>t j*W j i) m:=Span.sum t λj y=>.gen (j,y,rfl)
theorem Ph(H:Pr p)(e:eH p n s B l)(sp:∀v,Span p n (dP s B) v↔Span p n (dP m W) v)(y:∀t:Vc,(∀i,i<n->zo (λj=>t j*W j i) m%p=0)->∀j,j<m->t j%p=0):m=s:=by
 have b:s<=m:=by let(r,O,z):=Kx H m W;have:=QJ H (B,l,e,sp) z;lia
 have f:=KC e;have d:=OQ H λt I=>y t λi a=>by
  rw[(XO e ((sp _).mpr (V5 W t)) i a)];have:zo (λk=>zo (λj=>t j*W j (l k)) m*B k i) s%p=zo (λ_=>0) s%p:=zZ λk J=>by have:=I k J;erw[app]at this;rw[xW]at this;rw[eG,this];simp
  rw[this,zX];simp
 lia
theorem Fj(hp:Pr p){s q c:Nat}{B H V:Nat->Vc}{l L:DX}(zhZ:eH p n s B l)(J:eH p n q H L)(a2:∀j,j<c->Span p n (dP s B) (V j))(S:∀v,Span p n (dP q H) v->Span p n (dP s B) v)
 (r0:∀v,Span p n (dP s B) v->∃t:Vc,Span p n (dP q H) λi=>v i-zo (λj=>t j*V j i) c) (a4:∀t:Vc,Span p n (dP q H) (λi=>zo (λj=>t j*V j i) c)->∀j,j<c->t j%p=0):q+c=s:=by
 let W:=λj=>if j<q then H j else V (j-q);have d j:j<q->W j=H j:=λy=>DJ y;have f j:W (q+j)=V j:=by change(if q+j<q then _ else _)=_;rw[DY (),sh]
 have U:∀t:Vc,∀i,zo (λj=>t j*W j i) (q+c)=zo (λj=>t j*H j i) q+zo (λj=>t (q+j)*V j i) c:=λt i=>by
  rw[Jn];congr 1
  .exact zB λj y=>by rw[d j y]
  .exact zB λj y=>by rw[f j]
 show Ph hp zhZ (W:=W) (λv=>(λO=>?_,λO=>O.le λg Q=>?_)) λt Y=>?_
 .let(t,h):=r0 v O
  have r:Span p n (dP (q+c) W) λi=>zo (λj=>t j*V j i) c:=Span.sum t λj y=>by rw[<-f j];show .gen (q+j,(),rfl)
  show(r.add (h.le λg Q=>by let(k,I,rfl):=Q;rw[<-d k I];show .gen (k,(),rfl)) 1).congr λi _=>by lia
 .let(k,I,rfl):=Q
  rcases fY k q with z|z
  .rw[d k z];show S _<|.gen (k,z,rfl)
  .let(j,rfl):∃j,k=q+j:=(k-q,())
   rw[f j];show a2 j ()
 .have Z:=a4 (λj=>t<|q+j) ((V5 H _).congr λi b=>by
   have:=Y i b;rw[U]at this;have e:zo (λj=> -1*t j*H j i) q=zo (λj=>t j*H j i) q * -1:=by rw[<-xV];show zB λj _=>by simp?[nj (-1),oX,nj (-1),oX]
   rw[e];show RX.mpr ?_;lia)
  intro j y;rcases fY j q with z|z
  .have o:=λi b=>by
    have:=Y i b;rw[U,ix]at this;have e:zo (λj=>t (q+j)*V j i) c%p=zo (λ_=>0) c%p:=zZ λj y=>by rw[eG,Z j y];simp
    rw[e,zX]at this;simpa using this
   have a:=o (L j)<|J.lt j z;rw[zV z λk I m=>by rw[J.nE k j I z (ew m)];simp]at a;rw[J.one j z,D4]at a;show a
  .let(k,rfl):∃k,j=q+k:=(j-q,())
   show Z k ()
end
def m2(A:Nat->eC)(N d e:Nat):zn Nat:=(cT N).filter λj=>(A j).has d&&(A j).has e
section
variable{p:Int}{w:DV}{wd:DX}{T:DQ}{m N n:Nat}{A:Nat->eC}{d:Nat}
theorem AS(y:k<(m2 A N d e).length):(m2 A N d e).getD k 0<N/\(A<|(m2 A N d e).getD k 0).has d=aG/\(A<|(m2 A N d e).getD k 0).has e=aG:=by
 have f:(m2 A N d e).getD k 0∈m2 A N d e:=by rw[hB,eW y];show L6 _
 let(b,a):=nN.mp f;simp?[fS]at a;show(ed.mp b,a.1,a.2)
theorem Fp(d e:Nat)(t:Vc):∃a:Vc,∀k,k<(m2 A N d e).length->a ((m2 A N d e).getD k 0)=t k:=by show(λj=>t<|(m2 A N d e).idxOf j,λk y=>?_);have b:(m2 A N d e).Nodup:=Si.sublist Sv;change t _=_;rw[hB,eW y,Sa,b.idxOf_getElem _ y]
theorem AQ(d e:Nat)(a:Vc)(i:Nat):zo (λk=>a ((m2 A N d e).getD k 0)*(A<|(m2 A N d e).getD k 0).v d i) (m2 A N d e).length=zo (λj=>if (A j).has d=aG then (if (A j).has e=aG then a j else 0)*(A j).v d i else 0) N:=by show(Zk (λj=>(A j).has d&&(A j).has e) (λj=>a j*(A j).v d i) N).trans (zB λj _=>?_);lia
theorem WR(S:Pr p)(D:nP p w wd T m N A)(H:d+n<=m){s q:Nat}{B L:Nat->Vc}{l l2:DX}(W:eH p (wd d) s B l)(I:∀u,Span p (wd d) (dP s B) u ↔ ∃z,Wk p w wd T d n u z)
 (U:eH p (wd d) q L l2) (J:∀u,Span p (wd d) (dP q L) u↔Wk p w wd T d n u λ_=>0):q+(m2 A N d<|d+n).length=s:=by
 have E:=KC U;show Fj S W U (V:=λk=>(A<|(m2 A N d<|d+n).getD k 0).v d) (λk y=>?_) (λv O=>(I v).mpr (_,(J v).mp O)) (λv O=>?_) λt Y=>?_
 .let(g,o,f):=AS y
  show(I _).mpr (_,Kd (D.ok _ g) o n H f)
 .let(z,Z):=(I v).mp O
  let(a,r):=D.sp d () v;let(b,C):=D.sp (d+n) H z;show(λk=>a<|(m2 A N d<|d+n).getD k 0,(J _).mpr ?_);let u:=λj=>if (A j).has d=aG/\(A j).has (d+n)=bB/\w ((A j).s+(A j).n-1)=bB then (A j).v d else λ_=>0;show Re (Ve (Hv a u _ N (λj Q=>by
   change Wk p w wd T d n (if _ then _ else _) _;split
   .next h=>show gY (D.ok j Q) h.1 h.2.2 n H h.2.1
   .exact YM n)) λi x=>?_) λi _=>by simp[zX]
  rw[AQ d (d+n) a i];rw[o7,r i x,<-o7];have e:zo (λj=>if (A j).has d=aG then a j*(A j).v d i else 0) N-zo (λj=>if (A j).has d=aG then (if (A j).has (d+n)=aG then a j else 0)*(A j).v d i else 0) N=zo (λj=>(if (A j).has d=aG then a j*(A j).v d i else 0)+(if (A j).has d=aG then (if (A j).has (d+n)=aG then a j else 0)*(A j).v d i else 0) * -1) N:=by rw[jN,xV];lia
  rw[e];show zZ λj Q=>?_;change _=a j*(if _ then (A j).v d else λ_=>0) i%p;cases g:(A j).has d with
  |false=>simp
  | true=>
   cases o:(A j).has (d+n)with
   |true=>
    lia
   | false=>
    cases f:w _ with
    |false=>simp
    |true=>
     simp?[if_true,tL,if_false,MJ,wh,sm,Bool.true_eq_false,and_false];rw[eG,(((QB D n H Z r C) j Q g).2 o f)];simp
 .let(a,r):=Fp d (d+n) t
  intro k y;let(g,o,f):=AS y;have:=((QB D n H ((J _).mp Y) (λi x=>by
   rw[<-AQ d (d+n) a i];congr 1;show zB λk y=>by rw[r k y]) (λi _=>by
   have:zo (λj=>if (A j).has (d+n)=aG then 0*(A j).v (d+n) i else 0) N=zo (λ_=>0) N:=zB λj _=>by simp
   rw[this,zX])) _ g o).1 f
  rw[f,DJ rfl,r k y]at this;simpa using this
theorem Wq:∀t z,rj p w wd T d (wd d) t z↔Wk p w wd T d t z λx=>z (wd d+x)
 |0,z=>Iff.rfl
 |t+1,z=>by
  show exists_congr λu=>and_congr ((λu=>by rw[Wq t];rw[(funext jD)];show(λh=>Ve h λi a=>by rw[jh a],λh=>Ve h λi a=>by rw[jh a])) u) Iff.rfl
end
section
theorem EE(r:Nat)(t:Vc):∃a:Vc,∀k,k<(j1 A N r).length->a ((j1 A N r).getD k 0)=t k:=by show(λj=>t<|(j1 A N r).idxOf j,λk y=>?_);change t _=_;rw[hB,eW y,Sa,(zk6 A N r).idxOf_getElem _ y]
theorem uX(r:Nat)(a:Vc)(i:Nat):zo (λj=>if (A j).has r=aG then a j*(A j).v r i else 0) N=app (JV A N r) (j1 A N r).length (λk=>a<|(j1 A N r).getD k 0) i:=by rw[<-(Zk (λj=>(A j).has r) (λj=>a j*(A j).v r i) N)];erw[app];rw[xW];rfl
theorem OM(y:j<N)(z:(A j).has r=aG):∃k,k<(j1 A N r).length/\(j1 A N r).getD k 0=j:=by have I:j∈j1 A N r:=nN.mpr (ed.mpr y,~~~z);let(i,a,e):=_x I;show(i,a,by rw[hB,eW a];simpa using e)
theorem LC(hp:Pr p)(O:∀k,wd k<=16)(ok:∀j,j<N->nh p w wd T m (A j))(cnt:∀r,r<=m->(j1 A N r).length=wd r)(J:∀r,r<=m->∀v:Vc,∃t,∀i,i<wd r->v i%p=app (JV A N r) (wd r) t i%p):nP p w wd T m N A where
 ok:=ok
 cnt:=cnt
 sp:=λr y v=>by let(t,z):=J r y v;let(a,ha):=EE (A:=A) (N:=N) r t;show(a,λi hi=>?_);rw[z i hi,uX,cnt r y];erw[app];congr 1;show zB λk I=>by change _=_*a _;rw[ha k (by rw[cnt r y];show I)]
 inj:=λr y t z j Q U=>by
  let(k,I,e):=OM Q U;have:=Jb hp (O r) (J r y) (t:=λk=>t<|(j1 A N r).getD k 0) (λi hi=>by have:=z i hi;rw[uX,cnt r y]at this;show this) k (by rw[<-cnt r y];show I)
  rw[e]at this;show this
end
section
theorem ic(F G:DW)(n k:Nat)(u:Vc)(i:Nat):app F n (app G k u) i=zo (λj=>zo (λb=>F i b*G b j) n*u j) k:=by
 erw[app];have e:zo (λb=>F i b*_) n=zo (λb=>zo (λj=>F i b*G b j*u j) k) n:=zB λb _=>by rw[<-jS];show zB λj _=>(oX _ _ _).symm
 rw[e,xU];show zB λj _=>xV _ _ _
theorem XT(h:Kh p n F G)(u:Vc)(B:i<n):app F n (app G n u) i%p=u i%p:=by
 rw[ic];have e:zo (λj=>zo _ n*u j) n%p=zo (λj=>i5 i j*u j) n%p:=zZ λj y=>by rw[eG,h i j B y,<-eG]
 rw[e,zV B λj _ z=>by erw[i5];rw[DY (ew z),MJ]];erw[i5];rw[DJ rfl,M9]
theorem BY(k:Nat)(u:Vc)(i:Nat):app (QC p w wd f g T k) (wd<|qu w k) u i%p=app (f<|qi w k) (wd<|qi w k) (app (T k) (wd<|qu w k)<|app (g<|qu w k) (wd<|qu w k) u) i%p:=by
 rw[ic];change _=app (λi b=>zo (λa=>f (qi w k) i a*T k a b) _) _ _ i%p;rw[ic];show(by
  erw[app];show zZ λj _=>?_;rw[eG];have y:QC p w wd f g T k i j%p=zo (λb=>zo (λa=>f (qi w k) i a*T k a b) (wd<|qi w k)*g (qu w k) b j) (wd<|qu w k)%p:=by erw[QC];rw[kR];show zZ λb _=>?_;rw[eG,kR,<-eG,nj,zB λa _=>nj _ _]
  rw[y,<-eG])
def rK(p:Int)(wd:DX)(f:DQ)(x:eC):eC:=(x.s,x.n,λr i=>app (f r) (wd r) (x.v r) i%p)
theorem Kn(x:eC)(r i:Nat):(rK p wd f x).v r i%p=app (f r) (wd r) (x.v r) i%p:=kR _ _
theorem MO(q:DV)(t:Vc)(F:DW)(n r i:Nat)(X:Nat->eC):zo (λj=>if q j=aG then t j*app F n ((X j).v r) i else 0) N=app F n (λi=>zo (λj=>if q j=aG then t j*(X j).v r i else 0) N) i:=by
 have a:(λi=>zo (λj=>if q j=aG then t j*(X j).v r i else 0) N)=λi=>zo (λj=>(if q j=aG then t j else 0)*(X j).v r i) N:=by funext i;show zB λj _=>by split<;>simp
 rw[a,w9 F n _ _ N i];show zB λj _=>by split<;>simp
theorem aU(H:0<p)(B:∀r,r<=m->Kh p (wd r) (f r) (g r))(e:∀r,r<=m->Kh p (wd r) (g r) (f r))(D:nP p w wd T m N A):nP p w wd (QC p w wd f g T) m N λj=>rK p wd f (A j):=by
 have Z z:0<=z%p/\z%p<p:=(mZ _ (),m9 _ H);have W:∀r i (t:Vc),zo (λj=>if (A j).has r=aG then t j*(rK p wd f<|A j).v r i else 0) N%p=app (f r) (wd r) (λi=>zo (λj=>if (A j).has r=aG then t j*_ else 0) N) i%p:=λr i t=>by
  rw[<-MO _ t (f r) (wd r) r i A];show zZ λj _=>?_;split
  .rw[eG,Kn,<-eG]
  .rfl
 show(λj O=>?_,λr J v=>?_,λr J t Q j O U=>?_,D.cnt)
 .have b:=D.ok j O
  show(b.n1,b.le,λr i _ _=>Z _,λk Y U i a=>?_);rw[BY];have d:∀x,x<_->app _ _ ((rK p wd f<|A j).v (qu w k)) x%p=_:=λx I=>by rw[j7 (λy _=>Kn _ _ _),XT (e _ (by have:=gW w Y;lia)) _ I]
  have h:∀x,x<_->_%p=(if _=aG then (A j).v (qi w k) x else 0)%p:=λx I=>by rw[j7 d];show b.arr k Y U x I
  rw[j7 h];change _=(if (A j).has (qi w k)=aG then (rK p wd f<|A j).v (qi w k) i else 0)%p;by_cases I:(A j).has (qi w k)=aG
  .simp?[I,if_true]
   show(Kn _ _ _).symm
  .simp?[I,if_false]
   rw[Zs (λ_ _=>by simp) i];simp
 .let(t,Q):=D.sp r J _
  show(t,λi a=>?_);change _=zo (λj=>if (A j).has r=aG then t j*_ else 0) N%p;simp?[W,<-XT (B r J) v a];show j7 Q i
 .refine D.inj r J t (λi a=>?_) j O U
  rw[<-XT (e r J) (λi=>zo (λj=>if (A j).has r=aG then t j*(A j).v r i else 0) N) a];show Zs (λx I=>by rw[<-W];show Q x I) i
end
def zbc(S E:DX)(j:Nat):eC:=(S j,E j-S j+1,λ_ _=>0)
def xR(S E:DX)(N r:Nat):zn Nat:=j1 (zbc S E) N r
def Ey(S E:DX)(N j:Nat):eC:=(S j,E j-S j+1,λr i=>if (xR S E N r).getD i N=j then 1 else 0)
def Eu(S E:DX)(N r:Nat):Nat:=(xR S E N r).length
def Ex(w:DV)(S E:DX)(N k i j:Nat):Int:=if (xR S E N<|qi w k).getD i N=(xR S E N<|qu w k).getD j (N+1)then 1 else 0
section
variable{S E:DX}{N r:Nat}
theorem Cd:(xR S E N r).Nodup:=List.Nodup.sublist Sv Si
theorem r_:j∈xR S E N r↔j<N/\(Ey S E N j).has r=aG:=by erw[xR,j1];rw[nN,ed];rfl
theorem iM(h:j<N)(y:(Ey S E N j).has r=aG):∃c,c<Eu S E N r/\(xR S E N r)[c]? = aF j:=by let(c,a):=X_<|r_.mpr (h,y);show(c,(kG.mp a).1,a)
theorem Kr(h:c<Eu S E N r):∃j,(xR S E N r)[c]? = aF j/\(xR S E N r).getD c d=j/\j<N/\(Ey S E N j).has r=aG:=by have e:=eW h;let(a,b):=r_.mp<|oA e;show(_,e,by rw[hB,e];rfl,a,b)
theorem bh{c y j:Nat}(e:(xR S E N r)[c]? = aF j)(z:(xR S E N r)[y]? = aF j):c=y:=by show(List.getElem?_inj (kG.mp e).1 Cd).mp (e.trans z.symm)
theorem VD(h:c<Eu S E N r):(Ey S E N j).v r c=if (xR S E N r)[c]? = aF j then 1 else 0:=by
 let(y,a,I,_):=Kr h;change(if _=j then 1 else 0)=_;rw[a,I];by_cases z:y=j
 .rw[DJ z,DJ (by rw[z])]
 .rw[DY z,DY (λq=>z<|l8 q)]
theorem lZ(H:Pr p)(B:∀j,j<N->S j<=E j/\E j<=m):nP p w (Eu S E N) (Ex w S E N) m N (Ey S E N):=by
 have two:=H.two;show(λj I=>(by change 1<=_+1;lia,by change S j+(E j-S j+1)<=m+1;have:=B j I;lia,λr i _ _=>?_,λk A U i a=>?_),λr h v=>?_,λr h t o j I U=>?_,λr h=>rfl)
 .show 0<=(if _ then (1:Int)else 0)/\(if _ then 1 else 0)<p
  split<;>lia
 .refine dj λW=>?_;let(b,J,O):=iM I U
  let(u,Q,l,n,Y):=Kr a;show W ?_;have e:app (Ex w S E N k) (Eu S E N<|qu w k) ((Ey S E N j).v (qu w k)) i=Ex w S E N k i b:=by
   erw[app];rw[zV J λc g y=>by rw[VD g,DY<|λq=>y<|bh q O,sm]]
   rw[VD J,DJ O,D4]
  rw[e];congr 1;erw[Ex];rw[show(xR S E N<|qu w k).getD b (N+1)=j by rw[hB,O];rfl];by_cases Z:(Ey S E N j).has (qi w k)=aG
  .rw[DJ Z];rfl
  .rw[DY Z,l,DY (λz=>Z<|by rw[<-z];show Y)]
 .refine(λj=>zo (λc=>if (xR S E N r)[c]? = aF j then v c else 0)<|Eu S E N r,λi a=>?_)
  show dj λW=>?_;let(u,Q,l,n,Y):=Kr (d:=N) a;show W ?_;rw[zV (f:=λj=>if _=aG then _*_ else 0) n λj I y=>by rw[VD a,show(if _=aF j then (1:Int)else 0)=0 from DY<|λq=>y<|l8<|q.symm.trans Q,sm,ite_self]]
  rw[DJ Y,VD a,DJ Q,D4,zV a λc g y=>DY λq=>y<|bh q Q,DJ Q]
 .let(b,J,O):=iM I U
  have:=o b J;rw[zV I λs x y=>by rw[VD J,show(if _=aF s then (1:Int)else 0)=0 from DY<|λq=>y<|l8<|q.symm.trans O,sm,ite_self]]at this
  rw[DJ U,VD J,DJ O,D4]at this;show this
theorem Ew(e:Pr p):∀k x y,0<=Ex w S E N k x y/\Ex w S E N k x y<p:=λk x y=>by have:=e.two;erw[Ex];split<;>lia
end
section
variable{p:Int}{w:DV}{wd:DX}{T:DQ}{m:Nat}
theorem zjS(H:eH p (a+b) q B l)(hs:s<=q)(L:∀k,k<s->l k<a)(S:∀k,s<=k->k<q->a<=l k):
 eH p a s B l/\∀u,Span p a (dP s B) u ↔ ∃z,Span p (a+b) (dP q B) (xQ a u z):=by
 show({
  lt:=L
  mono:=λk m f g=>H.mono k m f ()
  one:=λk y=>H.one k ()
  ij:=λk j y J=>H.ij k j () J
  nE:=λk m y h O=>H.nE k m () () O
  hM:=λk i y d=>H.hM k i () ()},λu=>(λI=>?_,λI=>?_))
 .let(t,Q):=Ks I
  show(λj=>zo (λk=>t k*B k (a+j)) s,(Span.sum t (m:=s) λk y=>.gen (k,(),rfl)).congr λi d=>?_);rcases fY i a with z|z
  .rw[jh z,Q i z]
  .let(j,rfl):∃j,i=a+j:=(i-a,())
   rw[jD]
 .let(z,U):=I
  show(V5 B λk=>xQ a u z<|l k).congr λi d=>?_;have:=(XO H U) i ();rw[jh d]at this;rw[this];let(e,rfl):∃e,q=s+e:=(q-s,());rw[Jn];have W:zo (λk=>xQ a u z (l<|s+k)*B (s+k) i) e=zo (λ_=>0) e:=zB λk y=>by rw[H.ij (s+k) i () (by have:=S (s+k) () ();lia)];simp
  simp?[W,zX,wh]
theorem ziy(v:Vc):Span p (b+a) (dP q λk=>xQ b (λj=>B k<|a+j)<|B k) (xQ b (λ_=>0) v)↔Span p (a+b) (dP q B) (xQ a v λ_=>0):=by
 constructor
 .intro h
  show(h.map (λi=>if i<a then b+i else i-a) (λi d=>by split<;>omega) λg y=>?_).congr λi d=>?_
  .let(k,I,rfl):=y
   show(Span.gen (k,I,rfl)).congr λi d=>?_;change xQ b _ (B k) _%p=_;split
   .rw[jD]
   .rw[jh ()];congr 2;omega
  .split
   .next z=>rw[jD,jh z]
   .next z=>
    let(j,rfl):∃j,i=a+j:=(i-a,());rw[jD,jh ()]
 .intro h
  show(h.map (λi=>if i<b then a+i else i-b) (λi d=>by split<;>omega) λg y=>?_).congr λi d=>?_
  .let(k,I,rfl):=y
   show(Span.gen (g:=xQ b _<|B k) (k,I,rfl)).congr λi d=>?_;split
   .next z=>rw[jh z]
   .next z=>
    let(j,rfl):∃j,i=b+j:=(i-b,());rw[jD];grind
  .split
   .next z=>rw[jD,jh z]
   .next z=>
    let(j,rfl):∃j,i=b+j:=(i-b,());rw[jD,jh ()];congr 2;omega
theorem EB(H:Pr p)(U:∀k,wd k<=8)(hT:∀k x y,0<=T k x y/\T k x y<p)(hm:m<=20){i j:Nat}(S:i<=j)(hj:j<=m):
 ∃(s q:Nat) (B e:Nat->Vc) (l l2:DX),J2 [qE p m w wd T,.int i,.int j]=aF (.val<|.int<|s-q)/\eH p (wd i) s B l/\(∀u,Span p (wd i) (dP s B) u ↔ ∃z,Wk p w wd T i (j-i) u z)/\eH p (wd i) q e l2/\∀u,Span p (wd i) (dP q e) u↔Wk p w wd T i (j-i) u λ_=>0:=by
 have hl:=jf;have ha:=U i;have an:=U j;show dj λkZ=>?_;let(q,B,l,K,a,W):=BA (w:=w) H U hT S hj;have hq:=KC a;have O:q<=lim:=()
 let(r,E,l',Z,Q,hS):=kB H (():wd j+wd i<=100) O .L _;have hr:=KC Q;let(s,t,A,C):=Zl (wd i) a.mono;let(b,f,g,n):=Zl (wd j) Q.mono;let(M,N):=zjS a t A C;let(P,X):=QD Q f g n;show kZ ?_;show(s,r-b,B,_,l,_,?_,M,λu=>?_,P,λu=>?_)
 .have ad:i<m+1:=()
  have F:j<m+1:=()
  have sw:zI (.nm 0) jb (zF qv (dX (zf 0) (fP<|zf 1) Jk)<|dX (zf 0) Jk<|fP<|zf 1) [.no,vI (wd i)] (ja q (wd i+wd j) B)=aF (ja q (wd j+wd i) λk=>xQ (wd j) (λx=>B k<|wd i+x)<|B k):=by
   erw[ja];show zk _ _ λk hk=>zm rfl rfl ?_;have o:wd j+wd i<=lim:=()
   simp[W6,W5,qv,o,yS]
  let R:=qE p m w wd T;let I:D:=.lst (ja q (wd i+wd j) B);let d:D:=.lst (ja r (wd j+wd i) E);rw[J2];show zY (zx (γ':=[.val R,vI i,vI j,.val I,.no,.no,.no]) ?_
   (zx (γ':=[.val R,vI i,vI j,.val I,vI<|wd i,.no,.no]) ?_
   (zx (γ':=[.val R,vI i,vI j,.val I,vI<|wd i,vI<|wd j,.no]) ?_
   (zx (γ':=[.val R,vI i,vI j,.val I,vI<|wd i,vI<|wd j,.val d]) ?_ ?_))))
  .simp[e',z7,d5,R,I,K]
  .simp[e_,R,ZE,ad]
  .simp[f_,R,ZE,F]
  .have G:((wd j)+(wd i))=((wd j+wd i:Nat):Int):=()
   have o:=()
   simp?[mu]at Z;simp[g_,jj,R,ZE,I,O,sw];rw[G,Z];rfl
  .have r1:q-s<=lim:=()
   have f1:q-((r-b:Nat))-((q-s:Nat))=s-((r-b:Nat):Int):=()
   simp[h_,I,d,wg a O t A C,wg Q () f g n,O,r1,(),f1]
 .rw[N u]
  constructor
  .rintro⟨z,Y⟩
   show(_,Ve ((Wq (j-i) _).mp ((W _).mp Y)) λx J=>by rw[jh J])
  .rintro⟨z,Y⟩
   show(z,(W _).mpr ((Wq (j-i) _).mpr ?_));rw[funext jD];show Ve Y λx J=>by rw[jh J]
 .rw[X u,hS,ziy,W,Wq,funext jD]
  show(λh=>Ve h λx J=>by rw[jh J],λh=>Ve h λx J=>by rw[jh J])
end
def stN(M:Nat):zn (Nat×Nat):=(cT M).flatMap λi=>(List.range' i<|M-i).map λj=>(i,j)
theorem P4:s∈stN M↔s.1<=s.2/\s.2<M:=by
 erw[stN];simp?[List.mem_flatMap,ed,fx,List.mem_range'_1];constructor
 .rintro⟨i,a,j,y,rfl⟩
  show(y.1,by change j<M;lia)
 .intro h
  show(s.1,(),s.2,(h.1,by grind),rfl)
def lR(K:zn (Nat×Nat))(a b:Int):Nat:=K.countP λx=>decide ((x.1:Int)<=a)&&decide (b<=(x.2:Int))
def pM(K:zn (Nat×Nat))(s:Nat×Nat):Nat:=K.countP λx=>decide<|x=s
theorem X9(x:Nat×Nat)(K:zn (Nat×Nat))(a b:Int):(lR (x::K) a b)=(lR K a b:Int)+if (x.1)<=a/\b<=(x.2)then 1 else 0:=by
 erw[lR]
 grind
theorem Em(x s:Nat×Nat)(K:zn (Nat×Nat)):(pM (x::K) s)=(pM K s:Int)+if (x.1=s.1/\x.2=s.2)then 1 else 0:=by
 erw[pM];rw[List.countP_cons];by_cases h:x=s
 .rw[DJ (decide_eq_true h),DJ (by rw[h];show(rfl,rfl))];rfl
 .rw[DY (~~~h),DY λz=>h (Prod.ext z.1 z.2)];rfl
theorem OR{p y q z e f:Prop} [Decidable p] [Decidable y] [Decidable q] [Decidable z] [Decidable e] [Decidable f]{A B C E M:Int}(H:y->p)(J:z->q)(L:e↔p/\¬y)(O:f↔q/\¬z)(I:A-(B+C)+E=M):A+(if p/\q then 1 else 0)-(B+(if y/\q then 1 else 0)+(C+if p/\z then 1 else 0))+(E+if y/\z then 1 else 0)=M+if e/\f then 1 else 0:=by
 by_cases y<;>by_cases z<;>simp_all<;>try split
 all_goals lia
theorem Yl(s:Nat×Nat):∀K,(lR K s.1 s.2)-((lR K ((s.1:Int)-1) s.2)+(lR K s.1<|(s.2:Int)+1))+(lR K ((s.1:Int)-1)<|(s.2:Int)+1)=(pM K s:Int)
 |[]=>rfl
 |x::K=>by rw[X9,X9,X9,X9,Em];show OR () () () ()<|Yl s K
section
def pZ(A:Nat->eC)(N:Nat):zn (Nat×Nat):=(cT N).map λj=>((A j).s,(A j).s+(A j).n-1)
theorem WQ(D:nP p w wd T m N A):∀x,x∈pZ A N->x∈stN (m+1):=λx z=>by let(j,y,rfl):=fx.mp z;have a:=(D.ok j<|ed.mp y).n1;have b:=(D.ok j<|ed.mp y).le;show P4.mpr ()
theorem AW(D:nP p w wd T m N A)(z:i<=j):(m2 A N i j).length=lR (pZ A N) i j:=by erw[m2,lR,pZ];rw[<-u9,D3];show tX λk y=>?_;have a:=(D.ok k<|ed.mp y).n1;simp?[fS,S1,decide_eq_true_eq];rw[gp,gp];omega
theorem zk3(H:Pr p)(I:∀k,wd k<=8)(J:∀k x y,0<=T k x y/\T k x y<p)(L:m<=20)(D:nP p w wd T m N A)(z:i<=j)(O:j<=m):J2 [qE p m w wd T,.int i,.int j]=aF (.val<|.int<|(lR (pZ A N) i j:Nat)):=by show dj λQ=>?_;let(s,q,B,g,l,h,e,a,b,d,f):=EB H I J L z O;show Q ?_;have:=WR H D () a b d f;rw[show i+(j-i)=j by lia]at this;rw[e,<-AW D z];congr 3;lia
end
theorem NR(h:0<=c):∃q:Nat,Pr q/\([D.int 2,.int 3,.int 5,.int 7])[(c%4).toNat]? = aF (.int q)/\fX 4 (c%4)=aF (c%4).toNat:=by
 let(r,y):=K2 (mZ c<|show 4≠0 by decide);rw[y];have z:r<4:=()
 rcases (():r=0\/r=1\/r=2\/r=3)with e|e|e|e<;>subst e
 .exact(2,.inl rfl,rfl,rfl)
 .exact(3,.inr<|.inl rfl,rfl,rfl)
 .exact(5,.inr<|.inr<|.inl rfl,rfl,rfl)
 .exact(7,.inr<|.inr<|.inr rfl,rfl,rfl)
def bS(bs:zn (Int×Int))(j:Nat):Nat:=(bs.getD j (0,0)).1.toNat
def bE(bs:zn (Int×Int))(j:Nat):Nat:=(bs.getD j (0,0)).2.toNat
abbrev bW(bs:zn (Int×Int)):Nat->Nat:=Eu (bS bs) (bE bs) bs.length
abbrev bT(w:DV)(bs:zn (Int×Int)):Nat->Nat->Nat->Int:=Ex w (bS bs) (bE bs) bs.length
abbrev bL(bs:zn (Int×Int))(r:Nat):zn Nat:=xR (bS bs) (bE bs) bs.length r
section
theorem gZ(h:∀b∈bs,dY ((m+1:Nat)) b)(y:j<bs.length):bs[j]? = aF ((bS bs j:Int),(bE bs j:Int))/\bS bs j<=bE bs j/\bE bs j<=m:=by
 have e:=eW y;let(a,d,f):=(h _<|oA e);erw[bS,bE]
 grind
end
section
theorem LS(h:∀b∈bs,dY ((m+1:Nat)) b):bs=(cT bs.length).map λj=>((bS bs j:Int),(bE bs j:Int)):=by
 apply zt;intro j;by_cases y:j<bs.length
 .rw[(gZ h y).1];simp[y]
 .rw[tN (),tN (~~~y)]
end
section
theorem zjR(z:Int)(z0:0<=z)(z1:z<=1000)(U:B.length<=63)(H:Pr p)(S:m<=5)(Q:∀k,wd k<=16)(W:∀k x y,0<=T k x y/\T k x y<p):
 ∃f g:DQ,(∀k,k<m+1->Pair p (wd k) (f k) (g k))/\yY [X6 B,.int z,qE p m w wd T]=aF (.val<|qE p m w wd<|QC p w wd f g T):=by
 have F:=jf;have Y:m+1<=lim:=()
 have Z:∀k:Nat,∃a:(Nat->Nat->Int)×(Nat->Nat->Int),k<m+1->Pair p (wd k) a.1 a.2/\xJ [X6 B,.int<|z+20*(k:Int),.int p,.int (wd k:Nat)]=aF (.own [qh (wd k) (wd k) a.1,qh (wd k) (wd k) a.2]):=λk=>by
  by_cases J:k<m+1
  .let(f,g,r,s):=MF U H (n:=wd k) (by have:=Q k;omega) (show(0:Int)<=z+20*(k:Int)by omega) ()
   show((f,g),λ_=>(r,s))
  .exact((λ_ _=>0,λ_ _=>0),λh=>absurd h J)
 let(I,O):=R4 Z;show(λk=>(I k).1,λk=>(I k).2,λk J=>(O k J).1,?_);let L:zn D:=(cT<|m+1).map λk=>D.lst [qh (wd k) (wd k) (I k).1,qh (wd k) (wd k) (I k).2];have E:Ap [.val (X6 B),vI z,.val<|qE p m w wd T,.no]=aF (.next [.val (X6 B),vI z,.val<|qE p m w wd T,.val (.lst L)]):=by
  have b:Wc (cR (zh 2)<|sI 1) [.val (X6 B),vI z,.val<|qE p m w wd T,.no]=aF ((cT<|m+1).map λ(k:Nat)=>D.tup [.int k,.int (wd k:Int)]):=by rw[<-vB (m+1) λk=>D.int (wd k:Int)];rfl
  erw[Ap];rw[YK,Bs,Xd,b];simp?[eK,gr,pq,Y,if_true];rw[zk (λk=>D.lst [qh (wd k) (wd k) (I k).1,qh (wd k) (wd k) (I k).2]) _ λk J=>zm (γ1:=[vI k,vI (wd k:Int),.val<|X6 B,vI z,.val (qE p m w wd T)]) rfl rfl ?_]
  .rfl
  .have J:=ed.mp J
   have e:=(O k J).2;have d:mJ 20 (k:Int)=aG:=ZM _ _ () ();erw[OU];simp[ZE,d,e,fX]
 have l:zI (.nm 0) jb (cR (zh 0)<|sI 0) [Cell.no] L=aF (yF (m+1) wd λk=>(I k).1):=by show zk _ _ λk _=>zm rfl rfl ?_;rfl
 have o:zI (.nm 0) jb (cR (zh 0)<|sI 1) [Cell.no] L=aF (yF (m+1) wd λk=>(I k).2):=by show zk _ _ λk _=>zm rfl rfl ?_;rfl
 have C:=zjP (f:=λk=>(I k).1) (g:=λk=>(I k).2) (m:=m) (w:=w) (wd:=wd) (T:=T) H.pos H.le () (λk=>by have:=Q k;omega) (λk i j _ _ _=>W k i j)<|λk i j J u A=>(O k J).1.bg i j u A;rw[yY];show zY<|zx E ?_;have t:L.length<=lim:=by simp[L];omega
 erw[Hb];simp?[yU,qU,vY,VQ,VP,Bs,Xd,mN,aq,DP,I9,kc,vW,PH,eK,t5,t,if_true];rw[show jj 1 [] [Cell.val (X6 B),vI z,.val<|qE p m w wd T,.val (.lst L)]=[Cell.no]from rfl,l,o];simp[C]
end
section
theorem El(e:∀x,x∈K->x∈stN M)(B:∀x,x∈K'->x∈stN M)(h:∀a b,a<=b->b<M->lR K a b=lR K' a b)(hs:s.1<=s.2):pM K s=pM K' s:=by
 have z:∀{L:zn (Nat×Nat)} {a b:Int},(∀x,x∈L->x∈stN M)->a<0\/M<=b->lR L a b=0:=λ{L a b} I J=>by erw[lR];rw[S0];intro x O q;have:=P4.mp<|I x O;simp?[fS,decide_eq_true_eq]at q;lia
 have y:∀{a b:Int},a<=b->lR K a b=lR K' a b:=λ{a b} J=>by
  by_cases c:a<0\/M<=b
  .rw[z e c,z B c]
  .have:=h a.toNat b.toNat () ()
   rw[tG (),tG ()]at this;show this
 have Q:=Yl s K;have U:=Yl s K';rw[y (),y (),y (),y ()]at Q;lia
end
section
def uW(w:DV)(A:Nat->eC)(d n:Nat)(z:Bool)(j:Nat):Bool:=(A j).has d&&((!z&&(A j).has (d+n)) || (!(A j).has (d+n)&&!w ((A j).s+(A j).n-1)))
def F3(w:DV)(A:Nat->eC)(d n:Nat)(z:Bool)(j:Nat):Vc:=if uW w A d n z j=aG then (A j).v d else λ_=>0
theorem IQ(D:nP p w wd T m N A)(e:d+n<=m)(I:j<N):∃y,Wk p w wd T d n (F3 w A d n z j) y/\(z=aG->∀i,y i=0):=by
 erw[F3];by_cases h:uW w A d n z j=aG
 .rw[DJ h]
  erw[uW]at h;simp?[fS,sE,vv]at h;let(b,f):=h;rcases f with⟨J,a⟩|⟨a,g⟩
  .exact(_,Kd (D.ok j I) b n e a,λq=>by lia)
  .exact(_,gY (D.ok j I) b g n e a,λ_ _=>rfl)
 .rw[DY h];show(_,YM n,λ_ _=>rfl)
theorem uv(D:nP p w wd T m N A)(B:d+n<=m)(z:Bool)(u:Vc):Span p (wd d) (dP N<|F3 w A d n z) u ↔ ∃y,Wk p w wd T d n u y/\(z=aG->∀i,y i%p=0):=by
 constructor
 .intro h
  induction h with
  |zero h=>show(_,Ve (YM n) λi s=>by simp_all,λ_ _=>by simp)
  |step O _ e Q=>
   let(y,k,l):=Q;let(j,I,rfl):=O;let(W,U,g2):=IQ D B I;show(_,Ve (Bw n _ k U) e,λq i=>?_);simp?[g2 q i,sm,wh];show l q i
 .rintro⟨y,k,l⟩
  let(a,r):=D.sp d () u;let(b,o,Y):∃b:Vc,(∀i,i<wd (d+n)->y i%p=zo (λj=>if (A j).has (d+n)=aG then b j*(A j).v (d+n) i else 0) N%p)/\(z=aG->∀j,b j=0):=by
   cases z with
   |false=>
    let(b,o):=D.sp (d+n) B y;show(b,o,λq=>nomatch q)
   |true=>show(λ_=>0,λi _=>by rw[l rfl i,zB (g:=λ_=>0) λj _=>by simp,zX];simp,λ_ _=>rfl)
  show(Span.sum a λj I=>.gen (j,I,rfl)).congr λi s=>?_;rw[r i s];show zZ λj I=>?_;erw[F3];by_cases J:(A j).has d=aG
  .let(Z,t):=(QB D n B k r o) j I J
   rw[DJ J];by_cases f:uW w A d n z j=aG
   .rw[DJ f]
   .rw[DY f,sm]
    have:a j%p=0:=by
     erw[uW]at f;rw[J]at f;cases h4:(A j).has (d+n)with
     |true=>
      simp_all
     |false=>
      lia
    rw[eG,this];simp
  .have:uW w A d n z j=bB:=by erw[uW];rw[Bool.not_eq_true]at J;rw[J];rfl
   simp_all
theorem LJ(H:Pr p)(D:nP p w wd T m N A)(J:nP p w wd T m N' A')(O:a<=b)(e:b<=m):lR (pZ A N) a b=lR (pZ A' N') a b:=by show dj λZ=>?_;let(n,rfl):∃n,b=a+n:=(b-a,by grind);let(s,_,B,l,Q,g):=Kx H N _;let(q,_,j,r,U,f):=Kx H N _;show Z ?_;have W:∀u,_ ↔ ∃z,Wk p w wd T a n u z:=λu=>(g u).trans ((uv D e bB u).trans (λI=>by let(y,h,_):=I;show(y,h),λ(y,h)=>(y,h,λq=>nomatch q)));have Y:∀u,_↔Wk p w wd T a n u λ_=>0:=λu=>(f u).trans ((uv D e aG u).trans (λI=>by let(y,h,d):=I;show Re h λi _=>by rw[d rfl i];simp,λh=>(_,h,λ_ _=>by simp)));have k:=WR H D e Q W U Y;have o:=WR H J e Q W U Y;simp?[<-AW D O,<-AW J O];lia
theorem zk9(B:Pr p)(D:nP p w wd T m N A)(y:nP p w wd T m N' A'):(pZ A N).Perm (pZ A' N'):=by
 show List.perm_iff_count.mpr λs=>?_;have e K:K.count s=pM K s:=by erw[pM,List.count];lia
 rw[e,e];by_cases d:s.1<=s.2
 .exact El (WQ D) (WQ y) (λa b f g=>LJ B D y f ()) d
 .have z K:(∀x,x∈K->x∈stN (m+1))->pM K s=0:=λh=>by
   erw[pM];rw[S0];intro x I q;have:=(P4.mp<|h x I).1;rw[(of_decide_eq_true q)]at this;show d this
  rw[z _ (WQ D),z _ (WQ y)]
theorem lG(h:∀b∈bs,dY ((m+1:Nat)) b)(r:Nat):qR bs r=bL bs r:=by
 erw[qR,bL,xR,j1];show List.filter_congr λj y=>?_;let(e,a,d):=gZ h<|ed.mp y;have z:bs.getD j (0,0)=((bS bs j:Int),(bE bs j:Int)):=by rw[hB,e];rfl
 rw[z];change aJ _ _=(decide (bS bs j<=r)&&decide (r<bS bs j+(_+1)));erw[aJ];dsimp only;congr 1
 .exact decide_eq_decide.mpr ()
 .exact decide_eq_decide.mpr ()
theorem Pu(h:∀b∈bs,dY ((m+1:Nat)) b)(p:Int)(w:DV):BR p m w bs=qE p m w (bW bs) (bT w bs):=by
 have a:=lG h;rw[Rj];erw[qE];congr 1;have y r:sX bs r=bW bs r:=by erw[sX,bW,Eu];rw[a]
 have d:(zU (m+1) λk=>(sX bs k))=_:=vV λr _=>by rw[y]
 have z:xt m w (sX bs) (E6 w bs)=xt m w (bW bs) (bT w bs):=by erw[xt];show ll λk _=>?_;erw[vX];simp?[JM,Xh,JM,Xh,y,y];congr 2;congr 1;show Fe λi j e I=>?_;erw[E6,bT,Ex];simp?[a,a];simp?[hB,eW e,eW I,Sa]
 simp?[d,z]
end
theorem LU{B:zn Int}(H:B.length<=63){a:Int}(W:0<=a)(Y:a<=1000){r n:Nat}(y:0<r)(Z:r<=6)(L:n<=60):∃bs,km [X6 B,.int a,.int r,.int n]=aF (.own<|jy<|wH bs)/\(∀b∈wH bs,dY r b)/\(wH bs).length=n:=by
 have E:=jf;have z:n<=lim:=()
 show dj λI=>?_;let(_,h,bs,f,j,l,J,g2,rfl):=Jd (T:=.nm 5) (F:=zW (jF 6<|zD jU<|zc (zf 0)<|zc (zF qv (zf 1)<|zf 5) zH)<|zW (jF 7<|zF yL (zf 6)<|zf 2)<|qk 4<|kN<|zc (zf 7)<|zc (zF qv (zf 7)<|zF yL (zF VO (zf 6)<|sI 16)<|zF W3 (zf 2)<|zf 7) zH) (g:=λi=>D.int i)
  (λs t=>∃bs f j l,(∀b∈bs,dY r b)/\bs.length=s/\t=[.val (X6 B),vI a,vI r,vI n,.own<|jy bs,f,j,l]) n (γ:=[_,_,_,_,.own [],.no,.no,.no]) ([],_,_,_,by simp,rfl,rfl) (by
    rintro s G _ ⟨d,f,j,l,p,o,rfl⟩;let(m,A,C):=af H (k:=a+s) () ();generalize Xc B (a+s)=x at *;have O:=m9 x (show(0:Int)<r by lia);have u:=mZ (x/16) (():r-x%r≠0);have w:=m9 (x/16) (():0<r-x%r);have Q:d.length<lim:=()
    have U:(0:Int)<r:=()
    show(_,_,rfl,by simp[jd,m,U,y,O,Q];rfl,d++[(x%r,x%r+x/16%(r-x%r))],_,_,_,λb hb=>?_,by simp[o],by simp[jy];show(rfl,rfl,rfl));rcases n5.mp hb with hb|hb
    .exact p b hb
    .have e:=oE.mp hb
     subst e;show(mZ x (show(r:Int)≠0 by lia),(),()))
 show I ?_;show(bs,?_,λb hb=>J b<|(k9 bs).mem_iff.mp hb,by rw[(k9 bs).length_eq,g2]);rw[<-z9 n λi=>i]at h;show zY (by simp[z7,jd,z,qb,d5,h,zkw (():bs.length<64)])
theorem Pw{e:zn Int}(B:e.length<=63){a:Int}(y:0<=a)(z:a<=1000){r n:Nat}(I:0<r)(J:r<=6)(O:n<=60):∃bs,km [X6 e,.int a,.int r,.int n]=aF (.own<|jy bs)/\(∀b∈bs,dY r b)/\bs.length=n/\wH bs=bs:=by let(bs,d,f,g):=LU B y z I J O;show(_,d,f,g,ZU<|k9 bs)
section
theorem Et(h:∀b∈bs,dY ((m+1:Nat)) b):oZ (Ey (bS bs) (bE bs) bs.length) bs.length=bs:=by
 conv=>rhs;rw[LS h]
 erw[oZ];show ll λj y=>?_;have:=(gZ h<|ed.mp y).2.1;change Prod.mk (bS bs j:Int) ((bS bs j+(_+1)-1:Nat):Int)=_
 grind
theorem Pq(bs:zn (Int×Int))(k:Nat):bW bs k<=bs.length:=by erw[bW,Eu,xR];show fZ (H9 _ _) ()
end
abbrev zlH(s:Nat×Nat):Int×Int:=((s.1:Int),(s.2:Int))
theorem Hl(h:∀b∈bs,dY ((m+1:Nat)) b):sX bs=bW bs:=funext λr=>congrArg z8<|lG h r
theorem Py(B:Pr p)(H:m<=5)(h:∀b∈bs,dY ((m+1:Nat)) b)(O:wH bs=bs)(L:bs.length<=8)(z:∀k,k<m+1->Pair p (bW bs k) (f k) (g k)):
 ∃G F,(∀k i j,k<m+1->0<=G k i j/\G k i j<p)/\wo [qE p m w (bW bs) (QC p w (bW bs) f g<|bT w bs)]=aF (.val<|Vw bs (aW m (bW bs) G)<|aW m (bW bs) F):=by
 have I:=B.pos;have a k:bW bs k<=8:=by have:=Pq bs k;lia
 show dj λQ=>?_;let(N,A,G,_,U,cnt,J,st,W):=zjH B () () a H λk i j _ _ _=>iF I w (bW bs) f g (bT w bs) k i j;show Q ?_;have e X M:oZ X M=(pZ X M).map zlH:=by erw[oZ,pZ];rw[gj];rfl
 have Y:(oZ A N).Perm bs:=by rw[<-(Et h),e,e];show(zk9 B (LC B (λk=>fZ (a k) ()) U cnt λr y v=>(_,λi d=>(XT (J r y).1 v d).symm))<|aU I (λr y=>(z r ()).fg) (λr y=>(z r ()).gf)<|lZ (w:=w) B λj Z=>(gZ h Z).2).map _
 show(G,(JV A N),λk i j l=>(J k ()).2.2 i j,?_);rw[W,<-st,show((cT N).map _)=oZ A N from rfl,ZU Y,O]
section
abbrev wX(q:Int)(m:Nat)(w:DV)(wd:DX)(T:DQ):zn D:=(qj q w wd T m).map D.str
theorem SB:wX q m w wd T ≠ []:=λz=>by have:=congrArg z8 z;rw[gr,jX]at this;simp at this
end
def kn:=ju 2<|zW (sN<|zD yD<|zc (zf 0)<|zc (cR (zh 1)<|sI 0)<|zc (cR (zh 1)<|sI 1) zH)<|qo<|qX<|zD J2<|zc (zf 0)<|zc (cR (zh 1)<|sI 0)<|zc (cR (zh 1)<|sI 1) zH
def ZN:zn D->xz Xn:=iZ 2<|mX qI<|zc (zf 0)<|zc (cR (zh 1)<|sI 0)<|zc (cR (zh 1)<|sI 1) zH
def qP:=ju 3 (zW (jF 2 (cR (zh 1) (sI 0))) (zW (eI (sB (zF ei (zf 2) (je (.str "bars")))) (qo (zD wm (zc (zf 0) zH))) jO) (zW (eI (sB (zF ei (zf 2) (je (.str "kept")))) (qo (zD kn (zc (zf 0) (zc (jY (jx qx (zc (zf 1) zH))) zH)))) jO) (zW (eI (sB (zF ei (zf 2) (je (.str "widths")))) (qo (wA (je (.str " ")) (jq (zL (zR (zN (cR (zh 0) (sI 1)))) (.nm 0) 1 [] jb (qX (zf 0)))))) jO) qp))))
def qe:zn D->xz Xn:=iZ 3 (dW nH (jF 2 (cR (zh 1) (sI 0))) (dW nH (eI (sB (zF ei (zf 2) (je (.str "bars")))) qp jO) (oU (sB (zF ei (zf 2) (je (.str "kept")))) (mX ZN (zc (zf 0) (zc (jY (jx qx (zc (zf 1) zH))) zH))) nH)))
def yv:ZF:=MI (jY (yh (zf 1) (je (.str " ")))) (qA (sB (zD jA (zc (zf 2) zH)))) (sB (zF kA (cR (zh 2) (sI 0)) (je (.str "row")))) (sB (xp (cR (zh 2) (sI 0)) (zN (je (.tup [.str "row",.str "beside",.str "cut",.str "mirror",.str "opposite",.str "about",.str "split"]))))) qP YW Zv
def yw:=ju 3 (zW (jF 2 (jY (yh (zf 1) (je (.str " "))))) (zW (eI (qA (sB (zD jA (zc (zf 2) zH)))) qp jO) (zW (eI (bu (sB (zF BG (Ia (zf 0)) (je .dw))) (sB (zF kA (cR (zh 2) (sI 0)) (je (.str "row"))))) qp jO) (zW (eI (sB (xp (cR (zh 2) (sI 0)) (zN (je (.tup [.str "row",.str "beside",.str "cut",.str "mirror",.str "opposite",.str "about",.str "split"]))))) (qo (zD qP (zc (Ia (zf 0)) (zc (zf 2) zH)))) jO) qp))))
def qH:zn D->xz Xn:=iZ 3 (dW nH (jF 2 (jY (yh (zf 1) (je (.str " "))))) (dW nH (eI (qA (sB (zD jA (zc (zf 2) zH)))) qp jO) (dW nH (eI (bu (sB (zF BG (Ia (zf 0)) (je .dw))) (sB (zF kA (cR (zh 2) (sI 0)) (je (.str "row"))))) qp jO) (oU (sB (xp (cR (zh 2) (sI 0)) (zN (je (.tup [.str "row",.str "beside",.str "cut",.str "mirror",.str "opposite",.str "about",.str "split"]))))) (mX qe (zc (Ia (zf 0)) (zc (zf 2) zH))) nH))))
def aV:=(ff (jF 3 (zD yw (Yp (zf 0) (zf 1)))) qH (Yp (zf 0) (zf 1)) (cX "SplitError" 4 (jF 2 (zf 4)) EM))
def jg:=ju 5<|zW (jF 2<|je .dw)<|zW (jF 3<|je .dw)<|zW aV<|zW (eI (sB<|zF BG (zf 2)<|je .dw) (XB 3) jO)<|yH<|jx Jj<|zc (zf 2) zH
def k7:=ju 4 (zW (jF 2 (fv (sI 1))) (zW (ff (sN (zD yw (Yp (zf 0) (zf 1)))) qH (Yp (zf 0) (zf 1)) (cX "NoRoom" 3 (jF 2 (SS "room" (zf 3))) EM)) (XB 2)))
def GT:=(jF 5 (yI (yI (yI (je (.str "kept ")) (qX (zf 3))) (je (.str " "))) (qX (zf 4))))
def xu:=ju 7 (zW GT (zW (eI (nI (sB (zF lT (zf 3) (zf 2))) (nI (sB (zF lT (zf 4) (zf 2))) (sB (zF oM (zf 4) (zf 3))))) (qo (BE (zF ei (zD jg (zc (zf 0) (zc (zf 5) zH))) (jY (xY (zc (je (.str "NoRoom")) zH)))) (zF ei (zD k7 (zc (zf 0) (zc (zf 5) zH))) (fw (sB (zF lT (zf 3) (zf 2))) (zf 3) (zf 4))))) jO) (zW (jF 6 (jY (zL (zR (zh 1)) (.nm 0) 1 [3,4] (bu (sB (zF l0 (cR (zh 0) (sI 0)) (zf 1))) (sB (zF lT (cR (zh 0) (sI 1)) (zf 2)))) (zf 0)))) (qo (zF ei (zD jg (zc (zf 0) (zc (zf 5) zH))) (qX (J7 (zh 6))))))))
def MC:=(jF 1<|zD jU<|zc (zf 0)<|zc (sI 0) zH)
def MB:=(jF 2<|cR (jq<|xY<|zc (sI 2)<|zc (sI 3)<|zc (sI 5)<|zc (sI 7) zH)<|zF yL (zf 1)<|sI 4)
def MA:=(jF 3<|zF qv (sI 1)<|zF yL (zF VO (zf 1)<|sI 4)<|sI 6)
def Mz:=(jF 4<|zD YU<|zc (jY<|jx km<|zc (zf 0)<|zc (sI 10)<|zc (zf 3)<|zc (zF yL (zF VO (zf 1)<|sI 24)<|sI 9) zH) zH)
def My:=(jF 5<|zD yY<|zc (zf 0)<|zc (sI 20)<|zc (zD wa<|zc (zf 2)<|zc (zD kj<|zc (zf 0)<|zc (sI 1)<|zc (zf 3) zH)<|zc (zf 4) zH) zH)
def HD:=jF 7 (wA (je (.str " ")) (jq (zL (zR (zh 4)) (.tp [0,1]) 2 [] jb (yI (yI (qX (zf 0)) (je (.str "-"))) (qX (zf 1))))))
def HC:=eI (sB (zF ei (zf 4) (jY (xY zH)))) (jF 7 (je (.str "none"))) jO
def HA:=jF 8 (wA (je (.str " ")) (jq (zL (jv (zf 3)) (.nm 0) 1 [4] jb (qX (J7 (jq (jx j5 (zc (zf 1) (zc (zf 0) zH)))))))))
def Hz:=yG 9<|zL (jv<|sI 36) (.nm 0) 1 [] jb (kN<|zc (zF VO (zf 0)<|sI 6)<|zc (zF yL (zf 0)<|sI 6) zH)
def LV:=eI (nI (sB (zF kA (zD jg (zc (zf 6) (zc (je (.str "bars")) zH))) (zf 7))) (sB (zF kA (zD jg (zc (zf 6) (zc (je (.str "widths")) zH))) (zf 8)))) (qo (je (.bl bB))) jO
def FB:CO D:=zD xu<|zc (zf 4)<|zc (zf 3)<|zc (zf 2)<|zc (zf 0)<|zc (zf 1) zH
def PB:=eI (qA<|sB<|sO<|jq<|zL (zR<|zh 9) (.tp [0,1]) 2 [3,4,6] jb FB) (qo<|je<|.bl bB) jO
def yg:=zW LV<|zW PB<|Na 9
def Mx:=zW HD<|zW HC<|zW HA<|zW Hz<|zW (XU (jv<|sI 2) (.nm 10) yg)<|qo<|je<|.bl aG
def BS:=(iW 6 yv (yI (je (.str "row ")) (zD qg (zc (zf 5) zH))) (zD qg (zc (zf 5) zH)) Mx)
def YT:=ju 11<|zW MC<|zW MB<|zW MA<|zW Mz<|zW My BS
theorem wC(g:G γ=aT)(f:F γ=aF (.next γ')):dW G F H γ=H γ':=by erw[dW];rw[g,f];rfl
section
theorem eO(sp:∀x,jY (yh (zf 1) (je (.str " "))) [x,.val (.str l),.no]=aF ws)(tA:∀x,qA (sB (zD jA (zc (zf 2) zH))) [x,.val (.str l),.val ws]=aF bB)
 (tC:∀x,sB (xp (cR (zh 2) (sI 0)) (zN (je (.tup [.str "row",.str "beside",.str "cut",.str "mirror",.str "opposite",.str "about",.str "split"])))) [x,.val (.str l),.val ws]=aF aG):
 (∀r,qP [.tup [a,b,c],ws]=aF r->yw [qC (.tup [a,b,c]),.str l]=aF (.val<|Ky r))/\qH [qC (.tup [a,b,c]),.str l]=qe [.tup [a,b,c],ws]:=by
 let d:Ctx:=[.val (qC (.tup [a,b,c])),.val (.str l),.val ws];have e:jF 2 (jY (yh (zf 1) (je (.str " ")))) (z7 3 [qC (.tup [a,b,c]),.str l])=aF (.next d):=by simp?[YK,show z7 3 [_,.str l]=[_,_,.no]from rfl,sp];rfl
 have f:eI (qA<|sB<|zD jA<|zc (zf 2) zH) qp jO d=aF (.next d):=by rw[ZA,tA];rfl
 have y:∀t,eI (bu (sB<|zF BG (Ia<|zf 0)<|je .dw) t) qp jO d=_:=λt=>rfl;have z:Ia (zf 0) d=aF _:=rfl;have I:zf 2 d=aF ws:=rfl;show(λr h=>zY<|zx e<|zx f<|zx (y _)<|yf ?_,?_)
 .rw[ZA,tC,eK,DJ rfl,yU,qU,vY,vY,z,I]
  simp[h]
 .unfold qH iZ
  rw[wC rfl e,wC rfl f,wC rfl (y _)];erw[oU];rw[tC,eK,DJ rfl];rfl
theorem RU:Yp (zf 0) (zf 1) (.val (qC R):: .val (.str l)::cs)=aF [qC R,.str l]:=by rfl
theorem Kp(g:qH [qC R,.str l]=aT)(f:yw [qC R,.str l]=aF (.val<|.str t)):jg [qC R,.str l]=aF (.val<|.str t):=by
 have y:aV [.val (qC R),.val<|.str l,.val .dw,.val .dw,.no]=aF (.next [.val (qC R),.val<|.str l,.val .dw,.val<|.str t,.no]):=by erw[aV,ff];rw[RU,eK];simp?[g];simp?[YK,qU,RU,eK,f];rfl
 show zY<|zx rfl<|zx rfl<|zx y rfl
theorem zj7(g:qH [qC R,.str l]=aF (("NoRoom" : Str),aF i)):jg [qC R,.str l]=aF (.own [.str "NoRoom"]):=by
 have y:aV [.val (qC R),.val (.str l),.val .dw,.val .dw,.no]=aF (.next [.val (qC R),.val (.str l),.val (.exc "NoRoom" (aF i)),.val .dw,.no]):=by erw[aV,ff];rw[RU,eK];simp?[g];rfl
 show zY (zx rfl (zx rfl (zx y (zx rfl ?_))));simp[(zjM "NoRoom" (aF i) ())]
theorem zkp(g:qH [qC R,.str l]=aF (("NoRoom" : Str),aF i)):k7 [qC R,.str l]=aF (.val (.int i)):=by
 have a:ff (sN (zD yw (Yp (zf 0) (zf 1)))) qH (Yp (zf 0) (zf 1)) (cX "NoRoom" 3 (jF 2 (SS "room" (zf 3))) EM) [.val (qC R),.val (.str l),vI (-1),.no]=aF (.next [.val (qC R),.val (.str l),vI i,.no]):=by erw[ff];rw[RU,eK];simp?[g];rfl
 show zY<|zx rfl<|zx a rfl
end
section
variable{p:Int}{m:Nat}{w:DV}{wd:DX}{T:DQ}
theorem Uv{i j:Int}(B:0<=i)(L:i<=5)(H:0<=j)(S:j<=5):(i<=m->j<=m->i<=j->yD [qE p m w wd T,.int i,.int j]=aF (.val .dw))/\
 qI [qE p m w wd T,.int i,.int j]=if m<i then aF (("NoRoom" : Str),aF i)else if m<j\/j<i then aF (("NoRoom"),aF j)else aT:=by
 have z:qc (qE p m w wd T)=aF _:=rfl;have y:=Xx (m+1) i;have I:=Xx (m+1) j;have d:inR i=aG:=kP () ();have e:inR j=aG:=kP () ();simp?[B,H,decide_true,Bool.true_and]at y I;show(λf g h=>?_,?_)
 .have a:i<m+1:=()
  have b:j<m+1:=()
  have O:¬j<i:=()
  simp[yD,ju,z7,jd,z,y,I,a,b,O,d5]
 .by_cases a:i<m+1
  .have J:¬m<i:=()
   by_cases b:j<m+1
   .have Q:¬m<j:=()
    by_cases O:j<i
    .simp[qI,iZ,z7,dW,nH,oU,eB,z,y,I,a,b,O,J,Q,d,e,d5]
    .simp[qI,iZ,z7,dW,nH,oU,eB,z,y,I,a,b,O,J,Q,d,e,d5]
   .have Q:m<j:=()
    simp[qI,iZ,z7,dW,nH,oU,eB,z,y,I,a,b,J,Q,d,e,d5]
  .have J:m<i:=()
   simp[qI,iZ,z7,dW,nH,oU,eB,z,y,a,J,d,d5]
end
section
theorem IR(h:∀c∈fA y,c<200):g7 (.str y)=aG:=lO (n:=0) (by simp[deep]) () (by
 change y.cps.all (· < 1114112)=aG;rw[<-Array.all_toList];show om.mpr λc a=>decide_eq_true<|Nat.lt_trans (h c a) ())
theorem fV(h:∀x∈l,∀c∈fA x,c<200):∀c∈fA (ng (jW 32) l),c<200:=λc b=>by
 rw[xi]at b;rcases WX b with rfl|⟨a,ha,h2⟩
 .decide
 .let(x,y,rfl):=fx.mp ha
  show h x y c h2
theorem aS{n:Nat}(h:n<=30):∀c∈fA (qV n),c<200:=by
 have:∀i:Fin 31,∀c∈fA (qV<|(i.val:Nat)),c<200:=by decide +kernel
 show this (n,())
end
def kL(i j:Nat):Str:=(("kept " : Str)++qV (i:Int)) ++ " " ++ qV (j:Int)
def kW(i j:Nat):D:=.lst [.str "kept",.str (qV (i:Int)),.str (qV (j:Int))]
def ox:zn Nat:=cT 36
def d_(x:Cell)(i j:Nat):xz D:=jY (yh (zf 1) (je (.str " "))) [x,.val (.str (kL i j)),.no]
def kTA(x:Cell)(i j:Nat):xz Bool:=qA (sB<|zD jA<|zc (zf 2) zH) [x,.val<|.str<|kL i j,.val (kW i j)]
def kTC(x:Cell)(i j:Nat):xz Bool:=sB (xp (cR (zh 2) (sI 0)) (zN (je (.tup [.str "row",.str "beside",.str "cut",.str "mirror",.str "opposite",.str "about",.str "split"])))) [x,.val (.str (kL i j)),.val (kW i j)]
def c_(x y z:Cell)(i j:Nat):xz Fl:=GT [x,y,z,vI i,vI j,.no,.no]
theorem TK(x:Cell):ox.map (λn=>d_ x (n/6)<|n%6)=ox.map λn=>aF (kW (n/6)<|n%6):=by kernel_rfl
theorem TJ(x:Cell):ox.map (λn=>kTA x (n/6)<|n%6)=ox.map λn=>aF bB:=by kernel_rfl
theorem TH(x:Cell):ox.map (λn=>kTC x (n/6)<|n%6)=ox.map λn=>aF aG:=by kernel_rfl
theorem TL:ox.map (λn=>qx [kW (n/6) (n%6)])=ox.map λn=>aF (.own [.int (n/6:Nat),.int (n%6:Nat)]):=by kernel_rfl
theorem TM(x y z:Cell):ox.map (λn=>c_ x y z (n/6)<|n%6)=ox.map λn=>aF (.next [x,y,z,vI (n/6:Nat),vI (n%6:Nat),.val<|.str<|kL (n/6)<|n%6,.no]):=by kernel_rfl
section
variable{f g:Nat->Nat->α}{i j:Nat}
theorem PD(h:ox.map (λn=>f (n/6)<|n%6)=ox.map λn=>g (n/6)<|n%6)(e:i<6)(y:j<6):f i j=g i j:=by
 have:=List.map_inj_left.1 h (6*i+j)<|ed.2 ()
 grind
end
section
variable{R a b c:D}{i j:Nat}
theorem TN(e:i<6)(y:j<6):(∀r,qP [.tup [a,b,c],kW i j]=aF r->yw [qC (.tup [a,b,c]),.str (kL i j)]=aF (.val<|Ky r))/\qH [qC (.tup [a,b,c]),.str (kL i j)]=qe [.tup [a,b,c],kW i j]:=
 eO (λx=>PD (f:=d_ x) (g:=λi j=>aF (kW i j)) (TK x) e y) (λx=>PD (g:=λ_ _=>aF bB) (TJ x) e y) λx=>PD (g:=λ_ _=>aF aG) (TH x) e y
theorem zhT(h:yD [R,.int i,.int j]=aF (.val .dw))(k:J2 [R,.int i,.int j]=aF (.val<|.int x))(e:0<=x)(z:x<=30):kn [R,.lst [.int i,.int j]]=aF (.val<|.str<|qV x):=by
 show zY<|zx (γ':=[.val R,.val (.lst [.int i,.int j])]) ?_ ?_
 .simp[z7,d5,fX,h,Ky]
 .rw[yU,kU (by simp[fX,k,Ky]) e z]
  rfl
theorem zbl(e:i<6)(y:j<6):(∀r,kn [R,.lst [.int i,.int j]]=aF r->qP [R,kW i j]=aF (.val<|Ky r))/\qe [R,kW i j]=qI [R,.int i,.int j]:=by
 let a:Ctx:=[.val R,.val (kW i j),.val (.str "kept")];have b:jF 2 (cR (zh 1) (sI 0)) (z7 3 [R,kW i j])=aF (.next a):=by kernel_rfl
 have d S:eI (sB (zF ei (zf 2) (je (.str "bars")))) S jO a=aF (.next a):=by kernel_rfl
 have z:sB (zF ei (zf 2) (je (.str "kept"))) a=aF aG:=by kernel_rfl
 have I:zc (zf 0) (zc (jY<|jx qx<|zc (zf 1) zH) zH) a=aF [R,.lst [.int i,.int j]]:=by simp[a,(PD (f:=λi j=>qx [kW i j]) (g:=λi j=>aF (.own [.int i,.int j])) TL e y)]
 show(λr h=>zY<|zx b<|zx (d _)<|yf ?_,?_)
 .simp_all
 .unfold qe iZ
  rw[wC rfl b,wC rfl (d _)];erw[oU];rw[z,eK,DJ rfl];erw[mX];rw[I];rfl
end
section
theorem Bk(h:∀b∈bs,dY ((m+1:Nat)) b):bs=(cT bs.length).map λj=>((bS bs j:Int),(bE bs j:Int)):=by
 apply zt;intro j;by_cases y:j<bs.length
 .rw[(gZ h y).1];simp[y]
 .rw[tN (),tN (~~~y)]
def aa(bs:zn (Int×Int))(i j:Nat):Nat:=(bs.filter λx=>decide (x.1<=(i:Int))&&decide ((j:Int)<=x.2)).length
theorem zjC(h:∀b∈bs,dY ((m+1:Nat)) b)(i j:Nat):lR (pZ (Ey (bS bs) (bE bs) bs.length) bs.length) i j=aa bs i j:=by
 erw[lR,pZ,aa];rw[<-u9]
 conv=>rhs;rw[Bk h]
 simp?[D3,D3];show tX λk y=>?_;have:=(gZ h<|ed.mp y).2.1;change(decide ((bS bs k:Int)<=i)&&decide (j<=((bS bs k+(bE bs k-bS bs k+1)-1:Nat):Int)))=aG↔(_&&_)=aG;rw[show _-1=bE bs k by lia]
end
section
theorem cN(B:i<6)(I:j<6)(hm:m<=5)(H:bs.length<=30)(U:i<=j->j<=m->J2 [qE p m w wd T,.int i,.int j]=aF (.val<|.int (aa bs i j:Nat))):
 xu [qC (qE p m w wd T),.lst<|jy bs,.int ((m+1:Nat):Int),.int i,.int j]=aF (.val<|.bl aG):=by
 have hl:=jf;have G:=PD (f:=c_ (.val<|qC<|qE p m w wd T) (.val<|.lst<|jy bs)<|vI<|m+1) (g:=λi j=>aF (.next [_,_,_,vI (i:Nat),vI (j:Nat),.val<|.str<|kL i j,.no])) (TM _ _ _) B I;let γ:Cell->Ctx:=λc=>[.val (qC<|qE p m w wd T),.val<|.lst<|jy bs,vI<|m+1,vI (i:Nat),vI (j:Nat),.val<|.str<|kL i j,c];let(W,Y):=Uv (p:=p) (m:=m) (w:=w) (wd:=wd) (T:=T) (i:=i) (j:=j) () () () ();let(Z,A):=zbl (R:=qE p m w wd T) B I;let(zkB,y):=TN (a:=.int p) (b:=.tup (zU (m+1) λk=>(wd k:Int))) (c:=.tup (xt m w wd T)) B I;have y:qH [qC (qE p m w wd T),.str (kL i j)]=_:=y.trans<|A.trans Y;have O c:(nI (sB<|zF lT (zf 3)<|zf 2)<|nI (sB<|zF lT (zf 4)<|zf 2)<|sB<|zF oM (zf 4)<|zf 3) (γ c)=aF (decide<|m<i\/m<j\/j<i):=by
  by_cases d:m<i
  .have:(m:Int)+1<=i:=()
   simp[γ,lT,dI,this,d]
  .have h:¬(m:Int)+1<=i:=()
   by_cases l:m<j
   .have:(m:Int)+1<=j:=()
    simp[γ,lT,dI,h,this,l]
   .have J:¬(m:Int)+1<=j:=()
    simp[γ,lT,dI,h,J,d,l]
 show zY<|zx (γ':=γ .no) G ?_;by_cases Q:m<i\/m<j\/j<i
 .refine yf ?_
  rw[ZA,O,decide_eq_true Q,eK,DJ rfl];have z:∃x:Int,qH [qC (qE p m w wd T),.str (kL i j)]=aF (("NoRoom" : Str),aF x)/\x=if m<i then (i:Int)else j:=by
   by_cases d:m<i
   .exact(i,by rw[y,DJ ()],by rw[DJ d])
   .exact(j,by rw[y,DY (),DJ ()],by rw[DY d])
  let(x,e,s):=z;have K:zD jg (zc (zf 0) (zc (zf 5) zH)) (γ .no)=aF (.lst [.str "NoRoom"]):=by rw[qU];show congrArg (oh Ky) (zj7 e)
  have L:zD k7 (zc (zf 0)<|zc (zf 5) zH) (γ .no)=aF (.int x):=by rw[qU];show congrArg (oh Ky)<|zkp e
  have M:fw (sB<|zF lT (zf 3)<|zf 2) (zf 3) (zf 4) (γ .no)=aF (.int x):=by
   rw[s];by_cases d:m<i
   .have:(m:Int)+1<=i:=()
    simp[γ,lT,dI,this,d]
   .have h:¬(m:Int)+1<=i:=()
    simp[γ,lT,dI,h,d]
  have E:ei (.lst [.str "NoRoom"]) (.lst [.str "NoRoom"])=aF (.bl aG):=by kernel_rfl
  have F:ei (.int x) (.int x)=aF (.bl aG):=by simp
  have N:jY (xY (zc (je (.str "NoRoom")) zH)) (γ .no)=aF (.lst [.str "NoRoom"]):=by
   have:1<=lim:=()
   simp[γ,this]
  rw[yU,PZ,VR,K,eK,N,eK,E];change oh _ (zF ei _ _<|γ .no)=_;rw[VR,L,eK,M,eK,F];rfl
 .have znd:i<=m:=()
  have u:j<=m:=()
  have t:i<=j:=()
  have aw:aa bs i j<=30:=fZ (H9 _ _) H;have C:=zhT (W () () ()) (U t u) () ();have o:qH [qC (qE p m w wd T),.str (kL i j)]=aT:=by rw[y,DY (),DY ()]
  have P:=Kp o<|zkB _<|Z _ C;show zx (γ':=γ .no) ?_ (zx (γ':=γ<|.val<|.lst<|jy<|bs.filter λx=>decide (x.1<=(i:Int))&&decide ((j:Int)<=x.2)) ?_ ?_)
  .rw[ZA,O,decide_eq_false Q];rfl
  .have bl:bs.length<=lim:=()
   have r:zI (.nm 0) (bu (sB<|zF l0 (cR (zh 0)<|sI 0)<|zf 1)<|sB<|zF lT (cR (zh 0)<|sI 1)<|zf 2) (zf 0) [Cell.no,vI i,vI j] (jy bs)=aF (jy<|bs.filter λx=>decide (x.1<=(i:Int))&&decide ((j:Int)<=x.2)):=by erw[jy];show jB (λx:Int×Int=>decide (x.1<=(i:Int))&&decide ((j:Int)<=x.2)) _ _ λx _=>([.val (.tup [.int x.1,.int x.2]),vI i,vI j],rfl,?_,λ_=>rfl);by_cases S:x.1<=(i:Int)<;>by_cases X:(j:Int)<=x.2<;>simp[S,X,l0,lT,dI,fX]
   simp[γ,w6,bl,jj,d5,r]
  .have h:zD jg (zc (zf 0)<|zc (zf 5) zH) (γ<|.val<|.lst<|jy<|bs.filter λx=>decide (x.1<=(i:Int))&&decide ((j:Int)<=x.2))=aF (.str<|qV (aa bs i j:Nat)):=by
    rw[qU];show congrArg (oh Ky) P
   have ok:∀n:Fin 31,g7 (.str<|qV (n.val:Nat))=aG:=by decide +kernel
   have J:qX (J7<|zh 6) (γ<|.val<|.lst<|jy<|bs.filter λx=>decide (x.1<=(i:Int))&&decide ((j:Int)<=x.2))=aF (.str<|qV (aa bs i j:Nat)):=kU (by simp[γ,w6,aa]) () ();rw[yU,VR,h,eK,J,eK,mD (ok (_,()))];rfl
end
section
variable{p:Int}{m:Nat}{w:DV}{wd:DX}{T:DQ}
theorem HI(e:∀i j,0<=f i j/\f i j<10):(iJ h v f).length<=h*(v+1):=by
 rw[qD,rR];have:=Zr (c:=47) (n:=v) (l:=(cT h).map λi=>fA<|dg v<|f i) λa b=>by let(i,_,rfl):=fx.mp b;rw[VL (e i)];simp
 rwa [gr,pq]at this
theorem rE{n:Nat}(h:n<=30):(qV n).length<=2:=by
 have:∀i:Fin 31,(qV<|(i.val:Nat)).length<=2:=by decide +kernel
 show this (n,())
theorem ziF(e:p=2\/p=3\/p=5\/p=7)(B:m<=5)(z:∀k i j,0<=T k i j/\T k i j<10)(h:∀k,wd k<=30)(hs:∀k,fm w wd k*(eX w wd k+1)<=78):zT (vo p m w wd T)=aG:=by
 have I s:∀x∈qj p w wd T s,x.length<=80:=by
  induction s with
  |zero=>
   intro x y;simp?[qj,eL,Sj,or_false]at y;rcases y with rfl|rfl
   .rcases e with rfl|rfl|rfl|rfl<;>decide +kernel
   .have:=rE<|h 0;lia
  | succ s J=>
   intro x y;rw[qj]at y;rcases n5.mp y with y|y
   .exact J x y
   .simp?[eL,Sj,or_false]at y
    rcases y with rfl|rfl
    .have t:=HI (h:=fm w wd s) (v:=eX w wd s) (z s)
     have:=hs s;have o c:(jW c).length=1:=rfl;erw[YF,aX];split<;>(rw[qD,yN,yN,n3,n3,<-qD,<-qD,<-qD,o,o];lia)
    .have:=rE<|h<|s+1;lia
 show decide_eq_true ?_;rw[qD];erw[vo];rw[xi];have:=Zr (c:=32) λa b=>by let(x,y,rfl):=fx.mp b;rw[<-qD];show I m x y
 rw[gr,jX]at this;lia
end
section
variable{q:Int}{m:Nat}{w:DV}{wd:DX}{T:DQ}
theorem Ii(e:q=2\/q=3\/q=5\/q=7)(z:∀k i j,0<=T k i j/\T k i j<10)(h:∀k,wd k<=30):g7 (.str<|vo q m w wd T)=aG:=by
 show IR<|fV ?_
 induction m with
 |zero=>
  intro x y;simp?[qj,eL,Sj,or_false]at y;rcases y with rfl|rfl
  .rcases e with rfl|rfl|rfl|rfl<;>decide +kernel
  .exact aS<|h 0
 | succ s I=>
  intro x y;rw[qj]at y;rcases n5.mp y with y|y
  .exact I x y
  .simp?[eL,Sj,or_false]at y
   rcases y with rfl|rfl
   .intro c hc
    rw[mK]at hc;rcases eL.mp hc with rfl|hc
    .split<;>decide
    .rcases n5.mp hc with hc|hc
     .have:=Jm (z s) hc
      lia
     .rw[oE.mp hc]
      split<;>decide
   .exact aS<|h<|s+1
end
theorem EX:∀n bs,bs.length<n->bs.length<64->∃k,QA VM Av n [.val (.lst<|jy bs)]=aF (.next [.val (.lst<|jy<|bs.drop k)])/\wz (bs.drop k)<=30:=by
 intro n
 induction n with
 |zero=>intro bs h;lia
 | succ n I=>
  intro bs h U;have W:=jf;have J:bs.length<=lim:=()
  have z:VM [.val (.lst<|jy bs)]=aF (decide<|30<wz bs):=by simp[VM,J,jj,d5,AX,iK]
  by_cases y:30<wz bs
  .have a:1<=bs.length:=by
    cases bs with
    |nil=>simp[wz]at y
    |cons b bs=>simp
   have e:Av [.val (.lst<|jy bs)]=aF (.next [.val (.lst<|jy<|bs.drop 1)]):=by change aF (Fl.next [_])=_;rw[show Vd (jy bs) (aF 1) aT=_ from Fq bs a]
   let(k,O,Q):=I (bs.drop 1) (by rw[L5];lia) (by rw[L5];lia);show(1+k,?_);rw[<-List.drop_drop];show(?_,Q);change(VM _).bind _=_;rw[z,decide_eq_true y,eK,DJ rfl,e];show O
  .refine(0,?_,~~~y)
   change(VM _).bind _=_;rw[z,decide_eq_false y];rfl
theorem Ue(h:bs.length<64):∃k,YU [.lst (jy bs)]=aF (.val<|.lst<|jy<|bs.drop k)/\wz (bs.drop k)<=30:=by let(k,e,y):=EX 100 bs () h;show(k,zY<|zx e rfl,y)
section
theorem zi2(B:q=2\/q=3\/q=5\/q=7)(e:m<=5)(y:∀k i j,0<=T k i j/\T k i j<q)(h:∀k,wd k<=30)(hs:zo (λk=>(wd k)) (m+1)<=30):yv [.dw,.str (("row" ++ jW 32)++vo q m w wd T)]=aF (.str (vo q m w wd T),qE q m w wd T):=by
 have z:∀k i j,_/\T k i j<10:=λk i j=>((y k i j).1,by have:=(y k i j).2;lia);have a:("row" : Str)∈tw:=by decide +kernel
 have b:jY _ _=aF (.lst (.str "row" :: wX q m w wd T)):=zje a B e z h .no .no;have g:yW [.lst (.str "row" :: wX q m w wd T)]=_:=Wd B e y h hs;have d:=zjB a (SB (q:=q) (m:=m) (w:=w) (wd:=wd) (T:=T));generalize D.str (_++_)=l at b;generalize wX q m w wd T=X at *;have f:YW [.dw,.lst (.str "row" :: X)]=aF (.val (qE q m w wd T)):=by show zY (zx (γ':=[.val .dw,.val (.lst (.str "row" :: X)),.val (.str "row"),.no]) (by simp[z7,d5,fX]) (yf ?_));rw[ZA,show sB _ _=aF aG from by kernel_rfl];simp[g,Ky]
 change(jY _ _).bind _=_;have tA:qA (sB (zD jA (zc (zf 2) zH))) [.no,.val l,.val (.lst (.str "row" :: X))]=aF bB:=by simp[qA,d]
 have I:=EF .no (.val l) "row" X;have tB:sB (zF kA (cR (zh 2) (sI 0)) (je (.str "row"))) [.no,.val l,.val (.lst (.str "row" :: X))]=aF bB:=by
  erw[sB];rw[VR,I]
  kernel_rfl
 have tC:sB (xp (cR (zh 2) (sI 0)) (zN (je (.tup [.str "row",.str "beside",.str "cut",.str "mirror",.str "opposite",.str "about",.str "split"])))) [.no,.val l,.val (.lst (.str "row" :: X))]=aF bB:=by show Eq.trans ?_ (GO (V? .no (.val l) (.val (.lst (.str "row" :: X)))) a);erw[sB,xp];rw[I];rfl
 simp?[b,eK,tA,eK,DY iu];change(tR (sB _ _) _)=_;rw[tB,eK,DY iu,tC,eK,DY iu,f,eK];change(Zv [qE q m w wd T]).map _=_;rw[(zhn B e z h)];rfl
end
theorem YE(x:Cell):jY (yh (zf 1) (je (.str " "))) [x,.val (.str "bars"),.no]=aF (.lst [.str "bars"])/\qA (sB (zD jA (zc (zf 2) zH))) [x,.val (.str "bars"),.val (.lst [.str "bars"])]=aF bB/\sB (xp (cR (zh 2) (sI 0)) (zN (je (.tup [.str "row",.str "beside",.str "cut",.str "mirror",.str "opposite",.str "about",.str "split"])))) [x,.val (.str "bars"),.val (.lst [.str "bars"])]=aF aG:=(by kernel_rfl,by kernel_rfl,by kernel_rfl)
theorem ZP(x:Cell):jY (yh (zf 1) (je (.str " "))) [x,.val (.str "widths"),.no]=aF (.lst [.str "widths"])/\qA (sB (zD jA (zc (zf 2) zH))) [x,.val (.str "widths"),.val (.lst [.str "widths"])]=aF bB/\sB (xp (cR (zh 2) (sI 0)) (zN (je (.tup [.str "row",.str "beside",.str "cut",.str "mirror",.str "opposite",.str "about",.str "split"])))) [x,.val (.str "widths"),.val (.lst [.str "widths"])]=aF aG:=(by kernel_rfl,by kernel_rfl,by kernel_rfl)
section
theorem zhd(h:wm [.tup [a,b,c]]=aF (.val (.str t))):jg [qC (.tup [a,b,c]),.str "bars"]=aF (.val (.str t)):=by
 let(z,I):=eO (λx=>(YE x).1) (λx=>(YE x).2.1) λx=>(YE x).2.2;let d:Ctx:=[.val (.tup [a,b,c]),.val (.lst [.str "bars"]),.val (.str "bars")];have e:jF 2 (cR (zh 1) (sI 0)) (z7 3 [.tup [a,b,c],.lst [.str "bars"]])=aF (.next d):=by kernel_rfl
 have y:sB (zF ei (zf 2) (je (.str "bars"))) d=aF aG:=by kernel_rfl
 show Kp (I.trans ?_)<|z (.val<|.str t)<|zY<|zx e<|yf ?_
 .unfold qe iZ
  rw[wC rfl e];erw[dW];rw[ZA,y];rfl
 .rw[ZA,y,eK,DJ rfl]
  simp[d,h,Ky]
def m5(m:Nat)(wd:DX):Str:=ng " " ((cT (m+1)).map λk=>qV (wd k:Int))
theorem V4(B:m<=5)(h:∀k,wd k<=30):jg [qC (qE p m w wd T),.str "widths"]=aF (.val (.str (m5 m wd))):=by
 have e:=jf;let(z,I):=eO (λx=>(ZP x).1) (λx=>(ZP x).2.1) λx=>(ZP x).2.2;let a:Ctx:=[.val (qE p m w wd T),.val (.lst [.str "widths"]),.val (.str "widths")];have d:jF 2 (cR (zh 1) (sI 0)) (z7 3 [qE p m w wd T,.lst [.str "widths"]])=aF (.next a):=by rfl
 have J:sB (zF ei (zf 2) (je (.str "bars"))) a=aF bB:=by kernel_rfl
 have y:sB (zF ei (zf 2) (je (.str "kept"))) a=aF bB:=by kernel_rfl
 have O:sB (zF ei (zf 2) (je (.str "widths"))) a=aF aG:=by kernel_rfl
 have Q:zI (.nm 0) jb (qX<|zf 0) [Cell.no] (zU (m+1) λk=>(wd k))=aF (((cT<|m+1).map λk=>qV<|wd k).map D.str):=by simp?[z9,gj];show zk _ _ λk U=>zm rfl rfl<|kU rfl () (by have:=h k;lia)
 have b:∀S,eI (sB _) S jO a=aF (.next a):=λS=>by rw[ZA,J];rfl
 have W:∀S,eI (sB _) S jO a=aF (.next a):=λS=>by rw[ZA,y];rfl
 show Kp (I.trans ?_)<|z (.val _)<|zY<|zx d<|zx (b _)<|zx (W _)<|yf ?_
 .unfold qe iZ
  rw[show(D.tup _)=qE p m w wd T from rfl,wC rfl d,wC rfl (b _)];erw[oU];rw[y];rfl
 .simp?[ZA,O,eK,DJ rfl,yU]
  show congrArg (oh _)<|kh rfl ?_ (by simp;lia) (λx Y=>?_) (by rfl)
  .have Z:m+1<=lim:=()
   simp[a,qE,fX,jj,d5,Z,Q]
  .let(k,U,rfl):=fx.mp Y
   show qW () (by have:=h k;lia)
def C7(bs:zn (Int×Int)):Str:=ng " " (bs.map λb=>qV b.1++jW 45++qV b.2)
def i8(bs:zn (Int×Int)):Str:=if bs=[]then "none" else C7 bs
theorem Xa:∀i:Fin 31,∀j:Fin 31,zT (qV (i.val)++jW 45++qV j.val)=aG:=by decide +kernel
theorem zhK(B:∀b∈bs,dY ((m+1:Nat)) b)(H:m<=5)(O:bs.length<=30)(e:wo [R]=aF (.val<|Vw bs ts us)):wm [R]=aF (.val<|.str<|i8 bs):=by
 have Q:=jf;have o:zT (jW 45)=aG:=by decide +kernel
 have y:∀b∈bs,0<=b.1/\b.1<=30/\0<=b.2/\b.2<=30:=λb h=>by let(d,g,f):=B b h;lia
 have z:∀b∈bs,xj [.tup [.int b.1,.int b.2]]=aF (.val<|.str<|qV b.1++jW 45++qV b.2):=λb h=>by let(d,g,f,i):=y b h;have k:inR b.1=aG:=kP () ();have n:inR b.2=aG:=kP () ();simp[xj,ju,z7,d5,jd,fX,QI,fB,nJ,Pa,Pn,k,n,qW d g,qW f i,JG,o,JQ]
 have I:zI (.nm 0) jb (zD xj<|zc (zf 0) zH) [.no] (jy bs)=aF ((bs.map λb=>qV b.1++jW 45++qV b.2).map D.str):=by erw[jy];rw[gj];show zk _ _ λb h=>zm rfl rfl ?_;simp[z b h]
 have j:jF 1 (cR (zN<|zD wo<|zc (zf 0) zH)<|sI 0) (z7 2 [R])=aF (.next [.val R,.val (.lst<|jy bs)]):=by simp[z7,d5,e,fX,Vw]
 erw[i8];by_cases a:bs=[]
 .rw[DJ a]
  subst a;show zY<|zx j ?_;rfl
 .rw[DY a]
  show zY<|zx j ?_;rw[yU];have:Ck (zh 1) [.val R,.val (.lst<|jy bs)]=aF aG:=by
   cases bs with
   |nil=>show absurd rfl a
   |cons b r=>rfl
  rw[PR,this,eK,DJ rfl,kh (l:=bs.map λb=>qV b.1++jW 45++qV b.2) rfl
   (by
    have:bs.length<=lim:=()
    simp[this,jj,I]) (by simp;lia) (λx J=>by let(b,h,rfl):=fx.mp J;let(d,g,f,i):=y b h;simpa[tG d,tG f]using (Xa (b.1.toNat,()) (b.2.toNat,()))) (by rfl)]
  rfl
end
def mT(L:zn (Nat×Nat)):zn D:=L.map λx=>.tup [.int x.1,.int x.2]
theorem VS:∀L:zn (Nat×Nat),Jl (L.map λ_=>D.bl aG)=aF (L.map λ_=>aG)
 |[]=>rfl
 |x::L=>by simp?[mc];erw[Jl];rw[(VS L)];rfl
section
variable{c0 c1 c2 c5 c10:Cell}{p:Int}{m:Nat}{w:DV}{T:DQ}{bs:zn (Int×Int)}
theorem Hm(B:m<=5)(H:bs.length<=30)(z:∀k,bW bs k<=30)(tB:jg [qC (qE p m w (bW bs) T),.str "bars"]=aF (.val (.str (i8 bs))))(I:g7 (.str (i8 bs))=aG)(J:g7 (.str (m5 m (bW bs)))=aG)
 (O:∀i j,i<=j->j<=m->J2 [qE p m w (bW bs) T,.int i,.int j]=aF (.val<|.int<|aa bs i j)) (L:zn (Nat×Nat)) (Q:∀x∈L,x.1<6/\x.2<6) (S:L.length<=36):
 yg [c0,c1,c2,vI<|(m+1:Nat),.val<|.lst<|jy bs,c5,.val<|qC<|qE p m w (bW bs) T,.val<|.str<|i8 bs,.val<|.str<|m5 m<|bW bs,.own<|mT L,c10]=aF (.next [c0,c1,c2,vI<|(m+1:Nat),.val<|.lst<|jy bs,c5,.val<|qC<|qE p m w (bW bs) T,.val<|.str<|i8 bs,.val<|.str<|m5 m<|bW bs,.own<|mT L.reverse,c10]):=by
 have l:=jf;let γ:=λL=>[c0,c1,c2,vI<|(m+1:Nat),.val<|.lst<|jy bs,c5,.val<|qC<|qE p m w (bW bs) T,.val<|.str<|i8 bs,.val<|.str<|m5 m<|bW bs,.own<|mT L,c10];have h:LV (γ L)=aF (.next<|γ L):=by
  have d:zD jg (zc (zf 6) (zc (je (.str "bars")) zH)) (γ L)=aF (.str (i8 bs)):=by rw[qU];show congrArg (oh Ky) tB
  have U:zD jg (zc (zf 6) (zc (je (.str "widths")) zH)) (γ L)=aF (.str (m5 m (bW bs))):=by rw[qU];show congrArg (oh Ky) (V4 (p:=p) (w:=w) (T:=T) B z)
  have W:zf 7 (γ L)=aF (.str<|i8 bs):=rfl;have Y:zf 8 (γ L)=aF (.str<|m5 m<|bW bs):=rfl;erw[LV];simp?[ZA,PN,Ra,VR,d,W,Ra,VR,U,Y];simp[W4 I,W4 J]
 show zx h (zx (by
  have y:zI (.tp [0,1]) jb FB [.no,.no,vI<|(m+1:Nat),.val<|.lst<|jy bs,.val (qC<|qE p m w (bW bs) T)] (mT L)=aF (L.map λ_=>D.bl aG):=by erw[mT];show zk _ _ λx Z=>zm rfl rfl ?_;let(f,g):=Q x Z;erw[FB];rw[qU];show congrArg (oh Ky)<|cN f g B H<|O x.1 x.2
  have e:sO (jq<|zL (zR<|zh 9) (.tp [0,1]) 2 [3,4,6] jb FB) (γ L)=aF (.bl aG):=by
   have a:(mT L).length<=lim:=by simp[mT];lia
   have b:L.length<=lim:=()
   rw[Hu];change tR (oh _<|tR (aF (mT L)) _) _=_;simp?[Int.natCast_add,Int.natCast_one]at y;simp[jj,d5,a,y,γ,b,VS]
  erw[PB];simp?[ZA,Br,Ra,e];rfl) (by
  change aF (Fl.next<|(γ L).set 9 (.own (mT L).reverse))=_;erw[mT];rw[<-List.map_reverse];rfl))
end
theorem V8(h:wH bs=bs)(k:Nat):wH (bs.drop k)=bs.drop k:=by
 show ZR (k9 _) (yM _) ?_;have:=yM bs
 grind
section
variable{m:Nat}
theorem Tr(e:∀b∈bs,dY ((m+1:Nat)) b)(B:m<=5):g7 (.str<|i8 bs)=aG:=by
 erw[i8];by_cases a:bs=[]
 .rw[DJ a];decide +kernel
 .rw[DY a]
  erw[C7];rw[yp];show IR<|fV λx I c hc=>?_;let(b,h,rfl):=fx.mp I;let(d,f,g):=e b h;have y:=aS (n:=b.1.toNat) ();have z:=aS (n:=b.2.toNat) ();rw[tG ()]at y;rw[tG ()]at z;rw[yN,yN]at hc;rcases n5.mp hc with hc|hc
  .rcases n5.mp hc with hc|hc
   .exact y c hc
   .rw[oE.mp hc];decide
  .exact z c hc
theorem Tq{wd:DX}(h:∀k,wd k<=30):g7 (.str<|m5 m wd)=aG:=by erw[m5];rw[yp];show IR<|fV λx y c a=>?_;let(k,_,rfl):=fx.mp y;show aS (h k) c a
end
theorem Tz(B:zn Int)(W:B.length<=63):YT [X6 B]=aF (.val<|.bl aG):=by
 have hl:=jf;let(e1,a1,N):=af W (k:=0) () ();generalize Xc B 0=c at e1 a1 N;let(q,A,ep,aw):=NR a1;have Y:(q:Int)=2\/(q:Int)=3\/(q:Int)=5\/(q:Int)=7:=A;have p0:=A.pos;let(m,em,s):∃m:Nat,1+c/4%6=1+m/\m<=5:=((c/4%6).toNat,(),());let(n1,b2,cl):∃n:Nat,c/24%9=n/\n<=8:=((c/24%9).toNat,(),());let(w,zhm):=Mv W (m:=m) ();have K:((m+1:Nat):Int)=1+(m:Int):=()
 let(Z,r1,b4,l1,b5):=Pw W (a:=10) () () (r:=m+1) (n:=n1) () () ();rw[K]at r1;let(k,ef,b6):=Ue (bs:=Z) ();have so:=V8 b5 k;have st:∀b∈Z.drop k,dY ((m+1:Nat):Int) b:=λb hb=>b4 b<|List.mem_of_mem_drop hb;have bl:(Z.drop k).length<=8:=by rw[L5];lia
 generalize Z.drop k=bs at ef so st bl b6;have H k:bW bs k<=8:=by have:=Pq bs k;lia
 have I k:bW bs k<=30:=by have:=H k;lia
 have br:=XQ (p:=q) (w:=w) (bs:=bs) s ();rw[Pu st]at br;let(f,g,L,eh):=zjR (w:=w) (wd:=bW bs) (T:=bT w bs) 20 () () W A s (λk=>by have:=H k;lia)<|Ew A;let(G,F,_,eb):=Py (w:=w) A s st so bl L;have D:=aU p0 (λr hr=>(L r ()).fg) (λr hr=>(L r ()).gf)<|lZ (w:=w) A λj hj=>(gZ st hj).2;have J:=iF p0 w (bW bs) f g<|bT w bs;have O:∀i j:Nat,i<=j->j<=m->J2 [qE q m w (bW bs) (QC q w (bW bs) f g<|bT w bs),.int i,.int j]=aF (.val<|.int (aa bs i j:Nat)):=λi j d u=>by rw[zk3 A H J () D d u,<-zjC st];rfl
 clear D;generalize QC q w (bW bs) f g (bT w bs)=T at O J eb eh;have M k i j:0<=T k i j/\T k i j<10:=((J k i j).1,by have:=(J k i j).2;lia);have hs:zo (λk=>((bW bs k:Nat):Int)) (m+1)<=30:=by
  have e:zo (λk=>((bW bs k:Nat):Int)) (m+1)=wz bs:=by rw[<-rY m bs st,<-Hl st];show zB λr _=>by erw[sX];rw[zjj]
  lia
 have zkN:=zi2 (w:=w) Y s J I hs;have rt:=WN (w:=w) Y s M I;have tB:jg [qC (qE q m w (bW bs) T),.str "bars"]=aF (.val (.str (i8 bs))):=zhd (zhK st s () eb);have oB:=Tr st s;have oW:=Tq (m:=m) I;have bb:=Ii (m:=m) (w:=w) Y M I;have bd:∀b∈bs,0<=b.1/\b.1<=30/\0<=b.2/\b.2<=30:=λb h=>by let(d,u,E):=st b h;lia
 have be:zT (vo q m w (bW bs) T)=aG:=ziF Y s M I λk=>by
  have d:fm w (bW bs) k<=8:=by rw[JM];show H _
  have u:eX w (bW bs) k<=8:=by rw[Xh];show H _
  show fZ (Nat.mul_le_mul d<|show eX w (bW bs) k+1<=9 by lia) ()
 let R:=qE q m w (bW bs) T;let γ:Cell->Cell->Cell->Cell->Ctx:=λc2 c3 c4 c5=>[.val (X6 B),vI c,c2,c3,c4,c5,.no,.no,.no,.no,.no];let δ:Cell->Cell->Cell->Cell->Ctx:=λc7 c8 c9 c10=>[.val (X6 B),vI c,vI q,vI<|m+1,.val<|.lst<|jy bs,.val R,.val<|qC R,c7,c8,c9,c10];have ao:bs.length<=lim:=()
 have u0:HD (δ .no .no .no .no)=aF (.next<|δ (.val<|.str<|C7 bs) .no .no .no):=by
  have Q:zI (.tp [0,1]) jb (yI (yI (qX (zf 0)) (je (.str "-"))) (qX (zf 1))) [.no,.no] (jy bs)=aF ((bs.map λb=>qV b.1++jW 45++qV b.2).map D.str):=by
   erw[jy];rw[gj];show zk _ _ λb h=>zm rfl rfl ?_;let(d,u,E,X):=bd b h;have:=Xa (b.1.toNat,()) (0,());rw[<-JG];show ag (ag (kU rfl d u) rfl (qW d u) ()) (kU rfl E X) ?_ (qW E X);have zks:∀i:Fin 31,zT (qV (i.val:Nat) ++ "-")=aG:=by decide +kernel
   have:=zks (b.1.toNat,());simpa[tG d]using this
  erw[HD];rw[YK,kh (l:=bs.map λb=>qV b.1++jW 45++qV b.2) rfl (by simp[δ,jj,d5,w6,ao,Q]) (by simp;lia) (λx U=>by let(b,h,rfl):=fx.mp U;let(d,u,E,X):=bd b h;have:=Xa (b.1.toNat,()) (b.2.toNat,());simpa[tG d,tG E]using this) ()]
  rfl
 have u1:HC (δ (.val<|.str<|C7 bs) .no .no .no)=aF (.next<|δ (.val<|.str<|i8 bs) .no .no .no):=by
  have t:sB (zF ei (zf 4)<|jY<|xY zH) (δ (.val<|.str<|C7 bs) .no .no .no)=aF (bs.isEmpty):=by
   have o:=zi6 bs;have o2:g7 (.lst [])=aG:=by decide +kernel
   cases bs with
   |nil=>kernel_rfl
   |cons b rr=>
    change((ei (.lst<|jy (b::rr))<|.lst []).bind pe)=_;erw[ei];rw[DJ (o,o2)];rfl
  erw[HC];rw[ZA,t,eK];erw[i8];by_cases S:bs=[]
  .subst S;rfl
  .rw[DY S,DY (by simp[S])]
   rfl
 have u2:HA (δ (.val<|.str<|i8 bs) .no .no .no)=aF (.next<|δ (.val<|.str<|i8 bs) (.val<|.str<|m5 m<|bW bs) .no .no):=by
  have Q:zI (.nm 0) jb (qX<|J7<|jq<|jx j5<|zc (zf 1)<|zc (zf 0) zH) [.no,.val (.lst<|jy bs)] (zU (m+1) λi=>(i:Int))=aF (((cT<|m+1).map λk=>qV (bW bs k:Int)).map D.str):=by rw[z9,gj];show zk _ _ λk O=>zm rfl rfl<|kU ?_ () (by have:=I k;lia);have e:=yZ ao (k:Int);rw[<-Kk]at e;have pl:(qR bs (k:Int)).length=bW bs k:=congrFun (Hl st) k;simp[e,GM,pl]
  have ca:m+1<=lim:=()
  have zh4:inR ((m:Int)+1)=aG:=kP () ();erw[HA];rw[YK,kh (l:=(cT<|m+1).map λk=>qV (bW bs k:Int)) rfl (by simp[δ,jj,d5,qb,zh4,ca,Q]) (by simp;lia) (λx U=>by let(k,O,rfl):=fx.mp U;show qW () (by have:=I k;lia)) ()]
  rfl
 let P:zn (Nat×Nat):=ox.map λn=>(n/6,n%6);have zkQ:Hz (δ (.val<|.str<|i8 bs) (.val<|.str<|m5 m<|bW bs) .no .no)=aF (.next<|δ (.val<|.str<|i8 bs) (.val<|.str<|m5 m<|bW bs) (.own<|mT P) .no):=by
  have Q:(zL (jv<|sI 36) (.nm 0) 1 [] jb (kN<|zc (zF VO (zf 0)<|sI 6)<|zc (zF yL (zf 0)<|sI 6) zH)) []=aF (mT P):=by kernel_rfl
  have cc:∀γ:Ctx,(zL (jv<|sI 36) (.nm 0) 1 [] jb (kN<|zc (zF VO (zf 0)<|sI 6)<|zc (zF yL (zf 0)<|sI 6) zH)) γ=aF (mT P):=λγ=>Q;erw[Hz];rw[ar,cc];rfl
 have hP:∀x∈P,x.1<6/\x.2<6:=by decide +kernel
 have lP:P.length<=36:=by decide +kernel
 have ce:∀x∈P.reverse,x.1<6/\x.2<6:=λx U=>hP x<|List.mem_reverse.mp U;have zkR:XU (jv<|sI 2) (.nm 10) yg (δ (.val<|.str<|i8 bs) (.val<|.str<|m5 m<|bW bs) (.own<|mT P) .no)=aF (.next<|δ (.val<|.str<|i8 bs) (.val<|.str<|m5 m<|bW bs) (.own<|mT P.reverse.reverse)<|vI 1):=by
  have two:∀γ:Ctx,jv (sI 2) γ=aF [.int 0,.int 1]:=λγ=>by kernel_rfl
  have b0:=Hm (c0:=.val (X6 B)) (c1:=.val (.int c)) (c2:=.val (.int q)) (c5:=.val R) (c10:=.val (.int 0)) s () I tB oB oW O P hP lP;have N:=Hm (c0:=.val (X6 B)) (c1:=.val (.int c)) (c2:=.val (.int q)) (c5:=.val R) (c10:=.val (.int 1)) s () I tB oB oW O P.reverse ce (~~~lP);rw[YL,two,eK,xy];change tR (aF (δ (.val<|.str<|i8 bs) (.val<|.str<|m5 m<|bW bs) (.own<|mT P)<|vI 0)) _=_;rw[eK,show yg (δ (.val<|.str<|i8 bs) (.val<|.str<|m5 m<|bW bs) (.own<|mT P)<|vI 0)=_ from b0,eK];change vj (.nm 10) yg [.int 1] _=_;rw[xy];change tR (aF (δ (.val<|.str<|i8 bs) (.val<|.str<|m5 m<|bW bs) (.own<|mT P.reverse)<|vI 1)) _=_;rw[eK,show yg (δ (.val<|.str<|i8 bs) (.val<|.str<|m5 m<|bW bs) (.own<|mT P.reverse)<|vI 1)=_ from N];rfl
 have rest:Mx (δ .no .no .no .no)=aF (.ret<|.val<|.bl aG):=zx u0<|zx u1<|zx u2<|zx zkQ<|zx zkR rfl;have s6:BS (γ (vI q) (.val<|.int ((m+1:Nat):Int)) (.val<|.lst<|jy bs)<|.val R)=aF (.ret<|.val<|.bl aG):=by
  let C:Ctx:=γ (vI q) (.val<|.int ((m+1:Nat):Int)) (.val<|.lst<|jy bs)<|.val R;have fr:zD qg (zc (zf 5) zH) C=aF (.str<|vo q m w (bW bs) T):=by rw[qU];show congrArg (oh Ky) rt
  have fe:=ag (f:=je (.str "row ")) (x:="row ") (y:=vo q m w (bW bs) T) (γ:=C) rfl fr () be;rw[show("row " : Str)++vo q m w (bW bs) T=("row" ++ jW 32)++vo q m w (bW bs) T from by rfl]at fe;have z:Dz yv (yI (je (.str "row ")) (zD qg (zc (zf 5) zH))) (zD qg (zc (zf 5) zH)) C .dw=aF (bB,R):=by erw[Dz];rw[fe,eK,zkN,eK,fr,eK,W4 bb];rfl
  change BS C=_;erw[BS,iW];rw[DJ (rfl,by change 6<11;decide),show C.set 6 .no=C from rfl,z,eK,DY iu];show rest
 rw[YT];show zY<|zx (γ':=γ .no .no .no .no) (by simp[MC,z7,d5,e1,γ])<|zx (γ':=γ (vI q) .no .no .no) (by simp[MB,γ,aw,ep])<|zx (γ':=γ (vI q) (.val<|.int ((m+1:Nat):Int)) .no .no) (by simp[MA,γ,em];lia)<|zx (γ':=γ (vI q) (.val<|.int ((m+1:Nat):Int)) (.val<|.lst<|jy bs) .no) (by rw[K];simp[Mz,γ,b2,r1,ef])<|zx (γ':=γ (vI q) (.val<|.int ((m+1:Nat):Int)) (.val<|.lst<|jy bs)<|.val R) (by rw[K];simp[My,γ,zhm,br,eh,R]) s6
open PySem.Spec PyProof.Rows
def top(i:Nat):PySem.Stmt:=PySem.Challenge.pw_barsplit_k65_what_a_desk_tells_of_a_row.main.body.getD i<|.Pass (0,0,0,0)
section
variable{CR CL CD:PySem.Addr}{P:PySem.Program}{w:PySem.World}{K:cL}{mg:PySem.Str->xz PySem.Value}{base:PySem.Heap}
theorem gk(h:us.length=n+1):∃a t,us=a::t/\t.length=n:=by
 cases us with
 |nil=>show absurd h<|Nat.zero_ne_add_one n
 |cons a t=>show(a,t,rfl,Nat.succ.inj h)
theorem S'(h:us.length=1):∃a,us=[a]:=by let(a,y,rfl,b):=gk h;rw[ve b];show(a,rfl)
theorem DA(h:us.length=2):∃a b,us=[a,b]:=by let(a,y,rfl,d):=gk h;let(b,z,rfl,e):=gk d;rw[ve e];show(a,b,rfl)
theorem RP(h:us.length=3):∃a b c,us=[a,b,c]:=by let(a,y,rfl,d):=gk h;let(b,z,rfl,e):=gk d;let(c,I,rfl,f):=gk e;rw[ve f];show(a,b,c,rfl)
theorem zbr(h:us.length=4):∃a b c d,us=[a,b,c,d]:=by let(a,y,rfl,e):=gk h;let(b,z,rfl,f):=gk e;let(c,I,rfl,g):=gk f;let(d,J,rfl,i):=gk g;rw[ve i];show(a,b,c,d,rfl)
theorem zbq(h:us.length=5):∃a b c d e,us=[a,b,c,d,e]:=by let(a,y,rfl,f):=gk h;let(b,z,rfl,g):=gk f;let(c,I,rfl,i):=gk g;let(d,J,rfl,j):=gk i;let(e,O,rfl,k):=gk j;rw[ve k];show(a,b,c,d,e,rfl)
structure E0(K:cL)(mg:PySem.Str->Option PySem.Value):Prop where
 Q0:d9 K mg "_law_cell" (top 159) ["_law_script","_law_k"]
 Q1:d9 K mg "_law_few" (top 165) ["_law_some"]
 Q2:d9 K mg "_law_times" (top 160) ["_law_p","_law_one","_law_other"]
 Q3:d9 K mg "_law_in_turns" (top 168) ["_law_told_here","_law_turns","_law_backs"]
 Q4:d9 K mg "_law_turn" (top 162) ["_law_script","_law_at","_law_p","_law_many"]
 Q5:d9 K mg "_law_hidden" (top 169) ["_law_script","_law_at","_law_told_here"]
 Q6:d9 K mg "_law_bars" (top 164) ["_law_script","_law_at","_law_rooms","_law_many"]
 Q7:d9 K mg "_law_with" (top 166) ["_law_found","_law_room_here"]
 Q8:d9 K mg "_law_bar_row" (top 167) ["_law_p","_law_ways_here","_law_found"]
 Q9:d9 K mg "is_desk_line" (top 147) ["words"]
 Qa:d9 K mg "behind_noughts" (top 35) ["many","base"]
 Qb:d9 K mg "rests" (top 20) ["p","numbers"]
 Qc:d9 K mg "inverse" (top 21) ["p","x"]
 Qd:d9 K mg "cleared" (top 33) ["p","load","pivot","place"]
 Qe:d9 K mg "base_of" (top 34) ["p","long","loads"]
 Qf:d9 K mg "turned_over" (top 28) ["table"]
 Qg:d9 K mg "same_table" (top 29) ["many"]
 Qh:d9 K mg "led_into" (top 37) ["p","table","base"]
 Qi:d9 K mg "kernel" (top 38) ["p","table"]
 Qj:d9 K mg "image" (top 39) ["p","table"]
 Qk:d9 K mg "columns" (top 46) ["high","loads"]
 Ql:d9 K mg "has_room" (top 44) ["bar","room"]
 Qm:d9 K mg "loads_in" (top 45) ["bars","room"]
 Qn:d9 K mg "lead_of" (top 32) ["load"]
 Qo:d9 K mg "led" (top 26) ["p","table","load"]
 Qp:d9 K mg "mixed_load" (top 47) ["row","bars","times","room"]
 Qq:d9 K mg "mixed" (top 48) ["row","bars","times"]
 Qr:d9 K mg "settled" (top 49) ["row","k","bars"]
 Qs:d9 K mg "solved" (top 40) ["p","table","load"]
 Qt:d9 K mg "next_load" (top 50) ["p","arrow","load"]
 Qu:d9 K mg "taken_on" (top 51) ["p","arrow","bar"]
 Qv:d9 K mg "new_loads" (top 52) ["p","arrow"]
 Qw:d9 K mg "grown" (top 53) ["row","k","bars"]
 Qx:d9 K mg "stretch_of" (top 43) ["bar"]
 Qy:d9 K mg "all_grown" (top 54) ["row"]
 Qz:d9 K mg "back_of" (top 41) ["p","table"]
 _U:d9 K mg "barred" (top 55) ["row"]
 _V:d9 K mg "stretch_text" (top 150) ["stretch"]
 _W:d9 K mg "bars_text" (top 153) ["row"]
 _X:d9 K mg "is_whole" (top 18) ["x"]
 _Y:d9 K mg "is_room" (top 63) ["many","k"]
 UH:d9 K mg "ask_rooms" (top 95) ["row","i","j"]
 _Z:d9 K mg "led_on" (top 36) ["p","table","base"]
 b?:d9 K mg "tables_joined" (top 89) ["one","other","join"]
 d?:d9 K mg "nought_table" (top 30) ["high","wide"]
 e?:d9 K mg "no_join" (top 90) ["one","other"]
 f?:d9 K mg "tables_beside" (top 91) ["one","other"]
 g?:d9 K mg "link" (top 100) ["row","i","j"]
 i?:d9 K mg "kept" (top 101) ["row","i","j"]
 UI:d9 K mg "kept_text" (top 154) ["row","rooms"]
 j?:d9 K mg "rooms_behind" (top 149) ["words"]
 UJ:d9 K mg "answered" (top 156) ["row","words"]
 k?:d9 K mg "is_arrow_word" (top 131) ["word"]
 l?:d9 K mg "is_prime_word" (top 129) ["word"]
 m?:d9 K mg "is_width_word" (top 130) ["word"]
 n?:d9 K mg "has_form" (top 132) ["place","word"]
 o?:d9 K mg "check_forms" (top 133) ["words"]
 p?:d9 K mg "are_widths" (top 64) ["widths"]
 q?:d9 K mg "widths_of" (top 65) ["widths"]
 r?:d9 K mg "figures_of" (top 134) ["line"]
 s?:d9 K mg "rows_read" (top 135) ["signs","high"]
 t?:d9 K mg "is_prime" (top 19) ["p"]
 u?:d9 K mg "is_side" (top 22) ["many"]
 v?:d9 K mg "is_listed" (top 23) ["things","many"]
 w?:d9 K mg "is_line" (top 24) ["wide","row"]
 x?:d9 K mg "table_of" (top 25) ["p","high","wide","rows"]
 y?:d9 K mg "end_of" (top 61) ["k","way"]
 z?:d9 K mg "beginning_of" (top 60) ["k","way"]
 A?:d9 K mg "arrow_of" (top 66) ["p","widths","k","pair"]
 B?:d9 K mg "are_rests" (top 136) ["p","numbers"]
 C?:d9 K mg "arrow_read" (top 137) ["p","widths","k","word"]
 D?:d9 K mg "row_read" (top 138) ["text"]
 E?:d9 K mg "row_behind" (top 148) ["words"]
 F?:d9 K mg "changed" (top 152) ["row","words"]
 G?:d9 K mg "table_text" (top 126) ["table"]
 H?:d9 K mg "arrow_text" (top 127) ["arrow"]
 I?:d9 K mg "row_text" (top 128) ["row"]
 J?:d9 K mg "_law_kinds" (top 170) ["_law_e"]
 UK:d9 K mg "_law_told" (top 171) ["_law_desk","_law_line"]
 K?:d9 K mg "_law_text" (top 172) ["_law_told_here"]
 L?:d9 K mg "_law_ways" (top 163) ["_law_script","_law_at","_law_many"]
 M?:d9 K mg "_law_room" (top 174) ["_law_desk","_law_line"]
 N?:d9 K mg "_law_kept_right" (top 173) ["_law_desk","_law_some","_law_rooms","_law_i","_law_j"]
 O?:d9 K mg "law" (top 175) ["_law_script"]
 Z0:mg "len" = aT
 Z1:mg "min" = aT
 Z2:mg "range" = aT
 Z3:mg "sum" = aT
 Z4:mg "tuple" = aT
 Z5:mg "zip" = aT
 Z6:mg "enumerate" = aT
 Z7:mg "int" = aT
 Z8:mg "sorted" = aT
 Z9:mg "all" = aT
 Za:mg "any" = aT
 Zb:mg "dict" = aT
 Zc:mg "list" = aT
 Zd:mg "bool" = aT
 Ze:mg "isinstance" = aT
 Zf:mg "str" = aT
 Zg:mg "ValueError" = aT
 G0:GL K mg "LINES_WITH_A_ROW" (.tup [.str "row",.str "beside",.str "ways",.str "upon",.str "alike"])
 G1:GL K mg "ROOM_WORDS" (.tup [.str "0",.str "1",.str "2",.str "3",.str "4",.str "5"])
 G2:GL K mg "TABLE_SIGNS" (.str "0123456789/")
 G3:GL K mg "PRIMES" (.tup [.int 2,.int 3,.int 5,.int 7])
 G4:GL K mg "MOST_TOGETHER" (.int 30)
 G5:GL K mg "MOST_ROOMS" (.int 6)
 G6:GL K mg "MOST_HIGH_OR_WIDE" (.int 30)
 G7:GL K mg "WAYS" (.tup [.str "r",.str "l"])
 G8:XI K mg "NoArrow"
 G9:XI K mg "NoLine"
 Ga:XI K mg "NoPrime"
 Gb:XI K mg "NoRoom"
 Gc:XI K mg "NoRow"
 Gd:XI K mg "NoTable"
 Ge:XI K mg "NoText"
 Gf:XI K mg "NoTurn"
 Gg:XI K mg "NoWidths"
 Gh:XI K mg "Nothing"
 Gi:XI K mg "Nought"
 Gj:XI K mg "TooMany"
 Gk:XI K mg "Unlike"
 Gl:GL K mg "CHANGING_LINES" (.tup [.str "row",.str "beside",.str "cut",.str "mirror",.str "opposite",.str "about",.str "split"])
 Gm:XM K mg "SplitError"
 Gn:UU K "room" = aG
 Go:XM K mg "NoRoom"
 Gp:C5 K mg "NoRoom" "NoRoom.__init__" "room" (WV (top 14) 0) "room"
structure E1(P:PySem.Program)(w:PySem.World)(K:cL)(mg:PySem.Str->Option PySem.Value)(base:PySem.Heap)(CR CL:PySem.Addr):Prop where
 O1:↑N6 3 "arrow_by" CR CL
 P2:↑MethAt 5 CR v9
 P1:↑MethAt 5 CL qy
theorem K4(A:C5 K mg "NoRoom" "NoRoom.__init__" "room" (WV (top 14) 0) "room"):↑XJ 1 "NoRoom":=
 Su (k:=0) A () () λC y X z e I d b a=>by subst z e I d b;show qL (CC a y () () () () ())<|kJ<|Iy a y () ()
theorem vN(E:E0 K mg):↑d6 1 "_law_cell" 2 jU:=
 qF E (·.Q0) λX E a y=>by exists jo (Jv<|KD (tM (qG a () E.Z0 jI) zy)<|Jt<|qm a (ql zJ zy) zy) (by exists jm<|jM jI<|jC zy<|ql zw<|wx (qG a () E.Z0 jI) zy,kO y a (jK a () E.Z2<|Nw a () E.Z1 zy<|Ju zw<|wx (qG a () E.Z0 jI) zy)<|zg<|jm<|Ju zw<|tx zy zy,(zg<|zE<|ql zw<|tx zy zy)) zO,jm zw,jo (tM (qG a () E.Z0 jI) zy) (zg<|jm<|jM jI<|ql zw<|qG a () E.Z0 jI) zO,(zg<|zE<|ql (qY (ql (jC (jC (jC (qY (ql zw<|tx zy zy) zy)<|qY (qY zy zw) zw)<|qY zy zw) zy) zy) zy) zy)
theorem zjs(E:E0 K mg):↑d6 1 "_law_few" 1 YU:=
 qF E (·.Q1) λX E a y=>by exists zkE 100 (lJ y) (tM (lu a () E.Z3<|PO.q<|jQ a (zQ jI)<|λ_ _ _ b=>jC (wx zw zw) zy) zy)<|zg<|jm<|PO.v<|lF jI (j4 zy) qT,(zg<|kX 0<|a.var ())
theorem wQ(E:E0 K mg):↑d6 1 "_law_times" 3 xk:=
 P' (N:=["_law_p","_law_one","_law_other","_law_columns_told","_law_rows","_law_row"]) E (·.Q2) () λX E a y=>by exists jE 3 (yk a (fh.c (jK a () E.Z2 zJ)) (λ_ _ _ b=>PO.v (jQ b (zQ (PV.q zJ)) (λ_ _ _ d=>jM jI zw)))),yO (qQ (xS zu)),kO y a (Wm zJ) (zg (yj 4 a () (jJ a () E.Z4 (PO.q (jQ a (zQ jI) (λ_ _ _ b=>ql (lu b () E.Z3 (PO.q (jQ b (fh.c (ZI b () E.Z5 zw zw)) (λ_ _ _ d=>qY zw zw)))) zw)))))),(zg (zE (jP (xS (za zJ (za zJ (za (jJ a () E.Z4 jI) zu)))))))
theorem JE(E:E0 K mg):↑d6 2 "_law_in_turns" 3 qO:=
 qF E (·.Q3) λX E a y=>by exists lB (UW a) zw,yO<|qQ<|xS zu,(kO y a (Vv a () E.Z6 zw)<|by exists jm<|jC zw<|ZV a () E.Z7<|KI a zJ zM,jm<|jC zw<|ZV a () E.Z7<|KI a zJ zM,(zg<|yj 6 a ()<|jP<|xS<|za zJ<|za (z6 (wQ E)<|za zw<|za (z6 (wQ E)<|za zw<|za (jM jI zw)<|za zJ zu)<|za (jM jI zw) zu) zu)),(zg<|zE<|jP<|xS<|za zw<|za zw<|za (jJ a () E.Z4 jI) zu)
theorem Y3(E:E0 K mg):↑d6 2 "_law_turn" 4 xJ:=
 qF E (·.Q4) λX E a y=>by exists XZ 4<|yk a (fh.c<|jK a () E.Z2 zw)<|λ_ _ _ b=>PO.v<|jQ b (fh.c<|jK b () E.Z2 zw)<|λ_ _ _ d=>ZV d () E.Z7<|KI d zw zw,NJ a (fh.c<|jK a () E.Z2 zw)<|λ_ _ _ b=>jQ b (fh.c<|jK b () E.Z2 zw)<|λ_ _ _ d=>ZV d () E.Z7<|KI d zw zw,(kO y a (jK a () E.Z2<|qY zy zw)<|by exists jm<|z6 (vN E)<|za zw<|za (jC zw zw) zu,jm<|ql zw zw,jm<|ql (Ju zw zw) zw,jm<|jC zy<|ql (Ju zw zy)<|wx zw zy,(zg<|jo (qm a zw zw) (by exists KO 4 a () zw<|PO.v<|jQ a (zQ<|PV.q<|jM jI zw)<|λ_ _ _ b=>ql (qY zw zw) zw,jm<|jM (PO.q<|bK a (fh.c<|jK a () E.Z2 zw) (λ_ _ _ b=>qm b (ql (qY zw zw) zw) zy)<|λ_ _ _ b=>nQ b) zy,(zg<|Vu 5 12 (lJ y) a.calm a () () (a.tF 12 ()) zw<|ql (qY (jM jI zw) zw) zw))<|by exists KO 4 a () zw<|PO.v<|jQ a (fh.c<|ZI a () E.Z5 (jM jI zw)<|jM jI zw)<|λ_ _ _ b=>ql (jC zw<|qY zw zw) zw,(zg<|Vu 5 12 (lJ y) a.calm a () () (a.tF 12 ()) zw<|ql (wx (jM jI zw)<|qY zw<|jM jI zw) zw))),yO<|qQ<|xS zu,CB 5<|fG 4<|kO y a (Wm<|PO.v<|qQ<|xS f9)<|zg<|yj 13 a ()<|jP<|xS<|za zw<|za zw<|za (jJ a () E.Z4<|PO.q<|jQ a (zQ jI)<|λ_ _ _ b=>jJ b () E.Z4 jI) zu,(zg<|kX 13<|a.var ())
theorem Ww(E:E0 K mg):↑d6 3 "_law_hidden" 3 yY:=
 qF E (·.Q5) λX E a y=>by exists jE 3<|yk a (fh.c<|Vv a () E.Z6 zJ)<|λ_ _ _ b=>PO.v<|xf (Y3 E)<|za zw<|za (jC zw<|qY zy zw)<|za zJ eM,(zg<|zE<|z6 (JE E)<|za zw<|za (PO.v<|jQ a (zQ jI)<|λ_ _ _ b=>jM jI zy)<|za (PO.v<|jQ a (zQ jI)<|λ_ _ _ b=>jM jI zy) zu)
theorem K0(E:E0 K mg):↑d6 2 "_law_bars" 4 km:=
 qF E (·.Q6) λX E a y=>by exists yO<|qQ<|xS zu,(kO y a (jK a () E.Z2 zw)<|by exists jm<|z6 (vN E)<|za zw<|za (jC zw zw) zu,jm<|ql zw zw,(zg<|yj 4 a ()<|jP<|xS<|za zw<|za (jC zw<|ql (Ju zw zy)<|wx zw zw) zu)),(zg<|jZ<|CJ a () E.Z8 jI)
theorem xG(E:E0 K mg):↑d6 1 "_law_with" 2 j5:=
 qF E (·.Q7) λX E a y=>zg<|jZ<|bK a (fh.c<|Wn a () E.Z6 zw) (λ_ _ _ b=>bI Y2 Y2 ZD ZD zJ zw zJ)<|λ_ _ _ b=>nQ b
theorem Y5(E:E0 K mg):↑d6 2 "_law_bar_row" 3 wa:=
 qF E (·.Q8) λX E a y=>by exists jE 3<|yk a (fh.c<|jK a () E.Z2<|jC (Im a () E.Z0 zw) zy)<|λ_ _ _ b=>qG b () E.Z0<|PO.q<|xf (xG E) f9,yO<|qQ<|xS zu,(kO y a (IH a () E.Z6 zw)<|by exists jm<|jC zw<|ZV a () E.Z7<|KI a zw zM,jm<|jC zw<|ZV a () E.Z7<|KI a zw zM,jE 9<|yk a (zQ<|PO.q<|xf (xG E) f9)<|λ_ _ _ b=>jJ b () E.Z4<|PO.q<|jQ b (zQ<|PO.q<|xf (xG E) f9)<|λ_ _ _ d=>ZV d () E.Z7<|KI d zw zw,(zg<|yj 4 a ()<|jP<|xS<|za zw<|za (jP<|xS<|za (jM jI zw)<|za (jM jI zw)<|za (jJ a () E.Z4 jI) zu) zu)),(zg<|zE<|jP<|xS<|za zw<|za (jJ a () E.Z4 jI)<|za (jJ a () E.Z4 jI) zu)
theorem yn(E:E0 K mg)(y:sR w K mg "ROOMS_BEHIND" uP):↑d6 1 "is_desk_line" 1 jA:=
 Lw (N:=["words","first"]) E.Q9 () λX z f I e d a J=>by subst z f I e d;show by exists jm zJ,jo (Iu zw (PV.q (QL a () E.G0))) (zg (zE (Te (qG a () E.Z0 jI) zy))) zO,jo (Jv (ZG (ziK y a zw) (vK (ZH a (qG a () E.Z0 jI) (jC (Nx y a zw) zy))))) (zg (zE fF)) zO,(zg (zE (Xr a () E.Z9 (PO.q (jQ a (zQ (PO.q (lF jI (j4 zy) qT))) (λ_ _ _ b=>tJ zw (PV.q (QL b () E.G1))))))))
theorem ka(E:E0 K mg):↑d6 1 "behind_noughts" 2 qa:=
 qF E (·.Qa) λX E b y=>zg<|jZ<|bK b (zQ jI) (λ_ _ _ a=>jV<|jG<|Gv a () E.Za<|PV.q<|Xo zw qT<|j4 zw)<|λ_ _ _ a=>Xo zw (j4 zw) qT
theorem JD(E:E0 K mg):↑d6 1 "rests" 2 ke:=
 qF E (·.Qb) λX E a y=>zg<|zE<|jJ a () E.Z4<|PO.q<|jQ a (zQ jI)<|λ_ _ _ b=>ql zw zw
theorem zi3(E:E0 K mg):↑d6 1 "inverse" 2 YV:=
 qF E (·.Qc) λX E a y=>by exists kO y a (CN a () E.Z2 zy zw)<|zg<|jo (qm a (ql (qY zw zw) zw) zy) (zg<|kX 2<|a.var ()) zO,(zg qw)
theorem Vz(E:E0 K mg):↑d6 2 "cleared" 4 yB:=
 qF E (·.Qd) λX E a y=>by exists jm<|jM jI zw,jo (qm a zw zy) (zg<|kX 1<|a.var ()) zO,(zg<|zE<|z6 (JD E)<|za zw<|za (PO.v<|jQ a (fh.c<|ZI a () E.Z5 zw zw)<|λ_ _ _ b=>wx zw<|qY zw zw) zu)
theorem ya(E:E0 K mg):↑d6 3 "base_of" 3 qJ:=
 qF E (·.Qe) λX E a y=>by exists jE 3<|yk a (zQ jI)<|λ_ _ _ b=>z6 (JD E) f9,yO<|qQ<|xS zu,(kO y a (jK a () E.Z2 zw)<|by exists jE 6<|CH a (zQ jI) (λ_ _ _ b=>ZH b (jM jI zw) zy)<|λ_ _ _ b=>nQ b,jo (jV<|ly jI) (zg bJ) zO,jm<|z6 (zi3 E)<|za zw<|za (jM (PV.q zJ) zw) zu,jm<|z6 (JD E)<|za zw<|za (PO.v<|jQ a (zQ<|PV.q zJ)<|λ_ _ _ b=>qY zw zw) zu,jE 3<|yk a (zQ jI)<|λ_ _ _ b=>z6 (Vz E)<|za zw tv,(zg<|yO<|Jy (PO.q<|jQ a (zQ jI)<|λ_ _ _ b=>z6 (Vz E)<|za zw tv)<|PO.q<|qQ<|xS eM)),(zg<|kX 4<|a.var ())
theorem vi(E:E0 K mg):↑d6 1 "turned_over" 1 qM:=
 qF E (·.Qf) λX E a y=>by exists jE 1<|yk a (fh.c<|jK a () E.Z2 zJ)<|λ_ _ _ b=>jJ b () E.Z4<|PO.q<|jQ b (zQ<|PV.q zJ)<|λ_ _ _ d=>jM jI zw,(zg<|zE<|jP<|xS<|za zJ<|za zJ<|za (jJ a () E.Z4 jI) zu)
theorem xF(E:E0 K mg):↑d6 1 "same_table" 1 qr:=
 qF E (·.Qg) λX E a y=>by exists jE 1<|yk a (fh.c<|jK a () E.Z2 zw)<|λ_ _ _ b=>jJ b () E.Z4<|PO.q<|jQ b (fh.c<|jK b () E.Z2 zw)<|λ_ _ _ d=>xo (qm d zw zw) zy zy,(zg<|zE<|jP<|xS<|za zw<|za zw<|za (jJ a () E.Z4 jI) zu)
theorem KY(E:E0 K mg):↑d6 4 "led_into" 3 qy:=
 qF E (·.Qh) λX E a y=>by exists jE 3<|yk a (fh.c<|ZI a () E.Z5 (jM (PV.q<|z6 (vi E) eM) zy)<|jM (PV.q<|z6 (xF E)<|za zJ zu) zy)<|λ_ _ _ b=>jC zw zw,jE 4<|yk a (zQ jI)<|λ_ _ _ b=>jC zw<|qY (jP<|xS<|za zy zu) zJ,(zg<|jZ<|xf (ka E)<|za zJ<|za (PO.v<|xf (ya E)<|za zw<|za (jC zJ zJ)<|za (PO.v<|Jy jI jI) zu) zu)
theorem bZ(E:E0 K mg):↑d6 5 "kernel" 2 wc:=
 qF E (·.Qi) λX E a y=>zg<|jZ<|xf (KY E)<|za zw<|za zw<|za (PO.v<|qQ<|xS zu) zu
theorem lN(E:E0 K mg):↑d6 4 "image" 2 Xg:=
 qF E (·.Qj) λX E a y=>zg<|jZ<|xf (ya E)<|za zw<|za zJ<|za (jM (PV.q<|z6 (vi E) eM) zy) zu
theorem QR(E:E0 K mg):↑d6 2 "columns" 2 yA:=
 qF E (·.Qk) λX E a y=>zg<|zE<|z6 (vi E)<|za (jP<|xS<|za (qG a () E.Z0 jI)<|za zw<|za (jJ a () E.Z4 jI) zu) zu
theorem vO(E:E0 K mg):↑d6 1 "has_room" 2 j9:=
 qF E (·.Ql) λX E a y=>zg<|zE<|Wh Y2 Ec ZD iN zJ zw<|jC zJ<|qG a () E.Z0<|PV.q zJ
theorem ZY(E:E0 K mg):↑d6 2 "loads_in" 2 xA:=
 qF E (·.Qm) λX E a y=>zg<|jZ<|bK a (zQ jI) (λ_ _ _ b=>jG<|z6 (vO E) f9)<|λ_ _ _ b=>jM (PV.q zJ)<|wx zw zJ
theorem Zo(E:E0 K mg):↑d6 1 "lead_of" 1 xI:=
 qF E (·.Qn) λX E b y=>zg<|zE<|jM (PO.q<|bK b (fh.c<|Vv b () E.Z6 zw) (λ_ _ _ a=>ZH a zw zy)<|λ_ _ _ a=>nQ a) zy
theorem ux(E:E0 K mg):↑d6 2 "led" 3 iq:=
 qF E (·.Qo) λX E b y=>zg<|zE<|z6 (JD E)<|za zw<|za (PO.v<|jQ b (zQ<|PV.q zJ)<|λ_ _ _ a=>lu a () E.Z3<|PO.q<|jQ a (fh.c<|ZI a () E.Z5 zw zw)<|λ_ _ _ d=>qY zw zw) zu
theorem Wv(E:E0 K mg):↑d6 3 "mixed_load" 4 yX:=
 qF E (·.Qp) λX E a y=>by exists jE 4<|CH a (fh.c<|ZI a () E.Z5 zw zw) (λ_ _ _ b=>jG<|z6 (vO E) f9)<|λ_ _ _ b=>nQ b,(zg<|zE<|z6 (ux E)<|za zJ<|za (z6 (QR E)<|za (jM (PV.q zJ) zw)<|za (PO.v<|xf (ZY E) f9) zu) eM)
theorem Ef(E:E0 K mg):↑d6 4 "mixed" 3 az:=
 qF E (·.Qq) λX E a y=>by exists jm<|jM jI<|z6 (Zo E) eM,jE 4<|yk a (fh.c<|jK a () E.Z2<|qG a () E.Z0<|PV.q zJ)<|λ_ _ _ b=>z6 (Wv E)<|za zw<|za zw<|za zw<|za (jC zJ zw) zu,(zg<|zE<|jP<|xS<|za zJ<|za (jJ a () E.Z4 jI) zu)
theorem zjq(E:E0 K mg):↑d6 6 "settled" 3 YS:=
 qF E (·.Qr) λX E a y=>by exists jm<|jM (PV.q<|jM (PV.q zJ) zw) zy,jm<|jM (PV.q<|jM (PV.q zJ) zw) zy,jm<|xo (qm a zw zM) (PO.v<|xf (bZ E)<|za zJ eM)<|PO.v<|xf (lN E)<|za zJ eM,jm<|PO.v<|xf (KY E)<|za zJ<|za (z6 (QR E)<|za (jM (PV.q zJ) zw)<|za (PO.v<|xf (ZY E) f9) zu) eM,jm<|Cs a () E.Zb<|jQ a (zQ jI)<|λ_ _ _ b=>jP<|xS<|za (z6 (Zo E) eM) eM,(zg<|jZ<|jQ a (fh.c<|Wn a () E.Z6 zw)<|λ_ _ _ b=>xo (Iv b zw zw) (z6 (Ef E)<|za zw<|za zw<|za (NB b zw zw) zu) zw)
theorem zlf(E:E0 K mg):↑d6 4 "solved" 3 Zu:=
 qF E (·.Qs) λX E a y=>by exists jm zJ,yO<|NO (qQ<|xS<|za zy zu) zw,(kO y a (Wm<|PO.v<|xf (ya E)<|za zw<|za (jC zw zy)<|za (PO.v<|jQ a (fh.c<|ZI a () E.Z5 zJ zw)<|λ_ _ _ b=>jC zw<|jP<|xS eM) zu)<|by exists jm<|z6 (Zo E) eM,jo (qm a zw zw) (zg<|zE wL) zO,(zg<|KO 4 a () zw<|jM jI zw)),(zg<|zE<|jJ a () E.Z4 jI)
theorem bV(E:E0 K mg):↑d6 5 "next_load" 3 yz:=
 qF E (·.Qt) λX E a y=>by exists jo (qm a zJ zM) (zg<|zE<|z6 (zlf E)<|za zw<|za zJ eM) zO,jm<|z6 (ux E)<|za zw<|za zJ eM,(zg<|zE<|xo (jG<|Gv a () E.Za jI) zw wL)
theorem zhq(E:E0 K mg):↑d6 6 "taken_on" 3 vC:=
 qF E (·.Qu) λX E a y=>by exists jm<|z6 (bV E)<|za zw<|za zw<|za (jM (PV.q zJ)<|Vq zy) zu,(zg<|zE<|xo (KJ zw wL) zw<|jP<|xS<|za zJ<|za (jC zJ<|jP<|xS eM) zu)
theorem bX(E:E0 K mg):↑d6 6 "new_loads" 2 Ji:=
 qF E (·.Qv) λX E a y=>by exists jo (qm a zJ zM) (zg<|jZ<|xf (bZ E)<|za zw<|za zJ zu) zO,jE 2<|yk a (zQ<|PO.q<|xf (lN E)<|za zw<|za zJ zu)<|λ_ _ _ b=>z6 (Zo E) eM,(zg<|jZ<|bK a (fh.c<|Vv a () E.Z6<|jM (PV.q<|z6 (xF E)<|za (jM (PV.q zJ) zy) zu) zy) (λ_ _ _ b=>ziJ zw jI)<|λ_ _ _ b=>nQ b)
theorem Eg(E:E0 K mg):↑d6 7 "grown" 3 aC:=
 qF E (·.Qw) λX E b y=>by exists jm zJ,jm<|jM (PV.q zJ) zw,jE 5<|CH b (zQ jI) (λ_ _ _ a=>jV<|jG<|z6 (vO E) f9)<|λ_ _ _ a=>nQ a,jm<|PO.v<|xf (zjq E)<|za zw<|za zw<|za (PO.v<|bK b (zQ jI) (λ_ _ _ a=>jG<|z6 (vO E) f9)<|λ_ _ _ a=>nQ a) zu,jE 7<|yk b (zQ jI)<|λ_ _ _ a=>z6 (zhq E) tv,jE 8<|yk b (zQ<|PO.q<|xf (bX E) f9)<|λ_ _ _ a=>jP<|xS<|za (jC zw zy)<|za (jP<|xS eM) zu,(zg<|zE<|PO.v<|Jy jI<|PV.q<|xo (qm b zJ zM) (PO.v<|Jy jI jI)<|PO.v<|Jy jI jI)
theorem JC(E:E0 K mg):↑d6 1 "stretch_of" 1 qf:=
 qF E (·.Qx) λX E a y=>zg<|zE<|jP<|xS<|za zJ<|za (wx (jC zJ<|qG a () E.Z0<|PV.q zJ) zy) zu
theorem cv(E:E0 K mg):↑d6 9 "all_grown" 1 wq:=
 qF E (·.Qy) λX E a y=>by exists jE 1<|yk a (zQ<|PV.q<|jM (PV.q<|z6 (xF E)<|za (jM (PV.q zJ) zy) zu) zy)<|λ_ _ _ b=>jP<|xS<|za zy<|za (jP<|xS eM) zu,kO y a (jK a () E.Z2<|qG a () E.Z0<|PV.q zJ)<|zg<|jm<|z6 (Eg E) tv,(zg<|jZ<|CK (JC E) a () () E.Z8 () jI)
theorem zi5(E:E0 K mg):↑d6 4 "back_of" 2 yC:=
 qF E (·.Qz) λX E a y=>by exists jm zJ,jo (ZH a zJ zw) (zg<|zE wL) zO,jm<|jM (PV.q<|z6 (xF E) eM) zy,jm<|PO.v<|xf (ya E)<|za zw<|za (jC zw zw)<|za (PO.v<|jQ a (fh.c<|ZI a () E.Z5 zJ zw)<|λ_ _ _ b=>jC zw zw) zu,jo (ZH a (PO.v<|jQ a (zQ jI)<|λ_ _ _ b=>Xo zw qT<|j4 zw)<|PO.v<|IC a () E.Zc jI) (zg<|zE wL) zO,(zg<|zE<|jP<|xS<|za zw<|za zw<|za (jJ a () E.Z4<|PO.q<|jQ a (zQ jI)<|λ_ _ _ b=>Xo zw (j4 zw) qT) zu)
theorem zlg(E:E0 K mg):↑d6 10 "barred" 1 wo:=
 qF E (·._U) λX E a y=>by exists jm<|PO.v<|xf (cv E) eM,jE 2<|yk a (fh.c<|Vv a () E.Z6 zJ)<|λ_ _ _ b=>z6 (QR E)<|za zw<|za (PO.v<|xf (ZY E) f9) zu,jE 3<|yk a (zQ jI)<|λ_ _ _ b=>z6 (zi5 E)<|za zJ eM,(zg<|zE<|jP<|xS<|za (PO.v<|jQ a (zQ jI)<|λ_ _ _ b=>z6 (JC E) eM) f9)
theorem KU(E:E0 K mg):↑d6 1 "stretch_text" 1 xj:=
 qF E (·._V) λX E a y=>by exists jm zJ,jm zJ,(zg<|zE<|KH<|xZ (Vr rfl zw)<|xZ zM<|xZ (Vr rfl zw) bM)
theorem ck(E:E0 K mg):↑d6 11 "bars_text" 1 wm:=
 qF E (·._W) λX E a y=>by exists jm<|jM (PV.q<|z6 (zlg E) eM) zy,(zg<|zE<|xo (ly jI) (kE zM<|PO.q<|jQ a (zQ jI)<|λ_ _ _ b=>z6 (KU E) eM) zM)
theorem ym(E:E0 K mg):↑d6 1 "is_whole" 1 qz:=
 qF E (·._X) λX E a y=>zg<|zE<|Xq (zkA a () E.Ze () E.Z7 zw)<|Xp<|Nv<|ziI a () E.Ze () E.Zd zw
theorem vx(E:E0 K mg):↑d6 2 "is_room" 2 kx:=
 qF E (·._Y) λX E a y=>zg<|zE<|Xq (z6 (ym E) eM)<|Xp<|Wh Y2 Ec ZD iN zy zw zw
theorem cp(E:E0 K mg):↑d6 3 "ask_rooms" 3 yD:=
 qF E (·.UH) λX E a y=>by exists jm<|qG a () E.Z0<|PV.q zJ,jo (jV<|jG<|z6 (vx E) f9) (zg qw) zO,(zg<|jo (Jv<|ZG (jV<|jG<|z6 (vx E) f9)<|vK<|tK zw zw) (zg qw) zO)
theorem Wr(E:E0 K mg):↑uh 3 "ask_rooms" 3 qI:=
 Ls (N:=["row","i","j","many"]) E.UH () λX z e I d b a=>by subst z e I d b;have y:=a.gd (λ_ _=>False);have J:(X.gd λ_ _=>False).xe=(λ_ _=>False):=rfl;show vJ nO (jm (qG y () E.Z0 (PV.q zJ))) (vJ (Cq (jV (jG (z6 (vx E) f9))) (vH (bF y () (K4 E.Gp) () zw)) lr) (jo (jV (jG (z6 (vx E) f9))) (zg qw) zO) (vH (Cq (Jv (ZG (jV (jG (z6 (vx E) f9))) (vK (tK zw zw)))) (vH (bF y () (K4 E.Gp) () zw)) lr)))
theorem Ou(E:E0 K mg):↑d6 4 "led_on" 3 v9:=
 qF E (·._Z) λX E a y=>zg<|jZ<|xf (ya E)<|za zw<|za zJ<|za (PO.v<|jQ a (zQ jI)<|λ_ _ _ b=>z6 (ux E) tv) zu
theorem XE(E:E0 K mg):↑d6 1 "tables_joined" 3 xH:=
 qF E (·.b?) λX E a y=>by exists jE 3<|yk a (fh.c<|ZI a () E.Z5 zJ zJ)<|λ_ _ _ b=>jC zw zw,jE 4<|yk a (zQ<|PV.q zJ)<|λ_ _ _ b=>jC (qY (jP<|xS<|za zy zu) zJ) zw,(zg<|zE<|jP<|xS<|za (jC zJ zJ)<|za (jC zJ zJ)<|za (jJ a () E.Z4<|PV.q<|PO.v<|Jy jI jI) zu)
theorem KW(E:E0 K mg):↑d6 1 "nought_table" 2 ki:=
 qF E (·.d?) λX E a y=>zg<|zE<|jP<|xS<|za zw<|za zw<|za (qY (jP<|xS<|za (qY (jP<|xS<|za zy zu) zw) zu) zw) zu
theorem zjr(E:E0 K mg):↑d6 2 "no_join" 2 J0:=
 qF E (·.e?) λX E a y=>zg<|zE<|z6 (KW E)<|za zJ<|za zJ zu
theorem JB(E:E0 K mg):↑d6 3 "tables_beside" 2 qN:=
 qF E (·.f?) λX E a y=>zg<|zE<|z6 (XE E)<|za zw<|za zw<|za (z6 (zjr E) f9) zu
theorem IS(E:E0 K mg)(A:↑E1 CR CL):↑d6 6 "link" 3 mQ:=
 Lw (N:=["row","i","j","same","base","arrow"]) E.g? () λX y e z d b a I=>by subst y e z d b;show by exists jm (z6 (xF E) (za (jM (PV.q zJ) zw) zu)),XZ 4 (yk a (zQ (PV.q zJ)) (λ_ _ _ f=>jC zw zw)),kO I a (Wm (Xo zJ (j4 zw) (j4 zw))) (zg (fG 4 (yO (CM A.O1 A.P2 A.P1 () () () a () zJ zJ (z6 (JB E) (za zw (za zJ zu))) zw)))),(zg (kX 4 (a.var ())))
theorem IT(E:E0 K mg)(A:↑E1 CR CL):↑d6 7 "kept" 3 J2:=
 Lw (N:=["row","i","j","base","first","second","swapped"]) E.i? () λX y e z d b a I=>by subst y e z d b;show by exists jm (PO.v (Tj (IS E A) a tv)),jm (jM (PV.q zJ) zw),jm (jM (PV.q zJ) zw),jm (PO.v (xf (ya E) (za zJ (za (jC zw zw) (za (PO.v (jQ a (zQ jI) (λ_ _ _ f=>jC (Xo zw (j4 zw) qT) (Xo zw qT (j4 zw))))) zu))))),(zg (zE (wx (wx (qG a () E.Z0 jI) (qG a () E.Z0 (PO.q (xf (ka E) f9)))) (qG a () E.Z0 (PO.q (xf (ka E) f9))))))
theorem K1(E:E0 K mg)(A:↑E1 CR CL):↑d6 8 "kept_text" 2 kn:=
 Lw (N:=["row","rooms"]) E.UI () λX y e z d b a I=>by subst y e z d b;show by exists Wi (z6 (cp E) (za zw (za zJ (za zJ zu)))),(zg (zE (qS a () E.Zf (XC (IT E A) a (za zw (za zJ (za zJ zu)))))))
theorem XD(E:E0 K mg)(A:↑E1 CR CL):↑uh 8 "kept_text" 2 ZN:=
 Ls (N:=["row","rooms"]) E.UI () λX y e z d b a=>by subst y e z d b;have I:=a.gd (λ_ _=>False);have J:(X.gd λ_ _=>False).xe=(λ_ _=>False):=rfl;show vH (Il (Wr E) () I () (za zw (za zJ (za zJ zu))))
theorem wO(E:E0 K mg):↑d6 1 "rooms_behind" 1 qx:=
 qF E (·.j?) λX E a y=>zg<|jZ<|jQ a (zQ<|PO.q<|lF jI (j4 zy) qT)<|λ_ _ _ b=>Wg b () E.Z7 zw
theorem ZK(E:E0 K mg)(A:↑E1 CR CL):↑d6 12 "answered" 2 qP:=
 Lw (N:=["row","words","first"]) E.UJ () λX y f z e d a I=>by subst y f z e d;show by exists jm zJ,jo (qm a zw zM) (zg (zE (z6 (ck E) eM))) zO,jo (qm a zw zM) (zg (zE (XC (K1 E A) a (za zw (za (PO.v (xf (wO E) eM)) zu))))) zO,jo (qm a zw zM) (zg (zE (kE zM (PO.q (jQ a (zQ (PV.q zJ)) (λ_ _ _ b=>qS b () E.Zf zw)))))) zO,qK
theorem KS(E:E0 K mg)(A:↑E1 CR CL):↑uh 12 "answered" 2 qe:=
 Ls (N:=["row","words","first"]) E.UJ () λX z e I d b a=>by subst z e I d b;have y:=a.gd (λ_ _=>False);have J:(X.gd λ_ _=>False).xe=(λ_ _=>False):=rfl;show vJ nO (jm zJ) (vJ nO (jo (qm y zw zM) qK zO) (vH (Cq (qm y zw zM) (vH (sY (XD E A) () y () (za zw (za (PO.v (xf (wO E) eM)) zu)))) lr)))
theorem XH(E:E0 K mg):↑d6 1 "is_arrow_word" 1 xN:=
 qF E (·.k?) λX E a y=>by exists jo (vw (kH (bG zw qT<|j4 zy)<|bG zw (j4<|Vq zy) qT)<|PV.q<|jP<|xS<|za zM<|za zM zu) (zg<|zE fF) zO,(zg<|zE<|Xr a () E.Z9<|PO.q<|jQ a (fh.c<|ua<|bG zw (j4 zy)<|j4<|Vq zy)<|λ_ _ _ b=>Ip zw<|QL b () E.G2)
theorem XG(E:E0 K mg):↑d6 1 "is_prime_word" 1 xM:=
 qF E (·.l?) λX E a y=>zg<|zE<|tJ zw<|PO.q<|jQ a (zQ<|PV.q<|QL a () E.G3)<|λ_ _ _ b=>KH<|xZ (Vr rfl zw)<|xZ zM bM
theorem XF(E:E0 K mg):↑d6 1 "is_width_word" 1 xK:=
 qF E (·.m?) λX E a y=>zg<|zE<|tJ zw<|PO.q<|jQ a (fh.c<|jK a () E.Z2<|jC (QL a () E.G4) zy)<|λ_ _ _ b=>qS b () E.Zf zw
theorem zhv(E:E0 K mg):↑d6 2 "has_form" 2 yb:=
 qF E (·.n?) λX E a y=>by exists jo (qm a zw zy) (zg<|zE<|z6 (XG E) eM) zO,jo (qm a (ql zw zy) zy) (zg<|zE<|z6 (XF E) eM) zO,(zg<|zE<|z6 (XH E) eM)
theorem Y6(E:E0 K mg):↑d6 3 "check_forms" 1 we:=
 qF E (·.o?) λX E a y=>by exists kO y a (Wn a () E.Z6 zw)<|zg<|jo (jV<|jG<|z6 (zhv E) f9) (zg qw) zO,(zg<|jo (qm a (ql (qG a () E.Z0 jI) zy) zy) (zg qw) zO)
theorem WA(E:E0 K mg):↑d6 2 "are_widths" 1 vd:=
 qF E (·.p?) λX E a y=>by exists jo (Jv<|ZG (jV<|jG<|tH a () E.Ze () E.Zc () E.Z4 zw)<|vK<|jV<|bI Y2 Y2 ZD ZD zy (qG a () E.Z0 jI)<|QL a () E.G5) (zg<|zE fF) zO,jo (jV<|jG<|Xr a () E.Z9<|PO.q<|jQ a (zQ jI)<|λ_ _ _ b=>Xq (z6 (ym E) eM)<|Xp<|Tf zw zy) (zg<|zE fF) zO,(zg<|zE<|Td (lu a () E.Z3 jI)<|QL a () E.G4)
theorem bQ(E:E0 K mg):↑d6 3 "widths_of" 1 vZ:=
 qF E (·.q?) λX E a y=>by exists jo (jV<|jG<|z6 (WA E) eM) (zg qw) zO,(zg<|zE<|jJ a () E.Z4 jI)
theorem Wx(E:E0 K mg):↑d6 1 "figures_of" 1 kz:=
 qF E (·.r?) λX E a y=>zg<|jZ<|jQ a (fh.c<|ua zw)<|λ_ _ _ b=>Wg b () E.Z7 zw
theorem bU(E:E0 K mg):↑d6 2 "rows_read" 2 yx:=
 qF E (·.s?) λX E a y=>by exists jo (Jv<|KD (qm a zw zM)<|Jt<|qm a zw zy) (zg<|jZ<|qQ<|xS zu) zO,(zg<|jZ<|jQ a (zQ<|PO.q<|Jx zw zM)<|λ_ _ _ b=>PO.v<|xf (Wx E) eM)
theorem zhu(E:E0 K mg):↑d6 2 "is_prime" 1 Xf:=
 qF E (·.t?) λX E a y=>zg<|zE<|Xq (z6 (ym E) eM)<|Xp<|Nz zw<|PV.q<|QL a () E.G3
theorem Vy(E:E0 K mg):↑d6 2 "is_side" 1 Zi:=
 qF E (·.u?) λX E a y=>zg<|zE<|Xq (z6 (ym E) eM)<|Xp<|Wh Y2 Y2 ZD ZD zy zw<|QL a () E.G6
theorem wR(E:E0 K mg):↑d6 1 "is_listed" 2 xw:=
 qF E (·.v?) λX E a y=>zg<|zE<|Xq (tH a () E.Ze () E.Zc () E.Z4 zw)<|Xp<|KI a (qG a () E.Z0 jI) zw
theorem zjv(E:E0 K mg):↑d6 2 "is_line" 2 Zj:=
 qF E (·.w?) λX E a y=>zg<|zE<|Xq (z6 (wR E) f9)<|Xp<|Xr a () E.Z9<|PO.q<|jQ a (zQ jI)<|λ_ _ _ b=>z6 (ym E) eM
theorem zhr(E:E0 K mg):↑d6 3 "table_of" 4 Zt:=
 qF E (·.x?) λX E a y=>by exists jo (jV<|jG<|z6 (zhu E) eM) (zg qw) zO,jo (Jv<|ZG (jV<|jG<|z6 (Vy E) eM)<|vK<|jV<|jG<|z6 (Vy E) eM) (zg qw) zO,jo (Jv<|ZG (jV<|jG<|z6 (wR E) f9)<|vK<|jV<|jG<|Xr a () E.Z9<|PO.q<|jQ a (zQ jI)<|λ_ _ _ b=>z6 (zjv E) f9) (zg qw) zO,(zg<|zE<|jP<|xS<|za zw<|za zw<|za (jJ a () E.Z4<|PO.q<|jQ a (zQ jI)<|λ_ _ _ b=>z6 (JD E) f9) zu)
theorem cg(E:E0 K mg):↑d6 1 "end_of" 2 J4:=
 qF E (·.y?) λX E a y=>zg<|zE<|xo (qm a zw zM) (jC zw zy) zw
theorem K5(E:E0 K mg):↑d6 1 "beginning_of" 2 ko:=
 qF E (·.z?) λX E a y=>zg<|zE<|xo (qm a zw zM) zw<|jC zw zy
theorem zhw(E:E0 K mg):↑d6 4 "arrow_of" 4 Zw:=
 qF E (·.A?) λX E a z=>by exists jo (Jv<|ZG (jV<|jG<|z6 (wR E)<|za zw<|za zy zu)<|vK<|vw zJ<|PV.q<|QL a () E.G7) (zg qw) zO,jm zJ,Cy (have y:=a.gd<|λ_ _=>False;QM 5 (y.set 5 ()<|z6 (zhr E)<|za zw<|za (jM jI<|z6 (cg E) f9)<|za (jM jI<|z6 (K5 E) f9)<|za zJ zu)),(zg<|zE<|jP<|xS f9)
theorem cu(E:E0 K mg):↑d6 1 "are_rests" 2 yE:=
 qF E (·.B?) λX E a y=>zg<|zE<|Xr a () E.Z9<|PO.q<|jQ a (zQ jI)<|λ_ _ _ b=>Tc zw zw
theorem Wz(E:E0 K mg):↑d6 5 "arrow_read" 4 vc:=
 qF E (·.C?) λX E a y=>by exists jm<|xo (jG<|zkM zw zM) zM zM,jm<|PO.v<|xf (bU E)<|za (bG zw (j4 zy)<|j4<|Vq zy)<|za (jM jI<|z6 (cg E) f9) zu,jo (jV<|jG<|Xr a () E.Z9<|PO.q<|jQ a (zQ jI)<|λ_ _ _ b=>z6 (cu E) f9) (zg qw) zO,(zg<|zE<|z6 (zhw E)<|za zw<|za zw<|za zw<|za (jP<|xS f9) zu)
theorem zht(E:E0 K mg):↑d6 6 "row_read" 1 Xe:=
 qF E (·.D?) λX E a y=>by exists jm<|PO.v<|Jx zw zM,Wi<|z6 (Y6 E) eM,jm<|Wg a () E.Z7<|bG zJ qT<|j4<|Vq zy,jm<|z6 (bQ E)<|za (PO.v<|jQ a (zQ<|PO.q<|GB jI (j4 zy) qT<|j4 zy)<|λ_ _ _ b=>Wg b () E.Z7 zw) zu,jE 4<|yk a (fh.c<|Wn a () E.Z6<|PO.v<|GB jI (j4 zy) qT<|j4 zy)<|λ_ _ _ b=>z6 (Wz E)<|za zw tv,(zg<|zE<|jP<|xS<|za zw<|za zw<|za (jJ a () E.Z4 jI) zu)
theorem Wu(E:E0 K mg):↑d6 7 "row_behind" 1 yW:=
 qF E (·.E?) λX E a y=>zg<|zE<|z6 (zht E)<|za (kE zM<|PO.q<|lF jI (j4 zy) qT) zu
theorem zi4(E:E0 K mg):↑d6 8 "changed" 2 YW:=
 qF E (·.F?) λX E a y=>by exists jm zJ,jo (qm a zw zM) (zg<|zE<|z6 (Wu E) eM) zO,qK
theorem Ws(E:E0 K mg):↑d6 1 "table_text" 1 yV:=
 qF E (·.G?) λX E a y=>zg<|zE<|kE zM<|PO.q<|jQ a (zQ<|PV.q zJ)<|λ_ _ _ b=>kE zM<|PO.q<|jQ b (zQ jI)<|λ_ _ _ d=>qS d () E.Zf zw
theorem Wy(E:E0 K mg):↑d6 2 "arrow_text" 1 kC:=
 qF E (·.H?) λX E a y=>by exists jm<|z6 (Ws E)<|za zJ zu,(zg<|zE<|xo (qm a zJ zM) (KH<|xZ zM<|xZ (Vr rfl zw)<|xZ zM bM)<|KH<|xZ zM<|xZ (Vr rfl zw)<|xZ zM bM)
theorem zhs(E:E0 K mg):↑d6 3 "row_text" 1 Zv:=
 qF E (·.I?) λX E a y=>by exists jm zJ,yO<|qQ<|xS<|za (KH<|xZ (Vr rfl zw)<|xZ zM bM)<|za (qS a () E.Zf<|jM (PV.q zJ) zy) zu,(kO y a (ZI a () E.Z5 zJ<|Xo zJ (j4 zy) qT)<|by exists yj 2 a ()<|z6 (Wy E) eM,(zg<|yj 2 a ()<|qS a () E.Zf zw)),(zg<|zE<|kE zM jI)
theorem bY(E:E0 K mg):↑d6 1 "_law_kinds" 1 Jj:=
 qF E (·.J?) λX E a y=>by show ze (yO<|qQ<|xS<|za (vq a () E.Ze () E.Ga zw)<|za (vq a () E.Ze () E.Gi zw)<|za (vq a () E.Ze () E.Gd zw)<|za (vq a () E.Ze () E.Gg zw) zu) ?_;show ze (yO<|Jy jI<|PO.q<|qQ<|xS<|za (vq a () E.Ze () E.Gc zw)<|za (vq a () E.Ze () E.Gk zw)<|za (vq a () E.Ze () E.Gj zw)<|za (vq a () E.Ze () E.Gf zw) zu) ?_;show ze (yO<|Jy jI<|PO.q<|qQ<|xS<|za (vq a () E.Ze () E.G9 zw)<|za (vq a () E.Ze () E.Gh zw)<|za (vq a () E.Ze () E.G8 zw)<|za (vq a () E.Ze () E.Ge zw) zu) ?_;show ze (yj 1 a ()<|vq a () E.Ze () E.Gb zw) ?_;show ze ?_ ?_;show(by(with_reducible show QM 2 ?_);(with_reducible show SX.set a 2 ?hc ?_ (hs:=?hq));(case hc=>decide +kernel);(case hq=>rfl);(with_reducible show PO.v ?_);(with_reducible show qQ ?_);(with_reducible show xE zM ?_ (hs:=?hq));(case hq=>rfl);(with_reducible show xE zM ?_ (hs:=?hq));(case hq=>rfl);(with_reducible show xE zM ?_ (hs:=?hq));(case hq=>rfl);(with_reducible show xE zM ?_ (hs:=?hq));(case hq=>rfl);(with_reducible show xE zM ?_ (hs:=?hq));(case hq=>rfl);(with_reducible show xE zM ?_ (hs:=?hq));(case hq=>rfl);(with_reducible show xE zM ?_ (hs:=?hq));(case hq=>rfl);(with_reducible show xE zM ?_ (hs:=?hq));(case hq=>rfl);(with_reducible show xE zM ?_ (hs:=?hq));(case hq=>rfl);(with_reducible show xE zM ?_ (hs:=?hq));(case hq=>rfl);(with_reducible show uq));exists jm<|PO.v<|Jy jI<|PO.q<|qQ<|xS<|za zM<|za zM<|za zM zu,jo (jV<|jG<|Io a () E.Ze () E.Zg zw) (zg<|jZ<|qQ<|xS<|za zM zu) zO,(zg<|fG 1<|jZ<|bK a (fh.c<|jK a () E.Z2 zy) (λ_ _ _ b=>jG<|jM jI zw)<|λ_ _ _ b=>jM jI zw)
theorem RE{f C:cI}{e:gv}(y:L2.g5 K "__init__" "Desk.__init__" (WV (top 157) 0) f e)(c:ug K C):↑fy f7 1 f e ["self"] (MU C):=
 EW (k:=0) y () c λX z g I d b a=>by subst z g I d b;show kJ<|lD (a.var ()) bN rfl
theorem RB{f C:cI}{e:gv}(y:L2.g5 K "tell" "Desk.tell" (WV (top 157) 1) f e)(c:ug K C)(E:E0 K mg)(A:↑E1 CR CL)(z:sR w K mg "ROOMS_BEHIND" uP):↑fy f7 13 f e ["self","line"] (F9 K C yv):=
 ET (k:=12) y () c λX I g J d b a=>by subst I g J d b;show qL (a.set 2 ()<|PO.v<|Jx zw zM)<|qL (tU (jV<|jG<|XC (yn E z) a eM) KN KM)<|qL (tU (PW.pt<|Gu (wM GI (JA (a.var ()) rfl) bN<|yP _)<|sZ<|ZH a zJ zM) KN KM)<|qL (tU (vw zJ<|PV.q<|QL a () E.Gl) (kJ<|Jw<|uk (ZK E A) a<|zS (JA (a.var ()) rfl)<|zS zw jH) KM)<|qL (lD (a.var ()) (uk (zi4 E) a<|zS (JA (a.var ()) rfl)<|zS zw jH) rfl)<|kJ<|Jw<|uk (zhs E) a<|zS (JA (a.var ()) rfl) jH
theorem RD{f C:cI}{e:gv}(y:L2.g5 K "tell" "Desk.tell" (WV (top 157) 1) f e)(c:rb K C)(E:E0 K mg)(A:↑E1 CR CL)(z:sR w K mg "ROOMS_BEHIND" uP):↑fy f7 13 f e ["self","line"] (kr K 2 yw):=
 Lu (N:=["self","line","words"]) (k:=12) y () λX I g J d b a O=>by subst I g J d b;show ze (jm (PO.v (Jx zw zM))) (ze (jo (jV (jG (XC (yn E z) a eM))) qK zO) (ze (jo (Jv (KD (KJ (lx c zw) wL) (Jt (ZH a zJ zM)))) qK zO) (ze (jo (vw zJ (PV.q (QL a () E.Gl))) (zg (zE (XC (ZK E A) a (za (lx c zw) eM)))) zO) qK)))
theorem RA{f C:cI}{e:gv}(z:L2.g5 K "tell" "Desk.tell" (WV (top 157) 1) f e)(c:rb K C)(E:E0 K mg)(A:↑E1 CR CL)(I:sR w K mg "ROOMS_BEHIND" uP):↑fy (md P w) 13 f e ["self","line"] (r0 K 2 qH):=
 Hf (N:=["self","line","words"]) (ps:=["self","line"]) (k:=12) z () λX J g O d b a=>by subst J g O d b;have y:=a.gd (λ_ _=>False);show vJ nO (jm (PO.v (Jx zw zM))) (vJ nO (jo (jV (jG (XC (yn E I) y eM))) qK zO) (vJ nO (jo (Jv (KD (KJ (lx c zw) wL) (Jt (ZH y zJ zM)))) qK zO) (vH (Cq (vw zJ (PV.q (QL y () E.Gl))) (vH (sY (KS E A) () y () (za (lx c zw) eM))) lr))))
theorem Rz(E:E0 K mg)(z:↑Oz 13 CD yv):↑C4 14 "_law_told" CD yv:=
 ES (N:=["_law_desk","_law_line","_law_caught","_law_found","_law_e"]) E.UK () rfl rfl λX I e J d b a=>by subst I e J d b;have y:=a.gd (λ_ _=>False);show qL (a.set 2 () bN) (qL (a.set 3 () bN) (qL (Iz z () a () (y.var ()) (y.var ())) ?_));erw[Uw];show ze (jo (KJ zw wL) (zg (kX 3 (a.var ()))) zO) qK
theorem kf(E:E0 K mg)(J:↑xC 13 yw)(O:↑uu 13 qH):↑d6 14 "_law_told" 2 jg:=
 OZ (N:=["_law_desk","_law_line","_law_caught","_law_found","_law_e"]) E.UK () λX Q e U d b a Y W=>by subst Q e U d b;show by exists jm wL,jm wL,lA (λ_ w=>zlp (fU w (λ_ _ z=>z.elim) λ_ _ z=>z) rfl) a W (have y:=a.gd (λ_ _=>False);QM 3 (y.set 3 () (tf J () y zw zw))) O () (have y:=a.gd (λ_ _=>False);KG 0 (y.var ())) (have y:=a.gd (λ_ _=>False);KG 1 (y.var ())) (An 4 a E.Gm () () () (λ_ I=>zg (QM 2 (I.set 2 () (KG 4 (I.var ()))))) Am),jo (KJ zw wL) (zg (kX 3 (a.var ()))) zO,(zg (jZ (xf (bY E) eM)))
theorem ZJ(E:E0 K mg):↑d6 1 "_law_text" 1 qg:=
 qF E (·.K?) λX E a y=>by exists lB (UW a) zw,yO<|qQ<|xS<|za (kH (qS a () E.Zf zw) zM)<|za (qS a () E.Zf zJ) zu,(kO y a (Vv a () E.Z6 zw)<|by exists jm<|kE zM<|PO.q<|jQ a (zQ<|PV.q<|jM (PV.q zJ) zy)<|λ_ _ _ b=>kE zM<|PO.q<|jQ b (zQ jI)<|λ_ _ _ d=>qS d () E.Zf zw,jo (qm a zJ zM) (zg<|yj 4 a ()<|kH (kH zM zw) zM)<|zg<|yj 4 a ()<|kH (kH zM zw) zM,(zg<|yj 4 a ()<|qS a () E.Zf<|jM jI<|jC zw zy)),(zg<|zE<|kE zM jI)
theorem KZ(E:E0 K mg):↑d6 2 "_law_ways" 3 kj:=
 qF E (·.L?) λX E a y=>zg<|zE<|kE zM<|PO.q<|jQ a (fh.c<|jK a () E.Z2<|wx zw zy)<|λ_ _ _ b=>Cr zM<|ql (Ju (z6 (vN E)<|za zw<|za (jC zw zw) zu) zy) zy
theorem Y4(E:E0 K mg)(J:↑xC 13 yw)(O:↑uu 13 qH):↑d6 14 "_law_room" 2 k7:=
 OZ (N:=["_law_desk","_law_line","_law_room_here","_law_e"]) E.M? () λX Q e U d b a Y W=>by subst Q e U d b;show by exists jm (Vq zy),lA (λq w=>T2 (fU w (λ_ _ z=>z.elim) λ_ _ z=>z) q rfl) a W (have y:=a.gd (λ_ _=>False);Wi (tf J () y zw zw)) O () (have y:=a.gd (λ_ _=>False);KG 0 (y.var ())) (have y:=a.gd (λ_ _=>False);KG 1 (y.var ())) (An 3 a E.Go () () () (λ_ I=>zg (QM 2 (I.set 2 () (Ir E.Gn (KG 3 (I.var ())))))) Am),(zg (kX 2 (a.var ())))
theorem Zy(E:E0 K mg)(y:↑xC 13 yw)(z:↑uu 13 qH):↑d6 15 "_law_kept_right" 5 xu:=
 Lw (N:=["_law_desk","_law_some","_law_rooms","_law_i","_law_j","_law_line","_law_due"]) E.N? () λX I f J e d a O=>by subst I f J e d;show by exists jm (kH (kH (kH zM (qS a () E.Zf zw)) zM) (qS a () E.Zf zw)),jo (Jv (ZG (lz zw zw) (ZG (lz zw zw) (vK (tK zw zw))))) (zg (zE (Xq (KI a (XC (kf E y z) a f9) (PO.v (qQ (xS (za zM zu))))) (Xp (KI a (XC (Y4 E y z) a f9) (xo (lz zw zw) zw zw)))))) zO,jE 6 (CH a (zQ jI) (λ_ _ _ b=>Jv (KD (NF zJ zw) (Jt (lz zJ zw)))) (λ_ _ _ b=>nQ b)),(zg (zE (KI a (XC (kf E y z) a f9) (qS a () E.Zf (qG a () E.Z0 jI)))))
theorem zae(D:L2.g5 K "law" "law" (top 175) f fd)(E:E0 K mg)(I:↑N4 CD)(J:rb K CD)(O:↑C4 14 "_law_told" CD yv)(y:↑xC 13 yw)(z:↑uu 13 qH):↑fy f7 16 f fd ["_law_script"] (kr K 1 YT):=
 Ud (N:=["_law_script","_law_cell_here","_law_p","_law_rooms","_law_some","_law_told_here","_law_desk","_law_due","_law_wide","_law_pairs","_law_turn_here"]) D () λX Q g U e d a W=>by subst Q g U e d;show by exists jm (z6 (vN E) (za zw (za zy zu))),jm (jM (PO.q (qQ (xS (za zy (za zy (za zy (za zy zu))))))) (ql zw zy)),jm (jC zy (ql (Ju zw zy) zy)),jm (z6 (zjs E) (za (PO.v (xf (K0 E) (za zw (za zy (za zw (za (ql (Ju zw zy) zy) zu)))))) zu)),jm (z6 (Ww E) (za zw (za zy (za (z6 (Y5 E) (za zw (za (z6 (KZ E) (za zw (za zy eM))) eM))) zu)))),(ziL 6 J (a.set 6 () (IK I () a ())) (ND O () a () (a.var ()) (kH zM (z6 (ZJ E) eM)) (z6 (ZJ E) eM)) (kJ (Jw Od)) (by exists jm (kE zM (PO.q (jQ a (zQ jI) (λ_ _ _ b=>kH (kH (qS b () E.Zf zw) zM) (qS b () E.Zf zw))))),jo (qm a zw (PO.v (qQ (xS zu)))) (zg (jm zM)) zO,jm (kE zM (PO.q (jQ a (fh.c (jK a () E.Z2 zw)) (λ_ _ _ b=>qS b () E.Zf (qG b () E.Z0 (PO.q (xf (xG E) f9))))))),XZ 9 (yk a (fh.c (jK a () E.Z2 zy)) (λ_ _ _ b=>jP (xS (za (Ju zw zy) (za (ql zw zy) zu))))),kO W a (jK a () E.Z2 zy) (by exists jo (Jv (ZG (ZH a (XC (kf E y z) a (za zw (za zM zu))) zw) (vK (ZH a (XC (kf E y z) a (za zw (za zM zu))) zw)))) (zg (zE fF)) zO,jo (jV (jG (Xr a () E.Z9 (PO.q (jQ a (zQ jI) (λ_ _ _ b=>XC (Zy E y z) b (za zw (za zw tv)))))))) (zg (zE fF)) zO,(zg (CA 9 a ()))),(zg (zE fF))))
theorem Tp(y:L2.g5 K "__init__" "Arrow.__init__" (WV (top 84) 0) f fd)(c:ra K C):↑fy f7 1 f fd ["self","p","table"] (Kt C):=
 Lv (k:=0) y () c λX z e I d b a=>by subst z e I d b;show qL (lD (a.var ()) (a.var ()) rfl)<|kJ<|lD (a.var ()) (a.var ()) rfl
theorem Ov(y:L2.g5 K "forth" "Right.forth" (WV (top 85) 0) f e)(c:ra K C)(z:↑d6 4 "led_on" 3 v9):↑fy f7 5 f e ["self","base"] (F8 K C v9):=
 mq (k:=4) y () c λX I h J d b a=>by subst I h J d b;let(i,e,j,g,G,d,O,b):=z.ex;rw[g]at G;show kJ (Jw (ZX G (a.room.mono ()) (a.gl (x:="led_on") ()).1 d O b .nil QQ (zS (JA (a.var ()) rfl) (zS (JA (a.var ()) rfl) (zS (a.var ()) jH)))))
theorem Ow(y:L2.g5 K "forth" "Left.forth" (WV (top 86) 0) f e)(c:ra K C)(z:↑d6 4 "led_into" 3 qy):↑fy f7 5 f e ["self","base"] (F8 K C qy):=
 mq (k:=4) y () c λX I h J d b a=>by subst I h J d b;let(i,e,j,g,G,d,O,b):=z.ex;rw[g]at G;show kJ (Jw (ZX G (a.room.mono ()) (a.gl (x:="led_into") ()).1 d O b .nil QQ (zS (JA (a.var ()) rfl) (zS (JA (a.var ()) rfl) (zS (a.var ()) jH)))))
theorem za5(z:L2.g5 K "arrow_by" "arrow_by" (top 87) f fd)(I:Mk K CR fI)(J:Mk K CL fI)(O:↑fy f7 1 fI U5 ["self","p","table"] (Kt CR))(GL:↑fy f7 1 fI U5 ["self","p","table"] (Kt CL))(y:Binds K U5 ["self","p","table"] [])(H:mg "Right" = aF (.ref CR))(B:mg "Left" = aF (.ref CL)):↑fy f7 3 f fd ["p","way","table"] (SQ CR CL):=
 Uc (k:=2) z () λX Q e U d b a=>by subst Q e U d b;show kJ (Jw (L2.CV (wM To (a.var ()) GG (by with_unfolding_all rfl)) (ui I O (a.room.mono ()) (a.gl (x:="Right") ()).1 H y .nil QQ (zS (a.var ()) (zS (a.var ()) jH))) (ui J GL (a.room.mono ()) (a.gl (x:="Left") ()).1 B y .nil QQ (zS (a.var ()) (zS (a.var ()) jH)))))
end
end DL
end Lake
end
open Lake PySem PySem.W PyProof.Rows
set_option maxRecDepth 100000 in
set_option maxHeartbeats 0 in
theorem PySem.Challenge.cw_barsplit_k65_what_a_desk_tells_of_a_row_holds : PySem.Challenge.rw_barsplit_k65_what_a_desk_tells_of_a_row.Holds := by
 refine hd0 ?_
 k_fill
 refine L2.Rl (l:=r9) (n:=63) (k:=16) (x:="_law_script") (CX:=L2.f7) (sp:=λK=>DL.kr K 1 DL.YT) rfl () rfl (rfl,by decide,by decide) (λw h Y=>PySem.W.kIn_of Y) ?F ?S ?C
 case S=>exact λK H a ns I znc hS=>DL.RT hS (DL.Tz ns I)
 case C=>exact λ_ _ _ _ z=>z
 case F=>
  intro w mg fa h y G ac;have a5:DL.eD (L2.gc y)=aG:=by kernel_rfl
  have bx:DL.C5 (L2.gc y) mg "NoRoom" "NoRoom.__init__" "room" (DL.WV (DL.top 14) 0) "room":=by
   dsimp only[L2.gc];refine' DL.Sx y G a5 () ?nC ?nS ?iC ?uI ?vI ?w1 ?z1 ?b ?gI
   (case nC|nS|iC|uI|vI|w1|z1=>k_is)
   (case b=>kernel_rfl)
   (case gI=>intro _ _ _ _ _ _ us I;let(_,_,rfl):=DL.DA I;rfl)
  have c3:DL.UU (L2.gc y) "room" = aG:=by kernel_rfl
  have c4:DL.GL (L2.gc y) mg "CHANGING_LINES" (.tup [.str "row",.str "beside",.str "cut",.str "mirror",.str "opposite",.str "about",.str "split"]):=by
   dsimp only[L2.gc];refine' DL.TX ["row","beside","cut","mirror","opposite","about","split"] y G ?a ?l ?v ?z
   (case a|l=>k_is);(case v=>rfl);(case z=>decide)
  have c6:DL.GL (L2.gc y) mg "LINES_WITH_A_ROW" (.tup [.str "row",.str "beside",.str "ways",.str "upon",.str "alike"]):=by
   dsimp only[L2.gc];refine' DL.TX ["row","beside","ways","upon","alike"] y G ?a ?l ?v ?z
   (case a|l=>k_is);(case v=>rfl);(case z=>decide)
  have c7:DL.GL (L2.gc y) mg "PRIMES" (.tup [.int 2,.int 3,.int 5,.int 7]):=by
   dsimp only[L2.gc];refine' DL.TY [2,3,5,7] y G ?a ?l ?v ?z
   (case a|l=>k_is);(case v=>rfl);(case z=>decide)
  have Q:DL.sR w (L2.gc y) mg "ROOMS_BEHIND" DL.uP:=by
   dsimp only[L2.gc];refine' DL.RV [("cut",_,2,_),("mirror",_,0,_),("opposite",_,0,_),("about",_,1,_),("split",_,0,_),("bars",_,0,_),("kept",_,2,_),("widths",_,0,_)] y G ?a ?l ?s ?e ?d ?z ?k
   (case a|l=>k_is)
   (case s=>decide)
   (case e=>exact(rfl,rfl,rfl))
   (case d=>rfl)
   (case z=>rfl)
   (case k=>rfl)
  have c8:DL.GL (L2.gc y) mg "ROOM_WORDS" (.tup [.str "0",.str "1",.str "2",.str "3",.str "4",.str "5"]):=by
   dsimp only[L2.gc];refine' DL.TX ["0","1","2","3","4","5"] y G ?a ?l ?v ?z
   (case a|l=>k_is);(case v=>rfl);(case z=>decide)
  have c9:DL.GL (L2.gc y) mg "TABLE_SIGNS" (.str "0123456789/"):=by
   dsimp only[L2.gc];refine' DL.zag y G ?a
   (case a=>k_is)
  have ca:DL.GL (L2.gc y) mg "WAYS" (.tup [.str "r",.str "l"]):=by
   dsimp only[L2.gc];refine' DL.TX ["r","l"] y G ?a ?l ?v ?z
   (case a|l=>k_is);(case v=>rfl);(case z=>decide)
  have DK:DL.Uu (L2.gc y) mg (DL.WV (DL.top 157) 0) (DL.WV (DL.top 157) 1):=by
   dsimp only[L2.gc];refine' DL.Uj y G ?nC ?iC ?mC ?uI ?uT ?vI ?vT ?w1 ?w2 ?z1 ?z2 ?b ?gI ?gT
   (case nC|iC|mC|uI|uT|vI|vT|w1|w2|z1|z2=>k_is)
   (case b=>kernel_rfl)
   (case gI=>intro _ _ _ _ _ _ us I;let(_,rfl):=DL.S' I;rfl)
   (case gT=>intro _ _ _ _ _ _ us I;let(_,_,rfl):=DL.DA I;rfl)
  have E:DL.E0 (L2.gc y) mg:=by
   constructor
   all_goals first
    |assumption
    |exact PySem.W.mg_none_of y G (by k_is)
    |exact DL.zaN y G a5 ()
    |exact DL.zaM y G (by kernel_rfl)
    |(dsimp only[L2.gc];refine' DL.zah y G ?a;(case a=>k_is))
    |(dsimp only[L2.gc];refine' DL.Q_ y G ?a ?l ?c ?k ?b;(case a|l|c|k=>k_is);(case b=>intro _ _ _ _ _ _ us I;first|(let(_,rfl):=DL.S' I;rfl)|(let(_,_,rfl):=DL.DA I;rfl)|(let(_,_,_,rfl):=DL.RP I;rfl)|(let(_,_,_,_,rfl):=DL.zbr I;rfl)|(let(_,_,_,_,_,rfl):=DL.zbq I;rfl)))
  have AR:DL.Uq (L2.gc y) mg (DL.WV (DL.top 84) 0) (DL.WV (DL.top 85) 0) (DL.WV (DL.top 86) 0):=by
   dsimp only[L2.gc];refine' DL.zas y G ?nR ?nL ?iR ?iL ?mR ?mL ?uI ?uR ?uL ?vI ?vR ?vL ?w1 ?w2 ?w3 ?z1 ?z2 ?z3 ?bR ?bL ?gI ?gR ?gL
   (case nR|nL|iR|iL|mR|mL|uI|uR|uL|vI|vR|vL|w1|w2|w3|z1|z2|z3=>k_is)
   (case bR=>kernel_rfl)
   (case bL=>kernel_rfl)
   (case gI=>intro _ _ _ _ _ _ us I;let(_,_,_,rfl):=DL.RP I;rfl)
   (case gR=>intro _ _ _ _ _ _ us I;let(_,_,rfl):=DL.DA I;rfl)
   (case gL=>intro _ _ _ _ _ _ us I;let(_,_,rfl):=DL.DA I;rfl)
  have am:DL.d9 (L2.gc y) mg "arrow_by" (DL.top 87) ["p","way","table"]:=by
   dsimp only[L2.gc];refine' DL.Q_ y G ?a ?l ?c ?k ?b
   (case a|l|c|k=>k_is)
   (case b=>intro _ _ _ _ _ _ us I;let(_,_,_,rfl):=DL.RP I;rfl)
  let(f,fd,Fu,hb,hm):=E.O?.ex;have e0:=ac.symm.trans hm;cases e0;refine(fd,λs u=>.of_eq (hb [u] rfl),λbase zne nb=>?_);let(CR,CL,fI,fR,fL,dI,dR,dL,q1,q2,q3,q4,U,Z,q7,zjZ,q9,b2,b3,b4,b5,b6):=AR.ex;let(b7,b8,a7,b9,bb):=am.ex;have O1:DL.N6 (r9).prog w (L2.gc y) mg base 3 "arrow_by" CR CL:=(b7,b8,DL.za5 a7 q3 q4 (DL.Tp q9 U) (DL.Tp q9 Z) b4 q1 q2,bb,a7.kp,.all b9);let(CD,gI,fT,zha,eT,p1,p2,O,p4,p5,p6,p7,p8):=DK.ex;have bg:DL.N4 (r9).prog w (L2.gc y) mg base CD:=(gI,zha,p2,DL.RE p5 O,p1,p7);have J:DL.rb (L2.gc y) CD:=DL.zao y G p1 O (by kernel_rfl);have P2:DL.MethAt (r9).prog w (L2.gc y) mg base 5 CR DL.v9:=(U,fR,dR,q7,DL.Ov b2 U (DL.Ou E),b5);have P1:DL.MethAt (r9).prog w (L2.gc y) mg base 5 CL DL.qy:=(Z,fL,dL,zjZ,DL.Ow b3 Z (DL.KY E),b6);have A:DL.E1 (r9).prog w (L2.gc y) mg base CR CL:=(O1,P2,P1);have bi:DL.Oz (r9).prog w (L2.gc y) mg base 13 CD DL.yv:=(fT,eT,O,p4,DL.RB p6 O E A Q,p8);have bl:DL.xC (r9).prog w (L2.gc y) mg base 13 DL.yw:=(CD,fT,eT,J,p4,DL.RD p6 J E A Q,p8);have bn:DL.uu (r9).prog w (L2.gc y) mg base 13 DL.qH:=(CD,fT,eT,J,p4,DL.RA p6 J E A Q,p8);have br:DL.C4 (r9).prog w (L2.gc y) mg base 14 "_law_told" CD DL.yv:=DL.Rz E bi;exact DL.zae Fu E bg J br bl bn
