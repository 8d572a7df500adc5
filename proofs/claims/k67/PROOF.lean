import PyProof.Rows.All
import Wide.All
import OpenK.ZHead
import KE.KEqDict
import KE.KFromBytes
import Wide.FinOn
import KE.KItemsList
import KE.KIsAll
import KE.KSortTup
import KE.KTryDeep
import KE.KRevIter
import KE.KDictOf
import KE.KIntText
import PySem.Challenge.RW_barsplit_k67_refused_at_the_desk
section
open Lean
local macro_rules|`(#check $_)=>do
 let mut a:=#[]
 for(s,l)in[("env",[41]),("heap",[39,46,1190]),("o",List.range' 43 1147),("sts",[49,64,79,94,109,124,139,154,169,184,199,214,236,258,307,385,464,541,622,659,688,736,811,890,965,1014,1066,1123]),("tree",[47,63,78,93,108,123,138,153,168,183,198,213,235,257,306,384,463,540,621,658,687,735,810,889,964,1011,1065,1122,1189]),("view",[39])]do
  for i in l do a:=a.push (←`(command|noncomputable def $(mkIdent (.str `PySem.W.Fast s!"tw{(Name.mkStr `hd0 s!"{s}_{i}").hash}")):ident:=0))
 return mkNullNode a
#check 0
end
def PySem.W.Fast.tw718761666181330258:=0
def PySem.W.Fast.tw15312156949037636570:=0
section
set_option Elab.async false
open PySem PySem.W PyProof.Rows
set_option maxRecDepth 100000 in
set_option maxHeartbeats 0 in
open_top hd0 for PySem.Challenge.rw_barsplit_k67_refused_at_the_desk
end
open Classical renaming byContradiction->aU,axiomOfChoice->Y'
open PySem.W renaming Frag->aO,findIn->g9,kia_one->k6,keepIn->mV,mroIn->mW,kitOne->nY,fnOf->ox,hideAll_get->vr,typeIn->p9,clsIn->o6,nsIn->oL,kia_tup->sv,tail_of_in->A6,mg_of->sf,Looks->t6,cellsFrom_some->Mz,callWith_K->D8,hideAll->B3,kitx_dict->Ex,emptyDict->E1,codeIn->B4,plainGet->E6,instObj->D3,specialIn->NN,hasDictIn->N0,looks_mroIn->Te,of_hideAll->Uo,isFn->FG,tailIn->OA,nsOkIn->OK,plainOver->Up,kitx_list->Uq,findCls->T5,looks_findIn->P',hideAll_none->P_,lookIn->Tq,plainGet_of->_x,kitx_tuple->_A,kitx_none->_I,kitx_bool->_J,kitx_str->_l,kitx_int->_m,any_some->_n,Looks->sP,clsIn->sT,findIn->uV,looks_findIn->uY,looks_clsIn->u_,looks_mroIn->v_
open PySem renaming wpAny_bind->aL,wpAny_pure->bW,wpAny_mono->cT,wpAny_holding->hG,wpAny_field->gv,wpAny_newObj_type->nq,wpAny_Call_Name_kw->nW,wpAny_execs_cons->nX,wpAny_setField_rec->oF,wpAny_callSpecial?_slot->se,wpAny_call_entry->om,wpAny_of_eq->mu,sizeLine_eq->mv,wpAny_loadPart_at->pO,wpAny_standAt->ou,strLen_append->ow,wpAny_truthy_bool->sr,wpAny_attempt->oK,wpAny_loadPart'->D0,call_meets->nZ,codeAny_mono->pS,wpAny_seqItems->t5,codeAny_call_builtin->DP,plainObj_wpAny_Assign_Attribute->Ta,codeAny_builtin->vk,wpAny_call->o8,wpAny_typeOf->uf,wpAny_execs_nil->B5,wpAny_rule->q0,mem_of_lookup->N5,Builtin->zdI,wpAny_specialOf->D6,wpAny_getItem_str_slice->Tp,pushCells_keeps->D7,wpAny_Return_some->M9,builtinLookup_eq_fast->Um,wpAny_isInstance->Oz,Within->FI,intText?->OR,wpAny_passesOwn->Oh,wpAny_pyIter_tuple->T4,wpAny_Expr_any->Oq,isSubtype_type->Ou,wpAny_Assign_Name->Ul,typeIs_str->B6,plainId_quiet->OU,typeLookup_type->U3,post_val_or_str->U4,wpAny_updateSeq_pair->_j,list_append->_k,wpAny_setField->Uv,wpAny_newTuple->Uw,wpAny_loadPart->Ux,wpAny_letGo->OS,wpAny_isSubtype_exc->_q,wpAny_onRaise->Ut,wpAny_newList->Uu,wpAny_pyIter_list->_e,typeIs_int->O2,strKind_is->O3,slot_list_getitem->_N,concat_meets->U6,wpAny_Try_except->_P,noFill_tuple_add->_Q,entryFor_of_tree->_R,Addr->ak,Value->aN,model->aV,Shared->bB,Expr->bE,eval->bH,Heap->bN,starEach->ck,Pos->cH,World->cN,sizeLine->cP,Program->cQ,Scope->cS,Stmt->de,Around->ec,Env->eE,Sem->eT,Obj->e9,backTo->ft,FuncData->gh,mainGlobals->gp,swapsWith->hU,compareOp->h8,foldedSetIterable->ij,Tok->l0,holding->ml,behindInMarks->m3,relabel->nD,IsPair->nK,Model->nM,Keyword->n5,binaryOp->n9,cellsFrom->og,cLine->oR,pyNext->oU,standAt->oX,NameKind->o9,assign->pb,assignEach->pe,backToKw->pf,bootBuiltins->pg,setFlight->pH,sysModules->pK,IsPart->q5,attributeBase->ri,getItem->rp,pushCells->sa,isTrue->tu,IsEnum->uo,argsOk->uJ,bindC->uN,bindL->uO,callerA->uR,sliceBounds->u3,strIterType->u5,typeLookup->u7,IsZip->xb,bindArgs->yg,excClassObj->zd,leaving->zp,letOwnedTupleGo->zr,pyIter->zv,rawInt->zz,truthy->A4,BindsTo->B9,Drawn->C0,GenState->C1,Meets->C4,atKey->Df,entryFor->Dj,getMethod->Dl,noteFrame->Dp,table->Dw,valueAt->DB,PassesOwn->F5,Result->F6,getAttr->Ht,hashStr->H9,isType->IZ,spliced->L5,swapsWithSole->L6,typeOf->Mg,DictEntry->O7,OsState->Pb,OwnTail->Pc,boundAndCalled->Ph,callWith->Pj,comprehension->Pn,excMatches->PB,getAttr?->PD,isInstance->PK,lastMarks->PZ,methodCallPos->P4,newFunctionEnv->P6,newList->P7,notedBy->P9,ownMembersOf->Ra,raiseNew->R0,raiseStmt->R1,recursionLimit->R3,setAttr->R6,setField->R7,setItem->R8,slicePick->SD,subscripted->SJ,swappedStores->SK,builtinsNs->c_,callType_codes->d_,checkBuiltinCall->e_,closureFor->f_,codeAny_of_tree->g_,entryPlaceOf->k_,isSubtype_stop->s_,seqIndex_neg->y',seqIndex_of->y_,seq_tuple_add->z_,tupleKind->G_,wpAny_Name->I_,wpAny_mkText->J',codeAny_call_function->zhb,codeAny_compStart_list->zhc,codeAny_extend_loopS->zhd,codeAny_handlers_test->zhe,exec_Assign_Name_used->zhL,getattributeRaised->zh4,int_text_length_le->ziq,object_init_meets->zjH,tupleKind_room_in1->zkZ,underTheClaimsCaller->zlo,wpAny_Tuple_spliced->zlA,wpAny_assign_Name->zlB,wpAny_binaryOp_repeat_ref->zlC,wpAny_getItem_list_slice->zlD,wpAny_handleBy_cons->zlE,wpAny_isTrue_Compare1->zlF,wpAny_letOwnedTupleGo_enum->zlG,wpAny_newFunctionEnv_cells->zlH,wpAny_pyIter_slot->zlI,wpAny_pyNext_enum_endD->zlJ,wpAny_pyNext_enum_itemD->zlK,wpAny_raiseNew_none->zlL
open PySem.Heap renaming get?_push_of_some->cW,get?_push_size->f9,lt_size->ei,get?_update_other->ni,get?_update_self->oI,size_push->l6,push->gW,FlyingW->n0,SameBut->pQ,get?_update_ne->DH,get?_push_ne->E5,HeldW->sE,get?_none_of_le->Tf,size_update->T8
open List renaming range->aT,replicate->cK,getElem?_eq_getElem->eO,getElem?_set_ne->ew,mem_range->dy,mem_cons_of_mem->eV,mem_cons->d8,mem_cons_self->fA,size_toArray->eW,getElem?_eq_some_iff->i8,mem_append_right->ix,length_map->f7,getElem?_set_self->kr,getD_eq_getElem?_getD->nc,mem_map->eU,not_mem_nil->i9,map_congr_left->mX,length_append->mK,getElem?_append_left->oH,map_map->gw,all_eq_true->k4,mem_singleton->mY,getElem?_append_right->o3,mem_append->l9,getElem?_map->nE,length_cons->ng,map_cons->kT,mem_of_getElem?->oZ,eq_nil_of_length_eq_zero->va,map_append->nG,length_range->pM,mem_filter->o5,range_succ->pX,nodup_cons->pY,length_singleton->A8,filterMap_cons_some->DU,lookup_cons->t9,take_of_length_le->DI,drop_eq_nil_of_le->DM,length_filter_le->DN,getElem?_eq_none->DO,drop_eq_getElem_cons->M5,find?_cons->vl,filterMap_cons_none->M6,append_nil->vp,length->pT,getElem?_replicate->Mr,getElem?_cons_zero->Ms,zip_cons_cons->D9,ext_getElem?->E2,any_eq_false->E3,length_take->E7,drop_length->D2,zip_map'->B0,getElem?_cons_succ->Ti,all_cons->B1,mem_nil_iff->M8,lookup->B7,length_nil->Ox,mem_filterMap->Ur,range_add->N9,reverse_cons->Tu,getElem?_set->T1,cons_append->T6,any_eq_true->T7,find?_cons_of_neg->W_,of_mem_zip->Tr,nil_append->Ts,length_replicate->R_,any_map->N6,mem_append_left->_z,length_reverse->_C,getElem?_range->_D,filter_eq_self->_E,filterMap_cons->_F,filter_append->_h,toArray->Uy,map_nil->Uz,mem_flatMap->Z',getElem_mem->Z_,ext_getElem->_a,countP_eq_length_filter->zf6
open Option renaming bind_some->dU,some->zbZ,isSome_iff_exists->u9,map_some->tW,bind->D4,map->D1,some->aa,none->af
open Nat renaming le_refl->cV,le_trans->et,lt_of_lt_of_le->hV,ne_of_lt->eS,lt_or_ge->gu,lt_succ_of_lt->nF,zero_le->g8,le_add_right->nh,not_lt_zero->oo,lt_succ_self->oY,lt_irrefl->nU,ne_of_gt->n3,add_sub_cancel_left->M0,zero_add->ub,le_succ->ua,exists_eq_add_of_le->To,le_succ_of_le->N2,le_of_eq->O0,sub_succ_lt_self->_B,add_lt_add_left->_K,lt_trichotomy->_r,le_of_lt->UB,min_le_right->_b
open Bool renaming and_eq_true->eH,false_ne_true->i4,not_eq_true'->t8,or_eq_true->t4,eq_iff_iff->Oy,false_eq_true->_i,true->ae,false->aF
open Ne renaming symm->dh
open PySem.Str renaming ofString->fR,join->m1,empty->oM
open Int renaming emod_lt_of_pos->l7,emod_nonneg->la,mul_emod->hH,emod_eq_of_lt->so,add_emod->o4,eq_ofNat_of_zero_le->M1,mul_comm->ue,emod_emod->vt,toNat_of_nonneg->NC,sub_emod->A9,mul_assoc->E9,mul_left_comm->T2,mul_add->O1,toNat_natCast->_s
open PyProof.Rows renaming callWith_type1->pP,slot_tuple_getitem->DG,callWith_builtin1->M7,boot_isinstance->Tc,joinParts_cons->BG,listUpdate_at->B2,boot_tuple->X',boot_int->S_,slot_tupleiter_next->Tt,tupleItemsOf_->N7,get?_update_seq->U5,formatField_int_small->_H,FormattedValue_plain->_o,seqEpoch_at->OT,seqObj->eu,IsTup->nL,AllBare->oN,Call_->uh,envOfC->y6,IntsAre->F2,Subscript_->Pe,size_push'->R9,boot_enumerate->b_,args_tuple_getitem->zgQ,args_tupleiter_next->zgR,entry_tupleiter_next->zhG,subscriptTail_builtinR->zkJ
open PySem.Calls renaming spliced_cons->nj,spliced_nil->sk,Constant_str->ND,evalArgs_plain->Td,callWith_builtin->V_
open Option.some renaming inj->l8
open PySem.Challenge renaming rw_barsplit_k67_refused_at_the_desk->S8
open PySem.Obj renaming mapSeq->gV,data_mapFields->N1,mapFields->E8,isFreed_of_fields->_y
open PySem.Value renaming none->h9,ref->i3,type->sA,int->vu
open PySem.SeqAt renaming EqAt->mJ
open True renaming intro->kA
open PySem.NameKind renaming free->oj,cell->N8
open Array renaming length_toList->t7,getElem?_setIfInBounds->M3,getElem?_eq_getElem->Y_,getElem?_toList->Q_,all_toList->_w
open PySem.Builtin.List renaming listTooLong->DR,listFitsIndex->O'
open PySem.Builtin.Str renaming occurrences->DT,strSliceIndices->Tb
open PySem.F renaming excBase_ValueError->M4,store_ValueError->A7,slot_enumerate_next->N3,attr_ValueError->Th,slot_list_getattribute->Tj,slot_tuple_mul->Ov,args_tuple_add_2->X_,plainAttrs_list->T_,entry_tuple_add->U',slot_tuple_add->U_,plainAttrs_str->V',slot_zip_next->U0,slot_int_rmul->U1,args_object_init_2->_L,args_list_append_2->_M,entry_list_append->_p,slot_list_append->_t,args_tuple_mul_2->_u,args_str_split_2->_v,entry_tuple_mul->_c,entry_str_split->_d,slot_str_split->_O
open PySem.PyData renaming depth->sh,eqv->qs,canLay0->D5,depthAll->T9,eqvAll->U2,canLayAll0->_g
open PySem.Builtin.SmallTypes renaming nextOf->S9,ownedTupleIsFree->O_,ownedTupleHandOut->zen,ownedTupleFields->zep
open False renaming elim->o7
open Sum renaming inl->mL
open PySem.SeqAt.EqAt renaming int_int->N4
open PySem.Txt renaming slice->sy,split->vv,slice_le->UA
open PySem.Builtin.Slice renaming slicePlaces->M_,sliceAdjust->N_
open PySem.Code renaming quiet_builtin->Us
open ForInStep renaming yield->T3
open PySem.Value.ref renaming inj->UC
open Function renaming comp_def->_G
set_option hygiene false
local macro_rules(kind:=Lean.Parser.Tactic.simpTrace)|s=>return .node .none ``Lean.Parser.Tactic.simp #[s[0],s[2][0],s[2][1],Lean.mkNullNode #[s[0]],s[2][3][0].setKind `null,s[2][4]]
local macro_rules(kind:=coeSortNotation)|s=>return Lean.mkIdent (s[1].getId++`heap.objs.size)
local macro_rules|`(⇑$x)=>if x.raw.getId==`X then `(wpAny (aV X.prog X.w) X.A)else `($x X.prog X.w X.K X.mg X.base)
local macro_rules(kind:=coeNotation)|s=>return .node .none ``Lean.Parser.Term.app #[s[1],Lean.mkNullNode (#[`P,`w,`K,`mg,`base].map (Lean.mkIdent ·))]
local macro_rules(kind:=Lean.Parser.Tactic.tacticErw___)|s=>return .node .none ``Lean.Parser.Tactic.unfold #[s[0],Lean.mkNullNode (s[2][1].getSepArgs.map (·[1])),s[3]]
local macro_rules|`(~~~$x)=>`(by simpa using $x)
local macro_rules|`(⋯)=>`(X.env)
local macro_rules(kind:=Lean.Parser.Tactic.show)|s=>return s.setKind ``Lean.Parser.Tactic.refine
local macro_rules|`(tactic|exists $e)=>`(tactic|exact $e)|`(tactic|exists $e,$f,*)=>`(tactic|(refine ze $e ?_;exists $f,*))
set_option hygiene true
local macro_rules(kind:=Lean.Parser.Term.tuple)|s=>if s[1].isNone then Lean.Macro.throwUnsupported else return .node .none ``Lean.Parser.Term.anonymousCtor #[s[0],Lean.mkNullNode (#[s[1][0],s[0]]++s[1][2].getArgs),s[2]]
local macro_rules(kind:=Lean.Parser.Tactic.tacticLet__)|s=>let d:=s[2][0];let n k a:=Lean.Syntax.node .none k a;let f (s:Lean.Syntax):=n ``Lean.Parser.Tactic.rcasesPatMed #[.node .none `null #[if s.isIdent then n ``Lean.Parser.Tactic.rcasesPat.one #[s]else if s.isOfKind ``Lean.Parser.Term.hole then n ``Lean.Parser.Tactic.rcasesPat.ignore #[s[0]]else s]];if !d.isOfKind ``Lean.Parser.Term.letPatDecl then Lean.Macro.throwUnsupported else return n ``Lean.Parser.Tactic.obtain #[s[0],n `null #[f (d[0].rewriteBottomUp λs=>if s.isOfKind ``Lean.Parser.Term.tuple then n ``Lean.Parser.Tactic.rcasesPat.tuple #[s[0],n `null (Array.map (λe=>if e.isAtom then e else n ``Lean.Parser.Tactic.rcasesPatLo #[f e,n `null #[]]) (#[s[1][0],s[1][1]]++s[1][2].getArgs)),s[2]]else s)],n `null d[2][0].getArgs,n `null #[d[3],n `null #[d[4]]]]
local macro_rules|`(()) => `(by first|decide +kernel|lia|omega|simp)
set_option autoImplicit true
set_option compiler.extract_closed false
set_option bootstrap.genMatcherCode false
set_option tactic.hygienic false
set_option Elab.async false
set_option linter.all false
set_option maxRecDepth 100000
set_option maxHeartbeats 4000000
noncomputable section
local macro_rules(kind:=Lean.Parser.Command.declaration)|s=>if s.getPos?.isNone then Lean.Macro.throwUnsupported else let t:=s.rewriteBottomUp λ|.ident _ r v p=>.ident .none r v p|.atom _ v=>.atom .none v|.node _ k a=>.node .none k a|s=>s;return if t[1].isOfKind ``Lean.Parser.Command.definition&&t[0][4].isNone then t.setArg 0 (t[0].setArg 4 (.node .none `null #[.node .none ``Lean.Parser.Command.noncomputable #[.atom .none "noncomputable"]]))else t
namespace Lake
abbrev zn:=@List
abbrev xz:=@Option
abbrev EQ:=PySem.Value->PySem.Shared->Prop
abbrev TW:=zn (PySem.Addr×PySem.Obj)
abbrev DQ:=Nat->Nat->Nat->Int
abbrev DW:=Nat->Nat->Int
abbrev DV:=Nat->Bool
abbrev DX:=Nat->Nat
abbrev DZ:=PySem.Str->xz PySem.Value
theorem DJ{c:Prop}{h:Decidable c}(z:c){α}{a b:α}:ite c a b=a:=if_pos z
theorem DY{c:Prop}{h:Decidable c}(z:¬c){α}{a b:α}:ite c a b=b:=if_neg z
namespace L2
open PySem PySem.Spec PyProof.Rows
abbrev Key:=Sum Int Str
def oJ:Key->aN->Bool
 |.inl k,v=>Value.isInt k v
 |.inr x,v=>Value.isStrOf x v
def zam(w:cN):Key->Int
 |.inl k=>hashInt k
 |.inr x=>H9 w x
theorem qw:∀{k}{v},oJ k v->(∃i t,k=mL i/\v=vu i t)\/(∃x t,k=Sum.inr x/\v=Value.str x t)
 |.inl i,v,h=>by let(t,e):=Value.isInt_shape h;show .inl (i,t,rfl,e)
 |.inr x,v,h=>by let(t,e):=Value.isStrOf_shape h;show .inr (x,t,rfl,e)
theorem zk2(i)(t):oJ (.inl i) (.int i t):=by simp[oJ,Value.isInt]
theorem zlt(x)(t):oJ (.inr x) (.str x t):=by simp[oJ,Value.isStrOf]
theorem NO(a b):decide ((mL a:Key)=mL b)=(a==b):=()
theorem NK(a b):decide ((Sum.inr a:Key)=Sum.inr b)=decide (a=b):=()
theorem NM(a:Int)(b:Str):decide ((mL a)=Sum.inr b)=aF:=decide_eq_false<|λq=>nomatch q
theorem NL(a:Str)(b:Int):decide ((Sum.inr a)=mL b)=aF:=decide_eq_false<|λq=>nomatch q
def k8(prog:cQ)(w:cN):PySem.KeyKind prog w Key where
 is:=oJ
 hash:=zam w
 inj:=λv a b ha hb=>by
  rcases qw ha with⟨i,t,rfl,rfl⟩|⟨x,t,rfl,rfl⟩
  .rcases qw hb with⟨j,u,rfl,e⟩|⟨y,u,rfl,e⟩
   .injection e with e1 _;rw[e1]
   .exact nomatch e
  .rcases qw hb with⟨j,u,rfl,e⟩|⟨y,u,rfl,e⟩
   .exact nomatch e
   .injection e with e1 _;rw[e1]
 byValue:=λk v h=>by rcases qw h with⟨i,t,rfl,rfl⟩|⟨x,t,rfl,rfl⟩<;>rfl
 pyHash:=λz h=>by
  rcases qw z with⟨i,t,rfl,rfl⟩|⟨x,t,rfl,rfl⟩
  .exact wpAny_pyHash_int h
  .exact wpAny_pyHash_str h
 eqBool:=λI z h=>by
  rcases qw I with⟨i,t,rfl,rfl⟩|⟨x,t,rfl,rfl⟩
  .rcases qw z with⟨j,u,rfl,rfl⟩|⟨y,u,rfl,rfl⟩
   .rw[NO]at h;show wpAny_eqBool_int h
   .rw[NM]at h;show mJ.int_str i t y u _ _ _ _ h
  .rcases qw z with⟨j,u,rfl,rfl⟩|⟨y,u,rfl,rfl⟩
   .rw[NL]at h;show mJ.str_int x t j u _ _ _ _ h
   .rw[NK]at h;show wpAny_eqBool_str h
 «strs» :=λk x t v h=>by
  rcases qw h with⟨i,u,rfl,e⟩|⟨y,u,rfl,e⟩
  .exact nomatch e
  .injection e with e1 _
   subst e1;cases v<;>rfl
theorem zif(prog)(w)(i)(t):(k8 prog w).is (.inl i) (.int i t):=zk2 i t
theorem zid(prog)(w)(x)(t):(k8 prog w).is (.inr x) (.str x t):=zlt x t
inductive V where
 |cI|bl (b:Bool)|int (i:Int)|str (x:Str)|yr (b:Array UInt8)|uW (b:UInt64)|ref (a:ak)|ty (n:String)
 deriving DecidableEq
def RelV:V->aN->Prop
 |.cI,u=>u=h9
 |.bl b,u=>u=Value.bool b
 |.int i,u=>∃t,u=vu i t
 |.str x,u=>∃t,u=Value.str x t
 |.yr b,u=>∃t,u=Value.bytes b t
 |.uW b,u=>∃t,u=Value.float b t
 |.ref a,u=>u=i3 a
 |.ty n,u=>u=sA n
abbrev cM:zn V->zn aN->Prop:=Paired RelV
theorem cM.length(r:cM xs us):xs.length=us.length:=Paired.length r
theorem cM.get:∀{xs:zn V} {us:zn aN} {i:Nat} {x:V},cM xs us->xs[i]? = aa x->∃u,us[i]? = aa u/\RelV x u
 |_,_,_,_,.nil,e=>by simp at e
 |_,_,0,_,.cons r _,e=>by simp at e;subst e;show(_,rfl,r)
 |_,_,i+1,x,.cons _ t,e=>by let(u,a,b):=cM.get t (~~~e);show(u,~~~a,b)
theorem cM.set(r:RelV x u):∀{xs}{us}i,cM xs us->cM (xs.set i x) (us.set i u)
 |_,_,_,.nil=>.nil
 |_,_,0,.cons _ t=>.cons r t
 |_,_,i+1,.cons q t=>.cons q (cM.set r i t)
theorem cM.append(h:cM xs us)(s:cM e z):cM (xs++e) (us++z):=by
 induction h with
 |nil=>show s
 |cons r t I=>show .cons r I
theorem cM.take:∀{xs}{us}n,cM xs us->cM (xs.take n) (us.take n)
 |_,_,0,_=>.nil
 |_,_,_+1,.nil=>.nil
 |_,_,n+1,.cons r t=>.cons r (cM.take n t)
theorem cM.drop:∀{xs}{us}n,cM xs us->cM (xs.drop n) (us.drop n)
 |_,_,0,r=>r
 |_,_,_+1,.nil=>.nil
 |_,_,n+1,.cons _ t=>cM.drop n t
def nt:xz V->xz aN->Prop
 |some v,aa u=>RelV v u
 |none,af=>True
 |_,_=>False
def KV{e:Type}:zn (e×V)->zn (e×aN)->Prop:=Paired λp q=>p.1=q.1/\RelV p.2 q.2
def kV:Key->V
 |.inl i=>.int i
 |.inr x=>.str x
inductive HO where
 |lst (xs:List V)
 |tup (xs:List V)
 |dK (gq:List (Key×V))|dT (gq:List (List Key×V))
 |set (S:Int->Bool) (n:Nat)
 |ins (C dx:ak) (fs:List (Str×V))
 |own (x:ak)
 |xd (fs:List (Str×V))
 |met (f x:ak)
 |gS (lo hi:Int)
 |m6 (o:e9) (u:HO)
 |tQ (ps:Array aN)
 |ext (φ:bN->Prop)
abbrev Hp:=ak->xz HO
def upd(H:Hp)(a:ak)(o:HO):Hp:=λb=>if b=a then aa o else H b
theorem zB:upd H a o a=aa o:=by erw[upd];rw[DJ rfl]
theorem zC(h:b≠a):upd H a o b=H b:=by erw[upd];rw[DY h]
theorem QN{H:Hp}{a:ak}{o u:HO}:upd (upd H a o) a u=upd H a u:=by funext b;erw[upd];split<;>rfl
theorem jd{H:Hp}(h:H a=aa o)(h':H b=af):a≠b:=()
def oP(h:bN)(a:ak)(e:Array aN):Prop:=∃o,h.get? a=aa o/\Prod.mk o.cls o.dict=(sA "tuple",af)/\∃n,o.data=.seq e n
theorem oP.new(h:bN)(e):oP (h.push {cls:=.type "tuple",data:=.seq e}) h.objs.size e:=(_,f9 _ rfl,rfl,_,rfl)
theorem oP.tup(x:oP h a items):nL h a items:=let (o,e,c,r):=x;(o,e,(Prod.mk.inj c).1,r)
section
variable(P:cQ)(w:cN)
def hL(H:Hp)(h:bN)(a:ak):HO->Prop
 |.lst d=>pT d<=cP/\∃z n,cM d z/\h.get? a=aa {cls:=.type "list",data:=.seq z.toArray n}
 |.tup d=>pT d<=cP/\∃z,cM d z/\oP h a z.toArray
 |.dK b=>pT b<=cP/\(a==pK)=aF/\∃l,KV b l/\h.DictOf (k8 P w) a l
 |.dT b=>pT b<=cP/\(a==pK)=aF/\∃d,
  Paired (λp q=>p.1=q.1/\H q.2.1=aa (.tup<|p.1.map kV)/\RelV p.2 q.2.2) b d/\
  ∃o i m,h.get? a=aa o/\o.ExactDict/\o.data=.dict i m/\i.toList=d.map (entryOfKey<|tupleKind<|k8 P w)/\(d.map (·.1)).Nodup
 |.set S n=>h.SetOf (intKind P w) a S n
 |.ins C e fs=>H e=aa (.own a)/\(pT fs)<=1000/\e≠a/\h.get? a=aa (D3 C e)/\
  ∃mA,h.Ns1 e mA/\(∀f,nt (fs.lookup f)<|mA f)/\FI mA (fs.map (·.1))
 |.own _=>∃o,h.get? a=aa o
 |.xd fs=>∃mA,h.Ns1 a mA/\∀f,nt (fs.lookup f)<|mA f
 |.gS lo r=>∃t u v,h.get? a=aa {cls:=.type "range",data:=.fields #[.int lo t,.int r u,.int 1 v]}
 |.m6 o u=>h.get? a=aa o/\hL H h a u
 |.tQ s=>h.get? a=aa {cls:=.none,data:=.fields s}
 |.met f x=>h.get? a=aa (PySem.W.methodObj (.ref f)<|.ref x)
 |.ext g=>g h/\(∃o,h.get? a=aa o)/\∀j k,g j->(∀o,j.get? a=aa o->k.get? a=aa o)->g k
def eX(H:Hp)(h:bN):Prop:=∀a o,H a=aa o->hL P w H h a o
end
section
variable{P:cQ}{w:cN}{H H':Hp}{h h':bN}{a:ak}{o:HO}
theorem hL.lt(x:hL P w H h a o):a<h.objs.size:=by
 cases o with
 |lst d=>let(q,q,q,q,e):=x;show ei e
 |tup d=>let(q,q,q,p):=x;show p.tup.lt
 |dK b=>let(q,q,q,q,o,q,q,e,q):=x;show ei e
 |dT b=>let(q,q,q,q,o,q,q,e,q):=x;show ei e
 |set S n=>let(o,q,q,q,e,q):=x;show ei e
 |ins C g fs=>let(q,q,q,e,q):=x;show ei e
 |own y=>let(q,e):=x;show ei e
 |xd fs=>let(q,(q,q,q,e,q),q):=x;show ei e
 |gS lo i=>let(q,q,q,e):=x;show ei e
 |m6 z u=>let(e,q):=x;show ei e
 |tQ j=>show ei x
 |met f y=>show ei x
 |ext k=>let(q,(q,e),q):=x;show ei e
theorem Paired.ziQ(h:Paired F ziA ziB)(f:∀a b,F a b->G a b):Paired G ziA ziB:=by
 induction h with
 |nil=>show .nil
 |cons r t z=>show .cons (f _ _ r) z
theorem hL.mr(x:hL P w H h a o)(k:∀b u,(b=a\/H b=aa (.own a))->h.get? b=aa u->h'.get? b=aa u)
 (O:∀b,H b=aa (.own a)->H' b=aa (.own a)) (Y:∀b xs,H b=aa (.tup xs)->H' b=aa (.tup xs)):hL P w H' h' a o:=by
 induction o with
 |lst xs=>let(z,J,n,r,e):=x;show(z,J,n,r,k _ _ (.inl rfl) e)
 |tup xs=>let(z,J,r,I,e,c):=x;show(z,J,r,I,k _ _ (.inl rfl) e,c)
 |dK j=>let(z,y,B,r,I,i,g,e,c):=x;show(z,y,B,r,I,i,g,k _ _ (.inl rfl) e,c)
 |dT j=>
  let(z,y,xs,r,I,i,g,e,c):=x;show(z,y,xs,Paired.ziQ r λp q z=>(z.1,Y _ _ z.2.1,z.2.2),I,i,g,k _ _ (.inl rfl) e,c)
 |set S n=>let(I,i,g,t,e,c):=x;show(I,i,g,t,k _ _ (.inl rfl) e,c)
 |ins C E fs=>
  let(d,z,A,e,l,(m,i,g,s,c),r):=x;show(O _ d,z,A,k _ _ (.inl rfl) e,l,(m,i,g,k _ _ (.inr d) s,c),r)
 |own y=>let(I,e):=x;show(I,k _ _ (.inl rfl) e)
 |xd fs=>let(l,(m,i,g,e,c),r):=x;show(l,(m,i,g,k _ _ (.inl rfl) e,c),r)
 |gS lo F=>let(t,u,v,e):=x;show(t,u,v,k _ _ (.inl rfl) e)
 |m6 I u Z=>let(e,q):=x;show(k _ _ (.inl rfl) e,Z q)
 |tQ G=>
  have e:=x;show k a _ (.inl rfl) e
 |met f y=>
  have e:=x;show k a _ (.inl rfl) e
 |ext K=>let(p,(o,e),st):=x;show(st _ _ p λo q=>k _ _ (.inl rfl) q,(o,k _ _ (.inl rfl) e),st)
theorem eX.lt(x:eX P w H h)(e:H a=aa o):a<h.objs.size:=(x a o e).lt
theorem eX.fresh(x:eX P w H h)(e:h.objs.size<=a):H a=af:=by
 cases q:H a with
 |none=>rfl
 |some u=>show absurd (hV (x.lt q) e)<|nU _
theorem eX.kept(x:eX P w H h)(k:∀b u,h.get? b=aa u->h'.get? b=aa u):eX P w H h':=λa o e=>
 (x a o e).mr (λb u v q=>k b u q) (λv q=>q) λv v q=>q
theorem eX.laid(x:eX P w H h)(k:∀b u,h.get? b=aa u->h'.get? b=aa u)(j:h.objs.size<=a)(new:hL P w (upd H a o) h' a o):eX P w (upd H a o) h':=λb u e=>by
 have f:=x.fresh j;by_cases d:b=a
 .subst d;rw[zB]at e;lia
 .rw[zC d]at e
  show(x b u e).mr (λc v y q=>k c v q) (λc q=>by rw[zC (jd q f)];show q) λc g q=>by rw[zC (jd q f)];show q
end
def Rd(H:Hp)(a:ak)(u:HO):Prop:=H a=aa u\/∃o,H a=aa (.m6 o u)
theorem Rd.ok(r:Rd H a u)(x:eX P w H h):hL P w H h a u:=by
 rcases r with r|⟨o,r⟩
 .exact x a u r
 .let(_,q):=x a _ r
  show q
def C7:xz HO->Prop
 |some (.lst _)=>True
 |some (.dK _)=>True
 |some (.dT _)=>True
 |some (.set _ _)=>True
 |some (.ins _ _ _)=>True
 |some (.ext _)=>True
 |_=>False
section
variable{P:cQ}{w:cN}{H:Hp}{h h':bN}{x e:ak}{o':HO}
theorem eX.write(ok:eX P w H h)(I:C7 (H x))(j:e=x\/H e=aa (.own x))(k:∀b u,b≠e->h.get? b=aa u->h'.get? b=aa u)(O:∃u,h'.get? e=aa u)
 (new:hL P w (upd H x o') h' x o'):eX P w (upd H x o') h':=λb u q=>by
 have Y c y:H c=aa (.own y)->c≠x:=λr z=>by subst z;rw[r]at I;show I
 have Z c a:H c=aa (.tup a)->c≠x:=λr z=>by subst z;rw[r]at I;show I
 by_cases d:b=x
 .subst d;rw[zB]at q;lia
 .rw[zC d]at q
  by_cases f:b=e
  .have J:H b=aa (.own x):=by
    lia
   rw[q]at J;cases J;let(v,g):=O;show(v,by rw[f];show g)
  .refine(ok b u q).mr (λc v i r=>k c v ?_ r) (λc r=>by rw[zC (Y c b r)];show r) λc a r=>by rw[zC (Z c a r)];show r
   grind
end
structure Un(fs ex:List ak)(H H':Hp)(h h':bN):Prop where
 keep:∀b o,h.get? b=aa o->H b=af->b∉fs->b∉ex->h'.get? b=aa o
 slot:∀b o,h.get? b=aa o->H b=af->b∈fs->b∉ex->∃sl,h'.get? b=aa {o with slots:=sl}
 free:∀b o,h.get? b=aa o->H b=af->b∉ex->H' b=af
 there:∀b o,h.get? b=aa o->b∉ex->∃o',h'.get? b=aa o'
 m9:∀b xs,H b=aa (.tup xs)->H' b=aa (.tup xs)
 mS:∀b o u,H b=aa (.m6 o u)->H' b=aa (.m6 o u)
 mU:∀b ps,H b=aa (.tQ ps)->∃more,H' b=aa (.tQ<|ps++more)
section
variable{fs m_ ex l_:zn ak}{H H1 H2:Hp}{h h1 h2 h':bN}{a x e:ak}{o:HO}
theorem Un.any(u:Un fs ex H H1 h h1)(q:h.get? b=aa ob)(n:H b=af)(z:b∉ex):∃j,h1.get? b=aa {ob with slots:=j}:=by
 by_cases a:b∈fs
 .exact u.slot b ob q n a z
 .exact(ob.slots,u.keep b ob q n a z)
theorem Un.trans(a:Un fs ex H H1 h h1)(b:Un fs ex H1 H2 h1 h2):Un fs ex H H2 h h2 where
 keep:=λc z q n hc I=>b.keep c z (a.keep c z q n hc I) (a.free c z q n I) hc I
 slot:=λc z q n hc I=>by let(sl,e1):=a.slot c z q n hc I;let(J,e2):=b.slot c _ e1 (a.free c z q n I) hc I;show(J,e2)
 free:=λc z q n I=>by let(o',e1):=a.there c z q I;show b.free c o' e1 (a.free c z q n I) I
 there:=λc z q I=>by let(o',e1):=a.there c z q I;show b.there c o' e1 I
 m9:=λc xs q=>b.m9 c xs<|a.m9 c xs q
 mS:=λc z xs q=>b.mS c z xs<|a.mS c z xs q
 mU:=λc ps q=>by let(O,e1):=a.mU c ps q;let(Y,e2):=b.mU c _ e1;show(O++Y,by rw[e2,Array.append_assoc])
theorem Un.kept(k:∀b u,h.get? b=aa u->h'.get? b=aa u):Un fs ex H H h h':=
 (λb z q v v v=>k b z q,λb z q v v v=>(z.slots,k b z q),λv v v n v=>n,λb z q v=>(z,k b z q),λv v q=>q,λv v v q=>q,λv a q=>(#[],by rw[q];simp))
theorem Un.refl:Un fs ex H H h h:=Un.kept λv v q=>q
theorem Un.laid(k:∀b u,h.get? b=aa u->h'.get? b=aa u)(hp:h.objs.size<=a)(hn:H a=af):Un fs ex H (upd H a o) h h' where
 keep:=λb u q v v v=>k b u q
 slot:=λb u q v v v=>(u.slots,k b u q)
 free:=λb u q n v=>by rw[zC (eS<|hV (ei q) hp)];show n
 there:=λb u q v=>(u,k b u q)
 m9:=λb xs q=>by rw[zC (jd q hn)];show q
 mS:=λb u xs q=>by rw[zC (jd q hn)];show q
 mU:=λb ps q=>(#[],by rw[zC (jd q hn),q];simp)
theorem Un.write(I:C7 (H x))(j:e=x\/H e=aa (.own x))(k:∀b u,b≠e->h.get? b=aa u->h'.get? b=aa u)(O:∃u,h'.get? e=aa u):Un fs ex H (upd H x o) h h':=by
 have J b:H b=af->b≠x:=λn z=>by subst z;rw[n]at I;show I
 have d b:H b=af->b≠e:=λn z=>by lia
 have a b u:H b=aa u->¬C7 (aa u)->b≠x:=λq nm z=>by lia
 show(λb u q n v v=>k b u (d b n) q,λb u q n v v=>(u.slots,k b u (d b n) q),λb u q n v=>by rw[zC (J b n)];show n,λb u q v=>?_,
  λb f q=>by rw[zC (a b _ q λz=>z)];show q,λb u f q=>by rw[zC (a b _ q λz=>z)];show q,λb g q=>(#[],by rw[zC (a b _ q λz=>z),q];simp))
 grind
theorem Un.mono(u:Un fs ex H H1 h h1)(hs:∀b∈fs,b∈m_)(J:∀b∈ex,b∈l_):Un m_ l_ H H1 h h1:=
 (λb I q n d a=>u.keep b I q n (λz=>d<|hs b z) λz=>a<|J b z,λv v q n v a=>u.any q n λz=>a<|J _ z,λb I q n a=>u.free b I q n λz=>a<|J b z,λb I q a=>u.there b I q λz=>a<|J b z,u.m9,u.mS,u.mU)
end
def L8(h:bN)(H:Hp):zn ak:=(aT h.objs.size).filter λa=>(H a).isSome
def LC(h:bN)(H:Hp):bN:=B3 h<|L8 h H
theorem zk7(h)(H):(LC h H).objs.size=h.objs.size:=PySem.W.hideAll_size _ _
theorem CT(e:h.get? b=aa o)(n:H b=af):(LC h H).get? b=aa o:=
 vr _ e λa=>by have q:=(o5.mp a).2;rw[n]at q;simp at q
theorem Ih(e:(LC h H).get? b=aa o):h.get? b=aa o/\H b=af:=by
 have I:=Uo (L8 h H) e;show(I,?_);cases q:H b with
 |none=>rfl
 |some x=>
  have a:b∈L8 h H:=o5.mpr (dy.mpr<|ei I,by simp[q]);have z:(LC h H).get? b=af:=P_ (L8 h H) a;lia
def Lp(g h:bN)(L:ak):zn (ak×e9):=(aT h.objs.size).filterMap λa=>if a=L\/(g.get? a).isSome then af else (h.get? a).map λo=>(a,o)
def rest(g h:bN)(L d:ak):zn (ak×e9):=(Lp g h L).filter λp=>decide<|p.1≠d
structure Mod(K:aO)(mg:DZ)(base:bN):Prop where
 oS:K.In base
 glob:base.Ns gp mg
 blt:∃mb,base.Ns c_ mb/\∀x:Str,x ≠ "__name__"->mb x=pg x
 nolimit:base.NoLimit
structure Cx where
 prog:cQ
 w:cN
 K:aO
 mg:Str->Option aN
 base:bN
 A:ec
 N:List Str
 fy:bB
 uj:Hp
 env:eE
 outer:List eE
 stack:List eE
 ex:List ak
 fn:Str->Bool
 calm:Bool
 pn:List (ak×e9)
 xe:aN->bB->Prop
def hS(l:zn eE):zn ak:=l.filterMap (·.frame)
abbrev Cx.fs(X:Cx):zn ak:=hS X.outer
def xB(e:cS)(x:Str):Prop:=e.names.lookup x=aa .local\/e.names.lookup x=aa .cell\/e.names.lookup x=aa .free
def Loc(e:cS)(x:Str):Prop:=e.names.lookup x=aa .local\/e.names.lookup x=aa .cell
def zaz(env:eE)(h:bN)(m:DZ)(x:Str)(u:aN):Prop:=
 (env.kindOf x=aa .local/\m x=aa u)\/((env.kindOf x=aa .cell\/env.kindOf x=aa .free)/\∃c,env.cells.lookup x=aa c/\h.IsCell c (aa u))
structure Cx.Ok(X:Cx):Prop where
 mod:Mod X.K X.mg X.base
 kind:⋯.scope.kind=.function
 glob:⋯.globals=gp
 blt:⋯.builtins=c_
 above:X.fy.heap.objs.size<=⋯.locals
 inj:∀x y c,⋯.cells.lookup x=aa c->⋯.cells.lookup y=aa c->x=y
 has:∀x,(⋯.kindOf x=aa .cell\/⋯.kindOf x=aa .free)->∃c,⋯.cells.lookup x=aa c
 uQ:∀x c,X.fn x=ae->⋯.cells.lookup x=aa c->X.fy.heap.objs.size<=c
 hd:X.calm=ae->X.A.handled=af
 frames:X.A.frames=aa X.stack
 A2:X.stack=X.outer\/(X.stack=⋯::X.outer/\⋯.frame=aa ⋯.locals)
 sY:∀b∈X.ex,b≠⋯.locals/\∀x c,⋯.cells.lookup x=aa c->c≠b
 bs:∀b o,X.base.get? b=aa o->X.fy.heap.get? b=aa o/\X.uj b=af
 nP:X.base.objs.size<=X.fy.heap.objs.size
 u0:∀b o,X.base.get? b=aa o->b∉X.ex
 sZ:∀b∈X.ex,b∉X.fs
 mc:X.fy.heap.FunFrames X.base X.outer
 oh:∀b∈X.fs,X.uj b=af
structure Inv(X:Cx)(pins:TW)(U:List (Option V))(H:Hp)(s:bB):Prop where
 ok:X.Ok
 os:s.os=X.fy.os
 bare:oN s.gens
 base:Un X.fs X.ex X.uj H X.fy.heap s.heap
 loc:∃m,s.heap.Ns ⋯.locals m/\∀(i:Nat) (x:Str) (v:V),X.N[i]? = aa x->U[i]? = aa (aa v)->xB ⋯.scope x->∃u,RelV v u/\zaz ⋯ s.heap m x u
 cell:∀x c,⋯.cells.lookup x=aa c->∃v,s.heap.IsCell c v
 free:H ⋯.locals=af
 nz:∀x c,⋯.cells.lookup x=aa c->H c=af
 pin:∀p∈X.pn++pins,s.heap.get? p.1=aa p.2/\H p.1=af/\p.1≠⋯.locals/\p.1∉X.fs/\∀v,p.2.data ≠ .cell v
 bQ:eX X.prog X.w H s.heap
 len:U.length=X.N.length
section
variable{X:Cx}{pins:TW}{U:zn (xz V)}{H H':Hp}{s:bB}{h':bN}
theorem Cx.Ok.zjg(ok:X.Ok)(e:X.base.get? b=aa o):b∉X.fs:=λa=>by have:=(ok.mc.mem a).1;lia
theorem Inv.bs(I:Inv X pins U H s):∀b o,X.base.get? b=aa o->s.heap.get? b=aa o/\H b=af:=λb o e=>
 (I.base.keep b o (I.ok.bs b o e).1 (I.ok.bs b o e).2 (I.ok.zjg e) (I.ok.u0 b o e),I.base.free b o (I.ok.bs b o e).1 (I.ok.bs b o e).2 (I.ok.u0 b o e))
theorem Inv.bk(I:Inv X pins U H s):∀b o,X.base.get? b=aa o->s.heap.get? b=aa o:=λb o e=>(I.bs b o e).1
theorem Inv.mod(I:Inv X pins U H s):Mod X.K X.mg X.base:=I.ok.mod
theorem Inv.df(I:Inv X pins U H s):X.K.In s.heap:=I.ok.mod.oS.keeps I.bk
theorem Inv.lt(I:Inv X pins U H s):⋯.locals<↥s:=let (_,a,_):=I.loc;a.lt
theorem Inv.sz(I:Inv X pins U H s):X.fy.heap.objs.size<=↥s:=et I.ok.above<|UB I.lt
theorem Inv.zji(I:Inv X pins U H s)(h:↥s<=a):a∉X.fs:=λb=>by let(q,o,z,q):=I.ok.mc.mem b;show absurd (hV (ei z)<|et I.sz h)<|nU _
theorem Inv.rj(I:Inv X pins U H s):∀x c,⋯.cells.lookup x=aa c->c≠⋯.locals:=λx c e z=>by let(v,o,J,d):=I.cell x c e;let(m,(f,b,a,O,Y,q),q):=I.loc;lia
theorem Inv.mc(I:Inv X pins U H s):s.heap.FunFrames X.base X.outer:=by
 have all:∀l,(∀b∈hS l,b∈X.fs)->X.fy.heap.FunFrames X.base l->s.heap.FunFrames X.base l:=by
  intro l
  induction l with
  |nil=>intro _ _;trivial
  |cons g r O=>
   intro f Y;let(Z,(L,o,d,i,j,h),k):=Y;have J:=f L (by erw[hS];rw[_F,d];show fA);let(m,e):=I.base.slot L o j (I.ok.oh L J) J λz=>I.ok.sZ L z J;show(Z,(L,_,d,i,e,h),O (λb a=>f b<|by erw[hS];rw[_F,d];show eV _ a) k)
 show all X.outer (λq a=>a) I.ok.mc
theorem Inv.stack(I:Inv X pins U H s):s.heap.FunFrames X.base X.stack:=by
 rcases I.ok.A2 with e|⟨e,hf⟩
 .rw[e];show I.mc
 .rw[e]
  let(m,a,q):=I.loc;show .cons (by rw[I.ok.kind];decide) hf a ?_ I.mc;show Tf<|et I.ok.nP I.ok.above
theorem Inv.Dv(I:Inv X pins U H s):∀b∈hS X.stack,b∈⋯.locals::X.fs:=λb a=>by
 rcases I.ok.A2 with e|⟨e,hf⟩
 .rw[e]at a;show eV _ a
 .rw[e]at a
  erw[hS]at a;rw[_F,hf]at a;show a
theorem Inv.u4(I:Inv X pins U H s):∀b∈hS X.stack,H b=af:=λb hb=>by
 rcases d8.mp (I.Dv b hb)with e|hb
 .rw[e];show I.free
 .let(_,o,J,_):=I.ok.mc.mem hb
  show I.base.free b o J (I.ok.oh b hb) λz=>I.ok.sZ b z hb
theorem Inv.step{ch:zn ak}(I:Inv X pins U H s)
 (Y:∀b∈ch,(b∈X.ex\/X.fy.heap.objs.size<=b)/\b≠⋯.locals/\(∀x c,⋯.cells.lookup x=aa c->c≠b)/\∀p∈X.pn++pins,p.1≠b)
 (keep:∀b o,b≠⋯.locals->b∉X.fs->b∉ch->s.heap.get? b=aa o->H b=af->h'.get? b=aa o)
 (j:∀b o,b≠⋯.locals->b∈X.fs->b∉ch->s.heap.get? b=aa o->H b=af->∃sl,h'.get? b=aa {o with slots:=sl}) (free:∀b o,b∉ch->s.heap.get? b=aa o->H b=af->H' b=af)
 (B:∀b o,b∉ch->s.heap.get? b=aa o->∃σ,h'.get? b=aa σ)
 (W:∀b xs,H b=aa (.tup xs)->H' b=aa (.tup xs)) (S:∀b o u,H b=aa (.m6 o u)->H' b=aa (.m6 o u)) (mU:∀b ps,H b=aa (.tQ ps)->∃more,H' b=aa (.tQ<|ps++more))
 (ns:∀m,s.heap.Ns ⋯.locals m->h'.Ns ⋯.locals m) (bQ:eX X.prog X.w H' h') (hg:oN g'):
 Inv X pins U H' {s with heap:=h',gens:=g',drawn:=d',toks:=t'}:=by
 have y:∀b o,_=aa o->b≠⋯.locals:=λb o e=>eS<|hV (ei e) I.ok.above;have g:∀b o,_=aa o->b∉X.ex->b∉ch:=λb o e J f=>by
  rcases (Y b f).1 with z|z
  .exact J z
  .exact absurd (hV (ei e) z)<|nU _
 have A:∀x c,_=aa c->∀v,s.heap.IsCell c v->h'.IsCell c v:=λx c e v M=>by
  let(o,O,t):=M;have Z:=λz=>(Y c z).2.2.1 x c e rfl;by_cases C:c∈X.fs
  .let(sl,q):=j c o (I.rj x c e) C Z O (I.nz x c e)
   show(_,q,t)
  .exact(o,keep c o (I.rj x c e) C Z O<|I.nz x c e,t)
 show(I.ok,I.os,hg,(λb o e n f J=>?_,λb o e n f J=>?_,λb o e n J=>?_,λb o e J=>?_,λb xs e=>W b xs<|I.base.m9 b xs e,λb o xs e=>S b o xs<|I.base.mS b o xs e,λb ps e=>?_),?_,λx c e=>?_,?_,λx c e=>?_,λp E=>?_,bQ,I.len)
 .exact keep b o (y b o e) f (g b o e J) (I.base.keep b o e n f J)<|I.base.free b o e n J
 .let(sl,a):=I.base.slot b o e n f J
  let(K,h):=j b _ (y b o e) f (g b o e J) a<|I.base.free b o e n J;show(K,h)
 .let(σ,a):=I.base.there b o e J
  show free b σ (g b o e J) a<|I.base.free b o e n J
 .let(σ,a):=I.base.there b o e J
  show B b σ (g b o e J) a
 .let(Q,a):=I.base.mU b ps e
  grind
 .let(m,P,N):=I.loc
  show(m,ns m P,λi x v a h L=>?_);let(u,r,l):=N i x v a h L;show(u,r,?_);rcases l with l|⟨k,c,e,z⟩
  .exact .inl l
  .exact .inr (k,c,e,A x c e _ z)
 .let(v,z):=I.cell x c e
  show(v,A x c e v z)
 .let(m,(o,_,_,O,_),_):=I.loc
  show free _ o (λz=>(Y _ z).2.1 rfl) O I.free
 .let(v,o,O,t):=I.cell x c e
  show free c o (λz=>(Y c z).2.2.1 x c e rfl) O<|I.nz x c e
 .let(e,n,F,G,d):=I.pin p E
  have Z:=λz=>(Y p.1 z).2.2.2 p E rfl;show(keep p.1 p.2 F G Z e n,free p.1 p.2 Z e n,F,G,d)
theorem Inv.un(I:Inv X pins U H s)(u:Un X.fs [] H H' s.heap h')(j:eX X.prog X.w H' h'):Inv X pins U H' {s with heap:=h',toks:=t'}:=by
 let(m,(o,i,h,J,r),q):=id I.loc;let(p,Y):=u.any J I.free ();show I.step (ch:=[]) (λq z=>nomatch z) (λb o q a q e n=>u.keep b o e n a ()) (λb o q a q e n=>u.slot b o e n a ()) (λb o q e n=>u.free b o e n ()) (λb o q e=>u.there b o e ()) u.m9 u.mS u.mU (λk f=>by let(l,Z,d,O,g):=f;rw[J]at O;cases O;show(_,Z,d,Y,g)) j I.bare
theorem Inv.call{ch:zn ak}(I:Inv X pins U H s)(u:Un (hS X.stack) ch H H' s.heap h')(j:eX X.prog X.w H' h')(σ:oN B)
 (O:∀b∈ch,(b∈X.ex\/X.fy.heap.objs.size<=b)/\b≠⋯.locals/\(∀x c,⋯.cells.lookup x=aa c->c≠b)/\∀p∈X.pn++pins,p.1≠b):
 Inv X pins U H' {s with heap:=h',gens:=B,drawn:=S,toks:=t'}:=by
 let(m,(o,l,k,Y,r),q):=id I.loc;let(A,J):=u.any Y I.free λz=>(O _ z).2.1 rfl;show I.step O (λb o J g a e n=>u.keep b o e n (λz=>(d8.mp<|I.Dv b z).elim J g) a) (λb o q q a e n=>u.any e n a) (λb o a e n=>u.free b o e n a) (λb o a e=>u.there b o e a) u.m9 u.mS u.mU (λt h=>by let(y,d,f,Z,i):=h;rw[Y]at Z;cases Z;show(_,d,f,J,i)) j σ
theorem Inv.turned(I:Inv X pins U H s)(k:∀b o,b≠j->s.heap.get? b=aa o->h'.get? b=aa o)(W:H j=af)(J:j≠⋯.locals)
 (B:j∈X.ex\/X.fy.heap.objs.size<=j) (S:∀x c,⋯.cells.lookup x=aa c->c≠j) (σ:∀p∈X.pn++pins,p.1≠j):Inv X pins U H {s with heap:=h',toks:=t'}:=by
 show I.step (ch:=[j]) (λb g=>?_) (λb o y y a e y=>k b o (λz=>a<|by simp[z]) e) (λb o y y a e y=>(o.slots,k b o (λz=>a<|by simp[z]) e)) (λy y y y n=>n)
  (λb o a e=>(o,k b o (λz=>a<|by simp[z]) e)) (λy y e=>e) (λy y y e=>e) (λb i e=>(#[],by rw[e];simp)) (λm h=>?_) (λb u e=>?_) I.bare
 .have e:= ~~~g
  subst e;show(B,J,S,σ)
 .let(o,f,d,O,r):=h
  show(o,f,d,k _ o (dh J) O,r)
 .refine(I.bQ b u e).mr (λc v a q=>k c v ?_ q) (λy q=>q) λy y q=>q
  lia
theorem Inv.tok(I:Inv X pins U H s)(t):Inv X pins U H {s with toks:=t}:=I.un Un.refl I.bQ
theorem Inv.kept(I:Inv X pins U H s)(k:∀b u,s.heap.get? b=aa u->h'.get? b=aa u):Inv X pins U H {s with heap:=h',toks:=t'}:=I.un (Un.kept k)<|I.bQ.kept k
theorem Inv.laid(I:Inv X pins U H s)(k:∀b u,s.heap.get? b=aa u->h'.get? b=aa u)(e:↥s<=a)(new:hL X.prog X.w (upd H a o) h' a o):
 Inv X pins U (upd H a o) {s with heap:=h',toks:=t'}:=I.un (Un.laid k e<|I.bQ.fresh e)<|I.bQ.laid k e new
theorem Inv.write(I:Inv X pins U H s)(z:C7 (H x))(j:e=x\/H e=aa (.own x))(k:∀b u,b≠e->s.heap.get? b=aa u->h'.get? b=aa u)(J:∃u,h'.get? e=aa u)
 (new:hL X.prog X.w (upd H x o) h' x o):Inv X pins U (upd H x o) {s with heap:=h',toks:=t'}:=I.un (Un.write z j k J)<|I.bQ.write z j k J new
theorem Inv.L1(I:Inv X pins U H s)(h:∀p∈J,s.heap.get? p.1=aa p.2/\H p.1=af/\p.1≠⋯.locals/\p.1∉X.fs/\∀v,p.2.data ≠ .cell v):Inv X J U H s:=
 (I.ok,I.os,I.bare,I.base,I.loc,I.cell,I.free,I.nz,λp a=>(l9.mp a).elim (λz=>I.pin p<|_z _ z) (h p),I.bQ,I.len)
theorem ah{N:zn Str}(z:N.Nodup){i j:Nat}(a:N[i]? = aa x)(b:N[j]? = aa x):i=j:=by let(f,d):=i8.mp a;let(g,e):=i8.mp b;show(List.getElem_inj z).mp (d.trans e.symm)
theorem bw{A:ec}{u:aN}{Q:Unit->bB->Prop}(I:Inv X pins U H s)(hN:X.N.Nodup)(S:X.N[i]? = aa x)(J:Loc ⋯.scope x)(r:RelV v u)
 (h:∀W,Inv X pins (U.set i<|some v) H W->(∃a,pQ a s.heap W.heap/\(a=⋯.locals\/⋯.cells.lookup x=aa a))->Q ⟨⟩ W) (hf:X.fn x\/⋯.scope.names.lookup x=aa .local:=by first|show .inl rfl|show .inr rfl|assumption):wpAny M A (storeName ⋯ x u) Q E s:=by
 let(m,L,hl):=id I.loc;have al:(⋯.scope.kind ==.class || (⋯.scope.kind ==.module&&⋯.locals != ⋯.globals))=aF:=by rw[I.ok.kind];rfl
 have a7:i<pT U:=by rw[I.len];show(i8.mp S).1
 have rj:=I.rj;have a8:∀{a}{h'},(∃o,s.heap.get? a=aa o/\H a=af)->pQ a s.heap h'->eX X.prog X.w H h':=λ{a h'} ha f b ob e=>by let(V,V,b0):=ha;show(I.bQ b ob e).mr (λc F l q=>(f.2 c ?_).trans q) (λV q=>q) λV V q=>q;lia
 rcases J with Y|Y
 .refine wpAny_storeName_local Y L (λh' an f=>?_) al
  show aU λkZ=>?_;let(zjt,V,V,as,V):=id L;show kZ ?_;show h _ (I.ok,I.os,I.bare,(λb o e n B J=>?_,λb o e n B J=>?_,I.base.free,λb o e J=>?_,I.base.m9,I.base.mS,I.base.mU),(_,an,λj y v' g t K=>?_),λy c e=>?_,I.free,I.nz,λp P=>?_,a8 (zjt,as,I.free) f,~~~I.len) (_,f,.inl rfl)
  .exact(f.2 b<|eS<|hV (ei e) I.ok.above).trans (I.base.keep b o e n B J)
  .let(sl,g):=I.base.slot b o e n B J
   show(sl,(f.2 b<|eS<|hV (ei e) I.ok.above).trans g)
  .let(T,g):=I.base.there b o e J
   show(T,(f.2 b<|eS<|hV (ei e) I.ok.above).trans g)
  .by_cases O:j=i
   .subst O
    rw[S]at g;cases g;rw[kr a7]at t;cases t;show(u,r,.inl (Y,by simp))
   .rw[ew (dh O)]at t
    let(u',σ,q):=hl j y v' g t K;show(u',σ,?_);rcases q with⟨k,e⟩|⟨k,c,e,z⟩
    .refine .inl (k,?_)
     have:y≠x:=λe=>O<|ah hN g<|e ▸ S;simp[this,e]
    .exact .inr (k,c,e,z.sameBut f<|rj y c e)
  .let(F,z):=I.cell y c e
   show(F,z.sameBut f<|rj y c e)
  .let(e,n,C,R,d):=I.pin p P
   show((f.2 p.1 C).trans e,n,C,R,d)
 .have G:X.fn x:=by
   lia
  let(c,l):=I.ok.has x<|.inl Y;let(F,z):=I.cell x c l;show wpAny_storeName_cell I.ok.kind Y l z<|λh' a9 f=>?_;let(oc,ac,av):=id z;show h _ (I.ok,I.os,I.bare,(λb o e n B J=>?_,λb o e n B J=>?_,I.base.free,λb o e J=>?_,I.base.m9,I.base.mS,I.base.mU),(m,L.sameBut f<|dh<|rj x c l,λj y v' g t K=>?_),λy Z e=>?_,I.free,I.nz,λp P=>?_,a8 (oc,ac,I.nz x c l) f,~~~I.len) (c,f,.inr l)
  .exact(f.2 b<|eS<|hV (ei e)<|I.ok.uQ x c G l).trans (I.base.keep b o e n B J)
  .let(sl,g):=I.base.slot b o e n B J
   show(sl,(f.2 b<|eS<|hV (ei e)<|I.ok.uQ x c G l).trans g)
  .let(T,g):=I.base.there b o e J
   show(T,(f.2 b<|eS<|hV (ei e)<|I.ok.uQ x c G l).trans g)
  .by_cases O:j=i
   .subst O
    rw[S]at g;cases g;rw[kr a7]at t;cases t;show(u,r,.inr (.inl Y,c,l,a9))
   .rw[ew (dh O)]at t
    let(u',σ,q):=hl j y v' g t K;show(u',σ,?_);rcases q with q|⟨k,Z,e,z'⟩
    .exact .inl q
    .refine .inr (k,Z,e,z'.sameBut f ?_)
     rintro rfl;show O<|ah hN g<|I.ok.inj _ _ _ e l ▸ S
  .by_cases ad:Z=c
   .subst ad;show(_,a9)
   .let(w2,z2):=I.cell y Z e
    show(w2,z2.sameBut f ad)
  .let(e,n,C,R,d):=I.pin p P
   show((f.2 p.1 ?_).trans e,n,C,R,d);intro q;rw[q,ac]at e;have q':=l8 e;show d F (by rw[<-q'];show av)
theorem WI(I:Inv X pins U H s)(z:X.N.Nodup)(B:X.N[i]? = aa x)(J:Loc ⋯.scope x)(r:RelV v u)
 (h:∀e,Inv X pins (U.set i<|some v) H e->Q ⟨⟩ e) (j:X.fn x\/⋯.scope.names.lookup x=aa .local:=by first|show .inl rfl|show .inr rfl|assumption):wpAny M A (storeName ⋯ x u) Q E s:=
 bw I z B J r (λe O q=>h e O) j
theorem Inv.F7(I:Inv X pins U H s)(z:s'.os=s.os)(u:Un (hS X.stack) ch H H' s.heap s'.heap)(j:eX X.prog X.w H' s'.heap)(J:oN s'.gens)
 (O:∀b∈ch,(b∈X.ex\/X.fy.heap.objs.size<=b)/\b≠⋯.locals/\(∀x c,⋯.cells.lookup x=aa c->c≠b)/\∀p∈X.pn++pins,p.1≠b):Inv X pins U H' s':=by
 let(h',d,a,g,f):=s';have e:=z;subst e;show I.call u j J O
end
abbrev XK:=aN->xz ak->Hp->Prop
abbrev St:=zn (xz V)
abbrev VK:=V->Hp->Prop
abbrev TE:=St->Hp->VK->Prop
abbrev TT:=St->Hp->(Bool->Hp->Prop)->Prop
abbrev TA:=St->Hp->(zn V->Hp->Prop)->Prop
structure Ends where
 nx:St->Hp->Prop
 rt:VK
 bk:St->Hp->Prop:=λ_ _=>False
 ct:St->Hp->Prop:=λ_ _=>False
abbrev TS:=Ends->St->Hp->Prop
inductive EP(X:Cx)(pins:TW)(U:St)(Q:VK)(u:aN)(s':bB):Prop
 |mk (v H') (_:Inv X pins U H' s') (_:RelV v u) (_:Q v H')
inductive TP(X:Cx)(pins:TW)(U:St)(Q:Bool->Hp->Prop)(b:Bool)(s':bB):Prop
 |mk H' (_:Inv X pins U H' s') (_:Q b H')
inductive AP(X:Cx)(pins:TW)(U:St)(Q:List V->Hp->Prop)(us:List aN)(s':bB):Prop
 |mk (vs H') (_:Inv X pins U H' s') (_:cM vs us) (_:Q vs H')
def SP(X:Cx)(e:TW)(D:Ends)(f:Flow)(j:bB):Prop:=
 match f with
 |.next=>∃a b,Inv X e a b j/\D.nx a b
 |.brk=>∃a b,Inv X e a b j/\D.bk a b
 |.cont=>∃a b,Inv X e a b j/\D.ct a b
 |.ret u=>∃v a b,Inv X e a b j/\RelV v u/\D.rt v b
def PE(X:Cx)(e:bE)(t:TE):Prop:=
 ∀(a:TW) (s:bB) (b:St) (H:Hp) (Q:VK),Inv X a b H s->t b H Q->⇑X (bH e ⋯) (EP X a b Q) X.xe s
def PT(X:Cx)(e:bE)(t:TT):Prop:=
 ∀a s b H Q,Inv X a b H s->t b H Q->⇑X (tu e ⋯<|eval e ⋯) (TP X a b Q) X.xe s
def PW(X:Cx)(e:bE)(t:TT):Prop:=
 ∀z a s b H Q,Inv X a b H s->t b H Q->⇑X (tu e ⋯ z) (TP X a b Q) X.xe s
theorem PW.pt(h:PW X e t):PT X e t:=h _
def PA(X:Cx)(e:zn bE)(t:TA):Prop:=
 ∀pos a s b H Q,Inv X a b H s->t b H Q->⇑X (L5<|backTo pos<|starEach e ⋯) (AP X a b Q) X.xe s
def PS(X:Cx)(st:de)(t:TS):Prop:=
 ∀a s b H D,Inv X a b H s->t D b H->⇑X (exec st ⋯) (SP X a D) X.xe s
def gj(X:Cx)(st:zn de)(t:TS):Prop:=
 ∀(a:TW) (s:bB) (b:St) (H:Hp) (D:Ends),Inv X a b H s->t D b H->⇑X (execs st ⋯) (SP X a D) X.xe s
theorem cy(h:wpAny M A t Q E s)(z:∀a s,Q a s->Q' a s):wpAny M A t Q' E s:=cT h z λq q x=>x
section
variable{X:Cx}
def eY(i:Nat):TE:=λa H Q=>∃v,a[i]? = aa (aa v)/\Q v H
def tC(v:V):TE:=λ_ H Q=>Q v H
theorem tq(Y:X.N[i]? = aa x)(Z:xB ⋯.scope x)(j:(x==("__debug__"))=aF:=by decide)(B:(x==("__classdict__"))=aF:=by decide):PE X (.Name x pos) (eY i):=by
 intro a s k H Q I h;let(v,e,h):=h;let(m,g,d):=I.loc;let(u,r,l):=d i x v Y e Z;have J:EP X a k Q u s:=(v,H,I,r,h);rcases l with⟨z,f⟩|⟨z,c,b,O⟩
 .exact I_ (wpAny_loadName_local I.ok.kind z g f J) j
 .rcases z with z|z
  .exact I_ (wpAny_loadName_cell I.ok.kind z b O J) j
  .exact I_ (wpAny_loadName_free I.ok.kind z b O J B) j
theorem Nm:PE X (.Constant (.int i) j pos) (tC<|.int i):=λq q q H q I h=>wpAny_Constant_int (.int i,H,I.tok _,(_,rfl),h)
theorem Np:PE X (.Constant (.bool b) j pos) (tC<|.bl b):=λq q q H q I h=>Constant_bool (.bl b,H,I,rfl,h)
theorem cE:PE X (.Constant .none j pos) (tC .cI):=λq q q H q I h=>Constant_none (.cI,H,I,rfl,h)
theorem Ni:PE X (.Constant (.str x) j pos) (tC<|.str x):=λq q q H q I h=>ND (.str x,H,I.tok _,(_,rfl),h)
def Gl(X:Cx)(x:Str):Prop:=⋯.kindOf x=aa .globalImplicit
theorem xE(I:Inv X pins U H s)(z:Gl X x)(j:X.mg x=aa u)(h:Q u s)
 (e:(x==("__debug__"))=aF:=by decide):⇑X (bH (.Name x pos) ⋯) Q E s:=
 Calls.Name_function_global I.ok.kind z (Calls.loadGlobal_global (by rw[I.ok.glob];show I.mod.glob.keeps I.bk) j h) e
theorem xo(I:Inv X pins U H s)(z:Gl X x)(j:X.mg x=af)(J:pg x=aa u)(h:Q u s)
 (B:x ≠ "__name__":=by decide) (e:(x==("__debug__"))=aF:=by decide):⇑X (bH (.Name x pos) ⋯) Q E s:=by
 let(d,a,b):=I.mod.blt;show Calls.Name_function_global I.ok.kind z (Calls.loadGlobal_builtin (by rw[I.ok.glob];show I.mod.glob.keeps I.bk) j (by rw[I.ok.blt];show a.keeps I.bk) ((b x B).trans J) h) e
variable{a b:bE}{ta tb:TE}{pos:cH}
def PC(X:Cx)(z:CmpOp)(a b:bE)(t:TE):Prop:=
 ∀d s e H Q,Inv X d e H s->t e H Q->
  ⇑X (bH a ⋯) (λv I=>⇑X (bH b ⋯) (λu J=>⇑X (h8 z v u) (EP X d e Q) X.xe J) X.xe I) X.xe s
theorem CD(b)(h:op ≠ .In)(e:op ≠ .NotIn):m3 op b=aF:=by
 have a:(op==CmpOp.In)=aF:=by cases op<;>first|rfl|show absurd rfl h
 have d:(op==CmpOp.NotIn)=aF:=by cases op<;>first|rfl|show absurd rfl e
 cases b<;>simp[m3,a,d]
def tB(t:TE):TT:=λb H Q=>t b H λx a=>∃c,x=.bl c/\Q c a
theorem MS(h:PC X op a b t)(j:m3 op b=aF:=by first|show CD _ () () |rfl):PT X (.Compare a [op] [b] pos) (tB t):=by intro e s l H Q I i;show zlF (cy (h e s l H _ I i) λv m j=>cy j λu o g=>cy g λc Y z=>?_) j;let(x,f,J,k,O):=z;let(d,rfl,q):=O;cases k;show sr (f,J,q)
theorem Fc(h:PE X e t)(he:∀z,tu e ⋯ z=(do let v<-z;oX e.pos;ml [v] (A4 v)):=by intro _;rfl):PT X e (tB t):=by intro a s i H Q I f;show isTrue_plain (cy (h a s i H _ I f) λv j J=>?_)<|he _;let(x,b,O,g,Y):=J;let(d,rfl,q):=Y;cases g;show sr (b,O,q)
variable{tA L7:TT}{rest:zn bE}
def TL(t u:TT):TT:=λb H Q=>t b H λc a=>if c then u b a Q else Q aF a
def tOr(t u:TT):TT:=λb H Q=>t b H λc a=>if c then Q ae a else u b a Q
def UT(t:TT):TT:=λb H Q=>t b H λc a=>Q (!c) a
theorem fW(j:PT X a tA):PW X (.BoolOp .And [a] pos) tA:=by
 intro z b s d H Q I h;show isTrue_and<|cy (j b s d H Q I h) λc f e=>?_;cases c with
 |true=>show isTrue_and_nil e
 |false=>show e
theorem EZ(j:PT X a tA):PW X (.BoolOp .Or [a] pos) tA:=by
 intro z b s d H Q I h;show isTrue_or<|cy (j b s d H Q I h) λc f e=>?_;cases c with
 |false=>show isTrue_or_nil e
 |true=>show e
theorem sD(j:PT X a tA)(B:PW X (.BoolOp .And (b::rest) pos) L7):PW X (.BoolOp .And (a::b::rest) pos) (TL tA L7):=by
 intro O d s f H Q I h;show isTrue_and<|cy (j d s f H _ I h) λc g Y=>?_;let(e,z,J):=Y;cases c with
 |true=>show B O d g f e Q z J
 |false=>show(e,z,J)
theorem MH(j:PT X a tA)(B:PW X (.BoolOp .Or (b::rest) pos) L7):PW X (.BoolOp .Or (a::b::rest) pos) (tOr tA L7):=by
 intro O d s f H Q I h;show isTrue_or<|cy (j d s f H _ I h) λc g Y=>?_;let(e,z,J):=Y;cases c with
 |true=>show(e,z,J)
 |false=>show B O d g f e Q z J
theorem Fd(e:PT X a tA):PT X (.UnaryOp .Not a pos) (UT tA):=by intro b s d H Q I h;show isTrue_not (cy (e b s d H (λc=>Q<|!c) I h) λq q z=>by cases z;constructor<;>assumption)
def RE(ta tb:TE):TE:=λb H Q=>ta b H λx a=>∃c,x=.bl c/\if c then tb b a Q else Q (.bl aF) a
def Rx(ta:TE):TE:=λb H Q=>ta b H λx a=>∃c,x=.bl c/\Q (.bl<|!c) a
theorem Fi(h:PE X a t):PE X (.BoolOp op [a] pos) t:=λb s e H Q I d=>BoolOp_one<|h b s e H Q I d
theorem Fj(j:PE X a ta)(B:PE X (.BoolOp .And (b::rest) pos) tb):PE X (.BoolOp .And (a::b::rest) pos) (RE ta tb):=by
 intro d s f H Q I h;show BoolOp_and<|cy (j d s f H _ I h) λv i O=>?_;let(x,e,J,g,z):=O;let(c,rfl,z):=z;cases g;show sr ?_;cases c with
 |true=>show B d i f e Q J z
 |false=>show(.bl aF,e,J,rfl,z)
theorem Nj(e:PE X a ta):PE X (.UnaryOp .Not a pos) (Rx ta):=by intro b s g H Q I h;show UnaryOp_<|cy (e b s g H _ I h) λv i J=>?_;let(x,d,O,f,z):=J;let(c,rfl,z):=z;cases f;show not_of<|sr (.bl<|!c,d,O,rfl,z)
def SS(t:TT)(ta tb:TE):TE:=λa H Q=>t a H λc b=>if c then ta a b Q else tb a b Q
theorem Cr(S:PT X c tA)(j:PE X a ta)(B:PE X b tb):PE X (.IfExp c a b pos) (SS tA ta tb):=by
 intro e s f H Q I h;show wpAny_IfExp<|cy (S e s f H _ I h) λd i O=>?_;let(g,z,J):=O;cases d with
 |true=>show j e i f g Q z J
 |false=>show B e i f g Q z J
end
def dY(K:aO)(H:Hp)(a:ak)(xs:zn V):Prop:=
 Rd H a (.lst xs)\/
  ∃(o:e9) (z:Array aN) (n:Nat),K.lookup a=aa o/\o.cls=.type "list"/\o.dict=af/\o.data=.seq z n/\z.size<=cP/\cM xs z.toList
def ej(K:aO)(H:Hp)(a:ak)(xs:zn V):Prop:=
 Rd H a (.tup xs)\/
  ∃(o:e9) (z:Array aN) (n:Nat),K.lookup a=aa o/\Prod.mk o.cls o.dict=(sA "tuple",af)/\o.data=.seq z n/\z.size<=cP/\cM xs z.toList
def zaw:aN->xz V
 |.none=>aa .cI
 |.bool b=>aa (.bl b)
 |.int i _=>aa (.int i)
 |.str x _=>aa (.str x)
 |.bytes b _=>aa (.yr b)
 |.float b _=>aa (.uW b)
 |.ref a=>aa (.ref a)
 |.type n=>aa (.ty n)
 |_=>af
theorem RelV.abs(r:RelV x u):zaw u=aa x:=by
 cases x with
 |cI=>cases r;rfl
 |bl _=>cases r;rfl
 |int _=>let(t,rfl):=r;rfl
 |str _=>let(t,rfl):=r;rfl
 |yr _=>let(t,rfl):=r;rfl
 |uW _=>let(t,rfl):=r;rfl
 |ref _=>cases r;rfl
 |ty _=>cases r;rfl
theorem RelV.inj(r:RelV x u)(q:RelV y u):x=y:=l8<|r.abs.symm.trans q.abs
theorem cM.inj(h:cM xs us):cM e us->xs=e:=by
 induction h generalizing e with
 |nil=>intro h;cases h;rfl
 |cons r t z=>intro h;cases h with|cons a b=>rw[r.inj a,z b]
section
variable{X:Cx}{pins:TW}{U:St}{H:Hp}{s:bB}{a:ak}{xs ys:zn V}
theorem dY.of{K:aO}(h:H a=aa (.lst xs)):dY K H a xs:=.inl (.inl h)
theorem ej.of{K:aO}(h:H a=aa (.tup xs)):ej K H a xs:=.inl (.inl h)
theorem Inv.list(I:Inv X pins U H s)(h:dY X.K H a xs):∃J,cM xs J/\PlainL s.heap a J.toArray/\(pT xs)<=cP:=by
 rcases h with h|⟨o,J,n,O,hc,hd,hs,Y,r⟩
 .let(z,J,n,r,e):=h.ok I.bQ
  show(J,r,(_,n,e,rfl,rfl,rfl),z)
 .refine(J.toList,r,(o,n,I.df a o O,hc,hd,~~~hs),?_)
  have e:=r.length;simp?[t7]at e;lia
theorem Inv.tuple(I:Inv X pins U H s)(h:ej X.K H a xs):∃J,cM xs J/\nL s.heap a J.toArray/\(pT xs)<=cP:=by
 rcases h with h|⟨o,J,n,O,hc,hs,Y,r⟩
 .let(z,J,r,p):=h.ok I.bQ
  show(J,r,p.tup,z)
 .refine(J.toList,r,(o,I.df a o O,(Prod.mk.inj hc).1,n,~~~hs),?_)
  have e:=r.length;simp?[t7]at e;lia
theorem Inv.P1(I:Inv X pins U H s)(h:dY X.K H a xs)(h':dY X.K H a ys):xs=ys:=by
 let(O,r,(o,n,e,q,q,d),q):=I.list h;let(Y,f,(i,g,z,q,q,b),q):=I.list h';rw[e]at z;cases z;rw[d]at b;injection b with J _;have:= ~~~congrArg Array.toList J
 subst this;show r.inj f
theorem Inv.SV(I:Inv X pins U H s)(h:ej X.K H a xs)(h':ej X.K H a ys):xs=ys:=by
 let(O,r,(o,e,q,n,d),q):=I.tuple h;let(Y,f,(i,z,q,g,b),q):=I.tuple h';rw[e]at z;cases z;rw[d]at b;injection b with J _;have:= ~~~congrArg Array.toList J
 subst this;show r.inj f
end
abbrev Cx.cY(X:Cx)(E:EQ):Cx:={X with xe:=E}
abbrev Cx.eQ(X:Cx):Cx:=X.cY λ_ _=>False
theorem Cx.Ok.cY{X:Cx}(ok:X.Ok)(E):(X.cY E).Ok:=
 (ok.mod,ok.kind,ok.glob,ok.blt,ok.above,ok.inj,ok.has,ok.uQ,ok.hd,ok.frames,ok.A2,ok.sY,ok.bs,ok.nP,ok.u0,ok.sZ,ok.mc,ok.oh)
theorem Cx.Ok.gL{X:Cx}(ok:(X.cY E).Ok):X.Ok:=
 (ok.mod,ok.kind,ok.glob,ok.blt,ok.above,ok.inj,ok.has,ok.uQ,ok.hd,ok.frames,ok.A2,ok.sY,ok.bs,ok.nP,ok.u0,ok.sZ,ok.mc,ok.oh)
section
variable{X:Cx}{pins:TW}{U:St}{H:Hp}{s:bB}{E:EQ}
theorem Inv.cY(I:Inv X pins U H s)(E):Inv (X.cY E) pins U H s:=(I.ok.cY E,I.os,I.bare,I.base,I.loc,I.cell,I.free,I.nz,I.pin,I.bQ,I.len)
theorem Inv.gL(I:Inv (X.cY E) pins U H s):Inv X pins U H s:=(I.ok.gL,I.os,I.bare,I.base,I.loc,I.cell,I.free,I.nz,I.pin,I.bQ,I.len)
theorem SP.gL(h:SP (X.cY E) pins D f s'):SP X pins D f s':=by
 cases f with
 |next=>let(a,b,I,q):=h;show(a,b,I.gL,q)
 |brk=>let(a,b,I,q):=h;show(a,b,I.gL,q)
 |cont=>let(a,b,I,q):=h;show(a,b,I.gL,q)
 |ret u=>let(v,a,b,I,r,q):=h;show(v,a,b,I.gL,r,q)
theorem gj.eQ{st:zn de}(h:gj X.eQ st t):gj X st t:=λpins s U H D I a=>
 cT (h pins s U H D (I.cY _) a) (λv v q=>q.gL) λv v z=>o7 z
end
section
variable{X:Cx}{st:de}{rest:zn de}{t u:TS}{e:bE}{te:TE}{pos:cH}
def BD:TS:=λD a H=>D.nx a H
def pq(t u:TS):TS:=λD a H=>t {D with nx:=u D} a H
theorem K4:gj X [] BD:=λq q a H q I h=>B5 (a,H,I,h)
theorem qL(j:PS X st t)(B:gj X rest u):gj X (st::rest) (pq t u):=by
 intro a s g H D I h;show nX<|cy (j a s g H _ I h) λf e q=>?_;cases f with
 |next=>
  let(b,d,z,q):=q;show B a e b d D z q
 |ret v=>show q
 |brk=>show q
 |cont=>show q
theorem kY(j:PS X st t):gj X [st] t:=by
 intro a s b H D I h;show nX<|cy (j a s b H D I h) λf d q=>?_;cases f with
 |next=>show B5 q
 |ret v=>show q
 |brk=>show q
 |cont=>show q
def RD:TS:=λD a H=>D.ct a H
theorem zhR:PS X (.Continue pos) RD:=λq q a H q I h=>wpAny_Continue (a,H,I,h)
theorem Inv.quiet(I:Inv X pins U H s):interactive ⋯=aF:=by simp[interactive,I.ok.kind]
def RA(te:TE):TS:=λD a H=>te a H λ_ b=>D.nx a b
theorem WY(j:PE X e te)(hs:hU e af pos.line ⋯=pure aF:=by rfl):PS X (.Expr e pos) (RA te):=by intro a s b H D I h;show Oq (cy (j a s b H _ I h) λv g (x,d,z,f,J)=>(b,d,z,J)) I.quiet hs
def OL(te:TE):TS:=λD a H=>te a H D.rt
theorem K7(j:PE X e te):PS X (.Return (aa e) pos) (OL te):=by intro a s b H D I h;show M9<|cy (j a s b H _ I h) λv g (x,d,z,f,J)=>(x,b,d,z,f,J)
def OM(c:TT)(t u:TS):TS:=λD a H=>c a H λb d=>if b then t D a d else u D a d
theorem sQ(S:PT X c tc)(j:gj X a t)(B:gj X b u):PS X (.If c a b pos) (OM tc t u):=by
 intro e s f H D I h;show wpAny_If<|cy (S e s f H _ I h) λd i O=>?_;let(g,z,J):=O;cases d with
 |true=>show j e i f g D z J
 |false=>show B e i f g D z J
def VL:TS:=λ_ _ _=>False
theorem Cg:PS X st VL:=λq q q q q q h=>h.elim
theorem K5:gj X j VL:=λq q q q q q h=>h.elim
end
abbrev TG:=V->St->Hp->(St->Hp->Prop)->Prop
abbrev xA:=zn V->St->Hp->(St->Hp->Prop)->Prop
def PG(X:Cx)(z:bE)(t:TG):Prop:=
 ∀(a:TW) (s:bB) (e:St) (H:Hp) (v:V) (u:aN) (Q:St->Hp->Prop),Inv X a e H s->RelV v u->t v e H Q->
  ⇑X (pb z ⋯ u) (λ_ f=>∃b d,Inv X a b d f/\Q b d) X.xe s
def C8(X:Cx)(j:zn bE)(t:xA):Prop:=
 ∀a s g H f e Q,Inv X a g H s->cM f e->t f g H Q->
  ⇑X (assignInOrder ((pe j ⋯).map (·.2)) e) (λ_ h=>∃b d,Inv X a b d h/\Q b d) X.xe s
abbrev UE:=V->V->V->Hp->(Hp->Prop)->Prop
def UH(X:Cx)(t:UE):Prop:=
 ∀a s d H o i v z I u Q,Inv X a d H s->RelV o z->RelV i I->RelV v u->t o i v H Q->
  ⇑X (R8 z I u) (λ_ e=>∃b,Inv X a d b e/\Q b) X.xe s
section
variable{X:Cx}{pos:cH}
def yY(i:Nat):TG:=λv a H Q=>Q (a.set i<|some v) H
theorem tf(z:X.N.Nodup)(j:X.N[i]? = aa x)(J:Loc ⋯.scope x)(e:X.fn x\/⋯.scope.names.lookup x=aa .local:=by first|show .inl rfl|show .inr rfl|assumption):PG X (.Name x pos) (yY i):=by intro a s d H v u Q I r h;show zlB<|WI I z j J r (λb O=>(_,H,O,h)) e
def Ug:xA:=λa b H Q=>a=[]/\Q b H
def NZ(t:TG)(u:xA):xA:=λd e H Q=>∃v r,d=v::r/\t v e H λa b=>u r a b Q
theorem Yb:C8 X [] Ug:=by intro a s b H f d Q I r h;let(e,h):=h;subst e;cases r;show assignInOrder_nil (b,H,I,h)
theorem xt(j:PG X e t)(B:C8 X es u)
 (hs:(pe (e::es) ⋯).map (·.2)=pb e ⋯::(pe es ⋯).map (·.2):=by rfl):C8 X (e::es) (NZ t u):=by
 intro a s g H l i Q I r h;let(v,k,d,h):=h;subst d;cases r with
 |cons r z=>
  rw[hs];show assignInOrder_cons<|cy (j a s g H _ _ _ I r h) λq f J=>?_;let(O,b,Y,Z):=J;show B a f O b _ _ Q Y z Z
def Ue(K:aO)(n:Nat)(t:xA):TG:=λv d H Q=>∃a b,v=.ref a/\ej K H a b/\(pT b)=n/\t b d H Q
theorem Ng(j:X.calm)(h:C8 X es t)
 (B:(pe es ⋯).length=n:=by rfl) (J:(pe es ⋯).findIdx? (·.1)=af:=by rfl):PG X (.Tuple es k pos) (Ue X.K n t):=by
 intro d s p H v u Q I r f;let(a,m,i,l,O,f):=f;subst i;cases r;let(w,z,Y,y):=I.tuple l;show assign_Tuple_tuple (I.ok.hd j) Y (by simp[B,<-O,z.length]) J λx Z=>?_;have g:=I.kept (t':=s.toks) λb o e=>Z b o (eS<|ei e) e;show h d _ p H m _ Q g (~~~z) f
def zar(to z:TE)(t:UE):TG:=λv a H Q=>to a H λo b=>z a b λi d=>t o i v d λI=>Q a I
theorem Fh(Z:PE X o to)(S:PE X i zkX)(hs:UH X t)
 (B:∀v,pb (.Subscript o i pos) ⋯ v=(do
   let z<-ml [v] (bH o ⋯);let J<-ml [v,z] (bH i ⋯)
   oX pos
   ml [v,z,J] (R8 z J v)
   release [v,z,J] []):=by intro _;rfl):PG X (.Subscript o i pos) (zar to zkX t):=by
 intro a s b H v u Q I r h;rw[B];show aL<|hG<|cy (Z a s b H _ I h) λz C O=>?_;show aU λY=>?_;let(x,d,g,w,l):=O;show Y ?_;show aL<|hG<|cy (S a C b d _ g l) λJ E O=>?_;show aU λY=>?_;let(y,e,j,A,m):=O;show Y ?_;show aL<|ou<|aL<|hG<|cy (hs a E b e x y v z J u _ j w A r m) λq F O=>?_;let(f,k,p):=O;show wpAny_release (b,f,k,p)
def WH(te:TE)(g:TG):TS:=λD a H=>te a H λx b=>g x a b D.nx
theorem cp(B:PE X e te)(z:PG X tg g)(hs:L6 [tg] e pos.line ⋯=pure aF:=by rfl)(S:SK [tg] e ⋯=pure af:=by rfl)
 (j:(pe [tg] ⋯).map (·.2)=[pb tg ⋯]:=by rfl):PS X (.Assign [tg] e pos) (WH te g):=by
 intro a s b H D I h;show wpAny_Assign_stores (cy (B a s b H _ I h) λv i J=>?_) hs S;let(x,d,O,f,Y):=J;rw[j];show cy (z a i b d x v _ O f Y) λy k q=>q
theorem Ff(z:X.N.Nodup)(S:X.N[i]? = aa x)(J:Loc ⋯.scope x)(j:PE X e te)(hs:hU e (aa (.Name x pos')) pos.line ⋯=pure aF:=by rfl)(B:X.fn x\/⋯.scope.names.lookup x=aa .local:=by first|show .inl rfl|show .inr rfl|assumption):
 PS X (.Assign [.Name x pos'] e pos) (WH te<|yY i):=by
 intro a s g H D I h;show Ul (cy (j a s g H _ I h) λv k O=>?_) hs;let(y,b,Y,f,Z):=O;show WI Y z S J f (λl d=>(_,b,d,Z)) B
end
structure It where
 go:Nat->Hp->Prop
 nT:Nat->Hp->V->Hp->Prop
 stop:Nat->Hp->Prop
def XT(X:Cx)(e:TW)(H:Hp)(b:ak):Prop:=
 H b=af/\b≠⋯.locals/\b∉X.fs/\(b∈X.ex\/X.fy.heap.objs.size<=b)/\(∀x c,⋯.cells.lookup x=aa c->c≠b)/\∀p∈X.pn++e,p.1≠b
theorem Inv.oC(I:Inv X pins U H s)(j:↥s<=b)(B:H' b=af):XT X pins H' b:=by
 show(B,n3<|hV I.lt j,I.zji j,.inr<|et I.sz j,λx c e z=>?_,λp a z=>?_)
 .let(v,q):=I.cell x c e
  show absurd (hV q.lt<|by rw[z];show j)<|nU _
 .exact absurd (hV (ei (I.pin p a).1)<|by rw[z];show j)<|nU _
structure Turn(P:cQ)(w:cN)(K:aO)(tg:bE)(J:It)(fp:List ak)(it:ak)(tn:Nat->bN->Prop):Prop where
 mem:it∈fp
 obj:∀i h,tn i h->∀b∈fp,∃o,h.get? b=aa o/\∀v,o.data ≠ .cell v
 keep:∀i h h',tn i h->(∀b∈fp,∀o,h.get? b=aa o->h'.get? b=aa o)->tn i h'
 item:∀(X:Cx),X.prog=P->X.w=w->X.K=K->X.calm=ae->∀(i:Nat) (pins:TW) (s:bB) (U:St) (H:Hp) (E:EQ),Inv X pins U H s->(∀b∈fp,XT X pins H b)->tn i s.heap->J.go i H->
  wpAny (aV P w) X.A (oU<|.ref it) (λr s1=>∃u,r=aa u/\
   wpAny (aV P w) X.A (zr tg (.ref it) u) (λ_ s2=>∃x H',Inv X pins U H' s2/\RelV x u/\J.nT i H x H'/\tn (i+1) s2.heap/\∀b∈fp,H' b=af) E s1) E s
 done:∀(X:Cx),X.prog=P->X.w=w->X.K=K->X.calm=ae->∀(i:Nat) (pins:TW) (s:bB) (U:St) (H:Hp) (E:EQ),Inv X pins U H s->(∀b∈fp,XT X pins H b)->tn i s.heap->J.stop i H->
  wpAny (aV P w) X.A (oU<|.ref it) (λr s1=>r=af/\Inv X pins U H s1) E s
 self:∀(A:ec) (i:Nat) (s:bB) (Q:EQ) (E:EQ),tn i s.heap->Q (.ref it) s->wpAny (aV P w) A (zv<|.ref it) Q E s
abbrev TI:=St->Hp->(It->Hp->Prop)->Prop
def Yn(X:Cx)(e:TW)(H:St)(B:bE)(R:It->Hp->Prop)(z:aN)(j:bB):Prop:=
 ∃f d g J a,z=.ref f/\Inv X e H a j/\Turn X.prog X.w X.K B J d f g/\g 0 j.heap/\(∀b∈d,XT X e a b)/\R J a
def PI(X:Cx)(j e:bE)(z:TI):Prop:=
 ∀a s b H R,Inv X a b H s->z b H R->
  ⇑X (bH e ⋯) (λv d=>⇑X (zv v) (Yn X a b j R) X.xe d) X.xe s
theorem uS(I:s.heap.get? it=aa o)(e:o.cls=.type n)(j:o.data=.fields vs)
 (B:["enumerate","zip","dict_itemiterator","dict_reverseitemiterator","odict_iterator","itertools.zip_longest","itertools.pairwise"].contains n=aF) (z:Q ⟨⟩ s):wpAny M A (zr tg (.ref it) u) Q E s:=by
 erw[zr];cases tg<;>first
  |show bW z
  |(cases u<;>first
      |show bW z
      | (show aL (wpAny_load I ?_)
         rw[e,j];change wpAny M A (if _=ae then _ else _) Q E s;rw[DY (by intro h;rw[B,Bool.false_and]at h;cases h)];show bW z))
def Yi(K:aO)(a:ak):It:=
 (λi H=>∃b x,dY K H a b/\b[i]? = aa x,λi H x d=>d=H/\∀b,dY K H a b->b[i]? = aa x,λi H=>∃b,dY K H a b/\(pT b)<=i)
def Yk(K:aO)(a:ak):It:=
 (λi H=>∃b x,ej K H a b/\b[i]? = aa x,λi H x d=>d=H/\∀b,ej K H a b->b[i]? = aa x,λi H=>∃b,ej K H a b/\(pT b)<=i)
def C3(lo:Int)(n:Nat):It:=(λi _=>i<n,λi H x a=>a=H/\x=.int (lo+i),λi _=>n<=i)
theorem zj1{K:aO}(a it):Turn P w K tg (Yi K a) [it] it (λi h=>h.IsListIter it a i) where
 mem:=by simp
 obj:=λi h st b hb=>by
  have e:b=it:= ~~~hb
  subst e;let(o,e,c,d):=st;show(o,e,λv z=>by rw[d]at z;cases z)
 keep:=λi h h' st k=>st.at λo e=>k it () o e
 item:=by intro X J hw O hc i pins s U H E I hf st Y;subst J hw O;let(xs,x,hq,Z):=Y;let(a7,rv,p,hz):=I.list hq;let(u,hu,ru):=rv.get Z;let(f0,f1,f2,f3,f4,f5):=hf it ();show wpAny_pyNext_list_item st p.isList (x:=u) (~~~hu) λh' a6 sb=>?_;have I1:Inv X pins U H {s with heap:=h'}:=I.turned (t':=s.toks) (λb o hb e=>(sb.2 b hb).trans e) f0 f1 f3 f4 f5;let(o,e,c,d):=id a6;show(u,rfl,uS (s:={s with heap:=h'}) e c d () (x,H,I1,ru,(rfl,λys hy=>by rw[I.P1 hy hq];show Z),a6,λb hb=>(hf b hb).1))
 done:=by intro X J hw O hc i pins s U H E I hf st Y;subst J hw O;let(xs,hq,Z):=Y;let(a7,rv,p,hz):=I.list hq;let(f0,f1,f2,f3,f4,f5):=hf it ();have hl:=rv.length;show wpAny_pyNext_list_end (I.ok.hd hc) st p.isList (by simp;lia) λh' eb=>(rfl,I.turned (t':=s.toks) (λb o hb e=>eb b o hb e) f0 f1 f3 f4 f5)
 self:=λq q q q q st h=>wpAny_pyIter_listiter st h
theorem ziL{K:aO}(a it):Turn P w K tg (Yk K a) [it] it (λi h=>h.IsTupleIter it a i) where
 mem:=by simp
 obj:=λi h st b hb=>by
  have e:b=it:= ~~~hb
  subst e;let(o,e,c,d):=st;show(o,e,λv z=>by rw[d]at z;cases z)
 keep:=λi h h' st k=>st.at λo e=>k it () o e
 item:=by intro X J hw O hc i pins s U H E I hf st Y;subst J hw O;let(xs,x,hq,Z):=Y;let(a1,rv,p,hz):=I.tuple hq;let(u,hu,ru):=rv.get Z;let(f0,f1,f2,f3,f4,f5):=hf it ();show wpAny_pyNext_tuple_item st (show s.heap.IsTuple a a1.toArray from p) (x:=u) (~~~hu) λh' a7 sb=>?_;have I1:Inv X pins U H {s with heap:=h'}:=I.turned (t':=s.toks) (λb o hb e=>(sb.2 b hb).trans e) f0 f1 f3 f4 f5;let(o,e,c,d):=id a7;show(u,rfl,uS (s:={s with heap:=h'}) e c d () (x,H,I1,ru,(rfl,λys hy=>by rw[I.SV hy hq];show Z),a7,λb hb=>(hf b hb).1))
 done:=by intro X J hw O hc i pins s U H E I hf st Y;subst J hw O;let(xs,hq,Z):=Y;let(a1,rv,p,hz):=I.tuple hq;let(f0,f1,f2,f3,f4,f5):=hf it ();have hl:=rv.length;show wpAny_pyNext_tuple_end (I.ok.hd hc) st (show s.heap.IsTuple a a1.toArray from p) (by simp;lia) λh' eb=>(rfl,I.turned (t':=s.toks) (λb o hb e=>eb b o hb e) f0 f1 f3 f4 f5)
 self:=λq q q q q st h=>wpAny_pyIter_tupleiter st h
theorem ziM{K:aO}(it)(lo)(n):Turn P w K tg (C3 lo n) [it] it (λi h=>IsRangeIter h it (lo+(i:Nat)*1) ((n:Int)-(i:Nat)) 1) where
 mem:=by simp
 obj:=λi h st b hb=>by
  have e:b=it:= ~~~hb
  subst e;show(_,st,λv z=>by have z':Data.fields _=Data.cell v:=z;cases z')
 keep:=λi h h' st k=>k it () _ st
 item:=by intro X J hw O hc i pins s U H E I hf st Y;subst J hw O;let(Z,f1,f2,f3,f4,f5):=hf it ();have W:=Walks.range (prog:=X.prog) (w:=X.w) (I.ok.hd hc) it lo 1 n;show W.item i s _ _ Y st λv h' tk hv a4 kk=>?_;let(t,rfl):=hv;have I1:Inv X pins U H {s with heap:=h',toks:=tk}:=I.turned (λb o hb e=>kk b o (~~~hb) e) Z f1 f3 f4 f5;show(_,rfl,uS (s:={s with heap:=h',toks:=tk}) (n:="range_iterator") a4 rfl rfl () (.int (lo+i),H,I1,(t,?_),(rfl,rfl),a4,λb hb=>(hf b hb).1));rw[Int.mul_one]
 done:=by intro X J hw O hc i pins s U H E I hf st Y;subst J hw O;let(Z,f1,f2,f3,f4,f5):=hf it ();show wpAny_pyNext_range_end (I.ok.hd hc) st (by have:n<=i:=Y;lia) λh' eb=>(rfl,I.turned (t':=s.toks) (λb o hb e=>eb b o hb e) Z f1 f3 f4 f5)
 self:=λq q q q q st h=>wpAny_pyIter_rangeiter st h
section
variable{X:Cx}{tg:bE}
theorem iS{lo B:Int}{t u v:l0}{O:Nat}(I:Inv X j J H s)(S : -(2^62)<=lo)(U:lo<2^62)(W : -(2^62)<=B)(Y:B<2^62)
 (q:R (C3 lo (B-lo).toNat) H):⇑X (zv (.ref ↥s)) (Yn X j J tg R) E {s with heap:=s.heap.push {cls:=.type "range",data:=.fields #[.int lo t,.int B u,.int 1 v]},toks:=O}:=by
 show wpAny_pyIter_range (IsRange.new ..) (small_one S U W Y) ?_;have z:Inv X j J H {s with heap:=s.heap.push {cls:=.type "range",data:=.fields #[.int lo t,.int B u,.int 1 v]},toks:=O}:=I.kept λb o e=>cW _ e;show(_,_,_,_,H,rfl,
  z.kept λb o e=>cW _ e,ziM _ lo _,?_,λb f=>?_,q)
 .have a:lo+((0:Nat))*1=lo:=by simp
  have d:(((B-lo).toNat:Nat))-((0:Nat))=Builtin.Range.rangeSize lo B 1:=by rw[rangeSize_one];lia
  rw[a,d];show f9 _ rfl
 .have e:b=(s.heap.push {cls:=.type "range",data:=.fields #[.int lo t,.int B u,.int 1 v]}).objs.size:= ~~~f
  subst e;show z.oC (cV _)<|z.bQ.fresh<|cV _
def Sr(e:TA):TI:=λd H R=>e d H λb a=>∃j,b=[.int j]/\ -(2^62)<=j/\j<2^62/\R (C3 0 j.toNat) a
def Sq(e:TA):TI:=λd H R=>e d H λb a=>∃i j,b=[.int i,.int j]/\(-(2^62)<=i/\i<2^62/\ -(2^62)<=j/\j<2^62)/\R (C3 i (j-i).toNat) a
theorem zkA(J:Gl X "range")(U:X.mg "range" = af)(S:PA X [a] B)(hs:ck [a] ⋯=[(aF,bH a ⋯)]:=by rfl):PI X tg (.Call (.Name "range" p) [a] [] pos) (Sr B):=by
 intro b s g H R I h;show uh<|xo I J U boot_range<|pP (cy (S pos b s g H _ I h) λl k O=>?_) hs rfl;let(m,i,Y,d,z):=O;let(j,e,z,Z,q):=z;subst e;cases d with
 |cons r f=>
  cases f;let(t,rfl):=r;show call_range_1 (iS Y () () z Z<|by simpa using q)
theorem zkz(Y:Gl X "range")(S:X.mg "range" = af)(B:PA X [a,b] ta)(hs:ck [a,b] ⋯=[(aF,bH a ⋯),(aF,bH b ⋯)]:=by rfl)(O:ck [b] ⋯=[(aF,bH b ⋯)]:=by rfl):
 PI X tg (.Call (.Name "range" p) [a,b] [] pos) (Sq ta):=by
 intro d s u H R I h;show uh (xo I Y S boot_range<|pP (cy (B pos d s u H _ I h) λA x Z=>?_) (by rw[hs,O])<|by rw[O];rfl);let(C,w,f,o,z):=Z;let(i,j,e,(z,g,k,l),q):=z;subst e;cases o with
 | cons r J=>
  cases J with
  |cons m J=>
   cases J;let(t,rfl):=r;let(y,rfl):=m;show call_range_2<|iS f z g k l q
def UV(B:TI)(g:TG)(j:TS):TS:=λD a H=>B a H λJ f=>∃W:Nat->Nat->St->Hp->Prop,(∃m,W 0 m a f)/\∀i m a H,W i m a H->
 (J.stop i H/\D.nx a H)\/(J.go i H/\∃N,(∀d b,N d b->∃e,e<m/\W (i+1) e d b)/\∀x b,J.nT i H x b->g x a b λz h=>j {D with nx:=N,ct:=N,bk:=D.nx} z h)
def sV(fp:zn ak)(h:bN):zn (ak×e9):=fp.filterMap λb=>(h.get? b).map λo=>(b,o)
theorem yp(j:b∈fp)(e:h.get? b=aa o):(b,o)∈sV fp h:=Ur.mpr (b,j,by rw[e];rfl)
theorem zlg(j:p∈sV fp h):p.1∈fp/\h.get? p.1=aa p.2:=by
 let(b,a,e):=Ur.mp j;cases q:h.get? b with
 |none=>grind
 |some o=>
  grind
theorem Inv.pinned(I:Inv X pins U H s)(j:∀b∈fp,XT X pins H b)(J:∀b∈fp,∃o,s.heap.get? b=aa o/\∀v,o.data ≠ .cell v):Inv X (pins++sV fp s.heap) U H s:=
 I.L1 λp d=>(l9.mp d).elim (λz=>I.pin p<|ix _ z) λz=>by
  show aU λO=>?_;let(a,e):=zlg z;let(Y,f1,Z,q):=j p.1 a
  grind
theorem Inv.A5(I:Inv X (pins++pl) U H s):Inv X pins U H s:=I.L1 λp a=>I.pin p<|ix _<|_z _ a
theorem iX(B:F5 (aV X.prog X.w) X.A ⋯ X.xe)(hc:X.calm)(hi:PI X tg iter wi)(hg:PG X tg g)(j:gj X body tb)
 (hs:∀x,ij iter ⋯ x=pure x:=by intro _;rfl):PS X (.For tg iter body [] pos) (UV wi g tb):=by
 intro a s U H D I h;show wpAny_For (cy (hi a s U H _ I h) λv s1 h1=>cy h1 λbx s2 h2=>?_) hs;show aU λy=>?_;let(it,G,tn,J,H2,e,I2,T,av,f2,W,(m0,w0),b0):=h2;show y ?_;subst e;have K:∀{p:Hp},(∀b∈G,p b=af)->∀b∈G,XT X a p b:=λhn b j=>(hn b j,(f2 b j).2);show codeAny_forLoop_any (λn s'=>∃i k p,Inv X a k p s'/\tn i s'.heap/\(∀b∈G,p b=af)/\W i n k p) ?_ m0 (0,U,H2,I2,av,λb j=>(f2 b j).1,w0);rintro n s3 ⟨i,l,F,S,σ,an,w3⟩;rcases b0 i n l F w3 with⟨E,qn⟩|⟨go,N,hN,step⟩
 .refine Oh B (cy (T.done X rfl rfl rfl hc i a s3 l F X.xe S (K an) σ E) λr s4 t=>?_)
  let(M,I4):=t;subst M;show B5 (l,F,I4,qn)
 .refine Oh B (cy (T.item X rfl rfl rfl hc i a s3 l F X.xe S (K an) σ go) λr s4 t=>?_)
  let(u,M,h4):=t;subst M;show Oh B<|cy h4 λq s5 t=>?_;show aU λy=>?_;let(x,R,I5,r5,y5,L,bb):=t;show y ?_;have bd:=I5.pinned (K bb)<|T.obj _ _ L;show Oh B<|cy (hg _ s5 l R x u _ bd r5<|step x R y5) λq s6 t=>?_;show aU λy=>?_;let(Q,H6,I6,q6):=t;show y ?_;show Oh B<|cy (j _ s6 Q H6 _ I6 q6) λf P Z=>?_;have again:∀{z:St} {O:Hp},Inv X _ z O P->N z O->∃m,m<n/\∃i k p,Inv X a k p P/\tn i P.heap/\(∀b∈G,p b=af)/\W i m k p:=λ{z O} Y C=>by let(m',hm,w7):=hN z O C;show(m',hm,i+1,z,O,Y.A5,T.keep _ _ _ L λb j o e=>(Y.pin (b,o)<|ix _<|ix _<|yp j e).1,λb j=>?_,w7);let(o,e,d):=T.obj _ _ L b j;show(Y.pin (b,o)<|ix _<|ix _<|yp j e).2.1
  cases f with
  |next=>let(z,O,Y,C):=Z;show again Y C
  |cont=>let(z,O,Y,C):=Z;show again Y C
  |brk=>let(z,O,Y,Z):=Z;show(z,O,Y.A5,Z)
  |ret v=>show aU λy=>?_;let(x7,z,O,Y,r7,Z):=Z;show y ?_;show(x7,z,O,Y.A5,r7,Z)
end
abbrev R2:=V->V->Hp->VK->Prop
def eI(X:Cx)(f:aN->aN->eT aN)(r:R2):Prop:=
 ∀a s b H x y v u Q,Inv X a b H s->RelV x v->RelV y u->r x y H Q->
  ⇑X (f v u) (EP X a b Q) X.xe s
def Pf(X:Cx)(f:aN->eT aN)(r:V->Hp->VK->Prop):Prop:=
 ∀a s b H x v Q,Inv X a b H s->RelV x v->r x H Q->
  ⇑X (f v) (EP X a b Q) X.xe s
def QK(X:Cx)(f:aN)(r:zn V->Hp->VK->Prop):Prop:=
 ∀a s e H d b Q,Inv X a e H s->cM d b->r d H Q->
  ⇑X (call f b) (EP X a e Q) X.xe s
def zax(X:Cx)(r:V->Hp->(Bool->Hp->Prop)->Prop):Prop:=
 ∀a s b H x v Q,Inv X a b H s->RelV x v->r x H Q->
  ⇑X (A4 v) (TP X a b Q) X.xe s
def A3(r:R2)(e j:TE):TE:=λa H Q=>e a H λx b=>j a b λy d=>r x y d Q
def tUn(r:V->Hp->VK->Prop)(e:TE):TE:=λb H Q=>e b H λx a=>r x a Q
def rI(C:Int->Int->Prop)(g:Int->Int->V):R2:=λx y H Q=>∃i j,x=.int i/\y=.int j/\C i j/\Q (g i j) H
def nA(g:Int->Int->V):R2:=λx y H Q=>∃i j,x=.int i/\y=.int j/\Q (g i j) H
def rU(g:Int->V):V->Hp->VK->Prop:=λx H Q=>∃i,x=.int i/\Q (g i) H
section
variable{X:Cx}{a b:bE}{ta tb:TE}{pos:cH}
theorem SN(W:PE X a ta)(hb:PE X b tb){R:V->V->Hp->Prop}(I:Inv X e B H s)
 (h:ta B H λx U=>tb B U λy j=>R x y j)  {f:aN->aN->eT aN}
 (hf:∀v u S x y j,Inv X e B j S->RelV x v->RelV y u->R x y j->⇑X (f v u) Q X.xe S):
 ⇑X (bH a ⋯) (λv J=>⇑X (bH b ⋯) (λu O=>⇑X (f v u) Q X.xe O) X.xe J) X.xe s:=by
 show cy (W e s B H _ I h) λv l z=>?_;let(x,U,Y,i,Z):=z;show cy (hb e l B U _ Y Z) λu S z=>?_;let(y,j,d,k,g):=z;show hf v u S x y j d i k g
theorem Cp{z:Operator}{r:R2}(J:eI X (n9 z) r)(j:PE X a ta)(B:PE X b tb):PE X (.BinOp a z b pos) (A3 r ta tb):=by intro d s g H Q I h;show wpAny_BinOp<|SN j B I h λv u f x y e O Y Z q=>J d f g e x y v u Q O Y Z q
theorem RZ(z:Pf X (unaryOp op) r)(j:PE X a ta):PE X (.UnaryOp op a pos) (tUn r ta):=by intro b s d H Q I h;show UnaryOp_<|cy (j b s d H _ I h) λv g (x,e,J,f,O)=>z b g d e x v Q J f O
theorem L0{g:Int->Int->Int}
 (rule:∀i j t u s Q E,C i j->Q (.int (g i j) s.toks) {s with toks:=s.toks+1}->⇑X (f (.int i t)<|.int j u) Q E s):
 eI X f (rI C λi j=>.int (g i j)):=by
 intro a s e H x y v u Q I z J h;let(i,j,rfl,rfl,b,q):=h;let(t,rfl):=z;let(d,rfl):=J;show rule i j t d s _ _ b (.int<|g i j,H,I.tok _,(_,rfl),q)
theorem TX{g:Int->Int->Int}
 (rule:∀i j t u s Q E,Q (.int (g i j) s.toks) {s with toks:=s.toks+1}->⇑X (f (.int i t)<|.int j u) Q E s):
 eI X f (nA λi j=>.int (g i j)):=by
 intro a s d H x y v u Q I z J h;let(i,j,rfl,rfl,q):=h;let(t,rfl):=z;let(b,rfl):=J;show rule i j t b s _ _ (.int<|g i j,H,I.tok _,(_,rfl),q)
theorem OW{g:Int->Int->Bool}
 (rule:∀i j t u s Q E,Q (.bool<|g i j) s->⇑X (f (.int i t)<|.int j u) Q E s):
 eI X f (nA λi j=>.bl (g i j)):=by
 intro a s d H x y v u Q I z J h;let(i,j,rfl,rfl,q):=h;let(t,rfl):=z;let(b,rfl):=J;show rule i j t b s _ _ (.bl<|g i j,H,I,rfl,q)
def UJ(i j:Int):Prop:=0<j/\j<1073741824
def UI(i j:Int):Prop:=0<=j/\j<=1000000/\i.natAbs<2^64
def wh(i j:Int):Prop:=(-(2^64)<i/\i<2^64)\/(-(2^64)<j/\j<2^64)
theorem wh.ok(h:wh i j):IntMulOk i j:=by
 rcases h with⟨a,b⟩|⟨a,b⟩
 .exact .of_left<|intBits_le_64 a b
 .exact .of_right<|intBits_le_64 a b
theorem zjN:eI X (n9 .Add) (nA λi j=>.int (i+j)):=TX λv v v v v v v q=>add_int q
theorem Nt:eI X (n9 .Sub) (nA λi j=>.int (i-j)):=TX λv v v v v v v q=>sub_int q
theorem zjO:eI X (n9 .Mult) (rI wh λi j=>.int (i*j)):=L0 λv v v v v v v a q=>mul_int q a.ok
theorem Ib:eI X (n9 .FloorDiv) (rI UJ λi j=>.int (i/j)):=L0 λi j v v v v v a q=>by have b:=a.1;have d:=a.2;show floordiv_int () (by rw[Int.fdiv_eq_ediv_of_nonneg i ()];show q)<|.inl<|PyProof.noPylong_small ()
theorem Nw:eI X (n9 .Mod) (rI (λv j=>0<j) λi j=>.int (i%j)):=L0 λi j v v v v v a q=>by have b:=a;show mod_int' () (by rw[Int.fmod_eq_emod_of_nonneg i ()];show q)
theorem Nv:eI X (n9 .Pow) (rI UI λi j=>.int (i^j.toNat)):=L0 λv v v v v v v a q=>pow_int_small a.1 a.2.1 a.2.2 q
theorem unI{g:Int->Int}
 (rule:∀i t s Q E,Q (.int (g i) s.toks) {s with toks:=s.toks+1}->⇑X (f<|.int i t) Q E s):
 Pf X f (rU λi=>.int (g i)):=by
 intro a s b H x v Q I z h;let(i,rfl,q):=h;let(t,rfl):=z;show rule i t s _ _ (.int<|g i,H,I.tok _,(_,rfl),q)
theorem LX:Pf X (unaryOp .USub) (rU λi=>.int (-i)):=unI λv v v v v q=>neg_int q
end
section
variable{X:Cx}{a b c:bE}{ta tb tc:TE}{pos:cH}
theorem FH(I:Inv X pins U H s)(q:Q (.bl k) H)(e:k=k'):EP X pins U Q (.bool k') s:=by subst e;show(.bl k,H,I,rfl,q)
theorem tJ:eI X (h8 .Lt) (nA λi j=>.bl (decide<|i<j)):=OW λv v v v v v v q=>lt_int q
theorem Vo:eI X (h8 .LtE) (nA λi j=>.bl (decide<|i<=j)):=OW λv v v v v v v q=>le_int q
theorem Nx:eI X (h8 .Gt) (nA λi j=>.bl (decide<|j<i)):=OW λv v v v v v v q=>gt_int q
theorem Sa:eI X (h8 .GtE) (nA λi j=>.bl (decide<|j<=i)):=OW λv v v v v v v q=>ge_int q
theorem zkQ:eI X (h8 .In) (λx y H Q=>∃i j,x=.str i/\y=.str j/\Q (.bl<|!(DT j i 0 j.length 1).isEmpty) H):=by intro a s d H x y v u Q I z J h;let(i,j,rfl,rfl,q):=h;let(t,rfl):=z;let(b,rfl):=J;show in_str<|FH I q rfl
theorem tK:eI X (h8 .Is) (λx y H Q=>y=.cI/\Q (.bl<|decide<|x=.cI) H):=by
 intro a s b H x y v u Q I z J h;let(rfl,q):=h;cases J;show is_none_gen<|FH I q ?_;cases x<;>first
  |(cases z;rfl)
  |(let(t,rfl):=z;rfl)
def So:HO->Bool
 |.lst _=>ae
 |.ins _ _ _=>ae
 |_=>aF
theorem yI{a:ak}(I:Inv X j B H s)(h:H a=aa o)(p:So o):∃O,s.heap.get? a=aa O/\O.cls ≠ .type "tuple":=by
 cases o with
 |lst b=>
  let(q,J,n,q,e):pT b<=cP/\∃J n,cM b J/\s.heap.get? a=aa {cls:=.type "list",data:=.seq J.toArray n}:=I.bQ a _ h;show(_,e,(by change sA "list" ≠ .type "tuple";decide +kernel))
 |ins C d fs=>
  have x:=I.bQ a _ h;let(q,q,q,e,q):=x;show(_,e,(by change i3 C ≠ .type "tuple";show λz=>by cases z))
 |_=>show absurd (show aF from p) i4
theorem eI.or(h:eI X f r)(h':eI X f r'):eI X f (λx y H Q=>r x y H Q\/r' x y H Q):=by
 intro a s b H x y v u Q I z J q;rcases q with q|q
 .exact h a s b H x y v u Q I z J q
 .exact h' a s b H x y v u Q I z J q
theorem yJ(b)(h:op ≠ .In:=by decide)(e:op ≠ .NotIn:=by decide):m3 op b=aF:=by
 have a:(op==CmpOp.In)=aF:=()
 have d:(op==CmpOp.NotIn)=aF:=()
 cases b<;>simp[m3,a,d]
theorem QZ(J:eI X (h8 z) r)(j:PE X a ta)(B:PE X b tb)(S:m3 z b=aF):PE X (.Compare a [z] [b] pos) (A3 r ta tb):=by intro d s g H Q I h;show wpAny_Compare1 (SN j B I h λv u f x y e O Y Z q=>J d f g e x y v u Q O Y Z q) S
def GP(t:TE):TT:=λb H Q=>t b H λx a=>∃k,x=.bl k/\Q k a
theorem w5(J:eI X (h8 op) r)(B:PE X a ta)(S:PE X b tb)(U:m3 op b=aF):PT X (.Compare a [op] [b] pos) (GP<|A3 r ta tb):=by intro d s e H Q I h;show zlF (cy (B d s e H _ I h) ?_) U;rintro v w ⟨x,f,O,o,Y⟩;show cy (S d w e f _ O Y) ?_;rintro u A ⟨y,g,Z,p,l⟩;show cy (J d A e g x y v u _ Z o p l) ?_;rintro c C ⟨z,i,j,t,k,rfl,m⟩;cases t;show sr (i,j,m)
def EO(r e:R2)(ta tb tc:TE):TE:=λa H Q=>ta a H λx b=>tb a b λy d=>r x y d λz I=>∃k,z=.bl k/\
 (if k then tc a I λf J=>e y f J Q else Q (.bl aF) I)
theorem Cs(Z:eI X (h8 op) r)(B:eI X (h8 Dq) r')(S:PE X a ta)(U:PE X b tb)(W:PE X c tc)
 (hm:PZ [op,Dq] [b,c]=aF:=by with_unfolding_all rfl):PE X (.Compare a [op,Dq] [b,c] pos) (EO r r' ta tb tc):=by
 intro e s f H Q I h;show Compare_chain (cy (S e s f H _ I h) ?_) hm;rintro v G ⟨x,i,m,C,t⟩;show chain_link<|cy (U e G f i _ m t) ?_;rintro u K ⟨y,j,o,g,w⟩;show cy (Z e K f j x y v u _ o C g w) ?_;rintro d L ⟨z,J,O,E,k,rfl,Y⟩;cases E;show sr ?_;cases k with
 |false=>show ite_ff (.bl aF,J,O,rfl,Y)
 |true=>show ite_tt<|chain_last<|cy (W e L f J _ O Y) λN M (P,l,p,F,A)=>B e M f l y P u N Q p g F A
theorem Cc(ho:eI X (h8 J) r)(S:eI X (h8 O) j)(U:PE X a ta)(W:PE X b tb)(hc:PE X c tc)
 (hm:PZ [J,O] [b,c]=aF:=by with_unfolding_all rfl):PT X (.Compare a [J,O] [b,c] pos) (GP<|EO r j ta tb tc):=by
 intro e s f H Q I h;show isTrue_chain (cy (U e s f H _ I h) ?_) hm;rintro v s1 ⟨x,l,t,N,G⟩;show test_link<|cy (W e s1 f l _ t G) ?_;rintro u s2 ⟨y,m,w,i,K⟩;show cy (ho e s2 f m x y v u _ w N i K) ?_;rintro d s3 ⟨z,Y,Z,P,k,rfl,g⟩;cases P;show sr ?_;cases k with
 |false=>
  let(k',C,F):=g;cases C;show ite_ff (Y,Z,F)
 |true=>
  show ite_tt<|test_last<|cy (hc e s3 f Y _ Z g) λw' s4 (z',o,A,R,L)=>cy (S e s4 f o y z' u w' _ A i R L) λd' s5 (z2,p,B,T,k2,E,M)=>?_;subst E;cases T;show sr (p,B,M)
def UD(K:aO)(x:V)(H:Hp)(k:Bool):Prop:=
 match x with
 |.cI=>k=aF
 |.bl b=>k=b
 |.int i=>k=(i != 0)
 |.str y=>y.length<=cP/\k=((y.length:Int) != 0)
 |.yr y=>y.size<=cP/\k=((y.size:Int) != 0)
 |.ref p=>(∃d,dY K H p d/\k = !d.isEmpty)\/(∃d,ej K H p d/\k = !d.isEmpty)\/∃a,H p=aa (.dK a)/\k = !a.isEmpty
 |_=>False
theorem zjs(r:KV gq vs):(!vs.isEmpty) = !gq.isEmpty:=by cases r<;>rfl
theorem Wa(r:cM xs its):(!its.toArray.isEmpty) = !xs.isEmpty:=by cases r<;>simp
theorem Yz:(cP:Nat)<2^63:=by rw[mv];decide
theorem Md:zax X (λx H Q=>∃k,UD X.K x H k/\Q k H):=by
 intro d s B H x v Q I J h;let(k,e,q):=h;have u:=Yz;have w:=mv;cases x with
 |cI=>
  cases J;have z:=e;subst z;show truthy_none (H,I,q)
 |bl b=>
  cases J;have z:=e;subst z;show sr (H,I,q)
 |int i=>
  let(t,rfl):=J;have z:=e;subst z;show PySem.P.truthy_int (H,I,q)
 |str y=>
  let(t,rfl):=J;let(j,z):_/\_:=e;subst z;show PySem.P.truthy_str () (H,I.tok _,q)
 |yr y=>
  let(t,rfl):=J;let(j,z):_/\_:=e;subst z;show PySem.W.truthy_bytes () (H,I.tok _,q)
 | ref p=>
  cases J;have z:=e;rcases z with⟨o,O,z⟩|⟨o,O,z⟩|⟨l,O,z⟩
  .subst z
   let(f,r,Y,Z):=I.list O;have a:=r.length;show wpAny_truthy_list Y.isList (by simp?[eW];lia) (H,I.tok _,by rw[Wa r];show q)
  .subst z
   let(f,r,Y,Z):=I.tuple O;have a:=r.length;show truthy_tuple Y (by simp?[eW];lia) (H,I.tok _,by rw[Wa r];show q)
  .subst z
   let(Z,g,A,r,m):_/\_:=I.bQ p _ O;have a:=Paired.length r;show wpAny_truthy_dict g m () (H,I.tok _,by rw[zjs r];show q)
 |_=>show(e).elim
theorem Cb(j:PE X a ta)(he:∀z,tu a ⋯ z=(do let v<-z;oX a.pos;ml [v] (A4 v))):
 PT X a (λe H Q=>ta e H λx H'=>∃k,UD X.K x H' k/\Q k H'):=by
 intro b s e H Q I h;show isTrue_plain (cy (j b s e H _ I h) λv g (x,d,J,f,O)=>Md b g e d x v Q J f O)<|he _
theorem zi8:eI X (n9 .Add) (λx y H Q=>∃i j,x=.str i/\y=.str j/\i.length+j.length<=cP/\Q (.str<|i++j) H):=by intro a s e H x y v u Q I z J h;let(i,j,rfl,rfl,O,q):=h;let(t,rfl):=z;let(b,rfl):=J;show add_str (λb d=>(.str<|i++j,H,I.tok _,(_,rfl),q)) O
theorem kg(r:cM [x] us):∃u,us=[u]/\RelV x u:=by
 cases r with
 |cons a b=>cases b;show(_,rfl,a)
theorem LU(r:cM [x,y] us):∃u w',us=[u,w']/\RelV x u/\RelV y w':=by
 cases r with
 |cons a b=>
  cases b with
  |cons z I=>cases I;show(_,_,rfl,a,z)
theorem Ay(e:X.calm):QK X (.builtin "min") (λxs H Q=>∃i j,xs=[.int i,.int j]/\Q (.int (if j<i then j else i)) H):=by
 intro a s m H xs g Q I r h;let(i,j,rfl,q):=h;let(u,l,rfl,(t,rfl),(d,rfl)):=LU r;show min_two_ints (I.ok.hd e) λb f k=>(_,H,I.kept k,?_,q);by_cases z:j<i
 .rw[DJ z,DJ z];show(_,rfl)
 .rw[DY z,DY z];show(_,rfl)
theorem AA:QK X (.type "int") (λxs H Q=>(∃i,xs=[.int i]/\Q (.int i) H)\/∃k,xs=[.bl k]/\Q (.int (if k then 1 else 0)) H):=by
 intro a s e H xs d Q I r h;rcases h with⟨i,rfl,q⟩|⟨k,rfl,q⟩
 .let(u,rfl,t,rfl):=kg r
  show call_int_int (.int i,H,I,(_,rfl),q)
 .let(u,rfl,b):=kg r
  cases b;show call_int_bool (.int _,H,I.tok _,(_,rfl),q)
theorem XQ:QK X (.type "str") (λxs H Q=>∃i,xs=[.int i]/\i.natAbs.log2<1920/\Q (.str (toString i)) H):=by intro a s d H xs b Q I r h;let(i,rfl,z,q):=h;let(u,rfl,t,rfl):=kg r;show PySem.P.str_of_int z (.str _,H,I.tok _,(_,rfl),q)
end
structure ur(h:bN)(x dx C:ak)(mA:DZ):Prop where
 obj:h.get? x=aa (D3 C dx)
 ns:h.Ns1 dx mA
 ne:dx≠x
set_option tactic.hygienic true in
theorem zlp{h:bN}(n:h.Ns1 j B):∃od,h.get? j=aa od/\∀name,Tq name od=aa (B name):=by
 let(o,b,g,I,d,J,v,f):=n;show(o,I,λname=>?_);have e:=f name;erw[nsFind,findBy]at e;rw[<-Array.find?_toList]at e;erw[Tq];rw[d];dsimp only;split
 .rename_i y q
  rw[q]at e;show congrArg aa e
 .rename_i q
  rw[q]at e;have a:b.toList.any (·.refKey)=aF:=by rw[E3];intro y O;let(z,t,Y):=J y<|Array.mem_toList_iff.mp O;simp[DictEntry.refKey,Y]
  grind
theorem ur.look(I:ur h x dx C mA):∃od,PySem.W.InstAt h x (D3 C dx) C (aa od)/\∀name,Tq name od=aa (mA name):=
 let (od,z,J):=zlp I.ns
 (od,(I.obj,rfl,rfl,z),J)
section
variable{prog:cQ}{w:cN}{A:ec}{E:EQ}{s:bB}{K:aO}{x dx C f:ak}{mA:DZ}{name:Str}{v:aN}
theorem IH(X:K.In s.heap)(I:ur s.heap x dx C mA)(z:E6 K C name)(O:N0 K C)
 (e:g9 K (.ref C) name=aa af) (Y:mA name=aa v) (Z:PySem.W.handedIn v) (h:Q v {s with toks:=s.toks+1}):
 wpAny (aV prog w) A (Ht (.ref x) name expr) Q E s:=by
 let(b,J,a):=I.look;show PySem.W.get_value X J (_x z).1 (PySem.W.findObj_own O e rfl<|by rw[a,Y]) Z h
theorem Ea(X:K.In s.heap)(I:ur s.heap x dx C mA)(z:E6 K C name)
 (e:g9 K (.ref C) name=aa (aa (.ref f))) (O:FG K (.ref f)) (Y:mA name=af) (h:Q (.ref f,[.ref x]) s):
 wpAny (aV prog w) A (Dl (.ref x) name pl) Q E s:=by
 let(a,J,Z):=I.look;show PySem.W.method_fn X J (_x z).1 (_x z).2 e (beq_iff_eq.mp O) (by change(Tq name a).map (·.isSome)=aa aF;rw[Z,Y];rfl) h
theorem Hd(X:K.In s.heap)(I:ur s.heap x dx C mA)
 (hs:g9 K (.ref C) "__setattr__" = aa (aa (.builtin "object.__setattr__"))) (j:Up K C) (Y:PySem.W.takerIn K C name=aa af) (Z:N0 K C)
 (B:FI mA ns) (hsz:pT ns<=cP)
 (h:∀h',ur h' x dx C (λy=>if y=name then aa v else mA y)->pQ dx s.heap h'->Q ⟨⟩ {s with heap:=h',toks:=s.toks+2}):
 wpAny (aV prog w) A (R6 (.ref x) name v) Q E s:=by
 let(p,J,o):=I.look;show PySem.W.set_plain X J hs<|PySem.W.osa_open X J j Y λb=>?_;let(m,g,a):=_n Z;have i:=I.obj;show aL<|bW<|aL<|aL<|Ux i<|aL<|t6.here (PySem.W.looks_clsIn X g) ?_;rw[a];show bW<|aL<|bW<|aL ?_;show wpAny_nsSet1 I.ns λh' z O=>?_;let(oD,k,l,d,e,f):=z.count<|FI.cons name v B;show aL<|wpAny_lookBehind d (by rw[e];show pastItsLine_dict<|et f<|by rw[ng];lia) ?_;show bW<|h _ ((O.2 _<|dh I.ne).trans I.obj,z,I.ne) O
theorem CJ(X:K.In s.heap)(B:PySem.W.makesIn K C)
 (j:g9 K (.ref C) "__init__" = aa (aa (.ref f))) (e:p9 K (.ref f)=aa (.type "function"))
 (h:codeAny (aV prog w) (A.under (.builtin "type.__call__" (.ref C::vs,kw))) (.call (.ref f) (.ref (↥s+1)::vs,kw)) (PySem.W.InitBack (↥s+1) R)
   {s with heap:=(s.heap.push E1).push (D3 C ↥s)}):
 codeAny (aV prog w) A (.call (.ref C) (vs,kw)) R s:=by
 let(z,g,d,t,os):=s;show PySem.W.make_core (PySem.W.makes_of X B) (P' X j) (λa=>PySem.W.bind_fn X a e) (.inl rfl) h
end
def fj(f:Str)(v:V):zn (Str×V)->zn (Str×V)
 |[]=>[(f,v)]
 |(g,x)::r=>if g=f then (g,v)::r else (g,x)::fj f v r
theorem Jp(f g)(v):∀fs,(fj f v fs).lookup g=if g=f then aa v else fs.lookup g
 | []=>by
  change B7 g [(f,v)]=_;by_cases h:g=f
  .have a:=beq_iff_eq.mpr h
   simp?[B7,a,DJ h]
  .have a:=beq_eq_false_iff_ne.mpr h
   simp?[B7,a,DY h]
 |(k,x)::r=>by
  have z:=Jp f g v r;rw[show fj f v _=(if k=f then (k,v)::r else (k,x)::fj f v r)from rfl]
  grind
theorem YD(f)(v):∀fs,f∈(fj f v fs).map (·.1)/\∀g,g∈fs.map (·.1)->g∈(fj f v fs).map (·.1)
 |[]=>(by simp[fj],λg h=>by simp at h)
 |(k,x)::r=>by
  let(z,I):=YD f v r;rw[show fj f v _=(if k=f then (k,v)::r else (k,x)::fj f v r)from rfl]
  grind
theorem YB(f)(v):∀fs,(fj f v fs).length<=pT fs+1
 |[]=>by simp[fj]
 |(k,x)::r=>by
  have I:=YB f v r;rw[show fj f v _=(if k=f then (k,v)::r else (k,x)::fj f v r)from rfl];by_cases z:k=f
  .rw[DJ z,ng,ng];lia
  .rw[DY z,ng,ng];lia
theorem nt.some_of(r:nt (aa v) o):∃u,o=aa u/\RelV v u:=by
 cases o with
 |none=>show(r).elim
 |some u=>show(u,rfl,r)
theorem nt.none_of(r:nt af o):o=af:=by
 cases o with
 |none=>rfl
 |some u=>show(r).elim
theorem zk8(r:RelV v u):PySem.W.handedIn u:=by
 cases v with
 |cI=>cases r;rfl
 |bl b=>cases r;rfl
 |int i=>let(t,e):=(r);cases e;rfl
 |str x=>let(t,e):=(r);cases e;rfl
 |yr b=>let(t,e):=(r);cases e;rfl
 |uW b=>let(t,e):=(r);cases e;rfl
 |ref a=>cases r;rfl
 |ty n=>cases r;rfl
section
variable{P:cQ}{w:cN}{H:Hp}{h:bN}{a C dx:ak}{fs:zn (Str×V)}
theorem YG(j:eX P w H h)(e:H a=aa (.ins C dx fs)):∃mA,ur h a dx C mA/\(∀f,nt (fs.lookup f)<|mA f)/\FI mA (fs.map (·.1))/\(pT fs)<=1000/\H dx=aa (.own a):=by show aU λI=>?_;let(d,z,b,J,mA,n,r,q):=(j a _ e);show I ?_;show(mA,(J,n,b),r,q,z,d)
end
structure oO(K:aO)(C:ak):Prop where
 zka:E6 K C oM=ae
 hd:N0 K C=ae
 po:Up K C=ae
 zkB:g9 K (.ref C) "__setattr__" = aa (aa (.builtin "object.__setattr__"))
theorem oO.get{K:aO}(c:oO K C)(f):E6 K C f:=c.zka
def uq(K:aO)(C:ak)(f:Str):Prop:=g9 K (.ref C) f=aa af
theorem uq.zkW{K:aO}(n:uq K C f):PySem.W.takerIn K C f=aa af:=by erw[PySem.W.takerIn];rw[n];rfl
structure C5(K:aO)(C:ak)(m:Str)(f:ak):Prop where
 at_:g9 K (.ref C) m=aa (aa (.ref f))
 fn:FG K (.ref f)=ae
 kp:mV K (.ref f)=ae
section
variable{X:Cx}{pins:TW}{U:St}{H:Hp}{s:bB}{a C dx:ak}{fs:zn (Str×V)}{f:Str}{v:V}{A:ec}{E:EQ}
theorem zjy(I:Inv X pins U H s)(e:H a=aa (.ins C dx fs))(c:oO X.K C)(n:uq X.K C f)(l:fs.lookup f=aa v)
 (h:∀u j,Inv X pins U H j->RelV v u->Q u j):wpAny (aV X.prog X.w) A (Ht (.ref a) f b) Q E s:=by
 let(d,O,r,q,q,q):=YG I.bQ e;let(u,J,z):=nt.some_of (by rw[<-l];show r f);show IH I.df O (c.get f) c.hd n J (zk8 z)<|h u _ (I.tok _) z
theorem Wd(I:Inv X pins U H s)(e:H a=aa (.ins C dx fs))(c:oO X.K C)(k:C5 X.K C m g)(l:fs.lookup m=af)
 (h:Q (.ref g,[.ref a]) s):wpAny (aV X.prog X.w) A (Dl (.ref a) m pl) Q E s:=by
 let(d,O,r,q,q,q):=YG I.bQ e;have b:=nt.none_of (by rw[<-l];show r m);show Ea I.df O (c.get m) k.at_ k.fn b h
theorem zjl(I:Inv X pins U H s)(e:H a=aa (.ins C dx fs))(c:oO X.K C)(n:uq X.K C f)(B:pT fs<1000)(Z:RelV y u)
 (h:∀j,Inv X pins U (upd H a<|.ins C dx<|fj f y fs) j->Q ⟨⟩ j):wpAny (aV X.prog X.w) A (R6 (.ref a) f u) Q E s:=by
 let(F,O,r,d,v,Y):=YG I.bQ e;have t:(fs.map (·.1)).length<=cP:=by rw[f7,mv];lia
 show Hd I.df O c.zkB c.po n.zkW c.hd d t λk J x=>h _ ?_;have m:∃o,k.get? dx=aa o:=let (o,_,_,i,_):=J.ns;(o,i);show I.write (by rw[e];show kA) (.inr Y) (λb q l z=>(x.2 b l).trans z) m ?_;show(by rw[zC O.ne];show Y,?_,O.ne,J.obj,_,J.ns,λg=>?_,λg p=>?_)
 .have:=YB f y fs;lia
 .rw[Jp]
  by_cases q:g=f
  .rw[DJ q,DJ q];show Z
  .rw[DY q,DY q];show r g
 .by_cases q:g=f
  .rw[q];show(YD f y fs).1
  .refine(YD f y fs).2 g (d g λz=>p ?_)
   lia
theorem Inv.made(I:Inv X pins U H s):Inv X pins U (upd (upd H ↥s<|.own<|↥s+1) (↥s+1)<|.ins C ↥s [])
 {s with heap:=(s.heap.push E1).push (D3 C ↥s)}:=by
 have a:_=aa E1:=f9 s.heap rfl;have f:=by
  have:=f9 (s.heap.push E1) (o:=D3 C ↥s) rfl
  rwa [l6]at this
 have z:(s.heap.push E1).Ns _ _:=(E1,#[],_,a,rfl,(λe g=>absurd g ()),λv=>rfl);have J:=I.laid (o:=.own (↥s+1)) (t':=s.toks) (λb u q=>cW _ q) (cV _) (_,a);show J.laid (λb u q=>cW _ q) (O0<|l6 _ _) ?_;have d:_≠↥s+1:=eS<|oY _;show(by rw[zC d,zB],g8 _,d,f,λv=>af,(Heap.Ns1.of_empty z).at λo q=>cW _ q,λv=>kA,λy O=>absurd rfl O)
theorem AI(j:ri e f env (bH e env)=bH e env)
 (h:wpAny (aV prog w) A (bH e env) (λo z=>wpAny (aV prog w) A (Ht o f ae) Q E z) E s):wpAny (aV prog w) A (bH (.Attribute e f pos) env) Q E s:=
 Attribute_any_ h (by simp?[arm_eval_Attribute,j])
end
def TK(K:aO)(e:TE)(f:Str):TE:=λg H Q=>e g H λx b=>∃a C d fs v,x=.ref a/\b a=aa (.ins C d fs)/\oO K C/\uq K C f/\fs.lookup f=aa v/\Q v b
def RJ(K:aO)(j z:TE)(f:Str):TS:=λD b H=>z b H λy g=>j b g λx d=>∃a C e fs,x=.ref a/\d a=aa (.ins C e fs)/\oO K C/\uq K C f/\(pT fs)<1000/\
 D.nx b (upd d a<|.ins C e<|fj f y fs)
section
variable{X:Cx}{o e value:bE}{f:Str}{pos pos':cH}{ta tv:TE}
theorem Yc(B:PE X e ta)(j:ri e f ⋯ (bH e ⋯)=bH e ⋯):PE X (.Attribute e f pos) (TK X.K ta f):=by intro b s m H Q I h;show AI j<|cy (B b s m H _ I h) λu p z=>?_;show aU λJ=>?_;let(x,d,O,Y,a,C,o,fs,v,i,Z,c,n,l,q):=z;subst i;obtain rfl:u=i3 a:=Y;show J ?_;show zjy O Z c n l λt r g k=>(v,d,g,k,q)
theorem Fg(j:PE X o ta)(z:PE X value tv)(hs:hU value (aa (.Attribute o f pos')) pos.line ⋯=pure aF):PS X (.Assign [.Attribute o f pos'] value pos) (RJ X.K ta tv f):=by intro b s d H D I h;show Ta (cy (z b s d H _ I h) ?_) hs;rintro u p ⟨y,e,J,O,q⟩;show cy (j b p d e _ J q) ?_;rintro Y w ⟨x,r,Z,m,a,C,t,fs,rfl,i,c,n,l,k⟩;obtain rfl:Y=i3 a:=m;show zjl Z i c n l O λA g=>(d,_,g,k)
end
section
variable{X:Cx}{pins:TW}{U:St}{H:Hp}{s:bB}{A:ec}{E:EQ}{Q:EQ}{c:aN}{b:Bool}
inductive n6(K:aO)(H:Hp):V->aN->Prop where
 |cI:n6 K H .cI (.type "NoneType")
 |bl (x:Bool):n6 K H (.bl x) (.type "bool")
 |int (i:Int):n6 K H (.int i) (.type "int")
 |str (x:Str):n6 K H (.str x) (.type "str")
 |uW (x:UInt64):n6 K H (.uW x) (.type "float")
 |lst {a:ak} {xs:List V} (e:H a=aa (.lst xs)):n6 K H (.ref a) (.type "list")
 |m6 {a:ak} {o:e9} {xs:List V} (e:H a=aa (.m6 o (.lst xs))):n6 K H (.ref a) (.type "list")
 |tup {a:ak} {xs:List V} (e:H a=aa (.tup xs)):n6 K H (.ref a) (.type "tuple")
 |dK {a:ak} {gq:List (Key×V)} (e:H a=aa (.dK gq)):n6 K H (.ref a) (.type "dict")
 |dT {a:ak} {gq:List (List Key×V)} (e:H a=aa (.dT gq)):n6 K H (.ref a) (.type "dict")
 |ins {a C dx:ak} {fs:List (Str×V)} (e:H a=aa (.ins C dx fs)) (cl:oO K C) (ha:g9 K (.ref C) "__class__" = aa (aa (.builtin "object.__class__")))
  (hn:NN K (.builtin "object.__class__") "__get__" = aa (aa (.builtin "getset_descriptor.__get__"))) (o_:PySem.W.takesIn K (.builtin "object.__class__")=aa ae)
  (hm:mW K C (.type "object")=aa ae):n6 K H (.ref a) (.ref C)
theorem zk3(I:Inv X pins U H s)(Y:RelV x u)(ty:n6 X.K H x t)(e:nY X.K t c=aa b)(h:∀S,Q (.bool b) {s with toks:=S}):
 wpAny (aV X.prog X.w) A (call (.builtin "isinstance") [u,c]) Q E s:=by
 cases ty with
 |cI=>cases Y;show k6 _I I.df kA e (λz=>nomatch z) h
 |bl y=>cases Y;show k6 _J I.df kA e (λz=>nomatch z) h
 |int i=>let(t,q):=(Y);cases q;show k6 _m I.df kA e (λz=>nomatch z) h
 |str y=>let(t,q):=(Y);cases q;show k6 _l I.df kA e (λz=>nomatch z) h
 |uW y=>let(t,q):=(Y);cases q;show k6 PySem.W.kitx_float I.df kA e (λz=>nomatch z) h
 |@lst a k Z=>
  cases Y;let(v,v,n,v,d):=(I.bQ a _ Z);show k6 Uq I.df (_,d,rfl) e (λz=>nomatch z) h
 |@m6 a N k Z=>
  cases Y;let(v,v,v,n,v,d):=(I.bQ a _ Z);show k6 Uq I.df (_,d,rfl) e (λz=>nomatch z) h
 |@tup a k Z=>
  cases Y;let(v,v,v,p):=(I.bQ a _ Z);let(o,d,f,v):=p;show k6 _A I.df (o,d,(Prod.mk.inj f).1) e (λz=>nomatch z) h
 |@dK a j Z=>
  cases Y;let(v,v,R,v,p):=(I.bQ a _ Z);let(o,r,m,d,f,v):=p;show k6 Ex I.df (o,d,f.1) e (λz=>nomatch z) h
 |@dT a j Z=>
  cases Y;let(v,v,k,v,o,r,m,d,f,v):=(I.bQ a _ Z);show k6 Ex I.df (o,d,f.1) e (λz=>nomatch z) h
 |@ins a C L fs Z l B G g F=>
  cases Y;let(M,O,v):=YG I.bQ Z;let(P,J,v):=O.look;show k6 (PySem.W.kitx_own (l.get _) l.hd B G g F) I.df J e (λz=>nomatch z) h
end
structure gm(k:Nat)(A:ec):Prop where
 hd:A.handled=af
 dp:A.depth+3*k+5<R3
 un:A.units+16*k+200<oR
theorem gm.mono(r:gm k A)(h:j<=k):gm j A:=(r.hd,by have:=r.dp;lia,by have:=r.un;lia)
theorem gm.deeper(r:gm (k+1) A)(env):gm k (A.deeper env):=
 (r.hd,by have:=r.dp;change A.depth+1+3*k+5<_;lia,by have:=r.un;change A.units+3+16*k+200<_;lia)
theorem gm.in1(r:gm (k+1) A):gm k A.in1:=
 (r.hd,by have:=r.dp;lia,by have:=r.un;lia)
theorem V7{A:ec}:(A.under (.builtin "type.__call__" (.ref C::us,z))).depth=A.depth+1:=by rfl
theorem V6{A:ec}:(A.under (.builtin "type.__call__" (.ref C::us,z))).units=A.units+1:=by rfl
theorem gm.make(r:gm (k+1) A)(C)(us)(z):gm k (A.under (.builtin "type.__call__" (.ref C::us,z))):=
 (r.hd,by have:=r.dp;rw[V7];lia,by have:=r.un;rw[V6];lia)
theorem gm.depth(r:gm k A):A.depth<R3:=by have:=r.dp;lia
def Bc:TA:=λ_ H Q=>Q [] H
def WG(e:TE)(z:TA):TA:=λa H Q=>e a H λx b=>z a b λf d=>Q (x::f) d
section
variable{X:Cx}{e:bE}{es:zn bE}{te:TE}{t:TA}{pos:cH}
theorem jG:PA X [] Bc:=λq q q q H Q I h=>sk ([],H,I,.nil,h)
theorem zX(j:PE X e te)(z:PA X es t)(hs:ck (e::es) ⋯=(aF,bH e ⋯)::ck es ⋯:=by rfl):PA X (e::es) (WG te t):=by intro pos a s b H Q I h;rw[hs];show nj<|cy (j a s b H _ I h) λu l J=>?_;let(x,d,O,i,Y):=J;show cy (z pos a l b d _ O Y) λp o (m,f,Z,k,g)=>(x::m,f,Z,.cons i k,g)
def UR(t:TA):TE:=λd H Q=>t d H λb a=>pT b<=cP/\∀p,a p=af->Q (.ref p) (upd a p<|.tup b)
def UU(t:TA):TE:=λd H Q=>t d H λb a=>pT b<=cP/\∀p,a p=af->Q (.ref p) (upd a p<|.lst b)
theorem Nh(h:PA X es t):PE X (.Tuple es x1 pos) (UR t):=by intro a s i H Q I f;show zlA<|cy (h pos a s i H _ I f) λg k (l,j,J,r,z,q)=>(by rw[<-r.length];show z,?_);have d:=J.bQ.fresh<|cV _;show(.ref _,_,J.laid (λb u e=>cW _ e) (cV _) ?_,rfl,q _ d);show(z,g,r,(_,f9 _ rfl,rfl,_,rfl))
theorem Nk(h:PA X es t):PE X (.List es pos) (UU t):=by intro a s i H Q I f;show wpAny_List_spliced<|cy (h pos a s i H _ I f) λg k (l,j,J,r,z,q)=>(by rw[<-r.length];show z,?_);have d:=J.bQ.fresh<|cV _;show(.ref _,_,J.laid (λb u e=>cW _ e) (cV _) ?_,rfl,q _ d);show(z,g,0,r,f9 _ rfl)
end
abbrev Sp:=zn V->Hp->VK->XK->Prop
abbrev oy:=zn eE->Hp->bB->XK->aN->bB->Prop
structure nH(P:cQ)(w:cN)(K:aO)(mg:DZ)(base:bN)(A:ec)(outer:List eE)(s:bB)(H:Hp):Prop where
 frames:A.frames=aa outer
 mod:Mod K mg base
 bs:∀b o,base.get? b=aa o->s.heap.get? b=aa o/\H b=af
 nP:base.objs.size<=↥s
 mc:s.heap.FunFrames base outer
 oh:∀b∈hS outer,H b=af
 bQ:eX P w H s.heap
 bare:oN s.gens
def CE(outer:zn eE)(P:cQ)(w:cN)(H:Hp)(s:bB)(Q:VK)(u:aN)(e:bB):Prop:=
 ∃v a,e.os=s.os/\oN e.gens/\Un (hS outer) [] H a s.heap e.heap/\eX P w a e.heap/\RelV v u/\Q v a
def CR(CX:oy)(outer:zn eE)(P:cQ)(w:cN)(H:Hp)(s:bB)(Q:VK)(E:XK)(r:F6)(j:bB):Prop:=
 match r with
 |.ok (.ret u)=>CE outer P w H s Q u j
 |.ok _=>False
 |.error e=>CX outer H s E e j
structure fh(P:cQ)(w:cN)(K:aO)(mg:DZ)(base:bN)(CX:oy)(k:Nat)(f:ak)(fd:gh)(ps:List Str)(sp:Sp):Prop where
 len:∀vs H Q E,sp vs H Q E->vs.length=ps.length
 run:∀(A:ec) (outer:List eE) (s:bB) (H:Hp) (args:Args) (us:List aN) (vs:List V) (Q:VK) (E:XK),gm k A->↑nH A outer s H->B9 s fd args (ps.zip us)->cM vs us->sp vs H Q E->
  codeAny (aV P w) A (.call (.ref f) args) (CR CX outer P w H s Q E) s
theorem nH.make{K:aO}{outer:zn eE}{s:bB}{H:Hp}(e:nH P w K j base A outer s H)(C)(us)(z):
 nH P w K j base (A.under (.builtin "type.__call__" (.ref C::us,z))) outer s H:=(by first|show e.frames|(simpa[Around.under,Code.envs,Code.isFrame,pushEnvs]using e.frames),e.mod,e.bs,e.nP,e.mc,e.oh,e.bQ,e.bare)
theorem nH.in1{K:aO}{outer:zn eE}{s:bB}{H:Hp}(e:nH P w K j base A outer s H):
 nH P w K j base A.in1 outer s H:=(e.frames,e.mod,e.bs,e.nP,e.mc,e.oh,e.bQ,e.bare)
section
variable{X:Cx}{pins:TW}{U:St}{H:Hp}{s s':bB}
theorem Inv.nR(I:Inv X pins U H s):⇑nH X.A X.stack s H:=
 (I.ok.frames,I.ok.mod,I.bs,et I.ok.nP I.sz,I.stack,I.u4,I.bQ,I.bare)
theorem Inv.after(I:Inv X pins U H s)(h:CE X.stack X.prog X.w H s Q u s'):EP X pins U Q u s':=by let(v,f,os,a,un,e,r,q):=h;let(O,g,d,t,J):=s';obtain rfl:J=s.os:=os;show(v,f,I.call un e a<|λb z=>absurd z (),r,q)
end
def XZ(sp:Sp)(e:zn V)(E:XK)(t:TA):TE:=λd H Q=>t d H λb a=>sp (b++e) a Q E
def Rz(C:ak)(m:Str)(sp:Sp)(e:zn V)(E:XK)(j:TE)(t:TA):TE:=λd H Q=>j d H λx b=>∃a g fs,x=.ref a/\b a=aa (.ins C g fs)/\fs.lookup m=af/\
 t d b λh f=>sp (x::(h++e)) f Q E
def GR(C:ak)(sp:Sp)(e:zn V)(E:XK)(t:TA):TE:=λg H Q=>t g H λf b=>∀x a,b x=af->b a=af->a≠x->
 sp (.ref x::(f++e)) (upd (upd b a<|.own x) x<|.ins C a []) (λv d=>v=.cI/\Q (.ref x) d) E
def Binds(K:aO)(j:gh)(ps:zn Str)(e:zn aN):Prop:=
 ∀(s:bB) (a:zn aN),K.In s.heap->(a++e).length=ps.length->B9 s j (a,[]) (ps.zip<|a++e)
theorem Binds.all{K:aO}(h:∀us,pT us=pT ps->yg e (us,[])=pure (ps.zip us)):Binds K e ps []:=λs us q z=>by rw[vp]at z ⊢;show .of_eq<|h us z
def QC(CX:oy)(X:Cx)(E:XK):Prop:=∀a d H s e b,Inv X a d H s->CX X.stack H s E e b->X.xe e b
section
variable{X:Cx}{CX:oy}{k:Nat}{f C:ak}{fd:gh}{ps:zn Str}{sp:Sp}{nQ:zn V}{ds:zn aN}{E:XK}{x m:Str}{p pos apos:cH}{e o:bE}{es:zn bE}{ta:TE}{t:TA}
theorem si(F:⇑fh CX k f fd ps sp)(z:gm k X.A)(j:Binds X.K fd ps ds)(B:cM nQ ds)(J:QC CX X E)
 (I:Inv X pins U H s) (r:cM vs us) (h:sp (vs++nQ) H Q E):⇑X (call (.ref f) us) (EP X pins U Q) X.xe s:=by
 have b:=r.append B;have O:(us++ds).length=pT ps:=by rw[<-b.length];show F.len _ _ _ _ h
 show o8<|pS (F.run X.A X.stack s H _ (us++ds) (vs++nQ) Q E z I.nR (j s us I.df O) b h) λr g a=>?_;cases r with
 |error e=>show J pins U H s e g I a
 |ok d=>
  cases d with
  |ret u=>show I.after a
  |next=>assumption
  |brk=>assumption
  |cont=>assumption
theorem Yd(F:⇑fh CX k f fd ps sp)(J:gm k X.A)(O:Gl X x)(hm:X.mg x=aa (.ref f))(Y:mV X.K (.ref f))(U:Binds X.K fd ps ds)(W:cM nQ ds)(Z:QC CX X E)
 (S:PA X (e::es) t) (j:(x==("__debug__"))=aF:=by decide) (he:ck (e::es) ⋯=(aF,bH e ⋯)::ck es ⋯:=by rfl) (B:(ft pos (ck es ⋯)).any (·.1)=aF:=by rfl):
 PE X (.Call (.Name x p) (e::es) [] pos) (XZ sp nQ E t):=by
 intro a s b H Q I h;show nW<|xE I O hm ?_ j;show D8 I.ok.mod.oS Y (cy (S pos a s b H _ I h) λi g (l,d,z,r,q)=>(z.df,?_)) he B;show si F J U W Z z r q
theorem Ct(F:⇑fh CX k f fd ps sp)(z:gm k X.A)(J:Gl X x)(S:X.mg x=aa (.ref f))(O:mV X.K (.ref f))(j:Binds X.K fd ps ds)(B:cM nQ ds)(Y:QC CX X E)
 (Z:(x==("__debug__" : Str))=aF:=by decide):PE X (.Call (.Name x p) [] [] pos) (XZ sp nQ E Bc):=by
 intro a s b H Q I h;show nW<|xE I J S ?_ Z;show PySem.W.callWith_K0 I.df O<|si (us:=[]) F z j B Y I .nil h
theorem HW(he:PE X o ta)(c:oO X.K C)(j:C5 X.K C m f)(F:⇑fh CX k f fd ps sp)(Y:gm k X.A)(hb:Binds X.K fd ps ds)(hd:cM nQ ds)(Z:QC CX X E)(U:PA X (e::es) t)
 (B:ck (e::es) ⋯=(aF,bH e ⋯)::ck es ⋯:=by rfl) (S:(ft pos<|starEach es ⋯).any (·.1)=aF:=by rfl)
 (ht:bH (.Call (.Attribute o m apos) (e::es) [] pos) ⋯=(do
   let z<-bH o ⋯
   oX apos.atName
   let (f,first)<-ml [z] (Dl z m pl)
   Pj pos f first (ft pos<|starEach (e::es) ⋯) (pf pos<|keywordEach [] ⋯)):=by rfl):
 PE X (.Call (.Attribute o m apos) (e::es) [] pos) (Rz C m sp nQ E ta t):=by
 intro b s d H Q I h;show PySem.W.methodCall_KW (cy (he b s d H _ I h) λu N y=>?_) ht;show aU λG=>?_;let(x,g,J,M,a,R,fs,p,i,l,q):=y;subst p;obtain rfl:u=i3 a:=M;show G ?_;show Wd J i c j l ?_;show D8 I.ok.mod.oS j.kp (cy (U pos b N d g _ J q) λus T (vs,P,O,r,L)=>(O.df,?_)) B S;show si (vs:=.ref a::vs) F Y hb hd Z O (.cons rfl r) L
structure Mk(K:aO)(C f:ak):Prop where
 makes:PySem.W.makesIn K C=ae
 init:g9 K (.ref C) "__init__" = aa (aa (.ref f))
 fn:FG K (.ref f)=ae
 kp:mV K (.ref C)=ae
theorem BQ(M:Mk X.K C f)(F:⇑fh CX k f fd ps sp)(O:gm (k+1) X.A)(S:Binds X.K fd ps ds)(σ:cM nQ ds)
 (Y:QC CX X E) (I:Inv X pins U H s) (r:cM vs us)
 (h:∀x j,H x=af->H j=af->j≠x->sp (.ref x::(vs++nQ)) (upd (upd H j<|.own x) x<|.ins C j []) (λv B=>v=.cI/\Q (.ref x) B) E):
 ⇑X (call (.ref C) us) (EP X pins U Q) X.xe s:=by
 have a:=h _ _ (I.bQ.fresh<|ua _) (I.bQ.fresh<|cV _)<|eS<|oY _;have z:=Inv.made (C:=C) I;have b:cM (V.ref (↥s+1)::(vs++nQ)) _:=.cons rfl (r.append σ);have Z:=by have e:=b.length;rw[F.len _ _ _ _ a]at e;show e.symm
 show o8 (CJ I.df M.makes M.init (beq_iff_eq.mp M.fn) (pS (F.run _ X.stack _ _ _ _ _ _ E (O.make C us [])
  (z.nR.make C us []) (S _ _ z.df Z) b a) λr p J=>?_))
 cases r with
 |error e=>show Y pins U _ _ e p z J
 | ok l=>
  cases l with
  |ret u=>
   let(v,d,g,o,i,m):=z.after J;subst i;show(o,(V.ref _,d,g,rfl,m))
  |next=>assumption
  |brk=>assumption
  |cont=>assumption
theorem Cq(M:Mk X.K C f)(F:⇑fh CX k f fd ps sp)(z:gm (k+1) X.A)(J:Gl X x)(S:X.mg x=aa (.ref C))(j:Binds X.K fd ps ds)(B:cM nQ ds)(O:QC CX X E)
 (Y:(x==("__debug__"))=aF:=by decide):PE X (.Call (.Name x p) [] [] pos) (GR C sp nQ E Bc):=by
 intro a s b H Q I h;show nW<|xE I J S ?_ Y;show PySem.W.callWith_K0 I.df M.kp<|BQ M F z j B O I .nil h
end
structure wy(N P:List Str)(sc:cS):Prop where
 kind:sc.kind=.function
 co:sc.isCoroutine=aF
 gen:sc.isGenerator=aF
 nd:N.Nodup
 pre:N.take P.length=P
 par:∀x∈P,sc.names.lookup x=aa .local\/sc.names.lookup x=aa .cell
 zjh:∀y∈sc.names,y.2 ≠ .free
theorem dZ{kindOf:Str->xz o9}:∀{binds}{m},(∀v,(x,v)∉binds)->uO kindOf binds m x=m x
 |[],_,_=>rfl
 |(n,v)::r,m,h=>by
  erw[uO];rw[dZ λw a=>h w (eV _ a)];split
  .grind
  .rfl
theorem eB{kindOf:Str->xz o9}:∀{binds}{m},(∀v,(x,v)∉binds)->uN kindOf binds m x=m x
 |[],_,_=>rfl
 |(n,v)::r,m,h=>by
  erw[uN];rw[eB λw a=>h w (eV _ a)];split
  .rfl
  grind
theorem ez{kindOf:Str->xz o9}{x:Str}:∀{P:zn Str} {vs:zn aN} {i:Nat} {m:DZ},P.Nodup->P[i]? = aa x->vs[i]? = aa v->kindOf x=aa .local->
 uO kindOf (P.zip vs) m x=aa v
 |[],_,_,_,_,h,_,_=>by simp at h
 |_::_,[],_,_,_,_,h,_=>by simp at h
 |p::P,w::vs,0,m,nd,h1,h2,hk=>by simp at h1 h2;subst h1;subst h2;change uO kindOf ((p,w)::P.zip vs) m p=_;erw[uO];rw[dZ λv z=>(pY.mp nd).1 (Tr z).1,DJ hk];simp
 |p::P,w::vs,i+1,m,nd,h1,h2,hk=>by erw[uO];show ez (pY.mp nd).2 (~~~h1) (~~~h2) hk
theorem eD{kindOf:Str->xz o9}{x:Str}:∀{P:zn Str} {vs:zn aN} {i:Nat} {m:DZ},P.Nodup->P[i]? = aa x->vs[i]? = aa v->kindOf x≠aa .local->
 uN kindOf (P.zip vs) m x=aa v
 |[],_,_,_,_,h,_,_=>by simp at h
 |_::_,[],_,_,_,_,h,_=>by simp at h
 |p::P,w::vs,0,m,nd,h1,h2,hk=>by simp at h1 h2;subst h1;subst h2;change uN kindOf ((p,w)::P.zip vs) m p=_;erw[uN];rw[eB λv z=>(pY.mp nd).1 (Tr z).1,DY hk];simp
 |p::P,w::vs,i+1,m,nd,h1,h2,hk=>by erw[uN];show eD (pY.mp nd).2 (~~~h1) (~~~h2) hk
def Jc(N:zn Str)(vs:zn V):St:=vs.map aa++cK (N.length-vs.length) af
def Kt(CX:oy)(P:cQ)(w:cN)(K:aO)(mg:DZ)(base:bN)(N:zn Str)(qual:Str)(scope:cS)(f:ak)(cd:aN)(A:ec)(outer:zn eE)(s:bB)(H:Hp)(E:XK):Cx where
 prog:=P
 w:=w
 K:=K
 mg:=mg
 base:=base
 A:=A.deeper<|envOfC qual scope ↥s f cd
 N:=N
 fy:=s
 uj:=H
 env:=y6 qual scope ↥s f cd
 outer:=outer
 stack:=y6 qual scope ↥s f cd::outer
 ex:=[]
 calm:=ae
 fn:=λ_=>ae
 pn:=[]
 xe:=λe s'=>wpAny (aV P w) (A.deeper<|envOfC qual scope ↥s f cd) (zp (y6 qual scope ↥s f cd) e) (λ_ z=>CX outer H s E e z) (λI z=>CX outer H s E I z) s'
theorem mi{e:cS}(h:e.names.lookup x=aa .cell):∃c,(og n e.names []).lookup x=aa c:=by have q:=Mz e.names n [] (.inl h);show u9.mp q
theorem dD{K:aO}{N ps:zn Str}{qual:Str}{scope:cS}{f:ak}{j:aN}{A:ec}{outer:zn eE}{s U:bB}{H:Hp}{E:XK}{us:zn aN}{vs:zn V}
 (S:wy N ps scope) (W:A.handled=af) (I:nH P w K B base A outer s H) (hl:pT vs=pT ps) (r:cM vs us)
 (x:InCallC s ↥s (uO (y6 qual scope ↥s f j).kindOf (ps.zip us) λn=>af) (og (↥s+1) scope.names []) (uN (y6 qual scope ↥s f j).kindOf (ps.zip us) λn=>af) U):
 Inv (Kt CX P w K B base N qual scope f j A outer s H E) [] (Jc N vs) H U:=by
 have F:pT ps<=pT N:=by have:=congrArg pT S.pre;rw[E7]at this;lia
 let(l,L,rfl,Y):=x.done;have O b:b∉(Kt CX P w K B base N qual scope f j A outer s H E).ex:=λz=>absurd (show b∈([])from z) ();show((I.mod,S.kind,rfl,rfl,cV _,λy z c l d=>?_,λy J=>?_,λy c n h=>?_,λn=>W,Around.frames_deeper I.frames,.inr (rfl,rfl),λb z=>absurd z<|O b,I.bs,I.nP,λb n n=>O b,λb z=>absurd z<|O b,I.mc,I.oh),
  rfl,I.bare,Un.kept Y,(_,x.toInCall.ns,λi y v l d G=>?_),λy c h=>(_,x.cell y c h),I.bQ.fresh<|cV _,λy c h=>?_,λp g=>absurd (show p∈([])from g) (),I.bQ.kept Y,?_)
 .exact name_of_addr x.apart (N5 l)<|N5 d
 .have J:=J
  rcases J with J|J
  .exact mi J
  .exact absurd rfl<|S.zjh _<|N5 J
 .exact UB<|x.above y c<|N5 h
 .have m:i<pT vs:=by
   erw[Jc]at d;by_cases m:i<pT vs
   .exact m
   .rw[o3 (~~~m)]at d
    rw[Mr]at d;split at d<;>cases d
  have t:vs[i]? = aa v:=by
   erw[Jc]at d;rw[oH (~~~m),nE]at d;cases e:vs[i]? with
   |none=>rw[e]at d;cases d
   |some a=>rw[e]at d;cases d;rfl
  let(u,Z,C):=r.get t;have g:ps[i]? = aa y:=by rw[<-S.pre,List.getElem?_take_of_lt ()];show l
  have o:ps.Nodup:=by rw[<-S.pre];show S.nd.sublist<|List.take_sublist _ _
  show(u,C,?_);rcases S.par y (oZ g)with k|k
  .exact .inl (k,ez o g Z k)
  .let(c,e):=mi k
   show .inr (.inl k,c,e,?_);have q:=x.cell y c e;rw[eD o g Z (by change scope.names.lookup y≠_;rw[k];decide)]at q;show q
 .exact I.bQ.fresh<|UB<|x.above y c<|N5 h
 .unfold Jc
  change _=pT N;simp?[mK,f7,R_];lia
theorem Ec{K:aO}{k:Nat}{f:ak}{name qual:Str}{Z:Arguments}{B:zn de}{scope:cS}{dV kV U pm j ct oc:aN}{an od:xz ak}
 {tL:Array (xz aN)} {N ps:zn Str} {sp:Sp} (lk:K.lookup f=aa (oc,od,.func<|ox name qual Z B scope dV kV U pm an j ct,tL)) (a5:B4 K j qual) (S:wy N ps scope)
 (len:∀vs H Q E,sp vs H Q E->pT vs=pT ps)
 (a6:∀A outer s H vs Q E,gm k (A.deeper<|envOfC qual scope ↥s f j)->sp vs H Q E->
   ∃t,gj (Kt CX P w K mg base N qual scope f j A outer s H E) B t/\t {nx:=λc H'=>Q .cI H',rt:=Q} (Jc N vs) H):
 fh P w K mg base CX (k+1) f (ox name qual Z B scope dV kV U pm an j ct) ps sp:=by
 show(len,λA outer s H m us vs Q E O z hb r i=>?_);have M:=len _ _ _ _ i;have h:=z.mod.oS.keeps λb o e=>(z.bs b o e).1;have lim:=z.mod.nolimit.keeps λb o e=>(z.bs b o e).1;have C:∀y∈ps.zip us,scope.names.lookup y.1=aa .local\/(scope.names.lookup y.1=aa .cell/\((og (↥s+1) scope.names []).lookup y.1).isSome):=λ(n,v) X=>by
  rcases S.par n (Tr X).1 with q|q
  .exact .inl q
  .exact .inr (q,Mz _ _ _<|.inl q)
 show zhb O.depth (h _ _ lk) rfl S.co S.gen rfl (PySem.W.codeRec_of h a5)<|hb _ _ _ _ ?_;show zlH S.kind C λF L p x=>?_;subst L;show(lim.keeps x.toInCall.keep,codeAny_func ?_);let(t,T,R):=a6 A outer s H vs Q E (O.deeper _) i;have I:Inv (Kt CX P w K mg base N qual scope f j A outer s H E) [] _ H p:=dD S O.hd z M r x;show cT (T [] p _ H _ I R) (λG g d=>?_) λe g d=>d;have l:∀{a}{H'}{v}{u},Inv (Kt CX P w K mg base N qual scope f j A outer s H E) [] a H' g->RelV v u->Q v H'->CE outer P w H s Q u g:=
  λ{a H' v u} J Y q=>(v,H',J.os,J.bare,J.base,J.bQ,Y,q)
 cases G with
 |ret u=>
  let(v,a,H',J,Y,q):=d;show l J Y q
 |next=>
  let(a,H',J,q):=d;show l (v:=V.cI) J rfl q
 |brk=>
  let(c,c,c,q):=d;show o7 q
 |cont=>
  let(c,c,c,q):=d;show o7 q
section
variable{X:Cx}{x:Str}{p pos:cH}{e:bE}{es:zn bE}{t:TA}{id T:String}{r:zn V->Hp->VK->Prop}
def B_(r:zn V->Hp->VK->Prop)(t:TA):TE:=λd H Q=>t d H λb a=>r b a Q
theorem wc(B:QK X (.builtin id) r)(z:Gl X x)(U:X.mg x=af)(J:pg x=aa (.builtin id))(j:PA X (e::es) t)(W:x ≠ "__name__":=by decide)(O:(x==("__debug__"))=aF:=by decide)
 (S:ck (e::es) ⋯=(aF,bH e ⋯)::ck es ⋯:=by rfl) (Y:(ft pos<|starEach es ⋯).any (·.1)=aF:=by rfl):PE X (.Call (.Name x p) (e::es) [] pos) (B_ r t):=by
 intro a s b H Q I h;show nW<|xo I z U J ?_ W O;show M7 (cy (j pos a s b H _ I h) λk i (l,d,Z,g,f)=>B a i b d l k Q Z g f) S Y
theorem vG(B:QK X (.type T) r)(z:Gl X x)(U:X.mg x=af)(J:pg x=aa (.type T))(j:PA X (e::es) t)(W:x ≠ "__name__":=by decide)(O:(x==("__debug__"))=aF:=by decide)
 (S:ck (e::es) ⋯=(aF,bH e ⋯)::ck es ⋯:=by rfl) (Y:(ft pos<|starEach es ⋯).any (·.1)=aF:=by rfl):PE X (.Call (.Name x p) (e::es) [] pos) (B_ r t):=by
 intro a s b H Q I h;show nW<|xo I z U J ?_ W O;show pP (cy (j pos a s b H _ I h) λk i (l,d,Z,g,f)=>B a i b d l k Q Z g f) S Y
end
end L2
namespace HT
open PySem PyProof.Rows
section
variable{prog:cQ}{w:cN}{A:ec}{E:EQ}{s:bB}
theorem SM(S:nL s.heap t vs.toArray)(H:nL s.heap b z.toArray)(O:vs ≠ [])
 (j:z=[]->Q (.ref t) s) (B:z ≠ []->Q (.ref ↥s) {s with heap:=s.heap.push {cls:=.type "tuple",data:=.seq (vs++z).toArray}})
 (hsz:pT vs+pT z<=cP):wpAny (aV prog w) A (n9 .Add (.ref t)<|.ref b) Q E s:=by
 show aU λm=>?_;let((cls,d,data,g),I,k,n,l):=id S;let((o,Y,data2,Z),J,h,f,i):=id H;show m ?_;subst k l h i;have e:vs.toArray++z.toArray=(vs++z).toArray:=by simp
 by_cases a:z=[]
 .exact U6 (_,I,rfl) (_,J,rfl) _Q z_ U_ U' (X_ _ _)
   (tuple_addW1 t b vs.toArray z.toArray n f d Y g Z (~~~O)<|by simp[a]) (I,J,j a)
 .refine U6 (_,I,rfl) (_,J,rfl) _Q z_ U_ U' (X_ _ _)
   (tuple_addW2 t b vs.toArray z.toArray n f d Y g Z (~~~O) (~~~a)<|by assumption) (I,J,?_)
  rw[e];show B a
def aR(n d:Nat):xz Int->Nat
 |none=>d
 |some v=>if v<0 then (v+(n:Int)).toNat else min v.toNat n
theorem Au(v:Int)(n d:Nat):(if v<0 then max (v+n) 0 else min v n)=((aR n d (aa v):Nat)):=by
 change(if v<0 then max (v+n) 0 else min v n)=(((if v<0 then (v+(n:Int)).toNat else min v.toNat n):Nat));by_cases z:v<0
 .simp?[DJ z];lia
 .simp?[DY z];lia
theorem zkb(lo e)(n:Nat):N_ lo e 1 n=(((aR n 0 lo):Int),((aR n n e):Int)):=by
 have a:¬(1<0):=()
 erw[N_];simp?[a,if_false];show Prod.ext ?_ ?_
 .cases lo with
  |none=>rfl
  |some v=>show Au v n 0
 .cases e with
  |none=>rfl
  |some v=>show Au v n n
theorem zi4(i j:Nat):M_ i j 1=j-i:=by
 erw[M_];have a:(1:Int)>0:=()
 simp?[a,if_true,Int.ediv_one];split<;>lia
theorem VQ(p:q5 v o)(h:Q o s):wpAny (aV prog w) A (Builtin.Slice.slicePartIndex v) Q E s:=by
 cases p with
 |none=>show slicePart_none h
 |int i t=>show slicePart_int h
theorem X0{j:ak}{z I:aN}{lo e:xz Int}{n:Nat}{Q:Int×Int×Nat->bB->Prop}(hs:s.heap.IsSliceOf j z I .none)(Y:q5 z lo)(Z:q5 I e)
 (h:Q (((aR n 0 lo:Nat)),1,aR n n e-aR n 0 lo) s):wpAny (aV prog w) A (Builtin.Slice.sliceApplied (.ref j)<|pure n) Q E s:=by
 let(os,J,a,O):=id hs;show aL<|aL<|gv J O (x:=z) rfl<|aL<|gv J O (x:=I) rfl<|aL<|gv J O rfl<|bW ?_;show aL<|slicePart_none ?_;rw[DY ()];show aL<|VQ Y<|aL<|VQ Z<|aL<|bW ?_;change wpAny _ _ (match N_ lo e 1 n with|(lo,e)=>pure (Prod.mk lo (Prod.mk (1:Int) (M_ lo e 1)))) _ _ s;rw[zkb lo e n];change wpAny _ _ (pure _) _ _ s;rw[zi4];show bW h
theorem Ck(xs:Array aN)(i k:Nat):((aT k).filterMap λ(m:Nat)=>xs[(i+(m:Int)*1).toNat]?).toArray=((xs.toList.drop i).take k).toArray:=by
 have e:(λ(m:Nat)=>xs[(i+(m:Int)*1).toNat]?)=λm=>xs[i+m]? :=by
  funext m;have:(i+(m:Int)*1).toNat=i+m:=()
  rw[this]
 rw[e];have:=pick_run xs i k;rw[List.filterMap_map]at this;have a:(_∘_)=λm=>xs[i+m]? :=rfl;rw[a]at this;rw[this]
theorem zjz{e:Array aN}{lo j:xz Int}(z:nL s.heap t e)(hs:s.heap.IsSliceOf B J O .none)(Y:q5 J lo)(Z:q5 O j)
 (H:¬(aR e.size 0 lo=0/\aR e.size e.size j=e.size))
 (h:Q (.ref ↥s) {s with heap:=s.heap.push {cls:=.type "tuple",data:=.seq ((e.toList.drop (aR e.size 0 lo)).take (aR e.size e.size j-aR e.size 0 lo)).toArray}})
 (hsz:e.size<=cP):wpAny (aV prog w) A (rp (.ref t)<|.ref B) Q E s:=by
 have I:=by change((e.toList.drop<|aR e.size 0 lo).take (aR e.size e.size j-aR e.size 0 lo)).toArray.size<=cP;simp?[eW,E7,List.length_drop,t7];show et (_b ..)<|et (Nat.sub_le ..) hsz
 let(os,a,b,g):=id hs;have d:s.TypeIs (.ref B) "slice":=(os,a,b);erw[rp]
 try with_reducible show hG ?_
 first|show aL (bW ?_)|skip
 show aL<|wpAny_sequenceKey z.typeIs () ?_;show aL (se z.typeIs DG
  (om DG z.typeIs entry_tuple_getitem ?_ (zgQ _ _)))
 change wpAny _ _ (Builtin.Tuple.tupleItemsOf (.ref t) >>= _) _ _ s;show aL<|N7 z ?_;show aL<|uf d ?_;rw[DJ ()];show aL<|X0 hs Y Z ?_;have f:¬((((aR e.size 0 lo):Int)==0&&(1:Int)==1&&(aR e.size e.size j-aR e.size 0 lo)==e.size)):=()
 change wpAny _ _ (if _=ae then _ else _) _ _ s;rw[DY f,Ck]
 first
  |show aL<|nq (bW (_,rfl,bW h)) I
  |show aL<|nq (aL<|bW<|bW (_,rfl,bW h)) I
  |show aL<|aL<|nq (bW<|bW (_,rfl,bW h)) I
  |show aL<|aL<|nq (bW (_,rfl,bW h)) I
end
end HT
namespace L2
open PySem PySem.Spec PyProof.Rows
abbrev TO:=St->Hp->(xz Int->Hp->Prop)->Prop
def PO(X:Cx)(e:xz bE)(t:TO):Prop:=
 ∀(a:TW) (s:bB) (b:St) (H:Hp) (Q:xz Int->Hp->Prop),Inv X a b H s->t b H Q->
  ⇑X (evalPart e ⋯) (λu f=>∃o d,Inv X a b d f/\q5 u o/\Q o d) X.xe s
def GQ:TO:=λ_ H Q=>Q af H
def Rw(t:TE):TO:=λb H Q=>t b H λx a=>∃i,x=.int i/\Q (aa i) a
section
variable{X:Cx}{e:bE}{te:TE}{lo hi:xz bE}{tl th:TO}{pos p2:cH}
theorem HK:PO X af GQ:=by intro a s b H Q I h;rw[evalPart_none];show bW (af,H,I,.none,h)
theorem HJ(h:PE X e te):PO X (aa e) (Rw te):=by intro a s g H Q I d;rw[evalPart_some];show cy (h a s g H _ I d) λu j z=>?_;let(x,b,J,f,O):=z;let(i,rfl,q):=O;let(t,rfl):=f;show(aa i,b,J,.int i t,q)
def Dd(X:Cx)(r:V->xz Int->xz Int->Hp->VK->Prop):Prop:=
 ∀a s d H x v z I lo hi b Q,Inv X a d H s->RelV x v->s.heap.IsSliceOf b z I .none->q5 z lo->q5 I hi->r x lo hi H Q->
  ∃T id,u7 (.type T) "__getitem__" = pure (aa (.builtin id))/\s.TypeIs v T/\⇑X (rp v (.ref b)) (EP X a d Q) X.xe s
def tSl(r:V->xz Int->xz Int->Hp->VK->Prop)(te:TE)(tl th:TO):TE:=λa H Q=>te a H λx b=>tl a b λl d=>th a d λu z=>r x l u z Q
theorem W2(Z:Dd X r)(B:PE X e te)(S:PO X lo tl)(U:PO X hi th):PE X (.Subscript e (.Slice lo hi af p2) pos) (tSl r te tl th):=by intro a s d H Q I h;show Pe (cy (B a s d H _ I h) λv K p=>?_);let(x,f,i,G,C):=p;show wpAny_Slice (cy (S a K d f _ i C) λz L (l,g,j,y,E)=>cy (U a L d g _ j E) λJ O (u,Y,k,A,F)=>?_);rw[evalPart_none];show bW ?_;have m:Inv X a d Y {O with heap:=O.heap.push {cls:=.type "slice",data:=.fields #[z,J,.none]}}:=k.kept λb M q=>cW _ q;let(T,id,o,w,t):=Z a _ d Y x v z J l u _ Q m G (Heap.IsSliceOf.new ..) y A F;show tail_any w o t (by rfl)
def IV(xs:zn V)(lo hi:xz Int):zn V:=(xs.drop<|HT.aR xs.length 0 lo).take (HT.aR xs.length xs.length hi-HT.aR xs.length 0 lo)
theorem YS(xs)(lo hi):(IV xs lo hi).length<=pT xs:=by erw[IV];rw[E7,List.length_drop];show et (_b ..)<|Nat.sub_le ..
def UX(K:aO):V->xz Int->xz Int->Hp->VK->Prop:=λx lo hi H Q=>∃a b,x=.ref a/\ej K H a b/\
 ¬(HT.aR (pT b) 0 lo=0/\HT.aR (pT b) (pT b) hi=pT b)/\∀p,H p=af->Q (.ref p) (upd H p<|.tup<|IV b lo hi)
theorem Mp:Dd X (UX X.K):=by
 intro d s t H x v o p lo hi m Q I Y g Z k h;let(a,e,rfl,j,i,q):=h;cases Y;let(f,r,J,O):=I.tuple j;have z:f.toArray.size=pT e:=by rw[eW];show r.length.symm
 show("tuple",_,DG.lookup,J.typeIs,?_);show HT.zjz J g Z k (by rw[z];show i) ?_ (by rw[z];show O);rw[z];show(.ref _,_,I.laid (λb l q=>cW _ q) (cV _) ?_,rfl,q _ (I.bQ.fresh (cV _)));show(et (YS e lo hi) O,_,(r.drop _).take _,oP.new _ _)
theorem cM.P8(r:cM xs us):us=[]↔xs=[]:=by
 cases r with
 |nil=>simp
 |cons _ _=>simp
end
def uX(n:Nat)(i:Int):xz Nat:=if 0<=i then (if i<n then aa i.toNat else af)else if -(n:Int)<=i then aa (i+n).toNat else af
def sS{e:Type}(xs:zn e)(i:Int):xz e:=(uX xs.length i).bind λj=>xs[j]?
theorem uD(h:uX n i=aa j):seqIndex? i n=aa j/\j<n/\ -n<=i/\i<n:=by
 erw[uX]at h;by_cases b:0<=i
 .rw[DJ b]at h
  by_cases a:i<n
  .rw[DJ a]at h
   have e:=l8 h;show(by rw[y_ b a,e],(),(),a)
  .rw[DY a]at h;cases h
 .rw[DY b]at h
  by_cases a : -n<=i
  .rw[DJ a]at h
   have e:=l8 h;show(by rw[y' () a,e],(),a,())
  .rw[DY a]at h;cases h
theorem gZ(h:sS xs i=aa v):∃j,seqIndex? i (pT xs)=aa j/\xs[j]? = aa v/\j<pT xs/\ -(pT xs)<=i/\i<pT xs:=by
 erw[sS]at h;cases e:uX (pT xs) i with
 |none=>rw[e]at h;cases h
 |some j=>
  rw[e]at h;let(a,b,d,f):=uD e;show(j,a,h,b,d,f)
def ie(b:bE):Prop:=∀o i,SJ b aF o i=operate [o,i] (rp o i)
def sG(X:Cx)(r:R2):Prop:=
 ∀b z a s d H x y v u Q,Inv X a d H s->RelV x v->RelV y u->r x y H Q->
  SJ z aF v u=operate [v,u] (rp v u)->⇑X (subscriptTail b z v u) (EP X a d Q) X.xe s
def C6(X:Cx)(id:String)(r:V->zn V->Hp->VK->Prop):Prop:=
 ∀a s e H x d v b Q,Inv X a e H s->RelV x v->cM d b->r x d H Q->
  ⇑X (call (.builtin id) (v::b)) (EP X a e Q) X.xe s
section
variable{X:Cx}{a b:bE}{ta tb:TE}{pos:cH}
theorem sG.or(h:sG X r)(h':sG X r'):sG X (λx y H Q=>r x y H Q\/r' x y H Q):=by
 intro a z b s e H x y v u Q I J O q d;rcases q with q|q
 .exact h a z b s e H x y v u Q I J O q d
 .exact h' a z b s e H x y v u Q I J O q d
theorem Nl(z:sG X r)(j:PE X a ta)(B:PE X b tb)(hs:ie b):PE X (.Subscript a b pos) (A3 r ta tb):=by intro d s g H Q I h;show Pe<|SN j B I h λv u f x y e J O Y q=>z a b d f g e x y v u Q J O Y q<|hs _ _
def zac(K:aO):R2:=λx y H Q=>∃p a i v,x=.ref p/\y=.int i/\dY K H p a/\sS a i=aa v/\Q v H
def zaa(K:aO):R2:=λx y H Q=>∃p a i v,x=.ref p/\y=.int i/\ej K H p a/\sS a i=aa v/\Q v H
def zab:R2:=λx y H Q=>∃z i c,x=.str z/\y=.int i/\z.length<=cP/\sS z.cps.toList i=aa c/\Q (.str ⟨#[c]⟩) H
theorem zir:sG X (zac X.K):=by
 intro d M a s L H x y v u Q I F G h f;let(p,S,i,z,rfl,rfl,C,A,q):=h;cases F;show aU λE=>?_;let(t,rfl):=G;let(g,r,J,R):=I.list C;let(j,b,l,N,m,o):=gZ A;let(w,Y,k):=r.get l;show E ?_;have B:=r.length;have P:=Yz;have Z:EP X a L Q w s:=(z,H,I,k,q);by_cases e:0<=i
 .have O:=by
   rw[y_ e o]at b;show l8 b
  show item_listR J.isList e () (by rw[O];simpa using Y) Z f
 .have O:(i+(g.toArray.size)).toNat=j:=by
   rw[y' () m]at b;rw[eW,<-B];show l8 b
  show zkJ J.isList.typeIs _N.lookup
   (wpAny_getItem_list_neg J.isList () (by rw[eW]<;>lia) () (by rw[O];simpa using Y) (rfl,Z)) f
theorem NQ:sG X (zaa X.K):=by
 intro b C a s B H x y v u Q I O Y h A;let(p,P,i,z,rfl,rfl,o,l,q):=h;cases O;show aU λZ=>?_;let(t,rfl):=Y;let(E,r,J,N):=I.tuple o;let(j,g,k,F,G,L):=gZ l;let(w,f,d):=r.get k;show Z ?_;have m:=r.length;have M:=Yz;have e:EP X a B Q w s:=(z,H,I,d,q);show zkJ J.typeIs slot_tuple_getitem.lookup
  (getItem_tuple J () () (by rw[eW,<-m];show g) (~~~f) (rfl,e)) A
theorem NR:sG X zab:=by
 intro a m d s A H x y v u Q I J O h l;show aU λY=>?_;let(z,i,c,rfl,rfl,r,k,q):=h;let(t,rfl):=J;let(w,rfl):=O;let(j,b,e,o,f,g):=gZ k;show Y ?_;have Z:pT z.cps.toList=z.length:=by rfl
 rw[Z]at b f g;have p:=Yz;show tail_any (B6 s z t) slot_str_getitem.lookup (getItem_str (by
  lia) (by rw[b];simpa using e) (.str _,H,I.tok _,(_,rfl),q)) l
theorem zjP(z:zn aN)(n j)(u):gV (·.setIfInBounds j u) {cls:=.type "list",data:=.seq z.toArray n} = {cls:=.type "list",data:=.seq (z.set j u).toArray n}:=by simp[gV]
theorem Inv.lst(I:Inv X pins U H s)(h:H p=aa (.lst xs)):
 ∃J n,cM xs J/\s.heap.get? p=aa {cls:=.type "list",data:=.seq J.toArray n}/\(pT xs)<=cP:=by
 let(z,J,n,r,e):=I.bQ p _ h;show(J,n,r,e,z)
theorem Inv.ziz{J z:zn aN}{n n':Nat}{f:e9->e9}(I:Inv X j U H s)(h:H p=aa (.lst xs))
 (O:s.heap.get? p=aa {cls:=.type "list",data:=.seq J.toArray n}) (S:f {cls:=.type "list",data:=.seq J.toArray n} = {cls:=.type "list",data:=.seq z.toArray n'}) (r:cM B z) (Y:pT B<=cP) (t):
 Inv X j U (upd H p<|.lst B) {s with heap:=s.heap.update p f,toks:=t}:=by
 have e:(s.heap.update p f).get? p=aa {cls:=.type "list",data:=.seq z.toArray n'}:=by rw[oI f O (by rw[S]<;>rfl),S]
 show I.write (by rw[h];trivial) (.inl rfl) (λb u a q=>(ni _ _<|dh a).trans q) (_,e) ?_;show(Y,z,n',r,e)
def RO:V->V->V->Hp->(Hp->Prop)->Prop:=λo i v H Q=>∃p a k j,o=.ref p/\i=.int k/\H p=aa (.lst a)/\uX (pT a) k=aa j/\Q (upd H p<|.lst<|a.set j v)
theorem iH:UH X RO:=by
 intro g s K H o i v F E u Q I y x A h;let(p,G,k,j,rfl,rfl,f,l,q):=h;cases y;show aU λw=>?_;let(t,rfl):=x;let(Y,n,r,z,m):=I.lst f;let(a,B,d,e):=uD l;show w ?_;have J:=r.length;have C:=Yz;have Z:=
  I.ziz f z (zjP Y n j u) (r.set A j) (by rw[List.length_set];show m) s.toks
 by_cases b:0<=k
 .have O:=by
   rw[y_ b e]at a;show l8 a
  show PySem.W.ki_setAt z b () (by rw[eW,<-J];show e) (by rw[O];show(_,Z,q))
 .have O:(k+(Y.toArray.size)).toNat=j:=by
   rw[y' () d]at a;rw[eW,<-J];show l8 a
  show PySem.W.ki_setBack z () (by rw[eW,<-J];show d) () (by rw[O];show(_,Z,q))
theorem zgS(lo e)(n):(u3 lo e af n).1=((HT.aR n 0 lo:Nat))/\(u3 lo e af n).2.1=((HT.aR n n e:Nat))/\(u3 lo e af n).2.2=1:=by
 show(?_,?_,rfl)
 .cases lo with
  |none=>rfl
  |some i=>
   simp?[u3,HT.aR,Option.getD_none,show 1>0 by decide,if_true];by_cases h:i<0
   .simp?[h,if_true]<;>lia
   .simp?[h,if_false]<;>lia
 .cases e with
  |none=>rfl
  |some i=>
   simp?[u3,HT.aR,Option.getD_none,show 1>0 by decide,if_true];by_cases h:i<0
   .simp?[h,if_true]<;>lia
   .simp?[h,if_false]<;>lia
theorem WL(z:zn aN)(lo e):SD z.toArray lo e af=((z.drop<|HT.aR (pT z) 0 lo).take (HT.aR (pT z) (pT z) e-HT.aR (pT z) 0 lo)).toArray:=by let(a,b,d):=zgS lo e z.toArray.size;erw[SD];simp?[a,b,d];simp?[sliceRange_one,pick_run,eW]<;>rfl
def UY(K:aO):V->xz Int->xz Int->Hp->VK->Prop:=λx lo d H Q=>∃a b,x=.ref a/\dY K H a b/\∀p,H p=af->Q (.ref p) (upd H p<|.lst<|IV b lo d)
theorem Hc:Dd X (UY X.K):=by intro d s t H x v o p lo f m Q I J g O Y h;let(a,j,rfl,Z,q):=h;cases J;let(k,r,z,i):=I.list Z;have e:=r.length;show("list",_,_N.lookup,z.isList.typeIs,?_);show zlD z.isList g O Y .none () ?_ (by rw[eW]<;>lia);rw[WL,<-e];show(.ref _,_,I.laid (λb l q=>cW _ q) (cV _) ?_,rfl,q _ (I.bQ.fresh (cV _)));show(et (YS j lo f) i,_,0,(r.drop _).take _,f9 _ rfl)
def Vx:V->Bool
 |.cI=>ae
 |.bl _=>ae
 |.int _=>ae
 |.str _=>ae
 |_=>aF
def ro:V->V->Bool
 |.cI,.cI=>ae
 |.bl a,.bl b=>a==b
 |.bl a,.int b=>(if a then 1 else 0)==b
 |.int a,.bl b=>a==(if b then 1 else 0)
 |.int a,.int b=>a==b
 |.str a,.str b=>a==b
 |_,_=>aF
theorem Of(I:RelV y u)(z:RelV x v)(O:Vx y)(J:Vx x):mJ A s u v (ro y x):=by
 cases y with
 |cI=>
  cases I;cases x with
  |cI=>cases z;show mJ.same _
  |bl b=>cases z;show mJ.none_bool b
  |int b=>let(t,rfl):=z;show mJ.none_int b t
  |str b=>let(t,rfl):=z;show mJ.none_str b t
  |_=>show absurd J i4
 |bl a=>
  cases I;cases x with
  |cI=>cases z;show mJ.bool_none a
  |bl b=>cases z;show mJ.bool_bool a b
  |int b=>let(t,rfl):=z;show mJ.bool_int a b t
  |str b=>let(t,rfl):=z;show mJ.bool_str a b t
  |_=>show absurd J i4
 |int a=>
  let(d,rfl):=I;cases x with
  |cI=>cases z;show mJ.int_none a d
  |bl b=>cases z;show mJ.int_bool a d b
  |int b=>let(t,rfl):=z;show N4 a d b t
  |str b=>let(t,rfl):=z;show mJ.int_str a d b t
  |_=>show absurd J i4
 |str a=>
  let(d,rfl):=I;cases x with
  |cI=>cases z;show mJ.str_none a d
  |bl b=>cases z;show mJ.str_bool a d b
  |int b=>let(t,rfl):=z;show mJ.str_int a d b t
  |str b=>let(t,rfl):=z;show mJ.str_str a d b t
  |_=>show absurd J i4
 |_=>show absurd O i4
def nu(x:V)(u:aN):Bool:=match u with
 |.none=>ro .cI x
 |.bool b=>ro (.bl b) x
 |.int i _=>ro (.int i) x
 |.str z _=>ro (.str z) x
 |_=>aF
theorem FK(r:RelV y u)(f:Vx y):nu x u=ro y x:=by
 cases y with
 |cI=>cases r;rfl
 |bl b=>cases r;rfl
 |int i=>let(t,rfl):=r;rfl
 |str z=>let(t,rfl):=r;rfl
 |_=>show absurd f i4
theorem aQ(h:cM xs us)(f:xs.all Vx):us.any (nu x)=xs.any λy=>ro y x:=by
 induction h with
 |nil=>rfl
 |cons r t z=>
  simp?[B1,eH]at f;simp?[List.any_cons,FK r f.1,z f.2]
theorem Km(I:RelV x v)(J:Vx x)(h:cM xs us)(f:xs.all Vx):∀u∈us,mJ A s u v (nu x u):=by
 induction h with
 |nil=>intro u z;cases z
 |cons r t O=>
  intro Y z;simp?[B1,eH]at f;rcases d8.mp z with rfl|z
  .rw[FK r f.1];show Of r I f.1 J
  .exact O f.2 Y z
def pG(x:V)(xs:zn V):Bool:=xs.any λy=>ro y x
def x'(K:aO)(e:Bool):R2:=λx y H Q=>∃p a,y=.ref p/\(dY K H p a\/ej K H p a)/\Vx x/\a.all Vx/\Q (.bl<|if e then !pG x a else pG x a) H
theorem Yf:eI X (h8 .In) (x' X.K aF):=by
 intro b s f H x y v u Q I O Z h;let(p,e,rfl,hq,Y,fs,q):=h;cases Z;rcases hq with hq|hq
 .let(z,r,J,d):=I.list hq
  show SeqAt.in_listAt (nu x) J.isList (λw a=>Km O Y r fs w<|by simpa using a) (.bl _,H,I,rfl,?_);rw[show z.toArray.any (nu x)=z.any (nu x)by simp,aQ r fs];show q
 .let(z,r,J,d):=I.tuple hq
  show SeqAt.in_tupleAt (nu x) J (λw a=>Km O Y r fs w<|by simpa using a) (.bl _,H,I,rfl,?_);rw[show z.toArray.any (nu x)=z.any (nu x)by simp,aQ r fs];show q
theorem XB:eI X (h8 .NotIn) (x' X.K ae):=by
 intro b s f H x y v u Q I O Z h;let(p,e,rfl,hq,Y,fs,q):=h;cases Z;rcases hq with hq|hq
 .let(z,r,J,d):=I.list hq
  show SeqAt.notIn_listAt (nu x) J.isList (λw a=>Km O Y r fs w<|by simpa using a) (.bl _,H,I,rfl,?_);rw[show z.toArray.any (nu x)=z.any (nu x)by simp,aQ r fs];show q
 .let(z,r,J,d):=I.tuple hq
  show SeqAt.notIn_tupleAt (nu x) J (λw a=>Km O Y r fs w<|by simpa using a) (.bl _,H,I,rfl,?_);rw[show z.toArray.any (nu x)=z.any (nu x)by simp,aQ r fs];show q
theorem zhj:QK X (.builtin "len") (λxs H Q=>∃p e,xs=[.ref p]/\(dY X.K H p e\/ej X.K H p e)/\Q (.int e.length) H):=by
 intro b s g H xs f Q I r h;let(p,e,rfl,hq,q):=h;let(u,rfl,O):=kg r;cases O;have d:=Yz;rcases hq with hq|hq
 .let(Y,a,z,Z):=I.list hq
  have J:=a.length;show Calls.call_len_list z.isList (by simp?[eW]<;>lia) (.int e.length,H,I.tok _,(s.toks+1,by rw[eW,J]),q)
 .let(Y,a,z,Z):=I.tuple hq
  have J:=a.length;show len_tuple z (by simp?[eW]<;>lia) (.int e.length,H,I.tok _,(s.toks+1,by rw[eW,J]),q)
theorem zhi:QK X (.builtin "len") (λxs H Q=>∃z,xs=[.str z]/\z.length<=cP/\Q (.int z.length) H):=by intro a s e H xs d Q I r h;let(z,rfl,J,q):=h;let(u,rfl,t,rfl):=kg r;have b:=Yz;show len_str () (.int z.length,H,I.tok _,(_,rfl),q)
theorem zhh:QK X (.type "list") (λxs H Q=>∃p j,xs=[.ref p]/\(dY X.K H p j\/ej X.K H p j)/\∀l,H l=af->Q (.ref l) (upd H l (.lst j))):=by
 intro d s A H xs B Q I r h;let(p,j,rfl,hq,q):=h;let(u,rfl,y):=kg r;cases y;have Z:∀z,cM j z->pT j<=cP->∀f k,(∀b m,_=aa m->f.get? b=aa m)->
  _=_->EP X d A Q _ {s with heap:=f}:=λz a J f k x e=>
  (.ref _,_,I.laid x (cV _) (show hL X.prog X.w _ f _ (.lst j)from(J,z,k,a,e)),rfl,q _<|I.bQ.fresh<|cV _)
 rcases hq with hq|hq
 .let(z,a,O,J):=I.list hq
  have t:=a.length;let(o,Y,g,n,i):=O.isList;show call_list_seq p (.inl rfl) Y g i ((Z z a J)) (by simp?[eW]<;>lia)
 .let(z,a,O,J):=I.tuple hq
  have t:=a.length;let(o,Y,g,n,i):=O;show call_list_seq p (.inr rfl) Y g i ((Z z a J)) (by simp?[eW]<;>lia)
theorem zgF:QK X (.type "tuple") (λxs H Q=>∃p j,xs=[.ref p]/\((dY X.K H p j/\∀l,H l=af->Q (.ref l) (upd H l (.tup j)))\/(ej X.K H p j/\Q (.ref p) H))):=by
 intro f s x H xs t Q I r h;let(p,j,rfl,h):=h;let(u,rfl,Z):=kg r;cases Z;rcases h with⟨a,q⟩|⟨a,q⟩
 .let(J,d,z,O):=I.list a
  have m:=d.length;show call_tuple_list z.isList (λi k=>?_) (by simp?[eW]<;>lia);have Y:=I.kept (t':=s.toks) k;have g:=
   Y.laid (t':=s.toks) (λb o e=>cW _ e) (cV _) (show hL X.prog X.w _ _ _ (.tup j)from(O,J,d,oP.new _ _))
  show(.ref i.objs.size,_,g,rfl,q _<|Y.bQ.fresh<|cV _)
 .let(J,d,z,O):=I.tuple a
  show call_tuple_same z (.ref p,H,I,rfl,q)
def H_(K:aO)(T:String)(x:V)(H:Hp):Prop:=match x with
 |.str _=>T = "str"
 |.int _=>T = "int"
 |.ref p=>(T = "list"/\∃b,dY K H p b)\/(T = "tuple"/\∃o,K.lookup p=aa o/\o.cls=.type "tuple"/\o.dict=af)\/
  (T = "dict"/\((∃a,H p=aa (.dK a))\/∃a,H p=aa (.dT a)))\/(T = "set"/\∃S n,H p=aa (.set S n))
 |_=>False
theorem LY(I:Inv X pins U H s)(r:RelV x v)(ty:H_ X.K T x H):
 s.TypeIs v T/\∀a,v=.ref a->∃O,s.heap.get? a=aa O/\O.dict=af:=by
 cases x with
 |str z=>
  let(t,rfl):=r;cases ty;show(B6 s z t,λq e=>nomatch e)
 |int i=>
  let(t,rfl):=r;cases ty;show(O2 s i t,λq e=>nomatch e)
 | ref p=>
  cases r;rcases ty with⟨rfl,k,j⟩|⟨rfl,o,J,h,f⟩|⟨rfl,J⟩|⟨rfl,S,n,J⟩
  .let(Z,_,Y,_):=I.list j
   show(Y.isList.typeIs,λa e=>?_);cases e;let(o,n,e,c,f,q):=Y;show(o,e,f)
  .refine((o,I.df p o J,h),λa e=>?_)
   cases e;show(o,I.df _ o J,f)
  .have z:∃o,s.heap.get? p=aa o/\o.ExactDict:=by
    rcases J with⟨g,J⟩|⟨g,J⟩
    .let(_,_,_,_,o,_,_,e,b,_):=I.bQ p _ J
     show(o,e,b)
    .let(_,_,_,_,o,_,_,e,b,_):=I.bQ p _ J
     show(o,e,b)
   let(o,e,b):=z;show((o,e,b.1),λa d=>?_);cases d;show(o,e,b.2.1)
  .let(o,_,_,_,e,b,_):=I.bQ p _ J
   show((o,e,b.1),λa d=>?_);cases d;show(o,e,b.2.1)
 |_=>show o7 ty
def A_(K:aO)(T:String)(r:V->zn V->Hp->VK->Prop)(to:TE)(t:TA):TE:=λb H Q=>to b H λx a=>H_ K T x a/\t b a λe d=>r x e d Q
variable{o e:bE}{es:zn bE}{to:TE}{t:TA}{name:Str}{apos cpos:cH}{T id:String}{r:V->zn V->Hp->VK->Prop}
theorem nV(pa:PlainAttrs T)(j:Slot T name id)(O:Mg (.builtin id)=pure (.type "method_descriptor"))(W:C6 X id r)(Y:PE X o to)(U:PA X (e::es) t)
 (Z:ri o name ⋯ (bH o ⋯)=bH o ⋯:=by rfl)
 (B:((ft cpos<|starEach (e::es) ⋯).all (λx=> !x.1)&&(pf cpos<|keywordEach [] ⋯).all (λx=>x.1.isSome)
   &&decide ((e::es).length+([]:zn n5).length+(if ([]:zn n5).isEmpty then 0 else 1)<30)):=by rfl)
 (S:(apos.endLine==cpos.line):=by rfl) (hs:ck (e::es) ⋯=(aF,bH e ⋯)::ck es ⋯:=by rfl) (a8:(ft cpos<|starEach es ⋯).any (·.1)=aF:=by rfl):
 PE X (.Call (.Attribute o name apos) (e::es) [] cpos) (A_ X.K T r to t):=by
 intro a s b H Q I h;show wpAny_Call_method_late Z B S rfl<|cy (Y a s b H _ I h) λv A m=>?_;show aU λp=>?_;let(x,f,z,d,ty,u):=m;let(k,l):=LY z d ty;show p ?_;show(T,id,pa,j,O,k,l,?_);have J:=U cpos a A b f _ z u;rw[hs]at J ⊢;show V_ (by assumption)<|Td ?_;show cy J λE C (F,g,i,y,w)=>W a C b g x F v E Q i d y w
end
def Ym(X:Cx)(id:String)(r:V->zn V->Hp->VK->Prop):Prop:=
 ∀a s e H x d v b Q,Inv X a e H s->RelV x v->cM d b->r x d H Q->
  ⇑X (call (.builtin id) (v::b)) (EP X a e Q) X.xe s
theorem cM.one(h:cM [x] us):∃u,us=[u]/\RelV x u:=by cases h with|cons r t=>cases t;show(_,rfl,r)
theorem cM.reverse(h:cM xs us):cM xs.reverse us.reverse:=by
 induction h with
 |nil=>show .nil
 |cons r t z=>rw[Tu,Tu];show cM.append z<|.cons r .nil
theorem cM.rep(h:cM xs us):∀k,cM (cK k xs).flatten (cK k us).flatten
 |0=>.nil
 |k+1=>by show cM.append h<|cM.rep h k
theorem YL(z:zn aN):∀k j,
 List.foldl (λB I=>B++I) j.toArray (cK k z.toArray)=(j++(cK k z).flatten).toArray
 |0,j=>by simp
 |k+1,j=>by
  have e:j.toArray++z.toArray=(j++z).toArray:=by simp
  have a:(j++z)++(cK k z).flatten=j++(cK (k+1) z).flatten:=by simp?[List.replicate_succ,List.flatten_cons,List.append_assoc]
  rw[<-a,<-YL z k (j++z),<-e,List.replicate_succ,List.foldl_cons]
section
variable{X:Cx}{pins:TW}{U:St}{H:Hp}{s:bB}{l:ak}{xs ys:zn V}
theorem Inv.LA{J z:zn aN}(I:Inv X pins U H s)(O:H l=aa (.lst xs))
 (e:s.heap.get? l=aa {cls:=.type "list",data:=.seq J.toArray n}) (j:f J.toArray=z.toArray) (Y:cM ys z) (Z:pT ys<=cP):
 Inv X pins U (upd H l<|.lst ys) {s with heap:=s.heap.update l<|gV f,toks:=t'}:=by
 have q:=PySem.IsL.update e f;rw[j]at q;show I.write (by rw[O];show trivial) (.inl rfl) (λd u a b=>(ni s.heap _<|dh a).trans b) (_,q) ?_;show(Z,z,_,Y,q)
theorem Inv.Lc(I:Inv X pins U H s)(J:cM ys z)(O:pT ys<=cP):
 Inv X pins U (upd H ↥s (.lst ys)) {s with heap:=s.heap.push {cls:=.type "list",data:=.seq z.toArray},toks:=t'}:=
 I.laid (λv v q=>cW _ q) (cV _) (O,z,0,J,f9 _ rfl)
theorem Inv.fresh(I:Inv X pins U H s):H ↥s=af:=I.bQ.fresh<|cV _
theorem Inv.rK(I:Inv X pins U H s)(O:H l=aa (.lst xs)):pT xs<=cP/\∃J n,cM xs J/\(pT xs)=pT J/\s.heap.get? l=aa {cls:=.type "list",data:=.seq J.toArray n}:=by let(z,J,n,r,e):=I.bQ l _ O;show(z,J,n,r,r.length,e)
theorem lz(h:n<=cP):DR n=aF:=by erw[DR];show decide_eq_false ()
end
section
variable{X:Cx}
def sC:V->zn V->Hp->VK->Prop:=λx b H Q=>∃l a y,x=.ref l/\b=[y]/\H l=aa (.lst a)/\a.length<cP/\Q .cI (upd H l<|.lst<|a++[y])
theorem zll:Ym X "list.append" sC:=by intro a s k H x i v g Q I O Y h;let(l,j,y,rfl,rfl,J,f,q):=h;cases O;let(u,rfl,Z):=Y.one;let(z,b,n,r,d,e):=I.rK J;show nZ _t (_,e,rfl) _p (_M _ _) (_k l b.toArray n u (by rw[eW];lia)) (e,?_);show(.cI,_,I.LA J e () (r.append (.cons Z .nil)) ?_,rfl,q);rw[mK,A8];lia
def Hm:V->zn V->Hp->VK->Prop:=λx e H Q=>∃l b a d,x=.ref l/\e=[.ref b]/\H l=aa (.lst a)/\H b=aa (.lst d)/\(pT a)+pT d<=cP/\Q .cI (upd H l<|.lst<|a++d)
theorem zlk:Ym X "list.extend" Hm:=by
 intro d s K H x B v A Q I Z p h;let(l,b,C,G,rfl,rfl,Y,i,y,q):=h;cases Z;let(u,rfl,o):=p.one;cases o;show aU λj=>?_;let(z,J,n,r,w,e):=I.rK Y;let(E,O,k,m,t,g):=I.rK i;show j ?_;have a:J.toArray.size+O.toArray.size<=cP:=by rw[eW,eW];lia
 have f:¬(!J.toArray.isEmpty&&DR (J.toArray.size+O.toArray.size)):=by rw[lz a,Bool.and_false];show i4
 show nZ F.slot_list_extend (_,e,rfl) F.entry_list_extend (F.args_list_extend_2 _ _)
  (AutoSeq1.list_extend_list_list_0 l J.toArray n b O.toArray k f () ()) (e,g,?_)
 show(.cI,_,I.LA Y e () (r.append m) ?_,rfl,q);rw[mK];lia
def UZ:R2:=λx y H Q=>∃l k a,x=.ref l/\y=.int k/\H l=aa (.lst a)/\ -(2^63)<=k/\k<2^63/\(pT a)*k.toNat<=cP/\
 ∀p,H p=af->Q (.ref p) (upd H p<|.lst (cK k.toNat a).flatten)
theorem gA(xs:zn α)(k):(cK k xs).flatten.length=k*pT xs:=by simp_all
theorem Nu:eI X (n9 .Mult) UZ:=by
 intro b s M H x y v u Q I Y Z h;let(l,k,L,rfl,rfl,A,p,w,O,q):=h;cases Y;let(t,rfl):=Z;let(z,J,n,r,B,e):=I.rK A;have d:J.toArray.size*k.toNat<=cP:=by rw[eW,<-B];show O
 have f:¬J.toArray.size*k.toNat>(2^63-1)/8:=by
  have:cP<=(2^63-1)/8:=by decide
  lia
 have g:¬(!O' k):=by rw[fitsIndex_both p w];show i4
 have i:¬DR (J.toArray.size*k.toNat):=by rw[lz d];show i4
 have j:List.foldl (λE G=>E++G) #[] (cK (if J.toArray.isEmpty then 0 else k.toNat) J.toArray)=(cK k.toNat J).flatten.toArray:=by
  have o:=λm=>by have:=YL J m [];rw[Ts]at this;show this
  rw[o];cases J with
  |nil=>simp
  |cons a K=>rfl
 show zlC () (_,e,rfl) (λC=>O2 C k t) noFill_list_mul F.fills_int_mul U1 repeat_list F.slot_int_index.lookup
  (nZ U1 (O2 s k t) F.entry_int_rmul (F.args_int_rmul_2 _ _) (int___rmul___int_list k t l J.toArray n)
    (e,rfl,(_,e,rfl),nZ F.slot_list_mul (_,e,rfl) F.entry_list_mul (F.args_list_mul_2 _ _) (AutoListH.list___mul___list_int_3 l J.toArray n k t g f i) (e,?_)))
 rw[j];show(.ref _,_,I.Lc (r.rep k.toNat) (by rw[gA,Nat.mul_comm];show O),rfl,q _ I.fresh)
end
end L2
namespace Att
open PySem PySem.W PySem.Calls PyProof.Rows
theorem zgl:∀e vs,WellAll P h vs (e.map WData.int)->F2 vs e:=by
 intro e
 induction e with
 |nil=>
  intro vs w;rw[Uz]at w;cases w;show .nil
 | cons n e z=>
  intro vs w;rw[kT]at w;cases w with
  |cons a b=>
   cases a;show .cons _ _<|z _ b
theorem zki{l:OpenLaw}(B:l.most=aa n)
 (I:l.row.toRowW.claim.pre args) (J:WellAll P h z args):
 ∃a vs e,z=[i3 a]/\args=[WData.list (e.map WData.int)]/\h.get? a=aa {cls:=.type "list",data:=.seq vs.toArray}/\F2 vs e/\(pT e)<=n:=by
 have O:WShape.hasAll [] args [.list .int]:=(pre_splitW I).1;have f:l.pre.holds [] {args:=args}:=(pre_splitW I).2;let(d,r,rfl,i,j):=hasAllW_cons O;obtain rfl:=hasAllW_nil j;let(s,rfl,k):=hasW_list i;let(e,rfl):=items_int k;have Y:pT e<=n:=by
  erw[OpenLaw.pre]at f;have b:=by have b:=(holds_andW f).1;rw[B]at b;show b
  have p:=condW_of b<|w_not<|w_lt w_lit<|w_len_list<|w_arg rfl
  grind
 cases J with
 |cons m o=>
  cases o;cases m with
  |list Z g=>show(_,_,e,rfl,rfl,Z,zgl e _ g,Y)
theorem zkw(l:OpenLaw)(args):l.row.toRowW.claim.post args (.bool ae) args:=
 postW_of
  (by rfl)
  (w_eq_bool (w_res rfl) w_lit) rfl
theorem Li{l:OpenLaw}{d:DefRec}
 (hn:l.most=aa n) (a1:d.params.defaults=[])
 (call:∀w fy z H W j o pm B e a vs S,
   Ground q I [] J w fy H W z.heap->O w z.heap->
   z.heap.get? j=aa o->o.data=.func (docDef d.name d.params d.body d.scope pm B e)->z.heap.CodeRec B d.name->H d.name=aa (.ref j)->
   z.heap.get? a=aa {cls:=.type "list",data:=.seq vs.toArray}->F2 vs S->pT S<=n->z.gens = #[]->
   codeAny (aV l.prog w) uR (.call (.ref j) ([.ref a],[])) (λr U=>r=.ok (.ret<|.bool ae)/\OldK z.heap U.heap/\U.os=z.os/\oN U.gens) z):
 WalkO q I J O l.row.toRowW d [] (λf vs=>PySem.call f vs):=by
 intro w fy z H W G Y j o pm B e s kV E y g Z h A b K as i L M k N;obtain rfl:s=.none:=Dflts.none Z a1;obtain rfl:kV=.none:=Dflts.noKw Z;let(a,vs,S,rfl,rfl,m,p,ad):=zki hn i k;show enter_call<|pS (call w fy z H W j o pm B e a vs S G Y E (fd_plain y) g h m p ad A) λr U F=>?_;let(rfl,t,u,x):=F;show(.inl (.bool ae,.bool ae,[],rfl,λv=>rfl,.bool ae,zkw l _,λv=>(List.Pairwise.nil,λv C=>(nomatch C))),t,u,x)
end Att
namespace L2
open PySem PySem.Spec PyProof.Rows
theorem zjY(h:F2 vs e):cM (e.map V.int) vs:=by
 induction h with
 |nil=>show .nil
 |cons n t h z=>show .cons (t,rfl) z
def Rc(H:Hp):Prop:=∀b,H b=af\/∃o a,H b=aa (.m6 o<|.lst a)
theorem CL{w:cN}{K:aO}{W a:ak}{fd:gh}{x:Str}{sp:Sp}{I:bB}{vs:zn aN}{U:zn Int}
 (Y:K.In I.heap) (Z:I.heap.Ns gp S) (j:I.heap.Ns c_ mb) (a6:∀x:Str,x ≠ "__name__"->mb x=pg x) (a7:I.heap.NoLimit) (hg:I.gens = #[])
 (ha:I.heap.get? a=aa {cls:=.type "list",data:=.seq vs.toArray}) (hi:F2 vs U) (hl:pT U<=cP) (hr:gm k uR)
 (F:∀base,K.In base->base.Ns gp S->fh P w K S base CX k W fd [x] sp) (ac:∀s u,B9 s fd ([u],[]) [(x,u)])
 (ad:∀H,Rc H->dY K H a (U.map V.int)->sp [.ref a] H (λv n=>v=.bl ae) λn n n=>False)
 (al:∀H e B,CX [] H I (λn n n=>False) e B->False):
 codeAny (aV P w) uR (.call (.ref W) ([.ref a],[])) (λr B=>r=.ok (.ret<|.bool ae)/\OldK I.heap B.heap/\B.os=I.os/\oN B.gens) I:=by
 have C:=zjY hi;have E:=hi.length;have t:∀H,Rc H->dY K H a (U.map V.int)->eX P w H I.heap->(∀b,H b≠af->b=a)->(H a≠af->K.lookup a=af)->
  codeAny (aV P w) uR (.call (.ref W) ([.ref a],[])) (λr B=>r=.ok (.ret<|.bool ae)/\OldK I.heap B.heap/\B.os=I.os/\oN B.gens) I:=by
  intro H A T i hA hK;have f:∀{b:ak} {o:e9},_=aa o->H b=af->(LC I.heap H).get? b=aa o:=CT;have ao:∀{b:ak} {o:e9} {p:Array O7} {l:Nat},I.heap.get? b=aa o->o.data=.dict p l->H b=af:=λ{b o p l} e d=>by grind
  have J:∀{b}{m},I.heap.Ns b m->(LC I.heap H).Ns b m:=λ{b m} (o,p,l,e,d,r)=>(o,p,l,f e<|ao e d,d,r);have y:=λb o e=>f (Y b o e) (by
   grind)
  have R:Mod K S _:=(y,J Z,(mb,J j,a6),let (X,N,Q):=a7;(X,J N,Q));have L:nH P w K S _ uR [] I H:=(rfl,R,λb o e=>Ih e,O0<|zk7 _ _,trivial,λb j=>absurd (show b∈([])from j) (),i,.of_eq hg);show pS ((F _ y<|J Z).run uR [] I H _ [.ref a] [.ref a] _ _ hr L (ac I<|.ref a) (.cons rfl .nil) (ad H A T)) λr B h=>?_;cases r with
  |error e=>show(al H e B h).elim
  | ok M=>
   cases M with
   |next=>show o7 h
   |brk=>show o7 h
   |cont=>show o7 h
   | ret u=>
    let(v,H',os,g,un,G,r',q):=h;have q':=q;subst q';obtain rfl:u=Value.bool ae:=r';show(rfl,OldK.of_keep λb o e=>?_,os,g);cases q:H b with
    |none=>show un.keep b o e q (by intro z;show absurd (show b∈([])from z) ()) ()
    | some u=>
     rcases A b with z|⟨ob,xs,z⟩
     .lia
     .have z2:=un.mS b ob _ z
      let(e1,n):=i b _ z;let(e2,n):=G b _ z2;lia
 cases hk:K.lookup a with
 |some o=>
  have e:=Y a o hk;rw[ha]at e;cases e;show t _ (λn=>.inl rfl) (.inr (_,vs.toArray,_,hk,rfl,rfl,rfl,by rw[eW,E];show hl,~~~C)) (λb u z=>by lia) (λb z=>absurd rfl z)<|absurd rfl
 | none=>
  show t (λb=>if b=a then aa (.m6 {cls:=.type "list",data:=.seq vs.toArray} _)else af) (λb=>?_) (.inl (.inr (_,DJ rfl))) (λb u z=>?_) (λb z=>?_) λn=>hk
  .by_cases j:b=a
   .exact .inr (_,_,DJ j)
   .exact .inl<|DY j
  .by_cases j:b=a
   .have O:=(DJ j).symm.trans z
    cases O;subst j;show(ha,by rw[f7];show hl,vs,_,C,ha)
   .have O:=(DY j).symm.trans z
    cases O
  .by_cases j:b=a
   .exact j
   .exact absurd (DY j) z
abbrev fS{K:aO}{h:bN}(_:K.In h):aO:=K
theorem GD{l:PySem.W.OpenLaw}{d:DefRec}{K:Params->aO}{CX:cN->oy}{sp:cN->Sp}{x:Str}
 (hn:l.most=aa n) (a1:n<=cP) (a2:d.params.defaults=[]) (hr:gm k uR)
 (hY:∀w h,z w h->(K w.params).In h)
 (F : ∀w j B h,(K w.params).In h->h.Ns gp j->j d.name=aa (.ref B)->
   ∃U,(∀s u,B9 s U ([u],[]) [(x,u)])/\
    ∀base,(K w.params).In base->base.Ns gp j->fh l.prog w (K w.params) j base (CX w) k B U [x] (sp w))
 (a5:∀w H a S,pT S<=n->Rc H->dY (K w.params) H a (S.map V.int)->sp w [.ref a] H (λv c=>v=.bl ae) λc c c=>False)
 (a6:∀w H s e s',CX w [] H s (λc c c=>False) e s'->False):
 PySem.W.WalkO q O Z z l.row.toRowW d [] (λf vs=>PySem.call f vs):=by
 show Att.Li hn a2 λw m i j X B o pm P y a vs S G Y R Q N p r t I M=>?_;have J:=hY w _ Y;let(U,L,A):=F w j B _ J G.T.g p;show CL J G.T.g G.T.b G.T.builtins G.T.nolimit M r t (et I a1) hr A L (λH C E=>a5 w H a S I C E) λH e s'=>a6 w H i e s'
theorem OI{l:PySem.W.OpenLaw}{d:DefRec}{K:Params->aO}{CX:oy}{sp:aO->Sp}{x:Str}
 (hn:l.most=aa n) (O:n<=cP) (Y:d.params.defaults=[]) (Z:gm k uR)
 (hY:∀w h,z w h->(K w.params).In h)
 (F : ∀w j U h,(K w.params).In h->h.Ns gp j->j d.name=aa (.ref U)->
   ∃fd,(∀s u,B9 s fd ([u],[]) [(x,u)])/\
    ∀base,(K w.params).In base->base.Ns gp j->fh l.prog w (K w.params) j base CX k U fd [x] (sp<|K w.params))
 (a2:∀K H a B,pT B<=n->Rc H->dY K H a (B.map V.int)->sp K [.ref a] H (λv y=>v=.bl ae) λy y y=>False)
 (a3:∀H s e S,CX [] H s (λy y y=>False) e S->False):
 PySem.W.WalkO q I J z l.row.toRowW d [] (λf vs=>PySem.call f vs):=
 GD hn O Y Z hY F (λw H a B b g i=>a2 (K w.params) H a B b g i) λy H s e S=>a3 H s e S
def ya(s:de):Arguments:=match s with
 |.FunctionDef _ a _ _ _ _ _ _ _ _=>a
 |_=>{posonlyargs:=[],args:=[],vararg:=af,kwonlyargs:=[],kw_defaults:=[],kwarg:=af,defaults:=[]}
def jL(s:de):zn de:=match s with
 |.FunctionDef _ _ b _ _ _ _ _ _ _=>b
 |_=>[]
def zR(s:de):cS:=match s with
 |.FunctionDef _ _ _ _ _ _ a _ _ _=>a
 |_=>{kind:=.function,names:=[],isGenerator:=aF,isCoroutine:=aF}
abbrev gx:oy:=λ_ _ _ _ _ _=>False
abbrev E0:XK:=λ_ _ _=>False
theorem gd:QC gx X E0:=λq q q q q q q h=>h.elim
structure i5(K:aO)(x qual:Str)(st:de)(f:ak)(fd:gh):Prop where
 ex:∃(oc:aN) (od:Option ak) (kV doc pm:aN) (an:Option ak) (Dg ct:aN) (tL:Array (Option aN)),
  fd=ox x qual (ya st) (jL st) (zR st) .none kV doc pm an Dg ct/\K.lookup f=aa (oc,od,.func fd,tL)/\B4 K Dg qual=ae
 kp:mV K (.ref f)=ae
section
variable{P:cQ}{w:cN}{K:aO}{mg:DZ}{base:bN}
theorem i5.ok{st:de}{j:gh}{sp:Sp}(F:i5 K x qual st f j)(S:wy N ps (zR st))(len:∀vs H Q E,sp vs H Q E->pT vs=pT ps)
 (z:∀e A outer s H vs Q E,gm k (A.deeper<|envOfC qual (zR st) ↥s f e)->sp vs H Q E->
   ∃t,gj (Kt gx P w K mg base N qual (zR st) f e A outer s H E).eQ (jL st) t/\t {nx:=λv H'=>Q .cI H',rt:=Q} (Jc N vs) H):↑fh gx (k+1) f j ps sp:=by
 let(i,l,kV,a,m,d,e,g,b,rfl,lk,I):=F.ex;show Ec lk I S len λA outer s H vs Q E J O=>?_;let(t,h,q):=z e A outer s H vs Q E J O;show(t,h.eQ,q)
theorem i5.binds{st:de}(F:i5 K x qual st f I)
 (h:∀kV j H B e ct us,pT us=pT ps->yg (ox x qual (ya st) (jL st) (zR st) .none kV j H B e ct) (us,[])=pure (ps.zip us)):Binds K I ps []:=by
 let(b,d,kV,j,H,B,e,ct,a,rfl,lk,z):=F.ex;show .all<|h kV j H B e ct
theorem lR{st:de}{kV j H e ct:aN}(l:K.lookup f=aa (I,od,.func<|ox x qual (ya st) (jL st) (zR st) .none kV j H B e ct,z))
 (c:B4 K e qual) (k:mV K (.ref f)):i5 K x qual st f (ox x qual (ya st) (jL st) (zR st) .none kV j H B e ct):=((I,od,kV,j,H,B,e,ct,z,rfl,l,c),k)
end
def dj(H H':Hp):Prop:=∀b o,H b=aa o->H' b=aa o
theorem dj.refl(H):dj H H:=λq q h=>h
theorem dj.trans(a:dj H H1)(b:dj H1 H2):dj H H2:=λc o h=>b c o<|a c o h
theorem dj.free(e:dj H H')(h:H' l=Option.none):H l=Option.none:=by
 cases q:H l with
 |none=>rfl
 |some o=>
  rw[e l o q]at h;cases h
theorem dj.seq{K:aO}(e:dj H H')(h:dY K H a xs):dY K H' a xs:=by
 rcases h with(h|⟨o,h⟩)|h
 .exact .inl<|.inl<|e _ _ h
 .exact .inl<|.inr (o,e _ _ h)
 .exact .inr h
def mh(cells:zn (Str×ak)):zn (Str×o9)->zn (Str×ak)->zn (Str×ak)
 |[],acc=>acc
 |(n,k)::r,acc=>mh cells r<|if k==oj then (match cells.lookup n with|some c=>(n,c)::acc|none=>acc)else acc
theorem Zq(f)
 (B:∀name kind z,f (name,kind) z=if kind==oj then (do let a<-cellOf env name;pure (.yield ((name,a)::z)))else pure (.yield z)):
 ∀names j,(∀n,(n,oj)∈names->∃c,env.cells.lookup n=aa c)->
  forIn names j f=(pure<|mh env.cells names j)
 |[],j,_=>by rfl
 | (n,k)::r,j,h=>by
  rw[List.forIn_cons,B];have J:=λm d=>h m<|eV _ d;erw[mh];by_cases I:(k==oj)
  .have O:= ~~~I
   subst O;let(c,b):=h n fA;have e:cellOf env n=pure c:=by erw[cellOf];rw[b]
   rw[e,b];show Zq f B r _ J
  .rw[DY I,DY I]
   show Zq f B r j J
theorem J6(h:∀n,(n,oj)∈scope.names->∃c,env.cells.lookup n=aa c):
 f_ scope env=pure (mh env.cells scope.names []):=by
 simp?[f_];rw[Zq _ (λb a z=>by rfl) scope.names [] h];rfl
theorem xf
 (z:Q {scope:=scope,locals:=↥s,globals:=globals,cells:=og (↥s+1) scope.names cl,qual:=qual,func:=af,code:=env.code,frame:=env.frame,builtins:=env.builtins}
   {s with heap:=sa (s.heap.push {cls:=.type "dict",data:=.dict #[]}) scope.names}):
 wpAny M A (P6 scope globals cl [] qual af .none (aa env)) Q E s:=by
 show aL<|wpAny_alloc ?_;show aL<|wpAny_layCells _ (λb a cells=>by rfl) _ _ _ _ ?_;rw[l6 ..];show aL<|bW<|bW z
theorem lB:∀{names}{e},(n,c)∈mh cells names e->(n,c)∈e\/((n,oj)∈names/\cells.lookup n=aa c)
 |[],e,h=>.inl h
 |(m,k)::r,e,h=>by
  erw[mh]at h;rcases lB h with g|⟨h1,h2⟩
  .grind
  .exact .inr (eV _ h1,h2)
theorem Yw:∀{names}{j},((j.lookup n).isSome\/((n,oj)∈names/\(cells.lookup n).isSome))->((mh cells names j).lookup n).isSome
 |[],j,h=>by
  rcases h with h|⟨h,_⟩
  .exact h
  grind
 | (m,k)::r,j,h=>by
  erw[mh];apply Yw;by_cases z:(k==oj)
  .rw[DJ z]
   have J:= ~~~z
   subst J;cases e:cells.lookup m with
   | none=>
    rcases h with h|⟨h1,h2⟩
    .exact .inl h
    .rcases d8.mp h1 with h1|h1
     .cases h1;rw[e]at h2;cases h2
     .exact .inr (h1,h2)
   | some O=>
    dsimp only;by_cases I:n=m
    .subst I;left;simp
    .rcases h with h|⟨h1,h2⟩
     .left;rw[t9];split<;>simp_all
     .rcases d8.mp h1 with h1|h1
      .cases h1;show absurd rfl I
      .exact .inr (h1,h2)
  .rw[DY z]
   rcases h with h|⟨h1,h2⟩
   .exact .inl h
   .rcases d8.mp h1 with h1|h1
    .cases h1;show absurd rfl z
    .exact .inr (h1,h2)
theorem yh:∀{names}{k}{e},(n,c)∈og k names e->(n,c)∈e\/(k<=c/\(n,N8)∈names)
 |[],_,_,h=>.inl h
 | (m,kd)::r,k,e,h=>by
  erw[og]at h;split at h
  .rename_i z
   have I:= ~~~z
   subst I;rcases yh h with h|⟨h1,h2⟩
   .grind
   .exact .inr ((),eV _ h2)
  .rcases yh h with h|⟨h1,h2⟩
   .exact .inl h
   .exact .inr (h1,eV _ h2)
theorem wq:∀{names}{k}{j},(∀p∈j,∀q∈j,p.2=q.2->p.1=q.1)->(∀p∈j,p.2<k)->
 ∀p∈og k names j,∀q∈og k names j,p.2=q.2->p.1=q.1
 |[],_,_,h,_=>h
 | (m,kd)::r,k,j,h,hl=>by
  erw[og];split
  .refine wq (λp hp q hq e=>?_) (λp hp=>?_)
   .rcases d8.mp hp with rfl|hp<;>rcases d8.mp hq with rfl|hq
    .rfl
    .exact absurd (e ▸ hl q hq)<|nU _
    .exact absurd (e ▸ hl p hp)<|nU _
    .exact h p hp q hq e
   .rcases d8.mp hp with rfl|hp
    .exact oY _
    .exact nF<|hl p hp
  .exact wq h hl
theorem YT:∀{names}{h}{e}{n}{c},(n,c)∈og h.objs.size names e->(n,c)∈e\/(sa h names).IsCell c af
 |[],_,_,_,_,hm=>.inl hm
 | (m,kd)::r,h,e,n,c,hm=>by
  erw[og]at hm;erw[sa];split at hm
  .rename_i z
   rw[DJ z];rw[((l6 ..).symm)]at hm;rcases YT hm with hm|hm
   .rcases d8.mp hm with hm|hm
    .cases hm
     have I:(h.push _).IsCell h.objs.size af:=({cls:=.type "cell",data:=.cell af},f9 _ rfl,rfl);show .inr (I.keeps (D7 _ _))
    .exact .inl hm
   .exact .inr hm
  .rename_i z
   rw[DY z];show YT hm
theorem vK{l:zn (Str×e)}(j:(l.map (·.1)).Nodup):∀{n}{a},(n,a)∈l->l.lookup n=aa a:=by
 induction l with
 |nil=>grind
 |cons p r z=>
  grind
theorem ZW(scope)(env)(x):(nD scope env).names.lookup x =
 (scope.names.lookup x).map λk=>if (k==oj&&env.scope.kind ==.function&&env.kindOf x==aa .cell)then N8 else k:=by
 erw[nD];dsimp only;generalize scope.names=l
 induction l with
 |nil=>rfl
 |cons p r z=>
  grind
def yj(scope:cS)(env:eE)(L:ak):eE:=
 {scope:=nD scope env,locals:=L,globals:=env.globals,cells:=og (L+1) scope.names<|mh env.cells scope.names [],qual:=env.qual,func:=af,code:=env.code,frame:=env.frame,builtins:=env.builtins}
def jt(X:Cx)(scope:cS)(z:zn Str)(fp:zn ak)(e:bB)(j:Hp):Cx:=
 {X with N:=z,fy:=e,uj:=j,env:=yj scope ⋯<|↥e+1,outer:=X.stack,stack:=X.stack,ex:=fp,fn:=λx=>scope.names.lookup x==aa .cell,pn:=[],xe:=λ_ _=>False}
structure mQ(X:Cx)(scope:cS)(fr:List (Str×Nat)):Prop where
 kind:scope.kind=.function
 nd:(scope.names.map (·.1)).Nodup
 free:∀p∈scope.names,p.2=oj->⋯.kindOf p.1=aa .cell\/⋯.kindOf p.1=aa .free
 fr:∀p∈fr,scope.names.lookup p.1=aa .free/\X.N[p.2]? = aa p.1
def pw(own:zn Str)(fr:zn (Str×Nat))(e:St):St:=own.map (λ_=>af)++fr.map λp=>(e[p.2]?).join
abbrev Be:e9:={cls:=.type "list",data:=.seq #[]}
abbrev IR:e9:={cls:=.type "dict",data:=.dict #[]}
theorem lM{B:TW}{own:zn Str}{fr:zn (Str×Nat)}{fp:zn ak}(I:Inv X B S H j)(ok:mQ X scope fr)
 (Z:∀b∈fp,XT X B H b) (U:∀b∈fp,∃o,j.heap.get? b=aa o):
 Inv (jt X scope (own++fr.map (·.1)) fp j H) [] (pw own fr S) (upd H ↥j<|.lst []) {j with heap:=sa ((j.heap.push Be).push IR) scope.names}:=by
 have z2:((j.heap.push Be).push IR).objs.size=↥j+2:=by simp_all
 have J:∀n c,(n,c)∈mh ⋯.cells scope.names []->_/\_:=λn c h=>(lB h).resolve_left ();have a6:∀n c,_=aa c->c<_:=λn c h=>by let(v,q):=I.cell n c h;show q.lt
 have a:∀x c,_=aa c->_\/(↥j+2<=c/\(x,N8)∈scope.names):=λx c h=>by
  rcases yh (mem_of_lookup h)with h|h
  .exact .inl<|J x c h
  .exact .inr h
 have F:∀x,_∈scope.names->∃c,_/\_:=λx O=>by
  let(c,l):=I.ok.has x<|ok.free (x,.free) O rfl;have w:((mh ⋯.cells scope.names []).lookup x).isSome:=Yw<|.inr (O,by rw[l];rfl);let(K,G):=u9.mp<|Mz scope.names (↥j+2) _<|.inr w;show(c,l,?_);rcases a x K G with⟨_,q⟩|⟨_,q⟩
  .rw[l]at q;cases q;show G
  .exact absurd ((vK ok.nd q).symm.trans (vK ok.nd O)) ()
 have keep:∀b o,_=aa o->(sa ((j.heap.push Be).push IR) scope.names).get? b=aa o:=λb o e=>
  D7 _ _ b o (cW _<|cW _ e)
 have ac:∀b∈fp,b<_:=λb d=>by let(o,e):=U b d;show ei e
 have ad:∀c,_<c->(upd H ↥j<|.lst []) c=af:=λc l=>by rw[zC (n3 l)];show I.bQ.fresh<|UB l
 let(m0,L):∃m,(sa _ scope.names).Ns _ m:=by have q:=(Heap.Ns.new (j.heap.push Be) (.type "dict")).keeps ((D7 scope.names _));rw[(l6 ..)]at q;show(_,q)
 show((I.ok.mod,ok.kind,I.ok.glob,I.ok.blt,ua _,λx y c w A=>(wq (names:=scope.names) (λp g q hq e=>I.ok.inj p.1 q.1 p.2 (J _ _ g).2 (by rw[e];show(J _ _ hq).2)) (λp g=>by
  show nF<|nF<|a6 p.1 p.2 (J p.1 p.2 g).2)) (x,c) (mem_of_lookup w) (y,c) (mem_of_lookup A) rfl,λx O=>?_,λx c T h=>?_,I.ok.hd,I.ok.frames,.inl rfl,λb d=>(eS<|nF<|ac b d,λx c h z=>?_),I.bs,et I.ok.nP I.sz,λb o e d=>?_,λb d hs=>?_,I.stack,I.u4),
  rfl,I.bare,Un.laid keep (cV _)<|I.bQ.fresh<|cV _,(m0,L,λi x v R f e3=>?_),λx c h=>?_,ad _<|oY _,λx c h=>?_,λp g=>absurd (show p∈([])from g) (),?_,?_)
 .have s:(nD scope ⋯).names.lookup x=aa .cell\/(nD scope ⋯).names.lookup x=aa .free:=O
  have:scope.names.lookup x=aa .cell\/scope.names.lookup x=aa .free:=by
   rw[ZW]at s;cases e:scope.names.lookup x with
   |none=>rw[e]at s;simp at s
   |some k=>
    grind
  rcases this with h|h
  .exact u9.mp<|Mz scope.names _ _<|.inl h
  .let(c,_,A):=F x<|mem_of_lookup h;show(c,A)
 .have M:(scope.names.lookup x==aa .cell):=T
  rcases a x c h with⟨q,_⟩|⟨q,_⟩
  .exact absurd ((vK ok.nd q).symm.trans (~~~M)) ()
  .exact et (nh _ 2) q
 .rcases a x c h with⟨_,q⟩|⟨q,_⟩
  .exact(Z b d).2.2.2.2.1 x c q z
  .exact absurd (hV (ac b d)<|et (nh _ 2)<|z ▸ q)<|nU _
 .rcases (Z b d).2.2.2.1 with q|q
  .exact I.ok.u0 b o e q
  .exact absurd (hV (ei e)<|et I.ok.nP q)<|nU _
 .rcases d8.mp (I.Dv b hs)with q|q
  .exact(Z b d).2.1 q
  .exact(Z b d).2.2.1 q
 .by_cases t:i<pT own
  .unfold pw at f
   rw[oH (~~~t)]at f;simp[nE,t]at f
  .have W:∃p,fr[i-(pT own)]? = aa p/\p.1=x/\(S[p.2]?).join=aa v:=by
    erw[pw]at f;have Y:(own++fr.map (·.1))[i]? = aa x:=R;rw[o3 (),nE]at Y;rw[o3 (~~~t),nE,f7]at f;cases q:fr[i-(pT own)]? with
    |none=>rw[q]at Y;cases Y
    |some p=>
     rw[q]at Y f;show(p,rfl,~~~Y,~~~f)
   show aU λC=>?_;let(p,g,as,r):=W;let(g1,g2):=ok.fr p<|oZ g;show C ?_;rw[as]at g1 g2;have N:=ok.free (x,.free) (mem_of_lookup g1) rfl;let(m,hn,hl):=I.loc;let(u,ru,lk):=hl p.2 x v g2 (by
    cases q:S[p.2]? with
    |none=>rw[q]at r;cases r
    |some o=>rw[q]at r;simpa using r) (by rcases N with k|k;show .inr<|.inl k;show .inr<|.inr k)
   show(u,ru,.inr ?_);show aU λC=>?_;let(c,b3,P):=F x<|mem_of_lookup g1;show C ?_;have Q:j.heap.IsCell c (aa u):=by
    rcases lk with⟨k,_⟩|⟨_,K,e,z⟩
    .lia
    lia
   show(?_,c,P,Q.keeps keep);change(nD scope ⋯).names.lookup x=aa .cell\/(nD scope ⋯).names.lookup x=aa .free;rw[ZW,g1];dsimp?[D1];split
   .exact .inl rfl
   .exact .inr rfl
 .rcases yh (mem_of_lookup h)with q|q
  .let(v,E):=I.cell x c (J x c q).2
   show(v,E.keeps keep)
  .rcases YT (by rw[z2];show(mem_of_lookup h))with q4|q4
   .let(v,E):=I.cell x c (J x c q4).2
    show(v,E.keeps keep)
   .exact(af,q4)
 .rcases a x c h with⟨_,q⟩|⟨q,_⟩
  .rw[zC (eS<|a6 x c q)];show I.nz x c q
  .exact ad c<|hV (nF<|oY _) q
 .refine I.bQ.laid keep (cV _) (g8 _,[],0,.nil,?_)
  show D7 _ _ _ _<|cW _<|f9 _ rfl
 .show(pw own fr S).length=(own++fr.map (·.1)).length
  simp[pw]
theorem zgA(I:Nat->bB->Prop)
 (j : ∀n s,I n s->wpAny (aV prog w) A (oU it) (λr z=>match r with
   |none=>R (.ok .next) z
   | some v=>wpAny (aV prog w) A (zr target it v) (λq z=>wpAny (aV prog w) A (pb target env v) (λq O=>
    wpAny (aV prog w) A (forIn ifs ae λc r=>if r then do let ok<-tu c env (bH c env);pure (T3 ok)else pure (T3 r)) (λok J=>
     if ok then wpAny (aV prog w) A (bH elt env) (λx Y=>
      wpAny (aV prog w) A (call (.builtin "list.append") [acc,x]) (λq Z=>∃m,m<n/\I m Z) (λq q=>False) Y) (λq q=>False) J
     else ∃m,m<n/\I m J) (λq q=>False) O) (λq q=>False) z) (λq q=>False) z) (λq q=>False) s)
 (n) (h:I n s):
 codeAny (aV prog w) A (.compLoop (.ListComp elt [(target,iter,ifs,0)] scope pos) 0 it acc env) R s:=by
 show codeAny_loop rfl I (λn s k=>?_) n h;show wpAny_noted ?_;rw[compTurn_list];show aL<|ou<|aL<|cT (j n s k) (λr z b=>?_) λq q a=>a.elim;cases r with
 |none=>show bW b
 | some v=>
  show aL<|cT b (λq l i=>?_) λq q a=>a.elim;show aL<|cT i (λq O e=>aL<|cT e (λok J d=>?_) λq q a=>a.elim) λq q a=>a.elim;cases ok with
  |false=>show bW (rfl,d)
  |true=>
   show aL<|aL<|cT d (λx Y f=>aL<|cT f (λq Z g=>bW<|bW (rfl,g)) λq q a=>a.elim) λq q a=>a.elim
def LJ(X:Cx)(e:zn bE)(t:TT):Prop:=
 ∀a s b H Q,Inv X a b H s->t b H Q->
  ⇑X (forIn e ae λc r=>if r then do let ok<-tu c ⋯ (bH c ⋯);pure (T3 ok)else pure (T3 r)) (TP X a b Q) X.xe s
def Ry:TT:=λ_ H Q=>Q ae H
theorem W0:LJ X [] Ry:=λq q q H q I h=>wpAny_tests_nil (H,I,h)
theorem lb(h:PT X c t):LJ X [c] t:=λa s d H Q I b=>wpAny_tests_one<|h a s d H Q I b
def CW(J:It)(g:TG)(j:TT)(te:TE)(D:ak)(Q:VK)(W:Nat->Nat->zn V->St->Hp->Prop):Prop:=
 ∀i m a f H,W i m a f H->H D=aa (.lst a)/\((J.stop i H/\Q (.ref D) H)\/(J.go i H/\(pT a)<cP/\∀x e,J.nT i H x e->g x f e λz h=>j z h λb I=>
  if b then te z I λv O=>O D=aa (.lst a)/\∃d,d<m/\W (i+1) d (a++[v]) z (upd O D<|.lst<|a++[v])else ∃d,d<m/\W (i+1) d a z I))
def Lr(X:Cx)(e:TW)(H:Hp)(L:ak):Prop:=
 H L=af/\L≠⋯.locals/\X.fy.heap.objs.size<=L/\(∀x c,⋯.cells.lookup x=aa c->c≠L)/\∀p∈X.pn++e,p.1≠L
theorem Eu
 (hc:X.calm) (I:Inv X pins U H2 s2) (ok:mQ X scope fr) (T:Turn X.prog X.w X.K tg J fp it tn) (st:tn 0 s2.heap) (Z:∀b∈fp,XT X pins H2 b)
 (hg:PG (jt X scope (own++fr.map (·.1)) fp s2 H2) tg g) (ht:LJ (jt X scope (own++fr.map (·.1)) fp s2 H2) ifs tt) (he:PE (jt X scope (own++fr.map (·.1)) fp s2 H2) elt te)
 (hW:∀D,H2 D=af->∃W,(∃m,W 0 m [] (pw own fr U) (upd H2 D<|.lst []))/\CW J g tt te D Q W):
 ⇑X (P7 []) (λH S=>⇑X (P6 scope ⋯.globals (mh ⋯.cells scope.names []) [] ⋯.qual af .none (aa ⋯)) (λac σ=>
  codeAny (aV X.prog X.w) X.A (.compStart (.ListComp elt [(tg,iter,ifs,0)] scope pos) 0 (.ref it) H {ac with scope:=nD scope ⋯})
   (λr B=>(∃f,r=.ok f)/\∃D H',H=.ref D/\Inv X pins U H' B/\Q (.ref D) H'/\(∃m,B.heap.Ns ac.locals m)/\Lr X pins H' ac.locals) σ) E S) E s2:=by
 have ap:∀b∈fp,∃o,_=aa o:=λb a=>by let(o,e,V):=T.obj 0 _ st b a;show(o,e)
 have L:=lM (own:=own) I ok Z ap;show aU λY=>?_;let(W,(m0,w0),cw):=hW _ I.fresh;show Y ?_;show nq<|xf ?_;rw[(l6 ..)];have as:tn 0 (sa ((s2.heap.push Be).push IR) scope.names):=T.keep 0 _ _ st λb V o e=>D7 _ _ b o<|cW _<|cW _ e;have bl:∀b∈fp,b<_:=λb a=>by let(o,e):=ap b a;show ei e
 have ad:∀{H'},(∀b∈fp,H' b=af)->∀b∈fp,XT _ [] H' b:=λhn b a=>
  (hn b a,(L.ok.sY b a).1,L.ok.sZ b a,.inl a,(L.ok.sY b a).2,λp hp=>absurd (show p∈([])from hp) ())
 have av:codeAny (aV X.prog X.w) X.A (.compLoop (.ListComp elt [(tg,iter,ifs,0)] scope pos) 0 (.ref it) (.ref ↥s2)<|yj scope ⋯<|↥s2+1)
  (λr B=>(∃f,r=.ok f)/\∃D H',i3 ↥s2=.ref D/\Inv X pins U H' B/\Q (.ref D) H'/\(∃m,B.heap.Ns (↥s2+1) m)/\Lr X pins H' (↥s2+1)) {s2 with heap:=sa ((s2.heap.push Be).push IR) scope.names}:=by
  show zgA (λn B=>∃i t y H',Inv _ [] y H' B/\tn i B.heap/\(∀b∈fp,H' b=af)/\W i n t y H') ?_ m0
   (0,[],_,_,L,as,λb a=>by rw[zC (eS<|bl b a)];show(Z b a).1,w0)
  rintro n s3 ⟨i,t,h,F,I3,b0,b1,w3⟩;let(hD,bv):=cw i n t h F w3;rcases bv with⟨s,qn⟩|⟨go,hz,step⟩
  .refine cy (T.done (jt X scope _ fp s2 H2) rfl rfl rfl hc i [] s3 h F _ I3 (ad b1) b0 s) λr s4 O=>?_
   let(hr,k):=O;subst hr;show((_,rfl),_,F,rfl,I.F7 k.os k.base k.bQ k.bare<|λb a=>((Z b a).2.2.2.1,(Z b a).2.1,(Z b a).2.2.2.2.1,(Z b a).2.2.2.2.2),qn,?_,k.free,n3<|nF I.lt,N2 I.sz,?_,?_)
   .let(m,hn,_):=k.loc
    show(m,hn)
   .intro x c e z
    let(v,q):=I.cell x c e;show absurd (nF q.lt) (by rw[z];show nU _)
   .intro p hp z
    show absurd (nF<|ei (I.pin p hp).1) (by rw[z];show nU _)
  .refine cy (T.item (jt X scope _ fp s2 H2) rfl rfl rfl hc i [] s3 h F _ I3 (ad b1) b0 go) λr s4 O=>?_
   let(u,hr,h4):=O;subst hr;show cy h4 λV s5 O=>?_;show aU λY=>?_;let(x,H5,I5,r5,y5,R,ca):=O;show Y ?_;show cy (hg _ s5 h H5 x u _ (I5.pinned (ad ca)<|T.obj _ _ R) r5<|step x H5 y5) λV s6 O=>?_;show aU λY=>?_;let(j,H6,I6,q6):=O;show Y ?_;show cy (ht _ s6 j H6 _ I6 q6) λb s7 O=>?_;let(H7,M,q7):=O;have after:∀{C}{G}{N},Inv (jt X scope (own++fr.map (·.1)) fp s2 H2) ([]++_) C G N->_/\∀b∈fp,G b=af:=λ{C G N} l=>by show(T.keep _ _ _ R λb a o e=>(l.pin (b,o)<|ix _<|ix _<|yp a e).1,λb a=>?_);let(o,e,d):=T.obj _ _ R b a;show(l.pin (b,o)<|ix _<|ix _<|yp a e).2.1
   cases b with
   |false=>
    let(m',hm,w7):=q7;show(m',hm,i+1,t,j,H7,M.A5,(after M).1,(after M).2,w7)
   |true=>
    show cy (he _ s7 j H7 _ M q7) λv8 N O=>?_;show aU λY=>?_;let(x8,G,l,r8,b7,m',hm,w8):=O;let(zlR,co,n8,rv,cx,e8):=l.rK b7;show Y ?_;show nZ _t (_,e8,rfl) _p (_M _ _) (_k _ co.toArray n8 v8<|by rw[eW];lia) (e8,?_);have P:=l.LA (f:=(·.push v8)) (t':=N.toks) b7 e8 () (rv.append<|.cons r8 .nil) (by rw[mK,A8];lia);show(m',hm,i+1,t++[x8],j,_,P.A5,(after P).1,(after P).2,w8)
 show zhc av<|T.self _ 0 _ _ _ as av
def rk(j:TI)(own:zn Str)(fr:zn (Str×Nat))(g:TG)(e:TT)(te:TE):TE:=λb H Q=>j b H λJ a=>∀D,a D=af->
 ∃W,(∃m,W 0 m [] (pw own fr b) (upd a D<|.lst []))/\CW J g e te D Q W
section
variable{X:Cx}{scope:cS}{own:zn Str}{fr:zn (Str×Nat)}{elt tg iter:bE}{ifs:zn bE}{pos:cH}{wi:TI}{g:TG}{tt:TT}{te:TE}
theorem mf
 (σ:X.calm) (ok:mQ X scope fr) (hi:PI X tg iter wi) (z:∀fp B j,PG (jt X scope (own++fr.map (·.1)) fp B j) tg g)
 (O:∀fp B j,LJ (jt X scope (own++fr.map (·.1)) fp B j) ifs tt) (W:∀fp B j,PE (jt X scope (own++fr.map (·.1)) fp B j) elt te)
 (I:Inv X pins U H s) (h:rk wi own fr g tt te U H Q)
 (Y:∀D H' S L,Inv X pins U H' S->Q (.ref D) H'->(∃m,S.heap.Ns L m)->Lr X pins H' L->
   compPost (aV X.prog X.w) X.A X.xe use R (.ref D) L (.ok .next) S)
 (hs:∀x,ij iter ⋯ x=pure x:=by intro _;rfl):
 ⇑X (Pn (.ListComp elt [(tg,iter,ifs,0)] scope pos) scope ⋯ (firstIterPos [(tg,iter,ifs,0)] pos) (P7 []) aF (bH iter ⋯) use) R X.xe s:=by
 show wpAny_comprehension_free rfl hs (J6 λn a=>I.ok.has n<|ok.free (n,.free) a rfl) ok.kind (λx Z e=>by rw[<-e];show vK ok.nd Z) ?_;show cy (hi pins s U H _ I h) λv P p=>cy p λM B t=>?_;show aU λK=>?_;let(N,fp,tn,J,j,e,d,T,i,f2,F):=t;show K ?_;subst e;show cy (Eu σ d ok T i f2 (z fp B j) (O fp B j) (W fp B j) F) λl s3 u=>cy u λk s4 C=>pS C λr S E=>?_;let((f,G),D,H',o,b,q,a,y):=E;subst G;subst o;cases use<;>show(Y D H' S k.locals b q a y)
theorem gc(B:X.calm)(ok:mQ X scope fr)(U:PI X tg iter wi)(z:∀fp j e,PG (jt X scope (own++fr.map (·.1)) fp j e) tg g)
 (J:∀fp j e,LJ (jt X scope (own++fr.map (·.1)) fp j e) ifs tt) (S:∀fp j e,PE (jt X scope (own++fr.map (·.1)) fp j e) elt te)
 (hs:∀x,ij iter ⋯ x=pure x:=by intro _;rfl):
 PE X (.ListComp elt [(tg,iter,ifs,0)] scope pos) (rk wi own fr g tt te):=by
 intro a s t H Q I h;rw[eval_ListComp];show mf B ok U z J S I h (λD b r L O q f y=>?_) hs;let(m,d):=f;let(Y,Z,k,l,o):=y;show(m,d,λp i=>(.ref D,b,O.turned i.extBut Y Z (.inr k) l o,rfl,q))
theorem QW(z:X.N.Nodup)(J:X.N[i]? = aa y)(O:Loc ⋯.scope y)(W:X.fn y\/⋯.scope.names.lookup y=aa .local)
 (S:X.calm) (ok:mQ X scope fr) (hi:PI X tg iter wi) (Y:∀fp B j,PG (jt X scope (own++fr.map (·.1)) fp B j) tg g)
 (Z:∀fp B j,LJ (jt X scope (own++fr.map (·.1)) fp B j) ifs tt) (σ:∀fp B j,PE (jt X scope (own++fr.map (·.1)) fp B j) elt te)
 (hs:∀x,ij iter ⋯ x=pure x:=by intro _;rfl):
 PS X (.Assign [.Name y py] (.ListComp elt [(tg,iter,ifs,0)] scope pos) spos) (WH (rk wi own fr g tt te)<|yY i):=by
 have d:∃b,hU (.ListComp elt [(tg,iter,ifs,0)] scope pos) (aa (.Name y py)) spos.line ⋯=pure b:=(_,rfl);let(b,d):=d;cases b with
 |false=>
  have t:L6 [.Name y py] (.ListComp elt [(tg,iter,ifs,0)] scope pos) spos.line ⋯=_:=rfl;show cp (gc S ok hi Y Z σ hs) (tf z J O W) (by rw[t];show d)
 | true=>
  intro f s U H D I h;rw[zhL _ _ _ _ d];show aL<|ou<|aL ?_;show aL<|cy (mf S ok hi Y Z σ I h (λl Q E L o q A P=>?_) hs) λn E q=>bW<|bW q;show aU λC=>?_;let(G,k,K,y4,M):=P;let(m,w):=A;show C ?_;show zlB<|bw o z J O (v:=.ref l) rfl (λR p ad=>?_) W;let(a,F,u):=ad;show(m,w.sameBut F (by
   rcases u with e|e
   .rw[e];show k
   .exact dh<|y4 _ _ e),λT r=>(_,_,p.turned r.extBut G k (.inr K) y4 M,q))
end
inductive Sk where
 |L|T
 deriving DecidableEq
end L2
namespace DL
open PySem L2
inductive D where
 |cI|bl (b:Bool)|int (i:Int)|str (x:Str)|tup (xs:List D)|lst (xs:List D)
 |exc (c:Str) (n:Option Int)
 |gC (ks vs:List D)
 |hO (ks:List (List Int)) (vs:List D)
 |ins (c:Str) (p t:D)
inductive Cell where
 |no|val (d:D)|own (ds:List D)|nest (rows:List (List D))
abbrev Ctx:=zn Cell
abbrev CO (a : Type) := Ctx -> xz a
abbrev vI(n:Int):Cell:=.val (.int n)
def lim:Nat:=2500
def qg:D->xz (Sk×zn D)
 |.tup a=>aa (.T,a)
 |.lst a=>aa (.L,a)
 |_=>af
def zU(f:CO D)(M:Ctx):xz (Sk×zn D):=(f M).bind qg
def j7(f:CO (zn D))(M:Ctx):xz D:=(f M).map D.lst
def z7(f:CO (zn D))(M:Ctx):xz (Sk×zn D):=(f M).map λa=>Prod.mk Sk.L a
def Aw:xz Cell->xz D
 |some (.val d)=>aa d
 |_=>af
def Zr:xz Cell->xz (Sk×zn D)
 |some (.val d)=>qg d
 |some (.own ds)=>aa (.L,ds)
 |_=>af
def zf(i:Nat)(M:Ctx):xz D:=Aw M[i]?
def zk(i:Nat)(M:Ctx):xz (Sk×zn D):=Zr M[i]?
def zJ(d:D):CO D:=λ_=>aa d
abbrev sI(n:Int):CO D:=zJ (.int n)
def zF(F:D->D->xz D)(e j:CO D)(M:Ctx):xz D:=(e M).bind λx=>(j M).bind λy=>F x y
def nN:D->xz Bool
 |.bl b=>aa b
 |_=>af
def gP:D->xz Int
 |.int i=>aa i
 |_=>af
def sB(f:CO D)(M:Ctx):xz Bool:=(f M).bind nN
def BM(f g:CO Bool)(M:Ctx):xz Bool:=(f M).bind λb=>if b then g M else aa aF
def iL(f g:CO Bool)(M:Ctx):xz Bool:=(f M).bind λb=>if b then aa ae else g M
def jY(f:CO Bool)(M:Ctx):xz Bool:=(f M).map λb=> !b
def Bd(f g:CO D)(M:Ctx):xz D:=((f M).bind nN).bind λb=>if b then g M else aa (.bl aF)
def RH(f:CO D)(M:Ctx):xz D:=((f M).bind nN).map λb=>.bl (!b)
def fi(c:CO Bool)(f g:CO D)(M:Ctx):xz D:=(c M).bind λb=>if b then f M else g M
def zA:CO (zn D):=λ_=>aa []
def za(f:CO D)(g:CO (zn D))(M:Ctx):xz (zn D):=(f M).bind λx=>(g M).map λr=>x::r
def qf(f:CO (zn D))(M:Ctx):xz D:=(f M).bind λa=>if a.length<=lim then aa (.tup a)else af
def qi(f:CO (zn D))(M:Ctx):xz (zn D):=(f M).bind λa=>if a.length<=lim then aa a else af
inductive Res where
 |val (d:D)|own (ds:List D)
inductive Fl where
 |next (M:Ctx)|brk (M:Ctx)|cont (M:Ctx)|ret (r:Res)
def jN(M:Ctx):xz Fl:=aa (.next M)
def zV(F G:CO Fl):CO Fl:=λd=>(F d).bind λb=>match b with
 |.next a=>G a
 |f=>aa f
def qv(f:CO D)(M:Ctx):xz Fl:=(f M).map λd=>.ret (.val d)
def yW(f:CO (zn D))(M:Ctx):xz Fl:=(f M).map λd=>.ret (.own d)
def gY:xz Cell->xz Fl
 |some (.val d)=>aa (.ret<|.val d)
 |some (.own ds)=>aa (.ret<|.own ds)
 |_=>af
def bK(i:Nat)(M:Ctx):xz Fl:=gY M[i]?
def Mx(M:Ctx):xz Fl:=aa (.cont M)
def jP:CO Fl:=λ_=>af
def dt(k:CO Bool)(F G:CO Fl)(M:Ctx):xz Fl:=(k M).bind λb=>if b then F M else G M
def jT(i:Nat)(f:CO D)(M:Ctx):xz Fl:=(f M).map λd=>.next (M.set i<|.val d)
def xU(i:Nat)(f:CO (zn D))(M:Ctx):xz Fl:=(f M).map λa=>.next (M.set i<|.own a)
def rT(f:CO D)(M:Ctx):xz Fl:=(f M).map λ_=>.next M
def Zs:xz Cell->xz (zn D)
 |some (.own ds)=>aa ds
 |_=>af
def jQ(i:Nat)(f:CO D)(M:Ctx):xz Fl:=(Zs M[i]?).bind λa=>(f M).bind λd=>if a.length<lim then aa (.next<|M.set i<|.own<|a++[d])else af
def z9(n:Nat)(e:zn D):Ctx:=e.map Cell.val++cK (n-e.length) Cell.no
def jq(n:Nat)(F:CO Fl)(ds:zn D):xz Res:=(F<|z9 n ds).bind λfl=>match fl with
 |.ret r=>aa r
 |.next _=>aa (.val .cI)
 |_=>af
def nB:Res->D
 |.val d=>d
 |.own a=>.lst a
def zD(F:zn D->xz Res)(g:CO (zn D))(M:Ctx):xz D:=(g M).bind λa=>(F a).map nB
def TQ:Res->xz (zn D)
 |.own a=>aa a
 |_=>af
def jA(F:zn D->xz Res)(g:CO (zn D))(M:Ctx):xz (zn D):=(g M).bind λa=>(F a).bind TQ
def JK(lo:Int)(n:Nat):zn D:=(aT n).map λ(i:Nat)=>D.int<|lo+(i:Int)
def Vk(e j:zn D):zn D:=(e.zip j).map λp=>D.tup [p.1,p.2]
def zT(f:CO (Sk×zn D))(M:Ctx):xz (zn D):=(f M).map (·.2)
def inR(i:Int):Bool:=decide<|i.natAbs<2^62
def jE(f:CO D)(M:Ctx):xz (zn D):=((f M).bind gP).bind λn=>if inR n then aa (JK 0 n.toNat)else af
def KN(f g:CO D)(M:Ctx):xz (zn D):=((f M).bind gP).bind λm=>((g M).bind gP).bind λn=>if inR m/\inR n then aa (JK m (n-m).toNat)else af
def WM(f g:CO D)(M:Ctx):xz (zn D):=((f M).bind qg).bind λm=>((g M).bind qg).map λn=>Vk m.2 n.2
inductive Tg where
 |nm (i:Nat)|tp (is:List Nat)
def xT:zn Nat->zn D->Ctx->Ctx
 |i::is,d::ds,M=>xT is ds<|M.set i<|.val d
 |_,_,M=>M
def qy:Tg->D->CO Ctx
 |.nm i,d,M=>aa (M.set i<|.val d)
 |.tp is,.tup ds,M=>if ds.length=is.length then aa (xT is ds M)else af
 |_,_,_=>af
def vM(T:Tg)(F:CO Fl):zn D->CO Fl
 |[],a=>aa (.next a)
 |d::b,a=>(qy T d a).bind λI=>(F I).bind λe=>match e with
  |.next z=>vM T F b z
  |.cont z=>vM T F b z
  |.brk z=>aa (.next z)
  |.ret r=>aa (.ret r)
def Kj(e:CO (zn D))(T:Tg)(F:CO Fl)(M:Ctx):xz Fl:=(e M).bind λa=>vM T F a M
def yX:Cell->Cell
 |.own _=>.no
 |.nest _=>.no
 |c=>c
def jj(n:Nat)(fr:zn Nat)(M:Ctx):Ctx:=cK n Cell.no++fr.map λj=>yX<|M[j]?.getD .no
def zM(T:Tg)(k:CO Bool)(f:CO D)(M:Ctx):zn D->xz (zn D)
 |[]=>aa []
 |d::ds=>(qy T d M).bind λz=>(k z).bind λb=>if b then (f z).bind λe=>(zM T k f M ds).map λr=>e::r else zM T k f M ds
def zL(e:CO (zn D))(T:Tg)(n:Nat)(fr:zn Nat)(k:CO Bool)(f:CO D)(M:Ctx):xz (zn D):=(e M).bind λa=>if a.length<=lim then zM T k f (jj n fr M) a else af
def jh:CO Bool:=λ_=>aa ae
def Tg.idx:Tg->zn Nat
 |.nm i=>[i]
 |.tp is=>is
def dI(g:Int->Int->D):D->D->xz D
 |.int i,.int j=>aa (g i j)
 |_,_=>af
def Di(c:Int->Int->Bool)(g:Int->Int->D):D->D->xz D
 |.int i,.int j=>if c i j then aa (g i j)else af
 |_,_=>af
def Vj:D->D->xz D:=dI λi j=>.int (i-j)
def pd(i j:Int):Bool:=decide (i.natAbs<2^64) || decide (j.natAbs<2^64)
def On(_ j:Int):Bool:=decide (0<j)&&decide (j.natAbs<1073741824)
def Vz:D->D->xz D:=Di On λi j=>.int (i/j)
def PH(_ j:Int):Bool:=decide<|0<j
def kM:D->D->xz D:=Di PH λi j=>.int (i%j)
def Om(i j:Int):Bool:=decide (0<=j)&&decide (j.natAbs<=1000000)&&decide (i.natAbs<2^64)
def IT:D->D->xz D:=Di Om λi j=>.int (i^j.toNat)
def pk:D->D->xz D:=dI λi j=>.bl (decide<|i<j)
def mR:D->D->xz D:=dI λi j=>.bl (decide<|i<=j)
def ph:D->D->xz D:=dI λi j=>.bl (decide<|j<i)
def Dh:D->D->xz D:=dI λi j=>.bl (decide<|j<=i)
def qM:D->D->xz D
 |.int i,.int j=>aa (.int<|i+j)
 |.tup xs,.tup ys=>if xs.length+ys.length<=lim then aa (.tup<|xs++ys)else af
 |_,_=>af
def wM:D->D->xz D
 |.int i,.int j=>if pd i j then aa (.int<|i*j)else af
 |.tup xs,.int j=>if xs.length*j.toNat<=lim/\inR j then aa (.tup (cK j.toNat xs).flatten)else af
 |_,_=>af
def wL(f g:CO (Sk×zn D))(M:Ctx):xz (zn D):=(f M).bind λa=>(g M).bind λb=>
 match a.1,b.1 with
 |.L,.L=>if a.2.length+b.2.length<=lim then aa (a.2++b.2)else af
 |_,_=>af
def Hf(f:CO (Sk×zn D))(g:CO D)(M:Ctx):xz (zn D):=(f M).bind λa=>((g M).bind gP).bind λj=>
 match a.1 with
 |.L=>if a.2.length*j.toNat<=lim/\inR j then aa (cK j.toNat a.2).flatten else af
 |_=>af
def eL(n:Nat)(i:Int):xz Nat:=if 0<=i/\i<n then aa i.toNat else if i<0/\0<=i+n then aa (i+n).toNat else af
def aR(f:CO (Sk×zn D))(g:CO D)(M:Ctx):xz D:=(f M).bind λa=>((g M).bind gP).bind λi=>(eL a.2.length i).bind λk=>a.2[k]?
def iK(i:Nat)(g f:CO D)(M:Ctx):xz Fl:=(f M).bind λd=>(Zs M[i]?).bind λa=>((g M).bind gP).bind λk=>(eL a.length k).map λj=>.next (M.set i<|.own<|a.set j d)
def aH(n dflt:Nat):xz Int->Nat
 |none=>dflt
 |some i=>if i<0 then (i+n).toNat else min i.toNat n
def me(xs:zn D)(lo e:xz Int):zn D:=(xs.drop<|aH xs.length 0 lo).take (aH xs.length xs.length e-aH xs.length 0 lo)
def Jz:CO (xz Int):=λ_=>aa af
def eo(f:CO D)(M:Ctx):xz (xz Int):=((f M).bind gP).map aa
def rO(f:CO D)(l h:CO (xz Int))(M:Ctx):xz D:=(f M).bind λd=>(l M).bind λlo=>(h M).bind λa=>match d with
 |.tup b=>aa (.tup<|me b lo a)
 |_=>af
def X3(f:CO (Sk×zn D))(M:Ctx):xz D:=(f M).map λa=>.int a.2.length
inductive Ty where
 |int|bool|str|tuple|list
 deriving DecidableEq
@[simp] def Fx:D->Bool
 |.int _=>ae
 |.bl _=>ae
 |_=>aF
@[simp] def NT:D->Bool
 |.bl _=>ae
 |_=>aF
@[simp] def Fv:D->Bool
 |.str _=>ae
 |_=>aF
@[simp] def Ft:D->Bool
 |.tup _=>ae
 |_=>aF
@[simp] def Fw:D->Bool
 |.lst _=>ae
 |_=>aF
def Bg:Ty->D->Bool
 |.int=>Fx
 |.bool=>NT
 |.str=>Fv
 |.tuple=>Ft
 |.list=>Fw
def z8(T:Ty)(f:CO D)(M:Ctx):xz D:=(f M).map λd=>.bl (Bg T d)
@[simp] def y9:D->Bool
 |.cI=>ae
 |_=>aF
@[simp] def eqB(a:Bool):D->Bool
 |.bl b=>a==b
 |.int b=>(if a then 1 else 0)==b
 |_=>aF
@[simp] def eqI(a:Int):D->Bool
 |.bl b=>a==(if b then 1 else 0)
 |.int b=>a==b
 |_=>aF
@[simp] def Py(a:Str):D->Bool
 |.str b=>a==b
 |_=>aF
@[simp] def eqX(a:Str)(i:xz Int):D->Bool
 |.exc b j=>a==b&&i==j
 |_=>aF
mutual
def fx:D->D->Bool
 |.cI,y=>y9 y
 |.bl a,y=>eqB a y
 |.int a,y=>eqI a y
 |.str a,y=>Py a y
 |.tup xs,y=>match y with
  |.tup e=>oB xs e
  |_=>aF
 |.lst xs,y=>match y with
  |.lst e=>oB xs e
  |_=>aF
 |.exc a i,y=>eqX a i y
 |.gC a b,y=>match y with
  |.gC c d=>oB a c&&oB b d
  |_=>aF
 |.hO a b,y=>match y with
  |.hO c d=>a==c&&oB b d
  |_=>aF
 |.ins a b c,y=>match y with
  |.ins z I J=>a==z&&(fx b I&&fx c J)
  |_=>aF
def oB:zn D->zn D->Bool
 |[],[]=>ae
 |x::xs,y::ys=>fx x y&&oB xs ys
 |_,_=>aF
end
mutual
def deep:D->Nat
 |.tup a=>oA a+1
 |.lst a=>oA a+1
 |_=>0
def oA:zn D->Nat
 |[]=>0
 |x::xs=>max (deep x)<|oA xs
end
mutual
def ff:D->Bool
 |.str x=>x.cps.all (· < 0x110000)
 |.exc _ _=>aF
 |.gC _ _=>aF
 |.hO _ _=>aF
 |.ins _ _ _=>aF
 |.tup a=>mm a
 |.lst a=>mm a
 |_=>ae
def mm:zn D->Bool
 |[]=>ae
 |x::xs=>ff x&&mm xs
end
def f6(d:D):Bool:=decide (deep d<=20)&&ff d
def cO(x y:D):xz D:=if f6 x/\f6 y then aa (.bl<|fx x y)else af
def gQ(x y:D):xz D:=if f6 x/\f6 y then aa (.bl<|!fx x y)else af
def LF:D->D->xz D
 |x,.cI=>aa (.bl<|match x with|.cI=>ae|_=>aF)
 |_,_=>af
def jk(f:CO (Sk×zn D))(M:Ctx):xz D:=(f M).map λa=>.tup a.2
def rQ(f:CO (Sk×zn D))(M:Ctx):xz (zn D):=(f M).map λa=>a.2
def rz:zn D->xz Int
 |[]=>aa 0
 |.int i::r=>(rz r).map λs=>i+s
 |_::_=>af
def Ly(f:CO (Sk×zn D))(M:Ctx):xz D:=(f M).bind λa=>(rz a.2).map D.int
def OJ:D->xz Bool
 |.cI=>aa aF
 |.bl b=>aa b
 |.int i=>aa (i != 0)
 |_=>af
def XY:zn D->xz (zn Bool)
 |[]=>aa []
 |d::r=>(OJ d).bind λb=>(XY r).map λs=>b::s
def iO(f:CO (Sk×zn D))(M:Ctx):xz D:=(f M).bind λa=>(XY a.2).map λs=>.bl (s.all id)
def Lz(f:CO (Sk×zn D))(M:Ctx):xz D:=(f M).bind λa=>(XY a.2).map λs=>.bl (s.any id)
def QS(f:CO D)(M:Ctx):xz D:=(f M).bind λd=>match d with
 |.int i=>aa (.int i)
 |.bl b=>aa (.int<|if b then 1 else 0)
 |_=>af
def BH(f:CO (Sk×zn D))(M:Ctx):xz Bool:=(f M).map λa=> !a.2.isEmpty
def eZ(f:CO D):CO D:=λa=>((f a).bind gP).map λi=>.int (-i)
def wH(F G:D->D->xz D)(e j B:CO D):CO D:=λa=>(e a).bind λx=>(j a).bind λy=>((F x y).bind nN).bind λb=>if b then (B a).bind λz=>G y z else aa (.bl aF)
def BI(T:Tg)(f:CO D)(M:Ctx):xz Fl:=(f M).bind λd=>(qy T d M).map .next
end DL
namespace L2
open PySem PySem.Spec PyProof.Rows
def hI(k:Sk)(h:bN)(i l:ak)(n:Nat):Prop:=match k with
 |.L=>h.IsListIter i l n
 |.T=>h.IsTupleIter i l n
def lT(k:Sk)(h:bN)(l:ak)(xs:Array aN):Prop:=match k with
 |.L=>h.IsList l xs
 |.T=>h.IsTuple l xs
def i7(k:Sk)(l:ak):e9:=match k with
 |.L=>{cls:=.type "list_iterator",data:=.fields #[.ref l,.int 0 0]}
 |.T=>{cls:=.type "tuple_iterator",data:=.fields #[.ref l,.int 0 0]}
theorem hI.at(x:hI k h i l n)(e:∀o,h.get? i=aa o->h'.get? i=aa o):hI k h' i l n:=by cases k<;>show let (o,z,r):=x;(o,e _ z,r)
theorem lT.at(x:lT k h l xs)(e:∀o,h.get? l=aa o->h'.get? l=aa o):lT k h' l xs:=by cases k<;>show let (o,z,r):=x;(o,e _ z,r)
theorem hI.obj(x:hI k h i l n):∃o,h.get? i=aa o/\∀v,o.data ≠ .cell v:=by cases k<;>show let (o,I,_,d):=x;(o,I,λv z=>by rw[d]at z;cases z)
theorem lT.lt(x:lT k h l xs):l<h.objs.size:=by cases k<;>show let (o,z,_):=x;ei z
theorem V9(k)(h:bN)(l):hI k (h.push<|i7 k l) h.objs.size l 0:=by cases k<;>show(_,f9 _ rfl,rfl,rfl)
section
variable{prog:cQ}{w:cN}{A:ec}{E:EQ}{s:bB}
theorem dz(z:lT k s.heap l xs)(I:Q (.ref ↥s) {s with heap:=s.heap.push (i7 k l)}):wpAny (aV prog w) A (zv<|.ref l) Q E s:=by
 cases k
 .exact _e z I
 .exact T4 z I
theorem JX(J:hI k s.heap it l i)(O:lT k s.heap l items)(Y:items[i]? = aa x)
 (Z:∀h',hI k h' it l (i+1)->pQ it s.heap h'->Q x {s with heap:=h'}):wpAny (aV prog w) A (S9<|.ref it) Q E s:=by
 cases k with
 |L=>show wpAny_nextOf_list_item J O Y Z
 |T=>
  have I:=J;let(o,z,e,a):=id I;let(g,b,q,f,d):=(O);erw[S9];show aL<|se I.typeIs Tt<|om Tt I.typeIs zhG ?_ (zgR _);show aL (m:=field (.ref it) 0)<|gv z a (x:=.ref l) rfl ?_;show aL<|gv z a rfl ?_;show aL<|t5 b d ?_;simp?[_s,Y];show aL<|Uv z a ()<|bW (x,rfl,bW<|Z _ (_,oI _ z<|_y<|N1 a _,(Obj.cls_mapFields ..).trans e,by rw[N1 a];rfl)<|pQ.update ..)
theorem ai(z:A.handled=af)(O:hI k s.heap it l i)(Y:lT k s.heap l items)(Z:items[i]? = af)
 (hE:∀h' e,Heap.ExtBut it s.heap h'->(∃o,h'.get? e=aa o/\o.cls=.type "StopIteration")->E (.ref e) {s with heap:=h'}):wpAny (aV prog w) A (S9 (.ref it)) Q E s:=by
 cases k with
 |L=>show wpAny_nextOf_list_end z O Y Z hE
 |T=>
  have I:=O;let(o,J,f,a):=id I;let(h,b,q,g,d):=(Y);erw[S9];show aL<|se I.typeIs Tt<|om Tt I.typeIs zhG ?_ (zgR _);show aL (m:=field (.ref it) 0)<|gv J a (x:=.ref l) rfl ?_;show aL<|gv J a rfl ?_;show aL<|t5 b d ?_;simp?[_s,Z];show aL<|q0<|aL<|Uv J a () ?_;show aL ?_;simp?[newExc,newTuple];show aL<|nq ?_ (by size_fits);show aL<|mu (by rfl) ?_;show nq ?_ (by size_fits);simp?[R0];show aL<|wpAny_handled ?_
  first|rw[z]|rw[z]
  show aL<|bW<|wpAny_throw<|hE _ _ (((pQ.update ..).extBut.push _).push _) (_,f9 _ rfl,rfl)
theorem zjT{z TI TO Z B H S:ak}{Q:EQ}(D:ZipApart z TI TO Z B H S)
 (j:xb s.heap z TI TO .none) (b3:nK s.heap TI (.ref Z) (.ref B)) (b4:nK s.heap TO a b)
 (h1:hI k1 s.heap Z H U) (h2:hI k2 s.heap B S W) (b5:lT k1 s.heap H xs) (b6:lT k2 s.heap S ys) (hx:xs[U]? = aa x) (hy:ys[W]? = aa y)
 (hQ:∀h',xb h' z TI TO (zz ↥s)->nK h' TO x y->hI k1 h' Z H (U+1)->hI k2 h' B S (W+1)->nK h' ↥s x y->h'.objs.size=↥s+1->
   (∀c o,c≠z->c≠TO->c≠Z->c≠B->s.heap.get? c=aa o->h'.get? c=aa o)->Q (.ref ↥s) {s with heap:=h'}):
 wpAny (aV prog w) A (Builtin.«zip.__next__» ([.ref z],[])) (λbb s'=>∃v,bb=.done (.ret v)/\Q v s') E s:=by
 show aL (m:=field (.ref z) 2)<|gv j rfl (x:=.bool aF) rfl ?_;show aL<|gv j rfl rfl ?_;show aL<|t5 b3 rfl ?_;show aL ?_;erw[O_];show aL<|gv j rfl rfl<|bW ?_;simp?[if_true];show aL<|q0<|aL<|gv j rfl rfl ?_;show aL<|oF j () λg1 ad I=>?_;replace ad:=ad;show aL ?_;simp?[List.zipIdx_cons,List.zipIdx_nil,List.forIn_cons,List.forIn_nil];show aL<|aL<|Ut ?_;show aL<|JX (h1.at λo e=>I.extBut _ _ D.i1z e) (b5.at λo e=>I.extBut _ _ D.l1z e) hx λg2 X J=>bW ?_;have L:=J.extBut _ _ D.TOi1<|I.extBut _ _ D.TOz b4;show aL<|t5 L rfl<|aL<|_j L λg3 r O=>?_;replace r:=r;show aL<|OS<|bW<|aL<|aL<|Ut ?_;show aL<|JX (h2.at λo e=>O.extBut _ _ D.TOi2.symm<|J.extBut _ _ D.i12.symm<|I.extBut _ _ D.i2z e) (b6.at λo e=>O.extBut _ _ D.l2TO<|J.extBut _ _ D.l2i1<|I.extBut _ _ D.l2z e) hy λg4 be f=>bW ?_;have M:=f.extBut _ _ D.TOi2 r;show aL<|t5 M rfl<|aL<|_j M λY i g=>?_;replace i:nK Y TO x y:=i;show aL<|OS<|bW<|bW<|aL<|t5 i rfl<|aL<|Uw ?_;have h:Y.objs.size=↥s:=by simp?[g.1,f.1,O.1,J.1,I.1]
 have N:=g.extBut _ _ D.TOz.symm (f.extBut _ _ D.i2z.symm (O.extBut _ _ D.TOz.symm (J.extBut _ _ D.i1z.symm ad)));have P:=ei N;show aL ?_;erw[zen];have bf:xb (Y.push {cls:=.type "tuple",data:=.seq #[x,y]}) z TI TO .ellipsis:=cW _ N;show aL (oF bf () λg7 t u=>?_);replace t:xb g7 z TI TO (zz Y.objs.size):=t;show oF t () λK k C=>?_;replace k:=k;have p c o:c≠z->Y.get? c=aa o->K.get? c=aa o:=λd e=>C.extBut _ _ d (u.extBut _ _ d (cW _ e));have R:=C.extBut _ _ (n3 P) (u.extBut _ _ (n3 P) (f9 _ rfl));have T:K.objs.size=Y.objs.size+1:=by rw[C.1,u.1,l6]
 rw[h]at k R T;show bW (_,rfl,?_);rw[h];show hQ K k (p _ _ D.TOz i) ((X.at λo e=>g.extBut _ _ D.TOi1.symm<|f.extBut _ _ D.i12<|O.extBut _ _ D.TOi1.symm e).at λo e=>p _ o D.i1z e) ((be.at λo e=>g.extBut _ _ D.TOi2.symm e).at λo e=>p _ o D.i2z e) R T λc o d l F G e=>p c o d<|(λc o d l F G e=>g.extBut _ _ l<|f.extBut _ _ G<|O.extBut _ _ l<|J.extBut _ _ F<|I.extBut _ _ d e) c o d l F G e
theorem Bk{z TI TO Z B H S:ak}(hh:A.handled=af)(D:ZipApart z TI TO Z B H S)
 (j:xb s.heap z TI TO .none) (ap:nK s.heap TI (.ref Z) (.ref B)) (as:nK s.heap TO a b)
 (W:hI k1 s.heap Z H U) (h2:hI k2 s.heap B S n2) (ad:lT k1 s.heap H xs) (av:lT k2 s.heap S ys) (b0:xs[U]? = af\/ys[n2]? = af)
 (hE:∀h' e,(∀c o,c≠z->c≠TO->c≠Z->c≠B->s.heap.get? c=aa o->h'.get? c=aa o)->(∃o,h'.get? e=aa o/\o.cls=.type "StopIteration")->E (.ref e) {s with heap:=h'}):
 wpAny (aV prog w) A (Builtin.«zip.__next__» ([.ref z],[])) Q E s:=by
 show aL (m:=field (.ref z) 2) (gv j rfl (x:=.bool aF) rfl ?_);show aL (gv j rfl rfl ?_);show aL (t5 ap rfl ?_);show aL ?_;erw[O_];show aL (gv j rfl rfl (bW ?_));simp?[if_true];show aL (q0 (aL (gv j rfl rfl ?_)));show aL (oF j () λg1 k I=>?_);replace k:=k;show aL ?_;simp?[List.zipIdx_cons,List.zipIdx_nil,List.forIn_cons,List.forIn_nil];show aL (aL (Ut ?_));have u:∀{g e}{Y},xb g z TI TO .ellipsis->(∀c o,c≠z->c≠TO->c≠Z->c≠B->_=aa o->g.get? c=aa o)->g.get? e=aa Y->Y.cls=.type "StopIteration"->
  wpAny (aV prog w) A (R7 (.ref z) 0 .none) (λv F=>E (.ref e) F) E {s with heap:=g}:=λ{g e Y} t hk f h=>by
  show oF t () λg3 v O=>hE g3 e (λc o d l i p q=>O.extBut _ _ d<|hk c o d l i p q) (Y,O.extBut _ _ (λq=>by lia) f,h)
 cases hx:xs[U]? with
 |none=>
  show aL<|ai hh (W.at λo e=>I.extBut _ _ D.i1z e) (ad.at λo e=>I.extBut _ _ D.l1z e) hx λg2 e J r=>?_;let(Y,f,h):=r;show u (J _ _ D.i1z.symm k) (λc o d v i v q=>J _ _ i<|I.extBut _ _ d q) f h
 |some x=>
  show aL<|JX (W.at λo e=>I.extBut _ _ D.i1z e) (ad.at λo e=>I.extBut _ _ D.l1z e) hx λg2 G J=>bW ?_;have y:=J.extBut _ _ D.TOi1<|I.extBut _ _ D.TOz as;show aL<|t5 y rfl<|aL<|_j y λg3 K O=>?_;show aL<|OS<|bW<|aL<|aL<|Ut ?_;show aL<|ai hh (h2.at λo e=>O.extBut _ _ D.TOi2.symm<|J.extBut _ _ D.i12.symm<|I.extBut _ _ D.i2z e) (av.at λo e=>O.extBut _ _ D.l2TO<|J.extBut _ _ D.l2i1<|I.extBut _ _ D.l2z e) () λL e C r=>?_;let(Y,f,h):=r;show u (C _ _ D.i2z.symm<|O.extBut _ _ D.TOz.symm<|J.extBut _ _ D.i1z.symm k) (λc o d l i p q=>C _ _ p<|O.extBut _ _ l<|J.extBut _ _ i<|I.extBut _ _ d q) f h
end
def Ye(a b:aN):e9:={cls:=.type "tuple",data:=.seq #[a,b]}
def Rf(TI TO:ak):e9:={cls:=.type "zip",data:=.fields #[.none,.bool aF,.bool aF,.ref TI,.ref TO]}
def fm(k1 k2:Sk)(h:bN)(z I:ak):bN:=
 gW (gW (gW (gW (gW h<|i7 k1 z)<|i7 k2 I)<|Ye (.ref h.objs.size)<|.ref<|h.objs.size+1)<|Ye .none .none) (Rf (h.objs.size+2)<|h.objs.size+3)
theorem Bj(k1 k2)(z I)(xs j):
 C4 (Builtin.«zip.__new__» ([.type "zip",.ref z,.ref I],[])) (λq R s=>lT k1 s.heap z xs/\lT k2 s.heap I j/\
  R (.ok<|.ret<|.ref<|↥s+4) {s with heap:=fm k1 k2 s.heap z I}):=
 .of_wp λa w A R s h=>by
  let(b,g,d,f,os):=s;let(J,O,h):=h;have Y:=sub_zip
  wp_walk using dz J,dz<|O.at λo e=>cW _ e
  show(_,rfl,?_);simp?[fm,Ye,Rf,l6]at h ⊢;show h
section
variable{X:Cx}{pins:TW}{U:St}{H:Hp}{s:bB}{h':bN}
theorem Inv.SY{fp:zn ak}{o:HO}(I:Inv X pins U H s)(k:∀b u,b∉fp->s.heap.get? b=aa u->h'.get? b=aa u)(j:∀b∈fp,XT X pins H b)
 (B:↥s<=a) (new:hL X.prog X.w (upd H a o) h' a o):Inv X pins U (upd H a o) {s with heap:=h',toks:=t'}:=by
 have g:=I.bQ.fresh B;have O b u:H b=aa u->b∉fp:=λe z=>by rw[(j b z).1]at e;cases e
 show I.step (λb d=>((j b d).2.2.2.1,(j b d).2.1,(j b d).2.2.2.2.1,(j b d).2.2.2.2.2)) (λb u x x f e x=>k b u f e) (λb u x x f e x=>(u.slots,k b u f e))
  (λb u x e n=>by rw[zC ((λb u e=>eS<|hV (ei e) B) b u e)];show n) (λb u f e=>(u,k b u f e)) (λb h e=>by rw[zC (jd e g)];show e) (λb J h e=>by rw[zC (jd e g)];show e)
  (λb t e=>(#[],by rw[zC (jd e g),e];simp)) (λm p=>?_) (λb u e=>?_) I.bare
 .let(J,l,i,Y,r):=p
  show(J,l,i,k _ J (λz=>(j _ z).2.1 rfl) Y,r)
 .by_cases d:b=a
  .subst d;rw[zB]at e;lia
  .rw[zC d]at e
   show(I.bQ b u e).mr (λc v f q=>k c v ?_ q) (λc q=>by rw[zC (jd q g)];show q) λc h q=>by rw[zC (jd q g)];show q
   rcases f with z|z
   .rw[z];show O b u e
   .exact O c _ z
theorem Inv.sd{fp:zn ak}(I:Inv X pins U H s)(k:∀b u,b∉fp->s.heap.get? b=aa u->h'.get? b=aa u)(j:∀b∈fp,XT X pins H b):Inv X pins U H {s with heap:=h',toks:=t'}:=by
 have O b u:H b=aa u->b∉fp:=λe z=>by rw[(j b z).1]at e;cases e
 show I.step (λb d=>((j b d).2.2.2.1,(j b d).2.1,(j b d).2.2.2.2.1,(j b d).2.2.2.2.2)) (λb u x x a e x=>k b u a e) (λb u x x a e x=>(u.slots,k b u a e))
  (λb u x e n=>n) (λb u a e=>(u,k b u a e)) (λb f e=>e) (λb J f e=>e)
  (λb l e=>(#[],by rw[e];simp)) (λm i=>?_) (λb u e=>?_) I.bare
 .let(J,h,g,Y,r):=i
  show(J,h,g,k _ J (λz=>(j _ z).2.1 rfl) Y,r)
 .refine(I.bQ b u e).mr (λc v a q=>k c v ?_ q) (λc q=>q) λc f q=>q
  rcases a with z|z
  .rw[z];show O b u e
  .exact O c _ z
end
def gM(k:Sk)(K:aO)(H:Hp)(a:ak)(xs:zn V):Prop:=match k with
 |.L=>dY K H a xs
 |.T=>ej K H a xs
theorem Inv.sq(I:Inv X pins U H s)(h:gM k X.K H a xs):
 ∃J,cM xs J/\lT k s.heap a J.toArray/\(pT xs)<=cP:=by
 cases k with
 |L=>let(J,r,p,z):=I.list h;show(J,r,p.isList,z)
 |T=>let(J,r,p,z):=I.tuple h;show(J,r,p,z)
theorem Inv.SH(I:Inv X pins U H s)(h:gM k X.K H a xs)(h':gM k X.K H a ys):xs=ys:=by
 cases k with
 |L=>show I.P1 h h'
 |T=>show I.SV h h'
def Pa(k1 k2:Sk)(K:aO)(a b:ak):It:=
 (λi H=>∃d e,gM k1 K H a d/\gM k2 K H b e/\i<d.length/\i<e.length,
  λi H x f=>∃p u v,x=.ref p/\H p=af/\f=upd H p (.tup [u,v])/\(∀d,gM k1 K H a d->d[i]? = aa u)/\(∀e,gM k2 K H b e->e[i]? = aa v),
  λi H=>∃d e,gM k1 K H a d/\gM k2 K H b e/\(d.length<=i\/e.length<=i))
theorem Bt{w:cN}{K:aO}{oi:cH}(k1 k2){z TI TO Z i2 a b:ak}(D:ZipApart z TI TO Z i2 a b):
 Turn P w K (.Tuple elts x1 oi) (Pa k1 k2 K a b) [z,TI,TO,Z,i2] z (λi h=>xb h z TI TO .none/\nK h TI (.ref Z) (.ref i2)/\(∃c d,nK h TO c d)/\hI k1 h Z a i/\hI k2 h i2 b i) where
 mem:=by simp
 obj:=λi h hZ y hy=>by
  let(J,Y,(c,d,a9),h1,h2):=hZ;simp?[d8,i9,or_false]at hy;rcases hy with rfl|rfl|rfl|rfl|rfl
  .exact(_,J,λv q=>by cases q)
  .exact(_,Y,λv q=>by cases q)
  .exact(_,a9,λv q=>by cases q)
  .exact h1.obj
  .exact h2.obj
 keep:=λi h h' (J,Y,(c,d,a9),h1,h2) k=>
  (k z () _ J,k TI () _ Y,(c,d,k TO () _ a9),h1.at λo e=>k Z () o e,h2.at λo e=>k i2 () o e)
 item:=by
  rintro X hP hw hK hc i pins s U H E I hf ⟨J,Y,⟨c,d,a9⟩,h1,h2⟩ ⟨xs,ys,am,an,b2,b3⟩;subst hP hw hK;let(b4,as,p1,z1):=I.sq am;let(b5,av,p2,z2):=I.sq an;have hx:xs[i]? = aa xs[i]:=eO b2;have hy:ys[i]? = aa ys[i]:=eO b3;let(u1,b6,b7):=as.get hx;let(u2,b8,b9):=av.get hy;have hT:s.TypeIs (.ref z) "zip":=(_,J,rfl);erw[oU];show aL (oK (se (name:=fR "__next__") hT U0 (om U0 hT F.entry_zip_next
   (zjT D J Y a9 h1 h2 p1 p2 (x:=u1) (y:=u2) (~~~b6) (~~~b8) λg a1 a2 a3 a4 a5 a6 a7=>bW (_,rfl,?_)) (F.args_zip_next_1 _))))
  show wpAny_letOwnedTupleGo_zip a1 λg2 pD ac=>?_;have lt:∀{c o},s.heap.get? c=aa o->↥s≠c:=λe=>n3<|ei e;have bi:nK g2 ↥s u1 u2:=ac.extBut _ _ (lt J) a5;have kk O u:O ∉ [z,TI,TO,Z,i2]->s.heap.get? O=aa u->g2.get? O=aa u:=λhb e=>by simp?[d8,i9,or_false,not_or]at hb;show ac.extBut _ _ hb.1<|a7 O u hb.1 hb.2.2.1 hb.2.2.2.1 hb.2.2.2.2 e
  have I1:Inv X pins U (upd H ↥s<|.tup [xs[i],ys[i]]) {s with heap:=g2,toks:=s.toks}:=
   I.SY (fp:=[z,TI,TO,Z,i2]) kk hf (cV _) (by change 2<=cP;decide,[u1,u2],.cons b7<|.cons b9 .nil,(_,bi,rfl,_,rfl))
  have bn:H ↥s=af:=I.fresh;show(.ref ↥s,_,I1,rfl,(_,_,_,rfl,bn,rfl,λc8 aw=>by rw[I.SH aw am];show hx,λc9 aw=>by rw[I.SH aw an];show hy),?_,λO hb=>?_)
  .exact(pD,ac.extBut _ _ D.TIz<|a7 _ _ D.TIz D.TITO D.TIi1 D.TIi2 Y,(_,_,ac.extBut _ _ D.TOz a2),a3.at λo e=>ac.extBut _ _ D.i1z e,a4.at λo e=>ac.extBut _ _ D.i2z e)
  .have bv:O≠↥s:=by
    simp?[d8,i9,or_false]at hb;rcases hb with rfl|rfl|rfl|rfl|rfl
    .exact(lt J).symm
    .exact(lt Y).symm
    .exact(lt a9).symm
    .let(o,e,_):=h1.obj;show(lt e).symm
    .let(o,e,_):=h2.obj;show(lt e).symm
   rw[zC bv];show(hf O hb).1
 done:=by
  rintro X hP hw hK hc i pins s U H E I hf ⟨J,Y,⟨c,d,a9⟩,h1,h2⟩ ⟨xs,ys,am,an,hi⟩;subst hP hw hK;let(b4,as,p1,z1):=I.sq am;let(b5,av,p2,z2):=I.sq an;have hT:s.TypeIs (.ref z) "zip":=(_,J,rfl);have l1:=as.length;have l2:=av.length;erw[oU];show aL (oK (se (name:=fR "__next__") hT U0 (om U0 hT F.entry_zip_next
   (Bk (show X.A.handled=af from I.ok.hd hc) D J Y a9 h1 h2 p1 p2 (by rcases hi with q|q;left;simp;lia;right;simp;lia) λg e hk he=>?_) (F.args_zip_next_1 _))))
  let(o,ho,c4):=he;show aL (Oz (T:="StopIteration") (b:=ae) (o,ho,c4) s_ (bW (rfl,?_)));show I.sd (t':=s.toks) (fp:=[z,TI,TO,Z,i2]) (λO u hb e=>?_) hf;simp?[d8,i9,or_false,not_or]at hb;show hk O u hb.1 hb.2.2.1 hb.2.2.2.1 hb.2.2.2.2 e
 self:=λm m m m m st h=>wpAny_pyIter_zip st.1 h
def zan(K:aO)(j:TA):TI:=λk H R=>j k H λg d=>∃e f a b,g=[.ref a,.ref b]/\(∃h,gM e K d a h)/\(∃i,gM f K d b i)/\R (Pa e f K a b) d
theorem Nb{W B:bE}{ta:TA}{U:cH}(hg:Gl X "zip")(hm:X.mg "zip" = af)(ha:PA X [W,B] ta)
 (hv:pg "zip" = aa (.type "zip")) (hs:ck [W,B] ⋯=[(aF,bH W ⋯),(aF,bH B ⋯)]:=by rfl) (a1:ck [B] ⋯=[(aF,bH B ⋯)]:=by rfl):
 PI X (.Tuple S x1 U) (.Call (.Name "zip" p) [W,B] [] pos) (zan X.K ta):=by
 intro j s A H R I h;show uh (xo I hg hm hv<|pP (cy (ha pos j s A H _ I h) λus d T=>?_) (by rw[hs,a1])<|by rw[a1];rfl);show aU λY=>?_;let(vs,k,z,r1,q1):=T;let(f,g,a,b,e,(xs,E),(ys,ad),q):=q1;subst e;let(w1,w2,P,G,L):=LU r1;show Y ?_;subst P;cases G;cases L;show aU λY=>?_;let(M,ax,t,z1):=z.sq E;let(N,b0,u,z2):=z.sq ad;show Y ?_;show callType_new F.called_zip () (F.typeCall_zip_2 _ _) (F.newCall_zip_2 _ _) (λobj=>F.args_object_init_3 obj _ _) F.entry_zip_new (Bj f g a b M.toArray N.toArray) (t,u,?_);have w:(gW d.heap<|i7 f a).objs.size=_:=l6 ..;have x:(gW (gW d.heap<|i7 f a)<|i7 g b).objs.size=↥d+2:=by rw[l6,w]
 have y:(gW (gW (gW d.heap<|i7 f a)<|i7 g b)<|Ye (.ref ↥d)<|.ref<|↥d+1).objs.size=↥d+3:=by rw[l6,x]
 have y4:(gW (gW (gW (gW d.heap<|i7 f a)<|i7 g b)<|Ye (.ref ↥d)<|.ref<|↥d+1)<|Ye .none .none).objs.size=↥d+4:=by rw[l6,y]
 have Q:hI f (fm f g d.heap a b) ↥d a 0:=(V9 f d.heap a).at λo e=>cW _<|cW _<|cW _<|cW _ e;have g1:hI g (fm f g d.heap a b) (↥d+1) b 0:=by have q:=V9 g (gW d.heap<|i7 f a) b;rw[w]at q;show q.at λo e=>cW _<|cW _<|cW _ e
 have g2:nK (fm f g d.heap a b) (↥d+2) (.ref ↥d) (.ref<|↥d+1):=by have q:=f9 (gW (gW d.heap<|i7 f a)<|i7 g b) (o:=Ye (.ref ↥d)<|.ref<|↥d+1) rfl;rw[x]at q;show cW _<|cW _ q
 have g3:nK (fm f g d.heap a b) (↥d+3) .none .none:=by have q:=f9 (gW (gW (gW d.heap<|i7 f a)<|i7 g b)<|Ye (.ref ↥d)<|.ref<|↥d+1) (o:=Ye .none .none) rfl;rw[y]at q;show cW _ q
 have Z:=by have q:=f9 (gW (gW (gW (gW d.heap<|i7 f a)<|i7 g b)<|Ye (.ref ↥d)<|.ref<|↥d+1)<|Ye .none .none) (o:=Rf (↥d+2)<|↥d+3) rfl;rw[y4]at q;show q
 show((_,Z,rfl),wpAny_pyIter_zip Z ?_);have C:Inv X j A k {d with heap:=fm f g d.heap a b,toks:=d.toks}:=z.kept (λc o e=>
  cW _ (cW _<|cW _<|cW _<|cW _ e))
 have J:=λm=>eS<|hV t.lt<|nh _ m;have O:=λm=>eS<|hV u.lt<|nh _ m;have i m n:m≠n->(↥d+m)≠↥d+n:=λh=>by lia
 show(_,[↥d+4,↥d+2,↥d+3,↥d,↥d+1],_,_,k,rfl,C,Bt f g (i 2 4 (),i 3 4 (),i 0 4 (),i 1 4 (),i 2 3 (),i 2 0 (),i 2 1 (),i 3 0 (),i 3 1 (),i 0 1 (),
  J 4,J 3,J 0,J 1,O 4,O 3,O 0,O 1),(Z,g2,(_,_,g3),Q,g1),λc r=>?_,q)
 have l:↥d<=c:=by
  simp?[d8,i9,or_false]at r;rcases r with rfl|rfl|rfl|rfl|rfl
  .exact nh _ _
  .exact nh _ _
  .exact nh _ _
  .exact cV _
  .exact nh _ _
 show z.oC l<|z.bQ.fresh l
def Yh(k:Sk)(K:aO)(a:ak):It:=match k with
 |.L=>Yi K a
 |.T=>Yk K a
def zap(K:aO)(e:TE):TI:=λf H R=>e f H λx b=>∃a k,x=.ref a/\(∃d,gM k K b a d)/\R (Yh k K a) b
theorem sX(O:PE X l tl):PI X tg l (zap X.K tl):=by
 intro d s r H R I h;show cy (O d s r H _ I h) λv m Y=>?_;let(x,f,z,j,Z):=Y;let(a,k,e,(y,i),q):=Z;subst e;cases j;have J:∀b ∈ [↥m],XT X d f b:=λb g=>by
  have e:= ~~~g
  subst e;show z.oC (cV _)<|z.bQ.fresh<|cV _
 let(t,w,p,u):=z.sq i;cases k with
 |L=>show _e p (_,_,_,_,f,rfl,z.kept λb o e=>cW _ e,zj1 a _,(_,f9 _ rfl,rfl,rfl),J,q)
 |T=>show T4 p (_,_,_,_,f,rfl,z.kept λb o e=>cW _ e,ziL a _,(_,f9 _ rfl,rfl,rfl),J,q)
section
variable{κ:Type} [DecidableEq κ]
def iu(e:zn (κ×V))(k:κ):xz V:=(e.find? λa=>decide<|a.1=k).map (·.2)
def pv(e:zn (κ×V))(k:κ)(v:V):zn (κ×V):=
 if (e.any λa=>decide<|a.1=k) then e.map (λa=>if a.1=k then (a.1,v)else a)else e++[(k,v)]
theorem WA{p:κ×V}(e:p.1=k):iu (p::r) k=aa p.2:=by simp[iu,vl,e]
theorem ir{p:κ×V}(e:¬p.1=k):iu (p::r) k=iu r k:=by simp[iu,vl,e]
theorem YA(e:zn (κ×V))(k)(v):(pv e k v).length<=pT e+1:=by
 erw[pv];split
 .rw[f7];lia
 .simp?[mK,ng,Ox];lia
theorem nt.r_(r:nt o u):o.isSome=u.isSome:=by
 cases o with
 |none=>cases u with
  |none=>rfl
  |some _=>show(r).elim
 |some _=>cases u with
  |none=>show(r).elim
  |some _=>rfl
theorem KV.val{j:zn (κ×V)}(r:KV j vs)(k):nt (iu j k) (DB vs k):=by
 erw[KV]at r
 induction r with
 |nil=>show kA
 | @cons p q f I h t O=>
  let(a,d):=h;by_cases e:p.1=k
  .have J:=a.symm.trans e
   have b:DB (q::I) k=aa q.2:=by simp[DB,vl,J]
   rw[WA e,b];show d
  .have J:¬q.1=k:=λz=>e (a.trans z)
   have b:DB (q::I) k=DB I k:=by simp[DB,vl,J]
   rw[ir e,b];show O
theorem KV.any(r:KV gq vs)(k:κ):(gq.any λe=>decide<|e.1=k)=vs.any λe=>decide (e.1=k):=by
 erw[KV]at r
 induction r with
 |nil=>rfl
 |cons h t z=>simp?[List.any_cons,List.any_cons,z,h.1]
theorem KV.zko(r:KV gq vs)(k:κ)(I:RelV y u):
 KV (gq.map λe=>if e.1=k then (e.1,y)else e) (vs.map λe=>if e.1=k then (e.1,u)else e):=by
 erw[KV]at r ⊢
 induction r with
 |nil=>show .nil
 |@cons p q a J h t z=>
  show .cons ?_ z;lia
theorem KV.put(r:KV gq vs)(k:κ)(z:RelV y u):KV (pv gq k y) (stored vs k u):=by
 erw[pv,stored];rw[r.any k];by_cases e:(vs.any λa=>decide<|a.1=k)
 .rw[DJ e,DJ e];show r.zko k z
 .rw[DY e,DY e];show Paired.snoc r (rfl,z)
theorem KV.length(r:KV gq vs):gq.length=vs.length:=Paired.length r
end
theorem CN(r:RelV (kV k) u):(k8 P w).is k u:=by
 cases k with
 |inl i=>let(t,e):=(r);subst e;show zif P w i t
 |inr x=>let(t,e):=(r);subst e;show zid P w x t
theorem dA:∀{e}{us},cM (e.map kV) us->ItemsAre (k8 P w) e us
 |[],_,r=>by rw[Uz]at r;cases r;show .nil
 |k::e,_,r=>by
  rw[kT]at r;cases r with
  |cons h t=>show .cons (CN h)<|dA t
abbrev KT(H:Hp):zn (zn Key×V)->zn (zn Key×ak×aN)->Prop:=Paired λp q=>p.1=q.1/\H q.2.1=aa (.tup (p.1.map kV))/\RelV p.2 q.2.2
theorem KT.val{H:Hp}(r:KT H j xs)(k):nt (iu j k) ((Df xs k).map (·.2)):=by
 induction r with
 |nil=>show kA
 | @cons p q f I h t O=>
  let(a,v,d):=h;by_cases e:p.1=k
  .have J:=a.symm.trans e
   have b:Df (q::I) k=aa q.2:=by simp[Df,vl,J]
   rw[WA e,b];show d
  .have J:¬q.1=k:=λz=>e (a.trans z)
   have b:Df (q::I) k=Df I k:=by simp[Df,vl,J]
   rw[ir e,b];show O
section
variable{P:cQ}{w:cN}{H:Hp}{h:bN}{a:ak}
theorem MD(ok:eX P w H h)(e:Rd H a u):hL P w H h a u:=e.ok ok
theorem Am(ok:eX P w H h)(e:Rd H a (.dK gq)):pT gq<=cP/\(a==pK)=aF/\∃vs,KV gq vs/\h.DictOf (k8 P w) a vs:=
 MD ok e
theorem SE(ok:eX P w H h)(e:H a=aa (.dK gq)):pT gq<=cP/\(a==pK)=aF/\∃vs,KV gq vs/\h.DictOf (k8 P w) a vs:=Am ok<|.inl e
theorem uy(ok:eX P w H h)(e:H a=aa (.tup<|ks.map kV)):(G_<|k8 P w).is h ks a:=by let(q,z,r,o,b,d,n,f):=(ok a _ e);show(o,z.toArray,n,b,(Prod.mk.inj d).1,f,~~~dA r)
theorem IP(ok:eX P w H h)(e:Rd H a (.dT gq)):pT gq<=cP/\(a==pK)=aF/\
 ∃xs,KT H gq xs/\h.DictOfH (G_<|k8 P w) a xs:=by
 show aU λJ=>?_;let(z,y,xs,r,o,f,d,g,i,j,k,s):=(MD ok e);show J ?_;show(z,y,xs,r,o,f,d,g,i,j,k,λx I=>?_,s);have all:∀{l}{m},KT H l m->∀x∈m,(G_<|k8 P w).is h x.1 x.2.1:=by
  intro l m q
  induction q with
  |nil=>intro x I;show nomatch I
  | @cons p q u Y b t O=>
   intro x I;rcases d8.mp I with e|I
   .subst e
    show uy ok (by rw[<-b.1];show b.2.1)
   .exact O x I
 show all r x I
end
def OG(H:Hp)(a:ak)(y:V)(r:xz V):Prop:=
 (∃d k,Rd H a (.dK d)/\y=kV k/\r=iu d k)\/∃d k b,Rd H a (.dT d)/\y=.ref b/\H b=aa (.tup<|k.map kV)/\r=iu d k
section
variable{X:Cx}{pins:TW}{U:St}{H:Hp}{s:bB}{a:ak}{y v:V}{u:aN}{o:xz V}{A:ec}{E:EQ}
theorem Inv.big(I:Inv X pins U H s):pK<↥s:=by have h:=(I.mod.glob.keeps I.bk).lt;show Nat.lt_trans () h
theorem Ap(B:A.units+1<oR)(I:Inv X pins U H s)(g:OG H a y (aa v))(Z:RelV y u)(h:∀w' j,Inv X pins U H j->RelV v w'->Q w' j):
 wpAny (aV X.prog X.w) A (rp (.ref a) u) Q E s:=by
 rcases g with⟨i,k,e,J,l⟩|⟨i,k,b,e,J,o,l⟩
 .subst J
  let(z,r,x,O,d):=Am I.bQ e;let(w',f,Y):=nt.some_of (by rw[l];show O.val k);show wpAny_getItem_of (CN Z) d.mapOf f<|h w' _ (I.tok _) Y
 .subst J
  cases Z;let(z,r,C,O,d):=IP I.bQ e;let(w',f,Y):=nt.some_of (by rw[l];show O.val k);let(p,t,m):=Option.map_eq_some_iff.mp f;show wpAny_getItem_heap (zkZ B) (uy I.bQ o) d t ?_;rw[m];show h w' _ (I.tok _) Y
theorem zat(Z:A.units+1<oR)(I:Inv X pins U H s)(g:OG H a y o)(Y:RelV y u)(h:∀j,Inv X pins U H j->Q (.bool o.isSome) j):
 wpAny (aV X.prog X.w) A (h8 .In u<|.ref a) Q E s:=by
 rcases g with⟨i,k,e,J,l⟩|⟨i,k,b,e,J,m,l⟩
 .subst J
  let(z,f,p,O,d):=Am I.bQ e;show wpAny_in_of (CN Y) f d.mapOf ?_;rw[<-(O.val k).r_,<-l];show h _<|I.tok _
 .subst J
  cases Y;let(z,f,r,O,d):=IP I.bQ e;show wpAny_in_heap (zkZ Z) (uy I.bQ m) f d ?_;have q:=(O.val k).r_;rw[Option.isSome_map]at q;simp?[<-q,<-l];show h _<|I.tok _
theorem IS(I:Inv X pins U H s)(J:C7 (H a))(hs:pQ a s.heap h')(e:∃q,h'.get? a=aa q)(new:hL X.prog X.w (upd H a ob) h' a ob):
 Inv X pins U (upd H a ob) {s with heap:=h',toks:=t'}:=
 I.write J (.inl rfl) (λb q d z=>(hs.2 b d).trans z) e new
theorem Oi(z:pT gq<=cP)(e:(a==pK)=aF)(I:KV gq vs)(dd:h'.DictOf (k8 P w) a vs):
 hL P w H' h' a (.dK gq):=(z,e,vs,I,dd)
end
def Re(i:bE):Prop:=∀z I,SJ i aF z I=operate [z,I] (rp z I)
theorem rC{e z:bE}{pos:cH}{T id:String}{Q:EQ}
 (j:u7 (.type T) "__getitem__" = pure (aa (.builtin id))) (hs:Re z)
 (h:wpAny (aV prog w) A (bH e env) (λo Y=>wpAny (aV prog w) A (bH z env) (λi I=>I.TypeIs o T/\wpAny (aV prog w) A (rp o i) Q E I) E Y) E s):
 wpAny (aV prog w) A (bH (.Subscript e z pos) env) Q E s:=by
 show Pe<|cT h (λo Y b=>cT b (λi I J=>?_) λq q x=>x) λq q x=>x;let(Z,J):=J;erw[subscriptTail];show aL ?_;rw[getitemInPython_of_ne Z.not_modules];show aL<|D6 Z j ?_;have O:wpAny (aV prog w) A (SJ z aF o i) (λr a=>wpAny (aV prog w) A (letTemporaryGo e o r >>= λq=>pure r) Q E a) E I:=by rw[hs o i];show wpAny_operating<|cT J (λr a d=>aL<|wpAny_letTemporaryGo<|bW d) λq q x=>x
 first
  |show bW<|aL O
  |show aL<|bW<|aL O
  |show aL O
theorem zh2(I:Inv X pins U H s)(g:OG H a y o):s.TypeIs (.ref a) "dict":=by
 rcases g with⟨f,k,e,_,_⟩|⟨f,k,b,e,_,_,_⟩
 .let(_,_,h,_,d):=Am I.bQ e
  show d.typeIs
 .let(_,_,i,_,d):=IP I.bQ e
  show d.typeIs
def RB(j ty:TE):TE:=λd H Q=>j d H λx e=>ty d e λy b=>∃a v,x=.ref a/\OG b a y (aa v)/\Q v b
def UW(ty j:TE):TE:=λd H Q=>ty d H λy e=>j d e λx b=>∃a o,x=.ref a/\OG b a y o/\Q (.bl o.isSome) b
section
variable{X:Cx}{o i:bE}{pos:cH}{td ty:TE}
theorem HX(J:X.A.units+1<oR)(O:PE X o td)(B:PE X i ty)(hs:Re i):PE X (.Subscript o i pos) (RB td ty):=by intro b s d H Q I h;show rC PySem.F.slot_dict_getitem.lookup hs<|cy (O b s d H _ I h) ?_;rintro u r ⟨x,e,Y,Z,l⟩;show cy (B b r d e _ Y l) ?_;rintro t w ⟨y,f,z,p,a,v,rfl,g,m⟩;obtain rfl:u=i3 a:=Z;show(zh2 z g,Ap J z g p λE C j k=>(v,f,j,k,m))
theorem Nq(z:X.A.units+1<oR)(B:PE X i ty)(J:PE X o td):PC X .In i o (UW ty td):=by intro b s d H Q I h;show cy (B b s d H _ I h) ?_;rintro t r ⟨y,e,O,Y,Z⟩;show cy (J b r d e _ O Z) ?_;rintro u w ⟨x,f,j,p,a,l,rfl,g,m⟩;obtain rfl:u=i3 a:=p;show zat z j g Y λC k=>(.bl l.isSome,f,k,rfl,m)
end
theorem En(h:bN)(e:pK<h.objs.size):hL P w H (h.push {cls:=.type "dict",data:=.dict #[]}) h.objs.size (.dK []):=
 (g8 _,beq_eq_false_iff_ne.mpr<|dh<|eS e,[],.nil,Heap.DictOf.new h)
end L2
namespace DL
open PySem PySem.Spec PyProof.Rows L2
def g0:zn Str:=["NoPrime","Nought","NoTable","NoWidths","NoRow","Unlike","TooMany","NoTurn","NoLine","Nothing","NoArrow","NoText","NoRoom"]
def nO:zn aN:=[.type "ValueError",.type "Exception",.type "BaseException",.type "object"]
def wF(K:aO)(c:Str):xz ak:=match oL K gp c with
 |some (aa (.ref C))=>aa C
 |_=>af
def Bl(K:aO)(C:ak):Bool:=
 ["int","bool","str","tuple","list"].all (λt=>nY K (.ref C) (.type t)==aa aF)&&nY K (.ref C) (.type "ValueError")==aa ae&&
 g9 K (.ref C) "__getattribute__" == aa (aa (.builtin "BaseException.__getattribute__"))&&g9 K (.ref C) "__getattr__" == aa af&&
 g9 K (.ref C) "__class__" == aa (aa (.builtin "object.__class__"))&&mW K C (.type "object")==aa ae&&mW K C (.type "BaseException")==aa ae&&
 NN K (.builtin "object.__class__") "__get__" == aa (aa (.builtin "getset_descriptor.__get__"))&&PySem.W.takesIn K (.builtin "object.__class__")==aa ae&&
 (o6 K C).any (λa=> !a.hasDel)&&p9 K (.ref C)==aa (.type "type")
def Vl(K:aO):Bool:=match wF K "SplitError" with
 | some S=>g0.all λc=>match wF K c with
  |some C=>Bl K C&&nY K (.ref C) (.ref S)==aa ae&&g0.all λz=>match wF K z with
   |some a=>nY K (.ref C) (.ref a)==aa (c==z)
   |none=>aF
  |none=>aF
 |none=>aF
def aX(h:bN)(a:ak)(C:ak):Prop:=∃o b,h.get? a=aa o/\o.cls=.ref C/\o.data=.fields b
structure uH(K:aO)(H:Hp)(c:Str)(n:Option Int)(a:ak):Prop where
 all:Vl K=ae
 mem:c∈g0
 ex:∃C φ,wF K c=aa C/\H a=aa (.ext φ)/\(∀h,φ h->aX h a C)/\
  match n with
  |none=>True
  |some i=>∃d,(∀h,φ h->∃o,h.get? a=aa o/\o.dict=aa d)/\H d=aa (.xd [(if c==("NoRoom" : Str)then "room" else "at",.int i)])
theorem uH.mono{K:aO}(e:∀b o,H b=aa o->H' b=aa o)(h:uH K H c n a):uH K H' c n a:=by
 let(f,g,C,j,g1,g2,I,z):=h;show(f,g,C,j,g1,e _ _ g2,I,?_);cases n with
 |none=>show z
 |some i=>let(d,f1,J):=z;show(d,f1,e _ _ J)
set_option tactic.hygienic true in
theorem Jb{K:aO}(h:Vl K)(B:c∈g0)(e:wF K c=aa C):∃S,wF K "SplitError" = aa S/\Bl K C/\nY K (.ref C) (.ref S)=aa ae/\
 ∀z j,z∈g0->wF K z=aa j->nY K (.ref C) (.ref j)=aa (c==z):=by
 erw[Vl]at h;split at h
 .rename_i S I
  have a:=k4.mp h c B;rw[e]at a;simp?[eH,beq_iff_eq]at a;show(S,I,a.1.1,a.1.2,λz j J O=>?_);have b:=k4.mp a.2 z J;rw[O]at b;show beq_iff_eq.mp b
 .cases h
abbrev St:=L2.St
def NP:D->xz Key
 |.int i=>aa (.inl i)
 |.str x=>aa (.inr x)
 |_=>af
def lG:zn D->xz (zn Key)
 |[]=>aa []
 |d::ds=>(NP d).bind λk=>(lG ds).map λr=>k::r
def O4(H:Hp)(a:ak)(e:zn D)(xs:zn V):Prop:=∃b,lG e=aa b/\(pT b)=pT xs/\∃o,H a=aa (.m6 o<|.dK<|b.zip xs)
def Rq(k:zn Int):Int:=reduceHash<|Builtin.Tuple.tupleHashOf<|k.map hashInt
def zaA(o:e9)(xs:zn (zn Int×ak×aN)):Prop:=o.ExactDict/\∃a b,o.data=.dict a b/\a.toList=xs.map (λx=>(Rq x.1,.ref x.2.1,x.2.2))/\(xs.map (·.1)).Nodup
def atO(a:ak)(o:e9):HO:=.ext λh=>h.get? a=aa o
def O5(K:aO)(H:Hp)(a:ak)(e:zn (zn Int))(j:zn V):Prop:=
 (a==pK)=aF/\∃o b,H a=aa (atO a o)/\zaA o b/\b.map (·.1)=e/\(pT b)<=cP/\(∀x∈b,ej K H x.2.1<|x.1.map V.int)/\cM j (b.map (·.2.2))
def ik(v:V):zn (Str×V):=fj "row" v []
def dG(K:aO)(C:ak):Bool:=E6 K C oM&&(N0 K C&&(Up K C&&(g9 K (.ref C) "__setattr__" == aa (aa (.builtin "object.__setattr__"))&&(g9 K (.ref C) "__class__" == aa (aa (.builtin "object.__class__"))&&
 (NN K (.builtin "object.__class__") "__get__" == aa (aa (.builtin "getset_descriptor.__get__"))&&(PySem.W.takesIn K (.builtin "object.__class__")==aa ae&&(mW K C (.type "object")==aa ae&&["int","bool","str","tuple","list"].all λt=>nY K (.ref C) (.type t)==aa aF)))))))
def Dm(K:aO)(c:Str):xz ak:=match oL K gp c with
 |some (aa (.ref C))=>if dG K C then aa C else af
 |_=>af
theorem J1{K:aO}(h:Dm K c=aa C):dG K C:=by
 erw[Dm]at h;split at h
 .split at h
  .rename_i z;cases h;show z
  .cases h
 .cases h
mutual
def Rep(K:aO)(H:Hp):D->V->Prop
 |.cI,v=>v=.cI
 |.bl b,v=>v=.bl b
 |.int i,v=>v=.int i
 |.str x,v=>v=.str x
 |.tup ds,v=>∃a d,v=.ref a/\ej K H a d/\bz K H ds d
 |.lst ds,v=>∃a d,v=.ref a/\dY K H a d/\bz K H ds d
 |.exc c n,v=>∃a,v=.ref a/\uH K H c n a
 |.gC ks vs,v=>∃a d,v=.ref a/\O4 H a ks d/\bz K H vs d
 |.hO ks vs,v=>∃a d,v=.ref a/\O5 K H a ks d/\bz K H vs d
 |.ins c p t,v=>∃a C e z I,v=.ref a/\Dm K c=aa C/\H a=aa (.ins C e<|ik z)/\Rep K H p z/\Rep K H t I
def bz(K:aO)(H:Hp):zn D->zn V->Prop
 |[],xs=>xs=[]
 |d::ds,xs=>∃x r,xs=x::r/\Rep K H d x/\bz K H ds r
end
theorem gr{K:aO}{H H':Hp}{a:ak}{xs:zn V}(e:dj H H')(h:ej K H a xs):ej K H' a xs:=by
 rcases h with(h|⟨o,h⟩)|h
 .exact .inl<|.inl<|e _ _ h
 .exact .inl<|.inr (o,e _ _ h)
 .exact .inr h
theorem bI{k:Sk}{K:aO}{H H':Hp}{a:ak}{xs:zn V}(e:dj H H')(h:gM k K H a xs):gM k K H' a xs:=by
 cases k
 .exact e.seq h
 .exact gr e h
mutual
theorem Rep.mono{K:aO}(e:dj H H'):∀{d}{v},Rep K H d v->Rep K H' d v
 |.cI,_,h=>h
 |.bl _,_,h=>h
 |.int _,_,h=>h
 |.str _,_,h=>h
 |.tup ds,v,h=>by let(a,b,f,i,g):=(show ∃a b,v=.ref a/\ej K H a b/\bz K H ds b from h);show(show ∃a b,v=.ref a/\ej K H' a b/\bz K H' ds b from(a,b,f,gr e i,bz.mono e g))
 |.lst ds,v,h=>by let(a,b,f,i,g):=(show ∃a b,v=.ref a/\dY K H a b/\bz K H ds b from h);show(show ∃a b,v=.ref a/\dY K H' a b/\bz K H' ds b from(a,b,f,e.seq i,bz.mono e g))
 |.exc c n,v,h=>by let(a,f,i):=(show ∃a,v=.ref a/\uH K H c n a from h);show(show ∃a,v=.ref a/\uH K H' c n a from(a,f,i.mono e))
 |.gC ks vs,v,h=>by let(a,b,f,(r,g1,g2,o,J),g):=(show ∃a b,v=.ref a/\O4 H a ks b/\bz K H vs b from h);show(show ∃a b,v=.ref a/\O4 H' a ks b/\bz K H' vs b from(a,b,f,(r,g1,g2,o,e _ _ J),bz.mono e g))
 |.hO ks vs,v,h=>by let(a,b,f,(g1,o,s,g2,J,O,Y,g6,Z),g):=(show ∃a b,v=.ref a/\O5 K H a ks b/\bz K H vs b from h);show(show ∃a b,v=.ref a/\O5 K H' a ks b/\bz K H' vs b from(a,b,f,(g1,o,s,e _ _ g2,J,O,Y,λx m=>gr e<|g6 x m,Z),bz.mono e g))
 |.ins c p t,v,h=>by let(a,C,j,z,I,f,i,g,k,l):=(show ∃a C j z I,v=.ref a/\Dm K c=aa C/\H a=aa (.ins C j<|ik z)/\Rep K H p z/\Rep K H t I from h);show(show ∃a C j z I,v=.ref a/\Dm K c=aa C/\H' a=aa (.ins C j<|ik z)/\Rep K H' p z/\Rep K H' t I from(a,C,j,z,I,f,i,e _ _ g,Rep.mono e k,Rep.mono e l))
theorem bz.mono{K:aO}(e:dj H H'):∀{j}{xs},bz K H j xs->bz K H' j xs
 |[],_,h=>h
 |d::j,xs,h=>by let(x,r,a,b,f):=(show ∃x r,xs=x::r/\Rep K H d x/\bz K H j r from h);show(show ∃x r,xs=x::r/\Rep K H' d x/\bz K H' j r from(x,r,a,Rep.mono e b,bz.mono e f))
end
section
variable{K:aO}{H:Hp}
theorem bz.nil:bz K H [] []:=(show([]:zn V)=[]from rfl)
theorem bz.cons(h:Rep K H d x)(t:bz K H ds xs):bz K H (d::ds) (x::xs):=(x,xs,rfl,h,t)
theorem bz.m7(h:bz K H [] xs):xs=[]:=h
theorem bz.i0(h:bz K H (d::ds) xs):∃x r,xs=x::r/\Rep K H d x/\bz K H ds r:=h
theorem bz.length:∀{j:zn D} {xs:zn V},bz K H j xs->xs.length=j.length
 |[],xs,h=>by rw[h.m7];rfl
 |d::j,xs,h=>by let(x,r,e,q,t):=h.i0;simp?[e,ng,ng,bz.length t]
theorem bz.get:∀{j:zn D} {xs:zn V} {i:Nat} {d:D},bz K H j xs->j[i]? = aa d->∃x,xs[i]? = aa x/\Rep K H d x
 |[],_,_,_,_,e=>by simp at e
 |c::j,xs,0,d,h,e=>by let(x,r,a,b,q):=h.i0;simp at e;subst e;show(x,by rw[a];rfl,b)
 |c::j,xs,i+1,d,h,e=>by let(x,r,a,q,t):=h.i0;let(y,g1,g2):=bz.get t (~~~e);show(y,by rw[a];simpa using g1,g2)
theorem bz.tr{j:zn D}{xs:zn V}{i:Nat}{x:V}(h:bz K H j xs)(e:xs[i]? = aa x):∃d,j[i]? = aa d/\Rep K H d x:=by
 have b:i<j.length:=by rw[<-h.length];show(i8.mp e).1
 let(y,a,r):=h.get<|eO b;rw[e]at a;cases a;show(_,eO b,r)
theorem bz.append:∀{j z}{xs B},bz K H j xs->bz K H z B->bz K H (j++z) (xs++B)
 |[],_,xs,_,h,g=>by rw[h.m7];show g
 |d::j,z,xs,B,h,g=>by let(x,r,e,a,t):=h.i0;rw[e];show bz.cons a<|bz.append t g
theorem bz.drop:∀{j}{xs}n,bz K H j xs->bz K H (j.drop n) (xs.drop n)
 |_,_,0,h=>h
 |[],xs,n+1,h=>by rw[h.m7];show bz.nil
 |d::j,xs,n+1,h=>by let(x,r,e,q,t):=h.i0;rw[e];show bz.drop n t
theorem bz.take:∀{j}{xs}n,bz K H j xs->bz K H (j.take n) (xs.take n)
 |_,_,0,h=>by rfl
 |[],xs,n+1,h=>by rw[h.m7];show bz.nil
 |d::j,xs,n+1,h=>by let(x,r,e,a,t):=h.i0;rw[e];show bz.cons a<|bz.take n t
theorem bz.set:∀{j}{xs}{d}{x}i,bz K H j xs->Rep K H d x->bz K H (j.set i d) (xs.set i x)
 |[],xs,_,_,_,h,_=>by rw[h.m7];rfl
 |c::j,xs,d,x,0,h,g=>by let(y,r,e,q,t):=h.i0;rw[e];show bz.cons g t
 |c::j,xs,d,x,i+1,h,g=>by let(y,r,e,a,t):=h.i0;rw[e];show bz.cons a<|bz.set i t g
end
structure Ext(H0 H cU H':Hp):Prop where
 s0:dj H0 cU
 s1:dj H H'
 sub:dj cU H'
 new:∀a,H0 a=af->H a≠af->cU a=af
theorem Ext.refl(s:dj H0 H):Ext H0 H H0 H:=(dj.refl _,dj.refl _,s,λq h q=>h)
theorem Ext.trans(a:Ext H0 H H1 G1)(b:Ext H1 G1 H2 G2):Ext H0 H H2 G2:=
 (a.s0.trans b.s0,a.s1.trans b.s1,b.sub,λc e d=>b.new c (a.new c e d) (by
  cases q:H c with
  |none=>show absurd q d
  |some o=>rw[a.s1 c o q];simp))
theorem jx(h:H p=af)(o:HO):dj H (upd H p o):=λb u q=>by rw[zC (jd q h)];show q
theorem jl(s:dj H0 H)(h:H p=af):H0 p=af:=s.free h
theorem zkk(s:dj H0 H):dj (upd H0 p o) (upd H p o):=λb u q=>by
 by_cases e:b=p
 .subst e;rw[zB]at q ⊢;show q
 .rw[zC e]at q ⊢;show s b u q
theorem Ext.alloc(s:dj H0 H)(h:H p=af)(o):Ext H0 H (upd H0 p o) (upd H p o):=
 (jx (jl s h) o,jx h o,zkk s,λa b d=>by rw[zC (λe=>d<|by rw[e];show h)];show b)
theorem Ext.hide(s:dj H0 H)(h:H p=af)(o):Ext H0 H H0 (upd H p o):=
 (dj.refl _,jx h o,s.trans<|jx h o,λa b q=>b)
theorem Ext.show(e:Ext H0 H cU H')(j:H a=af)(B:cU a=af)(O:H' a=aa o)(s:dj H0 H):Ext H0 H (upd cU a o) H':=
 (e.s0.trans<|jx B o,e.s1,λb u q=>by
  by_cases z:b=a
  .subst z;rw[zB]at q;rw[O];show q
  .rw[zC z]at q;show e.sub b u q,λb J I=>by
  rw[zC (λz=>I<|by rw[z];show j)];show e.new b J I)
structure oQ(K:aO)(H0 H:Hp)(rows:List (List D))(a:ak)(bs:List ak):Prop where
 a0:H0 a=af
 ha:H a=aa (.lst<|bs.map V.ref)
 nd:(a::bs).Nodup
 len:bs.length=rows.length
 row:∀(k:Nat) b row,bs[k]? = aa b->rows[k]? = aa row->H0 b=af/\∃xs,H b=aa (.lst xs)/\bz K H0 row xs
theorem oQ.at{K:aO}(n:oQ K j H e a bs)(hb:b∈a::bs):j b=af/\∃xs,H b=aa (.lst xs):=by
 rcases d8.mp hb with rfl|hb
 .exact(n.a0,_,n.ha)
 .let(k,z):=List.getElem?_of_mem hb
  have I:=(i8.mp z).1;rw[n.len]at I;let(d,xs,f,q):=n.row k b _ z<|eO I;show(d,xs,f)
theorem oQ.move{K:aO}(n:oQ K B H e a bs)(s:dj B j)(J:∀b∈a::bs,j b=af)(h:∀b∈a::bs,H' b=H b):oQ K j H' e a bs:=
 (J a fA,by rw[h a fA];show n.ha,n.nd,n.len,λk b row z I=>by let(q,i,f,g):=n.row k b row z I;have d:b∈a::bs:=eV _<|oZ z;show(J b d,i,by rw[h b d];show f,g.mono s))
def lp(K:aO)(z H:Hp)(e:St)(M:Ctx):Prop:=
 (∀(i:Nat) b,M[i]? = aa (.nest b)->∃a bs,e[i]? = aa (aa (.ref a))/\oQ K z H b a bs/\∀(j:Nat) d c,M[j]? = aa (.own d)->e[j]? = aa (aa (.ref c))->c∉a::bs)/\
 ∀(i j:Nat) f g,M[i]? = aa (.nest f)->M[j]? = aa (.nest g)->i=j
theorem lp.uZ{K:aO}(h:∀(i:Nat) z,M[i]? ≠ aa (.nest z)):lp K B H I M:=(λi z e=>absurd e<|h i z,λi j a b e=>absurd e<|h i a)
theorem lp.move{K:aO}{J H B H':Hp}(n:lp K J H I M)(s:dj J B)(h:∀(i:Nat) z a bs,M[i]? = aa (.nest z)->I[i]? = aa (aa (.ref a))->oQ K J H z a bs->(∀(j:Nat) O c,M[j]? = aa (.own O)->I[j]? = aa (aa (.ref c))->c∉a::bs)->∀b∈a::bs,B b=af/\H' b=H b):lp K B H' I M:=
 (λi z e=>by let(a,bs,d,f,g):=n.1 i z e;show(a,bs,d,f.move s (λb k=>(h i z a bs e d f g b k).1)<|λb k=>(h i z a bs e d f g b k).2,g),n.2)
theorem lp.ext{K:aO}(n:lp K z H B M)(e:Ext z H j H'):lp K j H' B M:=
 n.move e.s0 λi d a bs q q f q b g=>by let(g1,h,g2):=f.at g;show(e.new b g1 (),by rw[e.s1 b _ g2,g2])
structure RC(K:aO)(H0 H:Hp)(U:St)(M:Ctx):Prop where
 sub:dj H0 H
 len:U.length=M.length
 val:∀(i:Nat) d,M[i]? = aa (.val d)->∃v,U[i]? = aa (aa v)/\Rep K H0 d v
 own:∀(i:Nat) ds,M[i]? = aa (.own ds)->∃a xs,U[i]? = aa (aa (.ref a))/\H0 a=af/\H a=aa (.lst xs)/\bz K H0 ds xs
 ne:∀(i j:Nat) a ds es,M[i]? = aa (.own ds)->M[j]? = aa (.own es)->U[i]? = aa (aa (.ref a))->U[j]? = aa (aa (.ref a))->i=j
 ip:lp K H0 H U M
theorem RC.ext{K:aO}(r:RC K z H B M)(e:Ext z H j H'):RC K j H' B M:=
 (e.sub,r.len,λi d h=>let (v,b,f):=r.val i d h;(v,b,f.mono e.s0),
  λi g h=>let (a,m,b,f,k,l):=r.own i g h;(a,m,b,e.new a f (),e.s1 _ _ k,l.mono e.s0),r.ne,r.ip.ext e)
inductive tV(K:aO)(f:CO D)(U:St)(H:Hp)(Q:VK):Prop
 |mk (H0 M d) (_:RC K H0 H U M) (_:f M=aa d) (_:∀v H' cU,Ext H0 H cU H'->Rep K cU d v->Q v H')
inductive zkT(K:aO)(f:CO (Sk×List D))(U:St)(H:Hp)(Q:VK):Prop
 |mk (H0 M k ds) (_:RC K H0 H U M) (_:f M=aa (k,ds)) (_:∀a xs H' cU,Ext H0 H cU H'->gM k K H' a xs->(k=.T->ej K cU a xs)->bz K cU ds xs->Q (.ref a) H')
inductive tO(K:aO)(f:CO (List D))(U:St)(H:Hp)(Q:VK):Prop
 |mk (H0 M ds) (_:RC K H0 H U M) (_:f M=aa ds) (_:∀a xs H' cU,Ext H0 H cU H'->H a=af->cU a=af->H' a=aa (.lst xs)->bz K cU ds xs->Q (.ref a) H')
inductive tT(K:aO)(f:CO Bool)(U:St)(H:Hp)(Q:Bool->Hp->Prop):Prop
 |mk (H0 M b) (_:RC K H0 H U M) (_:f M=aa b) (_:∀H' cU,Ext H0 H cU H'->Q b H')
inductive tA(K:aO)(f:CO (List D))(U:St)(H:Hp)(Q:List V->Hp->Prop):Prop
 |mk (H0 M ds) (_:RC K H0 H U M) (_:f M=aa ds) (_:∀vs H' cU,Ext H0 H cU H'->bz K cU ds vs->Q vs H')
abbrev PV(X:Cx)(e:bE)(f:CO D):Prop:=PE X e (tV X.K f)
abbrev PQ(X:Cx)(e:bE)(f:CO (Sk×zn D)):Prop:=PE X e (zkT X.K f)
abbrev PO(X:Cx)(e:bE)(f:CO (zn D)):Prop:=PE X e (tO X.K f)
abbrev gk(X:Cx)(e:bE)(f:CO Bool):Prop:=PT X e (tT X.K f)
abbrev uv(X:Cx)(e:bE)(f:CO Bool):Prop:=PW X e (tT X.K f)
abbrev q8(X:Cx)(es:zn bE)(f:CO (zn D)):Prop:=PA X es (tA X.K f)
theorem j3(h:PE X e t)(i:∀j H Q,t' j H Q->t j H Q):PE X e t':=λa s j H Q I q=>h a s j H Q I<|i j H Q q
theorem X5(h:PT X e t)(i:∀j H Q,t' j H Q->t j H Q):PT X e t':=λa s j H Q I q=>h a s j H Q I<|i j H Q q
theorem Hw(h:PW X e t)(i:∀j H Q,t' j H Q->t j H Q):PW X e t':=λz a s j H Q I q=>h z a s j H Q I<|i j H Q q
theorem Nr(h:PA X es t)(i:∀e H Q,t' e H Q->t e H Q):PA X es t':=λpos a s e H Q I q=>h pos a s e H Q I<|i e H Q q
theorem kj{X:Cx}{st:de}{t t':TS}(h:PS X st t)(i:∀D e H,t' D e H->t D e H):PS X st t':=λa s e H D I q=>h a s e H D I<|i D e H q
theorem Fe{st:zn de}(h:gj X st t)(i:∀D e H,t' D e H->t D e H):gj X st t':=λa s e H D I q=>h a s e H D I<|i D e H q
theorem Ya(h:PI X tg e t)(i:∀j H R,t' j H R->t j H R):PI X tg e t':=λa s j H R I q=>h a s j H R I<|i j H R q
theorem vw(h:n<=lim):n<=cP:=et h ()
section
variable{X:Cx}{e a b c:bE}{pos:cH}
theorem PV.q(h:PV X e f):PQ X e (zU f):=j3 h λw H Q O=>by
 let(t,s,k,p,u,I,q):=O;erw[zU]at I;cases e1:f s with
 |none=>grind
 | some d=>
  rw[e1]at I;show(t,s,d,u,e1,λv o b ext r=>?_);cases d with
  |tup j=>
   let(i,J):k=.T/\p=j:=by simp[qg]at I;show(I.1.symm,I.2.symm)
   subst i J;let(a,m,rfl,g,l):=(r);show q a m o b ext (gr ext.sub g) (λx=>g) l
  |lst j=>
   let(i,J):k=.L/\p=j:=by simp[qg]at I;show(I.1.symm,I.2.symm)
   subst i J;let(a,m,rfl,g,l):=(r);show q a m o b ext (ext.sub.seq g) (λz=>nomatch z) l
  |_=>simp[qg]at I
theorem PO.v(h:PO X e f):PV X e (j7 f):=j3 h λt H Q I=>by
 let(j,i,d,g,z,q):=I;erw[j7]at z;cases e1:f i with
 |none=>grind
 |some l=>
  rw[e1]at z;cases z;show(j,i,l,g,e1,λa p s k ext m b o r=>q _ _ _ (ext.show m b o g.sub)<|(a,p,rfl,dY.of zB,r.mono<|jx b _))
theorem PO.q(h:PO X e f):PQ X e (z7 f):=j3 h λu H Q J=>by
 let(i,d,k,o,l,I,q):=J;erw[z7]at I;cases e1:f d with
 |none=>grind
 |some p=>
  rw[e1]at I;cases I;show(i,d,_,l,e1,λa m g b ext s t j r=>q a m g b ext (dY.of j) (λz=>nomatch z) r)
theorem VU(i)(h:PE X e (eY i)):PV X e (zf i):=j3 h λo H Q I=>by
 let(f,k,d,a,z,q):=I;erw[zf]at z;cases e1:k[i]? with
 |none=>rw[e1]at z;cases z
 | some c=>
  rw[e1]at z;cases c with
  |val l=>
   cases z;let(v,g,j):=a.val i d e1;show(v,g,q v H f (Ext.refl a.sub) j)
  |no=>cases z
  |own m=>cases z
  |nest b=>cases z
theorem sR(i)(h:PE X e (eY i)):PQ X e (zk i):=j3 h λw H Q O=>by
 let(j,u,k,l,b,I,q):=O;erw[zk]at I;cases e1:u[i]? with
 |none=>rw[e1]at I;cases I
 | some c=>
  rw[e1]at I;cases c with
  |no=>cases I
  |nest r=>cases I
  |own g=>
   cases I;let(a,f,o,p,s,t):=b.own i l e1;show(_,o,q a f H j (Ext.refl b.sub) (dY.of s) (λz=>nomatch z) t)
  | val d=>
   let(v,o,p):=b.val i d e1;show(v,o,?_);cases d with
   |tup g=>
    let(m,J):k=.T/\l=g:=by simp[Zr,qg]at I;show(I.1.symm,I.2.symm)
    subst m J;let(a,f,rfl,g1,g2):=(p);show q a f H j (Ext.refl b.sub) (gr b.sub g1) (λx=>g1) g2
   |lst g=>
    let(m,J):k=.L/\l=g:=by simp[Zr,qg]at I;show(I.1.symm,I.2.symm)
    subst m J;let(a,f,rfl,g1,g2):=(p);show q a f H j (Ext.refl b.sub) (b.sub.seq g1) (λz=>nomatch z) g2
   |_=>simp[Zr,qg]at I
theorem Kl(h:PE X e (tC v))(r:∀H,Rep X.K H d v):PV X e (zJ d):=j3 h λi H Q z=>by let(a,g,f,b,I,q):=z;cases I;show q v H a (Ext.refl b.sub)<|r a
theorem zm:PV X (.Constant (.int i) j pos) (sI i):=Kl Nm λq=>(rfl)
theorem nI:PV X (.Constant (.bool x) j pos) (zJ<|.bl x):=Kl Np λq=>(rfl)
theorem VV:PV X (.Constant .none j pos) (zJ .cI):=Kl cE λq=>(rfl)
theorem zl:PV X (.Constant (.str x) j pos) (zJ<|.str x):=Kl Ni λq=>(rfl)
def ig(K:aO)(r:R2)(F:D->D->xz D):Prop:=∀b H x y f z d Q,dj b H->Rep K b f x->Rep K b z y->F f z=aa d->(∀v e a,Ext b H a e->Rep K a d v->Q v e)->r x y H Q
inductive _V{α β:Type}(o:Option α)(f:α->Option β)(y:β):Prop
 |mk x (_:o=aa x) (_:f x=aa y)
theorem zc(h:o.bind f=aa y):_V o f y:=by
 cases o with
 |none=>cases h
 |some x=>show(x,rfl,h)
theorem gg{K:aO}(hs:ig K r F):∀j H Q,tV K (zF F B S) j H Q->A3 r (tV K B) (tV K S) j H Q:=λj H Q J=>by let(i,g,d,e,z,q):=J;let(x,l,z):=zc z;let(y,m,z):=zc z;show(i,g,x,e,l,λO u b f o=>(b,g,y,e.ext f,m,λY k Z I p=>hs Z k O Y x y d Q I.sub (o.mono I.s0) p z λv h a t s=>q v h a (f.trans<|I.trans t) s))
theorem VX(z:eI X (n9 op) r)(hs:ig X.K r F)(j:PV X a fa)(B:PV X b fb):PV X (.BinOp a op b pos) (zF F fa fb):=
 j3 (Cp z j B) (gg hs)
theorem cg(z:eI X (h8 op) r)(hs:ig X.K r F)(j:PV X a fa)(B:PV X b fb)(H:m3 op b=aF):PV X (.Compare a [op] [b] pos) (zF F fa fb):=
 j3 (QZ z j B H) (gg hs)
theorem wu{b:Bool}(h:nN d=aa b):d=.bl b:=by cases d<;>simp[nN]at h;rw[h]
theorem K0(I:eI X (h8 op) r)(hs:ig X.K r F)(j:PV X a fa)(B:PV X b fb)(O:m3 op b=aF):gk X (.Compare a [op] [b] pos) (sB<|zF F fa fb):=
 X5 (w5 I j B O) λm H Q J=>by let(g,l,k,i,z,q):=J;let(d,h,z):=zc z;show gg hs m H _ (g,l,d,i,h,λv f e x r=>?_);rw[wu z]at r;show(k,r,q f e x)
theorem zY(h:PV X e f)(j:∀I,tu e ⋯ I=(do let v<-I;oX e.pos;ml [v] (A4 v)):=by intro _;rfl):gk X e (sB f):=
 X5 (Fc h j) λo H Q J=>by let(g,m,k,l,z,q):=J;let(d,i,z):=zc z;show(g,m,d,l,i,λv b a x r=>?_);rw[wu z]at r;show(k,r,q b a x)
theorem WT(h:gk X a f):uv X (.BoolOp .And [a] pos) f:=fW h
theorem ki(h:gk X a f):uv X (.BoolOp .Or [a] pos) f:=EZ h
theorem fV{rest:zn bE}(B:gk X a f)(S:uv X (.BoolOp .And (b::rest) pos) g):uv X (.BoolOp .And (a::b::rest) pos) (BM f g):=
 Hw (sD B S) λo H Q I=>by
  let(i,h,k,e,z,q):=I;let(c,l,z):=zc z;show(i,h,c,e,l,λm d x=>?_);cases c with
  |true=>show(d,h,k,e.ext x,z,λj J O=>q j J<|x.trans O)
  |false=>grind
theorem vE{rest:zn bE}(B:gk X a f)(S:uv X (.BoolOp .Or (b::rest) pos) g):uv X (.BoolOp .Or (a::b::rest) pos) (iL f g):=
 Hw (MH B S) λo H Q I=>by
  let(i,h,k,e,z,q):=I;let(c,l,z):=zc z;show(i,h,c,e,l,λm d x=>?_);cases c with
  |true=>grind
  |false=>show(d,h,k,e.ext x,z,λj J O=>q j J<|x.trans O)
theorem jc(j:gk X a f):gk X (.UnaryOp .Not a pos) (jY f):=
 X5 (Fd j) λg H Q I=>by
  let(d,b,k,e,z,q):=I;erw[jY]at z;cases e1:f b with
  |none=>grind
  |some c=>rw[e1]at z;cases z;show(d,b,c,e,e1,q)
theorem ZO(h:uv X e f):gk X e f:=h.pt
theorem Xw(h:PV X a f):PV X (.BoolOp op [a] pos) f:=Fi h
theorem Xx{rest:zn bE}(B:PV X a f)(S:PV X (.BoolOp .And (b::rest) pos) g):PV X (.BoolOp .And (a::b::rest) pos) (Bd f g):=
 j3 (Fj B S) λs H Q I=>by
  let(l,j,d,i,z,q):=I;let(c,h,z):=zc z;let(J,O,h):=zc h;show(l,j,J,i,O,λv k e x r=>?_);rw[wu h]at r;show(c,r,?_);cases c with
  |true=>show(e,j,d,i.ext x,z,λY m Z p o=>q Y m Z (x.trans p) o)
  |false=>cases z;show q _ k e x rfl
theorem MI(j:PV X a f):PV X (.UnaryOp .Not a pos) (RH f):=
 j3 (Nj j) λk H Q J=>by
  let(h,e,d,i,z,q):=J;erw[RH]at z;cases e1:f e with
  |none=>grind
  |some I=>
   rw[e1]at z;show(h,e,I,i,e1,λv g b x r=>?_);cases I with
   |bl c=>cases z;show(c,r,q _ g b x rfl)
   |_=>cases z
theorem qS(U:gk X c k)(B:PV X a f)(S:PV X b g):PV X (.IfExp c a b pos) (fi k f g):=
 j3 (Cr U B S) λr H Q Y=>by
  let(m,l,d,j,z,q):=Y;let(t,o,z):=zc z;show(m,l,t,j,o,λp e x=>?_);cases t with
  |true=>show(e,l,d,j.ext x,z,λI h J O i=>q I h J (x.trans O) i)
  |false=>show(e,l,d,j.ext x,z,λI h J O i=>q I h J (x.trans O) i)
theorem zW:q8 X [] zA:=Nr jG λf H Q z=>by let(a,e,d,b,I,q):=z;cases I;show q [] H a (Ext.refl b.sub) bz.nil
theorem zg(B:PV X e f)(J:q8 X es g)(hs:ck (e::es) ⋯=(aF,bH e ⋯)::ck es ⋯:=by rfl):q8 X (e::es) (za f g):=
 Nr (zX B J hs) λu H Q O=>by
  let(j,b,t,h,z,q):=O;let(x,l,z):=zc z;cases d:g b with
  |none=>grind
  |some r=>
   rw[d]at z;cases z;show(j,b,x,h,l,λv s a i m=>(a,b,r,h.ext i,d,λp k Y I o=>q (v::p) k Y (i.trans I)<|bz.cons (m.mono I.s0) o))
theorem zP(h:q8 X es f):PV X (.Tuple es j pos) (qf f):=
 j3 (Nh h) λs H Q J=>by
  let(g,o,d,l,z,q):=J;let(a,k,z):=zc z;by_cases I:a.length<=lim
  .rw[DJ I]at z;cases z
   show(g,o,a,l,k,λm r i j e=>(vw (by rw[e.length];show I),λp b=>q _ _ _ (j.trans<|Ext.alloc j.sub b _)<|(p,m,rfl,ej.of zB,e.mono<|jx (jl j.sub b) _)))
  .rw[DY I]at z;cases z
theorem jJ(h:q8 X es f):PO X (.List es pos) (qi f):=
 j3 (Nk h) λt H Q O=>by
  let(i,r,d,l,I,q):=O;let(j,k,I):=zc I;by_cases J:j.length<=lim
  .rw[DJ J]at I;cases I
   show(i,r,_,l,k,λm s b a g=>(vw (by rw[g.length];show J),λp e=>q p m _ b (a.trans<|Ext.hide a.sub e _) (by
    cases z:H p with
    |none=>rfl
    |some o=>rw[a.s1 p o z]at e;lia) (jl a.sub e) zB g))
  .rw[DY J]at I;cases I
end
def Ca(e:zn (Key×V))(ps:zn (Key×V)):zn (Key×V):=ps.foldl (λa b=>pv a b.1 b.2) e
theorem Zn:Dj Dw "dict.update.loop" = aa Builtin.«dict.update.loop» :=_R (by kernel_rfl)
theorem wY(args):(Code.builtin "dict.update.loop" args).quiet:=Us _ ()
def xF(e:zn D):zn D:=(aT e.length).map λ(i:Nat)=>D.tup [.int i,e[i]?.getD .cI]
def bL(f:CO D)(M:Ctx):xz (zn D):=(f M).bind λd=>match d with
 |.tup a=>aa (xF a)
 |_=>af
def gG:zn D->xz (zn Int)
 |[]=>aa []
 |.int i::r=>(gG r).map λl=>i::l
 |_::_=>af
def TN(f:CO D)(g:CO (Sk×zn D))(M:Ctx):xz D:=(f M).bind λd=>(g M).bind λa=>(gP d).bind λi=>(gG a.2).map λl=>.bl (decide<|i∈l)
def Jt(T:Tg)(f:CO (zn D))(M:Ctx):zn D->xz (List<|zn D)
 |[]=>aa []
 |d::ds=>(qy T d M).bind λz=>(f z).bind λe=>(Jt T f M ds).map λr=>e::r
def iN(e:CO (zn D))(T:Tg)(n:Nat)(fr:zn Nat)(f:CO (zn D))(M:Ctx):xz (List<|zn D):=(e M).bind λa=>if (pT a)<=lim then Jt T f (jj n fr M) a else af
def dB:Cell->Bool
 |.nest _=>ae
 |_=>aF
def BJ(i:Nat)(f:CO (List<|zn D)):CO Fl:=λb=>(f b).bind λa=>if b.any dB=aF then aa (.next<|b.set i<|.nest a)else af
def Kw:xz Cell->xz (List<|zn D)
 |some (.nest rows)=>aa rows
 |_=>af
def wI(M:Ctx)(j i:Nat)(r:zn D):Ctx:=(M.set j .no).set i (.own r)
def vb(j i:Nat)(g f:CO D)(M:Ctx):zn (zn D)->xz (List<|zn D)
 |[]=>aa []
 |r::rs=>(f<|wI M j i r).bind λd=>((g<|wI M j i r).bind gP).bind λk=>(eL r.length k).bind λm=>(vb j i g f M rs).map λt=>r.set m d::t
def fL(j i:Nat)(g f:CO D)(M:Ctx):xz Fl:=(Kw M[j]?).bind λb=>if i=j\/M.length<=i then af else (vb j i g f M b).map λa=>.next ((M.set j<|.nest a).set i .no)
def RI(i:Nat)(F:CO Fl)(M:Ctx):xz Fl:=(Zs M[i]?).bind λa=>F<|M.set i<|.val<|.lst a
def Mv(i:Nat)(F:CO Fl)(M:Ctx):xz Fl:=(Kw M[i]?).bind λa=>F<|M.set i<|.val<|.lst<|a.map D.lst
def bt:zn D->xz (zn Str)
 |[]=>aa []
 |.str x::r=>(bt r).map λl=>x::l
 |_::_=>af
def zO(x:Str):Bool:=decide<|x.length<=1000
def wV(f:CO D)(g:CO (Sk×zn D))(M:Ctx):xz D:=(f M).bind λd=>(g M).bind λa=>match d,a.1 with
 |.str sep,.L=>(bt a.2).bind λl=>if (pT l)<=lim/\l.all zO/\zO sep then aa (.str<|m1 sep l)else af
 |_,_=>af
def wU(f g:CO D)(M:Ctx):xz D:=(f M).bind λd=>((g M).bind gP).bind λi=>match d with
 |.str z=>if zO z then (eL (pT z.cps.toList) i).bind λk=>z.cps.toList[k]?.map λc=>.str ⟨#[c]⟩else af
 |_=>af
def nv(f:CO D)(M:Ctx):xz D:=(f M).bind λd=>match d with
 |.str z=>if zO z then aa (.int z.length)else af
 |_=>af
def Mt(f g:CO D)(M:Ctx):xz D:=((f M).bind gP).bind λi=>((g M).bind gP).map λj=>.int (if j<i then j else i)
def ON(f:CO D):CO (zn D):=λb=>(f b).bind λd=>match d with
 |.tup a=>aa a.reverse
 |_=>af
def WN(f:CO D):CO D:=λb=>(f b).bind λd=>match d with
 |.tup a=>aa (.tup a.reverse)
 |_=>af
abbrev Xn:=Str×xz Int
def eR:CO Xn:=λ_=>af
def mP(c:Str):CO Xn:=λ_=>aa (c,af)
def aZ(c:Str)(f:CO D):CO Xn:=λa=>((f a).bind gP).bind λi=>if inR i then aa (c,aa i)else af
def gU(k:CO Bool)(G H:CO Xn):CO Xn:=λa=>(k a).bind λb=>if b then G a else H a
def vz(G:CO Xn)(F:CO Fl)(H:CO Xn):CO Xn:=λb=>match G b with
 |some c=>aa c
 |none=>(F b).bind λd=>match d with
  |.next a=>H a
  |_=>af
def qF(G:zn D->xz Xn)(g:CO (zn D)):CO Xn:=λa=>(g a).bind G
def ZE(n:Nat)(G:CO Xn)(e:zn D):xz Xn:=G<|z9 n e
def iM(c:Str)(f:CO D):CO D:=λa=>(f a).bind λd=>match d with
 |.exc z _=>aa (.bl<|z==c)
 |_=>af
def Mu(f:CO D):CO D:=λa=>(f a).bind λd=>match d with
 |.exc _ _=>aa (.bl ae)
 |_=>af
def VA(c:Str):Str:=if c==("NoRoom" : Str)then "room" else "at"
def RK(nm:Str)(f:CO D):CO D:=λa=>(f a).bind λd=>match d with
 |.exc c (aa n)=>if (VA c==nm) then aa (.int n)else af
 |_=>af
def fK(f:CO D)(g:CO (Sk×zn D)):CO D:=λb=>(f b).bind λd=>(g b).bind λa=>(gP d).bind λi=>(gG a.2).map λl=>.bl (!decide (i∈l))
open PySem.W (KasT kas_sort)
def yv(z:Str):zn D:=z.cps.toList.map λc=>D.str ⟨#[c]⟩
def VT(f:CO D)(M:Ctx):xz (zn D):=(f M).bind λd=>match d with
 |.str z=>if zO z then aa (yv z)else af
 |_=>af
def rS(f:CO D)(M:Ctx):xz (zn D):=(f M).bind λd=>match d with
 |.str z=>if zO z then aa (xF<|yv z)else af
 |_=>af
def wW(f:CO D)(M:Ctx):xz (zn D):=(f M).bind λd=>match d with
 |.lst a=>aa (xF a)
 |_=>af
def BL(f:CO D)(g:CO (Sk×zn D))(M:Ctx):xz D:=(f M).bind λd=>(g M).bind λa=>match d with
 |.str x=>(bt a.2).map λl=>.bl (l.any λy=>y==x)
 |_=>af
def xQ(f g:CO D)(M:Ctx):xz D:=(f M).bind λd=>(g M).bind λe=>match d,e with
 |.str x,.str y=>if zO x/\zO y then aa (.str<|x++y)else af
 |_,_=>af
def iJ(f:CO D)(l h:CO (xz Int))(M:Ctx):xz D:=(f M).bind λd=>(l M).bind λlo=>(h M).bind λa=>match d with
 |.str z=>if zO z then aa (.str<|sy z lo a)else af
 |_=>af
def OO(f:CO (Sk×zn D))(M:Ctx):xz (zn D):=(f M).bind λa=>match a.1 with
 |.L=>if (pT a.2)<=lim then aa a.2.reverse else af
 |_=>af
def Cv:D->xz (Int×Int)
 |.tup [.int a,.int b]=>aa (a,b)
 |_=>af
def Xz:zn D->xz (List<|Int×Int)
 |[]=>aa []
 |d::r=>(Cv d).bind λp=>(Xz r).map λl=>p::l
def Si(x y:Int×Int):Bool:=if x.1=y.1 then decide (x.2<y.2)else decide (x.1<y.1)
def OQ{e:Type}(lt:Nat->Nat->Bool):KasT e->e
 |.ret a=>a
 |.ask i j k=>OQ lt<|k<|lt i j
def xR(ps:zn (Int×Int)):zn Nat:=if ps.length<2 then aT ps.length else (OQ (λi j=>Si (ps.getD i (0,0))<|ps.getD j (0,0))<|kas_sort ps.length).toList
def rE(e:zn D):xz (zn D):=(Xz e).bind λa=>if e.length<64 then aa ((xR a).map λi=>e.getD i .cI)else af
def bJ(f:CO (Sk×zn D))(M:Ctx):xz (zn D):=(f M).bind λa=>match a.1 with
 |.L=>rE a.2
 |_=>af
def fN(i:Nat)(f:CO (zn D))(M:Ctx):xz Fl:=(Zs M[i]?).bind λa=>(f M).bind λb=>if a.length+b.length<=lim then aa (.next<|M.set i<|.own<|a++b)else af
def aA:zn D->xz (zn Int)
 |[]=>aa []
 |.int i::r=>(aA r).map λl=>i::l
 |_::_=>af
def Eo(e j:zn D):xz D:=match aA e with
 |some a=>if e.length=j.length/\a.Nodup/\e.length<=lim then aa (.gC e j)else af
 |none=>af
def lQ:zn D->zn D->Int->xz D
 |k::ks,v::vs,i=>match k with
  |.int j=>if j=i then aa v else lQ ks vs i
  |_=>lQ ks vs i
 |_,_,_=>af
open PySem.Spec PyProof.Rows
structure RS(K:aO)(E0 E H0 H:Hp)(U:St)(M:Ctx):Prop where
 rc:RC K H0 H U M
 ext:Ext E0 E H0 H
 fresh:∀(i:Nat) ds a,M[i]? = aa (.own ds)->U[i]? = aa (aa (.ref a))->E a=af
 m5:∀(i:Nat) rows a xs,M[i]? = aa (.nest rows)->U[i]? = aa (aa (.ref a))->H a=aa (.lst xs)->E a=af/\∀b,V.ref b∈xs->E b=af
def Sat(K:aO)(E0 E:Hp)(D:Ends):Fl->Prop
 |.next f=>∀e H b,RS K E0 E b H e f->D.nx e H
 |.brk f=>∀e H b,RS K E0 E b H e f->D.bk e H
 |.cont f=>∀e H b,RS K E0 E b H e f->D.ct e H
 |.ret (.val d)=>∀v H b,Ext E0 E b H->Rep K b d v->D.rt v H
 |.ret (.own es)=>∀a g H b,Ext E0 E b H->E a=af->b a=af->H a=aa (.lst g)->bz K b es g->D.rt (.ref a) H
inductive tS(K:aO)(F:CO Fl)(D:Ends)(U:St)(H:Hp):Prop
 |mk (E0 E H0 M fl) (_:RS K E0 E H0 H U M) (_:F M=aa fl) (_:Sat K E0 E D fl)
abbrev fH(X:Cx)(st:de)(F:CO Fl):Prop:=PS X st (tS X.K F)
abbrev eM(X:Cx)(SI:zn de)(F:CO Fl):Prop:=gj X SI (tS X.K F)
section
variable{K:aO}{E0 E H0 H cU H':Hp}{U:St}{M:Ctx}
theorem RS.step(r:RS K E0 E H0 H U M)(e:Ext H0 H cU H'):RS K E0 E cU H' U M:=(r.rc.ext e,r.ext.trans e,r.fresh,λi b a h d f g=>by let(z,bs,g1,g2,q):=r.rc.ip.1 i b d;rw[f]at g1;cases g1;have:=e.s1 a _ g2.ha;rw[g]at this;cases this;show r.m5 i b a _ d f g2.ha)
theorem zI{l:zn B}{x y:B}(h:(l.set i x)[j]? = aa y):(j=i/\y=x/\i<pT l)\/(j≠i/\l[j]? = aa y):=by
 by_cases e:i=j
 .subst e
  by_cases z:i<pT l
  .rw[kr z]at h;cases h;show .inl (rfl,rfl,z)
  .rw[List.set_eq_of_length_le ()]at h
   show absurd (i8.mp h).1 z
 .rw[ew e]at h;show .inr (dh e,h)
theorem lp.mT(n:lp K H0 H U M):lp K H0 H (U.set i<|some v) (M.set i<|.val d):=
 (λj b e=>by
  rcases zI e with⟨_,z,_⟩|⟨I,z⟩
  .cases z
  .let(a,bs,m,o,p):=n.1 j b z
   show(a,bs,by rw[ew (dh I)];show m,o,λk l c g f=>?_);rcases zI g with⟨_,z,_⟩|⟨J,h⟩
   .cases z
   .rw[ew (dh J)]at f;show p k l c h f,
 λj k r s g f=>by
  rcases zI g with⟨_,z,_⟩|⟨_,h⟩
  .cases z
  .rcases zI f with⟨_,z,_⟩|⟨_,t⟩
   .cases z
   .exact n.2 j k r s h t)
theorem RC.mT{d:D}(r:RC K H0 H U M)(h:Rep K H0 d v):RC K H0 H (U.set i<|some v) (M.set i<|.val d):=by
 show(r.sub,by simp[r.len],λj f e=>?_,λj b e=>?_,λj k a b m g l J O=>?_,r.ip.mT)
 .rcases zI e with⟨rfl,z,Y⟩|⟨I,z⟩
  .cases z;show(v,kr (by rw[r.len];show Y),h)
  .let(o,g1,g2):=r.val j f z
   show(o,by rw[ew (dh I)];show g1,g2)
 .rcases zI e with⟨rfl,z,Y⟩|⟨I,z⟩
  .cases z
  .let(a,p,g1,g2):=r.own j b z
   show(a,p,by rw[ew (dh I)];show g1,g2)
 .rcases zI g with⟨_,z,_⟩|⟨I,s⟩
  .cases z
  .rcases zI l with⟨_,z,_⟩|⟨Z,t⟩
   .cases z
   .rw[ew (dh I)]at J
    rw[ew (dh Z)]at O;show r.ne j k a b m s t J O
theorem RS.mT{d:D}(r:RS K E0 E H0 H U M)(h:Rep K H0 d v):RS K E0 E H0 H (U.set i<|some v) (M.set i<|.val d):=
 (r.rc.mT h,r.ext,λj g a f b=>by
  rcases zI f with⟨_,z,_⟩|⟨I,z⟩
  .cases z
  .rw[ew (dh I)]at b;show r.fresh j g a z b,
 λj e a k f b J=>by
  rcases zI f with⟨_,z,_⟩|⟨I,z⟩
  .cases z
  .rw[ew (dh I)]at b;show r.m5 j e a k z b J)
theorem wj:∀{z bs:zn ak},z.map V.ref=bs.map V.ref->z=bs
 |[],[],_=>rfl
 |[],_::_,h=>by cases h
 |_::_,[],h=>by cases h
 |a::z,b::bs,h=>by injection h with h1 h2;injection h1 with h1;rw[h1,wj h2]
theorem RS.zkF{S:zn D}{a:ak}{xs:zn V}(r:RS K E0 E B G U M)(e:Ext B G H0 H)(σ:G a=af)(W:H0 a=af)(h3:H a=aa (.lst xs))(h4:bz K H0 S xs):
 RS K E0 E H0 H (U.set i<|some (.ref a)) (M.set i<|.own S):=by
 have f:=r.rc.ext e;have no:∀(j:Nat) h,M[j]? = _->¬U[j]? = aa (aa (.ref a)):=λj h g z=>by let(b,u,g1,g2,g3,v):=r.rc.own j h g;lia
 show((f.sub,by simp[f.len],λj x g=>?_,λj h g=>?_,λj k b h fs s l O Y=>?_,(λj d g=>?_,λj k L γ g1 g2=>?_)),r.ext.trans e,λj h b g1 g2=>?_,λj d b xs g1 g2 g3=>?_)
 .rcases zI g with⟨_,z,_⟩|⟨I,z⟩
  .cases z
  .let(N,g1,g2):=f.val j x z
   show(N,by rw[ew (dh I)];show g1,g2)
 .rcases zI g with⟨rfl,z,J⟩|⟨I,z⟩
  .cases z;show(a,xs,kr (by rw[f.len];show J),W,h3,h4)
  .let(b,u,g1,g2):=f.own j h z
   show(b,u,by rw[ew (dh I)];show g1,g2)
 .rcases zI s with⟨rfl,z,J⟩|⟨I,m⟩
  .rcases zI l with⟨rfl,_,_⟩|⟨Z,p⟩
   .rfl
   .rw[kr (by rw[f.len];show J)]at O
    rw[ew (dh Z)]at Y;cases O;show absurd Y<|no k fs p
  .rcases zI l with⟨rfl,z,J⟩|⟨Z,p⟩
   .rw[kr (by rw[f.len];show J)]at Y
    rw[ew (dh I)]at O;cases Y;show absurd O<|no j h m
   .rw[ew (dh I)]at O
    rw[ew (dh Z)]at Y;show f.ne j k b h fs m p O Y
 .rcases zI g with⟨_,z,_⟩|⟨I,z⟩
  .cases z
  .refine aU λF=>?_;let(b,bs,g1,g2,g3):=r.rc.ip.1 j d z
   let(Q,t,f1,f2,A):=f.ip.1 j d z;show F ?_;rw[g1]at f1;cases f1;have y:t.map V.ref=bs.map V.ref:=by have:=e.s1 b _ g2.ha;rw[f2.ha]at this;injection this with this;injection this
   have w:=wj y;subst w;show(b,t,by rw[ew (dh I)];show g1,f2,λk h c s l=>?_);rcases zI s with⟨rfl,_,J⟩|⟨Z,m⟩
   .rw[kr (by rw[f.len];show J)]at l;cases l
    intro C;let(v,P,q):=g2.at C;lia
   .rw[ew (dh Z)]at l;show A k h c m l
 .rcases zI g1 with⟨_,z,_⟩|⟨_,m⟩
  .cases z
  .rcases zI g2 with⟨_,z,_⟩|⟨_,p⟩
   .cases z
   .exact f.ip.2 j k L γ m p
 .rcases zI g1 with⟨rfl,z,J⟩|⟨I,z⟩
  .rw[kr (by rw[f.len];show J)]at g2;cases g2
   cases q:E a with
   |none=>rfl
   |some o=>rw[r.ext.s1 a o q]at σ;lia
  .rw[ew (dh I)]at g2;show r.fresh j h b z g2
 .rcases zI g1 with⟨_,z,_⟩|⟨I,z⟩
  .cases z
  .rw[ew (dh I)]at g2;show(r.step e).m5 j d b xs z g2 g3
theorem RS.rewrite{B W:zn D}{a:ak}{xs σ:zn V}(r:RS K E0 E H0 H U M)(S:M[i]? = aa (.own B))(hs:U[i]? = aa (aa (.ref a)))(h4:bz K H0 W σ):
 RS K E0 E H0 (upd H a<|.lst σ) U (M.set i<|.own W):=by
 let(F,G,g1,g2,g3,γ):=r.rc.own i B S;rw[hs]at g1;cases g1;show((λb o q=>?_,by simp[r.rc.len],λj w g=>?_,λj fs g=>?_,λj k b fs gs f d O x=>?_,(λj e g=>?_,λj k A C f d=>?_)),(r.ext.s0,λb o q=>?_,λb o q=>?_,r.ext.new),λj fs b f d=>?_,λj e b s f d O=>?_)
 .rw[zC (λz=>by lia)];show r.rc.sub b o q
 .rcases zI g with⟨_,z,_⟩|⟨Y,z⟩
  .cases z
  .exact r.rc.val j w z
 .rcases zI g with⟨rfl,z,N⟩|⟨Y,z⟩
  .cases z;show(a,σ,hs,g2,zB,h4)
  .let(b,s,f1,I,J,y):=r.rc.own j fs z
   show(b,s,f1,I,?_,y);rw[zC (λq=>Y<|r.rc.ne j i a fs B z S (by rw[f1,q]) hs)];show J
 .have t:∃h,M[j]? = aa (.own h):=by
   rcases zI f with⟨q,_,_⟩|⟨_,z⟩
   .exact(B,by rw[q];show S)
   .exact(fs,z)
  have u:∃h,M[k]? = aa (.own h):=by
   rcases zI d with⟨q,_,_⟩|⟨_,z⟩
   .exact(B,by rw[q];show S)
   .exact(gs,z)
  let(f1,l):=t;let(I,p):=u;show r.rc.ne j k b f1 I l p O x
 .rcases zI g with⟨_,z,_⟩|⟨Y,z⟩
  .cases z
  .let(b,bs,f1,I,J):=r.rc.ip.1 j e z
   have Z:=J i B a S hs;show(b,bs,f1,I.move (dj.refl _) (λc m=>(I.at m).1)<|λc m=>zC λq=>Z<|q ▸ m,λk fs c f d=>?_);rcases zI f with⟨q,_,_⟩|⟨_,l⟩
   .rw[q,hs]at d;cases d;show Z
   .exact J k fs c l d
 .rcases zI f with⟨_,z,_⟩|⟨_,l⟩
  .cases z
  .rcases zI d with⟨_,z,_⟩|⟨_,p⟩
   .cases z
   .exact r.rc.ip.2 j k A C l p
 .rw[zC (λz=>by rw[z,r.fresh i B a S hs]at q;cases q)];show r.ext.s1 b o q
 .rw[zC (λz=>by lia)];show r.ext.sub b o q
 .rcases zI f with⟨q,_,_⟩|⟨_,z⟩
  .rw[q]at d;show r.fresh i B b S d
  .exact r.fresh j fs b z d
 .rcases zI f with⟨_,z,_⟩|⟨Y,z⟩
  .cases z
  .let(L,bs,f1,I,J):=r.rc.ip.1 j e z
   rw[d]at f1;cases f1;rw[zC (λq=>J i B a S hs<|by rw[q];show fA)]at O;show r.m5 j e b s z d O
end
section
variable{X:Cx}{e a c:bE}{pos:cH}{st:de}{rest:zn de}
theorem zH:eM X [] jN:=Fe K4 λD d H z=>by let(E0,E,a,f,e,b,I,J):=z;cases I;show J d H a b
theorem ze(j:fH X st F)(B:eM X rest G):eM X (st::rest) (zV F G):=Fe (qL j B) λD l H J=>by
 let(E0,E,d,h,f,g,z,I):=J;let(f1,e,z):=zc z;show(E0,E,d,h,f1,g,e,?_);cases f1 with
 |next a=>show λi k b O=>(E0,E,b,a,f,O,z,I)
 |brk a=>cases z;show I
 |cont a=>cases z;show I
 |ret r=>cases z;cases r<;>show I
theorem zh(j:fH X st F):eM X [st] F:=kY j
inductive b?{α β:Type}(o:Option α)(f:α->β)(y:β):Prop
 |mk x (_:o=aa x) (_:f x=y)
theorem zy(h:o.map f=aa y):b? o f y:=by
 cases o with
 |none=>cases h
 |some x=>show(x,rfl,l8 h)
theorem zE(h:PV X e f):fH X (.Return (aa e) pos) (qv f):=kj (K7 h) λD m H I=>by let(E0,E,i,k,l,b,z,J):=I;let(d,j,z):=zy z;subst z;show(i,k,d,b.rc,j,λv g a x r=>J v g a (b.ext.trans x) r)
theorem j9(h:PO X e f):fH X (.Return (aa e) pos) (yW f):=kj (K7 h) λD w H I=>by
 let(E0,E,i,t,u,d,z,J):=I;let(j,k,z):=zy z;subst z;show(i,t,j,d.rc,k,λa s g b x l m p r=>J a s g b (d.ext.trans x) ?_ m p r);cases q:E a with
 |none=>rfl
 |some o=>rw[d.ext.s1 a o q]at l;lia
theorem JO(i)(h:PE X e (eY i)):fH X (.Return (aa e) pos) (bK i):=kj (K7 h) λD u H J=>by
 let(E0,E,k,s,t,f,z,I):=J;erw[bK]at z;cases b:s[i]? with
 |none=>rw[b]at z;cases z
 | some c=>
  rw[b]at z;cases c with
  |no=>cases z
  |val d=>
   cases z;let(v,g,j):=f.rc.val i d b;show(v,g,I v H k f.ext j)
  |nest m=>cases z
  |own l=>
   cases z;let(a,r,g,j,o,p):=f.rc.own i l b;show(_,g,I a r H k f.ext (f.fresh i l a b g) j o p)
theorem zha:fH X (.Continue pos) Mx:=kj zhR λD d H z=>by let(E0,E,a,f,e,b,I,J):=z;cases I;show J d H a b
theorem jU:fH X st jP:=kj Cg λD f H z=>by let(E0,E,a,e,b,d,I,J):=z;cases I
theorem jb{F G:CO Fl}(O:gk X c k)(j:eM X x F)(B:eM X y G):fH X (.If c x y pos) (dt k F G):=kj (sQ O j B) λD i H J=>by
 let(E0,E,f,d,e,b,z,I):=J;let(t,g,z):=zc z;show(f,d,t,b.rc,g,λh a x=>?_);cases t with
 |true=>show(E0,E,a,d,e,b.step x,z,I)
 |false=>show(E0,E,a,d,e,b.step x,z,I)
theorem fX(i)(h:PS X st (WH (tV X.K f)<|yY i)):fH X st (jT i f):=kj h λD m H I=>by let(E0,E,e,j,l,b,z,J):=I;let(d,g,z):=zy z;subst z;show(e,j,d,b.rc,g,λv k a x r=>J _ _ a<|(b.step x).mT r)
theorem iW(i)(h:PS X st (WH (tO X.K f)<|yY i)):fH X st (xU i f):=kj h λD u H I=>by let(E0,E,e,o,s,d,z,J):=I;let(g,j,z):=zy z;subst z;show(e,o,g,d.rc,j,λa t p b x k l m r=>J _ _ b<|d.zkF x k l m r)
theorem vd(h:Zs o=aa ds):o=aa (.own ds):=by
 cases o with
 |none=>cases h
 |some c=>cases c<;>simp[Zs]at h;rw[h]
theorem zi1(i:Nat){f:CO D}(h:PE X e (A_ X.K "list" sC (eY i) (WG (tV X.K f) Bc)))(hs:hU e af pos.line ⋯=pure aF:=by rfl):fH X (.Expr e pos) (jQ i f):=
 kj (WY h hs) λD A H J=>by
  show aU λO=>?_;let(E0,E,p,t,w,j,z,Y):=J;let(k,b,z):=zc z;let(d,s,z):=zc z;show O ?_;have b:=vd b;by_cases I:k.length<lim
  .rw[DJ I]at z;cases z
   let(a,xs,l,y,m,o):=j.rc.own i k b;show(_,l,.inl (rfl,_,dY.of m),p,t,d,j.rc,s,λv u g x r=>(a,xs,v,rfl,rfl,x.s1 _ _ m,hV (by rw[o.length];show I)<|vw<|cV _,Y _ _ g<|(j.step x).rewrite (xs:=xs) b l ((o.mono x.s0).append (bz.cons r bz.nil))))
  .rw[DY I]at z;cases z
end
def UF(K:aO)(j H:Hp)(Q:VK):Res->Prop
 |.val d=>∀v e b,Ext j H b e->Rep K b d v->Q v e
 |.own g=>∀a f e b,Ext j H b e->H a=af->b a=af->e a=aa (.lst f)->bz K b g f->Q (.ref a) e
inductive l5(K:aO)(n:Nat)(F:List D->Option Res)(vs:List V)(H:Hp)(Q:VK)(_:XK):Prop
 |mk (H0 ds r) (_:dj H0 H) (_:bz K H0 ds vs) (_:ds.length=n) (_:F ds=aa r) (_:UF K H0 H Q r)
theorem l5.len{K:aO}{n:Nat}{F:zn D->xz Res}{ps:zn Str}(e:ps.length=n):∀vs H Q E,l5 K n F vs H Q E->vs.length=ps.length:=λvs H Q E h=>by let(d,f,r,q,a,b,q):=h;rw[a.length,b,e]
section
variable{P:cQ}{w:cN}{K:aO}{mg:DZ}{base:bN}
theorem JI(s:dj H0 H)(h:bz K H0 ds vs)(B:ds.length<=N.length):RS K H0 H H0 H (Jc N vs) (z9 N.length ds):=by
 have z:=h.length;show((s,by simp[L2.Jc,z9,z],λi d e=>?_,λi g e=>?_,λi j a g fs e q q q=>?_,lp.uZ λi f e=>?_),Ext.refl s,λi g a e q=>?_,λi f a l e q q=>?_)
 all_goals erw[z9]at e
 .by_cases b:i<ds.length
  .rw[oH (~~~b),nE]at e
   cases e1:ds[i]? with
   |none=>rw[e1]at e;cases e
   |some k=>
    rw[e1]at e;cases e;let(x,g1,g2):=h.get e1;show(x,?_,g2);erw[L2.Jc];rw[oH (by simp;lia),nE,g1];rfl
  .rw[o3 (~~~b),Mr]at e
   split at e<;>cases e
 all_goals
  by_cases b:i<ds.length
  .rw[oH (~~~b),nE]at e
   cases e1:ds[i]? with
   |none=>rw[e1]at e;cases e
   |some k=>rw[e1]at e;cases e
  .rw[o3 (~~~b),Mr]at e
   split at e<;>cases e
theorem Oc{st:de}{F:CO Fl}(z:L2.i5 K x qual st f j)(S:wy N ps (zR st))
 (I:∀e A outer s H E,gm k (A.deeper<|envOfC qual (zR st) ↥s f e)->eM (Kt gx P w K mg base N qual (zR st) f e A outer s H E).eQ (jL st) F):
 fh P w K mg base gx (k+1) f j ps (l5 K (pT ps)<|jq (pT N) F):=by
 show z.ok S (l5.len rfl)<|λe A outer s H M Q E J h=>(_,I e A outer s H E J,?_);show aU λO=>?_;let(d,C,r,y,p,G,t,i):=h;let(g,o,a):=zc t;show O ?_;have Y:pT ps<=pT N:=by have:=congrArg pT S.pre;grind
 show(d,H,d,_,g,JI y p (),o,?_);cases g with
 |ret L=>cases a;cases r<;>show i
 |next l=>cases a;show λB m b u=>i .cI m b u.ext rfl
 |brk l=>cases a
 |cont l=>cases a
end
section
variable{X:Cx}{es:zn bE}{pos p:cH}{k:Nat}{f:ak}{fd:gh}{ps:zn Str}{x:Str}{F:zn D->xz Res}{g:CO (zn D)}
theorem HB{A0:zn bE}(G:⇑fh gx k f fd ps (l5 X.K (pT ps) F))(B:q8 X es g)(J:∀M e,g M=aa e->pT e=pT ps)
 (S:∀{t},PA X es t->PE X (.Call (.Name x p) es [] pos) (XZ (l5 X.K (pT ps) F) [] E0 t)):PV X (.Call (.Name x p) es [] pos) (zD F g):=
 j3 (S B) λP H Q O=>by
  show aU λY=>?_;let(s,M,d,E,z,q):=O;let(e,m,z):=zc z;let(r,u,z):=zy z;show Y ?_;show(s,M,e,E,m,λN γ j h C=>(j,e,r,h.sub,~~~C,J M e m,u,?_));subst z;cases r with
  |val d=>show λv i b I l=>q v i b (h.trans I) l
  |own fs=>
   show λa L i b I y o A l=>q _ i _ (h.trans<|I.show y o A h.sub)<|(a,L,rfl,dY.of zB,l.mono<|jx o _)
theorem HN(G:⇑fh gx k f fd ps (l5 X.K (pT ps) F))(B:q8 X es g)(J:∀M e,g M=aa e->pT e=pT ps)
 (S:∀{t},PA X es t->PE X (.Call (.Name x p) es [] pos) (XZ (l5 X.K (pT ps) F) [] E0 t)):PO X (.Call (.Name x p) es [] pos) (jA F g):=
 j3 (S B) λR H Q O=>by
  show aU λY=>?_;let(m,M,fs,L,I,q):=O;let(e,j,I):=zc I;let(r,s,I):=zc I;show Y ?_;show(m,M,e,L,j,λP N h i C=>(h,e,r,i.sub,~~~C,J M e j,s,?_));cases r with
  |val d=>cases I
  | own gs=>
   cases I;show λa γ l b Z u y A E=>q a γ l b (i.trans Z) (by
    cases z:H a with
    |none=>rfl
    |some o=>rw[i.s1 a o z]at u;lia) y A E
end
structure Walk(K:aO)(H0 Hs:Hp)(J:It)(ds:List D):Prop where
 go:∀i H1,dj Hs H1->i<ds.length->J.go i H1
 stop:∀H1,dj Hs H1->J.stop ds.length H1
 nT:∀i H1 x Yg,dj Hs H1->i<ds.length->J.nT i H1 x Yg->∃d,ds[i]? = aa d/\∀G0,dj H0 G0->dj G0 H1->∃Xk,Ext G0 H1 Xk Yg/\Rep K Xk d x
theorem Walk.weak{K:aO}(w:Walk K e j J B)(s:dj j z):Walk K e z J B:=
 (λi a h=>w.go i a<|s.trans h,λa h=>w.stop a<|s.trans h,λi a x b h=>w.nT i a x b<|s.trans h)
theorem Wz{k:Sk}{K:aO}{j B:Hp}{a:ak}{xs:zn V}{H:zn D}(h:gM k K B a xs)(r:bz K j H xs):Walk K j B (Yh k K a) H:=by
 have J:=r.length;show(λi b s p=>?_,λb s=>?_,λi b x f s p y=>?_)
 .have z:i<xs.length:=()
  cases k with
  |L=>show(xs,xs[i],s.seq h,eO z)
  |T=>show(xs,xs[i],gr s h,eO z)
 .cases k with
  |L=>show(xs,s.seq h,())
  |T=>show(xs,gr s h,())
 .have e:f=b/\xs[i]? = aa x:=by
   cases k with
   |L=>show(y.1,y.2 xs<|s.seq h)
   |T=>show(y.1,y.2 xs<|gr s h)
  let(l,m):=e;subst l;let(d,o,I):=r.tr m;show(d,o,λg t u=>(g,Ext.refl u,I.mono t))
theorem QU(lo)(n):(JK lo n).length=n:=by simp[JK]
theorem VE{K:aO}(lo)(n):Walk K e j (C3 lo n) (JK lo n):=by
 show(λi b s a=>?_,λb s=>?_,λi b x f s a y=>?_)
 .rw[QU]at a;show a
 .rw[QU];show cV _
 .rw[QU]at a
  let(g,h):=y;subst g h;show(.int<|lo+i,by simp[JK,a],λd l k=>(d,Ext.refl k,(rfl)))
theorem Bo{k1 k2:Sk}{K:aO}{H S:Hp}{a b:ak}{xs e:zn V}{j B:zn D}(U:gM k1 K S a xs)(r1:bz K H j xs)(W:gM k2 K S b e)(r2:bz K H B e):
 Walk K H S (Pa k1 k2 K a b) (Vk j B):=by
 have Y:=r1.length;have Z:=r2.length;have C:(Vk j B).length=min j.length B.length:=by simp[Vk]
 show(λi h s A=>(xs,e,bI s U,bI s W,(),()),λh s=>?_,λi h x m s A y=>?_)
 .refine(xs,e,bI s U,bI s W,?_)
  lia
 .refine aU λz=>?_;let(p,u,v,o,f,r,g1,g2):=y
  let(d,w,I):=r1.tr<|g1 xs<|bI s U;let(c,t,J):=r2.tr<|g2 e<|bI s W;show z ?_;show(.tup [d,c],?_,λl k g=>(upd l p<|.tup [u,v],?_,?_))
  .have O:_=aa (Prod.mk d c):=List.getElem?_zip_eq_some.mpr (w,t)
   simp[Vk,O]
  .rw[r];show Ext.alloc g f _
  .rw[o]
   show((p,[u,v],rfl,ej.of zB,bz.cons ((I.mono k).mono (jx (jl g f) _))<|bz.cons ((J.mono k).mono (jx (jl g f) _)) bz.nil))
inductive SO(K:aO)(src:CO (List D))(U:St)(H:Hp)(R:It->Hp->Prop):Prop
 |mk (H0 M ds) (_:RC K H0 H U M) (_:src M=aa ds) (_:∀J H' cU,Ext H0 H cU H'->Walk K cU H' J ds->R J H')
inductive SS(K:aO)(src:CO (List D))(U:St)(H:Hp)(R:It->Hp->Prop):Prop
 |mk (H0 M ds) (_:RC K H0 H U M) (_:src M=aa ds) (_:∀J H' cU,Ext H0 H cU H'->Walk K cU cU J ds->R J H')
abbrev m2(X:Cx)(tg e:bE)(src:CO (zn D)):Prop:=PI X tg e (SO X.K src)
abbrev ed(X:Cx)(tg e:bE)(src:CO (zn D)):Prop:=PI X tg e (SS X.K src)
section
variable{X:Cx}{tg e a b:bE}{pos p:cH}
theorem ed.c(h:ed X tg e src):m2 X tg e src:=Ya h λj H R z=>by let(d,i,f,g,I,q):=z;show(d,i,f,g,I,λJ b a x w=>q J b a x<|w.weak x.sub)
theorem zS(h:PQ X e f):m2 X tg e (zT f):=Ya (sX h) λu H R z=>by let(i,s,t,o,I,q):=z;let((k,m),j,l):=zy I;subst l;show(i,s,k,m,o,j,λa p g b x d v r=>(a,k,rfl,(p,d),q _ g b x<|Wz d r))
theorem W1(h:PV X e f):ed X tg e (zT<|zU f):=Ya (sX h) λy H R I=>by
 let(s,u,w,t,J,q):=I;let((k,p),b,i):=zy J;subst i;let(d,O,b):=zc b;show(s,u,d,t,O,λv o g x r=>?_);cases d with
 |tup fs=>
  let(i,z):k=.T/\p=fs:=by simp[qg]at b;show(b.1.symm,b.2.symm)
  subst i z;let(a,m,rfl,j,l):=(r);show(a,.T,rfl,(m,gr x.sub j),q _ o g x<|Wz j l)
 |lst fs=>
  let(i,z):k=.L/\p=fs:=by simp[qg]at b;show(b.1.symm,b.2.symm)
  subst i z;let(a,m,rfl,j,l):=(r);show(a,.L,rfl,(m,x.sub.seq j),q _ o g x<|Wz j l)
 |_=>simp[qg]at b
theorem j5(h:gP d=aa i):d=.int i:=by cases d<;>simp[gP]at h;rw[h]
theorem YH(h:inR i): -(2^62)<=i/\i<2^62:=by
 erw[inR]at h
 grind
theorem zi6(I:Gl X "range")(S:X.mg "range" = af)(B:PV X a f)(hs:ck [a] ⋯=[(aF,bH a ⋯)]:=by rfl):ed X tg (.Call (.Name "range" p) [a] [] pos) (jE f):=
 Ya (zkA I S (zX B jG hs) hs) λs H R J=>by
  let(i,m,o,l,z,q):=J;let(n,e,z):=zc z;let(d,O,e):=zc e;by_cases g:inR n
  .rw[DJ g]at z;cases z
   show(i,m,d,l,O,λv h b x r=>?_);rw[j5 e]at r;let(j,k):=YH g;show(n,by rw[r],j,k,q _ h b x<|VE 0 n.toNat)
  lia
theorem zi5(O:Gl X "range")(W:X.mg "range" = af)(S:PV X a f)(U:PV X b g)(hs:ck [a,b] ⋯=[(aF,bH a ⋯),(aF,bH b ⋯)]:=by rfl)(I:ck [b] ⋯=[(aF,bH b ⋯)]:=by rfl):
 ed X tg (.Call (.Name "range" p) [a,b] [] pos) (KN f g):=
 Ya (zkz O W (zX S (zX U jG I)<|by rw[hs,I]) hs I) λL H R Y=>by
  show aU λZ=>?_;let(o,l,G,k,z,q):=Y;let(m,i,z):=zc z;let(d,u,i):=zc i;let(n,J,z):=zc z;let(c,w,J):=zc J;show Z ?_;by_cases e:inR m/\inR n
  .rw[DJ e]at z;cases z
   show(o,l,d,k,u,λv F h x r=>(h,l,c,k.ext x,w,λK s t E j=>?_));rw[j5 i]at r;rw[j5 J]at j;let(y,A):=YH e.1;let(B,C):=YH e.2;show(m,n,by rw[r,j],(y,A,B,C),q _ s t (x.trans E)<|VE m (n-m).toNat)
  .rw[DY e]at z;cases z
theorem rH{K:aO}(r:Rep K H d v)(e:qg d=aa (k,j)):∃a xs,v=.ref a/\gM k K H a xs/\bz K H j xs:=by
 cases d with
 |tup fs=>simp[qg]at e;let(b,f):=e;subst b f;show r
 |lst fs=>simp[qg]at e;let(b,f):=e;subst b f;show r
 |_=>simp[qg]at e
theorem HQ{f g:CO D}(Z:Gl X "zip")(W:X.mg "zip" = af)(S:PV X a f)(U:PV X b g)(hs:ck [a,b] ⋯=[(aF,bH a ⋯),(aF,bH b ⋯)]:=by rfl)(J:ck [b] ⋯=[(aF,bH b ⋯)]:=by rfl):
 ed X (.Tuple j x1 B) (.Call (.Name "zip" p) [a,b] [] pos) (WM f g):=
 Ya (Nb Z W (zX S (zX U jG J)<|by rw[hs,J]) PyProof.Rows.boot_zip hs J) λT H R C=>by show aU λG=>?_;let(l,k,P,i,z,q):=C;let((E,m),h,z):=zc z;let(d,w,h):=zc h;let((F,n),O,z):=zy z;let(c,y,O):=zc O;show G ?_;subst z;show(l,k,d,i,w,λv N e x r=>(e,k,c,i.ext x,y,λQ o u I K=>?_));let(s,L,rfl,g1,g2):=rH (r.mono I.s0) h;let(t,M,rfl,Y,A):=rH K O;show(E,F,s,t,rfl,(L,bI I.sub g1),(M,bI I.sub Y),q _ o u (x.trans I)<|Bo g1 g2 Y A)
end
def VS:zn Nat->zn V->St->St
 |i::is,v::vs,U=>VS is vs<|U.set i<|some v
 |_,_,U=>U
def gs:zn Nat->xA
 |[]=>Ug
 |i::is=>NZ (yY i)<|gs is
def il(K:aO):Tg->TG
 |.nm i=>yY i
 |.tp is=>Ue K is.length<|gs is
theorem gN:∀{is:zn Nat} {vs:zn V} {e:St} {H:Hp} {Q:St->Hp->Prop},vs.length=is.length->Q (VS is vs e) H->gs is vs e H Q
 |[],[],_,_,_,_,q=>(rfl,q)
 |i::is,v::vs,e,H,Q,hl,q=>(v,vs,rfl,gN (~~~hl) q)
 |[],_::_,_,_,_,hl,_=>by simp at hl
 |_::_,[],_,_,_,hl,_=>by simp at hl
theorem RS.A1{K:aO}{E0 E B H:Hp}:∀{is}{j}{vs}{z}{M},RS K E0 E B H z M->bz K B j vs->RS K E0 E B H (VS is vs z) (xT is j M)
 |[],j,vs,z,M,r,h=>by assumption
 |i::is,[],vs,z,M,r,h=>by rw[h.m7];show r
 |i::is,d::j,vs,z,M,r,h=>by let(x,t,e,a,b):=h.i0;subst e;change RS K E0 E B H _ (xT is j _);show RS.A1 (r.mT a) b
theorem RC.A1{K:aO}:∀{is}{j}{vs}{z}{M},RC K B H z M->bz K B j vs->RC K B H (VS is vs z) (xT is j M)
 |[],j,vs,z,M,r,h=>by assumption
 |i::is,[],vs,z,M,r,h=>by rw[h.m7];show r
 |i::is,d::j,vs,z,M,r,h=>by let(x,t,e,a,b):=h.i0;subst e;change RC K B H _ (xT is j _);show RC.A1 (r.mT a) b
theorem vP{K:aO}{j H:Hp}{T:Tg}{d:D}{v:V}{B:St}{M z:Ctx}{Q:St->Hp->Prop}(s:dj j H)(h:Rep K j d v)(e:qy T d M=aa z)
 (q:∀I,(RC K j H B M->RC K j H I z)->(∀E0 E,RS K E0 E j H B M->RS K E0 E j H I z)->Q I H):il K T v B H Q:=by
 cases T with
 |nm i=>cases e;show q _ (λr=>r.mT h) λE0 E r=>r.mT h
 | tp is=>
  cases d with
  | tup g=>
   simp?[qy]at e;by_cases J:g.length=is.length
   .rw[DJ J]at e;cases e
    let(a,f,rfl,k,b):=(h);have O:f.length=is.length:=by rw[b.length,J]
    show(a,f,rfl,gr s k,O,gN O<|q _ (λr=>r.A1 b) λE0 E r=>r.A1 b)
   .rw[DY J]at e;cases e
  |_=>simp[qy]at e
theorem Ext.rebase{E0 E z j H B:Hp}(e:Ext E0 E z B)(x:Ext z E j H):Ext E0 E j H:=
 (e.s0.trans x.s0,x.s1,x.sub,λa d b=>x.new a (e.new a d b) b)
theorem Ext.base{E0 E z B:Hp}(e:Ext E0 E z B):Ext z E z B:=(dj.refl _,e.s1,e.sub,λa h q=>h)
theorem Sat.rebase{K:aO}{E0 E z B:Hp}{D:Ends}(e:Ext E0 E z B)(h:Sat K E0 E D j):Sat K z E D j:=by
 cases j with
 |next g=>show λf H b r=>h f H b (r.rc,e.rebase r.ext,r.fresh,r.m5)
 |brk g=>show λf H b r=>h f H b (r.rc,e.rebase r.ext,r.fresh,r.m5)
 |cont g=>show λf H b r=>h f H b (r.rc,e.rebase r.ext,r.fresh,r.m5)
 |ret r=>
  cases r with
  |val d=>show λv H b x q=>h v H b (e.rebase x) q
  |own o=>show λa m H b x i k l q=>h a m H b (e.rebase x) i k l q
section
variable{X:Cx}{tg iter:bE}{body:zn de}{pos:cH}
theorem HG{T:Tg}(hp:F5 (aV X.prog X.w) X.A ⋯ X.xe)(hc:X.calm)(S:ed X tg iter B)(hg:PG X tg (il X.K T))(hb:eM X body F)
 (hs:∀x,ij iter ⋯ x=pure x:=by intro _;rfl):fH X (.For tg iter body [] pos) (Kj B T F):=
 kj (iX hp hc S hg hb hs) λD k H hZ=>by
  let(E0,E,h,j,g,b,z,I):=hZ;let(f,W,z):=zc z;show(h,j,f,b.rc,W,λJ H1 a x1 t=>?_);have Y:=b.step x1;have L:=Y.ext;show(λi m k H=>m=pT f-i/\i<=pT f/\∃h j g,RS X.K a E h H k j/\vM T F (f.drop i) j=aa g/\Sat X.K a E D g,(_,rfl,g8 _,a,j,g,(Y.rc,L.base,Y.fresh,Y.m5),z,I.rebase L),?_);rintro i m k H ⟨rfl,S,h,j,g,b,z,I⟩;have l:=b.ext.s0.trans b.ext.sub;by_cases O:i<pT f
  .refine .inr (t.go i H l O,λk H=>_/\_,λmO G n=>(_,_B _ _ O,rfl,n.1,n.2),λx G y=>?_)
   show aU λp=>?_;let(d,M,hx):=t.nT i H x G l O y;let(P,N,rg):=hx h b.ext.s0 b.rc.sub;show p ?_;have R:f.drop i=d::f.drop (i+1):=by
    have ap:=by rw[eO O]at M;show(l8 M).symm
    simp_all
   rw[R]at z;simp?[vM]at z;show aU λp=>?_;let(u,eb,z):=zc z;let(f1,eF,z):=zc z;show p ?_;show vP N.sub rg eb λB8 q U=>(a,E,P,u,f1,U a E<|b.step N,eF,?_);cases f1 with
   |next Z=>show λC Q o s=>(O,o,Z,g,s,z,I)
   |cont Z=>show λC Q o s=>(O,o,Z,g,s,z,I)
   |brk Z=>cases z;show I
   |ret r=>cases z;cases r<;>show I
  .have e:i=pT f:=()
   subst e;rw[D2]at z;cases z;show .inl (t.stop H l,I k H h b)
end
theorem qt(h:(jj n fr M)[i]? = aa c):c=.no\/(∃d j,c=.val d/\n<=i/\fr[i-n]? = aa j/\M[j]? = aa (.val d)):=by
 erw[jj]at h;by_cases b:i<n
 .rw[oH (~~~b),Mr,DJ b]at h
  show .inl (l8 h).symm
 .rw[o3 (~~~b),nE,R_]at h
  cases e:fr[i-n]? with
  |none=>rw[e]at h;cases h
  | some j=>
   rw[e]at h;have a:= ~~~h
   cases e2:M[j]? with
   |none=>rw[e2]at a;show .inl a.symm
   |some z=>
    rw[e2]at a;cases z with
    |no=>show .inl a.symm
    |own g=>show .inl a.symm
    |nest f=>show .inl a.symm
    |val d=>show .inr (d,j,a.symm,(),rfl,e2)
theorem RC.pull{K:aO}{own:zn Str}(r:RC K e H B M):RC K e H (L2.pw own fr B) (jj (pT own) (fr.map (·.2)) M):=by
 show(r.sub,by simp[L2.pw,jj],λi d h=>?_,λi f h=>?_,λi j a f l h x x x=>?_,lp.uZ λi b h=>?_)
 .rcases qt h with z|⟨d',j,z,hi,I,J⟩
  .cases z
  .cases z
   let(v,g,k):=r.val j d J;show(v,?_,k);rw[nE]at I;cases q:fr[i-(pT own)]? with
   |none=>rw[q]at I;cases I
   |some p=>
    rw[q]at I;erw[L2.pw];rw[o3 (~~~hi),nE,f7,q];simp[(~~~I),g]
 .rcases qt h with z|⟨d',j,z,_⟩<;>cases z
 .rcases qt h with z|⟨d',j,z,_⟩<;>cases z
 .rcases qt h with z|⟨d',j,z,_⟩<;>cases z
theorem RC.weak{K:aO}{S H:Hp}{U:St}(r:RC K S H U M)(I:pT γ'=pT M)(J:∀(i:Nat) d,γ'[i]? = aa (.val d)->M[i]? = aa (.val d))(z:∀(i:Nat) e,γ'[i]? ≠ aa (.own e))(O:∀(i:Nat) B,γ'[i]? ≠ aa (.nest B)):RC K S H U γ':=
 (r.sub,by rw[I];show r.len,λi d h=>r.val i d<|J i d h,λi e h=>absurd h<|z i e,λi j a e b h q q q=>absurd h<|z i e,lp.uZ O)
theorem RC.upd{K:aO}{O H:Hp}{D:ak}(r:RC K O H S M)(U:O D=af)(I:∀(i:Nat) e,M[i]? ≠ aa (.own e))(J:∀(i:Nat) B,M[i]? ≠ aa (.nest B)):RC K O (upd H D o) S M:=
 (λb u q=>by rw[zC (λz=>by lia)];show r.sub b u q,r.len,r.val,λi e h=>absurd h<|I i e,λi j a e d h v v v=>absurd h<|I i e,lp.uZ J)
theorem KL:∀{is}{e}{M},(xT is e M).length=pT M
 |[],e,M=>by rfl
 |i::is,[],M=>rfl
 |i::is,d::e,M=>by change(xT is e _).length=_;rw[KL];simp
theorem KM:∀{is}{e}{M}{i},i∉is->(xT is e M)[i]? = M[i]?
 |[],e,M,i,_=>by rfl
 |j::is,[],M,i,_=>rfl
 |j::is,d::e,M,i,h=>by change(xT is e _)[i]? = _;rw[KM (λz=>h<|eV _ z),ew (λz=>h<|by rw[<-z];show fA)]
theorem YY(h:qy T d M=aa FT):pT FT=pT M/\∀i,i∉T.idx->FT[i]? = M[i]? :=by
 cases T with
 |nm j=>cases h;show(by simp,λi a=>ew<|λz=>a<|by simp[Tg.idx,z])
 | tp is=>
  cases d with
  |tup b=>
   simp?[qy]at h;by_cases I:pT b=pT is
   .rw[DJ I]at h;cases h;show(KL,λi a=>KM a)
   .rw[DY I]at h;cases h
  |_=>simp[qy]at h
section
variable{K:aO}{own:zn Str}{fr:zn (Str×Nat)}{src:CO (zn D)}{T:Tg}{k:CO Bool}{f:CO D}
inductive _W(K:aO)(T:Tg)(k:CO Bool)(f:CO D)(M:Ctx)(items ds:List D)(D:ak)(n4 H1:Hp)(i m:Nat)(ys:List V)(mO:St)(H':Hp):Prop
 |mk (cU:Hp) (j' j_:List DL.D) (h1:m=items.length-i) (h2:i<=items.length) (h3:ys.length<=i) (h4:H' D=aa (.lst ys)) (h5:RC K cU H' mO M) (h6:cU D=af) (h7:Ext n4 H1 cU H') (zig:bz K cU j' ys) (zih:zM T k f M (items.drop i)=aa j_) (h10:ds=j'++j_)
theorem J5(hT:∀i∈T.idx,i<pT own)(b6:∀B H Q,tT K k B H Q->tt B H Q):∀B H Q,tO K (zL src T (pT own) (fr.map (·.2)) k f) B H Q->rk (SO K src) own fr (il K T) tt (tV K f) B H Q:=λB H Q hZ=>by
 let(H0,N,ds,rc,L,q):=hZ;let(a,e1,L):=zc L;by_cases hl:pT a<=lim
 .rw[DJ hl]at L
  show(H0,N,a,rc,e1,λJ H1 s C wk D hD=>?_);have P:∀(i:Nat) es,(jj (pT own) (fr.map (·.2)) N)[i]? ≠ aa (.own es):=λi es h=>by rcases qt h with z|⟨d',j,z,_⟩<;>cases z
  have R:∀(i:Nat) A,(jj (pT own) (fr.map (·.2)) N)[i]? ≠ aa (.nest A):=λi es h=>by rcases qt h with z|⟨d',j,z,_⟩<;>cases z
  have am:=jl C.sub hD;show(_W K T k f (jj (pT own) (fr.map (·.2)) N) a ds D s H1,(_,s,[],ds,rfl,g8 _,cV _,zB,((rc.ext C).pull).upd am P R,am,Ext.hide C.sub hD _,bz.nil,L,rfl),?_);rintro i m ys mO G ⟨p,t,X,rfl,hi,hy,S,U,an,Y,r',I,rfl⟩;show(S,?_);by_cases Z:i<pT a
  .refine .inr (wk.go i G Y.s1 Z,?_,λx ao y=>?_)
   .have:=vw<|cV lim;lia
   show aU λu=>?_;let(d,hd,hx):=wk.nT i G x ao Y.s1 Z y;let(G0,O,rg):=hx p Y.s0 U.sub;show u ?_;have bd:a.drop i=d::a.drop (i+1):=by
    have be:=by rw[eO Z]at hd;show(l8 hd).symm
    rw[be];show M5 Z
   rw[bd]at I;simp?[zM]at I;show aU λu=>?_;let(g,eb,I):=zc I;let(b,ek,I):=zc I;have bi:=O.s1 _ _ S;let(bl,bg):=YY eb;show u ?_;have as:∀{F:St} {G2 H2:Hp},RC K G2 H2 F g->RC K G2 H2 F _:=λr=>r.weak bl.symm (λj d' hj=>by
    by_cases hm:j∈T.idx
    .rcases qt hj with z|⟨d2,j2,_,hn,_⟩
     .cases z
     .exact absurd (hT j hm) ()
    .rw[bg j hm];show hj) P R
   show vP O.sub rg eb λB8 ax n=>b6 B8 ao _ (G0,g,b,ax<|U.ext O,ek,λH3 b0 l=>?_);have W:=(ax<|U.ext O).ext l;have xa:=Y.trans<|O.trans l;have b2:=l.new D (O.new D an ()) ();have b3:=l.s1 _ _ bi;cases b with
   |true=>
    show aU λu=>?_;let(e,ee,I):=zc I;let(rest,er,I):=zy I;show u ?_;show(b0,g,e,W,ee,λv H4 c0 E r4=>?_);have b4:=E.new D b2 ();have c5:=E.s1 _ _ b3;have M:=xa.trans E;show(c5,_,(),c0,t++[e],rest,rfl,Z,by rw[mK,A8];lia,zB,(as<|W.ext E).upd b4 P R,b4,(M.s0,λc o z=>by rw[zC (λw=>by lia)];show M.s1 c o z,λc o z=>by rw[zC (λw=>by lia)];show M.sub c o z,M.new),(r'.mono<|(O.trans<|l.trans E).s0).append (bz.cons r4 bz.nil),er,?_)
    .rw[<-I];simp
   |false=>
    show(_,(),b0,t,X,rfl,Z,(),b3,as W,b2,xa,r'.mono<|(O.trans l).s0,I,rfl)
  .have e:i=pT a:=()
   subst e;rw[D2]at I;cases I;rw[vp]at q;show .inl (wk.stop G Y.s1,q D ys G p (C.trans Y) (by
   cases z:H D with
   |none=>rfl
   |some o=>rw[C.s1 D o z]at hD;lia) an S r')
 lia
end
section
variable{X:Cx}{scope:cS}{own:zn Str}{fr:zn (Str×Nat)}{elt tg iter c:bE}{pos:cH}{src:CO (zn D)}{T:Tg}{k:CO Bool}{f:CO D}
theorem HM(B:X.calm)(ok:mQ X scope fr)(z:∀i∈T.idx,i<pT own)(U:m2 X tg iter src)(I:∀fp j e,PG (jt X scope (own++fr.map (·.1)) fp j e) tg<|il X.K T)
 (S:∀fp j e,PV (jt X scope (own++fr.map (·.1)) fp j e) elt f) (hs:∀x,ij iter ⋯ x=pure x:=by intro _;rfl):
 PO X (.ListComp elt [(tg,iter,[],0)] scope pos) (zL src T (pT own) (fr.map (·.2)) jh f):=
 j3 (gc B ok U I (λv v v=>W0) S hs) (J5 z λh H Q J=>by let(a,g,b,d,O,q):=J;cases O;show q H a<|Ext.refl d.sub)
theorem zky(B:X.calm)(ok:mQ X scope fr)(z:∀i∈T.idx,i<pT own)(S:m2 X tg iter src)(I:∀fp j e,PG (jt X scope (own++fr.map (·.1)) fp j e) tg<|il X.K T)
 (J:∀fp j e,gk (jt X scope (own++fr.map (·.1)) fp j e) c k) (O:∀fp j e,PV (jt X scope (own++fr.map (·.1)) fp j e) elt f) (hs:∀x,ij iter ⋯ x=pure x:=by intro _;rfl):
 PO X (.ListComp elt [(tg,iter,[c],0)] scope pos) (zL src T (pT own) (fr.map (·.2)) k f):=
 j3 (gc B ok S I (λfp j e=>lb<|J fp j e) O hs) (J5 z λa H Q h=>h)
theorem Ci(z:X.N.Nodup)(I:X.N[i]? = aa y)(J:Loc ⋯.scope y)(U:X.fn y\/⋯.scope.names.lookup y=aa .local)
 (B:X.calm) (ok:mQ X scope fr) (O:∀i∈T.idx,i<pT own) (W:m2 X tg iter src) (Y:∀fp j e,PG (jt X scope (own++fr.map (·.1)) fp j e) tg<|il X.K T)
 (S:∀fp j e,PV (jt X scope (own++fr.map (·.1)) fp j e) elt f) (hs:∀x,ij iter ⋯ x=pure x:=by intro _;rfl):
 PS X (.Assign [.Name y py] (.ListComp elt [(tg,iter,[],0)] scope pos) spos) (WH (tO X.K<|zL src T (pT own) (fr.map (·.2)) jh f)<|yY i):=
 kj (QW z I J U B ok W Y (λv v v=>W0) S hs) λD a H h=>J5 O (λa H Q Z=>by let(d,l,b,k,g,q):=Z;cases g;show q H d<|Ext.refl k.sub) a H _ h
theorem zi2(z:X.N.Nodup)(I:X.N[i]? = aa y)(J:Loc ⋯.scope y)(U:X.fn y\/⋯.scope.names.lookup y=aa .local)
 (B:X.calm) (ok:mQ X scope fr) (O:∀i∈T.idx,i<pT own) (W:m2 X tg iter src) (Y:∀fp j e,PG (jt X scope (own++fr.map (·.1)) fp j e) tg<|il X.K T)
 (Z:∀fp j e,gk (jt X scope (own++fr.map (·.1)) fp j e) c k) (S:∀fp j e,PV (jt X scope (own++fr.map (·.1)) fp j e) elt f) (hs:∀x,ij iter ⋯ x=pure x:=by intro _;rfl):
 PS X (.Assign [.Name y py] (.ListComp elt [(tg,iter,[c],0)] scope pos) spos) (WH (tO X.K<|zL src T (pT own) (fr.map (·.2)) k f)<|yY i):=
 kj (QW z I J U B ok W Y (λfp j e=>lb<|Z fp j e) S hs) λD a H h=>J5 O (λa H Q h=>h) a H _ h
end
theorem jX{K:aO}{H:Hp}{i:Int}{v:V}(h:Rep K H (.int i) v):v=.int i:=h
theorem rG{K:aO}(J:∀H i j,Rep K H (g i j)<|I i j):ig K (nA I) (dI g):=λa H x y b Z d Q s O Y z q=>by erw[dI]at z;split at z<;>cases z;show(_,_,jX O,jX Y,q _ H a (Ext.refl s)<|J a _ _)
theorem rF{K:aO}(e:∀i j,c i j->C i j)(J:∀H i j,Rep K H (g i j)<|I i j):ig K (rI C I) (Di c g):=λa H x y b Z d Q s O Y z q=>by
 erw[Di]at z;split at z
 .split at z<;>cases z
  show(_,_,jX O,jX Y,e _ _ ‹_›,q _ H a (Ext.refl s)<|J a _ _)
 .cases z
theorem GU{K:aO}:ig K (nA λi j=>.int (i-j)) Vj:=rG λq q q=>rfl
theorem Ez(h:pd i j):wh i j:=by erw[pd]at h;erw[wh];lia
theorem GZ{K:aO}:ig K (rI UJ λi j=>.int (i/j)) Vz:=rF (λi j h=>by erw[On]at h;simp?[eH,decide_eq_true_eq,decide_eq_true_eq]at h;show(h.1,())) λq q q=>rfl
theorem GX{K:aO}:ig K (rI (λq j=>0<j) λi j=>.int (i%j)) kM:=rF (λi j h=>by erw[PH]at h;show of_decide_eq_true h) λq q q=>rfl
theorem GV{K:aO}:ig K (rI UI λi j=>.int (i^j.toNat)) IT:=rF (λi j h=>by erw[Om]at h;simp?[eH,eH,decide_eq_true_eq,decide_eq_true_eq,decide_eq_true_eq]at h;show(h.1.1,(),h.2)) λq q q=>rfl
theorem bF{K:aO}:ig K (nA λi j=>.bl (decide<|i<j)) pk:=rG λq q q=>rfl
theorem ZQ{K:aO}:ig K (nA λi j=>.bl (decide<|i<=j)) mR:=rG λq q q=>rfl
theorem ER{K:aO}:ig K (nA λi j=>.bl (decide<|j<i)) ph:=rG λq q q=>rfl
theorem Mo{K:aO}:ig K (nA λi j=>.bl (decide<|j<=i)) Dh:=rG λq q q=>rfl
section
variable{X:Cx}
def EY(K:aO):R2:=λx y H Q=>∃a b d e,x=.ref a/\y=.ref b/\ej K H a d/\ej K H b e/\d.length+e.length<=cP/\
 (d=[]->Q (.ref b) H)/\(e=[]->Q (.ref a) H)/\∀p,H p=af->Q (.ref p) (upd H p<|.tup<|d++e)
theorem Cw:eI X (n9 .Add) (EY X.K):=by
 intro i s U H x y v u Q I N P h;let(a,b,S,W,rfl,rfl,w,A,J,G,L,M):=h;cases N;cases P;let(j,r,O,z1):=I.tuple w;let(k,e,Y,z2):=I.tuple A;by_cases d:S=[]
 .refine aU λE=>?_;let((p,t,g,R),Z,B,n,C):=id O
  let((T,l,data2,ad),f,m,F,o):=id Y;show E ?_;subst B C m o;show U6 (_,Z,rfl) (_,f,rfl) _Q z_ U_ U' (X_ _ _)
   (tuple_addW0 a b j.toArray k.toArray n F t l R ad<|by simp[((r.P8).mpr d)]) (Z,f,(.ref b,H,I,rfl,G d))
 .refine HT.SM O Y (λz=>d<|(r.P8).mp z) (λz=>(.ref a,H,I,rfl,L<|(e.P8).mp z)) (λV=>?_) (by rw[<-r.length,<-e.length];show J)
  show(.ref _,_,I.laid (λc σ q=>cW _ q) (cV _) ?_,rfl,M _<|I.bQ.fresh<|cV _);show(by rw[mK];show J,_,r.append e,oP.new _ _)
def MG(K:aO):R2:=λx y H Q=>∃l b a d,x=.ref l/\y=.ref b/\dY K H l a/\dY K H b d/\(pT a)+pT d<=cP/\∀p,H p=af->Q (.ref p) (upd H p<|.lst<|a++d)
theorem Cy:eI X (n9 .Add) (MG X.K):=by
 intro i s U H x y v u Q I E G h;let(l,b,W,zs,rfl,rfl,w,t,S,q):=h;cases E;cases G;show aU λA=>?_;let(z,r,(o,n,e,a,d,f),z1):=I.list w;let(J,j,(C,B,g,O,Y,Z),z2):=I.list t;have T:=r.length;have σ:=j.length;let(m,hO,R,L):=o;let(M,N,P,k):=C;show A ?_;simp only at a d f O Y Z;subst a d f O Y Z;have p:z.toArray++J.toArray=(z++J).toArray:=by simp
 show U6 (_,e,rfl) (_,g,rfl) noFill_list_add seq_list_add PySem.F.slot_list_add PySem.F.entry_list_add (PySem.F.args_list_add_2 _ _)
  (list_addW l b z.toArray J.toArray n B af af L k<|by rw[eW,eW];lia) (e,g,?_)
 rw[p];show(.ref _,_,I.Lc (r.append j) (by rw[mK];omega),rfl,q _ I.fresh)
end
def wb(scope e:cS):cS:={scope with names:=scope.names.map λp=>if p.2==oj&&e.kind ==.function&&e.names.lookup p.1==aa .cell then (p.1,N8)else (p.1,p.2)}
theorem ziT(scope)(env):nD scope env=wb scope env.scope:=by erw[nD,wb];rfl
structure SX(X:Cx)(sc:cS)(N T:List Str)(k:Nat):Prop where
 l4:⋯.scope=sc
 eN:X.N=N
 nd:N.Nodup
 calm:X.calm=ae
 room:gm k X.A
 fn:∀x∈T,X.fn x=ae\/sc.names.lookup x=aa .local
def xy(e:cS)(N:zn Str)(i:Nat)(x:Str):Bool:=
 decide (N[i]? = aa x)&&(decide (e.names.lookup x=aa .local) || decide (e.names.lookup x=aa .cell) || decide (e.names.lookup x=aa .free))&&!(x==("__debug__" : Str))&&!(x==("__classdict__" : Str))
def yc(e:cS)(N T:zn Str)(i:Nat)(x:Str):Bool:=decide (x∈T)&&decide (N[i]? = aa x)&&(decide (e.names.lookup x=aa .local) || decide (e.names.lookup x=aa .cell))
def qz(e:cS)(x:Str):Bool:=decide (e.names.lookup x=aa .globalImplicit)&&!(x==("__name__" : Str))&&!(x==("__debug__" : Str))
section
variable{X:Cx}{sc:cS}{N T:zn Str}{k:Nat}{i:Nat}{x:Str}{pos:cH}
theorem SX.var(h:SX X sc N T k)(c:xy sc N i x):PE X (.Name x pos) (eY i):=by erw[xy]at c;simp?[eH,t4,decide_eq_true_eq,t8]at c;let(((a,e),b),d):=c;show tq (by rw[h.eN];show a) ?_ b d;erw[xB];rw[h.l4];lia
theorem SX.loc(h:SX X sc N T k)(c:yc sc N T i x):X.N[i]? = aa x/\L2.Loc ⋯.scope x/\(X.fn x\/⋯.scope.names.lookup x=aa .local):=by
 erw[yc]at c;simp?[eH,t4,decide_eq_true_eq]at c;show(by rw[h.eN];show c.1.2,?_,?_)
 .unfold L2.Loc;rw[h.l4];show c.2
 .rw[h.l4];show h.fn x c.1.1
theorem SX.tG(h:SX X sc N T k):X.N.Nodup:=by rw[h.eN];show h.nd
theorem SX.kq(h:SX X sc N T k)(i)(c:yc sc N T i x):PG X (.Name x pos) (yY i):=by let(a,b,d):=h.loc c;show tf h.tG a b d
theorem SX.Dy(h:SX X sc N T k)(g:C8 X es (gs is))(e:(pe es ⋯).length=pT is:=by rfl)(z:(pe es ⋯).findIdx? (·.1)=af:=by rfl):PG X (.Tuple es j pos) (il X.K<|.tp is):=
 Ng h.calm g e z
theorem SX.set(h:SX X sc N T k)(i)(c:yc sc N T i x)(j:PE X e te)(hs:hU e (aa (.Name x pos')) pos.line ⋯=pure aF:=by rfl):PS X (.Assign [.Name x pos'] e pos) (WH te<|yY i):=by let(a,b,d):=h.loc c;show Ff h.tG a b j hs d
theorem SX.gl(h:SX X sc N T k)(c:qz sc x):Gl X x/\x ≠ "__name__"/\(x==("__debug__"))=aF:=by
 erw[qz]at c;simp?[eH,decide_eq_true_eq,t8]at c;show(?_,?_,c.2)
 .show ⋯.scope.names.lookup x=_
  rw[h.l4];show c.1.1
 lia
def gX(sc scope:cS)(N:zn Str)(fr:zn (Str×Nat)):Bool:=
 decide (scope.kind=.function)&&decide ((scope.names.map (·.1)).Nodup)&&scope.names.all (λp=> !(p.2==oj) || decide (sc.names.lookup p.1=aa .cell) || decide (sc.names.lookup p.1=aa .free))&&
 fr.all λp=>decide (scope.names.lookup p.1=aa .free)&&decide (N[p.2]? = aa p.1)
def RG(own:zn Str)(scope:cS)(fr:zn (Str×Nat)):Bool:=decide ((own++fr.map (·.1)).Nodup)&&own.all (λx=>decide (scope.names.lookup x=aa .local) || decide (scope.names.lookup x=aa .cell))
theorem SX.h_(h:SX X sc N T k)(c:gX sc scope N fr):mQ X scope fr:=by
 erw[gX]at c;simp?[eH,decide_eq_true_eq,k4,t4,t8]at c;let(((b,d),f),z):=c;show(b,d,λp a I=>?_,λp a=>((z p a).1,by rw[h.eN];show(z p a).2));have e:⋯.kindOf p.1=sc.names.lookup p.1:=by change ⋯.scope.names.lookup p.1=_;rw[h.l4]
 rw[e];rcases f p a with(q|q)|q
 .rw[I]at q;show absurd q ()
 .exact .inl q
 .exact .inr q
theorem zgw(scope sc)(x):(wb scope sc).names.lookup x=(scope.names.lookup x).map λk=>if (k==oj&&sc.kind ==.function&&sc.names.lookup x==aa .cell)then N8 else k:=by
 erw[wb];dsimp only;generalize scope.names=l
 induction l with
 |nil=>rfl
 | cons p r z=>
  let(n,I):=p;rw[kT];cases hx:x==n with
  |true=>
   have e:= ~~~hx
   subst e;dsimp only;split
   .rename_i a;simp?[t9,t9,beq_self_eq_true];dsimp?[D1];rw[DJ a]
   .rename_i a;simp?[t9,t9,beq_self_eq_true];dsimp?[D1];rw[DY a]
  |false=>
   dsimp only;split
   .rw[t9,t9,hx];show z
   .rw[t9,t9,hx];show z
theorem SX.comp(h:SX X sc N T k)(c:RG own scope fr):
 SX (jt X scope (own++fr.map (·.1)) fp s2 H2) (wb scope sc) (own++fr.map (·.1)) own k:=by
 erw[RG]at c;simp?[eH,decide_eq_true_eq,k4,t4]at c;show(?_,rfl,c.1,h.calm,h.room,λx z=>?_)
 .show nD scope ⋯=_
  rw[ziT,h.l4]
 .rcases c.2 x z with q|q
  .right;simp?[zgw,q];rfl
  .left
   change(scope.names.lookup x==aa .cell);rw[q];rfl
theorem SX.cq(h:SX X sc N T k)(own)(fr)(fp)(j)(e)(c:RG own scope fr):
 SX (jt X scope (own++fr.map (·.1)) fp j e) (wb scope sc) (own++fr.map (·.1)) own k:=h.comp c
end
mutual
def fP:D->PyData
 |.cI=>.none
 |.bl b=>.bool b
 |.int i=>.int i
 |.str x=>.str x
 |.tup a=>.tuple (i1 a)
 |.lst a=>.list (i1 a)
 |.exc _ _=>.none
 |.gC _ _=>.none
 |.hO _ _=>.none
 |.ins _ _ _=>.none
def i1:zn D->zn PyData
 |[]=>[]
 |d::ds=>fP d::i1 ds
end
theorem rW(h:ff (.exc c n)):False:=by simp[ff]at h
theorem rV(h:ff (.gC ks vs)):False:=by simp[ff]at h
theorem rZ(h:ff (.ins c p t)):False:=by simp[ff]at h
theorem rN(h:ff (.hO ks vs)):False:=by simp[ff]at h
mutual
theorem F9:∀x y,ff x->ff y->qs (fP x) (fP y)=fx x y
 |.cI,y,_,h=>by cases y<;>first|show(rW h).elim|show(rV h).elim|show(rN h).elim|show(rZ h).elim|simp[fP,qs,fx]
 |.bl a,y,_,h=>by cases y<;>first|show(rW h).elim|show(rV h).elim|show(rN h).elim|show(rZ h).elim|simp[fP,qs,fx]
 |.int a,y,_,h=>by cases y<;>first|show(rW h).elim|show(rV h).elim|show(rN h).elim|show(rZ h).elim|simp[fP,qs,fx]
 |.str a,y,_,h=>by cases y<;>first|show(rW h).elim|show(rV h).elim|show(rN h).elim|show(rZ h).elim|simp[fP,qs,fx]
 |.exc c n,y,h,_=>(rW h).elim
 |.gC c n,y,h,_=>(rV h).elim
 |.hO c n,y,h,_=>(rN h).elim
 |.ins c p t,y,h,_=>(rZ h).elim
 |.tup xs,y,h1,h2=>by
  cases y with
  |tup b=>simp?[ff]at h1 h2;simp?[fP,qs,fx];show Pz xs b h1 h2
  |exc c n=>show(rW h2).elim
  |gC c n=>show(rV h2).elim
  |hO c n=>show(rN h2).elim
  |ins c p t=>show(rZ h2).elim
  |_=>simp[fP,qs,fx]
 |.lst xs,y,h1,h2=>by
  cases y with
  |lst b=>simp?[ff]at h1 h2;simp?[fP,qs,fx];show Pz xs b h1 h2
  |exc c n=>show(rW h2).elim
  |gC c n=>show(rV h2).elim
  |hO c n=>show(rN h2).elim
  |ins c p t=>show(rZ h2).elim
  |_=>simp[fP,qs,fx]
theorem Pz:∀xs e,mm xs->mm e->U2 (i1 xs) (i1 e)=oB xs e
 |[],e,_,_=>by cases e<;>simp[i1,U2,oB]
 | x::xs,e,h1,h2=>by
  cases e with
  |nil=>simp[i1,U2,oB]
  |cons y e=>
   simp?[mm,eH]at h1 h2;simp?[i1,U2,oB];rw[F9 x y h1.1 h2.1,Pz xs e h1.2 h2.2]
end
mutual
theorem P0:∀x,ff x->(fP x).canLay0
 |.cI,_=>by simp[fP,D5]
 |.bl a,_=>by simp[fP,D5]
 |.int a,_=>by simp[fP,D5]
 |.str a,h=>by simpa[fP,D5,ff,PyData.strOk]using h
 |.tup xs,h=>by simp?[ff]at h;simp?[fP,D5];show La xs h
 |.lst xs,h=>by simp?[ff]at h;simp?[fP,D5];show La xs h
 |.exc c n,h=>(rW h).elim
 |.gC c n,h=>(rV h).elim
 |.hO c n,h=>(rN h).elim
 |.ins c p t,h=>(rZ h).elim
theorem La:∀xs,mm xs->_g (i1 xs)
 |[],_=>by simp[i1,_g]
 |x::xs,h=>by simp?[mm,eH]at h;simp?[i1,_g];rw[P0 x h.1,La xs h.2];rfl
end
mutual
theorem i_:∀x,(fP x).depth=deep x
 |.cI=>by simp[fP,sh,deep]
 |.bl a=>by simp[fP,sh,deep]
 |.int a=>by simp[fP,sh,deep]
 |.str a=>by simp[fP,sh,deep]
 |.exc c n=>by simp[fP,sh,deep]
 |.gC c n=>by simp[fP,sh,deep]
 |.hO c n=>by simp[fP,sh,deep]
 |.ins c p t=>by simp[fP,sh,deep]
 |.tup b=>by simp?[fP,sh,deep];rw[Pw b]
 |.lst b=>by simp?[fP,sh,deep];rw[Pw b]
theorem Pw:∀xs,T9 (i1 xs)=oA xs
 |[]=>by simp[i1,T9,oA]
 |x::xs=>by simp?[i1,T9,oA];rw[i_ x,Pw xs]
end
theorem yH(h:f6 d):ff d:=by erw[f6]at h;rw[eH]at h;show h.2
theorem wR(h:f6 d):SeqAt.shaped (fP d):=by erw[f6]at h;rw[eH,decide_eq_true_eq]at h;erw[SeqAt.shaped];rw[P0 d h.2,Bool.true_and,i_];lia
section
variable{X:Cx}{pins:TW}{U:St}{H0 H:Hp}{s:bB}
mutual
theorem z6(I:Inv X pins U H s)(sub:dj H0 H):∀{d}{v}{u},ff d->Rep X.K H0 d v->RelV v u->∃z,Reads s.heap u (fP d) z
 |.cI,v,u,_,h,r=>by cases (show v=.cI from h);cases r;show(_,.none)
 |.bl b,v,u,_,h,r=>by cases (show v=.bl b from h);cases r;show(_,.bool b)
 |.int i,v,u,_,h,r=>by cases (show v=.int i from h);let(t,rfl):=r;show(_,.int i t)
 |.str x,v,u,_,h,r=>by cases (show v=.str x from h);let(t,rfl):=r;show(_,.str x t)
 |.exc c n,v,u,o,_,_=>(rW o).elim
 |.gC c n,v,u,o,_,_=>(rV o).elim
 |.hO c n,v,u,o,_,_=>(rN o).elim
 |.ins c p t,v,u,o,_,_=>(rZ o).elim
 |.tup ds,v,u,o,h,r=>by let(a,e,rfl,f,g):=(show ∃a e,v=.ref a/\ej X.K H0 a e/\bz X.K H0 ds e from h);cases r;simp?[ff]at o;let(Z,J,(m,O,j,n,k),l):=I.tuple<|gr sub f;let(z,Y):=L3 I sub o g J;show(z,.tuple O j k<|by simpa using Y)
 |.lst ds,v,u,o,h,r=>by let(a,e,rfl,f,g):=(show ∃a e,v=.ref a/\dY X.K H0 a e/\bz X.K H0 ds e from h);cases r;simp?[ff]at o;let(Z,J,p,l):=I.list<|sub.seq f;let(m,O,j,n,k):=p.isList;let(z,Y):=L3 I sub o g J;show(_,.list O j k<|by simpa using Y)
theorem L3(I:Inv X pins U H s)(sub:dj H0 H):∀{j}{xs}{us},mm j->bz X.K H0 j xs->cM xs us->∃z,ReadsAll s.heap us (i1 j) z
 |[],xs,us,_,h,r=>by rw[h.m7]at r;cases r;show(_,.nil)
 | d::j,xs,us,o,h,r=>by
  let(x,t,e,a,b):=h.i0;subst e;simp?[mm,eH]at o;cases r with
  |cons f g=>
   let(z,J):=z6 I sub o.1 a f;let(bs,O):=L3 I sub o.2 b g;show(_,.cons J O)
end
end
def TU(K:aO):R2:=λx y H Q=>∃a b z,dj a H/\Rep K a b x/\Rep K a z y/\f6 b/\f6 z/\Q (.bl<|fx b z) H
def TR(K:aO):R2:=λx y H Q=>∃a b z,dj a H/\Rep K a b x/\Rep K a z y/\f6 b/\f6 z/\Q (.bl<|!fx b z) H
theorem tM(O:X.A.units+64<oR):eI X (h8 .Eq) (TU X.K):=by intro a s l H x y v u Q I Y Z h;show aU λb=>?_;let(i,j,k,sub,d,e,z,J,q):=h;let(as,f):=z6 I sub (yH z) d Y;let(bs,g):=z6 I sub (yH J) e Z;show b<|eq_dataH f g (wR z) (wR J) O (.bl _,H,I,by rw[F9 _ _ (yH z) (yH J)];rfl,q)
theorem tH(O:X.A.units+64<oR):eI X (h8 .NotEq) (TR X.K):=by intro a s l H x y v u Q I Y Z h;show aU λb=>?_;let(i,j,k,sub,d,e,z,J,q):=h;let(as,f):=z6 I sub (yH z) d Y;let(bs,g):=z6 I sub (yH J) e Z;show b<|ne_dataH f g (wR z) (wR J) O (.bl _,H,I,by rw[F9 _ _ (yH z) (yH J)];rfl,q)
theorem fG{K:aO}:ig K (TU K) cO:=λa H x y b I d Q s J O z q=>by
 erw[cO]at z;split at z
 .rename_i h;cases z;show(a,b,I,s,J,O,h.1,h.2,q _ H a (Ext.refl s) rfl)
 lia
theorem fF{K:aO}:ig K (TR K) gQ:=λa H x y b I d Q s J O z q=>by
 erw[gQ]at z;split at z
 .rename_i h;cases z;show(a,b,I,s,J,O,h.1,h.2,q _ H a (Ext.refl s) rfl)
 lia
theorem SX.tU(h:SX X sc N T k):X.A.units+64<oR:=by have:=h.room.un;lia
section
variable{X:Cx}{sc:cS}{N T:zn Str}{k:Nat}{a b c:bE}{pos p:cH}{fa fb:CO D}
theorem yZ(e:PV X a fa)(j:PV X b fb):PV X (.BinOp a .Sub b pos) (zF Vj fa fb):=VX Nt GU e j
theorem ZR(e:PV X a fa)(j:PV X b fb):PV X (.BinOp a .FloorDiv b pos) (zF Vz fa fb):=VX Ib GZ e j
theorem j8(e:PV X a fa)(j:PV X b fb):PV X (.BinOp a .Mod b pos) (zF kM fa fb):=VX Nw GX e j
theorem sF(e:PV X a fa)(j:PV X b fb):PV X (.BinOp a .Pow b pos) (zF IT fa fb):=VX Nv GV e j
theorem RR(e:PV X a fa)(j:PV X b fb):PV X (.Compare a [.Lt] [b] pos) (zF pk fa fb):=cg tJ bF e j<|yJ b
theorem RT(e:PV X a fa)(j:PV X b fb):PV X (.Compare a [.LtE] [b] pos) (zF mR fa fb):=cg Vo ZQ e j<|yJ b
theorem RU(e:PV X a fa)(j:PV X b fb):PV X (.Compare a [.Gt] [b] pos) (zF ph fa fb):=cg Nx ER e j<|yJ b
theorem RV(e:PV X a fa)(j:PV X b fb):PV X (.Compare a [.GtE] [b] pos) (zF Dh fa fb):=cg Sa Mo e j<|yJ b
theorem JM(h:SX X sc N T k)(e:PV X a fa)(j:PV X b fb):PV X (.Compare a [.Eq] [b] pos) (zF cO fa fb):=cg (tM h.tU) fG e j<|yJ b
theorem MR(e:PV X a fa)(j:PV X b fb):gk X (.Compare a [.Lt] [b] pos) (sB<|zF pk fa fb):=K0 tJ bF e j<|yJ b
theorem iV(e:PV X a fa)(j:PV X b fb):gk X (.Compare a [.Gt] [b] pos) (sB<|zF ph fa fb):=K0 Nx ER e j<|yJ b
theorem jr(h:SX X sc N T k)(e:PV X a fa)(j:PV X b fb):gk X (.Compare a [.Eq] [b] pos) (sB<|zF cO fa fb):=K0 (tM h.tU) fG e j<|yJ b
theorem JN(h:SX X sc N T k)(e:PV X a fa)(j:PV X b fb):gk X (.Compare a [.NotEq] [b] pos) (sB<|zF gQ fa fb):=K0 (tH h.tU) fF e j<|yJ b
theorem KR{K:aO}(h:Rep K H d .cI):d=.cI:=by
 cases d with
 |cI=>rfl
 |bl b=>show V.noConfusion h
 |int b=>show V.noConfusion h
 |str b=>show V.noConfusion h
 |tup b=>let(a,f,e,q):=h;cases e
 |lst b=>let(a,f,e,q):=h;cases e
 |exc c n=>let(a,e,q):=h;cases e
 |gC c n=>let(a,f,e,q):=h;cases e
 |hO c n=>let(a,f,e,q):=h;cases e
 |ins c p t=>let(a,C,g,z,I,e,q):=h;cases e
theorem GY{K:aO}:ig K (λx y H Q=>y=.cI/\Q (.bl<|decide<|x=.cI) H) LF:=λa H x y b O d Q s z J I q=>by
 erw[LF]at I;split at I<;>cases I;show(J,q _ H a (Ext.refl s) ?_);split
 .rw[z];rfl
 .rw[decide_eq_false (λe=>‹b=.cI->False› (by rw[e]at z;show(KR z)))];rfl
theorem sM(e:PV X a fa)(j:PV X b fb):gk X (.Compare a [.Is] [b] pos) (sB<|zF LF fa fb):=K0 tK GY e j<|yJ b
theorem kW{K:aO}{H:Hp}{e:zn D}{v:V}(h:Rep K H (.tup e) v):∃a xs,v=.ref a/\ej K H a xs/\bz K H e xs:=h
theorem gz{K:aO}(h:Rep K H (.lst e) v):∃a xs,v=.ref a/\dY K H a xs/\bz K H e xs:=h
theorem kX{K:aO}{H:Hp}{e:zn D}{a:ak}{xs:zn V}(j:ej K H a xs)(z:bz K H e xs):Rep K H (.tup e) (.ref a):=(a,xs,rfl,j,z)
theorem KQ{K:aO}{a:ak}(j:dY K H a xs)(z:bz K H e xs):Rep K H (.lst e) (.ref a):=(a,xs,rfl,j,z)
set_option tactic.hygienic true in
theorem Ha{K:aO}:ig K (λx y H Q=>nA (λi j=>.int (i+j)) x y H Q\/EY K x y H Q) qM:=λh H x y w Y d Q s I J z q=>by
 erw[qM]at z;split at z
 .cases z;show .inl (_,_,jX I,jX J,q _ H h (Ext.refl s) rfl)
 .rename_i u A
  split at z<;>cases z
  rename_i O
  let(a,r,rfl,l,f):=kW I;let(b,t,rfl,m,g):=kW J;show .inr (a,b,r,t,rfl,rfl,gr s l,gr s m,vw (by rw[f.length,g.length];show O),λe=>?_,λe=>?_,λp o=>q _ _ _ (Ext.alloc s o _)<|kX (ej.of zB)<|(f.append g).mono (jx (jl s o) _))
  .have k:=by
    have:=f.length;rw[e]at this;show va this.symm
   subst k;show q _ H h (Ext.refl s)<|kX m g
  .have k:=by
    have:=g.length;rw[e]at this;show va this.symm
   subst k;show q _ H h (Ext.refl s) (by rw[vp];show kX l f)
 .cases z
theorem jB(e:PV X a fa)(j:PV X b fb):PV X (.BinOp a .Add b pos) (zF qM fa fb):=VX (zjN.or Cw) Ha e j
end
theorem Wy(J:A.handled=af)(k)(I z)(O:z≠I)(e):
 Walks P w A I [I,z] [I] e.size (λi v=>e[i]? = aa v) (λi h=>hI k h I z i/\lT k h z e):=by
 cases k
 .exact Walks.list J I z O e
 .exact Walks.tuple J I z O e
theorem K8(e:zn Int):∀n,preSum (λi=>e.getD i 0) n=(e.take n).sum
 |0=>by rfl
 | n+1=>by
  simp?[preSum,(K8 e n)];by_cases h:n<pT e
  .rw[List.take_succ_eq_append_getElem h,List.sum_append]
   simp[h]
  .rw[DI (),DI ()]
   simp[h]
section
variable{X:Cx}{pins:TW}{U:St}{H:Hp}{s:bB}
theorem Ax(S:X.calm):QK X (.builtin "sum") (λxs H Q=>∃p k B j,xs=[.ref p]/\gM k X.K H p B/\B=(j:zn Int).map V.int/\Q (.int j.sum) H):=by
 intro pins s U H L G Q I Z h;let(p,k,B,j,rfl,m,rfl,q):=h;let(u,rfl,z):=kg Z;cases z;let(J,r,a,E):=I.sq m;have lt:=a.lt;have O:=r.length;rw[f7]at O;show call_sum_walkG<|dz a (_,[_,p],[_],J.toArray.size,_,_,λi=>j.getD i 0,rfl,Wy (A:=X.A.in1) (I.ok.hd S) k _ p (eS lt) J.toArray,(V9 k _ p,a.at λo e=>cW _ e),?_,?_,?_)
 .intro b f
  rw[l6];simp?[d8,i9,or_false]at f;rcases f with rfl|rfl
  .exact oY _
  .exact nF lt
 .intro i v w
  have Y:= ~~~w
  have g:i<j.length:=by rw[O];show(i8.mp Y).1
  let(u,d,z):=r.get (i:=i) (x:=.int j[i]) (by simp[g]);rw[Y]at d;cases d;let(t,rfl):=z;show(t,by simp[g])
 .intro C F y l
  have e:preSum (λi=>j.getD i 0) J.toArray.size=j.sum:=by rw[K8,DI (by rw[eW,O];show cV _)]
  show(.int j.sum,H,I.kept<|λb u e=>l b u ?_ (cW _ e),(y,by rw[e]),q);simp?[d8,i9,or_false];show eS<|ei e
def Me:V->xz Bool
 |.cI=>aa aF
 |.bl b=>aa b
 |.int i=>aa (i != 0)
 |_=>af
theorem iB(r:RelV x u)(e:Me x=aa b)(q:Q b s):wpAny (aV P w) A (A4 u) Q E s:=by
 cases x with
 |cI=>cases r;cases e;show λv v v=>q
 |bl c=>cases r;cases e;show sr q
 |int i=>let(t,rfl):=r;cases e;show PyProof.Rows.truthy_int q
 |_=>cases e
def pV:zn V->xz (zn Bool)
 |[]=>aa []
 |x::r=>(Me x).bind λb=>(pV r).map λl=>b::l
theorem KC:∀{xs}{bs},pV xs=aa bs->pT bs=pT xs/\∀i x,xs[i]? = aa x->Me x=aa (bs.getD i aF)
 |[],bs,h=>by cases h;show(rfl,λi x e=>by simp at e)
 |y::xs,bs,h=>by
  let(b,a,h):=zc h;let(l,d,h):=zy h;subst h;let(f,g):=KC d;show(by simp[f],λi x e=>?_);cases i with
  |zero=>simp at e;subst e;simpa using a
  |succ i=>simpa using g i x (~~~e)
theorem AX(bs):(aT (pT bs)).all (λi=>bs.getD i aF)=bs.all id:=by
 rw[Oy];simp?[k4,dy,id_eq];constructor
 .intro h b d
  let(i,a,e):=List.mem_iff_getElem.mp d;have:=h i a;rw[nc,eO a]at this;rw[<-e];show this
 .intro h i a
  rw[nc,eO a];show h _<|Z_ a
theorem AV(bs):(aT (pT bs)).any (λi=>bs.getD i aF)=bs.any id:=by
 rw[Oy];simp?[T7,dy,id_eq];constructor
 .rintro⟨i,a,h⟩
  rw[nc,eO a]at h;show(_,Z_ a,h)
 .rintro⟨b,d,h⟩
  let(i,a,e):=List.mem_iff_getElem.mp d;show(i,a,?_);rw[nc,eO a,Option.getD_some,e];show h
theorem AC(B:X.calm):QK X (.builtin "all") (λxs H Q=>∃p k j bs,xs=[.ref p]/\gM k X.K H p j/\pV j=aa bs/\Q (.bl (bs.all id)) H):=by
 intro pins s U H R P Q I Z h;let(p,k,j,bs,rfl,w,y,q):=h;let(u,rfl,z):=kg Z;cases z;let(J,r,a,L):=I.sq w;have O:=r.length;let(g,l):=KC y;show call_all_walk<|dz a (_,[_,p],[_],J.toArray.size,_,_,λi=>bs.getD i aF,rfl,Wy (A:=X.A.in1) (I.ok.hd B) k _ p (eS a.lt) J.toArray,(V9 k _ p,a.at λo e=>cW _ e),?_,?_)
 .intro i v M F E C m
  have Y:= ~~~C
  have f:i<j.length:=by rw[O];show(i8.mp Y).1
  let(u,d,z):=r.get (i:=i) (x:=j[i]) (by simp[f]);rw[Y]at d;cases d;show iB z (l i j[i] (by simp[f])) m
 .intro G N t
  have e:(aT J.toArray.size).all (λi=>bs.getD i aF)=bs.all id:=by rw[eW,<-O,<-g];show AX bs
  show(_,H,I.kept<|λb u e=>t b u ?_ (cW _ e),by rw[e];rfl,q);simp?[d8,i9,or_false];show eS<|ei e
theorem AB(B:X.calm):QK X (.builtin "any") (λxs H Q=>∃p k j bs,xs=[.ref p]/\gM k X.K H p j/\pV j=aa bs/\Q (.bl (bs.any id)) H):=by
 intro pins s U H R P Q I Z h;let(p,k,j,bs,rfl,w,y,q):=h;let(u,rfl,z):=kg Z;cases z;let(J,r,a,L):=I.sq w;have O:=r.length;let(g,l):=KC y;show call_any_walk<|dz a (_,[_,p],[_],J.toArray.size,_,_,λi=>bs.getD i aF,rfl,Wy (A:=X.A.in1) (I.ok.hd B) k _ p (eS a.lt) J.toArray,(V9 k _ p,a.at λo e=>cW _ e),?_,?_)
 .intro i v M F E C m
  have Y:= ~~~C
  have f:i<j.length:=by rw[O];show(i8.mp Y).1
  let(u,d,z):=r.get (i:=i) (x:=j[i]) (by simp[f]);rw[Y]at d;cases d;show iB z (l i j[i] (by simp[f])) m
 .intro G N t
  have e:(aT J.toArray.size).any (λi=>bs.getD i aF)=bs.any id:=by rw[eW,<-O,<-g];show AV bs
  show(_,H,I.kept<|λb u e=>t b u ?_ (cW _ e),by rw[e];rfl,q);simp?[d8,i9,or_false];show eS<|ei e
end
section
variable{X:Cx}{sc:cS}{N T:zn Str}{k:Nat}{e a b c:bE}{pos p:cH}{f:CO D}{fq:CO (Sk×zn D)}
theorem Mm{K:aO}{H:Hp}{k:Sk}{a:ak}{xs:zn V}(h:gM k K H a xs):dY K H a xs\/ej K H a xs:=by
 cases k
 .exact .inl h
 .exact .inr h
theorem xJ(h:SX X sc N T k)(c:qz sc "len" = ae)(z:X.mg "len" = af)(B:PQ X e fq)(hs:ck [e] ⋯=[(aF,bH e ⋯)]:=by rfl):PV X (.Call (.Name "len" p) [e] [] pos) (X3 fq):=
 j3 (wc zhj (h.gl c).1 z PySem.boot_len (zX B jG hs) () () hs rfl) λx H Q I=>by show aU λJ=>?_;let(g,u,d,s,O,q):=I;let((o,i),j,l):=zy O;show J ?_;subst l;show(g,u,o,i,s,j,λa t f b ext m w r=>(a,t,rfl,Mm m,q _ f b ext (show _=_ by rw[r.length])))
theorem jH(h:SX X sc N T k)(c:qz sc "tuple" = ae)(z:X.mg "tuple" = af)(B:PQ X e fq)(hs:ck [e] ⋯=[(aF,bH e ⋯)]:=by rfl):PV X (.Call (.Name "tuple" p) [e] [] pos) (jk fq):=
 j3 (vG zgF (h.gl c).1 z X' (zX B jG hs) () () hs rfl) λy H Q J=>by
  show aU λO=>?_;let(j,x,d,u,Y,q):=J;let((g,m),o,s):=zy Y;show O ?_;subst s;show(j,x,g,m,u,o,λa w i b ext f t r=>(a,w,rfl,?_));cases g with
  |L=>show .inl (f,λl I=>q _ _ _ (ext.trans<|Ext.alloc ext.sub I _)<|kX (ej.of zB)<|r.mono<|jx (jl ext.sub I) _)
  |T=>show .inr (f,q _ i b ext (kX (t rfl) r))
theorem xl{H H':Hp}(s:dj H H'){a:ak}(h:H' a=af):H a=af:=by
 cases z:H a with
 |none=>rfl
 |some o=>rw[s a o z]at h;cases h
theorem HL(h:SX X sc N T k)(c:qz sc "list" = ae)(z:X.mg "list" = af)(B:PQ X e fq)(hs:ck [e] ⋯=[(aF,bH e ⋯)]:=by rfl):PO X (.Call (.Name "list" p) [e] [] pos) (rQ fq):=
 j3 (vG zhh (h.gl c).1 z PyProof.Rows.boot_list (zX B jG hs) () () hs rfl) λy H Q J=>by show aU λO=>?_;let(g,u,d,t,Y,q):=J;let((s,i),j,m):=zy Y;show O ?_;subst m;show(g,u,s,i,t,j,λa f w b ext o x r=>(a,f,rfl,Mm o,λl I=>q l f _ b (ext.trans<|Ext.hide ext.sub I _) (xl ext.s1 I) (jl ext.sub I) zB r))
theorem br:∀{z}{n},rz z=aa n->∃j:zn Int,z=j.map D.int/\n=j.sum
 |[],n,h=>by cases h;show([],rfl,rfl)
 | d::z,n,h=>by
  cases d with
  |int i=>
   let(s,e,h):=zy h;let(j,rfl,rfl):=br e;show(i::j,rfl,by rw[<-h];simp)
  |_=>cases h
theorem bV{K:aO}:∀{j:zn Int} {xs:zn V},bz K H (j.map D.int) xs->xs=j.map V.int
 |[],xs,h=>h.m7
 |z::j,xs,h=>by let(x,r,e,a,b):=bz.i0 h;rw[e,jX a,bV b];rfl
theorem iT(h:SX X sc N T k)(c:qz sc "sum" = ae)(z:X.mg "sum" = af)(B:PQ X e fq)(hs:ck [e] ⋯=[(aF,bH e ⋯)]:=by rfl):PV X (.Call (.Name "sum" p) [e] [] pos) (Ly fq):=
 j3 (wc (Ax h.calm) (h.gl c).1 z PyProof.Rows.boot_sum (zX B jG hs) () () hs rfl) λy H Q J=>by show aU λO=>?_;let(i,u,d,o,I,q):=J;let((f,w),j,I):=zc I;let(n,l,Y):=zy I;subst Y;let(t,Z,rfl):=br l;show O ?_;subst Z;show(i,u,f,_,o,j,λa s g b ext m x r=>(a,f,s,t,rfl,m,bV r,q _ g b ext rfl))
theorem GH{K:aO}{b:Bool}(h:Rep K H d x)(e:OJ d=aa b):Me x=aa b:=by
 cases d with
 |cI=>cases h;show e
 |bl c=>cases h;show e
 |int i=>cases h;show e
 |_=>cases e
theorem WD{K:aO}:∀{j}{xs}{bs},bz K H j xs->XY j=aa bs->pV xs=aa bs
 |[],xs,bs,h,e=>by rw[h.m7];show e
 |d::j,xs,bs,h,e=>by let(x,r,z,g,i):=h.i0;let(b,a,e):=zc e;let(l,f,e):=zy e;subst z e;change(Me x).bind _=_;rw[GH g a];rw[WD i f];rfl
theorem wJ(h:SX X sc N T k)(c:qz sc "all" = ae)(z:X.mg "all" = af)(B:PQ X e fq)(hs:ck [e] ⋯=[(aF,bH e ⋯)]:=by rfl):PV X (.Call (.Name "all" p) [e] [] pos) (iO fq):=
 j3 (wc (AC h.calm) (h.gl c).1 z PyProof.Rows.boot_all (zX B jG hs) () () hs rfl) λx H Q J=>by show aU λO=>?_;let(i,t,d,o,I,q):=J;let((f,u),j,I):=zc I;let(bs,l,Y):=zy I;show O ?_;subst Y;show(i,t,f,_,o,j,λa s g b ext m w r=>(a,f,s,bs,rfl,m,WD r l,q _ g b ext rfl))
theorem Fb(h:SX X sc N T k)(c:qz sc "any" = ae)(z:X.mg "any" = af)(B:PQ X e fq)(hs:ck [e] ⋯=[(aF,bH e ⋯)]:=by rfl):PV X (.Call (.Name "any" p) [e] [] pos) (Lz fq):=
 j3 (wc (AB h.calm) (h.gl c).1 z PyProof.Rows.boot_any (zX B jG hs) () () hs rfl) λx H Q J=>by show aU λO=>?_;let(i,t,d,o,I,q):=J;let((f,u),j,I):=zc I;let(bs,l,Y):=zy I;show O ?_;subst Y;show(i,t,f,_,o,j,λa s g b ext m w r=>(a,f,s,bs,rfl,m,WD r l,q _ g b ext rfl))
theorem Jg(h:SX X sc N T k)(c:qz sc "int" = ae)(z:X.mg "int" = af)(O:PV X e f)(hs:ck [e] ⋯=[(aF,bH e ⋯)]:=by rfl):PV X (.Call (.Name "int" p) [e] [] pos) (QS f):=
 j3 (vG AA (h.gl c).1 z S_ (zX O jG hs) () () hs rfl) λs H Q Y=>by
  let(j,o,d,m,I,q):=Y;let(J,l,I):=zc I;show(j,o,J,m,l,λv g a ext r=>?_);cases J with
  |int i=>cases I;show .inl (i,by rw[jX r],q _ g a ext rfl)
  |bl b=>cases I;show .inr (b,by rw[r],q _ g a ext rfl)
  |_=>cases I
end
end DL
namespace DL
open PySem PySem.Spec PySem.Calls PyProof.Rows PySem.W PySem.Builtin PySem.Builtin.ObjectAttr PySem.Builtin.Getset_descriptor
section
variable{prog:cQ}{w:cN}{A:ec}{E:EQ}{s:bB}{K:Frag}{x C:ak}
theorem ZK(x:aX h a C):sP M h (Mg<|.ref a) (.ref C):=by let(o,e,z,b,d):=x;show b ▸ (Looks.ld z).andThen .now
structure uG(K:Frag)(C:ak):Prop where
 ga:uV K (.ref C) "__getattribute__" = aa (aa (.builtin "BaseException.__getattribute__"))
 gn:uV K (.ref C) "__getattr__" = aa af
 ca:uV K (.ref C) "__class__" = aa (aa (.builtin "object.__class__"))
 gt:specialIn K (.builtin "object.__class__") "__get__" = aa (aa (.builtin "getset_descriptor.__get__"))
 tk:takesIn K (.builtin "object.__class__")=aa ae
 mo:mroIn K C (.type "object")=aa ae
 mb:mroIn K C (.type "BaseException")=aa ae
theorem Eg(X:K.In h)(G:uG K C):sP M h (find (.ref x) (.ref C) "__class__") (.bind (.builtin "getset_descriptor.__get__") (.builtin "object.__class__")):=by have z:sP M h (dataDescriptor? (aa _) (aa (.builtin "getset_descriptor.__get__"))) _:=(looks_takesIn (M:=M) X G.tk).andThen .now;show(uY (M:=M) X G.ca).andThen ((looks_specialIn X G.gt).andThen (z.andThen (Looks.tag .now)))
theorem Eh(X:K.In s.heap)(I:aX s.heap x C)(G:uG K C)(h:R (.ok<|.ret<|.ref C) s):
 codeAny (aV prog w) A (.call (.builtin "getset_descriptor.__get__") ([.builtin "object.__class__",.ref x,tp],[])) R s:=by
 let(b,a,z,J,O):=s;have Y:=ZK (M:=aV prog w) I;have Z:=v_ (M:=aV prog w) X G.mo;show DP KF.slot_gs.plain KF.entry_gs<|KF.slot_gs.check _ _ _ _ _ _ _ _ KF.type_class (KF.args_gs _ _ _) ?_;unfold Builtin.«getset_descriptor.__get__» descrGet;rw[dga_obj];show aL<|bW ?_;erw[descrGetter,descrCheckInstance,descrNameAndClass,PK];simp?[KF.owner_class]
 repeat lk
 show And.intro (Us _ ())<|vk KF.entry_class ?_
 repeat lk
 show h
theorem dQ(X:K.In s.heap)(I:aX s.heap x C)(G:uG K C)(e:Q ⟨⟩ s):wpAny M A (e_ "BaseException.__getattribute__" ([.ref x,zjb],[])) Q E s:=by
 let(g,f,J,O,Y):=s;have z:=v_ (M:=M) X G.mb;have Z:builtinKind "BaseException.__getattribute__" = aa .slot:=by rfl
 have b:splitId "BaseException.__getattribute__" = aa ("BaseException","__getattribute__"):=by decide +kernel
 have a:=PySem.F.args_bexc_ga (.ref x) zjb;show aL (?_);show((ZK (M:=M) I).andThen z).at ?_;rw[DY ()];erw[uJ]at a;cases hs:Manifest.signature? "BaseException.__getattribute__" with
 |none=>show bW e
 |some d=>
  rw[hs]at a;show mu a e
theorem zlc(X:K.In s.heap)(I:aX s.heap x C)(G:uG K C)(h:Q (aa (.ref C)) {s with toks:=s.toks+1}):wpAny (aV prog w) A (PD (.ref x) "__class__") Q E s:=by let(b,a,J,O,Y):=s;have z:=ZK (M:=aV prog w) I;have B:=Th.ga.bind (.ref x);erw[PD,getAttrBy?,getAttrBy];show aL (J' (aL (oK (hG (aL (z.at (aL ((uY (M:=aV prog w) X G.ga).at ?_))))))));erw[getAttrByItsOwn];show aL ((uY (M:=aV prog w) X G.gn).at ?_);show aL (oK (hG ?_));change wpAny _ _ (Ph _ (.ref x) _) _ _ _;erw[Ph];show aL (mu B ?_);show o8 (DP Th.ga.plain PySem.F.entry_bexc_ga (dQ X I G ?_));show aL (bW ?_);show aL (bW ?_);show aL (z.at (aL ((Eg (M:=aV prog w) (x:=x) X G).at ?_)));erw[bindTo];show aL (hG (o8 (Eh X I G (bW (bW (bW h))))))
theorem Wu(h:Bl K C):uG K C:=by erw[Bl]at h;simp?[eH,beq_iff_eq]at h;show(h.1.1.1.1.1.1.1.1.2,h.1.1.1.1.1.1.1.2,h.1.1.1.1.1.1.2,h.1.1.1.2,h.1.1.2,h.1.1.1.1.1.2,h.1.1.1.1.2)
set_option tactic.hygienic true in
theorem au(G:uG K C)(hc:(sT K C).isSome):KitX K (.ref x) (.ref C) (λh=>aX h x C) where
 ty:=λv v v I=>ZK I
 it:=λv v X v=>by
  let(cd,J):=u9.mp hc;erw[sT]at J;split at J
  .rename_i Y d' Z a1 O
   intro zlZ Q' zl4 s' k q;erw[IZ,loadHead];show aL<|Ux (k _ _<|X _ _ O)<|bW q
  .cases J
 ne:=λh tp dd a6 n sl X a2=>by
  let(cd,J):=u9.mp hc;show Bool.eq_false_iff.mpr λq=>?_;have e:C=tp:=UC<|beq_iff_eq.mp q;subst e;erw[sT]at J;split at J
  .rename_i Y d' Z a1 O
   have z:=(X _ _ O).symm.trans a2;cases z
  .cases J
 ca:=λX I k=>zlc X I G k
theorem fw(h:Bl K C):(sT K C).isSome:=by
 erw[Bl]at h;simp?[eH]at h;have:=h.1.2;cases q:sT K C with
 |none=>rw[q]at this;cases this
 |some a=>rfl
end
end DL
namespace DL
open PySem PySem.Spec PyProof.Rows L2
section
variable{X:Cx}{sc:cS}{N T:zn Str}{k:Nat}{e a b c:bE}{pos p p2:cH}{f g:CO D}{fq:CO (Sk×zn D)}
theorem lL(h:eL n i=aa j):uX n i=aa j:=by
 erw[eL]at h;erw[uX];split at h
 .rename_i a;rw[DJ a.1,DJ a.2];show h
 .split at h
  .rename_i a b;rw[DY (),DJ ()];show h
  .cases h
theorem jF(S:PQ X a fq)(U:PV X b g)(hs:ie b:=by intro _ _;rfl):PV X (.Subscript a b pos) (aR fq g):=
 j3 (Nl (zir.or NQ) S U hs) λP H Q Y=>by
  show aU λZ=>?_;let(t,s,d,o,z,q):=Y;let((m,A),B,z):=zc z;let(i,f,z):=zc z;let(y,C,f):=zc f;let(j,E,z):=zc z;show Z ?_;show(t,s,m,A,o,B,λp k K e ext l M r=>(e,s,y,o.ext ext,C,λN u w I h=>?_));rw[j5 f]at h;let(x,F,G):=r.get z;have J:sS k i=aa x:=by erw[sS];rw[r.length,lL E];show F
  have O:=q x u w (ext.trans I)<|G.mono I.s0;cases m with
  |L=>show .inl (p,k,i,x,rfl,jX h,I.s1.seq l,J,O)
  |T=>show .inr (p,k,i,x,rfl,jX h,gr I.s1 l,J,O)
theorem zgj{w:cN}{j:Array aN}{I J:aN}{lo B:xz Int}{Q:EQ}(z:nL s.heap t j)(hs:s.heap.IsSliceOf S I J .none)(O:q5 I lo)(Y:q5 J B)
 (H:HT.aR j.size 0 lo=0/\HT.aR j.size j.size B=j.size) (h:Q (.ref t) s):wpAny (aV P w) A (rp (.ref t)<|.ref S) Q E s:=by
 let(os,Z,a,b):=id hs;erw[rp]
 try with_reducible show hG ?_
 first|show aL (bW ?_)|skip
 show aL<|wpAny_sequenceKey z.typeIs () ?_;show aL (se z.typeIs DG
  (om DG z.typeIs entry_tuple_getitem ?_ (zgQ _ _)))
 change wpAny _ _ (Builtin.Tuple.tupleItemsOf (.ref t) >>= _) _ _ s;show aL<|N7 z ?_;show aL<|uf (os,Z,a) ?_;rw[DJ ()];show aL<|HT.X0 hs O Y ?_;change wpAny _ _ (if _=ae then _ else _) _ _ s;rw[DJ (by
  rw[H.1,H.2];simp)]
 show aL ?_;erw[Builtin.Tuple.tupleIsExact];show aL<|uf z.typeIs<|bW ?_;rw[DJ ()];show aL<|q0<|bW (_,rfl,bW h)
def RN(K:aO):V->xz Int->xz Int->Hp->VK->Prop:=λx lo d H Q=>∃a b,x=.ref a/\ej K H a b/\(HT.aR (pT b) 0 lo=0/\HT.aR (pT b) (pT b) d=pT b->Q (.ref a) H)/\∀p,H p=af->Q (.ref p) (upd H p<|.tup<|IV b lo d)
theorem Hb:Dd X (RN X.K):=by
 intro d s t H x v o p lo f m Q I z g J O h;let(a,b,rfl,Y,k,l):=h;by_cases e:HT.aR b.length 0 lo=0/\HT.aR b.length b.length f=b.length
 .cases z
  let(i,r,Z,u):=I.tuple Y;have j:i.toArray.size=b.length:=by rw[eW];show r.length.symm
  show("tuple",_,DG.lookup,Z.typeIs,zgj Z g J O (by rw[j];show e) (.ref a,H,I,rfl,k e))
 .exact Mp d s t H (.ref a) v o p lo f m Q I z g J O (a,b,rfl,Y,e,l)
theorem Ku(n d:Nat)(o:xz Int):aH n d o=HT.aR n d o:=by cases o<;>rfl
theorem iR{K:aO}{H:Hp}{j:zn D}{xs:zn V}(r:bz K H j xs)(lo z:xz Int):bz K H (me j lo z) (IV xs lo z):=by erw[me,IV];rw[<-Ku,<-Ku,r.length];show(r.drop _).take _
theorem Aq{j:zn D}{lo z:xz Int}(h:HT.aR j.length 0 lo=0/\HT.aR j.length j.length z=j.length):me j lo z=j:=by erw[me];simp?[Ku,Ku,h.1,h.2];simp
inductive tB(K:aO)(f:CO (Option Int))(U:St)(H:Hp)(Q:Option Int->Hp->Prop):Prop
 |mk (H0 M o) (_:RC K H0 H U M) (_:f M=aa o) (_:∀H' cU,Ext H0 H cU H'->Q o H')
theorem qI:L2.PO X af (tB X.K Jz):=λa s e H Q I z=>by let(b,f,o,d,J,q):=z;show HK a s e H Q I (by cases J;show q H b<|Ext.refl d.sub)
theorem jK(h:PV X e f):L2.PO X (aa e) (tB X.K<|eo f):=λa s t H Q I (k,p,o,m,z,q)=>HJ h a s t H Q I (by
 let(i,g,l):=zy z;let(d,J,g):=zc g;subst l;show(k,p,d,m,J,λv j b x r=>?_);rw[j5 g]at r;show(i,jX r,q j b x))
theorem bZ{lo B:xz bE}{j J:CO (xz Int)}(S:PV X a f)(Z:L2.PO X lo (tB X.K j))(U:L2.PO X B (tB X.K J)):PV X (.Subscript a (.Slice lo B af p2) pos) (rO f j J):=
 j3 (W2 Hb S Z U) λT H Q G=>by
  show aU λL=>?_;let(s,i,d,h,z,q):=G;let(O,C,z):=zc z;let(l,E,z):=zc z;let(u,F,z):=zc z;show L ?_;show(s,i,O,h,C,λv N e x r=>(e,i,l,h.ext x,E,λP y I=>(y,i,u,(h.ext x).ext I,F,λt A b=>?_)));have Y:=x.trans<|I.trans b;cases O with
  | tup R=>
   cases z;let(w,M,rfl,k,g):=kW<|r.mono (I.trans b).s0;show(w,M,rfl,gr b.sub k,λo=>?_,λp m=>q _ _ _ (Y.trans<|Ext.alloc b.sub m _)<|kX (ej.of zB)<|(iR g _ _).mono (jx (jl b.sub m) _))
   .rw[g.length]at o
    show q _ t A Y (by rw[Aq o];show kX k g)
  |_=>cases z
theorem WR{K:aO}{H:Hp}{j:zn D}{xs:zn V}(r:bz K H j xs):∀n,bz K H (cK n j).flatten (cK n xs).flatten
 |0=>bz.nil
 |n+1=>by show r.append<|WR r n
theorem kL(B:PQ X a fq)(S:PQ X b zia):PO X (.BinOp a .Add b pos) (wL fq zia):=
 j3 (Cp Cy B S) λN H Q Z=>by
  show aU λC=>?_;let(m,l,G,i,z,q):=Z;let((y,O),t,z):=zc z;let((A,Y),u,z):=zc z;show C ?_;cases y<;>cases A<;>try (simp at z;done)
  dsimp only at z;by_cases J:O.length+Y.length<=lim
  .rw[DJ J]at z;cases z
   show(m,l,.L,O,i,t,λo j E d f w K g=>(d,l,.L,Y,i.ext f,u,λr k F s I x M h=>(o,r,j,k,rfl,rfl,I.s1.seq w,x,vw (by rw[g.length,h.length];show J),λp e=>q p (j++k) _ s (f.trans<|I.trans<|Ext.hide I.sub e _) (xl (f.trans I).s1 e) (jl I.sub e) zB<|(g.mono I.s0).append h)))
  .rw[DY J]at z;cases z
theorem MY(B:PO X a gn)(S:PV X b g):PO X (.BinOp a .Mult b pos) (Hf (z7 gn) g):=
 j3 (Cp Nu B S) λP H Q Y=>by
  let(r,o,F,m,z,q):=Y;let((L,O),e,z):=zc z;let(E,Z,e):=zy e;cases e;let(j,f,z):=zc z;let(u,w,f):=zc f;dsimp only at z;by_cases J:O.length*j.toNat<=lim/\inR j=ae
  .rw[DJ J]at z;cases z
   show(r,o,O,m,Z,λs y A d i G K x k=>(d,o,u,m.ext i,w,λv C t I l=>?_));rw[j5 f]at l;let(M,N):=YH J.2;show(s,j,y,rfl,jX l,I.s1 _ _ x,(),(),vw (by rw[k.length];show J.1),λp h=>q p _ _ t (i.trans<|I.trans<|Ext.hide I.sub h _) (xl (i.trans I).s1 h) (jl I.sub h) zB<|(WR k _).mono I.s0)
  .rw[DY J]at z;cases z
theorem NI{K:aO}{t c:String}{b:Bool}(h:(if ((sA t) ==.type c) then aa ae else if PySem.W.kitMeta c then (fastBuiltinMro t).map (·.contains (.type c))else af)=aa b):nY K (.type t) (.type c)=aa b:=h
def DA:Ty->String
 |.int=>"int"
 |.bool=>"bool"
 |.str=>"str"
 |.tuple=>"tuple"
 |.list=>"list"
def NJ:D->String
 |.cI=>"NoneType"
 |.bl _=>"bool"
 |.int _=>"int"
 |.str _=>"str"
 |.tup _=>"tuple"
 |.lst _=>"list"
 |.exc _ _=>""
 |.gC _ _=>"dict"
 |.hO _ _=>"dict"
 |.ins _ _ _=>""
theorem yi{K:aO}(T)(d)(I:∀c n,d ≠ .exc c n)(j:∀c p t,d ≠ .ins c p t:=by intro _ _ _ z;show nomatch z):nY K (.type<|NJ d) (.type<|DA T)=aa (Bg T d):=by cases d<;>cases T<;>first|show absurd rfl (I _ _)|show absurd rfl (j _ _ _)|(dsimp?[NJ,DA,Bg,Fx,NT,Fv,Ft,Fw];show NI ())
theorem IE{K:aO}(b:dG K C):oO K C:=by erw[dG]at b;simp?[eH,beq_iff_eq]at b;show(b.1,b.2.1,b.2.2.1,b.2.2.2.1)
theorem Fz{K:aO}{a C j:ak}(b:dG K C)(e:H a=aa (.ins C j fs)):n6 K H (.ref a) (.ref C):=by have c:=IE b;erw[dG]at b;simp?[eH,beq_iff_eq]at b;let(q,q,q,q,d,f,g,h,q):=b;show .ins e c d f g h
theorem gJ{K:aO}{c:Str}{p t:D}(b:dG K C)(T):nY K (.ref C) (.type<|DA T)=aa (Bg T<|.ins c p t):=by
 erw[dG]at b;simp?[eH,beq_iff_eq,B1,List.all_nil]at b;let(q,q,q,q,q,q,q,q,a,d,e,f,g,q):=b;cases T
 .exact a
 .exact d
 .exact e
 .exact f
 .exact g
theorem CQ{j:TW}{σ H:Hp}{Q:EQ}{d:D}{x:V}{u:aN}(I:Inv X j U H s)(sub:dj σ H)(J:RelV x u)(r:Rep X.K σ d x)(T)
 (h:∀W,Q (.bool (Bg T d)) {s with toks:=W}):wpAny (aV X.prog X.w) A (call (.builtin "isinstance") [u,.type (DA T)]) Q E s:=by
 cases d with
 |cI=>cases r;cases J;show k6 _I I.df kA (yi (K:=X.K) T .cI<|λv v z=>nomatch z) (λz=>nomatch z) h
 |bl y=>cases r;cases J;show k6 _J I.df kA (yi (K:=X.K) T (.bl y)<|λv v z=>nomatch z) (λz=>nomatch z) h
 |int i=>cases r;let(t,q):=(J);cases q;show k6 _m I.df kA (yi (K:=X.K) T (.int i)<|λv v z=>nomatch z) (λz=>nomatch z) h
 |str y=>cases r;let(t,q):=(J);cases q;show k6 _l I.df kA (yi (K:=X.K) T (.str y)<|λv v z=>nomatch z) (λz=>nomatch z) h
 |tup k=>
  have e:=yi (K:=X.K) T (.tup k)<|λv v z=>nomatch z;let(a,F,rfl,b,f):=kW r;cases (show u=i3 a from J);let(Z,N,(o,O,l,v),L):=I.tuple<|gr sub b;show k6 _A I.df (o,O,l) e (λz=>nomatch z) h
 |lst k=>
  have e:=yi (K:=X.K) T (.lst k)<|λv v z=>nomatch z;let(a,F,rfl,b,f):=gz r;cases J;show aU λM=>?_;let(Z,N,p,L):=I.list<|sub.seq b;let(o,O,l,v):=p.isList;show M<|k6 Uq I.df (o,O,l) e (λz=>nomatch z) h
 | exc c n=>
  let(a,rfl,Y):=(r);cases J;let(C,φ,g1,g2,g3,v):=Y.ex;let(S,v,g,v,v):=Jb Y.all Y.mem g1;let(p,v,v):=(I.bQ a _<|sub _ _ g2);show k6 (au (Wu g)<|fw g) I.df (g3 _ p) (by
   erw[Bl]at g;simp?[eH,B1,List.all_nil,beq_iff_eq]at g;have t:=g.1.1.1.1.1.1.1.1.1.1;cases T
   .exact t.1
   .exact t.2.1
   .exact t.2.2.1
   .exact t.2.2.2.1
   .exact t.2.2.2.2.1) (λz=>nomatch z) h
 |gC m B=>
  let(a,F,rfl,(R,v,v,o,b),v):=(r);cases J;let(v,v,v,v,v,G):=(I.bQ a _<|sub _ _ b);show k6 Ex I.df G.typeIs (yi (K:=X.K) T (.gC m B)<|λv v z=>nomatch z) (λz=>nomatch z) h
 |hO m B=>
  let(a,F,rfl,(v,o,zs,b,f,v),v):=(r);cases J;let(O,v):=(I.bQ a _<|sub _ _ b);show k6 Ex I.df (o,O,f.1.1) (yi (K:=X.K) T (.hO m B)<|λv v z=>nomatch z) (λz=>nomatch z) h
 |ins c p t=>
  let(a,C,P,zlw,zlx,rfl,b,f,v,v):=(r);show zk3 I J (Fz (J1 b)<|sub _ _ f) (gJ (J1 b) T) h
theorem ML(T)(h:SX X sc N L k)(c:qz sc "isinstance" = ae)(z:X.mg "isinstance" = af)(j:qz sc ty)(U:X.mg ty=af)(S:pg ty=aa (.type (DA T)))(B:PV X a f)
 (hs:ck [a,.Name ty p2] ⋯=[(aF,bH a ⋯),(aF,bH (.Name ty p2) ⋯)]:=by rfl):PV X (.Call (.Name "isinstance" p) [a,.Name ty p2] [] pos) (z8 T f):=by
 rintro e s M H Q I ⟨l,G,d,C,Y,q⟩;let(O,t,w):=zy Y;subst w;show nW<|xo I (h.gl c).1 z Tc ?_ () ();show M7 ?_ (by rw[hs];rfl) rfl;rw[hs];show nj<|cy (B e s M H _ I (l,G,O,C,t,λv g b x r=>(show(λv g=>∃b,Ext l H b g/\Rep X.K b O v) v g from(b,x,r)))) λu P Z=>?_;show aU λy=>?_;let(x,m,J,A,i,o,E):=Z;show y ?_;show nj<|xo J (h.gl j).1 U S (sk<|CQ J o.sub A E T λF=>(.bl _,m,J.tok F,rfl,q _ m i o rfl)) (h.gl j).2.1 (h.gl j).2.2
end
section
variable{X:Cx}{sc:cS}{N L:zn Str}{k:Nat}{e a b c:bE}{pos p p2:cH}{f g:CO D}{fq:CO (Sk×zn D)}
theorem jZ(h:SX X sc N L k)(c:qz sc "range" = ae)(z:X.mg "range" = af)(j:PV X a f)(hs:ck [a] ⋯=[(aF,bH a ⋯)]:=by rfl):ed X tg (.Call (.Name "range" p) [a] [] pos) (jE f):=zi6 (h.gl c).1 z j hs
theorem lg(h:SX X sc N L k)(c:qz sc "range" = ae)(z:X.mg "range" = af)(j:PV X a f)(B:PV X b g)(hs:ck [a,b] ⋯=[(aF,bH a ⋯),(aF,bH b ⋯)]:=by rfl)(I:ck [b] ⋯=[(aF,bH b ⋯)]:=by rfl):
 ed X tg (.Call (.Name "range" p) [a,b] [] pos) (KN f g):=zi5 (h.gl c).1 z j B hs I
theorem w6(h:SX X sc N L k)(c:qz sc "zip" = ae)(z:X.mg "zip" = af)(j:PV X a f)(B:PV X b g)(hs:ck [a,b] ⋯=[(aF,bH a ⋯),(aF,bH b ⋯)]:=by rfl)(I:ck [b] ⋯=[(aF,bH b ⋯)]:=by rfl):
 ed X (.Tuple elts x1 oi) (.Call (.Name "zip" p) [a,b] [] pos) (WM f g):=HQ (h.gl c).1 z j B hs I
theorem zku(h:SX X sc N L k)(c:qz sc "isinstance" = ae)(z:X.mg "isinstance" = af)(j:qz sc "int" = ae)(H:X.mg "int" = af)(B:PV X a f)
 (hs:ck [a,.Name "int" p2] ⋯=[(aF,bH a ⋯),(aF,bH (.Name "int" p2) ⋯)]:=by rfl):PV X (.Call (.Name "isinstance" p) [a,.Name "int" p2] [] pos) (z8 .int f):=ML .int h c z j H S_ B hs
theorem ziX(h:SX X sc N L k)(c:qz sc "isinstance" = ae)(z:X.mg "isinstance" = af)(j:qz sc "bool" = ae)(H:X.mg "bool" = af)(B:PV X a f)
 (hs:ck [a,.Name "bool" p2] ⋯=[(aF,bH a ⋯),(aF,bH (.Name "bool" p2) ⋯)]:=by rfl):PV X (.Call (.Name "isinstance" p) [a,.Name "bool" p2] [] pos) (z8 .bool f):=ML .bool h c z j H PyProof.Rows.boot_bool B hs
theorem iU(B:PQ X a fq)(S:∀z,tu a ⋯ z=(do let v<-z;oX a.pos;ml [v] (A4 v)):=by intro _;rfl):gk X a (BH fq):=
 X5 (Cb B S) λu H Q I=>by
  show aU λJ=>?_;let(j,o,t,m,O,q):=I;let((h,b),k,l):=zy O;show J ?_;subst l;show(j,o,h,b,m,k,λp d i f ext g s r=>(!b.isEmpty,?_,q i f ext));have e:d.isEmpty=b.isEmpty:=by have:=r.length;cases d<;>cases b<;>simp_all
  rw[<-e];cases h with
  |L=>show .inl (d,g,rfl)
  |T=>show .inr<|.inl (d,g,rfl)
theorem KW(B:PV X a f):PV X (.UnaryOp .USub a pos) (eZ f):=
 j3 (RZ LX B) λm H Q z=>by let(h,l,d,k,I,q):=z;let(i,e,j):=zy I;let(J,O,e):=zc e;subst j;show(h,l,J,k,O,λv g b x r=>?_);rw[j5 e]at r;show(i,jX r,q _ g b x rfl)
theorem qH(i)(h:SX X sc N L k)(c:xy sc N i x)(j:PV X a f)(hs:ck [a] ⋯=[(aF,bH a ⋯)]:=by rfl)
 (z:ri (.Name x np) "append" ⋯ (bH (.Name x np) ⋯)=bH (.Name x np) ⋯:=by rfl)
 (I:((ft cpos<|starEach [a] ⋯).all (λx=> !x.1)&&(pf cpos<|keywordEach [] ⋯).all (λx=>x.1.isSome)
   &&decide ([a].length+([]:zn n5).length+(if ([]:zn n5).isEmpty then 0 else 1)<30)):=by rfl)
 (J:(apos.endLine==cpos.line):=by rfl) (O:hU (.Call (.Attribute (.Name x np) "append" apos) [a] [] cpos) af pos.line ⋯=pure aF:=by rfl):
 fH X (.Expr (.Call (.Attribute (.Name x np) "append" apos) [a] [] cpos) pos) (jQ i f):=
 zi1 i (nV T_ PySem.F.slot_list_append PySem.F.type_list_append zll (h.var c) (zX j jG hs) z I J hs rfl) O
theorem jI(i){st:de}{f:CO (zn D)}(h:PS X st (WH (tO X.K f)<|yY i)):fH X st (jT i<|j7 f):=kj h λD w H I=>by let(E0,E,j,p,t,e,z,J):=I;let(d,b,z):=zy z;let(l,O,b):=zy b;subst z b;show(j,p,l,e.rc,O,λa u s k x m g o r=>J _ _ _<|(e.step<|x.show m g o e.rc.sub).mT (KQ (dY.of zB)<|r.mono<|jx g _))
theorem psc(i)(h:SX X sc N L k)(c:yc sc N L i y)
 (H:X.calm) (ok:mQ X scope fr) (z:∀i∈T.idx,i<pT own) (O:m2 X tg iter src) (I:∀fp B j,PG (jt X scope (own++fr.map (·.1)) fp B j) tg<|il X.K T)
 (J:∀fp B j,PV (jt X scope (own++fr.map (·.1)) fp B j) elt f) (hs:∀x,ij iter ⋯ x=pure x:=by intro _;rfl):
 PS X (.Assign [.Name y py] (.ListComp elt [(tg,iter,[],0)] scope cpos) spos) (WH (tO X.K<|zL src T (pT own) (fr.map (·.2)) jh f)<|yY i):=by
 let(a,b,d):=h.loc c;show Ci h.tG a b d H ok z O I J hs
theorem RX(i)(h:SX X sc N L k)(c:yc sc N L i y)
 (H:X.calm) (ok:mQ X scope fr) (z:∀i∈T.idx,i<pT own) (S:m2 X tg iter src) (I:∀fp B j,PG (jt X scope (own++fr.map (·.1)) fp B j) tg<|il X.K T)
 (J:∀fp B j,gk (jt X scope (own++fr.map (·.1)) fp B j) y0 kk) (O:∀fp B j,PV (jt X scope (own++fr.map (·.1)) fp B j) elt f) (hs:∀x,ij iter ⋯ x=pure x:=by intro _;rfl):
 PS X (.Assign [.Name y py] (.ListComp elt [(tg,iter,[y0],0)] scope cpos) spos) (WH (tO X.K<|zL src T (pT own) (fr.map (·.2)) kk f)<|yY i):=by
 let(a,b,d):=h.loc c;show zi2 h.tG a b d H ok z S I J O hs
theorem K6(i:Nat)(h:SX X sc N L k)(c:xy sc N i x=ae)(W:PV X b g)(σ:PV X e f)
 (S:∀v,pb (.Subscript (.Name x np) b p) ⋯ v=(do
   let I<-ml [v] (bH (.Name x np) ⋯);let O<-ml [v,I] (bH b ⋯)
   oX p
   ml [v,I,O] (R8 I O v)
   release [v,I,O] []):=by intro _;rfl)
 (hs:L6 [.Subscript (.Name x np) b p] e pos.line ⋯=pure aF:=by rfl) (hw:SK [.Subscript (.Name x np) b p] e ⋯=pure af:=by rfl)
 (B:(pe [.Subscript (.Name x np) b p] ⋯).map (·.2)=[pb (.Subscript (.Name x np) b p) ⋯]:=by rfl):
 fH X (.Assign [.Subscript (.Name x np) b p] e pos) (iK i g f):=
 kj (cp σ (Fh (h.var c) W iH S) hs hw B) λD U H Q=>by show aU λR=>?_;let(E0,E,w,u,fl,t,z,y):=Q;let(d,G,z):=zc z;let(F,l,z):=zc z;let(T,Y,z):=zc z;let(C,K,Y):=zc Y;let(j,M,z):=zy z;show R ?_;subst z;have l:=vd l;show(w,u,d,t.rc,G,λv H' m x r=>?_);have Z:=t.step x;let(a,xs,B,h2,P,o):=Z.rc.own i F l;show(_,B,m,u,C,Z.rc,K,λv2 H2 A J s=>?_);rw[j5 Y]at s;show(a,xs,T,j,rfl,jX s,J.s1 _ _ P,by rw[o.length];show lL M,y _ _ A<|(Z.step J).rewrite (xs:=xs) l B ((o.mono J.s0).set j (r.mono J.s0)))
theorem WV(I:PG X tg (il X.K T))(S:PV X e f)(hs:L6 [tg] e pos.line ⋯=pure aF:=by rfl)(U:SK [tg] e ⋯=pure af:=by rfl)
 (B:(pe [tg] ⋯).map (·.2)=[pb tg ⋯]:=by rfl):fH X (.Assign [tg] e pos) (BI T f):=
 kj (cp S I hs U B) λD o H J=>by let(E0,E,h,k,m,b,z,O):=J;let(d,i,z):=zc z;let(l,j,z):=zy z;subst z;show(h,k,d,b.rc,i,λv g a x r=>vP x.sub r j λY q Z=>O Y g a<|Z E0 E<|b.step x)
end
structure cL(P:cQ)(w:cN)(K:aO)(mg:DZ)(base:bN)(k:Nat)(x:Str)(n:Nat)(F:List D->Option Res):Prop where
 ex:∃(f:ak) (fd:gh) (ps:List Str),ps.length=n/\↑fh gx k f fd ps (l5 K ps.length F)/\mg x=aa (.ref f)/\mV K (.ref f)=ae/\Binds K fd ps []
structure cJ(K:aO)(mg:DZ)(x:Str)(st:de)(ps:List Str):Prop where
 ex:∃(f:ak) (fd:gh),L2.i5 K x x st f fd/\(∀us:List aN,us.length=ps.length->yg fd (us,[])=pure (ps.zip us))/\mg x=aa (.ref f)
def i6(X:Cx)(e:zn bE)(n:Nat)(g:CO (zn D)):Prop:=q8 X e g/\∀b a,g b=aa a->a.length=n
section
variable{X:Cx}{sc:cS}{N L:zn Str}{k:Nat}{e:bE}{es:zn bE}{f:CO D}{g:CO (zn D)}{n:Nat}{pos p:cH}{x:Str}
theorem zo:i6 X [] 0 zA:=(zW,λb a h=>by cases h;rfl)
theorem zb(j:PV X e f)(z:i6 X es n g)(hs:ck (e::es) ⋯=(aF,bH e ⋯)::ck es ⋯:=by rfl):i6 X (e::es) (n+1) (za f g):=
 (zg j z.1 hs,λb d h=>by let(y,i,h):=zc h;let(r,a,h):=zy h;subst h;rw[ng,z.2 b r a])
variable{j:Nat}{F:zn D->xz Res}
theorem HA(S:⇑cL j x n F)(z:j<=k)(h:SX X sc N L k)(c:qz sc x)(B:i6 X (e::es) n g)
 (H:ck (e::es) ⋯=(aF,bH e ⋯)::ck es ⋯:=by rfl) (I:(ft pos<|starEach es ⋯).any (·.1)=aF:=by rfl):PV X (.Call (.Name x p) (e::es) [] pos) (zD F g):=by
 let(f,i,l,d,G,b,J,a):=S.ex;subst d;show HB (A0:=[]) G B.1 B.2 λ{t} O=>Yd G (h.room.mono z) (h.gl c).1 b J a .nil gd O (h.gl c).2.2 H I
theorem RY(S:⇑cL j x n F)(z:j<=k)(h:SX X sc N L k)(c:qz sc x)(B:i6 X (e::es) n g)
 (H:ck (e::es) ⋯=(aF,bH e ⋯)::ck es ⋯:=by rfl) (I:(ft pos<|starEach es ⋯).any (·.1)=aF:=by rfl):PO X (.Call (.Name x p) (e::es) [] pos) (jA F g):=by
 let(f,i,l,d,G,b,J,a):=S.ex;subst d;show HN G B.1 B.2 λ{t} O=>Yd G (h.room.mono z) (h.gl c).1 b J a .nil gd O (h.gl c).2.2 H I
end
section
variable{P:cQ}{w:cN}{K:aO}{mg:DZ}{base:bN}
def Zp(N ps:zn Str)(st:de):Bool:=
 decide ((zR st).kind=.function)&&decide ((zR st).isCoroutine=aF)&&decide ((zR st).isGenerator=aF)&&decide N.Nodup&&decide (N.take ps.length=ps)&&
 ps.all (λx=>decide ((zR st).names.lookup x=aa .local) || decide ((zR st).names.lookup x=aa .cell))&&(zR st).names.all (λy=> !(y.2==oj))
theorem kz{N ps:zn Str}{st:de}(h:Zp N ps st):wy N ps (zR st):=by erw[Zp]at h;simp?[eH,decide_eq_true_eq,k4,t4,t8]at h;let((((((a,b),d),f),g),i),j):=h;show(a,b,d,f,g,i,λy z e=>by have:=j y z;rw[e]at this;show absurd this ())
theorem lr{X:Cx}(z:X.xe=λq q=>False):F5 (aV X.prog X.w) X.A ⋯ X.xe:=by rw[z];show PassesOwn.never
theorem Uh{st:de}(A:cJ K mg x st ps)(j:Zp N ps st=ae)
 (I:∀X,X.prog=P->X.w=w->X.K=K->X.mg=mg->X.base=base->SX X (zR st) N N k->X.xe=(λq q=>False)->eM X (jL st) F):
 cL P w K mg base (k+1) x (pT ps) (jq (pT N) F):=by
 let(f,d,z,e,g):=A.ex;have S:=kz j;show(f,d,ps,rfl,Oc z S λb A a s H E J=>I _ rfl rfl rfl rfl rfl (rfl,rfl,S.nd,rfl,J,λq q=>.inl rfl) rfl,g,z.kp,.all e)
theorem Uk{st:de}{od B:xz ak}{I:Array (xz aN)}{kV j H e ct:aN}(z:K.In h)(G:h.Ns gp mg)
 (a:oL K gp x=aa (aa (.ref f))) (l:K.lookup f=aa (O,od,.func<|ox x x (ya st) (jL st) (zR st) .none kV j H B e ct,I))
 (c:B4 K e x) (J:mV K (.ref f))
 (b:∀kV j H B e ct us,pT us=pT ps->yg (ox x x (ya st) (jL st) (zR st) .none kV j H B e ct) (us,[])=pure (ps.zip us)):cJ K mg x st ps:=
 (f,_,lR l c J,b kV j H B e ct,sf z G a)
theorem Sz{st:de}{F:CO Fl}(z:L2.i5 K x x st f e)(j:Zp N ps st)
 (I:∀X,X.prog=P->X.w=w->X.K=K->X.mg=mg->X.base=base->SX X (zR st) N N k->X.xe=(λq q=>False)->eM X (jL st) F):
 fh P w K mg base gx (k+1) f e ps (l5 K (pT ps)<|jq (pT N) F):=by
 have S:=kz j;show Oc z S λb A a s H E J=>I _ rfl rfl rfl rfl rfl (rfl,rfl,S.nd,rfl,J,λq q=>.inl rfl) rfl
theorem Po{e:zn Int}(z:dY K H a (e.map V.int))(I:F [.lst (e.map D.int)]=aa (.val<|.bl ae)):
 l5 K 1 F [.ref a] H (λv q=>v=.bl ae) λq q q=>False:=by
 show(H,_,_,dj.refl _,bz.cons (KQ z ?_) bz.nil,rfl,I,λv d b q r=>r);clear I z
 induction e with
 |nil=>rfl
 |cons n e J=>show bz.cons rfl J
end
open PySem.W (KasT kas_sort kas_ask kat_run kat_snds kat_lt kat_cons kat_no kat_kind KatTups KatGo)
def OD(h:bN)(v:aN)(k:Int):Prop:=∃x o a m t,v=.ref x/\h.get? x=aa o/\o.cls=.type "tuple"/\o.data=.seq a m/\a[0]? = aa (.int k t)
theorem uB:∀{vs:zn aN} {e:Nat->Int},(∀i j,OD h vs[i] (e i))->∃fs,KatTups h vs fs/\(pT fs)=pT vs/\∀f∈fs,∃k t,f=vu k t
 |[],e,_=>([],KatTups.nil,rfl,λf hf=>by cases hf)
 | v::vs,e,H=>by
  let(fs,d,g,l):=uB λi j=>H (i+1) (~~~j);let(x,o,p,m,t,a,b,z,I,J):=H 0 ();subst a;show(_,KatTups.cons b z I J d,by simp[g],λf hf=>by
   rcases d8.mp hf with rfl|hf
   .exact(_,_,rfl)
   .exact l f hf)
open AutoSeq1 (wpAny_loadPart')
theorem Ke:fillsNumberSlot (.type "tuple") "mul" = pure aF:=
 PySem.fillsNumberSlot_seq Ov.lookup () F.slot_tuple_rmul.lookup ()
theorem zgV:seqRepeat? (.type "tuple")=pure (aa (.builtin "tuple.__mul__")):=by erw[seqRepeat?];rw[PySem.seqSlot_of (name:="__mul__") Ov.lookup (),PySem.seqSlot_of (name:="__rmul__") F.slot_tuple_rmul.lookup ()];rfl
theorem Vu(a)(t)(l)(e)(n)(dd)(j):
 C4 (Builtin.«int.__rmul__» ([.int a t,.ref l],[])) (λq R s=>s.heap.get? l=aa {cls:=.type "tuple",dict:=dd,data:=.seq e n,slots:=j}/\R (.ok (.ret Value.notImplemented)) s):=
 .of_wp λb w A R s h=>by let(f,g,d,i,os):=s;let(z,h):=h;wp_walk;show(_,rfl,h)
theorem WC(a:Int)(t:l0)(l)(e)(n)(dd)(S:Array (xz aN))(j:¬(decide (a < -(2^63)) || decide (a>=2^63)))(B:¬(e.isEmpty || a==1))
 (H:¬(decide (a<=0) || e.isEmpty)) (J:¬((e.size)*a>(2^63-1)/8)) (O:¬Builtin.Tuple.tupleTooMany ((e.size)*a)) (I:((cK a.toNat e).foldl (· ++ ·) #[]).size<=cP):
 C4 (Builtin.«tuple.__mul__» ([.ref l,.int a t],[])) (λq R s=>s.heap.get? l=aa {cls:=.type "tuple",dict:=dd,data:=.seq e n,slots:=S}/\
  R (.ok (.ret (.ref ↥s))) {s with heap:=s.heap.push {cls:=.type "tuple",data:=.seq ((cK a.toNat e).foldl (· ++ ·) #[])}}):=
 .of_wp λb w A R s h=>by
  let(f,g,d,i,os):=s;let(z,h):=h
  wp_walk using D0 z
  rw[DY j];show aL<|N7 (_,z,rfl,n,rfl) ?_;dsimp only;rw[DY B,DY H,DY J,DY O];show aL<|nq (bW (_,rfl,h)) I
theorem Vn(a)(t)(l)(e)(n)(dd)(I)(j:¬(decide (a < -(2^63)) || decide (a>=2^63)))(B:¬(e.isEmpty || a==1))
 (H:(decide (a<=0) || e.isEmpty)):
 C4 (Builtin.«tuple.__mul__» ([.ref l,.int a t],[])) (λq R s=>s.heap.get? l=aa {cls:=.type "tuple",dict:=dd,data:=.seq e n,slots:=I}/\
  R (.ok (.ret (.ref ↥s))) {s with heap:=s.heap.push {cls:=.type "tuple",data:=.seq #[]}}):=
 .of_wp λb w A R s h=>by
  let(f,g,d,i,os):=s;let(z,h):=h
  wp_walk using D0 z
  rw[DY j];show aL<|N7 (_,z,rfl,n,rfl) ?_;dsimp only;rw[DY B,DJ H];show aL<|nq (bW (_,rfl,h))<|g8 _
theorem Vm(a)(t)(l)(e)(n)(dd)(H)(j:¬(decide (a < -(2^63)) || decide (a>=2^63)))(B:(e.isEmpty || a==1)):
 C4 (Builtin.«tuple.__mul__» ([.ref l,.int a t],[])) (λq R s=>s.heap.get? l=aa {cls:=.type "tuple",dict:=dd,data:=.seq e n,slots:=H}/\R (.ok (.ret (.ref l))) s):=
 .of_wp λb w A R s h=>by
  let(f,g,d,i,os):=s;let(z,h):=h
  wp_walk using D0 z
  rw[DY j];show aL<|N7 (_,z,rfl,n,rfl) ?_;dsimp only;rw[DJ B];show aL ?_;erw[Builtin.Tuple.tupleIsExact];show aL<|uf (_,z,rfl)<|bW ?_;rw[DJ ()];show aL<|q0<|bW (_,rfl,h)
section
variable{X:Cx}
def MF(K:aO):R2:=λx y H Q=>∃l k a,x=.ref l/\y=.int k/\ej K H l a/\ -(2^62)<=k/\k<2^62/\a.length*k.toNat<=cP/\(a=[]\/k=1->Q (.ref l) H)/\
 ∀p,H p=af->Q (.ref p) (upd H p<|.tup (cK k.toNat a).flatten)
theorem Ia:eI X (n9 .Mult) (MF X.K):=by
 intro g s U H x y v u Q I G L h;let(l,k,S,rfl,rfl,w,P,R,O,E,Y):=h;cases G;show aU λB=>?_;let(t,rfl):=L;let(J,r,A,T):=I.tuple w;let((o,a,d,b),z,e,n,f):=id A;show B ?_;simp only at e f;subst e f;have i:=r.length;have g1:¬(decide (k < -(2^63)) || decide (k>=2^63)):=()
 show zlC () (_,z,rfl) (λM=>O2 M k t) Ke F.fills_int_mul U1 zgV F.slot_int_index.lookup
  (nZ U1 (O2 s k t) F.entry_int_rmul (F.args_int_rmul_2 _ _) (Vu k t l J.toArray n a b) (z,rfl,(_,z,rfl),?_))
 have Z:=λm=>by have:=YL J m [];rw[Ts]at this;show this
 by_cases g2:(J.toArray.isEmpty || k==1)
 .refine nZ Ov (_,z,rfl) _c (_u _ _) (Vm k t l J.toArray n a b g1 g2) (z,(.ref l,H,I,rfl,E ?_))
  grind
 .have j:=g2
  simp?[t4,not_or]at j;by_cases g3:(decide (k<=0) || J.toArray.isEmpty)
  .have p:k.toNat=0:=by
    lia
   show nZ Ov (_,z,rfl) _c (_u _ _) (Vn k t l J.toArray n a b g1 g2 g3) (z,?_);show(.ref _,_,I.laid (λc C q=>cW _ q) (cV _) ?_,rfl,Y _<|I.bQ.fresh<|cV _);rw[p];show(g8 _,[],.nil,oP.new _ _)
  .have ad:((J.toArray.size:Nat))*k<=cP:=by
    grind
   have N:=mv;show nZ Ov (_,z,rfl) _c (_u _ _) (WC k t l J.toArray n a b g1 g2 g3 () (by erw[Builtin.Tuple.tupleTooMany];lia) (by
    rw[Z,eW,gA,Nat.mul_comm];show(by rw[<-i];show O))) (z,?_)
   rw[Z];show(.ref _,_,I.laid (λc C q=>cW _ q) (cV _) ?_,rfl,Y _<|I.bQ.fresh<|cV _);show(by rw[gA,Nat.mul_comm];show O,_,r.rep k.toNat,oP.new _ _)
set_option tactic.hygienic true in
theorem GW{K:aO}:ig K (λx y H Q=>rI wh (λi j=>.int (i*j)) x y H Q\/MF K x y H Q) wM:=λf H x y r t d Q s I J z q=>by
 erw[wM]at z;split at z
 .split at z<;>cases z
  show .inl (_,_,jX I,jX J,Ez ‹_›,q _ H f (Ext.refl s) rfl)
 .rename_i o j
  split at z<;>cases z
  rename_i O
  let(Y,Z):=O;let(a,m,rfl,h,b):=kW I;let(k,l):=YH Z;show .inr (a,j,m,rfl,jX J,gr s h,k,l,vw (by rw[b.length];show Y),λe=>?_,λp g=>q _ _ _ (Ext.alloc s g _)<|kX (ej.of zB)<|(WR b _).mono (jx (jl s g) _))
  .refine q _ H f (Ext.refl s) ?_
   rcases e with e|e
   .have u:=by
     have:=b.length;rw[e]at this;show va this.symm
    simp_all
   simp_all
 .cases z
theorem xI(e:PV X a fa)(j:PV X b fb):PV X (.BinOp a .Mult b pos) (zF wM fa fb):=VX (zjO.or Ia) GW e j
end
theorem RC.zix{K:aO}{S H:Hp}{U:St}{M:Ctx}{a:ak}{xs:zn V}(r:RC K S H U M)(e:M[i]? = aa (.own B))(W:U[i]? = aa (aa (.ref a)))(σ:S a=af)(h3:H a=aa (.lst xs))(h4:bz K S B xs):RC K (L2.upd S a<|.lst xs) H U (M.set i<|.val<|.lst B):=by
 show(λb o q=>?_,by simp[r.len],λj d g=>?_,λj p g=>?_,λj k b p fs f h Y Z=>?_,(λj l g=>?_,λj k w x f h=>?_))
 .by_cases z:b=a
  .subst z;rw[zB]at q;rw[h3];show q
  .rw[zC z]at q;show r.sub b o q
 .rcases zI g with⟨rfl,z,C⟩|⟨I,z⟩
  .cases z;show(_,W,KQ (dY.of zB)<|h4.mono<|jx σ _)
  .let(v,g1,g2):=r.val j d z
   show(v,g1,g2.mono<|jx σ _)
 .rcases zI g with⟨_,z,_⟩|⟨I,z⟩
  .cases z
  .let(b,y,g1,g2,g3,u):=r.own j p z
   show(b,y,g1,?_,g3,u.mono<|jx σ _);rw[zC (λq=>I<|r.ne j i a p B z e (by rw[g1,q]) W)];show g2
 .rcases zI f with⟨_,z,_⟩|⟨I,m⟩
  .cases z
  .rcases zI h with⟨_,z,_⟩|⟨A,t⟩
   .cases z
   .exact r.ne j k b p fs m t Y Z
 .rcases zI g with⟨_,z,_⟩|⟨I,z⟩
  .cases z
  .let(b,bs,f1,J,O):=r.ip.1 j l z
   show(b,bs,f1,J.move (jx σ _) (λc s=>by rw[zC (λq=>(O i B a e W)<|by rw[<-q];show s)];show(J.at s).1)<|λc s=>rfl,λk fs c f h=>?_);rcases zI f with⟨_,z,_⟩|⟨_,m⟩
   .cases z
   .exact O k fs c m h
 .rcases zI f with⟨_,z,_⟩|⟨_,m⟩
  .cases z
  .rcases zI h with⟨_,z,_⟩|⟨_,t⟩
   .cases z
   .exact r.ip.2 j k w x m t
end DL
namespace L2
open PySem PySem.Spec PyProof.Rows
open AutoSeq1 (wpAny_loadPart')
section
variable{prog:cQ}{w:cN}{A:ec}{E:EQ}{s:bB}
theorem zjC{n:Nat}{Q:EQ}(Z:uo s.heap z j n H)(U:hI .T s.heap j l n)(hl:lT .T s.heap l xs)(hx:xs[n]? = aa x)(I:z≠j)
 (W:∀g,IsEnumOut g z j (n+1) x ↥s->hI .T g j l (n+1)->nK g ↥s (.int n s.toks) x->g.objs.size=↥s+1->
   (∀c o,c≠z->c≠j->s.heap.get? c=aa o->g.get? c=aa o)->Q (.ref ↥s) {s with heap:=g,toks:=s.toks+1}):
 wpAny (aV prog w) A (Builtin.«enumerate.__next__» ([.ref z],[])) (λS s'=>∃v,S=.done (.ret v)/\Q v s') E s:=by
 show aL (m:=field (.ref z) 2) (gv Z rfl rfl ?_);show aL (JX U hl hx λg1 L f=>?_);have h:=f.extBut _ _ I Z;show aL (gv h rfl rfl ?_);show aL (gv h rfl rfl ?_);show aL (wpAny_mkInt ?_);show aL (oF h () λg2 d i=>?_);replace d:=d;show aL (oF d () λg3 k p=>?_);replace k:=k;show aL (Uw ?_);have J:uo (g3.push {cls:=.type "tuple",data:=.seq #[.int n s.toks,x]}) z j (n+1) H:=cW _ k;generalize O:g3.push _=Y at J;have b:g3.objs.size=↥s:=by rw[(p.1),i.1,(f.1)]
 have X:Y.objs.size=↥s+1:=by rw[<-O,l6,b]
 have M:hI .T Y j l (n+1):=L.at λo e=>by rw[<-O];show cW _<|p.extBut _ _ I.symm<|i.extBut _ _ I.symm e
 show aL ?_;erw[O_];show aL<|gv J rfl rfl<|bW ?_;simp?[if_true];show aL<|q0<|aL<|gv J rfl rfl ?_;show aL<|oF J () λg5 r F=>?_;replace r:=r;rw[b];show aL ?_;erw[zen];show aL<|oF r () λg6 t G=>?_;replace t:=t;show oF t () λB u K=>?_;replace u:=u;have C c o:c≠z->Y.get? c=aa o->B.get? c=aa o:=λa e=>K.extBut _ _ a<|G.extBut _ _ a<|F.extBut _ _ a e;have y7:B.objs.size=↥s+1:=by have N:=F.1;have P:=G.1;have R:=K.1;simp?[R,P,N,X]
 show aL (OS (bW (_,rfl,W B u (M.at λo e=>C _ o I.symm e) (C _ _ (n3<|ei Z) (by
  change Y.get? _=_;rw[<-O,<-b];show f9 _ rfl)) y7 λc o a y e=>C c o a ((λc o a y e=>by
  rw[<-O];show cW _<|p.extBut _ _ a<|i.extBut _ _ a<|f.extBut _ _ y e) c o a y e))))
theorem Ad{n:Nat}(J:A.handled=af)(O:uo s.heap z j n I)(B:hI .T s.heap j l n)(Y:lT .T s.heap l xs)(Z:xs[n]? = af)
 (H:∀g e,Heap.ExtBut j s.heap g->(∃o,g.get? e=aa o/\o.cls=.type "StopIteration")->E (.ref e) {s with heap:=g}):
 wpAny (aV prog w) A (Builtin.«enumerate.__next__» ([.ref z],[])) Q E s:=
 aL (m:=field (.ref z) 2) (gv O rfl rfl<|aL<|ai J B Y Z H)
end
def IL(i:ak):e9:={cls:=.type "enumerate",data:=.fields #[.none,.bool aF,.ref i,zz 0,.none,.none]}
def FL(h:bN)(l:ak):bN:=gW (gW h<|i7 .T l)<|IL h.objs.size
set_option tactic.hygienic true in
theorem Ac(l)(xs):
 C4 (Builtin.«enumerate.__new__» ([.type "enumerate",.ref l],[])) (λq R s=>lT .T s.heap l xs/\R (.ok (.ret (.ref (↥s+1)))) {s with heap:=FL s.heap l}):=
 .of_wp λe w A R s h=>by
  show aU λJ=>?_;let(i,g,d,k,os):=s;let(O,h):=h;have Y:=sub_enumerate;have z:Heap.IsTuple _ l xs:=O;let(o,I,a,m,b):=id z;let(f,hO,Z,j):=o;show J ?_;simp only at a b;subst a b;simp?[FL,IL,i7,l6]at h
  wp_walk using D0 I
  show wpAny_stack_any λst=>bW ?_;split
  .rename_i c _ _ _ _ _
   cases (c==_)<;>(wp_walk using D0 I,T4 z;show(_,rfl,by simpa[l6,zep]using h))
  .wp_walk using D0 I,T4 z
   show(_,rfl,by simpa[l6,zep]using h)
def O8(K:aO)(a:ak):It:=
 (λi H=>∃b,gM .T K H a b/\i<b.length,
  λi H x d=>∃p u,x=.ref p/\H p=af/\d=upd H p (.tup [.int i,u])/\(∀b,gM .T K H a b->b[i]? = aa u),
  λi H=>∃b,gM .T K H a b/\b.length<=i)
theorem vL(J:uo s.heap z it n old)(h:Q (.ref z) s):wpAny (aV prog w) A (zv (.ref z)) Q E s:=by have I:s.TypeIs (.ref z) "enumerate":=(_,J,rfl);show zlI I F.slot_enumerate_iter (om F.slot_enumerate_iter I F.entry_enumerate_iter (bW (_,rfl,"enumerate",_,I,N3.lookup,h)) (F.args_enumerate_iter_1 _))
theorem zj2{w:cN}{K:aO}{x1:Nat}{z it a:ak}(ad:z≠it):
 Turn P w K (.Tuple elts x1 oi) (O8 K a) [z,it] z (λi h=>(∃Y,uo h z it i Y)/\hI .T h it a i) where
 mem:=by simp
 obj:=λi h ((Y,J),h1) y hy=>by
  simp?[d8,i9,or_false]at hy;rcases hy with rfl|rfl
  .exact(_,J,λv q=>by cases q)
  .exact h1.obj
 keep:=λi h h' ((Y,J),h1) k=>((Y,k z () _ J),h1.at λo e=>k it () o e)
 item:=by
  rintro X hP hw hK hc i pins s U H E I hf ⟨⟨Y,J⟩,h1⟩ ⟨xs,a6,an⟩;subst hP hw hK;let(ao,a9,p1,z1):=I.sq a6;have hx:xs[i]? = aa xs[i]:=eO an;let(u1,ap,as):=a9.get hx;have Z:s.TypeIs (.ref z) "enumerate":=(_,J,rfl);erw[oU];show aL (oK (se (name:=fR "__next__") Z N3 (om N3 Z F.entry_enumerate_next
   (zjC J h1 p1 (x:=u1) (~~~ap) ad λg a1 a2 a3 a4 a5=>bW (_,rfl,?_)) (F.args_enumerate_next_1 _))))
  show zlG a1 λg2 pD ac=>?_;have lt:∀{c o},s.heap.get? c=aa o->↥s≠c:=λe=>n3<|ei e;have b1:nK g2 ↥s (.int i s.toks) u1:=ac.extBut _ _ (lt J) a3;have kk O u:O ∉ [z,it]->s.heap.get? O=aa u->g2.get? O=aa u:=λhb e=>by simp?[d8,i9,or_false,not_or]at hb;show ac.extBut _ _ hb.1<|a5 O u hb.1 hb.2 e
  have I1:Inv X pins U (upd H ↥s<|.tup [.int i,xs[i]]) {s with heap:=g2,toks:=s.toks+1}:=
   I.SY (fp:=[z,it]) kk hf (cV _) (by change 2<=cP;decide,[.int i s.toks,u1],.cons (_,rfl)<|.cons as .nil,(_,b1,rfl,_,rfl))
  have b3:H ↥s=af:=I.fresh;show(.ref ↥s,_,I1,rfl,(_,_,rfl,b3,rfl,λbb b4=>by rw[I.SH b4 a6];show hx),?_,λO hb=>?_)
  .exact((_,by have:=pD;rwa [show((i:Int)+1)=((i+1:Nat):Int)by lia]at this),a2.at λo e=>ac.extBut _ _ ad.symm e)
  .have b5:O≠↥s:=by
    simp?[d8,i9,or_false]at hb;rcases hb with rfl|rfl
    .exact(lt J).symm
    .let(o,e,_):=h1.obj;show(lt e).symm
   rw[zC b5];show(hf O hb).1
 done:=by
  rintro X hP hw hK hc i pins s U H E I hf ⟨⟨Y,J⟩,h1⟩ ⟨xs,a6,hi⟩;subst hP hw hK;let(ao,a9,p1,z1):=I.sq a6;have Z:s.TypeIs (.ref z) "enumerate":=(_,J,rfl);have l1:=a9.length;erw[oU];show aL (oK (se (name:=fR "__next__") Z N3 (om N3 Z F.entry_enumerate_next
   (Ad (show X.A.handled=af from I.ok.hd hc) J h1 p1 (by simp;lia) λg e hk he=>?_) (F.args_enumerate_next_1 _))))
  let(o,ho,b8):=he;show aL (Oz (T:="StopIteration") (b:=ae) (o,ho,b8) s_ (bW (rfl,?_)));show I.sd (t':=s.toks) (fp:=[z,it]) (λO u hb e=>?_) hf;simp?[d8,i9,or_false,not_or]at hb;show hk O u hb.2 e
 self:=λm m m m m st h=>vL st.1.choose_spec h
def Ss(K:aO)(e:TA):TI:=λg H R=>e g H λd b=>∃a,d=[.ref a]/\(∃f,gM .T K b a f)/\R (O8 K a) b
theorem HU{S:bE}{U:TA}{B:cH}(Y:Gl X "enumerate")(hm:X.mg "enumerate" = af)(W:PA X [S] U)
 (Z:pg "enumerate" = aa (.type "enumerate")) (hs:ck [S] ⋯=[(aF,bH S ⋯)]:=by rfl):
 PI X (.Tuple j x1 B) (.Call (.Name "enumerate" p) [S] [] pos) (Ss X.K U):=by
 intro b s y H R I h;show uh<|xo I Y hm Z<|pP (cy (W pos b s y H _ I h) λC d r=>?_) (by rw[hs];rfl) rfl;show aU λt=>?_;let(E,g,z,x,w):=r;let(a,e,(L,i),q):=w;subst e;let(G,m,k):=kg x;show t ?_;subst m;cases k;let(l,A,u,M):=z.sq i;show callType_new F.called_enumerate () (F.typeCall_enumerate_1 _) (F.newCall_enumerate_1 _) (λobj=>_L obj _) F.entry_enumerate_new (Ac a l.toArray) (u,?_);have J:=by have q:=f9 (gW d.heap<|i7 .T a) (o:=IL ↥d) rfl;rw[(l6 ..)]at q;show q
 show((_,J,rfl),vL J ?_);show(_,_,_,_,g,rfl,z.kept<|λc o e=>cW _<|cW _ e,zj2<|n3<|oY _,((_,J),(V9 .T d.heap a).at λo e=>cW _ e),λc f=>?_,q);have O:↥d<=c:=by
  simp?[d8,i9,or_false]at f;rcases f with rfl|rfl
  .exact nh _ _
  .exact cV _
 show z.oC O<|z.bQ.fresh O
end L2
namespace DL
open PySem PySem.Spec PyProof.Rows L2
theorem YE{K:aO}:∀{j}{xs}{l},bz K H j xs->gG j=aa l->xs=l.map V.int
 |[],xs,l,r,e=>by cases e;rw[r];rfl
 | d::j,xs,l,r,e=>by
  let(x,h,rfl,b,f):=(r);cases d with
  |int i=>
   let(g,a,rfl):=zy e;rw[YE f a,b];rfl
  |_=>cases e
theorem YM:∀l:zn Int,(l.map V.int).all Vx
 |[]=>rfl
 |i::l=>by simp?[kT,B1,YM l,Bool.and_true];rfl
theorem gK(i):∀l:zn Int,pG (.int i) (l.map V.int)=decide (i∈l)
 |[]=>rfl
 |j::l=>by
  have z:=gK i l;erw[pG]at z ⊢;have e:ro (.int j) (.int i)=(j==i):=rfl
  grind
theorem zjW{K:aO}{j B:Hp}{a:ak}{xs:zn V}{e:zn D}(h:ej K B a xs)(r:bz K j e xs):Walk K j B (O8 K a) (xF e):=by
 have O:=r.length;have Y:(xF e).length=e.length:=by simp[xF]
 show(λi b s w=>(xs,gr s h,()),λb s=>(xs,gr s h,()),λi b x l s w y=>?_)
 .refine aU λz=>?_;let(p,u,m,f,o,g1):=y
  let(d,t,I):=r.tr<|g1 xs<|gr s h;show z ?_;show(.tup [.int i,d],?_,λk A g=>(upd k p<|.tup [.int i,u],?_,?_))
  .have J:i<e.length:=()
   erw[xF];simp?[nE,_D J,tW,t];rfl
  .rw[o];show Ext.alloc g f _
  .rw[m]
   show kX (ej.of zB)<|bz.cons rfl<|bz.cons ((I.mono A).mono (jx (jl g f) _)) bz.nil
section
variable{X:Cx}{sc:cS}{N L:zn Str}{k:Nat}{a b c:bE}{pos p:cH}{f fa fb fc:CO D}
theorem V0(h:SX X sc N L k)(c:qz sc "enumerate" = ae)(z:X.mg "enumerate" = af)(j:PV X a f)(hs:ck [a] ⋯=[(aF,bH a ⋯)]:=by rfl):
 ed X (.Tuple elts x1 oi) (.Call (.Name "enumerate" p) [a] [] pos) (bL f):=
 Ya (HU (h.gl c).1 z (zX j jG hs) b_ hs) λt H R J=>by
  let(g,m,o,i,I,q):=J;let(d,O,I):=zc I;cases d with
  |tup s=>
   cases I;show(g,m,_,i,O,λv e b x r=>?_);let(Y,l,rfl,g1,g2):=kW r;show(Y,rfl,(l,gr x.sub g1),q _ e b x<|zjW g1 g2)
  |_=>cases I
theorem WU(ho:eI X (h8 op) r)(B:eI X (h8 Dq) r')(s1:ig X.K r F)(s2:ig X.K r' G)(S:PV X a fa)(σ:PV X b fb)(W:PV X c fc)
 (hm:PZ [op,Dq] [b,c]=aF:=by with_unfolding_all rfl):PV X (.Compare a [op,Dq] [b,c] pos) (wH F G fa fb fc):=
 j3 (Cs ho B S σ W hm) λU H Q R=>by
  show aU λT=>?_;let(o,i,d,h,I,q):=R;let(x,C,I):=zc I;let(y,E,I):=zc I;let(k,L,I):=zc I;let(Y,M,Z):=zc L;show T ?_;show(o,i,x,h,C,λv1 H1 g e r1=>(g,i,y,h.ext e,E,λm p w J l=>s1 w p v1 m x y Y _ J.sub (r1.mono J.s0) l M λv3 s j f r3=>?_));cases Y with
  | bl k'=>
   cases Z;show(k,r3,?_);cases k with
   |true=>
    rw[DJ rfl];rw[DJ rfl]at I;let(z,N,P):=zc I;show(j,i,z,((h.ext e).ext J).ext f,N,λv4 t as O r4=>s2 as t m v4 y z d _ O.sub ((l.mono f.s0).mono O.s0) r4 P λv5 u A x5 r5=>q v5 u A (((e.trans J).trans f).trans (O.trans x5)) r5)
   |false=>
    rw[DY ()];cases I;show q _ s j ((e.trans J).trans f) rfl
  |_=>cases Z
theorem MM(B:PV X a fa)(S:PQ X b g)(U:m3 .In b=aF:=by with_unfolding_all rfl):PV X (.Compare a [.In] [b] pos) (TN fa g):=
 j3 (QZ Yf B S U) λM H Q I=>by
  show aU λJ=>?_;let(s,o,d,k,z,q):=I;let(x,w,z):=zc z;let((j,u),y,z):=zc z;let(i,O,z):=zc z;let(l,Y,rfl):=zy z;show J ?_;show(s,o,x,k,w,λG E e m f=>(e,o,j,u,k.ext m,y,λp K t Z C h F r=>?_));rw[j5 O]at f;have A:=YE r Y;subst A;show(p,_,rfl,by
   cases j with
   |L=>show .inl h
   |T=>show .inr h,by rw[f];rfl,YM l,?_)
  rw[f,gK];show q _ t Z (m.trans C) rfl
end
theorem J8(h:Kw o=aa rows):o=aa (.nest rows):=by
 cases o with
 |none=>cases h
 |some c=>cases c<;>first|cases h;rfl|cases h
inductive zkR(K:aO)(f:CO (List (List D)))(U:St)(H:Hp)(Q:VK):Prop
 |mk (H0 M rows) (_:RC K H0 H U M) (_:f M=aa rows) (_:∀a bs H' cU,Ext H0 H cU H'->(∀b∈a::bs,H b=af)->oQ K cU H' rows a bs->Q (.ref a) H')
def oz(K:aO)(j H:Hp)(e:zn (zn D))(bs:zn ak):Prop:=pT bs=pT e/\∀(k:Nat) b row,bs[k]? = aa b->e[k]? = aa row->j b=af/\∃a,H b=aa (.lst a)/\bz K j row a
theorem oz.at{K:aO}(n:oz K j H e bs)(B:b∈bs):j b=af/\∃xs,H b=aa (.lst xs):=by let(k,z):=List.getElem?_of_mem B;have I:=(i8.mp z).1;rw[n.1]at I;let(a,xs,d,q):=n.2 k b _ z<|eO I;show(a,xs,d)
theorem oz.ext{K:aO}(n:oz K I H j bs)(e:Ext I H B H'):oz K B H' j bs:=
 (n.1,λk b row a d=>by let(g1,f,g2,z):=n.2 k b row a d;show(e.new b g1 (),f,e.s1 _ _ g2,z.mono e.s0))
theorem oz.add{K:aO}{xs:zn V}(n:oz K j H e bs)(B:j b=af)(J:H b=aa (.lst xs))(O:bz K j row xs):oz K j H (e++[row]) (bs++[b]):=
 (by simp[n.1],λk c r a d=>by
  rcases gu k (pT bs) with z|z
  .rw[oH z]at a
   rw[oH (by rw[<-n.1];show z)]at d;show n.2 k c r a d
  .rw[o3 z]at a
   rw[o3 (by rw[<-n.1];show z)]at d;have I:k-(pT bs)=0:=by have:=(i8.mp a).1;simp at this;lia
   rw[I]at a;rw[<-n.1,I]at d;cases a;cases d;show(B,xs,J,O))
theorem oz.hide{K:aO}(n:oz K j H e bs)(h:z∉bs):oz K j (upd H z o) e bs:=
 (n.1,λk b row a d=>by let(g1,f,g2,I):=n.2 k b row a d;show(g1,f,by rw[zC (λq=>h<|by rw[<-q];show oZ a)];show g2,I))
section
variable{K:aO}{own:zn Str}{fr:zn (Str×Nat)}{src:CO (zn D)}{T:Tg}{f:CO (zn D)}
inductive _X(K:aO)(T:Tg)(f:CO (List D))(M:Ctx)(items:List D)(rows:List (List D))(D:ak)(n4 H1:Hp)(i m:Nat)(ys:List V)(mO:St)(H':Hp):Prop
 |mk (cU:Hp) (bs:List ak) (r1 r2:List (List DL.D)) (h1:m=items.length-i) (h2:i<=items.length) (h3:ys.length<=i) (h4:H' D=aa (.lst ys)) (h5:ys=bs.map V.ref) (h6:RC K cU H' mO M) (h7:cU D=af) (zig:Ext n4 H1 cU H') (zih:oz K cU H' r1 bs) (ha:(D::bs).Nodup) (hb:∀b∈bs,H1 b=af) (hc:Jt T f M (items.drop i)=aa r2) (hd:rows=r1++r2)
theorem zjG(hT:∀i∈T.idx,i<pT own)(b9:∀B H Q,tT K jh B H Q->tt B H Q):∀B H Q,zkR K (iN src T (pT own) (fr.map (·.2)) f) B H Q->rk (SO K src) own fr (il K T) tt (tO K f) B H Q:=λB H Q hZ=>by
 let(H0,F,g,rc,P,q):=hZ;let(a,e1,P):=zc P;by_cases hl:pT a<=lim
 .rw[DJ hl]at P
  show(H0,F,a,rc,e1,λJ M t C wk D R=>?_);have W:∀(i:Nat) A,(jj (pT own) (fr.map (·.2)) F)[i]? ≠ aa (.own A):=λi A h=>by rcases qt h with z|⟨d',j,z,_⟩<;>cases z
  have X:∀(i:Nat) A,(jj (pT own) (fr.map (·.2)) F)[i]? ≠ aa (.nest A):=λi A h=>by rcases qt h with z|⟨d',j,z,_⟩<;>cases z
  have ap:=jl C.sub R;have as c:M c=af->H c=af:=λhc=>by
   cases z:H c with
   |none=>rfl
   |some o=>rw[C.s1 c o z]at hc;omega
  show(_X K T f (jj (pT own) (fr.map (·.2)) F) a g D t M,(_,t,[],[],g,rfl,g8 _,cV _,zB,rfl,((rc.ext C).pull).upd ap W X,ap,Ext.hide C.sub R _,(rfl,λk b row h=>by simp at h),by simp,λb hb=>by simp at hb,P,rfl),?_);rintro i m ys mO L ⟨s,bs,r1,r2,rfl,hi,hy,ad,be,al,av,Y,N,nd,aw,I,rfl⟩;subst be;show(ad,?_);by_cases Z:i<pT a
  .refine .inr (wk.go i L Y.s1 Z,?_,λx ax y=>?_)
   .have:=vw<|cV lim;lia
   show aU λkZ=>?_;let(d,hd,hx):=wk.nT i L x ax Y.s1 Z y;let(G0,O,rg):=hx s Y.s0 al.sub;show kZ ?_;have bn:a.drop i=d::a.drop (i+1):=by
    have bv:=by rw[eO Z]at hd;show(l8 hd).symm
    rw[bv];show M5 Z
   rw[bn]at I;simp?[Jt]at I;show aU λkZ=>?_;let(l,eb,I):=zc I;let(e,ee,I):=zc I;let(rest,er,I):=zy I;have c4:=O.s1 _ _ ad;let(bl,bg):=YY eb;show kZ ?_;have c5:∀{G:St} {G2 H2:Hp},RC K G2 H2 G l->RC K G2 H2 G (jj (pT own) (fr.map (·.2)) F):=λr=>r.weak bl.symm (λj d' hj=>by
    by_cases S:j∈T.idx
    .rcases qt hj with z|⟨d2,j2,_,hn,_⟩
     .cases z
     .exact absurd (hT j S) ()
    .rw[bg j S];show hj) W X
   show vP O.sub rg eb λB8 b3 v=>b9 B8 ax _ (G0,l,ae,b3<|al.ext O,rfl,λH3 c9 p=>?_);have b4:=(b3<|al.ext O).ext p;have xa:=Y.trans<|O.trans p;have ca:=p.s1 _ _ c4;rw[DJ rfl];show(c9,l,e,b4,ee,λu cq H4 cb E g1 g2 g3 g4=>?_);have ao:=E.new D (p.new D (O.new D av ()) ()) ();have U:=xa.trans E;have b6:=(pY.mp nd).1;have b7:D≠u:=λz=>by lia
   have cf:u∉bs:=λS=>by let(v,cs,z):=((N.ext O).ext p).at S;lia
   have ci:M u=af:=by
    cases z:M u with
    |none=>rfl
    |some o=>rw[xa.s1 _ _ z]at g1;cases g1
   show(E.s1 _ _ ca,_,_B _ _ Z,cb,bs++[u],r1++[e],rest,rfl,Z,by rw[mK,A8];lia,zB,by simp,(c5<|b4.ext E).upd ao W X,ao,(U.s0,λc o z=>by rw[zC (λw=>by rw[w,R]at z;cases z)];show U.s1 c o z,λc o z=>by rw[zC (λw=>by rw[w,ao]at z;cases z)];show U.sub c o z,U.new),((((N.ext O).ext p).ext E).add g2 g3 g4).hide (by simp[b6,b7]),?_,?_,er,?_)
   .refine pY.mpr (by simp[b6,b7],List.nodup_append.mpr ((pY.mp nd).2,by simp,λc hc c' cj=>?_))
    have:= ~~~cj
    subst this;show λz=>cf (by rw[<-z];show hc)
   .intro b hb
    rcases l9.mp hb with z|z
    .exact aw b z
    .have:= ~~~z
     subst this;show ci
   .rw[<-I];simp
  .have e:i=pT a:=()
   subst e;rw[D2]at I;cases I;rw[vp]at q;show .inl (wk.stop L Y.s1,q D bs L s (C.trans Y) (λb hb=>?_) (av,ad,nd,N.1,N.2));rcases d8.mp hb with rfl|hb
   .exact as _ R
   .exact as b<|aw b hb
 lia
end
section
variable{K:aO}{E0 E H0 H:Hp}{U:St}{M:Ctx}
theorem Kx(h:M.any dB=aF)(i:Nat)(j):M[i]? ≠ aa (.nest j):=λe=>by show(E3.mp h _<|oZ e) rfl
theorem RS.zkE(r:RS K E0 E G0 G U M)(e:Ext G0 G H0 H)(S:∀b∈a::bs,G b=af)(n:oQ K H0 H rows a bs)(O:M.any dB=aF):
 RS K E0 E H0 H (U.set i<|some (.ref a)) (M.set i<|.nest rows):=by
 have h:=r.rc.ext e;have x:∀b∈a::bs,E b=af:=λb s=>by
  cases q:E b with
  |none=>rfl
  |some o=>have:=S b s;rw[r.ext.s1 b o q]at this;lia
 show((h.sub,by simp[h.len],λj A g=>?_,λj f g=>?_,λj k b f fs m p u w=>?_,(λj d g=>?_,λj k C F g1 g2=>?_)),r.ext.trans e,λj f b g1 g2=>?_,λj d b N g1 g2 J=>?_)
 .rcases zI g with⟨_,z,_⟩|⟨I,z⟩
  .cases z
  .let(L,g1,g2):=h.val j A z
   show(L,by rw[ew (dh I)];show g1,g2)
 .rcases zI g with⟨_,z,_⟩|⟨I,z⟩
  .cases z
  .let(b,y,g1,g2):=h.own j f z
   show(b,y,by rw[ew (dh I)];show g1,g2)
 .rcases zI m with⟨_,z,_⟩|⟨I,l⟩
  .cases z
  .rcases zI p with⟨_,z,_⟩|⟨Y,t⟩
   .cases z
   .rw[ew (dh I)]at u
    rw[ew (dh Y)]at w;show h.ne j k b f fs l t u w
 .rcases zI g with⟨rfl,z,Z⟩|⟨I,z⟩
  .cases z
   show(a,bs,kr (by rw[h.len];show Z),n,λk f c m p=>?_);rcases zI m with⟨_,z,_⟩|⟨Y,l⟩
   .cases z
   .rw[ew (dh Y)]at p
    let(γ,y,g1,g2,J,v):=r.rc.own k f l
    grind
  .exact absurd z<|Kx O j d
 .rcases zI g1 with⟨rfl,_,_⟩|⟨_,l⟩
  .rcases zI g2 with⟨rfl,_,_⟩|⟨_,t⟩
   .rfl
   .exact absurd t<|Kx O k F
  .exact absurd l<|Kx O j C
 .rcases zI g1 with⟨_,z,_⟩|⟨I,z⟩
  .cases z
  .rw[ew (dh I)]at g2;show r.fresh j f b z g2
 .rcases zI g1 with⟨rfl,z,Z⟩|⟨I,z⟩
  .rw[kr (by rw[h.len];show Z)]at g2;cases g2
   rw[n.ha]at J;injection J with J;injection J with J;subst J;show(x a fA,λb s=>?_);let(c,B,q):=eU.mp s;cases q;show x b<|eV _ B
  .exact absurd z<|Kx O j d
theorem RS.forget(r:RS K E0 E H0 H U M):RS K E0 E H0 H (U.set i v) (M.set i .no):=by
 have I:∀{j:Nat} {e:zn D} {b:ak},(M.set i .no)[j]? = aa (.own e)->_/\(U.set i v)[j]? = U[j]? :=λ{j e b} g=>by
  rcases zI g with⟨_,z,_⟩|⟨J,z⟩
  .cases z
  .exact(z,ew<|dh J)
 have O:∀{j:Nat} {d:zn (zn D)},(M.set i .no)[j]? = aa (.nest d)->_/\(U.set i v)[j]? = U[j]? :=λ{j d} g=>by
  rcases zI g with⟨_,z,_⟩|⟨J,z⟩
  .cases z
  .exact(z,ew<|dh J)
 show((r.rc.sub,by simp[r.rc.len],λj s g=>?_,λj e g=>?_,λj k b e fs m l o p=>?_,(λj d g=>?_,λj k y A g1 g2=>r.rc.ip.2 j k y A (O g1).1 (O g2).1)),r.ext,λj e b g1 g2=>?_,λj d b C g1 g2 g3=>?_)
 .rcases zI g with⟨_,z,_⟩|⟨J,z⟩
  .cases z
  .let(B,g1,g2):=r.rc.val j s z
   show(B,by rw[ew (dh J)];show g1,g2)
 .let(f,h):=I (b:=0) g
  rw[h];show r.rc.own j e f
 .let(f,h):=I (b:=0) m
  let(Y,Z):=I (b:=0) l;rw[h]at o;rw[Z]at p;show r.rc.ne j k b e fs f Y o p
 .refine aU λx=>?_;let(f,h):=O g
  let(a,bs,t,u,w):=r.rc.ip.1 j d f;show x ?_;show(a,bs,by rw[h];show t,u,λk e c m l=>?_);let(Y,Z):=I (b:=0) m;rw[Z]at l;show w k e c Y l
 .let(f,h):=I (b:=0) g1
  rw[h]at g2;show r.fresh j e b f g2
 .let(f,h):=O g1
  rw[h]at g2;show r.m5 j d b C f g2 g3
theorem cZ:∀{l:zn ak} {m t:Nat} {b:ak},l.Nodup->l[m]? = aa b->l[t]? = aa b->m=t
 |[],m,t,b,_,h,_=>by simp at h
 | c::l,m,t,b,nd,h1,h2=>by
  let(a,z):=pY.mp nd;cases m with
  | zero=>
   cases t with
   |zero=>rfl
   |succ t=>
    have e1:= ~~~h1
    show absurd (oZ<|by simpa using h2)<|e1 ▸ a
  | succ m=>
   cases t with
   |zero=>
    have d:= ~~~h1
    show absurd (oZ d)<|(~~~h2) ▸ a
   |succ t=>show congrArg (· + 1) (cZ z (~~~h1)<|by simpa using h2)
theorem RC.row{j i t:Nat}{R:zn (zn D)}{bs:zn ak}{row:zn D}(r:RC K H0 H U M)(W:M[j]? = aa (.nest R))(hs:U[j]? = aa (aa (.ref a)))(hn:oQ K H0 H R a bs)
 (Z:∀(k:Nat) B c,M[k]? = aa (.own B)->U[k]? = aa (aa (.ref c))->c∉a::bs) (σ:bs[t]? = aa b) (hr:R[t]? = aa row) (S:i<pT M):
 RC K H0 H (U.set i<|some (.ref b)) ((M.set j .no).set i (.own row)):=by
 let(u,C,w,x):=hn.row t b row σ hr;have o:b∈a::bs:=eV _<|oZ σ;have J:∀{k:Nat} {c:Cell},c ≠ .no->_=aa c->M[k]? = aa c/\k≠j:=λ{k c} A g=>by
  rcases zI g with⟨_,z,_⟩|⟨I,z⟩
  .exact absurd z A
  .exact(z,I)
 show(r.sub,by simp[r.len],λk d g=>?_,λk B g=>?_,λk m c B s y p O Y=>?_,lp.uZ λk h g=>?_)
 .rcases zI g with⟨_,z,_⟩|⟨I,z⟩
  .cases z
  .let(e,_):=J () z
   rw[ew (dh I)];show r.val k d e
 .rcases zI g with⟨rfl,z,E⟩|⟨I,z⟩
  .cases z
   show(b,C,kr (by rw[r.len];show S),u,w,x)
  .let(e,_):=J () z
   rw[ew (dh I)];show r.own k B e
 .rcases zI y with⟨rfl,_,_⟩|⟨I,e⟩
  .rcases zI p with⟨rfl,_,_⟩|⟨l,f⟩
   .rfl
   .let(f,_):=J () f
    rw[kr (by rw[r.len];show S)]at O;rw[ew (dh l)]at Y;cases O;show absurd o<|Z m s b f Y
  .let(e,_):=J () e
   rcases zI p with⟨rfl,_,_⟩|⟨l,f⟩
   .rw[kr (by rw[r.len];show S)]at Y
    rw[ew (dh I)]at O;cases Y;show absurd o<|Z k B b e O
   .let(f,_):=J () f
    rw[ew (dh I)]at O;rw[ew (dh l)]at Y;show r.ne k m c B s e f O Y
 .rcases zI g with⟨_,z,_⟩|⟨I,z⟩
  .cases z
  .let(e,f):=J () z
   show f<|r.ip.2 k j h R e W
theorem RS.zjd(r:RS K E0 E H0 H U M)(I:M[j]? = aa (.nest R))(hs:U[j]? = aa (aa (.ref a)))(B:oQ K H0 H R a bs)
 (W:∀(k:Nat) S c,M[k]? = aa (.own S)->U[k]? = aa (aa (.ref c))->c∉a::bs) (σ:bs[t]? = aa b) (h4:bz K H0 x_ ys):
 RS K E0 E H0 (upd H b<|.lst ys) U (M.set j<|.nest<|R.set t x_):=by
 have Y:=oZ σ;have u:b≠a:=λq=>(pY.mp B.nd).1 (by rw[<-q];show Y);let(x,v):=B.at<|eV a Y;let(G,w):=r.m5 j R a _ I hs B.ha;have Q:=w b<|eU.mpr (b,Y,rfl);have J:∀{k:Nat} {c:Cell},(∀e,c ≠ .nest e)->(M.set j<|.nest<|R.set t x_)[k]? = aa c->M[k]? = aa c:=λ{k c} hc g=>by
  rcases zI g with⟨_,z,_⟩|⟨Z,z⟩
  .exact absurd z<|hc _
  .exact z
 show((λc o q=>?_,by simp[r.rc.len],λk d g=>r.rc.val k d<|J () g,λk S g=>?_,λk m c S L y A C F=>r.rc.ne k m c S L (J () y) (J () A) C F,(λk e g=>?_,λk m N P g1 g2=>?_)),(r.ext.s0,λc o q=>?_,λc o q=>?_,r.ext.new),λk S c g1 g2=>r.fresh k S c (J () g1) g2,λk e c l g1 g2 O=>?_)
 .rw[zC (λz=>by lia)];show r.rc.sub c o q
 .have z:=J () g
  let(c,l,f,h,p,γ):=r.rc.own k S z;show(c,l,f,h,?_,γ);rw[zC (λq=>W k S c z f<|by rw[q];show eV _ Y)];show p
 .have Z:k=j:=by
   rcases zI g with⟨z,_,_⟩|⟨_,z⟩
   .exact z
   .exact r.rc.ip.2 k j e R z I
  subst Z;rw[kr ((i8.mp I).1)]at g;cases g;show(a,bs,hs,(B.a0,by rw[zC (dh u)];show B.ha,B.nd,by simp[B.len],λm c row hc i=>?_),λm S c g1 g2=>W m S c (J () g1) g2);by_cases s:m=t
  .subst s
   rw[σ]at hc;cases hc;have:m<pT R:=by rw[<-B.len];show(i8.mp σ).1
   rw[kr this]at i;cases i;show(x,ys,zB,h4)
  .rw[ew (dh s)]at i
   let(f,l,h,p):=B.row m c row hc i;show(f,l,by rw[zC (λq=>by subst q;show s<|cZ ((pY.mp B.nd).2) hc σ)];show h,p)
 .have f:k=j:=by
   rcases zI g1 with⟨z,_,_⟩|⟨_,z⟩
   .exact z
   .exact r.rc.ip.2 k j N R z I
  have h:m=j:=by
   rcases zI g2 with⟨z,_,_⟩|⟨_,z⟩
   .exact z
   .exact r.rc.ip.2 m j P R z I
  rw[f,h]
 .rw[zC (λz=>by lia)];show r.ext.s1 c o q
 .rw[zC (λz=>by lia)];show r.ext.sub c o q
 .have Z:k=j:=by
   rcases zI g1 with⟨z,_,_⟩|⟨_,z⟩
   .exact z
   .exact r.rc.ip.2 k j e R z I
  subst Z;rw[hs]at g2;cases g2;rw[zC (dh u),B.ha]at O;injection O with O;injection O with O;subst O;show(G,w)
end
section
variable{K:aO}{E0 E H0 H:Hp}{U:St}{M:Ctx}
theorem RS.freeze(r:RS K E0 E H0 H U M)(e:M[i]? = aa (.own ds)):∃B,RS K E0 E B H U (M.set i<|.val<|.lst ds):=by
 let(a,o,f,g,k,l):=r.rc.own i ds e;have Z:=r.fresh i ds a e f;let(B,m,I):∃B,B=upd H0 a (.lst o)/\_:=by show(_,rfl,RC.zix r.rc e f g k l)
 subst m;show(_,I,(r.ext.s0.trans<|jx g _,r.ext.s1,I.sub,λc J O=>?_),λj h b g1 g2=>?_,λj d b p g1 g2 Y=>?_)
 .rw[zC (λz=>by lia)];show r.ext.new c J O
 .rcases zI g1 with⟨_,z,_⟩|⟨_,z⟩
  .cases z
  .exact r.fresh j h b z g2
 .rcases zI g1 with⟨_,z,_⟩|⟨_,z⟩
  .cases z
  .exact r.m5 j d b p z g2 Y
open Classical in
def oG(H0 H:Hp)(L:zn ak):Hp:=λc=>if c∈L then H c else H0 c
theorem ar(h:c∈L):oG H0 H L c=H c:=by erw[oG];rw[DJ h]
theorem JZ(h:c∉L):oG H0 H L c=H0 c:=by erw[oG];rw[DY h]
theorem bU:∀{e}{bs},pT bs=pT e->(∀(k:Nat) b row,bs[k]? = aa b->e[k]? = aa row->∃xs,G b=aa (.lst xs)/\bz K G row xs)->bz K G (e.map D.lst) (bs.map V.ref)
 |[],[],_,_=>bz.nil
 |[],_::_,h,_=>by simp at h
 |_::_,[],h,_=>by simp at h
 |row::e,b::bs,h,f=>by let(xs,g1,g2):=f 0 b row rfl rfl;show bz.cons (KQ (dY.of g1) g2) (bU (~~~h) λk c r a d=>f (k+1) c r (~~~a)<|by simpa using d)
theorem RS.zhT(r:RS K E0 E H0 H U M)(e:M[i]? = aa (.nest rows)):∃B,RS K E0 E B H U (M.set i<|.val<|.lst<|rows.map D.lst):=by
 let(a,bs,s,m,Z):=r.rc.ip.1 i rows e;let(C,F):=r.m5 i rows a _ e s m.ha;have ef:∀b∈a::bs,E b=af:=λb hb=>by
  rcases d8.mp hb with rfl|hb
  .exact C
  .exact F b<|eU.mpr (b,hb,rfl)
 have p:dj H0 (oG H0 H (a::bs)):=λc o q=>by rw[JZ (λl=>by rw[(m.at l).1]at q;cases q)];show q
 have sub:dj (oG H0 H (a::bs)) H:=λc o q=>by
  by_cases l:c∈a::bs
  .rw[ar l]at q;show q
  .rw[JZ l]at q;show r.rc.sub c o q
 have t:∀{j:Nat} {f:zn (zn D)},(M.set i<|.val<|.lst<|rows.map D.lst)[j]? ≠ aa (.nest f):=λ{j f} g=>by
  rcases zI g with⟨_,z,_⟩|⟨O,z⟩
  .cases z
  .exact O<|r.rc.ip.2 j i f rows z e
 have I:∀{j:Nat} {h:zn D},(M.set i<|.val<|.lst<|rows.map D.lst)[j]? = aa (.own h)->M[j]? = _:=λ{j h} g=>by
  rcases zI g with⟨_,z,_⟩|⟨O,z⟩
  .cases z
  .exact z
 show(_,(sub,by simp[r.rc.len],λj d g=>?_,λj h g=>?_,λj k c h G w x y A=>r.rc.ne j k c h G (I w) (I x) y A,lp.uZ λj f=>t),(r.ext.s0.trans p,r.ext.s1,sub,λc Y J=>?_),λj h b g1 g2=>r.fresh j h b (I g1) g2,λj f b u g1=>absurd g1 t)
 .rcases zI g with⟨rfl,z,N⟩|⟨O,z⟩
  .cases z;show(_,s,KQ (dY.of<|by rw[ar fA];show m.ha) (bU m.len λk b row g1 g2=>by
  let(n,γ,Y,J):=m.row k b row g1 g2;show(γ,by rw[ar (eV _<|oZ g1)];show Y,J.mono p)))
  .let(v,g1,g2):=r.rc.val j d z
   show(v,g1,g2.mono p)
 .let(b,u,g1,g2,g3,L):=r.rc.own j h (I g)
  show(b,u,g1,by rw[JZ (Z j h b (I g) g1)];show g2,g3,L.mono p)
 .rw[JZ (λl=>J<|ef c l)];show r.ext.new c Y J
end
section
variable{X:Cx}{st:de}{F:CO Fl}
theorem sN(i)(h:fH X st F):fH X st (RI i F):=kj h λD k H I=>by let(E0,E,f,j,d,e,z,J):=I;let(g,b,z):=zc z;let(a,O):=e.freeze<|vd b;show(E0,E,a,_,d,O,z,J)
theorem Cf(i)(h:fH X st F):fH X st (Mv i F):=kj h λD k H I=>by let(E0,E,g,j,e,f,z,J):=I;let(b,d,z):=zc z;let(a,O):=f.zhT<|J8 d;show(E0,E,a,_,e,O,z,J)
end
section
variable{X:Cx}{sc:cS}{N L:zn Str}{k:Nat}
theorem Ce(i)(h:SX X sc N L k)(c:yc sc N L i y)
 (S:X.calm) (ok:mQ X scope fr) (O:∀i∈T.idx,i<pT own) (W:m2 X tg iter src) (Y:∀fp B j,PG (jt X scope (own++fr.map (·.1)) fp B j) tg<|il X.K T)
 (U:∀fp B j,PO (jt X scope (own++fr.map (·.1)) fp B j) elt f) (hs:∀x,ij iter ⋯ x=pure x:=by intro _;rfl):
 fH X (.Assign [.Name y py] (.ListComp elt [(tg,iter,[],0)] scope cpos) spos) (BJ i<|iN src T (pT own) (fr.map (·.2)) f):=by
 let(s,t,u):=h.loc c;show kj (QW (te:=tO X.K f) h.tG s t u S ok W Y (λv v v=>W0) U hs) λD o H I=>?_;show aU λZ=>?_;let(E0,E,e,l,F,m,z,p):=I;let(d,r,z):=zc z;show Z ?_;by_cases J:l.any dB=aF
 .rw[DJ J]at z;cases z
  show zjG O (λo H Q I=>by let(e,l,b,A,z,q):=I;cases z;show q H e<|Ext.refl A.sub) o H _ (e,l,d,m.rc,r,λa bs C g x w n=>p _ _ g<|m.zkE x w n J)
 lia
theorem zkK(z:i≠j)(c:Cell)(r:zn D):((((M.set j c).set i .no).set j .no).set i (.own r))=wI M j i r:=by
 erw[wI];apply E2;intro m;simp?[T1,List.length_set];by_cases a:i=m
 .subst a;simp
 .by_cases b:j=m
  .subst b;simp[a]
  .simp[a,b]
theorem zic{M:Ctx}{j i:Nat}(z:i≠j)(c I:Cell):(((M.set j c).set i .no).set j I)=(M.set j I).set i .no:=by rw[List.set_comm _ _ (dh z),List.set_set,List.set_comm _ _ z]
inductive Xe(K:aO)(E0 E:Hp)(M:Ctx)(i j:Nat)(g f:CO D)(rows zkr:List (List D))(a:ak)(bs:List ak)(t:Nat)(mO:St)(H':Hp):Prop
 |mk (cU:Hp) (dn rest:List (List D)) (_S:St) (v:Option V) (h1:dn.length=t) (h2:_S[j]? = aa (aa (V.ref a))) (h3:mO=_S.set i v) (h4:H' a=aa (.lst<|bs.map V.ref)) (h5:RS K E0 E cU H' mO ((M.set j<|.nest<|dn++rows.drop t).set i .no)) (h6:vb j i g f M (rows.drop t)=aa rest) (h7:zkr=dn++rest)
theorem VZ(j i:Nat){x y:Str}{b4 O b5:cH}{J e:bE}{g f:CO D}{p pos bi:cH}(hp:F5 (aV X.prog X.w) X.A ⋯ X.xe)(hc:X.calm=ae)(h:SX X sc N L k)(cj:xy sc N j x=ae)(ci:xy sc N i y=ae)
 (hg:PG X (.Name y b4) (yY i)) (hi:PV X J g) (he:PV X e f)
 (ha:∀v,pb (.Subscript (.Name y O) J p) ⋯ v=(do
   let ov<-ml [v] (bH (.Name y O) ⋯);let iv<-ml [v,ov] (bH J ⋯)
   oX p
   ml [v,ov,iv] (R8 ov iv v)
   release [v,ov,iv] []):=by intro _;rfl)
 (hs:L6 [.Subscript (.Name y O) J p] e pos.line ⋯=pure aF:=by rfl) (hw:SK [.Subscript (.Name y O) J p] e ⋯=pure af:=by rfl)
 (h1:(pe [.Subscript (.Name y O) J p] ⋯).map (·.2)=[pb (.Subscript (.Name y O) J p) ⋯]:=by rfl)
 (hf:∀z,ij (.Name x b5) ⋯ z=pure z:=by intro _;rfl):
 fH X (.For (.Name y b4) (.Name x b5) [.Assign [.Subscript (.Name y O) J p] e pos] [] bi) (fL j i g f):=
 kj (iX hp hc (sX<|h.var cj) hg (kY<|cp he (Fh (h.var ci) hi iH ha) hs hw h1) hf) λD B H hZ=>by
  show aU λY=>?_;let(E0,E,H0,r,fl,rs,G,b6):=hZ;let(l,U,G):=zc G;show Y ?_;have U:=J8 U;by_cases b7:i=j\/r.length<=i
  .lia
  rw[DY b7]at G;have Z:=λz=>b7<|.inl z;have am:i<r.length:=()
  have c4:=(i8.mp U).1;let(o,e2,G):=zy G;subst G;have es:B.set i (B[i]?.getD af)=B:=by simp[show i<B.length by rw[rs.rc.len];show am]
  let(a,bs,g1,hn,cz):=rs.rc.ip.1 j l U;show(_,g1,a,.L,rfl,(_,dY.of hn.ha),?_);show(λt m mO H'=>m=l.length-t/\t<=l.length/\Xe X.K E0 E r i j g f l o a bs t mO H',(_,rfl,g8 _,H0,[],o,B,B[i]?.getD af,rfl,g1,?_,hn.ha,?_,e2,rfl),?_)
  .exact es.symm
  .have:=rs.forget (i:=i) (v:=B[i]?.getD af)
   rw[es]at this;have zhE:r.set j (.nest l)=r:=by simp[<-(i8.mp U).2]
   simpa[zhE]using this
  rintro t m mO H' ⟨rfl,ht,P,dn,rest,C,v0,Q,R,rfl,S,T,I,er⟩;have an:((r.set j<|.nest<|dn++l.drop t).set i .no)[j]? = aa (.nest<|dn++l.drop t):=by rw[ew Z,kr c4]
  let(a',s,q1,aw,c9):=T.rc.ip.1 j _ an;rw[ew Z,R]at q1;cases q1;have ca:s=bs:=by have:=aw.ha;rw[S]at this;injection this with this;injection this with this;show(wj this).symm
  subst ca;have ao:s.length=l.length:=by rw[aw.len];simp;grind
  by_cases F:t<l.length
  .have M:s[t]? = aa (s[t]'(ao ▸ F)):=eO (ao ▸ F)
   generalize s[t]'(ao ▸ F)=b at M;have ax:=M5 F;show .inr ((_,.ref b,dY.of S,by rw[nE,M];rfl),λ_T H2=>t+1<=l.length/\Xe X.K E0 E r i j g f l o a s (t+1) _T H2,λ_T H2 n=>(_,_B _ _ F,rfl,n.1,n.2),λznR H2 yl=>?_);let(rfl,yl):=yl;have cb:=by have:=yl _<|dY.of S;rw[nE,M]at this;show(l8 this).symm
   subst cb;rw[ax]at I;simp?[vb]at I;show aU λY=>?_;let(d,f1,I):=zc I;let(kk,f2,I):=zc I;let(dk,f3,f2):=zc f2;let(W,f4,I):=zc I;let(cl,f5,I):=zy I;show Y ?_;have cn:(dn++l.drop t)[t]? = aa l[t]:=by rw[ax,o3<|O0 Q,Q];simp
   have u:(C.set i v0).set i (aa (.ref b))=C.set i (aa (.ref b)):=List.set_set ..;have ap:=T.rc.row an (by rw[ew Z];show R) aw c9 M cn (by simp;show am);simp?[zkK Z,u]at ap;show(P,wI r j i l[t],d,?_,f1,λv H3 co x3 r3=>?_)
   .rw[u];show ap
   have bd:=ap.ext x3;show aU λY=>?_;let(b',xs,p1,p2,p3,p4):=bd.own i l[t] (by erw[wI];rw[kr (~~~am)]);show Y ?_;have cr:b'=b:=by
    rw[kr (by
     have:=ap.len;simp[wI]at this;rw[this];show am)]at p1
    cases p1;rfl
   subst cr;show(_,by rw[u];show p1,co,wI r j i l[t],dk,by rw[u];show bd,f3,λv2 H4 cs x4 r4=>?_);rw[j5 f2]at r4;show(b',xs,kk,W,rfl,jX r4,x4.s1 _ _ p3,by rw[p4.length];show lL f4,?_);have b2:=((T.step x3).step x4).forget (i:=i) (v:=aa (.ref b'));simp?[(List.set_set ..),u]at b2;show aU λY=>?_;let(a2,ct,w1,b3,cv):=b2.rc.ip.1 j _ an;show Y ?_;rw[ew Z,R]at w1;cases w1;have bf:=x4.s1 _ _<|x3.s1 _ _ S;have cw:ct=s:=by have:=b3.ha;rw[bf]at this;injection this with this;injection this with this;show(wj this).symm
   subst cw;have bg:=b2.zjd an (by rw[ew Z];show R) b3 cv M<|(p4.mono x4.s0).set W (r3.mono x4.s0);show(F,cs,dn++[l[t].set W d],cl,C,aa (.ref b'),by simp[Q],R,u,by rw[zC (λq=>(pY.mp b3.nd).1 (by rw[q];show oZ M))];show bf,?_,f5,by rw[er,<-I];simp);rw[u];have zhy:(dn++l.drop t).set t (l[t].set W d)=(dn++[l[t].set W d])++l.drop (t+1):=by rw[ax,List.set_append_right _ _<|O0 Q,Q,Nat.sub_self,List.append_assoc];rfl
   rw[zhy,zic Z]at bg;show bg
  .have zhI:t=l.length:=()
   subst zhI;rw[D2]at I;cases I;rw[D2]at T;show .inl ((_,dY.of S,by simp[ao]),?_);rw[er]at b6;show b6 _ _ P T
end
end DL
namespace L2
open PySem PySem.Spec PyProof.Rows
def RP(K:aO):V->zn V->Hp->VK->Prop:=λx d H Q=>∃z p b,x=.str z/\d=[.ref p]/\dY K H p (b.map V.str)/\Builtin.Str.tooLong (b.toArray.foldl (λa p=>a+p.length+z.length) 0)=aF/\Q (.str<|m1 z b) H
theorem zjX(r:cM (e.map V.str) us):∃l,strValues l=us/\l.map (·.1)=e:=by
 induction e generalizing us with
 |nil=>cases r;show([],rfl,rfl)
 |cons z e I=>
  cases r with|cons r t=>?_;let(a,rfl):=r;let(l,rfl,h):=I t;show((z,a)::l,rfl,by simp[h])
theorem Il:C6 X "str.join" (RP X.K):=by intro a s A H x u v m Q I O Y h;let(z,p,y,rfl,rfl,f,J,q):=h;let(t,rfl):=O;let(w,rfl,rw):=kg Y;cases rw;show aU λZ=>?_;let(i,r,g,j):=I.list f;let(l,rfl,e):=zjX r;show Z ?_;subst e;show nZ F.slot_str_join (B6 _ _ _) F.entry_str_join (F.args_str_join_2 _ _) (meets_str_join_list z t p l J) (g.isList,post_join l (joinFit_length J,λd k=>?_));show(.str _,H,(I.kept λb o e=>e),(d,?_),q);change Value.str (Builtin.Str.glued z _) d=_;rw[StrLaws.glued_eq_join]
end L2
namespace DL
open PySem PySem.Spec PyProof.Rows L2
theorem wQ{K:aO}:∀{j}{xs}{l},bz K H j xs->bt j=aa l->xs=l.map V.str
 |[],xs,l,r,e=>by cases e;rw[r];rfl
 | d::j,xs,l,r,e=>by
  let(x,h,rfl,b,f):=(r);cases d with
  |str i=>
   let(g,a,rfl):=zy e;rw[wQ f a,b];rfl
  |_=>cases e
section
variable{X:Cx}{sc:cS}{N L:zn Str}{k:Nat}{o e a b:bE}{apos cpos pos p:cH}{f g:CO D}{q:CO (Sk×zn D)}
theorem ZD(h:zO x):x.length<=1000:=of_decide_eq_true h
theorem ZA(h:zO x):x.length<=cP:=et (ZD h) ()
theorem yB(J:PV X o f)(S:PQ X e q)(O:ri o "join" ⋯ (bH o ⋯)=bH o ⋯:=by rfl)
 (Y:((ft cpos<|starEach [e] ⋯).all (λx=> !x.1)&&(pf cpos<|keywordEach [] ⋯).all (λx=>x.1.isSome)&&decide ([e].length+([]:zn n5).length+(if ([]:zn n5).isEmpty then 0 else 1)<30)):=by rfl)
 (Z:(apos.endLine==cpos.line):=by rfl) (hs:ck [e] ⋯=[(aF,bH e ⋯)]:=by rfl):PV X (.Call (.Attribute o "join" apos) [e] [] cpos) (wV f q):=
 j3 (nV V' PySem.F.slot_str_join PySem.F.type_str_join Il J (zX S jG hs) O Y Z hs rfl) λU H Q C=>by
  show aU λG=>?_;let(j,i,d,h,z,M):=C;let(p,t,z):=zc z;let((K,s),u,z):=zc z;show G ?_;cases p with
  | str I=>
   cases K with
   | L=>
    let(l,w,z):=zc z;by_cases b:pT l<=lim/\l.all zO/\zO I
    .rw[DJ b]at z;cases z
     show(j,i,_,h,t,λv R g x r=>?_);rw[r];show(rfl,g,i,.L,s,h.ext x,u,λa W k m P B σ N=>?_);have A:=wQ N w;subst A;show(I,a,l,rfl,rfl,B,StrLaws.joinFits (λy E=>ZD<|k4.mp b.2.1 y E) ?_,M _ k m (x.trans P) rfl);have:lim=2500:=rfl;have:l.length*I.length<=2500*1000:=Nat.mul_le_mul ()<|ZD b.2.2;lia
    .rw[DY b]at z;cases z
   |T=>cases z
  |_=>cases z
theorem JL(B:PV X a f)(S:PV X b g)(hs:ie b:=by intro _ _;rfl):PV X (.Subscript a b pos) (wU f g):=
 j3 (Nl NR B S hs) λF H Q J=>by
  let(p,o,d,m,I,q):=J;let(O,u,I):=zc I;let(i,h,I):=zc I;let(Y,Z,h):=zc h;cases O with
  | str z=>
   by_cases k:zO z
   .have I:(if zO z then (eL _ i).bind _ else af)=aa d:=I
    rw[DJ k]at I;let(j,w,I):=zc I;let(c,y,rfl):=zy I;show(p,o,_,m,u,λv C e x r=>(e,o,Y,m.ext x,Z,λE s t A l=>?_));rw[j5 h]at l;show(z,i,c,r,jX l,ZA k,?_,q _ s t (x.trans A) rfl);erw[sS];rw[lL w];show y
   lia
  |_=>cases I
theorem KY(h:SX X sc N L k)(c:qz sc "len" = ae)(z:X.mg "len" = af)(B:PV X e f)(hs:ck [e] ⋯=[(aF,bH e ⋯)]:=by rfl):PV X (.Call (.Name "len" p) [e] [] pos) (nv f):=
 j3 (wc zhi (h.gl c).1 z PySem.boot_len (zX B jG hs) () () hs rfl) λo H Q J=>by
  let(i,m,d,l,I,q):=J;let(O,j,I):=zc I;cases O with
  | str z=>
   by_cases b:zO z
   .have I:(if zO z then aa _ else af)=aa d:=I
    rw[DJ b]at I;cases I;show(i,m,_,l,j,λv g a x r=>(z,by rw[r],ZA b,q _ g a x rfl))
   lia
  |_=>cases I
end
section
variable{X:Cx}{sc:cS}{N L:zn Str}{k:Nat}{b:bE}{f:CO D}
theorem MJ(h:SX X sc N L k)(c:qz sc "min" = ae)(z:X.mg "min" = af)(S:PV X a f)(U:PV X b g)(hs:ck [a,b] ⋯=[(aF,bH a ⋯),(aF,bH b ⋯)]:=by rfl)(J:ck [b] ⋯=[(aF,bH b ⋯)]:=by rfl):
 PV X (.Call (.Name "min" p) [a,b] [] pos) (Mt f g):=
 j3 (wc (Ay h.calm) (h.gl c).1 z PyProof.Rows.boot_min (zX S (zX U jG J)<|by rw[hs,J]) () () (by rw[hs,J]) (by rw[J];rfl)) λK H Q Y=>by show aU λZ=>?_;let(t,s,d,o,I,q):=Y;let(i,l,I):=zc I;let(y,B,l):=zc l;let(j,O,I):=zy I;let(A,C,O):=zc O;show Z ?_;subst I;show(t,s,y,o,B,λv F e x r=>(e,s,A,o.ext x,C,λG u w E m=>(i,j,?_,q _ u w (x.trans E) rfl)));rw[j5 l]at r;rw[j5 O]at m;rw[jX r,jX m]
end
end DL
namespace DL
open PySem PySem.Spec PySem.Calls PyProof.Rows PySem.W PySem.Builtin PySem.Builtin.ObjectAttr
section
variable{prog:cQ}{w:cN}{A:ec}{E:EQ}{h:bN}{g:Array C1}{d:C0}{t:Nat}{os:Pb}{K:Frag}{x C S:ak}{cd:ClassData}{vs:Array aN}{name:Str}{v:aN}
theorem ziD(X:K.In h)(j:od=af)(z:h.get? x=aa (.ref C,od,.fields vs,#[]))(I:sT K C=aa cd)(H:cd.mro=.ref C :: .ref S::nO)(a8:cd.hasDict)(U:uV K (.ref C) name=aa af)
 (W:∀h' e B,h.get? e=af->h'.get? x=aa (.ref C,aa e,.fields vs,#[])->h'.Ns1 e (λy=>if y=name then aa v else af)->(∀b o,b≠x->h.get? b=aa o->h'.get? b=aa o)->Q (.done<|.ret .none) (h',g,d,B,os)):
 wpAny (aV prog w) A (Builtin.«object.__setattr__» ([.ref x,.str name tk,v],[])) Q E (h,g,d,t,os):=by
 have J:sP (aV prog w) h (mroOf<|.ref C) cd.mro:=(u_ X I).andThen .now;rw[H]at J
 repeat (first|rw[refuse_eq]|(rw[refuseLoop_ref,refuseLoop_ref];erw[nO];rw[(A7.passes<|.ref x)])|(with_reducible show pO z ?_)|(with_reducible show J.at ?_)|(with_reducible show(uY (M:=aV prog w) X U).at ?_)|(with_reducible show(u_ (M:=aV prog w) X I).at ?_)|wp_step)
 subst j;have O:(h.push {cls:=.type "dict",data:=.dict #[]}).get? x=_:=cW _ z;have Y:=eS (ei z);show aL (wpAny_alloc' ?_);show aL (wpAny_update' O ?_);show bW ?_;erw[storeInDict,newKeyGuard];show aL (bW (aL (wpAny_nsSet1 (Heap.Ns1.of_empty (_,#[],_,(DH _ _ _ _ Y.symm).trans (Heap.get?_push_at rfl rfl),rfl,λe p=>absurd p (),λq=>rfl)) λh' Z f=>?_)));show aU λr=>?_;let(oD,s,u,i,k,l):=Z.count (FI.cons name v FI.nil);show r ?_;show aL (wpAny_lookBehind i (by rw[k];show pastItsLine_dict (et l (by simp?[ng,Ox,mv];lia))) ?_);show bW (W h' h.objs.size _ (Tf (cV _)) ?_ Z λb o m a=>(f.2 b (eS (ei a))).trans ((DH _ _ _ _ m).trans (cW _ a)))
 .refine(f.2 x Y).trans (oI _ O rfl)
theorem ziE{z:aN}(X:K.In h)(I:h.get? x=aa o)(j:o.cls=.ref C)(J:mroIn K C (.type "object")=aa ae)(e:Q ⟨⟩ (h,g,d,t,os)):
 wpAny M A (e_ "object.__setattr__" ([.ref x,z,v],[])) Q E (h,g,d,t,os):=by
 have O:sP M h (Mg (.ref x)) (.ref C):=j ▸ (Looks.ld I).andThen .now;have Y:=v_ (M:=M) X J;have a:=A7.args (.ref x) z v;simp?[e_,A7.kind,A7.split];show aL ?_;show(O.andThen Y).at ?_;rw[DY ()];erw[uJ]at a;cases hs:Manifest.signature? "object.__setattr__" with
 |none=>show bW e
 |some Z=>
  rw[hs]at a;show mu a e
theorem Tz(X:K.In h)(z:h.get? x=aa (.ref C,af,.fields vs,#[]))(hs:uV K (.ref C) "__setattr__" = aa (aa (.builtin "object.__setattr__")))(J:mroIn K C (.type "object")=aa ae)
 (O:sT K C=aa cd) (j:cd.mro=.ref C :: .ref S::nO) (Y:cd.hasDict) (B:uV K (.ref C) name=aa af)
 (H:∀h' e I,h.get? e=af->h'.get? x=aa (.ref C,aa e,.fields vs,#[])->h'.Ns1 e (λy=>if y=name then aa v else af)->(∀b o,b≠x->h.get? b=aa o->h'.get? b=aa o)->Q ⟨⟩ (h',g,d,I,os)):
 wpAny (aV prog w) A (R6 (.ref x) name v) Q E (h,g,d,t,os):=by
 have Z:sP (aV prog w) h (Mg<|.ref x) (.ref C):=(Looks.ld z).andThen .now;have m:=A7.slot.bind<|.ref x;erw[R6,callSpecial?,specialOf]
 repeat (any_goals (first|assumption|(with_reducible show Z.at ?_)|(with_reducible show(uY (M:=aV prog w) X hs).at ?_)|wp_step))
 show DP A7.slot.plain A7.entry<|ziE X z rfl J<|ziD X rfl z O j Y B λh' e I a f i k=>?_;have l:=H h' e I a f i k
 repeat (any_goals (first|assumption|wp_step))
end
end DL
namespace DL
open PySem PySem.Spec PySem.Calls PyProof.Rows PySem.W
def Wf(C:ak)(dd:xz ak)(e:ak):e9:=(.ref C,dd,.fields #[.ref e,.none,.none,.none,.bool aF,.none],#[])
section
variable{prog:cQ}{w:cN}{A:ec}{E:EQ}{h:bN}{g:Array C1}{d:C0}{t:Nat}{os:Pb}
variable{nm q:Str}{C N x:ak}{bs bm:zn aN}{hdct:Bool}{sn:zn Str}{sub:zn aN}{ab:Bool}{col:xz Bool}{dd:xz ak}{k0 k1 k2 k3 k5:xz aN}{a0:ak}{u:aN}
theorem LN(T:Pc h nO bm)(I:h.get? C=aa (zd nm q C N bs bm hdct sn sub ab col dd k0 k1 k2 k3 k5 "ValueError.__new__"))(z:h.get? x=aa (Wf C af a0))
 (j:∀h' J,h'.get? x=aa (Wf C af J)->(∀b o,b≠x->h.get? b=aa o->h'.get? b=aa o)->Q .none (h',g,d,t,os)):
 wpAny (aV prog w) A (call (.builtin "ValueError.__init__") [.ref x,u]) Q E (h,g,d,t,os):=by
 have F:=M4;show o8<|DP F.init.plain F.initEntry<|wpAny_check_init_subT F T I z rfl ?_
 wp_walk
 show j _ h.objs.size ?_ λb o a e=>(DH _ _ _ _ a).trans (cW _ e)
 .rw[oI _ (cW _ z) rfl];rfl
theorem ziF{j:ak}(T:Pc h nO bm)(I:h.get? C=aa (zd nm q C N bs bm hdct sn sub ab col dd k0 k1 k2 k3 k5 "ValueError.__new__"))
 (Z:sP (aV prog w) h (u7 (.ref C) "__init__") (aa (.ref j))) (H:h.get? j=aa Y) (S:Y.cls=.type "function") (W:pT rest<=cP)
 (U:∀h' e a0,h.get? e=af->h'.get? e=aa (Wf C af a0)->(∀b o,h.get? b=aa o->h'.get? b=aa o)->wpAny (aV prog w) A (call (.ref j) (.ref e::rest)) (λr B=>r=.none/\Q (.done<|.ret<|.ref e) B) E (h',g,d,t,os)):
 wpAny (aV prog w) A (Builtin.«type.__call__» (.ref C::rest,[])) Q E (h,g,d,t,os):=by
 have F:=M4
 repeat (first|with_reducible show wpAny_madeBy_exc I ?_|with_reducible show pO I ?_|wp_step)
 show codeAny_call_builtin_code (Us _ F.quiet) (wpAny_check_new_subT F T I (codeAny_exc_new_subT F T I ?_ W));have J b o:h.get? b=aa o->((h.push {cls:=.type "tuple",data:=.seq rest.toArray}).push (Wf C af h.objs.size)).get? b=aa o:=λe=>cW _ (cW _ e);have O:((h.push {cls:=.type "tuple",data:=.seq rest.toArray}).push (Wf C af h.objs.size)).get? (h.objs.size+1)=aa (Wf C af h.objs.size):=by heap_get
 have a:(i3 C::bm).contains (.ref C):=by simp
 change wpAny _ _ _ _ _ ((h.push {cls:=.type "tuple",data:=.seq rest.toArray}).push (Wf C af h.objs.size),_,_,_,_);have k:=T.keeps J;have f:=J _ _ H;have i:=(U _ (h.objs.size+1) h.objs.size (Tf (ua _)) O);generalize (h.push {cls:=.type "tuple",data:=.seq rest.toArray}).push (Wf C af h.objs.size)=h2 at *;erw[PK]
 repeat (first|with_reducible show pO O ?_|wp_step)
 show _q (J _ _ I) ?_;rw[a];show aL<|hG ?_;erw[callSpecial?,specialOf]
 repeat (first|with_reducible show pO O ?_|wp_step)
 show(Z.keeps J).at ?_;show hG<|aL ?_;erw[bindSpecial];show aL<|uf (_,f,S) ?_;rw[DJ ()];show bW<|aL<|cT (i J) (λr B z=>?_) λv v z=>z;let(rfl,z):=z
 wp_walk
 show z
theorem LO(T:Pc h nO bm)(z:h.get? C=aa (zd nm q C N bs bm hdct sn sub ab col dd k0 k1 k2 k3 k5 "ValueError.__new__"))
 (J:sP (aV prog w) h (u7 (.ref C) "__init__") (aa (.ref j))) (O:h.get? j=aa I) (Y:I.cls=.type "function") (Z:pT rest<=cP)
 (B:∀h' e a0,h.get? e=af->h'.get? e=aa (Wf C af a0)->(∀b o,h.get? b=aa o->h'.get? b=aa o)->
   wpAny (aV prog w) (A.under (.builtin "type.__call__" (.ref C::rest,[]))) (call (.ref j) (.ref e::rest)) (λr H=>r=.none/\Q (.ref e) H) E (h',g,d,t,os)):
 wpAny (aV prog w) A (call (.ref C) rest) Q E (h,g,d,t,os):=by
 have f1:=tc_lookup;have f2:=tc_bind (.ref C);have a:((h,g,d,t,os):bB).TypeIs (.ref C) "type":=(_,z,rfl);show o8 (g_ (?_))
 repeat (any_goals (first|assumption|with_reducible show pO z ?_|wp_step))
 show(rfl,codeAny_call_builtin_at (Us _ ()) entry_typeCall<|wpAny_check_type_call_sub z<|ziF T z J O Y Z B)
end
end DL
namespace DL
open PySem PySem.Spec PySem.Calls PyProof.Rows PySem.W PySem.Builtin PySem.Builtin.ObjectAttr
section
variable{prog:cQ}{w:cN}{A:ec}{E:EQ}{h:bN}{g:Array C1}{dr:C0}{t:Nat}{os:Pb}{K:Frag}{x C d:ak}{cd:ClassData}{name:Str}{mA:DZ}{i:Int}{tk:l0}
theorem ziG(X:K.In h)(z:h.get? x=aa (.ref C,aa d,.fields vs,H))(j:h.Ns1 d mA)(e:mA name=aa (.int i tk))(I:sT K C=aa cd)(O:cd.hasDict)(J:uV K (.ref C) name=aa af)
 (B:Q (.done<|.ret<|.int i tk) (h,g,dr,t,os)):wpAny (aV prog w) A (Builtin.«object.__getattribute__» ([.ref x,.str name S],[])) Q E (h,g,dr,t,os):=by
 repeat (first|(with_reducible show wpAny_nsGet j.ns ?_;rw[e])|(with_reducible show((Looks.ld z).andThen .now).at ?_)|(with_reducible show(uY (M:=aV prog w) X J).at ?_)|(with_reducible show(u_ (M:=aV prog w) X I).at ?_)|(with_reducible show pO z ?_)|wp_step)
 all_goals show B
theorem UQ(X:K.In h)(G:uG K C)(I:h.get? x=aa (.ref C,aa d,.fields vs,S))(H:h.Ns1 d mA)(j:mA name=aa (.int i tk))(O:sT K C=aa cd)(Y:cd.hasDict)(Z:uV K (.ref C) name=aa af)
 (hq:∀t',Q (.int i tk) (h,g,dr,t',os)):wpAny (aV prog w) A (Ht (.ref x) name ex) Q E (h,g,dr,t,os):=by
 have e:sP (aV prog w) h (Mg (.ref x)) (.ref C):=(Looks.ld I).andThen .now;have B:=Th.ga.bind (.ref x);erw[Ht,getAttrBy];show aL (J' (hG (aL (e.at (aL ((uY (M:=aV prog w) X G.ga).at ?_))))));erw[getAttrByItsOwn];show aL ((uY (M:=aV prog w) X G.gn).at ?_);show aL (oK (hG ?_));have a:wpAny (aV prog w) A (Ph (.builtin "BaseException.__getattribute__") (.ref x) (.str name t)) (λv b=>v=.int i tk/\b=(h,g,dr,t+1,os)) (λq q=>False) (h,g,dr,t+1,os):=by erw[Ph];show aL (mu B (o8 (DP Th.ga.plain PySem.F.entry_bexc_ga (dQ X (_,_,I,rfl,rfl) G (ziG X I H j O Y Z (rfl,rfl))))))
 have J:∀b,b=((h,g,dr,t+1,os))->wpAny (aV prog w) A _ Q E b:=λb z=>by subst z;show handed_on rfl<|hq _
 cases ex with
 |false=>
  show cT a (λv b z=>?_) λq q z=>z.elim;let(rfl,z):=z;show J _ z
 |true=>
  show cT a (λv b z=>?_) λq q z=>z.elim;let(rfl,z):=z;show J _ z
end
end DL
namespace DL
open PySem PySem.Spec PySem.Calls PyProof.Rows
def Vi(e d:ak)(h:bN):Prop:=∃o,h.get? e=aa o/\o.dict=aa d
def mG(e:ak)(h:bN):Prop:=∃o a,h.get? e=aa o/\o.data=.fields a/\a[2]? = aa h9
inductive DS{α:Type}:eT α->Prop
 |pure (a:α):DS (.pure a)
 |raise (e:aN):DS (.raise e)
 |oE (w:String):DS (.unsupported w)
 |rule {t:String} {k:Unit->eT α} (h:∀u,DS<|k u):DS (.rule t k)
 |at {p:cH} {k:Unit->eT α} (h:∀u,DS<|k u):DS (.at p k)
 |load {a:ak} {p:Option aN} {k:e9->eT α} (h:∀o,DS<|k o):DS (.load a p k)
 |update {a:ak} {p:Option aN} {f:e9->e9} {k:Unit->eT α} (hf:∀o,(f o).dict=o.dict/\(o.isFreed=aF->(f o).isFreed=aF)/\∀vs,o.data=.fields vs->∃S7,(f o).data=.fields S7/\S7[2]? = vs[2]?) (h:∀u,DS<|k u):DS (.update a p f k)
 |alloc {o:e9} {k:ak->eT α} (h:∀a,DS<|k a):DS (.alloc o k)
 |register {a:ak} {k:Unit->eT α}:DS (.register a k)
 |fresh {k:l0->eT α} (h:∀a,DS<|k a):DS (.fresh k)
 |ask {k:Setting->eT α} (h:∀a,DS<|k a):DS (.ask k)
 |stack {k:List (Code×cH)->eT α} (h:∀a,DS<|k a):DS (.stack k)
 |handled {b:Bool} {k:Option aN->eT α} (h:∀a,DS<|k a):DS (.handled b k)
 |point {l:List aN} {k:Unit->eT α} (h:∀a,DS<|k a):DS (.point l k)
theorem Rm(h:DS t):∀{Q}{E}{p}{s},Vi e d s.heap->Sem.wp M Γ t Q E p s->
 Sem.wp M Γ t (λa p' j=>Q a p' j/\Vi e d j.heap) (λx p' j=>E x p' j/\Vi e d j.heap) p s:=by
 induction h with
 |pure a=>intro Q E p s b w;show(w,b)
 |raise x=>intro Q E p s b w;show(w,b)
 |oE x=>intro Q E p s b w;rw[Sem.wp]at w;show w.elim
 |rule h z=>intro Q E p s b w;show z _ b w
 |«at» h z=>intro Q E p s b w;show z _ b w
 |load h z=>intro Q E p s b w;let(o,I,w):=w;show(o,I,z _ b w)
 | @update a p f k g h z=>
  intro Q E p s b w;let(i,w):=w;show(i,z _ ?_ w);let(o,I,J):=b;by_cases q:a=e
  .subst q
   show(f o,oI _ I<|(g o).2.1 (Heap.get?_some_iff.mp I).2,by rw[(g o).1];show J)
  .exact(o,(ni _ _ q).trans I,J)
 |alloc h z=>intro Q E p s b w;let(o,I,J):=b;show z _ (o,cW _ I,J) w
 |register=>intro Q E p s b w;rw[Sem.wp]at w;show w.elim
 |fresh h z=>intro Q E p s b w;show z _ b w
 |ask h z=>intro Q E p s b w;show z _ b w
 |stack h z=>intro Q E p s b w;show z _ b w
 |handled h z=>intro Q E p s b w;show z _ b w
 |point h z=>intro Q E p s b w;show z _ b w
theorem LR(h:DS t):∀{Q}{E}{p}{s},mG e s.heap->Sem.wp M Γ t Q E p s->
 Sem.wp M Γ t (λa p' j=>Q a p' j/\mG e j.heap) (λx p' j=>E x p' j/\mG e j.heap) p s:=by
 induction h with
 |pure a=>intro Q E p s b w;show(w,b)
 |raise x=>intro Q E p s b w;show(w,b)
 |oE x=>intro Q E p s b w;rw[Sem.wp]at w;show w.elim
 |rule h z=>intro Q E p s b w;show z _ b w
 |«at» h z=>intro Q E p s b w;show z _ b w
 |load h z=>intro Q E p s b w;let(o,I,w):=w;show(o,I,z _ b w)
 | @update a p f k l h z=>
  intro Q E p s b w;let(m,w):=w;show(m,z _ ?_ w);let(o,d,I,J,i):=b;by_cases q:a=e
  .subst q
   let(g,r,u):=(l o).2.2 d J;show(f o,g,oI _ I<|(l o).2.1 (Heap.get?_some_iff.mp I).2,r,u.trans i)
  .exact(o,d,(ni _ _ q).trans I,J,i)
 |alloc h z=>intro Q E p s b w;let(o,d,I,J):=b;show z _ (o,d,cW _ I,J) w
 |register=>intro Q E p s b w;rw[Sem.wp]at w;show w.elim
 |fresh h z=>intro Q E p s b w;show z _ b w
 |ask h z=>intro Q E p s b w;show z _ b w
 |stack h z=>intro Q E p s b w;show z _ b w
 |handled h z=>intro Q E p s b w;show z _ b w
 |point h z=>intro Q E p s b w;show z _ b w
theorem Bm{B:Type}{M:nM}{A:ec}{e d:ak}{t:eT B}{Q:B->bB->Prop}{E:EQ}{s:bB}(h:DS t)(H:Vi e d s.heap)(w:wpAny M A t Q E s):
 wpAny M A t (λa j=>Q a j/\Vi e d j.heap) (λx j=>E x j/\Vi e d j.heap) s:=λΓ p z=>Rm h H<|w Γ p z
theorem bc{B:Type}{M:nM}{A:ec}{e:ak}{t:eT B}{Q:B->bB->Prop}{E:EQ}{s:bB}(h:DS t)(H:mG e s.heap)(w:wpAny M A t Q E s):
 wpAny M A t (λa j=>Q a j/\mG e j.heap) (λx j=>E x j/\mG e j.heap) s:=λΓ p z=>LR h H<|w Γ p z
theorem DS.bind(h:DS t)(I:∀a,DS<|k a):DS (t >>= k):=by
 induction h with
 |pure a=>show I a
 |raise x=>show .raise x
 |oE x=>show .oE x
 |rule h z=>show .rule z
 |«at» h z=>show .at z
 |load h z=>show .load z
 |update b h z=>show .update b z
 |alloc h z=>show .alloc z
 |register=>show .register
 |fresh h z=>show .fresh z
 |ask h z=>show .ask z
 |stack h z=>show .stack z
 |handled h z=>show .handled z
 |point h z=>show .point z
theorem Yu(g)(z:∀vs,(g vs)[2]? = vs[2]?)(o):(E8 g o).dict=o.dict/\(o.isFreed=aF->(E8 g o).isFreed=aF)/\∀vs,o.data=.fields vs->∃e,(E8 g o).data=.fields e/\e[2]? = vs[2]? :=by let(c,d,I,a):=o;cases I<;>first|show(rfl,λh=>h,λvs q=>by cases q;show(_,rfl,z _))|show(rfl,λh=>h,λvs q=>nomatch q)
theorem Kr(v)(i):DS (field v i):=by
 erw[field,fieldsOf,load]
 repeat (first|show DS.oE _|show DS.pure _|show DS.raise _|show DS.register|show DS.bind ?_ λx=>?_|show DS.load λx=>?_|show DS.rule λx=>?_|show DS.alloc λx=>?_|show DS.stack λx=>?_|show DS.update (λo=>(rfl,λh=>h,λa q=>(a,q,rfl))) λx=>?_|show DS.update (Yu _<|by intro a;simp[M3,PF]) λx=>?_|split)
theorem Js(v)(i)(x)(z:i≠2:=by decide):DS (R7 v i x):=by
 erw[R7,updateField,update,load]
 repeat (first|show DS.oE _|show DS.pure _|show DS.raise _|show DS.register|show DS.bind ?_ λy=>?_|show DS.load λy=>?_|show DS.rule λy=>?_|show DS.alloc λy=>?_|show DS.stack λy=>?_|show DS.update (λo=>(rfl,λh=>h,λa q=>(a,q,rfl))) λy=>?_|show DS.update (Yu _<|by intro a;simp[M3,z]) λy=>?_|split)
theorem vc(e)(f):DS (pH e f):=by
 erw[pH];show DS.bind (Kr _ _) λq=>?_;split
 .exact Js _ _ _
 .exact DS.pure _
theorem Og(ty)(vs):DS (newFields ty vs):=by
 erw[newFields,newObj,newObjAsIs]
 repeat (first|show DS.oE _|show DS.pure _|show DS.raise _|show DS.register|show DS.bind ?_ λv=>?_|show DS.load λv=>?_|show DS.rule λv=>?_|show DS.alloc λv=>?_|show DS.stack λv=>?_|show DS.update (λo=>(rfl,λh=>h,λvs q=>(vs,q,rfl))) λv=>?_|show DS.update (Yu _<|by intro vs;simp[M3,PF]) λv=>?_|split)
theorem Ej(f)(b):DS (k_ f b):=by
 erw[k_,stack]
 repeat (first|show DS.oE _|show DS.pure _|show DS.raise _|show DS.register|show DS.bind ?_ λv=>?_|show DS.load λv=>?_|show DS.rule λv=>?_|show DS.alloc λv=>?_|show DS.stack λv=>?_|show DS.update (λo=>(rfl,λh=>h,λa q=>(a,q,rfl))) λv=>?_|show DS.update (Yu _<|by intro a;simp[M3,PF]) λv=>?_|split)
theorem Ai:DS zlo:=by
 erw[zlo]
 repeat (first|show DS.oE _|show DS.pure _|show DS.raise _|show DS.register|show DS.bind ?_ λv=>?_|show DS.load λv=>?_|show DS.rule λv=>?_|show DS.alloc λv=>?_|show DS.stack λv=>?_|show DS.update (λo=>(rfl,λh=>h,λa q=>(a,q,rfl))) λv=>?_|show DS.update (Yu _<|by intro a;simp[M3,PF]) λv=>?_|split)
theorem Aj(env)(outer):DS (behindIsImport env outer):=by
 erw[behindIsImport];split
 .exact DS.pure _
 .split
  .exact DS.pure _
  .exact DS.bind (Kr _ _) λq=>DS.pure _
theorem IQ(env)(b)(outer):DS (keptBack env b outer):=by
 erw[keptBack];split
 .split
  .exact DS.pure _
  .exact DS.bind Ai λq=>DS.pure _
 .exact DS.pure _
theorem lX:∀l,DS (readyFrames l)
 |[]=>DS.pure _
 | env::outer=>by
  erw[readyFrames];split
  .unfold load update
   show DS.bind (DS.load λv=>DS.pure _) λo=>?_;split
   .exact DS.pure _
   .refine DS.bind (Aj _ _) λv=>DS.bind (IQ _ _ _) λv=>DS.bind (DS.update (λo=>(rfl,λh=>by let(c,d,z,b):=o;cases z<;>show h,λa q=>(a,(),rfl))) λv=>DS.pure _) λv=>lX outer
  .exact DS.oE _
theorem Ek(env):DS (PySem.frameOf env):=by
 erw[PySem.frameOf,frameEnvs,stack];show DS.bind (DS.bind (DS.stack λq=>DS.pure _) λq=>DS.pure _) λl=>DS.bind ?_ λq=>?_
 .unfold frameObject
  split
  .exact DS.pure _
  .exact DS.bind (lX _) λq=>DS.pure _
 .split
  .exact DS.pure _
  .exact DS.oE _
theorem Ah(e)(env):DS (Dp e env):=by
 erw[Dp];split
 .refine DS.bind (Kr _ _) λa=>?_
  have z f:∀b,DS (do R7 e 1 (<-EntryCells.newEntry a (<-PySem.frameOf env) .none (zz f) .none (<-k_ f b))):=λb=>by show DS.bind (Ek _) λq=>DS.bind (Ej _ _) λq=>?_;erw[EntryCells.newEntry];show DS.bind (Og _ _) λq=>Js _ _ _
  split
  .refine DS.bind (Kr _ _) λq=>?_
   split
   .exact DS.pure _
   .exact DS.bind (Js _ _ _) λq=>z _ _
  .exact z _ _
 .exact DS.oE _
theorem Xo(env)(e):DS (zp env e):=by erw[zp];show DS.bind (Ah _ _) λq=>vc _ _
def gB(od:xz ak)(e:ak)(h:bN):Prop:=(∀d,od=aa d->Vi e d h)/\(od=af->mG e h)
theorem gB.obj(x:gB od e g1)(k:∀o,g1.get? e=aa o->g2.get? e=aa o):gB od e g2:=
 (λd q=>by let(o,z,r):=x.1 d q;show(o,k o z,r),λq=>by let(o,a,z,r):=x.2 q;show(o,a,k o z,r))
theorem vA(h:DS t)(B:gB od e s.heap)(w:wpAny M A t Q E s):
 wpAny M A t (λa j=>Q a j/\gB od e j.heap) E s:=by
 cases od with
 |none=>show cT (bc h (B.2 rfl) w) (λa j z=>(z.1,(λd q=>nomatch q),λv=>z.2)) λv v z=>z.1
 |some d=>show cT (Bm h (B.1 d rfl) w) (λa j z=>(z.1,(λb q=>by lia),λq=>nomatch q)) λv v z=>z.1
section
variable{M:nM}{A:ec}{E:EQ}{s:bB}{base:bN}{env:eE}{l outer:zn eE}{L e:ak}{cls a0:aN}{od:xz ak}{Q:Unit->bB->Prop}
theorem um(I:A.frames=aa (env::outer))(B:env.frame=aa L)(J:n0 base (env::outer) e cls a0 s.heap)(j:gB od e s.heap)
 (O:∀h',sE base (env::outer) e cls a0 L h'->s.heap.UpToSlots h'->gB od e h'->Q ⟨⟩ {s with heap:=h'}):wpAny M A (Dp (.ref e) env) Q E s:=by
 show cT (vA (Ah _ _) j<|wpAny_looks_onW (Q:=λq a=>∃h',a = {s with heap:=h'}/\sE base (env::outer) e cls a0 L h'/\s.heap.UpToSlots h') I B J λh' x y=>(h',rfl,x,y)) (λq a z=>?_) λq q z=>z;let((h',rfl,x,y),w):=z;show O h' x y w
theorem uw(I:sE base l e cls a0 L s.heap)(j:gB od e s.heap)(J:∀h',n0 base l e cls a0 h'->s.heap.UpToSlots h'->gB od e h'->Q ⟨⟩ {s with heap:=h'}):wpAny M A (pH (.ref e) af) Q E s:=by show cT (vA (vc _ _) j<|wpAny_landsW (Q:=λq a=>∃h',a = {s with heap:=h'}/\n0 base l e cls a0 h'/\s.heap.UpToSlots h') I λh' x y=>(h',rfl,x,y)) (λq a z=>?_) λq q z=>z;let((h',rfl,x,y),w):=z;show J h' x y w
theorem FM(I:n0 base l e cls a0 s.heap)(j:gB od e s.heap)(J:∀h',n0 base l e cls a0 h'->s.heap.UpToSlots h'->gB od e h'->Q ⟨⟩ {s with heap:=h'}):wpAny M A (pH (.ref e) af) Q E s:=by show cT (vA (vc _ _) j<|lands_againW (Q:=λq a=>∃h',a = {s with heap:=h'}/\n0 base l e cls a0 h'/\s.heap.UpToSlots h') I λh' x y=>(h',rfl,x,y)) (λq a z=>?_) λq q z=>z;let((h',rfl,x,y),w):=z;show J h' x y w
theorem Iu(I:A.frames=aa (env::outer))(B:env.frame=aa L)(J:n0 base (env::outer) e cls a0 s.heap)(j:gB od e s.heap)
 (O:∀h',n0 base outer e cls a0 h'->s.heap.UpToSlots h'->gB od e h'->Q ⟨⟩ {s with heap:=h'}):wpAny M A (zp env<|.ref e) Q E s:=by
 show cT (vA (Xo _ _) j<|wpAny_leaves_onW (Q:=λq a=>∃h',a = {s with heap:=h'}/\n0 base outer e cls a0 h'/\s.heap.UpToSlots h') I B J λh' x y=>(h',rfl,x,y)) (λq a z=>?_) λq q z=>z;let((h',rfl,x,y),w):=z;show O h' x y w
theorem Oe(J:A.frames=aa (env::outer))(O:s.heap.FunFrames base (env::outer))(hf:env.frame=aa L)(W:s.heap.get? e=aa I)(Y:base.StaysIn s.heap)(Z:base.get? e=af)(j:I.data=.fields vs)
 (H:vs[1]? = aa .none) (B:vs[0]? = aa a0) (U:gB od e s.heap) (S:∀h',Heap.LeftW base (env::outer) e I.cls a0 s.heap h'->gB od e h'->Q ⟨⟩ {s with heap:=h'}):wpAny M A (zp env<|.ref e) Q E s:=by
 show cT (vA (Xo _ _) U<|wpAny_leaving_firstW (Q:=λq a=>∃h',a = {s with heap:=h'}/\Heap.LeftW base (env::outer) e I.cls a0 s.heap h') J O hf W Y Z j H B λh' x=>(h',rfl,x)) (λq a z=>?_) λq q z=>z;let((h',rfl,x),w):=z;show S h' x w
end
end DL
namespace DL
open PySem PySem.Spec PyProof.Rows L2
theorem yI{a:ak}(x:hL P w H h a o):∃z,h.get? a=aa z:=by
 induction o with
 |lst d=>let(q,q,q,q,e):=x;show(_,e)
 |tup d=>let(q,q,q,z,e,q):=x;show(_,e)
 |dK b=>let(q,q,q,q,o,q,q,e,q):=x;show(_,e)
 |dT b=>let(q,q,q,q,o,q,q,e,q):=x;show(_,e)
 |set S n=>let(o,q,q,q,e,q):=x;show(_,e)
 |ins C g fs=>let(q,q,q,e,q):=x;show(_,e)
 |own y=>assumption
 |xd fs=>let(q,(q,q,q,e,q),q):=x;show(_,e)
 |gS lo i=>let(q,q,q,e):=x;show(_,e)
 |m6 z u _=>let(e,q):=x;show(_,e)
 |tQ j=>show(_,(x))
 |met f y=>show(_,(x))
 |ext k=>let(q,(q,e),q):=x;show(_,e)
theorem yM(x:eX P w H h)(k:∀b u,H b≠af->h.get? b=aa u->h'.get? b=aa u):eX P w H h':=λa o e=>
 (x a o e).mr (λb u d q=>k b u (by
   lia) q) (λv q=>q) λv v q=>q
theorem uM{P:cQ}(x:eX P w H h)(z:H a=af)(B:j h)(I:∃o,h.get? a=aa o)
 (J:∀g1 g2,j g1->(∀o,g1.get? a=aa o->g2.get? a=aa o)->j g2):eX P w (upd H a<|.ext j) h:=λb o e=>by
 by_cases d:b=a
 .subst d;rw[zB]at e;cases e;show(B,I,J)
 .rw[zC d]at e
  show(x b o e).mr (λv v v q=>q) (λc q=>by rw[zC (jd q z)];show q) λc f q=>by rw[zC (jd q z)];show q
structure _Y(l:List eE)(a C:ak)(H':Hp)(h0 h:bN):Prop where
 ex:∃B t,n0 B l a (.ref C) (.ref t) h/\(∀b o,h.get? b=aa o->H' b≠af->B.get? b=aa o)/\∀b o,h.get? b=aa o->h0.get? b≠af->b∉hS l->B.get? b=aa o
inductive gy(P:cQ)(w:cN)(outer:List eE)(H:Hp)(s:bB)(E:XK)(e:aN)(s':bB):Prop
 |mk (a C H' od) (_:e=.ref a) (_:E (.ref C) od H') (_:gB od a s'.heap) (_:s'.os=s.os) (_:oN s'.gens) (_:Un (hS outer) [] H H' s.heap s'.heap) (_:eX P w H' s'.heap) (_:H' a=af) (_:s.heap.get? a=af) (_:_Y outer a C H' s.heap s'.heap)
section
variable{X:Cx}{pins:TW}{U:St}{H1 H':Hp}{s1 s':bB}{ch:zn ak}{B h2:bN}{a C t:ak}{od:xz ak}{E:XK}
theorem YZ(I:Inv X pins U H1 s1)(J:X.ex=[])(q:s1.heap.get? a=af):X.fy.heap.get? a=af:=by
 cases z:X.fy.heap.get? a with
 |none=>rfl
 |some o=>let(b,y):=I.base.there a o z (by rw[J];simp);lia
theorem ZI(I:Inv X pins U H1 s1)(H:X.ex=[])(un:Un (hS X.stack) ch H1 H' s1.heap s'.heap)(J:∀b o,X.fy.heap.get? b=aa o->b∉ch)
 (S:s'.os=s1.os) (hb:oN s'.gens) (bQ:eX X.prog X.w H' s'.heap) (σ:H' a=af) (W:X.fy.heap.get? a=af) (e:n0 B X.outer a (.ref C) (.ref t) h2) (x4:s'.heap.UpToSlots h2)
 (a1:∀b o,s'.heap.get? b=aa o->H' b≠af->B.get? b=aa o) (al:∀b o,s'.heap.get? b=aa o->s1.heap.get? b≠af->b∉hS X.stack->b∉ch->B.get? b=aa o)
 (hE:E (.ref C) od H') (an:gB od a h2):gy X.prog X.w X.outer X.uj X.fy E (.ref a) {s' with heap:=h2}:=by
 have h:∀b o,_=aa o->b∉X.fs->b∉_:=λb o q n m=>(d8.mp m).elim (eS<|hV (ei q) I.ok.above) n;have a3:∀b,b∉X.ex:=by simp[H]
 have u:=(I.base.mono (λb m=>eV _ m) λb m=>absurd m<|a3 b).trans (un.mono I.Dv λc m=>m);have Y:=λb o d q z n=>
  al b o z (λy=>by let(c,k):=I.base.there b d q<|a3 b;lia) (λm=>h b d q n<|I.Dv b m) (J b d q)
 have g b o:X.fy.heap.get? b=aa o->X.uj b=af->b∈X.fs->∃f,h2.get? b=aa {o with slots:=f}:=λq n m=>by let(c,d,j,p):=I.ok.mc.mem m;rw[q]at j;cases j;let(f,z):=u.any q n<|J b o q;let(l,r):=x4 b _ z p;show(l,r)
 show(a,C,H',od,rfl,hE,an,S.trans I.os,hb,(λb o q n m c=>e.1 b o<|Y b o o q (u.keep b o q n (h b o q m)<|J b o q) m,λb o q n m c=>g b o q n m,λb o q n c=>u.free b o q n<|J b o q,λb o q c=>?_,u.m9,u.mS,u.mU),
  yM bQ λb u n q=>e.1 b u<|a1 b u q n,σ,W,(B,t,e,λb o q n=>?_,λb o q n m=>?_))
 .by_cases m:b∈X.fs
  .let(f,z):=g b o q (I.ok.oh b m) m
   show(_,z)
  .let(O,z):=u.there b o q (J b o q)
   show(O,e.1 b O<|Y b O o q z m)
 .cases q1:H' b with
  |none=>show absurd q1 n
  |some v=>
   let(i,z):=yI<|bQ b v q1;have s:=a1 b i z n;rw[e.1 b i s]at q;lia
 .cases q1:X.fy.heap.get? b with
  |none=>show absurd q1 n
  |some Z=>
   let(O,z):=u.there b Z q1<|J b Z q1;have x:=Y b O Z q1 z m;rw[e.1 b O x]at q;lia
end
section
variable{P:cQ}{w:cN}{K:aO}{mg:DZ}{base:bN}{N:zn Str}{qual:Str}{scope:cS}{f:ak}{cd:aN}{A:ec}{outer:zn eE}{s:bB}{H:Hp}{E:XK}
theorem Xg(I:Inv (Kt (gy P w) P w K mg base N qual scope f cd A outer s H E) e S B j)
 (J:Heap.MadeExcOf j.heap h' a (.ref C) vs) (Y:E (.ref C) af B):(Kt (gy P w) P w K mg base N qual scope f cd A outer s H E).xe (.ref a) {j with heap:=h'}:=by
 have h:∀b o,h'.get? b=aa o->_≠af->j.heap.get? b=aa o:=λb o q n=>by
  cases z:j.heap.get? b with
  |none=>show absurd z n
  |some r=>rw[J.keeps b r z]at q;show q
 show cT (bc (Xo _<|.ref a) (by let(t,q,v):=J.there;show(_,_,q,rfl,rfl)) (Q:=λv O=>mG a O.heap->gy P w outer H s E (.ref a) O) ?_) (λv v z=>z.1 z.2) λv v z=>z.1;show wpAny_leaves_madeW I.ok.frames rfl (λb o q=>Uo _ q)
  (PySem.W.funFrames_hide I.stack λg l b k=>Ur.mpr (g,l,k)) J λy t x G L Z i=>?_
 show ZI (ch:=[]) I rfl (Un.kept J.keeps) () rfl I.bare (yM I.bQ λb u v q=>J.keeps b u q) ?_ (YZ I rfl J.new) x Z (λb o q n=>?_) (λb o q n m v=>vr _ (h b o q n) m) Y ((λd q=>nomatch q),λv=>i)
 .cases q:B a with
  |none=>rfl
  |some u=>let(o,z):=yI<|I.bQ a u q;rw[J.new]at z;cases z
 .cases q1:B b with
  |none=>show absurd q1 n
  |some u=>
   let(F,z):=yI<|I.bQ b u q1;show vr _ (h b o q ()) λp=>n<|I.u4 b p
theorem wm(I:Inv (Kt (gy P w) P w K mg base N qual scope f cd A outer s H E) j U S W)
 (O:gy P w (Kt (gy P w) P w K mg base N qual scope f cd A outer s H E).stack S W J e σ) (Y:∀c o H',J c o H'->E c o H'):(Kt (gy P w) P w K mg base N qual scope f cd A outer s H E).xe e σ:=by
 let(a,C,H',L,rfl,Z,g,h,i,un,d,k,l,(B,t,x,p,r)):=O;show Iu I.ok.frames rfl x g λG y F u=>ZI I rfl un () h i d k (YZ I rfl l) y F p (λb o z n m q=>r b o z n m) (Y _ _ _ Z) u
theorem YC{U:St}{Y O:e9}{Z vs:Array aN}{φ:bN->Prop}(I:Inv (Kt (gy P w) P w K mg base N qual scope f cd A outer s H E) B U j σ)
 (zil:j a=aa (.ext φ)) (a4:σ.heap.get? a=aa Y) (a5:Y.data=.fields Z) (kp:∀b,b≠a->h'.get? b=σ.heap.get? b) (S:h'.get? a=aa O) (a6:O.cls=.ref C) (a7:O.dict=aa d) (a8:O.data=.fields vs) (h1:vs[1]? = aa .none) (h0:vs[0]? = aa (.ref t)) (hs:s.heap.get? a=af) (hE:E (.ref C) (aa d) (λb=>if b=a then af else j b)):(Kt (gy P w) P w K mg base N qual scope f cd A outer s H E).xe (.ref a) {σ with heap:=h'}:=by
 have J:∀b o,b≠a->_=aa o->h'.get? b=aa o:=λb o n q=>(kp b n).trans q;have e b o:j b=aa o->(∀φ,o ≠ .ext φ)->(if b=a then af else j b)=aa o:=λq z=>by rw[DY (λw=>by rw[w,zil]at q;cases q;show z _ rfl),q]
 have i:(B3 h' (a::hS (Kt (gy P w) P w K mg base N qual scope f cd A outer s H E).stack)).get? a=af:=P_ _ ();show Oe (od:=aa d) I.ok.frames (PySem.W.funFrames_hide (I.stack.of_keeps λb o q n=>(o,J b o (λz=>by rw[z,a4]at q;cases q;show n Z a5) q,rfl)) λh S b g=>eV _<|Ur.mpr (h,S,g)) rfl S (λb o q=>Uo _ q) i a8 h1 h0
  ((λR q=>by cases q;show(_,S,a7)),λq=>nomatch q) λQ k l=>?_
 rw[a6]at k;let(r,(v,v,x),y,L):=k;show ZI (ch:=[a]) I rfl (λb o q n v m=>J b o (~~~m) q,λb o q n v m=>(o.slots,J b o (~~~m) q),λb o q n m=>by rw[DY (~~~m),n],λb o q m=>(o,J b o (~~~m) q),λb M q=>e b _ q nofun,λb o u q=>e b _ q nofun,λb X q=>(#[],by rw[e b _ q nofun];simp))
  (λb o q m=>by cases mY.mp m;cases hs.symm.trans q) rfl I.bare (λb o q=>?_) (DJ rfl) hs (r,i,x,y) L (λb o q n=>?_) (λb o q n F G=>vr _ q λz=>(d8.mp z).elim (~~~G) F) hE l
 .have q:=q
  by_cases g:b=a
  .lia
  .rw[DY g]at q
   show(I.bQ b o q).mr (λc u T z=>J c u (λw=>by lia) z) (λc z=>e c _ z nofun) λc M z=>e c _ z nofun
 .by_cases g:b=a
  .lia
  .rw[DY g]at n
   show vr _ q λz=>(d8.mp z).elim g λp=>n<|I.u4 b p
theorem Xh(I:Inv (Kt (gy P w) P w K mg base N qual scope f cd A outer s H E) e S j B)
 (z:j a=aa (.ext U)) (O:B.heap.get? a=aa (Wf C (aa d) t)) (hs:s.heap.get? a=af) (J:E (.ref C) (aa d) (λb=>if b=a then af else j b)):(Kt (gy P w) P w K mg base N qual scope f cd A outer s H E).xe (.ref a) B:=
 YC I z O rfl (λq q=>rfl) O rfl rfl rfl rfl rfl hs J
end
def LG(o:e9):xz ClassData:=match o.data with
 |.cls a=>aa a
 |_=>af
def Rl(K:aO)(C:ak):Bool:=match K.lookup C with
 |some o=>o.cls==sA "type"&&o.slots.size==6&&(o.slots.toList.drop 4).take 1 == [aa (Value.builtin "ValueError.__new__")]&&(match LG o with
  |some a=>a.mro.take 1 == [i3 C]&&!a.hasDel&&OA K nO (a.mro.drop 1)&&OK K a.ns&&oL K a.ns "__init__" == aa af
  |none=>aF)
 |none=>aF
theorem ES(h:pT l=6)(e:(l.drop 4).take 1=[a]):∃z j B H I,l=[z,j,B,H,a,I]:=by
 cases l with
 |nil=>cases h
 | cons z l=>cases l with
  |nil=>cases h
  | cons j l=>cases l with
   |nil=>cases h
   | cons B l=>cases l with
    |nil=>cases h
    | cons H l=>cases l with
     |nil=>cases h
     | cons b l=>cases l with
      |nil=>cases h
      | cons I l=>cases l with
       |nil=>
        cases e;lia
       |cons d l=>simp at h
theorem Fk(e:l.take 1=[a]):l=a::l.drop 1:=by
 cases l with
 |nil=>cases e
 |cons b l=>grind
structure XC(K:aO)(mg:DZ)(c:Str):Prop where
 all:Vl K=ae
 mem:c∈g0
 ex:∃C,wF K c=aa C/\mg c=aa (.ref C)/\Rl K C=ae
def Jo(c:Xn)(od:xz ak)(e:Hp):Prop:=match c.2 with
 |none=>od=af
 |some i=>∃d,od=aa d/\e d=aa (.xd [(VA c.1,.int i)])
def XW(X:Cx)(I J:Hp)(c:Xn):Prop:=(∀f z h g i l a C r,Inv X f z h i->Ext I J g h->Vl X.K->c.1∈g0->wF X.K c.1=aa C->c.2=af->
 Heap.MadeExcOf i.heap l a (.ref C) r->X.xe (.ref a) {i with heap:=l})/\
 (∀f z h g i e m,Inv X f z h i->Ext I J g h->
   gy X.prog X.w X.stack h i (λk p o=>∃C j,k=.ref C/\Vl X.K/\c.1∈g0/\wF X.K c.1=aa C/\Jo c p j/\Ext g h j o) e m->X.xe e m)/\
 ∀f z h g i a C d t s,Inv X f z h i->h a=aa (.ext s)->i.heap.get? a=aa (Wf C (aa d) t)->(X.ex=[]->X.fy.heap.get? a=af)->
  Ext I J g (λb=>if b=a then af else h b)->Vl X.K->c.1∈g0->wF X.K c.1=aa C->Jo c (aa d) g->X.xe (.ref a) i
def Px(X:Cx)(st:de)(G:CO Xn):Prop:=∀a s d H z I e b c,Inv X a d H s->RS X.K z I e H d b->G b=aa c->XW X z I c->
 ⇑X (exec st ⋯) (λ_ _=>False) X.xe s
def ra(X:Cx)(e:zn de)(G:CO Xn):Prop:=∀a s d H z I f b c,Inv X a d H s->RS X.K z I f H d b->G b=aa c->XW X z I c->
 ⇑X (execs e ⋯) (λ_ _=>False) X.xe s
section
variable{X:Cx}{sc:cS}{N L:zn Str}{k:Nat}{st:de}{rest:zn de}{G G':CO Xn}{F:CO Fl}
theorem SX.cY(h:SX X sc N L k)(E):SX (X.cY E) sc N L k:=(h.l4,h.eN,h.nd,h.calm,h.room,h.fn)
theorem QV:Px X st eR:=λa s g H z J b f c I d e q=>by cases e
theorem xi:ra X j eR:=λa s g H z J b f c I d e q=>by cases e
theorem ja(h:Px X st G):ra X (st::rest) G:=λa s g H J O b f c I d e w=>
 nX (cT (h a s g H J O b f c I d e w) (λq q z=>z.elim) λq q z=>z)
theorem jS(B:Px X st G)(S:fH X.eQ st F)(U:ra X rest G'):ra X (st::rest) (vz G F G'):=λb s m H J O j i c I l e w=>by
 erw[vz]at e;cases q:G i with
 |some t=>
  rw[q]at e;cases e;show ja B b s m H J O j i c I l q w
 | none=>
  rw[q]at e;let(p,o,k):=zc e;cases p with
  | next g=>
   show nX<|cT (S b s m H {nx:=λd h=>∃a,RS X.K J O a h d g,rt:=λx x=>False} (I.cY _) (J,O,j,i,.next g,l,o,λd h a Y=>(a,Y))) (λf r z=>?_) λx x z=>z.elim;cases f with
   |next=>
    let(d,h,Z,a,Y):=z;show U b r d h J O a g c Z.gL Y k w
   |ret v=>let(x,x,x,x,x,z):=z;show z.elim
   |brk=>let(x,x,x,z):=z;show z.elim
   |cont=>let(x,x,x,z):=z;show z.elim
  |_=>cases k
theorem vn(W:gk X.eQ c B)(S:ra X x G)(U:ra X y G'):Px X (.If c x y pos) (gU B G G'):=λa s i H J O k h m I g e w=>by
 let(t,u,o):=zc e;show wpAny_If<|cT (W a s i H (λb j=>b=t/\∃d,Ext k H d j) (I.cY _) (k,h,t,g.rc,u,λj d x=>(rfl,d,x))) (λb p z=>?_) λq q z=>z.elim;let(l,Y,rfl,f,r):=z;cases b with
 |true=>show S a p i l J O f h m Y.gL (g.step r) o w
 |false=>show U a p i l J O f h m Y.gL (g.step r) o w
theorem ye(h:SX X.eQ sc N L k)(hc:qz sc c)(x:XC X.K X.mg c)(ha:PV X.eQ a f)(hf:∀M,∃d,f M=aa d:=by intro M;show(_,rfl))
 (hs:ck [a] ⋯=[(aF,bH a ⋯)]:=by rfl):Px X (.Raise (aa (.Call (.Name c np) [a] [] cpos)) af pos) (mP c):=λi s U H F0 F1 S M cc I rs e w=>by
 cases e;let(C,x1,x2,p):=x.ex;have R:=M4;have hh:X.A.handled=af:=I.ok.hd (show X.calm from h.calm);have a7:=h.gl hc;let(d,m):=hf M;have KI:=I.df;have cls:∃nm q N bs bm hdct sn sub ab col dd k0 k1 k2 k3 k5,X.K.lookup C=aa (zd nm q C N bs bm hdct sn sub ab col dd k0 k1 k2 k3 k5 "ValueError.__new__")/\OA X.K nO bm/\OK X.K N/\oL X.K N "__init__" = aa af:=by
  erw[Rl]at p;cases B:X.K.lookup C with
  |none=>rw[B]at p;cases p
  | some o=>
   rw[B]at p;let(oc,dd,G,P):=o;simp?[eH,beq_iff_eq]at p;let(((y1,y2),y3),O):=p;subst y1;let(k0,k1,k2,k3,k5,hs):=ES (~~~y2) y3;cases m:LG (.type "type",dd,G,P)with
   |none=>rw[m]at O;cases O
   | some cd=>
    rw[m]at O;have aw:G=.cls cd:=by
     erw[LG]at m;cases G with
     |cls b9=>cases m;rfl
     |_=>cases m
    subst aw;simp?[eH,beq_iff_eq,t8]at O;let((((y5,a9),Z),b),t):=O;let(nm,bs,γ,ns,qn,b0,sn,sub,ab,col,bb):=cd;dsimp only at y5 a9 Z b t;subst a9;have b1:P = #[k0,k1,k2,k3,aa (.builtin "ValueError.__new__"),k5]:=by obtain⟨l⟩:=P;simp only at hs;rw[hs]
    subst b1;have y:=Fk y5;generalize γ.drop 1=bm at y Z;subst y;show(nm,qn,ns,bs,bm,b0,sn,sub,ab,col,dd,k0,k1,k2,k3,k5,rfl,Z,b,t)
 let(nm,q,J,bs,bm,hdct,sn,sub,ab,col,dd,k0,k1,k2,k3,k5,B,Z,b,t):=cls;have σ:∀{g},X.K.In g->Pc g nO bm:=λY=>A6 Y Z;show wpAny_Raise_call_subT (C:=C) (nm:=nm) (q:=q) (N:=J) (bs:=bs) (bm:=bm) (hdct:=hdct) (sn:=sn) (sub:=sub) (ab:=ab) (col:=col) (dd:=dd) (k0:=k0) (k1:=k1) (k2:=k2) (k3:=k3) (k5:=k5)
  R (mN:=X.base.nsMap J) ((σ KI).hasType R.hasBase) hh (by rw[hs];rfl) (PySem.W.nsMap_none_of_in I.ok.mod.oS b t) (xE I (show Gl X c from a7.1) x2 (rfl,?_) a7.2.2)
 have b2:PA X.eQ [a] _:=zX ha jG (show ck [a] X.eQ.env=[(aF,bH a X.eQ.env)]from hs);have ad:=b2 cpos i s U H (λvs F=>∃v,vs=[v]/\∃j,Ext S H j F) (I.cY _) (S,M,d,rs.rc,m,λv H' E Q rr=>(v,rfl,E,Q));rw[hs];rw[show ck [a] X.eQ.env=[(aF,bH a ⋯)]from hs]at ad;show Td<|cT ad (λus s2 hZ=>?_) λn n z=>z.elim;let(vs,F,r,rv,v,ev,j,Q):=hZ;subst ev;let(u,rfl,ru):=kg rv;have r:=r.gL;have T:=r.df;have n1:X.base.Ns J (X.base.nsMap J):=.of_isNs (PySem.W.isNs_of_in I.ok.mod.oS b);have b6:s2.heap.Ns J (X.base.nsMap J):=n1.keeps r.bk;show(rfl,by change 1<=cP;decide,T _ _ B,b6,σ T,λh' e y=>w.1 i U F j s2 h' e C _ r (rs.ext.trans Q) x.all x.mem x1 rfl y)
end
inductive pJ(K:aO)(n:Nat)(G:List D->Option Xn)(vs:List V)(H:Hp)(_:VK)(E:XK):Prop
 |mk (H0 ds c) (_:dj H0 H) (_:bz K H0 ds vs) (_:ds.length=n) (_:G ds=aa c) (_:∀C H' cU od,Vl K=ae->c.1∈g0->wF K c.1=aa C->Jo c od cU->Ext H0 H cU H'->E (.ref C) od H')
theorem pJ.len{K:aO}{n:Nat}{G:zn D->xz Xn}{ps:zn Str}(e:ps.length=n):∀vs H Q E,pJ K n G vs H Q E->vs.length=ps.length:=λvs H Q E h=>by let(d,f,c,q,a,b,q):=h;rw[a.length,b,e]
structure fC(P:cQ)(w:cN)(K:aO)(mg:DZ)(base:bN)(k:Nat)(x:Str)(n:Nat)(G:List D->Option Xn):Prop where
 ex:∃(f:ak) (fd:gh) (ps:List Str),ps.length=n/\↑fh (gy P w) k f fd ps (pJ K ps.length G)/\mg x=aa (.ref f)/\mV K (.ref f)=ae/\Binds K fd ps []
theorem Oa{K:aO}{W:DZ}{st:de}{f:ak}{U:gh}{N ps:zn Str}{k:Nat}{G:CO Xn}(Fu:L2.i5 K x q st f U)(hd:Zp N ps st)
 (a9:∀X,X.prog=P->X.w=w->X.K=K->X.mg=W->X.base=base->SX X (zR st) N N k->ra X (jL st) G):fh P w K W base (gy P w) (k+1) f U ps (pJ K (pT ps)<|ZE (pT N) G):=by
 have S:=kz hd;have b0:pT ps<=pT N:=by have:=congrArg pT S.pre;rw[E7]at this;lia
 show aU λZ=>?_;let(oc,od,kV,doc,pm,an,Dg,ct,tL,rfl,lk,ac):=Fu.ex;show Z ?_;show Ec lk ac S (pJ.len rfl) λA p s H vs Q E hr al=>(λv T h=>T=Jc N vs/\h=H,λb s1 T L D I m=>?_,rfl,rfl);show aU λZ=>?_;let(rfl,rfl):=m;let(F,ds,c,s0,h1,h2,h3,h4):=al;show Z ?_;show cT (a9 _ rfl rfl rfl rfl rfl (rfl,rfl,S.nd,rfl,hr,λv v=>.inl rfl) b s1 _ L F L F _ c I (JI s0 h1 ()) h3 (λM g j Y R h' a C us J O r y u B l=>Xg J l<|h4 C j Y af r y u (by erw[Jo];rw[B]) O,λM g j Y R e s' J O l=>?_,λM g j Y R a C d t φ J y1 y2 y3 O r y u B=>Xh J y1 y2 (y3 rfl)<|h4 C _ Y (aa d) r y u B O)) (λv v z=>z.elim) λv v z=>z
 .refine wm J l λcc o h z=>?_
  let(C,i,rfl,z1,z2,z3,z4,z5):=z;show h4 C h i o z1 z2 z3 z4<|O.trans z5
theorem vN{K:aO}{st:de}{N ps:zn Str}{k:Nat}{G:CO Xn}(A:cJ K e x st ps)(j:Zp N ps st)
 (I:∀X,X.prog=P->X.w=w->X.K=K->X.mg=e->X.base=base->SX X (zR st) N N k->ra X (jL st) G):fC P w K e base (k+1) x (pT ps) (ZE (pT N) G):=by
 let(f,a,z,b,d):=A.ex;show(f,a,ps,rfl,Oa z j I,d,z.kp,.all b)
section
variable{X:Cx}{sc:cS}{N L:zn Str}{k j n:Nat}{e:bE}{es:zn bE}{g:CO (zn D)}{G:zn D->xz Xn}{x:Str}{p pos:cH}
inductive Left(X:Cx)(pins:TW)(U:St)(H0 H:Hp)(cc:Xn)(e:aN)(s':bB):Prop
 |mk (H1 n4 s1) (_:Inv X pins U H1 s1) (_:Ext H0 H n4 H1) (_:gy X.prog X.w X.stack H1 s1 (λcls od H'=>∃C cU,cls=.ref C/\Vl X.K=ae/\cc.1∈g0/\wF X.K cc.1=aa C/\Jo cc od cU/\Ext n4 H1 cU H') e s')
theorem YO{B:TW}{W:St}{H H0:Hp}{M:Ctx}{S:zn D}{U:Xn}{s:bB}(hf:⇑fC j x n G)(Z:j<=k)(h:SX X sc N L k)(c:qz sc x=ae)(ha:i6 X.eQ (e::es) n g)
 (I:Inv X B W H s) (rc:RC X.K H0 H W M) (O:g M=aa S) (eG:G S=aa U)
 (he:ck (e::es) ⋯=(aF,bH e ⋯)::ck es ⋯:=by rfl) (a2:(ft pos<|starEach es ⋯).any (·.1)=aF:=by rfl):
 ⇑X (bH (.Call (.Name x p) (e::es) [] pos) ⋯) (λq q=>False) (Left X B W H0 H U) s:=by
 show aU λkZ=>?_;let(fa,fd,ps,hn,F,T,R,Q):=hf.ex;show kZ ?_;subst hn;show nW<|xE I (h.gl c).1 T ?_ (h.gl c).2.2;show D8 I.ok.mod.oS R (cT (ha.1 pos B s W H (λo f=>∃b,_/\_) (I.cY _) (H0,M,S,rc,O,λo i a x r=>(a,x,r))) (λE m (o,f,J,Y,b,γ,y)=>(J.gL.df,?_)) λq q z=>z.elim) he a2;have J:=J.gL;show o8 (pS (F.run X.A X.stack m f _ E o (λq q=>False) (λl t i=>∃C a,l=.ref C/\_/\_/\_=aa C/\Jo U t a/\Ext b f a i) (h.room.mono Z) J.nR
  (~~~Q m E J.df (~~~(by rw[<-Y.length];show(by rw[y.length];show ha.2 M S O)))) Y (b,S,U,γ.sub,y,ha.2 M S O,eG,λC i a t xa xm xc xn xx=>(C,a,rfl,xa,xm,xc,xn,xx))) λr s' d=>?_)
 cases r with
 |error e=>show(f,b,m,J,γ,d)
 |ok P=>
  cases P with
  |ret u=>let(q,q,q,q,q,q,q,z):=d;show z.elim
  |next=>show d.elim
  |brk=>show d.elim
  |cont=>show d.elim
theorem wZ(U:⇑fC j x n G)(J:j<=k)(h:SX X.eQ sc N L k)(c:qz sc x)(B:i6 X.eQ (e::es) n g)
 (S:ck (e::es) ⋯=(aF,bH e ⋯)::ck es ⋯:=by rfl) (O:(ft pos<|starEach es ⋯).any (·.1)=aF:=by rfl)
 (hs:hU (.Call (.Name x p) (e::es) [] pos) af spos.line ⋯=pure aF:=by rfl):
 Px X (.Expr (.Call (.Name x p) (e::es) [] pos) spos) (qF G g):=λa s y H A C E P F I d Y w=>by
 let(M,m,o):=zc Y;show Oq (cT (YO U J ((h.l4,h.eN,h.nd,h.calm,h.room,h.fn)) c B I d.rc m o S O) (λq q z=>z.elim) λZ r z=>?_) I.quiet hs;let(f,b,t,i,u,l):=z;show w.2.1 a y f b t Z r i (d.ext.trans u) l
end
def tD(X:Cx)(e:aN):Cx:={X with A:=X.A.mark<|some e,calm:=aF,xe:=λ_ _=>False}
theorem ay(I:L2.Inv X j B H s)(e):L2.Inv (tD X e) j B H s:=
 ((I.ok.mod,I.ok.kind,I.ok.glob,I.ok.blt,I.ok.above,I.ok.inj,I.ok.has,I.ok.uQ,(λz=>nomatch z),I.ok.frames,I.ok.A2,I.ok.sY,I.ok.bs,I.ok.nP,I.ok.u0,I.ok.sZ,I.ok.mc,I.ok.oh),I.os,I.bare,I.base,I.loc,I.cell,I.free,I.nz,I.pin,I.bQ,I.len)
theorem dC(ok:X.Ok)(I:L2.Inv (tD X e) j z H s):L2.Inv X j z H s:=
 (ok,I.os,I.bare,I.base,I.loc,I.cell,I.free,I.nz,I.pin,I.bQ,I.len)
theorem zli{B:TW}{H:Hp}{A:ec}{E:EQ}{Q:Unit->bB->Prop}{i:Nat}{n:Str}{pos:cH}(I:L2.Inv X B U H s)(Y:X.N.Nodup)(W:X.N[i]? = aa n)(Z:⋯.scope.names.lookup n=aa .local)
 (h:∀S,L2.Inv X B (U.set i af) H S->Q ⟨⟩ S):wpAny M A (do bindName ⋯ n .none;unbindBehindTheSuite ⋯ n pos) Q E s:=by
 let(m,C,G):=id I.loc;show wpAny_nameGoes_keeps Z C (by rw[I.ok.kind];rfl) λh' v u a=>h _ ?_;have O:∀b o,_=aa o->b≠⋯.locals:=λb o e=>eS<|hV (ei e) I.ok.above;show(I.ok,I.os,I.bare,(λb o e n g J=>(a.2 b<|O b o e).trans (I.base.keep b o e n g J),λb o e n g J=>?_,I.base.free,λb o e J=>?_,I.base.m9,I.base.mS,I.base.mU),(_,u,λj y v' l f w=>?_),λy c e=>?_,I.free,I.nz,λp F=>?_,λb P e=>?_,~~~I.len)
 .let(T,z):=I.base.slot b o e n g J
  show(T,(a.2 b<|O b o e).trans z)
 .let(L,z):=I.base.there b o e J
  show(L,(a.2 b<|O b o e).trans z)
 .rcases zI f with⟨_,z,_⟩|⟨x,f⟩
  .cases z
  .let(u',R,q):=G j y v' l f w
   show(u',R,?_);rcases q with⟨k,e⟩|⟨k,c,e,z⟩
   .refine .inl (k,?_)
    have:y≠n:=λe=>x<|ah Y l<|e ▸ W;simp[this,e]
   .exact .inr (k,c,e,z.sameBut a<|I.rj y c e)
 .let(t,z):=I.cell y c e
  show(t,z.sameBut a<|I.rj y c e)
 .let(e,n,r,K,d):=I.pin p F
  show((a.2 p.1 r).trans e,n,r,K,d)
 .refine(I.bQ b P e).mr (λc t hc q=>(a.2 c ?_).trans q) (λV q=>q) λV V q=>q
  rintro rfl;rcases hc with hc|hc
  .rw[<-hc,I.free]at e;cases e
  .rw[I.free]at hc;lia
structure XS(K:aO)(mg:DZ):Prop where
 ex:∃S,wF K "SplitError" = aa S/\mg "SplitError" = aa (.ref S)/\p9 K (.ref S)=aa (.type "type")/\mW K S (.type "BaseException")=aa ae/\(o6 K S).isSome=ae/\mW K S (.ref S)=aa ae
set_option tactic.hygienic true in
theorem zhZ{K:aO}(X:K.In h)(I:aX h a C)(e:p9 K (.ref S)=aa (.type "type"))(j:mW K S (.type "BaseException")=aa ae)(B:(o6 K S).isSome)(H:mW K C (.ref S)=aa ae):
 t6 M h (PB (.ref a)<|.ref S) ae:=by
 have J:t6 M h (IZ<|.ref S) ae:=by
  let(t,z):=u9.mp B;erw[o6]at z;split at z
  .rename_i r u o p O
   intro i m l G k q;erw[IZ,loadHead];show aL<|Ux (k _ _<|X _ _ O)<|bW q
  lia
 have Y:=Te (M:=M) X H;have Z:t6 M h _ aF:=.of_pure tc_notTuple;intro A Q E s k q;let(y,x,w,L,F):=s;have b:=(ZK (M:=M) I).keeps k;have d:=(Te (M:=M) X j).keeps k;have f:=Y.keeps k;have g:=Z.keeps k;erw[PB,isExcClass,PK]
 repeat (first|with_reducible show((PySem.W.looks_typeIn (M:=M) X e).keeps k).at ?_|with_reducible show g.at ?_|with_reducible show(J.keeps k).at ?_|with_reducible show d.at ?_|with_reducible show b.at ?_|with_reducible show f.at ?_|wp_step)
 show q
section ap
variable(M:Ctx)
@[simp] def EF:=@zU.eq_1
@[simp] def AR:=@j7.eq_1
@[simp] def aP:=@z7.eq_1
@[simp] def mx:=@zf.eq_1
@[simp] def ic:=@zk.eq_1
@[simp] theorem Wk(d):zJ d M=aa d:=rfl
@[simp] def AU:=@zF.eq_1
@[simp] def Tv:=@sB.eq_1
@[simp] def znn:=@BM.eq_1
@[simp] def znz:=@iL.eq_1
@[simp] def Lm:=@jY.eq_1
@[simp] def znq:=@Bd.eq_1
@[simp] def znA:=@RH.eq_1
@[simp] def znE:=@fi.eq_1
@[simp] theorem AQ:zA M=aa []:=rfl
@[simp] def ku:=@za.eq_1
@[simp] def znv:=@qf.eq_1
@[simp] def znd:=@qi.eq_1
@[simp] def zna:=@jN.eq_1
@[simp] def QA:=@qv.eq_1
@[simp] def AN:=@yW.eq_1
@[simp] def zm8:=@bK.eq_1
@[simp] def znj:=@Mx.eq_1
@[simp] def Kg:=@dt.eq_1
@[simp] def AM:=@jT.eq_1
@[simp] def zm7:=@xU.eq_1
@[simp] def zni:=@rT.eq_1
@[simp] def zmk:=@jQ.eq_1
@[simp] def wx:=@zD.eq_1
@[simp] def zmW:=@jA.eq_1
@[simp] def EG:=@zT.eq_1
@[simp] def AO:=@jE.eq_1
@[simp] def zms:=@KN.eq_1
@[simp] def Ot:=@WM.eq_1
@[simp] def Y2:=@Kj.eq_1
@[simp] def Ju:=@zL.eq_1
@[simp] theorem znu:jh M=aa ae:=rfl
@[simp] def znl:=@wL.eq_1
@[simp] def zm9:=@Hf.eq_1
@[simp] def Ln:=@aR.eq_1
@[simp] def PP:=@iK.eq_1
@[simp] theorem znB:Jz M=aa af:=rfl
@[simp] def zav:=@eo.eq_1
@[simp] def znx:=@rO.eq_1
@[simp] def Ow:=@X3.eq_1
@[simp] def zau:=@z8.eq_1
@[simp] def zl9:=@jk.eq_1
@[simp] def zmt:=@rQ.eq_1
@[simp] def znw:=@Ly.eq_1
@[simp] def OB:=@iO.eq_1
@[simp] def znp:=@Lz.eq_1
@[simp] def znf:=@QS.eq_1
@[simp] def zm4:=@BH.eq_1
theorem jf(F G):zV F G M=(F M).bind λe=>match e with
 |.next a=>G a
 |f=>aa f:=rfl
end ap
@[simp] theorem Os(ds):qg (.tup ds)=aa (.T,ds):=rfl
@[simp] theorem znr(ds):qg (.lst ds)=aa (.L,ds):=rfl
@[simp] theorem wt(d):Aw (aa (.val d))=aa d:=rfl
@[simp] theorem YV(d):Zr (aa (.val d))=qg d:=rfl
@[simp] theorem zl6(d):Zr (aa (.own d))=aa (.L,d):=rfl
@[simp] theorem zmd(d):Zs (aa (.own d))=aa d:=rfl
@[simp] theorem zmb(d):gY (aa (.val d))=aa (.ret<|.val d):=rfl
@[simp] theorem zmc(d):gY (aa (.own d))=aa (.ret<|.own d):=rfl
@[simp] theorem znt(b):nN (.bl b)=aa b:=rfl
@[simp] theorem hJ(b):gP (.int b)=aa b:=rfl
@[simp] theorem zmo(d):nB (.val d)=d:=rfl
@[simp] theorem zmp(d):nB (.own d)=.lst d:=rfl
@[simp] theorem zmn(d):TQ (.own d)=aa d:=rfl
@[simp] theorem zmU(i j):Vj (.int i) (.int j)=aa (.int<|i-j):=rfl
@[simp] theorem zmz(i j):qM (.int i) (.int j)=aa (.int<|i+j):=rfl
@[simp] theorem Et(i j):kM (.int i) (.int j)=if 0<j then aa (.int<|i%j)else af:=by change(if PH i j then _ else _)=_;simp[PH]
@[simp] theorem zmy(i j):Vz (.int i) (.int j)=if 0<j/\j<1073741824 then aa (.int<|i/j)else af:=by
 change(if On i j then _ else _)=_;have e:(On i j)=(0<j/\j<1073741824):=by erw[On];simp?[eH,decide_eq_true_eq,decide_eq_true_eq];apply propext;constructor<;>intro h<;>show(h.1,())
 simp?[e]
@[simp] theorem zmx(i j):wM (.int i) (.int j)=if pd i j then aa (.int<|i*j)else af:=rfl
@[simp] theorem zmV(i j):IT (.int i) (.int j)=if Om i j then aa (.int<|i^j.toNat)else af:=rfl
@[simp] theorem zmZ(i j):pk (.int i) (.int j)=aa (.bl<|decide<|i<j):=rfl
@[simp] theorem zm0(i j):mR (.int i) (.int j)=aa (.bl<|decide<|i<=j):=rfl
@[simp] theorem zm1(i j):ph (.int i) (.int j)=aa (.bl<|decide<|j<i):=rfl
@[simp] theorem zm2(i j):Dh (.int i) (.int j)=aa (.bl<|decide<|j<=i):=rfl
@[simp] theorem SL(i j):cO (.int i) (.int j)=aa (.bl<|decide<|i=j):=by erw[cO];show congrArg (λb=>aa (D.bl b)) (by rw[Oy];simp[fx])
@[simp] theorem zmY(i j):gQ (.int i) (.int j)=aa (.bl<|!decide (i=j)):=by rfl
@[simp] theorem zmg(i is d ds M):xT (i::is) (d::ds) M=xT is ds (M.set i<|.val d):=rfl
@[simp] theorem zmf(ds M):xT [] ds M=M:=by cases ds<;>rfl
@[simp] theorem zmA(i d M):qy (.nm i) d M=aa (M.set i<|.val d):=rfl
@[simp] theorem zmr(i j a b M):qy (.tp [i,j]) (.tup [a,b]) M=aa ((M.set i<|.val a).set j (.val b)):=rfl
@[simp] theorem zl0(M)(G:CO Fl):(aa (Fl.next M)).bind (λe=>match e with
 |.next γ'=>G γ'
 |f=>aa f)=G M:=rfl
theorem mj(i j)(e : -(2^64)<j)(z:j<2^64):pd i j:=by erw[pd];lia
theorem ZY(i j:Int)(e : -(2^64)<i)(z:i<2^64):pd i j:=by erw[pd];rw[t4];left;show decide_eq_true ()
theorem yb(e : -(2^62)<i)(j:i<2^62):inR i:=by erw[inR];lia
@[simp] theorem k9(n k:Nat):eL n k=if k<n then aa k else af:=by
 erw[eL];by_cases h:k<n
 .rw[DJ (Int.natCast_nonneg k,()),DJ h];simp
 .rw[DY (),DY (),DY h]
theorem jm:lim=2500:=rfl
@[simp] theorem zmT:0<=lim:=g8 _
@[simp] theorem zmS:1<=lim:=by decide
@[simp] theorem zmR:2<=lim:=by decide
@[simp] theorem zmQ:3<=lim:=by decide
@[simp] theorem Pi:4<=lim:=by decide
@[simp] theorem zmP:5<=lim:=by decide
@[simp] theorem zmO:6<=lim:=by decide
@[simp] theorem zmN:7<=lim:=by decide
@[simp] theorem zmM:8<=lim:=by decide
@[simp] theorem zmK:0<lim:=by decide
@[simp] theorem IF(h:n<=lim):inR n:=yb () (by have:=jm;lia)
@[simp] theorem ix0(n):eL (n+1) 0=aa 0:=k9 (n+1) 0 ▸ rfl
@[simp] theorem ix1(n):eL (n+2) 1=aa 1:=by have:=k9 (n+2) 1;simpa using this
@[simp] theorem ix2(n):eL (n+3) 2=aa 2:=by have:=k9 (n+3) 2;simpa using this
theorem zq(r:α->D):∀(l:zn α),(∀x∈l,zM T k f M [g x]=aa [r x])->zM T k f M (l.map g)=aa (l.map r)
 |[],_=>rfl
 | x::l,h=>by
  have a:=h x fA;simp?[kT,zM]at a ⊢;cases e1:qy T (g x) M with
  |none=>grind
  | some z=>
   rw[e1]at a;simp?[dU]at a ⊢;cases e2:k z with
   |none=>grind
   | some b=>
    rw[e2]at a;simp?[dU]at a ⊢;cases b with
    |false=>simp at a
    | true=>
     cases e3:f z with
     |none=>grind
     |some e=>
      rw[e3]at a;simp at a;rw[(zq r l λy I=>h y<|eV _ I)];simp[a]
theorem zu(j:qy T d M=aa FT)(z:k FT=aa ae)(B:f FT=aa e):zM T k f M [d]=aa [e]:=by simp[zM,j,z,B]
theorem ko(T F d e M):vM T F (d::e) M=(qy T d M).bind λI=>(F I).bind λj=>match j with
 |.next z=>vM T F e z
 |.cont z=>vM T F e z
 |.brk z=>aa (.next z)
 |.ret r=>aa (.ret r):=rfl
theorem YK(P:Nat->Ctx->Prop):∀j k M,P k M->(∀i d M,j[i]? = aa d->P (k+i) M->∃γ',((qy T d M).bind F=aa (.next γ')\/(qy T d M).bind F=aa (.cont γ'))/\P (k+i+1) γ')->
 ∃γ',vM T F j M=aa (.next γ')/\P (k+pT j) γ'
 |[],k,M,h,_=>(M,rfl,h)
 | d::j,k,M,h,step=>by
  let(z,e,f):=step 0 d M rfl h;let(γ',b,g):=YK P j (k+1) z (~~~f) (λi a I l m=>by have:=step (i+1) a I (~~~l) ();rw[show k+(i+1)+1=k+1+i+1 by lia]at this;show this)
  show(γ',?_,by rw[show k+_=k+1+(pT j) by simp;lia];show g);rw[ko];cases eb:qy T d M with
  |none=>rw[eb]at e;simp at e
  |some J=>
   rw[eb]at e;simp?[dU]at e ⊢;rcases e with e|e<;>rw[e]<;>show b
def zZ(n:Nat)(f:Nat->Int):zn D:=(aT n).map λi=>D.int<|f i
theorem je(n f):zZ n f=(aT n).map λi=>D.int (f i):=rfl
def jy(h w:Nat)(f:DW):zn D:=(aT h).map λi=>D.tup<|zZ w<|f i
def qJ(h w:Nat)(f:DW):D:=.tup [.int h,.int w,.tup (jy h w f)]
@[simp] theorem Pv(n f):(zZ n f).length=n:=by simp[zZ]
@[simp] theorem El(h w f):(jy h w f).length=h:=by simp[jy]
@[simp] theorem SB(f)(h:i<(zZ n f).length):(zZ n f)[i]=.int (f i):=by simp[zZ]
@[simp] theorem zmX(f)(e:i<(jy h w f).length):(jy h w f)[i]=.tup (zZ w<|f i):=by simp[jy]
theorem J4(h:∀i,i<n->f i=g i):zZ n f=zZ n g:=by erw[zZ];simp_all
theorem Em(e:∀i j,i<h->j<w->f i j=g i j):jy h w f=jy h w g:=by erw[jy];apply mX;intro i a;rw[J4 λj z=>e i j (dy.mp a) z]
theorem Ei(e:∀i j,i<h->j<w->f i j=g i j):qJ h w f=qJ h w g:=by erw[qJ];rw[Em e]
theorem qo(n:Nat):JK 0 n=zZ n λi=>(i:Int):=by simp[JK,zZ]
theorem JA(n:Nat)(f g:Nat->Int):Vk (zZ n f) (zZ n g)=(aT n).map λi=>D.tup [.int (f i),.int (g i)]:=by erw[Vk,zZ];rw[B0];simp
theorem Bh(n w)(f g):Vk (jy n w f) (jy n w g)=(aT n).map λi=>D.tup [.tup (zZ w<|f i),.tup (zZ w<|g i)]:=by erw[Vk,jy];rw[B0];simp
def zN(f:Nat->Int):Nat->Int
 |0=>0
 |n+1=>zN f n+f n
theorem KG:∀(xs:zn Int) y,rz (xs.map D.int++[.int y])=(rz<|xs.map D.int).map λs=>s+y
 |[],y=>by simp[rz]
 |x::xs,y=>by simp?[kT,T6,rz];rw[KG xs y];cases e:rz _<;>simp[Int.add_assoc]
theorem vC(f):∀n,rz (zZ n f)=aa (zN f n)
 |0=>rfl
 |n+1=>by
  have z:=vC f n;have e m:zZ m f=((aT m).map f).map D.int:=by simp[zZ]
  rw[e]at z ⊢;simp?[pX,nG,nG,List.map_singleton,List.map_singleton,KG,z];simp[zN]
def ky:=jq 2<|qv<|jk<|z7<|zL (zT<|zk 1) (.nm 0) 1 [0] jh (zF kM (zf 0)<|zf 1)
def Ba:=jq 3<|qv<|zD ky<|za (zf 0)<|za (j7<|zL (zT<|zU<|aR (zk 1)<|sI 2) (.nm 0) 1 [2] jh (Ly<|z7<|zL (WM (zf 0)<|zf 1) (.tp [0,1]) 2 [] jh (zF wM (zf 0)<|zf 1))) zA
def qV:=jq 2<|zV (jT 1<|j7<|zL (jE<|aR (zk 0)<|sI 1) (.nm 0) 1 [0] jh (jk<|z7<|zL (zT<|zU<|aR (zk 1)<|sI 2) (.nm 0) 1 [0] jh (aR (zk 0)<|zf 1)))<|qv<|qf<|za (aR (zk 0)<|sI 1)<|za (aR (zk 0)<|sI 0)<|za (jk<|zk 1) zA
def qQ:=jq 2<|zV (jT 1<|j7<|zL (jE<|zf 0) (.nm 0) 1 [0] jh (jk<|z7<|zL (jE<|zf 1) (.nm 0) 1 [0] jh (fi (sB<|zF cO (zf 1)<|zf 0) (sI 1)<|sI 0)))<|qv<|qf<|za (zf 0)<|za (zf 0)<|za (jk<|zk 1) zA
def kF:=jq 2<|qv<|qf<|za (zf 0)<|za (zf 1)<|za (zF wM (qf<|za (zF wM (qf<|za (sI 0) zA)<|zf 1) zA)<|zf 0) zA
def Vd:=jq 3<|zV (Kj (KN (sI 1)<|zf 0) (.nm 2)<|dt (sB<|zF cO (zF kM (zF wM (zf 1)<|zf 2)<|zf 0)<|sI 1) (bK 2) jN) jP
def yV:=jq 5<|zV (jT 4<|aR (zk 1)<|zf 3)<|zV (dt (sB<|zF cO (zf 4)<|sI 0) (bK 1) jN)<|qv<|zD ky<|za (zf 0)<|za (j7<|zL (WM (zf 1)<|zf 2) (.tp [0,1]) 2 [4] jh (zF Vj (zf 0)<|zF wM (zf 2)<|zf 1)) zA
def J9:=(zV (jT 6<|j7<|zL (zT<|zk 3) (.nm 0) 1 [5] (sB<|zF gQ (aR (zk 0)<|zf 1)<|sI 0) (zf 0))<|zV (dt (jY<|BH<|zk 6) Mx jN)<|zV (jT 7<|zD Vd<|za (zf 0)<|za (aR (zU<|aR (zk 6)<|sI 0)<|zf 5) zA)<|zV (jT 8<|zD ky<|za (zf 0)<|za (j7<|zL (zT<|zU<|aR (zk 6)<|sI 0) (.nm 0) 1 [7] jh (zF wM (zf 1)<|zf 0)) zA)<|zV (jT 3<|j7<|zL (zT<|zk 3) (.nm 0) 1 [0,5,8] jh (zD yV<|za (zf 1)<|za (zf 0)<|za (zf 3)<|za (zf 2) zA))<|xU 4<|wL (z7<|zL (zT<|zk 4) (.nm 0) 1 [0,5,8] jh (zD yV<|za (zf 1)<|za (zf 0)<|za (zf 3)<|za (zf 2) zA))<|z7<|qi<|za (zf 8) zA)
def ke:=jq 9<|zV (jT 3<|j7<|zL (zT<|zk 2) (.nm 0) 1 [0] jh (zD ky<|za (zf 1)<|za (zf 0) zA))<|zV (xU 4<|qi zA)<|zV (Kj (jE<|zf 1) (.nm 5) J9)<|bK 4
def xu:=jq 2<|yW<|zL (zT<|zk 1) (.nm 0) 1 [0] (jY<|sB<|Lz<|zU<|rO (zf 0) Jz<|eo<|zf 1) (rO (zf 0) (eo<|zf 1) Jz)
def yt:=jq 5<|zV (jT 3<|j7<|zL (WM (aR (zU<|zD qV<|za (zf 1) zA)<|sI 2)<|aR (zU<|zD qQ<|za (aR (zk 1)<|sI 1) zA)<|sI 2) (.tp [0,1]) 2 [] jh (zF qM (zf 0)<|zf 1))<|zV (jT 4<|j7<|zL (zT<|zk 2) (.nm 0) 1 [1] jh (zF qM (zf 0)<|zF wM (qf<|za (sI 0) zA)<|aR (zk 1)<|sI 1))<|yW<|jA xu<|za (aR (zk 1)<|sI 0)<|za (j7<|jA ke<|za (zf 0)<|za (zF qM (aR (zk 1)<|sI 0)<|aR (zk 1)<|sI 1)<|za (j7<|wL (zk 3)<|zk 4) zA) zA
def wz:=jq 2<|yW<|jA yt<|za (zf 0)<|za (zf 1)<|za (j7<|qi zA) zA
def Xr:=jq 2<|yW<|jA ke<|za (zf 0)<|za (aR (zk 1)<|sI 0)<|za (aR (zU<|zD qV<|za (zf 1) zA)<|sI 2) zA
def xX:=jq 1<|qv<|aR (z7<|zL (bL<|zf 0) (.tp [0,1]) 2 [] (sB<|zF gQ (zf 1)<|sI 0) (zf 0))<|sI 0
def yN:=(zV (jT 6<|zD xX<|za (zf 5) zA)<|zV (dt (sB<|zF cO (zf 6)<|zf 3) (qv<|zJ .cI) jN)<|iK 4 (zf 6)<|aR (zk 5)<|zf 3)
def ZM:=jq 7<|zV (jT 3<|aR (zk 1)<|sI 1)<|zV (xU 4<|Hf (z7<|qi<|za (sI 0) zA)<|zf 3)<|zV (Kj (zT<|zU<|j7<|jA ke<|za (zf 0)<|za (zF qM (zf 3)<|sI 1)<|za (j7<|zL (WM (aR (zk 1)<|sI 2)<|zf 2) (.tp [0,1]) 2 [] jh (zF qM (zf 0)<|qf<|za (zf 1) zA)) zA) (.nm 5) yN)<|qv<|jk<|zk 4
section
variable(M:Ctx)
@[simp] def znh:=@bL.eq_1
@[simp] def znD:=@TN.eq_1
@[simp] theorem zmG(F G a b c):wH F G a b c M=(a M).bind λx=>(b M).bind λy=>((F x y).bind nN).bind λk=>if k then (c M).bind λz=>G y z else aa (.bl aF):=rfl
@[simp] def zm6:=@BI.eq_1
end
def kf:=jq 5<|zV (jT 2<|aR (zk 1)<|sI 0)<|zV (dt (sB<|zF gQ (aR (zk 1)<|sI 1)<|zf 2) (qv<|zJ .cI) jN)<|zV (jT 3<|aR (zU<|zD qQ<|za (zf 2) zA)<|sI 2)<|zV (jT 4<|j7<|jA ke<|za (zf 0)<|za (zF qM (zf 2)<|zf 2)<|za (j7<|zL (WM (aR (zk 1)<|sI 2)<|zf 3) (.tp [0,1]) 2 [] jh (zF qM (zf 0)<|zf 1)) zA)<|zV (dt (sB<|zF gQ (j7<|zL (zT<|zk 4) (.nm 0) 1 [2] jh (rO (zf 0) Jz<|eo<|zf 1))<|j7<|rQ<|zk 3) (qv<|zJ .cI) jN)<|qv<|qf<|za (zf 2)<|za (zf 2)<|za (jk<|z7<|zL (zT<|zk 4) (.nm 0) 1 [2] jh (rO (zf 0) (eo<|zf 1) Jz)) zA
section
variable(M:Ctx)
@[simp] theorem SZ(i f):BJ i f M=(f M).bind λe=>if M.any dB=aF then aa (.next<|M.set i<|.nest e)else af:=rfl
@[simp] def zmF:=@iN.eq_1
@[simp] def zmu:=@fL.eq_1
@[simp] def zno:=@RI.eq_1
@[simp] def zng:=@Mv.eq_1
end
@[simp] theorem zl5(r):Kw (aa (.nest r))=aa r:=rfl
section
variable(M:Ctx)
@[simp] def my:=@wU.eq_1
@[simp] def zne:=@nv.eq_1
@[simp] def AS:=@wV.eq_1
end
def qE:=jq 2 (qv (fi (sB (zF cO (zf 1) (zJ (.str "r")))) (zf 0) (zF qM (zf 0) (sI 1))))
def vg:=jq 2 (qv (fi (sB (zF cO (zf 1) (zJ (.str "r")))) (zF qM (zf 0) (sI 1)) (zf 0)))
def yS:=jq 1 (qv (fi (sB (zF cO (zf 0) (zJ (.str "r")))) (zJ (.str "l")) (zJ (.str "r"))))
def vX:=jq 2<|zV (jT 1<|j7<|zL (ON<|aR (zk 0)<|sI 2) (.nm 0) 1 [] jh (qf<|za (zD yS<|za (aR (zk 0)<|sI 0) zA)<|za (aR (zk 0)<|sI 1) zA))<|qv<|qf<|za (aR (zk 0)<|sI 0)<|za (WN<|aR (zk 0)<|sI 1)<|za (jk<|zk 1) zA
def rR(f:CO D):CO D:=λa=>(f a).map λd=>.bl (Bg .list d || Bg .tuple d)
def qD:=jq 1<|qv<|Bd (z8 .int<|zf 0)<|RH<|z8 .bool<|zf 0
def vY:=jq 2<|qv<|Bd (zD qD<|za (zf 1) zA)<|wH mR pk (sI 0) (zf 1)<|zf 0
def Jw:zn D->xz Xn:=ZE 4 (vz eR (jT 3 (X3 (zU (aR (zk 0) (sI 1))))) (vz (gU (jY (sB (zD vY (za (zf 3) (za (zf 1) zA))))) (aZ "NoRoom" (zf 1)) eR) (dt (jY (sB (zD vY (za (zf 3) (za (zf 1) zA))))) jP jN) (gU (iL (jY (sB (zD vY (za (zf 3) (za (zf 2) zA))))) (sB (zF pk (zf 2) (zf 1)))) (aZ "NoRoom" (zf 2)) eR)))
def Y9:=jq 3 (zV (xU 1 (qi (za (iM "NoPrime" (zf 0)) (za (iM "Nought" (zf 0)) (za (iM "NoTable" (zf 0)) (za (iM "NoWidths" (zf 0)) zA)))))) (zV (xU 1 (wL (zk 1) (z7 (qi (za (iM "NoRow" (zf 0)) (za (iM "Unlike" (zf 0)) (za (iM "TooMany" (zf 0)) (za (iM "NoTurn" (zf 0)) zA)))))))) (zV (xU 1 (wL (zk 1) (z7 (qi (za (iM "NoLine" (zf 0)) (za (iM "Nothing" (zf 0)) (za (iM "NoArrow" (zf 0)) (za (iM "NoText" (zf 0)) zA)))))))) (zV (jQ 1 (iM "NoRoom" (zf 0))) (zV (jT 2 (j7 (qi (za (zJ (.str "NoPrime")) (za (zJ (.str "Nought")) (za (zJ (.str "NoTable")) (za (zJ (.str "NoWidths")) (za (zJ (.str "NoRow")) (za (zJ (.str "Unlike")) (za (zJ (.str "TooMany")) (za (zJ (.str "NoTurn")) (za (zJ (.str "NoLine")) (za (zJ (.str "Nothing")) zA))))))))))))) (zV (jT 2 (j7 (wL (zk 2) (z7 (qi (za (zJ (.str "NoArrow")) (za (zJ (.str "NoText")) (za (zJ (.str "NoRoom")) zA)))))))) (zV (dt (jY (sB (Mu (zf 0)))) (yW (qi (za (zJ (.str "no ValueError")) zA))) jN) (RI 1 (yW (zL (jE (sI 13)) (.nm 0) 1 [1,2] (sB (aR (zk 1) (zf 0))) (aR (zk 2) (zf 0))))))))))))
def vZ:=jq 1<|qv<|Bd (zD qD<|za (zf 0) zA)<|TN (zf 0)<|zU<|zJ<|.tup [.int 2,.int 3,.int 5,.int 7]
def x9:=jq 1<|qv<|Bd (zD qD<|za (zf 0) zA)<|wH mR mR (sI 0) (zf 0)<|sI 30
def qr:=jq 2<|qv<|Bd (rR<|zf 0)<|zF cO (X3<|zk 0)<|zf 1
def v7:=jq 2<|qv<|Bd (zD qr<|za (zf 1)<|za (zf 0) zA)<|iO<|z7<|zL (zT<|zk 1) (.nm 0) 1 [] jh (zD qD<|za (zf 0) zA)
def ZL:=jq 4<|zV (dt (jY<|sB<|zD vZ<|za (zf 0) zA) jP jN)<|zV (dt (iL (jY<|sB<|zD x9<|za (zf 1) zA)<|jY<|sB<|zD x9<|za (zf 2) zA) jP jN)<|zV (dt (iL (jY<|sB<|zD qr<|za (zf 3)<|za (zf 1) zA)<|jY<|sB<|iO<|z7<|zL (zT<|zk 3) (.nm 0) 1 [2] jh (zD v7<|za (zf 1)<|za (zf 0) zA)) jP jN)<|qv<|qf<|za (zf 1)<|za (zf 2)<|za (jk<|z7<|zL (zT<|zk 3) (.nm 0) 1 [0] jh (zD ky<|za (zf 1)<|za (zf 0) zA)) zA
def Wl:zn D->xz Xn:=ZE 4 (vz (gU (jY (sB (zD vZ (za (zf 0) zA)))) (mP "NoPrime") eR) (dt (jY (sB (zD vZ (za (zf 0) zA)))) jP jN) (vz (gU (iL (jY (sB (zD x9 (za (zf 1) zA)))) (jY (sB (zD x9 (za (zf 2) zA))))) (mP "NoTable") eR) (dt (iL (jY (sB (zD x9 (za (zf 1) zA)))) (jY (sB (zD x9 (za (zf 2) zA))))) jP jN) (gU (iL (jY (sB (zD qr (za (zf 3) (za (zf 1) zA))))) (jY (sB (iO (z7 (zL (zT (zk 3)) (.nm 0) 1 [2] jh (zD v7 (za (zf 1) (za (zf 0) zA))))))))) (mP "NoTable") eR)))
def ET(f:CO (Sk×zn D))(l h:CO (xz Int)):CO (zn D):=λb=>(f b).bind λa=>(l b).bind λlo=>(h b).bind λd=>match a.1 with
 |.L=>aa (me a.2 lo d)
 |.T=>af
def vS:=jq 1 (qv (wV (zJ (.str "")) (z7 (zL (zT (zU (aR (zk 0) (sI 2)))) (.nm 0) 1 [] jh (aR (zk 0) (sI 0))))))
def yq:=jq 2<|qv<|Bd (zF cO (aR (zk 0)<|sI 0)<|aR (zk 1)<|sI 0)<|zF cO (zD vS<|za (zf 0) zA)<|zD vS<|za (zf 1) zA
def kH:=jq 2<|dt (jY<|sB<|zD yq<|za (zf 0)<|za (zf 1) zA) jP jN
def qc:zn D->xz Xn:=ZE 2 (gU (jY (sB (zD yq (za (zf 0) (za (zf 1) zA))))) (mP "Unlike") eR)
section
variable{X:Cx}{sc:cS}{N L:zn Str}{k:Nat}{a e:bE}{es:zn bE}{f:CO D}{pos p p2:cH}
theorem WW(j:PV X e f)(hs:hU e af pos.line ⋯=pure aF:=by rfl):fH X (.Expr e pos) (rT f):=kj (WY j hs) λD l H I=>by let(E0,E,h,k,m,b,z,J):=I;let(d,i,z):=zy z;subst z;show(h,k,d,b.rc,i,λv g a x r=>J l g a<|b.step x)
structure XI(K:aO)(mg:DZ)(c:Str):Prop where
 mem:c∈g0
 ex:∃C,wF K c=aa C/\mg c=aa (.ref C)
theorem Fs(I:L2.Inv X j W H s)(sub:dj B H)(J:uH X.K B c n b)
 (O:∀C,wF X.K c=aa C->nY X.K (.ref C) t=aa r) (h:∀U,Q (.bool r) {s with toks:=U}):wpAny (aV X.prog X.w) A (call (.builtin "isinstance") [.ref b,t]) Q E s:=by
 show aU λY=>?_;let(C,d,g1,g2,Z,q):=J.ex;let(S,q,a,q,q):=Jb J.all J.mem g1;let(p,q,q):=(I.bQ b _<|sub _ _ g2);show Y<|k6 (au (Wu a)<|fw a) I.df (Z _ p) (O C g1) (λz=>nomatch z) h
theorem vF(h:SX X sc N L k)(σ:qz sc "isinstance" = ae)(z:X.mg "isinstance" = af)(B:qz sc c)(x:XI X.K X.mg c)(W:PV X a f)
 (hs:ck [a,.Name c p2] ⋯=[(aF,bH a ⋯),(aF,bH (.Name c p2) ⋯)]:=by rfl):PV X (.Call (.Name "isinstance" p) [a,.Name c p2] [] pos) (iM c f):=by
 rintro g s U H Q I ⟨m,T,d,E,J,q⟩;let(o,t,J):=zc J;let(C,M,P):=x.ex;cases o with
 |exc c' n=>
  cases J;show nW<|xo I (h.gl σ).1 z Tc ?_ () ();show M7 ?_ (by rw[hs];rfl) rfl;rw[hs];show nj<|cy (W g s U H (λv l=>∃e,_/\_) I (m,T,_,E,t,λv l e x r=>(e,x,r))) λu s1 w=>?_;show aU λy=>?_;let(v,j,O,A,i,Z,F):=w;let(b,rfl,Y):=(F);show y ?_;cases A;show nj<|xE O (h.gl B).1 P ?_ (h.gl B).2.2;show sk ?_;show Fs O Z.sub Y (λC2 g1=>?_) λG=>(.bl<|c'==c,j,O.tok G,rfl,q _ j i Z rfl);let(S,V,V,V,R):=Jb Y.all Y.mem g1;show R c C x.mem M
 |_=>cases J
theorem Lf:pg "ValueError" = aa (.type "ValueError"):=by decide +kernel
theorem Hx(h:SX X sc N L k)(B:qz sc "isinstance" = ae)(z:X.mg "isinstance" = af)(j:qz sc "ValueError" = ae)(W:X.mg "ValueError" = af)(U:PV X a f)
 (hs:ck [a,.Name "ValueError" p2] ⋯=[(aF,bH a ⋯),(aF,bH (.Name "ValueError" p2) ⋯)]:=by rfl):PV X (.Call (.Name "isinstance" p) [a,.Name "ValueError" p2] [] pos) (Mu f):=by
 rintro g s P H Q I ⟨t,M,d,F,J,q⟩;let(w,y,J):=zc J;cases w with
 |exc T n=>
  cases J;show nW<|xo I (h.gl B).1 z Tc ?_ () ();show M7 ?_ (by rw[hs];rfl) rfl;rw[hs];show nj<|cy (U g s P H (λv o=>∃e,_/\_) I (t,M,_,F,y,λv o e x r=>(e,x,r))) λu s1 A=>?_;show aU λC=>?_;let(v,l,O,E,i,m,G):=A;let(b,rfl,Y):=(G);show C ?_;cases E;show nj<|xo O (h.gl j).1 W Lf ?_ (h.gl j).2.1 (h.gl j).2.2;show sk ?_;show Fs O m.sub Y (λR g1=>?_) λK=>(.bl ae,l,O.tok K,rfl,q _ l i m rfl);let(S,c,Z,c,c):=Jb Y.all Y.mem g1;erw[Bl]at Z;simp?[eH,beq_iff_eq]at Z;show Z.1.1.1.1.1.1.1.1.1.2
 |_=>cases J
structure GL(K:aO)(mg:DZ)(x:Str)(d:D):Prop where
 ex:∃u v,mg x=aa u/\RelV v u/\∀H,Rep K H d v
theorem Jh(h:SX X sc N L k)(c:qz sc x)(z:GL X.K X.mg x d):PV X (.Name x pos) (zJ d):=by rintro b s l H Q I ⟨a,j,i,g,J,q⟩;cases J;let(u,v,e,f,h3):=z.ex;show xE I (h.gl c).1 e (v,H,I,f,q v H a (Ext.refl g.sub)<|h3 a) (h.gl c).2.2
theorem sH{σ p4:cH}(h:SX X sc N L k)(c:qz sc "isinstance" = ae)(z:X.mg "isinstance" = af)(c2:qz sc "list" = ae)(z2:X.mg "list" = af)(c3:qz sc "tuple" = ae)(z3:X.mg "tuple" = af)(ha:PV X a f)
 (hs:ck [a,.Tuple [.Name "list" p2,.Name "tuple" σ] j p4] ⋯=[(aF,bH a ⋯),(aF,bH (.Tuple [.Name "list" p2,.Name "tuple" σ] j p4) ⋯)]:=by rfl)
 (ac:ck [.Name "list" p2,.Name "tuple" σ] ⋯=[(aF,bH (.Name "list" p2) ⋯),(aF,bH (.Name "tuple" σ) ⋯)]:=by rfl):
 PV X (.Call (.Name "isinstance" p) [a,.Tuple [.Name "list" p2,.Name "tuple" σ] j p4] [] pos) (rR f):=by
 rintro l s U H Q I ⟨H0,M,d,rc,ef,q⟩;let(d1,e1,e2):=zy ef;subst e2;show nW (xo I (h.gl c).1 z Tc ?_ () ());show M7 ?_ (by rw[hs];rfl) rfl;rw[hs];show nj (cy (ha l s U H (λv H'=>∃B,_/\_) I (H0,M,d1,rc,e1,λv H' B x r=>(B,x,r))) λu P hZ=>?_);let(x,H1,I1,w,n4,A,Z):=hZ;change wpAny _ _ (L5 ((aF,bH _ ⋯)::[])) _ _ P;show nj (zlA ?_);rw[ac];show nj (xo I1 (h.gl c2).1 z2 PyProof.Rows.boot_list ?_ (h.gl c2).2.1 (h.gl c2).2.2);show nj (xo I1 (h.gl c3).1 z3 X' ?_ (h.gl c3).2.1 (h.gl c3).2.2);show sk ((),?_);show sk ?_;have Y:L2.Inv X l U H1 {P with heap:=P.heap.push {cls:=.type "tuple",data:=.seq #[.type "list",.type "tuple"]},toks:=P.toks}:=I1.kept λb u e=>cW _ e;have tp:(P.heap.push {cls:=.type "tuple",data:=.seq #[.type "list",.type "tuple"]}).get? _=_:=f9 _ rfl;have m:∀tk,EP X l U Q _ _:=λtk=>(.bl _,H1,Y.tok tk,rfl,q _ H1 n4 A rfl);have any:∀{t}{T b2},nY X.K t _=aa T->nY X.K t _=aa b2->PySem.W.kitAny X.K t [.type "list",.type "tuple"]=aa (T || b2):=λ{t T b2} g1 g2=>by
  erw[PySem.W.kitAny];rw[g1];cases T with
  |true=>rfl
  |false=>
   dsimp only;erw[PySem.W.kitAny];rw[g2];cases b2<;>rfl
 cases d1 with
 |cI=>cases Z;cases w;show sv _I Y.df kA tp (any (yi .list .cI<|λV V z=>nomatch z)<|yi .tuple .cI<|λV V z=>nomatch z) (λz=>nomatch z) m
 |bl y=>cases Z;cases w;show sv _J Y.df kA tp (any (yi .list (.bl y)<|λV V z=>nomatch z)<|yi .tuple (.bl y)<|λV V z=>nomatch z) (λz=>nomatch z) m
 |int i=>cases Z;let(t,qq):=(w);cases qq;show sv _m Y.df kA tp (any (yi .list (.int i)<|λV V z=>nomatch z)<|yi .tuple (.int i)<|λV V z=>nomatch z) (λz=>nomatch z) m
 |str y=>cases Z;let(t,qq):=(w);cases qq;show sv _l Y.df kA tp (any (yi .list (.str y)<|λV V z=>nomatch z)<|yi .tuple (.str y)<|λV V z=>nomatch z) (λz=>nomatch z) m
 |tup E=>
  let(a,xs,rfl,g,F):=kW Z;cases w;let(am,rv,(o,G,hc,V),hz):=Y.tuple<|gr A.sub g;show sv _A Y.df (o,G,hc) tp (any (yi .list (.tup E)<|λV V z=>nomatch z)<|yi .tuple (.tup E)<|λV V z=>nomatch z) (λz=>nomatch z) m
 |lst E=>
  let(a,xs,rfl,g,F):=gz Z;cases w;let(am,rv,p,hz):=Y.list<|A.sub.seq g;let(o,G,hc,V):=p.isList;show sv Uq Y.df (o,G,hc) tp (any (yi .list (.lst E)<|λV V z=>nomatch z)<|yi .tuple (.lst E)<|λV V z=>nomatch z) (λz=>nomatch z) m
 |exc c n=>
  let(b,rfl,xr):=(Z);cases w;let(C,φ,g1,g2,g3,V):=xr.ex;let(S,V,y1,V,V):=Jb xr.all xr.mem g1;let(p,V,V):=(Y.bQ b _<|A.sub _ _ g2);have a7:=y1;erw[Bl]at a7;simp?[eH,B1,List.all_nil,beq_iff_eq]at a7;have t:=a7.1.1.1.1.1.1.1.1.1.1;show sv (au (Wu y1)<|fw y1) Y.df (g3 _ p) tp (any t.2.2.2.2.1 t.2.2.2.1) (λz=>nomatch z) m
 |gC γ R=>
  let(a,xs,rfl,(kk,V,V,o,g),V):=(Z);cases w;let(V,V,S7,V,dd):=Am Y.bQ<|.inr (o,A.sub _ _ g);show sv Ex Y.df dd.typeIs tp (any (yi .list (.gC γ R)<|λV V z=>nomatch z)<|yi .tuple (.gC γ R)<|λV V z=>nomatch z) (λz=>nomatch z) m
 |hO γ R=>
  let(a,xs,rfl,(V,o,zs,g,F,V),V):=(Z);cases w;let(G,V):=(Y.bQ a _<|A.sub _ _ g);show sv Ex Y.df (o,G,F.1.1) tp (any (yi .list (.hO γ R)<|λV V z=>nomatch z)<|yi .tuple (.hO γ R)<|λV V z=>nomatch z) (λz=>nomatch z) m
 | ins c p t=>
  let(a,C,dx,zlw,zlx,rfl,g,F,V,V):=(Z);cases w;have ty:=Fz (J1 g)<|A.sub _ _ F;cases ty with
  |ins ea cl ha hn o_ hm=>
   let(mA,O,V):=YG Y.bQ ea;let(od,J,V):=O.look;show sv (PySem.W.kitx_own (cl.get _) cl.hd ha hn o_ hm) Y.df J tp (any (gJ (J1 g) .list)<|gJ (J1 g) .tuple) (λz=>nomatch z) m
theorem iZ{lo S:xz bE}(U:PQ X a B)(Y:L2.PO X lo (tB X.K j))(Z:L2.PO X S (tB X.K J)):PO X (.Subscript a (.Slice lo S af p2) pos) (ET B j J):=
 j3 (W2 Hc U Y Z) λR H Q w=>by
  show aU λy=>?_;let(i,h,N,g,z,q):=w;let((A,es),o,z):=zc z;let(l,p,z):=zc z;let(u,s,z):=zc z;show y ?_;cases A with
  |T=>cases z
  |L=>
   cases z;show(i,h,.L,es,g,o,λb E F e x t P r=>(e,h,l,g.ext x,p,λG k I=>(k,h,u,(g.ext x).ext I,s,λM m d=>?_)));have O:=x.trans<|I.trans d;show(b,E,rfl,(I.trans d).s1.seq t,λC f=>q C _ _ m (O.trans<|Ext.hide d.sub f _) (xl O.s1 f) (jl d.sub f) zB<|iR (r.mono (I.trans d).s0) _ _)
end
section
variable{K:aO}{mg:DZ}{h:bN}
set_option tactic.hygienic true in
theorem lA(z:K.In h)(G:h.Ns gp mg)(e:wF K c=aa C):mg c=aa (.ref C):=by
 erw[wF]at e;split at e
 .rename_i a q
  cases e;show sf z G q
 .cases e
def L_(K:aO):Bool:=match wF K "SplitError" with
 |some S=>p9 K (.ref S)==aa (.type "type")&&mW K S (.type "BaseException")==aa ae&&(o6 K S).isSome&&mW K S (.ref S)==aa ae
 |none=>aF
def K'(K:aO)(c:Str):Bool:=match wF K c with
 |some C=>Rl K C
 |none=>aF
set_option tactic.hygienic true in
theorem UM(z:K.In h)(G:h.Ns gp mg)(e:L_ K):XS K mg:=by
 erw[L_]at e;split at e
 .rename_i S q
  simp?[eH,beq_iff_eq]at e;show(S,q,lA z G q,e.1.1.1,e.1.1.2,e.1.2,e.2)
 lia
set_option tactic.hygienic true in
theorem UN(z:K.In h)(G:h.Ns gp mg)(e:Vl K)(j:c∈g0):XI K mg c:=by
 erw[Vl]at e;split at e
 .have a:=k4.mp e c j
  split at a
  .rename_i C q
   show(j,C,q,lA z G q)
  .cases a
 .cases e
set_option tactic.hygienic true in
theorem UP(z:K.In h)(G:h.Ns gp mg)(e:Vl K)(j:c∈g0)(b:K' K c):XC K mg c:=by
 erw[K']at b;split at b
 .rename_i C q
  show(e,j,C,q,lA z G q,b)
 lia
theorem Ub(z:K.In h)(G:h.Ns gp mg)(a:oL K gp x=aa (aa (.int n t))):GL K mg x (.int n):=
 (_,.int n,sf z G a,(t,rfl),λq=>(rfl))
def gH:zn aN->xz (zn Int)
 |[]=>aa []
 |.int i _::r=>(gH r).map λl=>i::l
 |_::_=>af
theorem XN:∀{us}{j},gH us=aa j->cM (j.map V.int) us
 |[],j,e=>by cases e;show .nil
 | u::us,j,e=>by
  cases u with
  |int i t=>
   let(l,a,b):=zy e;subst b;show .cons (t,rfl)<|XN a
  |_=>cases e
theorem Xv:∀e:zn Int,bz K H (e.map D.int) (e.map V.int)
 |[]=>bz.nil
 |n::e=>bz.cons rfl<|Xv e
theorem Sw{ad:ak}(J:K.In h)(G:h.Ns gp mg)(a:oL K gp x=aa (aa (.ref ad)))
 (l:K.lookup ad=aa (.type "tuple",af,.seq I m,j)) (v:(gH I.toList).map (·.map D.int)=aa d) (z:I.size<=cP):GL K mg x (.tup d):=by
 let(e,q,rfl):=zy v;show(_,.ref ad,sf J G a,rfl,λH=>((ad,_,rfl,.inr (_,I,m,l,rfl,rfl,z,XN q),Xv e)))
end
end DL
namespace L2
open PySem PySem.Spec PyProof.Rows
theorem Du:Slot "reversed" "__next__" "reversed.__next__":=.of (owner:="reversed") (n:="__next__") (by rfl) () () () (by first|show .inl () |show .inr ()) (by rw[Ou];kernel_rfl)
theorem rX:Slot "reversed" "__iter__" "reversed.__iter__":=.of (owner:="reversed") (n:="__iter__") (by rfl) () () () (by first|show .inl () |show .inr ()) (by rw[Ou];kernel_rfl)
theorem R5:Slot "reversed" "__length_hint__" "reversed.__length_hint__":=.of (owner:="reversed") (n:="__length_hint__") (by rfl) () () () (by first|show .inl () |show .inr ()) (by rw[Ou];kernel_rfl)
theorem bO:Dj Dw "reversed.__next__" = aa Builtin.«reversed.__next__» :=_R (by kernel_rfl)
theorem zkC:Dj Dw "reversed.__length_hint__" = aa Builtin.«reversed.__length_hint__» :=_R (by kernel_rfl)
theorem zkl:Dj Dw "reversed.__iter__" = aa Builtin.«dict_keyiterator.__iter__» :=entryFor_alias (id':="dict_keyiterator.__iter__") (by kernel_rfl) (by rfl) () (by kernel_rfl)
theorem bP(a):uJ "reversed.__next__" ([a],[]):=by erw[uJ];kernel_rfl
theorem zkm(a):uJ "reversed.__iter__" ([a],[]):=by erw[uJ];kernel_rfl
theorem zkD(a):uJ "reversed.__length_hint__" ([a],[]):=by erw[uJ];kernel_rfl
theorem BP:u7 (.type "reversed") "__len__" = pure af:=by rw[U3,Um];kernel_rfl
theorem zj3:u7 (.type "tuple") "__reversed__" = pure af:=by rw[U3,Um];kernel_rfl
theorem ziP:isSubtype (.type "tuple") (.type "dict")=pure aF:=by rw[Ou];kernel_rfl
abbrev px(h:bN)(z t:ak)(i:Int):Prop:=h.get? z=aa {cls:=.type "reversed",dict:=af,data:=.fields #[.ref t,zz i],slots:=#[]}
section
variable{prog:cQ}{w:cN}{A:ec}{E:EQ}{s:bB}
theorem My{xs:Array aN}(z:nL s.heap l xs)(I:(xs.size:Int)<2^63)
 (h:Q₁ (.ref ↥s) {s with heap:=s.heap.push {cls:=.type "reversed",data:=.fields #[.ref l,zz ((xs.size)-1)]},toks:=s.toks+1+1}):
 codeAny (aV prog w) A (.call (.builtin "reversed.__new__") ([.type "reversed",.ref l],[])) (wants Q₁ E) s:=by
 show g_ ?_;show aL<|mu (F.newCall_reversed_1 _)<|bW (OU F.plain_reversed_new _,vk F.entry_reversed_new ?_);show aL<|mu (newClass_reversed _) ?_
 try dsimp only
 show aL<|mu (by rfl)<|aL<|mu (by rfl) ?_
 try dsimp only
 show aL<|D6 z.typeIs zj3 ?_
 try dsimp only
 show aL ?_;show aL<|Oz z.typeIs ziP ?_;rw[DY ()];show aL<|D6 z.typeIs F.slot_tuple_getitem.lookup ?_;dsimp only;rw[DJ ()];show bW ?_;rw[DY ()];show aL<|len_tuple z I ?_;show aL<|bW ?_;dsimp only;show aL ?_;erw[Builtin.SmallTypes.newRecord];show nq<|bW h
theorem Hh:Slot "reversed" "__init__" "object.__init__":=.of (owner:="object") (n:="__init__") (by rfl) () () () (by first|show .inl () |show .inr ()) (by rw[Ou];kernel_rfl)
theorem R4:TypeCalled "reversed" "reversed.__new__" "object.__init__":=(by decide +kernel,by decide +kernel,(_,_,F.mro_reversed),F.made_reversed,by decide +kernel,by rfl,Hh)
theorem sg(J:nL s.heap l xs)(O:(xs.size:Int)<2^63)
 (h:Q (.ref ↥s) {s with heap:=s.heap.push {cls:=.type "reversed",data:=.fields #[.ref l,zz ((xs.size)-1)]},toks:=s.toks+1+1}):wpAny (aV prog w) A (call (.type "reversed") [.ref l]) Q E s:=by
 show d_ (Q₁:=λobj z=>_/\Q obj z) R4 (F.typeCall_reversed_1 _) F.entry_object_init (My J O ((_,f9 _ rfl,rfl),h)) λobj z I=>(I.1,_L obj _,zjH R4.init.lookup R4.made () prog w A.in1 _ z (I.1,rfl,I.2))
theorem fO(J:px s.heap z t i)(h:Q (.ref z) s):wpAny (aV prog w) A (zv (.ref z)) Q E s:=by have I:s.TypeIs (.ref z) "reversed":=(_,J,rfl);show zlI I rX (om rX I zkl (bW (_,rfl,"reversed",_,I,Du.lookup,h)) (zkm _))
theorem rY{i:Nat}(I:px s.heap z t i)(J:nL s.heap t xs)(O:xs[i]? = aa x)(e:(xs.size:Int)<2^63)
 (hQ:∀g,px g z t (i-1)->pQ z s.heap g->Q (aa x) {s with heap:=g,toks:=s.toks+1}):wpAny (aV prog w) A (oU<|.ref z) Q E s:=by
 have Y:s.TypeIs (.ref z) "reversed":=(_,I,rfl);erw[oU];show aL (oK (se Y Du (om Du Y bO ?_ (bP _))));show aL (mu rfl ?_)
 try dsimp only
 show aL<|gv I rfl (x:=.ref t) rfl<|aL<|gv I rfl rfl ?_;change wpAny _ _ (if (i:Int)<0 then _ else _) _ _ s;rw[DY ()];show aL<|D6 J.typeIs F.slot_tuple_getitem.lookup ?_;rw[DY ()];show aL<|wpAny_mkInt ?_;have d:=(Array.getElem?_eq_some_iff.mp O).1;show aL (oK (getItem_tuple J () () (by
  erw[seqIndex?]
  grind) O ?_))
 have Z:=I;show aL<|gv Z rfl rfl<|aL<|oF Z () λg a b=>bW (x,rfl,bW<|hQ g a b)
theorem EV{i:Int}(O:A.handled=af)(j:i<0)(I:px s.heap z t i)(Y:∀g,Heap.ExtBut z s.heap g->Q af {s with heap:=g}):wpAny (aV prog w) A (oU<|.ref z) Q E s:=by
 have J:s.TypeIs (.ref z) "reversed":=(_,I,rfl);erw[oU];show aL (oK (se J Du (om Du J bO ?_ (bP _))));show aL (mu rfl ?_)
 try dsimp only
 show aL<|gv I rfl (x:=.ref t) rfl<|aL<|gv I rfl rfl ?_;change wpAny _ _ (if i<0 then _ else _) _ _ s;rw[DJ j];show aL<|q0 ?_;show aL ?_;show aL<|oF I () λg1 Z d=>?_;show oF Z () λg2 k f=>?_;have h:Heap.ExtBut z s.heap g2:=λb o a e=>f.extBut b o a<|d.extBut b o a e;show aL ?_;show aL ?_;simp?[newExc,newTuple];show aL<|nq ?_ (by size_fits);show aL<|mu (by rfl) ?_;show nq ?_ (by size_fits);simp?[R0];show aL<|wpAny_handled ?_;rw[O];show aL<|bW<|wpAny_throw ?_;show aL<|Oz (_,f9 _ rfl,rfl) s_<|bW<|Y _<|(h.push _).push _
theorem BN(hh:A.handled=af)(z t)(a3:t≠z)(xs)(a4:(xs.size:Int)<2^63):
 Walks prog w A z [z,t] [z] xs.size (λi v=>xs[xs.size-1-i]? = aa v) (λi h=>i<=xs.size/\px h z t ((xs.size:Int)-1-(i:Int))/\nL h t xs) where
 sub:=λb hb=>by simp at hb;simp[hb]
 frame:=λq q q x Y=>(x.1,Y z () _ x.2.1,let (o,ho,r):=x.2.2;(o,Y t () o ho,r))
 item:=λi s Q E hi x I=>by
  have e:(xs.size:Int)-1-(i:Int)=((xs.size-1-i:Nat):Int):=()
  have J:=x.2.1;rw[e]at J;have Z:xs[xs.size-1-i]? = aa (xs[xs.size-1-i]'()):=Y_ ();show rY J x.2.2 Z a4 λg pD a1=>?_;have e2:((xs.size-1-i:Nat):Int)-1=(xs.size:Int)-1-((i+1:Nat):Int):=()
  rw[e2]at pD;show I _ g _ Z (hi,pD,x.2.2.extBut a1.extBut a3) λb o hb O=>a1.extBut b o (λh=>hb<|by simp[h]) O
 done:=λs Q E x I=>by have J:=x.2.1;show EV hh () J λg he=>I g s.toks λb o hb O=>he b o (λh=>hb<|by simp[h]) O
 self:=λq q q q x I=>fO x.2.1 I
theorem zkn{xs:Array aN}(I:px s.heap z t ((xs.size)-1))(J:nL s.heap t xs)(O:(xs.size:Int)<2^63)
 (h:∀u e,s.toks<=e->Q (.int xs.size u) {s with toks:=e}):wpAny (aV prog w) A (call (.builtin "reversed.__length_hint__") [.ref z]) Q E s:=by
 show om R5 (_,I,rfl) zkC ?_ (zkD _);show aL<|mu (by rfl) ?_;show aL<|gv I rfl rfl ?_;rw[DY ()];show aL<|len_tuple J O ?_;show aL<|bW ?_;show aL<|gv I rfl rfl ?_;change wpAny _ _ (if (xs.size)<(xs.size:Int)-1+1 then _ else _) _ _ _;rw[DY ()];show aL<|wpAny_mkInt<|bW (_,rfl,?_)
 grind
end
section
variable{prog:cQ}{w:cN}{A:ec}{E:EQ}{s:bB}
theorem zjm{xs:Array aN}(hh:A.handled=af)(al:t≠z)(hz:px s.heap z t ((xs.size)-1))(U:nL s.heap t xs)(S:xs.size<=cP)
 (hQ:∀j B,Moved [z] (λa b=>b=a) s j->ItemsOf (λi v=>xs[xs.size-1-i]? = aa v) B xs.size->Q B.toList j):wpAny (aV prog w) A (collect<|.ref z) Q E s:=by
 have x:(xs.size:Int)<2^63:=by
  have:cP<2^63:=by decide
  lia
 have W:=(BN (prog:=prog) (w:=w) (A:=A.in1) hh z t al xs x).toS;have y:=(ei hz);have O:↥s ∉ [z,t]:=λk=>by
  simp?[d8,i9,or_false]at k;rcases k with e|e
  .exact n3 y e
  .exact n3 U.lt e
 erw[collect];show aL (wpAny_runValue (vk F.entry_proto_collect ?_));show aL (nq (bW (OU F.plain_list_iadd _,vk F.entry_list_iadd ?_)));have I:=W.frame 0 s (s.heap.push {cls:=.type "list",data:=.seq ([]).toArray}) s.toks (g8 _,~~~hz,U) (cV _) λb q o e=>cW _ e;let(q,K,L):=id I;have C:= ~~~K
 have J:Shared.TypeIs {s with heap:=s.heap.push {cls:=.type "list",data:=.seq ([]:zn aN).toArray}} (.ref z) "reversed":=(_,C,rfl);have Y:(s.heap.push {cls:=.type "list",data:=.seq ([]:zn aN).toArray}).get? ↥s=aa {cls:=.type "list",data:=.seq ([]:zn aN).toArray}:=f9 _ rfl;have T:Builtin.List.listSameRef (.ref ↥s) (.ref z)=aF:=by simp[Builtin.List.listSameRef,(n3 y)]
 change wpAny _ A.in1 (Builtin.List.listExtendWith (.ref ↥s) (.ref z) (.ref ↥s)) _ _ _;erw[Builtin.List.listExtendWith];show aL (uf J ?_);rw[DY (by rw[T];decide)];show aL (W.self 0 _ _ _ I (aL (hG ?_)));erw[Builtin.List.listLengthHint];show aL (D6 J BP ?_);show aL (D6 J R5.lookup ?_);generalize ao:("reversed.__length_hint__")=b1;wp_delta;subst ao;show aL (Oz (b:=ae) J (by rfl) ?_);show aL (q0 (aL (mu (R5.bind _) ?_)));dsimp only;show aL (oK (zkn C L x λu m d=>?_));dsimp only;have P:asInt? (vu (xs.size:Int) u)=pure (aa (xs.size:Int)):=rfl;rw[P,pure_bind];dsimp only;have hk:DR (Int.toNat (xs.size:Int))=aF:=by simp[DR];lia
 have as:O' (xs.size:Int)=ae:=by simp[O'];lia
 rw[DY (by rw[as];decide),DY (),DY ()];show bW ?_;have M:=W.frame 0 _ _ m I d λb q o e=>e;by_cases R:xs.size=0
 .have z0:((xs.size:Int) != 0)=aF:=by simp[R]
  rw[z0,DY ()];show bW (OU F.plain_extend_loop _,zhd W S _ O _ xs.size 0 _ _ _ rfl (g8 _) M Y (ItemsOf.nil _) λj Z N k p r=>?_);change wpAny _ A (load ↥s >>= _) _ _ j;show aL<|wpAny_load p<|bW<|hQ j Z (Moved.drop_new k d) r
 .rw[(bne_iff_ne.mpr ()),Bool.true_or,DJ rfl]
  show aL (q0 (aL ?_));change wpAny _ A.in1 (updateSeq ↥s (·.push .none) >>= λq=>updateSeq ↥s (·.pop)) _ _ _;show aL (wpAny_updateSeq Y rfl ?_ () ());have G:=oI (gV (·.push h9)) Y rfl;show wpAny_updateSeq G rfl ?_ (by simp;decide) ();have H:=oI (gV (·.pop)) G rfl;generalize hg:((s.heap.push {cls:=.type "list",data:=.seq ([]).toArray}).update ↥s (gV (·.push h9))).update ↥s (gV (·.pop))=g at H ⊢;have l b o:b≠↥s->(s.heap.push {cls:=.type "list",data:=.seq ([]:zn aN).toArray}).get? b=aa o->g.get? b=aa o:=λf e=>by rw[<-hg];show(ni _ _ (dh f)).trans ((ni _ _ (dh f)).trans e)
  show bW (OU F.plain_extend_loop _,zhd W S _ O _ xs.size 0 _ _ _ rfl (g8 _)
   (W.frame 0 ({s with heap:=s.heap.push {cls:=.type "list",data:=.seq ([]:zn aN).toArray}}) g m I d λb f o e=>l b o (λh=>O (h ▸ f)) e) H (ItemsOf.nil _) λj Z N k p r=>?_)
  change wpAny _ A (load ↥s >>= _) _ _ j;have X:Moved [↥s,z] (λa b=>b=a) ({s with heap:=s.heap.push {cls:=.type "list",data:=.seq ([]:zn aN).toArray},toks:=m}:bB) ({s with heap:=g,toks:=m}:bB):=
   (λb o f e=>l b o (λh=>f<|h ▸ fA) e,rfl,rfl,rfl,cV _)
  show aL<|wpAny_load p<|bW<|hQ j Z (Moved.drop_new (Moved.trans W.gtrans X k) d) r
theorem zgT(J:A.handled=af)(O:t≠z)(I:px s.heap z t ((xs.size)-1))(Y:nL s.heap t xs)(B:xs.size<=cP)
 (h:∀j e,Moved [z] (λa b=>b=a) s j->ItemsOf (λi v=>xs[xs.size-1-i]? = aa v) e xs.size->Q₁ (.ref ↥j) {j with heap:=j.heap.push {cls:=.type "tuple",data:=.seq e}}):
 codeAny (aV prog w) A (.call (.builtin "tuple.__new__") ([.type "tuple",.ref z],[])) (wants Q₁ E) s:=by
 show g_ ?_;show aL<|mu (F.newCall_tuple_1 _)<|bW (OU F.plain_tuple_new _,vk F.entry_tuple_new ?_);rw[Around.under_plainId F.plain_tuple_new _];have d:=sub_tuple_self;have f:=init_tuple_lookup;have g:=madeHere_tuple
 wp_walk using uf (_,I,rfl),zjm (A:=A.in1) J O I Y B
 intro j e k Z;change wpAny _ _ (Builtin.Tuple.tupleExact e.toList.toArray >>= ret) _ _ _;erw[Builtin.Tuple.tupleExact];show aL (nq (bW ?_)<|by change e.toList.toArray.size<=cP;simp?[Array.toArray_toList];rw[Z.1];show B)
 simp_all
theorem BO(O:A.handled=af)(Y:t≠z)(Z:px s.heap z t ((xs.size)-1))(S:nL s.heap t xs)(H:xs.size<=cP)
 (B:∀j e,Moved [z] (λa b=>b=a) s j->ItemsOf (λi v=>xs[xs.size-1-i]? = aa v) e xs.size->Q (.ref ↥j) {j with heap:=j.heap.push {cls:=.type "tuple",data:=.seq e}}):
 wpAny (aV prog w) A (call (.type "tuple") [.ref z]) Q E s:=by
 show d_ (Q₁:=λobj I=>_/\Q obj I) F.called_tuple (F.typeCall_tuple_1 _) F.entry_object_init
  (zgT O Y Z S H λj e f d=>((_,f9 _ rfl,rfl),B j e f d)) λobj I J=>(J.1,_L obj _,zjH F.called_tuple.init.lookup F.called_tuple.made () prog w A.in1 _ I (J.1,rfl,J.2))
end
def O9(K:aO)(a:ak)(n:Nat):It:=
 (λi H=>i<n/\∃b,ej K H a b/\b.length=n,λi H x d=>d=H/\∀b,ej K H a b->b[n-1-i]? = aa x,λi H=>n<=i)
theorem aq(h:n<=cP):(n:Int)<2^63:=by
 have:cP<2^63:=by decide
 omega
theorem Bv{K:aO}(a z)(n):Turn P w K tg (O9 K a n) [z] z (λi h=>px h z a<|(n:Int)-1-(i:Nat)) where
 mem:=by simp
 obj:=λi h st b hb=>by
  have e:b=z:= ~~~hb
  subst e;show(_,st,λv q=>by cases q)
 keep:=λi h h' st k=>k z () _ st
 item:=by
  intro X O hw Y hc i pins s U H E I hf st J;subst O hw Y;let(hi,xs,hq,hn):=J;let(a6,rv,p,hz):=I.tuple hq;have hl:=rv.length;have hx:xs[n-1-i]? = aa (xs[n-1-i]'()):=eO ();let(u,hu,ru):=rv.get hx;let(Z,f1,f2,f3,f4,f5):=hf z ();have ac:px s.heap z a ((n-1-i:Nat):Int):=by rwa [show((n-1-i:Nat):Int)=(n:Int)-1-(i:Nat)by omega]
  show rY ac (show nL s.heap a a6.toArray from p) (x:=u) (~~~hu) (aq<|by simp;omega) λg pD sb=>?_;have I1:Inv X pins U H {s with heap:=g,toks:=s.toks+1}:=I.turned (λb o hb e=>(sb.2 b hb).trans e) Z f1 f3 f4 f5;rw[show((n-1-i:Nat):Int)-1=(n:Int)-1-((i+1:Nat))by omega]at pD;show(u,rfl,uS (s:={s with heap:=g,toks:=s.toks+1}) pD rfl rfl () (_,H,I1,ru,(rfl,λys hy=>by rw[I.SV hy hq];show hx),pD,λb hb=>(hf b hb).1))
 done:=by intro X O hw Y hc i pins s U H E I hf st J;subst O hw Y;let(Z,f1,f2,f3,f4,f5):=hf z ();have J:n<=i:=J;show EV (I.ok.hd hc) () st λg eb=>(rfl,I.turned (t':=s.toks) (λb o hb e=>eb b o hb e) Z f1 f3 f4 f5)
 self:=λy y y y y st h=>fO st h
def zaq(K:aO)(e:TA):TI:=λg H R=>e g H λf b=>∃a d,f=[.ref a]/\ej K b a d/\R (O9 K a (pT d)) b
theorem Nd{B:TA}(Z:Gl X "reversed")(U:X.mg "reversed" = af)(S:PA X [j] B)
 (hs:ck [j] ⋯=[(aF,bH j ⋯)]:=by rfl):PI X W (.Call (.Name "reversed" p) [j] [] pos) (zaq X.K B):=by
 intro b s F H R I h;show uh<|xo I Z U PyProof.Rows.boot_reversed<|pP (cy (S pos b s F H _ I h) λG d u=>?_) (by rw[hs];rfl) rfl;show aU λy=>?_;let(L,i,z,E,C):=u;let(a,f,e,k,q):=C;subst e;let(M,t,l):=kg E;show y ?_;subst t;cases l;let(m,r,A,N):=z.tuple k;have x:=r.length;show sg A (aq<|by simp;lia) ?_;generalize J:d.heap.push _=g;have O:px g ↥d a ((pT f)-1-(0:Nat)):=by rw[<-J,show(_-(0:Nat))=(m.toArray.size:Int)-1 by simp[x]];show f9 _ rfl
 show fO O ?_;show(_,_,_,_,i,rfl,z.kept λc o e=>by rw[<-J];show cW _ e,Bv a _ f.length,O,λc w=>?_,q);have Y:↥d<=c:=by
  have e:= ~~~w
  rw[e];show cV _
 show z.oC Y<|z.bQ.fresh Y
def GO(K:aO)(e:TA):TE:=λg H Q=>e g H λf b=>∃a d,f=[.ref a]/\ej K b a d/\∀l,b l=af->Q (.ref l) (upd b l<|.tup d.reverse)
theorem tw(hc:X.calm)(hg:Gl X "tuple")(hm:X.mg "tuple" = af)(a6:Gl X "reversed")(a7:X.mg "reversed" = af)(ha:PA X [S] W)
 (hs:ck [S] ⋯=[(aF,bH S ⋯)]:=by rfl) (a8:ck [.Call (.Name "reversed" U) [S] [] B] ⋯=[(aF,bH (.Call (.Name "reversed" U) [S] [] B) ⋯)]:=by rfl):
 PE X (.Call (.Name "tuple" p) [.Call (.Name "reversed" U) [S] [] B] [] pos) (GO X.K W):=by
 intro d s C H Q I h;show nW<|xo I hg hm X' (pP ?_ (by rfl) rfl) () ();rw[a8];change wpAny _ _ _ _ _ s;show nj<|nW<|xo I a6 a7 PyProof.Rows.boot_reversed (pP (cy (ha B d s C H _ I h) λus l hZ=>?_) (by rw[hs];rfl) rfl) () ();show aU λkZ=>?_;let(vs,r,J,r1,q1):=hZ;let(a,xs,e,E,q):=q1;subst e;let(w1,N,F):=kg r1;show kZ ?_;subst N;cases F;let(O,Z,m,z1):=J.tuple E;have hl:=Z.length;have k:O.toArray.size<=cP:=by simp;omega
 show sg m (aq k) ?_;generalize a1:l.heap.push _=g;have A:∀c o,_=aa o->g.get? c=aa o:=λc o e=>by rw[<-a1];show cW _ e
 have t:Inv X d C r {l with heap:=g,toks:=l.toks+1+1}:=J.kept A;show sk ?_;show BO (t.ok.hd hc) (eS<|IsTup.lt m) (by rw[<-a1];show f9 _ rfl) (IsTup.keeps m A) k λi f Y G=>?_;let(P,f1,f2,R,T,f5):=(J.oC (H':=r) (cV _)<|J.bQ.fresh<|cV _);have z:=t.turned (t':=i.toks) (λb o hb e=>Y.heap b o (~~~hb) e) P f1 R T f5;have z:=z;have M:({l with heap:=i.heap,toks:=i.toks})=i:=by let(h1,h2,h3,h4,h5):=i;have S:=Y.gens;have x:=Y.drawn;have y:=Y.os;simp only at S x y;simp?[S,x,y]
 rw[M]at z;have L:f=O.reverse.toArray:=by
  apply Array.ext';apply E2;intro j;let(n1,n2):=G;simp?[eW]at n1;by_cases hj:j<pT O
  .have u:j<f.size:=()
   have:=n2 j f[j] (Y_ u);simp?[eW,List.getElem?_toArray]at this;simp?[Q_,List.toList_toArray];simp?[Y_ u,List.getElem?_reverse hj,this]
  .simp?[Q_,List.toList_toArray]
   rw[Array.getElem?_eq_none (),DO (by simp;omega)]
 subst L;show(.ref _,_,z.laid (t':=i.toks) (λb o e=>cW _ e) (cV _) (show hL X.prog X.w _ _ _ (.tup xs.reverse)from(by simp;omega,O.reverse,Z.reverse,oP.new _ _)),rfl,q _<|z.bQ.fresh<|cV _)
end L2
namespace DL
open PySem PySem.Spec PyProof.Rows L2
theorem qZ(h:i6 X es n g):q8 X es g:=h.1
theorem bz.rev{K:aO}(r:bz K H j xs):bz K H j.reverse xs.reverse:=by
 induction j generalizing xs with
 |nil=>rw[r.m7];rfl
 |cons d j z=>
  let(x,f,e,a,b):=r.i0;simp?[e,Tu,Tu];show(z b).append (bz.cons a bz.nil)
theorem Bq{K:aO}{j B:Hp}{a:ak}{xs:zn V}{e:zn D}(H:ej K B a xs)(r:bz K j e xs):Walk K j B (O9 K a xs.length) e.reverse:=by
 have z:=r.length;show(λi f s b=>?_,λf s=>?_,λi f x h s b y=>?_)
 .rw[_C]at b;show((),xs,gr s H,rfl)
 .rw[_C];show(():xs.length<=e.length)
 .let(k,e2):=y
  subst k;rw[_C]at b;let(d,l,I):=r.tr<|e2 xs<|gr s H;show(d,by rw[List.getElem?_reverse b,<-z];show l,λg m o=>(g,Ext.refl o,I.mono m))
section
variable{X:Cx}{sc:cS}{N L:zn Str}{k:Nat}{a tg:bE}{pos p Ds p2:cH}{f:CO D}
theorem HR(h:SX X sc N L k)(c:qz sc "reversed" = ae)(z:X.mg "reversed" = af)(j:PV X a f)(hs:ck [a] ⋯=[(aF,bH a ⋯)]:=by rfl):ed X tg (.Call (.Name "reversed" p) [a] [] pos) (ON f):=
 Ya (Nd (h.gl c).1 z (zX j jG hs) hs) λt H R J=>by
  let(g,m,o,i,I,q):=J;let(d,O,I):=zc I;cases d with
  |tup s=>
   cases I;show(g,m,_,i,O,λv e b x r=>?_);let(Y,l,rfl,g1,g2):=kW r;show(Y,l,rfl,gr x.sub g1,q _ e b x<|Bq g1 g2)
  |_=>cases I
theorem zkt(h:SX X sc N L k)(c:qz sc "tuple" = ae)(z:X.mg "tuple" = af)(j:qz sc "reversed" = ae)(S:X.mg "reversed" = af)(B:PV X a f)(hs:ck [a] ⋯=[(aF,bH a ⋯)]:=by rfl)
 (O:ck [.Call (.Name "reversed" p2) [a] [] Ds] ⋯=[(aF,bH (.Call (.Name "reversed" p2) [a] [] Ds) ⋯)]:=by rfl):PV X (.Call (.Name "tuple" p) [.Call (.Name "reversed" p2) [a] [] Ds] [] pos) (WN f):=
 j3 (tw h.calm (h.gl c).1 z (h.gl j).1 S (zX B jG hs) hs O) λw H Q Y=>by
  let(b,s,d,m,I,q):=Y;let(Z,i,I):=zc I;cases Z with
  |tup u=>
   cases I;show(b,s,_,m,i,λv t e x r=>?_);let(g,o,rfl,g1,g2):=kW r;show(g,o,rfl,gr x.sub g1,λl J=>q _ _ _ (x.trans<|Ext.alloc x.sub J _)<|kX (ej.of zB)<|g2.rev.mono<|jx (jl x.sub J) _)
  |_=>cases I
end
section
variable{X:Cx}{L:zn Str}{a:bE}{pos p:cH}
theorem ziY{c:bE}(S:PV X a j)(U:PQ X c I)(W:m3 .NotIn c=aF:=by with_unfolding_all rfl):gk X (.Compare a [.NotIn] [c] pos) (sB<|fK j I):=
 X5 (w5 XB S U W) λP H Q J=>by
  show aU λO=>?_;let(o,m,d,h,z,q):=J;let(G,Y,Z):=zc z;let(x,w,z):=zc Y;let((g,u),y,z):=zc z;let(i,A,z):=zc z;let(l,B,rfl):=zy z;show O ?_;cases Z;show(o,m,x,h,w,λM F b k e=>(b,m,g,u,h.ext k,y,λp N s t E f K r=>?_));rw[j5 A]at e;have C:=YE r B;subst C;show(p,_,rfl,by
   cases g with
   |L=>show .inl f
   |T=>show .inr f,by rw[e];rfl,YM l,?_)
  rw[e,gK];show(_,rfl,q s t<|k.trans E)
end
end DL
namespace L2
open PySem PySem.Spec PyProof.Rows
def F3(z:Str):It:=(λi _=>i<z.cps.size,λi H x a=>a=H/\∃c,z.cps[i]? = aa c/\x=.str ⟨#[c]⟩,λi _=>z.cps.size<=i)
theorem uF(z):u5 z = "str_ascii_iterator"\/u5 z = "str_iterator":=by erw[u5];split<;>simp
theorem Bu{K:aO}(z)(t)(it):Turn P w K tg (F3 z) [it] it (λi h=>h.IsStrIter it (u5 z) z t i) where
 mem:=by simp
 obj:=λi h st b hb=>by
  have e:b=it:= ~~~hb
  subst e;let(o,e,c,d):=st;show(o,e,λv q=>by rw[d]at q;cases q)
 keep:=λi h h' st k=>by let(o,e,r):=st;show(o,k it () o e,r)
 item:=by
  rintro X rfl rfl rfl hc i pins s U H E I hf st hg;let(Z,f1,f2,f3,f4,f5):=hf it ();have hi:i<z.cps.size:=hg;have J:z.cps[i]? = aa z.cps[i]:=by simp[hi]
  have a6:∀h',h'.IsStrIter it (u5 z) z t (i+1)->pQ it s.heap h'->⇑X (zr tg (.ref it)<|.str ⟨#[z.cps[i]]⟩ s.toks)
   (λy s2=>∃x H',Inv X pins U H' s2/\RelV x (.str ⟨#[z.cps[i]]⟩ s.toks)/\(F3 z).nT i H x H'/\s2.heap.IsStrIter it (u5 z) z t (i+1)/\∀b ∈ [it],H' b=af) E {s with heap:=h',toks:=s.toks+1}:=λh' O Y=>by
   have I1:Inv X pins U H {s with heap:=h',toks:=s.toks+1}:=I.turned (λb o hb e=>(Y.2 b hb).trans e) Z f1 f3 f4 f5;let(o,e,c,d):=id O;show uS (s:={s with heap:=h',toks:=s.toks+1}) e c d ?_ (.str ⟨#[z.cps[i]]⟩,H,I1,(_,rfl),(rfl,_,J,rfl),O,λb hb=>(hf b hb).1);rcases uF z with q|q<;>rw[q]<;>decide
  rcases uF z with q|q
  .rw[q]at st
   show wpAny_pyNext_ascii_item st J λh' O Y=>(_,rfl,a6 h' (by rw[q];show O) Y)
  .rw[q]at st
   show wpAny_pyNext_wide_item st J λh' O Y=>(_,rfl,a6 h' (by rw[q];show O) Y)
 done:=by
  rintro X rfl rfl rfl hc i pins s U H E I hf st hg;let(Z,f1,f2,f3,f4,f5):=hf it ();have hi:z.cps.size<=i:=hg;have J:z.cps[i]? = af:=by simp[hi]
  have hh:=I.ok.hd hc;rcases uF z with q|q
  .rw[q]at st
   show wpAny_pyNext_ascii_end hh st J λh' eb=>(rfl,I.turned (t':=s.toks) (λb o hb e=>eb b o hb e) Z f1 f3 f4 f5)
  .rw[q]at st
   show wpAny_pyNext_wide_end hh st J λh' eb=>(rfl,I.turned (t':=s.toks) (λb o hb e=>eb b o hb e) Z f1 f3 f4 f5)
 self:=λA i s Q E st h=>by
  rcases uF z with q|q
  .rw[q]at st;show wpAny_pyIter_striter_ascii st h
  .rw[q]at st;show wpAny_pyIter_striter_wide st h
def zao(e:TE):TI:=λb H R=>e b H λx a=>∃z,x=.str z/\R (F3 z) a
theorem Nc{j:TE}(O:PE X l j):PI X B l (zao j):=by
 intro a s i H R I h;show cy (O a s i H _ I h) λv k Y=>?_;let(x,d,J,g,Z):=Y;let(z,rfl,q):=Z;let(t,rfl):=g;show wpAny_pyIter_strU ?_;show(_,_,_,_,d,rfl,J.kept λb o e=>cW _ e,Bu z t _,(_,f9 _ rfl,rfl,rfl),λb f=>?_,q);have e:= ~~~f
 subst e;show J.oC (cV _)<|J.bQ.fresh<|cV _
theorem lW{j:TW}{z B:ak}{i W:Nat}{x:aN}{v:V}{g:bN}{S:zn bE}{x1:Nat}{σ:cH}{Q:Unit->bB->Prop}
 (I:Inv X j U H s) (hf:∀b ∈ [z,B],XT X j H b) (Y:z<↥s) (hi:B<↥s) (Z:IsEnumOut g z B (i+1) x ↥s)
 (a3:nK g ↥s (.int i W) x) (a5:∀b o,b≠z->b≠B->s.heap.get? b=aa o->g.get? b=aa o) (rx:RelV v x)
 (a7:∀g2,uo g2 z B ((i+1:Nat)) x->pQ z g g2->Inv X j U (upd H ↥s<|.tup [.int i,v]) {s with heap:=g2,toks:=W+1}->H ↥s=af->
   (∀b ∈ [z,B],upd H ↥s (.tup [.int i,v]) b=af)->Q ⟨⟩ {s with heap:=g2,toks:=W+1}):
 ⇑X (zr (.Tuple S x1 σ) (.ref z)<|.ref ↥s) Q E {s with heap:=g,toks:=W+1}:=by
 show zlG Z λg2 d J=>?_;show a7 g2 (by rwa [show(i+1)=((i+1):Int)by lia]at d) J (I.SY (λO u a e=>by simp?[d8,i9,or_false,not_or]at a;show J.extBut _ _ a.1<|a5 O u a.1 a.2 e) hf (cV _) (by change 2<=cP;decide,_,.cons (_,rfl)<|.cons rx .nil,(_,J.extBut _ _ (n3 Y) a3,rfl,_,rfl))) I.fresh λO a=>?_
 rw[zC (by
  grind)];show(hf O a).1
def Tx(K:aO)(a:ak):It:=
 (λi H=>∃b,dY K H a b/\i<b.length,
  λi H x d=>∃p u,x=.ref p/\H p=af/\d=upd H p (.tup [.int i,u])/\(∀b,dY K H a b->b[i]? = aa u),
  λi H=>∃b,dY K H a b/\b.length=i)
theorem ziO{w:cN}{K:aO}{z it a:ak}(a9:z≠it):
 Turn P w K (.Tuple elts x1 oi) (Tx K a) [z,it] z (λi h=>(∃O,uo h z it i O)/\h.IsListIter it a i) where
 mem:=by simp
 obj:=λi h ((O,J),h1) y hy=>by
  simp?[d8,i9,or_false]at hy;rcases hy with rfl|rfl
  .exact(_,J,λv q=>by cases q)
  .let(o,e,c,d):=h1
   show(o,e,λv q=>by rw[d]at q;cases q)
 keep:=λi h h' ((O,J),h1) k=>((O,k z () _ J),h1.at λo e=>k it () o e)
 item:=by
  rintro X rfl rfl rfl hc i pins s U H E I hf ⟨⟨O,J⟩,h1⟩ ⟨xs,Z,ao⟩;let(a6,a7,p1,z1):=I.list Z;have Y:=p1.isList;have hx:xs[i]? = aa xs[i]:=eO ao;have l1:=a7.length;have ac:a≠it:=λe=>by let(o,e1,c1,m):=Y;let(o2,e2,c2,m):=h1;rw[e,e2]at e1;cases e1;rw[c2]at c1;show absurd c1 ()
  have as:z≠a:=λe=>by let(o,e1,c1,m):=Y;have an:s.heap.get? z=aa _:=J;rw[e,e1]at an;cases an;show absurd c1 ()
  have av:it<↥s:=by let(o2,e2,m):=h1;show ei e2
  have Dr:=Draws.list (prog:=X.prog) (w:=X.w) (A:=X.A.in1) (show X.A.in1.handled=af from I.ok.hd hc) it a ac a6.toArray;show zlK Dr J (h1,Y) (by simp;lia) a9 (by simp;show(a9,as)) λx g tk hP a1 a2 a3 a4 a5=>(_,rfl,?_);let(u1,b5,b6):=a7.get hx;obtain rfl:u1=x:=by have:=hP;simp[b5]at this;show this
  show lW I hf (ei J) av a1 a3 a5 b6 λg2 b1 b2 I1 b8 hn=>(.ref ↥s,_,I1,rfl,(_,_,rfl,b8,rfl,λbg b9=>by rw[I.P1 b9 Z];show hx),((_,b1),a2.1.at λo e=>b2.extBut _ _ a9.symm e),hn)
 done:=by
  rintro X rfl rfl rfl hc i pins s U H E I hf ⟨⟨O,J⟩,h1⟩ ⟨xs,Z,hi⟩;let(a6,a7,p1,z1):=I.list Z;have Y:=p1.isList;have l1:=a7.length;have ac:a≠it:=λe=>by let(o,e1,c1,m):=Y;let(o2,e2,c2,m):=h1;rw[e,e2]at e1;cases e1;rw[c2]at c1;show absurd c1 ()
  have Dr:=Draws.list (prog:=X.prog) (w:=X.w) (A:=X.A.in1) (show X.A.in1.handled=af from I.ok.hd hc) it a ac a6.toArray;have zhF:a6.toArray.size=i:=by simp;lia
  rw[zhF]at Dr;show zlJ Dr J (h1,Y) λg hk=>(rfl,?_);show I.sd (t':=s.toks) (fp:=[z,it]) (λb' u hb e=>?_) hf;simp?[d8,i9,or_false,not_or]at hb;show hk b' u hb.2 e
 self:=λm m m m m st h=>vL st.1.choose_spec h
def Tw(z:Str):It:=
 (λi _=>i<z.cps.size,λi H x a=>∃p c,x=.ref p/\H p=af/\a=upd H p (.tup [.int i,.str ⟨#[c]⟩])/\z.cps[i]? = aa c,λi _=>i=z.cps.size)
theorem dR(z:A.handled=af)(e)(x)(t):
 Draws prog w A e [e] x.cps.size (λi v=>∃c u,x.cps[i]? = aa c/\v=.str ⟨#[c]⟩ u) (λi h=>h.IsStrIter e (u5 x) x t i):=by
 rcases uF x with q|q
 .rw[q];show Draws.strAscii z e x t
 .rw[q];show Draws.strWide z e x t
theorem ziN{w:cN}{K:aO}{z it:ak}(x)(t)(Y:z≠it):
 Turn P w K (.Tuple elts x1 oi) (Tw x) [z,it] z (λi h=>(∃O,uo h z it i O)/\h.IsStrIter it (u5 x) x t i) where
 mem:=by simp
 obj:=λi h ((O,J),h1) y hy=>by
  simp?[d8,i9,or_false]at hy;rcases hy with rfl|rfl
  .exact(_,J,λv q=>by cases q)
  .let(o,e,c,d):=h1
   show(o,e,λv q=>by rw[d]at q;cases q)
 keep:=λi h h' ((O,J),h1) k=>((O,k z () _ J),by let(o,e,r):=h1;show(o,k it () o e,r))
 item:=by
  rintro X rfl rfl rfl hc i pins s U H E I hf ⟨⟨O,J⟩,h1⟩ a7;have a8:it<↥s:=by let(o2,e2,m):=h1;show ei e2
  have Z:=dR (prog:=X.prog) (w:=X.w) (A:=X.A.in1) (show X.A.in1.handled=af from I.ok.hd hc) it x t;show zlK Z J h1 a7 Y (by simp;show Y) λu g tk hP a1 a2 a3 a4 a5=>(_,rfl,?_);let(c,znO,an,rfl):=hP;show lW (v:=.str ⟨#[c]⟩) I hf (ei J) a8 a1 a3 a5 (_,rfl) λg2 b1 b2 I1 ap hn=>(.ref ↥s,_,I1,rfl,(_,_,rfl,ap,rfl,an),((_,b1),?_),hn);let(o,e,r):=a2;show(o,b2.extBut _ _ Y.symm e,r)
 done:=by rintro X rfl rfl rfl hc i pins s U H E I hf ⟨⟨O,J⟩,h1⟩ hi;have hi:i=x.cps.size:=hi;subst hi;have Z:=dR (prog:=X.prog) (w:=X.w) (A:=X.A.in1) (show X.A.in1.handled=af from I.ok.hd hc) it x t;show zlJ Z J h1 λg hk=>(rfl,?_);show I.sd (t':=s.toks) (fp:=[z,it]) (λb' u hb e=>?_) hf;simp?[d8,i9,or_false,not_or]at hb;show hk b' u hb.2 e
 self:=λm m m m m st h=>vL st.1.choose_spec h
def NW(K:aO)(e:TA):TI:=λg H R=>e g H λd b=>∃a,d=[.ref a]/\(∃f,dY K b a f)/\R (Tx K a) b
def NV(e:TA):TI:=λd H R=>e d H λb a=>∃z,b=[.str z]/\R (Tw z) a
section
variable{X:Cx}{e1:bE}{ta:TA}{p pos:cH}{elts:zn bE}{x1:Nat}{oi:cH}
theorem Cn(O:Gl X "enumerate")(S:X.mg "enumerate" = af)(B:PA X [e1] ta)
 (Y:pg "enumerate" = aa (.type "enumerate")) (hs:ck [e1] ⋯=[(aF,bH e1 ⋯)]:=by rfl):
 PI X (.Tuple elts x1 oi) (.Call (.Name "enumerate" p) [e1] [] pos) (NW X.K ta):=by
 intro b s w H R I h;show uh<|xo I O S Y<|pP (cy (B pos b s w H _ I h) λC u Z=>?_) (by rw[hs];rfl) rfl;show aU λm=>?_;let(E,f,z,t,r):=Z;let(a,rfl,(G,i),q):=r;let(F,rfl,j):=kg t;show m ?_;cases j;let(x,y,o,L):=z.list i;show call_enumerate_list o.isList λg d k A l=>vL d ?_;show(_,_,_,_,f,rfl,z.kept l,ziO<|n3<|oY _,((_,d),k),λc e=>?_,q);have J:↥u<=c:=by
  simp?[d8,i9,or_false]at e;rcases e with rfl|rfl
  .exact nh _ _
  .exact cV _
 show z.oC J<|z.bQ.fresh J
theorem Cm(Y:Gl X "enumerate")(S:X.mg "enumerate" = af)(B:PA X [e1] ta)
 (Z:pg "enumerate" = aa (.type "enumerate")) (hs:ck [e1] ⋯=[(aF,bH e1 ⋯)]:=by rfl):
 PI X (.Tuple elts x1 oi) (.Call (.Name "enumerate" p) [e1] [] pos) (NV ta):=by
 intro a s u H R I h;show uh<|xo I Y S Z<|pP (cy (B pos a s u H _ I h) λx r k=>?_) (by rw[hs];rfl) rfl;show aU λl=>?_;let(y,e,J,o,m):=k;let(z,rfl,q):=m;let(A,rfl,f):=kg o;let(t,rfl):=f;show l ?_;show call_enumerate_str λg b i w j=>vL b ?_;show(_,_,_,_,e,rfl,J.kept j,ziN z t<|n3<|oY _,((_,b),i),λc d=>?_,q);have O:↥r<=c:=by
  simp?[d8,i9,or_false]at d;rcases d with rfl|rfl
  .exact nh _ _
  .exact cV _
 show J.oC O<|J.bQ.fresh O
end
theorem Mq:Dd X (λx lo e H Q=>∃z,x=.str z/\z.length<=cP/\Q (.str<|sy z lo e) H):=by
 rintro a s i H x v m p lo e j Q I Z ⟨o,J,b,d⟩ g h ⟨z,rfl,O,q⟩;let(t,rfl):=Z;have Y:∀f k,EP X a i Q (.str _ f) _:=λf k=>(.str _,H,I.tok k,(_,rfl),q);show("str",_,F.slot_str_getitem.lookup,B6 _ _ _,?_);cases g<;>cases h
 .exact Tp (l:=af) (u:=af) (st:=af) (o,J,b,d) rfl<|U4 (et (UA z _ _) O,Y)
 .exact Tp (l:=af) (u:=aa (_,_)) (st:=af) (o,J,b,d) rfl<|U4 (et (UA z _ _) O,Y)
 .exact Tp (l:=aa (_,_)) (u:=af) (st:=af) (o,J,b,d) rfl<|U4 (et (UA z _ _) O,Y)
 .exact Tp (l:=aa (_,_)) (u:=aa (_,_)) (st:=af) (o,J,b,d) rfl<|U4 (et (UA z _ _) O,Y)
end L2
namespace DL
open PySem PySem.Spec PyProof.Rows L2
theorem JG(z):(yv z).length=z.cps.size:=by simp[yv]
theorem iF(z){i c:Nat}(h:z.cps[i]? = aa c):(yv z)[i]? = aa (.str ⟨#[c]⟩):=by simp[yv,h]
theorem Bp{K:aO}(z):Walk K e j (F3 z) (yv z):=by
 show(λi b s a=>?_,λb s=>?_,λi b x f s a y=>?_)
 .rw[JG]at a;show a
 .rw[JG];show cV _
 .let(rfl,c,g,rfl):=y
  show(_,iF z g,λd k h=>(d,Ext.refl h,rfl))
theorem ziI{K:aO}(z):Walk K e j (Tw z) (xF<|yv z):=by
 have I:(xF<|yv z).length=z.cps.size:=by simp[xF,JG]
 show(λi b s a=>?_,λb s=>?_,λi b x d s a y=>?_)
 .rw[I]at a;show a
 .assumption
 .let(p,c,rfl,g,rfl,f):=y
  show(.tup [.int i,.str ⟨#[c]⟩],?_,λk l h=>(_,Ext.alloc h g _,kX (ej.of zB)<|bz.cons rfl<|bz.cons rfl bz.nil))
  .rw[I]at a
   erw[xF];rw[nE,_D (by rw[JG];show a),tW,iF z f];rfl
theorem ziJ{K:aO}{j B:Hp}{a:ak}{xs:zn V}{e:zn D}(h:dY K B a xs)(r:bz K j e xs):Walk K j B (Tx K a) (xF e):=by
 have I:=r.length;have J:(xF e).length=e.length:=by simp[xF]
 show(λi b s m=>(xs,s.seq h,()),λb s=>(xs,s.seq h,()),λi b x k s m y=>?_)
 .let(p,u,rfl,f,rfl,g1):=y
  let(d,l,z):=r.tr<|g1 xs<|s.seq h;show(.tup [.int i,d],?_,λt o g=>(_,Ext.alloc g f _,kX (ej.of zB)<|bz.cons rfl<|bz.cons ((z.mono o).mono (jx (jl g f) _)) bz.nil))
  .unfold xF
   rw[nE,_D (),tW,l];rfl
theorem JE:∀l:zn Str,(l.map V.str).all Vx
 |[]=>rfl
 |i::l=>by simp?[kT,B1,JE l,Bool.and_true];rfl
section
variable{X:Cx}{sc:cS}{N L:zn Str}{k:Nat}{a b:bE}{pos p p2:cH}{f fa fb:CO D}
theorem sW(j:PV X a f):ed X B a (VT f):=
 Ya (Nc j) λm H R J=>by
  let(g,l,h,k,I,q):=J;let(d,O,I):=zc I;cases d with
  | str z=>
   by_cases i:zO z
   .have I:(if zO z then aa (yv z)else af)=aa h:=I
    rw[DJ i]at I;cases I;show(g,l,_,k,O,λv e b x r=>(z,r,q _ e b x<|Bp z))
   lia
  |_=>cases I
theorem HS{S:Nat}(h:SX X sc N L k)(c:qz sc "enumerate" = ae)(z:X.mg "enumerate" = af)(B:PV X a f)(hs:ck [a] ⋯=[(aF,bH a ⋯)]:=by rfl):
 ed X (.Tuple e S j) (.Call (.Name "enumerate" p) [a] [] pos) (rS f):=
 Ya (Cm (h.gl c).1 z (zX B jG hs) b_ hs) λt H R J=>by
  let(i,s,l,o,I,q):=J;let(d,O,I):=zc I;cases d with
  | str z=>
   by_cases m:zO z
   .have I:(if zO z then aa _ else af)=aa l:=I
    rw[DJ m]at I;cases I;show(i,s,_,o,O,λv g b x r=>(z,by rw[r],q _ g b x<|ziI z))
   lia
  |_=>cases I
theorem Ji(h:SX X sc N L k)(c:qz sc "enumerate" = ae)(z:X.mg "enumerate" = af)(j:PV X a f)(hs:ck [a] ⋯=[(aF,bH a ⋯)]:=by rfl):
 ed X (.Tuple elts x1 oi) (.Call (.Name "enumerate" p) [a] [] pos) (wW f):=
 Ya (Cn (h.gl c).1 z (zX j jG hs) b_ hs) λt H R J=>by
  let(g,m,o,i,I,q):=J;let(d,O,I):=zc I;cases d with
  |lst s=>
   cases I;show(g,m,_,i,O,λv e b x r=>?_);let(Y,l,rfl,g1,g2):=gz r;show(Y,rfl,(l,x.sub.seq g1),q _ e b x<|ziJ g1 g2)
  |_=>cases I
theorem sJ(B:PV X a fa)(S:PQ X b g)(U:m3 .In b=aF:=by with_unfolding_all rfl):PV X (.Compare a [.In] [b] pos) (BL fa g):=
 j3 (QZ Yf B S U) λM H Q I=>by
  show aU λJ=>?_;let(m,k,d,i,z,q):=I;let(x,t,z):=zc z;let((h,s),u,z):=zc z;show J ?_;cases x with
  | str w=>
   let(l,O,rfl):=zy z;show(m,k,_,i,t,λG E e j C=>(e,k,h,s,i.ext j,u,λp K o Y Z f F r=>?_));have A:=wQ r O;subst A;subst C;show(p,_,rfl,by
    cases h with
    |L=>show .inl f
    |T=>show .inr f,rfl,JE l,?_)
   have:pG (.str w) (l.map V.str)=l.any λy=>y==w:=by erw[pG];rw[N6];rfl
   rw[DY i4,this];show q _ o Y (j.trans Z) rfl
  |_=>cases z
theorem qG(B:PV X a fa)(S:PV X b fb):PV X (.BinOp a .Add b pos) (xQ fa fb):=
 j3 (Cp zi8 B S) λA H Q I=>by
  let(j,i,d,g,z,q):=I;let(x,l,z):=zc z;let(y,m,z):=zc z;cases x with
  | str u=>
   cases y with
   | str w=>
    by_cases f:zO u/\zO w
    .have z:(if zO u/\zO w then aa _ else af)=aa d:=z
     rw[DJ f]at z;cases z;show(j,i,_,g,l,λY r e h o=>(e,i,_,g.ext h,m,λZ k J O p=>(u,w,o,p,?_,q _ k J (h.trans O) rfl)));have s:=ZD f.1;have t:=ZD f.2;have:2000<=cP:=by decide
     lia
    lia
   |_=>cases z
  |_=>cases z
theorem KU{lo B:xz bE}{j J:CO (xz Int)}(S:PV X a f)(Z:L2.PO X lo (tB X.K j))(U:L2.PO X B (tB X.K J)):PV X (.Subscript a (.Slice lo B af p2) pos) (iJ f j J):=
 j3 (W2 Mq S Z U) λF H Q w=>by
  show aU λy=>?_;let(i,g,d,e,I,q):=w;let(O,p,I):=zc I;let(l,s,I):=zc I;let(u,t,I):=zc I;show y ?_;show(i,g,O,e,p,λv C b x r=>(b,g,l,e.ext x,s,λE m Y=>(m,g,u,(e.ext x).ext Y,t,λk o A=>?_)));cases O with
  | str z=>
   by_cases h:zO z
   .have I:(if zO z then aa _ else af)=aa d:=I
    rw[DJ h]at I;cases I;show(z,r,ZA h,q _ k o (x.trans<|Y.trans A) rfl)
   lia
  |_=>cases I
end
section
variable{K:aO}{mg:DZ}{h:bN}
def fE:zn aN->xz (zn Str)
 |[]=>aa []
 |.str i _::r=>(fE r).map λl=>i::l
 |_::_=>af
theorem Xt:∀{us}{j},fE us=aa j->cM (j.map V.str) us
 |[],j,e=>by cases e;show .nil
 | u::us,j,e=>by
  cases u with
  |str i t=>
   let(l,a,b):=zy e;subst b;show .cons (t,rfl)<|Xt a
  |_=>cases e
theorem wX:∀e:zn Str,bz K H (e.map D.str) (e.map V.str)
 |[]=>bz.nil
 |n::e=>bz.cons rfl<|wX e
theorem Sv{ad:ak}(J:K.In h)(G:h.Ns gp mg)(a:oL K gp x=aa (aa (.ref ad)))
 (l:K.lookup ad=aa (.type "tuple",af,.seq I m,j)) (v:(fE I.toList).map (·.map D.str)=aa d) (z:I.size<=cP):GL K mg x (.tup d):=by
 let(e,q,rfl):=zy v;show(_,.ref ad,sf J G a,rfl,λH=>((ad,_,rfl,.inr (_,I,m,l,rfl,rfl,z,Xt q),wX e)))
end
end DL
namespace DL
open PySem L2 PyProof.Rows
open PySem.W (KasT kas_sort kas_asc kas_desc kas_tail3 kas_descPart kas_count kas_place kas_bin kas_rev)
def Good{e:Type}(n:Nat)(P:e->Prop):KasT e->Prop
 |.ret a=>P a
 |.ask i j k=>i<n/\j<n/\∀b,Good n P<|k b
theorem Good.mono{P z:e->Prop}(h:∀a,P a->z a):∀{t},Good n P t->Good n z t
 |.ret a,g=>h a g
 |.ask i j k,g=>(g.1,g.2.1,λb=>(g.2.2 b).mono h)
theorem Good.bind{P:e->Prop}{z:β->Prop}{f:e->KasT β}(B:∀a,P a->Good n z (f a)):∀{t},Good n P t->Good n z (t.bind f)
 |.ret a,g=>B a g
 |.ask i j k,g=>(g.1,g.2.1,λb=>(g.2.2 b).bind B)
theorem Good.run:∀{t},Good n P t->P (OQ lt t)
 |.ret a,g=>g
 |.ask i j k,g=>(g.2.2 _).run
def Pm(n:Nat)(p:Array Nat):Prop:=p.toList.Perm<|aT n
theorem Pm.lt(h:Pm n p)(j:0<n)(i):p.getD i 0<n:=by
 by_cases a:i<p.size
 .have e:p.getD i 0=p[i]:=by simp[Array.getD,a]
  rw[e];show dy.mp<|h.mem_iff.mp ()
 .have e:p.getD i 0=0:=by simp[Array.getD,a]
  rw[e];show j
theorem Pm.rev(h:Pm n p)(i j):Pm n (kas_rev p i j):=(Array.perm_iff_toList_perm.mp<|mirror_perm p i j _).trans h
theorem Pm.bub(h:Pm n p)(i j):Pm n (bubble p i j):=(Array.perm_iff_toList_perm.mp<|bubble_perm p i j).trans h
theorem aB(h:Pm n p)(e:0<n):∀f m,Good n (λq=>True) (kas_asc p f m)
 |0,m=>trivial
 |f+1,m=>(h.lt e _,h.lt e _,λb=>by
  cases b with
  |true=>show trivial
  |false=>show aB h e f<|m+1)
theorem J2(e:0<n):∀f p m q,Pm n p->Good n (λr=>Pm n r.1) (kas_desc f p m q)
 |0,p,m,q,h=>h
 | f+1,p,m,q,h=>(h.lt e _,h.lt e _,λb=>by
  cases b with
  |true=>
   split
   .exact J2 e f _ _ _<|h.rev _ _
   .exact J2 e f _ _ _ h
  |false=>show(h.lt e _,h.lt e _,λd=>by
   cases d with
   |true=>show h
   |false=>show J2 e f _ _ _ h))
theorem dH(e:0<n)(m r)(h:Pm n p):Good n (λr=>Pm n r.2) (kas_tail3 m r p):=by erw[kas_tail3];show Good.bind (λa q=>?_)<|aB (h.rev _ _) e _ _;show(h.rev _ _)
theorem dJ(e:0<n)(m r)(h:Pm n p):Good n (λr=>Pm n r.2) (kas_descPart m r p):=
 (J2 e _ _ _ _ h).bind λa b=>by
   split
   .exact dH e _ _<|Pm.rev b _ _
   .exact dH e _ _ b
theorem zjx(e:0<n)(r)(h:Pm n p):Good n (λr=>Pm n r.2) (kas_count r p):=
 (aB h e _ _).bind λm q=>by
   split
   .exact h
   .split
    .exact(h.lt e _,h.lt e _,λc=>by
      cases c with
      |true=>show h
      |false=>show dJ e _ _<|h.rev _ _)
    .exact dJ e _ _ h
theorem Xj(e:0<n)(h:Pm n p)(k):∀f l r,Good n (λq=>True) (kas_place p k f l r)
 |0,l,r=>trivial
 |f+1,l,r=>by
  change Good n _ (if l>=r then _ else _);split
  .exact trivial
  .exact(h.lt e _,h.lt e _,λc=>by
    cases c with
    |true=>show Xj e h k f _ _
    |false=>show Xj e h k f _ _)
theorem lO(e:0<n):∀f p k,Pm n p->Good n (Pm n) (kas_bin f p k)
 |0,p,k,h=>h
 |f+1,p,k,h=>(Xj e h k k 0 k).bind λl q=>lO e f _ _<|h.bub _ _
theorem YI(e:0<n):Good n (Pm n) (kas_sort n):=
 (zjx e n<|List.Perm.refl _).bind λr z=>by
   split
   .exact lO e _ _ _ z
   .exact z
theorem qk(ps:zn (Int×Int)):(xR ps).Perm (aT ps.length):=by
 erw[xR];split
 .rfl
 .exact(YI ()).run
theorem cF:∀{e:zn D} {ps:zn (Int×Int)},Xz e=aa ps->ps.length=e.length
 |[],ps,h=>by cases h;rfl
 | d::e,ps,h=>by
  erw[Xz]at h;cases e1:Cv d with
  |none=>grind
  |some x=>
   cases e2:Xz e with
   |none=>grind
   |some l=>rw[e1,e2]at h;cases h;simp[cF e2]
theorem j4(d:α):∀e,(aT (pT e)).map (λi=>e.getD i d)=e:=λe=>by
 apply E2;intro i;by_cases a:i<pT e
 .simp[a]
 .simp[a,Nat.not_lt.mp a]
end DL
namespace DL
open PySem PySem.Spec PyProof.Rows L2
open PySem.W (KasT kas_sort kas_ask kat_run kat_snds kat_lt kat_cons kat_no kat_yes kat_nil kat_go kat_one kat_kind KatTups KatGo)
theorem gO(e:∀i j C,i<n->j<n->C (lt i j) s->cmp i j C s):
 ∀{t:KasT α},Good n P t->Q (OQ lt t) s->t.kasWp cmp Q s
 |.ret _,_,q=>q
 |.ask i j k,g,q=>e i j _ g.1 g.2.1<|gO e (g.2.2 _) q
def rb(h:bN)(v:aN)(k l:Int):Prop:=∃x o a m t u,v=.ref x/\h.get? x=aa o/\o.cls=.type "tuple"/\o.data=.seq a m/\a.toList=[.int k t,.int l u]
theorem rb.keep(a:rb h v k l)(e:∀b o,h.get? b=aa o->o.cls=.type "tuple"->h'.get? b=aa o):rb h' v k l:=by let(x,o,p,m,t,u,f,g,d,i,j):=a;show(x,o,p,m,t,u,f,e x o g d,d,i,j)
theorem rb.one(a:rb h v k l):OD h v k:=by let(x,o,i,m,t,u,b,d,e,f,g):=a;show(x,o,i,m,t,b,d,e,f,by rw[<-Q_,g];rfl)
section
variable{prog:cQ}{w:cN}{A:ec}{E:EQ}{s:bB}
theorem zgx{vs:zn aN}(O:s.heap.get? a=aa (eu "list" vs.toArray n))(Z:pT ps=pT vs)(ao:pT vs<64)
 (hT:∀i B,rb s.heap vs[i] (ps.getD i (0,0)).1 (ps.getD i (0,0)).2)
 (h:P (.done<|.ret .none) {s with heap:=sortedHeap s.heap a vs (Uy<|(xR ps).map λi=>vs.getD i h9)}):
 wpAny (aV prog w) A (Builtin.«list.sort» ([.ref a],[])) P E s:=by
 rw[list_sort_plain];have X:=ei O;have L:pT vs<=cP:=by rw[mv];lia
 show aL (listItems_at O rfl ?_);show aL (B2 O rfl ?_ (by assumption) (g8 _));let(d,N):∃d,(s.heap.update a (gV λq=>#[])).get? a=aa (eu "list" #[] d):=(_,U5 O (λq=>#[]));show aL (OT N rfl ?_);show aL (Uw ?_ (by change (pT vs)<=_;show L));show aL (Uu ?_ (g8 _));show hG ?_;have J:(((s.heap.update a (gV λq=>#[])).push (eu "tuple" vs.toArray 0)).push (eu "list" #[] 0)).get? a=aa (eu "list" #[] d):=by rw[E5 _ _ _ (by rw[R9,T8];show eS (nF X)),E5 _ _ _ (by rw[T8];show eS X)];show N
 dsimp only;have K:vs.toArray.size=pT vs:=by simp
 by_cases l:vs.toArray.size<2
 .rw[DJ l,DJ l]
  show aL<|bW ?_;rw[StateT.run_pure];show aL<|bW ?_;dsimp only;show aL<|OT J rfl ?_;have U:Array.map (λx=>x.snd) (arrOf<|SortSt.mk' general' (vs.toArray.zip vs.toArray) #[] 7 af)=vs.toArray:=by apply Array.ext';simp[Array.toList_map,Array.toList_zip];rw[List.map_snd_zip (cV _)]
  have ev:(xR ps).map (λi=>vs.getD i h9)=vs:=by erw[xR];rw[DJ (),Z];show j4 _ _
  rw[ev]at h;show aL (B2 J rfl ?_ (g8 _) (by rw[U,K];show N2 L));simp?[bne_self_eq_false,_i,if_false];have e8:({s with heap:=(((s.heap.update a (gV λx=>#[])).push (eu "tuple" vs.toArray 0)).push (eu "list" #[] 0)).update a (gV λx=>Array.map (λx=>x.snd) (arrOf (SortSt.mk' general' (vs.toArray.zip vs.toArray) #[] 7 af)))}) = {s with heap:=sortedHeap s.heap a vs vs.toArray}:=by rw[U];rfl
  show bW ?_;rw[<-e8]at h;show h
 .rw[DY l,DY l]
  have keep b o:s.heap.get? b=aa o->o.cls=.type "tuple"->(((s.heap.update a (gV λq=>#[])).push (eu "tuple" vs.toArray 0)).push (eu "list" #[] 0)).get? b=aa o:=λe hc=>by show cW _ (cW _ ((DH _ _ _ _ (λz=>by lia)).trans e))
  generalize hg:((s.heap.update a (gV λq=>#[])).push (eu "tuple" vs.toArray 0)).push (eu "list" #[] 0)=g at J keep ⊢;have F:=λi B=>(hT i B).keep keep;let(fs,f1,f2,f3):=uB λi B=>(F i B).one;show aL (kat_kind (T:=sA "int") f1 () (λv hv=>?_) () ?_)
  .let(k,t,rfl):=f3 v hv
   show t6.of_pure rfl
  show aL (cT (kat_run (Q:=λY f=>∃p,arrOf Y=p.map (PySem.W.kas_item<|vs.toArray.zip vs.toArray)/\failedOf Y=af/\p.toList=xR ps/\f = {s with heap:=g})
   (G:=λp f=>p.toList=xR ps/\f = {s with heap:=g})
   rfl () ao (λp Y f a1 a2 a3 M=>(p,a2,a3,M.1,M.2)) (gO (λi j C B hj I=>?_) (YI ()) (by
   erw[xR];rw[DY (),Z],rfl))) ?_ λq q e=>e)
  .show wpAny _ _ (keyLt' _ (vs.getD i h9)<|vs.getD j h9) C _ _
   rw[show vs.getD i h9=vs[i]by simp[B],show vs.getD j h9=vs[j]by simp[hj]];show aU λkZ=>?_;let(x,zjQ,xs,m,t,u,d,e2,e3,e4,S):=F i B;let(y,zjR,ys,m',t',u',d1,d2,d3,d4,R):=F j hj;show kZ ?_;rw[d,d1];show kat_lt e2 e4 d2 d4 ?_;have b9:xs.size=2:=by rw[<-t7,S];rfl
   have bb:ys.size=2:=by rw[<-t7,R];rfl
   simp?[S,R,b9,bb,D9,D9];erw[Si]at I;generalize ps.getD i (0,0)=X1 at I ⊢;generalize ps.getD j (0,0)=X2 at I ⊢;show kat_cons<|N4 X1.1 t X2.1 t' _ _ _ _ ?_;show kat_go (λH=>?_) λH=>?_
   .rw[DJ (~~~H)]at I
    show kat_yes<|kat_cons<|N4 X1.2 u X2.2 u' _ _ _ _<|kat_go (λr=>?_) λr=>kat_no<|kat_one _ _<|lt_int I
    .have r:= ~~~r
     show kat_yes<|kat_nil ?_;rw[show decide (X1.2<X2.2)=aF by rw[r];simp]at I;show I
   .rw[DY (~~~H)]at I
    show kat_no<|oneLt_int I
  rintro⟨⟨⟩,Y⟩ f ⟨p,bd,hf,hp,rfl⟩;dsimp only;have be:((xR ps).map λi=>vs.getD i h9).length=pT vs:=by rw[f7,(qk ps).length_eq,pM,Z]
  rw[(kat_snds rfl bd),hp];show aL<|OT J rfl ?_;show aL<|B2 J rfl ?_ (g8 _) (by rw[eW];change((xR ps).map λi=>vs.getD i h9).length<=_;rw[be];show N2 L);rw[hf];simp?[bne_self_eq_false,_i,if_false];subst hg;show bW h
theorem zgW(O:s.heap.IsList l vs.toArray)(Y:pT ps=pT vs)(Z:pT vs<64)
 (B:∀i j,rb s.heap vs[i] (ps.getD i (0,0)).1 (ps.getD i (0,0)).2)
 (h:Q (.ref<|↥s+1) {s with heap:=sortedAll s.heap vs (Uy<|(xR ps).map λi=>vs.getD i h9)}):
 wpAny (aV prog w) A (call (.builtin "sorted") [.ref l]) Q E s:=by
 have I:pT vs<=cP:=by rw[mv];lia
 show Calls.call_function_entry kind_sorted plain_sorted entry_sorted (args_sorted1 _) ?_;unfold Builtin.«sorted»;show aL (bW ?_);show aL (collect_list O ?_ I);show aL (Uu ?_ I);have a:((s.heap.push (eu "list" #[] 0)).update ↥s (gV (· ++ vs.toArray))).objs.size=↥s+1:=by simp_all
 have J:(((s.heap.push (eu "list" #[] 0)).update ↥s (gV (· ++ vs.toArray))).push (eu "list" vs.toArray 0)).get? (↥s+1)=aa (eu "list" vs.toArray 0):=by rw[<-a];show f9 _ rfl
 have keep:∀b o,s.heap.get? b=aa o->(((s.heap.push _).update _ _).push (eu "list" vs.toArray 0)).get? b=aa o:=λb o q=>by have z:=ei q;rw[E5 _ _ _ (by rw[a];show eS (nF z)),DH _ _ _ _ (eS z),E5 _ _ _ (eS z)];show q
 rw[a];show aL<|hG<|om slot_list_sort (_,J,rfl) entry_list_sort (zgx J Y Z (λi j=>(B i j).keep λb o e v=>keep b o e) (_,rfl,bW (_,rfl,h)))<|args_list_sort _
end
section
variable{X:Cx}
def ME(K:aO):zn V->Hp->VK->Prop:=λe H Q=>∃l b d,e=[.ref l]/\dY K H l b/\(pT d)=pT b/\(pT b)<64/\
 (∀i f,∃a,b[i]=V.ref a/\ej K H a [.int ((d:zn (Int×Int)).getD i (0,0)).1,.int (d.getD i (0,0)).2])/\∀p,H p=af->Q (.ref p) (upd H p<|.lst<|(xR d).map λi=>b.getD i .cI)
theorem zhg:QK X (.builtin "sorted") (ME X.K):=by
 intro p s U H vs us Q I rv h;let(l,f,ps,rfl,M,g,as,C,w):=h;let(u,rfl,ru):=kg rv;cases ru;let(x,r,T,P):=I.list M;have av:=r.length;show zgW (ps:=ps) T.isList () () (λi d=>?_) ?_
 .let(a,A,B):=C i ()
  let(v,g1,g2):=r.get (i:=i) (by rw[eO (),A]);have N:=by rw[eO d]at g1;show l8 g1
  rw[N];cases g2;show aU λS=>?_;let(y,W,(o,L,E,n,F),c):=I.tuple B;let(z,J,rfl,O,Y):∃z J,y=z::J/\RelV _ z/\cM _ J:=by
   cases W with
   |cons O Y=>show(_,_,rfl,O,Y)
  let(v2,rfl,σ):=kg Y;let(t,rfl):=O;let(u,rfl):=σ;show S (a,o,_,n,t,u,rfl,L,E,F,rfl)
 .let(e,m):=sortedAll_at s.heap x _
  have k:((xR ps).map λi=>f.getD i V.cI).length=f.length:=by rw[f7,(qk ps).length_eq,pM,g]
  show(.ref _,_,I.laid (λb o q=>sortedAll_old q) (ua _) ?_,rfl,w _<|I.bQ.fresh<|ua _);show(by rw[k];show P,_,e,?_,m);have Z:∀i∈xR ps,i<f.length:=λi d=>by have:=(qk ps).mem_iff.mp d;rw[g]at this;show dy.mp this
  generalize xR ps=o at Z;clear k m
  induction o with
  |nil=>show .nil
  |cons i o R=>
   have d:=Z i fA;show .cons ?_ (R λj G=>Z j<|eV _ G);let(v,g1,g2):=r.get<|eO d;simp?[nc,nc,eO d,g1];show g2
theorem lu:∀{e:zn D} {ps:zn (Int×Int)},Xz e=aa ps->∀(i:Nat) d,e[i]? = aa d->d=.tup [.int (ps.getD i (0,0)).1,.int (ps.getD i (0,0)).2]
 |[],ps,h,i,d,hd=>by grind
 | c::e,ps,h,i,d,hd=>by
  let(k,a,h):=zc h;let(l,b,h):=zy h;subst h;cases i with
  |zero=>
   simp at hd;subst hd;erw[Cv]at a;split at a
   .cases a;rfl
   .cases a
  |succ i=>simpa using lu b i d (~~~hd)
theorem KO{K:aO}{H:Hp}{e:zn D}{xs:zn V}(r:bz K H e xs):∀(o:zn Nat),(∀i∈o,i<xs.length)->bz K H (o.map λi=>e.getD i .cI) (o.map λi=>xs.getD i .cI)
 |[],_=>bz.nil
 |i::o,h=>by have a:=h i fA;let(d,b,z):=r.tr<|eO a;show bz.cons ?_ (KO r o λj I=>h j<|eV _ I);simp?[nc,nc,eO a,b];show z
theorem iY{S:cS}{N L:zn Str}{k:Nat}{e:bE}{pos p:cH}{B:CO (Sk×zn D)}(h:SX X S N L k)(c:qz S "sorted" = ae)(z:X.mg "sorted" = af)(σ:PQ X e B)(hs:ck [e] ⋯=[(aF,bH e ⋯)]:=by rfl):
 PO X (.Call (.Name "sorted" p) [e] [] pos) (bJ B):=
 j3 (wc zhg (h.gl c).1 z () (zX σ jG hs) () () hs rfl) λU H Q Y=>by
  let(u,M,ds,rc,I,q):=Y;let((W,m),w,I):=zc I;cases W with
  |T=>cases I
  | L=>
   erw[rE]at I;let(t,j,I):=zc I;by_cases s:m.length<64
   .rw[DJ s]at I
    cases I;have a4:=cF j;show(u,M,.L,m,rc,w,λa xs H' f ext E h2 r=>?_);have a5:=r.length;show(a,xs,t,rfl,E,(),(),λi g=>?_,λl J=>?_)
    .let(d,R,Z):=r.tr (eO g)
     have C:=lu j i d R;subst C;let(b,zs,A,o,F):=kW Z;show(b,A,?_);let(y,znT,x,G,K):=F.i0;let(y2,a8,O,γ,P):=K.i0;rw[P.m7]at O;rw[x,O,jX G,jX γ]at o;show gr ext.sub o
    .refine q l _ _ f (ext.trans<|Ext.hide ext.sub J _) (xl ext.s1 J) (jl ext.sub J) zB ?_
     show KO r _ λi g=>?_;have:=dy.mp<|(qk t).mem_iff.mp g;lia
   .rw[DY s]at I;cases I
end
section
variable{X:Cx}{a b c:bE}{pos:cH}{fa fb fc:CO D}
theorem K1{r B:R2}(ho:eI X (h8 O) r)(S:eI X (h8 Y) B)(s1:ig X.K r F)(s2:ig X.K B G)(ha:PV X a fa)(hb:PV X b fb)(hc:PV X c fc)
 (hm:PZ [O,Y] [b,c]=aF:=by with_unfolding_all rfl):gk X (.Compare a [O,Y] [b,c] pos) (sB<|wH F G fa fb fc):=
 X5 (Cc ho S ha hb hc hm) λU H Q hZ=>by
  show aU λkZ=>?_;let(m,l,ziu,j,ad,zkd):=hZ;let(d,I,zhr):=zc ad;have q v f e:Ext m H e f->Rep X.K e d v->∃k,v=.bl k/\Q k f:=λx u=>by rw[wu zhr]at u;show(ziu,u,zkd f e x)
  let(x,P,I):=zc I;let(y,R,I):=zc I;let(k,T,I):=zc I;let(p,σ,s):=zc T;show kZ ?_;show(m,l,x,j,P,λv1 H1 i g r1=>(i,l,y,j.ext g,R,λw A as J t=>s1 as A v1 w x y p _ J.sub (r1.mono J.s0) t σ λv3 C o h r3=>?_));cases p with
  | bl k'=>
   cases s;show(k,r3,?_);cases k with
   |true=>
    rw[DJ rfl];rw[DJ rfl]at I;let(z,W,e7):=zc I;show(o,l,z,((j.ext g).ext J).ext h,W,λv4 E M Z r4=>s2 M E w v4 y z d _ Z.sub ((t.mono h.s0).mono Z.s0) r4 e7 λv5 L N x5 r5=>q v5 L N (((g.trans J).trans h).trans (Z.trans x5)) r5)
   |false=>
    rw[DY ()];cases I;show q _ C o ((g.trans J).trans h) rfl
  |_=>cases s
end
theorem QN{H:Hp}{x:ak}{o e:HO}:upd (upd H x o) x e=upd H x e:=by
 funext b;by_cases h:b=x
 .subst h;rw[zB,zB]
 .rw[zC h,zC h,zC h]
section
variable{X:Cx}{sc:cS}{N L:zn Str}{k:Nat}{a:bE}{pos:cH}{f:CO (zn D)}
theorem sO(i:Nat)(h:SX X sc N L k)(c:xy sc N i x=ae)(B:PO X a f)(hs:ck [a] ⋯=[(aF,bH a ⋯)]:=by rfl)
 (J:ri (.Name x np) "extend" ⋯ (bH (.Name x np) ⋯)=bH (.Name x np) ⋯:=by rfl)
 (O:((ft cpos<|starEach [a] ⋯).all (λx=> !x.1)&&(pf cpos<|keywordEach [] ⋯).all (λx=>x.1.isSome)
   &&decide ([a].length+([]:zn n5).length+(if ([]:zn n5).isEmpty then 0 else 1)<30))=ae:=by rfl)
 (Y:(apos.endLine==cpos.line)=ae:=by rfl) (Z:hU (.Call (.Attribute (.Name x np) "extend" apos) [a] [] cpos) af pos.line ⋯=pure aF:=by rfl):
 fH X (.Expr (.Call (.Attribute (.Name x np) "extend" apos) [a] [] cpos) pos) (fN i f):=
 kj (WY (nV T_ PySem.F.slot_list_extend PySem.F.type_list_extend zlk (h.var c) (zX B jG hs) J O Y hs rfl) Z) λD Q H y=>by
  show aU λA=>?_;let(E0,E,s,G,M,e,z,u):=y;let(g,d,z):=zc z;let(j,w,z):=zc z;show A ?_;have d:=vd d;by_cases r:g.length+j.length<=lim
  .rw[DJ r]at z;cases z
   let(l,xs,m,P,o,p):=e.rc.own i g d;show(_,m,.inl (rfl,_,dY.of o),s,G,j,e.rc,w,λb C K t x g1 g2 g3 I=>?_);show(l,b,xs,C,rfl,rfl,x.s1 _ _ o,g3,by
    rw[p.length,I.length];have:lim<=cP:=by decide
    lia,u _ _ _<|(e.step x).rewrite (xs:=xs) d m ((p.mono x.s0).append I))
  .rw[DY r]at z;cases z
end
def IW:de->zn de
 |.ClassDef _ _ _ b _ _ _ _ _ _ _=>b
 |_=>[]
def Vw(st:de)(j:Nat):de:=(IW st).getD j (.Pass (0,0,0,0))
theorem Wc:∀{z:zn D} {j:zn Int},aA z=aa j->lG z=aa (j.map mL)
 |[],j,e=>by cases e;rfl
 | d::z,j,e=>by
  cases d with
  |int i=>
   let(l,a,b):=zy e;subst b;change((NP<|.int i).bind _)=_;rw[Wc a];rfl
  |_=>cases e
theorem VY:∀ps e,((e++ps).map (·.1)).Nodup->Ca e ps=e++ps
 |[],e,_=>by simp[Ca]
 |(k,v)::ps,e,h=>by
  change Ca (pv e k v) ps=_;rw[show pv e k v=_ by erw[pv];rw[DY (λq=>by let(a,b,d):=T7.mp q;rw[nG,kT]at h;show((List.nodup_append.mp h).2.2 a.1 (eU.mpr (a,b,rfl)) k ())<|of_decide_eq_true d)]]
  rw[VY ps _ (~~~h)];simp
theorem zlh:∀{e:zn Int},e.Nodup->(e.map<|mL (β:=Str)).Nodup
 |[],_=>by simp
 |n::e,h=>by grind
section
variable{X:Cx}{pins:TW}{U:St}{H:Hp}{s:bB}{p:ak}{gq:zn (Key×V)}
theorem Inv.zhU(I:Inv X pins U H s)(j:H p=aa (.dK gq)):∃o,Inv X pins U (upd H p<|.m6 o<|.dK gq) s:=by
 have J:=(I.bQ p _ j);let(o,O):∃o,_=aa o:=by let(v,v,v,v,o,v,v,e,v):=J;show(_,e)
 show(o,I.write (by rw[j];show kA) (.inl rfl) (λb q a z=>z) (_,O) (O,J))
end
theorem aD{K:aO}:∀{S vs}{B}{xs},lG S=aa B->pT B=pT xs->bz K H vs xs->
 (∀d,lQ S vs i=aa d->∃v,iu (B.zip xs) (mL i)=aa v/\Rep K H d v)/\(lQ S vs i=af->iu (B.zip xs) (mL i)=af)
 |[],vs,B,xs,e,l,r=>by cases e;show((λd q=>by cases q),λw=>rfl)
 |k::S,[],B,xs,e,l,r=>by rw[r.m7]at l ⊢;rw[List.length_eq_zero_iff.mp l];show((λd q=>by cases q),λw=>rfl)
 | k::S,v::vs,B,xs,e,l,r=>by
  let(b,a,f):=zc e;let(I,O,Y):=zy f;subst Y;let(x,J,rfl,h,m):=r.i0;have Z:=aD (i:=i) O (~~~l) m;have step:b≠mL i->iu ((b::I).zip (x::J)) (mL i)=iu (I.zip J) (mL i):=λo=>by rw[D9];simp[iu,vl,o]
  cases k with
  | int j=>
   cases a;by_cases z:j=i
   .subst z
    show(λd q=>(x,?_,(by simpa[lQ]using q) ▸ h),λq=>?_)
    .rw[D9];show WA rfl
    .simp[lQ]at q
   .rw[step (λq=>z<|mL.inj q)]
    have g:lQ (.int j::S) (v::vs) i=lQ S vs i:=by simp[lQ,z]
    rw[g];show Z
  |str y=>
   cases a;assumption
  |_=>cases a
def r9(C e:ak):bN->Prop:=λh=>∃a,h.get? e=aa (Wf C af a)
def m8(C e d:ak):bN->Prop:=λh=>∃a,h.get? e=aa (Wf C (aa d) a)
theorem lh(q:h.get? e=aa (Wf C af j)):hL P w H h e (.ext<|r9 C e):=
 ((j,q),(_,q),λb d z k=>by let(a,z):=z;show(a,k _ z))
theorem Nf(q:h.get? e=aa (Wf C (aa d) j)):hL P w H h e (.ext<|m8 C e d):=
 ((j,q),(_,q),λb f z k=>by let(a,z):=z;show(a,k _ z))
section
variable{X:Cx}{pins:TW}{U:St}{H:Hp}{s:bB}{h':bN}
theorem NH(I:Inv X pins U H s)(k:∀b u,s.heap.get? b=aa u->h'.get? b=aa u)(j:s.heap.get? a=af)(new:hL X.prog X.w (upd H a o) h' a o):H a=af/\Inv X pins U (upd H a o) {s with heap:=h',toks:=t'}:=by
 have d:H a=af:=by
  cases q:H a with
  |none=>rfl
  |some u=>let(J,e):=yI<|I.bQ a u q;lia
 show(d,I.un (λb u e n x x=>k b u e,λb u e n x x=>(u.slots,k b u e),λb u e n x=>by rw[zC ((λb u e z=>by lia) b u e)];show n,λb u e x=>(u,k b u e),λb g e=>?_,λb J u e=>?_,λb h e=>(#[],?_)) λb u e=>?_)
 .rw[zC (jd e d)];show e
 .rw[zC (jd e d)];show e
 .rw[zC (jd e d),e];simp
 .by_cases f:b=a
  .subst f;rw[zB]at e;lia
  .rw[zC f]at e
   show(I.bQ b u e).mr (λc v x q=>k c v q) (λc q=>by rw[zC (jd q d)];show q) λc g q=>by rw[zC (jd q d)];show q
end
def FV(K:aO)(C:ak):xz ak:=match K.lookup C with
 |some o=>if (o.cls==sA "type"&&o.slots.size==6&&(o.slots.toList.drop 4).take 1 == [aa (Value.builtin "ValueError.__new__")]) then (match LG o with
  |some a=>if (a.mro.take 1 == [i3 C]&&!a.hasDel&&OA K nO (a.mro.drop 1)&&OK K a.ns) then aa a.ns else af
  |none=>af)else af
 |none=>af
theorem mM{K:aO}{C N:ak}(e:FV K C=aa N):∃nm q bs bm hdct sn sub ab col dd k0 k1 k2 k3 k5,K.lookup C=aa (zd nm q C N bs bm hdct sn sub ab col dd k0 k1 k2 k3 k5 "ValueError.__new__")/\OA K nO bm/\OK K N:=by
 erw[FV]at e;cases ho:K.lookup C with
 |none=>rw[ho]at e;cases e
 | some o=>
  rw[ho]at e;let(p,dd,z,f):=o;dsimp only at e;by_cases b:(p==sA "type"&&f.size==6&&(f.toList.drop 4).take 1 == [aa (Value.builtin "ValueError.__new__")])
  .rw[DJ b]at e
   simp?[eH,beq_iff_eq]at b;let((O,Y),Z):=b;subst O;let(k0,k1,k2,k3,k5,h):=ES (~~~Y) Z;cases hd:LG _ with
   |none=>rw[hd]at e;cases e
   | some a=>
    rw[hd]at e;dsimp only at e;have i:z=.cls a:=by
     erw[LG]at hd;cases z with
     |cls r=>cases hd;rfl
     |_=>cases hd
    subst i;by_cases d:(a.mro.take 1 == [i3 C]&&!a.hasDel&&OA K nO (a.mro.drop 1)&&OK K a.ns)
    .rw[DJ d]at e
     cases e;simp?[eH,beq_iff_eq,t8]at d;let(((I,J),k),g):=d;let(nm,bs,m,w,x,s,sn,sub,ab,col,t):=a;dsimp only at I J k g;subst J;have j:f = #[k0,k1,k2,k3,aa (.builtin "ValueError.__new__"),k5]:=by obtain⟨l⟩:=f;simp only at h;rw[h]
     subst j;have u:=Fk I
     grind
    .rw[DY d]at e;cases e
  .rw[DY b]at e;cases e
section
variable{X:Cx}{pins:TW}{U:St}{H:Hp}{s:bB}{h':bN}
theorem TH{j:Str}(I:Inv X pins U H s)(Z:H x=aa (.ext<|r9 C x))(W:s.heap.get? d=af)(S:h'.get? x=aa (Wf C (aa d) B))(σ:h'.Ns1 d (λy=>if y=j then aa u else af))(O:RelV (.int i) u)
 (k:∀b o,b≠x->s.heap.get? b=aa o->h'.get? b=aa o):H d=af/\d≠x/\Inv X pins U (upd (upd H x<|.ext<|m8 C x d) d<|.xd [(j,.int i)]) {s with heap:=h',toks:=t'}:=by
 have l:H d=af:=by
  cases q:H d with
  |none=>rfl
  |some o=>let(Y,e):=yI<|I.bQ d o q;lia
 have h b:H b=af->b≠x:=λe z=>by lia
 have m b:b≠x->b≠d->upd (upd H x<|.ext<|m8 C x d) d (.xd [(j,.int i)]) b=H b:=λr t=>by rw[zC t,zC r]
 have mt b o:H b=aa o->(∀a,o ≠ .ext a)->upd (upd H x<|.ext<|m8 C x d) d (.xd [(j,.int i)]) b=aa o:=λe z=>by grind
 show(l,λq=>by lia,I.un (λb o e n Q Q=>k b o (h b n) e,λb o e n Q Q=>(o.slots,k b o (h b n) e),λb o e n Q=>?_,λb o e Q=>?_,λb p e=>mt b _ e<|λa z=>(nomatch z),λb Y E e=>mt b _ e<|λa z=>(nomatch z),λb A e=>(#[],?_)) λb o e=>?_)
 .grind
 .grind
 .rw[mt b _ e (λa z=>nomatch z)];simp
 .by_cases g:b=d
  .rw[g]at e ⊢
   rw[zB]at e;cases e;show(_,σ,λf=>?_);by_cases q:f=j
   .subst q
    rw[DJ rfl];simp[B7];show O
   .rw[DY q]
    have:([(j,V.int i)]).lookup f=af:=by simp[B7,beq_eq_false_iff_ne.mpr q]
    rw[this];trivial
  .rw[zC g]at e
   by_cases J:b=x
   .rw[J]at e ⊢
    rw[zB]at e;cases e;show Nf S
   .rw[zC J]at e
    show(I.bQ b o e).mr (λc v w q=>k c v ?_ q) (λc q=>mt c _ q<|λa z=>nomatch z) λc p q=>mt c _ q<|λa z=>nomatch z;lia
end
structure XA(K:aO)(mg:DZ)(C:ak)(hM:Str):Prop where
 ex:∃S N cd,mg "SplitError" = aa (.ref S)/\FV K C=aa N/\o6 K C=aa cd/\cd.mro=.ref C :: .ref S::nO/\cd.hasDict=ae/\
  g9 K (.ref C) "__setattr__" = aa (aa (.builtin "object.__setattr__"))/\mW K C (.type "object")=aa ae/\g9 K (.ref C) hM=aa af/\
  NN K (.ref S) "__getattribute__" = aa (aa (.builtin "type.__getattribute__"))/\PySem.W.readsIn K S (.type "type")=ae/\
  T5 K (.ref S) (.type "type") "__init__" = aa (.val (.builtin "ValueError.__init__"))
def VJ(C:ak):TS:=λD a H=>∃e i,a[0]? = aa (aa (V.ref e))/\a[1]? = aa (aa (V.int i))/\inR i/\H e=aa (.ext<|r9 C e)/\D.nx a H
def mZ(C:ak)(j:Str):TS:=λD a H=>∃e i,a[0]? = aa (aa (V.ref e))/\a[1]? = aa (aa (V.int i))/\H e=aa (.ext<|r9 C e)/\
 ∀d,H d=af->d≠e->D.nx a (upd (upd H e<|.ext<|m8 C e d) d<|.xd [(j,.int i)])
section
variable{X:Cx}{sc:cS}{N L:zn Str}{k:Nat}{C:ak}{hM x0 x1:Str}{p0 p1 p2 p3 p4 p5 p6 p7 p8 pos pos':cH}
theorem fY(h:SX X sc N L k)(A:XA X.K X.mg C hM)(Y:xy sc N 0 x0)(c1:xy sc N 1 x1)(hs:hU (.Name x1 p1) (aa (.Attribute (.Name x0 p0) hM pos')) pos.line ⋯=pure aF:=by rfl):
 PS X (.Assign [.Attribute (.Name x0 p0) hM pos'] (.Name x1 p1) pos) (mZ C hM):=by
 intro a s f H D I Z;show aU λz=>?_;let(e,i,P,Q,j,q):=Z;let(S,Nn,cd,a1,a2,p,r,t,w,x,y,n):=A.ex;show z ?_;show Ta (cy (h.var c1 a s f H (λv b=>v=.int i/\b=H) I (_,Q,rfl,rfl)) λu B m=>cy (h.var Y a B f H (λv b=>v=.ref e/\b=H) (by let(v,b,O,l,rfl,rfl):=m;show O) (_,P,rfl,rfl)) λov R z2=>?_) hs;show aU λz=>?_;let(v1,b,O,l,rfl,rfl):=m;let(v2,H2,J,M,rfl,rfl):=z2;show z ?_;cases M;let(hp,g,dr,tk,os):=R;let((a0,E),n,n):=(J.bQ e _ j);show Tz J.df E w x p r t y λh' d b9 T U W y4=>?_;let(F,G,o):=TH J j T U W l y4;show(f,_,o,q d F G)
theorem WX{U j2:Nat}(h:SX X sc N L k)(A:XA X.K X.mg C hM)(B:qz sc "SplitError" = ae)(c0:xy sc N 0 x0)(c1:xy sc N 1 x1)(l1:J.length<=1000)(l2:Y.length<=1000)
 (hs:hU (.Call (.Attribute (.Name "SplitError" p0) "__init__" p1) [.Name x0 p2,.JoinedStr [.Constant (.str J) U p3,.FormattedValue (.Name x1 p4) (-1) af p5,.Constant (.str Y) j2 p6] p7] [] p8) af pos.line ⋯=pure aF:=by rfl)
 (aw:(p1.endLine==p8.line):=by rfl):
 PS X (.Expr (.Call (.Attribute (.Name "SplitError" p0) "__init__" p1) [.Name x0 p2,.JoinedStr [.Constant (.str J) U p3,.FormattedValue (.Name x1 p4) (-1) af p5,.Constant (.str Y) j2 p6] p7] [] p8) pos) (VJ C):=by
 intro a s m H D I hZ;show aU λO=>?_;let(e,i,s0,s1,w,l,q):=hZ;let(S,Nn,cd,E,F,a3,a4,a5,a6,a7,a8,G,M,P):=A.ex;show O ?_;show Oq ?_ I.quiet hs;rw[arm_eval_Call];show aL (xE I (h.gl B).1 E ?_ (h.gl B).2.2);show aL (ou ?_);have Q:P4 ae (.Name "SplitError" p0) ⋯ p1 p8=pure p8:=by erw[P4];simp[aw]
 erw[methodCall];show aL<|hG<|PySem.W.method_cls I.df G<|PySem.W.cls_value I.df M P (by rfl) ?_;show aL<|mu Q ?_;show V_ rfl<|Td ?_;show nj<|cy (h.var c0 a _ m H (λv d=>v=.ref e/\d=H) (I.tok _) (_,s0,rfl,rfl)) λzk0 s2 z2=>?_;show aU λO=>?_;let(v2,o,y,r2,rfl,rfl):=z2;show O ?_;cases r2;change wpAny _ _ (L5 ((aF,bH _ ⋯)::[])) _ _ s2;have ce:=mv;have t:i.natAbs.log2<1920:=by
  by_cases z:i.natAbs=0
  .rw[z];decide
  .have:=(Nat.log2_lt z).mpr (by erw[inR]at w;show of_decide_eq_true w)
   lia
 show nj<|JoinedStr_many<|BG<|ND ?_;dsimp only;show(by rw[ow];change 0+_<=_;lia,?_);show BG<|_o<|cy (h.var c1 a _ m o (λv d=>v=.int i/\d=o) (y.tok _) (_,s1,rfl,rfl)) λu1 s3 z3=>?_;let(v3,Z,f,r3,rfl,rfl):=z3;let(tk,rfl):=(r3);show _H t ?_;dsimp only;have ci:(fR<|toString i).length<=1921:=by rw[PySem.ofString_length];show(ziq () t)
 have j:(oM++J).length=J.length:=by rw[ow];change 0+_=_;lia
 show(by rw[ow,j,mv];lia,?_);show BG<|ND ?_;dsimp only;show(by rw[ow,ow,j,mv];lia,?_);show joinParts_nil ?_ (by rw[ow,ow,j,mv];lia);show sk ?_;show aU λO=>?_;let(nm,qn,bs,bm,u,sn,sub,ab,col,dd,k0,k1,k2,k3,k5,ho,ht,bQ):=mM F;let(hp,g,dr,R,os):=s3;have r:=f.df;let((a0,T),n,n):=(f.bQ e _ l);show O ?_;show LN (A6 r ht) (r _ _ ho) T λh' cl x y2=>?_;have p:=f.write (t':=R+1+1+1+1) (by rw[l];show kA) (.inl rfl) y2 (_,x)<|lh x;have e4:upd Z e (.ext<|r9 C e)=Z:=by
  funext b;by_cases z:b=e
  .rw[z,zB,l]
  .rw[zC z]
 rw[e4]at p;show(m,Z,p.tok _,q)
end
def QQ(C:ak)(j:Str):Sp:=λa H Q _=>∃e i,a=[.ref e,.int i]/\inR i/\H e=aa (.ext<|r9 C e)/\∀d,H d=af->d≠e->Q .cI (upd (upd H e<|.ext<|m8 C e d) d<|.xd [(j,.int i)])
theorem Ed{K:aO}{st:de}{f C:ak}{U:gh}{j:Str}{k:Nat}(z:L2.i5 K "__init__" q st f U)(Y:Zp ["self",B] ["self",B] st)
 (I:∀X,X.prog=P->X.w=w->X.K=K->X.mg=W->X.base=base->SX X (zR st) ["self",B] ["self",B] k->gj X (jL st) (pq (VJ C) (mZ C j))):
 fh P w K W base gx (k+1) f U ["self",B] (QQ C j):=by
 have S:=kz Y;show z.ok S (λl H Q E h=>by let(e,i,rfl,v):=h;rfl) λd A a s H l Q E J O=>(_,I _ rfl rfl rfl rfl rfl (rfl,rfl,S.nd,rfl,J,λv v=>.inl rfl),?_);let(e,i,rfl,g,b,q):=O;show(e,i,rfl,rfl,g,b,e,i,rfl,rfl,b,q)
structure XJ(P:cQ)(w:cN)(K:aO)(mg:DZ)(base:bN)(k:Nat)(c:Str):Prop where
 all:Vl K=ae
 mem:c∈g0
 ex:∃C N fI fd ps,wF K c=aa C/\mg c=aa (.ref C)/\FV K C=aa N/\g9 K (.ref C) "__init__" = aa (aa (.ref fI))/\mV K (.ref C)=ae/\p9 K (.ref fI)=aa (.type "function")/\
  fh P w K mg base gx k fI fd ps (QQ C<|VA c)/\Binds K fd ps []
def Ri(K:aO)(e:Str):Bool:=g0.all λc=> !(VA c==e) || match wF K c with
 |some C=>(o6 K C).any (λa=>a.hasDict)&&g9 K (.ref C) e==aa af
 |none=>aF
section
variable{X:Cx}{a:bE}{f:CO D}{hM:Str}{pos:cH}
theorem sL(x:Ri X.K hM)(ha:PV X a f)(hb:ri a hM ⋯ (bH a ⋯)=bH a ⋯:=by rfl):PV X (.Attribute a hM pos) (RK hM f):=by
 intro h s U H Q I hZ;show aU λO=>?_;let(P,M,d,rc,J,q):=hZ;let(T,W,J):=zc J;show O ?_;cases T with
 | exc c n=>
  cases n with
  |none=>cases J
  | some i=>
   have J:(if _=ae then aa (D.int i)else af)=aa d:=J;by_cases k:(VA c==hM)
   .rw[DJ k]at J
    cases J;show AI hb (cy (ha h s U H (λv N=>∃e,_/\_) I (P,M,_,rc,W,λv N e Y r=>(e,Y,r))) λu s1 z=>?_);let(v,A,j,r1,w,Y,rr):=z;let(b,rfl,m):=(rr);cases r1;show aU λO=>?_;let(C,φ,g1,g2,g3,σ,g4,g5):=m.ex;let(S,_,y1,_,_):=Jb m.all m.mem g1;show O ?_;have y:=k4.mp x c m.mem;rw[k,g1]at y;simp?[Bool.not_true,Bool.false_or,eH,beq_iff_eq]at y;show aU λO=>?_;let(w1,w2):=y;let(cd,w3,w4):=_n w1;let(p,_,_):=(j.bQ b _ (Y.sub _ _ g2));let(o,L,G):=g4 _ p;let(o',vs,B,E,F):=g3 _ p;show O ?_;rw[L]at B;cases B;let(γ,as,R):=(j.bQ σ _ (Y.sub _ _ g5));have Z:=R hM;have lk:([(if c==("NoRoom" : Str)then ("room" : Str)else "at",V.int i)]).lookup hM=aa (.int i):=by rw[<-(beq_iff_eq.mp k)];erw[VA];simp[B7]
    rw[lk]at Z;let(l,hm):∃l,γ hM=_:=by
     cases hz:γ hM with
     |none=>rw[hz]at Z;show o7 Z
     |some uu=>rw[hz]at Z;let(l,rfl):=(Z);show(l,rfl)
    let(oc,od,ax,tL):=o;dsimp only at G E F;subst G E F;let(hp,g,dr,t,os):=s1;show UQ j.df (Wu y1) L as hm w3 w4 w2 λt'=>(.int i,A,j.tok t',(l,rfl),q _ A w Y rfl)
   .rw[DY k]at J;cases J
 |_=>cases J
end
def uK(K:aO)(S:ak):Bool:=match T5 K (.ref S) (.type "type") "__init__" with
 |some (.val (.builtin b))=>b == "ValueError.__init__"
 |_=>aF
def J_(K:aO)(C S:ak)(e:Str):Bool:=(FV K C).isSome&&mV K (.ref C)&&(o6 K C).any (λa=>a.mro ==.ref C :: .ref S::nO&&a.hasDict)&&
 g9 K (.ref C) "__setattr__" == aa (aa (.builtin "object.__setattr__"))&&mW K C (.type "object")==aa ae&&g9 K (.ref C) e==aa af&&
 NN K (.ref S) "__getattribute__" == aa (aa (.builtin "type.__getattribute__"))&&PySem.W.readsIn K S (.type "type")&&uK K S
theorem zk5{K:aO}(b:uK K S):T5 K (.ref S) (.type "type") "__init__" = aa (.val (.builtin "ValueError.__init__")):=by
 erw[uK]at b;cases q:T5 K (.ref S) _ "__init__" with
 |none=>rw[q]at b;cases b
 | some r=>
  rw[q]at b;cases r with
  |get _ _ _ _=>cases b
  |val v=>
   cases v with
   |builtin n=>rw[beq_iff_eq.mp b]
   |_=>cases b
structure n7(K:aO)(mg:DZ)(c q x1:Str)(st:de)(hM:Str):Prop where
 all:Vl K=ae
 mem:c∈g0
 ex:∃C N fI fd,wF K c=aa C/\mg c=aa (.ref C)/\FV K C=aa N/\g9 K (.ref C) "__init__" = aa (aa (.ref fI))/\mV K (.ref C)=ae/\p9 K (.ref fI)=aa (.type "function")/\
  XA K mg C hM/\L2.i5 K "__init__" q st fI fd/\Binds K fd ["self",x1] []
theorem Rj{K:aO}{st:de}{Y:aN}{Z aI:xz ak}{lI:Array (xz aN)}{kI dI pI z tI:aN}(I:K.In h)(G:h.Ns gp W)(e:Vl K)(hm:c∈g0)
 (nC:oL K gp c=aa (aa (.ref C))) (nS:oL K gp "SplitError" = aa (aa (.ref S))) (iC:g9 K (.ref C) "__init__" = aa (aa (.ref B)))
 (uI:K.lookup B=aa (Y,Z,.func (ox "__init__" q (ya st) (jL st) (zR st) .none kI dI pI aI z tI),lI)) (vI:B4 K z q) (w1:mV K (.ref B)) (z1:FG K (.ref B)) (b:J_ K C S j)
 (gI:∀kV U pm an H ct us,pT us=2->yg (ox "__init__" q (ya st) (jL st) (zR st) .none kV U pm an H ct) (us,[])=pure ((["self",x1]:zn Str).zip us)):n7 K W c q x1 st j:=by
 have J:=lR uI vI w1;erw[J_]at b;simp?[eH,beq_iff_eq]at b;let((((((((d,f),g),i),k),l),m),o),p):=b;let(N,O):=u9.mp d;let(s,r,a):=_n g;simp?[eH,beq_iff_eq]at a;show(e,hm,C,N,B,_,by erw[wF];rw[nC],sf I G nC,O,iC,f,beq_iff_eq.mp z1,(S,N,s,sf I G nS,O,r,a.1,a.2,i,k,l,m,o,zk5 p),J,J.binds gI)
theorem FU{K:aO}{st:de}{k:Nat}(A:n7 K B c q j st e)(S:Zp ["self",j] ["self",j] st)(H:VA c=e)
 (z:∀C,XA K B C e->∀X,X.prog=P->X.w=w->X.K=K->X.mg=B->X.base=base->SX X (zR st) ["self",j] ["self",j] k->gj X (jL st) (pq (VJ C) (mZ C e))):XJ P w K B base (k+1) c:=by
 subst H;let(C,N,a,b,I,J,O,Y,Z,d,f,g,h):=A.ex;show(A.all,A.mem,C,N,a,b,_,I,J,O,Y,Z,d,Ed g S<|z C f,h)
section
variable{M:nM}{A:ec}{E:EQ}{env:eE}
variable{nm q:Str}{C N:ak}{bs bm:zn aN}{hdct:Bool}{sn:zn Str}{sub:zn aN}{ab:Bool}{col:xz Bool}{dd:xz ak}{k0 k1 k2 k3 k5:xz aN}{newId:String}
theorem ziV(j:bm.contains (.type "BaseException"))(J:A.handled=af)
 (h:wpAny M A x (λv z=>∃e t d,v=.ref e/\z.heap.get? C=aa (zd nm q C N bs bm hdct sn sub ab col dd k0 k1 k2 k3 k5 newId)/\
   z.heap.get? e=aa (Wf C (aa d) t)/\E (.ref e) z) E s):
 wpAny M A (R1 env (aa x) af) Q E s:=by
 have O:(i3 C::bm).contains (.type "BaseException"):=by assumption
 erw[R1];show aL<|cT h (λv z Y=>?_) λy y x=>x;let(e,t,d,rfl,I,a,Z):=Y;let(f,g,b,i,os):=z;erw[Wf]at a
 repeat (first|with_reducible show pO a ?_|with_reducible show pO I ?_|(with_reducible show _q I ?_;rw[O])|wp_step)
 show zlL J Z
end
section
variable{X:Cx}{sc:cS}{N L:zn Str}{k j:Nat}{a:bE}{f:CO D}{c:Str}{np pos cpos:cH}{pins:TW}{U:St}{H H0:Hp}{s:bB}{M:Ctx}{i:Int}
theorem zle(h:SX X sc N L k)(σ:qz sc c)(x:⇑XJ j c)(hj:j+1<=k)(ha:PV X a f)(I:Inv X pins U H s)(rc:RC X.K H0 H U M)(e1:f M=aa (.int i))(hi:inR i)(W:ck [a] ⋯=[(aF,bH a ⋯)]:=by rfl):
 ⇑X (bH (.Call (.Name c np) [a] [] pos) ⋯) (λu s'=>∃e d C B S,u=.ref e/\Inv X pins U (upd (upd B e<|.ext<|m8 C e d) d<|.xd [(VA c,.int i)]) s'/\Ext H0 H S B/\B e=af/\B d=af/\d≠e/\wF X.K c=aa C/\(X.ex=[]->X.fy.heap.get? e=af)) X.xe s:=by
 show aU λJ=>?_;let(C,Nn,G,fd,ps,x1,x2,x3,x4,x5,T,E,hb):=x.ex;let(nm,qn,bs,bm,P,sn,sub,ab,col,dd,k0,k1,k2,k3,k5,ho,ht,bQ):=mM x3;show J ?_;show nW<|xE I (h.gl σ).1 x2 ?_ (h.gl σ).2.2;show D8 I.ok.mod.oS x5 (cy ((zX ha jG W) pos pins s U H (λt B=>t=[.int i]/\∃S,Ext H0 H S B) I (H0,M,.int i,rc,e1,λv H' b y rr=>(by rw[rr],b,y))) λus s1 Q=>(?_,?_)) (by rw[W];rfl) rfl
 .let(t,B,O,_):=Q;show O.df
 show aU λJ=>?_;let(t,B,O,rv,m,S,y):=Q;subst m;let(u,rfl,ru):=kg rv;have Y:=O.df;let(p,av,aw):∃p,X.K.lookup G=aa p/\p.cls=.type "function":=by
  have T:(X.K.lookup G).map (·.cls)=_:=T
  simp_all
 let(hp,g,dr,tk,os):=s1;show J ?_;show LO (A6 Y ht) (Y _ _ ho) (P' Y x4) (Y _ _ av) aw (by change 1<=cP;decide) λh' e a0 y1 y2 y3=>?_;let(hn,l):=NH O y3 y1<|lh y2;have R:QQ C (VA c) [.ref e,.int i] (upd B e<|.ext<|r9 C e) (λv H2=>v=.cI/\∃d,B d=af/\d≠e/\H2=upd (upd B e<|.ext<|m8 C e d) d (.xd [(VA c,.int i)])) (λw w w=>False):=by
  show(e,i,rfl,hi,zB,λd γ Z=>(rfl,d,?_,Z,?_))
  .rw[zC Z]at γ;show γ
  .rw[QN]
 show o8<|pS (E.run _ X.stack _ _ _ _ [.ref e,.int i] _ _ ((h.room.mono hj).make C [u] []) (l.nR.make C [u] []) (~~~hb _ _ l.df (~~~((E.len _ _ _ _ R).symm ▸ rfl))) (.cons rfl<|.cons ru .nil) R) λr s' F=>?_;cases r with
 |error ee=>show o7 F
 | ok fl=>
  cases fl with
  |ret uu=>
   show aU λJ=>?_;let(v,H',I3,b3,m,d,b4,Z,rfl):=l.after F;show J ?_;subst m;show(b3,(e,d,C,B,S,rfl,I3,y,hn,b4,Z,x1,λb5=>by
  cases q:X.fy.heap.get? e with
  |none=>rfl
  |some o=>
   let(o',z):=O.base.there e o q (by rw[b5];simp);lia))
  |next=>assumption
  |brk=>assumption
  |cont=>assumption
theorem yz(h:SX X.eQ sc N L k)(σ:qz sc c)(x:⇑XJ j c)(W:j+1<=k)(S:PV X.eQ a f)
 (hs:ck [a] ⋯=[(aF,bH a ⋯)]:=by rfl):Px X (.Raise (aa (.Call (.Name c np) [a] [] cpos)) af pos) (aZ c f):=λpins s U H F0 F1 H0 M cc I t e w=>by
 let(i,m,e):=zc e;let(d0,B,m):=zc m;rw[j5 m]at B;by_cases o:inR i
 .rw[DJ o]at e
  cases e;show aU λp=>?_;let(C,γ,fI,fd,ps,F,x2,x3,x4,x5,x6,FO,hb):=x.ex;let(nm,qn,bs,bm,hdct,sn,sub,ab,col,dd,k0,k1,k2,k3,k5,T,ht,bQ):=mM x3;show p ?_;rw[arm_exec_Raise];show aL (ou ?_);show ziV (C:=C) (nm:=nm) (q:=qn) (N:=γ) (bs:=bs) (hdct:=hdct) (sn:=sn) (sub:=sub) (ab:=ab) (col:=col) (dd:=dd) (k0:=k0) (k1:=k1) (k2:=k2) (k3:=k3) (k5:=k5) (newId:="ValueError.__new__") (((λY=>A6 Y ht) I.df).hasType M4.hasBase) (I.ok.hd h.calm) ?_;show aL (cT (zle (X:=X.eQ) h σ x W S (I.cY _) t.rc B o hs) (λu s' z=>aL (ou (bW ?_))) λv v z=>z.elim);show aU λp=>?_;let(e,d,C',g,G,rfl,J,O,R,l,A,Z,P):=z;show p ?_;have Z:=Z;rw[F]at Z;cases Z;have J:=J.gL;have E:upd (upd g e (.ext (m8 C e d))) d (.xd [(VA c,.int i)]) e=aa (.ext (m8 C e d)):=by rw[zC (dh A),zB]
  let((y,g1),v,v):=(J.bQ e _ E);show(e,y,d,rfl,J.df _ _ T,g1,?_);have Q:(λb=>if b=e then af else upd (upd g e<|.ext<|m8 C e d) d (.xd [(VA c,.int i)]) b)=upd g d (.xd [(VA c,.int i)]):=by
   funext b;by_cases q:b=e
   .rw[DJ q,q,zC<|dh A,R]
   .rw[DY q]
    by_cases r:b=d
    .rw[r,zB,zB]
    .rw[zC r,zC q,zC r]
  show w.2.2 pins U _ _ s' e C d y _ J E g1 P (by rw[Q];show(t.ext.trans<|(O.trans<|Ext.hide O.sub l _).show (xl O.s1 l) (jl O.sub l) zB t.rc.sub)) x.all x.mem F (d,rfl,zB)
 .rw[DY o]at e;cases e
end
theorem ziU(I:Inv X pins U H s)(sub:dj H0 H)(e:dY X.K H p xs)(r:bz X.K H0 ds xs)(o:mm ds):∃z,Reads s.heap (.ref p) (.list<|i1 ds) z:=by let(Z,J,q,d):=I.list e;let(f,O,a,n,b):=q.isList;let(z,Y):=L3 I sub o r J;show(_,.list O a b<|by simpa using Y)
section
variable{X:Cx}{sc:cS}{N L:zn Str}{k:Nat}
theorem SX.u66(h:SX X sc N L k):X.A.units+66<oR:=by have:=h.room.un;lia
end
section
variable{X:Cx}{sc:cS}{N L:zn Str}{k j n:Nat}{e:bE}{es:zn bE}{g:CO (zn D)}{G:zn D->xz Xn}{x:Str}{p pos:cH}
theorem Je(U:⇑fC j x n G)(J:j<=k)(h:SX X.eQ sc N L k)(c:qz sc x)(B:i6 X.eQ (e::es) n g)
 (S:ck (e::es) ⋯=(aF,bH e ⋯)::ck es ⋯:=by rfl) (O:(ft pos<|starEach es ⋯).any (·.1)=aF:=by rfl):
 Px X (.Return (aa (.Call (.Name x p) (e::es) [] pos)) spos) (qF G g):=λa s y H A C E P F I d Y w=>by
 let(M,m,o):=zc Y;show M9<|cT (YO U J ((h.l4,h.eN,h.nd,h.calm,h.room,h.fn)) c B I d.rc m o S O) (λq q z=>z.elim) λZ r z=>?_;let(f,b,t,i,u,l):=z;show w.2.1 a y f b t Z r i (d.ext.trans u) l
theorem fU(W:⇑fC j x n G)(J:j<=k)(h:SX X.eQ sc N L k)(c:qz sc x)(S:i6 X.eQ (e::es) n g)
 (U:ck (e::es) ⋯=(aF,bH e ⋯)::ck es ⋯:=by rfl) (O:(ft pos<|starEach es ⋯).any (·.1)=aF:=by rfl)
 (hs:hU (.Call (.Name x p) (e::es) [] pos) (aa (.Name y B)) spos.line ⋯=pure aF:=by rfl):
 Px X (.Assign [.Name y B] (.Call (.Name x p) (e::es) [] pos) spos) (qF G g):=λa s A H C E F Q M I d Y w=>by
 let(P,m,o):=zc Y;show Ul (cT (YO W J ((h.l4,h.eN,h.nd,h.calm,h.room,h.fn)) c S I d.rc m o U O) (λq q z=>z.elim) λZ r z=>?_) hs;let(f,b,t,i,u,l):=z;show w.2.1 a A f b t Z r i (d.ext.trans u) l
end
theorem zhn:u7 (.type "list") "keys" = pure af:=by rw[U3,Um];kernel_rfl
theorem Vy:Dj Dw "list.__getattribute__" = aa Builtin.«object.__getattribute__» :=
 entryFor_alias (id':="object.__getattribute__") (by kernel_rfl) (by rfl) () (by kernel_rfl)
section
variable{prog:cQ}{w:cN}{A:ec}{E:EQ}{h:bN}{g:Array C1}{d:C0}{t:Nat}{os:Pb}{a:ak}
theorem zgy(O:h.get? a=aa (.type "list",af,.seq vs nk,sl))(Y:A.handled=af)
 (Z:∀h' e t',(∀b u,h.get? b=aa u->h'.get? b=aa u)->(∃I,h'.get? e=aa I/\I.cls=.type "AttributeError")->E (.ref e) (h',g,d,t',os)):
 wpAny (aV prog w) A (Builtin.«object.__getattribute__» ([.ref a,.str "keys" tk],[])) Q E (h,g,d,t,os):=by
 have o:((h,g,d,t,os):bB).TypeIs (.ref a) "list":=(_,O,rfl);have k:=zhn
 repeat (any_goals (first|assumption|wp_step))
 erw[raiseAttrError];have i:((fR (toString "'" ++ toString ((Manifest.find? "list").elim "list" λx=>x.tpName)++toString "' object has no attribute '")++fR "keys" ++ fR "'"):Str).length<=cP:=by decide +kernel
 generalize (fR (toString "'" ++ toString ((Manifest.find? "list").elim "list" λx=>x.tpName)++toString "' object has no attribute '")++fR "keys" ++ fR "'")=z at i ⊢;show aL (wpAny_mkStr ?_);show aL ?_;erw[newExc,newTuple];show aL (nq ?_ (by size_fits));show aL (m:=firstArgMember _ _) (mu (a:=h9) (by rfl) ?_);show nq ?_ (by size_fits);simp?[l6];have f:((h.push {cls:=.type "tuple",data:=.seq #[.str z t]}).push {cls:=.type "AttributeError",data:=.fields (#[.ref h.objs.size,.none,.none,.none,.bool aF,.none]++Ra (.type "AttributeError") [.str z t])}).get? (h.objs.size+1) =
  aa {cls:=.type "AttributeError",data:=.fields (#[.ref h.objs.size,.none,.none,.none,.bool aF,.none]++Ra (.type "AttributeError") [.str z t])}:=by heap_get
 have J b u:h.get? b=aa u->((h.push {cls:=.type "tuple",data:=.seq #[.str z t]}).push {cls:=.type "AttributeError",data:=.fields (#[.ref h.objs.size,.none,.none,.none,.bool aF,.none]++Ra (.type "AttributeError") [.str z t])}).get? b=aa u:=λe=>cW _ (cW _ e);generalize ((h.push {cls:=.type "tuple",data:=.seq #[.str z t]}).push {cls:=.type "AttributeError",data:=.fields (#[.ref h.objs.size,.none,.none,.none,.bool aF,.none]++Ra (.type "AttributeError") [.str z t])})=h2 at f J ⊢;show aL (J' ?_);erw[noteAttr,lacksNameAndObj];have j:((h2,g,d,t+1+1,os):bB).TypeIs (.ref (h.objs.size+1)) "AttributeError":=(_,f,rfl);have l:isSubtype (.type "AttributeError") (.type "AttributeError")=pure ae:=by rfl
 repeat (any_goals (first|assumption|with_reducible show pO f ?_|with_reducible show wpAny_load f ?_|wp_step))
 show zlL Y<|Z _ _ _ (λb u e=>?_) (_,oI _ f<|_y<|N1 rfl _,Obj.cls_mapFields ..);rw[ni _ _ (λq=>by rw[<-q]at e;rw[(Tf<|ua _)]at e;cases e)];show J b u e
theorem Vt(z:h.get? a=aa (.type "list",af,.seq vs nk,sl))(J:A.handled=af)
 (O:∀h' e t',(∀b u,h.get? b=aa u->h'.get? b=aa u)->(∃I,h'.get? e=aa I/\I.cls=.type "AttributeError")->R (.error (.ref e)) (h',g,d,t',os)):
 codeAny (aV prog w) A (.call (.builtin "list.__getattribute__") ([.ref a,.str "keys" tk],[])) R (h,g,d,t,os):=
 DP Tj.plain Vy (Tj.check _ _ _ _ _ _ _ _ ((_,z,rfl)) (F.args_list_getattribute_2 _ _)<|zgy z J O)
theorem zjn:u7 (.type "list") "__getattr__" = pure af:=by rw[U3,Um];kernel_rfl
theorem zlr(z:h.get? a=aa (.type "list",af,.seq vs nk,sl))(I:A.handled=af)
 (j:∀h' t',(∀b u,h.get? b=aa u->h'.get? b=aa u)->Q af (h',g,d,t',os)):wpAny (aV prog w) A (PD (.ref a) "keys") Q E (h,g,d,t,os):=by
 have Y:=Tj.lookup;have Z:=Tj.bind (.ref a);have m:=zjn;have o:isSubtype (.type "AttributeError") (.type "AttributeError")=pure ae:=by rfl
 erw[PD,getAttrBy?,getAttrBy]
 repeat (any_goals (first|assumption|wp_step))
 show Vt z I λh' e t' J f=>?_;let(O,f,i):=f;have k:((h',g,d,t',os):bB).TypeIs (.ref e) "AttributeError":=(O,f,i);have l:=j h' t' J;change wpAny _ _ (zh4 _ _ _ _ _ _ _) _ _ _;erw[zh4,hookOrError,attributeErrorLeaves]
 repeat (any_goals (first|assumption|wp_step))
end
def Xs:zn D->xz (zn D×zn D)
 |[]=>aa ([],[])
 | d::r=>match d with
  |.tup a=>match a with
   |[k,v]=>(Xs r).map λp=>(k::p.1,v::p.2)
   |_=>af
  |_=>af
def EU(f:CO (zn D))(M:Ctx):xz D:=(f M).bind λa=>(Xs a).bind λp=>Eo p.1 p.2
@[simp] def zmE:=@EU.eq_1
def OP(e j:CO D):CO D:=λa=>(e a).bind λd=>(j a).bind λk=>match d with
 |.gC b f=>(gP k).bind λi=>lQ b f i
 |_=>af
def Mw(j e:CO D):CO D:=λa=>(j a).bind λk=>(e a).bind λd=>match d with
 |.gC b f=>(gP k).map λi=>.bl (lQ b f i).isSome
 |_=>af
section
variable{X:Cx}{pins:TW}{U:St}{A:ec}{R:F6->bB->Prop}{H0:Hp}{l it d:ak}{ks:zn Key}{ys xs:zn V}
theorem zjF(hh:A.handled=af)(hx:xs.length=ks.length)(hy:pT ys=pT ks)(hp:∀n h1 (h2:n<ks.length) (h3:n<ys.length),∃p,xs[n]=.ref p/\ej X.K H0 p [kV ks[n],ys[n]])(bb:H0 d=af)(S:l≠d):∀m n s H j i t,n+m=pT ks->
 Inv X pins U H s->dj H0 H->H l=aa (.lst xs)->s.heap.IsListIter it l n->XT X pins H it->H d=aa (.dK j)->pT j+m<=cP->
 (∀B,Inv X pins U (upd H d<|.dK<|Ca j<|(ks.zip ys).drop n) B->R (.ok<|.ret .none) B)->
 codeAny (aV X.prog X.w) A (.builtin "dict.update.loop" ([.ref d,.ref it,.int i t,.none],[])) R s:=by
 intro m
 induction m with
 | zero=>
  intro n s H j i t hn I sub z st f h hz J;let(z1,ad,c,M,ll,O):=I.rK z;show vk Zn ?_;show aL<|wpAny_pyNext_list_end hh st (_,O,rfl,_,rfl) (by simp;lia) λh' eb=>?_;show aL<|bW ?_;have e0:upd H d (.dK<|Ca j<|(ks.zip ys).drop n)=H:=by
   rw[DM (by grind)];funext c;by_cases q:c=d
   .rw[q,zB,h];rfl
   .rw[zC q]
  rw[e0]at J;show bW (J _<|I.sd (fp:=[it]) (λb o a e=>eb b o (~~~a) e)<|λb a=>by rw[mY.mp a];show f)
 | succ m ih=>
  intro n s H j i t hn I sub z st f h hz J;let(z1,ad,c,M,ll,O):=I.rK z;have Q:n<ks.length:=by grind
  let(p,ep,as):=hp n () Q ();let(u,hu,L):=M.get (eO<|show n<xs.length by lia);rw[ep]at L;subst L;show vk Zn ?_;show aL<|wpAny_pyNext_list_item (s:=s) st (_,O,rfl,_,rfl) (x:=.ref p) (~~~hu) λh' T sb=>?_;have Y:=I.sd (h':=h') (t':=s.toks) (fp:=[it]) (λb o a e=>(sb.2 b<|by simpa using a).trans e) (λb a=>by rw[mY.mp a];show f);show aU λZ=>?_;let(ts,rt,(o,E,co,nn,σ),znU):=Y.tuple<|gr sub as;let(g,r,rfl,W,k):∃g r,ts=g::r/\RelV (kV ks[n]) g/\cM [ys[n]] r:=by
   cases rt with
   |cons q1 k=>show(_,_,rfl,q1,k)
  let(N,rfl,b3):=kg k;show Z ?_;show aL<|hG<|aL<|wpAny_tryCatch ?_;erw[Builtin.Dict.pairItems];show aL<|uf (_,E,co) ?_;rw[DJ ()];show aL<|t5 E σ<|bW ?_;change wpAny _ _ (ml [g,N] (dictSet d g N)) _ _ _;show aU λZ=>?_;let(zlX,b5,vs,y,dd):=SE Y.bQ h;show Z ?_;have b6:(pv j ks[n] ys[n]).length<=cP:=by have:=YA j ks[n] ys[n];lia
  show hG<|wpAny_dictSet_pairs (hsz:=(by rw[<-y.length];show zlX)) (CN W) dd λbe C F=>?_;have G:it≠d:=λq=>by have:=f.1;lia
  show bW (wY _,ih (n+1) _ _ (pv j ks[n] ys[n]) (i+1) 0 () (IS (t':=s.toks+1) Y (by rw[h];show kA) F (let (q,_,_,hq,_):=C;(q,hq))<|Oi b6 b5 (y.put ks[n] b3) C) (λc o e=>?_) (by rw[zC S];show z) (T.at λo q=>(F.2 it G).trans q) (by rw[zC G];show f.1,f.2) zB (by have:=YA j ks[n] ys[n];lia) λB P=>J B ?_)
  .rw[zC (λq=>by lia)];show sub _ _ e
  .have e1:(ks.zip ys).drop n=(ks[n],ys[n])::(ks.zip ys).drop (n+1):=by
    rw[M5 (by simp;lia)];simp
   have e2:upd (upd H d<|.dK<|pv j ks[n] ys[n]) d (.dK<|Ca (pv j ks[n] ys[n])<|(ks.zip ys).drop (n+1))=upd H d (.dK<|Ca j<|(ks.zip ys).drop n):=by
    funext c;by_cases q:c=d
    .simp?[q,zB,zB,e1];rfl
    .simp?[zC q,zC q,zC q]
   rw[<-e2];show P
theorem zj7(I:Inv X pins U H s)(Y:X.A.handled=af)(sub:dj H0 H)(Z:H l=aa (.lst xs))(σ:xs.length=ks.length)(W:ys.length=ks.length)
 (S:∀n h1 (h2:n<ks.length) (h3:n<ys.length),∃p,xs[n]=.ref p/\ej X.K H0 p [kV ks[n],ys[n]]) (hz:ks.length<=cP)
 (B:∀j p,H p=af->Inv X pins U (upd H p (.dK (Ca [] (ks.zip ys)))) j->Q (.ref p) j):⇑X (call (.type "dict") [.ref l]) Q X.xe s:=by
 have z:=I.fresh;have f:l≠↥s:=λq=>by lia
 show d_ (Q₁:=λobj a=>obj=_/\a=_) F.kt_called_dict (F.kt_typeCall_dict_1 _) F.entry_dict_init (kt_code_dict_new _ (rfl,rfl)) ?_;rintro obj a ⟨rfl,rfl⟩;have g:({s with heap:=s.heap.push {cls:=.type "dict",data:=.dict #[]}}).TypeIs (.ref _) "dict":=(_,f9 _ rfl,rfl);show aU λi=>?_;let(t,ad,c,r,m,h):=I.rK Z;show i ?_;have J:(s.heap.push {cls:=.type "dict",data:=.dict #[]}).get? l=_:=cW _ h;show(g,F.args_dict_init_2 _ _,?_);show aL ?_;erw[Builtin.Dict.selfAndRest];show aL (wpAny_notOrdered_dict g ?_);show bW ?_;change wpAny _ _ (Builtin.Dict.updateFrom "dict.__init__" _ (.ref l) [] .none) _ _ _;erw[Builtin.Dict.updateFrom];show aL (uf (_,J,rfl) ?_);rw[DJ ()];show aL (zlr J Y λh' t' k=>?_);have O:Inv X pins U _ {s with heap:=h',toks:=t'}:=(I.laid (t':=s.toks) (λv v q=>cW _ q) (cV _) (En s.heap I.big)).kept k;show aL (q0 (aL (_e (_,k _ _ J,rfl,_,rfl) ?_)));show bW (wY _,?_);show zjF (show X.A.in1.handled=af from Y) σ W S (jl sub z) f ks.length 0 _ _ [] 0 0 (ub _) (O.kept (h':=h'.push {cls:=.type "list_iterator",data:=.fields #[.ref l,.int 0 0]}) (t':=t') λb o e=>cW _ e) (sub.trans (jx z _)) (by rw[zC f];show Z) (_,f9 _ rfl,rfl,rfl) (O.oC (cV _) O.fresh) zB (~~~hz) λj d=>?_;rw[QN,List.drop_zero]at d;show(rfl,B j _ z d)
end
theorem bp:∀{ps e vs:zn D},Xs ps=aa (e,vs)->e.length=ps.length/\vs.length=ps.length
 |[],e,vs,h=>by cases h;show(rfl,rfl)
 | d::r,e,vs,h=>by
  erw[Xs]at h;split at h
  .split at h
   .let((a,b),f,g):=zy h
    cases g;let(z,I):=bp f;show(by simp[z],by simp[I])
   lia
  lia
set_option tactic.hygienic true in
theorem VG{K:aO}{H:Hp}:∀{ps U vs:zn D} {xs:zn V} {e:zn Int},Xs ps=aa (U,vs)->bz K H ps xs->aA U=aa e->
 ∃B,bz K H vs B/\B.length=e.length/\xs.length=e.length/\∀n S (h2:n<e.length) (W:n<B.length),∃p,xs[n]=.ref p/\ej K H p [.int e[n],B[n]]
 |[],U,vs,xs,e,h,r,hi=>by cases h;cases hi;rw[r.m7];show([],bz.nil,rfl,rfl,λn S=>by cases S)
 | d::ps,U,vs,xs,e,h,r,hi=>by
  erw[Xs]at h;split at h
  .split at h
   .rename_i k v
    let((a,b),f,g):=zy h;cases g;let(x,A,rfl,S,h2):=r.i0;cases k with
    |int j=>
     show aU λz=>?_;let(y,I,J):=zy hi;subst J;let(B,O,Y,Z,t):=VG f h2 I;let(q,F,rfl,W,i):=kW S;let(C,E,rfl,l,m):=i.i0;let(u,w,rfl,o,s):=m.i0;show z ?_;rw[s.m7,jX l]at W;show(u::B,bz.cons o O,by simp[Y],by simp[Z],λn g1 g2 g3=>?_);cases n with
     |zero=>show(q,rfl,W)
     |succ n=>show t n (~~~g1) (~~~g2) (~~~g3)
    |_=>cases hi
   lia
  .cases h
section
variable{X:Cx}{sc:cS}{N L:zn Str}{k:Nat}{a o i:bE}{f:CO (zn D)}{fd fk:CO D}{p pos:cH}
theorem BZ(h:SX X sc N L k)(S:qz sc "dict" = ae)(zlS:X.mg "dict" = af)(W:PO X a f)(hs:ck [a] ⋯=[(aF,bH a ⋯)]:=by rfl):
 PV X (.Call (.Name "dict" p) [a] [] pos) (EU f):=by
 intro j s U H Q I Y;show aU λZ=>?_;let(x,M,d,E,z,q):=Y;let(C,γ,z):=zc z;let((g,P),A,z):=zc z;show Z ?_;erw[Eo]at z;cases hi:aA g with
 |none=>simp?[show _=g from rfl,hi]at z;cases z
 | some i=>
  rw[show _=g from rfl,hi]at z;dsimp only at z;by_cases u:g.length=P.length/\i.Nodup/\g.length<=lim
  .rw[DJ u]at z
   cases z;show uh<|xo I (h.gl S).1 zlS PyProof.Rows.boot_dict (pP ?_ (by rw[hs];rfl) rfl);rw[hs];change wpAny _ _ (L5 (_::[])) _ _ s;show nj<|cy (W j s U H (λv o=>∃l m b,v=.ref l/\Ext x H b o/\b l=af/\o l=aa (.lst m)/\bz X.K b C m) I (x,M,C,E,γ,λl m o b e g1 g2 g3 O=>(l,m,b,rfl,e,g2,g3,O))) λv s1 Y=>?_;show aU λZ=>?_;let(y,o,F,ry,l,m,b,rfl,e,g2,g3,O):=Y;show Z ?_;cases ry;show sk ?_;let(w,r1,r2,r3,r4):=VG A O hi;have B:(i.map<|mL (β:=Str)).length=i.length:=by simp
   have nl:i.length=g.length:=by have:=(bp A).1;have:=O.length;lia
   show zj7 F (I.ok.hd h.calm) e.sub g3 (by rw[B];show r3) (by rw[B];show r2) (λn R T σ=>?_) ?_ λs' p r J=>?_
   .let(t,t1,t2):=r4 n R (~~~T) σ
    show(t,t1,?_);simpa[kV]using t2
   .have:lim<=cP:=by decide
    lia
   .have G:Ca [] ((i.map mL).zip w)=(i.map mL).zip w:=by
     rw[VY _ []]
     .simp
     .rw[Ts,List.map_fst_zip ()]
      show zlh u.2.1
    rw[G]at J;let(of,J):=Inv.zhU J zB;rw[QN]at J;show(.ref p,_,J,rfl,q (.ref p) _ _ ((e.trans<|Ext.hide e.sub r _).show (xl e.s1 r) (jl e.sub r) zB E.sub)
     ((p,w,rfl,(_,Wc hi,(),of,zB),r1.mono<|jx (jl e.sub r) _)))
  .rw[DY u]at z;cases z
theorem MP(h:SX X sc N L k)(O:PV X o fd)(S:PV X i fk)(hs:Re i:=by intro _ _;rfl):PV X (.Subscript o i pos) (OP fd fk):=
 j3 (HX (by have:=h.tU;lia) O S hs) λR H Q Y=>by
  let(g,f,d,e,z,q):=Y;let(Z,t,z):=zc z;let(F,u,z):=zc z;cases Z with
  |gC K M=>
   let(j,w,A):=zc z;show(g,f,_,e,t,λv E a x r=>(a,f,_,e.ext x,u,λy l m I b=>?_));let(ad,P,rfl,(G,g1,g2,C,g3),B):=(r);rw[j5 w]at b;let(J,p,s):=(aD g1 g2<|B.mono I.s0).1 d A;show(ad,J,rfl,?_,q J l m (x.trans I) s);rw[b,<-p];show .inl (_,mL j,.inr (C,I.s1 _ _<|x.sub _ _ g3),rfl,rfl)
  |_=>cases z
theorem HF(h:SX X sc N L k)(S:PV X i fk)(W:PV X o fd)(σ:m3 .In o=aF:=by with_unfolding_all rfl):gk X (.Compare i [.In] [o] pos) (sB<|Mw fk fd):=
 X5 (MS (Nq (by have:=h.tU;lia) S W) σ) λU H Q K=>by
  let(l,g,b,f,z,q):=K;let(db,w,F):=zc z;let(k1,A,z):=zc w;let(t,B,z):=zc z;cases t with
  | gC P R=>
   let(j,C,E):=zy z;subst E;cases F;show(l,g,_,f,A,λy H1 a x e=>(a,g,_,f.ext x,B,λv d J I r=>?_));show aU λM=>?_;let(ad,xs,rfl,(kk,g1,g2,O,Y),G):=(r);show M ?_;rw[j5 C]at e;have Z:=e;let(m,p):=aD g1 g2 G;cases hv:lQ P R j with
   | none=>
    show(ad,af,rfl,?_,_,rfl,?_)
    .rw[Z,<-p hv]
     show .inl (_,mL j,.inr (O,I.sub _ _ Y),rfl,rfl)
    .rw[hv]at q;show q d J<|x.trans I
   | some u=>
    let(T,s,c4):=m u hv;show(ad,aa T,rfl,?_,_,rfl,?_)
    .rw[Z,<-s]
     show .inl (_,mL j,.inr (O,I.sub _ _ Y),rfl,rfl)
    .rw[hv]at q;show q d J<|x.trans I
  |_=>cases z
end
def Uc:zn (zn Int)->zn Int->zn Int->xz Int
 |k::ks,n::ns,i=>if k=i then aa n else Uc ks ns i
 |_,_,_=>af
def eqT(e:zn (zn Int))(j:zn Int)(z:zn (zn Int))(I:zn Int):Bool:=decide (pT e=pT z)&&(e.zip j).all λx=>decide<|Uc z I x.1=aa x.2
def Uj(d e:D):xz Bool:=match d with
 |.hO b g=>match e with
  |.hO z a=>(aA g).bind λf=>(aA a).map λI=>eqT b f z I
  |_=>af
 |_=>af
@[simp] def zaG(d e:D):xz D:=(Uj d e).map D.bl
@[simp] def zaF(d e:D):xz D:=(Uj d e).map λb=>D.bl<|!b
def yL:Cell->Bool
 |.nest _=>ae
 |_=>aF
def Bz(i:Nat):Tg->Bool
 |.nm j=>decide<|j≠i
 |.tp z=>decide<|i∉z
theorem uc{M:Ctx}(h:M.any yL=aF):∀(i:Nat) j,M[i]? ≠ aa (.nest j):=λi j e=>by show(E3.mp h _<|oZ e) rfl
theorem iG{M:Ctx}(h:M.any yL=aF)(j)(d):(M.set j<|.val d).any yL=aF:=by
 show E3.mpr λc hc z=>?_;rcases List.mem_or_eq_of_mem_set hc with hc|hc
 .exact E3.mp h c hc z
 .rw[hc]at z;cases z
theorem KJ:∀is e{M},M.any yL=aF->(xT is e M).any yL=aF
 |[],e,M,h=>by assumption
 |i::is,[],M,h=>h
 |i::is,d::e,M,h=>KJ is e<|iG h i d
theorem YX(e:qy T d M=aa z)(h:M.any yL=aF):z.any yL=aF:=by
 cases T with
 |nm j=>cases e;show iG h j d
 | tp is=>
  cases d with
  |tup a=>
   simp?[qy]at e;split at e
   .cases e;show KJ is a h
   lia
  |_=>simp[qy]at e
theorem VR{i:Nat}:∀{is:zn Nat} {vs:zn V} {e:St},i∉is->(VS is vs e)[i]? = e[i]?
 |[],vs,e,_=>by rfl
 |j::is,[],e,_=>rfl
 |j::is,v::vs,e,h=>by change(VS is vs _)[i]? = _;rw[VR (λz=>h<|eV _ z),ew (λz=>h<|by rw[z];show fA)]
theorem Wj{K:aO}{B H:Hp}{T:Tg}{d:D}{v:V}{S:St}{M J:Ctx}{i:Nat}{Q:St->Hp->Prop}(s:dj B H)(h:Rep K B d v)(e:qy T d M=aa J)(O:Bz i T=ae)
 (q:∀z,z[i]? = S[i]? ->(∀E0 E,RS K E0 E B H S M->RS K E0 E B H z J)->Q z H):il K T v S H Q:=by
 cases T with
 |nm j=>cases e;show q _ (ew<|of_decide_eq_true O) λE0 E r=>r.mT h
 | tp is=>
  cases d with
  | tup g=>
   simp?[qy]at e;by_cases I:g.length=is.length
   .rw[DJ I]at e;cases e
    let(a,f,rfl,k,b):=(h);have Y:f.length=is.length:=by rw[b.length,I]
    show(a,f,rfl,gr s k,Y,gN Y<|q _ (VR<|of_decide_eq_true O) λE0 E r=>r.A1 b)
   .rw[DY I]at e;cases e
  |_=>simp[qy]at e
abbrev TT:=zn (zn (zn Int))
section
theorem NB(s:dj E H)(h:H c=af):E c=af:=by
 cases q:E c with
 |none=>rfl
 |some o=>rw[s c o q]at h;cases h
end
open PySem.W (KasT kas_sort kas_ask kat_run kat_snds kat_lt kat_cons kat_no kat_yes kat_nil kat_go kat_one kat_kind KatTups KatGo)
section
variable{prog:cQ}{w:cN}{A:ec}{E:EQ}{s:bB}
theorem lJ{st:SortSt}(O:s.heap.get? z=aa (eu "list" B.toArray e))(H:s.heap.get? a=aa (eu "list" #[] j))(Y:z≠a)(W:pT B<=cP)(Z:pT I<=cP)
 (U:(arrOf st).map (·.2)=I.toArray) (S:failedOf st=af)
 (h:∀h' c,h'.objs.size=↥s->(∀b o,b≠a->b≠z->s.heap.get? b=aa o->h'.get? b=aa o)->h'.get? a=aa (eu "list" I.toArray c)->P (.done (.ret .none)) {s with heap:=h'}):
 wpAny (aV prog w) A (ksk_tail a aF j (.ref z) st) P E s:=by
 erw[ksk_tail];show aL (B2 O rfl ?_ (by assumption) (g8 _));show aL (OS ?_);have J:(s.heap.update z (gV λv=>(#[]))).get? a=_:=(ni _ _ Y).trans H;show aL (OT J rfl ?_);rw[U];show aL (B2 J rfl ?_ (g8 _) (by rw[eW];show N2 Z));rw[S];simp?[bne_self_eq_false,_i,if_false];let(c,g):∃c,((s.heap.update z _).update a (gV λv=>I.toArray)).get? a=aa (eu "list" I.toArray c):=(_,U5 J _);show bW (h _ c (by simp_all) (λb o d f q=>(ni _ _ (dh d)).trans ((ni _ _ (dh f)).trans q)) g)
theorem Iw{a I:ak}{vs B:zn aN}{ps:zn (Int×Int)}{e H:Nat}{P:PySem.Fin->bB->Prop}(hk:s.heap.get? I=aa (eu "list" B.toArray e))(ha:s.heap.get? a=aa (eu "list" #[] H))(U:I≠a)(a8:B.length=vs.length)(O:ps.length=vs.length)(ao:vs.length<64)
 (Y:∀i S,rb s.heap B[i] (ps.getD i (0,0)).1 (ps.getD i (0,0)).2)
 (h:∀h' c,h'.objs.size=↥s->(∀b o,b≠a->b≠I->s.heap.get? b=aa o->h'.get? b=aa o)->h'.get? a=aa (eu "list" (Uy ((xR ps).map λi=>vs.getD i h9)) c)->P (.done (.ret .none)) {s with heap:=h'}):
 wpAny (aV prog w) A (ksk_end a aF vs.toArray H (.ref I) B.toArray) P E s:=by
 have hz:vs.length<=cP:=by rw[mv];lia
 have hsz:vs.toArray.size=vs.length:=by simp
 have bd:((xR ps).map λi=>vs.getD i h9).length=vs.length:=by rw[f7,(qk ps).length_eq,pM,O]
 erw[ksk_end]
 try dsimp only
 show(λt ht=>ht) _ ?_;by_cases f:vs.toArray.size<2
 .rw[DJ f,DJ f]
  show aL<|bW ?_;rw[StateT.run_pure];show aL<|bW ?_;dsimp only;have ev:(xR ps).map (λi=>vs.getD i h9)=vs:=by erw[xR];rw[DJ (),O];show j4 _ _
  show lJ hk ha U () () (by
   rw[ev];apply Array.ext';simp[Array.toList_map,Array.toList_zip];rw[List.map_snd_zip ()]) rfl h
 .rw[DY f,DY f]
  let(fs,f1,f2,f3):=uB λi S=>(Y i S).one;show aL (kat_kind (T:=sA "int") f1 () (λv hv=>?_) () ?_)
  .let(k,t,rfl):=f3 v hv
   show t6.of_pure rfl
  show aL (cT (kat_run (Q:=λJ d=>∃p,arrOf J=p.map (PySem.W.kas_item<|B.toArray.zip vs.toArray)/\failedOf J=af/\p.toList=xR ps/\d=s)
   (G:=λp d=>p.toList=xR ps/\d=s)
   a8 () ao (λp J d a1 N R r=>(p,N,R,r.1,r.2)) (gO (λi j C S hj z=>?_) (YI ()) (by
   erw[xR];rw[DY (),O],rfl))) ?_ λq q e=>e)
  .show wpAny _ _ (keyLt' _ (B.getD i h9)<|B.getD j h9) C _ _
   have F:i<B.length:=()
   have ad:j<B.length:=()
   rw[show B.getD i h9=B[i]by simp[F],show B.getD j h9=B[j]by simp[ad]];show aU λkZ=>?_;let(x,zjQ,xs,m,t,u,H,e2,e3,e4,M):=Y i F;let(y,zjR,ys,m',t',u',d1,d2,d3,d4,L):=Y j ad;show kZ ?_;rw[H,d1];show kat_lt e2 e4 d2 d4 ?_;have X:xs.size=2:=by rw[<-t7,M];rfl
   have b8:ys.size=2:=by rw[<-t7,L];rfl
   simp?[M,L,X,b8,D9,D9];erw[Si]at z;generalize ps.getD i (0,0)=Z at z ⊢;generalize ps.getD j (0,0)=X2 at z ⊢;show kat_cons<|N4 Z.1 t X2.1 t' _ _ _ _ ?_;show kat_go (λl=>?_) λl=>?_
   .rw[DJ (~~~l)]at z
    show kat_yes<|kat_cons<|N4 Z.2 u X2.2 u' _ _ _ _<|kat_go (λg=>?_) λg=>kat_no<|kat_one _ _<|lt_int z
    .have g:= ~~~g
     show kat_yes<|kat_nil ?_;rw[show decide (Z.2<X2.2)=aF by rw[g];simp]at z;show z
   .rw[DY (~~~l)]at z
    show kat_no<|oneLt_int z
  rintro⟨⟨⟩,J⟩ d ⟨p,b9,hf,hp,rfl⟩;dsimp only;have K:=kat_snds a8 b9;rw[hp]at K;show lJ hk ha U () () K hf h
end
section
variable{X:Cx}{pins:TW}{U:St}{H:Hp}{s:bB}{a:ak}{o:HO}
theorem zk4(I:Inv X pins U H s)(f:XT X pins H a)(new:hL X.prog X.w (upd H a o) s.heap a o):Inv X pins U (upd H a o) s:=by
 let(f1,Y,t,Z,j,k):=f;have d b u:H b=aa u->b≠a:=λq z=>by lia
 show(I.ok,I.os,I.bare,(I.base.keep,I.base.slot,λb J q n O=>?_,I.base.there,λb i q=>?_,λb J u q=>?_,λb l q=>?_),I.loc,I.cell,?_,λx c e=>?_,λp h=>?_,λb u e=>?_,I.len)
 .rw[zC (λz=>by
   rcases Z with z1|z1
   .exact O<|z ▸ z1
   .have:=ei q
    rw[z]at this;show absurd this<|Nat.not_lt_of_le z1)];show I.base.free b J q n O
 .have:=I.base.m9 b i q
  rw[zC (d b _ this)];show this
 .have:=I.base.mS b J u q
  rw[zC (d b _ this)];show this
 .let(m,this):=I.base.mU b l q
  show(m,by rw[zC (d b _ this)];show this)
 .rw[zC (dh Y)];show I.free
 .rw[zC (j x c e)];show I.nz x c e
 .let(e,n,r):=I.pin p h
  show(e,by rw[zC (k p h)];show n,r)
 .by_cases g:b=a
  .subst g;rw[zB]at e;lia
  .rw[zC g]at e
   show(I.bQ b u e).mr (λv v v q=>q) (λc q=>by rw[zC (d c _ q)];show q) λc i q=>by rw[zC (d c _ q)];show q
theorem Hi{A:ec}{Q:VK}{us:zn aN}{vs:zn V}{CX:oy}{k:Nat}{f:ak}{j:gh}{ps:zn Str}{sp:Sp}(F:⇑fh gx k f j ps sp)(z:gm k A)(J:⇑nH A X.stack s H)(B:Binds X.K j ps [])
 (I:Inv X pins U H s) (r:cM vs us) (h:sp vs H Q E0):wpAny (aV X.prog X.w) A (call (.ref f) us) (EP X pins U Q) (λq q=>False) s:=by
 show o8<|pS (F.run A X.stack s H _ us vs Q E0 z J (~~~B s us I.df (~~~(by rw[<-r.length];show F.len _ _ _ _ h))) r h) λr d a=>?_;cases r with
 |error e=>show a.elim
 |ok b=>
  cases b with
  |ret u=>show I.after a
  |next=>assumption
  |brk=>assumption
  |cont=>assumption
theorem MC(I:Inv X pins U H s)(j:XT X pins H kS)(e:XT X pins H a)(z:s.heap.get? kS=aa ok)(B:s.heap.get? a=aa oa)(J:∀v,ok.data ≠ .cell v)(O:∀v,oa.data ≠ .cell v):Inv X (pins++[(kS,ok),(a,oa)]) U H s:=
 I.L1 λp hp=>by
  rcases l9.mp hp with hp|hp
  .exact I.pin p<|ix _ hp
  .rcases d8.mp hp with rfl|hp
   .exact(z,j.1,j.2.1,j.2.2.1,J)
   .rw[mY.mp hp];show(B,e.1,e.2.1,e.2.2.1,O)
theorem LW(I:Inv X (pins++more) U H s):Inv X pins U H s:=I.L1 λp a=>I.pin p<|ix _<|_z _ a
end
def cG(ps:zn (Int×Int)):zn D:=ps.map λp=>D.tup [.int p.1,.int p.2]
section
variable{X:Cx}{pins:TW}{U:St}{F:zn D->xz Res}{k:Nat}{f:ak}{fd:gh}{pr:zn Str}{A:ec}{E:EQ}
theorem GG(I:Inv X pins U H s)(sub:dj H0 H)(r:Rep X.K H0 (.tup [.int i,.int j]) v)(B:RelV v u):rb s.heap u i j:=by
 let(b,L,rfl,a,f):=kW r;let(y,G,e,g,h):=f.i0;let(F,C,Z,k,l):=h.i0;rw[l.m7]at Z;rw[e,Z,jX g,jX k]at a;cases B;let(d,A,(o,w,m,n,p),q):=I.tuple<|gr sub a;let(z,J,rfl,O,Y):∃z J,d=z::J/\RelV (.int i) z/\cM [.int j] J:=by
  cases A with
  |cons O Y=>show(_,_,rfl,O,Y)
 let(E,rfl,x):=kg Y;let(t,rfl):=O;let(u,rfl):=x;show(b,o,_,n,t,u,rfl,w,m,p,rfl)
theorem CM{a J:ak}{vs:zn aN}{xs:zn V}{ds:zn D}{ps:zn (Int×Int)}{e1:Nat}{P:PySem.Fin->bB->Prop}{W H:Hp}{s:bB}
 (G:⇑fh gx k f fd pr (l5 X.K pr.length F)) (h1:pr.length=1) (hr:gm k A) (b4:A.frames=aa X.stack) (S:Binds X.K fd pr [])
 (I:Inv X pins U H s) (sub:dj W H) (rv:cM xs vs) (rd:bz X.K W ds xs) (ao:ps.length=vs.length) (b5:vs.length<64)
 (hF:∀(i:Nat) d p,ds[i]? = aa d->ps[i]? = aa p->F [d]=aa (.val<|.tup [.int p.1,.int p.2]))
 (hk:s.heap.get? J=aa (eu "list" #[] 0)) (ha:s.heap.get? a=aa (eu "list" #[] e1)) (ap:J≠a) (fk:XT X pins H J) (fa:XT X pins H a)
 (h:∀σ H' B c,Inv X pins U H' σ->Ext W H B H'->σ.heap.get? a=aa (eu "list" (Uy ((xR ps).map λi=>vs.getD i h9)) c)->XT X pins H' a->P (.done (.ret .none)) σ):
 wpAny (aV X.prog X.w) A (ksk_rest a (.ref f) aF vs.toArray e1<|.ref J) P E s:=by
 have c0:=rv.length;have c4:=rd.length;erw[ksk_rest];show aL (q0 ?_);rw[List.forIn_toArray];show aL (ksk_fold (λj σ=>∃m g O e,Inv X (pins++[(J,eu "list" O e),(a,eu "list" #[] e1)]) U m σ/\Ext W H g m/\∃l,cM l O.toList/\bz X.K g (cG (ps.take j)) l) vs 0 s
  (H,W,#[],0,MC I fk fa hk ha (λv z=>by cases z) (λv z=>by cases z),Ext.refl sub,[],.nil,bz.nil) ?step ?done)
 case step=>
  rintro j x σ hx ⟨m,g,O,e,Y,t,l,C,Z⟩;simp?[ub]at Z ⊢;have hj:=(i8.mp hx).1;have hd:ds[j]? = aa ds[j]:=eO ();have av:xs[j]? = aa xs[j]:=eO ();let(u',aw,b7):=rv.get av;rw[hx]at aw;cases aw;let(znQ,ax,b8):=rd.get hd;rw[av]at ax;cases ax;show aL (oK (cT (Hi (CX:=gx) (Q:=λv H'=>∃B,Ext g m B H'/\Rep X.K B (.tup [.int ps[j].1,.int ps[j].2]) v) G hr (b4,Y.nR.mod,Y.nR.bs,Y.nR.nP,Y.nR.mc,Y.nR.oh,Y.nR.bQ,Y.nR.bare) S Y (.cons b7 .nil)
   (g,[ds[j]],_,t.sub,bz.cons (b8.mono t.s0) bz.nil,by rw[h1];rfl,hF j _ _ hd<|eO (),λv H' B L r2=>(B,L,r2))) (λv N he=>?_) λn n hF=>hF.elim))
  show aU λkZ=>?_;let(zlz,H2,M,bb,bd,L,r2):=he;show kZ ?_;try dsimp only
  show aU λkZ=>?_;let(r,R,n):=M.pin (J,eu "list" O e) (ix _ (ix _ (.head _)));let(na,T,n):=M.pin (a,eu "list" #[] e1) (ix _ (ix _ (.tail _ (.head _))));show kZ ?_;have ad:XT X pins H2 J:=(R,fk.2);have kl:O.size=j:=by have:=C.length;have:=Z.length;simp?[cG,f7,E7,t7]at *;lia
  show aL (B2 r rfl ?_ (by rw[kl,mv];lia) (et (O0 (Array.size_push ..)) (by rw[kl,mv];lia)));let(c2,be):∃c2,(N.heap.update J (gV (·.push v))).get? J=aa (eu "list" (O.push v) c2):=(_,U5 r (·.push v));show bW (rfl,H2,bd,O.push v,c2,MC ((LW M).sd (h':=N.heap.update J (gV (·.push v))) (t':=N.toks) (fp:=[J]) (λb o S q=>(ni _ _ (λz=>S (by rw[z];show List.mem_singleton_self _))).trans q) (λb S=>by rw[mY.mp S];show ad)) ad (T,fa.2) be ((ni _ _ ap).trans na) (λv z=>by cases z) (λv z=>by cases z),t.trans L,l++[zlz],?_,?_)
  .rw[Array.toList_push];show C.append<|.cons bb .nil
  .have ek:ps.take (j+1)=ps.take j++[ps[j]]:=by simp_all
   rw[ek];erw[cG]at Z ⊢;rw[nG];show(Z.mono L.s0).append (bz.cons r2 bz.nil)
 case done=>
  rintro σ ⟨m,g,O,e,Y,t,l,C,Z⟩;rw[ub,<-ao,List.take_length]at Z;let(r,R,n):=Y.pin (J,eu "list" O e) (ix _ (ix _ (.head _)));let(na,T,n):=Y.pin (a,eu "list" #[] e1) (ix _ (ix _ (.tail _ (.head _))));have b1:=LW Y;have ad:XT X pins m J:=(R,fk.2);have bf:XT X pins m a:=(T,fa.2)
  try dsimp only
  show aL<|listItems_at r rfl ?_;have l1:=C.length;have l2:=Z.length;simp?[cG,f7]at l2;have ek:O=O.toList.toArray:=by simp
  rw[ek]at r ⊢;show Iw r na ap () ao b5 (λi hi=>?_) λh' c hsz kp hA=>h _ m g c (b1.sd (h':=h') (t':=σ.toks) (fp:=[a,J]) (λb o S q=>kp b o (λz=>S<|by rw[z];simp) (λz=>S<|by rw[z];simp) q)<|λb S=>by grind) t hA bf
  .have bl:i<ps.length:=()
   let(y,ey,ry):=Z.get (i:=i) (d:=.tup [.int (ps.getD i (0,0)).1,.int (ps.getD i (0,0)).2]) (by erw[cG];simp[bl]);let(u,hu,ru):=C.get ey;have:O.toList[i]=u:=by rw[eO hi]at hu;show l8 hu
   rw[this];show GG b1 t.sub ry ru
end
def HZ:Res->xz (Int×Int)
 | .val d=>match d with
  |.tup a=>match a with
   |[x,y]=>(gP x).bind λi=>(gP y).map λj=>(i,j)
   |_=>af
  |_=>af
 |.own _=>af
def gF(F:zn D->xz Res):zn D->xz (List<|Int×Int)
 |[]=>aa []
 |d::r=>((F [d]).bind HZ).bind λp=>(gF F r).map λl=>p::l
def rM(F:zn D->xz Res)(f:CO (Sk×zn D)):CO (zn D):=λd=>(f d).bind λa=>match a.1 with
 |.L=>(gF F a.2).bind λb=>if a.2.length<64 then aa ((xR b).map λi=>a.2.getD i .cI)else af
 |_=>af
theorem bj(z:cM xs vs):∀(o:zn Nat),(∀i∈o,i<pT xs)->cM (o.map λi=>xs.getD i .cI) (o.map λi=>vs.getD i h9)
 |[],_=>.nil
 |i::o,h=>by have a:=h i fA;show .cons ?_ (bj z o λj I=>h j<|eV _ I);let(v,g1,g2):=z.get<|eO a;simp?[nc,nc,eO a,g1];show g2
section
variable{X:Cx}{pins:TW}{U:St}{F:zn D->xz Res}{k:Nat}{f:ak}{fd:gh}{pr:zn Str}
theorem zjr
 (G:⇑fh gx k f fd pr (l5 X.K pr.length F)) (W:pr.length=1) (hr:gm (k+1+1) X.A) (j:Binds X.K fd pr [])
 (I:Inv X pins U H s) (sub:dj H0 H) (hl:s.heap.IsList l vs.toArray) (Y:cM xs vs) (rd:bz X.K H0 ds xs) (S:ps.length=vs.length) (σ:vs.length<64)
 (hF:∀(i:Nat) d p,ds[i]? = aa d->ps[i]? = aa p->F [d]=aa (.val<|.tup [.int p.1,.int p.2]))
 (h:∀B H' e D,H D=af->H' D=af->Ext H0 H e H'->Inv X pins U (upd H' D<|.lst<|(xR ps).map λi=>xs.getD i .cI) B->Q (.ref D) B):
 ⇑X (call (.builtin "sorted") [.ref l] [(fR "key",.ref f)]) Q E s:=by
 have R:=Y.length;have O:vs.length<=cP:=by rw[mv];lia
 show call_function_entry_kw kind_sorted plain_sorted entry_sorted (ksk_s1 _ _) ?_;unfold Builtin.«sorted»;show aL (bW ?_);show aL (collect_list hl ?_ O);show aL (Uu ?_ O);have a:((s.heap.push (eu "list" #[] 0)).update ↥s (gV (· ++ vs.toArray))).objs.size=↥s+1:=by rw[T8,R9]
 have J:(((s.heap.push (eu "list" #[] 0)).update ↥s (gV (· ++ vs.toArray))).push (eu "list" vs.toArray 0)).get? (↥s+1)=aa (eu "list" vs.toArray 0):=by rw[<-a];show f9 _ rfl
 have keep b o:s.heap.get? b=aa o->(((s.heap.push (eu "list" #[] 0)).update ↥s (gV (· ++ vs.toArray))).push (eu "list" vs.toArray 0)).get? b=aa o:=λq=>by have Z:=ei q;rw[E5 _ _ _ (by rw[a];show eS (nF Z)),DH _ _ _ _ (eS Z),E5 _ _ _ (eS Z)];show q
 have m:(((s.heap.push (eu "list" #[] 0)).update ↥s (gV (· ++ vs.toArray))).push (eu "list" vs.toArray 0)).objs.size=↥s+2:=by rw[R9,a]
 rw[a];generalize ((s.heap.push (eu "list" #[] 0)).update ↥s (gV (· ++ vs.toArray))).push (eu "list" vs.toArray 0)=g at J keep m ⊢;have x:=I.oC (ua _) (I.bQ.fresh (ua _));show aL (hG (wpAny_call_entry_kw slot_list_sort (_,J,rfl) entry_list_sort ?body (ksk_l1 _ _)))
 case body=>
  rw[ksk_t1];erw[ksk_tree];show aL (listItems_at J rfl ?_);show aL (B2 J rfl ?_ (by assumption) (g8 _));let(t,r):∃t,(g.update (↥s+1) (gV λv=>(#[]))).get? (↥s+1)=aa (eu "list" #[] t):=(_,U5 J λv=>#[]);show aL (OT r rfl ?_);show aL (Uw ?_ (by change vs.length<=_;show O));show aL (Uu ?_ (g8 _));show hG ?_;have y:((g.update (↥s+1) (gV λv=>(#[]))).push (eu "tuple" vs.toArray 0)).objs.size=↥s+3:=by rw[R9,T8,m]
  show CM
   G W hr.in1.in1 I.nR.in1.in1.frames j (((I.kept (t':=s.toks) keep).sd (h':=g.update (↥s+1) (gV λv=>(#[]))) (t':=s.toks) (fp:=[↥s+1]) (λb o j q=>(ni _ _ (λz=>j (by rw[z];show List.mem_singleton_self _))).trans q) (λb j=>by rw[mY.mp j];show x)).kept (h':=((g.update (↥s+1) (gV λv=>(#[]))).push (eu "tuple" vs.toArray 0)).push (eu "list" #[] 0)) (t':=s.toks) (λb o q=>cW _ (cW _ q))) sub Y rd S σ hF (f9 _ rfl) (cW _ (cW _ r)) (by rw[y];show λz=>absurd (Nat.add_left_cancel z) ()) (by rw[y];show(I.oC (nh _ _) (I.bQ.fresh (nh _ _)))) x λB H' e c C P M u=>(_,rfl,?_)
  show bW (_,rfl,h B H' e _ (I.bQ.fresh<|ua _) u.1 P<|zk4 C u ?_);have L:((xR ps).map λi=>xs.getD i V.cI).length=vs.length:=by rw[f7,(qk ps).length_eq,pM,S]
  show(by rw[L];show O,(xR ps).map λi=>vs.getD i h9,c,bj Y _ (λi N=>by have:=dy.mp<|(qk ps).mem_iff.mp N;lia),M)
end
theorem dw:∀{e:zn D} {ps:zn (Int×Int)},gF F e=aa ps->ps.length=e.length
 |[],ps,h=>by cases h;rfl
 |d::r,ps,h=>by let(p,q,a):=zc h;let(l,b,f):=zy a;subst f;simp[dw b]
theorem zi7(h:HZ r=aa p):r=.val (.tup [.int p.1,.int p.2]):=by
 erw[HZ]at h;split at h
 .split at h
  .split at h
   .let(i,a,b):=zc h
    let(j,d,e):=zy b;subst e;rw[j5 a,j5 d]
   lia
  lia
 lia
theorem lH:∀{e:zn D} {ps:zn (Int×Int)},gF F e=aa ps->∀(i:Nat) d p,e[i]? = aa d->ps[i]? = aa p->F [d]=aa (.val<|.tup [.int p.1,.int p.2])
 |[],ps,h,i,d,p,hd,hp=>by grind
 | c::r,ps,h,i,d,p,hd,hp=>by
  let(q,f,g):=zc h;let(l,j,k):=zy g;subst k;cases i with
  |zero=>
   simp at hd hp;subst hd hp;let(m,a,b):=zc f;rw[a,zi7 b]
  |succ i=>show lH j i d p (~~~hd) (~~~hp)
section
variable{X:Cx}{sc:cS}{N L:zn Str}{k j:Nat}{e:bE}{fq:CO (Sk×zn D)}{F:zn D->xz Res}{x:Str}{p p2 pos zit:cH}
theorem Cj(hf:⇑cL j x 1 F)(h:SX X sc N L k)(hj:j+1+1<=k)(c:qz sc "sorted" = ae)(z:X.mg "sorted" = af)(S:qz sc x=ae)(hq:PQ X e fq)
 (hs:ck [e] ⋯=[(aF,bH e ⋯)]:=by rfl):
 PO X (.Call (.Name "sorted" p) [e] [(aa "key",.Name x p2,zit)] pos) (rM F fq):=by
 intro d s U H Q I Z;show aU λy=>?_;let(A,M,ac,rc,J,q):=Z;let((kk,t),R,J):=zc J;let(fa,fd,pr,hn,G,hm,hk,W):=hf.ex;show y ?_;cases kk with
 |T=>cases J
 | L=>
  have J:=J;let(ps,C,J):=zc J;by_cases E:t.length<64
  .rw[DJ E]at J
   cases J;show nW (xo (u:=.builtin "sorted") I (h.gl c).1 z () (callWith_kw ?_ (by rw[hs];rfl) (by rw[hs];rfl)) () ());show cy ((zX hq jG hs) pos d s U H (λγ l=>∃a g b,γ=[.ref a]/\Ext A H b l/\dY X.K l a g/\bz X.K b t g) I (A,M,.L,t,rc,R,λa g l b f g1 g2 O=>(a,g,b,rfl,f,g1,O))) λus s1 Z=>?_;show aU λy=>?_;let(γ,l,o,rv,a,g,b,rfl,f,g1,O):=Z;let(u,rfl,ru):=kg rv;show y ?_;cases ru;show wpAny_evalAll_cons (aL (xE o (h.gl S).1 hm (aL (ou (bW ?_))) (h.gl S).2.2));show wpAny_evalAll_nil ?_;let(al,r,pl,hz):=o.list g1;have l1:=r.length;have l2:=O.length;have l3:=dw C;show zjr G hn (h.room.mono hj) W o f.sub pl.isList r O () () (lH C) λs' H' m D σ B Y P=>?_;show(.ref D,_,P,rfl,q D _ _ m (f.trans (Y.trans (Ext.hide Y.sub B _))) (xl f.s1 σ) (jl Y.sub B) zB ?_);show KO (O.mono Y.s0) _ λi hi=>?_;have:=dy.mp ((qk ps).mem_iff.mp hi);lia
  .rw[DY E]at J;cases J
end
section
variable{c:bE}{p:cH}
open Classical in
end
structure SW(X:Cx)(sc:cS)(N T:List Str)(k:Nat):Prop where
 l4:⋯.scope=sc
 eN:X.N=N
 nd:N.Nodup
 dp:X.A.depth+3*k+5<R3
 un:X.A.units+16*k+200<oR
 fn:∀x∈T,X.fn x=ae\/sc.names.lookup x=aa .local
structure Dc(k:Nat)(A:ec):Prop where
 dp:A.depth+3*k+5<R3
 un:A.units+16*k+200<oR
section
variable{X:Cx}{sc:cS}{N T:zn Str}{k:Nat}{i:Nat}{x:Str}{pos:cH}
theorem SW.var(h:SW X sc N T k)(c:xy sc N i x):PE X (.Name x pos) (eY i):=by erw[xy]at c;simp?[eH,t4,decide_eq_true_eq,t8]at c;let(((a,e),b),d):=c;show tq (by rw[h.eN];show a) ?_ b d;erw[xB];rw[h.l4];lia
theorem SW.gl(h:SW X sc N T k)(c:qz sc x):Gl X x/\x ≠ "__name__"/\(x==("__debug__"))=aF:=by
 erw[qz]at c;simp?[eH,decide_eq_true_eq,t8]at c;show(?_,?_,c.2)
 .show ⋯.scope.names.lookup x=_
  rw[h.l4];show c.1.1
 lia
end
def Pt(P:cQ)(w:cN)(K:aO)(j:DZ)(base:bN)(N:zn Str)(qual:Str)(scope:cS)(f:ak)(e:aN)(A:ec)(outer:zn eE)(s:bB)(H:Hp)(E:XK):Cx:=
 {Kt gx P w K j base N qual scope f e A outer s H E with calm:=aF,xe:=λ_ _=>False}
section
variable{P:cQ}{w:cN}{K:aO}{mg:DZ}{base:bN}
theorem zju
 (S:wy N ps scope) (J:↑nH A outer s H) (O:pT vs=pT ps) (r:cM vs us)
 (x:InCallC s ↥s (uO (y6 qual scope ↥s f e).kindOf (ps.zip us) λq=>af) (og (↥s+1) scope.names []) (uN (y6 qual scope ↥s f e).kindOf (ps.zip us) λq=>af) j):
 Inv (↑Pt N qual scope f e A outer s H E) [] (Jc N vs) H j:=by
 have a:↑nH {A with handled:=af} outer s H:=(J.frames,J.mod,J.bs,J.nP,J.mc,J.oh,J.bQ,J.bare);have I:=dD (CX:=gx) (E:=E) S rfl a O r x;show((I.ok.mod,I.ok.kind,I.ok.glob,I.ok.blt,I.ok.above,I.ok.inj,I.ok.has,I.ok.uQ,(λz=>nomatch z),Around.frames_deeper J.frames,I.ok.A2,I.ok.sY,I.ok.bs,I.ok.nP,I.ok.u0,I.ok.sZ,I.ok.mc,I.ok.oh),I.os,I.bare,I.base,I.loc,I.cell,I.free,I.nz,I.pin,I.bQ,I.len)
end
def K_(K:aO)(c:Str):Bool:=match wF K c with
 |some C=>p9 K (.ref C)==aa (.type "type")&&mW K C (.type "BaseException")==aa ae&&(o6 K C).isSome&&g0.all λa=>match wF K a with
  |some b=>mW K b (.ref C)==aa (a==c)
  |none=>ae
 |none=>aF
structure XH(K:aO)(mg:DZ)(c:Str):Prop where
 ex:∃C,wF K c=aa C/\mg c=aa (.ref C)/\p9 K (.ref C)=aa (.type "type")/\mW K C (.type "BaseException")=aa ae/\(o6 K C).isSome=ae/\∀c2 C2,c2∈g0->wF K c2=aa C2->mW K C2 (.ref C)=aa (c2==c)
set_option tactic.hygienic true in
theorem UO{K:aO}(I:K.In h)(G:h.Ns gp j)(e:K_ K c):XH K j c:=by
 erw[K_]at e;split at e
 .rename_i C z
  simp?[eH,beq_iff_eq,k4]at e;let(((b,d),J),O):=e;show(C,z,lA I G z,b,d,J,λa i g f=>?_);have:=O a g;rw[f]at this;simpa using this
 lia
set_option tactic.hygienic true in
theorem zjB{K:aO}(X:K.In h)(I:aX h a C)(j:p9 K (.ref S)=aa (.type "type"))(B:mW K S (.type "BaseException")=aa ae)(H:(o6 K S).isSome)(U:mW K C (.ref S)=aa b):
 t6 M h (PB (.ref a)<|.ref S) b:=by
 have f:t6 M h (IZ<|.ref S) ae:=by
  let(w,z):=u9.mp H;erw[o6]at z;split at z
  .rename_i u x r t l
   intro m p o N k q;erw[IZ,loadHead];show aL<|Ux (k _ _<|X _ _ l)<|bW q
  lia
 have g:=Te (M:=M) X U;have i:t6 M h _ aF:=.of_pure tc_notTuple;intro A Q E s k q;let(G,F,y,P,L):=s;have J:=(ZK (M:=M) I).keeps k;have O:=(PySem.W.looks_typeIn (M:=M) X j).keeps k;have Y:=(Te (M:=M) X B).keeps k;have Z:=f.keeps k;have d:=g.keeps k;have e:=i.keeps k;erw[PB,isExcClass,PK];cases b with
 |true=>
  repeat (first|with_reducible show O.at ?_|with_reducible show e.at ?_|with_reducible show Z.at ?_|with_reducible show Y.at ?_|with_reducible show J.at ?_|with_reducible show d.at ?_|wp_step)
  show q
 |false=>
  repeat (first|with_reducible show O.at ?_|with_reducible show e.at ?_|with_reducible show Z.at ?_|with_reducible show Y.at ?_|with_reducible show J.at ?_|with_reducible show d.at ?_|wp_step)
  show q
structure _Z(X:Cx)(pins:TW)(U:St)(H0 H:Hp)(cc:Xn)(a:ak)(s:bB):Prop where
 ex:∃H' cU C φ,L2.Inv X pins U (upd H' a<|.ext φ) s/\Ext H0 H cU H'/\H' a=af/\Vl X.K=ae/\cc.1∈g0/\wF X.K cc.1=aa C/\Rep X.K (upd cU a<|.ext φ) (.exc cc.1 cc.2) (.ref a)/\aX s.heap a C/\(cc.2=af->∀g,φ g->mG a g)
 go:∀{A:ec} {E:EQ} {Q:Unit->bB->Prop},(∀s',(∃H' cU C φ,L2.Inv X pins U (upd H' a<|.ext φ) s'/\Ext H0 H cU H'/\H' a=af/\Vl X.K=ae/\cc.1∈g0/\wF X.K cc.1=aa C/\Rep X.K (upd cU a<|.ext φ) (.exc cc.1 cc.2) (.ref a)/\aX s'.heap a C/\(cc.2=af->∀g,φ g->mG a g))->Q ⟨⟩ s')->wpAny (aV X.prog X.w) A (pH (.ref a) af) Q E s
section
variable{X:Cx}
theorem Iv{Q:Flow->bB->Prop}{E:EQ}{t:eT Flow}(a1:X.stack=⋯::X.outer/\⋯.frame=aa ⋯.locals)(lf:Left X j U W H S Y σ)
 (h:∀a s,Y=.ref a->_Z X j U W H S a s->⇑X t Q E s):
 ⇑X (Dp Y ⋯) (λv s2=>⇑X (pH Y af) (λv s3=>⇑X t Q E s3) E s2) E σ:=by
 show aU λkZ=>?_;let(H1,n4,s1,Z,x1,a,C,p,od,rfl,(m,k,eC,xa,xm,xc,J,x2),as,av,aw,un,x,O,bf,(B,t',R,ax,a6)):=lf;obtain rfl:m=C:=(UC eC).symm;show kZ ?_;rw[a1.1]at R;have a7:∀I,n0 B (⋯::X.outer) a (.ref m) (.ref t') I->σ.heap.UpToSlots I->gB od a I->∃p k C G,L2.Inv X j U (upd p a<|.ext G) {σ with heap:=I}/\Ext W H k p/\p a=af/\_/\_/\wF X.K S.1=aa C/\Rep X.K (upd k a<|.ext G) (.exc S.1 S.2) (.ref a)/\aX I a C/\(S.2=af->∀g,G g->mG a g):=λI f sm dk=>by
  have obj:aX I a m:=by let(oe,F,v,v,v,e1,(e2,v),e3,v):=f.2.2.2;show(oe,F,e1,e2,e3)
  have bg:∀b,b∈hS X.stack->∃o,s1.heap.get? b=aa o/\_/\∃sl,I.get? b=aa {o with slots:=sl}:=λb l=>by let(v,o,q,nf):=Z.stack.mem l;let(sl,z):=un.slot b o q (Z.u4 b l) l ();let(b4,z'):=sm b _ z nf;show(o,q,nf,b4,z')
  show(p,k,m,λg=>aX g a m/\gB od a g,Z.F7 (ch:=[]) av (λb o q n l v=>f.1 b o<|a6 b o (un.keep b o q n l ()) () l,λb o q n l v=>?_,λb o q n v=>?_,λb o q v=>?_,λb xs q=>?_,λb o u q=>?_,λb ps q=>?_) ?_ aw (λv z=>nomatch z),x1.trans x2,O,xa,xm,xc,?_,obj,λh g z=>z.2.2<|by erw[Jo]at J;rw[h]at J;show J)
  .grind
  .rw[zC ((λb o q z=>by lia) b o q)];show un.free b o q n ()
  .by_cases l:b∈hS X.stack
   .grind
   .let(y,z):=un.there b o q ()
    show(y,f.1 b y<|a6 b y z () l)
  .have z:=un.m9 b xs q
   rw[zC (jd z O)];show z
  .have z:=un.mS b o u q
   rw[zC (jd z O)];show z
  .let(more,z):=un.mU b ps q
   show(more,by rw[zC (jd z O)];show z)
  .refine uM (yM x λb u n q=>f.1 b u<|ax b u q n) O (obj,dk) ?_ ?_
   .let(o,_,e,_):=obj;show(o,e)
   .rintro g1 g2 ⟨⟨o,F,e,r⟩,b6⟩ T
    show((o,F,T o e,r),b6.obj T)
  .refine((a,rfl,xa,xm,m,_,xc,zB,λv z=>z.1,?_))
   erw[Jo]at J;cases hc:S.2 with
   |none=>trivial
   |some i=>
    rw[hc]at J;let(d,b7,L):=J;show(d,λg z=>z.2.1 d b7,by rw[zC (λq=>by rw[q,x2.sub.free O]at L;lia)];show L)
 show um (by rw[<-a1.1];show Z.ok.frames) a1.2 R as λh4 b8 M b9=>?_;show uw b8 b9 λh5 ad N P=>h a _ rfl (a7 h5 ad (M.trans N) P,λ{A E Q} q=>FM ad P λh6 bb bd be=>q _<|a7 h6 bb ((M.trans N).trans bd) be)
end
section
variable{M:nM}{A:ec}{E:EQ}{s:bB}{env:eE}{outer:zn eE}{base:bN}{e L:ak}{cls a0:aN}{od:xz ak}{Q:Unit->bB->Prop}
theorem Su(B:env.frame=aa L)(z:sE base (env::outer) e cls a0 L s.heap)(j:gB od e s.heap)
 (I:∀h',n0 base outer e cls a0 h'->s.heap.UpToSlots h'->gB od e h'->Q ⟨⟩ {s with heap:=h'}):wpAny M A (zp env<|.ref e) Q E s:=by
 erw[zp];show aL<|wpAny_noteFrame_againW B z.2.2.2<|uw z j λh' a J O=>I h' (a.1,a.2.1,a.2.2.1.2.2,a.2.2.2) J O
theorem CV(H:sE B l e cls a0 L h)(J:∃o,B.get? C=aa o)(j:∀b o,b≠C->h.get? b=aa o->h'.get? b=aa o):sE (B3 B [C]) l e cls a0 L h':=by
 show aU λF=>?_;let(f1,O,p,Y,K,T,Z,G,u,k,a,s,f,m,t,r):=H;let(N,J):=J;show F ?_;have d b:B.get? b=af->b≠C:=λq z=>by lia
 have mr:(B3 B [C]).StaysIn B:=λb o q=>Uo _ q;have g b:B.get? b=af->(B3 B [C]).get? b=af:=λq=>by
  cases z:(B3 B [C]).get? b with
  |none=>rfl
  |some o=>rw[mr b o z]at q;cases q
 have zhS l:h.FunFrames B l->h'.FunFrames B l:=by
  induction l with
  |nil=>show λv=>trivial
  |cons M r E=>
   rintro⟨x,⟨I,o,w,i,y,a⟩,A⟩;show(x,(I,o,w,i,j I o (d I i) y,a),E A)
 show(λb o q=>j b o (λz=>?_)<|f1 b o<|mr b o q,g e O,PySem.W.funFrames_base mr<|zhS l p,Y,K,T,Z,G,j e Y (d e O) u,k,a,s,g T f,m,j T Z (d T f) t,r);rw[z,P_ [C] (mY.mpr rfl)]at q;cases q
theorem zjw(S:sE base (env::outer) e cls a0 L s.heap)(H:gB od e s.heap)
 (B:∀h',sE base (env::outer) e cls a0 L h'->s.heap.UpToSlots h'->gB od e h'->Q ⟨⟩ {s with heap:=h'}):wpAny M A (pH (.ref e)<|some L) Q E s:=by
 have step:wpAny M A (pH (.ref e)<|some L) (λc g=>∃h',g = {s with heap:=h'}/\sE base (env::outer) e cls a0 L h'/\s.heap.UpToSlots h') E s:=by
  show aU λm=>?_;let(f1,f2,j,p,t,T,u,r,f,h,O,d,i,Y,J,I,k):=S;show m ?_;have sz:=(Array.getElem?_eq_some_iff.mp k).1;erw[pH];show aL<|gv f O d ?_;rw[DJ ()];show Uv J I sz (_,rfl,?_);have a:∀b,b≠T->(s.heap.update T<|E8 λv=>v.setIfInBounds 3<|rawInt L).get? b=_:=λb l=>ni _ _<|dh l;have Z b o:s.heap.get? b=aa o->(∀v,o.data ≠ .fields v)->b≠T:=λq n z=>by rw[z,J]at q;cases q;show n r I
  show((λb o q=>(a b λz=>by lia).trans (f1 b o q),f2,j.of_keeps λb o q n=>(o,(a b<|Z b o q n).trans q,rfl),p,t,T,_,_,(a e<|dh Y).trans f,h,O,d,i,Y,oI _ J<|_y<|N1 I _,N1 I _,by simp[sz]),λb o q n=>(o.slots,(a b<|Z b o q n).trans q))
 show cT (vA (vc _ _) H step) (λc g z=>?_) λc c z=>z;let((h',rfl,x,y),w):=z;show B h' x y w
end
def U8(X:Cx)(z:ak)(I:Hp)(H:bB)(E:XK)(e:aN)(j:bB):Prop:=∃a C d f,e=.ref a/\E (.ref C) f d/\gB f a j.heap/\j.os=H.os/\oN j.gens/\Un (hS X.stack) [z] I d H.heap j.heap/\eX X.prog X.w d j.heap/\d a=af/\H.heap.get? a=af/\
 ∃B t,sE B X.stack a (.ref C) (.ref t) ⋯.locals j.heap/\(∀b o,j.heap.get? b=aa o->d b≠af->B.get? b=aa o)/\∀b o,j.heap.get? b=aa o->H.heap.get? b≠af->b∉hS X.stack->b≠z->B.get? b=aa o
section
variable{P:cQ}{w:cN}{K:aO}{mg:DZ}{base:bN}{N:zn Str}{qual:Str}{scope:cS}{f:ak}{cd:aN}{A:ec}{outer:zn eE}{s:bB}{H:Hp}{E:XK}
theorem zjp(I:Inv (Kt (gy P w) P w K mg base N qual scope f cd A outer s H E) j U S W)(Y:↥s<=O)
 (Z:U8 (Kt (gy P w) P w K mg base N qual scope f cd A outer s H E) O S W J e σ) (hE:∀c o H',J c o H'->E c o H'):(Kt (gy P w) P w K mg base N qual scope f cd A outer s H E).xe e σ:=by
 let(a,C,H',M,rfl,x,g,h,i,un,d,k,l,B,t,u,p,r):=Z;show Su rfl u g λL F G ad=>ZI I rfl un (λb o q m=>eS (hV (ei q) Y)<|mY.mp m) h i d k (YZ I rfl l) F G p (λb o z n m y=>r b o z n m<|by simpa using y) (hE _ _ _ x) ad
end
section
variable{M:nM}{A:ec}{E:EQ}{s:bB}{env:eE}
def FN(M:nM)(A:ec)(E:EQ)(z:eE)(r:F6)(e:bB):Prop:=∃x,r=.error x/\∃m,e.heap.Ns z.locals m/\∀a,pQ z.locals e.heap a->wpAny M A (passOn "comprehension.variables-let-go" x z:eT aN) (λ_ _=>False) E {e with heap:=a}
theorem zh3{gs:zn Comprehension}{B:zn (Str×ak)}{U:xz (aN->eT Unit)}{Q:EQ}
 (hc:clausesOf e=g::gs) (hi:∀x,ij g.iter env x=pure x) (W:f_ scope env=pure B) (hk:scope.kind=.function) (hn:∀x∈scope.names,x.2=.local->scope.names.lookup x.1=aa .local)
 (h:wpAny M A J (λx O=>wpAny M A (zv x) (λH Y=>wpAny M A mk (λj Z=>wpAny M A (P6 scope env.globals B [] env.qual af .none (aa env)) (λI S=>
   codeAny M A (.compStart e 0 H j {I with scope:=nD scope env}) (FN M A E {I with scope:=nD scope env}) S) E Z) E Y) E O) E s):
 wpAny M A (Pn e scope env pos mk aF J U) Q E s:=by
 erw[Pn];rw[W,hc];show aL<|cT h (λx O f=>?_) λq q z=>z;show aL<|ou<|aL<|mu (hi x)<|aL<|hG<|cT f (λH Y i=>?_) λq q z=>z;show wpAny_standIf<|aL<|cT i (λj Z k=>?_) λq q z=>z;show aL<|bW<|aL<|cT k (λI S l=>?_) λq q z=>z;dsimp only;show hG<|aL<|oK<|hG<|wpAny_run<|pS l λr w o=>?_;let(x,rfl,m,a,b):=o;show aL<|hG<|wpAny_comp_letGo hk _ w m (λy t p=>lookup_relabel_local<|hn y (o5.mp<|List.mem_reverse.mp t).1 p) a λd C q u=>cT (b d u) (λq q z=>z.elim) λq q z=>z
end
theorem NG(I:Nat->bB->Prop)(O:J=P9 (aV prog w) A env λe t=>R (.error e) t)
 (Y:∀n s,I n s->wpAny (aV prog w) A (oU S) (λr t=>∃v,r=aa v/\wpAny (aV prog w) A (zr kq S v) (λq t=>wpAny (aV prog w) A (pb kq env v) (λq t=>wpAny (aV prog w) A (bH B env) (λx t=>
   wpAny (aV prog w) A (call (.builtin "list.append") [j,x]) (λq t=>∃m,m<n/\I m t) J t) J t) J t) J t) J s) (n) (h:I n s):
 codeAny (aV prog w) A (.compLoop (.ListComp B [(kq,H,[],0)] scope pos) 0 S j env) R s:=by
 subst O;show codeAny_loop rfl I (λn s Z=>?_) n h;show(wpAny_noted ?_);rw[compTurn_list1];show aL<|ou<|aL<|cT (Y n s Z) (λr a z=>?_) λq q z=>z;let(v,rfl,z):=z;show aL<|cT z (λq b z=>aL<|cT z (λq d z=>aL<|aL<|cT z (λx f z=>aL<|cT z (λq g z=>bW<|bW (rfl,z)) λq q z=>z) λq q z=>z) λq q z=>z) λq q z=>z
def U7(J:It)(g:TG)(te:TE)(D:ak)(W:Nat->Nat->zn V->St->Hp->Prop):Prop:=
 ∀i m a e H,W i m a e H->H D=aa (.lst a)/\J.go i H/\(pT a)<cP/\∀x b,J.nT i H x b->g x e b λz f=>te z f λv I=>I D=aa (.lst a)/\∃d,d<m/\W (i+1) d (a++[v]) z (upd I D<|.lst<|a++[v])
theorem As{own:zn Str}{fr:zn (Str×Nat)}{fp:zn ak}{it:ak}{tn:Nat->bN->Prop}{J:It}{σ tg H:bE}{pos:cH}{g:TG}{te:TE}{E Ee:EQ}{R:eE->F6->bB->Prop}
 (hc:X.calm) (I:Inv X S U B j) (ok:mQ X scope fr) (T:Turn X.prog X.w X.K tg J fp it tn) (st:tn 0 j.heap) (a8:∀b∈fp,XT X S B b)
 (hg:PG (jt X scope (own++fr.map (·.1)) fp j B) tg g) (he:PE ((jt X scope (own++fr.map (·.1)) fp j B).cY Ee) σ te)
 (hR:∀e s',Ee e s'->P9 (aV X.prog X.w) X.A (yj scope ⋯<|↥j+1) (λe s'=>R (yj scope ⋯<|↥j+1) (.error e) s') e s')
 (hW:∀D,B D=af->∃W,(∃m,W 0 m [] (pw own fr U) (upd B D<|.lst []))/\U7 J g te D W):
 ⇑X (P7 []) (λacc zkL=>⇑X (P6 scope ⋯.globals (mh ⋯.cells scope.names []) [] ⋯.qual af .none (aa ⋯)) (λa9 zkM=>
  codeAny (aV X.prog X.w) X.A (.compStart (.ListComp σ [(tg,H,[],0)] scope pos) 0 (.ref it) acc {a9 with scope:=nD scope ⋯}) (R {a9 with scope:=nD scope ⋯}) zkM) E zkL) E j:=by
 have ac:∀b∈fp,∃o,_=aa o:=λb a=>by let(o,e,q):=T.obj 0 _ st b a;show(o,e)
 have C:=lM (own:=own) I ok a8 ac;show aU λO=>?_;let(W,(m0,w0),cw):=hW _ I.fresh;show O ?_;show nq<|xf ?_;have ad:tn 0 (sa ((j.heap.push Be).push IR) scope.names):=T.keep 0 _ _ st λb q o e=>D7 _ _ b o<|cW _<|cW _ e;have b7:∀b∈fp,b<_:=λb a=>by let(o,e):=ac b a;show ei e
 have al:∀{k},(∀b∈fp,k b=af)->∀b∈fp,XT _ [] k b:=λhn b a=>
  (hn b a,(C.ok.sY b a).1,C.ok.sZ b a,.inl a,(C.ok.sY b a).2,λp hp=>absurd (show p∈([])from hp) ())
 have am:codeAny (aV X.prog X.w) X.A (.compLoop (.ListComp σ [(tg,H,[],0)] scope pos) 0 (.ref it) (.ref ↥j)<|yj scope ⋯<|↥j+1) (R<|yj scope ⋯<|↥j+1) {j with heap:=sa ((j.heap.push Be).push IR) scope.names}:=by
  show NG (λn s'=>∃i G l k,Inv _ [] l k s'/\tn i s'.heap/\(∀b∈fp,k b=af)/\W i n G l k) rfl ?_ m0
   (0,[],_,_,C,ad,λb a=>by rw[zC (eS<|b7 b a)];show(a8 b a).1,w0)
  rintro n s3 ⟨i,G,h,P,I3,bb,bd,w3⟩;show aU λO=>?_;let(hD,go,hz,step):=cw i n G h P w3;show O ?_;show cy (T.item (jt X scope _ fp j B) rfl rfl rfl hc i [] s3 h P _ I3 (al bd) bb go) λr s4 Y=>?_;let(u,hr,h4):=Y;show(u,hr,cy h4 λq s5 Y=>?_);show aU λO=>?_;let(x,Q,I5,r5,y5,M,bv):=Y;show O ?_;show cT (hg _ s5 h Q x u _ (I5.pinned (al bv)<|T.obj _ _ M) r5<|step x Q y5) (λq s6 Y=>?_) λq q z=>z.elim;show aU λO=>?_;let(s,H6,I6,q6):=Y;show O ?_;have after:∀{t}{y}{F},Inv (jt X scope (own++fr.map (·.1)) fp j B) ([]++_) t y F->_/\∀b∈fp,y b=af:=λ{t y F} Z=>by show(T.keep _ _ _ M λb a o e=>(Z.pin (b,o)<|ix _<|ix _<|yp a e).1,λb a=>?_);let(o,e,d):=T.obj _ _ M b a;show(Z.pin (b,o)<|ix _<|ix _<|yp a e).2.1
  show cT (he _ s6 s H6 _ (I6.cY _) q6) (λv8 F Y=>?_) hR;show aU λO=>?_;let(x8,y,Z,r8,aw,m',hm,w8):=Y;have Z:=Z.gL;let(zlR,cb,n8,rv,cn,N):=Z.rK aw;show O ?_;show nZ _t (_,N,rfl) _p (_M _ _) (_k _ cb.toArray n8 v8<|by rw[eW];lia) (N,?_);have L:=Z.LA (f:=(·.push v8)) (t':=F.toks) aw N () (rv.append<|.cons r8 .nil) (by rw[mK,A8];lia);show(m',hm,i+1,G++[x8],s,_,L.A5,(after L).1,(after L).2,w8)
 have ee:({({scope:=scope,locals:=(j.heap.push Be).objs.size,globals:=⋯.globals,cells:=og ((j.heap.push Be).objs.size+1) scope.names<|mh ⋯.cells scope.names [],qual:=⋯.qual,func:=af,code:=⋯.code,frame:=⋯.frame,builtins:=⋯.builtins}:eE)with scope:=nD scope ⋯})=yj scope ⋯ (↥j+1):=by rw[(l6 ..)];rfl
 rw[ee];show(zhc am<|T.self _ 0 _ _ _ ad am)
def fz(T:Tg)(e:CO Xn)(f:CO D)(M:Ctx):zn D->xz Xn
 |[]=>af
 |d::ds=>(qy T d M).bind λz=>match e z with
  |some c=>aa c
  |none=>(f z).bind λ_=>fz T e f M ds
def FW(e:CO (zn D))(T:Tg)(n:Nat)(fr:zn Nat)(j:CO Xn)(f:CO D):CO Xn:=λb=>(e b).bind λa=>if (pT a)<=lim then fz T j f (jj n fr b) a else af
def LP(G:zn D->xz Xn)(g:CO (zn D))(c1 e:Str)(f:CO D):CO Xn:=λa=>(g a).bind λb=>(G b).bind λc=>if c.1=c1/\c.2=af then ((f a).bind gP).bind λi=>if inR i then aa (e,aa i)else af else af
abbrev XE(X:Cx)(c:Xn)(n4 H1:Hp):XK:=λcls od H'=>∃C cU,cls=.ref C/\Vl X.K/\c.1∈g0/\wF X.K c.1=aa C/\Jo c od cU/\Ext n4 H1 cU H'
def xC(X:Cx)(I J:Hp)(c:Xn):Prop:=XW X I J c/\(∀g O h f i e l Y,Inv X g O h i->Ext I J f h->X.fy.heap.objs.size<=Y->U8 X Y h i (XE X c f h) e l->X.xe e l)/\
 (∀g O h f i j a C d t Z z o k p,Inv X g O h i->h a=aa (.ext p)->i.heap.get? a=aa Z->Z.data=.fields o->(∀b,b≠a->j.get? b=i.heap.get? b)->j.get? a=aa z->z.cls=.ref C->z.dict=aa d->z.data=.fields k->k[1]? = aa .none->k[0]? = aa (.ref t)->(X.ex=[]->X.fy.heap.get? a=af)->
   Ext I J f (λb=>if b=a then af else h b)->Vl X.K->c.1∈g0->wF X.K c.1=aa C->Jo c (aa d) f->X.xe (.ref a) {i with heap:=j})/\
 ∀m,PassesOwnAt (aV X.prog X.w) (X.A.mark m) X.A ⋯ X.xe
def xh(X:Cx)(st:de)(G:CO Xn):Prop:=∀a s d H z I e b c,Inv X a d H s->RS X.K z I e H d b->G b=aa c->xC X z I c->
 ⇑X (exec st ⋯) (λ_ _=>False) X.xe s
def Ls(X:Cx)(e:zn de)(G:CO Xn):Prop:=∀a s d H z I f b c,Inv X a d H s->RS X.K z I f H d b->G b=aa c->xC X z I c->
 ⇑X (execs e ⋯) (λ_ _=>False) X.xe s
section
variable{X:Cx}{st:de}{rest:zn de}{G G':CO Xn}{F:CO Fl}
theorem KS(h:Px X st G):xh X st G:=λa s g H z J b f c I d e w=>h a s g H z J b f c I d e w.1
theorem Ho(h:ra X j G):Ls X j G:=λa s g H z J b f c I d e w=>h a s g H z J b f c I d e w.1
theorem Kk(h:xh X st G):Ls X (st::rest) G:=λa s g H J O b f c I d e w=>
 nX (cT (h a s g H J O b f c I d e w) (λq q z=>z.elim) λq q z=>z)
theorem yx(B:xh X st G)(S:fH X.eQ st F)(U:Ls X rest G'):Ls X (st::rest) (vz G F G'):=λb s m H J O j i c I l e w=>by
 erw[vz]at e;cases q:G i with
 |some t=>
  rw[q]at e;cases e;show Kk B b s m H J O j i c I l q w
 | none=>
  rw[q]at e;let(p,o,k):=zc e;cases p with
  | next g=>
   show nX<|cT (S b s m H {nx:=λd h=>∃a,RS X.K J O a h d g,rt:=λx x=>False} (I.cY _) (J,O,j,i,.next g,l,o,λd h a Y=>(a,Y))) (λf r z=>?_) λx x z=>z.elim;cases f with
   |next=>
    let(d,h,Z,a,Y):=z;show U b r d h J O a g c Z.gL Y k w
   |ret v=>let(x,x,x,x,x,z):=z;show z.elim
   |brk=>let(x,x,x,z):=z;show z.elim
   |cont=>let(x,x,x,z):=z;show z.elim
  |_=>cases k
end
theorem IJ{K:aO}{σ:DZ}{st:de}{N ps:zn Str}{k:Nat}{G:CO Xn}(A:cJ K σ x st ps)(hd:Zp N ps st=ae)
 (ap:∀X,X.prog=P->X.w=w->X.K=K->X.mg=σ->X.base=base->SX X (zR st) N N k->(X.stack=⋯::X.outer/\⋯.frame=aa ⋯.locals)->Ls X (jL st) G):fC P w K σ base (k+1) x (pT ps) (ZE (pT N) G):=by
 let(f,fd,Fu,hb,hm):=A.ex;have S:=kz hd;have b9:=by have:=congrArg pT S.pre;rw[E7]at this;omega
 show(f,fd,ps,rfl,?_,hm,Fu.kp,.all hb);show aU λF=>?_;let(oc,od,kV,doc,pm,an,Dg,ct,tL,rfl,lk,as):=Fu.ex;show F ?_;show Ec lk as S (pJ.len rfl) λA outer s H vs Q E hr aw=>(λq U h=>U=Jc N vs/\h=H,λl s1 U H1 D I B=>?_,rfl,rfl);show aU λF=>?_;let(rfl,rfl):=B;let(H0,ds,c,s0,h1,h2,h3,h4):=aw;show F ?_;show cT (ap _ rfl rfl rfl rfl rfl (rfl,rfl,S.nd,rfl,hr,λq q=>.inl rfl) (rfl,rfl) l s1 _ H1 H0 H1 H0 _ c I (JI s0 h1 ()) h3 ((λu b i Y y h' a C us J O Z p m r j=>Xg J j<|h4 C i Y af Z p m (by erw[Jo];rw[r]) O,λu b i Y y e s' J O j=>?_,λu b i Y y a C d t φ J L M R O Z p m r=>Xh J L M (R rfl)<|h4 C _ Y (aa d) Z p m r O),λu b i Y y e s' zl1 J O hC j=>?_,λu b i Y y h' a C d t oa oe znP vs φ J L M R y4 y5 zlN y7 zlO zlP b7 b8 O Z p m r=>YC J L M R y4 y5 zlN y7 zlO zlP b7 (b8 rfl)<|h4 C _ Y (aa d) Z p m r O,λhd=>PassesOwnAt.leaving)) (λq q z=>z.elim) λq q z=>z
 .refine wm J j λcc o h z=>?_
  let(C,g,rfl,T,W,z3,z4,z5):=z;show h4 C h g o T W z3 z4<|O.trans z5
 .refine zjp J hC j λcc o h z=>?_
  let(C,g,rfl,T,W,z3,z4,z5):=z;show h4 C h g o T W z3 z4<|O.trans z5
def Pd(X:Cx)(e:bE)(j:CO Xn):Prop:=∀a s b H d g f,Inv X a b H s->RC X.K d H b g->j g=aa f->⇑X (bH e ⋯) (λ_ _=>False) (Left X a b d H f) s
theorem BX(Y:⇑fC j x n G)(z:j<=k)(h:SX X S N L k)(c:qz S x)(U:i6 X.eQ (e::B) n g)
 (W:ck (e::B) ⋯=(aF,bH e ⋯)::ck B ⋯:=by rfl) (J:(ft pos<|starEach B ⋯).any (·.1)=aF:=by rfl):Pd X (.Call (.Name x p) (e::B) [] pos) (qF G g):=λa s r H i o l I f O=>by
 let(m,b,d):=zc O;show YO Y z h c U I f b d W J
def iq(T:Tg)(G:CO Xn)(F:CO Fl):zn D->CO Xn
 |[],_=>af
 | d::a,M=>(qy T d M).bind λI=>match G I with
  |some c=>aa c
  |none=>(F I).bind λb=>match b with
   |.next z=>iq T G F a z
   |.cont z=>iq T G F a z
   |_=>af
def TC(e:CO (zn D))(T:Tg)(G:CO Xn)(F:CO Fl):CO Xn:=λa=>(e a).bind λb=>iq T G F b a
section
variable{X:Cx}{tg iter:bE}{body:zn de}{pos:cH}{src:CO (zn D)}{T:Tg}{F:CO Fl}{G:CO Xn}
def tXS(K:aO)(z I:Hp)(G:CO Xn)(F:CO Fl)(c:Xn):TS:=λD b H=>(∃d a,RS K z I d H b a/\G a=aa c)\/tS K F D b H
theorem MT(Z:Ls X body G)(j:eM X.eQ body F)(w:xC X J O c):gj X body (tXS X.K J O G F c):=by
 intro a s b H D I Y;rcases Y with⟨d,g,f,e⟩|Y
 .exact cT (Z a s b H J O d g c I f e w) (λq q z=>z.elim) λq q z=>z
 .exact cT (j a s b H D (I.cY _) Y) (λh i z=>z.gL) λq q z=>z.elim
theorem Hq(hc:X.calm)(S:ed X tg iter src)(hg:PG X tg (il X.K T))(B:Ls X body G)(hb:eM X.eQ body F)(hs:∀x,ij iter ⋯ x=pure x:=by intro _;rfl):xh X (.For tg iter body [] pos) (TC src T G F):=λk s o H F0 p j h c I e eq w=>by
 let(b,W,eq):=zc eq;show cT (iX (by
  have h1:=w.2.2.2 af;assumption) hc S hg (MT B hb w) hs k s o H {nx:=λV V=>False,rt:=λV V=>False} I (j,h,b,e.rc,W,λJ H1 a x1 N=>?_)) (λfl s' z=>?_) λV V z=>z
 .have Z:=e.step x1
  have L:=Z.ext;show(λi m o H=>m=pT b-i/\i<=pT b/\∃j h,RS X.K a p j H o h/\iq T G F (b.drop i) h=aa c,(_,rfl,g8 _,a,h,(Z.rc,L.base,Z.fresh,Z.m5),eq),?_);rintro i m o H ⟨rfl,S,j,h,e,O⟩;have E:=e.ext.s0.trans e.ext.sub;have Y:i<pT b:=by
   rcases gu i (pT b) with z|z
   .exact z
   .rw[DM z]at O;cases O
  show .inr (N.go i H E Y,λo H=>_/\_,λmO C n=>(_,(),rfl,n.1,n.2),λx C y=>?_);show aU λkZ=>?_;let(d,M,B):=N.nT i H x C E Y y;let(A,P,rg):=B j e.ext.s0 e.rc.sub;show kZ ?_;have R:b.drop i=d::b.drop (i+1):=by
   have aw:=by rw[eO Y]at M;show(l8 M).symm
   simp_all
  rw[R]at O;let(f,eb,O):=zc O;show vP P.sub rg eb λB8 V U=>?_;have l:=U a p<|e.step P;cases q:G f with
  |some c'=>
   rw[q]at O;cases O;show .inl (A,f,(l.rc,L.rebase l.ext,l.fresh,l.m5),q)
  |none=>
   rw[q]at O;let(f1,eF,O):=zc O;show .inr (a,p,A,f,f1,l,eF,?_);cases f1 with
   |next g=>show λu Q r t=>(Y,r,g,t,O)
   |cont g=>show λu Q r t=>(Y,r,g,t,O)
   |_=>cases O
 .cases fl with
  |next=>let(V,V,V,z):=z;show z.elim
  |ret v=>let(V,V,V,V,V,z):=z;show z.elim
  |brk=>let(V,V,V,z):=z;show z.elim
  |cont=>let(V,V,V,z):=z;show z.elim
end
theorem zg9{j:TW}{N':zn Str}{fp:zn ak}{c:Xn}{e:aN}(Z:X.stack=⋯::X.outer/\⋯.frame=aa ⋯.locals)(W:Inv X j U H2 S)(a7:∀b∈fp,XT X j H2 b)(w:xC X F0 F1 c)
 (hE:∃ao σ a9 H8,Ext F0 F1 a9 H8/\Left (jt X scope N' fp S H2) ao σ a9 H8 c e H):
 P9 (aV X.prog X.w) X.A (yj scope ⋯<|↥S+1) (λe H=>FN (aV X.prog X.w) X.A X.xe (yj scope ⋯<|↥S+1) (.error e) H) e H:=by
 show aU λi=>?_;let(ao,σ,a9,H8,x8,M,E,s,J,xx,a,C,L,od,rfl,bf,bg,bi,bl,un,bQ,bn,bv,(B,t,r,as,O)):=hE;have un:=un;have O:=O;have r:n0 B X.stack a (.ref C) (.ref t) H.heap:=r;have bQ:=bQ;have F:=W.F7 J.os J.base J.bQ J.bare<|λb d=>((a7 b d).2.2.2.1,(a7 b d).2.1,(a7 b d).2.2.2.2.1,(a7 b d).2.2.2.2.2);let(I,f):∃I,I=↥S+1:=(_,rfl);show i ?_;rw[<-f];have N:M I=af:=by rw[f];show J.free
 show aU λi=>?_;let(m,bx):∃m,s.heap.Ns I m:=by rw[f];let(m,hn,v):=J.loc;show(m,hn)
 let(Y,es,ep,P,hr):=bx;show i ?_;have Q b:b∈hS X.stack->b≠I:=λd=>by let(v,o,q,G):=W.stack.mem d;rw[f];show eS<|nF<|ei q
 have R:=λh=>Q I h rfl;have bC:=O I Y (un.keep I Y P N R ()) () R;have c4:=un.free I Y P N ();rw[Z.1]at r;erw[P9];show(show wpAny _ X.A (Dp (.ref a) ⋯) _ _ H from um (by rw[<-Z.1];show W.ok.frames) Z.2 r bg λh4 T c5 c8=>?_);show(.ref a,rfl,m,(Y,es,ep,T.1 I Y bC,hr),λh5 l=>?_);have l b o:b≠I->h4.get? b=aa o->h5.get? b=aa o:=λn q=>(l.2 b n).trans q;have b3:=CV T (Y,bC) l;erw[PySem.passOn];have c9:=b3;show aU λi=>?_;let(v,v,v,oe,vs,znm,znM,ts,he,cn,ca,h1,v):=c9;show i ?_;show aL<|gv he ca h1 ?_;rw[DY ()];have co:⇑X (do pH (.ref a) ⋯.frame;(throw (.ref a):eT aN)) (λv v=>False) X.xe {H with heap:=h5}:=by
  rw[Z.2];show aL (cT (by
  show zjw b3 (c8.obj λo q=>l a o (λz=>by lia) q) λh6 b4 cb cc=>?_;have st:=λb o q n=>b4.1 b o<|vr [I] q (~~~n);have G:∀b,b∈hS X.stack->∃o,s.heap.get? b=aa o/\_/\∃K,h6.get? b=aa {o with slots:=K}:=λb d=>by let(v,o,q,n):=F.stack.mem d;let(K,z):=un.slot b o q (F.u4 b d) d ();let(cq,y):=c5 b _ z n;let(ce,zlQ):=cb b _ (l b _ (Q b d) y) n;show(o,q,n,ce,zlQ)
  show w.2.1 j U M E s _ _ I F (x8.trans xx) (by rw[f];show N2 W.sz) (a,C,L,od,rfl,bf,cc,bi,bl,(λb o q n d g=>st b o (O b o (un.keep b o q n d ()) () d) (~~~g),λb o q n d g=>?_,λb o q n g=>un.free b o q n (),λb o q g=>?_,un.m9,un.mS,un.mU),yM bQ λb u n q=>st b u (as b u q n) λz=>n (by rw[z];show c4),bn,bv,B3 B [I],t,?_,λb o q n=>?_,λb o q n d hc=>?_)
  .let(k,q',_,z):=G b d
   rw[q]at q';cases q';show z
  .by_cases d:b∈hS X.stack
   .let(k,_,_,K,z):=G b d
    show(_,z)
   .let(k,z):=un.there b o q ()
    show(k,st b k (O b k z () d)<|by simpa using g)
  .rw[Z.1];show b4
  .cases q1:L b with
   |none=>show absurd q1 n
   |some u=>
    have nb:b≠I:=λz=>by lia
    let(o1,z):=yI<|bQ b u q1;have x:=as b o1 z ();have p:=st b o1 x nb;rw[q]at p;cases p;show vr [I] x (~~~nb)
  .cases q1:s.heap.get? b with
   |none=>show absurd q1 n
   |some o0=>
    let(o2,x):=un.there b o0 q1 ();have p:=O b o2 x () d;have y:=st b o2 p hc;rw[q]at y;cases y;show vr [I] p (~~~hc)) (λv t z=>wpAny_throw z) λv v z=>z)
 assumption
section
variable{X:Cx}{scope:cS}{own:zn Str}{fr:zn (Str×Nat)}{elt tg iter:bE}{pos:cH}{src:CO (zn D)}{T:Tg}{f:CO D}{Gx:CO Xn}
def tXV(K:aO)(z I:Hp)(Gx:CO Xn)(f:CO D)(c:Xn):TE:=λd H Q=>(∃a b,RC K a H d b/\Gx b=aa c/\Ext z I a H)\/tV K f d H Q
theorem Wh{be:xz (aN->eT Unit)}{Q:EQ}{σ:TW}{U:St}{H F0 F1 H0:Hp}{M:Ctx}{c:Xn}(hc:X.calm)(bf:X.stack=⋯::X.outer/\⋯.frame=aa ⋯.locals)(ok:mQ X scope fr)(hT:∀i∈T.idx,i<pT own)(hi:m2 X tg iter src)
 (hg:∀fp S B,PG (jt X scope (own++fr.map (·.1)) fp S B) tg<|il X.K T) (he:∀fp S B,PV (jt X scope (own++fr.map (·.1)) fp S B) elt f) (hx:∀fp S B,Pd (jt X scope (own++fr.map (·.1)) fp S B) elt Gx)
 (I:Inv X σ U H s) (rs:RS X.K F0 F1 H0 H U M) (Y:FW src T (pT own) (fr.map (·.2)) Gx f M=aa c) (w:xC X F0 F1 c) (hs:∀x,ij iter ⋯ x=pure x:=by intro _;rfl):
 ⇑X (Pn (.ListComp elt [(tg,iter,[],0)] scope pos) scope ⋯ (firstIterPos [(tg,iter,[],0)] pos) (P7 []) aF (bH iter ⋯) be) Q X.xe s:=by
 let(a,e1,Y):=zc Y;by_cases hl:pT a<=lim
 case neg=>rw[DY hl]at Y;cases Y
 rw[DJ hl]at Y;show zh3 rfl hs (J6 λn hn=>I.ok.has n<|ok.free (n,.free) hn rfl) ok.kind (λx hx e=>by rw[<-e];show vK ok.nd hx) ?_;show cy (hi σ s U H (λJ L=>∀D,L D=af->∃W,(∃m,W 0 m [] (pw own fr U) (upd L D<|.lst []))/\U7 J (il X.K T) (tXV X.K F0 F1 Gx f c) D W) I (H0,M,a,rs.rc,e1,λJ L p N wk D hD=>?_)) λv s1 h1=>cy h1 λcs S h2=>?_
 .have a9:∀(i:Nat) es,(jj (pT own) (fr.map (·.2)) M)[i]? ≠ aa (.own es):=λi es h=>by rcases qt h with z|⟨d',j,z,_⟩<;>cases z
  have ac:∀(i:Nat) C,(jj (pT own) (fr.map (·.2)) M)[i]? ≠ aa (.nest C):=λi es h=>by rcases qt h with z|⟨d',j,z,_⟩<;>cases z
  have b0:=jl N.sub hD;show(λi m ys F k=>m=pT a-i/\(pT ys)<=i/\k D=aa (.lst ys)/\∃b,RC X.K b k F _/\b D=af/\Ext p L b k/\fz T Gx f (jj (pT own) (fr.map (·.2)) M) (a.drop i)=aa c,
   (_,rfl,cV _,zB,p,((rs.rc.ext N).pull).upd b0 a9 ac,b0,Ext.hide N.sub hD _,Y),?_)
  rintro i m ys F k ⟨rfl,hy,ad,b,b1,bv,E,O⟩;have al:i<pT a:=by
   rcases gu i (pT a) with z|z
   .exact z
   .rw[DM z]at O;cases O
  show(ad,wk.go i k E.s1 al,by have:=vw<|cV lim;lia,λx bx y=>?_);show aU λt=>?_;let(d,hd,hx):=wk.nT i k x bx E.s1 al y;let(G0,Z,rg):=hx b E.s0 b1.sub;show t ?_;have c4:a.drop i=d::a.drop (i+1):=by
   have cv:=by rw[eO al]at hd;show(l8 hd).symm
   simp_all
  rw[c4]at O;show aU λt=>?_;let(g,eb,O):=zc O;have b3:=Z.s1 _ _ ad;let(bl,bg):=YY eb;show t ?_;have c5:∀{G:St} {G2 B:Hp},RC X.K G2 B G g->RC X.K G2 B G _:=λr=>r.weak bl.symm (λj d' hj=>by
   by_cases hm:j∈T.idx
   .rcases qt hj with z|⟨d2,j2,_,hn,_⟩
    .cases z
    .exact absurd (hT j hm) ()
   .rw[bg j hm];show hj) a9 ac
  show vP Z.sub rg eb λB8 c8 V=>?_;have am:=c8<|b1.ext Z;cases q:Gx g with
  |some c'=>
   rw[q]at O;cases O;show .inl (G0,g,am,q,rs.ext.trans<|N.trans<|E.trans Z)
  |none=>
   rw[q]at O;let(e,ee,O):=zc O;show .inr (G0,g,e,am,ee,λv H4 ca P r4=>?_);have b6:=P.new D (Z.new D bv<|by rw[ad];simp) (by rw[b3];simp);have cb:=P.s1 _ _ b3;have R:=E.trans<|Z.trans P;show(cb,_,(),rfl,by rw[mK,A8];lia,zB,ca,(c5<|am.ext P).upd b6 a9 ac,b6,(R.s0,λc o z=>by rw[zC (λw=>by lia)];show R.s1 c o z,λc o z=>by rw[zC (λw=>by lia)];show R.sub c o z,R.new),O)
 .refine aU λt=>?_;let(it,fp,tn,J,B,e,I2,Tn,ce,f2,hW):=h2
  show t ?_;subst e;show As (Ee:=λe γ=>∃ci _U cl H8,_/\Left (jt X scope (own++fr.map (·.1)) fp S B) ci _U cl H8 c e γ) hc I2 ok Tn ce f2 (hg fp S B) ?_ (λe γ z=>zg9 bf I2 f2 w z) hW;intro an s7 l H7 Q7 I7 hz;rcases hz with⟨bd,zlY,co,e7,x7⟩|hz
  .exact cT (hx fp S B an s7 l H7 bd zlY c I7.gL co e7) (λV V z=>z.elim) λe γ z=>(an,l,bd,H7,x7,z)
  .refine cT (he fp S B an s7 l H7 Q7 I7.gL hz) (λu γ z=>?_) λV V z=>z.elim
   let(v,k,I',r,q):=z;show(v,k,I'.cY _,r,q)
theorem zhQ(B:X.calm)(z:X.stack=⋯::X.outer/\⋯.frame=aa ⋯.locals)(ok:mQ X scope fr)(J:∀i∈T.idx,i<pT own)(U:m2 X tg iter src)
 (O:∀fp j e,PG (jt X scope (own++fr.map (·.1)) fp j e) tg<|il X.K T) (S:∀fp j e,PV (jt X scope (own++fr.map (·.1)) fp j e) elt f) (Y:∀fp j e,Pd (jt X scope (own++fr.map (·.1)) fp j e) elt Gx)
 (hs:∀x,ij iter ⋯ x=pure x:=by intro _;rfl):xh X (.Assign [.Name y py] (.ListComp elt [(tg,iter,[],0)] scope pos) spos) (FW src T (pT own) (fr.map (·.2)) Gx f):=λd s o H h k l m c I g Z w=>by
 let(b,a):∃b,hU (.ListComp elt [(tg,iter,[],0)] scope pos) (aa (.Name y py)) spos.line ⋯=pure b:=(_,rfl);cases b with
 |false=>
  show Ul ?_ a;rw[eval_ListComp];show Wh B z ok J U O S Y I g Z w hs
 |true=>
  rw[zhL _ _ _ _ a];show aL<|ou<|aL<|(aL<|Wh B z ok J U O S Y I g Z w hs)
end
theorem zgE:Dj Dw "proto.unchain" = aa Builtin.«proto.unchain» :=entryFor_of_fast (by kernel_rfl)
def Ui(C d t z:ak):e9:=(.ref C,aa d,.fields #[.ref t,.none,.ref z,.none,.bool ae,.none],#[])
section
variable{prog:cQ}{wd:cN}{A:ec}{E:EQ}{env:eE}
variable{nm q:Str}{C N:ak}{bs bm:zn aN}{hdct:Bool}{sn:zn Str}{sub:zn aN}{ab:Bool}{col:xz Bool}{dd:xz ak}{k0 k1 k2 k3 k5:xz aN}{newId:String}
theorem zhP(J:A.handled=aa (.ref I))(B:e≠I)(O:mG I s.heap)(j:s.heap.get? e=aa (.ref C,aa d,.fields #[.ref t,.none,.none,.none,.bool ae,.none],#[]))
 (h:∀h',(∀b,b≠e->h'.get? b=s.heap.get? b)->h'.get? e=aa (Ui C d t I)->E (.ref e) {s with heap:=h'}):wpAny (aV prog wd) A (R0<|.ref e) Q E s:=by
 erw[R0];show aL<|wpAny_handled ?_;rw[J];have g:(i3 I != i3 e):=()
 simp?[g,if_true];let(o,i,Y,f,a):=O;show aL<|hG<|wpAny_runValue<|vk zgE ?_;dsimp only;show aL<|gv Y f a ?_;show aL<|bW ?_;show bW ?_;show aL (cT ((by
  show Uv j rfl (by change 2<6;decide)<|h _ (λb n=>ni _ _<|dh n)<|oI _ j rfl)) (λq t z=>wpAny_throw z) λq q z=>z)
theorem ziW(B:bm.contains (.type "BaseException"))(Y:A.handled=aa (.ref J))(hc:∀R t,R .none t->wpAny (aV prog wd) A c R E t)
 (h:wpAny (aV prog wd) A x (λv I=>∃e t d,v=.ref e/\e≠J/\I.heap.get? C=aa (zd nm q C N bs bm hdct sn sub ab col dd k0 k1 k2 k3 k5 newId)/\I.heap.get? e=aa (Wf C (aa d) t)/\mG J I.heap/\C≠e/\
   ∀h',(∀b,b≠e->h'.get? b=I.heap.get? b)->h'.get? e=aa (Ui C d t J)->E (.ref e) {I with heap:=h'}) E s):
 wpAny (aV prog wd) A (R1 env (aa x)<|some c) Q E s:=by
 have Z:(i3 C::bm).contains (.type "BaseException"):=by assumption
 erw[R1];show aL<|cT h (λv I a=>?_) λV V x=>x;show aU λm=>?_;let(e,t,d,rfl,k,O,i,f2,u,l):=a;show m ?_;show aL<|hG<|hc _ _ ?_;let(j,g,w,y,os):=I;erw[Wf]at i
 repeat (first|with_reducible show pO i ?_|with_reducible show pO O ?_|(with_reducible show _q O ?_;rw[Z])|wp_step)
 have f b:b≠e->((j.update e<|E8 λx=>x.setIfInBounds 3 h9).update e (E8 λx=>x.setIfInBounds 4<|Value.bool ae)).get? b=j.get? b:=λn=>(ni _ _<|dh n).trans (ni _ _<|dh n);show zhP (C:=C) (d:=d) (t:=t) Y k (by
  let(o,p,z,r):=f2;show(o,p,(f J<|dh k).trans z,r)) (oI _ (oI _ i rfl) rfl) λh' k1 k2=>l h' (λb n=>(k1 b n).trans (f b n)) k2
end
theorem Dc.make(r:Dc (k+1) A)(C)(us)(z):Dc k (A.under (.builtin "type.__call__" (.ref C::us,z))):=
 (by have:=r.dp;rw[V7];lia,by have:=r.un;rw[V6];lia)
section
variable{X:Cx}{sc:cS}{N L:zn Str}{k:Nat}{C:ak}{hM x0 x1:Str}{p0 p1 p2 p3 p4 p5 p6 p7 p8 pos pos':cH}
theorem Hv(h:SW X sc N L k)(A:XA X.K X.mg C hM)(Y:xy sc N 0 x0)(c1:xy sc N 1 x1)(hs:hU (.Name x1 p1) (aa (.Attribute (.Name x0 p0) hM pos')) pos.line ⋯=pure aF:=by rfl):
 PS X (.Assign [.Attribute (.Name x0 p0) hM pos'] (.Name x1 p1) pos) (mZ C hM):=by
 intro a s f H D I Z;show aU λz=>?_;let(e,i,P,Q,j,q):=Z;let(S,Nn,cd,a1,a2,p,r,t,w,x,y,n):=A.ex;show z ?_;show Ta (cy (h.var c1 a s f H (λv b=>v=.int i/\b=H) I (_,Q,rfl,rfl)) λu B m=>cy (h.var Y a B f H (λv b=>v=.ref e/\b=H) (by let(v,b,O,l,rfl,rfl):=m;show O) (_,P,rfl,rfl)) λov R z2=>?_) hs;show aU λz=>?_;let(v1,b,O,l,rfl,rfl):=m;let(v2,H2,J,M,rfl,rfl):=z2;show z ?_;cases M;let(hp,g,dr,tk,os):=R;let((a0,E),n,n):=(J.bQ e _ j);show Tz J.df E w x p r t y λh' d b9 T U W y4=>?_;let(F,G,o):=TH J j T U W l y4;show(f,_,o,q d F G)
theorem BY{J Y:Str}{U j2:Nat}(h:SW X sc N L k)(A:XA X.K X.mg C hM)(B:qz sc "SplitError" = ae)(c0:xy sc N 0 x0)(c1:xy sc N 1 x1)(l1:J.length<=1000)(l2:Y.length<=1000)
 (hs:hU (.Call (.Attribute (.Name "SplitError" p0) "__init__" p1) [.Name x0 p2,.JoinedStr [.Constant (.str J) U p3,.FormattedValue (.Name x1 p4) (-1) af p5,.Constant (.str Y) j2 p6] p7] [] p8) af pos.line ⋯=pure aF:=by rfl)
 (aw:(p1.endLine==p8.line):=by rfl):
 PS X (.Expr (.Call (.Attribute (.Name "SplitError" p0) "__init__" p1) [.Name x0 p2,.JoinedStr [.Constant (.str J) U p3,.FormattedValue (.Name x1 p4) (-1) af p5,.Constant (.str Y) j2 p6] p7] [] p8) pos) (VJ C):=by
 intro a s m H D I hZ;show aU λO=>?_;let(e,i,s0,s1,w,l,q):=hZ;let(S,Nn,cd,E,F,a3,a4,a5,a6,a7,a8,G,M,P):=A.ex;show O ?_;show Oq ?_ I.quiet hs;rw[arm_eval_Call];show aL (xE I (h.gl B).1 E ?_ (h.gl B).2.2);show aL (ou ?_);have Q:P4 ae (.Name "SplitError" p0) ⋯ p1 p8=pure p8:=by erw[P4];simp[aw]
 erw[methodCall];show aL<|hG<|PySem.W.method_cls I.df G<|PySem.W.cls_value I.df M P (by rfl) ?_;show aL<|mu Q ?_;show V_ rfl<|Td ?_;show nj<|cy (h.var c0 a _ m H (λv d=>v=.ref e/\d=H) (I.tok _) (_,s0,rfl,rfl)) λzk0 s2 z2=>?_;show aU λO=>?_;let(v2,o,y,r2,rfl,rfl):=z2;show O ?_;cases r2;change wpAny _ _ (L5 ((aF,bH _ ⋯)::[])) _ _ s2;have ce:=mv;have t:i.natAbs.log2<1920:=by
  by_cases z:i.natAbs=0
  .rw[z];decide
  .have:=(Nat.log2_lt z).mpr (by erw[inR]at w;show of_decide_eq_true w)
   lia
 show nj<|JoinedStr_many<|BG<|ND ?_;dsimp only;show(by rw[ow];change 0+_<=_;lia,?_);show BG<|_o<|cy (h.var c1 a _ m o (λv d=>v=.int i/\d=o) (y.tok _) (_,s1,rfl,rfl)) λu1 s3 z3=>?_;let(v3,Z,f,r3,rfl,rfl):=z3;let(tk,rfl):=(r3);show _H t ?_;dsimp only;have ci:(fR<|toString i).length<=1921:=by rw[PySem.ofString_length];show(ziq () t)
 have j:(oM++J).length=J.length:=by rw[ow];change 0+_=_;lia
 show(by rw[ow,j,mv];lia,?_);show BG<|ND ?_;dsimp only;show(by rw[ow,ow,j,mv];lia,?_);show joinParts_nil ?_ (by rw[ow,ow,j,mv];lia);show sk ?_;show aU λO=>?_;let(nm,qn,bs,bm,u,sn,sub,ab,col,dd,k0,k1,k2,k3,k5,ho,ht,bQ):=mM F;let(hp,g,dr,R,os):=s3;have r:=f.df;let((a0,T),n,n):=(f.bQ e _ l);show O ?_;show LN (A6 r ht) (r _ _ ho) T λh' cl x y2=>?_;have p:=f.write (t':=R+1+1+1+1) (by rw[l];show kA) (.inl rfl) y2 (_,x)<|lh x;have e4:upd Z e (.ext<|r9 C e)=Z:=by
  funext b;by_cases z:b=e
  .rw[z,zB,l]
  .rw[zC z]
 rw[e4]at p;show(m,Z,p.tok _,q)
end
def UG(P:cQ)(w:cN)(K:aO)(z:DZ)(base:bN)(k:Nat)(f:ak)(j:gh)(ps:zn Str)(sp:Sp):Prop:=∀A a s H b d e Q E,Dc k A->nH P w K z base A a s H->B9 s j b (ps.zip d)->cM e d->sp e H Q E->
 codeAny (aV P w) A (.call (.ref f) b) (CR gx a P w H s Q E) s
theorem NU{P:cQ}{K:aO}{st:de}{f C:ak}{fd:gh}{B:Str}{k:Nat}(Fu:L2.i5 K "__init__" q st f fd)(hd:Zp ["self",j] ["self",j] st)
 (a6:∀X,X.prog=P->X.w=w->X.K=K->X.mg=U->X.base=base->SW X (zR st) ["self",j] ["self",j] k->gj X (jL st) (pq (VJ C) (mZ C B))):UG P w K U base (k+1) f fd ["self",j] (QQ C B):=by
 have S:=kz hd;show aU λO=>?_;let(oc,od,kV,N,pm,an,l,ct,tL,rfl,lk,M):=Fu.ex;show O ?_;intro A a s H G us vs Q E Y z a8 r x;have t:=z.mod.oS.keeps λb o e=>(z.bs b o e).1;show zhb (by have:=Y.dp;lia) (t _ _ lk) rfl S.co S.gen rfl (PySem.W.codeRec_of t M)<|a8 _ _ _ _ ?_;show zlH S.kind (λy hy=>by
  let(n,v):=y;rcases S.par n (Tr hy).1 with q|q
  .exact .inl q
  .exact .inr (q,Mz _ _ _<|.inl q)) λR m s1 L=>?_
 subst m;show((z.mod.nolimit.keeps λb o e=>(z.bs b o e).1).keeps L.toInCall.keep,codeAny_func ?_);have I:=zju (E:=E) S z (by show aU λO=>?_;let(e,i,rfl,c):=x;show O ?_;rfl) r L;let(e,i,rfl,hi,m,qq):=x;show cT ((a6 (Pt P w K U base _ q (zR st) f l A a s H E) rfl rfl rfl rfl rfl (rfl,rfl,S.nd,by have:=Y.dp;change A.depth+1+3*k+5<_;lia,by have:=Y.un;change A.units+3+16*k+200<_;lia,λc c=>.inl rfl)) [] s1 _ H {nx:=λc g=>Q .cI g,rt:=Q} I (e,i,rfl,rfl,hi,m,e,i,rfl,rfl,m,qq)) (λT p h=>?_) λe p h=>h.elim;have F:∀{d}{g}{v}{u},Inv (Pt P w K U base ["self",j] q (zR st) f l A a s H E) [] d g p->RelV v u->Q v g->CE a P w H s Q u p:=
  λ{d g v u} J Z q=>(v,g,J.os,J.bare,J.base,J.bQ,Z,q)
 cases T with
 |ret u=>
  let(v,d,g,J,Z,q):=h;show F J Z q
 |next=>
  let(d,g,J,q):=h;show F (v:=V.cI) J rfl q
 |brk=>let(c,c,c,q):=h;show o7 q
 |cont=>let(c,c,c,q):=h;show o7 q
structure De(P:cQ)(w:cN)(K:aO)(mg:DZ)(base:bN)(k:Nat)(c:Str):Prop where
 all:Vl K=ae
 mem:c∈g0
 ex:∃C N fI fd ps,wF K c=aa C/\mg c=aa (.ref C)/\FV K C=aa N/\g9 K (.ref C) "__init__" = aa (aa (.ref fI))/\mV K (.ref C)=ae/\p9 K (.ref fI)=aa (.type "function")/\
  ps.length=2/\↑UG k fI fd ps (QQ C<|VA c)/\Binds K fd ps []
section
variable{X:Cx}{sc:cS}{N L:zn Str}{k j:Nat}{a:bE}{f:CO D}{c:Str}{np pos:cH}{pins:TW}{U:St}{H H0:Hp}{s:bB}{M:Ctx}{i:Int}
theorem zld(h:SW X sc N L k)(σ:qz sc c)(x:⇑De j c)(hj:j+1<=k)(ha:PV X a f)(I:Inv X pins U H s)(rc:RC X.K H0 H U M)(e1:f M=aa (.int i))(hi:inR i)(W:ck [a] ⋯=[(aF,bH a ⋯)]:=by rfl):
 ⇑X (bH (.Call (.Name c np) [a] [] pos) ⋯) (λu s'=>∃e d C B S,u=.ref e/\Inv X pins U (upd (upd B e<|.ext<|m8 C e d) d<|.xd [(VA c,.int i)]) s'/\Ext H0 H S B/\B e=af/\B d=af/\d≠e/\wF X.K c=aa C/\(X.ex=[]->X.fy.heap.get? e=af)) X.xe s:=by
 show aU λJ=>?_;let(C,Nn,F,fd,ps,x1,x2,x3,x4,x5,Q,ad,R,hb):=x.ex;let(nm,qn,bs,bm,γ,sn,sub,ab,col,dd,k0,k1,k2,k3,k5,ho,ht,bQ):=mM x3;show J ?_;show nW<|xE I (h.gl σ).1 x2 ?_ (h.gl σ).2.2;show D8 I.ok.mod.oS x5 (cy ((zX ha jG W) pos pins s U H (λt B=>t=[.int i]/\∃S,Ext H0 H S B) I (H0,M,.int i,rc,e1,λv T b y rr=>(by rw[rr],b,y))) λus s1 P=>(?_,?_)) (by rw[W];rfl) rfl
 .let(t,B,O,_):=P;show O.df
 show aU λJ=>?_;let(t,B,O,rv,m,S,y):=P;subst m;let(u,rfl,ru):=kg rv;have Y:=O.df;let(p,av,aw):∃p,X.K.lookup F=aa p/\p.cls=.type "function":=by
  have Q:(X.K.lookup F).map (·.cls)=_:=Q
  simp_all
 let(hp,g,dr,tk,os):=s1;show J ?_;show LO (A6 Y ht) (Y _ _ ho) (P' Y x4) (Y _ _ av) aw (by change 1<=cP;decide) λh' e a0 y1 y2 y3=>?_;let(hn,l):=NH O y3 y1<|lh y2;have sp:QQ C (VA c) [.ref e,.int i] (upd B e<|.ext<|r9 C e) (λv H2=>v=.cI/\∃d,B d=af/\d≠e/\H2=upd (upd B e<|.ext<|m8 C e d) d (.xd [(VA c,.int i)])) (λw w w=>False):=by
  show(e,i,rfl,hi,zB,λd G Z=>(rfl,d,?_,Z,?_))
  .rw[zC Z]at G;show G
  .rw[QN]
 have hl:[i3 e,u].length=pT ps:=by rw[ad];rfl
 show o8<|pS (R _ X.stack _ _ _ _ [.ref e,.int i] _ _ (Dc.make (by have:=h.dp;lia,by have:=h.un;lia) C [u] []) (l.nR.make C [u] []) (~~~hb _ _ l.df (~~~hl)) (.cons rfl<|.cons ru .nil) sp) λr s' E=>?_;cases r with
 |error ee=>show o7 E
 | ok fl=>
  cases fl with
  |ret uu=>
   show aU λJ=>?_;let(v,T,I3,b4,m,d,b5,Z,rfl):=l.after E;show J ?_;subst m;show(b4,(e,d,C,B,S,rfl,I3,y,hn,b5,Z,x1,λb6=>by
  cases q:X.fy.heap.get? e with
  |none=>rfl
  |some o=>
   let(o',z):=O.base.there e o q (by rw[b6];simp);lia))
  |next=>assumption
  |brk=>assumption
  |cont=>assumption
end
theorem LM{K:aO}{st:de}{k:Nat}(A:n7 K B c q j st e)(S:Zp ["self",j] ["self",j] st)(H:VA c=e)
 (z:∀C,XA K B C e->∀X,X.prog=P->X.w=w->X.K=K->X.mg=B->X.base=base->SW X (zR st) ["self",j] ["self",j] k->gj X (jL st) (pq (VJ C) (mZ C e))):De P w K B base (k+1) c:=by
 subst H;let(C,N,a,b,I,J,O,Y,Z,d,f,g,h):=A.ex;show(A.all,A.mem,C,N,a,b,_,I,J,O,Y,Z,d,rfl,NU g S<|z C f,h)
section
variable{X:Cx}{sc:cS}{N L:zn Str}{k:Nat}
theorem BV{j:Nat}{S:TW}{U:St}{H0 H F0 F1:Hp}{ex:ak}{s:bB}{M:Ctx}{i:Int}{H' σ:Hp}{φ:bN->Prop}(h:SX X sc N L k)(hg:qz sc B)(x:⇑De j B)(hj:j+1<=k)
 (ha:∀e,PV (tD X e) a f) (I:Inv X S U (upd H' ex<|.ext φ) s) (rs:RS X.K F0 F1 H0 H U M) (xx:Ext H0 H σ H') (as:H' ex=af) (f2:∀g,φ g->mG ex g) (ef:f M=aa (.int i)) (hi:inR i) (w:xC X F0 F1 (B,aa i))
 (hs:ck [a] ⋯=[(aF,bH a ⋯)]:=by rfl):
 wpAny (aV X.prog X.w) (X.A.mark<|some (.ref ex)) (exec (.Raise (aa (.Call (.Name B np) [a] [] cpos)) (aa (.Constant .none kd W)) am) ⋯) (λv v=>False) X.xe s:=by
 show aU λO=>?_;let(C,Nn,fI,fd,ps,P,x2,x3,x4,x5,x6,bd,FO,hb):=x.ex;let(nm,qn,bs,bm,hdct,sn,sub,ab,col,dd,k0,k1,k2,k3,k5,ho,ht,bQ):=mM x3;show O ?_;have hw:SW (tD X (.ref ex)) sc N L k:=(h.l4,h.eN,h.nd,h.room.dp,h.room.un,h.fn);rw[arm_exec_Raise];show aL (ou ?_);show ziW (C:=C) (nm:=nm) (q:=qn) (N:=Nn) (bs:=bs) (hdct:=hdct) (sn:=sn) (sub:=sub) (ab:=ab) (col:=col) (dd:=dd) (k0:=k0) (k1:=k1) (k2:=k2) (k3:=k3) (k5:=k5) (newId:="ValueError.__new__") (((λY=>A6 Y ht) I.df).hasType M4.hasBase) rfl (λR t r=>?_) ?_
 .exact aL<|Constant_none<|aL<|ou<|bW r
 have Q:=xx.trans<|Ext.hide xx.sub as<|.ext φ;show aL<|cT (zld hw hg x hj (ha _) (ay I<|.ref ex) (rs.rc.ext Q) ef hi hs) (λu s' z=>aL<|ou<|bW ?_) λv v z=>z.elim;show aU λO=>?_;let(e,d,C',m,n4,rfl,J,T,hn,o,G,Z,b3):=z;show O ?_;have Z:wF X.K B=aa C':=Z;rw[P]at Z;cases Z;have J:=dC I.ok J;have l:=Q.trans T;have b4:=T.s1 ex _ zB;have ad:e≠ex:=λz=>by lia
 have γ:upd (upd m e<|.ext<|m8 C e d) d (.xd [(VA B,.int i)]) e=aa (.ext<|m8 C e d):=by rw[zC (dh G),zB]
 show aU λO=>?_;let((F,g1),v,v):=(J.bQ e _ γ);let(y,v,v):=(J.bQ ex _<|by rw[zC (dh<|λz=>by lia),zC (dh ad)];show b4);show O ?_;have p:=J.df _ _ ho;show(e,F,d,rfl,ad,p,g1,f2 _ y,λz=>?_,λh' W he=>?_)
 .rw[z,g1]at p;cases p
 have zht:(λb=>if b=e then af else upd (upd m e<|.ext<|m8 C e d) d (.xd [(VA B,.int i)]) b)=upd m d (.xd [(VA B,.int i)]):=by
  funext b;by_cases q:b=e
  .rw[DJ q,q,zC<|dh G,hn]
  .rw[DY q]
   by_cases E:b=d
   .rw[E,zB,zB]
   .rw[zC E,zC q,zC E]
 show w.2.2.1 S U _ _ s' h' e C d F _ _ _ _ _ J γ g1 rfl W he rfl rfl rfl rfl rfl b3 (by rw[zht];show(rs.ext.trans<|(l.trans<|Ext.hide l.sub o _).show (xl l.s1 o) (jl l.sub o) zB rs.rc.sub)) x.all x.mem P (d,rfl,zB)
theorem BW{fp py cpos B σ a9 ac np ad al kp:cH}{kd n j1 j:Nat}{G:zn D->xz Xn}{f:CO D}(h:SX X sc N L k)(an:X.stack=⋯::X.outer/\⋯.frame=aa ⋯.locals)
 (cf:qz sc Y) (hx:⇑fC j1 Y n G) (as:j1<=k) (ha:i6 X.eQ (e::S) n g) (zlM:XH X.K X.mg c1) (g1:qz sc c1) (g2:qz sc W) (x:⇑De j W) (hj:j+1<=k) (hf:∀e,SW (tD X e) sc N L k->PV (tD X e) a f)
 (he:ck (e::S) ⋯=(aF,bH e ⋯)::ck S ⋯:=by rfl) (ax:(ft cpos<|starEach S ⋯).any (·.1)=aF:=by rfl) (b0:hU (.Call (.Name Y fp) (e::S) [] cpos) (aa (.Name y py)) B.line ⋯=pure aF:=by rfl) (hs:ck [a] ⋯=[(aF,bH a ⋯)]:=by rfl):
 xh X (.Try [.Assign [.Name y py] (.Call (.Name Y fp) (e::S) [] cpos) B] [.ExceptHandler (aa (.Name c1 ac)) af [.Raise (aa (.Call (.Name W np) [a] [] ad)) (aa (.Constant .none kd kp)) al] a9] [] [] σ) (LP G g c1 W f):=λu s U H F0 F1 H0 M c I A J w=>by
 show aU λO=>?_;let(ds,eg,J):=zc J;let(b,eG,J):=zc J;show O ?_;by_cases d:b.1=c1/\b.2=af
 case neg=>rw[DY d]at J;cases J
 rw[DJ d]at J;show aU λO=>?_;let(i,Z,J):=zc J;let(d0,t,Z):=zc Z;show O ?_;rw[j5 Z]at t;by_cases m:inR i
 case neg=>rw[DY m]at J;cases J
 rw[DJ m]at J;cases J;show _P ?_;show nX<|Ul (cT (YO hx as h cf ha I A.rc eg eG he ax) (λv v z=>z.elim) λev s' z=>?_) b0;show Iv an z λex s3 ea p=>?_;subst ea;show aU λO=>?_;let(P,l,C,φ,Q,γ,r,xa,F,E,rep,obj,f2):=p.ex;let(zl2,x1,x2,x3,x4,x5,x6):=zlM.ex;show O ?_;have o:=ay Q<|.ref ex;show zlE (zhe<|xE o ((h.gl g1).1) x2 ?_ (h.gl g1).2.2) (by intro q;cases q);show(zjB o.df obj x3 x4 x5<|x6 b.1 C F E) _ _ _ _ (λv v z=>z) ?_;rw[show(b.1==c1) by rw[d.1];show beq_self_eq_true _];show codeAny_handlers_suite<|p.go λs6 T=>?_;show aU λO=>?_;let(P,l,C,φ,R,γ,r,xa,F,E,rep,obj,f2):=T;show O<|nX<|cT (BV h g2 x hj (λe=>hf e (h.l4,h.eN,h.nd,h.room.dp,h.room.un,h.fn)) R A γ r (f2 d.2) t m w hs) (λv v z=>z.elim)<|w.2.2.2 _
end
def q9(f:CO D)(g:CO (Sk×zn D)):CO D:=λb=>(f b).bind λd=>(g b).bind λa=>match d with
 |.str x=>(bt a.2).map λl=>.bl (!l.any λy=>y==x)
 |_=>af
section
variable{X:Cx}{a:bE}{st:de}{body:zn de}{F:zn D->xz Res}
theorem Cd{F:CO Fl}(h:fH X.eQ st F):fH X (.Try [st] (j::J) [] [] e) F:=by
 rintro a s k H D I ⟨O,Y,d,i,b,g,Z,f⟩;show _P ?_;show cT (zh h a s k H D (I.cY _) (O,Y,d,i,_,g,Z,f)) (λb l z=>?_) λq q z=>z.elim;have z:=z.gL;cases b with
 |next=>show B5 z
 |ret v=>show z
 |brk=>show z
 |cont=>show z
end
open Classical in
section
variable{X:Cx}{L:zn Str}{a c:bE}{p pos:cH}{x:Str}
theorem yn{c:bE}(S:PV X a e)(U:PQ X c I)(W:m3 .NotIn c=aF:=by with_unfolding_all rfl):gk X (.Compare a [.NotIn] [c] pos) (sB<|q9 e I):=
 X5 (w5 XB S U W) λP H Q J=>by
  show aU λO=>?_;let(k,j,d,h,z,q):=J;let(G,Y,Z):=zc z;let(x,t,z):=zc Y;let((g,s),u,z):=zc z;show O ?_;cases x with
  | str w=>
   let(l,A,rfl):=zy z;cases Z;show(k,j,_,h,t,λM F b i C=>(b,j,g,s,h.ext i,u,λp N m o E f K r=>?_));have B:=wQ r A;subst B;subst C;show(p,_,rfl,by
    cases g with
    |L=>show .inl f
    |T=>show .inr f,rfl,JE l,?_)
   have:pG (.str w) (l.map V.str)=l.any λy=>y==w:=by erw[pG];rw[N6];rfl
   rw[this];show(_,rfl,q m o<|i.trans E)
  |_=>cases z
end
def rL(e:bE):Str:=match e with|.Name x _=>x|_=>""
def pL(e:bE):zn Str:=match e with|.Tuple a _ _=>a.map rL|e=>[rL e]
def ti(N:zn Str)(fs:zn Nat):zn (Str×Nat):=fs.map λi=>(N.getD i "",i)
theorem YJ(N)(fs):(ti N fs).map (·.2)=fs:=by erw[ti];rw[gw];show List.map_id fs
def Iy(e:bE):Bool:=match e with|.Name _ _=>ae|_=>aF
theorem oq(h:Iy e):∃p,e=.Name (rL e) p:=by cases e<;>first|show(_,rfl)|show absurd h i4
def TJ(e:cS)(N L:zn Str)(is:zn Nat)(z:zn bE):Bool:=match is with
 |[i,j]=>(match z with|[a,b]=>Iy a&&(yc e N L i (rL a)&&(Iy b&&yc e N L j (rL b)))|_=>aF)
 |[i,j,l]=>(match z with|[a,b,c]=>Iy a&&(yc e N L i (rL a)&&(Iy b&&(yc e N L j (rL b)&&(Iy c&&yc e N L l (rL c)))))|_=>aF)
 |_=>aF
def Dx(j:cS)(N L:zn Str)(e:bE)(T:Tg):Bool:=match T with
 |.nm i=>Iy e&&yc j N L i (rL e)
 |.tp is=>(match e with|.Tuple a _ _=>TJ j N L is a|_=>aF)
set_option tactic.hygienic true in
theorem GM(h:SX X B N L k)(c:Dx B N L e T):PG X e (il X.K T):=by
 cases T with
 |nm i=>
  have c:=Bool.and_eq_true_iff.mp c;let(p,q):=oq c.1;rw[q];show h.kq _ c.2
 | tp is=>
  erw[Dx]at c;dsimp only at c;split at c
  .next l j pos=>
   erw[TJ]at c;split at c
   .split at c
    .simp?[eH]at c
     let(z,I,a,b):=c;let(p,q):=oq z;let(g,J):=oq a;rw[q,J];show h.Dy<|xt (h.kq _ I)<|xt (h.kq _ b) Yb
    .cases c
   .split at c
    .simp?[eH]at c
     let(z,I,a,b,d,f):=c;let(p,q):=oq z;let(g,J):=oq a;let(m,O):=oq d;rw[q,J,O];show h.Dy<|xt (h.kq _ I)<|xt (h.kq _ b)<|xt (h.kq _ f) Yb
    .cases c
   .cases c
  .cases c
def cB(j scope:cS)(N:zn Str)(e:bE)(T:Tg)(n:Nat)(fs:zn Nat):Bool:=
 gX j scope N (ti N fs)&&(RG (pL e) scope (ti N fs)&&(decide (∀i∈T.idx,i<(pL e).length)&&(decide ((pL e).length=n)&&Dx (wb scope j) (pL e++(ti N fs).map (·.1)) (pL e) e T)))
abbrev rn(X:Cx)(scope:cS)(N:zn Str)(tg:bE)(fs:zn Nat):=jt X scope (pL tg++(ti N fs).map (·.1))
abbrev SA(X:Cx)(sc scope:cS)(N:zn Str)(tg:bE)(fs:zn Nat)(k:Nat)(fp:zn ak)(s2:bB)(H2:Hp):Prop:=SX (rn X scope N tg fs fp s2 H2) (wb scope sc) (pL tg++(ti N fs).map (·.1)) (pL tg) k
section
variable{X:Cx}{sc scope:cS}{N L:zn Str}{k n i:Nat}{fs:zn Nat}{T:Tg}{e elt tg iter y0:bE}{es:zn bE}{pos p py spos cpos:cH}{x y:Str}{f:CO D}{fo:CO (zn D)}{src gl:CO (zn D)}{kk:CO Bool}
theorem cA(h:SX X sc N L k)(c:cB sc scope N tg T n fs):mQ X scope (ti N fs)/\(∀i∈T.idx,i<(pL tg).length)/\(pL tg).length=n/\(∀fp B j,SA X sc scope N tg fs k fp B j)/\∀fp B j,PG (rn X scope N tg fs fp B j) tg (il X.K T):=by erw[cB]at c;simp?[eH,decide_eq_true_eq]at c;show aU λz=>?_;let(a,b,d,I,e):=c;show z ?_;have s fp B j:SA X sc scope N tg fs k fp B j:=h.comp b;show(h.h_ a,d,I,s,λfp B j=>GM (s fp B j) e)
theorem jO(h:SX X sc N L k)(H:m2 X tg iter src)(B:∀fp z j,SA X sc scope N tg fs k fp z j->PV (rn X scope N tg fs fp z j) elt f)(c:cB sc scope N tg T n fs:=by decide +kernel)(hs:∀x,ij iter ⋯ x=pure x:=by intro _;rfl):
 PO X (.ListComp elt [(tg,iter,[],0)] scope pos) (zL src T n fs jh f):=by
 let(a,b,d,s,q):=cA h c;have r:=HM (pos:=pos) h.calm a b H q (λfp z j=>B fp z j<|s fp z j) hs;rw[d,YJ]at r;show r
theorem WZ(h:SX X sc N L k)(I:m2 X tg iter src)(z:∀fp B j,SA X sc scope N tg fs k fp B j->gk (rn X scope N tg fs fp B j) y0 kk)(H:∀fp B j,SA X sc scope N tg fs k fp B j->PV (rn X scope N tg fs fp B j) elt f)(c:cB sc scope N tg T n fs:=by decide +kernel)(hs:∀x,ij iter ⋯ x=pure x:=by intro _;rfl):
 PO X (.ListComp elt [(tg,iter,[y0],0)] scope pos) (zL src T n fs kk f):=by
 let(a,b,d,s,q):=cA h c;have r:=zky (pos:=pos) h.calm a b I q (λfp B j=>z fp B j<|s fp B j) (λfp B j=>H fp B j<|s fp B j) hs;rw[d,YJ]at r;show r
theorem vo(h:SX X sc N L k)(H:m2 X tg iter src)(B:∀fp z j,SA X sc scope N tg fs k fp z j->PV (rn X scope N tg fs fp z j) elt f)(ct:yc sc N L i y:=by decide +kernel)(c:cB sc scope N tg T n fs:=by decide +kernel)(hs:∀x,ij iter ⋯ x=pure x:=by intro _;rfl):
 PS X (.Assign [.Name y py] (.ListComp elt [(tg,iter,[],0)] scope cpos) spos) (WH (tO X.K<|zL src T n fs jh f)<|yY i):=by
 let(a,b,d,s,q):=cA h c;have r:=psc (cpos:=cpos) (spos:=spos) (py:=py) i h ct h.calm a b H q (λfp z j=>B fp z j<|s fp z j) hs;rw[d,YJ]at r;show r
theorem HI(h:SX X sc N L k)(I:m2 X tg iter src)(z:∀fp B j,SA X sc scope N tg fs k fp B j->gk (rn X scope N tg fs fp B j) y0 kk)(H:∀fp B j,SA X sc scope N tg fs k fp B j->PV (rn X scope N tg fs fp B j) elt f)(ct:yc sc N L i y:=by decide +kernel)(c:cB sc scope N tg T n fs:=by decide +kernel)(hs:∀x,ij iter ⋯ x=pure x:=by intro _;rfl):
 PS X (.Assign [.Name y py] (.ListComp elt [(tg,iter,[y0],0)] scope cpos) spos) (WH (tO X.K<|zL src T n fs kk f)<|yY i):=by
 let(a,b,d,s,q):=cA h c;have r:=RX (cpos:=cpos) (spos:=spos) (py:=py) i h ct h.calm a b I q (λfp B j=>z fp B j<|s fp B j) (λfp B j=>H fp B j<|s fp B j) hs;rw[d,YJ]at r;show r
theorem MU(h:SX X sc N L k)(H:m2 X tg iter src)(B:∀fp z j,SA X sc scope N tg fs k fp z j->PO (rn X scope N tg fs fp z j) elt fo)(ct:yc sc N L i y:=by decide +kernel)(c:cB sc scope N tg T n fs:=by decide +kernel)(hs:∀x,ij iter ⋯ x=pure x:=by intro _;rfl):
 fH X (.Assign [.Name y py] (.ListComp elt [(tg,iter,[],0)] scope cpos) spos) (BJ i<|iN src T n fs fo):=by
 let(a,b,d,s,q):=cA h c;have r:=Ce (cpos:=cpos) (spos:=spos) (py:=py) i h ct h.calm a b H q (λfp z j=>B fp z j<|s fp z j) hs;simp?[d,YJ]at r;show r
theorem nJ(h:SX X sc N L k)(c:xy sc N i x:=by decide +kernel):PV X (.Name x pos) (zf i):=VU i<|h.var c
theorem TV(h:SX X sc N L k)(c:xy sc N i x:=by decide +kernel):PQ X (.Name x pos) (zk i):=sR i<|h.var c
theorem Rr(h:SX X sc N L k)(c:Dx sc N L e T:=by decide +kernel):PG X e (il X.K T):=GM h c
theorem RW(h:SX X sc N L k)(j:PV X e f)(c:yc sc N L i x:=by decide +kernel)(hs:hU e (aa (.Name x py)) pos.line ⋯=pure aF:=by rfl):fH X (.Assign [.Name x py] e pos) (jT i f):=fX i<|h.set i c j hs
theorem MV(h:SX X sc N L k)(j:PO X e fo)(c:yc sc N L i x:=by decide +kernel)(hs:hU e (aa (.Name x py)) pos.line ⋯=pure aF:=by rfl):fH X (.Assign [.Name x py] e pos) (xU i fo):=iW i<|h.set i c j hs
theorem kK(z:X.xe=λq q=>False)(h:SX X sc N L k)(H:ed X tg iter src)(B:eM X j F)(c:Dx sc N L tg T:=by decide +kernel)(hs:∀x,ij iter ⋯ x=pure x:=by intro _;rfl):fH X (.For tg iter j [] pos) (Kj src T F):=HG (lr z) h.calm H (GM h c) B hs
theorem zw(h:SX X sc N L k:=by assumption)(c:xy sc N i x:=by decide +kernel):PV X (.Name x pos) (zf i):=nJ h c
theorem jz(h:SX X sc N L k:=by assumption)(c:xy sc N i x:=by decide +kernel):PQ X (.Name x pos) (zk i):=TV h c
theorem zQ(h:SX X sc N L k:=by assumption)(c:xy sc N i x:=by decide +kernel):PV X (.Subscript (.Name x z) (.Constant (.int j) u B) H) (aR (zk i)<|sI j):=jF (TV h c) zm
theorem dc(h:SX X sc N L k:=by assumption)(c:xy sc N i x:=by decide +kernel):i6 X [.Name x pos] 1 (za (zf i) zA):=zb (nJ h c) zo
theorem d7(h:SX X sc N L k:=by assumption)(c:xy sc N i x:=by decide +kernel)(B:xy sc N z I:=by decide +kernel):i6 X [.Name x pos,.Name I j] 2 (za (zf i)<|za (zf z) zA):=zb (nJ h c)<|dc h B
theorem oT(h:SX X sc N L k:=by assumption)(c:xy sc N i x:=by decide +kernel)(O:xy sc N z J:=by decide +kernel)(c3:xy sc N I H:=by decide +kernel):i6 X [.Name x pos,.Name J j,.Name H B] 3 (za (zf i)<|za (zf z)<|za (zf I) zA):=zb (nJ h c)<|d7 h O c3
theorem jo(j:PV X e f)(h:SX X sc N L k:=by assumption)(c:yc sc N L i x:=by decide +kernel)(hs:hU e (aa (.Name x py)) pos.line ⋯=pure aF:=by rfl):fH X (.Assign [.Name x py] e pos) (jT i f):=RW h j c hs
theorem qO(j:PO X e fo)(h:SX X sc N L k:=by assumption)(c:yc sc N L i x:=by decide +kernel)(hs:hU e (aa (.Name x py)) pos.line ⋯=pure aF:=by rfl):fH X (.Assign [.Name x py] e pos) (xU i fo):=MV h j c hs
variable{j:Nat}{F:zn D->xz Res}
theorem MO(J:⇑cL j x n F)(h:SX X sc N L k)(B:i6 X (e::es) n gl)(z:j<=k:=by decide)(c:qz sc x:=by decide +kernel)
 (H:ck (e::es) ⋯=(aF,bH e ⋯)::ck es ⋯:=by rfl) (I:(ft pos<|starEach es ⋯).any (·.1)=aF:=by rfl):PV X (.Call (.Name x p) (e::es) [] pos) (zD F gl):=HA J z h c B H I
theorem zK(J:⇑cL j x n F)(B:i6 X (e::es) n gl)(h:SX X sc N L k:=by assumption)(z:j<=k:=by decide)(c:qz sc x:=by decide +kernel)
 (H:ck (e::es) ⋯=(aF,bH e ⋯)::ck es ⋯:=by rfl) (I:(ft pos<|starEach es ⋯).any (·.1)=aF:=by rfl):PV X (.Call (.Name x p) (e::es) [] pos) (zD F gl):=HA J z h c B H I
theorem xj(J:⇑cL j x n F)(B:i6 X (e::es) n gl)(h:SX X sc N L k:=by assumption)(z:j<=k:=by decide)(c:qz sc x:=by decide +kernel)
 (H:ck (e::es) ⋯=(aF,bH e ⋯)::ck es ⋯:=by rfl) (I:(ft pos<|starEach es ⋯).any (·.1)=aF:=by rfl):PO X (.Call (.Name x p) (e::es) [] pos) (jA F gl):=RY J z h c B H I
end
theorem Sy{K:aO}{Q:aO->(Str->xz aN)->Prop}{x:Str}{st:de}{N ps:zn Str}{k:Nat}{F:CO Fl}(E:Q K e)(A:∀{K}{e},Q K e->cJ K e x st ps)(j:Zp N ps st)
 (z:∀X,Q X.K X.mg->SX X (zR st) N N k->X.xe=(λq q=>False)->eM X (jL st) F):cL P w K e base (k+1) x (pT ps) (jq (pT N) F):=
 Uh (A E) j λX I f J d b a O=>by subst I f J d b;show z X E a O
def Dn(st:de):zn Str:=((zR st).names.filter λy=>y.2 ==.local || y.2 ==.cell).map (·.1)
theorem qu{K:aO}{Q:aO->(Str->xz aN)->Prop}{x:Str}{st:de}{ps:zn Str}{k n:Nat}{F:CO Fl}(E:Q K e)(A:∀{K}{e},Q K e->cJ K e x st ps)
 (z:∀X,Q X.K X.mg->SX X (zR st) (Dn st) (Dn st) k->X.xe=(λq q=>False)->eM X (jL st) F) (j:Zp (Dn st) ps st:=by decide +kernel) (B:(Dn st).length=n:=by decide +kernel):cL P w K e base (k+1) x (pT ps) (jq n F):=B ▸ Sy (N:=Dn st) E A j z
def kU(i:Int):Str:=fR<|toString i
def yd(f:CO D):CO D:=λa=>((f a).bind gP).bind λi=>if inR i then aa (.str<|kU i)else af
def WO(f g:CO D):CO D:=λa=>(f a).bind λd=>(g a).bind λe=>match d,e with
 |.str x,.str y=>aa (.bl<|Txt.startswith x y)
 |_,_=>af
def Od(d:D):xz Str:=match d with
 |.int i=>if inR i then aa (kU i)else af
 |.str x=>if zO x then aa x else af
 |_=>af
def ny(f:CO D):CO D:=λa=>((f a).bind Od).map .str
def Ol(d:D):xz Str:=match d with
 |.str x=>if zO x then aa x else af
 |_=>af
def fM(fs:zn (CO D))(z:Str):CO D:=λa=>match fs with
 |[]=>aa (.str z)
 |f::r=>((f a).bind Ol).bind λx=>fM r (z++x) a
def QT(fs:zn (CO D)):CO D:=λa=>if (pT fs)<=10 then fM fs oM a else af
def gb(n:Nat)(lo e st:xz Int):zn Nat:=sliceRange (u3 lo e st n).1 (u3 lo e st n).2.1 (u3 lo e st n).2.2
def QY{e:Type}(xs:zn e)(lo j st:xz Int):zn e:=(gb xs.length lo j st).filterMap λi=>xs[i]?
def He(f:CO (Sk×zn D))(l h s:CO (xz Int)):CO (zn D):=λb=>(f b).bind λa=>(l b).bind λlo=>(h b).bind λd=>(s b).bind λst=>match a.1 with
 |.L=>if st=aa 0 then af else if (QY a.2 lo d st).length<=lim then aa (QY a.2 lo d st)else af
 |.T=>af
def vD(f g:CO D):CO (zn D):=λa=>(f a).bind λd=>(g a).bind λe=>match d,e with
 |.str x,.str y=>if x.length<=20000/\(y.length==0)=aF then aa ((vv x y).map D.str)else af
 |_,_=>af
def X4(f:CO D):CO D:=λa=>(f a).bind λd=>match d with
 |.str x=>if x.length<=640 then (OR x).map D.int else af
 |_=>af
def BK(f g:CO D):CO D:=λa=>(f a).bind λd=>(g a).bind λe=>match d,e with
 |.str x,.str y=>aa (.bl<|!(DT y x 0 y.length 1).isEmpty)
 |_,_=>af
end DL
namespace L2
open PySem PySem.Spec PyProof.Rows
theorem zlj:C6 X "str.startswith" (λx vs H Q=>∃z y,x=.str z/\vs=[.str y]/\Q (.bl (Txt.startswith z y)) H):=by intro a s d H x vs v b Q I J O h;let(z,y,rfl,rfl,q):=h;let(t,rfl):=J;let(u,rfl,Y,rfl):=kg O;show PySem.SC.startswith (.bl _,H,I,rfl,q)
theorem VF:∀l,cM ((l.map (·.1)).map V.str) (strValues l)
 |[]=>.nil
 |(z,t)::l=>.cons (t,rfl) (VF l)
theorem CF:C6 X "str.split" (λx vs H Q=>∃z y,x=.str z/\vs=[.str y]/\(y.length==0)=aF/\z.length<=20000/\∀l,H l=af->Q (.ref l) (upd H l (.lst ((vv z y).map V.str)))):=by
 intro a s j H x vs v p Q I i g h;let(z,y,rfl,rfl,Y,o,q):=h;let(t,rfl):=i;let(u,rfl,J,rfl):=kg g;have big:30000<=cP:=by decide
 have O:∀l k,l.map (·.1)=_->pT l<=cP->EP X a j Q _ {s with heap:=s.heap.push {cls:=.type "list",data:=.seq (strValues l).toArray},toks:=k}:=λl k e f=>by have Z:=VF l;rw[e]at Z;show(.ref _,_,I.Lc Z (by rw[<-e];simpa using f),rfl,q _ (I.bQ.fresh (cV _)))
 cases c1:(_ || _)with
 |true=>
  have b:vv z y=[z]:=DJ c1;show nZ _O (B6 _ _ _) _d (_v _ _) (meets_str_split_cannot_occur z y t J c1)<|O [(z,t)] s.toks (by rw[b];rfl) (by simp;lia)
 | false=>
  cases c2:(DT z y 0 z.length<|z.length+1).isEmpty with
  |true=>
   have b:vv z y=[z]:=(DY<|by rw[c1];simp).trans (DJ c2);show nZ _O (B6 _ _ _) _d (_v _ _) (meets_str_split_not_found z y t J c1 Y c2)<|O [(z,t)] s.toks (by rw[b];rfl) (by simp;lia)
  | false=>
   have d:(Builtin.Str.partsBetween z (DT z y 0 z.length<|z.length+1) y.length).length<=cP:=by have m:=StrLaws.occ_length_le z y 0 z.length<|z.length+1;rw[length_partsBetween];lia
   show nZ _O (B6 _ _ _) _d (_v _ _) (meets_str_split_sep z y t J c1 Y c2 () d) ?_;rw[strsFrom_eq];show O _ _ ((numbered_texts _ _).trans ((DY<|by rw[c1];simp).trans (DY<|by rw[c2];simp)).symm) (by
    have:=congrArg pT<|numbered_texts s.toks<|Builtin.Str.partsBetween z (DT z y 0 z.length<|z.length+1) y.length;rw[f7]at this;rw[this];show d)
end L2
namespace DL
open PySem PySem.Spec PyProof.Rows L2
theorem dg(h:inR i):i.natAbs.log2<1920:=by
 erw[inR]at h;by_cases z:i.natAbs=0
 .rw[z];decide
 .exact(Nat.log2_lt z).mpr (hV (of_decide_eq_true h)<|Nat.pow_le_pow_right () ())
section
variable{X:Cx}{sc:cS}{N L:zn Str}{k:Nat}{a b e o:bE}{f g:CO D}{p pos:cH}
theorem yA(h:SX X sc N L k)(c:qz sc "str" = ae)(z:X.mg "str" = af)(J:PV X e f)(hs:ck [e] ⋯=[(aF,bH e ⋯)]:=by rfl):PV X (.Call (.Name "str" p) [e] [] pos) (yd f):=
 j3 (vG XQ (h.gl c).1 z PyProof.Rows.boot_str (zX J jG hs) () () hs rfl) λs H Q O=>by
  let(l,o,d,m,I,q):=O;let(i,b,I):=zc I;let(Y,Z,b):=zc b;by_cases g:inR i
  .rw[DJ g]at I;cases I
   show(l,o,Y,m,Z,λv j a x r=>?_);rw[j5 b]at r;show(i,by rw[jX r],dg g,q _ j a x rfl)
  lia
theorem bY(J:PV X o f)(B:PV X e g)(O:ri o "startswith" ⋯ (bH o ⋯)=bH o ⋯:=by rfl)
 (Y:((ft cpos<|starEach [e] ⋯).all (λx=> !x.1)&&(pf cpos<|keywordEach [] ⋯).all (λx=>x.1.isSome)&&decide ([e].length+([]:zn n5).length+(if ([]:zn n5).isEmpty then 0 else 1)<30)):=by rfl)
 (Z:(j.endLine==cpos.line):=by rfl) (hs:ck [e] ⋯=[(aF,bH e ⋯)]:=by rfl):PV X (.Call (.Attribute o "startswith" j) [e] [] cpos) (WO f g):=
 j3 (nV V' PySem.F.slot_str_startswith PySem.F.type_str_startswith zlj J (zX B jG hs) O Y Z hs rfl) λK H Q u=>by
  show aU λw=>?_;let(i,h,d,b,I,q):=u;let(m,s,I):=zc I;let(p,t,I):=zc I;show w ?_;cases m with
  | str z=>
   cases p with
   |str y=>
    cases I;show(i,h,_,b,s,λv E a x r=>?_);rw[r];show(rfl,a,h,_,b.ext x,t,λG k l C A=>?_);rw[A];show(z,y,rfl,rfl,q _ k l (x.trans C) rfl)
   |_=>cases I
  |_=>cases I
theorem VW(U:j = -1)(S:PV X a f):PV X (.FormattedValue a j af pos) (ny f):=by
 subst U;intro m s L H Q I J;show aU λF=>?_;let(B,K,d,G,E,q):=J;let(y,g,rfl):=zy E;let(O,C,g):=zc g;show F ?_;show _o<|cy (S m s L H (λv A=>∃h,_/\_) I (B,K,O,G,C,λv A h x r=>(h,x,r))) λv M J=>?_;let(x,p,Y,u,k,w,Z):=J;cases O with
 | int i=>
  have g:(if inR i then aa (kU i)else af)=aa y:=g;by_cases l:inR i
  .rw[DJ l]at g;cases g
   rw[Z]at u;let(t,rfl):=u;show _H (dg l) (.str _,p,(Y.tok _).tok _,(_,rfl),q _ p k w rfl)
  lia
 | str z=>
  have g:(if zO z then aa z else af)=aa y:=g;by_cases l:zO z
  .rw[DJ l]at g;cases g
   rw[Z]at u;let(t,rfl):=u;show formatField_str (λN P=>(.str _,p,(Y.kept λb o e=>e),(_,rfl),q _ p k w rfl))<|ZA l
  lia
 |_=>cases g
theorem Lj(x y:Str):(x++y).length=x.length+y.length:=by
 change(x++y).cps.size=x.cps.size+y.cps.size;simpa using (congrArg pT (show(x++y).cps.toList=x.cps.toList++y.cps.toList from by
  change(x.cps++y.cps).toList=_;simp))
def PJ(X:Cx)(j:zn bE)(fs:zn (CO D)):Prop:=∀z m a s e H Q,z.length<=1000*m->m+pT fs<=10->Inv X a e H s->(∃g h d,RC X.K g H e h/\fM fs z h=aa d/\∀v f b,Ext g H b f->Rep X.K b d v->Q v f)->
 ⇑X (joinParts z<|evalEach j ⋯) (EP X a e Q) X.xe s
theorem cD:PJ X [] []:=λz m a s h H Q J f I O=>by let(b,g,d,e,Y,q):=O;cases Y;show joinParts_nilE<|joinParts_nil (.str z,H,I.tok _,(_,rfl),q _ H b (Ext.refl e.sub) rfl)<|et J<|et (Nat.mul_le_mul_left 1000<|by assumption) ()
theorem km(S:PV X e f)(U:PJ X B fs):PJ X (e::B) (f::fs):=λY m b s u H Q ho K I O=>by
 show aU λM=>?_;let(w,p,d,l,J,q):=O;have J:=J;let(y,g,J):=zc J;let(Z,F,g):=zc g;have G:Z=.str y/\zO y:=by
  cases Z with
  |str z=>
   have g:(if zO z then aa z else af)=aa y:=g;lia
  |_=>cases g
 let(rfl,L):=G;show M ?_;have W:=ZD L;have E:m+1+fs.length<=10:=by simp at K;lia
 have j:(Y++y).length<=1000*(m+1):=by rw[Lj];lia
 show joinParts_consE<|BG<|cy (S b s u H (λv h=>∃a,_/\_) I (w,p,_,l,F,λv h a x r=>(a,x,r))) λv R O=>?_;let(x,A,C,k,i,o,P):=O;rw[P]at k;let(t,rfl):=k;show(et j<|et (Nat.mul_le_mul_left 1000<|show m+1<=10 by lia) (),U (Y++y) (m+1) b R u A Q j E C (i,p,d,l.ext o,J,λv h a T N=>q v h a (o.trans T) N))
theorem KZ{S:zn bE}(h:PJ X (j::B::S) fs):PV X (.JoinedStr (j::B::S) pos) (QT fs):=by
 intro a s g H Q I J;let(b,f,d,e,z,q):=J;erw[QT]at z;by_cases O:pT fs<=10
 .rw[DJ O]at z
  show JoinedStr_many<|h oM 0 a s g H Q (cV _) () I (b,f,d,e,z,q)
 lia
theorem JP{j cpos:cH}(Y:PV X o f)(U:PV X e g)(Z:ri o "split" ⋯ (bH o ⋯)=bH o ⋯:=by rfl)
 (B:((ft cpos<|starEach [e] ⋯).all (λx=> !x.1)&&(pf cpos<|keywordEach [] ⋯).all (λx=>x.1.isSome)&&decide ([e].length+([]:zn n5).length+(if ([]:zn n5).isEmpty then 0 else 1)<30)):=by rfl)
 (S:(j.endLine==cpos.line):=by rfl) (hs:ck [e] ⋯=[(aF,bH e ⋯)]:=by rfl):PO X (.Call (.Attribute o "split" j) [e] [] cpos) (vD f g):=
 j3 (nV V' PySem.F.slot_str_split PySem.F.type_str_split CF Y (zX U jG hs) Z B S hs rfl) λL H Q w=>by
  show aU λA=>?_;let(i,h,s,d,I,q):=w;let(m,t,I):=zc I;let(p,u,I):=zc I;show A ?_;cases m with
  | str z=>
   cases p with
   | str y=>
    have I:(if _/\_ then aa _ else af)=aa s:=I;by_cases a:z.length<=20000/\(y.length==0)=aF
    .rw[DJ a]at I;cases I
     show(i,h,_,d,t,λv E b x r=>?_);rw[r];show(rfl,b,h,_,d.ext x,u,λK G k J C=>?_);rw[C];show(z,y,rfl,rfl,a.2,a.1,λl O=>q l _ _ k ((x.trans J).trans (Ext.hide J.sub O _)) (NB (x.trans J).s1 O) (jl J.sub O) zB<|wX _)
    .rw[DY a]at I;cases I
   |_=>cases I
  |_=>cases I
theorem Az:QK X (.type "int") (λxs H Q=>∃z n,xs=[.str z]/\OR z=aa n/\z.length<=640/\Q (.int n) H):=by intro a s e H xs d Q I r h;let(z,n,rfl,b,J,q):=h;let(u,rfl,t,rfl):=kg r;show PySem.W.KIN.call_text b J (.int n,H,I.tok _,(_,rfl),q)
theorem Jf(h:SX X sc N L k)(c:qz sc "int" = ae)(z:X.mg "int" = af)(Y:PV X e f)(hs:ck [e] ⋯=[(aF,bH e ⋯)]:=by rfl):PV X (.Call (.Name "int" p) [e] [] pos) (X4 f):=
 j3 (vG Az (h.gl c).1 z S_ (zX Y jG hs) () () hs rfl) λo H Q Z=>by
  let(g,m,d,l,I,q):=Z;let(O,i,I):=zc I;show(g,m,O,l,i,λv b a ext r=>?_);cases O with
  | str w=>
   have I:(if w.length<=640 then (OR w).map D.int else af)=aa d:=I;by_cases J:w.length<=640
   .rw[DJ J]at I
    let(n,j,rfl):=zy I;show(w,n,by rw[r],j,J,q _ b a ext rfl)
   .rw[DY J]at I;cases I
  |_=>cases I
theorem Hy(B:PV X a f)(S:PV X b g)(U:m3 .In b=aF:=by with_unfolding_all rfl):PV X (.Compare a [.In] [b] pos) (BK f g):=
 j3 (QZ zkQ B S U) λu H Q J=>by
  let(j,i,d,h,I,q):=J;let(O,l,I):=zc I;let(Y,m,I):=zc I;cases O with
  | str z=>
   cases Y with
   |str y=>
    cases I;show(j,i,_,h,l,λv s e x r=>(e,i,_,h.ext x,m,λt k Z p o=>(z,y,r,o,q _ k Z (x.trans p) rfl)))
   |_=>cases I
  |_=>cases I
end
theorem fB(h:cM xs us):∀l:zn Nat,cM (l.filterMap λi=>xs[i]?) (l.filterMap λi=>us[i]?)
 |[]=>.nil
 | i::l=>by
  by_cases a:i<pT xs
  .let(u,e,r):=h.get (eO a)
   rw[DU (eO a),DU e];show .cons r<|fB h l
  .have z:¬i<pT us:=by rw[<-h.length];show a
   rw[M6 (DO ()),M6 (DO ())];show fB h l
theorem fQ{K:aO}{H:Hp}{j:zn D}{xs:zn V}(h:bz K H j xs):∀l:zn Nat,bz K H (l.filterMap λi=>j[i]?) (l.filterMap λi=>xs[i]?)
 |[]=>bz.nil
 | i::l=>by
  by_cases a:i<j.length
  .let(u,e,r):=h.get (eO a)
   rw[DU (eO a),DU e];show bz.cons r<|fQ h l
  .have z:¬i<xs.length:=by rw[h.length];show a
   rw[M6 (DO ()),M6 (DO ())];show fQ h l
def US(K:aO)(te:TE)(B j J:TO):TE:=λb H Q=>te b H λx e=>B b e λl f=>j b f λu I=>J b I λk z=>k≠aa 0/\∃a d,x=.ref a/\dY K z a d/\(QY d l u k).length<=cP/\∀p,z p=af->Q (.ref p) (upd z p<|.lst<|QY d l u k)
section
variable{X:Cx}{a e:bE}{p2 pos:cH}
theorem zkO{lo j:xz bE}{st:bE}{te:TE}{S B U:TO}(W:PE X e te)(hl:L2.PO X lo S)(hu:L2.PO X j B)(hk:L2.PO X (aa st) U):PE X (.Subscript e (.Slice lo j (aa st) p2) pos) (US X.K te S B U):=by
 intro a s d H Q I h;show Pe (cy (W a s d H _ I h) λv s1 C=>?_);let(x,g,o,r1,R):=C;show wpAny_Slice (cy (hl a s1 d g _ o R) λzlv s2 (l,i,p,N,T)=>cy (hu a s2 d i _ p T) λzly s3 (u,k,t,P,zkf)=>cy (hk a s3 d k _ t zkf) λzlu O (f,m,w,M,q4)=>?_);show aU λz=>?_;let(L,b,xs,rfl,G,y,q):=q4;show z ?_;cases r1;have J:Inv X a d m {O with heap:=O.heap.push {cls:=.type "slice",data:=.fields #[zlv,zly,zlu]}}:=w.kept λb ob q=>cW _ q;show aU λz=>?_;let(Y,r,Z,F):=J.list G;show z ?_;have E:=r.length;show tail_any Z.isList.typeIs _N.lookup ?_ (by rfl);show zlD Z.isList (Heap.IsSliceOf.new ..) N P M L ?_ (by rw[eW];lia);have A:SD Y.toArray l u f=(QY Y l u f).toArray:=by erw[SD,QY,gb];simp
 rw[A];show(.ref _,_,J.Lc (by
  erw[QY];rw[E];show fB r _) y,rfl,q _<|J.bQ.fresh<|cV _)
theorem cu{lo σ:xz bE}{st:bE}{S:CO (Sk×zn D)}{B O fs:CO (xz Int)}(W:PQ X a S)(hl:L2.PO X lo (tB X.K B))(hh:L2.PO X σ (tB X.K O))(hk:L2.PO X (aa st) (tB X.K fs)):PO X (.Subscript a (.Slice lo σ (aa st) p2) pos) (He S B O fs):=
 j3 (zkO W hl hh hk) λU H Q F=>by
  show aU λG=>?_;let(p,f,ds,d,z,q):=F;let((M,h),w,z):=zc z;let(l,y,z):=zc z;let(u,A,z):=zc z;let(c,C,z):=zc z;show G ?_;cases M with
  |T=>cases z
  | L=>
   have z:=z;by_cases i:c=aa 0
   .rw[DJ i]at z;cases z
   rw[DY i]at z;by_cases j:(QY h l u c).length<=lim
   .rw[DJ j]at z;cases z
    show(p,f,.L,h,d,w,λb o P g x E h2 r=>(g,f,l,d.ext x,y,λR s I=>(s,f,u,(d.ext x).ext I,A,λH3 t e=>(t,f,c,((d.ext x).ext I).ext e,C,λH4 Y J=>?_))));have Z:=x.trans<|I.trans<|e.trans J;have m:bz X.K Y (QY h l u c) (QY o l u c):=by erw[QY];rw[r.length];show fQ (r.mono (I.trans<|e.trans J).s0) _
    show(i,b,o,rfl,(I.trans<|e.trans J).s1.seq E,et (by rw[m.length];show j) (),λN k=>q N _ _ Y (Z.trans<|Ext.hide J.sub k _) (xl Z.s1 k) (jl J.sub k) zB m)
   .rw[DY j]at z;cases z
end
theorem Ua{K:aO}(I:K.In h)(G:h.Ns gp e)(a:oL K gp x=aa (aa (.str z t))):GL K e x (.str z):=
 (_,.str z,sf I G a,(t,rfl),λq=>(rfl))
def Hg(g:CO (Sk×zn D))(e:CO D):CO D:=λb=>(g b).bind λa=>(e b).bind λx=>match a.1 with
 |.L=>if (f6 x/\mm a.2)/\a.2.length<=lim then (a.2.findIdx? λd=>fx d x).map λ(j:Nat)=>D.int (j:Int)else af
 |.T=>af
def RQ(K:aO):V->zn V->Hp->VK->Prop:=λx g H Q=>∃b e v p f a j,dj b H/\x=.ref p/\g=[v]/\Rep K b e v/\dY K H p f/\bz K b a f/\f6 e/\mm a/\(pT a)<=lim/\a.findIdx? (λd=>fx d e)=aa j/\Q (.int (j:Nat)) H
theorem dP(z:ff x):∀e,mm e->(i1 e).findIdx? (λy=>qs y<|fP x)=e.findIdx? λd=>fx d x
 |[],_=>by rfl
 |d::e,h=>by simp?[mm,eH]at h;simp?[i1,List.findIdx?_cons];rw[F9 d x h.1 z,dP z e h.2]
set_option tactic.hygienic true in
theorem Im{X:Cx}(hu:X.A.units+66<oR):C6 X "list.index" (RQ X.K):=by
 intro k s U H x vs v us Q I Z rv h;show aU λN=>?_;let(H0,d,y,p,xs,b,j,sub,rfl,rfl,S,L,T,z,J,ap,G,q):=h;show N ?_;cases Z;let(w1,rfl,rw):=kg rv;let(as,σ):=z6 I sub (yH z) S rw;let(bs,W):=ziU I sub L T J;have hs:=PySem.SeqAt.depth_of_shaped<|wR z;have O:=La b J;cases W with
 | list i C E f=>
  rename_i P Y n aw
  let(oc,R,ax,g):=P;subst C E;have e:Y.toList.findIdx? (λy=>qs (PySem.SeqAt.readOf s.heap y)<|fP d)=aa j:=by simp?[<-G,<-dP (yH z) b J,<-PySem.SeqAt.readsAll_map _ _ _ O f,List.findIdx?_map];rfl
  rw[List.findIdx?_eq_some_iff_getElem]at e;let(o,r,u):=e;have B:= ~~~o
  have b2:=by
   have t l:(i1 l).length=l.length:=by induction l with
    |nil=>simp[i1]
    |cons a l M=>simp[i1,M]
   simpa[t]using (congrArg pT<|PySem.SeqAt.readsAll_map _ _ _ O f)
  have b3:lim<2^62:=by erw[lim];decide
  show nZ F.slot_list_index (_,i,rfl) F.entry_list_index (F.args_list_index_2 _ _) (PySem.SeqAt.list_indexAt p Y n R g w1 _ j B () (~~~r)<|λm hm w=>~~~u m w) (i,PySem.SeqAt.items_eqAt f σ O (P0 d<|yH z) ?_,(.int _,H,I.tok _,(_,rfl),q))
  .have:min (T9<|i1 b) (fP d).depth<=_:=_b _ _
   lia
section
variable{X:Cx}{sc:cS}{N L:zn Str}{k:Nat}{o e:bE}{apos cpos:cH}{fa:CO D}{g:CO (Sk×zn D)}
theorem Hz(h:SX X sc N L k)(O:PQ X o g)(S:PV X e fa)(Y:ri o "index" ⋯ (bH o ⋯)=bH o ⋯:=by rfl)
 (Z:((ft cpos<|starEach [e] ⋯).all (λx=> !x.1)&&(pf cpos<|keywordEach [] ⋯).all (λx=>x.1.isSome)&&decide ([e].length+([]:zn n5).length+(if ([]:zn n5).isEmpty then 0 else 1)<30))=ae:=by rfl)
 (B:(apos.endLine==cpos.line)=ae:=by rfl) (hs:ck [e] ⋯=[(aF,bH e ⋯)]:=by rfl):PV X (.Call (.Attribute o "index" apos) [e] [] cpos) (Hg g fa):=
 j3 (nV T_ PySem.F.slot_list_index PySem.F.type_list_index (Im h.u66) O (zX S jG hs) Y Z B hs rfl) λW H Q E=>by
  show aU λG=>?_;let(u,t,d,l,z,q):=E;let((K,b),A,z):=zc z;let(x,y,z):=zc z;show G ?_;cases K with
  |T=>lia
  | L=>
   have z:=z;by_cases a:(f6 x=ae/\mm b=ae)/\b.length<=lim
   .rw[DJ a]at z
    let(j,C,rfl):=zy z;show(u,t,.L,b,l,A,λp s R f m i U r=>(.inl (rfl,s,i),f,t,x,l.ext m,y,λP w J I M=>(J,x,P,p,s,b,j,I.sub,rfl,rfl,M,I.s1.seq i,r.mono I.s0,a.1.1,a.1.2,a.2,C,q _ w J (m.trans I) rfl)))
   .rw[DY a]at z;cases z
end
section
variable{X:Cx}{sc:cS}{N L:zn Str}{k:Nat}
theorem Ey{σ:TW}{U:St}{D:Ends}{Z j:Nat}{nx zx:Str}{np pz pn al b7:cH}(h:SX X sc N L k)(a4:X.stack=⋯::X.outer/\⋯.frame=aa ⋯.locals)
 (x:XS X.K X.mg) (am:qz sc "SplitError" = ae) (cn:yc sc N L Z nx) (cl:decide (sc.names.lookup nx=aa .local)) (cv:xy sc N Z nx) (cz:yc sc N L j zx)
 (lf:Left X σ U H0 H cc ev s') (bd:∀b G G0,Ext H0 H G0 G->Rep X.K G0 (.exc cc.1 cc.2) (.ref b)->D.nx (((U.set Z<|some (.ref b)).set j (aa (.ref b))).set Z af) G)
 (hs:hU (.Name nx pn) (aa (.Name zx pz)) al.line ⋯=pure aF:=by rfl):
 ⇑X (Dp ev ⋯) (λw s2=>⇑X (pH ev af) (λw s3=>
  ⇑X (handleBy ev ⋯ [.ExceptHandler (aa (.Name "SplitError" np)) (aa nx) [.Assign [.Name zx pz] (.Name nx pn) al] b7]) (SP X σ D) X.xe s3) X.xe s2) X.xe s':=by
 show aU λs=>?_;let(H1,n4,s1,O,x1,a,C,H',E,rfl,(m,cU,eC,xa,xm,xc,xn,x2),bf,bg,bi,un,R,Y,d5,(B,t,fl,bl,as)):=lf;obtain rfl:m=C:=(UC eC).symm;show s ?_;rw[a4.1]at fl;show aU λs=>?_;let(S,d6,bn,bv,bx,c0,c4):=x.ex;let(S',znF,y1,I,y3):=Jb xa xm xc;obtain rfl:S'=S:=()
 show s ?_;have aw J:n0 B (⋯::X.outer) a (.ref m) (.ref t) J->s'.heap.UpToSlots J->gB E a J->L2.Inv X σ U (upd H' a<|.ext λg=>aX g a m/\gB E a g) {s' with heap:=J}:=λf sm dk=>by
  have obj:aX J a m:=by let(oe,p,w,w,w,M,(P,w),Q,w):=f.2.2.2;show(oe,p,M,P,Q)
  have ax b:b∈hS X.stack->∃o,s1.heap.get? b=aa o/\(∀p,o.data ≠ .fields p)/\∃sl,J.get? b=aa {o with slots:=sl}:=λl=>by let(w,o,q,nf):=O.stack.mem l;let(sl,z):=un.slot b o q (O.u4 b l) l ();let(c9,z'):=sm b _ z nf;show(o,q,nf,c9,z')
  show O.F7 (ch:=[]) bg (λb o q n l w=>f.1 b o<|as b o (un.keep b o q n l ()) () l,λb o q n l w=>?_,λb o q n w=>?_,λb o q w=>?_,λb xs q=>?_,λb o u q=>?_,λb ps q=>?_) ?_ bi (λw z=>nomatch z)
  .let(y,q',_,z):=ax b l
   rw[q]at q';cases q';show z
  .rw[zC ((λb o q z=>by lia) b o q)];show un.free b o q n ()
  .by_cases l:b∈hS X.stack
   .let(y,_,_,sl,z):=ax b l
    show(_,z)
   .let(y,z):=un.there b o q ()
    show(y,f.1 b y<|as b y z () l)
  .have z:=un.m9 b xs q
   rw[zC (jd z Y)];show z
  .have z:=un.mS b o u q
   rw[zC (jd z Y)];show z
  .let(more,z):=un.mU b ps q
   show(more,by rw[zC (jd z Y)];show z)
  .refine uM (yM R λb u n q=>f.1 b u<|bl b u q n) Y (obj,dk) ?_ ?_
   .let(o,_,e,_):=obj;show(o,e)
   .rintro g1 g2 ⟨⟨o,p,e,r⟩,cb⟩ kk
    show((o,p,kk o e,r),cb.obj kk)
 show um (by rw[<-a4.1];show O.ok.frames) a4.2 fl bf λh4 ce b2 cf=>?_;show uw ce cf λh5 F b3 b4=>?_;have I5:=ay (aw h5 F (b2.trans b3) b4)<|.ref a;have ci:aX h5 a m:=by let(oe,p,w,w,w,M,(P,w),Q,w):=F.2.2.2;show(oe,p,M,P,Q)
 show zlE (zhe<|xE I5 ((h.gl am).1) bn ?_ (h.gl am).2.2) (by intro q;cases q);show(zhZ I5.df ci bv bx c0 (by
  have I:=I;erw[nY]at I;by_cases z:(i3 m==i3 S')
  .have e:=UC (beq_iff_eq.mp z)
   subst e;show c4
  .rw[DY z]at I
   erw[PySem.W.kitCls]at I;dsimp only at I;split at I
   .exact I
   lia)) _ _ _ _ (λw w z=>z) ?_
 show codeAny_handlers_suite_as<|FM F b4 λh6 cj cm co=>?_;show aU λs=>?_;let(T,n2,ziR):=h.loc cn;let(z1,z2,z3):=h.loc cz;show s ?_;show WI (X:=tD X<|.ref a) (v:=.ref a) (ay (aw h6 cj ((b2.trans b3).trans cm) co)<|.ref a) h.tG T n2 rfl (λs7 I7=>?_) ziR;have cx:=Ff (X:=tD X<|.ref a) h.tG z1 z2 (by
  erw[xy]at cv;simp?[eH,t4,decide_eq_true_eq,t8]at cv;let(((v1,v2),v3),v4):=cv;show tq (by assumption) ?_ v3 v4;change xB ⋯.scope nx;erw[xB];rw[h.l4];lia) hs z3
 show cT ((kY cx) σ s7 _ _ {nx:=λmO Hn=>mO=(U.set Z<|some (.ref a)).set j (aa (.ref a))/\Hn=upd H' a (.ext λg=>aX g a m/\gB E a g),rt:=λw w=>False} I7
  (.ref a,kr (by
  rw[O.len];show(i8.mp T).1),rfl,rfl)) (λf s8 z=>?_) λw w z=>z.elim
 cases f with
 | next=>
  let(_U,H8,I8,rfl,rfl):=z;show zli (dC O.ok I8) h.tG T (by rw[h.l4];show of_decide_eq_true cl) λs9 I9=>(_,_,I9,bd a _ _ (x1.trans<|x2.trans<|Ext.alloc x2.sub Y<|.ext λg=>aX g a m/\gB E a g) (by
   show((a,rfl,xa,xm,m,_,xc,zB,λw z=>z.1,?_));erw[Jo]at xn;cases hc:cc.2 with
   |none=>trivial
   |some i=>
    rw[hc]at xn;let(d,d4,b6):=xn;show(d,λg z=>z.2.1 d d4,by rw[zC (λq=>by rw[q,x2.sub.free Y]at b6;lia)];show b6)))
 |ret v=>let(w,w,w,w,w,z):=z;show z.elim
 |brk=>let(w,w,w,z):=z;show z.elim
 |cont=>let(w,w,w,z):=z;show z.elim
end
abbrev ZF:=zn D->xz (D×D)
def Mf(f1:CO D)(tA tB tC:CO Bool)(e j B:zn D->xz Res):ZF:=λf=>match f with
 |[d,l]=>(f1 [.no,.val l,.no]).bind λz=>(tA [.no,.val l,.val z]).bind λa=>if a then af else
  (if y9 d then tB [.no,.val l,.val z]else aa aF).bind λb=>if b then af else
  (tC [.no,.val l,.val z]).bind λc=>if c then (e [d,z]).map λr=>(nB r,d)else (j [d,z]).bind λr=>(B [nB r]).map λq=>(nB q,nB r)
 |_=>af
abbrev ZT:=Ctx->D->xz (Bool×D)
def DE(t u:ZT):ZT:=λa d=>(t a d).bind λr=>if r.1 then aa (ae,r.2)else u a r.2
def rP(e:zn Str)(f:CO D):CO D:=λa=>(f a).bind λd=>match d with
 |.str x=>aa (.bl<|!decide (x∈e))
 |_=>af
def TM(e:zn (Str×Int))(f:CO D):CO D:=λa=>(f a).bind λd=>match d with
 |.str x=>(e.lookup x).map D.int
 |_=>af
theorem Xl(v):(ik v).lookup ("row" : Str)=aa v:=by erw[ik];rw[Jp,DJ rfl]
theorem lS(v):(ik v).lookup ("tell" : Str)=af:=by rfl
structure q3(K:aO)(C:ak):Prop where
 cls:oO K C
 nr:uq K C "row"
def du(H:Hp)(p:ak):Hp:=λb=>if b=p then af else H b
theorem Ko{p:ak}:du H p p=af:=DJ rfl
theorem JY{p b:ak}(h:b≠p):du H p b=H b:=DY h
theorem zls:dj (du H p) H:=λb o e=>by
 by_cases z:b=p
 .rw[z,Ko]at e;cases e
 .rw[JY z]at e;show e
theorem IB:∀xs,HO.ins C e fs ≠ .lst xs:=λxs z=>by cases z
section
variable{K:aO}{E0 E H0 H cU H':Hp}{U:St}{M:Ctx}{p:ak}{u:HO}
theorem RS.less(r:RS K E0 E H0 H U M)(j:M.any yL=aF)(B:H p=aa u)(J:∀xs,u ≠ .lst xs)(O:H0 p=af)(S:E p=af):RS K E0 E H0 (du H p) U M:=by
 have I:dj H0 (du H p):=λb o e=>by rw[JY (λz=>by lia)];show r.rc.sub b o e
 show((I,r.rc.len,r.rc.val,λi g e=>?_,r.rc.ne,lp.uZ<|uc j),(r.ext.s0,λb o e=>by rw[JY (λz=>by lia)];show r.ext.s1 b o e,I,r.ext.new),r.fresh,λi d a xs e=>absurd e<|uc j i d);let(a,xs,h,k,f,l):=r.rc.own i g e;show(a,xs,h,k,by rw[JY ((λe z=>by rw[z,B]at e;show J _<|l8 e) f)];show f,l)
theorem iI(s:dj H0 H)(q:∀v H' cU,Ext H0 H cU H'->Rep K cU (nB r) v->Q v H'):UF K H0 H Q r:=by
 cases r with
 |val d=>show q
 |own fs=>show λa h H' cU z e b f g=>q _ H' _ (z.show e b f s)<|(a,h,rfl,dY.of zB,g.mono<|jx b _)
theorem sx(h:Rep K H d v):decide (v=.cI)=y9 d:=by
 by_cases z:d=.cI
 .subst z
  rw[h];rfl
 .rw[decide_eq_false (λq=>z<|KR<|q ▸ h)]
  cases d with
  |cI=>show absurd rfl z
  |_=>rfl
end
inductive L4(K:aO)(C:ak)(F:ZF)(vs:List V)(H:Hp)(Q:VK)(_:XK):Prop
 |mk (H0 p dx v d l lv o d') (_:vs=[.ref p,lv]) (_:dj H0 H) (_:H0 p=af) (_:H p=aa (.ins C dx<|ik v)) (_:Rep K H0 d v) (_:Rep K H0 l lv) (_:F [d,l]=aa (o,d')) (_:∀u v' H' cU,Ext H0 (du H p) cU H'->H' p=aa (.ins C dx<|ik v')->cU p=af->Rep K cU o u->Rep K cU d' v'->Q u H')
inductive SG(K:aO)(C:ak)(G:List D->Option Xn)(vs:List V)(H:Hp)(_:VK)(E:XK):Prop
 |mk (H0 p dx v d l lv c) (_:vs=[.ref p,lv]) (_:dj H0 H) (_:H0 p=af) (_:H p=aa (.ins C dx<|ik v)) (_:Rep K H0 d v) (_:Rep K H0 l lv) (_:G [d,l]=aa c) (_:∀C' H' cU od,Vl K=ae->c.1∈g0->wF K c.1=aa C'->Jo c od cU->Ext H0 H cU H'->E (.ref C') od H')
def VL:TS:=λ_ _ _=>False
theorem K5:gj X e VL:=λq q q q q q h=>h.elim
abbrev Mj(K:aO):TE:=TK K (eY 0) "row"
abbrev zad:R2:=λx y H Q=>y=.cI/\Q (.bl (decide (x=.cI))) H
abbrev WE(K:aO)(tB:CO Bool):L2.TT:=TL (GP (A3 zad (Mj K) (tC .cI))) (tT K tB)
def Rt(K:aO)(f1:CO D)(tA tB tC:CO Bool)(e j z:zn D->xz Res):TS:=
 pq (WH (tV K f1)<|yY 2) (pq (OM (tT K tA) VL BD) (pq (OM (WE K tB) VL BD) (pq (OM (tT K tC) (OL<|XZ (l5 K 2 e) [] E0 (WG (Mj K)<|WG (tV K<|zf 2) Bc)) BD)
  (pq (RJ K (eY 0) (XZ (l5 K 2 j) [] E0 (WG (Mj K) (WG (tV K (zf 2)) Bc))) "row") (OL (XZ (l5 K 1 z) [] E0 (WG (Mj K) Bc)))))))
theorem sj{K:aO}(B:dj e H)(z:Rep K e l j):RS K e H e H (Jc ["self","line","words"] [.ref p,j]) [.no,.val l,.no]:=
 (JI (N:=["self","line","words"]) B (bz.cons (d:=D.cI) rfl (bz.cons z bz.nil)) (show 2<=3 by decide)).forget (i:=0)
theorem IX{A B:Prop}(h:B):if (aF)then A else B:=by rw[DY i4];show h
theorem p_{A B:Prop}(h:A):if (ae)then A else B:=by rw[DJ rfl];show h
section
variable{P:cQ}{w:cN}{K:aO}{mg:DZ}{base:bN}{k:Nat}{q:Str}{st:de}{f C:ak}{fd:gh}{f1:CO D}{tA tB tC:CO Bool}{FA FC FR:zn D->xz Res}
theorem Eb(Fu:L2.i5 K "tell" q st f fd)(hd:Zp ["self","line","words"] ["self","line"] st)(c:q3 K C)
 (bd:∀X,X.prog=P->X.w=w->X.K=K->X.mg=mg->X.base=base->SX X (zR st) ["self","line","words"] ["self","line","words"] k->gj X (jL st) (Rt X.K f1 tA tB tC FA FC FR)):
 fh P w K mg base gx (k+1) f fd ["self","line"] (L4 K C (Mf f1 tA tB tC FA FC FR)):=by
 have S:=kz hd;show Fu.ok S (λvs H Q E h=>by let(N,p,g,v,d,l,lv,o,d',rfl,n):=h;rfl) λDg A outer s H vs Q E hr bf=>(_,bd _ rfl rfl rfl rfl rfl (rfl,rfl,S.nd,rfl,hr,λn n=>.inl rfl),?_);show aU λkZ=>?_;let(N,p,g,v,d,l,lv,o,d',rfl,s0,h0,hp,rv,rl,I,qq):=bf;let(m,e1,I):=zc I;let(a,e2,I):=zc I;show kZ ?_;have aw:=sj (p:=p) s0 rl;cases a with
 |true=>cases I
 | false=>
  let(b,e3,I):=zc I;cases b with
  |true=>cases I
  | false=>
   let(cc,e4,I):=zc I;show(N,_,m,aw.rc,e1,λwv H1 U x1 r1=>?_);have b0:=(aw.rc.ext x1).mT (i:=2) r1;show(U,_,aF,b0,e2,λW a7 x2=>IX ?_);have t:=x1.trans x2;have b2:=b0.ext x2;have T:∀D,(∀H' R,Ext a7 W R H'->D aF H')->WE K tB ((Jc _ [.ref p,lv]).set 2 (aa wv)) W D:=λD hD=>by
    show(.ref p,rfl,p,C,g,ik v,v,rfl,t.s1 _ _ hp,c.cls,c.nr,Xl v,rfl,_,rfl,?_);rw[sx (rv.mono t.s0)];cases hn:y9 d with
    |true=>
     rw[hn,DJ rfl]at e3;rw[DJ rfl];show(a7,_,aF,b2,e3,hD)
    |false=>
     rw[DY i4];show hD W a7<|Ext.refl t.sub
   show T _ λH3 bv x3=>IX ?_;have b4:=b2.ext x3;show(bv,_,cc,b4,e4,λH4 a8 x4=>?_);have x:=(t.trans x3).trans x4;have b6:=b4.ext x4;have B:=x.s1 _ _ hp;have a9:=rv.mono x.s0;have b7:=x.new p h0 ();have E4:∀{G M},Ext a8 H4 M G->Ext N (du H p) M G:=λ{G M} y=>by
    have z:=x.trans y;show(z.s0,λb o e=>z.s1 b o<|zls b o e,z.sub,λb q1 Y=>by
     by_cases hb:b=p
     .subst hb;show absurd Ko Y
     .rw[JY hb]at Y;show z.new b q1 Y)
   cases cc with
   |true=>
    rw[DJ rfl]at I;let(r,e5,e6):=zy I;cases e6;show p_ (.ref p,rfl,p,C,g,ik v,v,rfl,B,c.cls,c.nr,Xl v,a8,_,m,b6,rfl,λc0 H5 am J r5=>?_);show(am,[d,m],r,J.sub,bz.cons (a9.mono J.s0)<|bz.cons r5 bz.nil,rfl,e5,iI J.sub λu H6 F x6 L=>?_);have O:=J.trans x6;show qq u v H6 F (E4 O) (O.s1 _ _ B) (O.new p b7 ()) L<|a9.mono O.s0
   | false=>
    let(r,e5,I):=zc I;let(r2,e6,e7):=zy I;cases e7;show IX (.ref p,rfl,p,C,g,ik v,v,rfl,B,c.cls,c.nr,Xl v,a8,_,m,b6,rfl,λc0 H5 am J r5=>?_);show(am,[d,m],r,J.sub,bz.cons (a9.mono J.s0)<|bz.cons r5 bz.nil,rfl,e5,iI J.sub λu H6 F x6 L=>?_);have O:=J.trans x6;have c8:=O.new p b7 ();show(.ref p,rfl,p,C,g,ik v,rfl,O.s1 _ _ B,c.cls,c.nr,by change 1<1000;decide,?_);have s6:dj F (upd H6 p<|.ins C g<|ik u):=λb Z e=>by rw[zC (λz=>by lia)];show O.sub b Z e
    show(.ref p,rfl,p,C,g,ik u,u,rfl,zB,c.cls,c.nr,Xl u,?_);show(F,[nB r],r2,s6,bz.cons L bz.nil,rfl,e6,iI s6 λu2 H7 ca j r7=>?_);have z:=E4 O;show qq u2 u H7 ca (z.s0.trans j.s0,λb Z e=>j.s1 b Z (by rw[zC (λy=>by rw[y,Ko]at e;cases e)];show z.s1 b Z e),j.sub,λb q1 Y=>?_) (j.s1 _ _ zB) (j.new p c8<|by rw[zB];simp) r7<|L.mono j.s0
    .refine j.new b (z.new b q1 Y) ?_
     rw[zC (λy=>by rw[y,Ko]at Y;show Y rfl)];cases y:du H p b with
     |none=>show absurd y Y
     |some Z=>rw[z.s1 b Z y];simp
end
def Mn(C:ak):Sp:=λb H Q _=>∃x a,b=[.ref x]/\H x=aa (.ins C a [])/\Q .cI (upd H x<|.ins C a<|ik .cI)
structure uz(P:cQ)(w:cN)(K:aO)(mg:DZ)(base:bN)(j:Nat)(C:ak)(TF:ZF)(TG:List D->Option Xn):Prop where
 ex:∃(f:ak) (fd:gh),q3 K C/\C5 K C "tell" f/\↑fh gx j f fd ["self","line"] (L4 K C TF)/\↑fh (gy P w) j f fd ["self","line"] (SG K C TG)/\Binds K fd ["self","line"] []
section
variable{P:cQ}{w:cN}{K:aO}{mg:DZ}{base:bN}{k:Nat}{q:Str}{st:de}{f C:ak}{fd:gh}
theorem Ef(z:L2.i5 K "__init__" q st f fd)(e:Zp ["self"] ["self"] st)(c:q3 K C)
 (I:∀X,X.prog=P->X.w=w->X.K=K->X.mg=mg->X.base=base->SX X (zR st) ["self"] ["self"] k->gj X (jL st) (RJ X.K (eY 0) (tC .cI) "row")):
 fh P w K mg base gx (k+1) f fd ["self"] (Mn C):=by
 have S:=kz e;show z.ok S (λg H Q E h=>by let(x,b,rfl,v):=h;rfl) λd A a s H g Q E J O=>(_,I _ rfl rfl rfl rfl rfl (rfl,rfl,S.nd,rfl,J,λv v=>.inl rfl),?_);let(x,b,rfl,Y,Z):=O;show(.ref x,rfl,x,C,b,[],rfl,Y,c.cls,c.nr,(),Z)
end
section
variable{X:Cx}{sc:cS}{N L:zn Str}{k j:Nat}{C:ak}{TF:ZF}{TG:zn D->xz Xn}{o a:bE}
theorem IK(hT:⇑uz j C TF TG)(hj:j<=k)(h:SX X sc N L k)(ho:PE X.eQ o (eY 0))(ha:PE X.eQ a (eY 1))
 (I:Inv X B U H s) (z0:U[0]? = aa (aa (.ref p))) (z1:U[1]? = aa (aa lv)) (s0:dj σ H) (h0:σ p=af) (hp:H p=aa (.ins C dx<|ik v)) (rv:Rep X.K σ d v) (rl:Rep X.K σ l lv) (eG:TG [d,l]=aa cc)
 (Y:ck [a] ⋯=(aF,bH a ⋯)::ck [] ⋯:=by rfl) (a8:(ft pos<|starEach [] ⋯).any (·.1)=aF:=by rfl) 
 (ht:bH (.Call (.Attribute o "tell" S) [a] [] pos) ⋯=(do
   let Z<-bH o ⋯
   oX S.atName
   let (f,first)<-ml [Z] (Dl Z "tell" pl)
   Pj pos f first (ft pos<|starEach [a] ⋯) (pf pos<|keywordEach [] ⋯)):=by rfl):
 ⇑X (bH (.Call (.Attribute o "tell" S) [a] [] pos) ⋯) (λq q=>False) (Left X B U σ H cc) s:=by
 let(f,fd,c,G,q,F,hb):=hT.ex;show PySem.W.methodCall_KW (cT (ho B s U H (λx m=>x=.ref p/\m=H) (I.cY _) (_,z0,rfl,rfl)) (λu s1 hZ=>?_) λq q z=>z.elim) ht;let(x,m,O,rx,rfl,rfl):=hZ;obtain rfl:u=i3 p:=rx;have O:=O.gL;show Wd O hp c.cls G (lS v) ?_;show D8 I.ok.mod.oS G.kp (cT ((zX ha jG Y) pos B s1 U m (λP g=>P=[lv]/\g=m) (O.cY _) (_,z1,rfl,rfl)) (λus y (P,g,J,r,R,Q)=>(J.gL.df,?_)) λq q z=>z.elim) Y a8;subst R Q;have J:=J.gL;show o8 (pS (F.run X.A X.stack y g _ _ (V.ref p::[lv]) (λq q=>False) (λt M E=>∃C b,t=.ref C/\_/\_/\_=aa C/\Jo cc M b/\Ext σ g b E) (h.room.mono hj) J.nR
  (~~~hb y (i3 p::us) J.df (~~~(by rw[<-r.length];rfl))) (.cons rfl r) (σ,p,dx,v,d,l,lv,cc,rfl,s0,h0,hp,rv,rl,eG,λC E b M xa xm xc xn xx=>(C,b,rfl,xa,xm,xc,xn,xx))) λr s' i=>?_)
 cases r with
 |error e=>show(g,σ,y,J,Ext.refl s0,i)
 |ok T=>
  cases T with
  |ret u=>let(q,q,q,q,q,q,q,z):=i;show z.elim
  |next=>show i.elim
  |brk=>show i.elim
  |cont=>show i.elim
end
structure ZS(K:aO)(i:Nat)(C p dx:ak)(E0 E H0 H:Hp)(U:St)(M:Ctx)(d:D):Prop where
 rs:RS K E0 E H0 H U M
 nn:M.any yL=aF
 sl:U[i]? = aa (aa (.ref p))
 h0:H0 p=af
 he:E p=af
 hp:∃v,H p=aa (.ins C dx<|ik v)/\Rep K H0 d v
theorem ZS.step{K:aO}{E0 E B H j H':Hp}{d:D}(z:ZS K i C p I E0 E B H J M d)(e:Ext B H j H'):ZS K i C p I E0 E j H' J M d:=by let(v,a,b):=z.hp;show(z.rs.step e,z.nn,z.sl,e.new p z.h0 (),z.he,v,e.s1 _ _ a,b.mono e.s0)
inductive tN(K:aO)(i:Nat)(C:ak)(t:ZT)(U:St)(H:Hp)(Q:Bool->Hp->Prop):Prop
 |mk (p dx E0 E H0 M d r) (_:ZS K i C p dx E0 E H0 H U M d) (_:t M d=aa r) (_:∀H' cU,ZS K i C p dx E0 E cU H' U M r.2->Q r.1 H')
section
variable{X:Cx}{i:Nat}{C:ak}{c c2:bE}{t u:ZT}{pos:cH}
theorem Hu(e:PT X c (tN X.K i C t)):PW X (.BoolOp .Or [c] pos) (tN X.K i C t):=EZ e
theorem MQ(B:PT X c (tN X.K i C t))(S:PW X (.BoolOp .Or [c2] pos) (tN X.K i C u)):PT X (.BoolOp .Or [c,c2] pos) (tN X.K i C<|DE t u):=by
 show(Hw (MH B S) λr H Q Z=>?_).pt;show aU λm=>?_;let(p,e,J,O,j,h,d,o,z,I,Y):=Z;let(b,l,I):=zc I;show m ?_;show(p,e,J,O,j,h,d,b,z,l,λk a g=>?_);by_cases f:b.1
 .rw[DJ f]at I ⊢
  cases I;show Y k a g
 .rw[DY f]at I ⊢
  show(p,e,J,O,a,h,b.2,o,g,I,Y)
end
abbrev GE:=Str×l0×Int×l0
structure ui(w:cN)(K:aO)(mg:DZ)(x:Str)(kv:List (Str×Int)):Prop where
 ex:∃a o es ep,∃zs:List GE,mg x=aa (.ref a)/\(a==pK)=aF/\K.lookup a=aa o/\o.ExactDict/\o.data=.dict es ep/\es.toList=zs.map (λz=>(H9 w z.1,.str z.1 z.2.1,.int z.2.2.1 z.2.2.2))/\zs.map (λz=>Prod.mk z.1 z.2.2.1)=kv
theorem FD(k):∀j:zn GE,(((j.map λz=>((H9 w z.1,.str z.1 z.2.1,.int z.2.2.1 z.2.2.2):O7)).find? λe=>(strKind P w).is k e.key).map (·.val))=(j.find? λz=>z.1==k).map λz=>vu z.2.2.1 z.2.2.2
 |[]=>rfl
 | z::j=>by
  rw[kT];by_cases h:z.1=k
  .rw[List.find?_cons_of_pos (by show(by rw[h];show O3 P w k _)),List.find?_cons_of_pos (~~~h)]
   rfl
  .rw[W_ (by show(λq=>h<|(strKind P w).inj _ _ _ (O3 P w z.1 z.2.1) q)),W_ (~~~h)]
   show(FD (P:=P) (w:=w) k j)
theorem NY{h:bN}{H:Nat}{B:zn GE}(I:h.get? a=aa o)(J:o.ExactDict)(S:o.data=.dict j H)(O:j.toList=B.map (λz=>(H9 w z.1,.str z.1 z.2.1,.int z.2.2.1 z.2.2.2))):
 h.MapOf (strKind P w) a (λk=>(B.find? λz=>z.1==k).map λz=>vu z.2.2.1 z.2.2.2):=by
 show(o,j,H,I,J,S,λe b=>?_,λk=>?_)
 .have b:e∈j.toList:= ~~~b
  rw[O]at b;let(z,q,rfl):=eU.mp b;show(z.1,O3 P w z.1 _,rfl)
 .unfold findBy
  have:=FD (P:=P) (w:=w) k B;rw[<-O,Array.find?_toList]at this;show this
theorem NX(k):∀e:zn GE,((e.find? λz=>z.1==k).map λz=>vu z.2.2.1 z.2.2.2).isSome=decide (k∈(e.map λz=>Prod.mk z.1 z.2.2.1).map (·.1))
 |[]=>by simp
 |z::e=>by grind
theorem Ud:∀{j:zn GE},(j.map λz=>Prod.mk z.1 z.2.2.1).lookup k=aa i->∃t,((j.find? λz=>z.1==k).map λz=>vu z.2.2.1 z.2.2.2)=aa (.int i t)
 |[],e=>by cases e
 | z::j,e=>by
  by_cases h:z.1=k
  .simp_all
  .rw[W_ (~~~h)]
   simp?[kT,B7,(beq_eq_false_iff_ne.mpr λq=>h q.symm)]at e;show Ud e
section
variable{X:Cx}{sc:cS}{N L:zn Str}{k:Nat}{a:bE}{f:CO D}{pos p:cH}{x:Str}{kv:zn (Str×Int)}
theorem tE(h:SX X sc N L k)(c:qz sc x)(e:X.mg x=aa (.ref b)):PE X (.Name x p) (tC<|.ref b):=λa s f H Q I d=>xE I (h.gl c).1 e (.ref b,H,I,rfl,d) (h.gl c).2.2
theorem ziZ(G:ui X.w X.K X.mg x kv)(h:SX X sc N L k)(S:PV X a f)(c:qz sc x:=by decide +kernel)(σ:m3 .NotIn (.Name x p)=aF:=by with_unfolding_all rfl):gk X (.Compare a [.NotIn] [.Name x p] pos) (sB<|rP (kv.map (·.1)) f):=by
 show aU λO=>?_;let(b,o,es,ep,zs,g1,g2,Y,Z,B,C,E):=G.ex;show O ?_;have R:eI X (h8 .NotIn) (λx y H Q=>∃k,x=.str k/\y=.ref b/\Q (.bl<|!decide (k∈kv.map (·.1))) H):=by intro g s U H x y v u Q I W ry γ;let(P,rfl,rfl,q):=γ;let(t,rfl):=W;cases ry;show wpAny_notIn_of (O3 X.prog X.w P t) g2 (NY (I.df _ _ Y) Z B C) (.bl _,H,I.tok _,rfl,?_);rw[NX,E];show q
 show X5 (w5 R S (tE h c g1) σ) λU H Q F=>?_;show aU λO=>?_;let(j,M,t,T,J,q):=F;let(db,l,A):=zc J;let(d,m,J):=zc l;show O ?_;cases d with
 |str z=>
  cases J;cases A;show(j,M,_,T,m,λv i e x r=>(z,r,rfl,_,rfl,q i e x))
 |_=>cases J
theorem MK(G:ui X.w X.K X.mg x kv)(h:SX X sc N L k)(ha:PV X a f)(c:qz sc x:=by decide +kernel)(hs:Re a:=by intro _ _;rfl):PV X (.Subscript (.Name x p) a pos) (TM kv f):=by
 let(b,o,es,ep,zs,g1,g2,g3,T,U,W,g7):=G.ex;intro e s B H Q I hZ;show aU λkZ=>?_;let(C,M,d,rc,J,q):=hZ;let(γ,R,J):=zc J;show kZ ?_;cases γ with
 |str z=>
  let(i,u,rfl):=zy J;rw[<-g7]at u;let(t,S):=Ud u;show rC PySem.F.slot_dict_getitem.lookup hs<|cy (tE h c g1 e s B H (λy j=>y=.ref b/\j=H) I (rfl,rfl)) λu1 s1 O=>?_;let(y,j,E,Y,rfl,rfl):=O;cases Y;show cy (ha e s1 B j (λy l=>∃Z,_/\y=.str z) E (C,M,_,rc,R,λv H' g x r=>(g,x,r))) λu2 s2 O=>?_;let(y,l,m,Y,Z,x2,rfl):=O;let(t2,rfl):=Y;have A:=NY (P:=X.prog) (m.df _ _ g3) T U W;show(A.typeIs,wpAny_getItem_of (O3 X.prog X.w z t2) A S (.int i,l,m.tok _,(t,rfl),q _ l Z x2 rfl))
 |_=>cases J
end
theorem jC:eM X e jP:=λa s i H D I h=>by show aU λz=>?_;let(E0,E,b,g,d,f,J,O):=h;show z ?_;cases J
section
variable{X:Cx}{sc:cS}{N L:zn Str}{k j n:Nat}{e:bE}{es:zn bE}{F:zn D->xz Res}{x:Str}{p pos:cH}{t:TA}
theorem lq(O:⇑cL j x n F)(h:SX X sc N L k)(B:PA X (e::es) t)(z:j<=k:=by decide)(c:qz sc x:=by decide +kernel)
 (H:ck (e::es) ⋯=(aF,bH e ⋯)::ck es ⋯:=by rfl) (I:(ft pos<|starEach es ⋯).any (·.1)=aF:=by rfl):PE X (.Call (.Name x p) (e::es) [] pos) (XZ (l5 X.K n F) [] E0 t):=by
 let(f,g,i,d,G,b,J,a):=O.ex;subst d;show Yd G (h.room.mono z) (h.gl c).1 b J a .nil gd B (h.gl c).2.2 H I
end
section
variable{X:Cx}{sc:cS}{N L:zn Str}{k j:Nat}{F:zn D->xz Res}{x:Str}{p pos:cH}
theorem MN(B:⇑cL j x 0 F)(I:j<=k)(h:SX X sc N L k)(c:qz sc x):PV X (.Call (.Name x p) [] [] pos) (zD F zA):=by let(o,s,t,l,G,i,J,g):=B.ex;show j3 (Ct G (h.room.mono I) (h.gl c).1 i J g .nil gd (h.gl c).2.2) λy H Q O=>?_;let(b,u,d,a,z,q):=O;let(m,e,z):=zc z;cases e;let(r,f,rfl):=zy z;show(b,[],r,a.sub,bz.nil,l.symm,f,iI a.sub q)
end
section
variable{X:Cx}{a:bE}{pos:cH}
theorem HE(S:PV X a e)(U:PQ X c I)(W:m3 .In c=aF:=by with_unfolding_all rfl):gk X (.Compare a [.In] [c] pos) (sB<|BL e I):=
 X5 (w5 Yf S U W) λP H Q J=>by
  show aU λO=>?_;let(k,j,d,h,z,q):=J;let(G,Y,Z):=zc z;let(x,t,z):=zc Y;let((g,s),u,z):=zc z;show O ?_;cases x with
  | str w=>
   let(l,A,rfl):=zy z;cases Z;show(k,j,_,h,t,λM F b i C=>(b,j,g,s,h.ext i,u,λp N m o E f K r=>?_));have B:=wQ r A;subst B;subst C;show(p,_,rfl,by
    cases g with
    |L=>show .inl f
    |T=>show .inr f,rfl,JE l,?_)
   have:pG (.str w) (l.map V.str)=l.any λy=>y==w:=by erw[pG];rw[N6];rfl
   rw[this];show(_,rfl,q m o<|i.trans E)
  |_=>cases z
end
section
variable{X:Cx}{sc:cS}{N L:zn Str}{k:Nat}{p pos:cH}{C:ak}
structure O6(P:cQ)(w:cN)(K:aO)(mg:DZ)(base:bN)(C:ak):Prop where
 ex:∃(f:ak) (fd:gh),Mk K C f/\↑fh gx 1 f fd ["self"] (Mn C)/\mg "Desk" = aa (.ref C)/\Binds K fd ["self"] []
theorem HY(z:⇑O6 C)(I:2<=k)(h:SX X sc N L k)(c:qz sc "Desk" = ae):PE X (.Call (.Name "Desk" p) [] [] pos) (GR C (Mn C) [] E0 Bc):=by let(f,d,M,F,b,a):=z.ex;show Cq M F (h.room.mono I) (h.gl c).1 b a .nil gd (h.gl c).2.2
end
structure U9(K:aO)(mg:DZ)(sI zkx:de):Prop where
 ex:∃(C fI fT:ak) (dI dT:gh),mg "Desk" = aa (.ref C)/\Mk K C fI/\q3 K C/\C5 K C "tell" fT/\L2.i5 K "__init__" "Desk.__init__" sI fI dI/\L2.i5 K "tell" "Desk.tell" zkx fT dT/\Binds K dI ["self"] []/\Binds K dT ["self","line"] []
def Oj(K:aO)(C:ak):Bool:=PySem.W.makesIn K C&&mV K (.ref C)&&E6 K C oM&&N0 K C&&Up K C&&
 g9 K (.ref C) "__setattr__" == aa (aa (.builtin "object.__setattr__"))&&g9 K (.ref C) "row" == aa af
section
variable{K:aO}{mg:DZ}{h:bN}
theorem SF{sI B:de}{kI dI pI z tI zis dT zj4 I tT:aN}(KX:K.In h)(G:h.Ns gp mg)
 (nC:oL K gp "Desk" = aa (aa (.ref C))) (iC:g9 K (.ref C) "__init__" = aa (aa (.ref H))) (mC:g9 K (.ref C) "tell" = aa (aa (.ref fT)))
 (uI:K.lookup H=aa (Y,zhu,.func (ox "__init__" "Desk.__init__" (ya sI) (jL sI) (zR sI) .none kI dI pI aI z tI),lI))
 (uT:K.lookup fT=aa (Z,zhA,.func (ox "tell" "Desk.tell" (ya B) (jL B) (zR B) .none zis dT zj4 zgJ I tT),ziv))
 (vI:B4 K z "Desk.__init__" = ae) (vT:B4 K I "Desk.tell" = ae) (w1:mV K (.ref H)) (W:mV K (.ref fT))
 (z1:FG K (.ref H)) (z2:FG K (.ref fT)) (b:Oj K C)
 (gI:∀kV j U S e ct us,pT us=1->yg (ox "__init__" "Desk.__init__" (ya sI) (jL sI) (zR sI) .none kV j U S e ct) (us,[])=pure ((["self"]:zn Str).zip us))
 (gT:∀kV j U S e ct us,pT us=2->yg (ox "tell" "Desk.tell" (ya B) (jL B) (zR B) .none kV j U S e ct) (us,[])=pure ((["self","line"]:zn Str).zip us)):U9 K mg sI B:=by
 erw[Oj]at b;simp?[eH,beq_iff_eq]at b;let((((((a,d),f),g),i),k),l):=b;have J:=lR uI vI w1;have O:=lR uT vT W;show(C,H,fT,_,_,sf KX G nC,(a,iC,z1,d),((f,g,i,k),l),(mC,z2,W),J,O,J.binds gI,O.binds gT)
theorem Pu(B:zn GE)(I:K.In h)(G:h.Ns gp mg)(n:oL K gp x=aa (aa (.ref a)))(l:K.lookup a=aa o)(s:(a==pK)=aF)(e:o.ExactDict)(d:o.data=.dict j H)
 (z:j.toList=B.map (λz=>(H9 w z.1,.str z.1 z.2.1,.int z.2.2.1 z.2.2.2))) (k:B.map (λz=>Prod.mk z.1 z.2.2.1)=J):ui w K mg x J:=(a,o,j,H,B,sf I G n,s,l,e,d,z,k)
end
abbrev ZC:=Ctx->D->xz (Fl×D)
abbrev ZV:=Ctx->D->xz (D×D)
def fv(a b:ZC):ZC:=λg d=>(a g d).bind λr=>match r.1 with
 |.next e=>b e r.2
 |f=>aa (f,r.2)
def mI(i:Nat)(T:Tg)(f:CO D):ZC:=λb d=>if Bz i T then (f b).bind λv=>(qy T v b).map λa=>(.next a,d)else af
def DD(t:ZT):ZC:=λa d=>(t a d).map λr=>(if r.1 then .ret (.val<|.bl aF)else .next a,r.2)
def vj(e:ZF)(j:CO D):ZV:=λa d=>(j a).bind λl=>e [d,l]
def DC(v:ZV):ZC:=λa d=>(v a d).map λo=>(.next a,o.2)
def Lv(v:ZV)(fr:CO D):ZT:=λa d=>(v a d).bind λo=>(fr a).bind λr=>((gQ o.1 r).bind nN).map λb=>(b,o.2)
def aY(T:Tg)(F:ZC):zn D->ZC
 |[],a,d=>aa (.next a,d)
 |x::b,a,d=>(qy T x a).bind λz=>(F z d).bind λr=>match r.1 with
  |.next I=>aY T F b I r.2
  |.ret q=>aa (.ret q,r.2)
  |_=>af
def OH(i:Nat)(e:CO (zn D))(T:Tg)(F:ZC):ZC:=λa d=>if Bz i T then (e a).bind λb=>aY T F b a d else af
def bM(i:Nat)(z:ZC):CO Fl:=λa=>if (a.set i .no).any yL=aF/\i<(pT a) then (z (a.set i .no) .cI).bind λr=>match r.1 with
 |.ret q=>aa (.ret q)
 |_=>af else af
def zay(K:aO)(i:Nat)(C p e:ak)(E0 E:Hp)(Q:Ends):Fl×D->Prop
 |(.next f,d)=>∀a H b,ZS K i C p e E0 E b H a f d->Q.nx a H
 |(.ret q,_)=>Sat K E0 E Q<|.ret q
 |_=>False
def tZ(K:aO)(i:Nat)(C:ak)(z:ZC):TS:=λQ f H=>∃p a E0 E e b d r,ZS K i C p a E0 E e H f b d/\z b d=aa r/\zay K i C p a E0 E Q r
def tP(K:aO)(i:Nat)(C:ak)(v:ZV):TE:=λg H Q=>∃p f E0 E h b d r,ZS K i C p f E0 E h H g b d/\v b d=aa r/\∀u e a,ZS K i C p f E0 E a e g b r.2->Rep K a r.1 u->Q u e
theorem ZS.names{K:aO}{E0 E j H:Hp}{d:D}(x:ZS K i C p z E0 E j H B M d)(r:RS K E0 E j H e γ')(n:γ'.any yL=aF)(s:e[i]? = B[i]?):ZS K i C p z E0 E j H e γ' d:=(r,n,by rw[s];show x.sl,x.h0,x.he,x.hp)
structure Z8(P:cQ)(w:cN)(K:aO)(mg:DZ)(base:bN)(j:Nat)(C:ak)(TF:ZF):Prop where
 ex:∃(f:ak) (fd:gh),q3 K C/\C5 K C "tell" f/\↑fh gx j f fd ["self","line"] (L4 K C TF)/\Binds K fd ["self","line"] []
section
variable{X:Cx}{sc:cS}{N L:zn Str}{k j i:Nat}{C:ak}{TF:ZF}{e r o c:bE}{fe fr f:CO D}{t u:ZT}{v:ZV}{a b F:ZC}{pos apos:cH}{x:Str}{st:de}{rest body:zn de}{T:Tg}
theorem QL(B:PS X st (tZ X.K i C a))(S:gj X rest (tZ X.K i C b)):gj X (st::rest) (tZ X.K i C<|fv a b):=λf s t H Q I Y=>by
 show(qL B S) f s t H Q I ?_;show aU λZ=>?_;let(p,h,E0,E,j,o,d,r,z,J,O):=Y;let((f1,k),l,J):=zc J;show Z ?_;show(p,h,E0,E,j,o,d,_,z,l,?_);cases f1 with
 |next e=>show λu w g m=>(p,h,E0,E,g,e,k,r,m,J,O)
 |ret q=>cases J;cases q<;>show O
 |brk e=>cases J;show O
 |cont e=>cases J;show O
theorem EL(z:PS X st (tZ X.K i C a)):gj X [st] (tZ X.K i C a):=kY z
theorem FS(h:PS X st (WH (tV X.K f)<|il X.K T)):PS X st (tZ X.K i C<|mI i T f):=kj h λQ y H J=>by
 let(p,x,E0,E,j,t,d,r,z,I,O):=J;erw[mI]at I;split at I
 .next Y=>
  let(v,l,I):=zc I;let(w,e,rfl):=zy I;show(j,t,v,z.rs.rc,l,λu k a g s=>?_);have b:=z.step g;show Wj g.sub s e Y λZ o m=>O Z k a<|b.names (m E0 E b.rs) (YX e b.nn) o
 lia
theorem UK(S:PT X c (tN X.K i C t))(B:gj X body (OL<|tC<|.bl aF)):PS X (.If c body [] pos) (tZ X.K i C<|DD t):=kj (sQ S B K4) λQ k H J=>by
 show aU λO=>?_;let(p,g,E0,E,f,j,d,r,z,Y,I):=J;let(q,h,rfl):=zy Y;show O ?_;show(p,g,E0,E,f,j,d,q,z,h,λb a e=>?_);by_cases B:q.1
 .rw[DJ B]at I ⊢
  show I (.bl aF) b a e.rs.ext rfl
 .rw[DY B]at I ⊢
  show I k b a e
theorem UL(h:PE X e (tP X.K i C v))(hs:hU e af pos.line ⋯=pure aF:=by rfl):PS X (.Expr e pos) (tZ X.K i C<|DC v):=kj (WY h hs) λQ m H I=>by let(p,g,E0,E,b,l,d,r,z,J,O):=I;let(q,j,rfl):=zy J;show(p,g,E0,E,b,l,d,q,z,j,λu f a k x=>O m f a k)
theorem JQ(Z:⇑Z8 j C TF)(W:j<=k)(h:SX X sc N L k)(ho:PE X o (eY i))(σ:PV X e fe)
 (hs:ck [e] ⋯=(aF,bH e ⋯)::ck [] ⋯:=by rfl) (B:(ft pos<|starEach [] ⋯).any (·.1)=aF:=by rfl)
 (ht:bH (.Call (.Attribute o "tell" apos) [e] [] pos) ⋯=(do
   let I<-bH o ⋯
   oX apos.atName
   let (f,first)<-ml [I] (Dl I "tell" Y)
   Pj pos f first (ft pos<|starEach [e] ⋯) (pf pos<|keywordEach [] ⋯)):=by rfl):
 PE X (.Call (.Attribute o "tell" apos) [e] [] pos) (tP X.K i C (vj TF fe)):=by
 let(f,fd,c,T,G,S):=Z.ex;show j3 (HW ho c.cls T G (h.room.mono W) S .nil gd (zX σ jG hs) hs B ht) λU H Q R=>?_;show aU λkZ=>?_;let(p,g,F0,F1,r,M,d,J,z,γ,t):=R;let(l,E,F):=zc γ;let(O,P,q):=z.hp;show kZ ?_;show(.ref p,z.sl,p,g,ik O,rfl,P,lS O,r,M,l,z.rs.rc,E,λlv H1 b m r1=>?_);have a:=z.step m;let(v,g1,g2):=a.hp;show(b,p,g,v,d,l,lv,J.1,J.2,rfl,m.sub,a.h0,g1,g2,r1,F,λu v' s x x2 ad y ru A=>t u s x ((a.rs.less a.nn g1 IB a.h0 a.he).step x2,z.nn,z.sl,y,z.he,v',ad,A) ru)
theorem HD(h:SX X sc N L k)(O:PE X e (tP X.K i C v))(Y:PV X r fr):PT X (.Compare e [.NotEq] [r] pos) (tN X.K i C<|Lv v fr):=by show X5 (w5 (tH h.tU) O Y<|yJ r) λU H Q Z=>?_;show aU λT=>?_;let(p,F,m,o,s,l,d,rr,z,I,y):=Z;let(g,G,I):=zc I;let(f,M,I):=zc I;let(b,P,I):=zy I;let(E,R,S):=zc P;show T ?_;subst I;show(p,F,m,o,s,l,d,g,z,G,λu H2 A j W=>?_);show(A,l,f,j.rs.rc,M,λrv t B a σ=>?_);show fF B t u rv g.1 f E _ a.sub (W.mono a.s0) σ R λw x as x4 J=>?_;rw[wu S]at J;show(b,J,y x as<|j.step<|a.trans x4)
theorem Rh{S:CO (zn D)}(hp:F5 (aV X.prog X.w) X.A ⋯ X.xe)(hc:X.calm)(hi:ed X U B S)(hg:PG X U (il X.K T))(hb:gj X body (tZ X.K i C F))
 (hs:∀x,ij B ⋯ x=pure x:=by intro _;rfl):PS X (.For U B body [] pos) (tZ X.K i C<|OH i S T F):=kj (iX hp hc hi hg hb hs) λQ u H hZ=>by
 show aU λkZ=>?_;let(p,P,E0,E,h,f,d,r,z,O,M):=hZ;show kZ ?_;erw[OH]at O;split at O
 .next al=>
  let(b,e1,O):=zc O;show(h,f,b,z.rs.rc,e1,λJ H1 a x1 o=>?_);have y:=z.step x1;have k:=y.rs.ext;show(λn m u H=>m=pT b-n/\n<=pT b/\∃h f d,ZS X.K i C p P a E h H u f d/\aY T F (b.drop n) f d=aa r,(_,rfl,g8 _,a,f,d,((y.rs.rc,k.base,y.rs.fresh,y.rs.m5),y.nn,y.sl,y.h0,y.he,y.hp),O),?_);rintro n m G Y ⟨rfl,b4,N,znV,d3,z,I⟩;have j:=z.rs.ext.s0.trans z.rs.ext.sub;by_cases Z:n<pT b
  .refine .inr (o.go n Y j Z,λu H=>_/\_,λmO L q=>(_,(),rfl,q.1,q.2),λx L yy=>?_)
   let(d,W,ap):=o.nT n Y x L j Z yy;let(G0,xg,rg):=ap N z.rs.ext.s0 z.rs.rc.sub;have av:b.drop n=d::b.drop (n+1):=by
    have b6:=by rw[eO Z]at W;show(l8 W).symm
    simp_all
   rw[av]at I;let(t,R,I):=zc I;let((f4,d4),eF,I):=zc I;show Wj xg.sub rg R al λznW l b2=>?_;have s:=z.step xg;show(p,P,a,E,G0,t,d3,_,s.names (b2 a E s.rs) (YX R s.nn) l,eF,?_);cases f4 with
   |next g=>show λznX H5 b3 q=>(Z,b3,_,_,q,I)
   |ret q=>
    cases I;have s2:=(M).rebase k;cases q<;>show s2
   |brk g=>cases I
   |cont g=>cases I
  .have e:n=pT b:=()
   subst e;rw[D2]at I;cases I;show .inl (o.stop Y j,M G Y N<|(λz=>((z.rs.rc,k.rebase z.rs.ext,z.rs.fresh,z.rs.m5),z.nn,z.sl,z.h0,z.he,z.hp)) z)
 lia
theorem zi0(i)(B:PS X st (WH (GR C (Mn C) [] E0 Bc)<|yY i))(S:gj X rest (tZ X.K i C z)):eM X (st::rest) (bM i z):=by
 intro a s x H Q I Y;show(qL B S) a s x H Q I ?_;show aU λZ=>?_;let(h,j,e,A,y,b,J,k):=Y;show Z ?_;erw[bM]at J;split at J
 .next u=>
  let(w,l):=u;let((f1,r),t,J):=zc J;intro p f O m o;show(p,f,rfl,zB,rfl,?_);rw[QN];have g:Ext e H e (upd H f<|.own p):=Ext.hide b.rc.sub m _;show(p,f,h,j,e,_,.cI,(f1,r),((b.forget (i:=i) (v:=aa (.ref p))).step (g.trans<|Ext.hide g.sub (by rw[zC (dh o)];show O) _),w,by rw[kr (by rw[b.rc.len];show l)],jl b.rc.sub O,jl b.ext.s1 O,.cI,zB,rfl),t,?_);cases f1 with
  |next d=>cases J
  |ret q=>
   cases J;show k
  |brk d=>cases J
  |cont d=>cases J
 lia
end
def ba(g h:CO Xn):CO Xn:=λa=>match g a with
 |some c=>aa c
 |none=>h a
def LQ(f:CO D)(g:CO Xn):CO Xn:=λa=>(f a).bind λ_=>g a
def EM(f1:CO D)(tA tB tC:CO Bool)(e j:zn D->xz Xn):zn D->xz Xn:=λf=>match f with
 |[d,l]=>(f1 [.no,.val l,.no]).bind λz=>(tA [.no,.val l,.val z]).bind λa=>if a then aa (("NoLine" : Str),af)else
  (if y9 d then tB [.no,.val l,.val z]else aa aF).bind λb=>if b then aa (("Nothing" : Str),af)else
  (tC [.no,.val l,.val z]).bind λc=>if c then e [d,z]else j [d,z]
 |_=>af
def RM(TG:zn D->xz Xn)(F:CO Fl):zn D->xz D:=λe=>match e with
 |[d,l,a,b]=>(TG [d,l]).bind λc=>(F [.no,.val l,.val a,.val b,.val<|.exc c.1 c.2,.no]).bind λf=>match f with
  |.ret (.val o)=>aa o
  |_=>af
 |_=>af
def Lx(e:zn D->xz D)(g:CO (zn D)):ZV:=λb d=>(g b).bind λa=>(e (d::a)).map λo=>(o,d)
def mH(v:ZV):ZT:=λa d=>(v a d).bind λo=>(nN o.1).map λb=>(!b,o.2)
def Lw(i j:Nat)(v:ZV):ZC:=λa d=>if i=j then af else (v a d).map λo=>(.next<|a.set j<|.val o.1,o.2)
def pE(v:ZV)(fr:CO D)(u:ZV)(e:CO D):ZC:=λa d=>(v a d).bind λo=>(fr a).bind λr=>((gQ o.1 r).bind nN).bind λb=>if b then
 (u a o.2).bind λz=>(e a).bind λf=>(cO z.1 f).map λq=>(.ret<|.val q,z.2)else af
def tX(X:Cx)(g:CO Xn):TE:=λe H _=>∃z I d b a,RS X.K z I d H e b/\g b=aa a/\XW X z I a
section
variable{X:Cx}{sc:cS}{N L:zn Str}{k j n:Nat}{a e:bE}{es:zn bE}{ga:CO (zn D)}{g g1 g2:CO Xn}{fa:CO D}{G:zn D->xz Xn}{F:zn D->xz Res}{x:Str}{p pos:cH}{t:TA}{E:XK}
theorem Xy(U:⇑fC j x n G)(J:j<=k)(h:SX X.eQ sc N L k)(c:qz sc x)(B:i6 X.eQ (e::es) n ga)
 (S:ck (e::es) ⋯=(aF,bH e ⋯)::ck es ⋯:=by rfl) (O:(ft pos<|starEach es ⋯).any (·.1)=aF:=by rfl):PE X (.Call (.Name x p) (e::es) [] pos) (tX X<|qF G ga):=λa s y H Q I Y=>by
 show aU λZ=>?_;let(A,C,E,P,F,d,eq,w):=Y;let(M,l,m):=zc eq;show Z ?_;show cT (YO U J ((h.l4,h.eN,h.nd,h.calm,h.room,h.fn)) c B I d.rc l m S O) (λq q z=>z.elim) λo r z=>?_;let(f,b,t,g,u,i):=z;show w.2.1 a y f b t o r g (d.ext.trans u) i
theorem Co(hf:⇑cL j x n F)(h:SX X sc N L k)(W:PV X a fa)(S:PE X e (tX X g))(z:j<=k:=by decide)(c:qz sc x:=by decide +kernel)
 (B:ck [a,e] ⋯=(aF,bH a ⋯)::ck [e] ⋯:=by rfl) (U:ck [e] ⋯=(aF,bH e ⋯)::ck [] ⋯:=by rfl) (I:(ft pos<|starEach [e] ⋯).any (·.1)=aF:=by rfl):PE X (.Call (.Name x p) [a,e] [] pos) (tX X<|LQ fa g):=
 j3 (lq hf h (zX W (zX S jG U) B) z c B I) λy H Q J=>by show aU λO=>?_;let(Y,Z,l,i,m,f,eq,w):=J;let(d,o,r):=zc eq;show O (l,i,d,f.rc,o,λv t b s u=>(Y,Z,b,i,m,f.step s,r,w))
theorem tj(h:SX X sc N L k)(c:qz sc "str" = ae)(z:X.mg "str" = af)(I:PE X e (tX X g))(hs:ck [e] ⋯=[(aF,bH e ⋯)]:=by rfl):PE X (.Call (.Name "str" p) [e] [] pos) (tX X g):=
 j3 (vG XQ (h.gl c).1 z PyProof.Rows.boot_str (zX I jG hs) () () hs rfl) λa H Q J=>J
theorem lj(B:PE X e (tX X g1))(S:PE X e (tX X g2)):PE X e (tX X<|ba g1 g2):=λa s g H Q I Y=>by
 show aU λZ=>?_;let(J,O,d,b,h,f,z,w):=Y;show Z ?_;erw[ba]at z;cases e1:g1 b with
 |some c=>rw[e1]at z;cases z;show B a s g H Q I (J,O,d,b,_,f,e1,w)
 |none=>rw[e1]at z;show S a s g H Q I (J,O,d,b,_,f,z,w)
theorem WS(h:PE X e (tX X g)):Px X (.Return (aa e) pos) g:=λa s j H J O b i d I f Y w=>
 M9 (cT (h a s j H (λv v=>False) I (J,O,b,i,d,f,Y,w)) (λu k z=>by let(v,v,v,v,q):=z;show q.elim) λv v z=>z)
theorem tF(S:⇑fC j x n G)(h:SX X sc N L k)(B:PA X (e::es) t)(z:QC (gy X.prog X.w) X E)(I:j<=k:=by decide)(c:qz sc x:=by decide +kernel)
 (H:ck (e::es) ⋯=(aF,bH e ⋯)::ck es ⋯:=by rfl) (J:(ft pos<|starEach es ⋯).any (·.1)=aF:=by rfl):PE X (.Call (.Name x p) (e::es) [] pos) (XZ (pJ X.K n G) [] E t):=by
 let(fa,f,g,d,G,b,O,a):=S.ex;subst d;show Yd G (h.room.mono I) (h.gl c).1 b O a .nil z B (h.gl c).2.2 H J
end
abbrev Rv(K:aO):TA:=WG (Mj K) (WG (tV K (zf 2)) Bc)
structure d?(X:Cx)(SI:List de)(f1:CO D)(tA tB tC:CO Bool)(GA GC:List D->Option Xn):Prop where
 ex:∃s1 cA rA pA cB rB pB cC eA pR pC o f pos' eC pa rest,SI=s1 :: .If cA [rA] [] pA :: .If cB [rB] [] pB :: .If cC [.Return (aa eA) pR] [] pC :: .Assign [.Attribute o f pos'] eC pa::rest/\
  PS X.eQ s1 (WH (tV X.K f1) (yY 2))/\gk X.eQ cA tA/\Px X rA (mP "NoLine")/\PT X.eQ cB (WE X.K tB)/\Px X rB (mP "Nothing")/\gk X.eQ cC tC/\
  (∀E,QC (gy X.prog X.w) X E->PE X eA (XZ (pJ X.K 2 GA) [] E (Rv X.K))/\PE X eC (XZ (pJ X.K 2 GC) [] E (Rv X.K)))/\hU eC (aa (.Attribute o f pos')) pa.line ⋯=pure aF
section
variable{P:cQ}{w:cN}{K:aO}{mg:DZ}{base:bN}{k:Nat}{q:Str}{st:de}{f C:ak}{fd:gh}{f1:CO D}{tA tB tC:CO Bool}{GA GC:zn D->xz Xn}
theorem zlb(Fu:L2.i5 K "tell" q st f fd)(hd:Zp ["self","line","words"] ["self","line"] st)(c:q3 K C)
 (cb:∀X,X.prog=P->X.w=w->X.K=K->X.mg=mg->X.base=base->SX X (zR st) ["self","line","words"] ["self","line","words"] k->d? X (jL st) f1 tA tB tC GA GC):
 fh P w K mg base (gy P w) (k+1) f fd ["self","line"] (SG K C (EM f1 tA tB tC GA GC)):=by
 have S:=kz hd;show aU λO=>?_;let(oc,od,kV,doc,pm,an,L,ct,tL,rfl,lk,ce):=Fu.ex;show O ?_;show Ec lk ce S (λvs H Q E h=>by let(N,p,dx,v,d,l,lv,R,rfl,n):=h;rfl) λA r s H vs Q E hr ci=>(λn U m=>U=Jc ["self","line","words"] vs/\m=H,λj s1 U y zl3 I zik=>?_,rfl,rfl);show aU λO=>?_;let(rfl,rfl):=zik;let(N,p,dx,v,d,l,lv,R,rfl,s0,h0,hp,rv,rl,J,h4):=ci;let(cn,cA,rA,pA,cB,rB,pB,cC,eA,pR,pC,o,fl,W,eC,pa,rest,eb,b8,hA,bb,hB,be,hC,hE,bg):=(cb (Kt (gy P w) P w K mg base _ q (zR st) f L A r s y E) rfl rfl rfl rfl rfl (rfl,rfl,S.nd,rfl,hr,λn n=>.inl rfl)).ex;show O ?_;rw[eb];have bi:=sj (p:=p) s0 rl;have xw:XW (Kt (gy P w) P w K mg base ["self","line","words"] q (zR st) f L A r s y E) N y R:=(λbl M B Z s2 h' a C us F Y xa xm xc xn σ=>Xg F σ (h4 C B Z af xa xm xc (by erw[Jo];rw[xn]) Y),λbl M B Z s2 e s' F Y σ=>by show wm F σ λcl o m z=>?_;let(C,g,rfl,z1,z2,z3,z4,z5):=z;show h4 C m g o z1 z2 z3 z4 (Y.trans z5),λbl M B Z s2 a C d t φ F y1 y2 y3 Y xa xm xc xn=>Xh F y1 y2 (y3 rfl) (h4 C _ Z (aa d) xa xm xc xn Y))
 let(bn,bv):=hE E<|λj U H s e s' I σ=>wm I σ λn n n z=>z;generalize hX:Kt (gy P w) P w K mg base _ q (zR st) f L A r s y E=X at b8 hA bb hB be hC bn bv bg xw I;have hK:X.K=K:=by rw[<-hX];rfl
 subst hK;let(ws,e1,J):=zc J;let(a,e2,J):=zc J;have go:⇑X (execs (cn :: .If cA [rA] [] pA :: .If cB [rB] [] pB :: .If cC [.Return (aa eA) pR] [] pC :: .Assign [.Attribute o fl W] eC pa::rest) ⋯) (λn n=>False) X.xe s1:=by
  show nX (cT (b8 j s1 _ y {nx:=λmO m=>∃g T,mO=(Jc ["self","line","words"] [V.ref p,lv]).set 2 (aa T)/\Ext N y g m/\Rep X.K g ws T,rt:=λn n=>False} (I.cY _) (N,_,ws,bi.rc,e1,λT B Z Y r2=>(Z,T,rfl,Y,r2))) (λfl s2 z=>?_) λn n z=>z.elim);cases fl with
  |ret v=>let(n,n,n,n,n,z):=z;show z.elim
  |brk=>let(n,n,n,z):=z;show z.elim
  |cont=>let(n,n,n,z):=z;show z.elim
  | next=>
   show aU λO=>?_;let(M,B,F,Z,T,rfl,Y,r2):=z;show O ?_;have bx:=(bi.step Y).mT (i:=2) r2;show nX<|wpAny_If<|cT (hA j s2 _ B (λb m=>b=a/\∃g,Ext Z B g m) (F.gL.cY _) (Z,_,a,bx.rc,e2,λm g x=>(rfl,g,x))) (λb s3 z=>?_) λn n z=>z.elim;show aU λO=>?_;let(H3,I3,rfl,ad,x3):=z;show O ?_;have I3:=I3.gL;have av:=bx.step x3;cases b with
   |true=>
    rw[DJ rfl]at J;show cT (ja bb j s3 _ H3 N y ad _ R I3 av J xw) (λn n z=>z.elim) λn n z=>z
   | false=>
    show B5 ?_;let(b2,e3,J):=zc J;have aw:=Y.trans x3;have d1:WE X.K tB ((Jc ["self","line","words"] [V.ref p,lv]).set 2 (aa T)) H3 (λb m=>b=b2/\∃g,Ext ad H3 g m):=by
     show(.ref p,rfl,p,C,dx,ik v,v,rfl,aw.s1 _ _ hp,c.cls,c.nr,Xl v,rfl,_,rfl,?_);rw[sx rv];cases hn:y9 d with
     |true=>
      rw[hn,DJ rfl]at e3;show p_ (ad,_,b2,av.rc,e3,λm g x=>(rfl,g,x))
     |false=>
      rw[hn,DY i4]at e3;cases e3;show IX (rfl,ad,Ext.refl aw.sub)
    show nX<|wpAny_If<|cT (hB j s3 _ H3 _ (I3.cY _) d1) (λb s4 z=>?_) λn n z=>z.elim;show aU λO=>?_;let(H4,I4,rfl,b0,x4):=z;show O ?_;have I4:=I4.gL;have b1:=av.step x4;cases b with
    |true=>
     rw[DJ rfl]at J;show cT (ja be j s4 _ H4 N y b0 _ R I4 b1 J xw) (λn n z=>z.elim) λn n z=>z
    | false=>
     show B5 ?_;let(b3,e4,J):=zc J;show nX<|wpAny_If<|cT (hC j s4 _ H4 (λb m=>b=b3/\∃g,Ext b0 H4 g m) (I4.cY _) (b0,_,b3,b1.rc,e4,λm g x=>(rfl,g,x))) (λb s5 z=>?_) λn n z=>z.elim;show aU λO=>?_;let(H5,I5,rfl,d3,x5):=z;show O ?_;have I5:=I5.gL;have b5:=(aw.trans x4).trans x5;have two:∀{G},G [d,ws]=aa R->XZ (pJ X.K 2 G) [] E (Rv X.K) _ H5 (λn n=>False):=λ{G} eg=>
      (.ref p,rfl,p,C,dx,ik v,v,rfl,b5.s1 _ _ hp,c.cls,c.nr,Xl v,d3,_,ws,(b1.step x5).rc,rfl,λda H6 d5 x6 r6=>
       (d5,[d,ws],R,x6.sub,bz.cons (rv.mono (b5.trans x6).s0)<|bz.cons r6 bz.nil,rfl,eg,λC' m g od xa xm xc xn xx=>h4 C' m g od xa xm xc xn<|(b5.trans x6).trans xx))
     cases b with
     |true=>
      rw[DJ rfl]at J;show nX<|M9<|cT (bn j s5 _ H5 _ I5<|two J) (λu s6 z=>by let(n,n,n,n,z):=z;show z.elim) λn n z=>z
     |false=>
      show B5<|nX<|Ta (cT (bv j s5 _ H5 _ I5<|two J) (λu s6 z=>by let(n,n,n,n,z):=z;show z.elim) λn n z=>z) bg
 show cT go (λn n z=>z.elim) λn n z=>z
end
theorem uz.n{K:aO}{C:ak}{e:ZF}{TG:zn D->xz Xn}(h:uz P w K z base j C e TG):Z8 P w K z base j C e:=by let(f,a,c,m,F,q,b):=h.ex;show(f,a,c,m,F,b)
def Mi(K:aO)(C:ak)(TG:zn D->xz Xn):TS:=λQ e H=>∃a p h v d l g c,e[0]? = aa (aa (.ref p))/\e[1]? = aa (aa g)/\dj a H/\a p=af/\H p=aa (.ins C h<|ik v)/\Rep K a d v/\Rep K a l g/\
 TG [d,l]=aa c/\∀b G f,Ext a H f G->Rep K f (.exc c.1 c.2) (.ref b)->Q.nx (((e.set 5<|some (.ref b)).set 4 (aa (.ref b))).set 5 af) G
def spR(K:aO)(C:ak)(j:zn D->xz D):Sp:=λi H Q _=>∃a p h v d g e o,i=.ref p::e/\(pT e)=3/\dj a H/\a p=af/\H p=aa (.ins C h<|ik v)/\Rep K a d v/\bz K a g e/\j (d::g)=aa o/\
 ∀u f b,Ext a H b f->Rep K b o u->Q u f
structure C9(P:cQ)(w:cN)(K:aO)(mg:DZ)(base:bN)(j:Nat)(x:Str)(C:ak)(RF:List D->Option D):Prop where
 ex:∃(f:ak) (fd:gh) (ps:List Str),ps.length=4/\↑fh gx j f fd ps (spR K C RF)/\mg x=aa (.ref f)/\mV K (.ref f)=ae/\Binds K fd ps []
section
variable{X:Cx}{sc:cS}{N L:zn Str}{k j:Nat}{C:ak}{TF:ZF}{TG:zn D->xz Xn}{o a:bE}
theorem HH(hT:⇑uz j C TF TG)(hj:j<=k)(h:SX X sc N L k)(σ:X.stack=⋯::X.outer/\⋯.frame=aa ⋯.locals)
 (W:qz sc "SplitError" = ae) (cn:yc sc N L 5 nx) (cl:decide (sc.names.lookup nx=aa .local)) (cv:xy sc N 5 nx) (cz:yc sc N L 4 O) (x:XS X.K X.mg)
 (ho:PE X.eQ o (eY 0)) (ha:PE X.eQ a (eY 1))
 (he:ck [a] ⋯=(aF,bH a ⋯)::ck [] ⋯:=by rfl) (al:(ft cpos<|starEach [] ⋯).any (·.1)=aF:=by rfl) 
 (ht:bH (.Call (.Attribute o "tell" J) [a] [] cpos) ⋯=(do
   let ov<-bH o ⋯
   oX J.atName
   let (f,first)<-ml [ov] (Dl ov "tell" pl)
   Pj cpos f first (ft cpos<|starEach [a] ⋯) (pf cpos<|keywordEach [] ⋯)):=by rfl)
 (ao:hU (.Call (.Attribute o "tell" J) [a] [] cpos) af Y.line ⋯=pure aF:=by rfl)
 (hs:hU (.Name nx pn) (aa (.Name O Z)) B.line ⋯=pure aF:=by rfl):
 PS X (.Try [.Expr (.Call (.Attribute o "tell" J) [a] [] cpos) Y] [.ExceptHandler (aa (.Name "SplitError" np)) (aa nx) [.Assign [.Name O Z] (.Name nx pn) B] S] [] [] e) (Mi X.K C TG):=by
 intro b s U H D I r;show aU λu=>?_;let(M,p,Q,v,d,l,T,P,F,G,E,m,t,A,y,i,g):=r;show u ?_;show _P<|nX<|Oq (cT (IK hT hj h ho ha I F G E m t A y i he al ht) (λq q z=>z.elim) λR s' z=>Ey h σ x W cn cl cv cz z g hs) I.quiet ao
end
section
variable{P:cQ}{w:cN}{K:aO}{mg:DZ}{base:bN}{k:Nat}{x:Str}{st:de}{C:ak}{TG:zn D->xz Xn}{F:CO Fl}{N ps:zn Str}
theorem Ob(A:cJ K mg x st ps)(hd:Zp N ps st=ae)(hN:N.length=6)(O:ps.length=4)
 (U:∀X,X.prog=P->X.w=w->X.K=K->X.mg=mg->X.base=base->SX X (zR st) N N k->(X.stack=⋯::X.outer/\⋯.frame=aa ⋯.locals)->gj X (jL st) (pq (WH (tC .cI)<|yY 4)<|pq (Mi X.K C TG)<|tS X.K F)):
 C9 P w K mg base (k+1) x C (RM TG F):=by
 let(f,fd,Y,hb,hm):=A.ex;have S:=kz hd;show(f,fd,ps,O,?_,hm,Y.kp,.all hb);show Y.ok S (λvs H Q E h=>by let(g,p,m,v,d,j,B,o,rfl,J,q):=h;simp?[ng,J,O]) λW A outer s H vs Q E hr M=>(_,U _ rfl rfl rfl rfl rfl (rfl,rfl,S.nd,rfl,hr,λq q=>.inl rfl) (rfl,rfl),?_);let(g,p,m,v,d,j,B,o,rfl,J,y,h0,hp,rv,I,z,qq):=M;have R:j.length=3:=by rw[<-I.length,J]
 match j,B,R,J,I,z with
 | [l,a,b],[lv,av,bv],_,_,I,z=>
  show aU λkZ=>?_;let(c,eG,z):=zc z;let(t,eF,z):=zc z;show kZ ?_;have Z:=(JI y (bz.cons (d:=D.cI) rfl I)<|by change 4<=N.length;omega).forget (i:=0) (v:=aa (.ref p));rw[hN]at Z;have T:Rep K g l lv:=by let(q,q,e,h1,q):=I;cases e;show h1
  show(g,p,m,v,d,l,lv,c,?_,?_,y,h0,hp,rv,T,eG,λe G L x1 u=>?_)
  .rfl
  .rfl
  show(g,H,L,_,t,((((Z.mT (i:=4) (d:=.cI) rfl).step x1).mT (i:=5) u).mT (i:=4) u).forget (i:=5) (v:=af),eF,?_);cases t with
  |ret r=>
   cases r with
   |val d'=>cases z;show qq
   |own _=>cases z
  |next _=>cases z
  |brk _=>cases z
  |cont _=>cases z
end
section
variable{X:Cx}{sc:cS}{N L:zn Str}{k j i:Nat}{C:ak}{RF:zn D->xz D}{e r o c e2 r2:bE}{es:zn bE}{ga:CO (zn D)}{fr fq:CO D}{v u:ZV}{pos Ds zkc fp:cH}{x:Str}{st:de}
theorem HV(O:⇑C9 j x C RF)(Y:j<=k)(h:SX X sc N L k)(c:qz sc x=ae)(Z:PE X o (eY i))(B:i6 X (e::es) 3 ga)
 (hs:ck (o::e::es) ⋯=(aF,bH o ⋯)::ck (e::es) ⋯:=by rfl) (S:(ft pos<|starEach (e::es) ⋯).any (·.1)=aF:=by rfl):
 PE X (.Call (.Name x fp) (o::e::es) [] pos) (tP X.K i C<|Lx RF ga):=by
 show aU λI=>?_;let(f,fd,ps,a8,F,T,R,P):=O.ex;show I ?_;show j3 (Yd F (h.room.mono Y) (h.gl c).1 T R P .nil gd (zX Z B.1 hs) (h.gl c).2.2 hs S) λU H Q M=>?_;show aU λI=>?_;let(p,G,F0,F1,t,s,d,rr,z,J,A):=M;let(b,l,J):=zc J;let(σ,e2,rfl):=zy J;show I ?_;show(.ref p,z.sl,t,s,b,z.rs.rc,l,λus H1 a r m=>?_);have g:=z.step r;let(v,g1,g2):=g.hp;show(a,p,G,v,d,b,us++[],σ,rfl,by rw[vp,m.length];show B.2 s b l,r.sub,g.h0,g1,g2,by rw[vp];show m,e2,λu y E x2 W=>A u y E (g.step x2) W)
theorem HC(Y:PE X e (tP X.K i C v))(B:∀J,tu e ⋯ J=(do let v<-J;oX e.pos;ml [v] (A4 v)):=by intro _;rfl):PT X (.UnaryOp .Not e pos) (tN X.K i C<|mH v):=by show X5 (Fd<|Fc Y B) λx H Q Z=>?_;show aU λo=>?_;let(p,l,f,g,h,t,d,w,z,I,k):=Z;let(r,m,I):=zc I;let(b,e2,rfl):=zy I;show o ?_;show(p,l,f,g,h,t,d,r,z,m,λu j a s O=>?_);rw[wu e2]at O;show(b,O,k j a s)
theorem Rg(I)(h:PS X st (WH (tP X.K i C v)<|yY I)):PS X st (tZ X.K i C<|Lw i I v):=kj h λQ t H O=>by
 let(p,k,Y,Z,e,r,d,s,z,J,g):=O;erw[Lw]at J;split at J
 .lia
 .next j=>
  let(m,l,rfl):=zy J;show(p,k,Y,Z,e,r,d,m,z,l,λu f a b o=>g _ f a<|b.names (b.rs.mT o) (YX (T:=.nm I) rfl b.nn)<|ew<|dh j)
theorem LL(h:SX X sc N L k)(hv:PE X e (tP X.K i C v))(hr:PV X r fr)(hu:PE X e2 (tP X.K i C u))(hq:PV X r2 fq):
 PS X (.Return (aa (.BoolOp .And [.Compare e [.NotEq] [r] pos,.Compare e2 [.Eq] [r2] Ds] zkc)) fp) (tZ X.K i C<|pE v fr u fq):=kj (K7<|Fj (QZ (tH h.tU) hv hr<|yJ r)<|Fi<|QZ (tM h.tU) hu hq<|yJ r2) λQ U H hZ=>by
 let(p,o,O,Y,y,a,d,rr,z,I,F):=hZ;let(g,W,I):=zc I;let(m,e2,I):=zc I;let(b,e3,I):=zc I;let(σ,e4,e5):=zc e3;split at I
 .next hb=>
  let(Z,e6,I):=zc I;let(l,e7,I):=zc I;let(q,e8,rfl):=zy I;subst hb;show(p,o,O,Y,y,a,d,g,z,W,λu1 H1 f t r1=>(f,a,m,t.rs.rc,e2,λrv A G j r3=>?_));show fF G A u1 rv g.1 m σ _ j.sub (r1.mono j.s0) r3 e4 λw H4 M x4 s=>?_;rw[wu e5]at s;show(ae,s,?_);rw[DJ rfl];show(p,o,O,Y,M,a,g.2,Z,t.step<|j.trans x4,e6,λzk1 H5 P x r5=>(P,a,l,x.rs.rc,e7,λR B S J r6=>?_));show fG S B zk1 R Z.1 l q _ J.sub (r5.mono J.s0) r6 e8 λw7 E T x7 r7=>F w7 E T ((x.rs.ext.trans J).trans x7) r7
 .cases I
end
section
variable{X:Cx}{sc:cS}{N L:zn Str}{k j n:Nat}{e b:bE}{es:zn bE}{g:CO (zn D)}{G:zn D->xz Xn}{x:Str}{p pos:cH}
theorem Hr(U:⇑fC j x n G)(Y:j<=k)(h:SX X.eQ sc N L k)(c:qz sc x)(B:i6 X.eQ (e::es) n g)
 (S:ck (e::es) ⋯=(aF,bH e ⋯)::ck es ⋯:=by rfl) (Z:(ft pos<|starEach es ⋯).any (·.1)=aF:=by rfl):
 Px X (.Return (aa (.BinOp (.Call (.Name x p) (e::es) [] pos) O b J)) spos) (qF G g):=λa s C H E F M R P I f eq w=>by
 let(Q,o,r):=zc eq;show M9<|wpAny_BinOp<|cT (YO U Y ((h.l4,h.eN,h.nd,h.calm,h.room,h.fn)) c B I f.rc o r S Z) (λq q z=>z.elim) λt u z=>?_;let(i,d,y,l,A,m):=z;show w.2.1 a C i d y t u l (f.ext.trans A) m
end
def QJ:=jq 2<|yW<|zL (wW<|zf 0) (.tp [0,1]) 2 [1] (sB<|wH mR mR (aR (zk 1)<|sI 0) (zf 2)<|aR (zk 1)<|sI 1) (zf 0)
def uU:=dt (BM (sB<|zF ph (X3<|zk 0)<|sI 1)<|sB<|zF cO (zF kM (aR (zk 0)<|sI 0)<|sI 2)<|sI 1) (zV (jT 2<|aR (zk 0)<|zF qM (sI 1)<|zF kM (zf 1)<|zF Vj (X3<|zk 0)<|sI 1)<|zV (Kj (jE<|Mt (sI 60)<|zF Vz (zf 1)<|zF Vj (X3<|zk 0)<|sI 1) (.nm 3)<|jT 2<|zF Vz (zf 2)<|zF IT (sI 10)<|sI 9)<|qv<|zF kM (zf 2)<|zF IT (sI 10)<|sI 9) jN
def F8:=dt (sB<|zF ph (X3<|zk 0)<|sI 0) (jT 4<|aR (zk 0)<|zF kM (zf 1)<|X3<|zk 0) jN
def Pl:=qv<|zF kM (zF wM (zF kM (zF qM (zF qM (zF qM (zF wM (zF kM (zf 4)<|zF IT (sI 10)<|sI 30)<|sI 48271)<|zF wM (zF wM (sI 7)<|zf 1)<|zf 1)<|zF wM (sI 13)<|zf 1)<|sI 5)<|sI 2147483647)<|sI 69621)<|sI 1000000007
def jD:=jq 5<|zV uU<|zV (jT 4<|zf 1)<|zV F8 Pl
def kG:=jq 3 (qv (wV (zJ (.str "")) (z7 (zL (jE (zF Vj (zf 2) (sI 1))) (.nm 0) 1 [0,1] jh (wU (zJ (.str "rl")) (zF kM (zF Vz (zD jD (za (zf 1) (za (zF qM (zf 2) (zf 0)) zA))) (sI 8)) (sI 2)))))))
def vy:=jq 8<|zV (xU 4<|qi zA)<|zV (Kj (jE<|zf 3) (.nm 5)<|zV (jT 6<|zD jD<|za (zf 0)<|za (zF qM (zf 1)<|zf 5) zA)<|zV (jT 7<|zF kM (zf 6)<|zf 2)<|jQ 4<|qf<|za (zf 7)<|za (zF qM (zf 7)<|zF kM (zF Vz (zf 6)<|sI 16)<|zF Vj (zf 2)<|zf 7) zA)<|yW<|bJ<|zk 4
def qB:=jq 2<|yW<|zL (wW<|zf 0) (.tp [0,1]) 2 [1] (sB<|wH mR mR (aR (zk 1)<|sI 0) (zf 2)<|aR (zk 1)<|sI 1) (zf 0)
def uk:=(zV (jT 7 (zF qM (zf 5) (QS (zF cO (zf 6) (zJ (.str "l")))))) (zV (jT 8 (zF qM (zf 5) (QS (zF cO (zf 6) (zJ (.str "r")))))) (zV (jT 9 (j7 (zL (zT (z7 (jA qB (za (zf 2) (za (zf 8) zA))))) (.nm 0) 1 [2,7] jh (jk (z7 (zL (zT (z7 (jA qB (za (zf 1) (za (zf 2) zA))))) (.nm 0) 1 [0] jh (QS (zF cO (zf 1) (zf 0))))))))) (jQ 4 (qf (za (zf 6) (za (qf (za (aR (zk 3) (zf 8)) (za (aR (zk 3) (zf 7)) (za (jk (zk 9)) zA)))) zA)))))))
def j6:=jq 10<|zV (jT 3<|j7<|zL (jE<|zF qM (nv<|zf 1)<|sI 1) (.nm 0) 1 [2] jh (X3<|z7<|jA qB<|za (zf 1)<|za (zf 0) zA))<|zV (xU 4<|qi zA)<|zV (Kj (rS<|zf 1) (.tp [5,6]) uk)<|qv<|qf<|za (zf 0)<|za (jk<|zk 3)<|za (jk<|zk 4) zA
def vW:=jq 2<|qv<|zD kF<|za (aR (zk 0)<|sI 0)<|za (aR (zk 1)<|sI 1) zA
def Jy:=jq 2<|yW<|zL (zT<|zU<|qf<|za (zF Vj (zf 1)<|sI 1)<|za (zf 1) zA) (.nm 0) 1 [0] (sB<|wH mR pk (sI 0) (zf 0)<|nv<|zf 1) (zf 0)
def mE:=jq 2<|qv<|iO<|z7<|zL (zT<|z7<|jA Jy<|za (zf 0)<|za (zf 1) zA) (.nm 0) 1 [0,1] jh (zF cO (zD vg<|za (zf 0)<|za (wU (zf 1)<|zf 0) zA)<|zf 2)
def Ja:=jq 2<|qv<|iO<|z7<|zL (zT<|z7<|jA Jy<|za (zf 0)<|za (zf 1) zA) (.nm 0) 1 [0,1] jh (zF cO (zD qE<|za (zf 0)<|za (wU (zf 1)<|zf 0) zA)<|zf 2)
def Wn:zn D->xz Xn:=ZE 2 (vz (gU (jY (sB (zD vY (za (zF qM (nv (zf 0)) (sI 1)) (za (zf 1) zA))))) (aZ "NoRoom" (zf 1)) eR) (dt (jY (sB (zD vY (za (zF qM (nv (zf 0)) (sI 1)) (za (zf 1) zA))))) jP jN) (gU (BM (jY (sB (zD mE (za (zf 0) (za (zf 1) zA))))) (jY (sB (zD Ja (za (zf 0) (za (zf 1) zA)))))) (mP "NoTurn") eR))
abbrev m4(k:Sk)(xs:zn D):D:=match k with|.T=>D.tup xs|.L=>D.lst xs
@[simp] theorem zns(k xs):qg (m4 k xs)=aa (k,xs):=by cases k<;>rfl
theorem Wq(k)(f)(j:0<p)(e:n<=lim):
 ky [.int p,m4 k (zZ n f)]=aa (.val<|.tup<|zZ n λi=>f i%p):=by
 simp[ky,jq,z9,jj,e,yX];erw[zZ];rw[zq (r:=λi=>D.int<|f i%p)]
 .simp
 .intro i a
  show zu rfl rfl ?_;simp[j]
theorem AZ(f)(j:0<p)(e:n<=lim):
 ky [.int p,.tup (zZ n f)]=aa (.val<|.tup<|zZ n λi=>f i%p):=Wq .T f j e
theorem QE(f)(j:0<p)(e:n<=lim):
 ky [.int p,.lst (zZ n f)]=aa (.val<|.tup<|zZ n λi=>f i%p):=Wq .L f j e
theorem mD(k)(f)(g)(B:0<p)(z:h<=lim)(H:w<=lim)(e:∀i j,i<h->j<w->0<=f i j/\f i j<100):
 Ba [.int p,qJ h w f,m4 k (zZ w g)]=aa (.val<|.tup<|zZ h λi=>zN (λj=>f i j*g j) w%p):=by
 simp[Ba,jq,z9,jj,z,yX,qJ,cK];erw[jy];rw[zq]
 .simp
  rw[show(List.map _ _)=zZ h _ from rfl,QE _ B z];rfl
 .intro i a
  show zu rfl rfl ?_;simp[jj,JA,H];rw[zq]
  .simp
   rw[show(List.map _ _)=zZ w _ from rfl,vC]
  .intro j I
   show zu rfl rfl ?_;have:=e i j (dy.mp a)<|dy.mp I;simp[ZY (f i j) (g j) () ()]
theorem QF(f:DW)(z:h<=lim)(e:w<=lim):qV [qJ h w f]=aa (.val<|qJ w h λi j=>f j i):=by
 simp[qV,jq,z9,jj,z,e,yX,qJ,cK,jf,qo];rw[je w λi=>i];rw[zq]
 .rfl
 .intro j I
  show zu rfl rfl ?_;simp[jj,z,yX];erw[jy];rw[zq]
  .rfl
  .intro i a
   show zu rfl rfl ?_
   simp_all
theorem Zu(e:n<=lim):qQ [.int n]=aa (.val<|qJ n n λi j=>if i=j then 1 else 0):=by
 simp[qQ,jq,z9,jf,e,jj,yX,cK,qo];rw[je n λi=>i];rw[zq]
 .rfl
 .intro i a
  show zu rfl rfl ?_;simp[e,jj,cK,qo,yX];rw[je n λi=>i];rw[zq]
  .rfl
  .intro j z
   show zu rfl rfl ?_;simp;lia
theorem KP(d:D)(w):cK w d=(aT w).map λq=>d:=by
 induction w with
 |zero=>rfl
 |succ n z=>simp?[List.replicate_succ',z,pX,nG];simp
theorem zin(z:h<=lim)(e:w<=lim):kF [.int h,.int w]=aa (.val<|qJ h w λq q=>0):=by simp[kF,jq,z9,jf,wM,z,e];rw[KP,KP];rfl
def aG(e:zn Int):D:=.lst (e.map D.int)
mutual
theorem Dk:∀d,fx d d
 |.cI=>rfl
 |.bl b=>by simp[fx]
 |.int i=>by simp[fx]
 |.str x=>by simp[fx]
 |.tup e=>by simp?[fx];show y8 e
 |.lst e=>by simp?[fx];show y8 e
 |.exc c n=>by simp[fx]
 |.gC a b=>by simp?[fx];rw[y8 a,y8 b];rfl
 |.hO a b=>by simp?[fx];rw[y8 b];simp
 |.ins a b c=>by simp?[fx];rw[Dk b,Dk c];simp
theorem y8:∀e,oB e e
 |[]=>rfl
 |d::e=>by simp?[oB,Dk d,y8 e,Bool.and_self]
end
theorem Ks:∀{l}{n},(∀d∈l,deep d<=n)->oA l<=n
 |[],n,_=>g8 n
 |d::ds,n,h=>by simp?[oA];show Nat.max_le.mpr (h d fA,Ks λe a=>h e<|eV _ a)
theorem Ep(n f):deep (.tup<|zZ n f)<=1:=by
 simp?[deep];have:oA (zZ n f)<=0:=Ks λd a=>by simp[zZ]at a;let(i,q,rfl):=a;show cV _
 lia
theorem Er(h w f):deep (.tup<|jy h w f)<=2:=by
 simp?[deep];have:oA (jy h w f)<=1:=Ks λd a=>by simp[jy]at a;let(i,q,rfl):=a;show Ep _ _
 lia
theorem ag:∀{l},(∀d∈l,ff d)->mm l
 |[],_=>rfl
 |d::ds,h=>by simp?[mm,h d fA,ag λe a=>h e<|eV _ a,Bool.and_self]
theorem cX(h:deep d<=n)(j:n<=20)(e:ff d):f6 d:=by erw[f6];rw[e,Bool.and_true];show decide_eq_true<|et h j
theorem Ie(n f):ff (.tup<|zZ n f):=by
 simp?[ff];show ag λd a=>by simp[zZ]at a;let(i,q,rfl):=a;rfl
theorem Ig(h w f):ff (.tup<|jy h w f):=by
 simp?[ff];show ag λd a=>by simp[jy]at a;let(i,q,rfl):=a;show Ie _ _
theorem lY(h:f6 d):cO d d=aa (.bl ae):=by erw[cO];rw[DJ (h,h),Dk]
theorem Es(h:f6 d):gQ d d=aa (.bl aF):=by erw[gQ];rw[DJ (h,h),Dk];rfl
theorem wO(l:zn e):XY (l.map λq=>D.bl ae)=aa (l.map λq=>ae):=by
 induction l with
 |nil=>rfl
 |cons a l z=>simp[XY,OJ,z]
theorem QB(l:zn e):((l.map λq=>ae).all id):=by
 induction l with
 |nil=>rfl
 |cons a l z=>simp[z]
theorem V4(k:Int)(z:0<k):∃n:Nat,m%k=n/\n<k:=by have b:=l7 m z;let(n,a):=M1 (la m<|show k≠0 by lia);show(n,a,())
def el(b:Bool):Nat:=if b then 108 else 114
def jV(c:Nat):Str:=⟨#[c]⟩
theorem Xi:∀l,(m1 "" (l.map jV)).cps.toList=l
 |[]=>rfl
 |[c]=>rfl
 |c::d::l=>by
  change(_++m1 "" _).cps.toList=_;have e:∀a b:Str,(a++b).cps.toList=a.cps.toList++b.cps.toList:=λa b=>by change(a.cps++b.cps).toList=_;simp
  simp?[e,e,(Xi (d::l))];rfl
def wG(m:Nat)(w:DV):Str:=m1 "" ((aT m).map λk=>jV (el (w k)))
theorem xH(m w):(wG m w).cps.toList=(aT m).map λk=>el (w k):=by have:=Xi<|(aT m).map λk=>el<|w k;rw[gw]at this;show this
theorem Wx(m w):(wG m w).length=m:=by change(wG m w).cps.size=m;rw[<-t7,xH];simp
theorem QM(w)(e:m<=1000):zO (wG m w):=decide_eq_true (by rw[Wx];show e)
theorem Zz(g):∀l:zn e,bt (l.map λx=>D.str<|g x)=aa (l.map g)
 |[]=>rfl
 |a::l=>by simp[bt,Zz g l]
def dW(w:DV)(wd:DX)(k:Nat):Nat:=if w k then wd k else wd (k+1)
def dv(w:DV)(wd:DX)(k:Nat):Nat:=if w k then wd (k+1)else wd k
def yO(w:DV)(wd:DX)(T:DQ)(k:Nat):D:=.tup [.str (jV<|el<|w k),qJ (dW w wd k) (dv w wd k) (T k)]
def qT(m:Nat)(w:DV)(wd:DX)(T:DQ):zn D:=(aT m).map (yO w wd T)
def jW(p:Int)(m:Nat)(w:DV)(wd:DX)(T:DQ):D:=.tup [.int p,.tup<|zZ (m+1) λk=>(wd k:Int),.tup (qT m w wd T)]
@[simp] theorem AL(m w wd T):(qT m w wd T).length=m:=by simp[qT]
theorem bu{m k:Nat}(w)(j:m<=1000)(z:k<m)(M)(f g:CO D)(e:f M=aa (.str<|wG m w))(I:g M=aa (.int k)):wU f g M=aa (.str<|jV<|el<|w k):=by rw[my,e,I];simp?[dU,hJ];rw[DJ (QM w j),xH];simp[z,jV]
theorem FJ(b):cO (.str (jV (el b))) (.str "l")=aa (.bl b):=by
 have e:∀b,(jV (el b)==(fR "l"))=b:=by decide +kernel
 have z:∀b,f6 (.str<|jV<|el b):=by decide +kernel
 erw[cO];rw[DJ (z b,by decide +kernel)];change aa (D.bl (jV (el b)==fR "l"))=_;rw[e]
theorem Ny(b):f6 (.str<|jV<|el b):=by cases b<;>decide +kernel
theorem aE(b):cO (.str (jV (el b))) (.str "r")=aa (.bl (!b)):=by
 have e:∀b,(jV (el b)==(fR "r")) = !b:=by decide +kernel
 erw[cO];rw[DJ (Ny b,by decide +kernel)];change aa (D.bl (jV (el b)==fR "r"))=_;rw[e]
theorem Rn:fR "r" = jV (el aF):=by decide +kernel
theorem Ro:fR "l" = jV (el ae):=by decide +kernel
theorem VB(b):yS [.str (jV<|el b)]=aa (.val<|.str<|jV<|el !b):=by have a:=Rn;have q:=aE b;rw[a]at q;cases b<;>simp[yS,jq,z9,a,Ro]at q ⊢ <;> simp[q]
theorem EC(e:w k=w' k)(z:wd k=wd' k)(B:wd (k+1)=wd' (k+1))(H:∀i j,i<dW w wd k->j<dv w wd k->T k i j=T' k i j):yO w wd T k=yO w' wd' T' k:=by
 have a:dW w wd k=dW w' wd' k:=by erw[dW];rw[e,z,B]
 have b:dv w wd k=dv w' wd' k:=by erw[dv];simp?[e,z,B]
 erw[yO];simp?[e,<-a,<-b,Ei H]
theorem BU(B:∀k,k<m->w k=w' k)(e:∀k,k<m+1->wd k=wd' k)(H:∀k i j,k<m->i<dW w wd k->j<dv w wd k->T k i j=T' k i j):jW p m w wd T=jW p m w' wd' T':=by erw[jW,qT];rw[J4 λk z=>by rw[e k z]];rw[mX λk z=>EC (B k<|dy.mp z) (e k (by have:=dy.mp z;lia)) (e (k+1) (by have:=dy.mp z;lia)) λi j a I=>H k i j (dy.mp z) a I]
theorem VC(i):qD [.int i]=aa (.val<|.bl ae):=by simp[qD,jq,z9,Bg]
section
variable{p:Int}
theorem zgL(e:p=2\/p=3\/p=5\/p=7):vZ [.int p]=aa (.val<|.bl ae):=by rcases e with rfl|rfl|rfl|rfl<;>kernel_rfl
theorem XX{n:Nat}(h:n<=30):x9 [.int n]=aa (.val<|.bl ae):=by
 have a:(n:Int)<=30:=()
 simp[x9,jq,z9,VC,wH,(),a]
def Zo(h w:Nat)(f:DW):zn D:=(aT h).map λi=>D.lst<|zZ w<|f i
@[simp] theorem zmq(h w f):(Zo h w f).length=h:=by simp[Zo]
theorem QI(l)(h:pT l=n):qr [.lst l,.int n]=aa (.val<|.bl ae):=by simp[qr,jq,z9,rR,Bg,h]
theorem zhB(f)(e:w<=lim):v7 [.int w,.lst (zZ w f)]=aa (.val<|.bl ae):=by
 have a:zM (.nm 0) jh (zD qD<|za (zf 0) zA) [Cell.no] (zZ w f)=aa ((aT w).map λq=>D.bl ae):=by rw[je];show zq _ _ λj z=>zu rfl rfl ?_;rfl
 simp[v7,jq,z9,QI (n:=w) (zZ w f) (),e,jj,a,wO,QB,cK]
theorem zgI{h w:Nat}(e:p=2\/p=3\/p=5\/p=7)(I:h<=30)(B:w<=30)(f):ZL [.int p,.int h,.int w,.lst (Zo h w f)]=aa (.val<|qJ h w λi j=>f i j%p):=by
 have Y:=jm;have J:h<=lim:=()
 have z:w<=lim:=()
 have g1:zM (.nm 0) jh (zD v7<|za (zf 1)<|za (zf 0) zA) [Cell.no,vI w] (Zo h w f)=aa ((aT h).map λq=>D.bl ae):=by erw[Zo];show zq _ _ λj O=>zu rfl rfl ?_;simp[zhB (f j) z]
 have g2:zM (.nm 0) jh (zD ky<|za (zf 1)<|za (zf 0) zA) [Cell.no,vI p] (Zo h w f)=aa (jy h w λi j=>f i j%p):=by erw[Zo,jy];show zq _ _ λj O=>zu rfl rfl ?_;simp[QE (f j) (():0<p) z]
 simp[ZL,jq,z9,jf,zgL e,XX I,XX B,QI (n:=h) (Zo h w f) (),J,jj,yX,g1,g2,wO,QB,cK];rfl
end
theorem qm:∀{n},(∀k,k<n->f k=g k)->zN f n=zN g n
 |0,_=>rfl
 |n+1,h=>by simp?[zN];rw[qm λk z=>h k (),h n ()]
theorem qj(n):zN (λq=>0) n=0:=by
 induction n with
 |zero=>rfl
 |succ n z=>simp[zN,z]
theorem qx(j:i<n)(h:∀k,k<n->k≠i->f k=0):zN f n=f i:=by
 induction n with
 |zero=>lia
 | succ n z=>
  simp?[zN];by_cases e:i=n
  .subst e
   rw[qm (λk I=>h k () ()),qj];lia
  .rw[z () λk I=>h k (),h n () ()]
   lia
theorem qN(f g)(n):zN (λk=>f k+g k) n=zN f n+zN g n:=by
 induction n with
 |zero=>rfl
 |succ n z=>simp?[zN,z];lia
theorem qR(f)(c)(n):zN (λk=>c*f k) n=c*zN f n:=by
 induction n with
 |zero=>simp[zN]
 |succ n z=>simp?[zN,z,O1]
theorem VO(f:DW)(n m):zN (λi=>zN (λj=>f i j) m) n=zN (λj=>zN (λi=>f i j) n) m:=by
 induction n with
 |zero=>simp[zN,qj]
 |succ n z=>simp?[zN];rw[z,<-qN]
theorem ql:∀{n},(∀k,k<n->f k%p=g k%p)->zN f n%p=zN g n%p
 |0,_=>rfl
 |n+1,h=>by simp?[zN];rw[o4,ql<|λk z=>h k (),h n (),<-o4]
theorem zlm(p x y:Int):(x*(y%p))%p=(x*y)%p:=by rw[hH,vt,<-hH]
abbrev Vc:=Nat->Int
def Pr(p:Int):Prop:=p=2\/p=3\/p=5\/p=7
theorem Pr.pos(h:Pr p):0<p:=by erw[Pr]at h;lia
theorem Pr.two(h:Pr p):2<=p:=by erw[Pr]at h;lia
theorem Pr.le(h:Pr p):p<=7:=by erw[Pr]at h;lia
theorem Pr.one(h:Pr p):1%p=1:=so () (by have:=h.two;lia)
inductive Span(p:Int)(n:Nat)(G:Vc->Prop):Vc->Prop where
 |zero {v:Vc}:(∀i,i<n->v i%p=0)->Span p n G v
 |step {v w g:Vc} {c:Int}:G g->Span p n G w->(∀i,i<n->v i%p=(w i+c*g i)%p)->Span p n G v
section
variable{p:Int}{n:Nat}{G G':Vc->Prop}
theorem Span.congr(h:Span p n G v)(e:∀i,i<n->v' i%p=v i%p):Span p n G v':=by
 cases h with
 |zero h=>show .zero λi a=>by rw[e i a,h i a]
 |step z b h=>show .step z b λi a=>by rw[e i a,h i a]
theorem Span.gen(h:G g):Span p n G g:=.step (c:=1) h (.zero (v:=λq=>0) λi q=>by simp) λi q=>by simp
theorem Span.add(I:Span p n G v)(j:Span p n G w):∀c,Span p n G λi=>w i+c*v i:=by
 induction I with
 |zero h=>
  intro c;show j.congr λi a=>?_;rw[o4,hH,h i a];simp
 |@step v b g z J Y h O=>
  intro c;show .step (c:=c*z) J (O c) λi a=>?_;have e:(c*v i)%p=(c*(b i+z*g i))%p:=by rw[hH,h i a,<-hH]
  rw[o4,e,<-o4];congr 1;rw[O1,<-E9,Int.add_assoc]
theorem Span.smul(z:Span p n G v)(c):Span p n G λi=>c*v i:=
 (z.add (w:=λq=>0) (.zero λi q=>by simp) c).congr λi q=>by simp
theorem Span.le(h:Span p n G v)(z:∀g,G g->Span p n G' g):Span p n G' v:=by
 induction h with
 |zero h=>show .zero h
 |step I a h J=>show((z _ I).add J _).congr h
end
structure gi(p:Int)(n r:Nat)(B:Nat->Vc)(l:DX):Prop where
 lt:∀k,k<r->l k<n
 mono:∀k m,k<m->m<r->l k<l m
 one:∀k,k<r->B k (l k)=1
 jn:∀k j,k<r->j<l k->B k j=0
 r0:∀k m,k<r->m<r->m≠k->B k (l m)=0
 gS:∀k i,k<r->i<n->0<=B k i/\B k i<p
def dX(r:Nat)(B:Nat->Vc):Vc->Prop:=λv=>∃k,k<r/\v=B k
section
variable{p:Int}{n r r':Nat}{B B':Nat->Vc}{l l':DX}
theorem Ar(e:gi p n r B l)(h:Span p n (dX r B) v):∀i,i<n->v i%p=zN (λk=>v (l k)*B k i) r%p:=by
 induction h with
 |@zero v h=>
  intro i a;rw[h i a];have:zN (λk=>v (l k)*B k i) r%p=zN (λq=>0) r%p:=ql λk z=>by rw[hH,h _ (e.lt k z)];simp
  rw[this,qj];rfl
 |@step v w g c I j h J=>
  intro i a;let(m,b,rfl):=I;rw[h i a];have d:zN (λk=>v (l k)*B k i) r%p=zN (λk=>_+_) r%p:=ql λk z=>by rw[hH,h _<|e.lt k z,<-hH,Int.add_mul]
  have f:zN (λk=>c*B m (l k)*B k i) r=c*B m i:=by rw[qx b λk z O=>by rw[e.r0 m k b z O];simp,e.one m b];simp
  rw[d,qN,f,o4,J i a,<-o4]
theorem gD(H:gi p n r B l)(h:Span p n (dX r B) v)(I:j<n)(S:v j%p≠0)(J:∀i,i<j->v i%p=0):∃k,k<r/\l k=j:=by
 apply aU;intro O;apply S;rw[Ar H h j I];have:zN (λk=>v (l k)*B k j) r%p=zN (λx=>0) r%p:=ql λk z=>by
  have Y:l k≠j:=λe=>O (k,z,e);rcases gu (l k) j with q|q
  .rw[hH,J _ q];simp
  .rw[H.jn k j z ()];simp
 rw[this,qj];rfl
theorem lF(Y:∀k m,k<m->m<r->l k<l m)(Z:∀k m,k<m->m<r'->l' k<l' m)(e:∀k,k<r->∃m,m<r'/\l' m=l k)(j:∀k,k<r'->∃m,m<r/\l m=l' k):
 ∀k,k<r->k<r'/\l k=l' k:=by
 intro k
 induction k using Nat.strongRecOn with
 | ind k J=>
  intro O;let(m,d,em):=e k O;have a:k<=m:=by
   rcases gu m k with q|q
   .have:=(J m q ()).2
    have:=Y m k q O;lia
   .exact q
  have I:k<r':=()
  show(I,?_);let(q,f,eq):=j k I;have b:k<=q:=by
   rcases gu q k with z|z
   .have:=(J q z ()).2
    have:=Z q k z I;lia
   .exact z
  rcases gu k m with z|z
  .grind
  grind
theorem AG(S:Pr p)(e:gi p n r B l)(I:gi p n r' B' l')(j:∀v,Span p n (dX r B) v->Span p n (dX r' B') v)(H:∀v,Span p n (dX r' B') v->Span p n (dX r B) v):
 r=r'/\(∀k,k<r->l k=l' k)/\∀k i,k<r->i<n->B k i=B' k i:=by
 have one:=S.one;have f:=λk z=>gD I (j _<|.gen (k,z,rfl)) (e.lt k z) (by rw[e.one k z,one];decide) λi a=>by rw[e.jn k i z a];simp
 have g:=λk z=>gD e (H _<|.gen (k,z,rfl)) (I.lt k z) (by rw[I.one k z,one];decide) λi a=>by rw[I.jn k i z a];simp
 have b:=lF e.mono I.mono f g;have Y:r=r':=by
  rcases _r r r' with q|q|q
  .exact absurd ((lF I.mono e.mono g f) r q).1 (nU _)
  .exact q
  .exact absurd (b r' q).1 (nU _)
 subst Y;show(rfl,λk z=>(b k z).2,λk i z a=>?_);have c:=Ar I (j _<|.gen (k,z,rfl)) i a;rw[qx z λm d Z=>by rw[<-(b m d).2,e.r0 k m z d Z];simp,<-(b k z).2,e.one k z,Int.one_mul]at c;have J:=e.gS k i z a;have O:=I.gS k i z a;rw[so J.1 J.2,so O.1 O.2]at c;show c
end
theorem jM(q:α->Bool)(r:α->D):∀(l:zn α),(∀x∈l,∃z,qy T (g x) M=aa z/\k z=aa (q x)/\(q x->f z=aa (r x)))->
 zM T k f M (l.map g)=aa ((l.filter q).map r)
 |[],_=>rfl
 |x::l,h=>by
  let(z,a,b,d):=h x fA;have J:=jM q r l λy I=>h y<|eV _ I;simp?[kT,zM,a,b,dU]
  grind
theorem Fy(e:Pr p)(j:0<x)(z:x<p):∃y:Nat,1<=y/\y<p/\y*x%p=1:=by
 rcases e with rfl|rfl|rfl|rfl
 .obtain rfl:x=1:=()
  show(1,(),(),())
 .rcases (():x=1\/x=2)with rfl|rfl
  .exact(1,(),(),())
  .exact(2,(),(),())
 .rcases (():x=1\/x=2\/x=3\/x=4)with rfl|rfl|rfl|rfl
  .exact(1,(),(),())
  .exact(3,(),(),())
  .exact(2,(),(),())
  .exact(4,(),(),())
 .rcases (():x=1\/x=2\/x=3\/x=4\/x=5\/x=6)with rfl|rfl|rfl|rfl|rfl|rfl
  .exact(1,(),(),())
  .exact(4,(),(),())
  .exact(5,(),(),())
  .exact(2,(),(),())
  .exact(3,(),(),())
  .exact(6,(),(),())
theorem XO{q:DV}{n a:Nat}{rest:zn Nat}(h:(aT n).filter q=a::rest):a<n/\q a/\∀i,i<a->q i=aF:=by
 have b:a∈(aT n).filter q:=by rw[h];show fA
 show(dy.mp (o5.mp b).1,(o5.mp b).2,λi d=>?_);apply aU;intro f;have z:i∈a::rest:=by grind
 rcases d8.mp z with e|e
 .lia
 .have:=(List.pairwise_cons.mp<|by rw[<-h];show List.Pairwise.filter _ List.pairwise_lt_range).1 i e;lia
theorem zhC(e:Pr p)(j:0<x)(z:x<p):∃y,Vd [.int p,.int x]=aa (.val<|.int y)/\1<=y/\y<p/\x*y%p=1:=by
 rcases e with rfl|rfl|rfl|rfl
 .have:x=1:=()
  subst this;show(1,rfl,(),(),())
 .have:x=1\/x=2:=()
  rcases this with rfl|rfl
  .exact(1,rfl,(),(),())
  .exact(2,rfl,(),(),())
 .have:x=1\/x=2\/x=3\/x=4:=()
  rcases this with rfl|rfl|rfl|rfl
  .exact(1,rfl,(),(),())
  .exact(3,rfl,(),(),())
  .exact(2,rfl,(),(),())
  .exact(4,rfl,(),(),())
 .have:x=1\/x=2\/x=3\/x=4\/x=5\/x=6:=()
  rcases this with rfl|rfl|rfl|rfl|rfl|rfl
  .exact(1,rfl,(),(),())
  .exact(4,rfl,(),(),())
  .exact(5,rfl,(),(),())
  .exact(2,rfl,(),(),())
  .exact(3,rfl,(),(),())
  .exact(6,rfl,(),(),())
theorem zhD(B:Pr p)(j:n<=lim)(z:t<n)(w P:Nat->Int)(e:∀i,i<n->0<=w i/\w i<p):
 yV [.int p,.tup<|zZ n w,.tup<|zZ n P,.int t]=aa (.val<|.tup<|zZ n λi=>(w i-w t*P i)%p):=by
 have J:=e t z;have O:=B.le;have I x:pd (w t) x:=ZY _ _ () ();by_cases b:w t=0
 .simp[yV,jq,z9,jf,z,b]
  apply J4;intro i a;rw[so (e i a).1 (e i a).2]
 .simp[yV,jq,z9,jf,z,b,JA,j,jj,yX,cK]
  rw[zq (r:=λi=>D.int<|w i-w t*P i)]
  .rw[<-je]
   simp[QE _ B.pos j]
  .intro i a
   show zu rfl rfl ?_;simp[I]
theorem aj{l:DX}{r t:Nat}(e:∀k m,k<m->m<r->l k<l m)(I:∀k,k<r->l k<t):r<=t:=by
 have J:∀k,k<r->k<=l k:=by
  intro k
  induction k with
  |zero=>intro _;show g8 _
  |succ k O=>
   intro z;have a:=e k (k+1) () z;lia
 grind
def Un(r:Nat)(B:Nat->Vc)(m:Nat)(W:Nat->Vc):Vc->Prop:=λv=>dX r B v\/dX m W v
structure q2(p:Int)(n m:Nat)(W:Nat->Vc)(t r:Nat)(B:Nat->Vc)(l:DX)(Wt:Nat->Vc):Prop where
 gS:∀j i,j<m->i<n->0<=Wt j i/\Wt j i<p
 ug:∀j i,j<m->i<t->Wt j i=0
 rJ:gi p n r B l
 lt:∀k,k<r->l k<t
 span:∀v,Span p n (Un r B m Wt) v↔Span p n (dX m W) v
section
variable{p:Int}{n m:Nat}{W:Nat->Vc}{t r:Nat}{B:Nat->Vc}{l:DX}{Wt:Nat->Vc}
theorem q2.skip(h:q2 p n m W t r B l Wt)(I:∀j,j<m->Wt j t=0):q2 p n m W (t+1) r B l Wt:=
 (h.gS,λj i z a=>by
  rcases gu i t with q|q
  .exact h.ug j i z q
  .have:i=t:=()
   subst this;show I j z,h.rJ,λk J=>nF<|h.lt k J,h.span)
def fZ(p:Int)(P:Vc)(t:Nat)(w:Vc):Vc:=λi=>(w i-w t*P i)%p
def ot(p:Int)(P:Vc)(t r:Nat)(B:Nat->Vc):Nat->Vc:=λk=>if k<r then fZ p P t (B k)else P
def Fn(t r:Nat)(l:DX):Nat->Nat:=λk=>if k<r then l k else t
theorem Kv(z:Span p n G P)(e:Span p n G w):Span p n G (fZ p P t w):=
 (z.add e (-(w t))).congr λi q=>by erw[fZ];rw[vt];congr 1;rw[Int.neg_mul];lia
theorem iy(z:Span p n G P)(e:Span p n G (fZ p P t w)):Span p n G w:=
 (z.add e<|w t).congr λi q=>by
   erw[fZ]
   simp_all
theorem q2.next(S:Pr p)(h:q2 p n m W t r B l Wt)(U:t<n)(H:j0<m)(hy:Wt j0 t*y%p=1)(Y:∀i,i<n->P i=y*Wt j0 i%p):
 q2 p n m W (t+1) (r+1) (ot p P t r B) (Fn t r l) (λj=>fZ p P t<|Wt j):=by
 have C:=S.pos;have E:P t=1:=by rw[Y t U,ue];show hy
 have Z i:i<t->P i=0:=λa=>by rw[Y i (),h.ug j0 i H a];simp
 have F i:i<n->0<=P i/\P i<p:=λa=>by rw[Y i a];show(la _ (),l7 _ C)
 have x w i:0<=fZ p P t w i/\fZ p P t w i<p:=(la _ (),l7 _ C);have O w i:i<t->0<=w i->w i<p->fZ p P t w i=w i:=λa K L=>by erw[fZ];rw[Z i a,Int.mul_zero,Int.sub_zero];show so K L
 have A w:fZ p P t w t=0:=by erw[fZ];simp_all
 show(λj i J a=>x _ _,λj i J a=>?_,(λk I=>?_,λk q ad M=>?_,λk I=>?_,λk j I J=>?_,λk q I M G=>?_,λk i I a=>?_),λk I=>?_,λv=>?_)
 .rcases gu i t with q|q
  .have e:=h.ug j i J q
   rw[O _ i q () ()];show e
  .have:i=t:=()
   subst this;show A _
 .unfold Fn;split
  .rename_i q;show h.rJ.lt k q
  .exact U
 .unfold Fn
  have I:k<r:=()
  rw[DJ I];split
  .rename_i z;show h.rJ.mono k q ad z
  .exact h.lt k I
 .unfold Fn ot;split
  .rename_i q
   have e:=h.rJ.one k q;rw[O _ _ (h.lt k q) () (by have:=S.two;lia)];show e
  .exact E
 .unfold ot;erw[Fn]at J;split at J
  .rename_i q
   have e:=h.rJ.jn k j q J;have N:=h.lt k q;rw[DJ q,O _ _ () () ()];show e
  .rename_i q
   rw[DY q];show Z j J
 .unfold ot Fn
  by_cases s:k<r
  .rw[DJ s]
   by_cases b:q<r
   .rw[DJ b]
    have e:=h.rJ.r0 k q s b G;rw[O _ _ (h.lt q b) () ()];show e
   .rw[DY b];show A _
  .rw[DY s]
   have b:q<r:=()
   rw[DJ b];show Z _<|h.lt q b
 .unfold ot;split
  .exact x _ _
  .exact F i a
 .unfold Fn;split
  .rename_i q;show nF<|h.lt k q
  .exact oY _
 .rw[<-h.span v]
  have d:Span p n (Un r B m Wt) P:=((Span.gen<|.inr (j0,H,rfl)).smul y).congr λi a=>by simp_all
  have u:Span p n (Un (r+1) (ot p P t r B) m λj=>fZ p P t<|Wt j) P:=.gen (.inl (r,oY r,by erw[ot];rw[DY (nU r)]));constructor
  .refine λo=>o.le λg f=>?_
   rcases f with⟨k,I,rfl⟩|⟨j,J,rfl⟩
   .unfold ot;split
    .rename_i q;show Kv d<|.gen<|.inl (k,q,rfl)
    .exact d
   .exact Kv d<|.gen<|.inr (j,J,rfl)
  .refine λo=>o.le λg f=>?_
   rcases f with⟨k,I,rfl⟩|⟨j,J,rfl⟩
   .refine iy (t:=t) u (.gen<|.inl (k,nF I,?_))
    erw[ot];rw[DJ I]
   .exact iy u<|.gen<|.inr (j,J,rfl)
theorem q2.done(h:q2 p n m W n r B l Wt)(v):Span p n (dX r B) v↔Span p n (dX m W) v:=by
 rw[<-h.span v];constructor
 .exact λI=>I.le λg z=>.gen (.inl z)
 .refine λI=>I.le λg z=>?_
  rcases z with z|⟨j,J,rfl⟩
  .exact .gen z
  .exact .zero λi a=>by rw[h.ug j i J a];simp
theorem Al(I:True)(P):jy (r+1) n (ot p P t r B)=jy r n (λk=>fZ p P t<|B k)++[.tup (zZ n P)]:=by
 erw[jy];simp?[pX,nG];congr 1
 .apply mX
  intro k z;simp[ot,(dy.mp z)]
 .simp[ot]
end
theorem wA{p:Int}(e:Pr p){n m:Nat}(hn:n<=200)(S:m<=lim)(H)(W:Nat->Vc):
 ∃r B l,ke [.int p,.int n,m4 H (jy m n W)]=aa (.own<|jy r n B)/\gi p n r B l/\∀v,Span p n (dX r B) v↔Span p n (dX m W) v:=by
 have hl:=jm;have Y:n<=lim:=()
 have w:=e.pos;show aU λkZ=>?_;let(γ',X,r,B,l,Wt,f,h,a,b,rfl,z):=(YK (T:=.nm 5) (F:=J9)
  (λt G=>∃r B l Wt f h a b,G=[vI p,vI n,.val<|m4 H<|jy m n W,.val<|.lst<|jy m n Wt,.own<|jy r n B,f,h,a,b]/\q2 p n m W t r B l Wt)
  ((aT n).map λ(i:Nat)=>D.int i) 0 [vI p,vI n,.val<|m4 H<|jy m n W,.val<|.lst<|jy m n λj i=>W j i%p,.own [],.no,.no,.no,.no]
  (0,λc c=>0,λc=>0,λj i=>W j i%p,.no,.no,.no,.no,rfl,λj i c c=>(la _ (),l7 _ w),nofun,
   (nofun,nofun,nofun,nofun,nofun,nofun),
   nofun,λv=>(λu=>u.le λg s=>by
    rcases s with⟨k,hk,_⟩|⟨j,J,rfl⟩
    .exact absurd hk<|oo _
    .exact(Span.gen (j,J,rfl)).congr λi c=>vt _ _,λu=>u.le λg s=>by
    let(j,J,rfl):=s;show(Span.gen<|.inr (j,J,rfl)).congr λi c=>(vt _ _).symm)) (by
   rintro t d G o ⟨r,B,l,Wt,f,h,a,b,rfl,z⟩;rw[ub]at z ⊢;have O:= ~~~((i8.mp o).1)
   have K:=by simp[O]at o;show o.symm
   subst K;have Z:zM (.nm 0) (sB<|zF gQ (aR (zk 0)<|zf 1)<|sI 0) (zf 0) [Cell.no,vI t] (jy m n Wt)=aa (((aT m).filter λj=> !decide (Wt j t=0)).map λj=>D.tup<|zZ n<|Wt j):=by erw[jy];show jM _ _ _ λj J=>(_,rfl,?_,λc=>rfl);simp[O]
   have hr:=aj z.rJ.mono z.lt;have L:r<=lim:=()
   cases hf:(aT m).filter λj=> !decide (Wt j t=0)with
   |nil=>
    have hz:=λj J=>~~~List.filter_eq_nil_iff.mp hf j (dy.mpr J)
    rw[hf]at Z;show(_,.inr ?_,r,B,l,Wt,vI t,.val<|.lst [],a,b,rfl,z.skip hz);simp[J9];rw[jf];simp[jf,jj,yX,cK,Z,S]
   |cons I rest=>
    let(A,ax):I<m/\Wt I t≠0:=by have:=o5.mp (by rw[hf];show fA);simpa using this
    have M:=z.gS I t A O;let(y,ey,y1,y2,yy):=zhC e () M.2;rw[hf]at Z;show(_,.inl ?_,r+1,ot p (λi=>y*Wt I i%p) t r B,Fn t r l,λj=>fZ p (λi=>y*Wt I i%p) t<|Wt j,vI t,.val<|.lst<|(I::rest).map λj=>D.tup<|zZ n<|Wt j,vI y,.val<|.tup<|zZ n λi=>y*Wt I i%p,rfl,z.next e O A yy λi c=>rfl);have b2:=e.le;have R x:pd y x:=ZY _ _ () ();have N:zM (.nm 0) jh (zF wM (zf 1)<|zf 0) [Cell.no,vI y] (zZ n<|Wt I)=aa (zZ n λi=>y*Wt I i):=by simp?[je,je];show zq _ _ λi E=>zu rfl rfl ?_;simp[R]
    have C q V:(∀j i,j<q->i<n->0<=V j i/\V j i<p)->zM (.nm 0) jh (zD yV<|za (zf 1)<|za (zf 0)<|za (zf 3)<|za (zf 2) zA) [Cell.no,vI p,vI t,Cell.val (.tup<|zZ n λi=>y*Wt I i%p)] (jy q n V)=aa (jy q n λj=>fZ p (λi=>y*Wt I i%p) t<|V j):=λzij=>by erw[jy];show zq _ _ λj J=>zu rfl rfl ?_;simp[zhD e Y O (V j) (λi=>y*Wt I i%p) λi E=>zij j i (dy.mp J) E];rfl
    have P:r+1<=lim:=()
    rw[Al trivial];simp[J9];rw[jf];simp[jf,jj,yX,cK,Z,S,Y,O,ey,N,QE _ w Y,C m Wt z.gS,C r B z.rJ.gS,L,P]))
 show kZ ?_;simp?[f7,pM,ub]at z;show(r,B,l,?_,z.rJ,z.done);have Q:zM (.nm 0) jh (zD ky<|za (zf 1)<|za (zf 0) zA) [Cell.no,vI p] (jy m n W)=aa (jy m n λj i=>W j i%p):=by erw[jy];show zq _ _ λj J=>zu rfl rfl ?_;simp[AZ _ w Y]
 have U:ke [.int p,.int n,m4 H (jy m n W)]=jq 9 (zV (jT 3<|j7<|zL (zT<|zk 2) (.nm 0) 1 [0] jh (zD ky<|za (zf 1)<|za (zf 0) zA))<|zV (xU 4<|qi zA)<|zV (Kj (jE<|zf 1) (.nm 5) J9)<|bK 4) [.int p,.int n,m4 H (jy m n W)]:=rfl;rw[U];simp[jq,z9,jf,S,jj,yX,cK,Q,Y,qo];simp?[je n λi=>i,X];simp
theorem Zx(z:Pr p){n m:Nat}(H:n<=100)(j:m<=lim)(e)(W):
 ∃r B l,ke [.int p,.int n,m4 e (jy m n W)]=aa (.own<|jy r n B)/\gi p n r B l/\∀v,Span p n (dX r B) v↔Span p n (dX m W) v:=wA z () j e W
def Vv{e:Type}(q:Nat)(x:e)(f:Nat->e):Nat->e:=λk=>if k<q then f k else if k=q then x else f (k-1)
def aK(l:DX)(r x:Nat):Nat:=((aT r).filter λk=>decide<|l k<x).length
theorem aJ:∀{r},(∀k m,k<m->m<r->l k<l m)->(∀k,k<r->l k≠x)->aK l r x<=r/\(∀k,k<aK l r x->l k<x)/\∀k,aK l r x<=k->k<r->x<l k
 |0,_,_=>(cV _,λk I=>absurd I (by simp[aK]),λk v I=>absurd I<|oo _)
 | r+1,hm,n_=>by
  show aU λJ=>?_;let(g,d,f):=aJ (r:=r) (λk m a b=>hm k m a ()) λk I=>n_ k ();show J ?_;have e:aK l (r+1) x=aK l r x+if l r<x then 1 else 0:=by erw[aK];rw[pX,_h,mK];by_cases q:l r<x<;>simp[q]
  by_cases q:l r<x
  .rw[e,DJ q]
   have O:aK l r x=r:=by
    rcases gu _ r with z|z
    .have Y:=f _ (cV _) z
     have Z:=hm _ r z<|oY r;lia
    .lia
   rw[O];show(cV _,λk I=>?_,λk a b=>absurd b ());rcases gu k r with z|z
   .exact d k ()
   .have:k=r:=()
    subst this;show q
  .rw[e,DY q,Nat.add_zero]
   show((),d,λk a b=>?_);rcases gu k r with z|z
   .exact f k a z
   .have:k=r:=()
    subst this;have:=n_ k b;lia
section
variable{p:Int}{n r:Nat}{B:Nat->Vc}{l:DX}{w:Vc}
structure xv(p:Int)(n r:Nat)(B:Nat->Vc)(l:DX)(w:Vc)(k:Nat)(R:Vc):Prop where
 gS:∀i,i<n->0<=R i/\R i<p
 ug:∀q,q<k->R (l q)=0
 eqv:∀G,(∀k,k<r->Span p n G (B k))->(Span p n G w↔Span p n G R)
theorem xv.next(j:Pr p)(e:gi p n r B l)(h:xv p n r B l w k R)(I:k<r):xv p n r B l w (k+1) (fZ p (B k) (l k) R):=by
 have a:=j.pos;show(λi v=>(la _ (),l7 _ a),λq b=>?_,λG J=>?_)
 .unfold fZ
  rcases gu q k with z|z
  .rw[h.ug q z,e.r0 k q I () ()];simp
  .have:q=k:=()
   subst this;rw[e.one q I];simp
 .rw[h.eqv G J]
  show((Kv<|J k I),(iy<|J k I))
theorem dF(e:q<=r)(I:k<r+1):(k=q/\Vv q x f k=x)\/∃z,z<r/\Vv q x f k=f z/\((k<q/\z=k)\/(q<k/\z+1=k)):=by
 erw[Vv]
 grind
theorem q_:Vv q x f q=x:=by erw[Vv];rw[DY (nU _),DJ rfl]
theorem IA:∃I,(I<q/\I=k\/q<I/\I=k+1)/\Vv q x f I=f k:=by
 rcases gu k q with z|z
 .exact(k,.inl (z,rfl),by erw[Vv];rw[DJ z])
 .exact(k+1,.inr ((),rfl),by erw[Vv];rw[DY (),DY ()];rfl)
theorem IC(W:Pr p)(H:gi p n r B l)(ha:a<n)(S:R a=1)(hz:∀i,i<a->R i=0)(U:∀k,k<r->R (l k)=0)(hR:∀i,i<n->0<=R i/\R i<p):
 gi p n (r+1) (Vv (aK l r a) R λk=>fZ p R a<|B k) (Vv (aK l r a) a l):=by
 have L:=W.pos;let(K,M,N):=aJ H.mono (λk J e=>by have:=U k J;rw[e,S]at this;lia);have E w i:0<=fZ p R a w i/\fZ p R a w i<p:=(la _ (),l7 _ L);have A w:fZ p R a w a=0:=by erw[fZ];simp_all
 have u w k:k<r->0<=w (l k)->w (l k)<p->fZ p R a w (l k)=w (l k):=λJ S F=>by erw[fZ];simp?[U k J,Int.mul_zero,Int.sub_zero];show so S F
 have C k j:k<r->j<l k->fZ p R a (B k) j=0:=λJ g=>by
  erw[fZ];rw[H.jn k j J g];rcases gu a (l k)with z|z
  .rw[H.jn k a J z];simp
  .rw[hz j ()];simp
 have two:=W.two;have Y:∀k,k<r+1->(k=aK l r a/\Vv (aK l r a) R (λk=>fZ p R a<|B k) k=R/\Vv (aK l r a) a l k=a)\/
  ∃I,I<r/\Vv (aK l r a) R (λk=>fZ p R a<|B k) k=fZ p R a (B I)/\Vv (aK l r a) a l k=l I/\((k<aK l r a/\I=k)\/(aK l r a<k/\I+1=k)):=by
  intro k J;rcases dF K J with⟨b,h⟩|⟨I,O,b,h⟩
  .left;show(b,h,?_);subst b;show q_
  .right
   show(I,O,b,?_,h);rcases h with⟨x,y⟩|⟨x,y⟩
   .unfold Vv;rw[DJ x,y]
   .unfold Vv;rw[DY (),DY ()];congr 1;lia
 show(λk J=>?_,λk m ad s=>?_,λk J=>?_,λk j J g=>?_,λk m J s P=>?_,λk i J G=>?_)
 .rcases Y k J with⟨_,_,e⟩|⟨I,O,_,e,_⟩
  .rw[e];show ha
  .rw[e];show H.lt I O
 .rcases Y k ()with⟨z,_,e⟩|⟨I,O,_,e,z⟩<;>rcases Y m s with⟨t,_,f⟩|⟨d,Z,_,f,t⟩<;>simp?[e,f]
  .lia
  .exact N d () Z
  .exact M I ()
  .exact H.mono I d () Z
 .rcases Y k J with⟨_,b,e⟩|⟨I,O,b,e,_⟩<;>rw[b,e]
  .exact S
  .have o:=H.one I O
   rw[u _ I O () ()];show o
 .rcases Y k J with⟨_,b,e⟩|⟨I,O,b,e,_⟩<;>rw[b]<;>rw[e]at g
  .exact hz j g
  .exact C I j O g
 .rcases Y k J with⟨z,b,_⟩|⟨I,O,b,_,z⟩<;>rcases Y m s with⟨t,_,f⟩|⟨d,Z,_,f,t⟩<;>rw[b,f]
  .lia
  .exact U d Z
  .exact A _
  .have o:=H.r0 I d O Z ()
   rw[u _ d Z () ()];show o
 .rcases Y k J with⟨_,b,_⟩|⟨I,O,b,_,_⟩<;>rw[b]
  .exact hR i G
  .exact E _ _
theorem ID(j:q<=r)(z:Span p n G R)(I:∀k,k<r->Span p n G (F k)):∀g,dX (r+1) (Vv q R F) g->Span p n G g:=by
 rintro g ⟨k,J,rfl⟩;rcases dF j J with⟨_,e⟩|⟨O,Y,e,_⟩<;>rw[e]
 .exact z
 .exact I O Y
theorem Io(j:q<=r):dX (r+1) (Vv q R F) R/\∀k,k<r->dX (r+1) (Vv q R F) (F k):=by show((q,(),q_.symm),λk I=>?_);let(z,h,e):=IA;show(z,(),e.symm)
theorem CS(hp:Pr p)(hb:gi p n r B l)(ha:a<n)(hs:∀v,Span p n (dX r B) v↔Span p n (dX j W) v)(O:xv p n r B l (W j) r R)(U:y*R a%p=1)(S:∀i,i<n->R' i=y*R i%p)(H:aK l r a<=r)(v):
 Span p n (dX (r+1)<|Vv (aK l r a) R' λk=>fZ p R' a<|B k) v↔Span p n (dX (j+1) W) v:=by
 have s v:Span p n (dX j W) v->Span p n (dX (j+1) W) v:=λJ=>J.le λg h=>by let(i,b,e):=h;show .gen (i,(),e)
 have Y:=λk I=>s _<|(hs _).mp (.gen (k,I,rfl));have Z:Span p n _ R':=(((O.eqv _ Y).mp (.gen (j,(),rfl))).smul y).congr λi b=>by simp_all
 let(o,ziC):=Io H;have d:Span p n (dX (r+1)<|Vv _ R' λk=>fZ p R' a<|B k) R':=.gen o;have f:=λk I=>iy d<|.gen<|ziC k I;constructor
 .exact λJ=>J.le<|ID H Z λk I=>Kv Z<|Y k I
 .refine λJ=>J.le ?_
  rintro g ⟨i,b,rfl⟩;rcases gu i j with z|z
  .exact((hs _).mpr (.gen (i,z,rfl))).le λg m=>by let(k,I,e):=m;rw[e];show f k I
  .have:i=j:=()
   subst this;show(O.eqv _ f).mpr ((d.smul<|R a).congr λi b=>by
  rw[S i b,zlm,<-E9,ue (R a) y,hH,U,Int.one_mul,vt])
theorem zkj(hs:∀v,Span p n (dX r B) v↔Span p n (dX j W) v)(J:xv p n r B l (W j) r R)(H:∀i,i<n->R i=0)(v):Span p n (dX r B) v↔Span p n (dX (j+1) W) v:=by
 constructor
 .exact λI=>((hs v).mp I).le λg (i,a,e)=>.gen (i,(),e)
 .refine λI=>I.le ?_
  rintro g ⟨i,a,rfl⟩;rcases gu i j with z|z
  .exact(hs _).mpr (.gen (i,z,rfl))
  .have:i=j:=()
   subst this;show(J.eqv _ λk O=>.gen (k,O,rfl)).mpr (.zero λi a=>by simp_all)
end
theorem Ao(h w f):deep (.lst<|jy h w f)<=2:=Er h w f
theorem CB(h w f):ff (.lst<|jy h w f):=Ig h w f
theorem ly(h w f):f6 (.lst<|jy h w f):=cX (Ao h w f) ()<|CB h w f
@[simp] theorem zl8(h w f):(Zo h w f).length=h:=by simp[Zo]
section
variable{p:Int}{n m r:Nat}{G:Vc->Prop}
theorem Span.sum{u:Nat->Vc}(c:Nat->Int):∀{m},(∀k,k<m->Span p n G (u k))->Span p n G λi=>zN (λk=>c k*u k i) m
 |0,_=>.zero λi q=>by simp[zN]
 |m+1,h=>(((h m ()).add (Span.sum c (m:=m) λk z=>h k ()) (c m))).congr λi q=>by rfl
def Rk(p:Int)(n m:Nat)(W:Nat->Vc)(r:Nat):Prop:=∃B l,gi p n r B l/\∀v,Span p n (dX r B) v↔Span p n (dX m W) v
theorem Hk(e:Pr p)(h:Rk p n m W r)(h':Rk p n m W r'):r=r':=by let(B,l,b,a):=h;let(d,f,J,I):=h';show(AG e b J (λv z=>(I v).mpr ((a v).mp z))<|λv z=>(a v).mpr ((I v).mp z)).1
theorem iQ(j:Pr p)(e:gi p n r B l)(H:∀i,i<n->0<=w i/\w i<p):∀k,k<=r->∃R,xv p n r B l w k R
 |0,_=>(w,H,λq a=>absurd a<|oo _,λG v=>Iff.rfl)
 |k+1,h=>by let(R,z):=iQ j e H k ();show(_,z.next j e ())
theorem lU:∀n (R:Vc),(∀i,i<n->R i=0)\/∃a,a<n/\R a≠0/\∀i,i<a->R i=0
 |0,R=>.inl λi b=>absurd b<|oo _
 | n+1,R=>by
  rcases lU n R with h|⟨a,h1,h2,h3⟩
  .by_cases e:R n=0
   .exact .inl λi b=>by rcases gu i n with z|z;show h i z;rw[show i=n by lia];show e
   .exact .inr (n,(),e,h)
  .exact .inr (a,(),h2,h3)
theorem EX(H:Pr p)(W)(O:∀j i,0<=W j i/\W j i<p):∀m,∃r,r<=m/\Rk p n m W r
 |0=>(0,cV _,λx x=>0,λx=>0,(λk z=>absurd z<|oo _,λk q x z=>absurd z<|oo _,λk z=>absurd z<|oo _,λk j z=>absurd z<|oo _,λk q z=>absurd z<|oo _,λk i z=>absurd z<|oo _),
  λv=>(λJ=>J.le λg (k,z,_)=>absurd z<|oo _,λJ=>J.le λg (k,z,_)=>absurd z<|oo _))
 | m+1=>by
  let(r,s,B,l,b,d):=EX H W O m;have o:=H.pos;let(R,I):=iQ H b (λi x=>O m i) r<|cV _;rcases lU n R with h0|⟨a,ha,Z,a1⟩
  .exact(r,(),B,l,b,zkj d I h0)
  .have f:=I.gS a ha
   let(y,x,x,Y):=Fy H () f.2;show(r+1,(),_,_,IC H b ha Y (λi h=>by rw[a1 i h];simp) (λk z=>by rw[I.ug k z];simp) λi x=>(la _ (),l7 _ o),
    CS H b ha d I Y (λi x=>rfl) (aJ b.mono (λk z e=>by have:=I.ug k z;rw[e]at this;show Z this)).1)
theorem EW(H:Pr p)(m)(W):∃r,r<=m/\Rk p n m W r:=by
 let(r,I,B,l,a,b):=EX H (λj i=>W j i%p) (λj i=>(la _ (by have:=H.pos;lia),l7 _ H.pos)) m;show(r,I,B,l,a,λv=>(b v).trans (λh=>h.le λg (k,z,e)=>?_,λh=>h.le λg (k,z,e)=>?_))
 .subst e;show(Span.gen (k,z,rfl)).congr λi q=>by rw[vt]
 .subst e;show(Span.gen (k,z,rfl)).congr λi q=>by rw[vt]
theorem MB(H:Pr p)(h:Rk p n m W r)(h':Rk p n m' W' r')(S:∀j,j<m->Span p n (dX m' W') (W j)):r<=r':=by
 let(B,l,a,o):=h;let(w,t,O,Z):=h';have u:=λk I=>gD O ((Z _).mpr (((o _).mp (.gen (k,I,rfl))).le λg (j,f,e)=>e ▸ S j f)) (a.lt k I) (by rw[a.one k I,H.one];decide) λi d=>by rw[a.jn k i I d];simp
 have x:∀k,k<r->∀q,q<r'->t q=l k->k<=q:=by
  intro k
  induction k with
  |zero=>intro _ q _ _;show g8 _
  | succ k s=>
   intro I q E e;let(J,Y,b):=u k ();have A:=s () J Y b;have C:=a.mono k (k+1) () I;rcases gu J q with z|z
   .lia
   .rcases gu q J with y|y
    .have:=O.mono q J y Y
     lia
    grind
 grind
end
section
variable{p:Int}{n m r h w:Nat}
theorem Ki{l:DX}(h):∀{r},(∀k m,k<m->m<r->l k<l m)->∃s,s<=r/\(∀k,k<s->l k<h)/\∀k,s<=k->k<r->h<=l k
 |0,_=>(0,cV _,λk I=>absurd I<|oo _,λk q I=>absurd I<|oo _)
 | r+1,hm=>by
  let(s,b,a,d):=Ki h (r:=r) λk m I J=>hm k m I ();by_cases e:l r<h
  .refine(r+1,cV _,λk I=>?_,λk b a=>by lia)
   rcases gu k r with z|z
   .have:=hm k r z ();lia
   .have:k=r:=()
    subst this;show e
  .refine(s,(),a,λk I O=>?_)
   rcases gu k r with z|z
   .exact d k I z
   .have:k=r:=()
    subst this;lia
theorem zhY(hs:s<=r)(e:∀k,k<s->q k=aF)(j:∀k,s<=k->k<r->q k):(aT r).filter q=(aT<|r-s).map (s + ·):=by
 let(d,rfl):∃d,r=s+d:=(r-s,());rw[N9,_h];have a:(aT s).filter q=[]:=List.filter_eq_nil_iff.mpr λk z=>by rw[e k (dy.mp z)];decide
 have b:_=(aT d).map (s + ·):=_E.mpr λk z=>by let(i,f,rfl):=eU.mp z;show j _ () (by have:=dy.mp f;lia)
 simp?[a,b,M0];rfl
def YW(h:Nat)(u v:Vc):Vc:=λi=>if i<h then u i else v (i-h)
def v9(j:Nat):Vc:=λk=>if j=k then 1 else 0
theorem xN(e:i<h):YW h u v i=u i:=DJ e
theorem xM(i):YW h u v (h+i)=v i:=by erw[YW];rw[DY (),M0]
theorem Kq(h w)(u v):zZ h u++zZ w v=zZ (h+w) (YW h u v):=by
 erw[zZ];rw[N9,nG];congr 1
 .exact mX λi a=>by rw[xN (dy.mp a)]
 .rw[gw]
  show mX λi q=>by simp?[Function.comp];rw[xM]
theorem Af(h w)(v):(zZ (h+w) v).take h=zZ h v:=by erw[zZ];rw[<-List.map_take,List.take_range,Nat.min_eq_left (nh h w)]
theorem Ag(h w)(v):(zZ (h+w) v).drop h=zZ w λj=>v (h+j):=by erw[zZ];rw[N9,nG,List.drop_append_of_le_length (),DM (),gw];rfl
theorem md(h w)(v):me (zZ (h+w) v) af (aa h)=zZ h v:=by
 have c:¬((h:Int)<0):=()
 simp[me,aH,c,Nat.min_eq_left<|nh h w,Af]
theorem ma(h w)(v):me (zZ (h+w) v) (aa h) af=zZ w λj=>v (h+j):=by
 have c:¬((h:Int)<0):=()
 have t g:(zZ w g).take w=zZ w g:=DI ();simp[me,aH,c,Nat.min_eq_left<|nh h w,Ag,t]
theorem iD(v):∀n,XY (zZ n v)=aa ((aT n).map λi=>v i != 0)
 |0=>rfl
 | n+1=>by
  have z:∀l:zn Nat,XY (l.map λi=>D.int<|v i)=aa (l.map λi=>v i != 0):=by
   intro l
   induction l with
   |nil=>rfl
   |cons a l I=>simp[XY,OJ,I]
  show z _
theorem Vg(H:gi p (h+w) r B l)(J:r<=lim)(hs:s<=r)(O:∀k,k<s->l k<h)(h2:∀k,s<=k->k<r->h<=l k):
 xu [.int h,.lst (jy r (h+w) B)]=aa (.own<|jy (r-s) w λk j=>B (s+k)<|h+j):=by
 have I:zM (.nm 0) (jY<|sB<|Lz<|zU<|rO (zf 0) Jz<|eo<|zf 1) (rO (zf 0) (eo<|zf 1) Jz) [Cell.no,vI h] (jy r (h+w) B)=aa (((aT r).filter λk=>decide<|h<=l k).map λk=>D.tup<|zZ w λj=>B k<|h+j):=by
  erw[jy];show jM _ _ _ λk z=>(_,rfl,?_,λf=>?_)
  .have z:=dy.mp z
   simp[md,iD];by_cases e:h<=l k
   .simp[e]
    intro i d;simp[(H.jn k i z ())]
   .simp[e]
    show(l k,(),by rw[H.one k z];decide)
  .simp[ma]
 rw[zhY hs (λk z=>decide_eq_false (by have:=O k z;lia)) (λk a b=>decide_eq_true<|h2 k a b)]at I;simp[xu,jq,z9,J,jj,yX,cK,I];rfl
def F4(p:Int)(h w:Nat)(f:DW)(v:Vc):Prop:=∀i,i<h->zN (λj=>f i j*v j) w%p=0
theorem Cu{f:DW}(I:Span p (h+w) (dX w λj=>YW h (λi=>f i j)<|v9 j) v):∀i,i<h->v i%p=zN (λj=>f i j*v (h+j)) w%p:=by
 induction I with
 |@zero v z=>
  intro i a;rw[z i ()];have:zN (λj=>f i j*v (h+j)) w%p=zN (λq=>0) w%p:=ql λj J=>by rw[hH,z (h+j) ()];simp
  rw[this,qj];rfl
 |@step v u g c O k b Y=>
  intro i a;let(m,e,rfl):=O;rw[b i (),o4,Y i a,<-o4];have d:zN (λj=>f i j*v (h+j)) w%p=zN (λj=>_+_) w%p:=ql λj J=>by rw[hH,b (h+j) (),<-hH];simp?[xM];rw[O1,T2]
  simp?[d,qN,qR,qx (f:=λj=>f i j*v9 m j) e λj q Z=>by simp[v9,dh Z]];simp[v9,xN a]
theorem Br(hp:Pr p)(w):gi p w w v9 id where
 lt:=λk z=>z
 mono:=λk m z q=>z
 one:=λk q=>DJ rfl
 jn:=λk j q I=>DY (by simp?[id]at I;lia)
 r0:=λk m q q J=>DY (by simp?[id];lia)
 gS:=λk i q q=>by have:=hp.two;erw[v9];split<;>lia
theorem Span.map(t:DX)(z:∀i,i<n'->t i<n)(I:∀g,G g->Span p n' G' λi=>g<|t i)(J:Span p n G v):Span p n' G' λi=>v (t i):=by
 induction J with
 |@zero v O=>show .zero λi a=>O _<|z i a
 |@step v u g c Y d b Z=>show((I _ Y).add Z c).congr λi a=>b _<|z i a
theorem VH(H:gi p (h+w) r B l)(hs:s<=r)(S:∀k,k<s->l k<h)(U:∀k,s<=k->k<r->h<=l k):
 gi p w (r-s) (λk j=>B (s+k)<|h+j) (λk=>l (s+k)-h)/\∀v,Span p w (dX (r-s) λk j=>B (s+k)<|h+j) v↔Span p (h+w) (dX r B) (YW h (λq=>0) v):=by
 have J {k} (I:k<r-s):s+k<r:=Nat.add_lt_of_lt_sub' I;have O {k} (I:k<r-s):h<=l (s+k):=U _ (nh ..)<|J I;have eh {k} (I:k<r-s):=Nat.add_sub_cancel'<|O I;show({
  lt:=λk I=>Nat.sub_lt_left_of_lt_add (O I)<|H.lt _<|J I
  mono:=λk m I b=>Nat.sub_lt_sub_right (O<|Nat.lt_trans I b)<|H.mono _ _ (_K I s)<|J b
  one:=λk I=>by rw[eh I];show H.one _<|J I
  jn:=λk j I Y=>H.jn _ _ (J I)<|Nat.add_lt_of_lt_sub' Y
  r0:=λk m I b o=>by rw[eh b];show H.r0 _ _ (J I) (J b) λe=>o<|Nat.add_left_cancel e
  gS:=λk i I a=>H.gS _ _ (J I) (_K a h)},λv=>(λZ=>?_,λZ=>?_))
 .induction Z with
  | @zero v A=>
   show .zero λi a=>?_;rcases gu i h with z|z
   .rw[xN z];simp
   .let(k,rfl):=To z
    rw[xM];show A k<|Nat.lt_of_add_lt_add_left a
  | @step v u g c y E x f=>
   let(k,I,rfl):=y;show .step (c:=c) (s+k,J I,rfl) f λi a=>?_;rcases gu i h with z|z
   .rw[xN z,xN z,H.jn (s+k) i (J I) (hV z<|O I)];simp
   .let(j,rfl):=To z
    rw[xM,xM];show x j<|Nat.lt_of_add_lt_add_left a
 .refine(Span.sum (λk=>YW h (λq=>0) v<|l<|s+k) λk I=>.gen (k,I,rfl)).congr λj Y=>?_
  have:=(Ar H Z) (h+j)<|_K Y h;rw[xM]at this;rw[this];let(d,rfl):=To hs;rw[M0];have C:∀F d,(∀k,k<s->F k=0)->zN F (s+d)=zN (λk=>F<|s+k) d:=by
   intro F d t
   induction d with
   |zero=>
    change zN F s=0;rw[qm t,qj]
   |succ d f=>rw[<-Nat.add_assoc];simp?[zN];rw[f]
  rw[C _ d λk I=>by rw[xN (S k I)];simp]
theorem zhx(H:Pr p)(hh:h<=100)(hw:w<=100)(f:DW):
 ∃q K l s,wz [.int p,qJ h w f]=aa (.own<|jy q w K)/\gi p w q K l/\(∀v,Span p w (dX q K) v↔F4 p h w f v)/\Rk p h w (λj i=>f i j) s/\q+s=w:=by
 have hl:=jm;have N:h<=lim:=()
 have d:w<=lim:=()
 have P:h+w<=lim:=()
 let(r,B,l,e,b,Z):=wA H (():h+w<=200) d .L λj=>YW h (λi=>f i j)<|v9 j;have Q:w<=r:=by let(r',x,y):=EW H r λk j=>B k<|h+j;show et (MB H (v9,id,Br H w,λv=>Iff.rfl) y λj J=>?_) x;show(Span.map (n':=w) (G':=dX r λk j=>B k<|h+j) (λi=>h+i) (λi a=>by lia) (λg (k,I,O)=>.gen (k,I,by rw[O]))<|(Z<|YW h (λi=>f i j)<|v9 j).mpr (.gen (j,J,rfl))).congr λi n=>by rw[xM]
 have X:=Nat.le_antisymm (by
  let(r',x,y):=EW H w λj=>YW h (λi=>f i j)<|v9 j;rw[Hk H (B,l,b,Z) y];show x) Q
 subst X;let(s,E,A,C):=Ki h b.mono;let(R,γ):=VH b E A C;show(r-s,_,_,s,?_,R,λv=>(λY=>?_,λY=>?_),?_,())
 .have F:=QF f N d
  have G:=Zu d;have S:zM (.tp [0,1]) jh (zF qM (zf 0)<|zf 1) [Cell.no,Cell.no] ((aT r).map λj=>D.tup [.tup (zZ h λi=>f i j),.tup (zZ r λk=>if j=k then 1 else 0)])=aa (jy r (h+r) λj=>YW h (λi=>f i j)<|v9 j):=by erw[jy];show zq _ _ λj J=>zu rfl rfl ?_;simp[qM,P,Kq];rfl
  have zlV:Vk (jy r h λi j=>f j i) (jy r r λi j=>if i=j then 1 else 0)=(aT r).map λj=>D.tup [.tup (zZ h λi=>f i j),.tup (zZ r λk=>if j=k then 1 else 0)]:=by erw[Vk,jy];rw[B0];simp
  have W:((h:Int)+(r:Int))=((h+r:Nat):Int):=()
  simp?[m4]at e;rw[<-W]at e;erw[qJ]at F G ⊢;have nl:∀T t f M,zM T t f M []=aa []:=λn n n n=>rfl;simp[wz,yt,jq,z9,jf,F,G,zlV,d,jj,cK,S,nl,e,(Vg b d E A C)]
 .intro i a
  have:=Cu ((Z _).mp ((γ v).1 Y)) i a;simp?[xN a,xM]at this;rw[<-this];rfl
 .
  show(γ v).2 ?_;show(Z _).mpr ((Span.sum (u:=λj=>YW h (λi=>f i j)<|v9 j) v (m:=r) λj J=>.gen (j,J,rfl)).congr λi a=>?_);rcases gu i h with z|z
  .simp?[xN z]
   rw[qm (g:=λj=>f i j*v j) λj n=>ue _ _,Y i z];simp
  .let(k,rfl):∃k,i=h+k:=(i-h,())
   simp?[xM];rw[qx (f:=λj=>v j*v9 j k) (i:=k) () λj n o=>by simp[v9,o]];simp[v9]
 .
  show(λk i=>B k i,l,(λk I=>A k I,λk m I hm=>b.mono k m I (),λk I=>b.one k (),λk j I J=>b.jn k j () J,λk m I hm o=>b.r0 k m () () o,λk i I a=>b.gS k i () ()),λv=>(λY=>Y.le λg (k,I,O)=>?_,λY=>Y.le λg (j,J,O)=>?_))
  .subst O
   show Span.map (n':=h) (G':=dX r λj i=>f i j) (λi=>i) (λi a=>by lia) (λg U=>by let(j,J,O):=U;show(Span.gen (g:=λi=>f i j) (j,J,rfl)).congr λi a=>by rw[O];simp?[xN a])<|(Z<|B k).mp (.gen (k,(),rfl))
  .subst O
   show(Span.map (n':=h) (G':=dX s λk i=>B k i) (λi=>i) (λi a=>by lia) (λg hZ=>by
    let(k,I,O):=hZ;subst O;rcases gu k s with z|z
    .exact .gen (k,z,rfl)
    .exact .zero λi a=>by rw[b.jn k i I (by have:=C k z I;lia)];simp) ((Z<|YW h (λi=>f i j)<|v9 j).mpr (.gen (j,J,rfl)))).congr λi a=>by rw[xN a]
theorem Vb(e:Pr p)(z:h<=20)(B:w<=20)(f):
 ∃q K l s,wz [.int p,qJ h w f]=aa (.own<|jy q w K)/\gi p w q K l/\(∀v,Span p w (dX q K) v↔F4 p h w f v)/\Rk p h w (λj i=>f i j) s/\q+s=w:=zhx e () () f
end
section
variable{p:Int}{w:Nat}
def app(f:DW)(w:Nat)(v:Vc):Vc:=λi=>zN (λj=>f i j*v j) w
theorem Lk(B:∀j,j<w->v j%p=(u j+c*g j)%p)(i):app f w v i%p=(app f w u i+c*app f w g i)%p:=by
 erw[app];have e:zN (λj=>f i j*v j) w%p=zN (λj=>_+_) w%p:=ql λj z=>by rw[hH,B j z,<-hH,O1,T2]
 simp?[e,qN,qR]
theorem ED(z:∀j,j<w->v j%p=0)(i):app f w v i%p=0:=by
 erw[app];have:zN (λj=>f i j*v j) w%p=zN (λq=>0) w%p:=ql λj I=>by rw[hH,z j I];simp
 rw[this,qj];rfl
end
section
variable{p:Int}{h w q:Nat}
def kn(h w:Nat)(f:DW)(g:Nat->Vc):Nat->Vc:=λm=>if m<w then YW h (λi=>f i m) (v9 m)else YW h (g<|m-w) (λ_=>0)
theorem Ak(f)(g):jy w (h+w) (λj=>YW h (λi=>f i j)<|v9 j)++jy q (h+w) (λk=>YW h (g k) λv=>0)=jy (w+q) (h+w) (kn h w f g):=by
 erw[jy];simp?[N9,nG,gw];congr 1
 .refine mX λm a=>?_
  erw[kn];rw[DJ (dy.mp a)]
 .refine mX λm a=>?_
  simp?[Function.comp];erw[kn];rw[DY (),M0]
theorem EE(f)(z:j<w)(i):app f w (v9 j) i=f i j:=by erw[app];rw[qx z λk q I=>by simp[v9,dh I]];simp[v9]
theorem zkP(I:Span p (h+w) (dX (w+q)<|kn h w f g) z):Span p h (dX q g) λi=>z i-app f w (λj=>z<|h+j) i:=by
 induction I with
 |@zero z I=>
  show .zero λi a=>?_;rw[A9,I i (),ED (λj e=>I (h+j) ()) i];simp
 | @step z u k c d o b Y=>
  let(m,l,rfl):=d;have Z:∀i,i<h->(z i-app f w _ i)%p=((u i-app f w (λj=>u<|h+j) i)+c*(kn h w f g m i-app f w (λj=>kn h w f g m<|h+j) i))%p:=λi a=>by rw[A9,b i (),(Lk (p:=p) (w:=w) (f:=f) (u:=λj=>u<|h+j) (g:=λj=>kn h w f g m<|h+j) (v:=λj=>z<|h+j) (c:=c)<|λj e=>b (h+j) ()) i,<-A9];congr 1;rw[Int.mul_sub];lia
  rcases gu m w with J|J
  .refine Y.congr λi a=>?_
   rw[Z i a];have t:app f w (λj=>kn h w f g m<|h+j) i=f i m:=by
    have:(λj=>kn h w f g m<|h+j)=v9 m:=by funext j;erw[kn];rw[DJ J,xM]
    rw[this,EE f J]
   have O:kn h w f g m i=f i m:=by erw[kn];rw[DJ J,xN a]
   rw[t,O];simp
  .refine .step (c:=c) (m-w,(),rfl) Y λi a=>?_
   rw[Z i a];have t:app f w (λj=>kn h w f g m<|h+j) i=0:=by
    have:(λj=>kn h w f g m<|h+j)=λx=>0:=by funext j;erw[kn];rw[DY (),xM]
    rw[this];erw[app];simp[qj]
   have O:kn h w f g m i=g (m-w) i:=by erw[kn];rw[DY (),xN a]
   rw[t,O];simp
theorem II(I:Span p h (dX q g) y):Span p (h+w) (dX (w+q)<|kn h w f g) (YW h y λv=>0):=by
 induction I with
 | @zero y J=>
  show .zero λi b=>?_;rcases gu i h with z|z
  .rw[xN z];show J i z
  .let(k,rfl):∃k,i=h+k:=(i-h,by grind)
   rw[xM];simp
 | @step y u d c O Z a Y=>
  let(k,l,rfl):=O;show .step (c:=c) (w+k,(),rfl) Y λi b=>?_;have e:kn h w f g (w+k)=YW h (g k) λv=>0:=by erw[kn];rw[DY (),M0]
  rw[e];rcases gu i h with z|z
  .rw[xN z,xN z,xN z];show a i z
  .let(j,rfl):∃k,i=h+k:=(i-h,())
   rw[xM,xM,xM];simp
theorem zgK(U:Pr p)(hh:h<=20)(hw:w<=20)(W:q<=100)(f:DW)(g:Nat->Vc):
 ∃r B l,yt [.int p,qJ h w f,.lst (jy q h g)]=aa (.own<|jy r w B)/\gi p w r B l/\∀v,Span p w (dX r B) v↔Span p h (dX q g) (app f w v):=by
 have hl:=jm;have P:h<=lim:=()
 have I:w<=lim:=()
 have J:h+w<=lim:=()
 have ad:q<=lim:=()
 have O:w+q<=lim:=()
 let(r,B,l,e,a,x):=Zx U (():h+w<=100) O .L<|kn h w f g;have Q:=aj a.mono a.lt;let(s,d,o,t):=Ki h a.mono;have E:=Vg a () d o t;let(y,M):=VH a d o t;show(r-s,_,_,?_,y,λv=>(M v).trans ((x _).trans (λY=>?_,λY=>?_)))
 .have Z:=QF f P I
  have u:=Zu I;have A:zM (.tp [0,1]) jh (zF qM (zf 0)<|zf 1) [Cell.no,Cell.no] ((aT w).map λj=>D.tup [.tup (zZ h λi=>f i j),.tup (zZ w λk=>if j=k then 1 else 0)])=aa (jy w (h+w) λj=>YW h (λi=>f i j)<|v9 j):=by erw[jy];show zq _ _ λj b=>zu rfl rfl ?_;simp[qM,J,Kq];rfl
  have N:Vk (jy w h λi j=>f j i) (jy w w λi j=>if i=j then 1 else 0)=(aT w).map λj=>D.tup [.tup (zZ h λi=>f i j),.tup (zZ w λk=>if j=k then 1 else 0)]:=by erw[Vk,jy];rw[B0];simp
  have C:=IF I;have zlW:wM (.tup [.int 0]) (.int w)=aa (.tup<|zZ w λc=>0):=by
   change(if [D.int 0].length*(w:Int).toNat<=lim/\inR w then aa (D.tup (cK (w:Int).toNat [D.int 0]).flatten)else af)=_;rw[DJ (~~~I,C)];congr 2;rw[_s];clear A N u Z E y M x a e C O J I hw W o t d Q
   induction w with
   |zero=>rfl
   |succ w X=>rw[List.replicate_succ',List.flatten_append,X];erw[zZ];rw[pX,nG];rfl
  have F:zM (.nm 0) jh (zF qM (zf 0)<|zF wM (qf<|za (sI 0) zA)<|aR (zk 1)<|sI 1) [Cell.no,Cell.val (qJ h w f)] (jy q h g)=aa (jy q (h+w) λk=>YW h (g k) λc=>0):=by erw[jy];show zq _ _ λk K=>zu rfl rfl ?_;have sq:qg (qJ h w f)=aa (.T,[.int h,.int w,.tup (jy h w f)]):=rfl;simp[sq,zlW,qM,J,Kq]
  have S:(h+w)=((h+w:Nat):Int):=()
  simp?[m4]at e;rw[<-S,<-Ak]at e;erw[qJ]at Z u F ⊢;simp[yt,jq,z9,jf,Z,u,N,I,ad,O,jj,yX,cK,A,F,e,E]
 .refine((zkP Y).smul (-1)).congr λi H=>?_
  congr 1;rw[xN H,funext xM];lia
 .refine((II (w:=w) (f:=f) Y).add (Span.sum (p:=p) (n:=h+w) (G:=dX (w+q)<|kn h w f g) v (m:=w) λj b=>.gen (j,(),rfl)) (-1)).congr λi H=>?_
  congr 1;rcases gu i h with z|z
  .rw[xN z,xN z]
   have:zN (λk=>v k*kn h w f g k i) w=app f w v i:=by erw[app];show qm λk K=>by erw[kn];rw[DJ K,xN z,ue]
   rw[this];lia
  .let(k,rfl):∃k,i=h+k:=(i-h,())
   rw[xM,xM];have:zN (λj=>v j*kn h w f g j (h+k)) w=v k:=by rw[qx (i:=k) () λj b R=>by erw[kn];rw[DJ b,xM];simp[v9,R]];erw[kn];rw[DJ (),xM];simp[v9]
   rw[this];simp
end
@[simp] def znc:=@Mt.eq_1
theorem FY(h:el a=el b):a=b:=by cases a<;>cases b<;>first|rfl|show absurd h ()
def pj(m e:Nat)(w w':DV):Prop:=m=e/\∀k,k<m->w k=w' k
instance (m m':Nat) (w w':DV):Decidable (pj m m' w w'):=inferInstanceAs (Decidable (m=m'/\∀k,k<m->w k=w' k))
theorem GB:wG m w=wG e w'↔pj m e w w':=by
 constructor
 .intro h
  have a:=xH m w;rw[h,xH]at a;have I:= ~~~(congrArg pT a).symm
  subst I;show(rfl,λk z=>?_);have:=congrArg (λl=>l[k]?) a;simp[z]at this;show(FY this).symm
 .rintro⟨rfl,h⟩
  erw[wG];rw[mX λk z=>by rw[h k (dy.mp z)]]
theorem tY(m w):f6 (.str<|wG m w):=by show cX (n:=0) (by simp[deep]) () ?_;change(wG m w).cps.all (· < 0x110000);rw[<-_w,xH];simp?[k4];intro c a;let(k,q,rfl):=eU.mp a;erw[el];split<;>decide
section
variable{p p':Int}{m m':Nat}{w w':DV}{wd wd':DX}{T T':DQ}
theorem WQ:qg (jW p m w wd T)=aa (.T,[.int p,.tup<|zZ (m+1) λk=>(wd k),.tup (qT m w wd T)]):=rfl
theorem ib(k):qg (yO w wd T k)=aa (.T,[.str (jV<|el<|w k),qJ (dW w wd k) (dv w wd k) (T k)]):=rfl
theorem zjV:zM (.nm 0) jh (aR (zk 0)<|sI 0) [Cell.no] (qT m w wd T)=aa ((aT m).map λk=>D.str<|jV<|el<|w k):=by erw[qT];show zq _ _ λk z=>zu rfl rfl ?_;rfl
theorem XU(e:m<=900):vS [jW p m w wd T]=aa (.val<|.str<|wG m w):=by
 have J:=jm;have z:m<=lim:=()
 simp?[vS,jq,z9];simp?[QA,AS,Wk,aP,Ju,EG,EF,Ln,ic,kT,Uz,ng,Ox,cK,vp,Ms,YV,WQ,dU,tW,hJ,ix2,Ti,Os,Nat.sub_self,ub];rw[AL,DJ z,show jj 1 [] _=[Cell.no]from rfl,zjV];simp?[tW,dU,(Zz _ _)];rw[DJ (~~~z,by
  simp?[k4];intro x I;let(k,q,rfl):=eU.mp I;rfl,by rfl)]
 rfl
theorem QG(e:m<=900)(z:m'<=900):yq [jW p m w wd T,jW p' m' w' wd' T']=aa (.val<|.bl<|decide<|p=p'/\pj m m' w w'):=by
 have f1:=XU (p:=p) (wd:=wd) (T:=T) (w:=w) e;have d:cO (.str<|wG m w) (.str<|wG m' w')=aa (.bl<|decide<|pj m m' w w'):=by erw[cO];rw[DJ (tY m w,tY m' w')];congr 2;rw[Oy];simp?[fx,Py,beq_iff_eq,decide_eq_true_eq];show GB
 by_cases q:p=p'
 .simp[yq,jq,z9,WQ,q,f1,XU (p:=p') (wd:=wd') (T:=T') (w:=w') z,d]
  simp_all
 .simp[yq,jq,z9,WQ,q]
end
section
variable{p p':Int}{m m':Nat}{w w':DV}{wd wd':DX}{T T':DQ}
theorem AD:zN (λk=>(wd k)+(wd' k)) (m+1)=zN (λk=>(wd k)) (m+1)+zN (λk=>(wd' k)) (m+1):=by rw[qN]
theorem zhv(e:m<=900)(z:m'<=900)(h:¬(p=p'/\pj m m' w w')):qc [jW p m w wd T,jW p' m' w' wd' T']=aa ((("Unlike" : Str),af)):=by have a:=QG (p:=p) (p':=p') (w:=w) (w':=w') (wd:=wd) (wd':=wd') (T:=T) (T':=T') e z;rw[decide_eq_false h]at a;simp[qc,ZE,z9,vz,gU,mP,a,cK]
theorem AJ(e:m<=900):qc [jW p m w wd T,jW p m w wd' T']=af/\kH [jW p m w wd T,jW p m w wd' T']=aa (.val .cI):=by
 have a:=QG (p:=p) (p':=p) (w:=w) (w':=w) (wd:=wd) (wd':=wd') (T:=T) (T':=T') e e;rw[decide_eq_true (rfl,rfl,λq q=>rfl)]at a;constructor
 .simp[qc,ZE,z9,vz,gU,mP,eR,a,cK]
 .simp[kH,jq,z9,a,cK]
end
@[simp] def zmv:=@fN.eq_1
section
variable{p:Int}{m:Nat}{w:DV}{wd:DX}{T:DQ}
theorem Xu:qg (jW p m w wd T)=aa (.T,[.int p,.tup<|zZ (m+1) λk=>(wd k:Int),.tup (qT m w wd T)]):=rfl
end
theorem zG(h:F M=aa (.next γ'))(g:G γ'=r):zV F G M=r:=by rw[jf,h];show g
theorem ji(h:F (z9 n ds)=aa (.ret r)):jq n F ds=aa r:=by change(F _).bind _=_;rw[h];rfl
theorem zla(P:Nat->Ctx->Prop)(n:Nat)(j:P 0 M)(step:∀s,s<n->∀M,P s M->∃I z,qy T (.int s) M=aa I/\F I=aa (.next z)/\P (s+1) z):
 ∃γ',vM T F ((aT n).map λ(i:Nat)=>D.int i) M=aa (.next γ')/\P n γ':=by
 have J:∀k s M,s+k=n->P s M->∃γ',vM T F ((List.range' s k).map λ(i:Nat)=>D.int i) M=aa (.next γ')/\P n γ':=by
  intro k
  induction k with
  |zero=>
   intro s M e a;obtain rfl:s=n:=()
   show(M,rfl,a)
  |succ k O=>
   intro s M e a;let(I,z,b,d,Y):=step s () M a;let(γ',Z,f):=O (s+1) z () Y;show(γ',?_,f);simp?[List.range'_succ,kT,ko,b];simp?[dU,d];show Z
 have:=J n 0 M () j;rw[<-List.range_eq_range']at this;show this
theorem V8(P:Nat->Ctx->Prop)(n:Nat)(H:n<=lim)(B:f M=aa (.int n))(j:P 0 M)(step:∀s,s<n->∀M,P s M->∃z I,qy T (.int s) M=aa z/\F z=aa (.next I)/\P (s+1) I):
 ∃γ',Kj (jE f) T F M=aa (.next γ')/\P n γ':=by
 let(γ',e,a):=zla P n j step;show(γ',?_,a);have J:=jm;have r:inR n:=yb () ();simp?[Y2,AO,B];simp[r,qo];assumption
theorem Zm(P:Nat->Ctx->Prop)(n)(j:P 0 M)(step:∀s,s<n->∀M,P s M->∃I z,qy T (g s) M=aa I/\F I=aa (.next z)/\P (s+1) z):
 ∃γ',vM T F ((aT n).map g) M=aa (.next γ')/\P n γ':=by
 have J:∀k s M,s+k=n->P s M->∃γ',vM T F ((List.range' s k).map g) M=aa (.next γ')/\P n γ':=by
  intro k
  induction k with
  |zero=>
   intro s M e a;obtain rfl:s=n:=()
   show(M,rfl,a)
  |succ k O=>
   intro s M e a;let(I,z,b,d,f):=step s () M a;let(γ',Y,h):=O (s+1) z () f;show(γ',?_,h);simp?[List.range'_succ,kT,ko,b];simp?[dU,d,Y]
 let(γ',e,a):=J n 0 M () j;rw[<-List.range_eq_range']at e;show(γ',e,a)
theorem SR(e:M[i]? = aa (.own L))(j:f M=aa d)(z:pT L<lim):jQ i f M=aa (.next<|M.set i<|.own<|L++[d]):=by simp_all
theorem Av(xs:zn D)(n:Nat)(B:xs.length=n)(I:∀i (h:i<n),∃z,xs[i]'(B ▸ h)=.int z)(ax:n<=63)(k)(S:0<=k)(b0:k<100000):
 ∃m,jD [.lst xs,.int k]=aa (.val<|.int m)/\0<=m/\m<1000000007:=by
 have O:Om 10 9:=by decide
 have Y:∀(z:Int) (a:Nat),z=a->a<n->eL n z=aa a:=λz a e h=>by rw[e,k9,DJ h]
 let M:Cell->Cell->Cell->Ctx:=λa b c=>[.val (.lst xs),vI k,a,b,c];have tc:∀g:Int,∃m,Pl (M .no .no<|vI g)=aa (.ret<|.val<|.int m)/\0<=m/\m<1000000007:=λg=>(_,by
  simp[Pl,M,mj _ 48271 () (),ZY 7 k () (),ZY 13 k () (),mj _ 69621 () (),mj (7*k) k () (),show Om 10 30 by decide];rfl,(),())
 have X:∃g,F8 (M .no .no<|vI k)=aa (.next<|M .no .no<|vI g):=by
  by_cases γ:n=0
  .exact(k,by simp[F8,M,B,γ])
  .let(i,N):=M1 (la k<|show(n:Int)≠0 by lia)
   have Z:i<n:=by have:=l7 k (show(0:Int)<n by lia);lia
   let(zlT,K):=I i Z;show(zlT,by simp[F8,M,B,show 0<n by lia,N,k9,Z,K])
 have l:uU (M .no .no .no)=aa (.next<|M .no .no .no)->∃m,jD [.lst xs,.int k]=aa (.val<|.int m)/\0<=m/\m<1000000007:=λh=>by let(g,G):=X;let(m,H,Q):=tc g;show(m,ji<|zG h<|zG rfl<|zG G H,Q)
 by_cases o:1<n
 .let(z0,f):=I 0 ()
  have u:eL n 0=aa 0:=Y _ 0 rfl ();have y:(1:Int)<(n:Int):=()
  have r:0<n:=()
  by_cases p:z0%2=1
  .have x:(0:Int)<(n:Int)-1:=()
   have W:(n:Int)-1<1073741824:=()
   let(j,P):=M1 (la k<|show(n:Int)-1≠0 by lia);have J:1+j<n:=by have:=l7 k x;lia
   let(zlU,L):=I (1+j) J;have U:eL n (1+(j:Int))=aa (1+j):=Y _ _ () J;let(t,R):=M1 (show 0<=k/((n:Int)-1)from Int.ediv_nonneg S ());let(d,C,b1):∃d:Nat,(if (t:Int)<60 then (t:Int)else 60)=d/\d<=60:=by
    split
    .exact(t,rfl,())
    .exact(60,rfl,())
   let(q,w,A,c',rfl):=Zm (T:=.nm 3) (F:=jT 2<|zF Vz (zf 2)<|zF IT (sI 10)<|sI 9) (g:=λi=>D.int i) (λq δ=>∃(v:Int) (c:Cell),δ=M (vI v) c .no) d (M:=M (vI zlU) .no .no) (_,_,rfl) (by
    rintro s _ _ ⟨v,c,rfl⟩;show(_,M (vI<|v/10^9) (.val<|.int s) .no,rfl,by simp[M,O],_,_,rfl))
   rw[<-je d λi=>(i:Int)]at w;have E:inR (d:Int):=yb () ();show(A%10^9,?_,(),());have:uU (M .no .no .no)=aa (.ret<|.val<|.int<|A%10^9):=by simp[uU,jf,M,B,o,r,y,J,f,u,p,x,W,P,U,L,R,C,E,qo,w,O]
   show ji ?_;change zV uU _ (M .no .no .no)=_;rw[jf,this];rfl
  .exact l (by simp[uU,M,B,o,r,y,f,u,p])
 .exact l (by simp[uU,M,B,show ¬(1:Int)<(n:Int)by lia])
theorem IY(e)(j:pT e<=63)(k)(z:0<=k)(I:k<100000):∃m,jD [aG e,.int k]=aa (.val<|.int m)/\0<=m/\m<1000000007:=
 Av _ (pT e) () (λi a=>(e[i],by simp)) j k z I
def J7(e:zn Int)(k:Int):Int:=match jD [aG e,.int k]with
 |some (.val<|.int m)=>m
 |_=>0
theorem YU(j:ns.length<=63)(z:0<=k)(I:k<100000):jD [aG ns,.int k]=aa (.val<|.int<|J7 ns k)/\0<=J7 ns k/\J7 ns k<1000000007:=by
 let(m,h,a,b):=IY ns j k z I;have e:J7 ns k=m:=by erw[J7];rw[h]
 rw[e];show(h,a,b)
theorem LS(j:e.length<=63){m:Nat}(B:m<=5):∃w,kG [aG e,.int 1,.int (1+m)]=aa (.val<|.str<|wG m w):=by
 have Y:=jm;have z:m<=lim:=()
 show(λk=>decide (J7 e (1+k)/8%2=1),?_);have J:zM (.nm 0) jh (wU (zJ (.str "rl")) (zF kM (zF Vz (zD jD (za (zf 1) (za (zF qM (zf 2) (zf 0)) zA))) (sI 8)) (sI 2))) [Cell.no,Cell.val (aG e),vI 1] ((aT m).map λ(i:Nat)=>D.int i) =
  aa ((aT m).map λ(k:Nat)=>D.str<|jV<|el<|decide<|J7 e (1+k)/8%2=1):=by
  show zq _ _ λk I=>zu rfl rfl ?_;have I:=dy.mp I;let(a,b,Z):=YU j (k:=1+k) () ();have O:zF kM (zF Vz (zD jD<|za (zf 1)<|za (zF qM (zf 2)<|zf 0) zA)<|sI 8) (sI 2) [vI k,Cell.val<|aG e,vI 1]=aa (.int<|J7 e (1+k)/8%2):=by simp[a]
  change wU _ _ [_,_,_]=_;rw[my,O];have q:J7 e (1+k)/8%2=0\/J7 e (1+k)/8%2=1:=()
  rcases q with q|q
  .rw[q];rfl
  .rw[q];rfl
 have a:1+m-1=(m:Int):=()
 simp[kG,jq,z9,jf,a,z,qo,jj,yX,cK];rw[je m λi=>i,J];simp?[tW,dU,Function.comp];rw[Zz];simp?[dU];rw[DJ (~~~z,k4.mp (by
  rw[List.all_map];show k4.mpr λk v=>by rfl),rfl)]
 rfl
def jw(bs:zn (Int×Int)):zn D:=bs.map λb=>D.tup [.int b.1,.int b.2]
@[simp] theorem eJ(bs):(jw bs).length=pT bs:=by simp[jw]
theorem V1:∀bs,Xz (jw bs)=aa bs
 |[]=>rfl
 |b::bs=>by have z:=V1 bs;erw[jw]at z;simp[jw,Xz,Cv,z]
def JF(bs:zn (Int×Int)):zn (Int×Int):=(xR bs).map λi=>bs.getD i (0,0)
theorem QR(bs):(JF bs).Perm bs:=by have:=(qk bs).map λi=>bs.getD i (0,0);rw[j4]at this;show this
theorem bD(h:pT bs<64):rE (jw bs)=aa (jw<|JF bs):=by erw[rE];rw[V1];change(if _<64 then aa _ else af)=_;rw[eJ,DJ h];erw[JF];congr 1;erw[jw];rw[gw];show mX λi a=>?_;simp[(dy.mp<|(qk bs).mem_iff.mp a)]
def OE(n:Int)(b:Int×Int):Prop:=0<=b.1/\b.1<=b.2/\b.2<n
@[simp] def zmC:=@bJ.eq_1
def kb(i j:Nat):Int:=if i=j then 1 else 0
def AY(p:Int)(n:Nat)(f g:DW):Prop:=∀i j,i<n->j<n->zN (λk=>f i k*g k j) n%p=kb i j%p
theorem Yt{p x y X Y:Int}(e:x%p=X%p)(j:y%p=Y%p):(x*y)%p=(X*Y)%p:=by rw[hH,e,j,<-hH]
section
variable{p:Int}{n:Nat}{f g f' g':DW}
theorem ziK{a b:Int}{u:Nat}(O:a*b%p=1%p)(B:AY p n f g)(H:∀i k,i<n->k<n->f' i k%p=((if i=u then a else 1)*f i k)%p)(Y:∀k j,k<n->j<n->g' k j%p=((if j=u then b else 1)*g k j)%p):AY p n f' g':=by
 intro i j d z;rw[ql (g:=λk=>_*(f i k*g k j)) λk I=>by rw[Yt (H i k d I) (Y k j I z)];congr 1;rw[E9,E9];congr 1;rw[T2],qR,hH,B i j d z,<-hH]
 erw[kb];by_cases e:i=j
 .subst e
  by_cases J:i=u
  .simp?[DJ J,if_true,Int.mul_one];show O
  .simp?[DY J,if_true];rfl
 .simp?[DY e,Int.mul_zero]
theorem zhM{a b:Int}{u:Nat}(O:b*a%p=1%p)(e:AY p n g f)(B:∀i k,i<n->k<n->f' i k%p=((if i=u then a else 1)*f i k)%p)(Y:∀k j,k<n->j<n->g' k j%p=((if j=u then b else 1)*g k j)%p):AY p n g' f':=by
 intro i j d z;rw[<-e i j d z];show ql λk I=>?_;rw[Yt (Y i k d I) (B k j I z)];by_cases J:k=u
 .simp?[DJ J]
  rw[show b*g i k*_=(b*a)*(g i k*f k j)by grind,hH,O,<-hH,Int.one_mul]
 .simp?[DY J,Int.one_mul]
theorem Bs{t:Int}{u o:Nat}(O:u<n)(Z:o<n)(U:u≠o)(h1:AY p n f g)(B:∀i k,i<n->k<n->f' i k%p=(f i k+(if i=u then t else 0)*f o k)%p)(H:∀k j,k<n->j<n->g' k j%p=(g k j+(if j=o then -t else 0)*g k u)%p):AY p n f' g':=by
 intro i j e I;generalize ea:(if i=u then t else 0)=a at B;have l:=λk z=>by show(B i k e z)
 rw[ql (g:=λk=>f i k*g k j+(if j=o then -t else 0)*(f i k*g k u)+((if i=u then t else 0)*(f o k*g k j)+((if i=u then t else 0)*(if j=o then -t else 0))*(f o k*g k u))) λk z=>by
  rw[Yt (l k z) (H k j z I)]
  grind]
 simp?[qN,qN,qN,qR,qR,qR];have m:=h1 o u Z O;have J c S d:S%p=d%p->(c*S)%p=(c*d)%p:=λh=>Yt rfl h;have ad x y X Y:x%p=X%p->y%p=Y%p->(x+y)%p=(X+Y)%p:=λa b=>by rw[o4,a,b,<-o4]
 rw[ad _ _ _ _ (ad _ _ _ _ (h1 i j e I)<|J _ _ _<|h1 i u e O) (ad _ _ _ _ (J _ _ _<|h1 o j Z I)<|J _ _ _ m)];congr 1;erw[kb];lia
theorem zjZ{t:Int}{u o:Nat}(J:u<n)(O:o<n)(Y:u≠o)(e:AY p n g f)(B:∀i k,i<n->k<n->f' i k%p=(f i k+(if i=u then t else 0)*f o k)%p)(Z:∀k j,k<n->j<n->g' k j%p=(g k j+(if j=o then -t else 0)*g k u)%p):AY p n g' f':=by
 intro i j d I;rw[<-e i j d I];rw[ql (g:=λk=>g i k*f k j+((if k=u then t*_ else 0)+(if k=o then -t*_ else 0))) λk z=>by
  rw[Yt (Z i k d z) (B k j z I)];congr 1;by_cases a:k=u
  .subst a
   simp?[DY Y,if_true,Int.zero_mul,Int.add_zero,O1];rw[T2]
  .by_cases b:k=o
   .subst b
    simp?[DY a,if_true,Int.zero_mul,Int.add_zero,Int.zero_add,Int.add_mul];rw[E9]
   .simp?[DY a,DY b,Int.zero_mul,Int.add_zero]]
 rw[qN,qN,qx J λk q z=>DY z,qx O λk q z=>DY z];simp?[if_true];congr 1;rw[Int.neg_mul];lia
end
def kh(n:Nat)(f:DW):zn D:=(aT n).map λi=>D.lst<|zZ n<|f i
def vm(n:Nat)(f:DW):zn (zn D):=(aT n).map λi=>zZ n<|f i
theorem zkH(n f):(vm n f).map D.lst=kh n f:=by simp[vm,kh]
@[simp] theorem zkI(n f):(kh n f).length=n:=by simp[kh]
@[simp] theorem zmm(f)(e:i<(kh n f).length):(kh n f)[i]=.lst (zZ n<|f i):=by simp[kh]
@[simp] theorem zl7(r):yX (.nest r)=.no:=rfl
@[simp] theorem zmj(r):yX (.own r)=.no:=rfl
@[simp] theorem zmi(d):yX (.val d)=.val d:=rfl
@[simp] theorem zmI:yX .no=.no:=rfl
theorem YR(H:a<n)(v j:Vc)(x:Int)(B:j a=x)(z:∀i,i<n->i≠a->j i=v i):(zZ n v).set a (.int x)=zZ n j:=by
 apply E2;intro i;rw[T1];by_cases b:i<n
 .by_cases e:a=i
  .simp_all
  .have:=z i b (dh e)
   simp_all
 simp_all
theorem bR(I:u<n)(f B:DW)(v:Vc)(H:∀j,j<n->B u j=v j)(J:∀i j,i<n->i≠u->j<n->B i j=f i j):(kh n f).set u (.lst<|zZ n v)=kh n B:=by
 apply E2;intro i;rw[T1];by_cases a:i<n
 .by_cases e:u=i
  .subst e;simp[I,kh];show J4 λj z=>(H j z).symm
  .simp[e,kh,a];show J4 λj z=>(J i j a (dh e) z).symm
 simp_all
theorem Xm:∀(l:zn Nat),(∀k∈l,∃d e m,zhV (wI M j i<|R k)=aa d/\zie (wI M j i<|R k)=aa (.int e)/\eL (R k).length e=aa m/\(R k).set m d=R' k)->vb j i zie zhV M (l.map R)=aa (l.map R')
 |[],_=>rfl
 |k::l,h=>by let(d,e,m,a,b,f,g):=h k fA;simp[vb,a,b,f,g,(Xm l λx z=>h x<|eV _ z)]
theorem dS:∀(l:zn Nat),(∀k∈l,∃z,qy T (g k) M=aa z/\f z=aa (R k))->Jt T f M (l.map g)=aa (l.map R)
 |[],_=>rfl
 |k::l,h=>by let(z,a,b):=h k fA;simp[Jt,a,b,(dS l λx I=>h x<|eV _ I)]
section
variable{p:Int}{n:Nat}
structure Pair(p:Int)(n:Nat)(f g:DW):Prop where
 bf:∀i j,i<n->j<n->0<=f i j/\f i j<p
 bg:∀i j,i<n->j<n->0<=g i j/\g i j<p
 fg:AY p n f g
 gf:AY p n g f
end
@[simp] theorem zmh(n f):(vm n f).length=n:=by simp[vm]
def wN(w:DV)(k:Nat):Nat:=if w k then k+1 else k
def vx(w:DV)(k:Nat):Nat:=if w k then k else k+1
theorem ZX(w)(wd)(k):dW w wd k=wd (vx w k):=by erw[dW,vx];split<;>rfl
theorem JC(w)(wd)(k):dv w wd k=wd (wN w k):=by erw[dv,wN];split<;>rfl
theorem AF(w)(h:k<m):wN w k<m+1:=by erw[wN];lia
theorem Ae(w)(h:k<m):vx w k<m+1:=by erw[vx];lia
theorem VD(w)(k:Nat):qE [.int k,.str (jV<|el<|w k)]=aa (.val<|.int<|wN w k):=by have q:=aE<|w k;cases h:w k<;>rw[h]at q<;>simp[qE,jq,z9,wN,q,h]
theorem mF(w)(k:Nat):vg [.int k,.str (jV<|el<|w k)]=aa (.val<|.int<|vx w k):=by have q:=aE<|w k;cases h:w k<;>rw[h]at q<;>simp[vg,jq,z9,vx,q,h]
def QO(m:Nat)(wd:DX)(f:DQ):zn D:=(aT m).map λk=>qJ (wd k) (wd k)<|f k
@[simp] theorem zme(m wd f):(QO m wd f).length=m:=by simp[QO]
@[simp] theorem zml(wd f)(h:k<(QO m wd f).length):(QO m wd f)[k]=qJ (wd k) (wd k) (f k):=by simp[QO]
def fD(p:Int)(w:DV)(wd:DX)(f g T:DQ)(k i j:Nat):Int:=
 zN (λb=>g (wN w k) b j*(zN (λa=>T k a b*f (vx w k) i a) (wd<|vx w k)%p)) (wd<|wN w k)%p
section
variable{m:Nat}
theorem vO(m)(F):xF ((aT m).map F)=(aT m).map λ(k:Nat)=>D.tup [.int k,F k]:=by
 erw[xF]
 simp_all
end
@[simp] theorem zmw(M)(f):rS f M=(f M).bind λd=>match d with
 |.str z=>if zO z then aa (xF<|yv z)else af
 |_=>af:=rfl
@[simp] theorem zmH(M)(f g):xQ f g M=(f M).bind λd=>(g M).bind λe=>match d,e with
 |.str x,.str y=>if zO x/\zO y then aa (.str<|x++y)else af
 |_,_=>af:=rfl
theorem lD{f g:e->β}{xs:zn e}(h:xs.map f=xs.map g){a:e}(j:a∈xs):f a=g a:=List.map_inj_left.mp h a j
def pF:Nat->zn (zn Bool)
 |0=>[[]]
 |n+1=>(pF n).flatMap λl=>[aF::l,ae::l]
def words:zn (zn Bool):=(aT 6).flatMap pF
theorem V5:∀l,l∈pF (pT l)
 |[]=>mY.mpr rfl
 |b::l=>Z'.mpr (l,V5 l,by cases b<;>simp)
theorem zln(h:pT l<=5):l∈words:=Z'.mpr (pT l,dy.mpr (),V5 l)
def Sh:=(jT 3<|j7<|zL (jE<|aR (zk 2)<|sI 1) (.nm 0) 1 [2] jh (j7<|zL (zT<|zU<|aR (zk 1)<|sI 2) (.nm 0) 1 [0] jh (aR (zk 0)<|zf 1)))
def zaj:=(xU 4<|qi zA)
def ltB:=(jQ 4<|jk<|z7<|zL (zT<|zk 3) (.nm 0) 1 [0,5] jh (zF kM (Ly<|z7<|zL (WM (zf 2)<|zf 0) (.tp [0,1]) 2 [] jh (zF wM (zf 0)<|zf 1))<|zf 1))
def zai:=(Kj (zT<|zU<|aR (zk 1)<|sI 2) (.nm 5) ltB)
def zah:=(qv<|qf<|za (aR (zk 1)<|sI 0)<|za (aR (zk 2)<|sI 1)<|za (jk<|zk 4) zA)
def xp:=jq 6<|zV Sh<|zV zaj<|zV zai zah
def D_:=(xU 4<|zL (jE<|zf 3) (.nm 0) 1 [3] jh (j7<|zL (jE<|zf 1) (.nm 0) 1 [0] jh (QS<|zF cO (zf 1)<|zf 0)))
def SU:=(BJ 5<|iN (jE<|zf 3) (.nm 0) 1 [3] (zL (jE<|zf 1) (.nm 0) 1 [0] jh (QS<|zF cO (zf 1)<|zf 0)))
def F_:=(zV (iK 4 (zf 8)<|j7<|zL (zT<|zU<|aR (zk 4)<|zf 8) (.nm 0) 1 [2,10] jh (zF kM (zF wM (zf 2)<|zf 0)<|zf 1))<|zV (jT 11<|aR (z7<|zL (jE<|zf 2) (.nm 0) 1 [2,10] (sB<|zF cO (zF kM (zF wM (zf 0)<|zf 2)<|zf 1)<|sI 1) (zf 0))<|sI 0)<|fL 5 12 (zf 8)<|zF kM (zF wM (aR (zk 12)<|zf 8)<|zf 11)<|zf 2)
def E_:=(zV (iK 4 (zf 9)<|j7<|zL (WM (aR (zk 4)<|zf 9)<|aR (zk 4)<|zf 8) (.tp [0,1]) 2 [2,10] jh (zF kM (zF qM (zf 0)<|zF wM (zf 3)<|zf 1)<|zf 2))<|fL 5 12 (zf 8)<|zF kM (zF Vj (aR (zk 12)<|zf 8)<|zF wM (zf 10)<|aR (zk 12)<|zf 9)<|zf 2)
def Dz:=(dt (sB<|zF cO (zf 8)<|zf 9) F_ E_)
def E':=(Kj (jE<|zF wM (sI 3)<|zf 3) (.nm 6)<|zV (jT 7<|zD jD<|za (zf 0)<|za (zF qM (zf 1)<|zf 6) zA)<|zV (jT 8<|zF kM (zf 7)<|zf 3)<|zV (jT 9<|zF kM (zF Vz (zf 7)<|zf 3)<|zf 3)<|zV (jT 10<|zF qM (sI 1)<|zF kM (zF Vz (zf 7)<|sI 97)<|zF Vj (zf 2)<|sI 1) Dz)
def tn4:=(xU 13<|qi zA)
def tn5:=(Mv 5<|RI 4<|Kj (zT<|zU<|j7<|qi<|za (zf 4)<|za (zf 5) zA) (.nm 14)<|jQ 13<|qf<|za (zf 3)<|za (zf 3)<|za (jk<|z7<|zL (zT<|zk 14) (.nm 0) 1 [] jh (jk<|zk 0)) zA)
def tn6:=(bK 13)
def xY:=jq 15<|zV D_<|zV SU<|zV E'<|zV tn4<|zV tn5 tn6
def zag:=(BI (.tp [3,4,5])<|zf 0)
def zaf:=(xU 6<|qi zA)
def P2:=(zV (jT 9 (zF qM (zf 7) (QS (zF cO (aR (zk 8) (sI 0)) (zJ (.str "l")))))) (zV (jT 10 (zF qM (zf 7) (QS (zF cO (aR (zk 8) (sI 0)) (zJ (.str "r")))))) (jQ 6 (qf (za (aR (zk 8) (sI 0)) (za (zD xp (za (zf 3) (za (zD xp (za (zf 3) (za (aR (zk 1) (zf 10)) (za (aR (zk 8) (sI 1)) zA)))) (za (aR (zk 2) (zf 9)) zA)))) zA))))))
def TZ:=(Kj (bL<|zf 5) (.tp [7,8]) P2)
def zae:=(qv<|qf<|za (zf 3)<|za (zf 4)<|za (jk<|zk 6) zA)
def qW:=jq 11<|zV zag<|zV zaf<|zV TZ zae
def kD:zn D->xz Xn:=ZE 1 (gU (sB (zF ph (Ly (zk 0)) (sI 30))) (mP "TooMany") eR)
def qU:zn D->xz Xn:=ZE 3<|vz eR (jT 2<|jk<|z7<|zL (WM (aR (zk 0)<|sI 1)<|aR (zk 1)<|sI 1) (.tp [0,1]) 2 [] jh (zF qM (zf 0)<|zf 1))<|qF kD<|za (zf 2) zA
def qp:=jq 1<|qv<|qf<|za (aR (zk 0)<|sI 0)<|za (zF Vj (zF qM (aR (zk 0)<|sI 0)<|X3<|zU<|aR (zk 0)<|sI 1)<|sI 1) zA
def qe:=jq 2<|qv<|wH mR pk (aR (zk 0)<|sI 0) (zf 1)<|zF qM (aR (zk 0)<|sI 0)<|X3<|zU<|aR (zk 0)<|sI 1
def xP:=jq 2<|yW<|zL (zT<|zk 0) (.nm 0) 1 [1] (sB<|zD qe<|za (zf 0)<|za (zf 1) zA) (aR (zU<|aR (zk 0)<|sI 1)<|zF Vj (zf 1)<|aR (zk 0)<|sI 0)
def yU:=jq 2<|qv<|zD qV<|za (qf<|za (X3<|zk 1)<|za (zf 0)<|za (jk<|zk 1) zA) zA
def vf:=jq 5<|zV (jT 4<|j7<|zL (WM (zf 2)<|zf 1) (.tp [0,1]) 2 [3] (sB<|zD qe<|za (zf 1)<|za (zf 2) zA) (zf 0))<|qv<|zD Ba<|za (aR (zk 0)<|sI 0)<|za (zD yU<|za (aR (zU<|aR (zk 0)<|sI 1)<|zf 3)<|za (j7<|jA xP<|za (zf 1)<|za (zf 3) zA) zA)<|za (zf 4) zA
def aS:=jq 5<|zV (jT 3<|aR (zk 1)<|zD xX<|za (zf 2) zA)<|zV (jT 4<|j7<|zL (jE<|X3<|zU<|aR (zk 3)<|sI 1) (.nm 0) 1 [0,1,2,3] jh (zD vf<|za (zf 1)<|za (zf 2)<|za (zf 3)<|za (zF qM (aR (zk 4)<|sI 0)<|zf 0) zA))<|qv<|qf<|za (aR (zk 3)<|sI 0)<|za (jk<|zk 4) zA
def Y8:=jq 8 (zV (jT 3 (aR (zU (aR (zU (aR (zk 0) (sI 2))) (zf 1))) (sI 0))) (zV (jT 4 (aR (zU (aR (zU (aR (zk 0) (sI 2))) (zf 1))) (sI 1))) (zV (jT 5 (fi (sB (zF cO (zf 3) (zJ (.str "r")))) (j7 (jA wz (za (aR (zk 0) (sI 0)) (za (zf 4) zA)))) (j7 (jA Xr (za (aR (zk 0) (sI 0)) (za (zf 4) zA)))))) (zV (jT 6 (j7 (jA yt (za (aR (zk 0) (sI 0)) (za (zD yU (za (aR (zU (aR (zk 0) (sI 1))) (zf 1)) (za (j7 (jA xP (za (zf 2) (za (zf 1) zA)))) zA))) (za (zf 5) zA)))))) (zV (jT 7 (EU (zL (zT (zk 6)) (.nm 0) 1 [] jh (qf (za (zD xX (za (zf 0) zA)) (za (zf 0) zA)))))) (yW (zL (wW (zf 2)) (.tp [0,1]) 2 [0,2,7] jh (fi (sB (Mw (zf 0) (zf 4))) (zD aS (za (zf 2) (za (zf 3) (za (OP (zf 4) (zf 0)) zA)))) (zf 1)))))))))
def yT:=jq 4 (zV (dt (sB (zF cO (aR (zk 1) (sI 0)) (zJ (.str "l")))) (qv (zD ZM (za (zf 0) (za (aR (zk 1) (sI 1)) (za (zf 2) zA))))) jN) (zV (jT 3 (zD Ba (za (zf 0) (za (aR (zk 1) (sI 1)) (za (zf 2) zA))))) (qv (fi (sB (Lz (zk 3))) (zf 3) (zJ .cI)))))
def C_:=(jT 3<|zD yT<|za (zf 0)<|za (zf 1)<|za (aR (zU<|aR (zk 2)<|sI 1)<|eZ<|sI 1) zA)
def D':=(qv<|fi (sB<|zF LF (zf 3)<|zJ .cI) (zf 2)<|qf<|za (aR (zk 2)<|sI 0)<|za (zF qM (aR (zk 2)<|sI 1)<|qf<|za (zf 3) zA) zA)
def vU:=jq 4<|zV C_ D'
def Jx:=jq 3 (zV (dt (sB (zF cO (aR (zk 1) (sI 0)) (zJ (.str "l")))) (yW (jA wz (za (zf 0) (za (aR (zk 1) (sI 1)) zA)))) jN) (zV (jT 2 (j7 (zL (zT (z7 (jA Xr (za (zf 0) (za (aR (zk 1) (sI 1)) zA))))) (.nm 0) 1 [] jh (zD xX (za (zf 0) zA))))) (yW (zL (bL (aR (zU (zD qQ (za (aR (zU (aR (zk 1) (sI 1))) (sI 0)) zA))) (sI 2))) (.tp [0,1]) 2 [2] (sB (fK (zf 0) (zk 2))) (zf 1)))))
def aW:=jq 9 (zV (jT 3 (aR (zk 0) (sI 0))) (zV (jT 4 (aR (zU (aR (zk 0) (sI 2))) (zf 1))) (zV (jT 5 (j7 (zL (zT (zk 2)) (.nm 0) 1 [1] (jY (sB (zD qe (za (zf 0) (za (zf 1) zA))))) (zf 0)))) (zV (jT 6 (j7 (jA Y8 (za (zf 0) (za (zf 1) (za (j7 (zL (zT (zk 2)) (.nm 0) 1 [1] (sB (zD qe (za (zf 0) (za (zf 1) zA)))) (zf 0))) zA)))))) (zV (jT 7 (j7 (zL (zT (zk 6)) (.nm 0) 1 [3,4] jh (zD vU (za (zf 1) (za (zf 2) (za (zf 0) zA))))))) (zV (jT 8 (j7 (zL (zT (z7 (jA Jx (za (zf 3) (za (zf 4) zA))))) (.nm 0) 1 [1] jh (qf (za (zF qM (zf 1) (sI 1)) (za (qf (za (zf 0) zA)) zA)))))) (qv (j7 (wL (zk 5) (zU (fi (sB (zF cO (aR (zk 4) (sI 0)) (zJ (.str "r")))) (j7 (wL (zk 8) (zk 7))) (j7 (wL (zk 7) (zk 8))))))))))))))
def Pg:=(jT 1<|j7<|zL (zT<|zU<|aR (zU<|zD qQ<|za (aR (zU<|aR (zk 0)<|sI 1)<|sI 0) zA)<|sI 2) (.nm 0) 1 [] jh (qf<|za (sI 0)<|za (qf<|za (zf 0) zA) zA))
def ag2:=(Kj (jE<|X3<|zU<|aR (zk 0)<|sI 2) (.nm 2)<|jT 1<|zD aW<|za (zf 0)<|za (zf 2)<|za (zf 1) zA)
def a_:=(yW<|rM qp<|zk 1)
def wD:=jq 3<|zV Pg<|zV ag2 a_
def Ky:=jq 4<|zV (jT 1<|j7<|jA wD<|za (zf 0) zA)<|zV (jT 2<|j7<|zL (bL<|aR (zk 0)<|sI 1) (.tp [0,1]) 2 [1] jh (zD yU<|za (zf 1)<|za (j7<|jA xP<|za (zf 2)<|za (zf 0) zA) zA))<|zV (jT 3<|j7<|zL (zT<|zk 2) (.nm 0) 1 [0] jh (zD kf<|za (aR (zk 1)<|sI 0)<|za (zf 0) zA))<|qv<|qf<|za (j7<|zL (zT<|zk 1) (.nm 0) 1 [] jh (zD qp<|za (zf 0) zA))<|za (zf 3)<|za (zf 2) zA
def uP:CO D:=j7<|jA xY<|za (zf 2)<|za (zF qM (zf 3)<|zF wM (sI 20)<|zf 0)<|za (aR (zk 4)<|sI 0)<|za (zf 1) zA
def Zw:=jq 4<|zV (jT 3<|j7<|zL (bL<|aR (zk 2)<|sI 1) (.tp [0,1]) 2 [0,1,2] jh uP)<|qv<|zD qW<|za (zf 2)<|za (j7<|zL (zT<|zk 3) (.nm 0) 1 [] jh (aR (zk 0)<|sI 0))<|za (j7<|zL (zT<|zk 3) (.nm 0) 1 [] jh (aR (zk 0)<|sI 1)) zA
def kR:=jq 1<|zV (dt (iL (jY<|sB<|rR<|zf 0)<|jY<|sB<|wH mR mR (sI 1) (X3<|zk 0)<|sI 6) (qv<|zJ<|.bl aF) jN)<|zV (dt (jY<|sB<|iO<|z7<|zL (zT<|zk 0) (.nm 0) 1 [] jh (Bd (zD qD<|za (zf 0) zA)<|zF Dh (zf 0)<|sI 0)) (qv<|zJ<|.bl aF) jN)<|qv<|zF mR (Ly<|zk 0)<|sI 30
def yR:=jq 1<|zV (dt (jY<|sB<|zD kR<|za (zf 0) zA) jP jN)<|qv<|jk<|zk 0
def ZN:=jq 6 (zV (dt (iL (jY (sB (zD qr (za (zf 3) (za (sI 2) zA))))) (sB (q9 (aR (zk 3) (sI 0)) (zU (zJ (.tup [.str "r",.str "l"])))))) jP jN) (zV (jT 4 (aR (zk 3) (sI 0))) (zV (jT 5 (zD ZL (za (zf 0) (za (aR (zk 1) (zD vg (za (zf 2) (za (zf 4) zA)))) (za (aR (zk 1) (zD qE (za (zf 2) (za (zf 4) zA)))) (za (aR (zk 3) (sI 1)) zA)))))) (qv (qf (za (zf 4) (za (zf 5) zA)))))))
def ve:=jq 1 (qv (wV (zJ (.str "/")) (z7 (zL (zT (zU (aR (zk 0) (sI 2)))) (.nm 0) 1 [] jh (wV (zJ (.str "")) (z7 (zL (zT (zk 0)) (.nm 0) 1 [] jh (yd (zf 0)))))))))
def kP:=jq 2 (zV (jT 1 (zD ve (za (aR (zk 0) (sI 1)) zA))) (qv (fi (sB (zF cO (aR (zk 0) (sI 0)) (zJ (.str "r")))) (QT [zJ (.str "-"),ny (zf 1),zJ (.str ">")]) (QT [zJ (.str "<"),ny (zf 1),zJ (.str "-")]))))
def vV:=jq 5 (zV (jT 1 (aR (zk 0) (sI 0))) (zV (xU 2 (qi (za (QT [ny (zf 1),zJ (.str ":")]) (za (yd (aR (zU (aR (zk 0) (sI 1))) (sI 0))) zA)))) (zV (Kj (WM (aR (zk 0) (sI 2)) (rO (aR (zk 0) (sI 1)) (eo (sI 1)) Jz)) (.tp [3,4]) (zV (jQ 2 (zD kP (za (zf 3) zA))) (jQ 2 (yd (zf 4))))) (qv (wV (zJ (.str " ")) (zk 2))))))
def ka:=jq 1 (qv (BL (zf 0) (z7 (zL (zT (zU (zJ (.tup [.int 2,.int 3,.int 5,.int 7])))) (.nm 0) 1 [] jh (QT [ny (zf 0),zJ (.str ":")])))))
def xZ:=jq 1<|qv<|BL (zf 0)<|z7<|zL (jE<|zF qM (sI 30)<|sI 1) (.nm 0) 1 [] jh (yd<|zf 0)
def kc:=jq 1 (zV (dt (sB (q9 (xQ (iJ (zf 0) Jz (eo (sI 1))) (iJ (zf 0) (eo (eZ (sI 1))) Jz)) (zU (qf (za (zJ (.str "->")) (za (zJ (.str "<-")) zA)))))) (qv (zJ (.bl aF))) jN) (qv (iO (z7 (zL (VT (iJ (zf 0) (eo (sI 1)) (eo (eZ (sI 1))))) (.nm 0) 1 [] jh (BK (zf 0) (zJ (.str "0123456789/"))))))))
def qX:=jq 2<|zV (dt (sB<|zF cO (zf 0)<|sI 0) (qv<|zD ka<|za (zf 1) zA) jN)<|zV (dt (sB<|zF cO (zF kM (zf 0)<|sI 2)<|sI 1) (qv<|zD xZ<|za (zf 1) zA) jN)<|qv<|zD kc<|za (zf 1) zA
def yk:=jq 3<|zV (Kj (wW<|zf 0) (.tp [1,2])<|dt (jY<|sB<|zD qX<|za (zf 1)<|za (zf 2) zA) jP jN)<|dt (sB<|zF cO (zF kM (X3<|zk 0)<|sI 2)<|sI 1) jP jN
def kO:=jq 1<|yW<|zL (VT<|zf 0) (.nm 0) 1 [] jh (X4<|zf 0)
def kx:=jq 2 (zV (dt (BM (sB (zF cO (zf 0) (zJ (.str "")))) (sB (zF cO (zf 1) (sI 0)))) (yW (qi zA)) jN) (yW (zL (zT (z7 (vD (zf 0) (zJ (.str "/"))))) (.nm 0) 1 [] jh (j7 (jA kO (za (zf 0) zA))))))
def xG:=jq 2<|qv<|iO<|z7<|zL (zT<|zk 1) (.nm 0) 1 [0] jh (zF pk (zf 0)<|zf 1)
def kQ:=jq 6 (zV (jT 4 (fi (sB (WO (zf 3) (zJ (.str "-")))) (zJ (.str "r")) (zJ (.str "l")))) (zV (jT 5 (j7 (jA kx (za (iJ (zf 3) (eo (sI 1)) (eo (eZ (sI 1)))) (za (aR (zk 1) (zD vg (za (zf 2) (za (zf 4) zA)))) zA))))) (zV (dt (jY (sB (iO (z7 (zL (zT (zk 5)) (.nm 0) 1 [0] jh (zD xG (za (zf 1) (za (zf 0) zA)))))))) jP jN) (qv (zD ZN (za (zf 0) (za (zf 1) (za (zf 2) (za (qf (za (zf 4) (za (zf 5) zA))) zA)))))))))
def Xq:=jq 5 (zV (jT 1 (j7 (vD (zf 0) (zJ (.str " "))))) (zV (rT (zD yk (za (zf 1) zA))) (zV (jT 2 (X4 (iJ (aR (zk 1) (sI 0)) Jz (eo (eZ (sI 1)))))) (zV (jT 3 (zD yR (za (j7 (zL (zT (z7 (He (zk 1) (eo (sI 1)) Jz (eo (sI 2))))) (.nm 0) 1 [] jh (X4 (zf 0)))) zA))) (zV (jT 4 (j7 (zL (wW (j7 (He (zk 1) (eo (sI 2)) Jz (eo (sI 2))))) (.tp [0,1]) 2 [2,3] jh (zD kQ (za (zf 2) (za (zf 3) (za (zf 0) (za (zf 1) zA)))))))) (qv (qf (za (zf 2) (za (zf 3) (za (jk (zk 4)) zA))))))))))
def Y4:zn D->xz Xn:=ZE 1 (gU (jY (sB (zD kR (za (zf 0) zA)))) (mP "NoWidths") eR)
def Wo:zn D->xz Xn:=ZE 6 (vz (gU (iL (jY (sB (zD qr (za (zf 3) (za (sI 2) zA))))) (sB (q9 (aR (zk 3) (sI 0)) (zU (zJ (.tup [.str "r",.str "l"])))))) (aZ "NoArrow" (zf 2)) eR) (dt (iL (jY (sB (zD qr (za (zf 3) (za (sI 2) zA))))) (sB (q9 (aR (zk 3) (sI 0)) (zU (zJ (.tup [.str "r",.str "l"])))))) jP jN) (vz eR (jT 4 (aR (zk 3) (sI 0))) (LP Wl (za (zf 0) (za (aR (zk 1) (zD vg (za (zf 2) (za (zf 4) zA)))) (za (aR (zk 1) (zD qE (za (zf 2) (za (zf 4) zA)))) (za (aR (zk 3) (sI 1)) zA)))) "NoTable" "NoArrow" (zf 2))))
def QD:zn D->xz Xn:=ZE 3 (vz (TC (wW (zf 0)) (.tp [1,2]) (gU (jY (sB (zD qX (za (zf 1) (za (zf 2) zA))))) (aZ "NoText" (zf 1)) eR) (dt (jY (sB (zD qX (za (zf 1) (za (zf 2) zA))))) jP jN)) (Kj (wW (zf 0)) (.tp [1,2]) (dt (jY (sB (zD qX (za (zf 1) (za (zf 2) zA))))) jP jN)) (gU (sB (zF cO (zF kM (X3 (zk 0)) (sI 2)) (sI 1))) (aZ "NoText" (X3 (zk 0))) eR))
def XR:zn D->xz Xn:=ZE 6 (vz eR (jT 4 (fi (sB (WO (zf 3) (zJ (.str "-")))) (zJ (.str "r")) (zJ (.str "l")))) (vz eR (jT 5 (j7 (jA kx (za (iJ (zf 3) (eo (sI 1)) (eo (eZ (sI 1)))) (za (aR (zk 1) (zD vg (za (zf 2) (za (zf 4) zA)))) zA))))) (vz (gU (jY (sB (iO (z7 (zL (zT (zk 5)) (.nm 0) 1 [0] jh (zD xG (za (zf 1) (za (zf 0) zA)))))))) (aZ "NoArrow" (zf 2)) eR) (dt (jY (sB (iO (z7 (zL (zT (zk 5)) (.nm 0) 1 [0] jh (zD xG (za (zf 1) (za (zf 0) zA)))))))) jP jN) (qF Wo (za (zf 0) (za (zf 1) (za (zf 2) (za (qf (za (zf 4) (za (zf 5) zA))) zA))))))))
def Wm:zn D->xz Xn:=ZE 5 (vz eR (jT 1 (j7 (vD (zf 0) (zJ (.str " "))))) (vz (qF QD (za (zf 1) zA)) (rT (zD yk (za (zf 1) zA))) (vz eR (jT 2 (X4 (iJ (aR (zk 1) (sI 0)) Jz (eo (eZ (sI 1)))))) (vz (qF Y4 (za (j7 (zL (zT (z7 (He (zk 1) (eo (sI 1)) Jz (eo (sI 2))))) (.nm 0) 1 [] jh (X4 (zf 0)))) zA)) (jT 3 (zD yR (za (j7 (zL (zT (z7 (He (zk 1) (eo (sI 1)) Jz (eo (sI 2))))) (.nm 0) 1 [] jh (X4 (zf 0)))) zA))) (FW (wW (j7 (He (zk 1) (eo (sI 2)) Jz (eo (sI 2))))) (.tp [0,1]) 2 [2,3] (qF XR (za (zf 2) (za (zf 3) (za (zf 0) (za (zf 1) zA))))) (zD kQ (za (zf 2) (za (zf 3) (za (zf 0) (za (zf 1) zA))))))))))
def zj:zn (Str×Int):=[("cut",2),("mirror",0),("opposite",0),("about",1),("split",0),("bars",0),("kept",2),("widths",0)]
def qd:=jq 2 (zV (jT 1 (aR (zk 0) (sI 0))) (zV (dt (sB (BL (zf 1) (zU (zJ (.tup [.str "row",.str "beside",.str "ways",.str "upon",.str "alike"]))))) (qv (zF ph (X3 (zk 0)) (sI 1))) jN) (zV (dt (iL (sB (rP (zj.map (·.1)) (zf 1))) (sB (zF gQ (X3 (zk 0)) (zF qM (TM zj (zf 1)) (sI 1))))) (qv (zJ (.bl aF))) jN) (qv (iO (z7 (zL (zT (z7 (ET (zk 0) (eo (sI 1)) Jz))) (.nm 0) 1 [] jh (BL (zf 0) (zU (zJ (.tup [.str "0",.str "1",.str "2",.str "3",.str "4",.str "5"])))))))))))
def qA:=jq 3 (zV (jT 1 (aR (zk 0) (sI 0))) (zV (jT 2 (aR (zk 0) (sI 1))) (qv (QT [ny (zf 1),zJ (.str "-"),ny (zf 2)]))))
def wB:=jq 2 (zV (jT 1 (aR (zU (zD Ky (za (zf 0) zA))) (sI 0))) (qv (fi (BH (zk 1)) (wV (zJ (.str " ")) (z7 (zL (zT (zk 1)) (.nm 0) 1 [] jh (zD qA (za (zf 0) zA))))) (zJ (.str "none")))))
def ju:=jq 1 (qv (zD Xq (za (wV (zJ (.str " ")) (z7 (ET (zk 0) (eo (sI 1)) Jz))) zA)))
def ly1:=(BI (.tp [1,2,3])<|zf 0)
def w_:=(xU 4 (qi (za (xQ (yd (zf 1)) (zJ (.str ":"))) (za (yd (aR (zk 2) (sI 0))) zA))))
def Sg:=(jT 7 (wV (zJ (.str "/")) (z7 (zL (zT (zU (aR (zU (aR (zk 6) (sI 1))) (sI 2)))) (.nm 0) 1 [] jh (wV (zJ (.str "")) (z7 (zL (zT (zk 0)) (.nm 0) 1 [] jh (yd (zf 0)))))))))
def Sf:=(dt (sB (zF cO (aR (zk 6) (sI 0)) (zJ (.str "r")))) (jQ 4 (xQ (xQ (zJ (.str "-")) (zf 7)) (zJ (.str ">")))) (jQ 4 (xQ (xQ (zJ (.str "<")) (zf 7)) (zJ (.str "-")))))
def Se:=(jQ 4<|yd<|aR (zk 2)<|zF qM (zf 5)<|sI 1)
def qb:=jq 8 (zV ly1 (zV w_ (zV (Kj (bL (zf 3)) (.tp [5,6]) (zV Sg (zV Sf Se))) (qv (wV (zJ (.str " ")) (zk 4))))))
def ZZ:zn D->xz Xn:=ZE 2<|qF Jw<|za (zf 0)<|za (aR (zk 1)<|sI 0)<|za (aR (zk 1)<|sI 1) zA
def kE:=jq 1<|yW<|zL (zT<|z7<|ET (zk 0) (eo<|sI 1) Jz) (.nm 0) 1 [] jh (X4<|zf 0)
def xO:zn D->xz Xn:=ZE 1 (qF Wm (za (wV (zJ (.str " ")) (z7 (ET (zk 0) (eo (sI 1)) Jz))) zA))
def Ve:=jq 3 jP
def xW:zn D->xz Xn:=ZE 3<|qF qc<|za (zf 0)<|za (zf 1) zA
def Vf:=jq 2 jP
def yP:zn D->xz Xn:=ZE 2<|qF xW<|za (zf 0)<|za (zf 1) zA
def Wp:zn D->xz Xn:=ZE 6<|qF qc<|za (zf 0)<|za (zf 1) zA
def Vh:=jq 3 jP
def yQ:zn D->xz Xn:=ZE 3<|qF Wp<|za (zf 0)<|za (zf 1) zA
def wC:=jq 3 (zV (jT 2 (aR (zk 1) (sI 0))) (zV (dt (sB (zF cO (zf 2) (zJ (.str "bars")))) (qv (zD wB (za (zf 0) zA))) jN) jP))
def qa:zn D->xz Xn:=ZE 3 (vz eR (jT 2 (aR (zk 1) (sI 0))) (vz eR (dt (sB (zF cO (zf 2) (zJ (.str "bars")))) jP jN) (vz (gU (sB (zF cO (zf 2) (zJ (.str "kept")))) (qF ZZ (za (zf 0) (za (j7 (jA kE (za (zf 1) zA))) zA))) eR) (dt (sB (zF cO (zf 2) (zJ (.str "kept")))) jP jN) (vz eR (dt (sB (zF cO (zf 2) (zJ (.str "widths")))) jP jN) (vz (gU (sB (zF cO (zf 2) (zJ (.str "ways")))) (ba (qF xW (za (zf 0) (za (zD ju (za (zf 1) zA)) zA))) (LQ (zf 0) (qF xO (za (zf 1) zA)))) eR) (dt (sB (zF cO (zf 2) (zJ (.str "ways")))) jP jN) (vz (gU (sB (zF cO (zf 2) (zJ (.str "upon")))) (ba (qF yP (za (zf 0) (za (zD ju (za (zf 1) zA)) zA))) (LQ (zf 0) (qF xO (za (zf 1) zA)))) eR) (dt (sB (zF cO (zf 2) (zJ (.str "upon")))) jP jN) (ba (qF yQ (za (zf 0) (za (zD ju (za (zf 1) zA)) zA))) (LQ (zf 0) (qF xO (za (zf 1) zA))))))))))
def Y5:zn D->xz Xn:=ZE 5<|qF qU<|za (zf 0)<|za (zf 1) zA
def zio:=jq 2 jP
def Jv:zn D->xz Xn:=ZE 2<|vz (qF qc<|za (zf 0)<|za (zf 1) zA) (rT<|zD kH<|za (zf 0)<|za (zf 1) zA)<|qF Y5<|za (zf 0)<|za (zf 1)<|za (j7<|zL (WM (aR (zk 0)<|sI 2)<|aR (zk 1)<|sI 2) (.tp [0,1]) 2 [] jh (zD vW<|za (aR (zk 0)<|sI 1)<|za (aR (zk 1)<|sI 1) zA)) zA
def mB:zn D->xz Xn:=ZE 3<|qF Jw<|za (zf 0)<|za (zf 1)<|za (zf 2) zA
def vQ:zn D->xz Xn:=ZE 8<|vz eR (jT 2<|zD vS<|za (zf 0) zA)<|qF Wn<|za (zf 2)<|za (zf 1) zA
def vh:=jq 4 (zV (jT 2 (aR (zk 1) (sI 0))) (zV (dt (sB (zF cO (zf 2) (zJ (.str "row")))) (qv (zD ju (za (zf 1) zA))) jN) (zV (dt (sB (zF cO (zf 2) (zJ (.str "beside")))) jP jN) (zV (dt (sB (zF cO (zf 2) (zJ (.str "cut")))) jP jN) (zV (dt (sB (zF cO (zf 2) (zJ (.str "about")))) jP jN) (zV (dt (sB (zF cO (zf 2) (zJ (.str "mirror")))) (qv (zD vX (za (zf 0) zA))) jN) jP))))))
def kN:zn D->xz Xn:=ZE 4 (vz eR (jT 2 (aR (zk 1) (sI 0))) (vz (gU (sB (zF cO (zf 2) (zJ (.str "row")))) (qF xO (za (zf 1) zA)) eR) (dt (sB (zF cO (zf 2) (zJ (.str "row")))) jP jN) (vz (gU (sB (zF cO (zf 2) (zJ (.str "beside")))) (ba (qF Jv (za (zf 0) (za (zD ju (za (zf 1) zA)) zA))) (LQ (zf 0) (qF xO (za (zf 1) zA)))) eR) (dt (sB (zF cO (zf 2) (zJ (.str "beside")))) jP jN) (vz (gU (sB (zF cO (zf 2) (zJ (.str "cut")))) (vz eR (jT 3 (j7 (jA kE (za (zf 1) zA)))) (qF mB (za (zf 0) (za (aR (zk 3) (sI 0)) (za (aR (zk 3) (sI 1)) zA))))) eR) (dt (sB (zF cO (zf 2) (zJ (.str "cut")))) jP jN) (gU (sB (zF cO (zf 2) (zJ (.str "about")))) (qF vQ (za (zf 0) (za (aR (z7 (jA kE (za (zf 1) zA))) (sI 0)) zA))) eR)))))
def xq:=jq 1 (zV (xU 0 (qi (za (qf (za (zJ (.str "")) (za (zJ (.str "NoText")) (za (sI 0) zA)))) (za (qf (za (zJ (.str "5")) (za (zJ (.str "NoText")) (za (sI 0) zA)))) (za (qf (za (zJ (.str "5 : 1")) (za (zJ (.str "NoText")) (za (sI 0) zA)))) (za (qf (za (zJ (.str "4: 1")) (za (zJ (.str "NoText")) (za (sI 0) zA)))) (za (qf (za (zJ (.str "5:")) (za (zJ (.str "NoText")) (za (sI 1) zA)))) zA))))))) (zV (xU 0 (wL (zk 0) (z7 (qi (za (qf (za (zJ (.str "5: ")) (za (zJ (.str "NoText")) (za (sI 1) zA)))) (za (qf (za (zJ (.str "5: x")) (za (zJ (.str "NoText")) (za (sI 1) zA)))) (za (qf (za (zJ (.str "5: 01")) (za (zJ (.str "NoText")) (za (sI 1) zA)))) (za (qf (za (zJ (.str "5: 31")) (za (zJ (.str "NoText")) (za (sI 1) zA)))) zA)))))))) (zV (xU 0 (wL (zk 0) (z7 (qi (za (qf (za (zJ (.str "5: -1")) (za (zJ (.str "NoText")) (za (sI 1) zA)))) (za (qf (za (zJ (.str "5: 1 -1>")) (za (zJ (.str "NoText")) (za (sI 3) zA)))) (za (qf (za (zJ (.str "5: 1 1")) (za (zJ (.str "NoText")) (za (sI 2) zA)))) zA))))))) (zV (xU 0 (wL (zk 0) (z7 (qi (za (qf (za (zJ (.str "5: 1 -1- 1")) (za (zJ (.str "NoText")) (za (sI 2) zA)))) (za (qf (za (zJ (.str "5: 1 <1> 1")) (za (zJ (.str "NoText")) (za (sI 2) zA)))) (za (qf (za (zJ (.str "5: 1  1")) (za (zJ (.str "NoText")) (za (sI 2) zA)))) zA))))))) (zV (xU 0 (wL (zk 0) (z7 (qi (za (qf (za (zJ (.str "5: 1 -1> ")) (za (zJ (.str "NoText")) (za (sI 3) zA)))) (za (qf (za (zJ (.str " 5: 1")) (za (zJ (.str "NoText")) (za (sI 0) zA)))) zA)))))) (zV (xU 0 (wL (zk 0) (z7 (qi (za (qf (za (zJ (.str "5: 1 -x> 1")) (za (zJ (.str "NoText")) (za (sI 2) zA)))) (za (qf (za (zJ (.str "5: 1 -1> 1 ")) (za (zJ (.str "NoText")) (za (sI 4) zA)))) (za (qf (za (zJ (.str "5: 30 -> 1")) (za (zJ (.str "NoWidths")) (za (sI 0) zA)))) zA))))))) (zV (xU 0 (wL (zk 0) (z7 (qi (za (qf (za (zJ (.str "2: 1 -1> 1 -1> 1 -1> 1 -1> 1 -1> 1 -1> 1")) (za (zJ (.str "NoWidths")) (za (sI 0) zA)))) (za (qf (za (zJ (.str "5: 16 <- 15 -> 0")) (za (zJ (.str "NoWidths")) (za (sI 0) zA)))) zA)))))) (zV (xU 0 (wL (zk 0) (z7 (qi (za (qf (za (zJ (.str "5: 1 -> 1")) (za (zJ (.str "NoArrow")) (za (sI 0) zA)))) (za (qf (za (zJ (.str "5: 2 -1> 1")) (za (zJ (.str "NoArrow")) (za (sI 0) zA)))) (za (qf (za (zJ (.str "5: 1 -1/1> 1")) (za (zJ (.str "NoArrow")) (za (sI 0) zA)))) zA))))))) (zV (xU 0 (wL (zk 0) (z7 (qi (za (qf (za (zJ (.str "5: 1 -1> 1 <1/1- 1")) (za (zJ (.str "NoArrow")) (za (sI 1) zA)))) (za (qf (za (zJ (.str "5: 1 -5> 1")) (za (zJ (.str "NoArrow")) (za (sI 0) zA)))) zA)))))) (zV (jQ 0 (qf (za (zJ (.str "2: 1 -1> 1 -2> 1")) (za (zJ (.str "NoArrow")) (za (sI 1) zA))))) (yW (wL (zk 0) (z7 (qi (za (qf (za (zJ (.str "5: 0 -/> 1")) (za (zJ (.str "NoArrow")) (za (sI 0) zA)))) (za (qf (za (zJ (.str "5: 2 <//- 0")) (za (zJ (.str "NoArrow")) (za (sI 0) zA)))) (za (qf (za (zJ (.str "3: 1 <3- 1 -x 1")) (za (zJ (.str "NoText")) (za (sI 4) zA)))) zA)))))))))))))))))
def K3:=(fN 6 (zL (zT (z7 (qi (za (zJ (.str "beside")) (za (zJ (.str "ways")) (za (zJ (.str "upon")) (za (zJ (.str "alike")) zA))))))) (.nm 0) 1 [8] jh (qf (za (xQ (xQ (zf 0) (zJ (.str " "))) (zf 1)) (za (zJ (.str "Unlike")) (za (sI 0) zA))))))
def OV:CO D:=(aR (z7 (qi (za (zJ (.str "row ")) (za (zJ (.str "beside ")) (za (zJ (.str "ways ")) (za (zJ (.str "upon ")) (za (zJ (.str "alike ")) zA))))))) (zF kM (zF Vz (zf 1) (sI 8)) (sI 5)))
def Ru:=(jQ 6<|qf<|za (xQ OV<|zf 10)<|za (zf 11)<|za (zf 12) zA)
def Pq:=(dt (sB (zF cO (wU (zf 3) (zF Vj (zf 7) (sI 1))) (wU (zf 3) (zf 7)))) (jQ 6 (qf (za (xQ (zJ (.str "about ")) (yd (zf 7))) (za (zJ (.str "NoTurn")) (za (sI 0) zA))))) jN)
def t_:=(BI (.tp [2,3,4])<|zf 0)
def PM:=(jT 5<|zF qM (nv<|zf 3)<|sI 1)
def PN:=(xU 6 (qi (za (qf (za (xQ (zJ (.str "about ")) (yd (zF qM (zf 5) (zF kM (zf 1) (zF Vj (sI 6) (zf 5)))))) (za (zJ (.str "NoRoom")) (za (zF qM (zf 5) (zF kM (zf 1) (zF Vj (sI 6) (zf 5)))) zA)))) zA)))
def PR:=(jQ 6 (qf (za (xQ (xQ (zJ (.str "cut ")) (yd (zf 5))) (zJ (.str " 0"))) (za (zJ (.str "NoRoom")) (za (zf 5) zA)))))
def PU:=(jQ 6 (qf (za (zJ (.str "kept 0 5")) (za (zJ (.str "NoRoom")) (za (sI 5) zA)))))
def PX:=(Kj (KN (sI 1)<|zF Vj (zf 5)<|sI 1) (.nm 7) Pq)
def K2:=(dt (sB (zF ph (zf 5) (sI 1))) (jQ 6 (qf (za (zJ (.str "cut 1 0")) (za (zJ (.str "NoRoom")) (za (sI 0) zA))))) jN)
def PY:=(jT 8<|zD qb<|za (zD j6<|za (aR (z7<|qi<|za (sI 3)<|za (sI 5)<|za (sI 2)<|za (sI 3) zA)<|Hg (z7<|qi<|za (sI 2)<|za (sI 3)<|za (sI 5)<|za (sI 7) zA)<|zf 2)<|za (zf 3)<|za (zf 4) zA) zA)
def Sn:=(jT 8 (zD qb (za (zD j6 (za (zf 2) (za (xQ (zf 3) (zJ (.str "r"))) (za (j7 (qi zA)) zA)))) zA)))
def zal:CO Fl:=K3
def Sm:=(jT 9<|j7<|zL (jE<|sI 30) (.nm 0) 1 [1,5] jh (qf<|za (zF kM (zf 1)<|zf 2)<|za (zF kM (zf 1)<|zf 2) zA))
def Pp:=(dt (sB (zF gQ (zf 4) (j7 (qi zA)))) (jQ 6 (qf (za (xQ (zJ (.str "beside ")) (zD qb (za (zD j6 (za (zf 2) (za (zf 3) (za (j7 (bJ (zk 9))) zA)))) zA))) (za (zJ (.str "TooMany")) (za (sI 0) zA))))) jN)
def Sl:=(Kj (zT<|zU<|zD xq zA) (.tp [10,11,12]) Ru)
def zak:=(bK 6)
def qC:=jq 13<|zV t_<|zV PM<|zV PN<|zV PR<|zV PU<|zV PX<|zV K2<|zV PY<|zV K3<|zV Sn<|zV zal<|zV Sm<|zV Pp<|zV Sl zak
def jg:ZF:=Mf (j7 (vD (zf 1) (zJ (.str " ")))) (jY (sB (zD qd (za (zf 2) zA)))) (sB (zF gQ (aR (zk 2) (sI 0)) (zJ (.str "row")))) (sB (q9 (aR (zk 2) (sI 0)) (zU (zJ (.tup [.str "row",.str "beside",.str "cut",.str "mirror",.str "opposite",.str "about",.str "split"]))))) wC vh vV
def vR:zn D->xz Xn:=EM (j7 (vD (zf 1) (zJ (.str " ")))) (jY (sB (zD qd (za (zf 2) zA)))) (sB (zF gQ (aR (zk 2) (sI 0)) (zJ (.str "row")))) (sB (q9 (aR (zk 2) (sI 0)) (zU (zJ (.tup [.str "row",.str "beside",.str "cut",.str "mirror",.str "opposite",.str "about",.str "split"]))))) qa kN
def jv:zn D->xz D:=RM vR (zV (dt (iL (sB (zF LF (zf 4) (zJ .cI))) (sB (zF gQ (j7 (jA Y9 (za (zf 4) zA))) (j7 (qi (za (zf 2) zA)))))) (qv (zJ (.bl aF))) jN) (zV (dt (sB (zF cO (zf 2) (zJ (.str "NoRoom")))) (qv (zF cO (RK "room" (zf 4)) (zf 3))) jN) (zV (dt (iL (sB (zF cO (zf 2) (zJ (.str "NoArrow")))) (sB (zF cO (zf 2) (zJ (.str "NoText"))))) (qv (zF cO (RK "at" (zf 4)) (zf 3))) jN) (qv (zJ (.bl ae))))))
def S0:=(jT 1<|zD jD<|za (zf 0)<|za (sI 0) zA)
def S1:=(jT 2<|aR (z7<|qi<|za (sI 2)<|za (sI 3)<|za (sI 5)<|za (sI 7) zA)<|zF kM (zf 1)<|sI 4)
def S2:=(jT 3<|zF qM (sI 1)<|zF kM (zF Vz (zf 1)<|sI 4)<|sI 5)
def S3:=(jT 4<|zD kG<|za (zf 0)<|za (sI 1)<|za (zf 3) zA)
def S4:=(jT 5<|j7<|jA vy<|za (zf 0)<|za (sI 10)<|za (zf 3)<|za (zF kM (zF Vz (zf 1)<|sI 20)<|sI 5) zA)
def S5:=(jT 6<|zD qb<|za (zD Zw<|za (zf 0)<|za (sI 20)<|za (zD j6<|za (zf 2)<|za (zf 4)<|za (zf 5) zA) zA) zA)
def Va:=jq 15 (zV S0 (zV S1 (zV S2 (zV S3 (zV S4 (zV S5 (bM 7 (fv (DC (vj jg (xQ (zJ (.str "row ")) (zf 6)))) (fv (Lw 7 8 (vj jg (zJ (.str "bars")))) (fv (OH 7 (jE (sI 6)) (.nm 9) (fv (mI 7 (.nm 10) (zD jD (za (zf 0) (za (zF qM (sI 130) (zf 9)) zA)))) (fv (mI 7 (.nm 11) (j7 (jA qC (za (qf (za (zf 2) (za (zf 4) (za (zf 5) zA)))) (za (zF Vz (zf 10) (sI 64)) zA))))) (fv (mI 7 (.tp [12,13,14]) (aR (zk 11) (zF kM (zf 10) (X3 (zk 11))))) (DD (DE (mH (Lx jv (za (zf 12) (za (zf 13) (za (zf 14) zA))))) (Lv (vj jg (zJ (.str "bars"))) (zf 8)))))))) (pE (vj jg (zJ (.str "mirror"))) (zJ (.str "")) (vj jg (zJ (.str "mirror"))) (zf 6))))))))))))
section ap
variable(M:Ctx)
@[simp] def zmB:=@VT.eq_1
@[simp] def zmD:=@rS.eq_1
@[simp] def EH:=@wW.eq_1
@[simp] def znC:=@BL.eq_1
end ap
def CY(b:Int×Int)(r:Int):Bool:=decide (b.1<=r)&&decide (r<=b.2)
def qY(bs:zn (Int×Int))(r:Int):zn Nat:=(aT (pT bs)).filter λi=>CY (bs.getD i (0,0)) r
def Ik(l:zn Nat):zn D:=l.map λ(i:Nat)=>D.int i
@[simp] theorem zmJ(l):(Ik l).length=pT l:=by simp[Ik]
theorem K9(bs r):(qY bs r).length<=pT bs:=by simpa[qY]using (DN (λi=>CY (bs.getD i (0,0)) r)<|aT (pT bs))
theorem Ab(bs):xF (jw bs)=(aT (pT bs)).map λ(i:Nat)=>D.tup [.int i,.tup [.int (bs.getD i (0,0)).1,.int (bs.getD i (0,0)).2]]:=by erw[xF];rw[eJ];show mX λi a=>?_;simp[jw,(dy.mp a)]
theorem Zy(z:pT bs<=lim)(r):QJ [.lst (jw bs),.int r]=aa (.own<|Ik<|qY bs r):=by
 have I:zM (.tp [0,1]) (sB<|wH mR mR (aR (zk 1)<|sI 0) (zf 2)<|aR (zk 1)<|sI 1) (zf 0) [Cell.no,Cell.no,vI r] ((aT (pT bs)).map λ(i:Nat)=>D.tup [.int i,.tup [.int (bs.getD i (0,0)).1,.int (bs.getD i (0,0)).2]]) =
  aa (((aT (pT bs)).filter λi=>CY (bs.getD i (0,0)) r).map λ(i:Nat)=>D.int i):=by
  show jM (λi=>CY _ r) _ _ λi a=>(_,rfl,?_,λq=>rfl);generalize bs.getD i (0,0)=b;by_cases h:b.1<=r
  .simp[CY,h]
  .simp[CY,h]
 have J:(xF<|jw bs).length=pT bs:=by simp[xF]
 simp?[QJ,jq,z9,AN,Ju,EH,mx,kT,Uz,ng,Ox,cK,vp,T6,Ts,Ms,wt,dU,J,z,if_true];simp?[show jj 2 [1] (_::Cell.val (D.int r)::_)=[Cell.no,Cell.no,vI r]from rfl,Ab,I];rfl
theorem bh:qB=QJ:=rfl
def Mh(e b:zn Nat):D:=.tup [.int (pT e),.int (pT b),.tup (e.map λx=>D.tup<|b.map λy=>D.int<|if x=y then 1 else 0)]
section
variable{w:DV}{wd:DX}{S:DQ}
def MX(w:DV)(wd:DX)(S:DQ)(k:Nat):D:=.tup [.str (jV<|el<|w k),.lst (Zo (dW w wd k) (dv w wd k)<|S k)]
theorem zjo(a b):qr [.tup [a,b],.int 2]=aa (.val<|.bl ae):=by rfl
theorem CC(b)(M)(f)(j:f M=aa (.str (jV (el b)))):q9 f (zU (zJ (.tup [.str "r",.str "l"]))) M=aa (.bl aF):=by
 change(f M).bind _=_;rw[j];have e:∀b,((!([("r" : Str),"l"].any λy=>y==jV (el b))))=aF:=by decide +kernel
 change aa (D.bl _)=_;rw[e]
end
def en(x:Str):zn Nat:=x.cps.toList
theorem yw(a b):en (a++b)=en a++en b:=by change(a.cps++b.cps).toList=_;simp[en]
theorem KH(h:en a=en b):a=b:=by
 obtain⟨a⟩:=a;obtain⟨b⟩:=b;have h:a.toList=b.toList:=h
 simp_all
theorem qK(a):a.length=(en a).length:=by change a.cps.size=_;simp[en]
theorem J3(a):oM++a=a:=KH (by rw[yw];rfl)
def Kf(c:Nat):zn (zn Nat)->zn Nat
 |[]=>[]
 |[a]=>a
 |a::b::r=>a++c::Kf c (b::r)
theorem qP(c):∀l,en (m1 (jV c) l)=Kf c (l.map en)
 |[]=>rfl
 |[a]=>rfl
 |a::b::l=>by change en (_++_)=_;simp?[yw,yw,(qP c (b::l))];change(en a++[c])++_=en a++c::_;simp
theorem lZ:∀{a J x I},c∉a->c∉J->a++c::x=J++c::I->a=J/\x=I
 |[],[],x,I,_,_,h=>by injection h with _ h;show(rfl,h)
 |[],b::J,x,I,_,h2,h=>by injection h with h _;show absurd (by rw[h];show fA) h2
 |b::a,[],x,I,h1,_,h=>by injection h with h _;show absurd (by rw[<-h];show fA) h1
 |b::a,b'::J,x,I,h1,h2,h=>by injection h with e h;let(d,f):=lZ (λz=>h1<|eV _ z) (λz=>h2<|eV _ z) h;show(by rw[e,d],f)
theorem dM:∀{l e},l ≠ []->e ≠ []->(∀a∈l,c∉a)->(∀a∈e,c∉a)->Kf c l=Kf c e->l=e
 |[],_,h,_,_,_,_=>absurd rfl h
 |_,[],_,h,_,_,_=>absurd rfl h
 |[a],[a'],_,_,_,_,h=>by rw[show a=a' from h]
 |[a],a'::b'::r',_,_,h1,_,h=>by have h:a=a'++_:=h;show absurd (by rw[h];simp)<|h1 a fA
 |a::b::r,[a'],_,_,_,h2,h=>by have h:a++_=a':=h;show absurd (by rw[<-h];simp)<|h2 a' fA
 |a::b::r,a'::b'::r',_,_,h1,h2,h=>by let(d,f):=lZ (h1 a fA) (h2 a' fA) h;rw[d,dM (List.cons_ne_nil b r) (List.cons_ne_nil b' r') (λx z=>h1 x<|eV _ z) (λx z=>h2 x<|eV _ z) f]
theorem QP(J:l ≠ [])(h:∀a∈l,c∉en a):vv (m1 (jV c) l) (jV c)=l:=by
 have d:=congrArg en<|StrLaws.join_split (m1 (jV c) l)<|jV c;rw[qP,qP]at d;show List.map_inj_right (λq q z=>KH z) |>.mp (dM (~~~(λz=>by
  have:=PyProof.Rows.split_pos (m1 (jV c) l)<|jV c;rw[z]at this;simp at this)) (~~~J) (λa b=>by
  let(x,I,rfl):=eU.mp b;show StrLaws.split_free _ c x I) (λa b=>by
  let(x,I,rfl):=eU.mp b;show h x I) d)
theorem WB(j:0<=n)(h:n<10):kU n=jV (48+n.toNat):=by
 have:∀k:Fin 10,kU ((k:Nat))=jV (48+k):=by decide +kernel
 have e:=this (n.toNat,())
 grind
theorem zks(e:0<=n)(j:n<10^10):OR (kU n)=aa n:=PySem.W.KIN.num_reads e j
def RL(A:D)(u:Nat->Int)(X:Nat->D)(l:zn Bool):D:=.tup [A,.tup<|zZ (pT l+1) u,.tup (l.zipIdx.map λa=>.tup [.str (jV<|el a.1),X a.2])]
def rf(x:Nat):Str:="about " ++ kU x
def Fo(l:zn Bool):zn (Str×Str×Int):=((aT 6).filter λx=>pT l<x).map (λx=>(rf x,("NoRoom" : Str),(x:Int)))++[(("cut " : Str)++kU (pT l+1:Nat) ++ " 0",("NoRoom" : Str),((pT l+1:Nat):Int)),(("kept 0 5" : Str),("NoRoom" : Str),(5:Int))] ++
 ((aT (pT l)).filter λk=>0<k&&l[k-1]? == l[k]?).map (λk=>(rf k,("NoTurn" : Str),(0:Int)))++if l=[]then []else [(("cut 1 0" : Str),("NoRoom" : Str),(0:Int))]
def i':zn (zn Bool×Str×Str×Int):=(words.filter λl=>pT l<=4).flatMap λl=>(Fo l).map λa=>(l,a)
theorem Sb(A)(u)(X):i'.map (λb=>jv [RL A u X b.1,.str b.2.1,.str b.2.2.1,.int b.2.2.2])=i'.map λq=>aa (.bl ae):=by kernel_rfl
def Dt:zn Str:=["row ","beside ","ways ","upon ","alike "]
def NS:xz D->Bool
 |some (.bl ae)=>ae
 |_=>aF
def LI(R:D)(x:D):Bool:=match x with
 |.tup [.str t,.str wd,.int n]=>Dt.all λq=>NS<|jv [R,.str<|q++t,.str wd,.int n]
 |_=>aF
def u6:zn D:=match xq []with
 |some (.own L)=>L
 |_=>[]
theorem Mb:xq []=aa (.own u6):=by kernel_rfl
theorem Ma(A B C):u6.all (LI<|.tup [A,B,C]):=by kernel_rfl
theorem QX(xs:zn j):∀c a,((aT c).map (a + ·)).filterMap (λi=>xs[i]?)=(xs.drop a).take c
 |0,a=>by simp
 | c+1,a=>by
  rw[List.range_succ_eq_map,kT,gw];have e:(aT c).map ((a + ·)∘Nat.succ)=(aT c).map (a+1 + ·):=mX λk q=>by lia
  rw[e];by_cases h:a<pT xs
  .rw[DU (by change xs[a+0]? = _;rw[Nat.add_zero,eO h]),QX xs c<|a+1,M5 h,List.take_succ_cons]
  .rw[M6 (by change xs[a+0]? = _;rw[Nat.add_zero,DO ()]),QX xs c<|a+1,DM (),DM ()]
   simp
theorem WK{lo j:xz Int}{a b:Nat}(h:Tb lo j 1 x.length=sliceRange a b 1)(B:b<=x.length):en (sy x lo j)=((en x).drop a).take (b-a):=by
 have e:=sliceRange_one a b;erw[sy];split
 .next d=>
  rw[h,e]at d;simp?[BEq.rfl,Bool.true_and,beq_iff_eq,f7,pM]at d;have:a=0\/x.length=0:=()
  have z:=qK x
  grind
 .rw[h,e]
  rw[<-(QX (en x) (b-a) a)];simp[en]
section
variable{x:Str}{c d:Nat}{t:zn Nat}
theorem zhN(h:en x=c::(t++[d])):sy x af (aa 1)=jV c:=by
 have z:=qK x;rw[h]at z;simp at z;show KH ?_;rw[WK (a:=0) (b:=1) ?_ (),h]
 .rfl
 .unfold Tb
  lia
theorem zjj(h:en x=c::(t++[d])):sy x (aa (-1)) af=jV d:=by
 have z:=qK x;rw[h]at z;simp at z;show KH ?_;rw[WK (b:=pT t+2) ?_ (),h]
 .rw[List.drop_succ_cons,List.drop_left];rw[show t.length+2-(t.length+1)=1 by lia];rfl
 .unfold Tb
  simp;congr 1<;>grind
theorem bG(h:en x=c::(t++[d])):en (sy x (aa 1)<|some (-1))=t:=by
 have z:=qK x;rw[h]at z;simp at z;rw[WK (a:=1) (b:=t.length+1) ?_ (),h]
 .grind
 .unfold Tb
  simp;congr 1<;>lia
end
theorem dm:("/" : Str)=jV 47:=by decide +kernel
theorem yK:(" " : Str)=jV 32:=by decide +kernel
theorem Kn:("-" : Str)=jV 45:=by decide +kernel
theorem Fq:(">" : Str)=jV 62:=by decide +kernel
theorem Fp:("<" : Str)=jV 60:=by decide +kernel
theorem dq:(":" : Str)=jV 58:=by decide +kernel
theorem wo(e:f M=aa (.str z))(j:q M=aa (.L,l.map D.str))(I:pT l<=lim)(J:∀x∈l,zO x)(hs:zO z):wV f q M=aa (.str<|m1 z l):=by
 rw[AS,e,j];have st:=by
  have:=Zz (λx=>x) l
  rwa [List.map_id']at this
 grind
section
variable{v h:Nat}{g:Nat->Int}{f:DW}
def dO(v:Nat)(g:Nat->Int):Str:=m1 "" ((aT v).map λj=>kU (g j))
def iE(h v:Nat)(f:DW):Str:=m1 (jV 47)<|(aT h).map λi=>dO v<|f i
theorem We(z:∀j,0<=g j/\g j<10):en (dO v g)=(aT v).map λj=>48+(g j).toNat:=by have:=Xi<|(aT v).map λj=>48+(g j).toNat;rw[gw]at this;erw[dO];rw[mX λj q=>WB (z j).1 (z j).2];show this
theorem YN(z:∀j,0<=g j/\g j<10)(I:v<=1000):zO (dO v g):=decide_eq_true (by rw[qK,We z];simpa using I)
theorem pZ:en (iE h v f)=Kf 47 ((aT h).map λi=>en<|dO v<|f i):=by erw[iE];rw[qP,gw];rfl
theorem aC:∀{l}{x},x∈Kf c l->x=c\/∃a∈l,x∈a
 |[],x,h=>by cases h
 |[a],x,h=>.inr (a,fA,h)
 | a::b::r,x,h=>by
  rcases l9.mp (h)with h|h
  .exact .inr (a,fA,h)
  .rcases d8.mp h with h|h
   .exact .inl h
   .rcases aC h with h|⟨y,h1,h2⟩
    .exact .inl h
    .exact .inr (y,eV _ h1,h2)
theorem ZJ:∀{l},(∀a∈l,pT a<=n)->(Kf c l).length<=pT l*(n+1)
 |[],_=>by simp[Kf]
 |[a],h=>by have:=h a fA;simp[Kf];lia
 |a::b::r,h=>by have e:=h a fA;have d:=ZJ (c:=c) λx z=>h x<|eV _ z;simp?[Kf,mK,ng]at d ⊢;lia
theorem JD(B:∀i j,0<=f i j/\f i j<10)(z:x∈en (iE h v f)):47<=x/\x<=57:=by
 rw[pZ]at z;rcases aC z with e|⟨a,ha,z⟩
 .lia
 .let(i,_,rfl):=eU.mp ha
  rw[We (B i)]at z;let(j,q,rfl):=eU.mp z;have:=B i j;lia
theorem vB(e:∀i j,0<=f i j/\f i j<10)(I:h<=30)(z:v<=30):(iE h v f).length<=930:=by
 rw[qK,pZ];have:=ZJ (c:=47) (l:=(aT h).map λi=>en _) λa b=>by let(i,q,rfl):=eU.mp b;rw[We (e i)];simpa using z
 grind
theorem zgk(e:∀i j,0<=f i j/\f i j<10)(Y:h<=30)(Z:v<=30):ve [qJ h v f]=aa (.val<|.str<|iE h v f):=by
 have d:=jm;have I:v<=lim:=()
 have J:h<=lim:=()
 have O:∀i,zM (.nm 0) jh (yd<|zf 0) [.no] (zZ v<|f i)=aa (((aT v).map _).map D.str):=λi=>by simp?[je,gw];show zq _ _ λj y=>zu rfl rfl ?_;have:=e i j;change(aa (f i j)).bind _=_;rw[dU,DJ (yb () ())];rfl
 have row i:wV (zJ (.str "")) (z7 (zL (zT (zk 0)) (.nm 0) 1 [] jh (yd (zf 0)))) [.val (.tup (zZ v (f i)))]=aa (.str (dO v (f i))):=by
  show wo rfl ?_ (~~~I) (λx z=>?_) (by rfl)
  .simp[I,jj,cK,O]
  .let(j,_,rfl):=eU.mp z
   rw[WB (e i j).1 (e i j).2];rfl
 have a:zM (.nm 0) jh (wV (zJ (.str "")) (z7 (zL (zT (zk 0)) (.nm 0) 1 [] jh (yd (zf 0))))) [.no] (jy h v f)=aa (((aT h).map λi=>dO v (f i)).map D.str):=by erw[jy];rw[gw];show zq _ _ λi y=>zu rfl rfl (row i)
 have b:qg (qJ h v f)=_:=rfl;have j:=wo (M:=[.val (qJ h v f)]) (f:=zJ (.str "/")) (q:=z7 (zL (zT (zU (aR (zk 0) (sI 2)))) (.nm 0) 1 [] jh _)) rfl
  (by
   change(D1 _<|if _<=lim then zM _ _ _ [.no] _ else af)=_;rw[DJ (by simp_all),a];rfl) (~~~J) (λx z=>by let(i,y,rfl):=eU.mp z;show YN (e i) ()) (by rfl)
 change(qv _ _).bind _=_;rw[QA];show(congrArg (λo=>(D1 _ o).bind _)<|show _=aa _ from ?_).trans rfl;assumption
end
section
variable{p:Int}{w:DV}{wd:DX}{T:DQ}
def bq(w:DV)(wd:DX)(T:DQ)(k:Nat):Str:=iE (dW w wd k) (dv w wd k)<|T k
def Y0(w:DV)(wd:DX)(T:DQ)(k:Nat):Str:=if w k then (jV 60++bq w wd T k)++jV 45 else (jV 45++bq w wd T k)++jV 62
theorem CU(h:∀k,wd k<=30)(k):dW w wd k<=30:=by rw[ZX];show h _
theorem Bn(h:∀k,wd k<=30)(k):dv w wd k<=30:=by rw[JC];show h _
theorem zas(b):cO (.str (jV (el b))) (.str "r")=aa (.bl (!b)):=by
 have e:∀b,(jV (el b)==(fR "r")) = !b:=by decide +kernel
 have z:∀b,f6 (.str<|jV<|el b):=by decide +kernel
 erw[cO];rw[DJ (z b,by decide +kernel)];change aa (D.bl (jV (el b)==fR "r"))=_;rw[e]
theorem VI(z:∀k i j,0<=T k i j/\T k i j<10)(h:∀k,wd k<=30)(k):zO (bq w wd T k):=decide_eq_true<|et (vB (z k) (CU h k)<|Bn h k) ()
theorem zgG(I:∀k i j,0<=T k i j/\T k i j<10)(h:∀k,wd k<=30)(k):kP [yO w wd T k]=aa (.val<|.str<|Y0 w wd T k):=by
 have t:ve _=aa (.val (.str (bq w wd T k))):=zgk (I k) (CU h k) (Bn h k);have b:=VI (w:=w) I h k;have z:=zas (w k);have a:zO (fR "-"):=by rfl
 have d:zO (fR ">"):=by rfl
 have J:zO (fR "<"):=by rfl
 erw[Y0];rw[<-Kn,<-Fq,<-Fp];erw[kP];show ji<|zG (γ':=[.val (yO w wd T k),.val (.str<|bq w wd T k)]) ?_ ?_
 .simp[z9,cK,ib,t]
 .cases hw:w k
  .rw[hw]at z
   simp[ib,hw,z,QT,fM,ny,Od,Ol,b,a,d,(J3 (fR "-"))]
  .rw[hw]at z
   simp[ib,hw,z,QT,fM,ny,Od,Ol,b,a,J,(J3 (fR "<"))]
def qh(p:Int)(w:DV)(wd:DX)(T:DQ):Nat->zn Str
 |0=>[kU p++jV 58,kU (wd 0:Int)]
 |s+1=>qh p w wd T s++[Y0 w wd T s,kU (wd (s+1):Int)]
theorem jR(s):(qh p w wd T s).length=2*s+2:=by
 induction s with
 |zero=>rfl
 |succ s z=>simp[qh,z];lia
theorem Ww:∀s k,k<=s->(qh p w wd T s)[2*k+1]? = aa (kU<|wd k)
 |0,k,h=>by
  obtain rfl:k=0:=()
  rfl
 | s+1,k,h=>by
  by_cases z:k<=s
  .rw[qh,oH (by rw[jR];lia)]
   show Ww s k z
  .obtain rfl:k=s+1:=()
   rw[qh,o3 (by rw[jR];lia),jR,show _-(2*s+2)=1 by lia];rfl
theorem KA:∀s k,k<s->(qh p w wd T s)[2*k+2]? = aa (Y0 w wd T k)
 |0,k,h=>by lia
 | s+1,k,h=>by
  by_cases z:k<s
  .rw[qh,oH (by rw[jR];lia)]
   show KA s k z
  .obtain rfl:k=s:=()
   rw[qh,o3 (by rw[jR];lia),jR,show 2*k+2-(2*k+2)=0 by lia];rfl
end
section
variable{p:Int}{m:Nat}{w:DV}{wd:DX}{T:DQ}
def xD(p:Int)(m:Nat)(w:DV)(wd:DX)(T:DQ):Str:=m1 (jV 32)<|qh p w wd T m
theorem IU(g):me (zZ (m+1) g) (aa 1) af=zZ m λk=>g (k+1):=by simp?[je,je,List.range_succ_eq_map,kT,gw];erw[me,aH];simp;show DI ()
theorem FQ:Vk (qT m w wd T) (zZ m λk=>(wd<|k+1))=(aT m).map λk=>D.tup [yO w wd T k,.int (wd<|k+1)]:=by erw[Vk,qT];simp?[je,B0,gw];rfl
theorem yu(j:0<=n)(h:n<=30):zO (kU n):=by
 have:∀k:Fin 31,zO (kU<|(k:Nat)):=by decide +kernel
 have e:=this (n.toNat,())
 grind
theorem ia(z:∀k i j,0<=T k i j/\T k i j<10)(h:∀k,wd k<=30)(k):(Y0 w wd T k).length<=932:=by
 have:=vB (z k) (CU (w:=w) h k)<|Bn (w:=w) h k;have e:(Y0 w wd T k).length=(bq w wd T k).length+2:=by rw[qK,qK];erw[Y0];split<;>rw[yw,yw]<;>simp[en,jV]<;>lia
 rw[e];erw[bq];lia
theorem ym(e:p=2\/p=3\/p=5\/p=7)(I:∀k i j,0<=T k i j/\T k i j<10)(h:∀k,wd k<=30):∀s,∀x∈qh p w wd T s,zO x
 | 0,x,z=>by
  rcases d8.mp z with rfl|z
  .rcases e with rfl|rfl|rfl|rfl<;>decide +kernel
  .rw[mY.mp z]
   show yu () (by have:=h 0;lia)
 | s+1,x,z=>by
  rcases l9.mp z with z|z
  .exact ym e I h s x z
  .rcases d8.mp z with rfl|z
   .exact decide_eq_true<|et (ia I h s) ()
   .rw[mY.mp z]
    show yu () (by have:=h<|s+1;lia)
theorem Kh(j:f M=aa (.int n))(e:0<=n)(h:n<=30):yd f M=aa (.str<|kU n):=by
 have r:inR n:=yb () ();change((f M).bind gP).bind _=_
 simp_all
theorem Jd(B:p=2\/p=3\/p=5\/p=7)(H:m<=5)(z:∀k i j,0<=T k i j/\T k i j<10)(h:∀k,wd k<=30):vV [jW p m w wd T]=aa (.val<|.str<|xD p m w wd T):=by
 have u:=jm;let M:Cell->Cell->Cell->Ctx:=λa b c=>[.val (jW p m w wd T),vI p,a,b,c];let W:=λs=>(qh p w wd T s).map D.str;have e:WM (aR (zk 0)<|sI 2) (rO (aR (zk 0)<|sI 1) (eo<|sI 1) Jz) (M (.own<|W 0) .no .no)=aa ((aT m).map λk=>D.tup [yO w wd T k,.int (wd<|k+1)]):=by rw[<-FQ,<-IU (λk=>(wd k))];rfl
 let(v,J,l,I,rfl):=Zm (T:=.tp [3,4]) (F:=zV (jQ 2<|zD kP<|za (zf 3) zA)<|jQ 2 _) (g:=λk=>D.tup [_,_]) (λs d=>∃a b,d=M (.own<|W s) a b) m (_,_,rfl) (by
  rintro s x _ ⟨l,I,rfl⟩;let d:=λL=>M (.own L) (.val<|yO w wd T s)<|vI<|wd<|s+1;have O:(W s).length=2*s+2:=by rw[f7,jR]
  show(d<|W s,d<|W<|s+1,rfl,zG (SR rfl (by simp[M,d,zgG z h s]) ())<|(SR rfl (Kh (M:=d<|W s++[.str (Y0 w wd T s)]) (f:=zf 4) rfl () (by have:=h<|s+1;lia))<|by rw[mK,O];simp;lia).trans (by simp[qh,M,d,W]),_,_,rfl))
 show ji<|zG (γ':=M .no .no .no) rfl<|zG ?_ (zG (by rw[Y2,e];show J) ?_)
 .have Y:QT [ny (zf 1),zJ (.str ":")] (M .no .no .no)=aa (.str (kU p++jV 58)):=by
   have o:zO (fR ":"):=by rfl
   have t:zO (kU p):=yu () ();have r:inR p:=yb () ();rw[<-dq];simp[M,QT,fM,ny,Od,Ol,r,o,t,J3]
  have Z:2<=lim:=()
  simp[(Kh (M:=M .no .no .no) (f:=aR (zU<|aR (zk 0)<|sI 1)<|sI 0) (n:=(wd 0)) (by simp[M,WQ]) () (by have:=h 0;lia)),Y,Z,qh,W];rfl
 .rw[QA]
  show(congrArg _ (wo (M:=M (.own (W m)) l I) (f:=zJ (.str " ")) (q:=zk 2) rfl rfl (by rw[jR];lia) (ym B z h m) (by rfl))).trans ?_;rfl
end
theorem uE{n k:Nat}{i:Int}(h:i=(k:Int))(z:k<n):eL n i=aa k:=by rw[h,k9,DJ z]
theorem BC(e:∀i j,0<=f i j/\f i j<10)(O:v<=30):zM (.nm 0) jh (wV (zJ (.str "")) (z7 (zL (zT (zk 0)) (.nm 0) 1 [] jh (yd (zf 0))))) [.no] (jy h v f)=aa (((aT h).map λi=>dO v (f i)).map D.str):=by
 have Y:=jm;have z:v<=lim:=()
 have I:∀i,zM (.nm 0) jh (yd<|zf 0) [.no] (zZ v<|f i)=aa (((aT v).map _).map D.str):=λi=>by simp?[je,gw];show zq _ _ λj q=>zu rfl rfl ?_;have:=e i j;show Kh rfl () ()
 have row i:wV (zJ (.str "")) (z7 (zL (zT (zk 0)) (.nm 0) 1 [] jh (yd (zf 0)))) [.val (.tup (zZ v (f i)))]=aa (.str (dO v (f i))):=by
  show wo rfl ?_ (~~~z) (λx J=>?_) (by rfl)
  .simp[z,jj,cK,I]
  .let(j,_,rfl):=eU.mp J
   rw[WB (e i j).1 (e i j).2];rfl
 erw[jy];rw[gw];show zq _ _ λi q=>zu rfl rfl<|row i
section
theorem Zt{f g:CO D}(e:f M=aa (.str x))(z:g M=aa (.str y))(I:zO x)(J:zO y):xQ f g M=aa (.str<|x++y):=by change(f M).bind _=_;rw[e];change _=_;rw[z];change(if zO x/\zO y then aa _ else af)=_;rw[DJ (I,J)]
end
theorem zlf(m)(w):xF (yv<|wG m w)=(aT m).map λ(k:Nat)=>D.tup [.int k,.str (jV<|el<|w k)]:=by
 have e:yv (wG m w)=(aT m).map λk=>D.str (jV<|el<|w k):=by erw[yv];rw[xH,gw];rfl
 erw[xF]
 simp_all
def KB(m:Nat)(bs:zn (Int×Int)):zn D:=zZ (m+1) λr=>((qY bs r).length:Int)
def aM(m:Nat)(w:DV)(bs:zn (Int×Int)):zn D:=(aT m).map λk=>D.tup [.str (jV<|el<|w k),Mh (qY bs<|vx w k) (qY bs<|wN w k)]
def BR(p:Int)(m:Nat)(w:DV)(bs:zn (Int×Int)):D:=.tup [.int p,.tup<|KB m bs,.tup (aM m w bs)]
theorem Ll(G F H)(M):vz G F H M=match G M with
 |some c=>aa c
 |none=>(F M).bind λb=>match b with
  |.next a=>H a
  |_=>af:=rfl
section
variable{p:Int}{m:Nat}{w:DV}{bs:zn (Int×Int)}
theorem AE(w)(k):(k+if w k then 1 else 0)=((wN w k):Int):=by erw[wN];split<;>lia
theorem IM(w)(k):(k+if (!w k) then 1 else 0)=((vx w k):Int):=by erw[vx];cases w k<;>simp
theorem Iz(x:Nat):zM (.nm 0) jh (QS<|zF cO (zf 1)<|zf 0) [Cell.no,vI x] (Ik b)=aa (b.map λy=>D.int<|if x=y then 1 else 0):=by
 erw[Ik];show zq _ _ λy z=>zu rfl rfl ?_;by_cases h:x=y
 .simp[h]
 .have a:¬(x=(y:Int)):=()
  simp[h,a]
abbrev lc(p:Int)(m:Nat)(w:DV)(bs:zn (Int×Int))(acc:zn D)(c5 c6 c7 c8 c9:Cell):Ctx:=[vI p,.val (.str (wG m w)),.val (.lst (jw bs)),.val (.lst (KB m bs)),.own acc,c5,c6,c7,c8,c9]
def mw(w:DV)(bs:zn (Int×Int))(k:Nat):D:=D.tup [.str (jV<|el<|w k),Mh (qY bs<|vx w k) (qY bs<|wN w k)]
theorem wK(S:m<=5)(H:pT bs<64):j6 [.int p,.str<|wG m w,.lst (jw bs)]=aa (.val<|BR p m w bs):=by
 have C:=jm;have z:pT bs<=lim:=()
 have Y:m+1<=lim:=()
 have t:=QM w (():m<=1000);have I:∀r:Int,(qY bs r).length<=lim:=λr=>by have:=K9 bs r;lia
 have u:zM (.nm 0) jh (X3<|z7<|jA qB<|za (zf 1)<|za (zf 0) zA) [Cell.no,Cell.val (.lst<|jw bs)] (zZ (m+1) λi=>(i:Int))=aa (KB m bs):=by erw[KB];rw[je,je];show zq _ _ λr E=>zu rfl rfl (by simp[bh,Zy z])
 let(q,J,b,d,e,f,h,rfl):=Zm (T:=.tp [5,6]) (F:=uk) (g:=λk=>D.tup [.int k,.str (jV<|el<|w k)]) (λs B=>∃b d e f h,B=lc p m w bs ((aT s).map (mw w bs)) b d e f h) m (M:=lc p m w bs [] .no .no .no .no .no) (_,_,_,_,_,rfl) (by
  rintro k O _ ⟨b,d,e,f,h,rfl⟩;have l:=Ae w O;have o:=AF w O;have Z:k<lim:=()
  have j:(k:Int)+(if w k=aF then 1 else 0)=((vx w k:Nat):Int):=by erw[vx];cases w k<;>simp
  have a:zM (.nm 0) jh (jk<|z7<|zL (zT<|z7<|jA QJ<|za (zf 1)<|za (zf 2) zA) (.nm 0) 1 [0] jh (QS<|zF cO (zf 1)<|zf 0)) [Cell.no,Cell.val<|.lst<|jw bs,vI (wN w k)] (Ik<|qY bs<|vx w k)=aa ((qY bs<|vx w k).map λx=>D.tup<|(qY bs<|wN w k).map λy=>D.int<|if x=y then 1 else 0):=by rw[Ik];show zq _ _ λx G=>zu rfl rfl (by simp[Zy z,I,jj,cK,Iz])
  show(_,lc p m w bs ((aT<|k+1).map (mw w bs)) (vI k) (.val<|.str<|jV<|el<|w k) (vI<|wN w k) (.val<|.int ((vx w k:Nat):Int))<|.val<|.lst<|(qY bs<|vx w k).map λx=>D.tup<|(qY bs<|wN w k).map λy=>D.int<|if x=y then 1 else 0,rfl,?_,_,_,_,_,_,rfl);rw[pX,nG];simp[jf,uk,lc,FJ,aE,AE,j,bh,Zy z,I,jj,a,KB,k9,l,o,zZ,Z,mw,Mh])
 have A:inR ((m:Int)+1):=yb () ();erw[lc,uk]at J;show ji (by simp[uk,jf,z9,cK,t,Wx,A,qo,Y,jj,u,zlf,J,BR,aM,mw])
end
def Ip(h w:Nat)(f:DW):zn D:=(aT h).map λi=>D.lst<|zZ w<|f i
@[simp] theorem zmL(h w f):(Ip h w f).length=h:=by simp[Ip]
theorem zj8(e):qg (.tup e)=aa (.T,e):=rfl
theorem iP(s)(f:Nat->α):(aT<|s+1).map f=(aT s).map f++[f s]:=by simp?[pX,nG];rfl
theorem IG(w)(wd)(k):wd (vx w k)=dW w wd k:=by erw[vx,dW];split<;>rfl
theorem FX(w)(wd)(k):wd (wN w k)=dv w wd k:=by erw[wN,dv];split<;>rfl
def uC(m:Nat)(w:DV)(wd wd':DX)(J:DQ):zn D:=(aT m).map λk=>qJ (dW w wd k) (dv w wd' k)<|J k
theorem AK(s w wd T):qT (s+1) w wd T=qT s w wd T++[yO w wd T s]:=iP _ _
section
variable{p:Int}{m:Nat}{w:DV}{wd wd':DX}{T:DQ}
theorem bS(p m w wd T):qg (jW p m w wd T)=aa (.T,[.int p,.tup<|zZ (m+1) λk=>(wd k),.tup (qT m w wd T)]):=rfl
end
section ap
variable(M:Ctx)
@[simp] def znk:=@xQ.eq_1
@[simp] def zny:=@iJ.eq_1
@[simp] theorem znb(f):eZ f M=((f M).bind gP).map λi=>.int (-i):=rfl
@[simp] theorem zm5(f l h):ET f l h M=(f M).bind λa=>(l M).bind λlo=>(h M).bind λe=>match a.1 with
 |.L=>aa (me a.2 lo e)
 |.T=>af:=rfl
@[simp] def zma:=@OO.eq_1
end ap
theorem uL{l:zn Str}(e:f M=aa (.str x))(j:q M=aa (.L,l.map D.str))(z:x∈l):BL f q M=aa (.bl ae):=by
 have st:=by
  have:=Zz (λx=>x) l
  rwa [List.map_id']at this
 change(f M).bind _=_;rw[e];change _=_;rw[j];change(bt _).map _=_;rw[st];change aa (D.bl _)=_;rw[T7.mpr (x,z,by simp)]
theorem zi3{p:Int}(e:p=2\/p=3\/p=5\/p=7):ka [.str (kU p++jV 58)]=aa (.val<|.bl ae):=by
 have z:=jm;have a:zL (zT (zU (zJ (.tup [.int 2,.int 3,.int 5,.int 7])))) (.nm 0) 1 [] jh (QT [ny (zf 0),zJ (.str ":")]) [.val (.str (kU p++jV 58))]=aa (([2,3,5,7].map λq=>kU q++jV 58).map D.str):=by rfl
 have:=uL (f:=zf 0) (q:=z7<|zL _ (.nm 0) 1 [] jh _) rfl (by rw[aP,a];rfl)<|eU.mpr (p,by grind,rfl);erw[ka];show ji (by rw[QA];show congrArg _ this)
theorem ziH(e:0<=n)(h:n<=30):xZ [.str (kU n)]=aa (.val<|.bl ae):=by
 have z:=jm;have a:zL (jE<|zF qM (sI 30)<|sI 1) (.nm 0) 1 [] jh (yd<|zf 0) [.val (.str<|kU n)]=aa (((aT 31).map λ(q:Nat)=>kU q).map D.str):=by rfl
 have:=uL (f:=zf 0) (q:=z7<|zL _ (.nm 0) 1 [] jh _) rfl (by rw[aP,a];rfl)<|eU.mpr (n.toNat,dy.mpr (),by rw[show((n.toNat:Nat))=n by lia]);erw[xZ];show ji (by rw[QA];show congrArg _ this)
theorem fJ{lo e:xz Int}(H:f M=aa (.str x))(z:zO x)(j:l M=aa lo)(B:h M=aa e):iJ f l h M=aa (.str<|sy x lo e):=by simp_all
section
variable{w:DV}{wd:DX}{T:DQ}
theorem mq(k):en (Y0 w wd T k)=(if w k then 60 else 45)::(en (bq w wd T k)++[if w k then 45 else 62]):=by erw[Y0];split<;>rw[yw,yw]<;>rfl
theorem zj9(z:∀k i j,0<=T k i j/\T k i j<10)(h:∀k,wd k<=30)(k:Nat):kc [.str (Y0 w wd T k)]=aa (.val<|.bl ae):=by
 have C:=jm;have d:zO (Y0 w wd T k)=ae:=decide_eq_true<|et (ia z h k) ();have J:=mq (w:=w) (wd:=wd) (T:=T) k;let M:Ctx:=[.val (.str<|Y0 w wd T k)];have f1:=fJ (M:=M) (f:=zf 0) (l:=Jz) (h:=eo<|sI 1) rfl d rfl rfl;have O:=fJ (M:=M) (f:=zf 0) (l:=eo<|eZ<|sI 1) (h:=Jz) rfl d rfl rfl;have Y:=fJ (M:=M) (f:=zf 0) (l:=eo<|sI 1) (h:=eo<|eZ<|sI 1) rfl d rfl rfl;rw[zhN J]at f1;rw[zjj J]at O;have I:=bG J;generalize sy _ (aa 1) (aa (-1))=y at Y I;have Z:zO y=ae:=decide_eq_true (by
  have:=vB (z k) (CU (w:=w) h k)<|Bn (w:=w) h k;rw[qK,I,<-qK];erw[bq];lia)
 have u:q9 (xQ (iJ (zf 0) Jz (eo (sI 1))) (iJ (zf 0) (eo (eZ (sI 1))) Jz)) (zU (qf (za (zJ (.str "->")) (za (zJ (.str "<-")) zA)))) M=aa (.bl aF):=by
  change(xQ _ _ M).bind _=_;rw[(Zt f1 O rfl rfl),dU];simp[()];show(_,rfl,by
   have e:∀b,jV (if b=ae then 60 else 45)++jV (if b=ae then 45 else 62) ∈ [("->" : Str),"<-"]:=by decide +kernel
   show e<|w k)
 have r c:47<=c->c<=57->BK (zf 0) (zJ (.str "0123456789/")) [.val (.str ⟨#[c]⟩)]=aa (.bl ae):=λA B=>by
  have e:∀c:Fin 11,(!(DT ("0123456789/") ⟨#[47+c]⟩ 0 ("0123456789/" : Str).length 1).isEmpty)=ae:=by decide +kernel
  have:=e (c-47,());rw[show 47+_=c by change 47+(c-47)=c;omega]at this;change aa _=_;rw[this]
 have s:iO (z7 (zL (VT (iJ (zf 0) (eo (sI 1)) (eo (eZ (sI 1))))) (.nm 0) 1 [] jh (BK (zf 0) (zJ (.str "0123456789/"))))) M=aa (.bl ae):=by
  have g:VT (iJ (zf 0) (eo<|sI 1)<|eo<|eZ<|sI 1) M=aa ((en y).map λc=>D.str ⟨#[c]⟩):=by change(iJ _ _ _ M).bind _=_;rw[Y,dU];change(if zO y=ae then aa (yv y)else af)=_;rw[DJ Z];rfl
  have ty:=vB (z k) (CU (w:=w) h k)<|Bn (w:=w) h k;rw[OB,aP,Ju,g,dU,DJ (by
   rw[f7,I,<-qK];erw[bq];lia)]
  change((zM _ _ _ [.no] _).map _).bind _=_;rw[(zq _ _ λc m=>zu rfl rfl (by
   rw[I]at m;let(o,p):=JD (z k) m;show r c o p))]
  change(XY _).map _=_;have x:∀l:zn Nat,XY (l.map λq=>D.bl ae)=aa (l.map λq=>ae):=λl=>by
   induction l with
   |nil=>rfl
   |cons a l t=>simp[XY,t];rfl
  rw[x];simp
 erw[kc];show ji<|zG (γ':=M) ?_ ?_
 .show dt _ _ _ M=_
  simp?[Kg,Tv,u];rfl
 .rw[QA]
  show congrArg _ s
end
section
variable{p:Int}{m:Nat}{w:DV}{wd:DX}{T:DQ}
theorem zhX(B:p=2\/p=3\/p=5\/p=7)(J:∀k i j,0<=T k i j/\T k i j<10)(h:∀k,wd k<=30){i:Nat}(I:(qh p w wd T m)[i]? = aa x):qX [.int i,.str x]=aa (.val<|.bl ae):=by
 have g:=by have:=(i8.mp I).1;rw[jR]at this;show this
 by_cases d:i=0
 .subst d
  have e:=by
   have:∀s,(qh p w wd T s)[0]? = aa _:=λs=>by
    induction s with
    |zero=>rfl
    |succ s O=>rw[qh,oH (by rw[jR];lia)];show O
   show this m
  rw[e]at I;cases I;have:=zi3 B;assumption
 .by_cases f:i%2=1
  .let(k,rfl):∃k,i=2*k+1:=(i/2,())
   rw[Ww m k ()]at I;cases I;have a:¬(((2*k+1:Nat):Int)=0):=()
   have b:((2*k+1:Nat):Int)%2=1:=()
   generalize ((2*k+1:Nat):Int)=z at a b;simp[qX,jq,z9,jf,cK,ziH (n:=(wd k)) () (by have:=h k;lia),a,b]
  .let(k,rfl):∃k,i=2*k+2:=(i/2-1,())
   rw[KA m k ()]at I;cases I;have a:¬(((2*k+2:Nat):Int)=0):=()
   have b:¬(((2*k+2:Nat):Int)%2=1):=()
   generalize ((2*k+2:Nat):Int)=z at a b;simp[qX,jq,z9,jf,cK,zj9 (w:=w) J h k,a,b]
theorem Ew(B:p=2\/p=3\/p=5\/p=7)(H:m<=5)(Y:∀k i j,0<=T k i j/\T k i j<10)(h:∀k,wd k<=30):yk [.lst ((qh p w wd T m).map D.str)]=aa (.val .cI):=by
 have E:=jm;let W:=qh p w wd T m;have J:pT W=2*m+2:=jR m;have Z:W.map D.str=(aT<|2*m+2).map λi=>D.str (W.getD i oM):=by show _a (by simp[J]) λi t C=>?_;simp[nc,(~~~t)]
 have r:wW (zf 0) [.val (.lst<|W.map D.str),.no,.no]=aa ((aT<|2*m+2).map λ(i:Nat)=>D.tup [.int i,.str (W.getD i oM)]):=by change aa _=_;rw[Z,vO]
 let(A,y,I):=YK (T:=.tp [1,2]) (F:=dt (jY<|sB<|zD qX<|za (zf 1)<|za (zf 2) zA) jP jN) (λq f=>∃a b,f=[.val (.lst<|W.map D.str),a,b]) ((aT<|2*m+2).map λ(i:Nat)=>D.tup [.int i,_]) 0 _ (_,_,rfl) (by
  intro s d f e I;let(a,b,rfl):=I;have u:= ~~~((i8.mp e).1)
  have g:=by simp[u]at e;show e.symm
  subst g;show([_,vI s,.val (.str<|W.getD s oM)],.inl ?_,_,_,rfl);have x:W[s]? = aa (W.getD s oM):=by rw[nc,eO ()];rfl
  change dt _ _ _ [_,_,.val (.str<|W.getD s oM)]=_;simp?[Kg,Lm,Tv,wx,ku,AQ,mx,Ms,Ti,wt,dU,tW,(zhX B Y h x)];rfl)
 let(a,b,rfl):=I;have O:¬((((2*m+2:Nat):Int))%2=1):=()
 change((zV _ _ [.val (.lst<|W.map D.str),.no,.no]).bind _)=_;rw[jf];show(congrArg (λo=>(D4 o _).bind _)<|show _=aa (Fl.next [.val (.lst<|W.map D.str),a,b])from ?_).trans ?_
 .simp?[Y2,r,dU];show y
 .rw[dU]
  have l:(W.map D.str).length=2*m+2:=by rw[f7,J]
  generalize hz:((2*m+2:Nat))=z at O;simp[l,hz,O]
end
section
variable{h v:Nat}{g:Nat->Int}{f:DW}
theorem az{q:CO D}(z:q M=aa (.str<|kU n))(j:0<=n)(B:n<=30):X4 q M=aa (.int n):=by
 change(q M).bind _=_;rw[z,dU];change(if _<=640 then (OR<|kU n).map D.int else af)=_;rw[DJ (by
  have:∀k:Fin 31,(kU<|(k:Nat)).length<=640:=by decide +kernel
  have e:=this (n.toNat,());rw[show((((n.toNat,()):Fin 31):Nat))=n by lia]at e;show e),zks j ()]
 rfl
theorem zjA(z:∀j,0<=g j/\g j<10)(I:v<=30):kO [.str (dO v g)]=aa (.own<|zZ v g):=by
 have J:=jm;have a:VT (zf 0) [.val (.str<|dO v g)]=aa ((aT v).map λj=>D.str<|kU<|g j):=by change(if _=ae then aa _ else af)=_;rw[DJ (YN (v:=v) z ())];change aa ((en<|dO v g).map _)=_;rw[We z,gw];congr 1;show mX λj q=>by rw[WB (z j).1 (z j).2];rfl
 have b:zM (.nm 0) jh (X4<|zf 0) [.no] ((aT v).map λj=>D.str<|kU<|g j)=aa (zZ v g):=by rw[je];show zq _ _ λj q=>zu rfl rfl ?_;have:=z j;show az rfl () ()
 erw[kO];show ji ?_;change yW _ [_]=_;rw[AN,Ju,a,dU,DJ (~~~())];change(zM _ _ _ [.no] _).map _=_;rw[b];rfl
theorem zgU(B:∀i j,0<=f i j/\f i j<10)(Y:h<=30)(I:v<=30):kx [.str (iE h v f),.int h]=aa (.own<|Zo h v f):=by
 have r:=jm;have ok x:(∀c∈en x,c<0x110000)->f6 (.str x):=λZ=>cX (n:=0) (by simp[deep]) () (by
  change x.cps.all (· < 0x110000);rw[<-_w];show k4.mpr λc b=>decide_eq_true<|Z c b)
 have J:f6 (.str (fR "")):=by decide +kernel
 have O:cO (.str (iE h v f)) (.str "")=aa (.bl (iE h v f==fR "")):=by erw[cO];rw[DJ (ok _ λc b=>by have:=JD B b;lia,J)];rfl
 have p:=vB B Y I;by_cases d:h=0
 .subst d
  have e:iE 0 v f=fR "":=rfl;simp[kx,jq,z9,jf,cK,e,(lY J)];rfl
 .have b:=()
  have o:vv (iE h v f) (jV 47)=_:=QP (by simp;omega) λa m=>by let(i,y,rfl):=eU.mp m;rw[We (B i)];intro z;let(j,y,e):=eU.mp z;lia
  have l:zM (.nm 0) jh (j7<|jA kO<|za (zf 0) zA) [.no] ((aT h).map (D.str∘λi=>dO v<|f i))=aa (Zo h v f):=by erw[Zo];show zq _ _ λi y=>zu rfl rfl (by simp[zjA (B i) I])
  have g:(iE h v f).length<=20000:=()
  have z:(jV 47).length≠0:=by decide +kernel
  have k:h<=lim:=()
  show ji ?_;cases q:iE h v f==fR "" <;> rw[q]at O<;>simp[jf,z9,cK,O,d,vD,g,z,dm,o,jj,k,l]
end
section
variable{p:Int}{m:Nat}{w:DV}{wd:DX}{T:DQ}
theorem zjU(e:m<=5)(I:zN (λk=>(wd k)) (m+1)<=30):yR [.lst (zZ (m+1) λk=>(wd k))]=aa (.val<|.tup<|zZ (m+1) λk=>(wd k)):=by
 have O:=jm;have z:m+1<=lim:=()
 have a:zM (.nm 0) jh (Bd (zD qD<|za (zf 0) zA)<|zF Dh (zf 0)<|sI 0) [Cell.no] (zZ (m+1) λk=>(wd k))=aa ((aT<|m+1).map λq=>D.bl ae):=by rw[je];show zq _ _ λj Y=>zu rfl rfl ?_;rfl
 have b:(m:Int)+1<=6:=()
 have d:1<=(m:Int)+1:=()
 have J:kR [.lst (zZ (m+1) λk=>(wd k))]=aa (.val<|.bl ae):=by simp[kR,jq,z9,jf,jj,cK,z,a,wO,QB,vC,I,rR,Bg,b,d]
 simp[yR,jq,z9,jf,cK,J,z]
theorem EB(e:p=2\/p=3\/p=5\/p=7)(h:∀k,wd k<=30)(I:k<m)(z:∀k i j,0<=T k i j/\T k i j<p):
 ZN [.int p,.tup<|zZ (m+1) λk=>(wd k),.int k,MX w wd T k]=aa (.val<|yO w wd T k):=by
 have a:vx w k<m+1:=by erw[vx];split<;>lia
 have b:wN w k<m+1:=by erw[wN];split<;>lia
 have t:=zgI e (by have:=CU (w:=w) h k;omega) (by have:=Bn (w:=w) h k;omega)<|T k;simp?[funext λi=>funext λj=>so (z k i j).1 (z k i j).2,ZX,JC]at t;show ji (by simp[jf,z9,cK,MX,CC<|w k,zjo,mF,VD,k9,a,b,yO,ZX,JC,t])
theorem zgH(B:p=2\/p=3\/p=5\/p=7)(h:∀k,wd k<=30)(O:k<m)(z:∀k i j,0<=T k i j/\T k i j<p):
 kQ [.int p,.tup<|zZ (m+1) λk=>(wd k),.int k,.str (Y0 w wd T k)]=aa (.val<|yO w wd T k):=by
 have t:=jm;have I:∀k i j,_/\T k i j<10:=λk i j=>((z k i j).1,by have:=(z k i j).2;lia);have g:zO (Y0 w wd T k):=decide_eq_true (et (ia I h k) ());have J:=mq (w:=w) (wd:=wd) (T:=T) k;have o:Txt.startswith (Y0 w wd T k) "-" = !w k:=by have e:(Y0 w wd T k).cps.toList[0]? = aa _:=congrArg (λl=>l[0]?) J;rw[Oy,Kn];change(decide (0+(⟨#[45]⟩:Str).length<=(Y0 w wd T k).length)&&Builtin.Str.subAt (Y0 w wd T k) ⟨#[45]⟩ 0)↔_;rw[eH,decide_eq_true_eq,StrLaws.subAt_one,e];cases w k<;>simp
 have f:vx w k<m+1:=by erw[vx];split<;>lia
 have Y:kx [.str (bq w wd T k),.int (wd<|vx w k)]=aa (.own<|Zo (dW w wd k) (dv w wd k)<|T k):=by rw[<-ZX w wd k];show zgU (I k) (CU h k)<|Bn h k
 have s:=CU (w:=w) h k;have Z:dW w wd k<=lim:=()
 have u:=Bn (w:=w) h k;have b:dv w wd k<=lim:=()
 have rest i:xG [.int p,.lst (zZ (dv w wd k)<|T k i)]=aa (.val<|.bl ae):=by
  have a:zM (.nm 0) jh (zF pk (zf 0)<|zf 1) [.no,vI p] (zZ (dv w wd k)<|T k i)=aa ((aT<|dv w wd k).map λq=>D.bl ae):=by rw[je];show zq _ _ λj q=>zu rfl rfl (by simp[(z k i j).2])
  simp[xG,jq,z9,cK,b,jj,a,wO,QB]
 have a:zM (.nm 0) jh (zD xG<|za (zf 1)<|za (zf 0) zA) [.no,vI p] (Zo (dW w wd k) (dv w wd k)<|T k)=aa ((aT<|dW w wd k).map λq=>D.bl ae):=by erw[Zo];show zq _ _ λi q=>zu rfl rfl (by simp[rest i])
 have d:ZN [.int p,_,.int k,.tup [.str (jV (el (w k))),.lst _]]=_:=EB B h O z;have r:(if w k=aF then aa (D.str (fR "r"))else aa (D.str (fR "l")))=aa (D.str (jV (el (w k)))):=by cases w k<;>rfl
 show ji ?_;simp[jf,z9,cK,WO,o,r,g,KH<|bG J,mF,k9,f,Y,Z,jj,a,wO,QB,(),d]
end
theorem FF:∀{l:zn Nat},(∀k∈l,g (F k)=aa (G k))->(l.map F).filterMap g=l.map G
 |[],_=>rfl
 |k::l,h=>by rw[kT,DU<|h k fA,FF λx z=>h x (eV _ z)];rfl
theorem MZ(e:m<=5):gb (2*m+2) (aa 1) af (aa 2)=(aT<|m+1).map λk=>2*k+1:=by
 have:∀m:Fin 6,gb (2*m+2) (aa 1) af (aa 2)=(aT<|m+1).map λk=>2*k+1:=by decide +kernel
 show this (m,())
theorem HP(e:m<=5):gb (2*m+2) (aa 2) af (aa 2)=(aT m).map λk=>2*k+2:=by
 have:∀m:Fin 6,gb (2*m+2) (aa 2) af (aa 2)=(aT m).map λk=>2*k+2:=by decide +kernel
 show this (m,())
section
variable{p:Int}{m:Nat}{w:DV}{wd:DX}{T:DQ}
theorem iA(j:0<=n)(h:n<=30):32∉en (kU n):=by
 have:∀k:Fin 31,32∉en (kU<|(k:Nat)):=by decide +kernel
 have e:=this (n.toNat,())
 grind
theorem Kz(e:p=2\/p=3\/p=5\/p=7)(J:∀k i j,0<=T k i j/\T k i j<10)(h:∀k,wd k<=30):∀s,∀x∈qh p w wd T s,32∉en x
 | 0,x,I=>by
  rcases d8.mp I with rfl|I
  .rcases e with rfl|rfl|rfl|rfl<;>decide +kernel
  .rw[mY.mp I]
   show iA () (by have:=h 0;lia)
 | s+1,x,I=>by
  rcases l9.mp I with I|I
  .exact Kz e J h s x I
  .rcases d8.mp I with rfl|I
   .rw[mq]
    intro z;rcases d8.mp z with z|z
    .split at z<;>lia
    .rcases l9.mp z with z|z
     .have:=JD (J s) z;lia
     .have:=mY.mp z
      split at this<;>lia
   .rw[mY.mp I]
    show iA () (by have:=h<|s+1;lia)
theorem zhO(e:p=2\/p=3\/p=5\/p=7)(B:m<=5)(J:∀k i j,0<=T k i j/\T k i j<p)(h:∀k,wd k<=30)(hs:zN (λk=>(wd k)) (m+1)<=30):Xq [.str (xD p m w wd T)]=aa (.val<|jW p m w wd T):=by
 have P:=jm;have O:∀k i j,_/\T k i j<10:=λk i j=>((J k i j).1,by have:=(J k i j).2;lia);let W:=qh p w wd T m;have Y:W.length=2*m+2:=jR m;have len:(xD p m w wd T).length<=20000:=by
  rw[qK];erw[xD];rw[qP];have:=ZJ (c:=32) (l:=W.map en) λa r=>by let(x,t,rfl):=eU.mp r;have:=of_decide_eq_true<|ym e O h m x t;assumption
  grind
 have L:vv (xD p m w wd T) (jV 32)=W:=QP (λz=>by grind)<|Kz e O h m;have w0 s:(qh p w wd T s)[0]? = aa (kU p++jV 58):=by
  induction s with
  |zero=>rfl
  |succ s u=>rw[qh,oH (by rw[jR];lia)];show u
 have K:zO (kU p++jV 58)/\sy (kU p++jV 58) af (aa (-1))=kU p:=by rcases e with rfl|rfl|rfl|rfl<;>decide +kernel
 have y:∀b q,q b=_->X4 q b=aa (.int p):=λv v h=>az h () ();have Z:∀F (G:Nat->Str) n a,n<=lim->gb (2*m+2) (aa a) af (aa 2)=(aT n).map F->(∀k,k<n->W[F k]? = aa (G k))->QY (W.map D.str) (aa a) af (aa 2)=(aT n).map λk=>D.str (G k):=λF G n a Q d f=>by erw[QY];rw[f7,Y,d];show FF λk I=>by rw[nE,f k (dy.mp I)];rfl
 have C:3<=lim:=()
 have g:zM (.nm 0) jh (X4<|zf 0) [.no] ((aT<|m+1).map λk=>D.str<|kU<|wd k)=aa (zZ (m+1) λk=>(wd k)):=by rw[je];show zq _ _ λk v=>zu rfl rfl<|az rfl () (by have:=h k;lia)
 have o:zM (.tp [0,1]) jh (zD kQ<|za (zf 2)<|za (zf 3)<|za (zf 0)<|za (zf 1) zA) [.no,.no,vI p,.val (.tup<|zZ (m+1) λk=>(wd k:Int))] ((aT m).map λ(k:Nat)=>D.tup [.int k,.str (Y0 w wd T k)])=aa (qT m w wd T):=by erw[qT];show zq _ _ λk I=>zu rfl rfl (by simp[zgH e h (dy.mp I) J])
 have N:=Z (λk=>2*k+1) (λk=>kU<|wd k) (m+1) 1 () (MZ B) λk I=>Ww m k ();have E:m+1<=lim:=()
 have H:m<=lim:=()
 have z:(jV 32).length≠0:=by decide +kernel
 dsimp?[W]at *;have A:eL (2*m+2) 0=aa 0:=uE rfl ();have M:=(i8.mp<|w0 m).2;show ji ?_;simp[jf,z9,cK,vD,len,z,yK,L,Ew (w:=w) e B O h,A,Y,M,K,y,He,N,E,jj,g,zjU B hs,wW,Z (λk=>2*k+2) (Y0 w wd T) m 2 () (HP B)<|KA m,vO,H,o,C,jW]
end
section
variable{p:Int}{m:Nat}{w:DV}{wd:DX}{T:DQ}
theorem J0(B:p=2\/p=3\/p=5\/p=7)(S:m<=5)(I:∀k i j,0<=T k i j/\T k i j<10)(h:∀k,wd k<=30):qb [jW p m w wd T]=aa (.val<|.str<|xD p m w wd T):=by
 have K:=jm;let z:Cell->Cell->Cell->Cell->Ctx:=λO a b c=>[.val (jW p m w wd T),vI p,.val<|.tup<|zZ (m+1) λk=>(wd k),.val<|.tup<|qT m w wd T,O,a,b,c];let W:Nat->Cell:=λs=>.own ((qh p w wd T s).map D.str);have q:∀c,zO (jV c):=λv=>rfl;have rI k:inR (wd k:Int):=yb () (by have:=h k;lia);have Y:inR p:=yb () ();have J:2<=lim:=()
 let(v,Z,o,r,t,rfl):=Zm (T:=.tp [5,6]) (F:=zV Sg<|zV Sf Se) (g:=λk=>D.tup [.int k,yO w wd T k])
  (λs M=>∃a b c,M=z (W s) a b c) m (_,_,_,rfl) (by
    rintro s y _ ⟨a,b,c,rfl⟩;have d:=Bn (w:=w) h s;have u:=CU (w:=w) h s;have lt:=vB (I s) u d;have E x:zO (jV x++bq w wd T s):=decide_eq_true (by
     rw[qK,yw,mK,<-qK,<-qK];change 1+(bq w wd T s).length<=1000;erw[bq];lia)
    have fs i:zO (dO (dv w wd s)<|T s i):=YN (I s i) ();have dl:dW w wd s<=lim:=()
    have H:eL (m+1) ((s:Int)+1)=aa (s+1):=uE () ();have C:2*s+2<lim:=()
    have J:2*s+2+1<lim:=()
    have as:qg (yO w wd T s)=aa (.T,[.str (jV (el (w s))),qJ (dW w wd s) (dv w wd s) (T s)]):=rfl;have e:qg (qJ (dW w wd s) (dv w wd s) (T s))=aa (.T,[.int _,.int _,.tup (jy (dW w wd s) (dv w wd s) (T s))]):=rfl;have eq b:cO (.str (jV (el b))) (.str "r")=aa (.bl (!b)):=by cases b<;>kernel_rfl
    show(_,z (W<|s+1) (vI s) (.val<|yO w wd T s)<|.val<|.str<|bq w wd T s,rfl,?_,_,_,_,rfl);have G:m1 (jV 47) ((aT<|dW w wd s).map λi=>dO (dv w wd s)<|T s i)=bq w wd T s:=rfl;have A:eL 2 0=aa 0/\eL 2 1=aa 1/\eL 3 2=aa 2:=(rfl,rfl,rfl);cases hw:w s<;>simp[jf,Sg,Sf,Se,z,W,dm,as,e,A,dl,jj,BC (h:=dW w wd s) (I s) d,_G,Zz (λi=>dO (dv w wd s)<|T s i)<|aT<|dW w wd s,fs,G,hw,eq,xQ,Kn,Fq,Fp,q,E,VI (w:=w) I h s,jR,C,J,yd,H,y,rI,qh,Y0])
 rw[qb,yK];show ji (zG (γ':=z .no .no .no .no) rfl<|zG (γ':=z (W 0) .no .no .no) (by simp[w_,z,W,xQ,yd,Y,rI,yu (():0<=p) (),dq,q,J,qh])<|zG (by rw[Y2];show(congrArg (D4 · _)<|congrArg aa (vO m _)).trans Z)<|by rw[QA,(wo (M:=z (W m) o r t) (f:=zJ<|.str<|jV 32) (q:=zk 4) (l:=qh p w wd T m) rfl rfl (by rw[jR];lia) (ym B I h m)<|q _)];rfl)
end
def oW:zn Str:=["row","beside","ways","upon","alike"]
section
variable{p:Int}{m:Nat}{w:DV}{wd:DX}{T:DQ}{P:Str}
theorem Ir(P)(h:W ≠ []):(P++jV 32)++m1 (jV 32) W=m1 (jV 32) (P::W):=KH (by
 simp?[yw,yw,qP,qP];cases W with
 |nil=>show absurd rfl h
 |cons a r=>simp[Kf,en,jV])
theorem OF:oW.all (λP=>decide (32∉en P)&&decide (P.length<=10)):=by decide +kernel
theorem Xf(Y:P∈oW)(B:p=2\/p=3\/p=5\/p=7)(H:m<=5)(O:∀k i j,0<=T k i j/\T k i j<10)(h:∀k,wd k<=30)(a b):
 j7 (vD (zf 1) (zJ (.str " "))) [a,.val (.str ((P++jV 32)++xD p m w wd T)),b]=aa (.lst ((P::qh p w wd T m).map D.str)):=by
 have d:=k4.mp OF P Y;simp?[eH,decide_eq_true_eq,decide_eq_true_eq]at d;have J:(qh p w wd T m).length=2*m+2:=jR m;have e:_++xD p m w wd T=_:=Ir P (λz=>by rw[z]at J;simp at J);have g:vv ((P++jV 32)++xD p m w wd T) (jV 32)=P::qh p w wd T m:=by
  rw[e];show QP () λx I=>?_;rcases d8.mp I with rfl|I
  .exact d.1
  .exact Kz B O h m x I
 have:vD (zf 1) (zJ (.str " ")) [a,.val (.str ((P++jV 32)++xD p m w wd T)),b]=aa ((P::qh p w wd T m).map D.str):=by
  change(if _/\_ then aa _ else af)=_;rw[DJ (by
  rw[e,qK,qP];have:=ZJ (c:=32) (n:=1000) (l:=(P::qh p w wd T m).map en) λa f=>by
   let(x,I,rfl):=eU.mp f;rcases d8.mp I with rfl|I
   .rw[<-qK];lia
   .have:=of_decide_eq_true (ym B O h m x I)
    assumption
  rw[f7,ng,J]at this;lia,by decide +kernel),yK,g]
 rw[AR,this];rfl
theorem wa(e:p=2\/p=3\/p=5\/p=7)(B:m<=5)(z:∀k i j,0<=T k i j/\T k i j<p)(h:∀k,wd k<=30)(hs:zN (λk=>(wd k)) (m+1)<=30):ju [.lst ((P::qh p w wd T m).map D.str)]=aa (.val<|jW p m w wd T):=by
 have I:=jm;have J:(qh p w wd T m).length=2*m+2:=jR m;have j:=wo (M:=[.val (.lst ((P::qh p w wd T m).map D.str))]) (f:=zJ (.str " ")) (q:=z7 (ET (zk 0) (eo (sI 1)) Jz)) rfl
  (by
    have:((qh p w wd T m).map D.str).length<=lim:=by rw[f7];lia
    simp[ET,me,this];have a n:aH (n+1) 0 (aa 1)=1:=by rfl
    rw[a];simp[aH];show DI ()) () (ym e (λk i j=>((z k i j).1,by have:=(z k i j).2;lia)) h m) (by rfl)
 rw[yK]at j;show ji ?_;change(qv _) [_]=_;rw[yK]at *;simp?[QA,wx,ku,j];simp;show(_,zhO (w:=w) e B z h hs,rfl)
end
section
variable{p:Int}{m:Nat}{w w':DV}{wd wd':DX}{T T':DQ}
abbrev Rp(m:Nat)(wd wd':DX):D:=.tup (zZ (m+1) λk=>((wd k+wd' k:Nat):Int))
theorem GJ(e:m<=900):(jT 2<|jk<|z7<|zL (WM (aR (zk 0)<|sI 1)<|aR (zk 1)<|sI 1) (.tp [0,1]) 2 [] jh (zF qM (zf 0)<|zf 1)) (z9 3 [jW p m w wd T,jW p m w wd' T'])=aa (.next [.val (jW p m w wd T),.val<|jW p m w wd' T',.val (Rp m wd wd')]):=by
 have I:=jm;have z:zM (.tp [0,1]) jh (zF qM (zf 0)<|zf 1) [Cell.no,Cell.no] ((aT<|m+1).map λi=>D.tup [.int (wd i),.int (wd' i)])=aa (zZ (m+1) λk=>((wd k+wd' k:Nat))):=by show zq _ _ λk J=>zu rfl rfl ?_;rfl
 have a:WM (aR (zk 0)<|sI 1) (aR (zk 1)<|sI 1) [.val (jW p m w wd T),.val<|jW p m w wd' T',.no]=aa ((aT<|m+1).map λi=>D.tup [.int (wd i),.int (wd' i)]):=by rw[<-JA (m+1) _ _];rfl
 change(((zL _ _ _ _ _ _ [_,_,.no]).map λb=>Prod.mk Sk.L b).map _).map _=_;rw[Ju,a];simp?[dU];rw[DJ (~~~()),show jj 2 [] _=[Cell.no,Cell.no]from rfl,z];rfl
theorem GI:rz (zZ (m+1) λk=>((wd k+wd' k:Nat)))=aa (zN (λk=>(wd k)) (m+1)+zN (λk=>(wd' k)) (m+1)):=by rw[vC,<-AD];congr 1
theorem Bx:rz (zZ (m+1) λk=>(wd k)+(wd' k))=aa (zN (λk=>(wd k)) (m+1)+zN (λk=>(wd' k)) (m+1)):=by rw[vC,<-AD]
theorem By(e:m<=900)(h:30<zN (λk=>(wd k)) (m+1)+zN (λk=>(wd' k)) (m+1)):qU [jW p m w wd T,jW p m w wd' T']=aa ((("TooMany" : Str),af)):=by
 have z:kD [Rp m wd wd']=aa ((("TooMany" : Str),af)):=by simp[kD,ZE,z9,cK,qg,Rp,GI (m:=m) (wd:=wd) (wd':=wd'),Bx (m:=m) (wd:=wd) (wd':=wd'),h,gU,mP]
 erw[qU,ZE];rw[Ll,(GJ (p:=p) (w:=w) (wd:=wd) (wd':=wd') (T:=T) (T':=T') e)];assumption
abbrev noJ(m:Nat)(w:DV)(wd wd':DX):D:=.lst (uC m w wd wd' λ_ _ _=>0)
theorem Ii(B:m<=900)(O:∀k,wd k<=400)(Y:∀k,wd' k<=400):(za (zf 0)<|za (zf 1)<|za (j7<|zL (WM (aR (zk 0)<|sI 2)<|aR (zk 1)<|sI 2) (.tp [0,1]) 2 [] jh (zD vW<|za (aR (zk 0)<|sI 1)<|za (aR (zk 1)<|sI 1) zA)) zA) [.val (jW p m w wd T),.val (jW p m w wd' T')]=aa [jW p m w wd T,jW p m w wd' T',noJ m w wd wd']:=by
 have o:=jm;have I u:(∀k,u k<=400)->∀k,dW w u k<=400/\dv w u k<=400:=λJ k=>by rw[<-IG,<-FX];have:=J<|vx w k;have:=J<|wN w k;lia
 have Z:eL 3 2=aa 2:=rfl;have a:zM (.tp [0,1]) jh (zD vW<|za (aR (zk 0)<|sI 1)<|za (aR (zk 1)<|sI 1) zA) [Cell.no,Cell.no] ((aT m).map λk=>D.tup [yO w wd T k,yO w wd' T' k])=aa (uC m w wd wd' λq q q=>0):=by
  erw[uC];show zq _ _ λk l=>zu rfl rfl ?_;have i:qg (yO w wd T k)=aa _:=rfl;have j:qg (yO w wd' T' k)=aa _:=rfl;have r:vW [qJ (dW w wd k) (dv w wd k) (T k),qJ (dW w wd' k) (dv w wd' k) (T' k)]=aa (.val<|qJ (dW w wd k) (dv w wd' k) λq q=>0):=by
   have b:dW w wd k<=lim:=by have:=(I wd O k).1;lia
   have d:dv w wd' k<=lim:=by have:=(I wd' Y k).2;lia
   have g:∀h w f,qg (qJ h w f)=aa _:=λq q q=>rfl;simp[vW,jq,z9,g,zin b d]
  simp_all
 have z:Vk (qT m w wd T) (qT m w wd' T')=(aT m).map λk=>D.tup [yO w wd T k,yO w wd' T' k]:=by erw[Vk,qT];rw[B0];simp
 have e:((aT m).map λk=>D.tup [yO w wd T k,yO w wd' T' k]).length<=lim:= ~~~()
 simp?[ku,AQ,mx,AR,Ju,Ot,Ln,ic,Wk,Ms,Ti,ng,Ox,ub,Nat.reduceAdd,wt,YV,dU,tW,bS p m w wd T,bS p m w wd' T',hJ,Z,zj8,z,e,if_true];rw[show jj 2 [] _=[Cell.no,Cell.no]from rfl,a];rfl
end
section
variable{P:Str}{R a b c:D}{X:zn D}
theorem JH(e:F M=aa (.ret r)):zV F G M=aa (.ret r):=by rw[jf,e];rfl
theorem in5(z):oW.map (λP=>BL (zf 1) (zU (zJ (.tup [.str "row",.str "beside",.str "ways",.str "upon",.str "alike"]))) [z,.val (.str P)])=oW.map λq=>aa (.bl ae):=by kernel_rfl
theorem Wg(z:P∈oW)(I:X ≠ []):qd [.lst (.str P::X)]=aa (.val<|.bl ae):=by
 have b:1<pT X+1:=by grind
 have a:1<(pT X:Int)+1:=()
 show ji<|zG (γ':=[.val (.lst (.str P::X)),.val (.str P)]) ?_ ?_
 .simp[z9,cK,eL]
 .refine JH ?_
  rw[Kg];have:sB (BL (zf 1) (zU (zJ (.tup [.str "row",.str "beside",.str "ways",.str "upon",.str "alike"])))) [.val (.lst (.str P::X)),.val (.str P)]=aa ae:=by erw[sB];rw[(lD (in5 (.val (.lst (.str P::X)))) z)];rfl
  rw[this];simp[a]
def Pk:Str->Bool:=λP=> !(P == "row" || P == "beside")
theorem e'(z c1 e):oW.map (λP=>sB (q9 (zJ (.str P)) (zU (zJ (.tup [.str "row",.str "beside",.str "cut",.str "mirror",.str "opposite",.str "about",.str "split"])))) [z,c1,e])=oW.map λP=>aa (Pk P):=by kernel_rfl
theorem lK(z c1)(P)(X):aR (zk 2) (sI 0) [z,c1,.val (.lst (.str P::X))]=aa (.str P):=by simp[eL]
theorem vi(e:F M=aa (.next γ')):vz eR F H M=H γ':=by erw[vz,eR];simp[e]
theorem EN(z:P∈oW)(I:X ≠ [])(J:j7 (vD (zf 1) (zJ (.str " "))) [.no,.val l,.no]=aa (.lst (.str P::X))):vR [.tup [a,b,c],l]=if Pk P then qa [.tup [a,b,c],.lst (.str P::X)]else kN [.tup [a,b,c],.lst (.str P::X)]:=by
 have d:sB (q9 (aR (zk 2) (sI 0)) (zU (zJ (.tup [.str "row",.str "beside",.str "cut",.str "mirror",.str "opposite",.str "about",.str "split"])))) [.no,.val l,.val (.lst (.str P::X))]=aa (Pk P):=by show Eq.trans ?_ (lD (e' .no (.val l) (.val (.lst (.str P::X)))) z);erw[sB,q9];rw[lK];rfl
 change(j7 _ _).bind _=_;simp?[J,dU];have tA:jY (sB<|zD qd<|za (zf 2) zA) [.no,.val l,.val (.lst (.str P::X))]=aa aF:=by simp[jY,(Wg z I)]
 simp?[tA,dU,DY i4];change(aa aF).bind _=_;rw[dU,DY i4,d];rfl
theorem kJ(z:G M=af)(e:F M=aa (.next γ')):vz G F H M=H γ':=by erw[vz];simp[z,e]
theorem JB(z:G M=aa e):vz G F H M=aa e:=by erw[vz];simp[z]
theorem Wv{K:CO Xn}(z:ju [W]=aa (.val row))(I:G [R,row]=aa e):ba (qF G<|za (zf 0)<|za (zD ju<|za (zf 1) zA) zA) K (.val R :: .val W::r)=aa e:=by erw[ba,qF];simp[z,I]
theorem Ws(z:k M=aa ae)(I:G M=aa e):gU k G H M=aa e:=by erw[gU];simp[z,I]
theorem Wi(z:ju [.lst (.str "beside" :: X)]=aa (.val row))(I:Jv [R,row]=aa e):kN [R,.lst (.str "beside" :: X)]=aa e:=by let a:Ctx:=[.val R,.val (.lst (.str "beside" :: X)),.val (.str "beside"),.no];erw[kN,ZE];rw[vi (γ':=a) (by simp[z9,cK,eL,a]),kJ (γ':=a) (by kernel_rfl) (by kernel_rfl)];show JB (Ws (by kernel_rfl) (Wv z I))
theorem EI(z:ju [.lst (.str "ways" :: X)]=aa (.val row))(I:xW [R,row]=aa e):qa [R,.lst (.str "ways" :: X)]=aa e:=by let a:Ctx:=[.val R,.val (.lst (.str "ways" :: X)),.val (.str "ways")];erw[qa,ZE];rw[vi (γ':=a) (by simp[z9,cK,eL,a]),vi (γ':=a) (by kernel_rfl),kJ (γ':=a) (by kernel_rfl) (by kernel_rfl),vi (γ':=a) (by kernel_rfl)];show JB (Ws (by kernel_rfl) (Wv z I))
theorem EJ(z:ju [.lst (.str "upon" :: X)]=aa (.val row))(I:yP [R,row]=aa e):qa [R,.lst (.str "upon" :: X)]=aa e:=by let a:Ctx:=[.val R,.val (.lst (.str "upon" :: X)),.val (.str "upon")];erw[qa,ZE];rw[vi (γ':=a) (by simp[z9,cK,eL,a]),vi (γ':=a) (by kernel_rfl),kJ (γ':=a) (by kernel_rfl) (by kernel_rfl),vi (γ':=a) (by kernel_rfl),kJ (γ':=a) (by kernel_rfl) (by kernel_rfl)];show JB (Ws (by kernel_rfl) (Wv z I))
theorem AW(z:ju [.lst (.str "alike" :: X)]=aa (.val row))(I:yQ [R,row]=aa e):qa [R,.lst (.str "alike" :: X)]=aa e:=by let a:Ctx:=[.val R,.val (.lst (.str "alike" :: X)),.val (.str "alike")];erw[qa,ZE];rw[vi (γ':=a) (by simp[z9,cK,eL,a]),vi (γ':=a) (by kernel_rfl),kJ (γ':=a) (by kernel_rfl) (by kernel_rfl),vi (γ':=a) (by kernel_rfl),kJ (γ':=a) (by kernel_rfl) (by kernel_rfl),kJ (γ':=a) (by kernel_rfl) (by kernel_rfl)];show Wv z I
end
def Ref(R:D)(l wd:Str)(n:Int):Prop:=jv [R,.str l,.str wd,.int n]=aa (.bl ae)
theorem bX(e:c = "Unlike"\/c = "TooMany")(h:vR [R,.str l]=aa (c,af)):Ref R l c 0:=by erw[Ref,jv,RM];dsimp only;rw[h];rcases e with rfl|rfl<;>kernel_rfl
def oV:zn Str:=["beside","ways","upon","alike"]
section
variable{p q:Int}{m n:Nat}{w v:DV}{wd ud:DX}{T U:DQ}{P:Str}
theorem iw(I:P∈oV)(B:q=2\/q=3\/q=5\/q=7)(H:m<=5)(e:n<=5)(J:∀k i j,0<=U k i j/\U k i j<q)(h:∀k,ud k<=30)(hs:zN (λk=>(ud k)) (n+1)<=30)(Z:¬(p=q/\pj m n w v)):
 Ref (jW p m w wd T) ((P++jV 32)++xD q n v ud U) "Unlike" 0:=by
 have b:P∈oW:=eV _ I;have a:ju [.lst (.str P::(qh q v ud U n).map D.str)]=_:=wa B e J h hs;have O:=zhv (wd:=wd) (wd':=ud) (T:=T) (T':=U) () () Z;show bX (.inl rfl)<|(EN b (λz=>by have:=congrArg pT z;rw[f7,jR]at this;simp at this)<|Xf b B e (λk i j=>((J k i j).1,by have:=(J k i j).2;lia)) h .no .no).trans ?_;have Y:=O;simp?[oV,d8,M8,or_false]at I;rcases I with rfl|rfl|rfl|rfl
 .exact Wi a<|JB O
 .rw[DJ (by rfl)]
  show EI a Y
 .rw[DJ (by rfl)]
  show EJ a Y
 .rw[DJ (by rfl)]
  show AW a O
theorem NF(B:q=2\/q=3\/q=5\/q=7)(e:m<=5)(I:∀k i j,0<=U k i j/\U k i j<q)(H:∀k,wd k<=30)(h:∀k,ud k<=30)(hs:zN (λk=>(ud k)) (m+1)<=30)(J:30<zN (λk=>(wd k)) (m+1)+zN (λk=>(ud k)) (m+1)):
 Ref (jW q m w wd T) (("beside" ++ jV 32)++xD q m w ud U) "TooMany" 0:=by
 have a:("beside" : Str)∈oW:=by decide +kernel
 let(O,Y):=AJ (m:=m) ();show bX (.inr rfl)<|(EN a (λz=>by have:=congrArg pT z;rw[f7,jR]at this;simp at this)<|Xf a B e (λk i j=>((I k i j).1,by have:=(I k i j).2;lia)) h .no .no).trans ?_;show Wi (wa B e I h hs) ?_;show(kJ (M:=[_,_]) (γ':=[.val (jW q m w wd T),.val (jW q m w ud U)]) O<|by simp[Y,rT]).trans ?_;erw[qF];rw[(Ii (p:=q) (m:=m) (w:=w) (T:=T) (T':=U) () (λk=>et (H k) ())<|λk=>et (h k) ())];show(By () J)
end
section
variable{w:DV}{T:DQ}
theorem rh(h w f):qg (qJ h w f)=aa (.T,[.int (h:Int),.int (w:Int),.tup (jy h w f)]):=rfl
theorem zjE(h w f):(jy h w f).length=h:=by simp[jy]
theorem zh1(s w)(f:DW):jy (s+1) w f=jy s w f++[.tup (zZ w<|f s)]:=iP _ _
end
theorem pW(f g:DW)(e:0<p)(B:h<=400)(H:m<=400)(S:w<=400)(Y:∀i j,i<m->j<w->0<=g i j/\g i j<100):
 xp [.int p,qJ h m f,qJ m w g]=aa (.val<|qJ h w λi j=>zN (λk=>f i k*g k j) m%p):=by
 have E:=jm;have I:m<=lim:=()
 have J:w<=lim:=()
 have O:=rh m w g;let M:Cell->Cell->Cell->Ctx:=λa b c=>[vI p,.val<|qJ h m f,.val<|qJ m w g,a,b,c];let N:D:=.lst (Ip w m λj k=>g k j);let R:=λi j=>zN (λk=>f i k*g k j) m%p;have l j:j<w->zM (.nm 0) jh (aR (zk 0)<|zf 1) [Cell.no,vI j] (jy m w g)=aa (zZ m λk=>g k j):=λz=>by rw[je];erw[jy];show zq _ _ λi C=>zu rfl rfl (by simp[z,zZ])
 have o:zM (.nm 0) jh (j7<|zL (zT<|zU<|aR (zk 1)<|sI 2) (.nm 0) 1 [0] jh (aR (zk 0)<|zf 1)) [Cell.no,Cell.val (qJ m w g)] (zZ w λi=>i)=aa (Ip w m λj k=>g k j):=by erw[Ip];show zq _ _ λj z=>zu rfl rfl (by simp[O,eL,I,jj,l j (dy.mp z)])
 have u:Sh (z9 6 [.int p,qJ h m f,qJ m w g])=aa (.next<|M (.val N) .no .no):=by have Z:inR w:=yb () ();simp[Sh,z9,cK,O,eL,Z,qo,J,jj,o,M,N]
 have r i:zM (.nm 0) jh (zF kM (Ly<|z7<|zL (WM (zf 2)<|zf 0) (.tp [0,1]) 2 [] jh (zF wM (zf 0)<|zf 1))<|zf 1) [Cell.no,vI p,Cell.val (.tup<|zZ m<|f i)] (Ip w m λj k=>g k j)=aa (zZ w<|R i):=by
  rw[je w];erw[Ip];show zq _ _ λj z=>zu rfl rfl ?_;have t:zM (.tp [0,1]) jh (zF wM (zf 0)<|zf 1) [Cell.no,Cell.no] ((aT m).map λk=>D.tup [.int (f i k),.int (g k j)])=aa (zZ m λk=>f i k*g k j):=by
   show zq _ _ λk d=>zu rfl rfl (by
    have b:=Y k j (dy.mp d)<|dy.mp z;have c:pd (f i k) (g k j):=mj _ _ () ();simp[c])
  simp[(JA m (f i) λk=>g k j),I,jj,t,vC _ m,e,R]
 let(v,q,A,rfl):=Zm (T:=.nm 5) (F:=ltB) (g:=λi=>D.tup<|zZ m<|f i) (λs y=>∃c,y=M (.val N) (.own<|jy s w R) c) h (_,rfl) (by
  rintro s G _ ⟨c,rfl⟩;have x:s<lim:=()
  show(_,M (.val N) (.own<|jy (s+1) w R)<|.val<|.tup<|zZ m<|f s,rfl,by simp[ltB,M,N,J,jj,r,zjE,x,zh1],_,rfl))
 rw[xp];show ji (zG u (zG rfl (zG (by
  assumption) (by rfl))))
theorem gR(b:Bool):cO (.str (jV (el b))) (.str "r")=aa (.bl (!b)):=by cases b<;>kernel_rfl
section
variable{p:Int}{m:Nat}{w:DV}{wd:DX}{T f g:DQ}
abbrev LD(p:Int)(m:Nat)(w:DV)(wd:DX)(T f g:DQ)(c6 c7 c8 c9 c10:Cell):Ctx:=[.val (jW p m w wd T),.val (.lst (QO (m+1) wd f)),.val (.lst (QO (m+1) wd g)),vI p,.val (.tup (zZ (m+1) λk=>(wd k:Int))),.val (.tup (qT m w wd T)),c6,c7,c8,c9,c10]
theorem zj6(h:k<n)(wd)(f):(QO n wd f)[k]? = aa (qJ (wd k) (wd k)<|f k):=by erw[QO];simp[h]
theorem zjv(H:0<p)(U:p<=7)(S:m<=5)(I:∀k,wd k<=60)(O:∀k i j,k<m->i<dW w wd k->j<dv w wd k->0<=T k i j/\T k i j<p)(Y:∀k i j,k<m+1->i<wd k->j<wd k->0<=g k i j/\g k i j<p):
 qW [jW p m w wd T,.lst<|QO (m+1) wd f,.lst (QO (m+1) wd g)]=aa (.val<|jW p m w wd<|fD p w wd f g T):=by
 have N:=jm;have Z:2<=lim:=()
 let V:=fD p w wd f g T;let M:=LD p m w wd T f g;show aU λC=>?_;let(v,q,o,r,l,d,rfl):=Zm (T:=.tp [7,8]) (F:=P2) (g:=λk=>D.tup [.int k,yO w wd T k]) (λs e=>∃o r l d,e=M (.own<|qT s w wd V) o r l d) m (_,_,_,_,rfl) (by
  rintro s A _ ⟨o,r,l,d,rfl⟩;have B:=AF w A;have t:qg (yO w wd T s)=aa (.T,[.str (jV<|el<|w s),qJ (dW w wd s) (dv w wd s) (T s)]):=rfl;have K:s<lim:=()
  have γ:=I<|vx w s;have L:=I<|wN w s;have u:=ZX w wd s;have x:=JC w wd s;have E:=pW (h:=wd<|vx w s) (m:=wd<|vx w s) (w:=wd<|wN w s) (f<|vx w s) (T s) H () () () λi j y z=>by have:=O s i j A (by rw[u];show y) (by rw[x];show z);lia
  have J:=pW (h:=wd<|vx w s) (m:=wd<|wN w s) (w:=wd<|wN w s) (λi b=>zN (λa=>f (vx w s) i a*T s a b) (wd<|vx w s)%p) (g<|wN w s) H () () () λi j y z=>by have:=Y (wN w s) i j B y z;lia
  rw[show(λi j=>zN (λb=>(zN (λa=>f (vx w s) i a*T s a b) (wd<|vx w s)%p)*g (wN w s) b j) (wd<|wN w s)%p)=V s by
   funext i j;simp?[V,fD,ue]]at J
  let e:=M (.own<|qT s w wd V) (vI s)<|.val<|yO w wd T s;show(e l d,M (.own<|qT (s+1) w wd V) (vI s) (.val<|yO w wd T s) (vI<|wN w s)<|.val<|.int<|vx w s,rfl,zG (γ':=e (vI<|wN w s) d) ?_ (zG (γ':=e (vI<|wN w s)<|.val<|.int<|vx w s) ?_ ?_),_,_,_,_,rfl)
  .rw[<-(AE w s)]
   simp[e,M,LD,t,eL,FJ]
  .rw[<-(IM w s)]
   simp[e,M,LD,t,eL,gR]
  .rw[AK,show yO w wd V s=.tup [.str (jV<|el<|w s),qJ (wd<|vx w s) (wd<|wN w s) (V s)]by erw[yO];rw[u,x]]
   simp[e,M,LD,t,k9,show eL 2 0=aa 0 from rfl,show eL 2 1=aa 1 from rfl,Ae w A,B,zj6,u,x,E,J,Z,K])
 show C ?_;have G:TZ (M (.own []) .no .no .no .no)=aa (.next<|M (.own<|qT m w wd V) o r l d):=by change Kj _ _ P2 _=_;simp?[Y2,show bL (zf 5) (M (.own []) .no .no .no .no)=aa ((aT m).map λ(k:Nat)=>D.tup [.int k,yO w wd T k])from congrArg aa (vO m _)];show q
 rw[qW];show ji (zG rfl<|zG rfl<|zG G<|by rfl)
end
abbrev TB:=Nat×Nat×(Nat->Nat->Int)
theorem zjM(bs):f6 (.lst<|jw bs):=cX (n:=2) (by
 simp?[deep];have:oA (jw bs)<=1:=Ks λd a=>by simp?[jw,eU]at a;let(b,q,rfl):=a;simp[deep,oA]
 lia) () (by
 simp?[ff];show ag λd a=>by simp?[jw,eU]at a;let(b,q,rfl):=a;rfl)
def d0T:TB:=(0,0,λ_ _=>0)
section
variable{ts:zn TB}
def fT(ts:zn TB)(k:Nat):Nat->Nat->Int:=(ts.getD k d0T).2.2
end
def F':=(zV (jT 7<|zD jD<|za (zf 0)<|za (zF qM (zf 1)<|zf 6) zA)<|zV (jT 8<|zF kM (zf 7)<|zf 3)<|zV (jT 9<|zF kM (zF Vz (zf 7)<|zf 3)<|zf 3)<|zV (jT 10<|zF qM (sI 1)<|zF kM (zF Vz (zf 7)<|sI 97)<|zF Vj (zf 2)<|sI 1) Dz)
theorem GK:E'=Kj (jE<|zF wM (sI 3)<|zf 3) (.nm 6) F':=rfl
section
variable{p:Int}{n:Nat}
theorem zj0(S:Pr p)(U:n<=60)(h:Pair p n f g)(I:u<n)(Y:o<n)(ht:1<=tm/\tm<p)(e B H W a8:Cell):
 ∃f' g' am an,Pair p n f' g'/\Dz [e,B,vI p,vI n,.own<|kh n f,.nest<|vm n g,H,vI cell,vI u,vI o,vI tm,W,a8,.no,.no]=aa (.next [e,B,vI p,vI n,.own<|kh n f',.nest<|vm n g',H,vI cell,vI u,vI o,vI tm,am,an,.no,.no]):=by
 have X:=jm;have U:n<=lim:=()
 have d:=S.pos;have p7:=S.le;have one:=S.one;have m:∀z:Int,0<=z%p/\z%p<p:=λz=>(la _ (),l7 _ d);have s x:pd tm x=ae:=ZY _ _ () ();by_cases l:u=o
 .subst l
  have y:zM (.nm 0) (sB<|zF cO (zF kM (zF wM (zf 0)<|zf 2)<|zf 1)<|sI 1) (zf 0) [Cell.no,vI p,vI tm] (zZ p.toNat λi=>(i:Int))=aa (((aT p.toNat).filter λ(i:Nat)=>decide<|(i:Int)*tm%p=1).map λ(i:Nat)=>D.int (i:Int)):=by rw[je];show jM _ _ _ λi a=>(_,rfl,?_,λv=>rfl);have L:=dy.mp a;simp[ZY i tm () (),d]
  let(znS,M,N,P):=Fy S () ht.2;cases hg:(aT p.toNat).filter λ(i:Nat)=>decide (i*tm%p=1)with
  |nil=>
   simp_all
  | cons b Q=>
   let(R,E,v):=XO hg;rw[hg]at y;have A:= ~~~E
   have T:=()
   show(λi j=>if i=u then tm*f u j%p else f i j,λi j=>if j=u then g i u*b%p else g i j,vI b,.no,(λi j a J=>?_,λi j a J=>?_,?_,?_),?_)
   .split
    show m _;show h.bf i j a J
   .split
    show m _;show h.bg i j a J
   .refine ziK (u:=u) (by rw[ue,A,one]) h.fg (λi k v v=>?_) (λk j v v=>?_)<;>split<;>simp_all[ue]
   .refine zhM (u:=u) (by rw[A,one]) h.gf (λi k v v=>?_) (λk j v v=>?_)<;>split<;>simp_all[ue]
   .have r:zM (.nm 0) jh (zF kM (zF wM (zf 2)<|zf 0)<|zf 1) [Cell.no,vI p,vI tm] (zZ n<|f u)=aa (zZ n λj=>tm*f u j%p):=by
     simp?[je,je];show zq _ _ λj J=>zu rfl rfl (by simp[s,d])
    have w:∀Z:Cell,vb 5 12 (zf 8) (zF kM (zF wM (aR (zk 12)<|zf 8)<|zf 11)<|zf 2) [e,B,vI p,vI n,Z,.nest<|vm n g,H,vI cell,vI u,vI u,vI tm,vI b,a8,.no,.no] (vm n g)=aa (vm n λi j=>if j=u then g i u*(b:Int)%p else g i j):=λZ=>by
     erw[vm];show Xm _ λk C=>(.int<|g k u*b%p,u,u,?_,rfl,?_,YR I _ _ _ () λi v O=>by simp[O])
     .have q:=h.bg k u (dy.mp C) I
      simp[wI,I,ZY (g k u) b () (),d]
     .simp[I]
    have F:inR p=ae:=yb () ();have K:p.toNat<=lim:=()
    simp[Dz,F_,jf,I,U,jj,cK,r,bR I f (λi j=>if i=u then tm*f u j%p else f i j) (λj=>tm*f u j%p) (λj v=>by simp) (λi j v O v=>by simp[O]),w,F,qo,K,y]
 .refine(λi j=>if i=o then (f o j+tm*f u j)%p else f i j,λi j=>if j=u then (g i u-tm*g i o)%p else g i j,W,.no,(λi j a J=>?_,λi j a J=>?_,?_,?_),?_)
  .split
   show m _;show h.bf i j a J
  .split
   show m _;show h.bg i j a J
  .refine Bs (t:=tm) Y I (dh l) h.fg (λi k v v=>?_) (λk j v v=>?_)<;>split<;>simp_all[Int.sub_eq_add_neg,Int.neg_mul]
  .refine zjZ (t:=tm) Y I (dh l) h.gf (λi k v v=>?_) (λk j v v=>?_)<;>split<;>simp_all[Int.sub_eq_add_neg,Int.neg_mul]
  .have r:zM (.tp [0,1]) jh (zF kM (zF qM (zf 0)<|zF wM (zf 3)<|zf 1)<|zf 2) [Cell.no,Cell.no,vI p,vI tm] ((aT n).map λj=>D.tup [.int (f o j),.int (f u j)])=aa (zZ n λj=>(f o j+tm*f u j)%p):=by
    rw[je];show zq _ _ λj J=>zu rfl rfl (by simp[s,d])
   have w:∀Z:Cell,vb 5 12 (zf 8) (zF kM (zF Vj (aR (zk 12)<|zf 8)<|zF wM (zf 10)<|aR (zk 12)<|zf 9)<|zf 2) [e,B,vI p,vI n,Z,.nest<|vm n g,H,vI cell,vI u,vI o,vI tm,W,a8,.no,.no] (vm n g)=aa (vm n λi j=>if j=u then (g i u-tm*g i o)%p else g i j):=λZ=>by
    erw[vm];show Xm _ λk C=>(.int<|(g k u-tm*g k o)%p,u,u,?_,rfl,?_,YR I _ _ _ () λi v O=>by simp[O])
    .simp[wI,I,Y,s,d]
    .simp[I]
   have G:¬((u:Int)=(o:Int)):=()
   simp[Dz,E_,jf,l,G,I,Y,U,jj,cK,JA,r,bR Y f (λi j=>if i=o then (f o j+tm*f u j)%p else f i j) (λj=>(f o j+tm*f u j)%p) (λj v=>by simp) (λi j v O v=>by simp[O]),w]
end
section
variable{p:Int}{n:Nat}
theorem Mc(S:ns.length<=63)(B:Pr p)(hn:n<=60)(h0:0<=at')(h1:at'<=10000):
 ∃f g,Pair p n f g/\xY [aG ns,.int at',.int p,.int n]=aa (.own [qJ n n f,qJ n n g]):=by
 have hl:=jm;have J:n<=lim:=()
 have p0:=B.pos;have two:=B.two;have p7:=B.le;have one:=B.one;have E:∀i:Nat,zM (.nm 0) jh (QS<|zF cO (zf 1)<|zf 0) [Cell.no,vI i] ((aT n).map λ(j:Nat)=>D.int j)=aa (zZ n<|kb i):=λi=>by
  rw[je];show zq _ _ λj hj=>zu rfl rfl ?_;by_cases e:i=j
  .subst e;simp[kb]
  .have zhq:¬((i:Int)=(j:Int)):=()
   simp[kb,e,zhq]
 have b6:zM (.nm 0) jh (j7<|zL (jE<|zf 1) (.nm 0) 1 [0] jh (QS<|zF cO (zf 1)<|zf 0)) [Cell.no,vI n] ((aT n).map λ(j:Nat)=>D.int j)=aa (kh n kb):=by erw[kh];show zq _ _ λi C=>zu rfl rfl ?_;simp[J,qo,jj,cK];rw[je n λi=>i,E]
 have P:Jt (.nm 0) (zL (jE<|zf 1) (.nm 0) 1 [0] jh (QS<|zF cO (zf 1)<|zf 0)) [Cell.no,vI n] ((aT n).map λ(j:Nat)=>D.int j)=aa (vm n kb):=by erw[vm];show dS _ λi C=>(_,rfl,?_);simp[J,qo,jj,cK];rw[je n λi=>i,E]
 let M:Cell->Cell->Cell->Cell->Cell->Cell->Cell->Cell->Cell->Cell->Cell->Ctx:=λa b c d e f g h i j k=>[.val (aG ns),vI at',vI p,vI n,a,b,c,d,e,f,g,h,i,j,k];have s2:SU (M (.own<|kh n kb) .no .no .no .no .no .no .no .no .no .no)=aa (.next<|M (.own<|kh n kb) (.nest<|vm n kb) .no .no .no .no .no .no .no .no .no):=by simp[SU,J,qo,jj,cK,M];simp?[je n λi=>i,P];rfl
 have X:pd 3 (n:Int)=ae:=ZY _ _ () ();show aU λkZ=>?_;let(q,L,f,g,A,y,x,s,l,z,I,O,rfl):=V8 (T:=.nm 6) (F:=F') (f:=zF wM (sI 3)<|zf 3)
  (λt w=>∃f g A y x s l z I,Pair p n f g/\w=M (.own<|kh n f) (.nest<|vm n g) A y x s l z I .no .no)
  (3*n) () (by
    have:((3*n:Nat):Int)=3*(n:Int):=()
    rw[this];simp[X,M]) (kb,kb,_,_,_,_,_,_,_,by
  have b:∀i j:Nat,i<n->j<n->0<=kb i j/\kb i j<p:=λi j q q=>by erw[kb];split<;>lia
  have u:AY p n kb kb:=λi j C hj=>by rw[qx C λk q Q=>by erw[kb];rw[DY (dh Q)];simp];simp[kb]
  show(b,b,u,u),rfl) (by
   rintro t ht _ ⟨f,g,A,y,x,s,l,z,I,O,rfl⟩;have K:(0:Int)<(n:Int):=()
   let(H,N,W):=YU S (k:=at'+(t:Int)) () ();generalize J7 ns (at'+t)=cell at H N W;let(u,zhJ,hu):=V4 (m:=cell) (n:Int) K;let(o,zhH,ho):=V4 (m:=cell/(n:Int)) (n:Int) K;have bb:=la (cell/97) (():p-1≠0);have bd:=l7 (cell/97) (():0<p-1);let(f',g',be,bf,R,es):=zj0 B hn O (u:=u) (o:=o) (tm:=1+cell/97%(p-1)) (cell:=cell) () () () (.val<|aG ns) (vI at') (.val<|.int t) z I;have G:0<n:=()
   have nb:(n:Int)<1073741824:=()
   have pm:1<p:=()
   let w:Cell->Cell->Cell->Cell->Ctx:=λa b c d=>M (.own<|kh n f) (.nest<|vm n g) (vI t) a b c d z I .no .no;show(w y x s l,_,rfl,zG (γ':=w (vI cell) x s l) (by simp[w,M,H])<|zG (γ':=w (vI cell) (.val<|.int u) s l) (by simp[w,M,G,zhJ])<|zG (γ':=w (vI cell) (.val<|.int u) (vI o) l) (by simp[w,M,G,nb,zhH])<|zG (γ':=w (vI cell) (.val<|.int u) (vI o)<|.val<|.int<|1+cell/97%(p-1)) (by simp[w,M,pm]) es,f',g',_,_,_,_,_,_,_,R,rfl))
 show kZ ?_;rw[<-GK]at L;show(f,g,O,?_);have U:∀h:DW,zM (.nm 0) jh (jk<|zk 0) [Cell.no] (kh n h)=aa (jy n n h):=λh=>by erw[kh,jy];show zq _ _ λi C=>zu rfl rfl ?_;simp
 have γ:∀(r:zn D) (h:DW) (Y Z:Cell),r.length<=1->(jQ 13<|qf<|za (zf 3)<|za (zf 3)<|za (jk<|z7<|zL (zT<|zk 14) (.nm 0) 1 [] jh (jk<|zk 0)) zA) (M Y Z A y x s l z I (.own r)<|.val<|.lst<|kh n h)=aa (.next<|M Y Z A y x s l z I (.own<|r++[qJ n n h])<|.val<|.lst<|kh n h):=λr h Y Z ha=>by
  have ziw:r.length<lim:=()
  have rl:(kh n h).length<=lim:=by rw[zkI];lia
  have l3:3<=lim:=()
  simp[M,rl,J,jj,U,l3,ziw,qJ]
 rw[xY];show ji (zG (by
  simp[D_,z9,J,qo,jj,cK,M];assumption) (zG s2 (zG L (zG rfl (zG (by
  change vM (.nm 14) _ [.lst (kh n f),.lst ((vm n g).map D.lst)] (M (.val<|.lst<|kh n f) (.val<|.lst<|(vm n g).map D.lst) A y x s l z I (.own []) .no)=_;rw[zkH,ko];change D4 (jQ 13 _<|M _ _ A y x s l z I (.own [])<|.val<|.lst<|kh n f) _=_;rw[γ [] f _ _ ()];change D4 (jQ 13 _<|M _ _ A y x s l z I (.own [qJ n n f])<|.val<|.lst<|kh n g) _=_;rw[γ [qJ n n f] g _ _ (cV 1)];rfl) rfl)))))
end
def di(bs:zn (Int×Int))(k:Nat):Nat:=(qY bs k).length
def js(w:DV)(bs:zn (Int×Int))(k i j:Nat):Int:=if (qY bs<|vx w k).getD i 0=(qY bs<|wN w k).getD j 0 then 1 else 0
theorem zkq(e b:zn Nat):Mh e b=qJ (pT e) (pT b) λi j=>if e.getD i 0=b.getD j 0 then 1 else 0:=by
 have h:∀{a:Type} (g:Nat->a) (l:zn Nat),l.map g=(aT (pT l)).map λi=>g _:=λg l=>by
  conv=>lhs;rw[<-j4 0 l]
  rw[gw];rfl
 erw[Mh,qJ,jy,zZ]
 grind
theorem FP(p)(m)(w)(bs):BR p m w bs=jW p m w (di bs) (js w bs):=by
 have e:aM m w bs=qT m w (di bs) (js w bs):=by erw[aM,qT];show mX λk q=>?_;rw[zkq];erw[yO];simp?[ZX,JC];rfl
 erw[BR,jW];rw[e];rfl
theorem Bw(e:0<p)(w)(wd)(f g T)(k i j):0<=fD p w wd f g T k i j/\fD p w wd f g T k i j<p:=
 (la _ (),l7 _ e)
section
variable{p:Int}{m:Nat}{w:DV}{wd:DX}{T:DQ}{bs:zn (Int×Int)}
theorem BS(p m w wd T):jW p m w wd T=RL (.int p) (λk=>(wd k)) (λk=>qJ (dW w wd k) (dv w wd k)<|T k) ((aT m).map w):=by
 erw[jW,RL];have e:qT m w wd T=((aT m).map w).zipIdx.map λa=>D.tup [.str (jV<|el a.1),qJ (dW w wd a.2) (dv w wd a.2) (T a.2)]:=by erw[qT];show _a () λi b d=>?_;simp[yO]
 simp?[e,f7,pM]
theorem NA(j:m<=4)(e:a∈Fo ((aT m).map w)):Ref (jW p m w wd T) a.1 a.2.1 a.2.2:=by rw[BS];show lD (Sb _ _ _) (a:=((aT m).map w,a))<|Z'.mpr (_,o5.mpr (zln (by simp;lia),by simp;lia),eU.mpr (a,e,rfl))
theorem Le(e:Pr p)(w)(bs):∀k i j,0<=js w bs k i j/\js w bs k i j<p:=λk i j=>by have:=e.two;erw[js];split<;>lia
theorem rq(e:m<=5)(h:∀k,wd k<=5):zN (λk=>(wd k)) (m+1)<=30:=by
 have:∀n,zN (λk=>(wd k)) n<=5*n:=λn=>by
  induction n with
  |zero=>simp[zN]
  |succ n z=>have:=h n;simp?[zN];lia
 have:=this<|m+1;lia
theorem GS{u:DX}(I:r<n)(h:1<=u r):1<=zN (λk=>(u k)) n:=by
 induction n with
 |zero=>lia
 | succ n z=>
  simp?[zN];have a n:0<=zN (λk=>(u k)) n:=by
   induction n with
   |zero=>simp[zN]
   |succ n z=>simp?[zN];lia
  grind
theorem Oo(e:∀b∈bs,OE ((m+1:Nat)) b)(z:bs ≠ []):1<=zN (λk=>(di bs k)) (m+1):=by
 cases bs with
 |nil=>show absurd rfl z
 |cons b r=>
  let(a,d,f):=e b fA;show GS (r:=b.1.toNat) () ?_;erw[di,qY];show List.length_pos_iff_exists_mem.mpr (0,o5.mpr (by simp,?_));rw[NC a];simp[CY];lia
theorem Ld{n r:Nat}(hs:bs.Perm (cK n (r,r)))(k:Nat):di bs k=if k=r then n else 0:=by
 have e:bs=cK n _:=List.eq_replicate_iff.mpr (by simp_all,λb a=>List.eq_of_mem_replicate<|hs.mem_iff.mp a);subst e;erw[di,qY];rw[R_];have g:∀i∈aT n,CY ((cK n _).getD i (0,0)) k=decide (k=r):=λi d=>by
  have:(cK n (Prod.mk (r:Int) (r:Int))).getD i (0,0)=Prod.mk (r:Int) (r:Int):=by rw[nc,Mr,DJ (dy.mp d)];rfl
  rw[this];erw[CY];by_cases h:k=r
  .subst h;simp
  .simp[h];lia
 rw[List.filter_congr g];by_cases h:k=r
 .rw[DJ h,_E.mpr λq q=>decide_eq_true h,pM]
 simp_all
theorem VM{u:DX}{r n:Nat}(h:∀k,u k=if k=r then 30 else 0):r<n->zN (λk=>(u k)) n=30:=by
 have z n:n<=r->zN (λk=>(u k)) n=0:=by
  induction n with
  |zero=>simp[zN]
  |succ n I=>intro a;simp?[zN];rw[I (),h n,DY ()];rfl
 induction n with
 |zero=>lia
 |succ n I=>
  intro a;simp?[zN];rw[h n];by_cases e:n=r
  .subst e;rw[z n (cV _),DJ rfl];rfl
  .rw[I (),DY e];rfl
end
def Y3(R:D)(L:zn D):Prop:=∀x∈L,∃l a n,x=.tup [.str l,.str a,.int n]/\Ref R l a n
theorem Kp(h:Y3 R L)(r:Ref R l wd n):Y3 R (L++[.tup [.str l,.str wd,.int n]]):=λx z=>by
 rcases l9.mp z with z|z
 .exact h x z
 .exact(l,wd,n,mY.mp z,r)
theorem PL(e:M[6]? = aa (.own L))(j:f M=aa d)(z:pT L<lim):jQ 6 f M=aa (.next<|M.set 6<|.own<|L++[d]):=SR e j z
theorem pU(e:f M=aa a)(z:g M=aa b)(I:h M=aa c):qf (za f<|za g<|za h zA) M=aa (.tup [a,b,c]):=by simp_all
section
variable{p:Int}{m:Nat}{w:DV}{wd:DX}{T:DQ}
theorem GN(e:∀i j,0<=f i j/\f i j<10):(iE h v f).length<=h*(v+1):=by
 rw[qK,pZ];have:=ZJ (c:=47) (n:=v) (l:=(aT h).map λi=>en<|dO v<|f i) λa b=>by let(i,q,rfl):=eU.mp b;rw[We (e i)];simp
 rwa [f7,pM]at this
theorem pN{n:Nat}(h:n<=30):(kU n).length<=2:=by
 have:∀i:Fin 31,(kU<|(i.val:Nat)).length<=2:=by decide +kernel
 show this (n,())
theorem ziS(e:p=2\/p=3\/p=5\/p=7)(B:m<=5)(I:∀k i j,0<=T k i j/\T k i j<10)(h:∀k,wd k<=30)(hs:∀k,dW w wd k*(dv w wd k+1)<=78):zO (xD p m w wd T):=by
 have J s:∀x∈qh p w wd T s,x.length<=80:=by
  induction s with
  |zero=>
   intro x z;simp?[qh,d8,M8,or_false]at z;rcases z with rfl|rfl
   .rcases e with rfl|rfl|rfl|rfl<;>decide +kernel
   .have:=pN<|h 0;lia
  | succ s O=>
   intro x z;rw[qh]at z;rcases l9.mp z with z|z
   .exact O x z
   .simp?[d8,M8,or_false]at z
    rcases z with rfl|rfl
    .have t:=GN (h:=dW w wd s) (v:=dv w wd s) (I s)
     have:=hs s;have o c:(jV c).length=1:=rfl;erw[Y0,bq];split<;>(rw[qK,yw,yw,mK,mK,<-qK,<-qK,<-qK,o,o];lia)
    .have:=pN<|h<|s+1;lia
 show decide_eq_true ?_;rw[qK];erw[xD];rw[qP];have:=ZJ (c:=32) λa b=>by let(x,z,rfl):=eU.mp b;rw[<-qK];show J m x z
 rw[f7,jR]at this;lia
theorem JJ(B:p=2\/p=3\/p=5\/p=7)(e:m<=5)(z:∀k i j,0<=T k i j/\T k i j<10)(h:∀k,wd k<=30)(hs:∀k,dW w wd k*(dv w wd k+1)<=70):zO (xD p m w wd T):=ziS B e z h λk=>et (hs k) ()
end
theorem MW:(P++(" " : Str))=P++jV 32:=by rw[yK]
theorem FE{R:D}{t:Str}(e:M[6]? = aa (.own L))(j:M[8]? = aa (.val (.str t)))(hs:zO t)(B:pT L<=100)(g:Y3 R L)(r:∀P∈oV,Ref R ((P++jV 32)++t) "Unlike" 0):
 ∃I,Y3 R I/\I.length=pT L+4/\K3 M=aa (.next<|M.set 6<|.own I):=by
 have d:=jm;let E:Str->D:=λP=>.tup [.str ((P++jV 32)++t),.str "Unlike",.int 0];have f:4<=lim:=()
 have O:oV.all (λP=>zO P&&zO (P++jV 32)):=by decide +kernel
 have b:zM (.nm 0) jh (qf (za (xQ (xQ (zf 0) (zJ (.str " "))) (zf 1)) (za (zJ (.str "Unlike")) (za (sI 0) zA)))) [.no,.val (.str t)] (oV.map D.str)=aa (oV.map E):=by show zq _ _ λP J=>zu rfl rfl ?_;have q:=k4.mp O P J;rw[eH]at q;show pU (Zt (Zt rfl rfl q.1 (by rfl)) rfl ?_ hs |>.trans (by rfl)) rfl rfl;rw[MW];show q.2
 have Y:jj 1 [8] M=[.no,.val (.str t)]:=by simp[jj,j]
 show(L++oV.map E,λx z=>?_,by simp[oV],?_)
 .rcases l9.mp z with z|z
  .exact g x z
  .let(P,J,rfl):=eU.mp z
   show(_,_,_,rfl,r P J)
 .have a:zT (z7 (qi (za (zJ (.str "beside")) (za (zJ (.str "ways")) (za (zJ (.str "upon")) (za (zJ (.str "alike")) zA)))))) M=aa (oV.map D.str):=by
   rfl
  erw[K3,fN];simp?[e,Ju,a];have Z:(oV.map D.str).length<=lim:=by assumption
  simp?[dU,Zs,Z,if_true];simp?[Y,b];simp?[dU];rw[DJ (by simp[oV];lia)]
section
variable{q:Int}{m:Nat}{w:DV}{T:DQ}{bs:zn (Int×Int)}
theorem FZ(m w):wG m w++("r")=wG (m+1) λk=>if k<m then w k else aF:=KH (by
 rw[yw];change(wG m w).cps.toList++en "r" = (wG (m+1) _).cps.toList;simp?[xH,xH,pX,nG];congr 1
 .simp_all
 .simp;decide +kernel)
set_option tactic.hygienic true in
theorem Ic(h:LI R x):∃t wd n,x=.tup [.str t,.str wd,.int n]/\∀P∈Dt,Ref R (P++t) wd n:=by
 erw[LI]at h;split at h
 .next t wd n=>
  show(t,wd,n,rfl,λP z=>?_);have:=k4.mp h P z;erw[NS]at this;split at this
  .next e=>show e
  lia
 lia
def A'(x:D):Bool:=match x with
 |.tup [.str t,_,_]=>zO t
 |_=>aF
theorem LZ:u6.all A':=by kernel_rfl
theorem GF:pT u6<=40:=by decide +kernel
theorem Lq(e:f M=aa (.int x))(z:x<=30):xQ (zJ (.str "about ")) (yd f) M=aa (.str (rf x)):=
 Zt rfl (Kh e () ()) (by rfl) (yu () ())
theorem Iq(hp:Pr q)(hm:m<=4)(hb:∀b∈bs,OE ((m+1:Nat):Int) b)(bf:bs.length<=4){c:Int}(c0:0<=c):
 ∃L:zn D,qC [.tup [.int q,.str<|wG m w,.lst (jw bs)],.int c]=aa (.own L)/\0<L.length/\L.length<=200/\Y3 (jW q m w (di bs) T) L:=by
 have hl:=jm;have Y:q=2\/q=3\/q=5\/q=7:=hp;let R:=jW q m w (di bs) T;let l:=(aT m).map w;have ll:l.length=m:=by simp[l]
 let M:zn D->Cell->Cell->Cell->Cell->Cell->Cell->Ctx:=λL a b d e f g=>[.val (.tup [.int q,.str<|wG m w,.lst (jw bs)]),vI c,vI q,.val<|.str<|wG m w,.val<|.lst<|jw bs,vI<|m+1,.own L,a,b,d,e,f,g];have nk:∀a∈Fo l,Ref R a.1 a.2.1 a.2.2:=λa ha=>NA hm ha;have w4 k:di bs k<=4:=et (K9 bs k) bf;have hs:=QM w (():m<=1000);let(x,hx,x1,x2):∃x:Nat,(m:Int)+1+c%(6-((m:Int)+1))=x/\m<x/\x<6:=by have p:=la c (show(6-((m:Int)+1))≠0 by lia);have Q:=l7 c (show 0<(6-((m:Int)+1))by lia);show(((m:Int)+1+c%(6-((m:Int)+1))).toNat,(),(),())
 let Z:zn D:=[.tup [.str (rf x),.str "NoRoom",.int x],.tup [.str ("cut " ++ kU ((m+1:Nat):Int) ++ " 0"),.str "NoRoom",.int ((m+1:Nat):Int)],.tup [.str "kept 0 5",.str "NoRoom",.int 5]];have g5:Y3 R Z:=λy hy=>by
  have z:y=.tup [.str (rf x),.str "NoRoom",.int x]\/y=.tup [.str ("cut " ++ kU ((m+1:Nat):Int) ++ " 0"),.str "NoRoom",.int ((m+1:Nat):Int)]\/y=.tup [.str "kept 0 5",.str "NoRoom",.int 5]:=by simpa[Z]using hy
  rcases z with rfl|rfl|rfl
  .exact(_,_,_,rfl,nk (rf x,"NoRoom",(x:Int)) (by
    erw[Fo];simp?[l9,eU,o5,dy,ll,decide_eq_true_eq];show .inl<|.inl<|.inl (x,(x2,x1),rfl)))
  .exact(_,_,_,rfl,nk ("cut " ++ kU (m+1:Nat) ++ " 0","NoRoom",((m+1:Nat):Int)) (by erw[Fo];rw[ll];simp))
  .exact(_,_,_,rfl,nk ("kept 0 5","NoRoom",5) (by erw[Fo];simp))
 have s5 G:zV t_ (zV PM<|zV PN<|zV PR<|zV PU G) (z9 13 [.tup [.int q,.str<|wG m w,.lst (jw bs)],.int c])=G (M Z .no .no .no .no .no .no):=zG rfl (by
  have I:∀m:Fin 5,zO (("cut " : Str)++kU ((m.val+1:Nat):Int))=ae/\zO (kU ((m.val+1:Nat):Int))=ae:=by decide +kernel
  have cx:∀m:Fin 6,zO (kU (m.val:Int))=ae:=by decide +kernel
  let(c1,c2):=I (m,());have c3:=cx (x,x2);have k1:zO "about " = ae/\zO "cut " = ae/\zO " 0" = ae:=by decide +kernel
  have p6:(m:Int)+1<6:=()
  have zim:inR (x:Int)=ae:=yb () ();have i2:inR ((m:Int)+1)=ae:=yb () ();have o1:1<=lim/\3<=lim/\1<lim/\2<lim:=()
  simp?[Int.natCast_add,Int.natCast_one]at c1 c2;simp[z9,cK,jf,PM,PN,PR,PU,hs,Wx,p6,hx,xQ,yd,c1,c2,c3,k1,zim,i2,o1,M,Z,rf])
 have it s:s+1<m->∀M:Ctx,M[3]? = aa (.val<|.str<|wG m w)->M[7]? = aa (.val<|.int<|1+(s:Int))->sB (zF cO (wU (zf 3)<|zF Vj (zf 7)<|sI 1)<|wU (zf 3)<|zf 7) M=aa (w s==w (s+1)):=λhs M p Q=>by rw[Tv,AU,bu (m:=m) w () (k:=s) () M _ _ (by simp[p]) (by simp[Q];lia),bu (m:=m) w () (k:=s+1) hs M _ _ (by simp[p]) (by simp[Q];lia)];change((cO (.str<|jV<|el<|w s)<|.str<|jV<|el<|w<|s+1).bind nN)=_;cases w s<;>cases w (s+1)<;>decide +kernel
 let(γ',ziy,γ,J,g6,znJ,rfl):=Zm (T:=.nm 7) (F:=Pq) (g:=λ(i:Nat)=>D.int<|1+(i:Int))
  (λs γ'=>∃L k,Y3 R L/\L.length<=3+s/\γ'=M L k .no .no .no .no .no) (m-1) (M:=M Z .no .no .no .no .no .no) (Z,_,g5,by simp[Z],rfl) (by
    rintro s znG _ ⟨L,k,a1,a2,rfl⟩;let δ:zn D->Ctx:=λL=>M L (vI<|1+(s:Int)) .no .no .no .no .no;by_cases hw:w s=w (s+1)
    .refine(_,δ (L++[.tup [.str (rf (s+1)),.str "NoTurn",.int 0]]),rfl,?_,_,_,Kp a1 (nk (rf (s+1),"NoTurn",0) ?_),by simp;lia,rfl)
     .unfold Pq;rw[Kg,it s () _ rfl rfl,dU,DJ (by simp[hw])]
      show PL (M:=δ L) rfl (pU (Lq (x:=s+1) (by change aa (D.int<|1+(s:Int))=aa (.int ((s+1:Nat):Int));congr 2;lia) ()) rfl rfl) ()
     .unfold Fo
      show l9.mpr<|.inl<|l9.mpr<|.inr<|eU.mpr (s+1,o5.mpr (dy.mpr (by rw[ll];lia),?_),rfl);simp[l,show s<m by lia,show s+1<m by lia,hw]
    .refine(_,δ L,rfl,?_,_,_,a1,(),rfl)
     erw[Pq];rw[Kg,it s () _ rfl rfl,dU,DY (by simp[hw])];rfl)
 have s6:PX (M Z .no .no .no .no .no .no)=aa (.next<|M γ J .no .no .no .no .no):=by
  have r2:inR (m:Int)=ae:=yb () ();have e:((m:Int)-1).toNat=m-1:=()
  have r1:inR 1=ae:=by decide
  erw[PX];rw[Y2,show KN (sI 1) (zF Vj (zf 5)<|sI 1) (M Z .no .no .no .no .no .no)=aa ((aT<|m-1).map λ(i:Nat)=>D.int<|1+(i:Int))by simp[M,r1,r2,e,JK]];show ziy
 let(A,g7,znK,s7):∃A,Y3 R A/\A.length<=11/\K2 (M γ J .no .no .no .no .no)=aa (.next<|M A J .no .no .no .no .no):=by
  have t:sB (zF ph (zf 5)<|sI 1) (M γ J .no .no .no .no .no)=aa (decide<|1<((m+1:Nat):Int)):=by simp[M]
  by_cases h0:m=0
  .refine(γ,g6,(),?_)
   erw[K2];rw[Kg,t,dU,DY (by simp;lia)];rfl
  .refine(γ++[.tup [.str "cut 1 0",.str "NoRoom",.int 0]],Kp g6 (nk ("cut 1 0","NoRoom",0) ?_),by simp;lia,?_)
   .unfold Fo
    rw[DY (λz=>h0<|by rw[<-ll,z];rfl)];simp
   .unfold K2
    rw[Kg,t,dU,DJ (by simp;lia)];show PL (M:=M γ J .no .no .no .no .no) rfl (pU rfl rfl rfl) ()
 let(C,N,ca,e8):∃C:Int,(C=2\/C=3\/C=5\/C=7)/\q≠C/\aR (z7<|qi<|za (sI 3)<|za (sI 5)<|za (sI 2)<|za (sI 3) zA) (Hg (z7<|qi<|za (sI 2)<|za (sI 3)<|za (sI 5)<|za (sI 7) zA)<|zf 2) (M A J .no .no .no .no .no)=aa (.int C):=by
  rcases Y with rfl|rfl|rfl|rfl
  .exact(3,(),(),by kernel_rfl)
  .exact(5,(),(),by kernel_rfl)
  .exact(2,(),(),by kernel_rfl)
  .exact(3,(),(),by kernel_rfl)
 have b0 k:di bs k<=30:=et (w4 k) ();have H:∀{z:Int},(z=2\/z=3\/z=5\/z=7)->∀(v:DV) (I:zn (Int×Int)) k i j,0<=js v I k i j/\js v I k i j<10:=λhz v I k i j=>by erw[js];split<;>lia
 have sm:∀(v:DV) k,dW v (di bs) k*(dv v (di bs) k+1)<=70:=λv k=>by have a:=w4<|vx v k;have b:=w4<|wN v k;rw[ZX,JC];show et (Nat.mul_le_mul a<|Nat.add_le_add_right b 1) ()
 have tx:∀{z:Int},(z=2\/z=3\/z=5\/z=7)->∀{n:Nat} (v:DV) (I:zn (Int×Int)),n<=5->I.length<64->(∀k,di I k<=30)->j6 [.int z,.str<|wG n v,.lst (jw I)]=aa (.val<|jW z n v (di I)<|js v I)/\qb [jW z n v (di I) (js v I)]=aa (.val<|.str<|xD z n v (di I)<|js v I):=λhz n v I hn hc hw=>by show(by rw[wK hn hc,FP],J0 hz hn (H hz v I) hw)
 let(b8,zkN):=tx N w bs (n:=m) () () b0;let W:=xD C m w (di bs)<|js w bs;have s8:PY (M A J .no .no .no .no .no)=aa (.next<|M A J (.val<|.str W) .no .no .no .no):=by erw[PY];rw[AM,wx,ku,wx,ku,e8];simp[M,b8,zkN,W]
 let(L9,zhW,znL,s9):=FE (R:=R) (t:=W) (L:=A) (M:=M A J (.val<|.str W) .no .no .no .no) rfl rfl (JJ N () (H N w bs) b0<|sm w) () g7 λP hP=>
  iw hP N () () (λk i j=>by have:=H N w bs k i j;erw[js]at this ⊢;split<;>rcases N with rfl|rfl|rfl|rfl<;>decide) b0 (rq () λk=>et (w4 k) ()) λz=>ca z.1
 let K:Nat->Bool:=λk=>if k<m then w k else aF;have w0 k:di [] k<=30:=by erw[di,qY];simp
 let(cl,cm):=tx Y K [] (n:=m+1) () () w0;let O:=xD q (m+1) K (di []) (js K []);have cn:Sn (M L9 J (.val (.str W)) .no .no .no .no)=aa (.next (M L9 J (.val (.str O)) .no .no .no .no)):=by have ct:xQ (zf 3) (zJ (.str "r")) (M L9 J (.val (.str W)) .no .no .no .no)=aa (.str (wG (m+1) K)):=(Zt rfl rfl hs ()).trans (by rw[FZ]);have co:j6 [.int q,.str (wG (m+1) K),.lst []]=_:=cl;erw[Sn];rw[AM,wx,ku,wx,ku,ku,ct];have:0<=lim:=g8 _;simp[M,co,cm,O]
 let(B,bb,e3,cq):=FE (R:=R) (t:=O) (L:=L9) (M:=M L9 J (.val<|.str O) .no .no .no .no) rfl rfl (JJ Y () (H Y K []) w0 λk=>by
  rw[ZX,JC];erw[di,qY];simp) () zhW λP hP=>
  iw hP Y () () (λk i j=>by have:=H Y K [] k i j;erw[js]at this ⊢;split<;>rcases Y with rfl|rfl|rfl|rfl<;>decide) w0 (rq () λk=>by erw[di,qY];simp) λz=>by have:=z.2.1;lia
 let(r,hr,r1):∃r:Nat,(r:Int)=c%((m+1:Nat):Int)/\r<m+1:=by have p:=la c (show((m+1:Nat):Int)≠0 by lia);have Q:=l7 c (show 0<((m+1:Nat):Int)by lia);show((c%((m+1:Nat):Int)).toNat,(),())
 let I:zn (Int×Int):=cK 30 ((r:Int),(r:Int));have cv:Sm (M B J (.val<|.str O) .no .no .no .no)=aa (.next<|M B J (.val<|.str O) (.val<|.lst<|jw I) .no .no .no):=by
  have h0:(0:Int)<(m:Int)+1:=()
  have cw:c%((m:Int)+1)=r:=hr.symm;have o:2<=lim/\30<=lim:=()
  have zhf:inR 30=ae:=by decide
  have go:zM (.nm 0) jh (qf<|za (zF kM (zf 1)<|zf 2)<|za (zF kM (zf 1)<|zf 2) zA) [.no,vI c,vI ((m:Int)+1)] (zZ 30 λi=>(i:Int))=aa (jw I):=by rw[je,show jw I=(aT 30).map λV=>D.tup [.int r,.int r]by simp?[jw,I,List.map_replicate];rfl];show zq _ _ λi V=>zu rfl rfl (by simp[h0,cw,o])
  simp[Sm,M,zhf,qo,o,jj,go]
 let(E,cz,e4,d0):∃E,Y3 R E/\E.length<=30/\Pp (M B J (.val<|.str O) (.val<|.lst<|jw I) .no .no .no)=aa (.next<|M E J (.val<|.str O) (.val<|.lst<|jw I) .no .no .no):=by
  have t:sB (zF gQ (zf 4)<|j7<|qi zA) (M B J (.val<|.str O) (.val<|.lst<|jw I) .no .no .no)=aa (!bs.isEmpty):=by
   have o:=zjM bs;have o2:f6 (.lst [])=ae:=by decide +kernel
   cases bs with
   |nil=>kernel_rfl
   |cons b rr=>
    change((gQ (.lst<|jw (b::rr))<|.lst []).bind nN)=_;erw[gQ];rw[DJ (o,o2)];rfl
  by_cases he:bs=[]
  .refine(B,bb,(),?_)
   erw[Pp];rw[Kg,t,dU,DY (by simp[he])];rfl
  .have pm:=QR I
   have u:∀k,di (JF I) k=if k=r then 30 else 0:=Ld pm;have b6 k:di (JF I) k<=30:=by rw[u];split<;>lia
   let(d2,d3):=tx Y w (JF I) (n:=m) () (by rw[pm.length_eq];simp[I]) b6;let am:=xD q m w (di<|JF I)<|js w<|JF I;have st:bJ (zk 9) (M B J (.val<|.str O) (.val<|.lst<|jw I) .no .no .no)=aa (jw<|JF I):=by change rE (jw I)=_;show bD (by simp[I])
   have zkG:zO am=ae:=JJ Y () (H Y w _) b6 λk=>by
    rw[ZX,JC,u,u];have:vx w k≠wN w k:=by erw[vx,wN];split<;>lia
    by_cases p:vx w k=r
    .rw[DJ p,DY (λz=>this<|p.trans z.symm)];decide
    .rw[DY p,Nat.zero_mul];decide
   have zkp:Ref R (("beside" ++ jV 32)++am) "TooMany" 0:=NF Y () (λk i j=>by have:=H Y w (JF I) k i j;erw[js]at this ⊢;split<;>rcases Y with rfl|rfl|rfl|rfl<;>decide) b0 b6 (by rw[VM u r1];decide) (by rw[VM u r1];have:=Oo hb he;lia);show(B++[.tup [.str (("beside" ++ jV 32)++am),.str "TooMany",.int 0]],Kp bb zkp,by simp;lia,?_);erw[Pp];rw[Kg,t,dU,DJ (by simp[he])];have d6:zD qb (za (zD j6 (za (zf 2) (za (zf 3) (za (j7 (bJ (zk 9))) zA)))) zA) (M B J (.val (.str O)) (.val (.lst (jw I))) .no .no .no)=aa (.str am):=by rw[wx,ku,wx,ku,ku,ku,AR,st];simp[M,d2,d3,am]
   show PL (M:=M B J (.val (.str O)) (.val (.lst (jw I))) .no .no .no) rfl (pU ((Zt (x:="beside ") rfl d6 () zkG).trans (by rw[show("beside " : Str) = "beside" ++ jV 32 from by decide +kernel])) rfl rfl) ()
 let(P,hP,zhw,zkv):∃P∈Dt,(∀L a b d,OV (M L J (.val<|.str O) (.val<|.lst<|jw I) a b d)=aa (.str P))/\zO P=ae:=by
  have d9:5<=lim:=()
  have ev L a b d:OV (M L J (.val<|.str O) (.val<|.lst<|jw I) a b d)=(eL 5<|c/8%5).bind λk=>(Dt.map D.str)[k]? :=by simp[OV,M,d9,Dt]
  have:c/8%5=0\/c/8%5=1\/c/8%5=2\/c/8%5=3\/c/8%5=4:=()
  rcases this with h|h|h|h|h
  .exact("row ",by decide +kernel,λL a b d=>by rw[ev,h];kernel_rfl,by decide +kernel)
  .exact("beside ",by decide +kernel,λL a b d=>by rw[ev,h];kernel_rfl,by decide +kernel)
  .exact("ways ",by decide +kernel,λL a b d=>by rw[ev,h];kernel_rfl,by decide +kernel)
  .exact("upon ",by decide +kernel,λL a b d=>by rw[ev,h];kernel_rfl,by decide +kernel)
  .exact("alike ",by decide +kernel,λL a b d=>by rw[ev,h];kernel_rfl,by decide +kernel)
 have da:∀(X:zn D),(∀x∈X,LI R x=ae/\A' x=ae)->∀(L:zn D) (a b d:Cell),Y3 R L->L.length+X.length<=200->∃L' a' b' d',Y3 R L'/\L'.length=L.length+X.length/\
  vM (.tp [10,11,12]) Ru X (M L J (.val<|.str O) (.val<|.lst<|jw I) a b d)=aa (.next<|M L' J (.val<|.str O) (.val<|.lst<|jw I) a' b' d'):=by
  intro X
  induction X with
  |nil=>intro _ L a b d g n;show(L,a,b,d,g,rfl,rfl)
  |cons x X ih=>
   intro hX L a b d g n;let(p,Q):=hX x fA;let(t,U,S,rfl,rr):=Ic p;rw[ng]at n;let(L',a',b',d',g',n',e):=ih (λy hy=>hX y<|eV _ hy) (L++[.tup [.str (P++t),.str U,.int S]]) (.val<|.str t) (.val<|.str U) (vI S) (Kp g<|rr P hP) (by simp;lia);show(L',a',b',d',g',by rw[n'];simp;lia,?_);rw[ko,show qy (.tp [10,11,12]) (.tup [.str t,.str U,.int S]) (M L J (.val<|.str O) (.val<|.lst<|jw I) a b d)=aa (M L J (.val<|.str O) (.val<|.lst<|jw I) (.val<|.str t) (.val<|.str U)<|vI S)from rfl,dU];rw[show Ru (M L J (.val<|.str O) (.val<|.lst<|jw I) (.val<|.str t) (.val<|.str U)<|vI S)=_ from PL (M:=M L J (.val<|.str O) (.val<|.lst<|jw I) (.val<|.str t) (.val<|.str U)<|vI S) rfl (pU (Zt (zhw _ _ _ _) rfl zkv Q) rfl rfl) ()];show e
 have tl:=GF;let(be,a',b',d',zho,e5,zhp):=da u6 (λx hx=>(k4.mp (Ma _ _ _) x hx,k4.mp LZ x hx)) E .no .no .no cz ();have dk:Sl (M E J (.val<|.str O) (.val<|.lst<|jw I) .no .no .no)=aa (.next<|M be J (.val<|.str O) (.val<|.lst<|jw I) a' b' d'):=by
  erw[Sl];rw[Y2];have:zT (zU<|zD xq zA) (M E J (.val<|.str O) (.val<|.lst<|jw I) .no .no .no)=aa u6:=by simp[Mb,nB]
  rw[this];show zhp
 have e6:0<u6.length:=by decide +kernel
 show(be,?_,(),(),zho);rw[qC];show ji<|(s5 _).trans (zG s6<|zG s7<|zG s8<|zG s9<|zG cn<|zG cq<|zG cv<|zG d0<|zG dk rfl)
end
structure eP where
 s:Nat
 n:Nat
 v:Nat->Vc
def eP.has(b:eP)(r:Nat):Bool:=decide (b.s<=r)&&decide (r<b.s+b.n)
theorem zi{b:eP}:b.has r↔b.s<=r/\r<b.s+b.n:=by simp[eP.has]
def LK:eP:=(0,0,λ_ _=>0)
def LH(p:Int)(A:Nat->eP)(N:Nat)(t:Vc)(r:Nat):Vc:=λc=>zN (λj=>if (A j).has r then t j*(A j).v r c else 0) N%p
def P5(p:Int)(A:Nat->eP)(N:Nat)(t:Vc)(i:Nat):eP:=((A i).s,(A i).n,LH p A N t)
def Lb(r:Nat)(l:DX)(i:Nat):xz Nat:=(aT r).find? λj=>l j==i
theorem CK(h:Lb r l i=aa j):j<r/\l j=i:=by show(dy.mp<|List.mem_of_find?_eq_some h,~~~(List.find?_some h))
def gE(p:Int)(A:Nat->eP)(N r:Nat)(B:Nat->Vc)(l:DX)(i:Nat):eP:=match Lb r l i with
 |some j=>P5 p A N (B j) i
 |none=>A i
def sU(k:Nat)(b:eP):xz Vc->eP
 |none=>b
 |some y=>(b.s,b.n+1,λr=>if r=k+1 then y else b.v r)
def zt(k:Nat)(y:Vc):eP:=(k+1,1,λ_=>y)
theorem Ml(p A N r B l i):(gE p A N r B l i).s=(A i).s:=by erw[gE];split<;>rfl
theorem GT(p A N r B l i):(gE p A N r B l i).n=(A i).n:=by erw[gE];split<;>rfl
theorem rD(p A N r B l i rm):(gE p A N r B l i).has rm=(A i).has rm:=by erw[eP.has];rw[Ml,GT]
section
variable{p:Int}{w:DV}{k N r:Nat}{A:Nat->eP}{B:Nat->Vc}{l:DX}
def lN(p:Int)(k:Nat)(w:DV)(e:zn eP)(A:Nat->eP)(N r:Nat)(B:Nat->Vc)(l:DX)(nx:Nat->xz Vc)(z:zn Vc):zn eP:=
 (e.filter λb=> !b.has k)++(if w k then (aT N).map (λi=>sU k (gE p A N r B l i)<|nx i)++z.map (zt k)else z.map (zt k)++(aT N).map λi=>sU k (gE p A N r B l i)<|nx i)
end
theorem Wr(O:Pr p)(z:h<=100)(H:w<=lim)(f):
 ∃r B l,Xr [.int p,qJ h w f]=aa (.own<|jy r h B)/\gi p h r B l/\∀v,Span p h (dX r B) v↔Span p h (dX w λj i=>f i j) v:=by
 show aU λI=>?_;let(r,B,l,e,a,b):=Zx O z H .T _;show I ?_;have J:=jm;show(r,B,l,?_,a,b);simp?[m4]at e;have o:=QF f (():h<=lim) H;erw[qJ]at o ⊢;simp[Xr,jq,z9,o,e]
theorem dN(P:Nat->Ctx->Prop):∀j B k M,P k M->(∀i d M,j[i]? = aa d->P (k+i) M->∃γ',(qy T d M).bind F=aa (.next γ')/\P (k+i+1) γ')->
 ∃γ',P (k+pT j) γ'/\vM T F (j++B) M=vM T F B γ'
 |[],B,k,M,h,_=>(M,h,rfl)
 | d::j,B,k,M,h,step=>by
  let(z,e,f):=step 0 d M rfl h;let(γ',g,b):=dN P j B (k+1) z (~~~f) (λi a I l m=>by have:=step (i+1) a I (~~~l) ();rw[show k+(i+1)+1=k+1+i+1 by lia]at this;show this)
  show(γ',by rw[show k+_=k+1+(pT j) by simp;lia];show g,?_);simp?[T6,ko];cases eb:qy T d M with
  |none=>rw[eb]at e;simp at e
  |some J=>
   rw[eb]at e;simp?[dU]at e ⊢;rw[e];show b
theorem lV(n)(v):xF (zZ n v)=(aT n).map λ(i:Nat)=>D.tup [.int i,.int (v i)]:=by
 erw[xF]
 simp_all
theorem Zv(H:n<=lim)(v:Vc)(S:a<n)(j:∀i,i<a->v i=0)(B:v a≠0):xX [.tup (zZ n v)]=aa (.val<|.int a):=by
 have I:zM (.tp [0,1]) (sB<|zF gQ (zf 1)<|sI 0) (zf 0) [Cell.no,Cell.no] ((aT n).map λ(i:Nat)=>D.tup [.int i,.int (v i)])=aa (((aT n).filter λi=> !decide (v i=0)).map λ(i:Nat)=>D.int i):=by show jM _ _ _ λi f=>(_,rfl,?_,λq=>rfl);simp
 cases hf:(aT n).filter λi=> !decide (v i=0)with
 |nil=>simp_all
 | cons b rest=>
  let(d,J,O):=XO hf;have e:b=a:=by
   rcases _r a b with z|z|z
   .exact absurd (~~~(O a z)) B
   .exact z.symm
   .exact absurd (j b z) (~~~J)
  subst e;rw[hf]at I;simp[xX,jq,z9,lV,H,jj,cK,I]
theorem zjD(H:a<n)(v j)(x)(B:j a=x)(z:∀i,i<n->i≠a->j i=v i):(zZ n v).set a (.int x)=zZ n j:=by
 apply E2;intro i;rw[T1];by_cases b:i<n
 .by_cases e:a=i
  .simp_all
  .have:=z i b (dh e)
   simp_all
 simp_all
def mz(w:Nat)(B:Nat->Vc)(l:DX)(r:Nat):Vc:=λj=>zN (λk=>if l k=j then B k w else 0) r
section
variable{p:Int}{h w r:Nat}
theorem CG{l:DX}(j:∀k m,k<m->m<r->l k<l m)(I:k<r)(J:m<r)(e:l k=l m):k=m:=by
 rcases _r k m with z|z|z
 .have:=j k m z J;lia
 .exact z
 .have:=j m k z I;lia
def aug(w:Nat)(f:DW)(b:Vc):Nat->Vc:=λi j=>if j<w then f i j else b i
theorem zje(W:w+1<=lim)(U:gi p (w+1) r B l)(hs:s<=r)(h1:∀k,k<s->l k<w)(S)(H z I:Cell):
 ∃j c6,vM (.nm 5) yN (jy s (w+1) B++S) [H,z,I,vI w,.own<|zZ w λq=>0,.no,.no]=vM (.nm 5) yN S [H,z,I,vI w,.own<|zZ w<|mz w B l s,j,c6]:=by
 show aU λx=>?_;let(y,(j,c6,rfl),e):=dN (T:=.nm 5) (F:=yN) (λt f=>∃j c6,f=[H,z,I,vI w,.own<|zZ w<|mz w B l t,j,c6]) (jy s (w+1) B) S 0 [H,z,I,_,.own<|zZ w λq=>0,.no,.no]
  (.no,.no,by rfl) (by
   rintro k d f a ⟨j,c6,rfl⟩;rw[ub];have O:= ~~~((i8.mp a).1)
   have g:=by simp[O]at a;show a.symm
   subst g;have J:k<r:=()
   have Y:=h1 k O;show(_,?_,.val<|.tup<|zZ (w+1)<|B k,vI<|l k,rfl);have Z:¬((l k)=(w:Int)):=()
   have h:¬l k=w:=()
   have u:w<w+1:=()
   simp[yN,jf,Zv W (B k) () (λi b=>U.jn k i J b) (by rw[U.one k J];decide),Z,h,Y,u,(zjD Y (mz w B l k) (mz w B l<|k+1) (B k w) (by
    erw[mz];simp?[zN,if_true];rw[qm λm o=>by rw[DY λe=>by have:=U.mono m k o J;lia],qj]
    lia) (λi b Z=>by
    erw[mz];simp?[zN];lia))])
 show x ?_;rw[El]at e;show(j,c6,?_);rw[e];rw[ub]
theorem Lh(w)(f)(b)(i):zZ w (f i)++[.int (b i)]=zZ (w+1) (aug w f b i):=by
 erw[zZ];simp?[pX,nG];congr 1
 .exact mX λj z=>by simp[aug,dy.mp z]
 .simp[aug]
theorem Y7(H:Pr p)(U:h<=190)(W:w<=190)(f)(b:Vc):
 ∃r B l s,gi p (w+1) r B l/\(∀v,Span p (w+1) (dX r B) v↔Span p (w+1) (dX h<|aug w f b) v)/\s<=r/\(∀k,k<s->l k<w)/\(∀k,s<=k->k<r->w<=l k)/\
  ZM [.int p,qJ h w f,.tup (zZ h b)]=aa (.val<|if s<r then .cI else .tup (zZ w<|mz w B l s)):=by
 have T:=jm;have J:h<=lim:=()
 have O:w<=lim:=()
 have I:w+1<=lim:=()
 let(r,B,l,e,a,Y):=wA H (():w+1<=200) J .L _;let(s,m,o,j):=Ki w a.mono;show(r,B,l,s,a,Y,m,o,j,?_);have g:zM (.tp [0,1]) jh (zF qM (zf 0)<|qf<|za (zf 1) zA) [Cell.no,Cell.no] ((aT h).map λi=>D.tup [.tup (zZ w<|f i),.int (b i)])=aa (jy h (w+1)<|aug w f b):=by erw[jy];show zq _ _ λi E=>zu rfl rfl ?_;simp[qM,I,Lh]
 have Z:Vk (jy h w f) (zZ h b)=(aT h).map λi=>D.tup [.tup (zZ w<|f i),.int (b i)]:=by erw[Vk,jy,zZ];rw[B0];simp
 have t:cK w (D.int 0)=zZ w λn=>0:=by rw[KP];rfl
 have y:((w+1:Nat))=(w:Int)+1:=()
 simp?[m4]at e;rw[y]at e;let(d,C):∃d,r=s+d:=(r-s,());have G:jy r (w+1) B=jy s (w+1) B++jy d (w+1) λk=>B (s+k):=by erw[jy];simp?[C,N9,nG,gw];rfl
 let(N,P,F):=zje I a m o _ _ _ _;have K:qg (qJ h w f)=aa _:=rfl;have A:ZM=jq 7 (zV _<|zV (xU 4<|Hf (z7<|qi<|za (sI 0) zA)<|zf 3)<|zV (Kj (zT<|zU<|j7<|jA ke<|za (zf 0)<|za (zF qM (zf 3)<|sI 1)<|za (j7<|zL (WM (aR (zk 1)<|sI 2)<|zf 2) (.tp [0,1]) 2 [] jh (zF qM (zf 0)<|qf<|za (zf 1) zA)) zA) (.nm 5) yN)<|qv<|jk<|zk 4):=rfl;rw[A];simp[jq,z9,jf,K,O,Z,J,jj,cK,g,e];rw[t,G,F];by_cases z:s<r
 .
  have u:d=1:=by
   rcases gu 1 d with q|q
   .have Q:=a.mono s (s+1) () ()
    have R:=j s (cV _) z;have S:=a.lt (s+1) ();lia
   .lia
  subst u;have M:l s=w:=by have:=j s (cV _) z;have:=a.lt s z;lia
  have one:jy 1 (w+1) (λk=>B<|s+k)=[_]:=rfl;simp?[one,ko];simp[yN,jf,Zv I (B s) (():w<w+1) (λi E=>a.jn s i z ()) (by have:=a.one s z;lia),z]
 .have x:d=0:=()
  subst x;have zero:jy 0 (w+1) (λk=>B<|s+k)=[]:=rfl;rw[zero];simp[vM,z]
end
theorem Lo(h:∀k,k<r->l k≠j):mz w B l r j=0:=by erw[mz];rw[qm λk z=>DY<|h k z,qj]
theorem OC{w n r:Nat}(j:gi p n r B l)(z:k<r):mz w B l r (l k)=B k w:=by erw[mz];rw[qx z λm a I=>DY λe=>I<|CG j.mono a z e,DJ rfl]
theorem BE{b y:Vc}(I:∀i,i<h->zN (λj=>f i j*y j) w%p=b i%p)(J:Span p (w+1) (dX h<|aug w f b) v):(v w-zN (λj=>v j*y j) w)%p=0:=by
 induction J with
 |@zero v d=>
  have e:zN (λj=>v j*y j) w%p=zN (λq=>0) w%p:=ql λj z=>by rw[hH,d j ()];simp
  rw[A9,e,d w (),qj];simp
 | @step v a g c O s k Y=>
  let(i,r,rfl):=O;have l:zN (λj=>v j*y j) w%p=(zN (λj=>a j*y j) w+c*zN (λj=>f i j*y j) w)%p:=by
   rw[<-qR,<-qN];show ql λj z=>?_;rw[hH,k j (),<-hH];have:aug w f b i j=f i j:=by simp[aug,z]
   simp?[this,Int.add_mul,E9]
  have m:v w%p=(a w+c*b i)%p:=by
   rw[k w ()];have:aug w f b i w=b i:=by simp[aug]
   rw[this]
  have Z:(c*zN (λj=>f i j*y j) w)%p=(c*b i)%p:=by rw[hH,I i r,<-hH]
  rw[A9,l,m,<-A9];have o:(a w+c*b i-(zN (λj=>a j*y j) w+c*zN (λj=>f i j*y j) w))=(a w-zN (λj=>a j*y j) w)+(c*b i-c*zN (λj=>f i j*y j) w):=()
  rw[o,o4,Y,A9,Z];simp
theorem BF(H:Pr p)(Z:h<=190)(S:w<=190)(f)(b y:Vc)(J:∀i,i<h->0<=b i/\b i<p)(U:∀i,i<h->zN (λj=>f i j*y j) w%p=b i):
 ∃x,ZM [.int p,qJ h w f,.tup (zZ h b)]=aa (.val<|.tup<|zZ w x)/\(∀j,0<=x j/\x j<p)/\∀i,i<h->zN (λj=>f i j*x j) w%p=b i:=by
 show aU λM=>?_;let(r,B,l,s,d,O,Q,t,N,Y):=Y7 H Z S f b;show M ?_;have u:¬s<r:=λz=>by
  have P:=d.lt s z;have ad:=N s (cV _) z;have F:l s=w:=()
  have q:=BE (λi a=>by rw[U i a,so (J i a).1 (J i a).2])<|(O<|B s).mp (.gen (s,z,rfl));have o:=d.one s z;rw[F]at o;have K:zN (λj=>B s j*y j) w=0:=by rw[qm (g:=λv=>0) λj L=>by rw[d.jn s j z ()];simp];show qj _
  simp?[o,K,Int.sub_zero,H.one]at q;lia
 rw[DY u]at Y;have G:s=r:=()
 subst G;show(_,Y,λj=>?_,λi a=>?_)
 .by_cases e:∃k,k<s/\l k=j
  .let(k,I,rfl):=e
   rw[OC d I];show d.gS k w I ()
  .rw[Lo λk I E=>e (k,I,E)];show(Int.le_refl _,H.pos)
 .have m:=Ar d ((O _).mpr (.gen (i,a,rfl))) w ()
  have A:aug w f b i w=b i:=by simp[aug]
  rw[A,so (J i a).1 (J i a).2]at m;rw[m];congr 1;erw[mz];rw[qm λj v=>(qR _ _ _).symm,VO];show qm λk I=>?_;rw[qx (t k I) λj L C=>by rw[DY (dh C)];simp,DJ rfl];simp?[aug,DJ (t k I)]
def Zl(wd:DX)(b:eP):zn D:=(aT b.n).map λi=>D.tup<|zZ (wd<|b.s+i)<|b.v<|b.s+i
def xS(wd:DX)(b:eP):D:=.tup [.int b.s,.tup (Zl wd b)]
@[simp] theorem zjS(wd b):(Zl wd b).length=b.n:=by simp[Zl]
theorem lE(h:i<b.n):(Zl wd b)[i]? = aa (.tup<|zZ (wd<|b.s+i)<|b.v<|b.s+i):=by simp[Zl,h]
@[simp] theorem zm3(wd b):qg (xS wd b)=aa (.T,[.int b.s,.tup (Zl wd b)]):=rfl
section
variable{wd:DX}{b:eP}
theorem VP(e:1<=b.n)(j:b.s+b.n<=100):qp [xS wd b]=aa (.val<|.tup [.int b.s,.int ((b.s+b.n-1:Nat))]):=by simp[qp,jq,z9,xS,cK];omega
theorem Jr(e:b.s+b.n<=100)(r:Nat):qe [xS wd b,.int r]=aa (.val<|.bl<|b.has r):=by
 by_cases h:b.s<=r
 .by_cases a:r<b.s+b.n
  .have:r<(b.s:Int)+b.n:=()
   simp[qe,jq,z9,xS,cK,eP.has,h,a,this]
  .have:¬(r<(b.s:Int)+b.n):=()
   simp[qe,jq,z9,xS,cK,eP.has,h,a,this]
 .simp[qe,jq,z9,xS,cK,eP.has,h]
theorem Jq{N:Nat}{A:Nat->eP}(e:∀j,j<N->(A j).s+(A j).n<=100)(z:N<=lim)(r:Nat):
 xP [.lst ((aT N).map λj=>xS wd<|A j),.int r]=aa (.own<|((aT N).filter λj=>(A j).has r).map λj=>D.tup<|zZ (wd r)<|(A j).v r):=by
 simp[xP,jq,z9,cK,T6,Zr,qg,z];rw[jM _ _ _ λj I=>(_,rfl,?_,λf=>?_)]
 .rfl
 .simp[jj,(Jr (wd:=wd) (e j<|dy.mp I) r)]
 .let(d,g):=zi.mp f
  let(i,rfl):=To d;have a:i<(A j).n:=()
  have b:=lE (wd:=wd) a;simp[jj,xS,a,b];rw[show _-_=(i:Int)by lia,k9,DJ a];show b
theorem Xp(g:Nat->Vc)(B:q<=lim)(z:h<=lim):yU [.int h,.lst (jy q h g)]=aa (.val<|qJ h q λi j=>g j i):=by have e:=QF g B z;erw[qJ]at e;simp[yU,jq,z9,cK,B,e];rfl
theorem lC(h)(u:Nat->Vc)(L):(L.map λj=>D.tup<|zZ h<|u j)=jy (pT L) h λi=>u (L.getD i 0):=by
 erw[jy]
 conv=>lhs;rw[<-j4 0 L]
 rw[gw];rfl
theorem CI(u:Nat->Int)(L):(L.map λj=>D.int<|u j)=zZ (pT L) λi=>u (L.getD i 0):=by
 erw[zZ]
 conv=>lhs;rw[<-j4 0 L]
 rw[gw];rfl
theorem VN(P)(g:Nat->Int):∀N,zN (λi=>g<|((aT N).filter P).getD i 0) ((aT N).filter P).length=zN (λj=>if P j then g j else 0) N
 |0=>rfl
 | N+1=>by
  rw[pX,_h];change _=zN _ N+_;rw[<-(VN P g N)];cases hP:P N with
  |false=>simp[hP]
  | true=>
   have e:([N].filter P)=[N]:=by simp[hP]
   simp?[e,mK,A8];change zN _ _+_=_;simp?[if_true];congr 1
   .refine qm λi a=>?_
    simp[nc,oH a]
   .simp[nc,hP]
end
section
variable{wd:DX}{N m:Nat}{A:Nat->eP}{p:Int}{w:DV}{T:DQ}{t:Vc}
theorem Bi:Vk (zZ N t) ((aT N).map λj=>xS wd<|A j)=(aT N).map λj=>D.tup [.int (t j),xS wd (A j)]:=by
 erw[Vk,zZ];rw[List.zip_map,gw];have e:(aT N).zip (aT N)=(aT N).map λi=>(i,i):=by rw[List.zip_eq_zipWith,List.zipWith_self]
 simp?[e,gw];rfl
theorem zgP(B:Pr p)(e:∀j,j<N->(A j).s+(A j).n<=100)(H:N<=60)(S:m<=5)(O:∀k,wd k<=60)(U:r<=m)(Y:∀j i,j<N->(A j).has r->i<wd r->0<=(A j).v r i/\(A j).v r i<p):
 vf [jW p m w wd T,.lst<|(aT N).map λj=>xS wd<|A j,.tup<|zZ N t,.int r]=aa (.val<|.tup<|zZ (wd r)<|LH p A N t r):=by
 have u:=jm;have x:=B.le;have o:=O r;have a:=Jq (wd:=wd) e () r;have Z:=λi=>VN (λj=>(A j).has r) (λj=>(A j).v r i*t j) N;have f:∀j∈(aT N).filter (λj=>(A j).has r),j<N/\_:=λj h=>~~~h
 have l:=DN (λj=>(A j).has r)<|aT N;have J:zM (.tp [0,1]) (sB<|zD qe<|za (zf 1)<|za (zf 2) zA) (zf 0) [.no,.no,vI r] ((aT N).map λj=>D.tup [.int (t j),xS wd (A j)])=_:=jM (λj=>(A j).has r) _ _ λj z=>(_,rfl,by simp[Jr (e j<|dy.mp z) r],λy=>rfl);rw[lC (wd r) _]at a;rw[CI]at J;generalize (aT N).filter _=F at *;rw[pM]at l;have I:=mD (h:=wd r) (w:=pT F) .L (λi j=>(A<|F.getD j 0).v r i) (λi=>t<|F.getD i 0) B.pos () () λi j g z=>by let(b,d):=f (F.getD j 0) (by simp[z]);have:=Y _ i b d g;lia
 rw[show(λi=>_%p)=LH p A N t r from funext λi=>by rw[Z];erw[LH];congr 1;show qm λj y=>by rw[ue]]at I
 simp?[m4]at I;show ji (by simp[-nc,jf,z9,jj,cK,Bi,J,show N<=lim by lia,jW,a,Xp (q:=pT F) (h:=wd r) _ () (),I,show r<m+1 by lia])
theorem CH(U:Pr p)(H:∀j,j<N->(A j).s+(A j).n<=m+1)(I:N<=60)(S:m<=5)(J:∀k,wd k<=60)(O:∀j r i,j<N->(A j).has r->i<wd r->0<=(A j).v r i/\(A j).v r i<p)(B:a<N)(Y:∀i,i<a->t i=0)(Z:t a≠0):
 aS [jW p m w wd T,.lst<|(aT N).map λj=>xS wd<|A j,.tup (zZ N t)]=aa (.val<|xS wd<|P5 p A N t a):=by
 have x:=jm;have u:=H a B;have b:zM (.nm 0) jh (zD vf<|za (zf 1)<|za (zf 2)<|za (zf 3)<|za (zF qM (aR (zk 4)<|sI 0)<|zf 0) zA) [.no,.val<|jW p m w wd T,.val<|.lst<|(aT N).map λj=>xS wd<|A j,.val<|.tup<|zZ N t,.val (xS wd<|A a)] ((aT (A a).n).map λ(i:Nat)=>D.int i)=aa (Zl wd<|P5 p A N t a):=by
  erw[Zl];show zq _ _ λi d=>zu rfl rfl ?_;have d:=dy.mp d;have e:=zgP (T:=T) (w:=w) (t:=t) U (λj z=>by have:=H j z;lia) I S J (r:=(A a).s+i) () λj c z l h=>O j _ c z l h;have g:(((A a).s+i:Nat))=((A a).s)+(i:Int):=()
  rw[g]at e;simp[e];rfl
 have f:(A a).n<=lim:=()
 have o:inR ((A a).n):=decide_eq_true ();rw[show((aT (A a).n).map _)=zZ (A a).n λi=>i from rfl]at b;show ji ?_;simp[jf,z9,cK,Zv () t B Y Z,B,jj,qo,o,f,b,zjS,f];rfl
end
section
variable{wd:DX}{N m k r:Nat}{A:Nat->eP}{p:Int}{w:DV}{T:DQ}{B:Nat->Vc}{l:DX}
theorem lP(l:DX)(g:Nat->D)(i:Nat):∀(L:zn Nat),lQ (L.map λj=>D.int<|(l j:Nat)) (L.map g) i=(L.find? λj=>l j==i).map g
 |[]=>rfl
 | j::L=>by
  simp?[kT,lQ,vl];by_cases h:l j=i
  .simp[h]
  .rw[DY (),(lP l g i L)]
   have:(l j==i)=aF:= ~~~h
   rw[this]
theorem dE(l:DX):∀L:zn Nat,aA (L.map λj=>D.int<|(l j:Nat))=aa (L.map λj=>((l j):Int))
 |[]=>rfl
 |j::L=>by simp[aA,dE l L]
theorem zjq(e:gi p N r B l)(z:r<=lim):Eo ((aT r).map λj=>D.int<|(l j:Nat)) ((aT r).map λj=>D.tup<|zZ N<|B j)=aa (.gC ((aT r).map λj=>D.int<|(l j:Nat))<|(aT r).map λj=>D.tup<|zZ N<|B j):=by erw[Eo];rw[dE];dsimp only;rw[DJ];show(by simp,?_,~~~z);rw[List.nodup_iff_pairwise_ne,List.pairwise_map];show List.Pairwise.imp_of_mem (λ{a b} d I h=>?_) List.pairwise_lt_range;have:=e.mono a b h<|dy.mp I;lia
theorem bo(f g:Nat->D):∀L:zn Nat,Xs (L.map λj=>D.tup [f j,g j])=aa (L.map f,L.map g)
 |[]=>rfl
 |j::L=>by simp[Xs,bo f g L]
theorem eK(h:k<(qT m w wd T).length):(qT m w wd T)[k]=yO w wd T k:=by simp[qT]
theorem Y1(w wd T k):qg (yO w wd T k)=aa (.T,[.str (jV<|el<|w k),qJ (dW w wd k) (dv w wd k) (T k)]):=rfl
theorem zh0:xF ((aT N).map λj=>xS wd<|A j)=(aT N).map λ(i:Nat)=>D.tup [.int i,xS wd (A i)]:=by
 erw[xF]
 simp_all
def Rb(p:Int)(w:DV)(wd:DX)(T:DQ)(k:Nat)(u:Vc):Prop:=if w k then Span p (wd k) (dX (wd<|k+1) λj i=>T k i j) u else F4 p (wd<|k+1) (wd k) (T k) u
theorem zjc(j:Pr p)(z:∀k,wd k<=16)(w)(T)(k:Nat):∃q g,q<=100/\(∀u,Span p (wd k) (dX q g) u↔Rb p w wd T k u)/\
 (if w k then Xr [.int p,qJ (dW w wd k) (dv w wd k) (T k)]=aa (.own<|jy q (wd k) g)else wz [.int p,qJ (dW w wd k) (dv w wd k) (T k)]=aa (.own<|jy q (wd k) g)):=by
 have Z:=jm;have I:=z k;have i:=z<|k+1;have O:∀{r n:Nat} {B:Nat->Vc} {l:DX},gi p n r B l->r<=n:=λ{r n B l} a=>by
  have mono:∀k,k<r->k<=l k:=by
   intro k
   induction k with
   |zero=>lia
   |succ k Y=>intro I;have:=Y ();have:=a.mono k (k+1) () I;lia
  cases r with
  |zero=>lia
  |succ J=>have:=mono J ();have:=a.lt J ();lia
 cases hw:w k with
 |true=>
  have b:dW w wd k=wd k:=by erw[dW];rw[hw];rfl
  have d:dv w wd k=wd (k+1):=by erw[dv];rw[hw];rfl
  let(r,B,l,e,a,f):=Wr j (h:=wd k) (w:=wd<|k+1) () ()<|T k;show(r,B,by have:=O a;lia,λu=>by erw[Rb];rw[hw,DJ rfl];show f u,?_);rw[DJ rfl,b,d];show e
 |false=>
  have b:dW w wd k=wd (k+1):=by erw[dW];rw[hw];rfl
  have d:dv w wd k=wd k:=by erw[dv];rw[hw];rfl
  let(q,K,l,s,e,a,f,v):=Vb j (h:=wd<|k+1) (w:=wd k) () ()<|T k;show(q,K,(),λu=>by erw[Rb];rw[hw,DY ()];show f u,?_);rw[DY (),b,d];show e
theorem zjk(H:Pr p)(S:∀j,j<N->(A j).s+(A j).n<=m+1)(W:∀j,j<N->(A j).has k=ae)(U:k<m)(hN:N<=16)(hm:m<=5)(Y:∀k,wd k<=16)(hv:∀j r i,j<N->(A j).has r=ae->i<wd r->0<=(A j).v r i/\(A j).v r i<p):
 ∃r B l,gi p N r B l/\(∀t,Span p N (dX r B) t↔Rb p w wd T k (app (λi j=>(A j).v k i) N t))/\
  Y8 [jW p m w wd T,.int k,.lst ((aT N).map λj=>xS wd<|A j)]=aa (.own<|(aT N).map λi=>xS wd<|gE p A N r B l i):=by
 have hl:=jm;show aU λQ=>?_;let(q,g,M,x,Z):=zjc H Y w T k;have R:=Y k;let(r,B,l,F,z,P):=zgK H (h:=wd k) (w:=N) () () M _ g;show Q ?_;show(r,B,l,z,λt=>(P t).trans (x _),?_);have O:N<=lim:=()
 have y:k<m+1:=()
 have znN:=aj z.mono z.lt;have d:r<=lim:=()
 have f:=Jq (wd:=wd) (A:=A) (λj I=>by have:=S j I;lia) O k;rw[(_E.mpr λj I=>W j<|dy.mp I)]at f;have C:xP [.lst ((aT N).map λj=>xS wd<|A j),.int k]=aa (.own<|jy N (wd k) λj=>(A j).v k):=f;have G:zM (.nm 0) jh (qf<|za (zD xX<|za (zf 0) zA)<|za (zf 0) zA) [.no] (jy r N B)=aa ((aT r).map λj=>D.tup [.int ((l j:Nat)),.tup (zZ N<|B j)]):=by erw[jy];show zq _ _ λj I=>zu rfl rfl ?_;have I:=dy.mp I;simp[(Zv O (B j) (z.lt j I) (λi a=>z.jn j i I a)<|by rw[z.one j I];decide)]
 let b:D:=.gC ((aT r).map λj=>D.int<|(l j:Nat)) ((aT r).map λj=>D.tup<|zZ N<|B j);let L:D:=.lst ((aT N).map λj=>xS wd<|A j);have o:zM (.tp [0,1]) jh (fi (sB<|Mw (zf 0)<|zf 4) (zD aS<|za (zf 2)<|za (zf 3)<|za (OP (zf 4)<|zf 0) zA)<|zf 1) [.no,.no,.val<|jW p m w wd T,.val L,.val b] ((aT N).map λ(i:Nat)=>D.tup [.int i,xS wd (A i)])=aa ((aT N).map λi=>xS wd<|gE p A N r B l i):=by
  show zq _ _ λi a=>zu rfl rfl ?_;have a:=dy.mp a;have J:=lP l (λj=>D.tup<|zZ N<|B j) i<|aT r;have E:(aT r).find? (λj=>l j==i)=Lb r l i:=rfl;rw[E]at J;erw[gE];cases hx:Lb r l i with
  |none=>
   rw[hx]at J;simp[b,Mw,J]
  |some j=>
   rw[hx]at J;let(u,K):=CK hx;have e:=CH (T:=T) (w:=w) H S () hm (λk=>by have:=Y k;lia) hv a (λc X=>z.jn j c u ()) (by rw[<-K,z.one j u];decide);simp[b,Mw,OP,J,L,e]
 dsimp?[L,b]at o;have eq:=gR<|w k;show ji ?_;cases hw:w k<;>simp[hw]at Z eq<;>simp[jf,z9,cK,Xu,Y1,eK,U,hw,eq,Z,y,C,Xp (h:=wd k) (λj=>(A j).v k) O (),F,jj,G,d,bo (λj=>D.int<|(l j:Nat)) (λj=>D.tup<|zZ N<|B j)<|aT r,zjq z d,zh0,O,o]
end
def oD(n:Nat):xz Vc->D
 |none=>.cI
 |some y=>.tup (zZ n y)
theorem zjf(H:Pr p)(O:h<=190)(S:w<=190)(f:DW)(b:Vc)(J:∀i,i<h->0<=b i/\b i<p):
 ∃o,ZM [.int p,qJ h w f,.tup (zZ h b)]=aa (.val<|oD w o)/\(∀x,o=aa x->(∀j,0<=x j/\x j<p)/\∀i,i<h->app f w x i%p=b i%p)/\(o=af->¬∃y,∀i,i<h->app f w y i%p=b i%p):=by
 have d:=λi a=>so (J i a).1 (J i a).2;by_cases I:∃y,∀i,i<h->app f w y i%p=b i%p
 .let(y,I):=I
  let(x,e,F,G):=BF H O S f b y J λi a=>by rw[<-d i a,<-I i a];rfl
  show(aa x,e,λR C=>?_,λz=>by cases z);cases C;show(F,λi a=>by rw[d i a];show G i a)
 .refine aU λL=>?_;let(r,B,l,s,K,t,P,m,Q,Y):=Y7 H O S f b
  show L ?_;rw[DJ (by
   show aU λM=>I ?_;have E:s=r:=()
   subst E;show(mz w B l s,λi a=>?_);have g:=Ar K ((t _).mpr (.gen (i,a,rfl))) w ();have u:aug w f b i w=b i:=by simp[aug]
   rw[u]at g;rw[g];congr 1;erw[app,mz];rw[qm λj q=>(qR _ _ _).symm,VO];show qm λk Z=>?_;rw[qx (m k Z) λj N A=>by rw[DY (dh A)];simp,DJ rfl];simp?[aug,DJ (m k Z)])]at Y
  show(af,Y,nofun,λq=>I)
section
variable{wd:DX}{k:Nat}{p:Int}{w:DV}{T:DQ}
theorem YQ(b):cO (.str (jV (el b))) (.str "l")=aa (.bl b):=by cases b<;>kernel_rfl
theorem zhk(B:Pr p)(I:∀k,wd k<=16)(J:∀i j,i<dW w wd k->j<dv w wd k->0<=T k i j/\T k i j<p)(u)(O:∀i,i<wd k->0<=u i/\u i<p):
 ∃o,yT [.int p,yO w wd T k,.tup (zZ (wd k) u)]=aa (.val<|oD (wd<|k+1) o)/\(∀y,o=aa y->∀c,c<wd (k+1)->0<=y c/\y c<p)/\
  (w k=aF->(o=af->∀c,c<wd (k+1)->app (T k) (wd k) u c%p=0)/\∀y,o=aa y->(∀c,c<wd (k+1)->app (T k) (wd k) u c%p=y c%p)/\∃c,c<wd (k+1)/\y c%p≠0)/\
  (w k->(o=af->¬∃y,∀c,c<wd k->app (T k) (wd<|k+1) y c%p=u c%p)/\∀y,o=aa y->∀c,c<wd k->app (T k) (wd<|k+1) y c%p=u c%p):=by
 have t:=jm;have x:=B.le;have s:=I k;have r:=I<|k+1;cases hw:w k with
 |true=>
  have a:dW w wd k=wd k:=by erw[dW];rw[hw];rfl
  have b:dv w wd k=wd (k+1):=by erw[dv];rw[hw];rfl
  let(o,Y,d,f):=zjf B (w:=wd<|k+1) () () (T k) u O;show(o,ji (by simp[jf,z9,cK,Y1,hw,YQ ae,a,b,Y]),λy e c q=>(d y e).1 c,nofun,λq=>(f,λy e=>(d y e).2))
 | false=>
  have a:dW w wd k=wd (k+1):=by erw[dW];rw[hw];rfl
  have b:dv w wd k=wd k:=by erw[dv];rw[hw];rfl
  rw[a,b]at J;let V:=λi=>zN (λj=>T k i j*u j) (wd k)%p;have z:=mD (h:=wd<|k+1) (w:=wd k) .T (T k) u B.pos () () λi j m Z=>by have:=J i j m Z;lia
  simp?[m4]at z;have g:=iD V<|wd<|k+1;cases hb:(aT<|wd<|k+1).any λi=>V i != 0 with
  |true=>
   let(c,d,f):=T7.mp hb;show(aa V,ji (by simp[jf,z9,cK,Y1,hw,YQ aF,a,b,z,Lz,g,N6,_G,hb,V,oD]),(λy e c q=>by cases e;show(la _ (by have:=B.pos;lia),l7 _ B.pos)),λq=>(nofun,(λy e=>by cases e;show((λc q=>by simp?[V,vt];rfl),c,dy.mp d,by simpa[V]using f))),nofun)
  |false=>
   show(af,ji (by simp[jf,z9,cK,Y1,hw,YQ aF,a,b,z,Lz,g,N6,_G,hb,V,oD]),nofun,λq=>((λq c l=>by simpa[V,app]using (E3.mp hb c<|dy.mpr l)),nofun),nofun)
end
section
variable{wd:DX}{k:Nat}{p:Int}{w:DV}{T:DQ}
theorem CP(h:1<=n):eL n (-1)=aa (n-1):=by
 erw[eL]
 grind
theorem zlq(e:b.s+b.n=k+1)(y):Zl wd (sU k b<|some y)=Zl wd b++[D.tup (zZ (wd<|k+1) y)]:=by
 erw[Zl,sU];dsimp only;simp?[pX,nG];congr 1
 .refine mX λi a=>?_
  have a:=dy.mp a;rw[DY ()]
 .simp[e]
theorem BB(j:1<=b.n)(B:b.s+b.n=k+1)(J:k<=20)(e:yT [.int p,yO w wd T k,.tup (zZ (wd k)<|b.v k)]=aa (.val<|oD (wd<|k+1) o)):
 vU [.int p,yO w wd T k,xS wd b]=aa (.val<|xS wd<|sU k b o):=by
 have O:=jm;have z:=lE (wd:=wd) (b:=b) (i:=b.n-1) ();rw[show b.s+(b.n-1)=k by lia]at z;rw[vU];show ji<|zG (γ':=[vI p,.val<|yO w wd T k,.val<|xS wd b,.val (oD (wd<|k+1) o)]) ?_ ?_
 .unfold C_
  have a:aR (zU<|aR (zk 2)<|sI 1) (eZ<|sI 1) (z9 4 [.int p,yO w wd T k,xS wd b])=aa (.tup<|zZ (wd k)<|b.v k):=by have I:∀f,eZ (sI 1) f=aa _:=λq=>rfl;simp[z9,cK,CP j,I];show z
  simp?[AM,wx,ku,AQ,a];simp[z9,cK,e]
 .cases o with
  |none=>rfl
  |some y=>
   have d:b.n+1<=lim:=()
   simp[D',oD,LF,d,qM];erw[xS];rw[(zlq (wd:=wd) B y)];rfl
def EK(p:Int)(w:DV)(wd:DX)(T:DQ)(k:Nat)(L:zn Vc):Prop:=
 if w k then ∃q K l s,L=(aT q).map K/\gi p (wd<|k+1) q K l/\(∀v,Span p (wd<|k+1) (dX q K) v↔F4 p (wd k) (wd<|k+1) (T k) v)/\Rk p (wd k) (wd<|k+1) (λj i=>T k i j) s/\q+s=wd (k+1)
 else ∃r B l,gi p (wd<|k+1) r B l/\(∀v,Span p (wd<|k+1) (dX r B) v↔Span p (wd<|k+1) (dX (wd k) λj i=>T k i j) v)/\L=((aT<|wd<|k+1).filter λ(c:Nat)=> !decide ((c:Int)∈(aT r).map λj=>((l j:Nat):Int))).map v9
theorem Wb(l:DX):∀L:zn Nat,gG (L.map λj=>D.int<|(l j:Nat))=aa (L.map λj=>((l j):Int))
 |[]=>rfl
 |j::L=>by simp[gG,Wb l L]
theorem Hl(e:gi p n r B l):r<=n:=by
 have mono:∀k,k<r->k<=l k:=by
  intro k
  induction k with
  |zero=>lia
  |succ k I=>intro J;have:=I ();have:=e.mono k (k+1) () J;lia
 cases r with
 |zero=>lia
 |succ z=>have:=mono z ();have:=e.lt z ();lia
theorem Aa(n):xF (jy n n λi j=>if i=j then 1 else 0)=(aT n).map λ(i:Nat)=>D.tup [.int i,.tup (zZ n<|v9 i)]:=by erw[xF,jy];simp?[f7,pM];show mX λi a=>?_;simp[(dy.mp a)];rfl
theorem zhl(H:Pr p)(J:∀k,wd k<=16):∃L,EK p w wd T k L/\Jx [.int p,yO w wd T k]=aa (.own<|L.map λy=>D.tup<|zZ (wd<|k+1) y):=by
 have A:=jm;have x:=J k;have t:=J<|k+1;erw[EK];cases hw:w k with
 |true=>
  have b:dW w wd k=wd k:=by erw[dW];rw[hw];rfl
  have d:dv w wd k=wd (k+1):=by erw[dv];rw[hw];rfl
  let(q,K,l,s,e,a,f,O,Y):=Vb H (h:=wd k) (w:=wd<|k+1) () ()<|T k;show(_,by rw[DJ rfl];show(q,K,l,s,rfl,a,f,O,Y),ji<|by simp[jf,z9,cK,Y1,hw,YQ ae,b,d,e,jy])
 | false=>
  have b:dW w wd k=wd (k+1):=by erw[dW];rw[hw];rfl
  have d:dv w wd k=wd k:=by erw[dv];rw[hw];rfl
  let(r,B,l,e,a,f):=Wr H (h:=wd<|k+1) (w:=wd k) () ()<|T k;have C:=Hl a;have Z:r<=lim:=()
  have I:wd (k+1)<=lim:=()
  show(_,by rw[DY ()];show(r,B,l,a,f,rfl),?_);have m:zM (.nm 0) jh (zD xX<|za (zf 0) zA) [.no] (jy r (wd<|k+1) B)=aa ((aT r).map λj=>D.int<|(l j:Nat)):=by erw[jy];show zq _ _ λj z=>zu rfl rfl ?_;have z:=dy.mp z;simp[(Zv I (B j) (a.lt j z) (λi g=>a.jn j i z g)<|by rw[a.one j z];decide)]
  have u:zM (.tp [0,1]) (sB<|fK (zf 0)<|zk 2) (zf 1) [.no,.no,.val (.lst<|(aT r).map λj=>D.int<|(l j:Nat))] ((aT<|wd<|k+1).map λ(i:Nat)=>D.tup [.int i,.tup (zZ (wd<|k+1)<|v9 i)]) =
   aa (((aT<|wd<|k+1).filter λ(c:Nat)=> !decide ((c:Int)∈(aT r).map λj=>((l j):Int))).map λi=>D.tup<|zZ (wd<|k+1)<|v9 i):=by
   show jM _ _ _ λi g=>(_,rfl,?_,λv=>rfl);change((gG _).map _).bind nN=_;rw[(Wb l _)];rfl
  have o:=Zu I;show ji ?_;simp[jf,z9,cK,Y1,hw,YQ aF,jj,b,d,e,Z,m,rh,o,Aa,I]
  simp_all
end
section
variable{wd:DX}{k:Nat}
theorem Sd(y):xS wd (zt k y)=.tup [.int (k+1),.tup [.tup (zZ (wd<|k+1) y)]]:=by rfl
end
section
variable{wd:DX}
def Sx(c:Nat):eP:=(0,1,λ_=>v9 c)
def LB(b:eP):Int×Int:=((b.s:Int),((b.s+b.n-1:Nat):Int))
theorem ux:∀e:zn eP,(∀b,b∈e->1<=b.n/\b.s+b.n<=100)->gF qp (e.map<|xS wd)=aa (e.map LB)
 |[],_=>rfl
 |b::e,h=>by have a:=h b fA;simp?[kT,gF,VP (wd:=wd) a.1 a.2,ux e λb d=>h b<|eV _ d,dU];rfl
def WJ(e:zn eP):zn eP:=(xR<|e.map LB).map λi=>e.getD i LK
theorem bA(e):(WJ e).Perm e:=by have h:=qk<|e.map LB;rw[f7]at h;have:=h.map λi=>e.getD i LK;rw[j4]at this;show this
end
section
variable{p:Int}{n:Nat}
theorem Bb(H:Pr p)(S:n<=20)(f):∃r B l,gi p (n+n) r B l/\(∀v,Span p (n+n) (dX r B) v↔Span p (n+n) (dX n λi=>YW n (f i)<|v9 i) v)/\
 kf [.int p,qJ n n f]=aa (.val<|if fx (.lst<|jy r n B) (.lst<|jy n n v9) then .tup [.int n,.int n,.tup (jy r n λk j=>B k<|n+j)]else .cI):=by
 have A:=jm;have z:n<=lim:=()
 have Z:n+n<=lim:=()
 show aU λu=>?_;let(r,B,l,e,d,m):=Zx H (():n+n<=100) z .L _;show u ?_;show(r,B,l,d,m,?_);have I:r<=lim:=by have:=aj d.mono d.lt;lia
 have J:=Zu z;have a:zM (.tp [0,1]) jh (zF qM (zf 0)<|zf 1) [Cell.no,Cell.no] ((aT n).map λi=>D.tup [.tup (zZ n<|f i),.tup (zZ n λk=>if i=k then 1 else 0)])=aa (jy n (n+n) λi=>YW n (f i)<|v9 i):=by erw[jy];show zq _ _ λj y=>zu rfl rfl ?_;simp[qM,Z,Kq];rfl
 have O:=Bh n n f λi j=>if i=j then 1 else 0;have s:(n+n)=((n+n:Nat):Int):=()
 simp?[m4]at e;rw[<-s]at e;have Y:zM (.nm 0) jh (rO (zf 0) Jz<|eo<|zf 1) [Cell.no,vI n] (jy r (n+n) B)=aa (jy r n B):=by erw[jy];show zq _ _ λk t=>zu rfl rfl ?_;simp[md]
 have o:zM (.nm 0) jh (rO (zf 0) (eo<|zf 1) Jz) [Cell.no,vI n] (jy r (n+n) B)=aa (jy r n λk j=>B k<|n+j):=by erw[jy];show zq _ _ λk t=>zu rfl rfl ?_;simp[ma]
 have b:gQ (.lst<|jy r n B) (.lst<|jy n n λi j=>if i=j then 1 else 0)=aa (.bl<|!fx (.lst<|jy r n B) (.lst<|jy n n v9)):=by erw[gQ];rw[DJ (ly _ _ _,ly _ _ _)];rfl
 have g:∀h w f,qg (qJ h w f)=aa _:=λc c c=>rfl;by_cases q:fx (.lst<|jy r n B) (.lst<|jy n n v9)
 .rw[q]at b
  rw[DJ q];simp[kf,jq,z9,jf,g,J,O,z,I,jj,yX,cK,a,e,Y,o,b]
 .have x:= ~~~q
  rw[x]at b;rw[DY q];simp[kf,jq,z9,jf,g,J,O,z,I,jj,yX,cK,a,e,Y,b]
end
structure uA(p:Int)(wd:DX)(k:Nat)(b:eP):Prop where
 n1:1<=b.n
 le:b.s+b.n<=k+1
 gS:∀r i,b.has r=ae->i<wd r->0<=b.v r i/\b.v r i<p
section
variable{p:Int}{m k:Nat}{w:DV}{wd:DX}{T:DQ}
theorem Ij(e:Pr p)(h:EK p w wd T k L):pT L<=wd (k+1)/\∀y∈L,∀c,c<wd (k+1)->0<=y c/\y c<p:=by
 have d:=e.two;erw[EK]at h;split at h
 .let(q,K,l,s,rfl,I,_,_,b):=h
  show(by simp;lia,λy z c a=>?_);let(j,J,rfl):=eU.mp z;show I.gS j c (dy.mp J) a
 .let(r,B,l,I,_,rfl):=h
  show(by rw[f7];show et (DN _ _) (),λy z c a=>?_);let(j,J,rfl):=eU.mp z;erw[v9];lia
theorem CZ(S:Pr p)(U:∀k,wd k<=16)(hm:m<=5)(a6:k<m)(hT:∀i j,i<dW w wd k->j<dv w wd k->0<=T k i j/\T k i j<p){H:zn eP}(I:∀b∈H,uA p wd k b)(b4:pT H<=16):
 ∃W,(∀b∈W,uA p wd (k+1) b)/\(pT W)<=pT H+wd (k+1)/\aW [jW p m w wd T,.int k,.lst (H.map<|xS wd)]=aa (.val<|.lst<|W.map<|xS wd):=by
 have hl:=jm;have p0:=S.pos;have P:pT H<=lim:=()
 generalize hN:(H.filter λb=>b.has k).length=N;have b6:N<=pT H:=by rw[<-hN];show DN _ _
 let A:=λj=>(H.filter λb=>b.has k).getD j LK;have G:(H.filter λb=>b.has k)=(aT N).map A:=by rw[<-hN];show(j4 LK _).symm
 have M j:j<N->A j∈H/\(A j).has k:=λY=>by
  have:A j∈H.filter λb=>b.has k:=by rw[G];show eU.mpr (j,dy.mpr Y,rfl)
  have:=o5.mp this;show(this.1,~~~this.2)
 have u:=λj Y=>I _ (M j Y).1;have E:=λj Y=>(M j Y).2;show aU λkZ=>?_;let(r,B,l,hB,q,zhz):=zjk (T:=T) (w:=w) (A:=A) (N:=N) (k:=k) S (λj Y=>by have:=(u j Y).le;lia) E a6 () hm U λj J i Y O a=>(u j Y).gS J i O a;have ff i:i<N->uA p wd k (gE p A N r B l i):=λa=>by
  show(by rw[GT];show(u i a).n1,by rw[Ml,GT];show(u i a).le,λJ c O t=>?_);rw[rD]at O;erw[gE];split
  .exact(la _ (),l7 _ p0)
  .exact(u i a).gS J c O t
 have a5 i:i<N->(gE p A N r B l i).has k:=λa=>by rw[rD];show E i a
 have ex i:∃o,i<N->yT [.int p,yO w wd T k,.tup (zZ (wd k)<|(gE p A N r B l i).v k)]=aa (.val<|oD (wd<|k+1) o)/\∀y,o=aa y->∀c,c<wd (k+1)->0<=y c/\y c<p:=by
  by_cases a:i<N
  .let(o,d,x,_):=zhk (T:=T) (w:=w) (k:=k) S U hT ((gE p A N r B l i).v k) λc t=>(ff i a).gS k c (a5 i a) t
   show(o,λq=>(d,x))
  .exact(af,λz=>absurd z a)
 let(nx,F):=Y' ex;let(Z,Q,eN):=zhl (T:=T) (w:=w) (k:=k) S U;let(nl,nr):=Ij S Q;show kZ ?_;have as i:i<N->uA p wd (k+1) (sU k (gE p A N r B l i)<|nx i):=λa=>by
  have h:=ff i a;have hk:=zi.mp<|a5 i a;have bb:=h.le;cases hn:nx i with
  |none=>show(h.n1,by change(gE p A N r B l i).s+(gE p A N r B l i).n<=_;lia,h.gS)
  |some y=>
   show(by change 1<=(gE p A N r B l i).n+1;lia,by change(gE p A N r B l i).s+((gE p A N r B l i).n+1)<=_;lia,λJ c O t=>?_);change 0<=(if J=k+1 then y else (gE p A N r B l i).v J) c/\(if J=k+1 then y else (gE p A N r B l i).v J) c<p;have O:=zi.mp O;have bd:J<(gE p A N r B l i).s+((gE p A N r B l i).n+1):=O.2;split
   .next e=>subst e;show(F i a).2 y hn c t
   .exact h.gS J c (zi.mpr (O.1,())) t
 show(lN p k w H A N r B l nx Z,λb f=>?_,?_,?_)
 .have cs:(b∈H)\/(∃i,i<N/\b=sU k (gE p A N r B l i) (nx i))\/∃y∈Z,b=zt k y:=by
   erw[lN]at f;rcases l9.mp f with h|h
   .exact .inl (o5.mp h).1
   .by_cases C:w k<;>simp[C]at h<;>rcases h with⟨y,d,rfl⟩|⟨y,d,rfl⟩<;>first|show .inr (.inr (y,d,rfl))|show .inr<|.inl (y,d,rfl)
  rcases cs with h|⟨i,a,rfl⟩|⟨y,L,rfl⟩
  .exact((I b h).n1,by have:=(I b h).le;lia,(I b h).gS)
  .exact as i a
  .refine(cV 1,cV _,λJ c O t=>?_)
   have O:=zi.mp O;have e:J=k+1:=by have d:k+1<=J:=O.1;have x:J<k+1+1:=O.2;lia
   subst e;show nr y L c t
 .have d:(H.filter λb=> !b.has k).length+N=pT H:=by
   rw[<-hN,<-zf6,<-zf6,(List.length_eq_countP_add_countP (λb:eP=>b.has k) (l:=H))];have e:H.countP (λb=> !b.has k)=H.countP λb=>decide (¬b.has k):=List.countP_congr λb q=>by simp
   rw[e];lia
  erw[lN];rw[mK];cases w k<;>simp<;>lia
 .skip
  have K:∀b∈H,qe [xS wd b,.int k]=aa (.val<|.bl<|b.has k):=λb f=>Jr (by have:=(I b f).le;lia) k;have e3:zM (.nm 0) (jY<|sB<|zD qe<|za (zf 0)<|za (zf 1) zA) (zf 0) [.no,vI k] (H.map<|xS wd)=aa ((H.filter λb=> !b.has k).map (xS wd)):=
   jM (g:=xS wd) (λb=> !b.has k) (xS wd) H λb f=>([.val (xS wd b),vI k],rfl,by simp[K b f],λq=>by rfl)
  have e4:zM (.nm 0) (sB<|zD qe<|za (zf 0)<|za (zf 1) zA) (zf 0) [.no,vI k] (H.map<|xS wd)=aa ((aT N).map λj=>xS wd<|A j):=by
   have:((H.filter λb=>b.has k).map (xS wd))=(aT N).map λj=>xS wd (A j):=by rw[G,gw];rfl
   rw[<-this];show jM (g:=xS wd) (λb=>b.has k) (xS wd) H λb f=>([.val (xS wd b),vI k],rfl,by simp[K b f],λq=>by rfl)
  have e5:zM (.nm 0) jh (zD vU<|za (zf 1)<|za (zf 2)<|za (zf 0) zA) [.no,vI p,.val (yO w wd T k)] ((aT N).map λi=>xS wd<|gE p A N r B l i)=aa ((aT N).map λi=>xS wd<|sU k (gE p A N r B l i)<|nx i):=by show zq _ _ λi a=>zu rfl rfl ?_;have a:=dy.mp a;have d:=zi.mp<|a5 i a;have e:=BB (p:=p) (ff i a).n1 (by have:=(ff i a).le;lia) (():k<=20) (F i a).1;simp[e]
  have e6:zM (.nm 0) jh (qf<|za (zF qM (zf 1)<|sI 1)<|za (qf<|za (zf 0) zA) zA) [.no,vI k] (Z.map λy=>D.tup<|zZ (wd<|k+1) y)=aa ((Z.map<|zt k).map (xS wd)):=by rw[gw];show zq _ _ λy L=>zu rfl rfl ?_;change _=aa (xS wd<|zt k y);rw[Sd];rfl
  have be:=U<|k+1;have R:pT Z<=lim:=()
  have X:N<=lim:=()
  have bf:(H.filter λb=> !b.has k).length<=100:=et (DN _ _) ();have d:pT Z+N<=lim:=()
  have x:(H.filter λb=> !b.has k).length+(pT Z+N)<=lim:=()
  have h3:N+pT Z<=lim:=()
  have h4:(H.filter λb=> !b.has k).length+(N+pT Z)<=lim:=()
  have eq:=gR<|w k;show ji ?_;simp[jf,z9,cK,Xu,eK,a6,jj,P,e3,e4,zhz,X,e5,eN,R,e6];cases C:w k<;>simp[C]at eq<;>simp[Y1,C,eq,lN,d,x,h3,h4]
end
section
variable{N:Nat}{A:Nat->eP}
def I0(A:Nat->eP)(N r:Nat):zn Nat:=(aT N).filter λj=>(A j).has r
def SQ(A:Nat->eP)(N r:Nat):Nat->Nat->Int:=λi j=>(A<|(I0 A N r).getD j 0).v r i
end
section
variable{p:Int}{m:Nat}{w:DV}{wd:DX}{T:DQ}
theorem EA(B:Pr p)(j:n<=20)(H:q<=100)(f):∃d,kf [.int p,qJ n q f]=aa (.val d):=by
 by_cases e:q=n
 .subst e
  let(v,v,v,v,v,h):=Bb B j f;show(_,h)
 .have z:¬(q=(n:Int)):=()
  have a:qg (qJ n q f)=aa _:=rfl;show(.cI,by simp[kf,jq,z9,jf,a,z])
theorem zk9(H:Pr p)(z:∀k,wd k<=4)(S:m<=4)(O:∀k i j,k<m->i<dW w wd k->j<dv w wd k->0<=T k i j/\T k i j<p):
 ∃B:zn eP,(∀b∈B,uA p wd m b)/\(pT B)<=20/\wD [jW p m w wd T]=aa (.own<|B.map<|xS wd):=by
 have L:=jm;have K:=z 0;have J:wd 0<=lim:=()
 have Y:qg (qJ (wd 0) (wd 0) λi j=>if i=j then 1 else 0)=aa _:=rfl;have y:zM (.nm 0) jh (qf<|za (sI 0)<|za (qf<|za (zf 0) zA) zA) [.no] (jy (wd 0) (wd 0) λi j=>if i=j then 1 else 0)=aa (((aT<|wd 0).map Sx).map (xS wd)):=by rw[gw];erw[jy];show zq _ _ λi d=>zu rfl rfl ?_;rfl
 have A:Pg (z9 3 [jW p m w wd T])=aa (.next [.val (jW p m w wd T),.val<|.lst<|((aT<|wd 0).map Sx).map (xS wd),.no]):=by simp[Pg,z9,cK,Xu,Zu J,Y,jj,J];rw[y];simp
 have st:∀b∈(aT<|wd 0).map Sx,uA p wd 0 b:=λb a=>by let(c,q,rfl):=eU.mp a;show(cV 1,cV 1,λr i q q=>?_);have:=H.two;change 0<=v9 c i/\v9 c i<p;erw[v9];lia
 let(C,Z,B,c,I,t,rfl):=V8 (T:=.nm 2) (F:=jT 1<|zD aW<|za (zf 0)<|za (zf 2)<|za (zf 1) zA) (f:=X3<|zU<|aR (zk 0)<|sI 2)
  (λj l=>∃B c,(∀b∈B,uA p wd j b)/\(pT B)<=4*(j+1)/\l=[.val (jW p m w wd T),.val<|.lst<|B.map<|xS wd,c]) m ()
  (by simp[Xu]) (_,_,st,by simp;lia,rfl) λs h l g=>by let(B,c,I,t,rfl):=g;let(u,o,G,e):=CZ H (λk=>et (z k) ()) () h (O s · · h) I ();show(_,[_,_,vI s],rfl,?_,u,_,o,by grind,rfl);simp[e]
 show(WJ B,λb a=>I b<|(bA B).mem_iff.mp a,by rw[(bA B).length_eq];lia,?_);rw[wD];show ji<|zG A<|zG Z ?_;have x:pT B<64:=()
 erw[a_];have E:rM qp (zk 1) [.val (jW p m w wd T),.val<|.lst<|B.map<|xS wd,c]=aa ((WJ B).map (xS wd)):=by change((gF qp _).bind _)=_;rw[(ux (wd:=wd) B λb a=>((I b a).n1,by have:=(I b a).le;lia))];simp?[dU,f7,x,if_true];congr 1;erw[WJ];rw[gw];show mX λi d=>?_;have d:=dy.mp<|(qk _).mem_iff.mp d;rw[f7]at d;simp[d]
 simp_all
theorem AH(B:Pr p)(J:∀k,wd k<=4)(U:m<=4)(S:∀k i j,k<m->i<dW w wd k->j<dv w wd k->0<=T k i j/\T k i j<p):
 ∃K x y,pT K<=20/\(∀b∈K,0<=b.1/\b.1<=30/\0<=b.2/\b.2<=30)/\Ky [jW p m w wd T]=aa (.val<|.tup [.lst (jw K),x,y]):=by
 have hl:=jm;let(a,I,u,Y):=zk9 B J U S;let A:=λj=>a.getD j LK;have o:a=(aT (pT a)).map A:=(j4 LK _).symm;have O:=λj z=>I _ (by rw[o];show eU.mpr (j,dy.mpr z,rfl));have Z:pT a<=lim:=()
 have H:(a.map<|xS wd)=(aT (pT a)).map λj=>xS wd (A j):=by
  conv=>lhs;rw[o,gw]
  rfl
 rw[H]at Y;generalize (pT a)=N at *;let L:D:=.lst ((aT N).map λj=>xS wd<|A j);have f j:j<N->(A j).s+(A j).n<=100:=λz=>by have:=(O j z).le;lia
 let e:=λr=>qJ (wd r) (I0 A N r).length (SQ A N r);have t r:(I0 A N r).length<=N:=et (DN _ _) ();have l:zM (.tp [0,1]) jh (zD yU<|za (zf 1)<|za (j7<|jA xP<|za (zf 2)<|za (zf 0) zA) zA) [.no,.no,.val L] ((aT<|m+1).map λ(i:Nat)=>D.tup [.int i,.int (wd i)])=aa ((aT<|m+1).map e):=by show zq _ _ λr Q=>zu rfl rfl ?_;have g:=Jq (wd:=wd) f Z r;rw[lC (wd r) _]at g;have R:=J r;have:=t r;simp[-nc,L,g];show(_,Xp (q:=(I0 A N r).length) (h:=wd r) _ () (),rfl)
 have M:∀r,∃d,kf [.int p,e r]=_:=λr=>EA B (by have:=J r;lia) (by have:=t r;lia) _;let(bk,C):=Y' M;have F:zM (.nm 0) jh (zD kf<|za (aR (zk 1)<|sI 0)<|za (zf 0) zA) [.no,.val (jW p m w wd T)] ((aT<|m+1).map e)=aa ((aT<|m+1).map bk):=by show zq _ _ λr Q=>zu rfl rfl ?_;simp[Xu,C r]
 have G:zM (.nm 0) jh (zD qp<|za (zf 0) zA) [.no] ((aT N).map λj=>xS wd<|A j)=aa (jw<|(aT N).map λj=>LB<|A j):=by erw[jw];rw[gw];show zq _ _ λj z=>zu rfl rfl ?_;have z:=dy.mp z;simp[(VP (wd:=wd) (O j z).n1 (f j z))];show(rfl,rfl)
 have E:m+1<=lim:=()
 show((aT N).map λj=>LB<|A j,.lst<|(aT<|m+1).map bk,.lst<|(aT<|m+1).map e,~~~u,λb P=>?_,?_)
 .let(j,z,rfl):=eU.mp P
  have h:=O j<|dy.mp z;have W:=h.n1;have X:=h.le;erw[LB];lia
 dsimp?[L]at l;show ji (by simp[jf,z9,cK,Y,jj,Xu,lV _ _,E,l,F,Z,G])
theorem Nz(h:∀c∈en y,c<200):f6 (.str y):=cX (n:=0) (by simp[deep]) () (by
 change y.cps.all (· < 1114112);rw[<-_w];show k4.mpr λc a=>decide_eq_true<|Nat.lt_trans (h c a) ())
theorem tR(h:∀x∈l,∀c∈en x,c<200):∀c∈en (m1 (jV 32) l),c<200:=λc b=>by
 rw[qP]at b;rcases aC b with rfl|⟨a,ha,h2⟩
 .decide
 .let(x,z,rfl):=eU.mp ha
  show h x z c h2
theorem iz{n:Nat}(h:n<=30):∀c∈en (kU n),c<200:=by
 have:∀i:Fin 31,∀c∈en (kU<|(i.val:Nat)),c<200:=by decide +kernel
 show this (n,())
theorem zhs(S:Pr p)(Z:∀k,wd k<=4)(H:m<=4)(B:∀k i j,k<m->i<dW w wd k->j<dv w wd k->0<=T k i j/\T k i j<p):∃t,wB [jW p m w wd T]=aa (.val<|.str t)/\f6 (.str t):=by
 have P:=jm;let(K,x,y,N,r,e):=AH S Z H B;let z:Int×Int->Str:=λb=>kU b.1++jV 45++kU b.2;have γ:=by
  have:∀i:Fin 31,∀j:Fin 31,zO (kU (i.val:Nat)++jV 45++kU (j.val:Nat)):=by decide +kernel
  show λi j C E=>this (i,C) (j,E)
 have L:zO (jV 45):=by decide +kernel
 have A:∀b∈K,qA [.tup [.int b.1,.int b.2]]=aa (.val<|.str<|z b):=λb h=>by let(a,g,d,o):=r b h;have F:inR b.1:=yb () ();have G:inR b.2:=yb () ();simp[qA,jq,z9,cK,jf,eL,QT,fM,ny,Od,Ol,F,G,yu a g,yu d o,Kn,L,J3,z]
 have u:zM (.nm 0) jh (zD qA<|za (zf 0) zA) [.no] (jw K)=aa ((K.map z).map D.str):=by erw[jw];rw[gw];show zq _ _ λb h=>zu rfl rfl ?_;simp[A b h]
 have s:jT 1 (aR (zU<|zD Ky<|za (zf 0) zA)<|sI 0) (z9 2 [jW p m w wd T])=aa (.next [.val (jW p m w wd T),.val (.lst<|jw K)]):=by simp[z9,cK,e,eL]
 by_cases J:(jw K).isEmpty
 .refine("none",ji (zG s ?_),by decide +kernel)
  simp[J]
 .refine(m1 " " (K.map z),ji (zG s ?_),?_)
  rotate_left
  .rw[yK]
   show Nz<|tR λx I c hc=>?_;let(b,h,rfl):=eU.mp I;let(a,g,d,o):=r b h;have O:=iz (n:=b.1.toNat) ();have Y:=iz (n:=b.2.toNat) ();rw[NC a]at O;rw[NC d]at Y;rw[show en (z b)=_ from rfl,yw,yw]at hc;rcases l9.mp hc with hc|hc
   .rcases l9.mp hc with hc|hc
    .exact O c hc
    .rw[mY.mp hc];decide
   .exact Y c hc
  rw[QA];have:BH (zk 1) [.val (jW p m w wd T),.val (.lst<|jw K)]=aa ae:=by simp[J]
  erw[fi];rw[this];show congrArg (D1 _) (wo (M:=[.val (jW p m w wd T),.val (.lst (jw K))]) (f:=zJ (.str " ")) (q:=z7 (zL (zT (zk 1)) (.nm 0) 1 [] jh (zD qA (za (zf 0) zA)))) (l:=K.map z) rfl
  (by
   have:pT K<=lim:=()
   simp[this,jj,u]) (by simp;lia) (λx I=>by
    let(b,h,rfl):=eU.mp I;let(a,g,d,o):=r b h;have:=γ b.1.toNat b.2.toNat () ()
    rwa [NC a,NC d]at this) (by rfl))
end
theorem bT(m)(f:Nat->e):((aT m).map f).reverse=(aT m).map λk=>f (m-1-k):=by
 apply _a
 .simp
 .intro i a b
  simp at a b ⊢
theorem QH(w)(wd:DX)(T)(j:m<=900):vX [jW p m w wd T]=aa (.val<|jW p m (λk=> !w (m-1-k)) (λk=>wd<|m-k) λk=>T<|m-1-k):=by
 have e:=jm;have O:m<=lim:=()
 have a:qg (jW p m w wd T)=aa _:=rfl;have b:zM (.nm 0) jh (qf<|za (zD yS<|za (aR (zk 0)<|sI 0) zA)<|za (aR (zk 0)<|sI 1) zA) [Cell.no] ((aT m).map λk=>yO w wd T<|m-1-k)=aa (qT m (λk=> !w (m-1-k)) (λk=>wd<|m-k) λk=>T<|m-1-k):=by
  erw[qT];show zq _ _ λk z=>zu rfl rfl ?_;have z:=dy.mp z;have Y:qg (yO w wd T<|m-1-k)=_:=rfl;have Z:m-k=m-1-k+1:=()
  have d:m-(k+1)=m-1-k:=()
  simp[Y,VB _,yO,dW,dv];rw[Z,d];cases w (m-1-k)<;>simp
 have I:(qT m w wd T).reverse=_:=bT m _;have J:(zZ (m+1) λk=>(wd k)).reverse=zZ (m+1) λk=>((wd (m-k):Nat)):=by erw[zZ];rw[bT];simp
 simp?[vX,jq,z9];rw[jf];simp[a,ON,WN,I,J,O,jj,yX,cK];rw[b];simp[a,ON,WN,I,J,jW]
section
variable{q:Int}{m:Nat}{w:DV}{wd:DX}{T:DQ}
theorem BA(B:q=2\/q=3\/q=5\/q=7)(e:m<=5)(I:∀k i j,0<=T k i j/\T k i j<q)(h:∀k,wd k<=30)(hs:zN (λk=>(wd k)) (m+1)<=30):jg [.cI,.str ("row " ++ xD q m w wd T)]=aa (.str (xD q m w wd T),jW q m w wd T):=by
 have J:∀k i j,_/\T k i j<10:=λk i j=>((I k i j).1,by have:=(I k i j).2;lia);have a:("row" : Str)∈oW:=by decide +kernel
 rw[show("row ") = "row" ++ jV 32 from by rfl];let X:=(qh q w wd T m).map D.str;have Y:X ≠ []:=λz=>by have:=congrArg pT z;simp?[X]at this;rw[f7,jR]at this;simp at this
 have b:j7 _ _=aa (.lst (.str "row" :: X)):=Xf a B e J h .no .no;generalize D.str (_++_)=l at b;have f:ju [.lst (.str "row" :: X)]=_:=wa B e I h hs;have d:vh [.cI,.lst (.str "row" :: X)]=aa (.val (jW q m w wd T)):=by show ji (zG (γ':=[.val .cI,.val (.lst (.str "row" :: X)),.val (.str "row"),.no]) (by simp[z9,cK,eL]) (JH ?_));rw[Kg,show sB _ _=aa ae from by kernel_rfl];simp[f,nB]
 change(j7 _ _).bind _=_;simp?[b,dU];have tA:jY (sB (zD qd (za (zf 2) zA))) [.no,.val l,.val (.lst (.str "row" :: X))]=aa aF:=by simp[jY,(Wg a Y)]
 rw[tA,dU,DY i4];have O:=lK .no (.val l) "row" X;have tB:sB (zF gQ (aR (zk 2) (sI 0)) (zJ (.str "row"))) [.no,.val l,.val (.lst (.str "row" :: X))]=aa aF:=by
  erw[sB];rw[AU,O]
  kernel_rfl
 have tC:sB (q9 (aR (zk 2) (sI 0)) (zU (zJ (.tup [.str "row",.str "beside",.str "cut",.str "mirror",.str "opposite",.str "about",.str "split"])))) [.no,.val l,.val (.lst (.str "row" :: X))]=aa aF:=by show Eq.trans ?_ (lD (e' .no (.val l) (.val (.lst (.str "row" :: X)))) a);erw[sB,q9];rw[O];rfl
 change(D4 (sB _ _) _)=_;rw[tB,dU,DY i4,tC,dU,DY i4,d,dU];change(vV [jW q m w wd T]).map _=_;rw[(Jd (w:=w) B e J h)];rfl
theorem zj5{a b c:D}{t:Str}(h:wB [.tup [a,b,c]]=aa (.val (.str t))):jg [.tup [a,b,c],.str "bars"]=aa (.str t,.tup [a,b,c]):=by
 have e:wC [.tup [a,b,c],.lst [.str "bars"]]=aa (.val (.str t)):=by show ji (zG (γ':=[.val (.tup [a,b,c]),.val (.lst [.str "bars"]),.val (.str "bars")]) (by kernel_rfl) (JH ?_));rw[Kg,show sB _ _=aa ae from by kernel_rfl];simp[h,nB]
 have d:j7 (vD (zf 1) (zJ (.str " "))) [.no,.val (.str "bars"),.no]=aa (.lst [.str "bars"]):=by kernel_rfl
 have tA:jY (sB (zD qd (za (zf 2) zA))) [.no,.val (.str "bars"),.val (.lst [.str "bars"])]=aa aF:=by kernel_rfl
 have tC:sB (q9 (aR (zk 2) (sI 0)) (zU (zJ (.tup [.str "row",.str "beside",.str "cut",.str "mirror",.str "opposite",.str "about",.str "split"])))) [.no,.val (.str "bars"),.val (.lst [.str "bars"])]=aa ae:=by kernel_rfl
 generalize D.lst _=L at d tA tC e;generalize D.str "bars" = l at d tA tC;change(j7 _ _).bind _=_;simp?[d,dU,tA,dU,DY i4]
 simp_all
theorem KD{t:Str}(h:vX [.tup [a,b,c]]=aa (.val (.tup [z,I,J])))(O:vV [.tup [z,I,J]]=aa (.val (.str t))):jg [.tup [a,b,c],.str "mirror"]=aa (.str t,.tup [z,I,J]):=by
 let d:Ctx:=[.val (.tup [a,b,c]),.val (.lst [.str "mirror"]),.val (.str "mirror"),.no];have f:vh [.tup [a,b,c],.lst [.str "mirror"]]=aa (.val (.tup [z,I,J])):=by show ji (zG (γ':=d) (by kernel_rfl) (zG (γ':=d) (by kernel_rfl) (zG (γ':=d) (by kernel_rfl) (zG (γ':=d) (by kernel_rfl) (zG (γ':=d) (by kernel_rfl) (JH ?_))))));rw[Kg,show sB _ d=aa ae from by kernel_rfl];simp[d,h,nB]
 have e:j7 (vD (zf 1) (zJ (.str " "))) [.no,.val (.str "mirror"),.no]=aa (.lst [.str "mirror"]):=by kernel_rfl
 have tA:jY (sB (zD qd (za (zf 2) zA))) [.no,.val (.str "mirror"),.val (.lst [.str "mirror"])]=aa aF:=by kernel_rfl
 have tC l:sB (q9 (aR (zk 2) (sI 0)) (zU (zJ (.tup [.str "row",.str "beside",.str "cut",.str "mirror",.str "opposite",.str "about",.str "split"])))) [.no,l,.val (.lst [.str "mirror"])]=aa aF:=by kernel_rfl
 generalize D.lst _=L at e tA tC f;generalize D.str "mirror" = l at e tA;change(j7 _ _).bind _=_;simp?[e,dU,tA,dU,DY i4]
 simp_all
theorem zhm:jW q m (λk=> !(!w (m-1-(m-1-k)))) (λk=>wd<|m-(m-k)) (λk=>T<|m-1-(m-1-k))=jW q m w wd T:=by
 have e k:k<m->m-1-(m-1-k)=k:=λz=>by lia
 show BU (λk z=>by rw[e k z,Bool.not_not]) (λk z=>by congr 1;lia) λk i j z v v=>by rw[e k z]
end
section
variable{q:Int}{m:Nat}{w:DV}{wd:DX}{T:DQ}
theorem su(e:q=2\/q=3\/q=5\/q=7)(I:∀k i j,0<=T k i j/\T k i j<10)(h:∀k,wd k<=30):f6 (.str<|xD q m w wd T):=by
 show Nz<|tR ?_
 induction m with
 |zero=>
  intro x z;simp?[qh,d8,M8,or_false]at z;rcases z with rfl|rfl
  .rcases e with rfl|rfl|rfl|rfl<;>decide +kernel
  .exact iz<|h 0
 | succ s J=>
  intro x z;rw[qh]at z;rcases l9.mp z with z|z
  .exact J x z
  .simp?[d8,M8,or_false]at z
   rcases z with rfl|rfl
   .intro c hc
    rw[mq]at hc;rcases d8.mp hc with rfl|hc
    .split<;>decide
    .rcases l9.mp hc with hc|hc
     .have:=JD (I s) hc
      lia
     .rw[mY.mp hc]
      split<;>decide
   .exact iz<|h<|s+1
theorem MA:xD q m w wd T ≠ "":=λe=>by
 have z:2<=(qh q w wd T m).length:=by rw[jR];lia
 have d:en (xD q m w wd T)=[]:=by rw[e];decide +kernel
 erw[xD]at d;rw[qP]at d
 match h:qh q w wd T m with
 |[]=>rw[h]at z;cases z
 |[a]=>rw[h]at z;simp at z
 |a::b::r=>rw[h]at d;simp[Kf]at d
theorem Hj(e:q=2\/q=3\/q=5\/q=7)(z:∀k i j,0<=T k i j/\T k i j<10)(h:∀k,wd k<=30):gQ (.str (xD q m w wd T)) (.str "")=aa (.bl ae):=by erw[gQ];rw[DJ (su e z h,by decide +kernel)];simp[fx,Py,(beq_eq_false_iff_ne.mpr MA)]
end
theorem Na(h:0<=c):∃q,Pr q/\([D.int 2,.int 3,.int 5,.int 7])[(c%4).toNat]? = aa (.int q)/\eL 4 (c%4)=aa (c%4).toNat:=by
 let(r,z):=M1 (la c<|show 4≠0 by decide);rw[z];have I:r<4:=()
 rcases (():r=0\/r=1\/r=2\/r=3)with e|e|e|e<;>subst e
 .exact(2,.inl rfl,rfl,rfl)
 .exact(3,.inr<|.inl rfl,rfl,rfl)
 .exact(5,.inr<|.inr<|.inl rfl,rfl,rfl)
 .exact(7,.inr<|.inr<|.inr rfl,rfl,rfl)
theorem Lg(B:pT j<=63)(H:0<=a)(S:a<=1000){r n:Nat}(z:0<r)(U:r<=6)(W:n<=60):∃bs,vy [aG j,.int a,.int r,.int n]=aa (.own<|jw<|JF bs)/\(∀b∈JF bs,OE r b)/\(JF bs).length=n:=by
 have E:=jm;have I:n<=lim:=()
 show aU λJ=>?_;let(q,h,bs,f,l,m,g1,g2,rfl):=Zm (T:=.nm 5) (F:=zV (jT 6<|zD jD<|za (zf 0)<|za (zF qM (zf 1)<|zf 5) zA)<|zV (jT 7<|zF kM (zf 6)<|zf 2)<|jQ 4<|qf<|za (zf 7)<|za (zF qM (zf 7)<|zF kM (zF Vz (zf 6)<|sI 16)<|zF Vj (zf 2)<|zf 7) zA) (g:=λi=>D.int i)
  (λs u=>∃bs f l m,(∀b∈bs,OE r b)/\(pT bs)=s/\u=[.val (aG j),vI a,vI r,vI n,.own<|jw bs,f,l,m]) n (M:=[_,_,_,_,.own [],.no,.no,.no]) ([],_,_,_,by simp,rfl,rfl) (by
    rintro s G _ ⟨d,f,l,m,t,p,rfl⟩;let(o,A,C):=YU B (k:=a+s) () ();generalize J7 j (a+s)=x at *;have O:=l7 x (show(0:Int)<r by lia);have w:=la (x/16) (():r-x%r≠0);have y:=l7 (x/16) (():0<r-x%r);have Y:pT d<lim:=()
    have Z:(0:Int)<r:=()
    show(_,_,rfl,by simp[jf,o,Z,z,O,Y];rfl,d++[(x%r,x%r+x/16%(r-x%r))],_,_,_,λb hb=>?_,by simp[p],by simp[jw];show(rfl,rfl,rfl));rcases l9.mp hb with hb|hb
    .exact t b hb
    .have e:=mY.mp hb
     subst e;show(la x (show(r:Int)≠0 by lia),(),()))
 show J ?_;show(bs,?_,λb hb=>g1 b<|(QR bs).mem_iff.mp hb,by rw[(QR bs).length_eq,g2]);rw[<-je n λi=>i]at h;show ji (by simp[z9,jf,I,qo,cK,h,bD (():pT bs<64)])
section
variable{ns:zn Int}{p:Int}{m:Nat}{w:DV}{wd:DX}{T:DQ}
theorem zk6(H:0<=a)(S:a<=1000)(Z:pT ns<=63)(e:Pr p)(U:m<=5)(O:∀k,wd k<=7)(B:∀k x y,0<=T k x y/\T k x y<p):
 ∃f g,(∀k,k<m+1->Pair p (wd k) (f k) (g k))/\Zw [aG ns,.int a,jW p m w wd T]=aa (.val<|jW p m w wd<|fD p w wd f g T):=by
 have F:=jm;have d:m+1<=lim:=()
 have l:∀k,∃b:_×_,k<m+1->Pair p (wd k) b.1 b.2/\xY _=aa (.own [qJ (wd k) (wd k) b.1,qJ (wd k) (wd k) b.2]):=λk=>by
  by_cases z:k<m+1
  .let(f,g,t,u):=Mc Z e (n:=wd k) (by have:=O k;lia) (():0<=a+20*k) ()
   show((f,g),λq=>(t,u))
  .exact((λq q=>0,λq q=>0),λh=>absurd h z)
 let(I,J):=Y' l;show(_,_,λk z=>(J k z).1,?_);let L:=(aT<|m+1).map λk=>D.lst [qJ (wd k) (wd k) (I k).1,qJ (wd k) (wd k) (I k).2];have Y:zM (.tp [0,1]) jh uP [.no,.no,.val<|aG ns,vI a,.val (jW p m w wd T)] ((aT<|m+1).map λ(k:Nat)=>D.tup [.int k,.int (wd k)])=aa L:=zq _ _ λk z=>zu rfl rfl (by
  simp[uP,Xu,ZY 20 k () (),(J k<|dy.mp z).2,eL])
 have o:zM (.nm 0) jh (aR (zk 0)<|sI 0) [Cell.no] L=aa (QO (m+1) wd _):=zq _ _ λk q=>zu rfl rfl rfl;have r:zM (.nm 0) jh (aR (zk 0)<|sI 1) [Cell.no] L=aa (QO (m+1) wd _):=zq _ _ λk q=>zu rfl rfl rfl;have A:pT L<=lim:=by simp[L];lia
 have s:xF (zZ (m+1) λk=>(wd k))=_:=vO (m+1) _;erw[uP]at Y;show ji (by simp[uP,jf,z9,cK,Xu,s,d,jj,Y,A,o,r,(zjv (f:=λk=>(I k).1) (w:=w) e.pos e.le () (λk=>by have:=O k;lia) (λk i j q q q=>B k i j)<|λk i j z C E=>(J k z).1.bg i j C E)])
end
def mn:ZC:=fv (mI 7 (.nm 10) (zD jD (za (zf 0) (za (zF qM (sI 130) (zf 9)) zA)))) (fv (mI 7 (.nm 11) (j7 (jA qC (za (qf (za (zf 2) (za (zf 4) (za (zf 5) zA)))) (za (zF Vz (zf 10) (sI 64)) zA))))) (fv (mI 7 (.tp [12,13,14]) (aR (zk 11) (zF kM (zf 10) (X3 (zk 11))))) (DD (DE (mH (Lx jv (za (zf 12) (za (zf 13) (za (zf 14) zA))))) (Lv (vj jg (zJ (.str "bars"))) (zf 8))))))
def S6:=bM 7 (fv (DC (vj jg (xQ (zJ (.str "row ")) (zf 6)))) (fv (Lw 7 8 (vj jg (zJ (.str "bars")))) (fv (OH 7 (jE (sI 6)) (.nm 9) mn) (pE (vj jg (zJ (.str "mirror"))) (zJ (.str "")) (vj jg (zJ (.str "mirror"))) (zf 6)))))
theorem LV:Va=jq 15 (zV S0<|zV S1<|zV S2<|zV S3<|zV S4<|zV S5 S6):=rfl
theorem Lu(e:A M d=aa (.next γ',j)):fv A B M d=B γ' j:=by erw[fv];rw[e];rfl
theorem fu{T:Tg}(z:Bz i T)(e:f M=aa v)(b:qy T v M=aa γ'):mI i T f M d=aa (.next γ',d):=by erw[mI];rw[DJ z,e,dU,b];rfl
section
variable{ns:zn Int}{q:Int}{m:Nat}{w:DV}{bs:zn (Int×Int)}{c1 c3 c6 c7:Cell}{T:DQ}{tb:Str}
theorem An(a8:pT ns<=63)(hp:Pr q)(hm:m<=4)(hb:∀b∈bs,OE ((m+1:Nat)) b)(a9:pT bs<=4)(ac:jg [jW q m w (di bs) T,.str "bars"]=aa (.str tb,jW q m w (di bs) T))(ad:f6 (.str tb)):
 ∀(l:zn Nat),(∀i∈l,i<6)->∀B e Y I J O,∃d9 H S U W a7,aY (.nm 9) mn (l.map λ(i:Nat)=>D.int i) [.val (aG ns),c1,vI q,c3,.val<|.str<|wG m w,.val<|.lst<|jw bs,c6,c7,.val<|.str tb,B,e,Y,I,J,O] (jW q m w (di bs) T)
  = aa (.next [.val (aG ns),c1,vI q,c3,.val<|.str<|wG m w,.val<|.lst<|jw bs,c6,c7,.val<|.str tb,d9,H,S,U,W,a7],jW q m w (di bs) T)
 |[],_,B,e,Y,I,J,O=>(B,e,Y,I,J,O,rfl)
 | i::l,hi,B,e,Y,I,J,O=>by
  have P:=jm;have Q:=hi i fA;let(f,g,h):=YU a8 (k:=130+i) () ();generalize J7 ns (130+i)=c at f g h;let(L,p,γ,N,s):=Iq (w:=w) hp hm hb a9 (c:=c/64) ();let(k,u,d):∃k:Nat,c%(pT L)=k/\k<pT L:=((c%(pT L)).toNat,by
   have:=la c (show(pT L:Int)≠0 by lia);lia,by
   have:=l7 c (show(0:Int)<(pT L) by lia);lia)
  let(Z,a,n,r,K):=s L[k] (Z_ d);let(d9,H,S,U,W,a7,E):=An a8 hp hm hb a9 ac ad l (λj t=>hi j<|eV _ t) _ _ _ _ _ _;show(d9,H,S,U,W,a7,?_);rw[<-E];let M:=λB e Y I J O=>[.val (aG ns),c1,vI q,c3,.val<|.str<|wG m w,.val<|.lst<|jw bs,c6,c7,.val<|.str tb,B,e,Y,I,J,O];have x:mI 7 (.nm 10) (zD jD<|za (zf 0)<|za (zF qM (sI 130)<|zf 9) zA) (M (vI i) e Y I J O) (jW q m w (di bs) T)=aa (.next<|M (vI i) (.val<|.int c) Y I J O,jW q m w (di bs) T):=
   fu rfl (by simp[M,f]) rfl
  have y:mI 7 (.nm 11) (j7<|jA qC<|za (qf<|za (zf 2)<|za (zf 4)<|za (zf 5) zA)<|za (zF Vz (zf 10)<|sI 64) zA) (M (vI i) (.val<|.int c) Y I J O) (jW q m w (di bs) T)=aa (.next<|M (vI i) (.val<|.int c) (.val<|.lst L) I J O,jW q m w (di bs) T):=by
   have:3<=lim:=()
   show fu rfl (by simp[M,p,this]) rfl
  have A:mI 7 (.tp [12,13,14]) (aR (zk 11)<|zF kM (zf 10)<|X3<|zk 11) (M (vI i) (.val<|.int c) (.val<|.lst L) I J O) (jW q m w (di bs) T)=aa (.next<|M (vI i) (.val<|.int c) (.val<|.lst L) (.val<|.str Z) (.val<|.str a)<|vI n,jW q m w (di bs) T):=by
   have z:(0:Int)<pT L:=()
   show fu rfl (v:=.tup [.str Z,.str a,.int n]) ?_ rfl;rw[Ln];simp?[M,ic,AU,mx,Ow,Ms,Ti,Zr,qg,wt,dU,tW,Et,DJ z,gP,u,k9,DJ d,eO d,r]
  have C:DD (DE (mH (Lx jv (za (zf 12) (za (zf 13) (za (zf 14) zA))))) (Lv (vj jg (zJ (.str "bars"))) (zf 8))) (M (vI i) (.val (.int c)) (.val (.lst L)) (.val (.str Z)) (.val (.str a)) (vI n)) (jW q m w (di bs) T)=aa (.next (M (vI i) (.val (.int c)) (.val (.lst L)) (.val (.str Z)) (.val (.str a)) (vI n)),jW q m w (di bs) T):=by
   have F:mH (Lx jv<|za (zf 12)<|za (zf 13)<|za (zf 14) zA) (M (vI i) (.val<|.int c) (.val<|.lst L) (.val<|.str Z) (.val<|.str a)<|vI n) (jW q m w (di bs) T)=aa (aF,jW q m w (di bs) T):=by erw[mH,Lx];rw[show za (zf 12) (za (zf 13)<|za (zf 14) zA) (M (vI i) (.val<|.int c) (.val<|.lst L) (.val<|.str Z) (.val<|.str a)<|vI n)=aa [.str Z,.str a,.int n]from rfl,dU,K];rfl
   have G:Lv (vj jg (zJ (.str "bars"))) (zf 8) (M (vI i) (.val (.int c)) (.val (.lst L)) (.val (.str Z)) (.val (.str a)) (vI n)) (jW q m w (di bs) T)=aa (aF,jW q m w (di bs) T):=by erw[Lv,vj];simp?[Wk,dU,ac,dU,show zf 8 (M (vI i) (.val (.int c)) (.val (.lst L)) (.val (.str Z)) (.val (.str a)) (vI n))=aa (.str tb)from rfl,dU,Es ad];rfl
   erw[DD,DE];rw[F,dU,DY i4,G];rfl
  have o:mn (M (vI i) e Y I J O) (jW q m w (di bs) T)=aa (.next<|M (vI i) (.val<|.int c) (.val<|.lst L) (.val<|.str Z) (.val<|.str a)<|vI n,jW q m w (di bs) T):=by erw[mn];rw[Lu x,Lu y,Lu A,C]
  simp?[kT,aY,show qy (.nm 9) (.int i) [.val (aG ns),c1,vI q,c3,.val<|.str<|wG m w,.val<|.lst<|jw bs,c6,c7,.val<|.str tb,B,e,Y,I,J,O]=aa (M (vI i) e Y I J O)from rfl,dU,o];rfl
end
theorem Sj(B)(Y:pT B<=63):Va [aG B]=aa (.val<|.bl ae):=by
 have hl:=jm;let(A,o,P):=YU Y (k:=0) () ();generalize J7 B 0=c at A o P;let(q,e,ep,G):=Na o;have z:(q:Int)=2\/(q:Int)=3\/(q:Int)=5\/(q:Int)=7:=e;let(m,em,E):∃m:Nat,1+c/4%5=1+m/\m<=4:=((c/4%5).toNat,(),());let(n1,H,b4):∃n:Nat,c/20%5=n/\n<=4:=((c/20%5).toNat,(),());let(w,zhK):=LS Y (m:=m) ();have K:((m+1:Nat):Int)=1+(m:Int):=()
 let(ad,l,s,l1):=Lg Y (a:=10) () () (r:=m+1) (n:=n1) () () ();generalize JF ad=bs at l s l1;rw[K]at l;have t:bs.length<=4:=()
 have J k:di bs k<=4:=et (K9 bs k) t;have L:j6 [.int q,.str<|wG m w,.lst (jw bs)]=aa (.val<|jW q m w (di bs)<|js w bs):=by rw[wK () (),FP]
 let(f,g,fg,C):=zk6 (a:=20) () () (wd:=di bs) Y e (():m<=5) (λk=>by have:=J k;lia)<|Le e w bs;have Z:=Bw e.pos w (di bs) f g<|js w bs;generalize fD q w (di bs) f g (js w bs)=T at C Z;have O k i j:0<=T k i j/\T k i j<10:=((Z k i j).1,by have:=(Z k i j).2;lia);have I k:di bs k<=30:=by have:=J k;lia
 have zkY:=BA (w:=w) z (():m<=5) Z I (rq (():m<=5) λk=>(by have:=J k;lia:di bs k<=5));let(F,M,N):=zhs (w:=w) e J E (T:=T) λk i j v v v=>Z k i j;have tB:jg [jW q m w (di bs) T,.str "bars"]=aa (.str F,jW q m w (di bs) T):=zj5 M;have u:=QH (p:=(q:Int)) (m:=m) (λk=> !w (m-1-k)) (λk=>di bs (m-k)) (λk=>T (m-1-k)) ();rw[zhm]at u;have mt:=Jd (p:=(q:Int)) (w:=λk=> !w (m-1-k)) (wd:=λk=>di bs (m-k)) (T:=λk=>T (m-1-k)) z (():m<=5) (λk=>O _) λk=>I _;have rt:=Jd (w:=w) z (():m<=5) O I;have ne:=Hj (q:=(q:Int)) (m:=m) (w:=λk=> !w (m-1-k)) (wd:=λk=>di bs (m-k)) (T:=λk=>T (m-1-k)) z (λk=>O _) λk=>I _;have ok:=su (m:=m) (w:=w) z O I;have as:jg [jW q m w (di bs) T,.str "mirror"]=aa (_,jW q m (λk=> !w (m-1-k)) (λk=>di bs (m-k)) (λk=>T (m-1-k))):=KD (QH (p:=(q:Int)) (m:=m) w (di bs) T ()) mt;let(d9,b6,b7,b8,b9,bb,go):=An (c1:=.val (.int c)) (c3:=.val (.int (1+(m:Int)))) (c6:=.val (.str (xD q m w (di bs) T))) (c7:=.no) Y e E s t tB N (aT 6) (λi hi=>dy.mp hi) .no .no .no .no .no .no;let b:Cell->Cell->Cell->Cell->Cell->Cell->Ctx:=λQ c3 R S c6 U=>[.val (aG B),vI c,Q,c3,R,S,c6,.no,U,.no,.no,.no,.no,.no,.no];let d:Cell->Ctx:=b (vI q) (.val (.int (1+(m:Int)))) (.val (.str (wG m w))) (.val (.lst (jw bs))) (.val (.str (xD q m w (di bs) T)));have s7:S6 (d .no)=aa (.ret (.val (.bl ae))):=by
  have W:DC (vj jg (xQ (zJ (.str "row ")) (zf 6))) (d .no) .cI=aa (.next (d .no),jW q m w (di bs) T):=by
   erw[DC,vj];rw[Zt (x:="row ") (y:=xD q m w (di bs) T) rfl rfl (by rfl) (JJ z () O I λk=>by
  have h1:dW w (di bs) k<=4:=by rw[ZX];show J _
  have h2:dv w (di bs) k<=4:=by rw[JC];show J _
  show et (Nat.mul_le_mul h1<|show dv w (di bs) k+1<=5 by lia) ()),dU,zkY]
   rfl
  have X:Lw 7 8 (vj jg (zJ (.str "bars"))) (d .no) (jW q m w (di bs) T)=aa (.next (d (.val (.str F))),jW q m w (di bs) T):=by erw[Lw,vj];rw[DY (),Wk,dU,tB];rfl
  erw[S6,bM];rw[DJ (rfl,show 7<15 by decide),show(d .no).set 7 .no=d .no from rfl,Lu W,Lu X,Lu (by
   assumption)]
  have d4:∀b:Ctx,zf 6 b=aa (.str (xD q m w (di bs) T))->pE (vj jg (zJ (.str "mirror"))) (zJ (.str "")) (vj jg (zJ (.str "mirror"))) (zf 6) b (jW q m w (di bs) T)=aa (.ret (.val (.bl ae)),jW q m w (di bs) T):=λb h=>by erw[pE,vj];simp?[Wk,dU,as,dU,Wk,dU,ne,dU];change(if ae then _ else af)=_;rw[DJ rfl];change(D4 (jg [jW q m (λk=> !w (m-1-k)) (λk=>di bs (m-k)) (λk=>T (m-1-k)),.str "mirror"]) _)=_;simp?[show jg [jW q m (λk=> !w (m-1-k)) (λk=>di bs (m-k)) (λk=>T (m-1-k)),.str "mirror"]=aa (.str (xD q m w (di bs) T),jW q m w (di bs) T)from(KD u rt),dU,h,dU,lY ok];rfl
  rw[d4 _ rfl];rfl
 rw[LV];show ji<|zG (γ':=b .no .no .no .no .no .no) (by simp[S0,z9,A,d,b])<|zG (γ':=b (vI q) .no .no .no .no .no) (by simp[S1,d,b,G,ep])<|zG (γ':=b (vI q) (.val<|.int<|1+(m:Int)) .no .no .no .no) (by simp[S2,d,b,em])<|zG (γ':=b (vI q) (.val<|.int<|1+(m:Int)) (.val<|.str<|wG m w) .no .no .no) (by simp[S3,d,b,zhK])<|zG (γ':=b (vI q) (.val<|.int<|1+(m:Int)) (.val<|.str<|wG m w) (.val<|.lst<|jw bs) .no .no) (by simp[S4,d,b,H,l])<|zG (γ':=d .no) (by simp[S5,d,b,L,C,(J0 (w:=w) z (():m<=5) O I)]) s7
def top(i:Nat):PySem.Stmt:=PySem.Challenge.pw_barsplit_k67_refused_at_the_desk.main.body.getD i<|.Pass (0,0,0,0)
section
variable{CR:PySem.Addr}{P:PySem.Program}{w:PySem.World}{K:aO}{mg:PySem.Str->xz PySem.Value}{base:PySem.Heap}
theorem Bf(h:pT us=n+1):∃a t,us=a::t/\(pT t)=n:=by
 cases us with
 |nil=>show absurd h<|Nat.zero_ne_add_one n
 |cons a t=>show(a,t,rfl,Nat.succ.inj h)
def wl:Nat->(List PySem.Value->Prop)->Prop|0,P=>P []|n+1,P=>∀a,wl n λl=>P (a::l)
theorem wn(n):∀P,wl n P->∀us,us.length=n->P us:=by
 induction n with
 |zero=>intro P h us e;rw[List.length_eq_zero_iff.mp e];exact h
 |succ n i=>intro P h us e;cases us with|nil=>cases e|cons a l=>exact i (λl=>P (a::l)) (h a) l (Nat.succ.inj e)
def wf s:=(ya s).args.map (·.arg)
structure xL(K:aO)(mg:PySem.Str->Option PySem.Value)(d:Str->Nat->Prop)(m:Str->Prop)(g:Str->D->Prop)(x y:Str->Prop):Prop where
 Q0:d "is_desk_line" 147
 Q1:d "behind_noughts" 35
 Q2:d "rests" 20
 Q3:d "inverse" 21
 Q4:d "cleared" 33
 Q5:d "base_of" 34
 Q6:d "turned_over" 28
 Q7:d "same_table" 29
 Q8:d "led_into" 37
 Q9:d "kernel" 38
 Qa:d "image" 39
 Qb:d "columns" 46
 Qc:d "has_room" 44
 Qd:d "loads_in" 45
 Qe:d "lead_of" 32
 Qf:d "led" 26
 Qg:d "mixed_load" 47
 Qh:d "mixed" 48
 Qi:d "settled" 49
 Qj:d "solved" 40
 Qk:d "next_load" 50
 Ql:d "taken_on" 51
 Qm:d "new_loads" 52
 Qn:d "grown" 53
 Qo:d "stretch_of" 43
 Qp:d "all_grown" 54
 Qq:d "back_of" 41
 Qr:d "barred" 55
 Qs:d "stretch_text" 150
 Qt:d "bars_text" 153
 Qu:d "is_whole" 18
 Qv:d "is_room" 63
 Qw:d "ask_rooms" 95
 Qx:d "kept_text" 154
 Qy:d "rooms_behind" 149
 Qz:d "is_arrow_word" 131
 e?:d "is_prime_word" 129
 f?:d "is_width_word" 130
 g?:d "has_form" 132
 Yo:d "check_forms" 133
 i?:d "are_widths" 64
 Yp:d "widths_of" 65
 j?:d "figures_of" 134
 k?:d "rows_read" 135
 l?:d "is_prime" 19
 m?:d "is_side" 22
 n?:d "is_listed" 23
 o?:d "is_line" 24
 Yr:d "table_of" 25
 p?:d "end_of" 61
 q?:d "beginning_of" 60
 Ys:d "arrow_of" 66
 r?:d "are_rests" 136
 Yv:d "arrow_read" 137
 Yx:d "row_read" 138
 Yy:d "row_behind" 148
 s?:d "ways_of" 67
 t?:d "one_kind" 68
 YF:d "ask_one_kind" 69
 YP:d "count_ways" 111
 Y6:d "count_upon" 141
 u?:d "alike" 116
 Zb:d "alike_text" 155
 Zg:d "answered" 156
 v?:d "ask_together" 70
 w?:d "widths_together" 92
 x?:d "joined" 93
 y?:d "nought_table" 30
 z?:d "no_join" 90
 Zh:d "beside" 94
 A?:d "cut" 96
 B?:d "arrows_of" 72
 C?:d "is_end" 73
 D?:d "is_beginning" 74
 E?:d "ask_turn" 75
 F?:d "turned_about" 82
 G?:d "other_way" 62
 H?:d "mirrored" 97
 ZP:d "changed" 152
 I?:d "table_text" 126
 J?:d "arrow_text" 127
 K?:d "row_text" 128
 L?:d "_law_cell" 159
 M?:d "_law_ways" 163
 N?:d "_law_bars" 164
 O?:d "_law_text" 170
 P?:d "_law_times" 160
 Q?:d "_law_in_turns" 167
 R?:d "_law_turn" 162
 S?:d "_law_hidden" 168
 T?:d "_law_texts" 171
 U?:d "_law_with" 165
 V?:d "_law_bar_row" 166
 W?:d "_law_lines" 172
 X?:d "_law_kinds" 169
 Y?:d "_law_refused" 173
 Z?:d "law" 174
 Z0:m "all"
 Z1:m "len"
 Z2:m "any"
 Z3:m "tuple"
 Z4:m "range"
 Z5:m "zip"
 Z6:m "enumerate"
 Z7:m "sum"
 zgz:m "dict"
 Z9:m "sorted"
 Za:m "list"
 zgB:m "bool"
 Zc:m "int"
 Zd:m "isinstance"
 Ze:m "str"
 Zf:m "reversed"
 zgC:m "min"
 zgD:m "ValueError"
 G0:g "LINES_WITH_A_ROW" (.tup [.str "row",.str "beside",.str "ways",.str "upon",.str "alike"])
 G1:g "ROOM_WORDS" (.tup [.str "0",.str "1",.str "2",.str "3",.str "4",.str "5"])
 G2:g "TABLE_SIGNS" (.str "0123456789/")
 G3:g "PRIMES" (.tup [.int 2,.int 3,.int 5,.int 7])
 G4:g "MOST_TOGETHER" (.int 30)
 G5:g "MOST_ROOMS" (.int 6)
 G6:x "NoWidths"
 G7:g "MOST_HIGH_OR_WIDE" (.int 30)
 G8:x "NoPrime"
 G9:x "NoTable"
 Ga:g "WAYS" (.tup [.str "r",.str "l"])
 Gb:XH K mg "NoTable"
 Gc:x "Unlike"
 Gd:x "TooMany"
 Ge:x "NoTurn"
 Gf:y "NoArrow"
 Gg:y "NoLine"
 Gh:y "NoPrime"
 Gi:y "NoRoom"
 Gj:y "NoRow"
 Gk:y "NoTable"
 Gl:y "NoText"
 Gm:y "NoTurn"
 Gn:y "NoWidths"
 Go:y "Nothing"
 Gp:y "Nought"
 Gq:y "TooMany"
 Gr:y "Unlike"
 Gs:g "CHANGING_LINES" (.tup [.str "row",.str "beside",.str "cut",.str "mirror",.str "opposite",.str "about",.str "split"])
 Gt:x "NoLine"
 Gu:x "Nothing"
 Gv:Ri K "at" = ae
 Gw:Ri K "room" = ae
 Gx:XS K mg
 Gy:n7 K mg "NoArrow" "NoArrow.__init__" "at" (Vw (top 12) 0) "at"
 Gz:n7 K mg "NoRoom" "NoRoom.__init__" "room" (Vw (top 14) 0) "room"
 XP:n7 K mg "NoText" "NoText.__init__" "at" (Vw (top 13) 0) "at"
abbrev E0(K:aO)(mg:PySem.Str->Option PySem.Value):=xL K mg (λx i=>cJ K mg x (top i) (wf (top i))) (λx=>mg x=af) (GL K mg) (XC K mg) (XI K mg)
theorem W9(A:n7 K mg "NoArrow" "NoArrow.__init__" "at" (Vw (top 12) 0) "at"):↑De 1 "NoArrow":=
 LM (k:=0) A () () λC z X I e J d b a=>by subst I e J d b;show qL (BY a z () () () () ())<|kY<|Hv a z () ()
theorem XG(A:n7 K mg "NoArrow" "NoArrow.__init__" "at" (Vw (top 12) 0) "at"):↑XJ 1 "NoArrow":=
 FU (k:=0) A () () λC z X I e J d b a=>by subst I e J d b;show qL (WX a z () () () () ())<|kY<|fY a z () ()
theorem Jm(A:n7 K mg "NoRoom" "NoRoom.__init__" "room" (Vw (top 14) 0) "room"):↑XJ 1 "NoRoom":=
 FU (k:=0) A () () λC z X I e J d b a=>by subst I e J d b;show qL (WX a z () () () () ())<|kY<|fY a z () ()
theorem Yq(A:n7 K mg "NoText" "NoText.__init__" "at" (Vw (top 13) 0) "at"):↑XJ 1 "NoText":=
 FU (k:=0) A () () λC z X I e J d b a=>by subst I e J d b;show qL (WX a z () () () () ())<|kY<|fY a z () ()
variable(E:E0 K mg)
include E
theorem Zi(z:ui w K mg "ROOMS_BEHIND" zj):↑cL 1 "is_desk_line" 1 qd:=
 Uh (N:=["words","first"]) E.Q0 () λX I f J e d a O=>by subst I f J e d;show by exists jo zQ,jb (HE zw (PV.q (Jh a () E.G0))) (zh (zE (RU (xJ a () E.Z1 jz) zm))) zH,jb (ZO (vE (ziZ z a zw) (ki (JN a (xJ a () E.Z1 jz) (jB (MK z a zw) zm))))) (zh (zE nI)) zH,(zh (zE (wJ a () E.Z0 (PO.q (jO a (zS (PO.q (iZ jz (jK zm) qI))) (λv v v b=>sJ zw (PV.q (Jh b () E.G1))))))))
theorem zgi:↑cL 1 "behind_noughts" 2 xu:=
 qu E (·.Q1) λX E b z=>zh<|j9<|WZ b (zS jz) (λv v v a=>jc<|zY<|Fb a () E.Z2<|PV.q<|bZ zw qI<|jK zw)<|λv v v a=>bZ zw (jK zw) qI
theorem JT:↑cL 1 "rests" 2 ky:=
 qu E (·.Q2) λX E a z=>zh<|zE<|jH a () E.Z3<|PO.q<|jO a (zS jz)<|λv v v b=>j8 zw zw
theorem zjK:↑cL 1 "inverse" 2 Vd:=
 qu E (·.Q3) λX E a z=>by exists kK z a (lg a () E.Z4 zm zw)<|zh<|jb (jr a (j8 (xI zw zw) zw) zm) (zh<|JO 2<|a.var ()) zH,(zh jU)
theorem V3:↑cL 2 "cleared" 4 yV:=
 qu E (·.Q4) λX E a z=>by exists jo<|jF jz zw,jb (jr a zw zm) (zh<|JO 1<|a.var ()) zH,(zh<|zE<|zK (JT E)<|zb zw<|zb (PO.v<|jO a (ed.c<|w6 a () E.Z5 zw zw)<|λq q q b=>yZ zw<|xI zw zw) zo)
theorem ZH:↑cL 3 "base_of" 3 ke:=
 qu E (·.Q5) λX E a z=>by exists jI 3<|vo a (zS jz)<|λx x x b=>zK (JT E) d7,qO<|jJ<|qZ zo,(kK z a (jZ a () E.Z4 zw)<|by exists jI 6<|HI a (zS jz) (λx x x b=>JN b (jF jz zw) zm)<|λx x x b=>nJ b,jb (jc<|iU jz) (zh zha) zH,jo<|zK (zjK E)<|zb zw<|zb (jF (PV.q zQ) zw) zo,jo<|zK (JT E)<|zb zw<|zb (PO.v<|jO a (zS<|PV.q zQ)<|λx x x b=>xI zw zw) zo,jI 3<|vo a (zS jz)<|λx x x b=>zK (V3 E)<|zb zw oT,(zh<|qO<|kL (PO.q<|jO a (zS jz)<|λx x x b=>zK (V3 E)<|zb zw oT)<|PO.q<|jJ<|qZ dc)),(zh<|JO 4<|a.var ())
theorem vq:↑cL 1 "turned_over" 1 qV:=
 qu E (·.Q6) λX E a z=>by exists jI 1<|vo a (ed.c<|jZ a () E.Z4 zQ)<|λv v v b=>jH b () E.Z3<|PO.q<|jO b (zS<|PV.q zQ)<|λv v v d=>jF jz zw,(zh<|zE<|zP<|qZ<|zb zQ<|zb zQ<|zb (jH a () E.Z3 jz) zo)
theorem yf:↑cL 1 "same_table" 1 qQ:=
 qu E (·.Q7) λX E a z=>by exists jI 1<|vo a (ed.c<|jZ a () E.Z4 zw)<|λv v v b=>jH b () E.Z3<|PO.q<|jO b (ed.c<|jZ b () E.Z4 zw)<|λv v v d=>qS (jr d zw zw) zm zm,(zh<|zE<|zP<|qZ<|zb zw<|zb zw<|zb (jH a () E.Z3 jz) zo)
theorem Yl:↑cL 4 "led_into" 3 yt:=
 qu E (·.Q8) λX E a z=>by exists jI 3<|vo a (ed.c<|w6 a () E.Z5 (jF (PV.q<|zK (vq E) dc) zm)<|jF (PV.q<|zK (yf E)<|zb zQ zo) zm)<|λx x x b=>jB zw zw,jI 4<|vo a (zS jz)<|λx x x b=>jB zw<|xI (zP<|qZ<|zb zm zo) zQ,(zh<|j9<|xj (zgi E)<|zb zQ<|zb (PO.v<|xj (ZH E)<|zb zw<|zb (jB zQ zQ)<|zb (PO.v<|kL jz jz) zo) zo)
theorem cR:↑cL 5 "kernel" 2 wz:=
 qu E (·.Q9) λX E a z=>zh<|j9<|xj (Yl E)<|zb zw<|zb zw<|zb (PO.v<|jJ<|qZ zo) zo
theorem lx:↑cL 4 "image" 2 Xr:=
 qu E (·.Qa) λX E a z=>zh<|j9<|xj (ZH E)<|zb zw<|zb zQ<|zb (jF (PV.q<|zK (vq E) dc) zm) zo
theorem Xd:↑cL 2 "columns" 2 yU:=
 qu E (·.Qb) λX E a z=>zh<|zE<|zK (vq E)<|zb (zP<|qZ<|zb (xJ a () E.Z1 jz)<|zb zw<|zb (jH a () E.Z3 jz) zo) zo
theorem we:↑cL 1 "has_room" 2 qe:=
 qu E (·.Qc) λX E a z=>zh<|zE<|WU Vo tJ ZQ bF zQ zw<|jB zQ<|xJ a () E.Z1<|PV.q zQ
theorem Jl:↑cL 2 "loads_in" 2 xP:=
 qu E (·.Qd) λX E a z=>zh<|j9<|WZ a (zS jz) (λv v v b=>zY<|zK (we E) d7)<|λv v v b=>jF (PV.q zQ)<|yZ zw zQ
theorem ZG:↑cL 1 "lead_of" 1 xX:=
 qu E (·.Qe) λX E b z=>zh<|zE<|jF (PO.q<|WZ b (ed.c<|V0 b () E.Z6 zw) (λv v v a=>JN a zw zm)<|λv v v a=>nJ a) zm
theorem Fm:↑cL 2 "led" 3 Ba:=
 qu E (·.Qf) λX E b z=>zh<|zE<|zK (JT E)<|zb zw<|zb (PO.v<|jO b (zS<|PV.q zQ)<|λx x x a=>iT a () E.Z7<|PO.q<|jO a (ed.c<|w6 a () E.Z5 zw zw)<|λx x x d=>xI zw zw) zo
theorem W7:↑cL 3 "mixed_load" 4 vf:=
 qu E (·.Qg) λX E a z=>by exists jI 4<|HI a (ed.c<|w6 a () E.Z5 zw zw) (λx x x b=>zY<|zK (we E) d7)<|λx x x b=>nJ b,(zh<|zE<|zK (Fm E)<|zb zQ<|zb (zK (Xd E)<|zb (jF (PV.q zQ) zw)<|zb (PO.v<|xj (Jl E) d7) zo) dc)
theorem Cz:↑cL 4 "mixed" 3 aS:=
 qu E (·.Qh) λX E a z=>by exists jo<|jF jz<|zK (ZG E) dc,jI 4<|vo a (ed.c<|jZ a () E.Z4<|xJ a () E.Z1<|PV.q zQ)<|λv v v b=>zK (W7 E)<|zb zw<|zb zw<|zb zw<|zb (jB zQ zw) zo,(zh<|zE<|zP<|qZ<|zb zQ<|zb (jH a () E.Z3 jz) zo)
theorem zja:↑cL 6 "settled" 3 Y8:=
 qu E (·.Qi) λX E a z=>by exists jo<|jF (PV.q<|jF (PV.q zQ) zw) zm,jo<|jF (PV.q<|jF (PV.q zQ) zw) zm,jo<|qS (jr a zw zl) (PO.v<|xj (cR E)<|zb zQ dc)<|PO.v<|xj (lx E)<|zb zQ dc,jo<|PO.v<|xj (Yl E)<|zb zQ<|zb (zK (Xd E)<|zb (jF (PV.q zQ) zw)<|zb (PO.v<|xj (Jl E) d7) zo) dc,jo<|BZ a () E.zgz<|jO a (zS jz)<|λx x x b=>zP<|qZ<|zb (zK (ZG E) dc) dc,(zh<|j9<|jO a (ed.c<|Ji a () E.Z6 zw)<|λx x x b=>qS (HF b zw zw) (zK (Cz E)<|zb zw<|zb zw<|zb (MP b zw zw) zo) zw)
theorem zkS:↑cL 4 "solved" 3 ZM:=
 qu E (·.Qj) λX E a z=>by exists jo zQ,qO<|MY (jJ<|qZ<|zb zm zo) zw,(kK z a (W1<|PO.v<|xj (ZH E)<|zb zw<|zb (jB zw zm)<|zb (PO.v<|jO a (ed.c<|w6 a () E.Z5 zQ zw)<|λq q q b=>jB zw<|zP<|qZ dc) zo)<|by exists jo<|zK (ZG E) dc,jb (jr a zw zw) (zh<|zE VV) zH,(zh<|K6 4 a () zw<|jF jz zw)),(zh<|zE<|jH a () E.Z3 jz)
theorem zg3:↑cL 5 "next_load" 3 yT:=
 qu E (·.Qk) λX E a z=>by exists jb (jr a zQ zl) (zh<|zE<|zK (zkS E)<|zb zw<|zb zQ dc) zH,jo<|zK (Fm E)<|zb zw<|zb zQ dc,(zh<|zE<|qS (zY<|Fb a () E.Z2 jz) zw VV)
theorem zh5:↑cL 6 "taken_on" 3 vU:=
 qu E (·.Ql) λX E a z=>by exists jo<|zK (zg3 E)<|zb zw<|zb zw<|zb (jF (PV.q zQ)<|KW zm) zo,(zh<|zE<|qS (sM zw VV) zw<|zP<|qZ<|zb zQ<|zb (jB zQ<|zP<|qZ dc) zo)
theorem zg4:↑cL 6 "new_loads" 2 Jx:=
 qu E (·.Qm) λX E a z=>by exists jb (jr a zQ zl) (zh<|j9<|xj (cR E)<|zb zw<|zb zQ zo) zH,jI 2<|vo a (zS<|PO.q<|xj (lx E)<|zb zw<|zb zQ zo)<|λv v v b=>zK (ZG E) dc,(zh<|j9<|WZ a (ed.c<|V0 a () E.Z6<|jF (PV.q<|zK (yf E)<|zb (jF (PV.q zQ) zm) zo) zm) (λv v v b=>ziY zw jz)<|λv v v b=>nJ b)
theorem CA:↑cL 7 "grown" 3 aW:=
 qu E (·.Qn) λX E b z=>by exists jo zQ,jo<|jF (PV.q zQ) zw,jI 5<|HI b (zS jz) (λx x x a=>jc<|zY<|zK (we E) d7)<|λx x x a=>nJ a,jo<|PO.v<|xj (zja E)<|zb zw<|zb zw<|zb (PO.v<|WZ b (zS jz) (λx x x a=>zY<|zK (we E) d7)<|λx x x a=>nJ a) zo,jI 7<|vo b (zS jz)<|λx x x a=>zK (zh5 E) oT,jI 8<|vo b (zS<|PO.q<|xj (zg4 E) d7)<|λx x x a=>zP<|qZ<|zb (jB zw zm)<|zb (zP<|qZ dc) zo,(zh<|zE<|PO.v<|kL jz<|PV.q<|qS (jr b zQ zl) (PO.v<|kL jz jz)<|PO.v<|kL jz jz)
theorem JS:↑cL 1 "stretch_of" 1 qp:=
 qu E (·.Qo) λX E a z=>zh<|zE<|zP<|qZ<|zb zQ<|zb (yZ (jB zQ<|xJ a () E.Z1<|PV.q zQ) zm) zo
theorem zg8:↑cL 9 "all_grown" 1 wD:=
 qu E (·.Qp) λX E a z=>by exists jI 1<|vo a (zS<|PV.q<|jF (PV.q<|zK (yf E)<|zb (jF (PV.q zQ) zm) zo) zm)<|λv v v b=>zP<|qZ<|zb zm<|zb (zP<|qZ dc) zo,kK z a (jZ a () E.Z4<|xJ a () E.Z1<|PV.q zQ)<|zh<|jo<|zK (CA E) oT,(zh<|j9<|Cj (JS E) a () () E.Z9 () jz)
theorem zjL:↑cL 4 "back_of" 2 kf:=
 qu E (·.Qq) λX E a z=>by exists jo zQ,jb (JN a zQ zw) (zh<|zE VV) zH,jo<|jF (PV.q<|zK (yf E) dc) zm,jo<|PO.v<|xj (ZH E)<|zb zw<|zb (jB zw zw)<|zb (PO.v<|jO a (ed.c<|w6 a () E.Z5 zQ zw)<|λx x x b=>jB zw zw) zo,jb (JN a (PO.v<|jO a (zS jz)<|λx x x b=>bZ zw qI<|jK zw)<|PO.v<|HL a () E.Za jz) (zh<|zE VV) zH,(zh<|zE<|zP<|qZ<|zb zw<|zb zw<|zb (jH a () E.Z3<|PO.q<|jO a (zS jz)<|λx x x b=>bZ zw (jK zw) qI) zo)
theorem zkV:↑cL 10 "barred" 1 Ky:=
 qu E (·.Qr) λX E a z=>by exists jo<|PO.v<|xj (zg8 E) dc,jI 2<|vo a (ed.c<|V0 a () E.Z6 zQ)<|λq q q b=>zK (Xd E)<|zb zw<|zb (PO.v<|xj (Jl E) d7) zo,jI 3<|vo a (zS jz)<|λq q q b=>zK (zjL E)<|zb zQ dc,(zh<|zE<|zP<|qZ<|zb (PO.v<|jO a (zS jz)<|λq q q b=>zK (JS E) dc) d7)
theorem zgo:↑cL 1 "stretch_text" 1 qA:=
 qu E (·.Qs) λX E a z=>by exists jo zQ,jo zQ,(zh<|zE<|KZ<|km (VW rfl zw)<|km zl<|km (VW rfl zw) cD)
theorem zg7:↑cL 11 "bars_text" 1 wB:=
 qu E (·.Qt) λX E a z=>by exists jo<|jF (PV.q<|zK (zkV E) dc) zm,(zh<|zE<|qS (iU jz) (yB zl<|PO.q<|jO a (zS jz)<|λv v v b=>zK (zgo E) dc) zl)
theorem yF:↑cL 1 "is_whole" 1 qD:=
 qu E (·.Qu) λX E a z=>zh<|zE<|Xx (zku a () E.Zd () E.Zc zw)<|Xw<|MI<|ziX a () E.Zd () E.zgB zw
theorem vJ:↑cL 2 "is_room" 2 vY:=
 qu E (·.Qv) λX E a z=>zh<|zE<|Xx (zK (yF E) dc)<|Xw<|WU Vo tJ ZQ bF zm zw zw
theorem JR:↑fC 3 "ask_rooms" 3 Jw:=
 vN (N:=["row","i","j","many"]) E.Qw () λX I e J d b a=>by subst I e J d b;have z:=a.cY (λv v=>False);have O:(X.cY λv v=>False).xe=(λv v=>False):=rfl;show jS QV (jo (xJ z () E.Z1 (PV.q zQ))) (jS (vn (jc (zY (zK (vJ E) d7))) (ja (yz z () (Jm E.Gz) () zw)) xi) (jb (jc (zY (zK (vJ E) d7))) (zh jU) zH) (ja (vn (ZO (vE (jc (zY (zK (vJ E) d7))) (ki (MR zw zw)))) (ja (yz z () (Jm E.Gz) () zw)) xi)))
theorem X6:↑fC 4 "kept_text" 2 ZZ:=
 vN (N:=["row","rooms"]) E.Qx () λX z e I d b a=>by subst z e I d b;have J:=a.cY (λq q=>False);have O:(X.cY λq q=>False).xe=(λq q=>False):=rfl;show ja (wZ (JR E) () J () (zb zw (zb zQ (zb zQ zo))))
theorem yC:↑cL 1 "rooms_behind" 1 kE:=
 qu E (·.Qy) λX E a z=>zh<|j9<|jO a (zS<|PO.q<|iZ jz (jK zm) qI)<|λv v v b=>Jf b () E.Zc zw
theorem Ka:↑cL 1 "is_arrow_word" 1 kc:=
 qu E (·.Qz) λX E a z=>by exists jb (yn (qG (KU zw qI<|jK zm)<|KU zw (jK<|KW zm) qI)<|PV.q<|zP<|qZ<|zb zl<|zb zl zo) (zh<|zE nI) zH,(zh<|zE<|wJ a () E.Z0<|PO.q<|jO a (ed.c<|sW<|KU zw (jK zm)<|jK<|KW zm)<|λv v v b=>Hy zw<|Jh b () E.G2)
theorem X9:↑cL 1 "is_prime_word" 1 ka:=
 qu E (·.e?) λX E a z=>zh<|zE<|sJ zw<|PO.q<|jO a (zS<|PV.q<|Jh a () E.G3)<|λv v v b=>KZ<|km (VW rfl zw)<|km zl cD
theorem X8:↑cL 1 "is_width_word" 1 xZ:=
 qu E (·.f?) λX E a z=>zh<|zE<|sJ zw<|PO.q<|jO a (ed.c<|jZ a () E.Z4<|jB (Jh a () E.G4) zm)<|λv v v b=>yA b () E.Ze zw
theorem wg:↑cL 2 "has_form" 2 qX:=
 qu E (·.g?) λX E a z=>by exists jb (jr a zw zm) (zh<|zE<|zK (X9 E) dc) zH,jb (jr a (j8 zw zm) zm) (zh<|zE<|zK (X8 E) dc) zH,(zh<|zE<|zK (Ka E) dc)
theorem ZU:↑cL 3 "check_forms" 1 yk:=
 qu E (·.Yo) λX E a z=>by exists kK z a (Ji a () E.Z6 zw)<|zh<|jb (jc<|zY<|zK (wg E) d7) (zh jU) zH,(zh<|jb (jr a (j8 (xJ a () E.Z1 jz) zm) zm) (zh jU) zH)
theorem zgm:↑fC 3 "check_forms" 1 QD:=
 IJ (N:=["words","place","word"]) E.Yo () λX I e J d b a Y=>by subst I e J d b;have z:=a.cY (λq q=>False);have O:(X.cY λq q=>False).xe=(λq q=>False):=rfl;show yx (Hq (T:=.tp [1,2]) a.calm (Ji a () E.Z6 zw) (a.Dy (xt (a.kq 1 ()) (xt (a.kq 2 ()) Yb))) (Ho (ja (vn (jc (zY (zK (wg E) d7))) (ja (yz z () (Yq E.XP) () zw)) xi))) (zh (jb (jc (zY (zK (wg E) d7))) (zh jU) zH))) (kK O z (Ji z () E.Z6 zw) (zh (jb (jc (zY (zK (wg E) d7))) (zh jU) zH))) (Kk (KS (vn (jr z (j8 (xJ z () E.Z1 jz) zm) zm) (ja (yz z () (Yq E.XP) () (xJ z () E.Z1 jz))) xi)))
theorem JW:↑cL 2 "are_widths" 1 kR:=
 qu E (·.i?) λX E a z=>by exists jb (ZO<|vE (jc<|zY<|sH a () E.Zd () E.Za () E.Z3 zw)<|ki<|jc<|K1 Vo Vo ZQ ZQ zm (xJ a () E.Z1 jz)<|Jh a () E.G5) (zh<|zE nI) zH,jb (jc<|zY<|wJ a () E.Z0<|PO.q<|jO a (zS jz)<|λv v v b=>Xx (zK (yF E) dc)<|Xw<|RV zw zm) (zh<|zE nI) zH,(zh<|zE<|RT (iT a () E.Z7 jz)<|Jh a () E.G4)
theorem XD:↑cL 3 "widths_of" 1 yR:=
 qu E (·.Yp) λX E a z=>by exists jb (jc<|zY<|zK (JW E) dc) (zh jU) zH,(zh<|zE<|jH a () E.Z3 jz)
theorem W3:↑fC 3 "widths_of" 1 Y4:=
 vN (N:=["widths"]) E.Yp () λX z e I d b a=>by subst z e I d b;have J:=a.cY (λq q=>False);have O:(X.cY λq q=>False).xe=(λq q=>False):=rfl;show ja (vn (jc (zY (zK (JW E) dc))) (ja (ye J () E.G6 zl)) xi)
theorem zgM:↑cL 1 "figures_of" 1 kO:=
 qu E (·.j?) λX E a z=>zh<|j9<|jO a (ed.c<|sW zw)<|λq q q b=>Jf b () E.Zc zw
theorem XF:↑cL 2 "rows_read" 2 kx:=
 qu E (·.k?) λX E a z=>by exists jb (ZO<|fV (jr a zw zl)<|WT<|jr a zw zm) (zh<|j9<|jJ<|qZ zo) zH,(zh<|j9<|jO a (zS<|PO.q<|JP zw zl)<|λx x x b=>PO.v<|xj (zgM E) dc)
theorem Jn:↑cL 2 "is_prime" 1 vZ:=
 qu E (·.l?) λX E a z=>zh<|zE<|Xx (zK (yF E) dc)<|Xw<|MM zw<|PV.q<|Jh a () E.G3
theorem yo:↑cL 2 "is_side" 1 x9:=
 qu E (·.m?) λX E a z=>zh<|zE<|Xx (zK (yF E) dc)<|Xw<|WU Vo Vo ZQ ZQ zm zw<|Jh a () E.G7
theorem xK:↑cL 1 "is_listed" 2 qr:=
 qu E (·.n?) λX E a z=>zh<|zE<|Xx (sH a () E.Zd () E.Za () E.Z3 zw)<|Xw<|JM a (xJ a () E.Z1 jz) zw
theorem V2:↑cL 2 "is_line" 2 v7:=
 qu E (·.o?) λX E a z=>zh<|zE<|Xx (zK (xK E) d7)<|Xw<|wJ a () E.Z0<|PO.q<|jO a (zS jz)<|λv v v b=>zK (yF E) dc
theorem zh6:↑cL 3 "table_of" 4 ZL:=
 qu E (·.Yr) λX E a z=>by exists jb (jc<|zY<|zK (Jn E) dc) (zh jU) zH,jb (ZO<|vE (jc<|zY<|zK (yo E) dc)<|ki<|jc<|zY<|zK (yo E) dc) (zh jU) zH,jb (ZO<|vE (jc<|zY<|zK (xK E) d7)<|ki<|jc<|zY<|wJ a () E.Z0<|PO.q<|jO a (zS jz)<|λv v v b=>zK (V2 E) d7) (zh jU) zH,(zh<|zE<|zP<|qZ<|zb zw<|zb zw<|zb (jH a () E.Z3<|PO.q<|jO a (zS jz)<|λv v v b=>zK (JT E) d7) zo)
theorem zgX:↑fC 3 "table_of" 4 Wl:=
 vN (N:=["p","high","wide","rows"]) E.Yr () λX I e J d b a=>by subst I e J d b;have z:=a.cY (λv v=>False);have O:(X.cY λv v=>False).xe=(λv v=>False):=rfl;show jS (vn (jc (zY (zK (Jn E) dc))) (ja (ye z () E.G8 zl)) xi) (jb (jc (zY (zK (Jn E) dc))) (zh jU) zH) (jS (vn (ZO (vE (jc (zY (zK (yo E) dc))) (ki (jc (zY (zK (yo E) dc)))))) (ja (ye z () E.G9 zl)) xi) (jb (ZO (vE (jc (zY (zK (yo E) dc))) (ki (jc (zY (zK (yo E) dc)))))) (zh jU) zH) (ja (vn (ZO (vE (jc (zY (zK (xK E) d7))) (ki (jc (zY (wJ z () E.Z0 (PO.q (jO z (zS jz) (λv v v f=>zK (V2 E) d7))))))))) (ja (ye z () E.G9 zl)) xi)))
theorem Zj:↑cL 1 "end_of" 2 vg:=
 qu E (·.p?) λX E a z=>zh<|zE<|qS (jr a zw zl) (jB zw zm) zw
theorem yG:↑cL 1 "beginning_of" 2 qE:=
 qu E (·.q?) λX E a z=>zh<|zE<|qS (jr a zw zl) zw<|jB zw zm
theorem zib:↑cL 4 "arrow_of" 4 ZN:=
 qu E (·.Ys) λX E a I=>by exists jb (ZO<|vE (jc<|zY<|zK (xK E)<|zb zw<|zb zm zo)<|ki<|yn zQ<|PV.q<|Jh a () E.Ga) (zh jU) zH,jo zQ,Cd (have z:=a.cY<|λv v=>False;fX 5 (z.set 5 ()<|zK (zh6 E)<|zb zw<|zb (jF jz<|zK (Zj E) d7)<|zb (jF jz<|zK (yG E) d7)<|zb zQ zo)),(zh<|zE<|zP<|qZ d7)
theorem zg0:↑fC 4 "arrow_of" 4 Wo:=
 IJ (N:=["p","widths","k","pair","way","table"]) E.Ys () λX I e J d b a O=>by subst I e J d b;have z:=a.cY (λv v=>False);have Z:(X.cY λv v=>False).xe=(λv v=>False):=rfl;show yx (KS (vn (ZO (vE (jc (zY (zK (xK E) (zb zw (zb zm zo))))) (ki (yn zQ (PV.q (Jh z () E.Ga)))))) (ja (yz z () (XG E.Gy) () zw)) xi)) (jb (ZO (vE (jc (zY (zK (xK E) (zb zw (zb zm zo))))) (ki (yn zQ (PV.q (Jh z () E.Ga)))))) (zh jU) zH) (yx (KS QV) (jo zQ) (Kk (BW a O () (zgX E) () (zb zw (zb (jF jz (zK (Zj E) d7)) (zb (jF jz (zK (yG E) d7)) (zb zQ zo)))) E.Gb () () (W9 E.Gy) () (λv Y=>VU 2 (Y.var ())))))
theorem Zk:↑cL 1 "are_rests" 2 xG:=
 qu E (·.r?) λX E a z=>zh<|zE<|wJ a () E.Z0<|PO.q<|jO a (zS jz)<|λv v v b=>RR zw zw
theorem JV:↑cL 5 "arrow_read" 4 kQ:=
 qu E (·.Yv) λX E a z=>by exists jo<|qS (zY<|bY zw zl) zl zl,jo<|PO.v<|xj (XF E)<|zb (KU zw (jK zm)<|jK<|KW zm)<|zb (jF jz<|zK (Zj E) d7) zo,jb (jc<|zY<|wJ a () E.Z0<|PO.q<|jO a (zS jz)<|λx x x b=>zK (Zk E) d7) (zh jU) zH,(zh<|zE<|zK (zib E)<|zb zw<|zb zw<|zb zw<|zb (zP<|qZ d7) zo)
theorem Vq:↑fC 5 "arrow_read" 4 XR:=
 vN (N:=["p","widths","k","word","way","rows"]) E.Yv () λX I f J e d a=>by subst I f J e d;have z:=a.cY (λx x=>False);have O:(X.cY λx x=>False).xe=(λx x=>False):=rfl;show jS QV (jo (qS (zY (bY zw zl)) zl zl)) (jS QV (jo (PO.v (xj (XF E) (zb (KU zw (jK zm) (jK (KW zm))) (zb (jF jz (zK (Zj E) d7)) zo))))) (jS (vn (jc (zY (wJ z () E.Z0 (PO.q (jO z (zS jz) (λx x x b=>zK (Zk E) d7)))))) (ja (yz z () (XG E.Gy) () zw)) xi) (jb (jc (zY (wJ z () E.Z0 (PO.q (jO z (zS jz) (λx x x b=>zK (Zk E) d7)))))) (zh jU) zH) (ja (Je (zg0 E) () z () (zb zw (zb zw (zb zw (zb (zP (qZ d7)) zo))))))))
theorem zh8:↑cL 6 "row_read" 1 Xq:=
 qu E (·.Yx) λX E a z=>by exists jo<|PO.v<|JP zw zl,WW<|zK (ZU E) dc,jo<|Jf a () E.Zc<|KU zQ qI<|jK<|KW zm,jo<|zK (XD E)<|zb (PO.v<|jO a (zS<|PO.q<|cu jz (jK zm) qI<|jK zm)<|λx x x b=>Jf b () E.Zc zw) zo,jI 4<|vo a (ed.c<|Ji a () E.Z6<|PO.v<|cu jz (jK zm) qI<|jK zm)<|λx x x b=>zK (JV E)<|zb zw oT,(zh<|zE<|zP<|qZ<|zb zw<|zb zw<|zb (jH a () E.Z3 jz) zo)
theorem zgY:↑fC 6 "row_read" 1 Wm:=
 IJ (N:=["text","words","p","widths","arrows"]) E.Yx () λX I i J h g b O=>by subst I i J h g;have z:=b.cY (λx x=>False);have Y:(X.cY λx x=>False).xe=(λx x=>False):=rfl;show yx (KS QV) (jo (PO.v (JP zw zl))) (yx (KS (wZ (zgm E) () z () dc)) (WW (zK (ZU E) dc)) (yx (KS QV) (jo (Jf z () E.Zc (KU zQ qI (jK (KW zm))))) (yx (KS (fU (W3 E) () z () (zb (PO.v (jO z (zS (PO.q (cu jz (jK zm) qI (jK zm)))) (λx x x a=>Jf a () E.Zc zw))) zo))) (jo (zK (XD E) (zb (PO.v (jO z (zS (PO.q (cu jz (jK zm) qI (jK zm)))) (λx x x a=>Jf a () E.Zc zw))) zo))) (Kk (zhQ (own:=["k","word"]) (fr:=[("p",2),("widths",3)]) (T:=.tp [0,1]) b.calm O (b.h_ (fr:=[("p",2),("widths",3)]) ()) () (ed.c (Ji b () E.Z6 (PO.v (cu jz (jK zm) qI (jK zm))))) (λe f d=>have a:=b.cq ["k","word"] [("p",2),("widths",3)] e f d ();a.Dy (xt (a.kq 0 ()) (xt (a.kq 1 ()) Yb))) (λe f d=>have a:=b.cq ["k","word"] [("p",2),("widths",3)] e f d ();MO (JV E) a (zb zw oT)) (λe f d=>have a:=b.cq ["k","word"] [("p",2),("widths",3)] e f d ();BX (Vq E) () a () (zb zw oT)))))))
theorem xV:↑cL 7 "row_behind" 1 ju:=
 qu E (·.Yy) λX E a z=>zh<|zE<|zK (zh8 E)<|zb (yB zl<|PO.q<|iZ jz (jK zm) qI) zo
theorem xk:↑fC 7 "row_behind" 1 xO:=
 vN (N:=["words"]) E.Yy () λX z e I d b a=>by subst z e I d b;have J:=a.cY (λv v=>False);have O:(X.cY λv v=>False).xe=(λv v=>False):=rfl;show ja (Je (zgY E) () J () (zb (yB zl (PO.q (iZ jz (jK zm) qI))) zo))
theorem Xc:↑cL 1 "ways_of" 1 vS:=
 qu E (·.s?) λX E a z=>zh<|zE<|yB zl<|PO.q<|jO a (zS<|PV.q zQ)<|λv v v b=>jF jz zm
theorem Yj:↑cL 2 "one_kind" 2 yq:=
 qu E (·.t?) λX E a z=>zh<|zE<|Xx (JM a zQ zQ)<|Xw<|JM a (zK (Xc E) dc)<|zK (Xc E) dc
theorem zgv:↑cL 3 "ask_one_kind" 2 kH:=
 qu E (·.YF) λX E a z=>zh<|jb (jc<|zY<|zK (Yj E) d7) (zh jU) zH
theorem k7:↑fC 3 "ask_one_kind" 2 qc:=
 vN (N:=["one","other"]) E.YF () λX z e I d b a=>by subst z e I d b;have J:=a.cY (λq q=>False);have O:(X.cY λq q=>False).xe=(λq q=>False):=rfl;show ja (vn (jc (zY (zK (Yj E) d7))) (ja (ye J () E.Gc zl)) xi)
theorem Kb:↑cL 4 "count_ways" 2 Ve:=
 qu E (·.YP) λX E a z=>jC
theorem vH:↑fC 4 "count_ways" 2 xW:=
 vN (N:=["one","other","bars"]) E.YP () λX z e I d b a=>by subst z e I d b;have J:=a.cY (λq q=>False);have O:(X.cY λq q=>False).xe=(λq q=>False):=rfl;show ja (wZ (k7 E) () J () d7)
theorem Kc:↑cL 5 "count_upon" 2 Vf:=
 qu E (·.Y6) λX E a z=>jC
theorem Xa:↑fC 5 "count_upon" 2 yP:=
 vN (N:=["upper","under"]) E.Y6 () λX z e I d b a=>by subst z e I d b;have J:=a.cY (λq q=>False);have O:(X.cY λq q=>False).xe=(λq q=>False):=rfl;show ja (Hr (vH E) () J () d7)
theorem zg1:↑fC 4 "alike" 2 Wp:=
 vN (N:=["one","other","first","second","there","back"]) E.u? () λX z e I d b a=>by subst z e I d b;have J:=a.cY (λq q=>False);have O:(X.cY λq q=>False).xe=(λq q=>False):=rfl;show ja (wZ (k7 E) () J () d7)
theorem Kd:↑cL 5 "alike_text" 2 Vh:=
 qu E (·.Zb) λX E a z=>jC
theorem Xb:↑fC 5 "alike_text" 2 yQ:=
 vN (N:=["row","other","told"]) E.Zb () λX z e I d b a=>by subst z e I d b;have J:=a.cY (λq q=>False);have O:(X.cY λq q=>False).xe=(λq q=>False):=rfl;show ja (fU (zg1 E) () J () d7)
theorem Vs:↑cL 12 "answered" 2 wC:=
 qu E (·.Zg) λX E a z=>by exists jo zQ,jb (jr a zw zl) (zh<|zE<|zK (zg7 E) dc) zH,jC
theorem zgn:↑fC 12 "answered" 2 qa:=
 vN (N:=["row","words","first"]) E.Zg () λX I e J d b a=>by subst I e J d b;have z:=a.cY (λq q=>False);have O:(X.cY λq q=>False).xe=(λq q=>False):=rfl;show jS QV (jo zQ) (jS QV (jb (jr z zw zl) jC zH) (jS (vn (jr z zw zl) (ja (Je (X6 E) () z () (zb zw (zb (PO.v (xj (yC E) dc)) zo)))) xi) (jb (jr z zw zl) jC zH) (jS QV (jb (jr z zw zl) jC zH) (jS (vn (jr z zw zl) (ja (WS (tj a () E.Ze (lj (Xy (vH E) () z () (zb zw (zb (zK (xV E) dc) zo))) (Co (Kb E) a zw (Xy (xk E) () z () dc)))))) xi) (jb (jr z zw zl) jC zH) (jS (vn (jr z zw zl) (ja (WS (tj a () E.Ze (lj (Xy (Xa E) () z () (zb zw (zb (zK (xV E) dc) zo))) (Co (Kc E) a zw (Xy (xk E) () z () dc)))))) xi) (jb (jr z zw zl) jC zH) (ja (WS (lj (Xy (Xb E) () z () (zb zw (zb (zK (xV E) dc) zo))) (Co (Kd E) a zw (Xy (xk E) () z () dc))))))))))
theorem X7:↑fC 1 "ask_together" 1 kD:=
 vN (N:=["widths"]) E.v? () λX I e J d b a=>by subst I e J d b;have z:=a.cY (λq q=>False);have O:(X.cY λq q=>False).xe=(λq q=>False):=rfl;show ja (vn (iV (iT z () E.Z7 jz) (Jh z () E.G4)) (ja (ye z () E.Gd zl)) xi)
theorem Jj:↑fC 2 "widths_together" 2 qU:=
 vN (N:=["one","other","widths"]) E.w? () λX I e J d b a=>by subst I e J d b;have z:=a.cY (λv v=>False);have O:(X.cY λv v=>False).xe=(λv v=>False):=rfl;show jS QV (jo (jH z () E.Z3 (PO.q (jO z (ed.c (w6 z () E.Z5 zQ zQ)) (λv v v f=>jB zw zw))))) (ja (wZ (X7 E) () z () dc))
theorem W4:↑fC 3 "joined" 3 Y5:=
 vN (N:=["one","other","joins","widths","arrows"]) E.x? () λX z e I d b a=>by subst z e I d b;have J:=a.cY (λq q=>False);have O:(X.cY λq q=>False).xe=(λq q=>False):=rfl;show ja (fU (Jj E) () J () d7)
theorem zgp:↑cL 1 "nought_table" 2 kF:=
 qu E (·.y?) λX E a z=>zh<|zE<|zP<|qZ<|zb zw<|zb zw<|zb (xI (zP<|qZ<|zb (xI (zP<|qZ<|zb zm zo) zw) zo) zw) zo
theorem zjI:↑cL 2 "no_join" 2 vW:=
 qu E (·.z?) λX E a z=>zh<|zE<|zK (zgp E)<|zb zQ<|zb zQ zo
theorem zg6:↑cL 4 "beside" 2 zio:=
 qu E (·.Zh) λX E a z=>jC
theorem W5:↑fC 4 "beside" 2 Jv:=
 vN (N:=["one","other"]) E.Zh () λX I e J d b a=>by subst I e J d b;have z:=a.cY (λq q=>False);have O:(X.cY λq q=>False).xe=(λq q=>False):=rfl;show jS (wZ (k7 E) () z () d7) (WW (zK (zgv E) d7)) (ja (Je (W4 E) () z () (zb zw (zb zw (zb (PO.v (jO z (ed.c (w6 z () E.Z5 zQ zQ)) (λq q q f=>zK (zjI E) (zb zQ (zb zQ zo))))) zo)))))
theorem zi9:↑fC 4 "cut" 3 mB:=
 vN (N:=["row","i","j"]) E.A? () λX z e I d b a=>by subst z e I d b;have J:=a.cY (λq q=>False);have O:(X.cY λq q=>False).xe=(λq q=>False):=rfl;show ja (wZ (JR E) () J () oT)
theorem XM:↑cL 1 "arrows_of" 2 Jy:=
 qu E (·.B?) λX E b z=>zh<|j9<|WZ b (zS<|PV.q<|zP<|qZ<|zb (yZ zw zm) dc) (λv v v a=>K1 Vo tJ ZQ bF zm zw<|KY a () E.Z1 zw)<|λv v v a=>nJ a
theorem zkU:↑cL 2 "is_end" 2 mE:=
 qu E (·.C?) λX E a z=>zh<|zE<|wJ a () E.Z0<|PO.q<|jO a (zS<|PO.q<|xj (XM E) d7)<|λv v v b=>JM b (zK (Zj E)<|zb zw<|zb (JL zw zw) zo) zw
theorem zgu:↑cL 2 "is_beginning" 2 Ja:=
 qu E (·.D?) λX E a z=>zh<|zE<|wJ a () E.Z0<|PO.q<|jO a (zS<|PO.q<|xj (XM E) d7)<|λv v v b=>JM b (zK (yG E)<|zb zw<|zb (JL zw zw) zo) zw
theorem zgZ:↑fC 3 "ask_turn" 2 Wn:=
 vN (N:=["ways","k"]) E.E? () λX I e J d b a=>by subst I e J d b;have z:=a.cY (λq q=>False);have O:(X.cY λq q=>False).xe=(λq q=>False):=rfl;show jS (vn (jc (zY (zK (vJ E) (zb (jB (KY z () E.Z1 zw) zm) dc)))) (ja (yz z () (Jm E.Gz) () zw)) xi) (jb (jc (zY (zK (vJ E) (zb (jB (KY z () E.Z1 zw) zm) dc)))) (zh jU) zH) (ja (vn (ZO (fV (jc (zY (zK (zkU E) d7))) (WT (jc (zY (zK (zgu E) d7)))))) (ja (ye z () E.Ge zl)) xi))
theorem Jk:↑fC 4 "turned_about" 2 vQ:=
 vN (N:=["row","k","ways","ends","lines","old","new","widths"]) E.F? () λX z e I d b a=>by subst z e I d b;have J:=a.cY (λq q=>False);have O:(X.cY λq q=>False).xe=(λq q=>False):=rfl;show jS QV (jo (zK (Xc E) dc)) (ja (wZ (zgZ E) () J () d7))
theorem zg2:↑cL 1 "other_way" 1 yS:=
 qu E (·.G?) λX E a z=>zh<|zE<|qS (jr a zw zl) zl zl
theorem zh9:↑cL 2 "mirrored" 1 vX:=
 qu E (·.H?) λX E a z=>by exists jI 1<|vo a (ed.c<|HR a () E.Zf zQ)<|λq q q b=>zP<|qZ<|zb (zK (zg2 E)<|zb zQ zo)<|zb zQ zo,(zh<|zE<|zP<|qZ<|zb zQ<|zb (zkt a () E.Z3 () E.Zf zQ)<|zb (jH a () E.Z3 jz) zo)
theorem zgN:↑cL 8 "changed" 2 vh:=
 qu E (·.ZP) λX E a z=>by exists jo zQ,jb (jr a zw zl) (zh<|zE<|zK (xV E) dc) zH,jb (jr a zw zl) jC zH,jb (jr a zw zl) jC zH,jb (jr a zw zl) jC zH,jb (jr a zw zl) (zh<|zE<|zK (zh9 E) dc) zH,jC
theorem Vp:↑fC 8 "changed" 2 kN:=
 vN (N:=["row","words","first","rooms"]) E.ZP () λX I e J d b a=>by subst I e J d b;have z:=a.cY (λx x=>False);have O:(X.cY λx x=>False).xe=(λx x=>False):=rfl;show jS QV (jo zQ) (jS (vn (jr z zw zl) (ja (Je (xk E) () z () dc)) xi) (jb (jr z zw zl) jC zH) (jS (vn (jr z zw zl) (ja (WS (lj (Xy (W5 E) () z () (zb zw (zb (zK (xV E) dc) zo))) (Co (zg6 E) a zw (Xy (xk E) () z () dc))))) xi) (jb (jr z zw zl) jC zH) (jS (vn (jr z zw zl) (jS QV (jo (PO.v (xj (yC E) dc))) (ja (Je (zi9 E) () z () (zb zw (zb zQ (zb zQ zo)))))) xi) (jb (jr z zw zl) jC zH) (ja (vn (jr z zw zl) (ja (Je (Jk E) () z () (zb zw (zb (jF (PO.q (xj (yC E) dc)) zm) zo)))) xi)))))
theorem W6:↑cL 1 "table_text" 1 ve:=
 qu E (·.I?) λX E a z=>zh<|zE<|yB zl<|PO.q<|jO a (zS<|PV.q zQ)<|λv v v b=>yB zl<|PO.q<|jO b (zS jz)<|λv v v d=>yA d () E.Ze zw
theorem zgO:↑cL 2 "arrow_text" 1 kP:=
 qu E (·.J?) λX E a z=>by exists jo<|zK (W6 E)<|zb zQ zo,(zh<|zE<|qS (jr a zQ zl) (KZ<|km zl<|km (VW rfl zw)<|km zl cD)<|KZ<|km zl<|km (VW rfl zw)<|km zl cD)
theorem zh7:↑cL 3 "row_text" 1 vV:=
 qu E (·.K?) λX E a z=>by exists jo zQ,qO<|jJ<|qZ<|zb (KZ<|km (VW rfl zw)<|km zl cD)<|zb (yA a () E.Ze<|jF (PV.q zQ) zm) zo,(kK z a (w6 a () E.Z5 zQ<|bZ zQ (jK zm) qI)<|by exists qH 2 a ()<|zK (zgO E) dc,(zh<|qH 2 a ()<|yA a () E.Ze zw)),(zh<|zE<|yB zl jz)
theorem yE:↑cL 1 "_law_cell" 2 jD:=
 qu E (·.L?) λX E a z=>by exists jb (ZO<|fV (iV (xJ a () E.Z1 jz) zm)<|WT<|jr a (j8 zQ zm) zm) (by exists jo<|jF jz<|jB zm<|j8 zw<|yZ (xJ a () E.Z1 jz) zm,kK z a (jZ a () E.Z4<|MJ a () E.zgC zm<|ZR zw<|yZ (xJ a () E.Z1 jz) zm)<|zh<|jo<|ZR zw<|sF zm zm,(zh<|zE<|j8 zw<|sF zm zm)) zH,jo zw,jb (iV (xJ a () E.Z1 jz) zm) (zh<|jo<|jF jz<|j8 zw<|xJ a () E.Z1 jz) zH,(zh<|zE<|j8 (xI (j8 (jB (jB (jB (xI (j8 zw<|sF zm zm) zm)<|xI (xI zm zw) zw)<|xI zm zw) zm) zm) zm) zm)
theorem zgq:↑cL 2 "_law_ways" 3 kG:=
 qu E (·.M?) λX E a z=>zh<|zE<|yB zl<|PO.q<|jO a (ed.c<|jZ a () E.Z4<|yZ zw zm)<|λv v v b=>JL zl<|j8 (ZR (zK (yE E)<|zb zw<|zb (jB zw zw) zo) zm) zm
theorem zgt:↑cL 2 "_law_bars" 4 vy:=
 qu E (·.N?) λX E a z=>by exists qO<|jJ<|qZ zo,(kK z a (jZ a () E.Z4 zw)<|by exists jo<|zK (yE E)<|zb zw<|zb (jB zw zw) zo,jo<|j8 zw zw,(zh<|qH 4 a ()<|zP<|qZ<|zb zw<|zb (jB zw<|j8 (ZR zw zm)<|yZ zw zw) zo)),(zh<|j9<|iY a () E.Z9 jz)
theorem kB:↑cL 1 "_law_text" 1 qb:=
 qu E (·.O?) λX E a z=>by exists WV (Rr a) zw,qO<|jJ<|qZ<|zb (qG (yA a () E.Ze zw) zl)<|zb (yA a () E.Ze zQ) zo,(kK z a (V0 a () E.Z6 zw)<|by exists jo<|yB zl<|PO.q<|jO a (zS<|PV.q<|jF (PV.q zQ) zm)<|λv v v b=>yB zl<|PO.q<|jO b (zS jz)<|λv v v d=>yA d () E.Ze zw,jb (jr a zQ zl) (zh<|qH 4 a ()<|qG (qG zl zw) zl)<|zh<|qH 4 a ()<|qG (qG zl zw) zl,(zh<|qH 4 a ()<|yA a () E.Ze<|jF jz<|jB zw zm)),(zh<|zE<|yB zl jz)
theorem w9:↑cL 1 "_law_times" 3 xp:=
 Sy (N:=["_law_p","_law_one","_law_other","_law_columns_told","_law_rows","_law_row"]) E (·.P?) () λX E a z=>by exists jI 3 (vo a (ed.c (jZ a () E.Z4 zQ)) (λx x x b=>PO.v (jO b (zS (PV.q zQ)) (λx x x d=>jF jz zw)))),qO (jJ (qZ zo)),kK z a (W1 zQ) (zh (qH 4 a () (jH a () E.Z3 (PO.q (jO a (zS jz) (λx x x b=>j8 (iT b () E.Z7 (PO.q (jO b (ed.c (w6 b () E.Z5 zw zw)) (λx x x d=>xI zw zw)))) zw)))))),(zh (zE (zP (qZ (zb zQ (zb zQ (zb (jH a () E.Z3 jz) zo)))))))
theorem JU:↑cL 2 "_law_in_turns" 3 qW:=
 qu E (·.Q?) λX E a z=>by exists WV (Rr a) zw,qO<|jJ<|qZ zo,(kK z a (V0 a () E.Z6 zw)<|by exists jo<|jB zw<|Jg a () E.Zc<|JM a zQ zl,jo<|jB zw<|Jg a () E.Zc<|JM a zQ zl,(zh<|qH 6 a ()<|zP<|qZ<|zb zQ<|zb (zK (w9 E)<|zb zw<|zb (zK (w9 E)<|zb zw<|zb (jF jz zw)<|zb zQ zo)<|zb (jF jz zw) zo) zo)),(zh<|zE<|zP<|qZ<|zb zw<|zb zw<|zb (jH a () E.Z3 jz) zo)
theorem Vr:↑cL 2 "_law_turn" 4 xY:=
 qu E (·.R?) λX E a z=>by exists iW 4<|vo a (ed.c<|jZ a () E.Z4 zw)<|λx x x b=>PO.v<|jO b (ed.c<|jZ b () E.Z4 zw)<|λx x x d=>Jg d () E.Zc<|JM d zw zw,MU a (ed.c<|jZ a () E.Z4 zw)<|λx x x b=>jO b (ed.c<|jZ b () E.Z4 zw)<|λx x x d=>Jg d () E.Zc<|JM d zw zw,(kK z a (jZ a () E.Z4<|xI zm zw)<|by exists jo<|zK (yE E)<|zb zw<|zb (jB zw zw) zo,jo<|j8 zw zw,jo<|j8 (ZR zw zw) zw,jo<|jB zm<|j8 (ZR zw zm)<|yZ zw zm,(zh<|jb (jr a zw zw) (by exists K6 4 a () zw<|PO.v<|jO a (zS<|PV.q<|jF jz zw)<|λx x x b=>j8 (xI zw zw) zw,jo<|jF (PO.q<|WZ a (ed.c<|jZ a () E.Z4 zw) (λx x x b=>jr b (j8 (xI zw zw) zw) zm)<|λx x x b=>nJ b) zm,(zh<|VZ 5 12 (lr z) a.calm a () () (a.kq 12 ()) zw<|j8 (xI (jF jz zw) zw) zw))<|by exists K6 4 a () zw<|PO.v<|jO a (ed.c<|w6 a () E.Z5 (jF jz zw)<|jF jz zw)<|λx x x b=>j8 (jB zw<|xI zw zw) zw,(zh<|VZ 5 12 (lr z) a.calm a () () (a.kq 12 ()) zw<|j8 (yZ (jF jz zw)<|xI zw<|jF jz zw) zw))),qO<|jJ<|qZ zo,Cf 5<|sN 4<|kK z a (W1<|PO.v<|jJ<|qZ d7)<|zh<|qH 13 a ()<|zP<|qZ<|zb zw<|zb zw<|zb (jH a () E.Z3<|PO.q<|jO a (zS jz)<|λx x x b=>jH b () E.Z3 jz) zo,(zh<|JO 13<|a.var ())
theorem W8:↑cL 3 "_law_hidden" 3 Zw:=
 qu E (·.S?) λX E a z=>by exists jI 3<|vo a (ed.c<|V0 a () E.Z6 zQ)<|λq q q b=>PO.v<|xj (Vr E)<|zb zw<|zb (jB zw<|xI zm zw)<|zb zQ dc,(zh<|zE<|zK (JU E)<|zb zw<|zb (PO.v<|jO a (zS jz)<|λq q q b=>jF jz zm)<|zb (PO.v<|jO a (zS jz)<|λq q q b=>jF jz zm) zo)
theorem zgr:↑cL 1 "_law_texts" 0 xq:=
 qu E (·.T?) λX E a z=>by show ze ?_ ?_;show qO ?_;show jJ ?_;show zg ?_ ?_;show zP ?_;show zg ?_ ?_;show zl;show zg ?_ ?_;show zl;show zg ?_ ?_;show zm;show zW;show zg ?_ ?_;show zP ?_;show zg ?_ ?_;show zl;show zg ?_ ?_;show zl;show zg ?_ ?_;show zm;show zW;show zg ?_ ?_;show zP ?_;show zg ?_ ?_;show zl;show zg ?_ ?_;show zl;show zg ?_ ?_;show zm;show zW;show zg ?_ ?_;show zP ?_;show zg ?_ ?_;show zl;show zg ?_ ?_;show zl;show zg ?_ ?_;show zm;show zW;show zg ?_ ?_;show zP ?_;show zg ?_ ?_;show zl;show zg ?_ ?_;show zl;show zg ?_ ?_;show zm;show zW;show zW;show ze ?_ ?_;show qO ?_;show kL jz ?_;show PO.q ?_;show jJ ?_;show zg ?_ ?_;show zP ?_;show zg ?_ ?_;show zl;show zg ?_ ?_;show zl;show zg ?_ ?_;show zm;show zW;show zg ?_ ?_;show zP ?_;show zg ?_ ?_;show zl;show zg ?_ ?_;show zl;show zg ?_ ?_;show zm;show zW;show zg ?_ ?_;show zP ?_;show zg ?_ ?_;show zl;show zg ?_ ?_;show zl;show zg ?_ ?_;show zm;show zW;show zg ?_ ?_;show zP ?_;show zg ?_ ?_;show zl;show zg ?_ ?_;show zl;show zg ?_ ?_;show zm;show zW;show zW;show ze ?_ ?_;show qO ?_;show kL jz ?_;show PO.q ?_;show jJ ?_;show zg ?_ ?_;show zP ?_;show zg ?_ ?_;show zl;show zg ?_ ?_;show zl;show zg ?_ ?_;show zm;show zW;show zg ?_ ?_;show zP ?_;show zg ?_ ?_;show zl;show zg ?_ ?_;show zl;show zg ?_ ?_;show zm;show zW;show zg ?_ ?_;show zP ?_;show zg ?_ ?_;show zl;show zg ?_ ?_;show zl;show zg ?_ ?_;show zm;show zW;show zW;show ze ?_ ?_;show qO ?_;show kL jz ?_;show PO.q ?_;show jJ ?_;show zg ?_ ?_;show zP ?_;show zg ?_ ?_;show zl;show zg ?_ ?_;show zl;show zg ?_ ?_;show zm;show zW;show zg ?_ ?_;show zP ?_;show zg ?_ ?_;show zl;show zg ?_ ?_;show zl;show zg ?_ ?_;show zm;show zW;show zg ?_ ?_;show zP ?_;show zg ?_ ?_;show zl;show zg ?_ ?_;show zl;show zg ?_ ?_;show zm;show zW;show zW;show ze ?_ ?_;show qO ?_;show kL jz ?_;show PO.q ?_;show jJ ?_;show zg ?_ ?_;show zP ?_;show zg ?_ ?_;show zl;show zg ?_ ?_;show zl;show zg ?_ ?_;show zm;show zW;show zg ?_ ?_;show zP ?_;show zg ?_ ?_;show zl;show zg ?_ ?_;show zl;show zg ?_ ?_;show zm;show zW;show zW;show ze ?_ ?_;show qO ?_;show kL jz ?_;show PO.q ?_;show jJ ?_;show zg ?_ ?_;show zP ?_;show zg ?_ ?_;show zl;show zg ?_ ?_;show zl;show zg ?_ ?_;show zm;show zW;show zg ?_ ?_;show zP ?_;show zg ?_ ?_;show zl;show zg ?_ ?_;show zl;show zg ?_ ?_;show zm;show zW;show zg ?_ ?_;show zP ?_;show zg ?_ ?_;show zl;show zg ?_ ?_;show zl;show zg ?_ ?_;show zm;show zW;show zW;show ze ?_ ?_;show qO ?_;show kL jz ?_;show PO.q ?_;show jJ ?_;show zg ?_ ?_;show zP ?_;show zg ?_ ?_;show zl;show zg ?_ ?_;show zl;show zg ?_ ?_;show zm;show zW;show zg ?_ ?_;show zP ?_;show zg ?_ ?_;show zl;show zg ?_ ?_;show zl;show zg ?_ ?_;show zm;show zW;show zW;show ze ?_ ?_;show qO ?_;show kL jz ?_;show PO.q ?_;show jJ ?_;show zg ?_ ?_;show zP ?_;show zg ?_ ?_;show zl;show zg ?_ ?_;show zl;show zg ?_ ?_;show zm;show zW;show zg ?_ ?_;show zP ?_;show zg ?_ ?_;show zl;show zg ?_ ?_;show zl;show zg ?_ ?_;show zm;show zW;show zg ?_ ?_;show zP ?_;show zg ?_ ?_;show zl;show zg ?_ ?_;show zl;show zg ?_ ?_;show zm;show zW;show zW;show ze ?_ ?_;show qO ?_;show kL jz ?_;show PO.q ?_;show jJ ?_;show zg ?_ ?_;show zP ?_;show zg ?_ ?_;show zl;show zg ?_ ?_;show zl;show zg ?_ ?_;show zm;show zW;show zg ?_ ?_;show zP ?_;show zg ?_ ?_;show zl;show zg ?_ ?_;show zl;show zg ?_ ?_;show zm;show zW;show zW;show ze (qH 0 a () (zP (qZ (zb zl (zb zl (zb zm zo)))))) ?_;show zh ?_;show j9 ?_;show kL jz ?_;show PO.q ?_;show jJ ?_;show zg ?_ ?_;show zP ?_;show zg ?_ ?_;show zl;show zg ?_ ?_;show zl;show zg ?_ ?_;show zm;show zW;show zg ?_ ?_;show zP ?_;show zg ?_ ?_;show zl;show zg ?_ ?_;show zl;show zg ?_ ?_;show zm;show zW;show zg ?_ ?_;show zP ?_;show zg ?_ ?_;show zl;show zg ?_ ?_;show zl;show zg ?_ ?_;show zm;show zW;show zW
theorem yD:↑cL 1 "_law_with" 2 qB:=
 qu E (·.U?) λX E a z=>zh<|j9<|WZ a (ed.c<|Ji a () E.Z6 zw) (λq q q b=>K1 Vo Vo ZQ ZQ zQ zw zQ)<|λq q q b=>nJ b
theorem kC:↑cL 2 "_law_bar_row" 3 j6:=
 qu E (·.V?) λX E a z=>by exists jI 3<|vo a (ed.c<|jZ a () E.Z4<|jB (KY a () E.Z1 zw) zm)<|λv v v b=>xJ b () E.Z1<|PO.q<|xj (yD E) d7,qO<|jJ<|qZ zo,(kK z a (HS a () E.Z6 zw)<|by exists jo<|jB zw<|Jg a () E.Zc<|JM a zw zl,jo<|jB zw<|Jg a () E.Zc<|JM a zw zl,jI 9<|vo a (zS<|PO.q<|xj (yD E) d7)<|λv v v b=>jH b () E.Z3<|PO.q<|jO b (zS<|PO.q<|xj (yD E) d7)<|λv v v d=>Jg d () E.Zc<|JM d zw zw,(zh<|qH 4 a ()<|zP<|qZ<|zb zw<|zb (zP<|qZ<|zb (jF jz zw)<|zb (jF jz zw)<|zb (jH a () E.Z3 jz) zo) zo)),(zh<|zE<|zP<|qZ<|zb zw<|zb (jH a () E.Z3 jz)<|zb (jH a () E.Z3 jz) zo)
theorem zgs:↑cL 3 "_law_lines" 2 qC:=
 Sy (N:=["_law_state","_law_cell_here","_law_p","_law_ways_here","_law_some","_law_rooms","_law_lines_here","_law_k","_law_other","_law_wide","_law_text_here","_law_word","_law_told"]) E (·.W?) () λX E a z=>by show ze (WV (Rr a) zw) ?_;show ze (jo (jB (KY a () E.Z1 zw) zm)) ?_;show ze ?_ ?_;show qO ?_;show jJ ?_;show zg ?_ ?_;show zP ?_;show zg ?_ ?_;show qG zl (yA a () E.Ze (jB zw (j8 zw (yZ zm zw))));show zg ?_ ?_;show zl;show zg ?_ ?_;show jB zw (j8 zw (yZ zm zw));show zW;show zW;show ze (qH 6 a () (zP (qZ (zb (qG (qG zl (yA a () E.Ze zw)) zl) (zb zl dc))))) ?_;show ze (qH 6 a () (zP (qZ (zb zl (zb zl (zb zm zo)))))) ?_;show ze (kK z a (lg a () E.Z4 zm (yZ zw zm)) (zh (jb (jr a (JL zw (yZ zw zm)) (JL zw zw)) (zh (qH 6 a () (zP (qZ (zb (qG zl (yA a () E.Ze zw)) (zb zl (zb zm zo))))))) zH))) ?_;show ze (jb (iV zw zm) (zh (qH 6 a () (zP (qZ (zb zl (zb zl (zb zm zo))))))) zH) ?_;show ze ?_ ?_;show jo ?_;show zK (kB E) ?_;show zb ?_ ?_;show zK (kC E) ?_;show zb ?_ d7;show jF ?_ ?_;show PO.q ?_;show jJ ?_;show zg ?_ ?_;show zm;show zg ?_ ?_;show zm;show zg ?_ ?_;show zm;show zg ?_ ?_;show zm;show zW;show Hz a ?_ zw;show PO.q ?_;show jJ ?_;show zg ?_ ?_;show zm;show zg ?_ ?_;show zm;show zg ?_ ?_;show zm;show zg ?_ ?_;show zm;show zW;show zo;show ze ?_ ?_;show sO 6 a () ?_;show jO a ?_ (λx x x b=>zP (qZ (zb (qG (qG zw zl) zw) (zb zl (zb zm zo)))));show zS ?_;show PO.q ?_;show jJ ?_;show zg ?_ ?_;show zl;show zg ?_ ?_;show zl;show zg ?_ ?_;show zl;show zg ?_ ?_;show zl;show zW;show ze ?_ ?_;show jo ?_;show zK (kB E) ?_;show zb ?_ ?_;show zK (kC E) ?_;show zb zw ?_;show zb (qG zw zl) (zb (PO.v (jJ (qZ zo))) zo);show zo;show ze ?_ ?_;show sO 6 a () ?_;show jO a ?_ (λx x x b=>zP (qZ (zb (qG (qG zw zl) zw) (zb zl (zb zm zo)))));show zS ?_;show PO.q ?_;show jJ ?_;show zg ?_ ?_;show zl;show zg ?_ ?_;show zl;show zg ?_ ?_;show zl;show zg ?_ ?_;show zl;show zW;show ze (jI 9 (vo a (ed.c (jZ a () E.Z4 zm)) (λx x x b=>zP (qZ (zb (j8 zw zw) (zb (j8 zw zw) zo)))))) ?_;show ze ?_ ?_;show jb (JN a zw (PO.v (jJ (qZ zo)))) ?_ zH;show zh ?_;show qH 6 a () ?_;show zP ?_;show zg ?_ ?_;show qG zl ?_;show zK (kB E) ?_;show zb ?_ ?_;show zK (kC E) ?_;show zb zw ?_;show zb zw (zb (PO.v (iY a () E.Z9 jz)) zo);show zo;show zg ?_ ?_;show zl;show zg ?_ ?_;show zm;show zW;show ze ?_ ?_;show kK z a (W1 (MN (zgr E) () a ())) ?_;show zh ?_;show qH 6 a () ?_;show zP ?_;show zg ?_ ?_;show qG ?_ zw;show jF ?_ (j8 (ZR zw zm) zm);show PO.q ?_;show jJ ?_;show zg ?_ ?_;show zl;show zg ?_ ?_;show zl;show zg ?_ ?_;show zl;show zg ?_ ?_;show zl;show zg ?_ ?_;show zl;show zW;show qZ d7;show(zh (JO 6 (a.var ())))
theorem zg5:↑cL 1 "_law_kinds" 1 Y9:=
 qu E (·.X?) λX E a z=>by show ze (qO<|jJ<|qZ<|zb (vF a () E.Zd () E.Gh zw)<|zb (vF a () E.Zd () E.Gp zw)<|zb (vF a () E.Zd () E.Gk zw)<|zb (vF a () E.Zd () E.Gn zw) zo) ?_;show ze (qO<|kL jz<|PO.q<|jJ<|qZ<|zb (vF a () E.Zd () E.Gj zw)<|zb (vF a () E.Zd () E.Gr zw)<|zb (vF a () E.Zd () E.Gq zw)<|zb (vF a () E.Zd () E.Gm zw) zo) ?_;show ze (qO<|kL jz<|PO.q<|jJ<|qZ<|zb (vF a () E.Zd () E.Gg zw)<|zb (vF a () E.Zd () E.Go zw)<|zb (vF a () E.Zd () E.Gf zw)<|zb (vF a () E.Zd () E.Gl zw) zo) ?_;show ze (qH 1 a ()<|vF a () E.Zd () E.Gi zw) ?_;show ze ?_ ?_;show(by(with_reducible show fX 2 ?_);(with_reducible show SX.set a 2 ?hc ?_ (hs:=?hq));(case hc=>decide +kernel);(case hq=>rfl);(with_reducible show PO.v ?_);(with_reducible show jJ ?_);(with_reducible show zg zl ?_ (hs:=?hq));(case hq=>rfl);(with_reducible show zg zl ?_ (hs:=?hq));(case hq=>rfl);(with_reducible show zg zl ?_ (hs:=?hq));(case hq=>rfl);(with_reducible show zg zl ?_ (hs:=?hq));(case hq=>rfl);(with_reducible show zg zl ?_ (hs:=?hq));(case hq=>rfl);(with_reducible show zg zl ?_ (hs:=?hq));(case hq=>rfl);(with_reducible show zg zl ?_ (hs:=?hq));(case hq=>rfl);(with_reducible show zg zl ?_ (hs:=?hq));(case hq=>rfl);(with_reducible show zg zl ?_ (hs:=?hq));(case hq=>rfl);(with_reducible show zg zl ?_ (hs:=?hq));(case hq=>rfl);(with_reducible show zW));exists jo<|PO.v<|kL jz<|PO.q<|jJ<|qZ<|zb zl<|zb zl<|zb zl zo,jb (jc<|zY<|Hx a () E.Zd () E.zgD zw) (zh<|j9<|jJ<|qZ<|zb zl zo) zH,(zh<|sN 1<|j9<|WZ a (ed.c<|jZ a () E.Z4 zm) (λx x x b=>zY<|jF jz zw)<|λx x x b=>jF jz zw)
omit E in theorem OZ(z:L2.i5 K "__init__" "Desk.__init__" (Vw (top 157) 0) f e)(c:q3 K C):↑fh gx 1 f e ["self"] (Mn C):=
 Ef (k:=0) z () c λX I g J d b a=>by subst I g J d b;show kY<|Fg (a.var ()) cE rfl
omit E in theorem OY(z:L2.i5 K "tell" "Desk.tell" (Vw (top 157) 1) f e)(c:q3 K C)(E:E0 K mg)(I:ui w K mg "ROOMS_BEHIND" zj):↑fh gx 13 f e ["self","line"] (L4 K C jg):=
 Eb (k:=12) z () c λX J g O d b a=>by subst J g O d b;show qL (a.set 2 ()<|PO.v<|JP zw zl)<|qL (sQ (jc<|zY<|MO (Zi E I) a dc) K5 K4)<|qL (sQ (PW.pt<|sD (w5 tK (Yc (a.var ()) rfl) cE<|yJ _)<|fW<|JN a zQ zl) K5 K4)<|qL (sQ (yn zQ<|PV.q<|Jh a () E.Gs) (kY<|K7<|lq (Vs E) a<|zX (Yc (a.var ()) rfl)<|zX zw jG) K4)<|qL (Fg (a.var ()) (lq (zgN E) a<|zX (Yc (a.var ()) rfl)<|zX zw jG) rfl)<|kY<|K7<|lq (zh7 E) a<|zX (Yc (a.var ()) rfl) jG
omit E in theorem OX(I:L2.i5 K "tell" "Desk.tell" (Vw (top 157) 1) f e)(c:q3 K C)(E:E0 K mg)(J:ui w K mg "ROOMS_BEHIND" zj):↑fh (gy P w) 13 f e ["self","line"] (SG K C vR):=
 zlb (k:=12) I () c λX O h Y g d a=>by subst O h Y g d;have z:=a.cY<|λ_ _=>False;show⟨(_,_,_,_,_,_,_,_,_,_,_,_,_,_,_,_,_,rfl,(z.set 2 ()<|PO.v<|JP (VU 1<|z.var ()) zl),jc<|zY<|HA (Zi E J) () z ()<|zb (VU 2<|z.var ()) zo,ye z () E.Gt zl,PW.pt<|sD (w5 tK (Yc (z.var ()) rfl) cE<|yJ _)<|fW<|JN z (jF (sR 2<|z.var ()) zm) zl,ye z () E.Gu zl,yn (jF (sR 2<|z.var ()) zm)<|PV.q<|Jh z () E.Gs,λ_ b=>(tF (zgn E) a (zX (Yc (a.var ()) rfl)<|zX (VU 2<|a.var ()) jG) b,tF (Vp E) a (zX (Yc (a.var ()) rfl)<|zX (VU 2<|a.var ()) jG) b),rfl)⟩
theorem zjJ(I:↑uz 13 CR jg vR):↑C9 14 "_law_refused" CR jv:=
 Ob (N:=["_law_desk","_law_line","_law_word","_law_told","_law_caught","_law_e"]) E.Y? () rfl rfl λX J e O d b a Y=>by subst J e O d b;have z:=a.cY (λq q=>False);show qL (a.set 4 () cE) (qL (HH I () a Y () () () () () E.Gx (z.var ()) (z.var ())) ?_);show by exists jb (ZO (vE (sM zw VV) (ki (JN a (PO.v (xj (zg5 E) dc)) (PO.v (jJ (qZ dc))))))) (zh (zE nI)) zH,jb (jr a zw zl) (zh (zE (JM a (sL E.Gw zw) zw))) zH,jb (ZO (vE (jr a zw zl) (ki (jr a zw zl)))) (zh (zE (JM a (sL E.Gv zw) zw))) zH,(zh (zE nI))
omit E in theorem TY(D:L2.i5 K "law" "law" (top 174) f fd)(E:E0 K mg)(I:↑O6 CR)(z:↑uz 13 CR jg vR)(J:↑C9 14 "_law_refused" CR jv):↑fh gx 15 f fd ["_law_script"] (l5 K 1 Va):=
 Sz (N:=["_law_script","_law_cell_here","_law_p","_law_rooms","_law_ways_here","_law_some","_law_text_here","_law_desk","_law_bars_told","_law_k","_law_far","_law_lines_here","_law_line","_law_word","_law_told"]) D () λX O e Y d b a Z=>by subst O e Y d b;show by exists jo (zK (yE E) (zb zw (zb zm zo))),jo (jF (PO.q (jJ (qZ (zb zm (zb zm (zb zm (zb zm zo))))))) (j8 zw zm)),jo (jB zm (j8 (ZR zw zm) zm)),jo (zK (zgq E) (zb zw (zb zm dc))),jo (PO.v (xj (zgt E) (zb zw (zb zm (zb zw (zb (j8 (ZR zw zm) zm) zo)))))),jo (zK (kB E) (zb (zK (W8 E) (zb zw (zb zm (zb (zK (kC E) oT) zo)))) zo)),(zi0 7 (a.set 7 () (HY I () a ())) (QL (UL (JQ z.n () a (a.var ()) (qG zl zw))) (QL (Rg 8 (a.set 8 () (JQ z.n () a (a.var ()) zl))) (QL (Rh (T:=.nm 9) (lr Z) a.calm (jZ a () E.Z4 zm) (a.kq 9 ()) (QL (FS (T:=.nm 10) (a.set 10 () (zK (yE E) (zb zw (zb (jB zm zw) zo))))) (QL (FS (T:=.nm 11) (a.set 11 () (PO.v (xj (zgs E) (zb (zP (qZ oT)) (zb (ZR zw zm) zo)))))) (QL (FS (T:=.tp [12,13,14]) (cp (jF jz (j8 zw (xJ a () E.Z1 jz))) (a.Dy (xt (a.kq 12 ()) (xt (a.kq 13 ()) (xt (a.kq 14 ()) Yb)))))) (EL (UK (MQ (HC (HV J () a () (a.var ()) oT)) (Hu (HD a (JQ z.n () a (a.var ()) zl) zw))) (kY (K7 Np)))))))) (EL (LL a (JQ z.n () a (a.var ()) zl) zl (JQ z.n () a (a.var ()) zl) zw))))))
end
end DL
end Lake
end
open Lake PySem PySem.W PyProof.Rows
set_option maxRecDepth 100000 in
set_option maxHeartbeats 0 in
theorem PySem.Challenge.cw_barsplit_k67_refused_at_the_desk_holds : PySem.Challenge.rw_barsplit_k67_refused_at_the_desk.Holds := by
 refine hd0 ?_
 k_fill
 refine L2.OI (l:=S8) (n:=63) (k:=15) (x:="_law_script") (CX:=L2.gx) (sp:=λK=>DL.l5 K 1 DL.Va) rfl () rfl (rfl,by decide,by decide) (λw h Y=>PySem.W.kIn_of Y) ?F ?S ?C
 case S=>exact λK H a ns J znH zii=>DL.Po zii (DL.Sj ns J)
 case C=>exact λ_ _ _ _ z=>z
 case F=>
  intro w mg fa h I G a5;have O:DL.Vl (L2.fS I)=ae:=by kernel_rfl
  have av:DL.XS (L2.fS I) mg:=DL.UM I G (by kernel_rfl)
  have a1:DL.ui w (L2.fS I) mg "ROOMS_BEHIND" DL.zj:=by
   dsimp only[L2.fS];refine' DL.Pu [("cut",_,2,_),("mirror",_,0,_),("opposite",_,0,_),("about",_,1,_),("split",_,0,_),("bars",_,0,_),("kept",_,2,_),("widths",_,0,_)] I G ?a ?l ?s ?e ?d ?z ?k
   (case a|l=>k_is)
   (case s=>decide)
   (case e=>exact(rfl,rfl,rfl))
   (case d=>rfl)
   (case z=>rfl)
   (case k=>rfl)
  have DK:DL.U9 (L2.fS I) mg (DL.Vw (DL.top 157) 0) (DL.Vw (DL.top 157) 1):=by
   dsimp only[L2.fS];refine' DL.SF I G ?nC ?iC ?mC ?uI ?uT ?vI ?vT ?w1 ?w2 ?z1 ?z2 ?b ?gI ?gT
   (case nC|iC|mC|uI|uT|vI|vT|w1|w2|z1|z2=>k_is)
   (case b=>kernel_rfl)
   (case gI=>exact λ_ _ _ _ _ _=>DL.wn _ _ (by (repeat intro _);exact rfl))
   (case gT=>exact λ_ _ _ _ _ _=>DL.wn _ _ (by (repeat intro _);exact rfl))
  have E:DL.E0 (L2.fS I) mg:=by
   constructor
   all_goals first
    |assumption
    |exact PySem.W.mg_none_of I G (by k_is)
    |kernel_rfl
    |exact DL.UN I G O ()
    |exact DL.UO I G (by kernel_rfl)
    |exact DL.UP I G O () (by kernel_rfl)
    |(dsimp only[L2.fS];refine' DL.Ub I G ?a;(case a=>k_is))
    |(dsimp only[L2.fS];refine' DL.Ua I G ?a;(case a=>k_is))
    |(dsimp only[L2.fS];refine' DL.Sw I G ?a ?l ?v ?z;(case a|l=>k_is);(case v=>rfl);(case z=>decide))
    |(dsimp only[L2.fS];refine' DL.Sv I G ?a ?l ?v ?z;(case a|l=>k_is);(case v=>rfl);(case z=>decide))
    |(dsimp only[L2.fS];refine' DL.Rj I G O () ?nC ?nS ?iC ?uI ?vI ?w1 ?z1 ?b ?gI;(case nC|nS|iC|uI|vI|w1|z1=>k_is);(case b=>kernel_rfl);(case gI=>exact λ_ _ _ _ _ _=>DL.wn _ _ (by (repeat intro _);exact rfl)))
    |(dsimp only[L2.fS];refine' DL.Uk I G ?a ?l ?c ?k ?b;(case a|l|c|k=>k_is);(case b=>exact λ_ _ _ _ _ _=>DL.wn _ _ (by (repeat intro _);exact rfl)))
  let(f,fd,Fu,hb,hm):=E.Z?.ex;have e0:=a5.symm.trans hm;cases e0;refine(fd,λs u=>.of_eq (hb [u] rfl),λbase znI nb=>?_);let(CR,fI,fT,dI,dT,q1,zke,Z,q4,zkg,q6,q7,zkh):=DK.ex;have ao:DL.O6 (S8).prog w (L2.fS I) mg base CR:=(fI,dI,zke,DL.OZ zkg Z,q1,q7);have a3:DL.uz (S8).prog w (L2.fS I) mg base 13 CR DL.jg DL.vR:=(fT,dT,Z,q4,DL.OY q6 Z E a1,DL.OX q6 Z E a1,zkh);have ap:DL.C9 (S8).prog w (L2.fS I) mg base 14 "_law_refused" CR DL.jv:=DL.zjJ E a3;exact DL.TY Fu E ao a3 ap
