import PyProof.Rows.All
import Wide.All
import OpenK.ZHead
import KE.KEqDict
import KE.KFromBytes
import Wide.FinOn
import KE.KItemsList
import KE.KIsAll
import KE.KSortTup
import KE.KTryDeep
import KE.KRevIter
import KE.KDictOf
import PySem.Challenge.RW_barsplit_k49_whole_parted_by_bars
section
open Lean
local macro_rules|`(#check $_)=>do
 let mut a:=#[]
 for(s,l)in[("env",[41]),("heap",[39,46,746]),("o",List.range' 43 703),("sts",[49,64,79,94,109,158,236,314,398,477,519,542,571,622,703]),("tree",[47,63,78,93,108,157,235,313,397,476,518,541,570,621,702,745]),("view",[39])]do
  for i in l do a:=a.push (←`(command|noncomputable def $(mkIdent (.str `PySem.W.Fast s!"tw{(Name.mkStr `hd0 s!"{s}_{i}").hash}")):ident:=0))
 return mkNullNode a
#check 0
end
def PySem.W.Fast.tw8700820545866359435:=0
def PySem.W.Fast.tw6155958563637750009:=0
section
set_option Elab.async false
open PySem PySem.W PyProof.Rows
set_option maxRecDepth 100000 in
set_option maxHeartbeats 0 in
open_top hd0 for PySem.Challenge.rw_barsplit_k49_whole_parted_by_bars
end
open Classical renaming byContradiction->Tf,axiomOfChoice->D7
open PySem renaming wpAny_bind->Th,wpAny_pure->Ts,wpAny_field->Uv,wpAny_callSpecial?_slot->Ux,wpAny_seqItems->nr,wpAny_setField_rec->UJ,wpAny_call_entry->qj,wpAny_holding->q8,wpAny_newObj_type->tr,wpAny_truthy_bool->u9,wpAny_attempt->tq,wpAny_mono->rz,wpAny_loadPart'->D8,wpAny_onRaise->uA,wpAny_Call_Name_kw->C8,wpAny_typeOf->uG,wpAny_letGo->tw,wpAny_rule->sQ,call_meets->sR,sizeLine_eq->uE,mem_of_lookup->M6,Builtin->zbN,wpAny_updateSeq->EA,codeAny_builtin->EB,wpAny_newTuple->GN,builtinLookup_eq_fast->R6,wpAny_pyIter_zip->ND,wpAny_isInstance->NF,wpAny_passesOwn->Nt,pushCells_keeps->Nv,wpAny_pyIter_tuple->RX,tupleKind_room_in1->RY,codeAny_mono->F8,isSubtype_stop->Nx,wpAny_pyIter_list->Rl,wpAny_pyNext_list_item->_k,wpAny_pyNext_list_end->_q,typeLookup_type->Td,wpAny_updateSeq_pair->V',Within->Sb,wpAny_standAt->S0,wpAny_newList->S3,typeIs_int->NL,concat_meets->S4,callType_new->S5,noFill_tuple_add->_e,Addr->di,Value->dj,eval->dy,model->d5,Expr->d8,starEach->ed,Shared->el,sizeLine->eB,Heap->eK,Pos->f9,World->hB,Program->hH,Scope->h6,Stmt->h9,Obj->lU,Around->l6,backTo->m5,compareOp->m7,IsPair->ni,Builtin->n6,Env->o5,foldedSetIterable->pj,FuncData->pv,IsZip->pw,holding->qs,mainGlobals->qy,atKey->rk,Keyword->rE,swapsWith->rH,binaryOp->rV,cLine->rZ,pyNext->sa,cellsFrom->su,NameKind->sS,assignEach->sT,behindInMarks->sU,bootBuiltins->sV,relabel->s8,IsPart->tQ,ZipApart->tX,assign->tZ,getItem->ub,sysModules->uw,attributeBase->uQ,backToKw->uS,standAt->u0,IsEnum->wh,Meets->wo,callerA->w9,isTrue->xv,pushCells->x8,bindArgs->B4,bindC->B5,bindL->B6,rawInt->C2,tupleKind->C7,truthy->DT,typeLookup->DU,valueAt->D0,BindsTo->G7,letOwnedTupleGo->IB,pyIter->LQ,strIterType->L4,swapsWithSole->L5,updateSeq->ML,PassesOwn->N5,getMethod->O7,lastMarks->Pq,ownMembersOf->PN,setItem->PR,spliced->PX,subscripted->PZ,swappedStores->P0,builtinsNs->U3,callType_codes->U4,seqIndex_neg->u_,seqIndex_of->v_,seq_tuple_add->w_,typeIs_str->E',wpAny_Name->F_,wpAny_execs_nil->G_,getattributeRaised->H?,wpAny_assign_Name->zfQ,wpAny_binaryOp_repeat_ref->zfR,wpAny_getItem_heap->zfS,wpAny_isTrue_Compare1->zfT,wpAny_letOwnedTupleGo_enum->zfU,wpAny_letOwnedTupleGo_zip->zfV,wpAny_notOrdered_dict->zfW,wpAny_pyNext_enum_endD->zfX,wpAny_pyNext_enum_itemD->zfY
open PySem.W renaming Frag->Ti,findIn->UW,keepIn->se,fnOf->rM,kia_one->A4,emptyDict->FR,codeIn->Dl,instObj->E5,cellsFrom_some->Ra,kitOne->E8,plainGet->M4,isFn->GR,hasDictIn->R9,nsIn->Ny,makesIn->RZ,lookIn->Rm,plainGet_of->L_,mg_of->S7,callWith_K->_l,plainOver->_r
open PySem.Heap renaming get?_push_of_some->Tj,get?_push_size->Tw,push->TF,lt_size->TH,size_push->Ui,get?_update_other->Ur,get?_update_self->A5,SameBut->z4,get?_push_ne->F5,size_update->R4,get?_update_ne->_p
open List renaming range->Tn,getElem?_eq_getElem->To,mem_range->Tp,replicate->Tq,getD_eq_getElem?_getD->Tr,getElem?_set_ne->Tu,mem_cons->Tz,size_toArray->TK,mem_cons_of_mem->TN,not_mem_nil->TQ,getElem?_eq_some_iff->TR,length_map->Ua,mem_append_right->Uc,getElem?_set_self->Ud,map_congr_left->Ug,mem_cons_self->Uh,getElem?_cons_zero->Uj,getElem?_cons_succ->Uo,length_cons->Up,map_map->Uu,mem_map->Uz,mem_filter->UA,map_append->UB,length_append->UD,getElem?_map->UE,eq_nil_of_length_eq_zero->UH,count_eq_zero_of_not_mem->UI,map_cons->UL,length_range->UM,getElem?_append_right->UO,mem_of_getElem?->UR,length_nil->UX,getElem?_append_left->ve,countP_eq_length_filter->De,set_cons_zero->vp,set_cons_succ->vr,range_succ->tu,nodup_cons->tv,mem_singleton->vt,getElem_mem->uC,countP_congr->u7,mem_append->uB,length_singleton->C9,lookup_cons->vb,zip_map'->tj,all_eq_true->zt,pairwise_iff_getElem->M0,drop_eq_getElem_cons->M1,range_eq_range'->D3,find?_cons->y0,perm_iff_count->D4,countP_eq_zero->D5,zip_cons_cons->FI,find?_eq_none->FL,nil_append->Dj,length_filter_le->Nf,forIn_cons->Dk,ext_getElem?->F4,range_add->Dh,nodup_range->E2,length_take->E3,getElem_of_mem->M7,getElem?_range->M8,getElem?_replicate->Rb,filter_append->M9,countP_map->E6,append_nil->E7,Pairwise->zbT,take_of_length_le->Rf,pairwise_lt_range->Rg,pairwise_map->M3,forIn_nil->EC,drop_length->Nz,cons_append->NA,range'->Dn,idxOf_lt_length_of_mem->R_,filter_sublist->R7,rel_of_pairwise_cons->M',getElem?_zip_eq_some->M_,getElem?_set->RB,zipIdx_cons->R0,range'_succ->R1,any_eq_true->R3,filter_eq_nil_iff->K_,drop_eq_nil_of_le->L',zipIdx_nil->Rn,map_nil->Nn,mem_append_left->_h,getElem?_of_mem->_i,replicate_succ->_n,length->NR,filterMap_cons->_o,getElem_idxOf->T_,forIn_toArray->U',countP_append->U_,length_eq_countP_add_countP->zdG,append_assoc->X',any_eq_false->X_,toArray->SN,countP_cons->_a
open Int renaming mul_emod->Tt,emod_lt_of_pos->Ub,emod_eq_emod_iff_emod_sub_eq_zero->Ul,add_emod->Um,emod_nonneg->Uq,emod_emod->Us,mul_comm->UC,emod_eq_of_lt->UG,mul_zero->UP,mul_assoc->qd,add_zero->rb,zero_mul->rJ,sub_emod->rK,emod_emod_of_dvd->Dc,toNat_natCast->zp,mul_one->sM,toNat_of_nonneg->FG,eq_ofNat_of_zero_le->Nd,mul_left_comm->F7,dvd_refl->Dg,mul_add->Dp,le_refl->F9,add_mul->Gx,zero_add->NP
open Nat renaming le_refl->Tv,lt_of_lt_of_le->TC,le_trans->TJ,le_add_right->TL,add_sub_cancel_left->TM,ne_of_lt->TU,lt_or_ge->TV,lt_succ_of_lt->UT,zero_le->UU,lt_irrefl->UY,not_lt_zero->rB,lt_succ_self->sd,zero_add->pz,ne_of_gt->q9,add_lt_add_left->Dd,exists_eq_add_of_le->Nb,mul_comm->vu,le_succ->uH,lt_of_add_lt_add_left->P8,reduceAdd->Di,min_le_right->NB,mul_le_mul_right->R5,min_eq_left->NG,le_of_lt->G4,add_zero->G5,lt_succ_of_le->RH,le_succ_of_le->RU,le_of_not_lt->Rj,lt_trans->NM,le_of_eq->NN,add_lt_of_lt_sub'->_g,not_lt->G6,sub_succ_lt_self->_m,add_assoc->Sa,zero_lt_of_lt->Y',lt_trichotomy->Y_,mod_eq_of_lt->_b,div_eq_of_lt->_c
open Option renaming bind_some->Tx,map_some->Uy,some->zal,isSome_iff_exists->D6,map->NS,getD_some->W_,some->cz
open Bool renaming and_eq_true->TZ,false_ne_true->Uk,false_eq_true->UN,or_eq_true->y6,eq_iff_iff->y7,not_eq_true'->F6,false_or->GO,and_eq_true_iff->_j,true->cC,false->cL
open Ne renaming symm->Ue
open PyProof.Rows renaming callWith_type1->Ut,slot_tuple_getitem->D9,listUpdate_at->Df,boot_zip->S_,slot_tupleiter_next->Rp,tupleItemsOf_->Nr,callWith_builtin1->zda,get?_update_seq->Te,seqEpoch_at->NK,seqObj->h7,Call_->tI,AllBare->uJ,IsTup->Dt,IntsAre->G9,envOfC->Ht,size_push'->PU,Subscript_->U0,boot_enumerate->U2,args_tuple_getitem->x?,args_tupleiter_next->y?,entry_tupleiter_next->D?,listItems_at->O?,subscriptTail_builtinR->zeZ
open PySem.Challenge renaming rw_barsplit_k49_whole_parted_by_bars->Uw
open Option.some renaming inj->UK
open PySem.Builtin.SmallTypes renaming ownedTupleIsFree->UQ,ownedTupleHandOut->I_,nextOf->P7,ownedTupleFields->zct
open PySem.Obj renaming mapSeq->US,data_mapFields->V_
open PySem.F renaming slot_zip_next->UZ,args_zip_next_1->zr,entry_zip_next->z8,slot_enumerate_next->Ng,plainAttrs_list->P9,slot_list_getattribute->Rc,slot_tuple_mul->NC,args_tuple_add_2->S',entry_tuple_add->N_,slot_tuple_add->O_,slot_int_rmul->S8,args_tuple_mul_2->Z_,entry_tuple_mul->_d
open PySem.Value renaming none->ng,type->uF,ref->uD
open PySem.SeqAt renaming EqAt->pk
open PySem.Str renaming ofString->px
open PySem.NameKind renaming free->rL,cell->NH
open Array renaming length_toList->vl
open PySem.Calls renaming spliced_cons->zj,spliced_nil->F0
open PySem.Builtin.List renaming listTooLong->MZ,listExtendWith->J'
open Sum renaming inl->pd
open PySem.PyData renaming eqv->tx,depth->A6,canLay0->E9,depthAll->Ri,eqvAll->S9,canLayAll0->_s
open True renaming intro->tE
open PySem.Builtin.Dict renaming updateFrom->Rh
open PySem.SeqAt.EqAt renaming int_int->M5
open PySem.Builtin.Slice renaming slicePlaces->J_,sliceAdjust->P_
open List.Pairwise renaming imp_of_mem->Q_,filter->O'
open Function renaming comp_def->R8,comp->S6
open False renaming elim->Dm
open ForInStep renaming yield->RV
open PySem.Heap.SameBut renaming update->P'
local macro_rules|`(($a,$b,*))=>`(⟨$a,$b,*⟩)
local macro_rules|`(()) => `(by first|decide +kernel|lia|omega|simp)
set_option autoImplicit true
noncomputable section
set_option compiler.extract_closed false
set_option compiler.small 0
set_option Elab.async false
set_option linter.all false
set_option maxRecDepth 100000
set_option maxHeartbeats 4000000
abbrev EQ:=PySem.Value->PySem.Shared->Prop
abbrev TW:=List (PySem.Addr×PySem.Obj)
abbrev DQ:=Nat->Nat->Nat->Int
abbrev DW:=Nat->Nat->Int
abbrev DV:=Nat->Bool
abbrev DK:=Nat->Nat
abbrev DX:=PySem.Str->Option PySem.Value
theorem DZ{c:Prop}{h:Decidable c}(z:c){α}{a b:α}:ite c a b=a:=if_pos z
theorem DJ{c:Prop}{h:Decidable c}(z:¬c){α}{a b:α}:ite c a b=b:=if_neg z
namespace L2
open PySem PySem.Spec PyProof.Rows
abbrev Key:=Sum Int Str
noncomputable def lj:Key->dj->Bool
 |.inl k,v=>Value.isInt k v
 |.inr x,v=>Value.isStrOf x v
noncomputable def SI(w:hB):Key->Int
 |.inl k=>hashInt k
 |.inr x=>hashStr w x
theorem qK:∀{k:Key} {v:dj},lj k v=cC->(∃i t,k=pd i/\v=Value.int i t)\/(∃x t,k=Sum.inr x/\v=Value.str x t)
 |.inl i,v,h=>by obtain⟨t,e⟩:=Value.isInt_shape h;exact .inl (i,t,rfl,e)
 |.inr x,v,h=>by obtain⟨t,e⟩:=Value.isStrOf_shape h;exact .inr (x,t,rfl,e)
theorem pH(i:Int)(t:Tok):lj (.inl i) (.int i t)=cC:=by simp[lj,Value.isInt]
theorem pG(x:Str)(t:Tok):lj (.inr x) (.str x t)=cC:=by simp[lj,Value.isStrOf]
theorem Mh(a b:Int):decide ((pd a:Key)=pd b)=(a==b):=()
theorem Me(a b:Str):decide ((Sum.inr a:Key)=Sum.inr b)=decide (a=b):=()
theorem Mg(a:Int)(b:Str):decide ((pd a)=Sum.inr b)=cL:=decide_eq_false<|λq=>nomatch q
theorem Mf(a:Str)(b:Int):decide ((Sum.inr a)=pd b)=cL:=decide_eq_false<|λq=>nomatch q
def k7(prog:hH)(w:hB):PySem.KeyKind prog w Key where
 is:=lj
 hash:=SI w
 inj:=λv a b ha O=>by
  rcases qK ha with⟨i,t,rfl,rfl⟩|⟨x,t,rfl,rfl⟩
  .rcases qK O with⟨j,u,rfl,e⟩|⟨y,u,rfl,e⟩
   .injection e with e1 _;rw[e1]
   .exact nomatch e
  .rcases qK O with⟨j,u,rfl,e⟩|⟨y,u,rfl,e⟩
   .exact nomatch e
   .injection e with e1 _;rw[e1]
 byValue:=λk v h=>by rcases qK h with⟨i,t,rfl,rfl⟩|⟨x,t,rfl,rfl⟩<;>rfl
 pyHash:=λI h=>by
  rcases qK I with⟨i,t,rfl,rfl⟩|⟨x,t,rfl,rfl⟩
  .exact wpAny_pyHash_int h
  .exact wpAny_pyHash_str h
 eqBool:=λQ I h=>by
  rcases qK Q with⟨i,t,rfl,rfl⟩|⟨x,t,rfl,rfl⟩
  .rcases qK I with⟨j,u,rfl,rfl⟩|⟨y,u,rfl,rfl⟩
   .rw[Mh]at h;exact wpAny_eqBool_int h
   .rw[Mg]at h;exact pk.int_str i t y u _ _ _ _ h
  .rcases qK I with⟨j,u,rfl,rfl⟩|⟨y,u,rfl,rfl⟩
   .rw[Mf]at h;exact pk.str_int x t j u _ _ _ _ h
   .rw[Me]at h;exact wpAny_eqBool_str h
 «strs» :=λk x t v h=>by
  rcases qK h with⟨i,u,rfl,e⟩|⟨y,u,rfl,e⟩
  .exact nomatch e
  .injection e with e1 _
   subst e1;cases v<;>rfl
theorem cc(prog:hH)(w:hB)(i:Int)(t:Tok):(k7 prog w).is (.inl i) (.int i t)=cC:=pH i t
theorem bZ(prog:hH)(w:hB)(x:Str)(t:Tok):(k7 prog w).is (.inr x) (.str x t)=cC:=pG x t
inductive V where
 |d7|bl (b:Bool)|int (i:Int)|str (x:Str)|rY (b:Array UInt8)|H8 (b:UInt64)|ref (a:di)|ty (n:String)
 deriving DecidableEq
def RelV:V->dj->Prop
 |.d7,u=>u=ng
 |.bl b,u=>u=Value.bool b
 |.int i,u=>∃t,u=Value.int i t
 |.str x,u=>∃t,u=Value.str x t
 |.rY b,u=>∃t,u=Value.bytes b t
 |.H8 b,u=>∃t,u=Value.float b t
 |.ref a,u=>u=uD a
 |.ty n,u=>u=uF n
abbrev eo:List V->List dj->Prop:=Paired RelV
theorem eo.length(r:eo xs us):xs.length=us.length:=Paired.length r
theorem eo.get:∀{xs:List V} {j:List dj} {i:Nat} {x:V},eo xs j->xs[i]? = cz x->∃u,j[i]? = cz u/\RelV x u
 |_,_,_,_,.nil,e=>by simp at e
 |_,_,0,_,.cons r _,e=>by simp at e;subst e;exact(_,rfl,r)
 |_,_,i+1,x,.cons _ t,e=>by obtain⟨u,y,I⟩:=eo.get t (by simpa using e);exact(u,by simpa using y,I)
theorem eo.set(r:RelV x u):∀{xs:List V} {j:List dj} i,eo xs j->eo (xs.set i x) (j.set i u)
 |_,_,_,.nil=>.nil
 |_,_,0,.cons _ t=>.cons r t
 |_,_,i+1,.cons q t=>.cons q (eo.set r i t)
theorem eo.append{xs ys:List V}{j ws:List dj}(h:eo xs j)(s:eo ys ws):eo (xs++ys) (j++ws):=by
 induction h with
 |nil=>exact s
 |cons r t y=>exact .cons r y
theorem eo.take:∀{xs:List V} {j:List dj} n,eo xs j->eo (xs.take n) (j.take n)
 |_,_,0,_=>.nil
 |_,_,_+1,.nil=>.nil
 |_,_,n+1,.cons r t=>.cons r (eo.take n t)
theorem eo.drop:∀{xs:List V} {j:List dj} n,eo xs j->eo (xs.drop n) (j.drop n)
 |_,_,0,r=>r
 |_,_,_+1,.nil=>.nil
 |_,_,n+1,.cons _ t=>eo.drop n t
def qi:Option V->Option dj->Prop
 |some v,cz u=>RelV v u
 |none,none=>True
 |_,_=>False
def KV{j:Type}:List (j×V)->List (j×dj)->Prop:=Paired λ(p:j×V) (q:j×dj)=>p.1=q.1/\RelV p.2 q.2
noncomputable def kV:Key->V
 |.inl i=>.int i
 |.inr x=>.str x
inductive HO where
 |lst (xs:List V)
 |tup (xs:List V)
 |dK (md:List (Key×V))|dT (md:List (List Key×V))
 |set (S:Int->Bool) (n:Nat)
 |ins (C dx:di) (fs:List (Str×V))
 |own (x:di)
 |xd (fs:List (Str×V))
 |met (f x:di)
 |i6 (lo hi:Int)
 |r8 (o:lU) (u:HO)
 |yg (ps:Array dj)
 |ext (φ:eK->Prop)
abbrev Hp:=di->Option HO
noncomputable def upd(H:Hp)(a:di)(o:HO):Hp:=λb=>if b=a then cz o else H b
theorem zF:upd H a o a=cz o:=by unfold upd;rw[DZ rfl]
theorem zJ(h:b≠a):upd H a o b=H b:=by unfold upd;rw[DJ h]
theorem vf{a:di}{o u:HO}:upd (upd H a o) a u=upd H a u:=by funext b;unfold upd;split<;>rfl
theorem qA{H:Hp}{a b:di}{o:HO}(h:H a=cz o)(h':H b=none):a≠b:=()
def sj(h:eK)(a:di)(y:Array dj):Prop:=∃o,h.get? a=cz o/\Prod.mk o.cls o.dict=(uF "tuple",none)/\∃n,o.data=.seq y n
theorem sj.new(h:eK)(y:Array dj):sj (h.push {cls:=.type "tuple",data:=.seq y}) h.objs.size y:=(_,Tw _ rfl,rfl,_,rfl)
theorem sj.tup(x:sj h a items):Dt h a items:=let (o,e,c,r):=x;(o,e,(Prod.mk.inj c).1,r)
section
variable(P:hH)(w:hB)
def nj(H:Hp)(h:eK)(a:di):HO->Prop
 |.lst e=>e.length<=eB/\∃(b:List dj) (n:Nat),eo e b/\h.get? a=cz {cls:=.type "list",data:=.seq b.toArray n}
 |.tup e=>e.length<=eB/\∃b:List dj,eo e b/\sj h a b.toArray
 |.dK d=>d.length<=eB/\(a==uw)=cL/\∃k,KV d k/\h.DictOf (k7 P w) a k
 |.dT d=>d.length<=eB/\(a==uw)=cL/\∃e:List (List Key×di×dj),
  Paired (λ(p:List Key×V) (q:List Key×di×dj)=>p.1=q.1/\H q.2.1=cz (.tup<|p.1.map kV)/\RelV p.2 q.2.2) d e/\
  ∃o j O,h.get? a=cz o/\o.ExactDict/\o.data=.dict j O/\j.toList=e.map (entryOfKey<|tupleKind<|k7 P w)/\(e.map (·.1)).Nodup
 |.set S n=>h.SetOf (intKind P w) a S n
 |.ins C g fs=>H g=cz (.own a)/\fs.length<=1000/\g≠a/\h.get? a=cz (E5 C g)/\
  ∃mA,h.Ns1 g mA/\(∀f,qi (fs.lookup f)<|mA f)/\Sb mA (fs.map (·.1))
 |.own _=>∃o,h.get? a=cz o
 |.xd fs=>∃mA,h.Ns1 a mA/\∀f,qi (fs.lookup f)<|mA f
 |.i6 lo l=>∃t u v,h.get? a=cz {cls:=.type "range",data:=.fields #[.int lo t,.int l u,.int 1 v]}
 |.r8 o u=>h.get? a=cz o/\nj H h a u
 |.yg m=>h.get? a=cz {cls:=.none,data:=.fields m}
 |.met f x=>h.get? a=cz (PySem.W.methodObj (.ref f)<|.ref x)
 |.ext i=>i h/\(∃o,h.get? a=cz o)/\∀y I:eK,i y->(∀o,y.get? a=cz o->I.get? a=cz o)->i I
def lp(H:Hp)(h:eK):Prop:=∀a o,H a=cz o->nj P w H h a o
end
section
theorem nj.lt(x:nj P w H h a o):a<h.objs.size:=by
 cases o with
 |lst d=>obtain⟨_,_,_,_,e⟩:=x;exact TH e
 |tup d=>obtain⟨_,_,_,p⟩:=x;exact p.tup.lt
 |dK b=>obtain⟨_,_,_,_,o,_,_,e,_⟩:=x;exact TH e
 |dT b=>obtain⟨_,_,_,_,o,_,_,e,_⟩:=x;exact TH e
 |set S n=>obtain⟨o,_,_,_,e,_⟩:=x;exact TH e
 |ins C g fs=>obtain⟨_,_,_,e,_⟩:=x;exact TH e
 |own y=>obtain⟨_,e⟩:=x;exact TH e
 |xd fs=>obtain⟨_,⟨_,_,_,e,_⟩,_⟩:=x;exact TH e
 |i6 lo i=>obtain⟨_,_,_,e⟩:=x;exact TH e
 |r8 I u=>obtain⟨e,_⟩:=x;exact TH e
 |yg j=>exact TH x
 |met f y=>exact TH x
 |ext k=>obtain⟨_,⟨_,e⟩,_⟩:=x;exact TH e
theorem Paired.S?(h:Paired F Q? R?)(f:∀a b,F a b->G a b):Paired G Q? R?:=by
 induction h with
 |nil=>exact .nil
 |cons r t y=>exact .cons (f _ _ r) y
theorem nj.u4(x:nj P w H h a o)(k:∀b u,(b=a\/H b=cz (.own a))->h.get? b=cz u->h'.get? b=cz u)
 (Q:∀b,H b=cz (.own a)->H' b=cz (.own a)) (U:∀b xs,H b=cz (.tup xs)->H' b=cz (.tup xs)):nj P w H' h' a o:=by
 induction o with
 |lst xs=>obtain⟨z,i,n,r,e⟩:=x;exact(z,i,n,r,k _ _ (.inl rfl) e)
 |tup xs=>obtain⟨z,i,r,I,e,c⟩:=x;exact(z,i,r,I,k _ _ (.inl rfl) e,c)
 |dK j=>obtain⟨z,y,A,r,I,g,O,e,c⟩:=x;exact(z,y,A,r,I,g,O,k _ _ (.inl rfl) e,c)
 |dT j=>
  obtain⟨z,y,xs,r,I,g,O,e,c⟩:=x;exact(z,y,xs,Paired.S? r λp q z=>(z.1,U _ _ z.2.1,z.2.2),I,g,O,k _ _ (.inl rfl) e,c)
 |set S n=>obtain⟨I,g,O,t,e,c⟩:=x;exact(I,g,O,t,k _ _ (.inl rfl) e,c)
 |ins C B fs=>
  obtain⟨d,z,s,e,l,⟨m,g,O,Y,c⟩,r⟩:=x;exact(Q _ d,z,s,k _ _ (.inl rfl) e,l,(m,g,O,k _ _ (.inr d) Y,c),r)
 |own y=>obtain⟨I,e⟩:=x;exact(I,k _ _ (.inl rfl) e)
 |xd fs=>obtain⟨l,⟨m,g,O,e,c⟩,r⟩:=x;exact(l,(m,g,O,k _ _ (.inl rfl) e,c),r)
 |i6 lo E=>obtain⟨t,u,v,e⟩:=x;exact(t,u,v,k _ _ (.inl rfl) e)
 |r8 I u Z=>obtain⟨e,q⟩:=x;exact(k _ _ (.inl rfl) e,Z q)
 |yg F=>
  have e:=x;exact k a _ (.inl rfl) e
 |met f y=>
  have e:=x;exact k a _ (.inl rfl) e
 |ext G=>obtain⟨p,⟨o,e⟩,st⟩:=x;exact(st _ _ p λo q=>k _ _ (.inl rfl) q,(o,k _ _ (.inl rfl) e),st)
theorem lp.lt(x:lp P w H h)(e:H a=cz o):a<h.objs.size:=(x a o e).lt
theorem lp.fresh(x:lp P w H h)(e:h.objs.size<=a):H a=none:=by
 cases q:H a with
 |none=>rfl
 |some u=>exact absurd (TC (x.lt q) e)<|UY _
theorem lp.kept(x:lp P w H h)(k:∀b u,h.get? b=cz u->h'.get? b=cz u):lp P w H h':=λa o e=>
 (x a o e).u4 (λb u _ q=>k b u q) (λ_ q=>q) λ_ _ q=>q
theorem lp.laid(x:lp P w H h)(k:∀b u,h.get? b=cz u->h'.get? b=cz u)(O:h.objs.size<=a)(new:nj P w (upd H a o) h' a o):lp P w (upd H a o) h':=λb u e=>by
 have y:=x.fresh O;by_cases I:b=a
 .subst I;rw[zF]at e;lia
 .rw[zJ I]at e
  exact(x b u e).u4 (λc v _ q=>k c v q) (λc q=>by rw[zJ (qA q y)];exact q) λc d q=>by rw[zJ (qA q y)];exact q
end
def Rd(H:Hp)(a:di)(u:HO):Prop:=H a=cz u\/∃o,H a=cz (.r8 o u)
theorem Rd.ok(r:Rd H a u)(x:lp P w H h):nj P w H h a u:=by
 rcases r with r|⟨o,r⟩
 .exact x a u r
 .obtain⟨_,q⟩:=x a _ r
  exact q
def Dw:Option HO->Prop
 |some (.lst _)=>True
 |some (.dK _)=>True
 |some (.dT _)=>True
 |some (.set _ _)=>True
 |some (.ins _ _ _)=>True
 |some (.ext _)=>True
 |_=>False
section
theorem lp.write(ok:lp P w H h)(I:Dw (H x))(j:e=x\/H e=cz (.own x))(k:∀b u,b≠e->h.get? b=cz u->h'.get? b=cz u)(U:∃u,h'.get? e=cz u)
 (new:nj P w (upd H x o') h' x o'):lp P w (upd H x o') h':=λb u q=>by
 have Y c y:H c=cz (.own y)->c≠x:=λr z=>by subst z;rw[r]at I;exact I
 have Z c a:H c=cz (.tup a)->c≠x:=λr z=>by subst z;rw[r]at I;exact I
 by_cases O:b=x
 .subst O;rw[zF]at q;lia
 .rw[zJ O]at q
  by_cases d:b=e
  .have Q:H b=cz (.own x):=by
    lia
   rw[q]at Q;cases Q;obtain⟨v,f⟩:=U;exact(v,by rw[d];exact f)
  .refine(ok b u q).u4 (λc v g r=>k c v ?_ r) (λc r=>by rw[zJ (Y c b r)];exact r) λc a r=>by rw[zJ (Z c a r)];exact r
   grind
end
structure Un(fs ex:List di)(H H':Hp)(h h':eK):Prop where
 keep:∀b o,h.get? b=cz o->H b=none->b∉fs->b∉ex->h'.get? b=cz o
 slot:∀b o,h.get? b=cz o->H b=none->b∈fs->b∉ex->∃sl,h'.get? b=cz {o with slots:=sl}
 free:∀b o,h.get? b=cz o->H b=none->b∉ex->H' b=none
 there:∀b o,h.get? b=cz o->b∉ex->∃o',h'.get? b=cz o'
 yy:∀b xs,H b=cz (.tup xs)->H' b=cz (.tup xs)
 uW:∀b o u,H b=cz (.r8 o u)->H' b=cz (.r8 o u)
 u5:∀b ps,H b=cz (.yg ps)->∃more,H' b=cz (.yg<|ps++more)
section
theorem Un.any(u:Un fs ex H H1 h h1)(q:h.get? b=cz ob)(n:H b=none)(y:b∉ex):∃j,h1.get? b=cz {ob with slots:=j}:=by
 by_cases I:b∈fs
 .exact u.slot b ob q n I y
 .exact(ob.slots,u.keep b ob q n I y)
theorem Un.kept(k:∀b u,h.get? b=cz u->h'.get? b=cz u):Un fs ex H H h h':=
 (λb y q _ _ _=>k b y q,λb y q _ _ _=>(y.slots,k b y q),λ_ _ _ n _=>n,λb y q _=>(y,k b y q),λ_ _ q=>q,λ_ _ _ q=>q,λ_ a q=>(#[],by rw[q];simp))
theorem Un.refl:Un fs ex H H h h:=Un.kept λ_ _ q=>q
theorem Un.laid(k:∀b u,h.get? b=cz u->h'.get? b=cz u)(I:h.objs.size<=a)(y:H a=none):Un fs ex H (upd H a o) h h' where
 keep:=λb u q _ _ _=>k b u q
 slot:=λb u q _ _ _=>(u.slots,k b u q)
 free:=λb u q n _=>by rw[zJ (TU<|TC (TH q) I)];exact n
 there:=λb u q _=>(u,k b u q)
 yy:=λb xs q=>by rw[zJ (qA q y)];exact q
 uW:=λb u xs q=>by rw[zJ (qA q y)];exact q
 u5:=λb ps q=>(#[],by rw[zJ (qA q y),q];simp)
theorem Un.write(I:Dw (H x))(U:e=x\/H e=cz (.own x))(k:∀b u,b≠e->h.get? b=cz u->h'.get? b=cz u)(Y:∃u,h'.get? e=cz u):Un fs ex H (upd H x o) h h':=by
 have Q b:H b=none->b≠x:=λn z=>by subst z;rw[n]at I;exact I
 have O b:H b=none->b≠e:=λn z=>by lia
 have y b u:H b=cz u->¬Dw (cz u)->b≠x:=λq nm z=>by lia
 refine(λb u q n _ _=>k b u (O b n) q,λb u q n _ _=>(u.slots,k b u (O b n) q),λb u q n _=>by rw[zJ (Q b n)];exact n,λb u q _=>?_,
  λb a q=>by rw[zJ (y b _ q λz=>z)];exact q,λb u a q=>by rw[zJ (y b _ q λz=>z)];exact q,λb d q=>(#[],by rw[zJ (y b _ q λz=>z),q];simp))
 grind
end
noncomputable def L8(h:eK)(H:Hp):List di:=(Tn h.objs.size).filter λa=>(H a).isSome
def Hu(h:eK)(H:Hp):eK:=PySem.W.hideAll h<|L8 h H
theorem zd1(h:eK)(H:Hp):(Hu h H).objs.size=h.objs.size:=PySem.W.hideAll_size _ _
theorem AJ(e:h.get? b=cz o)(n:H b=none):(Hu h H).get? b=cz o:=
 PySem.W.hideAll_get _ e λy=>by have q:=(UA.mp y).2;rw[n]at q;simp at q
theorem FD(e:(Hu h H).get? b=cz o):h.get? b=cz o/\H b=none:=by
 have y:=PySem.W.of_hideAll (L8 h H) e;refine(y,?_);cases q:H b with
 |none=>rfl
 |some x=>
  have I:b∈L8 h H:=UA.mpr (Tp.mpr<|TH y,by simp[q]);have z:(Hu h H).get? b=none:=PySem.W.hideAll_none (L8 h H) I;lia
noncomputable def Hf(g h:eK)(L:di):List (di×lU):=(Tn h.objs.size).filterMap λa=>if a=L\/(g.get? a).isSome=cC then none else (h.get? a).map λo=>(a,o)
def vN(g h:eK)(L d:di):List (di×lU):=(Hf g h L).filter λp=>decide<|p.1≠d
structure Mod(K:Ti)(mg:DX)(base:eK):Prop where
 DH:K.In base
 glob:base.Ns qy mg
 blt:∃mb,base.Ns U3 mb/\∀x:Str,x ≠ "__name__"->mb x=sV x
 nolimit:base.NoLimit
structure Cx where
 prog:hH
 w:hB
 K:Ti
 mg:Str->Option dj
 base:eK
 A:l6
 N:List Str
 ow:el
 Ds:Hp
 env:o5
 outer:List o5
 stack:List o5
 ex:List di
 fn:Str->Bool
 calm:Bool
 pn:List (di×lU)
 xe:dj->el->Prop
noncomputable def sG(l:List o5):List di:=l.filterMap (·.frame)
abbrev Cx.fs(X:Cx):List di:=sG X.outer
def N9(j:h6)(x:Str):Prop:=j.names.lookup x=cz .local\/j.names.lookup x=cz .cell\/j.names.lookup x=cz .free
def Loc(j:h6)(x:Str):Prop:=j.names.lookup x=cz .local\/j.names.lookup x=cz .cell
def SV(env:o5)(h:eK)(m:DX)(x:Str)(u:dj):Prop:=
 (env.kindOf x=cz .local/\m x=cz u)\/((env.kindOf x=cz .cell\/env.kindOf x=cz .free)/\∃c,env.cells.lookup x=cz c/\h.IsCell c (cz u))
structure Cx.Ok(X:Cx):Prop where
 mod:Mod X.K X.mg X.base
 kind:X.env.scope.kind=.function
 glob:X.env.globals=qy
 blt:X.env.builtins=U3
 above:X.ow.heap.objs.size<=X.env.locals
 inj:∀x y c,X.env.cells.lookup x=cz c->X.env.cells.lookup y=cz c->x=y
 has:∀x,(X.env.kindOf x=cz .cell\/X.env.kindOf x=cz .free)->∃c,X.env.cells.lookup x=cz c
 Dz:∀x c,X.fn x=cC->X.env.cells.lookup x=cz c->X.ow.heap.objs.size<=c
 hd:X.calm=cC->X.A.handled=none
 frames:X.A.frames=cz X.stack
 L3:X.stack=X.outer\/(X.stack=X.env::X.outer/\X.env.frame=cz X.env.locals)
 HB:∀b∈X.ex,b≠X.env.locals/\∀x c,X.env.cells.lookup x=cz c->c≠b
 bs:∀b o,X.base.get? b=cz o->X.ow.heap.get? b=cz o/\X.Ds b=none
 sm:X.base.objs.size<=X.ow.heap.objs.size
 DN:∀b o,X.base.get? b=cz o->b∉X.ex
 DE:∀b∈X.ex,b∉X.fs
 rl:X.ow.heap.FunFrames X.base X.outer
 ua:∀b∈X.fs,X.Ds b=none
structure Inv(X:Cx)(pins:TW)(σ:List (Option V))(H:Hp)(s:el):Prop where
 ok:X.Ok
 os:s.os=X.ow.os
 bare:uJ s.gens
 base:Un X.fs X.ex X.Ds H X.ow.heap s.heap
 loc:∃m,s.heap.Ns X.env.locals m/\∀(i:Nat) (x:Str) (v:V),X.N[i]? = cz x->σ[i]? = cz (cz v)->N9 X.env.scope x->∃u,RelV v u/\SV X.env s.heap m x u
 cell:∀x c,X.env.cells.lookup x=cz c->∃v,s.heap.IsCell c v
 free:H X.env.locals=none
 sF:∀x c,X.env.cells.lookup x=cz c->H c=none
 pin:∀p∈X.pn++pins,s.heap.get? p.1=cz p.2/\H p.1=none/\p.1≠X.env.locals/\p.1∉X.fs/\∀v,p.2.data ≠ .cell v
 eC:lp X.prog X.w H s.heap
 len:σ.length=X.N.length
section
variable{X:Cx}{pins:TW}{σ:List (Option V)}{H H':Hp}{s:el}{h':eK}
theorem Cx.Ok.V?(ok:X.Ok)(e:X.base.get? b=cz o):b∉X.fs:=λy=>by have:=(ok.rl.mem y).1;lia
theorem Inv.bs(I:Inv X pins σ H s):∀b o,X.base.get? b=cz o->s.heap.get? b=cz o/\H b=none:=λb o e=>
 (I.base.keep b o (I.ok.bs b o e).1 (I.ok.bs b o e).2 (I.ok.V? e) (I.ok.DN b o e),I.base.free b o (I.ok.bs b o e).1 (I.ok.bs b o e).2 (I.ok.DN b o e))
theorem Inv.bk(I:Inv X pins σ H s):∀b o,X.base.get? b=cz o->s.heap.get? b=cz o:=λb o e=>(I.bs b o e).1
theorem Inv.mod(I:Inv X pins σ H s):Mod X.K X.mg X.base:=I.ok.mod
theorem Inv.n4(I:Inv X pins σ H s):X.K.In s.heap:=I.ok.mod.DH.keeps I.bk
theorem Inv.lt(I:Inv X pins σ H s):X.env.locals<s.heap.objs.size:=let (_,y,_):=I.loc;y.lt
theorem Inv.sz(I:Inv X pins σ H s):X.ow.heap.objs.size<=s.heap.objs.size:=TJ I.ok.above<|G4 I.lt
theorem Inv.X?(I:Inv X pins σ H s)(h:s.heap.objs.size<=a):a∉X.fs:=λy=>by obtain⟨_,o,O,_⟩:=I.ok.rl.mem y;exact absurd (TC (TH O)<|TJ I.sz h)<|UY _
theorem Inv.xg(I:Inv X pins σ H s):∀x c,X.env.cells.lookup x=cz c->c≠X.env.locals:=λx c e z=>by obtain⟨v,o,y,b⟩:=I.cell x c e;obtain⟨m,⟨d,a,O,Q,U,_⟩,_⟩:=I.loc;lia
theorem Inv.rl(I:Inv X pins σ H s):s.heap.FunFrames X.base X.outer:=by
 have all:∀l,(∀b∈sG l,b∈X.fs)->X.ow.heap.FunFrames X.base l->s.heap.FunFrames X.base l:=by
  intro l
  induction l with
  |nil=>intro _ _;trivial
  |cons d r U=>
   intro a Y;obtain⟨Z,⟨L,o,y,g,h,f⟩,i⟩:=Y;have O:=a L (by unfold sG;rw[_o,y];exact Uh);obtain⟨j,e⟩:=I.base.slot L o h (I.ok.ua L O) O λz=>I.ok.DE L z O;exact(Z,(L,_,y,g,e,f),U (λb Q=>a b<|by unfold sG;rw[_o,y];exact TN _ Q) i)
 exact all X.outer (λ_ Q=>Q) I.ok.rl
theorem Inv.stack(I:Inv X pins σ H s):s.heap.FunFrames X.base X.stack:=by
 rcases I.ok.L3 with e|⟨e,y⟩
 .rw[e];exact I.rl
 .rw[e]
  obtain⟨m,O,_⟩:=I.loc;refine .cons (by rw[I.ok.kind];decide) y O ?_ I.rl;exact Heap.get?_none_of_le<|TJ I.ok.sm I.ok.above
theorem Inv.PY(I:Inv X pins σ H s):∀b∈sG X.stack,b∈X.env.locals::X.fs:=λb y=>by
 rcases I.ok.L3 with e|⟨e,O⟩
 .rw[e]at y;exact TN _ y
 .rw[e]at y
  unfold sG at y;rw[_o,O]at y;exact y
theorem Inv.x_(I:Inv X pins σ H s):∀b∈sG X.stack,H b=none:=λb y=>by
 rcases Tz.mp (I.PY b y)with e|y
 .rw[e];exact I.free
 .obtain⟨_,o,O,_⟩:=I.ok.rl.mem y
  exact I.base.free b o O (I.ok.ua b y) λz=>I.ok.DE b z y
theorem Inv.step{g':Array GenState}{t':Nat}{d':Drawn}{ch:List di}(I:Inv X pins σ H s)
 (U:∀b∈ch,(b∈X.ex\/X.ow.heap.objs.size<=b)/\b≠X.env.locals/\(∀x c,X.env.cells.lookup x=cz c->c≠b)/\∀p∈X.pn++pins,p.1≠b)
 (keep:∀b o,b≠X.env.locals->b∉X.fs->b∉ch->s.heap.get? b=cz o->H b=none->h'.get? b=cz o)
 (j:∀b o,b≠X.env.locals->b∈X.fs->b∉ch->s.heap.get? b=cz o->H b=none->∃sl,h'.get? b=cz {o with slots:=sl}) (free:∀b o,b∉ch->s.heap.get? b=cz o->H b=none->H' b=none)
 (B:∀b o,b∉ch->s.heap.get? b=cz o->∃P,h'.get? b=cz P)
 (R:∀b xs,H b=cz (.tup xs)->H' b=cz (.tup xs)) (E:∀b o u,H b=cz (.r8 o u)->H' b=cz (.r8 o u)) (u5:∀b ps,H b=cz (.yg ps)->∃more,H' b=cz (.yg<|ps++more))
 (ns:∀m,s.heap.Ns X.env.locals m->h'.Ns X.env.locals m) (S:lp X.prog X.w H' h') (hg:uJ g'):
 Inv X pins σ H' {s with heap:=h',gens:=g',drawn:=d',toks:=t'}:=by
 have h:∀b o,_=cz o->b≠X.env.locals:=λb o e=>TU<|TC (TH e) I.ok.above;have Z:∀b o,_=cz o->b∉X.ex->b∉ch:=λb o e y O=>by
  rcases (U b O).1 with z|z
  .exact y z
  .exact absurd (TC (TH e) z)<|UY _
 have t:∀x c,_=cz c->∀v,s.heap.IsCell c v->h'.IsCell c v:=λx c e v L=>by
  obtain⟨o,Q,g⟩:=L;have Y:=λz=>(U c z).2.2.1 x c e rfl;by_cases A:c∈X.fs
  .obtain⟨sl,q⟩:=j c o (I.xg x c e) A Y Q (I.sF x c e)
   exact(_,q,g)
  .exact(o,keep c o (I.xg x c e) A Y Q<|I.sF x c e,g)
 refine(I.ok,I.os,hg,(λb o e n O y=>?_,λb o e n O y=>?_,λb o e n y=>?_,λb o e y=>?_,λb xs e=>R b xs<|I.base.yy b xs e,λb o xs e=>E b o xs<|I.base.uW b o xs e,λb ps e=>?_),?_,λx c e=>?_,?_,λx c e=>?_,λp C=>?_,S,I.len)
 .exact keep b o (h b o e) O (Z b o e y) (I.base.keep b o e n O y)<|I.base.free b o e n y
 .obtain⟨sl,a⟩:=I.base.slot b o e n O y
  obtain⟨J,f⟩:=j b _ (h b o e) O (Z b o e y) a<|I.base.free b o e n y;exact(J,f)
 .obtain⟨P,a⟩:=I.base.there b o e y
  exact free b P (Z b o e y) a<|I.base.free b o e n y
 .obtain⟨P,a⟩:=I.base.there b o e y
  exact B b P (Z b o e y) a
 .obtain⟨T,a⟩:=I.base.u5 b ps e
  grind
 .obtain⟨m,N,M⟩:=I.loc
  refine(m,ns m N,λi x v a f K=>?_);obtain⟨u,r,l⟩:=M i x v a f K;refine(u,r,?_);rcases l with l|⟨k,c,e,z⟩
  .exact .inl l
  .exact .inr (k,c,e,t x c e _ z)
 .obtain⟨v,z⟩:=I.cell x c e
  exact(v,t x c e v z)
 .obtain⟨m,⟨o,_,_,Q,_⟩,_⟩:=I.loc
  exact free _ o (λz=>(U _ z).2.1 rfl) Q I.free
 .obtain⟨v,o,Q,g⟩:=I.cell x c e
  exact free c o (λz=>(U c z).2.2.1 x c e rfl) Q<|I.sF x c e
 .obtain⟨e,n,F,G,d⟩:=I.pin p C
  have Y:=λz=>(U p.1 z).2.2.2 p C rfl;exact(keep p.1 p.2 F G Y e n,free p.1 p.2 Y e n,F,G,d)
theorem Inv.un(I:Inv X pins σ H s)(u:Un X.fs [] H H' s.heap h')(j:lp X.prog X.w H' h'):Inv X pins σ H' {s with heap:=h',toks:=t'}:=by
 obtain⟨m,⟨o,g,f,O,r⟩,_⟩:=id I.loc;obtain⟨k,U⟩:=u.any O I.free ();exact I.step (ch:=[]) (λ_ z=>nomatch z) (λb o _ y _ e n=>u.keep b o e n y ()) (λb o _ y _ e n=>u.slot b o e n y ()) (λb o _ e n=>u.free b o e n ()) (λb o _ e=>u.there b o e ()) u.yy u.uW u.u5 (λh Y=>by obtain⟨i,Z,a,Q,d⟩:=Y;rw[O]at Q;cases Q;exact(_,Z,a,U,d)) j I.bare
theorem Inv.call(I:Inv X pins σ H s)(u:Un (sG X.stack) ch H H' s.heap h')(j:lp X.prog X.w H' h')(Z:uJ g')
 (Q:∀b∈ch,(b∈X.ex\/X.ow.heap.objs.size<=b)/\b≠X.env.locals/\(∀x c,X.env.cells.lookup x=cz c->c≠b)/\∀p∈X.pn++pins,p.1≠b):
 Inv X pins σ H' {s with heap:=h',gens:=g',drawn:=d',toks:=t'}:=by
 obtain⟨m,⟨o,k,i,U,r⟩,_⟩:=id I.loc;obtain⟨A,O⟩:=u.any U I.free λz=>(Q _ z).2.1 rfl;exact I.step Q (λb o O f y e n=>u.keep b o e n (λz=>(Tz.mp<|I.PY b z).elim O f) y) (λb o _ _ y e n=>u.any e n y) (λb o y e n=>u.free b o e n y) (λb o y e=>u.there b o e y) u.yy u.uW u.u5 (λl g=>by obtain⟨t,a,d,Y,h⟩:=g;rw[U]at Y;cases Y;exact(_,a,d,O,h)) j Z
theorem Inv.turned(I:Inv X pins σ H s)(k:∀b o,b≠it->s.heap.get? b=cz o->h'.get? b=cz o)(j:H it=none)(O:it≠X.env.locals)
 (Q:it∈X.ex\/X.ow.heap.objs.size<=it) (U:∀x c,X.env.cells.lookup x=cz c->c≠it) (Y:∀p∈X.pn++pins,p.1≠it):Inv X pins σ H {s with heap:=h',toks:=t'}:=by
 refine I.step (ch:=[it]) (λb Z=>?_) (λb o _ _ y e _=>k b o (λz=>y<|by simp[z]) e) (λb o _ _ y e _=>(o.slots,k b o (λz=>y<|by simp[z]) e)) (λ_ _ _ _ n=>n)
  (λb o y e=>(o,k b o (λz=>y<|by simp[z]) e)) (λ_ _ e=>e) (λ_ _ _ e=>e) (λb h e=>(#[],by rw[e];simp)) (λm f=>?_) (λb u e=>?_) I.bare
 .have e:=by simpa using Z
  subst e;exact(Q,O,U,Y)
 .obtain⟨o,d,a,g,r⟩:=f
  exact(o,d,a,k _ o (Ue O) g,r)
 .refine(I.eC b u e).u4 (λc v y q=>k c v ?_ q) (λ_ q=>q) λ_ _ q=>q
  lia
theorem Inv.tok(I:Inv X pins σ H s)(t:Nat):Inv X pins σ H {s with toks:=t}:=I.un Un.refl I.eC
theorem Inv.kept(I:Inv X pins σ H s)(k:∀b u,s.heap.get? b=cz u->h'.get? b=cz u):Inv X pins σ H {s with heap:=h',toks:=t'}:=I.un (Un.kept k)<|I.eC.kept k
theorem Inv.laid(I:Inv X pins σ H s)(k:∀b u,s.heap.get? b=cz u->h'.get? b=cz u)(y:s.heap.objs.size<=a)(new:nj X.prog X.w (upd H a o) h' a o):
 Inv X pins σ (upd H a o) {s with heap:=h',toks:=t'}:=I.un (Un.laid k y<|I.eC.fresh y)<|I.eC.laid k y new
theorem Inv.write(I:Inv X pins σ H s)(y:Dw (H x))(O:e=x\/H e=cz (.own x))(k:∀b u,b≠e->s.heap.get? b=cz u->h'.get? b=cz u)(Q:∃u,h'.get? e=cz u)
 (new:nj X.prog X.w (upd H x o) h' x o):Inv X pins σ (upd H x o) {s with heap:=h',toks:=t'}:=I.un (Un.write y O k Q)<|I.eC.write y O k Q new
theorem Inv.KX(I:Inv X pins σ H s)(h:∀p∈y,s.heap.get? p.1=cz p.2/\H p.1=none/\p.1≠X.env.locals/\p.1∉X.fs/\∀v,p.2.data ≠ .cell v):Inv X y σ H s:=
 (I.ok,I.os,I.bare,I.base,I.loc,I.cell,I.free,I.sF,λp O=>(uB.mp O).elim (λz=>I.pin p<|_h _ z) (h p),I.eC,I.len)
theorem eY{N:List Str}(y:N.Nodup){i j:Nat}{x:Str}(a:N[i]? = cz x)(b:N[j]? = cz x):i=j:=by obtain⟨O,d⟩:=TR.mp a;obtain⟨Q,I⟩:=TR.mp b;exact(List.getElem_inj y).mp (d.trans I.symm)
theorem Wo(I:Inv X pins σ H s)(hN:X.N.Nodup)(B:X.N[i]? = cz x)(O:Loc X.env.scope x)(r:RelV v u)
 (h:∀s',Inv X pins (σ.set i<|some v) H s'->(∃a,z4 a s.heap s'.heap/\(a=X.env.locals\/X.env.cells.lookup x=cz a))->Q ⟨⟩ s') (hf:X.fn x=cC\/X.env.scope.names.lookup x=cz .local:=by first|exact .inl rfl|exact .inr rfl|assumption):wpAny M A (storeName X.env x u) Q E s:=by
 obtain⟨m,K,hl⟩:=id I.loc;have ap:(X.env.scope.kind ==.class || (X.env.scope.kind ==.module&&X.env.locals != X.env.globals))=cL:=by rw[I.ok.kind];rfl
 have ae:i<σ.length:=by rw[I.len];exact(TR.mp B).1
 have xg:=I.xg;have ak:∀{a:di} {h':eK},(∃o,s.heap.get? a=cz o/\H a=none)->z4 a s.heap h'->lp X.prog X.w H h':=λ{a h'} ha f b ob e=>by obtain⟨_,_,b7⟩:=ha;refine(I.eC b ob e).u4 (λc F U q=>(f.2 c ?_).trans q) (λ_ q=>q) λ_ _ q=>q;lia
 rcases O with hk|hk
 .refine wpAny_storeName_local hk K (λh' ax f=>?_) ap
  refine Tf λkZ=>?_;obtain⟨oL,_,_,b2,_⟩:=id K;refine kZ ?_;refine h _ (I.ok,I.os,I.bare,(λb o e n Z O=>?_,λb o e n Z O=>?_,I.base.free,λb o e O=>?_,I.base.yy,I.base.uW,I.base.u5),(_,ax,λj y v' g Y J=>?_),λy c e=>?_,I.free,I.sF,λp L=>?_,ak (oL,b2,I.free) f,by simpa using I.len) (_,f,.inl rfl)
  .exact(f.2 b<|TU<|TC (TH e) I.ok.above).trans (I.base.keep b o e n Z O)
  .obtain⟨T,g⟩:=I.base.slot b o e n Z O
   exact(T,(f.2 b<|TU<|TC (TH e) I.ok.above).trans g)
  .obtain⟨R,g⟩:=I.base.there b o e O
   exact(R,(f.2 b<|TU<|TC (TH e) I.ok.above).trans g)
  .by_cases l:j=i
   .subst l
    rw[B]at g;cases g;rw[Ud ae]at Y;cases Y;exact(u,r,.inl (hk,by simp))
   .rw[Tu (Ue l)]at Y
    obtain⟨W,S,q⟩:=hl j y v' g Y J;refine(W,S,?_);rcases q with⟨k,e⟩|⟨k,c,e,z⟩
    .refine .inl (k,?_)
     have:y≠x:=λe=>l<|eY hN g<|e ▸ B;simp[this,e]
    .exact .inr (k,c,e,z.sameBut f<|xg y c e)
  .obtain⟨F,z⟩:=I.cell y c e
   exact(F,z.sameBut f<|xg y c e)
  .obtain⟨e,n,C,P,d⟩:=I.pin p L
   exact((f.2 p.1 C).trans e,n,C,P,d)
 .have G:X.fn x=cC:=by
   lia
  obtain⟨c,U⟩:=I.ok.has x<|.inl hk;obtain⟨F,z⟩:=I.cell x c U;refine wpAny_storeName_cell I.ok.kind hk U z<|λh' al f=>?_;obtain⟨oc,am,b3⟩:=id z;refine h _ (I.ok,I.os,I.bare,(λb o e n Z O=>?_,λb o e n Z O=>?_,I.base.free,λb o e O=>?_,I.base.yy,I.base.uW,I.base.u5),(m,K.sameBut f<|Ue<|xg x c U,λj y v' g Y J=>?_),λy t e=>?_,I.free,I.sF,λp L=>?_,ak (oc,am,I.sF x c U) f,by simpa using I.len) (c,f,.inr U)
  .exact(f.2 b<|TU<|TC (TH e)<|I.ok.Dz x c G U).trans (I.base.keep b o e n Z O)
  .obtain⟨T,g⟩:=I.base.slot b o e n Z O
   exact(T,(f.2 b<|TU<|TC (TH e)<|I.ok.Dz x c G U).trans g)
  .obtain⟨R,g⟩:=I.base.there b o e O
   exact(R,(f.2 b<|TU<|TC (TH e)<|I.ok.Dz x c G U).trans g)
  .by_cases l:j=i
   .subst l
    rw[B]at g;cases g;rw[Ud ae]at Y;cases Y;exact(u,r,.inr (.inl hk,c,U,al))
   .rw[Tu (Ue l)]at Y
    obtain⟨W,S,q⟩:=hl j y v' g Y J;refine(W,S,?_);rcases q with q|⟨k,t,e,z'⟩
    .exact .inl q
    .refine .inr (k,t,e,z'.sameBut f ?_)
     rintro rfl;exact l<|eY hN g<|I.ok.inj _ _ _ e U ▸ B
  .by_cases an:t=c
   .subst an;exact(_,al)
   .obtain⟨w2,z2⟩:=I.cell y t e
    exact(w2,z2.sameBut f an)
  .obtain⟨e,n,C,P,d⟩:=I.pin p L
   refine((f.2 p.1 ?_).trans e,n,C,P,d);intro q;rw[q,am]at e;have q':=UK e;exact d F (by rw[<-q'];exact b3)
theorem dQ(I:Inv X pins σ H s)(O:X.N.Nodup)(j:X.N[i]? = cz x)(U:Loc X.env.scope x)(r:RelV v u)
 (h:∀y,Inv X pins (σ.set i<|some v) H y->Q ⟨⟩ y) (Y:X.fn x=cC\/X.env.scope.names.lookup x=cz .local:=by first|exact .inl rfl|exact .inr rfl|assumption):wpAny M A (storeName X.env x u) Q E s:=
 Wo I O j U r (λy Z _=>h y Z) Y
theorem Inv.A?(I:Inv X pins σ H s)(y:s'.os=s.os)(u:Un (sG X.stack) ch H H' s.heap s'.heap)(j:lp X.prog X.w H' s'.heap)(O:uJ s'.gens)
 (Q:∀b∈ch,(b∈X.ex\/X.ow.heap.objs.size<=b)/\b≠X.env.locals/\(∀x c,X.env.cells.lookup x=cz c->c≠b)/\∀p∈X.pn++pins,p.1≠b):Inv X pins σ H' s':=by
 obtain⟨h',U,Y,d,a⟩:=s';have e:=y;subst e;exact I.call u j O Q
end
abbrev XK:=dj->Option di->Hp->Prop
abbrev St:=List (Option V)
abbrev VK:=V->Hp->Prop
abbrev TE:=St->Hp->VK->Prop
abbrev TT:=St->Hp->(Bool->Hp->Prop)->Prop
abbrev TA:=St->Hp->(List V->Hp->Prop)->Prop
structure Ends where
 nx:St->Hp->Prop
 rt:VK
 bk:St->Hp->Prop:=λ_ _=>False
 ct:St->Hp->Prop:=λ_ _=>False
abbrev TS:=Ends->St->Hp->Prop
def EP(X:Cx)(j:TW)(z:St)(Q:VK)(u:dj)(y:el):Prop:=∃v a,Inv X j z a y/\RelV v u/\Q v a
def TP(X:Cx)(j:TW)(z:St)(Q:Bool->Hp->Prop)(b:Bool)(y:el):Prop:=∃a,Inv X j z a y/\Q b a
def AP(X:Cx)(j:TW)(B:St)(Q:List V->Hp->Prop)(z:List dj)(y:el):Prop:=∃b a,Inv X j B a y/\eo b z/\Q b a
def SP(X:Cx)(j:TW)(D:Ends)(f:Flow)(I:el):Prop:=
 match f with
 |.next=>∃y a,Inv X j y a I/\D.nx y a
 |.brk=>∃y a,Inv X j y a I/\D.bk y a
 |.cont=>∃y a,Inv X j y a I/\D.ct y a
 |.ret u=>∃v y a,Inv X j y a I/\RelV v u/\D.rt v a
def PE(X:Cx)(e:d8)(t:TE):Prop:=
 ∀(a:TW) (s:el) (b:St) (H:Hp) (Q:VK),Inv X a b H s->t b H Q->wpAny (d5 X.prog X.w) X.A (dy e X.env) (EP X a b Q) X.xe s
def PT(X:Cx)(e:d8)(t:TT):Prop:=
 ∀(a:TW) (s:el) (b:St) (H:Hp) (Q:Bool->Hp->Prop),Inv X a b H s->t b H Q->wpAny (d5 X.prog X.w) X.A (xv e X.env<|eval e X.env) (TP X a b Q) X.xe s
def PW(X:Cx)(e:d8)(t:TT):Prop:=
 ∀(y:Sem dj) (a:TW) (s:el) (b:St) (H:Hp) (Q:Bool->Hp->Prop),Inv X a b H s->t b H Q->wpAny (d5 X.prog X.w) X.A (xv e X.env y) (TP X a b Q) X.xe s
theorem PW.pt(h:PW X e t):PT X e t:=h _
def PA(X:Cx)(es:List d8)(t:TA):Prop:=
 ∀(pos:f9) (a:TW) (s:el) (b:St) (H:Hp) (Q:List V->Hp->Prop),Inv X a b H s->t b H Q->wpAny (d5 X.prog X.w) X.A (PX<|backTo pos<|starEach es X.env) (AP X a b Q) X.xe s
def PS(X:Cx)(st:h9)(t:TS):Prop:=
 ∀(a:TW) (s:el) (b:St) (H:Hp) (D:Ends),Inv X a b H s->t D b H->wpAny (d5 X.prog X.w) X.A (exec st X.env) (SP X a D) X.xe s
def pg(X:Cx)(st:List h9)(t:TS):Prop:=
 ∀(a:TW) (s:el) (b:St) (H:Hp) (D:Ends),Inv X a b H s->t D b H->wpAny (d5 X.prog X.w) X.A (execs st X.env) (SP X a D) X.xe s
theorem ea(h:wpAny M A t Q E s)(y:∀a s,Q a s->Q' a s):wpAny M A t Q' E s:=rz h y λ_ _ x=>x
section
variable{X:Cx}
noncomputable def Ya(i:Nat):TE:=λa H Q=>∃v,a[i]? = cz (cz v)/\Q v H
noncomputable def tC(v:V):TE:=λ_ H Q=>Q v H
theorem Lj(Z:X.N[i]? = cz x)(B:N9 X.env.scope x)(j:(x==("__debug__"))=cL:=by decide)(z:(x==("__classdict__"))=cL:=by decide):PE X (.Name x pos) (Ya i):=by
 intro a s g H Q I h;obtain⟨v,e,h⟩:=h;obtain⟨m,f,b⟩:=I.loc;obtain⟨u,r,l⟩:=b i x v Z e B;have O:EP X a g Q u s:=(v,H,I,r,h);rcases l with⟨y,d⟩|⟨y,c,U,Y⟩
 .exact F_ (wpAny_loadName_local I.ok.kind y f d O) j
 .rcases y with y|y
  .exact F_ (wpAny_loadName_cell I.ok.kind y U Y O) j
  .exact F_ (wpAny_loadName_free I.ok.kind y U Y O z) j
theorem Lq:PE X (.Constant (.int i) j pos) (tC<|.int i):=λ_ _ _ H _ I h=>wpAny_Constant_int (.int i,H,I.tok _,(_,rfl),h)
theorem OR:PE X (.Constant (.bool b) j pos) (tC<|.bl b):=λ_ _ _ H _ I h=>Constant_bool (.bl b,H,I,rfl,h)
theorem Ln:PE X (.Constant .none j pos) (tC .d7):=λ_ _ _ H _ I h=>Constant_none (.d7,H,I,rfl,h)
theorem Cc:PE X (.Constant (.str x) j pos) (tC<|.str x):=λ_ _ _ H _ I h=>Calls.Constant_str (.str x,H,I.tok _,(_,rfl),h)
def Gl(X:Cx)(x:Str):Prop:=X.env.kindOf x=cz .globalImplicit
theorem VF(I:Inv X pins σ H s)(y:Gl X x)(O:X.mg x=cz u)(h:Q u s)
 (j:(x==("__debug__"))=cL:=by decide):wpAny (d5 X.prog X.w) X.A (dy (.Name x pos) X.env) Q E s:=
 Calls.Name_function_global I.ok.kind y (Calls.loadGlobal_global (by rw[I.ok.glob];exact I.mod.glob.keeps I.bk) O h) j
theorem yc(I:Inv X pins σ H s)(y:Gl X x)(O:X.mg x=none)(U:sV x=cz u)(h:Q u s)
 (Y:x ≠ "__name__":=by decide) (j:(x==("__debug__"))=cL:=by decide):wpAny (d5 X.prog X.w) X.A (dy (.Name x pos) X.env) Q E s:=by
 obtain⟨b,Z,a⟩:=I.mod.blt;exact Calls.Name_function_global I.ok.kind y (Calls.loadGlobal_builtin (by rw[I.ok.glob];exact I.mod.glob.keeps I.bk) O (by rw[I.ok.blt];exact Z.keeps I.bk) ((a x Y).trans U) h) j
variable{a b:d8}{ta tb:TE}{pos:f9}
def PC(X:Cx)(y:CmpOp)(a b:d8)(t:TE):Prop:=
 ∀(d:TW) (s:el) (e:St) (H:Hp) (Q:VK),Inv X d e H s->t e H Q->
  wpAny (d5 X.prog X.w) X.A (dy a X.env) (λv I=>wpAny (d5 X.prog X.w) X.A (dy b X.env) (λu O=>wpAny (d5 X.prog X.w) X.A (m7 y v u) (EP X d e Q) X.xe O) X.xe I) X.xe s
theorem Ag(b:d8)(h:op ≠ .In)(y:op ≠ .NotIn):sU op b=cL:=by
 have a:(op==CmpOp.In)=cL:=by cases op<;>first|rfl|exact absurd rfl h
 have I:(op==CmpOp.NotIn)=cL:=by cases op<;>first|rfl|exact absurd rfl y
 cases b<;>simp[sU,a,I]
def tB(t:TE):TT:=λb H Q=>t b H λx a=>∃c,x=.bl c/\Q c a
theorem IX(h:PC X op a b t)(y:sU op b=cL:=by first|exact Ag _ () () |rfl):PT X (.Compare a [op] [b] pos) (tB t):=by intro e s j H Q I g;refine zfT (ea (h e s j H _ I g) λv k y=>ea y λu l O=>ea O λc m U=>?_) y;obtain⟨x,f,Y,Z,i⟩:=U;obtain⟨d,rfl,q⟩:=i;cases Z;exact u9 (f,Y,q)
theorem IV(h:PE X e t)(O:∀y,xv e X.env y=(do let v<-y;u0 e.pos;qs [v] (DT v)):=by intro _;rfl):PT X e (tB t):=by intro a s i H Q I f;refine isTrue_plain (ea (h a s i H _ I f) λv j U=>?_)<|O _;obtain⟨x,b,Y,Z,g⟩:=U;obtain⟨d,rfl,q⟩:=g;cases Z;exact u9 (b,Y,q)
variable{tA L6:TT}{vN:List d8}
noncomputable def Sw(t u:TT):TT:=λb H Q=>t b H λc a=>if c=cC then u b a Q else Q cL a
noncomputable def tOr(t u:TT):TT:=λb H Q=>t b H λc a=>if c=cC then Q cC a else u b a Q
noncomputable def Sq(t:TT):TT:=λb H Q=>t b H λc a=>Q (!c) a
theorem EM(j:PT X a tA):PW X (.BoolOp .And [a] pos) tA:=by
 intro y b s d H Q I h;refine isTrue_and<|ea (j b s d H Q I h) λc f e=>?_;cases c with
 |true=>exact isTrue_and_nil e
 |false=>exact e
theorem IK(j:PT X a tA):PW X (.BoolOp .Or [a] pos) tA:=by
 intro y b s d H Q I h;refine isTrue_or<|ea (j b s d H Q I h) λc f e=>?_;cases c with
 |false=>exact isTrue_or_nil e
 |true=>exact e
theorem IL(j:PT X a tA)(U:PW X (.BoolOp .And (b::vN) pos) L6):PW X (.BoolOp .And (a::b::vN) pos) (Sw tA L6):=by
 intro Y d s f H Q I h;refine isTrue_and<|ea (j d s f H _ I h) λc g Z=>?_;obtain⟨e,y,O⟩:=Z;cases c with
 |true=>exact U Y d g f e Q y O
 |false=>exact(e,y,O)
theorem OH(j:PT X a tA)(U:PW X (.BoolOp .Or (b::vN) pos) L6):PW X (.BoolOp .Or (a::b::vN) pos) (tOr tA L6):=by
 intro Y d s f H Q I h;refine isTrue_or<|ea (j d s f H _ I h) λc g Z=>?_;obtain⟨e,y,O⟩:=Z;cases c with
 |true=>exact(e,y,O)
 |false=>exact U Y d g f e Q y O
theorem IW(ha:PT X a tA):PT X (.UnaryOp .Not a pos) (Sq tA):=by intro b s d H Q I h;exact isTrue_not<|ha b s d H _ I h
noncomputable def Ot(ta tb:TE):TE:=λb H Q=>ta b H λx a=>∃c,x=.bl c/\if c=cC then tb b a Q else Q (.bl cL) a
theorem Lm(h:PE X a t):PE X (.BoolOp op [a] pos) t:=λb s e H Q I d=>BoolOp_one<|h b s e H Q I d
theorem Lr(j:PE X a ta)(U:PE X (.BoolOp .And (b::vN) pos) tb):PE X (.BoolOp .And (a::b::vN) pos) (Ot ta tb):=by
 intro d s f H Q I h;refine BoolOp_and<|ea (j d s f H _ I h) λv g Y=>?_;obtain⟨x,e,O,Z,y⟩:=Y;obtain⟨c,rfl,y⟩:=y;cases Z;refine u9 ?_;cases c with
 |true=>exact U d g f e Q O y
 |false=>exact(.bl cL,e,O,rfl,y)
def L7(t:TT)(ta tb:TE):TE:=λa H Q=>t a H λc b=>if c=cC then ta a b Q else tb a b Q
theorem uU(U:PT X c tA)(j:PE X a ta)(Y:PE X b tb):PE X (.IfExp c a b pos) (L7 tA ta tb):=by
 intro e s f H Q I h;refine wpAny_IfExp<|ea (U e s f H _ I h) λd i Z=>?_;obtain⟨g,y,O⟩:=Z;cases d with
 |true=>exact j e i f g Q y O
 |false=>exact Y e i f g Q y O
end
def gg(K:Ti)(H:Hp)(a:di)(xs:List V):Prop:=
 Rd H a (.lst xs)\/
  ∃(o:lU) (b:Array dj) (n:Nat),K.lookup a=cz o/\o.cls=.type "list"/\o.dict=none/\o.data=.seq b n/\b.size<=eB/\eo xs b.toList
def fA(K:Ti)(H:Hp)(a:di)(xs:List V):Prop:=
 Rd H a (.tup xs)\/
  ∃(o:lU) (b:Array dj) (n:Nat),K.lookup a=cz o/\Prod.mk o.cls o.dict=(uF "tuple",none)/\o.data=.seq b n/\b.size<=eB/\eo xs b.toList
noncomputable def SR:dj->Option V
 |.none=>cz .d7
 |.bool b=>cz (.bl b)
 |.int i _=>cz (.int i)
 |.str x _=>cz (.str x)
 |.bytes b _=>cz (.rY b)
 |.float b _=>cz (.H8 b)
 |.ref a=>cz (.ref a)
 |.type n=>cz (.ty n)
 |_=>none
theorem RelV.abs(r:RelV x u):SR u=cz x:=by
 cases x with
 |d7=>cases r;rfl
 |bl _=>cases r;rfl
 |int _=>obtain⟨t,rfl⟩:=r;rfl
 |str _=>obtain⟨t,rfl⟩:=r;rfl
 |rY _=>obtain⟨t,rfl⟩:=r;rfl
 |H8 _=>obtain⟨t,rfl⟩:=r;rfl
 |ref _=>cases r;rfl
 |ty _=>cases r;rfl
theorem RelV.inj(r:RelV x u)(q:RelV y u):x=y:=UK<|r.abs.symm.trans q.abs
theorem eo.inj{xs ys:List V}{j:List dj}(h:eo xs j):eo ys j->xs=ys:=by
 induction h generalizing ys with
 |nil=>intro h;cases h;rfl
 |cons r t y=>intro h;cases h with|cons a b=>rw[r.inj a,y b]
section
variable{H:Hp}{a:di}{xs ys:List V}
theorem gg.of{K:Ti}(h:H a=cz (.lst xs)):gg K H a xs:=.inl (.inl h)
theorem fA.of{K:Ti}(h:H a=cz (.tup xs)):fA K H a xs:=.inl (.inl h)
theorem Inv.list(I:Inv X pins σ H s)(h:gg X.K H a xs):∃its,eo xs its/\PlainL s.heap a its.toArray/\xs.length<=eB:=by
 rcases h with h|⟨o,its,n,y,O,hd,hs,hz,r⟩
 .obtain⟨z,its,n,r,e⟩:=h.ok I.eC
  exact(its,r,(_,n,e,rfl,rfl,rfl),z)
 .refine(its.toList,r,(o,n,I.n4 a o y,O,hd,by simpa using hs),?_)
  have e:=r.length;simp only[vl]at e;lia
theorem Inv.tuple(I:Inv X pins σ H s)(h:fA X.K H a xs):∃its,eo xs its/\Dt s.heap a its.toArray/\xs.length<=eB:=by
 rcases h with h|⟨o,its,n,y,O,hs,hz,r⟩
 .obtain⟨z,its,r,p⟩:=h.ok I.eC
  exact(its,r,p.tup,z)
 .refine(its.toList,r,(o,I.n4 a o y,(Prod.mk.inj O).1,n,by simpa using hs),?_)
  have e:=r.length;simp only[vl]at e;lia
theorem Inv.Pw(I:Inv X pins σ H s)(h:gg X.K H a xs)(h':gg X.K H a ys):xs=ys:=by
 obtain⟨f,r,⟨o,n,e,_,_,d⟩,_⟩:=I.list h;obtain⟨b,g,⟨j,i,y,_,_,O⟩,_⟩:=I.list h';rw[e]at y;cases y;rw[d]at O;injection O with Q _;have:=by simpa using congrArg Array.toList Q
 subst this;exact r.inj g
theorem Inv.D'(I:Inv X pins σ H s)(h:fA X.K H a xs)(h':fA X.K H a ys):xs=ys:=by
 obtain⟨f,r,⟨o,e,_,n,d⟩,_⟩:=I.tuple h;obtain⟨b,g,⟨j,y,_,i,O⟩,_⟩:=I.tuple h';rw[e]at y;cases y;rw[d]at O;injection O with Q _;have:=by simpa using congrArg Array.toList Q
 subst this;exact r.inj g
end
abbrev Cx.ti(X:Cx)(E:EQ):Cx:={X with xe:=E}
abbrev Cx.DO(X:Cx):Cx:=X.ti λ_ _=>False
theorem Cx.Ok.ti{X:Cx}(ok:X.Ok)(E:EQ):(X.ti E).Ok:=
 (ok.mod,ok.kind,ok.glob,ok.blt,ok.above,ok.inj,ok.has,ok.Dz,ok.hd,ok.frames,ok.L3,ok.HB,ok.bs,ok.sm,ok.DN,ok.DE,ok.rl,ok.ua)
theorem Cx.Ok.u6{X:Cx}{E:EQ}(ok:(X.ti E).Ok):X.Ok:=
 (ok.mod,ok.kind,ok.glob,ok.blt,ok.above,ok.inj,ok.has,ok.Dz,ok.hd,ok.frames,ok.L3,ok.HB,ok.bs,ok.sm,ok.DN,ok.DE,ok.rl,ok.ua)
section
variable{X:Cx}{pins:TW}{σ:St}{H:Hp}{s:el}{E:EQ}
theorem Inv.ti(I:Inv X pins σ H s)(E:EQ):Inv (X.ti E) pins σ H s:=(I.ok.ti E,I.os,I.bare,I.base,I.loc,I.cell,I.free,I.sF,I.pin,I.eC,I.len)
theorem Inv.u6(I:Inv (X.ti E) pins σ H s):Inv X pins σ H s:=(I.ok.u6,I.os,I.bare,I.base,I.loc,I.cell,I.free,I.sF,I.pin,I.eC,I.len)
theorem SP.u6(h:SP (X.ti E) pins D f s'):SP X pins D f s':=by
 cases f with
 |next=>obtain⟨y,a,I,q⟩:=h;exact(y,a,I.u6,q)
 |brk=>obtain⟨y,a,I,q⟩:=h;exact(y,a,I.u6,q)
 |cont=>obtain⟨y,a,I,q⟩:=h;exact(y,a,I.u6,q)
 |ret u=>obtain⟨v,y,a,I,r,q⟩:=h;exact(v,y,a,I.u6,r,q)
theorem pg.DO{st:List h9}{t:TS}(h:pg X.DO st t):pg X st t:=λpins s σ H D I a=>
 rz (h pins s σ H D (I.ti _) a) (λ_ _ q=>q.u6) λ_ _ z=>Dm z
end
section
variable{X:Cx}{st:h9}{vN:List h9}{t u:TS}
noncomputable def Ol:TS:=λD a H=>D.nx a H
noncomputable def RA(t u:TS):TS:=λD a H=>t {D with nx:=u D} a H
theorem ES:pg X [] Ol:=λ_ _ a H _ I h=>G_ (a,H,I,h)
theorem eJ(y:PS X st t)(O:pg X vN u):pg X (st::vN) (RA t u):=by
 intro a s e H D I h;refine wpAny_execs_cons<|ea (y a s e H _ I h) λf d q=>?_;cases f with
 |next=>
  obtain⟨Q,b,U,q⟩:=q;exact O a d Q b D U q
 |ret v=>exact q
 |brk=>exact q
 |cont=>exact q
theorem J4(y:PS X st t):pg X [st] t:=by
 intro a s b H D I h;refine wpAny_execs_cons<|ea (y a s b H D I h) λf d q=>?_;cases f with
 |next=>exact G_ q
 |ret v=>exact q
 |brk=>exact q
 |cont=>exact q
noncomputable def Os:TS:=λD a H=>D.ct a H
theorem bJ:PS X (.Continue pos) Os:=λ_ _ a H _ I h=>wpAny_Continue (a,H,I,h)
theorem Inv.quiet(I:Inv X pins σ H s):interactive X.env=cL:=by simp[interactive,I.ok.kind]
noncomputable def Oo(te:TE):TS:=λD a H=>te a H λ_ b=>D.nx a b
theorem Vk(y:PE X e te)(hs:rH e none pos.line X.env=pure cL:=by rfl):PS X (.Expr e pos) (Oo te):=by intro a s b H D I h;exact wpAny_Expr_any (ea (y a s b H _ I h) λv f (x,d,O,U,Q)=>(b,d,O,Q)) I.quiet hs
noncomputable def Oh(te:TE):TS:=λD a H=>te a H D.rt
theorem Yn(y:PE X e te):PS X (.Return (cz e) pos) (Oh te):=by intro a s b H D I h;exact wpAny_Return_some<|ea (y a s b H _ I h) λv f (x,d,O,Q,U)=>(x,b,d,O,Q,U)
noncomputable def Ss(c:TT)(t u:TS):TS:=λD a H=>c a H λb d=>if b=cC then t D a d else u D a d
theorem OO(Q:PT X c tc)(j:pg X a t)(U:pg X b u):PS X (.If c a b pos) (Ss tc t u):=by
 intro e s f H D I h;refine wpAny_If<|ea (Q e s f H _ I h) λd i Y=>?_;obtain⟨g,y,O⟩:=Y;cases d with
 |true=>exact j e i f g D y O
 |false=>exact U e i f g D y O
noncomputable def Ib:TS:=λ_ _ _=>False
theorem zfn:PS X st Ib:=λ_ _ _ _ _ _ h=>h.elim
end
abbrev TG:=V->St->Hp->(St->Hp->Prop)->Prop
abbrev BM:=List V->St->Hp->(St->Hp->Prop)->Prop
def PG(X:Cx)(I:d8)(t:TG):Prop:=
 ∀(a:TW) (s:el) (d:St) (H:Hp) (v:V) (u:dj) (Q:St->Hp->Prop),Inv X a d H s->RelV v u->t v d H Q->
  wpAny (d5 X.prog X.w) X.A (tZ I X.env u) (λ_ O=>∃y b,Inv X a y b O/\Q y b) X.xe s
def Dx(X:Cx)(I:List d8)(t:BM):Prop:=
 ∀(a:TW) (s:el) (f:St) (H:Hp) (e:List V) (d:List dj) (Q:St->Hp->Prop),Inv X a f H s->eo e d->t e f H Q->
  wpAny (d5 X.prog X.w) X.A (assignInOrder ((sT I X.env).map (·.2)) d) (λ_ O=>∃y b,Inv X a y b O/\Q y b) X.xe s
abbrev Se:=V->V->V->Hp->(Hp->Prop)->Prop
def Sg(X:Cx)(t:Se):Prop:=
 ∀(a:TW) (s:el) (d:St) (H:Hp) (o i v:V) (y I u:dj) (Q:Hp->Prop),Inv X a d H s->RelV o y->RelV i I->RelV v u->t o i v H Q->
  wpAny (d5 X.prog X.w) X.A (PR y I u) (λ_ O=>∃b,Inv X a d b O/\Q b) X.xe s
section
noncomputable def Zm(i:Nat):TG:=λv a H Q=>Q (a.set i<|some v) H
theorem oM(y:X.N.Nodup)(j:X.N[i]? = cz x)(O:Loc X.env.scope x)(U:X.fn x=cC\/X.env.scope.names.lookup x=cz .local:=by first|exact .inl rfl|exact .inr rfl|assumption):PG X (.Name x pos) (Zm i):=by intro a s b H v u Q I r h;exact zfQ<|dQ I y j O r (λZ Y=>(_,H,Y,h)) U
noncomputable def RQ:BM:=λa b H Q=>a=[]/\Q b H
noncomputable def MC(t:TG)(u:BM):BM:=λb d H Q=>∃v r,b=v::r/\t v d H λy a=>u r y a Q
theorem oK:Dx X [] RQ:=by intro a s b H f d Q I r h;obtain⟨e,h⟩:=h;subst e;cases r;exact assignInOrder_nil (b,H,I,h)
theorem Jo(y:PG X e t)(O:Dx X es u)
 (hs:(sT (e::es) X.env).map (·.2)=tZ e X.env::(sT es X.env).map (·.2):=by rfl):Dx X (e::es) (MC t u):=by
 intro a s j H m k Q I r h;obtain⟨v,l,f,h⟩:=h;subst f;cases r with
 |cons r U=>
  rw[hs];refine assignInOrder_cons<|ea (y a s j H _ _ _ I r h) λ_ i Y=>?_;obtain⟨Z,b,d,g⟩:=Y;exact O a i Z b _ _ Q d U g
noncomputable def RP(K:Ti)(n:Nat)(t:BM):TG:=λv d H Q=>∃a b,v=.ref a/\fA K H a b/\b.length=n/\t b d H Q
theorem Li(O:X.calm=cC)(h:Dx X es t)
 (U:(sT es X.env).length=n:=by rfl) (Y:(sT es X.env).findIdx? (·.1)=none:=by rfl):PG X (.Tuple es k pos) (RP X.K n t):=by
 intro d s x H v u Q I r f;obtain⟨a,w,i,Z,j,f⟩:=f;subst i;cases r;obtain⟨p,y,l,A⟩:=I.tuple Z;refine assign_Tuple_tuple (I.ok.hd O) l (by simp[U,<-j,y.length]) Y λz m=>?_;have g:=I.kept (t':=s.toks) λb o e=>m b o (TU<|TH e) e;exact h d _ x H w _ Q g (by simpa using y) f
noncomputable def SL(to y:TE)(t:Se):TG:=λv a H Q=>to a H λo b=>y a b λi d=>t o i v d λI=>Q a I
theorem Cb(E:PE X o to)(B:PE X i zfg)(hs:Sg X t)
 (z:∀v,tZ (.Subscript o i pos) X.env v=(do
   let O<-qs [v] (dy o X.env);let U<-qs [v,O] (dy i X.env)
   u0 pos
   qs [v,O,U] (PR O U v)
   release [v,O,U] []):=by intro _;rfl):PG X (.Subscript o i pos) (SL to zfg t):=by
 intro a s b H v u Q I r h;rw[z];refine Th<|q8<|ea (E a s b H _ I h) λO A Y=>?_;refine Tf λZ=>?_;obtain⟨x,d,g,p,l⟩:=Y;refine Z ?_;refine Th<|q8<|ea (B a A b d _ g l) λU C Y=>?_;refine Tf λZ=>?_;obtain⟨y,e,j,w,m⟩:=Y;refine Z ?_;refine Th<|S0<|Th<|q8<|ea (hs a C b e x y v O U u _ j p w r m) λ_ F Y=>?_;obtain⟨f,k,n⟩:=Y;exact wpAny_release (b,f,k,n)
noncomputable def gW(te:TE)(g:TG):TS:=λD a H=>te a H λx b=>g x a b D.nx
theorem eM(y:PE X e te)(O:PG X tg g)(hs:L5 [tg] e pos.line X.env=pure cL:=by rfl)(j:P0 [tg] e X.env=pure none:=by rfl)
 (Q:(sT [tg] X.env).map (·.2)=[tZ tg X.env]:=by rfl):PS X (.Assign [tg] e pos) (gW te g):=by
 intro a s b H D I h;refine wpAny_Assign_stores (ea (y a s b H _ I h) λv i U=>?_) hs j;obtain⟨x,d,Y,Z,f⟩:=U;rw[Q];exact ea (O a i b d x v _ Y Z f) λ_ k q=>q
theorem La(O:X.N.Nodup)(j:X.N[i]? = cz x)(Q:Loc X.env.scope x)(U:PE X e te)(hs:rH e (cz (.Name x pos')) pos.line X.env=pure cL:=by rfl)(Y:X.fn x=cC\/X.env.scope.names.lookup x=cz .local:=by first|exact .inl rfl|exact .inr rfl|assumption):
 PS X (.Assign [.Name x pos'] e pos) (gW te<|Zm i):=by
 intro a s l H D I h;refine wpAny_Assign_Name (ea (U a s l H _ I h) λv m Z=>?_) hs;obtain⟨y,b,d,k,g⟩:=Z;exact dQ d O j Q k (λn f=>(_,b,f,g)) Y
end
structure It where
 go:Nat->Hp->Prop
 uy:Nat->Hp->V->Hp->Prop
 stop:Nat->Hp->Prop
def Jg(X:Cx)(j:TW)(H:Hp)(b:di):Prop:=
 H b=none/\b≠X.env.locals/\b∉X.fs/\(b∈X.ex\/X.ow.heap.objs.size<=b)/\(∀x c,X.env.cells.lookup x=cz c->c≠b)/\∀p∈X.pn++j,p.1≠b
theorem Inv.r6(I:Inv X pins σ H s)(y:s.heap.objs.size<=b)(O:H' b=none):Jg X pins H' b:=by
 refine(O,q9<|TC I.lt y,I.X? y,.inr<|TJ I.sz y,λx c e z=>?_,λp Q z=>?_)
 .obtain⟨v,q⟩:=I.cell x c e
  exact absurd (TC q.lt<|by rw[z];exact y)<|UY _
 .exact absurd (TC (TH (I.pin p Q).1)<|by rw[z];exact y)<|UY _
structure Turn(P:hH)(w:hB)(K:Ti)(tg:d8)(J:It)(fp:List di)(it:di)(tn:Nat->eK->Prop):Prop where
 mem:it∈fp
 obj:∀i h,tn i h->∀b∈fp,∃o,h.get? b=cz o/\∀v,o.data ≠ .cell v
 keep:∀i h h',tn i h->(∀b∈fp,∀o,h.get? b=cz o->h'.get? b=cz o)->tn i h'
 item:∀(X:Cx),X.prog=P->X.w=w->X.K=K->X.calm=cC->∀(i:Nat) (pins:TW) (s:el) (σ:St) (H:Hp) (E:EQ),Inv X pins σ H s->(∀b∈fp,Jg X pins H b)->tn i s.heap->J.go i H->
  wpAny (d5 P w) X.A (sa<|.ref it) (λr s1=>∃u,r=cz u/\
   wpAny (d5 P w) X.A (IB tg (.ref it) u) (λ_ s2=>∃x H',Inv X pins σ H' s2/\RelV x u/\J.uy i H x H'/\tn (i+1) s2.heap/\∀b∈fp,H' b=none) E s1) E s
 done:∀(X:Cx),X.prog=P->X.w=w->X.K=K->X.calm=cC->∀(i:Nat) (pins:TW) (s:el) (σ:St) (H:Hp) (E:EQ),Inv X pins σ H s->(∀b∈fp,Jg X pins H b)->tn i s.heap->J.stop i H->
  wpAny (d5 P w) X.A (sa<|.ref it) (λr s1=>r=none/\Inv X pins σ H s1) E s
 self:∀(A:l6) (i:Nat) (s:el) (Q:EQ) (E:EQ),tn i s.heap->Q (.ref it) s->wpAny (d5 P w) A (LQ<|.ref it) Q E s
abbrev TI:=St->Hp->(It->Hp->Prop)->Prop
def T9(X:Cx)(j:TW)(E:St)(B:d8)(R:It->Hp->Prop)(y:dj)(z:el):Prop:=
 ∃(e:di) (d:List di) (f:Nat->eK->Prop) (J:It) (a:Hp),y=.ref e/\Inv X j E a z/\Turn X.prog X.w X.K B J d e f/\f 0 z.heap/\(∀b∈d,Jg X j a b)/\R J a
def PI(X:Cx)(z j:d8)(y:TI):Prop:=
 ∀(a:TW) (s:el) (b:St) (H:Hp) (R:It->Hp->Prop),Inv X a b H s->y b H R->
  wpAny (d5 X.prog X.w) X.A (dy j X.env) (λv d=>wpAny (d5 X.prog X.w) X.A (LQ v) (T9 X a b z R) X.xe d) X.xe s
theorem Ge(I:s.heap.get? it=cz o)(O:o.cls=.type n)(j:o.data=.fields vs)
 (U:["enumerate","zip","dict_itemiterator","dict_reverseitemiterator","odict_iterator","itertools.zip_longest","itertools.pairwise"].contains n=cL) (y:Q ⟨⟩ s):wpAny M A (IB tg (.ref it) u) Q E s:=by
 unfold IB;cases tg<;>first
  |exact Ts y
  |(cases u<;>first
      |exact Ts y
      | (refine Th (wpAny_load I ?_)
         rw[O,j];show wpAny M A (if _=cC then _ else _) Q E s;rw[DJ (by intro h;rw[U,Bool.false_and]at h;cases h)];exact Ts y))
noncomputable def T7(K:Ti)(a:di):It:=
 (λi H=>∃b x,gg K H a b/\b[i]? = cz x,λi H x d=>d=H/\∀b,gg K H a b->b[i]? = cz x,λi H=>∃b,gg K H a b/\b.length<=i)
noncomputable def T8(K:Ti)(a:di):It:=
 (λi H=>∃b x,fA K H a b/\b[i]? = cz x,λi H x d=>d=H/\∀b,fA K H a b->b[i]? = cz x,λi H=>∃b,fA K H a b/\b.length<=i)
noncomputable def Du(lo:Int)(n:Nat):It:=(λi _=>i<n,λi H x a=>a=H/\x=.int (lo+i),λi _=>n<=i)
theorem mP{P:hH}{w:hB}{K:Ti}{tg:d8}(a it:di):Turn P w K tg (T7 K a) [it] it (λi h=>h.IsListIter it a i) where
 mem:=by simp
 obj:=λi h st b y=>by
  have e:b=it:=by simpa using y
  subst e;obtain⟨o,e,c,d⟩:=st;exact(o,e,λv z=>by rw[d]at z;cases z)
 keep:=λi h h' st k=>st.at λo e=>k it () o e
 item:=by intro X U hw Y hc i pins s σ H E I O st Z;subst U hw Y;obtain⟨xs,x,Q,hx⟩:=Z;obtain⟨its,rv,p,hz⟩:=I.list Q;obtain⟨u,hu,ru⟩:=rv.get hx;obtain⟨f0,f1,f2,f3,f4,f5⟩:=O it ();refine _k st p.isList (x:=u) (by simpa using hu) λh' a8 sb=>?_;have I1:Inv X pins σ H {s with heap:=h'}:=I.turned (t':=s.toks) (λb o y e=>(sb.2 b y).trans e) f0 f1 f3 f4 f5;obtain⟨o,e,c,d⟩:=id a8;exact(u,rfl,Ge (s:={s with heap:=h'}) e c d () (x,H,I1,ru,(rfl,λys hy=>by rw[I.Pw hy Q];exact hx),a8,λb y=>(O b y).1))
 done:=by intro X U hw Y hc i pins s σ H E I O st Z;subst U hw Y;obtain⟨xs,Q,hx⟩:=Z;obtain⟨its,rv,p,hz⟩:=I.list Q;obtain⟨f0,f1,f2,f3,f4,f5⟩:=O it ();have hl:=rv.length;exact _q (I.ok.hd hc) st p.isList (by simp;lia) λh' eb=>(rfl,I.turned (t':=s.toks) (λb o y e=>eb b o y e) f0 f1 f3 f4 f5)
 self:=λ_ _ _ _ _ st h=>wpAny_pyIter_listiter st h
theorem gP{P:hH}{w:hB}{K:Ti}{tg:d8}(a it:di):Turn P w K tg (T8 K a) [it] it (λi h=>h.IsTupleIter it a i) where
 mem:=by simp
 obj:=λi h st b y=>by
  have e:b=it:=by simpa using y
  subst e;obtain⟨o,e,c,d⟩:=st;exact(o,e,λv z=>by rw[d]at z;cases z)
 keep:=λi h h' st k=>st.at λo e=>k it () o e
 item:=by intro X U hw Y hc i pins s σ H E I O st Z;subst U hw Y;obtain⟨xs,x,Q,hx⟩:=Z;obtain⟨its,rv,p,hz⟩:=I.tuple Q;obtain⟨u,hu,ru⟩:=rv.get hx;obtain⟨f0,f1,f2,f3,f4,f5⟩:=O it ();refine wpAny_pyNext_tuple_item st (show s.heap.IsTuple a its.toArray from p) (x:=u) (by simpa using hu) λh' a8 sb=>?_;have I1:Inv X pins σ H {s with heap:=h'}:=I.turned (t':=s.toks) (λb o y e=>(sb.2 b y).trans e) f0 f1 f3 f4 f5;obtain⟨o,e,c,d⟩:=id a8;exact(u,rfl,Ge (s:={s with heap:=h'}) e c d () (x,H,I1,ru,(rfl,λys hy=>by rw[I.D' hy Q];exact hx),a8,λb y=>(O b y).1))
 done:=by intro X U hw Y hc i pins s σ H E I O st Z;subst U hw Y;obtain⟨xs,Q,hx⟩:=Z;obtain⟨its,rv,p,hz⟩:=I.tuple Q;obtain⟨f0,f1,f2,f3,f4,f5⟩:=O it ();have hl:=rv.length;exact wpAny_pyNext_tuple_end (I.ok.hd hc) st (show s.heap.IsTuple a its.toArray from p) (by simp;lia) λh' eb=>(rfl,I.turned (t':=s.toks) (λb o y e=>eb b o y e) f0 f1 f3 f4 f5)
 self:=λ_ _ _ _ _ st h=>wpAny_pyIter_tupleiter st h
theorem gQ{P:hH}{w:hB}{K:Ti}{tg:d8}(it:di)(lo:Int)(n:Nat):Turn P w K tg (Du lo n) [it] it (λi h=>IsRangeIter h it (lo+(i:Nat)*1) ((n:Int)-(i:Nat)) 1) where
 mem:=by simp
 obj:=λi h st b y=>by
  have e:b=it:=by simpa using y
  subst e;exact(_,st,λv z=>by have z':Data.fields _=Data.cell v:=z;cases z')
 keep:=λi h h' st k=>k it () _ st
 item:=by intro X Q hw U Y i pins s σ H E I O st Z;subst Q hw U;obtain⟨f0,f1,f2,f3,f4,f5⟩:=O it ();have W:=Walks.range (prog:=X.prog) (w:=X.w) (I.ok.hd Y) it lo 1 n;refine W.item i s _ _ Z st λv h' tk hv a6 kk=>?_;obtain⟨t,rfl⟩:=hv;have I1:Inv X pins σ H {s with heap:=h',toks:=tk}:=I.turned (λb o y e=>kk b o (by simpa using y) e) f0 f1 f3 f4 f5;refine(_,rfl,Ge (s:={s with heap:=h',toks:=tk}) (n:="range_iterator") a6 rfl rfl () (.int (lo+i),H,I1,(t,?_),(rfl,rfl),a6,λb y=>(O b y).1));rw[sM]
 done:=by intro X Q hw U Y i pins s σ H E I O st Z;subst Q hw U;obtain⟨f0,f1,f2,f3,f4,f5⟩:=O it ();exact wpAny_pyNext_range_end (I.ok.hd Y) st (by have:n<=i:=Z;lia) λh' eb=>(rfl,I.turned (t':=s.toks) (λb o y e=>eb b o y e) f0 f1 f3 f4 f5)
 self:=λ_ _ _ _ _ st h=>wpAny_pyIter_rangeiter st h
section
variable{X:Cx}{tg:d8}
theorem eG{j:TW}{B:St}{H:Hp}{s:el}{R:It->Hp->Prop}{E:EQ}{lo z:Int}{t u v:Tok}{O:Nat}(I:Inv X j B H s)(Q : -(2^62)<=lo)(U:lo<2^62)(Y : -(2^62)<=z)(Z:z<2^62)
 (q:R (Du lo (z-lo).toNat) H):wpAny (d5 X.prog X.w) X.A (LQ (.ref s.heap.objs.size)) (T9 X j B tg R) E {s with heap:=s.heap.push {cls:=.type "range",data:=.fields #[.int lo t,.int z u,.int 1 v]},toks:=O}:=by
 refine wpAny_pyIter_range (IsRange.new ..) (small_one Q U Y Z) ?_;have y:Inv X j B H {s with heap:=s.heap.push {cls:=.type "range",data:=.fields #[.int lo t,.int z u,.int 1 v]},toks:=O}:=I.kept λb o e=>Tj _ e;refine(_,_,_,_,H,rfl,
  y.kept λb o e=>Tj _ e,gQ _ lo _,?_,λb f=>?_,q)
 .have a:lo+((0:Nat))*1=lo:=by simp
  have d:(((z-lo).toNat:Nat))-((0:Nat))=Builtin.Range.rangeSize lo z 1:=by rw[rangeSize_one];lia
  rw[a,d];exact Tw _ rfl
 .have e:b=(s.heap.push {cls:=.type "range",data:=.fields #[.int lo t,.int z u,.int 1 v]}).objs.size:=by simpa using f
  subst e;exact y.r6 (Tv _)<|y.eC.fresh<|Tv _
def Pf(z:TA):TI:=λd H R=>z d H λb a=>∃j:Int,b=[.int j]/\ -(2^62)<=j/\j<2^62/\R (Du 0 j.toNat) a
def Pe(z:TA):TI:=λd H R=>z d H λb a=>∃i j:Int,b=[.int i,.int j]/\(-(2^62)<=i/\i<2^62/\ -(2^62)<=j/\j<2^62)/\R (Du i (j-i).toNat) a
theorem oJ{a:d8}{z:TA}{p pos:f9}(O:Gl X "range")(Q:X.mg "range" = none)(B:PA X [a] z)(hs:ed [a] X.env=[(cL,dy a X.env)]:=by rfl):PI X tg (.Call (.Name "range" p) [a] [] pos) (Pf z):=by
 intro b s g H R I h;refine tI<|yc I O Q boot_range<|Ut (ea (B pos b s g H _ I h) λl k U=>?_) hs rfl;obtain⟨m,i,Y,Z,y⟩:=U;obtain⟨j,e,y,d,q⟩:=y;subst e;cases Z with
 |cons r f=>
  cases f;obtain⟨t,rfl⟩:=r;exact call_range_1 (eG Y () () y d<|by simpa using q)
theorem oH(U:Gl X "range")(Y:X.mg "range" = none)(z:PA X [a,b] ta)(hs:ed [a,b] X.env=[(cL,dy a X.env),(cL,dy b X.env)]:=by rfl)(Q:ed [b] X.env=[(cL,dy b X.env)]:=by rfl):
 PI X tg (.Call (.Name "range" p) [a,b] [] pos) (Pe ta):=by
 intro d s o H R I h;refine tI (yc I U Y boot_range<|Ut (ea (z pos d s o H _ I h) λA w Z=>?_) (by rw[hs,Q])<|by rw[Q];rfl);obtain⟨B,u,f,n,y⟩:=Z;obtain⟨i,j,e,⟨y,g,k,l⟩,q⟩:=y;subst e;cases n with
 | cons r O=>
  cases O with
  |cons m O=>
   cases O;obtain⟨t,rfl⟩:=r;obtain⟨x,rfl⟩:=m;exact call_range_2<|eG f y g k l q
noncomputable def Su(I:TI)(g:TG)(j:TS):TS:=λD a H=>I a H λJ e=>∃W:Nat->Nat->St->Hp->Prop,(∃m,W 0 m a e)/\∀i m a H,W i m a H->
 (J.stop i H/\D.nx a H)\/(J.go i H/\∃N:St->Hp->Prop,(∀y b,N y b->∃d,d<m/\W (i+1) d y b)/\∀x b,J.uy i H x b->g x a b λO f=>j {D with nx:=N,ct:=N,bk:=D.nx} O f)
noncomputable def oC(fp:List di)(h:eK):List (di×lU):=fp.filterMap λb=>(h.get? b).map λo=>(b,o)
theorem Zx(y:b∈fp)(e:h.get? b=cz o):(b,o)∈oC fp h:=List.mem_filterMap.mpr (b,y,by rw[e];rfl)
theorem oW(y:p∈oC fp h):p.1∈fp/\h.get? p.1=cz p.2:=by
 obtain⟨b,I,e⟩:=List.mem_filterMap.mp y;cases q:h.get? b with
 |none=>grind
 |some o=>
  grind
theorem Inv.pinned(I:Inv X pins σ H s)(y:∀b∈fp,Jg X pins H b)(U:∀b∈fp,∃o,s.heap.get? b=cz o/\∀v,o.data ≠ .cell v):Inv X (pins++oC fp s.heap) σ H s:=
 I.KX λp O=>(uB.mp O).elim (λz=>I.pin p<|Uc _ z) λz=>by
  refine Tf λY=>?_;obtain⟨Q,e⟩:=oW z;obtain⟨Z,f1,f2,_⟩:=y p.1 Q
  grind
theorem Inv.DY(I:Inv X (pins++pl) σ H s):Inv X pins σ H s:=I.KX λp y=>I.pin p<|Uc _<|_h _ y
theorem BZ(z:N5 (d5 X.prog X.w) X.A X.env X.xe)(hc:X.calm=cC)(hi:PI X tg iter wi)(hg:PG X tg g)(y:pg X body tb)
 (hs:∀x,pj iter X.env x=pure x:=by intro _;rfl):PS X (.For tg iter body [] pos) (Su wi g tb):=by
 intro a s σ H D I h;refine wpAny_For (ea (hi a s σ H _ I h) λv s1 h1=>ea h1 λc1 s2 h2=>?_) hs;refine Tf λZ=>?_;obtain⟨it,E,tn,J,H2,e,I2,T,b1,f2,W,⟨m0,w0⟩,b4⟩:=h2;refine Z ?_;subst e;have F:∀{l:Hp},(∀b∈E,l b=none)->∀b∈E,Jg X a l b:=λhn b y=>(hn b y,(f2 b y).2);refine codeAny_forLoop_any (λn s'=>∃i j l,Inv X a j l s'/\tn i s'.heap/\(∀b∈E,l b=none)/\W i n j l) ?_ m0 (0,σ,H2,I2,b1,λb y=>(f2 b y).1,w0);rintro n s3 ⟨i,k,C,R,S,am,w3⟩;rcases b4 i n k C w3 with⟨B,qn⟩|⟨go,N,hN,step⟩
 .refine Nt z (ea (T.done X rfl rfl rfl hc i a s3 k C X.xe R (F am) S B) λr s4 p=>?_)
  obtain⟨K,I4⟩:=p;subst K;exact G_ (k,C,I4,qn)
 .refine Nt z (ea (T.item X rfl rfl rfl hc i a s3 k C X.xe R (F am) S go) λr s4 p=>?_)
  obtain⟨u,K,h4⟩:=p;subst K;refine Nt z<|ea h4 λ_ s5 p=>?_;refine Tf λZ=>?_;obtain⟨x,P,I5,r5,y5,G,bi⟩:=p;refine Z ?_;have bl:=I5.pinned (F bi)<|T.obj _ _ G;refine Nt z<|ea (hg _ s5 k P x u _ bl r5<|step x P y5) λ_ s6 p=>?_;refine Tf λZ=>?_;obtain⟨M,H6,I6,q6⟩:=p;refine Z ?_;refine Nt z<|ea (y _ s6 M H6 _ I6 q6) λf L Y=>?_;have again:∀{O:St} {Q:Hp},Inv X _ O Q L->N O Q->∃m,m<n/\∃i j l,Inv X a j l L/\tn i L.heap/\(∀b∈E,l b=none)/\W i m j l:=λ{O Q} U t=>by obtain⟨m',hm,w7⟩:=hN O Q t;refine(m',hm,i+1,O,Q,U.DY,T.keep _ _ _ G λb y o e=>(U.pin (b,o)<|Uc _<|Uc _<|Zx y e).1,λb y=>?_,w7);obtain⟨o,e,d⟩:=T.obj _ _ G b y;exact(U.pin (b,o)<|Uc _<|Uc _<|Zx y e).2.1
  cases f with
  |next=>obtain⟨O,Q,U,t⟩:=Y;exact again U t
  |cont=>obtain⟨O,Q,U,t⟩:=Y;exact again U t
  |brk=>obtain⟨O,Q,U,Y⟩:=Y;exact(O,Q,U.DY,Y)
  |ret v=>refine Tf λZ=>?_;obtain⟨zfZ,O,Q,U,zeg,Y⟩:=Y;refine Z ?_;exact(zfZ,O,Q,U.DY,zeg,Y)
end
abbrev R2:=V->V->Hp->VK->Prop
def ix(X:Cx)(f:dj->dj->Sem dj)(r:R2):Prop:=
 ∀(a:TW) (s:el) (b:St) (H:Hp) (x y:V) (v u:dj) (Q:VK),Inv X a b H s->RelV x v->RelV y u->r x y H Q->
  wpAny (d5 X.prog X.w) X.A (f v u) (EP X a b Q) X.xe s
def N8(X:Cx)(f:dj->Sem dj)(r:V->Hp->VK->Prop):Prop:=
 ∀(a:TW) (s:el) (b:St) (H:Hp) (x:V) (v:dj) (Q:VK),Inv X a b H s->RelV x v->r x H Q->
  wpAny (d5 X.prog X.w) X.A (f v) (EP X a b Q) X.xe s
def QX(X:Cx)(f:dj)(r:List V->Hp->VK->Prop):Prop:=
 ∀(a:TW) (s:el) (e:St) (H:Hp) (d:List V) (b:List dj) (Q:VK),Inv X a e H s->eo d b->r d H Q->
  wpAny (d5 X.prog X.w) X.A (call f b) (EP X a e Q) X.xe s
def SU(X:Cx)(r:V->Hp->(Bool->Hp->Prop)->Prop):Prop:=
 ∀(a:TW) (s:el) (b:St) (H:Hp) (x:V) (v:dj) (Q:Bool->Hp->Prop),Inv X a b H s->RelV x v->r x H Q->
  wpAny (d5 X.prog X.w) X.A (DT v) (TP X a b Q) X.xe s
noncomputable def C5(r:R2)(j z:TE):TE:=λa H Q=>j a H λx b=>z a b λy d=>r x y d Q
def tUn(r:V->Hp->VK->Prop)(j:TE):TE:=λb H Q=>j b H λx a=>r x a Q
def rI(C:Int->Int->Prop)(g:Int->Int->V):R2:=λx y H Q=>∃i j,x=.int i/\y=.int j/\C i j/\Q (g i j) H
noncomputable def q0(g:Int->Int->V):R2:=λx y H Q=>∃i j,x=.int i/\y=.int j/\Q (g i j) H
def rU(g:Int->V):V->Hp->VK->Prop:=λx H Q=>∃i,x=.int i/\Q (g i) H
section
variable{X:Cx}{a b:d8}{ta tb:TE}
theorem PF(ha:PE X a ta)(U:PE X b tb){j:TW}{s:el}{B:St}{H:Hp}{R:V->V->Hp->Prop}(I:Inv X j B H s)
 (h:ta B H λx S=>tb B S λy z=>R x y z) {Q:EQ} {f:dj->dj->Sem dj}
 (Y:∀v u P x y z,Inv X j B z P->RelV x v->RelV y u->R x y z->wpAny (d5 X.prog X.w) X.A (f v u) Q X.xe P):
 wpAny (d5 X.prog X.w) X.A (dy a X.env) (λv Z=>wpAny (d5 X.prog X.w) X.A (dy b X.env) (λu E=>wpAny (d5 X.prog X.w) X.A (f v u) Q X.xe E) X.xe Z) X.xe s:=by
 refine ea (ha j s B H _ I h) λv m O=>?_;obtain⟨x,S,d,k,g⟩:=O;refine ea (U j m B S _ d g) λu P O=>?_;obtain⟨y,z,e,l,i⟩:=O;exact Y v u P x y z e k l i
theorem Fi(O:ix X (rV op) r)(j:PE X a ta)(U:PE X b tb):PE X (.BinOp a op b pos) (C5 r ta tb):=by intro d s i H Q I h;exact wpAny_BinOp<|PF j U I h λv u g x y e Y Z f q=>O d g i e x y v u Q Y Z f q
theorem OQ(y:N8 X (unaryOp op) r)(j:PE X a ta):PE X (.UnaryOp op a pos) (tUn r ta):=by intro b s d H Q I h;exact UnaryOp_<|ea (j b s d H _ I h) λv f (x,e,O,U,Y)=>y b f d e x v Q O U Y
theorem I8{f:dj->dj->Sem dj}{C:Int->Int->Prop}{g:Int->Int->Int}
 (rule:∀i j t u s Q E,C i j->Q (.int (g i j) s.toks) {s with toks:=s.toks+1}->wpAny (d5 X.prog X.w) X.A (f (.int i t)<|.int j u) Q E s):
 ix X f (rI C λi j=>.int (g i j)):=by
 intro a s d H x y v u Q I O U h;obtain⟨i,j,rfl,rfl,Y,q⟩:=h;obtain⟨t,rfl⟩:=O;obtain⟨b,rfl⟩:=U;exact rule i j t b s _ _ Y (.int<|g i j,H,I.tok _,(_,rfl),q)
theorem RJ{f:dj->dj->Sem dj}{g:Int->Int->Int}
 (rule:∀i j t u s Q E,Q (.int (g i j) s.toks) {s with toks:=s.toks+1}->wpAny (d5 X.prog X.w) X.A (f (.int i t)<|.int j u) Q E s):
 ix X f (q0 λi j=>.int (g i j)):=by
 intro a s d H x y v u Q I O U h;obtain⟨i,j,rfl,rfl,q⟩:=h;obtain⟨t,rfl⟩:=O;obtain⟨b,rfl⟩:=U;exact rule i j t b s _ _ (.int<|g i j,H,I.tok _,(_,rfl),q)
theorem Nu{f:dj->dj->Sem dj}{g:Int->Int->Bool}
 (rule:∀i j t u s Q E,Q (.bool<|g i j) s->wpAny (d5 X.prog X.w) X.A (f (.int i t)<|.int j u) Q E s):
 ix X f (q0 λi j=>.bl (g i j)):=by
 intro a s d H x y v u Q I O U h;obtain⟨i,j,rfl,rfl,q⟩:=h;obtain⟨t,rfl⟩:=O;obtain⟨b,rfl⟩:=U;exact rule i j t b s _ _ (.bl<|g i j,H,I,rfl,q)
def Sj(i j:Int):Prop:=0<j/\j<1073741824
def Si(i j:Int):Prop:=0<=j/\j<=1000000/\i.natAbs<2^64
def A7(i j:Int):Prop:=(-(2^64)<i/\i<2^64)\/(-(2^64)<j/\j<2^64)
theorem A7.ok(h:A7 i j):IntMulOk i j:=by
 rcases h with⟨y,I⟩|⟨y,I⟩
 .exact .of_left<|intBits_le_64 y I
 .exact .of_right<|intBits_le_64 y I
theorem Y?:ix X (rV .Add) (q0 λi j=>.int (i+j)):=RJ λ_ _ _ _ _ _ _ q=>add_int q
theorem Lz:ix X (rV .Sub) (q0 λi j=>.int (i-j)):=RJ λ_ _ _ _ _ _ _ q=>sub_int q
theorem Z?:ix X (rV .Mult) (rI A7 λi j=>.int (i*j)):=I8 λ_ _ _ _ _ _ _ y q=>mul_int q y.ok
theorem Fv:ix X (rV .FloorDiv) (rI Sj λi j=>.int (i/j)):=I8 λi j _ _ _ _ _ y q=>by have I:=y.1;have O:=y.2;exact floordiv_int () (by rw[Int.fdiv_eq_ediv_of_nonneg i ()];exact q)<|.inl<|PyProof.noPylong_small ()
theorem LC:ix X (rV .Mod) (rI (λ_ j=>0<j) λi j=>.int (i%j)):=I8 λi j _ _ _ _ _ y q=>by have I:=y;exact mod_int' () (by rw[Int.fmod_eq_emod_of_nonneg i ()];exact q)
theorem LB:ix X (rV .Pow) (rI Si λi j=>.int (i^j.toNat)):=I8 λ_ _ _ _ _ _ _ y q=>pow_int_small y.1 y.2.1 y.2.2 q
theorem unI{f:dj->Sem dj}{g:Int->Int}
 (rule:∀i t s Q E,Q (.int (g i) s.toks) {s with toks:=s.toks+1}->wpAny (d5 X.prog X.w) X.A (f<|.int i t) Q E s):
 N8 X f (rU λi=>.int (g i)):=by
 intro a s b H x v Q I y h;obtain⟨i,rfl,q⟩:=h;obtain⟨t,rfl⟩:=y;exact rule i t s _ _ (.int<|g i,H,I.tok _,(_,rfl),q)
theorem HS:N8 X (unaryOp .USub) (rU λi=>.int (-i)):=unI λ_ _ _ _ _ q=>neg_int q
end
noncomputable def Sx:V->V->Bool
 |.d7,.d7=>cC|.d7,.int _=>cC|.int _,.d7=>cC|.d7,.bl _=>cC|.bl _,.d7=>cC|.d7,.str _=>cC|.str _,.d7=>cC
 |.int _,.int _=>cC|.bl _,.bl _=>cC|.str _,.str _=>cC|.rY _,.rY _=>cC
 |.int _,.str _=>cC|.str _,.int _=>cC|.bl _,.str _=>cC|.str _,.bl _=>cC
 |_,_=>cL
def s_:R2:=λx y H Q=>Sx x y=cC/\Q (.bl<|decide<|x=y) H
theorem GA:decide (V.int i=V.int j)=(i==j):=by rw[y7];simp
theorem MI:decide (V.bl i=V.bl j)=(i==j):=by rw[y7];simp
theorem Gz:decide (V.str i=V.str j)=(i==j):=by rw[y7];simp
theorem GB:decide (V.rY i=V.rY j)=(i.toList==j.toList):=by
 rw[y7]
 simp_all
section
theorem kP(I:Inv X pins σ H s)(q:Q (.bl k) H)(e:k=k'):EP X pins σ Q (.bool k') s:=by subst e;exact(.bl k,H,I,rfl,q)
theorem OT:ix X (m7 .Eq) s_:=by
 intro d s e H x y v u Q I U O h;obtain⟨b,q⟩:=h;cases x with
 |d7=>
  cases U;cases y with
  |d7=>cases O;exact PySem.EqNone.eq_none_none<|kP I q ()
  |bl j=>cases O;exact PySem.EqNone.eq_none_bool<|kP I q ()
  |int j=>obtain⟨a,rfl⟩:=O;exact PySem.EqNone.eq_none_int<|kP I q ()
  |str j=>obtain⟨a,rfl⟩:=O;exact PySem.EqNone.eq_none_str<|kP I q ()
  |_=>exact absurd b Uk
 |bl i=>
  cases U;cases y with
  |d7=>cases O;exact PySem.EqNone.eq_bool_none<|kP I q ()
  |bl j=>cases O;exact eq_bool<|kP I q MI
  |str j=>obtain⟨a,rfl⟩:=O;exact PySem.EqMixed.eq_bool_str<|kP I q ()
  |_=>exact absurd b Uk
 |int i=>
  obtain⟨t,rfl⟩:=U;cases y with
  |d7=>cases O;exact PySem.EqNone.eq_int_none<|kP I q ()
  |int j=>obtain⟨a,rfl⟩:=O;exact eq_int<|kP I q GA
  |str j=>obtain⟨a,rfl⟩:=O;exact PySem.EqMixed.eq_int_str<|kP I q ()
  |_=>exact absurd b Uk
 |str i=>
  obtain⟨t,rfl⟩:=U;cases y with
  |d7=>cases O;exact PySem.EqNone.eq_str_none<|kP I q ()
  |bl j=>cases O;exact PySem.EqMixed.eq_str_bool<|kP I q ()
  |int j=>obtain⟨a,rfl⟩:=O;exact PySem.EqMixed.eq_str_int<|kP I q ()
  |str j=>obtain⟨a,rfl⟩:=O;exact eq_str<|kP I q Gz
  |_=>exact absurd b Uk
 |rY i=>
  obtain⟨t,rfl⟩:=U;cases y with
  |rY j=>obtain⟨a,rfl⟩:=O;exact PySem.W.eq_bytes<|kP I q GB
  |_=>exact absurd (show cL=cC from b) Uk
 |_=>cases y<;>exact absurd (show cL=cC from b) Uk
theorem LD:ix X (m7 .Lt) (q0 λi j=>.bl (decide<|i<j)):=Nu λ_ _ _ _ _ _ _ q=>lt_int q
theorem Ft:ix X (m7 .LtE) (q0 λi j=>.bl (decide<|i<=j)):=Nu λ_ _ _ _ _ _ _ q=>le_int q
theorem OS:ix X (m7 .Gt) (q0 λi j=>.bl (decide<|j<i)):=Nu λ_ _ _ _ _ _ _ q=>gt_int q
theorem LG:ix X (m7 .GtE) (q0 λi j=>.bl (decide<|j<=i)):=Nu λ_ _ _ _ _ _ _ q=>ge_int q
theorem LF:ix X (m7 .Is) (λx y H Q=>y=.d7/\Q (.bl<|decide<|x=.d7) H):=by
 intro a s b H x y v u Q I O U h;obtain⟨rfl,q⟩:=h;cases U;refine is_none_gen<|kP I q ?_;cases x<;>first
  |(cases O;rfl)
  |(obtain⟨t,rfl⟩:=O;rfl)
theorem Fs:ix X (m7 .IsNot) (λx y H Q=>y=.d7/\Q (.bl<|!decide (x=.d7)) H):=by
 intro a s b H x y v u Q I O U h;obtain⟨rfl,q⟩:=h;cases U;refine isnot_none_gen<|kP I q ?_;cases x<;>first
  |(cases O;rfl)
  |(obtain⟨t,rfl⟩:=O;rfl)
theorem ix.or(h:ix X f r)(h':ix X f r'):ix X f (λx y H Q=>r x y H Q\/r' x y H Q):=by
 intro a s b H x y v u Q I O U q;rcases q with q|q
 .exact h a s b H x y v u Q I O U q
 .exact h' a s b H x y v u Q I O U q
theorem ZL(b:d8)(h:op ≠ .In:=by decide)(I:op ≠ .NotIn:=by decide):sU op b=cL:=by
 have a:(op==CmpOp.In)=cL:=()
 have y:(op==CmpOp.NotIn)=cL:=()
 cases b<;>simp[sU,a,y]
theorem Fm(O:ix X (m7 op) r)(j:PE X a ta)(U:PE X b tb)(Y:sU op b=cL):PE X (.Compare a [op] [b] pos) (C5 r ta tb):=by intro d s k H Q I h;exact wpAny_Compare1 (PF j U I h λv u i x y e Z f g q=>O d i k e x y v u Q Z f g q) Y
noncomputable def Ei(t:TE):TT:=λb H Q=>t b H λx a=>∃k,x=.bl k/\Q k a
theorem bH(O:ix X (m7 op) r)(B:PE X a ta)(U:PE X b tb)(Y:sU op b=cL):PT X (.Compare a [op] [b] pos) (Ei<|C5 r ta tb):=by intro d s e H Q I h;refine zfT (ea (B d s e H _ I h) ?_) Y;rintro v A ⟨x,f,Z,p,m⟩;refine ea (U d A e f _ Z m) ?_;rintro u C ⟨y,g,j,t,n⟩;refine ea (O d C e g x y v u _ j p t n) ?_;rintro c E ⟨z,i,l,w,k,rfl,o⟩;cases w;exact u9 (i,l,o)
noncomputable def BC(r j:R2)(B E O:TE):TE:=λa H Q=>B a H λx b=>E a b λy d=>r x y d λz I=>∃k,z=.bl k/\
 (if k=cC then O a I λe U=>j y e U Q else Q (.bl cL) I)
theorem zfz(Z:ix X (m7 op) r)(B:ix X (m7 DP) r')(E:PE X a ta)(P:PE X b tb)(R:PE X c tc)
 (S:Pq [op,DP] [b,c]=cL:=by with_unfolding_all rfl):PE X (.Compare a [op,DP] [b,c] pos) (BC r r' ta tb tc):=by
 intro e s f H Q I h;refine Compare_chain (ea (E e s f H _ I h) ?_) S;rintro v G ⟨x,i,m,A,p⟩;refine chain_link<|ea (P e G f i _ m p) ?_;rintro u J ⟨y,j,n,g,t⟩;refine ea (Z e J f j x y v u _ n A g t) ?_;rintro d K ⟨z,O,U,C,k,rfl,Y⟩;cases C;refine u9 ?_;cases k with
 |false=>exact ite_ff (.bl cL,O,U,rfl,Y)
 |true=>exact ite_tt<|chain_last<|ea (R e K f O _ U Y) λM L (N,l,o,F,w)=>B e L f l y N u M Q o g F w
theorem zfM{O U:CmpOp}(ho:ix X (m7 O) r)(B:ix X (m7 U) r')(E:PE X a ta)(P:PE X b tb)(R:PE X c tc)
 (S:Pq [O,U] [b,c]=cL:=by with_unfolding_all rfl):PT X (.Compare a [O,U] [b,c] pos) (Ei<|BC r r' ta tb tc):=by
 intro e s f H Q I h;refine isTrue_chain (ea (E e s f H _ I h) ?_) S;rintro v s1 ⟨x,j,o,M,G⟩;refine test_link<|ea (P e s1 f j _ o G) ?_;rintro u s2 ⟨y,l,p,i,J⟩;refine ea (ho e s2 f l x y v u _ p M i J) ?_;rintro d s3 ⟨z,Y,Z,N,k,rfl,g⟩;cases N;refine u9 ?_;cases k with
 |false=>
  obtain⟨k',A,F⟩:=g;cases A;exact ite_ff (Y,Z,F)
 |true=>
  refine ite_tt<|test_last<|ea (R e s3 f Y _ Z g) λw' s4 (z',m,t,T,K)=>ea (B e s4 f m y z' u w' _ t i T K) λd' s5 (z2,n,w,W,k2,C,L)=>?_;subst C;cases W;exact u9 (n,w,L)
def Sd(K:Ti)(x:V)(H:Hp)(k:Bool):Prop:=
 match x with
 |.d7=>k=cL
 |.bl b=>k=b
 |.int i=>k=(i != 0)
 |.str y=>y.length<=eB/\k=((y.length:Int) != 0)
 |.rY y=>y.size<=eB/\k=((y.size:Int) != 0)
 |.ref p=>(∃d,gg K H p d/\k = !d.isEmpty)\/(∃d,fA K H p d/\k = !d.isEmpty)\/∃a,H p=cz (.dK a)/\k = !a.isEmpty
 |_=>False
theorem lq(r:KV md vs):(!vs.isEmpty) = !md.isEmpty:=by cases r<;>rfl
theorem Yz(r:eo xs its):(!its.toArray.isEmpty) = !xs.isEmpty:=by cases r<;>simp
theorem X9:(eB:Nat)<2^63:=by rw[uE];decide
theorem HX:SU X (λx H Q=>∃k,Sd X.K x H k/\Q k H):=by
 intro g s A H x v Q I U h;obtain⟨k,e,q⟩:=h;have u:=X9;have w:=uE;cases x with
 |d7=>
  cases U;have O:=e;subst O;exact truthy_none (H,I,q)
 |bl b=>
  cases U;have O:=e;subst O;exact u9 (H,I,q)
 |int i=>
  obtain⟨t,rfl⟩:=U;have O:=e;subst O;exact PySem.P.truthy_int (H,I,q)
 |str y=>
  obtain⟨t,rfl⟩:=U;obtain⟨l,O⟩:_/\_:=e;subst O;exact PySem.P.truthy_str () (H,I.tok _,q)
 |rY y=>
  obtain⟨t,rfl⟩:=U;obtain⟨l,O⟩:_/\_:=e;subst O;exact PySem.W.truthy_bytes () (H,I.tok _,q)
 | ref p=>
  cases U;have O:=e;rcases O with⟨o,Y,O⟩|⟨o,Y,O⟩|⟨n,Y,O⟩
  .subst O
   obtain⟨a,r,Z,f⟩:=I.list Y;have d:=r.length;exact wpAny_truthy_list Z.isList (by simp only[TK];lia) (H,I.tok _,by rw[Yz r];exact q)
  .subst O
   obtain⟨a,r,Z,f⟩:=I.tuple Y;have d:=r.length;exact truthy_tuple Z (by simp only[TK];lia) (H,I.tok _,by rw[Yz r];exact q)
  .subst O
   obtain⟨f,j,z,r,m⟩:_/\_:=I.eC p _ Y;have d:=Paired.length r;exact wpAny_truthy_dict j m () (H,I.tok _,by rw[lq r];exact q)
 |_=>exact(e).elim
theorem zfL(B:PE X a ta)(O:∀y,xv a X.env y=(do let v<-y;u0 a.pos;qs [v] (DT v))):
 PT X a (λj H Q=>ta j H λx z=>∃k,Sd X.K x z k/\Q k z):=by
 intro b s j H Q I h;exact isTrue_plain (ea (B b s j H _ I h) λv e (x,d,U,Y,Z)=>HX b e j d x v Q U Y Z)<|O _
theorem vJ(r:eo [x] us):∃u,us=[u]/\RelV x u:=by
 cases r with
 |cons y a=>cases a;exact(_,rfl,y)
theorem sZ(r:eo [x,y] us):∃u w',us=[u,w']/\RelV x u/\RelV y w':=by
 cases r with
 |cons I a=>
  cases a with
  |cons O Q=>cases Q;exact(_,_,rfl,I,O)
theorem zey(O:X.calm=cC):QX X (.builtin "max") (λxs H Q=>∃i j,xs=[.int i,.int j]/\Q (.int (if j>i then j else i)) H):=by
 intro a s g H xs e Q I r h;obtain⟨i,j,rfl,q⟩:=h;obtain⟨u,f,rfl,⟨t,rfl⟩,⟨d,rfl⟩⟩:=sZ r;refine max_two_ints (I.ok.hd O) λb U k=>(_,H,I.kept k,?_,q);by_cases y:j>i
 .rw[DZ y,DZ y];exact(_,rfl)
 .rw[DJ y,DJ y];exact(_,rfl)
theorem zex(O:X.calm=cC):QX X (.builtin "min") (λxs H Q=>∃i j,xs=[.int i,.int j]/\Q (.int (if j<i then j else i)) H):=by
 intro a s g H xs e Q I r h;obtain⟨i,j,rfl,q⟩:=h;obtain⟨u,f,rfl,⟨t,rfl⟩,⟨d,rfl⟩⟩:=sZ r;refine min_two_ints (I.ok.hd O) λb U k=>(_,H,I.kept k,?_,q);by_cases y:j<i
 .rw[DZ y,DZ y];exact(_,rfl)
 .rw[DJ y,DJ y];exact(_,rfl)
theorem zeT:QX X (.type "int") (λxs H Q=>(∃i,xs=[.int i]/\Q (.int i) H)\/∃k,xs=[.bl k]/\Q (.int (if k then 1 else 0)) H):=by
 intro a s d H xs b Q I r h;rcases h with⟨i,rfl,q⟩|⟨k,rfl,q⟩
 .obtain⟨u,rfl,t,rfl⟩:=vJ r
  exact call_int_int (.int i,H,I,(_,rfl),q)
 .obtain⟨u,rfl,y⟩:=vJ r
  cases y;exact call_int_bool (.int _,H,I.tok _,(_,rfl),q)
end
structure wB(h:eK)(x dx C:di)(mA:DX):Prop where
 obj:h.get? x=cz (E5 C dx)
 ns:h.Ns1 dx mA
 ne:dx≠x
theorem zd8{h:eK}{j:di}{B:DX}(n:h.Ns1 j B):∃E,h.get? j=cz E/\∀name,Rm name E=cz (B name):=by
 obtain⟨o,b,Z,I,d,O,_,Q⟩:=n;refine(o,I,λname=>?_);have e:=Q name;unfold nsFind findBy at e;rw[<-Array.find?_toList]at e;unfold Rm;rw[d];dsimp only;split
 .rename_i y q
  rw[q]at e;exact congrArg cz e
 .rename_i q
  rw[q]at e;have a:b.toList.any (·.refKey)=cL:=by rw[X_];intro y U;obtain⟨z,t,Y⟩:=O y<|Array.mem_toList_iff.mp U;simp[DictEntry.refKey,Y]
  grind
theorem wB.look(I:wB h x dx C mA):∃j,PySem.W.InstAt h x (E5 C dx) C (cz j)/\∀name,Rm name j=cz (mA name):=
 let (j,y,O):=zd8 I.ns
 (j,(I.obj,rfl,rfl,y),O)
section
variable{prog:hH}{w:hB}{A:l6}{E:EQ}{s:el}{K:Ti}{x dx C f:di}{mA:DX}{name:Str}{v:dj}
theorem Gf(X:K.In s.heap)(I:wB s.heap x dx C mA)(y:M4 K C name=cC)(O:R9 K C=cC)
 (j:UW K (.ref C) name=cz none) (U:mA name=cz v) (Y:PySem.W.handedIn v=cC) (h:Q v {s with toks:=s.toks+1}):
 wpAny (d5 prog w) A (getAttr (.ref x) name expr) Q E s:=by
 obtain⟨a,J,Z⟩:=I.look;exact PySem.W.get_value X J (L_ y).1 (PySem.W.findObj_own O j rfl<|by rw[Z,U]) Y h
theorem AL(X:K.In s.heap)(I:wB s.heap x dx C mA)(y:M4 K C name=cC)
 (O:UW K (.ref C) name=cz (cz (.ref f))) (U:GR K (.ref f)=cC) (Y:mA name=none) (h:Q (.ref f,[.ref x]) s):
 wpAny (d5 prog w) A (O7 (.ref x) name pl) Q E s:=by
 obtain⟨a,J,Z⟩:=I.look;exact PySem.W.method_fn X J (L_ y).1 (L_ y).2 O (beq_iff_eq.mp U) (by show(Rm name a).map (·.isSome)=cz cL;rw[Z,Y];rfl) h
theorem Ez(X:K.In s.heap)(I:wB s.heap x dx C mA)
 (hs:UW K (.ref C) "__setattr__" = cz (cz (.builtin "object.__setattr__"))) (Y:_r K C=cC) (Z:PySem.W.takerIn K C name=cz none) (j:R9 K C=cC)
 (z:Sb mA ns) (hsz:ns.length<=eB)
 (h:∀h',wB h' x dx C (λy=>if y=name then cz v else mA y)->z4 dx s.heap h'->Q ⟨⟩ {s with heap:=h',toks:=s.toks+2}):
 wpAny (d5 prog w) A (setAttr (.ref x) name v) Q E s:=by
 obtain⟨o,J,n⟩:=I.look;refine PySem.W.set_plain X J hs<|PySem.W.osa_open X J Y Z λb=>?_;obtain⟨m,g,a⟩:=PySem.W.any_some j;have i:=I.obj;refine Th<|Ts<|Th<|Th<|wpAny_loadPart i<|Th<|PySem.W.Looks.here (PySem.W.looks_clsIn X g) ?_;rw[a];refine Ts<|Th<|Ts<|Th ?_;refine wpAny_nsSet1 I.ns λh' O U=>?_;obtain⟨oD,k,l,d,e,f⟩:=O.count<|Sb.cons name v z;refine Th<|wpAny_lookBehind d (by rw[e];exact pastItsLine_dict<|TJ f<|by rw[Up];lia) ?_;exact Ts<|h _ ((U.2 _<|Ue I.ne).trans I.obj,O,I.ne) U
theorem Ao(X:K.In s.heap)(y:RZ K C=cC)
 (j:UW K (.ref C) "__init__" = cz (cz (.ref f))) (I:PySem.W.typeIn K (.ref f)=cz (.type "function"))
 (h:codeAny (d5 prog w) (A.under (.builtin "type.__call__" (.ref C::vs,kw))) (.call (.ref f) (.ref (s.heap.objs.size+1)::vs,kw)) (PySem.W.InitBack (s.heap.objs.size+1) R)
   {s with heap:=(s.heap.push FR).push (E5 C s.heap.objs.size)}):
 codeAny (d5 prog w) A (.call (.ref C) (vs,kw)) R s:=by
 obtain⟨O,g,d,t,os⟩:=s;exact PySem.W.make_core (PySem.W.makes_of X y) (PySem.W.looks_findIn X j) (λa=>PySem.W.bind_fn X a I) (.inl rfl) h
end
noncomputable def Wy(f:Str)(v:V):List (Str×V)->List (Str×V)
 |[]=>[(f,v)]
 |(g,x)::r=>if g=f then (g,v)::r else (g,x)::Wy f v r
theorem X5(f g:Str)(v:V):∀fs,(Wy f v fs).lookup g=if g=f then cz v else fs.lookup g
 | []=>by
  show List.lookup g [(f,v)]=_;by_cases h:g=f
  .have y:=beq_iff_eq.mpr h
   simp only[List.lookup,y,DZ h]
  .have y:=beq_eq_false_iff_ne.mpr h
   simp only[List.lookup,y,DJ h]
 |(k,x)::r=>by
  have I:=X5 f g v r;rw[show Wy f v _=(if k=f then (k,v)::r else (k,x)::Wy f v r)from rfl]
  grind
theorem Kc(f:Str)(v:V):∀fs,f∈(Wy f v fs).map (·.1)/\∀g,g∈fs.map (·.1)->g∈(Wy f v fs).map (·.1)
 |[]=>(by simp[Wy],λg h=>by simp at h)
 |(k,x)::r=>by
  obtain⟨a,b⟩:=Kc f v r;rw[show Wy f v _=(if k=f then (k,v)::r else (k,x)::Wy f v r)from rfl]
  grind
theorem Kb(f:Str)(v:V):∀fs,(Wy f v fs).length<=fs.length+1
 |[]=>by simp[Wy]
 |(k,x)::r=>by
  have I:=Kb f v r;rw[show Wy f v _=(if k=f then (k,v)::r else (k,x)::Wy f v r)from rfl];by_cases y:k=f
  .rw[DZ y,Up,Up];lia
  .rw[DJ y,Up,Up];lia
theorem qi.some_of(r:qi (cz v) o):∃u,o=cz u/\RelV v u:=by
 cases o with
 |none=>exact(r).elim
 |some u=>exact(u,rfl,r)
theorem qi.none_of(r:qi none o):o=none:=by
 cases o with
 |none=>rfl
 |some u=>exact(r).elim
theorem zeA(r:RelV v u):PySem.W.handedIn u=cC:=by
 cases v with
 |d7=>cases r;rfl
 |bl b=>cases r;rfl
 |int i=>obtain⟨t,e⟩:=(r);cases e;rfl
 |str x=>obtain⟨t,e⟩:=(r);cases e;rfl
 |rY b=>obtain⟨t,e⟩:=(r);cases e;rfl
 |H8 b=>obtain⟨t,e⟩:=(r);cases e;rfl
 |ref a=>cases r;rfl
 |ty n=>cases r;rfl
section
theorem cH(j:lp P w H h)(e:H a=cz (.ins C dx fs)):∃mA,wB h a dx C mA/\(∀f,qi (fs.lookup f)<|mA f)/\Sb mA (fs.map (·.1))/\fs.length<=1000/\H dx=cz (.own a):=by refine Tf λy=>?_;obtain⟨d,z,b,I,mA,n,r,q⟩:=(j a _ e);refine y ?_;exact(mA,(I,n,b),r,q,z,d)
end
structure tK(K:Ti)(C:di):Prop where
 zd4:M4 K C Str.empty=cC
 hd:R9 K C=cC
 po:_r K C=cC
 zeS:UW K (.ref C) "__setattr__" = cz (cz (.builtin "object.__setattr__"))
theorem tK.get{K:Ti}{C:di}(c:tK K C)(f:Str):M4 K C f=cC:=c.zd4
def uN(K:Ti)(C:di)(f:Str):Prop:=UW K (.ref C) f=cz none
theorem uN.zfe{K:Ti}{C:di}{f:Str}(n:uN K C f):PySem.W.takerIn K C f=cz none:=by unfold PySem.W.takerIn;rw[n];rfl
structure Dv(K:Ti)(C:di)(m:Str)(f:di):Prop where
 at_:UW K (.ref C) m=cz (cz (.ref f))
 fn:GR K (.ref f)=cC
 kp:se K (.ref f)=cC
section
theorem lD(I:Inv X pins σ H s)(e:H a=cz (.ins C dx fs))(c:tK X.K C)(n:uN X.K C f)(l:fs.lookup f=cz v)
 (h:∀u y,Inv X pins σ H y->RelV v u->Q u y):wpAny (d5 X.prog X.w) A (getAttr (.ref a) f b) Q E s:=by
 obtain⟨d,O,r,_,_,_⟩:=cH I.eC e;obtain⟨u,Y,U⟩:=qi.some_of (by rw[<-l];exact r f);exact Gf I.n4 O (c.get f) c.hd n Y (zeA U)<|h u _ (I.tok _) U
theorem lB(I:Inv X pins σ H s)(e:H a=cz (.ins C dx fs))(c:tK X.K C)(k:Dv X.K C m g)(l:fs.lookup m=none)
 (h:Q (.ref g,[.ref a]) s):wpAny (d5 X.prog X.w) A (O7 (.ref a) m pl) Q E s:=by
 obtain⟨b,O,r,_,_,_⟩:=cH I.eC e;have y:=qi.none_of (by rw[<-l];exact r m);exact AL I.n4 O (c.get m) k.at_ k.fn y h
theorem ie(I:Inv X pins σ H s)(e:H a=cz (.ins C dx fs))(c:tK X.K C)(n:uN X.K C f)(P:fs.length<1000)(B:RelV y u)
 (h:∀Y,Inv X pins σ (upd H a<|.ins C dx<|Wy f y fs) Y->Q ⟨⟩ Y):wpAny (d5 X.prog X.w) A (setAttr (.ref a) f u) Q E s:=by
 obtain⟨x,O,r,Z,_,d⟩:=cH I.eC e;have p:(fs.map (·.1)).length<=eB:=by rw[Ua,uE];lia
 refine Ez I.n4 O c.zeS c.po n.zfe c.hd Z p λj U t=>h _ ?_;have l:∃o,j.get? dx=cz o:=let (o,_,_,i,_):=U.ns;(o,i);refine I.write (by rw[e];exact tE) (.inr d) (λb q k z=>(t.2 b k).trans z) l ?_;refine(by rw[zJ O.ne];exact d,?_,O.ne,U.obj,_,U.ns,λg=>?_,λg m=>?_)
 .have:=Kb f y fs;lia
 .rw[X5]
  by_cases q:g=f
  .rw[DZ q,DZ q];exact B
  .rw[DJ q,DJ q];exact r g
 .by_cases q:g=f
  .rw[q];exact(Kc f y fs).1
  .refine(Kc f y fs).2 g (Z g λz=>m ?_)
   lia
theorem Inv.made(I:Inv X pins σ H s):Inv X pins σ (upd (upd H s.heap.objs.size<|.own<|s.heap.objs.size+1) (s.heap.objs.size+1)<|.ins C s.heap.objs.size [])
 {s with heap:=(s.heap.push FR).push (E5 C s.heap.objs.size)}:=by
 have a:_=cz FR:=Tw s.heap rfl;have O:=by
  have:=Tw (s.heap.push FR) (o:=E5 C s.heap.objs.size) rfl
  rwa [Ui]at this
 have Q:(s.heap.push FR).Ns _ _:=(FR,#[],_,a,rfl,(λe U=>absurd U ()),λ_=>rfl);have Y:=I.laid (o:=.own (s.heap.objs.size+1)) (t':=s.toks) (λb u q=>Tj _ q) (Tv _) (_,a);refine Y.laid (λb u q=>Tj _ q) (NN<|Ui _ _) ?_;have d:_≠s.heap.objs.size+1:=TU<|sd _;refine(by rw[zJ d,zF],UU _,d,O,λ_=>none,(Heap.Ns1.of_empty Q).at λo q=>Tj _ q,λ_=>tE,λy Z=>absurd rfl Z)
theorem GW(y:uQ e f env (dy e env)=dy e env)
 (h:wpAny (d5 prog w) A (dy e env) (λo I=>wpAny (d5 prog w) A (getAttr o f cC) Q E I) E s):wpAny (d5 prog w) A (dy (.Attribute e f pos) env) Q E s:=
 Attribute_any_ h (by simp only[arm_eval_Attribute,y])
end
noncomputable def On(K:Ti)(j:TE)(f:Str):TE:=λe H Q=>j e H λx b=>∃a C d fs v,x=.ref a/\b a=cz (.ins C d fs)/\tK K C/\uN K C f/\fs.lookup f=cz v/\Q v b
def OA(K:Ti)(j I:TE)(f:Str):TS:=λD b H=>I b H λy g=>j b g λx d=>∃a C e fs,x=.ref a/\d a=cz (.ins C e fs)/\tK K C/\uN K C f/\fs.length<1000/\
 D.nx b (upd d a<|.ins C e<|Wy f y fs)
section
theorem eP(y:PE X e ta)(O:uQ e f X.env (dy e X.env)=dy e X.env):PE X (.Attribute e f pos) (On X.K ta f):=by intro b s o H Q I h;refine GW O<|ea (y b s o H _ I h) λu r U=>?_;refine Tf λY=>?_;obtain⟨x,d,Z,m,a,C,p,fs,v,j,i,c,n,l,q⟩:=U;subst j;obtain rfl:u=uD a:=m;refine Y ?_;exact lD Z i c n l λw t g k=>(v,d,g,k,q)
theorem Ca(j:PE X o ta)(O:PE X value zfi)(hs:rH value (cz (.Attribute o f pos')) pos.line X.env=pure cL):PS X (.Assign [.Attribute o f pos'] value pos) (OA X.K ta zfi f):=by intro b s d H D I h;refine plainObj_wpAny_Assign_Attribute (ea (O b s d H _ I h) ?_) hs;rintro u p ⟨y,e,Q,U,q⟩;refine ea (j b p d e _ Q q) ?_;rintro Y w ⟨x,r,Z,m,a,C,t,fs,rfl,i,c,n,l,k⟩;obtain rfl:Y=uD a:=m;exact ie Z i c n l U λz g=>(d,_,g,k)
end
structure k0(k:Nat)(A:l6):Prop where
 hd:A.handled=none
 dp:A.depth+3*k+5<recursionLimit
 un:A.units+16*k+200<rZ
theorem k0.mono(r:k0 k A)(h:j<=k):k0 j A:=(r.hd,by have:=r.dp;lia,by have:=r.un;lia)
theorem k0.deeper(r:k0 (k+1) A)(env:o5):k0 k (A.deeper env):=
 (r.hd,by have:=r.dp;show A.depth+1+3*k+5<_;lia,by have:=r.un;show A.units+3+16*k+200<_;lia)
theorem k0.in1(r:k0 (k+1) A):k0 k A.in1:=
 (r.hd,by have:=r.dp;lia,by have:=r.un;lia)
theorem iW{A:l6}{C:di}{j:List dj}{y:List (Str×dj)}:(A.under (.builtin "type.__call__" (.ref C::j,y))).depth=A.depth+1:=by rfl
theorem iV{A:l6}{C:di}{j:List dj}{y:List (Str×dj)}:(A.under (.builtin "type.__call__" (.ref C::j,y))).units=A.units+1:=by rfl
theorem k0.make(r:k0 (k+1) A)(C:di)(j:List dj)(y:List (Str×dj)):k0 k (A.under (.builtin "type.__call__" (.ref C::j,y))):=
 (r.hd,by have:=r.dp;rw[iW];lia,by have:=r.un;rw[iV];lia)
theorem k0.depth(r:k0 k A):A.depth<recursionLimit:=by have:=r.dp;lia
noncomputable def Hl:TA:=λ_ H Q=>Q [] H
noncomputable def Xt(j:TE)(y:TA):TA:=λa H Q=>j a H λx b=>y a b λe d=>Q (x::e) d
section
theorem j7:PA X [] Hl:=λ_ _ _ _ H Q I h=>F0 ([],H,I,.nil,h)
theorem zZ(j:PE X e te)(y:PA X es t)(hs:ed (e::es) X.env=(cL,dy e X.env)::ed es X.env:=by rfl):PA X (e::es) (Xt te t):=by intro pos a s b H Q I h;rw[hs];refine zj<|ea (j a s b H _ I h) λu l O=>?_;obtain⟨x,d,U,Y,Z⟩:=O;exact ea (y pos a l b d _ U Z) λo n (m,f,g,k,i)=>(x::m,f,g,.cons Y k,i)
def So(t:TA):TE:=λd H Q=>t d H λb a=>b.length<=eB/\∀p,a p=none->Q (.ref p) (upd a p<|.tup b)
def Sr(t:TA):TE:=λd H Q=>t d H λb a=>b.length<=eB/\∀p,a p=none->Q (.ref p) (upd a p<|.lst b)
theorem Ll(h:PA X es t):PE X (.Tuple es x1 pos) (So t):=by intro a s f H Q I O;refine wpAny_Tuple_spliced<|ea (h pos a s f H _ I O) λd i (j,g,y,r,z,q)=>(by rw[<-r.length];exact z,?_);have U:=y.eC.fresh<|Tv _;refine(.ref _,_,y.laid (λb u e=>Tj _ e) (Tv _) ?_,rfl,q _ U);exact(z,d,r,(_,Tw _ rfl,rfl,_,rfl))
theorem Lo(h:PA X es t):PE X (.List es pos) (Sr t):=by intro a s f H Q I O;refine wpAny_List_spliced<|ea (h pos a s f H _ I O) λd i (j,g,y,r,z,q)=>(by rw[<-r.length];exact z,?_);have U:=y.eC.fresh<|Tv _;refine(.ref _,_,y.laid (λb u e=>Tj _ e) (Tv _) ?_,rfl,q _ U);exact(z,d,0,r,Tw _ rfl)
end
abbrev Sp:=List V->Hp->VK->XK->Prop
abbrev sf:=List o5->Hp->el->XK->dj->el->Prop
structure sh(P:hH)(w:hB)(K:Ti)(mg:DX)(base:eK)(A:l6)(outer:List o5)(s:el)(H:Hp):Prop where
 frames:A.frames=cz outer
 mod:Mod K mg base
 bs:∀b o,base.get? b=cz o->s.heap.get? b=cz o/\H b=none
 sm:base.objs.size<=s.heap.objs.size
 rl:s.heap.FunFrames base outer
 ua:∀b∈sG outer,H b=none
 eC:lp P w H s.heap
 bare:uJ s.gens
def CE(outer:List o5)(P:hH)(w:hB)(H:Hp)(s:el)(Q:VK)(u:dj)(y:el):Prop:=
 ∃v a,y.os=s.os/\uJ y.gens/\Un (sG outer) [] H a s.heap y.heap/\lp P w a y.heap/\RelV v u/\Q v a
def CR(CX:sf)(outer:List o5)(P:hH)(w:hB)(H:Hp)(s:el)(Q:VK)(E:XK)(r:Result)(y:el):Prop:=
 match r with
 |.ok (.ret u)=>CE outer P w H s Q u y
 |.ok _=>False
 |.error e=>CX outer H s E e y
structure kA(P:hH)(w:hB)(K:Ti)(mg:DX)(base:eK)(CX:sf)(k:Nat)(f:di)(fd:pv)(ps:List Str)(sp:Sp):Prop where
 len:∀vs H Q E,sp vs H Q E->vs.length=ps.length
 run:∀(A:l6) (outer:List o5) (s:el) (H:Hp) (args:Args) (us:List dj) (vs:List V) (Q:VK) (E:XK),k0 k A->sh P w K mg base A outer s H->G7 s fd args (ps.zip us)->eo vs us->sp vs H Q E->
  codeAny (d5 P w) A (.call (.ref f) args) (CR CX outer P w H s Q E) s
theorem sh.make{P:hH}{w:hB}{K:Ti}{j:DX}{base:eK}{A:l6}{outer:List o5}{s:el}{H:Hp}(e:sh P w K j base A outer s H)(C:di)(z:List dj)(y:List (Str×dj)):
 sh P w K j base (A.under (.builtin "type.__call__" (.ref C::z,y))) outer s H:=(by first|exact e.frames|(simpa[Around.under,Code.envs,Code.isFrame,pushEnvs]using e.frames),e.mod,e.bs,e.sm,e.rl,e.ua,e.eC,e.bare)
theorem sh.in1{P:hH}{w:hB}{K:Ti}{j:DX}{base:eK}{A:l6}{outer:List o5}{s:el}{H:Hp}(e:sh P w K j base A outer s H):
 sh P w K j base A.in1 outer s H:=(e.frames,e.mod,e.bs,e.sm,e.rl,e.ua,e.eC,e.bare)
section
theorem Inv.sW(I:Inv X pins σ H s):sh X.prog X.w X.K X.mg X.base X.A X.stack s H:=
 (I.ok.frames,I.ok.mod,I.bs,TJ I.ok.sm I.sz,I.stack,I.x_,I.eC,I.bare)
theorem Inv.after(I:Inv X pins σ H s)(h:CE X.stack X.prog X.w H s Q u s'):EP X pins σ Q u s':=by obtain⟨v,f,os,a,un,e,r,q⟩:=h;obtain⟨O,g,d,t,y⟩:=s';obtain rfl:y=s.os:=os;exact(v,f,I.call un e a<|λb z=>absurd z (),r,q)
end
noncomputable def tP(sp:Sp)(y:List V)(E:XK)(t:TA):TE:=λd H Q=>t d H λb a=>sp (b++y) a Q E
noncomputable def Om(C:di)(m:Str)(sp:Sp)(y:List V)(E:XK)(j:TE)(t:TA):TE:=λd H Q=>j d H λx b=>∃a f fs,x=.ref a/\b a=cz (.ins C f fs)/\fs.lookup m=none/\
 t d b λg e=>sp (x::(g++y)) e Q E
def tM(C:di)(sp:Sp)(y:List V)(E:XK)(t:TA):TE:=λf H Q=>t f H λe b=>∀x a,b x=none->b a=none->a≠x->
 sp (.ref x::(e++y)) (upd (upd b a<|.own x) x<|.ins C a []) (λv d=>v=.d7/\Q (.ref x) d) E
def Binds(K:Ti)(j:pv)(ps:List Str)(ds:List dj):Prop:=
 ∀(s:el) (a:List dj),K.In s.heap->(a++ds).length=ps.length->G7 s j (a,[]) (ps.zip<|a++ds)
theorem Binds.all{K:Ti}{z:pv}{ps:List Str}(h:∀j,j.length=ps.length->B4 z (j,[])=pure (ps.zip j)):Binds K z ps []:=λs j _ y=>by rw[E7]at y ⊢;exact .of_eq<|h j y
def YO(CX:sf)(X:Cx)(E:XK):Prop:=∀(a:TW) (b:St) (H:Hp) (s:el) (e:dj) (y:el),Inv X a b H s->CX X.stack H s E e y->X.xe e y
section
theorem BO(F:kA X.prog X.w X.K X.mg X.base CX k f fd ps sp)(O:k0 k X.A)(U:Binds X.K fd ps ds)(j:eo sv ds)(Y:YO CX X E)
 (I:Inv X pins σ H s) (r:eo vs us) (h:sp (vs++sv) H Q E):wpAny (d5 X.prog X.w) X.A (call (.ref f) us) (EP X pins σ Q) X.xe s:=by
 have a:=r.append j;have Z:(us++ds).length=ps.length:=by rw[<-a.length];exact F.len _ _ _ _ h
 refine wpAny_call<|F8 (F.run X.A X.stack s H _ (us++ds) (vs++sv) Q E O I.sW (U s us I.n4 Z) a h) λr d y=>?_;cases r with
 |error e=>exact Y pins σ H s e d I y
 |ok b=>
  cases b with
  |ret u=>exact I.after y
  |next=>assumption
  |brk=>assumption
  |cont=>assumption
theorem XS(F:kA X.prog X.w X.K X.mg X.base CX k f fd ps sp)(O:k0 k X.A)(U:Gl X x)(Y:X.mg x=cz (.ref f))(Z:se X.K (.ref f)=cC)(P:Binds X.K fd ps ds)(R:eo sv ds)(hx:YO CX X E)
 (B:PA X (e::es) t) (j:(x==("__debug__"))=cL:=by decide) (S:ed (e::es) X.env=(cL,dy e X.env)::ed es X.env:=by rfl) (z:(m5 pos (ed es X.env)).any (·.1)=cL:=by rfl):
 PE X (.Call (.Name x p) (e::es) [] pos) (tP sp sv E t):=by
 intro a s b H Q I h;refine C8<|VF I U Y ?_ j;refine _l I.ok.mod.DH Z (ea (B pos a s b H _ I h) λi g (l,d,y,r,q)=>(y.n4,?_)) S z;exact BO F O P R hx y r q
theorem Fj(Z:PE X o ta)(c:tK X.K C)(y:Dv X.K C m f)(F:kA X.prog X.w X.K X.mg X.base CX k f fd ps sp)(S:k0 k X.A)(P:Binds X.K fd ps ds)(R:eo sv ds)(hx:YO CX X E)(B:PA X (e::es) t)
 (j:ed (e::es) X.env=(cL,dy e X.env)::ed es X.env:=by rfl) (z:(m5 pos<|starEach es X.env).any (·.1)=cL:=by rfl)
 (ht:dy (.Call (.Attribute o m apos) (e::es) [] pos) X.env=(do
   let O<-dy o X.env
   u0 apos.atName
   let (f,first)<-qs [O] (O7 O m pl)
   callWith pos f first (m5 pos<|starEach (e::es) X.env) (uS pos<|keywordEach [] X.env)):=by rfl):
 PE X (.Call (.Attribute o m apos) (e::es) [] pos) (Om C m sp sv E ta t):=by
 intro b s d H Q I h;refine PySem.W.methodCall_KW (ea (Z b s d H _ I h) λu M p=>?_) ht;refine Tf λG=>?_;obtain⟨x,g,U,L,a,T,fs,n,i,l,q⟩:=p;subst n;obtain rfl:u=uD a:=L;refine G ?_;refine lB U i c y l ?_;refine _l I.ok.mod.DH y.kp (ea (B pos b M d g _ U q) λus s2 (vs,N,Y,r,J)=>(Y.n4,?_)) j z;exact BO (vs:=.ref a::vs) F S P R hx Y (.cons rfl r) J
structure Mk(K:Ti)(C f:di):Prop where
 makes:RZ K C=cC
 init:UW K (.ref C) "__init__" = cz (cz (.ref f))
 fn:GR K (.ref f)=cC
 kp:se K (.ref C)=cC
theorem zfF(M:Mk X.K C f)(F:kA X.prog X.w X.K X.mg X.base CX k f fd ps sp)(Y:k0 (k+1) X.A)(Z:Binds X.K fd ps ds)(B:eo sv ds)
 (P:YO CX X E) (I:Inv X pins σ H s) (r:eo vs us)
 (h:∀x j,H x=none->H j=none->j≠x->sp (.ref x::(vs++sv)) (upd (upd H j<|.own x) x<|.ins C j []) (λv z=>v=.d7/\Q (.ref x) z) E):
 wpAny (d5 X.prog X.w) X.A (call (.ref C) us) (EP X pins σ Q) X.xe s:=by
 have O:=h _ _ (I.eC.fresh<|uH _) (I.eC.fresh<|Tv _)<|TU<|sd _;have y:=Inv.made (C:=C) I;have a:eo (V.ref (s.heap.objs.size+1)::(vs++sv)) _:=.cons rfl (r.append B);have l:=by have e:=a.length;rw[F.len _ _ _ _ O]at e;exact e.symm
 refine wpAny_call (Ao I.n4 M.makes M.init (beq_iff_eq.mp M.fn) (F8 (F.run _ X.stack _ _ _ _ _ _ E (Y.make C us [])
  (y.sW.make C us []) (Z _ _ y.n4 l) a O) λr o U=>?_))
 cases r with
 |error e=>exact P pins σ _ _ e o y U
 | ok i=>
  cases i with
  |ret u=>
   obtain⟨v,b,d,n,g,m⟩:=y.after U;subst g;exact(n,(V.ref _,b,d,rfl,m))
  |next=>assumption
  |brk=>assumption
  |cont=>assumption
theorem oN(M:Mk X.K C f)(F:kA X.prog X.w X.K X.mg X.base CX k f fd ps sp)(O:k0 (k+1) X.A)(U:Gl X x)(Y:X.mg x=cz (.ref C))(Z:Binds X.K fd ps ds)(P:eo sv ds)(S:YO CX X E)
 (B:PA X (e::es) t) (j:(x==("__debug__"))=cL:=by decide) (R:ed (e::es) X.env=(cL,dy e X.env)::ed es X.env:=by rfl) (z:(m5 pos (ed es X.env)).any (·.1)=cL:=by rfl):
 PE X (.Call (.Name x p) (e::es) [] pos) (tM C sp sv E t):=by
 intro a s b H Q I h;exact C8<|VF I U Y (_l I.ok.mod.DH M.kp (ea (B pos a s b H _ I h) λi g (l,d,y,r,q)=>(y.n4,zfF M F O Z P S y r q)) R z) j
end
structure Dq(N P:List Str)(sc:h6):Prop where
 kind:sc.kind=.function
 co:sc.isCoroutine=cL
 gen:sc.isGenerator=cL
 nd:N.Nodup
 pre:N.take P.length=P
 par:∀x∈P,sc.names.lookup x=cz .local\/sc.names.lookup x=cz .cell
 W?:∀y∈sc.names,y.2 ≠ .free
theorem aE{kindOf:Str->Option sS}{x:Str}:∀{binds:List (Str×dj)} {m:DX},(∀v,(x,v)∉binds)->B6 kindOf binds m x=m x
 |[],_,_=>rfl
 |(n,v)::r,m,h=>by
  unfold B6;rw[aE λw a=>h w (TN _ a)];split
  .grind
  .rfl
theorem aH{kindOf:Str->Option sS}{x:Str}:∀{binds:List (Str×dj)} {m:DX},(∀v,(x,v)∉binds)->B5 kindOf binds m x=m x
 |[],_,_=>rfl
 |(n,v)::r,m,h=>by
  unfold B5;rw[aH λw a=>h w (TN _ a)];split
  .rfl
  grind
theorem aF{kindOf:Str->Option sS}{x:Str}{v:dj}:∀{P:List Str} {vs:List dj} {i:Nat} {m:DX},P.Nodup->P[i]? = cz x->vs[i]? = cz v->kindOf x=cz .local->
 B6 kindOf (P.zip vs) m x=cz v
 |[],_,_,_,_,h,_,_=>by simp at h
 |_::_,[],_,_,_,_,h,_=>by simp at h
 |p::P,w::vs,0,m,nd,h1,h2,hk=>by simp at h1 h2;subst h1;subst h2;show B6 kindOf ((p,w)::P.zip vs) m p=_;unfold B6;rw[aE λv y=>(tv.mp nd).1 (List.of_mem_zip y).1,DZ hk];simp
 |p::P,w::vs,i+1,m,nd,h1,h2,hk=>by unfold B6;exact aF (tv.mp nd).2 (by simpa using h1) (by simpa using h2) hk
theorem aJ{kindOf:Str->Option sS}{x:Str}{v:dj}:∀{P:List Str} {vs:List dj} {i:Nat} {m:DX},P.Nodup->P[i]? = cz x->vs[i]? = cz v->kindOf x≠cz .local->
 B5 kindOf (P.zip vs) m x=cz v
 |[],_,_,_,_,h,_,_=>by simp at h
 |_::_,[],_,_,_,_,h,_=>by simp at h
 |p::P,w::vs,0,m,nd,h1,h2,hk=>by simp at h1 h2;subst h1;subst h2;show B5 kindOf ((p,w)::P.zip vs) m p=_;unfold B5;rw[aH λv y=>(tv.mp nd).1 (List.of_mem_zip y).1,DJ hk];simp
 |p::P,w::vs,i+1,m,nd,h1,h2,hk=>by unfold B5;exact aJ (tv.mp nd).2 (by simpa using h1) (by simpa using h2) hk
noncomputable def XA(N:List Str)(vs:List V):St:=vs.map cz++Tq (N.length-vs.length) none
noncomputable def GF(CX:sf)(P:hH)(w:hB)(K:Ti)(mg:DX)(base:eK)(N:List Str)(qual:Str)(scope:h6)(f:di)(y:dj)(A:l6)(outer:List o5)(s:el)(H:Hp)(E:XK):Cx where
 prog:=P
 w:=w
 K:=K
 mg:=mg
 base:=base
 A:=A.deeper<|envOfC qual scope s.heap.objs.size f y
 N:=N
 ow:=s
 Ds:=H
 env:=Ht qual scope s.heap.objs.size f y
 outer:=outer
 stack:=Ht qual scope s.heap.objs.size f y::outer
 ex:=[]
 calm:=cC
 fn:=λ_=>cC
 pn:=[]
 xe:=λe O=>wpAny (d5 P w) (A.deeper<|envOfC qual scope s.heap.objs.size f y) (leaving (Ht qual scope s.heap.objs.size f y) e) (λ_ I=>CX outer H s E e I) (λQ I=>CX outer H s E Q I) O
theorem gu{j:h6}{n:Nat}{x:Str}(h:j.names.lookup x=cz .cell):∃c,(su n j.names []).lookup x=cz c:=by have q:=Ra j.names n [] (.inl h);exact D6.mp q
theorem pU{CX:sf}{P:hH}{w:hB}{K:Ti}{j:DX}{base:eK}{N ps:List Str}{qual:Str}{scope:h6}{f:di}{Y:dj}{A:l6}{outer:List o5}{s R:el}{H:Hp}{E:XK}{B:List dj}{vs:List V}
 (S:Dq N ps scope) (hd:A.handled=none) (O:sh P w K j base A outer s H) (hl:vs.length=ps.length) (r:eo vs B)
 (x:InCallC s s.heap.objs.size (B6 (Ht qual scope s.heap.objs.size f Y).kindOf (ps.zip B) λ_=>none) (su (s.heap.objs.size+1) scope.names []) (B5 (Ht qual scope s.heap.objs.size f Y).kindOf (ps.zip B) λ_=>none) R):
 Inv (GF CX P w K j base N qual scope f Y A outer s H E) [] (XA N vs) H R:=by
 have t:ps.length<=N.length:=by have:=congrArg NR S.pre;rw[E3]at this;lia
 obtain⟨Z,F,rfl,l⟩:=x.done;have a0 b:b∉(GF CX P w K j base N qual scope f Y A outer s H E).ex:=λz=>absurd (show b∈([])from z) ();refine((O.mod,S.kind,rfl,rfl,Tv _,λy z c Z I=>?_,λy Q=>?_,λy c _ h=>?_,λ_=>hd,Around.frames_deeper O.frames,.inr (rfl,rfl),λb z=>absurd z<|a0 b,O.bs,O.sm,λb _ _=>a0 b,λb z=>absurd z<|a0 b,O.rl,O.ua),
  rfl,O.bare,Un.kept l,(_,x.toInCall.ns,λi y v Z I C=>?_),λy c h=>(_,x.cell y c h),O.eC.fresh<|Tv _,λy c h=>?_,λp U=>absurd (show p∈([])from U) (),O.eC.kept l,?_)
 .exact name_of_addr x.apart (M6 Z)<|M6 I
 .have Q:=Q
  rcases Q with Q|Q
  .exact gu Q
  .exact absurd rfl<|S.W? _<|M6 Q
 .exact G4<|x.above y c<|M6 h
 .have d:i<vs.length:=by
   unfold XA at I;by_cases d:i<vs.length
   .exact d
   .rw[UO (by simpa using d)]at I
    rw[Rb]at I;split at I<;>cases I
  have n:vs[i]? = cz v:=by
   unfold XA at I;rw[ve (by simpa using d),UE]at I;cases e:vs[i]? with
   |none=>rw[e]at I;cases I
   |some a=>rw[e]at I;cases I;rfl
  obtain⟨u,m,o⟩:=r.get n;have U:ps[i]? = cz y:=by rw[<-S.pre,List.getElem?_take_of_lt ()];exact Z
  have g:ps.Nodup:=by rw[<-S.pre];exact S.nd.sublist<|List.take_sublist _ _
  refine(u,o,?_);rcases S.par y (UR U)with k|k
  .exact .inl (k,aF g U m k)
  .obtain⟨c,e⟩:=gu k
   refine .inr (.inl k,c,e,?_);have q:=x.cell y c e;rw[aJ g U m (by show scope.names.lookup y≠_;rw[k];decide)]at q;exact q
 .exact O.eC.fresh<|G4<|x.above y c<|M6 h
 .unfold XA
  show _=N.length;simp only[UD,Ua,List.length_replicate];lia
theorem Pl{CX:sf}{P:hH}{w:hB}{K:Ti}{mg:DX}{base:eK}{k:Nat}{f:di}{name qual:Str}{a1:Arguments}{z:List h9}{scope:h6}{dV kV R pm j ct oc:dj}{an od:Option di}
 {PM:Array (Option dj)} {N ps:List Str} {sp:Sp} (lk:K.lookup f=cz (oc,od,.func<|rM name qual a1 z scope dV kV R pm an j ct,PM)) (a6:Dl K j qual=cC) (S:Dq N ps scope)
 (len:∀vs H Q E,sp vs H Q E->vs.length=ps.length)
 (a7:∀A outer s H vs Q E,k0 k (A.deeper<|envOfC qual scope s.heap.objs.size f j)->sp vs H Q E->
   ∃t,pg (GF CX P w K mg base N qual scope f j A outer s H E) z t/\t {nx:=λ_ B=>Q .d7 B,rt:=Q} (XA N vs) H):
 kA P w K mg base CX (k+1) f (rM name qual a1 z scope dV kV R pm an j ct) ps sp:=by
 refine(len,λA outer s H l us vs Q E Y O hb r h=>?_);have L:=len _ _ _ _ h;have g:=O.mod.DH.keeps λb o e=>(O.bs b o e).1;have lim:=O.mod.nolimit.keeps λb o e=>(O.bs b o e).1;have p:∀y∈ps.zip us,scope.names.lookup y.1=cz .local\/(scope.names.lookup y.1=cz .cell/\((su (s.heap.objs.size+1) scope.names []).lookup y.1).isSome=cC):=λ(n,v) X=>by
  rcases S.par n (List.of_mem_zip X).1 with q|q
  .exact .inl q
  .exact .inr (q,Ra _ _ _<|.inl q)
 refine codeAny_call_function Y.depth (g _ _ lk) rfl S.co S.gen rfl (PySem.W.codeRec_of g a6)<|hb _ _ _ _ ?_;refine wpAny_newFunctionEnv_cells S.kind p λC G m x=>?_;subst G;refine(lim.keeps x.toInCall.keep,codeAny_func ?_);obtain⟨t,T,M⟩:=a7 A outer s H vs Q E (Y.deeper _) h;have I:Inv (GF CX P w K mg base N qual scope f j A outer s H E) [] _ H m:=pU S Y.hd O L r x;refine rz (T [] m _ H _ I M) (λF Z a=>?_) λe Z a=>a;have i:∀{U:St} {B:Hp} {v:V} {u:dj},Inv (GF CX P w K mg base N qual scope f j A outer s H E) [] U B Z->RelV v u->Q v B->CE outer P w H s Q u Z:=
  λ{U B v u} J d q=>(v,B,J.os,J.bare,J.base,J.eC,d,q)
 cases F with
 |ret u=>
  obtain⟨v,U,B,J,d,q⟩:=a;exact i J d q
 |next=>
  obtain⟨U,B,J,q⟩:=a;exact i (v:=V.d7) J rfl q
 |brk=>
  obtain⟨_,_,_,q⟩:=a;exact Dm q
 |cont=>
  obtain⟨_,_,_,q⟩:=a;exact Dm q
section
variable{X:Cx}{x:Str}{p pos:f9}{e:d8}{es:List d8}{t:TA}{id T:String}{r:List V->Hp->VK->Prop}
def z_(r:List V->Hp->VK->Prop)(t:TA):TE:=λd H Q=>t d H λb a=>r b a Q
theorem vQ(y:QX X (.builtin id) r)(O:Gl X x)(U:X.mg x=none)(Y:sV x=cz (.builtin id))(B:PA X (e::es) t)(Z:x ≠ "__name__":=by decide)(j:(x==("__debug__"))=cL:=by decide)
 (E:ed (e::es) X.env=(cL,dy e X.env)::ed es X.env:=by rfl) (z:(m5 pos<|starEach es X.env).any (·.1)=cL:=by rfl):PE X (.Call (.Name x p) (e::es) [] pos) (z_ r t):=by
 intro a s b H Q I h;refine C8<|yc I O U Y ?_ Z j;exact zda (ea (B pos a s b H _ I h) λl k (m,d,f,i,g)=>y a k b d m l Q f i g) E z
theorem XR(y:QX X (.type T) r)(O:Gl X x)(U:X.mg x=none)(Y:sV x=cz (.type T))(B:PA X (e::es) t)(Z:x ≠ "__name__":=by decide)(j:(x==("__debug__"))=cL:=by decide)
 (E:ed (e::es) X.env=(cL,dy e X.env)::ed es X.env:=by rfl) (z:(m5 pos<|starEach es X.env).any (·.1)=cL:=by rfl):PE X (.Call (.Name x p) (e::es) [] pos) (z_ r t):=by
 intro a s b H Q I h;refine C8<|yc I O U Y ?_ Z j;exact Ut (ea (B pos a s b H _ I h) λl k (m,d,f,i,g)=>y a k b d m l Q f i g) E z
end
end L2
namespace HT
open PySem PyProof.Rows
section
variable{prog:hH}{w:hB}{A:l6}{E:EQ}{s:el}
theorem PD(H:Dt s.heap t vs.toArray)(B:Dt s.heap b ws.toArray)(O:vs ≠ [])
 (j:ws=[]->Q (.ref t) s) (z:ws ≠ []->Q (.ref s.heap.objs.size) {s with heap:=s.heap.push {cls:=.type "tuple",data:=.seq (vs++ws).toArray}})
 (hsz:vs.length+ws.length<=eB):wpAny (d5 prog w) A (rV .Add (.ref t)<|.ref b) Q E s:=by
 refine Tf λl=>?_;obtain⟨⟨cls,U,data,f⟩,y,i,n,k⟩:=id H;obtain⟨⟨m,Y,data2,Z⟩,I,g,d,h⟩:=id B;refine l ?_;subst i k g h;have e:vs.toArray++ws.toArray=(vs++ws).toArray:=by simp
 by_cases a:ws=[]
 .exact S4 (_,y,rfl) (_,I,rfl) _e w_ O_ N_ (S' _ _)
   (tuple_addW1 t b vs.toArray ws.toArray n d U Y f Z (by simpa using O)<|by simp[a]) (y,I,j a)
 .refine S4 (_,y,rfl) (_,I,rfl) _e w_ O_ N_ (S' _ _)
   (tuple_addW2 t b vs.toArray ws.toArray n d U Y f Z (by simpa using O) (by simpa using a)<|by assumption) (y,I,?_)
  rw[e];exact z a
def cI(n d:Nat):Option Int->Nat
 |none=>d
 |some v=>if v<0 then (v+(n:Int)).toNat else min v.toNat n
theorem rT(v:Int)(n d:Nat):(if v<0 then max (v+n) 0 else min v n)=((cI n d (cz v):Nat)):=by
 show(if v<0 then max (v+n) 0 else min v n)=(((if v<0 then (v+(n:Int)).toNat else min v.toNat n):Nat));by_cases y:v<0
 .simp only[DZ y];lia
 .simp only[DJ y];lia
theorem me(lo j:Option Int)(n:Nat):P_ lo j 1 n=(((cI n 0 lo):Int),((cI n n j):Int)):=by
 have y:¬(1<0):=()
 unfold P_;simp only[y,if_false];refine Prod.ext ?_ ?_
 .cases lo with
  |none=>rfl
  |some v=>exact rT v n 0
 .cases j with
  |none=>rfl
  |some v=>exact rT v n n
theorem iB(i j:Nat):J_ i j 1=j-i:=by
 unfold J_;have y:(1:Int)>0:=()
 simp only[y,if_true,Int.ediv_one];split<;>lia
theorem Yd(p:tQ v o)(h:Q o s):wpAny (d5 prog w) A (Builtin.Slice.slicePartIndex v) Q E s:=by
 cases p with
 |none=>exact slicePart_none h
 |int i t=>exact slicePart_int h
theorem QU{z:di}{y I:dj}{lo j:Option Int}{n:Nat}{Q:Int×Int×Nat->el->Prop}(hs:s.heap.IsSliceOf z y I .none)(Y:tQ y lo)(Z:tQ I j)
 (h:Q (((cI n 0 lo:Nat)),1,cI n n j-cI n 0 lo) s):wpAny (d5 prog w) A (Builtin.Slice.sliceApplied (.ref z)<|pure n) Q E s:=by
 obtain⟨os,O,a,U⟩:=id hs;refine Th<|Th<|Uv O U (x:=y) rfl<|Th<|Uv O U (x:=I) rfl<|Th<|Uv O U rfl<|Ts ?_;refine Th<|slicePart_none ?_;rw[DJ ()];refine Th<|Yd Y<|Th<|Yd Z<|Th<|Ts ?_;show wpAny _ _ (match P_ lo j 1 n with|(lo,j)=>pure (Prod.mk lo (Prod.mk (1:Int) (J_ lo j 1)))) _ _ s;rw[me lo j n];show wpAny _ _ (pure _) _ _ s;rw[iB];exact Ts h
theorem zfv(xs:Array dj)(i k:Nat):((Tn k).filterMap λ(m:Nat)=>xs[(i+(m:Int)*1).toNat]?).toArray=((xs.toList.drop i).take k).toArray:=by
 have e:(λ(m:Nat)=>xs[(i+(m:Int)*1).toNat]?)=λm=>xs[i+m]? :=by
  funext m;have:(i+(m:Int)*1).toNat=i+m:=()
  rw[this]
 rw[e];have:=pick_run xs i k;rw[List.filterMap_map]at this;have y:(_∘_)=λm=>xs[i+m]? :=rfl;rw[y]at this;rw[this]
theorem lE{t z:di}{y:Array dj}{U Y:dj}{lo j:Option Int}{Q:EQ}(I:Dt s.heap t y)(hs:s.heap.IsSliceOf z U Y .none)(Z:tQ U lo)(B:tQ Y j)
 (H:¬(cI y.size 0 lo=0/\cI y.size y.size j=y.size))
 (h:Q (.ref s.heap.objs.size) {s with heap:=s.heap.push {cls:=.type "tuple",data:=.seq ((y.toList.drop (cI y.size 0 lo)).take (cI y.size y.size j-cI y.size 0 lo)).toArray}})
 (hsz:y.size<=eB):wpAny (d5 prog w) A (ub (.ref t)<|.ref z) Q E s:=by
 have O:=by show((y.toList.drop<|cI y.size 0 lo).take (cI y.size y.size j-cI y.size 0 lo)).toArray.size<=eB;simp only[TK,E3,List.length_drop,vl];exact TJ (NB ..)<|TJ (Nat.sub_le ..) hsz
 obtain⟨os,a,b,f⟩:=id hs;have d:s.TypeIs (.ref z) "slice":=(os,a,b);unfold ub
 try with_reducible refine q8 ?_
 first|refine Th (Ts ?_)|skip
 refine Th<|wpAny_sequenceKey I.typeIs () ?_;refine Th (Ux I.typeIs D9
  (qj D9 I.typeIs entry_tuple_getitem ?_ (x? _ _)))
 show wpAny _ _ (Builtin.Tuple.tupleItemsOf (.ref t) >>= _) _ _ s;refine Th<|Nr I ?_;refine Th<|uG d ?_;rw[DZ ()];refine Th<|QU hs Z B ?_;have e:¬((((cI y.size 0 lo):Int)==0&&(1:Int)==1&&(cI y.size y.size j-cI y.size 0 lo)==y.size)=cC):=()
 show wpAny _ _ (if _=cC then _ else _) _ _ s;rw[DJ e,zfv]
 first
  |exact Th<|tr (Ts (_,rfl,Ts h)) O
  |exact Th<|tr (Th<|Ts<|Ts (_,rfl,Ts h)) O
  |exact Th<|Th<|tr (Ts<|Ts (_,rfl,Ts h)) O
  |exact Th<|Th<|tr (Ts (_,rfl,Ts h)) O
end
end HT
namespace L2
open PySem PySem.Spec PyProof.Rows
abbrev TO:=St->Hp->(Option Int->Hp->Prop)->Prop
def PO(X:Cx)(e:Option d8)(t:TO):Prop:=
 ∀(a:TW) (s:el) (b:St) (H:Hp) (Q:Option Int->Hp->Prop),Inv X a b H s->t b H Q->
  wpAny (d5 X.prog X.w) X.A (evalPart e X.env) (λu y=>∃o d,Inv X a b d y/\tQ u o/\Q o d) X.xe s
noncomputable def Ej:TO:=λ_ H Q=>Q none H
noncomputable def Oi(t:TE):TO:=λb H Q=>t b H λx a=>∃i,x=.int i/\Q (cz i) a
section
variable{X:Cx}{e:d8}{te:TE}{lo hi:Option d8}{tl th:TO}{pos p2:f9}
theorem EY:PO X none Ej:=by intro a s b H Q I h;rw[evalPart_none];exact Ts (none,H,I,.none,h)
theorem EX(h:PE X e te):PO X (cz e) (Oi te):=by intro a s f H Q I d;rw[evalPart_some];refine ea (h a s f H _ I d) λu g y=>?_;obtain⟨x,b,O,U,Y⟩:=y;obtain⟨i,rfl,q⟩:=Y;obtain⟨t,rfl⟩:=U;exact(cz i,b,O,.int i t,q)
def N7(X:Cx)(r:V->Option Int->Option Int->Hp->VK->Prop):Prop:=
 ∀(a:TW) (s:el) (d:St) (H:Hp) (x:V) (v y I:dj) (lo hi:Option Int) (b:di) (Q:VK),Inv X a d H s->RelV x v->s.heap.IsSliceOf b y I .none->tQ y lo->tQ I hi->r x lo hi H Q->
  ∃T id,DU (.type T) "__getitem__" = pure (cz (.builtin id))/\s.TypeIs v T/\wpAny (d5 X.prog X.w) X.A (ub v (.ref b)) (EP X a d Q) X.xe s
def tSl(r:V->Option Int->Option Int->Hp->VK->Prop)(te:TE)(tl th:TO):TE:=λa H Q=>te a H λx b=>tl a b λl d=>th a d λu y=>r x l u y Q
theorem zfy(Z:N7 X r)(z:PE X e te)(B:PO X lo tl)(E:PO X hi th):PE X (.Subscript e (.Slice lo hi none p2) pos) (tSl r te tl th):=by intro a s d H Q I h;refine U0 (ea (z a s d H _ I h) λv K o=>?_);obtain⟨x,f,i,J,C⟩:=o;refine wpAny_Slice (ea (B a K d f _ i C) λy L (l,g,j,w,F)=>ea (E a L d g _ j F) λO U (u,Y,k,A,G)=>?_);rw[evalPart_none];refine Ts ?_;have m:Inv X a d Y {U with heap:=U.heap.push {cls:=.type "slice",data:=.fields #[y,O,.none]}}:=k.kept λb M q=>Tj _ q;obtain⟨T,id,n,t,p⟩:=Z a _ d Y x v y O l u _ Q m J (Heap.IsSliceOf.new ..) w A G;exact tail_any t n p (by rfl)
noncomputable def Hw(xs:List V)(lo hi:Option Int):List V:=(xs.drop<|HT.cI xs.length 0 lo).take (HT.cI xs.length xs.length hi-HT.cI xs.length 0 lo)
theorem cT(xs:List V)(lo hi:Option Int):(Hw xs lo hi).length<=xs.length:=by unfold Hw;rw[E3,List.length_drop];exact TJ (NB ..)<|Nat.sub_le ..
def Sy(K:Ti):V->Option Int->Option Int->Hp->VK->Prop:=λx lo hi H Q=>∃a b,x=.ref a/\fA K H a b/\
 ¬(HT.cI b.length 0 lo=0/\HT.cI b.length b.length hi=b.length)/\∀p,H p=none->Q (.ref p) (upd H p<|.tup<|Hw b lo hi)
theorem Il:N7 X (Sy X.K):=by
 intro f s p H x v n o lo hi m Q I U i Y Z h;obtain⟨a,g,rfl,k,j,q⟩:=h;cases U;obtain⟨d,r,O,e⟩:=I.tuple k;have y:d.toArray.size=g.length:=by rw[TK];exact r.length.symm
 refine("tuple",_,D9.lookup,O.typeIs,?_);refine HT.lE O i Y Z (by rw[y];exact j) ?_ (by rw[y];exact e);rw[y];refine(.ref _,_,I.laid (λb l q=>Tj _ q) (Tv _) ?_,rfl,q _ (I.eC.fresh (Tv _)));exact(TJ (cT g lo hi) e,_,(r.drop _).take _,sj.new _ _)
theorem eo.PL(r:eo xs us):us=[]↔xs=[]:=by
 cases r with
 |nil=>simp
 |cons _ _=>simp
end
noncomputable def xx(n:Nat)(i:Int):Option Nat:=if 0<=i then (if i<n then cz i.toNat else none)else if -(n:Int)<=i then cz (i+n).toNat else none
def uP{z:Type}(xs:List z)(i:Int):Option z:=(xx xs.length i).bind λj=>xs[j]?
theorem pS(h:xx n i=cz j):seqIndex? i n=cz j/\j<n/\ -n<=i/\i<n:=by
 unfold xx at h;by_cases I:0<=i
 .rw[DZ I]at h
  by_cases y:i<n
  .rw[DZ y]at h
   have e:=UK h;exact(by rw[v_ I y,e],(),(),y)
  .rw[DJ y]at h;cases h
 .rw[DJ I]at h
  by_cases y : -n<=i
  .rw[DZ y]at h
   have e:=UK h;exact(by rw[u_ () y,e],(),y,())
  .rw[DJ y]at h;cases h
theorem da(h:uP xs i=cz v):∃j,seqIndex? i xs.length=cz j/\xs[j]? = cz v/\j<xs.length/\ -(xs.length)<=i/\i<xs.length:=by
 unfold uP at h;cases e:xx xs.length i with
 |none=>rw[e]at h;cases h
 |some j=>
  rw[e]at h;obtain⟨y,I,O,Q⟩:=pS e;exact(j,y,h,I,O,Q)
def df(b:d8):Prop:=∀o i,PZ b cL o i=operate [o,i] (ub o i)
def uK(X:Cx)(r:R2):Prop:=
 ∀(O I:d8) (a:TW) (s:el) (b:St) (H:Hp) (x y:V) (v u:dj) (Q:VK),Inv X a b H s->RelV x v->RelV y u->r x y H Q->
  PZ I cL v u=operate [v,u] (ub v u)->wpAny (d5 X.prog X.w) X.A (subscriptTail O I v u) (EP X a b Q) X.xe s
def N0(X:Cx)(id:String)(r:V->List V->Hp->VK->Prop):Prop:=
 ∀(a:TW) (s:el) (e:St) (H:Hp) (x:V) (d:List V) (v:dj) (b:List dj) (Q:VK),Inv X a e H s->RelV x v->eo d b->r x d H Q->
  wpAny (d5 X.prog X.w) X.A (call (.builtin id) (v::b)) (EP X a e Q) X.xe s
section
variable{X:Cx}{a b:d8}
theorem uK.or(h:uK X r)(h':uK X r'):uK X (λx y H Q=>r x y H Q\/r' x y H Q):=by
 intro O U a s d H x y v u Q I Y Z q b;rcases q with q|q
 .exact h O U a s d H x y v u Q I Y Z q b
 .exact h' O U a s d H x y v u Q I Y Z q b
theorem Lp(O:uK X r)(j:PE X a ta)(U:PE X b tb)(hs:df b):PE X (.Subscript a b pos) (C5 r ta tb):=by intro d s i H Q I h;exact U0<|PF j U I h λv u g x y e Y Z f q=>O a b d g i e x y v u Q Y Z f q<|hs _ _
def SD(K:Ti):R2:=λx y H Q=>∃p a i v,x=.ref p/\y=.int i/\gg K H p a/\uP a i=cz v/\Q v H
def SB(K:Ti):R2:=λx y H Q=>∃p a i v,x=.ref p/\y=.int i/\fA K H p a/\uP a i=cz v/\Q v H
def SC:R2:=λx y H Q=>∃z i c,x=.str z/\y=.int i/\z.length<=eB/\uP z.cps.toList i=cz c/\Q (.str ⟨#[c]⟩) H
theorem L?:uK X (SD X.K):=by
 intro ad G a s F H x y v u Q I C E h f;obtain⟨p,N,i,z,rfl,rfl,A,n,q⟩:=h;cases C;refine Tf λB=>?_;obtain⟨t,rfl⟩:=E;obtain⟨b,r,U,M⟩:=I.list A;obtain⟨j,O,k,J,l,m⟩:=da n;obtain⟨w,Z,g⟩:=r.get k;refine B ?_;have o:=r.length;have L:=X9;have d:EP X a F Q w s:=(z,H,I,g,q);by_cases e:0<=i
 .have Y:=by
   rw[v_ e m]at O;exact UK O
  exact item_listR U.isList e () (by rw[Y];simpa using Z) d f
 .have Y:(i+(b.toArray.size)).toNat=j:=by
   rw[u_ () l]at O;rw[TK,<-o];exact UK O
  exact zeZ U.isList.typeIs slot_list_getitem.lookup
   (wpAny_getItem_list_neg U.isList () (by rw[TK]<;>lia) () (by rw[Y];simpa using Z) (rfl,d)) f
theorem Mq:uK X (SB X.K):=by
 intro B C a s A H x y v u Q I U Y h m;obtain⟨p,M,i,z,rfl,rfl,Z,k,q⟩:=h;cases U;refine Tf λo=>?_;obtain⟨t,rfl⟩:=Y;obtain⟨n,r,O,L⟩:=I.tuple Z;obtain⟨j,f,g,E,F,G⟩:=da k;obtain⟨w,e,b⟩:=r.get g;refine o ?_;have l:=r.length;have J:=X9;have d:EP X a A Q w s:=(z,H,I,b,q);exact zeZ O.typeIs slot_tuple_getitem.lookup
  (getItem_tuple O () () (by rw[TK,<-l];exact f) (by simpa using e) (rfl,d)) m
theorem Mr:uK X SC:=by
 intro l m a s w H x y v u Q I U Y h k;refine Tf λZ=>?_;obtain⟨z,i,c,rfl,rfl,p,f,q⟩:=h;obtain⟨t,rfl⟩:=U;obtain⟨r,rfl⟩:=Y;obtain⟨j,O,b,n,d,e⟩:=da f;refine Z ?_;have g:z.cps.toList.length=z.length:=by rfl
 rw[g]at O d e;have o:=X9;exact tail_any (E' s z t) slot_str_getitem.lookup (getItem_str (by
  lia) (by rw[O];simpa using b) (.str _,H,I.tok _,(_,rfl),q)) k
theorem iT(its:List dj)(n j:Nat)(u:dj):US (·.setIfInBounds j u) {cls:=.type "list",data:=.seq its.toArray n} = {cls:=.type "list",data:=.seq (its.set j u).toArray n}:=by simp[US]
theorem Inv.lst(I:Inv X pins σ H s)(h:H p=cz (.lst xs)):
 ∃its n,eo xs its/\s.heap.get? p=cz {cls:=.type "list",data:=.seq its.toArray n}/\xs.length<=eB:=by
 obtain⟨z,its,n,r,e⟩:=I.eC p _ h;exact(its,n,r,e,z)
theorem Inv.P?{j:TW}{z:St}{H:Hp}{s:el}{p:di}{xs ys:List V}{its its':List dj}{n n':Nat}{f:lU->lU}(I:Inv X j z H s)(h:H p=cz (.lst xs))
 (O:s.heap.get? p=cz {cls:=.type "list",data:=.seq its.toArray n}) (y:f {cls:=.type "list",data:=.seq its.toArray n} = {cls:=.type "list",data:=.seq its'.toArray n'}) (r:eo ys its') (hz:ys.length<=eB) (t:Nat):
 Inv X j z (upd H p<|.lst ys) {s with heap:=s.heap.update p f,toks:=t}:=by
 have e:(s.heap.update p f).get? p=cz {cls:=.type "list",data:=.seq its'.toArray n'}:=by rw[A5 f O (by rw[y]<;>rfl),y]
 refine I.write (by rw[h];trivial) (.inl rfl) (λb u Q q=>(Ur _ _<|Ue Q).trans q) (_,e) ?_;exact(hz,its',n',r,e)
def OE:V->V->V->Hp->(Hp->Prop)->Prop:=λo i v H Q=>∃p a k j,o=.ref p/\i=.int k/\H p=cz (.lst a)/\xx a.length k=cz j/\Q (upd H p<|.lst<|a.set j v)
theorem dW:Sg X OE:=by
 intro g s J H o i v F E u Q I z x A h;obtain⟨p,G,k,j,rfl,rfl,Z,l,q⟩:=h;cases z;refine Tf λw=>?_;obtain⟨t,rfl⟩:=x;obtain⟨a,n,r,O,m⟩:=I.lst Z;obtain⟨y,B,e,f⟩:=pS l;refine w ?_;have U:=r.length;have C:=X9;have b:=
  I.P? Z O (iT a n j u) (r.set A j) (by rw[List.length_set];exact m) s.toks
 by_cases d:0<=k
 .have Y:=by
   rw[v_ d f]at y;exact UK y
  exact PySem.W.ki_setAt O d () (by rw[TK,<-U];exact f) (by rw[Y];exact(_,b,q))
 .have Y:(k+(a.toArray.size)).toNat=j:=by
   rw[u_ () e]at y;rw[TK,<-U];exact UK y
  exact PySem.W.ki_setBack O () (by rw[TK,<-U];exact e) () (by rw[Y];exact(_,b,q))
noncomputable def VQ:V->Bool
 |.d7=>cC
 |.bl _=>cC
 |.int _=>cC
 |.str _=>cC
 |_=>cL
noncomputable def t9:V->V->Bool
 |.d7,.d7=>cC
 |.bl a,.bl b=>a==b
 |.bl a,.int b=>(if a then 1 else 0)==b
 |.int a,.bl b=>a==(if b then 1 else 0)
 |.int a,.int b=>a==b
 |.str a,.str b=>a==b
 |_,_=>cL
theorem MG(O:RelV y u)(I:RelV x v)(Q:VQ y=cC)(j:VQ x=cC):pk A s u v (t9 y x):=by
 cases y with
 |d7=>
  cases O;cases x with
  |d7=>cases I;exact pk.same _
  |bl b=>cases I;exact pk.none_bool b
  |int b=>obtain⟨t,rfl⟩:=I;exact pk.none_int b t
  |str b=>obtain⟨t,rfl⟩:=I;exact pk.none_str b t
  |_=>exact absurd j Uk
 |bl a=>
  cases O;cases x with
  |d7=>cases I;exact pk.bool_none a
  |bl b=>cases I;exact pk.bool_bool a b
  |int b=>obtain⟨t,rfl⟩:=I;exact pk.bool_int a b t
  |str b=>obtain⟨t,rfl⟩:=I;exact pk.bool_str a b t
  |_=>exact absurd j Uk
 |int a=>
  obtain⟨d,rfl⟩:=O;cases x with
  |d7=>cases I;exact pk.int_none a d
  |bl b=>cases I;exact pk.int_bool a d b
  |int b=>obtain⟨t,rfl⟩:=I;exact M5 a d b t
  |str b=>obtain⟨t,rfl⟩:=I;exact pk.int_str a d b t
  |_=>exact absurd j Uk
 |str a=>
  obtain⟨d,rfl⟩:=O;cases x with
  |d7=>cases I;exact pk.str_none a d
  |bl b=>cases I;exact pk.str_bool a d b
  |int b=>obtain⟨t,rfl⟩:=I;exact pk.str_int a d b t
  |str b=>obtain⟨t,rfl⟩:=I;exact pk.str_str a d b t
  |_=>exact absurd j Uk
 |_=>exact absurd Q Uk
def t8(x:V)(u:dj):Bool:=match u with
 |.none=>t9 .d7 x
 |.bool b=>t9 (.bl b) x
 |.int i _=>t9 (.int i) x
 |.str z _=>t9 (.str z) x
 |_=>cL
theorem CB(r:RelV y u)(f:VQ y=cC):t8 x u=t9 y x:=by
 cases y with
 |d7=>cases r;rfl
 |bl b=>cases r;rfl
 |int i=>obtain⟨t,rfl⟩:=r;rfl
 |str z=>obtain⟨t,rfl⟩:=r;rfl
 |_=>exact absurd f Uk
theorem sx(h:eo xs us)(f:xs.all VQ=cC):us.any (t8 x)=xs.any λy=>t9 y x:=by
 induction h with
 |nil=>rfl
 |cons r t I=>
  simp only[List.all_cons,TZ]at f;simp only[List.any_cons,CB r f.1,I f.2]
theorem fj(I:RelV x v)(j:VQ x=cC)(h:eo xs z)(f:xs.all VQ=cC):∀u∈z,pk A s u v (t8 x u):=by
 induction h with
 |nil=>intro u y;cases y
 |cons r t O=>
  intro Q y;simp only[List.all_cons,TZ]at f;rcases Tz.mp y with rfl|y
  .rw[CB r f.1];exact MG r I f.1 j
  .exact O f.2 Q y
def Ia(x:V)(xs:List V):Bool:=xs.any λy=>t9 y x
def rIn(K:Ti)(I:Bool):R2:=λx y H Q=>∃p a,y=.ref p/\(gg K H p a\/fA K H p a)/\VQ x=cC/\a.all VQ=cC/\Q (.bl<|if I then !Ia x a else Ia x a) H
theorem WG:ix X (m7 .NotIn) (rIn X.K cC):=by
 intro e s i H x y v u Q I Y Z h;obtain⟨p,g,rfl,O,d,fs,q⟩:=h;cases Z;rcases O with O|O
 .obtain⟨a,r,U,f⟩:=I.list O
  refine SeqAt.notIn_listAt (t8 x) U.isList (λw b=>fj Y d r fs w<|by simpa using b) (.bl _,H,I,rfl,?_);rw[show a.toArray.any (t8 x)=a.any (t8 x)by simp,sx r fs];exact q
 .obtain⟨a,r,U,f⟩:=I.tuple O
  refine SeqAt.notIn_tupleAt (t8 x) U (λw b=>fj Y d r fs w<|by simpa using b) (.bl _,H,I,rfl,?_);rw[show a.toArray.any (t8 x)=a.any (t8 x)by simp,sx r fs];exact q
theorem aD:QX X (.builtin "len") (λxs H Q=>∃p ys,xs=[.ref p]/\(gg X.K H p ys\/fA X.K H p ys)/\Q (.int ys.length) H):=by
 intro d s g H xs f Q I r h;obtain⟨p,ys,rfl,y,q⟩:=h;obtain⟨u,rfl,Y⟩:=vJ r;cases Y;have Z:=X9;rcases y with y|y
 .obtain⟨a,b,O,e⟩:=I.list y
  have U:=b.length;exact Calls.call_len_list O.isList (by simp only[TK]<;>lia) (.int ys.length,H,I.tok _,(s.toks+1,by rw[TK,U]),q)
 .obtain⟨a,b,O,e⟩:=I.tuple y
  have U:=b.length;exact len_tuple O (by simp only[TK]<;>lia) (.int ys.length,H,I.tok _,(s.toks+1,by rw[TK,U]),q)
theorem aC:QX X (.builtin "len") (λxs H Q=>∃z,xs=[.str z]/\z.length<=eB/\Q (.int z.length) H):=by intro a s e H xs d Q I r h;obtain⟨z,rfl,b,q⟩:=h;obtain⟨u,rfl,t,rfl⟩:=vJ r;have y:=X9;exact len_str () (.int z.length,H,I.tok _,(_,rfl),q)
theorem aB:QX X (.type "list") (λxs H Q=>∃p ys,xs=[.ref p]/\(gg X.K H p ys\/fA X.K H p ys)/\∀l,H l=none->Q (.ref l) (upd H l (.lst ys))):=by
 intro g s A H xs B Q I r h;obtain⟨p,ys,rfl,y,q⟩:=h;obtain⟨u,rfl,z⟩:=vJ r;cases z;have Z:∀a,eo ys a->ys.length<=eB->∀i k,(∀b m,_=cz m->i.get? b=cz m)->
  _=_->EP X g A Q _ {s with heap:=i}:=λa d f i k x e=>
  (.ref _,_,I.laid x (Tv _) (show nj X.prog X.w _ i _ (.lst ys)from(f,a,k,d,e)),rfl,q _<|I.eC.fresh<|Tv _)
 rcases y with y|y
 .obtain⟨a,d,O,f⟩:=I.list y
  have t:=d.length;obtain⟨o,U,Y,n,j⟩:=O.isList;exact call_list_seq p (.inl rfl) U Y j ((Z a d f)) (by simp only[TK]<;>lia)
 .obtain⟨a,d,O,f⟩:=I.tuple y
  have t:=d.length;obtain⟨o,U,Y,n,j⟩:=O;exact call_list_seq p (.inr rfl) U Y j ((Z a d f)) (by simp only[TK]<;>lia)
theorem V0:QX X (.type "tuple") (λxs H Q=>∃p ys,xs=[.ref p]/\((gg X.K H p ys/\∀l,H l=none->Q (.ref l) (upd H l (.tup ys)))\/(fA X.K H p ys/\Q (.ref p) H))):=by
 intro g s n H xs m Q I r h;obtain⟨p,ys,rfl,h⟩:=h;obtain⟨u,rfl,Y⟩:=vJ r;cases Y;rcases h with⟨y,q⟩|⟨y,q⟩
 .obtain⟨a,d,O,f⟩:=I.list y
  have k:=d.length;refine call_tuple_list O.isList (λi j=>?_) (by simp only[TK]<;>lia);have U:=I.kept (t':=s.toks) j;have Z:=
   U.laid (t':=s.toks) (λb o e=>Tj _ e) (Tv _) (show nj X.prog X.w _ _ _ (.tup ys)from(f,a,d,sj.new _ _))
  exact(.ref i.objs.size,_,Z,rfl,q _<|U.eC.fresh<|Tv _)
 .obtain⟨a,d,O,f⟩:=I.tuple y
  exact call_tuple_same O (.ref p,H,I,rfl,q)
def D_(K:Ti)(T:String)(x:V)(H:Hp):Prop:=match x with
 |.str _=>T = "str"
 |.int _=>T = "int"
 |.ref p=>(T = "list"/\∃b,gg K H p b)\/(T = "tuple"/\∃o,K.lookup p=cz o/\o.cls=.type "tuple"/\o.dict=none)\/
  (T = "dict"/\((∃a,H p=cz (.dK a))\/∃a,H p=cz (.dT a)))\/(T = "set"/\∃S n,H p=cz (.set S n))
 |_=>False
theorem HV(I:Inv X pins σ H s)(r:RelV x v)(ty:D_ X.K T x H):
 s.TypeIs v T/\∀a,v=.ref a->∃Q,s.heap.get? a=cz Q/\Q.dict=none:=by
 cases x with
 |str z=>
  obtain⟨t,rfl⟩:=r;cases ty;exact(E' s z t,λ_ e=>nomatch e)
 |int i=>
  obtain⟨t,rfl⟩:=r;cases ty;exact(NL s i t,λ_ e=>nomatch e)
 | ref p=>
  cases r;rcases ty with⟨rfl,h,Y⟩|⟨rfl,o,y,Z,d⟩|⟨rfl,y⟩|⟨rfl,S,n,y⟩
  .obtain⟨g,_,U,_⟩:=I.list Y
   refine(U.isList.typeIs,λa e=>?_);cases e;obtain⟨o,n,e,c,d,_⟩:=U;exact(o,e,d)
  .refine((o,I.n4 p o y,Z),λa e=>?_)
   cases e;exact(o,I.n4 _ o y,d)
  .have z:∃o,s.heap.get? p=cz o/\o.ExactDict:=by
    rcases y with⟨f,y⟩|⟨f,y⟩
    .obtain⟨_,_,_,_,o,_,_,e,b,_⟩:=I.eC p _ y
     exact(o,e,b)
    .obtain⟨_,_,_,_,o,_,_,e,b,_⟩:=I.eC p _ y
     exact(o,e,b)
   obtain⟨o,e,b⟩:=z;refine((o,e,b.1),λa O=>?_);cases O;exact(o,e,b.2.1)
  .obtain⟨o,_,_,_,e,b,_⟩:=I.eC p _ y
   refine((o,e,b.1),λa O=>?_);cases O;exact(o,e,b.2.1)
 |_=>exact Dm ty
def y_(K:Ti)(T:String)(r:V->List V->Hp->VK->Prop)(to:TE)(t:TA):TE:=λb H Q=>to b H λx a=>D_ K T x a/\t b a λe d=>r x e d Q
variable{o e:d8}{es:List d8}{to:TE}{t:TA}{name:Str}{apos cpos:f9}{T id:String}{r:V->List V->Hp->VK->Prop}
theorem oO(Y:PlainAttrs T)(j:Slot T name id)(Z:typeOf (.builtin id)=pure (.type "method_descriptor"))(R:N0 X id r)(S:PE X o to)(P:PA X (e::es) t)
 (z:uQ o name X.env (dy o X.env)=dy o X.env:=by rfl)
 (B:((m5 cpos<|starEach (e::es) X.env).all (λx=> !x.1)&&(uS cpos<|keywordEach [] X.env).all (λx=>x.1.isSome)
   &&decide ((e::es).length+([]:List rE).length+(if ([]:List rE).isEmpty then 0 else 1)<30))=cC:=by rfl)
 (E:(apos.endLine==cpos.line)=cC:=by rfl) (hs:ed (e::es) X.env=(cL,dy e X.env)::ed es X.env:=by rfl) (ad:(m5 cpos<|starEach es X.env).any (·.1)=cL:=by rfl):
 PE X (.Call (.Attribute o name apos) (e::es) [] cpos) (y_ X.K T r to t):=by
 intro a s b H Q I h;refine wpAny_Call_method_late z B E rfl<|ea (S a s b H _ I h) λv w l=>?_;refine Tf λm=>?_;obtain⟨x,d,y,O,ty,n⟩:=l;obtain⟨i,k⟩:=HV y O ty;refine m ?_;refine(T,id,Y,j,Z,i,k,?_);have U:=P cpos a w b d _ y n;rw[hs]at U ⊢;refine Calls.callWith_builtin (by assumption)<|Calls.evalArgs_plain ?_;exact ea U λC A (F,f,g,u,p)=>R a A b f x F v C Q g O u p
end
def NZ(X:Cx)(id:String)(r:V->List V->Hp->VK->Prop):Prop:=
 ∀(a:TW) (s:el) (e:St) (H:Hp) (x:V) (d:List V) (v:dj) (b:List dj) (Q:VK),Inv X a e H s->RelV x v->eo d b->r x d H Q->
  wpAny (d5 X.prog X.w) X.A (call (.builtin id) (v::b)) (EP X a e Q) X.xe s
theorem eo.one{x:V}{j:List dj}(h:eo [x] j):∃u,j=[u]/\RelV x u:=by cases h with|cons r t=>cases t;exact(_,rfl,r)
theorem eo.rep(h:eo xs us):∀k,eo (Tq k xs).flatten (Tq k us).flatten
 |0=>.nil
 |k+1=>by exact eo.append h<|eo.rep h k
theorem Km(its:List dj):∀k j,
 List.foldl (λz y=>z++y) j.toArray (Tq k its.toArray)=(j++(Tq k its).flatten).toArray
 |0,j=>by simp
 |k+1,j=>by
  have e:j.toArray++its.toArray=(j++its).toArray:=by simp
  have I:(j++its)++(Tq k its).flatten=j++(Tq (k+1) its).flatten:=by simp only[_n,List.flatten_cons,X']
  rw[<-I,<-Km its k (j++its),<-e,_n,List.foldl_cons]
section
variable{X:Cx}{pins:TW}{σ:St}{H:Hp}{s:el}{l:di}{xs ys:List V}
theorem Inv.uZ{its its':List dj}{n:Nat}{f:Array dj->Array dj}{t':Nat}(I:Inv X pins σ H s)(y:H l=cz (.lst xs))
 (e:s.heap.get? l=cz {cls:=.type "list",data:=.seq its.toArray n}) (O:f its.toArray=its'.toArray) (Q:eo ys its') (hz:ys.length<=eB):
 Inv X pins σ (upd H l<|.lst ys) {s with heap:=s.heap.update l<|US f,toks:=t'}:=by
 have q:=PySem.IsL.update e f;rw[O]at q;refine I.write (by rw[y];exact trivial) (.inl rfl) (λZ u U Y=>(Ur s.heap _<|Ue U).trans Y) (_,q) ?_;exact(hz,its',_,Q,q)
theorem Inv.Px(I:Inv X pins σ H s)(y:eo ys its)(hz:ys.length<=eB):
 Inv X pins σ (upd H s.heap.objs.size (.lst ys)) {s with heap:=s.heap.push {cls:=.type "list",data:=.seq its.toArray},toks:=t'}:=
 I.laid (λ_ _ q=>Tj _ q) (Tv _) (hz,its,0,y,Tw _ rfl)
theorem Inv.fresh(I:Inv X pins σ H s):H s.heap.objs.size=none:=I.eC.fresh<|Tv _
theorem Inv.rG(I:Inv X pins σ H s)(y:H l=cz (.lst xs)):xs.length<=eB/\∃its n,eo xs its/\xs.length=its.length/\s.heap.get? l=cz {cls:=.type "list",data:=.seq its.toArray n}:=by obtain⟨z,its,n,r,e⟩:=I.eC l _ y;exact(z,its,n,r,r.length,e)
theorem Vz(h:n<=eB):MZ n=cL:=by unfold MZ;exact decide_eq_false ()
end
section
variable{X:Cx}
def nW:V->List V->Hp->VK->Prop:=λx b H Q=>∃l a y,x=.ref l/\b=[y]/\H l=cz (.lst a)/\a.length<eB/\Q .d7 (upd H l<|.lst<|a++[y])
theorem zd5:NZ X "list.append" nW:=by intro b s k H x i v g Q I U Y h;obtain⟨l,j,y,rfl,rfl,O,f,q⟩:=h;cases U;obtain⟨u,rfl,Z⟩:=Y.one;obtain⟨z,a,n,r,d,e⟩:=I.rG O;refine sR F.slot_list_append (_,e,rfl) F.entry_list_append (F.args_list_append_2 _ _) (PySem.list_append l a.toArray n u (by rw[TK];lia)) (e,?_);refine(.d7,_,I.uZ O e () (r.append (.cons Z .nil)) ?_,rfl,q);rw[UD,C9];lia
def EK:V->List V->Hp->VK->Prop:=λx d H Q=>∃l b a y,x=.ref l/\d=[.ref b]/\H l=cz (.lst a)/\H b=cz (.lst y)/\a.length+y.length<=eB/\Q .d7 (upd H l<|.lst<|a++y)
theorem zd2:NZ X "list.extend" EK:=by
 intro f s J H x B v A Q I U Y h;obtain⟨l,b,C,G,rfl,rfl,O,Z,w,q⟩:=h;cases U;obtain⟨u,rfl,o⟩:=Y.one;cases o;refine Tf λj=>?_;obtain⟨z,a,n,r,t,e⟩:=I.rG O;obtain⟨E,y,k,m,p,i⟩:=I.rG Z;refine j ?_;have d:a.toArray.size+y.toArray.size<=eB:=by rw[TK,TK];lia
 have g:¬(!a.toArray.isEmpty&&MZ (a.toArray.size+y.toArray.size))=cC:=by rw[Vz d,Bool.and_false];exact Uk
 refine sR F.slot_list_extend (_,e,rfl) F.entry_list_extend (F.args_list_extend_2 _ _)
  (AutoSeq1.list_extend_list_list_0 l a.toArray n b y.toArray k g () ()) (e,i,?_)
 refine(.d7,_,I.uZ O e () (r.append m) ?_,rfl,q);rw[UD];lia
def Sz:R2:=λx y H Q=>∃l k a,x=.ref l/\y=.int k/\H l=cz (.lst a)/\ -(2^63)<=k/\k<2^63/\a.length*k.toNat<=eB/\
 ∀p,H p=none->Q (.ref p) (upd H p<|.lst (Tq k.toNat a).flatten)
theorem cn(xs:List α)(k:Nat):(Tq k xs).flatten.length=k*xs.length:=by simp_all
theorem LA:ix X (rV .Mult) Sz:=by
 intro f s L H x y v u Q I O U h;obtain⟨l,k,K,rfl,rfl,Y,Z,A,d,q⟩:=h;cases O;obtain⟨t,rfl⟩:=U;obtain⟨z,b,n,r,B,e⟩:=I.rG Y;have g:b.toArray.size*k.toNat<=eB:=by rw[TK,<-B];exact d
 have i:¬b.toArray.size*k.toNat>(2^63-1)/8:=by
  have:eB<=(2^63-1)/8:=by decide
  lia
 have j:¬(!Builtin.List.listFitsIndex k)=cC:=by rw[fitsIndex_both Z A];exact Uk
 have o:¬MZ (b.toArray.size*k.toNat)=cC:=by rw[Vz g];exact Uk
 have p:List.foldl (λE G=>E++G) #[] (Tq (if b.toArray.isEmpty=cC then 0 else k.toNat) b.toArray)=(Tq k.toNat b).flatten.toArray:=by
  have w:=λm=>by have:=Km b m [];rw[Dj]at this;exact this
  rw[w];cases b with
  |nil=>simp
  |cons a J=>rfl
 refine zfR () (_,e,rfl) (λC=>NL C k t) noFill_list_mul F.fills_int_mul S8 repeat_list F.slot_int_index.lookup
  (sR S8 (NL s k t) F.entry_int_rmul (F.args_int_rmul_2 _ _) (int___rmul___int_list k t l b.toArray n)
    (e,rfl,(_,e,rfl),sR F.slot_list_mul (_,e,rfl) F.entry_list_mul (F.args_list_mul_2 _ _) (AutoListH.list___mul___list_int_3 l b.toArray n k t j i o) (e,?_)))
 rw[p];exact(.ref _,_,I.Px (r.rep k.toNat) (by rw[cn,vu];exact d),rfl,q _ I.fresh)
end
end L2
namespace Att
open PySem PySem.W PySem.Calls PyProof.Rows
theorem Kf:∀j vs,WellAll P h vs (j.map WData.int)->G9 vs j:=by
 intro j
 induction j with
 |nil=>
  intro vs w;rw[Nn]at w;cases w;exact .nil
 | cons n j y=>
  intro vs w;rw[UL]at w;cases w with
  |cons a b=>
   cases a;exact .cons _ _<|y _ b
theorem nB{l:OpenLaw}{n:Nat}(U:l.most=cz n){P:Params}{h:eK}{args:List WData}{I:List dj}
 (O:l.row.toRowW.claim.pre args=cC) (Y:WellAll P h I args):
 ∃a vs j,I=[uD a]/\args=[WData.list (j.map WData.int)]/\h.get? a=cz {cls:=.type "list",data:=.seq vs.toArray}/\G9 vs j/\j.length<=n:=by
 have Z:WShape.hasAll [] args [.list .int]=cC:=(pre_splitW O).1;have Q:l.pre.holds [] {args:=args}=cC:=(pre_splitW O).2;obtain⟨d,r,rfl,f,g⟩:=hasAllW_cons Z;obtain rfl:=hasAllW_nil g;obtain⟨s,rfl,i⟩:=hasW_list f;obtain⟨j,rfl⟩:=items_int i;have b:j.length<=n:=by
  unfold OpenLaw.pre at Q;have y:=by have y:=(holds_andW Q).1;rw[U]at y;exact y
  have p:=condW_of y<|w_not<|w_lt w_lit<|w_len_list<|w_arg rfl
  grind
 cases Y with
 |cons m o=>
  cases o;cases m with
  |list k e=>exact(_,_,j,rfl,rfl,k,Kf j _ e,b)
theorem ou(l:OpenLaw)(args:List WData):l.row.toRowW.claim.post args (.bool cC) args=cC:=
 postW_of
  (by rfl)
  (w_eq_bool (w_res rfl) w_lit) rfl
theorem GX{l:OpenLaw}{n:Nat}{q:hH}{Q:List Str}{U:(Str->Option dj)->eK->Prop}{Z:hB->eK->Prop}{d:DefRec}
 (S:l.most=cz n) (R:d.params.defaults=[])
 (call:∀w ow y B H z o P I j a vs E,
   Ground q Q [] U w ow B H y.heap->Z w y.heap->
   y.heap.get? z=cz o->o.data=.func (docDef d.name d.params d.body d.scope P I j)->y.heap.CodeRec I d.name->B d.name=cz (.ref z)->
   y.heap.get? a=cz {cls:=.type "list",data:=.seq vs.toArray}->G9 vs E->E.length<=n->y.gens = #[]->
   codeAny (d5 l.prog w) w9 (.call (.ref z) ([.ref a],[])) (λr O=>r=.ok (.ret<|.bool cC)/\OldK y.heap O.heap/\O.os=y.os/\uJ O.gens) y):
 WalkO q Q U Z l.row.toRowW d [] (λf vs=>PySem.call f vs):=by
 intro w ow y B H G Y z o P I j s kV J A g e h C b L as i M N k T;obtain rfl:s=.none:=Dflts.none e R;obtain rfl:kV=.none:=Dflts.noKw e;obtain⟨a,vs,E,rfl,rfl,m,p,ad⟩:=nB S i k;refine enter_call<|F8 (call w ow y B H z o P I j a vs E G Y J (fd_plain A) g h m p ad C) λr O K=>?_;obtain⟨rfl,t,u,x⟩:=K;exact(.inl (.bool cC,.bool cC,[],rfl,λ_=>rfl,.bool cC,ou l _,λ_=>(zbT.nil,λ_ F=>(nomatch F))),t,u,x)
end Att
namespace L2
open PySem PySem.Spec PyProof.Rows
theorem mF{vs:List dj}{j:List Int}(h:G9 vs j):eo (j.map V.int) vs:=by
 induction h with
 |nil=>exact .nil
 |cons n t h y=>exact .cons (t,rfl) y
def Oc(H:Hp):Prop:=∀b,H b=none\/∃o a,H b=cz (.r8 o<|.lst a)
theorem Av{P:hH}{w:hB}{K:Ti}{j S:DX}{CX:sf}{k:Nat}{E a:di}{fd:pv}{x:Str}{sp:Sp}{y:el}{vs:List dj}{B:List Int}
 (Z:K.In y.heap) (a0:y.heap.Ns qy j) (I:y.heap.Ns U3 S) (a6:∀x:Str,x ≠ "__name__"->S x=sV x) (a7:y.heap.NoLimit) (hg:y.gens = #[])
 (R:y.heap.get? a=cz {cls:=.type "list",data:=.seq vs.toArray}) (hi:G9 vs B) (hl:B.length<=eB) (hr:k0 k w9)
 (F:∀base,K.In base->base.Ns qy j->kA P w K j base CX k E fd [x] sp) (ab:∀s u,G7 s fd ([u],[]) [(x,u)])
 (ac:∀H,Oc H->gg K H a (B.map V.int)->sp [.ref a] H (λv _=>v=.bl cC) λ_ _ _=>False)
 (ad:∀H e O,CX [] H y (λ_ _ _=>False) e O->False):
 codeAny (d5 P w) w9 (.call (.ref E) ([.ref a],[])) (λr O=>r=.ok (.ret<|.bool cC)/\OldK y.heap O.heap/\O.os=y.os/\uJ O.gens) y:=by
 have A:=mF hi;have C:=hi.length;have n:∀H,Oc H->gg K H a (B.map V.int)->lp P w H y.heap->(∀b,H b≠none->b=a)->(H a≠none->K.lookup a=none)->
  codeAny (d5 P w) w9 (.call (.ref E) ([.ref a],[])) (λr O=>r=.ok (.ret<|.bool cC)/\OldK y.heap O.heap/\O.os=y.os/\uJ O.gens) y:=by
  intro H t W i hA hK;have f:∀{b:di} {o:lU},_=cz o->H b=none->(Hu y.heap H).get? b=cz o:=AJ;have al:∀{b:di} {o:lU} {l:Array DictEntry} {Q:Nat},y.heap.get? b=cz o->o.data=.dict l Q->H b=none:=λ{b o l Q} e d=>by grind
  have U:∀{b:di} {m:DX},y.heap.Ns b m->(Hu y.heap H).Ns b m:=λ{b m} (o,l,Q,e,d,r)=>(o,l,Q,f e<|al e d,d,r);have p:=λb o e=>f (Z b o e) (by
   grind)
  have T:Mod K j _:=(p,U a0,(S,U I,a6),let (X,M,N):=a7;(X,U M,N));have J:sh P w K j _ w9 [] y H:=(rfl,T,λb o e=>FD e,NN<|zd1 _ _,trivial,λb I=>absurd (show b∈([])from I) (),i,.of_eq hg);refine F8 ((F _ p<|U a0).run w9 [] y H _ [.ref a] [.ref a] _ _ hr J (ab y<|.ref a) (.cons rfl .nil) (ac H t W)) λr O h=>?_;cases r with
  |error e=>exact(ad H e O h).elim
  | ok L=>
   cases L with
   |next=>exact Dm h
   |brk=>exact Dm h
   |cont=>exact Dm h
   | ret u=>
    obtain⟨v,H',os,g,un,G,r',q⟩:=h;have q':=q;subst q';obtain rfl:u=Value.bool cC:=r';refine(rfl,OldK.of_keep λb o e=>?_,os,g);cases q:H b with
    |none=>exact un.keep b o e q (by intro z;exact absurd (show b∈([])from z) ()) ()
    | some u=>
     rcases t b with z|⟨ob,xs,z⟩
     .lia
     .have z2:=un.uW b ob _ z
      obtain⟨e1,_⟩:=i b _ z;obtain⟨e2,_⟩:=G b _ z2;lia
 cases hk:K.lookup a with
 |some o=>
  have e:=Z a o hk;rw[R]at e;cases e;refine n _ (λ_=>.inl rfl) (.inr (_,vs.toArray,_,hk,rfl,rfl,rfl,by rw[TK,C];exact hl,by simpa using A)) (λb u z=>by lia) (λb z=>absurd rfl z)<|absurd rfl
 | none=>
  refine n (λb=>if b=a then cz (.r8 {cls:=.type "list",data:=.seq vs.toArray} _)else none) (λb=>?_) (.inl (.inr (_,DZ rfl))) (λb u z=>?_) (λb z=>?_) λ_=>hk
  .by_cases I:b=a
   .exact .inr (_,_,DZ I)
   .exact .inl<|DJ I
  .by_cases I:b=a
   .have Y:=(DZ I).symm.trans z
    cases Y;subst I;exact(R,by rw[Ua];exact hl,vs,_,A,R)
   .have Y:=(DJ I).symm.trans z
    cases Y
  .by_cases I:b=a
   .exact I
   .exact absurd (DJ I) z
abbrev rh{K:Ti}{h:eK}(_:K.In h):Ti:=K
theorem CZ{l:PySem.W.OpenLaw}{n k:Nat}{q:hH}{U:List Str}{Z:(Str->Option dj)->eK->Prop}{I:hB->eK->Prop}{d:DefRec}{K:Params->Ti}{CX:hB->sf}{sp:hB->Sp}{x:Str}
 (hn:l.most=cz n) (P:n<=eB) (R:d.params.defaults=[]) (hr:k0 k w9)
 (hY:∀w h,I w h->(K w.params).In h)
 (F : ∀w j z h,(K w.params).In h->h.Ns qy j->j d.name=cz (.ref z)->
   ∃E,(∀s u,G7 s E ([u],[]) [(x,u)])/\
    ∀base,(K w.params).In base->base.Ns qy j->kA l.prog w (K w.params) j base (CX w) k z E [x] (sp w))
 (S:∀w H a (B:List Int),B.length<=n->Oc H->gg (K w.params) H a (B.map V.int)->sp w [.ref a] H (λv _=>v=.bl cC) λ_ _ _=>False)
 (a6:∀w H s e y,CX w [] H s (λ_ _ _=>False) e y->False):
 PySem.W.WalkO q U Z I l.row.toRowW d [] (λf vs=>PySem.call f vs):=by
 refine Att.GX hn R λw m i j mb z o pm cd A a vs B G Y ho hd X p r t O N=>?_;have Q:=hY w _ Y;obtain⟨E,M,C⟩:=F w j z _ Q G.T.g p;exact Av Q G.T.g G.T.b G.T.builtins G.T.nolimit N r t (TJ O P) hr C M (λH J L=>S w H a B O J L) λH e y=>a6 w H i e y
theorem Nm{l:PySem.W.OpenLaw}{n k:Nat}{q:hH}{O:List Str}{Q:(Str->Option dj)->eK->Prop}{I:hB->eK->Prop}{d:DefRec}{K:Params->Ti}{CX:sf}{sp:Ti->Sp}{x:Str}
 (U:l.most=cz n) (Y:n<=eB) (Z:d.params.defaults=[]) (hr:k0 k w9)
 (S:∀w h,I w h->(K w.params).In h)
 (F : ∀w j B h,(K w.params).In h->h.Ns qy j->j d.name=cz (.ref B)->
   ∃E,(∀s u,G7 s E ([u],[]) [(x,u)])/\
    ∀base,(K w.params).In base->base.Ns qy j->kA l.prog w (K w.params) j base CX k B E [x] (sp<|K w.params))
 (P:∀K H a (z:List Int),z.length<=n->Oc H->gg K H a (z.map V.int)->sp K [.ref a] H (λv _=>v=.bl cC) λ_ _ _=>False)
 (R:∀H s e y,CX [] H s (λ_ _ _=>False) e y->False):
 PySem.W.WalkO q O Q I l.row.toRowW d [] (λf vs=>PySem.call f vs):=
 CZ U Y Z hr S F (λw H a z b g i=>P (K w.params) H a z b g i) λ_ H s e y=>R H s e y
noncomputable def k8(s:h9):Arguments:=match s with
 |.FunctionDef _ a _ _ _ _ _ _ _ _=>a
 |_=>{posonlyargs:=[],args:=[],vararg:=none,kwonlyargs:=[],kw_defaults:=[],kwarg:=none,defaults:=[]}
noncomputable def qp(s:h9):List h9:=match s with
 |.FunctionDef _ _ b _ _ _ _ _ _ _=>b
 |_=>[]
noncomputable def jo(s:h9):h6:=match s with
 |.FunctionDef _ _ _ _ _ _ a _ _ _=>a
 |_=>{kind:=.function,names:=[],isGenerator:=cL,isCoroutine:=cL}
abbrev l7:sf:=λ_ _ _ _ _ _=>False
abbrev E0:XK:=λ_ _ _=>False
theorem WC:YO l7 X E0:=λ_ _ _ _ _ _ _ h=>h.elim
structure o6(K:Ti)(x qual:Str)(st:h9)(f:di)(fd:pv):Prop where
 ex:∃(oc:dj) (od:Option di) (kV doc pm:dj) (an:Option di) (U5 ct:dj) (PM:Array (Option dj)),
  fd=rM x qual (k8 st) (qp st) (jo st) .none kV doc pm an U5 ct/\K.lookup f=cz (oc,od,.func fd,PM)/\Dl K U5 qual=cC
 kp:se K (.ref f)=cC
section
variable{P:hH}{w:hB}{K:Ti}{mg:DX}{base:eK}
theorem o6.ok{x qual:Str}{st:h9}{f:di}{z:pv}{N ps:List Str}{k:Nat}{sp:Sp}(F:o6 K x qual st f z)(S:Dq N ps (jo st))(len:∀vs H Q E,sp vs H Q E->vs.length=ps.length)
 (y:∀j A outer s H vs Q E,k0 k (A.deeper<|envOfC qual (jo st) s.heap.objs.size f j)->sp vs H Q E->
   ∃t,pg (GF l7 P w K mg base N qual (jo st) f j A outer s H E).DO (qp st) t/\t {nx:=λ_ B=>Q .d7 B,rt:=Q} (XA N vs) H):kA P w K mg base l7 (k+1) f z ps sp:=by
 obtain⟨g,i,kV,a,l,d,j,e,b,rfl,lk,I⟩:=F.ex;refine Pl lk I S len λA outer s H vs Q E O U=>?_;obtain⟨t,h,q⟩:=y j A outer s H vs Q E O U;exact(t,h.DO,q)
theorem o6.binds{x qual:Str}{st:h9}{f:di}{I:pv}{ps:List Str}(F:o6 K x qual st f I)
 (h:∀kV z E B j ct H,H.length=ps.length->B4 (rM x qual (k8 st) (qp st) (jo st) .none kV z E B j ct) (H,[])=pure (ps.zip H)):Binds K I ps []:=by
 obtain⟨b,d,kV,z,E,B,j,ct,a,rfl,lk,y⟩:=F.ex;exact .all<|h kV z E B j ct
theorem fQ{x qual:Str}{st:h9}{f:di}{I:dj}{O E:Option di}{B:Array (Option dj)}{kV z H j ct:dj}(l:K.lookup f=cz (I,O,.func<|rM x qual (k8 st) (qp st) (jo st) .none kV z H E j ct,B))
 (c:Dl K j qual=cC) (k:se K (.ref f)=cC):o6 K x qual st f (rM x qual (k8 st) (qp st) (jo st) .none kV z H E j ct):=((I,O,kV,z,H,E,j,ct,B,rfl,l,c),k)
end
def ft(H j:Hp):Prop:=∀b o,H b=cz o->j b=cz o
theorem ft.refl(H:Hp):ft H H:=λ_ _ h=>h
theorem ft.trans(a:ft H H1)(b:ft H1 H2):ft H H2:=λc o h=>b c o<|a c o h
theorem ft.free(e:ft H H')(h:H' l=Option.none):H l=Option.none:=by
 cases q:H l with
 |none=>rfl
 |some o=>
  rw[e l o q]at h;cases h
theorem ft.seq{K:Ti}{H j:Hp}{a:di}{xs:List V}(e:ft H j)(h:gg K H a xs):gg K j a xs:=by
 rcases h with(h|⟨o,h⟩)|h
 .exact .inl<|.inl<|e _ _ h
 .exact .inl<|.inr (o,e _ _ h)
 .exact .inr h
noncomputable def mq(cells:List (Str×di)):List (Str×sS)->List (Str×di)->List (Str×di)
 |[],acc=>acc
 |(n,k)::r,acc=>mq cells r<|if k==rL then (match cells.lookup n with|some c=>(n,c)::acc|none=>acc)else acc
theorem Zn(f:Str×sS->List (Str×di)->Sem (ForInStep<|List<|Str×di))
 (y:∀name kind I,f (name,kind) I=if kind==rL then (do let a<-cellOf env name;pure (.yield ((name,a)::I)))else pure (.yield I)):
 ∀names j,(∀n,(n,rL)∈names->∃c,env.cells.lookup n=cz c)->
  forIn names j f=(pure<|mq env.cells names j)
 |[],j,_=>by rfl
 | (n,k)::r,j,h=>by
  rw[Dk,y];have Q:=λm Y=>h m<|TN _ Y;unfold mq;by_cases O:(k==rL)=cC
  .have Z:=by simpa using O
   subst Z;obtain⟨c,U⟩:=h n Uh;have e:cellOf env n=pure c:=by unfold cellOf;rw[U]
   rw[e,U];exact Zn f y r _ Q
  .rw[DJ O,DJ O]
   exact Zn f y r j Q
theorem VY(h:∀n,(n,rL)∈scope.names->∃c,env.cells.lookup n=cz c):
 closureFor scope env=pure (mq env.cells scope.names []):=by
 simp only[closureFor];rw[Zn _ (λb a y=>by rfl) scope.names [] h];rfl
theorem zfN
 (y:Q {scope:=scope,locals:=s.heap.objs.size,globals:=globals,cells:=su (s.heap.objs.size+1) scope.names cl,qual:=qual,func:=none,code:=env.code,frame:=env.frame,builtins:=env.builtins}
   {s with heap:=x8 (s.heap.push {cls:=.type "dict",data:=.dict #[]}) scope.names}):
 wpAny M A (newFunctionEnv scope globals cl [] qual none .none (cz env)) Q E s:=by
 refine Th<|wpAny_alloc ?_;refine Th<|wpAny_layCells _ (λb a cells=>by rfl) _ _ _ _ ?_;rw[Ui ..];exact Th<|Ts<|Ts y
theorem fu:∀{names:List (Str×sS)} {j:List (Str×di)},(n,c)∈mq cells names j->(n,c)∈j\/((n,rL)∈names/\cells.lookup n=cz c)
 |[],j,h=>.inl h
 |(m,k)::r,j,h=>by
  unfold mq at h;rcases fu h with g|⟨y,I⟩
  .grind
  .exact .inr (TN _ y,I)
theorem X6:∀{names:List (Str×sS)} {j:List (Str×di)},((j.lookup n).isSome=cC\/((n,rL)∈names/\(cells.lookup n).isSome=cC))->((mq cells names j).lookup n).isSome=cC
 |[],j,h=>by
  rcases h with h|⟨h,_⟩
  .exact h
  grind
 | (m,k)::r,j,h=>by
  unfold mq;apply X6;by_cases O:(k==rL)=cC
  .rw[DZ O]
   have U:=by simpa using O
   subst U;cases e:cells.lookup m with
   | none=>
    rcases h with h|⟨y,I⟩
    .exact .inl h
    .rcases Tz.mp y with y|y
     .cases y;rw[e]at I;cases I
     .exact .inr (y,I)
   | some Y=>
    dsimp only;by_cases Q:n=m
    .subst Q;left;simp
    .rcases h with h|⟨y,I⟩
     .left;rw[vb];split<;>simp_all
     .rcases Tz.mp y with y|y
      .cases y;exact absurd rfl Q
      .exact .inr (y,I)
  .rw[DJ O]
   rcases h with h|⟨y,I⟩
   .exact .inl h
   .rcases Tz.mp y with y|y
    .cases y;exact absurd rfl O
    .exact .inr (y,I)
theorem yj:∀{names:List (Str×sS)} {k:Nat} {j:List (Str×di)},(n,c)∈su k names j->(n,c)∈j\/(k<=c/\(n,NH)∈names)
 |[],_,_,h=>.inl h
 | (m,kd)::r,k,j,h=>by
  unfold su at h;split at h
  .rename_i O
   have Q:=by simpa using O
   subst Q;rcases yj h with h|⟨I,y⟩
   .grind
   .exact .inr ((),TN _ y)
  .rcases yj h with h|⟨I,y⟩
   .exact .inl h
   .exact .inr (I,TN _ y)
theorem vZ:∀{names:List (Str×sS)} {k:Nat} {j:List (Str×di)},(∀p∈j,∀q∈j,p.2=q.2->p.1=q.1)->(∀p∈j,p.2<k)->
 ∀p∈su k names j,∀q∈su k names j,p.2=q.2->p.1=q.1
 |[],_,_,h,_=>h
 | (m,kd)::r,k,j,h,hl=>by
  unfold su;split
  .refine vZ (λp y q I e=>?_) (λp y=>?_)
   .rcases Tz.mp y with rfl|y<;>rcases Tz.mp I with rfl|I
    .rfl
    .exact absurd (e ▸ hl q I)<|UY _
    .exact absurd (e ▸ hl p y)<|UY _
    .exact h p y q I e
   .rcases Tz.mp y with rfl|y
    .exact sd _
    .exact UT<|hl p y
  .exact vZ h hl
theorem Kq:∀{names:List (Str×sS)} {h:eK} {j:List (Str×di)} {n:Str} {c:di},(n,c)∈su h.objs.size names j->(n,c)∈j\/(x8 h names).IsCell c none
 |[],_,_,_,_,y=>.inl y
 | (m,kd)::r,h,j,n,c,y=>by
  unfold su at y;unfold x8;split at y
  .rename_i I
   rw[DZ I];rw[((Ui ..).symm)]at y;rcases Kq y with y|y
   .rcases Tz.mp y with y|y
    .cases y
     have O:(h.push _).IsCell h.objs.size none:=({cls:=.type "cell",data:=.cell none},Tw _ rfl,rfl);exact .inr (O.keeps (Nv _ _))
    .exact .inl y
   .exact .inr y
  .rename_i I
   rw[DJ I];exact Kq y
theorem Zy{j:Type}{l:List (Str×j)}(z:(l.map (·.1)).Nodup):∀{n:Str} {a:j},(n,a)∈l->l.lookup n=cz a:=by
 induction l with
 |nil=>grind
 |cons p r y=>
  grind
theorem ZM(scope:h6)(env:o5)(x:Str):(s8 scope env).names.lookup x =
 (scope.names.lookup x).map λk=>if (k==rL&&env.scope.kind ==.function&&env.kindOf x==cz .cell)then NH else k:=by
 unfold s8;dsimp only;generalize scope.names=l
 induction l with
 |nil=>rfl
 |cons p r y=>
  grind
def gk(scope:h6)(env:o5)(L:di):o5:=
 {scope:=s8 scope env,locals:=L,globals:=env.globals,cells:=su (L+1) scope.names<|mq env.cells scope.names [],qual:=env.qual,func:=none,code:=env.code,frame:=env.frame,builtins:=env.builtins}
def jV(X:Cx)(scope:h6)(y:List Str)(fp:List di)(j:el)(z:Hp):Cx:=
 {X with N:=y,ow:=j,Ds:=z,env:=gk scope X.env<|j.heap.objs.size+1,outer:=X.stack,stack:=X.stack,ex:=fp,fn:=λx=>scope.names.lookup x==cz .cell,pn:=[],xe:=λ_ _=>False}
structure rf(X:Cx)(scope:h6)(fr:List (Str×Nat)):Prop where
 kind:scope.kind=.function
 nd:(scope.names.map (·.1)).Nodup
 free:∀p∈scope.names,p.2=rL->X.env.kindOf p.1=cz .cell\/X.env.kindOf p.1=cz .free
 fr:∀p∈fr,scope.names.lookup p.1=cz .free/\X.N[p.2]? = cz p.1
noncomputable def uv(own:List Str)(j:List (Str×Nat))(z:St):St:=own.map (λ_=>none)++j.map λp=>(z[p.2]?).join
abbrev Hq:lU:={cls:=.type "list",data:=.seq #[]}
abbrev MJ:lU:={cls:=.type "dict",data:=.dict #[]}
theorem AF{j:TW}{scope:h6}{own:List Str}(I:Inv X j σ H2 s2)(ok:rf X scope fr)
 (B:∀b∈fp,Jg X j H2 b) (H:∀b∈fp,∃o,s2.heap.get? b=cz o):
 Inv (jV X scope (own++fr.map (·.1)) fp s2 H2) [] (uv own fr σ) (upd H2 s2.heap.objs.size<|.lst []) {s2 with heap:=x8 ((s2.heap.push Hq).push MJ) scope.names}:=by
 have z2:((s2.heap.push Hq).push MJ).objs.size=s2.heap.objs.size+2:=by simp_all
 have Y:∀n c,(n,c)∈mq X.env.cells scope.names []->_/\_:=λn c h=>(fu h).resolve_left ();have ac:∀n c,_=cz c->c<_:=λn c h=>by obtain⟨v,q⟩:=I.cell n c h;exact q.lt
 have a:∀x c,_=cz c->_\/(s2.heap.objs.size+2<=c/\(x,NH)∈scope.names):=λx c h=>by
  rcases yj (mem_of_lookup h)with h|h
  .exact .inl<|Y x c h
  .exact .inr h
 have ad:∀x,_∈scope.names->∃c,_/\_:=λx f=>by
  obtain⟨c,Z⟩:=I.ok.has x<|ok.free (x,.free) f rfl;have s:((mq X.env.cells scope.names []).lookup x).isSome=cC:=X6<|.inr (f,by rw[Z];rfl);obtain⟨F,C⟩:=D6.mp<|Ra scope.names (s2.heap.objs.size+2) _<|.inr s;refine(c,Z,?_);rcases a x F C with⟨_,q⟩|⟨_,q⟩
  .rw[Z]at q;cases q;exact C
  .exact absurd ((Zy ok.nd q).symm.trans (Zy ok.nd f)) ()
 have keep:∀b o,_=cz o->(x8 ((s2.heap.push Hq).push MJ) scope.names).get? b=cz o:=λb o e=>
  Nv _ _ b o (Tj _<|Tj _ e)
 have al:∀b∈fp,b<_:=λb O=>by obtain⟨o,e⟩:=H b O;exact TH e
 have E:∀c,_<c->(upd H2 s2.heap.objs.size<|.lst []) c=none:=λc Z=>by rw[zJ (q9 Z)];exact I.eC.fresh<|G4 Z
 obtain⟨m0,as⟩:∃m,(x8 _ scope.names).Ns _ m:=by have q:=(Heap.Ns.new (s2.heap.push Hq) (.type "dict")).keeps ((Nv scope.names _));rw[(Ui ..)]at q;exact(_,q)
 refine((I.ok.mod,ok.kind,I.ok.glob,I.ok.blt,uH _,λx y c s t=>(vZ (names:=scope.names) (λp Q q T e=>I.ok.inj p.1 q.1 p.2 (Y _ _ Q).2 (by rw[e];exact(Y _ _ T).2)) (λp Q=>by
  exact UT<|UT<|ac p.1 p.2 (Y p.1 p.2 Q).2)) (x,c) (mem_of_lookup s) (y,c) (mem_of_lookup t) rfl,λx f=>?_,λx c P h=>?_,I.ok.hd,I.ok.frames,.inl rfl,λb O=>(TU<|UT<|al b O,λx c h z=>?_),I.bs,TJ I.ok.sm I.sz,λb o e O=>?_,λb O W=>?_,I.stack,I.x_),
  rfl,I.bare,Un.laid keep (Tv _)<|I.eC.fresh<|Tv _,(m0,as,λi x v N U e3=>?_),λx c h=>?_,E _<|sd _,λx c h=>?_,λp Q=>absurd (show p∈([])from Q) (),?_,?_)
 .have l:(s8 scope X.env).names.lookup x=cz .cell\/(s8 scope X.env).names.lookup x=cz .free:=f
  have:scope.names.lookup x=cz .cell\/scope.names.lookup x=cz .free:=by
   rw[ZM]at l;cases e:scope.names.lookup x with
   |none=>rw[e]at l;simp at l
   |some k=>
    grind
  rcases this with h|h
  .exact D6.mp<|Ra scope.names _ _<|.inl h
  .obtain⟨c,_,t⟩:=ad x<|mem_of_lookup h;exact(c,t)
 .have G:(scope.names.lookup x==cz .cell)=cC:=P
  rcases a x c h with⟨q,_⟩|⟨q,_⟩
  .exact absurd ((Zy ok.nd q).symm.trans (by simpa using G)) ()
  .exact TJ (TL _ 2) q
 .rcases a x c h with⟨_,q⟩|⟨q,_⟩
  .exact(B b O).2.2.2.2.1 x c q z
  .exact absurd (TC (al b O)<|TJ (TL _ 2)<|z ▸ q)<|UY _
 .rcases (B b O).2.2.2.1 with q|q
  .exact I.ok.DN b o e q
  .exact absurd (TC (TH e)<|TJ I.ok.sm q)<|UY _
 .rcases Tz.mp (I.PY b W)with q|q
  .exact(B b O).2.1 q
  .exact(B b O).2.2.1 q
 .by_cases r:i<own.length
  .unfold uv at U
   rw[ve (by simpa using r)]at U;simp[UE,r]at U
  .have R:∃p,fr[i-own.length]? = cz p/\p.1=x/\(σ[p.2]?).join=cz v:=by
    unfold uv at U;have d:(own++fr.map (·.1))[i]? = cz x:=N;rw[UO (),UE]at d;rw[UO (by simpa using r),UE,Ua]at U;cases q:fr[i-own.length]? with
    |none=>rw[q]at d;cases d
    |some p=>
     rw[q]at d U;exact(p,rfl,by simpa using d,by simpa using U)
   refine Tf λw=>?_;obtain⟨p,Q,J,g⟩:=R;obtain⟨g1,g2⟩:=ok.fr p<|UR Q;refine w ?_;rw[J]at g1 g2;have K:=ok.free (x,.free) (mem_of_lookup g1) rfl;obtain⟨m,hn,S⟩:=I.loc;obtain⟨u,ru,lk⟩:=S p.2 x v g2 (by
    cases q:σ[p.2]? with
    |none=>rw[q]at g;cases g
    |some o=>rw[q]at g;simpa using g) (by rcases K with k|k;exact .inr<|.inl k;exact .inr<|.inr k)
   refine(u,ru,.inr ?_);refine Tf λw=>?_;obtain⟨c,bd,L⟩:=ad x<|mem_of_lookup g1;refine w ?_;have M:s2.heap.IsCell c (cz u):=by
    rcases lk with⟨k,_⟩|⟨_,F,e,z⟩
    .lia
    lia
   refine(?_,c,L,M.keeps keep);show(s8 scope X.env).names.lookup x=cz .cell\/(s8 scope X.env).names.lookup x=cz .free;rw[ZM,g1];dsimp only[NS];split
   .exact .inl rfl
   .exact .inr rfl
 .rcases yj (mem_of_lookup h)with q|q
  .obtain⟨v,A⟩:=I.cell x c (Y x c q).2
   exact(v,A.keeps keep)
  .rcases Kq (by rw[z2];exact(mem_of_lookup h))with q4|q4
   .obtain⟨v,A⟩:=I.cell x c (Y x c q4).2
    exact(v,A.keeps keep)
   .exact(none,q4)
 .rcases a x c h with⟨_,q⟩|⟨q,_⟩
  .rw[zJ (TU<|ac x c q)];exact I.sF x c q
  .exact E c<|TC (UT<|sd _) q
 .refine I.eC.laid keep (Tv _) (UU _,[],0,.nil,?_)
  exact Nv _ _ _ _<|Tj _<|Tw _ rfl
 .show(uv own fr σ).length=(own++fr.map (·.1)).length
  simp[uv]
theorem ZG(I:Nat->el->Prop)
 (j : ∀n s,I n s->wpAny (d5 prog w) A (sa it) (λr y=>match r with
   |none=>R (.ok .next) y
   | some v=>wpAny (d5 prog w) A (IB target it v) (λ_ y=>wpAny (d5 prog w) A (tZ target env v) (λ_ Q=>
    wpAny (d5 prog w) A (forIn ifs cC λc r=>if r=cC then do let ok<-xv c env (dy c env);pure (RV ok)else pure (RV r)) (λok O=>
     if ok=cC then wpAny (d5 prog w) A (dy elt env) (λx U=>
      wpAny (d5 prog w) A (call (.builtin "list.append") [acc,x]) (λ_ Y=>∃m,m<n/\I m Y) (λ_ _=>False) U) (λ_ _=>False) O
     else ∃m,m<n/\I m O) (λ_ _=>False) Q) (λ_ _=>False) y) (λ_ _=>False) y) (λ_ _=>False) s)
 (n:Nat) (h:I n s):
 codeAny (d5 prog w) A (.compLoop (.ListComp elt [(target,iter,ifs,0)] scope pos) 0 it acc env) R s:=by
 refine codeAny_loop rfl I (λn s i=>?_) n h;refine wpAny_noted ?_;rw[compTurn_list];refine Th<|S0<|Th<|rz (j n s i) (λr y Z=>?_) λ_ _ a=>a.elim;cases r with
 |none=>exact Ts Z
 | some v=>
  refine Th<|rz Z (λ_ k g=>?_) λ_ _ a=>a.elim;refine Th<|rz g (λ_ Q d=>Th<|rz d (λok O b=>?_) λ_ _ a=>a.elim) λ_ _ a=>a.elim;cases ok with
  |false=>exact Ts (rfl,b)
  |true=>
   exact Th<|Th<|rz b (λx U e=>Th<|rz e (λ_ Y f=>Ts<|Ts (rfl,f)) λ_ _ a=>a.elim) λ_ _ a=>a.elim
def Hy(X:Cx)(y:List d8)(t:TT):Prop:=
 ∀(a:TW) (s:el) (b:St) (H:Hp) (Q:Bool->Hp->Prop),Inv X a b H s->t b H Q->
  wpAny (d5 X.prog X.w) X.A (forIn y cC λc r=>if r=cC then do let ok<-xv c X.env (dy c X.env);pure (RV ok)else pure (RV r)) (TP X a b Q) X.xe s
noncomputable def Oj:TT:=λ_ H Q=>Q cC H
theorem Vm:Hy X [] Oj:=λ_ _ _ H _ I h=>wpAny_tests_nil (H,I,h)
theorem eO(h:PT X c t):Hy X [c] t:=λa s b H Q I y=>wpAny_tests_one<|h a s b H Q I y
def CW(J:It)(g:TG)(U:TT)(te:TE)(D:di)(Q:VK)(W:Nat->Nat->List V->St->Hp->Prop):Prop:=
 ∀i m a f H,W i m a f H->H D=cz (.lst a)/\((J.stop i H/\Q (.ref D) H)\/(J.go i H/\a.length<eB/\∀x e,J.uy i H x e->g x f e λy h=>U y h λb I=>
  if b=cC then te y I λv O=>O D=cz (.lst a)/\∃d,d<m/\W (i+1) d (a++[v]) y (upd O D<|.lst<|a++[v])else ∃d,d<m/\W (i+1) d a y I))
def Hj(X:Cx)(j:TW)(H:Hp)(L:di):Prop:=
 H L=none/\L≠X.env.locals/\X.ow.heap.objs.size<=L/\(∀x c,X.env.cells.lookup x=cz c->c≠L)/\∀p∈X.pn++j,p.1≠L
theorem Bc
 (hc:X.calm=cC) (I:Inv X pins σ H2 s2) (ok:rf X scope fr) (T:Turn X.prog X.w X.K tg J fp it tn) (st:tn 0 s2.heap) (Z:∀b∈fp,Jg X pins H2 b)
 (hg:PG (jV X scope (own++fr.map (·.1)) fp s2 H2) tg g) (ht:Hy (jV X scope (own++fr.map (·.1)) fp s2 H2) ifs tt) (he:PE (jV X scope (own++fr.map (·.1)) fp s2 H2) elt te)
 (hW:∀D,H2 D=none->∃W,(∃m,W 0 m [] (uv own fr σ) (upd H2 D<|.lst []))/\CW J g tt te D Q W):
 wpAny (d5 X.prog X.w) X.A (newList []) (λB H=>wpAny (d5 X.prog X.w) X.A (newFunctionEnv scope X.env.globals (mq X.env.cells scope.names []) [] X.env.qual none .none (cz X.env)) (λa9 P=>
  codeAny (d5 X.prog X.w) X.A (.compStart (.ListComp elt [(tg,iter,ifs,0)] scope pos) 0 (.ref it) B {a9 with scope:=s8 scope X.env})
   (λr U=>(∃f,r=.ok f)/\∃D j,B=.ref D/\Inv X pins σ j U/\Q (.ref D) j/\(∃m,U.heap.Ns a9.locals m)/\Hj X pins j a9.locals) P) E H) E s2:=by
 have as:∀b∈fp,∃o,_=cz o:=λb y=>by obtain⟨o,e,_⟩:=T.obj 0 _ st b y;exact(o,e)
 have N:=AF (own:=own) I ok Z as;refine Tf λY=>?_;obtain⟨W,⟨m0,w0⟩,cw⟩:=hW _ I.fresh;refine Y ?_;refine tr<|zfN ?_;rw[(Ui ..)];have ax:tn 0 (x8 ((s2.heap.push Hq).push MJ) scope.names):=T.keep 0 _ _ st λb _ o e=>Nv _ _ b o<|Tj _<|Tj _ e;have bu:∀b∈fp,b<_:=λb y=>by obtain⟨o,e⟩:=as b y;exact TH e
 have ab:∀{j:Hp},(∀b∈fp,j b=none)->∀b∈fp,Jg _ [] j b:=λhn b y=>
  (hn b y,(N.ok.HB b y).1,N.ok.DE b y,.inl y,(N.ok.HB b y).2,λp hp=>absurd (show p∈([])from hp) ())
 have b0:codeAny (d5 X.prog X.w) X.A (.compLoop (.ListComp elt [(tg,iter,ifs,0)] scope pos) 0 (.ref it) (.ref s2.heap.objs.size)<|gk scope X.env<|s2.heap.objs.size+1)
  (λr U=>(∃f,r=.ok f)/\∃D j,uD s2.heap.objs.size=.ref D/\Inv X pins σ j U/\Q (.ref D) j/\(∃m,U.heap.Ns (s2.heap.objs.size+1) m)/\Hj X pins j (s2.heap.objs.size+1)) {s2 with heap:=x8 ((s2.heap.push Hq).push MJ) scope.names}:=by
  refine ZG (λn U=>∃i t C j,Inv _ [] C j U/\tn i U.heap/\(∀b∈fp,j b=none)/\W i n t C j) ?_ m0
   (0,[],_,_,N,ax,λb y=>by rw[zJ (TU<|bu b y)];exact(Z b y).1,w0)
  rintro n s3 ⟨i,t,a,L,I3,b4,b5,w3⟩;obtain⟨hD,bv⟩:=cw i n t a L w3;rcases bv with⟨s,qn⟩|⟨go,hz,step⟩
  .refine ea (T.done (jV X scope _ fp s2 H2) rfl rfl rfl hc i [] s3 a L _ I3 (ab b5) b4 s) λr s4 O=>?_
   obtain⟨hr,k⟩:=O;subst hr;refine((_,rfl),_,L,rfl,I.A? k.os k.base k.eC k.bare<|λb y=>((Z b y).2.2.2.1,(Z b y).2.1,(Z b y).2.2.2.2.1,(Z b y).2.2.2.2.2),qn,?_,k.free,q9<|UT I.lt,RU I.sz,?_,?_)
   .obtain⟨m,hn,_⟩:=k.loc
    exact(m,hn)
   .intro x c e z
    obtain⟨v,q⟩:=I.cell x c e;exact absurd (UT q.lt) (by rw[z];exact UY _)
   .intro p hp z
    exact absurd (UT<|TH (I.pin p hp).1) (by rw[z];exact UY _)
  .refine ea (T.item (jV X scope _ fp s2 H2) rfl rfl rfl hc i [] s3 a L _ I3 (ab b5) b4 go) λr s4 O=>?_
   obtain⟨u,hr,h4⟩:=O;subst hr;refine ea h4 λ_ s5 O=>?_;refine Tf λY=>?_;obtain⟨x,H5,I5,r5,y5,ak,c6⟩:=O;refine Y ?_;refine ea (hg _ s5 a H5 x u _ (I5.pinned (ab c6)<|T.obj _ _ ak) r5<|step x H5 y5) λ_ s6 O=>?_;refine Tf λY=>?_;obtain⟨h,H6,I6,q6⟩:=O;refine Y ?_;refine ea (ht _ s6 h H6 _ I6 q6) λb zeE O=>?_;obtain⟨H7,R,q7⟩:=O;have after:∀{G:St} {M:Hp} {S:el},Inv (jV X scope (own++fr.map (·.1)) fp s2 H2) ([]++_) G M S->_/\∀b∈fp,M b=none:=λ{G M S} l=>by refine(T.keep _ _ _ ak λb y o e=>(l.pin (b,o)<|Uc _<|Uc _<|Zx y e).1,λb y=>?_);obtain⟨o,e,d⟩:=T.obj _ _ ak b y;exact(l.pin (b,o)<|Uc _<|Uc _<|Zx y e).2.1
   cases b with
   |false=>
    obtain⟨m',hm,w7⟩:=q7;exact(m',hm,i+1,t,h,H7,R.DY,(after R).1,(after R).2,w7)
   |true=>
    refine ea (he _ zeE h H7 _ R q7) λv8 S O=>?_;refine Tf λY=>?_;obtain⟨zf0,M,l,zeh,bd,m',hm,zfP⟩:=O;obtain⟨zhL,its,n8,rv,co,e8⟩:=l.rG bd;refine Y ?_;refine sR F.slot_list_append (_,e8,rfl) F.entry_list_append (F.args_list_append_2 _ _) (PySem.list_append _ its.toArray n8 v8<|by rw[TK];lia) (e8,?_);have I9:=l.uZ (f:=(·.push v8)) (t':=S.toks) bd e8 () (rv.append<|.cons zeh .nil) (by rw[UD,C9];lia);exact(m',hm,i+1,t++[zf0],h,_,I9.DY,(after I9).1,(after I9).2,zfP)
 exact codeAny_compStart_list b0<|T.self _ 0 _ _ _ ax b0
def mV(y:TI)(own:List Str)(j:List (Str×Nat))(g:TG)(I:TT)(te:TE):TE:=λb H Q=>y b H λJ a=>∀D,a D=none->
 ∃W:Nat->Nat->List V->St->Hp->Prop,(∃m,W 0 m [] (uv own j b) (upd a D<|.lst []))/\CW J g I te D Q W
section
theorem gj
 (Y:X.calm=cC) (ok:rf X scope fr) (S:PI X tg iter wi) (Z:∀fp z j,PG (jV X scope (own++fr.map (·.1)) fp z j) tg g)
 (ht:∀fp z j,Hy (jV X scope (own++fr.map (·.1)) fp z j) ifs tt) (P:∀fp z j,PE (jV X scope (own++fr.map (·.1)) fp z j) elt te)
 (I:Inv X pins σ H s) (h:mV wi own fr g tt te σ H Q)
 (hR:∀D B O L,Inv X pins σ B O->Q (.ref D) B->(∃m,O.heap.Ns L m)->Hj X pins B L->
   compPost (d5 X.prog X.w) X.A X.xe use R (.ref D) L (.ok .next) O)
 (hs:∀x,pj iter X.env x=pure x:=by intro _;rfl):
 wpAny (d5 X.prog X.w) X.A (comprehension (.ListComp elt [(tg,iter,ifs,0)] scope pos) scope X.env (firstIterPos [(tg,iter,ifs,0)] pos) (newList []) cL (dy iter X.env) use) R X.xe s:=by
 refine wpAny_comprehension_free rfl hs (VY λn U=>I.ok.has n<|ok.free (n,.free) U rfl) ok.kind (λx G e=>by rw[<-e];exact Zy ok.nd G) ?_;refine ea (S pins s σ H _ I h) λv W o=>ea o λM z p=>?_;refine Tf λK=>?_;obtain⟨N,fp,tn,J,j,e,b,T,d,f2,E⟩:=p;refine K ?_;subst e;refine ea (Bc Y b ok T d f2 (Z fp z j) (ht fp z j) (P fp z j) E) λk s3 t=>ea t λi s4 u=>F8 u λr O C=>?_;obtain⟨⟨f,F⟩,D,B,l,a,q,U,y⟩:=C;subst F;subst l;cases use<;>exact(hR D B O i.locals a q U y)
theorem bM(O:X.calm=cC)(ok:rf X scope fr)(B:PI X tg iter wi)(U:∀fp z j,PG (jV X scope (own++fr.map (·.1)) fp z j) tg g)
 (Y:∀fp z j,Hy (jV X scope (own++fr.map (·.1)) fp z j) ifs tt) (Z:∀fp z j,PE (jV X scope (own++fr.map (·.1)) fp z j) elt te)
 (hs:∀x,pj iter X.env x=pure x:=by intro _;rfl):
 PE X (.ListComp elt [(tg,iter,ifs,0)] scope pos) (mV wi own fr g tt te):=by
 intro a s u H Q I h;rw[eval_ListComp];refine gj O ok B U Y Z I h (λD b t L d q f y=>?_) hs;obtain⟨m,e⟩:=f;obtain⟨k,l,n,o,p⟩:=y;refine(m,e,λr i=>(.ref D,b,d.turned i.extBut k l (.inr n) o p,rfl,q))
theorem J6(Q:X.N.Nodup)(U:X.N[i]? = cz y)(Y:Loc X.env.scope y)(Z:X.fn y=cC\/X.env.scope.names.lookup y=cz .local)
 (B:X.calm=cC) (ok:rf X scope fr) (R:PI X tg iter wi) (P:∀fp z j,PG (jV X scope (own++fr.map (·.1)) fp z j) tg g)
 (S:∀fp z j,Hy (jV X scope (own++fr.map (·.1)) fp z j) ifs tt) (E:∀fp z j,PE (jV X scope (own++fr.map (·.1)) fp z j) elt te)
 (hs:∀x,pj iter X.env x=pure x:=by intro _;rfl):
 PS X (.Assign [.Name y py] (.ListComp elt [(tg,iter,ifs,0)] scope pos) spos) (gW (mV wi own fr g tt te)<|Zm i):=by
 have O:∃b,rH (.ListComp elt [(tg,iter,ifs,0)] scope pos) (cz (.Name y py)) spos.line X.env=pure b:=(_,rfl);obtain⟨b,O⟩:=O;cases b with
 |false=>
  have p:L5 [.Name y py] (.ListComp elt [(tg,iter,ifs,0)] scope pos) spos.line X.env=_:=rfl;exact eM (bM B ok R P S E hs) (oM Q U Y Z) (by rw[p];exact O)
 | true=>
  intro d s σ H D I h;rw[exec_Assign_Name_used _ _ _ _ O];refine Th<|S0<|Th ?_;refine Th<|ea (gj B ok R P S E I h (λk M A L l q u K=>?_) hs) λ_ A q=>Ts<|Ts q;refine Tf λw=>?_;obtain⟨F,f,G,y4,J⟩:=K;obtain⟨m,t⟩:=u;refine w ?_;refine zfQ<|Wo l Q U Y (v:=.ref k) rfl (λT n o=>?_) Z;obtain⟨a,C,r⟩:=o;refine(m,t.sameBut C (by
   rcases r with e|e
   .rw[e];exact f
   .exact Ue<|y4 _ _ e),λW as=>(_,_,n.turned as.extBut F f (.inr G) y4 J,q))
end
inductive Sk where
 |L|T
 deriving DecidableEq
end L2
namespace DL
open PySem L2
inductive D where
 |d7|bl (b:Bool)|int (i:Int)|str (x:Str)|tup (xs:List D)|lst (xs:List D)
 |mc (ks vs:List D)
 |lC (ks:List (List Int)) (vs:List D)
inductive Cell where
 |no|val (d:D)|own (ds:List D)|nest (rows:List (List D))
abbrev Ctx:=List Cell
abbrev CO (a : Type) := Ctx -> Option a
abbrev vI(n:Int):Cell:=.val (.int n)
noncomputable def lim:Nat:=2500
noncomputable def jI:D->Option (Sk×List D)
 |.tup a=>cz (.T,a)
 |.lst a=>cz (.L,a)
 |_=>none
def zH(f:CO D)(γ:Ctx):Option (Sk×List D):=(f γ).bind jI
noncomputable def jX(f:CO (List D))(γ:Ctx):Option D:=(f γ).map D.lst
noncomputable def qU(f:CO (List D))(γ:Ctx):Option (Sk×List D):=(f γ).map λa=>(Sk.L,a)
noncomputable def rW:Option Cell->Option D
 |some (.val d)=>cz d
 |_=>none
def Ja:Option Cell->Option (Sk×List D)
 |some (.val d)=>jI d
 |some (.own ds)=>cz (.L,ds)
 |_=>none
def zf(i:Nat)(γ:Ctx):Option D:=rW γ[i]?
def zm(i:Nat)(γ:Ctx):Option (Sk×List D):=Ja γ[i]?
noncomputable def vE(d:D):CO D:=λ_=>cz d
abbrev sI(n:Int):CO D:=vE (.int n)
noncomputable def zM(F:D->D->Option D)(j z:CO D)(γ:Ctx):Option D:=(j γ).bind λx=>(z γ).bind λy=>F x y
noncomputable def uO:D->Option Bool
 |.bl b=>cz b
 |_=>none
noncomputable def m4:D->Option Int
 |.int i=>cz i
 |_=>none
def sB(f:CO D)(γ:Ctx):Option Bool:=(f γ).bind uO
noncomputable def uh(f g:CO Bool)(γ:Ctx):Option Bool:=(f γ).bind λb=>if b=cC then g γ else cz cL
noncomputable def Oz(f g:CO Bool)(γ:Ctx):Option Bool:=(f γ).bind λb=>if b=cC then cz cC else g γ
noncomputable def XG(f:CO Bool)(γ:Ctx):Option Bool:=(f γ).map λb=> !b
def OB(f g:CO D)(γ:Ctx):Option D:=((f γ).bind uO).bind λb=>if b=cC then g γ else cz (.bl cL)
noncomputable def ig(c:CO Bool)(f g:CO D)(γ:Ctx):Option D:=(c γ).bind λb=>if b=cC then f γ else g γ
noncomputable def zD:CO (List D):=λ_=>cz []
noncomputable def zb(f:CO D)(g:CO (List D))(γ:Ctx):Option (List D):=(f γ).bind λx=>(g γ).map λr=>x::r
def qv(f:CO (List D))(γ:Ctx):Option D:=(f γ).bind λa=>if a.length<=lim then cz (.tup a)else none
def kO(f:CO (List D))(γ:Ctx):Option (List D):=(f γ).bind λa=>if a.length<=lim then cz a else none
inductive Res where
 |val (d:D)|own (ds:List D)
inductive Fl where
 |next (γ:Ctx)|brk (γ:Ctx)|cont (γ:Ctx)|ret (r:Res)
noncomputable def ye(γ:Ctx):Option Fl:=cz (.next γ)
noncomputable def zV(F G:CO Fl):CO Fl:=λb=>(F b).bind λy=>match y with
 |.next a=>G a
 |f=>cz f
noncomputable def qQ(f:CO D)(γ:Ctx):Option Fl:=(f γ).map λd=>.ret (.val d)
noncomputable def wN(f:CO (List D))(γ:Ctx):Option Fl:=(f γ).map λd=>.ret (.own d)
noncomputable def cW:Option Cell->Option Fl
 |some (.val d)=>cz (.ret<|.val d)
 |some (.own ds)=>cz (.ret<|.own ds)
 |_=>none
def Jk(i:Nat)(γ:Ctx):Option Fl:=cW γ[i]?
noncomputable def Iv(γ:Ctx):Option Fl:=cz (.cont γ)
noncomputable def Yf:CO Fl:=λ_=>none
noncomputable def mr(k:CO Bool)(F G:CO Fl)(γ:Ctx):Option Fl:=(k γ).bind λb=>if b=cC then F γ else G γ
noncomputable def jF(i:Nat)(f:CO D)(γ:Ctx):Option Fl:=(f γ).map λd=>.next (γ.set i<|.val d)
noncomputable def kN(i:Nat)(f:CO (List D))(γ:Ctx):Option Fl:=(f γ).map λa=>.next (γ.set i<|.own a)
noncomputable def KM(f:CO D)(γ:Ctx):Option Fl:=(f γ).map λ_=>.next γ
noncomputable def qZ:Option Cell->Option (List D)
 |some (.own ds)=>cz ds
 |_=>none
def qH(i:Nat)(f:CO D)(γ:Ctx):Option Fl:=(qZ γ[i]?).bind λa=>(f γ).bind λd=>if a.length<lim then cz (.next<|γ.set i<|.own<|a++[d])else none
noncomputable def jd(n:Nat)(ds:List D):Ctx:=ds.map Cell.val++Tq (n-ds.length) Cell.no
noncomputable def jA(n:Nat)(F:CO Fl)(ds:List D):Option Res:=(F<|jd n ds).bind λy=>match y with
 |.ret r=>cz r
 |.next _=>cz (.val .d7)
 |_=>none
noncomputable def mi:Res->D
 |.val d=>d
 |.own a=>.lst a
def zC(F:List D->Option Res)(g:CO (List D))(γ:Ctx):Option D:=(g γ).bind λa=>(F a).map mi
noncomputable def um:Res->Option (List D)
 |.own a=>cz a
 |_=>none
def jm(F:List D->Option Res)(g:CO (List D))(γ:Ctx):Option (List D):=(g γ).bind λa=>(F a).bind um
noncomputable def Jl(lo:Int)(n:Nat):List D:=(Tn n).map λ(i:Nat)=>D.int<|lo+(i:Int)
noncomputable def wC(ds es:List D):List D:=(ds.zip es).map λp=>D.tup [p.1,p.2]
noncomputable def z9(f:CO (Sk×List D))(γ:Ctx):Option (List D):=(f γ).map (·.2)
noncomputable def inR(i:Int):Bool:=decide<|i.natAbs<2^62
def jg(f:CO D)(γ:Ctx):Option (List D):=((f γ).bind m4).bind λn=>if inR n=cC then cz (Jl 0 n.toNat)else none
def wY(f g:CO D)(γ:Ctx):Option (List D):=((f γ).bind m4).bind λm=>((g γ).bind m4).bind λn=>if inR m=cC/\inR n=cC then cz (Jl m (n-m).toNat)else none
def KL(f g:CO D)(γ:Ctx):Option (List D):=((f γ).bind jI).bind λm=>((g γ).bind jI).map λn=>wC m.2 n.2
inductive Tg where
 |nm (i:Nat)|tp (is:List Nat)
noncomputable def kn:List Nat->List D->Ctx->Ctx
 |i::is,d::ds,γ=>kn is ds<|γ.set i<|.val d
 |_,_,γ=>γ
def k9:Tg->D->CO Ctx
 |.nm i,d,γ=>cz (γ.set i<|.val d)
 |.tp is,.tup ds,γ=>if ds.length=is.length then cz (kn is ds γ)else none
 |_,_,_=>none
def yD(T:Tg)(F:CO Fl):List D->CO Fl
 |[],a=>cz (.next a)
 |d::e,a=>(k9 T d a).bind λb=>(F b).bind λI=>match I with
  |.next y=>yD T F e y
  |.cont y=>yD T F e y
  |.brk y=>cz (.next y)
  |.ret r=>cz (.ret r)
def wU(j:CO (List D))(T:Tg)(F:CO Fl)(γ:Ctx):Option Fl:=(j γ).bind λa=>yD T F a γ
noncomputable def k6:Cell->Cell
 |.own _=>.no
 |.nest _=>.no
 |c=>c
def jq(n:Nat)(z:List Nat)(γ:Ctx):Ctx:=Tq n Cell.no++z.map λj=>k6<|γ[j]?.getD .no
def zQ(T:Tg)(k:CO Bool)(f:CO D)(γ:Ctx):List D->Option (List D)
 |[]=>cz []
 |d::ds=>(k9 T d γ).bind λa=>(k a).bind λb=>if b=cC then (f a).bind λe=>(zQ T k f γ ds).map λr=>e::r else zQ T k f γ ds
def zW(j:CO (List D))(T:Tg)(n:Nat)(z:List Nat)(k:CO Bool)(f:CO D)(γ:Ctx):Option (List D):=(j γ).bind λa=>if a.length<=lim then zQ T k f (jq n z γ) a else none
noncomputable def jB:CO Bool:=λ_=>cz cC
noncomputable def Tg.idx:Tg->List Nat
 |.nm i=>[i]
 |.tp is=>is
noncomputable def dI(g:Int->Int->D):D->D->Option D
 |.int i,.int j=>cz (g i j)
 |_,_=>none
noncomputable def DC(c:Int->Int->Bool)(g:Int->Int->D):D->D->Option D
 |.int i,.int j=>if c i j=cC then cz (g i j)else none
 |_,_=>none
def JC:D->D->Option D:=dI λi j=>.int (i-j)
noncomputable def YJ(i j:Int):Bool:=decide (i.natAbs<2^64) || decide (j.natAbs<2^64)
noncomputable def MO(_ j:Int):Bool:=decide (0<j)&&decide (j.natAbs<1073741824)
def K0:D->D->Option D:=DC MO λi j=>.int (i/j)
noncomputable def NO(_ j:Int):Bool:=decide<|0<j
def wb:D->D->Option D:=DC NO λi j=>.int (i%j)
noncomputable def MN(i j:Int):Bool:=decide (0<=j)&&decide (j.natAbs<=1000000)&&decide (i.natAbs<2^64)
def GD:D->D->Option D:=DC MN λi j=>.int (i^j.toNat)
def DD:D->D->Option D:=dI λi j=>.bl (decide<|i<j)
def xr:D->D->Option D:=dI λi j=>.bl (decide<|i<=j)
def t7:D->D->Option D:=dI λi j=>.bl (decide<|j<i)
def B7:D->D->Option D:=dI λi j=>.bl (decide<|j<=i)
def j6:D->D->Option D
 |.int i,.int j=>cz (.int<|i+j)
 |.tup xs,.tup ys=>if xs.length+ys.length<=lim then cz (.tup<|xs++ys)else none
 |_,_=>none
def yE:D->D->Option D
 |.int i,.int j=>if YJ i j=cC then cz (.int<|i*j)else none
 |.tup xs,.int j=>if xs.length*j.toNat<=lim/\inR j=cC then cz (.tup (Tq j.toNat xs).flatten)else none
 |_,_=>none
def bC(f g:CO (Sk×List D))(γ:Ctx):Option (List D):=(f γ).bind λa=>(g γ).bind λb=>
 match a.1,b.1 with
 |.L,.L=>if a.2.length+b.2.length<=lim then cz (a.2++b.2)else none
 |_,_=>none
def EE(f:CO (Sk×List D))(g:CO D)(γ:Ctx):Option (List D):=(f γ).bind λa=>((g γ).bind m4).bind λj=>
 match a.1 with
 |.L=>if a.2.length*j.toNat<=lim/\inR j=cC then cz (Tq j.toNat a.2).flatten else none
 |_=>none
noncomputable def hO(n:Nat)(i:Int):Option Nat:=if 0<=i/\i<n then cz i.toNat else if i<0/\0<=i+n then cz (i+n).toNat else none
def cI(f:CO (Sk×List D))(g:CO D)(γ:Ctx):Option D:=(f γ).bind λa=>((g γ).bind m4).bind λi=>(hO a.2.length i).bind λk=>a.2[k]?
def nF(i:Nat)(g f:CO D)(γ:Ctx):Option Fl:=(f γ).bind λd=>(qZ γ[i]?).bind λa=>((g γ).bind m4).bind λk=>(hO a.length k).map λj=>.next (γ.set i<|.own<|a.set j d)
noncomputable def cU(n dflt:Nat):Option Int->Nat
 |none=>dflt
 |some i=>if i<0 then (i+n).toNat else min i.toNat n
def gh(xs:List D)(lo j:Option Int):List D:=(xs.drop<|cU xs.length 0 lo).take (cU xs.length xs.length j-cU xs.length 0 lo)
noncomputable def aX:CO (Option Int):=λ_=>cz none
def n5(f:CO D)(γ:Ctx):Option (Option Int):=((f γ).bind m4).map cz
def V6(f:CO D)(l h:CO (Option Int))(γ:Ctx):Option D:=(f γ).bind λd=>(l γ).bind λlo=>(h γ).bind λa=>match d with
 |.tup b=>cz (.tup<|gh b lo a)
 |_=>none
noncomputable def JR(f:CO (Sk×List D))(γ:Ctx):Option D:=(f γ).map λa=>.int a.2.length
inductive Ty where
 |int|bool|str|tuple|list
 deriving DecidableEq
@[simp] noncomputable def Cv:D->Bool
 |.int _=>cC
 |.bl _=>cC
 |_=>cL
@[simp] noncomputable def Mt:D->Bool
 |.bl _=>cC
 |_=>cL
@[simp] noncomputable def Ct:D->Bool
 |.str _=>cC
 |_=>cL
@[simp] noncomputable def Cs:D->Bool
 |.tup _=>cC
 |_=>cL
@[simp] noncomputable def Cu:D->Bool
 |.lst _=>cC
 |_=>cL
def Ms:Ty->D->Bool
 |.int=>Cv
 |.bool=>Mt
 |.str=>Ct
 |.tuple=>Cs
 |.list=>Cu
def L1(T:Ty)(f:CO D)(γ:Ctx):Option D:=(f γ).map λd=>.bl (Ms T d)
@[simp] noncomputable def E?:D->Bool
 |.d7=>cC
 |_=>cL
@[simp] noncomputable def eqB(a:Bool):D->Bool
 |.bl b=>a==b
 |.int b=>(if a then 1 else 0)==b
 |_=>cL
@[simp] noncomputable def U7(a:Int):D->Bool
 |.bl b=>a==(if b then 1 else 0)
 |.int b=>a==b
 |_=>cL
@[simp] noncomputable def U8(a:Str):D->Bool
 |.str b=>a==b
 |_=>cL
@[simp] noncomputable def eqX(a:Str)(i:Option Int):D->Bool
 |_=>cL
mutual
def i0:D->D->Bool
 |.d7,y=>E? y
 |.bl a,y=>eqB a y
 |.int a,y=>U7 a y
 |.str a,y=>U8 a y
 |.tup xs,y=>match y with
  |.tup e=>pY xs e
  |_=>cL
 |.lst xs,y=>match y with
  |.lst e=>pY xs e
  |_=>cL
 |.mc a b,y=>match y with
  |.mc c d=>pY a c&&pY b d
  |_=>cL
 |.lC a b,y=>match y with
  |.lC c d=>a==c&&pY b d
  |_=>cL
def pY:List D->List D->Bool
 |[],[]=>cC
 |x::xs,y::ys=>i0 x y&&pY xs ys
 |_,_=>cL
end
mutual
def deep:D->Nat
 |.tup a=>r0 a+1
 |.lst a=>r0 a+1
 |_=>0
def r0:List D->Nat
 |[]=>0
 |x::xs=>max (deep x)<|r0 xs
end
mutual
def i9:D->Bool
 |.str x=>x.cps.all (· < 0x110000)
 |.mc _ _=>cL
 |.lC _ _=>cL
 |.tup a=>o4 a
 |.lst a=>o4 a
 |_=>cC
def o4:List D->Bool
 |[]=>cC
 |x::xs=>i9 x&&o4 xs
end
noncomputable def ml(d:D):Bool:=decide (deep d<=20)&&i9 d
def gB(x y:D):Option D:=if ml x=cC/\ml y=cC then cz (.bl<|i0 x y)else none
def m8(x y:D):Option D:=if ml x=cC/\ml y=cC then cz (.bl<|!i0 x y)else none
noncomputable def MK:D->D->Option D
 |x,.d7=>cz (.bl<|match x with|.d7=>cC|_=>cL)
 |_,_=>none
noncomputable def Kp:D->D->Option D
 |x,.d7=>cz (.bl<|match x with|.d7=>cL|_=>cC)
 |_,_=>none
noncomputable def jx(f:CO (Sk×List D))(γ:Ctx):Option D:=(f γ).map λa=>.tup a.2
noncomputable def Vb(f:CO (Sk×List D))(γ:Ctx):Option (List D):=(f γ).map λa=>a.2
noncomputable def gY:List D->Option Int
 |[]=>cz 0
 |.int i::r=>(gY r).map λs=>i+s
 |_::_=>none
def BI(f:CO (Sk×List D))(γ:Ctx):Option D:=(f γ).bind λa=>(gY a.2).map D.int
noncomputable def Of:D->Option Bool
 |.d7=>cz cL
 |.bl b=>cz b
 |.int i=>cz (i != 0)
 |_=>none
def gU:List D->Option (List Bool)
 |[]=>cz []
 |d::r=>(Of d).bind λb=>(gU r).map λs=>b::s
def Hm(f:CO (Sk×List D))(γ:Ctx):Option D:=(f γ).bind λa=>(gU a.2).map λs=>.bl (s.any id)
noncomputable def Vd(f:CO D)(γ:Ctx):Option D:=(f γ).bind λd=>match d with
 |.int i=>cz (.int i)
 |.bl b=>cz (.int<|if b then 1 else 0)
 |_=>none
def ue(f g:CO D)(γ:Ctx):Option D:=((f γ).bind m4).bind λi=>((g γ).bind m4).map λj=>.int (if j>i then j else i)
noncomputable def Iq(f:CO (Sk×List D))(γ:Ctx):Option Bool:=(f γ).map λa=> !a.2.isEmpty
def ud(f:CO D):CO D:=λa=>((f a).bind m4).map λi=>.int (-i)
def Yg(F G:D->D->Option D)(j B E:CO D):CO D:=λa=>(j a).bind λx=>(B a).bind λy=>((F x y).bind uO).bind λb=>if b=cC then (E a).bind λz=>G y z else cz (.bl cL)
def Wu(T:Tg)(f:CO D)(γ:Ctx):Option Fl:=(f γ).bind λd=>(k9 T d γ).map .next
end DL
namespace L2
open PySem PySem.Spec PyProof.Rows
def hG(k:Sk)(h:eK)(i l:di)(n:Nat):Prop:=match k with
 |.L=>h.IsListIter i l n
 |.T=>h.IsTupleIter i l n
def iN(k:Sk)(h:eK)(l:di)(xs:Array dj):Prop:=match k with
 |.L=>h.IsList l xs
 |.T=>h.IsTuple l xs
noncomputable def fy(k:Sk)(l:di):lU:=match k with
 |.L=>{cls:=.type "list_iterator",data:=.fields #[.ref l,.int 0 0]}
 |.T=>{cls:=.type "tuple_iterator",data:=.fields #[.ref l,.int 0 0]}
theorem hG.at(x:hG k h i l n)(e:∀o,h.get? i=cz o->h'.get? i=cz o):hG k h' i l n:=by cases k<;>exact let (o,y,r):=x;(o,e _ y,r)
theorem iN.at(x:iN k h l xs)(e:∀o,h.get? l=cz o->h'.get? l=cz o):iN k h' l xs:=by cases k<;>exact let (o,y,r):=x;(o,e _ y,r)
theorem hG.obj(x:hG k h i l n):∃o,h.get? i=cz o/\∀v,o.data ≠ .cell v:=by cases k<;>exact let (o,y,_,d):=x;(o,y,λv z=>by rw[d]at z;cases z)
theorem iN.lt(x:iN k h l xs):l<h.objs.size:=by cases k<;>exact let (o,y,_):=x;TH y
theorem ZN(k:Sk)(h:eK)(l:di):hG k (h.push<|fy k l) h.objs.size l 0:=by cases k<;>exact(_,Tw _ rfl,rfl,rfl)
section
variable{prog:hH}{w:hB}{A:l6}{E:EQ}{s:el}
theorem Ke(y:iN k s.heap l xs)(I:Q (.ref s.heap.objs.size) {s with heap:=s.heap.push (fy k l)}):wpAny (d5 prog w) A (LQ<|.ref l) Q E s:=by
 cases k
 .exact Rl y I
 .exact RX y I
theorem qN(O:hG k s.heap it l i)(U:iN k s.heap l items)(Y:items[i]? = cz x)
 (Z:∀h',hG k h' it l (i+1)->z4 it s.heap h'->Q x {s with heap:=h'}):wpAny (d5 prog w) A (P7<|.ref it) Q E s:=by
 cases k with
 |L=>exact wpAny_nextOf_list_item O U Y Z
 |T=>
  have I:=O;obtain⟨o,y,e,a⟩:=id I;obtain⟨g,b,_,f,d⟩:=(U);unfold P7;refine Th<|Ux I.typeIs Rp<|qj Rp I.typeIs D? ?_ (y? _);refine Th (m:=field (.ref it) 0)<|Uv y a (x:=.ref l) rfl ?_;refine Th<|Uv y a rfl ?_;refine Th<|nr b d ?_;simp only[zp,Y];exact Th<|wpAny_setField y a ()<|Ts (x,rfl,Ts<|Z _ (_,A5 _ y<|Obj.isFreed_of_fields<|V_ a _,(Obj.cls_mapFields ..).trans e,by rw[V_ a];rfl)<|P' ..)
theorem yY(y:A.handled=none)(U:hG k s.heap it l i)(Y:iN k s.heap l items)(Z:items[i]? = none)
 (hE:∀h' e,Heap.ExtBut it s.heap h'->(∃o,h'.get? e=cz o/\o.cls=.type "StopIteration")->E (.ref e) {s with heap:=h'}):wpAny (d5 prog w) A (P7 (.ref it)) Q E s:=by
 cases k with
 |L=>exact wpAny_nextOf_list_end y U Y Z hE
 |T=>
  have I:=U;obtain⟨o,O,f,a⟩:=id I;obtain⟨h,b,_,g,d⟩:=(Y);unfold P7;refine Th<|Ux I.typeIs Rp<|qj Rp I.typeIs D? ?_ (y? _);refine Th (m:=field (.ref it) 0)<|Uv O a (x:=.ref l) rfl ?_;refine Th<|Uv O a rfl ?_;refine Th<|nr b d ?_;simp only[zp,Z];refine Th<|sQ<|Th<|wpAny_setField O a () ?_;refine Th ?_;simp only[newExc,newTuple];refine Th<|tr ?_ (by size_fits);refine Th<|wpAny_of_eq (by rfl) ?_;refine tr ?_ (by size_fits);simp only[raiseNew];refine Th<|wpAny_handled ?_
  first|rw[y]|rw[y]
  exact Th<|Ts<|wpAny_throw<|hE _ _ (((P' ..).extBut.push _).push _) (_,Tw _ rfl,rfl)
theorem V7{k1 k2:Sk}{z TI TO j B H P:di}{R S:Nat}{xs ys:Array dj}{x y a b:dj}{Q:EQ}(D:tX z TI TO j B H P)
 (hz:pw s.heap z TI TO .none) (ax:ni s.heap TI (.ref j) (.ref B)) (b0:ni s.heap TO a b)
 (h1:hG k1 s.heap j H R) (h2:hG k2 s.heap B P S) (b3:iN k1 s.heap H xs) (b4:iN k2 s.heap P ys) (hx:xs[R]? = cz x) (hy:ys[S]? = cz y)
 (hQ:∀h',pw h' z TI TO (C2 s.heap.objs.size)->ni h' TO x y->hG k1 h' j H (R+1)->hG k2 h' B P (S+1)->ni h' s.heap.objs.size x y->h'.objs.size=s.heap.objs.size+1->
   (∀c o,c≠z->c≠TO->c≠j->c≠B->s.heap.get? c=cz o->h'.get? c=cz o)->Q (.ref s.heap.objs.size) {s with heap:=h'}):
 wpAny (d5 prog w) A (n6.«zip.__next__» ([.ref z],[])) (λb8 s'=>∃v,b8=.done (.ret v)/\Q v s') E s:=by
 refine Th (m:=field (.ref z) 2)<|Uv hz rfl (x:=.bool cL) rfl ?_;refine Th<|Uv hz rfl rfl ?_;refine Th<|nr ax rfl ?_;refine Th ?_;unfold UQ;refine Th<|Uv hz rfl rfl<|Ts ?_;simp only[if_true];refine Th<|sQ<|Th<|Uv hz rfl rfl ?_;refine Th<|UJ hz () λg1 n I=>?_;replace n:=n;refine Th ?_;simp only[R0,Rn,Dk,EC];refine Th<|Th<|uA ?_;refine Th<|qN (h1.at λo e=>I.extBut _ _ D.i1z e) (b3.at λo e=>I.extBut _ _ D.l1z e) hx λg2 T U=>Ts ?_;have J:=U.extBut _ _ D.TOi1<|I.extBut _ _ D.TOz b0;refine Th<|nr J rfl<|Th<|V' J λg3 p Y=>?_;replace p:=p;refine Th<|tw<|Ts<|Th<|Th<|uA ?_;refine Th<|qN (h2.at λo e=>Y.extBut _ _ D.TOi2.symm<|U.extBut _ _ D.i12.symm<|I.extBut _ _ D.i2z e) (b4.at λo e=>Y.extBut _ _ D.l2TO<|U.extBut _ _ D.l2i1<|I.extBut _ _ D.l2z e) hy λg4 W d=>Ts ?_;have K:=d.extBut _ _ D.TOi2 p;refine Th<|nr K rfl<|Th<|V' K λZ h f=>?_;replace h:ni Z TO x y:=h;refine Th<|tw<|Ts<|Ts<|Th<|nr h rfl<|Th<|GN ?_;have g:Z.objs.size=s.heap.objs.size:=by simp only[f.1,d.1,Y.1,U.1,I.1]
 have L:=f.extBut _ _ D.TOz.symm (d.extBut _ _ D.i2z.symm (Y.extBut _ _ D.TOz.symm (U.extBut _ _ D.i1z.symm n)));have M:=TH L;refine Th ?_;unfold I_;have X:pw (Z.push {cls:=.type "tuple",data:=.seq #[x,y]}) z TI TO .ellipsis:=Tj _ L;refine Th (UJ X () λg7 r t=>?_);replace r:pw g7 z TI TO (C2 Z.objs.size):=r;refine UJ r () λG i u=>?_;replace i:=i;have l c o:c≠z->Z.get? c=cz o->G.get? c=cz o:=λO e=>u.extBut _ _ O (t.extBut _ _ O (Tj _ e));have N:=u.extBut _ _ (q9 M) (t.extBut _ _ (q9 M) (Tw _ rfl));have as:G.objs.size=Z.objs.size+1:=by rw[u.1,t.1,Ui]
 rw[g]at i N as;refine Ts (_,rfl,?_);rw[g];exact hQ G i (l _ _ D.TOz h) ((T.at λo e=>f.extBut _ _ D.TOi1.symm<|d.extBut _ _ D.i12<|Y.extBut _ _ D.TOi1.symm e).at λo e=>l _ o D.i1z e) ((W.at λo e=>f.extBut _ _ D.TOi2.symm e).at λo e=>l _ o D.i2z e) N as λc o O k C F e=>l c o O<|(λc o O k C F e=>f.extBut _ _ k<|d.extBut _ _ F<|Y.extBut _ _ k<|U.extBut _ _ C<|I.extBut _ _ O e) c o O k C F e
theorem du{k1 k2:Sk}{z TI TO j B H P:di}{R n2:Nat}{xs ys:Array dj}{a b:dj}{Q:Fin->el->Prop}(hh:A.handled=none)(D:tX z TI TO j B H P)
 (hz:pw s.heap z TI TO .none) (ae:ni s.heap TI (.ref j) (.ref B)) (ak:ni s.heap TO a b)
 (h1:hG k1 s.heap j H R) (h2:hG k2 s.heap B P n2) (S:iN k1 s.heap H xs) (am:iN k2 s.heap P ys) (ax:xs[R]? = none\/ys[n2]? = none)
 (hE:∀h' e,(∀c o,c≠z->c≠TO->c≠j->c≠B->s.heap.get? c=cz o->h'.get? c=cz o)->(∃o,h'.get? e=cz o/\o.cls=.type "StopIteration")->E (.ref e) {s with heap:=h'}):
 wpAny (d5 prog w) A (n6.«zip.__next__» ([.ref z],[])) Q E s:=by
 refine Th (m:=field (.ref z) 2) (Uv hz rfl (x:=.bool cL) rfl ?_);refine Th (Uv hz rfl rfl ?_);refine Th (nr ae rfl ?_);refine Th ?_;unfold UQ;refine Th (Uv hz rfl rfl (Ts ?_));simp only[if_true];refine Th (sQ (Th (Uv hz rfl rfl ?_)));refine Th (UJ hz () λg1 h y=>?_);replace h:=h;refine Th ?_;simp only[R0,Rn,Dk,EC];refine Th (Th (uA ?_));have p:∀{g e:_} {U:lU},pw g z TI TO .ellipsis->(∀c o,c≠z->c≠TO->c≠j->c≠B->_=cz o->g.get? c=cz o)->g.get? e=cz U->U.cls=.type "StopIteration"->
  wpAny (d5 prog w) A (setField (.ref z) 0 .none) (λ_ t=>E (.ref e) t) E {s with heap:=g}:=λ{g e U} n hk Z d=>by
  exact UJ n () λg3 _ O=>hE g3 e (λc o Y i f k q=>O.extBut _ _ Y<|hk c o Y i f k q) (U,O.extBut _ _ (λq=>by lia) Z,d)
 cases hx:xs[R]? with
 |none=>
  refine Th<|yY hh (h1.at λo e=>y.extBut _ _ D.i1z e) (S.at λo e=>y.extBut _ _ D.l1z e) hx λg2 e I l=>?_;obtain⟨U,Z,d⟩:=l;exact p (I _ _ D.i1z.symm h) (λc o Y _ f _ q=>I _ _ f<|y.extBut _ _ Y q) Z d
 |some x=>
  refine Th<|qN (h1.at λo e=>y.extBut _ _ D.i1z e) (S.at λo e=>y.extBut _ _ D.l1z e) hx λg2 u I=>Ts ?_;have r:=I.extBut _ _ D.TOi1<|y.extBut _ _ D.TOz ak;refine Th<|nr r rfl<|Th<|V' r λg3 C O=>?_;refine Th<|tw<|Ts<|Th<|Th<|uA ?_;refine Th<|yY hh (h2.at λo e=>O.extBut _ _ D.TOi2.symm<|I.extBut _ _ D.i12.symm<|y.extBut _ _ D.i2z e) (am.at λo e=>O.extBut _ _ D.l2TO<|I.extBut _ _ D.l2i1<|y.extBut _ _ D.l2z e) () λF e ad l=>?_;obtain⟨U,Z,d⟩:=l;exact p (ad _ _ D.i2z.symm<|O.extBut _ _ D.TOz.symm<|I.extBut _ _ D.i1z.symm h) (λc o Y i f k q=>ad _ _ k<|O.extBut _ _ i<|I.extBut _ _ f<|y.extBut _ _ Y q) Z d
end
noncomputable def vS(a b:dj):lU:={cls:=.type "tuple",data:=.seq #[a,b]}
noncomputable def CS(TI TO:di):lU:={cls:=.type "zip",data:=.fields #[.none,.bool cL,.bool cL,.ref TI,.ref TO]}
def QS(k1 k2:Sk)(h:eK)(j z:di):eK:=
 TF (TF (TF (TF (TF h<|fy k1 j)<|fy k2 z)<|vS (.ref h.objs.size)<|.ref<|h.objs.size+1)<|vS .none .none) (CS (h.objs.size+2)<|h.objs.size+3)
theorem dr(k1 k2:Sk)(j z:di)(xs ys:Array dj):
 wo (n6.«zip.__new__» ([.type "zip",.ref j,.ref z],[])) (λ_ R s=>iN k1 s.heap j xs/\iN k2 s.heap z ys/\
  R (.ok<|.ret<|.ref<|s.heap.objs.size+4) {s with heap:=QS k1 k2 s.heap j z}):=
 .of_wp λa w A R s h=>by
  obtain⟨O,g,d,Q,os⟩:=s;obtain⟨y,I,h⟩:=h;have U:=sub_zip
  wp_walk using Ke y,Ke<|I.at λo e=>Tj _ e
  refine(_,rfl,?_);simp only[QS,vS,CS,Ui]at h ⊢;exact h
section
variable{X:Cx}{pins:TW}{σ:St}{H:Hp}{s:el}{h':eK}
theorem Inv.L9{t':Nat}{fp:List di}{a:di}{o:HO}(I:Inv X pins σ H s)(k:∀b u,b∉fp->s.heap.get? b=cz u->h'.get? b=cz u)(Q:∀b∈fp,Jg X pins H b)
 (Y:s.heap.objs.size<=a) (new:nj X.prog X.w (upd H a o) h' a o):Inv X pins σ (upd H a o) {s with heap:=h',toks:=t'}:=by
 have d:=I.eC.fresh Y;have Z b u:H b=cz u->b∉fp:=λe z=>by rw[(Q b z).1]at e;cases e
 refine I.step (λb y=>((Q b y).2.2.2.1,(Q b y).2.1,(Q b y).2.2.2.2.1,(Q b y).2.2.2.2.2)) (λb u _ _ O e _=>k b u O e) (λb u _ _ O e _=>(u.slots,k b u O e))
  (λb u _ e n=>by rw[zJ ((λb u e=>TU<|TC (TH e) Y) b u e)];exact n) (λb u O e=>(u,k b u O e)) (λb f e=>by rw[zJ (qA e d)];exact e) (λb U f e=>by rw[zJ (qA e d)];exact e)
  (λb l e=>(#[],by rw[zJ (qA e d),e];simp)) (λm i=>?_) (λb u e=>?_) I.bare
 .obtain⟨U,h,g,j,r⟩:=i
  refine(U,h,g,k _ U (λz=>(Q _ z).2.1 rfl) j,r)
 .by_cases y:b=a
  .subst y;rw[zF]at e;lia
  .rw[zJ y]at e
   refine(I.eC b u e).u4 (λc v O q=>k c v ?_ q) (λc q=>by rw[zJ (qA q d)];exact q) λc f q=>by rw[zJ (qA q d)];exact q
   rcases O with z|z
   .rw[z];exact Z b u e
   .exact Z c _ z
theorem Inv.ro{t':Nat}{fp:List di}(I:Inv X pins σ H s)(k:∀b u,b∉fp->s.heap.get? b=cz u->h'.get? b=cz u)(O:∀b∈fp,Jg X pins H b):Inv X pins σ H {s with heap:=h',toks:=t'}:=by
 have Y b u:H b=cz u->b∉fp:=λe z=>by rw[(O b z).1]at e;cases e
 refine I.step (λb Q=>((O b Q).2.2.2.1,(O b Q).2.1,(O b Q).2.2.2.2.1,(O b Q).2.2.2.2.2)) (λb u _ _ y e _=>k b u y e) (λb u _ _ y e _=>(u.slots,k b u y e))
  (λb u _ e n=>n) (λb u y e=>(u,k b u y e)) (λb a e=>e) (λb U a e=>e)
  (λb h e=>(#[],by rw[e];simp)) (λm Z=>?_) (λb u e=>?_) I.bare
 .obtain⟨U,f,d,g,r⟩:=Z
  refine(U,f,d,k _ U (λz=>(O _ z).2.1 rfl) g,r)
 .refine(I.eC b u e).u4 (λc v y q=>k c v ?_ q) (λc q=>q) λc a q=>q
  rcases y with z|z
  .rw[z];exact Y b u e
  .exact Y c _ z
end
def h5(k:Sk)(K:Ti)(H:Hp)(a:di)(xs:List V):Prop:=match k with
 |.L=>gg K H a xs
 |.T=>fA K H a xs
theorem Inv.sq(I:Inv X pins σ H s)(h:h5 k X.K H a xs):
 ∃its,eo xs its/\iN k s.heap a its.toArray/\xs.length<=eB:=by
 cases k with
 |L=>obtain⟨its,r,p,z⟩:=I.list h;exact(its,r,p.isList,z)
 |T=>obtain⟨its,r,p,z⟩:=I.tuple h;exact(its,r,p,z)
theorem Inv.C4(I:Inv X pins σ H s)(h:h5 k X.K H a xs)(h':h5 k X.K H a ys):xs=ys:=by
 cases k with
 |L=>exact I.Pw h h'
 |T=>exact I.D' h h'
def NY(k1 k2:Sk)(K:Ti)(a b:di):It:=
 (λi H=>∃d e,h5 k1 K H a d/\h5 k2 K H b e/\i<d.length/\i<e.length,
  λi H x f=>∃p u v,x=.ref p/\H p=none/\f=upd H p (.tup [u,v])/\(∀d,h5 k1 K H a d->d[i]? = cz u)/\(∀e,h5 k2 K H b e->e[i]? = cz v),
  λi H=>∃d e,h5 k1 K H a d/\h5 k2 K H b e/\(d.length<=i\/e.length<=i))
theorem zfj{P:hH}{w:hB}{K:Ti}{elts:List d8}{x1:Nat}{q5:f9}(k1 k2:Sk){z TI TO i1 i2 a b:di}(D:tX z TI TO i1 i2 a b):
 Turn P w K (.Tuple elts x1 q5) (NY k1 k2 K a b) [z,TI,TO,i1,i2] z (λi h=>pw h z TI TO .none/\ni h TI (.ref i1) (.ref i2)/\(∃c d,ni h TO c d)/\hG k1 h i1 a i/\hG k2 h i2 b i) where
 mem:=by simp
 obj:=λi h hZ y hy=>by
  obtain⟨hz,U,⟨c,d,Y⟩,Z,h2⟩:=hZ;simp only[Tz,TQ,or_false]at hy;rcases hy with rfl|rfl|rfl|rfl|rfl
  .exact(_,hz,λv q=>by cases q)
  .exact(_,U,λv q=>by cases q)
  .exact(_,Y,λv q=>by cases q)
  .exact Z.obj
  .exact h2.obj
 keep:=λi h h' (hz,U,(c,d,Y),Z,h2) k=>
  (k z () _ hz,k TI () _ U,(c,d,k TO () _ Y),Z.at λo e=>k i1 () o e,h2.at λo e=>k i2 () o e)
 item:=by
  rintro X hP hw hK hc i pins s σ H E I hf ⟨hz,U,⟨c,d,Y⟩,Z,h2⟩ ⟨xs,ys,ad,ae,b3,b4⟩;subst hP hw hK;obtain⟨b5,am,p1,z1⟩:=I.sq ad;obtain⟨b6,ap,p2,z2⟩:=I.sq ae;have hx:xs[i]? = cz xs[i]:=To b3;have hy:ys[i]? = cz ys[i]:=To b4;obtain⟨u1,b7,b8⟩:=am.get hx;obtain⟨u2,b9,bb⟩:=ap.get hy;have hT:s.TypeIs (.ref z) "zip":=(_,hz,rfl);unfold sa;refine Th (tq (Ux (name:=px "__next__") hT UZ (qj UZ hT z8
   (V7 D hz U Y Z h2 p1 p2 (x:=u1) (y:=u2) (by simpa using b7) (by simpa using b9) λg a1 a2 a3 a4 a5 a6 a7=>Ts (_,rfl,?_)) (zr _))))
  refine zfV a1 λg2 DG a8=>?_;have lt:∀{c o},s.heap.get? c=cz o->s.heap.objs.size≠c:=λe=>q9<|TH e;have bl:ni g2 s.heap.objs.size u1 u2:=a8.extBut _ _ (lt hz) a5;have kk Q u:Q ∉ [z,TI,TO,i1,i2]->s.heap.get? Q=cz u->g2.get? Q=cz u:=λO e=>by simp only[Tz,TQ,or_false,not_or]at O;exact a8.extBut _ _ O.1<|a7 Q u O.1 O.2.2.1 O.2.2.2.1 O.2.2.2.2 e
  have I1:Inv X pins σ (upd H s.heap.objs.size<|.tup [xs[i],ys[i]]) {s with heap:=g2,toks:=s.toks}:=
   I.L9 (fp:=[z,TI,TO,i1,i2]) kk hf (Tv _) (by show 2<=eB;decide,[u1,u2],.cons b8<|.cons bb .nil,(_,bl,rfl,_,rfl))
  have br:H s.heap.objs.size=none:=I.fresh;refine(.ref s.heap.objs.size,_,I1,rfl,(_,_,_,rfl,br,rfl,λc2 as=>by rw[I.C4 as ad];exact hx,λc3 as=>by rw[I.C4 as ae];exact hy),?_,λQ O=>?_)
  .exact(DG,a8.extBut _ _ D.TIz<|a7 _ _ D.TIz D.TITO D.TIi1 D.TIi2 U,(_,_,a8.extBut _ _ D.TOz a2),a3.at λo e=>a8.extBut _ _ D.i1z e,a4.at λo e=>a8.extBut _ _ D.i2z e)
  .have bt:Q≠s.heap.objs.size:=by
    simp only[Tz,TQ,or_false]at O;rcases O with rfl|rfl|rfl|rfl|rfl
    .exact(lt hz).symm
    .exact(lt U).symm
    .exact(lt Y).symm
    .obtain⟨o,e,_⟩:=Z.obj;exact(lt e).symm
    .obtain⟨o,e,_⟩:=h2.obj;exact(lt e).symm
   rw[zJ bt];exact(hf Q O).1
 done:=by
  rintro X hP hw hK hc i pins s σ H E I hf ⟨hz,U,⟨c,d,Y⟩,Z,h2⟩ ⟨xs,ys,ad,ae,hi⟩;subst hP hw hK;obtain⟨b5,am,p1,z1⟩:=I.sq ad;obtain⟨b6,ap,p2,z2⟩:=I.sq ae;have hT:s.TypeIs (.ref z) "zip":=(_,hz,rfl);have l1:=am.length;have l2:=ap.length;unfold sa;refine Th (tq (Ux (name:=px "__next__") hT UZ (qj UZ hT z8
   (du (show X.A.handled=none from I.ok.hd hc) D hz U Y Z h2 p1 p2 (by rcases hi with q|q;left;simp;lia;right;simp;lia) λg e hk he=>?_) (zr _))))
  obtain⟨o,ho,c0⟩:=he;refine Th (NF (T:="StopIteration") (b:=cC) (o,ho,c0) Nx (Ts (rfl,?_)));refine I.ro (t':=s.toks) (fp:=[z,TI,TO,i1,i2]) (λQ u O e=>?_) hf;simp only[Tz,TQ,or_false,not_or]at O;exact hk Q u O.1 O.2.2.1 O.2.2.2.1 O.2.2.2.2 e
 self:=λ_ _ _ _ _ st h=>ND st.1 h
def SJ(K:Ti)(j:TA):TI:=λk H R=>j k H λg d=>∃e f a b,g=[.ref a,.ref b]/\(∃h,h5 e K d a h)/\(∃i,h5 f K d b i)/\R (NY e f K a b) d
theorem Lh{X:Cx}{E y:d8}{S:TA}{p pos:f9}{z:List d8}{x1:Nat}{B:f9}(hg:Gl X "zip")(hm:X.mg "zip" = none)(ha:PA X [E,y] S)
 (hv:sV "zip" = cz (.type "zip")) (hs:ed [E,y] X.env=[(cL,dy E X.env),(cL,dy y X.env)]:=by rfl) (P:ed [y] X.env=[(cL,dy y X.env)]:=by rfl):
 PI X (.Tuple z x1 B) (.Call (.Name "zip" p) [E,y] [] pos) (SJ X.K S):=by
 intro j s C H R I h;refine tI (yc I hg hm hv<|Ut (ea (ha pos j s C H _ I h) λus d hZ=>?_) (by rw[hs,P])<|by rw[P];rfl);refine Tf λY=>?_;obtain⟨vs,k,O,r1,q1⟩:=hZ;obtain⟨f,g,a,b,e,⟨xs,J⟩,⟨ys,L⟩,q⟩:=q1;subst e;obtain⟨w1,w2,W,M,N⟩:=sZ r1;refine Y ?_;subst W;cases M;cases N;refine Tf λY=>?_;obtain⟨T,b3,t,z1⟩:=O.sq J;obtain⟨as,b4,u,z2⟩:=O.sq L;refine Y ?_;refine S5 F.called_zip () (F.typeCall_zip_2 _ _) (F.newCall_zip_2 _ _) (λobj=>F.args_object_init_3 obj _ _) F.entry_zip_new (dr f g a b T.toArray as.toArray) (t,u,?_);have w:(TF d.heap<|fy f a).objs.size=_:=Ui ..;have x:(TF (TF d.heap<|fy f a)<|fy g b).objs.size=d.heap.objs.size+2:=by rw[Ui,w]
 have A:(TF (TF (TF d.heap<|fy f a)<|fy g b)<|vS (.ref d.heap.objs.size)<|.ref<|d.heap.objs.size+1).objs.size=d.heap.objs.size+3:=by rw[Ui,x]
 have y4:(TF (TF (TF (TF d.heap<|fy f a)<|fy g b)<|vS (.ref d.heap.objs.size)<|.ref<|d.heap.objs.size+1)<|vS .none .none).objs.size=d.heap.objs.size+4:=by rw[Ui,A]
 have g0:hG f (QS f g d.heap a b) d.heap.objs.size a 0:=(ZN f d.heap a).at λo e=>Tj _<|Tj _<|Tj _<|Tj _ e;have g1:hG g (QS f g d.heap a b) (d.heap.objs.size+1) b 0:=by have q:=ZN g (TF d.heap<|fy f a) b;rw[w]at q;exact q.at λo e=>Tj _<|Tj _<|Tj _ e
 have g2:ni (QS f g d.heap a b) (d.heap.objs.size+2) (.ref d.heap.objs.size) (.ref<|d.heap.objs.size+1):=by have q:=Tw (TF (TF d.heap<|fy f a)<|fy g b) (o:=vS (.ref d.heap.objs.size)<|.ref<|d.heap.objs.size+1) rfl;rw[x]at q;exact Tj _<|Tj _ q
 have g3:ni (QS f g d.heap a b) (d.heap.objs.size+3) .none .none:=by have q:=Tw (TF (TF (TF d.heap<|fy f a)<|fy g b)<|vS (.ref d.heap.objs.size)<|.ref<|d.heap.objs.size+1) (o:=vS .none .none) rfl;rw[A]at q;exact Tj _ q
 have Z:=by have q:=Tw (TF (TF (TF (TF d.heap<|fy f a)<|fy g b)<|vS (.ref d.heap.objs.size)<|.ref<|d.heap.objs.size+1)<|vS .none .none) (o:=CS (d.heap.objs.size+2)<|d.heap.objs.size+3) rfl;rw[y4]at q;exact q
 refine((_,Z,rfl),ND Z ?_);have G:Inv X j C k {d with heap:=QS f g d.heap a b,toks:=d.toks}:=O.kept (λc o e=>
  Tj _ (Tj _<|Tj _<|Tj _<|Tj _ e))
 have Q:=λm=>TU<|TC t.lt<|TL _ m;have U:=λm=>TU<|TC u.lt<|TL _ m;have i m n:m≠n->(d.heap.objs.size+m)≠d.heap.objs.size+n:=λh=>by lia
 refine(_,[d.heap.objs.size+4,d.heap.objs.size+2,d.heap.objs.size+3,d.heap.objs.size,d.heap.objs.size+1],_,_,k,rfl,G,zfj f g (i 2 4 (),i 3 4 (),i 0 4 (),i 1 4 (),i 2 3 (),i 2 0 (),i 2 1 (),i 3 0 (),i 3 1 (),i 0 1 (),
  Q 4,Q 3,Q 0,Q 1,U 4,U 3,U 0,U 1),(Z,g2,(_,_,g3),g0,g1),λc r=>?_,q)
 have l:d.heap.objs.size<=c:=by
  simp only[Tz,TQ,or_false]at r;rcases r with rfl|rfl|rfl|rfl|rfl
  .exact TL _ _
  .exact TL _ _
  .exact TL _ _
  .exact Tv _
  .exact TL _ _
 exact O.r6 l<|O.eC.fresh l
def T6(k:Sk)(K:Ti)(a:di):It:=match k with
 |.L=>T7 K a
 |.T=>T8 K a
def SK(K:Ti)(j:TE):TI:=λe H R=>j e H λx b=>∃a k,x=.ref a/\(∃d,h5 k K b a d)/\R (T6 k K a) b
theorem oG(Q:PE X l tl):PI X tg l (SK X.K tl):=by
 intro d s n H R I h;refine ea (Q d s n H _ I h) λv m U=>?_;obtain⟨x,f,y,Y,Z⟩:=U;obtain⟨a,k,e,⟨u,i⟩,q⟩:=Z;subst e;cases Y;have O:∀b ∈ [m.heap.objs.size],Jg X d f b:=λb g=>by
  have e:=by simpa using g
  subst e;exact y.r6 (Tv _)<|y.eC.fresh<|Tv _
 obtain⟨j,t,p,r⟩:=y.sq i;cases k with
 |L=>exact Rl p (_,_,_,_,f,rfl,y.kept λb o e=>Tj _ e,mP a _,(_,Tw _ rfl,rfl,rfl),O,q)
 |T=>exact RX p (_,_,_,_,f,rfl,y.kept λb o e=>Tj _ e,gP a _,(_,Tw _ rfl,rfl,rfl),O,q)
end L2
namespace DL
open PySem PySem.Spec PyProof.Rows L2
noncomputable def gK(y:di)(b:Bool)(TI TO:di):lU:={cls:=.type "zip",dict:=none,data:=.fields #[C2 y,.bool b,.bool cL,.ref TI,.ref TO],slots:=#[]}
section
variable{prog:hH}{w:hB}{A:l6}{E:EQ}{s:el}
theorem V8{z y TI TO:di}{b:Bool}{O:lU}{Q:Bool->el->Prop}(hz:s.heap.get? z=cz (gK y b TI TO))(j:s.heap.get? y=cz O)
 (I:∀h',h'.get? z=cz (gK y cC TI TO)->z4 z s.heap h'->Q cL {s with heap:=h'}):wpAny (d5 prog w) A (UQ<|.ref z) Q E s:=by
 unfold UQ;refine Th<|Uv hz rfl rfl ?_;show wpAny _ _ (_ >>= _) _ _ _;rw[zp];refine Th<|PySem.W.kdx_alive j ?_;refine Th<|Uv hz rfl (x:=.bool b) rfl ?_;cases b with
 |true=>
  rw[DJ ()];exact Ts<|I _ hz (rfl,λ_ _=>rfl)
 |false=>
  rw[DZ ()];exact Th<|UJ hz () λg U a=>Ts<|I g U a
theorem mz{k1 k2:Sk}{z TI TO j B H P R:di}{b:Bool}{oa:lU}{S n2:Nat}{xs ys:Array dj}{x y:dj}{Q:EQ}(D:tX z TI TO j B H P)
 (hz:s.heap.get? z=cz (gK R b TI TO)) (ha:s.heap.get? R=cz oa) (a2:ni s.heap TI (.ref j) (.ref B))
 (h1:hG k1 s.heap j H S) (h2:hG k2 s.heap B P n2) (a5:iN k1 s.heap H xs) (a6:iN k2 s.heap P ys) (hx:xs[S]? = cz x) (hy:ys[n2]? = cz y)
 (hQ:∀h',h'.get? z=cz (gK R cC TI TO)->hG k1 h' j H (S+1)->hG k2 h' B P (n2+1)->ni h' s.heap.objs.size x y->h'.objs.size=s.heap.objs.size+1->
   (∀c o,c≠z->c≠j->c≠B->s.heap.get? c=cz o->h'.get? c=cz o)->Q (.ref s.heap.objs.size) {s with heap:=h'}):
 wpAny (d5 prog w) A (n6.«zip.__next__» ([.ref z],[])) (λab s'=>∃v,ab=.done (.ret v)/\Q v s') E s:=by
 refine Th (m:=field (.ref z) 2)<|Uv hz rfl (x:=.bool cL) rfl ?_;refine Th<|Uv hz rfl rfl ?_;refine Th<|nr a2 rfl ?_;refine Th<|V8 hz ha λg1 ad I=>?_;simp only[UN,if_false];simp only[show _=_ from rfl,U'];simp only[Dk,EC];refine Th<|Th<|Th ?_;refine Th<|qN (h1.at λo e=>I.extBut _ _ D.i1z e) (a5.at λo e=>I.extBut _ _ D.l1z e) hx λg2 a O=>Ts ?_;refine Ts<|Th<|Th<|q8 ?_;refine Th<|qN (h2.at λo e=>O.extBut _ _ D.i12.symm<|I.extBut _ _ D.i2z e) (a6.at λo e=>O.extBut _ _ D.l2i1<|I.extBut _ _ D.l2z e) hy λU d Y=>Ts ?_;refine Ts<|Ts ?_;have hsz:U.objs.size=s.heap.objs.size:=by rw[Y.1,O.1,I.1]
 refine Th (GN (hsz:=by show 2<=eB;decide) ?_);refine Ts (_,rfl,?_);rw[hsz];have Z c o:U.get? c=cz o->(U.push {cls:=.type "tuple",data:=.seq #[x,y]}).get? c=cz o:=λe=>Tj _ e;refine hQ _ (Z _ _ (Y.extBut _ _ D.i2z.symm (O.extBut _ _ D.i1z.symm ad))) ((a.at λo e=>Z _ o (Y.extBut _ _ D.i12 e))) (d.at (Z _)) ?_ ?_ λc o f g h e=>Z c o (Y.extBut _ _ h (O.extBut _ _ g (I.extBut _ _ f e)))
 .have:=Tw U (o:={cls:=.type "tuple",data:=.seq #[x,y]}) rfl
  rw[hsz]at this;exact this
 .rw[Ui,hsz]
theorem zeQ{k1 k2:Sk}{z TI TO j B H P Z:di}{b:Bool}{oa:lU}{R n2:Nat}{xs ys:Array dj}{Q:Fin->el->Prop}(hh:A.handled=none)(D:tX z TI TO j B H P)
 (hz:s.heap.get? z=cz (gK Z b TI TO)) (ha:s.heap.get? Z=cz oa) (a5:ni s.heap TI (.ref j) (.ref B))
 (h1:hG k1 s.heap j H R) (h2:hG k2 s.heap B P n2) (S:iN k1 s.heap H xs) (a7:iN k2 s.heap P ys) (ac:xs[R]? = none\/ys[n2]? = none)
 (hE:∀h' e,(∀c o,c≠z->c≠j->c≠B->s.heap.get? c=cz o->h'.get? c=cz o)->(∃o,h'.get? e=cz o/\o.cls=.type "StopIteration")->E (.ref e) {s with heap:=h'}):
 wpAny (d5 prog w) A (n6.«zip.__next__» ([.ref z],[])) Q E s:=by
 refine Th (m:=field (.ref z) 2)<|Uv hz rfl (x:=.bool cL) rfl ?_;refine Th<|Uv hz rfl rfl ?_;refine Th<|nr a5 rfl ?_;refine Th<|V8 hz ha λg1 f y=>?_;simp only[UN,if_false];simp only[show _=_ from rfl,U'];simp only[Dk,EC];refine Th<|Th<|Th ?_;cases hx:xs[R]? with
 |none=>
  exact Th<|yY hh (h1.at λo e=>y.extBut _ _ D.i1z e) (S.at λo e=>y.extBut _ _ D.l1z e) hx λg2 e I O=>hE g2 e (λc o U Y _ q=>I _ _ Y<|y.extBut _ _ U q) O
 |some x=>
  refine Th<|qN (h1.at λo e=>y.extBut _ _ D.i1z e) (S.at λo e=>y.extBut _ _ D.l1z e) hx λg2 g I=>Ts ?_;exact Ts<|Th<|Th<|q8<|Th<|yY hh (h2.at λo e=>I.extBut _ _ D.i12.symm<|y.extBut _ _ D.i2z e) (a7.at λo e=>I.extBut _ _ D.l2i1<|y.extBut _ _ D.l2z e) () λg3 e a O=>hE g3 e (λc o U Y d q=>a _ _ d<|I.extBut _ _ Y<|y.extBut _ _ U q) O
end
end DL
namespace L2
open PySem PySem.Spec PyProof.Rows
section
variable{κ:Type} [DecidableEq κ]
noncomputable def dC(j:List (κ×V))(k:κ):Option V:=(j.find? λy=>decide<|y.1=k).map (·.2)
noncomputable def mj(j:List (κ×V))(k:κ)(v:V):List (κ×V):=
 if (j.any λy=>decide<|y.1=k)=cC then j.map (λy=>if y.1=k then (y.1,v)else y)else j++[(k,v)]
theorem YS{p:κ×V}{r:List (κ×V)}{k:κ}(e:p.1=k):dC (p::r) k=cz p.2:=by simp[dC,y0,e]
theorem dB{p:κ×V}{r:List (κ×V)}{k:κ}(e:¬p.1=k):dC (p::r) k=dC r k:=by simp[dC,y0,e]
theorem Ka(j:List (κ×V))(k:κ)(v:V):(mj j k v).length<=j.length+1:=by
 unfold mj;split
 .rw[Ua];lia
 .simp only[UD,Up,UX];lia
theorem qi.b_(r:qi o u):o.isSome=u.isSome:=by
 cases o with
 |none=>cases u with
  |none=>rfl
  |some _=>exact(r).elim
 |some _=>cases u with
  |none=>exact(r).elim
  |some _=>rfl
theorem KV.val{j:List (κ×V)}(r:KV j vs)(k:κ):qi (dC j k) (D0 vs k):=by
 unfold KV at r
 induction r with
 |nil=>exact tE
 | @cons p q a y h t Q=>
  obtain⟨O,U⟩:=h;by_cases e:p.1=k
  .have I:=O.symm.trans e
   have b:D0 (q::y) k=cz q.2:=by simp[D0,y0,I]
   rw[YS e,b];exact U
  .have I:¬q.1=k:=λz=>e (O.trans z)
   have b:D0 (q::y) k=D0 y k:=by simp[D0,y0,I]
   rw[dB e,b];exact Q
theorem KV.any(r:KV md vs)(k:κ):(md.any λy=>decide<|y.1=k)=vs.any λy=>decide (y.1=k):=by
 unfold KV at r
 induction r with
 |nil=>rfl
 |cons h t I=>simp only[List.any_cons,List.any_cons,I,h.1]
theorem KV.zez(r:KV md vs)(k:κ)(Q:RelV y u):
 KV (md.map λI=>if I.1=k then (I.1,y)else I) (vs.map λI=>if I.1=k then (I.1,u)else I):=by
 unfold KV at r ⊢
 induction r with
 |nil=>exact .nil
 |@cons p q a U h t O=>
  refine .cons ?_ O;lia
theorem KV.put(r:KV md vs)(k:κ)(I:RelV y u):KV (mj md k y) (stored vs k u):=by
 unfold mj stored;rw[r.any k];by_cases e:(vs.any λO=>decide<|O.1=k)=cC
 .rw[DZ e,DZ e];exact r.zez k I
 .rw[DJ e,DJ e];exact Paired.snoc r (rfl,I)
theorem KV.length(r:KV md vs):md.length=vs.length:=Paired.length r
end
theorem Az(r:RelV (kV k) u):(k7 P w).is k u=cC:=by
 cases k with
 |inl i=>obtain⟨t,e⟩:=(r);subst e;exact cc P w i t
 |inr x=>obtain⟨t,e⟩:=(r);subst e;exact bZ P w x t
theorem W4:∀{j:List Key} {z:List dj},eo (j.map kV) z->ItemsAre (k7 P w) j z
 |[],_,r=>by rw[Nn]at r;cases r;exact .nil
 |k::j,_,r=>by
  rw[UL]at r;cases r with
  |cons h t=>exact .cons (Az h)<|W4 t
abbrev KT(H:Hp):List (List Key×V)->List (List Key×di×dj)->Prop:=Paired λp q=>p.1=q.1/\H q.2.1=cz (.tup (p.1.map kV))/\RelV p.2 q.2.2
theorem KT.val{j:List (List Key×V)}(r:KT H j xs)(k:List Key):qi (dC j k) ((rk xs k).map (·.2)):=by
 induction r with
 |nil=>exact tE
 | @cons p q a y h t Q=>
  obtain⟨O,_,U⟩:=h;by_cases e:p.1=k
  .have I:=O.symm.trans e
   have b:rk (q::y) k=cz q.2:=by simp[rk,y0,I]
   rw[YS e,b];exact U
  .have I:¬q.1=k:=λz=>e (O.trans z)
   have b:rk (q::y) k=rk y k:=by simp[rk,y0,I]
   rw[dB e,b];exact Q
section
theorem IG(ok:lp P w H h)(e:Rd H a u):nj P w H h a u:=e.ok ok
theorem AU(ok:lp P w H h)(e:Rd H a (.dK md)):md.length<=eB/\(a==uw)=cL/\∃vs,KV md vs/\h.DictOf (k7 P w) a vs:=
 IG ok e
theorem Pu(ok:lp P w H h)(e:H a=cz (.dK md)):md.length<=eB/\(a==uw)=cL/\∃vs,KV md vs/\h.DictOf (k7 P w) a vs:=AU ok<|.inl e
theorem pF(ok:lp P w H h)(e:H a=cz (.tup<|ks.map kV)):(C7<|k7 P w).is h ks a:=by obtain⟨_,b,r,o,y,I,n,O⟩:=(ok a _ e);exact(o,b.toArray,n,y,(Prod.mk.inj I).1,O,by simpa using W4 r)
theorem Gu(ok:lp P w H h)(e:Rd H a (.dT md)):md.length<=eB/\(a==uw)=cL/\
 ∃xs,KT H md xs/\h.DictOfH (C7<|k7 P w) a xs:=by
 refine Tf λQ=>?_;obtain⟨z,y,xs,r,o,b,U,Y,Z,d,f,g⟩:=(IG ok e);refine Q ?_;refine(z,y,xs,r,o,b,U,Y,Z,d,f,λx I=>?_,g);have all:∀{l:List _} {m:List _},KT H l m->∀x∈m,(C7<|k7 P w).is h x.1 x.2.1:=by
  intro l m q
  induction q with
  |nil=>intro x I;exact nomatch I
  | @cons p q j k O t i=>
   intro x I;rcases Tz.mp I with e|I
   .subst e
    exact pF ok (by rw[<-O.1];exact O.2.1)
   .exact i x I
 exact all r x I
end
def Nk(H:Hp)(a:di)(y:V)(r:Option V):Prop:=
 (∃d k,Rd H a (.dK d)/\y=kV k/\r=dC d k)\/∃d k b,Rd H a (.dT d)/\y=.ref b/\H b=cz (.tup<|k.map kV)/\r=dC d k
section
theorem Inv.big(I:Inv X pins σ H s):uw<s.heap.objs.size:=by have h:=(I.mod.glob.keeps I.bk).lt;exact NM () h
theorem zes(P:A.units+1<rZ)(I:Inv X pins σ H s)(g:Nk H a y (cz v))(j:RelV y u)(h:∀w' B,Inv X pins σ H B->RelV v w'->Q w' B):
 wpAny (d5 X.prog X.w) A (ub (.ref a) u) Q E s:=by
 rcases g with⟨f,k,e,O,l⟩|⟨f,k,b,e,O,m,l⟩
 .subst O
  obtain⟨z,n,r,U,Y⟩:=AU I.eC e;obtain⟨w',d,Z⟩:=qi.some_of (by rw[l];exact U.val k);exact wpAny_getItem_of (Az j) Y.mapOf d<|h w' _ (I.tok _) Z
 .subst O
  cases j;obtain⟨z,n,t,U,Y⟩:=Gu I.eC e;obtain⟨w',d,Z⟩:=qi.some_of (by rw[l];exact U.val k);obtain⟨p,o,i⟩:=Option.map_eq_some_iff.mp d;refine zfS (RY P) (pF I.eC m) Y o ?_;rw[i];exact h w' _ (I.tok _) Z
theorem SM(B:A.units+1<rZ)(I:Inv X pins σ H s)(g:Nk H a y o)(Z:RelV y u)(h:∀j,Inv X pins σ H j->Q (.bool o.isSome) j):
 wpAny (d5 X.prog X.w) A (m7 .In u<|.ref a) Q E s:=by
 rcases g with⟨f,k,e,O,l⟩|⟨f,k,b,e,O,i,l⟩
 .subst O
  obtain⟨z,d,m,U,Y⟩:=AU I.eC e;refine wpAny_in_of (Az Z) d Y.mapOf ?_;rw[<-(U.val k).b_,<-l];exact h _<|I.tok _
 .subst O
  cases Z;obtain⟨z,d,n,U,Y⟩:=Gu I.eC e;refine wpAny_in_heap (RY B) (pF I.eC i) d Y ?_;have q:=(U.val k).b_;rw[Option.isSome_map]at q;simp only[<-q,<-l];exact h _<|I.tok _
theorem GC(I:Inv X pins σ H s)(y:Dw (H a))(hs:z4 a s.heap h')(O:∃q,h'.get? a=cz q)(new:nj X.prog X.w (upd H a ob) h' a ob):
 Inv X pins σ (upd H a ob) {s with heap:=h',toks:=t'}:=
 I.write y (.inl rfl) (λb q Q z=>(hs.2 b Q).trans z) O new
theorem MH(z:md.length<=eB)(j:(a==uw)=cL)(y:KV md vs)(I:h'.DictOf (k7 P w) a vs):
 nj P w H' h' a (.dK md):=(z,j,vs,y,I)
end
def Od(i:d8):Prop:=∀y I,PZ i cL y I=operate [y,I] (ub y I)
theorem mW{prog:hH}{w:hB}{A:l6}{E:EQ}{s:el}{env:o5}{O y:d8}{pos:f9}{T id:String}{Q:EQ}
 (j:DU (.type T) "__getitem__" = pure (cz (.builtin id))) (hs:Od y)
 (h:wpAny (d5 prog w) A (dy O env) (λo Z=>wpAny (d5 prog w) A (dy y env) (λi I=>I.TypeIs o T/\wpAny (d5 prog w) A (ub o i) Q E I) E Z) E s):
 wpAny (d5 prog w) A (dy (.Subscript O y pos) env) Q E s:=by
 refine U0<|rz h (λo Z b=>rz b (λi I U=>?_) λ_ _ x=>x) λ_ _ x=>x;obtain⟨e,U⟩:=U;unfold subscriptTail;refine Th ?_;rw[getitemInPython_of_ne e.not_modules];refine Th<|wpAny_specialOf e j ?_;have Y:wpAny (d5 prog w) A (PZ y cL o i) (λr a=>wpAny (d5 prog w) A (letTemporaryGo O o r >>= λ_=>pure r) Q E a) E I:=by rw[hs o i];exact wpAny_operating<|rz U (λr a d=>Th<|wpAny_letTemporaryGo<|Ts d) λ_ _ x=>x
 first
  |exact Ts<|Th Y
  |exact Th<|Ts<|Th Y
  |exact Th Y
theorem cS(I:Inv X pins σ H s)(g:Nk H a y o):s.TypeIs (.ref a) "dict":=by
 rcases g with⟨d,k,e,_,_⟩|⟨d,k,b,e,_,_,_⟩
 .obtain⟨_,_,f,_,O⟩:=AU I.eC e
  exact O.typeIs
 .obtain⟨_,_,h,_,O⟩:=Gu I.eC e
  exact O.typeIs
noncomputable def Oq(I ty:TE):TE:=λd H Q=>I d H λx e=>ty d e λy b=>∃a v,x=.ref a/\Nk b a y (cz v)/\Q v b
noncomputable def Sv(ty I:TE):TE:=λd H Q=>ty d H λy e=>I d e λx b=>∃a o,x=.ref a/\Nk b a y o/\Q (.bl o.isSome) b
section
theorem Fk(U:X.A.units+1<rZ)(Y:PE X o td)(z:PE X i ty)(hs:Od i):PE X (.Subscript o i pos) (Oq td ty):=by intro b s d H Q I h;refine mW PySem.F.slot_dict_getitem.lookup hs<|ea (Y b s d H _ I h) ?_;rintro u r ⟨x,e,Z,n,l⟩;refine ea (z b r d e _ Z l) ?_;rintro t w ⟨y,f,O,p,a,v,rfl,g,m⟩;obtain rfl:u=uD a:=n;exact(cS O g,zes U O g p λC B j k=>(v,f,j,k,m))
theorem Ls(O:X.A.units+1<rZ)(z:PE X i ty)(U:PE X o td):PC X .In i o (Sv ty td):=by intro b s d H Q I h;refine ea (z b s d H _ I h) ?_;rintro t r ⟨y,e,Y,Z,m⟩;refine ea (U b r d e _ Y m) ?_;rintro u w ⟨x,f,j,p,a,l,rfl,g,n⟩;obtain rfl:u=uD a:=p;exact SM O j g Z λB k=>(.bl l.isSome,f,k,rfl,n)
end
theorem AV(h:eK)(y:uw<h.objs.size):nj P w H (h.push {cls:=.type "dict",data:=.dict #[]}) h.objs.size (.dK []):=
 (UU _,beq_eq_false_iff_ne.mpr<|Ue<|TU y,[],.nil,Heap.DictOf.new h)
end L2
namespace DL
open PySem PySem.Spec PyProof.Rows L2
noncomputable def P6:List Str:=["NoPrime","Nought","NoTable","NoWidths","NoRow","Unlike","TooMany","NoTurn","NoLine","Nothing","NoArrow","NoText","NoRoom"]
noncomputable def Nl(K:Ti)(c:Str):Option di:=match Ny K qy c with
 |some (cz (.ref C))=>cz C
 |_=>none
noncomputable def Sm(K:Ti)(C:di):Bool:=
 ["int","bool","str","tuple","list"].all (λt=>E8 K (.ref C) (.type t)==cz cL)&&E8 K (.ref C) (.type "ValueError")==cz cC&&
 UW K (.ref C) "__getattribute__" == cz (cz (.builtin "BaseException.__getattribute__"))&&UW K (.ref C) "__getattr__" == cz none&&
 UW K (.ref C) "__class__" == cz (cz (.builtin "object.__class__"))&&PySem.W.mroIn K C (.type "object")==cz cC&&PySem.W.mroIn K C (.type "BaseException")==cz cC&&
 PySem.W.specialIn K (.builtin "object.__class__") "__get__" == cz (cz (.builtin "getset_descriptor.__get__"))&&PySem.W.takesIn K (.builtin "object.__class__")==cz cC&&
 (PySem.W.clsIn K C).any (λy=> !y.hasDel)&&PySem.W.typeIn K (.ref C)==cz (.type "type")
def Sn(K:Ti):Bool:=match Nl K "SplitError" with
 | some S=>P6.all λc=>match Nl K c with
  |some C=>Sm K C&&E8 K (.ref C) (.ref S)==cz cC&&P6.all λy=>match Nl K y with
   |some I=>E8 K (.ref C) (.ref I)==cz (c==y)
   |none=>cL
  |none=>cL
 |none=>cL
def SS(h:eK)(a:di)(C:di):Prop:=∃o b,h.get? a=cz o/\o.cls=.ref C/\o.data=.fields b
structure Oa(K:Ti)(H:Hp)(c:Str)(n:Option Int)(a:di):Prop where
 all:Sn K=cC
 mem:c∈P6
 ex:∃C φ,Nl K c=cz C/\H a=cz (.ext φ)/\(∀h,φ h->SS h a C)/\
  match n with
  |none=>True
  |some i=>∃d,(∀h,φ h->∃o,h.get? a=cz o/\o.dict=cz d)/\H d=cz (.xd [(if c==("NoRoom" : Str)then "room" else "at",.int i)])
theorem Oa.mono{K:Ti}{H j:Hp}{c:Str}{n:Option Int}{a:di}(e:∀b o,H b=cz o->j b=cz o)(h:Oa K H c n a):Oa K j c n a:=by
 obtain⟨I,O,C,f,Q,g2,U,y⟩:=h;refine(I,O,C,f,Q,e _ _ g2,U,?_);cases n with
 |none=>exact y
 |some i=>obtain⟨d,Y,Z⟩:=y;exact(d,Y,e _ _ Z)
abbrev St:=L2.St
noncomputable def Ml:D->Option Key
 |.int i=>cz (.inl i)
 |.str x=>cz (.inr x)
 |_=>none
def fH:List D->Option (List Key)
 |[]=>cz []
 |d::ds=>(Ml d).bind λk=>(fH ds).map λr=>k::r
def NU(H:Hp)(a:di)(j:List D)(xs:List V):Prop:=∃y,fH j=cz y/\y.length=xs.length/\∃o,H a=cz (.r8 o<|.dK<|y.zip xs)
noncomputable def Og(k:List Int):Int:=reduceHash<|Builtin.Tuple.tupleHashOf<|k.map hashInt
def Hz(o:lU)(xs:List (List Int×di×dj)):Prop:=o.ExactDict/\∃a y,o.data=.dict a y/\a.toList=xs.map (λx=>(Og x.1,.ref x.2.1,x.2.2))/\(xs.map (·.1)).Nodup
noncomputable def t4(a:di)(o:lU):HO:=.ext λh=>h.get? a=cz o
def NV(K:Ti)(H:Hp)(a:di)(j:List (List Int))(ys:List V):Prop:=
 (a==uw)=cL/\∃o b,H a=cz (t4 a o)/\Hz o b/\b.map (·.1)=j/\b.length<=eB/\(∀x∈b,fA K H x.2.1<|x.1.map V.int)/\eo ys (b.map (·.2.2))
def uY(y I:V):List (Str×V):=Wy "table" I (Wy "p" y [])
theorem Pi(y I:V):(uY y I).lookup ("p" : Str)=cz y:=by rfl
theorem Ph(I y:V):(uY I y).lookup ("table" : Str)=cz y:=by rfl
theorem Pj(y I:V):(uY y I).lookup ("forth" : Str)=none:=by rfl
mutual
def Rep(K:Ti)(H:Hp):D->V->Prop
 |.d7,v=>v=.d7
 |.bl b,v=>v=.bl b
 |.int i,v=>v=.int i
 |.str x,v=>v=.str x
 |.tup ds,v=>∃a d,v=.ref a/\fA K H a d/\dn K H ds d
 |.lst ds,v=>∃a d,v=.ref a/\gg K H a d/\dn K H ds d
 |.mc ks vs,v=>∃a d,v=.ref a/\NU H a ks d/\dn K H vs d
 |.lC ks vs,v=>∃a d,v=.ref a/\NV K H a ks d/\dn K H vs d
def dn(K:Ti)(H:Hp):List D->List V->Prop
 |[],xs=>xs=[]
 |d::ds,xs=>∃x r,xs=x::r/\Rep K H d x/\dn K H ds r
end
theorem i7{K:Ti}{H j:Hp}{a:di}{xs:List V}(e:ft H j)(h:fA K H a xs):fA K j a xs:=by
 rcases h with(h|⟨o,h⟩)|h
 .exact .inl<|.inl<|e _ _ h
 .exact .inl<|.inr (o,e _ _ h)
 .exact .inr h
theorem kj{k:Sk}{K:Ti}{H j:Hp}{a:di}{xs:List V}(e:ft H j)(h:h5 k K H a xs):h5 k K j a xs:=by
 cases k
 .exact e.seq h
 .exact i7 e h
mutual
theorem Rep.mono{K:Ti}{H j:Hp}(e:ft H j):∀{d:D} {v:V},Rep K H d v->Rep K j d v
 |.d7,_,h=>h
 |.bl _,_,h=>h
 |.int _,_,h=>h
 |.str _,_,h=>h
 |.tup ds,v,h=>by obtain⟨a,b,f,I,y⟩:=(show ∃a b,v=.ref a/\fA K H a b/\dn K H ds b from h);exact(show ∃a b,v=.ref a/\fA K j a b/\dn K j ds b from(a,b,f,i7 e I,dn.mono e y))
 |.lst ds,v,h=>by obtain⟨a,b,f,I,y⟩:=(show ∃a b,v=.ref a/\gg K H a b/\dn K H ds b from h);exact(show ∃a b,v=.ref a/\gg K j a b/\dn K j ds b from(a,b,f,e.seq I,dn.mono e y))
 |.mc ks vs,v,h=>by obtain⟨a,b,f,⟨U,O,g2,o,Q⟩,y⟩:=(show ∃a b,v=.ref a/\NU H a ks b/\dn K H vs b from h);exact(show ∃a b,v=.ref a/\NU j a ks b/\dn K j vs b from(a,b,f,(U,O,g2,o,e _ _ Q),dn.mono e y))
 |.lC ks vs,v,h=>by obtain⟨a,b,f,⟨O,o,Y,g2,Q,Z,g,g6,i⟩,y⟩:=(show ∃a b,v=.ref a/\NV K H a ks b/\dn K H vs b from h);exact(show ∃a b,v=.ref a/\NV K j a ks b/\dn K j vs b from(a,b,f,(O,o,Y,e _ _ g2,Q,Z,g,λx k=>i7 e<|g6 x k,i),dn.mono e y))
theorem dn.mono{K:Ti}{H j:Hp}(e:ft H j):∀{ds:List D} {xs:List V},dn K H ds xs->dn K j ds xs
 |[],_,h=>h
 |d::ds,xs,h=>by obtain⟨x,r,a,y,I⟩:=(show ∃x r,xs=x::r/\Rep K H d x/\dn K H ds r from h);exact(show ∃x r,xs=x::r/\Rep K j d x/\dn K j ds r from(x,r,a,Rep.mono e y,dn.mono e I))
end
section
variable{K:Ti}{H:Hp}
theorem dn.nil:dn K H [] []:=(show([]:List V)=[]from rfl)
theorem dn.cons(h:Rep K H d x)(t:dn K H ds xs):dn K H (d::ds) (x::xs):=(x,xs,rfl,h,t)
theorem dn.o8(h:dn K H [] xs):xs=[]:=h
theorem dn.l9(h:dn K H (d::ds) xs):∃x r,xs=x::r/\Rep K H d x/\dn K H ds r:=h
theorem dn.length:∀{ds:List D} {xs:List V},dn K H ds xs->xs.length=ds.length
 |[],xs,h=>by rw[h.o8];rfl
 |d::ds,xs,h=>by obtain⟨x,r,e,_,t⟩:=h.l9;simp only[e,Up,Up,dn.length t]
theorem dn.get:∀{ds:List D} {xs:List V} {i:Nat} {d:D},dn K H ds xs->ds[i]? = cz d->∃x,xs[i]? = cz x/\Rep K H d x
 |[],_,_,_,_,e=>by simp at e
 |c::ds,xs,0,d,h,e=>by obtain⟨x,r,a,I,_⟩:=h.l9;simp at e;subst e;exact(x,by rw[a];rfl,I)
 |c::ds,xs,i+1,d,h,e=>by obtain⟨x,r,a,_,t⟩:=h.l9;obtain⟨y,O,g2⟩:=dn.get t (by simpa using e);exact(y,by rw[a];simpa using O,g2)
theorem dn.sX{ds:List D}{xs:List V}{i:Nat}{x:V}(h:dn K H ds xs)(e:xs[i]? = cz x):∃d,ds[i]? = cz d/\Rep K H d x:=by
 have b:i<ds.length:=by rw[<-h.length];exact(TR.mp e).1
 obtain⟨y,a,r⟩:=h.get<|To b;rw[e]at a;cases a;exact(_,To b,r)
theorem dn.append:∀{ds es:List D} {xs ys:List V},dn K H ds xs->dn K H es ys->dn K H (ds++es) (xs++ys)
 |[],_,xs,_,h,g=>by rw[h.o8];exact g
 |d::ds,es,xs,ys,h,g=>by obtain⟨x,r,e,y,t⟩:=h.l9;rw[e];exact dn.cons y<|dn.append t g
theorem dn.drop:∀{ds:List D} {xs:List V} n,dn K H ds xs->dn K H (ds.drop n) (xs.drop n)
 |_,_,0,h=>h
 |[],xs,n+1,h=>by rw[h.o8];exact dn.nil
 |d::ds,xs,n+1,h=>by obtain⟨x,r,e,_,t⟩:=h.l9;rw[e];exact dn.drop n t
theorem dn.take:∀{ds:List D} {xs:List V} n,dn K H ds xs->dn K H (ds.take n) (xs.take n)
 |_,_,0,h=>by rfl
 |[],xs,n+1,h=>by rw[h.o8];exact dn.nil
 |d::ds,xs,n+1,h=>by obtain⟨x,r,e,y,t⟩:=h.l9;rw[e];exact dn.cons y<|dn.take n t
theorem dn.set:∀{ds:List D} {xs:List V} {d:D} {x:V} i,dn K H ds xs->Rep K H d x->dn K H (ds.set i d) (xs.set i x)
 |[],xs,_,_,_,h,_=>by rw[h.o8];rfl
 |c::ds,xs,d,x,0,h,g=>by obtain⟨y,r,e,_,t⟩:=h.l9;rw[e];exact dn.cons g t
 |c::ds,xs,d,x,i+1,h,g=>by obtain⟨y,r,e,I,t⟩:=h.l9;rw[e];exact dn.cons I<|dn.set i t g
end
structure Ext(H0 H tN H':Hp):Prop where
 s0:ft H0 tN
 s1:ft H H'
 sub:ft tN H'
 new:∀a,H0 a=none->H a≠none->tN a=none
theorem Ext.refl(s:ft H0 H):Ext H0 H H0 H:=(ft.refl _,ft.refl _,s,λ_ h _=>h)
theorem Ext.trans(a:Ext H0 H H1 G1)(b:Ext H1 G1 H2 G2):Ext H0 H H2 G2:=
 (a.s0.trans b.s0,a.s1.trans b.s1,b.sub,λc I y=>b.new c (a.new c I y) (by
  cases q:H c with
  |none=>exact absurd q y
  |some o=>rw[a.s1 c o q];simp))
theorem ju(h:H p=none)(o:HO):ft H (upd H p o):=λb u q=>by rw[zJ (qA q h)];exact q
theorem jy(s:ft H0 H)(h:H p=none):H0 p=none:=s.free h
theorem nD(s:ft H0 H):ft (upd H0 p o) (upd H p o):=λb u q=>by
 by_cases e:b=p
 .subst e;rw[zF]at q ⊢;exact q
 .rw[zJ e]at q ⊢;exact s b u q
theorem Ext.alloc(s:ft H0 H)(h:H p=none)(o:HO):Ext H0 H (upd H0 p o) (upd H p o):=
 (ju (jy s h) o,ju h o,nD s,λa y I=>by rw[zJ (λe=>I<|by rw[e];exact h)];exact y)
theorem Ext.hide(s:ft H0 H)(h:H p=none)(o:HO):Ext H0 H H0 (upd H p o):=
 (ft.refl _,ju h o,s.trans<|ju h o,λa y _=>y)
theorem Ext.show(e:Ext H0 H tN H')(I:H a=none)(O:tN a=none)(Q:H' a=cz o)(s:ft H0 H):Ext H0 H (upd tN a o) H':=
 (e.s0.trans<|ju O o,e.s1,λb u q=>by
  by_cases z:b=a
  .subst z;rw[zF]at q;rw[Q];exact q
  .rw[zJ z]at q;exact e.sub b u q,λb U y=>by
  rw[zJ (λz=>y<|by rw[z];exact I)];exact e.new b U y)
structure sk(K:Ti)(H0 H:Hp)(rows:List (List D))(a:di)(bs:List di):Prop where
 a0:H0 a=none
 ha:H a=cz (.lst<|bs.map V.ref)
 nd:(a::bs).Nodup
 len:bs.length=rows.length
 row:∀(k:Nat) b row,bs[k]? = cz b->rows[k]? = cz row->H0 b=none/\∃xs,H b=cz (.lst xs)/\dn K H0 row xs
theorem sk.at{K:Ti}{z H:Hp}{j:List (List D)}{a:di}{bs:List di}(n:sk K z H j a bs){b:di}(y:b∈a::bs):z b=none/\∃xs,H b=cz (.lst xs):=by
 rcases Tz.mp y with rfl|y
 .exact(n.a0,_,n.ha)
 .obtain⟨k,I⟩:=_i y
  have O:=(TR.mp I).1;rw[n.len]at O;obtain⟨Q,xs,U,_⟩:=n.row k b _ I<|To O;exact(Q,xs,U)
theorem sk.move{K:Ti}{E H z B:Hp}{j:List (List D)}{a:di}{bs:List di}(n:sk K E H j a bs)(s:ft E z)(y:∀b∈a::bs,z b=none)(h:∀b∈a::bs,B b=H b):sk K z B j a bs:=
 (y a Uh,by rw[h a Uh];exact n.ha,n.nd,n.len,λk b row I Q=>by obtain⟨_,d,U,Y⟩:=n.row k b row I Q;have O:b∈a::bs:=TN _<|UR I;exact(y b O,d,by rw[h b O];exact U,Y.mono s))
def pf(K:Ti)(B H:Hp)(z:St)(γ:Ctx):Prop:=
 (∀(i:Nat) b,γ[i]? = cz (.nest b)->∃a bs,z[i]? = cz (cz (.ref a))/\sk K B H b a bs/\∀(j:Nat) d c,γ[j]? = cz (.own d)->z[j]? = cz (cz (.ref c))->c∉a::bs)/\
 ∀(i j:Nat) y e,γ[i]? = cz (.nest y)->γ[j]? = cz (.nest e)->i=j
theorem pf.C1{K:Ti}{B H:Hp}{E:St}{γ:Ctx}(h:∀(i:Nat) z,γ[i]? ≠ cz (.nest z)):pf K B H E γ:=(λi z e=>absurd e<|h i z,λi j y a e=>absurd e<|h i y)
theorem pf.move{K:Ti}{P H B R:Hp}{E:St}{γ:Ctx}(n:pf K P H E γ)(s:ft P B)(h:∀(i:Nat) z a bs,γ[i]? = cz (.nest z)->E[i]? = cz (cz (.ref a))->sk K P H z a bs->(∀(j:Nat) ds c,γ[j]? = cz (.own ds)->E[j]? = cz (cz (.ref c))->c∉a::bs)->∀b∈a::bs,B b=none/\R b=H b):pf K B R E γ:=
 (λi z e=>by obtain⟨a,bs,y,I,O⟩:=n.1 i z e;exact(a,bs,y,I.move s (λb Q=>(h i z a bs e y I O b Q).1)<|λb Q=>(h i z a bs e y I O b Q).2,O),n.2)
theorem pf.ext{K:Ti}{B H j z:Hp}{E:St}{γ:Ctx}(n:pf K B H E γ)(e:Ext B H j z):pf K j z E γ:=
 n.move e.s0 λi d a bs _ _ y _ b I=>by obtain⟨O,f,g2⟩:=y.at I;exact(e.new b O (),by rw[e.s1 b _ g2,g2])
structure RC(K:Ti)(H0 H:Hp)(σ:St)(γ:Ctx):Prop where
 sub:ft H0 H
 len:σ.length=γ.length
 val:∀(i:Nat) d,γ[i]? = cz (.val d)->∃v,σ[i]? = cz (cz v)/\Rep K H0 d v
 own:∀(i:Nat) ds,γ[i]? = cz (.own ds)->∃a xs,σ[i]? = cz (cz (.ref a))/\H0 a=none/\H a=cz (.lst xs)/\dn K H0 ds xs
 ne:∀(i j:Nat) a ds es,γ[i]? = cz (.own ds)->γ[j]? = cz (.own es)->σ[i]? = cz (cz (.ref a))->σ[j]? = cz (cz (.ref a))->i=j
 m9:pf K H0 H σ γ
theorem RC.ext{K:Ti}{B H j z:Hp}{E:St}{γ:Ctx}(r:RC K B H E γ)(e:Ext B H j z):RC K j z E γ:=
 (e.sub,r.len,λi d h=>let (v,y,I):=r.val i d h;(v,y,I.mono e.s0),
  λi b h=>let (a,f,y,I,O,Q):=r.own i b h;(a,f,y,e.new a I (),e.s1 _ _ O,Q.mono e.s0),r.ne,r.m9.ext e)
noncomputable def tV(K:Ti)(f:CO D):TE:=λh H Q=>∃e g d,RC K e H h g/\f g=cz d/\∀v b a,Ext e H a b->Rep K a d v->Q v b
noncomputable def ze8(K:Ti)(f:CO (Sk×List D)):TE:=λj H Q=>∃g i k h,RC K g H j i/\f i=cz (k,h)/\∀a e d b,Ext g H b d->h5 k K d a e->(k=.T->fA K b a e)->dn K b h e->Q (.ref a) d
noncomputable def tO(K:Ti)(f:CO (List D)):TE:=λj H Q=>∃e i g,RC K e H j i/\f i=cz g/\
 ∀a h d b,Ext e H b d->H a=none->b a=none->d a=cz (.lst h)->dn K b g h->Q (.ref a) d
noncomputable def tT(K:Ti)(f:CO Bool):TT:=λh H Q=>∃e g b,RC K e H h g/\f g=cz b/\∀d a,Ext e H a d->Q b d
noncomputable def tA(K:Ti)(f:CO (List D)):TA:=λi H Q=>∃d h e,RC K d H i h/\f h=cz e/\∀g b a,Ext d H a b->dn K a e g->Q g b
abbrev PV(X:Cx)(e:d8)(f:CO D):Prop:=PE X e (tV X.K f)
abbrev PQ(X:Cx)(e:d8)(f:CO (Sk×List D)):Prop:=PE X e (ze8 X.K f)
abbrev PO(X:Cx)(e:d8)(f:CO (List D)):Prop:=PE X e (tO X.K f)
abbrev l0(X:Cx)(e:d8)(f:CO Bool):Prop:=PT X e (tT X.K f)
abbrev w8(X:Cx)(e:d8)(f:CO Bool):Prop:=PW X e (tT X.K f)
abbrev tR(X:Cx)(es:List d8)(f:CO (List D)):Prop:=PA X es (tA X.K f)
theorem qV(h:PE X e t)(i:∀j H Q,t' j H Q->t j H Q):PE X e t':=λa s j H Q I q=>h a s j H Q I<|i j H Q q
theorem bI(h:PT X e t)(i:∀j H Q,t' j H Q->t j H Q):PT X e t':=λa s j H Q I q=>h a s j H Q I<|i j H Q q
theorem IM(h:PW X e t)(i:∀j H Q,t' j H Q->t j H Q):PW X e t':=λy a s j H Q I q=>h y a s j H Q I<|i j H Q q
theorem Lw(h:PA X es t)(i:∀j H Q,t' j H Q->t j H Q):PA X es t':=λpos a s j H Q I q=>h pos a s j H Q I<|i j H Q q
theorem yS{X:Cx}{st:h9}{t t':TS}(h:PS X st t)(i:∀D j H,t' D j H->t D j H):PS X st t':=λa s j H D I q=>h a s j H D I<|i D j H q
theorem BY{X:Cx}{st:List h9}{t t':TS}(h:pg X st t)(i:∀D j H,t' D j H->t D j H):pg X st t':=λa s j H D I q=>h a s j H D I<|i D j H q
theorem KO(h:PI X tg e t)(i:∀j H R,t' j H R->t j H R):PI X tg e t':=λa s j H R I q=>h a s j H R I<|i j H R q
theorem vX(h:n<=lim):n<=eB:=TJ h ()
section
variable{X:Cx}{e a b c:d8}{pos:f9}
theorem PV.q(h:PV X e f):PQ X e (zH f):=qV h λp H Q Z=>by
 obtain⟨n,m,k,l,o,y,q⟩:=Z;unfold zH at y;cases e1:f m with
 |none=>grind
 | some d=>
  rw[e1]at y;refine(n,m,d,o,e1,λv j b ext r=>?_);cases d with
  |tup g=>
   obtain⟨O,U⟩:k=.T/\l=g:=by simp[jI]at y;exact(y.1.symm,y.2.symm)
   subst O U;obtain⟨a,i,rfl,I,Y⟩:=(r);exact q a i j b ext (i7 ext.sub I) (λ_=>I) Y
  |lst g=>
   obtain⟨O,U⟩:k=.L/\l=g:=by simp[jI]at y;exact(y.1.symm,y.2.symm)
   subst O U;obtain⟨a,i,rfl,I,Y⟩:=(r);exact q a i j b ext (ext.sub.seq I) (λz=>nomatch z) Y
  |_=>simp[jI]at y
theorem PO.v(h:PO X e f):PV X e (jX f):=qV h λn H Q O=>by
 obtain⟨i,g,d,b,y,q⟩:=O;unfold jX at y;cases e1:f g with
 |none=>grind
 |some k=>
  rw[e1]at y;cases y;exact(i,g,k,b,e1,λa l m j ext U I Y r=>q _ _ _ (ext.show U I Y b.sub)<|(a,l,rfl,gg.of zF,r.mono<|ju I _))
theorem PO.q(h:PO X e f):PQ X e (qU f):=qV h λo H Q I=>by
 obtain⟨i,d,k,m,j,y,q⟩:=I;unfold qU at y;cases e1:f d with
 |none=>grind
 |some n=>
  rw[e1]at y;cases y;exact(i,d,_,j,e1,λa l g b ext U Y O r=>q a l g b ext (gg.of O) (λz=>nomatch z) r)
theorem IP(i:Nat)(h:PE X e (Ya i)):PV X e (zf i):=qV h λk H Q I=>by
 obtain⟨f,g,d,a,y,q⟩:=I;unfold zf at y;cases e1:g[i]? with
 |none=>rw[e1]at y;cases y
 | some c=>
  rw[e1]at y;cases c with
  |val Y=>
   cases y;obtain⟨v,O,U⟩:=a.val i d e1;exact(v,O,q v H f (Ext.refl a.sub) U)
  |no=>cases y
  |own j=>cases y
  |nest b=>cases y
theorem Ld(i:Nat)(h:PE X e (Ya i)):PQ X e (zm i):=qV h λs H Q p=>by
 obtain⟨j,r,k,l,b,y,q⟩:=p;unfold zm at y;cases e1:r[i]? with
 |none=>rw[e1]at y;cases y
 | some c=>
  rw[e1]at y;cases c with
  |no=>cases y
  |nest m=>cases y
  |own g=>
   cases y;obtain⟨a,f,O,U,n,o⟩:=b.own i l e1;exact(_,O,q a f H j (Ext.refl b.sub) (gg.of n) (λz=>nomatch z) o)
  | val d=>
   obtain⟨v,O,U⟩:=b.val i d e1;refine(v,O,?_);cases d with
   |tup g=>
    obtain⟨Y,Z⟩:k=.T/\l=g:=by simp[Ja,jI]at y;exact(y.1.symm,y.2.symm)
    subst Y Z;obtain⟨a,f,rfl,I,g2⟩:=(U);exact q a f H j (Ext.refl b.sub) (i7 b.sub I) (λ_=>I) g2
   |lst g=>
    obtain⟨Y,Z⟩:k=.L/\l=g:=by simp[Ja,jI]at y;exact(y.1.symm,y.2.symm)
    subst Y Z;obtain⟨a,f,rfl,I,g2⟩:=(U);exact q a f H j (Ext.refl b.sub) (b.sub.seq I) (λz=>nomatch z) g2
   |_=>simp[Ja,jI]at y
theorem QZ(h:PE X e (tC v))(r:∀H,Rep X.K H d v):PV X e (vE d):=qV h λg H Q y=>by obtain⟨a,f,O,b,I,q⟩:=y;cases I;exact q v H a (Ext.refl b.sub)<|r a
theorem zw:PV X (.Constant (.int i) j pos) (sI i):=QZ Lq λ_=>(rfl)
theorem om:PV X (.Constant (.bool x) j pos) (vE<|.bl x):=QZ OR λ_=>(rfl)
theorem Yj:PV X (.Constant .none j pos) (vE .d7):=QZ Ln λ_=>(rfl)
theorem xF:PV X (.Constant (.str x) j pos) (vE<|.str x):=QZ Cc λ_=>(rfl)
def m1(K:Ti)(r:R2)(F:D->D->Option D):Prop:=∀b H x y f I d Q,ft b H->Rep K b f x->Rep K b I y->F f I=cz d->(∀v e a,Ext b H a e->Rep K a d v->Q v e)->r x y H Q
theorem ze(h:o.bind f=cz y):∃x,o=cz x/\f x=cz y:=by
 cases o with
 |none=>cases h
 |some x=>exact(x,rfl,h)
theorem bN{K:Ti}{r:R2}{F:D->D->Option D}{z B:CO D}(hs:m1 K r F):∀j H Q,tV K (zM F z B) j H Q->C5 r (tV K z) (tV K B) j H Q:=λj H Q U=>by obtain⟨h,f,d,b,I,q⟩:=U;obtain⟨x,m,I⟩:=ze I;obtain⟨y,Y,I⟩:=ze I;exact(h,f,x,b,m,λZ u k e n=>(k,f,y,b.ext e,Y,λs i l O o=>hs l i Z s x y d Q O.sub (n.mono O.s0) o I λv g a t p=>q v g a (e.trans<|O.trans t) p))
theorem Yk(y:ix X (rV op) r)(hs:m1 X.K r F)(j:PV X a fa)(I:PV X b fb):PV X (.BinOp a op b pos) (zM F fa fb):=
 qV (Fi y j I) (bN hs)
theorem oj(y:ix X (m7 op) r)(hs:m1 X.K r F)(j:PV X a fa)(I:PV X b fb)(O:sU op b=cL):PV X (.Compare a [op] [b] pos) (zM F fa fb):=
 qV (Fm y j I O) (bN hs)
theorem Xi{d:D}{b:Bool}(h:uO d=cz b):d=.bl b:=by cases d<;>simp[uO]at h;rw[h]
theorem ZT(I:ix X (m7 op) r)(hs:m1 X.K r F)(j:PV X a fa)(O:PV X b fb)(U:sU op b=cL):l0 X (.Compare a [op] [b] pos) (sB<|zM F fa fb):=
 bI (bH I j O U) λm H Q Y=>by obtain⟨g,l,k,i,y,q⟩:=Y;obtain⟨d,h,y⟩:=ze y;refine bN hs m H _ (g,l,d,i,h,λv f e x r=>?_);rw[Xi y]at r;exact(k,r,q f e x)
theorem k5{f:CO D}(h:PV X e f)(O:∀I,xv e X.env I=(do let v<-I;u0 e.pos;qs [v] (DT v)):=by intro _;rfl):l0 X e (sB f):=
 bI (IV h O) λm H Q U=>by obtain⟨g,l,k,j,y,q⟩:=U;obtain⟨d,i,y⟩:=ze y;refine(g,l,d,j,i,λv b a x r=>?_);rw[Xi y]at r;exact(k,r,q b a x)
theorem Vh(h:l0 X a f):w8 X (.BoolOp .And [a] pos) f:=EM h
theorem nX(h:l0 X a f):w8 X (.BoolOp .Or [a] pos) f:=IK h
theorem bD{f g:CO Bool}{vN:List d8}(z:l0 X a f)(I:w8 X (.BoolOp .And (b::vN) pos) g):w8 X (.BoolOp .And (a::b::vN) pos) (uh f g):=
 IM (IL z I) λn H Q O=>by
  obtain⟨i,h,k,e,y,q⟩:=O;obtain⟨c,l,y⟩:=ze y;refine(i,h,c,e,l,λm d x=>?_);cases c with
  |true=>exact(d,h,k,e.ext x,y,λj U Y=>q j U<|x.trans Y)
  |false=>grind
theorem BS{f g:CO Bool}{vN:List d8}(z:l0 X a f)(I:w8 X (.BoolOp .Or (b::vN) pos) g):w8 X (.BoolOp .Or (a::b::vN) pos) (Oz f g):=
 IM (OH z I) λn H Q O=>by
  obtain⟨i,h,k,e,y,q⟩:=O;obtain⟨c,l,y⟩:=ze y;refine(i,h,c,e,l,λm d x=>?_);cases c with
  |true=>grind
  |false=>exact(d,h,k,e.ext x,y,λj U Y=>q j U<|x.trans Y)
theorem J3(j:l0 X a f):l0 X (.UnaryOp .Not a pos) (XG f):=
 bI (IW j) λg H Q I=>by
  obtain⟨d,b,k,e,y,q⟩:=I;unfold XG at y;cases e1:f b with
  |none=>grind
  |some c=>rw[e1]at y;cases y;exact(d,b,c,e,e1,q)
theorem oq(h:w8 X e f):l0 X e f:=h.pt
theorem BU(h:PV X a f):PV X (.BoolOp op [a] pos) f:=Lm h
theorem BX{f g:CO D}{vN:List d8}(z:PV X a f)(I:PV X (.BoolOp .And (b::vN) pos) g):PV X (.BoolOp .And (a::b::vN) pos) (OB f g):=
 qV (Lr z I) λs H Q O=>by
  obtain⟨l,j,d,i,y,q⟩:=O;obtain⟨c,h,y⟩:=ze y;obtain⟨U,Y,h⟩:=ze h;refine(l,j,U,i,Y,λv k e x r=>?_);rw[Xi h]at r;refine(c,r,?_);cases c with
  |true=>exact(e,j,d,i.ext x,y,λZ m n p o=>q Z m n (x.trans p) o)
  |false=>cases y;exact q _ k e x rfl
theorem xS(Y:l0 X c k)(z:PV X a f)(Z:PV X b g):PV X (.IfExp c a b pos) (ig k f g):=
 qV (uU Y z Z) λr H Q o=>by
  obtain⟨m,l,d,j,y,q⟩:=o;obtain⟨t,n,y⟩:=ze y;refine(m,l,t,j,n,λp e x=>?_);cases t with
  |true=>exact(e,l,d,j.ext x,y,λI h O U i=>q I h O (x.trans U) i)
  |false=>exact(e,l,d,j.ext x,y,λI h O U i=>q I h O (x.trans U) i)
theorem Fp:tR X [] zD:=Lw j7 λf H Q y=>by obtain⟨a,e,d,b,I,q⟩:=y;cases I;exact q [] H a (Ext.refl b.sub) dn.nil
theorem zfB(z:PV X e f)(U:tR X es g)(hs:ed (e::es) X.env=(cL,dy e X.env)::ed es X.env:=by rfl):tR X (e::es) (zb f g):=
 Lw (zZ z U hs) λs H Q Y=>by
  obtain⟨h,a,p,b,y,q⟩:=Y;obtain⟨x,k,y⟩:=ze y;cases I:g a with
  |none=>grind
  |some r=>
   rw[I]at y;cases y;exact(h,a,x,b,k,λv o Z d l=>(Z,a,r,b.ext d,I,λn i j O m=>q (v::n) i j (d.trans O)<|dn.cons (l.mono O.s0) m))
theorem jb(h:tR X es f):PV X (.Tuple es j pos) (qv f):=
 qV (Ll h) λm H Q Y=>by
  obtain⟨b,k,d,g,y,q⟩:=Y;obtain⟨a,e,y⟩:=ze y;by_cases I:a.length<=lim
  .rw[DZ I]at y;cases y
   exact(b,k,a,g,e,λi l Z j O=>(vX (by rw[O.length];exact I),λp U=>q _ _ _ (j.trans<|Ext.alloc j.sub U _)<|(p,i,rfl,fA.of zF,O.mono<|ju (jy j.sub U) _)))
  .rw[DJ I]at y;cases y
theorem xq(h:tR X es f):PO X (.List es pos) (kO f):=
 qV (Lo h) λm H Q Y=>by
  obtain⟨b,k,d,i,y,q⟩:=Y;obtain⟨e,g,y⟩:=ze y;by_cases I:e.length<=lim
  .rw[DZ I]at y;cases y
   exact(b,k,_,i,g,λj l Z a U=>(vX (by rw[U.length];exact I),λp O=>q p j _ Z (a.trans<|Ext.hide a.sub O _) (by
    cases z:H p with
    |none=>rfl
    |some o=>rw[a.s1 p o z]at O;lia) (jy a.sub O) zF U))
  .rw[DJ I]at y;cases y
end
def tW(k1 k2:Sk)(z TI TO j B E H:di)(n:Nat)(h:eK):Prop:=
 (pw h z TI TO .none\/∃y b I,h.get? z=cz (gK y b TI TO)/\h.get? y=cz I)/\ni h TI (.ref j) (.ref B)/\(∃c e,ni h TO c e)/\hG k1 h j E n/\hG k2 h B H n
section
variable{prog:hH}{w:hB}{A:l6}{E:EQ}{s:el}
theorem HD{k1 k2:Sk}{z TI TO j B H P:di}{n:Nat}{xs ys:Array dj}{Q:Option dj->el->Prop}(hh:A.handled=none)(D:tX z TI TO j B H P)
 (Z:tW k1 k2 z TI TO j B H P n s.heap) (R:iN k1 s.heap H xs) (S:iN k2 s.heap P ys) (a4:xs[n]? = none\/ys[n]? = none)
 (hQ:∀h',(∀c o,c ∉ [z,TI,TO,j,B]->s.heap.get? c=cz o->h'.get? c=cz o)->Q none {s with heap:=h'}):wpAny (d5 prog w) A (sa<|.ref z) Q E s:=by
 obtain⟨a,f,⟨c,e,k⟩,h,i⟩:=Z;unfold sa;rcases a with a|⟨al,b,oa,a,ha⟩
 .have I:s.TypeIs (.ref z) "zip":=(_,a,rfl)
  refine Th (tq (Ux I UZ (qj UZ I z8
   (du hh D a f k h i R S a4 λg e O U=>?_) (zr _))))
  obtain⟨o,Y,d⟩:=U;refine Th<|NF (o,Y,d) Nx<|Ts ?_;refine hQ g λc o y q=>?_;simp only[Tz,TQ,or_false,not_or]at y;exact O c o y.1 y.2.2.1 y.2.2.2.1 y.2.2.2.2 q
 .have I:s.TypeIs (.ref z) "zip":=(_,a,rfl)
  refine Th (tq (Ux I UZ (qj UZ I z8
   (zeQ hh D a ha f h i R S a4 λg e O U=>?_) (zr _))))
  obtain⟨o,Y,d⟩:=U;refine Th<|NF (o,Y,d) Nx<|Ts ?_;refine hQ g λc o y q=>?_;simp only[Tz,TQ,or_false,not_or]at y;exact O c o y.1 y.2.2.2.1 y.2.2.2.2 q
end
def uu(j:List (Key×V))(ps:List (Key×V)):List (Key×V):=ps.foldl (λa y=>mj a y.1 y.2) j
theorem xZ:entryFor table "dict.update.loop" = cz n6.«dict.update.loop» :=entryFor_of_tree (by kernel_rfl)
theorem xQ(args:Args):(Code.builtin "dict.update.loop" args).quiet=cC:=Code.quiet_builtin _ ()
end DL
namespace L2
open PySem PySem.Spec PyProof.Rows
structure M2(X:Cx)(o:d8)(m:Str)(apos:f9)(e f:d8)(cpos:f9):Prop where
 base:uQ o m X.env (dy o X.env)=dy o X.env
 l8:((m5 cpos<|starEach [e,f] X.env).all (λx=> !x.1)&&(uS cpos<|keywordEach [] X.env).all (λx=>x.1.isSome)
  &&decide (([e,f]:List d8).length+([]:List rE).length+(if ([]:List rE).isEmpty then 0 else 1)<30))=cC
 line:(apos.endLine==cpos.line)=cC
 trees:m5 cpos (ed [e,f] X.env)=[(cL,dy e X.env),(cL,dy f X.env)]
end L2
namespace DL
open PySem L2
noncomputable def kQ(ds:List D):List D:=(Tn ds.length).map λ(i:Nat)=>D.tup [.int i,ds[i]?.getD .d7]
def ug(f:CO D)(γ:Ctx):Option (List D):=(f γ).bind λd=>match d with
 |.tup a=>cz (kQ a)
 |_=>none
noncomputable def lr:List D->Option (List Int)
 |[]=>cz []
 |.int i::r=>(lr r).map λl=>i::l
 |_::_=>none
def ZZ(T:Tg)(f:CO (List D))(γ:Ctx):List D->Option (List<|List D)
 |[]=>cz []
 |d::ds=>(k9 T d γ).bind λa=>(f a).bind λe=>(ZZ T f γ ds).map λr=>e::r
def dZ(j:CO (List D))(T:Tg)(n:Nat)(z:List Nat)(f:CO (List D))(γ:Ctx):Option (List<|List D):=(j γ).bind λa=>if a.length<=lim then ZZ T f (jq n z γ) a else none
noncomputable def W5:Cell->Bool
 |.nest _=>cC
 |_=>cL
def uc(i:Nat)(f:CO (List<|List D)):CO Fl:=λb=>(f b).bind λa=>if b.any W5=cL then cz (.next<|b.set i<|.nest a)else none
noncomputable def Xg:Option Cell->Option (List<|List D)
 |some (.nest rows)=>cz rows
 |_=>none
noncomputable def w4(γ:Ctx)(j i:Nat)(r:List D):Ctx:=(γ.set j .no).set i (.own r)
def yZ(j i:Nat)(g f:CO D)(γ:Ctx):List (List D)->Option (List<|List D)
 |[]=>cz []
 |r::rs=>(f<|w4 γ j i r).bind λd=>((g<|w4 γ j i r).bind m4).bind λk=>(hO r.length k).bind λm=>(yZ j i g f γ rs).map λt=>r.set m d::t
def nI(j i:Nat)(g f:CO D)(γ:Ctx):Option Fl:=(Xg γ[j]?).bind λa=>if i=j\/γ.length<=i then none else (yZ j i g f γ a).map λy=>.next ((γ.set j<|.nest y).set i .no)
def BK(i:Nat)(F:CO Fl)(γ:Ctx):Option Fl:=(qZ γ[i]?).bind λa=>F<|γ.set i<|.val<|.lst a
def Ir(i:Nat)(F:CO Fl)(γ:Ctx):Option Fl:=(Xg γ[i]?).bind λa=>F<|γ.set i<|.val<|.lst<|a.map D.lst
noncomputable def mX:List D->Option (List Str)
 |[]=>cz []
 |.str x::r=>(mX r).map λl=>x::l
 |_::_=>none
noncomputable def xo(x:Str):Bool:=decide<|x.length<=1000
def EF(f:CO D)(g:CO (Sk×List D))(γ:Ctx):Option D:=(f γ).bind λd=>(g γ).bind λa=>match d,a.1 with
 |.str sep,.L=>(mX a.2).bind λl=>if l.length<=lim/\l.all xo=cC/\xo sep=cC then cz (.str<|Str.join sep l)else none
 |_,_=>none
def wG(f g:CO D)(γ:Ctx):Option D:=(f γ).bind λd=>((g γ).bind m4).bind λi=>match d with
 |.str z=>if xo z=cC then (hO z.cps.toList.length i).bind λk=>z.cps.toList[k]?.map λc=>.str ⟨#[c]⟩else none
 |_=>none
def wZ(f:CO D)(γ:Ctx):Option D:=(f γ).bind λd=>match d with
 |.str z=>if xo z=cC then cz (.int z.length)else none
 |_=>none
def nG(f g:CO D)(γ:Ctx):Option D:=((f γ).bind m4).bind λi=>((g γ).bind m4).map λj=>.int (if j<i then j else i)
abbrev Xn:=Str×Option Int
noncomputable def I':CO Xn:=λ_=>none
noncomputable def Ry(c:Str):CO Xn:=λ_=>cz (c,none)
noncomputable def H_(k:CO Bool)(G H:CO Xn):CO Xn:=λa=>(k a).bind λb=>if b=cC then G a else H a
noncomputable def Sl(G:CO Xn)(F:CO Fl)(H:CO Xn):CO Xn:=λb=>match G b with
 |some c=>cz c
 |none=>(F b).bind λy=>match y with
  |.next a=>H a
  |_=>none
def RE(n:Nat)(G:CO Xn)(ds:List D):Option Xn:=G<|jd n ds
def bB(f:CO D)(g:CO (Sk×List D)):CO D:=λb=>(f b).bind λd=>(g b).bind λa=>(m4 d).bind λi=>(lr a.2).map λl=>.bl (!decide (i∈l))
end DL
namespace DL
open PySem L2
open PySem.W (KasT kas_sort)
noncomputable def wF(z:Str):List D:=z.cps.toList.map λc=>D.str ⟨#[c]⟩
def RD(f:CO D)(γ:Ctx):Option (List D):=(f γ).bind λd=>match d with
 |.str z=>if xo z=cC then cz (wF z)else none
 |_=>none
def nK(f:CO D)(γ:Ctx):Option (List D):=(f γ).bind λd=>match d with
 |.str z=>if xo z=cC then cz (kQ<|wF z)else none
 |_=>none
def dY(f:CO D)(γ:Ctx):Option (List D):=(f γ).bind λd=>match d with
 |.lst a=>cz (kQ a)
 |_=>none
def Np(f:CO (Sk×List D))(γ:Ctx):Option (List D):=(f γ).bind λa=>match a.1 with
 |.L=>if a.2.length<=lim then cz a.2.reverse else none
 |_=>none
noncomputable def uX:D->Option (Int×Int)
 |.tup [.int a,.int b]=>cz (a,b)
 |_=>none
def QN:List D->Option (List<|Int×Int)
 |[]=>cz []
 |d::r=>(uX d).bind λp=>(QN r).map λl=>p::l
noncomputable def aZ(x y:Int×Int):Bool:=if x.1=y.1 then decide (x.2<y.2)else decide (x.1<y.1)
noncomputable def IA{z:Type}(lt:Nat->Nat->Bool):KasT z->z
 |.ret a=>a
 |.ask i j k=>IA lt<|k<|lt i j
def xB(ps:List (Int×Int)):List Nat:=if ps.length<2 then Tn ps.length else (IA (λi j=>aZ (ps.getD i (0,0))<|ps.getD j (0,0))<|kas_sort ps.length).toList
def tY(ds:List D):Option (List D):=(QN ds).bind λa=>if ds.length<64 then cz ((xB a).map λi=>ds.getD i .d7)else none
def BJ(f:CO (Sk×List D))(γ:Ctx):Option (List D):=(f γ).bind λa=>match a.1 with
 |.L=>tY a.2
 |_=>none
end DL
namespace DL
open PySem L2
def nJ(i:Nat)(f:CO (List D))(γ:Ctx):Option Fl:=(qZ γ[i]?).bind λa=>(f γ).bind λb=>if a.length+b.length<=lim then cz (.next<|γ.set i<|.own<|a++b)else none
def BN(F G:List D->Option Res)(g:CO (List D))(γ:Ctx):Option (List D):=(g γ).bind λl=>match l with
 |[p,.str z,t,b]=>((if z=("r" : Str)then F else G) [p,t,b]).bind um
 |_=>none
noncomputable def Kg:List D->Option (List Int)
 |[]=>cz []
 |.int i::r=>(Kg r).map λl=>i::l
 |_::_=>none
def AX(ds es:List D):Option D:=match Kg ds with
 |some a=>if ds.length=es.length/\a.Nodup/\ds.length<=lim then cz (.mc ds es)else none
 |none=>none
noncomputable def fP:List D->List D->Int->Option D
 |k::ks,v::vs,i=>match k with
  |.int j=>if j=i then cz v else fP ks vs i
  |_=>fP ks vs i
 |_,_,_=>none
open PySem.Spec PyProof.Rows
structure RS(K:Ti)(E0 E H0 H:Hp)(σ:St)(γ:Ctx):Prop where
 rc:RC K H0 H σ γ
 ext:Ext E0 E H0 H
 fresh:∀(i:Nat) ds a,γ[i]? = cz (.own ds)->σ[i]? = cz (cz (.ref a))->E a=none
 r7:∀(i:Nat) rows a xs,γ[i]? = cz (.nest rows)->σ[i]? = cz (cz (.ref a))->H a=cz (.lst xs)->E a=none/\∀b,V.ref b∈xs->E b=none
def Sat(K:Ti)(E0 E:Hp)(D:Ends):Fl->Prop
 |.next f=>∀e H b,RS K E0 E b H e f->D.nx e H
 |.brk f=>∀e H b,RS K E0 E b H e f->D.bk e H
 |.cont f=>∀e H b,RS K E0 E b H e f->D.ct e H
 |.ret (.val d)=>∀v H b,Ext E0 E b H->Rep K b d v->D.rt v H
 |.ret (.own es)=>∀a g H b,Ext E0 E b H->E a=none->b a=none->H a=cz (.lst g)->dn K b es g->D.rt (.ref a) H
noncomputable def tS(K:Ti)(F:CO Fl):TS:=λD d H=>∃E0 E b a y,RS K E0 E b H d a/\F a=cz y/\Sat K E0 E D y
abbrev ji(X:Cx)(st:h9)(F:CO Fl):Prop:=PS X st (tS X.K F)
abbrev mf(X:Cx)(sts:List h9)(F:CO Fl):Prop:=pg X sts (tS X.K F)
section
variable{K:Ti}{E0 E H0 H tN H':Hp}{σ:St}{γ:Ctx}
theorem RS.step(r:RS K E0 E H0 H σ γ)(e:Ext H0 H tN H'):RS K E0 E tN H' σ γ:=(r.rc.ext e,r.ext.trans e,r.fresh,λi b a d y I Q=>by obtain⟨U,bs,O,g2,_⟩:=r.rc.m9.1 i b y;rw[I]at O;cases O;have:=e.s1 a _ g2.ha;rw[Q]at this;cases this;exact r.r7 i b a _ y I g2.ha)
theorem zL{z:Type}{l:List z}{i j:Nat}{x y:z}(h:(l.set i x)[j]? = cz y):(j=i/\y=x/\i<l.length)\/(j≠i/\l[j]? = cz y):=by
 by_cases e:i=j
 .subst e
  by_cases I:i<l.length
  .rw[Ud I]at h;cases h;exact .inl (rfl,rfl,I)
  .rw[List.set_eq_of_length_le ()]at h
   exact absurd (TR.mp h).1 I
 .rw[Tu e]at h;exact .inr (Ue e,h)
theorem pf.s9{i:Nat}{d:D}{v:V}(n:pf K H0 H σ γ):pf K H0 H (σ.set i<|some v) (γ.set i<|.val d):=
 (λj b e=>by
  rcases zL e with⟨_,z,_⟩|⟨I,z⟩
  .cases z
  .obtain⟨a,bs,O,Q,U⟩:=n.1 j b z
   refine(a,bs,by rw[Tu (Ue I)];exact O,Q,λk h c f y=>?_);rcases zL f with⟨_,z,_⟩|⟨Y,g⟩
   .cases z
   .rw[Tu (Ue Y)]at y;exact U k h c g y,
 λj k Z l f y=>by
  rcases zL f with⟨_,z,_⟩|⟨_,g⟩
  .cases z
  .rcases zL y with⟨_,z,_⟩|⟨_,m⟩
   .cases z
   .exact n.2 j k Z l g m)
theorem RC.s9{i:Nat}{d:D}{v:V}(r:RC K H0 H σ γ)(h:Rep K H0 d v):RC K H0 H (σ.set i<|some v) (γ.set i<|.val d):=by
 refine(r.sub,by simp[r.len],λj Y e=>?_,λj b e=>?_,λj k a b g f Z O Q=>?_,r.m9.s9)
 .rcases zL e with⟨rfl,z,U⟩|⟨y,z⟩
  .cases z;exact(v,Ud (by rw[r.len];exact U),h)
  .obtain⟨m,I,g2⟩:=r.val j Y z
   exact(m,by rw[Tu (Ue y)];exact I,g2)
 .rcases zL e with⟨rfl,z,U⟩|⟨y,z⟩
  .cases z
  .obtain⟨a,n,I,g2⟩:=r.own j b z
   exact(a,n,by rw[Tu (Ue y)];exact I,g2)
 .rcases zL f with⟨_,z,_⟩|⟨y,o⟩
  .cases z
  .rcases zL Z with⟨_,z,_⟩|⟨l,p⟩
   .cases z
   .rw[Tu (Ue y)]at O
    rw[Tu (Ue l)]at Q;exact r.ne j k a b g o p O Q
theorem RS.s9{i:Nat}{d:D}{v:V}(r:RS K E0 E H0 H σ γ)(h:Rep K H0 d v):RS K E0 E H0 H (σ.set i<|some v) (γ.set i<|.val d):=
 (r.rc.s9 h,r.ext,λj f a e y=>by
  rcases zL e with⟨_,z,_⟩|⟨I,z⟩
  .cases z
  .rw[Tu (Ue I)]at y;exact r.fresh j f a z y,
 λj b a g e y O=>by
  rcases zL e with⟨_,z,_⟩|⟨I,z⟩
  .cases z
  .rw[Tu (Ue I)]at y;exact r.r7 j b a g z y O)
theorem vW:∀{y bs:List di},y.map V.ref=bs.map V.ref->y=bs
 |[],[],_=>rfl
 |[],_::_,h=>by cases h
 |_::_,[],h=>by cases h
 |a::y,b::bs,h=>by injection h with I O;injection I with I;rw[I,vW O]
theorem RS.zeW{i:Nat}{es:List D}{a:di}{xs:List V}{B G:Hp}(r:RS K E0 E B G σ γ)(e:Ext B G H0 H)(P:G a=none)(R:H0 a=none)(S:H a=cz (.lst xs))(h4:dn K H0 es xs):
 RS K E0 E H0 H (σ.set i<|some (.ref a)) (γ.set i<|.own es):=by
 have f:=r.rc.ext e;have no:∀(j:Nat) h,γ[j]? = _->¬σ[j]? = cz (cz (.ref a)):=λj h g z=>by obtain⟨b,s,y,g2,g3,_⟩:=r.rc.own j h g;lia
 refine((f.sub,by simp[f.len],λj u g=>?_,λj h g=>?_,λj k b h fs n Q U Y=>?_,(λj d g=>?_,λj k F J y g2=>?_)),r.ext.trans e,λj h b y g2=>?_,λj d b xs y g2 g3=>?_)
 .rcases zL g with⟨_,z,_⟩|⟨I,z⟩
  .cases z
  .obtain⟨L,y,g2⟩:=f.val j u z
   exact(L,by rw[Tu (Ue I)];exact y,g2)
 .rcases zL g with⟨rfl,z,O⟩|⟨I,z⟩
  .cases z;exact(a,xs,Ud (by rw[f.len];exact O),R,S,h4)
  .obtain⟨b,s,y,g2⟩:=f.own j h z
   exact(b,s,by rw[Tu (Ue I)];exact y,g2)
 .rcases zL n with⟨rfl,z,O⟩|⟨I,l⟩
  .rcases zL Q with⟨rfl,_,_⟩|⟨Z,m⟩
   .rfl
   .rw[Ud (by rw[f.len];exact O)]at U
    rw[Tu (Ue Z)]at Y;cases U;exact absurd Y<|no k fs m
  .rcases zL Q with⟨rfl,z,O⟩|⟨Z,m⟩
   .rw[Ud (by rw[f.len];exact O)]at Y
    rw[Tu (Ue I)]at U;cases Y;exact absurd U<|no j h l
   .rw[Tu (Ue I)]at U
    rw[Tu (Ue Z)]at Y;exact f.ne j k b h fs l m U Y
 .rcases zL g with⟨_,z,_⟩|⟨I,z⟩
  .cases z
  .refine Tf λC=>?_;obtain⟨b,bs,y,g2,g3⟩:=r.rc.m9.1 j d z
   obtain⟨N,p,f1,f2,x⟩:=f.m9.1 j d z;refine C ?_;rw[y]at f1;cases f1;have w:p.map V.ref=bs.map V.ref:=by have:=e.s1 b _ g2.ha;rw[f2.ha]at this;injection this with this;injection this
   have t:=vW w;subst t;refine(b,p,by rw[Tu (Ue I)];exact y,f2,λk h c n Q=>?_);rcases zL n with⟨rfl,_,O⟩|⟨Z,l⟩
   .rw[Ud (by rw[f.len];exact O)]at Q;cases Q
    intro A;obtain⟨_,M,q⟩:=g2.at A;lia
   .rw[Tu (Ue Z)]at Q;exact x k h c l Q
 .rcases zL y with⟨_,z,_⟩|⟨_,l⟩
  .cases z
  .rcases zL g2 with⟨_,z,_⟩|⟨_,m⟩
   .cases z
   .exact f.m9.2 j k F J l m
 .rcases zL y with⟨rfl,z,O⟩|⟨I,z⟩
  .rw[Ud (by rw[f.len];exact O)]at g2;cases g2
   cases q:E a with
   |none=>rfl
   |some o=>rw[r.ext.s1 a o q]at P;lia
  .rw[Tu (Ue I)]at g2;exact r.fresh j h b z g2
 .rcases zL y with⟨_,z,_⟩|⟨I,z⟩
  .cases z
  .rw[Tu (Ue I)]at g2;exact(r.step e).r7 j d b xs z g2 g3
theorem RS.rewrite{i:Nat}{ds es:List D}{a:di}{xs ys:List V}(r:RS K E0 E H0 H σ γ)(B:γ[i]? = cz (.own ds))(hs:σ[i]? = cz (cz (.ref a)))(P:dn K H0 es ys):
 RS K E0 E H0 (upd H a<|.lst ys) σ (γ.set i<|.own es):=by
 obtain⟨C,ad,g1,g2,g3,G⟩:=r.rc.own i ds B;rw[hs]at g1;cases g1;refine((λb o q=>?_,by simp[r.rc.len],λj t g=>?_,λj fs g=>?_,λj k b fs gs e y U u=>?_,(λj d g=>?_,λj k x A e y=>?_)),(r.ext.s0,λb o q=>?_,λb o q=>?_,r.ext.new),λj fs b e y=>?_,λj d b Z e y U=>?_)
 .rw[zJ (λz=>by lia)];exact r.rc.sub b o q
 .rcases zL g with⟨_,z,_⟩|⟨Y,z⟩
  .cases z
  .exact r.rc.val j t z
 .rcases zL g with⟨rfl,z,J⟩|⟨Y,z⟩
  .cases z;exact(a,ys,hs,g2,zF,P)
  .obtain⟨b,Z,I,O,Q,w⟩:=r.rc.own j fs z
   refine(b,Z,I,O,?_,w);rw[zJ (λq=>Y<|r.rc.ne j i a fs ds z B (by rw[I,q]) hs)];exact Q
 .have p:∃h,γ[j]? = cz (.own h):=by
   rcases zL e with⟨q,_,_⟩|⟨_,z⟩
   .exact(ds,by rw[q];exact B)
   .exact(fs,z)
  have s:∃h,γ[k]? = cz (.own h):=by
   rcases zL y with⟨q,_,_⟩|⟨_,z⟩
   .exact(ds,by rw[q];exact B)
   .exact(gs,z)
  obtain⟨I,f⟩:=p;obtain⟨O,m⟩:=s;exact r.rc.ne j k b I O f m U u
 .rcases zL g with⟨_,z,_⟩|⟨Y,z⟩
  .cases z
  .obtain⟨b,bs,I,O,Q⟩:=r.rc.m9.1 j d z
   have n:=Q i ds a B hs;refine(b,bs,I,O.move (ft.refl _) (λc l=>(O.at l).1)<|λc l=>zJ λq=>n<|q ▸ l,λk fs c e y=>?_);rcases zL e with⟨q,_,_⟩|⟨_,f⟩
   .rw[q,hs]at y;cases y;exact n
   .exact Q k fs c f y
 .rcases zL e with⟨_,z,_⟩|⟨_,f⟩
  .cases z
  .rcases zL y with⟨_,z,_⟩|⟨_,m⟩
   .cases z
   .exact r.rc.m9.2 j k x A f m
 .rw[zJ (λz=>by rw[z,r.fresh i ds a B hs]at q;cases q)];exact r.ext.s1 b o q
 .rw[zJ (λz=>by lia)];exact r.ext.sub b o q
 .rcases zL e with⟨q,_,_⟩|⟨_,z⟩
  .rw[q]at y;exact r.fresh i ds b B y
  .exact r.fresh j fs b z y
 .rcases zL e with⟨_,z,_⟩|⟨Y,z⟩
  .cases z
  .obtain⟨F,bs,I,O,Q⟩:=r.rc.m9.1 j d z
   rw[y]at I;cases I;rw[zJ (λq=>Q i ds a B hs<|by rw[q];exact Uh)]at U;exact r.r7 j d b Z z y U
end
section
variable{X:Cx}{e a c:d8}{pos:f9}{st:h9}{vN:List h9}
theorem jL:mf X [] ye:=BY ES λD b H y=>by obtain⟨E0,E,a,d,U,I,O,Q⟩:=y;cases O;exact Q b H a I
theorem zc{F G:CO Fl}(Q:ji X st F)(U:mf X vN G):mf X (st::vN) (zV F G):=BY (eJ Q U) λD k H Y=>by
 obtain⟨E0,E,d,h,Z,g,y,I⟩:=Y;obtain⟨O,f,y⟩:=ze y;refine(E0,E,d,h,O,g,f,?_);cases O with
 |next a=>exact λi j b e=>(E0,E,b,a,Z,e,y,I)
 |brk a=>cases y;exact I
 |cont a=>cases y;exact I
 |ret r=>cases y;cases r<;>exact I
theorem zk(y:ji X st F):mf X [st] F:=J4 y
theorem zB(h:o.map f=cz y):∃x,o=cz x/\f x=y:=by simp_all
theorem zK{f:CO D}(h:PV X e f):ji X (.Return (cz e) pos) (qQ f):=yS (Yn h) λD k H O=>by obtain⟨E0,E,g,j,U,I,y,Q⟩:=O;obtain⟨d,i,y⟩:=zB y;subst y;exact(g,j,d,I.rc,i,λv b a x r=>Q v b a (I.ext.trans x) r)
theorem qI{f:CO (List D)}(h:PO X e f):ji X (.Return (cz e) pos) (wN f):=yS (Yn h) λD n H O=>by
 obtain⟨E0,E,g,l,m,y,I,Q⟩:=O;obtain⟨i,j,I⟩:=zB I;subst I;refine(g,l,i,y.rc,j,λa k d b x U Y Z r=>Q a k d b (y.ext.trans x) ?_ Y Z r);cases q:E a with
 |none=>rfl
 |some o=>rw[y.ext.s1 a o q]at U;lia
theorem xT(i:Nat)(h:PE X e (Ya i)):ji X (.Return (cz e) pos) (Jk i):=yS (Yn h) λD o H Y=>by
 obtain⟨E0,E,f,m,n,I,y,U⟩:=Y;unfold Jk at y;cases b:m[i]? with
 |none=>rw[b]at y;cases y
 | some c=>
  rw[b]at y;cases c with
  |no=>cases y
  |val d=>
   cases y;obtain⟨v,O,Q⟩:=I.rc.val i d b;exact(v,O,U v H f I.ext Q)
  |nest j=>cases y
  |own g=>
   cases y;obtain⟨a,l,O,Q,Z,k⟩:=I.rc.own i g b;exact(_,O,U a l H f I.ext (I.fresh i g a b O) Q Z k)
theorem WA:ji X (.Continue pos) Iv:=yS bJ λD b H y=>by obtain⟨E0,E,a,d,U,I,O,Q⟩:=y;cases O;exact Q b H a I
theorem Ze:ji X st Yf:=yS zfn λD d H y=>by obtain⟨E0,E,a,b,O,Q,I,U⟩:=y;cases I
theorem qX{k:CO Bool}{F G:CO Fl}{x y:List h9}(Y:l0 X c k)(j:mf X x F)(Z:mf X y G):ji X (.If c x y pos) (mr k F G):=yS (OO Y j Z) λD h H f=>by
 obtain⟨E0,E,d,b,Q,O,I,U⟩:=f;obtain⟨t,e,I⟩:=ze I;refine(d,b,t,O.rc,e,λg a x=>?_);cases t with
 |true=>exact(E0,E,a,b,Q,O.step x,I,U)
 |false=>exact(E0,E,a,b,Q,O.step x,I,U)
theorem ET(i:Nat){f:CO D}(h:PS X st (gW (tV X.K f)<|Zm i)):ji X st (jF i f):=yS h λD k H O=>by obtain⟨E0,E,b,g,U,I,y,Q⟩:=O;obtain⟨d,e,y⟩:=zB y;subst y;exact(b,g,d,I.rc,e,λv j a x r=>Q _ _ a<|(I.step x).s9 r)
theorem Vj(i:Nat){f:CO (List D)}(h:PS X st (gW (tO X.K f)<|Zm i)):ji X st (kN i f):=yS h λD n H O=>by obtain⟨E0,E,d,j,l,I,y,Q⟩:=O;obtain⟨e,g,y⟩:=zB y;subst y;exact(d,j,e,I.rc,g,λa m k b x U Y Z r=>Q _ _ b<|I.zeW x U Y Z r)
theorem kT(h:qZ o=cz ds):o=cz (.own ds):=by
 cases o with
 |none=>cases h
 |some c=>cases c<;>simp[qZ]at h;rw[h]
theorem iy(i:Nat){f:CO D}(h:PE X e (y_ X.K "list" nW (Ya i) (Xt (tV X.K f) Hl)))(hs:rH e none pos.line X.env=pure cL:=by rfl):ji X (.Expr e pos) (qH i f):=
 yS (Vk h hs) λD u H Z=>by
  refine Tf λn=>?_;obtain⟨E0,E,k,o,s,I,y,l⟩:=Z;obtain⟨j,b,y⟩:=ze y;obtain⟨d,m,y⟩:=ze y;refine n ?_;have b:=kT b;by_cases O:j.length<lim
  .rw[DZ O]at y;cases y
   obtain⟨a,xs,Q,t,U,Y⟩:=I.rc.own i j b;exact(_,Q,.inl (rfl,_,gg.of U),k,o,d,I.rc,m,λv p g x r=>(a,xs,v,rfl,rfl,x.s1 _ _ U,TC (by rw[Y.length];exact O)<|vX<|Tv _,l _ _ g<|(I.step x).rewrite (xs:=xs) b Q ((Y.mono x.s0).append (dn.cons r dn.nil))))
  .rw[DJ O]at y;cases y
end
def Sf(K:Ti)(j H:Hp)(Q:VK):Res->Prop
 |.val d=>∀v e b,Ext j H b e->Rep K b d v->Q v e
 |.own g=>∀a f e b,Ext j H b e->H a=none->b a=none->e a=cz (.lst f)->dn K b g f->Q (.ref a) e
noncomputable def p8(K:Ti)(n:Nat)(F:List D->Option Res):Sp:=λd H Q _=>∃a b r,ft a H/\dn K a b d/\b.length=n/\F b=cz r/\Sf K a H Q r
theorem p8.len{K:Ti}{n:Nat}{F:List D->Option Res}{ps:List Str}(y:ps.length=n):∀vs H Q E,p8 K n F vs H Q E->vs.length=ps.length:=λvs H Q E h=>by obtain⟨a,b,r,_,I,O,_⟩:=h;rw[I.length,O,y]
section
variable{P:hH}{w:hB}{K:Ti}{mg:DX}{base:eK}
theorem zfG(s:ft H0 H)(h:dn K H0 ds vs)(Q:ds.length<=N.length):RS K H0 H H0 H (XA N vs) (jd N.length ds):=by
 have y:=h.length;refine((s,by simp[L2.XA,jd,y],λi d e=>?_,λi g e=>?_,λi j a g fs e _ _ _=>?_,pf.C1 λi f e=>?_),Ext.refl s,λi g a e _=>?_,λi f a k e _ _=>?_)
 all_goals unfold jd at e
 .by_cases b:i<ds.length
  .rw[ve (by simpa using b),UE]at e
   cases e1:ds[i]? with
   |none=>rw[e1]at e;cases e
   |some I=>
    rw[e1]at e;cases e;obtain⟨x,O,g2⟩:=h.get e1;refine(x,?_,g2);unfold L2.XA;rw[ve (by simp;lia),UE,O];rfl
  .rw[UO (by simpa using b),Rb]at e
   split at e<;>cases e
 all_goals
  by_cases b:i<ds.length
  .rw[ve (by simpa using b),UE]at e
   cases e1:ds[i]? with
   |none=>rw[e1]at e;cases e
   |some I=>rw[e1]at e;cases e
  .rw[UO (by simpa using b),Rb]at e
   split at e<;>cases e
theorem MD{x qual:Str}{st:h9}{f:di}{z:pv}{N ps:List Str}{k:Nat}{F:CO Fl}(U:L2.o6 K x qual st f z)(S:Dq N ps (jo st))
 (Y:∀j A outer s H E,k0 k (A.deeper<|envOfC qual (jo st) s.heap.objs.size f j)->mf (GF l7 P w K mg base N qual (jo st) f j A outer s H E).DO (qp st) F):
 kA P w K mg base l7 (k+1) f z ps (p8 K ps.length<|jA N.length F):=by
 refine U.ok S (p8.len rfl)<|λj A outer s H G Q E Z h=>(_,Y j A outer s H E Z,?_);refine Tf λm=>?_;obtain⟨b,u,r,o,i,B,l,I⟩:=h;obtain⟨O,g,y⟩:=ze l;refine m ?_;have t:ps.length<=N.length:=by have:=congrArg NR S.pre;grind
 refine(b,H,b,_,O,zfG o i (),g,?_);cases O with
 |ret C=>cases y;cases r<;>exact I
 |next d=>cases y;exact λp e a n=>I .d7 e a n.ext rfl
 |brk d=>cases y
 |cont d=>cases y
end
section
theorem EN{A0:List d8}(G:kA X.prog X.w X.K X.mg X.base l7 k f fd ps (p8 X.K ps.length F))(z:tR X es g)(U:∀γ ds,g γ=cz ds->ds.length=ps.length)
 (Y:∀{t:TA},PA X es t->PE X (.Call (.Name x p) es [] pos) (tP (p8 X.K ps.length F) [] E0 t)):PV X (.Call (.Name x p) es [] pos) (zC F g):=
 qV (Y z) λL H Q Z=>by
  refine Tf λu=>?_;obtain⟨l,γ,d,B,y,q⟩:=Z;obtain⟨ds,j,y⟩:=ze y;obtain⟨r,n,y⟩:=zB y;refine u ?_;refine(l,γ,ds,B,j,λJ E m e A=>(m,ds,r,e.sub,by simpa using A,U γ ds j,n,?_));subst y;cases r with
  |val d=>exact λv h b I i=>q v h b (e.trans I) i
  |own fs=>
   exact λa C h b I o O s i=>q _ h _ (e.trans<|I.show o O s e.sub)<|(a,C,rfl,gg.of zF,i.mono<|ju O _)
theorem Fb(G:kA X.prog X.w X.K X.mg X.base l7 k f fd ps (p8 X.K ps.length F))(B:tR X es g)(I:∀γ ds,g γ=cz ds->ds.length=ps.length)
 (O:∀{t:TA},PA X es t->PE X (.Call (.Name x p) es [] pos) (tP (p8 X.K ps.length F) [] E0 t)):PO X (.Call (.Name x p) es [] pos) (jm F g):=
 qV (O B) λN H Q U=>by
  refine Tf λY=>?_;obtain⟨j,γ,fs,C,y,q⟩:=U;obtain⟨ds,h,y⟩:=ze y;obtain⟨r,Z,y⟩:=ze y;refine Y ?_;refine(j,γ,ds,C,h,λM L l e u=>(l,ds,r,e.sub,by simpa using u,I γ ds h,Z,?_));cases r with
  |val d=>cases y
  | own gs=>
   cases y;exact λa J i b E m n s A=>q a J i b (e.trans E) (by
    cases z:H a with
    |none=>rfl
    |some o=>rw[e.s1 a o z]at m;lia) n s A
end
structure Walk(K:Ti)(H0 Hs:Hp)(J:It)(ds:List D):Prop where
 go:∀i H1,ft Hs H1->i<ds.length->J.go i H1
 stop:∀H1,ft Hs H1->J.stop ds.length H1
 uy:∀i H1 x T5,ft Hs H1->i<ds.length->J.uy i H1 x T5->∃d,ds[i]? = cz d/\∀G0,ft H0 G0->ft G0 H1->∃T4,Ext G0 H1 T4 T5/\Rep K T4 d x
theorem Walk.weak{K:Ti}{j z y:Hp}{J:It}{ds:List D}(w:Walk K j z J ds)(s:ft z y):Walk K j y J ds:=
 (λi a h=>w.go i a<|s.trans h,λa h=>w.stop a<|s.trans h,λi a x b h=>w.uy i a x b<|s.trans h)
theorem YR{k:Sk}{K:Ti}{j z:Hp}{a:di}{xs:List V}{ds:List D}(h:h5 k K z a xs)(r:dn K j ds xs):Walk K j z (T6 k K a) ds:=by
 have U:=r.length;refine(λi b s n=>?_,λb s=>?_,λi b x f s n y=>?_)
 .have I:i<xs.length:=()
  cases k with
  |L=>exact(xs,xs[i],s.seq h,To I)
  |T=>exact(xs,xs[i],i7 s h,To I)
 .cases k with
  |L=>exact(xs,s.seq h,())
  |T=>exact(xs,i7 s h,())
 .have e:f=b/\xs[i]? = cz x:=by
   cases k with
   |L=>exact(y.1,y.2 xs<|s.seq h)
   |T=>exact(y.1,y.2 xs<|i7 s h)
  obtain⟨l,O⟩:=e;subst l;obtain⟨d,m,Q⟩:=r.sX O;exact(d,m,λg o p=>(g,Ext.refl p,Q.mono o))
theorem J0(lo:Int)(n:Nat):(Jl lo n).length=n:=by simp[Jl]
theorem K5{K:Ti}{j z:Hp}(lo:Int)(n:Nat):Walk K j z (Du lo n) (Jl lo n):=by
 refine(λi b s a=>?_,λb s=>?_,λi b x e s a y=>?_)
 .rw[J0]at a;exact a
 .rw[J0];exact Tv _
 .rw[J0]at a
  obtain⟨f,I⟩:=y;subst f I;exact(.int<|lo+i,by simp[Jl,a],λd h g=>(d,Ext.refl g,(rfl)))
theorem zeR{k1 k2:Sk}{K:Ti}{j z:Hp}{a b:di}{xs ys:List V}{ds es:List D}(I:h5 k1 K z a xs)(U:dn K j ds xs)(O:h5 k2 K z b ys)(B:dn K j es ys):
 Walk K j z (NY k1 k2 K a b) (wC ds es):=by
 have C:=U.length;have E:=B.length;have A:(wC ds es).length=min ds.length es.length:=by simp[wC]
 refine(λi f s t=>(xs,ys,kj s I,kj s O,(),()),λf s=>?_,λi f x k s t y=>?_)
 .refine(xs,ys,kj s I,kj s O,?_)
  lia
 .refine Tf λY=>?_;obtain⟨p,u,v,n,Q,Z,g1,g2⟩:=y
  obtain⟨d,r,w⟩:=U.sX<|g1 xs<|kj s I;obtain⟨c,o,l⟩:=B.sX<|g2 ys<|kj s O;refine Y ?_;refine(.tup [d,c],?_,λh g e=>(upd h p<|.tup [u,v],?_,?_))
  .have m:_=cz (Prod.mk d c):=M_.mpr (r,o)
   simp[wC,m]
  .rw[Z];exact Ext.alloc e Q _
  .rw[n]
   exact((p,[u,v],rfl,fA.of zF,dn.cons ((w.mono g).mono (ju (jy e Q) _))<|dn.cons ((l.mono g).mono (ju (jy e Q) _)) dn.nil))
noncomputable def P1(K:Ti)(j:CO (List D)):TI:=λg H R=>∃d f e,RC K d H g f/\j f=cz e/\∀J b a,Ext d H a b->Walk K a b J e->R J b
noncomputable def L7(K:Ti)(j:CO (List D)):TI:=λg H R=>∃d f e,RC K d H g f/\j f=cz e/\∀J b a,Ext d H a b->Walk K a a J e->R J b
abbrev ri(X:Cx)(tg e:d8)(src:CO (List D)):Prop:=PI X tg e (P1 X.K src)
abbrev g8(X:Cx)(tg e:d8)(src:CO (List D)):Prop:=PI X tg e (L7 X.K src)
section
variable{X:Cx}{tg e a b:d8}{pos p:f9}
theorem g8.c(h:g8 X tg e src):ri X tg e src:=KO h λj H R y=>by obtain⟨d,i,f,g,I,q⟩:=y;exact(d,i,f,g,I,λJ b a x w=>q J b a x<|w.weak x.sub)
theorem jk(h:PQ X e f):ri X tg e (z9 f):=KO (oG h) λp H R I=>by obtain⟨g,n,o,l,O,q⟩:=I;obtain⟨⟨k,j⟩,i,Q⟩:=zB O;subst Q;exact(g,n,k,j,l,i,λa m d b x y _ r=>(a,k,rfl,(m,y),q _ d b x<|YR y r))
theorem J7(h:PV X e f):g8 X tg e (z9<|zH f):=KO (oG h) λs H R U=>by
 obtain⟨m,o,p,n,Y,q⟩:=U;obtain⟨⟨k,l⟩,b,y⟩:=zB Y;subst y;obtain⟨d,Z,b⟩:=ze b;refine(m,o,d,n,Z,λv j g x r=>?_);cases d with
 |tup fs=>
  obtain⟨y,O⟩:k=.T/\l=fs:=by simp[jI]at b;exact(b.1.symm,b.2.symm)
  subst y O;obtain⟨a,i,rfl,I,Q⟩:=(r);exact(a,.T,rfl,(i,i7 x.sub I),q _ j g x<|YR I Q)
 |lst fs=>
  obtain⟨y,O⟩:k=.L/\l=fs:=by simp[jI]at b;exact(b.1.symm,b.2.symm)
  subst y O;obtain⟨a,i,rfl,I,Q⟩:=(r);exact(a,.L,rfl,(i,x.sub.seq I),q _ j g x<|YR I Q)
 |_=>simp[jI]at b
theorem j3(h:m4 d=cz i):d=.int i:=by cases d<;>simp[m4]at h;rw[h]
theorem Ki(h:inR i=cC): -(2^62)<=i/\i<2^62:=by
 unfold inR at h
 grind
theorem iD(O:Gl X "range")(Q:X.mg "range" = none)(j:PV X a f)(hs:ed [a] X.env=[(cL,dy a X.env)]:=by rfl):g8 X tg (.Call (.Name "range" p) [a] [] pos) (jg f):=
 KO (oJ O Q (zZ j j7 hs) hs) λo H R U=>by
  obtain⟨h,l,m,k,y,q⟩:=U;obtain⟨n,e,y⟩:=ze y;obtain⟨d,Y,e⟩:=ze e;by_cases I:inR n=cC
  .rw[DZ I]at y;cases y
   refine(h,l,d,k,Y,λv g b x r=>?_);rw[j3 e]at r;obtain⟨Z,i⟩:=Ki I;exact(n,by rw[r],Z,i,q _ g b x<|K5 0 n.toNat)
  lia
theorem iC(U:Gl X "range")(Y:X.mg "range" = none)(E:PV X a f)(Z:PV X b g)(hs:ed [a,b] X.env=[(cL,dy a X.env),(cL,dy b X.env)]:=by rfl)(O:ed [b] X.env=[(cL,dy b X.env)]:=by rfl):
 g8 X tg (.Call (.Name "range" p) [a,b] [] pos) (wY f g):=
 KO (oH U Y (zZ E (zZ Z j7 O)<|by rw[hs,O]) hs O) λM H R C=>by
  refine Tf λF=>?_;obtain⟨l,k,K,j,y,q⟩:=C;obtain⟨m,h,y⟩:=ze y;obtain⟨d,t,h⟩:=ze h;obtain⟨n,Q,y⟩:=ze y;obtain⟨c,u,Q⟩:=ze Q;refine F ?_;by_cases I:inR m=cC/\inR n=cC
  .rw[DZ I]at y;cases y
   refine(l,k,d,j,t,λv J e x r=>(e,k,c,j.ext x,u,λL o s G i=>?_));rw[j3 h]at r;rw[j3 Q]at i;obtain⟨w,z⟩:=Ki I.1;obtain⟨A,B⟩:=Ki I.2;exact(m,n,by rw[r,i],(w,z,A,B),q _ o s (x.trans G)<|K5 m (n-m).toNat)
  .rw[DJ I]at y;cases y
theorem ZS{K:Ti}{H:Hp}{d:D}{v:V}{k:Sk}{ds:List D}(r:Rep K H d v)(e:jI d=cz (k,ds)):∃a xs,v=.ref a/\h5 k K H a xs/\dn K H ds xs:=by
 cases d with
 |tup fs=>simp[jI]at e;obtain⟨b,y⟩:=e;subst b y;exact r
 |lst fs=>simp[jI]at e;obtain⟨b,y⟩:=e;subst b y;exact r
 |_=>simp[jI]at e
theorem Fe{f g:CO D}{j:List d8}{x1:Nat}{z:f9}(Z:Gl X "zip")(S:X.mg "zip" = none)(E:PV X a f)(P:PV X b g)(hs:ed [a,b] X.env=[(cL,dy a X.env),(cL,dy b X.env)]:=by rfl)(O:ed [b] X.env=[(cL,dy b X.env)]:=by rfl):
 g8 X (.Tuple j x1 z) (.Call (.Name "zip" p) [a,b] [] pos) (KL f g):=
 KO (Lh Z S (zZ E (zZ P j7 O)<|by rw[hs,O]) S_ hs O) λσ H R C=>by refine Tf λJ=>?_;obtain⟨l,k,T,i,y,q⟩:=C;obtain⟨⟨F,m⟩,h,y⟩:=ze y;obtain⟨d,w,h⟩:=ze h;obtain⟨⟨G,n⟩,Q,y⟩:=zB y;obtain⟨c,A,Q⟩:=ze Q;refine J ?_;subst y;refine(l,k,d,i,w,λv N e x r=>(e,k,c,i.ext x,A,λW o u I K=>?_));obtain⟨s,L,rfl,U,g2⟩:=ZS (r.mono I.s0) h;obtain⟨t,M,rfl,Y,B⟩:=ZS K Q;exact(F,G,s,t,rfl,(L,kj I.sub U),(M,kj I.sub Y),q _ o u (x.trans I)<|zeR U g2 Y B)
end
noncomputable def dX:List Nat->List V->St->St
 |i::is,v::vs,σ=>dX is vs<|σ.set i<|some v
 |_,_,σ=>σ
def gs:List Nat->BM
 |[]=>RQ
 |i::is=>MC (Zm i)<|gs is
def pZ(K:Ti):Tg->TG
 |.nm i=>Zm i
 |.tp is=>RP K is.length<|gs is
theorem rj:∀{is:List Nat} {vs:List V} {j:St} {H:Hp} {Q:St->Hp->Prop},vs.length=is.length->Q (dX is vs j) H->gs is vs j H Q
 |[],[],_,_,_,_,q=>(rfl,q)
 |i::is,v::vs,j,H,Q,hl,q=>(v,vs,rfl,rj (by simpa using hl) q)
 |[],_::_,_,_,_,hl,_=>by simp at hl
 |_::_,[],_,_,_,hl,_=>by simp at hl
theorem RS.DR{K:Ti}{E0 E z H:Hp}:∀{is:List Nat} {ds:List D} {vs:List V} {j:St} {γ:Ctx},RS K E0 E z H j γ->dn K z ds vs->RS K E0 E z H (dX is vs j) (kn is ds γ)
 |[],ds,vs,j,γ,r,h=>by assumption
 |i::is,[],vs,j,γ,r,h=>by rw[h.o8];exact r
 |i::is,d::ds,vs,j,γ,r,h=>by obtain⟨x,t,e,y,I⟩:=h.l9;subst e;show RS K E0 E z H _ (kn is ds _);exact RS.DR (r.s9 y) I
theorem RC.DR{K:Ti}{z H:Hp}:∀{is:List Nat} {ds:List D} {vs:List V} {j:St} {γ:Ctx},RC K z H j γ->dn K z ds vs->RC K z H (dX is vs j) (kn is ds γ)
 |[],ds,vs,j,γ,r,h=>by assumption
 |i::is,[],vs,j,γ,r,h=>by rw[h.o8];exact r
 |i::is,d::ds,vs,j,γ,r,h=>by obtain⟨x,t,e,y,I⟩:=h.l9;subst e;show RC K z H _ (kn is ds _);exact RC.DR (r.s9 y) I
theorem JI{K:Ti}{j H:Hp}{T:Tg}{d:D}{v:V}{z:St}{γ γ1:Ctx}{Q:St->Hp->Prop}(s:ft j H)(h:Rep K j d v)(e:k9 T d γ=cz γ1)
 (q:∀y,(RC K j H z γ->RC K j H y γ1)->(∀E0 E,RS K E0 E j H z γ->RS K E0 E j H y γ1)->Q y H):pZ K T v z H Q:=by
 cases T with
 |nm i=>cases e;exact q _ (λr=>r.s9 h) λE0 E r=>r.s9 h
 | tp is=>
  cases d with
  | tup f=>
   simp only[k9]at e;by_cases I:f.length=is.length
   .rw[DZ I]at e;cases e
    obtain⟨a,b,rfl,Y,O⟩:=(h);have U:b.length=is.length:=by rw[O.length,I]
    exact(a,b,rfl,i7 s Y,U,rj U<|q _ (λr=>r.DR O) λE0 E r=>r.DR O)
   .rw[DJ I]at e;cases e
  |_=>simp[k9]at e
theorem Ext.rebase{E0 E y j H B:Hp}(e:Ext E0 E y B)(x:Ext y E j H):Ext E0 E j H:=
 (e.s0.trans x.s0,x.s1,x.sub,λa O I=>x.new a (e.new a O I) I)
theorem Ext.base{E0 E y B:Hp}(e:Ext E0 E y B):Ext y E y B:=(ft.refl _,e.s1,e.sub,λa h _=>h)
theorem Sat.rebase{K:Ti}{E0 E I B:Hp}{D:Ends}{y:Fl}(e:Ext E0 E I B)(h:Sat K E0 E D y):Sat K I E D y:=by
 cases y with
 |next g=>exact λf H b r=>h f H b (r.rc,e.rebase r.ext,r.fresh,r.r7)
 |brk g=>exact λf H b r=>h f H b (r.rc,e.rebase r.ext,r.fresh,r.r7)
 |cont g=>exact λf H b r=>h f H b (r.rc,e.rebase r.ext,r.fresh,r.r7)
 |ret r=>
  cases r with
  |val d=>exact λv H b x q=>h v H b (e.rebase x) q
  |own j=>exact λa i H b x O Q U q=>h a i H b (e.rebase x) O Q U q
section
variable{X:Cx}{tg iter:d8}{body:List h9}{pos:f9}
theorem EU{j:CO (List D)}{T:Tg}{F:CO Fl}(hp:N5 (d5 X.prog X.w) X.A X.env X.xe)(hc:X.calm=cC)(P:g8 X tg iter j)(hg:PG X tg (pZ X.K T))(hb:mf X body F)
 (hs:∀x,pj iter X.env x=pure x:=by intro _;rfl):ji X (.For tg iter body [] pos) (wU j T F):=
 yS (BZ hp hc P hg hb hs) λD h H hZ=>by
  obtain⟨E0,E,f,g,Q,O,I,U⟩:=hZ;obtain⟨b,W,I⟩:=ze I;refine(f,g,b,O.rc,W,λJ H1 Z x1 t=>?_);have k:=O.step x1;have C:=k.ext;refine(λi m h H=>m=b.length-i/\i<=b.length/\∃f g Q,RS X.K Z E f H h g/\yD T F (b.drop i) g=cz Q/\Sat X.K Z E D Q,(_,rfl,UU _,Z,g,Q,(k.rc,C.base,k.fresh,k.r7),I,U.rebase C),?_);rintro i m h H ⟨rfl,P,f,g,Q,O,I,U⟩;have l:=O.ext.s0.trans O.ext.sub;by_cases Y:i<b.length
  .refine .inr (t.go i H l Y,λh H=>_/\_,λzhO B n=>(_,_m _ _ Y,rfl,n.1,n.2),λx B y=>?_)
   refine Tf λp=>?_;obtain⟨d,G,hx⟩:=t.uy i H x B l Y y;obtain⟨M,L,rg⟩:=hx f O.ext.s0 O.rc.sub;refine p ?_;have R:b.drop i=d::b.drop (i+1):=by
    have as:=by rw[To Y]at G;exact(UK G).symm
    simp_all
   rw[R]at I;simp only[yD]at I;refine Tf λp=>?_;obtain⟨u,eb,I⟩:=ze I;obtain⟨f1,eF,I⟩:=ze I;refine p ?_;refine JI L.sub rg eb λNT _ S=>(Z,E,M,u,f1,S Z E<|O.step L,eF,?_);cases f1 with
   |next a=>exact λz N o s=>(Y,o,a,Q,s,I,U)
   |cont a=>exact λz N o s=>(Y,o,a,Q,s,I,U)
   |brk a=>cases I;exact U
   |ret r=>cases I;cases r<;>exact U
  .have e:i=b.length:=()
   subst e;rw[Nz]at I;cases I;exact .inl (t.stop H l,U h H f O)
end
theorem xp(h:(jq n fr γ)[i]? = cz c):c=.no\/(∃d j,c=.val d/\n<=i/\fr[i-n]? = cz j/\γ[j]? = cz (.val d)):=by
 unfold jq at h;by_cases b:i<n
 .rw[ve (by simpa using b),Rb,DZ b]at h
  exact .inl (UK h).symm
 .rw[UO (by simpa using b),UE,List.length_replicate]at h
  cases e:fr[i-n]? with
  |none=>rw[e]at h;cases h
  | some j=>
   rw[e]at h;have a:=by simpa using h
   cases e2:γ[j]? with
   |none=>rw[e2]at a;exact .inl a.symm
   |some y=>
    rw[e2]at a;cases y with
    |no=>exact .inl a.symm
    |own g=>exact .inl a.symm
    |nest f=>exact .inl a.symm
    |val d=>exact .inr (d,j,a.symm,(),rfl,e2)
theorem RC.pull{K:Ti}{E H:Hp}{P:St}{γ:Ctx}{own:List Str}{B:List (Str×Nat)}(r:RC K E H P γ):RC K E H (L2.uv own B P) (jq own.length (B.map (·.2)) γ):=by
 refine(r.sub,by simp[L2.uv,jq],λi d h=>?_,λi e h=>?_,λi j a e f h _ _ _=>?_,pf.C1 λi b h=>?_)
 .rcases xp h with z|⟨I,j,z,hi,y,O⟩
  .cases z
  .cases z
   obtain⟨v,Q,U⟩:=r.val j d O;refine(v,?_,U);rw[UE]at y;cases q:B[i-own.length]? with
   |none=>rw[q]at y;cases y
   |some p=>
    rw[q]at y;unfold L2.uv;rw[UO (by simpa using hi),UE,Ua,q];simp[(by simpa using y),Q]
 .rcases xp h with z|⟨I,j,z,_⟩<;>cases z
 .rcases xp h with z|⟨I,j,z,_⟩<;>cases z
 .rcases xp h with z|⟨I,j,z,_⟩<;>cases z
theorem RC.weak{K:Ti}{B H:Hp}{E:St}{γ γ':Ctx}(r:RC K B H E γ)(I:γ'.length=γ.length)(O:∀(i:Nat) d,γ'[i]? = cz (.val d)->γ[i]? = cz (.val d))(y:∀(i:Nat) ds,γ'[i]? ≠ cz (.own ds))(Q:∀(i:Nat) z,γ'[i]? ≠ cz (.nest z)):RC K B H E γ':=
 (r.sub,by rw[I];exact r.len,λi d h=>r.val i d<|O i d h,λi ds h=>absurd h<|y i ds,λi j a ds b h _ _ _=>absurd h<|y i ds,pf.C1 Q)
theorem RC.upd{K:Ti}{E H:Hp}{P:St}{γ:Ctx}{D:di}{o:HO}(r:RC K E H P γ)(O:E D=none)(y:∀(i:Nat) ds,γ[i]? ≠ cz (.own ds))(I:∀(i:Nat) B,γ[i]? ≠ cz (.nest B)):RC K E (upd H D o) P γ:=
 (λb u q=>by rw[zJ (λz=>by lia)];exact r.sub b u q,r.len,r.val,λi ds h=>absurd h<|y i ds,λi j a ds d h _ _ _=>absurd h<|y i ds,pf.C1 I)
theorem XE:∀{is:List Nat} {ds:List D} {γ:Ctx},(kn is ds γ).length=γ.length
 |[],ds,γ=>by rfl
 |i::is,[],γ=>rfl
 |i::is,d::ds,γ=>by show(kn is ds _).length=_;rw[XE];simp
theorem XF:∀{is:List Nat} {ds:List D} {γ:Ctx} {i:Nat},i∉is->(kn is ds γ)[i]? = γ[i]?
 |[],ds,γ,i,_=>by rfl
 |j::is,[],γ,i,_=>rfl
 |j::is,d::ds,γ,i,h=>by show(kn is ds _)[i]? = _;rw[XF (λz=>h<|TN _ z),Tu (λz=>h<|by rw[<-z];exact Uh)]
theorem aG(h:k9 T d γ=cz γ1):γ1.length=γ.length/\∀i,i∉T.idx->γ1[i]? = γ[i]? :=by
 cases T with
 |nm j=>cases h;exact(by simp,λi a=>Tu<|λz=>a<|by simp[Tg.idx,z])
 | tp is=>
  cases d with
  |tup b=>
   simp only[k9]at h;by_cases y:b.length=is.length
   .rw[DZ y]at h;cases h;exact(XE,λi a=>XF a)
   .rw[DJ y]at h;cases h
  |_=>simp[k9]at h
section
variable{K:Ti}{own:List Str}{fr:List (Str×Nat)}{src:CO (List D)}{T:Tg}{k:CO Bool}{f:CO D}
theorem JE(hT:∀i∈T.idx,i<own.length)(bb:∀B H Q,tT K k B H Q->tt B H Q):∀B H Q,tO K (zW src T own.length (fr.map (·.2)) k f) B H Q->mV (P1 K src) own fr (pZ K T) tt (tV K f) B H Q:=λB H Q hZ=>by
 obtain⟨H0,E,ds,rc,M,q⟩:=hZ;obtain⟨O,e1,M⟩:=ze M;by_cases hl:O.length<=lim
 .rw[DZ hl]at M
  refine(H0,E,O,rc,e1,λJ H1 ae u wk D hD=>?_);have P:∀(i:Nat) X,(jq own.length (fr.map (·.2)) E)[i]? ≠ cz (.own X):=λi X h=>by rcases xp h with z|⟨d',j,z,_⟩<;>cases z
  have R:∀(i:Nat) t,(jq own.length (fr.map (·.2)) E)[i]? ≠ cz (.nest t):=λi X h=>by rcases xp h with z|⟨d',j,z,_⟩<;>cases z
  have al:=jy u.sub hD;refine(λi m C F g=>m=O.length-i/\i<=O.length/\C.length<=i/\g D=cz (.lst C)/\∃a p L,RC K a g F (jq own.length (fr.map (·.2)) E)/\a D=none/\Ext ae H1 a g/\dn K a p C/\zQ T k f (jq own.length (fr.map (·.2)) E) (O.drop i)=cz L/\ds=p++L,
   (_,rfl,UU _,Tv _,zF,ae,[],ds,((rc.ext u).pull).upd al P R,al,Ext.hide u.sub hD _,dn.nil,M,rfl),?_)
  rintro i m C F g ⟨rfl,hi,hy,S,a,p,L,W,an,Y,r',I,rfl⟩;refine(S,?_);by_cases Z:i<O.length
  .refine .inr (wk.go i g Y.s1 Z,?_,λx ap y=>?_)
   .have:=vX<|Tv lim;lia
   refine Tf λs=>?_;obtain⟨d,hd,hx⟩:=wk.uy i g x ap Y.s1 Z y;obtain⟨G0,U,rg⟩:=hx a Y.s0 W.sub;refine s ?_;have bi:O.drop i=d::O.drop (i+1):=by
    have bm:=by rw[To Z]at hd;exact(UK hd).symm
    rw[bm];exact M1 Z
   rw[bi]at I;simp only[zQ]at I;refine Tf λs=>?_;obtain⟨l,eb,I⟩:=ze I;obtain⟨b,ek,I⟩:=ze I;have br:=U.s1 _ _ S;obtain⟨bl,bg⟩:=aG eb;refine s ?_;have as:∀{G:St} {G2 H2:Hp},RC K G2 H2 G l->RC K G2 H2 G _:=λr=>r.weak bl.symm (λj d' hj=>by
    by_cases hm:j∈T.idx
    .rcases xp hj with z|⟨d2,j2,_,hn,_⟩
     .cases z
     .exact absurd (hT j hm) ()
    .rw[bg j hm];exact hj) P R
   refine JI U.sub rg eb λNT b3 _=>bb NT ap _ (G0,l,b,b3<|W.ext U,ek,λH3 b4 n=>?_);have ad:=(b3<|W.ext U).ext n;have xa:=Y.trans<|U.trans n;have b6:=n.new D (U.new D an ()) ();have b7:=n.s1 _ _ br;cases b with
   |true=>
    dsimp only;refine Tf λs=>?_;obtain⟨e,ee,I⟩:=ze I;obtain⟨vN,er,I⟩:=zB I;refine s ?_;refine(b4,l,e,ad,ee,λv H4 bx A r4=>?_);have b8:=A.new D b6 ();have c1:=A.s1 _ _ b7;have N:=xa.trans A;refine(c1,_,(),rfl,Z,by rw[UD,C9];lia,zF,bx,p++[e],vN,(as<|ad.ext A).upd b8 P R,b8,(N.s0,λc o z=>by rw[zJ (λw=>by lia)];exact N.s1 c o z,λc o z=>by rw[zJ (λw=>by lia)];exact N.sub c o z,N.new),(r'.mono<|(U.trans<|n.trans A).s0).append (dn.cons r4 dn.nil),er,?_)
    .rw[<-I];simp
   |false=>
    dsimp only;exact(_,(),rfl,Z,(),b7,b4,p,L,as ad,b6,xa,r'.mono<|(U.trans n).s0,I,rfl)
  .have e:i=O.length:=()
   subst e;rw[Nz]at I;cases I;rw[E7]at q;exact .inl (wk.stop g Y.s1,q D C g a (u.trans Y) (by
   cases z:H D with
   |none=>rfl
   |some o=>rw[u.s1 D o z]at hD;lia) an S r')
 lia
end
section
variable{X:Cx}{scope:h6}{own:List Str}{fr:List (Str×Nat)}{elt tg iter c:d8}{pos:f9}{src:CO (List D)}{T:Tg}{k:CO Bool}{f:CO D}
theorem EZ(y:X.calm=cC)(ok:rf X scope fr)(I:∀i∈T.idx,i<own.length)(B:ri X tg iter src)(O:∀fp z j,PG (jV X scope (own++fr.map (·.1)) fp z j) tg<|pZ X.K T)
 (U:∀fp z j,PV (jV X scope (own++fr.map (·.1)) fp z j) elt f) (hs:∀x,pj iter X.env x=pure x:=by intro _;rfl):
 PO X (.ListComp elt [(tg,iter,[],0)] scope pos) (zW src T own.length (fr.map (·.2)) jB f):=
 qV (bM y ok B O (λ_ _ _=>Vm) U hs) (JE I λg H Q Y=>by obtain⟨a,e,b,d,Z,q⟩:=Y;cases Z;exact q H a<|Ext.refl d.sub)
theorem oA(y:X.calm=cC)(ok:rf X scope fr)(I:∀i∈T.idx,i<own.length)(B:ri X tg iter src)(O:∀fp z j,PG (jV X scope (own++fr.map (·.1)) fp z j) tg<|pZ X.K T)
 (U:∀fp z j,l0 (jV X scope (own++fr.map (·.1)) fp z j) c k) (Y:∀fp z j,PV (jV X scope (own++fr.map (·.1)) fp z j) elt f) (hs:∀x,pj iter X.env x=pure x:=by intro _;rfl):
 PO X (.ListComp elt [(tg,iter,[c],0)] scope pos) (zW src T own.length (fr.map (·.2)) k f):=
 qV (bM y ok B O (λfp z j=>eO<|U fp z j) Y hs) (JE I λa H Q h=>h)
theorem zfo(I:X.N.Nodup)(O:X.N[i]? = cz y)(U:Loc X.env.scope y)(Y:X.fn y=cC\/X.env.scope.names.lookup y=cz .local)
 (Z:X.calm=cC) (ok:rf X scope fr) (B:∀i∈T.idx,i<own.length) (R:ri X tg iter src) (P:∀fp z j,PG (jV X scope (own++fr.map (·.1)) fp z j) tg<|pZ X.K T)
 (E:∀fp z j,PV (jV X scope (own++fr.map (·.1)) fp z j) elt f) (hs:∀x,pj iter X.env x=pure x:=by intro _;rfl):
 PS X (.Assign [.Name y py] (.ListComp elt [(tg,iter,[],0)] scope pos) spos) (gW (tO X.K<|zW src T own.length (fr.map (·.2)) jB f)<|Zm i):=
 yS (J6 I O U Y Z ok R P (λ_ _ _=>Vm) E hs) λD a H h=>JE B (λa H Q g=>by obtain⟨d,l,b,k,e,q⟩:=g;cases e;exact q H d<|Ext.refl k.sub) a H _ h
theorem iA(I:X.N.Nodup)(O:X.N[i]? = cz y)(U:Loc X.env.scope y)(Y:X.fn y=cC\/X.env.scope.names.lookup y=cz .local)
 (Z:X.calm=cC) (ok:rf X scope fr) (B:∀i∈T.idx,i<own.length) (R:ri X tg iter src) (P:∀fp z j,PG (jV X scope (own++fr.map (·.1)) fp z j) tg<|pZ X.K T)
 (hk:∀fp z j,l0 (jV X scope (own++fr.map (·.1)) fp z j) c k) (E:∀fp z j,PV (jV X scope (own++fr.map (·.1)) fp z j) elt f) (hs:∀x,pj iter X.env x=pure x:=by intro _;rfl):
 PS X (.Assign [.Name y py] (.ListComp elt [(tg,iter,[c],0)] scope pos) spos) (gW (tO X.K<|zW src T own.length (fr.map (·.2)) k f)<|Zm i):=
 yS (J6 I O U Y Z ok R P (λfp z j=>eO<|hk fp z j) E hs) λD a H h=>JE B (λa H Q h=>h) a H _ h
end
theorem jP{K:Ti}{H:Hp}{i:Int}{v:V}(h:Rep K H (.int i) v):v=.int i:=h
theorem ny{K:Ti}{g:Int->Int->D}{O:Int->Int->V}(U:∀H i j,Rep K H (g i j)<|O i j):m1 K (q0 O) (dI g):=λa H x y b e d Q s Y Z I q=>by unfold dI at I;split at I<;>cases I;exact(_,_,jP Y,jP Z,q _ H a (Ext.refl s)<|U a _ _)
theorem nv{K:Ti}{C:Int->Int->Prop}{c:Int->Int->Bool}{g:Int->Int->D}{O:Int->Int->V}(U:∀i j,c i j=cC->C i j)(Y:∀H i j,Rep K H (g i j)<|O i j):m1 K (rI C O) (DC c g):=λa H x y e f d Q s Z b I q=>by
 unfold DC at I;split at I
 .split at I<;>cases I
  exact(_,_,jP Z,jP b,U _ _ ‹_›,q _ H a (Ext.refl s)<|Y a _ _)
 .cases I
theorem Ep{K:Ti}:m1 K (q0 λi j=>.int (i-j)) JC:=ny λ_ _ _=>rfl
theorem Bf(h:YJ i j=cC):A7 i j:=by unfold YJ at h;unfold A7;lia
theorem Ew{K:Ti}:m1 K (rI Sj λi j=>.int (i/j)) K0:=nv (λi j h=>by unfold MO at h;simp only[TZ,decide_eq_true_eq,decide_eq_true_eq]at h;exact(h.1,())) λ_ _ _=>rfl
theorem Et{K:Ti}:m1 K (rI (λ_ j=>0<j) λi j=>.int (i%j)) wb:=nv (λi j h=>by unfold NO at h;exact of_decide_eq_true h) λ_ _ _=>rfl
theorem Er{K:Ti}:m1 K (rI Si λi j=>.int (i^j.toNat)) GD:=nv (λi j h=>by unfold MN at h;simp only[TZ,TZ,decide_eq_true_eq,decide_eq_true_eq,decide_eq_true_eq]at h;exact(h.1.1,(),h.2)) λ_ _ _=>rfl
theorem BG{K:Ti}:m1 K (q0 λi j=>.bl (decide<|i<j)) DD:=ny λ_ _ _=>rfl
theorem nu{K:Ti}:m1 K (q0 λi j=>.bl (decide<|i<=j)) xr:=ny λ_ _ _=>rfl
theorem Ik{K:Ti}:m1 K (q0 λi j=>.bl (decide<|j<i)) t7:=ny λ_ _ _=>rfl
theorem BH{K:Ti}:m1 K (q0 λi j=>.bl (decide<|j<=i)) B7:=ny λ_ _ _=>rfl
section
def BR(K:Ti):R2:=λx y H Q=>∃a b d e,x=.ref a/\y=.ref b/\fA K H a d/\fA K H b e/\d.length+e.length<=eB/\
 (d=[]->Q (.ref b) H)/\(e=[]->Q (.ref a) H)/\∀p,H p=none->Q (.ref p) (upd H p<|.tup<|d++e)
theorem zfC:ix X (rV .Add) (BR X.K):=by
 intro j s σ H x y v u Q I M N h;obtain⟨a,b,R,W,rfl,rfl,w,A,i,G,J,L⟩:=h;cases M;cases N;obtain⟨d,r,U,z1⟩:=I.tuple w;obtain⟨k,e,Y,z2⟩:=I.tuple A;by_cases O:R=[]
 .refine Tf λE=>?_;obtain⟨⟨p,t,g,P⟩,Z,B,n,C⟩:=id U
  obtain⟨⟨S,l,data2,ad⟩,f,m,F,o⟩:=id Y;refine E ?_;subst B C m o;exact S4 (_,Z,rfl) (_,f,rfl) _e w_ O_ N_ (S' _ _)
   (tuple_addW0 a b d.toArray k.toArray n F t l P ad<|by simp[((r.PL).mpr O)]) (Z,f,(.ref b,H,I,rfl,G O))
 .refine HT.PD U Y (λz=>O<|(r.PL).mp z) (λz=>(.ref a,H,I,rfl,J<|(e.PL).mp z)) (λ_=>?_) (by rw[<-r.length,<-e.length];exact i)
  refine(.ref _,_,I.laid (λc T q=>Tj _ q) (Tv _) ?_,rfl,L _<|I.eC.fresh<|Tv _);exact(by rw[UD];exact i,_,r.append e,sj.new _ _)
def IJ(K:Ti):R2:=λx y H Q=>∃l b a I,x=.ref l/\y=.ref b/\gg K H l a/\gg K H b I/\a.length+I.length<=eB/\∀p,H p=none->Q (.ref p) (upd H p<|.lst<|a++I)
theorem Aa:ix X (rV .Add) (IJ X.K):=by
 intro j s σ H x y v u Q I E G h;obtain⟨l,b,W,zs,rfl,rfl,z,w,R,q⟩:=h;cases E;cases G;refine Tf λA=>?_;obtain⟨a,r,⟨o,n,e,U,Y,Z⟩,z1⟩:=I.list z;obtain⟨O,k,⟨C,B,i,d,f,g⟩,z2⟩:=I.list w;have S:=r.length;have T:=k.length;obtain⟨p,lC,P,J⟩:=o;obtain⟨L,M,N,m⟩:=C;refine A ?_;simp only at U Y Z d f g;subst U Y Z d f g;have t:a.toArray++O.toArray=(a++O).toArray:=by simp
 refine S4 (_,e,rfl) (_,i,rfl) noFill_list_add seq_list_add PySem.F.slot_list_add PySem.F.entry_list_add (PySem.F.args_list_add_2 _ _)
  (list_addW l b a.toArray O.toArray n B none none J m<|by rw[TK,TK];lia) (e,i,?_)
 rw[t];exact(.ref _,_,I.Px (r.append k) (by rw[UD];omega),rfl,q _ I.fresh)
end
noncomputable def vO(scope j:h6):h6:={scope with names:=scope.names.map λp=>if p.2==rL&&j.kind ==.function&&j.names.lookup p.1==cz .cell then (p.1,NH)else (p.1,p.2)}
theorem il(scope:h6)(env:o5):s8 scope env=vO scope env.scope:=by unfold s8 vO;rfl
structure SX(X:Cx)(sc:h6)(N T:List Str)(k:Nat):Prop where
 B9:X.env.scope=sc
 eN:X.N=N
 nd:N.Nodup
 calm:X.calm=cC
 room:k0 k X.A
 fn:∀x∈T,X.fn x=cC\/sc.names.lookup x=cz .local
noncomputable def vH(j:h6)(N:List Str)(i:Nat)(x:Str):Bool:=
 decide (N[i]? = cz x)&&(decide (j.names.lookup x=cz .local) || decide (j.names.lookup x=cz .cell) || decide (j.names.lookup x=cz .free))&&!(x==("__debug__" : Str))&&!(x==("__classdict__" : Str))
noncomputable def vj(j:h6)(N T:List Str)(i:Nat)(x:Str):Bool:=decide (x∈T)&&decide (N[i]? = cz x)&&(decide (j.names.lookup x=cz .local) || decide (j.names.lookup x=cz .cell))
noncomputable def wQ(j:h6)(x:Str):Bool:=decide (j.names.lookup x=cz .globalImplicit)&&!(x==("__name__" : Str))&&!(x==("__debug__" : Str))
section
theorem SX.var(h:SX X sc N T k)(c:vH sc N i x=cC):PE X (.Name x pos) (Ya i):=by unfold vH at c;simp only[TZ,y6,decide_eq_true_eq,F6]at c;obtain⟨⟨⟨y,Q⟩,I⟩,O⟩:=c;refine Lj (by rw[h.eN];exact y) ?_ I O;unfold N9;rw[h.B9];lia
theorem SX.loc(h:SX X sc N T k)(c:vj sc N T i x=cC):X.N[i]? = cz x/\L2.Loc X.env.scope x/\(X.fn x=cC\/X.env.scope.names.lookup x=cz .local):=by
 unfold vj at c;simp only[TZ,y6,decide_eq_true_eq]at c;refine(by rw[h.eN];exact c.1.2,?_,?_)
 .unfold L2.Loc;rw[h.B9];exact c.2
 .rw[h.B9];exact h.fn x c.1.1
theorem SX.DM(h:SX X sc N T k):X.N.Nodup:=by rw[h.eN];exact h.nd
theorem SX.yr(h:SX X sc N T k)(i:Nat)(c:vj sc N T i x=cC):PG X (.Name x pos) (Zm i):=by obtain⟨y,I,O⟩:=h.loc c;exact oM h.DM y I O
theorem SX.A_(h:SX X sc N T k)(g:Dx X es (gs is))(y:(sT es X.env).length=is.length:=by rfl)(I:(sT es X.env).findIdx? (·.1)=none:=by rfl):PG X (.Tuple es j pos) (pZ X.K<|.tp is):=
 Li h.calm g y I
theorem SX.set(h:SX X sc N T k)(i:Nat)(c:vj sc N T i x=cC)(y:PE X e te)(hs:rH e (cz (.Name x pos')) pos.line X.env=pure cL:=by rfl):PS X (.Assign [.Name x pos'] e pos) (gW te<|Zm i):=by obtain⟨I,O,Q⟩:=h.loc c;exact La h.DM I O y hs Q
theorem SX.gl(h:SX X sc N T k)(c:wQ sc x=cC):Gl X x/\x ≠ "__name__"/\(x==("__debug__"))=cL:=by
 unfold wQ at c;simp only[TZ,decide_eq_true_eq,F6]at c;refine(?_,?_,c.2)
 .show X.env.scope.names.lookup x=_
  rw[h.B9];exact c.1.1
 lia
noncomputable def cV(j scope:h6)(N:List Str)(z:List (Str×Nat)):Bool:=
 decide (scope.kind=.function)&&decide ((scope.names.map (·.1)).Nodup)&&scope.names.all (λp=> !(p.2==rL) || decide (j.names.lookup p.1=cz .cell) || decide (j.names.lookup p.1=cz .free))&&
 z.all λp=>decide (scope.names.lookup p.1=cz .free)&&decide (N[p.2]? = cz p.1)
noncomputable def Ox(own:List Str)(scope:h6)(j:List (Str×Nat)):Bool:=decide ((own++j.map (·.1)).Nodup)&&own.all (λx=>decide (scope.names.lookup x=cz .local) || decide (scope.names.lookup x=cz .cell))
theorem SX.B?(h:SX X sc N T k)(c:cV sc scope N fr=cC):rf X scope fr:=by
 unfold cV at c;simp only[TZ,decide_eq_true_eq,zt,y6,F6]at c;obtain⟨⟨⟨O,Q⟩,U⟩,I⟩:=c;refine(O,Q,λp y Y=>?_,λp y=>((I p y).1,by rw[h.eN];exact(I p y).2));have e:X.env.kindOf p.1=sc.names.lookup p.1:=by show X.env.scope.names.lookup p.1=_;rw[h.B9]
 rw[e];rcases U p y with(q|q)|q
 .rw[Y]at q;exact absurd q ()
 .exact .inl q
 .exact .inr q
theorem X4(scope j:h6)(x:Str):(vO scope j).names.lookup x=(scope.names.lookup x).map λk=>if (k==rL&&j.kind ==.function&&j.names.lookup x==cz .cell)then NH else k:=by
 unfold vO;dsimp only;generalize scope.names=l
 induction l with
 |nil=>rfl
 | cons p r I=>
  obtain⟨n,O⟩:=p;rw[UL];cases hx:x==n with
  |true=>
   have e:=by simpa using hx
   subst e;dsimp only;split
   .rename_i y;simp only[vb,vb,beq_self_eq_true];dsimp only[NS];rw[DZ y]
   .rename_i y;simp only[vb,vb,beq_self_eq_true];dsimp only[NS];rw[DJ y]
  |false=>
   dsimp only;split
   .rw[vb,vb,hx];exact I
   .rw[vb,vb,hx];exact I
theorem SX.comp(h:SX X sc N T k)(c:Ox own scope fr=cC):
 SX (jV X scope (own++fr.map (·.1)) fp s2 H2) (vO scope sc) (own++fr.map (·.1)) own k:=by
 unfold Ox at c;simp only[TZ,decide_eq_true_eq,zt,y6]at c;refine(?_,rfl,c.1,h.calm,h.room,λx y=>?_)
 .show s8 scope X.env=_
  rw[il,h.B9]
 .rcases c.2 x y with q|q
  .right;simp only[X4,q];rfl
  .left
   show(scope.names.lookup x==cz .cell)=cC;rw[q];rfl
end
mutual
def ja:D->PyData
 |.d7=>.none
 |.bl b=>.bool b
 |.int i=>.int i
 |.str x=>.str x
 |.tup a=>.tuple (pa a)
 |.lst a=>.list (pa a)
 |.mc _ _=>.none
 |.lC _ _=>.none
def pa:List D->List PyData
 |[]=>[]
 |d::ds=>ja d::pa ds
end
theorem uq(h:i9 (.mc ks vs)=cC):False:=by simp[i9]at h
theorem uo(h:i9 (.lC ks vs)=cC):False:=by simp[i9]at h
mutual
theorem HA:∀x y:D,i9 x=cC->i9 y=cC->tx (ja x) (ja y)=i0 x y
 |.d7,y,_,h=>by cases y<;>first|exact(uq h).elim|exact(uo h).elim|simp[ja,tx,i0]
 |.bl a,y,_,h=>by cases y<;>first|exact(uq h).elim|exact(uo h).elim|simp[ja,tx,i0]
 |.int a,y,_,h=>by cases y<;>first|exact(uq h).elim|exact(uo h).elim|simp[ja,tx,i0]
 |.str a,y,_,h=>by cases y<;>first|exact(uq h).elim|exact(uo h).elim|simp[ja,tx,i0]
 |.mc c n,y,h,_=>(uq h).elim
 |.lC c n,y,h,_=>(uo h).elim
 |.tup xs,y,h1,h2=>by
  cases y with
  |tup b=>simp only[i9]at h1 h2;simp only[ja,tx,i0];exact O6 xs b h1 h2
  |mc c n=>exact(uq h2).elim
  |lC c n=>exact(uo h2).elim
  |_=>simp[ja,tx,i0]
 |.lst xs,y,h1,h2=>by
  cases y with
  |lst b=>simp only[i9]at h1 h2;simp only[ja,tx,i0];exact O6 xs b h1 h2
  |mc c n=>exact(uq h2).elim
  |lC c n=>exact(uo h2).elim
  |_=>simp[ja,tx,i0]
theorem O6:∀xs ys:List D,o4 xs=cC->o4 ys=cC->S9 (pa xs) (pa ys)=pY xs ys
 |[],ys,_,_=>by cases ys<;>simp[pa,S9,pY]
 | x::xs,ys,h1,h2=>by
  cases ys with
  |nil=>simp[pa,S9,pY]
  |cons y ys=>
   simp only[o4,TZ]at h1 h2;simp only[pa,S9,pY];rw[HA x y h1.1 h2.1,O6 xs ys h1.2 h2.2]
end
mutual
theorem Pt:∀x:D,i9 x=cC->(ja x).canLay0=cC
 |.d7,_=>by simp[ja,E9]
 |.bl a,_=>by simp[ja,E9]
 |.int a,_=>by simp[ja,E9]
 |.str a,h=>by simpa[ja,E9,i9,PyData.strOk]using h
 |.tup xs,h=>by simp only[i9]at h;simp only[ja,E9];exact Io xs h
 |.lst xs,h=>by simp only[i9]at h;simp only[ja,E9];exact Io xs h
 |.mc c n,h=>(uq h).elim
 |.lC c n,h=>(uo h).elim
theorem Io:∀xs:List D,o4 xs=cC->_s (pa xs)=cC
 |[],_=>by simp[pa,_s]
 |x::xs,h=>by simp only[o4,TZ]at h;simp only[pa,_s];rw[Pt x h.1,Io xs h.2];rfl
end
mutual
theorem U6:∀x:D,(ja x).depth=deep x
 |.d7=>by simp[ja,A6,deep]
 |.bl a=>by simp[ja,A6,deep]
 |.int a=>by simp[ja,A6,deep]
 |.str a=>by simp[ja,A6,deep]
 |.mc c n=>by simp[ja,A6,deep]
 |.lC c n=>by simp[ja,A6,deep]
 |.tup b=>by simp only[ja,A6,deep];rw[O5 b]
 |.lst b=>by simp only[ja,A6,deep];rw[O5 b]
theorem O5:∀xs:List D,Ri (pa xs)=r0 xs
 |[]=>by simp[pa,Ri,r0]
 |x::xs=>by simp only[pa,Ri,r0];rw[U6 x,O5 xs]
end
theorem yC(h:ml d=cC):i9 d=cC:=by unfold ml at h;rw[TZ]at h;exact h.2
theorem wX(h:ml d=cC):SeqAt.shaped (ja d)=cC:=by unfold ml at h;rw[TZ,decide_eq_true_eq]at h;unfold SeqAt.shaped;rw[Pt d h.2,Bool.true_and,U6];lia
section
variable{X:Cx}{pins:TW}{σ:St}{H0 H:Hp}{s:el}
mutual
theorem C3(I:Inv X pins σ H s)(sub:ft H0 H):∀{d:D} {v:V} {u:dj},i9 d=cC->Rep X.K H0 d v->RelV v u->∃y,Reads s.heap u (ja d) y
 |.d7,v,u,_,h,r=>by cases (show v=.d7 from h);cases r;exact(_,.none)
 |.bl b,v,u,_,h,r=>by cases (show v=.bl b from h);cases r;exact(_,.bool b)
 |.int i,v,u,_,h,r=>by cases (show v=.int i from h);obtain⟨t,rfl⟩:=r;exact(_,.int i t)
 |.str x,v,u,_,h,r=>by cases (show v=.str x from h);obtain⟨t,rfl⟩:=r;exact(_,.str x t)
 |.mc c n,v,u,o,_,_=>(uq o).elim
 |.lC c n,v,u,o,_,_=>(uo o).elim
 |.tup ds,v,u,o,h,r=>by obtain⟨a,e,rfl,O,Q⟩:=(show ∃a e,v=.ref a/\fA X.K H0 a e/\dn X.K H0 ds e from h);cases r;simp only[i9]at o;obtain⟨g,U,⟨l,Y,Z,n,f⟩,k⟩:=I.tuple<|i7 sub O;obtain⟨y,j⟩:=L0 I sub o Q U;exact(y,.tuple Y Z f<|by simpa using j)
 |.lst ds,v,u,o,h,r=>by obtain⟨a,e,rfl,O,Q⟩:=(show ∃a e,v=.ref a/\gg X.K H0 a e/\dn X.K H0 ds e from h);cases r;simp only[i9]at o;obtain⟨g,U,p,k⟩:=I.list<|sub.seq O;obtain⟨l,Y,Z,n,f⟩:=p.isList;obtain⟨y,j⟩:=L0 I sub o Q U;exact(_,.list Y Z f<|by simpa using j)
theorem L0(I:Inv X pins σ H s)(sub:ft H0 H):∀{ds:List D} {xs:List V} {j:List dj},o4 ds=cC->dn X.K H0 ds xs->eo xs j->∃y,ReadsAll s.heap j (pa ds) y
 |[],xs,j,_,h,r=>by rw[h.o8]at r;cases r;exact(_,.nil)
 | d::ds,xs,j,o,h,r=>by
  obtain⟨x,t,e,O,Q⟩:=h.l9;subst e;simp only[o4,TZ]at o;cases r with
  |cons U a=>
   obtain⟨y,Y⟩:=C3 I sub o.1 O U;obtain⟨bs,Z⟩:=L0 I sub o.2 Q a;exact(_,.cons Y Z)
end
end
def RG(K:Ti):R2:=λx y H Q=>∃a b I,ft a H/\Rep K a b x/\Rep K a I y/\ml b=cC/\ml I=cC/\Q (.bl<|i0 b I) H
def RF(K:Ti):R2:=λx y H Q=>∃a b I,ft a H/\Rep K a b x/\Rep K a I y/\ml b=cC/\ml I=cC/\Q (.bl<|!i0 b I) H
theorem Cf(Y:X.A.units+64<rZ):ix X (m7 .Eq) (RG X.K):=by intro a s m H x y v u Q I Z i h;refine Tf λb=>?_;obtain⟨j,k,l,sub,d,e,O,U,q⟩:=h;obtain⟨as,f⟩:=C3 I sub (yC O) d Z;obtain⟨bs,g⟩:=C3 I sub (yC U) e i;exact b<|eq_dataH f g (wX O) (wX U) Y (.bl _,H,I,by rw[HA _ _ (yC O) (yC U)];rfl,q)
theorem Ce(Y:X.A.units+64<rZ):ix X (m7 .NotEq) (RF X.K):=by intro a s m H x y v u Q I Z i h;refine Tf λb=>?_;obtain⟨j,k,l,sub,d,e,O,U,q⟩:=h;obtain⟨as,f⟩:=C3 I sub (yC O) d Z;obtain⟨bs,g⟩:=C3 I sub (yC U) e i;exact b<|ne_dataH f g (wX O) (wX U) Y (.bl _,H,I,by rw[HA _ _ (yC O) (yC U)];rfl,q)
theorem nz{K:Ti}:m1 K (RG K) gB:=λa H x y b O d Q s U Y I q=>by
 unfold gB at I;split at I
 .rename_i h;cases I;exact(a,b,O,s,U,Y,h.1,h.2,q _ H a (Ext.refl s) rfl)
 lia
theorem nq{K:Ti}:m1 K (RF K) m8:=λa H x y b O d Q s U Y I q=>by
 unfold m8 at I;split at I
 .rename_i h;cases I;exact(a,b,O,s,U,Y,h.1,h.2,q _ H a (Ext.refl s) rfl)
 lia
theorem SX.ux(h:SX X sc N T k):X.A.units+64<rZ:=by have:=h.room.un;lia
section
variable{a b c:d8}{pos p:f9}
theorem xR(j:PV X a fa)(y:PV X b fb):PV X (.BinOp a .Sub b pos) (zM JC fa fb):=Yk Lz Ep j y
theorem yW(j:PV X a fa)(y:PV X b fb):PV X (.BinOp a .FloorDiv b pos) (zM K0 fa fb):=Yk Fv Ew j y
theorem qu(j:PV X a fa)(y:PV X b fb):PV X (.BinOp a .Mod b pos) (zM wb fa fb):=Yk LC Et j y
theorem nY(j:PV X a fa)(y:PV X b fb):PV X (.BinOp a .Pow b pos) (zM GD fa fb):=Yk LB Er j y
theorem OL(j:PV X a fa)(y:PV X b fb):PV X (.Compare a [.GtE] [b] pos) (zM B7 fa fb):=oj LG BH j y<|ZL b
theorem XN(h:SX X sc N T k)(j:PV X a fa)(y:PV X b fb):PV X (.Compare a [.Eq] [b] pos) (zM gB fa fb):=oj (Cf h.ux) nz j y<|ZL b
theorem OI(h:SX X sc N T k)(j:PV X a fa)(y:PV X b fb):PV X (.Compare a [.NotEq] [b] pos) (zM m8 fa fb):=oj (Ce h.ux) nq j y<|ZL b
theorem IT(j:PV X a fa)(y:PV X b fb):l0 X (.Compare a [.Lt] [b] pos) (sB<|zM DD fa fb):=ZT LD BG j y<|ZL b
theorem Ym(j:PV X a fa)(y:PV X b fb):l0 X (.Compare a [.Gt] [b] pos) (sB<|zM t7 fa fb):=ZT OS Ik j y<|ZL b
theorem IU(j:PV X a fa)(y:PV X b fb):l0 X (.Compare a [.GtE] [b] pos) (sB<|zM B7 fa fb):=ZT LG BH j y<|ZL b
theorem yb(h:SX X sc N T k)(j:PV X a fa)(y:PV X b fb):l0 X (.Compare a [.Eq] [b] pos) (sB<|zM gB fa fb):=ZT (Cf h.ux) nz j y<|ZL b
theorem QM(h:SX X sc N T k)(j:PV X a fa)(y:PV X b fb):l0 X (.Compare a [.NotEq] [b] pos) (sB<|zM m8 fa fb):=ZT (Ce h.ux) nq j y<|ZL b
theorem XJ{K:Ti}{H:Hp}{d:D}(h:Rep K H d .d7):d=.d7:=by
 cases d with
 |d7=>rfl
 |bl b=>exact V.noConfusion h
 |int b=>exact V.noConfusion h
 |str b=>exact V.noConfusion h
 |tup b=>obtain⟨a,f,e,_⟩:=h;cases e
 |lst b=>obtain⟨a,f,e,_⟩:=h;cases e
 |mc c n=>obtain⟨a,f,e,_⟩:=h;cases e
 |lC c n=>obtain⟨a,f,e,_⟩:=h;cases e
theorem Eu{K:Ti}:m1 K (λx y H Q=>y=.d7/\Q (.bl<|decide<|x=.d7) H) MK:=λa H x y b Y d Q s I U O q=>by
 unfold MK at O;split at O<;>cases O;refine(U,q _ H a (Ext.refl s) ?_);split
 .rw[I];rfl
 .rw[decide_eq_false (λe=>‹b=.d7->False› (by rw[e]at I;exact(XJ I)))];rfl
theorem ib{K:Ti}:m1 K (λx y H Q=>y=.d7/\Q (.bl<|!decide (x=.d7)) H) Kp:=λa H x y b Y d Q s I U O q=>by
 unfold Kp at O;split at O<;>cases O;refine(U,q _ H a (Ext.refl s) ?_);split
 .rw[I];rfl
 .rw[decide_eq_false (λe=>‹b=.d7->False› (by rw[e]at I;exact(XJ I)))];rfl
theorem EO(j:PV X a fa)(y:PV X b fb):l0 X (.Compare a [.Is] [b] pos) (sB<|zM MK fa fb):=ZT LF Eu j y<|ZL b
theorem iu(j:PV X a fa)(y:PV X b fb):l0 X (.Compare a [.IsNot] [b] pos) (sB<|zM Kp fa fb):=ZT Fs ib j y<|ZL b
theorem yt{K:Ti}{H:Hp}{ds:List D}{v:V}(h:Rep K H (.tup ds) v):∃a xs,v=.ref a/\fA K H a xs/\dn K H ds xs:=h
theorem pq{K:Ti}{H:Hp}{ds:List D}{v:V}(h:Rep K H (.lst ds) v):∃a xs,v=.ref a/\gg K H a xs/\dn K H ds xs:=h
theorem yx{K:Ti}{H:Hp}{ds:List D}{a:di}{xs:List V}(y:fA K H a xs)(I:dn K H ds xs):Rep K H (.tup ds) (.ref a):=(a,xs,rfl,y,I)
theorem XI{K:Ti}{H:Hp}{ds:List D}{a:di}{xs:List V}(y:gg K H a xs)(I:dn K H ds xs):Rep K H (.lst ds) (.ref a):=(a,xs,rfl,y,I)
theorem Ex{K:Ti}:m1 K (λx y H Q=>q0 (λi j=>.int (i+j)) x y H Q\/BR K x y H Q) j6:=λf H x y t u d Q s Z l I q=>by
 unfold j6 at I;split at I
 .cases I;exact .inl (_,_,jP Z,jP l,q _ H f (Ext.refl s) rfl)
 .rename_i r w
  split at I<;>cases I
  rename_i m
  obtain⟨a,n,rfl,g,O⟩:=yt Z;obtain⟨b,o,rfl,h,U⟩:=yt l;refine .inr (a,b,n,o,rfl,rfl,i7 s g,i7 s h,vX (by rw[O.length,U.length];exact m),λe=>?_,λe=>?_,λp k=>q _ _ _ (Ext.alloc s k _)<|yx (fA.of zF)<|(O.append U).mono (ju (jy s k) _))
  .have Y:=by
    have:=O.length;rw[e]at this;exact UH this.symm
   subst Y;exact q _ H f (Ext.refl s)<|yx h U
  .have Y:=by
    have:=U.length;rw[e]at this;exact UH this.symm
   subst Y;exact q _ H f (Ext.refl s) (by rw[E7];exact yx g O)
 .cases I
theorem jn(j:PV X a fa)(y:PV X b fb):PV X (.BinOp a .Add b pos) (zM j6 fa fb):=Yk (Y?.or zfC) Ex j y
end
theorem dA(Q:A.handled=none)(k:Sk)(I y:di)(U:y≠I)(O:Array dj):
 Walks P w A I [I,y] [I] O.size (λi v=>O[i]? = cz v) (λi h=>hG k h I y i/\iN k h y O):=by
 cases k
 .exact Walks.list Q I y U O
 .exact Walks.tuple Q I y U O
theorem XO(y:List Int):∀n,preSum (λi=>y.getD i 0) n=(y.take n).sum
 |0=>by rfl
 | n+1=>by
  simp only[preSum,(XO y n)];by_cases h:n<y.length
  .rw[List.take_succ_eq_append_getElem h,List.sum_append]
   simp[h]
  .rw[Rf (),Rf ()]
   simp[h]
section
theorem zew(z:X.calm=cC):QX X (.builtin "sum") (λxs H Q=>∃p k ys y,xs=[.ref p]/\h5 k X.K H p ys/\ys=(y:List Int).map V.int/\Q (.int y.sum) H):=by
 intro j s L H J G Q I w h;obtain⟨p,k,ys,y,rfl,m,rfl,q⟩:=h;obtain⟨u,rfl,O⟩:=vJ w;cases O;obtain⟨a,r,d,E⟩:=I.sq m;have lt:=d.lt;have U:=r.length;rw[Ua]at U;refine call_sum_walkG<|Ke d (_,[_,p],[_],a.toArray.size,_,_,λi=>y.getD i 0,rfl,dA (A:=X.A.in1) (I.ok.hd z) k _ p (TU lt) a.toArray,(ZN k _ p,d.at λo e=>Tj _ e),?_,?_,?_)
 .intro b Y
  rw[Ui];simp only[Tz,TQ,or_false]at Y;rcases Y with rfl|rfl
  .exact sd _
  .exact UT lt
 .intro i v n
  have Z:=by simpa using n
  have g:i<y.length:=by rw[U];exact(TR.mp Z).1
  obtain⟨u,f,O⟩:=r.get (i:=i) (x:=.int y[i]) (by simp[g]);rw[Z]at f;cases f;obtain⟨t,rfl⟩:=O;exact(t,by simp[g])
 .intro C F B l
  have e:preSum (λi=>y.getD i 0) a.toArray.size=y.sum:=by rw[XO,Rf (by rw[TK,U];exact Tv _)]
  refine(.int y.sum,H,I.kept<|λb u e=>l b u ?_ (Tj _ e),(B,by rw[e]),q);simp only[Tz,TQ,or_false];exact TU<|TH e
noncomputable def HY:V->Option Bool
 |.d7=>cz cL
 |.bl b=>cz b
 |.int i=>cz (i != 0)
 |_=>none
theorem ze3(r:RelV x u)(e:HY x=cz b)(q:Q b s):wpAny (d5 P w) A (DT u) Q E s:=by
 cases x with
 |d7=>cases r;cases e;exact λ_ _ _=>q
 |bl c=>cases r;cases e;exact u9 q
 |int i=>obtain⟨t,rfl⟩:=r;cases e;exact PyProof.Rows.truthy_int q
 |_=>cases e
def tH:List V->Option (List Bool)
 |[]=>cz []
 |x::r=>(HY x).bind λb=>(tH r).map λl=>b::l
theorem Wf:∀{xs:List V} {bs:List Bool},tH xs=cz bs->bs.length=xs.length/\∀i x,xs[i]? = cz x->HY x=cz (bs.getD i cL)
 |[],bs,h=>by cases h;exact(rfl,λi x e=>by simp at e)
 |y::xs,bs,h=>by
  obtain⟨b,a,h⟩:=ze h;obtain⟨l,I,h⟩:=zB h;subst h;obtain⟨O,Q⟩:=Wf I;refine(by simp[O],λi x e=>?_);cases i with
  |zero=>simp at e;subst e;simpa using a
  |succ i=>simpa using Q i x (by simpa using e)
theorem ze0(bs:List Bool):(Tn bs.length).any (λi=>bs.getD i cL)=bs.any id:=by
 rw[y7];simp only[R3,Tp,id_eq];constructor
 .rintro⟨i,a,h⟩
  rw[Tr,To a]at h;exact(_,uC a,h)
 .rintro⟨b,y,h⟩
  obtain⟨i,a,e⟩:=List.mem_iff_getElem.mp y;refine(i,a,?_);rw[Tr,To a,W_,e];exact h
theorem zeU(Y:X.calm=cC):QX X (.builtin "any") (λxs H Q=>∃p k ys bs,xs=[.ref p]/\h5 k X.K H p ys/\tH ys=cz bs/\Q (.bl (bs.any id)) H):=by
 intro j s P H N M Q I Z h;obtain⟨p,k,ys,bs,rfl,w,z,q⟩:=h;obtain⟨u,rfl,y⟩:=vJ Z;cases y;obtain⟨a,r,d,G⟩:=I.sq w;have O:=r.length;obtain⟨l,m⟩:=Wf z;refine call_any_walk<|Ke d (_,[_,p],[_],a.toArray.size,_,_,λi=>bs.getD i cL,rfl,dA (A:=X.A.in1) (I.ok.hd Y) k _ p (TU d.lt) a.toArray,(ZN k _ p,d.at λo e=>Tj _ e),?_,?_)
 .intro i v J E C B n
  have U:=by simpa using B
  have g:i<ys.length:=by rw[O];exact(TR.mp U).1
  obtain⟨u,f,y⟩:=r.get (i:=i) (x:=ys[i]) (by simp[g]);rw[U]at f;cases f;exact ze3 y (m i ys[i] (by simp[g])) n
 .intro F L t
  have e:(Tn a.toArray.size).any (λi=>bs.getD i cL)=bs.any id:=by rw[TK,<-O,<-l];exact ze0 bs
  refine(_,H,I.kept<|λb u e=>t b u ?_ (Tj _ e),by rw[e];rfl,q);simp only[Tz,TQ,or_false];exact TU<|TH e
end
section
variable{X:Cx}{sc:h6}{N T:List Str}{k:Nat}{e a b c:d8}{pos p:f9}{f g:CO D}{fq:CO (Sk×List D)}
theorem Ij{K:Ti}{H:Hp}{k:Sk}{a:di}{xs:List V}(h:h5 k K H a xs):gg K H a xs\/fA K H a xs:=by
 cases k
 .exact .inl h
 .exact .inr h
theorem xm(h:SX X sc N T k)(c:wQ sc "len" = cC)(z:X.mg "len" = none)(y:PQ X e fq)(hs:ed [e] X.env=[(cL,dy e X.env)]:=by rfl):PV X (.Call (.Name "len" p) [e] [] pos) (JR fq):=
 qV (vQ aD (h.gl c).1 z PySem.boot_len (zZ y j7 hs) () () hs rfl) λt H Q I=>by refine Tf λO=>?_;obtain⟨g,o,d,m,U,q⟩:=I;obtain⟨⟨Y,i⟩,j,Z⟩:=zB U;refine O ?_;subst Z;exact(g,o,Y,i,m,j,λa n f b ext l s r=>(a,n,rfl,Ij l,q _ f b ext (show _=_ by rw[r.length])))
theorem jC(h:SX X sc N T k)(c:wQ sc "tuple" = cC)(z:X.mg "tuple" = none)(U:PQ X e fq)(hs:ed [e] X.env=[(cL,dy e X.env)]:=by rfl):PV X (.Call (.Name "tuple" p) [e] [] pos) (jx fq):=
 qV (XR V0 (h.gl c).1 z PyProof.Rows.boot_tuple (zZ U j7 hs) () () hs rfl) λw H Q Y=>by
  refine Tf λZ=>?_;obtain⟨g,u,d,s,n,q⟩:=Y;obtain⟨⟨y,i⟩,j,m⟩:=zB n;refine Z ?_;subst m;refine(g,u,y,i,s,j,λa t f b ext I o r=>(a,t,rfl,?_));cases y with
  |L=>exact .inl (I,λl O=>q _ _ _ (ext.trans<|Ext.alloc ext.sub O _)<|yx (fA.of zF)<|r.mono<|ju (jy ext.sub O) _)
  |T=>exact .inr (I,q _ f b ext (yx (o rfl) r))
theorem xW{H j:Hp}(s:ft H j){a:di}(h:j a=none):H a=none:=by
 cases z:H a with
 |none=>rfl
 |some o=>rw[s a o z]at h;cases h
theorem bK(h:SX X sc N T k)(c:wQ sc "list" = cC)(z:X.mg "list" = none)(I:PQ X e fq)(hs:ed [e] X.env=[(cL,dy e X.env)]:=by rfl):PO X (.Call (.Name "list" p) [e] [] pos) (Vb fq):=
 qV (XR aB (h.gl c).1 z PyProof.Rows.boot_list (zZ I j7 hs) () () hs rfl) λw H Q O=>by refine Tf λU=>?_;obtain⟨g,s,d,o,Y,q⟩:=O;obtain⟨⟨Z,i⟩,j,m⟩:=zB Y;refine U ?_;subst m;exact(g,s,Z,i,o,j,λa f t b ext n u r=>(a,f,rfl,Ij n,λl y=>q l f _ b (ext.trans<|Ext.hide ext.sub y _) (xW ext.s1 y) (jy ext.sub y) zF r))
theorem Wl:∀{ds:List D} {n:Int},gY ds=cz n->∃y:List Int,ds=y.map D.int/\n=y.sum
 |[],n,h=>by cases h;exact([],rfl,rfl)
 | d::ds,n,h=>by
  cases d with
  |int i=>
   obtain⟨s,e,h⟩:=zB h;obtain⟨y,rfl,rfl⟩:=Wl e;exact(i::y,rfl,by rw[<-h];simp)
  |_=>cases h
theorem Ww{K:Ti}{H:Hp}:∀{y:List Int} {xs:List V},dn K H (y.map D.int) xs->xs=y.map V.int
 |[],xs,h=>h.o8
 |z::y,xs,h=>by obtain⟨x,r,e,I,O⟩:=dn.l9 h;rw[e,jP I,Ww O];rfl
theorem Yi(h:SX X sc N T k)(c:wQ sc "sum" = cC)(z:X.mg "sum" = none)(O:PQ X e fq)(hs:ed [e] X.env=[(cL,dy e X.env)]:=by rfl):PV X (.Call (.Name "sum" p) [e] [] pos) (BI fq):=
 qV (vQ (zew h.calm) (h.gl c).1 z PyProof.Rows.boot_sum (zZ O j7 hs) () () hs rfl) λA H Q U=>by refine Tf λY=>?_;obtain⟨g,u,d,o,y,q⟩:=U;obtain⟨⟨I,w⟩,i,y⟩:=ze y;obtain⟨n,Z,j⟩:=zB y;subst j;obtain⟨t,l,rfl⟩:=Wl Z;refine Y ?_;subst l;exact(g,u,I,_,o,i,λa s f b ext m x r=>(a,I,s,t,rfl,m,Ww r,q _ f b ext rfl))
theorem Ec{K:Ti}{H:Hp}{d:D}{x:V}{b:Bool}(h:Rep K H d x)(e:Of d=cz b):HY x=cz b:=by
 cases d with
 |d7=>cases h;exact e
 |bl c=>cases h;exact e
 |int i=>cases h;exact e
 |_=>cases e
theorem dM{K:Ti}{H:Hp}:∀{ds:List D} {xs:List V} {bs:List Bool},dn K H ds xs->gU ds=cz bs->tH xs=cz bs
 |[],xs,bs,h,e=>by rw[h.o8];exact e
 |d::ds,xs,bs,h,e=>by obtain⟨x,r,y,I,O⟩:=h.l9;obtain⟨b,a,e⟩:=ze e;obtain⟨l,Q,e⟩:=zB e;subst y e;show(HY x).bind _=_;rw[Ec I a];rw[dM O Q];rfl
theorem BW(h:SX X sc N T k)(c:wQ sc "any" = cC)(z:X.mg "any" = none)(O:PQ X e fq)(hs:ed [e] X.env=[(cL,dy e X.env)]:=by rfl):PV X (.Call (.Name "any" p) [e] [] pos) (Hm fq):=
 qV (vQ (zeU h.calm) (h.gl c).1 z PyProof.Rows.boot_any (zZ O j7 hs) () () hs rfl) λu H Q U=>by refine Tf λY=>?_;obtain⟨g,o,d,m,y,q⟩:=U;obtain⟨⟨I,s⟩,i,y⟩:=ze y;obtain⟨bs,Z,j⟩:=zB y;refine Y ?_;subst j;exact(g,o,I,_,m,i,λa n f b ext l t r=>(a,I,n,bs,rfl,l,dM r Z,q _ f b ext rfl))
theorem Vi(h:SX X sc N T k)(c:wQ sc "int" = cC)(z:X.mg "int" = none)(O:PV X e f)(hs:ed [e] X.env=[(cL,dy e X.env)]:=by rfl):PV X (.Call (.Name "int" p) [e] [] pos) (Vd f):=
 qV (XR zeT (h.gl c).1 z PyProof.Rows.boot_int (zZ O j7 hs) () () hs rfl) λo H Q U=>by
  obtain⟨j,n,d,m,y,q⟩:=U;obtain⟨I,l,y⟩:=ze y;refine(j,n,I,m,l,λv g a ext r=>?_);cases I with
  |int i=>cases y;exact .inl (i,by rw[jP r],q _ g a ext rfl)
  |bl b=>cases y;exact .inr (b,by rw[r],q _ g a ext rfl)
  |_=>cases y
theorem BV(h:SX X sc N T k)(c:wQ sc "max" = cC)(z:X.mg "max" = none)(E:PV X a f)(U:PV X b g)(hs:ed [a,b] X.env=[(cL,dy a X.env),(cL,dy b X.env)]:=by rfl)(I:ed [b] X.env=[(cL,dy b X.env)]:=by rfl):
 PV X (.Call (.Name "max" p) [a,b] [] pos) (ue f g):=
 qV (vQ (zey h.calm) (h.gl c).1 z PyProof.Rows.boot_max (zZ E (zZ U j7 I)<|by rw[hs,I]) () () (by rw[hs,I]) (by rw[I];rfl)) λK H Q Y=>by refine Tf λZ=>?_;obtain⟨s,o,d,n,y,q⟩:=Y;obtain⟨i,l,y⟩:=ze y;obtain⟨w,B,l⟩:=ze l;obtain⟨j,O,y⟩:=zB y;obtain⟨A,C,O⟩:=ze O;refine Z ?_;subst y;refine(s,o,w,n,B,λv G e x r=>(e,o,A,n.ext x,C,λJ t u F m=>(i,j,?_,q _ t u (x.trans F) rfl)));rw[j3 l]at r;rw[j3 O]at m;rw[jP r,jP m]
end
section
variable{X:Cx}{N T:List Str}{e a b c:d8}{pos p p2:f9}{f g:CO D}{fq:CO (Sk×List D)}
theorem fM(h:hO n i=cz j):xx n i=cz j:=by
 unfold hO at h;unfold xx;split at h
 .rename_i y;rw[DZ y.1,DZ y.2];exact h
 .split at h
  .rename_i y I;rw[DJ (),DZ ()];exact h
  .cases h
theorem jh(E:PQ X a fq)(P:PV X b g)(hs:df b:=by intro _ _;rfl):PV X (.Subscript a b pos) (cI fq g):=
 qV (Lp (L?.or Mq) E P hs) λN H Q B=>by
  refine Tf λF=>?_;obtain⟨n,m,d,l,y,q⟩:=B;obtain⟨⟨U,u⟩,w,y⟩:=ze y;obtain⟨i,O,y⟩:=ze y;obtain⟨t,z,O⟩:=ze O;obtain⟨j,A,y⟩:=ze y;refine F ?_;refine(n,m,U,u,l,w,λp h J e ext Y K r=>(e,m,t,l.ext ext,z,λM o s I f=>?_));rw[j3 O]at f;obtain⟨x,C,G⟩:=r.get y;have Z:uP h i=cz x:=by unfold uP;rw[r.length,fM A];exact C
  have k:=q x o s (ext.trans I)<|G.mono I.s0;cases U with
  |L=>exact .inl (p,h,i,x,rfl,jP f,I.s1.seq Y,Z,k)
  |T=>exact .inr (p,h,i,x,rfl,jP f,i7 I.s1 Y,Z,k)
theorem QH{P:hH}{w:hB}{A:l6}{E:EQ}{s:el}{t B:di}{y:Array dj}{O U:dj}{lo j:Option Int}{Q:EQ}(I:Dt s.heap t y)(hs:s.heap.IsSliceOf B O U .none)(Y:tQ O lo)(Z:tQ U j)
 (z:HT.cI y.size 0 lo=0/\HT.cI y.size y.size j=y.size) (h:Q (.ref t) s):wpAny (d5 P w) A (ub (.ref t)<|.ref B) Q E s:=by
 obtain⟨os,a,b,d⟩:=id hs;unfold ub
 try with_reducible refine q8 ?_
 first|refine Th (Ts ?_)|skip
 refine Th<|wpAny_sequenceKey I.typeIs () ?_;refine Th (Ux I.typeIs D9
  (qj D9 I.typeIs entry_tuple_getitem ?_ (x? _ _)))
 show wpAny _ _ (Builtin.Tuple.tupleItemsOf (.ref t) >>= _) _ _ s;refine Th<|Nr I ?_;refine Th<|uG (os,a,b) ?_;rw[DZ ()];refine Th<|HT.QU hs Y Z ?_;show wpAny _ _ (if _=cC then _ else _) _ _ s;rw[DZ (by
  rw[z.1,z.2];simp)]
 refine Th ?_;unfold Builtin.Tuple.tupleIsExact;refine Th<|uG I.typeIs<|Ts ?_;rw[DZ ()];exact Th<|sQ<|Ts (_,rfl,Ts h)
def OD(K:Ti):V->Option Int->Option Int->Hp->VK->Prop:=λx lo d H Q=>∃a b,x=.ref a/\fA K H a b/\(HT.cI b.length 0 lo=0/\HT.cI b.length b.length d=b.length->Q (.ref a) H)/\∀p,H p=none->Q (.ref p) (upd H p<|.tup<|Hw b lo d)
theorem Ey:N7 X (OD X.K):=by
 intro d s p H x v n o lo g m Q I y i O U h;obtain⟨a,b,rfl,Y,k,l⟩:=h;by_cases e:HT.cI b.length 0 lo=0/\HT.cI b.length b.length g=b.length
 .cases y
  obtain⟨f,r,Z,t⟩:=I.tuple Y;have j:f.toArray.size=b.length:=by rw[TK];exact r.length.symm
  exact("tuple",_,D9.lookup,Z.typeIs,QH Z i O U (by rw[j];exact e) (.ref a,H,I,rfl,k e))
 .exact Il d s p H (.ref a) v n o lo g m Q I y i O U (a,b,rfl,Y,e,l)
theorem Xe(n d:Nat)(o:Option Int):cU n d o=HT.cI n d o:=by cases o<;>rfl
theorem zfH{K:Ti}{H:Hp}{ds:List D}{xs:List V}(r:dn K H ds xs)(lo j:Option Int):dn K H (gh ds lo j) (Hw xs lo j):=by unfold gh Hw;rw[<-Xe,<-Xe,r.length];exact(r.drop _).take _
theorem zet{ds:List D}{lo j:Option Int}(h:HT.cI ds.length 0 lo=0/\HT.cI ds.length ds.length j=ds.length):gh ds lo j=ds:=by unfold gh;simp only[Xe,Xe,h.1,h.2];simp
noncomputable def tB(K:Ti)(f:CO (Option Int)):TO:=λg H Q=>∃d e o,RC K d H g e/\f e=cz o/\∀b a,Ext d H a b->Q o b
theorem ZU:L2.PO X none (tB X.K aX):=λa s e H Q I y=>by obtain⟨b,f,o,d,O,q⟩:=y;exact EY a s e H Q I (by cases O;exact q H b<|Ext.refl d.sub)
theorem yA(h:PV X e f):L2.PO X (cz e) (tB X.K<|n5 f):=λa s n H Q I (k,m,o,l,y,q)=>EX h a s n H Q I (by
 obtain⟨i,g,O⟩:=zB y;obtain⟨d,U,g⟩:=ze g;subst O;refine(k,m,d,l,U,λv j b x r=>?_);rw[j3 g]at r;exact(i,jP r,q j b x))
theorem Jn{lo j:Option d8}{U Y:CO (Option Int)}(E:PV X a f)(R:L2.PO X lo (tB X.K U))(P:L2.PO X j (tB X.K Y)):PV X (.Subscript a (.Slice lo j none p2) pos) (V6 f U Y):=
 qV (zfy Ey E R P) λN H Q C=>by
  refine Tf λF=>?_;obtain⟨o,h,d,g,y,q⟩:=C;obtain⟨Z,z,y⟩:=ze y;obtain⟨l,A,y⟩:=ze y;obtain⟨u,B,y⟩:=ze y;refine F ?_;refine(o,h,Z,g,z,λv J e x r=>(e,h,l,g.ext x,A,λL w I=>(w,h,u,(g.ext x).ext I,B,λs ad b=>?_)));have n:=x.trans<|I.trans b;cases Z with
  | tup M=>
   cases y;obtain⟨t,G,rfl,i,O⟩:=yt<|r.mono (I.trans b).s0;refine(t,G,rfl,i7 b.sub i,λm=>?_,λp k=>q _ _ _ (n.trans<|Ext.alloc b.sub k _)<|yx (fA.of zF)<|(zfH O _ _).mono (ju (jy b.sub k) _))
   .rw[O.length]at m
    exact q _ s ad n (by rw[zet m];exact yx i O)
  |_=>cases y
theorem Vg{K:Ti}{H:Hp}{ds:List D}{xs:List V}(r:dn K H ds xs):∀n,dn K H (Tq n ds).flatten (Tq n xs).flatten
 |0=>dn.nil
 |n+1=>by exact r.append<|Vg r n
theorem Yo(z:PQ X a fq)(B:PQ X b gq):PO X (.BinOp a .Add b pos) (bC fq gq):=
 qV (Fi Aa z B) λM H Q w=>by
  refine Tf λC=>?_;obtain⟨k,j,G,g,y,q⟩:=w;obtain⟨⟨x,Y⟩,r,y⟩:=ze y;obtain⟨⟨A,Z⟩,s,y⟩:=ze y;refine C ?_;cases x<;>cases A<;>try (simp at y;done)
  dsimp only at y;by_cases O:Y.length+Z.length<=lim
  .rw[DZ O]at y;cases y
   exact(k,j,.L,Y,g,r,λl h E n d t J e=>(n,j,.L,Z,g.ext d,s,λm i F o I u K f=>(l,m,h,i,rfl,rfl,I.s1.seq t,u,vX (by rw[e.length,f.length];exact O),λp U=>q p (h++i) _ o (d.trans<|I.trans<|Ext.hide I.sub U _) (xW (d.trans I).s1 U) (jy I.sub U) zF<|(e.mono I.s0).append f)))
  .rw[DJ O]at y;cases y
theorem Le(z:PO X a gn)(B:PV X b g):PO X (.BinOp a .Mult b pos) (EE (qU gn) g):=
 qV (Fi LA z B) λN H Q w=>by
  obtain⟨l,k,F,i,y,q⟩:=w;obtain⟨⟨K,Z⟩,d,y⟩:=ze y;obtain⟨E,s,d⟩:=zB d;cases d;obtain⟨j,U,y⟩:=ze y;obtain⟨r,t,U⟩:=ze U;dsimp only at y;by_cases O:Z.length*j.toNat<=lim/\inR j=cC
  .rw[DZ O]at y;cases y
   refine(l,k,Z,i,s,λm x A n e G J u f=>(n,k,r,i.ext e,t,λv C o I h=>?_));rw[j3 U]at h;obtain⟨L,M⟩:=Ki O.2;exact(m,j,x,rfl,jP h,I.s1 _ _ u,(),(),vX (by rw[f.length];exact O.1),λp Y=>q p _ _ o (e.trans<|I.trans<|Ext.hide I.sub Y _) (xW (e.trans I).s1 Y) (jy I.sub Y) zF<|(Vg f _).mono I.s0)
  .rw[DJ O]at y;cases y
theorem Mc{K:Ti}{t c:String}{b:Bool}(h:(if ((uF t) ==.type c)=cC then cz cC else if PySem.W.kitMeta c=cC then (fastBuiltinMro t).map (·.contains (.type c))else none)=cz b):E8 K (.type t) (.type c)=cz b:=h
noncomputable def MB:Ty->String
 |.int=>"int"
 |.bool=>"bool"
 |.str=>"str"
 |.tuple=>"tuple"
 |.list=>"list"
noncomputable def Md:D->String
 |.d7=>"NoneType"
 |.bl _=>"bool"
 |.int _=>"int"
 |.str _=>"str"
 |.tup _=>"tuple"
 |.lst _=>"list"
 |.mc _ _=>"dict"
 |.lC _ _=>"dict"
theorem W0{K:Ti}(T:Ty)(d:D):E8 K (.type<|Md d) (.type<|MB T)=cz (Ms T d):=by cases d<;>cases T<;>(dsimp only[Md,MB,Ms,Cv,Mt,Ct,Cs,Cu];exact Mc ())
theorem AE{j:TW}{R:St}{B H:Hp}{s:el}{A:l6}{E:EQ}{Q:EQ}{d:D}{x:V}{u:dj}(I:Inv X j R H s)(sub:ft B H)(O:RelV x u)(r:Rep X.K B d x)(T:Ty)
 (h:∀P,Q (.bool (Ms T d)) {s with toks:=P}):wpAny (d5 X.prog X.w) A (call (.builtin "isinstance") [u,.type (MB T)]) Q E s:=by
 cases d with
 |d7=>cases r;cases O;exact A4 PySem.W.kitx_none I.n4 tE (W0 (K:=X.K) T .d7) (λz=>nomatch z) h
 |bl y=>cases r;cases O;exact A4 PySem.W.kitx_bool I.n4 tE (W0 (K:=X.K) T<|.bl y) (λz=>nomatch z) h
 |int i=>cases r;obtain⟨t,q⟩:=(O);cases q;exact A4 PySem.W.kitx_int I.n4 tE (W0 (K:=X.K) T<|.int i) (λz=>nomatch z) h
 |str y=>cases r;obtain⟨t,q⟩:=(O);cases q;exact A4 PySem.W.kitx_str I.n4 tE (W0 (K:=X.K) T<|.str y) (λz=>nomatch z) h
 |tup b=>
  have e:=W0 (K:=X.K) T<|.tup b;obtain⟨a,m,rfl,U,Z⟩:=yt r;cases (show u=uD a from O);obtain⟨g,G,⟨o,Y,f,_⟩,C⟩:=I.tuple<|i7 sub U;exact A4 PySem.W.kitx_tuple I.n4 (o,Y,f) e (λz=>nomatch z) h
 |lst b=>
  have e:=W0 (K:=X.K) T<|.lst b;obtain⟨a,m,rfl,U,Z⟩:=pq r;cases O;refine Tf λF=>?_;obtain⟨g,G,p,C⟩:=I.list<|sub.seq U;obtain⟨o,Y,f,_⟩:=p.isList;exact F<|A4 PySem.W.kitx_list I.n4 (o,Y,f) e (λz=>nomatch z) h
 |mc k l=>
  obtain⟨a,m,rfl,⟨J,_,_,o,U⟩,_⟩:=(r);cases O;obtain⟨_,_,_,_,_,n⟩:=(I.eC a _<|sub _ _ U);exact A4 PySem.W.kitx_dict I.n4 n.typeIs (W0 (K:=X.K) T<|.mc k l) (λz=>nomatch z) h
 |lC k l=>
  obtain⟨a,m,rfl,⟨_,o,L,U,Z,_⟩,_⟩:=(r);cases O;obtain⟨Y,_⟩:=(I.eC a _<|sub _ _ U);exact A4 PySem.W.kitx_dict I.n4 (o,Y,Z.1.1) (W0 (K:=X.K) T<|.lC k l) (λz=>nomatch z) h
theorem OJ(T:Ty)(h:SX X sc N L k)(c:wQ sc "isinstance" = cC)(z:X.mg "isinstance" = none)(y:wQ sc ty=cC)(P:X.mg ty=none)(Y:sV ty=cz (.type (MB T)))(B:PV X a f)
 (hs:ed [a,.Name ty p2] X.env=[(cL,dy a X.env),(cL,dy (.Name ty p2) X.env)]:=by rfl):PV X (.Call (.Name "isinstance" p) [a,.Name ty p2] [] pos) (L1 T f):=by
 rintro e s J H Q I ⟨i,G,d,C,Z,q⟩;obtain⟨U,n,o⟩:=zB Z;subst o;refine C8<|yc I (h.gl c).1 z PyProof.Rows.boot_isinstance ?_ () ();refine zda ?_ (by rw[hs];rfl) rfl;rw[hs];refine zj<|ea (B e s J H _ I (i,G,U,C,n,λv g b x r=>(show(λv g=>∃b,Ext i H b g/\Rep X.K b U v) v g from(b,x,r)))) λu M t=>?_;refine Tf λw=>?_;obtain⟨x,j,O,A,m,l,E⟩:=t;refine w ?_;exact zj<|yc O (h.gl y).1 P Y (F0<|AE O l.sub A E T λF=>(.bl _,j,O.tok F,rfl,q _ j m l rfl)) (h.gl y).2.1 (h.gl y).2.2
end
section
variable{X:Cx}{sc:h6}{N L:List Str}{k:Nat}{e a b c:d8}{pos p p2:f9}{f g:CO D}{fq:CO (Sk×List D)}
theorem js(h:SX X sc N L k)(c:wQ sc "range" = cC)(z:X.mg "range" = none)(j:PV X a f)(hs:ed [a] X.env=[(cL,dy a X.env)]:=by rfl):g8 X tg (.Call (.Name "range" p) [a] [] pos) (jg f):=iD (h.gl c).1 z j hs
theorem Vn(h:SX X sc N L k)(c:wQ sc "range" = cC)(z:X.mg "range" = none)(j:PV X a f)(y:PV X b g)(hs:ed [a,b] X.env=[(cL,dy a X.env),(cL,dy b X.env)]:=by rfl)(I:ed [b] X.env=[(cL,dy b X.env)]:=by rfl):
 g8 X tg (.Call (.Name "range" p) [a,b] [] pos) (wY f g):=iC (h.gl c).1 z j y hs I
theorem yz(h:SX X sc N L k)(c:wQ sc "zip" = cC)(z:X.mg "zip" = none)(j:PV X a f)(y:PV X b g)(hs:ed [a,b] X.env=[(cL,dy a X.env),(cL,dy b X.env)]:=by rfl)(I:ed [b] X.env=[(cL,dy b X.env)]:=by rfl):
 g8 X (.Tuple elts x1 q5) (.Call (.Name "zip" p) [a,b] [] pos) (KL f g):=Fe (h.gl c).1 z j y hs I
theorem bF(h:SX X sc N L k)(c:wQ sc "isinstance" = cC)(z:X.mg "isinstance" = none)(y:wQ sc "tuple" = cC)(B:X.mg "tuple" = none)(j:PV X a f)
 (hs:ed [a,.Name "tuple" p2] X.env=[(cL,dy a X.env),(cL,dy (.Name "tuple" p2) X.env)]:=by rfl):PV X (.Call (.Name "isinstance" p) [a,.Name "tuple" p2] [] pos) (L1 .tuple f):=OJ .tuple h c z y B PyProof.Rows.boot_tuple j hs
theorem zfK(z:PQ X a fq)(U:∀y,xv a X.env y=(do let v<-y;u0 a.pos;qs [v] (DT v)):=by intro _;rfl):l0 X a (Iq fq):=
 bI (zfL z U) λo H Q Y=>by
  refine Tf λZ=>?_;obtain⟨h,m,t,l,k,q⟩:=Y;obtain⟨⟨I,b⟩,i,j⟩:=zB k;refine Z ?_;subst j;refine(h,m,I,b,l,i,λp d g f ext O n r=>(!b.isEmpty,?_,q g f ext));have e:d.isEmpty=b.isEmpty:=by have:=r.length;cases d<;>cases b<;>simp_all
  rw[<-e];cases I with
  |L=>exact .inl (d,O,rfl)
  |T=>exact .inr<|.inl (d,O,rfl)
theorem nZ(j:PV X a f):PV X (.UnaryOp .USub a pos) (ud f):=
 qV (OQ HS j) λm H Q y=>by obtain⟨h,l,d,k,I,q⟩:=y;obtain⟨i,e,O⟩:=zB I;obtain⟨U,Y,e⟩:=ze e;subst O;refine(h,l,U,k,Y,λv g b x r=>?_);rw[j3 e]at r;exact(i,jP r,q _ g b x rfl)
theorem ko(i:Nat)(h:SX X sc N L k)(c:vH sc N i x=cC)(j:PV X a f)(hs:ed [a] X.env=[(cL,dy a X.env)]:=by rfl)
 (y:uQ (.Name x np) "append" X.env (dy (.Name x np) X.env)=dy (.Name x np) X.env:=by rfl)
 (I:((m5 cpos<|starEach [a] X.env).all (λx=> !x.1)&&(uS cpos<|keywordEach [] X.env).all (λx=>x.1.isSome)
   &&decide ([a].length+([]:List rE).length+(if ([]:List rE).isEmpty then 0 else 1)<30))=cC:=by rfl)
 (O:(apos.endLine==cpos.line)=cC:=by rfl) (Q:rH (.Call (.Attribute (.Name x np) "append" apos) [a] [] cpos) none pos.line X.env=pure cL:=by rfl):
 ji X (.Expr (.Call (.Attribute (.Name x np) "append" apos) [a] [] cpos) pos) (qH i f):=
 iy i (oO P9 PySem.F.slot_list_append PySem.F.type_list_append zd5 (h.var c) (zZ j j7 hs) y I O hs rfl) Q
theorem jM(i:Nat){st:h9}{f:CO (List D)}(h:PS X st (gW (tO X.K f)<|Zm i)):ji X st (jF i<|jX f):=yS h λD p H Q=>by obtain⟨E0,E,e,l,n,y,I,U⟩:=Q;obtain⟨d,b,I⟩:=zB I;obtain⟨j,Y,b⟩:=zB b;subst I b;exact(e,l,j,y.rc,Y,λa o m g x Z O k r=>U _ _ _<|(y.step<|x.show Z O k y.rc.sub).s9 (XI (gg.of zF)<|r.mono<|ju O _))
theorem psc(i:Nat)(h:SX X sc N L k)(c:vj sc N L i y=cC)
 (I:X.calm=cC) (ok:rf X scope fr) (O:∀i∈T.idx,i<own.length) (B:ri X tg iter src) (Q:∀fp z j,PG (jV X scope (own++fr.map (·.1)) fp z j) tg<|pZ X.K T)
 (U:∀fp z j,PV (jV X scope (own++fr.map (·.1)) fp z j) elt f) (hs:∀x,pj iter X.env x=pure x:=by intro _;rfl):
 PS X (.Assign [.Name y py] (.ListComp elt [(tg,iter,[],0)] scope cpos) spos) (gW (tO X.K<|zW src T own.length (fr.map (·.2)) jB f)<|Zm i):=by
 obtain⟨Y,Z,a⟩:=h.loc c;exact zfo h.DM Y Z a I ok O B Q U hs
theorem ON(i:Nat)(h:SX X sc N L k)(c:vj sc N L i y=cC)
 (I:X.calm=cC) (ok:rf X scope fr) (O:∀i∈T.idx,i<own.length) (B:ri X tg iter src) (Q:∀fp z j,PG (jV X scope (own++fr.map (·.1)) fp z j) tg<|pZ X.K T)
 (U:∀fp z j,l0 (jV X scope (own++fr.map (·.1)) fp z j) DB kk) (Y:∀fp z j,PV (jV X scope (own++fr.map (·.1)) fp z j) elt f) (hs:∀x,pj iter X.env x=pure x:=by intro _;rfl):
 PS X (.Assign [.Name y py] (.ListComp elt [(tg,iter,[DB],0)] scope cpos) spos) (gW (tO X.K<|zW src T own.length (fr.map (·.2)) kk f)<|Zm i):=by
 obtain⟨Z,a,b⟩:=h.loc c;exact iA h.DM Z a b I ok O B Q U Y hs
theorem Wz(i:Nat)(h:SX X sc N L k)(c:vH sc N i x=cC)(S:PV X b g)(R:PV X e f)
 (P:∀v,tZ (.Subscript (.Name x np) b p) X.env v=(do
   let I<-qs [v] (dy (.Name x np) X.env);let Y<-qs [v,I] (dy b X.env)
   u0 p
   qs [v,I,Y] (PR I Y v)
   release [v,I,Y] []):=by intro _;rfl)
 (hs:L5 [.Subscript (.Name x np) b p] e pos.line X.env=pure cL:=by rfl) (hw:P0 [.Subscript (.Name x np) b p] e X.env=pure none:=by rfl)
 (O:(sT [.Subscript (.Name x np) b p] X.env).map (·.2)=[tZ (.Subscript (.Name x np) b p) X.env]:=by rfl):
 ji X (.Assign [.Subscript (.Name x np) b p] e pos) (nF i g f):=
 yS (eM R (Cb (h.var c) S dW P) hs hw O) λD σ H J=>by refine Tf λK=>?_;obtain⟨E0,E,u,t,fl,s,y,w⟩:=J;obtain⟨d,B,y⟩:=ze y;obtain⟨A,Q,y⟩:=ze y;obtain⟨M,Z,y⟩:=ze y;obtain⟨z,C,Z⟩:=ze Z;obtain⟨j,F,y⟩:=zB y;refine K ?_;subst y;have Q:=kT Q;refine(u,t,d,s.rc,B,λv T l x r=>?_);have m:=s.step x;obtain⟨a,xs,O,h2,G,n⟩:=m.rc.own i A Q;refine(_,O,l,t,z,m.rc,C,λv2 W ad U o=>?_);rw[j3 Z]at o;exact(a,xs,M,j,rfl,jP o,U.s1 _ _ G,by rw[n.length];exact fM F,w _ _ ad<|(m.step U).rewrite (xs:=xs) Q O ((n.mono U.s0).set j (r.mono U.s0)))
theorem vP(O:PG X tg (pZ X.K T))(Q:PV X e f)(hs:L5 [tg] e pos.line X.env=pure cL:=by rfl)(z:P0 [tg] e X.env=pure none:=by rfl)
 (U:(sT [tg] X.env).map (·.2)=[tZ tg X.env]:=by rfl):ji X (.Assign [tg] e pos) (Wu T f):=
 yS (eM Q O hs z U) λD n H Y=>by obtain⟨E0,E,h,k,m,I,y,Z⟩:=Y;obtain⟨d,i,y⟩:=ze y;obtain⟨l,j,y⟩:=zB y;subst y;exact(h,k,d,I.rc,i,λv g a x r=>JI x.sub r j λb _ a2=>Z b g a<|a2 E0 E<|I.step x)
end
structure d9(P:hH)(w:hB)(K:Ti)(mg:DX)(base:eK)(k:Nat)(x:Str)(n:Nat)(F:List D->Option Res):Prop where
 ex:∃(f:di) (fd:pv) (ps:List Str),ps.length=n/\kA P w K mg base l7 k f fd ps (p8 K ps.length F)/\mg x=cz (.ref f)/\se K (.ref f)=cC/\Binds K fd ps []
structure eg(K:Ti)(mg:DX)(x:Str)(st:h9)(ps:List Str):Prop where
 ex:∃(f:di) (fd:pv),L2.o6 K x x st f fd/\(∀us:List dj,us.length=ps.length->B4 fd (us,[])=pure (ps.zip us))/\mg x=cz (.ref f)
def rF(X:Cx)(es:List d8)(n:Nat)(g:CO (List D)):Prop:=tR X es g/\∀b a,g b=cz a->a.length=n
section
variable{X:Cx}{sc:h6}{N L:List Str}{k:Nat}{e:d8}{es:List d8}{g:CO (List D)}{n:Nat}{pos p:f9}{x:Str}
theorem zo:rF X [] 0 zD:=(Fp,λb a h=>by cases h;rfl)
theorem za(j:PV X e f)(I:rF X es n g)(hs:ed (e::es) X.env=(cL,dy e X.env)::ed es X.env:=by rfl):rF X (e::es) (n+1) (zb f g):=
 (zfB j I.1 hs,λa b h=>by obtain⟨y,d,h⟩:=ze h;obtain⟨r,O,h⟩:=zB h;subst h;rw[Up,I.2 a r O])
variable{j:Nat}{F:List D->Option Res}
theorem IQ(y:d9 X.prog X.w X.K X.mg X.base j x n F)(I:j<=k)(h:SX X sc N L k)(c:wQ sc x=cC)(z:rF X (e::es) n g)
 (O:ed (e::es) X.env=(cL,dy e X.env)::ed es X.env:=by rfl) (Q:(m5 pos<|starEach es X.env).any (·.1)=cL:=by rfl):PV X (.Call (.Name x p) (e::es) [] pos) (zC F g):=by
 obtain⟨d,f,i,U,G,Y,Z,b⟩:=y.ex;subst U;exact EN (A0:=[]) G z.1 z.2 λ{t} a=>XS G (h.room.mono I) (h.gl c).1 Y Z b .nil WC a (h.gl c).2.2 O Q
theorem Lf(y:d9 X.prog X.w X.K X.mg X.base j x n F)(I:j<=k)(h:SX X sc N L k)(c:wQ sc x=cC)(z:rF X (e::es) n g)
 (O:ed (e::es) X.env=(cL,dy e X.env)::ed es X.env:=by rfl) (Q:(m5 pos<|starEach es X.env).any (·.1)=cL:=by rfl):PO X (.Call (.Name x p) (e::es) [] pos) (jm F g):=by
 obtain⟨d,f,i,U,G,Y,Z,b⟩:=y.ex;subst U;exact Fb G z.1 z.2 λ{t} a=>XS G (h.room.mono I) (h.gl c).1 Y Z b .nil WC a (h.gl c).2.2 O Q
end
section
variable{P:hH}{w:hB}{K:Ti}{mg:DX}{base:eK}
def VS(N ps:List Str)(st:h9):Bool:=
 decide ((jo st).kind=.function)&&decide ((jo st).isCoroutine=cL)&&decide ((jo st).isGenerator=cL)&&decide N.Nodup&&decide (N.take ps.length=ps)&&
 ps.all (λx=>decide ((jo st).names.lookup x=cz .local) || decide ((jo st).names.lookup x=cz .cell))&&(jo st).names.all (λy=> !(y.2==rL))
theorem Jj{N ps:List Str}{st:h9}(h:VS N ps st=cC):Dq N ps (jo st):=by unfold VS at h;simp only[TZ,decide_eq_true_eq,zt,y6,F6]at h;obtain⟨⟨⟨⟨⟨⟨I,O⟩,Q⟩,U⟩,Y⟩,Z⟩,a⟩:=h;exact(I,O,Q,U,Y,Z,λy b e=>by have:=a y b;rw[e]at this;exact absurd this ())
theorem Cd{X:Cx}(y:X.xe=λ_ _=>False):N5 (d5 X.prog X.w) X.A X.env X.xe:=by rw[y];exact PassesOwn.never
theorem NJ{x:Str}{st:h9}{N ps:List Str}{k:Nat}{F:CO Fl}(A:eg K mg x st ps)(j:VS N ps st=cC)
 (I:∀X,X.prog=P->X.w=w->X.K=K->X.mg=mg->X.base=base->SX X (jo st) N N k->X.xe=(λ_ _=>False)->mf X (qp st) F):
 d9 P w K mg base (k+1) x ps.length (jA N.length F):=by
 obtain⟨f,d,y,O,Q⟩:=A.ex;have S:=Jj j;exact(f,d,ps,rfl,MD y S λb A a s H E U=>I _ rfl rfl rfl rfl rfl (rfl,rfl,S.nd,rfl,U,λ_ _=>.inl rfl) rfl,Q,y.kp,.all O)
theorem RT{h:eK}{x:Str}{st:h9}{ps:List Str}{f:di}{R:dj}{S B:Option di}{H:Array (Option dj)}{kV z E j ct:dj}(y:K.In h)(G:h.Ns qy mg)
 (a:Ny K qy x=cz (cz (.ref f))) (l:K.lookup f=cz (R,S,.func<|rM x x (k8 st) (qp st) (jo st) .none kV z E B j ct,H))
 (c:Dl K j x=cC) (O:se K (.ref f)=cC)
 (b:∀kV z E B j ct I,I.length=ps.length->B4 (rM x x (k8 st) (qp st) (jo st) .none kV z E B j ct) (I,[])=pure (ps.zip I)):eg K mg x st ps:=
 (f,_,fQ l c O,b kV z E B j ct,S7 y G a)
theorem Po{x:Str}{st:h9}{f:di}{j:pv}{N ps:List Str}{k:Nat}{F:CO Fl}(y:L2.o6 K x x st f j)(z:VS N ps st=cC)
 (I:∀X,X.prog=P->X.w=w->X.K=K->X.mg=mg->X.base=base->SX X (jo st) N N k->X.xe=(λ_ _=>False)->mf X (qp st) F):
 kA P w K mg base l7 (k+1) f j ps (p8 K ps.length<|jA N.length F):=by
 have S:=Jj z;exact MD y S λb A a s H E O=>I _ rfl rfl rfl rfl rfl (rfl,rfl,S.nd,rfl,O,λ_ _=>.inl rfl) rfl
theorem NI{F:List D->Option Res}{H:Hp}{a:di}{j:List Int}(y:gg K H a (j.map V.int))(I:F [.lst (j.map D.int)]=cz (.val<|.bl cC)):
 p8 K 1 F [.ref a] H (λv _=>v=.bl cC) λ_ _ _=>False:=by
 refine(H,_,_,ft.refl _,dn.cons (XI y ?_) dn.nil,rfl,I,λv d b _ r=>r);clear I y
 induction j with
 |nil=>rfl
 |cons n j O=>exact dn.cons rfl O
end
end DL
namespace DL
open PySem PySem.Spec PyProof.Rows L2
open PySem.W (KasT kas_sort kas_ask kat_run kat_snds kat_lt kat_cons kat_no kat_kind KatTups KatGo)
def Ni(h:eK)(v:dj)(k:Int):Prop:=∃x o a m t,v=.ref x/\h.get? x=cz o/\o.cls=.type "tuple"/\o.data=.seq a m/\a[0]? = cz (.int k t)
theorem pJ:∀{vs:List dj} {j:Nat->Int},(∀i z,Ni h vs[i] (j i))->∃fs,KatTups h vs fs/\fs.length=vs.length/\∀f∈fs,∃k t,f=Value.int k t
 |[],j,_=>([],KatTups.nil,rfl,λf y=>by cases y)
 | v::vs,j,H=>by
  obtain⟨fs,I,O,Q⟩:=pJ λi z=>H (i+1) (by simpa using z);obtain⟨x,o,d,m,t,a,U,Y,Z,b⟩:=H 0 ();subst a;exact(_,KatTups.cons U Y Z b I,by simp[O],λf y=>by
   rcases Tz.mp y with rfl|y
   .exact(_,_,rfl)
   .exact Q f y)
end DL
namespace DL
open PySem PySem.Spec PyProof.Rows L2
open AutoSeq1 (wpAny_loadPart')
theorem QV:fillsNumberSlot (.type "tuple") "mul" = pure cL:=
 PySem.fillsNumberSlot_seq NC.lookup () F.slot_tuple_rmul.lookup ()
theorem Wx:seqRepeat? (.type "tuple")=pure (cz (.builtin "tuple.__mul__")):=by unfold seqRepeat?;rw[PySem.seqSlot_of (name:="__mul__") NC.lookup (),PySem.seqSlot_of (name:="__rmul__") F.slot_tuple_rmul.lookup ()];rfl
theorem KW(a:Int)(t:Tok)(l:di)(y:Array dj)(n:Nat)(I:Option di)(j:Array (Option dj)):
 wo (n6.«int.__rmul__» ([.int a t,.ref l],[])) (λ_ R s=>s.heap.get? l=cz {cls:=.type "tuple",dict:=I,data:=.seq y n,slots:=j}/\R (.ok (.ret Value.notImplemented)) s):=
 .of_wp λb w A R s h=>by obtain⟨O,g,d,Q,os⟩:=s;obtain⟨U,h⟩:=h;wp_walk;exact(_,rfl,h)
theorem YW(a:Int)(t:Tok)(l:di)(y:Array dj)(n:Nat)(O:Option di)(z:Array (Option dj))(Q:¬(decide (a < -(2^63)) || decide (a>=2^63))=cC)(U:¬(y.isEmpty || a==1)=cC)
 (Y:¬(decide (a<=0) || y.isEmpty)=cC) (Z:¬((y.size)*a>(2^63-1)/8)) (j:¬Builtin.Tuple.tupleTooMany ((y.size)*a)=cC) (hz:((Tq a.toNat y).foldl (· ++ ·) #[]).size<=eB):
 wo (n6.«tuple.__mul__» ([.ref l,.int a t],[])) (λ_ R s=>s.heap.get? l=cz {cls:=.type "tuple",dict:=O,data:=.seq y n,slots:=z}/\
  R (.ok (.ret (.ref s.heap.objs.size))) {s with heap:=s.heap.push {cls:=.type "tuple",data:=.seq ((Tq a.toNat y).foldl (· ++ ·) #[])}}):=
 .of_wp λb w A R s h=>by
  obtain⟨e,g,d,f,os⟩:=s;obtain⟨I,h⟩:=h
  wp_walk using D8 I
  rw[DJ Q];refine Th<|Nr (_,I,rfl,n,rfl) ?_;dsimp only;rw[DJ U,DJ Y,DJ Z,DJ j];exact Th<|tr (Ts (_,rfl,h)) hz
theorem KJ(a:Int)(t:Tok)(l:di)(y:Array dj)(n:Nat)(O:Option di)(j:Array (Option dj))(Q:¬(decide (a < -(2^63)) || decide (a>=2^63))=cC)(U:¬(y.isEmpty || a==1)=cC)
 (Y:(decide (a<=0) || y.isEmpty)=cC):
 wo (n6.«tuple.__mul__» ([.ref l,.int a t],[])) (λ_ R s=>s.heap.get? l=cz {cls:=.type "tuple",dict:=O,data:=.seq y n,slots:=j}/\
  R (.ok (.ret (.ref s.heap.objs.size))) {s with heap:=s.heap.push {cls:=.type "tuple",data:=.seq #[]}}):=
 .of_wp λb w A R s h=>by
  obtain⟨Z,g,d,e,os⟩:=s;obtain⟨I,h⟩:=h
  wp_walk using D8 I
  rw[DJ Q];refine Th<|Nr (_,I,rfl,n,rfl) ?_;dsimp only;rw[DJ U,DZ Y];exact Th<|tr (Ts (_,rfl,h))<|UU _
theorem KI(a:Int)(t:Tok)(l:di)(I:Array dj)(n:Nat)(O:Option di)(j:Array (Option dj))(Q:¬(decide (a < -(2^63)) || decide (a>=2^63))=cC)(U:(I.isEmpty || a==1)=cC):
 wo (n6.«tuple.__mul__» ([.ref l,.int a t],[])) (λ_ R s=>s.heap.get? l=cz {cls:=.type "tuple",dict:=O,data:=.seq I n,slots:=j}/\R (.ok (.ret (.ref l))) s):=
 .of_wp λb w A R s h=>by
  obtain⟨Y,g,d,Z,os⟩:=s;obtain⟨y,h⟩:=h
  wp_walk using D8 y
  rw[DJ Q];refine Th<|Nr (_,y,rfl,n,rfl) ?_;dsimp only;rw[DZ U];refine Th ?_;unfold Builtin.Tuple.tupleIsExact;refine Th<|uG (_,y,rfl)<|Ts ?_;rw[DZ ()];exact Th<|sQ<|Ts (_,rfl,h)
section
def II(K:Ti):R2:=λx y H Q=>∃l k a,x=.ref l/\y=.int k/\fA K H l a/\ -(2^62)<=k/\k<2^62/\a.length*k.toNat<=eB/\(a=[]\/k=1->Q (.ref l) H)/\
 ∀p,H p=none->Q (.ref p) (upd H p<|.tup (Tq k.toNat a).flatten)
theorem Fq:ix X (rV .Mult) (II X.K):=by
 intro j s σ H x y v u Q I J L h;obtain⟨l,k,T,rfl,rfl,A,R,S,i,G,Z⟩:=h;cases J;refine Tf λC=>?_;obtain⟨t,rfl⟩:=L;obtain⟨a,r,B,W⟩:=I.tuple A;obtain⟨⟨w,U,d,b⟩,O,f,n,g⟩:=id B;refine C ?_;simp only at f g;subst f g;have o:=r.length;have Y:¬(decide (k < -(2^63)) || decide (k>=2^63))=cC:=()
 refine zfR () (_,O,rfl) (λM=>NL M k t) QV F.fills_int_mul S8 Wx F.slot_int_index.lookup
  (sR S8 (NL s k t) F.entry_int_rmul (F.args_int_rmul_2 _ _) (KW k t l a.toArray n U b) (O,rfl,(_,O,rfl),?_))
 have e:=λm=>by have:=Km a m [];rw[Dj]at this;exact this
 by_cases g2:(a.toArray.isEmpty || k==1)=cC
 .refine sR NC (_,O,rfl) _d (Z_ _ _) (KI k t l a.toArray n U b Y g2) (O,(.ref l,H,I,rfl,G ?_))
  grind
 .have p:=g2
  simp only[y6,not_or]at p;by_cases g3:(decide (k<=0) || a.toArray.isEmpty)=cC
  .have z:k.toNat=0:=by
    lia
   refine sR NC (_,O,rfl) _d (Z_ _ _) (KJ k t l a.toArray n U b Y g2 g3) (O,?_);refine(.ref _,_,I.laid (λc E q=>Tj _ q) (Tv _) ?_,rfl,Z _<|I.eC.fresh<|Tv _);rw[z];exact(UU _,[],.nil,sj.new _ _)
  .have N:((a.toArray.size:Nat))*k<=eB:=by
    grind
   have P:=uE;refine sR NC (_,O,rfl) _d (Z_ _ _) (YW k t l a.toArray n U b Y g2 g3 () (by unfold Builtin.Tuple.tupleTooMany;lia) (by
    rw[e,TK,cn,vu];exact(by rw[<-o];exact i))) (O,?_)
   rw[e];refine(.ref _,_,I.laid (λc E q=>Tj _ q) (Tv _) ?_,rfl,Z _<|I.eC.fresh<|Tv _);exact(by rw[cn,vu];exact i,_,r.rep k.toNat,sj.new _ _)
theorem Es{K:Ti}:m1 K (λx y H Q=>rI A7 (λi j=>.int (i*j)) x y H Q\/II K x y H Q) yE:=λb H x y r t d Q s U Y I q=>by
 unfold yE at I;split at I
 .split at I<;>cases I
  exact .inl (_,_,jP U,jP Y,Bf ‹_›,q _ H b (Ext.refl s) rfl)
 .rename_i o j
  split at I<;>cases I
  rename_i g
  obtain⟨k,h⟩:=g;obtain⟨a,n,rfl,f,O⟩:=yt U;obtain⟨l,m⟩:=Ki h;refine .inr (a,j,n,rfl,jP Y,i7 s f,l,m,vX (by rw[O.length];exact k),λe=>?_,λp Z=>q _ _ _ (Ext.alloc s Z _)<|yx (fA.of zF)<|(Vg O _).mono (ju (jy s Z) _))
  .refine q _ H b (Ext.refl s) ?_
   rcases e with e|e
   .have u:=by
     have:=O.length;rw[e]at this;exact UH this.symm
    simp_all
   simp_all
 .cases I
theorem qt(j:PV X a fa)(y:PV X b fb):PV X (.BinOp a .Mult b pos) (zM yE fa fb):=Yk (Z?.or Fq) Es j y
end
end DL
namespace DL
open PySem PySem.Spec PyProof.Rows L2
theorem RC.N?{K:Ti}{B H:Hp}{E:St}{γ:Ctx}{i:Nat}{ds:List D}{a:di}{xs:List V}(r:RC K B H E γ)(e:γ[i]? = cz (.own ds))(U:E[i]? = cz (cz (.ref a)))(I:B a=none)(P:H a=cz (.lst xs))(R:dn K B ds xs):RC K (L2.upd B a<|.lst xs) H E (γ.set i<|.val<|.lst ds):=by
 refine(λb o q=>?_,by simp[r.len],λj d g=>?_,λj m g=>?_,λj k b m fs f y s t=>?_,(λj h g=>?_,λj k w x f y=>?_))
 .by_cases z:b=a
  .subst z;rw[zF]at q;rw[P];exact q
  .rw[zJ z]at q;exact r.sub b o q
 .rcases zL g with⟨rfl,z,F⟩|⟨O,z⟩
  .cases z;exact(_,U,XI (gg.of zF)<|R.mono<|ju I _)
  .obtain⟨v,Q,g2⟩:=r.val j d z
   exact(v,Q,g2.mono<|ju I _)
 .rcases zL g with⟨_,z,_⟩|⟨O,z⟩
  .cases z
  .obtain⟨b,A,Q,g2,g3,u⟩:=r.own j m z
   refine(b,A,Q,?_,g3,u.mono<|ju I _);rw[zJ (λq=>O<|r.ne j i a m ds z e (by rw[Q,q]) U)];exact g2
 .rcases zL f with⟨_,z,_⟩|⟨O,l⟩
  .cases z
  .rcases zL y with⟨_,z,_⟩|⟨C,n⟩
   .cases z
   .exact r.ne j k b m fs l n s t
 .rcases zL g with⟨_,z,_⟩|⟨O,z⟩
  .cases z
  .obtain⟨b,bs,f1,Z,p⟩:=r.m9.1 j h z
   refine(b,bs,f1,Z.move (ju I _) (λc Y=>by rw[zJ (λq=>(p i ds a e U)<|by rw[<-q];exact Y)];exact(Z.at Y).1)<|λc Y=>rfl,λk fs c f y=>?_);rcases zL f with⟨_,z,_⟩|⟨_,l⟩
   .cases z
   .exact p k fs c l y
 .rcases zL f with⟨_,z,_⟩|⟨_,l⟩
  .cases z
  .rcases zL y with⟨_,z,_⟩|⟨_,n⟩
   .cases z
   .exact r.m9.2 j k w x l n
end DL
namespace L2
open PySem PySem.Spec PyProof.Rows
open AutoSeq1 (wpAny_loadPart')
section
variable{prog:hH}{w:hB}{A:l6}{E:EQ}{s:el}
theorem lJ{z j l:di}{n:Nat}{xs:Array dj}{x H:dj}{Q:EQ}(hz:wh s.heap z j n H)(P:hG .T s.heap j l n)(S:iN .T s.heap l xs)(hx:xs[n]? = cz x)(I:z≠j)
 (R:∀g,IsEnumOut g z j (n+1) x s.heap.objs.size->hG .T g j l (n+1)->ni g s.heap.objs.size (.int n s.toks) x->g.objs.size=s.heap.objs.size+1->
   (∀c o,c≠z->c≠j->s.heap.get? c=cz o->g.get? c=cz o)->Q (.ref s.heap.objs.size) {s with heap:=g,toks:=s.toks+1}):
 wpAny (d5 prog w) A (n6.«enumerate.__next__» ([.ref z],[])) (λas s'=>∃v,as=.done (.ret v)/\Q v s') E s:=by
 refine Th (m:=field (.ref z) 2) (Uv hz rfl rfl ?_);refine Th (qN P S hx λg1 G Z=>?_);have d:=Z.extBut _ _ I hz;refine Th (Uv d rfl rfl ?_);refine Th (Uv d rfl rfl ?_);refine Th (wpAny_mkInt ?_);refine Th (UJ d () λg2 b f=>?_);replace b:=b;refine Th (UJ b () λg3 h i=>?_);replace h:=h;refine Th (GN ?_);have O:wh (g3.push {cls:=.type "tuple",data:=.seq #[.int n s.toks,x]}) z j (n+1) H:=Tj _ h;generalize U:g3.push _=Y at O;have a:g3.objs.size=s.heap.objs.size:=by rw[(i.1),f.1,(Z.1)]
 have N:Y.objs.size=s.heap.objs.size+1:=by rw[<-U,Ui,a]
 have J:hG .T Y j l (n+1):=G.at λo e=>by rw[<-U];exact Tj _<|i.extBut _ _ I.symm<|f.extBut _ _ I.symm e
 refine Th ?_;unfold UQ;refine Th<|Uv O rfl rfl<|Ts ?_;simp only[if_true];refine Th<|sQ<|Th<|Uv O rfl rfl ?_;refine Th<|UJ O () λX k ad=>?_;replace k:=k;rw[a];refine Th ?_;unfold I_;refine Th<|UJ k () λg6 p C=>?_;replace p:=p;refine UJ p () λu r F=>?_;replace r:=r;have B c o:c≠z->Y.get? c=cz o->u.get? c=cz o:=λy e=>F.extBut _ _ y<|C.extBut _ _ y<|ad.extBut _ _ y e;have W:u.objs.size=s.heap.objs.size+1:=by have K:=ad.1;have L:=C.1;have M:=F.1;simp only[M,L,K,N]
 exact Th (tw (Ts (_,rfl,R u r (J.at λo e=>B _ o I.symm e) (B _ _ (q9<|TH hz) (by
  show Y.get? _=_;rw[<-U,<-a];exact Tw _ rfl)) W λc o y t e=>B c o y ((λc o y t e=>by
  rw[<-U];exact Tj _<|i.extBut _ _ y<|f.extBut _ _ y<|Z.extBut _ _ t e) c o y t e))))
theorem zel{z j l:di}{n:Nat}{xs:Array dj}{y:dj}{Q:Fin->el->Prop}(I:A.handled=none)(hz:wh s.heap z j n y)(O:hG .T s.heap j l n)(U:iN .T s.heap l xs)(Y:xs[n]? = none)
 (Z:∀g e,Heap.ExtBut j s.heap g->(∃o,g.get? e=cz o/\o.cls=.type "StopIteration")->E (.ref e) {s with heap:=g}):
 wpAny (d5 prog w) A (n6.«enumerate.__next__» ([.ref z],[])) Q E s:=
 Th (m:=field (.ref z) 2) (Uv hz rfl rfl<|Th<|yY I O U Y Z)
end
noncomputable def Gs(i:di):lU:={cls:=.type "enumerate",data:=.fields #[.none,.bool cL,.ref i,C2 0,.none,.none]}
def CC(h:eK)(l:di):eK:=TF (TF h<|fy .T l)<|Gs h.objs.size
theorem zek(l:di)(xs:Array dj):
 wo (n6.«enumerate.__new__» ([.type "enumerate",.ref l],[])) (λ_ R s=>iN .T s.heap l xs/\R (.ok (.ret (.ref (s.heap.objs.size+1)))) {s with heap:=CC s.heap l}):=
 .of_wp λb w A R s h=>by
  refine Tf λQ=>?_;obtain⟨Y,g,d,Z,os⟩:=s;obtain⟨U,h⟩:=h;have f:=sub_enumerate;have y:Heap.IsTuple _ l xs:=U;obtain⟨o,I,O,m,a⟩:=id y;obtain⟨e,lC,i,j⟩:=o;refine Q ?_;simp only at O a;subst O a;simp only[CC,Gs,fy,Ui]at h
  wp_walk using D8 I
  refine wpAny_stack_any λst=>Ts ?_;split
  .rename_i c _ _ _ _ _
   cases (c==_)<;>(wp_walk using D8 I,RX y;exact(_,rfl,by simpa[Ui,zct]using h))
  .wp_walk using D8 I,RX y
   exact(_,rfl,by simpa[Ui,zct]using h)
def NX(K:Ti)(a:di):It:=
 (λi H=>∃b,h5 .T K H a b/\i<b.length,
  λi H x d=>∃p u,x=.ref p/\H p=none/\d=upd H p (.tup [.int i,u])/\(∀b,h5 .T K H a b->b[i]? = cz u),
  λi H=>∃b,h5 .T K H a b/\b.length<=i)
theorem vx(hz:wh s.heap z it n old)(h:Q (.ref z) s):wpAny (d5 prog w) A (LQ (.ref z)) Q E s:=by have y:s.TypeIs (.ref z) "enumerate":=(_,hz,rfl);exact wpAny_pyIter_slot y F.slot_enumerate_iter (qj F.slot_enumerate_iter y F.entry_enumerate_iter (Ts (_,rfl,"enumerate",_,y,Ng.lookup,h)) (F.args_enumerate_iter_1 _))
theorem mQ{P:hH}{w:hB}{K:Ti}{elts:List d8}{x1:Nat}{q5:f9}{z it a:di}(ad:z≠it):
 Turn P w K (.Tuple elts x1 q5) (NX K a) [z,it] z (λi h=>(∃Y,wh h z it i Y)/\hG .T h it a i) where
 mem:=by simp
 obj:=λi h ((Y,hz),U) y hy=>by
  simp only[Tz,TQ,or_false]at hy;rcases hy with rfl|rfl
  .exact(_,hz,λv q=>by cases q)
  .exact U.obj
 keep:=λi h h' ((Y,hz),U) k=>((Y,k z () _ hz),U.at λo e=>k it () o e)
 item:=by
  rintro X hP hw hK hc i pins s σ H E I hf ⟨⟨Y,hz⟩,U⟩ ⟨xs,a6,am⟩;subst hP hw hK;obtain⟨an,a9,p1,z1⟩:=I.sq a6;have hx:xs[i]? = cz xs[i]:=To am;obtain⟨u1,ap,as⟩:=a9.get hx;have Z:s.TypeIs (.ref z) "enumerate":=(_,hz,rfl);unfold sa;refine Th (tq (Ux (name:=px "__next__") Z Ng (qj Ng Z F.entry_enumerate_next
   (lJ hz U p1 (x:=u1) (by simpa using ap) ad λg a1 a2 a3 a4 a5=>Ts (_,rfl,?_)) (F.args_enumerate_next_1 _))))
  refine zfU a1 λg2 DG ac=>?_;have lt:∀{c o},s.heap.get? c=cz o->s.heap.objs.size≠c:=λe=>q9<|TH e;have b3:ni g2 s.heap.objs.size (.int i s.toks) u1:=ac.extBut _ _ (lt hz) a3;have kk Q u:Q ∉ [z,it]->s.heap.get? Q=cz u->g2.get? Q=cz u:=λO e=>by simp only[Tz,TQ,or_false,not_or]at O;exact ac.extBut _ _ O.1<|a5 Q u O.1 O.2 e
  have I1:Inv X pins σ (upd H s.heap.objs.size<|.tup [.int i,xs[i]]) {s with heap:=g2,toks:=s.toks+1}:=
   I.L9 (fp:=[z,it]) kk hf (Tv _) (by show 2<=eB;decide,[.int i s.toks,u1],.cons (_,rfl)<|.cons as .nil,(_,b3,rfl,_,rfl))
  have b6:H s.heap.objs.size=none:=I.fresh;refine(.ref s.heap.objs.size,_,I1,rfl,(_,_,rfl,b6,rfl,λbg b7=>by rw[I.C4 b7 a6];exact hx),?_,λQ O=>?_)
  .exact((_,by have:=DG;rwa [show((i:Int)+1)=((i+1:Nat):Int)by lia]at this),a2.at λo e=>ac.extBut _ _ ad.symm e)
  .have b8:Q≠s.heap.objs.size:=by
    simp only[Tz,TQ,or_false]at O;rcases O with rfl|rfl
    .exact(lt hz).symm
    .obtain⟨o,e,_⟩:=U.obj;exact(lt e).symm
   rw[zJ b8];exact(hf Q O).1
 done:=by
  rintro X hP hw hK hc i pins s σ H E I hf ⟨⟨Y,hz⟩,U⟩ ⟨xs,a6,hi⟩;subst hP hw hK;obtain⟨an,a9,p1,z1⟩:=I.sq a6;have Z:s.TypeIs (.ref z) "enumerate":=(_,hz,rfl);have l1:=a9.length;unfold sa;refine Th (tq (Ux (name:=px "__next__") Z Ng (qj Ng Z F.entry_enumerate_next
   (zel (show X.A.handled=none from I.ok.hd hc) hz U p1 (by simp;lia) λg e hk he=>?_) (F.args_enumerate_next_1 _))))
  obtain⟨o,ho,be⟩:=he;refine Th (NF (T:="StopIteration") (b:=cC) (o,ho,be) Nx (Ts (rfl,?_)));refine I.ro (t':=s.toks) (fp:=[z,it]) (λQ u O e=>?_) hf;simp only[Tz,TQ,or_false,not_or]at O;exact hk Q u O.2 e
 self:=λ_ _ _ _ _ st h=>vx st.1.choose_spec h
def Pg(K:Ti)(j:TA):TI:=λf H R=>j f H λd b=>∃a,d=[.ref a]/\(∃e,h5 .T K b a e)/\R (NX K a) b
theorem Fh{X:Cx}{B:d8}{E:TA}{p pos:f9}{j:List d8}{x1:Nat}{z:f9}(Y:Gl X "enumerate")(Z:X.mg "enumerate" = none)(P:PA X [B] E)
 (S:sV "enumerate" = cz (.type "enumerate")) (hs:ed [B] X.env=[(cL,dy B X.env)]:=by rfl):
 PI X (.Tuple j x1 z) (.Call (.Name "enumerate" p) [B] [] pos) (Pg X.K E):=by
 intro b s w H R I h;refine tI<|yc I Y Z S<|Ut (ea (P pos b s w H _ I h) λA d m=>?_) (by rw[hs];rfl) rfl;refine Tf λn=>?_;obtain⟨C,f,y,u,t⟩:=m;obtain⟨a,e,⟨J,g⟩,q⟩:=t;subst e;obtain⟨G,l,i⟩:=vJ u;refine n ?_;subst l;cases i;obtain⟨k,x,r,L⟩:=y.sq g;refine S5 F.called_enumerate () (F.typeCall_enumerate_1 _) (F.newCall_enumerate_1 _) (λobj=>F.args_object_init_2 obj _) F.entry_enumerate_new (zek a k.toArray) (r,?_);have O:=by have q:=Tw (TF d.heap<|fy .T a) (o:=Gs d.heap.objs.size) rfl;rw[(Ui ..)]at q;exact q
 refine((_,O,rfl),vx O ?_);refine(_,_,_,_,f,rfl,y.kept<|λc o e=>Tj _<|Tj _ e,mQ<|q9<|sd _,((_,O),(ZN .T d.heap a).at λo e=>Tj _ e),λc Q=>?_,q);have U:d.heap.objs.size<=c:=by
  simp only[Tz,TQ,or_false]at Q;rcases Q with rfl|rfl
  .exact TL _ _
  .exact Tv _
 exact y.r6 U<|y.eC.fresh U
end L2
namespace DL
open PySem PySem.Spec PyProof.Rows L2
theorem W6{K:Ti}{H:Hp}:∀{ds:List D} {xs:List V} {l:List Int},dn K H ds xs->lr ds=cz l->xs=l.map V.int
 |[],xs,l,r,e=>by cases e;rw[r];rfl
 | d::ds,xs,l,r,e=>by
  obtain⟨x,g,rfl,y,b⟩:=(r);cases d with
  |int i=>
   obtain⟨f,a,rfl⟩:=zB e;rw[W6 b a,y];rfl
  |_=>cases e
theorem ao:∀l:List Int,(l.map V.int).all VQ=cC
 |[]=>rfl
 |i::l=>by simp only[UL,List.all_cons,ao l,Bool.and_true];rfl
theorem pW(i:Int):∀l:List Int,Ia (.int i) (l.map V.int)=decide (i∈l)
 |[]=>rfl
 |j::l=>by
  have y:=pW i l;unfold Ia at y ⊢;have e:t9 (.int j) (.int i)=(j==i):=rfl
  grind
theorem mD{K:Ti}{j z:Hp}{a:di}{xs:List V}{ds:List D}(h:fA K z a xs)(r:dn K j ds xs):Walk K j z (NX K a) (kQ ds):=by
 have o:=r.length;have t:(kQ ds).length=ds.length:=by simp[kQ]
 refine(λi b s m=>(xs,i7 s h,()),λb s=>(xs,i7 s h,()),λi b x g s m y=>?_)
 .refine Tf λO=>?_;obtain⟨p,u,k,I,Q,U⟩:=y
  obtain⟨d,l,Y⟩:=r.sX<|U xs<|i7 s h;refine O ?_;refine(.tup [.int i,d],?_,λf n e=>(upd f p<|.tup [.int i,u],?_,?_))
  .have Z:i<ds.length:=()
   unfold kQ;simp only[UE,M8 Z,Uy,l];rfl
  .rw[Q];exact Ext.alloc e I _
  .rw[k]
   exact yx (fA.of zF)<|dn.cons rfl<|dn.cons ((Y.mono n).mono (ju (jy e I) _)) dn.nil
section
variable{X:Cx}{sc:h6}{N L:List Str}{k:Nat}{a b c:d8}{pos p:f9}{f fa fb fc:CO D}
theorem oF(h:SX X sc N L k)(c:wQ sc "enumerate" = cC)(z:X.mg "enumerate" = none)(j:PV X a f)(hs:ed [a] X.env=[(cL,dy a X.env)]:=by rfl):
 g8 X (.Tuple elts x1 q5) (.Call (.Name "enumerate" p) [a] [] pos) (ug f):=
 KO (Fh (h.gl c).1 z (zZ j j7 hs) U2 hs) λs H R O=>by
  obtain⟨g,m,n,i,y,q⟩:=O;obtain⟨d,Q,y⟩:=ze y;cases d with
  |tup o=>
   cases y;refine(g,m,_,i,Q,λv e b x r=>?_);obtain⟨U,l,rfl,I,g2⟩:=yt r;exact(U,rfl,(l,i7 x.sub I),q _ e b x<|mD I g2)
  |_=>cases y
theorem zfJ(ho:ix X (m7 op) r)(B:ix X (m7 DP) r')(s1:m1 X.K r F)(s2:m1 X.K r' G)(R:PV X a fa)(S:PV X b fb)(hc:PV X c fc)
 (hm:Pq [op,DP] [b,c]=cL:=by with_unfolding_all rfl):PV X (.Compare a [op,DP] [b,c] pos) (Yg F G fa fb fc):=
 qV (zfz ho B R S hc hm) λσ H Q P=>by
  refine Tf λT=>?_;obtain⟨m,h,d,g,I,q⟩:=P;obtain⟨x,C,I⟩:=ze I;obtain⟨y,E,I⟩:=ze I;obtain⟨k,J,I⟩:=ze I;obtain⟨Y,L,Z⟩:=ze J;refine T ?_;refine(m,h,x,g,C,λv1 H1 t e W=>(t,h,y,g.ext e,E,λl n u O j=>s1 u n v1 l x y Y _ O.sub (W.mono O.s0) j L λv3 o i f r3=>?_));cases Y with
  | bl k'=>
   cases Z;refine(k,r3,?_);cases k with
   |true=>
    rw[DZ rfl];rw[DZ rfl]at I;obtain⟨z,M,N⟩:=ze I;exact(i,h,z,((g.ext e).ext O).ext f,M,λv4 p w U r4=>s2 w p l v4 y z d _ U.sub ((j.mono f.s0).mono U.s0) r4 N λv5 s A x5 r5=>q v5 s A (((e.trans O).trans f).trans (U.trans x5)) r5)
   |false=>
    rw[DJ ()];cases I;exact q _ o i ((e.trans O).trans f) rfl
  |_=>cases Z
end
theorem JG(h:Xg o=cz rows):o=cz (.nest rows):=by
 cases o with
 |none=>cases h
 |some c=>cases c<;>first|cases h;rfl|cases h
noncomputable def ze7(K:Ti)(f:CO (List<|List D)):TE:=λj H Q=>∃h i d,RC K h H j i/\f i=cz d/\
 ∀a bs g e,Ext h H e g->(∀b∈a::bs,H b=none)->sk K e g d a bs->Q (.ref a) g
def rQ(K:Ti)(z H:Hp)(j:List (List D))(bs:List di):Prop:=bs.length=j.length/\∀(k:Nat) b row,bs[k]? = cz b->j[k]? = cz row->z b=none/\∃a,H b=cz (.lst a)/\dn K z row a
theorem rQ.at{K:Ti}{z H:Hp}{j:List (List D)}{bs:List di}(n:rQ K z H j bs){b:di}(O:b∈bs):z b=none/\∃xs,H b=cz (.lst xs):=by obtain⟨k,y⟩:=_i O;have I:=(TR.mp y).1;rw[n.1]at I;obtain⟨Q,xs,U,_⟩:=n.2 k b _ y<|To I;exact(Q,xs,U)
theorem rQ.ext{K:Ti}{E H z B:Hp}{j:List (List D)}{bs:List di}(n:rQ K E H j bs)(e:Ext E H z B):rQ K z B j bs:=
 (n.1,λk b row y I=>by obtain⟨O,a,g2,Q⟩:=n.2 k b row y I;exact(e.new b O (),a,e.s1 _ _ g2,Q.mono e.s0))
theorem rQ.add{K:Ti}{B H:Hp}{j:List (List D)}{bs:List di}{b:di}{row:List D}{xs:List V}(n:rQ K B H j bs)(O:B b=none)(Q:H b=cz (.lst xs))(U:dn K B row xs):rQ K B H (j++[row]) (bs++[b]):=
 (by simp[n.1],λk c r a y=>by
  rcases TV k bs.length with z|z
  .rw[ve z]at a
   rw[ve (by rw[<-n.1];exact z)]at y;exact n.2 k c r a y
  .rw[UO z]at a
   rw[UO (by rw[<-n.1];exact z)]at y;have I:k-bs.length=0:=by have:=(TR.mp a).1;simp at this;lia
   rw[I]at a;rw[<-n.1,I]at y;cases a;cases y;exact(O,xs,Q,U))
theorem rQ.hide{K:Ti}{z H:Hp}{j:List (List D)}{bs:List di}{y:di}{o:HO}(n:rQ K z H j bs)(h:y∉bs):rQ K z (upd H y o) j bs:=
 (n.1,λk b row I O=>by obtain⟨Q,a,g2,U⟩:=n.2 k b row I O;exact(Q,a,by rw[zJ (λq=>h<|by rw[<-q];exact UR I)];exact g2,U))
section
variable{K:Ti}{own:List Str}{fr:List (Str×Nat)}{src:CO (List D)}{T:Tg}{f:CO (List D)}
theorem lV(hT:∀i∈T.idx,i<own.length){tt:TT}(bn:∀B H Q,tT K jB B H Q->tt B H Q):∀B H Q,ze7 K (dZ src T own.length (fr.map (·.2)) f) B H Q->mV (P1 K src) own fr (pZ K T) tt (tO K f) B H Q:=λB H Q hZ=>by
 obtain⟨H0,t,l,rc,N,q⟩:=hZ;obtain⟨O,e1,N⟩:=ze N;by_cases hl:O.length<=lim
 .rw[DZ hl]at N
  refine(H0,t,O,rc,e1,λJ u as E wk D P=>?_);have ac:∀(i:Nat) C,(jq own.length (fr.map (·.2)) t)[i]? ≠ cz (.own C):=λi C h=>by rcases xp h with z|⟨d',j,z,_⟩<;>cases z
  have ad:∀(i:Nat) C,(jq own.length (fr.map (·.2)) t)[i]? ≠ cz (.nest C):=λi C h=>by rcases xp h with z|⟨d',j,z,_⟩<;>cases z
  have b0:=jy E.sub P;have b1 c:u c=none->H c=none:=λhc=>by
   cases z:H c with
   |none=>rfl
   |some o=>rw[E.s1 c o z]at hc;omega
  refine(λi m X G g=>m=O.length-i/\i<=O.length/\X.length<=i/\g D=cz (.lst X)/\∃a bs S r2,X=bs.map V.ref/\RC K a g G (jq own.length (fr.map (·.2)) t)/\a D=none/\Ext as u a g/\rQ K a g S bs/\(D::bs).Nodup/\(∀b∈bs,u b=none)/\ZZ T f (jq own.length (fr.map (·.2)) t) (O.drop i)=cz r2/\l=S++r2,
   (_,rfl,UU _,Tv _,zF,as,[],[],l,rfl,((rc.ext E).pull).upd b0 ac ad,b0,Ext.hide E.sub P _,(rfl,λk b row h=>by simp at h),by simp,λb Y=>by simp at Y,N,rfl),?_)
  rintro i m X G g ⟨rfl,hi,hy,ak,a,bs,S,r2,bu,al,b3,Z,M,nd,b4,I,rfl⟩;subst bu;refine(ak,?_);by_cases p:i<O.length
  .refine .inr (wk.go i g Z.s1 p,?_,λx b5 y=>?_)
   .have:=vX<|Tv lim;lia
   refine Tf λkZ=>?_;obtain⟨d,hd,hx⟩:=wk.uy i g x b5 Z.s1 p y;obtain⟨G0,U,rg⟩:=hx a Z.s0 al.sub;refine kZ ?_;have bx:O.drop i=d::O.drop (i+1):=by
    have c0:=by rw[To p]at hd;exact(UK hd).symm
    rw[c0];exact M1 p
   rw[bx]at I;simp only[ZZ]at I;refine Tf λkZ=>?_;obtain⟨n,eb,I⟩:=ze I;obtain⟨e,ee,I⟩:=ze I;obtain⟨vN,er,I⟩:=zB I;have c3:=U.s1 _ _ ak;obtain⟨bl,bg⟩:=aG eb;refine kZ ?_;have c4:∀{L:St} {G2 H2:Hp},RC K G2 H2 L n->RC K G2 H2 L (jq own.length (fr.map (·.2)) t):=λr=>r.weak bl.symm (λj d' hj=>by
    by_cases R:j∈T.idx
    .rcases xp hj with z|⟨d2,j2,_,hn,_⟩
     .cases z
     .exact absurd (hT j R) ()
    .rw[bg j R];exact hj) ac ad
   refine JI U.sub rg eb λNT b9 _=>bn NT b5 _ (G0,n,cC,b9<|al.ext U,rfl,λH3 c6 s=>?_);have bb:=(b9<|al.ext U).ext s;have xa:=Z.trans<|U.trans s;have c7:=s.s1 _ _ c3;dsimp only;rw[DZ rfl];refine(c6,n,e,bb,ee,λA cm H4 c8 F g1 g2 g3 g4=>?_);have an:=F.new D (s.new D (U.new D b3 ()) ()) ();have W:=xa.trans F;have bf:=(tv.mp nd).1;have bi:D≠A:=λz=>by lia
   have cb:A∉bs:=λR=>by obtain⟨_,cq,z⟩:=((M.ext U).ext s).at R;lia
   have cd:u A=none:=by
    cases z:u A with
    |none=>rfl
    |some o=>rw[xa.s1 _ _ z]at g1;cases g1
   refine(F.s1 _ _ c7,_,_m _ _ p,rfl,p,by rw[UD,C9];lia,zF,c8,bs++[A],S++[e],vN,by simp,(c4<|bb.ext F).upd an ac ad,an,(W.s0,λc o z=>by rw[zJ (λw=>by rw[w,P]at z;cases z)];exact W.s1 c o z,λc o z=>by rw[zJ (λw=>by rw[w,an]at z;cases z)];exact W.sub c o z,W.new),((((M.ext U).ext s).ext F).add g2 g3 g4).hide (by simp[bf,bi]),?_,?_,er,?_)
   .refine tv.mpr (by simp[bf,bi],List.nodup_append.mpr ((tv.mp nd).2,by simp,λc hc c' ce=>?_))
    have:=by simpa using ce
    subst this;exact λz=>cb (by rw[<-z];exact hc)
   .intro b Y
    rcases uB.mp Y with z|z
    .exact b4 b z
    .have:=by simpa using z
     subst this;exact cd
   .rw[<-I];simp
  .have e:i=O.length:=()
   subst e;rw[Nz]at I;cases I;rw[E7]at q;refine .inl (wk.stop g Z.s1,q D bs g a (E.trans Z) (λb Y=>?_) (b3,ak,nd,M.1,M.2));rcases Tz.mp Y with rfl|Y
   .exact b1 _ P
   .exact b1 b<|b4 b Y
 lia
end
section
variable{K:Ti}{E0 E H0 H:Hp}{σ:St}{γ:Ctx}
theorem Xl(h:γ.any W5=cL)(i:Nat)(j:List (List D)):γ[i]? ≠ cz (.nest j):=λe=>by exact(X_.mp h _<|UR e) rfl
theorem RS.zeV(r:RS K E0 E G0 G σ γ)(e:Ext G0 G H0 H)(P:∀b∈a::bs,G b=none)(n:sk K H0 H rows a bs)(Q:γ.any W5=cL):
 RS K E0 E H0 H (σ.set i<|some (.ref a)) (γ.set i<|.nest rows):=by
 have f:=r.rc.ext e;have w:∀b∈a::bs,E b=none:=λb U=>by
  cases q:E b with
  |none=>rfl
  |some o=>have:=P b U;rw[r.ext.s1 b o q]at this;lia
 refine((f.sub,by simp[f.len],λj A g=>?_,λj d g=>?_,λj k b d fs l Y t u=>?_,(λj Z g=>?_,λj k C F y g2=>?_)),r.ext.trans e,λj d b y g2=>?_,λj Z b M y g2 O=>?_)
 .rcases zL g with⟨_,z,_⟩|⟨I,z⟩
  .cases z
  .obtain⟨J,y,g2⟩:=f.val j A z
   exact(J,by rw[Tu (Ue I)];exact y,g2)
 .rcases zL g with⟨_,z,_⟩|⟨I,z⟩
  .cases z
  .obtain⟨b,x,y,g2⟩:=f.own j d z
   exact(b,x,by rw[Tu (Ue I)];exact y,g2)
 .rcases zL l with⟨_,z,_⟩|⟨I,h⟩
  .cases z
  .rcases zL Y with⟨_,z,_⟩|⟨m,s⟩
   .cases z
   .rw[Tu (Ue I)]at t
    rw[Tu (Ue m)]at u;exact f.ne j k b d fs h s t u
 .rcases zL g with⟨rfl,z,p⟩|⟨I,z⟩
  .cases z
   refine(a,bs,Ud (by rw[f.len];exact p),n,λk d c l Y=>?_);rcases zL l with⟨_,z,_⟩|⟨m,h⟩
   .cases z
   .rw[Tu (Ue m)]at Y
    obtain⟨L,x,y,g2,O,_⟩:=r.rc.own k d h
    grind
  .exact absurd z<|Xl Q j Z
 .rcases zL y with⟨rfl,_,_⟩|⟨_,h⟩
  .rcases zL g2 with⟨rfl,_,_⟩|⟨_,s⟩
   .rfl
   .exact absurd s<|Xl Q k F
  .exact absurd h<|Xl Q j C
 .rcases zL y with⟨_,z,_⟩|⟨I,z⟩
  .cases z
  .rw[Tu (Ue I)]at g2;exact r.fresh j d b z g2
 .rcases zL y with⟨rfl,z,p⟩|⟨I,z⟩
  .rw[Ud (by rw[f.len];exact p)]at g2;cases g2
   rw[n.ha]at O;injection O with O;injection O with O;subst O;refine(w a Uh,λb U=>?_);obtain⟨c,B,q⟩:=Uz.mp U;cases q;exact w b<|TN _ B
  .exact absurd z<|Xl Q j Z
theorem RS.forget(r:RS K E0 E H0 H σ γ):RS K E0 E H0 H (σ.set i v) (γ.set i .no):=by
 have I:∀{j:Nat} {e:List D} {b:di},(γ.set i .no)[j]? = cz (.own e)->_/\(σ.set i v)[j]? = σ[j]? :=λ{j e b} g=>by
  rcases zL g with⟨_,z,_⟩|⟨O,z⟩
  .cases z
  .exact(z,Tu<|Ue O)
 have Q:∀{j:Nat} {d:List (List D)},(γ.set i .no)[j]? = cz (.nest d)->_/\(σ.set i v)[j]? = σ[j]? :=λ{j d} g=>by
  rcases zL g with⟨_,z,_⟩|⟨O,z⟩
  .cases z
  .exact(z,Tu<|Ue O)
 refine((r.rc.sub,by simp[r.rc.len],λj o g=>?_,λj e g=>?_,λj k b e fs l U Z n=>?_,(λj d g=>?_,λj k w x y g2=>r.rc.m9.2 j k w x (Q y).1 (Q g2).1)),r.ext,λj e b y g2=>?_,λj d b B y g2 g3=>?_)
 .rcases zL g with⟨_,z,_⟩|⟨O,z⟩
  .cases z
  .obtain⟨A,y,g2⟩:=r.rc.val j o z
   exact(A,by rw[Tu (Ue O)];exact y,g2)
 .obtain⟨f,h⟩:=I (b:=0) g
  rw[h];exact r.rc.own j e f
 .obtain⟨f,h⟩:=I (b:=0) l
  obtain⟨m,Y⟩:=I (b:=0) U;rw[h]at Z;rw[Y]at n;exact r.rc.ne j k b e fs f m Z n
 .refine Tf λu=>?_;obtain⟨f,h⟩:=Q g
  obtain⟨a,bs,p,s,t⟩:=r.rc.m9.1 j d f;refine u ?_;refine(a,bs,by rw[h];exact p,s,λk e c l U=>?_);obtain⟨m,Y⟩:=I (b:=0) l;rw[Y]at U;exact t k e c m U
 .obtain⟨f,h⟩:=I (b:=0) y
  rw[h]at g2;exact r.fresh j e b f g2
 .obtain⟨f,h⟩:=Q y
  rw[h]at g2;exact r.r7 j d b B f g2 g3
theorem WS:∀{l:List di} {m t:Nat} {b:di},l.Nodup->l[m]? = cz b->l[t]? = cz b->m=t
 |[],m,t,b,_,h,_=>by simp at h
 | c::l,m,t,b,nd,h1,h2=>by
  obtain⟨a,d⟩:=tv.mp nd;cases m with
  | zero=>
   cases t with
   |zero=>rfl
   |succ t=>
    have e1:=by simpa using h1
    exact absurd (UR<|by simpa using h2)<|e1 ▸ a
  | succ m=>
   cases t with
   |zero=>
    have y:=by simpa using h1
    exact absurd (UR y)<|(by simpa using h2) ▸ a
   |succ t=>exact congrArg (· + 1) (WS d (by simpa using h1)<|by simpa using h2)
theorem RC.row{j i t:Nat}{R:List (List D)}{a b:di}{bs:List di}{row:List D}(r:RC K H0 H σ γ)(P:γ[j]? = cz (.nest R))(hs:σ[j]? = cz (cz (.ref a)))(S:sk K H0 H R a bs)
 (Y:∀(k:Nat) ds c,γ[k]? = cz (.own ds)->σ[k]? = cz (cz (.ref c))->c∉a::bs) (Z:bs[t]? = cz b) (hr:R[t]? = cz row) (B:i<γ.length):
 RC K H0 H (σ.set i<|some (.ref b)) ((γ.set j .no).set i (.own row)):=by
 obtain⟨p,A,s,u⟩:=S.row t b row Z hr;have l:b∈a::bs:=TN _<|UR Z;have I:∀{k:Nat} {c:Cell},c ≠ .no->_=cz c->γ[k]? = cz c/\k≠j:=λ{k c} x g=>by
  rcases zL g with⟨_,z,_⟩|⟨y,z⟩
  .exact absurd z x
  .exact(z,y)
 refine(r.sub,by simp[r.len],λk d g=>?_,λk ds g=>?_,λk m c ds o w n O Q=>?_,pf.C1 λk h g=>?_)
 .rcases zL g with⟨_,z,_⟩|⟨y,z⟩
  .cases z
  .obtain⟨e,_⟩:=I () z
   rw[Tu (Ue y)];exact r.val k d e
 .rcases zL g with⟨rfl,z,C⟩|⟨y,z⟩
  .cases z
   exact(b,A,Ud (by rw[r.len];exact B),p,s,u)
  .obtain⟨e,_⟩:=I () z
   rw[Tu (Ue y)];exact r.own k ds e
 .rcases zL w with⟨rfl,_,_⟩|⟨y,e⟩
  .rcases zL n with⟨rfl,_,_⟩|⟨U,f⟩
   .rfl
   .obtain⟨f,_⟩:=I () f
    rw[Ud (by rw[r.len];exact B)]at O;rw[Tu (Ue U)]at Q;cases O;exact absurd l<|Y m o b f Q
  .obtain⟨e,_⟩:=I () e
   rcases zL n with⟨rfl,_,_⟩|⟨U,f⟩
   .rw[Ud (by rw[r.len];exact B)]at Q
    rw[Tu (Ue y)]at O;cases Q;exact absurd l<|Y k ds b e O
   .obtain⟨f,_⟩:=I () f
    rw[Tu (Ue y)]at O;rw[Tu (Ue U)]at Q;exact r.ne k m c ds o e f O Q
 .rcases zL g with⟨_,z,_⟩|⟨y,z⟩
  .cases z
  .obtain⟨e,f⟩:=I () z
   exact f<|r.m9.2 k j h R e P
theorem RS.T?(r:RS K E0 E H0 H σ γ)(O:γ[j]? = cz (.nest R))(hs:σ[j]? = cz (cz (.ref a)))(y:sk K H0 H R a bs)
 (P:∀(k:Nat) ds c,γ[k]? = cz (.own ds)->σ[k]? = cz (cz (.ref c))->c∉a::bs) (B:bs[t]? = cz b) (S:dn K H0 t_ ys):
 RS K E0 E H0 (upd H b<|.lst ys) σ (γ.set j<|.nest<|R.set t t_):=by
 have h:=UR B;have u:b≠a:=λq=>(tv.mp y.nd).1 (by rw[<-q];exact h);obtain⟨x,_⟩:=y.at<|TN a h;obtain⟨J,w⟩:=r.r7 j R a _ O hs y.ha;have W:=w b<|Uz.mpr (b,h,rfl);have Q:∀{k:Nat} {c:Cell},(∀e,c ≠ .nest e)->(γ.set j<|.nest<|R.set t t_)[k]? = cz c->γ[k]? = cz c:=λ{k c} U g=>by
  rcases zL g with⟨_,z,_⟩|⟨i,z⟩
  .exact absurd z<|U _
  .exact z
 refine((λc o q=>?_,by simp[r.rc.len],λk d g=>r.rc.val k d<|Q () g,λk ds g=>?_,λk m c ds L A C F G=>r.rc.ne k m c ds L (Q () A) (Q () C) F G,(λk e g=>?_,λk m N T I g2=>?_)),(r.ext.s0,λc o q=>?_,λc o q=>?_,r.ext.new),λk ds c I g2=>r.fresh k ds c (Q () I) g2,λk e c n I g2 Y=>?_)
 .rw[zJ (λz=>by lia)];exact r.rc.sub c o q
 .have z:=Q () g
  obtain⟨c,n,Z,f,p,M⟩:=r.rc.own k ds z;refine(c,n,Z,f,?_,M);rw[zJ (λq=>P k ds c z Z<|by rw[q];exact TN _ h)];exact p
 .have i:k=j:=by
   rcases zL g with⟨z,_,_⟩|⟨_,z⟩
   .exact z
   .exact r.rc.m9.2 k j e R z O
  subst i;rw[Ud ((TR.mp O).1)]at g;cases g;refine(a,bs,hs,(y.a0,by rw[zJ (Ue u)];exact y.ha,y.nd,by simp[y.len],λm c row U l=>?_),λm ds c I g2=>P m ds c (Q () I) g2);by_cases s:m=t
  .subst s
   rw[B]at U;cases U;have:m<R.length:=by rw[<-y.len];exact(TR.mp B).1
   rw[Ud this]at l;cases l;exact(x,ys,zF,S)
  .rw[Tu (Ue s)]at l
   obtain⟨Z,n,f,p⟩:=y.row m c row U l;exact(Z,n,by rw[zJ (λq=>by subst q;exact s<|WS ((tv.mp y.nd).2) U B)];exact f,p)
 .have Z:k=j:=by
   rcases zL I with⟨z,_,_⟩|⟨_,z⟩
   .exact z
   .exact r.rc.m9.2 k j N R z O
  have f:m=j:=by
   rcases zL g2 with⟨z,_,_⟩|⟨_,z⟩
   .exact z
   .exact r.rc.m9.2 m j T R z O
  rw[Z,f]
 .rw[zJ (λz=>by lia)];exact r.ext.s1 c o q
 .rw[zJ (λz=>by lia)];exact r.ext.sub c o q
 .have i:k=j:=by
   rcases zL I with⟨z,_,_⟩|⟨_,z⟩
   .exact z
   .exact r.rc.m9.2 k j e R z O
  subst i;rw[hs]at g2;cases g2;rw[zJ (Ue u),y.ha]at Y;injection Y with Y;injection Y with Y;subst Y;exact(J,w)
end
section
variable{K:Ti}{E0 E H0 H:Hp}{σ:St}{γ:Ctx}
theorem RS.freeze(r:RS K E0 E H0 H σ γ)(e:γ[i]? = cz (.own ds)):∃B,RS K E0 E B H σ (γ.set i<|.val<|.lst ds):=by
 obtain⟨a,k,I,O,U,Y⟩:=r.rc.own i ds e;have m:=r.fresh i ds a e I;obtain⟨B,h,Q⟩:∃B,B=upd H0 a (.lst k)/\_:=by exact(_,rfl,RC.N? r.rc e I O U Y)
 subst h;refine(_,Q,(r.ext.s0.trans<|ju O _,r.ext.s1,Q.sub,λc Z g=>?_),λj f b y g2=>?_,λj d b l y g2 g3=>?_)
 .rw[zJ (λz=>by lia)];exact r.ext.new c Z g
 .rcases zL y with⟨_,z,_⟩|⟨_,z⟩
  .cases z
  .exact r.fresh j f b z g2
 .rcases zL y with⟨_,z,_⟩|⟨_,z⟩
  .cases z
  .exact r.r7 j d b l z g2 g3
open Classical in
noncomputable def lg(H0 H:Hp)(L:List di):Hp:=λc=>if c∈L then H c else H0 c
theorem VG(h:c∈L):lg H0 H L c=H c:=by unfold lg;rw[DZ h]
theorem Jv(h:c∉L):lg H0 H L c=H0 c:=by unfold lg;rw[DJ h]
theorem Wv:∀{j:List (List D)} {bs:List di},bs.length=j.length->(∀(k:Nat) b row,bs[k]? = cz b->j[k]? = cz row->∃xs,G b=cz (.lst xs)/\dn K G row xs)->dn K G (j.map D.lst) (bs.map V.ref)
 |[],[],_,_=>dn.nil
 |[],_::_,h,_=>by simp at h
 |_::_,[],h,_=>by simp at h
 |row::j,b::bs,h,f=>by obtain⟨xs,y,g2⟩:=f 0 b row rfl rfl;exact dn.cons (XI (gg.of y) g2) (Wv (by simpa using h) λk c r a I=>f (k+1) c r (by simpa using a)<|by simpa using I)
theorem RS.F?(r:RS K E0 E H0 H σ γ)(e:γ[i]? = cz (.nest rows)):∃B,RS K E0 E B H σ (γ.set i<|.val<|.lst<|rows.map D.lst):=by
 obtain⟨a,bs,n,O,t⟩:=r.rc.m9.1 i rows e;obtain⟨C,F⟩:=r.r7 i rows a _ e n O.ha;have ef:∀b∈a::bs,E b=none:=λb Z=>by
  rcases Tz.mp Z with rfl|Z
  .exact C
  .exact F b<|Uz.mpr (b,Z,rfl)
 have h:ft H0 (lg H0 H (a::bs)):=λc o q=>by rw[Jv (λI=>by rw[(O.at I).1]at q;cases q)];exact q
 have sub:ft (lg H0 H (a::bs)) H:=λc o q=>by
  by_cases I:c∈a::bs
  .rw[VG I]at q;exact q
  .rw[Jv I]at q;exact r.rc.sub c o q
 have p:∀{j:Nat} {Q:List (List D)},(γ.set i<|.val<|.lst<|rows.map D.lst)[j]? ≠ cz (.nest Q):=λ{j Q} g=>by
  rcases zL g with⟨_,z,_⟩|⟨l,z⟩
  .cases z
  .exact l<|r.rc.m9.2 j i Q rows z e
 have U:∀{j:Nat} {f:List D},(γ.set i<|.val<|.lst<|rows.map D.lst)[j]? = cz (.own f)->γ[j]? = _:=λ{j f} g=>by
  rcases zL g with⟨_,z,_⟩|⟨l,z⟩
  .cases z
  .exact z
 refine(_,(sub,by simp[r.rc.len],λj d g=>?_,λj f g=>?_,λj k c f G u w x A=>r.rc.ne j k c f G (U u) (U w) x A,pf.C1 λj Q=>p),(r.ext.s0.trans h,r.ext.s1,sub,λc m Y=>?_),λj f b y g2=>r.fresh j f b (U y) g2,λj Q b s y=>absurd y p)
 .rcases zL g with⟨rfl,z,M⟩|⟨l,z⟩
  .cases z;exact(_,n,XI (gg.of<|by rw[VG Uh];exact O.ha) (Wv O.len λk b row y g2=>by
  obtain⟨_,L,m,Y⟩:=O.row k b row y g2;exact(L,by rw[VG (TN _<|UR y)];exact m,Y.mono h)))
  .obtain⟨v,y,g2⟩:=r.rc.val j d z
   exact(v,y,g2.mono h)
 .obtain⟨b,s,y,g2,g3,J⟩:=r.rc.own j f (U g)
  exact(b,s,y,by rw[Jv (t j f b (U g) y)];exact g2,g3,J.mono h)
 .rw[Jv (λI=>Y<|ef c I)];exact r.ext.new c m Y
end
section
variable{X:Cx}{st:h9}{F:CO Fl}
theorem J5(i:Nat)(h:ji X st F):ji X st (BK i F):=yS h λD g H I=>by obtain⟨E0,E,d,f,O,Q,y,U⟩:=I;obtain⟨e,b,y⟩:=ze y;obtain⟨a,Y⟩:=Q.freeze<|kT b;exact(E0,E,a,_,O,Y,y,U)
theorem zfl(i:Nat)(h:ji X st F):ji X st (Ir i F):=yS h λD g H I=>by obtain⟨E0,E,e,f,O,Q,y,U⟩:=I;obtain⟨b,d,y⟩:=ze y;obtain⟨a,Y⟩:=Q.F?<|JG d;exact(E0,E,a,_,O,Y,y,U)
end
section
variable{X:Cx}{sc:h6}{N L:List Str}{k:Nat}
theorem zfk(i:Nat)(h:SX X sc N L k)(c:vj sc N L i y=cC)
 (Z:X.calm=cC) (ok:rf X scope fr) (B:∀i∈T.idx,i<own.length) (S:ri X tg iter src) (R:∀fp z j,PG (jV X scope (own++fr.map (·.1)) fp z j) tg<|pZ X.K T)
 (P:∀fp z j,PO (jV X scope (own++fr.map (·.1)) fp z j) elt f) (hs:∀x,pj iter X.env x=pure x:=by intro _;rfl):
 ji X (.Assign [.Name y py] (.ListComp elt [(tg,iter,[],0)] scope cpos) spos) (uc i<|dZ src T own.length (fr.map (·.2)) f):=by
 obtain⟨r,s,t⟩:=h.loc c;refine yS (J6 (te:=tO X.K f) h.DM r s t Z ok S R (λ_ _ _=>Vm) P hs) λD m H O=>?_;refine Tf λw=>?_;obtain⟨E0,E,e,l,F,U,I,o⟩:=O;obtain⟨d,p,I⟩:=ze I;refine w ?_;by_cases Y:l.any W5=cL
 .rw[DZ Y]at I;cases I
  exact lV B (λm H Q O=>by obtain⟨e,l,b,A,I,q⟩:=O;cases I;exact q H e<|Ext.refl A.sub) m H _ (e,l,d,U.rc,p,λa bs C g x u n=>o _ _ g<|U.zeV x u n Y)
 lia
theorem nQ(O:i≠j)(c:Cell)(r:List D):((((γ.set j c).set i .no).set j .no).set i (.own r))=w4 γ j i r:=by
 unfold w4;apply F4;intro m;simp only[RB,List.length_set];by_cases y:i=m
 .subst y;simp
 .by_cases I:j=m
  .subst I;simp[y]
  .simp[y,I]
theorem bV{γ:Ctx}{j i:Nat}(y:i≠j)(c I:Cell):(((γ.set j c).set i .no).set j I)=(γ.set j I).set i .no:=by rw[List.set_comm _ _ (Ue y),List.set_set,List.set_comm _ _ y]
theorem iw(j i:Nat){x y:Str}{bb Y bd:f9}{U e:d8}{g f:CO D}{p pos c0:f9}(hp:N5 (d5 X.prog X.w) X.A X.env X.xe)(hc:X.calm=cC)(h:SX X sc N L k)(cj:vH sc N j x=cC)(ci:vH sc N i y=cC)
 (hg:PG X (.Name y bb) (Zm i)) (hi:PV X U g) (he:PV X e f)
 (ha:∀v,tZ (.Subscript (.Name y Y) U p) X.env v=(do
   let ov<-qs [v] (dy (.Name y Y) X.env);let iv<-qs [v,ov] (dy U X.env)
   u0 p
   qs [v,ov,iv] (PR ov iv v)
   release [v,ov,iv] []):=by intro _;rfl)
 (hs:L5 [.Subscript (.Name y Y) U p] e pos.line X.env=pure cL:=by rfl) (hw:P0 [.Subscript (.Name y Y) U p] e X.env=pure none:=by rfl)
 (h1:(sT [.Subscript (.Name y Y) U p] X.env).map (·.2)=[tZ (.Subscript (.Name y Y) U p) X.env]:=by rfl)
 (hf:∀z,pj (.Name x bd) X.env z=pure z:=by intro _;rfl):
 ji X (.For (.Name y bb) (.Name x bd) [.Assign [.Subscript (.Name y Y) U p] e pos] [] c0) (nI j i g f):=
 yS (BZ hp hc (oG<|h.var cj) hg (J4<|eM he (Cb (h.var ci) hi dW ha) hs hw h1) hf) λD C H hZ=>by
  refine Tf λZ=>?_;obtain⟨E0,E,H0,r,fl,rs,M,be⟩:=hZ;obtain⟨l,e1,M⟩:=ze M;refine Z ?_;have e1:=JG e1;by_cases bf:i=j\/r.length<=i
  .lia
  rw[DJ bf]at M;have s:=λz=>bf<|.inl z;have ak:i<r.length:=()
  have ca:=(TR.mp e1).1;obtain⟨b0,e2,M⟩:=zB M;subst M;have es:C.set i (C[i]?.getD none)=C:=by simp[show i<C.length by rw[rs.rc.len];exact ak]
  obtain⟨a,bs,g1,hn,zhx⟩:=rs.rc.m9.1 j l e1;refine(_,g1,a,.L,rfl,(_,gg.of hn.ha),?_);refine(λt m F H'=>m=l.length-t/\t<=l.length/\∃o I vN Q,I.length=t/\Q[j]? = cz (cz (V.ref a))/\(∃v,F=Q.set i v)/\H' a=cz (.lst<|bs.map V.ref)/\RS X.K E0 E o H' F ((r.set j<|.nest<|I++l.drop t).set i .no)/\yZ j i g f r (l.drop t)=cz vN/\b0=I++vN,
   (_,rfl,UU _,H0,[],b0,C,rfl,g1,(C[i]?.getD none,?_),hn.ha,?_,e2,rfl),?_)
  .exact es.symm
  .have:=rs.forget (i:=i) (v:=C[i]?.getD none)
   rw[es]at this;have ec:r.set j (.nest l)=r:=by simp[<-(TR.mp e1).2]
   simpa[ec]using this
  rintro t m F H' ⟨rfl,ht,o,I,vN,Q,R,S,⟨v0,rfl⟩,T,W,O,er⟩;have al:((r.set j<|.nest<|I++l.drop t).set i .no)[j]? = cz (.nest<|I++l.drop t):=by rw[Tu s,Ud ca]
  obtain⟨a',u,q1,b2,cf⟩:=W.rc.m9.1 j _ al;rw[Tu s,S]at q1;cases q1;have ch:u=bs:=by have:=b2.ha;rw[T]at this;injection this with this;injection this with this;exact(vW this).symm
  subst ch;have am:u.length=l.length:=by rw[b2.len];simp;grind
  by_cases J:t<l.length
  .have P:u[t]? = cz (u[t]'(am ▸ J)):=To (am ▸ J)
   generalize u[t]'(am ▸ J)=b at P;have b3:=M1 J;refine .inr ((_,.ref b,gg.of T,by rw[UE,P];rfl),λG H2=>t+1<=l.length/\∃(o:Hp) (I vN:List (List DL.D)) (Q:L2.St),I.length=t+1/\Q[j]? = cz (cz (V.ref a))/\(∃v,G=Q.set i v)/\H2 a=cz (.lst<|u.map V.ref)/\RS X.K E0 E o H2 G ((r.set j<|.nest<|I++l.drop (t+1)).set i .no)/\yZ j i g f r (l.drop<|t+1)=cz vN/\b0=I++vN,λG H2 n=>(_,_m _ _ J,rfl,n.1,n.2),λzhJ H2 yl=>?_);obtain⟨rfl,yl⟩:=yl;have cl:=by have:=yl _<|gg.of T;rw[UE,P]at this;exact(UK this).symm
   subst cl;rw[b3]at O;simp only[yZ]at O;refine Tf λZ=>?_;obtain⟨d,f1,O⟩:=ze O;obtain⟨kk,f2,O⟩:=ze O;obtain⟨dk,f3,f2⟩:=ze f2;obtain⟨mm,f4,O⟩:=ze O;obtain⟨cv,f5,O⟩:=zB O;refine Z ?_;have cx:(I++l.drop t)[t]? = cz l[t]:=by rw[b3,UO<|NN R,R];simp
   have B:(Q.set i v0).set i (cz (.ref b))=Q.set i (cz (.ref b)):=List.set_set ..;have an:=W.rc.row al (by rw[Tu s];exact S) b2 cf P cx (by simp;exact ak);simp only[nQ s,B]at an;show ∃_,_;refine(o,w4 r j i l[t],d,?_,f1,λv H3 cy x3 r3=>?_)
   .rw[B];exact an
   have bn:=an.ext x3;refine Tf λZ=>?_;obtain⟨b',xs,p1,p2,p3,p4⟩:=bn.own i l[t] (by unfold w4;rw[Ud (by simpa using ak)]);refine Z ?_;have d1:b'=b:=by
    rw[Ud (by
     have:=an.len;simp[w4]at this;rw[this];exact ak)]at p1
    cases p1;rfl
   subst d1;refine(_,by rw[B];exact p1,cy,w4 r j i l[t],dk,by rw[B];exact bn,f3,λv2 H4 d2 x4 r4=>?_);rw[j3 f2]at r4;refine(b',xs,kk,mm,rfl,jP r4,x4.s1 _ _ p3,by rw[p4.length];exact fM f4,?_);have b8:=((W.step x3).step x4).forget (i:=i) (v:=cz (.ref b'));simp only[(List.set_set ..),B]at b8;refine Tf λZ=>?_;obtain⟨a2,bs2,w1,b9,d3⟩:=b8.rc.m9.1 j _ al;refine Z ?_;rw[Tu s,S]at w1;cases w1;have bu:=x4.s1 _ _<|x3.s1 _ _ T;have d4:bs2=u:=by have:=b9.ha;rw[bu]at this;injection this with this;injection this with this;exact(vW this).symm
   subst d4;have bv:=b8.T? al (by rw[Tu s];exact S) b9 d3 P<|(p4.mono x4.s0).set mm (r3.mono x4.s0);refine(J,d2,I++[l[t].set mm d],cv,Q,by simp[R],S,(cz (.ref b'),B),by rw[zJ (λq=>(tv.mp b9.nd).1 (by rw[q];exact UR P))];exact bu,?_,f5,by rw[er,<-O];simp);rw[B];have eR:(I++l.drop t).set t (l[t].set mm d)=(I++[l[t].set mm d])++l.drop (t+1):=by rw[b3,List.set_append_right _ _<|NN R,R,Nat.sub_self,X'];rfl
   rw[eR,bV s]at bv;exact bv
  .have et:t=l.length:=()
   subst et;rw[Nz]at O;cases O;rw[Nz]at W;refine .inl ((_,gg.of T,by simp[am]),?_);rw[er]at be;exact be _ _ o W
end
end DL
namespace L2
open PySem PySem.Spec PyProof.Rows
def OF(K:Ti):V->List V->Hp->VK->Prop:=λx b H Q=>∃y p I,x=.str y/\b=[.ref p]/\gg K H p (I.map V.str)/\Builtin.Str.tooLong (I.toArray.foldl (λa p=>a+p.length+y.length) 0)=cL/\Q (.str<|Str.join y I) H
theorem mE{y:List Str}{j:List dj}(r:eo (y.map V.str) j):∃l,strValues l=j/\l.map (·.1)=y:=by
 induction y generalizing j with
 |nil=>cases r;exact([],rfl,rfl)
 |cons z y I=>
  cases r with|cons r t=>?_;obtain⟨O,rfl⟩:=r;obtain⟨l,rfl,h⟩:=I t;exact((z,O)::l,rfl,by simp[h])
theorem FH:N0 X "str.join" (OF X.K):=by intro a s z H x n v m Q I U Y h;obtain⟨y,p,w,rfl,rfl,Z,O,q⟩:=h;obtain⟨t,rfl⟩:=U;obtain⟨u,rfl,rw⟩:=vJ Y;cases rw;refine Tf λg=>?_;obtain⟨f,r,i,j⟩:=I.list Z;obtain⟨l,rfl,e⟩:=mE r;refine g ?_;subst e;refine sR F.slot_str_join (E' _ _ _) F.entry_str_join (F.args_str_join_2 _ _) (meets_str_join_list y t p l O) (i.isList,post_join l (joinFit_length O,λd k=>?_));refine(.str _,H,(I.kept λb o e=>e),(d,?_),q);show Value.str (Builtin.Str.glued y _) d=_;rw[StrLaws.glued_eq_join]
end L2
namespace DL
open PySem PySem.Spec PyProof.Rows L2
theorem Wm{K:Ti}{H:Hp}:∀{ds:List D} {xs:List V} {l:List Str},dn K H ds xs->mX ds=cz l->xs=l.map V.str
 |[],xs,l,r,e=>by cases e;rw[r];rfl
 | d::ds,xs,l,r,e=>by
  obtain⟨x,g,rfl,y,b⟩:=(r);cases d with
  |str i=>
   obtain⟨f,a,rfl⟩:=zB e;rw[Wm b a,y];rfl
  |_=>cases e
section
variable{X:Cx}{sc:h6}{N L:List Str}{k:Nat}{o e a b:d8}{apos cpos pos p:f9}{f g:CO D}{q:CO (Sk×List D)}
theorem Va(h:xo x=cC):x.length<=1000:=of_decide_eq_true h
theorem Ye(h:xo x=cC):x.length<=eB:=TJ (Va h) ()
theorem oh(Y:PV X o f)(Z:PQ X e q)(z:uQ o "join" X.env (dy o X.env)=dy o X.env:=by rfl)
 (B:((m5 cpos<|starEach [e] X.env).all (λx=> !x.1)&&(uS cpos<|keywordEach [] X.env).all (λx=>x.1.isSome)&&decide ([e].length+([]:List rE).length+(if ([]:List rE).isEmpty then 0 else 1)<30))=cC:=by rfl)
 (E:(apos.endLine==cpos.line)=cC:=by rfl) (hs:ed [e] X.env=[(cL,dy e X.env)]:=by rfl):PV X (.Call (.Attribute o "join" apos) [e] [] cpos) (EF f q):=
 qV (oO PySem.F.plainAttrs_str PySem.F.slot_str_join PySem.F.type_str_join FH Y (zZ Z j7 hs) z B E hs rfl) λW H Q A=>by
  refine Tf λG=>?_;obtain⟨i,h,d,g,I,K⟩:=A;obtain⟨m,p,I⟩:=ze I;obtain⟨⟨J,n⟩,s,I⟩:=ze I;refine G ?_;cases m with
  | str U=>
   cases J with
   | L=>
    obtain⟨l,t,I⟩:=ze I;by_cases O:l.length<=lim/\l.all xo=cC/\xo U=cC
    .rw[DZ O]at I;cases I
     refine(i,h,_,g,p,λv P b x r=>?_);rw[r];refine(rfl,b,h,.L,n,g.ext x,s,λa S j k N w R M=>?_);have u:=Wm M t;subst u;refine(U,a,l,rfl,rfl,w,StrLaws.joinFits (λy C=>Va<|zt.mp O.2.1 y C) ?_,K _ j k (x.trans N) rfl);have:lim=2500:=rfl;have:l.length*U.length<=2500*1000:=Nat.mul_le_mul ()<|Va O.2.2;lia
    .rw[DJ O]at I;cases I
   |T=>cases I
  |_=>cases I
theorem Jm(B:PV X a f)(U:PV X b g)(hs:df b:=by intro _ _;rfl):PV X (.Subscript a b pos) (wG f g):=
 qV (Lp Mr B U hs) λF H Q Y=>by
  obtain⟨m,l,d,k,y,q⟩:=Y;obtain⟨Z,s,y⟩:=ze y;obtain⟨i,I,y⟩:=ze y;obtain⟨p,t,I⟩:=ze I;cases Z with
  | str z=>
   by_cases O:xo z=cC
   .have y:(if xo z=cC then (hO _ i).bind _ else none)=cz d:=y
    rw[DZ O]at y;obtain⟨j,u,y⟩:=ze y;obtain⟨c,w,rfl⟩:=zB y;refine(m,l,_,k,s,λv C e x r=>(e,l,p,k.ext x,t,λE n o A h=>?_));rw[j3 I]at h;refine(z,i,c,r,jP h,Ye O,?_,q _ n o (x.trans A) rfl);unfold uP;rw[fM u];exact w
   lia
  |_=>cases y
theorem w6(h:SX X sc N L k)(c:wQ sc "len" = cC)(z:X.mg "len" = none)(j:PV X e f)(hs:ed [e] X.env=[(cL,dy e X.env)]:=by rfl):PV X (.Call (.Name "len" p) [e] [] pos) (wZ f):=
 qV (vQ aC (h.gl c).1 z PySem.boot_len (zZ j j7 hs) () () hs rfl) λn H Q O=>by
  obtain⟨g,m,d,l,y,q⟩:=O;obtain⟨U,i,y⟩:=ze y;cases U with
  | str z=>
   by_cases I:xo z=cC
   .have y:(if xo z=cC then cz _ else none)=cz d:=y
    rw[DZ I]at y;cases y;refine(g,m,_,l,i,λv b a x r=>(z,by rw[r],Ye I,q _ b a x rfl))
   lia
  |_=>cases y
end
section
variable{X:Cx}{sc:h6}{N L:List Str}{k:Nat}{b:d8}{f:CO D}
theorem og(h:SX X sc N L k)(c:wQ sc "min" = cC)(z:X.mg "min" = none)(E:PV X a f)(U:PV X b g)(hs:ed [a,b] X.env=[(cL,dy a X.env),(cL,dy b X.env)]:=by rfl)(I:ed [b] X.env=[(cL,dy b X.env)]:=by rfl):
 PV X (.Call (.Name "min" p) [a,b] [] pos) (nG f g):=
 qV (vQ (zex h.calm) (h.gl c).1 z PyProof.Rows.boot_min (zZ E (zZ U j7 I)<|by rw[hs,I]) () () (by rw[hs,I]) (by rw[I];rfl)) λK H Q Y=>by refine Tf λZ=>?_;obtain⟨s,o,d,n,y,q⟩:=Y;obtain⟨i,l,y⟩:=ze y;obtain⟨w,B,l⟩:=ze l;obtain⟨j,O,y⟩:=zB y;obtain⟨A,C,O⟩:=ze O;refine Z ?_;subst y;refine(s,o,w,n,B,λv G e x r=>(e,o,A,n.ext x,C,λJ t u F m=>(i,j,?_,q _ t u (x.trans F) rfl)));rw[j3 l]at r;rw[j3 O]at m;rw[jP r,jP m]
end
section ap
variable(γ:Ctx)
@[simp] noncomputable def kG:=@zH.eq_1
@[simp] noncomputable def ZP:=@jX.eq_1
@[simp] noncomputable def Zo:=@qU.eq_1
@[simp] noncomputable def vc:=@zf.eq_1
@[simp] noncomputable def xf:=@zm.eq_1
@[simp] theorem Zp(d):vE d γ=cz d:=rfl
@[simp] noncomputable def JL:=@zM.eq_1
@[simp] noncomputable def Rq:=@sB.eq_1
@[simp] noncomputable def zhr:=@uh.eq_1
@[simp] noncomputable def Na:=@Oz.eq_1
@[simp] noncomputable def Ha:=@XG.eq_1
@[simp] noncomputable def zhu:=@OB.eq_1
@[simp] noncomputable def zhf:=@ig.eq_1
@[simp] theorem vz:zD γ=cz []:=rfl
@[simp] noncomputable def jQ:=@zb.eq_1
@[simp] noncomputable def aP:=@qv.eq_1
@[simp] noncomputable def zhi:=@kO.eq_1
@[simp] noncomputable def zg2:=@ye.eq_1
@[simp] noncomputable def Kz:=@qQ.eq_1
@[simp] noncomputable def zg0:=@wN.eq_1
@[simp] noncomputable def zgZ:=@Jk.eq_1
@[simp] noncomputable def zhp:=@Iv.eq_1
@[simp] noncomputable def Nc:=@mr.eq_1
@[simp] noncomputable def ZO:=@jF.eq_1
@[simp] noncomputable def de:=@kN.eq_1
@[simp] noncomputable def zhn:=@KM.eq_1
@[simp] noncomputable def vA:=@qH.eq_1
@[simp] noncomputable def vh:=@zC.eq_1
@[simp] noncomputable def Xk:=@jm.eq_1
@[simp] noncomputable def ZE:=@z9.eq_1
@[simp] noncomputable def aQ:=@jg.eq_1
@[simp] noncomputable def zgm:=@wY.eq_1
@[simp] noncomputable def CJ:=@KL.eq_1
@[simp] noncomputable def aS:=@wU.eq_1
@[simp] noncomputable def qS:=@zW.eq_1
@[simp] theorem zhd:jB γ=cz cC:=rfl
@[simp] noncomputable def zhq:=@bC.eq_1
@[simp] noncomputable def zg1:=@EE.eq_1
@[simp] noncomputable def vg:=@cI.eq_1
@[simp] noncomputable def zgB:=@nF.eq_1
@[simp] theorem zhe:aX γ=cz none:=rfl
@[simp] noncomputable def Ro:=@n5.eq_1
@[simp] noncomputable def CK:=@V6.eq_1
@[simp] noncomputable def CM:=@JR.eq_1
@[simp] noncomputable def zhs:=@L1.eq_1
@[simp] noncomputable def YN:=@jx.eq_1
@[simp] noncomputable def zgI:=@Vb.eq_1
@[simp] noncomputable def gD:=@BI.eq_1
@[simp] noncomputable def zht:=@Hm.eq_1
@[simp] noncomputable def zhj:=@Vd.eq_1
@[simp] noncomputable def zhh:=@ue.eq_1
@[simp] noncomputable def zgX:=@Iq.eq_1
theorem jf(F G):zV F G γ=(F γ).bind λy=>match y with
 |.next a=>G a
 |f=>cz f:=rfl
end ap
@[simp] theorem CI(ds):jI (.tup ds)=cz (.T,ds):=rfl
@[simp] theorem zhb(ds):jI (.lst ds)=cz (.L,ds):=rfl
@[simp] theorem jN(d):rW (cz (.val d))=cz d:=rfl
@[simp] theorem jz(d):Ja (cz (.val d))=jI d:=rfl
@[simp] theorem Kr(d):Ja (cz (.own d))=cz (.L,d):=rfl
@[simp] theorem Ks(d):qZ (cz (.own d))=cz d:=rfl
@[simp] theorem zga(d):cW (cz (.val d))=cz (.ret<|.val d):=rfl
@[simp] theorem zgb(d):cW (cz (.own d))=cz (.ret<|.own d):=rfl
@[simp] theorem MY(b):uO (.bl b)=cz b:=rfl
@[simp] theorem xc(b):m4 (.int b)=cz b:=rfl
@[simp] theorem Vf(d):mi (.val d)=d:=rfl
@[simp] theorem zgO(d):mi (.own d)=.lst d:=rfl
@[simp] theorem eE(d):um (.own d)=cz d:=rfl
@[simp] theorem zgu(i j):JC (.int i) (.int j)=cz (.int<|i-j):=rfl
@[simp] theorem gd(i j):j6 (.int i) (.int j)=cz (.int<|i+j):=rfl
@[simp] theorem zgw(i j):wb (.int i) (.int j)=if 0<j then cz (.int<|i%j)else none:=by show(if NO i j=cC then _ else _)=_;simp[NO]
@[simp] theorem zgx(i j):K0 (.int i) (.int j)=if 0<j/\j<1073741824 then cz (.int<|i/j)else none:=by
 show(if MO i j=cC then _ else _)=_;have e:(MO i j=cC)=(0<j/\j<1073741824):=by unfold MO;simp only[TZ,decide_eq_true_eq,decide_eq_true_eq];apply propext;constructor<;>intro h<;>exact(h.1,())
 simp only[e]
@[simp] theorem gb(i j):yE (.int i) (.int j)=if YJ i j=cC then cz (.int<|i*j)else none:=rfl
@[simp] theorem zgv(i j):GD (.int i) (.int j)=if MN i j=cC then cz (.int<|i^j.toNat)else none:=rfl
@[simp] theorem zg6(i j):DD (.int i) (.int j)=cz (.bl<|decide<|i<j):=rfl
@[simp] theorem zg7(i j):xr (.int i) (.int j)=cz (.bl<|decide<|i<=j):=rfl
@[simp] theorem zg8(i j):t7 (.int i) (.int j)=cz (.bl<|decide<|j<i):=rfl
@[simp] theorem GE(i j):B7 (.int i) (.int j)=cz (.bl<|decide<|j<=i):=rfl
@[simp] theorem zgU(i j):gB (.int i) (.int j)=cz (.bl<|decide<|i=j):=by unfold gB;exact congrArg (λb=>cz (D.bl b)) (by rw[y7];simp[i0])
@[simp] theorem Pv(i j):m8 (.int i) (.int j)=cz (.bl<|!decide (i=j)):=by rfl
@[simp] theorem zgi(i is d ds γ):kn (i::is) (d::ds) γ=kn is ds (γ.set i<|.val d):=rfl
@[simp] theorem zgh(ds γ):kn [] ds γ=γ:=by cases ds<;>rfl
@[simp] theorem zgy(i d γ):k9 (.nm i) d γ=cz (γ.set i<|.val d):=rfl
@[simp] theorem zgl(i j a b γ):k9 (.tp [i,j]) (.tup [a,b]) γ=cz ((γ.set i<|.val a).set j (.val b)):=rfl
@[simp] theorem zhH(γ:Ctx)(G:CO Fl):(cz (Fl.next γ)).bind (λy=>match y with
 |.next γ'=>G γ'
 |f=>cz f)=G γ:=rfl
theorem Kt(i j:Int)(y : -(2^64)<j)(I:j<2^64):YJ i j=cC:=by unfold YJ;lia
theorem wK(i j:Int)(y : -(2^64)<i)(I:i<2^64):YJ i j=cC:=by unfold YJ;rw[y6];left;exact decide_eq_true ()
theorem Kh(y : -(2^62)<i)(I:i<2^62):inR i=cC:=by unfold inR;lia
@[simp] theorem qL(n k:Nat):hO n k=if k<n then cz k else none:=by
 unfold hO;by_cases h:k<n
 .rw[DZ (Int.natCast_nonneg k,()),DZ h];simp
 .rw[DJ (),DJ (),DJ h]
theorem je:lim=2500:=rfl
@[simp] theorem zgt:0<=lim:=UU _
@[simp] theorem zgs:1<=lim:=by decide
@[simp] theorem zgr:2<=lim:=by decide
@[simp] theorem zgq:3<=lim:=by decide
@[simp] theorem zgp:4<=lim:=by decide
@[simp] theorem zgo:5<=lim:=by decide
@[simp] theorem zgn:6<=lim:=by decide
@[simp] theorem zgS:7<=lim:=by decide
@[simp] theorem zgR:8<=lim:=by decide
@[simp] theorem zgQ:0<lim:=by decide
@[simp] theorem QF(h:n<=lim):inR n=cC:=Kh () (by have:=je;lia)
@[simp] theorem c_(n:Nat):hO (n+1) 0=cz 0:=qL (n+1) 0 ▸ rfl
@[simp] theorem Pp(n:Nat):hO (n+2) 1=cz 1:=by have:=qL (n+2) 1;simpa using this
@[simp] theorem d_(n:Nat):hO (n+3) 2=cz 2:=by have:=qL (n+3) 2;simpa using this
theorem zu(r:α->D):∀(l:List α),(∀x∈l,zQ T k f γ [g x]=cz [r x])->zQ T k f γ (l.map g)=cz (l.map r)
 |[],_=>rfl
 | x::l,h=>by
  have I:=h x Uh;simp only[UL,zQ]at I ⊢;cases e1:k9 T (g x) γ with
  |none=>grind
  | some a=>
   rw[e1]at I;simp only[Tx]at I ⊢;cases e2:k a with
   |none=>grind
   | some b=>
    rw[e2]at I;simp only[Tx]at I ⊢;cases b with
    |false=>simp at I
    | true=>
     cases e3:f a with
     |none=>grind
     |some e=>
      rw[e3]at I;simp at I;rw[(zu r l λy O=>h y<|TN _ O)];simp[I]
theorem zv(y:k9 T d γ=cz γ1)(I:k γ1=cz cC)(O:f γ1=cz e):zQ T k f γ [d]=cz [e]:=by simp[zQ,y,I,O]
theorem kz(T F d ds γ):yD T F (d::ds) γ=(k9 T d γ).bind λγ1=>(F γ1).bind λI=>match I with
 |.next y=>yD T F ds y
 |.cont y=>yD T F ds y
 |.brk y=>cz (.next y)
 |.ret r=>cz (.ret r):=rfl
theorem aj(P:Nat->Ctx->Prop):∀ds k γ,P k γ->(∀i d γ,ds[i]? = cz d->P (k+i) γ->∃γ',((k9 T d γ).bind F=cz (.next γ')\/(k9 T d γ).bind F=cz (.cont γ'))/\P (k+i+1) γ')->
 ∃γ',yD T F ds γ=cz (.next γ')/\P (k+ds.length) γ'
 |[],k,γ,h,_=>(γ,rfl,h)
 | d::ds,k,γ,h,step=>by
  obtain⟨a,e,y⟩:=step 0 d γ rfl h;obtain⟨γ',I,O⟩:=aj P ds (k+1) a (by simpa using y) (λi Q U b Y=>by have:=step (i+1) Q U (by simpa using b) ();rw[show k+(i+1)+1=k+1+i+1 by lia]at this;exact this)
  refine(γ',?_,by rw[show k+_=k+1+ds.length by simp;lia];exact O);rw[kz];cases eb:k9 T d γ with
  |none=>rw[eb]at e;simp at e
  |some Z=>
   rw[eb]at e;simp only[Tx]at e ⊢;rcases e with e|e<;>rw[e]<;>exact I
noncomputable def zO(n:Nat)(f:Nat->Int):List D:=(Tn n).map λi=>D.int<|f i
theorem j9(n f):zO n f=(Tn n).map λi=>D.int (f i):=rfl
def z7(h w:Nat)(f:DW):List D:=(Tn h).map λi=>D.tup<|zO w<|f i
def jZ(h w:Nat)(f:DW):D:=.tup [.int h,.int w,.tup (z7 h w f)]
@[simp] theorem wa(n f):(zO n f).length=n:=by simp[zO]
@[simp] theorem fX(h w f):(z7 h w f).length=h:=by simp[z7]
@[simp] theorem zg4(f)(h:i<(zO n f).length):(zO n f)[i]=.int (f i):=by simp[zO]
theorem Xb(f)(h:i<n):(zO n f)[i]? = cz (.int<|f i):=by simp[zO,h]
@[simp] theorem zg5(f)(j:i<(z7 h w f).length):(z7 h w f)[i]=.tup (zO w<|f i):=by simp[z7]
theorem y8(h:∀i,i<n->f i=g i):zO n f=zO n g:=by unfold zO;simp_all
theorem fY(e:∀i j,i<h->j<w->f i j=g i j):z7 h w f=z7 h w g:=by unfold z7;apply Ug;intro i a;rw[y8 λj y=>e i j (Tp.mp a) y]
theorem qh(n:Nat):Jl 0 n=zO n λi=>(i:Int):=by simp[Jl,zO]
theorem vF(n:Nat)(f g:Nat->Int):wC (zO n f) (zO n g)=(Tn n).map λi=>D.tup [.int (f i),.int (g i)]:=by unfold wC zO;rw[tj];simp
theorem dm(n w:Nat)(f g:DW):wC (z7 n w f) (z7 n w g)=(Tn n).map λi=>D.tup [.tup (zO w<|f i),.tup (zO w<|g i)]:=by unfold wC z7;rw[tj];simp
noncomputable def zg(f:Nat->Int):Nat->Int
 |0=>0
 |n+1=>zg f n+f n
theorem Xy:∀(xs:List Int) y,gY (xs.map D.int++[.int y])=(gY<|xs.map D.int).map λs=>s+y
 |[],y=>by simp[gY]
 |x::xs,y=>by simp only[UL,NA,gY];rw[Xy xs y];cases e:gY _<;>simp[Int.add_assoc]
theorem wW(f:Nat->Int):∀n,gY (zO n f)=cz (zg f n)
 |0=>rfl
 |n+1=>by
  have y:=wW f n;have e m:zO m f=((Tn m).map f).map D.int:=by simp[zO]
  rw[e]at y ⊢;simp only[tu,UB,UB,List.map_singleton,List.map_singleton,Xy,y];simp[zg]
def kC:=jA 2<|qQ<|jx<|qU<|zW (z9<|zm 1) (.nm 0) 1 [0] jB (zM wb (zf 0)<|zf 1)
def aT:=jA 3<|qQ<|zC kC<|zb (zf 0)<|zb (jX<|zW (z9<|zH<|cI (zm 1)<|sI 2) (.nm 0) 1 [2] jB (BI<|qU<|zW (KL (zf 0)<|zf 1) (.tp [0,1]) 2 [] jB (zM yE (zf 0)<|zf 1))) zD
def jO:=jA 2<|zV (jF 1<|jX<|zW (jg<|cI (zm 0)<|sI 1) (.nm 0) 1 [0] jB (jx<|qU<|zW (z9<|zH<|cI (zm 1)<|sI 2) (.nm 0) 1 [0] jB (cI (zm 0)<|zf 1)))<|qQ<|qv<|zb (cI (zm 0)<|sI 1)<|zb (cI (zm 0)<|sI 0)<|zb (jx<|zm 1) zD
def yH:=jA 4<|zV (jF 3<|zC jO<|zb (zf 2) zD)<|qQ<|qv<|zb (cI (zm 1)<|sI 0)<|zb (cI (zm 2)<|sI 1)<|zb (jx<|qU<|zW (z9<|zH<|cI (zm 1)<|sI 2) (.nm 0) 1 [0,3] jB (zC aT<|zb (zf 1)<|zb (zf 2)<|zb (zf 0) zD)) zD
def kg:=jA 5<|zV (jF 4<|jX<|zW (KL (cI (zm 1)<|sI 2)<|cI (zm 3)<|sI 2) (.tp [0,1]) 2 [0,2] jB (zC kC<|zb (zf 2)<|zb (jX<|zW (KL (zf 0)<|zf 1) (.tp [0,1]) 2 [3] jB (zM j6 (zf 0)<|zM yE (zf 2)<|zf 1)) zD))<|qQ<|qv<|zb (cI (zm 1)<|sI 0)<|zb (cI (zm 1)<|sI 1)<|zb (jx<|zm 4) zD
def ql:=jA 2<|zV (jF 1<|jX<|zW (jg<|zf 0) (.nm 0) 1 [0] jB (jx<|qU<|zW (jg<|zf 1) (.nm 0) 1 [0] jB (ig (sB<|zM gB (zf 1)<|zf 0) (sI 1)<|sI 0)))<|qQ<|qv<|zb (zf 0)<|zb (zf 0)<|zb (jx<|zm 1) zD
def kH:=jA 2<|qQ<|qv<|zb (zf 0)<|zb (zf 1)<|zb (zM yE (qv<|zb (zM yE (qv<|zb (sI 0) zD)<|zf 1) zD)<|zf 0) zD
def KF:=jA 3<|zV (wU (wY (sI 1)<|zf 0) (.nm 2)<|mr (sB<|zM gB (zM wb (zM yE (zf 1)<|zf 2)<|zf 0)<|sI 1) (Jk 2) ye) Yf
def yN:=jA 5<|zV (jF 4<|cI (zm 1)<|zf 3)<|zV (mr (sB<|zM gB (zf 4)<|sI 0) (Jk 1) ye)<|qQ<|zC kC<|zb (zf 0)<|zb (jX<|zW (KL (zf 1)<|zf 2) (.tp [0,1]) 2 [4] jB (zM JC (zf 0)<|zM yE (zf 2)<|zf 1)) zD
def JH:=(zV (jF 6<|jX<|zW (z9<|zm 3) (.nm 0) 1 [5] (sB<|zM m8 (cI (zm 0)<|zf 1)<|sI 0) (zf 0))<|zV (mr (XG<|Iq<|zm 6) Iv ye)<|zV (jF 7<|zC KF<|zb (zf 0)<|zb (cI (zH<|cI (zm 6)<|sI 0)<|zf 5) zD)<|zV (jF 8<|zC kC<|zb (zf 0)<|zb (jX<|zW (z9<|zH<|cI (zm 6)<|sI 0) (.nm 0) 1 [7] jB (zM yE (zf 1)<|zf 0)) zD)<|zV (jF 3<|jX<|zW (z9<|zm 3) (.nm 0) 1 [0,5,8] jB (zC yN<|zb (zf 1)<|zb (zf 0)<|zb (zf 3)<|zb (zf 2) zD))<|kN 4<|bC (qU<|zW (z9<|zm 4) (.nm 0) 1 [0,5,8] jB (zC yN<|zb (zf 1)<|zb (zf 0)<|zb (zf 3)<|zb (zf 2) zD))<|qU<|kO<|zb (zf 8) zD)
def xi:=jA 9<|zV (jF 3<|jX<|zW (z9<|zm 2) (.nm 0) 1 [0] jB (zC kC<|zb (zf 1)<|zb (zf 0) zD))<|zV (kN 4<|kO zD)<|zV (wU (jg<|zf 1) (.nm 5) JH)<|Jk 4
def qg:=jA 2<|wN<|zW (z9<|zm 1) (.nm 0) 1 [0] (XG<|sB<|Hm<|zH<|V6 (zf 0) aX<|n5<|zf 1) (V6 (zf 0) (n5<|zf 1) aX)
def qO:=jA 5<|zV (jF 3<|jX<|zW (KL (cI (zH<|zC jO<|zb (zf 1) zD)<|sI 2)<|cI (zH<|zC ql<|zb (cI (zm 1)<|sI 1) zD)<|sI 2) (.tp [0,1]) 2 [] jB (zM j6 (zf 0)<|zf 1))<|zV (jF 4<|jX<|zW (z9<|zm 2) (.nm 0) 1 [1] jB (zM j6 (zf 0)<|zM yE (qv<|zb (sI 0) zD)<|cI (zm 1)<|sI 1))<|wN<|jm qg<|zb (cI (zm 1)<|sI 0)<|zb (jX<|jm xi<|zb (zf 0)<|zb (zM j6 (cI (zm 1)<|sI 0)<|cI (zm 1)<|sI 1)<|zb (jX<|bC (zm 3)<|zm 4) zD) zD
def wt:=jA 2<|wN<|jm qO<|zb (zf 0)<|zb (zf 1)<|zb (jX<|kO zD) zD
def QK:=jA 2<|wN<|jm xi<|zb (zf 0)<|zb (cI (zm 1)<|sI 0)<|zb (cI (zH<|zC jO<|zb (zf 1) zD)<|sI 2) zD
def kc:=jA 1<|qQ<|cI (qU<|zW (ug<|zf 0) (.tp [0,1]) 2 [] (sB<|zM m8 (zf 1)<|sI 0) (zf 0))<|sI 0
def yF:=(zV (jF 6<|zC kc<|zb (zf 5) zD)<|zV (mr (sB<|zM gB (zf 6)<|zf 3) (qQ<|vE .d7) ye)<|nF 4 (zf 6)<|cI (zm 5)<|zf 3)
def yk:=jA 7<|zV (jF 3<|cI (zm 1)<|sI 1)<|zV (kN 4<|EE (qU<|kO<|zb (sI 0) zD)<|zf 3)<|zV (wU (z9<|zH<|jX<|jm xi<|zb (zf 0)<|zb (zM j6 (zf 3)<|sI 1)<|zb (jX<|zW (KL (cI (zm 1)<|sI 2)<|zf 2) (.tp [0,1]) 2 [] jB (zM j6 (zf 0)<|qv<|zb (zf 1) zD)) zD) (.nm 5) yF)<|qQ<|jx<|zm 4
section
variable(γ:Ctx)
@[simp] noncomputable def zhm:=@ug.eq_1
@[simp] theorem zgT(F G a b c):Yg F G a b c γ=(a γ).bind λx=>(b γ).bind λy=>((F x y).bind uO).bind λk=>if k=cC then (c γ).bind λz=>G y z else cz (.bl cL):=rfl
@[simp] noncomputable def zgY:=@Wu.eq_1
end
def yO:=jA 5<|zV (jF 2<|cI (zm 1)<|sI 0)<|zV (mr (sB<|zM m8 (cI (zm 1)<|sI 1)<|zf 2) (qQ<|vE .d7) ye)<|zV (jF 3<|cI (zH<|zC ql<|zb (zf 2) zD)<|sI 2)<|zV (jF 4<|jX<|jm xi<|zb (zf 0)<|zb (zM j6 (zf 2)<|zf 2)<|zb (jX<|zW (KL (cI (zm 1)<|sI 2)<|zf 3) (.tp [0,1]) 2 [] jB (zM j6 (zf 0)<|zf 1)) zD)<|zV (mr (sB<|zM m8 (jX<|zW (z9<|zm 4) (.nm 0) 1 [2] jB (V6 (zf 0) aX<|n5<|zf 1))<|jX<|Vb<|zm 3) (qQ<|vE .d7) ye)<|qQ<|qv<|zb (zf 2)<|zb (zf 2)<|zb (jx<|qU<|zW (z9<|zm 4) (.nm 0) 1 [2] jB (V6 (zf 0) (n5<|zf 1) aX)) zD
section
variable(γ:Ctx)
@[simp] theorem PP(i f):uc i f γ=(f γ).bind λj=>if γ.any W5=cL then cz (.next<|γ.set i<|.nest j)else none:=rfl
@[simp] noncomputable def zgH:=@dZ.eq_1
@[simp] noncomputable def zgJ:=@nI.eq_1
@[simp] noncomputable def CN:=@BK.eq_1
@[simp] noncomputable def zhl:=@Ir.eq_1
end
@[simp] theorem zf6(r):Xg (cz (.nest r))=cz r:=rfl
section
variable(γ:Ctx)
@[simp] noncomputable def JK:=@wG.eq_1
@[simp] noncomputable def Re:=@wZ.eq_1
@[simp] noncomputable def Hc:=@EF.eq_1
end
def qP:=jA 2 (qQ (ig (sB (zM gB (zf 1) (vE (.str "r")))) (zf 0) (zM j6 (zf 0) (sI 1))))
def ZF:=jA 2 (qQ (ig (sB (zM gB (zf 1) (vE (.str "r")))) (zM j6 (zf 0) (sI 1)) (zf 0)))
def x6:=jA 1 (qQ (EF (vE (.str "")) (qU (zW (z9 (zH (cI (zm 0) (sI 2)))) (.nm 0) 1 [] jB (cI (zm 0) (sI 0))))))
def yp:=jA 2<|qQ<|OB (zM gB (cI (zm 0)<|sI 0)<|cI (zm 1)<|sI 0)<|zM gB (zC x6<|zb (zf 0) zD)<|zC x6<|zb (zf 1) zD
def jT:=jA 2<|mr (XG<|sB<|zC yp<|zb (zf 0)<|zb (zf 1) zD) Yf ye
def ZQ:List D->Option Xn:=RE 2 (H_ (XG (sB (zC yp (zb (zf 0) (zb (zf 1) zD))))) (Ry "Unlike") I')
section
variable{X:Cx}{e:d8}{f:CO D}{pos:f9}
theorem yf(O:PV X e f)(hs:rH e none pos.line X.env=pure cL:=by rfl):ji X (.Expr e pos) (KM f):=yS (Vk O hs) λD j H Q=>by obtain⟨E0,E,g,i,Y,I,y,U⟩:=Q;obtain⟨d,h,y⟩:=zB y;subst y;exact(g,i,d,I.rc,h,λv b a x r=>U j b a<|I.step x)
structure GL(K:Ti)(mg:DX)(x:Str)(d:D):Prop where
 ex:∃u v,mg x=cz u/\RelV v u/\∀H,Rep K H d v
theorem OK(h:SX X sc N L k)(c:wQ sc x=cC)(y:GL X.K X.mg x d):PV X (.Name x pos) (vE d):=by rintro b s i H Q I ⟨a,g,f,e,O,q⟩;cases O;obtain⟨u,v,U,Y,Z⟩:=y.ex;exact VF I (h.gl c).1 U (v,H,I,Y,q v H a (Ext.refl e.sub)<|Z a) (h.gl c).2.2
end
section
variable{K:Ti}{mg:DX}{h:eK}
theorem RN{x:Str}{n:Int}{t:Tok}(y:K.In h)(G:h.Ns qy mg)(a:Ny K qy x=cz (cz (.int n t))):GL K mg x (.int n):=
 (_,.int n,S7 y G a,(t,rfl),λ_=>(rfl))
end
theorem qF(h:rF X es n g):tR X es g:=h.1
section
variable{X:Cx}{L:List Str}{a:d8}{pos p:f9}
theorem ir{c:d8}{j:CO D}(E:PV X a j){O:CO (Sk×List D)}(Z:PQ X c O)(P:sU .NotIn c=cL:=by with_unfolding_all rfl):l0 X (.Compare a [.NotIn] [c] pos) (sB<|bB j O):=
 bI (bH WG E Z P) λR H Q B=>by
  refine Tf λC=>?_;obtain⟨g,f,d,b,y,q⟩:=B;obtain⟨J,o,z⟩:=ze y;obtain⟨x,s,y⟩:=ze o;obtain⟨⟨U,n⟩,t,y⟩:=ze y;obtain⟨i,u,y⟩:=ze y;obtain⟨l,w,rfl⟩:=zB y;refine C ?_;cases z;refine(g,f,x,b,s,λM G k e I=>(k,f,U,n,b.ext e,t,λp N h m F Y K r=>?_));rw[j3 u]at I;have A:=W6 r w;subst A;refine(p,_,rfl,by
   cases U with
   |L=>exact .inl Y
   |T=>exact .inr Y,by rw[I];rfl,ao l,?_)
  rw[I,pW];exact(_,rfl,q h m<|e.trans F)
end
end DL
namespace L2
open PySem PySem.Spec PyProof.Rows
theorem Pb(z:Str):L4 z = "str_ascii_iterator"\/L4 z = "str_iterator":=by unfold L4;split<;>simp
theorem fV{X:Cx}{j:TW}{S:St}{H:Hp}{s:el}{E:EQ}{z B:di}{i O:Nat}{x:dj}{v:V}{g:eK}{P:List d8}{x1:Nat}{R:f9}{Q:Unit->el->Prop}
 (I:Inv X j S H s) (Z:∀b ∈ [z,B],Jg X j H b) (hz:z<s.heap.objs.size) (hi:B<s.heap.objs.size) (a1:IsEnumOut g z B (i+1) x s.heap.objs.size)
 (a3:ni g s.heap.objs.size (.int i O) x) (a5:∀b o,b≠z->b≠B->s.heap.get? b=cz o->g.get? b=cz o) (rx:RelV v x)
 (a7:∀g2,wh g2 z B ((i+1:Nat)) x->z4 z g g2->Inv X j S (upd H s.heap.objs.size<|.tup [.int i,v]) {s with heap:=g2,toks:=O+1}->H s.heap.objs.size=none->
   (∀b ∈ [z,B],upd H s.heap.objs.size (.tup [.int i,v]) b=none)->Q ⟨⟩ {s with heap:=g2,toks:=O+1}):
 wpAny (d5 X.prog X.w) X.A (IB (.Tuple P x1 R) (.ref z)<|.ref s.heap.objs.size) Q E {s with heap:=g,toks:=O+1}:=by
 refine zfU a1 λg2 a U=>?_;refine a7 g2 (by rwa [show(i+1)=((i+1):Int)by lia]at a) U (I.L9 (λY u y e=>by simp only[Tz,TQ,or_false,not_or]at y;exact U.extBut _ _ y.1<|a5 Y u y.1 y.2 e) Z (Tv _) (by show 2<=eB;decide,_,.cons (_,rfl)<|.cons rx .nil,(_,U.extBut _ _ (q9 hz) a3,rfl,_,rfl))) I.fresh λY y=>?_
 rw[zJ (by
  grind)];exact(Z Y y).1
def Rx(K:Ti)(a:di):It:=
 (λi H=>∃b,gg K H a b/\i<b.length,
  λi H x d=>∃p u,x=.ref p/\H p=none/\d=upd H p (.tup [.int i,u])/\(∀b,gg K H a b->b[i]? = cz u),
  λi H=>∃b,gg K H a b/\b.length=i)
theorem gT{P:hH}{w:hB}{K:Ti}{elts:List d8}{x1:Nat}{q5:f9}{z it a:di}(a9:z≠it):
 Turn P w K (.Tuple elts x1 q5) (Rx K a) [z,it] z (λi h=>(∃U,wh h z it i U)/\h.IsListIter it a i) where
 mem:=by simp
 obj:=λi h ((U,hz),O) y hy=>by
  simp only[Tz,TQ,or_false]at hy;rcases hy with rfl|rfl
  .exact(_,hz,λv q=>by cases q)
  .obtain⟨o,e,c,d⟩:=O
   exact(o,e,λv q=>by rw[d]at q;cases q)
 keep:=λi h h' ((U,hz),O) k=>((U,k z () _ hz),O.at λo e=>k it () o e)
 item:=by
  rintro X rfl rfl rfl hc i pins s σ H E I hf ⟨⟨U,hz⟩,O⟩ ⟨xs,a0,ax⟩;obtain⟨a6,a7,p1,z1⟩:=I.list a0;have Y:=p1.isList;have hx:xs[i]? = cz xs[i]:=To ax;have l1:=a7.length;have ae:a≠it:=λe=>by obtain⟨o,e1,Q,_⟩:=Y;obtain⟨o2,Z,c2,_⟩:=O;rw[e,Z]at e1;cases e1;rw[c2]at Q;exact absurd Q ()
  have b0:z≠a:=λe=>by obtain⟨o,e1,Q,_⟩:=Y;have ap:s.heap.get? z=cz _:=hz;rw[e,e1]at ap;cases ap;exact absurd Q ()
  have b3:it<s.heap.objs.size:=by obtain⟨o2,Z,_⟩:=O;exact TH Z
  have Dr:=Draws.list (prog:=X.prog) (w:=X.w) (A:=X.A.in1) (show X.A.in1.handled=none from I.ok.hd hc) it a ae a6.toArray;refine zfY Dr hz (O,Y) (by simp;lia) a9 (by simp;exact(a9,b0)) λx g tk hP a1 a2 a3 a4 a5=>(_,rfl,?_);obtain⟨u1,b9,bb⟩:=a7.get hx;obtain rfl:u1=x:=by have:=hP;simp[b9]at this;exact this
  refine fV I hf (TH hz) b3 a1 a3 a5 bb λg2 b1 b2 I1 be hn=>(.ref s.heap.objs.size,_,I1,rfl,(_,_,rfl,be,rfl,λbt bg=>by rw[I.Pw bg a0];exact hx),((_,b1),a2.1.at λo e=>b2.extBut _ _ a9.symm e),hn)
 done:=by
  rintro X rfl rfl rfl hc i pins s σ H E I hf ⟨⟨U,hz⟩,O⟩ ⟨xs,a0,hi⟩;obtain⟨a6,a7,p1,z1⟩:=I.list a0;have Y:=p1.isList;have l1:=a7.length;have ae:a≠it:=λe=>by obtain⟨o,e1,Q,_⟩:=Y;obtain⟨o2,Z,c2,_⟩:=O;rw[e,Z]at e1;cases e1;rw[c2]at Q;exact absurd Q ()
  have Dr:=Draws.list (prog:=X.prog) (w:=X.w) (A:=X.A.in1) (show X.A.in1.handled=none from I.ok.hd hc) it a ae a6.toArray;have en:a6.toArray.size=i:=by simp;lia
  rw[en]at Dr;refine zfX Dr hz (O,Y) λg hk=>(rfl,?_);refine I.ro (t':=s.toks) (fp:=[z,it]) (λb' u hb e=>?_) hf;simp only[Tz,TQ,or_false,not_or]at hb;exact hk b' u hb.2 e
 self:=λ_ _ _ _ _ st h=>vx st.1.choose_spec h
def Rw(z:Str):It:=
 (λi _=>i<z.cps.size,λi H x a=>∃p c,x=.ref p/\H p=none/\a=upd H p (.tup [.int i,.str ⟨#[c]⟩])/\z.cps[i]? = cz c,λi _=>i=z.cps.size)
theorem av{prog:hH}(y:A.handled=none)(j:di)(x:Str)(t:Tok):
 Draws prog w A j [j] x.cps.size (λi v=>∃c u,x.cps[i]? = cz c/\v=.str ⟨#[c]⟩ u) (λi h=>h.IsStrIter j (L4 x) x t i):=by
 rcases Pb x with q|q
 .rw[q];exact Draws.strAscii y j x t
 .rw[q];exact Draws.strWide y j x t
theorem gS{P:hH}{w:hB}{K:Ti}{elts:List d8}{x1:Nat}{q5:f9}{z it:di}(x:Str)(t:Tok)(U:z≠it):
 Turn P w K (.Tuple elts x1 q5) (Rw x) [z,it] z (λi h=>(∃Q,wh h z it i Q)/\h.IsStrIter it (L4 x) x t i) where
 mem:=by simp
 obj:=λi h ((Q,hz),O) y hy=>by
  simp only[Tz,TQ,or_false]at hy;rcases hy with rfl|rfl
  .exact(_,hz,λv q=>by cases q)
  .obtain⟨o,e,c,d⟩:=O
   exact(o,e,λv q=>by rw[d]at q;cases q)
 keep:=λi h h' ((Q,hz),O) k=>((Q,k z () _ hz),by obtain⟨o,e,r⟩:=O;exact(o,k it () o e,r))
 item:=by
  rintro X rfl rfl rfl Y i pins s σ H E I Z ⟨⟨Q,hz⟩,O⟩ a8;have a9:it<s.heap.objs.size:=by obtain⟨o2,e2,_⟩:=O;exact TH e2
  have Dr:=av (prog:=X.prog) (w:=X.w) (A:=X.A.in1) (show X.A.in1.handled=none from I.ok.hd Y) it x t;refine zfY Dr hz O a8 U (by simp;exact U) λu g tk hP a1 a2 a3 a4 a5=>(_,rfl,?_);obtain⟨c,zhG,am,rfl⟩:=hP;refine fV (v:=.str ⟨#[c]⟩) I Z (TH hz) a9 a1 a3 a5 (_,rfl) λg2 b1 b2 I1 ap hn=>(.ref s.heap.objs.size,_,I1,rfl,(_,_,rfl,ap,rfl,am),((_,b1),?_),hn);obtain⟨o,e,r⟩:=a2;exact(o,b2.extBut _ _ U.symm e,r)
 done:=by rintro X rfl rfl rfl Y i pins s σ H E I Z ⟨⟨Q,hz⟩,O⟩ hi;have hi:i=x.cps.size:=hi;subst hi;have Dr:=av (prog:=X.prog) (w:=X.w) (A:=X.A.in1) (show X.A.in1.handled=none from I.ok.hd Y) it x t;refine zfX Dr hz O λg hk=>(rfl,?_);refine I.ro (t':=s.toks) (fp:=[z,it]) (λb' u hb e=>?_) Z;simp only[Tz,TQ,or_false,not_or]at hb;exact hk b' u hb.2 e
 self:=λ_ _ _ _ _ st h=>vx st.1.choose_spec h
def My(K:Ti)(j:TA):TI:=λf H R=>j f H λd b=>∃a,d=[.ref a]/\(∃e,gg K b a e)/\R (Rx K a) b
def Mx(j:TA):TI:=λd H R=>j d H λb a=>∃z,b=[.str z]/\R (Rw z) a
section
variable{X:Cx}{e1:d8}{ta:TA}{p pos:f9}{elts:List d8}{x1:Nat}{q5:f9}
theorem zfx(U:Gl X "enumerate")(Y:X.mg "enumerate" = none)(z:PA X [e1] ta)
 (Z:sV "enumerate" = cz (.type "enumerate")) (hs:ed [e1] X.env=[(cL,dy e1 X.env)]:=by rfl):
 PI X (.Tuple elts x1 q5) (.Call (.Name "enumerate" p) [e1] [] pos) (My X.K ta):=by
 intro b s u H R I h;refine tI<|yc I U Y Z<|Ut (ea (z pos b s u H _ I h) λB t l=>?_) (by rw[hs];rfl) rfl;refine Tf λm=>?_;obtain⟨C,e,y,r,o⟩:=l;obtain⟨a,rfl,⟨F,f⟩,q⟩:=o;obtain⟨E,rfl,i⟩:=vJ r;refine m ?_;cases i;obtain⟨w,x,n,G⟩:=y.list f;refine call_enumerate_list n.isList λg d j A k=>vx d ?_;refine(_,_,_,_,e,rfl,y.kept k,gT<|q9<|sd _,((_,d),j),λc O=>?_,q);have Q:t.heap.objs.size<=c:=by
  simp only[Tz,TQ,or_false]at O;rcases O with rfl|rfl
  .exact TL _ _
  .exact Tv _
 exact y.r6 Q<|y.eC.fresh Q
theorem zfw(U:Gl X "enumerate")(Y:X.mg "enumerate" = none)(B:PA X [e1] ta)
 (Z:sV "enumerate" = cz (.type "enumerate")) (hs:ed [e1] X.env=[(cL,dy e1 X.env)]:=by rfl):
 PI X (.Tuple elts x1 q5) (.Call (.Name "enumerate" p) [e1] [] pos) (Mx ta):=by
 intro a s o H R I h;refine tI<|yc I U Y Z<|Ut (ea (B pos a s o H _ I h) λu n j=>?_) (by rw[hs];rfl) rfl;refine Tf λk=>?_;obtain⟨w,d,y,m,l⟩:=j;obtain⟨z,rfl,q⟩:=l;obtain⟨x,rfl,e⟩:=vJ m;obtain⟨t,rfl⟩:=e;refine k ?_;refine call_enumerate_str λg b f r i=>vx b ?_;refine(_,_,_,_,d,rfl,y.kept i,gS z t<|q9<|sd _,((_,b),f),λc O=>?_,q);have Q:n.heap.objs.size<=c:=by
  simp only[Tz,TQ,or_false]at O;rcases O with rfl|rfl
  .exact TL _ _
  .exact Tv _
 exact y.r6 Q<|y.eC.fresh Q
end
end L2
namespace DL
open PySem PySem.Spec PyProof.Rows L2
theorem Ws(z:Str):(wF z).length=z.cps.size:=by simp[wF]
theorem zfD(z:Str){i c:Nat}(h:z.cps[i]? = cz c):(wF z)[i]? = cz (.str ⟨#[c]⟩):=by simp[wF,h]
theorem gN{K:Ti}{j B:Hp}(z:Str):Walk K j B (Rw z) (kQ<|wF z):=by
 have d:(kQ<|wF z).length=z.cps.size:=by simp[kQ,Ws]
 refine(λi b s a=>?_,λb s=>?_,λi b x e s a y=>?_)
 .rw[d]at a;exact a
 .assumption
 .obtain⟨p,c,rfl,I,rfl,O⟩:=y
  refine(.tup [.int i,.str ⟨#[c]⟩],?_,λg h f=>(_,Ext.alloc f I _,yx (fA.of zF)<|dn.cons rfl<|dn.cons rfl dn.nil))
  .rw[d]at a
   unfold kQ;rw[UE,M8 (by rw[Ws];exact a),Uy,zfD z O];rfl
theorem gO{K:Ti}{j z:Hp}{a:di}{xs:List V}{ds:List D}(h:gg K z a xs)(r:dn K j ds xs):Walk K j z (Rx K a) (kQ ds):=by
 have U:=r.length;have n:(kQ ds).length=ds.length:=by simp[kQ]
 refine(λi b s k=>(xs,s.seq h,()),λb s=>(xs,s.seq h,()),λi b x f s k y=>?_)
 .obtain⟨p,u,rfl,I,rfl,O⟩:=y
  obtain⟨d,g,Q⟩:=r.sX<|O xs<|s.seq h;refine(.tup [.int i,d],?_,λm l e=>(_,Ext.alloc e I _,yx (fA.of zF)<|dn.cons rfl<|dn.cons ((Q.mono l).mono (ju (jy e I) _)) dn.nil))
  .unfold kQ
   rw[UE,M8 (),Uy,g];rfl
section
variable{X:Cx}{sc:h6}{N L:List Str}{k:Nat}{a:d8}{pos p:f9}{f:CO D}
theorem Ff{j:List d8}{B:f9}(h:SX X sc N L k)(c:wQ sc "enumerate" = cC)(z:X.mg "enumerate" = none)(E:PV X a f)(hs:ed [a] X.env=[(cL,dy a X.env)]:=by rfl):
 g8 X (.Tuple j x1 B) (.Call (.Name "enumerate" p) [a] [] pos) (nK f):=
 KO (zfw (h.gl c).1 z (zZ E j7 hs) U2 hs) λn H R I=>by
  obtain⟨g,m,i,l,y,q⟩:=I;obtain⟨d,O,y⟩:=ze y;cases d with
  | str z=>
   by_cases Q:xo z=cC
   .have y:(if xo z=cC then cz _ else none)=cz i:=y
    rw[DZ Q]at y;cases y;exact(g,m,_,l,O,λv e b x r=>(z,by rw[r],q _ e b x<|gN z))
   lia
  |_=>cases y
theorem oE(h:SX X sc N L k)(c:wQ sc "enumerate" = cC)(z:X.mg "enumerate" = none)(j:PV X a f)(hs:ed [a] X.env=[(cL,dy a X.env)]:=by rfl):
 g8 X (.Tuple elts x1 q5) (.Call (.Name "enumerate" p) [a] [] pos) (dY f):=
 KO (zfx (h.gl c).1 z (zZ j j7 hs) U2 hs) λs H R O=>by
  obtain⟨g,m,n,i,y,q⟩:=O;obtain⟨d,Q,y⟩:=ze y;cases d with
  |lst o=>
   cases y;refine(g,m,_,i,Q,λv e b x r=>?_);obtain⟨U,l,rfl,I,g2⟩:=pq r;exact(U,rfl,(l,x.sub.seq I),q _ e b x<|gO I g2)
  |_=>cases y
end
end DL
namespace DL
open PySem L2 PyProof.Rows
open PySem.W (KasT kas_sort kas_asc kas_desc kas_tail3 kas_descPart kas_count kas_place kas_bin kas_rev)
def Good{z:Type}(n:Nat)(P:z->Prop):KasT z->Prop
 |.ret a=>P a
 |.ask i j k=>i<n/\j<n/\∀b,Good n P<|k b
theorem Good.mono{z:Type}{n:Nat}{P y:z->Prop}(h:∀a,P a->y a):∀{t:KasT z},Good n P t->Good n y t
 |.ret a,g=>h a g
 |.ask i j k,g=>(g.1,g.2.1,λb=>(g.2.2 b).mono h)
theorem Good.bind{z β:Type}{n:Nat}{P:z->Prop}{y:β->Prop}{f:z->KasT β}(I:∀a,P a->Good n y (f a)):∀{t:KasT z},Good n P t->Good n y (t.bind f)
 |.ret a,g=>I a g
 |.ask i j k,g=>(g.1,g.2.1,λb=>(g.2.2 b).bind I)
theorem Good.run:∀{t:KasT α},Good n P t->P (IA lt t)
 |.ret a,g=>g
 |.ask i j k,g=>(g.2.2 _).run
def Pm(n:Nat)(p:Array Nat):Prop:=p.toList.Perm<|Tn n
theorem Pm.lt(h:Pm n p)(y:0<n)(i:Nat):p.getD i 0<n:=by
 by_cases a:i<p.size
 .have e:p.getD i 0=p[i]:=by simp[Array.getD,a]
  rw[e];exact Tp.mp<|h.mem_iff.mp ()
 .have e:p.getD i 0=0:=by simp[Array.getD,a]
  rw[e];exact y
theorem Pm.rev(h:Pm n p)(i j:Nat):Pm n (kas_rev p i j):=(Array.perm_iff_toList_perm.mp<|mirror_perm p i j _).trans h
theorem Pm.z?(h:Pm n p)(i j:Nat):Pm n (bubble p i j):=(Array.perm_iff_toList_perm.mp<|bubble_perm p i j).trans h
theorem VL(h:Pm n p)(y:0<n):∀f m,Good n (λ_=>True) (kas_asc p f m)
 |0,m=>trivial
 |f+1,m=>(h.lt y _,h.lt y _,λb=>by
  cases b with
  |true=>exact trivial
  |false=>exact VL h y f<|m+1)
theorem Jz(y:0<n):∀f p m q,Pm n p->Good n (λr=>Pm n r.1) (kas_desc f p m q)
 |0,p,m,q,h=>h
 | f+1,p,m,q,h=>(h.lt y _,h.lt y _,λb=>by
  cases b with
  |true=>
   split
   .exact Jz y f _ _ _<|h.rev _ _
   .exact Jz y f _ _ _ h
  |false=>exact(h.lt y _,h.lt y _,λd=>by
   cases d with
   |true=>exact h
   |false=>exact Jz y f _ _ _ h))
theorem af(y:0<n)(m r:Nat)(h:Pm n p):Good n (λr=>Pm n r.2) (kas_tail3 m r p):=by unfold kas_tail3;refine Good.bind (λa _=>?_)<|VL (h.rev _ _) y _ _;exact(h.rev _ _)
theorem ag(y:0<n)(m r:Nat)(h:Pm n p):Good n (λr=>Pm n r.2) (kas_descPart m r p):=
 (Jz y _ _ _ _ h).bind λa b=>by
   split
   .exact af y _ _<|Pm.rev b _ _
   .exact af y _ _ b
theorem lA(y:0<n)(r:Nat)(h:Pm n p):Good n (λr=>Pm n r.2) (kas_count r p):=
 (VL h y _ _).bind λm _=>by
   split
   .exact h
   .split
    .exact(h.lt y _,h.lt y _,λc=>by
      cases c with
      |true=>exact h
      |false=>exact ag y _ _<|h.rev _ _)
    .exact ag y _ _ h
theorem QG(y:0<n)(h:Pm n p)(k:Nat):∀f l r,Good n (λ_=>True) (kas_place p k f l r)
 |0,l,r=>trivial
 |f+1,l,r=>by
  show Good n _ (if l>=r then _ else _);split
  .exact trivial
  .exact(h.lt y _,h.lt y _,λc=>by
    cases c with
    |true=>exact QG y h k f _ _
    |false=>exact QG y h k f _ _)
theorem fN(y:0<n):∀f p k,Pm n p->Good n (Pm n) (kas_bin f p k)
 |0,p,k,h=>h
 |f+1,p,k,h=>(QG y h k k 0 k).bind λl _=>fN y f _ _<|h.z? _ _
theorem Kj(y:0<n):Good n (Pm n) (kas_sort n):=
 (lA y n<|List.Perm.refl _).bind λr I=>by
   split
   .exact fN y _ _ _ I
   .exact I
theorem j5(ps:List (Int×Int)):(xB ps).Perm (Tn ps.length):=by
 unfold xB;split
 .rfl
 .exact(Kj ()).run
theorem WD:∀{ds:List D} {ps:List (Int×Int)},QN ds=cz ps->ps.length=ds.length
 |[],ps,h=>by cases h;rfl
 | d::ds,ps,h=>by
  unfold QN at h;cases e1:uX d with
  |none=>grind
  |some x=>
   cases e2:QN ds with
   |none=>grind
   |some l=>rw[e1,e2]at h;cases h;simp[WD e2]
theorem jv(d:α):∀ds,(Tn ds.length).map (λi=>ds.getD i d)=ds:=λds=>by
 apply F4;intro i;by_cases a:i<ds.length
 .simp[a]
 .simp[a,G6.mp a]
end DL
namespace DL
open PySem PySem.Spec PyProof.Rows L2
open PySem.W (KasT kas_sort kas_ask kat_run kat_snds kat_lt kat_cons kat_no kat_yes kat_nil kat_go kat_one kat_kind KatTups KatGo)
theorem cJ(y:∀i j C,i<n->j<n->C (lt i j) s->cmp i j C s):
 ∀{t:KasT α},Good n P t->Q (IA lt t) s->t.kasWp cmp Q s
 |.ret _,_,q=>q
 |.ask i j k,g,q=>y i j _ g.1 g.2.1<|cJ y (g.2.2 _) q
def tU(h:eK)(v:dj)(k l:Int):Prop:=∃x o a m t u,v=.ref x/\h.get? x=cz o/\o.cls=.type "tuple"/\o.data=.seq a m/\a.toList=[.int k t,.int l u]
theorem tU.keep(a:tU h v k l)(e:∀b o,h.get? b=cz o->o.cls=.type "tuple"->h'.get? b=cz o):tU h' v k l:=by obtain⟨x,o,d,m,t,u,I,O,y,Q,U⟩:=a;exact(x,o,d,m,t,u,I,e x o O y,y,Q,U)
theorem tU.one(a:tU h v k l):Ni h v k:=by obtain⟨x,o,b,m,t,u,y,I,O,Q,U⟩:=a;exact(x,o,b,m,t,y,I,O,Q,by rw[<-Array.getElem?_toList,U];rfl)
section
theorem X7(Y:s.heap.get? a=cz (h7 "list" vs.toArray n))(H:ps.length=vs.length)(am:vs.length<64)
 (hT:∀i B,tU s.heap vs[i] (ps.getD i (0,0)).1 (ps.getD i (0,0)).2)
 (h:P (.done<|.ret .none) {s with heap:=sortedHeap s.heap a vs (SN<|(xB ps).map λi=>vs.getD i ng)}):
 wpAny (d5 prog w) A (n6.«list.sort» ([.ref a],[])) P E s:=by
 rw[list_sort_plain];have X:=TH Y;have K:vs.length<=eB:=by rw[uE];lia
 refine Th (O? Y rfl ?_);refine Th (Df Y rfl ?_ (by assumption) (UU _));obtain⟨d,M⟩:∃d,(s.heap.update a (US λ_=>#[])).get? a=cz (h7 "list" #[] d):=(_,Te Y (λ_=>#[]));refine Th (NK M rfl ?_);refine Th (GN ?_ (by show vs.length<=_;exact K));refine Th (S3 ?_ (UU _));refine q8 ?_;have O:(((s.heap.update a (US λ_=>#[])).push (h7 "tuple" vs.toArray 0)).push (h7 "list" #[] 0)).get? a=cz (h7 "list" #[] d):=by rw[F5 _ _ _ (by rw[PU,R4];exact TU (UT X)),F5 _ _ _ (by rw[R4];exact TU X)];exact M
 dsimp only;have J:vs.toArray.size=vs.length:=by simp
 by_cases Z:vs.toArray.size<2
 .rw[DZ Z,DZ Z]
  refine Th<|Ts ?_;rw[StateT.run_pure];refine Th<|Ts ?_;dsimp only;refine Th<|NK O rfl ?_;have S:Array.map (λx=>x.snd) (arrOf<|SortSt.mk' general' (vs.toArray.zip vs.toArray) #[] 7 none)=vs.toArray:=by apply Array.ext';simp[Array.toList_map,Array.toList_zip];rw[List.map_snd_zip (Tv _)]
  have ev:(xB ps).map (λi=>vs.getD i ng)=vs:=by unfold xB;rw[DZ (),H];exact jv _ _
  rw[ev]at h;refine Th (Df O rfl ?_ (UU _) (by rw[S,J];exact RU K));simp only[bne_self_eq_false,UN,if_false];have e8:({s with heap:=(((s.heap.update a (US λx=>#[])).push (h7 "tuple" vs.toArray 0)).push (h7 "list" #[] 0)).update a (US λx=>Array.map (λx=>x.snd) (arrOf (SortSt.mk' general' (vs.toArray.zip vs.toArray) #[] 7 none)))}) = {s with heap:=sortedHeap s.heap a vs vs.toArray}:=by rw[S];rfl
  refine Ts ?_;rw[<-e8]at h;exact h
 .rw[DJ Z,DJ Z]
  have keep b o:s.heap.get? b=cz o->o.cls=.type "tuple"->(((s.heap.update a (US λ_=>#[])).push (h7 "tuple" vs.toArray 0)).push (h7 "list" #[] 0)).get? b=cz o:=λe hc=>by exact Tj _ (Tj _ ((_p _ _ _ _ (λz=>by lia)).trans e))
  generalize hg:((s.heap.update a (US λ_=>#[])).push (h7 "tuple" vs.toArray 0)).push (h7 "list" #[] 0)=g at O keep ⊢;have r:=λi B=>(hT i B).keep keep;obtain⟨fs,f1,f2,f3⟩:=pJ λi B=>(r i B).one;refine Th (kat_kind (T:=uF "int") f1 () (λv hv=>?_) () ?_)
  .obtain⟨k,t,rfl⟩:=f3 v hv
   exact PySem.W.Looks.of_pure rfl
  refine Th (rz (kat_run (Q:=λf U=>∃p,arrOf f=p.map (PySem.W.kas_item<|vs.toArray.zip vs.toArray)/\failedOf f=none/\p.toList=xB ps/\U = {s with heap:=g})
   (G:=λp U=>p.toList=xB ps/\U = {s with heap:=g})
   rfl () am (λp f U a1 a2 a3 L=>(p,a2,a3,L.1,L.2)) (cJ (λi j C B hj I=>?_) (Kj ()) (by
   unfold xB;rw[DJ (),H],rfl))) ?_ λ_ _ e=>e)
  .show wpAny _ _ (keyLt' _ (vs.getD i ng)<|vs.getD j ng) C _ _
   rw[show vs.getD i ng=vs[i]by simp[B],show vs.getD j ng=vs[j]by simp[hj]];refine Tf λkZ=>?_;obtain⟨x,ox,xs,m,t,u,d,e2,e3,e4,R⟩:=r i B;obtain⟨y,oy,ys,m',t',u',d1,d2,d3,d4,N⟩:=r j hj;refine kZ ?_;rw[d,d1];refine kat_lt e2 e4 d2 d4 ?_;have be:xs.size=2:=by rw[<-vl,R];rfl
   have bf:ys.size=2:=by rw[<-vl,N];rfl
   simp only[R,N,be,bf,FI,FI];unfold aZ at I;generalize ps.getD i (0,0)=X1 at I ⊢;generalize ps.getD j (0,0)=X2 at I ⊢;refine kat_cons<|M5 X1.1 t X2.1 t' _ _ _ _ ?_;refine kat_go (λF=>?_) λF=>?_
   .rw[DZ (by simpa using F)]at I
    refine kat_yes<|kat_cons<|M5 X1.2 u X2.2 u' _ _ _ _<|kat_go (λl=>?_) λl=>kat_no<|kat_one _ _<|lt_int I
    .have l:=by simpa using l
     refine kat_yes<|kat_nil ?_;rw[show decide (X1.2<X2.2)=cL by rw[l];simp]at I;exact I
   .rw[DJ (by simpa using F)]at I
    exact kat_no<|oneLt_int I
  rintro⟨⟨⟩,f⟩ U ⟨p,bg,hf,hp,rfl⟩;dsimp only;have bm:((xB ps).map λi=>vs.getD i ng).length=vs.length:=by rw[Ua,(j5 ps).length_eq,UM,H]
  rw[(kat_snds rfl bg),hp];refine Th<|NK O rfl ?_;refine Th<|Df O rfl ?_ (UU _) (by rw[TK];show((xB ps).map λi=>vs.getD i ng).length<=_;rw[bm];exact RU K);rw[hf];simp only[bne_self_eq_false,UN,if_false];subst hg;exact Ts h
theorem Wq(O:s.heap.IsList l vs.toArray)(U:ps.length=vs.length)(Y:vs.length<64)
 (Z:∀i j,tU s.heap vs[i] (ps.getD i (0,0)).1 (ps.getD i (0,0)).2)
 (h:Q (.ref<|s.heap.objs.size+1) {s with heap:=sortedAll s.heap vs (SN<|(xB ps).map λi=>vs.getD i ng)}):
 wpAny (d5 prog w) A (call (.builtin "sorted") [.ref l]) Q E s:=by
 have d:vs.length<=eB:=by rw[uE];lia
 refine Calls.call_function_entry kind_sorted plain_sorted entry_sorted (args_sorted1 _) ?_;unfold n6.«sorted»;refine Th (Ts ?_);refine Th (collect_list O ?_ d);refine Th (S3 ?_ d);have a:((s.heap.push (h7 "list" #[] 0)).update s.heap.objs.size (US (· ++ vs.toArray))).objs.size=s.heap.objs.size+1:=by simp_all
 have I:(((s.heap.push (h7 "list" #[] 0)).update s.heap.objs.size (US (· ++ vs.toArray))).push (h7 "list" vs.toArray 0)).get? (s.heap.objs.size+1)=cz (h7 "list" vs.toArray 0):=by rw[<-a];exact Tw _ rfl
 have keep:∀b o,s.heap.get? b=cz o->(((s.heap.push _).update _ _).push (h7 "list" vs.toArray 0)).get? b=cz o:=λb o q=>by have y:=TH q;rw[F5 _ _ _ (by rw[a];exact TU (UT y)),_p _ _ _ _ (TU y),F5 _ _ _ (TU y)];exact q
 rw[a];exact Th<|q8<|qj slot_list_sort (_,I,rfl) entry_list_sort (X7 I U Y (λi j=>(Z i j).keep λb o e _=>keep b o e) (_,rfl,Ts (_,rfl,h)))<|args_list_sort _
end
section
variable{X:Cx}
def IH(K:Ti):List V->Hp->VK->Prop:=λe H Q=>∃l b d,e=[.ref l]/\gg K H l b/\d.length=b.length/\b.length<64/\
 (∀i (f:i<b.length),∃a,b[i]=V.ref a/\fA K H a [.int ((d:List (Int×Int)).getD i (0,0)).1,.int (d.getD i (0,0)).2])/\∀p,H p=none->Q (.ref p) (upd H p<|.lst<|(xB d).map λi=>b.getD i .d7)
theorem aA:QX X (.builtin "sorted") (IH X.K):=by
 intro x s σ H vs us Q I rv h;obtain⟨l,k,ps,rfl,M,m,as,E,z⟩:=h;obtain⟨u,rfl,ru⟩:=vJ rv;cases ru;obtain⟨g,r,T,P⟩:=I.list M;have ax:=r.length;refine Wq (ps:=ps) T.isList () () (λi d=>?_) ?_
 .obtain⟨a,B,C⟩:=E i ()
  obtain⟨v,y,g2⟩:=r.get (i:=i) (by rw[To (),B]);have N:=by rw[To d]at y;exact UK y
  rw[N];cases g2;refine Tf λS=>?_;obtain⟨A,r2,⟨o,L,F,n,G⟩,_⟩:=I.tuple C;obtain⟨O,U,rfl,Y,Z⟩:∃O U,A=O::U/\RelV _ O/\eo _ U:=by
   cases r2 with
   |cons Y Z=>exact(_,_,rfl,Y,Z)
  obtain⟨v2,rfl,W⟩:=vJ Z;obtain⟨t,rfl⟩:=Y;obtain⟨u,rfl⟩:=W;exact S (a,o,_,n,t,u,rfl,L,F,G,rfl)
 .obtain⟨e,w⟩:=sortedAll_at s.heap g _
  have p:((xB ps).map λi=>k.getD i V.d7).length=k.length:=by rw[Ua,(j5 ps).length_eq,UM,m]
  refine(.ref _,_,I.laid (λb o q=>sortedAll_old q) (uH _) ?_,rfl,z _<|I.eC.fresh<|uH _);refine(by rw[p];exact P,_,e,?_,w);have f:∀i∈xB ps,i<k.length:=λi d=>by have:=(j5 ps).mem_iff.mp d;rw[m]at this;exact Tp.mp this
  generalize xB ps=o at f;clear p w
  induction o with
  |nil=>exact .nil
  |cons i o R=>
   have d:=f i Uh;refine .cons ?_ (R λj J=>f j<|TN _ J);obtain⟨v,y,g2⟩:=r.get<|To d;simp only[Tr,Tr,To d,y];exact g2
theorem eQ:∀{ds:List D} {ps:List (Int×Int)},QN ds=cz ps->∀(i:Nat) d,ds[i]? = cz d->d=.tup [.int (ps.getD i (0,0)).1,.int (ps.getD i (0,0)).2]
 |[],ps,h,i,d,hd=>by grind
 | c::ds,ps,h,i,d,hd=>by
  obtain⟨k,a,h⟩:=ze h;obtain⟨l,y,h⟩:=zB h;subst h;cases i with
  |zero=>
   simp at hd;subst hd;unfold uX at a;split at a
   .cases a;rfl
   .cases a
  |succ i=>simpa using eQ y i d (by simpa using hd)
theorem XH{K:Ti}{H:Hp}{ds:List D}{xs:List V}(r:dn K H ds xs):∀(o:List Nat),(∀i∈o,i<xs.length)->dn K H (o.map λi=>ds.getD i .d7) (o.map λi=>xs.getD i .d7)
 |[],_=>dn.nil
 |i::o,h=>by have a:=h i Uh;obtain⟨d,b,y⟩:=r.sX<|To a;refine dn.cons ?_ (XH r o λj I=>h j<|TN _ I);simp only[Tr,Tr,To a,b];exact y
theorem zfp{E:h6}{N L:List Str}{k:Nat}{e:d8}{pos p:f9}{B:CO (Sk×List D)}(h:SX X E N L k)(c:wQ E "sorted" = cC)(z:X.mg "sorted" = none)(P:PQ X e B)(hs:ed [e] X.env=[(cL,dy e X.env)]:=by rfl):
 PO X (.Call (.Name "sorted" p) [e] [] pos) (BJ B):=
 qV (vQ aA (h.gl c).1 z () (zZ P j7 hs) () () hs rfl) λσ H Q K=>by
  obtain⟨o,γ,ds,S,I,q⟩:=K;obtain⟨⟨R,m⟩,s,I⟩:=ze I;cases R with
  |T=>cases I
  | L=>
   unfold tY at I;obtain⟨n,U,I⟩:=ze I;by_cases Y:m.length<64
   .rw[DZ Y]at I
    cases I;have ae:=WD U;refine(o,γ,.L,m,S,s,λa xs H' f ext x h2 r=>?_);have al:=r.length;refine(a,xs,n,rfl,x,(),(),λi g=>?_,λl O=>?_)
    .obtain⟨d,M,W⟩:=r.sX (To g)
     have w:=eQ U i d M;subst w;obtain⟨b,zs,u,Z,A⟩:=yt W;refine(b,u,?_);obtain⟨y,zhK,t,C,F⟩:=A.l9;obtain⟨y2,as,j,G,J⟩:=F.l9;rw[J.o8]at j;rw[t,j,jP C,jP G]at Z;exact i7 ext.sub Z
    .refine q l _ _ f (ext.trans<|Ext.hide ext.sub O _) (xW ext.s1 O) (jy ext.sub O) zF ?_
     refine XH r _ λi g=>?_;have:=Tp.mp<|(j5 n).mem_iff.mp g;lia
   .rw[DJ Y]at I;cases I
end
section
variable{X:Cx}{a b c:d8}{pos:f9}{fa fb fc:CO D}
theorem ot{U Y:CmpOp}{r B:R2}{F G:D->D->Option D}(ho:ix X (m7 U) r)(E:ix X (m7 Y) B)(s1:m1 X.K r F)(s2:m1 X.K B G)(ha:PV X a fa)(hb:PV X b fb)(hc:PV X c fc)
 (hm:Pq [U,Y] [b,c]=cL:=by with_unfolding_all rfl):l0 X (.Compare a [U,Y] [b,c] pos) (sB<|Yg F G fa fb fc):=
 bI (zfM ho E ha hb hc hm) λσ H Q hZ=>by
  refine Tf λkZ=>?_;obtain⟨l,j,kq,i,J,zec⟩:=hZ;obtain⟨d,I,e9⟩:=ze J;have q v f e:Ext l H e f->Rep X.K e d v->∃k,v=.bl k/\Q k f:=λx s=>by rw[Xi e9]at s;exact(kq,s,zec f e x)
  obtain⟨x,R,I⟩:=ze I;obtain⟨y,S,I⟩:=ze I;obtain⟨k,T,I⟩:=ze I;obtain⟨n,W,o⟩:=ze T;refine kZ ?_;refine(l,j,x,i,R,λv1 H1 L g r1=>(L,j,y,i.ext g,S,λt u M O p=>s1 M u v1 t x y n _ O.sub (r1.mono O.s0) p W λv3 w m h r3=>?_));cases n with
  | bl k'=>
   cases o;refine(k,r3,?_);cases k with
   |true=>
    rw[DZ rfl];rw[DZ rfl]at I;obtain⟨z,e6,e7⟩:=ze I;exact(m,j,z,((i.ext g).ext O).ext h,e6,λv4 A N Z r4=>s2 N A t v4 y z d _ Z.sub ((p.mono h.s0).mono Z.s0) r4 e7 λv5 C P x5 r5=>q v5 C P (((g.trans O).trans h).trans (Z.trans x5)) r5)
   |false=>
    rw[DJ ()];cases I;exact q _ w m ((g.trans O).trans h) rfl
  |_=>cases o
end
end DL
namespace DL
open PySem PySem.Spec PyProof.Rows L2
theorem vf:upd (upd H x o) x o'=upd H x o':=by
 funext b;by_cases h:b=x
 .subst h;rw[zF,zF]
 .rw[zJ h,zJ h,zJ h]
structure tL(K:Ti)(C:di):Prop where
 cls:tK K C
 np:uN K C "p"
 nt:uN K C "table"
def XC(C:di):Sp:=λb H Q _=>∃x a y I,b=[.ref x,y,I]/\H x=cz (.ins C a [])/\Q .d7 (upd H x<|.ins C a<|uY y I)
def Y6(K:Ti)(C:di)(F:List D->Option Res):Sp:=λf H Q _=>∃x e y I O a p t b d,f=[.ref x,O]/\H x=cz (.ins C e<|uY y I)/\ft a H/\Rep K a p y/\Rep K a t I/\Rep K a b O/\F [p,t,b]=cz (.own d)/\Sf K a H Q (.own d)
section
variable{P:hH}{w:hB}{K:Ti}{mg:DX}{base:eK}{k:Nat}
theorem Gp{q:Str}{st:h9}{f C:di}{j:pv}(O:L2.o6 K "__init__" q st f j)(z:VS ["self","p","table"] ["self","p","table"] st=cC)(c:tL K C)
 (U:∀X,X.prog=P->X.w=w->X.K=K->X.mg=mg->X.base=base->SX X (jo st) ["self","p","table"] ["self","p","table"] k->pg X (qp st) (RA (OA X.K (Ya 0) (Ya 1) "p") (OA X.K (Ya 0) (Ya 2) "table"))):
 kA P w K mg base l7 (k+1) f j ["self","p","table"] (XC C):=by
 have S:=Jj z;refine O.ok S (λi H Q E h=>by obtain⟨x,a,y,I,rfl,_⟩:=h;rfl) λd A b s H i Q E Y Z=>(_,U _ rfl rfl rfl rfl rfl (rfl,rfl,S.nd,rfl,Y,λ_ _=>.inl rfl),?_);refine Tf λg=>?_;obtain⟨x,a,y,I,rfl,e,q⟩:=Z;refine g ?_;refine(y,rfl,.ref x,rfl,x,C,a,[],rfl,e,c.cls,c.np,(),?_);refine(I,rfl,.ref x,rfl,x,C,a,_,rfl,zF,c.cls,c.nt,by show 1<1000;decide,?_);rw[vf];exact q
theorem fS{Y q:Str}{st:h9}{f C:di}{j:pv}{F:List D->Option Res}(Z:L2.o6 K Y q st f j)(B:VS ["self","base"] ["self","base"] st=cC)(c:tL K C)
 (z:∀X,X.prog=P->X.w=w->X.K=K->X.mg=mg->X.base=base->SX X (jo st) ["self","base"] ["self","base"] k->
   pg X (qp st) (Oh (tP (p8 X.K 3 F) [] E0 (Xt (On X.K (Ya 0) "p") (Xt (On X.K (Ya 0) "table") (Xt (Ya 1) Hl)))))):
 kA P w K mg base l7 (k+1) f j ["self","base"] (Y6 K C F):=by
 have S:=Jj B;refine Z.ok S (λM H Q E h=>by obtain⟨x,a,y,I,O,e,p,t,b,g,rfl,_⟩:=h;rfl) λm A d s H M Q E r i=>(_,z _ rfl rfl rfl rfl rfl (rfl,rfl,S.nd,rfl,r,λ_ _=>.inl rfl),?_);refine Tf λu=>?_;obtain⟨x,a,y,I,O,e,p,t,b,g,rfl,U,n,G,J,L,o,l⟩:=i;exact u (.ref x,rfl,x,C,a,_,y,rfl,U,c.cls,c.np,Pi y I,.ref x,rfl,x,C,a,_,I,rfl,U,c.cls,c.nt,Ph y I,O,rfl,(e,[p,t,b],.own g,n,dn.cons G<|dn.cons J<|dn.cons L dn.nil,rfl,o,l))
def Oy(CR j:di):Sp:=λb H Q _=>∃y s I,b=[y,.str s,I]/\∀x a,H x=none->H a=none->a≠x->Q (.ref x) (upd (upd H a (.own x)) x (.ins (if s=("r" : Str)then CR else j) a (uY y I)))
theorem Pn{x:Str}{st:h9}{f CR j:di}{B:pv}(O:L2.o6 K x x st f B)(R:VS ["p","way","table"] ["p","way","table"] st=cC)
 (U:∀X,X.prog=P->X.w=w->X.K=K->X.mg=mg->X.base=base->SX X (jo st) ["p","way","table"] ["p","way","table"] k->
   pg X (qp st) (Oh (L2.L7 (Ei (C5 s_ (Ya 1) (tC (.str "r")))) (tM CR (XC CR) [] E0 (Xt (Ya 0) (Xt (Ya 2) Hl))) (tM j (XC j) [] E0 (Xt (Ya 0) (Xt (Ya 2) Hl)))))):
 kA P w K mg base l7 (k+1) f B ["p","way","table"] (Oy CR j):=by
 have S:=Jj R;refine O.ok S (λl H Q E h=>by obtain⟨y,s,I,rfl,_⟩:=h;rfl) λg A b s H l Q E Y Z=>(_,U _ rfl rfl rfl rfl rfl (rfl,rfl,S.nd,rfl,Y,λ_ _=>.inl rfl),?_);obtain⟨y,z,I,rfl,q⟩:=Z;have m:∀C,(∀x a,H x=none->H a=none->a≠x->Q (.ref x) _)->tM C (XC C) [] E0 (Xt (Ya 0) (Xt (Ya 2) Hl)) (XA ["p","way","table"] [y,.str z,I]) H Q:=λC q=>by refine(y,rfl,I,rfl,λx a i d e=>(x,a,y,I,rfl,zF,rfl,?_));rw[vf];exact q x a i d e
 refine(.str z,rfl,rfl,_,rfl,?_)
 grind
end
section
variable{X:Cx}{sc:h6}{N L:List Str}{k j jr jl:Nat}{a b c d:d8}{p LP apos s7:f9}{fa fb fc fd:CO D}{F G:List D->Option Res}{x:Str}{CR CL:di}
structure NW(P:hH)(w:hB)(K:Ti)(mg:DX)(base:eK)(j:Nat)(x:Str)(CR CL:di):Prop where
 ex:∃(f:di) (fd:pv),kA P w K mg base l7 j f fd ["p","way","table"] (Oy CR CL)/\mg x=cz (.ref f)/\se K (.ref f)=cC/\Binds K fd ["p","way","table"] []
structure MethAt(P:hH)(w:hB)(K:Ti)(mg:DX)(base:eK)(j:Nat)(C:di)(F:List D->Option Res):Prop where
 cls:tL K C
 ex:∃(f:di) (fd:pv),Dv K C "forth" f/\kA P w K mg base l7 j f fd ["self","base"] (Y6 K C F)/\Binds K fd ["self","base"] []
theorem zfs(as:NW X.prog X.w X.K X.mg X.base j x CR CL)(hR:MethAt X.prog X.w X.K X.mg X.base jr CR F)(hL:MethAt X.prog X.w X.K X.mg X.base jl CL G)(h1:j<=k)(h2:jr<=k)(h3:jl<=k)(h:SX X sc N L k)(cx:wQ sc x=cC)
 (ha:PV X a fa) (hb:PV X b fb) (hc:PV X c fc) (hd:PV X d fd)
 (he:ed [a,b,c] X.env=(cL,dy a X.env)::ed [b,c] X.env:=by rfl) (b5:(m5 LP<|starEach [b,c] X.env).any (·.1)=cL:=by rfl)
 (b6:ed [b,c] X.env=(cL,dy b X.env)::ed [c] X.env:=by rfl) (b7:ed [c] X.env=(cL,dy c X.env)::ed [] X.env:=by rfl)
 (ad:ed [d] X.env=(cL,dy d X.env)::ed [] X.env:=by rfl) (b8:(m5 s7<|starEach [] X.env).any (·.1)=cL:=by rfl)
 (ht:dy (.Call (.Attribute (.Call (.Name x p) [a,b,c] [] LP) "forth" apos) [d] [] s7) X.env=(do
   let ov<-dy (.Call (.Name x p) [a,b,c] [] LP) X.env
   u0 apos.atName
   let (f,first)<-qs [ov] (O7 ov "forth" pl)
   callWith s7 f first (m5 s7<|starEach [d] X.env) (uS s7<|keywordEach [] X.env)):=by rfl):
   PO X (.Call (.Attribute (.Call (.Name x p) [a,b,c] [] LP) "forth" apos) [d] [] s7) (BN F G (zb fa (zb fb (zb fc (zb fd zD))))):=by
  rintro e s σ H Q I ⟨H0,t,ds,m,Z,q⟩;refine Tf λy=>?_;obtain⟨l,J,Z⟩:=ze Z;obtain⟨dp,e1,J⟩:=ze J;obtain⟨l1,P,rfl⟩:=zB J;obtain⟨dw,e3,P⟩:=ze P;obtain⟨l2,R,rfl⟩:=zB P;obtain⟨dt,e5,R⟩:=ze R;obtain⟨l3,S,rfl⟩:=zB R;obtain⟨db,e7,S⟩:=ze S;obtain⟨l4,e8,rfl⟩:=zB S;refine y ?_;cases e8;cases dw with
  | str z=>
   obtain⟨r,g,am⟩:=ze Z;cases r with
   |val _=>cases am
   | own cj=>
    cases am;refine Tf λy=>?_;obtain⟨cl,cm,Gy,my,ky,br⟩:=as.ex;refine y ?_;have go:∀C T Fc,(if z=("r")then CR else CL)=C->MethAt X.prog X.w X.K X.mg X.base T C Fc->T<=k->_=_->
     wpAny _ X.A _ _ X.xe s:=λC T Fc hC M hj hF=>by
     refine Tf λy=>?_;obtain⟨zhz,cq,Mm,Gm,bm⟩:=M.ex;refine y ?_;refine Fj (XS (p:=p) Gy (h.room.mono h1) (h.gl cx).1 my ky br .nil WC (zZ ha (zZ hb (zZ hc j7 b7) b6) he) (h.gl cx).2.2 he b5) M.cls.cls Mm Gm (h.room.mono hj) bm .nil WC (zZ hd j7 ad) ad b8 ht e s σ H Q I ?_;refine(H0,t,dp,m,e1,λO H1 c2 W r1=>(c2,t,_,m.ext W,e3,λv2 H2 c4 x2 r2=>(c4,t,dt,(m.ext W).ext x2,e5,λU H3 B n r3=>?_)));refine(O,z,U,by rw[r2];rfl,λo E n1 n2 c7=>?_);rw[hC];have xe:Ext B H3 B (upd _ o<|.ins C E<|uY O U):=(Ext.hide n.sub n2<|.own o).trans (Ext.hide (n.sub.trans<|ju n2 _) (by rw[zJ (Ue c7)];exact n1) _);have xa:=(W.trans<|x2.trans n).trans xe;refine(o,E,uY O U,rfl,zF,Pj O U,B,t,db,m.ext xa,e7,λv4 H4 c9 Y r4=>?_);have ap:=Y.s0;exact(o,E,O,U,v4,c9,dp,dt,db,ds,rfl,Y.s1 _ _ zF,Y.sub,((r1.mono x2.s0).mono n.s0).mono ap,r3.mono ap,r4,hF,λa' xs H' u x5 g1 g2 g3 g4=>q a' xs H' u (xa.trans<|Y.trans x5) (xW (xa.trans Y).s1 g1) g2 g3 g4)
    by_cases i:z=("r")
    .rw[DZ i]at g
     exact go CR jr F (DZ i) hR h2 g
    .rw[DJ i]at g
     exact go CL jl G (DJ i) hL h3 g
  |_=>cases Z
end
section
variable{X:Cx}{sc:h6}{N L:List Str}{k:Nat}{a:d8}{pos:f9}{f:CO (List D)}
theorem EV(i:Nat)(h:SX X sc N L k)(c:vH sc N i x=cC)(S:PO X a f)(hs:ed [a] X.env=[(cL,dy a X.env)]:=by rfl)
 (z:uQ (.Name x np) "extend" X.env (dy (.Name x np) X.env)=dy (.Name x np) X.env:=by rfl)
 (B:((m5 cpos<|starEach [a] X.env).all (λx=> !x.1)&&(uS cpos<|keywordEach [] X.env).all (λx=>x.1.isSome)
   &&decide ([a].length+([]:List rE).length+(if ([]:List rE).isEmpty then 0 else 1)<30))=cC:=by rfl)
 (P:(apos.endLine==cpos.line)=cC:=by rfl) (R:rH (.Call (.Attribute (.Name x np) "extend" apos) [a] [] cpos) none pos.line X.env=pure cL:=by rfl):
 ji X (.Expr (.Call (.Attribute (.Name x np) "extend" apos) [a] [] cpos) pos) (nJ i f):=
 yS (Vk (oO P9 PySem.F.slot_list_extend PySem.F.type_list_extend zd2 (h.var c) (zZ S j7 hs) z B P hs rfl) R) λD C H p=>by
  refine Tf λr=>?_;obtain⟨E0,E,j,t,w,I,y,n⟩:=p;obtain⟨e,d,y⟩:=ze y;obtain⟨g,o,y⟩:=ze y;refine r ?_;have d:=kT d;by_cases O:e.length+g.length<=lim
  .rw[DZ O]at y;cases y
   obtain⟨l,xs,Q,A,U,Y⟩:=I.rc.own i e d;refine(_,Q,.inl (rfl,_,gg.of U),j,t,g,I.rc,o,λb s u m x g1 g2 g3 Z=>?_);exact(l,b,xs,s,rfl,rfl,x.s1 _ _ U,g3,by
    rw[Y.length,Z.length];have:lim<=eB:=by decide
    lia,n _ _ _<|(I.step x).rewrite (xs:=xs) d Q ((Y.mono x.s0).append Z))
  .rw[DJ O]at y;cases y
end
noncomputable def Bd(K:Ti)(C:di):Bool:=RZ K C&&se K (.ref C)&&M4 K C Str.empty&&R9 K C&&_r K C&&
 UW K (.ref C) "__setattr__" == cz (cz (.builtin "object.__setattr__"))&&UW K (.ref C) "p" == cz none&&UW K (.ref C) "table" == cz none
structure T3(K:Ti)(mg:DX)(sI zeL zeI:h9):Prop where
 ex:∃(CR CL fI fR fL:di) (dI dR dL:pv),mg "Right" = cz (.ref CR)/\mg "Left" = cz (.ref CL)/\Mk K CR fI/\Mk K CL fI/\tL K CR/\tL K CL/\Dv K CR "forth" fR/\Dv K CL "forth" fL/\
  L2.o6 K "__init__" "Arrow.__init__" sI fI dI/\L2.o6 K "forth" "Right.forth" zeL fR dR/\L2.o6 K "forth" "Left.forth" zeI fL dL/\
  Binds K dI ["self","p","table"] []/\Binds K dR ["self","base"] []/\Binds K dL ["self","base"] []
section
variable{K:Ti}{mg:DX}{h:eK}
theorem rS(b:Bd K C=cC):tL K C/\RZ K C=cC/\se K (.ref C)=cC:=by unfold Bd at b;simp only[TZ,beq_iff_eq]at b;obtain⟨⟨⟨⟨⟨⟨⟨a,d⟩,e⟩,f⟩,g⟩,h⟩,i⟩,j⟩:=b;exact(((e,f,g,h),i,j),a,d)
theorem RW{sI H E:h9}{CR R P fR fL:di}{Z oR oL:dj}{eI eR eL aI aR aL:Option di}{lI lR lL:Array (Option dj)}{kI dI pI y ze4 kR dR pR cR ze9 kL dL pL I ze6:dj}(O:K.In h)(G:h.Ns qy mg)
 (nR:Ny K qy "Right" = cz (cz (.ref CR))) (nL:Ny K qy "Left" = cz (cz (.ref R)))
 (iR:UW K (.ref CR) "__init__" = cz (cz (.ref P))) (iL:UW K (.ref R) "__init__" = cz (cz (.ref P)))
 (mR:UW K (.ref CR) "forth" = cz (cz (.ref fR))) (mL:UW K (.ref R) "forth" = cz (cz (.ref fL)))
 (uI:K.lookup P=cz (Z,eI,.func (rM "__init__" "Arrow.__init__" (k8 sI) (qp sI) (jo sI) .none kI dI pI aI y ze4),lI))
 (uR:K.lookup fR=cz (oR,eR,.func (rM "forth" "Right.forth" (k8 H) (qp H) (jo H) .none kR dR pR aR cR ze9),lR))
 (uL:K.lookup fL=cz (oL,eL,.func (rM "forth" "Left.forth" (k8 E) (qp E) (jo E) .none kL dL pL aL I ze6),lL))
 (vI:Dl K y "Arrow.__init__" = cC) (vR:Dl K cR "Right.forth" = cC) (vL:Dl K I "Left.forth" = cC)
 (w1:se K (.ref P)=cC) (w2:se K (.ref fR)=cC) (w3:se K (.ref fL)=cC)
 (z1:GR K (.ref P)=cC) (z2:GR K (.ref fR)=cC) (z3:GR K (.ref fL)=cC)
 (bR:Bd K CR=cC) (bL:Bd K R=cC)
 (gI:∀kV z pm S j ct B,B.length=3->B4 (rM "__init__" "Arrow.__init__" (k8 sI) (qp sI) (jo sI) .none kV z pm S j ct) (B,[])=pure ((["self","p","table"]:List Str).zip B))
 (gR:∀kV z pm S j ct B,B.length=2->B4 (rM "forth" "Right.forth" (k8 H) (qp H) (jo H) .none kV z pm S j ct) (B,[])=pure ((["self","base"]:List Str).zip B))
 (gL:∀kV z pm S j ct B,B.length=2->B4 (rM "forth" "Left.forth" (k8 E) (qp E) (jo E) .none kV z pm S j ct) (B,[])=pure ((["self","base"]:List Str).zip B)):T3 K mg sI H E:=by
 obtain⟨a,b,d⟩:=rS bR;obtain⟨e,f,g⟩:=rS bL;have Q:=fQ uI vI w1;have U:=fQ uR vR w2;have Y:=fQ uL vL w3;exact(CR,R,P,fR,fL,_,_,_,S7 O G nR,S7 O G nL,(b,iR,z1,d),(f,iL,z1,g),a,e,(mR,z2,w2),(mL,z3,w3),Q,U,Y,Q.binds gI,U.binds gR,Y.binds gL)
end
noncomputable def GJ:h9->List h9
 |.ClassDef _ _ _ b _ _ _ _ _ _ _=>b
 |_=>[]
def Ga(st:h9)(j:Nat):h9:=(GJ st).getD j (.Pass (0,0,0,0))
section
theorem AO{p pos:f9}{xs ys:List V}(I:Inv X pins σ H s)(hg:Gl X "zip")(hm:X.mg "zip" = none)(ha:PA X [e1,e2] ta)
 (h:ta σ H λvs j=>∃k1 k2 a b,vs=[.ref a,.ref b]/\(∃xs,h5 k1 X.K j a xs)/\(∃ys,h5 k2 X.K j b ys)/\
   ∀B z TI TO E P,Inv X pins σ j B->tX z TI TO E P a b->tW k1 k2 z TI TO E P a b 0 B.heap->pw B.heap z TI TO .none->(∀c ∈ [z,TI,TO,E,P],Jg X pins j c)->Q (.ref z) B)
 (hs:ed [e1,e2] X.env=[(cL,dy e1 X.env),(cL,dy e2 X.env)]:=by rfl) (Z:ed [e2] X.env=[(cL,dy e2 X.env)]:=by rfl):
 wpAny (d5 X.prog X.w) X.A (dy (.Call (.Name "zip" p) [e1,e2] [] pos) X.env) Q X.xe s:=by
 refine tI (yc I hg hm S_<|Ut (ea (ha pos pins s σ H _ I h) λus d S=>?_) (by rw[hs,Z])<|by rw[Z];rfl);refine Tf λT=>?_;obtain⟨vs,j,y,r1,W⟩:=S;obtain⟨k1,k2,a,b,e,⟨xs,ad⟩,⟨ys,C⟩,q⟩:=W;subst e;obtain⟨w1,w2,N,G,J⟩:=sZ r1;refine T ?_;subst N;cases G;cases J;obtain⟨L,b2,k,z1⟩:=y.sq ad;obtain⟨M,b3,l,z2⟩:=y.sq C;refine S5 F.called_zip () (F.typeCall_zip_2 _ _) (F.newCall_zip_2 _ _) (λobj=>F.args_object_init_3 obj _ _) F.entry_zip_new (dr k1 k2 a b L.toArray M.toArray) (k,l,?_);have r:(TF d.heap<|fy k1 a).objs.size=_:=Ui ..;have t:(TF (TF d.heap<|fy k1 a)<|fy k2 b).objs.size=d.heap.objs.size+2:=by rw[Ui,r]
 have u:(TF (TF (TF d.heap<|fy k1 a)<|fy k2 b)<|vS (.ref d.heap.objs.size)<|.ref<|d.heap.objs.size+1).objs.size=d.heap.objs.size+3:=by rw[Ui,t]
 have y4:(TF (TF (TF (TF d.heap<|fy k1 a)<|fy k2 b)<|vS (.ref d.heap.objs.size)<|.ref<|d.heap.objs.size+1)<|vS .none .none).objs.size=d.heap.objs.size+4:=by rw[Ui,u]
 have R:hG k1 (QS k1 k2 d.heap a b) _ a 0:=(ZN k1 d.heap a).at λo e=>Tj _<|Tj _<|Tj _<|Tj _ e;have g1:hG k2 (QS k1 k2 d.heap a b) (d.heap.objs.size+1) b 0:=by have q:=ZN k2 (TF d.heap<|fy k1 a) b;rw[r]at q;exact q.at λo e=>Tj _<|Tj _<|Tj _ e
 have g2:ni (QS k1 k2 d.heap a b) (d.heap.objs.size+2) (.ref d.heap.objs.size) (.ref<|d.heap.objs.size+1):=by have q:=Tw (TF (TF d.heap<|fy k1 a)<|fy k2 b) (o:=vS (.ref d.heap.objs.size)<|.ref<|d.heap.objs.size+1) rfl;rw[t]at q;exact Tj _<|Tj _ q
 have g3:ni (QS k1 k2 d.heap a b) (d.heap.objs.size+3) .none .none:=by have q:=Tw (TF (TF (TF d.heap<|fy k1 a)<|fy k2 b)<|vS (.ref d.heap.objs.size)<|.ref<|d.heap.objs.size+1) (o:=vS .none .none) rfl;rw[u]at q;exact Tj _ q
 have Y:=by have q:=Tw (TF (TF (TF (TF d.heap<|fy k1 a)<|fy k2 b)<|vS (.ref d.heap.objs.size)<|.ref<|d.heap.objs.size+1)<|vS .none .none) (o:=CS (d.heap.objs.size+2)<|d.heap.objs.size+3) rfl;rw[y4]at q;exact q
 refine((_,Y,rfl),?_);have x:Inv X pins σ j {d with heap:=QS k1 k2 d.heap a b,toks:=d.toks}:=y.kept (λc o e=>
  Tj _ (Tj _<|Tj _<|Tj _<|Tj _ e))
 have O:=λm=>TU<|TC k.lt<|TL _ m;have U:=λm=>TU<|TC l.lt<|TL _ m;have f m n:m≠n->(d.heap.objs.size+m)≠d.heap.objs.size+n:=λh=>by lia
 refine q _ _ _ _ _ _ x (f 2 4 (),f 3 4 (),f 0 4 (),f 1 4 (),f 2 3 (),f 2 0 (),f 2 1 (),f 3 0 (),f 3 1 (),f 0 1 (),
  O 4,O 3,O 0,O 1,U 4,U 3,U 0,U 1) (.inl Y,g2,(_,_,g3),R,g1) Y λc i=>?_
 have g:d.heap.objs.size<=c:=by
  simp only[Tz,TQ,or_false]at i;rcases i with rfl|rfl|rfl|rfl|rfl
  .exact TL _ _
  .exact TL _ _
  .exact TL _ _
  .exact Tv _
  .exact TL _ _
 exact y.r6 g<|y.eC.fresh g
theorem Kl(h:Jg X pins H c)(y:c≠p):Jg X pins (upd H p o) c:=(by rw[zJ y];exact h.1,h.2)
end
theorem YC:∀{ds:List D} {j:List Int},Kg ds=cz j->fH ds=cz (j.map pd)
 |[],j,e=>by cases e;rfl
 | d::ds,j,e=>by
  cases d with
  |int i=>
   obtain⟨l,a,y⟩:=zB e;subst y;show((Ml<|.int i).bind _)=_;rw[YC a];rfl
  |_=>cases e
theorem YB{K:Ti}{H:Hp}:∀{ds:List D} {j:List Int} {xs:List V},Kg ds=cz j->dn K H ds xs->xs=(j.map pd).map kV
 |[],j,xs,e,r=>by cases e;exact r.o8
 | d::ds,j,xs,e,r=>by
  cases d with
  |int i=>
   obtain⟨l,a,y⟩:=zB e;subst y;obtain⟨x,t,rfl,I,O⟩:=r.l9;rw[YB a O,I];rfl
  |_=>cases e
theorem Yl:∀ps j,((j++ps).map (·.1)).Nodup->uu j ps=j++ps
 |[],j,_=>by simp[uu]
 |(k,v)::ps,j,h=>by
  show uu (mj j k v) ps=_;rw[show mj j k v=_ by unfold mj;rw[DJ (λq=>by obtain⟨y,I,O⟩:=R3.mp q;rw[UB,UL]at h;exact((List.nodup_append.mp h).2.2 y.1 (Uz.mpr (y,I,rfl)) k ())<|of_decide_eq_true O)]]
  rw[Yl ps _ (by simpa using h)];simp
theorem oZ:∀{j:List Int},j.Nodup->(j.map<|pd (β:=Str)).Nodup
 |[],_=>by simp
 |n::j,h=>by grind
section
theorem Inv.G?(I:Inv X pins σ H s)(y:H p=cz (.dK md)):∃o,Inv X pins σ (upd H p<|.r8 o<|.dK md) s:=by
 have O:=(I.eC p _ y);obtain⟨o,Q⟩:∃o,_=cz o:=by obtain⟨_,_,_,_,o,_,_,e,_⟩:=O;exact(_,e)
 exact(o,I.write (by rw[y];exact tE) (.inl rfl) (λb q U z=>z) (_,Q) (Q,O))
end
theorem VN{K:Ti}{H:Hp}{i:Int}:∀{z vs:List D} {I:List Key} {xs:List V},fH z=cz I->I.length=xs.length->dn K H vs xs->
 (∀d,fP z vs i=cz d->∃v,dC (I.zip xs) (pd i)=cz v/\Rep K H d v)/\(fP z vs i=none->dC (I.zip xs) (pd i)=none)
 |[],vs,I,xs,e,l,r=>by cases e;exact((λd q=>by cases q),λ_=>rfl)
 |k::z,[],I,xs,e,l,r=>by rw[r.o8]at l ⊢;rw[List.length_eq_zero_iff.mp l];exact((λd q=>by cases q),λ_=>rfl)
 | k::z,v::vs,I,xs,e,l,r=>by
  obtain⟨Q,a,Z⟩:=ze e;obtain⟨U,b,f⟩:=zB Z;subst f;obtain⟨x,Y,rfl,h,m⟩:=r.l9;have o:=VN (i:=i) b (by simpa using l) m;have step:Q≠pd i->dC ((Q::U).zip (x::Y)) (pd i)=dC (U.zip Y) (pd i):=λn=>by rw[FI];simp[dC,y0,n]
  cases k with
  | int j=>
   cases a;by_cases O:j=i
   .subst O
    refine(λd q=>(x,?_,(by simpa[fP]using q) ▸ h),λq=>?_)
    .rw[FI];exact YS rfl
    .simp[fP]at q
   .rw[step (λq=>O<|pd.inj q)]
    have g:fP (.int j::z) (v::vs) i=fP z vs i:=by simp[fP,O]
    rw[g];exact o
  |str y=>
   cases a;assumption
  |_=>cases a
def xA(g:CO (Sk×List D))(j:CO D):CO D:=λb=>(g b).bind λa=>(j b).bind λx=>match a.1 with
 |.L=>if ml x=cC/\o4 a.2=cC then cz (.int (a.2.countP λd=>i0 d x:Nat))else none
 |.T=>none
theorem ip(I:Inv X pins σ H s)(sub:ft H0 H)(O:gg X.K H p xs)(r:dn X.K H0 ds xs)(o:o4 ds=cC):∃y,Reads s.heap (.ref p) (.list<|pa ds) y:=by obtain⟨b,Q,q,d⟩:=I.list O;obtain⟨e,U,Y,n,a⟩:=q.isList;obtain⟨y,Z⟩:=L0 I sub o r Q;exact(_,.list U Y a<|by simpa using Z)
section
theorem SX.u66(h:SX X sc N L k):X.A.units+66<rZ:=by have:=h.room.un;lia
end
def EL(K:Ti):V->List V->Hp->VK->Prop:=λx g H Q=>∃a e v p f b,ft a H/\x=.ref p/\g=[v]/\Rep K a e v/\gg K H p f/\dn K a b f/\ml e=cC/\o4 b=cC/\Q (.int (b.countP λd=>i0 d e:Nat)) H
theorem YI(I:i9 x=cC):∀ds,o4 ds=cC->(pa ds).countP (λy=>tx y<|ja x)=ds.countP λd=>i0 d x
 |[],_=>by rfl
 |d::ds,h=>by simp only[o4,TZ]at h;simp only[pa,_a];rw[HA d x h.1 I,YI I ds h.2]
theorem zd3(P:X.A.units+66<rZ):N0 X "list.count" (EL X.K):=by
 intro j s σ H x T v S Q I E C h;refine Tf λo=>?_;obtain⟨J,f,y,p,W,b,sub,rfl,rfl,u,m,w,O,U,q⟩:=h;refine o ?_;cases E;obtain⟨G,rfl,rw⟩:=vJ C;obtain⟨as,z⟩:=C3 I sub (yC O) u rw;obtain⟨bs,B⟩:=ip I sub m w U;have N:=PySem.SeqAt.depth_of_shaped<|wX O;have Y:=Io b U;cases B with
 | list Z k l i=>
  rename_i r a n L
  obtain⟨R,t,M,g⟩:=r;subst k l;refine sR F.slot_list_count (_,Z,rfl) F.entry_list_count (F.args_list_count_2 _ _) (PySem.SeqAt.list_countAt p a n t g G _) (Z,PySem.SeqAt.items_eqAt i z Y (Pt f<|yC O) ?_,?_)
  .have:min (Ri<|pa b) (ja f).depth<=_:=NB _ _
   lia
  .have e:a.toList.countP (λy=>tx (PySem.SeqAt.readOf s.heap y)<|ja f)=b.countP λd=>i0 d f:=by
    rw[<-YI (yC O) b U,<-PySem.SeqAt.readsAll_map _ _ _ Y i,E6];rfl
   rw[e];exact(.int _,H,I.tok _,(_,rfl),q)
section
variable{X:Cx}{sc:h6}{N L:List Str}{k:Nat}{o e:d8}{apos cpos:f9}{fa:CO D}{g:CO (Sk×List D)}
theorem vn(h:SX X sc N L k)(Z:PQ X o g)(P:PV X e fa)(z:uQ o "count" X.env (dy o X.env)=dy o X.env:=by rfl)
 (B:((m5 cpos<|starEach [e] X.env).all (λx=> !x.1)&&(uS cpos<|keywordEach [] X.env).all (λx=>x.1.isSome)&&decide ([e].length+([]:List rE).length+(if ([]:List rE).isEmpty then 0 else 1)<30))=cC:=by rfl)
 (E:(apos.endLine==cpos.line)=cC:=by rfl) (hs:ed [e] X.env=[(cL,dy e X.env)]:=by rfl):PV X (.Call (.Attribute o "count" apos) [e] [] cpos) (xA g fa):=
 qV (oO P9 PySem.F.slot_list_count PySem.F.type_list_count (zd3 h.u66) Z (zZ P j7 hs) z B E hs rfl) λM H Q u=>by
  refine Tf λw=>?_;obtain⟨l,j,d,b,y,q⟩:=u;obtain⟨⟨A,a⟩,t,y⟩:=ze y;obtain⟨x,s,y⟩:=ze y;refine w ?_;cases A with
  |T=>lia
  | L=>
   have y:=y;by_cases I:ml x=cC/\o4 a=cC
   .rw[DZ I]at y;cases y
    exact(l,j,.L,a,b,t,λp i J n f U K r=>(.inl (rfl,i,U),n,j,x,b.ext f,s,λG m Y O C=>(Y,x,G,p,i,a,O.sub,rfl,rfl,C,O.s1.seq U,r.mono O.s0,I.1,I.2,q _ m Y (f.trans O) rfl)))
   .rw[DJ I]at y;cases y
end
end DL
namespace L2
open PySem PySem.Spec PyProof.Rows
theorem YV(a b c:dj):checkTypeCall "zip" ([a,b,c],[])=pure ⟨⟩:=by kernel_rfl
theorem WV(a b c:dj):checkBuiltinCall "zip.__new__" ([.type "zip",a,b,c],[])=pure ⟨⟩:=by kernel_rfl
abbrev JM(h:eK)(T:di)(a b c:dj):Prop:=h.get? T=cz {cls:=.type "tuple",data:=.seq #[a,b,c]}
structure O0(z TI TO i1 i2 i3 l1 l2 l3:di):Prop where
 TIz:TI≠z
 TOz:TO≠z
 i1z:i1≠z
 i2z:i2≠z
 C0:i3≠z
 TITO:TI≠TO
 TIi1:TI≠i1
 TIi2:TI≠i2
 v?:TI≠i3
 TOi1:TO≠i1
 TOi2:TO≠i2
 B0:TO≠i3
 i12:i1≠i2
 O8:i1≠i3
 O9:i2≠i3
 l1z:l1≠z
 l2z:l2≠z
 l2TO:l2≠TO
 l2i1:l2≠i1
 j_:l3≠z
 Im:l3≠TO
 i_:l3≠i1
 j':l3≠i2
section
variable{prog:hH}{w:hB}{A:l6}{E:EQ}{s:el}
theorem Wb(y:JM s.heap T a b c)
 (h:∀h',h'.get? T=cz {cls:=.type "tuple",data:=.seq ((#[a,b,c]).setIfInBounds k x)}->z4 T s.heap h'->Q ⟨⟩ {s with heap:=h'}):
 wpAny (d5 prog w) A (ML T (·.setIfInBounds k x)) Q E s:=by
 exact EA y rfl<|h _ (by rw[(A5 _ y rfl)];simp[US])<|P' ..
theorem mw{k1 k2 k3:Sk}{z TI TO j B H P R S:di}{n1 n2 n3:Nat}{xs ys zs:Array dj}{x y v a b c:dj}{Q:EQ}(D:O0 z TI TO j B H P R S)
 (hz:pw s.heap z TI TO .none) (be:JM s.heap TI (.ref j) (.ref B) (.ref H)) (bf:JM s.heap TO a b c)
 (h1:hG k1 s.heap j P n1) (h2:hG k2 s.heap B R n2) (h3:hG k3 s.heap H S n3) (bm:iN k1 s.heap P xs) (bn:iN k2 s.heap R ys) (br:iN k3 s.heap S zs) (hx:xs[n1]? = cz x) (hy:ys[n2]? = cz y) (hv:zs[n3]? = cz v)
 (hQ:∀h',pw h' z TI TO (C2 s.heap.objs.size)->JM h' TO x y v->hG k1 h' j P (n1+1)->hG k2 h' B R (n2+1)->hG k3 h' H S (n3+1)->JM h' s.heap.objs.size x y v->h'.objs.size=s.heap.objs.size+1->
   (∀c o,c≠z->c≠TO->c≠j->c≠B->c≠H->s.heap.get? c=cz o->h'.get? c=cz o)->Q (.ref s.heap.objs.size) {s with heap:=h'}):
 wpAny (d5 prog w) A (n6.«zip.__next__» ([.ref z],[])) (λc0 s'=>∃v,c0=.done (.ret v)/\Q v s') E s:=by
 refine Th (m:=field (.ref z) 2)<|Uv hz rfl (x:=.bool cL) rfl ?_;refine Th<|Uv hz rfl rfl ?_;refine Th<|nr be rfl ?_;refine Th ?_;unfold UQ;refine Th<|Uv hz rfl rfl<|Ts ?_;simp only[if_true];refine Th<|sQ<|Th<|Uv hz rfl rfl ?_;refine Th<|UJ hz () λg1 r Y=>?_;replace r:=r;refine Th ?_;simp only[R0,Rn,Dk,EC];refine Th<|Th<|uA ?_;refine Th<|qN (h1.at λo e=>Y.extBut _ _ D.i1z e) (bm.at λo e=>Y.extBut _ _ D.l1z e) hx λg2 c7 i=>Ts ?_;have N:=i.extBut _ _ D.TOi1<|Y.extBut _ _ D.TOz bf;refine Th<|nr N rfl<|Th<|Wb N λg3 ad k=>?_;replace ad:=ad;have Z:∀c o,c≠z->c≠j->c≠TO->_=cz o->g3.get? c=cz o:=λc o I O f e=>k.extBut _ _ f<|i.extBut _ _ O<|Y.extBut _ _ I e;refine Th<|tw<|Ts<|Th<|Th<|uA ?_;refine Th<|qN (h2.at λo e=>Z _ o D.i2z D.i12.symm D.TOi2.symm e) (bn.at λo e=>Z _ o D.l2z D.l2i1 D.l2TO e) hy λg4 c8 t=>Ts ?_;have T:=t.extBut _ _ D.TOi2 ad;refine Th<|nr T rfl<|Th<|Wb T λg5 u C=>?_;replace u:=u;have a1 c o:c≠B->c≠TO->g3.get? c=cz o->g5.get? c=cz o:=λI O e=>C.extBut _ _ O<|t.extBut _ _ I e;refine Th<|tw<|Ts<|Th<|Th<|uA ?_;refine Th<|qN (h3.at λo e=>a1 _ o D.O9.symm D.B0.symm<|Z _ o D.C0 D.O8.symm D.B0.symm e) (br.at λo e=>a1 _ o D.j' D.Im<|Z _ o D.j_ D.i_ D.Im e) hv λg6 c9 F=>Ts ?_;have W:=F.extBut _ _ D.B0 u;refine Th<|nr W rfl<|Th<|Wb W λU l G=>?_;replace l:JM U TO x y v:=l;have n c o:c≠H->c≠TO->g5.get? c=cz o->U.get? c=cz o:=λI O e=>G.extBut _ _ O<|F.extBut _ _ I e;refine Th<|tw<|Ts<|Ts<|Th<|nr l rfl<|Th<|GN ?_;have g:U.objs.size=s.heap.objs.size:=by simp only[G.1,F.1,C.1,t.1,k.1,i.1,Y.1]
 have X:=n _ _ D.C0.symm D.TOz.symm (a1 _ _ D.i2z.symm D.TOz.symm (k.extBut _ _ D.TOz.symm (i.extBut _ _ D.i1z.symm r)));have ca:=c9.at λo e=>G.extBut _ _ D.B0.symm e;have b9:=TH X;refine Th ?_;unfold I_;have cb:pw (U.push {cls:=.type "tuple",data:=.seq #[x,y,v]}) z TI TO .ellipsis:=Tj _ X;refine Th (UJ cb () λg9 J as=>?_);replace J:pw g9 z TI TO (C2 U.objs.size):=J;refine UJ J () λd p K=>?_;replace p:pw d z TI TO (C2 U.objs.size):=p;have h c o:c≠z->U.get? c=cz o->d.get? c=cz o:=λI e=>K.extBut _ _ I (as.extBut _ _ I (Tj _ e));have bb:JM d U.objs.size x y v:=K.extBut _ _ (q9 b9) (as.extBut _ _ (q9 b9) (Tw _ rfl));have bd:d.objs.size=U.objs.size+1:=by rw[K.1,as.1,Ui]
 rw[g]at p bb bd;refine Ts (_,rfl,?_);rw[g];exact hQ d p (h _ _ D.TOz l) ((c7.at λo e=>n _ o D.O8 D.TOi1.symm<|a1 _ o D.i12 D.TOi1.symm<|k.extBut _ _ D.TOi1.symm e).at λo e=>h _ o D.i1z e) ((c8.at λo e=>n _ o D.O9 D.TOi2.symm<|C.extBut _ _ D.TOi2.symm e).at λo e=>h _ o D.i2z e) (ca.at λo e=>h _ o D.C0 e) bb bd λc o I O f L M e=>h c o I<|(λc o I O f L M e=>n c o M O<|a1 c o L O<|Z c o I f O e) c o I O f L M e
theorem zeP{k1 k2 k3:Sk}{z TI TO j B H R S l3:di}{n1 n2 n3:Nat}{xs ys zs:Array dj}{a b c:dj}{Q:Fin->el->Prop}(P:A.handled=none)(D:O0 z TI TO j B H R S l3)
 (hz:pw s.heap z TI TO .none) (b5:JM s.heap TI (.ref j) (.ref B) (.ref H)) (b6:JM s.heap TO a b c)
 (h1:hG k1 s.heap j R n1) (h2:hG k2 s.heap B S n2) (h3:hG k3 s.heap H l3 n3) (ax:iN k1 s.heap R xs) (b0:iN k2 s.heap S ys) (b8:iN k3 s.heap l3 zs) (bi:xs[n1]? = none\/ys[n2]? = none\/zs[n3]? = none)
 (hE:∀h' e,(∀c o,c≠z->c≠TO->c≠j->c≠B->c≠H->s.heap.get? c=cz o->h'.get? c=cz o)->(∃o,h'.get? e=cz o/\o.cls=.type "StopIteration")->E (.ref e) {s with heap:=h'}):
 wpAny (d5 prog w) A (n6.«zip.__next__» ([.ref z],[])) Q E s:=by
 refine Th (m:=field (.ref z) 2) (Uv hz rfl (x:=.bool cL) rfl ?_);refine Th (Uv hz rfl rfl ?_);refine Th (nr b5 rfl ?_);refine Th ?_;unfold UQ;refine Th (Uv hz rfl rfl (Ts ?_));simp only[if_true];refine Th (sQ (Th (Uv hz rfl rfl ?_)));refine Th (UJ hz () λg1 r Z=>?_);replace r:=r;refine Th ?_;simp only[R0,Rn,Dk,EC];refine Th (Th (uA ?_));have ad:∀{g e:_} {h:lU},pw g z TI TO .ellipsis->(∀c o,c≠z->c≠TO->c≠j->c≠B->c≠H->_=cz o->g.get? c=cz o)->g.get? e=cz h->h.cls=.type "StopIteration"->
  wpAny (d5 prog w) A (setField (.ref z) 0 .none) (λ_ T=>E (.ref e) T) E {s with heap:=g}:=λ{g e h} C hk d f=>by
  exact UJ C () λg3 _ k=>hE g3 e (λc o I O U n u q=>k.extBut _ _ I<|hk c o I O U n u q) (h,k.extBut _ _ (λq=>by lia) d,f)
 cases hx:xs[n1]? with
 |none=>
  refine Th<|yY P (h1.at λo e=>Z.extBut _ _ D.i1z e) (ax.at λo e=>Z.extBut _ _ D.l1z e) hx λg2 e i p=>?_;obtain⟨h,d,f⟩:=p;exact ad (i _ _ D.i1z.symm r) (λc o I _ U _ _ q=>i _ _ U<|Z.extBut _ _ I q) d f
 | some x=>
  refine Th<|qN (h1.at λo e=>Z.extBut _ _ D.i1z e) (ax.at λo e=>Z.extBut _ _ D.l1z e) hx λg2 W i=>Ts ?_;have F:=i.extBut _ _ D.TOi1<|Z.extBut _ _ D.TOz b6;refine Th<|nr F rfl<|Th<|Wb F λg3 t k=>?_;replace t:=t;have Y:∀c o,c≠z->c≠j->c≠TO->_=cz o->g3.get? c=cz o:=λc o I O U e=>k.extBut _ _ U<|i.extBut _ _ O<|Z.extBut _ _ I e;have G:=k.extBut _ _ D.TOz.symm<|i.extBut _ _ D.i1z.symm r;refine Th<|tw<|Ts<|Th<|Th<|uA ?_;cases hy:ys[n2]? with
  |none=>
   refine Th<|yY P (h2.at λo e=>Y _ o D.i2z D.i12.symm D.TOi2.symm e) (b0.at λo e=>Y _ o D.l2z D.l2i1 D.l2TO e) hy λM e l p=>?_;obtain⟨h,d,f⟩:=p;exact ad (l _ _ D.i2z.symm G) (λc o I O U n _ q=>l _ _ n<|Y c o I U O q) d f
  | some y=>
   refine Th<|qN (h2.at λo e=>Y _ o D.i2z D.i12.symm D.TOi2.symm e) (b0.at λo e=>Y _ o D.l2z D.l2i1 D.l2TO e) hy λM X l=>Ts ?_;have J:=l.extBut _ _ D.TOi2 t;refine Th<|nr J rfl<|Th<|Wb J λN br L=>?_;have ab c o:c≠B->c≠TO->g3.get? c=cz o->N.get? c=cz o:=λI O e=>L.extBut _ _ O<|l.extBut _ _ I e;refine Th<|tw<|Ts<|Th<|Th<|uA ?_;refine Th (yY P (h3.at λo e=>ab _ o D.O9.symm D.B0.symm<|Y _ o D.C0 D.O8.symm D.B0.symm e) (b8.at λo e=>ab _ o D.j' D.Im<|Y _ o D.j_ D.i_ D.Im e) (by
    lia) λg6 e K p=>?_)
   obtain⟨h,d,f⟩:=p;exact ad (K _ _ D.C0.symm<|ab _ _ D.i2z.symm D.TOz.symm G) (λc o I O U n u q=>K _ _ u<|ab c o n O<|Y c o I U O q) d f
end
noncomputable def mS(a b c:dj):lU:={cls:=.type "tuple",data:=.seq #[a,b,c]}
def Jh(k1 k2 y:Sk)(h:eK)(j z B:di):eK:=
 TF (TF (TF (TF (TF (TF h<|fy k1 j)<|fy k2 z)<|fy y B)<|mS (.ref h.objs.size) (.ref<|h.objs.size+1)<|.ref<|h.objs.size+2)<|mS .none .none .none) (CS (h.objs.size+3)<|h.objs.size+4)
theorem zeO(k1 k2 y:Sk)(j z B:di)(xs ys I:Array dj):
 wo (n6.«zip.__new__» ([.type "zip",.ref j,.ref z,.ref B],[])) (λ_ R s=>iN k1 s.heap j xs/\iN k2 s.heap z ys/\iN y s.heap B I/\
  R (.ok<|.ret<|.ref<|s.heap.objs.size+5) {s with heap:=Jh k1 k2 y s.heap j z B}):=
 .of_wp λa w A R s h=>by
  obtain⟨O,g,d,Q,os⟩:=s;obtain⟨U,Y,Z,h⟩:=h;have f:=sub_zip;have b:iN y (Shared.heap ((O.push<|fy k1 j).push (fy k2 z),g,d,Q,os)) B I:=Z.at λo e=>Tj _<|Tj _ e
  wp_walk using Ke U,Ke<|Y.at λo e=>Tj _ e,Ke b
  refine(_,rfl,?_);simp only[Jh,mS,CS,Ui]at h ⊢;exact h
theorem pV(a b c d:dj):argsOk "object.__init__" ([a,b,c,d],[]):=by
 unfold argsOk
 kernel_rfl
def Rv(k1 k2 I:Sk)(K:Ti)(a b c:di):It:=
 (λi H=>∃d e y,h5 k1 K H a d/\h5 k2 K H b e/\h5 I K H c y/\i<d.length/\i<e.length/\i<y.length,
  λi H x f=>∃p u v t,x=.ref p/\H p=none/\f=upd H p (.tup [u,v,t])/\(∀d,h5 k1 K H a d->d[i]? = cz u)/\(∀e,h5 k2 K H b e->e[i]? = cz v)/\(∀y,h5 I K H c y->y[i]? = cz t),
  λi H=>∃d e y,h5 k1 K H a d/\h5 k2 K H b e/\h5 I K H c y/\(d.length<=i\/e.length<=i\/y.length<=i))
theorem mO{P:hH}{w:hB}{K:Ti}{elts:List d8}{x1:Nat}{q5:f9}(k1 k2 k3:Sk){z TI TO i1 i2 i3 a b c:di}(D:O0 z TI TO i1 i2 i3 a b c):
 Turn P w K (.Tuple elts x1 q5) (Rv k1 k2 k3 K a b c) [z,TI,TO,i1,i2,i3] z (λi h=>pw h z TI TO .none/\JM h TI (.ref i1) (.ref i2) (.ref i3)/\(∃c d e,JM h TO c d e)/\hG k1 h i1 a i/\hG k2 h i2 b i/\hG k3 h i3 c i) where
 mem:=by simp
 obj:=λi h as y hy=>by
  obtain⟨hz,U,⟨c,d,e,Y⟩,Z,h2,h3⟩:=as;simp only[Tz,TQ,or_false]at hy;rcases hy with rfl|rfl|rfl|rfl|rfl|rfl
  .exact(_,hz,λv q=>by cases q)
  .exact(_,U,λv q=>by cases q)
  .exact(_,Y,λv q=>by cases q)
  .exact Z.obj
  .exact h2.obj
  .exact h3.obj
 keep:=λi h h' as k=>by obtain⟨hz,U,⟨c,d,e,Y⟩,Z,h2,h3⟩:=as;exact(k z () _ hz,k TI () _ U,(c,d,e,k TO () _ Y),Z.at λo e=>k i1 () o e,h2.at λo e=>k i2 () o e,h3.at λo e=>k i3 () o e)
 item:=by
  rintro X hP hw hK hc i pins s σ H E I hf ⟨hz,U,⟨c,d,e,Y⟩,Z,h2,h3⟩ ⟨xs,ys,zs,am,an,ap,bd,be,K?⟩;subst hP hw hK;obtain⟨bf,b1,p1,z1⟩:=I.sq am;obtain⟨bg,b3,p2,z2⟩:=I.sq an;obtain⟨bi,b4,p3,z3⟩:=I.sq ap;have hx:xs[i]? = cz xs[i]:=To bd;have hy:ys[i]? = cz ys[i]:=To be;have hv:zs[i]? = cz zs[i]:=To K?;obtain⟨u1,bl,bm⟩:=b1.get hx;obtain⟨u2,bn,br⟩:=b3.get hy;obtain⟨u3,bt,bu⟩:=b4.get hv;have hT:s.TypeIs (.ref z) "zip":=(_,hz,rfl);unfold sa;refine Th (tq (Ux (name:=px "__next__") hT UZ (qj UZ hT z8
   (mw D hz U Y Z h2 h3 p1 p2 p3 (x:=u1) (y:=u2) (v:=u3) (by simpa using bl) (by simpa using bn) (by simpa using bt) λg a1 a2 a3 a4 a9 a5 a6 a7=>Ts (_,rfl,?_)) (zr _))))
  refine zfV a1 λg2 DG ab=>?_;have lt:∀{c o},s.heap.get? c=cz o->s.heap.objs.size≠c:=λe=>q9<|TH e;have c4:JM g2 s.heap.objs.size u1 u2 u3:=ab.extBut _ _ (lt hz) a5;have kk Q u:Q ∉ [z,TI,TO,i1,i2,i3]->s.heap.get? Q=cz u->g2.get? Q=cz u:=λO e=>by simp only[Tz,TQ,or_false,not_or]at O;exact ab.extBut _ _ O.1<|a7 Q u O.1 O.2.2.1 O.2.2.2.1 O.2.2.2.2.1 O.2.2.2.2.2 e
  have I1:Inv X pins σ (upd H s.heap.objs.size<|.tup [xs[i],ys[i],zs[i]]) {s with heap:=g2,toks:=s.toks}:=
   I.L9 (fp:=[z,TI,TO,i1,i2,i3]) kk hf (Tv _) (by show 3<=eB;decide,[u1,u2,u3],.cons bm<|.cons br<|.cons bu .nil,(_,c4,rfl,_,rfl))
  have c7:H s.heap.objs.size=none:=I.fresh;refine(.ref s.heap.objs.size,_,I1,rfl,(_,_,_,_,rfl,c7,rfl,λcf ae=>by rw[I.C4 ae am];exact hx,λch ae=>by rw[I.C4 ae an];exact hy,λci ae=>by rw[I.C4 ae ap];exact hv),?_,λQ O=>?_)
  .exact(DG,ab.extBut _ _ D.TIz<|a7 _ _ D.TIz D.TITO D.TIi1 D.TIi2 D.v? U,(_,_,_,ab.extBut _ _ D.TOz a2),a3.at λo e=>ab.extBut _ _ D.i1z e,a4.at λo e=>ab.extBut _ _ D.i2z e,a9.at λo e=>ab.extBut _ _ D.C0 e)
  .have c8:Q≠s.heap.objs.size:=by
    simp only[Tz,TQ,or_false]at O;rcases O with rfl|rfl|rfl|rfl|rfl|rfl
    .exact(lt hz).symm
    .exact(lt U).symm
    .exact(lt Y).symm
    .obtain⟨o,e,_⟩:=Z.obj;exact(lt e).symm
    .obtain⟨o,e,_⟩:=h2.obj;exact(lt e).symm
    .obtain⟨o,e,_⟩:=h3.obj;exact(lt e).symm
   rw[zJ c8];exact(hf Q O).1
 done:=by
  rintro X hP hw hK hc i pins s σ H E I hf ⟨hz,U,⟨c,d,e,Y⟩,Z,h2,h3⟩ ⟨xs,ys,zs,am,an,ap,hi⟩;subst hP hw hK;obtain⟨bf,b1,p1,z1⟩:=I.sq am;obtain⟨bg,b3,p2,z2⟩:=I.sq an;obtain⟨bi,b4,p3,z3⟩:=I.sq ap;have hT:s.TypeIs (.ref z) "zip":=(_,hz,rfl);have l1:=b1.length;have l2:=b3.length;have l3:=b4.length;unfold sa;refine Th (tq (Ux (name:=px "__next__") hT UZ (qj UZ hT z8
   (zeP (show X.A.handled=none from I.ok.hd hc) D hz U Y Z h2 h3 p1 p2 p3 (by
     rcases hi with q|q|q
     .left;simp;lia
     .right;left;simp;lia
     .right;right;simp;lia) λg e hk he=>?_) (zr _))))
  obtain⟨o,ho,cd⟩:=he;refine Th (NF (T:="StopIteration") (b:=cC) (o,ho,cd) Nx (Ts (rfl,?_)));refine I.ro (t':=s.toks) (fp:=[z,TI,TO,i1,i2,i3]) (λQ u O e=>?_) hf;simp only[Tz,TQ,or_false,not_or]at O;exact hk Q u O.1 O.2.2.1 O.2.2.2.1 O.2.2.2.2.1 O.2.2.2.2.2 e
 self:=λ_ _ _ _ _ st h=>ND st.1 h
theorem Oe(r:eo [x,y,z] us):∃u w' t,us=[u,w',t]/\RelV x u/\RelV y w'/\RelV z t:=by
 cases r with
 | cons I a=>
  cases a with
  |cons O Q=>
   cases Q with
   |cons U Y=>cases Y;exact(_,_,_,rfl,I,O,U)
def Pd(K:Ti)(j:TA):TI:=λk H R=>j k H λg d=>∃e f y a b c,g=[.ref a,.ref b,.ref c]/\(∃h,h5 e K d a h)/\(∃i,h5 f K d b i)/\(∃I,h5 y K d c I)/\R (Rv e f y K a b c) d
theorem Fg{X:Cx}{E O Q:d8}{S:TA}{p pos:f9}{z:List d8}{x1:Nat}{B:f9}(hg:Gl X "zip")(hm:X.mg "zip" = none)(ha:PA X [E,O,Q] S)
 (hv:sV "zip" = cz (.type "zip")) (hs:ed [E,O,Q] X.env=[(cL,dy E X.env),(cL,dy O X.env),(cL,dy Q X.env)]:=by rfl) (P:ed [O,Q] X.env=[(cL,dy O X.env),(cL,dy Q X.env)]:=by rfl):
 PI X (.Tuple z x1 B) (.Call (.Name "zip" p) [E,O,Q] [] pos) (Pd X.K S):=by
 intro j s T H R I h;refine tI (yc I hg hm hv<|Ut (ea (ha pos j s T H _ I h) λus d hZ=>?_) (by rw[hs,P])<|by rw[P];rfl);refine Tf λr=>?_;obtain⟨vs,t,U,r1,q1⟩:=hZ;obtain⟨f,g,y,a,b,c,e,⟨xs,ap⟩,⟨ys,as⟩,⟨zs,ax⟩,q⟩:=q1;subst e;obtain⟨w1,w2,w3,eu,b1,b2,b3⟩:=Oe r1;refine r ?_;subst eu;cases b1;cases b2;cases b3;refine Tf λr=>?_;obtain⟨b4,bg,A,z1⟩:=U.sq ap;obtain⟨b5,bi,C,z2⟩:=U.sq as;obtain⟨b6,bl,G,z3⟩:=U.sq ax;refine r ?_;refine S5 F.called_zip () (YV _ _ _) (WV _ _ _) (λobj=>pV obj _ _ _) F.entry_zip_new (zeO f g y a b c b4.toArray b5.toArray b6.toArray) (A,C,G,?_);have ps:∀(h:eK) o c u,h.get? c=cz u->(h.push o).get? c=cz u:=λh o c u e=>Tj _ e;have keep:∀Y o,_=cz o->(Jh f g y d.heap a b c).get? Y=cz o:=λY o e=>ps _ _ _ _<|ps _ _ _ _<|ps _ _ _ _<|ps _ _ _ _<|ps _ _ _ _<|ps _ _ _ _ e;have J:(TF d.heap<|fy f a).objs.size=_:=Ui ..;have L:(TF (TF d.heap<|fy f a)<|fy g b).objs.size=d.heap.objs.size+2:=by rw[Ui,J]
 have M:(TF (TF (TF d.heap<|fy f a)<|fy g b)<|fy y c).objs.size=d.heap.objs.size+3:=by rw[Ui,L]
 have N:(TF (TF (TF (TF d.heap<|fy f a)<|fy g b)<|fy y c)<|mS (.ref d.heap.objs.size) (.ref<|d.heap.objs.size+1)<|.ref<|d.heap.objs.size+2).objs.size=d.heap.objs.size+4:=by rw[Ui,M]
 have y5:(TF (TF (TF (TF (TF d.heap<|fy f a)<|fy g b)<|fy y c)<|mS (.ref d.heap.objs.size) (.ref<|d.heap.objs.size+1)<|.ref<|d.heap.objs.size+2)<|mS .none .none .none).objs.size=d.heap.objs.size+5:=by rw[Ui,N]
 have g0:hG f (Jh f g y d.heap a b c) d.heap.objs.size a 0:=(ZN f d.heap a).at λo e=>ps _ _ _ _<|ps _ _ _ _<|ps _ _ _ _<|ps _ _ _ _<|ps _ _ _ _ e;have g1:hG g (Jh f g y d.heap a b c) (d.heap.objs.size+1) b 0:=by have q:=ZN g (TF d.heap<|fy f a) b;rw[J]at q;exact q.at λo e=>ps _ _ _ _<|ps _ _ _ _<|ps _ _ _ _<|ps _ _ _ _ e
 have b9:hG y (Jh f g y d.heap a b c) (d.heap.objs.size+2) c 0:=by have q:=ZN y (TF (TF d.heap<|fy f a)<|fy g b) c;rw[L]at q;exact q.at λo e=>ps _ _ _ _<|ps _ _ _ _<|ps _ _ _ _ e
 have g2:JM (Jh f g y d.heap a b c) (d.heap.objs.size+3) (.ref d.heap.objs.size) (.ref<|d.heap.objs.size+1) (.ref<|d.heap.objs.size+2):=by have q:=Tw (TF (TF (TF d.heap<|fy f a)<|fy g b)<|fy y c) (o:=mS (.ref d.heap.objs.size) (.ref<|d.heap.objs.size+1)<|.ref<|d.heap.objs.size+2) rfl;rw[M]at q;exact ps _ _ _ _<|ps _ _ _ _ q
 have g3:JM (Jh f g y d.heap a b c) (d.heap.objs.size+4) .none .none .none:=by have q:=Tw (TF (TF (TF (TF d.heap<|fy f a)<|fy g b)<|fy y c)<|mS (.ref d.heap.objs.size) (.ref<|d.heap.objs.size+1)<|.ref<|d.heap.objs.size+2) (o:=mS .none .none .none) rfl;rw[N]at q;exact ps _ _ _ _ q
 have l:=by have q:=Tw (TF (TF (TF (TF (TF d.heap<|fy f a)<|fy g b)<|fy y c)<|mS (.ref d.heap.objs.size) (.ref<|d.heap.objs.size+1)<|.ref<|d.heap.objs.size+2)<|mS .none .none .none) (o:=CS (d.heap.objs.size+3)<|d.heap.objs.size+4) rfl;rw[y5]at q;exact q
 refine((_,l,rfl),ND l ?_);have W:Inv X j T t {d with heap:=Jh f g y d.heap a b c,toks:=d.toks}:=U.kept keep;have be:=λm=>TU<|TC A.lt<|TL _ m;have k:=λm=>TU<|TC C.lt<|TL _ m;have Z:=λm=>TU<|TC G.lt<|TL _ m;have i m n:m≠n->(d.heap.objs.size+m)≠d.heap.objs.size+n:=λh=>by lia
 refine(_,[d.heap.objs.size+5,d.heap.objs.size+3,d.heap.objs.size+4,d.heap.objs.size,d.heap.objs.size+1,d.heap.objs.size+2],_,_,t,rfl,W,mO f g y (i 3 5 (),i 4 5 (),i 0 5 (),i 1 5 (),i 2 5 (),i 3 4 (),i 3 0 (),i 3 1 (),i 3 2 (),i 4 0 (),i 4 1 (),i 4 2 (),i 0 1 (),i 0 2 (),i 1 2 (),
  be 5,k 5,k 4,k 0,Z 5,Z 4,Z 0,Z 1),(l,g2,(_,_,_,g3),g0,g1,b9),λY x=>?_,q)
 have w:d.heap.objs.size<=Y:=by
  simp only[Tz,TQ,or_false]at x;rcases x with rfl|rfl|rfl|rfl|rfl|rfl
  .exact TL _ _
  .exact TL _ _
  .exact TL _ _
  .exact Tv _
  .exact TL _ _
  .exact TL _ _
 exact U.r6 w<|U.eC.fresh w
end L2
namespace DL
open PySem L2
noncomputable def bo(ds es fs:List D):List D:=(ds.zip<|es.zip fs).map λp=>D.tup [p.1,p.2.1,p.2.2]
def ED(f g h:CO D)(γ:Ctx):Option (List D):=((f γ).bind jI).bind λm=>((g γ).bind jI).bind λn=>((h γ).bind jI).map λo=>bo m.2 n.2 o.2
@[simp] noncomputable def zgW:=@ED.eq_1
def ik(i:Nat)(g:CO (Sk×List D)):CO Fl:=λb=>(qZ b[i]?).bind λd=>(g b).bind λa=>match a.1 with
 |.T=>if d.length+a.2.length<=lim then cz (.next<|b.set i<|.own<|d++a.2)else none
 |.L=>none
end DL
namespace L2
open PySem PySem.Spec PyProof.Rows
theorem lF(l b:di)(its:Array dj)(n:Nat)(y:Array dj)(j:Nat)(o:lU)(Q:¬(!its.isEmpty&&MZ (its.size+y.size))=cC)(U:its.size<=eB)(Y:its.size+y.size<=eB+1):
 wo (n6.«list.extend» ([.ref l,.ref b],[])) (λ_ R s=>s.heap.get? l=cz {cls:=.type "list",dict:=none,data:=.seq its n,slots:=#[]}/\s.heap.get? b=cz o/\o.cls=.type "tuple"/\o.data=.seq y j/\R (.ok (.ret ng)) {s with heap:=s.heap.update l (US λx=>x++y)}):=
 .of_wp λa w A R s h=>by obtain⟨I,O,Z,d,h⟩:=h;refine Th<|Ts ?_;unfold J';refine Th<|uG (o,O,Z) ?_;rw[DZ ()];refine Th ?_;unfold Builtin.List.listItems;refine Th<|nr O d<|Ts ?_;refine Th ?_;refine Th<|nr I rfl<|Ts ?_;rw[DJ Q];exact Th<|EA I rfl (hz:=U) (_hz':=(by rw[Array.size_append];exact Y))<|Ts (_,rfl,h)
def OG(K:Ti):V->List V->Hp->VK->Prop:=λx d H Q=>∃l b a y,x=.ref l/\d=[.ref b]/\H l=cz (.lst a)/\fA K H b y/\a.length+y.length<=eB/\Q .d7 (upd H l<|.lst<|a++y)
theorem FJ{X:Cx}:NZ X "list.extend" (OG X.K):=by
 intro f s L H x E v C Q I U Y h;obtain⟨l,b,G,J,rfl,rfl,y,Z,B,q⟩:=h;cases U;obtain⟨u,rfl,t⟩:=Y.one;cases t;refine Tf λm=>?_;obtain⟨z,a,n,r,A,e⟩:=I.rG y;obtain⟨O,g,⟨o,k,i,p,j⟩,w⟩:=I.tuple Z;refine m ?_;have SG:=g.length;have d:a.toArray.size+O.toArray.size<=eB:=by rw[TK,TK];lia
 exact sR F.slot_list_extend (_,e,rfl) F.entry_list_extend (F.args_list_extend_2 _ _) (lF l b a.toArray n O.toArray p o (by
  rw[Vz d,Bool.and_false];exact Uk) () ()) (e,k,i,j,(.d7,_,I.uZ y e () (r.append g) (by rw[UD];lia),rfl,q))
end L2
namespace DL
open PySem PySem.Spec PyProof.Rows L2
section
variable{X:Cx}{sc:h6}{N L:List Str}{k:Nat}{a:d8}{g:CO (Sk×List D)}{pos:f9}
theorem zfm(i:Nat){x:Str}{j cpos z:f9}(h:SX X sc N L k)(c:vH sc N i x=cC)(ha:PQ X a g)(hs:ed [a] X.env=[(cL,dy a X.env)]:=by rfl)
 (B:uQ (.Name x z) "extend" X.env (dy (.Name x z) X.env)=dy (.Name x z) X.env:=by rfl)
 (P:((m5 cpos<|starEach [a] X.env).all (λx=> !x.1)&&(uS cpos<|keywordEach [] X.env).all (λx=>x.1.isSome)
   &&decide ([a].length+([]:List rE).length+(if ([]:List rE).isEmpty then 0 else 1)<30))=cC:=by rfl)
 (R:(j.endLine==cpos.line)=cC:=by rfl) (S:rH (.Call (.Attribute (.Name x z) "extend" j) [a] [] cpos) none pos.line X.env=pure cL:=by rfl):
 ji X (.Expr (.Call (.Attribute (.Name x z) "extend" j) [a] [] cpos) pos) (ik i g):=
 yS (Vk (oO P9 PySem.F.slot_list_extend PySem.F.type_list_extend FJ (h.var c) (zZ ha j7 hs) B P R hs rfl) S) λD J H r=>by
  refine Tf λs=>?_;obtain⟨E0,E,m,w,C,I,y,o⟩:=r;obtain⟨e,d,y⟩:=ze y;obtain⟨⟨t,f⟩,p,y⟩:=ze y;refine s ?_;have d:=kT d;cases t with
  |L=>lia
  | T=>
   have y:=y;by_cases O:e.length+f.length<=lim
   .rw[DZ O]at y;cases y
    obtain⟨l,xs,Q,G,U,Y⟩:=I.rc.own i e d;refine(_,Q,.inl (rfl,_,gg.of U),m,w,.T,f,I.rc,p,λb u A n x g1 g2 Z=>?_);exact(l,b,xs,u,rfl,rfl,x.s1 _ _ U,g1,by
     rw[Y.length,Z.length];have:lim<=eB:=by decide
     lia,o _ _ _<|(I.step x).rewrite (xs:=xs) d Q ((Y.mono x.s0).append Z))
   .rw[DJ O]at y;cases y
end
theorem mC{k1 k2 Z:Sk}{K:Ti}{j z:Hp}{a b c:di}{xs ys I:List V}{ds es fs:List D}(O:h5 k1 K z a xs)(B:dn K j ds xs)(Q:h5 k2 K z b ys)(E:dn K j es ys)(U:h5 Z K z c I)(H:dn K j fs I):
 Walk K j z (Rv k1 k2 Z K a b c) (bo ds es fs):=by
 have R:=B.length;have S:=E.length;have T:=H.length;have M:(bo ds es fs).length=min ds.length (min es.length fs.length):=by simp[bo]
 refine(λi e s J=>(xs,ys,I,kj s O,kj s Q,kj s U,(),(),()),λe s=>?_,λi e x m s J y=>?_)
 .refine(xs,ys,I,kj s O,kj s Q,kj s U,?_)
  rw[M];lia
 .refine Tf λN=>?_;obtain⟨p,u,v,t,w,h,A,g1,g2,g3⟩:=y
  obtain⟨d,F,L⟩:=B.sX<|g1 xs<|kj s O;obtain⟨g,C,n⟩:=E.sX<|g2 ys<|kj s Q;obtain⟨f,G,ad⟩:=H.sX<|g3 I<|kj s U;refine N ?_;refine(.tup [d,g,f],?_,λl P k=>(upd l p<|.tup [u,v,t],?_,?_))
  .have o:_=cz (Prod.mk d (Prod.mk g f)):=M_.mpr (F,M_.mpr (C,G))
   simp[bo,o]
  .rw[A];exact Ext.alloc k h _
  .rw[w]
   have Y:=λ{q:D} {y:V} (r:Rep K j q y)=>(r.mono P).mono (ju (jy k h)<|.tup [u,v,t]);exact((p,[u,v,t],rfl,fA.of zF,dn.cons (Y L)<|dn.cons (Y n)<|dn.cons (Y ad) dn.nil))
section
variable{X:Cx}{sc:h6}{N L:List Str}{k:Nat}{a b c:d8}{p pos:f9}{f g h:CO D}
theorem Fd{j:List d8}{x1:Nat}{B:f9}(hS:SX X sc N L k)(P:wQ sc "zip" = cC)(z:X.mg "zip" = none)(ha:PV X a f)(hb:PV X b g)(hc:PV X c h)
 (hs:ed [a,b,c] X.env=[(cL,dy a X.env),(cL,dy b X.env),(cL,dy c X.env)]:=by rfl) (I:ed [b,c] X.env=[(cL,dy b X.env),(cL,dy c X.env)]:=by rfl) (Z:ed [c] X.env=[(cL,dy c X.env)]:=by rfl):
 g8 X (.Tuple j x1 B) (.Call (.Name "zip" p) [a,b,c] [] pos) (ED f g h):=
 KO (Fg (hS.gl P).1 z (zZ ha (zZ hb (zZ hc j7 Z)<|by rw[I,Z])<|by rw[hs,I]) S_ hs I) λσ H R hZ=>by refine Tf λO=>?_;obtain⟨A,u,ds,s,y,q⟩:=hZ;obtain⟨⟨k1,m⟩,l,y⟩:=ze y;obtain⟨d,S,l⟩:=ze l;obtain⟨⟨k2,n⟩,Q,y⟩:=ze y;obtain⟨M,T,Q⟩:=ze Q;obtain⟨⟨k3,o⟩,U,y⟩:=zB y;obtain⟨t,W,U⟩:=ze U;refine O ?_;subst y;refine(A,u,d,s,S,λv H' i x r=>(i,u,M,s.ext x,T,λv2 H2 J Y r2=>(J,u,t,(s.ext x).ext Y,W,λv3 C K e r3=>?_)));refine Tf λO=>?_;obtain⟨E,xs,rfl,g1,g2⟩:=ZS ((r.mono Y.s0).mono e.s0) l;obtain⟨F,ys,rfl,g3,g4⟩:=ZS (r2.mono e.s0) Q;obtain⟨G,zs,rfl,w,g6⟩:=ZS r3 U;exact O (k1,k2,k3,E,F,G,rfl,(xs,kj e.sub g1),(ys,kj e.sub g3),(zs,kj e.sub w),q _ C K ((x.trans Y).trans e)<|mC g1 g2 g3 g4 w g6)
end
def nH(f g:CO D)(γ:Ctx):Option (List D):=((f γ).bind jI).bind λm=>((g γ).bind jI).bind λn=>if m.2.length<=lim then cz (wC m.2 n.2)else none
@[simp] noncomputable def zgC:=@nH.eq_1
section
variable{prog:hH}{w:hB}{A:l6}{E:EQ}{s:el}
theorem CQ{k1 k2:Sk}{z TI TO j B H P:di}{n:Nat}{xs ys:Array dj}{x y:dj}{Q:Option dj->el->Prop}(D:tX z TI TO j B H P)
 (Z:tW k1 k2 z TI TO j B H P n s.heap) (R:iN k1 s.heap H xs) (S:iN k2 s.heap P ys) (hx:xs[n]? = cz x) (hy:ys[n]? = cz y)
 (hQ:∀h',tW k1 k2 z TI TO j B H P (n+1) h'->ni h' s.heap.objs.size x y->(∀c o,c ∉ [z,TI,TO,j,B]->s.heap.get? c=cz o->h'.get? c=cz o)->Q (cz (.ref s.heap.objs.size)) {s with heap:=h'}):
 wpAny (d5 prog w) A (sa<|.ref z) Q E s:=by
 obtain⟨a,d,⟨c,e,m⟩,p,r⟩:=Z;unfold sa;rcases a with a|⟨U,b,oa,a,ha⟩
 .have Y:s.TypeIs (.ref z) "zip":=(_,a,rfl)
  refine Th (tq (Ux Y UZ (qj UZ Y z8
   (V7 D a d m p r R S hx hy λg f F h i k G O=>Ts ?_) (zr _))))
  refine hQ g (.inr (_,cL,_,f,k),O _ _ D.TIz D.TITO D.TIi1 D.TIi2 d,(_,_,F),h,i) k λc o I q=>?_;simp only[Tz,TQ,or_false,not_or]at I;exact O c o I.1 I.2.2.1 I.2.2.2.1 I.2.2.2.2 q
 .have Y:s.TypeIs (.ref z) "zip":=(_,a,rfl)
  refine Th (tq (Ux Y UZ (qj UZ Y z8
   (mz D a ha d p r R S hx hy λg f h i k G O=>Ts ?_) (zr _))))
  have ad:∃l,g.get? U=cz l:=by
   by_cases t:U=z
   .exact(_,(congrArg g.get? t).trans f)
   .by_cases u:U=j
    .obtain⟨o,e,_⟩:=h.obj;exact(o,u ▸ e)
    .by_cases C:U=B
     .obtain⟨o,e,_⟩:=i.obj;exact(o,C ▸ e)
     .exact(oa,O U oa t u C ha)
  obtain⟨l,ad⟩:=ad;refine hQ g (.inr (U,cC,l,f,ad),O _ _ D.TIz D.TIi1 D.TIi2 d,(_,_,O _ _ D.TOz D.TOi1 D.TOi2 m),h,i) k λc o I q=>?_;simp only[Tz,TQ,or_false,not_or]at I;exact O c o I.1 I.2.2.2.1 I.2.2.2.2 q
end
theorem tW.keep{k1 k2:Sk}{z TI TO j B a b:di}{n:Nat}{h h':eK}(Z:tW k1 k2 z TI TO j B a b n h)(k:∀c ∈ [z,TI,TO,j,B],∀o,h.get? c=cz o->h'.get? c=cz o)(e:∀c o,h.get? c=cz o->∃E,h'.get? c=cz E):tW k1 k2 z TI TO j B a b n h':=by
 obtain⟨y,O,⟨c,d,Q⟩,U,Y⟩:=Z;refine(?_,k TI () _ O,(c,d,k TO () _ Q),U.at<|k j (),Y.at<|k B ());rcases y with y|⟨I,bb,oa,y,a2⟩
 .exact .inl<|k z () _ y
 .obtain⟨f,g⟩:=e I oa a2
  exact .inr (I,bb,f,k z () _ y,g)
theorem oo{h:eK}{o j:lU}{c:di}(y:c≠h.objs.size)(q:(h.push o).get? c=cz j):h.get? c=cz j:=by unfold Heap.get? TF at q;unfold Heap.get?;simp only[Array.getElem?_push,DJ y]at q;exact q
theorem AN{j B P H:Hp}(E:Ext j B P H)(Y:B S=none)(Z:P S=none)(Q:H p=none)(U:p≠S):Ext j B (upd P p o) (upd (upd H p o) S o'):=by
 refine(E.s0.trans<|ju (jy E.sub Q) o,λb u q=>?_,λb u q=>?_,λb I O=>?_)
 .have I:=E.s1 b u q
  rw[zJ (λz=>by lia),zJ (λz=>by lia)];exact I
 .by_cases z:b=p
  .subst z
   rw[zF]at q;rw[zJ U,zF];exact q
  .rw[zJ z]at q
   rw[zJ (λy=>by lia),zJ z];exact E.sub b u q
 .rw[zJ (λz=>by
   cases q:B b with
   |none=>exact O q
   |some u=>have:=E.s1 b u q;lia)]
  exact E.new b I O
section
variable{X:Cx}{pins:TW}{σ:St}{A:l6}{R:Result->el->Prop}{G8 Hb:Hp}{k1 k2:Sk}{z TI TO i1 i2 a b S:di}{xs ys:List V}{ds es:List D}{res:dj}
theorem nV{K:Ti}{H:Hp}{d e:D}{x y:V}{p:di}(I:Rep K H d x)(O:Rep K H e y)(Q:H p=cz (.tup [x,y])):Rep K H (.tup [d,e]) (.ref p):=
 (p,[x,y],rfl,.inl<|.inl Q,.cons I<|.cons O .nil)
theorem zeb(hh:A.handled=none)(DA:tX z TI TO i1 i2 a b)(hS:Hb S=none):∀m n s H j P vs,n+m=(ds.zip es).length->
 Inv X pins σ H s->Ext G8 Hb j H->j S=none->h5 k1 X.K j a xs->h5 k2 X.K j b ys->dn X.K j ds xs->dn X.K j es ys->dn X.K j P vs->(∀c ∈ [z,TI,TO,i1,i2],Jg X pins H c)->tW k1 k2 z TI TO i1 i2 a b n s.heap->H S=cz (.lst vs)->vs.length+m<=eB->
 (∀Y H' B a0,Inv X pins σ H' Y->Ext G8 Hb B H'->B S=none->H' S=cz (.lst a0)->dn X.K B (P++(wC ds es).drop n) a0->R (.ok<|.ret res) Y)->
 codeAny (d5 X.prog X.w) A (.builtin "list.extend.loop" ([.ref S,.ref z,res],[])) R s:=by
 intro m
 induction m with
 |zero=>
  intro n s H j P vs N I E g i l r t ra p Z M hz hR;obtain⟨b3,u,T,z1⟩:=I.sq<|kj E.sub i;obtain⟨b4,C,W,z2⟩:=I.sq<|kj E.sub l;have l1:=u.length;have l2:=C.length;have l3:=r.length;have l4:=t.length;simp only[List.length_zip,G5]at N;refine EB F.entry_extend_loop ?_;refine Th<|HD hh DA Z T W (by rw[N];rcases Nat.le_total ds.length es.length with q|q;left;simp;lia;right;simp;lia) λh' k=>?_;refine Ts<|hR _ H j vs (I.ro k p) E g M ?_;rw[L' (by unfold wC;grind),E7];exact ra
 | succ m ih=>
  intro n s H j P vs N I E g i l r t ra p Z M hz hR;obtain⟨b3,u,T,z1⟩:=I.sq<|kj E.sub i;obtain⟨b4,C,W,z2⟩:=I.sq<|kj E.sub l;have h:n<(ds.zip es).length:=()
  simp only[List.length_zip]at h;have hk:ds[n]? = cz (ds[n]'(TC h<|Nat.min_le_left ..)):=To _;have hy:es[n]? = cz (es[n]'(TC h<|NB ..)):=To _;obtain⟨x,ex,rx⟩:=r.get hk;obtain⟨y,ey,ry⟩:=t.get hy;obtain⟨u1,bd,be⟩:=u.get ex;obtain⟨u2,bf,bg⟩:=C.get ey;have am:=I.fresh;have ad:s.heap.objs.size≠S:=λq=>by lia
  refine EB F.entry_extend_loop ?_;refine Th<|CQ DA Z T W (by simpa using bd) (by simpa using bf) λh' Z' hP k=>?_;have np:∀c ∈ [z,TI,TO,i1,i2],c≠s.heap.objs.size:=λc O q=>by
   obtain⟨U,bl,⟨c',e',bm⟩,g1,g2⟩:=Z;obtain⟨o1,G,_⟩:=g1.obj;obtain⟨o2,e2,_⟩:=g2.obj;have L:∃o,s.heap.get? z=cz o:=by
    rcases U with U|⟨_,_,_,U,_⟩
    .exact(_,U)
    .exact(_,U)
   obtain⟨zhD,L⟩:=L;simp only[Tz,TQ,or_false]at O;rcases O with rfl|rfl|rfl|rfl|rfl
   .exact absurd q<|TU<|TH L
   .exact absurd q<|TU<|TH bl
   .exact absurd q<|TU<|TH bm
   .exact absurd q<|TU<|TH G
   .exact absurd q<|TU<|TH e2
  have an:∀c ∈ [z,TI,TO,i1,i2],Jg X pins (upd H s.heap.objs.size<|.tup [x,y]) c:=λc O=>Kl (p c O)<|np c O;have I2:=(I.laid (t':=s.toks) (λb o e=>Tj _ e) (Tv _)<|show nj X.prog X.w _ _ _ (.tup [x,y])from((show 2<=eB by decide),[u1,u2],.cons be<|.cons bg .nil,sj.new _ _)).ro (h':=h') (t':=s.toks) (fp:=[z,TI,TO,i1,i2]) (λc o O q=>by
   by_cases e:c=s.heap.objs.size
   .rw[e]at q ⊢
    rw[Tw _ rfl]at q;lia
   .exact k c o O<|oo e q) an
  have as:upd H s.heap.objs.size (.tup [x,y]) S=cz (.lst vs):=by rw[zJ (Ue ad)];exact M
  refine Tf λkZ=>?_;obtain⟨zz,d,c0,zeC,ll,J⟩:=I2.rG as;refine kZ ?_;show wpAny _ A.in1 (ML S (·.push (.ref s.heap.objs.size)) >>= _) _ _ _;refine Th ?_;refine EA J rfl (Ts (plainId_quiet F.plain_extend_loop _,?_)) (by rw[TK];lia) (by show(d.toArray.push _).size<=eB+1;rw[Array.size_push,TK];lia);have nS:∀c ∈ [z,TI,TO,i1,i2],c≠S:=λc O q=>by have:=(p c O).1;lia
  have Q:ft j (upd j s.heap.objs.size<|.tup [x,y]):=ju (jy E.sub am) _;refine ih (n+1) _ _ _ (P++[.tup [ds[n],es[n]]]) (vs++[.ref s.heap.objs.size]) () (I2.uZ (t':=s.toks) (f:=(·.push (.ref s.heap.objs.size))) (its':=d++[.ref s.heap.objs.size]) (ys:=vs++[.ref s.heap.objs.size]) as J () (zeC.append<|.cons (show L2.RelV (.ref s.heap.objs.size) (.ref s.heap.objs.size)from rfl) .nil)<|by rw[UD,C9];lia) (AN E hS g am ad) (by rw[zJ (Ue ad)];exact g) (kj Q i) (kj Q l) (r.mono Q) (t.mono Q) ((ra.mono Q).append (.cons (nV (rx.mono Q) (ry.mono Q) zF) .nil)) (λc O=>Kl (an c O)<|nS c O) ?_ zF (by rw[UD,C9];lia) λY H' B a0 I4 E4 y1 y2 y3=>hR Y H' B a0 I4 E4 y1 y2 ?_
  .refine Z'.keep (λc O o q=>(Ur _ _<|Ue<|nS c O).trans q) λc o q=>?_
   by_cases e:c=S
   .exact(_,by rw[e];exact A5 _ J rfl)
   .exact(o,(Ur _ _<|Ue e).trans q)
  .have G:(wC ds es).drop n=.tup [ds[n],es[n]]::(wC ds es).drop (n+1):=by
    rw[M1 (by unfold wC;simpa using h)];congr 1;simp[wC]
   rw[G];rw[X']at y3;exact y3
theorem gJ:DU (.type "zip") "__len__" = pure none:=by rw[Td,R6];kernel_rfl
theorem bj:DU (.type "zip") "__length_hint__" = pure none:=by rw[Td,R6];kernel_rfl
theorem lW{Q:EQ}{B H:Hp}{s:el}(I:Inv X pins σ H s)(hh:X.A.handled=none)(E:Ext G8 Hb B H)(DA:tX z TI TO i1 i2 a b)
 (h1:h5 k1 X.K B a xs) (h2:h5 k2 X.K B b ys) (r1:dn X.K B ds xs) (r2:dn X.K B es ys) (Z:tW k1 k2 z TI TO i1 i2 a b 0 s.heap) (hz:pw s.heap z TI TO .none) (hf:∀c ∈ [z,TI,TO,i1,i2],Jg X pins H c) (hl:(ds.zip es).length<=eB)
 (hQ:∀U P j S Y,Hb S=none->Inv X pins σ P U->Ext G8 Hb j P->j S=none->P S=cz (.lst Y)->dn X.K j (wC ds es) Y->Q (.ref S) U):wpAny (d5 X.prog X.w) X.A (call (.type "list") [.ref z]) Q X.xe s:=by
 have n:=I.fresh;have u:=xW E.s1 n;refine U4 (Q₁:=λobj g=>obj=.ref s.heap.objs.size/\g = {s with heap:=s.heap.push {cls:=.type "list",data:=.seq #[]}}) F.called_list (F.typeCall_list_1 _) F.entry_list_init (code_list_new _ (rfl,rfl)) ?_;rintro obj g ⟨rfl,rfl⟩;have O:(s.heap.push {cls:=.type "list",data:=.seq #[]}).get? s.heap.objs.size=cz {cls:=.type "list",data:=.seq #[]}:=Tw _ rfl;have nd:∀c ∈ [z,TI,TO,i1,i2],c≠s.heap.objs.size:=λc y q=>by
  obtain⟨R,as,⟨W,e',J⟩,g1,g2⟩:=Z;obtain⟨o1,l,_⟩:=g1.obj;obtain⟨o2,m,_⟩:=g2.obj;simp only[Tz,TQ,or_false]at y;rcases y with rfl|rfl|rfl|rfl|rfl
  .exact absurd q<|TU<|TH hz
  .exact absurd q<|TU<|TH as
  .exact absurd q<|TU<|TH J
  .exact absurd q<|TU<|TH l
  .exact absurd q<|TU<|TH m
 refine((_,O,rfl),F.args_list_init_2 _ _,?_);refine Th ?_;unfold Builtin.List.listItems;refine Th (nr O rfl (Ts ?_));show wpAny _ _ (ML s.heap.objs.size (λ_=>#[]) >>= λ_=>letGo (#[]).toList.reverse >>= λ_=>J' (.ref s.heap.objs.size) (.ref z) .none) _ _ _;refine Th (EA O rfl ?_);have p:=(I.Px (t':=s.toks) .nil (UU _)).uZ (t':=s.toks) (f:=λ_=>#[]) (its:=[]) (its':=[]) (xs:=[]) (ys:=[]) zF O rfl .nil (UU _);rw[vf]at p;have h:=A5 (US (λ_=>(#[]:Array dj))) O rfl;refine Th (tw ?_);unfold J';have i c o:c≠s.heap.objs.size->s.heap.get? c=cz o->((s.heap.push {cls:=.type "list",data:=.seq #[]}).update s.heap.objs.size (US (λ_=>(#[]:Array dj)))).get? c=cz o:=λy q=>(Ur _ _ (Ue y)).trans (Tj _ q);have d:=i z _ (nd z ()) hz;refine Th (uG (T:="zip") (_,d,rfl) ?_);have l:Builtin.List.listSameRef (.ref s.heap.objs.size) (.ref z)=cL:=by have:=nd z ();simp[Builtin.List.listSameRef,Ue this]
 have m:(uF "zip" == uF "list")=cL:=by decide
 have L:(uF "zip" == uF "tuple")=cL:=by decide
 simp only[l,m,L,Bool.or_false,UN,if_false];refine Th (ND d ?_);refine Th (q8 ?_);unfold Builtin.List.listLengthHint;refine Th (wpAny_specialOf (T:="zip") (_,d,rfl) gJ ?_);show wpAny _ _ (specialOf (uD z) (px "__length_hint__") >>= _) _ _ _;refine Th (wpAny_specialOf (T:="zip") (_,d,rfl) bj ?_);refine Ts ?_;show wpAny _ _ (rule "list.extend.makes-room" >>= λ_=>Builtin.List.listTouch (.ref s.heap.objs.size) >>= λ_=>
  again (.builtin "list.extend.loop" ([.ref s.heap.objs.size,.ref z,.none],[]))) _ _ _
 refine Th<|sQ ?_;refine Th ?_;show wpAny _ _ (ML s.heap.objs.size (·.push .none) >>= λ_=>ML s.heap.objs.size (·.pop)) _ _ _;refine Th<|EA h rfl ?_;have k:=A5 (US (·.push ng)) h rfl;have r:=p.uZ (t':=s.toks) (f:=(·.push ng)) (its:=[]) (its':=[.none]) (xs:=[]) (ys:=[.d7]) zF h rfl (.cons (show L2.RelV .d7 .none from rfl) .nil) ();rw[vf]at r;refine EA (hz:=by seq_fits) k rfl ?_;have t:=r.uZ (t':=s.toks) (f:=(·.pop)) (its:=[.none]) (its':=[]) (xs:=[.d7]) (ys:=[]) zF k rfl .nil ();rw[vf]at t;refine Ts (plainId_quiet F.plain_extend_loop _,?_);refine zeb (A:=X.A.in1) (ds:=ds) (es:=es) (xs:=xs) (ys:=ys) (k1:=k1) (k2:=k2) (show X.A.in1.handled=none from hh) DA u (ds.zip es).length 0 _ (upd H s.heap.objs.size<|.lst []) B [] [] (pz _) t (E.trans<|Ext.hide E.sub n _) (jy E.sub n) h1 h2 r1 r2 .nil (λc y=>Kl (hf c y)<|nd c y) ?_ zF (by simpa using hl) λU P j Y G C M N x=>?_
 .refine Z.keep (λc y o q=>(Ur _ _<|Ue<|nd c y).trans ((Ur _ _<|Ue<|nd c y).trans (i c o (nd c y) q))) λc o q=>?_
  .by_cases e:c=s.heap.objs.size
   .exact(_,by rw[e];exact(A5 (US (·.pop)) k rfl))
   .exact(o,(Ur _ _<|Ue e).trans ((Ur _ _<|Ue e).trans (i c o e q)))
 .rw[Dj,List.drop_zero]at x
  exact(rfl,hQ U P j _ Y u G C M N x)
end
section
variable{X:Cx}{sc:h6}{N L:List Str}{k:Nat}{a b:d8}{f g:CO D}{p p2 pos s7:f9}
theorem zfr(h:SX X sc N L k)(P:wQ sc "list" = cC)(zd:X.mg "list" = none)(R:wQ sc "zip" = cC)(zz:X.mg "zip" = none)(ha:PV X a f)(hb:PV X b g)
 (hs:ed [.Call (.Name "zip" p2) [a,b] [] s7] X.env=[(cL,dy (.Call (.Name "zip" p2) [a,b] [] s7) X.env)]:=by rfl)
 (j:ed [a,b] X.env=[(cL,dy a X.env),(cL,dy b X.env)]:=by rfl) (U:ed [b] X.env=[(cL,dy b X.env)]:=by rfl):
 PO X (.Call (.Name "list" p) [.Call (.Name "zip" p2) [a,b] [] s7] [] pos) (nH f g):=by
 intro m s σ H Q I hZ;refine Tf λY=>?_;obtain⟨u,o,d,n,y,q⟩:=hZ;obtain⟨⟨k1,J⟩,ad,y⟩:=ze y;obtain⟨G,K,T⟩:=ze ad;obtain⟨⟨k2,es⟩,C,y⟩:=ze y;obtain⟨F,M,W⟩:=ze C;refine Y ?_;dsimp only at y;by_cases l:J.length<=lim
 .rw[DZ l]at y
  cases y;refine C8<|yc I (h.gl P).1 zd PyProof.Rows.boot_list (Ut ?_ (by rfl) rfl) () ();rw[hs];show wpAny _ _ (PX (_::[])) _ _ s;refine zj<|AO (xs:=[]) (ys:=[]) I (h.gl R).1 zz (zZ ha (zZ hb j7 U)<|by rw[j,U]) ?_ j U;refine(u,o,G,n,K,λv i e x r=>(e,o,F,n.ext x,M,λv2 H2 be O r2=>?_));refine Tf λY=>?_;obtain⟨A,xs,rfl,g1,g2⟩:=ZS (r.mono O.s0) T;obtain⟨B,ys,rfl,g3,g4⟩:=ZS r2 W;refine Y ?_;refine(k1,k2,A,B,rfl,(xs,kj O.sub g1),(ys,kj O.sub g3),λs2 z TI TO i1 i2 w t Z hz hf=>F0 ?_);refine lW w (I.ok.hd h.calm) (x.trans O) t g1 g3 g2 g4 Z hz hf ?_ λs' i e S E zf1 y1 y2 y3 y4 y5=>(.ref S,i,y1,rfl,q S E i e y2 zf1 y3 y4 y5)
  .have:lim<=eB:=by decide
   grind
 .rw[DJ l]at y;cases y
end
theorem WX:DU (.type "list") "keys" = pure none:=by rw[Td,R6];kernel_rfl
theorem KZ:entryFor table "list.__getattribute__" = cz n6.«object.__getattribute__» :=
 entryFor_alias (id':="object.__getattribute__") (by kernel_rfl) (by rfl) () (by kernel_rfl)
section
variable{prog:hH}{w:hB}{A:l6}{E:EQ}{h:eK}{g:Array GenState}{d:Drawn}{t:Nat}{os:OsState}{a:di}
theorem X8(Y:h.get? a=cz (.type "list",none,.seq vs nk,sl))(Z:A.handled=none)
 (hE:∀h' e t',(∀b u,h.get? b=cz u->h'.get? b=cz u)->(∃O,h'.get? e=cz O/\O.cls=.type "AttributeError")->E (.ref e) (h',g,d,t',os)):
 wpAny (d5 prog w) A (n6.«object.__getattribute__» ([.ref a,.str "keys" tk],[])) Q E (h,g,d,t,os):=by
 have l:((h,g,d,t,os):el).TypeIs (.ref a) "list":=(_,Y,rfl);have j:=WX
 repeat (any_goals (first|assumption|wp_step))
 unfold raiseAttrError;have f:((px (toString "'" ++ toString ((Manifest.find? "list").elim "list" λx=>x.tpName)++toString "' object has no attribute '")++px "keys" ++ px "'"):Str).length<=eB:=by decide +kernel
 generalize (px (toString "'" ++ toString ((Manifest.find? "list").elim "list" λx=>x.tpName)++toString "' object has no attribute '")++px "keys" ++ px "'")=y at f ⊢;refine Th (wpAny_mkStr ?_);refine Th ?_;unfold newExc newTuple;refine Th (tr ?_ (by size_fits));refine Th (m:=firstArgMember _ _) (wpAny_of_eq (a:=ng) (by rfl) ?_);refine tr ?_ (by size_fits);simp only[Ui];have I:((h.push {cls:=.type "tuple",data:=.seq #[.str y t]}).push {cls:=.type "AttributeError",data:=.fields (#[.ref h.objs.size,.none,.none,.none,.bool cL,.none]++PN (.type "AttributeError") [.str y t])}).get? (h.objs.size+1) =
  cz {cls:=.type "AttributeError",data:=.fields (#[.ref h.objs.size,.none,.none,.none,.bool cL,.none]++PN (.type "AttributeError") [.str y t])}:=by heap_get
 have U b u:h.get? b=cz u->((h.push {cls:=.type "tuple",data:=.seq #[.str y t]}).push {cls:=.type "AttributeError",data:=.fields (#[.ref h.objs.size,.none,.none,.none,.bool cL,.none]++PN (.type "AttributeError") [.str y t])}).get? b=cz u:=λe=>Tj _ (Tj _ e);generalize ((h.push {cls:=.type "tuple",data:=.seq #[.str y t]}).push {cls:=.type "AttributeError",data:=.fields (#[.ref h.objs.size,.none,.none,.none,.bool cL,.none]++PN (.type "AttributeError") [.str y t])})=h2 at I U ⊢;refine Th (wpAny_mkText ?_);unfold noteAttr lacksNameAndObj;have i:((h2,g,d,t+1+1,os):el).TypeIs (.ref (h.objs.size+1)) "AttributeError":=(_,I,rfl);have k:isSubtype (.type "AttributeError") (.type "AttributeError")=pure cC:=by rfl
 repeat (any_goals (first|assumption|with_reducible refine wpAny_loadPart_at I ?_|with_reducible refine wpAny_load I ?_|wp_step))
 refine wpAny_raiseNew_none Z<|hE _ _ _ (λb u e=>?_) (_,A5 _ I<|Obj.isFreed_of_fields<|V_ rfl _,Obj.cls_mapFields ..);rw[Ur _ _ (λq=>by rw[<-q]at e;rw[(Heap.get?_none_of_le<|uH _)]at e;cases e)];exact U b u e
theorem KU(y:h.get? a=cz (.type "list",none,.seq vs nk,sl))(O:A.handled=none)
 (Q:∀h' e t',(∀b u,h.get? b=cz u->h'.get? b=cz u)->(∃I,h'.get? e=cz I/\I.cls=.type "AttributeError")->R (.error (.ref e)) (h',g,d,t',os)):
 codeAny (d5 prog w) A (.call (.builtin "list.__getattribute__") ([.ref a,.str "keys" tk],[])) R (h,g,d,t,os):=
 codeAny_call_builtin Rc.plain KZ (Rc.check _ _ _ _ _ _ _ _ ((_,y,rfl)) (F.args_list_getattribute_2 _ _)<|X8 y O Q)
theorem iY:DU (.type "list") "__getattr__" = pure none:=by rw[Td,R6];kernel_rfl
theorem WY(I:h.get? a=cz (.type "list",none,.seq vs nk,sl))(O:A.handled=none)
 (U:∀h' t',(∀b u,h.get? b=cz u->h'.get? b=cz u)->Q none (h',g,d,t',os)):wpAny (d5 prog w) A (getAttr? (.ref a) "keys") Q E (h,g,d,t,os):=by
 have f2:=Rc.lookup;have k:=Rc.bind (.ref a);have l:=iY;have m:isSubtype (.type "AttributeError") (.type "AttributeError")=pure cC:=by rfl
 unfold getAttr? getAttrBy? getAttrBy
 repeat (any_goals (first|assumption|wp_step))
 refine KU I O λh' e t' Y y=>?_;obtain⟨Z,y,f⟩:=y;have i:((h',g,d,t',os):el).TypeIs (.ref e) "AttributeError":=(Z,y,f);have j:=U h' t' Y;show wpAny _ _ (H? _ _ _ _ _ _ _) _ _ _;unfold H? hookOrError attributeErrorLeaves
 repeat (any_goals (first|assumption|wp_step))
end
noncomputable def vi:List D->Option (List D×List D)
 |[]=>cz ([],[])
 | d::r=>match d with
  |.tup a=>match a with
   |[k,v]=>(vi r).map λp=>(k::p.1,v::p.2)
   |_=>none
  |_=>none
def BL(f:CO (List D))(γ:Ctx):Option D:=(f γ).bind λa=>(vi a).bind λp=>AX p.1 p.2
@[simp] noncomputable def zgG:=@BL.eq_1
def Nq(j z:CO D):CO D:=λa=>(j a).bind λd=>(z a).bind λk=>match d with
 |.mc b e=>(m4 k).bind λi=>fP b e i
 |_=>none
def Iu(z j:CO D):CO D:=λa=>(z a).bind λk=>(j a).bind λd=>match d with
 |.mc b e=>(m4 k).map λi=>.bl (fP b e i).isSome
 |_=>none
section
variable{X:Cx}{pins:TW}{σ:St}{A:l6}{R:Result->el->Prop}{H0:Hp}{l it d:di}{ks:List Key}{ys xs:List V}
theorem lQ(hh:A.handled=none)(hx:xs.length=ks.length)(hy:ys.length=ks.length)(hp:∀n h1 (h2:n<ks.length) (h3:n<ys.length),∃p,xs[n]=.ref p/\fA X.K H0 p [kV ks[n],ys[n]])(bm:H0 d=none)(P:l≠d):∀m n s H j i t,n+m=ks.length->
 Inv X pins σ H s->ft H0 H->H l=cz (.lst xs)->s.heap.IsListIter it l n->Jg X pins H it->H d=cz (.dK j)->j.length+m<=eB->
 (∀Q,Inv X pins σ (upd H d<|.dK<|uu j<|(ks.zip ys).drop n) Q->R (.ok<|.ret .none) Q)->
 codeAny (d5 X.prog X.w) A (.builtin "dict.update.loop" ([.ref d,.ref it,.int i t,.none],[])) R s:=by
 intro m
 induction m with
 | zero=>
  intro n s H j i t hn I sub U st O f hz hR;obtain⟨z1,g,c,J,ll,Y⟩:=I.rG U;refine EB xZ ?_;refine Th<|_q hh st (_,Y,rfl,_,rfl) (by simp;lia) λh' eb=>?_;refine Th<|Ts ?_;have e0:upd H d (.dK<|uu j<|(ks.zip ys).drop n)=H:=by
   rw[L' (by grind)];funext c;by_cases q:c=d
   .rw[q,zF,f];rfl
   .rw[zJ q]
  rw[e0]at hR;exact Ts (hR _<|I.ro (fp:=[it]) (λb o y e=>eb b o (by simpa using y) e)<|λb y=>by rw[vt.mp y];exact O)
 | succ m ih=>
  intro n s H j i t hn I sub U st O f hz hR;obtain⟨z1,g,c,J,ll,Y⟩:=I.rG U;have N:n<ks.length:=by grind
  obtain⟨p,ep,S⟩:=hp n () N ();obtain⟨u,hu,G⟩:=J.get (To<|show n<xs.length by lia);rw[ep]at G;subst G;refine EB xZ ?_;refine Th<|_k (s:=s) st (_,Y,rfl,_,rfl) (x:=.ref p) (by simpa using hu) λh' as sb=>?_;have Z:=I.ro (h':=h') (t':=s.toks) (fp:=[it]) (λb o y e=>(sb.2 b<|by simpa using y).trans e) (λb y=>by rw[vt.mp y];exact O);refine Tf λh=>?_;obtain⟨ts,rt,⟨o,C,co,nn,T⟩,zf5⟩:=Z.tuple<|i7 sub S;obtain⟨a,r,rfl,W,k⟩:∃a r,ts=a::r/\RelV (kV ks[n]) a/\eo [ys[n]] r:=by
   cases rt with
   |cons q1 k=>exact(_,_,rfl,q1,k)
  obtain⟨L,rfl,b4⟩:=vJ k;refine h ?_;refine Th<|q8<|Th<|wpAny_tryCatch ?_;unfold Builtin.Dict.pairItems;refine Th<|uG (_,C,co) ?_;rw[DZ ()];refine Th<|nr C T<|Ts ?_;show wpAny _ _ (qs [a,L] (dictSet d a L)) _ _ _;refine Tf λh=>?_;obtain⟨zz,b6,vs,z,dd⟩:=Pu Z.eC f;refine h ?_;have b8:(mj j ks[n] ys[n]).length<=eB:=by have:=Ka j ks[n] ys[n];lia
  refine q8<|wpAny_dictSet_pairs (hsz:=(by rw[<-z.length];exact zz)) (Az W) dd λbt B E=>?_;have F:it≠d:=λq=>by have:=O.1;lia
  refine Ts (xQ _,ih (n+1) _ _ (mj j ks[n] ys[n]) (i+1) 0 () (GC (t':=s.toks+1) Z (by rw[f];exact tE) E (let (q,_,_,hq,_):=B;(q,hq))<|MH b8 b6 (z.put ks[n] b4) B) (λc o e=>?_) (by rw[zJ P];exact U) (as.at λo q=>(E.2 it F).trans q) (by rw[zJ F];exact O.1,O.2) zF (by have:=Ka j ks[n] ys[n];lia) λQ M=>hR Q ?_)
  .rw[zJ (λq=>by lia)];exact sub _ _ e
  .have e1:(ks.zip ys).drop n=(ks[n],ys[n])::(ks.zip ys).drop (n+1):=by
    rw[M1 (by simp;lia)];simp
   have e2:upd (upd H d<|.dK<|mj j ks[n] ys[n]) d (.dK<|uu (mj j ks[n] ys[n])<|(ks.zip ys).drop (n+1))=upd H d (.dK<|uu j<|(ks.zip ys).drop n):=by
    funext c;by_cases q:c=d
    .simp only[q,zF,zF,e1];rfl
    .simp only[zJ q,zJ q,zJ q]
   rw[<-e2];exact M
theorem lY(I:Inv X pins σ H s)(Z:X.A.handled=none)(sub:ft H0 H)(j:H l=cz (.lst xs))(E:xs.length=ks.length)(P:ys.length=ks.length)
 (B:∀n S (h2:n<ks.length) (h3:n<ys.length),∃p,xs[n]=.ref p/\fA X.K H0 p [kV ks[n],ys[n]]) (hz:ks.length<=eB)
 (z:∀y p,H p=none->Inv X pins σ (upd H p (.dK (uu [] (ks.zip ys)))) y->Q (.ref p) y):wpAny (d5 X.prog X.w) X.A (call (.type "dict") [.ref l]) Q X.xe s:=by
 have O:=I.fresh;have f:l≠s.heap.objs.size:=λq=>by lia
 refine U4 (Q₁:=λobj a=>obj=_/\a=_) F.kt_called_dict (F.kt_typeCall_dict_1 _) F.entry_dict_init (kt_code_dict_new _ (rfl,rfl)) ?_;rintro obj a ⟨rfl,rfl⟩;have g:({s with heap:=s.heap.push {cls:=.type "dict",data:=.dict #[]}}).TypeIs (.ref _) "dict":=(_,Tw _ rfl,rfl);refine Tf λm=>?_;obtain⟨u,i,c,t,r,h⟩:=I.rG j;refine m ?_;have U:(s.heap.push {cls:=.type "dict",data:=.dict #[]}).get? l=_:=Tj _ h;refine(g,F.args_dict_init_2 _ _,?_);refine Th ?_;unfold Builtin.Dict.selfAndRest;refine Th (zfW g ?_);refine Ts ?_;show wpAny _ _ (Rh "dict.__init__" _ (.ref l) [] .none) _ _ _;unfold Rh;refine Th (uG (_,U,rfl) ?_);rw[DZ ()];refine Th (WY U Z λh' t' k=>?_);have Y:Inv X pins σ _ {s with heap:=h',toks:=t'}:=(I.laid (t':=s.toks) (λ_ _ q=>Tj _ q) (Tv _) (AV s.heap I.big)).kept k;refine Th (sQ (Th (Rl (_,k _ _ U,rfl,_,rfl) ?_)));refine Ts (xQ _,?_);refine lQ (show X.A.in1.handled=none from Z) E P B (jy sub O) f ks.length 0 _ _ [] 0 0 (pz _) (Y.kept (h':=h'.push {cls:=.type "list_iterator",data:=.fields #[.ref l,.int 0 0]}) (t':=t') λb o e=>Tj _ e) (sub.trans (ju O _)) (by rw[zJ f];exact j) (_,Tw _ rfl,rfl,rfl) (Y.r6 (Tv _) Y.fresh) zF (by simpa using hz) λy d=>?_;rw[vf,List.drop_zero]at d;exact(rfl,z y _ O d)
end
theorem Wd:∀{ps j vs:List D},vi ps=cz (j,vs)->j.length=ps.length/\vs.length=ps.length
 |[],j,vs,h=>by cases h;exact(rfl,rfl)
 | d::r,j,vs,h=>by
  unfold vi at h;split at h
  .split at h
   .obtain⟨⟨a,b⟩,e,y⟩:=zB h
    cases y;obtain⟨f,g⟩:=Wd e;exact(by simp[f],by simp[g])
   lia
  lia
theorem K6{K:Ti}{H:Hp}:∀{ps B vs:List D} {xs:List V} {z:List Int},vi ps=cz (B,vs)->dn K H ps xs->Kg B=cz z->
 ∃ys,dn K H vs ys/\ys.length=z.length/\xs.length=z.length/\∀n y (O:n<z.length) (I:n<ys.length),∃p,xs[n]=.ref p/\fA K H p [.int z[n],ys[n]]
 |[],B,vs,xs,z,h,r,hi=>by cases h;cases hi;rw[r.o8];exact([],dn.nil,rfl,rfl,λn y=>by cases y)
 | d::ps,B,vs,xs,z,h,r,hi=>by
  unfold vi at h;split at h
  .split at h
   .rename_i k v
    obtain⟨⟨a,b⟩,e,Q⟩:=zB h;cases Q;obtain⟨x,E,rfl,y,O⟩:=r.l9;cases k with
    |int j=>
     refine Tf λU=>?_;obtain⟨C,Y,Z⟩:=zB hi;subst Z;obtain⟨ys,o,s,t,u⟩:=K6 e O Y;obtain⟨q,J,rfl,I,f⟩:=yt y;obtain⟨F,G,rfl,g,i⟩:=f.l9;obtain⟨w,A,rfl,l,m⟩:=i.l9;refine U ?_;rw[m.o8,jP g]at I;refine(w::ys,dn.cons l o,by simp[s],by simp[t],λn g1 g2 g3=>?_);cases n with
     |zero=>exact(q,rfl,I)
     |succ n=>exact u n (by simpa using g1) (by simpa using g2) (by simpa using g3)
    |_=>cases hi
   lia
  .cases h
section
variable{X:Cx}{sc:h6}{N L:List Str}{k:Nat}{a o i:d8}{f:CO (List D)}{fd fk:CO D}{p pos:f9}
theorem zfI(h:SX X sc N L k)(P:wQ sc "dict" = cC)(zd:X.mg "dict" = none)(ha:PO X a f)(hs:ed [a] X.env=[(cL,dy a X.env)]:=by rfl):
 PV X (.Call (.Name "dict" p) [a] [] pos) (BL f):=by
 intro i s σ H Q I r;refine Tf λw=>?_;obtain⟨z,γ,d,E,O,q⟩:=r;obtain⟨C,G,O⟩:=ze O;obtain⟨⟨e,J⟩,A,O⟩:=ze O;refine w ?_;unfold AX at O;cases hi:Kg e with
 |none=>simp only[show _=e from rfl,hi]at O;cases O
 | some g=>
  rw[show _=e from rfl,hi]at O;dsimp only at O;by_cases u:e.length=J.length/\g.Nodup/\e.length<=lim
  .rw[DZ u]at O
   cases O;refine tI<|yc I (h.gl P).1 zd PyProof.Rows.boot_dict (Ut ?_ (by rw[hs];rfl) rfl);rw[hs];show wpAny _ _ (PX (_::[])) _ _ s;refine zj<|ea (ha i s σ H (λv m=>∃l j U,v=.ref l/\Ext z H U m/\U l=none/\m l=cz (.lst j)/\dn X.K U C j) I (z,γ,C,E,G,λl j m U b g1 g2 g3 Z=>(l,j,U,rfl,b,g2,g3,Z))) λv s1 r=>?_;refine Tf λw=>?_;obtain⟨y,m,F,ry,l,j,U,rfl,b,g2,g3,Z⟩:=r;refine w ?_;cases ry;refine F0 ?_;obtain⟨x,T,W,r3,r4⟩:=K6 A Z hi;have B:(g.map<|pd (β:=Str)).length=g.length:=by simp
   have nl:g.length=e.length:=by have:=(Wd A).1;have:=Z.length;lia
   refine lY F (I.ok.hd h.calm) b.sub g3 (by rw[B];exact r3) (by rw[B];exact W) (λn M R S=>?_) ?_ λs' p o Y=>?_
   .obtain⟨t,t1,t2⟩:=r4 n M (by simpa using R) S
    refine(t,t1,?_);simpa[kV]using t2
   .have:lim<=eB:=by decide
    lia
   .have as:uu [] ((g.map pd).zip x)=(g.map pd).zip x:=by
     rw[Yl _ []]
     .simp
     .rw[Dj,List.map_fst_zip ()]
      exact oZ u.2.1
    rw[as]at Y;obtain⟨of,Y⟩:=Inv.G? Y zF;rw[vf]at Y;exact(.ref p,_,Y,rfl,q (.ref p) _ _ ((b.trans<|Ext.hide b.sub o _).show (xW b.s1 o) (jy b.sub o) zF E.sub)
     ((p,x,rfl,(_,YC hi,(),of,zF),T.mono<|ju (jy b.sub o) _)))
  .rw[DJ u]at O;cases O
theorem IS(h:SX X sc N L k)(Y:PV X o fd)(B:PV X i fk)(hs:Od i:=by intro _ _;rfl):PV X (.Subscript o i pos) (Nq fd fk):=
 qV (Fk (by have:=h.ux;lia) Y B hs) λP H Q Z=>by
  obtain⟨f,e,d,b,I,q⟩:=Z;obtain⟨s,t,I⟩:=ze I;obtain⟨F,u,I⟩:=ze I;cases s with
  |mc J K=>
   obtain⟨j,w,z⟩:=ze I;refine(f,e,_,b,t,λv E l x r=>(l,e,_,b.ext x,u,λy g m O a=>?_));obtain⟨ad,M,rfl,⟨G,g1,g2,C,g3⟩,A⟩:=(r);rw[j3 w]at a;obtain⟨U,n,p⟩:=(VN g1 g2<|A.mono O.s0).1 d z;refine(ad,U,rfl,?_,q U g m (x.trans O) p);rw[a,<-n];exact .inl (_,pd j,.inr (C,O.s1 _ _<|x.sub _ _ g3),rfl,rfl)
  |_=>cases I
theorem ER(h:SX X sc N L k)(P:PV X i fk)(S:PV X o fd)(R:sU .In o=cL:=by with_unfolding_all rfl):l0 X (.Compare i [.In] [o] pos) (sB<|Iu fk fd):=
 bI (IX (Ls (by have:=h.ux;lia) P S) R) λσ H Q F=>by
  obtain⟨g,f,b,e,I,q⟩:=F;obtain⟨db,u,C⟩:=ze I;obtain⟨k1,w,I⟩:=ze u;obtain⟨s,z,I⟩:=ze I;cases s with
  | mc J K=>
   obtain⟨j,A,B⟩:=zB I;subst B;cases C;refine(g,f,_,e,w,λy T l x U=>(l,f,_,e.ext x,z,λv a Y O r=>?_));refine Tf λG=>?_;obtain⟨ad,xs,rfl,⟨kk,g1,g2,Z,g3⟩,E⟩:=(r);refine G ?_;rw[j3 A]at U;have d:=U;obtain⟨m,n⟩:=VN g1 g2 E;cases hv:fP J K j with
   | none=>
    refine(ad,none,rfl,?_,_,rfl,?_)
    .rw[d,<-n hv]
     exact .inl (_,pd j,.inr (Z,O.sub _ _ g3),rfl,rfl)
    .rw[hv]at q;exact q a Y<|x.trans O
   | some t=>
    obtain⟨M,p,W⟩:=m t hv;refine(ad,cz M,rfl,?_,_,rfl,?_)
    .rw[d,<-p]
     exact .inl (_,pd j,.inr (Z,O.sub _ _ g3),rfl,rfl)
    .rw[hv]at q;exact q a Y<|x.trans O
  |_=>cases I
end
def Hr:D->Option (List Int)
 |.tup a=>Kg a
 |_=>none
def Aw:List D->Option (List<|List Int)
 |[]=>cz []
 |d::ds=>(Hr d).bind λk=>(Aw ds).map λr=>k::r
def nM(f:CO (List D))(γ:Ctx):Option D:=(f γ).bind λb=>(vi b).bind λp=>(Aw p.1).bind λa=>if a.Nodup/\a.length<=lim then cz (.lC a p.2)else none
noncomputable def mn:List (List Int)->List D->List Int->Option D
 |k::ks,v::vs,i=>if k=i then cz v else mn ks vs i
 |_,_,_=>none
def nN(j z:CO D)(γ:Ctx):Option D:=(j γ).bind λd=>(z γ).bind λk=>match d with
 |.lC a b=>(Hr k).bind λi=>mn a b i
 |_=>none
def Gg(d k x:D):Option D:=match d with
 |.lC a b=>(Hr k).map λi=>(mn a b i).getD x
 |_=>none
def uf(j z B:CO D)(γ:Ctx):Option D:=(j γ).bind λd=>(z γ).bind λk=>(B γ).bind λx=>Gg d k x
section
variable(γ:Ctx)
@[simp] noncomputable def zgF:=@nM.eq_1
@[simp] noncomputable def zho:=@nN.eq_1
@[simp] noncomputable def zhk:=@uf.eq_1
end
theorem Yy:∀{k:List Int} {j:List dj},eo (k.map V.int) j->PySem.ItemsAre (intKind P w) k j
 |[],j,h=>by cases h;exact .nil
 | i::k,j,h=>by
  cases h with
  |cons y I=>
   obtain⟨t,rfl⟩:=y;exact .cons (by show Value.isInt i (.int i t)=cC;simp[Value.isInt])<|Yy I
section
theorem VH(I:Inv X pins σ H s)(h:fA X.K H b (k.map V.int)):(C7<|intKind X.prog X.w).is s.heap k b:=by refine Tf λy=>?_;obtain⟨a,O,⟨o,Q,U,n,d⟩,_⟩:=I.tuple h;exact y (o,a.toArray,n,Q,U,d,Yy O)
theorem VR(I:Inv X pins σ H s)(e:H a=cz (t4 a o))(d:Hz o xs)(y:∀x∈xs,fA X.K H x.2.1<|x.1.map V.int):s.heap.DictOfH (C7<|intKind X.prog X.w) a xs:=by obtain⟨O,_⟩:=(I.eC a _ e);obtain⟨Q,f,U,Y,Z,b⟩:=d;exact(o,f,U,O,Q,Y,Z,λx g=>VH I<|y x g,b)
theorem LM{h:eK}{P:hH}{w:hB}{a:di}{xs:List (List Int×di×dj)}(d:h.DictOfH (C7<|intKind P w) a xs):∃o,h.get? a=cz o/\Hz o xs:=by obtain⟨o,b,y,I,O,Q,U,_,Y⟩:=d;exact(o,I,O,b,y,Q,U,Y)
end
theorem CH(e:h.get? a=cz o):nj P w H h a (t4 a o):=(e,(o,e),λy I p q=>q o p)
theorem Bj{K:Type} [DecidableEq K]{k:K}:∀{xs:List (K×di×dj)},k∉xs.map (·.1)->rk xs k=none
 |xs,h=>by unfold rk;rw[Option.map_eq_none_iff,FL];intro x y z;exact h<|Uz.mpr (x,y,by simpa using z)
section
theorem lP(hh:A.handled=none)(hu:A.units+8<rZ)(Q:xs.length=ks.length)(hy:ys.length=ks.length)(nd:ks.Nodup)(hz:ks.length<=eB)
 (hp:∀n h1 (h2:n<ks.length) (h3:n<ys.length),∃p b,xs[n]=.ref p/\fA X.K H0 p [.ref b,ys[n]]/\fA X.K H0 b (ks[n].map V.int)) (b2:H0 d=none) (b3:l≠d):∀m n s H o es i t,n+m=ks.length->
 Inv X pins σ H s->ft H0 H->H l=cz (.lst xs)->s.heap.IsListIter it l n->Jg X pins H it->H d=cz (t4 d o)->Hz o es->es.map (·.1)=ks.take n->(∀x∈es,fA X.K H0 x.2.1<|x.1.map V.int)->eo (ys.take n) (es.map (·.2.2))->
 (∀U B Y,Hz B Y->Y.map (·.1)=ks->(∀x∈Y,fA X.K H0 x.2.1<|x.1.map V.int)->eo ys (Y.map (·.2.2))->Inv X pins σ (upd H d<|t4 d B) U->R (.ok<|.ret .none) U)->
 codeAny (d5 X.prog X.w) A (.builtin "dict.update.loop" ([.ref d,.ref it,.int i t,.none],[])) R s:=by
 intro m
 induction m with
 | zero=>
  intro n s H o es i t hn I sub Z st O h E f g M hR;obtain⟨z1,r,c,rv,ll,k⟩:=I.rG Z;refine EB xZ ?_;refine Th<|_q hh st (_,k,rfl,_,rfl) (by simp;lia) λh' eb=>?_;refine Th<|Ts ?_;have e0:upd H d (t4 d o)=H:=by
   funext c;by_cases q:c=d
   .rw[q,zF,h]
   .rw[zJ q]
  have:=hR {s with heap:=h'} o es E (by grind) g (by grind);rw[e0]at this;exact Ts (this<|I.ro (t':=s.toks) (fp:=[it]) (λb o y e=>eb b o (by simpa using y) e)<|λb y=>by rw[vt.mp y];exact O)
 | succ m ih=>
  intro n s H o es i t hn I sub Z st O h E f g M hR;refine Tf λC=>?_;obtain⟨z1,r,c,rv,ll,k⟩:=I.rG Z;have N:n<ks.length:=()
  obtain⟨p,b,ep,b9,P⟩:=hp n () N ();obtain⟨u,bb,ru⟩:=rv.get (To<|show n<xs.length by lia);refine C ?_;rw[ep]at ru;subst ru;refine EB xZ ?_;refine Th<|_k st (_,k,rfl,_,rfl) (by simpa using bb) λh' bd sb=>?_;have a:=I.ro (h':=h') (t':=s.toks) (fp:=[it]) (λb o y e=>(sb.2 b<|by simpa using y).trans e) (λb y=>by rw[vt.mp y];exact O);refine Tf λC=>?_;obtain⟨ts,rt,⟨o1,W,co,nn,bg⟩,zf5⟩:=a.tuple<|i7 sub b9;obtain⟨J,G,rfl,bi,F⟩:∃J G,ts=J::G/\RelV (.ref b) J/\eo [ys[n]] G:=by
   cases rt with
   |cons q1 F=>exact(_,_,rfl,q1,F)
  obtain⟨u2,rfl,bm⟩:=vJ F;refine C ?_;subst bi;refine Th<|q8<|Th<|wpAny_tryCatch ?_;unfold Builtin.Dict.pairItems;refine Th<|uG (_,W,co) ?_;rw[DZ ()];refine Th<|nr W bg<|Ts ?_;have cd:es.length=n:=by have:=congrArg NR f;rw[Ua,E3]at this;lia
  refine q8 (wpAny_dictSet_heap (hsz:=by lia) (show(A.under _).units<rZ from by rw[show(A.under (Code.builtin "dict.update.loop" _)).units=A.units+1 from rfl];omega) (VH a (i7 sub P)) (VR a h E λx Q=>i7 sub (g x Q)) λbn S hs=>?_);rw[storedH_new (Bj (by
   rw[f];intro z;obtain⟨j,hj,e⟩:=M7 z;rw[List.getElem_take]at e;rw[E3]at hj;exact M0.mp nd j n () N () e))]at S
  obtain⟨B,T,bt⟩:=LM S;have as:it≠d:=λq=>by have:=O.1;lia
  have tk:ks.take (n+1)=ks.take n++[ks[n]]:=by simp_all
  have ty:ys.take (n+1)=ys.take n++[ys[n]]:=by rw[List.take_succ,To ()];rfl
  refine Ts (xQ _,ih (n+1) _ _ B _ (i+1) 0 () (a.write (x:=d) (e:=d) (o:=t4 d B) (t':=s.toks+(C7<|intKind X.prog X.w).draws ks[n]) (h':=bn) (by rw[h];exact tE) (.inl rfl) (λb q y z=>(hs.2 b y).trans z) (_,T)<|CH T) (λc o e=>?_) (by rw[zJ b3];exact Z) (bd.at λo q=>(hs.2 it as).trans q) (by rw[zJ as];exact O.1,O.2) zF bt ?_ ?_ ?_ λU o3 bx a1 a2 a3 a4 L=>hR U o3 bx a1 a2 a3 a4 ?_)
  .rw[zJ (λq=>by rw[q,b2]at e;cases e)];exact sub _ _ e
  .rw[UB,f,tk];rfl
  .intro x Q
   rcases uB.mp Q with z|z
   .exact g x z
   .rw[vt.mp z];exact P
  .rw[UB,ty]
   exact M.append<|.cons bm .nil
  .rw[vf]at L;exact L
theorem lX(I:Inv X pins σ H s)(j:X.A.handled=none)(hu:X.A.units+64<rZ)(sub:ft H0 H)(z:H l=cz (.lst xs))(O:xs.length=ks.length)(R:ys.length=ks.length)(S:ks.Nodup)
 (P:∀n h1 (h2:n<ks.length) (h3:n<ys.length),∃p b,xs[n]=.ref p/\fA X.K H0 p [.ref b,ys[n]]/\fA X.K H0 b (ks[n].map V.int)) (hz:ks.length<=eB)
 (E:∀y p o es,H p=none->(p==uw)=cL->Hz o es->es.map (·.1)=ks->(∀x∈es,fA X.K H0 x.2.1 (x.1.map V.int))->eo ys (es.map (·.2.2))->Inv X pins σ (upd H p (t4 p o)) y->Q (.ref p) y):wpAny (d5 X.prog X.w) X.A (call (.type "dict") [.ref l]) Q X.xe s:=by
 have U:=I.fresh;have f:l≠s.heap.objs.size:=λq=>by lia
 refine U4 (Q₁:=λobj a=>obj=_/\a=_) F.kt_called_dict (F.kt_typeCall_dict_1 _) F.entry_dict_init (kt_code_dict_new _ (rfl,rfl)) ?_;rintro obj a ⟨rfl,rfl⟩;have g:({s with heap:=s.heap.push {cls:=.type "dict",data:=.dict #[]}}).TypeIs (.ref _) "dict":=(_,Tw _ rfl,rfl);refine Tf λG=>?_;obtain⟨N,C,c,M,L,u⟩:=I.rG z;refine G ?_;have Y:(s.heap.push {cls:=.type "dict",data:=.dict #[]}).get? l=_:=Tj _ u;refine(g,F.args_dict_init_2 _ _,?_);refine Th ?_;unfold Builtin.Dict.selfAndRest;refine Th (zfW g ?_);refine Ts ?_;show wpAny _ _ (Rh "dict.__init__" _ (.ref l) [] .none) _ _ _;unfold Rh;refine Th (uG (_,Y,rfl) ?_);rw[DZ ()];refine Th (WY Y j λh' t' k=>?_);have Z:Inv X pins σ _ {s with heap:=h',toks:=t'}:=(I.laid (t':=s.toks) (λ_ _ q=>Tj _ q) (Tv _) (CH (Tw _ rfl))).kept k;refine Th (sQ (Th (Rl (_,k _ _ Y,rfl,_,rfl) ?_)));refine Ts (xQ _,?_);have B:=Z.r6 (Tv _) Z.fresh;refine lP (show X.A.in1.handled=none from j) (by rw[units_in1];omega) O R S hz P (jy sub U) f ks.length 0 _ _ _ [] 0 0 (pz _) (Z.kept (h':=h'.push _) (t':=t') λb o e=>Tj _ e) (sub.trans (ju U _)) (by rw[zJ f];exact z) (_,Tw _ rfl,rfl,rfl) B zF ((rfl,rfl,rfl),#[],0,rfl,rfl,List.nodup_nil) rfl (λx O=>nomatch O) .nil λy J t h i m r d=>?_;rw[vf]at d;exact(rfl,E y _ J t U (beq_eq_false_iff_ne.mpr (q9 I.big)) h i m r d)
end
theorem VI{K:Ti}{H:Hp}{d:D}{k:List Int}{v:V}(e:Hr d=cz k)(r:Rep K H d v):∃b,v=.ref b/\fA K H b (k.map V.int):=by
 cases d with
 |tup a=>
  obtain⟨b,O,rfl,y,I⟩:=yt r;refine(b,rfl,?_);rw[(YB e I)]at y;simpa[kV,Uu,R8]using y
 |_=>cases e
theorem K7{K:Ti}{H:Hp}:∀{ps B vs:List D} {xs:List V} {z:List (List Int)},vi ps=cz (B,vs)->dn K H ps xs->Aw B=cz z->
 ∃ys,dn K H vs ys/\ys.length=z.length/\xs.length=z.length/\∀n y (O:n<z.length) (I:n<ys.length),∃p b,xs[n]=.ref p/\fA K H p [.ref b,ys[n]]/\fA K H b (z[n].map V.int)
 |[],B,vs,xs,z,h,r,hi=>by cases h;cases hi;rw[r.o8];exact([],dn.nil,rfl,rfl,λn y=>by cases y)
 | d::ps,B,vs,xs,z,h,r,hi=>by
  unfold vi at h;split at h
  .split at h
   .rename_i k v
    obtain⟨⟨a,b⟩,f,Q⟩:=zB h;cases Q;refine Tf λU=>?_;obtain⟨x,L,rfl,y,O⟩:=r.l9;obtain⟨j,Y,Z⟩:=ze hi;obtain⟨J,g,i⟩:=zB Z;subst i;obtain⟨ys,u,w,A,C⟩:=K7 f O g;obtain⟨q,P,rfl,I,l⟩:=yt y;obtain⟨M,N,rfl,m,o⟩:=l.l9;obtain⟨F,G,rfl,s,t⟩:=o.l9;obtain⟨E,rfl,e⟩:=VI Y m;refine U ?_;rw[t.o8]at I;refine(F::ys,dn.cons s u,by simp[w],by simp[A],λn g1 g2 g3=>?_);cases n with
    |zero=>exact(q,E,rfl,I,e)
    |succ n=>exact C n (by simpa using g1) (by simpa using g2) (by simpa using g3)
   lia
  .cases h
section
theorem eH(h:SX X sc N L k)(P:wQ sc "dict" = cC)(zd:X.mg "dict" = none)(S:PO X a f)(hs:ed [a] X.env=[(cL,dy a X.env)]:=by rfl):
 PV X (.Call (.Name "dict" p) [a] [] pos) (nM f):=by
 intro e s σ H Q I Z;refine Tf λn=>?_;obtain⟨o,γ,d,A,O,q⟩:=Z;obtain⟨z,J,O⟩:=ze O;obtain⟨⟨ds,es⟩,M,O⟩:=ze O;obtain⟨u,R,O⟩:=ze O;refine n ?_;by_cases m:u.Nodup/\u.length<=lim
 .rw[DZ m]at O
  cases O;refine tI<|yc I (h.gl P).1 zd PyProof.Rows.boot_dict (Ut ?_ (by rw[hs];rfl) rfl);rw[hs];show wpAny _ _ (PX ((cL,dy a X.env)::[])) _ _ s;refine zj<|ea (S e s σ H (λv i=>∃l g U,v=.ref l/\Ext o H U i/\U l=none/\i l=cz (.lst g)/\dn X.K U z g) I (o,γ,z,A,J,λl g i U b g1 g2 g3 j=>(l,g,U,rfl,b,g2,g3,j))) λv s1 Z=>?_;refine Tf λn=>?_;obtain⟨y,i,B,ry,l,g,U,rfl,b,g2,g3,j⟩:=Z;refine n ?_;cases ry;refine F0 ?_;obtain⟨ys,W,r2,r3,r4⟩:=K7 M j R;have:lim<=eB:=by decide
  refine lX B (I.ok.hd h.calm) h.ux b.sub g3 r3 r2 m.1 r4 () λs' p w zs Y G E r a3 F C=>?_;have t:ft U (upd U p<|t4 p w):=ju (jy b.sub Y) _;exact(.ref p,_,C,rfl,q (.ref p) _ _ ((b.trans<|Ext.hide b.sub Y _).show (xW b.s1 Y) (jy b.sub Y) zF A.sub)
   ((p,ys,rfl,(G,w,zs,zF,E,r,by have:=congrArg NR r;rw[Ua]at this;lia,λx T=>i7 t<|a3 x T,F),W.mono t)))
 .rw[DJ m]at O;cases O
end
theorem cM{K:Ti}{H:Hp}{i:List Int}:∀{xs:List (List Int×di×dj)} {vs:List D} {ys:List V},dn K H vs ys->eo ys (xs.map (·.2.2))->
 (∀d,mn (xs.map (·.1)) vs i=cz d->∃y p,rk xs i=cz p/\Rep K H d y/\RelV y p.2)/\(mn (xs.map (·.1)) vs i=none->rk xs i=none)
 |[],vs,ys,r,v=>((λd q=>by cases q),λ_=>rfl)
 | x::xs,vs,ys,r,v=>by
  cases v with
  | cons Q U=>
   cases vs with
   |nil=>have:=r.o8;cases this
   | cons d vs=>
    obtain⟨y,f,e,Y,Z⟩:=r.l9;cases e;by_cases I:x.1=i
    .have a:rk (x::xs) i=cz x.2:=by unfold rk;rw[List.find?_cons_of_pos (by simpa using I)];rfl
     have O:mn ((x::xs).map (·.1)) (d::vs) i=cz d:=by show(if x.1=i then _ else _)=_;rw[DZ I]
     rw[a,O];exact(λb q=>by cases q;exact(_,x.2,rfl,Y,Q),λq=>by cases q)
    .have a:rk (x::xs) i=rk xs i:=by unfold rk;rw[List.find?_cons_of_neg (by simpa using I)]
     have O:mn ((x::xs).map (·.1)) (d::vs) i=mn (xs.map (·.1)) vs i:=by show(if x.1=i then _ else _)=_;rw[DJ I]
     rw[a,O];exact(cM (i:=i) Z U)
section
variable{X:Cx}{sc:h6}{N L:List Str}{k:Nat}{a b o i:d8}{fd fk fx:CO D}{p pos apos cpos:f9}
theorem oi(h:SX X sc N L k)(ho:PV X o fd)(hi:PV X i fk)(hs:Od i:=by intro _ _;rfl):PV X (.Subscript o i pos) (nN fd fk):=by
 intro a s B H Q I U;refine Tf λm=>?_;obtain⟨C,A,d,w,O,q⟩:=U;obtain⟨P,R,O⟩:=ze O;obtain⟨k1,S,O⟩:=ze O;refine m ?_;cases P with
 |lC ks vs=>
  obtain⟨j,T,W⟩:=ze O;refine mW PySem.F.slot_dict_getitem.lookup hs<|ea (ho a s B H (λv g=>∃Z,_/\_) I (C,A,_,w,R,λv g Z x r=>(Z,x,r))) λu s1 U=>?_;obtain⟨v,g,E,r1,Z,z,rp⟩:=U;refine ea (hi a s1 B g (λv e=>∃f,_/\_) E (Z,A,_,w.ext z,S,λv e f x r=>(f,x,r))) λu2 s2 U=>?_;refine Tf λm=>?_;obtain⟨v2,e,l,r2,f,Y,G⟩:=U;obtain⟨ad,ys,rfl,⟨g0,ob,zs,g1,g2,g3,g4,g5,g6⟩,g7⟩:=(rp);refine m ?_;subst g3;cases r1;obtain⟨b,rfl,hb⟩:=VI T G;cases r2;have n:=Y.s0.trans Y.sub;have t:=VR l (n _ _ g1) g2 λx hx=>i7 n<|g5 x hx;obtain⟨y,p,J,K,M⟩:=(cM (g7.mono Y.s0) g6).1 d W;exact(t.typeIs,zfS (RY (by have:=h.ux;lia)) (VH l<|i7 Y.sub hb) t J (y,e,l.tok _,M,q y e f (z.trans Y) K))
 |_=>cases O
theorem bG(h:SX X sc N L k)(ho:PV X o fd)(ha:PV X a fk)(hb:PV X b fx)(m:M2 X o "get" apos a b cpos:=by exact(by rfl,by rfl,by rfl,by rfl)):PV X (.Call (.Attribute o "get" apos) [a,b] [] cpos) (uf fd fk fx):=by
 intro e s G H Q I U;refine Tf λY=>?_;obtain⟨T,E,d,B,O,q⟩:=U;obtain⟨d1,e1,O⟩:=ze O;obtain⟨k1,e2,O⟩:=ze O;obtain⟨w1,e5,O⟩:=ze O;refine Y ?_;cases d1 with
 | lC ks vs=>
  obtain⟨j,e3,e4⟩:=zB O;subst e4;refine wpAny_Call_method m.base m.l8 m.line PySem.F.plainAttrs_dict PySem.F.slot_dict_get PySem.F.type_dict_get<|ea (ho e s G H (λv w=>∃n,_/\_) I (T,E,_,B,e1,λv w n x r=>(n,x,r))) λu s1 U=>?_;refine Tf λY=>?_;obtain⟨v,w,J,r1,n,f,rp⟩:=U;obtain⟨ad,ys,rfl,⟨g0,ob,zs,g1,g2,g3,g4,g5,g6⟩,g7⟩:=(rp);refine Y ?_;subst g3;cases r1;have K:=VR J (f.sub _ _ g1) g2 λx A=>i7 f.sub<|g5 x A;refine(K.typeIs,dictOfH_noDict K,?_);rw[m.trees];refine Calls.callWith_builtin rfl<|Calls.evalArgs_plain<|zj<|ea (ha e s1 G w (λv z=>∃t,_/\_) J (n,E,_,B.ext f,e2,λv z t x r=>(t,x,r))) λu2 s2 U=>?_;obtain⟨v2,z,W,r2,t,S,b7⟩:=U;refine zj<|ea (hb e s2 G z (λv Z=>∃g,_/\_) W (t,E,_,(B.ext f).ext S,e5,λv Z g x r=>(g,x,r))) λu3 s3 U=>F0 ?_;refine Tf λY=>?_;obtain⟨R,Z,l,r3,g,C,b9⟩:=U;obtain⟨kb,rfl,bd⟩:=VI e3 b7;refine Y ?_;cases r2;have i:=S.trans C;have M:=i.s0.trans i.sub;have P:=VR l (M _ _ g1) g2 λx A=>i7 M<|g5 x A;refine call_meetsIn PySem.F.slot_dict_get P.typeIs PySem.F.entry_dict_get (PySem.F.args_dict_get_3 _ _ _) (meetsH_dict_get_default _ ad kb g0 u3) (RY (by have:=h.ux;lia),j,zs,VH l<|i7 (C.s0.trans C.sub) bd,P,?_);obtain⟨c1,c2⟩:=cM (g7.mono i.s0) g6;cases hv:mn _ vs j with
  |none=>
   rw[hv]at q;rw[c2 hv];exact(R,Z,l.tok _,r3,q R Z g (f.trans i) b9)
  |some dv=>
   rw[hv]at q;refine Tf λY=>?_;obtain⟨y,p,f1,f2,f3⟩:=c1 dv hv;refine Y ?_;rw[f1];exact(y,Z,l.tok _,f3,q y Z g (f.trans i) f2)
 |_=>cases O
end
end DL
namespace DL
open PySem PySem.Spec PyProof.Rows L2
open PySem.W (KasT kas_sort kas_ask kat_run kat_snds kat_lt kat_cons kat_no kat_yes kat_nil kat_go kat_one kat_kind KatTups KatGo)
section
variable{prog:hH}{w:hB}{A:l6}{E:EQ}{s:el}
theorem fK{a y:di}{Q:List dj}{I:List dj}{e j:Nat}{P:PySem.Fin->el->Prop}{st:SortSt}(U:s.heap.get? y=cz (h7 "list" Q.toArray e))(z:s.heap.get? a=cz (h7 "list" #[] j))(Y:y≠a)(R:Q.length<=eB)(Z:I.length<=eB)
 (H:(arrOf st).map (·.2)=I.toArray) (B:failedOf st=none)
 (h:∀h' c,h'.objs.size=s.heap.objs.size->(∀b o,b≠a->b≠y->s.heap.get? b=cz o->h'.get? b=cz o)->h'.get? a=cz (h7 "list" I.toArray c)->P (.done (.ret .none)) {s with heap:=h'}):
 wpAny (d5 prog w) A (ksk_tail a cL j (.ref y) st) P E s:=by
 unfold ksk_tail;refine Th (Df U rfl ?_ (by assumption) (UU _));refine Th (tw ?_);have O:(s.heap.update y (US λ_=>(#[]))).get? a=_:=(Ur _ _ Y).trans z;refine Th (NK O rfl ?_);rw[H];refine Th (Df O rfl ?_ (UU _) (by rw[TK];exact RU Z));rw[B];simp only[bne_self_eq_false,UN,if_false];obtain⟨c,g⟩:∃c,((s.heap.update y _).update a (US λ_=>I.toArray)).get? a=cz (h7 "list" I.toArray c):=(_,Te O _);exact Ts (h _ c (by simp_all) (λb o d f q=>(Ur _ _ (Ue d)).trans ((Ur _ _ (Ue f)).trans q)) g)
theorem FP{a Y:di}{vs I:List dj}{ps:List (Int×Int)}{e z:Nat}{P:PySem.Fin->el->Prop}(hk:s.heap.get? Y=cz (h7 "list" I.toArray e))(ha:s.heap.get? a=cz (h7 "list" #[] z))(S:Y≠a)(ad:I.length=vs.length)(B:ps.length=vs.length)(as:vs.length<64)
 (H:∀i R,tU s.heap I[i] (ps.getD i (0,0)).1 (ps.getD i (0,0)).2)
 (h:∀h' c,h'.objs.size=s.heap.objs.size->(∀b o,b≠a->b≠Y->s.heap.get? b=cz o->h'.get? b=cz o)->h'.get? a=cz (h7 "list" (SN ((xB ps).map λi=>vs.getD i ng)) c)->P (.done (.ret .none)) {s with heap:=h'}):
 wpAny (d5 prog w) A (ksk_end a cL vs.toArray z (.ref Y) I.toArray) P E s:=by
 have hz:vs.length<=eB:=by rw[uE];lia
 have hsz:vs.toArray.size=vs.length:=by simp
 have bn:((xB ps).map λi=>vs.getD i ng).length=vs.length:=by rw[Ua,(j5 ps).length_eq,UM,B]
 unfold ksk_end
 try dsimp only
 refine(λt ht=>ht) _ ?_;by_cases Z:vs.toArray.size<2
 .rw[DZ Z,DZ Z]
  refine Th<|Ts ?_;rw[StateT.run_pure];refine Th<|Ts ?_;dsimp only;have ev:(xB ps).map (λi=>vs.getD i ng)=vs:=by unfold xB;rw[DZ (),B];exact jv _ _
  exact fK hk ha S () () (by
   rw[ev];apply Array.ext';simp[Array.toList_map,Array.toList_zip];rw[List.map_snd_zip ()]) rfl h
 .rw[DJ Z,DJ Z]
  obtain⟨fs,f1,f2,f3⟩:=pJ λi R=>(H i R).one;refine Th (kat_kind (T:=uF "int") f1 () (λv hv=>?_) () ?_)
  .obtain⟨k,t,rfl⟩:=f3 v hv
   exact PySem.W.Looks.of_pure rfl
  refine Th (rz (kat_run (Q:=λd U=>∃p,arrOf d=p.map (PySem.W.kas_item<|I.toArray.zip vs.toArray)/\failedOf d=none/\p.toList=xB ps/\U=s)
   (G:=λp U=>p.toList=xB ps/\U=s)
   ad () as (λp d U a1 L M l=>(p,L,M,l.1,l.2)) (cJ (λi j C R hj O=>?_) (Kj ()) (by
   unfold xB;rw[DJ (),B],rfl))) ?_ λ_ _ e=>e)
  .show wpAny _ _ (keyLt' _ (I.getD i ng)<|I.getD j ng) C _ _
   have n:i<I.length:=()
   have r:j<I.length:=()
   rw[show I.getD i ng=I[i]by simp[n],show I.getD j ng=I[j]by simp[r]];refine Tf λkZ=>?_;obtain⟨x,ox,xs,m,t,u,z,e2,e3,e4,K⟩:=H i n;obtain⟨y,oy,ys,m',t',u',d1,d2,d3,d4,J⟩:=H j r;refine kZ ?_;rw[z,d1];refine kat_lt e2 e4 d2 d4 ?_;have N:xs.size=2:=by rw[<-vl,K];rfl
   have X:ys.size=2:=by rw[<-vl,J];rfl
   simp only[K,J,N,X,FI,FI];unfold aZ at O;generalize ps.getD i (0,0)=X1 at O ⊢;generalize ps.getD j (0,0)=X2 at O ⊢;refine kat_cons<|M5 X1.1 t X2.1 t' _ _ _ _ ?_;refine kat_go (λg=>?_) λg=>?_
   .rw[DZ (by simpa using g)]at O
    refine kat_yes<|kat_cons<|M5 X1.2 u X2.2 u' _ _ _ _<|kat_go (λf=>?_) λf=>kat_no<|kat_one _ _<|lt_int O
    .have f:=by simpa using f
     refine kat_yes<|kat_nil ?_;rw[show decide (X1.2<X2.2)=cL by rw[f];simp]at O;exact O
   .rw[DJ (by simpa using g)]at O
    exact kat_no<|oneLt_int O
  rintro⟨⟨⟩,d⟩ U ⟨p,bi,hf,hp,rfl⟩;dsimp only;have F:=kat_snds ad bi;rw[hp]at F;exact fK hk ha S () () F hf h
end
end DL
namespace DL
open PySem PySem.Spec PyProof.Rows L2
section
theorem pT(I:Inv X pins σ H s)(f:Jg X pins H a)(new:nj X.prog X.w (upd H a o) s.heap a o):Inv X pins σ (upd H a o) s:=by
 obtain⟨f1,Y,k,Z,h,i⟩:=f;have d b u:H b=cz u->b≠a:=λq z=>by lia
 refine(I.ok,I.os,I.bare,(I.base.keep,I.base.slot,λb y q n O=>?_,I.base.there,λb g q=>?_,λb y u q=>?_,λb j q=>?_),I.loc,I.cell,?_,λx c e=>?_,λp Q=>?_,λb u e=>?_,I.len)
 .rw[zJ (λz=>by
   rcases Z with z1|z1
   .exact O<|z ▸ z1
   .have:=TH q
    rw[z]at this;exact absurd this<|Nat.not_lt_of_le z1)];exact I.base.free b y q n O
 .have:=I.base.yy b g q
  rw[zJ (d b _ this)];exact this
 .have:=I.base.uW b y u q
  rw[zJ (d b _ this)];exact this
 .obtain⟨m,this⟩:=I.base.u5 b j q
  exact(m,by rw[zJ (d b _ this)];exact this)
 .rw[zJ (Ue Y)];exact I.free
 .rw[zJ (h x c e)];exact I.sF x c e
 .obtain⟨e,n,r⟩:=I.pin p Q
  exact(e,by rw[zJ (i p Q)];exact n,r)
 .by_cases U:b=a
  .subst U;rw[zF]at e;lia
  .rw[zJ U]at e
   exact(I.eC b u e).u4 (λ_ _ _ q=>q) (λc q=>by rw[zJ (d c _ q)];exact q) λc g q=>by rw[zJ (d c _ q)];exact q
theorem EH{CX:sf}(F:kA X.prog X.w X.K X.mg X.base l7 k f fd ps sp)(O:k0 k A)(U:sh X.prog X.w X.K X.mg X.base A X.stack s H)(Y:Binds X.K fd ps [])
 (I:Inv X pins σ H s) (r:eo vs us) (h:sp vs H Q E0):wpAny (d5 X.prog X.w) A (call (.ref f) us) (EP X pins σ Q) (λ_ _=>False) s:=by
 refine wpAny_call<|F8 (F.run A X.stack s H _ us vs Q E0 O U (by simpa using Y s us I.n4 (by simpa using (by rw[<-r.length];exact F.len _ _ _ _ h))) r h) λr a y=>?_;cases r with
 |error e=>exact y.elim
 |ok Z=>
  cases Z with
  |ret u=>exact I.after y
  |next=>assumption
  |brk=>assumption
  |cont=>assumption
theorem IF(I:Inv X pins σ H s)(z:Jg X pins H kS)(j:Jg X pins H a)(O:s.heap.get? kS=cz ok)(B:s.heap.get? a=cz oa)(Q:∀v,ok.data ≠ .cell v)(U:∀v,oa.data ≠ .cell v):Inv X (pins++[(kS,ok),(a,oa)]) σ H s:=
 I.KX λp y=>by
  rcases uB.mp y with y|y
  .exact I.pin p<|Uc _ y
  .rcases Tz.mp y with rfl|y
   .exact(O,z.1,z.2.1,z.2.2.1,Q)
   .rw[vt.mp y];exact(B,j.1,j.2.1,j.2.2.1,U)
theorem HR(I:Inv X (pins++more) σ H s):Inv X pins σ H s:=I.KX λp y=>I.pin p<|Uc _<|_h _ y
end
noncomputable def WE(ps:List (Int×Int)):List D:=ps.map λp=>D.tup [.int p.1,.int p.2]
section
variable{X:Cx}{pins:TW}{σ:St}{F:List D->Option Res}{k:Nat}{f:di}{fd:pv}{pr:List Str}{A:l6}{E:EQ}
theorem Eb(I:Inv X pins σ H s)(sub:ft H0 H)(r:Rep X.K H0 (.tup [.int i,.int j]) v)(B:RelV v u):tU s.heap u i j:=by
 obtain⟨b,G,rfl,Z,f⟩:=yt r;obtain⟨y,F,e,g,h⟩:=f.l9;obtain⟨E,A,a,k,l⟩:=h.l9;rw[l.o8]at a;rw[e,a,jP g,jP k]at Z;cases B;obtain⟨d,z,⟨o,w,m,n,p⟩,_⟩:=I.tuple<|i7 sub Z;obtain⟨O,Q,rfl,U,Y⟩:∃O Q,d=O::Q/\RelV (.int i) O/\eo [.int j] Q:=by
  cases z with
  |cons U Y=>exact(_,_,rfl,U,Y)
 obtain⟨C,rfl,x⟩:=vJ Y;obtain⟨t,rfl⟩:=U;obtain⟨u,rfl⟩:=x;exact(b,o,_,n,t,u,rfl,w,m,p,rfl)
theorem Ax{a O:di}{vs:List dj}{xs:List V}{ds:List D}{ps:List (Int×Int)}{e1:Nat}{P:PySem.Fin->el->Prop}{H0 H:Hp}{s:el}
 (G:kA X.prog X.w X.K X.mg X.base l7 k f fd pr (p8 X.K pr.length F)) (h1:pr.length=1) (hr:k0 k A) (b8:A.frames=cz X.stack) (Z:Binds X.K fd pr [])
 (I:Inv X pins σ H s) (sub:ft H0 H) (rv:eo xs vs) (rd:dn X.K H0 ds xs) (ap:ps.length=vs.length) (b9:vs.length<64)
 (hF:∀(i:Nat) d p,ds[i]? = cz d->ps[i]? = cz p->F [d]=cz (.val<|.tup [.int p.1,.int p.2]))
 (hk:s.heap.get? O=cz (h7 "list" #[] 0)) (ha:s.heap.get? a=cz (h7 "list" #[] e1)) (as:O≠a) (fk:Jg X pins H O) (fa:Jg X pins H a)
 (h:∀R S B c,Inv X pins σ S R->Ext H0 H B S->R.heap.get? a=cz (h7 "list" (SN ((xB ps).map λi=>vs.getD i ng)) c)->Jg X pins S a->P (.done (.ret .none)) R):
 wpAny (d5 X.prog X.w) A (ksk_rest a (.ref f) cL vs.toArray e1<|.ref O) P E s:=by
 have c0:=rv.length;have c1:=rd.length;unfold ksk_rest;refine Th (sQ ?_);rw[U'];refine Th (ksk_fold (λj R=>∃l n U e,Inv X (pins++[(O,h7 "list" U e),(a,h7 "list" #[] e1)]) σ l R/\Ext H0 H n l/\∃g,eo g U.toList/\dn X.K n (WE (ps.take j)) g) vs 0 s
  (H,H0,#[],0,IF I fk fa hk ha (λv z=>by cases z) (λv z=>by cases z),Ext.refl sub,[],.nil,dn.nil) ?step ?done)
 case step=>
  rintro j x R hx ⟨l,n,U,e,Y,t,g,C,m⟩;simp only[pz]at m ⊢;have hj:=(TR.mp hx).1;have hd:ds[j]? = cz ds[j]:=To ();have b0:xs[j]? = cz xs[j]:=To ();obtain⟨u',b1,bd⟩:=rv.get b0;rw[hx]at b1;cases b1;obtain⟨zhI,b2,be⟩:=rd.get hd;rw[b0]at b2;cases b2;refine Th (tq (rz (EH (CX:=l7) (Q:=λv S=>∃B,Ext n l B S/\Rep X.K B (.tup [.int ps[j].1,.int ps[j].2]) v) G hr (b8,Y.sW.mod,Y.sW.bs,Y.sW.sm,Y.sW.rl,Y.sW.ua,Y.sW.eC,Y.sW.bare) Z Y (.cons bd .nil)
   (n,[ds[j]],_,t.sub,dn.cons (be.mono t.s0) dn.nil,by rw[h1];rfl,hF j _ _ hd<|To (),λv S B J r2=>(B,J,r2))) (λv M he=>?_) λ_ _ hF=>hF.elim))
  refine Tf λkZ=>?_;obtain⟨zfO,H2,L,bi,bl,J,r2⟩:=he;refine kZ ?_;try dsimp only
  refine Tf λkZ=>?_;obtain⟨r,N,_⟩:=L.pin (O,h7 "list" U e) (Uc _ (Uc _ (.head _)));obtain⟨na,ad,_⟩:=L.pin (a,h7 "list" #[] e1) (Uc _ (Uc _ (.tail _ (.head _))));refine kZ ?_;have T:Jg X pins H2 O:=(N,fk.2);have kl:U.size=j:=by have:=C.length;have:=m.length;simp only[WE,Ua,E3,vl]at *;lia
  refine Th (Df r rfl ?_ (by rw[kl,uE];lia) (TJ (NN (Array.size_push ..)) (by rw[kl,uE];lia)));obtain⟨W,bm⟩:∃W,(M.heap.update O (US (·.push v))).get? O=cz (h7 "list" (U.push v) W):=(_,Te r (·.push v));refine Ts (rfl,H2,bl,U.push v,W,IF ((HR L).ro (h':=M.heap.update O (US (·.push v))) (t':=M.toks) (fp:=[O]) (λb o Z q=>(Ur _ _ (λz=>Z (by rw[z];exact List.mem_singleton_self _))).trans q) (λb Z=>by rw[vt.mp Z];exact T)) T (ad,fa.2) bm ((Ur _ _ as).trans na) (λv z=>by cases z) (λv z=>by cases z),t.trans J,g++[zfO],?_,?_)
  .rw[Array.toList_push];exact C.append<|.cons bi .nil
  .have ek:ps.take (j+1)=ps.take j++[ps[j]]:=by simp_all
   rw[ek];unfold WE at m ⊢;rw[UB];exact(m.mono J.s0).append (dn.cons r2 dn.nil)
 case done=>
  rintro R ⟨l,n,U,e,Y,t,g,C,m⟩;rw[pz,<-ap,List.take_length]at m;obtain⟨r,N,_⟩:=Y.pin (O,h7 "list" U e) (Uc _ (Uc _ (.head _)));obtain⟨na,ad,_⟩:=Y.pin (a,h7 "list" #[] e1) (Uc _ (Uc _ (.tail _ (.head _))));have b4:=HR Y;have T:Jg X pins l O:=(N,fk.2);have bn:Jg X pins l a:=(ad,fa.2)
  try dsimp only
  refine Th<|listItems_at r rfl ?_;have l1:=C.length;have l2:=m.length;simp only[WE,Ua]at l2;have ek:U=U.toList.toArray:=by simp
  rw[ek]at r ⊢;refine FP r na as () ap b9 (λi hi=>?_) λh' c hsz kp hA=>h _ l n c (b4.ro (h':=h') (t':=R.toks) (fp:=[a,O]) (λb o Z q=>kp b o (λz=>Z<|by rw[z];simp) (λz=>Z<|by rw[z];simp) q)<|λb Z=>by grind) t hA bn
  .have bt:i<ps.length:=()
   obtain⟨y,ey,ry⟩:=m.get (i:=i) (d:=.tup [.int (ps.getD i (0,0)).1,.int (ps.getD i (0,0)).2]) (by unfold WE;simp[bt]);obtain⟨u,hu,ru⟩:=C.get ey;have:U.toList[i]=u:=by rw[To hi]at hu;exact UK hu
   rw[this];exact Eb b4 t.sub ry ru
end
def Fo:Res->Option (Int×Int)
 | .val d=>match d with
  |.tup a=>match a with
   |[x,y]=>(m4 x).bind λi=>(m4 y).map λj=>(i,j)
   |_=>none
  |_=>none
 |.own _=>none
def cE(F:List D->Option Res):List D->Option (List<|Int×Int)
 |[]=>cz []
 |d::r=>((F [d]).bind Fo).bind λp=>(cE F r).map λl=>p::l
def nE(F:List D->Option Res)(f:CO (Sk×List D)):CO (List D):=λd=>(f d).bind λa=>match a.1 with
 |.L=>(cE F a.2).bind λb=>if a.2.length<64 then cz ((xB b).map λi=>a.2.getD i .d7)else none
 |_=>none
theorem Wa(y:eo xs vs):∀(o:List Nat),(∀i∈o,i<xs.length)->eo (o.map λi=>xs.getD i .d7) (o.map λi=>vs.getD i ng)
 |[],_=>.nil
 |i::o,h=>by have a:=h i Uh;refine .cons ?_ (Wa y o λj I=>h j<|TN _ I);obtain⟨v,O,g2⟩:=y.get<|To a;simp only[Tr,Tr,To a,O];exact g2
section
theorem lh
 (G:kA X.prog X.w X.K X.mg X.base l7 k f fd pr (p8 X.K pr.length F)) (S:pr.length=1) (hr:k0 (k+1+1) X.A) (y:Binds X.K fd pr [])
 (I:Inv X pins σ H s) (sub:ft H0 H) (hl:s.heap.IsList l vs.toArray) (Y:eo xs vs) (rd:dn X.K H0 ds xs) (P:ps.length=vs.length) (R:vs.length<64)
 (hF:∀(i:Nat) d p,ds[i]? = cz d->ps[i]? = cz p->F [d]=cz (.val<|.tup [.int p.1,.int p.2]))
 (h:∀U B j D,H D=none->B D=none->Ext H0 H j B->Inv X pins σ (upd B D<|.lst<|(xB ps).map λi=>xs.getD i .d7) U->Q (.ref D) U):
 wpAny (d5 X.prog X.w) X.A (call (.builtin "sorted") [.ref l] [(px "key",.ref f)]) Q E s:=by
 have N:=Y.length;have e:vs.length<=eB:=by rw[uE];lia
 refine call_function_entry_kw kind_sorted plain_sorted entry_sorted (ksk_s1 _ _) ?_;unfold n6.«sorted»;refine Th (Ts ?_);refine Th (collect_list hl ?_ e);refine Th (S3 ?_ e);have a:((s.heap.push (h7 "list" #[] 0)).update s.heap.objs.size (US (· ++ vs.toArray))).objs.size=s.heap.objs.size+1:=by rw[R4,PU]
 have O:(((s.heap.push (h7 "list" #[] 0)).update s.heap.objs.size (US (· ++ vs.toArray))).push (h7 "list" vs.toArray 0)).get? (s.heap.objs.size+1)=cz (h7 "list" vs.toArray 0):=by rw[<-a];exact Tw _ rfl
 have keep b o:s.heap.get? b=cz o->(((s.heap.push (h7 "list" #[] 0)).update s.heap.objs.size (US (· ++ vs.toArray))).push (h7 "list" vs.toArray 0)).get? b=cz o:=λq=>by have Z:=TH q;rw[F5 _ _ _ (by rw[a];exact TU (UT Z)),_p _ _ _ _ (TU Z),F5 _ _ _ (TU Z)];exact q
 have m:(((s.heap.push (h7 "list" #[] 0)).update s.heap.objs.size (US (· ++ vs.toArray))).push (h7 "list" vs.toArray 0)).objs.size=s.heap.objs.size+2:=by rw[PU,a]
 rw[a];generalize ((s.heap.push (h7 "list" #[] 0)).update s.heap.objs.size (US (· ++ vs.toArray))).push (h7 "list" vs.toArray 0)=g at O keep m ⊢;have u:=I.r6 (uH _) (I.eC.fresh (uH _));refine Th (q8 (wpAny_call_entry_kw slot_list_sort (_,O,rfl) entry_list_sort ?body (ksk_l1 _ _)))
 case body=>
  rw[ksk_t1];unfold ksk_tree;refine Th (O? O rfl ?_);refine Th (Df O rfl ?_ (by assumption) (UU _));obtain⟨r,n⟩:∃r,(g.update (s.heap.objs.size+1) (US λ_=>(#[]))).get? (s.heap.objs.size+1)=cz (h7 "list" #[] r):=(_,Te O λ_=>#[]);refine Th (NK n rfl ?_);refine Th (GN ?_ (by show vs.length<=_;exact e));refine Th (S3 ?_ (UU _));refine q8 ?_;have x:((g.update (s.heap.objs.size+1) (US λ_=>(#[]))).push (h7 "tuple" vs.toArray 0)).objs.size=s.heap.objs.size+3:=by rw[PU,R4,m]
  refine Ax
   G S hr.in1.in1 I.sW.in1.in1.frames y (((I.kept (t':=s.toks) keep).ro (h':=g.update (s.heap.objs.size+1) (US λ_=>(#[]))) (t':=s.toks) (fp:=[s.heap.objs.size+1]) (λb o y q=>(Ur _ _ (λz=>y (by rw[z];exact List.mem_singleton_self _))).trans q) (λb y=>by rw[vt.mp y];exact u)).kept (h':=((g.update (s.heap.objs.size+1) (US λ_=>(#[]))).push (h7 "tuple" vs.toArray 0)).push (h7 "list" #[] 0)) (t':=s.toks) (λb o q=>Tj _ (Tj _ q))) sub Y rd P R hF (Tw _ rfl) (Tj _ (Tj _ n)) (by rw[x];exact λz=>absurd (Nat.add_left_cancel z) ()) (by rw[x];exact(I.r6 (TL _ _) (I.eC.fresh (TL _ _)))) u λU B j c C M J t=>(_,rfl,?_)
  refine Ts (_,rfl,h U B j _ (I.eC.fresh<|uH _) t.1 M<|pT C t ?_);have ad:((xB ps).map λi=>xs.getD i V.d7).length=vs.length:=by rw[Ua,(j5 ps).length_eq,UM,P]
  exact(by rw[ad];exact e,(xB ps).map λi=>vs.getD i ng,c,Wa Y _ (λi L=>by have:=Tp.mp<|(j5 ps).mem_iff.mp L;lia),J)
end
theorem W1:∀{ds:List D} {ps:List (Int×Int)},cE F ds=cz ps->ps.length=ds.length
 |[],ps,h=>by cases h;rfl
 |d::r,ps,h=>by obtain⟨p,_,y⟩:=ze h;obtain⟨l,I,O⟩:=zB y;subst O;simp[W1 I]
theorem iF(h:Fo r=cz p):r=.val (.tup [.int p.1,.int p.2]):=by
 unfold Fo at h;split at h
 .split at h
  .split at h
   .obtain⟨i,y,I⟩:=ze h
    obtain⟨j,O,Q⟩:=zB I;subst Q;rw[j3 y,j3 O]
   lia
  lia
 lia
theorem fJ:∀{ds:List D} {ps:List (Int×Int)},cE F ds=cz ps->∀(i:Nat) d p,ds[i]? = cz d->ps[i]? = cz p->F [d]=cz (.val<|.tup [.int p.1,.int p.2])
 |[],ps,h,i,d,p,hd,hp=>by grind
 | c::r,ps,h,i,d,p,hd,hp=>by
  obtain⟨q,y,I⟩:=ze h;obtain⟨l,O,Q⟩:=zB I;subst Q;cases i with
  |zero=>
   simp at hd hp;subst hd hp;obtain⟨Y,a,U⟩:=ze y;rw[a,iF U]
  |succ i=>exact fJ O i d p (by simpa using hd) (by simpa using hp)
section
variable{X:Cx}{sc:h6}{N L:List Str}{k j:Nat}{e:d8}{fq:CO (Sk×List D)}{F:List D->Option Res}{x:Str}{p p2 pos M?:f9}
theorem zfq(hf:d9 X.prog X.w X.K X.mg X.base j x 1 F)(h:SX X sc N L k)(hj:j+1+1<=k)(c:wQ sc "sorted" = cC)(z:X.mg "sorted" = none)(B:wQ sc x=cC)(hq:PQ X e fq)
 (hs:ed [e] X.env=[(cL,dy e X.env)]:=by rfl):
 PO X (.Call (.Name "sorted" p) [e] [(cz "key",.Name x p2,M?)] pos) (nE F fq):=by
 intro b s σ H Q I Z;refine Tf λo=>?_;obtain⟨t,γ,as,rc,y,q⟩:=Z;obtain⟨⟨kk,n⟩,P,y⟩:=ze y;obtain⟨fa,fd,pr,hn,G,hm,hk,S⟩:=hf.ex;refine o ?_;cases kk with
 |T=>cases y
 | L=>
  have y:=y;obtain⟨ps,C,y⟩:=ze y;by_cases E:n.length<64
  .rw[DZ E]at y
   cases y;refine C8 (yc (u:=.builtin "sorted") I (h.gl c).1 z () (callWith_kw ?_ (by rw[hs];rfl) (by rw[hs];rfl)) () ());refine ea ((zZ hq j7 hs) pos b s σ H (λJ g=>∃a f O,J=[.ref a]/\Ext t H O g/\gg X.K g a f/\dn X.K O n f) I (t,γ,.L,n,rc,P,λa f g O d g1 g2 U=>(a,f,O,rfl,d,g1,U))) λus s1 Z=>?_;refine Tf λo=>?_;obtain⟨J,g,m,rv,a,f,O,rfl,d,g1,U⟩:=Z;obtain⟨u,rfl,ru⟩:=vJ rv;refine o ?_;cases ru;refine wpAny_evalAll_cons (Th (VF m (h.gl B).1 hm (Th (S0 (Ts ?_))) (h.gl B).2.2));refine wpAny_evalAll_nil ?_;obtain⟨its,r,pl,hz⟩:=m.list g1;have l1:=r.length;have l2:=U.length;have l3:=W1 C;refine lh G hn (h.room.mono hj) S m d.sub pl.isList r U () () (fJ C) λs' H' l D R A Y M=>?_;refine(.ref D,_,M,rfl,q D _ _ l (d.trans (Y.trans (Ext.hide Y.sub A _))) (xW d.s1 R) (jy Y.sub A) zF ?_);refine XH (U.mono Y.s0) _ λi W=>?_;have:=Tp.mp ((j5 ps).mem_iff.mp W);lia
  .rw[DJ E]at y;cases y
end
noncomputable def uk(e:d8):Str:=match e with|.Name x _=>x|_=>""
def tf(e:d8):List Str:=match e with|.Tuple a _ _=>a.map uk|e=>[uk e]
noncomputable def uV(N:List Str)(fs:List Nat):List (Str×Nat):=fs.map λi=>(N.getD i "",i)
theorem Kk(N:List Str)(fs:List Nat):(uV N fs).map (·.2)=fs:=by unfold uV;rw[Uu];exact List.map_id fs
noncomputable def FU(e:d8):Bool:=match e with|.Name _ _=>cC|_=>cL
theorem iQ(h:FU e=cC):∃p,e=.Name (uk e) p:=by cases e<;>first|exact(_,rfl)|exact absurd h Uk
def Rz(z:h6)(N L:List Str)(is:List Nat)(es:List d8):Bool:=match is with
 |[i,j]=>(match es with|[a,b]=>FU a&&(vj z N L i (uk a)&&(FU b&&vj z N L j (uk b)))|_=>cL)
 |[i,j,l]=>(match es with|[a,b,c]=>FU a&&(vj z N L i (uk a)&&(FU b&&(vj z N L j (uk b)&&(FU c&&vj z N L l (uk c)))))|_=>cL)
 |_=>cL
def DS(j:h6)(N L:List Str)(e:d8)(T:Tg):Bool:=match T with
 |.nm i=>FU e&&vj j N L i (uk e)
 |.tp is=>(match e with|.Tuple a _ _=>Rz j N L is a|_=>cL)
theorem Ef(h:SX X sc N L k)(c:DS sc N L e T=cC):PG X e (pZ X.K T):=by
 cases T with
 |nm i=>
  have c:=_j.mp c;obtain⟨p,q⟩:=iQ c.1;rw[q];exact h.yr _ c.2
 | tp is=>
  unfold DS at c;dsimp only at c;split at c
  .next f j pos=>
   unfold Rz at c;split at c
   .split at c
    .simp only[TZ]at c
     obtain⟨y,I,a,b⟩:=c;obtain⟨p,q⟩:=iQ y;obtain⟨d,O⟩:=iQ a;rw[q,O];exact h.A_<|Jo (h.yr _ I)<|Jo (h.yr _ b) oK
    .cases c
   .split at c
    .simp only[TZ]at c
     obtain⟨y,I,a,b,Q,U⟩:=c;obtain⟨p,q⟩:=iQ y;obtain⟨d,O⟩:=iQ a;obtain⟨g,Y⟩:=iQ Q;rw[q,O,Y];exact h.A_<|Jo (h.yr _ I)<|Jo (h.yr _ b)<|Jo (h.yr _ U) oK
    .cases c
   .cases c
  .cases c
def cB(z scope:h6)(N:List Str)(j:d8)(T:Tg)(n:Nat)(fs:List Nat):Bool:=
 cV z scope N (uV N fs)&&(Ox (tf j) scope (uV N fs)&&(decide (∀i∈T.idx,i<(tf j).length)&&(decide ((tf j).length=n)&&DS (vO scope z) (tf j++(uV N fs).map (·.1)) (tf j) j T)))
abbrev t6(X:Cx)(scope:h6)(N:List Str)(tg:d8)(fs:List Nat):=jV X scope (tf tg++(uV N fs).map (·.1))
abbrev SA(X:Cx)(sc scope:h6)(N:List Str)(tg:d8)(fs:List Nat)(k:Nat)(fp:List di)(s2:el)(H2:Hp):Prop:=SX (t6 X scope N tg fs fp s2 H2) (vO scope sc) (tf tg++(uV N fs).map (·.1)) (tf tg) k
section
theorem cA(h:SX X sc N L k)(c:cB sc scope N tg T n fs=cC):rf X scope (uV N fs)/\(∀i∈T.idx,i<(tf tg).length)/\(tf tg).length=n/\(∀fp z j,SA X sc scope N tg fs k fp z j)/\∀fp z j,PG (t6 X scope N tg fs fp z j) tg (pZ X.K T):=by unfold cB at c;simp only[TZ,decide_eq_true_eq]at c;refine Tf λy=>?_;obtain⟨I,O,Q,U,Y⟩:=c;refine y ?_;have s fp z j:SA X sc scope N tg fs k fp z j:=h.comp O;exact(h.B? I,Q,U,s,λfp z j=>Ef (s fp z j) Y)
theorem qb(h:SX X sc N L k)(B:ri X tg iter src)(y:∀fp z j,SA X sc scope N tg fs k fp z j->PV (t6 X scope N tg fs fp z j) elt f)(c:cB sc scope N tg T n fs=cC:=by decide +kernel)(hs:∀x,pj iter X.env x=pure x:=by intro _;rfl):
 PO X (.ListComp elt [(tg,iter,[],0)] scope pos) (zW src T n fs jB f):=by
 obtain⟨a,b,d,s,q⟩:=cA h c;have r:=EZ (pos:=pos) h.calm a b B q (λfp z j=>y fp z j<|s fp z j) hs;rw[d,Kk]at r;exact r
theorem WB(h:SX X sc N L k)(B:ri X tg iter src)(y:∀fp z j,SA X sc scope N tg fs k fp z j->l0 (t6 X scope N tg fs fp z j) DB kk)(I:∀fp z j,SA X sc scope N tg fs k fp z j->PV (t6 X scope N tg fs fp z j) elt f)(c:cB sc scope N tg T n fs=cC:=by decide +kernel)(hs:∀x,pj iter X.env x=pure x:=by intro _;rfl):
 PO X (.ListComp elt [(tg,iter,[DB],0)] scope pos) (zW src T n fs kk f):=by
 obtain⟨a,b,d,s,q⟩:=cA h c;have r:=oA (pos:=pos) h.calm a b B q (λfp z j=>y fp z j<|s fp z j) (λfp z j=>I fp z j<|s fp z j) hs;rw[d,Kk]at r;exact r
theorem yR(h:SX X sc N L k)(B:ri X tg iter src)(I:∀fp z j,SA X sc scope N tg fs k fp z j->PV (t6 X scope N tg fs fp z j) elt f)(ct:vj sc N L i y=cC:=by decide +kernel)(c:cB sc scope N tg T n fs=cC:=by decide +kernel)(hs:∀x,pj iter X.env x=pure x:=by intro _;rfl):
 PS X (.Assign [.Name y py] (.ListComp elt [(tg,iter,[],0)] scope cpos) spos) (gW (tO X.K<|zW src T n fs jB f)<|Zm i):=by
 obtain⟨a,b,d,s,q⟩:=cA h c;have r:=psc (cpos:=cpos) (spos:=spos) (py:=py) i h ct h.calm a b B q (λfp z j=>I fp z j<|s fp z j) hs;rw[d,Kk]at r;exact r
theorem EW(h:SX X sc N L k)(B:ri X tg iter src)(I:∀fp z j,SA X sc scope N tg fs k fp z j->l0 (t6 X scope N tg fs fp z j) DB kk)(O:∀fp z j,SA X sc scope N tg fs k fp z j->PV (t6 X scope N tg fs fp z j) elt f)(ct:vj sc N L i y=cC:=by decide +kernel)(c:cB sc scope N tg T n fs=cC:=by decide +kernel)(hs:∀x,pj iter X.env x=pure x:=by intro _;rfl):
 PS X (.Assign [.Name y py] (.ListComp elt [(tg,iter,[DB],0)] scope cpos) spos) (gW (tO X.K<|zW src T n fs kk f)<|Zm i):=by
 obtain⟨a,b,d,s,q⟩:=cA h c;have r:=ON (cpos:=cpos) (spos:=spos) (py:=py) i h ct h.calm a b B q (λfp z j=>I fp z j<|s fp z j) (λfp z j=>O fp z j<|s fp z j) hs;rw[d,Kk]at r;exact r
theorem IY(h:SX X sc N L k)(B:ri X tg iter src)(I:∀fp z j,SA X sc scope N tg fs k fp z j->PO (t6 X scope N tg fs fp z j) elt fo)(ct:vj sc N L i y=cC:=by decide +kernel)(c:cB sc scope N tg T n fs=cC:=by decide +kernel)(hs:∀x,pj iter X.env x=pure x:=by intro _;rfl):
 ji X (.Assign [.Name y py] (.ListComp elt [(tg,iter,[],0)] scope cpos) spos) (uc i<|dZ src T n fs fo):=by
 obtain⟨a,b,d,s,q⟩:=cA h c;have r:=zfk (cpos:=cpos) (spos:=spos) (py:=py) i h ct h.calm a b B q (λfp z j=>I fp z j<|s fp z j) hs;simp only[d,Kk]at r;exact r
theorem iq(h:SX X sc N L k)(c:vH sc N i x=cC:=by decide +kernel):PV X (.Name x pos) (zf i):=IP i<|h.var c
theorem RI(h:SX X sc N L k)(c:vH sc N i x=cC:=by decide +kernel):PQ X (.Name x pos) (zm i):=Ld i<|h.var c
theorem Eg(h:SX X sc N L k)(c:DS sc N L e T=cC:=by decide +kernel):PG X e (pZ X.K T):=Ef h c
theorem OM(h:SX X sc N L k)(y:PV X e f)(c:vj sc N L i x=cC:=by decide +kernel)(hs:rH e (cz (.Name x py)) pos.line X.env=pure cL:=by rfl):ji X (.Assign [.Name x py] e pos) (jF i f):=ET i<|h.set i c y hs
theorem IZ(h:SX X sc N L k)(y:PO X e fo)(c:vj sc N L i x=cC:=by decide +kernel)(hs:rH e (cz (.Name x py)) pos.line X.env=pure cL:=by rfl):ji X (.Assign [.Name x py] e pos) (kN i fo):=Vj i<|h.set i c y hs
theorem qE{j:List h9}(y:X.xe=λ_ _=>False)(h:SX X sc N L k)(z:g8 X tg iter src)(I:mf X j F)(c:DS sc N L tg T=cC:=by decide +kernel)(hs:∀x,pj iter X.env x=pure x:=by intro _;rfl):ji X (.For tg iter j [] pos) (wU src T F):=EU (Cd y) h.calm z (Ef h c) I hs
theorem zx(h:SX X sc N L k:=by assumption)(c:vH sc N i x=cC:=by decide +kernel):PV X (.Name x pos) (zf i):=iq h c
theorem jR(h:SX X sc N L k:=by assumption)(c:vH sc N i x=cC:=by decide +kernel):PQ X (.Name x pos) (zm i):=RI h c
theorem zI(h:SX X sc N L k:=by assumption)(c:vH sc N i x=cC:=by decide +kernel):PV X (.Subscript (.Name x p1) (.Constant (.int j) u p2) p3) (cI (zm i)<|sI j):=jh (RI h c) zw
theorem gw{pos:f9}(h:SX X sc N L k:=by assumption)(c:vH sc N i x=cC:=by decide +kernel):rF X [.Name x pos] 1 (zb (zf i) zD):=za (iq h c) zo
theorem gv{pos j:f9}(h:SX X sc N L k:=by assumption)(c:vH sc N i x=cC:=by decide +kernel)(y:vH sc N i2 x2=cC:=by decide +kernel):rF X [.Name x pos,.Name x2 j] 2 (zb (zf i)<|zb (zf i2) zD):=za (iq h c)<|gw h y
theorem lT{pos j y:f9}(h:SX X sc N L k:=by assumption)(c:vH sc N i x=cC:=by decide +kernel)(I:vH sc N i2 x2=cC:=by decide +kernel)(O:vH sc N i3 x3=cC:=by decide +kernel):rF X [.Name x pos,.Name x2 j,.Name x3 y] 3 (zb (zf i)<|zb (zf i2)<|zb (zf i3) zD):=za (iq h c)<|gv h I O
theorem z5(y:PV X e f)(h:SX X sc N L k:=by assumption)(c:vj sc N L i x=cC:=by decide +kernel)(hs:rH e (cz (.Name x py)) pos.line X.env=pure cL:=by rfl):ji X (.Assign [.Name x py] e pos) (jF i f):=OM h y c hs
theorem xU(y:PO X e fo)(h:SX X sc N L k:=by assumption)(c:vj sc N L i x=cC:=by decide +kernel)(hs:rH e (cz (.Name x py)) pos.line X.env=pure cL:=by rfl):ji X (.Assign [.Name x py] e pos) (kN i fo):=IZ h y c hs
theorem IR(y:d9 X.prog X.w X.K X.mg X.base j x n F)(h:SX X sc N L k)(z:rF X (e::es) n gl)(I:j<=k:=by decide)(c:wQ sc x=cC:=by decide +kernel)
 (O:ed (e::es) X.env=(cL,dy e X.env)::ed es X.env:=by rfl) (Q:(m5 pos<|starEach es X.env).any (·.1)=cL:=by rfl):PV X (.Call (.Name x p) (e::es) [] pos) (zC F gl):=IQ y I h c z O Q
theorem OP(y:d9 X.prog X.w X.K X.mg X.base j x n F)(h:SX X sc N L k)(z:rF X (e::es) n gl)(I:j<=k:=by decide)(c:wQ sc x=cC:=by decide +kernel)
 (O:ed (e::es) X.env=(cL,dy e X.env)::ed es X.env:=by rfl) (Q:(m5 pos<|starEach es X.env).any (·.1)=cL:=by rfl):PO X (.Call (.Name x p) (e::es) [] pos) (jm F gl):=Lf y I h c z O Q
theorem zN(y:d9 X.prog X.w X.K X.mg X.base j x n F)(z:rF X (e::es) n gl)(h:SX X sc N L k:=by assumption)(I:j<=k:=by decide)(c:wQ sc x=cC:=by decide +kernel)
 (O:ed (e::es) X.env=(cL,dy e X.env)::ed es X.env:=by rfl) (Q:(m5 pos<|starEach es X.env).any (·.1)=cL:=by rfl):PV X (.Call (.Name x p) (e::es) [] pos) (zC F gl):=IQ y I h c z O Q
theorem qa(y:d9 X.prog X.w X.K X.mg X.base j x n F)(z:rF X (e::es) n gl)(h:SX X sc N L k:=by assumption)(I:j<=k:=by decide)(c:wQ sc x=cC:=by decide +kernel)
 (O:ed (e::es) X.env=(cL,dy e X.env)::ed es X.env:=by rfl) (Q:(m5 pos<|starEach es X.env).any (·.1)=cL:=by rfl):PO X (.Call (.Name x p) (e::es) [] pos) (jm F gl):=Lf y I h c z O Q
end
theorem Pk{P:hH}{w:hB}{K:Ti}{j:DX}{base:eK}{Q:Ti->(Str->Option dj)->Prop}{x:Str}{st:h9}{N ps:List Str}{k:Nat}{F:CO Fl}(E:Q K j)(A:∀{K:Ti} {j:DX},Q K j->eg K j x st ps)(z:VS N ps st=cC)
 (y:∀X,Q X.K X.mg->SX X (jo st) N N k->X.xe=(λ_ _=>False)->mf X (qp st) F):d9 P w K j base (k+1) x ps.length (jA N.length F):=
 NJ (A E) z λX I a O U Y Z b=>by subst I a O U Y;exact y X E Z b
def DI(st:h9):List Str:=((jo st).names.filter λy=>y.2 ==.local || y.2 ==.cell).map (·.1)
theorem qG{P:hH}{w:hB}{K:Ti}{j:DX}{base:eK}{Q:Ti->(Str->Option dj)->Prop}{x:Str}{st:h9}{ps:List Str}{k n:Nat}{F:CO Fl}(E:Q K j)(A:∀{K:Ti} {j:DX},Q K j->eg K j x st ps)
 (y:∀X,Q X.K X.mg->SX X (jo st) (DI st) (DI st) k->X.xe=(λ_ _=>False)->mf X (qp st) F) (z:VS (DI st) ps st=cC:=by decide +kernel) (I:(DI st).length=n:=by decide +kernel):d9 P w K j base (k+1) x ps.length (jA n F):=I ▸ Pk (N:=DI st) E A z y
def xb:=mr (uh (sB<|zM t7 (JR<|zm 0)<|sI 1)<|sB<|zM gB (zM wb (cI (zm 0)<|sI 0)<|sI 2)<|sI 1) (zV (jF 2<|cI (zm 0)<|zM j6 (sI 1)<|zM wb (zf 1)<|zM JC (JR<|zm 0)<|sI 1)<|zV (wU (jg<|nG (sI 60)<|zM K0 (zf 1)<|zM JC (JR<|zm 0)<|sI 1) (.nm 3)<|jF 2<|zM K0 (zf 2)<|zM GD (sI 10)<|sI 9)<|qQ<|zM wb (zf 2)<|zM GD (sI 10)<|sI 9) ye
def Ho:=mr (sB<|zM t7 (JR<|zm 0)<|sI 0) (jF 4<|cI (zm 0)<|zM wb (zf 1)<|JR<|zm 0) ye
def O4:=qQ<|zM wb (zM yE (zM wb (zM j6 (zM j6 (zM j6 (zM yE (zM wb (zf 4)<|zM GD (sI 10)<|sI 30)<|sI 48271)<|zM yE (zM yE (sI 7)<|zf 1)<|zf 1)<|zM yE (sI 13)<|zf 1)<|sI 5)<|sI 2147483647)<|sI 69621)<|sI 1000000007
def qe:=jA 5<|zV xb<|zV (jF 4<|zf 1)<|zV Ho O4
def qB:=jA 5<|zV (jF 3<|jX<|zW (KL (cI (zm 0)<|sI 2)<|cI (zm 2)<|sI 2) (.tp [0,1]) 2 [] jB (zM j6 (zf 0)<|zf 1))<|zV (jF 4<|jX<|zW (z9<|zH<|cI (zm 1)<|sI 2) (.nm 0) 1 [0] jB (zM j6 (zM yE (qv<|zb (sI 0) zD)<|cI (zm 1)<|sI 1)<|zf 0))<|qQ<|qv<|zb (zM j6 (cI (zm 0)<|sI 0)<|cI (zm 1)<|sI 0)<|zb (zM j6 (cI (zm 0)<|sI 1)<|cI (zm 1)<|sI 1)<|zb (jx<|zH<|jX<|bC (zm 3)<|zm 4) zD
def ka:=jA 2<|qQ<|zC kH<|zb (cI (zm 0)<|sI 0)<|zb (cI (zm 1)<|sI 1) zD
def xl:=jA 2<|qQ<|zC qB<|zb (zf 0)<|zb (zf 1)<|zb (zC ka<|zb (zf 0)<|zb (zf 1) zD) zD
def wj:=jA 3<|wN<|jm xi<|zb (zf 0)<|zb (cI (zm 1)<|sI 0)<|zb (jX<|zW (z9<|zm 2) (.nm 0) 1 [0,1] jB (zC aT<|zb (zf 1)<|zb (zf 2)<|zb (zf 0) zD)) zD
def iZ:=(BK 4<|kN 4<|BN wj qO<|zb (cI (zm 0)<|sI 0)<|zb (cI (zm 5)<|sI 0)<|zb (zC xl<|zb (zf 3)<|zb (cI (zm 5)<|sI 1) zD)<|zb (zf 4) zD)
def gF:=jA 6<|zV (jF 3<|zC ql<|zb (cI (zH<|cI (zm 0)<|sI 1)<|zf 1) zD)<|zV (kN 4<|zW (z9<|zH<|cI (zm 3)<|sI 2) (.nm 0) 1 [] jB (zM j6 (zf 0)<|zf 0))<|zV (wU (z9<|zH<|V6 (cI (zm 0)<|sI 2) (n5<|zf 1)<|n5<|zf 2) (.nm 5) iZ)<|Jk 4
def kY:=jA 3 (zV (mr (sB (zM gB (cI (zm 1) (sI 0)) (cI (zm 2) (sI 0)))) (qQ (vE (.bl cC))) ye) (qQ (zM gB (wG (zf 0) (zM JC (ue (cI (zm 1) (sI 0)) (cI (zm 2) (sI 0))) (sI 1))) (ig (sB (zM DD (cI (zm 1) (sI 0)) (cI (zm 2) (sI 0)))) (vE (.str "l")) (vE (.str "r"))))))
def x9:=jA 3 (zV (mr (sB (zM gB (cI (zm 1) (sI 1)) (cI (zm 2) (sI 1)))) (qQ (vE (.bl cC))) ye) (qQ (zM gB (wG (zf 0) (nG (cI (zm 1) (sI 1)) (cI (zm 2) (sI 1)))) (ig (sB (zM t7 (cI (zm 1) (sI 1)) (cI (zm 2) (sI 1)))) (vE (.str "r")) (vE (.str "l"))))))
def yq:=jA 3<|zV (mr (sB<|zM t7 (ue (cI (zm 1)<|sI 0)<|cI (zm 2)<|sI 0)<|nG (cI (zm 1)<|sI 1)<|cI (zm 2)<|sI 1) (qQ<|sI 0) ye)<|qQ<|ig (uh (sB<|zC kY<|zb (zf 0)<|zb (zf 1)<|zb (zf 2) zD)<|sB<|zC x9<|zb (zf 0)<|zb (zf 1)<|zb (zf 2) zD) (sI 1)<|sI 0
def xJ:=jA 2 (zV (mr (sB (zM gB (wG (zf 0) (zf 1)) (vE (.str "r")))) (qQ (qv (zb (zf 1) (zb (zM j6 (zf 1) (sI 1)) zD)))) ye) (qQ (qv (zb (zM j6 (zf 1) (sI 1)) (zb (zf 1) zD)))))
def qC:=jA 8<|zV (kN 4<|kO zD)<|zV (wU (jg<|zf 2) (.nm 5)<|zV (jF 6<|zC qe<|zb (zf 0)<|zb (zM j6 (zf 1)<|zf 5) zD)<|zV (jF 7<|zM wb (zf 6)<|zf 3)<|qH 4<|qv<|zb (zf 7)<|zb (zM j6 (zf 7)<|zM wb (zM K0 (zf 6)<|zf 3)<|zM JC (zf 3)<|zf 7) zD)<|wN<|BJ<|zm 4
def xu:=jA 2 (qQ (EF (vE (.str "")) (qU (zW (jg (zM JC (zf 1) (sI 1))) (.nm 0) 1 [0] jB (wG (vE (.str "rl")) (zM wb (zM K0 (zf 1) (cI (qU (kO (zb (sI 1) (zb (sI 2) (zb (sI 4) (zb (sI 8) (zb (sI 16) zD))))))) (zf 0))) (sI 2)))))))
def qr:=jA 3<|zV (kN 1<|kO zD)<|zV (wU (jg<|zf 0) (.nm 2)<|nJ 1<|zW (wY (zf 2)<|zf 0) (.nm 0) 1 [2] jB (qv<|zb (zf 1)<|zb (zf 0) zD))<|Jk 1
def kM:=jA 1<|mr (sB<|zM t7 (BI<|zm 0)<|sI 30) Yf ye
def jJ:=jA 3<|zV (jF 2<|jx<|qU<|zW (KL (cI (zm 0)<|sI 1)<|cI (zm 1)<|sI 1) (.tp [0,1]) 2 [] jB (zM j6 (zf 0)<|zf 1))<|zV (KM<|zC kM<|zb (zf 2) zD)<|Jk 2
def Xo:=jA 5<|zV (jF 3<|zC jJ<|zb (zf 0)<|zb (zf 1) zD)<|zV (jF 4<|jX<|zW (ED (cI (zm 0)<|sI 2) (cI (zm 1)<|sI 2)<|zf 2) (.tp [0,1,2]) 3 [] jB (qv<|zb (cI (zm 0)<|sI 0)<|zb (zC qB<|zb (cI (zm 0)<|sI 1)<|zb (cI (zm 1)<|sI 1)<|zb (zf 2) zD) zD))<|qQ<|qv<|zb (cI (zm 0)<|sI 0)<|zb (zf 3)<|zb (jx<|zm 4) zD
def qm:=jA 3<|zV (jF 2<|zC x6<|zb (zf 0) zD)<|wN<|zW (nK<|zf 2) (.tp [0,1]) 2 [0,1] jB (qv<|zb (cI (zH<|cI (zm 3)<|sI 1)<|zC ZF<|zb (zf 0)<|zb (zf 1) zD)<|zb (cI (zH<|cI (zm 2)<|sI 1)<|zC qP<|zb (zf 0)<|zb (zf 1) zD) zD)
def JQ:=jA 2<|qQ<|OB (L1 .tuple<|zf 1)<|zM gB (V6 (zf 1) aX<|n5<|sI 2)<|zf 0
def MW:=(mr (Oz (sB<|zM B7 (zf 4)<|JR<|zm 2)<|XG<|sB<|zC JQ<|zb (zf 5)<|zb (cI (zm 2)<|zf 4) zD) Yf ye)
def wz:=jA 6<|zV (KM<|zC jT<|zb (zf 0)<|zb (zf 1) zD)<|zV (jF 3<|jX<|jm qm<|zb (zf 1)<|zb (zf 0) zD)<|zV (wU (dY<|zf 3) (.tp [4,5]) MW)<|mr (sB<|zM t7 (JR<|zm 2)<|JR<|zm 3) Yf ye
def wm:=jA 3<|zV (KM<|zC wz<|zb (zf 0)<|zb (zf 1)<|zb (zf 2) zD)<|qQ<|zC Xo<|zb (zf 0)<|zb (zf 1)<|zb (zf 2) zD
def Mz:=(zV (Wu (.tp [7,8])<|zC xJ<|zb (zf 1)<|zb (zf 6) zD)<|zV (jF 9<|jx<|qU<|zW (z9<|zH<|cI (zm 4)<|zf 6) (.nm 0) 1 [] jB (jx<|zm 0))<|qH 5<|qv<|zb (wG (zf 1)<|zf 6)<|zb (qv<|zb (cI (zm 3)<|zf 8)<|zb (cI (zm 3)<|zf 7)<|zb (zf 9) zD) zD)
def qD:=jA 10<|zV (Wu (.tp [3,4])<|zf 2)<|zV (kN 5<|kO zD)<|zV (wU (jg<|wZ<|zf 1) (.nm 6) Mz)<|qQ<|qv<|zb (zf 0)<|zb (jx<|zm 3)<|zb (jx<|zm 5) zD
def Xp:=jA 2<|zV (KM<|zC jT<|zb (zf 0)<|zb (zf 1) zD)<|qQ<|zC Xo<|zb (zf 0)<|zb (zf 1)<|zb (jX<|zW (KL (cI (zm 0)<|sI 2)<|cI (zm 1)<|sI 2) (.tp [0,1]) 2 [] jB (zC ka<|zb (cI (zm 0)<|sI 1)<|zb (cI (zm 1)<|sI 1) zD)) zD
def kW:=jA 2<|wN<|nH (cI (zm 1)<|sI 1)<|cI (zm 0)<|sI 1
def xH:=jA 1<|qQ<|BI<|qU<|zW (z9<|zm 0) (.tp [0,1]) 2 [] jB (zM yE (zf 0)<|zf 1)
def vB:=jA 4<|zV (kN 1<|kO zD)<|zV (wU (z9<|zH<|zf 0) (.nm 2)<|wU (z9<|zH<|cI (zm 2)<|sI 2) (.nm 3)<|ik 1<|zm 3)<|qQ<|jx<|zm 1
def sH:=jA 3<|qQ<|zC kg<|zb (zf 0)<|zb (zf 1)<|zb (ud<|sI 1)<|zb (zf 2) zD
def Bn:=jA 8<|zV (jF 4<|cI (zm 0)<|sI 0)<|zV (jF 5<|cI (zH<|cI (zH<|cI (zm 0)<|sI 2)<|zf 3)<|sI 0)<|zV (jF 6<|zC yH<|zb (zf 4)<|zb (cI (zm 2)<|zC ZF<|zb (zf 3)<|zb (zf 5) zD)<|zb (cI (zH<|cI (zH<|cI (zm 0)<|sI 2)<|zf 3)<|sI 1) zD)<|zV (jF 7<|zC yH<|zb (zf 4)<|zb (cI (zH<|cI (zH<|cI (zm 1)<|sI 2)<|zf 3)<|sI 1)<|zb (cI (zm 2)<|zC qP<|zb (zf 3)<|zb (zf 5) zD) zD)<|qQ<|zC sH<|zb (zf 4)<|zb (zf 6)<|zb (zf 7) zD
def gG:=jA 3<|wN<|zW (jg<|JR<|zH<|cI (zm 0)<|sI 2) (.nm 0) 1 [0,1,2] jB (zC Bn<|zb (zf 1)<|zb (zf 2)<|zb (zf 3)<|zb (zf 0) zD)
def P2:=(zV (jF 6<|jX<|zW (jg<|zf 4) (.nm 0) 1 [1,3,5] jB (V6 (zf 1) (n5<|zM j6 (zf 2)<|zM yE (zf 0)<|zf 3)<|n5<|zM j6 (zf 2)<|zM yE (zM j6 (zf 0)<|sI 1)<|zf 3))<|zV (qH 2<|qv<|zb (zf 4)<|zb (zf 5)<|zb (jx<|zm 6) zD)<|jF 3<|zM j6 (zf 3)<|zM yE (zf 4)<|zf 5)
def xC:=jA 7<|zV (kN 2<|kO zD)<|zV (jF 3<|sI 0)<|zV (wU (z9<|zH<|zf 0) (.tp [4,5]) P2)<|Jk 2
def Zs:=jA 5<|zV (jF 2<|jX<|jm kW<|zb (zf 0)<|zb (zf 1) zD)<|zV (jF 3<|zC xH<|zb (zf 2) zD)<|zV (jF 4<|jX<|zW (z9<|zH<|cI (zH<|zC ql<|zb (zf 3) zD)<|sI 2) (.nm 0) 1 [0,1,2] jB (zC vB<|zb (jX<|jm gG<|zb (zf 1)<|zb (zf 2)<|zb (jX<|jm xC<|zb (zf 3)<|zb (zf 0) zD) zD) zD))<|qQ<|zC jO<|zb (qv<|zb (zf 3)<|zb (zC xH<|zb (jX<|jm qm<|zb (zf 0)<|zb (zf 1) zD) zD)<|zb (jx<|zm 4) zD) zD
def kB:=jA 5<|zV (jF 3<|zC jO<|zb (zf 1) zD)<|zV (jF 4<|qv<|zb (zM j6 (cI (zm 3)<|sI 0)<|sI 1)<|zb (cI (zm 3)<|sI 1)<|zb (zM j6 (cI (zm 3)<|sI 2)<|qv<|zb (zf 2) zD) zD)<|qQ<|zC yk<|zb (zf 0)<|zb (zf 4)<|zb (zM j6 (zM yE (qv<|zb (sI 0) zD)<|cI (zm 3)<|sI 0)<|qv<|zb (sI 1) zD) zD
def DF:=zV (jF 6 (zC yk (zb (zf 3) (zb (zf 4) (zb (zf 5) zD))))) (zV (mr (sB (zM Kp (zf 6) (vE .d7))) (qQ (qv (zb (vE (.str "parted")) (zb (jX (jm xC (zb (jX (jm kW (zb (zf 1) (zb (zf 0) zD)))) (zb (zf 6) zD)))) zD)))) ye) (zV (jF 7 (jX (jm xC (zb (jX (jm qm (zb (zf 1) (zb (zf 0) zD)))) (zb (zC kB (zb (zf 3) (zb (zf 4) (zb (zf 5) zD)))) zD))))) (qQ (qv (zb (vE (.str "stuck")) (zb (jX (zW (z9 (zm 7)) (.nm 0) 1 [] jB (zC jO (zb (zf 0) zD)))) zD))))))
def wu:=jA 8<|zV (KM<|zC wz<|zb (zf 0)<|zb (zf 1)<|zb (zf 2) zD)<|zV (KM<|zC jJ<|zb (zf 0)<|zb (zf 1) zD)<|zV (jF 3<|cI (zm 0)<|sI 0)<|zV (jF 4<|zC Zs<|zb (zf 1)<|zb (zf 0) zD)<|zV (jF 5<|zC kC<|zb (zf 3)<|zb (jX<|zW (z9<|zH<|zC vB<|zb (zf 2) zD) (.nm 0) 1 [] jB (ud<|zf 0)) zD) DF
def qk:=jA 1<|qQ<|qv<|zb (cI (zm 0)<|sI 0)<|zb (zM JC (zM j6 (cI (zm 0)<|sI 0)<|JR<|zH<|cI (zm 0)<|sI 1)<|sI 1) zD
def qf:=jA 2<|qQ<|Yg xr DD (cI (zm 0)<|sI 0) (zf 1)<|zM j6 (cI (zm 0)<|sI 0)<|JR<|zH<|cI (zm 0)<|sI 1
def xI:=jA 2<|wN<|zW (z9<|zm 0) (.nm 0) 1 [1] (sB<|zC qf<|zb (zf 0)<|zb (zf 1) zD) (cI (zH<|cI (zm 0)<|sI 1)<|zM JC (zf 1)<|cI (zm 0)<|sI 0)
def yM:=jA 2<|qQ<|zC jO<|zb (qv<|zb (JR<|zm 1)<|zb (zf 0)<|zb (jx<|zm 1) zD) zD
def vd:=jA 5<|zV (jF 4<|jX<|zW (KL (zf 2)<|zf 1) (.tp [0,1]) 2 [3] (sB<|zC qf<|zb (zf 1)<|zb (zf 2) zD) (zf 0))<|qQ<|zC aT<|zb (cI (zm 0)<|sI 0)<|zb (zC yM<|zb (cI (zH<|cI (zm 0)<|sI 1)<|zf 3)<|zb (jX<|jm xI<|zb (zf 1)<|zb (zf 3) zD) zD)<|zb (zf 4) zD
def V3:=jA 5<|zV (jF 3<|cI (zm 1)<|zC kc<|zb (zf 2) zD)<|zV (jF 4<|jX<|zW (jg<|JR<|zH<|cI (zm 3)<|sI 1) (.nm 0) 1 [0,1,2,3] jB (zC vd<|zb (zf 1)<|zb (zf 2)<|zb (zf 3)<|zb (zM j6 (cI (zm 4)<|sI 0)<|zf 0) zD))<|qQ<|qv<|zb (cI (zm 3)<|sI 0)<|zb (jx<|zm 4) zD
def KB:=jA 8 (zV (jF 3 (cI (zH (cI (zH (cI (zm 0) (sI 2))) (zf 1))) (sI 0))) (zV (jF 4 (cI (zH (cI (zH (cI (zm 0) (sI 2))) (zf 1))) (sI 1))) (zV (jF 5 (ig (sB (zM gB (zf 3) (vE (.str "r")))) (jX (jm wt (zb (cI (zm 0) (sI 0)) (zb (zf 4) zD)))) (jX (jm QK (zb (cI (zm 0) (sI 0)) (zb (zf 4) zD)))))) (zV (jF 6 (jX (jm qO (zb (cI (zm 0) (sI 0)) (zb (zC yM (zb (cI (zH (cI (zm 0) (sI 1))) (zf 1)) (zb (jX (jm xI (zb (zf 2) (zb (zf 1) zD)))) zD))) (zb (zf 5) zD)))))) (zV (jF 7 (BL (zW (z9 (zm 6)) (.nm 0) 1 [] jB (qv (zb (zC kc (zb (zf 0) zD)) (zb (zf 0) zD)))))) (wN (zW (dY (zf 2)) (.tp [0,1]) 2 [0,2,7] jB (ig (sB (Iu (zf 0) (zf 4))) (zC V3 (zb (zf 2) (zb (zf 3) (zb (Nq (zf 4) (zf 0)) zD)))) (zf 1)))))))))
def yK:=jA 4 (zV (mr (sB (zM gB (cI (zm 1) (sI 0)) (vE (.str "l")))) (qQ (zC yk (zb (zf 0) (zb (cI (zm 1) (sI 1)) (zb (zf 2) zD))))) ye) (zV (jF 3 (zC aT (zb (zf 0) (zb (cI (zm 1) (sI 1)) (zb (zf 2) zD))))) (qQ (ig (sB (Hm (zm 3))) (zf 3) (vE .d7)))))
def B_:=(jF 3<|zC yK<|zb (zf 0)<|zb (zf 1)<|zb (cI (zH<|cI (zm 2)<|sI 1)<|ud<|sI 1) zD)
def C':=(qQ<|ig (sB<|zM MK (zf 3)<|vE .d7) (zf 2)<|qv<|zb (cI (zm 2)<|sI 0)<|zb (zM j6 (cI (zm 2)<|sI 1)<|qv<|zb (zf 3) zD) zD)
def vC:=jA 4<|zV B_ C'
def Jc:=jA 3 (zV (mr (sB (zM gB (cI (zm 1) (sI 0)) (vE (.str "l")))) (wN (jm wt (zb (zf 0) (zb (cI (zm 1) (sI 1)) zD)))) ye) (zV (jF 2 (jX (zW (z9 (qU (jm QK (zb (zf 0) (zb (cI (zm 1) (sI 1)) zD))))) (.nm 0) 1 [] jB (zC kc (zb (zf 0) zD))))) (wN (zW (ug (cI (zH (zC ql (zb (cI (zH (cI (zm 1) (sI 1))) (sI 0)) zD))) (sI 2))) (.tp [0,1]) 2 [2] (sB (bB (zf 0) (zm 2))) (zf 1)))))
def V4:=jA 9 (zV (jF 3 (cI (zm 0) (sI 0))) (zV (jF 4 (cI (zH (cI (zm 0) (sI 2))) (zf 1))) (zV (jF 5 (jX (zW (z9 (zm 2)) (.nm 0) 1 [1] (XG (sB (zC qf (zb (zf 0) (zb (zf 1) zD))))) (zf 0)))) (zV (jF 6 (jX (jm KB (zb (zf 0) (zb (zf 1) (zb (jX (zW (z9 (zm 2)) (.nm 0) 1 [1] (sB (zC qf (zb (zf 0) (zb (zf 1) zD)))) (zf 0))) zD)))))) (zV (jF 7 (jX (zW (z9 (zm 6)) (.nm 0) 1 [3,4] jB (zC vC (zb (zf 1) (zb (zf 2) (zb (zf 0) zD))))))) (zV (jF 8 (jX (zW (z9 (qU (jm Jc (zb (zf 3) (zb (zf 4) zD))))) (.nm 0) 1 [1] jB (qv (zb (zM j6 (zf 1) (sI 1)) (zb (qv (zb (zf 0) zD)) zD)))))) (qQ (jX (bC (zm 5) (zH (ig (sB (zM gB (cI (zm 4) (sI 0)) (vE (.str "r")))) (jX (bC (zm 8) (zm 7))) (jX (bC (zm 7) (zm 8))))))))))))))
def O2:=(jF 1<|jX<|zW (z9<|zH<|cI (zH<|zC ql<|zb (cI (zH<|cI (zm 0)<|sI 1)<|sI 0) zD)<|sI 2) (.nm 0) 1 [] jB (qv<|zb (sI 0)<|zb (qv<|zb (zf 0) zD) zD))
def w?:=(wU (jg<|JR<|zH<|cI (zm 0)<|sI 2) (.nm 2)<|jF 1<|zC V4<|zb (zf 0)<|zb (zf 2)<|zb (zf 1) zD)
def U1:=(wN<|nE qk<|zm 1)
def wA:=jA 3<|zV O2<|zV w? U1
def qw:=jA 4<|zV (jF 1<|jX<|jm wA<|zb (zf 0) zD)<|zV (jF 2<|jX<|zW (ug<|cI (zm 0)<|sI 1) (.tp [0,1]) 2 [1] jB (zC yM<|zb (zf 1)<|zb (jX<|jm xI<|zb (zf 2)<|zb (zf 0) zD) zD))<|zV (jF 3<|jX<|zW (z9<|zm 2) (.nm 0) 1 [0] jB (zC yO<|zb (cI (zm 1)<|sI 0)<|zb (zf 0) zD))<|qQ<|qv<|zb (jX<|zW (z9<|zm 1) (.nm 0) 1 [] jB (zC qk<|zb (zf 0) zD))<|zb (zf 3)<|zb (zf 2) zD
def e_:=jF 3<|jX<|jm gF<|zb (zf 0)<|zb (zf 1)<|zb (zf 2) zD
def f_:=jF 4<|cI (zH<|cI (zm 0)<|sI 1)<|zf 1
def g_:=jF 5<|cI (zH<|cI (zm 0)<|sI 1)<|zf 2
def h_:=jF 6<|jX<|jm xi<|zb (cI (zm 0)<|sI 0)<|zb (zM j6 (zf 5)<|zf 4)<|zb (jX<|zW (z9<|zm 3) (.nm 0) 1 [4] jB (zM j6 (V6 (zf 0) (n5<|zf 1) aX)<|V6 (zf 0) aX<|n5<|zf 1)) zD
def i':=qQ<|zM JC (zM JC (JR<|zm 3)<|JR<|qU<|jm qg<|zb (zf 5)<|zb (zf 6) zD)<|JR<|qU<|jm qg<|zb (zf 4)<|zb (zf 3) zD
def KD:=jA 7<|zV e_<|zV f_<|zV g_<|zV h_ i'
def p_:=jF 3<|zM j6 (uf (zf 0) (qv<|zb (zM JC (zf 1)<|sI 1)<|zb (zf 2) zD)<|sI 0)<|uf (zf 0) (qv<|zb (zf 1)<|zb (zM j6 (zf 2)<|sI 1) zD)<|sI 0
def q_:=qQ<|zM j6 (zM JC (nN (zf 0)<|qv<|zb (zf 1)<|zb (zf 2) zD)<|zf 3)<|uf (zf 0) (qv<|zb (zM JC (zf 1)<|sI 1)<|zb (zM j6 (zf 2)<|sI 1) zD)<|sI 0
def yJ:=jA 4<|zV p_ q_
def n_:=jF 1<|jX<|jm qr<|zb (JR<|zH<|cI (zm 0)<|sI 1) zD
def I0:=jF 2<|nM<|zW (z9<|zm 1) (.tp [0,1]) 2 [0] jB (qv<|zb (qv<|zb (zf 0)<|zb (zf 1) zD)<|zb (zC KD<|zb (zf 2)<|zb (zf 0)<|zb (zf 1) zD) zD)
def o_:=qQ<|nM<|zW (z9<|zm 1) (.tp [0,1]) 2 [2] jB (qv<|zb (qv<|zb (zf 0)<|zb (zf 1) zD)<|zb (zC yJ<|zb (zf 2)<|zb (zf 0)<|zb (zf 1) zD) zD)
def vD:=jA 3<|zV n_<|zV I0 o_
noncomputable def RO:List (List Int)->List Int->List Int->Option Int
 |k::ks,n::ns,i=>if k=i then cz n else RO ks ns i
 |_,_,_=>none
def eqT(j:List (List Int))(z:List Int)(y:List (List Int))(I:List Int):Bool:=decide (j.length=y.length)&&(j.zip z).all λx=>decide<|RO y I x.1=cz x.2
def RR(d e:D):Option Bool:=match d with
 |.lC a f=>match e with
  |.lC y I=>(Kg f).bind λb=>(Kg I).map λO=>eqT a b y O
  |_=>none
 |_=>none
@[simp] def zhw(d e:D):Option D:=(RR d e).map D.bl
@[simp] def zhv(d e:D):Option D:=(RR d e).map λb=>D.bl<|!b
def qM:=jA 3<|qQ<|BI<|qU<|zW (z9<|zm 1) (.nm 0) 1 [0,2] jB (zC yq<|zb (zf 1)<|zb (zf 0)<|zb (zf 2) zD)
def xK:=jA 3<|zV (KM<|zC jT<|zb (zf 0)<|zb (zf 1) zD)<|zV (jF 2<|cI (zH<|zC qw<|zb (zf 0) zD)<|sI 0)<|qQ<|BI<|qU<|zW (z9<|zH<|cI (zH<|zC qw<|zb (zf 1) zD)<|sI 0) (.nm 0) 1 [0,2] jB (zC qM<|zb (zC x6<|zb (zf 1) zD)<|zb (zf 2)<|zb (zf 0) zD)
def yI:=jA 2<|zV (KM<|zC jT<|zb (zf 0)<|zb (zf 1) zD)<|qQ<|zM JC (zC xH<|zb (jX<|jm kW<|zb (zf 0)<|zb (zf 1) zD) zD)<|zC xH<|zb (jX<|jm qm<|zb (zf 0)<|zb (zf 1) zD) zD
def xM:=jA 2<|qQ<|zM JC (zC xK<|zb (zf 0)<|zb (zf 1) zD)<|zC yI<|zb (zf 0)<|zb (zf 1) zD
def Bg:CO (List D):=zW (jg<|JR<|zm 1) (.nm 0) 1 [1,3] (sB<|Yg xr xr (cI (zH<|cI (zm 1)<|zf 0)<|sI 0) (zf 2)<|cI (zH<|cI (zm 1)<|zf 0)<|sI 1) (zf 0)
def GQ:CO D:=jX<|zW (z9<|zH<|cI (zm 1)<|zf 2) (.nm 0) 1 [0] jB (Vd<|zM gB (zf 1)<|zf 0)
def MS:CO (List D):=zW (z9<|zH<|cI (zm 2)<|zf 7) (.nm 0) 1 [2,6] jB GQ
def MU:=zV (Wu (.tp [6,7])<|zC xJ<|zb (zf 0)<|zb (zf 5) zD)<|qH 4<|jX MS
def MT:=BK 4<|qQ<|qv<|zb (jX<|zW (z9<|zm 2) (.nm 0) 1 [] jB (JR<|zm 0))<|zb (zf 4) zD
def xw:=jA 8<|zV (kN 2<|kO zD)<|zV (wU (jg<|zM j6 (wZ<|zf 0)<|sI 1) (.nm 3)<|qH 2<|jX Bg)<|zV (BK 2<|kN 4<|kO zD)<|zV (wU (jg<|wZ<|zf 0) (.nm 5) MU) MT
def Ee:CO (List D):=zW (jg<|JR<|zm 3) (.nm 0) 1 [0,2,3] jB (zM yE (cI (zm 3)<|zf 0)<|cI (zH<|cI (zm 2)<|zf 0)<|zf 1)
def tJ:CO (List D):=zW (jg<|zf 3) (.nm 0) 1 [0,2,5] jB (zM wb (BI<|qU Ee)<|zf 1)
def jK:=jA 6<|zV (kN 4<|kO zD)<|zV (wU (z9<|zH<|zf 1) (.nm 5)<|qH 4<|jX tJ)<|Jk 4
def P4:=(kN 4<|zW (jg<|zf 3) (.nm 0) 1 [3] jB (jX<|zW (jg<|zf 1) (.nm 0) 1 [0] jB (Vd<|zM gB (zf 1)<|zf 0)))
def C_:=(uc 5<|dZ (jg<|zf 3) (.nm 0) 1 [3] (zW (jg<|zf 1) (.nm 0) 1 [0] jB (Vd<|zM gB (zf 1)<|zf 0)))
def Ov:=zV (nF 4 (zf 8)<|jX<|zW (KL (cI (zm 4)<|zf 8)<|cI (zm 4)<|zf 9) (.tp [0,1]) 2 [2,10] jB (zM wb (zM j6 (zf 0)<|zM yE (zf 3)<|zf 1)<|zf 2))<|nI 5 11 (zf 9)<|zM wb (zM JC (cI (zm 11)<|zf 9)<|zM yE (zf 10)<|cI (zm 11)<|zf 8)<|zf 2
def Ow:=zV (jF 7<|zC qe<|zb (zf 0)<|zb (zM j6 (zf 1)<|zf 6) zD)<|zV (jF 8<|zM wb (zf 7)<|zf 3)<|zV (jF 9<|zM wb (zM j6 (zM j6 (zf 8)<|sI 1)<|zM wb (zM K0 (zf 7)<|sI 8)<|zM JC (zf 3)<|sI 1)<|zf 3)<|zV (jF 10<|zM wb (zM K0 (zf 7)<|sI 64)<|zf 2) Ov
def Ek:=wU (jg<|zM JC (zM yE (sI 2)<|zf 3)<|sI 2) (.nm 6) Ow
def Ou:=Ir 5<|BK 4<|qQ<|qv<|zb (zf 4)<|zb (zf 5) zD
def ke:=jA 12<|zV P4<|zV C_<|zV Ek Ou
def EG:=qH 7<|zC ke<|zb (zf 0)<|zb (zM j6 (zf 1)<|zM yE (sI 9)<|zf 8)<|zb (zf 2)<|zb (cI (zm 5)<|zf 8) zD
def Iy:=jF 12<|jX<|jm jK<|zb (zf 2)<|zb (cI (zm 6)<|zf 8)<|zb (cI (zH<|cI (zm 7)<|zf 10)<|sI 1)<|zb (cI (zm 5)<|zf 10) zD
def Iw:=qH 9<|jX<|jm jK<|zb (zf 2)<|zb (cI (zH<|cI (zm 7)<|zf 11)<|sI 0)<|zb (zf 12)<|zb (cI (zm 5)<|zf 10) zD
def Iz:=zV (Wu (.tp [10,11])<|zC xJ<|zb (zf 3)<|zb (zf 8) zD)<|zV Iy Iw
def xh:=jA 13<|zV (Wu (.tp [5,6])<|zC xw<|zb (zf 3)<|zb (zf 4) zD)<|zV (kN 7<|kO zD)<|zV (wU (jg<|JR<|zm 5) (.nm 8) EG)<|zV (kN 9<|kO zD)<|zV (wU (jg<|wZ<|zf 3) (.nm 8) Iz)<|BK 9<|qQ<|qv<|zb (zf 5)<|zb (zf 9) zD
def xt:=jA 3<|wN<|zW (KL (zf 1)<|zf 2) (.tp [0,1]) 2 [0] jB (zC yH<|zb (zf 2)<|zb (zf 0)<|zb (zf 1) zD)
def xy:=jA 4<|qQ<|zM m8 (zC qM<|zb (zf 0)<|zb (zf 1)<|zb (zf 3) zD)<|zC qM<|zb (zf 0)<|zb (zf 2)<|zb (zf 3) zD
def Rr:CO Bool:=sB<|zM m8 (xA (zm 1)<|zf 0)<|xA (zm 2)<|zf 0
def Ob:CO Bool:=sB<|zC xy<|zb (zf 1)<|zb (zf 2)<|zb (zf 3)<|zb (zf 0) zD
def KG:=jA 6 (zV (jF 3 (jX (jm qr (zb (zM j6 (wZ (zf 0)) (sI 1)) zD)))) (zV (jF 4 (cI (qU (zW (z9 (zm 3)) (.nm 0) 1 [1,2] Rr (zf 0))) (sI 0))) (zV (jF 5 (cI (qU (zW (z9 (zm 3)) (.nm 0) 1 [0,1,2] Ob (zf 0))) (sI 0))) (qQ (qv (zb (vE (.str "apart")) (zb (zf 4) (zb (xA (zm 1) (zf 4)) (zb (xA (zm 2) (zf 4)) (zb (zf 5) zD))))))))))
def Jd:=jA 6 (zV (KM (zC jT (zb (zf 0) (zb (zf 1) zD)))) (zV (jF 2 (zC qw (zb (zf 0) zD))) (zV (jF 3 (zC qw (zb (zf 1) zD))) (zV (mr (sB (zM m8 (cI (zm 2) (sI 0)) (cI (zm 3) (sI 0)))) (qQ (zC KG (zb (zC x6 (zb (zf 0) zD)) (zb (cI (zm 2) (sI 0)) (zb (cI (zm 3) (sI 0)) zD))))) ye) (zV (jF 4 (jX (jm xt (zb (cI (zm 0) (sI 0)) (zb (cI (zm 3) (sI 2)) (zb (cI (zm 2) (sI 1)) zD)))))) (zV (jF 5 (jX (jm xt (zb (cI (zm 0) (sI 0)) (zb (cI (zm 2) (sI 2)) (zb (cI (zm 3) (sI 1)) zD)))))) (qQ (qv (zb (vE (.str "alike")) (zb (zf 4) (zb (zf 5) zD)))))))))))
def AI:=(zV (jF 10<|zC qe<|zb (zf 0)<|zb (zM j6 (zM j6 (zf 1)<|zM yE (zf 4)<|zf 7)<|zf 9) zD)<|qH 8<|zM yE (zM wb (zM K0 (zf 10)<|sI 7)<|zf 2)<|Vd<|zM B7 (zM wb (zM K0 (zf 10)<|sI 64)<|sI 3)<|zf 5)
def Ly:=(zV (kN 8<|kO zD)<|zV (wU (jg<|zf 4) (.nm 9) AI)<|BK 8<|qH 6<|zf 8)
def kJ:=jA 11<|zV (kN 6<|kO zD)<|zV (wU (jg<|zf 3) (.nm 7) Ly)<|Jk 6
theorem zy(h:F γ=cz (.next γ'))(g:G γ'=r):zV F G γ=r:=by rw[jf,h];exact g
theorem zU(h:F (jd n ds)=cz (.ret r)):jA n F ds=cz r:=by show(F _).bind _=_;rw[h];rfl
theorem zeD(P:Nat->Ctx->Prop)(n:Nat)(O:P 0 γ)(step:∀s,s<n->∀γ,P s γ->∃γ1 y,k9 T (.int s) γ=cz γ1/\F γ1=cz (.next y)/\P (s+1) y):
 ∃γ',yD T F ((Tn n).map λ(i:Nat)=>D.int i) γ=cz (.next γ')/\P n γ':=by
 have a:∀k s γ,s+k=n->P s γ->∃γ',yD T F ((Dn s k).map λ(i:Nat)=>D.int i) γ=cz (.next γ')/\P n γ':=by
  intro k
  induction k with
  |zero=>
   intro s γ e I;obtain rfl:s=n:=()
   exact(γ,rfl,I)
  |succ k Q=>
   intro s γ e I;obtain⟨γ1,y,b,U,Y⟩:=step s () γ I;obtain⟨γ',Z,d⟩:=Q (s+1) y () Y;refine(γ',?_,d);simp only[R1,UL,kz,b];simp only[Tx,U];exact Z
 have:=a n 0 γ () O;rw[<-D3]at this;exact this
theorem jY(P:Nat->Ctx->Prop)(n:Nat)(U:n<=lim)(I:f γ=cz (.int n))(O:P 0 γ)(step:∀s,s<n->∀γ,P s γ->∃γ1 y,k9 T (.int s) γ=cz γ1/\F γ1=cz (.next y)/\P (s+1) y):
 ∃γ',wU (jg f) T F γ=cz (.next γ')/\P n γ':=by
 obtain⟨γ',e,Q⟩:=zeD P n O step;refine(γ',?_,Q);have Y:=je;have r:inR n=cC:=Kh () ();simp only[aS,aQ,I];simp[r,qh];assumption
theorem VP(P:Nat->Ctx->Prop)(n:Nat)(O:P 0 γ)(step:∀s,s<n->∀γ,P s γ->∃γ1 I,k9 T (g s) γ=cz γ1/\F γ1=cz (.next I)/\P (s+1) I):
 ∃γ',yD T F ((Tn n).map g) γ=cz (.next γ')/\P n γ':=by
 have a:∀k s γ,s+k=n->P s γ->∃γ',yD T F ((Dn s k).map g) γ=cz (.next γ')/\P n γ':=by
  intro k
  induction k with
  |zero=>
   intro s γ e y;obtain rfl:s=n:=()
   exact(γ,rfl,y)
  |succ k Q=>
   intro s γ e y;obtain⟨γ1,I,b,U,Y⟩:=step s () γ y;obtain⟨γ',Z,d⟩:=Q (s+1) I () Y;refine(γ',?_,d);simp only[R1,UL,kz,b];simp only[Tx,U,Z]
 obtain⟨γ',e,y⟩:=a n 0 γ () O;rw[<-D3]at e;exact(γ',e,y)
theorem PK(y:γ[i]? = cz (.own L))(I:f γ=cz d)(O:L.length<lim):qH i f γ=cz (.next<|γ.set i<|.own<|L++[d]):=by simp_all
abbrev oI(k:Sk)(xs:List D):D:=match k with|.T=>D.tup xs|.L=>D.lst xs
@[simp] theorem zhc(k xs):jI (oI k xs)=cz (k,xs):=by cases k<;>rfl
theorem QJ(k:Sk)(f:Nat->Int)(y:0<p)(I:n<=lim):
 kC [.int p,oI k (zO n f)]=cz (.val<|.tup<|zO n λi=>f i%p):=by
 simp[kC,jA,jd,jq,I,k6];unfold zO;rw[zu (r:=λi=>D.int<|f i%p)]
 .simp
 .intro i a
  refine zv rfl rfl ?_;simp[y]
theorem zeF(f:Nat->Int)(y:0<p)(I:n<=lim):
 kC [.int p,.tup (zO n f)]=cz (.val<|.tup<|zO n λi=>f i%p):=QJ .T f y I
theorem JN(f:Nat->Int)(y:0<p)(I:n<=lim):
 kC [.int p,.lst (zO n f)]=cz (.val<|.tup<|zO n λi=>f i%p):=QJ .L f y I
theorem Xm(k:Sk)(f:DW)(g:Nat->Int)(I:0<p)(y:h<=lim)(z:w<=lim)(O:∀i j,i<h->j<w->0<=f i j/\f i j<100):
 aT [.int p,jZ h w f,oI k (zO w g)]=cz (.val<|.tup<|zO h λi=>zg (λj=>f i j*g j) w%p):=by
 simp[aT,jA,jd,jq,y,k6,jZ,Tq];unfold z7;rw[zu]
 .simp
  rw[show(List.map _ _)=zO h _ from rfl,JN _ I y];rfl
 .intro i a
  refine zv rfl rfl ?_;simp[jq,vF,z];rw[zu]
  .simp
   rw[show(List.map _ _)=zO w _ from rfl,wW]
  .intro j Q
   refine zv rfl rfl ?_;have:=O i j (Tp.mp a)<|Tp.mp Q;simp[wK (f i j) (g j) () ()]
theorem kX(f:DW)(y:h<=lim)(z:w<=lim):jO [jZ h w f]=cz (.val<|jZ w h λi j=>f j i):=by
 simp[jO,jA,jd,jq,y,z,k6,jZ,Tq,jf,qh];rw[j9 w λi=>i];rw[zu]
 .rfl
 .intro j I
  refine zv rfl rfl ?_;simp[jq,y,k6];unfold z7;rw[zu]
  .rfl
  .intro i a
   refine zv rfl rfl ?_
   simp_all
theorem Zq(f g:DW)(I:0<p)(O:h<=lim)(y:m<=lim)(z:w<=lim)(Q:∀i j,i<m->j<w->0<=g i j/\g i j<100):
 yH [.int p,jZ h m f,jZ m w g]=cz (.val<|jZ h w λi j=>zg (λk=>g k j*f i k) m%p):=by
 simp[yH,jA,jd,jf,kX g y z];simp[jq,O,y,z,k6,jZ];rw[show z7 h m f=(Tn h).map _ from rfl];rw[zu]
 .rfl
 .intro i l
  refine zv rfl rfl ?_;have e:=Xm .T _ (f i) I z y<|λa b d U=>Q b a U d;simp[jZ]at e ⊢;rw[e];simp
theorem QW(c:Int)(f g:DW)(y : -(2^64)<c)(I:c<2^64)(O:0<p)(Q:h<=lim)(z:w<=lim):
 kg [.int p,jZ h w f,.int c,jZ h w g]=cz (.val<|jZ h w λi j=>(f i j+c*g i j)%p):=by
 simp[kg,jA,jd,jf,jZ,dm,Q,jq,k6,Tq];rw[zu]
 .rfl
 .intro i a
  refine zv rfl rfl ?_;simp[vF,z,jq,Tq];rw[zu]
  .simp
   rw[show(List.map _ _)=zO w λj=>f i j+c*g i j from rfl,JN _ O z];simp
  .intro j U
   refine zv rfl rfl ?_;simp[k6,wK c _ y I]
theorem yG(y:n<=lim):ql [.int n]=cz (.val<|jZ n n λi j=>if i=j then 1 else 0):=by
 simp[ql,jA,jd,jf,y,jq,k6,Tq,qh];rw[j9 n λi=>i];rw[zu]
 .rfl
 .intro i a
  refine zv rfl rfl ?_;simp[y,jq,Tq,qh,k6];rw[j9 n λi=>i];rw[zu]
  .rfl
  .intro j I
   refine zv rfl rfl ?_;simp;lia
theorem w5(d:D)(w:Nat):Tq w d=(Tn w).map λ_=>d:=by
 induction w with
 |zero=>rfl
 |succ n y=>simp only[List.replicate_succ',y,tu,UB];simp
theorem KC(y:h<=lim)(j:w<=lim):kH [.int h,.int w]=cz (.val<|jZ h w λ_ _=>0):=by simp[kH,jA,jd,jf,yE,y,j];rw[w5,w5];rfl
noncomputable def JB(j:List Int):D:=.lst (j.map D.int)
mutual
theorem Hx:∀d:D,i0 d d=cC
 |.d7=>rfl
 |.bl b=>by simp[i0]
 |.int i=>by simp[i0]
 |.str x=>by simp[i0]
 |.tup e=>by simp only[i0];exact B8 e
 |.lst e=>by simp only[i0];exact B8 e
 |.mc a b=>by simp only[i0];rw[B8 a,B8 b];rfl
 |.lC a b=>by simp only[i0];rw[B8 b];simp
theorem B8:∀ds:List D,pY ds ds=cC
 |[]=>rfl
 |d::ds=>by simp only[pY,Hx d,B8 ds,Bool.and_self]
end
theorem Xc:∀{l:List D} {n:Nat},(∀d∈l,deep d<=n)->r0 l<=n
 |[],n,_=>UU n
 |d::ds,n,h=>by simp only[r0];exact Nat.max_le.mpr (h d Uh,Xc λe y=>h e<|TN _ y)
theorem AY(n f):deep (.tup<|zO n f)<=1:=by
 simp only[deep];have:r0 (zO n f)<=0:=Xc λd a=>by simp[zO]at a;obtain⟨i,_,rfl⟩:=a;exact Tv _
 lia
theorem AZ(h w f):deep (.tup<|z7 h w f)<=2:=by
 simp only[deep];have:r0 (z7 h w f)<=1:=Xc λd a=>by simp[z7]at a;obtain⟨i,_,rfl⟩:=a;exact AY _ _
 lia
theorem Vx:∀{l:List D},(∀d∈l,i9 d=cC)->o4 l=cC
 |[],_=>rfl
 |d::ds,h=>by simp only[o4,h d Uh,Vx λe y=>h e<|TN _ y,Bool.and_self]
theorem oU(h:deep d<=n)(y:n<=20)(I:i9 d=cC):ml d=cC:=by unfold ml;rw[I,Bool.and_true];exact decide_eq_true<|TJ h y
theorem FB(n f):i9 (.tup<|zO n f)=cC:=by
 simp only[i9];exact Vx λd a=>by simp[zO]at a;obtain⟨i,_,rfl⟩:=a;rfl
theorem FC(h w f):i9 (.tup<|z7 h w f)=cC:=by
 simp only[i9];exact Vx λd a=>by simp[z7]at a;obtain⟨i,_,rfl⟩:=a;exact FB _ _
theorem gc(h:ml d=cC):gB d d=cz (.bl cC):=by unfold gB;rw[DZ (h,h),Hx]
theorem fZ(h:ml d=cC):m8 d d=cz (.bl cL):=by unfold m8;rw[DZ (h,h),Hx];rfl
theorem Yt(k:Int)(y:0<k):∃n:Nat,m%k=n/\n<k:=by have O:=Ub m y;obtain⟨n,I⟩:=Nd (Uq m<|show k≠0 by lia);exact(n,I,())
noncomputable def jc(b:Bool):Nat:=if b then 108 else 114
noncomputable def Je(c:Nat):Str:=⟨#[c]⟩
theorem Yx:∀l,(Str.join "" (l.map Je)).cps.toList=l
 |[]=>rfl
 |[c]=>rfl
 |c::d::l=>by
  show(_++Str.join "" _).cps.toList=_;have e:∀a b:Str,(a++b).cps.toList=a.cps.toList++b.cps.toList:=λa b=>by show(a.cps++b.cps).toList=_;simp
  simp only[e,e,(Yx (d::l))];rfl
def yP(m:Nat)(w:DV):Str:=Str.join "" ((Tn m).map λk=>Je (jc (w k)))
theorem ym(m w):(yP m w).cps.toList=(Tn m).map λk=>jc (w k):=by have:=Yx<|(Tn m).map λk=>jc<|w k;rw[Uu]at this;exact this
theorem vG(m w):(yP m w).length=m:=by show(yP m w).cps.size=m;rw[<-vl,ym];simp
theorem xD(w)(y:m<=1000):xo (yP m w)=cC:=decide_eq_true (by rw[vG];exact y)
theorem Y4(g:α->Str):∀l:List α,mX (l.map λx=>D.str<|g x)=cz (l.map g)
 |[]=>rfl
 |a::l=>by simp[mX,Y4 g l]
noncomputable def dH(w:DV)(wd:DK)(k:Nat):Nat:=if w k then wd k else wd (k+1)
noncomputable def dq(w:DV)(wd:DK)(k:Nat):Nat:=if w k then wd (k+1)else wd k
def ZH(w:DV)(wd:DK)(T:DQ)(k:Nat):D:=.tup [.str (Je<|jc<|w k),jZ (dH w wd k) (dq w wd k) (T k)]
def xn(m:Nat)(w:DV)(wd:DK)(T:DQ):List D:=(Tn m).map (ZH w wd T)
def jE(p:Int)(m:Nat)(w:DV)(wd:DK)(T:DQ):D:=.tup [.int p,.tup<|zO (m+1) λk=>(wd k:Int),.tup (xn m w wd T)]
@[simp] theorem aO(m w wd T):(xn m w wd T).length=m:=by simp[xn]
theorem Ji(w)(y:m<=1000)(I:k<m)(γ:Ctx)(f g:CO D)(O:f γ=cz (.str<|yP m w))(Q:g γ=cz (.int k)):wG f g γ=cz (.str<|Je<|jc<|w k):=by rw[JK,O,Q];simp only[Tx,xc];rw[DZ (xD w y),ym];simp[I,Je]
theorem CA(b:Bool):gB (.str (Je (jc b))) (.str "l")=cz (.bl b):=by
 have e:∀b,(Je (jc b)==(px "l"))=b:=by decide +kernel
 have y:∀b,ml (.str<|Je<|jc b)=cC:=by decide +kernel
 unfold gB;rw[DZ (y b,by decide +kernel)];show cz (D.bl (Je (jc b)==px "l"))=_;rw[e]
theorem LH(b:Bool):ml (.str<|Je<|jc b)=cC:=by cases b<;>decide +kernel
theorem Kn(b:Bool):gB (.str (Je (jc b))) (.str "r")=cz (.bl (!b)):=by
 have e:∀b,(Je (jc b)==(px "r")) = !b:=by decide +kernel
 unfold gB;rw[DZ (LH b,by decide +kernel)];show cz (D.bl (Je (jc b)==px "r"))=_;rw[e]
theorem aw(f:Nat->D)(O:i<=j)(y:j<=n):gh ((Tn n).map f) (cz i) (cz j)=(Tn<|j-i).map λk=>f (i+k):=by
 have c d k:k<=n->cU n d (cz k)=k:=λQ=>by show(if k<0 then ((k:Int)+n).toNat else min _ n)=k;rw[DJ ()];simp only[zp];lia
 have I:((Tn n).map f).length=n:=by simp
 unfold gh;rw[I,c 0 i (),c n j y];apply List.ext_getElem
 .simp;lia
 .intro k U g2
  simp
section
theorem MM(y:i<=j)(I:j<=m):gh (xn m w wd T) (cz i) (cz j)=xn (j-i) (λk=>w<|i+k) (λk=>wd<|i+k) (λk=>T<|i+k):=by unfold xn;rw[aw _ y I];rfl
end
theorem zh:∀{n:Nat},(∀k,k<n->f k=g k)->zg f n=zg g n
 |0,_=>rfl
 |n+1,h=>by simp only[zg];rw[zh λk y=>h k (),h n ()]
theorem zA(n:Nat):zg (λ_=>0) n=0:=by
 induction n with
 |zero=>rfl
 |succ n y=>simp[zg,y]
theorem zG(j:i<n)(h:∀k,k<n->k≠i->f k=0):zg f n=f i:=by
 induction n with
 |zero=>lia
 | succ n y=>
  simp only[zg];by_cases e:i=n
  .subst e
   rw[zh (λk I=>h k () ()),zA];lia
  .rw[y () λk I=>h k (),h n () ()]
   lia
theorem jG(f g:Nat->Int)(n:Nat):zg (λk=>f k+g k) n=zg f n+zg g n:=by
 induction n with
 |zero=>rfl
 |succ n y=>simp only[zg,y];lia
theorem qz(f:Nat->Int)(c:Int)(n:Nat):zg (λk=>f k*c) n=zg f n*c:=by
 induction n with
 |zero=>simp[zg]
 |succ n y=>simp only[zg,y,Gx]
theorem zT(f:Nat->Int)(c:Int)(n:Nat):zg (λk=>c*f k) n=c*zg f n:=by
 induction n with
 |zero=>simp[zg]
 |succ n y=>simp only[zg,y,Dp]
theorem jS(f:DW)(n m:Nat):zg (λi=>zg (λj=>f i j) m) n=zg (λj=>zg (λi=>f i j) n) m:=by
 induction n with
 |zero=>simp[zg,zA]
 |succ n y=>simp only[zg];rw[y,<-jG]
theorem zE:∀{n:Nat},(∀k,k<n->f k%p=g k%p)->zg f n%p=zg g n%p
 |0,_=>rfl
 |n+1,h=>by simp only[zg];rw[Um,zE<|λk y=>h k (),h n (),<-Um]
theorem zd6(p x y:Int):(x%p*y)%p=(x*y)%p:=by rw[Tt,Us,<-Tt]
theorem Ju(p x y:Int):(x*(y%p))%p=(x*y)%p:=by rw[Tt,Us,<-Tt]
theorem Wh(p:Int)(a b c:DW)(m w i j:Nat):
 zg (λk=>a i k*(zg (λl=>b k l*c l j) w%p)) m%p=zg (λl=>(zg (λk=>a i k*b k l) m%p)*c l j) w%p:=by
 rw[zE (g:=λk=>zg _ w) (λk _=>by rw[Ju,zT]),
  zE (f:=λl=>_*c l j) (g:=λl=>zg (λk=>a i k*_) m) (λl _=>by rw[zd6,<-qz];exact congrArg (· % p)<|zh λk _=>qd _ _ _),jS]
abbrev Vc:=Nat->Int
def Pr(p:Int):Prop:=p=2\/p=3\/p=5\/p=7
theorem Pr.pos(h:Pr p):0<p:=by unfold Pr at h;lia
theorem Pr.two(h:Pr p):2<=p:=by unfold Pr at h;lia
theorem Pr.le(h:Pr p):p<=7:=by unfold Pr at h;lia
theorem Pr.one(h:Pr p):1%p=1:=UG () (by have:=h.two;lia)
inductive Span(p:Int)(n:Nat)(G:Vc->Prop):Vc->Prop where
 |zero {v:Vc}:(∀i,i<n->v i%p=0)->Span p n G v
 |step {v w g:Vc} {c:Int}:G g->Span p n G w->(∀i,i<n->v i%p=(w i+c*g i)%p)->Span p n G v
section
theorem Span.congr(h:Span p n G v)(e:∀i,i<n->v' i%p=v i%p):Span p n G v':=by
 cases h with
 |zero h=>exact .zero λi a=>by rw[e i a,h i a]
 |step y b h=>exact .step y b λi a=>by rw[e i a,h i a]
theorem Span.gen(h:G g):Span p n G g:=.step (c:=1) h (.zero (v:=λ_=>0) λi _=>by simp) λi _=>by simp
theorem Span.add(I:Span p n G v)(j:Span p n G w):∀c,Span p n G λi=>w i+c*v i:=by
 induction I with
 |zero h=>
  intro c;refine j.congr λi a=>?_;rw[Um,Tt,h i a];simp
 |@step v b g y O U h Q=>
  intro c;refine .step (c:=c*y) O (Q c) λi a=>?_;have e:(c*v i)%p=(c*(b i+y*g i))%p:=by rw[Tt,h i a,<-Tt]
  rw[Um,e,<-Um];congr 1;rw[Dp,<-qd,Int.add_assoc]
theorem Span.smul(y:Span p n G v)(c:Int):Span p n G λi=>c*v i:=
 (y.add (w:=λ_=>0) (.zero λi _=>by simp) c).congr λi _=>by simp
theorem Span.le(h:Span p n G v)(y:∀g,G g->Span p n G' g):Span p n G' v:=by
 induction h with
 |zero h=>exact .zero h
 |step I a h O=>exact((y _ I).add O _).congr h
end
structure fm(p:Int)(n r:Nat)(B:Nat->Vc)(l:DK):Prop where
 lt:∀k,k<r->l k<n
 mono:∀k m,k<m->m<r->l k<l m
 one:∀k,k<r->B k (l k)=1
 kr:∀k j,k<r->j<l k->B k j=0
 oe:∀k m,k<r->m<r->m≠k->B k (l m)=0
 i6:∀k i,k<r->i<n->0<=B k i/\B k i<p
def d6(r:Nat)(B:Nat->Vc):Vc->Prop:=λv=>∃k,k<r/\v=B k
section
variable{n r r':Nat}{l l':DK}
theorem JD(I:fm p n r B l)(h:Span p n (d6 r B) v):∀i,i<n->v i%p=zg (λk=>v (l k)*B k i) r%p:=by
 induction h with
 |@zero v h=>
  intro i a;rw[h i a];have:zg (λk=>v (l k)*B k i) r%p=zg (λ_=>0) r%p:=zE λk y=>by rw[Tt,h _ (I.lt k y)];simp
  rw[this,zA];rfl
 |@step v w g c Q d h U=>
  intro i a;obtain⟨m,O,rfl⟩:=Q;rw[h i a];have b:zg (λk=>v (l k)*B k i) r%p=zg (λk=>_+_) r%p:=zE λk y=>by rw[Tt,h _<|I.lt k y,<-Tt,Gx]
  have Y:zg (λk=>c*B m (l k)*B k i) r=c*B m i:=by rw[zG O λk y Z=>by rw[I.oe m k O y Z];simp,I.one m O];simp
  rw[b,jG,Y,Um,U i a,<-Um]
theorem cu(y:fm p n r B l)(h:Span p n (d6 r B) v)(O:j<n)(Q:v j%p≠0)(hz:∀i,i<j->v i%p=0):∃k,k<r/\l k=j:=by
 apply Tf;intro U;apply Q;rw[JD y h j O];have:zg (λk=>v (l k)*B k j) r%p=zg (λ_=>0) r%p:=zE λk I=>by
  have Y:l k≠j:=λe=>U (k,I,e);rcases TV (l k) j with q|q
  .rw[Tt,hz _ q];simp
  .rw[y.kr k j I ()];simp
 rw[this,zA];rfl
theorem fE(Q:∀k m,k<m->m<r->l k<l m)(U:∀k m,k<m->m<r'->l' k<l' m)(j:∀k,k<r->∃m,m<r'/\l' m=l k)(B:∀k,k<r'->∃m,m<r/\l m=l' k):
 ∀k,k<r->k<r'/\l k=l' k:=by
 intro k
 induction k using Nat.strongRecOn with
 | ind k I=>
  intro O;obtain⟨m,Y,Z⟩:=j k O;have a:k<=m:=by
   rcases TV m k with q|q
   .have:=(I m q ()).2
    have:=Q m k q O;lia
   .exact q
  have y:k<r':=()
  refine(y,?_);obtain⟨q,d,eq⟩:=B k y;have b:k<=q:=by
   rcases TV q k with z|z
   .have:=(I q z ()).2
    have:=U q k z y;lia
   .exact z
  rcases TV k m with z|z
  .grind
  grind
theorem Ku(z:Pr p)(I:fm p n r B l)(O:fm p n r' B' l')(Q:∀v,Span p n (d6 r B) v->Span p n (d6 r' B') v)(j:∀v,Span p n (d6 r' B') v->Span p n (d6 r B) v):
 r=r'/\(∀k,k<r->l k=l' k)/\∀k i,k<r->i<n->B k i=B' k i:=by
 have one:=z.one;have d:=λk y=>cu O (Q _<|.gen (k,y,rfl)) (I.lt k y) (by rw[I.one k y,one];decide) λi a=>by rw[I.kr k i y a];simp
 have e:=λk y=>cu I (j _<|.gen (k,y,rfl)) (O.lt k y) (by rw[O.one k y,one];decide) λi a=>by rw[O.kr k i y a];simp
 have b:=fE I.mono O.mono d e;have g:r=r':=by
  rcases Y_ r r' with q|q|q
  .exact absurd ((fE O.mono I.mono e d) r q).1 (UY _)
  .exact q
  .exact absurd (b r' q).1 (UY _)
 subst g;refine(rfl,λk y=>(b k y).2,λk i y a=>?_);have c:=JD O (Q _<|.gen (k,y,rfl)) i a;rw[zG y λm U f=>by rw[<-(b m U).2,I.oe k m y U f];simp,<-(b k y).2,I.one k y,Int.one_mul]at c;have Y:=I.i6 k i y a;have Z:=O.i6 k i y a;rw[UG Y.1 Y.2,UG Z.1 Z.2]at c;exact c
end
theorem jD(q:α->Bool)(r:α->D):∀(l:List α),(∀x∈l,∃γ1,k9 T (g x) γ=cz γ1/\k γ1=cz (q x)/\(q x=cC->f γ1=cz (r x)))->
 zQ T k f γ (l.map g)=cz ((l.filter q).map r)
 |[],_=>rfl
 |x::l,h=>by
  obtain⟨γ1,I,O,U⟩:=h x Uh;have Y:=jD q r l λy Q=>h y<|TN _ Q;simp only[UL,zQ,I,O,Tx]
  grind
theorem Mu(I:Pr p)(O:0<x)(Q:x<p):∃y:Nat,1<=y/\y<p/\y*x%p=1:=by
 rcases I with rfl|rfl|rfl|rfl
 .obtain rfl:x=1:=()
  exact(1,(),(),())
 .rcases (():x=1\/x=2)with rfl|rfl
  .exact(1,(),(),())
  .exact(2,(),(),())
 .rcases (():x=1\/x=2\/x=3\/x=4)with rfl|rfl|rfl|rfl
  .exact(1,(),(),())
  .exact(3,(),(),())
  .exact(2,(),(),())
  .exact(4,(),(),())
 .rcases (():x=1\/x=2\/x=3\/x=4\/x=5\/x=6)with rfl|rfl|rfl|rfl|rfl|rfl
  .exact(1,(),(),())
  .exact(4,(),(),())
  .exact(5,(),(),())
  .exact(2,(),(),())
  .exact(3,(),(),())
  .exact(6,(),(),())
theorem aq{q:DV}{n a:Nat}{vN:List Nat}(h:(Tn n).filter q=a::vN):a<n/\q a=cC/\∀i,i<a->q i=cL:=by
 have y:a∈(Tn n).filter q:=by rw[h];exact Uh
 refine(Tp.mp (UA.mp y).1,(UA.mp y).2,λi b=>?_);apply Tf;intro O;have I:i∈a::vN:=by grind
 rcases Tz.mp I with e|e
 .lia
 .have:=(List.pairwise_cons.mp<|by rw[<-h];exact O' _ Rg).1 i e;lia
theorem aV(I:Pr p)(O:0<x)(Q:x<p):∃y,KF [.int p,.int x]=cz (.val<|.int y)/\1<=y/\y<p/\x*y%p=1:=by
 rcases I with rfl|rfl|rfl|rfl
 .have:x=1:=()
  subst this;exact(1,rfl,(),(),())
 .have:x=1\/x=2:=()
  rcases this with rfl|rfl
  .exact(1,rfl,(),(),())
  .exact(2,rfl,(),(),())
 .have:x=1\/x=2\/x=3\/x=4:=()
  rcases this with rfl|rfl|rfl|rfl
  .exact(1,rfl,(),(),())
  .exact(3,rfl,(),(),())
  .exact(2,rfl,(),(),())
  .exact(4,rfl,(),(),())
 .have:x=1\/x=2\/x=3\/x=4\/x=5\/x=6:=()
  rcases this with rfl|rfl|rfl|rfl|rfl|rfl
  .exact(1,rfl,(),(),())
  .exact(4,rfl,(),(),())
  .exact(5,rfl,(),(),())
  .exact(2,rfl,(),(),())
  .exact(3,rfl,(),(),())
  .exact(6,rfl,(),(),())
theorem aW(I:Pr p)(O:n<=lim)(y:t<n)(w P:Nat->Int)(j:∀i,i<n->0<=w i/\w i<p):
 yN [.int p,.tup<|zO n w,.tup<|zO n P,.int t]=cz (.val<|.tup<|zO n λi=>(w i-w t*P i)%p):=by
 have Y:=j t y;have Z:=I.le;have U x:YJ (w t) x=cC:=wK _ _ () ();by_cases Q:w t=0
 .simp[yN,jA,jd,jf,y,Q]
  apply y8;intro i a;rw[UG (j i a).1 (j i a).2]
 .simp[yN,jA,jd,jf,y,Q,vF,O,jq,k6,Tq]
  rw[zu (r:=λi=>D.int<|w i-w t*P i)]
  .rw[<-j9]
   simp[JN _ I.pos O]
  .intro i a
   refine zv rfl rfl ?_;simp[U]
theorem X3{l:DK}{r t:Nat}(y:∀k m,k<m->m<r->l k<l m)(O:∀k,k<r->l k<t):r<=t:=by
 have a:∀k,k<r->k<=l k:=by
  intro k
  induction k with
  |zero=>intro _;exact UU _
  |succ k Q=>
   intro I;have U:=y k (k+1) () I;lia
 grind
def Un(r:Nat)(B:Nat->Vc)(m:Nat)(W:Nat->Vc):Vc->Prop:=λv=>d6 r B v\/d6 m W v
structure tF(p:Int)(n m:Nat)(W:Nat->Vc)(t r:Nat)(B:Nat->Vc)(l:DK)(Wt:Nat->Vc):Prop where
 i6:∀j i,j<m->i<n->0<=Wt j i/\Wt j i<p
 vv:∀j i,j<m->i<t->Wt j i=0
 uj:fm p n r B l
 lt:∀k,k<r->l k<t
 span:∀v,Span p n (Un r B m Wt) v↔Span p n (d6 m W) v
section
theorem tF.skip(h:tF p n m W t r B l Wt)(hz:∀j,j<m->Wt j t=0):tF p n m W (t+1) r B l Wt:=
 (h.i6,λj i y a=>by
  rcases TV i t with q|q
  .exact h.vv j i y q
  .have:i=t:=()
   subst this;exact hz j y,h.uj,λk I=>UT<|h.lt k I,h.span)
noncomputable def i8(p:Int)(P:Vc)(t:Nat)(w:Vc):Vc:=λi=>(w i-w t*P i)%p
def iS(p:Int)(P:Vc)(t r:Nat)(B:Nat->Vc):Nat->Vc:=λk=>if k<r then i8 p P t (B k)else P
noncomputable def Cj(t r:Nat)(l:DK):Nat->Nat:=λk=>if k<r then l k else t
theorem Xf(y:Span p n G P)(j:Span p n G w):Span p n G (i8 p P t w):=
 (y.add j (-(w t))).congr λi _=>by unfold i8;rw[Us];congr 1;rw[Int.neg_mul];lia
theorem dF(y:Span p n G P)(j:Span p n G (i8 p P t w)):Span p n G w:=
 (y.add j<|w t).congr λi _=>by
   unfold i8
   simp_all
theorem tF.next(H:Pr p)(h:tF p n m W t r B l Wt)(R:t<n)(E:j0<m)(S:Wt j0 t*y%p=1)(U:∀i,i<n->P i=y*Wt j0 i%p):
 tF p n m W (t+1) (r+1) (iS p P t r B) (Cj t r l) (λj=>i8 p P t<|Wt j):=by
 have x:=H.pos;have A:P t=1:=by rw[U t R,UC];exact S
 have Y i:i<t->P i=0:=λa=>by rw[U i (),h.vv j0 i E a];simp
 have C i:i<n->0<=P i/\P i<p:=λa=>by rw[U i a];exact(Uq _ (),Ub _ x)
 have cr w i:0<=i8 p P t w i/\i8 p P t w i<p:=(Uq _ (),Ub _ x);have Q w i:i<t->0<=w i->w i<p->i8 p P t w i=w i:=λa G J=>by unfold i8;rw[Y i a,UP,Int.sub_zero];exact UG G J
 have u w:i8 p P t w t=0:=by unfold i8;simp_all
 refine(λj i O a=>cr _ _,λj i O a=>?_,(λk I=>?_,λk q ad K=>?_,λk I=>?_,λk j I O=>?_,λk q I K F=>?_,λk i I a=>?_),λk I=>?_,λv=>?_)
 .rcases TV i t with q|q
  .have e:=h.vv j i O q
   rw[Q _ i q () ()];exact e
  .have:i=t:=()
   subst this;exact u _
 .unfold Cj;split
  .rename_i q;exact h.uj.lt k q
  .exact R
 .unfold Cj
  have I:k<r:=()
  rw[DZ I];split
  .rename_i z;exact h.uj.mono k q ad z
  .exact h.lt k I
 .unfold Cj iS;split
  .rename_i q
   have e:=h.uj.one k q;rw[Q _ _ (h.lt k q) () (by have:=H.two;lia)];exact e
  .exact A
 .unfold iS;unfold Cj at O;split at O
  .rename_i q
   have e:=h.uj.kr k j q O;have L:=h.lt k q;rw[DZ q,Q _ _ () () ()];exact e
  .rename_i q
   rw[DJ q];exact Y j O
 .unfold iS Cj
  by_cases o:k<r
  .rw[DZ o]
   by_cases b:q<r
   .rw[DZ b]
    have e:=h.uj.oe k q o b F;rw[Q _ _ (h.lt q b) () ()];exact e
   .rw[DJ b];exact u _
  .rw[DJ o]
   have b:q<r:=()
   rw[DZ b];exact Y _<|h.lt q b
 .unfold iS;split
  .exact cr _ _
  .exact C i a
 .unfold Cj;split
  .rename_i q;exact UT<|h.lt k q
  .exact sd _
 .rw[<-h.span v]
  have Z:Span p n (Un r B m Wt) P:=((Span.gen<|.inr (j0,E,rfl)).smul y).congr λi a=>by simp_all
  have s:Span p n (Un (r+1) (iS p P t r B) m λj=>i8 p P t<|Wt j) P:=.gen (.inl (r,sd r,by unfold iS;rw[DJ (UY r)]));constructor
  .refine λf=>f.le λg d=>?_
   rcases d with⟨k,I,rfl⟩|⟨j,O,rfl⟩
   .unfold iS;split
    .rename_i q;exact Xf Z<|.gen<|.inl (k,q,rfl)
    .exact Z
   .exact Xf Z<|.gen<|.inr (j,O,rfl)
  .refine λf=>f.le λg d=>?_
   rcases d with⟨k,I,rfl⟩|⟨j,O,rfl⟩
   .refine dF (t:=t) s (.gen<|.inl (k,UT I,?_))
    unfold iS;rw[DZ I]
   .exact dF s<|.gen<|.inr (j,O,rfl)
theorem tF.done(h:tF p n m W n r B l Wt)(v:Vc):Span p n (d6 r B) v↔Span p n (d6 m W) v:=by
 rw[<-h.span v];constructor
 .exact λI=>I.le λg y=>.gen (.inl y)
 .refine λI=>I.le λg y=>?_
  rcases y with y|⟨j,O,rfl⟩
  .exact .gen y
  .exact .zero λi a=>by rw[h.vv j i O a];simp
theorem zep(I:True)(P:Vc):z7 (r+1) n (iS p P t r B)=z7 r n (λk=>i8 p P t<|B k)++[.tup (zO n P)]:=by
 unfold z7;simp only[tu,UB];congr 1
 .apply Ug
  intro k y;simp[iS,(Tp.mp y)]
 .simp[iS]
end
theorem wy{p:Int}(Y:Pr p){n m:Nat}(hn:n<=200)(z:m<=lim)(Z:Sk)(W:Nat->Vc):
 ∃r B l,xi [.int p,.int n,oI Z (z7 m n W)]=cz (.own<|z7 r n B)/\fm p n r B l/\∀v,Span p n (d6 r B) v↔Span p n (d6 m W) v:=by
 have hl:=je;have a:n<=lim:=()
 have A:=Y.pos;refine Tf λkZ=>?_;obtain⟨γ',X,r,B,l,Wt,h,o,e,f,rfl,I⟩:=(aj (T:=.nm 5) (F:=JH)
  (λt H=>∃r B l Wt h o e f,H=[vI p,vI n,.val<|oI Z<|z7 m n W,.val<|.lst<|z7 m n Wt,.own<|z7 r n B,h,o,e,f]/\tF p n m W t r B l Wt)
  ((Tn n).map λ(i:Nat)=>D.int i) 0 [vI p,vI n,.val<|oI Z<|z7 m n W,.val<|.lst<|z7 m n λj i=>W j i%p,.own [],.no,.no,.no,.no]
  (0,λ_ _=>0,λ_=>0,λj i=>W j i%p,.no,.no,.no,.no,rfl,λj i _ _=>(Uq _ (),Ub _ A),nofun,
   (nofun,nofun,nofun,nofun,nofun,nofun),
   nofun,λv=>(λw=>w.le λg u=>by
    rcases u with⟨k,hk,_⟩|⟨j,Q,rfl⟩
    .exact absurd hk<|rB _
    .exact(Span.gen (j,Q,rfl)).congr λi _=>Us _ _,λw=>w.le λg u=>by
    obtain⟨j,Q,rfl⟩:=u;exact(Span.gen<|.inr (j,Q,rfl)).congr λi _=>(Us _ _).symm)) (by
   rintro t d H s ⟨r,B,l,Wt,h,o,e,f,rfl,I⟩;rw[pz]at I ⊢;have U:=by simpa using ((TR.mp s).1)
   have J:=by simp[U]at s;exact s.symm
   subst J;have b:zQ (.nm 0) (sB<|zM m8 (cI (zm 0)<|zf 1)<|sI 0) (zf 0) [Cell.no,vI t] (z7 m n Wt)=cz (((Tn m).filter λj=> !decide (Wt j t=0)).map λj=>D.tup<|zO n<|Wt j):=by unfold z7;refine jD _ _ _ λj Q=>(_,rfl,?_,λ_=>rfl);simp[U]
   have hr:=X3 I.uj.mono I.lt;have K:r<=lim:=()
   cases hf:(Tn m).filter λj=> !decide (Wt j t=0)with
   |nil=>
    have hz:=λj Q=>by simpa using K_.mp hf j (Tp.mpr Q)
    rw[hf]at b;refine(_,.inr ?_,r,B,l,Wt,vI t,.val<|.lst [],e,f,rfl,I.skip hz);simp[JH];rw[jf];simp[jf,jq,k6,Tq,b,z]
   |cons O vN=>
    obtain⟨C,b7⟩:O<m/\Wt O t≠0:=by have:=UA.mp (by rw[hf];exact Uh);simpa using this
    have L:=I.i6 O t C U;obtain⟨y,ey,y1,y2,zf2⟩:=aV Y () L.2;rw[hf]at b;refine(_,.inl ?_,r+1,iS p (λi=>y*Wt O i%p) t r B,Cj t r l,λj=>i8 p (λi=>y*Wt O i%p) t<|Wt j,vI t,.val<|.lst<|(O::vN).map λj=>D.tup<|zO n<|Wt j,vI y,.val<|.tup<|zO n λi=>y*Wt O i%p,rfl,I.next Y U C zf2 λi _=>rfl);have bb:=Y.le;have R x:YJ y x=cC:=wK _ _ () ();have M:zQ (.nm 0) jB (zM yE (zf 1)<|zf 0) [Cell.no,vI y] (zO n<|Wt O)=cz (zO n λi=>y*Wt O i):=by simp only[j9,j9];refine zu _ _ λi G=>zv rfl rfl ?_;simp[R]
    have E q V:(∀j i,j<q->i<n->0<=V j i/\V j i<p)->zQ (.nm 0) jB (zC yN<|zb (zf 1)<|zb (zf 0)<|zb (zf 3)<|zb (zf 2) zD) [Cell.no,vI p,vI t,Cell.val (.tup<|zO n λi=>y*Wt O i%p)] (z7 q n V)=cz (z7 q n λj=>i8 p (λi=>y*Wt O i%p) t<|V j):=λhV=>by unfold z7;refine zu _ _ λj Q=>zv rfl rfl ?_;simp[aW Y a U (V j) (λi=>y*Wt O i%p) λi G=>hV j i (Tp.mp Q) G];rfl
    have N:r+1<=lim:=()
    rw[zep trivial];simp[JH];rw[jf];simp[jf,jq,k6,Tq,b,z,a,U,ey,M,JN _ A a,E m Wt I.i6,E r B I.uj.i6,K,N]))
 refine kZ ?_;simp only[Ua,UM,pz]at I;refine(r,B,l,?_,I.uj,I.done);have P:zQ (.nm 0) jB (zC kC<|zb (zf 1)<|zb (zf 0) zD) [Cell.no,vI p] (z7 m n W)=cz (z7 m n λj i=>W j i%p):=by unfold z7;refine zu _ _ λj Q=>zv rfl rfl ?_;simp[zeF _ A a]
 have S:xi [.int p,.int n,oI Z (z7 m n W)]=jA 9 (zV (jF 3<|jX<|zW (z9<|zm 2) (.nm 0) 1 [0] jB (zC kC<|zb (zf 1)<|zb (zf 0) zD))<|zV (kN 4<|kO zD)<|zV (wU (jg<|zf 1) (.nm 5) JH)<|Jk 4) [.int p,.int n,oI Z (z7 m n W)]:=rfl;rw[S];simp[jA,jd,jf,z,jq,k6,Tq,P,a,qh];simp only[j9 n λi=>i,X];simp
theorem k4{p:Int}(I:Pr p){n m:Nat}(Q:n<=100)(O:m<=lim)(y:Sk)(W:Nat->Vc):
 ∃r B l,xi [.int p,.int n,oI y (z7 m n W)]=cz (.own<|z7 r n B)/\fm p n r B l/\∀v,Span p n (d6 r B) v↔Span p n (d6 m W) v:=wy I () O y W
noncomputable def KY{j:Type}(q:Nat)(x:j)(f:Nat->j):Nat->j:=λk=>if k<q then f k else if k=q then x else f (k-1)
noncomputable def VX(l:DK)(r x:Nat):Nat:=((Tn r).filter λk=>decide<|l k<x).length
theorem VV:∀{r:Nat},(∀k m,k<m->m<r->l k<l m)->(∀k,k<r->l k≠x)->VX l r x<=r/\(∀k,k<VX l r x->l k<x)/\∀k,VX l r x<=k->k<r->x<l k
 |0,_,_=>(Tv _,λk y=>absurd y (by simp[VX]),λk _ y=>absurd y<|rB _)
 | r+1,hm,YP=>by
  refine Tf λQ=>?_;obtain⟨Y,I,O⟩:=VV (r:=r) (λk m a b=>hm k m a ()) λk y=>YP k ();refine Q ?_;have e:VX l (r+1) x=VX l r x+if l r<x then 1 else 0:=by unfold VX;rw[tu,M9,UD];by_cases q:l r<x<;>simp[q]
  by_cases q:l r<x
  .rw[e,DZ q]
   have U:VX l r x=r:=by
    rcases TV _ r with z|z
    .have Z:=O _ (Tv _) z
     have d:=hm _ r z<|sd r;lia
    .lia
   rw[U];refine(Tv _,λk y=>?_,λk a b=>absurd b ());rcases TV k r with z|z
   .exact I k ()
   .have:k=r:=()
    subst this;exact q
  .rw[e,DJ q,G5]
   refine((),I,λk a b=>?_);rcases TV k r with z|z
   .exact O k a z
   .have:k=r:=()
    subst this;have:=YP k b;lia
section
structure Be(p:Int)(n r:Nat)(B:Nat->Vc)(l:DK)(w:Vc)(k:Nat)(R:Vc):Prop where
 i6:∀i,i<n->0<=R i/\R i<p
 vv:∀q,q<k->R (l q)=0
 eqv:∀G,(∀k,k<r->Span p n G (B k))->(Span p n G w↔Span p n G R)
theorem Be.next(Q:Pr p)(O:fm p n r B l)(h:Be p n r B l w k R)(y:k<r):Be p n r B l w (k+1) (i8 p (B k) (l k) R):=by
 have U:=Q.pos;refine(λi _=>(Uq _ (),Ub _ U),λq Y=>?_,λG I=>?_)
 .unfold i8
  rcases TV q k with z|z
  .rw[h.vv q z,O.oe k q y () ()];simp
  .have:q=k:=()
   subst this;rw[O.one q y];simp
 .rw[h.eqv G I]
  exact((Xf<|I k y),(dF<|I k y))
theorem W8(I:q<=r)(O:k<r+1):(k=q/\KY q x f k=x)\/∃y,y<r/\KY q x f k=f y/\((k<q/\y=k)\/(q<k/\y+1=k)):=by
 unfold KY
 grind
theorem a_:KY q x f q=x:=by unfold KY;rw[DJ (UY _),DZ rfl]
theorem FW:∃y,(y<q/\y=k\/q<y/\y=k+1)/\KY q x f y=f k:=by
 rcases TV k q with z|z
 .exact(k,.inl (z,rfl),by unfold KY;rw[DZ z])
 .exact(k+1,.inr ((),rfl),by unfold KY;rw[DJ (),DJ ()];rfl)
theorem FX(P:Pr p)(U:fm p n r B l)(S:a<n)(E:R a=1)(hz:∀i,i<a->R i=0)(H:∀k,k<r->R (l k)=0)(hR:∀i,i<n->0<=R i/\R i<p):
 fm p n (r+1) (KY (VX l r a) R λk=>i8 p R a<|B k) (KY (VX l r a) a l):=by
 have K:=P.pos;obtain⟨J,L,M⟩:=VV U.mono (λk I e=>by have:=H k I;rw[e,E]at this;lia);have cr w i:0<=i8 p R a w i/\i8 p R a w i<p:=(Uq _ (),Ub _ K);have A w:i8 p R a w a=0:=by unfold i8;simp_all
 have t w k:k<r->0<=w (l k)->w (l k)<p->i8 p R a w (l k)=w (l k):=λI E F=>by unfold i8;simp only[H k I,UP,Int.sub_zero];exact UG E F
 have C k j:k<r->j<l k->i8 p R a (B k) j=0:=λI Z=>by
  unfold i8;rw[U.kr k j I Z];rcases TV a (l k)with z|z
  .rw[U.kr k a I z];simp
  .rw[hz j ()];simp
 have two:=P.two;have Q:∀k,k<r+1->(k=VX l r a/\KY (VX l r a) R (λk=>i8 p R a<|B k) k=R/\KY (VX l r a) a l k=a)\/
  ∃y,y<r/\KY (VX l r a) R (λk=>i8 p R a<|B k) k=i8 p R a (B y)/\KY (VX l r a) a l k=l y/\((k<VX l r a/\y=k)\/(VX l r a<k/\y+1=k)):=by
  intro k I;rcases W8 J I with⟨b,g⟩|⟨y,O,b,g⟩
  .left;refine(b,g,?_);subst b;exact a_
  .right
   refine(y,O,b,?_,g);rcases g with⟨u,x⟩|⟨u,x⟩
   .unfold KY;rw[DZ u,x]
   .unfold KY;rw[DJ (),DJ ()];congr 1;lia
 refine(λk I=>?_,λk m N h=>?_,λk I=>?_,λk j I Z=>?_,λk m I h T=>?_,λk i I G=>?_)
 .rcases Q k I with⟨_,_,e⟩|⟨y,O,_,e,_⟩
  .rw[e];exact S
  .rw[e];exact U.lt y O
 .rcases Q k ()with⟨z,_,e⟩|⟨y,O,_,e,z⟩<;>rcases Q m h with⟨s,_,f⟩|⟨d,Y,_,f,s⟩<;>simp only[e,f]
  .lia
  .exact M d () Y
  .exact L y ()
  .exact U.mono y d () Y
 .rcases Q k I with⟨_,b,e⟩|⟨y,O,b,e,_⟩<;>rw[b,e]
  .exact E
  .have o:=U.one y O
   rw[t _ y O () ()];exact o
 .rcases Q k I with⟨_,b,e⟩|⟨y,O,b,e,_⟩<;>rw[b]<;>rw[e]at Z
  .exact hz j Z
  .exact C y j O Z
 .rcases Q k I with⟨z,b,_⟩|⟨y,O,b,_,z⟩<;>rcases Q m h with⟨s,_,f⟩|⟨d,Y,_,f,s⟩<;>rw[b,f]
  .lia
  .exact H d Y
  .exact A _
  .have o:=U.oe y d O Y ()
   rw[t _ d Y () ()];exact o
 .rcases Q k I with⟨_,b,_⟩|⟨y,O,b,_,_⟩<;>rw[b]
  .exact hR i G
  .exact cr _ _
theorem FY(y:q<=r)(hR:Span p n G R)(I:∀k,k<r->Span p n G (F k)):∀g,d6 (r+1) (KY q R F) g->Span p n G g:=by
 rintro g ⟨k,O,rfl⟩;rcases W8 y O with⟨_,e⟩|⟨Q,U,e,_⟩<;>rw[e]
 .exact hR
 .exact I Q U
theorem FK(I:q<=r):d6 (r+1) (KY q R F) R/\∀k,k<r->d6 (r+1) (KY q R F) (F k):=by refine((q,(),a_.symm),λk O=>?_);obtain⟨y,h,e⟩:=FW;exact(y,(),e.symm)
theorem AG(hp:Pr p)(S:fm p n r B l)(P:a<n)(hs:∀v,Span p n (d6 r B) v↔Span p n (d6 j W) v)(Q:Be p n r B l (W j) r R)(H:y*R a%p=1)(E:∀i,i<n->R' i=y*R i%p)(U:VX l r a<=r)(v:Vc):
 Span p n (d6 (r+1)<|KY (VX l r a) R' λk=>i8 p R' a<|B k) v↔Span p n (d6 (j+1) W) v:=by
 have s v:Span p n (d6 j W) v->Span p n (d6 (j+1) W) v:=λO=>O.le λg h=>by obtain⟨i,b,e⟩:=h;exact .gen (i,(),e)
 have Y:=λk I=>s _<|(hs _).mp (.gen (k,I,rfl));have Z:Span p n _ R':=(((Q.eqv _ Y).mp (.gen (j,(),rfl))).smul y).congr λi b=>by simp_all
 obtain⟨o,m2⟩:=FK U;have d:Span p n (d6 (r+1)<|KY _ R' λk=>i8 p R' a<|B k) R':=.gen o;have f:=λk I=>dF d<|.gen<|m2 k I;constructor
 .exact λO=>O.le<|FY U Z λk I=>Xf Z<|Y k I
 .refine λO=>O.le ?_
  rintro g ⟨i,b,rfl⟩;rcases TV i j with z|z
  .exact((hs _).mpr (.gen (i,z,rfl))).le λg m=>by obtain⟨k,I,e⟩:=m;rw[e];exact f k I
  .have:i=j:=()
   subst this;exact(Q.eqv _ f).mpr ((d.smul<|R a).congr λi b=>by
  rw[E i b,Ju,<-qd,UC (R a) y,Tt,H,Int.one_mul,Us])
theorem nC(hs:∀v,Span p n (d6 r B) v↔Span p n (d6 j W) v)(I:Be p n r B l (W j) r R)(Q:∀i,i<n->R i=0)(v:Vc):Span p n (d6 r B) v↔Span p n (d6 (j+1) W) v:=by
 constructor
 .exact λy=>((hs v).mp y).le λg (i,a,e)=>.gen (i,(),e)
 .refine λy=>y.le ?_
  rintro g ⟨i,a,rfl⟩;rcases TV i j with z|z
  .exact(hs _).mpr (.gen (i,z,rfl))
  .have:i=j:=()
   subst this;exact(I.eqv _ λk O=>.gen (k,O,rfl)).mpr (.zero λi a=>by simp_all)
end
section
variable{p:Int}{n m r:Nat}{G:Vc->Prop}
theorem Span.sum{u:Nat->Vc}(c:Nat->Int):∀{m:Nat},(∀k,k<m->Span p n G (u k))->Span p n G λi=>zg (λk=>c k*u k i) m
 |0,_=>.zero λi _=>by simp[zg]
 |m+1,h=>(((h m ()).add (Span.sum c (m:=m) λk y=>h k ()) (c m))).congr λi _=>by rfl
def Rk(p:Int)(n m:Nat)(W:Nat->Vc)(r:Nat):Prop:=∃B l,fm p n r B l/\∀v,Span p n (d6 r B) v↔Span p n (d6 m W) v
theorem JZ(O:Pr p)(h:Rk p n m W r)(h':Rk p n m W r'):r=r':=by obtain⟨B,l,Q,a⟩:=h;obtain⟨Y,b,U,I⟩:=h';exact(Ku O Q U (λv y=>(I v).mpr ((a v).mp y))<|λv y=>(a v).mpr ((I v).mp y)).1
theorem eD(y:Pr p)(I:fm p n r B l)(j:∀i,i<n->0<=w i/\w i<p):∀k,k<=r->∃R,Be p n r B l w k R
 |0,_=>(w,j,λq O=>absurd O<|rB _,λG _=>Iff.rfl)
 |k+1,h=>by obtain⟨R,hR⟩:=eD y I j k ();exact(_,hR.next y I ())
theorem fT:∀n (R:Vc),(∀i,i<n->R i=0)\/∃a,a<n/\R a≠0/\∀i,i<a->R i=0
 |0,R=>.inl λi b=>absurd b<|rB _
 | n+1,R=>by
  rcases fT n R with h|⟨a,O,y,I⟩
  .by_cases e:R n=0
   .exact .inl λi b=>by rcases TV i n with z|z;exact h i z;rw[show i=n by lia];exact e
   .exact .inr (n,(),e,h)
  .exact .inr (a,(),y,I)
theorem BQ(O:Pr p)(W:Nat->Vc)(Z:∀j i,0<=W j i/\W j i<p):∀m,∃r,r<=m/\Rk p n m W r
 |0=>(0,Tv _,λ_ _=>0,λ_=>0,(λk I=>absurd I<|rB _,λk q _ I=>absurd I<|rB _,λk I=>absurd I<|rB _,λk j I=>absurd I<|rB _,λk q I=>absurd I<|rB _,λk i I=>absurd I<|rB _),
  λv=>(λY=>Y.le λg (k,I,_)=>absurd I<|rB _,λY=>Y.le λg (k,I,_)=>absurd I<|rB _))
 | m+1=>by
  obtain⟨r,s,B,l,Q,b⟩:=BQ O W Z m;have o:=O.pos;obtain⟨R,U⟩:=eD O Q (λi _=>Z m i) r<|Tv _;rcases fT n R with h0|⟨a,ha,a3,a4⟩
  .exact(r,(),B,l,Q,nC b U h0)
  .have f:=U.i6 a ha
   obtain⟨y,_,_,d⟩:=Mu O () f.2;exact(r+1,(),_,_,FX O Q ha d (λi h=>by rw[a4 i h];simp) (λk I=>by rw[U.vv k I];simp) λi _=>(Uq _ (),Ub _ o),
    AG O Q ha b U d (λi _=>rfl) (VV Q.mono (λk I e=>by have:=U.vv k I;rw[e]at this;exact a3 this)).1)
theorem vm(y:Pr p)(m:Nat)(W:Nat->Vc):∃r,r<=m/\Rk p n m W r:=by
 obtain⟨r,O,B,l,Q,a⟩:=BQ y (λj i=>W j i%p) (λj i=>(Uq _ (by have:=y.pos;lia),Ub _ y.pos)) m;refine(r,O,B,l,Q,λv=>(a v).trans (λh=>h.le λg (k,I,e)=>?_,λh=>h.le λg (k,I,e)=>?_))
 .subst e;exact(Span.gen (k,I,rfl)).congr λi _=>by rw[Us]
 .subst e;exact(Span.gen (k,I,rfl)).congr λi _=>by rw[Us]
theorem EI(y:Pr p)(_:n<=100)(_:m<=b)(W:Nat->Vc):∃r,r<=m/\Rk p n m W r:=vm y m W
theorem BP(Z:Pr p)(h:Rk p n m W r)(h':Rk p n m' W' r')(E:∀j,j<m->Span p n (d6 m' W') (W j)):r<=r':=by
 obtain⟨B,l,O,o⟩:=h;obtain⟨x,u,U,a⟩:=h';have w:=λk I=>cu U ((a _).mpr (((o _).mp (.gen (k,I,rfl))).le λg (j,f,e)=>e ▸ E j f)) (O.lt k I) (by rw[O.one k I,Z.one];decide) λi d=>by rw[O.kr k i I d];simp
 have t:∀k,k<r->∀q,q<r'->u q=l k->k<=q:=by
  intro k
  induction k with
  |zero=>intro _ q _ _;exact UU _
  | succ k s=>
   intro I q F e;obtain⟨Q,Y,b⟩:=w k ();have A:=s () Q Y b;have C:=O.mono k (k+1) () I;rcases TV Q q with z|z
   .lia
   .rcases TV q Q with y|y
    .have:=U.mono q Q y Y
     lia
    grind
 grind
theorem nU(y:Pr p)(z:h<=b)(E:w<=c)(I:Rk p h w (λj i=>f i j) rc)(O:Rk p w h f rr):rr<=rc:=by obtain⟨B,l,Q,e⟩:=I;obtain⟨g,U,Y⟩:=vm y (n:=w) rc λk=>f<|l k;refine TJ (BP y O Y λi a=>?_) U;refine(Span.sum (u:=λk=>f<|l k) (λk=>B k i) (m:=rc) λk Z=>.gen (k,Z,rfl)).congr λj d=>?_;have:=JD Q ((e λi=>f i j).mpr (.gen (j,d,rfl))) i a;rw[this];congr 1;exact zh λk _=>UC _ _
theorem EJ(y:Pr p)(I:h<=b)(z:w<=c)(O:Rk p h w (λj i=>f i j) rc)(Q:Rk p w h f rr):rr=rc:=
 Nat.le_antisymm (nU y I z O Q) (nU y (f:=λi j=>f j i) z I Q O)
end
theorem zeq(h w f):deep (.lst<|z7 h w f)<=2:=AZ h w f
theorem Af(h w f):i9 (.lst<|z7 h w f)=cC:=FC h w f
theorem eX(h w f):ml (.lst<|z7 h w f)=cC:=oU (zeq h w f) ()<|Af h w f
section
variable{p:Int}{n m r h w:Nat}
theorem Zu{l:DK}(h:Nat):∀{r:Nat},(∀k m,k<m->m<r->l k<l m)->∃s,s<=r/\(∀k,k<s->l k<h)/\∀k,s<=k->k<r->h<=l k
 |0,_=>(0,Tv _,λk y=>absurd y<|rB _,λk _ y=>absurd y<|rB _)
 | r+1,hm=>by
  obtain⟨s,O,I,Q⟩:=Zu h (r:=r) λk m y U=>hm k m y ();by_cases e:l r<h
  .refine(r+1,Tv _,λk y=>?_,λk O I=>by lia)
   rcases TV k r with z|z
   .have:=hm k r z ();lia
   .have:k=r:=()
    subst this;exact e
  .refine(s,(),I,λk y Y=>?_)
   rcases TV k r with z|z
   .exact Q k y z
   .have:k=r:=()
    subst this;lia
theorem cN(hs:s<=r)(I:∀k,k<s->q k=cL)(O:∀k,s<=k->k<r->q k=cC):(Tn r).filter q=(Tn<|r-s).map (s + ·):=by
 obtain⟨d,rfl⟩:∃d,r=s+d:=(r-s,());rw[Dh,M9];have a:(Tn s).filter q=[]:=K_.mpr λk y=>by rw[I k (Tp.mp y)];decide
 have Q:_=(Tn d).map (s + ·):=List.filter_eq_self.mpr λk y=>by obtain⟨i,b,rfl⟩:=Uz.mp y;exact O _ () (by have:=Tp.mp b;lia)
 simp only[a,Q,TM];rfl
noncomputable def qR(h:Nat)(u v:Vc):Vc:=λi=>if i<h then u i else v (i-h)
noncomputable def jU(j:Nat):Vc:=λk=>if j=k then 1 else 0
theorem zR(j:i<h):qR h u v i=u i:=DZ j
theorem z6(i:Nat):qR h u v (h+i)=v i:=by unfold qR;rw[DJ (),TM]
theorem y9(h w:Nat)(u v:Vc):zO h u++zO w v=zO (h+w) (qR h u v):=by
 unfold zO;rw[Dh,UB];congr 1
 .exact Ug λi a=>by rw[zR (Tp.mp a)]
 .rw[Uu]
  exact Ug λi _=>by simp only[S6];rw[z6]
theorem zem(h w:Nat)(v:Vc):(zO (h+w) v).take h=zO h v:=by unfold zO;rw[<-List.map_take,List.take_range,NG (TL h w)]
theorem zen(h w:Nat)(v:Vc):(zO (h+w) v).drop h=zO w λj=>v (h+j):=by unfold zO;rw[Dh,UB,List.drop_append_of_le_length (),L' (),Uu];rfl
theorem VU(h w:Nat)(v:Vc):gh (zO (h+w) v) none (cz h)=zO h v:=by
 have c:¬((h:Int)<0):=()
 simp[gh,cU,c,NG<|TL h w,zem]
theorem VT(h w:Nat)(v:Vc):gh (zO (h+w) v) (cz h) none=zO w λj=>v (h+j):=by
 have c:¬((h:Int)<0):=()
 have t g:(zO w g).take w=zO w g:=Rf ();simp[gh,cU,c,NG<|TL h w,zen,t]
theorem dJ(v:Vc):∀n,gU (zO n v)=cz ((Tn n).map λi=>v i != 0)
 |0=>rfl
 | n+1=>by
  have b:∀l:List Nat,gU (l.map λi=>D.int<|v i)=cz (l.map λi=>v i != 0):=by
   intro l
   induction l with
   |nil=>rfl
   |cons a l y=>simp[gU,Of,y]
  exact b _
theorem wx(I:fm p (h+w) r B l)(O:r<=lim)(hs:s<=r)(Q:∀k,k<s->l k<h)(U:∀k,s<=k->k<r->h<=l k):
 qg [.int h,.lst (z7 r (h+w) B)]=cz (.own<|z7 (r-s) w λk j=>B (s+k)<|h+j):=by
 have d:zQ (.nm 0) (XG<|sB<|Hm<|zH<|V6 (zf 0) aX<|n5<|zf 1) (V6 (zf 0) (n5<|zf 1) aX) [Cell.no,vI h] (z7 r (h+w) B)=cz (((Tn r).filter λk=>decide<|h<=l k).map λk=>D.tup<|zO w λj=>B k<|h+j):=by
  unfold z7;refine jD _ _ _ λk y=>(_,rfl,?_,λY=>?_)
  .have y:=Tp.mp y
   simp[VU,dJ];by_cases e:h<=l k
   .simp[e]
    intro i f;simp[(I.kr k i y ())]
   .simp[e]
    exact(l k,(),by rw[I.one k y];decide)
  .simp[VT]
 rw[cN hs (λk y=>decide_eq_false (by have:=Q k y;lia)) (λk a b=>decide_eq_true<|U k a b)]at d;simp[qg,jA,jd,O,jq,k6,Tq,d];rfl
def A9(p:Int)(h w:Nat)(f:DW)(v:Vc):Prop:=∀i,i<h->zg (λj=>f i j*v j) w%p=0
theorem zfA{f:DW}{v:Vc}(I:Span p (h+w) (d6 w λj=>qR h (λi=>f i j)<|jU j) v):∀i,i<h->v i%p=zg (λj=>f i j*v (h+j)) w%p:=by
 induction I with
 |@zero v b=>
  intro i a;rw[b i ()];have:zg (λj=>f i j*v (h+j)) w%p=zg (λ_=>0) w%p:=zE λj O=>by rw[Tt,b (h+j) ()];simp
  rw[this,zA];rfl
 |@step v u g c Q e y U=>
  intro i a;obtain⟨m,Y,rfl⟩:=Q;rw[y i (),Um,U i a,<-Um];have d:zg (λj=>f i j*v (h+j)) w%p=zg (λj=>_+_) w%p:=zE λj O=>by rw[Tt,y (h+j) (),<-Tt];simp only[z6];rw[Dp,F7]
  simp only[d,jG,zT,zG (f:=λj=>f i j*jU m j) Y λj _ Z=>by simp[jU,Ue Z]];simp[jU,zR a]
theorem YU(I:Pr p)(w:Nat):fm p w w jU id where
 lt:=λk y=>y
 mono:=λk m y _=>y
 one:=λk _=>DZ rfl
 kr:=λk j _ O=>DJ (by simp only[id]at O;lia)
 oe:=λk m _ _ Q=>DJ (by simp only[id];lia)
 i6:=λk i _ _=>by have:=I.two;unfold jU;split<;>lia
theorem Span.map(t:DK)(y:∀i,i<n'->t i<n)(I:∀g,G g->Span p n' G' λi=>g<|t i)(O:Span p n G v):Span p n' G' λi=>v (t i):=by
 induction O with
 |@zero v b=>exact .zero λi a=>b _<|y i a
 |@step v u g c Q Z U Y=>exact((I _ Q).add Y c).congr λi a=>U _<|y i a
theorem JV(O:fm p (h+w) r B l)(hs:s<=r)(E:∀k,k<s->l k<h)(H:∀k,s<=k->k<r->h<=l k):
 fm p w (r-s) (λk j=>B (s+k)<|h+j) (λk=>l (s+k)-h)/\∀v,Span p w (d6 (r-s) λk j=>B (s+k)<|h+j) v↔Span p (h+w) (d6 r B) (qR h (λ_=>0) v):=by
 have I {k} (y:k<r-s):s+k<r:=_g y;have U {k} (y:k<r-s):h<=l (s+k):=H _ (TL ..)<|I y;have eh {k} (y:k<r-s):=Nat.add_sub_cancel'<|U y;refine({
  lt:=λk y=>Nat.sub_lt_left_of_lt_add (U y)<|O.lt _<|I y
  mono:=λk m y Q=>Nat.sub_lt_sub_right (U<|NM y Q)<|O.mono _ _ (Dd y s)<|I Q
  one:=λk y=>by rw[eh y];exact O.one _<|I y
  kr:=λk j y Y=>O.kr _ _ (I y)<|_g Y
  oe:=λk m y Q f=>by rw[eh Q];exact O.oe _ _ (I y) (I Q) λe=>f<|Nat.add_left_cancel e
  i6:=λk i y a=>O.i6 _ _ (I y) (Dd a h)},λv=>(λZ=>?_,λZ=>?_))
 .induction Z with
  | @zero v x=>
   refine .zero λi a=>?_;rcases TV i h with z|z
   .rw[zR z];simp
   .obtain⟨k,rfl⟩:=Nb z
    rw[z6];exact x k<|P8 a
  | @step v u g c t C o b=>
   obtain⟨k,y,rfl⟩:=t;refine .step (c:=c) (s+k,I y,rfl) b λi a=>?_;rcases TV i h with z|z
   .rw[zR z,zR z,O.kr (s+k) i (I y) (TC z<|U y)];simp
   .obtain⟨j,rfl⟩:=Nb z
    rw[z6,z6];exact o j<|P8 a
 .refine(Span.sum (λk=>qR h (λ_=>0) v<|l<|s+k) λk y=>.gen (k,y,rfl)).congr λj Y=>?_
  have:=(JD O Z) (h+j)<|Dd Y h;rw[z6]at this;rw[this];obtain⟨d,rfl⟩:=Nb hs;rw[TM];have A:∀F d,(∀k,k<s->F k=0)->zg F (s+d)=zg (λk=>F<|s+k) d:=by
   intro F d n
   induction d with
   |zero=>
    show zg F s=0;rw[zh n,zA]
   |succ d b=>rw[<-Sa];simp only[zg];rw[b]
  rw[A _ d λk y=>by rw[zR (E k y)];simp]
theorem aU(Y:Pr p)(hh:h<=100)(hw:w<=100)(f:DW):
 ∃q K l s,wt [.int p,jZ h w f]=cz (.own<|z7 q w K)/\fm p w q K l/\(∀v,Span p w (d6 q K) v↔A9 p h w f v)/\Rk p h w (λj i=>f i j) s/\q+s=w:=by
 have hl:=je;have J:h<=lim:=()
 have b:w<=lim:=()
 have M:h+w<=lim:=()
 obtain⟨r,B,l,e,I,Z⟩:=wy Y (():h+w<=200) b .L λj=>qR h (λi=>f i j)<|jU j;have N:w<=r:=by obtain⟨r',n,o⟩:=vm Y r λk j=>B k<|h+j;refine TJ (BP Y (jU,id,YU Y w,λv=>Iff.rfl) o λj O=>?_) n;exact(Span.map (n':=w) (G':=d6 r λk j=>B k<|h+j) (λi=>h+i) (λi a=>by lia) (λg (k,y,Q)=>.gen (k,y,by rw[Q]))<|(Z<|qR h (λi=>f i j)<|jU j).mpr (.gen (j,O,rfl))).congr λi _=>by rw[z6]
 have W:=Nat.le_antisymm (by
  obtain⟨r',n,o⟩:=vm Y w λj=>qR h (λi=>f i j)<|jU j;rw[JZ Y (B,l,I,Z) o];exact n) N
 subst W;obtain⟨s,E,A,C⟩:=Zu h I.mono;obtain⟨P,H⟩:=JV I E A C;refine(r-s,_,_,s,?_,P,λv=>(λU=>?_,λU=>?_),?_,())
 .have F:=kX f J b
  have G:=yG b;have x:zQ (.tp [0,1]) jB (zM j6 (zf 0)<|zf 1) [Cell.no,Cell.no] ((Tn r).map λj=>D.tup [.tup (zO h λi=>f i j),.tup (zO r λk=>if j=k then 1 else 0)])=cz (z7 r (h+r) λj=>qR h (λi=>f i j)<|jU j):=by unfold z7;refine zu _ _ λj O=>zv rfl rfl ?_;simp[j6,M,y9];rfl
  have zf4:wC (z7 r h λi j=>f j i) (z7 r r λi j=>if i=j then 1 else 0)=(Tn r).map λj=>D.tup [.tup (zO h λi=>f i j),.tup (zO r λk=>if j=k then 1 else 0)]:=by unfold wC z7;rw[tj];simp
  have S:((h:Int)+(r:Int))=((h+r:Nat):Int):=()
  simp only[oI]at e;rw[<-S]at e;unfold jZ at F G ⊢;have nl:∀T t f γ,zQ T t f γ []=cz []:=λ_ _ _ _=>rfl;simp[wt,qO,jA,jd,jf,F,G,zf4,b,jq,Tq,x,nl,e,(wx I b E A C)]
 .intro i a
  have:=zfA ((Z _).mp ((H v).1 U)) i a;simp only[zR a,z6]at this;rw[<-this];rfl
 .
  refine(H v).2 ?_;refine(Z _).mpr ((Span.sum (u:=λj=>qR h (λi=>f i j)<|jU j) v (m:=r) λj O=>.gen (j,O,rfl)).congr λi a=>?_);rcases TV i h with z|z
  .simp only[zR z]
   rw[zh (g:=λj=>f i j*v j) λj _=>UC _ _,U i z];simp
  .obtain⟨k,rfl⟩:∃k,i=h+k:=(i-h,())
   simp only[z6];rw[zG (f:=λj=>v j*jU j k) (i:=k) () λj _ d=>by simp[jU,d]];simp[jU]
 .
  refine(λk i=>B k i,l,(λk y=>A k y,λk m y hm=>I.mono k m y (),λk y=>I.one k (),λk j y O=>I.kr k j () O,λk m y hm d=>I.oe k m () () d,λk i y a=>I.i6 k i () ()),λv=>(λU=>U.le λg (k,y,Q)=>?_,λU=>U.le λg (j,O,Q)=>?_))
  .subst Q
   exact Span.map (n':=h) (G':=d6 r λj i=>f i j) (λi=>i) (λi a=>by lia) (λg R=>by obtain⟨j,O,Q⟩:=R;exact(Span.gen (g:=λi=>f i j) (j,O,rfl)).congr λi a=>by rw[Q];simp only[zR a])<|(Z<|B k).mp (.gen (k,(),rfl))
  .subst Q
   exact(Span.map (n':=h) (G':=d6 s λk i=>B k i) (λi=>i) (λi a=>by lia) (λg X=>by
    obtain⟨k,y,Q⟩:=X;subst Q;rcases TV k s with z|z
    .exact .gen (k,z,rfl)
    .exact .zero λi a=>by rw[I.kr k i y (by have:=C k z y;lia)];simp) ((Z<|qR h (λi=>f i j)<|jU j).mpr (.gen (j,O,rfl)))).congr λi a=>by rw[zR a]
theorem wq(y:Pr p)(I:h<=20)(z:w<=20)(f:DW):
 ∃q K l s,wt [.int p,jZ h w f]=cz (.own<|z7 q w K)/\fm p w q K l/\(∀v,Span p w (d6 q K) v↔A9 p h w f v)/\Rk p h w (λj i=>f i j) s/\q+s=w:=aU y () () f
end
@[simp] noncomputable def zhg:=@nG.eq_1
theorem CV(h:jc a=jc b):a=b:=by cases a<;>cases b<;>first|rfl|exact absurd h ()
def Bl(m j:Nat)(w w':DV):Prop:=m=j/\∀k,k<m->w k=w' k
instance (m m':Nat) (w w':DV):Decidable (Bl m m' w w'):=inferInstanceAs (Decidable (m=m'/\∀k,k<m->w k=w' k))
theorem CY:yP m w=yP m' w'↔Bl m m' w w':=by
 constructor
 .intro h
  have y:=ym m w;rw[h,ym]at y;have O:=by simpa using (congrArg NR y).symm
  subst O;refine(rfl,λk I=>?_);have:=congrArg (λl=>l[k]?) y;simp[I]at this;exact(CV this).symm
 .rintro⟨rfl,h⟩
  unfold yP;rw[Ug λk I=>by rw[h k (Tp.mp I)]]
theorem oT(m w):ml (.str<|yP m w)=cC:=by refine oU (n:=0) (by simp[deep]) () ?_;show(yP m w).cps.all (· < 0x110000)=cC;rw[<-Array.all_toList,ym];simp only[zt];intro c y;obtain⟨k,_,rfl⟩:=Uz.mp y;unfold jc;split<;>decide
section
theorem Ve:jI (jE p m w wd T)=cz (.T,[.int p,.tup<|zO (m+1) λk=>(wd k),.tup (xn m w wd T)]):=rfl
theorem mB:zQ (.nm 0) jB (cI (zm 0)<|sI 0) [Cell.no] (xn m w wd T)=cz ((Tn m).map λk=>D.str<|Je<|jc<|w k):=by unfold xn;refine zu _ _ λk y=>zv rfl rfl ?_;rfl
theorem kU(O:m<=900):x6 [jE p m w wd T]=cz (.val<|.str<|yP m w):=by
 have Q:=je;have y:m<=lim:=()
 simp only[x6,jA,jd];simp only[Kz,Hc,Zp,Zo,qS,ZE,kG,vg,xf,UL,Nn,Up,UX,Tq,E7,Uj,jz,Ve,Tx,Uy,xc,d_,Uo,CI,Nat.sub_self,pz];rw[aO,DZ y,show jq 1 [] _=[Cell.no]from rfl,mB];simp only[Uy,Tx,(Y4 _ _)];rw[DZ (by simpa using y,by
  simp only[zt];intro x I;obtain⟨k,_,rfl⟩:=Uz.mp I;rfl,by rfl)]
 rfl
theorem V2(y:m<=900)(I:m'<=900):yp [jE p m w wd T,jE p' m' w' wd' T']=cz (.val<|.bl<|decide<|p=p'/\Bl m m' w w'):=by
 have O:=kU (p:=p) (wd:=wd) (T:=T) (w:=w) y;have d:gB (.str<|yP m w) (.str<|yP m' w')=cz (.bl<|decide<|Bl m m' w w'):=by unfold gB;rw[DZ (oT m w,oT m' w')];congr 2;rw[y7];simp only[i0,U8,beq_iff_eq,decide_eq_true_eq];exact CY
 by_cases q:p=p'
 .simp[yp,jA,jd,Ve,q,O,kU (p:=p') (wd:=wd') (T:=T') (w:=w') I,d]
  simp_all
 .simp[yp,jA,jd,Ve,q]
end
theorem zeu(xs:List D)(n:Nat)(y:xs.length=n)(I:∀i (h:i<n),∃z,xs[i]'(y ▸ h)=.int z)(b2:n<=63)(k:Int)(P:0<=k)(b3:k<100000):
 ∃m,qe [.lst xs,.int k]=cz (.val<|.int m)/\0<=m/\m<1000000007:=by
 have Q:MN 10 9=cC:=by decide
 have U:∀(z:Int) (a:Nat),z=a->a<n->hO n z=cz a:=λz a e h=>by rw[e,qL,DZ h]
 let γ:Cell->Cell->Cell->Ctx:=λa b c=>[.val (.lst xs),vI k,a,b,c];have tc:∀g:Int,∃m,O4 (γ .no .no<|vI g)=cz (.ret<|.val<|.int m)/\0<=m/\m<1000000007:=λg=>(_,by
  simp[O4,γ,Kt _ 48271 () (),wK 7 k () (),wK 13 k () (),Kt _ 69621 () (),Kt (7*k) k () (),show MN 10 30=cC by decide];rfl,(),())
 have X:∃g:Int,Ho (γ .no .no<|vI k)=cz (.next<|γ .no .no<|vI g):=by
  by_cases K:n=0
  .exact(k,by simp[Ho,γ,y,K])
  .obtain⟨i,L⟩:=Nd (Uq k<|show(n:Int)≠0 by lia)
   have Y:i<n:=by have:=Ub k (show(0:Int)<n by lia);lia
   obtain⟨zi,H⟩:=I i Y;exact(zi,by simp[Ho,γ,y,show 0<n by lia,L,qL,Y,H])
 have l:xb (γ .no .no .no)=cz (.next<|γ .no .no .no)->∃m,qe [.lst xs,.int k]=cz (.val<|.int m)/\0<=m/\m<1000000007:=λh=>by obtain⟨g,E⟩:=X;obtain⟨m,G,N⟩:=tc g;exact(m,zU<|zy h<|zy rfl<|zy E G,N)
 by_cases Z:1<n
 .obtain⟨z0,f⟩:=I 0 ()
  have r:hO n 0=cz 0:=U _ 0 rfl ();have x:(1:Int)<(n:Int):=()
  have p:0<n:=()
  by_cases o:z0%2=1
  .have w:(0:Int)<(n:Int)-1:=()
   have W:(n:Int)-1<1073741824:=()
   obtain⟨j,M⟩:=Nd (Uq k<|show(n:Int)-1≠0 by lia);have O:1+j<n:=by have:=Ub k w;lia
   obtain⟨zf3,J⟩:=I (1+j) O;have S:hO n (1+(j:Int))=cz (1+j):=U _ _ () O;obtain⟨t,R⟩:=Nd (show 0<=k/((n:Int)-1)from Int.ediv_nonneg P ());obtain⟨d,B,b4⟩:∃d:Nat,(if (t:Int)<60 then (t:Int)else 60)=d/\d<=60:=by
    split
    .exact(t,rfl,())
    .exact(60,rfl,())
   obtain⟨_,u,A,c',rfl⟩:=VP (T:=.nm 3) (F:=jF 2<|zM K0 (zf 2)<|zM GD (sI 10)<|sI 9) (g:=λ(i:Nat)=>D.int i) (λ_ δ=>∃(v:Int) (c:Cell),δ=γ (vI v) c .no) d (γ:=γ (vI zf3) .no .no) (_,_,rfl) (by
    rintro s _ _ ⟨v,c,rfl⟩;exact(_,γ (vI<|v/10^9) (.val<|.int s) .no,rfl,by simp[γ,Q],_,_,rfl))
   rw[<-j9 d λi=>(i:Int)]at u;have C:inR (d:Int)=cC:=Kh () ();refine(A%10^9,?_,(),());have:xb (γ .no .no .no)=cz (.ret<|.val<|.int<|A%10^9):=by simp[xb,jf,γ,y,Z,p,x,O,f,r,o,w,W,M,S,J,R,B,C,qh,u,Q]
   refine zU ?_;show zV xb _ (γ .no .no .no)=_;rw[jf,this];rfl
  .exact l (by simp[xb,γ,y,Z,p,x,f,r,o])
 .exact l (by simp[xb,γ,y,show ¬(1:Int)<(n:Int)by lia])
theorem GM(j:List Int)(y:j.length<=63)(k:Int)(I:0<=k)(O:k<100000):∃m,qe [JB j,.int k]=cz (.val<|.int m)/\0<=m/\m<1000000007:=
 zeu _ j.length () (λi a=>(j[i],by simp)) y k I O
def JF(j:List Int)(k:Int):Int:=match qe [JB j,.int k]with
 |some (.val<|.int m)=>m
 |_=>0
theorem VZ(y:ns.length<=63)(I:0<=k)(O:k<100000):qe [JB ns,.int k]=cz (.val<|.int<|JF ns k)/\0<=JF ns k/\JF ns k<1000000007:=by
 obtain⟨m,h,Q,U⟩:=GM ns y k I O;have e:JF ns k=m:=by unfold JF;rw[h]
 rw[e];exact(h,Q,U)
noncomputable def zY(bs:List (Int×Int)):List D:=bs.map λb=>D.tup [.int b.1,.int b.2]
@[simp] theorem zeX(bs):(zY bs).length=bs.length:=by simp[zY]
theorem Yp:∀bs,QN (zY bs)=cz bs
 |[]=>rfl
 |b::bs=>by have y:=Yp bs;unfold zY at y;simp[zY,QN,uX,y]
def Y7(bs:List (Int×Int)):List (Int×Int):=(xB bs).map λi=>bs.getD i (0,0)
theorem JX(bs):(Y7 bs).Perm bs:=by have:=(j5 bs).map λi=>bs.getD i (0,0);rw[jv]at this;exact this
theorem nh(h:bs.length<64):tY (zY bs)=cz (zY<|Y7 bs):=by unfold tY;rw[Yp];show(if _<64 then cz _ else none)=_;rw[zeX,DZ h];unfold Y7;congr 1;unfold zY;rw[Uu];refine Ug λi a=>?_;simp[(Tp.mp<|(j5 bs).mem_iff.mp a)]
def ya(n:Int)(b:Int×Int):Prop:=0<=b.1/\b.1<=b.2/\b.2<n
@[simp] noncomputable def zgA:=@BJ.eq_1
section ap
variable(γ:Ctx)
@[simp] noncomputable def zgz:=@RD.eq_1
@[simp] noncomputable def zgD:=@nK.eq_1
@[simp] noncomputable def zgE:=@dY.eq_1
end ap
noncomputable def Cw(b:Int×Int)(r:Int):Bool:=decide (b.1<=r)&&decide (r<=b.2)
def j4(bs:List (Int×Int))(r:Int):List Nat:=(Tn bs.length).filter λi=>Cw (bs.getD i (0,0)) r
noncomputable def pb(l:List Nat):List D:=l.map λ(i:Nat)=>D.int i
@[simp] theorem fe(l):(pb l).length=l.length:=by simp[pb]
theorem oB(bs r):(j4 bs r).length<=bs.length:=by simpa[j4]using (Nf (λi=>Cw (bs.getD i (0,0)) r)<|Tn bs.length)
section
variable{p:Int}{h w q r:Nat}
def app(f:DW)(w:Nat)(v:Vc):Vc:=λi=>zg (λj=>f i j*v j) w
theorem Ky(y:∀j,j<w->v j%p=(u j+c*g j)%p)(i:Nat):app f w v i%p=(app f w u i+c*app f w g i)%p:=by
 unfold app;have e:zg (λj=>f i j*v j) w%p=zg (λj=>_+_) w%p:=zE λj I=>by rw[Tt,y j I,<-Tt,Dp,F7]
 simp only[e,jG,zT]
theorem ZD(hz:∀j,j<w->v j%p=0)(i:Nat):app f w v i%p=0:=by
 unfold app;have:zg (λj=>f i j*v j) w%p=zg (λ_=>0) w%p:=zE λj y=>by rw[Tt,hz j y];simp
 rw[this,zA];rfl
theorem jW(y:∀j,j<w->v j%p=u j%p)(i:Nat):app f w v i%p=app f w u i%p:=by unfold app;exact zE λj I=>by rw[Tt,y j I,<-Tt]
theorem dg(z:Pr p)(P:h<=100)(R:w<=lim)(E:q<=lim)(f:DW)(H:∀i j,i<h->j<w->0<=f i j/\f i j<100)(K:Nat->Vc):
 ∃r B l,wj [.int p,jZ h w f,.lst (z7 q w K)]=cz (.own<|z7 r h B)/\fm p h r B l/\∀v,Span p h (d6 r B) v ↔ ∃y,Span p w (d6 q K) y/\∀i,i<h->v i%p=app f w y i%p:=by
 have x:=je;refine Tf λt=>?_;obtain⟨r,B,l,e,s,n⟩:=k4 z P E .L λk i=>app f w (K k) i%p;refine t ?_;refine(r,B,l,?_,s,λv=>(n v).trans (λI=>?_,λ(y,Q,I)=>?_))
 .have d:zQ (.nm 0) jB (zC aT<|zb (zf 1)<|zb (zf 2)<|zb (zf 0) zD) [Cell.no,vI p,Cell.val (jZ h w f)] (z7 q w K)=cz (z7 q h λk i=>app f w (K k) i%p):=by
   unfold z7;refine zu _ _ λk O=>zv rfl rfl ?_;have:=Xm .T f (K k) z.pos () R H;simp only[oI]at this;simp[this];rfl
  simp only[oI]at e;have sq:jI (jZ h w f)=cz _:=rfl;simp[wj,jA,jd,E,jq,k6,Tq,d,sq,e]
 .induction I with
  |@zero v b=>exact(λ_=>0,.zero λi _=>by simp,λi a=>by rw[b i a,ZD (λ_ _=>by simp)])
  |@step v u g c U m Y Z=>
   obtain⟨y,Q,o⟩:=Z;obtain⟨k,O,rfl⟩:=U;refine(_,(Span.gen (k,O,rfl)).add Q c,λi a=>?_);rw[Ky (λ_ _=>rfl) i,Y i a,Um,o i a,Tt,Us,<-Tt,<-Um]
 .induction Q generalizing v with
  |@zero y b=>exact .zero λi a=>by rw[I i a];exact ZD b i
  |@step y u g c U m Y Z=>
   obtain⟨k,O,rfl⟩:=U;refine((Span.gen (g:=λi=>_%p) (k,O,rfl)).add (Z _ (u,m,λ_ _=>rfl) λi a=>rfl) c).congr λi a=>?_;rw[I i a,Ky Y i,Um,Tt,<-Us (app f w (K k) i),<-Tt,<-Um,Us]
end
section
variable{p:Int}{h w q:Nat}
def ku(h w:Nat)(f:DW)(g:Nat->Vc):Nat->Vc:=λm=>if m<w then qR h (λi=>f i m) (jU m)else qR h (g<|m-w) (λ_=>0)
theorem zeo(f:DW)(g:Nat->Vc):z7 w (h+w) (λj=>qR h (λi=>f i j)<|jU j)++z7 q (h+w) (λk=>qR h (g k) λ_=>0)=z7 (w+q) (h+w) (ku h w f g):=by
 unfold z7;simp only[Dh,UB,Uu];congr 1
 .refine Ug λm y=>?_
  unfold ku;rw[DZ (Tp.mp y)]
 .refine Ug λm y=>?_
  simp only[S6];unfold ku;rw[DJ (),TM]
theorem JJ(f:DW)(y:j<w)(i:Nat):app f w (jU j) i=f i j:=by unfold app;rw[zG y λk _ I=>by simp[jU,Ue I]];simp[jU]
theorem oP(hz:Span p (h+w) (d6 (w+q)<|ku h w f g) z):Span p h (d6 q g) λi=>z i-app f w (λj=>z<|h+j) i:=by
 induction hz with
 |@zero z hz=>
  refine .zero λi a=>?_;rw[rK,hz i (),ZD (λj U=>hz (h+j) ()) i];simp
 | @step z u Z c Y e O Q=>
  obtain⟨m,d,rfl⟩:=Y;have b:∀i,i<h->(z i-app f w _ i)%p=((u i-app f w (λj=>u<|h+j) i)+c*(ku h w f g m i-app f w (λj=>ku h w f g m<|h+j) i))%p:=λi a=>by rw[rK,O i (),(Ky (p:=p) (w:=w) (f:=f) (u:=λj=>u<|h+j) (g:=λj=>ku h w f g m<|h+j) (v:=λj=>z<|h+j) (c:=c)<|λj U=>O (h+j) ()) i,<-rK];congr 1;rw[Int.mul_sub];lia
  rcases TV m w with y|y
  .refine Q.congr λi a=>?_
   rw[b i a];have t:app f w (λj=>ku h w f g m<|h+j) i=f i m:=by
    have:(λj=>ku h w f g m<|h+j)=jU m:=by funext j;unfold ku;rw[DZ y,z6]
    rw[this,JJ f y]
   have I:ku h w f g m i=f i m:=by unfold ku;rw[DZ y,zR a]
   rw[t,I];simp
  .refine .step (c:=c) (m-w,(),rfl) Q λi a=>?_
   rw[b i a];have t:app f w (λj=>ku h w f g m<|h+j) i=0:=by
    have:(λj=>ku h w f g m<|h+j)=λ_=>0:=by funext j;unfold ku;rw[DJ (),z6]
    rw[this];unfold app;simp[zA]
   have I:ku h w f g m i=g (m-w) i:=by unfold ku;rw[DJ (),zR a]
   rw[t,I];simp
theorem Gn(I:Span p h (d6 q g) y):Span p (h+w) (d6 (w+q)<|ku h w f g) (qR h y λ_=>0):=by
 induction I with
 | @zero y b=>
  refine .zero λi a=>?_;rcases TV i h with z|z
  .rw[zR z];exact b i z
  .obtain⟨k,rfl⟩:∃k,i=h+k:=(i-h,by grind)
   rw[z6];simp
 | @step y u Y c O Z Q U=>
  obtain⟨k,d,rfl⟩:=O;refine .step (c:=c) (w+k,(),rfl) U λi a=>?_;have e:ku h w f g (w+k)=qR h (g k) λ_=>0:=by unfold ku;rw[DJ (),TM]
  rw[e];rcases TV i h with z|z
  .rw[zR z,zR z,zR z];exact Q i z
  .obtain⟨j,rfl⟩:∃k,i=h+k:=(i-h,())
   rw[z6,z6,z6];simp
theorem JO(hp:Pr p)(hh:h<=20)(hw:w<=20)(hq:q<=100)(f:DW)(g:Nat->Vc):
 ∃r B l,qO [.int p,jZ h w f,.lst (z7 q h g)]=cz (.own<|z7 r w B)/\fm p w r B l/\∀v,Span p w (d6 r B) v↔Span p h (d6 q g) (app f w v):=by
 have hl:=je;have M:h<=lim:=()
 have y:w<=lim:=()
 have O:h+w<=lim:=()
 have N:q<=lim:=()
 have Q:w+q<=lim:=()
 obtain⟨r,B,l,e,I,u⟩:=k4 hp (():h+w<=100) Q .L<|ku h w f g;have P:=X3 I.mono I.lt;obtain⟨s,d,o,t⟩:=Zu h I.mono;have C:=wx I () d o t;obtain⟨x,J⟩:=JV I d o t;refine(r-s,_,_,?_,x,λv=>(J v).trans ((u _).trans (λU=>?_,λU=>?_)))
 .have Y:=kX f M y
  have Z:=yG y;have a:zQ (.tp [0,1]) jB (zM j6 (zf 0)<|zf 1) [Cell.no,Cell.no] ((Tn w).map λj=>D.tup [.tup (zO h λi=>f i j),.tup (zO w λk=>if j=k then 1 else 0)])=cz (z7 w (h+w) λj=>qR h (λi=>f i j)<|jU j):=by unfold z7;refine zu _ _ λj b=>zv rfl rfl ?_;simp[j6,O,y9];rfl
  have K:wC (z7 w h λi j=>f j i) (z7 w w λi j=>if i=j then 1 else 0)=(Tn w).map λj=>D.tup [.tup (zO h λi=>f i j),.tup (zO w λk=>if j=k then 1 else 0)]:=by unfold wC z7;rw[tj];simp
  have A:=QF y;have X:yE (.tup [.int 0]) (.int w)=cz (.tup<|zO w λ_=>0):=by
   show(if [D.int 0].length*(w:Int).toNat<=lim/\inR w=cC then cz (D.tup (Tq (w:Int).toNat [D.int 0]).flatten)else none)=_;rw[DZ (by simpa using y,A)];congr 2;rw[zp];clear a K Z Y C x J u I e A Q O y hw hq o t d P
   induction w with
   |zero=>rfl
   |succ w W=>rw[List.replicate_succ',List.flatten_append,W];unfold zO;rw[tu,UB];rfl
  have E:zQ (.nm 0) jB (zM j6 (zf 0)<|zM yE (qv<|zb (sI 0) zD)<|cI (zm 1)<|sI 1) [Cell.no,Cell.val (jZ h w f)] (z7 q h g)=cz (z7 q (h+w) λk=>qR h (g k) λ_=>0):=by unfold z7;refine zu _ _ λk H=>zv rfl rfl ?_;have sq:jI (jZ h w f)=cz (.T,[.int h,.int w,.tup (z7 h w f)]):=rfl;simp[sq,X,j6,O,y9]
  have S:(h+w)=((h+w:Nat):Int):=()
  simp only[oI]at e;rw[<-S,<-zeo]at e;unfold jZ at Y Z E ⊢;simp[qO,jA,jd,jf,Y,Z,K,y,N,Q,jq,k6,Tq,a,E,e,C]
 .refine((oP U).smul (-1)).congr λi F=>?_
  congr 1;rw[zR F,funext z6];lia
 .refine((Gn (w:=w) (f:=f) U).add (Span.sum (p:=p) (n:=h+w) (G:=d6 (w+q)<|ku h w f g) v (m:=w) λj b=>.gen (j,(),rfl)) (-1)).congr λi F=>?_
  congr 1;rcases TV i h with z|z
  .rw[zR z,zR z]
   have:zg (λk=>v k*ku h w f g k i) w=app f w v i:=by unfold app;exact zh λk H=>by unfold ku;rw[DZ H,zR z,UC]
   rw[this];lia
  .obtain⟨k,rfl⟩:∃k,i=h+k:=(i-h,())
   rw[z6,z6];have:zg (λj=>v j*ku h w f g j (h+k)) w=v k:=by rw[zG (i:=k) () λj b R=>by unfold ku;rw[DZ b,z6];simp[jU,R]];unfold ku;rw[DZ (),z6];simp[jU]
   rw[this];simp
end
def YK(h w:Nat)(f g:DW)(i:Nat):Vc:=if i<h then qR w (f i) (λ_=>0)else qR w (λ_=>0) (g<|i-h)
theorem AS(h h' w:Nat)(f g F:DW)(I:∀i j,i<h->j<w->F i j=f i j)(O:∀i j,i<h'->j<w->F (h+i) j=g i j):z7 h w f++z7 h' w g=z7 (h+h') w F:=by
 unfold z7;simp only[Dh,UB,Uu];congr 1
 .exact Ug λi a=>by rw[y8 λj y=>(I i j (Tp.mp a) y).symm]
 .exact Ug λi a=>by simp only[S6];rw[y8 λj y=>(O i j (Tp.mp a) y).symm]
theorem FE(n:Nat):(Tq n [D.int 0]).flatten=zO n λ_=>0:=by
 induction n with
 |zero=>rfl
 |succ n y=>
  simp only[_n,List.flatten_cons,y];unfold zO;rw[<-w5,<-w5];rfl
section
theorem vy(y:m<=900):ZQ [jE p m w wd T,jE p m w wd' T']=none/\jT [jE p m w wd T,jE p m w wd' T']=cz (.val .d7):=by
 have a:=V2 (p:=p) (p':=p) (w:=w) (w':=w) (wd:=wd) (wd':=wd') (T:=T) (T':=T') y y;rw[decide_eq_true (rfl,rfl,λ_ _=>rfl)]at a;constructor
 .simp[ZQ,RE,jd,Sl,H_,Ry,I',a,Tq]
 .simp[jT,jA,jd,a,Tq]
end
def Jw(h w:Nat)(f g j:DW)(i:Nat):Vc:=if i<h then qR w (f i) (j i)else qR w (λ_=>0) (g<|i-h)
theorem pM(f g j:DW):z7 h (w+w') (λi=>qR w (f i)<|j i)++z7 h' (w+w') (λi=>qR w (λ_=>0)<|g i)=z7 (h+h') (w+w') (Jw h w f g j):=
 AS h h' _ _ _ _ (λi j a _=>by unfold Jw;rw[DZ a]) λi j a _=>by unfold Jw;rw[DJ (),TM]
theorem W2(f g j:DW)(Y:h<=400)(E:w<=400)(Z:h'<=400)(B:w'<=400):
 qB [jZ h w f,jZ h' w' g,jZ h w' j]=cz (.val<|jZ (h+h') (w+w')<|Jw h w f g j):=by
 have m:=je;have a:h<=lim:=()
 have b:w<=lim:=()
 have k:h'<=lim:=()
 have y:w+w'<=lim:=()
 have O:h+h'<=lim:=()
 have I:∀h w f,jI (jZ h w f)=cz _:=λ_ _ _=>rfl;have l:yE (.tup [.int 0]) (.int w)=cz (.tup<|zO w λ_=>0):=by show(if _/\inR w=cC then _ else _)=_;rw[DZ (by simpa using b,QF b),zp,FE]
 have Q:zQ (.tp [0,1]) jB (zM j6 (zf 0)<|zf 1) [Cell.no,Cell.no] (wC (z7 h w f)<|z7 h w' j)=cz (z7 h (w+w') λi=>qR w (f i)<|j i):=by
  have z:wC (z7 h w f) (z7 h w' j)=(Tn h).map λi=>D.tup [.tup (zO w<|f i),.tup (zO w'<|j i)]:=by unfold wC z7;rw[tj];simp
  rw[z];unfold z7;refine zu _ _ λi d=>zv rfl rfl ?_;have e:j6 (.tup<|zO w<|f i) (.tup<|zO w'<|j i)=cz (.tup<|zO (w+w')<|qR w (f i)<|j i):=by show(if _<=lim then _ else _)=_;rw[DZ (by simpa using y),y9]
  assumption
 have g2:zQ (.nm 0) jB (zM j6 (zM yE (qv<|zb (sI 0) zD)<|cI (zm 1)<|sI 1)<|zf 0) [Cell.no,Cell.val (jZ h w f)] (z7 h' w' g)=cz (z7 h' (w+w') λi=>qR w (λ_=>0)<|g i):=by
  unfold z7;refine zu _ _ λi d=>zv rfl rfl ?_;have e:j6 (.tup<|zO w λ_=>0) (.tup<|zO w'<|g i)=cz (.tup<|zO (w+w')<|qR w (λ_=>0)<|g i):=by show(if _<=lim then _ else _)=_;rw[DZ (by simpa using y),y9]
  simp[I,l,e]
 have U:(wC (z7 h w f)<|z7 h w' j).length<=lim:=by unfold wC z7;simp;exact a
 simp[qB,jA,jd,jf,I,a,k,O,U,jq,k6,Tq,Q,g2];rw[pM];rfl
theorem ZI(f g:DW)(y:h<=400)(j:w<=400)(I:h'<=400)(O:w'<=400):
 xl [jZ h w f,jZ h' w' g]=cz (.val<|jZ (h+h') (w+w')<|YK h w f g):=by
 have b:=je;have a:h<=lim:=()
 have Q:w'<=lim:=()
 have U:∀h w f,jI (jZ h w f)=cz _:=λ_ _ _=>rfl;have Y:ka [jZ h w f,jZ h' w' g]=cz (.val<|jZ h w' λ_ _=>0):=by simp[ka,jA,jd,U,KC a Q]
 have Z:=W2 f g (λ_ _=>0) y j I O;simp[xl,jA,jd,Y,Z];rfl
@[simp] noncomputable def gE:=@BN.eq_1
section
def Dy(p:Int)(w:DV)(wd:DK)(T:DQ)(k:Nat)(u v:Vc):Prop:=
 if w k then ∀x,x<wd k->u x%p=app (T k) (wd<|k+1) v x%p else ∀x,x<wd (k+1)->v x%p=app (T k) (wd k) u x%p
def mv(p:Int)(w:DV)(wd:DK)(T:DQ)(i a:Nat):Nat->Vc->Prop
 |0,z=>∀x,x<a->z x%p=z (a+x)%p
 |t+1,z=>∃u:Vc,mv p w wd T i a t (qR a z u)/\Dy p w wd T (i+t) u λx=>z<|a+x
theorem vk(F:Nat->Int)(s:Nat):∀d,zg F (s+d)=zg F s+zg (λk=>F<|s+k) d
 |0=>by simp[zg]
 |d+1=>by rw[<-Sa];simp only[zg];rw[vk F s d];omega
theorem Kx(y:Vc)(x:Nat):app (YK a a (λi j=>if i=j then 1 else 0) f) (a+c) y x=if x<a then y x else app f c (λj=>y<|a+j) (x-a):=by
 unfold app;rw[vk];by_cases h:x<a
 .rw[DZ h]
  have b:zg (λj=>YK a a (λi j=>if i=j then 1 else 0) f x j*y j) a=y x:=by
   rw[zG h λj I O=>by unfold YK;rw[DZ h,zR I];simp[Ue O]]
   unfold YK;rw[DZ h,zR h];simp
  have Q:zg (λk=>YK a a (λi j=>if i=j then 1 else 0) f x (a+k)*y (a+k)) c=0:=by rw[zh (g:=λ_=>0) λj _=>by unfold YK;rw[DZ h,z6];simp,zA]
  simp only[b,Q];simp
 .rw[DJ h]
  have b:zg (λj=>YK a a (λi j=>if i=j then 1 else 0) f x j*y j) a=0:=by rw[zh (g:=λ_=>0) λj I=>by unfold YK;rw[DJ h,zR I];simp,zA]
  rw[b,(zh λj _=>by unfold YK;rw[DJ h,z6])];simp
theorem Lu(E:w (i+t)=cL)(O:∀z,Span p (a+wd (i+t)) (d6 q B) z↔mv p w wd T i a t z)
 (Y:∀v,Span p (a+wd (i+t+1)) (d6 q' B') v ↔ ∃y,Span p (a+wd (i+t)) (d6 q B) y/\∀x,x<a+wd (i+t+1)->v x%p=app (YK a a (λi j=>if i=j then 1 else 0)<|T<|i+t) (a+wd (i+t)) y x%p) (v:Vc):
 Span p (a+wd (i+t+1)) (d6 q' B') v↔mv p w wd T i a (t+1) v:=by
 rw[Y v];constructor
 .rintro⟨y,Z,Q⟩
  refine(λx=>y<|a+x,(O _).mp (Z.congr λx U=>?_),?_)
  .rcases TV x a with z|z
   .rw[zR z]
    have:=Q x ();rw[Kx,DZ z]at this;exact this
   .obtain⟨k,rfl⟩:∃k,x=a+k:=(x-a,())
    rw[z6]
  .unfold Dy
   rw[E,DJ Uk];intro x U;have:=Q (a+x) ();rw[Kx,DJ (),TM]at this;exact this
 .rintro⟨u,b,I⟩
  unfold Dy at I;rw[E,DJ Uk]at I;refine(qR a v u,(O _).mpr b,λx U=>?_);rw[Kx];rcases TV x a with z|z
  .rw[DZ z,zR z]
  .rw[DJ ()]
   obtain⟨k,rfl⟩:∃k,x=a+k:=(x-a,());rw[TM,funext z6];exact I k ()
theorem Lv(E:w (i+t)=cC)(I:∀z,Span p (a+wd (i+t)) (d6 q B) z↔mv p w wd T i a t z)
 (O:∀v,Span p (a+wd (i+t+1)) (d6 q' B') v↔Span p (a+wd (i+t)) (d6 q B) (app (YK a a (λi j=>if i=j then 1 else 0)<|T<|i+t) (a+wd (i+t+1)) v)) (v:Vc):
 Span p (a+wd (i+t+1)) (d6 q' B') v↔mv p w wd T i a (t+1) v:=by
 rw[O v];constructor
 .intro Q
  refine((app (T<|i+t) (wd<|i+t+1)<|λj=>v<|a+j),(I _).mp (Q.congr λx U=>?_),?_)
  .rw[Kx]
   rfl
  .unfold Dy
   rw[E,DZ rfl];exact λx _=>rfl
 .rintro⟨u,Y,y⟩
  unfold Dy at y;rw[E,DZ rfl]at y;refine((I _).mpr Y).congr λx U=>?_;rw[Kx];rcases TV x a with z|z
  .rw[zR z,DZ z]
  .obtain⟨k,rfl⟩:∃k,x=a+k:=(x-a,())
   rw[z6,DJ (),TM];exact(y k ()).symm
theorem r_:(Je (jc b)=("r" : Str))↔b=cL:=by cases b<;>decide
abbrev lk(p:Int)(m:Nat)(w:DV)(wd:DK)(T:DQ)(i j:Int)(a:Nat)(ds:List D)(c:Cell):Ctx:=[.val (jE p m w wd T),vI i,vI j,.val (jZ a a λi j=>if i=j then 1 else 0),.own ds,c]
theorem pA(U:Pr p)(H:∀k,wd k<=7)(ha:a<=7)(hT:∀k x y,0<=T k x y/\T k x y<p)(R S:Int)(hq:q<=20)(P:∀z,Span p (a+wd (i+t)) (d6 q B) z↔mv p w wd T i a t z):
 ∃I O E,iZ (lk p m w wd T R S a (z7 q (a+wd (i+t)) B)<|.val<|ZH w wd T<|i+t)=cz (.next<|lk p m w wd T R S a (z7 I (a+wd (i+t+1)) O)<|.val<|ZH w wd T<|i+t)/\fm p (a+wd (i+t+1)) I O E/\
  ∀z,Span p (a+wd (i+t+1)) (d6 I O) z↔mv p w wd T i a (t+1) z:=by
 have s:=je;have n:=U.le;have o:=H<|i+t;have r:=H<|i+t+1;have b:=ZI (h:=a) (w:=a) (h':=dH w wd<|i+t) (w':=dq w wd<|i+t) (λi j=>if i=j then 1 else 0) (T<|i+t) () () (by unfold dH;split<;>lia) (by unfold dq;split<;>lia);have g:jI (jE p m w wd T)=cz _:=rfl;have Q:jI (ZH w wd T<|i+t)=cz _:=rfl;have l x y:0<=YK a a (λi j=>if i=j then 1 else 0) (T<|i+t) x y/\YK a a (λi j=>if i=j then 1 else 0) (T<|i+t) x y<100:=by
  have:=hT (i+t) (x-a)<|y-a;unfold YK qR;split
  .dsimp only
   split
   .split<;>lia
   .lia
  .dsimp only
   split
   .lia
   .lia
 cases hw:w (i+t)with
 |false=>
  have f:dH w wd (i+t)=wd (i+t+1):=by unfold dH;rw[hw];rfl
  have Y:dq w wd (i+t)=wd (i+t):=by unfold dq;rw[hw];rfl
  rw[f,Y]at b Q;obtain⟨I,O,E,e,Z,d⟩:=dg U (h:=a+wd (i+t+1)) (w:=a+wd (i+t)) (q:=q) () () () _ (λx y _ _=>l x y) B;refine(I,O,E,?_,Z,Lu hw P d);have z:=r_.mpr hw;unfold iZ;simp only[lk,CN,de,gE,jQ,vz,vg,xf,vc,Zp,vh,Uj,Uo,Ks,vr,vp,jN,jz,g,Q,Tx,Uy,xc,Up,UX,c_,Pp,b,Vf,z,if_true,e,eE]
 |true=>
  have f:dH w wd (i+t)=wd (i+t):=by unfold dH;rw[hw];rfl
  have Y:dq w wd (i+t)=wd (i+t+1):=by unfold dq;rw[hw];rfl
  rw[f,Y]at b Q;obtain⟨I,O,E,e,Z,d⟩:=JO U (h:=a+wd (i+t)) (w:=a+wd (i+t+1)) (q:=q) () () () _ B;refine(I,O,E,?_,Z,Lv hw P d);have z:¬(Je (jc (w (i+t)))=("r")):=λq=>by have:=r_.mp q;lia
  unfold iZ;simp only[lk,CN,de,gE,jQ,vz,vg,xf,vc,Zp,vh,Uj,Uo,Ks,vr,vp,jN,jz,g,Q,Tx,Uy,xc,Up,UX,c_,Pp,b,Vf,z,if_false,e,eE]
end
section
theorem zfh(I:Pr p)(a:Nat):fm p (a+a) a (λx=>qR a (jU x)<|jU x) id where
 lt:=λk y=>by simp only[id];omega
 mono:=λk m y _=>y
 one:=λk y=>by simp only[id];rw[zR y];exact DZ rfl
 kr:=λk j y O=>by simp only[id]at O;rw[zR ()];exact DJ ()
 oe:=λk m y Q U=>by simp only[id];rw[zR Q];exact DJ ()
 i6:=λk i _ _=>by have:=I.two;unfold qR jU;split<;>split<;>omega
theorem mN(B:Pr p)(i:Nat)(z:Vc):Span p (wd i+wd i) (d6 (wd i) λx=>qR (wd i) (jU x)<|jU x) z↔mv p w wd T i (wd i) 0 z:=by
 constructor
 .intro a
  induction a with
  |@zero z a=>intro x I;rw[a x (),a (wd i+x) ()]
  |@step z u g c U d O Y=>
   obtain⟨k,Q,rfl⟩:=U;intro x I;dsimp only at O;rw[O x (),O (wd i+x) (),zR I,z6,Um,Y x I,<-Um]
 .intro a
  refine(Span.sum z λk Q=>.gen (k,Q,rfl)).congr λx I=>?_;have one y:y<wd i->zg (λk=>z k*jU k y) (wd i)=z y:=λZ=>by rw[zG Z λj _ b=>by simp[jU,b]];simp[jU]
  rcases TV x (wd i)with q|q
  .have:zg (λk=>z k*qR (wd i) (jU k) (jU k) x) (wd i)=z x:=by
    rw[<-one x q];exact zh λk _=>by rw[zR q]
   rw[this]
  .obtain⟨k,rfl⟩:∃k,x=wd i+k:=(x-wd i,())
   have:zg (λj=>z j*qR (wd i) (jU j) (jU j) (wd i+k)) (wd i)=z k:=by rw[<-one k ()];exact zh λj _=>by rw[z6]
   rw[this];exact(a k ()).symm
theorem zeG(U:Pr p)(Y:∀k,wd k<=7)(P:∀k x y,0<=T k x y/\T k x y<p)(E:i<=j)(R:j<=m):
 ∃q B l,gF [jE p m w wd T,.int i,.int j]=cz (.own<|z7 q (wd i+wd j) B)/\fm p (wd i+wd j) q B l/\∀z,Span p (wd i+wd j) (d6 q B) z↔mv p w wd T i (wd i) (j-i) z:=by
 have hl:=je;have J:=Y i;have g:wd i<=lim:=()
 have o:wd i+wd i<=lim:=()
 have d:∀k t q B l c,t+k=j-i->fm p (wd i+wd (i+t)) q B l->(∀z,Span p (wd i+wd (i+t)) (d6 q B) z↔mv p w wd T i (wd i) t z)->
  ∃O Q f Z,yD (.nm 5) iZ ((Dn t k).map λk=>ZH w wd T<|i+k) (lk p m w wd T i j (wd i) (z7 q (wd i+wd (i+t)) B) c)=cz (.next<|lk p m w wd T i j (wd i) (z7 O (wd i+wd j) Q) Z)/\fm p (wd i+wd j) O Q f/\
   ∀z,Span p (wd i+wd j) (d6 O Q) z↔mv p w wd T i (wd i) (j-i) z:=by
  intro k
  induction k with
  |zero=>
   intro t q B l c h I a;have G:t=j-i:=()
   have H:i+t=j:=()
   rw[H]at I a ⊢;rw[<-G];exact(q,B,l,c,rfl,I,a)
  |succ k K=>
   intro t q B l c h I a;have hq:=X3 I.mono I.lt;have:=Y<|i+t;refine Tf λb=>?_;obtain⟨N,n,M,e,r,s⟩:=pA U Y J P i j () a;obtain⟨O,Q,f,Z,F,ad,u⟩:=K (t+1) N n M _ () r s;refine b ?_;refine(O,Q,f,Z,?_,ad,u);show((iZ<|lk p m w wd T i j (wd i) (z7 q (wd i+wd (i+t)) B)<|.val<|ZH w wd T<|i+t).bind _)=_;rw[e];exact F
 refine Tf λb=>?_;obtain⟨q,B,l,c,e,I,a⟩:=d (j-i) 0 (wd i) (λx=>qR (wd i) (jU x)<|jU x) id .no () (zfh U<|wd i)<|mN U i;refine b ?_;refine(q,B,l,?_,I,a);have X:i<m+1:=()
 have W:zQ (.nm 0) jB (zM j6 (zf 0)<|zf 0) [Cell.no] (z7 (wd i) (wd i) λi j=>if i=j then 1 else 0)=cz (z7 (wd i) (wd i+wd i) λx=>qR (wd i) (jU x)<|jU x):=by unfold z7;refine zu _ _ λx hx=>zv rfl rfl ?_;simp[j6,o,y9];rfl
 have S:jI (jE p m w wd T)=cz (.T,[.int p,.tup<|zO (m+1) λk=>(wd k),.tup (xn m w wd T)]):=rfl;have C:jI (jZ (wd i) (wd i) λi j=>if i=j then 1 else 0)=cz (.T,[.int (wd i),.int<|wd i,.tup (z7 (wd i) (wd i) λi j=>if i=j then 1 else 0)]):=rfl;have L:hO (m+1) i=cz i:=by simp_all
 have A:gh (xn m w wd T) (cz i) (cz j)=(Tn<|j-i).map λk=>ZH w wd T (i+k):=by rw[MM E R];rfl
 rw[<-D3]at e;simp only[lk,G5]at e;rw[gF];unfold jA;simp only[jd,Tq,UL,Nn,NA,Dj,jf,ZO,de,qS,vh,jQ,vz,vg,kG,xf,vc,Zp,aS,ZE,CK,Ro,Uj,Uo,jN,jz,S,C,CI,Tx,Uy,xc,Up,UX,Pp,d_,wa,L,Xb _ X,yG g,Vf,fX,g,if_true,show ∀x,jq 1 [] x=[Cell.no]from λ_=>rfl,W,vr,vp,A,e];simp
end
@[simp] noncomputable def zgK:=@nJ.eq_1
section
theorem ZJ:jI (jE p m w wd T)=cz (.T,[.int p,.tup<|zO (m+1) λk=>(wd k:Int),.tup (xn m w wd T)]):=rfl
end
noncomputable def gm(i j:Nat):Int:=if i=j then 1 else 0
def Jf(p:Int)(n:Nat)(f g:DW):Prop:=∀i j,i<n->j<n->zg (λk=>f i k*g k j) n%p=gm i j%p
theorem bX{p x y X Y:Int}(I:x%p=X%p)(O:y%p=Y%p):(x*y)%p=(X*Y)%p:=by rw[Tt,I,O,<-Tt]
section
theorem zff(Z:u<n)(B:o<n)(H:u≠o)(I:Jf p n f g)(z:∀i k,i<n->k<n->f' i k%p=(f i k+(if i=u then t else 0)*f o k)%p)(E:∀k j,k<n->j<n->g' k j%p=(g k j+(if j=o then -t else 0)*g k u)%p):Jf p n f' g':=by
 intro i j e Q;generalize zhy:(if i=u then t else 0)=a at z;have l:=λk O=>by exact(z i k e O)
 rw[zE (g:=λk=>f i k*g k j+(if j=o then -t else 0)*(f i k*g k u)+((if i=u then t else 0)*(f o k*g k j)+((if i=u then t else 0)*(if j=o then -t else 0))*(f o k*g k u))) λk O=>by
  rw[bX (l k O) (E k j O Q)]
  grind]
 simp only[jG,jG,jG,zT,zT,zT];have m:=I o u B Z;have U c S d:S%p=d%p->(c*S)%p=(c*d)%p:=λh=>bX rfl h;have ad x y X Y:x%p=X%p->y%p=Y%p->(x+y)%p=(X+Y)%p:=λa b=>by rw[Um,a,b,<-Um]
 rw[ad _ _ _ _ (ad _ _ _ _ (I i j e Q)<|U _ _ _<|I i u e Z) (ad _ _ _ _ (U _ _ _<|I o j B Q)<|U _ _ _ m)];congr 1;unfold gm;lia
theorem mJ(Q:u<n)(U:o<n)(Y:u≠o)(Z:Jf p n g f)(z:∀i k,i<n->k<n->f' i k%p=(f i k+(if i=u then t else 0)*f o k)%p)(B:∀k j,k<n->j<n->g' k j%p=(g k j+(if j=o then -t else 0)*g k u)%p):Jf p n g' f':=by
 intro i j b I;rw[<-Z i j b I];rw[zE (g:=λk=>g i k*f k j+((if k=u then t*_ else 0)+(if k=o then -t*_ else 0))) λk y=>by
  rw[bX (B i k b y) (z k j y I)];congr 1;by_cases a:k=u
  .subst a
   simp only[DJ Y,if_true,rJ,rb,Dp];rw[F7]
  .by_cases O:k=o
   .subst O
    simp only[DJ a,if_true,rJ,rb,NP,Gx];rw[qd]
   .simp only[DJ a,DJ O,rJ,rb]]
 rw[jG,jG,zG Q λk _ y=>DJ y,zG U λk _ y=>DJ y];simp only[if_true];congr 1;rw[Int.neg_mul];lia
end
def xj(n:Nat)(f:DW):List D:=(Tn n).map λi=>D.lst<|zO n<|f i
def wO(n:Nat)(f:DW):List (List D):=(Tn n).map λi=>zO n<|f i
theorem nO(n f):(wO n f).map D.lst=xj n f:=by simp[wO,xj]
@[simp] theorem zgf(n f):(xj n f).length=n:=by simp[xj]
@[simp] theorem zgN(f)(j:i<(xj n f).length):(xj n f)[i]=.lst (zO n<|f i):=by simp[xj]
@[simp] theorem zgc(r):k6 (.nest r)=.no:=rfl
@[simp] theorem zgk(r):k6 (.own r)=.no:=rfl
@[simp] theorem zgj(d):k6 (.val d)=.val d:=rfl
@[simp] theorem zgP:k6 .no=.no:=rfl
theorem cQ(j:a<n)(v y:Vc)(x:Int)(O:y a=x)(I:∀i,i<n->i≠a->y i=v i):(zO n v).set a (.int x)=zO n y:=by
 apply F4;intro i;rw[RB];by_cases b:i<n
 .by_cases e:a=i
  .simp_all
  .have:=I i b (Ue e)
   simp_all
 simp_all
theorem nP(O:u<n)(f y:DW)(v:Vc)(Q:∀j,j<n->y u j=v j)(U:∀i j,i<n->i≠u->j<n->y i j=f i j):(xj n f).set u (.lst<|zO n v)=xj n y:=by
 apply F4;intro i;rw[RB];by_cases a:i<n
 .by_cases e:u=i
  .subst e;simp[O,xj];exact y8 λj I=>(Q j I).symm
  .simp[e,xj,a];exact y8 λj I=>(U i j a (Ue e) I).symm
 simp_all
theorem YD:∀(l:List Nat),(∀k∈l,∃d y m,fx (w4 γ j i<|R k)=cz d/\gx (w4 γ j i<|R k)=cz (.int y)/\hO (R k).length y=cz m/\(R k).set m d=R' k)->yZ j i gx fx γ (l.map R)=cz (l.map R')
 |[],_=>rfl
 |k::l,h=>by obtain⟨d,y,m,I,O,Q,U⟩:=h k Uh;simp[yZ,I,O,Q,U,(YD l λx Y=>h x<|TN _ Y)]
theorem ay:∀(l:List Nat),(∀k∈l,∃γ1,k9 T (g k) γ=cz γ1/\f γ1=cz (R k))->ZZ T f γ (l.map g)=cz (l.map R)
 |[],_=>rfl
 |k::l,h=>by obtain⟨γ1,y,I⟩:=h k Uh;simp[ZZ,y,I,(ay l λx O=>h x<|TN _ O)]
section
structure Pair(p:Int)(n:Nat)(f g:DW):Prop where
 bf:∀i j,i<n->j<n->0<=f i j/\f i j<p
 bg:∀i j,i<n->j<n->0<=g i j/\g i j<p
 fg:Jf p n f g
 gf:Jf p n g f
end
@[simp] theorem zge(n f):(wO n f).length=n:=by simp[wO]
noncomputable def zS(w:DV)(k:Nat):Nat:=if w k then k+1 else k
noncomputable def zX(w:DV)(k:Nat):Nat:=if w k then k else k+1
theorem GT(w:DV)(h:k<m):zS w k<m+1:=by unfold zS;lia
theorem ZR(w:DV)(k:Nat):qP [.int k,.str (Je<|jc<|w k)]=cz (.val<|.int<|zS w k):=by have q:=Kn<|w k;cases h:w k<;>rw[h]at q<;>simp[qP,jA,jd,zS,q,h]
theorem gH(w:DV)(k:Nat):ZF [.int k,.str (Je<|jc<|w k)]=cz (.val<|.int<|zX w k):=by have q:=Kn<|w k;cases h:w k<;>rw[h]at q<;>simp[ZF,jA,jd,zX,q,h]
def yd(m:Nat)(wd:DK)(f:DQ):List D:=(Tn m).map λk=>jZ (wd k) (wd k)<|f k
@[simp] theorem zgg(m wd f):(yd m wd f).length=m:=by simp[yd]
@[simp] theorem zgM(wd f)(h:k<(yd m wd f).length):(yd m wd f)[k]=jZ (wd k) (wd k) (f k):=by simp[yd]
def wL(p:Int)(w:DV)(wd:DK)(f g T:DQ)(k i j:Nat):Int:=
 zg (λb=>g (zS w k) b j*(zg (λa=>T k a b*f (zX w k) i a) (wd<|zX w k)%p)) (wd<|zS w k)%p
section
theorem lH(m:Nat)(F:Nat->D):kQ ((Tn m).map F)=(Tn m).map λ(k:Nat)=>D.tup [.int k,F k]:=by
 unfold kQ
 simp_all
end
@[simp] theorem zgL(γ:Ctx)(f):nK f γ=(f γ).bind λd=>match d with
 |.str z=>if xo z=cC then cz (kQ<|wF z)else none
 |_=>none:=rfl
theorem lG(m:Nat)(w:DV):kQ (wF<|yP m w)=(Tn m).map λ(k:Nat)=>D.tup [.int k,.str (Je<|jc<|w k)]:=by
 have e:wF (yP m w)=(Tn m).map λk=>D.str (Je<|jc<|w k):=by unfold wF;rw[ym,Uu];rfl
 unfold kQ
 simp_all
noncomputable def pr(a b:Nat):D:=.tup [.int a,.int b]
@[simp] theorem zha(a b):jI (pr a b)=cz (.T,[.int (a:Int),.int (b:Int)]):=rfl
theorem ck(a c:Nat):(if a<c then (c:Int)else a)=((max a c:Nat)):=by
 by_cases h:c>a
 .rw[DZ h,Nat.max_eq_right ()]
 .rw[DJ h,Nat.max_eq_left ()]
theorem cg(a c:Nat):(if c<a then (c:Int)else a)=((min a c:Nat)):=by
 by_cases h:c<a
 .rw[DZ h,Nat.min_eq_right ()]
 .rw[DJ h,NG ()]
noncomputable def sJ(w:DV)(a c:Nat):Bool:=decide (a=c) || (w (max a c-1)==decide (a<c))
noncomputable def sL(w:DV)(b d:Nat):Bool:=decide (b=d) || (w (min b d)==decide (b<d))
section
theorem zeH(O:m<=5)(Q:a<=m)(U:c<=m):kY [.str (yP m w),pr a b,pr c d]=cz (.val<|.bl<|sJ w a c):=by
 by_cases q:a=c
 .subst q
  simp[kY,jA,jd,jf,sJ]
 .have y:¬(a=(c:Int)):=()
  have I:wG (zf 0) (zM JC (ue (cI (zm 1)<|sI 0)<|cI (zm 2)<|sI 0)<|sI 1) [Cell.val (.str<|yP m w),Cell.val<|pr a b,Cell.val (pr c d)]=cz (.str<|Je<|jc<|w<|max a c-1):=by refine Ji w () () _ _ _ rfl ?_;simp[ck];lia
  simp only[kY,jA,jd,jf,Tq,Up,UX];simp[-JK,y,I];by_cases l:a<c
  .simp[l,CA,sJ,q]
  .simp[l,Kn,sJ,q]
theorem mh(O:m<=5)(Q:b<=m)(U:d<=m):x9 [.str (yP m w),pr a b,pr c d]=cz (.val<|.bl<|sL w b d):=by
 by_cases q:b=d
 .subst q
  simp[x9,jA,jd,jf,sL]
 .have y:¬(b=(d:Int)):=()
  have I:wG (zf 0) (nG (cI (zm 1)<|sI 1)<|cI (zm 2)<|sI 1) [Cell.val (.str<|yP m w),Cell.val<|pr a b,Cell.val (pr c d)]=cz (.str<|Je<|jc<|w<|min b d):=by refine Ji w () () _ _ _ rfl ?_;simp[cg]
  simp only[x9,jA,jd,jf,Tq,Up,UX];simp[-JK,y,I];by_cases l:d<b
  .have e:¬b<d:=()
   simp[l,e,Kn,sL,q]
  .have e:b<d:=()
   simp[l,e,CA,sL,q]
def qq(w:DV)(a b c d:Nat):Bool:=decide (max a c<=min b d)&&(sJ w a c&&sL w b d)
theorem V5(I:m<=5)(j:a<=m)(O:b<=m)(Q:c<=m)(z:d<=m):yq [.str (yP m w),pr a b,pr c d]=cz (.val<|.int<|if qq w a b c d=cC then 1 else 0):=by
 simp only[yq,jA,jd,jf,Tq,Up,UX];by_cases q:max a c<=min b d
 .have y:¬((min b d:Nat))<((max a c:Nat)):=()
  simp[ck,cg,y,zeH (b:=b) (d:=d) (w:=w) I j Q,qq,q];cases h1:sJ w a c
  .rfl
  .simp[h1,(mh (a:=a) (c:=c) (w:=w) I O z)]
   cases h2:sL w b d<;>simp[h2]
 .have y:((min b d:Nat))<((max a c:Nat)):=()
  simp[ck,cg,y,qq,q]
theorem yL(O:m<=5)(y:k<m):xJ [.str (yP m w),.int k]=cz (.val<|.tup [.int ((zS w k:Nat)),.int ((zX w k:Nat))]):=by have I:wG (zf 0) (zf 1) [Cell.val _,vI k]=_:=Ji w () y _ _ _ rfl rfl;simp only[xJ,jA,jd,jf,Tq,Up,UX];simp[-JK,I,Kn];cases h:w k<;>simp[h,zS,zX]
end
theorem Xz{j:List Int}(Y:j.length<=63){r n:Nat}{t:Int}(P:0<=t)(z:t<1000)(Z:0<r)(B:r<=6)(ad:n<=60):∃bs,qC [JB j,.int t,.int n,.int r]=cz (.own<|zY bs)/\(∀b∈bs,ya r b)/\bs.length=n:=by
 have G:=je;have e:n<=lim:=()
 let γ:Cell->Cell->Cell->Cell->Ctx:=λm I O Q=>[.val (JB j),vI t,vI n,vI r,m,I,O,Q];obtain⟨_,h,bs,I,O,Q,rfl,g1,g2⟩:=jY (T:=.nm 5) (F:=(zV (jF 6<|zC qe<|zb (zf 0)<|zb (zM j6 (zf 1)<|zf 5) zD)<|zV (jF 7<|zM wb (zf 6)<|zf 3)<|qH 4<|qv<|zb (zf 7)<|zb (zM j6 (zf 7)<|zM wb (zM K0 (zf 6)<|zf 3)<|zM JC (zf 3)<|zf 7) zD)) (f:=zf 2) (γ:=γ (.own []) .no .no .no) (λs d=>∃bs I O Q,d=γ (.own<|zY bs) I O Q/\(∀b∈bs,ya r b)/\bs.length=s) n e rfl ([],_,_,_,rfl,by simp,rfl) (by
  rintro s H _ ⟨a,I,O,Q,rfl,u,p⟩;obtain⟨o,C,E⟩:=VZ Y (k:=t+(s:Int)) () ();generalize JF j (t+(s:Int))=c at *;have U:(0:Int)<r:=()
  have g:=Uq c (show(r:Int)≠0 by lia);have i:=Ub c U;have x:=Uq (c/r) (show(r:Int)-c%r≠0 by lia);have A:=Ub (c/r) (show(0:Int)<(r:Int)-c%r by lia);have l:a.length<lim:=()
  have w:(r:Int)<1073741824:=()
  refine(_,γ (.own<|zY<|a++[(c%r,c%r+c/r%((r:Int)-c%r))]) (vI s) (.val<|.int c)<|vI<|c%r,rfl,by simp[γ,jf,o,U,Z,i,l,w,zY],_,_,_,_,rfl,λb y=>?_,by simp[p]);rcases uB.mp y with y|y
  .exact u b y
  .rw[vt.mp y]
   exact(g,by show _<=_+_;lia,by show _+_<_;lia))
 refine(Y7 bs,zU<|zy rfl<|zy h ?_,λb y=>g1 b<|(JX bs).mem_iff.mp y,by rw[(JX bs).length_eq,g2]);simp[γ,nh (():bs.length<64)]
theorem HG{c:Int}(Y:0<=c){m:Nat}(Z:m<=5):∃w,xu [.int c,.int (1+(m:Int))]=cz (.val<|.str<|yP m w):=by
 have d:=je;have y:m<=lim:=()
 refine(λk=>decide (c/2^k%2=1),?_);have a:zQ (.nm 0) jB (wG (vE (.str "rl")) (zM wb (zM K0 (zf 1) (cI (qU (kO (zb (sI 1) (zb (sI 2) (zb (sI 4) (zb (sI 8) (zb (sI 16) zD))))))) (zf 0))) (sI 2))) [Cell.no,vI c] ((Tn m).map λi:Nat=>D.int (i:Int)) =
  cz ((Tn m).map λ(k:Nat)=>D.str<|Je<|jc<|decide<|c/2^k%2=1):=by
  refine zu _ _ λk I=>zv rfl rfl ?_;have I:=Tp.mp I;have O:zM wb (zM K0 (zf 1)<|cI (qU<|kO<|zb (sI 1)<|zb (sI 2)<|zb (sI 4)<|zb (sI 8)<|zb (sI 16) zD)<|zf 0) (sI 2) [vI k,vI c]=cz (.int<|c/2^k%2):=by
   have Q:k=0\/k=1\/k=2\/k=3\/k=4:=()
   rcases Q with rfl|rfl|rfl|rfl|rfl<;>simp[jI,hO]
  show wG _ _ [vI k,vI c]=_;rw[JK,O];have q:c/2^k%2=0\/c/2^k%2=1:=()
  rcases q with q|q
  .rw[q];rfl
  .rw[q];rfl
 have all1:((Tn m).map λ(k:Nat)=>Je<|jc<|decide<|c/2^k%2=1).all xo=cC:=by
  rw[List.all_map];exact zt.mpr λk _=>by show xo (Je _)=cC;rfl
 have U:xo ("" : Str)=cC:=rfl;have b:(1:Int)+(m:Int)-1=(m:Int):=()
 simp[xu,jA,jd,jf,b,y,qh,jq,k6,Tq];rw[j9 m λi=>(i:Int)];rw[a];simp only[Uy,Tx,S6];rw[Y4];simp only[Tx];rw[DZ (by simpa using y,zt.mp all1,U)];rfl
def kh(h w:Nat)(f:DW):List D:=(Tn h).map λi=>D.lst<|zO w<|f i
@[simp] theorem VD(h w f):(kh h w f).length=h:=by simp[kh]
theorem j8(ds:List D):jI (.lst ds)=cz (.L,ds):=rfl
theorem qc(ds:List D):jI (.tup ds)=cz (.T,ds):=rfl
theorem qT(s:Nat)(f:Nat->α):(Tn<|s+1).map f=(Tn s).map f++[f s]:=by simp only[tu,UB];rfl
theorem jt(w:DV)(wd:DK)(k:Nat):wd (zX w k)=dH w wd k:=by unfold zX dH;split<;>rfl
theorem jw(w:DV)(wd:DK)(k:Nat):wd (zS w k)=dq w wd k:=by unfold zS dq;split<;>rfl
theorem v9(h:k<m):zX w k<m+1:=by unfold zX;lia
theorem wc(h:k<m):zS w k<m+1:=by unfold zS;lia
def yQ(m:Nat)(w:DV)(wd:DK)(T:DQ):List D:=(Tn m).map λk=>D.lst<|kh (dH w wd k) (dq w wd k)<|T k
def ZV(m:Nat)(w:DV)(wd:DK)(T:DQ):D:=.tup [.lst (zO (m+1) λk=>(wd k:Int)),.lst (yQ m w wd T)]
def jH(m:Nat)(w:DV)(wd wd':DK)(J:DQ):List D:=(Tn m).map λk=>jZ (dH w wd k) (dq w wd' k)<|J k
theorem By(h w:Nat)(y:h<=lim)(f:DW)(γ:Ctx):zQ (.nm 0) jB (jx<|zm 0) [Cell.no] (kh h w f)=cz (z7 h w f):=by unfold kh z7;exact zu _ _ λk I=>zv rfl rfl rfl
section
theorem FV(x:Nat):zQ (.nm 0) jB (Vd<|zM gB (zf 1)<|zf 0) [Cell.no,vI x] (pb b)=cz (b.map λy=>D.int<|if x=y then 1 else 0):=by
 unfold pb;refine zu _ _ λy I=>zv rfl rfl ?_;by_cases h:x=y
 .simp[h]
 .have a:¬(x=(y:Int)):=()
  simp[h,a]
end
end DL
namespace DL
open PySem L2 PySem.W PyProof.Rows
def qx(x y:Int×Int):Prop:=aZ y x=cL
theorem cD:qx x y↔x.1<y.1\/(x.1=y.1/\x.2<=y.2):=by
 unfold qx aZ
 grind
theorem FM:aZ x y=cC↔x.1<y.1\/(x.1=y.1/\x.2<y.2):=by
 unfold aZ
 grind
theorem WZ(a:qx x y)(b:qx y z):qx x z:=by rw[cD]at *;lia
theorem pC(a:aZ x y=cC):qx x y:=by rw[FM]at a;rw[cD];grind
theorem Ar(a:qx x y)(b:qx y x):x=y:=by
 rw[cD]at *
 grind
theorem XD:∀{a b:List (Int×Int)},a.Perm b->a.Pairwise qx->b.Pairwise qx->a=b
 |[],b,h,_,_=>by rw[h.nil_eq]
 |x::a,[],h,_,_=>by simp_all
 | x::a,y::b,h,ha,hb=>by
  have e:x=y:=by
   rcases Tz.mp (h.mem_iff.mp Uh)with e|e
   .exact e
   .rcases Tz.mp (h.mem_iff.mpr Uh)with I|I
    .exact I.symm
    .exact Ar (M' ha I)<|M' hb e
  subst e;rw[XD (List.Perm.cons_inv h) ha.of_cons hb.of_cons]
end DL
namespace DL
open PySem L2
theorem HF(h:k<m+1)(wd:DK):(zO (m+1) λk=>(wd k))[k]? = cz (.int<|wd k):=by simp_all
theorem HE(m:Nat)(wd:DK):(zO (m+1) λk=>(wd k)).length=m+1:=by simp[zO]
theorem YY(m w wd T):(yQ m w wd T).length=m:=by simp[yQ]
theorem bw(h:k<m)(w wd T):(yQ m w wd T)[k]? = cz (.lst<|kh (dH w wd k) (dq w wd k)<|T k):=by unfold yQ;simp[h]
theorem zeY(s w wd T):xn (s+1) w wd T=xn s w wd T++[ZH w wd T s]:=qT _ _
theorem aa(z:m<=5)(w:DV)(H:∀k,wd k<=9)(T:DQ):
 qD [.int p,.str<|yP m w,ZV m w wd T]=cz (.val<|jE p m w wd T):=by
 have o:=je;let a:Cell->Cell->Cell->Cell->Cell->Ctx:=λj I O Q y=>[vI p,.val<|.str<|yP m w,.val<|ZV m w wd T,.val<|.lst<|zO (m+1) λk=>(wd k),.val<|.lst<|yQ m w wd T,j,I,O,Q,y];refine Tf λl=>?_;obtain⟨_,q,I,O,Q,y,rfl⟩:=jY (T:=.nm 6) (F:=Mz) (f:=wZ<|zf 1) (λs d=>∃I O Q y,d=a (.own<|xn s w wd T) I O Q y) m () (by simp[a,vG m w,(xD w<|show m<=1000 by lia)]) (_,_,_,_,rfl) (by
  rintro s b _ ⟨I,O,Q,y,rfl⟩;have e:=v9 (w:=w) b;have g:=wc (w:=w) b;have i:s<lim:=()
  have n:3<=lim:=()
  have h:2<=lim:=()
  have U:dH w wd s<=lim:=by rw[<-jt];have:=H<|zX w s;lia
  have Y:=HF e wd;have Z:=HF g wd;rw[jt w wd]at Y;rw[jw w wd]at Z;let S:=Cell.val<|.int s;let B:=Cell.val<|.int<|(zS w s:Nat);let E:=Cell.val<|.int<|(zX w s:Nat);let R:=Cell.val<|.tup<|z7 (dH w wd s) (dq w wd s)<|T s;refine(_,a _ S B E R,rfl,zy (γ':=a (.own<|xn s w wd T) S B E y) (by simp[a,S,B,E,(yL (w:=w) z b)])<|zy (γ':=a (.own<|xn s w wd T) S B E R) ?_ ?_,_,_,_,_,rfl)
  .simp only[ZO,YN,Zo,qS,ZE,show(zH<|cI (zm 4)<|zf 6) (a _ S B E y)=cz (.L,kh (dH w wd s) (dq w wd s)<|T s)by
    simp only[a,S,kG,vg,xf,vc,Uj,Uo,jN,jz,Tx,j8,xc,YY,qL,b,if_true,(bw b w wd T)]]
   simp[VD,U,jq,By _ _ U (T s) [],a,R]
  .simp only[zeY,vA,aP,jQ,(Ji w () b (a _ S B E R) (zf 1) (zf 6) rfl rfl)]
   simp only[a,B,E,R,aP,jQ,vz,vc,vg,xf,Uj,Uo,Up,UX,pz,Di,jN,jz,qZ,Tx,Uy,j8,xc,HE,qL,e,g,Y,Z,if_true,n,h,aO,i,vr,vp];rfl)
 refine l ?_;exact zU (zy rfl<|zy rfl<|zy q<|by rfl)
theorem zfE(h:F (jd n ds)=cz (.next γ')):jA n F ds=cz (.val .d7):=by show(F _).bind _=_;rw[h];rfl
section
theorem xP(p m w wd T):jI (jE p m w wd T)=cz (.T,[.int p,.tup<|zO (m+1) λk=>(wd k),.tup (xn m w wd T)]):=rfl
def QL(m:Nat)(w:DV)(wd wd':DK):List D:=(Tn m).map λk=>D.tup [.int (dH w wd k:Nat),.int (dq w wd' k:Nat)]
def Mb(p:Int)(m:Nat)(w:DV)(wd wd':DK)(T T' J:DQ):D:=jE p m w (λk=>wd k+wd' k) λk=>Jw (dH w wd k) (dq w wd k) (T k) (T' k)<|J k
theorem Gb(w:DV)(wd wd':DK)(k:Nat):dH w (λk=>wd k+wd' k) k=dH w wd k+dH w wd' k:=by unfold dH;split<;>rfl
theorem CU(w:DV)(wd wd':DK)(k:Nat):dq w (λk=>wd k+wd' k) k=dq w wd k+dq w wd' k:=by unfold dq;split<;>rfl
theorem Y9(O:m<=4):qm [jE p m w wd' T',jE p m w wd T]=cz (.own<|QL m w wd wd'):=by
 have Q:=je;have I:m<=lim:=()
 have b:2<=lim:=()
 have a:zQ (.tp [0,1]) jB (qv<|zb (cI (zH<|cI (zm 3)<|sI 1)<|zC ZF<|zb (zf 0)<|zb (zf 1) zD)<|zb (cI (zH<|cI (zm 2)<|sI 1)<|zC qP<|zb (zf 0)<|zb (zf 1) zD) zD) [Cell.no,Cell.no,Cell.val<|jE p m w wd' T',Cell.val (jE p m w wd T)] ((Tn m).map λ(k:Nat)=>D.tup [.int k,.str (Je<|jc<|w k)])=cz (QL m w wd wd'):=by unfold QL;refine zu _ _ λk y=>zv rfl rfl ?_;have y:=Tp.mp y;simp[xP,gH,ZR,qL,v9 (w:=w) y,wc (w:=w) y,zO,jt,jw,b]
 exact zU (by simp[jf,jd,Tq,kU (():m<=900),xD w (():m<=1000),lG,I,jq,a])
theorem AD(h w':Nat)(f:DW):JQ [.tup [.int h,.int w'],jZ h w' f]=cz (.val<|.bl cC):=by have c:V6 (zf 1) aX (n5<|sI 2) [.val (.tup [.int h,.int w']),.val (jZ h w' f)]=cz (.tup [.int h,.int w']):=rfl;have ok:ml (.tup [.int h,.int w'])=cC:=rfl;have ty:Ms Ty.tuple (jZ h w' f)=cC:=rfl;simp[JQ,jA,jd,c,gc ok,ty,Tq,-CK]
theorem Kd(m w wd wd' J):(jH m w wd wd' J).length=m:=by simp[jH]
theorem AA(h:k<m):(jH m w wd wd' J)[k]? = cz (jZ (dH w wd k) (dq w wd' k)<|J k):=by unfold jH;simp[h]
theorem MX(U:m<=4):wz [jE p m w wd T,jE p m w wd' T',.lst (jH m w wd wd' J)]=cz (.val .d7):=by
 let γ:Cell->Cell->Cell->Ctx:=λY y I=>[.val (jE p m w wd T),.val<|jE p m w wd' T',.val<|.lst<|jH m w wd wd' J,Y,y,I];let Z:=Cell.val<|.lst<|QL m w wd wd';let z:Nat->D:=λk=>.tup [.int (dH w wd k),.int (dq w wd' k)];have a:∀k s y I,s+k=m->∃O Q,yD (.tp [4,5]) MW ((Dn s k).map λ(k:Nat)=>D.tup [.int k,z k]) (γ Z y I)=cz (.next<|γ Z O Q):=by
  intro k
  induction k with
  |zero=>intro s y I e;exact(y,I,rfl)
  |succ k g=>
   intro s y I e;obtain⟨O,Q,q⟩:=g (s+1) _ _ ();refine(O,Q,?_);have d:s<m:=()
   have h:=AA (w:=w) (wd:=wd) (wd':=wd') (J:=J) d;have f:¬(m<=(s:Int)):=()
   have st:MW (γ Z (vI s)<|.val<|z s)=cz (.next<|γ Z (vI s)<|.val<|z s):=by unfold MW;simp only[γ,z,Nc,Na,Ha,Rq,JL,vc,CM,xf,vg,vh,jQ,vz,Uj,Uo,jN,jz,Tx,Uy,j8,xc,Kd,qL,d,if_true,h,AD _ _<|J s,mi,GE,MY,decide_eq_false f,UN,if_false,Bool.not_true];rfl
   show((MW<|γ Z _ _).bind _)=_;rw[st];exact q
 obtain⟨y,I,q⟩:=a m 0 .no .no ();rw[<-D3]at q;have b:dY (zf 3) (γ Z .no .no)=cz ((Tn m).map λ(k:Nat)=>D.tup [.int k,z k]):=by show cz _=_;unfold QL;rw[lH]
 have i:(QL m w wd wd').length=m:=by simp[QL]
 exact zfE (γ':=γ Z y I) (zy (γ':=γ .no .no .no) (by simp[γ,jd,Tq,((vy (p:=p) (w:=w) (wd:=wd) (wd':=wd') (T:=T) (T':=T')<|show m<=900 by lia).2)])<|zy (γ':=γ Z .no .no) (by simp[γ,Z,(Y9 (p:=p) (w:=w) (wd:=wd) (wd':=wd') (T:=T) (T':=T') U)])<|zy (by rw[aS,b];exact q)<|by simp[γ,Z,j8,Kd,i])
end
section
theorem YG(a b c d:Int):i0 (.tup [.int a,.int b]) (.tup [.int c,.int d])=(a==c&&b==d):=by simp[i0,pY,U7]
theorem ar:∀a b,pY (zY a) (zY b)=decide (a=b)
 |[],[]=>rfl
 |[],_::_=>rfl
 |_::_,[]=>rfl
 |(x1,x2)::a,(y1,y2)::b=>by show(_&&pY (zY a) (zY b))=_;simp only[(ar a b),YG];lia
end
theorem Y3(u:Nat->Int)(h:∀k,u k<=6):∀n,zg u n<=6*n
 |0=>by show 0<=_;lia
 |n+1=>by have:=Y3 u h n;have:=h n;show zg u n+u n<=_;lia
section
theorem K8(O:m<=4)(le:zg (λk=>((wd k+wd' k:Nat))) (m+1)<=30):jJ [jE p m w wd T,jE p m w wd' T']=cz (.val<|.tup<|zO (m+1) λk=>((wd k+wd' k:Nat))):=by
 have Q:=je;have a:zQ (.tp [0,1]) jB (zM j6 (zf 0)<|zf 1) [Cell.no,Cell.no] ((Tn<|m+1).map λi=>D.tup [.int (wd i),.int (wd' i)])=cz (zO (m+1) λk=>((wd k+wd' k))):=by refine zu _ _ λk U=>zv rfl rfl ?_;rfl
 have y:¬(30<zg (λk=>(wd k+wd' k:Int)) (m+1)):=by rw[zh (g:=λk=>((wd k+wd' k:Nat):Int)) λk _=>by lia];lia
 have b:kM [.tup (zO (m+1) λk=>(wd k+wd' k:Int))]=cz (.val .d7):=by simp[kM,jA,jd,qc,wW,y]
 have I:m+1<=lim:=()
 refine zU ?_;simp[jf,jd,Tq,xP,hO,qc,vF,jq,a,b,I]
theorem gV(y:m<=4)(j:∀k,wd k<=3)(I:∀k,wd' k<=3):jJ [jE p m w wd T,jE p m w wd' T']=cz (.val<|.tup<|zO (m+1) λk=>((wd k+wd' k:Nat))):=
 K8 y (by
  have le:=Y3 (λk=>((wd k+wd' k))) (λk=>by grind)<|m+1;lia)
theorem pK(Q:m<=4)(j:∀k,wd k<=9)(I:∀k,wd' k<=9)(le:zg (λk=>((wd k+wd' k:Nat))) (m+1)<=30):Xo [jE p m w wd T,jE p m w wd' T',.lst (jH m w wd wd' J)]=cz (.val<|Mb p m w wd wd' T T' J):=by
 have i:=je;have g:2<=lim:=()
 have y u:(∀k,u k<=9)->∀k,dH w u k<=400/\dq w u k<=400:=λO k=>by rw[<-jt,<-jw];have:=O<|zX w k;have:=O<|zS w k;lia
 let Z:=(Tn m).map λk=>D.tup [ZH w wd T k,ZH w wd' T' k,jZ (dH w wd k) (dq w wd' k) (J k)];let A:=xn m w (λk=>wd k+wd' k) λk=>Jw (dH w wd k) (dq w wd k) (T k) (T' k)<|J k;have b:zQ (.tp [0,1,2]) jB (qv<|zb (cI (zm 0)<|sI 0)<|zb (zC qB<|zb (cI (zm 0)<|sI 1)<|zb (cI (zm 1)<|sI 1)<|zb (zf 2) zD) zD) [Cell.no,Cell.no,Cell.no] Z=cz A:=by refine zu _ _ λk h=>zv rfl rfl ?_;have e:jI (ZH w wd T k)=cz _:=rfl;have U:jI (ZH w wd' T' k)=cz _:=rfl;simp[e,U,hO,W2 (T k) (T' k) (J k) (y wd j k).1 (y wd j k).2 (y wd' I k).1 (y wd' I k).2,g];unfold ZH;rw[Gb,CU]
 have z:bo (xn m w wd T) (xn m w wd' T') (jH m w wd wd' J)=Z:=by unfold bo xn jH;rw[tj,tj,Uu];rfl
 let a:Cell->Cell->Ctx:=λY f=>[.val (jE p m w wd T),.val<|jE p m w wd' T',.val<|.lst<|jH m w wd wd' J,Y,f];let S:=Cell.val<|.tup<|zO (m+1) λk=>((wd k+wd' k));have d:ED (cI (zm 0)<|sI 2) (cI (zm 1)<|sI 2) (zf 2) (a S .no)=cz Z:=by rw[<-z];rfl
 refine zU<|zy (γ':=a S .no) (by simp[a,S,jd,(K8 Q le)])<|zy (γ':=a S<|.val<|.lst A) ?_ ?_
 .simp only[ZO,ZP,qS,d]
  simp only[Tx];rw[DZ (by simpa[Z]using ()),show jq 3 [] (a S .no)=[Cell.no,Cell.no,Cell.no]from rfl,b];rfl
 rfl
theorem Pa(y:m<=4)(j:∀k,wd k<=9)(I:∀k,wd' k<=9)(le:zg (λk=>((wd k+wd' k:Nat))) (m+1)<=30):wm [jE p m w wd T,jE p m w wd' T',.lst (jH m w wd wd' J)]=cz (.val<|Mb p m w wd wd' T T' J):=
 zU (zy (γ':=[.val (jE p m w wd T),.val<|jE p m w wd' T',.val (.lst<|jH m w wd wd' J)]) (by simp[jd,(MX y)])<|by simp[pK y j I le])
end
section
theorem eT(m w wd T):jI (ZV m w wd T)=cz (.T,[.lst (zO (m+1) λk=>(wd k)),.lst (yQ m w wd T)]):=rfl
theorem mU(h w f):jI (jZ h w f)=cz (.T,[.int (h:Int),.int (w:Int),.tup (z7 h w f)]):=rfl
theorem lO(h w f):(z7 h w f).length=h:=by simp[z7]
end
theorem rC(b:Bool):gB (.str (Je (jc b))) (.str "r")=cz (.bl (!b)):=by cases b<;>kernel_rfl
abbrev TB:=Nat×Nat×(Nat->Nat->Int)
def tD(t:TB):D:=jZ t.1 t.2.1 t.2.2
theorem QC(bs):ml (.lst<|zY bs)=cC:=oU (n:=2) (by
 simp only[deep];have:r0 (zY bs)<=1:=Xc λd a=>by simp only[zY,Uz]at a;obtain⟨b,_,rfl⟩:=a;simp[deep,r0]
 lia) () (by
 simp only[i9];exact Vx λd a=>by simp only[zY,Uz]at a;obtain⟨b,_,rfl⟩:=a;rfl)
def vq(bs:List (Int×Int))(y j:List TB):D:=.tup [.lst (zY bs),.lst<|y.map tD,.lst (j.map tD)]
section
theorem zfa(hp:Pr p)(E:n<=60)(h:Pair p n f g)(y:u<n)(I:o<n)(S:¬u=o)(ht:0<=tm/\tm<p)(B Q U Y H:Cell):
 ∃P R ae,Pair p n P R/\Ov [B,Q,vI p,vI n,.own<|xj n f,.nest<|wO n g,U,Y,vI o,vI u,vI tm,H]=cz (.next [B,Q,vI p,vI n,.own<|xj n P,.nest<|wO n R,U,Y,vI o,vI u,vI tm,ae]):=by
 have A:=je;have E:n<=lim:=()
 have Z:=hp.pos;have C:=hp.le;have m z:0<=z%p/\z%p<p:=(Uq _ (),Ub _ Z);have l x:YJ tm x=cC:=wK _ _ () ();refine(λi j=>if i=o then (f o j+tm*f u j)%p else f i j,λi j=>if j=u then (g i u-tm*g i o)%p else g i j,.no,(λi j d O=>?_,λi j d O=>?_,?_,?_),?_)
 .by_cases e:i=o
  .simp only[DZ e];exact m _
  .simp only[DJ e];exact h.bf i j d O
 .by_cases e:j=u
  .simp only[DZ e];exact m _
  .simp only[DJ e];exact h.bg i j d O
 .refine zff (t:=tm) I y (Ue S) h.fg (λi k _ _=>?_) (λk j _ _=>?_)
  .by_cases e:i=o
   .simp only[DZ e];rw[Us,e]
   .simp only[DJ e,rJ,rb]
  .by_cases e:j=u
   .simp only[DZ e];rw[Us,e,Int.neg_mul];rfl
   .simp only[DJ e,rJ,rb]
 .refine mJ (t:=tm) I y (Ue S) h.gf (λi k _ _=>?_) (λk j _ _=>?_)
  .by_cases e:i=o
   .simp only[DZ e];rw[Us,e]
   .simp only[DJ e,rJ,rb]
  .by_cases e:j=u
   .simp only[DZ e];rw[Us,e,Int.neg_mul];rfl
   .simp only[DJ e,rJ,rb]
 .have r:zQ (.tp [0,1]) jB (zM wb (zM j6 (zf 0)<|zM yE (zf 3)<|zf 1)<|zf 2) [Cell.no,Cell.no,vI p,vI tm] ((Tn n).map λj=>D.tup [.int (f o j),.int (f u j)])=cz (zO n λj=>(f o j+tm*f u j)%p):=by
   rw[j9];refine zu _ _ λj O=>zv rfl rfl ?_;simp[l,Z]
  have s a:yZ 5 11 (zf 9) (zM wb (zM JC (cI (zm 11)<|zf 9)<|zM yE (zf 10)<|cI (zm 11)<|zf 8)<|zf 2) [B,Q,vI p,vI n,a,.nest<|wO n g,U,Y,vI o,vI u,vI tm,H] (wO n g)=cz (wO n λi j=>if j=u then (g i u-tm*g i o)%p else g i j):=by
   unfold wO;refine YD _ λk w=>(.int<|(g k u-tm*g k o)%p,u,u,?_,rfl,?_,cQ y _ _ _ () λi _ b=>by simp[b])
   .simp[w4,y,I,l,Z]
   .simp[y]
  simp[Ov,jf,y,I,E,jq,Tq,vF,r,nP I f (λi j=>if i=o then (f o j+tm*f u j)%p else f i j) (λj=>(f o j+tm*f u j)%p) (λj _=>by simp) (λi j _ b _=>by simp[b]),s]
theorem HW(H:ns.length<=63)(z:Pr p)(hn:n<=60)(h0:0<=a)(h1:a<=10000):
 ∃f g,Pair p n f g/\ke [JB ns,.int a,.int p,.int n]=cz (.val<|.tup [.lst (xj n f),.lst (xj n g)]):=by
 have hl:=je;have h:n<=lim:=()
 have E:=z.pos;have two:=z.two;have p7:=z.le;have x:∀i:Nat,zQ (.nm 0) jB (Vd<|zM gB (zf 1)<|zf 0) [Cell.no,vI i] ((Tn n).map λ(j:Nat)=>D.int j)=cz (zO n<|gm i):=λi=>by
  rw[j9];refine zu _ _ λj hj=>zv rfl rfl ?_;by_cases e:i=j
  .subst e;simp[gm]
  .have S:¬((i:Int)=(j:Int)):=()
   simp[gm,e,S]
 have be:zQ (.nm 0) jB (jX<|zW (jg<|zf 1) (.nm 0) 1 [0] jB (Vd<|zM gB (zf 1)<|zf 0)) [Cell.no,vI n] ((Tn n).map λ(j:Nat)=>D.int j)=cz (xj n gm):=by unfold xj;refine zu _ _ λi s=>zv rfl rfl ?_;simp[h,qh,jq,Tq];rw[j9 n λi=>i,x]
 have G:ZZ (.nm 0) (zW (jg<|zf 1) (.nm 0) 1 [0] jB (Vd<|zM gB (zf 1)<|zf 0)) [Cell.no,vI n] ((Tn n).map λ(j:Nat)=>D.int j)=cz (wO n gm):=by unfold wO;refine ay _ λi s=>(_,rfl,?_);simp[h,qh,jq,Tq];rw[j9 n λi=>i,x]
 have XA:Pair p n gm gm:=by
  have b:∀i j:Nat,i<n->j<n->0<=gm i j/\gm i j<p:=λi j _ _=>by unfold gm;lia
  have u:Jf p n gm gm:=λi j s hj=>by rw[zG s λk _ J=>by unfold gm;rw[DJ (Ue J)];simp];simp[gm]
  exact(b,b,u,u)
 let γ:Cell->Cell->Cell->Cell->Cell->Cell->Cell->Cell->Ctx:=λP R Y I O Q U y=>[.val (JB ns),vI a,vI p,vI n,P,R,Y,I,O,Q,U,y];have s1:P4 (γ .no .no .no .no .no .no .no .no)=cz (.next<|γ (.own<|xj n gm) .no .no .no .no .no .no .no):=by unfold P4;simp[γ,h,qh,jq,Tq];assumption
 refine Tf λkZ=>?_;obtain⟨f,g,Y,I,O,Q,U,y,Z,w⟩:∃f g Y I O Q U y,Pair p n f g/\Ek (γ (.own<|xj n gm) (.nest<|wO n gm) .no .no .no .no .no .no)=cz (.next<|γ (.own<|xj n f) (.nest<|wO n g) Y I O Q U y):=by
  by_cases n0:n=0
  .refine(gm,gm,.no,.no,.no,.no,.no,.no,XA,?_)
   have e:jg (zM JC (zM yE (sI 2)<|zf 3)<|sI 2) (γ (.own<|xj n gm) (.nest<|wO n gm) .no .no .no .no .no .no)=cz []:=by subst n0;rfl
   unfold Ek;simp only[aS,e];rfl
  obtain⟨γ',w,f,g,Y,I,O,Q,U,y,Z,rfl⟩:=jY (T:=.nm 6) (f:=zM JC (zM yE (sI 2)<|zf 3)<|sI 2)
   (λt d=>∃f g Y I O Q U y,Pair p n f g/\d=γ (.own<|xj n f) (.nest<|wO n g) Y I O Q U y)
   (2*n-2) () (by
     have:((2*n-2:Nat):Int)=2*(n:Int)-2:=()
     rw[this];rfl) (gm,gm,.no,.no,.no,.no,.no,.no,XA,rfl) (by
     rintro t ht d ⟨f,g,Y,I,O,Q,U,y,Z,rfl⟩;have bg:2<=n:=()
     obtain⟨A,F,K⟩:=VZ H (k:=a+(t:Int)) () ();generalize JF ns (a+t)=cell at A F K;obtain⟨o,X,ho⟩:=Yt (m:=cell) n ();have x1:=Uq (cell/8) (show(n:Int)-1≠0 by lia);have x2:=Ub (cell/8) (():0<(n:Int)-1);obtain⟨u,r,hu⟩:=Yt (n:Int) ();have t2:=Ub (cell/64) E;obtain⟨B,C,L,M,es⟩:=zfa z hn Z (u:=u) (o:=o) (tm:=cell/64%p) () () (λe=>by
      by_cases l:(o:Int)+1+cell/8%((n:Int)-1)<n
      .rw[UG () l]at r
       lia
      .have W:((o:Int)+1+cell/8%((n:Int)-1))%n=((o:Int)+1+cell/8%((n:Int)-1)-n)%n:=(Int.sub_emod_right _ _).symm
       rw[W,UG () ()]at r;lia) (Uq (cell/64) (():p≠0),t2) (.val<|JB ns) (vI a) (.val<|.int t) (vI cell) y
     refine(γ (.own<|xj n f) (.nest<|wO n g) (vI t) I O Q U y,γ (.own<|xj n B) (.nest<|wO n C) (vI t) (.val<|.int cell) (vI o) (.val<|.int u) (vI<|cell/64%p) L,rfl,?_,B,C,_,_,_,_,_,_,M,rfl);have N:(0:Int)<(n:Int):=()
     have nn:0<n:=()
     have I0:(1:Int)<(n:Int):=()
     show Ow _=_;simp only[Ow,jf];simp[γ,A,N,nn,I0,X,r,E];exact es)
  exact(f,g,Y,I,O,Q,U,y,Z,w)
 refine kZ ?_;refine(f,g,Z,?_);rw[ke];refine zU (zy s1 (zy (by
  unfold C_;simp[γ,h,qh,jq,Tq];simp only[j9 n λi=>i,G];rfl) (zy w ?_)))
 rw[<-nO n g];rfl
end
structure fh where
 s:Nat
 n:Nat
 v:Nat->Vc
noncomputable def fh.has(b:fh)(r:Nat):Bool:=decide (b.s<=r)&&decide (r<b.s+b.n)
theorem i4{b:fh}{r:Nat}:b.has r=cC↔b.s<=r/\r<b.s+b.n:=by simp[fh.has]
noncomputable def sN:fh:=(0,0,λ_ _=>0)
structure pe(p:Int)(w:DV)(wd:DK)(T:DQ)(k:Nat)(b:fh):Prop where
 n1:1<=b.n
 le:b.s+b.n<=k+1
 i6:∀r i,b.has r=cC->i<wd r->0<=b.v r i/\b.v r i<p
 arr:∀j,j<k->b.has (zS w j)=cC->∀i,i<wd (zX w j)->app (T j) (wd<|zS w j) (b.v<|zS w j) i%p=(if b.has (zX w j)=cC then b.v (zX w j) i else 0)%p
def Ord(w:DV)(a b:fh):Prop:=(a.s<b.s->w (b.s-1)=cC)/\(b.s<a.s->w (a.s-1)=cL)
def Sh(j:List fh)(r:Nat):Vc->Prop:=λg=>∃b,b∈j/\b.has r=cC/\g=b.v r
def n9(p:Int)(A:Nat->fh)(N:Nat)(t:Vc)(r:Nat):Vc:=λc=>zg (λj=>if (A j).has r=cC then t j*(A j).v r c else 0) N%p
def IC(p:Int)(A:Nat->fh)(N:Nat)(t:Vc)(i:Nat):fh:=((A i).s,(A i).n,n9 p A N t)
section
variable{p:Int}{w:DV}{wd:DK}{T:DQ}{k N:Nat}{A:Nat->fh}
theorem wg(f:DW)(h:Nat)(t:Vc)(u:Nat->Vc)(n:Nat)(i:Nat):app f h (λc=>zg (λj=>t j*u j c) n) i=zg (λj=>t j*app f h (u j) i) n:=by
 unfold app;have e:zg (λj=>f i j*zg (λk=>t k*u k j) n) h=zg (λj=>zg (λk=>t k*_) n) h:=zh λj _=>by rw[<-zT];exact zh λk _=>by rw[<-qd,<-qd,UC (f i j)]
 rw[e,jS];exact zh λj _=>zT ..
theorem FT(c:Prop) [Decidable c](x y:Int):(if c then x*y else 0)=x*(if c then y else 0):=by split<;>simp
theorem sr(f:DW)(h r:Nat)(t:Vc)(i:Nat):app f h (n9 p A N t r) i%p=zg (λj=>t j*(if (A j).has r=cC then app f h ((A j).v r) i else 0)) N%p:=by
 have e:app f h (n9 p A N t r) i%p=app f h (λc=>zg (λj=>t j*_) N) i%p:=jW (λc _=>by unfold n9;rw[Us];congr 1;exact zh λj _=>FT ..) i
 rw[e,wg];congr 1;refine zh λj _=>?_;congr 1;by_cases y:(A j).has r=cC
 .simp_all
 .simp only[DJ y]
  unfold app;simp[zA]
theorem LS(H:0<p)(Y:∀j,j<N->pe p w wd T k (A j))(hk:∀j,j<N->(A j).has k=cC){t:Vc}{i:Nat}(B:i<N)(E:∀c,i<c->c<N->Ord w (A i) (A c))(tz:∀c,c<i->t c=0):
 pe p w wd T k (IC p A N t i):=by
 refine((Y i B).n1,(Y i B).le,λr c _ _=>(Uq _ (),Ub _ H),λj g I c f=>?_);have I:(A i).has (zS w j)=cC:=I;show app (T j) _ (n9 p A N t<|zS w j) c%p=(if (A i).has (zX w j)=cC then n9 p A N t (zX w j) c else 0)%p;rw[sr];have e y:y<N->t y≠0->((A i).has (zX w j)=cC->(A y).has (zX w j)=cC->(A y).has (zS w j)=cC)/\((A i).has (zX w j)=cL->(A y).has (zS w j)=cC->(A y).has (zX w j)=cL):=λO Z=>by
  have o:=i4.mp<|hk i B;have u:=i4.mp<|hk y O;have Q:=G6.mp λz=>Z<|tz y z;rcases Nat.lt_or_eq_of_le Q with Q|Q
  .obtain⟨m,n⟩:=E y Q O
   have I:=i4.mp I;cases hw:w j with
   | false=>
    have a:zS w j=j:=by unfold zS;rw[hw];rfl
    have b:zX w j=j+1:=by unfold zX;rw[hw];rfl
    rw[a]at I;rw[a,b];refine(λ_ q=>i4.mpr ?_,λq _=>?_)
    .have q:=i4.mp q
     refine(G6.mp λz=>?_,());have d:(A y).s=j+1:=()
     have:=m ();rw[d]at this;simp[hw]at this
    .exfalso
     have:(A i).has (j+1)=cC:=i4.mpr ();lia
   | true=>
    have a:zS w j=j+1:=by unfold zS;rw[hw];rfl
    have b:zX w j=j:=by unfold zX;rw[hw];rfl
    rw[a]at I;rw[a,b];refine(λ_ q=>i4.mpr ?_,λq _=>?_)
    .have q:=i4.mp q
     lia
    .cases U:(A y).has j with
     |false=>rfl
     | true=>
      exfalso;have U:=i4.mp U;have d:(A i).s=j+1:=by
       have:¬((A i).s<=j):=λz=>by have:(A i).has j=cC:=i4.mpr ();lia
       lia
      have:=n ();rw[d]at this;simp[hw]at this
  .subst Q
   exact(λ_ _=>I,λq _=>q)
 have h:zg (λy=>t y*(if (A y).has (zS w j)=cC then app (T j) _ _ c else 0)) N%p
  = zg (λy=>if (A i).has (zX w j)=cC then (if (A y).has (zX w j)=cC then t y*(A y).v (zX w j) c else 0)else 0) N%p:=zE λy O=>by
  by_cases Z:t y=0
  .simp[Z]
  obtain⟨x,l⟩:=e y O Z;cases U:(A i).has (zX w j)with
  | false=>
   cases hy:(A y).has (zS w j)with
   |false=>simp
   |true=>
    have q:=(Y y O).arr j g hy c f;rw[l U hy]at q;simp only[if_true];rw[Tt,q];simp
  | true=>
   cases hy:(A y).has (zS w j)with
   |false=>
    lia
   |true=>
    have q:=(Y y O).arr j g hy c f;simp only[if_true];rw[Tt,q,<-Tt];congr 1;cases hz:(A y).has (zX w j)<;>simp
 rw[h];cases U:(A i).has (zX w j)with
 |false=>simp[zA]
 |true=>
  simp only[if_true];unfold n9;rw[Us]
theorem Am{G':Vc->Prop}{r n:Nat}{Y:Nat->fh}(t:Nat->Vc)(B:∀i,i<N->t i i=1)(hz:∀i c,i<N->c<i->t i c=0)
 (E:∀i,i<N->(A i).has r=cC->Span p n G' ((Y i).v r)) (H:∀i,i<N->(A i).has r=cC->∀c,c<n->(Y i).v r c%p=n9 p A N (t i) r c%p):
 ∀i,i<N->(A i).has r=cC->Span p n G' ((A i).v r):=by
 have a : ∀d i,N - i<=d->i<N->(A i).has r=cC->Span p n G' ((A i).v r):=by
  intro d
  induction d with
  |zero=>lia
  | succ d o=>
   intro i Z I Q;have m:=by
    have gen:∀M,M<=N->Span p n G' λc=>zg (λj=>(if j=i then 0 else if (A j).has r=cC then t i j else 0)*(A j).v r c) M:=by
     intro M
     induction M with
     |zero=>intro _;exact .zero λc _=>by simp[zg]
     | succ M e=>
      intro s;have q:=e ();by_cases y:M=i\/¬((A M).has r=cC)\/M<i
      .refine q.congr λc _=>?_
       show(zg _ M+_)%p=_;rcases y with y|y|y
       .simp[y]
       .simp[y]
       .simp only[(hz i M I y)];simp
      .have f:M≠i/\(A M).has r=cC/\¬M<i:=by
        refine(λz=>y<|.inl z,?_,λz=>y<|.inr<|.inr z);cases O:(A M).has r with
        |true=>rfl
        |false=>exact absurd (.inr<|.inl<|by rw[O];decide) y
       exact((o M (by grind) () f.2.1).add q _).congr λc _=>rfl
    exact gen N<|Tv _
   refine(m.add (E i I Q) (-1)).congr λc y=>?_;have g:zg (λj=>if (A j).has r=cC then t i j*(A j).v r c else 0) N=(A i).v r c+zg (λj=>(if j=i then 0 else if (A j).has r=cC then t i j else 0)*(A j).v r c) N:=by
    have h:(A i).v r c=zg (λj=>if j=i then (A i).v r c else 0) N:=by rw[zG I λk _ l=>by simp[l]];simp
    rw[h,<-jG];refine zh λj u=>?_;by_cases b:j=i
    .subst b;simp[Q,B j I]
    .simp only[DJ b]
     by_cases O:(A j).has r=cC
     .simp[O]
     .simp[O]
   have U:=H i I Q c y;unfold n9 at U;rw[Us,g]at U;rw[Um,U,<-Um];lia
 exact λi Z I=>a N i () Z I
end
section
variable{p:Int}{n m N h r r2 q:Nat}{B B2 K:Nat->Vc}{l l2:DK}{M f:DW}
theorem yv(y:Span p n (d6 m U) v):∃t:Vc,∀i,i<n->v i%p=zg (λj=>t j*U j i) m%p:=by
 induction y with
 |zero h=>exact(λ_=>0,λi a=>by rw[h i a];simp[zA])
 |@step v w g c I d O Q=>
  obtain⟨t,Y⟩:=Q;obtain⟨k,Z,rfl⟩:=I;refine(λj=>t j+if j=k then c else 0,λi a=>?_);rw[O i a,Um,Y i a,<-Um];congr 1;have e:zg (λj=>(t j+if j=k then c else 0)*U j i) m=zg (λj=>t j*U j i) m+zg (λj=>(if j=k then c else 0)*U j i) m:=by rw[<-jG];exact zh λj _=>Gx ..
  rw[e,zG (f:=λj=>(if j=k then c else 0)*U j i) Z λj _ b=>by simp[b]];simp
theorem xE(a b:Nat->Int)(n:Nat):zg (λj=>a j*b j) n=zg (λj=>b j*a j) n:=zh λj _=>UC ..
theorem t5:Span p h (d6 N λj i=>M i j) u ↔ ∃x,∀i,i<h->u i%p=app M N x i%p:=by
 constructor
 .intro q
  obtain⟨t,y⟩:=yv q;exact(t,λi a=>by rw[y i a];unfold app;rw[xE])
 .rintro⟨x,I⟩
  refine(Span.sum x λj O=>.gen (j,O,rfl)).congr λi a=>?_;rw[I i a];unfold app;rw[xE]
theorem ah(n:Nat)(v:Vc):Span p n (d6 n jU) v:=by refine(Span.sum v λj y=>.gen (j,y,rfl)).congr λi a=>?_;rw[zG a λk _ I=>by simp[jU,I]];simp[jU]
theorem ZY(y:Pr p)(Z:N<=16)(hs:∀v:Vc,∃t,∀i,i<N->v i%p=app f N t i%p)(O:∀i,i<N->app f N t i%p=0):∀j,j<N->t j%p=0:=by
 obtain⟨q,K,l,s,_,d,I,Q,b⟩:=wq y (h:=N) (w:=N) () () f;have:=JZ y Q (jU,id,YU y N,λv=>(λ_=>t5.mpr<|hs v,λ_=>ah N v));have U:q=0:=()
 subst U;have:=(I t).mpr λi a=>by have:=O i a;assumption
 cases this with
 |zero h=>exact h
 |step Y _ _=>obtain⟨k,I,_⟩:=Y;lia
def VE(r:Nat)(B:Nat->Vc)(l:DK)(t:Vc):Vc:=λi=>t i-zg (λj=>t (l j)*B j i) r
theorem Yu(I:fm p N r B l)(t:Vc)(y:j<r):VE r B l t (l j)=0:=by unfold VE;rw[zG y λk O Q=>by rw[I.oe k j O y (Ue Q)];simp];rw[I.one j y];lia
theorem fC(t:Vc):Span p N (d6 r B) λi=>zg (λj=>t (l j)*B j i) r:=Span.sum _ λj y=>.gen (j,y,rfl)
theorem FZ(y:fm p N r B l)(h:Span p N (d6 r B) t)(hz:∀j,j<r->t (l j)%p=0):∀i,i<N->t i%p=0:=λi a=>by
 rw[JD y h i a];have e:zg (λk=>t (l k)*B k i) r%p=zg (λ_=>0) r%p:=zE λk I=>by rw[Tt,hz k I];simp
 rw[e,zA];simp
theorem dE(y:Pr p)(I:fm p N r B l)(z:i<N)(O:∀j,j<r->l j≠i):¬Span p N (d6 r B) (jU i):=λh=>by have:=FZ I h (λj Q=>by unfold jU;rw[DJ (Ue<|O j Q)];simp) i z;unfold jU at this;rw[DZ rfl,y.one]at this;lia
theorem Kw(g:DW)(w:Nat)(u v:Vc)(i:Nat):app g w (λj=>u j-v j) i=app g w u i-app g w v i:=by
 have e:app g w u i=app g w (λj=>u j-v j) i+app g w v i:=by unfold app;rw[<-jG];exact zh λj _=>by dsimp only;rw[<-Dp];congr 1;lia
 lia
def Lb(M f:DW)(N:Nat):Nat->Nat->Int:=λi j=>zg (λk=>M i k*f k j) N
theorem Xj(t:Vc)(i:Nat):app (Lb M f N) N t i=app M N (app f N t) i:=by
 unfold app Lb;have e:zg (λj=>_*t j) N=zg (λj=>zg (λk=>M i k*(f k j*t j)) N) N:=zh λj _=>by rw[<-qz];exact zh λk _=>qd ..
 rw[e,jS];exact zh λk _=>zT ..
theorem Ie(E:Pr p)(hN:N<=16)(hh:h<=16)(hs:∀v:Vc,∃t,∀i,i<N->v i%p=app f N t i%p)(H:fm p N r B l)(U:∀t,Span p N (d6 r B) t↔A9 p h N M (app f N t))
 (P:fm p h r2 B2 l2) (R:∀v,Span p h (d6 r2 B2) v↔Span p h (d6 N λj i=>M i j) v):
 (∀j,j<r->∀i,i<h->app M N (app f N<|B j) i%p=0)/\(∀c,c<N->(∀j,j<r->l j≠c)->∃i,i<h/\app M N (λa=>f a c) i%p≠0)/\r+r2=N/\
   ∀Q,(∀c,c<N->(∀j,j<r->l j≠c)->Span p h Q (app M N λa=>f a c))->(∀c,c<h->(∀j,j<r2->l2 j≠c)->Span p h Q (jU c))->∀v,Span p h Q v:=by
 have d:∀t,_ ↔ ∀i,i<h->app M N (app f N t) i%p=0:=λt=>Iff.rfl;refine(λj O=>(d _).mp ((U<|B j).mp (.gen (j,O,rfl))),λc I J=>?_,?_,λQ C F v=>?_)
 .refine Tf λz=>dE E H I J ((U _).mpr ((d _).mpr λi b=>?_))
  rw[<-(λc I i=>jW (λa _=>by rw[JJ f I]) i) c I i];exact Tf λy=>z (i,b,y)
 .obtain⟨q',X,l',s',_,n,m,ad,b3⟩:=wq E (h:=h) (w:=N) () () _
  have e1:=(Ku E n H (λv g=>(U v).mpr λi b=>by
   have:=(m v).mp g i b;rw[show zg _ N=app _ N v i from rfl,Xj]at this;exact this) λv g=>(m v).mpr λi b=>by
   rw[show zg _ N=app _ N v i from rfl,Xj];exact((U v).mp g i b)).1
  have e2:=by
   refine JZ E ad (B2,l2,P,λv=>(R v).trans (λz=>?_,λz=>?_))
   .obtain⟨x,k⟩:=t5.mp z
    obtain⟨t,Y⟩:=hs x;refine t5.mpr (t,λi b=>?_);rw[k i b,Xj];exact jW Y i
   .obtain⟨t,Y⟩:=t5.mp z
    exact t5.mpr (app f N t,λi b=>by rw[Y i b,Xj])
  lia
 .
  have S:∀t,Span p h Q _:=λt=>by
   have e i:i<h->app M N (app f N t) i%p=app M N (app f N<|VE r B l t) i%p:=λb=>by
    have s:app M N (app f N<|VE r B l t) i=app M N (app f N t) i-app M N (app f N λi=>zg (λj=>t (l j)*B j i) r) i:=by rw[<-Kw];congr 1;funext a;exact Kw ..
    rw[s,rK,((d _).mp ((U _).mp (fC (l:=l) t))) i b];simp
   refine Span.congr ?_ e;have A i:app M N (app f N<|VE r B l t) i=zg (λc=>VE r B l t c*app M N (λa=>f a c) i) N:=by rw[<-wg];congr 1;funext a;unfold app;exact xE ..
   have T:∀K,K<=N->Span p h Q λi=>zg (λc=>VE r B l t c*app M N (λa=>f a c) i) K:=by
    intro K
    induction K with
    |zero=>intro _;exact .zero λi _=>by simp[zg]
    | succ K Z=>
     intro G;by_cases I:∃j,j<r/\l j=K
     .obtain⟨j,O,rfl⟩:=I
      refine(Z ()).congr λi _=>?_;show(zg _ (l j)+_)%p=_;have z:=Yu H t O
      simp_all
     .exact((C K () λj O z=>I (j,O,z)).add (Z ()) _).congr λi _=>rfl
   exact(T N<|Tv _).congr λi _=>by rw[A]
  have o:∀u,Span p h _ u->Span p h Q u:=λu L=>by obtain⟨x,k⟩:=t5.mp<|(R u).mp L;obtain⟨t,Y⟩:=hs x;exact(S t).congr λi b=>by rw[k i b];exact jW Y i
  have W:∀K,K<=h->Span p h Q λi=>zg (λc=>VE r2 B2 l2 v c*jU c i) K:=by
   intro K
   induction K with
   |zero=>intro _;exact .zero λi _=>by simp[zg]
   | succ K Z=>
    intro G;by_cases I:∃j,j<r2/\l2 j=K
    .obtain⟨j,O,rfl⟩:=I
     refine(Z ()).congr λi _=>?_;show(zg _ (l2 j)+_)%p=_;simp only[(Yu P v O)];simp
    .exact((F K () λj O z=>I (j,O,z)).add (Z ()) _).congr λi _=>rfl
  refine((o _<|fC (l:=l2) v).add (W h<|Tv _) 1).congr λi b=>?_;congr 1;rw[zG b λc _ I=>by simp[jU,I]];simp only[jU,if_true,VE];lia
theorem Ig(Q:Pr p)(hN:N<=16)(hh:h<=16)(hs:∀v:Vc,∃t,∀i,i<N->v i%p=app f N t i%p)(U:fm p N r B l)(E:∀t,Span p N (d6 r B) t↔Span p N (d6 h λj i=>M i j) (app f N t))
 (H:∀v,Span p h (d6 q K) v↔A9 p N h M v) (hr:Rk p N h (λj i=>M i j) s) (b7:q+s=h):
 (∀j,j<r->∃y,∀i,i<N->app M h y i%p=app f N (B j) i%p)/\(∀c,c<N->(∀j,j<r->l j≠c)->¬∃y,∀i,i<N->app M h y i%p=f i c%p)/\r+q=h/\
   ∀Z (x:Nat->Vc),(∀j,j<r->Span p h Z (x j)/\∀i,i<N->app M h (x j) i%p=app f N (B j) i%p)->(∀j,j<q->Span p h Z (K j))->∀v,Span p h Z v:=by
 have o:=λt=>(E t).trans t5;refine(λj I=>?_,λc T hn z=>?_,?_,λZ x R h2 v=>?_)
 .obtain⟨y,m⟩:=(o<|B j).mp (.gen (j,I,rfl))
  exact(y,λi b=>(m i b).symm)
 .obtain⟨y,m⟩:=z
  exact dE Q U T hn<|(o _).mpr (y,λi b=>by rw[JJ f T,m i b])
 .have L:s<=16/\r<=16:=by
   obtain⟨J,b8,b9⟩:=EI Q (n:=N) () hh λj i=>M i j;refine((),?_);have:∀A,A<=r->A<=N:=by
    intro A;have mono:∀k,k<r->k<=l k:=by
     intro k
     induction k with
     |zero=>lia
     |succ k ih=>intro H;have:=ih ();have:=U.mono k (k+1) () H;lia
    intro bb;cases A with
    |zero=>lia
    |succ P=>have:=mono P ();have:=U.lt P ();lia
   have:=this r<|Tv _;lia
  have bd:s<=r:=by
   obtain⟨J,X,F⟩:=EI Q (n:=N) () L.2 λj=>app f N<|B j;have e:s=J:=by
    obtain⟨C,Y,G,w⟩:=hr;refine JZ Q (C,Y,G,w) ?_;obtain⟨W,b2,b3,b4⟩:=F;refine(W,b2,b3,λv=>(b4 v).trans (λz=>z.le λg O=>by obtain⟨j,I,rfl⟩:=O;exact(E<|B j).mp (.gen (j,I,rfl)),λz=>?_))
    .obtain⟨y,m⟩:=t5.mp z
     obtain⟨t,d⟩:=hs v;refine(Span.sum (λj=>t<|l j) λj I=>.gen (j,I,rfl)).congr λi b=>?_;rw[d i b,<-wg];exact jW ((JD U<|(o t).mpr (y,λi b=>by rw[<-d i b,m i b]))) i
   lia
  have be:r<=s:=by
   obtain⟨C,Y,G,w⟩:=hr;have O:∃g:Nat->Vc,∀j i,i<N->C j i%p=app f N (g j) i%p:=(_,λj=>Classical.choose_spec<|(λj=>hs<|C j) j);obtain⟨g,O⟩:=O;obtain⟨J,X,F⟩:=EI Q (n:=N) () L.1 g;have e:=by
    refine JZ Q (B,l,U,λv=>(λz=>?_,λz=>?_)) F
    .refine(Span.sum (λj=>app f N v<|Y j) λj I=>.gen (j,I,rfl)).congr λi b=>?_
     have z0 a:a<N->app f N (λi=>v i-zg (λj=>app f N v (Y j)*g j i) s) a%p=0:=λS=>by
      rw[Kw,wg,rK,JD G ((w _).mpr ((E v).mp z)) a S];have e:zg (λk=>app f N v (Y k)*C k a) s%p=zg (λk=>app f N v (Y k)*app f N (g k) a) s%p:=zE λk _=>by rw[Tt,O k a S,<-Tt]
      rw[e];simp
     exact(Dc _<|Dg p).symm.trans (by
      rw[Us];exact Ul.mpr<|(ZY Q hN hs) z0 i b)
    .refine z.le λu hu=>?_
     obtain⟨j,I,rfl⟩:=hu;refine(E _).mpr (((w<|C j).mp (.gen (j,I,rfl))).congr λi b=>(O j i b).symm)
   lia
  lia
 .obtain⟨t,d⟩:=hs (app M h v)
  have hd:Span p h Z λc=>v c-zg (λj=>t (l j)*x j c) r:=by
   refine((H _).mpr λi b=>?_).le λg O=>by obtain⟨j,I,rfl⟩:=O;exact h2 j I
   show app M h (λc=>v c-zg (λj=>t (l j)*x j c) r) i%p=0;rw[Kw,wg,rK];have e:zg (λj=>t (l j)*app M h (x j) i) r%p=app M h v i%p:=by rw[d i b,jW ((JD U<|(o t).mpr (v,λi b=>(d i b).symm))) i,wg];exact zE λj I=>by rw[Tt,(R j I).2 i b,<-Tt]
   rw[e];simp
  refine((Span.sum (λj=>t<|l j) λj I=>(R j I).1).add hd 1).congr λc _=>?_;lia
end
structure tG(p:Int)(w:DV)(wd:DK)(T:DQ)(k:Nat)(m6:List fh):Prop where
 ok:∀b,b∈m6->pe p w wd T k b
 sp:∀r,r<=k->∀v,Span p (wd r) (Sh m6 r) v
 ct:∀r,r<=k->m6.countP (λb=>b.has r)=wd r
 od:(m6.filter λb=>b.has k).Pairwise (Ord w)
noncomputable def l5(r:Nat)(l:DK)(i:Nat):Option Nat:=(Tn r).find? λj=>l j==i
theorem kF(h:l5 r l i=cz j):j<r/\l j=i:=by exact(Tp.mp<|List.mem_of_find?_eq_some h,by simpa using (List.find?_some h))
theorem Xa(h:l5 r l i=none):∀j,j<r->l j≠i:=λj y=>by simpa using (FL.mp h j<|Tp.mpr y)
def h8(p:Int)(A:Nat->fh)(N r:Nat)(B:Nat->Vc)(l:DK)(i:Nat):fh:=match l5 r l i with
 |some j=>IC p A N (B j) i
 |none=>A i
noncomputable def lK(k:Nat)(b:fh):Option Vc->fh
 |none=>b
 |some y=>(b.s,b.n+1,λr=>if r=k+1 then y else b.v r)
noncomputable def p5(k:Nat)(y:Vc):fh:=(k+1,1,λ_=>y)
def C6(r:Nat)(B:Nat->Vc)(l:DK)(i:Nat):Vc:=match l5 r l i with
 |some j=>B j
 |none=>jU i
theorem mY(p A N r B l i):(h8 p A N r B l i).s=(A i).s:=by unfold h8;split<;>rfl
theorem Ii(p A N r B l i):(h8 p A N r B l i).n=(A i).n:=by unfold h8;split<;>rfl
theorem bA(p A N r B l i rm):(h8 p A N r B l i).has rm=(A i).has rm:=by unfold fh.has;rw[mY,Ii]
theorem QD:(p5 k y).has r=decide (r=k+1):=by
 unfold p5 fh.has;by_cases h:r=k+1
 .simp[h]
 .simp[h];intro;lia
section
variable{p:Int}{w:DV}{wd:DK}{T:DQ}{k N r:Nat}{A:Nat->fh}{B:Nat->Vc}{l:DK}
theorem BA(y:fm p N r B l)(z:i<N):C6 r B l i i=1/\∀c,c<i->C6 r B l i c=0:=by
 unfold C6;cases hj:l5 r l i with
 |some j=>
  obtain⟨I,Q⟩:=kF hj;subst Q;exact(y.one j I,λc O=>y.kr j c I O)
 |none=>exact(by simp[jU],λc O=>by simp only[jU];rw[DJ ()])
theorem En(z:i<N)(I:(A i).has rm=cC):(h8 p A N r B l i).v rm c%p=n9 p A N (C6 r B l i) rm c%p:=by
 unfold h8 C6;cases y:l5 r l i with
 |some j=>rfl
 |none=>
  unfold n9;rw[Us];congr 1;rw[zG (f:=λj=>if _=cC then jU i j*_ else 0) z λj _ y=>by unfold jU;rw[DJ (Ue y)];simp];simp[jU,I]
theorem BF(I:0<p)(O:fm p N r B l)(y:∀j,j<N->pe p w wd T k (A j))(Q:∀j,j<N->(A j).has k=cC)(U:∀i c,i<c->c<N->Ord w (A i) (A c))(z:i<N):pe p w wd T k (h8 p A N r B l i):=by
 unfold h8;split
 .next j Y=>
  obtain⟨Z,a⟩:=kF Y;subst a;exact LS I y Q z ((U _)) λc b=>O.kr j c Z b
 .exact y i z
theorem YF(I:rm<=k)(O:b.s+b.n=k+1):(lK k b o).has rm=b.has rm/\(lK k b o).v rm=b.v rm:=by
 cases o with
 |none=>exact(rfl,rfl)
 |some y=>
  refine(?_,by simp only[lK];rw[DJ ()]);unfold lK fh.has;simp only;congr 1;exact decide_eq_decide.mpr (by grind)
theorem cO(I:b.s+b.n=k+1):(lK k b o).has (k+1)=o.isSome:=by
 cases o with
 |none=>unfold lK fh.has;simp;lia
 |some y=>unfold lK fh.has;simp;lia
theorem Gq(k b o):(lK k b o).s=b.s:=by cases o<;>rfl
theorem ME(R:0<p)(Q:b.s+b.n=k+1)(Z:pe p w wd T k b)(P:∀y,o=cz y->∀c,c<wd (k+1)->0<=y c/\y c<p)
 (z:o=none->w k=cL->∀c,c<wd (k+1)->app (T k) (wd k) (b.v k) c%p=0) (E:∀y,o=cz y->w k=cL->∀c,c<wd (k+1)->app (T k) (wd k) (b.v k) c%p=y c%p)
 (H:∀y,o=cz y->w k=cC->∀c,c<wd k->app (T k) (wd<|k+1) y c%p=b.v k c%p):pe p w wd T (k+1) (lK k b o):=by
 have u:=Z.n1;refine(?_,?_,λU c h I=>?_,λj x d c I=>?_)
 .cases o with
  |none=>exact Z.n1
  |some y=>show 1<=b.n+1;lia
 .cases o with
  |none=>show b.s+b.n<=k+1+1;lia
  |some y=>show b.s+(b.n+1)<=k+1+1;lia
 .by_cases m:U<=k
  .obtain⟨a,O⟩:=YF m Q
   rw[a]at h;rw[O];exact Z.i6 U c h I
  .have i:=i4.mp h
   cases o with
   |none=>exact absurd i.2 (by show ¬(U<b.s+b.n);lia)
   |some y=>
    have:U=k+1:=by have:U<b.s+(b.n+1):=i.2;lia
    subst this;have e:(lK k b<|some y).v (k+1)=y:=by simp[lK]
    rw[e];exact P y rfl c I
 .by_cases g:j<k
  .have g1:zS w j<=k:=by unfold zS;split<;>lia
   have g2:zX w j<=k:=by unfold zX;split<;>lia
   obtain⟨a,O⟩:=YF g1 Q;obtain⟨r,t⟩:=YF g2 Q;rw[a]at d;rw[O,r,t];exact Z.arr j g d c I
  .have g:j=k:=()
   subst g;obtain⟨a,O⟩:=YF (Tv j) Q;have l:=cO (o:=o) Q;cases hw:w j with
   |false=>
    have f:zS w j=j:=by unfold zS;rw[hw];rfl
    have Y:zX w j=j+1:=by unfold zX;rw[hw];rfl
    rw[Y]at I;rw[f,Y,O,l];cases o with
    |none=>rw[z rfl hw c I];simp
    |some y=>rw[E y rfl hw c I];simp[lK]
   | true=>
    have f:zS w j=j+1:=by unfold zS;rw[hw];rfl
    have Y:zX w j=j:=by unfold zX;rw[hw];rfl
    rw[Y]at I;rw[f,l]at d;rw[f,Y,a,O,(i4.mpr ())];cases o with
    |none=>cases d
    |some y=>
     have e:(lK j b<|some y).v (j+1)=y:=by simp[lK]
     rw[e,H y rfl hw c I];simp
theorem LR(Y:∀c,c<wd (k+1)->0<=y c/\y c<p)(Z:w k=cC->∀c,c<wd k->app (T k) (wd<|k+1) y c%p=0):pe p w wd T (k+1) (p5 k y):=by
 refine(Tv _,by show k+1+1<=k+1+1;lia,λf c Q I=>?_,λj e O c I=>?_)
 .rw[QD]at Q
  have:=of_decide_eq_true Q;subst this;exact Y c I
 .rw[QD]at O
  have O:=of_decide_eq_true O;cases hw:w j with
  |false=>
   have a:zS w j=j:=by unfold zS;rw[hw];rfl
   lia
  |true=>
   have a:zS w j=j+1:=by unfold zS;rw[hw];rfl
   have U:zX w j=j:=by unfold zX;rw[hw];rfl
   have b:j=k:=()
   subst b;rw[U]at I;have d:(p5 j y).has (zX w j)=cL:=by rw[QD,U];simp
   rw[d,a];show app (T j) _ y c%p=_;rw[Z hw c I];simp
def Jy(p:Int)(k:Nat)(w:DV)(j:List fh)(A:Nat->fh)(N r:Nat)(B:Nat->Vc)(l:DK)(nx:Nat->Option Vc)(y:List Vc):List fh:=
 (j.filter λb=> !b.has k)++(if w k then (Tn N).map (λi=>lK k (h8 p A N r B l i)<|nx i)++y.map (p5 k)else y.map (p5 k)++(Tn N).map λi=>lK k (h8 p A N r B l i)<|nx i)
theorem zeB(p0:0<p)(I:tG p w wd T k m6)(hN:(m6.filter λb=>b.has k).length=N)(Z:∀j,A j=(m6.filter λb=>b.has k).getD j sN)(U:fm p N r B l)
 (c1 : ∀i y,i<N->nx i=cz y->∀c,c<wd (k+1)->0<=y c/\y c<p) (c2 : ∀y,y∈news->∀c,c<wd (k+1)->0<=y c/\y c<p)
   (d0:∀i,i<N->nx i=none->w k=cL->∀c,c<wd (k+1)->app (T k) (wd k) ((h8 p A N r B l i).v k) c%p=0)
   (d1:∀i y,i<N->nx i=cz y->w k=cL->∀c,c<wd (k+1)->app (T k) (wd k) ((h8 p A N r B l i).v k) c%p=y c%p)
   (d2:∀i y,i<N->nx i=cz y->w k=cC->∀c,c<wd k->app (T k) (wd<|k+1) y c%p=(h8 p A N r B l i).v k c%p)
   (d3:∀y,y∈news->w k=cC->∀c,c<wd k->app (T k) (wd<|k+1) y c%p=0)
   (s1:∀v,Span p (wd<|k+1) (λg=>(∃i,i<N/\nx i=cz g)\/g∈news) v) (n1:(Tn N).countP (λi=>(nx i).isSome)+news.length=wd (k+1)):
   tG p w wd T (k+1) (Jy p k w m6 A N r B l nx news):=by
  have E j:j<N->A j∈m6/\(A j).has k=cC:=λx=>by
   have:A j∈m6.filter λb=>b.has k:=by rw[Z j,Tr,To ()];exact uC _
   grind
  have M:=λj x=>I.ok _ (E j x).1;have S i c:i<c->c<N->Ord w (A i) (A c):=λO Q=>by rw[Z i,Z c,Tr,To (),Tr,To ()];exact(M0.mp I.od i c () () O)
  have a1 i:i<N->(h8 p A N r B l i).s+(h8 p A N r B l i).n=k+1:=λd=>by rw[mY,Ii];have O:=i4.mp (E i d).2;have Q:=(M i d).le;lia
  have F b:b∈m6->b.has k=cL->b.s+b.n<=k:=λU hk=>by have O:=(I.ok b U).le;have Q:=(I.ok b U).n1;refine G6.mp λz=>?_;have:b.has k=cC:=i4.mpr ();lia
  have m b:b∈Jy p k w m6 A N r B l nx news↔(b∈m6/\b.has k=cL)\/(∃i,i<N/\b=lK k (h8 p A N r B l i) (nx i))\/∃y,y∈news/\b=p5 k y:=by
   unfold Jy;rw[uB,UA];refine or_congr () ?_;cases w k<;>simp only[UN,if_false,if_true,uB,Uz,Tp]
   .constructor
    .rintro(⟨y,O,Q⟩|⟨i,O,Q⟩)
     .exact .inr (y,O,Q.symm)
     .exact .inl (i,O,Q.symm)
    .rintro(⟨i,O,Q⟩|⟨y,O,Q⟩)
     .exact .inr (i,O,Q.symm)
     .exact .inl (y,O,Q.symm)
   .constructor
    .rintro(⟨i,O,Q⟩|⟨y,O,Q⟩)
     .exact .inl (i,O,Q.symm)
     .exact .inr (y,O,Q.symm)
    .rintro(⟨i,O,Q⟩|⟨y,O,Q⟩)
     .exact .inl (i,O,Q.symm)
     .exact .inr (y,O,Q.symm)
  have cnt:∀P:fh->Bool,(Jy p k w m6 A N r B l nx news).countP P=(m6.filter λb=> !b.has k).countP P+(Tn N).countP (λi=>P<|lK k (h8 p A N r B l i)<|nx i)+(news.map<|p5 k).countP P:=λP=>by
   unfold Jy;rw[U_];cases w k<;>simp only[UN,if_false,if_true,U_,E6 (f:=λi=>lK k (h8 p A N r B l i)<|nx i)]
   .rw[Sa,Nat.add_comm (List.countP P<|List.map (p5 k) news)];rfl
   .rw[Sa];rfl
  refine(λb b5=>?_,λY hr v=>?_,λY hr=>?_,?_)
  .rcases (m b).mp b5 with⟨O,Q⟩|⟨i,d,rfl⟩|⟨y,W,rfl⟩
   .have hk:=F b O Q
    have L:=I.ok b O;refine(L.n1,(),L.i6,λj x R c J=>?_);have bd:=i4.mp R;refine L.arr j ?_ R c J;have:zS w j>=j:=by unfold zS;split<;>lia
    lia
   .exact ME p0 (a1 i d) ((λi d=>BF p0 U M (λj x=>(E j x).2) S d) i d) (λy e=>c1 i y d e) ((d0 i d)) (λy e=>d1 i y d e) λy e=>d2 i y d e
   .exact LR (c2 y W)<|d3 y W
  .by_cases u:Y<=k
   .refine(I.sp Y u v).le λg hg=>?_
    obtain⟨b,O,Q,rfl⟩:=hg;cases Vs:b.has k with
    |false=>exact .gen (b,(m b).mpr (.inl (O,Vs)),Q,rfl)
    |true=>
     have b7:b∈m6.filter λb=>b.has k:=UA.mpr (O,by simpa using Vs);obtain⟨i,d,e⟩:=M7 b7;have ei:A i=b:=by rw[Z i,Tr,To d];exact e
     rw[<-ei]at Q ⊢;refine Am (t:=λi=>C6 r B l i) (λi d=>(BA U d).1) (λi c d J=>(BA U d).2 c J) (λi d K=>?_) (λi d K c _=>En d K) i () Q;obtain⟨x1,x2⟩:=YF (o:=nx i) u<|a1 i d;exact .gen (_,(m _).mpr (.inr<|.inl (i,d,rfl)),by rw[x1,bA];exact K,by rw[x2])
   .have:Y=k+1:=()
    subst this;refine(s1 v).le λg hg=>?_;rcases hg with⟨i,d,e⟩|hg
    .refine .gen (_,(m _).mpr (.inr<|.inl (i,d,rfl)),?_,?_)
     .rw[cO (a1 i d),e];rfl
     .rw[e];simp[lK]
    .exact .gen (_,(m _).mpr (.inr<|.inr (g,hg,rfl)),by rw[QD];simp,rfl)
  .rw[cnt]
   by_cases u:Y<=k
   .have G:(news.map<|p5 k).countP (λb=>b.has Y)=0:=D5.mpr λb U=>by
     obtain⟨y,_,rfl⟩:=Uz.mp U;rw[QD];simp;lia
    have H:(Tn N).countP (λi=>(lK k (h8 p A N r B l i)<|nx i).has Y)=(m6.filter λb=>b.has k).countP λb=>b.has Y:=by
     have:(m6.filter λb=>b.has k)=(Tn N).map A:=by rw[<-jv sN (m6.filter λb=>b.has k),hN];exact Ug λj _=>(Z j).symm
     rw[this,E6];refine u7 λi d=>?_;rw[(YF (o:=nx i) u<|a1 i<|Tp.mp d).1,bA];rfl
    simp only[G,H,<-I.ct Y u,List.countP_eq_countP_filter_add m6 (λb=>b.has Y) λb=>b.has k];lia
   .have:Y=k+1:=()
    subst this;have e0:(m6.filter λb=> !b.has k).countP (λb=>b.has<|k+1)=0:=D5.mpr λb U=>by obtain⟨O,Q⟩:=UA.mp U;have:=F b O ();intro z;have:=i4.mp z;lia
    have G:(news.map<|p5 k).countP (λb=>b.has<|k+1)=news.length:=by rw[List.countP_eq_length.mpr λb U=>?_,Ua];obtain⟨y,_,rfl⟩:=Uz.mp U;rw[QD];simp
    have H:(Tn N).countP (λi=>(lK k (h8 p A N r B l i)<|nx i).has (k+1))=(Tn N).countP λi=>(nx i).isSome:=u7 λi d=>by rw[cO (a1 i<|Tp.mp d)]
    simp only[e0,G,H];lia
  .have pO:((Tn N).map λi=>lK k (h8 p A N r B l i)<|nx i).Pairwise (Ord w):=by
    rw[M3];refine Q_ (λ{a b} C U h=>?_)<|Rg (n:=N);unfold Ord;simp only[Gq,Gq,mY,mY];exact(S a b h<|Tp.mp U)
   have X:(news.map<|p5 k).Pairwise (Ord w):=by rw[M3];exact M0.mpr λ_ _ _ _ _=>(λz=>absurd z<|UY<|k+1,λz=>absurd z<|UY<|k+1)
   have so b:b∈(Tn N).map (λi=>lK k (h8 p A N r B l i)<|nx i)->b.s<=k:=λU=>by obtain⟨i,d,rfl⟩:=Uz.mp U;rw[Gq,mY];exact(i4.mp (E i<|Tp.mp d).2).1
   have sn b:b∈news.map (p5 k)->b.s=k+1:=λU=>by obtain⟨y,_,rfl⟩:=Uz.mp U;rfl
   unfold Jy;rw[M9,K_.mpr λb U=>by obtain⟨O,Q⟩:=UA.mp U;have:=F b O (by simpa using Q);intro z;have:=i4.mp z;lia,Dj]
   refine O' _ ?_;cases hw:w k with
   |false=>
    simp only[UN,if_false];refine List.pairwise_append.mpr (X,pO,λa C b U=>?_);have O:=sn a C;have Q:=so b U;exact(λz=>by lia,λ_=>by rw[O];exact hw)
   |true=>
    simp only[if_true];refine List.pairwise_append.mpr (pO,X,λa C b U=>?_);have O:=sn b U;have Q:=so a C;exact(λ_=>by rw[O];exact hw,λz=>by lia)
end
theorem YQ(y:Pr p)(I:h<=100)(z:w<=lim)(f:DW):
 ∃r B l,QK [.int p,jZ h w f]=cz (.own<|z7 r h B)/\fm p h r B l/\∀v,Span p h (d6 r B) v↔Span p h (d6 w λj i=>f i j) v:=by
 refine Tf λO=>?_;obtain⟨r,B,l,e,Q,a⟩:=k4 y I z .T _;refine O ?_;have U:=je;refine(r,B,l,?_,Q,a);simp only[oI]at e;have o:=kX f (():h<=lim) z;unfold jZ at o ⊢;simp[QK,jA,jd,o,e]
theorem ai(P:Nat->Ctx->Prop):∀ds es k γ,P k γ->(∀i d γ,ds[i]? = cz d->P (k+i) γ->∃γ',(k9 T d γ).bind F=cz (.next γ')/\P (k+i+1) γ')->
 ∃γ',P (k+ds.length) γ'/\yD T F (ds++es) γ=yD T F es γ'
 |[],es,k,γ,h,_=>(γ,h,rfl)
 | d::ds,es,k,γ,h,step=>by
  obtain⟨a,e,y⟩:=step 0 d γ rfl h;obtain⟨γ',I,O⟩:=ai P ds es (k+1) a (by simpa using y) (λi Q U b Y=>by have:=step (i+1) Q U (by simpa using b) ();rw[show k+(i+1)+1=k+1+i+1 by lia]at this;exact this)
  refine(γ',by rw[show k+_=k+1+ds.length by simp;lia];exact I,?_);simp only[NA,kz];cases eb:k9 T d γ with
  |none=>rw[eb]at e;simp at e
  |some Z=>
   rw[eb]at e;simp only[Tx]at e ⊢;rw[e];exact O
theorem fU(n:Nat)(v:Vc):kQ (zO n v)=(Tn n).map λ(i:Nat)=>D.tup [.int i,.int (v i)]:=by
 unfold kQ
 simp_all
theorem Zr(y:n<=lim)(v:Vc)(j:a<n)(I:∀i,i<a->v i=0)(O:v a≠0):kc [.tup (zO n v)]=cz (.val<|.int a):=by
 have d:zQ (.tp [0,1]) (sB<|zM m8 (zf 1)<|sI 0) (zf 0) [Cell.no,Cell.no] ((Tn n).map λ(i:Nat)=>D.tup [.int i,.int (v i)])=cz (((Tn n).filter λi=> !decide (v i=0)).map λ(i:Nat)=>D.int i):=by refine jD _ _ _ λi f=>(_,rfl,?_,λ_=>rfl);simp
 cases hf:(Tn n).filter λi=> !decide (v i=0)with
 |nil=>simp_all
 | cons b vN=>
  obtain⟨Y,Q,U⟩:=aq hf;have e:b=a:=by
   rcases Y_ a b with z|z|z
   .exact absurd (by simpa using (U a z)) O
   .exact z.symm
   .exact absurd (I b z) (by simpa using Q)
  subst e;rw[hf]at d;simp[kc,jA,jd,fU,y,jq,Tq,d]
theorem lM(j:a<n)(v y:Vc)(x:Int)(O:y a=x)(I:∀i,i<n->i≠a->y i=v i):(zO n v).set a (.int x)=zO n y:=by
 apply F4;intro i;rw[RB];by_cases b:i<n
 .by_cases e:a=i
  .simp_all
  .have:=I i b (Ue e)
   simp_all
 simp_all
def bh(w:Nat)(B:Nat->Vc)(l:DK)(r:Nat):Vc:=λj=>zg (λk=>if l k=j then B k w else 0) r
section
variable{p:Int}{h w r:Nat}
theorem fi{l:DK}(y:∀k m,k<m->m<r->l k<l m){k m:Nat}(I:k<r)(O:m<r)(e:l k=l m):k=m:=by
 rcases Y_ k m with z|z|z
 .have:=y k m z O;lia
 .exact z
 .have:=y m k z I;lia
noncomputable def aug(w:Nat)(f:DW)(b:Vc):Nat->Vc:=λi j=>if j<w then f i j else b i
theorem hU(z:w+1<=lim)(U:fm p (w+1) r B l)(hs:s<=r)(E:∀k,k<s->l k<w)(es:List D)(j O Q:Cell):
 ∃y I,yD (.nm 5) yF (z7 s (w+1) B++es) [j,O,Q,vI w,.own<|zO w λ_=>0,.no,.no]=yD (.nm 5) yF es [j,O,Q,vI w,.own<|zO w<|bh w B l s,y,I]:=by
 refine Tf λA=>?_;obtain⟨C,⟨y,I,rfl⟩,e⟩:=ai (T:=.nm 5) (F:=yF) (λt h=>∃y I,h=[j,O,Q,vI w,.own<|zO w<|bh w B l t,y,I]) (z7 s (w+1) B) es 0 [j,O,Q,_,.own<|zO w λ_=>0,.no,.no]
  (.no,.no,by rfl) (by
   rintro k d h a ⟨y,I,rfl⟩;rw[pz];have Z:=by simpa using ((TR.mp a).1)
   have n:=by simp[Z]at a;exact a.symm
   subst n;have Y:k<r:=()
   have b:=E k Z;refine(_,?_,.val<|.tup<|zO (w+1)<|B k,vI<|l k,rfl);have f:¬((l k)=(w:Int)):=()
   have o:¬l k=w:=()
   have x:w<w+1:=()
   simp[yF,jf,Zr z (B k) () (λi g=>U.kr k i Y g) (by rw[U.one k Y];decide),f,o,b,x,(lM b (bh w B l k) (bh w B l<|k+1) (B k w) (by
    unfold bh;simp only[zg,if_true];rw[zh λm u=>by rw[DJ λe=>by have:=U.mono m k u Y;lia],zA]
    lia) (λi g f=>by
    unfold bh;simp only[zg];lia))])
 refine A ?_;rw[fX]at e;refine(y,I,?_);rw[e];rw[pz]
theorem GV(w:Nat)(f:DW)(b:Vc)(i:Nat):zO w (f i)++[.int (b i)]=zO (w+1) (aug w f b i):=by
 unfold zO;simp only[tu,UB];congr 1
 .exact Ug λj y=>by simp[aug,Tp.mp y]
 .simp[aug]
theorem Jb(Q:Pr p)(R:h<=190)(hw:w<=190)(f:DW)(b:Vc):
 ∃r B l s,fm p (w+1) r B l/\(∀v,Span p (w+1) (d6 r B) v↔Span p (w+1) (d6 h<|aug w f b) v)/\s<=r/\(∀k,k<s->l k<w)/\(∀k,s<=k->k<r->w<=l k)/\
  yk [.int p,jZ h w f,.tup (zO h b)]=cz (.val<|if s<r then .d7 else .tup (zO w<|bh w B l s)):=by
 have S:=je;have O:h<=lim:=()
 have U:w<=lim:=()
 have I:w+1<=lim:=()
 obtain⟨r,B,l,e,y,Y⟩:=wy Q (():w+1<=200) O .L _;obtain⟨s,j,m,g⟩:=Zu w y.mono;refine(r,B,l,s,y,Y,j,m,g,?_);have a:zQ (.tp [0,1]) jB (zM j6 (zf 0)<|qv<|zb (zf 1) zD) [Cell.no,Cell.no] ((Tn h).map λi=>D.tup [.tup (zO w<|f i),.int (b i)])=cz (z7 h (w+1)<|aug w f b):=by unfold z7;refine zu _ _ λi C=>zv rfl rfl ?_;simp[j6,I,GV]
 have Z:wC (z7 h w f) (zO h b)=(Tn h).map λi=>D.tup [.tup (zO w<|f i),.int (b i)]:=by unfold wC z7 zO;rw[tj];simp
 have n:Tq w (D.int 0)=zO w λ_=>0:=by rw[w5];rfl
 have u:((w+1:Nat))=(w:Int)+1:=()
 simp only[oI]at e;rw[u]at e;obtain⟨d,A⟩:∃d,r=s+d:=(r-s,());have F:z7 r (w+1) B=z7 s (w+1) B++z7 d (w+1) λk=>B (s+k):=by unfold z7;simp only[A,Dh,UB,Uu];rfl
 obtain⟨J,K,E⟩:=hU I y j m _ _ _ _;have G:jI (jZ h w f)=cz _:=rfl;have x:yk=jA 7 (zV _<|zV (kN 4<|EE (qU<|kO<|zb (sI 0) zD)<|zf 3)<|zV (wU (z9<|zH<|jX<|jm xi<|zb (zf 0)<|zb (zM j6 (zf 3)<|sI 1)<|zb (jX<|zW (KL (cI (zm 1)<|sI 2)<|zf 2) (.tp [0,1]) 2 [] jB (zM j6 (zf 0)<|qv<|zb (zf 1) zD)) zD) (.nm 5) yF)<|qQ<|jx<|zm 4):=rfl;rw[x];simp[jA,jd,jf,G,U,Z,O,jq,Tq,a,e];rw[n,F,E];by_cases z:s<r
 .
  have o:d=1:=by
   rcases TV 1 d with q|q
   .have M:=y.mono s (s+1) () ()
    have N:=g s (Tv _) z;have P:=y.lt (s+1) ();lia
   .lia
  subst o;have H:l s=w:=by have:=g s (Tv _) z;have:=y.lt s z;lia
  have one:z7 1 (w+1) (λk=>B<|s+k)=[_]:=rfl;simp only[one,kz];simp[yF,jf,Zr I (B s) (():w<w+1) (λi C=>y.kr s i z ()) (by have:=y.one s z;lia),z]
 .have t:d=0:=()
  subst t;have zero:z7 0 (w+1) (λk=>B<|s+k)=[]:=rfl;rw[zero];simp[yD,z]
end
theorem Hd(γ:Ctx)(i g):ik i g γ=(qZ γ[i]?).bind λds=>(g γ).bind λa=>match a.1 with
 |.T=>if ds.length+a.2.length<=lim then cz (.next<|γ.set i<|.own<|ds++a.2)else none
 |.L=>none:=rfl
noncomputable def off(hs ws:DK):Nat->Nat
 |0=>0
 |k+1=>off hs ws k+hs k*ws k
def p9(hs ws:DK)(T:DQ):Nat->Nat->Int
 |0,_=>0
 |k+1,x=>if x<off hs ws k then p9 hs ws T k x else T k ((x-off hs ws k)/ws k) ((x-off hs ws k)%ws k)
def nf(n:Nat)(hs ws:DK)(T:DQ):List D:=(Tn n).map λk=>jZ (hs k) (ws k)<|T k
noncomputable def rn(n:Nat)(hs ws:DK):List D:=(Tn n).map λk=>D.tup [.int (hs k:Nat),.int (ws k:Nat)]
section
variable{hs ws:DK}{T:DQ}
theorem Vy(h:a<=b):off hs ws a<=off hs ws b:=by
 induction b with
 |zero=>lia
 | succ b y=>
  by_cases e:a=b+1
  .subst e;exact Tv _
  .have:=y ()
   show _<=_+_;lia
theorem GK{h w i j:Nat}(z:i<h)(y:j<w):i*w+j<h*w:=by have:=R5 w z;lia
theorem aM(I:k<n)(z:i<hs k)(y:j<ws k):off hs ws k+i*ws k+j<off hs ws n:=by have O:=Vy (hs:=hs) (ws:=ws) (():k+1<=n);have Q:=GK z y;have:off hs ws (k+1)=_+_:=rfl;lia
theorem CD{w i j:Nat}(y:j<w):(i*w+j)/w=i/\(i*w+j)%w=j:=by
 constructor
 .rw[Nat.add_comm,Nat.add_mul_div_right _ _ (),_c y,pz]
 .rw[Nat.add_comm,Nat.add_mul_mod_self_right,_b y]
theorem wD{k i j:Nat}(z:i<hs k)(y:j<ws k):∀n,k<n->p9 hs ws T n (off hs ws k+i*ws k+j)=T k i j
 |0,h=>by lia
 | n+1,h=>by
  unfold p9;by_cases e:k=n
  .subst e
   rw[DJ ()];have:off hs ws k+i*ws k+j-off hs ws k=i*ws k+j:=()
   rw[this,(CD y).1,(CD y).2]
  .rw[DZ (aM (():k<n) z y)]
   exact wD z y n ()
theorem uM:∀n x,x<off hs ws n->∃k i j,k<n/\i<hs k/\j<ws k/\x=off hs ws k+i*ws k+j
 |0,x,h=>by simp[off]at h
 | n+1,x,h=>by
  by_cases e:x<off hs ws n
  .refine Tf λy=>?_;obtain⟨k,i,j,U,I,O,Q⟩:=uM n x e
   exact y (k,i,j,(),I,O,Q)
  .have h:x<_+_:=h
   refine(n,(x-off hs ws n)/ws n,(x-off hs ws n)%ws n,(),Nat.div_lt_of_lt_mul ?_,Nat.mod_lt _ (by
    lia),?_)
   .lia
   .have:=Nat.div_add_mod (x-off hs ws n) (ws n)
    lia
theorem AQ(y:∀x,x<a->h x=f x)(I:∀x,x<b->h (a+x)=g x):zO a f++zO b g=zO (a+b) h:=by
 unfold zO;simp only[Dh,UB,Uu];congr 1
 .simp_all
 simp_all
theorem yo(n f):(zO n f).length=n:=by simp[zO]
theorem bq(n hs ws T):(nf n hs ws T).length=n:=by simp[nf]
theorem El(n hs ws):(rn n hs ws).length=n:=by simp[rn]
theorem BB(h:k<n):(nf n hs ws T)[k]? = cz (jZ (hs k) (ws k)<|T k):=by unfold nf;simp[h]
theorem CT(O Q:Cell)(w:Nat)(f:DW)(a:Nat)(g G:Nat->Int)(Y:∀x,x<a->G x=g x)(h:Nat)(Z:∀i j,i<h->j<w->G (a+i*w+j)=f i j)(hz:a+h*w<=2000)(y:Cell):
 ∃I,yD (.nm 3) (ik 1<|zm 3) (z7 h w f) [O,.own<|zO a g,Q,y]=cz (.next [O,.own<|zO (a+h*w) G,Q,I]):=by
 have n:=je;have b:∀k s y,s+k=h->∃I,yD (.nm 3) (ik 1<|zm 3) ((Dn s k).map λi=>D.tup<|zO w<|f i) [O,.own<|zO (a+s*w) G,Q,y]=cz (.next [O,.own<|zO (a+h*w) G,Q,I]):=by
  intro k
  induction k with
  |zero=>
   intro s y e;obtain rfl:s=h:=()
   exact(y,rfl)
  |succ k l=>
   intro s y e;obtain⟨I,q⟩:=l (s+1) (.val<|.tup<|zO w<|f s) ();refine(I,?_);simp only[<-q,R1,UL,kz];have m:(s+1)*w<=h*w:=R5 w ();have le:a+s*w+w<=lim:=()
   have d:zO (a+s*w) G++zO w (f s)=zO (a+(s+1)*w) G:=by rw[show a+(s+1)*w=a+s*w+w by lia];exact AQ (λx _=>rfl) λx U=>Z s x () U
   simp[Hd,qZ,qc,yo,le,d]
 obtain⟨I,q⟩:=b h 0 y ();refine(I,?_);rw[<-D3,Nat.zero_mul,G5]at q;rw[y8 λx U=>(Y x U).symm];exact q
theorem K4(hz:off hs ws n<=2000):vB [.lst (nf n hs ws T)]=cz (.val<|.tup<|zO (off hs ws n)<|p9 hs ws T n):=by
 have f:hO 3 2=cz 2:=rfl;have a:∀k s I y,s+k=n->∃O Q,yD (.nm 2) (wU (z9<|zH<|cI (zm 2)<|sI 2) (.nm 3)<|ik 1<|zm 3) ((Dn s k).map λk=>jZ (hs k) (ws k)<|T k) [.val (.lst<|nf n hs ws T),.own<|zO (off hs ws s)<|p9 hs ws T s,I,y]=cz (.next [.val (.lst<|nf n hs ws T),.own<|zO (off hs ws n)<|p9 hs ws T n,O,Q]):=by
  intro k
  induction k with
  |zero=>
   intro s I y e;obtain rfl:s=n:=()
   exact(I,y,rfl)
  | succ k U=>
   intro s I y e;have g:=Vy (hs:=hs) (ws:=ws) (():s+1<=n);obtain⟨Y,r⟩:=CT (.val<|.lst<|nf n hs ws T) (.val<|jZ (hs s) (ws s)<|T s) (ws s) (T s) _ _ _ (λx Z=>by show(if x<_ then _ else _)=_;rw[DZ Z]) (hs s) (λi j b d=>wD b d (s+1) ()) (by
    have:off hs ws (s+1)=_+_:=rfl;lia) y
   obtain⟨O,Q,q⟩:=U (s+1) _ Y ();refine(O,Q,?_);simp only[<-q,R1,UL,kz];simp[(mU (hs s) (ws s)<|T s),f,qc,r];rfl
 obtain⟨O,Q,q⟩:=a n 0 .no .no ();rw[<-D3]at q;exact zU (zy rfl (zy (by
  assumption) rfl))
theorem GI(u:Nat->Int)(y:a<=b)(I:b<=n):gh (zO n u) (cz a) (cz b)=zO (b-a) λx=>u (a+x):=by unfold zO;exact aw _ y I
def KH(hs ws:DK)(u:Nat->Int)(k i j:Nat):Int:=u<|off hs ws k+i*ws k+j
theorem wV(P:n<=100)(Y:∀k,hs k<=100)(z:∀k,ws k<=100)(u:Nat->Int)(Z:N=off hs ws n):xC [.lst (rn n hs ws),.tup (zO N u)]=cz (.own<|nf n hs ws<|KH hs ws u):=by
 have H:=je;subst Z;let f:=KH hs ws u;let d:Cell->Cell->Cell->Cell->Cell->Ctx:=λj l y I O=>[.val (.lst<|rn n hs ws),.val<|.tup<|zO (off hs ws n) u,j,l,y,I,O];refine Tf λr=>?_;obtain⟨_,q,y,I,O,rfl⟩:=VP (T:=.tp [4,5]) (F:=P2) (g:=λk=>D.tup [.int (hs k),.int (ws k)]) (λs A=>∃y I O,A=d (.own<|nf s hs ws f) (vI<|off hs ws s) y I O) n (_,_,_,rfl) (by
  rintro s B _ ⟨y,I,O,rfl⟩;have C:=Y s;have E:=z s;have ad:=Vy (hs:=hs) (ws:=ws) (():s+1<=n);have o:off hs ws (s+1)=_+_:=rfl;have U x:YJ x (ws s)=cC:=Kt _ _ () ();have p:zQ (.nm 0) jB (V6 (zf 1) (n5<|zM j6 (zf 2)<|zM yE (zf 0)<|zf 3)<|n5<|zM j6 (zf 2)<|zM yE (zM j6 (zf 0)<|sI 1)<|zf 3) [Cell.no,.val<|.tup<|zO (off hs ws n) u,vI<|off hs ws s,vI (ws s)] (zO (hs s) λi=>i)=cz (z7 (hs s) (ws s)<|f s):=by unfold z7;refine zu _ _ λi m=>zv rfl rfl ?_;have G:(i+1)*ws s<=_:=R5 _<|Tp.mp m;have Q:=GI (n:=off hs ws n) (a:=off hs ws s+i*ws s) (b:=off hs ws s+(i+1)*ws s) u () ();rw[show _-_=ws s by lia]at Q;simp only[Int.natCast_add,Int.natCast_mul,Int.natCast_one]at Q;simp[U,Q];rfl
  have w:inR (hs s)=cC:=Kh () ();have e:hs s<=lim:=()
  have h:s<lim:=()
  have t:3<=lim:=()
  refine(_,d _ _ (vI<|hs s) (.val<|.int<|ws s)<|.val<|.lst<|z7 (hs s) (ws s)<|f s,rfl,?_,_,_,_,rfl);rw[show nf (s+1) hs ws f=nf s hs ws f++_ from qT _ _];simp[P2,jf,d,w,qh,wa,e,jq,p,j8,t,bq,h,U,o,jZ])
 exact r<|zU<|zy rfl<|zy rfl<|zy q rfl
theorem oV(hs ws:DK):∀n,zg (λk=>(hs k)*(ws k)) n=(off hs ws n)
 |0=>rfl
 |n+1=>by show zg _ n+_=((_+_:Nat));simp only[oV hs ws n,Int.natCast_add,Int.natCast_mul]
theorem yi(I:n<=100)(j:∀k,ws k<=100):xH [.lst (rn n hs ws)]=cz (.val<|.int<|off hs ws n):=by
 have O:=je;have y:n<=lim:=()
 have a:zQ (.tp [0,1]) jB (zM yE (zf 0)<|zf 1) [Cell.no,Cell.no] (rn n hs ws)=cz (zO n λk=>(hs k)*(ws k)):=by
  unfold rn;refine zu _ _ λk Q=>zv rfl rfl ?_;have U:YJ (hs k) (ws k)=cC:=Kt _ _ () (by have:=j k;lia)
  simp_all
 refine zU ?_;show((BI _) [_]).map _=_;simp only[gD,Zo,qS,ZE,xf,Uj,jz,j8,Uy,Tx,El n hs ws,y,if_true];rw[show jq 2 [] _=[Cell.no,Cell.no]from rfl,a];simp only[Uy,Tx,wW (λk=>(hs k)*(ws k)) n,oV]
end
section
def Gj(p:Int)(w:DV)(wd wd':DK)(T T' S:DQ)(k i j:Nat):Int:=
 (zg (λt=>T' k t j*S (zX w k) i t) (dH w wd' k)%p+(-1)*(zg (λt=>S (zS w k) t j*T k i t) (dq w wd k)%p))%p
theorem vM(I:m<=4):kW [jE p m w wd' T',jE p m w wd T]=cz (.own<|rn (m+1) wd wd'):=by
 have O:=je;have y:m+1<=lim:=()
 have a:hO 3 1=cz 1:=rfl;have z:_=rn (m+1) wd wd':=vF (m+1) _ _;refine zU ?_;show((nH _ _) [_,_]).map _=_;simp[(xP p m w wd T),xP p m w wd' T',a,qc,yo,y,z]
theorem Ma(f g:DW)(y:0<p)(I:h<=lim)(z:w<=lim):sH [.int p,jZ h w f,jZ h w g]=cz (.val<|jZ h w λi j=>(f i j+(-1)*g i j)%p):=by refine zU ?_;show((zC kg _) [_,_,_]).map _=_;have O:ud (sI 1) [vI p,.val<|jZ h w f,.val (jZ h w g)]=cz _:=rfl;simp[O,QW (-1) f g () () y I z,mi]
theorem MA(I:0<p)(Z:p<=100)(B:m<=4)(z:∀k,wd k<=9)(O:∀k,wd' k<=9)(Y:∀k i j,0<=T' k i j/\T' k i j<p)(bS:∀k i j,0<=S k i j/\S k i j<100)(y:k<m):
 Bn [jE p m w wd' T',jE p m w wd T,.lst<|nf (m+1) wd wd' S,.int k]=cz (.val<|jZ (dH w wd k) (dq w wd' k)<|Gj p w wd wd' T T' S k):=by
 have A:=je;have Q u U:(xn m w u U).length=m/\(xn m w u U)[k]? = cz (ZH w u U k):=by unfold xn;simp[y]
 have d:=v9 (w:=w) y;have e:=wc (w:=w) y;have x:=bq (m+1) wd wd' S;have g:=BB (hs:=wd) (ws:=wd') (T:=S) d;have f:=BB (hs:=wd) (ws:=wd') (T:=S) e;rw[jt w wd,jt w wd']at g;rw[jw w wd,jw w wd']at f;have a:dH w wd k<=lim:=by rw[<-jt];have:=z<|zX w k;lia
 have l:dH w wd' k<=lim:=by rw[<-jt];have:=O<|zX w k;lia
 have n:dq w wd k<=lim:=by rw[<-jw];have:=z<|zS w k;lia
 have b:dq w wd' k<=lim:=by rw[<-jw];have:=O<|zS w k;lia
 have s:=Zq (T k) (S<|zS w k) I a n b λi j _ _=>bS _ i j;have le:=Ma (λi j=>zg (λt=>T' k t j*S (zX w k) i t) (dH w wd' k)%p) (λi j=>zg (λt=>S (zS w k) t j*T k i t) (dq w wd k)%p) I a b;have o:hO 2 1=cz 1:=rfl;have r:hO 3 2=cz 2:=rfl;have h:∀u U,jI (ZH w u U k)=cz (.T,[.str (Je<|jc<|w k),jZ (dH w u k) (dq w u k) (U k)]):=λ_ _=>rfl;refine zU ?_;simp only[jd,Tq,UL,Nn,NA,Dj,jf,Kz,ZO,vh,jQ,vz,vg,kG,xf,vc,Zp,Uj,Uo,Up,UX,pz,Di,Nat.reduceSub,jz,jN,Tx,Uy,xP,xc,o,r,show hO 3 0=cz 0 from rfl,show hO 2 0=cz 0 from rfl,qc,j8,(Q _ _).1,(Q _ _).2,qL,y,if_true,h,gH w k,ZR w k,mi,x,d,e,g,f,Zq _ (T' k) I a l b λi j _ _=>by have:=Y k i j;lia,s,le,vr,vp];rfl
theorem Gh(y:0<p)(I:p<=100)(O:m<=4)(z:∀k,wd k<=9)(Q:∀k,wd' k<=9)(U:∀k i j,0<=T' k i j/\T' k i j<p)(bS:∀k i j,0<=S k i j/\S k i j<100):
 gG [jE p m w wd' T',jE p m w wd T,.lst (nf (m+1) wd wd' S)]=cz (.own<|nf m (dH w wd) (dq w wd')<|Gj p w wd wd' T T' S):=by
 have f:=je;have Y:m<=lim:=()
 have b:hO 3 2=cz 2:=rfl;have Z:(xn m w wd' T').length=m:=by simp[xn]
 have e:inR m=cC:=Kh () ();have d:zQ (.nm 0) jB (zC Bn<|zb (zf 1)<|zb (zf 2)<|zb (zf 3)<|zb (zf 0) zD) [Cell.no,.val<|jE p m w wd' T',.val<|jE p m w wd T,.val (.lst<|nf (m+1) wd wd' S)] ((Tn m).map λk:Nat=>D.int k)=cz (nf m (dH w wd) (dq w wd')<|Gj p w wd wd' T T' S):=by
  unfold nf;refine zu _ _ λk a=>zv rfl rfl ?_;have g:=MA (w:=w) (T:=T) y I O z Q U bS<|Tp.mp a;unfold nf at g
  simp_all
 refine zU ?_;show((zW _ _ _ _ _ _) [_,_,_]).map _=_;simp only[qS,aQ,CM,kG,vg,xf,Zp,Uj,Uo,Up,UX,pz,Di,jz,Tx,Uy,xP p m w wd' T',xc,b,qc,Z,e,if_true,zp,qh,yo,Y];simp only[j9 m λi=>i,show jq 1 [0,1,2] [.val _,.val _,.val _]=[Cell.no,.val _,.val _,.val _]from rfl,d];rfl
noncomputable def QT(c x:Nat):Int:=if c=x then 1 else 0
def Gd(p:Int)(m:Nat)(w:DV)(wd wd':DK)(T T':DQ)(e c:Nat):Int:=p9 (dH w wd) (dq w wd') (Gj p w wd wd' T T'<|KH wd wd'<|QT c) m e
theorem XP(j:∀k,wd k<=9)(k):dH w wd k<=100:=by rw[<-jt];have:=j<|zX w k;lia
theorem P5(j:∀k,wd k<=9)(k):dq w wd k<=100:=by rw[<-jw];have:=j<|zS w k;lia
theorem VO(Y:0<p)(Z:p<=100)(I:m<=4)(z:∀k,wd k<=9)(y:∀k,wd' k<=9)(B:∀k i j,0<=T' k i j/\T' k i j<p)(E:off wd wd' (m+1)<=2000)(H:off (dH w wd) (dq w wd') m<=2000):
 Zs [jE p m w wd' T',jE p m w wd T]=cz (.val<|jZ (off (dH w wd) (dq w wd') m) (off wd wd'<|m+1)<|Gd p m w wd wd' T T'):=by
 have u:=je;have o:=yi (n:=m+1) (hs:=wd) (ws:=wd') () λk=>by have:=y k;lia
 have a:qm [jE p m w wd' T',jE p m w wd T]=cz (.own<|rn m (dH w wd)<|dq w wd'):=Y9 I;have l:=yi (n:=m) (hs:=dH w wd) (ws:=dq w wd') ()<|P5 y;generalize hN:off wd wd' (m+1)=N at *;generalize hA:off _ _ m=A at *;have O:N<=lim:=()
 have b:A<=lim:=()
 have r:jI (jZ N N λi j=>if i=j then 1 else 0)=cz _:=rfl;have h:3<=lim:=()
 have f:zQ (.nm 0) jB (zC vB<|zb (jX<|jm gG<|zb (zf 1)<|zb (zf 2)<|zb (jX<|jm xC<|zb (zf 3)<|zb (zf 0) zD) zD) zD) [Cell.no,.val<|jE p m w wd' T',.val<|jE p m w wd T,.val (.lst<|rn (m+1) wd wd')] (z7 N N λi j=>if i=j then 1 else 0)=cz (z7 N A λc e=>Gd p m w wd wd' T T' e c):=by
  unfold z7;refine zu _ _ λc t=>zv rfl rfl ?_;have d k i j:0<=KH wd wd' (QT c) k i j/\KH wd wd' (QT c) k i j<100:=by unfold KH QT;split<;>decide
  have g:=Gh (w:=w) (T:=T) Y Z I z y B d;have Q:=K4 (n:=m) (hs:=dH w wd) (ws:=dq w wd') (T:=Gj p w wd wd' T T'<|KH wd wd'<|QT c) ();rw[hA]at Q;have s:xC [.lst (rn (m+1) wd wd'),.tup (zO N λj=>if c=j then 1 else 0)]=_:=(wV () (λk=>by have:=z k;lia) (λk=>by have:=y k;lia) (QT c) hN.symm);simp[s,um,g,Q,mi];rfl
 have U:=kX (λc e=>Gd p m w wd wd' T T' e c) O b;unfold jZ at U;refine zU ?_;simp[jf,jd,Tq,(vM (p:=p) (w:=w) (wd:=wd) (wd':=wd') (T:=T) (T':=T') I),o,yG O,r,hO,qc,lO,O,jq,f,a,l,j8,h,U];rfl
end
theorem He(h:∀k,k<r->l k≠j):bh w B l r j=0:=by unfold bh;rw[zh λk y=>DJ<|h k y,zA]
theorem Nh(I:fm p n r B l)(y:k<r):bh w B l r (l k)=B k w:=by unfold bh;rw[zG y λm O Q=>DJ λe=>Q<|fi I.mono O y e,DZ rfl]
theorem zfc{p:Int}{h w:Nat}{f:DW}{b y:Vc}(Y:∀i,i<h->zg (λj=>f i j*y j) w%p=b i%p){v:Vc}(Z:Span p (w+1) (d6 h<|aug w f b) v):(v w-zg (λj=>v j*y j) w)%p=0:=by
 induction Z with
 |@zero v O=>
  have e:zg (λj=>v j*y j) w%p=zg (λ_=>0) w%p:=zE λj Q=>by rw[Tt,O j ()];simp
  rw[rK,e,O w (),zA];simp
 | @step v I g c m r U o=>
  obtain⟨i,n,rfl⟩:=m;have a:zg (λj=>v j*y j) w%p=(zg (λj=>I j*y j) w+c*zg (λj=>f i j*y j) w)%p:=by
   rw[<-zT,<-jG];refine zE λj Q=>?_;rw[Tt,U j (),<-Tt];have:aug w f b i j=f i j:=by simp[aug,Q]
   simp only[this,Gx,qd]
  have d:v w%p=(I w+c*b i)%p:=by
   rw[U w ()];have:aug w f b i w=b i:=by simp[aug]
   rw[this]
  have k:(c*zg (λj=>f i j*y j) w)%p=(c*b i)%p:=by rw[Tt,Y i n,<-Tt]
  rw[rK,a,d,<-rK];have l:(I w+c*b i-(zg (λj=>I j*y j) w+c*zg (λj=>f i j*y j) w))=(I w-zg (λj=>I j*y j) w)+(c*b i-c*zg (λj=>f i j*y j) w):=()
  rw[l,Um,o,rK,k];simp
theorem Y8(U:Pr p)(H:h<=190)(P:w<=190)(f:DW)(b y:Vc)(Q:∀i,i<h->0<=b i/\b i<p)(R:∀i,i<h->zg (λj=>f i j*y j) w%p=b i):
 ∃x:Vc,yk [.int p,jZ h w f,.tup (zO h b)]=cz (.val<|.tup<|zO w x)/\(∀j,0<=x j/\x j<p)/\∀i,i<h->zg (λj=>f i j*x j) w%p=b i:=by
 refine Tf λJ=>?_;obtain⟨r,B,l,s,O,Y,M,n,K,Z⟩:=Jb U H P f b;refine J ?_;have o:¬s<r:=λz=>by
  have ad:=O.lt s z;have L:=K s (Tv _) z;have C:l s=w:=()
  have q:=zfc (λi a=>by rw[R i a,UG (Q i a).1 (Q i a).2])<|(Y<|B s).mp (.gen (s,z,rfl));have m:=O.one s z;rw[C]at m;have F:zg (λj=>B s j*y j) w=0:=by rw[zh (g:=λ_=>0) λj G=>by rw[O.kr s j z ()];simp];exact zA _
  simp only[m,F,Int.sub_zero,U.one]at q;lia
 rw[DJ o]at Z;have E:s=r:=()
 subst E;refine(_,Z,λj=>?_,λi a=>?_)
 .by_cases e:∃k,k<s/\l k=j
  .obtain⟨k,I,rfl⟩:=e
   rw[Nh O I];exact O.i6 k w I ()
  .rw[He λk I A=>e (k,I,A)];exact(F9 _,U.pos)
 .have d:=JD O ((Y _).mpr (.gen (i,a,rfl))) w ()
  have t:aug w f b i w=b i:=by simp[aug]
  rw[t,UG (Q i a).1 (Q i a).2]at d;rw[d];congr 1;unfold bh;rw[zh λj _=>(zT _ _ _).symm,jS];refine zh λk I=>?_;rw[zG (n k I) λj G u=>by rw[DJ (Ue u)];simp,DZ rfl];simp only[aug,DZ (n k I)]
theorem dD(a:Nat->Int)(idx:DK)(x:Nat->Int)(y:∀t,t<n->idx t<N):zg (λc=>zg (λt=>a t*QT c (idx t)) n*x c) N=zg (λt=>a t*x (idx t)) n:=by rw[zh λc _=>(qz _ _ _).symm,jS];refine zh λt I=>?_;rw[zG (y t I) λc Q O=>by unfold QT;rw[DJ O];simp];unfold QT;rw[DZ rfl,sM]
section
def aY(w:DV)(wd wd':DK)(T T' X:DQ)(k i j:Nat):Int:=
 zg (λt=>T' k t j*X (zX w k) i t) (dH w wd' k)-zg (λt=>T k i t*X (zS w k) t j) (dq w wd k)
theorem Gi(X:DQ)(k i j:Nat):Gj p w wd wd' T T' X k i j%p=aY w wd wd' T T' X k i j%p:=by
 unfold Gj aY;rw[Us];rw[zh (g:=λt=>T k i t*_) λt _=>UC _ _];generalize zg _ _=a;generalize zg _ _=b;have:a%p + -1*(b%p)=a%p-b%p:=()
 simp_all
theorem FO(I:∀t,t<dH w wd' k->X (zX w k) i t=Y (zX w k) i t)(O:∀t,t<dq w wd k->X (zS w k) t j=Y (zS w k) t j):aY w wd wd' T T' X k i j=aY w wd wd' T T' Y k i j:=by
 unfold aY;rw[zh λt y=>by rw[I t y],
  zh (f:=λt=>T k i t*_) λt y=>by rw[O t y]]
theorem ZA(x:Nat->Int)(y:k<m)(z:i<dH w wd k)(O:j<dq w wd' k):
 zg (λc=>Gd p m w wd wd' T T' (off (dH w wd) (dq w wd') k+i*dq w wd' k+j) c*x c) (off wd wd'<|m+1)%p=aY w wd wd' T T' (KH wd wd' x) k i j%p:=by
 have a:zg (λc=>Gd p m w wd wd' T T' _ c*x c) _%p=zg (λc=>aY w wd wd' T T' _ k i j*x c) (off wd wd'<|m+1)%p:=zE λc U=>by unfold Gd;rw[wD z O m y,Tt,Gi,<-Tt]
 rw[a];congr 1;have Q c:aY w wd wd' T T' (KH wd wd'<|QT c) k i j*x c=zg (λt=>T' k t j*QT c (off wd wd' (zX w k)+i*wd' (zX w k)+t)) (dH w wd' k)*x c+(-1)*(zg (λt=>T k i t*QT c (off wd wd' (zS w k)+t*wd' (zS w k)+j)) (dq w wd k)*x c):=by unfold aY KH;rw[Int.sub_mul];lia
 rw[zh (λc _=>Q c),jG,zT];rw[dD _ _ x λt I=>aM (v9 (w:=w) y) (by rw[jt w wd];exact z) (by rw[jt w wd'];exact I)];rw[dD _ _ x λt I=>aM (wc (w:=w) y) (by rw[jw w wd];exact I) (by rw[jw w wd'];exact O)];unfold aY KH;lia
def sD(p:Int)(m:Nat)(w:DV)(wd wd':DK)(T T' J S:DQ):Prop:=∀k i j,k<m->i<dH w wd k->j<dq w wd' k->aY w wd wd' T T' S k i j%p=(-(J k i j))%p
theorem YE(y:Pr p)(I:m<=4)(z:∀k,wd k<=9)(U:∀k,wd' k<=9)(Y:∀k i j,0<=T' k i j/\T' k i j<p)(E:off wd wd' (m+1)<=190)(H:off (dH w wd) (dq w wd') m<=190)(B:jJ [jE p m w wd T,jE p m w wd' T']=cz (.val d))
 (Z:DF [.val (jE p m w wd T),.val<|jE p m w wd' T',.val<|.lst<|jH m w wd wd' J,vI p,.val<|jZ (off (dH w wd) (dq w wd') m) (off wd wd'<|m+1)<|Gd p m w wd wd' T T',.val<|.tup<|zO (off (dH w wd) (dq w wd') m) λe=>(-(p9 (dH w wd) (dq w wd') J m e))%p,.no,.no]=cz (.ret r)):wu [jE p m w wd T,jE p m w wd' T',.lst (jH m w wd wd' J)]=cz r:=by
 have h:=je;have O:=y.pos;have l:=y.le;have b:=VO (w:=w) (T:=T) O () I z U Y () ();have g:vB [.lst (jH m w wd wd' J)]=_:=K4 ();generalize off wd wd' (m+1)=N at *;generalize off _ _ m=A at *;have Q:A<=lim:=()
 have f:zQ (.nm 0) jB (ud<|zf 0) [Cell.no] (zO A<|p9 (dH w wd) (dq w wd') J m)=cz (zO A λe=> -(p9 (dH w wd) (dq w wd') J m e)):=by exact zu _ _ λe _=>zv rfl rfl rfl
 have a:=QJ .L (λe=> -(p9 (dH w wd) (dq w wd') J m e)) O Q;simp only[oI]at a;refine zU ?_;show zV _ (zV _<|zV _<|zV _<|zV _ DF) _=_;simp[jf,jd,Tq,(MX (p:=p) (w:=w) (wd:=wd) (wd':=wd') (T:=T) (T':=T') (J:=J) I),B,xP p m w wd T,hO,b,mi,g,qc,yo,Q,jq,f,a];exact Z
theorem zei(O:Pr p)(U:m<=4)(B:∀k,wd k<=9)(Y:∀k,wd' k<=9)(E:∀k i j,0<=T' k i j/\T' k i j<p)(Z:off wd wd' (m+1)<=190)(z:off (dH w wd) (dq w wd') m<=190)(P:jJ [jE p m w wd T,jE p m w wd' T']=cz (.val d))
 (H:sD p m w wd wd' T T' J S):
 ∃X,(∀k i j,0<=X k i j/\X k i j<p)/\sD p m w wd wd' T T' J X/\wu [jE p m w wd T,jE p m w wd' T',.lst (jH m w wd wd' J)]=cz (.val (.tup [.str "parted",.lst (nf (m+1) wd wd' X)])):=by
 have u:=je;have o:=O.pos;have C:=O.le;refine Tf λh=>?_;obtain⟨x,r,b,g⟩:=Y8 O z Z _ (λe=>(-(p9 _ _ J m e))%p) (p9 wd wd' S<|m+1) (λe _=>(Uq _ (),Ub _ o)) λe f=>by obtain⟨k,i,j,y,a,I,rfl⟩:=uM m e f;rw[ZA _ y a I,wD a I m y];rw[FO (λt Q=>by unfold KH;exact wD (by rw[jt w wd];exact a) (by rw[jt w wd'];exact Q) (m+1)<|v9 (w:=w) y) λt Q=>by unfold KH;exact wD (by rw[jw w wd];exact Q) (by rw[jw w wd'];exact I) (m+1) (wc (w:=w) y)];exact H k i j y a I
 refine h ?_;have s:=wV (n:=m+1) (hs:=wd) (ws:=wd') () (λk=>by have:=B k;lia) (λk=>by have:=Y k;lia) x rfl;refine(KH wd wd' x,λk i j=>b _,λk i j y a I=>?_,?_)
 .have:=g _ (aM y a I)
  rw[ZA _ y a I,wD a I m y]at this;exact this
 refine YE O U B Y E Z z P ?_;generalize off wd wd' (m+1)=N at *;generalize off _ _ m=A at *;have l:2<=lim:=()
 simp[DF,jf,r,mi,(vM (p:=p) (w:=w) (wd:=wd) (wd':=wd') (T:=T) (T':=T') U),um,s,l];rfl
end
def Zl(wd:DK)(b:fh):List D:=(Tn b.n).map λi=>D.tup<|zO (wd<|b.s+i)<|b.v<|b.s+i
def xN(wd:DK)(b:fh):D:=.tup [.int b.s,.tup (Zl wd b)]
@[simp] theorem iX(wd b):(Zl wd b).length=b.n:=by simp[Zl]
theorem fz(h:i<b.n):(Zl wd b)[i]? = cz (.tup<|zO (wd<|b.s+i)<|b.v<|b.s+i):=by simp[Zl,h]
@[simp] theorem zgV(wd b):jI (xN wd b)=cz (.T,[.int b.s,.tup (Zl wd b)]):=rfl
section
variable{wd:DK}
theorem Yc(y:1<=b.n)(I:b.s+b.n<=100):qk [xN wd b]=cz (.val<|.tup [.int b.s,.int ((b.s+b.n-1:Nat))]):=by simp[qk,jA,jd,xN,Tq];omega
theorem v7(I:b.s+b.n<=100)(r:Nat):qf [xN wd b,.int r]=cz (.val<|.bl<|b.has r):=by
 by_cases h:b.s<=r
 .by_cases y:r<b.s+b.n
  .have:r<(b.s:Int)+b.n:=()
   simp[qf,jA,jd,xN,Tq,fh.has,h,y,this]
  .have:¬(r<(b.s:Int)+b.n):=()
   simp[qf,jA,jd,xN,Tq,fh.has,h,y,this]
 .simp[qf,jA,jd,xN,Tq,fh.has,h]
theorem ZX{N:Nat}{A:Nat->fh}(I:∀j,j<N->(A j).s+(A j).n<=100)(O:N<=lim)(r:Nat):
 xI [.lst ((Tn N).map λj=>xN wd<|A j),.int r]=cz (.own<|((Tn N).filter λj=>(A j).has r).map λj=>D.tup<|zO (wd r)<|(A j).v r):=by
 simp[xI,jA,jd,Tq,NA,Ja,jI,O];rw[jD _ _ _ λj Q=>(_,rfl,?_,λU=>?_)]
 .rfl
 .simp[jq,(v7 (wd:=wd) (I j<|Tp.mp Q) r)]
 .obtain⟨Y,Z⟩:=i4.mp U
  obtain⟨i,rfl⟩:=Nb Y;have a:i<(A j).n:=()
  have y:=fz (wd:=wd) a;simp[jq,xN,a,y];rw[show _-_=(i:Int)by lia,qL,DZ a];exact y
theorem QI(g:Nat->Vc)(y:q<=lim)(I:h<=lim):yM [.int h,.lst (z7 q h g)]=cz (.val<|jZ h q λi j=>g j i):=by have e:=kX g y I;unfold jZ at e;simp[yM,jA,jd,Tq,y,e];rfl
theorem fv(h:Nat)(u:Nat->Vc)(L:List Nat):(L.map λj=>D.tup<|zO h<|u j)=z7 L.length h λi=>u (L.getD i 0):=by
 unfold z7
 conv=>lhs;rw[<-jv 0 L]
 rw[Uu];rfl
theorem An(u:Nat->Int)(L:List Nat):(L.map λj=>D.int<|u j)=zO L.length λi=>u (L.getD i 0):=by
 unfold zO
 conv=>lhs;rw[<-jv 0 L]
 rw[Uu];rfl
theorem Zt(P:DV)(g:Nat->Int):∀N,zg (λi=>g<|((Tn N).filter P).getD i 0) ((Tn N).filter P).length=zg (λj=>if P j=cC then g j else 0) N
 |0=>rfl
 | N+1=>by
  rw[tu,M9];show _=zg _ N+_;rw[<-(Zt P g N)];cases hP:P N with
  |false=>simp[hP]
  | true=>
   have e:([N].filter P)=[N]:=by simp[hP]
   simp only[e,UD,C9];show zg _ _+_=_;simp only[if_true];congr 1
   .refine zh λi a=>?_
    simp[Tr,ve a]
   .simp[Tr,hP]
end
section
variable{wd:DK}{N m:Nat}{A:Nat->fh}{p:Int}{w:DV}{T:DQ}{t:Vc}
theorem zeN:wC (zO N t) ((Tn N).map λj=>xN wd<|A j)=(Tn N).map λj=>D.tup [.int (t j),xN wd (A j)]:=by
 unfold wC zO;rw[List.zip_map,Uu];have e:(Tn N).zip (Tn N)=(Tn N).map λi=>(i,i):=by rw[List.zip_eq_zipWith,List.zipWith_self]
 simp only[e,Uu];rfl
theorem VB(O:Pr p)(Q:∀j,j<N->(A j).s+(A j).n<=100)(z:N<=60)(B:m<=5)(Y:∀k,wd k<=60)(E:r<=m)(Z:∀j i,j<N->(A j).has r=cC->i<wd r->0<=(A j).v r i/\(A j).v r i<p):
 vd [jE p m w wd T,.lst<|(Tn N).map λj=>xN wd<|A j,.tup<|zO N t,.int r]=cz (.val<|.tup<|zO (wd r)<|n9 p A N t r):=by
 have u:=je;have x:=O.le;have o:=Y r;have a:=ZX (wd:=wd) Q () r;have l:=λi=>Zt (λj=>(A j).has r) (λj=>(A j).v r i*t j) N;have e:∀j∈(Tn N).filter (λj=>(A j).has r),j<N/\_:=λj h=>by simpa using h
 have g:=Nf (λj=>(A j).has r)<|Tn N;have U:zQ (.tp [0,1]) (sB<|zC qf<|zb (zf 1)<|zb (zf 2) zD) (zf 0) [.no,.no,vI r] ((Tn N).map λj=>D.tup [.int (t j),xN wd (A j)])=_:=jD (λj=>(A j).has r) _ _ λj y=>(_,rfl,by simp[v7 (Q j<|Tp.mp y) r],λ_=>rfl);rw[fv (wd r) _]at a;rw[An]at U;generalize (Tn N).filter _=F at *;rw[UM]at g;have I:=Xm (h:=wd r) (w:=F.length) .L (λi j=>(A<|F.getD j 0).v r i) (λi=>t<|F.getD i 0) O.pos () () λi j f y=>by obtain⟨b,d⟩:=e (F.getD j 0) (by simp[y]);have:=Z _ i b d f;lia
 rw[show(λi=>_%p)=n9 p A N t r from funext λi=>by rw[l];unfold n9;congr 1;exact zh λj _=>by rw[UC]]at I
 simp only[oI]at I;exact zU (by simp[-Tr,jf,jd,jq,Tq,zeN,U,show N<=lim by lia,jE,a,QI (q:=F.length) (h:=wd r) _ () (),I,show r<m+1 by lia])
theorem Al(Q:Pr p)(I:∀j,j<N->(A j).s+(A j).n<=m+1)(U:N<=60)(Y:m<=5)(Z:∀k,wd k<=60)(B:∀j r i,j<N->(A j).has r=cC->i<wd r->0<=(A j).v r i/\(A j).v r i<p)(z:a<N)(E:∀i,i<a->t i=0)(H:t a≠0):
 V3 [jE p m w wd T,.lst<|(Tn N).map λj=>xN wd<|A j,.tup (zO N t)]=cz (.val<|xN wd<|IC p A N t a):=by
 have u:=je;have o:=I a z;have b:zQ (.nm 0) jB (zC vd<|zb (zf 1)<|zb (zf 2)<|zb (zf 3)<|zb (zM j6 (cI (zm 4)<|sI 0)<|zf 0) zD) [.no,.val<|jE p m w wd T,.val<|.lst<|(Tn N).map λj=>xN wd<|A j,.val<|.tup<|zO N t,.val (xN wd<|A a)] ((Tn (A a).n).map λ(i:Nat)=>D.int i)=cz (Zl wd<|IC p A N t a):=by
  unfold Zl;refine zu _ _ λi d=>zv rfl rfl ?_;have d:=Tp.mp d;have e:=VB (T:=T) (w:=w) (t:=t) Q (λj y=>by have:=I j y;lia) U Y Z (r:=(A a).s+i) () λj c y h g=>B j _ c y h g;have f:(((A a).s+i:Nat))=((A a).s)+(i:Int):=()
  rw[f]at e;simp[e];rfl
 have O:(A a).n<=lim:=()
 have l:inR ((A a).n)=cC:=decide_eq_true ();rw[show((Tn (A a).n).map _)=zO (A a).n λi=>i from rfl]at b;refine zU ?_;simp[jf,jd,Tq,Zr () t z E H,z,jq,qh,l,O,b,iX,O];rfl
end
section
variable{wd:DK}{N m k r:Nat}{A:Nat->fh}
theorem fO(l:DK)(g:Nat->D)(i:Nat):∀(L:List Nat),fP (L.map λj=>D.int<|(l j:Nat)) (L.map g) i=(L.find? λj=>l j==i).map g
 |[]=>rfl
 | j::L=>by
  simp only[UL,fP,y0];by_cases h:l j=i
  .simp[h]
  .rw[DJ (),(fO l g i L)]
   have:(l j==i)=cL:=by simpa using h
   rw[this]
theorem W7(l:DK):∀L:List Nat,Kg (L.map λj=>D.int<|(l j:Nat))=cz (L.map λj=>((l j):Int))
 |[]=>rfl
 |j::L=>by simp[Kg,W7 l L]
theorem lb(y:fm p N r B l)(I:r<=lim):AX ((Tn r).map λj=>D.int<|(l j:Nat)) ((Tn r).map λj=>D.tup<|zO N<|B j)=cz (.mc ((Tn r).map λj=>D.int<|(l j:Nat))<|(Tn r).map λj=>D.tup<|zO N<|B j):=by unfold AX;rw[W7];dsimp only;rw[DZ];refine(by simp,?_,by simpa using I);rw[List.nodup_iff_pairwise_ne,M3];refine Q_ (λ{a b} d O h=>?_) Rg;have:=y.mono a b h<|Tp.mp O;lia
theorem Wc(f g:Nat->D):∀L:List Nat,vi (L.map λj=>D.tup [f j,g j])=cz (L.map f,L.map g)
 |[]=>rfl
 |j::L=>by simp[vi,Wc f g L]
theorem aN(h:k<(xn m w wd T).length):(xn m w wd T)[k]=ZH w wd T k:=by simp[xn]
theorem Kv(w wd T k):jI (ZH w wd T k)=cz (.T,[.str (Je<|jc<|w k),jZ (dH w wd k) (dq w wd k) (T k)]):=rfl
theorem cP:kQ ((Tn N).map λj=>xN wd<|A j)=(Tn N).map λ(i:Nat)=>D.tup [.int i,xN wd (A i)]:=by
 unfold kQ
 simp_all
def Hk(p:Int)(w:DV)(wd:DK)(T:DQ)(k:Nat)(u:Vc):Prop:=if w k=cC then Span p (wd k) (d6 (wd<|k+1) λj i=>T k i j) u else A9 p (wd<|k+1) (wd k) (T k) u
theorem gZ(O:Pr p)(Q:∀k,wd k<=16)(w)(T)(k:Nat):∃q g,q<=100/\(∀u,Span p (wd k) (d6 q g) u↔Hk p w wd T k u)/\
 (if w k=cC then QK [.int p,jZ (dH w wd k) (dq w wd k) (T k)]=cz (.own<|z7 q (wd k) g)else wt [.int p,jZ (dH w wd k) (dq w wd k) (T k)]=cz (.own<|z7 q (wd k) g)):=by
 have i:=je;have U:=Q k;have f:=Q<|k+1;have Z:∀{r n:Nat} {B:Nat->Vc} {l:DK},fm p n r B l->r<=n:=λ{r n B l} y=>by
  have mono:∀k,k<r->k<=l k:=by
   intro k
   induction k with
   |zero=>lia
   |succ k d=>intro U;have:=d ();have:=y.mono k (k+1) () U;lia
  cases r with
  |zero=>lia
  |succ Y=>have:=mono Y ();have:=y.lt Y ();lia
 cases hw:w k with
 |true=>
  have a:dH w wd k=wd k:=by unfold dH;rw[hw];rfl
  have I:dq w wd k=wd (k+1):=by unfold dq;rw[hw];rfl
  obtain⟨r,B,l,e,y,b⟩:=YQ O (h:=wd k) (w:=wd<|k+1) () ()<|T k;refine(r,B,by have:=Z y;lia,λu=>by unfold Hk;rw[hw,DZ rfl];exact b u,?_);rw[DZ rfl,a,I];exact e
 |false=>
  have a:dH w wd k=wd (k+1):=by unfold dH;rw[hw];rfl
  have I:dq w wd k=wd k:=by unfold dq;rw[hw];rfl
  obtain⟨q,K,l,s,e,y,b,_⟩:=wq O (h:=wd<|k+1) (w:=wd k) () ()<|T k;refine(q,K,(),λu=>by unfold Hk;rw[hw,DJ ()];exact b u,?_);rw[DJ (),a,I];exact e
theorem ic(U:Pr p)(Z:∀j,j<N->(A j).s+(A j).n<=m+1)(P:∀j,j<N->(A j).has k=cC)(z:k<m)(hN:N<=16)(R:m<=5)(Y:∀k,wd k<=16)(S:∀j r i,j<N->(A j).has r=cC->i<wd r->0<=(A j).v r i/\(A j).v r i<p):
 ∃r B l,fm p N r B l/\(∀t,Span p N (d6 r B) t↔Hk p w wd T k (app (λi j=>(A j).v k i) N t))/\
  KB [jE p m w wd T,.int k,.lst ((Tn N).map λj=>xN wd<|A j)]=cz (.own<|(Tn N).map λi=>xN wd<|h8 p A N r B l i):=by
 have hl:=je;refine Tf λW=>?_;obtain⟨q,g,K,ad,d⟩:=gZ U Y w T k;have X:=Y k;obtain⟨r,B,l,G,y,M⟩:=JO U (h:=wd k) (w:=N) () () K _ g;refine W ?_;refine(r,B,l,y,λt=>(M t).trans (ad _),?_);have Q:N<=lim:=()
 have C:k<m+1:=()
 have zhF:=X3 y.mono y.lt;have f:r<=lim:=()
 have o:=ZX (wd:=wd) (A:=A) (λj I=>by have:=Z j I;lia) Q k;rw[(List.filter_eq_self.mpr λj I=>P j<|Tp.mp I)]at o;have E:xI [.lst ((Tn N).map λj=>xN wd<|A j),.int k]=cz (.own<|z7 N (wd k) λj=>(A j).v k):=o;have H:zQ (.nm 0) jB (qv<|zb (zC kc<|zb (zf 0) zD)<|zb (zf 0) zD) [.no] (z7 r N B)=cz ((Tn r).map λj=>D.tup [.int ((l j:Nat)),.tup (zO N<|B j)]):=by unfold z7;refine zu _ _ λj I=>zv rfl rfl ?_;have I:=Tp.mp I;simp[(Zr Q (B j) (y.lt j I) (λi a=>y.kr j i I a)<|by rw[y.one j I];decide)]
 let b:D:=.mc ((Tn r).map λj=>D.int<|(l j:Nat)) ((Tn r).map λj=>D.tup<|zO N<|B j);let L:D:=.lst ((Tn N).map λj=>xN wd<|A j);have u:zQ (.tp [0,1]) jB (ig (sB<|Iu (zf 0)<|zf 4) (zC V3<|zb (zf 2)<|zb (zf 3)<|zb (Nq (zf 4)<|zf 0) zD)<|zf 1) [.no,.no,.val<|jE p m w wd T,.val L,.val b] ((Tn N).map λ(i:Nat)=>D.tup [.int i,xN wd (A i)])=cz ((Tn N).map λi=>xN wd<|h8 p A N r B l i):=by
  refine zu _ _ λi a=>zv rfl rfl ?_;have a:=Tp.mp a;have O:=fO l (λj=>D.tup<|zO N<|B j) i<|Tn r;have F:(Tn r).find? (λj=>l j==i)=l5 r l i:=rfl;rw[F]at O;unfold h8;cases hx:l5 r l i with
  |none=>
   rw[hx]at O;simp[b,Iu,O]
  |some j=>
   rw[hx]at O;obtain⟨x,J⟩:=kF hx;have e:=Al (T:=T) (w:=w) U Z () R (λk=>by have:=Y k;lia) S a (λc hc=>y.kr j c x ()) (by rw[<-J,y.one j x];decide);simp[b,Iu,Nq,O,L,e]
 dsimp only[L,b]at u;have eq:=rC<|w k;refine zU ?_;cases hw:w k<;>simp[hw]at d eq<;>simp[jf,jd,Tq,ZJ,Kv,aN,z,hw,eq,d,C,E,QI (h:=wd k) (λj=>(A j).v k) Q (),G,jq,H,f,Wc (λj=>D.int<|(l j:Nat)) (λj=>D.tup<|zO N<|B j)<|Tn r,lb y f,cP,Q,u]
end
def oD(n:Nat):Option Vc->D
 |none=>.d7
 |some y=>.tup (zO n y)
theorem ia(Q:Pr p)(U:h<=190)(E:w<=190)(f:DW)(b:Vc)(O:∀i,i<h->0<=b i/\b i<p):
 ∃o,yk [.int p,jZ h w f,.tup (zO h b)]=cz (.val<|oD w o)/\(∀x,o=cz x->(∀j,0<=x j/\x j<p)/\∀i,i<h->app f w x i%p=b i%p)/\(o=none->¬∃y,∀i,i<h->app f w y i%p=b i%p):=by
 have Y:=λi a=>UG (O i a).1 (O i a).2;by_cases I:∃y,∀i,i<h->app f w y i%p=b i%p
 .obtain⟨y,I⟩:=I
  obtain⟨x,e,F,G⟩:=Y8 Q U E f b y O λi a=>by rw[<-Y i a,<-I i a];rfl
  refine(cz x,e,λP A=>?_,λz=>by cases z);cases A;exact(F,λi a=>by rw[Y i a];exact G i a)
 .refine Tf λJ=>?_;obtain⟨r,B,l,s,H,n,M,m,N,Z⟩:=Jb Q U E f b
  refine J ?_;rw[DZ (by
   refine Tf λK=>I ?_;have C:s=r:=()
   subst C;refine(bh w B l s,λi a=>?_);have d:=JD H ((n _).mpr (.gen (i,a,rfl))) w ();have t:aug w f b i w=b i:=by simp[aug]
   rw[t]at d;rw[d];congr 1;unfold app bh;rw[zh λj _=>(zT _ _ _).symm,jS];refine zh λk g=>?_;rw[zG (m k g) λj L u=>by rw[DJ (Ue u)];simp,DZ rfl];simp only[aug,DZ (m k g)])]at Z
  exact(none,Z,nofun,λ_=>I)
section
theorem Ko(b:Bool):gB (.str (Je (jc b))) (.str "l")=cz (.bl b):=by cases b<;>kernel_rfl
theorem WT(I:Pr p)(Z:∀k,wd k<=16)(z:∀i j,i<dH w wd k->j<dq w wd k->0<=T k i j/\T k i j<p)(u:Vc)(B:∀i,i<wd k->0<=u i/\u i<p):
 ∃o,yK [.int p,ZH w wd T k,.tup (zO (wd k) u)]=cz (.val<|oD (wd<|k+1) o)/\(∀y,o=cz y->∀c,c<wd (k+1)->0<=y c/\y c<p)/\
  (w k=cL->(o=none->∀c,c<wd (k+1)->app (T k) (wd k) u c%p=0)/\∀y,o=cz y->(∀c,c<wd (k+1)->app (T k) (wd k) u c%p=y c%p)/\∃c,c<wd (k+1)/\y c%p≠0)/\
  (w k=cC->(o=none->¬∃y,∀c,c<wd k->app (T k) (wd<|k+1) y c%p=u c%p)/\∀y,o=cz y->∀c,c<wd k->app (T k) (wd<|k+1) y c%p=u c%p):=by
 have r:=je;have s:=I.le;have n:=Z k;have m:=Z<|k+1;cases hw:w k with
 |true=>
  have a:dH w wd k=wd k:=by unfold dH;rw[hw];rfl
  have O:dq w wd k=wd (k+1):=by unfold dq;rw[hw];rfl
  obtain⟨o,d,Q,U⟩:=ia I (w:=wd<|k+1) () () (T k) u B;exact(o,zU (by simp[jf,jd,Tq,Kv,hw,Ko cC,a,O,d]),λy e c _=>(Q y e).1 c,nofun,λ_=>(U,λy e=>(Q y e).2))
 | false=>
  have a:dH w wd k=wd (k+1):=by unfold dH;rw[hw];rfl
  have O:dq w wd k=wd k:=by unfold dq;rw[hw];rfl
  rw[a,O]at z;let V:=λi=>zg (λj=>T k i j*u j) (wd k)%p;have Y:=Xm (h:=wd<|k+1) (w:=wd k) .T (T k) u I.pos () () λi j g l=>by have:=z i j g l;lia
  simp only[oI]at Y;have b:=dJ V<|wd<|k+1;cases hb:(Tn<|wd<|k+1).any λi=>V i != 0 with
  |true=>
   obtain⟨c,Q,U⟩:=R3.mp hb;exact(cz V,zU (by simp[jf,jd,Tq,Kv,hw,Ko cL,a,O,Y,Hm,b,List.any_map,R8,hb,V,oD]),(λy e c _=>by cases e;exact(Uq _ (by have:=I.pos;lia),Ub _ I.pos)),λ_=>(nofun,(λy e=>by cases e;exact((λc _=>by simp only[V,Us];rfl),c,Tp.mp Q,by simpa[V]using U))),nofun)
  |false=>
   exact(none,zU (by simp[jf,jd,Tq,Kv,hw,Ko cL,a,O,Y,Hm,b,List.any_map,R8,hb,V,oD]),nofun,λ_=>((λ_ c f=>by simpa[V,app]using (X_.mp hb c<|Tp.mpr f)),nofun),nofun)
end
section
theorem AC(h:1<=n):hO n (-1)=cz (n-1):=by
 unfold hO
 grind
theorem zd9(I:b.s+b.n=k+1)(y:Vc):Zl wd (lK k b<|some y)=Zl wd b++[D.tup (zO (wd<|k+1) y)]:=by
 unfold Zl lK;dsimp only;simp only[tu,UB];congr 1
 .refine Ug λi a=>?_
  have a:=Tp.mp a;rw[DJ ()]
 .simp[I]
theorem ze5(O:1<=b.n)(Q:b.s+b.n=k+1)(Z:k<=20)(e:yK [.int p,ZH w wd T k,.tup (zO (wd k)<|b.v k)]=cz (.val<|oD (wd<|k+1) o)):
 vC [.int p,ZH w wd T k,xN wd b]=cz (.val<|xN wd<|lK k b o):=by
 have f:=je;have I:=fz (wd:=wd) (b:=b) (i:=b.n-1) ();rw[show b.s+(b.n-1)=k by lia]at I;rw[vC];refine zU<|zy (γ':=[vI p,.val<|ZH w wd T k,.val<|xN wd b,.val (oD (wd<|k+1) o)]) ?_ ?_
 .unfold B_
  have a:cI (zH<|cI (zm 2)<|sI 1) (ud<|sI 1) (jd 4 [.int p,ZH w wd T k,xN wd b])=cz (.tup<|zO (wd k)<|b.v k):=by have U:∀d,ud (sI 1) d=cz _:=λ_=>rfl;simp[jd,Tq,AC O,U];exact I
  simp only[ZO,vh,jQ,vz,a];simp[jd,Tq,e]
 .cases o with
  |none=>rfl
  |some y=>
   have Y:b.n+1<=lim:=()
   simp[C',oD,MK,Y,j6];unfold xN;rw[(zd9 (wd:=wd) Q y)];rfl
def sC(p:Int)(w:DV)(wd:DK)(T:DQ)(k:Nat)(L:List Vc):Prop:=
 if w k=cC then ∃q K l s,L=(Tn q).map K/\fm p (wd<|k+1) q K l/\(∀v,Span p (wd<|k+1) (d6 q K) v↔A9 p (wd k) (wd<|k+1) (T k) v)/\Rk p (wd k) (wd<|k+1) (λj i=>T k i j) s/\q+s=wd (k+1)
 else ∃r B l,fm p (wd<|k+1) r B l/\(∀v,Span p (wd<|k+1) (d6 r B) v↔Span p (wd<|k+1) (d6 (wd k) λj i=>T k i j) v)/\L=((Tn<|wd<|k+1).filter λ(c:Nat)=> !decide ((c:Int)∈(Tn r).map λj=>((l j:Nat):Int))).map jU
theorem YA(l:DK):∀L:List Nat,lr (L.map λj=>D.int<|(l j:Nat))=cz (L.map λj=>((l j):Int))
 |[]=>rfl
 |j::L=>by simp[lr,YA l L]
theorem XM(y:fm p n r B l):r<=n:=by
 have mono:∀k,k<r->k<=l k:=by
  intro k
  induction k with
  |zero=>lia
  |succ k O=>intro Q;have:=O ();have:=y.mono k (k+1) () Q;lia
 cases r with
 |zero=>lia
 |succ I=>have:=mono I ();have:=y.lt I ();lia
theorem zej(n:Nat):kQ (z7 n n λi j=>if i=j then 1 else 0)=(Tn n).map λ(i:Nat)=>D.tup [.int i,.tup (zO n<|jU i)]:=by unfold kQ z7;simp only[Ua,UM];refine Ug λi a=>?_;simp[(Tp.mp a)];rfl
theorem WU(Y:Pr p)(Z:∀k,wd k<=16):∃L,sC p w wd T k L/\Jc [.int p,ZH w wd T k]=cz (.own<|L.map λy=>D.tup<|zO (wd<|k+1) y):=by
 have z:=je;have x:=Z k;have t:=Z<|k+1;unfold sC;cases hw:w k with
 |true=>
  have a:dH w wd k=wd k:=by unfold dH;rw[hw];rfl
  have Q:dq w wd k=wd (k+1):=by unfold dq;rw[hw];rfl
  obtain⟨q,K,l,s,e,I,b,o,f⟩:=wq Y (h:=wd k) (w:=wd<|k+1) () ()<|T k;exact(_,by rw[DZ rfl];exact(q,K,l,s,rfl,I,b,o,f),zU<|by simp[jf,jd,Tq,Kv,hw,Ko cC,a,Q,e,z7])
 | false=>
  have a:dH w wd k=wd (k+1):=by unfold dH;rw[hw];rfl
  have Q:dq w wd k=wd k:=by unfold dq;rw[hw];rfl
  obtain⟨r,B,l,e,I,b⟩:=YQ Y (h:=wd<|k+1) (w:=wd k) () ()<|T k;have A:=XM I;have g:r<=lim:=()
  have U:wd (k+1)<=lim:=()
  refine(_,by rw[DJ ()];exact(r,B,l,I,b,rfl),?_);have m:zQ (.nm 0) jB (zC kc<|zb (zf 0) zD) [.no] (z7 r (wd<|k+1) B)=cz ((Tn r).map λj=>D.int<|(l j:Nat)):=by unfold z7;refine zu _ _ λj O=>zv rfl rfl ?_;have O:=Tp.mp O;simp[(Zr U (B j) (I.lt j O) (λi d=>I.kr j i O d)<|by rw[I.one j O];decide)]
  have u:zQ (.tp [0,1]) (sB<|bB (zf 0)<|zm 2) (zf 1) [.no,.no,.val (.lst<|(Tn r).map λj=>D.int<|(l j:Nat))] ((Tn<|wd<|k+1).map λ(i:Nat)=>D.tup [.int i,.tup (zO (wd<|k+1)<|jU i)]) =
   cz (((Tn<|wd<|k+1).filter λ(c:Nat)=> !decide ((c:Int)∈(Tn r).map λj=>((l j):Int))).map λi=>D.tup<|zO (wd<|k+1)<|jU i):=by
   refine jD _ _ _ λi d=>(_,rfl,?_,λ_=>rfl);show((lr _).map _).bind uO=_;rw[(YA l _)];rfl
  have n:=yG U;refine zU ?_;simp[jf,jd,Tq,Kv,hw,Ko cL,jq,a,Q,e,g,m,mU,n,zej,U]
  simp_all
end
section
variable{wd:DK}{k r N:Nat}{p:Int}{w:DV}{T:DQ}{B:Nat->Vc}{l:DK}{A:Nat->fh}
theorem Co(I:fm p N r B l)(y:j<r):l5 r l (l j)=cz j:=by
 cases h:l5 r l (l j)with
 |none=>exact absurd rfl<|Xa h j y
 |some i=>
  obtain⟨O,Q⟩:=kF h;rw[fi I.mono O y Q]
theorem cp{a b:List Nat}(j:a.Nodup)(y:b.Nodup)(h:∀x,x∈a↔x∈b):a.length=b.length:=((List.perm_ext_iff_of_nodup j y).mpr h).length_eq
theorem VW(I:fm p N r B l):(Tn N).countP (λi=>(l5 r l i).isSome)=r:=by
 rw[De];have e:((Tn N).filter λi=>(l5 r l i).isSome).length=((Tn r).map l).length:=by
  refine cp (E2.sublist R7) ?_ λx=>?_
  .rw[List.nodup_iff_pairwise_ne,M3]
   refine Q_ (λ{a b} d Q h=>?_) Rg;have:=I.mono a b h<|Tp.mp Q;lia
  .rw[UA,Uz]
   constructor
   .rintro⟨y,O⟩
    obtain⟨j,U⟩:=D6.mp O;obtain⟨Y,Z⟩:=kF U;exact(j,Tp.mpr Y,Z)
   .rintro⟨j,y,O⟩
    have y:=Tp.mp y;subst O;exact(Tp.mpr<|I.lt j y,by rw[Co I y];rfl)
 rw[e];simp
theorem rR(q:DV)(N:Nat):(Tn N).countP q+(Tn N).countP (λi=> !q i)=N:=by
 have:=zdG q (l:=Tn N);rw[UM]at this;rw[this];congr 1
 .rw[<-this]
 .rw[<-this]
  exact u7 λi _=>by simp
theorem OW(y:∀j,j<N->(A j).has k=cC)(t:Vc)(c:Nat):n9 p A N t k c%p=app (λi j=>(A j).v k i) N t c%p:=by unfold n9 app;rw[Us];congr 1;exact zh λj I=>by rw[DZ (y j I),UC]
theorem JW(y:∀j,j<N->(A j).has k=cC)(h:l5 r l i=cz j)(c:Nat):(h8 p A N r B l i).v k c%p=app (λi j=>(A j).v k i) N (B j) c%p:=by unfold h8;rw[h];exact OW y (B j) c
theorem Y5(h:l5 r l i=none):h8 p A N r B l i=A i:=by unfold h8;rw[h]
theorem lz(hp:Pr p)(P:∀k,wd k<=16)(R:∀j,j<wd k->(A j).has k=cC)(hs:∀v:Vc,∃t,∀i,i<wd k->v i%p=app (λi j=>(A j).v k i) (wd k) t i%p)
 (H:fm p (wd k) r B l) (hW:∀t,Span p (wd k) (d6 r B) t↔Hk p w wd T k (app (λi j=>(A j).v k i) (wd k) t)) {E:List Vc} (U:sC p w wd T k E) {nx:Nat->Option Vc}
 (hr:∀i,i<wd k->w k=cL->(nx i=none->∀c,c<wd (k+1)->app (T k) (wd k) ((h8 p A (wd k) r B l i).v k) c%p=0)/\∀y,nx i=cz y->(∀c,c<wd (k+1)->app (T k) (wd k) ((h8 p A (wd k) r B l i).v k) c%p=y c%p)/\∃c,c<wd (k+1)/\y c%p≠0)
 (S:∀i,i<wd k->w k=cC->(nx i=none->¬∃y,∀c,c<wd k->app (T k) (wd<|k+1) y c%p=(h8 p A (wd k) r B l i).v k c%p)/\∀y,nx i=cz y->∀c,c<wd k->app (T k) (wd<|k+1) y c%p=(h8 p A (wd k) r B l i).v k c%p):
 (∀y,y∈E->∀c,c<wd (k+1)->0<=y c/\y c<p)/\(∀y,y∈E->w k=cC->∀c,c<wd k->app (T k) (wd<|k+1) y c%p=0)/\
   (∀v,Span p (wd<|k+1) (λg=>(∃i,i<wd k/\nx i=cz g)\/g∈E) v)/\(Tn<|wd k).countP (λi=>(nx i).isSome)+E.length=wd (k+1):=by
 have two:=hp.two;cases hw:w k with
 | false=>
  have o:=λt=>by have:=hW t;unfold Hk at this;rw[hw,DJ ()]at this;exact this
  unfold sC at U;rw[hw,DJ ()]at U;obtain⟨n,B2,m,G,hI,Y⟩:=U;obtain⟨g1,g2,g3,F⟩:=Ie hp (P k) (P<|k+1) hs H o G hI;have b1 c:c<wd (k+1)->(∀j,j<n->m j≠c)->jU c∈E:=λQ U=>by rw[Y];refine Uz.mpr (c,UA.mpr (Tp.mpr Q,?_),rfl);simp only[F6,decide_eq_false_iff_not,Uz,Tp];rintro⟨j,Z,h⟩;exact U j Z ()
  have on i:i<wd k->(nx i).isSome=(l5 r l i).isNone:=λb=>by
   cases O:l5 r l i with
   | none=>
    obtain⟨c,Z,h⟩:=g2 i b<|Xa O;cases I:nx i with
    |some y=>rfl
    |none=>
     have:=(hr i b hw).1 I c Z;rw[Y5 O]at this;exact absurd this h
   | some j=>
    obtain⟨Z,h⟩:=kF O;cases I:nx i with
    |none=>rfl
    |some y=>
     obtain⟨e,c,J,h4⟩:=(hr i b hw).2 y I;have z:=g1 j Z c J;rw[<-jW (λa _=>JW R O a) c,e c J]at z;exact absurd z h4
  refine(λy I c Q=>?_,(λy I z=>by cases z),(F _ (λc Q u=>?_)<|λc Q u=>.gen (.inr<|b1 c Q u)),?_)
  .rw[Y]at I
   obtain⟨i,_,rfl⟩:=Uz.mp I;unfold jU;lia
  .have O:l5 r l c=none:=by
    cases O:l5 r l c with
    |none=>rfl
    |some j=>exact absurd (kF O).2 (u j (kF O).1)
   have f:=on c Q;rw[O]at f;obtain⟨y,I⟩:=D6.mp f;refine(Span.gen<|.inl (c,Q,I)).congr λi b=>?_;have:=((hr c Q hw).2 y I).1 i b;rw[Y5 O]at this;exact this
  .have C:(Tn<|wd k).countP (λi=>(nx i).isSome)=(Tn<|wd k).countP λi=> !(l5 r l i).isSome:=u7 λi b=>by
    rw[on i (Tp.mp b)];cases l5 r l i<;>simp
   have X:=rR (λi=>(l5 r l i).isSome)<|wd k;rw[VW H]at X;have e3:=rR (λi=>(l5 n m i).isSome)<|wd<|k+1;rw[VW G]at e3;have e4:E.length=(Tn<|wd<|k+1).countP λi=> !(l5 n m i).isSome:=by
    rw[Y,Ua,<-De];refine u7 λi b=>?_;cases O:l5 n m i with
    |none=>
     have:=Xa O
     grind
    |some j=>
     obtain⟨Z,h⟩:=kF O
     grind
   rw[C,e4];lia
 | true=>
  have o:=λt=>by have:=hW t;unfold Hk at this;rw[hw,DZ rfl]at this;exact this
  unfold sC at U;rw[hw,DZ rfl]at U;obtain⟨q,K,zhC,s,Y,L,as,M,N⟩:=U;obtain⟨g1,g2,g3,F⟩:=Ig hp (P k) (P<|k+1) hs H o as M N;have on i:i<wd k->(nx i).isSome=(l5 r l i).isSome:=λb=>by
   cases O:l5 r l i with
   | none=>
    cases I:nx i with
    |none=>rfl
    |some y=>
     have:=(S i b hw).2 y I;rw[Y5 O]at this;exact absurd (y,this)<|g2 i b<|Xa O
   | some j=>
    obtain⟨Z,h⟩:=kF O;cases I:nx i with
    |some y=>rfl
    |none=>
     obtain⟨y,W⟩:=g1 j Z;exact absurd (y,λc Q=>by rw[W c Q,JW R O c])<|(S i b hw).1 I
  refine(λy I c Q=>?_,λy I _ c Q=>?_,λv=>F _ (λj=>(nx<|l j).getD λ_=>0) (λj d=>?_) (λj d=>?_) v,?_)
  .rw[Y]at I
   obtain⟨j,d,rfl⟩:=Uz.mp I;exact L.i6 j c (Tp.mp d) Q
  .rw[Y]at I
   obtain⟨j,d,rfl⟩:=Uz.mp I;exact(as<|K j).mp (.gen (j,Tp.mp d,rfl)) c Q
  .have O:=Co H d
   have x:=H.lt j d;have f:=on (l j) x;rw[O]at f;obtain⟨y,I⟩:=D6.mp f;rw[I];refine(.gen<|.inl (l j,x,I),λc Q=>?_);have:=(S (l j) x hw).2 y I c Q;rw[JW R O c]at this;exact this
  .refine .gen (.inr ?_)
   rw[Y];exact Uz.mpr (j,Tp.mpr d,rfl)
  .have C:(Tn<|wd k).countP (λi=>(nx i).isSome)=(Tn<|wd k).countP λi=>(l5 r l i).isSome:=u7 λi b=>by
    rw[on i (Tp.mp b)]
   simp only[C,VW H,Y,Ua,UM];omega
end
section
theorem OV(y:Vc):xN wd (p5 k y)=.tup [.int (k+1),.tup [.tup (zO (wd<|k+1) y)]]:=by rfl
theorem AK(H:Pr p)(Q:∀k,wd k<=16)(hm:m<=5)(R:k<m)(hT:∀i j,i<dH w wd k->j<dq w wd k->0<=T k i j/\T k i j<p){E:List fh}(I:tG p w wd T k E)(S:E.length<=100):
 ∃P,tG p w wd T (k+1) P/\P.length<=E.length+wd (k+1)/\V4 [jE p m w wd T,.int k,.lst (E.map<|xN wd)]=cz (.val<|.lst<|P.map<|xN wd):=by
 have hl:=je;have J:=H.pos;have K:E.length<=lim:=()
 have s:(E.filter λb=>b.has k).length=wd k:=by rw[<-De];exact I.ct k<|Tv _
 let A:=λj=>(E.filter λb=>b.has k).getD j sN;have F:(E.filter λb=>b.has k)=(Tn<|wd k).map A:=by rw[<-s];exact(jv sN _).symm
 have G j:j<wd k->A j∈E/\(A j).has k=cC:=λO=>by
  have:A j∈E.filter λb=>b.has k:=by show(E.filter λb=>b.has k).getD j sN∈_;rw[Tr,To ()];exact uC _
  have:=UA.mp this;exact(this.1,by simpa using this.2)
 have u:=λj O=>I.ok _ (G j O).1;have f:=λj O=>(G j O).2;refine Tf λkZ=>?_;obtain⟨r,B,l,x,hW,eS⟩:=ic (T:=T) (w:=w) (A:=A) (N:=wd k) (k:=k) H (λj O=>by have:=(u j O).le;lia) f R (Q k) hm Q λj rm i O hh a=>(u j O).i6 rm i hh a;have i9 i:i<wd k->pe p w wd T k (h8 p A (wd k) r B l i):=λa=>BF J x u f (λi c Y n=>by show Ord w ((E.filter λb=>b.has k).getD i sN) ((E.filter λb=>b.has k).getD c sN);rw[Tr,To (),Tr,To ()];exact(M0.mp I.od i c () () Y)) a
 have ac i:i<wd k->(h8 p A (wd k) r B l i).has k=cC:=λa=>by rw[bA];exact f i a
 have ex:∀i,∃o:Option Vc,i<wd k->(yK [.int p,ZH w wd T k,.tup (zO (wd k)<|(h8 p A (wd k) r B l i).v k)]=cz (.val<|oD (wd<|k+1) o)/\(∀y,o=cz y->∀c,c<wd (k+1)->0<=y c/\y c<p)/\
  (w k=cL->(o=none->∀c,c<wd (k+1)->app (T k) (wd k) ((h8 p A (wd k) r B l i).v k) c%p=0)/\∀y,o=cz y->(∀c,c<wd (k+1)->app (T k) (wd k) ((h8 p A (wd k) r B l i).v k) c%p=y c%p)/\∃c,c<wd (k+1)/\y c%p≠0)/\
  (w k=cC->(o=none->¬∃y:Vc,∀c,c<wd k->app (T k) (wd<|k+1) y c%p=(h8 p A (wd k) r B l i).v k c%p)/\∀y,o=cz y->∀c,c<wd k->app (T k) (wd<|k+1) y c%p=(h8 p A (wd k) r B l i).v k c%p)):=λi=>by
  by_cases a:i<wd k
  .obtain⟨o,h⟩:=WT (T:=T) (w:=w) (k:=k) H Q hT ((h8 p A (wd k) r B l i).v k) λc hc=>(i9 i a).i6 k c (ac i a) hc
   exact(o,λ_=>h)
  .exact(none,λz=>absurd z a)
 obtain⟨nx,Z⟩:=D7 ex;obtain⟨U,hN,eN⟩:=WU (T:=T) (w:=w) (k:=k) H Q;obtain⟨f1,f2,f3,f4⟩:=lz (T:=T) (w:=w) (A:=A) H Q f (λv=>by
  obtain⟨t,ht⟩:=yv ((I.sp k (Tv _) v).le λg hg=>by obtain⟨b,Y,n,rfl⟩:=hg;have ad:b∈E.filter λb=>b.has k:=UA.mpr (Y,by simpa using n);rw[F]at ad;obtain⟨j,O,rfl⟩:=Uz.mp ad;exact .gen (j,Tp.mp O,rfl))
  exact(t,λi a=>by rw[ht i a];unfold app;rw[xE])) x hW hN (nx:=nx) (λi a=>(Z i a).2.2.1) λi a=>(Z i a).2.2.2
 refine kZ ?_;refine(Jy p k w E A (wd k) r B l nx U,zeB J I s (λ_=>rfl) x (λi y a e=>(Z i a).2.1 y e) f1 (λi a e d=>((Z i a).2.2.1 d).1 e) (λi y a e d=>(((Z i a).2.2.1 d).2 y e).1) (λi y a e d=>((Z i a).2.2.2 d).2 y e) f2 f3 f4,?_,?_)
 .have Y:(E.filter λb=> !b.has k).length+wd k=E.length:=by
   rw[<-s,<-De,<-De,(zdG (λb:fh=>b.has k) (l:=E))];have e:E.countP (λb=> !b.has k)=E.countP λb=>decide (¬b.has k=cC):=u7 λb _=>by simp
   rw[e];lia
  unfold Jy;rw[UD];cases w k<;>simp<;>lia
 .
  let L:D:=.lst (E.map<|xN wd);have X:zQ (.nm 0) (XG<|sB<|zC qf<|zb (zf 0)<|zb (zf 1) zD) (zf 0) [.no,vI k] (E.map<|xN wd)=cz ((E.filter λb=> !b.has k).map (xN wd)):=by refine jD (g:=xN wd) (λb=> !b.has k) (xN wd) E λb C=>([.val (xN wd b),vI k],rfl,?_,λ_=>by rfl);have e:=v7 (wd:=wd) (b:=b) (by have:=(I.ok b C).le;lia) k;simp[e]
  have e4:zQ (.nm 0) (sB<|zC qf<|zb (zf 0)<|zb (zf 1) zD) (zf 0) [.no,vI k] (E.map<|xN wd)=cz ((Tn<|wd k).map λj=>xN wd<|A j):=by
   have:((E.filter λb=>b.has k).map (xN wd))=(Tn<|wd k).map λj=>xN wd (A j):=by rw[F,Uu];rfl
   rw[<-this];refine jD (g:=xN wd) (λb=>b.has k) (xN wd) E λb C=>([.val (xN wd b),vI k],rfl,?_,λ_=>by rfl);have e:=v7 (wd:=wd) (b:=b) (by have:=(I.ok b C).le;lia) k;simp[e]
  have e5:zQ (.nm 0) jB (zC vC<|zb (zf 1)<|zb (zf 2)<|zb (zf 0) zD) [.no,vI p,.val (ZH w wd T k)] ((Tn<|wd k).map λi=>xN wd<|h8 p A (wd k) r B l i)=cz ((Tn<|wd k).map λi=>xN wd<|lK k (h8 p A (wd k) r B l i)<|nx i):=by refine zu _ _ λi a=>zv rfl rfl ?_;have a:=Tp.mp a;have Y:=i4.mp<|ac i a;have e:=ze5 (p:=p) (i9 i a).n1 (by have:=(i9 i a).le;lia) (():k<=20) (Z i a).1;simp[e]
  have e6:zQ (.nm 0) jB (qv<|zb (zM j6 (zf 1)<|sI 1)<|zb (qv<|zb (zf 0) zD) zD) [.no,vI k] (U.map λy=>D.tup<|zO (wd<|k+1) y)=cz ((U.map<|p5 k).map (xN wd)):=by rw[Uu];refine zu _ _ λy hy=>zv rfl rfl ?_;show _=cz (xN wd<|p5 k y);rw[OV];rfl
  have M:U.length<=lim:=by have:=Q<|k+1;lia
  have W:wd k<=lim:=by have:=Q k;lia
  have bt:(E.filter λb=> !b.has k).length<=100:=TJ (Nf _ _) S;have q1:=Q k;have q2:=Q<|k+1;have Y:U.length+wd k<=lim:=()
  have n:(E.filter λb=> !b.has k).length+(U.length+wd k)<=lim:=()
  have h3:wd k+U.length<=lim:=()
  have h4:(E.filter λb=> !b.has k).length+(wd k+U.length)<=lim:=()
  have eq:=rC<|w k;refine zU ?_;simp[jf,jd,Tq,ZJ,aN,R,jq,K,X,e4,eS,W,e5,eN,M,e6];cases d:w k<;>simp[d]at eq<;>simp[Kv,d,eq,Jy,Y,n,h3,h4]
end
section
variable{wd:DK}{p:Int}{w:DV}{T:DQ}
def Hv(c:Nat):fh:=(0,1,λ_=>jU c)
theorem Gk(Y:Pr p):tG p w wd T 0 ((Tn<|wd 0).map Hv):=by
 have two:=Y.two;have a:∀b,b∈_ ↔ ∃c,c<wd 0/\b=Hv c:=λb=>by rw[Uz];exact(λy=>by obtain⟨c,I,O⟩:=y;exact(c,Tp.mp I,O.symm),λy=>by obtain⟨c,I,O⟩:=y;exact(c,Tp.mpr I,O.symm))
 have Z c:(Hv c).has 0=cC:=i4.mpr (Tv _,by show 0<0+1;lia);refine(λb Q=>?_,λr e v=>?_,λr e=>?_,?_)
 .obtain⟨c,U,rfl⟩:=(a b).mp Q
  exact(Tv _,by show 0+1<=0+1;lia,λr i _ _=>by show 0<=jU c i/\jU c i<p;unfold jU;lia,λj f=>by lia)
 .have:r=0:=()
  subst this;refine(ah (wd 0) v).le λg d=>?_;obtain⟨c,U,rfl⟩:=d;exact .gen (Hv c,(a _).mpr (c,U,rfl),Z c,rfl)
 .have:r=0:=()
  subst this;rw[List.countP_eq_length.mpr λb Q=>?_]
  .simp
  grind
 .refine O' _ ?_
  rw[M3];exact M0.mpr λ_ _ _ _ _=>(λz=>absurd z<|UY 0,λz=>absurd z<|UY 0)
noncomputable def bc(b:fh):Int×Int:=((b.s:Int),((b.s+b.n-1:Nat):Int))
theorem pE:∀j:List fh,(∀b,b∈j->1<=b.n/\b.s+b.n<=100)->cE qk (j.map<|xN wd)=cz (j.map bc)
 |[],_=>rfl
 |b::j,h=>by have y:=h b Uh;simp only[UL,cE,Yc (wd:=wd) y.1 y.2,pE j λb I=>h b<|TN _ I,Tx];rfl
def yw(j:List fh):List fh:=(xB<|j.map bc).map λi=>j.getD i sN
theorem Wr(j:List fh):(yw j).Perm j:=by have h:=j5<|j.map bc;rw[Ua]at h;have:=h.map λi=>j.getD i sN;rw[jv]at this;exact this
theorem nc(j:List fh):(yw j).map bc=Y7 (j.map bc):=by unfold yw Y7;rw[Uu];refine Ug λi a=>?_;have a:=Tp.mp<|(j5<|j.map bc).mem_iff.mp a;rw[Ua]at a;simp[a]
theorem V1(O:Pr p)(y:b<=16)(E:b*(m+1)<=48)(Q:∀k,wd k<=b)(Y:m<=5)(Z:∀k i j,k<m->i<dH w wd k->j<dq w wd k->0<=T k i j/\T k i j<p):
 ∃z,tG p w wd T m z/\z.length<=48/\wA [jE p m w wd T]=cz (.own<|(yw z).map (xN wd)):=by
 have J:=je;have H:=Q 0;have U:wd 0<=lim:=()
 have n:jI (jZ (wd 0) (wd 0) λi j=>if i=j then 1 else 0)=cz _:=rfl;have u:zQ (.nm 0) jB (qv<|zb (sI 0)<|zb (qv<|zb (zf 0) zD) zD) [.no] (z7 (wd 0) (wd 0) λi j=>if i=j then 1 else 0)=cz (((Tn<|wd 0).map Hv).map (xN wd)):=by rw[Uu];unfold z7;refine zu _ _ λi a=>zv rfl rfl ?_;rfl
 have x:O2 (jd 3 [jE p m w wd T])=cz (.next [.val (jE p m w wd T),.val<|.lst<|((Tn<|wd 0).map Hv).map (xN wd),.no]):=by simp[O2,jd,Tq,ZJ,yG U,n,jq,U];rw[u];simp
 obtain⟨B,A,z,c,I,o,rfl⟩:=jY (T:=.nm 2) (F:=jF 1<|zC V4<|zb (zf 0)<|zb (zf 2)<|zb (zf 1) zD) (f:=JR<|zH<|cI (zm 0)<|sI 2)
  (λj h=>∃z c,tG p w wd T j z/\z.length<=b*(j+1)/\h=[.val (jE p m w wd T),.val<|.lst<|z.map<|xN wd,c]) m ()
  (by simp[ZJ]) (_,_,Gk O,by simp;omega,rfl) λs g h d=>by obtain⟨z,c,I,o,rfl⟩:=d;obtain⟨r,l,G,e⟩:=AK O (λk=>TJ (Q k) y) Y g (Z s · · g) I (by have:=Nat.mul_le_mul_left b (():s+1<=m+1);lia);refine(_,[_,_,vI s],rfl,?_,r,_,l,by grind,rfl);simp[e]
 refine(z,I,(),?_);rw[wA];refine zU<|zy x<|zy A ?_;have t:z.length<64:=()
 unfold U1;have C:nE qk (zm 1) [.val (jE p m w wd T),.val<|.lst<|z.map<|xN wd,c]=cz ((yw z).map (xN wd)):=by show((cE qk _).bind _)=_;rw[(pE (wd:=wd) z λb y=>((I.ok b y).n1,by have:=(I.ok b y).le;lia))];simp only[Tx,Ua,t,if_true];congr 1;unfold yw;rw[Uu];refine Ug λi a=>?_;have a:=Tp.mp<|(j5<|z.map bc).mem_iff.mp a;rw[Ua]at a;simp[a]
 simp_all
theorem tG.perm(h:O3.Perm m6)(I:tG p w wd T k m6):(∀b,b∈O3->pe p w wd T k b)/\(∀r,r<=k->∀v,Span p (wd r) (Sh O3 r) v)/\∀r,r<=k->O3.countP (λb=>b.has r)=wd r:=by
 refine(λb O=>I.ok b<|h.mem_iff.mp O,λr y v=>(I.sp r y v).le λg Q=>?_,λr y=>?_)
 .obtain⟨b,U,Y,Z⟩:=Q
  exact .gen (b,h.mem_iff.mpr U,Y,Z)
 .rw[h.countP_eq];exact I.ct r y
end
def n7(bs:List (Int×Int))(k:Nat):Nat:=(j4 bs k).length
def rX(w:DV)(bs:List (Int×Int))(k i j:Nat):Int:=if (j4 bs<|zX w k).getD i 0=(j4 bs<|zS w k).getD j 0 then 1 else 0
theorem dG(y:0<p)(w:DV)(wd:DK)(f g T:DQ)(k i j:Nat):0<=wL p w wd f g T k i j/\wL p w wd f g T k i j<p:=
 (Uq _ (),Ub _ y)
noncomputable def wM(m:Nat)(wd:DK)(f:DQ):List TB:=(Tn<|m+1).map λk=>(wd k,wd k,f k)
theorem YZ(m wd f):(wM m wd f).map tD=yd (m+1) wd f:=by unfold wM yd;rw[Uu];rfl
section
variable{p:Int}{n:Nat}
theorem zeJ(z:Pr p)(E:n<=20)(f:DW):∃r B l,fm p (n+n) r B l/\(∀v,Span p (n+n) (d6 r B) v↔Span p (n+n) (d6 n λi=>qR n (f i)<|jU i) v)/\
 yO [.int p,jZ n n f]=cz (.val<|if i0 (.lst<|z7 r n B) (.lst<|z7 n n jU)=cC then .tup [.int n,.int n,.tup (z7 r n λk j=>B k<|n+j)]else .d7):=by
 have A:=je;have y:n<=lim:=()
 have d:n+n<=lim:=()
 refine Tf λt=>?_;obtain⟨r,B,l,e,I,g⟩:=k4 z (():n+n<=100) y .L _;refine t ?_;refine(r,B,l,I,g,?_);have O:r<=lim:=by have:=X3 I.mono I.lt;lia
 have Q:=yG y;have a:zQ (.tp [0,1]) jB (zM j6 (zf 0)<|zf 1) [Cell.no,Cell.no] ((Tn n).map λi=>D.tup [.tup (zO n<|f i),.tup (zO n λk=>if i=k then 1 else 0)])=cz (z7 n (n+n) λi=>qR n (f i)<|jU i):=by unfold z7;refine zu _ _ λj x=>zv rfl rfl ?_;simp[j6,d,y9];rfl
 have U:=dm n n f λi j=>if i=j then 1 else 0;have o:(n+n)=((n+n:Nat):Int):=()
 simp only[oI]at e;rw[<-o]at e;have Y:zQ (.nm 0) jB (V6 (zf 0) aX<|n5<|zf 1) [Cell.no,vI n] (z7 r (n+n) B)=cz (z7 r n B):=by unfold z7;refine zu _ _ λk s=>zv rfl rfl ?_;simp[VU]
 have m:zQ (.nm 0) jB (V6 (zf 0) (n5<|zf 1) aX) [Cell.no,vI n] (z7 r (n+n) B)=cz (z7 r n λk j=>B k<|n+j):=by unfold z7;refine zu _ _ λk s=>zv rfl rfl ?_;simp[VT]
 have b:m8 (.lst<|z7 r n B) (.lst<|z7 n n λi j=>if i=j then 1 else 0)=cz (.bl<|!i0 (.lst<|z7 r n B) (.lst<|z7 n n jU)):=by unfold m8;rw[DZ (eX _ _ _,eX _ _ _)];rfl
 have Z:∀h w f,jI (jZ h w f)=cz _:=λ_ _ _=>rfl;by_cases q:i0 (.lst<|z7 r n B) (.lst<|z7 n n jU)=cC
 .rw[q]at b
  rw[DZ q];simp[yO,jA,jd,jf,Z,Q,U,y,O,jq,k6,Tq,a,e,Y,m,b]
 .have u:=by simpa using q
  rw[u]at b;rw[DJ q];simp[yO,jA,jd,jf,Z,Q,U,y,O,jq,k6,Tq,a,e,Y,b]
theorem dh(U:Pr p)(R:n<=20)(H:Jf p n f g)(P:Jf p n g f)(E:∀i j,i<n->j<n->0<=g i j/\g i j<p):yO [.int p,jZ n n f]=cz (.val<|jZ n n g):=by
 obtain⟨r,B,l,t,Z,e⟩:=zeJ U R f;have two:=U.two;have o:fm p (n+n) n (λk=>qR n (jU k)<|g k) id:={
  lt:=λk y=>by simp only[id];lia
  mono:=λk m y _=>y
  one:=λk y=>by simp only[id];rw[zR y];exact DZ rfl
  kr:=λk j y O=>by simp only[id]at O;rw[zR ()];exact DJ ()
  oe:=λk m y w Q=>by simp only[id];rw[zR w];exact DJ ()
  i6:=λk i y a=>by
   rcases TV i n with z|z
   .rw[zR z];unfold jU;lia
   .obtain⟨j,rfl⟩:∃j,i=n+j:=(i-n,by grind)
    rw[z6];exact E k j y ()}
 have d v:Span p (n+n) (d6 n λk=>qR n (jU k)<|g k) v->Span p (n+n) (d6 n λi=>qR n (f i)<|jU i) v:=λI=>I.le λs Y=>by
  obtain⟨k,y,b⟩:=Y;subst b;refine(Span.sum ((g k)) λi a=>.gen (i,a,rfl)).congr λj O=>?_;rcases TV j n with z|z
  .simp only[zR z]
   exact(P k j y z).symm
  .obtain⟨m,rfl⟩:∃m,j=n+m:=(j-n,())
   simp only[z6];rw[zG (i:=m) () λi _ Q=>by simp[jU,Q]];simp[jU]
 have h v:Span p (n+n) (d6 n λi=>qR n (f i)<|jU i) v->Span p (n+n) (d6 n λk=>qR n (jU k)<|g k) v:=λI=>I.le λs Y=>by
  obtain⟨i,a,b⟩:=Y;subst b;refine(Span.sum ((f i)) λk y=>.gen (k,y,rfl)).congr λj O=>?_;rcases TV j n with z|z
  .simp only[zR z]
   rw[zG z λk _ Q=>by simp[jU,Q]];simp[jU]
  .obtain⟨m,rfl⟩:∃m,j=n+m:=(j-n,())
   simp only[z6];exact(H i m a ()).symm
 obtain⟨rfl,_,u⟩:=Ku U t o (λv I=>h v<|(Z v).mp I)<|λv I=>(Z v).mpr (d v I);rw[e,fY λk i y a=>by rw[u k i y (),zR a],DZ<|Hx _,(fY λk j y O=>by rw[u k (r+j) y (),z6])];rfl
end
section
noncomputable def iU(A:Nat->fh)(N r:Nat):List Nat:=(Tn N).filter λj=>(A j).has r
def wR(A:Nat->fh)(N r:Nat):Nat->Nat->Int:=λi j=>(A<|(iU A N r).getD j 0).v r i
theorem cF(h:j<(iU A N r).length):(iU A N r).getD j 0<N/\(A<|(iU A N r).getD j 0).has r=cC:=by
 have y:(iU A N r).getD j 0∈iU A N r:=by rw[Tr,To h];exact uC _
 obtain⟨I,O⟩:=UA.mp y;exact(Tp.mp I,by simpa using O)
theorem We(y:Pr p)(Q:n<=16)(hs:∀v:Vc,∃t,∀i,i<n->v i%p=app f n t i%p):∃g,Jf p n f g/\Jf p n g f/\∀i j,0<=g i j/\g i j<p:=by
 have U:=y.pos;obtain⟨t,I⟩:=D7 λj=>hs<|jU j;refine(λi j=>t j i%p,?_,?_,λi j=>(Uq _ (),Ub _ U))
 .intro i j d O
  have e:_=app f n (t j) i%p:=zE λk _=>Ju p _ _;rw[e,<-I j i d];unfold jU gm;simp only[eq_comm]
 .intro i j d O
  have z:∀a,a<n->app f n (λb=>zg _ n-jU j b) a%p=0:=λa h=>by
   rw[Kw,JJ f O,rK];have e:app f n (λb=>zg (λk=>(t k b%p)*f k j) n) a%p=f a j%p:=by
    have l:app f n (λb=>zg (λk=>(t k b%p)*f k j) n) a=zg (λk=>f k j*app f n (λb=>t k b%p) a) n:=by rw[<-wg];congr 1;funext b;exact xE ..
    rw[l];have Y:zg (λk=>f k j*app f n _ a) n%p=zg (λk=>f k j*jU k a) n%p:=zE λk _=>by rw[Tt,jW (λb _=>Us _ _) a,<-I k a h,<-Tt]
    rw[Y,zG h λk _ Z=>by simp[jU,Z]];simp[jU]
   rw[e];simp
  rw[(Ul.mpr<|ZY y Q hs z i d)];unfold jU gm;simp only[eq_comm]
theorem ma(E:Pr p)(H:b<=16)(P:b*(m+1)<=48)(Q:∀k,wd k<=b)(hm:m<=5)(hT:∀k i j,k<m->i<dH w wd k->j<dq w wd k->0<=T k i j/\T k i j<p):
 ∃N A g,N<=48/\(∀j,j<N->pe p w wd T m (A j))/\(∀r,r<=m->(iU A N r).length=wd r)/\(∀r,r<=m->Jf p (wd r) (wR A N r) (g r)/\Jf p (wd r) (g r) (wR A N r)/\∀i j,0<=g r i j/\g r i j<p)/\
  (∃B,((Tn N).map λj=>bc<|A j)=(yw B).map bc)/\
  qw [jE p m w wd T]=cz (.val<|vq ((Tn N).map λj=>bc<|A j) (wM m wd g)<|wM m wd λr=>wR A N r):=by
 have hl:=je;refine Tf λkZ=>?_;obtain⟨B,I,ad,u⟩:=V1 E H P Q hm hT;obtain⟨ok,sp,M⟩:=I.perm<|Wr B;refine kZ ?_;let A:=λj=>(yw B).getD j sN;have U:yw B=(Tn B.length).map A:=by rw[<-((Wr B).length_eq)];exact(jv sN _).symm
 have a:=λj O=>ok _ (by
  rw[U];exact Uz.mpr (j,Tp.mpr O,rfl))
 have cnt r:r<=m->(iU A B.length r).length=wd r:=λy=>by have:=M r y;rw[U,E6,De]at this;exact this
 have C:=λr y v=>by
  have hv:Span p (wd r) (d6 (wd r) λj i=>wR A B.length r i j) v:=(sp r y v).le λzhA Y=>by obtain⟨b,Z,d,rfl⟩:=Y;rw[U]at Z;obtain⟨j,O,rfl⟩:=Uz.mp Z;have F:j∈iU A B.length r:=UA.mpr (O,by simpa using d);obtain⟨i,x,e⟩:=M7 F;refine .gen (i,by rw[<-cnt r y];exact x,?_);funext c;show(A j).v r c=(A<|(iU A B.length r).getD i 0).v r c;rw[Tr,To x];simp[e]
  exact t5.mp hv
 have G r:∃g,r<=m->Jf p (wd r) (wR A B.length r) g/\Jf p (wd r) g (wR A B.length r)/\∀i j,0<=g i j/\g i j<p:=by
  by_cases y:r<=m
  .obtain⟨g,h⟩:=We E (TJ (Q r) H) (C r y)
   exact(g,λ_=>h)
  .exact(λ_ _=>0,λz=>absurd z y)
 obtain⟨g,Y⟩:=D7 G;have W:(yw B).map bc=(Tn B.length).map λj=>bc (A j):=by simp_all
 refine(B.length,A,g,ad,a,cnt,Y,(B,W.symm),?_)
 .have f:B.length<=lim:=()
  have X:((yw B).map (xN wd))=(Tn B.length).map λj=>xN wd (A j):=by
   conv=>lhs;rw[U,Uu]
   rfl
  rw[X]at u;let L:D:=.lst ((Tn B.length).map λj=>xN wd<|A j);have l j:j<B.length->(A j).s+(A j).n<=100:=λO=>by have:=(a j O).le;lia
  have t:zQ (.tp [0,1]) jB (zC yM<|zb (zf 1)<|zb (jX<|jm xI<|zb (zf 2)<|zb (zf 0) zD) zD) [.no,.no,.val L] ((Tn<|m+1).map λ(i:Nat)=>D.tup [.int i,.int (wd i:Nat)])=cz (yd (m+1) wd λr=>wR A B.length r):=by unfold yd;refine zu _ _ λr y=>zv rfl rfl ?_;have y:=Tp.mp y;have o:=ZX (wd:=wd) l f r;simp only[fv (wd r) (λj=>(A j).v r),show((Tn B.length).filter λj=>(A j).has r)=iU A B.length r from rfl,cnt r ()]at o;have b5:=Q r;simp[-Tr,L,o,(QI (q:=wd r) (h:=wd r) (λi=>(A<|(iU A B.length r).getD i 0).v r) () ())];rfl
  have R:zQ (.nm 0) jB (zC yO<|zb (cI (zm 1)<|sI 0)<|zb (zf 0) zD) [.no,.val (jE p m w wd T)] (yd (m+1) wd λr=>wR A B.length r)=cz (yd (m+1) wd g):=by unfold yd;refine zu _ _ λr y=>zv rfl rfl ?_;have y:=Tp.mp y;obtain⟨Z,d,h3⟩:=Y r ();simp[ZJ,(dh E (by have:=Q r;lia) Z d λi j _ _=>h3 i j)]
  have S:zQ (.nm 0) jB (zC qk<|zb (zf 0) zD) [.no] ((Tn B.length).map λj=>xN wd<|A j)=cz (zY<|(Tn B.length).map λj=>bc<|A j):=by unfold zY;rw[Uu];refine zu _ _ λj O=>zv rfl rfl ?_;have O:=Tp.mp O;simp[(Yc (wd:=wd) (a j O).n1 (l j O))];exact(rfl,rfl)
  have J:m+1<=lim:=()
  have K:∀g:DQ,(yd (m+1) wd g).length=m+1:=λg=>by simp[yd]
  dsimp only[L]at t;unfold vq;rw[YZ,YZ];exact zU (by simp[jf,jd,Tq,u,jq,ZJ,fU _ _,J,t,K,R,f,S])
end
section
def qW(A:Nat->fh)(N:Nat):List (Int×Int):=(Tn N).map λj=>bc<|A j
theorem Gc(y:1<=b.n)(r:Nat):Cw (bc b) r=b.has r:=by
 unfold Cw bc fh.has;dsimp only;congr 1
 .exact decide_eq_decide.mpr ()
 .exact decide_eq_decide.mpr ()
theorem vo(I:∀j,j<N->1<=(A j).n)(r:Nat):j4 (qW A N) r=iU A N r:=by unfold j4 iU qW;simp only[Ua,UM];refine List.filter_congr λj y=>?_;have y:=Tp.mp y;rw[Tr,UE,M8 y];exact Gc (I j y) r
theorem W3(A N r):(iU A N r).Nodup:=E2.sublist R7
theorem iP{L:List Nat}(h:L.Nodup){a b:Nat}(j:a<L.length)(y:b<L.length)(e:L.getD a 0=L.getD b 0):a=b:=by rw[Tr,Tr,To j,To y]at e;exact(List.getElem_inj h).mp e
theorem AH(O:∀j,j<N->pe p w wd T m (A j))(Q:k<m)(B:i<wd (zX w k))(U:b<(iU A N<|zS w k).length):
 zg (λa=>(if (iU A N<|zX w k).getD a 0=(iU A N<|zS w k).getD b 0 then 1 else 0)*wR A N (zX w k) i a) (iU A N<|zX w k).length%p=app (T k) (wd<|zS w k) (λc=>wR A N (zS w k) c b) i%p:=by
 obtain⟨I,Y⟩:=cF U;show _=app (T k) _ ((A _).v (zS w k)) i%p;rw[((O _ I).arr k Q Y i B)];congr 1;cases hx:(A _).has (zX w k)with
 |true=>
  have Z:_∈iU A N (zX w k):=UA.mpr (Tp.mpr I,by simpa using hx);obtain⟨f,y,l⟩:=M7 Z;have e:(iU A N<|zX w k).getD f 0=(iU A N<|zS w k).getD b 0:=by rw[<-l,Tr,To y];rfl
  rw[zG y λa d h=>by rw[DJ λz=>h (iP (W3 A N _) d y<|z.trans e.symm)];simp]
  unfold wR;rw[e];simp
 | false=>
  rw[DJ ()];rw[zh (g:=λ_=>0) λa d=>by
   rw[DJ λz=>by have:=(cF d).2;lia]
   simp]
  exact zA _
theorem Bk(B:Pr p)(O:∀j,j<N->pe p w wd T m (A j))(cnt:∀r,r<=m->(iU A N r).length=wd r)(Y:∀r,r<=m->Jf p (wd r) (wR A N r) (g r))(Z:k<m)(z:i<wd (zX w k))(y:j<wd (zS w k))(Q:0<=T k i j/\T k i j<p):
 T k i j=wL p w (n7<|qW A N) (λr=>wR A N r) g (rX w<|qW A N) k i j:=by
 have d:=λj y=>(O j y).n1;have I:zS w k<=m:=by unfold zS;split<;>lia
 have U:zX w k<=m:=by unfold zX;split<;>lia
 unfold wL;have h:n7 (qW A N) (zS w k)=wd (zS w k):=by unfold n7;rw[vo d,cnt _ I]
 have l:n7 (qW A N) (zX w k)=wd (zX w k):=by unfold n7;rw[vo d,cnt _ U]
 simp only[h,l];have e:zg (λb=>_*(zg (λa=>rX w (qW A N) k a b*wR A N (zX w k) i a) _%p)) _%p
  = zg (λb=>g (zS w k) b j*app (T k) _ _ i) _%p:=zE λb n=>by
  have:=AH O Z z (by rw[cnt _ I];exact n);rw[cnt _ U]at this;rw[(zh λa _=>by unfold rX;rw[vo d,vo d]),this,Ju]
 have f:zg (λb=>g (zS w k) b j*app (T k) (wd<|zS w k) (λc=>wR A N (zS w k) c b) i) (wd<|zS w k)=app (T k) (wd<|zS w k) (λc=>zg (λb=>wR A N (zS w k) c b*g (zS w k) b j)<|wd<|zS w k) i:=by rw[<-wg];congr 1;funext c;exact xE ..
 rw[e,f,
  jW (u:=jU j) (λc o=>by rw[Y _ I c j o y];unfold gm jU;simp only[eq_comm]) i,JJ (T k) y]
 exact(UG Q.1 Q.2).symm
end
structure i5(p:Int)(w:DV)(wd:DK)(T:DQ)(m N:Nat)(A:Nat->fh):Prop where
 ok:∀j,j<N->pe p w wd T m (A j)
 sp:∀r,r<=m->∀v:Vc,∃t:Vc,∀i,i<wd r->v i%p=zg (λj=>if (A j).has r=cC then t j*(A j).v r i else 0) N%p
 inj:∀r,r<=m->∀t:Vc,(∀i,i<wd r->zg (λj=>if (A j).has r=cC then t j*(A j).v r i else 0) N%p=0)->∀j,j<N->(A j).has r=cC->t j%p=0
 cnt:∀r,r<=m->(iU A N r).length=wd r
def Lk(p:Int)(w:DV)(wd:DK)(T:DQ)(k:Nat)(y z:Vc):Prop:=
 if w k=cC then ∀i,i<wd k->y i%p=app (T k) (wd<|k+1) z i%p else ∀i,i<wd (k+1)->z i%p=app (T k) (wd k) y i%p
def Wk(p:Int)(w:DV)(wd:DK)(T:DQ)(d:Nat):Nat->Vc->Vc->Prop
 |0,u,z=>∀i,i<wd d->u i%p=z i%p
 |n+1,u,z=>∃y,Wk p w wd T d n u y/\Lk p w wd T (d+n) y z
section
variable{p:Int}{w:DV}{wd:DK}{T:DQ}{m N:Nat}{A:Nat->fh}{d:Nat}
theorem bY(y:a%p=b%p)(I:a'%p=b'%p):(a+c*a')%p=(b+c*b')%p:=by rw[Um,y,Tt,I,<-Tt,<-Um]
theorem Nj(c:Int)(h:Lk p w wd T k y z)(h':Lk p w wd T k y' z'):Lk p w wd T k (λi=>y i+c*y' i) λi=>z i+c*z' i:=by
 unfold Lk at *;split
 .next b=>
  rw[DZ b]at h h';intro i a;rw[bY (h i a) (h' i a)];exact(Ky (λ_ _=>rfl) i).symm
 .next b=>
  rw[DJ b]at h h';intro i a;rw[bY (h i a) (h' i a)];exact(Ky (λ_ _=>rfl) i).symm
theorem sA:∀n {u z I O:Vc} c,Wk p w wd T d n u z->Wk p w wd T d n I O->Wk p w wd T d n (λi=>u i+c*I i) λi=>z i+c*O i
 |0,u,z,I,O,c,h,h'=>λi a=>bY (h i a)<|h' i a
 |n+1,u,z,I,O,c,(y,h1,h2),(y',I?,J?)=>(_,sA n c h1 I?,Nj c h2 J?)
theorem sE(k:Nat):Lk p w wd T k (λ_=>0) λ_=>0:=by unfold Lk;split<;>exact λi _=>by rw[ZD (λ_ _=>by simp) i];simp
theorem KA:∀n,Wk p w wd T d n (λ_=>0) λ_=>0
 |0=>λ_ _=>rfl
 |n+1=>(_,KA n,sE _)
theorem Bm(h:Lk p w wd T k y z)(hz:∀i,i<wd (k+1)->z' i%p=z i%p):Lk p w wd T k y z':=by
 unfold Lk at *;split
 .next b=>rw[DZ b]at h;intro i a;rw[h i a];exact(jW hz i).symm
 .next b=>rw[DJ b]at h;intro i a;rw[hz i a,h i a]
theorem sy:∀{n:Nat} {u z I:Vc},Wk p w wd T d n u z->(∀i,i<wd (d+n)->I i%p=z i%p)->Wk p w wd T d n u I
 |0,u,z,I,h,hz=>λi a=>by rw[h i a,hz i a]
 |n+1,u,z,I,(y,h1,h2),hz=>(y,h1,Bm h2 hz)
theorem K3:∀{n:Nat} {u I z:Vc},Wk p w wd T d n u z->(∀i,i<wd d->I i%p=u i%p)->Wk p w wd T d n I z
 |0,u,I,z,h,hu=>λi a=>by rw[hu i a,h i a]
 |n+1,u,I,z,(y,h1,h2),hu=>(y,K3 h1 hu,h2)
theorem CP(t:Vc)(u z:Nat->Vc):∀K,(∀j,j<K->Wk p w wd T d n (u j) (z j))->Wk p w wd T d n (λi=>zg (λj=>t j*u j i) K) λi=>zg (λj=>t j*z j i) K
 |0,_=>KA n
 |K+1,h=>sA n (t K) (CP t u z K λj y=>h j ())<|h K ()
theorem Bi(I:pe p w wd T m b)(O:k<m)(Q:b.has k=cC)(U:b.has (k+1)=cC):Lk p w wd T k (b.v k) (b.v<|k+1):=by
 unfold Lk;cases hw:w k with
 |true=>
  have a:zS w k=k+1:=by unfold zS;rw[hw];rfl
  have y:zX w k=k:=by unfold zX;rw[hw];rfl
  rw[DZ rfl];intro i d;have:=I.arr k O (by rw[a];exact U) i (by rw[y];exact d);rw[a,y,Q,DZ rfl]at this;exact this.symm
 |false=>
  have a:zS w k=k:=by unfold zS;rw[hw];rfl
  have y:zX w k=k+1:=by unfold zX;rw[hw];rfl
  rw[DJ ()];intro i d;have:=I.arr k O (by rw[a];exact Q) i (by rw[y];exact d);rw[a,y,U,DZ rfl]at this;exact this.symm
theorem Xh(y:pe p w wd T m b)(I:b.has d=cC):∀n,d+n<=m->b.has (d+n)=cC->Wk p w wd T d n (b.v d) (b.v<|d+n)
 |0,_,_=>λ_ _=>rfl
 |n+1,hn,h2=>by have O:b.has (d+n)=cC:=i4.mpr (by have:=i4.mp I;have:=i4.mp h2;grind);exact(_,Xh y I n () O,Bi y () O h2)
theorem cZ(y:pe p w wd T m b)(I:b.has d=cC)(j:w (b.s+b.n-1)=cL):∀n,d+n<=m->b.has (d+n)=cL->Wk p w wd T d n (b.v d) λ_=>0
 |0,_,h2=>by lia
 | n+1,hn,h2=>by
  cases h3:b.has (d+n)with
  |false=>exact(_,cZ y I j n () h3,sE _)
  |true=>
   refine(_,Xh y I n () h3,?_);have U:=i4.mp h3;have Y:¬(d+n+1<b.s+b.n):=λz=>by have:b.has (d+(n+1))=cC:=i4.mpr ();lia
   have O:b.s+b.n-1=d+n:=()
   rw[O]at j;have a:zS w (d+n)=d+n:=by unfold zS;rw[j];rfl
   have Q:zX w (d+n)=d+n+1:=by unfold zX;rw[j];rfl
   have:=y.arr (d+n) ();rw[a,Q]at this;unfold Lk;rw[j,DJ ()];intro i e;rw[this h3 i e,show b.has (d+n+1)=cL from h2];simp
theorem JU(D:i5 p w wd T m N A):∀n,d+n<=m->∀{u z:Vc},Wk p w wd T d n u z->∀{a b:Vc},(∀i,i<wd d->u i%p=zg (λj=>if (A j).has d=cC then a j*(A j).v d i else 0) N%p)->(∀i,i<wd (d+n)->z i%p=zg (λj=>if (A j).has (d+n)=cC then b j*(A j).v (d+n) i else 0) N%p)->
 ∀j,j<N->(A j).has d=cC->((A j).has (d+n)=cC->a j%p=b j%p)/\((A j).has (d+n)=cL->w ((A j).s+(A j).n-1)=cC->a j%p=0):=by
 have Z r:r<=m->∀{v:Vc} {a b:Vc},(∀i,i<wd r->v i%p=zg (λj=>if (A j).has r=cC then a j*(A j).v r i else 0) N%p)->(∀i,i<wd r->v i%p=zg (λj=>if (A j).has r=cC then b j*(A j).v r i else 0) N%p)->∀j,j<N->(A j).has r=cC->a j%p=b j%p:=λS v a b C Q j O U=>by
  exact Ul.mpr (D.inj r S (λj=>a j-b j) (λi f=>by
   have e:zg (λj=>if (A j).has r=cC then (a j-b j)*(A j).v r i else 0) N=zg (λj=>if (A j).has r=cC then a j*(A j).v r i else 0) N+zg (λj=>(if (A j).has r=cC then b j*(A j).v r i else 0)*(-1)) N:=by
    rw[<-jG];refine zh λj _=>?_;split
    .rw[Int.sub_mul];lia
    .simp
   rw[e,qz,Um,<-C i f,Tt,<-Q i f,<-Tt,<-Um,show v i+v i * -1=0 by lia];simp) j O U)
 have H k:k<m->∀(c:Vc) (r l:Nat),r=zS w k->l=zX w k->∀i,i<wd l->app (T k) (wd r) (n9 p A N c r) i%p=zg (λj=>if (A j).has l=cC then (if (A j).has r=cC then c j else 0)*(A j).v l i else 0) N%p:=λP c r l J K i f=>by
  rw[sr];refine zE λj O=>?_;cases hx:(A j).has r with
  |false=>simp
  |true=>
   have q:=(D.ok j O).arr k P (by rw[<-J];exact hx) i (by rw[<-K];exact f);rw[<-J,<-K]at q;simp only[if_true];rw[Tt,q,<-Tt];cases hy:(A j).has l<;>simp
 intro n
 induction n with
 |zero=>
  intro R u z o a b E Y j O U;refine(λ_=>Z d () E (λi f=>by rw[o i f];exact Y i f) j O U,λh=>?_);lia
 | succ n W=>
  intro R u z o a b E Y j O U;obtain⟨y,C,Q⟩:=o;obtain⟨c,F⟩:=D.sp (d+n) () y;obtain⟨G,L⟩:=W () C E F j O U;have M i:i<wd (d+n)->y i%p=n9 p A N c (d+n) i%p:=λf=>by rw[F i f];unfold n9;rw[Us]
  have ad i:i<wd (d+n+1)->z i%p=n9 p A N b (d+n+1) i%p:=λf=>by rw[Y i f];unfold n9;rw[Us];rfl
  have zhE:=i4.mp U;cases hw:w (d+n)with
  | false=>
   have x:zS w (d+n)=d+n:=by unfold zS;rw[hw];rfl
   have B:zX w (d+n)=d+n+1:=by unfold zX;rw[hw];rfl
   unfold Lk at Q;rw[hw,DJ ()]at Q;have g:=Z (d+n+1) () Y λi f=>by rw[Q i f,jW M i];exact H (d+n) () c (d+n) (d+n+1) x.symm B.symm i f
   refine(λh=>?_,λh t=>?_)
   .have I:(A j).has (d+n)=cC:=i4.mpr (by have:=i4.mp h;lia)
    have:=g j O h;rw[I,DZ rfl]at this;rw[G I,this]
   .cases I:(A j).has (d+n)with
    |false=>exact L I t
    |true=>
     have q3:=i4.mp I;have X:¬(d+n+1<(A j).s+(A j).n):=λz=>by have:(A j).has (d+(n+1))=cC:=i4.mpr ();lia
     grind
  | true=>
   have x:zS w (d+n)=d+n+1:=by unfold zS;rw[hw];rfl
   have B:zX w (d+n)=d+n:=by unfold zX;rw[hw];rfl
   unfold Lk at Q;rw[hw,DZ rfl]at Q;have g:=Z (d+n) () F λi f=>by rw[Q i f,jW ad i];exact H (d+n) () b (d+n+1) (d+n) x.symm B.symm i f
   refine(λh=>?_,λh t=>?_)
   .have I:(A j).has (d+n)=cC:=i4.mpr (by have:=i4.mp h;lia)
    have:=g j O I;rw[show(A j).has (d+n+1)=cC from h,DZ rfl]at this;rw[G I,this]
   .cases I:(A j).has (d+n)with
    |false=>exact L I t
    |true=>
     have:=g j O I;rw[show(A j).has (d+n+1)=cL from h,DJ ()]at this;rw[G I,this];simp
end
section
variable{p:Int}{n:Nat}
theorem Cy{l:DK}:∀{r:Nat},(∀k m,k<m->m<r->l k<l m)->∃j,j<=r/\∀k,k<r->l k≠j
 |0,_=>(0,Tv _,λk y=>absurd y<|rB _)
 | r+1,h=>by
  obtain⟨j,O,I⟩:=Cy (r:=r) λk m a b=>h k m a ();by_cases e:l r=j
  .refine(r+1,Tv _,λk y=>?_)
   rcases TV k r with z|z
   .have:=h k r z ();lia
   .rw[show k=r by lia];lia
  .refine(j,(),λk y=>?_)
   rcases TV k r with z|z
   .exact I k z
   .rw[show k=r by lia];exact e
theorem Mv(Z:Pr p)(inj:∀t,(∀i,i<h->app f N t i%p=0)->∀j,j<N->t j%p=0):N<=h:=by
 rcases TV h N with a6|a3
 .exfalso
  obtain⟨r,w,B,l,Q,s⟩:=vm (n:=N) Z h f;obtain⟨I,u,a4⟩:=Cy Q.mono;have b:I<N:=()
  let t:=λj=>if j=I then 1 else zg (λk=>if l k=j then B k I*(-1)else 0) r;have g:t I=1:=DZ rfl;have a:∀k,k<r->zg _ N=0:=λk U=>by
   have e:zg (λj=>B k j*t j) N=zg (λj=>(if j=I then B k I else 0)+zg (λy=>if l y=j then B k (l y)*(B y I*(-1))else 0) r) N:=zh λj d=>by
    by_cases z:j=I
    .subst z
     rw[g,DZ rfl,zh λy O=>DJ<|a4 y O,zA];simp
    .show B k j*(if j=I then _ else _)=_
     rw[DJ z,DJ z,NP,UC,<-qz];refine zh λy O=>?_;by_cases e:l y=j
     .rw[DZ e,DZ e,<-e,UC]
     .rw[DJ e,DJ e];simp
   rw[e,jG,zG b<|λj _ Y=>DJ Y,DZ rfl,jS];rw[(zh λy O=>by rw[zG (Q.lt y O) λj _ Y=>DJ<|Ue Y,DZ rfl]),zG U λy O Y=>by rw[Q.oe k y U O Y];simp]
   rw[Q.one k U];lia
  have:=inj t (λi o=>by
   unfold app;have e:zg (λj=>f i j*t j) N%p=zg (λj=>zg _ r*t j) N%p:=zE λj d=>by rw[Tt,(JD Q<|(s<|f i).mpr (.gen (i,o,rfl))) j d,<-Tt]
   rw[e];have m:zg (λj=>zg (λk=>f i (l k)*B k j) r*t j) N=zg (λk=>f i (l k)*zg (λj=>B k j*t j) N) r:=by rw[zh λj _=>(qz _ _ _).symm,jS];refine zh λk _=>?_;rw[<-zT];exact zh λj _=>qd _ _ _
   rw[m,zh λk U=>by rw[a k U,UP],zA];simp) I b
  rw[g,Z.one]at this;lia
 .exact a3
theorem vK(W:Nat->Vc)(t:Vc):Span p n (d6 m W) λi=>zg (λj=>t j*W j i) m:=Span.sum t λj y=>.gen (j,y,rfl)
theorem CF(y:Pr p)(I:fm p n s B l)(sp:∀v,Span p n (d6 s B) v↔Span p n (d6 m W) v)(z:∀t:Vc,(∀i,i<n->zg (λj=>t j*W j i) m%p=0)->∀j,j<m->t j%p=0):m=s:=by
 have U:s<=m:=by obtain⟨r,Y,hR⟩:=vm y m W;have:=JZ y (B,l,I,sp) hR;lia
 have b:=XM I;have Z:=Mv y λt O=>z t λi a=>by
  rw[(JD I ((sp _).mpr (vK W t)) i a)];have:zg (λk=>zg (λj=>t j*W j (l k)) m*B k i) s%p=zg (λ_=>0) s%p:=zE λk Q=>by have:=O k Q;unfold app at this;rw[xE]at this;rw[Tt,this];simp
  rw[this,zA];simp
 lia
theorem AW(hp:Pr p){s q c:Nat}{B E V:Nat->Vc}{l R:DK}(hX:fm p n s B l)(O:fm p n q E R)(a3:∀j,j<c->Span p n (d6 s B) (V j))(S:∀v,Span p n (d6 q E) v->Span p n (d6 s B) v)
 (P:∀v,Span p n (d6 s B) v->∃t:Vc,Span p n (d6 q E) λi=>v i-zg (λj=>t j*V j i) c) (H:∀t:Vc,Span p n (d6 q E) (λi=>zg (λj=>t j*V j i) c)->∀j,j<c->t j%p=0):q+c=s:=by
 let W:=λj=>if j<q then E j else V (j-q);have b j:j<q->W j=E j:=λy=>DZ y;have d j:W (q+j)=V j:=by show(if q+j<q then _ else _)=_;rw[DJ (),TM]
 have Z:∀t:Vc,∀i,zg (λj=>t j*W j i) (q+c)=zg (λj=>t j*E j i) q+zg (λj=>t (q+j)*V j i) c:=λt i=>by
  rw[vk];congr 1
  .exact zh λj y=>by rw[b j y]
  .exact zh λj y=>by rw[d j]
 refine CF hp hX (W:=W) (λv=>(λQ=>?_,λQ=>Q.le λg U=>?_)) λt f=>?_
 .obtain⟨t,h⟩:=P v Q
  have u:Span p n (d6 (q+c) W) λi=>zg (λj=>t j*V j i) c:=Span.sum t λj y=>by rw[<-d j];exact .gen (q+j,(),rfl)
  exact(u.add (h.le λg U=>by obtain⟨k,I,rfl⟩:=U;rw[<-b k I];exact .gen (k,(),rfl)) 1).congr λi _=>by lia
 .obtain⟨k,I,rfl⟩:=U
  rcases TV k q with z|z
  .rw[b k z];exact S _<|.gen (k,z,rfl)
  .obtain⟨j,rfl⟩:∃j,k=q+j:=(k-q,())
   rw[d j];exact a3 j ()
 .have m:=H (λj=>t<|q+j) ((vK E _).congr λi a=>by
   have:=f i a;rw[Z]at this;have e:zg (λj=> -1*t j*E j i) q=zg (λj=>t j*E j i) q * -1:=by rw[<-qz];exact zh λj _=>by simp only[UC (-1),qd,UC (-1),qd]
   rw[e];refine Ul.mpr ?_;lia)
  intro j y;rcases TV j q with z|z
  .have r:=λi a=>by
    have:=f i a;rw[Z,Um]at this;have e:zg (λj=>t (q+j)*V j i) c%p=zg (λ_=>0) c%p:=zE λj y=>by rw[Tt,m j y];simp
    rw[e,zA]at this;simpa using this
   have Y:=r (R j)<|O.lt j z;rw[zG z λk I o=>by rw[O.oe k j I z (Ue o)];simp]at Y;rw[O.one j z,sM]at Y;exact Y
  .obtain⟨k,rfl⟩:∃k,j=q+k:=(j-q,())
   exact m k ()
end
noncomputable def ph(A:Nat->fh)(N d e:Nat):List Nat:=(Tn N).filter λj=>(A j).has d&&(A j).has e
section
variable{p:Int}{w:DV}{wd:DK}{T:DQ}{m N n:Nat}{A:Nat->fh}{d:Nat}
theorem rP(I:k<(ph A N d e).length):(ph A N d e).getD k 0<N/\(A<|(ph A N d e).getD k 0).has d=cC/\(A<|(ph A N d e).getD k 0).has e=cC:=by
 have O:(ph A N d e).getD k 0∈ph A N d e:=by rw[Tr,To I];exact uC _
 obtain⟨Q,y⟩:=UA.mp O;simp only[TZ]at y;exact(Tp.mp Q,y.1,y.2)
theorem Ba(d e:Nat)(t:Vc):∃a:Vc,∀k,k<(ph A N d e).length->a ((ph A N d e).getD k 0)=t k:=by refine(λj=>t<|(ph A N d e).idxOf j,λk y=>?_);have b:(ph A N d e).Nodup:=E2.sublist R7;show t _=_;rw[Tr,To y,W_,b.idxOf_getElem _ y]
theorem rO(d e:Nat)(a:Vc)(i:Nat):zg (λk=>a ((ph A N d e).getD k 0)*(A<|(ph A N d e).getD k 0).v d i) (ph A N d e).length=zg (λj=>if (A j).has d=cC then (if (A j).has e=cC then a j else 0)*(A j).v d i else 0) N:=by refine(Zt (λj=>(A j).has d&&(A j).has e) (λj=>a j*(A j).v d i) N).trans (zh λj _=>?_);lia
theorem Zz(S:Pr p)(D:i5 p w wd T m N A)(E:d+n<=m){s q:Nat}{B H:Nat->Vc}{l l2:DK}(R:fm p (wd d) s B l)(U:∀u,Span p (wd d) (d6 s B) u ↔ ∃z,Wk p w wd T d n u z)
 (P:fm p (wd d) q H l2) (Y:∀u,Span p (wd d) (d6 q H) u↔Wk p w wd T d n u λ_=>0):q+(ph A N d<|d+n).length=s:=by
 have F:=XM P;refine AW S R P (V:=λk=>(A<|(ph A N d<|d+n).getD k 0).v d) (λk y=>?_) (λv Z=>(U v).mpr (_,(Y v).mp Z)) (λv Z=>?_) λt x=>?_
 .obtain⟨O,Q,I⟩:=rP y
  exact(U _).mpr (_,Xh (D.ok _ O) Q n E I)
 .obtain⟨z,C⟩:=(U v).mp Z
  obtain⟨a,f⟩:=D.sp d () v;obtain⟨b,r⟩:=D.sp (d+n) E z;refine(λk=>a<|(ph A N d<|d+n).getD k 0,(Y _).mpr ?_);let u:=λj=>if (A j).has d=cC/\(A j).has (d+n)=cL/\w ((A j).s+(A j).n-1)=cL then (A j).v d else λ_=>0;refine sy (K3 (CP a u _ N (λj g=>by
   show Wk p w wd T d n (if _ then _ else _) _;split
   .next h=>exact cZ (D.ok j g) h.1 h.2.2 n E h.2.1
   .exact KA n)) λi o=>?_) λi _=>by simp[zA]
  rw[rO d (d+n) a i];rw[rK,f i o,<-rK];have e:zg (λj=>if (A j).has d=cC then a j*(A j).v d i else 0) N-zg (λj=>if (A j).has d=cC then (if (A j).has (d+n)=cC then a j else 0)*(A j).v d i else 0) N=zg (λj=>(if (A j).has d=cC then a j*(A j).v d i else 0)+(if (A j).has d=cC then (if (A j).has (d+n)=cC then a j else 0)*(A j).v d i else 0) * -1) N:=by rw[jG,qz];lia
  rw[e];refine zE λj g=>?_;show _=a j*(if _ then (A j).v d else λ_=>0) i%p;cases O:(A j).has d with
  |false=>simp
  | true=>
   cases Q:(A j).has (d+n)with
   |true=>
    lia
   | false=>
    cases I:w _ with
    |false=>simp
    |true=>
     simp only[if_true,UN,if_false,rJ,rb,UP,Bool.true_eq_false,and_false];rw[Tt,(((JU D n E C f r) j g O).2 Q I)];simp
 .obtain⟨a,f⟩:=Ba d (d+n) t
  intro k y;obtain⟨O,Q,I⟩:=rP y;have:=((JU D n E ((Y _).mp x) (λi o=>by
   rw[<-rO d (d+n) a i];congr 1;exact zh λk y=>by rw[f k y]) (λi _=>by
   have:zg (λj=>if (A j).has (d+n)=cC then 0*(A j).v (d+n) i else 0) N=zg (λ_=>0) N:=zh λj _=>by simp
   rw[this,zA])) _ O Q).1 I
  rw[I,DZ rfl,f k y]at this;simpa using this
theorem Vo:∀t z,mv p w wd T d (wd d) t z↔Wk p w wd T d t z λx=>z (wd d+x)
 |0,z=>Iff.rfl
 |t+1,z=>by
  exact exists_congr λu=>and_congr ((λu=>by rw[Vo t];rw[(funext z6)];exact(λh=>K3 h λi a=>by rw[zR a],λh=>K3 h λi a=>by rw[zR a])) u) Iff.rfl
end
section
theorem AB(r:Nat)(t:Vc):∃a:Vc,∀k,k<(iU A N r).length->a ((iU A N r).getD k 0)=t k:=by refine(λj=>t<|(iU A N r).idxOf j,λk y=>?_);show t _=_;rw[Tr,To y,W_,(W3 A N r).idxOf_getElem _ y]
theorem pQ(r:Nat)(a:Vc)(i:Nat):zg (λj=>if (A j).has r=cC then a j*(A j).v r i else 0) N=app (wR A N r) (iU A N r).length (λk=>a<|(iU A N r).getD k 0) i:=by rw[<-(Zt (λj=>(A j).has r) (λj=>a j*(A j).v r i) N)];unfold app;rw[xE];rfl
theorem Mp(y:j<N)(I:(A j).has r=cC):∃k,k<(iU A N r).length/\(iU A N r).getD k 0=j:=by have O:j∈iU A N r:=UA.mpr (Tp.mpr y,by simpa using I);obtain⟨i,a,e⟩:=M7 O;exact(i,a,by rw[Tr,To a];simpa using e)
theorem Gw(U:Pr p)(Y:∀k,wd k<=16)(ok:∀j,j<N->pe p w wd T m (A j))(cnt:∀r,r<=m->(iU A N r).length=wd r)(Q:∀r,r<=m->∀v:Vc,∃t,∀i,i<wd r->v i%p=app (wR A N r) (wd r) t i%p):i5 p w wd T m N A where
 ok:=ok
 cnt:=cnt
 sp:=λr y v=>by obtain⟨t,I⟩:=Q r y v;obtain⟨a,ha⟩:=AB (A:=A) (N:=N) r t;refine(a,λi hi=>?_);rw[I i hi,pQ,cnt r y];unfold app;congr 1;exact zh λk O=>by show _=_*a _;rw[ha k (by rw[cnt r y];exact O)]
 inj:=λr y t I j Z hh=>by
  obtain⟨k,O,e⟩:=Mp Z hh;have:=ZY U (Y r) (Q r y) (t:=λk=>t<|(iU A N r).getD k 0) (λi hi=>by have:=I i hi;rw[pQ,cnt r y]at this;exact this) k (by rw[<-cnt r y];exact O)
  rw[e]at this;exact this
end
section
theorem dc(F G:DW)(n k:Nat)(u:Vc)(i:Nat):app F n (app G k u) i=zg (λj=>zg (λb=>F i b*G b j) n*u j) k:=by
 unfold app;have e:zg (λb=>F i b*_) n=zg (λb=>zg (λj=>F i b*G b j*u j) k) n:=zh λb _=>by rw[<-zT];exact zh λj _=>(qd _ _ _).symm
 rw[e,jS];exact zh λj _=>qz _ _ _
theorem QY(h:Jf p n F G)(u:Vc)(z:i<n):app F n (app G n u) i%p=u i%p:=by
 rw[dc];have e:zg (λj=>zg _ n*u j) n%p=zg (λj=>gm i j*u j) n%p:=zE λj y=>by rw[Tt,h i j z y,<-Tt]
 rw[e,zG z λj _ I=>by unfold gm;rw[DJ (Ue I),rJ]];unfold gm;rw[DZ rfl,Int.one_mul]
theorem ze1(k:Nat)(u:Vc)(i:Nat):app (wL p w wd f g T k) (wd<|zS w k) u i%p=app (f<|zX w k) (wd<|zX w k) (app (T k) (wd<|zS w k)<|app (g<|zS w k) (wd<|zS w k) u) i%p:=by
 rw[dc];show _=app (λi b=>zg (λa=>f (zX w k) i a*T k a b) _) _ _ i%p;rw[dc];exact(by
  unfold app;refine zE λj _=>?_;rw[Tt];have y:wL p w wd f g T k i j%p=zg (λb=>zg (λa=>f (zX w k) i a*T k a b) (wd<|zX w k)*g (zS w k) b j) (wd<|zS w k)%p:=by unfold wL;rw[Us];refine zE λb _=>?_;rw[Tt,Us,<-Tt,UC,zh λa _=>UC _ _]
  rw[y,<-Tt])
def bp(p:Int)(wd:DK)(f:DQ)(x:fh):fh:=(x.s,x.n,λr i=>app (f r) (wd r) (x.v r) i%p)
theorem Xs(x:fh)(r i:Nat):(bp p wd f x).v r i%p=app (f r) (wd r) (x.v r) i%p:=Us _ _
theorem Ic(q:DV)(t:Vc)(F:DW)(n r i:Nat)(X:Nat->fh):zg (λj=>if q j=cC then t j*app F n ((X j).v r) i else 0) N=app F n (λi=>zg (λj=>if q j=cC then t j*(X j).v r i else 0) N) i:=by
 have a:(λi=>zg (λj=>if q j=cC then t j*(X j).v r i else 0) N)=λi=>zg (λj=>(if q j=cC then t j else 0)*(X j).v r i) N:=by funext i;exact zh λj _=>by split<;>simp
 rw[a,wg F n _ _ N i];exact zh λj _=>by split<;>simp
theorem Xr(H:0<p)(E:∀r,r<=m->Jf p (wd r) (f r) (g r))(B:∀r,r<=m->Jf p (wd r) (g r) (f r))(D:i5 p w wd T m N A):i5 p w wd (wL p w wd f g T) m N λj=>bp p wd f (A j):=by
 have l z:0<=z%p/\z%p<p:=(Uq _ (),Ub _ H);have Z:∀r i (t:Vc),zg (λj=>if (A j).has r=cC then t j*(bp p wd f<|A j).v r i else 0) N%p=app (f r) (wd r) (λi=>zg (λj=>if (A j).has r=cC then t j*_ else 0) N) i%p:=λr i t=>by
  rw[<-Ic _ t (f r) (wd r) r i A];refine zE λj _=>?_;split
  .rw[Tt,Xs,<-Tt]
  .rfl
 refine(λj Q=>?_,λr O v=>?_,λr O t U j Q Y=>?_,D.cnt)
 .have b:=D.ok j Q
  refine(b.n1,b.le,λr i _ _=>l _,λk d Y i a=>?_);rw[ze1];have e:∀x,x<_->app _ _ ((bp p wd f<|A j).v (zS w k)) x%p=_:=λx I=>by rw[jW (λy _=>Xs _ _ _),QY (B _ (by have:=GT w d;lia)) _ I]
  have h:∀x,x<_->_%p=(if _=cC then (A j).v (zX w k) x else 0)%p:=λx I=>by rw[jW e];exact b.arr k d Y x I
  rw[jW h];show _=(if (A j).has (zX w k)=cC then (bp p wd f<|A j).v (zX w k) i else 0)%p;by_cases I:(A j).has (zX w k)=cC
  .simp only[I,if_true]
   exact(Xs _ _ _).symm
  .simp only[I,if_false]
   rw[ZD (λ_ _=>by simp) i];simp
 .obtain⟨t,U⟩:=D.sp r O _
  refine(t,λi a=>?_);show _=zg (λj=>if (A j).has r=cC then t j*_ else 0) N%p;simp only[Z,<-QY (E r O) v a];exact jW U i
 .refine D.inj r O t (λi a=>?_) j Q Y
  rw[<-QY (B r O) (λi=>zg (λj=>if (A j).has r=cC then t j*(A j).v r i else 0) N) a];exact ZD (λx I=>by rw[<-Z];exact U x I) i
end
noncomputable def SH(S E:DK)(j:Nat):fh:=(S j,E j-S j+1,λ_ _=>0)
def xO(S E:DK)(N r:Nat):List Nat:=iU (SH S E) N r
def sO(S E:DK)(N j:Nat):fh:=(S j,E j-S j+1,λr i=>if (xO S E N r).getD i N=j then 1 else 0)
def As(S E:DK)(N r:Nat):Nat:=(xO S E N r).length
def Cp(w:DV)(S E:DK)(N k i j:Nat):Int:=if (xO S E N<|zX w k).getD i N=(xO S E N<|zS w k).getD j (N+1)then 1 else 0
section
variable{S E:DK}{N r:Nat}
theorem zfb:(xO S E N r).Nodup:=List.Nodup.sublist R7 E2
theorem x':j∈xO S E N r↔j<N/\(sO S E N j).has r=cC:=by unfold xO iU;rw[UA,Tp];rfl
theorem dS(h:j<N)(I:(sO S E N j).has r=cC):∃c,c<As S E N r/\(xO S E N r)[c]? = cz j:=by obtain⟨c,y⟩:=_i<|x'.mpr (h,I);exact(c,(TR.mp y).1,y)
theorem XB(h:c<As S E N r):∃j,(xO S E N r)[c]? = cz j/\(xO S E N r).getD c d=j/\j<N/\(sO S E N j).has r=cC:=by have e:=To h;obtain⟨y,I⟩:=x'.mp<|UR e;exact(_,e,by rw[Tr,e];rfl,y,I)
theorem Wp{c y j:Nat}(I:(xO S E N r)[c]? = cz j)(O:(xO S E N r)[y]? = cz j):c=y:=by exact(List.getElem?_inj (TR.mp I).1 zfb).mp (I.trans O.symm)
theorem Yw(h:c<As S E N r):(sO S E N j).v r c=if (xO S E N r)[c]? = cz j then 1 else 0:=by
 obtain⟨y,a,I,_⟩:=XB h;show(if _=j then 1 else 0)=_;rw[a,I];by_cases z:y=j
 .rw[DZ z,DZ (by rw[z])]
 .rw[DJ z,DJ (λq=>z<|UK q)]
theorem fG(H:Pr p)(B:∀j,j<N->S j<=E j/\E j<=m):i5 p w (As S E N) (Cp w S E N) m N (sO S E N):=by
 have two:=H.two;refine(λj I=>(by show 1<=_+1;lia,by show S j+(E j-S j+1)<=m+1;have:=B j I;lia,λr i _ _=>?_,λk F U i a=>?_),λr n v=>?_,λr n t u j I U=>?_,λr n=>rfl)
 .show 0<=(if _ then (1:Int)else 0)/\(if _ then 1 else 0)<p
  split<;>lia
 .refine Tf λZ=>?_;obtain⟨Y,O,Q⟩:=dS I U
  obtain⟨A,b,o,s,h⟩:=XB a;refine Z ?_;have e:app (Cp w S E N k) (As S E N<|zS w k) ((sO S E N j).v (zS w k)) i=Cp w S E N k i Y:=by
   unfold app;rw[zG O λc l y=>by rw[Yw l,DJ<|λq=>y<|Wp q Q,UP]]
   rw[Yw O,DZ Q,sM]
  rw[e];congr 1;unfold Cp;rw[show(xO S E N<|zS w k).getD Y (N+1)=j by rw[Tr,Q];rfl];by_cases g:(sO S E N j).has (zX w k)=cC
  .rw[DZ g];rfl
  .rw[DJ g,o,DJ (λz=>g<|by rw[<-z];exact h)]
 .refine(λj=>zg (λc=>if (xO S E N r)[c]? = cz j then v c else 0)<|As S E N r,λi a=>?_)
  refine Tf λZ=>?_;obtain⟨A,b,o,s,h⟩:=XB (d:=N) a;refine Z ?_;rw[zG (f:=λj=>if _=cC then _*_ else 0) s λj I y=>by rw[Yw a,show(if _=cz j then (1:Int)else 0)=0 from DJ<|λq=>y<|UK<|q.symm.trans b,UP,ite_self]]
  rw[DZ h,Yw a,DZ b,sM,zG a λc l y=>DJ λq=>y<|Wp q b,DZ b]
 .obtain⟨Y,O,Q⟩:=dS I U
  have:=u Y O;rw[zG I λx C y=>by rw[Yw O,show(if _=cz x then (1:Int)else 0)=0 from DJ<|λq=>y<|UK<|q.symm.trans Q,UP,ite_self]]at this
  rw[DZ U,Yw O,DZ Q,sM]at this;exact this
theorem Au(I:Pr p):∀k x y,0<=Cp w S E N k x y/\Cp w S E N k x y<p:=λk x y=>by have:=I.two;unfold Cp;split<;>lia
end
section
variable{p:Int}{w:DV}{wd:DK}{T:DQ}{m:Nat}
theorem lu(y:fm p (a+b) q B l)(hs:s<=q)(E:∀k,k<s->l k<a)(H:∀k,s<=k->k<q->a<=l k):
 fm p a s B l/\∀u,Span p a (d6 s B) u ↔ ∃z,Span p (a+b) (d6 q B) (qR a u z):=by
 refine({
  lt:=E
  mono:=λk m Q h=>y.mono k m Q ()
  one:=λk I=>y.one k ()
  kr:=λk j I U=>y.kr k j () U
  oe:=λk m I n Y=>y.oe k m () () Y
  i6:=λk i I d=>y.i6 k i () ()},λu=>(λO=>?_,λO=>?_))
 .obtain⟨t,Z⟩:=yv O
  refine(λj=>zg (λk=>t k*B k (a+j)) s,(Span.sum t (m:=s) λk I=>.gen (k,(),rfl)).congr λi d=>?_);rcases TV i a with z|z
  .rw[zR z,Z i z]
  .obtain⟨j,rfl⟩:∃j,i=a+j:=(i-a,())
   rw[z6]
 .obtain⟨z,g⟩:=O
  refine(vK B λk=>qR a u z<|l k).congr λi d=>?_;have:=(JD y g) i ();rw[zR d]at this;rw[this];obtain⟨e,rfl⟩:∃e,q=s+e:=(q-s,());rw[vk];have f:zg (λk=>qR a u z (l<|s+k)*B (s+k) i) e=zg (λ_=>0) e:=zh λk I=>by rw[y.kr (s+k) i () (by have:=H (s+k) () ();lia)];simp
  simp only[f,zA,rb]
theorem gX(v:Vc):Span p (b+a) (d6 q λk=>qR b (λj=>B k<|a+j)<|B k) (qR b (λ_=>0) v)↔Span p (a+b) (d6 q B) (qR a v λ_=>0):=by
 constructor
 .intro h
  refine(h.map (λi=>if i<a then b+i else i-a) (λi d=>by split<;>omega) λg y=>?_).congr λi d=>?_
  .obtain⟨k,I,rfl⟩:=y
   refine(Span.gen (k,I,rfl)).congr λi d=>?_;show qR b _ (B k) _%p=_;split
   .rw[z6]
   .rw[zR ()];congr 2;omega
  .split
   .next z=>rw[z6,zR z]
   .next z=>
    obtain⟨j,rfl⟩:∃j,i=a+j:=(i-a,());rw[z6,zR ()]
 .intro h
  refine(h.map (λi=>if i<b then a+i else i-b) (λi d=>by split<;>omega) λg y=>?_).congr λi d=>?_
  .obtain⟨k,I,rfl⟩:=y
   refine(Span.gen (g:=qR b _<|B k) (k,I,rfl)).congr λi d=>?_;split
   .next z=>rw[zR z]
   .next z=>
    obtain⟨j,rfl⟩:∃j,i=b+j:=(i-b,());rw[z6];grind
  .split
   .next z=>rw[z6,zR z]
   .next z=>
    obtain⟨j,rfl⟩:∃j,i=b+j:=(i-b,());rw[z6,zR ()];congr 2;omega
theorem FQ(H:Pr p)(Z:∀k,wd k<=7)(hT:∀k x y,0<=T k x y/\T k x y<p)(hm:m<=20)(P:i<=j)(hj:j<=m):
 ∃(s q:Nat) (B E:Nat->Vc) (l l2:DK),KD [jE p m w wd T,.int i,.int j]=cz (.val<|.int<|s-q)/\fm p (wd i) s B l/\(∀u,Span p (wd i) (d6 s B) u ↔ ∃z,Wk p w wd T i (j-i) u z)/\fm p (wd i) q E l2/\∀u,Span p (wd i) (d6 q E) u↔Wk p w wd T i (j-i) u λ_=>0:=by
 have hl:=je;have ha:=Z i;have b4:=Z j;refine Tf λkZ=>?_;obtain⟨q,B,l,M,Q,a⟩:=zeG (w:=w) H Z hT P hj;have hq:=XM Q;have U:q<=lim:=()
 obtain⟨r,G,l',t,Y,hS⟩:=k4 H (():wd j+wd i<=100) U .L _;have hr:=XM Y;obtain⟨s,A,C,F⟩:=Zu (wd i) Q.mono;obtain⟨d,f,g,n⟩:=Zu (wd j) Y.mono;obtain⟨N,S⟩:=lu Q A C F;obtain⟨W,X⟩:=JV Y f g n;refine kZ ?_;refine(s,r-d,B,_,l,_,?_,N,λu=>?_,W,λu=>?_)
 .have J:i<m+1:=()
  have as:j<m+1:=()
  have sw:zQ (.nm 0) jB (zM j6 (V6 (zf 0) (n5<|zf 1) aX)<|V6 (zf 0) aX<|n5<|zf 1) [.no,vI (wd i)] (z7 q (wd i+wd j) B)=cz (z7 q (wd j+wd i) λk=>qR (wd j) (λx=>B k<|wd i+x)<|B k):=by
   unfold z7;refine zu _ _ λk hk=>zv rfl rfl ?_;have o:wd j+wd i<=lim:=()
   simp[VU,VT,j6,o,y9]
  let R:=jE p m w wd T;let I:D:=.lst (z7 q (wd i+wd j) B);let e:D:=.lst (z7 r (wd j+wd i) G);rw[KD];refine zU (zy (γ':=[.val R,vI i,vI j,.val I,.no,.no,.no]) ?_
   (zy (γ':=[.val R,vI i,vI j,.val I,vI<|wd i,.no,.no]) ?_
   (zy (γ':=[.val R,vI i,vI j,.val I,vI<|wd i,vI<|wd j,.no]) ?_
   (zy (γ':=[.val R,vI i,vI j,.val I,vI<|wd i,vI<|wd j,.val e]) ?_ ?_))))
  .simp[e_,jd,Tq,R,I,M]
  .simp[f_,R,ZJ,J]
  .simp[g_,R,ZJ,as]
  .have K:((wd j)+(wd i))=((wd j+wd i:Nat):Int):=()
   have o:=()
   simp only[oI]at t;simp[h_,jq,R,ZJ,I,U,sw];rw[K,t];rfl
  .have r1:q-s<=lim:=()
   have f1:q-((r-d:Nat))-((q-s:Nat))=s-((r-d:Nat):Int):=()
   simp[i',I,e,wx Q U A C F,wx Y () f g n,U,r1,(),f1]
 .rw[S u]
  constructor
  .rintro⟨z,b⟩
   exact(_,K3 ((Vo (j-i) _).mp ((a _).mp b)) λx O=>by rw[zR O])
  .rintro⟨z,b⟩
   refine(z,(a _).mpr ((Vo (j-i) _).mpr ?_));rw[funext z6];exact K3 b λx O=>by rw[zR O]
 .rw[X u,hS,gX,a,Vo,funext z6]
  exact(λh=>K3 h λx O=>by rw[zR O],λh=>K3 h λx O=>by rw[zR O])
end
noncomputable def stN(M:Nat):List (Nat×Nat):=(Tn M).flatMap λi=>(Dn i<|M-i).map λj=>(i,j)
noncomputable def kI(s:Nat×Nat):List Int:=[(s.1:Int),(s.2:Int)]
noncomputable def kD(s:Nat×Nat):D:=.tup [.int s.1,.int s.2]
theorem r9:s∈stN M↔s.1<=s.2/\s.2<M:=by
 unfold stN;simp only[List.mem_flatMap,Tp,Uz,List.mem_range'_1];constructor
 .rintro⟨i,a,j,y,rfl⟩
  exact(y.1,by show j<M;lia)
 .intro h
  exact(s.1,(),s.2,(h.1,by grind),rfl)
theorem dU:∀M:Fin 7,(stN M.val).Nodup/\((stN M.val).map kI).Nodup/\(stN M.val).length<=21:=by decide +kernel
theorem Ih(M:Fin 7):qr [.int M.val]=cz (.own<|(stN M.val).map kD):=by
 have:((Tn 7).map λ(n:Nat)=>qr [.int n])=(Tn 7).map λn=>cz (.own<|(stN n).map kD):=by kernel_rfl
 exact List.map_inj_left.1 this _<|Tp.2 M.2
theorem Mo(h:kI s=kI t):s=t:=by
 unfold kI at h
 grind
theorem cK(f:Nat×Nat->D)(k:List Int):∀L:List (Nat×Nat),mn (L.map kI) (L.map f) k=(L.find? λs=>decide<|kI s=k).map f
 |[]=>rfl
 |s::L=>by
  show(if kI s=k then _ else _)=_;by_cases h:kI s=k
  .rw[DZ h,List.find?_cons_of_pos (by simpa using h)];rfl
  .rw[DJ h,List.find?_cons_of_neg (by simpa using h)];exact cK f k L
theorem rA{L:List (Nat×Nat)}{s:Nat×Nat}(h:s∈L):(L.find? λt=>decide<|kI t=kI s)=cz s:=by
 cases e:L.find? _ with
 |none=>
  have:=FL.mp e s h;simp at this
 |some t=>
  have:=List.find?_some e;rw[Mo (of_decide_eq_true this)]
noncomputable def atS(f:Nat×Nat->Int)(M:Nat)(a b:Int):Int:=if 0<=a/\a<=b/\b<M then f (a.toNat,b.toNat)else 0
theorem VM(f:Nat×Nat->Int)(M:Nat)(a b:Int):(mn ((stN M).map kI) ((stN M).map λs=>.int (f s)) [a,b]).getD (.int 0)=.int (atS f M a b):=by
 rw[cK _];unfold atS;split
 .next h=>
  have e:[a,b]=kI (a.toNat,b.toNat):=by unfold kI;simp;lia
  rw[e,rA (r9.mpr ())];rfl
 .next h=>
  rw[FL.mpr λs d z=>h ?_]
  .rfl
  .have y:=r9.mp d
   have z:=of_decide_eq_true z;unfold kI at z;lia
theorem rq(f:Nat×Nat->Int)(h:s∈stN M):mn ((stN M).map kI) ((stN M).map λs=>D.int<|f s) [(s.1),(s.2)]=cz (.int<|f s):=by rw[cK _];rw[show [(s.1:Int),(s.2)]=kI s from rfl,rA h];rfl
def Hn(f:Nat×Nat->Int)(M:Nat)(s:Nat×Nat):Int:=f s-(atS f M ((s.1:Int)-1) s.2+atS f M s.1 ((s.2:Int)+1))+atS f M ((s.1:Int)-1) ((s.2:Int)+1)
def lS(f:Nat×Nat->Int)(M:Nat):D:=.lC ((stN M).map kI) ((stN M).map λs=>.int (f s))
theorem Mi(a b:Int):Hr (.tup [.int a,.int b])=cz [a,b]:=rfl
theorem oX(f:Nat×Nat->Int)(h:s∈stN M):yJ [lS f M,.int s.1,.int s.2]=cz (.val<|.int<|Hn f M s):=by
 have y:=rq f h;rw[yJ];refine zU<|zy (γ':=[.val (lS f M),vI s.1,vI s.2,vI (atS f M ((s.1)-1) s.2+atS f M s.1 ((s.2)+1))]) ?_ ?_
 .simp[p_,jd,Tq,lS,Gg,Mi,VM f M _ s.2,(VM f M s.1 _)]
 .simp[q_,lS,Gg,Mi,VM f M _ _,y,Hn]
theorem YT(f:Nat×Nat->Int):∀L:List (Nat×Nat),vi (L.map λs=>D.tup [kD s,.int (f s)])=cz (L.map kD,L.map λs=>.int (f s))
 |[]=>rfl
 |s::L=>by show(vi _).map _=_;rw[YT f L];rfl
theorem pD:∀L:List (Nat×Nat),Aw (L.map kD)=cz (L.map kI)
 |[]=>rfl
 |s::L=>by show(Hr<|kD s).bind _=_;rw[pD L];rfl
section
theorem iO(Z:m<=5)(f:Nat×Nat->Int)(I:∀s,s∈stN (m+1)->KD [jE p m w wd T,.int s.1,.int s.2]=cz (.val<|.int<|f s)):vD [jE p m w wd T]=cz (.val<|lS (Hn f<|m+1)<|m+1):=by
 have e:=je;obtain⟨g,d,h⟩:=dU (m+1,());have O:=Ih (m+1,());have y:(stN<|m+1).length<=lim:=()
 let S:D:=.lst ((stN<|m+1).map kD);have Q:zQ (.tp [0,1]) jB (qv<|zb (qv<|zb (zf 0)<|zb (zf 1) zD)<|zb (zC KD<|zb (zf 2)<|zb (zf 0)<|zb (zf 1) zD) zD) [.no,.no,.val (jE p m w wd T)] ((stN<|m+1).map kD)=cz ((stN<|m+1).map λs=>D.tup [kD s,.int (f s)]):=by refine zu _ _ λs a=>zv rfl rfl ?_;have:=I s a;simp[this,kD]
 have U:zQ (.tp [0,1]) jB (qv<|zb (qv<|zb (zf 0)<|zb (zf 1) zD)<|zb (zC yJ<|zb (zf 2)<|zb (zf 0)<|zb (zf 1) zD) zD) [.no,.no,.val (lS f<|m+1)] ((stN<|m+1).map kD)=cz ((stN<|m+1).map λs=>D.tup [kD s,.int (Hn f (m+1) s)]):=by refine zu _ _ λs a=>zv rfl rfl ?_;have:=oX f a;simp[this,kD]
 have b:=pD<|stN<|m+1;have Y:(m+1)=((m+1:Nat):Int):=()
 rw[vD];refine zU<|zy (γ':=[.val (jE p m w wd T),.val S,.no]) ?_ (zy (γ':=[.val (jE p m w wd T),.val S,.val (lS f<|m+1)]) ?_ ?_)
 .simp[n_,jd,Tq,ZJ]
  rw[Y,O];rfl
 .simp[I0,jq,S,y,Q,YT f _,b,d,lS]
 .simp[o_,jq,S,y,U,YT _ _,b,d]
  rfl
end
noncomputable def yV:List Int->Int
 |[]=>0
 |x::r=>x+yV r
theorem Xx:∀L,gY (L.map D.int)=cz (yV L)
 |[]=>rfl
 |x::L=>by show(gY _).map _=_;rw[Xx L];rfl
noncomputable def kv(K:List (Nat×Nat))(a b:Int):Nat:=K.countP λx=>decide ((x.1:Int)<=a)&&decide (b<=(x.2:Int))
noncomputable def o9(K:List (Nat×Nat))(s:Nat×Nat):Nat:=K.countP λx=>decide<|x=s
theorem Xd(x:Nat×Nat)(K:List (Nat×Nat))(a b:Int):(kv (x::K) a b)=(kv K a b:Int)+if (x.1)<=a/\b<=(x.2)then 1 else 0:=by
 unfold kv
 grind
theorem Ak(x s:Nat×Nat)(K:List (Nat×Nat)):(o9 (x::K) s)=(o9 K s:Int)+if (x.1=s.1/\x.2=s.2)then 1 else 0:=by
 unfold o9;rw[_a];by_cases h:x=s
 .rw[DZ (decide_eq_true h),DZ (by rw[h];exact(rfl,rfl))];rfl
 .rw[DJ (by simpa using h),DJ λz=>h (Prod.ext z.1 z.2)];rfl
theorem Mw{p p' q y e f:Prop} [Decidable p] [Decidable p'] [Decidable q] [Decidable y] [Decidable e] [Decidable f]{A B C E M:Int}(I:p'->p)(O:y->q)(Q:e↔p/\¬p')(U:f↔q/\¬y)(Y:A-(B+C)+E=M):A+(if p/\q then 1 else 0)-(B+(if p'/\q then 1 else 0)+(C+if p/\y then 1 else 0))+(E+if p'/\y then 1 else 0)=M+if e/\f then 1 else 0:=by
 by_cases p'<;>by_cases y<;>simp_all<;>try split
 all_goals lia
theorem Jx(s:Nat×Nat):∀K,(kv K s.1 s.2)-((kv K ((s.1:Int)-1) s.2)+(kv K s.1<|(s.2:Int)+1))+(kv K ((s.1:Int)-1)<|(s.2:Int)+1)=(o9 K s:Int)
 |[]=>rfl
 |x::K=>by rw[Xd,Xd,Xd,Xd,Ak];exact Mw () () () ()<|Jx s K
section
noncomputable def JT(A:Nat->fh)(N:Nat):List (Nat×Nat):=(Tn N).map λj=>((A j).s,(A j).s+(A j).n-1)
theorem vY(D:i5 p w wd T m N A):∀x,x∈JT A N->x∈stN (m+1):=λx I=>by obtain⟨j,y,rfl⟩:=Uz.mp I;have O:=(D.ok j<|Tp.mp y).n1;have Q:=(D.ok j<|Tp.mp y).le;exact r9.mpr ()
theorem YH(D:i5 p w wd T m N A)(I:i<=j):(ph A N i j).length=kv (JT A N) i j:=by unfold ph kv JT;rw[<-De,E6];refine u7 λk y=>?_;have O:=(D.ok k<|Tp.mp y).n1;simp only[TZ,R8,decide_eq_true_eq];rw[i4,i4];omega
theorem GY(D:i5 p w wd T m N A)(I:a<=b):atS (λs=>(kv (JT A N) s.1 s.2:Int)) (m+1) a b=(kv (JT A N) a b:Int):=by
 unfold atS;split
 .next h=>
  show((kv (JT A N) (a.toNat:Int) (b.toNat:Int):Nat):Int)=_;rw[FG h.1,FG ()]
 .next h=>
  have:kv (JT A N) a b=0:=by unfold kv;rw[D5];intro x y z;have:=r9.mp<|vY D x y;simp only[TZ,decide_eq_true_eq]at z;omega
  rw[this];rfl
theorem LN(D:i5 p w wd T m N A)(hs:s.1<=s.2):Hn (λs=>(kv (JT A N) s.1 s.2:Int)) (m+1) s=(o9 (JT A N) s:Int):=by unfold Hn;rw[GY D (),GY D (),GY D ()];exact Jx s _
theorem Ay(I:Pr p)(Q:∀k,wd k<=7)(U:∀k x y,0<=T k x y/\T k x y<p)(Y:m<=20)(D:i5 p w wd T m N A)(O:i<=j)(Z:j<=m):KD [jE p m w wd T,.int i,.int j]=cz (.val<|.int<|(kv (JT A N) i j:Nat)):=by refine Tf λg=>?_;obtain⟨s,q,B,h,l,n,e,a,b,d,f⟩:=FQ I Q U Y O Z;refine g ?_;have:=Zz I D () a b d f;rw[show i+(j-i)=j by lia]at this;rw[e,<-YH D O];congr 3;lia
end
theorem Lg(h:0<=c):∃q:Nat,Pr q/\([D.int 2,.int 3,.int 5,.int 7])[(c%4).toNat]? = cz (.int q)/\hO 4 (c%4)=cz (c%4).toNat:=by
 obtain⟨r,y⟩:=Nd (Uq c<|show 4≠0 by decide);rw[y];have I:r<4:=()
 rcases (():r=0\/r=1\/r=2\/r=3)with e|e|e|e<;>subst e
 .exact(2,.inl rfl,rfl,rfl)
 .exact(3,.inr<|.inl rfl,rfl,rfl)
 .exact(5,.inr<|.inr<|.inl rfl,rfl,rfl)
 .exact(7,.inr<|.inr<|.inr rfl,rfl,rfl)
section
theorem iM(I:Pr p)(O:∀k,wd k<=7)(Q:∀k x y,0<=T k x y/\T k x y<p)(U:m<=5)(D:i5 p w wd T m N A):vD [jE p m w wd T]=cz (.val<|lS (λs=>(o9 (JT A N) s:Int))<|m+1):=by
 rw[iO U (λs=>(kv (JT A N) s.1 s.2:Int)) λs a=>by have:=r9.mp a;exact Ay I O Q () D this.1 ()]
 congr 2;unfold lS;congr 1;exact Ug λs a=>by rw[LN D (r9.mp a).1]
end
noncomputable def bS(bs:List (Int×Int))(j:Nat):Nat:=(bs.getD j (0,0)).1.toNat
noncomputable def bE(bs:List (Int×Int))(j:Nat):Nat:=(bs.getD j (0,0)).2.toNat
abbrev bW(bs:List (Int×Int)):Nat->Nat:=As (bS bs) (bE bs) bs.length
abbrev bT(w:DV)(bs:List (Int×Int)):Nat->Nat->Nat->Int:=Cp w (bS bs) (bE bs) bs.length
abbrev bL(bs:List (Int×Int))(r:Nat):List Nat:=xO (bS bs) (bE bs) bs.length r
section
theorem si(h:∀b∈bs,ya ((m+1:Nat)) b)(y:j<bs.length):bs[j]? = cz ((bS bs j:Int),(bE bs j:Int))/\bS bs j<=bE bs j/\bE bs j<=m:=by
 have e:=To y;obtain⟨I,O,Q⟩:=(h _<|UR e);unfold bS bE
 grind
end
section
theorem GU(h:∀b∈bs,ya ((m+1:Nat)) b):bs=(Tn bs.length).map λj=>((bS bs j:Int),(bE bs j:Int)):=by
 apply F4;intro j;by_cases y:j<bs.length
 .rw[(si h y).1];simp[y]
 .rw[List.getElem?_eq_none (),List.getElem?_eq_none (by simpa using y)]
end
theorem WR:∀bs:List (Int×Int),o4 (zY bs)=cC
 |[]=>rfl
 |b::bs=>by have y:=WR bs;unfold zY at y ⊢;rw[UL];show(i9 _&&o4 _)=cC;rw[y];rfl
section
theorem ff(I:∀x,x∈K->x∈stN M)(O:∀x,x∈K'->x∈stN M)(h:∀a b,a<=b->b<M->kv K a b=kv K' a b)(hs:s.1<=s.2):o9 K s=o9 K' s:=by
 have z:∀{L:List (Nat×Nat)} {a b:Int},(∀x,x∈L->x∈stN M)->a<0\/M<=b->kv L a b=0:=λ{L a b} Q U=>by unfold kv;rw[D5];intro x Y q;have:=r9.mp<|Q x Y;simp only[TZ,decide_eq_true_eq]at q;lia
 have y:∀{a b:Int},a<=b->kv K a b=kv K' a b:=λ{a b} U=>by
  by_cases c:a<0\/M<=b
  .rw[z I c,z O c]
  .have:=h a.toNat b.toNat () ()
   rw[FG (),FG ()]at this;exact this
 have d:=Jx s K;have e:=Jx s K';rw[y (),y (),y (),y ()]at d;lia
end
section
noncomputable def x7(w:DV)(A:Nat->fh)(d n:Nat)(z:Bool)(j:Nat):Bool:=(A j).has d&&((!z&&(A j).has (d+n)) || (!(A j).has (d+n)&&!w ((A j).s+(A j).n-1)))
def I7(w:DV)(A:Nat->fh)(d n:Nat)(z:Bool)(j:Nat):Vc:=if x7 w A d n z j=cC then (A j).v d else λ_=>0
theorem Fw(D:i5 p w wd T m N A)(B:d+n<=m)(O:j<N):∃y,Wk p w wd T d n (I7 w A d n z j) y/\(z=cC->∀i,y i=0):=by
 unfold I7;by_cases h:x7 w A d n z j=cC
 .rw[DZ h]
  unfold x7 at h;simp only[TZ,y6,F6]at h;obtain⟨Q,U⟩:=h;rcases U with⟨a,I⟩|⟨I,Y⟩
  .exact(_,Xh (D.ok j O) Q n B I,λq=>by lia)
  .exact(_,cZ (D.ok j O) Q Y n B I,λ_ _=>rfl)
 .rw[DJ h];exact(_,KA n,λ_ _=>rfl)
theorem Vq(D:i5 p w wd T m N A)(B:d+n<=m)(z:Bool)(u:Vc):Span p (wd d) (d6 N<|I7 w A d n z) u ↔ ∃y,Wk p w wd T d n u y/\(z=cC->∀i,y i%p=0):=by
 constructor
 .intro h
  induction h with
  |zero h=>exact(_,K3 (KA n) λi k=>by simp_all,λ_ _=>by simp)
  |step l _ e o=>
   obtain⟨y,U,Y⟩:=o;obtain⟨j,I,rfl⟩:=l;obtain⟨x,g1,g2⟩:=Fw D B I;refine(_,K3 (sA n _ U g1) e,λq i=>?_);simp only[g2 q i,UP,rb];exact Y q i
 .rintro⟨y,U,Y⟩
  obtain⟨a,f⟩:=D.sp d () u;obtain⟨b,Z,r⟩:∃b:Vc,(∀i,i<wd (d+n)->y i%p=zg (λj=>if (A j).has (d+n)=cC then b j*(A j).v (d+n) i else 0) N%p)/\(z=cC->∀j,b j=0):=by
   cases z with
   |false=>
    obtain⟨b,Z⟩:=D.sp (d+n) B y;exact(b,Z,λq=>nomatch q)
   |true=>exact(λ_=>0,λi _=>by rw[Y rfl i,zh (g:=λ_=>0) λj _=>by simp,zA];simp,λ_ _=>rfl)
  refine(Span.sum a λj I=>.gen (j,I,rfl)).congr λi k=>?_;rw[f i k];refine zE λj I=>?_;unfold I7;by_cases O:(A j).has d=cC
  .obtain⟨s,t⟩:=(JU D n B U f Z) j I O
   rw[DZ O];by_cases Q:x7 w A d n z j=cC
   .rw[DZ Q]
   .rw[DJ Q,UP]
    have:a j%p=0:=by
     unfold x7 at Q;rw[O]at Q;cases h4:(A j).has (d+n)with
     |true=>
      simp_all
     |false=>
      lia
    rw[Tt,this];simp
  .have:x7 w A d n z j=cL:=by unfold x7;rw[Bool.not_eq_true]at O;rw[O];rfl
   simp_all
theorem GG(I:Pr p)(D:i5 p w wd T m N A)(U:i5 p w wd T m N' A')(Y:a<=b)(O:b<=m):kv (JT A N) a b=kv (JT A' N') a b:=by refine Tf λo=>?_;obtain⟨n,rfl⟩:∃n,b=a+n:=(b-a,by grind);obtain⟨s,_,B,l,Z,k⟩:=vm I N _;obtain⟨q,_,r,C,d,j⟩:=vm I N _;refine o ?_;have f:∀u,_ ↔ ∃z,Wk p w wd T a n u z:=λu=>(k u).trans ((Vq D O cL u).trans (λQ=>by obtain⟨y,h,_⟩:=Q;exact(y,h),λ(y,h)=>(y,h,λq=>nomatch q)));have e:∀u,_↔Wk p w wd T a n u λ_=>0:=λu=>(j u).trans ((Vq D O cC u).trans (λQ=>by obtain⟨y,h,g⟩:=Q;exact sy h λi _=>by rw[g rfl i];simp,λh=>(_,h,λ_ _=>by simp)));have t:=Zz I D O Z f d e;have x:=Zz I U O Z f d e;simp only[<-YH D Y,<-YH U Y];lia
theorem XQ(I:Pr p)(D:i5 p w wd T m N A)(y:i5 p w wd T m N' A'):(JT A N).Perm (JT A' N'):=by
 refine D4.mpr λs=>?_;have e K:K.count s=o9 K s:=by unfold o9 List.count;lia
 rw[e,e];by_cases d:s.1<=s.2
 .exact ff (vY D) (vY y) (λa b O U=>GG I D y O ()) d
 .have z K:(∀x,x∈K->x∈stN (m+1))->o9 K s=0:=λh=>by
   unfold o9;rw[D5];intro x Q q;have:=(r9.mp<|h x Q).1;rw[(of_decide_eq_true q)]at this;exact d this
  rw[z _ (vY D),z _ (vY y)]
theorem Vl(h:∀b∈bs,ya ((m+1:Nat)) b)(r:Nat):j4 bs r=bL bs r:=by
 unfold j4 bL xO iU;refine List.filter_congr λj y=>?_;obtain⟨e,O,Q⟩:=si h<|Tp.mp y;have I:bs.getD j (0,0)=((bS bs j:Int),(bE bs j:Int)):=by rw[Tr,e];rfl
 rw[I];show Cw _ _=(decide (bS bs j<=r)&&decide (r<bS bs j+(_+1)));unfold Cw;dsimp only;congr 1
 .exact decide_eq_decide.mpr ()
 .exact decide_eq_decide.mpr ()
end
section
theorem Eh(h:∀b∈bs,ya ((m+1:Nat)) b)(k:Nat):((j4 bs<|zX w k).map λx=>D.lst<|(j4 bs<|zS w k).map λy=>D.int<|if x=y then 1 else 0)=kh (dH w (bW bs) k) (dq w (bW bs) k) (bT w bs k):=by
 rw[Vl h,Vl h];unfold kh;rw[<-jt,<-jw]
 conv=>lhs;rw[<-jv bs.length (bL bs<|zX w k),Uu]
 refine Ug λi a=>?_;show D.lst _=_;congr 1;rw[j9]
 conv=>lhs;rw[<-jv (bs.length+1) (bL bs<|zS w k),Uu]
 rfl
theorem aK(H:m<=5)(R:bs.length<64)(h:∀b∈bs,ya ((m+1:Nat)) b):xw [.str (yP m w),.lst (zY bs)]=cz (.val<|ZV m w (bW bs)<|bT w bs):=by
 have S:=je;have d:bs.length<=lim:=()
 have B:=vG m w;have g:=xD w (():m<=1000);have u:∀r:Int,(j4 bs r).length<=lim:=λr=>by have:=oB bs r;lia
 let N:=λs=>(Tn s).map λ(r:Nat)=>D.lst<|pb<|j4 bs r;let γ:Cell->Cell->Cell->Cell->Cell->Cell->Ctx:=λO I C Q U Y=>[.val (.str<|yP m w),.val<|.lst<|zY bs,O,I,C,Q,U,Y];have one:∀(s:Nat) O,Bg (γ O (vI s) .no .no .no .no)=cz (pb<|j4 bs (s:Int)):=λs O=>by
  unfold Bg;rw[qS,show jg (JR<|zm 1) (γ O (vI s) .no .no .no .no)=cz ((Tn bs.length).map λ(i:Nat)=>D.int i)by
   simp[γ,QF d,qh];rfl]
  simp only[Tx,Ua,UM,d,if_true];exact(by
   refine jD _ _ _ λi G=>(_,rfl,?_,λ_=>rfl);have e:(zY bs)[i]? = cz (D.tup [.int (bs.getD i (0,0)).1,.int (bs.getD i (0,0)).2]):=by unfold zY;rw[UE,Tr,To (Tp.mp G)];rfl
   have t:zH (cI (zm 1)<|zf 0) [Cell.val (D.int (i:Int)),.val<|.lst<|zY bs,vI s]=cz (.T,[.int (bs.getD i (0,0)).1,.int (bs.getD i (0,0)).2]):=by simp_all
   show sB (Yg xr xr (cI (zH<|cI (zm 1)<|zf 0)<|sI 0) (zf 2)<|cI (zH<|cI (zm 1)<|zf 0)<|sI 1) [Cell.val (D.int i),.val<|.lst<|zY bs,vI s]=_;have n:cI (zH<|cI (zm 1)<|zf 0) (sI 0) [Cell.val (D.int (i:Int)),.val<|.lst<|zY bs,vI s]=cz (.int (bs.getD i (0,0)).1):=by rw[vg,t];rfl
   have o:cI (zH<|cI (zm 1)<|zf 0) (sI 1) [Cell.val (D.int (i:Int)),.val<|.lst<|zY bs,vI s]=cz (.int (bs.getD i (0,0)).2):=by rw[vg,t];rfl
   generalize bs.getD i (0,0)=b at n o;simp[-vg,n,o,Cw];by_cases q:b.1<=s<;>simp[q])
 have Z s:(N s).length=s:=by simp[N]
 have p r:r<m+1->(N<|m+1)[r]? = cz (D.lst<|pb<|j4 bs (r:Int)):=λl=>by simp[N,l]
 have K s:(yQ s w (bW bs)<|bT w bs).length=s:=by simp[yQ]
 have j:m+1<=lim:=()
 refine Tf λJ=>?_;obtain⟨_,M,I,rfl⟩:=jY (T:=.nm 3) (F:=qH 2<|jX Bg) (f:=zM j6 (wZ<|zf 0)<|sI 1)
  (λs γ'=>∃I,γ'=γ (.own<|N s) I .no .no .no .no) (m+1) j (γ:=γ (.own []) .no .no .no .no .no) (by simp[γ,B,g]) (.no,rfl) (by
    rintro s a _ ⟨I,rfl⟩;refine(γ (.own<|N s) (vI s) .no .no .no .no,γ (.own<|N<|s+1) (vI s) .no .no .no .no,rfl,?_,_,rfl);rw[show N (s+1)=N s++[D.lst (pb<|j4 bs s)]from qT _ _];exact PK (L:=N s) rfl (by rw[ZP,one];rfl)<|by rw[Z];lia)
 obtain⟨_,P,Q,U,Y,rfl⟩:=jY (T:=.nm 5) (F:=MU) (f:=wZ<|zf 0)
  (λs γ'=>∃Q U Y,γ'=γ (.val<|.lst<|N<|m+1) I (.own<|yQ s w (bW bs)<|bT w bs) Q U Y) m () (by simp[γ,B,g]) (.no,.no,.no,rfl) (by
    rintro s a _ ⟨Q,U,Y,rfl⟩;have z:=v9 (w:=w) a;have A:=wc (w:=w) a;refine(_,γ (.val<|.lst<|N<|m+1) I (.own<|yQ (s+1) w (bW bs)<|bT w bs) (vI s) (.val<|.int<|zS w s)<|vI<|zX w s,rfl,zy (γ':=γ (.val<|.lst<|N<|m+1) I (.own<|yQ s w (bW bs)<|bT w bs) (vI s) (.val<|.int<|zS w s)<|vI<|zX w s) (by simp[γ,(yL (w:=w) H a)]) ?_,_,_,_,rfl);have E:zQ (.nm 0) jB GQ [Cell.no,.val<|.lst<|N<|m+1,vI (zS w s:Nat)] (pb<|j4 bs (zX w s:Nat))=cz ((j4 bs (zX w s:Nat)).map λx=>D.lst<|(j4 bs (zS w s:Nat)).map λy=>D.int<|if x=y then 1 else 0):=by unfold pb;refine zu _ _ λx W=>zv (γ1:=[vI x,.val<|.lst<|N<|m+1,vI (zS w s:Nat)]) rfl rfl ?_;simp only[GQ,ZP,qS,ZE,kG,vg,xf,vc,Uj,Uo,jz,jN,j8,Tx,Uy,xc,Z,qL,A,if_true,p _ A,fe,u];rw[show jq 1 [0] _=[Cell.no,vI x]from rfl,FV];rfl
    rw[show yQ (s+1) w (bW bs) (bT w bs)=yQ s w (bW bs) (bT w bs)++[D.lst (kh (dH w (bW bs) s) (dq w (bW bs) s)<|bT w bs s)]from qT _ _];refine PK (L:=yQ s w (bW bs)<|bT w bs) rfl ?_ (by rw[K];lia);rw[<-Eh h];simp only[MS,γ,ZP,qS,ZE,kG,vg,xf,vc,Uj,Uo,jz,jN,j8,Tx,Uy,xc,Z,qL,z,if_true,p _ z,fe,u];rw[show jq 1 [2,6] _=[Cell.no,.val<|.lst<|N<|m+1,vI (zS w s:Nat)]from rfl,E];rfl)
 refine J ?_;rw[xw];refine zU<|zy rfl<|zy M<|zy (γ':=γ (.val<|.lst<|N<|m+1) I (.own []) .no .no .no) rfl<|zy P ?_;have v:zQ (.nm 0) jB (JR<|zm 0) [Cell.no] (N<|m+1)=cz (zO (m+1) λk=>(bW bs k:Int)):=by
  rw[j9];refine zu _ _ λr l=>zv (γ1:=[.val (D.lst<|pb<|j4 bs (r:Int))]) rfl rfl ?_;have e:(j4 bs (r:Int)).length=bW bs r:=by rw[Vl h];rfl
  simp_all
 simp[MT,γ,Z,j,jq,v,ZV]
end
theorem Aq(e:∀i j,i<h->j<w->f i j=g i j):kh h w f=kh h w g:=by unfold kh;refine Ug λi a=>?_;rw[y8 λj y=>e i j (Tp.mp a) y]
section
theorem YX(Z:0<p)(P:p<=7)(B:h<=60)(E:n<=60)(H:w<=60)(z:∀i k,i<h->k<n->0<=f i k/\f i k<p):jK [.int p,.lst<|kh h n f,.lst<|kh n w g,.int w]=cz (.own<|kh h w λi j=>zg (λk=>f i k*g k j) n%p):=by
 have A:=je;have Q:n<=lim:=()
 have U:w<=lim:=()
 have m i j:i<h->j<w->Ee [vI j,vI p,.val<|.lst<|kh n w g,.val (.lst<|zO n<|f i)]=cz (zO n λk=>f i k*g k j):=λd Y=>by
  have a:jg (JR<|zm 3) [vI j,vI p,.val<|.lst<|kh n w g,.val (.lst<|zO n<|f i)]=cz ((Tn n).map λ(k:Nat)=>D.int k):=by simp[(QF Q),qh];rfl
  unfold Ee;rw[qS,a];simp only[Tx,Ua,UM,Q,if_true];refine zu _ _ λk y=>zv (γ1:=[_,vI j,.val<|.lst<|kh n w g,.val (.lst<|zO n<|f i)]) rfl rfl ?_;have y:=Tp.mp y;have o:cI (zm 3) (zf 0) [vI k,vI j,.val<|.lst<|kh n w g,.val (.lst<|zO n<|f i)]=cz (.int<|f i k):=by show((hO (zO n<|f i).length k).bind λx=>(zO n<|f i)[x]?)=_;rw[wa,qL,DZ y];exact Xb _ y
  have t:cI (zH<|cI (zm 2)<|zf 0) (zf 1) [vI k,vI j,.val<|.lst<|kh n w g,.val (.lst<|zO n<|f i)]=cz (.int<|g k j):=by
   have e:(kh n w g)[k]? = cz (D.lst<|zO w<|g k):=by unfold kh;rw[UE,M8 y];rfl
   simp_all
  have b:=z i k d y;have c:YJ (f i k) (g k j)=cC:=wK _ _ () ();simp only[JL,o,t];simp[c]
 have row i:i<h->∀I,tJ [vI p,.val<|.lst<|kh h n f,.val<|.lst<|kh n w g,vI w,I,.val (.lst<|zO n<|f i)]=cz (zO w λj=>zg (λk=>f i k*g k j) n%p):=λd I=>by
  have a:jg (zf 3) [vI p,.val<|.lst<|kh h n f,.val<|.lst<|kh n w g,vI w,I,.val (.lst<|zO n<|f i)]=cz ((Tn w).map λ(k:Nat)=>D.int k):=by have r:=QF U;simp[r,qh];rfl
  unfold tJ;simp only[qS,a];simp only[Tx,Ua,UM,U,if_true];refine zu _ _ λj Y=>zv (γ1:=[_,vI p,.val<|.lst<|kh n w g,.val (.lst<|zO n<|f i)]) rfl rfl ?_;simp only[JL,gD,Zo,(m i j d<|Tp.mp Y)];simp[wW,Z]
 let γ:Cell->Cell->Ctx:=λI O=>[vI p,.val<|.lst<|kh h n f,.val<|.lst<|kh n w g,vI w,I,O];let R:Nat->List D:=λs=>kh s w λi j=>zg (λk=>f i k*g k j) n%p;obtain⟨_,e,O,rfl⟩:=VP (T:=.nm 5) (F:=qH 4<|jX tJ) (g:=λi=>D.lst<|zO n<|f i) (γ:=γ (.own []) .no) (λs l=>∃O,l=γ (.own<|R s) O) h (.no,rfl) (by
  rintro s u _ ⟨O,rfl⟩;refine(_,γ (.own<|R<|s+1)<|.val<|.lst<|zO n<|f s,rfl,?_,_,rfl);rw[show R (s+1)=R s++[D.lst (zO w λj=>zg (λk=>f s k*g k j) n%p)]from qT _ _];exact PK (L:=R s) rfl (by rw[ZP];exact congrArg _<|row s u _)<|by simp[R];lia)
 exact zU<|zy rfl<|zy e rfl
end
section
theorem ID(ad:ns.length<=63)(z:Pr p)(P:m<=5)(hb:bs.length<=16)(h:∀b∈bs,ya ((m+1:Nat)) b)(h0:0<=a)(E:a<=1000):
 ∃f g,(∀k,k<m+1->Pair p (bW bs k) (f k) (g k))/\xh [JB ns,.int a,.int p,.str<|yP m w,.lst (zY bs)]=cz (.val<|ZV m w (bW bs)<|wL p w (bW bs) f g<|bT w bs):=by
 have hl:=je;have J:=z.pos;have K:=z.le;have x:=λk=>by
  have:bW bs k<=bs.length:=by unfold bW As xO;exact TJ (Nf _ _) ()
  omega
 have S:∀k i j,0<=bT w bs k i j/\bT w bs k i j<p:=(Au z);have M:=aK (w:=w) P () h;generalize bW bs=wd at *;generalize bT w bs=T at *;have L:∀k:Nat,∃l:(Nat->Nat->Int)×(Nat->Nat->Int),k<m+1->Pair p (wd k) l.1 l.2/\ke [JB ns,.int<|a+9*(k:Int),.int p,.int (wd k:Nat)]=cz (.val<|.tup [.lst (xj (wd k) l.1),.lst (xj (wd k) l.2)]):=λk=>by
  by_cases Q:k<m+1
  .obtain⟨f,g,E,R⟩:=HW ad z (n:=wd k) (by have:=x k;lia) (show(0:Int)<=a+9*(k:Int)by lia) ()
   exact((f,g),λ_=>(E,R))
  .exact((λ_ _=>0,λ_ _=>0),λh=>absurd h Q)
 obtain⟨y,o⟩:=D7 L;refine(λk=>(y k).1,λk=>(y k).2,λk Q=>(o k Q).1,?_);let U:=λs=>(Tn s).map λk=>D.tup [.lst (xj (wd k) (y k).1),.lst (xj (wd k) (y k).2)];let Z:=λs=>yQ s w wd<|wL p w wd (λk=>(y k).1) (λk=>(y k).2) T;let γ:Cell->Cell->Cell->Cell->Cell->Cell->Ctx:=λN I u Y e O=>[.val (JB ns),vI a,vI p,.val<|.str<|yP m w,.val<|.lst<|zY bs,.val<|.lst<|zO (m+1) λk=>(wd k:Int),.val<|.lst<|yQ m w wd T,N,I,u,Y,e,O];have G s:(U s).length=s:=by simp[U]
 have lZ s:(Z s).length=s:=by simp[Z,yQ]
 have C r:r<m+1->(U<|m+1)[r]? = cz (.tup [.lst (xj (wd r) (y r).1),.lst (xj (wd r) (y r).2)]):=λX=>by simp[U,X]
 have j0:hO 2 0=cz 0:=rfl;have j1:hO 2 1=cz 1:=rfl;refine Tf λkZ=>?_;obtain⟨_,s3,I,rfl⟩:=jY (T:=.nm 8) (F:=EG) (f:=JR<|zm 5) (γ:=γ (.own []) .no .no .no .no .no) (λs γ'=>∃I,γ'=γ (.own<|U s) I .no .no .no .no) (m+1) () (by simp[γ]) (.no,rfl) (by
  rintro s d _ ⟨I,rfl⟩;have u:YJ 9 (s:Int)=cC:=wK _ _ () ();have t:s<lim:=()
  refine(_,γ (.own<|U<|s+1) (vI s) .no .no .no .no,rfl,?_,_,rfl);rw[show U (s+1)=U s++[.tup [.lst (xj (wd s) (y s).1),.lst (xj (wd s) (y s).2)]]from qT _ _];simp only[EG,γ,vA,vh,jQ,vz,JL,vg,xf,vc,Zp,Uj,Uo,jz,jN,qZ,Tx,Uy,xc,j8,wa,qL,d,if_true,Xb (λk=>(wd k:Int)) d,gb,u,gd,(o s d).2,mi,G,t,vr,vp])
 obtain⟨_,s5,I,Y,e,O,rfl⟩:=jY (T:=.nm 8) (F:=Iz) (f:=wZ<|zf 3) (λs γ'=>∃I Y e O,γ'=γ (.own<|U<|m+1) I (.own<|Z s) Y e O) m () (γ:=γ (.own<|U<|m+1) I (.own []) .no .no .no) (by simp[γ,vG m w,(xD w<|show m<=1000 by lia)]) (I,.no,.no,.no,rfl) (by
  rintro s d _ ⟨I,Y,e,O,rfl⟩;have A:=v9 (w:=w) d;have B:=wc (w:=w) d;have q1:=x<|zX w s;have q2:=x<|zS w s;let H:Nat->Nat->Int:=λi j=>zg (λk=>T s i k*(y<|zS w s).2 k j) (wd<|zS w s)%p;have x1:jK [.int p,.lst<|kh (dH w wd s) (dq w wd s)<|T s,.lst<|xj (wd<|zS w s) (y<|zS w s).2,.int (wd (zS w s):Nat)]=cz (.own<|kh (wd<|zX w s) (wd<|zS w s) H):=by rw[<-jt,<-jw];exact YX (g:=(y<|zS w s).2) J K () () () λi k _ _=>S s i k
  have x2:jK [.int p,.lst<|xj (wd<|zX w s) (y<|zX w s).1,.lst<|kh (wd<|zX w s) (wd<|zS w s) H,.int (wd (zS w s):Nat)]=cz (.own<|kh (dH w wd s) (dq w wd s)<|wL p w wd (λk=>(y k).1) (λk=>(y k).2) T s):=by refine(YX (f:=(y<|zX w s).1) J K () () () λi k W Q=>(o _ A).1.bf i k W Q).trans ?_;rw[<-jt,<-jw,Aq λi j _ _=>(Wh p (y<|zX w s).1 (T s) (y<|zS w s).2 (wd<|zX w s) (wd<|zS w s) i j).trans ?_];unfold wL;congr 2;funext b;rw[UC];congr 3;funext k;exact UC _ _
  have t:s<lim:=()
  refine(_,γ (.own<|U<|m+1) (vI s) (.own<|Z<|s+1) (vI (zS w s:Nat)) (.val<|.int (zX w s:Nat))<|.val<|.lst<|kh (wd<|zX w s) (wd<|zS w s) H,rfl,zy (γ':=γ (.own<|U<|m+1) (vI s) (.own<|Z s) (vI (zS w s:Nat)) (.val<|.int (zX w s:Nat)) O) (by simp[γ,(yL (w:=w) P d)]) ?_,_,_,_,_,rfl);rw[show Z (s+1)=Z s++[D.lst (kh (dH w wd s) (dq w wd s)<|wL p w wd (λk=>(y k).1) (λk=>(y k).2) T s)]from qT _ _];simp only[Iy,Iw,γ,jf,ZO,ZP,Xk,vA,jQ,vz,vg,kG,xf,vc,Zp,Uj,Uo,Up,UX,pz,Di,jz,Kr,jN,qZ,Tx,Uy,xc,j8,qc,wa,qL,d,A,B,if_true,Xb (λk=>(wd k:Int)) B,j0,j1,show(yQ m w wd T).length=m by simp[yQ],show(yQ m w wd T)[s]? = cz (.lst<|kh (dH w wd s) (dq w wd s)<|T s)by unfold yQ;simp[d],G,C _ A,C _ B,x1,x2,um,lZ,t,vr,vp])
 refine kZ ?_;rw[xh];exact zU<|zy (γ':=γ .no .no .no .no .no .no) (by simp[jd,M,ZV,γ])<|zy rfl<|zy s3<|zy rfl<|zy s5 rfl
end
def yU(z:List Int)(t p l8:Int)(w i j:Nat):Int:=JF z (t+(w:Int)*(i:Int)+(j:Int))/7%p*(if l8<=JF z (t+(w:Int)*(i:Int)+(j:Int))/64%3 then 1 else 0)
theorem mT{j:List Int}(z:j.length<=63){t p l8:Int}(R:0<=t)(ad:t<1000)(B:0<p)(H:p<10){h w:Nat}(P:h<=10)(E:w<=10):
 kJ [JB j,.int t,.int p,.int h,.int w,.int l8]=cz (.own<|kh h w<|yU j t p l8 w):=by
 have L:=je;let γ:Cell->Cell->Cell->Cell->Cell->Ctx:=λO Q U y I=>[.val (JB j),vI t,vI p,vI h,vI w,vI l8,O,Q,U,y,I];have d:∀s (u:Nat->Int),zO (s+1) u=zO s u++_:=λs u=>qT _ _;have e:∀(i:Nat) (O y I:Cell),i<10->∃Y Z,(wU (jg<|zf 4) (.nm 9) AI) (γ O (vI i) (.own []) y I)=cz (.next<|γ O (vI i) (.own<|zO w<|yU j t p l8 w i) Y Z):=by
  intro i O y I K;obtain⟨_,q,Y,Z,rfl⟩:=jY (T:=.nm 9) (F:=AI) (f:=zf 4) (λs a=>∃y I,a=γ O (vI i) (.own<|zO s<|yU j t p l8 w i) y I) w () rfl (_,_,rfl) (by
   rintro s A _ ⟨y,I,rfl⟩;have J:0<=(w:Int)*(i:Int)/\(w:Int)*(i:Int)<=100:=by have:w*i<=10*10:=Nat.mul_le_mul E ();lia
   obtain⟨r,_,_⟩:=VZ z (k:=t+(w:Int)*(i:Int)+(s:Int)) () ();refine(_,γ O _ _ (vI s)<|.val<|.int<|JF j<|t+w*i+s,rfl,?_,_,_,rfl);have n:YJ (w:Int) (i:Int)=cC:=wK _ _ () ();have b:s<lim:=()
   have l:∀x:Int,YJ x 1=cC/\YJ x 0=cC:=λx=>(Kt _ _ () (),Kt _ _ () ());rw[d];by_cases g:l8<=JF j (t+w*i+s)/64%3<;>simp[AI,γ,jf,r,n,B,g,b,wa,l,yU])
  exact(Y,Z,q)
 refine Tf λC=>?_;obtain⟨_,q,Q,U,y,I,rfl⟩:=jY (T:=.nm 7) (F:=Ly) (f:=zf 3) (λs a=>∃Q U y I,a=γ (.own<|kh s w<|yU j t p l8 w) Q U y I) h () rfl (_,_,_,_,rfl) (by
  rintro s A _ ⟨Q,U,y,I,rfl⟩;obtain⟨o,m,G⟩:=e s _ y I ();refine(_,γ _ (vI s) (.val<|.lst<|zO w<|yU j t p l8 w s) o m,rfl,zy rfl<|zy G ?_,_,_,_,_,rfl);have b:s<lim:=()
  rw[show kh (s+1) w (yU j t p l8 w)=kh s w (yU j t p l8 w)++[.lst (zO w<|yU j t p l8 w s)]from qT _ _];simp[γ,BK,qZ,b,VD])
 exact C<|zU<|zy rfl<|zy q rfl
theorem K9{t p l8:Int}(y:0<p):0<=yU ns t p l8 w i j/\yU ns t p l8 w i j<p:=by unfold yU;have I:=Uq (JF ns (t+w*i+j)/7) (():p≠0);have O:=Ub (JF ns (t+w*i+j)/7) y;split<;>lia
theorem JA(h:i<n)(f:Nat->Int):(zO n f)[i]? = cz (.int<|f i):=by simp_all
section
theorem zeM(h w w':Nat)(f g:DW):wC (kh h w f) (kh h w' g)=(Tn h).map λi=>D.tup [.lst (zO w<|f i),.lst (zO w'<|g i)]:=by unfold wC kh;rw[tj];simp
end
theorem yu(f:Nat->Int)(a:Nat):∀b,zg f (a+b)=zg f a+zg (λx=>f<|a+x) b
 |0=>by show zg f a=zg f a+0;lia
 |b+1=>by show zg f (a+b)+f (a+b)=zg f a+(_+f (a+b));rw[yu f a b];lia
theorem Xw(f:Nat->Int)(w:Nat):∀h,zg f (h*w)=zg (λi=>zg (λj=>f<|i*w+j) w) h
 |0=>by rw[Nat.zero_mul];rfl
 |h+1=>by rw[Nat.succ_mul,yu,Xw f w h];rfl
theorem Wj(f g:Nat->Int)(n:Nat):zg (λk=>f k-g k) n=zg f n-zg g n:=by rw[zh (g:=λk=>f k+(-1)*g k) λk _=>by lia,jG,zT];lia
theorem zfd(Q:Pr p)(E:h<=190)(H:w<=190)(f:DW)(b:Vc)(U:∀i,i<h->0<=b i/\b i<p):
 (∃x:Vc,∀i,i<h->zg (λj=>f i j*x j) w%p=b i)\/yk [.int p,jZ h w f,.tup (zO h b)]=cz (.val .d7)/\∃y:Vc,(∀j,j<w->zg (λi=>f i j*y i) h%p=0)/\zg (λi=>b i*y i) h%p=1:=by
 refine Tf λF=>?_;obtain⟨r,B,l,s,O,Y,L,o,G,t⟩:=Jb Q E H f b;refine F ?_;by_cases I:s<r
 .refine .inr (by rw[t,DZ I],?_)
  have J:=O.lt s I;have K:=G s (Tv _) I;have A:l s=w:=()
  obtain⟨y,Z⟩:=yv<|(Y<|B s).mp (.gen (s,I,rfl));refine(y,λj m=>?_,?_)
  .have:=Z j ()
   rw[O.kr s j I (),zh (g:=λi=>f i j*y i) λi _=>by simp[aug,m,UC]]at this
   simp_all
  .have:=Z w ()
   have e:=O.one s I;rw[A]at e;rw[e,zh (g:=λi=>b i*y i) λi _=>by simp[aug,UC],Q.one]at this;exact this.symm
 .refine .inl (bh w B l s,λi a=>?_)
  have C:s=r:=()
  subst C;have d:=JD O ((Y _).mpr (.gen (i,a,rfl))) w ();have u:aug w f b i w=b i:=by simp[aug]
  rw[u,UG (U i a).1 (U i a).2]at d;rw[d];congr 1;unfold bh;rw[zh λj _=>(zT _ _ _).symm,jS];refine zh λk n=>?_;rw[zG (o k n) λj m z=>by rw[DJ (Ue z)];simp,DZ rfl];simp only[aug,DZ (o k n)]
theorem gM(O:Pr p)(H:h<=189)(P:w<=189)(f:DW)(b y:Vc)(Y:∀j,j<w->zg (λi=>f i j*y i) h%p=0)(Z:zg (λi=>b i*y i) h%p=1):
 ∃x:Vc,kB [.int p,jZ h w f,.tup (zO h b)]=cz (.val<|.tup<|zO h x)/\(∀j,0<=x j/\x j<p)/\(∀j,j<w->zg (λi=>f i j*x i) h%p=0)/\zg (λi=>b i*x i) h%p=1:=by
 have G:=je;have k:h<=lim:=()
 have l:w<=lim:=()
 have J:=O.two;let g:=λj i=>if j<w then f i j else b i;let c:Vc:=λj=>if j<w then 0 else 1;have Q:∀v:Vc,∀j,j<w->zg (λi=>g j i*v i) h=zg (λi=>f i j*v i) h:=λv j I=>zh λi _=>by show(if j<w then f i j else b i)*v i=_;rw[DZ I]
 have gl:∀v:Vc,zg (λi=>g w i*v i) h=zg (λi=>b i*v i) h:=λv=>zh λi _=>by lia
 obtain⟨x,A,m,U⟩:=Y8 O (h:=w+1) (w:=h) () () g c y (λj _=>by lia) λj I=>by
  by_cases e:j<w
  .rw[Q y j e,Y j e];show 0=(if j<w then 0 else 1);rw[DZ e]
  .obtain rfl:j=w:=()
   rw[gl y,Z];show 1=(if j<j then 0 else 1);rw[DJ e]
 refine(x,?_,m,λj I=>?_,?_)
 .have B:jI (jZ w h λi j=>f j i)=cz (.T,[.int (w:Int),.int (h:Int),.tup (z7 w h λi j=>f j i)]):=rfl
  have z:3<=lim:=()
  have u:1<=lim:=()
  have r:z7 w h (λi j=>f j i)++[D.tup (zO h b)]=z7 (w+1) h g:=by
   unfold z7;rw[qT];congr 1
   .refine Ug λj I=>?_
    grind
   lia
  have s:Tq w (D.int 0)++[D.int 1]=zO (w+1) c:=by
   unfold zO;rw[qT];congr 1
   .refine(List.eq_replicate_iff.mpr (by simp,λd F=>?_)).symm
    grind
   lia
  have t:j6 (.tup<|z7 w h λi j=>f j i) (.tup [D.tup (zO h b)])=cz (.tup<|z7 (w+1) h g):=by rw[<-r];show(if (z7 w h λi j=>f j i).length+1<=lim then _ else none)=_;rw[DZ (by simp[z7];lia)]
  have E:(yE (.tup [D.int 0])<|.int (w:Int)).bind (λx=>j6 x<|.tup [D.int 1])=cz (.tup<|zO (w+1) c):=by rw[<-s];show((if 1*(w:Int).toNat<=lim/\inR w=cC then cz (D.tup (Tq (w:Int).toNat [D.int 0]).flatten)else none).bind λx=>j6 x<|.tup [D.int 1])=_;rw[zp,DZ ((),Kh () ()),Tx,List.flatten_replicate_singleton];show(if (Tq w<|D.int 0).length+1<=lim then _ else none)=_;rw[DZ (by simp;lia)]
  let a:Cell->Cell->Ctx:=λn o=>[vI p,.val<|jZ h w f,.val<|.tup<|zO h b,n,o];let C:=Cell.val<|jZ w h λi j=>f j i;refine zU<|zy (γ':=a C .no) (by simp[a,C,jd,(kX f k l)])<|zy (γ':=a C<|.val<|jZ (w+1) h g) (by simp[a,C,B,hO,u,z,t];rfl) ?_;simp only[Kz,vh,jQ,jQ,jQ,show(zM j6 (zM yE (qv<|zb (sI 0) zD)<|cI (zm 3)<|sI 0)<|qv<|zb (sI 1) zD) (a C<|.val<|jZ (w+1) h g)=cz (.tup<|zO (w+1) c)by
   assumption]
  simp[a,A]
 .have:=U j ()
  rw[Q x j I]at this;rw[this];show(if j<w then (0:Int)else 1)=0;rw[DZ I]
 .have:=U w ()
  lia
section
variable{p:Int}{n R r c:Nat}{M W:Nat->Vc}
theorem fW{G:Vc->Prop}{v:Vc}(h:∀g,G g->zg (λx=>g x*v x) n%p=0){u:Vc}(I:Span p n G u):zg (λx=>u x*v x) n%p=0:=by
 induction I with
 |@zero u a=>
  have:zg (λx=>u x*v x) n%p=zg (λ_=>0) n%p:=zE λx y=>by rw[Tt,a x y];simp
  rw[this,zA];rfl
 |@step u w g d O b Q U=>
  have:zg (λx=>u x*v x) n%p=zg (λx=>w x*v x+_) n%p:=zE λx y=>by rw[Tt,Q x y,<-Tt,Gx,qd]
  rw[this,jG,zT,Um,U,Tt,h g O];simp
theorem mI(I:x<n)(f:Vc):zg (λy=>f y*jU x y) n=f x:=by rw[zG I λy _ O=>by unfold jU;rw[DJ (Ue O),UP]];unfold jU;rw[DZ rfl,sM]
theorem mH(I:x<n)(f:Vc):zg (λy=>f y*jU y x) n=f x:=by rw[zG I λy _ O=>by unfold jU;rw[DJ O,UP]];unfold jU;rw[DZ rfl,sM]
theorem oY(H:Pr p)(P:Rk p n R M r)(o7:∀j,j<c->∀i,i<R->zg (λx=>M i x*W j x) n%p=0)
 (sp:∀v:Vc,(∀i,i<R->zg (λx=>M i x*v x) n%p=0)->∃t:Vc,∀x,x<n->v x%p=zg (λj=>t j*W j x) c%p)
 (E:∀t:Vc,(∀x,x<n->zg (λj=>t j*W j x) c%p=0)->∀j,j<c->t j%p=0):c+r=n:=by
 obtain⟨B,l,Z,h⟩:=P;have s:∀v:Vc,(∀i,i<R->_%p=0)->∀k,k<r->zg (λx=>B k x*v x) n%p=0:=λv d k I=>by refine fW ?_ ((h _).mp (.gen (k,I,rfl)));rintro g ⟨i,b,rfl⟩;exact d i b
 have w:∀v:Vc,(∀k,k<r->zg (λx=>B k x*v x) n%p=0)->∀i,i<R->zg (λx=>M i x*v x) n%p=0:=λv d i b=>by refine fW ?_ ((h _).mpr (.gen (i,b,rfl)));rintro g ⟨k,I,rfl⟩;exact d k I
 let V:=λj=>if j<c then W j else jU (l<|j-c);have a:∀(t:Vc) x,zg (λj=>t j*V j x) (c+r)=zg (λj=>t j*W j x) c+zg (λk=>t (c+k)*jU (l k) x) r:=λt x=>by
  rw[yu];congr 1
  .exact zh λj Q=>by show _*(if j<c then W j else _) x=_;rw[DZ Q]
  .exact zh λk I=>by show _*(if c+k<c then W (c+k)else jU (l<|c+k-c)) x=_;rw[DJ (),TM]
 have f:∀(t:Vc) m,m<r->zg (λx=>B m x*zg (λk=>t k*jU (l k) x) r) n=t m:=λt m U=>by
  rw[zh (g:=λx=>zg (λk=>t k*(B m x*jU (l k) x)) r) λx _=>by rw[<-zT];exact zh λk _=>F7 ..,jS,
   zh λk I=>by rw[zT,mI (Z.lt k I)],
   zG U λk I C=>by rw[Z.oe m k U I C,UP],Z.one m U,sM]
 refine CF H (YU H n) (W:=V) (λv=>(λ_=>?_,λ_=>(vK jU v).congr λx O=>by rw[mH O])) λt Y=>?_
 .let u:=λx=>v x-zg (λk=>zg (λy=>B k y*v y) n*jU (l k) x) r
  obtain⟨t,Y⟩:=sp u (w u<|λk I=>by rw[zh λx _=>Int.mul_sub ..,Wj,f _ k I,Int.sub_self];rfl)
  refine(vK V λj=>if j<c then t j else zg (λy=>B (j-c) y*v y) n).congr λx O=>?_;have A:zg (λk=>(if c+k<c then t (c+k)else zg (λy=>B (c+k-c) y*v y) n)*jU (l k) x) r=_:=zh λk _=>by rw[DJ (),TM]
  rw[a,zh λj Q=>by rw[DZ Q],A,Um,<-Y x O,<-Um];lia
 .have o:=λm U=>by
   have e:zg (λx=>B m x*zg (λj=>t j*V j x) (c+r)) n%p=0:=by
    have:zg (λx=>B m x*zg (λj=>t j*V j x) (c+r)) n%p=zg (λ_=>0) n%p:=zE λx O=>by rw[Tt,Y x O];simp
    rw[this,zA];rfl
   rw[zh λx _=>by rw[a,Dp],jG,f _ m U]at e;have z:zg (λx=>B m x*zg (λj=>t j*W j x) c) n%p=0:=by
    rw[zh (g:=λx=>zg (λj=>t j*(B m x*W j x)) c) λx _=>by rw[<-zT];exact zh λk _=>F7 ..,jS];have:zg (λj=>zg (λx=>t j*(B m x*W j x)) n) c%p=zg (λ_=>0) c%p:=zE λj Q=>by rw[zT,Tt,s (W j) (o7 j Q) m U];simp
    rw[this,zA];rfl
   rw[Um,z]at e;simpa using e
  intro j Q;by_cases q:j<c
  .exact(E t λx O=>by
   have:=Y x O;rw[a,Um]at this;have z:zg (λk=>t (c+k)*jU (l k) x) r%p=0:=by
    have:zg (λk=>t (c+k)*jU (l k) x) r%p=zg (λ_=>0) r%p:=zE λk I=>by rw[Tt,o k I];simp
    rw[this,zA];rfl
   rw[z]at this;simpa using this) j q
  .have:=o (j-c) ()
   grind
end
noncomputable def hR(g:DW)(s k:Nat):Nat->Int:=g<|if k<=s then k-1 else k
def gR(p:Int)(g:DW)(r s c:Nat)(y:Int)(k j:Nat):Int:=if k<r then g k j else if k=r then g s j*y%p else (hR g s k j-hR g s k c*(g s j*y%p))%p
def mM(p:Int)(n:Nat)(f g:DW):Nat->Nat->Int:=λi j=>zg (λk=>f i k*g k j) n%p
section
theorem xX(p:Int)(n w:Nat)(a b c:DW)(i j:Nat):mM p n a (mM p w b c) i j=mM p w (mM p n a b) c i j:=Wh p a b c n w i j
theorem qJ(z:∀k,k<n->f i k=f' i k)(I:∀k,k<n->g k j=g' k j):mM p n f g i j=mM p n f' g' i j:=by unfold mM;rw[zh λk y=>by rw[z k y,I k y]]
theorem Ap(y:0<p)(n:Nat)(f g:DW)(i j:Nat):0<=mM p n f g i j/\mM p n f g i j<p:=(Uq _ (),Ub _ y)
theorem fw(y:j<n)(f:DW)(i:Nat):mM p n f gm i j=f i j%p:=by unfold mM;rw[zG (i:=j) y λk _ I=>by unfold gm;rw[DJ I];simp];simp[gm]
theorem Cg(z:i<n)(g:DW)(j:Nat):mM p n gm g i j=g i j%p:=by unfold mM;rw[zG (i:=i) z λk _ y=>by unfold gm;rw[DJ (Ue y)];simp];simp[gm]
theorem VC(two:2<=p)(u:Jf p n f g)(z:i<n)(y:j<n):mM p n f g i j=gm i j:=by have:=u i j z y;unfold mM;rw[this];unfold gm;split<;>first|exact UG () () |rfl
theorem ze2(p:Int)(w:DV)(wd:DK)(f g T:DQ)(k i j:Nat):wL p w wd f g T k i j=mM p (wd<|zS w k) (mM p (wd<|zX w k) (f<|zX w k)<|T k) (g<|zS w k) i j:=by unfold wL mM;congr 2;funext b;rw[UC];congr 3;funext a;exact UC _ _
end
section
theorem Xv(f g:α->Int):∀L:List α,yV (L.map λx=>f x+g x)=yV (L.map f)+yV (L.map g)
 |[]=>rfl
 |x::L=>by simp only[UL,yV,Xv f g L];lia
theorem dN:∀L:List α,yV (L.map λ_=>0)=0
 |[]=>rfl
 |x::L=>by simp only[UL,yV,dN L];lia
theorem Wi(f:α->β->Int):∀(K:List α) (L:List β),yV (K.map λa=>yV<|L.map λb=>f a b)=yV (L.map λb=>yV<|K.map λa=>f a b)
 |[],L=>(dN L).symm
 |a::K,L=>by simp only[UL,yV];simp only[Wi f K L,Xv]
theorem Xu(h:K.Perm L):yV K=yV L:=by
 induction h with
 |nil=>rfl
 |cons x _ I=>simp only[yV,I]
 |swap x y l=>simp only[yV];lia
 |trans _ _ O Q=>exact O.trans Q
end
def m3(w:DV)(b c:Int×Int):Int:=if qq w b.1.toNat b.2.toNat c.1.toNat c.2.toNat=cC then 1 else 0
theorem Lc(h:ya n b):D.tup [.int b.1,.int b.2]=pr b.1.toNat b.2.toNat:=by obtain⟨y,I,_⟩:=h;unfold pr;rw[FG y,FG ()]
section
variable{m:Nat}
theorem PJ(O:m<=5)(y:ya ((m+1:Nat)) b)(I:ya ((m+1:Nat)) c):yq [.str (yP m w),.tup [.int b.1,.int b.2],.tup [.int c.1,.int c.2]]=cz (.val<|.int<|m3 w b c):=by rw[Lc y,Lc I];obtain⟨Q,U,Y⟩:=y;obtain⟨Z,g2,g3⟩:=I;exact V5 O () () () ()
theorem cG(y:m<=5)(h:∀b∈bs,ya ((m+1:Nat)) b)(I:bs.length<=lim)(O:ya ((m+1:Nat)) c):qM [.str (yP m w),.lst<|zY bs,.tup [.int c.1,.int c.2]]=cz (.val<|.int<|yV<|bs.map λb=>m3 w b c):=by
 have d:zQ (.nm 0) jB (zC yq<|zb (zf 1)<|zb (zf 0)<|zb (zf 2) zD) [Cell.no,.val<|.str<|yP m w,.val (.tup [.int c.1,.int c.2])] (zY bs)=cz (bs.map λb=>D.int<|m3 w b c):=by unfold zY;exact zu _ _ λb Q=>zv rfl rfl (by simp[PJ y (h b Q) O])
 have U:(zY bs).length<=lim:=by simpa using I
 have Y:gY (bs.map λb=>D.int<|m3 w b c)=cz (yV<|bs.map λb=>m3 w b c):=by rw[<-Xx,Uu];rfl
 unfold qM;refine zU ?_;have a:z9 (zm 1) [Cell.val (.str<|yP m w),.val<|.lst<|zY bs,.val (.tup [.int c.1,.int c.2])]=cz (zY bs):=rfl;show qQ _ [_,_,_]=_;simp only[Kz,gD,Zo,qS,a];simp only[Tx,U,if_true];rw[show jq 1 [0,2] _=[Cell.no,.val _,.val _]from rfl,d];simp[Y]
theorem Bb(I:m<=5)(O:∀b∈bs1,ya ((m+1:Nat)) b)(Q:∀b∈bs2,ya ((m+1:Nat)) b)(z:bs1.length<=lim)(B:bs2.length<=lim)(j:qw [jE p m w f6 T1]=cz (.val<|vq bs1 ts1 us1))(U:qw [jE p m w f7 T2]=cz (.val<|vq bs2 ts2 us2)):
 xK [jE p m w f6 T1,jE p m w f7 T2]=cz (.val<|.int<|yV<|bs2.map λc=>yV<|bs1.map λb=>m3 w b c):=by
 let y:=jE p m w f6 T1;let R2:=jE p m w f7 T2;have e:zQ (.nm 0) jB (zC qM<|zb (zC x6<|zb (zf 1) zD)<|zb (zf 2)<|zb (zf 0) zD) [Cell.no,.val y,.val (.lst<|zY bs1)] (zY bs2)=cz (bs2.map λc=>D.int<|yV<|bs1.map λb=>m3 w b c):=by
  conv=>lhs;unfold zY
  exact zu _ _ λc Y=>zv (γ1:=[_,.val y,.val (.lst<|zY bs1)]) rfl rfl (by simp[y,kU (p:=p) (w:=w) (wd:=f6) (T:=T1) (():m<=900),cG I O z (Q c Y)])
 have Z:(zY bs2).length<=lim:=by simpa using B
 have h:gY (bs2.map λc=>D.int<|yV<|bs1.map λb=>m3 w b c)=cz (yV<|bs2.map λc=>yV<|bs1.map λb=>m3 w b c):=by rw[<-Xx,Uu];rfl
 have f:qw [y]=_:=j;have g:qw [R2]=_:=U;have d:jT [y,R2]=_:=((vy (p:=p) (w:=w) (wd:=f6) (T:=T1) (wd':=f7) (T':=T2)<|show m<=900 by lia).2);show xK [y,R2]=_
 clear_value y R2
 unfold xK;refine zU<|zy (γ':=[.val y,.val R2,.no]) (by simp[jd,d])<|zy (γ':=[.val y,.val R2,.val (.lst<|zY bs1)]) (by simp[f,vq,hO]) ?_;have a:z9 (zH<|cI (zH<|zC qw<|zb (zf 1) zD)<|sI 0) [Cell.val y,.val R2,.val (.lst<|zY bs1)]=cz (zY bs2):=by simp[g,vq,hO]
 simp only[Kz,gD,Zo,qS,a];simp only[Tx,Z,if_true];rw[show jq 1 [0,2] _=[Cell.no,.val y,.val _]from rfl,e];simp[h]
theorem zft(O:m<=4)(Q:∀k,f6 k<=100)(Z:∀k,f7 k<=100):yI [jE p m w f6 T1,jE p m w f7 T2]=cz (.val<|.int<|(off f7 f6<|m+1)-(off (dH w f7) (dq w f6) m)):=by
 have y:=(vy (p:=p) (w:=w) (wd:=f6) (T:=T1) (wd':=f7) (T':=T2)<|show m<=900 by lia).2;have U:=vM (p:=p) (w:=w) (wd:=f7) (T:=T2) (wd':=f6) (T':=T1) O;have I:=Y9 (p:=p) (w:=w) (wd:=f7) (T:=T2) (wd':=f6) (T':=T1) O;have a:=yi (hs:=f7) (n:=m+1) () Q;have b:=yi (hs:=dH w f7) (ws:=dq w f6) (n:=m) () (λk=>by unfold dq;split<;>exact Q _);have e:QL m w f7 f6=rn m _ _:=rfl;rw[e]at I;generalize jE p m w f6 T1=Y at y U I;generalize jE p m w f7 T2=R2 at y U I;unfold yI;refine zU<|zy (γ':=[.val Y,.val R2]) (by simp[jd,y]) ?_
 simp_all
theorem Ea(U:m<=4){x y:Int}{I R2:D}(O:xK [I,R2]=cz (.val<|.int x))(Q:yI [I,R2]=cz (.val<|.int y)):xM [I,R2]=cz (.val<|.int<|x-y):=by unfold xM;refine zU ?_;simp[jd,O,Q]
end
def oz(p:Int)(m:Nat)(w:DV)(z B:DK)(T1 T2 h:DQ):Prop:=
 ∀k,k<m->∀i j,i<B (zX w k)->j<z (zS w k)->mM p (z<|zX w k) (h<|zX w k) (T1 k) i j=mM p (B<|zS w k) (T2 k) (h<|zS w k) i j
section
abbrev lN(a b r:Nat):Prop:=a<=r/\r<=b
structure rN(p:Int)(m:Nat)(w:DV)(a b c d:Nat)(f:Nat->Int):Prop where
 zero:∀r,¬(lN a b r/\lN c d r)->f r=0
 pass:∀k,k<m->lN c d (zX w k)->lN a b (zS w k)->f (zX w k)%p=f (zS w k)%p
theorem rN.next(h:rN p m w a b c d f)(O:b<=m)(y:lN a b r/\lN c d r)(I:lN a b (r+1)/\lN c d (r+1)):f (r+1)%p=f r%p:=by
 have x:=h.pass r ();unfold zX zS at x;cases hw:w r with
 |true=>
  simp only[hw,if_true]at x;exact(x y.2 I.1).symm
 |false=>
  simp only[hw,UN,if_false]at x;exact x I.2 y.1
theorem rN.const(h:rN p m w a b c d f)(y:b<=m):∀s,lN a b (max a c+s)/\lN c d (max a c+s)->f (max a c+s)%p=f (max a c)%p
 |0,_=>rfl
 |s+1,e=>by have I:lN a b (max a c+s)/\lN c d (max a c+s):=(((),()),((),()));rw[<-rN.const h y s I];exact rN.next h y I e
theorem rN.all(h:rN p m w a b c d f)(y:b<=m)(I:lN a b r/\lN c d r):f r%p=f (max a c)%p:=by obtain⟨s,rfl⟩:∃s,r=max a c+s:=(r-max a c,());exact h.const y s I
theorem rN.none(h:rN p m w a b c d f)(Q:a<=b)(Y:c<=d)(O:b<=m)(z:d<=m)(n:qq w a b c d=cL)(r:Nat):f r%p=0:=by
 by_cases i:lN a b r/\lN c d r
 .obtain⟨⟨j,k⟩,o,s⟩:=i
  have ad:=TJ j s;have U:=TJ o k;have Z:max a c<=min b d:=Nat.le_min.2 (Nat.max_le.2 (Q,U),Nat.max_le.2 (ad,Y));have e:=h.all O ((j,k),o,s);unfold qq at n;rw[decide_eq_true Z,Bool.true_and,Bool.and_eq_false_iff]at n;have lt {a b:Nat} (h:b<a):a-1<a:=Nat.sub_lt (Y' h) Nat.one_pos;rcases n with n|n
  .rw[e]
   unfold sJ at n;rw[Bool.or_eq_false_iff]at n;have y:=n.2;by_cases l:a<c
   .rw[Nat.max_eq_right (G4 l)]at y ⊢
    rw[decide_eq_true l]at y;have I:=by simpa using y
    have x:=h.pass (c-1)<|TC (lt l)<|TJ U O;unfold zX zS at x;simp only[I,UN,if_false]at x;rw[Nat.sub_add_cancel (Y' l)]at x;rw[x (Tv _,Y) (Nat.le_pred_of_lt l,TJ (Nat.sub_le ..) U),h.zero _ λq=>Nat.not_le_of_lt (lt l) q.2.1];rfl
   .have g:=Nat.lt_of_le_of_ne (Rj l) (Ue<|of_decide_eq_false n.1)
    rw[Nat.max_eq_left (Rj l)]at y ⊢;rw[decide_eq_false l]at y;have I:=by simpa using y
    have x:=h.pass (a-1)<|TC (lt g)<|TJ Q O;unfold zX zS at x;simp only[I,if_true]at x;rw[Nat.sub_add_cancel (Y' g)]at x;rw[<-x (Nat.le_pred_of_lt g,TJ (Nat.sub_le ..) ad) (Tv _,Q),h.zero _ λq=>Nat.not_le_of_lt (lt g) q.1.1];rfl
  .rw[e,<-(h.all O (r:=min b d) ((TJ (Nat.le_max_left ..) Z,Nat.min_le_left ..),TJ (Nat.le_max_right ..) Z,NB ..))]
   unfold sL at n;rw[Bool.or_eq_false_iff]at n;have y:=n.2;by_cases l:b<d
   .rw[NG (G4 l)]at y ⊢
    rw[decide_eq_true l]at y;have I:=by simpa using y
    have x:=h.pass b<|TC l z;unfold zX zS at x;simp only[I,UN,if_false]at x;rw[<-x (TJ U<|uH _,l) (Q,Tv _),h.zero (b+1) λq=>Nat.not_succ_le_self _ q.1.2];rfl
   .have g:=Nat.lt_of_le_of_ne (Rj l) (Ue<|of_decide_eq_false n.1)
    rw[Nat.min_eq_right (Rj l)]at y ⊢;rw[decide_eq_false l]at y;have I:=by simpa using y
    have x:=h.pass d<|TC g O;unfold zX zS at x;simp only[I,if_true]at x;rw[x (Y,Tv _) (TJ ad<|uH _,g),h.zero (d+1) λq=>Nat.not_succ_le_self _ q.2.2];rfl
 .rw[h.zero r i];rfl
theorem Fn(y:qq w a b c d=cC)(t:Int):rN p m w a b c d λr=>if lN a b r/\lN c d r then t else 0 where
 zero:=λr h=>DJ h
 pass:=λk hk Q U=>by
  unfold qq at y;simp only[TZ]at y;obtain⟨y1,I,O⟩:=y;have y1:=of_decide_eq_true y1;have key:(lN a b (zX w k)/\lN c d (zX w k))↔(lN a b (zS w k)/\lN c d (zS w k)):=by
   unfold sJ at I;unfold sL at O;unfold lN at Q U ⊢;unfold zX at Q ⊢;unfold zS at U ⊢;cases hw:w k with
   | true=>
    simp only[hw,if_true]at Q U ⊢;constructor
    .rintro⟨Y,Z⟩
     refine(U,?_);have:¬(k=d):=λe=>by
      have z:min b d=d:=()
      have ne:¬b=d:=()
      rw[z,<-e,hw]at O;simp only[decide_eq_false_iff_not.mpr (():¬b=k),GO]at O;simp at O;lia
     lia
    .rintro⟨Y,Z⟩
     refine(?_,Q);have:¬(k+1=a):=λe=>by
      have z:max a c-1=k:=()
      rw[z,hw]at I;simp only[decide_eq_false_iff_not.mpr (():¬a=c),GO]at I;simp at I;lia
     lia
   | false=>
    simp only[hw,UN,if_false]at Q U ⊢;constructor
    .rintro⟨Y,Z⟩
     refine(U,?_);have:¬(k+1=c):=λe=>by
      have z:max a c-1=k:=()
      rw[z,hw]at I;simp only[decide_eq_false_iff_not.mpr (():¬a=c),GO]at I;simp at I;lia
     lia
    .rintro⟨Y,Z⟩
     refine(?_,Q);have:¬(k=b):=λe=>by
      have z:min b d=b:=()
      rw[z,<-e,hw]at O;simp only[decide_eq_false_iff_not.mpr (():¬k=d),GO]at O;simp at O;lia
     lia
  by_cases q:lN a b (zX w k)/\lN c d (zX w k)
  .rw[DZ q,DZ (key.mp q)]
  .rw[DJ q,DJ (λz=>q<|key.mpr z)]
end
section
variable{p:Int}{m:Nat}{w:DV}{K K1 K2:List (Int×Int)}
abbrev stK(K:List (Int×Int))(x:Nat):Nat:=(K.getD x (0,0)).1.toNat
abbrev pN(K:List (Int×Int))(x:Nat):Nat:=(K.getD x (0,0)).2.toNat
abbrev ij(K:List (Int×Int))(r a:Nat):Nat:=(j4 K r).getD a 0
abbrev ur(K:List (Int×Int))(r x:Nat):Nat:=(j4 K r).idxOf x
abbrev o7(K:List (Int×Int))(x r:Nat):Prop:=lN (stK K x) (pN K x) r
theorem Wn(I:∀b∈K,ya ((m+1:Nat)) b)(y:x<K.length):stK K x<=pN K x/\pN K x<=m/\((stK K x:Int),(pN K x:Int))=K.getD x (0,0):=by
 have e:K.getD x (0,0)=K[x]:=by simp[y]
 obtain⟨O,Q,U⟩:=I K[x] (uC y)
 grind
theorem xG(I:∀b∈K,ya ((m+1:Nat)) b){x r:Nat}:x∈j4 K r↔x<K.length/\o7 K x r:=by unfold j4;rw[UA,Tp];refine and_congr_right λO=>?_;obtain⟨_,_,y⟩:=Wn I O;have a:=congrArg Prod.fst y;have Q:=congrArg Prod.snd y;dsimp only at a Q;unfold Cw;lia
theorem ZK(j:a<n7 K r):ij K r a∈j4 K r:=by unfold ij;rw[Tr,To j];exact uC j
theorem zfu(K:List (Int×Int))(r:Int):(j4 K r).Nodup:=E2.filter _
theorem KN{r x:Nat}(y:x∈j4 K r):ur K r x<n7 K r/\ij K r (ur K r x)=x:=by have l:=R_ y;refine(l,?_);unfold ij ur;rw[Tr,To l];exact T_ l
theorem iz(j:a<n7 K r):ur K r (ij K r a)=a:=by unfold ij ur;rw[Tr,To j];exact(zfu K r).idxOf_getElem a j
noncomputable def Yh(K1 K2:List (Int×Int))(h:DQ)(x y r:Nat):Int:=if o7 K1 x r/\o7 K2 y r then h r (ur K2 r y) (ur K1 r x)else 0
theorem Rt(I:∀b∈K1,ya ((m+1:Nat)) b)(O:∀b∈K2,ya ((m+1:Nat)) b)(j:a<n7 K2 r)(y:b<n7 K1 r):Yh K1 K2 h (ij K1 r b) (ij K2 r a) r=h r a b:=by unfold Yh;rw[DZ (((xG I).mp (ZK y)).2,((xG O).mp (ZK j)).2),iz j,iz y]
theorem Cm(y:∀b∈K1,ya ((m+1:Nat)) b){f:DW}{k a b:Nat}(U:b<n7 K1 (zS w k)):mM p (n7 K1<|zX w k) f (rX w K1 k) a b=(if o7 K1 (ij K1 (zS w k) b) (zX w k)then f a (ur K1 (zX w k)<|ij K1 (zS w k) b)else 0)%p:=by
 have Q:=(xG y).mp (ZK U);generalize ex:ij K1 (zS w k) b=x at Q;unfold mM rX;have e:(j4 K1<|zS w k).getD b 0=x:=ex;rw[e];by_cases q:o7 K1 x (zX w k)
 .obtain⟨l,Y⟩:=KN ((xG y).mpr (Q.1,q))
  rw[DZ q,zG l λc I Z=>by rw[DJ,UP];intro O;have:=iz I;rw[show ij K1 (zX w k) c=x from O]at this;exact Z this.symm]
  rw[show(j4 K1<|zX w k).getD _ 0=x from Y,DZ rfl,sM]
 .rw[DJ q,zh λc I=>by rw[DJ,UP];intro O;have:=(xG y).mp (ZK I);rw[show ij K1 (zX w k) c=x from O]at this;exact q this.2,zA]
theorem Cn(y:∀b∈K2,ya ((m+1:Nat)) b){f:DW}{k a b:Nat}(j:a<n7 K2 (zX w k)):mM p (n7 K2<|zS w k) (rX w K2 k) f a b=(if o7 K2 (ij K2 (zX w k) a) (zS w k)then f (ur K2 (zS w k)<|ij K2 (zX w k) a) b else 0)%p:=by
 have Q:=(xG y).mp (ZK j);generalize ex:ij K2 (zX w k) a=x at Q;unfold mM rX;have e:(j4 K2<|zX w k).getD a 0=x:=ex;rw[e];by_cases q:o7 K2 x (zS w k)
 .obtain⟨l,U⟩:=KN ((xG y).mpr (Q.1,q))
  rw[DZ q,zG l λc I Y=>by rw[DJ,rJ];intro O;have:=iz I;rw[show ij K2 (zS w k) c=x from O.symm]at this;exact Y this.symm]
  rw[show(j4 K2<|zS w k).getD _ 0=x from U,DZ rfl,Int.one_mul]
 .rw[DJ q,zh λc I=>by rw[DJ,rJ];intro O;have:=(xG y).mp (ZK I);rw[show ij K2 (zS w k) c=x from O.symm]at this;exact q this.2,zA]
theorem pX(Q:∀b∈K1,ya ((m+1:Nat)) b)(U:∀b∈K2,ya ((m+1:Nat)) b):oz p m w (n7 K1) (n7 K2) (rX w K1) (rX w K2) h ↔ ∀x y,x<K1.length->y<K2.length->rN p m w (stK K1 x) (pN K1 x) (stK K2 y) (pN K2 y) (Yh K1 K2 h x y):=by
 constructor
 .intro H x y u A
  refine(λr t=>DJ t,λk Z e d=>?_);obtain⟨l,o⟩:=KN<|(xG Q).mpr (u,d);obtain⟨n,s⟩:=KN<|(xG U).mpr (A,e);have:=H k Z _ _ n l;rw[Cm Q l,Cn U n,o,s]at this;unfold Yh;by_cases I:o7 K1 x (zX w k)<;>by_cases O:o7 K2 y (zS w k)
  .rw[DZ (I,e),DZ (d,O)];rw[DZ I,DZ O]at this;exact this
  .rw[DZ (I,e),DJ (λz=>O z.2)];rw[DZ I,DJ O]at this;exact this
  .rw[DJ (λz=>I z.1),DZ (d,O)];rw[DJ I,DZ O]at this;exact this
  .rw[DJ (λz=>I z.1),DJ (λz=>O z.2)]
 .intro H k Z i j f g
  simp only[Cm Q g,Cn U f];have a:=(xG Q).mp (ZK g);have Y:=(xG U).mp (ZK f);have:=(H _ _ a.1 Y.1).pass k Z Y.2 a.2;unfold Yh at this;rw[iz f,iz g]at this;by_cases I:o7 K1 (ij K1 (zS w k) j) (zX w k)<;>by_cases O:o7 K2 (ij K2 (zX w k) i) (zS w k)
  .rw[DZ I,DZ O];rw[DZ (I,Y.2),DZ (a.2,O)]at this;exact this
  .rw[DZ I,DJ O];rw[DZ (I,Y.2),DJ (λz=>O z.2)]at this;exact this
  .rw[DJ I,DZ O];rw[DJ (λz=>I z.1),DZ (a.2,O)]at this;exact this
  .rw[DJ I,DJ O]
end
theorem Yb(g:Nat->Int):∀n,yV ((Tn n).map g)=zg g n
 |0=>rfl
 |n+1=>by rw[tu,UB,Xu List.perm_append_comm];show g n+yV ((Tn n).map g)=zg g n+g n;rw[Yb g n,Int.add_comm]
theorem dO(f:Int×Int->Int)(K:List (Int×Int)):yV (K.map f)=zg (λx=>f<|K.getD x (0,0)) K.length:=by
 rw[<-Yb]
 conv=>lhs;rw[<-jv (0,0) K,Uu]
 rfl
theorem Yv(q:DV):∀n,(((Tn n).filter q).length)=zg (λs=>if q s=cC then 1 else 0) n
 |0=>rfl
 |n+1=>by
  simp only[tu,M9,UD];show _=_+_;rw[<-Yv q n];by_cases h:q n=cC
  .simp[h]
  .simp[h]
structure rD(p:Int)(m:Nat)(w:DV)(f6 f7:DK)(T1 T2:DQ)(c:Nat)(E:Nat->Nat->Nat->Nat->Int):Prop where
 ui:∀s,s<c->oz p m w f6 f7 T1 T2 (E s)
 span:∀h,oz p m w f6 f7 T1 T2 h->∃t:Nat->Int,∀r,r<=m->∀i j,i<f7 r->j<f6 r->h r i j%p=zg (λs=>t s*E s r i j) c%p
 ind:∀t:Nat->Int,(∀r,r<=m->∀i j,i<f7 r->j<f6 r->zg (λs=>t s*E s r i j) c%p=0)->∀s,s<c->t s%p=0
theorem au(h:k<m):zX w k<=m:=by unfold zX;split<;>lia
theorem QR(h:k<m):zS w k<=m:=by unfold zS;split<;>lia
section
variable{p:Int}{m:Nat}{w:DV}{f6 f7 MR MV:DK}{T1 T2 S1 S2 A1 B1 A2 B2:DQ}{h:DQ}
theorem oz.wd(z:∀r,r<=m->f6 r=MR r)(I:∀r,r<=m->f7 r=MV r)(H:oz p m w f6 f7 T1 T2 h):oz p m w MR MV T1 T2 h:=λk y i j a O=>by have Q:=au (w:=w) y;have U:=QR (w:=w) y;rw[<-I _ Q]at a;rw[<-z _ U]at O;rw[<-z _ Q,<-I _ U];exact H k y i j a O
theorem rD.wd(e1:∀r,r<=m->f6 r=MR r)(I:∀r,r<=m->f7 r=MV r)(H:rD p m w f6 f7 T1 T2 c E):rD p m w MR MV T1 T2 c E where
 ui:=λs hs=>(H.ui s hs).wd e1 I
 span:=λh U=>by obtain⟨t,O⟩:=H.span h<|U.wd (λr y=>(e1 r y).symm) λr y=>(I r y).symm;exact(t,λr y i j hi Q=>O r y i j (by rw[I r y];exact hi)<|by rw[e1 r y];exact Q)
 ind:=λt O s hs=>H.ind t (λr y i j hi Q=>O r y i j (by rw[<-I r y];exact hi)<|by rw[<-e1 r y];exact Q) s hs
def km(w:DV)(K1 K2:List (Int×Int)):List Nat:=(Tn<|K1.length*K2.length).filter λs=>qq w (stK K1<|s/K2.length) (pN K1<|s/K2.length) (stK K2<|s%K2.length)<|pN K2<|s%K2.length
theorem iE:((km w K1 K2).length)=yV (K1.map λb=>yV<|K2.map λc=>m3 w b c):=by
 unfold km;rw[Yv,Xw,dO];refine zh λx Q=>?_;rw[dO];refine zh λy I=>?_;have a:(x*K2.length+y)/K2.length=x:=by rw[vu,Nat.mul_add_div (),_c I,G5]
 have O:(x*K2.length+y)%K2.length=y:=by rw[vu,Nat.mul_add_mod,_b I]
 rw[a,O];rfl
def we(w:DV)(K1 K2:List (Int×Int))(s r a b:Nat):Int:=if ij K1 r b*K2.length+ij K2 r a=(km w K1 K2).getD s 0 then 1 else 0
theorem eU{x y N:Nat}(I:y<N):(x*N+y)/N=x/\(x*N+y)%N=y:=by
 constructor
 .rw[vu,Nat.mul_add_div (),_c I,G5]
 .rw[vu,Nat.mul_add_mod,_b I]
theorem WW(I:x<K1.length)(O:y<K2.length):x*K2.length+y∈km w K1 K2↔qq w (stK K1 x) (pN K1 x) (stK K2 y) (pN K2 y)=cC:=by
 unfold km;obtain⟨a,Q⟩:=eU O;rw[UA,Tp,a,Q];exact and_iff_right (by
  have:(x+1)*K2.length<=_:=R5 _ I;lia)
theorem Wg(t:Nat->Int){L:List Nat}(j:L.Nodup)(z:Nat):zg (λs=>t s*if z=L.getD s 0 then 1 else 0) L.length=if z∈L then t (L.idxOf z)else 0:=by
 by_cases h:z∈L
 .rw[DZ h]
  have l:=R_ h;rw[zG l λs a y=>by rw[DJ,UP];intro e;rw[Tr,To a]at e;have:=j.idxOf_getElem s a;rw[show L[s]=z from e.symm]at this;exact y this.symm]
  rw[DZ,sM];rw[Tr,To l];exact(T_ l).symm
 .rw[DJ h,zh λs a=>by rw[DJ,UP];intro e;rw[Tr,To a]at e;exact h<|e ▸ uC a,zA]
theorem Vp:(km w K1 K2).Nodup:=E2.filter _
theorem zd0(I:∀b∈K1,ya ((m+1:Nat):Int) b)(O:∀b∈K2,ya ((m+1:Nat):Int) b):rD p m w (n7 K1) (n7 K2) (rX w K1) (rX w K2) (km w K1 K2).length (we w K1 K2) where
 ui:=λs hs=>(pX I O).mpr λx y U Q=>by
  by_cases e:x*K2.length+y=(km w K1 K2).getD s 0
  .have mem:x*K2.length+y∈km w K1 K2:=by
    rw[e,Tr,To hs];exact uC hs
   have P:=Fn (p:=p) (m:=m) ((WW U Q).mp mem) 1;have:Yh K1 K2 (we w K1 K2 s) x y=λr=>if lN (stK K1 x) (pN K1 x) r/\lN (stK K2 y) (pN K2 y) r then 1 else 0:=by
    funext r;unfold Yh;by_cases q:o7 K1 x r/\o7 K2 y r
    .rw[DZ q,DZ q]
     unfold we;rw[(KN<|(xG I).mpr (U,q.1)).2,(KN<|(xG O).mpr (Q,q.2)).2,DZ e]
    .rw[DJ q,DJ q]
   rw[this];exact P
  .have:Yh K1 K2 (we w K1 K2 s) x y=λ_=>0:=by
    funext r;unfold Yh;by_cases q:o7 K1 x r/\o7 K2 y r
    .rw[DZ q]
     unfold we;rw[(KN<|(xG I).mpr (U,q.1)).2,(KN<|(xG O).mpr (Q,q.2)).2,DJ e]
    .rw[DJ q]
   rw[this];exact(λ_ _=>rfl,λ_ _ _ _=>rfl)
 span:=λh hh=>by
  have H:=(pX I O).mp hh;let N:=K2.length;refine(λs=>let z:=(km w K1 K2).getD s 0;Yh K1 K2 h (z/N) (z%N) (max (stK K1<|z/N)<|stK K2<|z%N),λr hr i j hi hj=>?_);have mx:=(xG I).mp (ZK hj);have Y:=(xG O).mp (ZK hi);have P:=H _ _ mx.1 Y.1;obtain⟨x1,Z,_⟩:=Wn I mx.1;obtain⟨y1,y2,_⟩:=Wn O Y.1;rw[<-Rt (h:=h) I O hi hj];have d:=Wg (λs=>let z:=(km w K1 K2).getD s 0;Yh K1 K2 h (z/N) (z%N) (max (stK K1<|z/N)<|stK K2<|z%N)) (Vp (w:=w) (K1:=K1) (K2:=K2))<|ij K1 r j*K2.length+ij K2 r i;unfold we;rw[d];by_cases mem:ij K1 r j*K2.length+ij K2 r i∈km w K1 K2
  .rw[DZ mem]
   have l:=R_ mem;have e:(km w K1 K2).getD ((km w K1 K2).idxOf (ij K1 r j*K2.length+ij K2 r i)) 0=ij K1 r j*K2.length+ij K2 r i:=by rw[Tr,To l];exact T_ l
   obtain⟨e1,e2⟩:=eU (x:=ij K1 r j) Y.1;dsimp only;rw[e];show _=Yh K1 K2 h ((ij K1 r j*K2.length+ij K2 r i)/K2.length) ((ij K1 r j*K2.length+ij K2 r i)%K2.length) (max (stK K1<|(ij K1 r j*K2.length+ij K2 r i)/K2.length)<|stK K2<|(ij K1 r j*K2.length+ij K2 r i)%K2.length)%p;rw[e1,e2];exact P.all Z (mx.2,Y.2)
  .rw[DJ mem]
   have n:qq w (stK K1<|ij K1 r j) (pN K1<|ij K1 r j) (stK K2<|ij K2 r i) (pN K2<|ij K2 r i)=cL:=Bool.eq_false_iff.mpr λQ=>mem<|(WW mx.1 Y.1).mpr Q;rw[P.none x1 y1 Z y2 n r];rfl
 ind:=λt ht s hs=>by
  let z:=(km w K1 K2)[s];have mem:z∈km w K1 K2:=uC hs;have a0:=mem;unfold km at a0;rw[UA,Tp]at a0;obtain⟨zl,zq⟩:=a0;have n2:0<K2.length:=by
   rcases Nat.eq_zero_or_pos K2.length with e|e
   .rw[e,Nat.mul_zero]at zl;lia
   .exact e
  have Q:z%K2.length<K2.length:=Nat.mod_lt _ n2;have U:z/K2.length<K1.length:=Nat.div_lt_of_lt_mul (by rw[vu];exact zl);have ez:z/K2.length*K2.length+z%K2.length=z:=by rw[vu];exact Nat.div_add_mod z K2.length
  generalize ex:z/K2.length=x at *;generalize ey:z%K2.length=y at *;obtain⟨x1,Z,_⟩:=Wn I U;obtain⟨y1,y2,_⟩:=Wn O Q;have lo:max (stK K1 x) (stK K2 y)<=min (pN K1 x) (pN K2 y):=by unfold qq at zq;simp only[TZ]at zq;exact of_decide_eq_true zq.1
  let r:=max (stK K1 x)<|stK K2 y;have zee:o7 K1 x r:=(by show _<=max _ _;lia,by show max _ _<=_;lia);have zef:o7 K2 y r:=(by show _<=max _ _;lia,by show max _ _<=_;lia);obtain⟨lx,zea⟩:=KN<|(xG I).mpr (U,zee);obtain⟨ly,py⟩:=KN<|(xG O).mpr (Q,zef);have g:=ht r (by show max _ _<=_;lia) _ _ ly lx;have d:=Wg t (Vp (w:=w) (K1:=K1) (K2:=K2))<|x*K2.length+y;unfold we at g;rw[zea,py,d,ez,DZ mem]at g;have:=Vp (w:=w) (K1:=K1) (K2:=K2) |>.idxOf_getElem s hs;rw[show(km w K1 K2).idxOf z=s from this]at g;exact g
theorem gi(two:2<=p)(P:∀r,r<=m->Jf p (f6 r) (B1 r) (A1 r))(R:∀r,r<=m->Jf p (f7 r) (B2 r) (A2 r))
 (B:∀k,k<m->∀i j,i<f6 (zX w k)->j<f6 (zS w k)->T1 k i j%p=mM p (f6<|zS w k) (mM p (f6<|zX w k) (A1<|zX w k)<|S1 k) (B1<|zS w k) i j)
 (Z:∀k,k<m->∀i j,i<f7 (zX w k)->j<f7 (zS w k)->T2 k i j%p=mM p (f7<|zS w k) (mM p (f7<|zX w k) (A2<|zX w k)<|S2 k) (B2<|zS w k) i j)
 (H:oz p m w f6 f7 S1 S2 h):oz p m w f6 f7 T1 T2 λr=>mM p (f6 r) (mM p (f7 r) (A2 r)<|h r) (B1 r):=λk Q i j u A=>by
 show mM p _ (mM p _ _ _) (T1 k) i j=mM p _ (T2 k) (mM p _ _ _) i j;have o:0<p:=()
 have H:=H k Q;have s:=P _<|au (w:=w) Q;have t:=R _<|QR (w:=w) Q;have B:=B k Q;have Z:=Z k Q;generalize f6 (zX w k)=U at *;generalize f6 (zS w k)=ab at *;generalize f7 (zX w k)=ce at *;generalize f7 (zS w k)=Y at *;generalize A1 (zX w k)=as at *;generalize B1 (zX w k)=am at *;generalize B1 (zS w k)=a2 at *;generalize A2 (zX w k)=a3 at *;generalize A2 (zS w k)=a7 at *;generalize B2 (zS w k)=ax at *;generalize h (zX w k)=he at *;generalize h (zS w k)=hb at *;have C n f g b i j:(∀x,x<n->g x j%p=b x j)->mM p n f g i j=mM p n f b i j:=λq=>by unfold mM;exact zE λx I=>by rw[<-q x I,Tt (f i x)<|g x j%p,Dc _<|Dg p,<-Tt]
 have E n f a g i j:(∀x,x<n->f i x%p=a i x)->mM p n f g i j=mM p n a g i j:=λq=>by unfold mM;exact zE λx I=>by rw[<-q x I,Tt (f i x%p)<|g x j,Dc _<|Dg p,<-Tt]
 have e:=λn f g i j=>UG (Ap o n f g i j).1 (Ap o n f g i j).2;have l:mM p U (mM p U (mM p ce a3 he) am) (T1 k) i j=mM p ab (mM p ce a3<|mM p U he<|S1 k) a2 i j:=by rw[C U _ _ _ i j λx I=>B x j I A,xX];refine qJ (λx I=>?_) λ_ _=>rfl;rw[xX,qJ (λy O=>?_) λ_ _=>rfl,<-xX];rw[<-xX,qJ (λ_ _=>rfl) λz d=>VC two s d O,fw O,e]
 have r:mM p Y (T2 k) (mM p ab (mM p Y a7 hb) a2) i j=mM p ab (mM p ce a3<|mM p Y (S2 k) hb) a2 i j:=by rw[xX];refine qJ (λx I=>?_) λ_ _=>rfl;rw[xX,xX];refine qJ (λy O=>?_) λ_ _=>rfl;rw[E Y (T2 k) _ a7 i y λx I=>Z i x u I,<-xX,qJ (λ_ _=>rfl) λz d=>VC two t d O,fw O,e]
 rw[l,r];exact qJ (λx I=>qJ (λ_ _=>rfl) λy O=>H y x O I) λ_ _=>rfl
end
section
theorem zeK(n:Nat)(f g:Nat->D):wC ((Tn n).map f) ((Tn n).map g)=(Tn n).map λi=>D.tup [f i,g i]:=by unfold wC;rw[tj,Uu];rfl
theorem nT(y:0<p)(Z:p<=7)(z:m<=60)(I:∀k,wd k<=60)(O:∀k i j,k<m->i<wd k->j<wd k->0<=g k i j/\g k i j<p):xt [.int p,.lst<|yd m wd f,.lst (yd m wd g)]=cz (.own<|yd m wd λk=>mM p (wd k) (f k)<|g k):=by
 have n:=je;have Q:m<=lim:=()
 have b:zQ (.tp [0,1]) jB (zC yH<|zb (zf 2)<|zb (zf 0)<|zb (zf 1) zD) [Cell.no,.no,vI p] ((Tn m).map λk=>D.tup [jZ (wd k) (wd k) (f k),jZ (wd k) (wd k) (g k)])=cz (yd m wd λk=>mM p (wd k) (f k)<|g k):=by
  unfold yd;refine zu _ _ λk U=>zv rfl rfl ?_;have o:=I k;have e:=Zq (h:=wd k) (m:=wd k) (w:=wd k) (f k) (g k) y () () () (λi j d Y=>by have:=O k i j (Tp.mp U) d Y;lia);have l:(jZ (wd k) (wd k) λi j=>zg (λx=>g k x j*f k i x) (wd k)%p)=jZ (wd k) (wd k) (mM p (wd k) (f k)<|g k):=by congr 1;funext i j;unfold mM;rw[zh λx _=>UC _ _]
  simp_all
 unfold xt;refine zU ?_;show wN _ [_,_,_]=_;have a:KL (zf 1) (zf 2) [vI p,.val<|.lst<|yd m wd f,.val (.lst<|yd m wd g)]=cz ((Tn m).map λk=>D.tup [jZ (wd k) (wd k) (f k),jZ (wd k) (wd k) (g k)]):=by show cz (wC _ _)=_;unfold yd;rw[zeK]
 simp only[show wN _ _=(zW _ _ 2 [0] jB _ _).map _ from rfl,qS,a];simp only[Tx,Ua,UM,Q,if_true];rw[show jq 2 [0] _=[Cell.no,.no,vI p]from rfl,b];rfl
theorem Hi(I:0<p)(O:p<=7)(Z:m<=50)(Q:∀k,wd k<=60)(B:∀k i j,k<m+1->i<wd k->j<wd k->0<=G1 k i j/\G1 k i j<p)(E:∀k i j,k<m+1->i<wd k->j<wd k->0<=G2 k i j/\G2 k i j<p)
 (z:qw [jE p m w wd T1]=cz (.val<|vq bs (wM m wd G1)<|wM m wd F1)) (y:qw [jE p m w wd T2]=cz (.val<|vq bs (wM m wd G2)<|wM m wd F2)):
 Jd [jE p m w wd T1,jE p m w wd T2]=cz (.val (.tup [.str "alike",.lst (yd (m+1) wd λk=>mM p (wd k) (F2 k) (G1 k)),.lst (yd (m+1) wd λk=>mM p (wd k) (F1 k) (G2 k))])):=by
 have b:=je;have U:=(vy (p:=p) (w:=w) (wd:=wd) (T:=T1) (wd':=wd) (T':=T2)<|show m<=900 by omega).2;unfold vq at z y;rw[YZ,YZ]at z y;have Y:=Ve (p:=p) (m:=m) (w:=w) (wd:=wd) (T:=T1);generalize jE p m w wd T1=zg9 at *;generalize jE p m w wd T2=R2 at *;have a:=()
 exact zU (by simp[jf,jd,U,z,y,hO,fZ<|QC bs,Y,nT (f:=F2) I O () Q B,nT (f:=F1) I O () Q E,a])
end
section
theorem fF(h:∀b∈bs,ya ((m+1:Nat)) b):qW (sO (bS bs) (bE bs) bs.length) bs.length=bs:=by
 conv=>rhs;rw[GU h]
 unfold qW;refine Ug λj y=>?_;have:=(si h<|Tp.mp y).2.1;show Prod.mk (bS bs j:Int) ((bS bs j+(_+1)-1:Nat):Int)=_
 grind
theorem MP(bs:List (Int×Int))(k:Nat):bW bs k<=bs.length:=by unfold bW As xO;exact TJ (Nf _ _) ()
end
section
abbrev U?(m:Nat)(w:DV)(wd wd':DK):D:=.lst (jH m w wd wd' λ_ _ _=>0)
theorem FF(Y:m<=900)(O:∀k,wd k<=400)(Q:∀k,wd' k<=400):(zb (zf 0)<|zb (zf 1)<|zb (jX<|zW (KL (cI (zm 0)<|sI 2)<|cI (zm 1)<|sI 2) (.tp [0,1]) 2 [] jB (zC ka<|zb (cI (zm 0)<|sI 1)<|zb (cI (zm 1)<|sI 1) zD)) zD) [.val (jE p m w wd T),.val (jE p m w wd' T')]=cz [jE p m w wd T,jE p m w wd' T',U? m w wd wd']:=by
 have Z:=je;have y u:(∀k,u k<=400)->∀k,dH w u k<=400/\dq w u k<=400:=λI k=>by rw[<-jt,<-jw];have:=I<|zX w k;have:=I<|zS w k;lia
 have g:hO 3 2=cz 2:=rfl;have a:zQ (.tp [0,1]) jB (zC ka<|zb (cI (zm 0)<|sI 1)<|zb (cI (zm 1)<|sI 1) zD) [Cell.no,Cell.no] ((Tn m).map λk=>D.tup [ZH w wd T k,ZH w wd' T' k])=cz (jH m w wd wd' λ_ _ _=>0):=by
  unfold jH;refine zu _ _ λk l=>zv rfl rfl ?_;have i:jI (ZH w wd T k)=cz _:=rfl;have j:jI (ZH w wd' T' k)=cz _:=rfl;have n:ka [jZ (dH w wd k) (dq w wd k) (T k),jZ (dH w wd' k) (dq w wd' k) (T' k)]=cz (.val<|jZ (dH w wd k) (dq w wd' k) λ_ _=>0):=by
   have b:dH w wd k<=lim:=by have:=(y wd O k).1;lia
   have d:dq w wd' k<=lim:=by have:=(y wd' Q k).2;lia
   have U:∀h w f,jI (jZ h w f)=cz _:=λ_ _ _=>rfl;simp[ka,jA,jd,U,KC b d]
  simp_all
 have z:wC (xn m w wd T) (xn m w wd' T')=(Tn m).map λk=>D.tup [ZH w wd T k,ZH w wd' T' k]:=by unfold wC xn;rw[tj];simp
 have e:((Tn m).map λk=>D.tup [ZH w wd T k,ZH w wd' T' k]).length<=lim:=by simpa using ()
 simp only[jQ,vz,vc,ZP,qS,CJ,vg,xf,Zp,Uj,Uo,Up,UX,pz,Di,jN,jz,Tx,Uy,xP p m w wd T,xP p m w wd' T',xc,g,qc,z,e,if_true];rw[show jq 2 [] _=[Cell.no,Cell.no]from rfl,a];rfl
end
section
def sP(n s:Nat)(B y:Nat->Vc):Nat->Vc:=λk=>if k<s then qR n (B k) (λ_=>0)else qR n (λ_=>0) (y<|k-s)
noncomputable def NQ(n s:Nat)(l j:DK):Nat->Nat:=λk=>if k<s then l k else n+j (k-s)
theorem QQ{s k:Nat}{l j:DK}(q:k<s):NQ n s l j k=l k:=DZ q
theorem QP{s c:Nat}{l j:DK}:NQ n s l j (s+c)=n+j c:=by unfold NQ;rw[DJ (G6.2<|TL ..),TM]
theorem YM{s k:Nat}{B y:Nat->Vc}(q:k<s):sP n s B y k=qR n (B k) λ_=>0:=DZ q
theorem YL{s c:Nat}{B y:Nat->Vc}:sP n s B y (s+c)=qR n (λ_=>0) (y c):=by unfold sP;rw[DJ (G6.2<|TL ..),TM]
theorem sY{a b k:Nat}(h:k<a+b):k<a\/∃c,k=a+c/\c<b:=by
 rcases TV k a with q|q
 .exact .inl q
 .obtain⟨c,rfl⟩:=Nb q
  exact .inr (c,rfl,P8 h)
theorem sg(h:fm p n s B l)(h':fm p n' s' B' l')(U:0<p):fm p (n+n') (s+s') (sP n s B B') (NQ n s l l') where
 lt:=λk y=>by
  obtain q|⟨c,rfl,q⟩:=sY y
  .rw[QQ q];exact Nat.lt_add_right _<|h.lt k q
  .rw[QP];exact Dd (h'.lt c q) n
 mono:=λk m y Q=>by
  obtain I|⟨d,rfl,I⟩:=sY Q
  .rw[QQ (NM y I),QQ I];exact h.mono k m y I
  .obtain q|⟨c,rfl,q⟩:=sY (NM y Q)
   .rw[QQ q,QP];exact TC (h.lt k q)<|TL ..
   .rw[QP,QP];exact Dd (h'.mono c d (P8 y) I) n
 one:=λk y=>by
  obtain q|⟨c,rfl,q⟩:=sY y
  .rw[QQ q,YM q,zR (h.lt k q)];exact h.one k q
  .rw[QP,YL,z6];exact h'.one c q
 kr:=λk j y O=>by
  obtain q|⟨c,rfl,q⟩:=sY y
  .rw[QQ q]at O
   rw[YM q,zR (NM O<|h.lt k q)];exact h.kr k j q O
  .rw[QP]at O
   rw[YL];obtain z|⟨c,rfl,z⟩:=sY O
   .rw[zR z]
   .rw[z6];exact h'.kr _ c q z
 oe:=λk m y Q Y=>by
  obtain q|⟨c,rfl,q⟩:=sY y<;>obtain I|⟨d,rfl,I⟩:=sY Q
  .rw[YM q,QQ I,zR (h.lt m I)];exact h.oe k m q I Y
  .rw[YM q,QP,z6]
  .rw[YL,QQ I,zR (h.lt m I)]
  .rw[YL,QP,z6];exact h'.oe c d q I λe=>Y (by rw[e])
 i6:=λk i y hi=>by
  obtain q|⟨c,rfl,q⟩:=sY y<;>obtain z|⟨d,rfl,z⟩:=sY hi
  .rw[YM q,zR z];exact h.i6 k i q z
  .rw[YM q,z6];exact(F9 _,U)
  .rw[YL,zR z];exact(F9 _,U)
  .rw[YL,z6];exact h'.i6 c d q z
theorem gy(u:Vc):Span p (n+n') (d6 (s+s')<|sP n s B B') u↔Span p n (d6 s B) u/\Span p n' (d6 s' B') λi=>u (n+i):=by
 constructor
 .intro h
  constructor
  .refine(h.map _ (λi a=>by lia) λg I=>?_)
   obtain⟨k,y,rfl⟩:=I;unfold sP;split
   .next q=>exact(Span.gen (k,q,rfl)).congr λi a=>by rw[zR a]
   .exact .zero λi a=>by rw[zR a];simp
  .refine(h.map _ (λi a=>by lia) λg I=>?_)
   obtain⟨k,y,rfl⟩:=I;unfold sP;split
   .exact .zero λi a=>by rw[z6];simp
   .next q=>exact(Span.gen (k-s,(),rfl)).congr λi a=>by rw[z6]
 .rintro⟨Q,U⟩
  obtain⟨t,Y⟩:=yv Q;obtain⟨b,Z⟩:=yv U;refine(vK _ λk=>if k<s then t k else b (k-s)).congr λi a=>?_;rw[vk];have d:zg (λk=>(if s+k<s then t (s+k)else b (s+k-s))*sP n s B B' (s+k) i) s'=_:=zh λk y=>by unfold sP;rw[DJ (),DJ (),TM]
  rw[(zh λk y=>by unfold sP;rw[DZ y,DZ y]),d];rcases TV i n with z|z
  .have O:zg (λk=>b k*qR n (λ_=>0) (B' k) i) s'=zg (λ_=>0) s':=zh λk _=>by rw[zR z];simp
   rw[O,zh λk _=>by rw[zR z],zA,rb];exact Y i z
  .obtain⟨c,rfl⟩:∃c,i=n+c:=(i-n,())
   have O:zg (λk=>t k*qR n (B k) (λ_=>0) (n+c)) s=zg (λ_=>0) s:=zh λk _=>by rw[z6];simp
   have e:zg (λk=>b k*qR n (λ_=>0) (B' k) (n+c)) s'=_:=zh λk _=>by rw[z6]
   simp only[O,e,zA,NP];exact Z c ()
end
theorem va(z:Vc)(i:Nat):app (YK h c f g) (c+c') z i=if i<h then app f c z i else app g c' (λj=>z<|c+j) (i-h):=by
 unfold app;rw[vk];unfold YK;by_cases q:i<h
 .have I:zg (λj=>(if i<h then qR c (f i) (λ_=>0)else qR c (λ_=>0) (g<|i-h)) (c+j)*z (c+j)) c'=zg (λ_=>0) c':=zh λj y=>by rw[DZ q,z6];simp
  rw[(zh λj y=>by rw[DZ q,zR y]),I,zA,rb,DZ q]
 .have a:zg (λj=>(if i<h then qR c (f i) (λ_=>0)else qR c (λ_=>0) (g<|i-h)) j*z j) c=zg (λ_=>0) c:=zh λj y=>by rw[DJ q,zR y];simp
  have I:zg (λj=>(if i<h then qR c (f i) (λ_=>0)else qR c (λ_=>0) (g<|i-h)) (c+j)*z (c+j)) c'=_:=zh λj y=>by rw[DJ q,z6]
  rw[a,I,zA,NP,DJ q]
section
variable{p:Int}
def gA(w:DV)(wd:DK)(T T':DQ):Nat->Nat->Nat->Int:=λk=>YK (dH w wd k) (dq w wd k) (T k)<|T' k
theorem Xq{a b:Nat}{u v:Vc}:(∀i,i<a+b->u i%p=v i%p)↔(∀i,i<a->u i%p=v i%p)/\∀i,i<b->u (a+i)%p=v (a+i)%p:=
 (λh=>(λi d=>h i (),λi d=>h (a+i) ()),λh i d=>by
  rcases TV i a with z|z
  .exact h.1 i z
  .obtain⟨c,rfl⟩:∃c,i=a+c:=(i-a,())
   exact h.2 c ())
theorem l_:Lk p w (λk=>wd k+wd' k) (gA w wd T T') k y z↔Lk p w wd T k y z/\Lk p w wd' T' k (λi=>y<|wd k+i) λi=>z (wd (k+1)+i):=by
 unfold Lk gA;cases hw:w k with
 |true=>
  have b:dq w wd k=wd (k+1):=by unfold dq;rw[hw];rfl
  have I:dH w wd k=wd k:=by unfold dH;rw[hw];rfl
  rw[b,I,DZ rfl,DZ rfl,DZ rfl,Xq];refine and_congr (λh i a=>?_,λh i a=>?_) (λh i a=>?_,λh i a=>?_)
  .have:=h i a;rw[va,DZ a]at this;exact this
  .rw[va,DZ a];exact h i a
  .have:=h i a;rw[va,DJ (),TM]at this;exact this
  .rw[va,DJ (),TM];exact h i a
 |false=>
  have b:dq w wd k=wd k:=by unfold dq;rw[hw];rfl
  have I:dH w wd k=wd (k+1):=by unfold dH;rw[hw];rfl
  rw[b,I,DJ Uk,DJ Uk,DJ Uk,Xq];refine and_congr (λh i a=>?_,λh i a=>?_) (λh i a=>?_,λh i a=>?_)
  .have:=h i a;rw[va,DZ a]at this;exact this
  .rw[va,DZ a];exact h i a
  .have:=h i a;rw[va,DJ (),TM]at this;exact this
  .rw[va,DJ (),TM];exact h i a
theorem Ru(h:Lk p w wd T k y z)(I:∀i,i<wd k->y' i%p=y i%p):Lk p w wd T k y' z:=by
 unfold Lk at *;split
 .next b=>rw[DZ b]at h;intro i a;rw[I i a,h i a]
 .next b=>rw[DJ b]at h;intro i a;rw[h i a];exact(jW I i).symm
theorem V9(d:Nat):∀n {u z:Vc},Wk p w (λk=>wd k+wd' k) (gA w wd T T') d n u z↔Wk p w wd T d n u z/\Wk p w wd' T' d n (λi=>u<|wd d+i) λi=>z (wd (d+n)+i)
 |0,u,z=>Xq
 | n+1,u,z=>by
  constructor
  .rintro⟨y,Q,U⟩
   obtain⟨I,O⟩:=(V9 d n).mp Q;obtain⟨a,b⟩:=l_.mp U;exact((y,I,a),(_,O,b))
  .rintro⟨⟨y,I,a⟩,⟨Y,O,b⟩⟩
   refine(qR _ y Y,(V9 d n).mpr (sy I λi e=>by rw[zR e],?_),l_.mpr (Ru a λi e=>by rw[zR e],?_))
   .rw[funext z6]
    exact O
   .rw[funext z6]
    exact b
theorem GH(K y:List (Nat×Nat))(a b:Int):kv (K++y) a b=kv K a b+kv y a b:=U_ ..
end
section
theorem gC(I:Pr p)(D:i5 p w wd T m N A)(O:a+n<=m):∃s q B j l E,fm p (wd a) s B l/\(∀u,Span p (wd a) (d6 s B) u ↔ ∃z,Wk p w wd T a n u z)/\fm p (wd a) q j E/\∀u,Span p (wd a) (d6 q j) u↔Wk p w wd T a n u λ_=>0:=by refine Tf λQ=>?_;obtain⟨s,_,B,l,U,d⟩:=vm I N _;obtain⟨q,_,j,E,Y,Z⟩:=vm I N _;exact Q (s,q,B,j,l,E,U,λu=>(d u).trans ((Vq D O cL u).trans (λ(y,h,_)=>(y,h),λ(y,h)=>(y,h,λq=>nomatch q))),Y,λu=>(Z u).trans ((Vq D O cC u).trans (λ(y,h,b)=>sy h λi _=>by rw[b rfl i];simp,λh=>(_,h,λ_ _=>by simp))))
theorem GS(y:Pr p)(D:i5 p w wd T m N A)(I:i5 p w wd' T' m N' A')(Q:i5 p w (λk=>wd k+wd' k) (gA w wd T T') m N2 A2)(O:a<=b)(P:b<=m):
 kv (JT A2 N2) a b=kv (JT A N) a b+kv (JT A' N') a b:=by
 refine Tf λt=>?_;obtain⟨s,q,B,G,l,L,U,Y,Z,e⟩:=gC y D (a:=a) (n:=b-a) ();obtain⟨R,M,C,H,K,J,g1,g2,g3,f⟩:=gC y I (a:=a) (n:=b-a) ();refine t ?_;have g:=Zz y D () U Y Z e;have h:=Zz y I () g1 g2 g3 f;have j:=Zz y Q (n:=b-a) () (sg U g1 y.pos) (λu=>by
  rw[gy,Y,g2];constructor
  .rintro⟨⟨z,d⟩,⟨F,o⟩⟩
   refine(qR _ z F,(V9 a<|b-a).mpr (sy d λi r=>by rw[zR r],?_));rw[funext z6];exact o
  .rintro⟨z,d⟩
   obtain⟨x,E⟩:=(V9 a<|b-a).mp d;exact((z,x),(_,E))) (sg Z g3 y.pos) λu=>by
  rw[gy,e,f];exact(V9 a<|b-a).symm
 rw[show a+(b-a)=b by lia]at g h j;rw[YH D O]at g;rw[YH I O]at h;rw[YH Q O]at j;lia
theorem gz(U:Pr p)(D:i5 p w wd T m N A)(O:i5 p w wd' T' m N' A')(y:i5 p w (λk=>wd k+wd' k) (gA w wd T T') m N2 A2):(JT A2 N2).Perm (JT A N++JT A' N'):=by
 have Q:∀x,x∈_->x∈stN (m+1):=λx I=>by
  rcases uB.mp I with z|z
  .exact vY D x z
  .exact vY O x z
 refine D4.mpr λs=>?_;have e K:K.count s=o9 K s:=by unfold o9 List.count;lia
 rw[e,e];by_cases d:s.1<=s.2
 .exact ff (vY y) Q (λa b Y Z=>by rw[GH];exact GS U D O y Y ()) d
 .have z K:(∀x,x∈K->x∈stN (m+1))->o9 K s=0:=λh=>by
   unfold o9;rw[D5];intro x I q;have:=(r9.mp<|h x I).1;rw[(of_decide_eq_true q)]at this;exact d this
  rw[z _ (vY y),z _ Q]
end
section ap
variable(γ:Ctx)
@[simp] theorem zg3(f):ud f γ=((f γ).bind m4).map λi=>.int (-i):=rfl
@[simp] noncomputable def zgd:=@Np.eq_1
end ap
structure _t(p:Int)(m:Nat)(w:DV)(wd:DK)(K:List (Int×Int))(T F G:DQ):Prop where
 pr:∀r,r<m+1->Pair p (wd r) (F r) (G r)
 eb:qw [jE p m w wd T]=cz (.val<|vq K (wM m wd G)<|wM m wd F)
 et:∀k,k<m->∀i j,i<wd (zX w k)->j<wd (zS w k)->T k i j=mM p (wd<|zS w k) (mM p (wd<|zX w k) (F<|zX w k)<|rX w K k) (G<|zS w k) i j
 rg:∀k i j,0<=T k i j/\T k i j<p
section
variable{p:Int}{n n1 n2 c i j:Nat}{A A1 B1 A2 B2 X h:DW}{E:DQ}{t:Nat->Int}
theorem Ck(y:0<p)(n:Nat)(f g:DW)(i j:Nat):mM p n f g i j%p=mM p n f g i j:=UG (Ap y n f g i j).1 (Ap y n f g i j).2
theorem OX(f:DW)(q:∀x,x<n->g x j%p=g' x j%p):mM p n f g i j=mM p n f g' i j:=by unfold mM;exact zE λx y=>by rw[Tt,q x y,<-Tt]
theorem JY(two:2<=p)(P:Jf p n2 A2 B2)(H:Jf p n1 A1 B1)(B:i<n2)(I:j<n1):mM p n1 (mM p n2 A2<|mM p n1 (mM p n2 B2 h) A1) B1 i j=h i j%p:=by
 have Q:=()
 have e:∀x,x<n1->mM p n2 A2 _ i x=mM p n1 (λa b=>h a b%p) A1 i x:=λx O=>by rw[xX];refine qJ (λy U=>?_) λ_ _=>rfl;rw[xX,qJ (λz d=>VC two P B d) λ_ _=>rfl,Cg B]
 rw[qJ e λ_ _=>rfl,<-xX,qJ (λ_ _=>rfl) λx O=>VC two H O I,fw I];exact Dc _<|Dg p
theorem bz(c:Nat)(t u:Nat->Int):zg (λs=>t s*(u s%p)) c%p=zg (λs=>t s*u s) c%p:=zE λs _=>by rw[Tt,Dc _<|Dg p,<-Tt]
theorem LX(q:∀x,x<n->X x j%p=zg (λs=>t s*E s x j) c%p):mM p n A X i j=zg (λs=>t s*mM p n A (E s) i j) c%p:=by
 unfold mM;rw[bz];have e:zg (λk=>A i k*X k j) n%p=zg (λk=>A i k*zg _ c) n%p:=zE λx y=>by rw[Tt,q x y,<-Tt]
 rw[e];congr 1;rw[zh (g:=λk=>zg _ c) λk _=>by rw[zT],jS];refine zh λs _=>?_;rw[<-zT];exact zh λk _=>by rw[F7]
theorem LY(q:∀x,x<n->X i x%p=zg (λs=>t s*E s i x) c%p):mM p n X A i j=zg (λs=>t s*mM p n (E s) A i j) c%p:=by
 unfold mM;rw[bz];have e:zg (λk=>X i k*A k j) n%p=zg (λk=>zg _ c*A k j) n%p:=zE λx y=>by rw[Tt,q x y,<-Tt]
 rw[e];congr 1;rw[zh (g:=λk=>zg _ c) λk _=>by rw[qz],jS];refine zh λs _=>?_;rw[<-zT];exact zh λk _=>qd ..
theorem fB(I:0<p)(q:∀a b,a<n2->b<n1->X a b%p=zg (λs=>t s*E s a b) c%p)(A B:DW)(i j:Nat):mM p n1 (mM p n2 A X) B i j=zg (λs=>t s*mM p n1 (mM p n2 A<|E s) B i j) c%p:=
 LY λx O=>by rw[Ck I,LX λy Q=>q y x Q O]
end
section
variable{p:Int}{m c:Nat}{w:DV}{f6 f7:DK}{T1 T2 S1 S2 A1 B1 A2 B2:DQ}{h:DQ}{E:Nat->Nat->Nat->Nat->Int}
theorem rD.C?(two:2<=p)(z:∀r,r<=m->Jf p (f6 r) (B1 r) (A1 r))(P:∀r,r<=m->Jf p (f7 r) (B2 r) (A2 r))(Z:∀r,r<=m->Jf p (f6 r) (A1 r) (B1 r))(v2:∀r,r<=m->Jf p (f7 r) (A2 r) (B2 r))
 (R:∀k,k<m->∀i j,i<f6 (zX w k)->j<f6 (zS w k)->T1 k i j%p=mM p (f6<|zS w k) (mM p (f6<|zX w k) (A1<|zX w k)<|S1 k) (B1<|zS w k) i j)
 (e2:∀k,k<m->∀i j,i<f7 (zX w k)->j<f7 (zS w k)->T2 k i j%p=mM p (f7<|zS w k) (mM p (f7<|zX w k) (A2<|zX w k)<|S2 k) (B2<|zS w k) i j)
 (H:rD p m w f6 f7 S1 S2 c E):rD p m w f6 f7 T1 T2 c λs r=>mM p (f6 r) (mM p (f7 r) (A2 r)<|E s r) (B1 r):=by
 have Q:0<p:=()
 have g:∀{wd:DK} {T S A B:DQ},(∀r,r<=m->Jf p (wd r) (B r) (A r))->(∀k,k<m->∀i j,i<_->j<_->T k i j%p=_)->∀k,k<m->∀i j,i<_->j<_->S k i j%p=mM p _ (mM p _ (B<|zX w k)<|T k) (A<|zS w k) i j:=λ{wd T S A B} u e k U i j d O=>by rw[<-JY two (u _<|au U) (u _<|QR U) d O];refine qJ (λx F=>?_) λ_ _=>rfl;refine OX _ λy G=>?_;rw[e k U y x G F,Ck Q]
 refine(λs f=>gi two z P R e2<|H.ui s f,λh C=>?_,λt Y s f=>?_)
 .obtain⟨t,Y⟩:=H.span _ (gi two Z v2 (g z R) (g P e2) C)
  refine(t,λr I i j d O=>?_);rw[<-JY two (v2 r I) (Z r I) d O,fB Q (Y r I)]
 .refine H.ind t (λr I i j d O=>?_) s f
  have l:=fB (X:=λ_ _=>0) Q (λa b n o=>(Y r I a b n o).symm) (B2 r) (A1 r) i j;rw[zh λs _=>by rw[(λs=>JY (h:=E s r) two (P r I) (z r I) d O) s],bz]at l;rw[<-l];have J:∀x,mM p (f7 r) (B2 r) (λ_ _=>0) i x=0:=λx=>by unfold mM;rw[zh λk _=>UP _,zA];rfl
  unfold mM;rw[zh λk _=>by have:=J k;unfold mM at this;rw[this,rJ],zA]
  rfl
end
structure N6(p:Int)(m:Nat)(w:DV)(wd:DK)(K:List (Int×Int))(T F G:DQ):Prop where
 pp:_t p m w wd K T F G
 st:∀b∈K,ya ((m+1:Nat):Int) b
 br:∀r,r<=m->n7 K r=wd r
 le:K.length<=48
theorem VJ{p:Int}{m:Nat}{w:DV}{z B:DK}{K1 K2:List (Int×Int)}{T1 Y H T2 Z P:DQ}(R:Pr p)(y:N6 p m w z K1 T1 Y H)(I:N6 p m w B K2 T2 Z P):∃(c:Nat) (E:Nat->Nat->Nat->Nat->Int),c=yV (K1.map λb=>yV<|K2.map λc=>m3 w b c)/\rD p m w z B T1 T2 c E:=by
 refine(_,_,iE,rD.C? R.two (λr O=>(y.pp.pr r ()).gf) (λr O=>(I.pp.pr r ()).gf) (λr O=>(y.pp.pr r ()).fg) (λr O=>(I.pp.pr r ()).fg) (λk Q i j a U=>?_) (λk Q i j a U=>?_)<|(zd0 y.st I.st).wd y.br I.br)
 .rw[UG (y.pp.rg k i j).1 (y.pp.rg k i j).2]
  exact y.pp.et k Q i j a U
 .rw[UG (I.pp.rg k i j).1 (I.pp.rg k i j).2]
  exact I.pp.et k Q i j a U
section
theorem oz.ext(e:∀r,r<=m->∀i j,i<f7 r->j<f6 r->h r i j=h' r i j)(H:oz p m w f6 f7 T1 T2 h):oz p m w f6 f7 T1 T2 h':=λk y i j a O=>by rw[qJ (λt I=>(e _ (au (w:=w) y) i t a I).symm) λ_ _=>rfl,qJ (λ_ _=>rfl) λt I=>(e _ (QR (w:=w) y) t j I O).symm];exact H k y i j a O
theorem Lx(I:r<=m)(z:i<f7 r)(y:j<f6 r)(h:DQ):KH f7 f6 (p9 f7 f6 h<|m+1) r i j=h r i j:=wD z y (m+1) ()
end
theorem Cz(U:Pr p)(z:Rk p n R M R)(y:Vc):∃v:Vc,∀i,i<R->zg (λx=>M i x*v x) n%p=y i%p:=by
 obtain⟨m,_,Y⟩:=vm U n _;have e:=EJ U (Tv R) (Tv n) Y z;subst e;obtain⟨B,l,I,f⟩:=Y;have lo k:k<R->k<=l k:=by
  induction k with
  |zero=>exact λ_=>UU _
  |succ k O=>exact λh=>by have:=O ();have:=I.mono k (k+1) () h;lia
 have a:∀d k,k+d+1=R->l k+d<R:=λd=>by
  induction d with
  |zero=>exact λk h=>I.lt k ()
  |succ d O=>exact λk h=>by have:=O (k+1) ();have:=I.mono k (k+1) () ();lia
 have Z k:k<R->l k=k:=λQ=>by have:=lo k Q;have:=a (R-1-k) k ();lia
 obtain⟨t,g⟩:=yv<|(f y).mp ((vK B y).congr λi a=>by rw[zG a λk Q b=>by have:=I.oe k i Q a<|Ue b;rw[Z i a]at this;rw[this,UP]];have:=I.one i a;rw[Z i a]at this;rw[this,sM])
 exact(t,λi a=>by rw[g i a];congr 1;exact zh λj _=>UC _ _)
theorem Nw(a b:Nat):(a+b<a)=False:=eq_false ()
section
variable{p:Int}{m c:Nat}{w:DV}{wd wd' E_ F':DK}{T T' J TX TY h:DQ}{E:Nat->Nat->Nat->Nat->Int}
theorem oz.k_(t:Vc)(H:∀s,s<c->oz p m w E_ F' TX TY (E s)):oz p m w E_ F' TX TY λr i j=>zg (λs=>t s*E s r i j) c:=λk y i j a I=>by rw[LY λ_ _=>rfl,LX (X:=λi j=>zg (λs=>t s*_) c) λ_ _=>rfl];congr 1;exact zh λs b=>by rw[H s b k y i j a I]
def yT(w:DV)(wd:DK)(T T' J:DQ)(k:Nat):Nat->Nat->Int:=Jw (dH w wd k) (dq w wd k) (T k) (T' k)<|J k
theorem Cr(j:i<wd (zX w k))(x:Vc)(n:Nat):zg (λt=>yT w wd T T' J k i t*x t) (wd (zS w k)+n)=zg (λt=>T k i t*x t) (wd<|zS w k)+zg (λt=>J k i t*x (wd (zS w k)+t)) n:=by
 rw[jt w wd k]at j;rw[jw w wd k,yu];unfold yT Jw;simp only[DZ j];congr 1
 .exact zh λt y=>by rw[zR y]
 .exact zh λt y=>by rw[z6]
theorem Cq(i:Nat)(x:Vc)(n:Nat):zg (λt=>yT w wd T T' J k (wd (zX w k)+i) t*x t) (wd (zS w k)+n)=zg (λt=>T' k i t*x (wd (zS w k)+t)) n:=by rw[jw w wd k,jt w wd k,yu];unfold yT Jw;simp only[DJ (():¬dH w wd k+i<dH w wd k),TM];rw[zh λt y=>by rw[zR y,rJ],zA,NP];exact zh λt y=>by rw[z6]
theorem H9:oz p m w wd' (λr=>wd r+wd' r) T' (yT w wd T T' J) h↔(∀k,k<m->∀i j,i<wd (zX w k)->j<wd' (zS w k)->zg (λt=>h (zX w k) i t*T' k t j) (wd'<|zX w k)%p=(zg (λt=>T k i t*h (zS w k) t j) (wd<|zS w k)+zg (λt=>J k i t*h (zS w k) (wd (zS w k)+t) j) (wd'<|zS w k))%p)/\oz p m w wd' wd' T' T' λr i j=>h r (wd r+i) j:=by
 constructor
 .intro H
  refine(λk y i j a I=>?_,λk y i j a I=>?_)
  .have:=H k y i j (TC a<|TL _ _) I
   unfold mM at this;rw[this,Cr a]
  .have:=H k y _ j (Dd a _) I
   unfold mM at this ⊢;rw[this,Cq]
 .rintro⟨b,d⟩ k y i j a I
  unfold mM;by_cases q:i<wd (zX w k)
  .rw[Cr q];exact b k y i j q I
  .have:=d k y (i-wd (zX w k)) j () I
   unfold mM at this;obtain⟨O,rfl⟩:∃O,i=wd (zX w k)+O:=(i-wd (zX w k),());rw[TM]at this;rw[Cq];exact this
theorem Y0(h:∀k,k<n->f k%p=0):zg f n%p=0:=by rw[zE (g:=λ_=>0) λk y=>by simp_all,zA];simp
theorem Aj{a b:Int}(h:b%p=0):a*b%p=0:=by rw[Tt,h];simp
theorem dz{a b:Int}(h:a%p=0):a*b%p=0:=by rw[Tt,h];simp
theorem BD(v:Vc)(M:Nat->Vc)(x y:Vc)(q:∀s,s<cX->x s%p=zg (λu=>M s u*y u) cY%p):zg (λs=>v s*x s) cX%p=zg (λu=>zg (λs=>v s*M s u) cX*y u) cY%p:=by rw[zE (g:=λs=>v s*zg _ cY) λs a=>by rw[Tt,q s a,<-Tt]];congr 1;rw[zh (g:=λs=>zg _ cY) λs _=>by rw[zT],jS];refine zh λu _=>?_;rw[<-qz];exact zh λs _=>by rw[qd]
theorem Eo(hp:Pr p){cA Z cB:Nat}{B P I:Nat->Nat->Nat->Nat->Int}(R:rD p m w wd' wd T' T cA B)(HC:rD p m w wd' wd' T' T' Z P)(H:rD p m w wd' (λr=>wd r+wd' r) T' (yT w wd T T' J) cB I)(hc:cB=cA+Z):∃S,sD p m w wd wd' T T' J S:=by
 have N s:∃t:Vc,s<cB->∀r,r<=m->∀i j,i<wd' r->j<wd' r->I s r (wd r+i) j%p=zg (λu=>t u*P u r i j) Z%p:=by
  by_cases o:s<cB
  .obtain⟨t,O⟩:=HC.span _ (H9.mp<|H.ui s o).2
   exact(t,λ_=>O)
  .exact(λ_=>0,λh=>absurd h o)
 obtain⟨M,hM⟩:=D7 N;have X s:∃t:Vc,s<cA->∀r,r<=m->∀i j,i<wd r+wd' r->j<wd' r->(if i<wd r then B s r i j else 0)%p=zg (λu=>t u*I u r i j) cB%p:=by
  by_cases o:s<cA
  .obtain⟨t,O⟩:=H.span (λr i j=>if i<wd r then B s r i j else 0) (H9.mpr (λk U i j l y=>by
    have:=R.ui s o k U i j l y;unfold mM at this;simp only[DZ l,DJ (show ¬wd (zS w k)+_<wd (zS w k)by lia),UP,zA,rb];rw[this];congr 1;exact zh λt O=>by rw[DZ O],λk U i j l y=>by
    unfold mM;simp only[Nw,if_false,rJ,UP,zA]))
   exact(t,λ_=>O)
  .exact(λ_=>0,λh=>absurd h o)
 obtain⟨W,K⟩:=D7 X;have F:∀(v:Vc) r,r<=m->∀i j,i<wd' r->j<wd' r->zg (λs=>v s*I s r (wd r+i) j) cB%p=zg (λu=>zg (λs=>v s*M s u) cB*P u r i j) Z%p:=λv r Q i j l y=>BD v M (λs=>I s r (wd r+i) j) (λu=>P u r i j) λs o=>hM s o r Q i j l y;have G:∀(t:Vc) r,r<=m->∀i j,i<wd r+wd' r->j<wd' r->(if i<wd r then zg (λs=>t s*B s r i j) cA else 0)%p=zg (λu=>zg (λs=>t s*W s u) cA*I u r i j) cB%p:=λt r Q i j l y=>by
  rw[<-BD t W (λs=>if i<wd r then B s r i j else 0) (λu=>I u r i j) λs o=>K s o r Q i j l y];split
  .rfl
  .simp[zA]
 obtain⟨r,_,Q⟩:=vm hp (n:=cB) Z λu s=>M s u;have A:∀(v:Vc) u,zg (λs=>M s u*v s) cB=zg (λs=>v s*M s u) cB:=λv u=>zh λs _=>UC _ _;have ap:cA+r=cB:=oY (W:=W) (c:=cA) hp Q (λj y u Y=>by
  rw[A];refine HC.ind (λu=>zg (λs=>W j s*M s u) cB) (λr Q i k l U=>?_) u Y;rw[<-F _ r Q i k l U,<-K j y r Q _ k (Dd l _) U,DJ ()];simp) (λv C=>by
  have z r:r<=m->∀i j,i<wd' r->j<wd' r->zg (λs=>v s*I s r (wd r+i) j) cB%p=0:=λQ i j l y=>by rw[F v r Q i j l y];exact Y0 λu Y=>dz (by rw[<-A];exact C u Y)
  obtain⟨t,O⟩:=R.span (λr i j=>zg (λs=>v s*I s r i j) cB) λk U i j l y=>by have:=(H9.mp<|oz.k_ v H.ui).1 k U i j l y;unfold mM;rw[this,Um,Y0 (f:=λt=>J k i t*_) λt O=>Aj (z _ (QR U) t j O y)];simp
  refine(t,λx hx=>?_);have:=H.ind (λx=>v x-zg (λs=>t s*W s x) cA) (λr Q i j l y=>by
   rw[zh (g:=λs=>v s*I s r i j-zg (λq=>t q*W q s) cA*I s r i j) λs _=>Int.sub_mul ..,Wj,rK,<-G t r Q i j l y];by_cases q:i<wd r
   .rw[DZ q,<-O r Q i j q y,Int.sub_self];simp
   .obtain⟨E,rfl⟩:∃E,i=wd r+E:=(i-wd r,())
    rw[DJ q,z r Q E j () y];simp) x hx
  exact Ul.mpr this) λt O=>R.ind t λr Q i j l y=>by have:=G t r Q i j () y;rw[DZ l]at this;rw[this];exact Y0 λu Y=>dz<|O u Y
 obtain rfl:r=Z:=()
 obtain⟨e,he⟩:=HC.span (λ_=>gm) λk U i j l y=>by rw[Cg l,fw y]
 obtain⟨v,C⟩:=Cz hp Q e;refine(λr i j=> -(zg (λs=>v s*I s r i j) cB),λk i j U l y=>?_);rw[<-jt]at l;rw[<-jw]at y;have:=(H9.mp<|oz.k_ v H.ui).1 k U i j l y;have id t:t<wd' (zS w k)->zg (λs=>v s*I s (zS w k) (wd (zS w k)+t) j) cB%p=gm t j%p:=λO=>by rw[F v _ (QR U) t j O y,he _ (QR U) t j O y];exact zE λu Y=>by rw[Tt,<-A,C u Y,<-Tt]
 have jj:zg (λt=>J k i t*zg (λs=>v s*I s (zS w k) (wd (zS w k)+t) j) cB) (wd'<|zS w k)%p=J k i j%p:=by rw[zE (g:=λt=>J k i t*gm t j) λt O=>by rw[Tt,id t O,<-Tt],zG y λt O L=>by simp[gm,L]];simp[gm]
 rw[Um,jj,<-Um]at this;unfold aY;rw[<-jt,<-jw,zh (g:=λt=> -1*(zg (λs=>v s*I s (zX w k) i t) cB*T' k t j)) λt _=>by grind,zh (f:=λt=>T k i t*_) (g:=λt=> -1*(T k i t*zg (λs=>v s*I s (zS w k) t j) cB)) λt _=>by grind,zT,zT];have d:=Int.dvd_neg.mpr<|Int.dvd_of_emod_eq_zero<|Ul.mp this;refine Ul.mpr<|Int.emod_eq_zero_of_dvd ?_;generalize zg (λt=>zg (λs=>v s*I s (zX w k) i t) cB*T' k t j) (wd'<|zX w k)=a at d ⊢;generalize zg (λt=>T k i t*zg (λs=>v s*I s (zS w k) t j) cB) (wd<|zS w k)=b at d ⊢
 rwa [show -1*a - -1*b - -(J k i j) = -(a-(b+J k i j))by lia]
end
section
theorem FN:(∀k i j,k<m->i<dH w wd k->j<dq w wd' k->aY w wd wd' T T' h k i j%p=0)↔oz p m w wd' wd T' T h:=by
 have a:∀k i j,aY w wd wd' T T' h k i j%p=0↔_=mM p _ (T k) _ i j:=λk i j=>by unfold aY mM;rw[Ul,<-jt,<-jw,zh λt _=>UC ..]
 exact(λH k y i j b I=>(a k i j).mp (H k i j y (by rwa [<-jt])<|by rwa [<-jw]),λH k i j y b I=>(a k i j).mpr (H k y i j (by rwa [jt w wd k])<|by rwa [jw w wd' k]))
theorem LO(Q:Pr p)(H:rD p m w wd' wd T' T c E)(z:c-((off wd wd'<|m+1)-(off (dH w wd) (dq w wd') m:Int))=0):∃S,sD p m w wd wd' T T' J S:=by
 have Z:∀v,(∀e,e<off _ _ m->zg (λx=>_*v x) _%p=0)↔oz p m w wd' wd T' T (KH wd wd' v):=λv=>by
  rw[<-FN];constructor
  .intro h k i j I a y
   rw[<-ZA v I a y];exact h _<|aM I a y
  .intro h e f
   obtain⟨k,i,j,I,a,y,rfl⟩:=uM _ _ f;rw[ZA v I a y];exact h k i j I a y
 obtain⟨r,_,d⟩:=vm Q _ _;have:=oY Q d (λs b=>(Z _).mpr ((H.ui s b).ext λq O i j a y=>(Lx O a y<|E s).symm)) (λv U=>by
  obtain⟨t,Y⟩:=H.span _<|(Z v).mp U;refine(t,λx g=>?_);obtain⟨q,i,j,O,a,y,rfl⟩:=uM _ _ g;have:=Y q () i j a y;rw[show KH wd wd' v q i j=v _ from rfl]at this;rw[this];exact zE λs _=>by rw[wD a y (m+1) O]) λt Y s b=>by
  refine H.ind t (λq O i j a y=>?_) s b;rw[<-Y _ (aM () a y)];exact zE λs _=>by rw[wD a y (m+1) ()]
 obtain rfl:r=off (dH w wd) (dq w wd') m:=()
 obtain⟨v,U⟩:=Cz Q d λe=> -(p9 _ _ J m e);exact(_,λk i j I a y=>by rw[<-ZA v I a y,U _<|aM I a y,wD a y m I])
theorem i5.cr(e:∀k,k<m->∀i j,i<wd (zX w k)->j<wd (zS w k)->T1 k i j%p=T k i j%p)(D:i5 p w wd T m N A):i5 p w wd T1 m N A:=
 (λj y=>((D.ok j y).n1,(D.ok j y).le,(D.ok j y).i6,λk I O i a=>by rw[<-(D.ok j y).arr k I O i a];exact zE λt Q=>by rw[Tt,e k I i t a Q,<-Tt]),D.sp,D.inj,D.cnt)
def uT(z:Int)(wd:DK)(S:DQ)(r i j:Nat):Int:=if i<wd r/\wd r<=j then z*S r i (j-wd r)else gm i j
theorem Bx(j:i<wd r+n)(x:Vc):zg (λk=>uT σ wd S r i k*x k) (wd r+n)=x i+if i<wd r then σ*zg (λk=>S r i k*x (wd r+k)) n else 0:=by
 by_cases q:i<wd r
 .rw[yu,DZ q,<-zT]
  congr 1
  .rw[zG q λk I y=>by simp[uT,gm,Ue y];lia]
   simp[uT,gm];lia
  .exact zh λk I=>by simp[uT,q,qd]
 .rw[zG j λk I y=>by simp[uT,gm,Ue y,q],DJ q]
  simp[uT,gm,q]
theorem HU(U:j<wd r+n)(y:Vc):zg (λb=>uT σ wd S r b j*y b) (wd r+n)=y j+if wd r<=j then σ*zg (λb=>S r b (j-wd r)*y b) (wd r)else 0:=by
 by_cases q:wd r<=j
 .rw[yu,DZ q,<-zT,Int.add_comm]
  congr 1
  .obtain⟨I,rfl⟩:∃I,j=wd r+I:=(j-wd r,())
   rw[zG (():I<n) λk O Q=>by simp[uT,gm,Q,Nw]];simp[uT,gm,Nw]
  .exact zh λk O=>by simp[uT,q,O,qd]
 .rw[zG U λk O Q=>by simp[uT,gm,Q,q],DJ q]
  simp[uT,gm,q]
theorem mK(B:Int)(r n:Nat):Jf p (wd r+n) (uT B wd S r) (uT (-B) wd S r):=λi j a O=>by
 congr 1;rw[Bx a _];by_cases q:i<wd r
 .rw[DZ q,zh (g:=λk=>S r i k*gm (wd r+k) j) λk _=>by simp[uT,Nw]]
  by_cases z:wd r<=j
  .obtain⟨y,rfl⟩:∃y,j=wd r+y:=(j-wd r,())
   rw[zG (():y<n) λk Q I=>by simp[gm,I]];simp[uT,gm,q];rw[DJ ()]
   grind
  .rw[zh (g:=λ_=>0) λk _=>by simp[gm];lia,zA]
   simp[uT,z]
 .simp[uT,q]
theorem RM(z:i<wd (zX w k))(y:j<wd (zS w k)):yT w wd T T' J k i j=T k i j:=by unfold yT Jw;rw[<-jt,<-jw,DZ z,zR y]
theorem SF(z:i<wd (zX w k))(j:Nat):yT w wd T T' J k i (wd (zS w k)+j)=J k i j:=by unfold yT Jw;rw[<-jt,<-jw,DZ z,z6]
theorem LV(i:Nat)(y:j<wd (zS w k)):yT w wd T T' J k (wd (zX w k)+i) j=0:=by unfold yT Jw;rw[<-jt,<-jw,DJ (),zR y]
theorem OY(i j:Nat):yT w wd T T' J k (wd (zX w k)+i) (wd (zS w k)+j)=T' k i j:=by unfold yT Jw;rw[<-jt,<-jw,DJ (),z6,TM]
theorem zd7(Z:0<p)(z:sD p m w wd wd' T T' J S)(D:i5 p w (λr=>wd r+wd' r) (gA w wd T T') m N A):∃U,i5 p w (λr=>wd r+wd' r) (yT w wd T T' J) m N U/\JT U N=JT A N:=by
 refine(_,(Xr (g:=uT 1 wd S) Z (λr _=>mK (-1) r _) (λr _=>mK 1 r _) D).cr λk n i j h l=>?_,rfl);have e:gA w wd T T'=yT w wd T T' _:=rfl;rw[e];unfold wL;rw[Dc _ (Dg p),zE (g:=λb=>_*(_+_)) λb _=>by rw[Tt,Dc _<|Dg p,<-Tt,<-Bx h λa=>yT w wd T T' _ k a b,zh λa _=>UC ..],HU l]
 by_cases I:i<wd (zX w k)
 .by_cases O:wd (zS w k)<=j
  .obtain⟨y,rfl⟩:∃y,j=wd (zS w k)+y:=(j-wd (zS w k),())
   have mk:=z k i y n (by rwa [<-jt]) (by rw[<-jw];lia);unfold aY at mk;rw[<-jt,<-jw]at mk;simp only[DZ I,DZ O,SF I,OY,TM];rw[zh (f:=λb=>S (zS w k) b y*_) λb Q=>by rw[RM I Q,zh λa _=>by rw[LV _ Q,UP],zA,UP,rb,UC],zh λt _=>UC ..];generalize zg _ _=a at mk ⊢;generalize zg _ _=b at mk ⊢;have d:=Int.dvd_of_emod_eq_zero<|Ul.mp mk;refine Ul.mpr<|Int.emod_eq_zero_of_dvd ?_
   rwa [show J k i y-_=a-b - -J k i y by lia]
  .simp only[DZ I,DJ O,RM I (():j<_),LV _ (show j<wd (zS w k)by lia),UP,zA,rb]
 .obtain⟨Y,rfl⟩:∃Y,i=wd (zX w k)+Y:=(i-wd (zX w k),())
  simp only[DJ I,rb];by_cases O:wd (zS w k)<=j
  .obtain⟨y,rfl⟩:∃y,j=wd (zS w k)+y:=(j-wd (zS w k),())
   rw[DZ O,OY,OY,zh λb Q=>by rw[LV _ Q,UP],zA];simp
  .rw[DJ O,LV _ (),LV _ ()]
   simp
end
noncomputable def Mn(w:DV)(a:Nat):Int:=if w (a-1)=cC then (a:Int)else -(a:Int)
noncomputable def Mj(w:DV)(m b:Nat):Int:=if w b=cC then (b:Int)-m else (m:Int)-b
theorem LZ(h:sJ w a c=cC):a=c\/Mn w a<Mn w c:=by
 by_cases q:a=c
 .exact .inl q
 .right
  unfold sJ at h;simp only[q,decide_false,GO,beq_iff_eq]at h;unfold Mn;by_cases l:a<c
  .rw[show max a c=c by omega,decide_eq_true l]at h
   rw[DZ h];split<;>omega
  .rw[show max a c=a by omega,decide_eq_false l]at h
   rw[DJ (by rw[h];decide)];split<;>omega
theorem IE(y:b<=m)(j:d<=m)(h:sL w b d=cC):b=d\/Mj w m b<Mj w m d:=by
 by_cases q:b=d
 .exact .inl q
 .right
  unfold sL at h;simp only[q,decide_false,GO,beq_iff_eq]at h;unfold Mj;lia
def ba(w:DV)(m:Nat)(b:Int×Int):Int:=Mn w b.1.toNat+Mj w m b.2.toNat
theorem MQ(y:ya ((m+1:Nat)) b)(I:ya ((m+1:Nat)) c)(h:m3 w b c≠0):b=c\/ba w m b<ba w m c:=by
 obtain⟨d,e,f⟩:=y;obtain⟨O,Q,U⟩:=I;have a:qq w b.1.toNat b.2.toNat c.1.toNat c.2.toNat=cC:=by unfold m3 at h;lia
 unfold qq at a;simp only[TZ]at a;have l:=LZ a.2.1;have r:=IE (m:=m) () () a.2.2;unfold ba;rcases l with l|l<;>rcases r with r|r
 .left
  refine Prod.ext ?_ ?_<;>lia
 .rw[l];right;lia
 .rw[r];right;lia
 .right;lia
theorem GP(y:ya n b):m3 w b b=1:=by obtain⟨I,O,Q⟩:=y;unfold m3 qq sJ sL;rw[DZ];simp;lia
theorem QE(y:ya ((m+1:Nat)) c):∀bs:List (Int×Int),(∀b∈bs,ya ((m+1:Nat)) b)->yV (bs.map λb=>m3 w b c)=(bs.count c)+yV ((bs.filter λb=>decide<|ba w m b<ba w m c).map λb=>m3 w b c)
 |[],_=>rfl
 | b::bs,h=>by
  have I:=h b Uh;rw[UL];show m3 w b c+_=_;rw[(QE (w:=w) y bs λx O=>h x<|TN _ O)];by_cases e:b=c
  .subst e
   rw[List.filter_cons_of_neg (),GP I,List.count_cons_self];lia
  .rw[List.count_cons_of_ne e]
   by_cases k:ba w m b<ba w m c
   .rw[List.filter_cons_of_pos (by simpa using k)]
    show _=_+(m3 w b c+yV _);lia
   .rw[List.filter_cons_of_neg (by simpa using k)]
    have z:=Decidable.byContradiction λQ=>(MQ I y Q).elim e k;lia
theorem HZ{w:DV}{m:Nat}{bs1 bs2:List (Int×Int)}(I:∀b∈bs1,ya ((m+1:Nat)) b)(O:∀b∈bs2,ya ((m+1:Nat)) b)
 (e:∀c,ya ((m+1:Nat)) c->yV (bs1.map λb=>m3 w b c)=yV (bs2.map λb=>m3 w b c)):bs1.Perm bs2:=by
 have d:∀n c,(ba w m c+100+4*m).toNat<n->bs1.count c=bs2.count c:=by
  intro n
  induction n with
  |zero=>lia
  | succ n U=>
   intro c Z;by_cases a:ya ((m+1:Nat)) c
   .have i:=QE (w:=w) a bs1 I
    have j:=QE (w:=w) a bs2 O;have lo b:ya ((m+1:Nat)) b->0<=ba w m b+100+4*m:=λy=>by obtain⟨f,g,h⟩:=y;unfold ba Mn Mj;split<;>split<;>lia
    have Y:(bs1.filter λb=>decide<|ba w m b<ba w m c).Perm (bs2.filter λb=>decide<|ba w m b<ba w m c):=by
     rw[D4];intro b;by_cases k:ba w m b<ba w m c
     .rw[List.count_filter (by simpa using k),List.count_filter (by simpa using k)]
      by_cases Q:ya ((m+1:Nat)) b
      .have:=lo b Q
       exact U b ()
      .rw[UI λy=>Q<|I b y,UI λy=>Q (O b y)]
     .rw[UI (by simp[k]),UI (by simp[k])]
    have:=Xu<|Y.map λb=>m3 w b c;have:=e c a;lia
   .rw[UI λy=>a<|I c y,UI λy=>a (O c y)]
 rw[D4];exact λc=>d _ c<|sd _
abbrev zP(s:Nat×Nat):Int×Int:=((s.1:Int),(s.2:Int))
theorem MF(x b:Int×Int):i0 (.tup [.int x.1,.int x.2]) (.tup [.int b.1,.int b.2])=(x==b):=by rw[YG,y7];rfl
theorem gp(b:Int×Int):∀bs,((zY bs).countP λd=>i0 d<|.tup [.int b.1,.int b.2])=bs.count b
 |[]=>rfl
 |x::bs=>by show((_::zY bs).countP _)=_;simp only[_a,List.count_cons,(gp b bs)];rw[MF x b]
theorem ZC(y:g γ=cz (.L,zY bs))(I:f γ=cz (.tup [.int b.1,.int b.2])):xA g f γ=cz (.int<|bs.count b):=by unfold xA;rw[y,I];show(if _/\_ then cz _ else none)=_;rw[DZ (rfl,WR bs),gp]
noncomputable def Gv(bs1 bs2:List (Int×Int))(s:Nat×Nat):Bool:=decide<|bs1.count (zP s)≠bs2.count (zP s)
section
theorem W9{P:Nat×Nat->Bool}{g:Nat×Nat->D}{L:List (Nat×Nat)}{s:Nat×Nat}(h:L.find? P=cz s):((hO ((L.filter P).map g).length 0).bind λk=>((L.filter P).map g)[k]?)=cz (g s):=by
 rw[<-List.head?_filter]at h;obtain⟨t,e⟩:∃t,L.filter P=s::t:=by
  cases q:L.filter P with
  |nil=>rw[q]at h;cases h
  |cons a t=>grind
 simp_all
def Bz(w:DV)(bs1 bs2:List (Int×Int))(s:Nat×Nat):Bool:=decide<|yV (bs1.map λb=>m3 w b<|zP s)≠yV (bs2.map λb=>m3 w b<|zP s)
def SO(bs1 bs2:List (Int×Int))(s t:Nat×Nat):D:=.tup [.str "apart",kD s,.int (bs1.count (zP s):Nat),.int (bs2.count (zP s):Nat),kD t]
theorem BE(h:s∈stN M):ya M (zP s):=by obtain⟨y,I⟩:=r9.mp h;exact((),(),())
theorem Ed(y:m<=5)(I:∀b∈bs1,ya ((m+1:Nat)) b)(O:∀b∈bs2,ya ((m+1:Nat)) b)(j:bs1.length<=lim)(z:bs2.length<=lim)(hs:s∈stN (m+1)):xy [.str (yP m w),.lst<|zY bs1,.lst<|zY bs2,kD s]=cz (.val<|.bl<|Bz w bs1 bs2 s):=by
 have a:qM [.str (yP m w),_,kD s]=_:=cG (c:=zP s) y I j<|BE hs;have Q:qM [.str (yP m w),_,kD s]=_:=cG (c:=zP s) y O z<|BE hs;unfold xy;refine zU ?_;show qQ _ [_,_,_,_]=_;unfold Bz
 simp_all
theorem GZ(Y:m<=5)(Z:∀b∈bs1,ya ((m+1:Nat)) b)(j:∀b∈bs2,ya ((m+1:Nat)) b)(B:bs1.length<=lim)(E:bs2.length<=lim)(hs:(stN<|m+1).find? (Gv bs1 bs2)=cz s)(z:(stN<|m+1).find? (Bz w bs1 bs2)=cz t):
 KG [.str (yP m w),.lst<|zY bs1,.lst (zY bs2)]=cz (.val<|SO bs1 bs2 s t):=by
 have o:=je;have O:=Ih (m+1,());have n:=(dU (m+1,())).2.2;dsimp only at O n;have Q:((stN<|m+1).map kD).length<=lim:=by rw[Ua];lia
 let γ:Cell->Cell->Cell->Ctx:=λe f g=>[.val (.str<|yP m w),.val<|.lst<|zY bs1,.val<|.lst<|zY bs2,e,f,g];let S:=Cell.val<|.lst<|(stN<|m+1).map kD;have i:jF 3 (jX<|jm qr<|zb (zM j6 (wZ<|zf 0)<|sI 1) zD) (γ .no .no .no)=cz (.next<|γ S .no .no):=by
  have d:qr [.int (m+1)]=cz (.own<|(stN<|m+1).map kD):=by rw[<-O];rfl
  simp[γ,S,vG,d,(xD (m:=m) w ())]
 have l:jF 5 (cI (qU<|zW (z9<|zm 3) (.nm 0) 1 [0,1,2] Ob (zf 0))<|sI 0) (γ S (.val<|kD s) .no)=cz (.next<|γ S (.val<|kD s)<|.val<|kD t):=by
  have a:zQ (.nm 0) Ob (zf 0) [Cell.no,.val<|.str<|yP m w,.val<|.lst<|zY bs1,.val (.lst<|zY bs2)] ((stN<|m+1).map kD)=cz (((stN<|m+1).filter (Bz w bs1 bs2)).map kD):=jD _ _ _ λx U=>([.val (kD x),.val<|.str<|yP m w,.val<|.lst<|zY bs1,.val (.lst<|zY bs2)],rfl,by
   simp[Ob,(Ed (w:=w) Y Z j B E U)],λ_=>rfl)
  simp only[ZO,vg,Zo,qS,show z9 (zm 3) (γ S (.val<|kD s) .no)=cz ((stN<|m+1).map kD)from rfl,Tx,DZ Q,show jq 1 [0,1,2] (γ S (.val<|kD s) .no)=[Cell.no,.val<|.str<|yP m w,.val<|.lst<|zY bs1,.val (.lst<|zY bs2)]from rfl,a];show NS _ ((hO (((stN<|m+1).filter (Bz w bs1 bs2)).map kD).length 0).bind λk=>(((stN<|m+1).filter (Bz w bs1 bs2)).map kD)[k]?)=_;rw[W9 z];rfl
 rw[KG];refine zU (zy i (zy (by
  have a:zQ (.nm 0) Rr (zf 0) [Cell.no,.val<|.lst<|zY bs1,.val (.lst<|zY bs2)] ((stN<|m+1).map kD)=cz (((stN<|m+1).filter (Gv bs1 bs2)).map kD):=jD _ _ _ λx U=>([.val (kD x),.val<|.lst<|zY bs1,.val (.lst<|zY bs2)],rfl,by
   have y:xA (zm 1) (zf 0) [.val (kD x),.val<|.lst<|zY bs1,.val (.lst<|zY bs2)]=cz (.int<|bs1.count<|zP x):=ZC rfl rfl;have I:xA (zm 2) (zf 0) [.val (kD x),.val<|.lst<|zY bs1,.val (.lst<|zY bs2)]=cz (.int<|bs2.count<|zP x):=ZC rfl rfl;unfold Rr Gv;simp only[Rq,JL,y,I];by_cases q:bs1.count (zP x)=bs2.count (zP x)
   .simp[q]
   .have h:¬((bs1.count (zP x):Nat))=((bs2.count<|zP x):Int):=()
    simp[q,h],λ_=>rfl)
  simp only[ZO,vg,Zo,qS,show z9 (zm 3) (γ S .no .no)=cz ((stN<|m+1).map kD)from rfl,Tx,DZ Q,show jq 1 [1,2] (γ S .no .no)=[Cell.no,.val<|.lst<|zY bs1,.val (.lst<|zY bs2)]from rfl,a];show NS _ ((hO (((stN<|m+1).filter (Gv bs1 bs2)).map kD).length 0).bind λk=>(((stN<|m+1).filter (Gv bs1 bs2)).map kD)[k]?)=_;rw[W9 hs];rfl) (zy l ?_)))
 have y:xA (zm 1) (zf 4) (γ S (.val<|kD s)<|.val<|kD t)=cz (.int<|bs1.count<|zP s):=ZC rfl rfl;have I:xA (zm 2) (zf 4) (γ S (.val<|kD s)<|.val<|kD t)=cz (.int<|bs2.count<|zP s):=ZC rfl rfl;simp only[Kz,aP,jQ,jQ,jQ,jQ,jQ,vz,y,I];rfl
end
theorem nA(e:F γ=cz (.ret r)):zV F G γ=cz (.ret r):=by rw[jf,e];rfl
section
theorem Ci(h:ya ((m+1:Nat)) c):∃s,s∈stN (m+1)/\zP s=c:=by
 obtain⟨y,I,O⟩:=h;refine((c.1.toNat,c.2.toNat),r9.mpr (by grind,()),?_)
 grind
theorem Gr(I:∀b∈bs1,ya ((m+1:Nat)) b)(O:∀b∈bs2,ya ((m+1:Nat)) b)(j:¬bs1.Perm bs2):(∃s,(stN<|m+1).find? (Gv bs1 bs2)=cz s)/\∃t,(stN<|m+1).find? (Bz w bs1 bs2)=cz t:=by
 constructor
 .cases q:(stN<|m+1).find? _ with
  |some s=>exact(s,rfl)
  | none=>
   refine absurd (D4.mpr λc=>?_) j;by_cases a:ya ((m+1:Nat)) c
   .obtain⟨s,d,rfl⟩:=Ci a
    simpa[Gv]using (FL.mp q s d)
   .rw[UI λy=>a<|I c y,UI λy=>a (O c y)]
 .cases q:(stN<|m+1).find? _ with
  |some s=>exact(s,rfl)
  |none=>
   refine absurd (HZ (w:=w) I O λc a=>?_) j;obtain⟨s,d,rfl⟩:=Ci a;simpa[Bz]using (FL.mp q s d)
end
section
theorem Hh(B:m<=5)(j:qw [jE p m w f6 T1]=cz (.val<|vq K1 (wM m f6 G1)<|wM m f6 F1))(Q:qw [jE p m w f7 T2]=cz (.val<|vq K2 (wM m f7 G2)<|wM m f7 F2))(z:K1≠K2)(U:KG [.str (yP m w),.lst<|zY K1,.lst (zY K2)]=cz (.val d)):
 Jd [jE p m w f6 T1,jE p m w f7 T2]=cz (.val d):=by
 have Y:=(vy (p:=p) (w:=w) (wd:=f6) (T:=T1) (wd':=f7) (T':=T2)<|show m<=900 by lia).2;have Z:=kU (p:=p) (w:=w) (wd:=f6) (T:=T1) (():m<=900);unfold vq at j Q;generalize jE p m w f6 T1=I at *;generalize jE p m w f7 T2=R2 at *;have a:m8 (.lst<|zY K1) (.lst<|zY K2)=cz (.bl cC):=by unfold m8;rw[DZ (QC _,QC _)];show cz (D.bl<|!pY (zY K1) (zY K2))=_;rw[(ar K1 K2),decide_eq_false z];rfl
 unfold Jd;generalize (wM m f6 G1)=X1 at *;generalize (wM m f6 F1)=Y1 at *;generalize (wM m f7 G2)=X2 at *;generalize (wM m f7 F2)=Y2 at *;let y:D:=.tup [.lst (zY K1),.lst<|X1.map tD,.lst (Y1.map tD)];let O:D:=.tup [.lst (zY K2),.lst<|X2.map tD,.lst (Y2.map tD)];refine zU<|zy (γ':=[.val I,.val R2,.no,.no,.no,.no]) (by simp[jd,Y])<|zy (γ':=[.val I,.val R2,.val y,.no,.no,.no]) (by simp[j,y])<|zy (γ':=[.val I,.val R2,.val y,.val O,.no,.no]) (by simp[Q,O])<|nA ?_;simp[y,O,hO,a,Z,U]
end
theorem dP:∀K L,yV (K++L)=yV K+yV L
 |[],L=>by simp[yV]
 |a::K,L=>by simp[yV,dP K L];lia
theorem xY(X:Nat->fh)(M:Nat):qW X M=(JT X M).map λs=>((s.1:Int),(s.2:Int)):=by unfold qW JT;rw[Uu];rfl
section
structure A8(p:Int)(m:Nat)(w:DV)(wd:DK)(T:DQ)(N:Nat)(A:Nat->fh)(F G:DQ):Prop where
 d:i5 p w wd T m N A
 s:∃x,qW A N=Y7 x
 q:N6 p m w wd (qW A N) T F G
theorem XT(Q:Pr p)(z:∀k,wd k<=8)(B:m<=5)(U:∀k i j,0<=T k i j/\T k i j<p):∃N A F G,A8 p m w wd T N A F G:=by
 refine Tf λu=>?_;obtain⟨h,Y,g,J,I,cnt,Z,⟨_,t⟩,l⟩:=ma (w:=w) Q () () z B λk i j _ _ _=>U k i j;refine u ?_;have x:=λj y=>(I j y).n1;have d:∀r,r<=m->n7 _ r=wd r:=λr O=>by unfold n7;rw[vo x,cnt _ O]
 refine(h,Y,_,g,Gw Q (λk=>TJ (z k) ()) I cnt λr O v=>(_,λi a=>(QY (Z r O).1 v a).symm),(_,t.trans<|nc _),(λr O=>?_,l,λk e i j a y=>?_,U),λb f=>?_,d,by unfold qW;rw[Ua,UM];lia)
 .obtain⟨C,E,H⟩:=Z r ()
  refine(λi j a y=>?_,λi j _ _=>H i j,C,E);obtain⟨n,o⟩:=cF (by rw[cnt r ()];exact y);exact(I _ n).i6 r i o a
 .rw[Bk Q I cnt (λr O=>(Z r O).1) e a y (U k i j),ze2,d _<|QR e,d _ (au e)]
 .unfold qW at f
  obtain⟨j,y,rfl⟩:=Uz.mp f;have:=(I j<|Tp.mp y).n1;have:=(I j<|Tp.mp y).le;exact(by show 0<=((Y j).s:Int);lia,by show((Y j).s)<=((_-1:Nat):Int);lia,by show((_-1:Nat):Int)<_;lia)
theorem Pc(y:Pr p)(O:m<=5)(E:∀k,wd k+wd' k<=8)(Q:∀k i j,0<=T k i j/\T k i j<p)(U:∀k i j,0<=T' k i j/\T' k i j<p)(B:A8 p m w wd T N1 A1 F1 G1)(z:A8 p m w wd' T' N2 A2 F2 G2)(I:A8 p m w (λk=>wd k+wd' k) (yT w wd T T' J) N3 A3 F3 G3):
 (∃S,sD p m w wd wd' T T' J S)↔(qW A3 N3).Perm (qW A1 N1++qW A2 N2):=by
 constructor
 .rintro⟨S,Y⟩
  obtain⟨N,A,F,G,H⟩:=XT (T:=gA w wd T T') y E O λk i j=>by unfold gA YK qR;split<;>dsimp only<;>split<;>first|exact Q _ _ _|exact U _ _ _|exact(F9 _,y.pos)
  obtain⟨s,Z,e⟩:=zd7 y.pos Y H.d;rw[xY,xY,xY,<-UB];exact((XQ y I.d Z).trans (e ▸ gz y B.d z.d H.d)).map _
 .intro r
  obtain⟨cA,t,f,l⟩:=VJ y z.q B.q;obtain⟨a,x,h,o⟩:=VJ y z.q z.q;obtain⟨cB,u,g,n⟩:=VJ y z.q I.q;refine Eo y l o n ?_;have:(cB:Int)=cA+a:=by rw[f,g,h,<-Xv];congr 1;refine Ug λb _=>?_;rw[Xu (r.map _),UB,dP]
  lia
end
def pP:=(zV (Wu (.tp [9,10])<|zC xJ<|zb (zf 3)<|zb (zf 8) zD)<|zV (jF 11<|jX<|jm kJ<|zb (zf 0)<|zb (zM j6 (zf 1)<|zM yE (sI 9)<|zf 8)<|zb (zf 2)<|zb (cI (zH<|cI (zm 4)<|sI 0)<|zf 10)<|zb (cI (zH<|cI (zm 5)<|sI 0)<|zf 9)<|zb (zf 6) zD)<|qH 7<|qv<|zb (cI (zH<|cI (zm 4)<|sI 0)<|zf 10)<|zb (cI (zH<|cI (zm 5)<|sI 0)<|zf 9)<|zb (jx<|qU<|zW (z9<|zm 11) (.nm 0) 1 [] jB (jx<|zm 0)) zD)
def kK:=jA 12<|zV (kN 7<|kO zD)<|zV (wU (jg<|wZ<|zf 3) (.nm 8) pP)<|Jk 7
theorem FS{z:List Int}(hn:z.length<=63){p l8:Int}(U:0<p)(H:p<10){m:Nat}(hm:m<=4)(w:DV){wd wd':DK}(hw:∀k,wd k<=9)(P:∀k,wd' k<=9)(T T':DQ):
 ∃J,(∀k i j,0<=J k i j/\J k i j<p)/\kK [JB z,.int 120,.int p,.str<|yP m w,ZV m w wd T,ZV m w wd' T',.int l8]=cz (.own<|jH m w wd wd' J):=by
 have G:=je;let f:Nat->Nat->Nat->Int:=λk=>yU z (120+9*k) p l8<|dq w wd' k;refine(f,λk i j=>K9 U,?_);let a:Cell->Cell->Cell->Cell->Cell->Ctx:=λh I O Q y=>[.val (JB z),vI 120,vI p,.val<|.str<|yP m w,.val<|ZV m w wd T,.val<|ZV m w wd' T',vI l8,h,I,O,Q,y];refine Tf λx=>?_;obtain⟨_,q,I,O,Q,y,rfl⟩:=jY (T:=.nm 8) (F:=pP) (f:=wZ<|zf 3) (λs d=>∃I O Q y,d=a (.own<|jH s w wd wd' f) I O Q y) m () (by simp[a,vG m w,(xD w<|show m<=1000 by lia)]) (_,_,_,_,rfl) (by
  rintro s b _ ⟨I,O,Q,y,rfl⟩;let S:=Cell.val<|.int s;let B:=Cell.val<|.int<|(zS w s:Nat);let E:=Cell.val<|.int<|(zX w s:Nat);let R:=Cell.val<|.lst<|kh (dH w wd s) (dq w wd' s)<|f s;have o:dH w wd s<=10:=by rw[<-jt];have:=hw<|zX w s;lia
  have K:=v9 (w:=w) b;have A:=wc (w:=w) b;have dl:∀u:DK,(zO (m+1) λk=>(u k)).length=m+1:=λu=>wa _ _;have l:YJ 9 s=cC:=wK _ _ () ();have n:(zO (m+1) λk=>(wd' k))[zS w s]? = cz (.int<|dq w wd' s):=by rw[<-jw];simp_all
  have Y:(cI (zH<|cI (zm 4)<|sI 0)<|zf 10) (a (.own<|jH s w wd wd' f) S B E y)=cz (.int<|dH w wd s):=by
   show((hO _ _).bind λk=>(zO (m+1) λk=>(wd k))[k]?)=_;exact(by
   rw[<-jt];simp_all)
  have Z:(cI (zH<|cI (zm 5)<|sI 0)<|zf 9) (a (.own<|jH s w wd wd' f) S B E y)=cz (.int<|dq w wd' s):=by show((hO _<|(zS w s:Nat)).bind λk=>(zO (m+1) λk=>(wd' k))[k]?)=_;rw[dl,qL,DZ A];exact n
  refine(_,a (.own<|jH (s+1) w wd wd' f) S B E R,rfl,zy (γ':=a (.own<|jH s w wd wd' f) S B E y) (by simp[a,S,B,E,(yL (w:=w) () b)])<|zy (γ':=a (.own<|jH s w wd wd' f) S B E R) ?_ ?_,_,_,_,_,rfl)
  .simp only[ZO,ZP,Xk,jQ,jQ,jQ,jQ,jQ,Y,Z]
   simp[a,S,R,l,(mT hn (t:=120+9*s) (l8:=l8) () () U H o (show dq w wd' s<=10 by rw[<-jw];have:=P<|zS w s;lia))];rfl
  .have g:s<lim:=()
   have C:3<=lim:=()
   have e:dH w wd s<=lim:=()
   simp only[show jH (s+1) w wd wd' f=jH s w wd wd' f++[jZ (dH w wd s) (dq w wd' s) (f s)]from qT _ _,vA,aP,jQ,jQ,show(cI (zH<|cI (zm 4)<|sI 0)<|zf 10) (a (.own<|jH s w wd wd' f) S B E R)=_ from Y,show(cI (zH<|cI (zm 5)<|sI 0)<|zf 9) (a (.own<|jH s w wd wd' f) S B E R)=_ from Z];have r:(jH s w wd wd' f).length=s:=by simp[jH]
   simp[a,R,jI,e,VD,jq,By _ _ e (f s) [],C,r,g,qZ];rfl)
 exact x<|zU<|zy rfl<|zy q rfl
def PH:=(qH 5<|jX<|jm kJ<|zb (zf 0)<|zb (zM j6 (sI 160)<|zM yE (sI 9)<|zf 6)<|zb (zf 1)<|zb (cI (zH<|cI (zm 3)<|sI 0)<|zf 6)<|zb (cI (zH<|cI (zm 4)<|sI 0)<|zf 6)<|zb (sI 0) zD)
def m_:=(zV (Wu (.tp [8,9])<|zC xJ<|zb (zf 2)<|zb (zf 6) zD)<|zV (jF 10<|cI (zH<|cI (zm 4)<|sI 0)<|zf 8)<|zV (jF 11<|jX<|jm jK<|zb (zf 1)<|zb (cI (zH<|cI (zm 3)<|sI 1)<|zf 6)<|zb (cI (zm 5)<|zf 8)<|zb (zf 10) zD)<|zV (jF 12<|jX<|jm jK<|zb (zf 1)<|zb (cI (zm 5)<|zf 9)<|zb (cI (zH<|cI (zm 4)<|sI 1)<|zf 6)<|zb (zf 10) zD)<|zV (jF 13<|jX<|zW (KL (zf 11)<|zf 12) (.tp [0,1]) 2 [1] jB (jx<|qU<|zW (KL (zf 0)<|zf 1) (.tp [0,1]) 2 [2] jB (zM wb (zM JC (zf 0)<|zf 1)<|zf 2)))<|qH 7<|qv<|zb (cI (zH<|cI (zm 3)<|sI 0)<|zf 9)<|zb (zf 10)<|zb (jx<|zm 13) zD)
def kf:=jA 14<|zV (kN 5<|kO zD)<|zV (wU (jg<|zM j6 (wZ<|zf 2)<|sI 1) (.nm 6) PH)<|zV (kN 7<|kO zD)<|zV (wU (jg<|wZ<|zf 2) (.nm 6) m_)<|Jk 7
def B3:=(mr (sB<|zM m8 (nN (zf 13)<|qv<|zb (zf 15)<|zb (zf 16) zD)<|zM j6 (xA (zm 5)<|qv<|zb (zf 15)<|zb (zf 16) zD)<|xA (zm 6)<|qv<|zb (zf 15)<|zb (zf 16) zD) (jF 14<|vE<|.bl cL) ye)
def HQ:=(jF 1<|zC qe<|zb (zf 0)<|zb (sI 0) zD)
def HP:=(jF 2<|cI (qU<|kO<|zb (sI 2)<|zb (sI 3)<|zb (sI 5)<|zb (sI 7) zD)<|zM wb (zf 1)<|sI 4)
def HN:=(jF 3<|zM j6 (sI 1)<|zM wb (zM K0 (zf 1)<|sI 4)<|sI 4)
def HM:=(jF 4<|zC xu<|zb (zM K0 (zf 1)<|sI 16)<|zb (zf 3) zD)
def HL:=(jF 5<|jX<|jm qC<|zb (zf 0)<|zb (sI 1)<|zb (zM wb (zM K0 (zf 1)<|sI 512)<|sI 4)<|zb (zf 3) zD)
def HK:=(jF 6<|jX<|jm qC<|zb (zf 0)<|zb (sI 5)<|zb (zM wb (zM K0 (zf 1)<|sI 2048)<|sI 4)<|zb (zf 3) zD)
def HJ:=(jF 7<|zC xh<|zb (zf 0)<|zb (sI 10)<|zb (zf 2)<|zb (zf 4)<|zb (zf 5) zD)
def HI:=(jF 8<|zC xh<|zb (zf 0)<|zb (sI 60)<|zb (zf 2)<|zb (zf 4)<|zb (zf 6) zD)
def HH:=(jF 9<|jX<|jm kK<|zb (zf 0)<|zb (sI 120)<|zb (zf 2)<|zb (zf 4)<|zb (zf 7)<|zb (zf 8)<|zb (zM wb (zM K0 (zf 1)<|sI 8192)<|sI 3) zD)
def mG:=(mr (sB<|zM gB (zM wb (zM K0 (zf 1)<|sI 30000)<|sI 4)<|sI 1) (jF 9<|jX<|jm kf<|zb (zf 0)<|zb (zf 2)<|zb (zf 4)<|zb (zf 7)<|zb (zf 8) zD) ye)
def Bw:=(jF 10<|zC qD<|zb (zf 2)<|zb (zf 4)<|zb (zf 7) zD)
def Bv:=(jF 11<|zC qD<|zb (zf 2)<|zb (zf 4)<|zb (zf 8) zD)
def Bu:=(jF 12<|zC wm<|zb (zf 10)<|zb (zf 11)<|zb (jX<|Vb<|zm 9) zD)
def Bt:=(jF 13<|zC vD<|zb (zf 12) zD)
def Bs:=(jF 14<|vE<|.bl cC)
def Br:=wU (jg<|zf 3) (.nm 15)<|wU (wY (zf 15)<|zf 3) (.nm 16) B3
def Bq:=(jF 17<|cI (zH<|zC wu<|zb (zf 10)<|zb (zf 11)<|zb (jX<|Vb<|zm 9) zD)<|sI 0)
def Bp:=(mr (Oz (sB (zM m8 (zM gB (zf 17) (vE (.str "parted"))) (zf 14))) (uh (sB (zM gB (zC xM (zb (zf 11) (zb (zf 10) zD))) (sI 0))) (XG (sB (zf 14))))) (qQ (vE (.bl cL))) ye)
def Bo:=(qQ (zM gB (zM gB (cI (zH (zC Jd (zb (zf 12) (zb (zC Xp (zb (zf 10) (zb (zf 11) zD))) zD)))) (sI 0)) (vE (.str "alike"))) (zf 14)))
def JP:=jA 18<|zV HQ<|zV HP<|zV HN<|zV HM<|zV HL<|zV HK<|zV HJ<|zV HI<|zV HH<|zV mG<|zV Bw<|zV Bv<|zV Bu<|zV Bt<|zV Bs<|zV Br<|zV Bq<|zV Bp Bo
def p6(wd wd':DK)(S:DQ)(s:Nat):List D:=(Tn s).map λk=>D.lst<|kh (wd k) (wd' k)<|S k
theorem LU{z:List Int}(hn:z.length<=63){p:Int}(P:Pr p){m:Nat}(hm:m<=4){w:DV}{wd wd':DK}(E:∀k,wd k<=9)(B:∀k,wd' k<=9){T T':DQ}(bT:∀k i j,0<=T k i j/\T k i j<p):
 ∃J,(∀k i j,0<=J k i j/\J k i j<p)/\kf [JB z,.int p,.str<|yP m w,ZV m w wd T,ZV m w wd' T']=cz (.own<|jH m w wd wd' J):=by
 have hl:=je;have O:=P.pos;have M:=P.le;have W:=vG m w;have H:=xD w (():m<=1000);have N:=eT m w wd T;have R:=eT m w wd' T';let S:Nat->Nat->Nat->Int:=λk=>yU z (160+9*k) p 0<|wd' k;have bS k i j:0<=S k i j/\S k i j<p:=K9 O;let X:=λk i j=>zg (λt=>T k i t*S (zS w k) t j) (dq w wd k)%p;let Y:=λk i j=>zg (λt=>S (zX w k) i t*T' k t j) (dH w wd' k)%p;let J:=λk i j=>(X k i j-Y k i j)%p;refine(J,λk i j=>(Uq _ (),Ub _ O),?_);let γ:Cell->Cell->Cell->Cell->Cell->Cell->Cell->Cell->Cell->Ctx:=λc5 y c7 r u Q U Z o=>[.val (JB z),vI p,.val<|.str<|yP m w,.val<|ZV m w wd T,.val<|ZV m w wd' T',c5,y,c7,r,u,Q,U,Z,o];have L:hO 2 0=cz 0:=rfl;have j1:hO 2 1=cz 1:=rfl;refine Tf λkZ=>?_;obtain⟨_,q1,y,rfl⟩:=jY (T:=.nm 6) (F:=PH) (f:=zM j6 (wZ<|zf 2)<|sI 1) (λs γ1=>∃y,γ1=γ (.own<|p6 wd wd' S s) y .no .no .no .no .no .no .no) (m+1) () (by simp[γ,W,H]) (_,rfl) (by
  rintro k I _ ⟨y,rfl⟩;have cm:YJ 9 (k:Int)=cC:=wK _ _ () ();have G:(p6 wd wd' S k).length=k:=by simp[p6]
  have x:k<lim:=()
  refine(_,γ (.own<|p6 wd wd' S<|k+1) (vI k) .no .no .no .no .no .no .no,rfl,?_,_,rfl);rw[show p6 wd wd' S (k+1)=p6 wd wd' S k++[.lst (kh (wd k) (wd' k)<|S k)]from qT _ _];simp only[PH,γ,vA,ZP,Xk,jQ,vz,JL,vg,kG,xf,vc,Zp,Uj,Uo,Up,UX,pz,Di,jz,jN,qZ,Tx,Uy,N,R,xc,L,j8,yo,qL,I,if_true,JA I λk=>(wd k:Int),JA I λk=>(wd' k:Int),gb,cm,gd,mT hn (t:=160+9*(k:Int)) (l8:=0) () () O () (show wd k<=10 by have:=E k;lia) (show wd' k<=10 by have:=B k;lia),um,G,x,vr,vp];rfl)
 obtain⟨_,q2,y,r,u,Q,U,Z,o,rfl⟩:=jY (T:=.nm 6) (F:=m_) (f:=wZ<|zf 2) (γ:=γ (.own<|p6 wd wd' S<|m+1) y (.own []) .no .no .no .no .no .no) (λs γ1=>∃y r u Q U Z o,γ1=γ (.own<|p6 wd wd' S<|m+1) y (.own<|jH s w wd wd' J) r u Q U Z o) m () (by simp[γ,W,H]) (_,_,_,_,_,_,_,rfl) (by
  rintro k I _ ⟨y,r,u,Q,U,Z,o,rfl⟩;have K:=yL (w:=w) (():m<=5) I;have A:=v9 (w:=w) I;have C:=wc (w:=w) I;have b1:dH w wd k<=9:=by rw[<-jt];exact E _
  have b2:dH w wd' k<=9:=by rw[<-jt];exact B _
  have b3:dq w wd k<=9:=by rw[<-jw];exact E _
  have b4:dq w wd' k<=9:=by rw[<-jw];exact B _
  have ax:(zO (m+1) λk=>(wd k:Int))[zX w k]? = cz (.int (dH w wd k:Nat)):=by rw[<-jt];exact JA A _
  have b0:(zO (m+1) λk=>(wd' k:Int))[zS w k]? = cz (.int (dq w wd' k:Nat)):=by rw[<-jw];exact JA C _
  have G:(p6 wd wd' S<|m+1).length=m+1:=by simp[p6]
  have te:(p6 wd wd' S<|m+1)[zX w k]? = cz (.lst<|kh (dH w wd k) (dH w wd' k)<|S<|zX w k):=by rw[<-jt,<-jt];simp[p6,A]
  have tb:(p6 wd wd' S<|m+1)[zS w k]? = cz (.lst<|kh (dq w wd k) (dq w wd' k)<|S<|zS w k):=by rw[<-jw,<-jw];simp[p6,C]
  have b5:=YY m w wd' T';have x1:jK [.int p,.lst<|kh (dH w wd k) (dq w wd k)<|T k,.lst<|kh (dq w wd k) (dq w wd' k)<|S<|zS w k,.int (dq w wd' k:Nat)]=cz (.own<|kh (dH w wd k) (dq w wd' k)<|X k):=YX O M () () () λi j _ _=>bT k i j;have x2:jK [.int p,.lst<|kh (dH w wd k) (dH w wd' k)<|S<|zX w k,.lst<|kh (dH w wd' k) (dq w wd' k)<|T' k,.int (dq w wd' k:Nat)]=cz (.own<|kh (dH w wd k) (dq w wd' k)<|Y k):=YX O M () () () λi j _ _=>bS _ i j;have b7:dH w wd k<=lim:=()
  have b8:dq w wd' k<=lim:=()
  have x:k<lim:=()
  have l3:3<=lim:=()
  have jl:=Kd k w wd wd' J;have kk:zQ (.tp [0,1]) jB (jx<|qU<|zW (KL (zf 0)<|zf 1) (.tp [0,1]) 2 [2] jB (zM wb (zM JC (zf 0)<|zf 1)<|zf 2)) [Cell.no,Cell.no,vI p] ((Tn<|dH w wd k).map λi=>D.tup [.lst (zO (dq w wd' k)<|X k i),.lst (zO (dq w wd' k)<|Y k i)])=cz (z7 (dH w wd k) (dq w wd' k)<|J k):=by
   unfold z7;refine zu _ _ λi hi=>zv (γ1:=[.val (.lst<|zO (dq w wd' k)<|X k i),.val<|.lst<|zO (dq w wd' k)<|Y k i,vI p]) rfl rfl ?_;have zi:wC (zO (dq w wd' k)<|X k i) (zO (dq w wd' k)<|Y k i)=(Tn<|dq w wd' k).map λj=>D.tup [.int (X k i j),.int (Y k i j)]:=vF _ _ _;have ki:zQ (.tp [0,1]) jB (zM wb (zM JC (zf 0)<|zf 1)<|zf 2) [Cell.no,Cell.no,vI p] ((Tn<|dq w wd' k).map λj=>D.tup [.int (X k i j),.int (Y k i j)])=cz (zO (dq w wd' k)<|J k i):=by rw[j9];exact zu _ _ λj hj=>zv (γ1:=[vI (X k i j),vI<|Y k i j,vI p]) rfl rfl (by simp[O,J])
   simp[zi,b8,jq,ki]
  refine(_,γ (.own<|p6 wd wd' S<|m+1) (vI k) (.own<|jH (k+1) w wd wd' J) (vI (zS w k:Nat)) (.val<|.int (zX w k:Nat)) (vI (dq w wd' k:Nat)) (.val<|.lst<|kh (dH w wd k) (dq w wd' k)<|X k) (.val<|.lst<|kh (dH w wd k) (dq w wd' k)<|Y k)<|.val<|.lst<|z7 (dH w wd k) (dq w wd' k)<|J k,rfl,?_,_,_,_,_,_,_,_,rfl);rw[show jH (k+1) w wd wd' J=jH k w wd wd' J++[jZ (dH w wd k) (dq w wd' k) (J k)]from qT _ _];have pc:∀a b c d e f g h i j k l n:Cell,jq 2 [1] [a,vI p,b,c,d,e,f,g,h,i,j,k,l,n]=[.no,.no,vI p]:=λ_ _ _ _ _ _ _ _ _ _ _ _ _=>rfl;refine zy (γ':=γ (.own<|p6 wd wd' S<|m+1) (vI k) (.own<|jH k w wd wd' J) (vI (zS w k:Nat)) (.val<|.int (zX w k:Nat)) Q U Z o) (by simp[γ,K]) ?_;simp only[γ,jf,vh,ZO,ZP,Xk,jQ,vz,JL,vg,kG,xf,vc,Zp,qS,CJ,vA,aP,YN,Uj,Uo,Up,UX,pz,Di,jz,Kr,jN,qZ,Tx,Uy,N,R,xc,L,j1,j8,qc,yo,qL,I,A,C,if_true,ax,b0,YY m w wd T,b5,bw I w wd T,bw I w wd' T',G,te,tb,x1,x2,um,K,zeM,b7,pc,kk,jl,x,l3,vr,vp,Ua,UM];rfl)
 refine kZ ?_;rw[kf];exact zU<|zy rfl<|zy q1<|zy rfl<|zy q2 rfl
section
theorem RL(i j:Nat):(qW A N).count ((i:Int),(j:Int))=o9 (JT A N) (i,j):=by rw[xY];unfold List.count o9;rw[E6];exact u7 λx _=>by grind
theorem Ip(s0:∀b∈qW A N,ya ((m+1:Nat)) b)(B:∀b∈bs1,ya ((m+1:Nat)) b)(E:∀b∈bs2,ya ((m+1:Nat)) b):
 (∀i j,i<m+1->i<=j->j<m+1->(o9 (JT A N) (i,j))=(bs1.count ((i:Int),(j:Int)))+(bs2.count ((i:Int),(j:Int)):Int))↔(qW A N).Perm (bs1++bs2):=by
 constructor
 .intro h
  refine D4.mpr λb=>?_;by_cases I:ya ((m+1:Nat)) b
  .obtain⟨x,y⟩:=b
   obtain⟨O,Q,U⟩:=I;have:=h x.toNat y.toNat () () ();rw[show((x.toNat:Nat))=x by lia,show((y.toNat:Nat))=y by lia]at this;have e:=RL (A:=A) (N:=N) x.toNat y.toNat;rw[show((x.toNat:Nat))=x by lia,show((y.toNat:Nat))=y by lia]at e;rw[e,List.count_append];lia
  .rw[UI λz=>I<|s0 b z,UI λz=>I ((uB.mp z).elim (B b) (E b))]
 .intro a i j _ _ _
  have:=a.count_eq (i,j);rw[RL,List.count_append]at this;lia
theorem Bh(I:m<=4)(j:∀k,wd k<=9)(y:∀k,wd' k<=9)(le:zg (λk=>((wd k+wd' k:Nat))) (m+1)<=30):Xp [jE p m w wd T,jE p m w wd' T']=cz (.val<|jE p m w (λk=>wd k+wd' k)<|gA w wd T T'):=by refine zU<|zy (γ':=[.val (jE p m w wd T),.val (jE p m w wd' T')]) (by simp[jd,(vy<|show m<=900 by lia).2]) ?_;simp only[Kz,vh,FF (p:=p) (w:=w) (T:=T) (T':=T') (():m<=900) (λk=>TJ (j k) ())<|λk=>TJ (y k) (),Tx,show _=_ from rfl,pK I j y le];rfl
theorem Em(I:Pr p)(Y:m<=4)(z:∀k,wd k<=9)(Q:∀k,wd' k<=9)(Z:∀k i j,0<=T' k i j/\T' k i j<p)(B:off wd wd' (m+1)<=189)(E:off (dH w wd) (dq w wd') m<=189)(H:jJ [jE p m w wd T,jE p m w wd' T']=cz (.val d)):
 (∃S,sD p m w wd wd' T T' J S)\/∃x,wu [jE p m w wd T,jE p m w wd' T',.lst (jH m w wd wd' J)]=cz (.val (.tup [.str "stuck",x])):=by
 have L:=je;have r:=I.pos;rcases zfd I (():off (dH w wd) (dq w wd') m<=190) (():off wd wd' (m+1)<=190) _ (λe=>(-(p9 (dH w wd) (dq w wd') J m e))%p) (λe _=>(Uq _ (),Ub _ r))with⟨x,g⟩|⟨s,y,C,F⟩
 .exact .inl (KH wd wd' x,λk i j O a U=>by rw[<-ZA x O a U,g _<|aM O a U,wD a U m O])
 obtain⟨x,A,_⟩:=gM I E B _ _ y C F;have t:=wV (n:=m) (hs:=dH w wd) (ws:=dq w wd') () (XP z) (P5 Q) x rfl;have b:qm [jE p m w wd' T',jE p m w wd T]=cz (.own<|rn m (dH w wd)<|dq w wd'):=Y9 Y;have u:=bq m (dH w wd) (dq w wd')<|KH (dH w wd) (dq w wd') x;have h:zQ (.nm 0) jB (zC jO<|zb (zf 0) zD) [Cell.no] (nf m (dH w wd) (dq w wd')<|KH (dH w wd) (dq w wd') x)=cz (nf m (dq w wd') (dH w wd) λk i j=>KH (dH w wd) (dq w wd') x k j i):=by refine zu _ _ λk O=>zv rfl rfl ?_;have G:=XP (w:=w) z k;have K:=P5 (w:=w) Q k;simp[(kX _ (():dH w wd k<=lim)<|show dq w wd' k<=lim by lia),mi]
 refine .inr (.lst<|nf m (dq w wd') (dH w wd) λk i j=>KH (dH w wd) (dq w wd') x k j i,YE I Y z Q Z () () H ?_);have l:2<=lim:=()
 have f:m<=lim:=()
 have o:Kp .d7 .d7=cz (.bl cL):=rfl;simp[DF,jf,s,o,mi,b,A,t,um,j8,u,f,jq,h,l]
end
theorem CG(I:nN (zf 13) (qv<|zb (zf 15)<|zb (zf 16) zD) γ=cz (.int x))(O:xA (zm 5) (qv<|zb (zf 15)<|zb (zf 16) zD) γ=cz (.int y))(Q:xA (zm 6) (qv<|zb (zf 15)<|zb (zf 16) zD) γ=cz (.int z)):B3 γ=if x=y+z then cz (.next γ)else jF 14 (vE<|.bl cL) γ:=by unfold B3;simp only[Nc,Rq,JL,JL,I,O,Q];by_cases e:x=y+z<;>simp[e]
theorem LW{m:Nat}(hm:m<=5)(g:Nat×Nat->Int)(bs1 bs2:List (Int×Int))(γ:Cell->Cell->Cell->Ctx)
 {B E H P R S a9 am an ap as:Cell} (O:γ=λax Q y=>[B,E,H,vI<|1+m,P,.val<|.lst<|zY bs1,.val<|.lst<|zY bs2,R,S,a9,am,an,ap,.val<|lS g<|m+1,ax,Q,y,as]):
 ∃b Q y,wU (jg<|zf 3) (.nm 15) (wU (wY (zf 15)<|zf 3) (.nm 16) B3) (γ (.val<|.bl cC) .no .no)=cz (.next<|γ (.val<|.bl b) Q y)/\(b=cC ↔ ∀i j,i<m+1->i<=j->j<m+1->g (i,j)=(bs1.count ((i:Int),(j:Int)))+(bs2.count ((i:Int),(j:Int)))):=by
 have C:=je;obtain⟨_,q,b,Q,y,rfl,U⟩:=jY (T:=.nm 15) (F:=wU (wY (zf 15)<|zf 3) (.nm 16) B3) (f:=zf 3) (λs d=>∃b Q y,d=γ (.val<|.bl b) Q y/\(b=cC ↔ ∀i j,i<s->i<=j->j<m+1->g (i,j)=(bs1.count ((i:Int),(j:Int)))+(bs2.count ((i:Int),(j:Int))))) (m+1) () (by subst O;simp;lia) (cC,_,_,rfl,by simp) (by
  rintro i A _ ⟨b,Q,y,rfl,U⟩;obtain⟨_,q,b,y,rfl,U⟩:=VP (T:=.nm 16) (F:=B3) (g:=λk=>D.int<|(i:Int)+(k:Int)) (γ:=γ _ _ y) (λt d=>∃b y,d=γ (.val<|.bl b) (vI i) y/\(b=cC↔(∀I j,I<i->I<=j->j<m+1->g (I,j)=(bs1.count ((I:Int),(j:Int)))+(bs2.count ((I:Int),(j:Int))))/\∀k,k<t->g (i,i+k)=(bs1.count ((i:Int),((i+k:Nat):Int)))+(bs2.count ((i:Int),((i+k:Nat):Int))))) (m+1-i) (b,_,rfl,by simp[U]) (by
   rintro t r _ ⟨b,y,rfl,U⟩;have u:2<=lim:=()
   have l:=ZC (γ:=γ (.val<|.bl b) (vI i)<|.val<|.int ((i+t:Nat):Int)) (g:=zm 5) (f:=qv<|zb (zf 15)<|zb (zf 16) zD) (bs:=bs1) (b:=((i:Int),((i+t:Nat):Int))) (by subst O;rfl) (by subst O;simp[u]);have n:=ZC (γ:=γ (.val<|.bl b) (vI i)<|.val<|.int ((i+t:Nat):Int)) (g:=zm 6) (f:=qv<|zb (zf 15)<|zb (zf 16) zD) (bs:=bs2) (b:=((i:Int),((i+t:Nat):Int))) (by subst O;rfl) (by simp_all);have o:nN (zf 13) (qv<|zb (zf 15)<|zb (zf 16) zD) (γ (.val<|.bl b) (vI i)<|.val<|.int ((i+t:Nat):Int))=cz (.int<|g (i,i+t)):=by subst O;exact(rq g (M:=m+1) (s:=(i,i+t))<|r9.mpr (TL ..,_g r))
   by_cases e:g (i,i+t)=(bs1.count ((i:Int),((i+t:Nat):Int)):Int)+(bs2.count ((i:Int),((i+t:Nat):Int)):Int)
   .refine(γ (.val<|.bl b) (vI i)<|.val<|.int ((i+t:Nat):Int),γ (.val<|.bl b) (vI i)<|.val<|.int ((i+t:Nat):Int),by subst O;rfl,?_,b,_,rfl,?_)
    .rw[CG o l n,DZ e]
    .rw[U]
     exact(λ(Y,Z)=>(Y,λk p=>if z:k=t then z ▸ e else Z k ()),λ(Y,Z)=>(Y,λk p=>Z k ()))
   .refine(γ (.val<|.bl b) (vI i)<|.val<|.int ((i+t:Nat):Int),γ (.val<|.bl cL) (vI i)<|.val<|.int ((i+t:Nat):Int),by subst O;rfl,?_,cL,_,rfl,(λh=>(by cases h),λ(_,h)=>absurd (h t ()) e))
    .rw[CG o l n,DJ e]
     subst O;rfl)
  refine(γ (.val<|.bl _) (vI i) _,γ (.val<|.bl b) (vI i) y,by subst O;rfl,?_,b,_,_,rfl,?_)
  .rw[aS,show wY (zf 15) (zf 3) _=cz ((Tn<|m+1-i).map λ(k:Nat)=>D.int<|(i:Int)+(k:Int))from ?_,Tx]
   .exact q
   .have w:inR (i:Int)=cC:=QF ()
    have x:inR (1+(m:Int))=cC:=Kh () ();subst O;simp[w,x,Jl];rw[show(1+(m:Int)).toNat=m+1 by lia]
  .rw[U]
   exact(λ(Y,Z) I j a b c=>if z:I=i then by subst z;obtain⟨k,rfl⟩:∃k,j=I+k:=(j-I,());exact Z k ()else Y I j () b c,λh=>(λI j a b c=>h I j () b c,λk p=>h i (i+k) () () ())))
 exact(b,Q,y,q,U)
end DL
namespace DL
open PySem L2 PySem.W PyProof.Rows
noncomputable def Ah(l:List (Nat×Nat×Bool))(a b:Nat):Bool:=l.contains (b,a,cL) || l.contains (a,b,cC)
def Ai(l:List (Nat×Nat×Bool)):Nat->Nat->Nat->Bool
 |0,a,b=>Ah l a b
 |f+1,a,b=>Ai l f a b || (Tn 6).any λc=>Ah l a c&&Ai l f c b
def gr(l:List (Nat×Nat×Bool)):List Nat->Bool
 |a::b::r=>Ai l 4 a b&&gr l (b::r)
 |_=>cC
def pB:KasT (Array Nat)->List (Nat×Nat×Bool)->Bool
 |.ret p,l=>gr l p.toList
 |.ask i j k,l=>pB (k cC) ((i,j,cC)::l)&&pB (k cL) ((i,j,cL)::l)
theorem SQ:∀n,n<7->pB (kas_sort n) []=cC:=by
 have:((Tn 7).all λn=>pB (kas_sort n) [])=cC:=by kernel_rfl
 simpa using this
theorem eZ{key:Nat->Int×Int}{l}(h:∀i j b,(i,j,b)∈l->aZ (key i) (key j)=b){a b}(e:Ah l a b=cC):qx (key a) (key b):=by simp[Ah]at e;exact e.elim (h _ _ _) λx=>pC<|h _ _ _ x
theorem VA{key:Nat->Int×Int}{l}(h:∀i j b,(i,j,b)∈l->aZ (key i) (key j)=b):∀f a b,Ai l f a b=cC->qx (key a) (key b)
 |0,a,b,e=>eZ h e
 | f+1,a,b,e=>by
  rcases Bool.or_eq_true_iff.1 e with e|e
  .exact VA h f a b e
  .obtain⟨c,-,e⟩:=R3.1 e
   have e:=_j.1 e;exact WZ (eZ h e.1)<|VA h f c b e.2
theorem az{key:Nat->Int×Int}{l}(h:∀i j b,(i,j,b)∈l->aZ (key i) (key j)=b):∀p,gr l p=cC->(p.map key).Pairwise qx
 |[],_=>.nil
 |[a],_=>by simp
 |a::b::r,e=>by
  simp[gr]at e;have O:=az h (b::r) e.2;have Q:=VA h _ _ _ e.1;refine List.pairwise_cons.2 (λy I=>?_,O);rcases Tz.1 I with rfl|I
  .exact Q
  .exact WZ Q<|M' O I
theorem fD{key:Nat->Int×Int}:∀t l,(∀i j b,(i,j,b)∈l->aZ (key i) (key j)=b)->pB t l=cC->((IA (λi j=>aZ (key i)<|key j) t).toList.map key).Pairwise qx
 |.ret p,l,h,e=>az h _ e
 |.ask i j k,l,h,e=>by
  have e:=_j.1 e;refine fD (k<|aZ (key i)<|key j) ((i,j,aZ (key i)<|key j)::l) (λa b c q=>?_) (by cases aZ (key i) (key j)<;>simp_all);rcases Tz.1 q with q|q
  .cases q;rfl
  .exact h _ _ _ q
theorem mZ{a:List (Int×Int)}(h:∃x,a=Y7 x)(n:a.length<=6):a.Pairwise qx:=by
 obtain⟨x,rfl⟩:=h;rw[(JX x).length_eq]at n;unfold Y7 xB;split
 .rw[jv]
  rcases x with _|⟨a,_|⟨b,r⟩⟩
  .exact .nil
  .simp
  .contradiction
 .exact fD (key:=λi=>x.getD i (0,0)) _ [] () (SQ _ ())
end DL
namespace DL
open PySem L2
theorem bU(y:∀k,hs k<=a)(I:∀k,ws k<=b):∀n,off hs ws n<=n*(a*b)
 |0=>UU _
 |n+1=>by have:=bU y I n;have:=Nat.mul_le_mul (y n)<|I n;show _+_<=_;lia
section
theorem Hg(O:Pr p)(Q:m<=5)(E:∀k,wd k<=8)(z:A8 p m w wd T N1 A1 F1 G1)(B:A8 p m w wd T' N2 A2 F2 G2)(U:(qW A2 N2).length<=6):∃d H x ds,Jd [jE p m w wd T,jE p m w wd T']=cz (.val d)/\jI d=cz (H,.str x::ds)/\(x = "alike"/\(qW A1 N1).Perm (qW A2 N2)\/x = "apart"/\¬(qW A1 N1).Perm (qW A2 N2)):=by
 have Z:=je;by_cases a:(qW A1 N1).Perm (qW A2 N2)
 .have e:=XD a (mZ z.s<|a.length_eq ▸ U) (mZ B.s U)
  exact(_,_,_,_,Hi O.pos O.le () (λk=>by have:=E k;lia) (λk i j y b I=>(z.q.pp.pr k y).bg i j b I) (λk i j y b I=>(B.q.pp.pr k y).bg i j b I) z.q.pp.eb<|e ▸ B.q.pp.eb,rfl,.inl (rfl,a))
 .obtain⟨⟨s,f⟩,t,Y⟩:=Gr z.q.st B.q.st a
  exact(_,_,_,_,Hh Q z.q.pp.eb B.q.pp.eb (λh=>a<|h ▸ .refl _)<|GZ Q z.q.st B.q.st (by have:=z.q.le;lia) (by have:=B.q.le;lia) f Y,rfl,.inr (rfl,a))
theorem AM(O:Pr p)(I:m<=4)(z:∀k,wd k<=3)(y:∀k,wd' k<=3)(Q:∀k i j,0<=T' k i j/\T' k i j<p):∃d B x ds,wu [jE p m w wd T,jE p m w wd' T',.lst (jH m w wd wd' J)]=cz (.val d)/\jI d=cz (B,.str x::ds)/\(x = "parted"/\(∃S,sD p m w wd wd' T T' J S)\/x = "stuck"/\¬∃S,sD p m w wd wd' T T' J S):=by
 have U k:wd k<=9:=TJ (z k) ();have Y k:wd' k<=9:=TJ (y k) ();have b:_<=189:=TJ (bU z y<|m+1) ();have f:off (dH w wd) (dq w wd') m<=189:=TJ (bU (λk=>by rw[<-jt];exact z _) (λk=>by rw[<-jw];exact y _) m) ();have a:=gV (p:=p) (w:=w) (T:=T) (T':=T') I z y;by_cases q:∃S,sD p m w wd wd' T T' J S
 .obtain⟨S,Z⟩:=q
  obtain⟨X,_,_,e⟩:=zei O I U Y Q () () a Z;exact(_,_,_,_,e,rfl,.inl (rfl,S,Z))
 .rcases Em O I U Y Q b f a (J:=J)with h|⟨x,e⟩
  .exact absurd h q
  .exact(_,_,_,_,e,rfl,.inr (rfl,q))
end
theorem OC{B:List Int}{c z:Int}{q m:Nat}{W E U:Str}{bs1 bs2:List (Int×Int)}{y I O R2 Y RS S d2:D}{L Z R y1 y2:List D}{H P:Sk}{n1 n2:Nat}{g:Nat×Nat->Int}{Q:Prop}(hm:m<=5)
 (e1:qe [JB B,.int 0]=cz (.val<|.int c)) (ep:([D.int 2,.int 3,.int 5,.int 7])[(c%4).toNat]? = cz (.int q)) (ad:hO 4 (c%4)=cz (c%4).toNat) (em:1+c/4%4=1+m) (ak:c/512%4=n1) (al:c/2048%4=n2)
 (ew:xu [.int (c/16),.int (1+m)]=cz (.val<|.str W)) (r1:qC [JB B,.int 1,.int n1,.int (1+m)]=cz (.own<|zY bs1)) (r2:qC [JB B,.int 5,.int n2,.int (1+m)]=cz (.own<|zY bs2))
 (ap:xh [JB B,.int 10,.int q,.str W,.lst (zY bs1)]=cz (.val y)) (as:xh [JB B,.int 60,.int q,.str W,.lst (zY bs2)]=cz (.val I))
 (j1:kK [JB B,.int 120,.int q,.str W,y,I,.int (c/8192%3)]=cz (.own Z)) (j2:kf [JB B,.int q,.str W,y,I]=cz (.own R)) (eL:L=if c/30000%4=1 then R else Z) (jl:L.length<=lim)
 (b2:qD [.int q,.str W,y]=cz (.val O)) (b3:qD [.int q,.str W,I]=cz (.val R2)) (ld:wm [O,R2,.lst L]=cz (.val Y)) (nm:vD [Y]=cz (.val<|lS g<|m+1))
 (mu:(∀i j,i<m+1->i<=j->j<m+1->g (i,j)=(bs1.count ((i:Int),(j:Int)))+(bs2.count ((i:Int),(j:Int))))↔Q)
 (fa:wu [O,R2,.lst L]=cz (.val S)) (fs:jI S=cz (H,.str E::y1)) (fx:E = "parted"/\Q\/E = "stuck"/\¬Q) (be:Xp [O,R2]=cz (.val RS)) (la:Jd [Y,RS]=cz (.val d2)) (ls:jI d2=cz (P,.str U::y2)) (lx:U = "alike"/\Q\/U = "apart"/\¬Q)
 (uz:xM [R2,O]=cz (.val<|.int z)) (zz:z=0->Q):JP [JB B]=cz (.val<|.bl cC):=by
 obtain⟨b,a,d,n,e⟩:=LW (m:=m) hm g bs1 bs2 (λh a d=>[.val (JB B),vI c,vI q,vI (1+(m:Int)),.val (.str W),.val (.lst (zY bs1)),.val (.lst (zY bs2)),.val y,.val I,.val (.lst L),.val O,.val R2,.val Y,.val (lS g (m+1)),h,a,d,.no]) rfl;have e:=e.trans mu;have o:gB (.str "parted") (.str "parted")=cz (.bl cC):=by kernel_rfl
 have p:gB (.str "stuck") (.str "parted")=cz (.bl cL):=by kernel_rfl
 have s:gB (.str "alike") (.str "alike")=cz (.bl cC):=by kernel_rfl
 have t:gB (.str "apart") (.str "alike")=cz (.bl cL):=by kernel_rfl
 have u x:m8 (.bl x) (.bl x)=cz (.bl cL):=fZ rfl;have w x:gB (.bl x) (.bl x)=cz (.bl cC):=gc rfl;have A:Br _=_:=n;rw[JP];refine zU (r:=.val (.bl cC)) ?_;have k:mG [.val (JB B),vI c,vI q,vI<|1+(m:Int),.val<|.str W,.val<|.lst<|zY bs1,.val<|.lst<|zY bs2,.val y,.val I,.val<|.lst Z,.no,.no,.no,.no,.no,.no,.no,.no]=cz (.next [.val (JB B),vI c,vI q,vI<|1+(m:Int),.val<|.str W,.val<|.lst<|zY bs1,.val<|.lst<|zY bs2,.val y,.val I,.val<|.lst L,.no,.no,.no,.no,.no,.no,.no,.no]):=by by_cases l:c/30000%4=1<;>simp[mG,eL,l,j2]
 simp[jf,jd,Tq,HQ,HP,HN,HM,HL,HK,HJ,HI,HH,k,Bw,Bv,Bu,Bt,Bs,Bq,Bp,Bo,e1,ad,ep,em,ew,ak,r1,al,r2,ap,as,j1,b2,b3,jl,ld,nm,A,fa,fs,uz];obtain⟨rfl,rfl,rfl,f⟩|⟨rfl,rfl,rfl,f⟩:E = "parted"/\U = "alike"/\b=cC/\True\/E = "stuck"/\U = "apart"/\b=cL/\z≠0:=by cases b<;>grind
 all_goals simp[o,p,s,t,u,w,f,be,la,ls]
theorem PB(x:Int):∃n:Nat,x%4=n/\n<=3:=((x%4).toNat,(),())
theorem OZ(P:List Int)(O:P.length<=63):JP [JB P]=cz (.val<|.bl cC):=by
 have hl:=je;refine Tf λL=>?_;obtain⟨e1,a1,b1⟩:=VZ O (k:=0) () ();generalize JF P 0=c at e1 a1 b1;obtain⟨q,y,ep,bb⟩:=Lg a1;have Q:=y.pos;have p7:=y.le;obtain⟨m,em,hm⟩:∃m:Nat,1+c/4%4=1+m/\m<=3:=(PB _).imp λm h=>(congrArg _ h.1,h.2);have I:m<=5:=TJ hm ();have U:m<=4:=TJ hm ();obtain⟨n1,be,ci⟩:=PB<|c/512;obtain⟨n2,bf,cj⟩:=PB<|c/2048;obtain⟨w,ew⟩:=HG (c:=c/16) () (m:=m) ();have bi:((m+1:Nat):Int)=1+(m:Int):=()
 obtain⟨bs1,r1,F,l1⟩:=Xz O (t:=1) () () (r:=m+1) (n:=n1) () () ();obtain⟨bs2,r2,G,l2⟩:=Xz O (t:=5) () () (r:=m+1) (n:=n2) () () ();refine L ?_;rw[bi]at r1 r2;refine Tf λL=>?_;obtain⟨f1,g1,b2,bm⟩:=ID (w:=w) O y I (():bs1.length<=16) F (a:=10) () ();obtain⟨f2,g2,b3,bn⟩:=ID (w:=w) O y I (():bs2.length<=16) G (a:=60) () ();have u k:bW bs1 k<=3:=by have:=MP bs1 k;lia
 have x k:bW bs2 k<=3:=by have:=MP bs2 k;lia
 have l:=dG Q w (bW bs1) f1 g1<|bT w bs1;have o:=dG Q w (bW bs2) f2 g2<|bT w bs2;have D1:i5 (q:Int) w (bW bs1) _ m bs1.length λj=>bp q (bW bs1) f1 (sO (bS bs1) (bE bs1) bs1.length j):=Xr Q (λr Y=>(b2 r<|RH Y).fg) (λr Y=>(b2 r<|RH Y).gf)<|fG (p:=(q:Int)) (w:=w) (m:=m) y λj K=>(si F K).2;have D2:i5 (q:Int) w (bW bs2) _ m bs2.length λj=>bp q (bW bs2) f2 (sO (bS bs2) (bE bs2) bs2.length j):=Xr Q (λr Y=>(b3 r<|RH Y).fg) (λr Y=>(b3 r<|RH Y).gf)<|fG (p:=(q:Int)) (w:=w) (m:=m) y λj K=>(si G K).2;generalize wL (q:Int) w (bW bs1) f1 g1 (bT w bs1)=T1 at *;generalize wL (q:Int) w (bW bs2) f2 g2 (bT w bs2)=T2 at *;generalize bW bs1=b at *;generalize bW bs2=e at *;have A k:b k<=9:=TJ (u k) ();have s k:e k<=9:=TJ (x k) ();have Z k:b k+e k<=6:=by have:=u k;have:=x k;lia
 have bu:=aa (p:=(q:Int)) I w s T2;obtain⟨J1,i1,j1⟩:=FS O Q (show(q:Int)<10 by lia) U w A s T1 T2 (l8:=c/8192%3);obtain⟨J2,i2,j2⟩:=LU O y U (w:=w) A s l (T':=T2);obtain⟨J,hJ,ej⟩:∃J,(∀k i j,0<=J k i j/\J k i j<(q:Int))/\J=if c/30000%4=1 then J2 else J1:=(_,by split<;>assumption,rfl);have le:zg (λk=>((b k+e k:Nat):Int)) (m+1)<=30:=by have:=Y3 (λk=>((b k+e k:Nat):Int)) (λk=>by have:=Z k;show((b k+e k:Nat):Int)<=6;lia)<|m+1;lia
 have ld:=Pa (p:=(q:Int)) (w:=w) (T:=T1) (T':=T2) (J:=J) U A s le;obtain⟨N1,A1,F1,G1,f⟩:=XT (w:=w) y (λk=>TJ (u k) ()) I l;obtain⟨N2,A2,F2,G2,g⟩:=XT (w:=w) y (λk=>TJ (x k) ()) I o;have hL k i j:0<=yT w b T1 T2 J k i j/\yT w b T1 T2 J k i j<(q:Int):=by unfold yT Jw qR;split<;>dsimp only<;>split<;>first|exact l _ _ _|exact o _ _ _|exact hJ _ _ _|exact(F9 _,Q)
 have hS k i j:0<=gA w b T1 T2 k i j/\gA w b T1 T2 k i j<(q:Int):=by unfold gA YK qR;split<;>dsimp only<;>split<;>first|exact l _ _ _|exact o _ _ _|exact(F9 _,Q)
 obtain⟨E,B,F3,G3,C⟩:=XT (w:=w) (T:=yT w b T1 T2 J) (wd:=λk=>b k+e k) y (λk=>TJ (Z k) ()) I hL;obtain⟨N4,W,zf8,zf9,X⟩:=XT (w:=w) (T:=gA w b T1 T2) (wd:=λk=>b k+e k) y (λk=>TJ (Z k) ()) I hS;have M:(qW A1 N1).Perm bs1:=by rw[<-(fF F),xY,xY];exact(XQ y f.d D1).map _
 have N:(qW A2 N2).Perm bs2:=by rw[<-(fF G),xY,xY];exact(XQ y g.d D2).map _
 have R:(qW W N4).Perm (bs1++bs2):=by refine List.Perm.trans ?_ (M.append N);rw[xY,xY,xY,<-UB];exact(gz y f.d g.d X.d).map _
 have H:=Pc y I (λk=>TJ (Z k) ()) l o f g C;have H:(∃S,sD (q:Int) m w b e T1 T2 J S)↔(qW B E).Perm (bs1++bs2):=H.trans (λh=>h.trans<|M.append N,λh=>h.trans (M.append N).symm);obtain⟨d1,zhM,x1,y1,fa,fs,fx⟩:=AM y U u x o (w:=w) (T:=T1) (J:=J);refine L ?_;rw[H]at fx;obtain⟨d2,zhN,x2,y2,la,ls,lx⟩:=Hg y I (λk=>TJ (Z k) ()) C X (by rw[R.length_eq,UD];lia);rw[show(qW B E).Perm (qW W N4)↔(qW B E).Perm (bs1++bs2)from(λh=>h.trans R,λh=>h.trans R.symm)]at lx;obtain⟨cA,zf7,eA,hA⟩:=VJ y g.q f.q;obtain⟨z,uz,zz⟩:∃z:Int,xM [jE (q:Int) m w e T2,jE (q:Int) m w b T1]=cz (.val<|.int z)/\(z=0->(qW B E).Perm (bs1++bs2)):=by have:=Ea U (Bb I g.q.st f.q.st (by have:=g.q.le;lia) (by have:=f.q.le;lia) g.q.pp.eb f.q.pp.eb)<|zft (p:=(q:Int)) (w:=w) (T1:=T2) (T2:=T1) U (λk=>by have:=x k;lia) (λk=>by have:=u k;lia);rw[Wi,<-eA]at this;exact(_,this,λh=>H.mp<|LO y hA h)
 have mu:=Ip (bs1:=bs1) (bs2:=bs2) C.q.st F G;exact OC I e1 ep bb em be bf ew r1 r2 bm bn j1 j2 (by rw[ej];split<;>rfl) (by unfold jH;simp;lia) (aa (p:=(q:Int)) I w A T1) bu ld (iM y (λk=>TJ (Z k) ()) hL I C.d) mu fa fs fx (Bh (p:=(q:Int)) (w:=w) (T:=T1) (T':=T2) U A s le) la ls lx uz zz
open PySem.Spec PyProof.Rows
noncomputable def top(i:Nat):PySem.Stmt:=PySem.Challenge.pw_barsplit_k49_whole_parted_by_bars.main.body.getD i<|.Pass (0,0,0,0)
section
variable{CR CL:PySem.Addr}{P:PySem.Program}{w:PySem.World}{K:Ti}{mg:PySem.Str->Option PySem.Value}{base:PySem.Heap}
theorem JS(h:us.length=n+1):∃a t,us=a::t/\t.length=n:=by
 cases us with
 |nil=>exact absurd h<|Nat.zero_ne_add_one n
 |cons a t=>exact(a,t,rfl,Nat.succ.inj h)
theorem Tc(h:us.length=1):∃a,us=[a]:=by obtain⟨a,I,rfl,y⟩:=JS h;rw[UH y];exact(a,rfl)
theorem SG(h:us.length=2):∃a b,us=[a,b]:=by obtain⟨a,O,rfl,y⟩:=JS h;obtain⟨b,Q,rfl,I⟩:=JS y;rw[UH I];exact(a,b,rfl)
theorem Tb(h:us.length=3):∃a b c,us=[a,b,c]:=by obtain⟨a,Q,rfl,y⟩:=JS h;obtain⟨b,U,rfl,I⟩:=JS y;obtain⟨c,Y,rfl,O⟩:=JS I;rw[UH O];exact(a,b,c,rfl)
theorem Ta(h:us.length=4):∃a b c d,us=[a,b,c,d]:=by obtain⟨a,U,rfl,y⟩:=JS h;obtain⟨b,Y,rfl,I⟩:=JS y;obtain⟨c,Z,rfl,O⟩:=JS I;obtain⟨d,e,rfl,Q⟩:=JS O;rw[UH Q];exact(a,b,c,d,rfl)
theorem SZ(h:us.length=5):∃a b c d e,us=[a,b,c,d,e]:=by obtain⟨a,Y,rfl,y⟩:=JS h;obtain⟨b,Z,rfl,I⟩:=JS y;obtain⟨c,f,rfl,O⟩:=JS I;obtain⟨d,g,rfl,Q⟩:=JS O;obtain⟨e,i,rfl,U⟩:=JS Q;rw[UH U];exact(a,b,c,d,e,rfl)
theorem SY(h:us.length=6):∃a b c d e f,us=[a,b,c,d,e,f]:=by obtain⟨a,Z,rfl,y⟩:=JS h;obtain⟨b,g,rfl,I⟩:=JS y;obtain⟨c,i,rfl,O⟩:=JS I;obtain⟨d,j,rfl,Q⟩:=JS O;obtain⟨e,k,rfl,U⟩:=JS Q;obtain⟨f,l,rfl,Y⟩:=JS U;rw[UH Y];exact(a,b,c,d,e,f,rfl)
theorem SW(h:us.length=7):∃a b c d e f g,us=[a,b,c,d,e,f,g]:=by obtain⟨a,i,rfl,y⟩:=JS h;obtain⟨b,j,rfl,I⟩:=JS y;obtain⟨c,k,rfl,O⟩:=JS I;obtain⟨d,l,rfl,Q⟩:=JS O;obtain⟨e,m,rfl,U⟩:=JS Q;obtain⟨f,n,rfl,Y⟩:=JS U;obtain⟨g,o,rfl,Z⟩:=JS Y;rw[UH Z];exact(a,b,c,d,e,f,g,rfl)
structure E0(K:Ti)(mg:PySem.Str->Option PySem.Value):Prop where
 Q0:eg K mg "_law_cell" (top 96) ["_law_script","_law_k"]
 Q1:eg K mg "_law_ways" (top 100) ["_law_cell_here","_law_rooms"]
 Q2:eg K mg "_law_stretches" (top 99) ["_law_script","_law_at","_law_many","_law_rooms"]
 Q3:eg K mg "_law_ends" (top 98) ["_law_ways_here","_law_k"]
 Q4:eg K mg "_law_bar_tables" (top 102) ["_law_ways_here","_law_bars"]
 Q5:eg K mg "_law_times" (top 101) ["_law_p","_law_one","_law_other","_law_wide"]
 Q6:eg K mg "_law_turn" (top 103) ["_law_script","_law_at","_law_p","_law_size"]
 Q7:eg K mg "_law_row" (top 104) ["_law_script","_law_at","_law_p","_law_ways_here","_law_bars"]
 Q8:eg K mg "_law_table" (top 106) ["_law_script","_law_at","_law_p","_law_high","_law_wide","_law_few"]
 Q9:eg K mg "_law_joins" (top 107) ["_law_script","_law_at","_law_p","_law_ways_here","_law_under","_law_upper","_law_few"]
 Qa:eg K mg "_law_handed" (top 105) ["_law_p","_law_ways_here","_law_row_here"]
 Qb:eg K mg "ways_of" (top 20) ["row"]
 Qc:eg K mg "one_kind" (top 21) ["one","other"]
 Qd:eg K mg "ask_one_kind" (top 22) ["one","other"]
 Qe:eg K mg "end_of" (top 19) ["k","way"]
 Qf:eg K mg "beginning_of" (top 18) ["k","way"]
 Qg:eg K mg "arrow_sizes" (top 58) ["one","other"]
 Qh:eg K mg "is_join" (top 72) ["size","join"]
 Qi:eg K mg "ask_joins" (top 73) ["under","upper","joins"]
 Qj:eg K mg "ask_together" (top 23) ["widths"]
 Qk:eg K mg "widths_together" (top 28) ["one","other"]
 Ql:eg K mg "tables_joined" (top 25) ["one","other","join"]
 Qm:eg K mg "joined" (top 29) ["one","other","joins"]
 Qn:eg K mg "laid_upon" (top 74) ["under","upper","joins"]
 Qo:eg K mg "stretches_of" (top 87) ["many"]
 Qp:eg K mg "rests" (top 7) ["p","numbers"]
 Qq:eg K mg "inverse" (top 8) ["p","x"]
 Qr:eg K mg "cleared" (top 33) ["p","load","pivot","place"]
 Qs:eg K mg "base_of" (top 34) ["p","long","loads"]
 Qt:eg K mg "led" (top 9) ["p","table","load"]
 Qu:eg K mg "led_on" (top 36) ["p","table","base"]
 Qv:eg K mg "behind_noughts" (top 35) ["many","base"]
 Qw:eg K mg "turned_over" (top 13) ["table"]
 Qx:eg K mg "same_table" (top 14) ["many"]
 Qy:eg K mg "led_into" (top 37) ["p","table","base"]
 Qz:eg K mg "nought_table" (top 15) ["high","wide"]
 _u:eg K mg "no_join" (top 26) ["one","other"]
 _v:eg K mg "tables_beside" (top 27) ["one","other"]
 _w:eg K mg "link" (top 85) ["row","i","j"]
 _x:eg K mg "kept" (top 86) ["row","i","j"]
 _y:eg K mg "number_of" (top 88) ["much","i","j"]
 _z:eg K mg "numbers" (top 89) ["row"]
 _A:eg K mg "_law_made" (top 108) ["_law_script","_law_p","_law_ways_here","_law_under","_law_upper"]
 _B:eg K mg "room_sizes" (top 57) ["one","other"]
 _C:eg K mg "numbers_in" (top 59) ["sizes"]
 _D:eg K mg "written" (top 60) ["tables"]
 _E:eg K mg "product" (top 10) ["p","one","other"]
 _F:eg K mg "added_times" (top 11) ["p","one","much","other"]
 _G:eg K mg "less" (top 12) ["p","one","other"]
 _H:eg K mg "gap" (top 62) ["one","other","tables","k"]
 _I:eg K mg "gaps" (top 63) ["one","other","tables"]
 _J:eg K mg "tables_in" (top 61) ["sizes","load"]
 _K:eg K mg "gaps_table" (top 64) ["one","other"]
 _L:eg K mg "lead_of" (top 32) ["load"]
 _M:eg K mg "solved" (top 40) ["p","table","load"]
 _N:eg K mg "weights_against" (top 75) ["p","slanted","load"]
 _O:eg K mg "fallen" (top 76) ["under","upper","joins"]
 _P:eg K mg "kernel" (top 38) ["p","table"]
 _Q:eg K mg "image" (top 39) ["p","table"]
 _R:eg K mg "columns" (top 46) ["high","loads"]
 _S:eg K mg "has_room" (top 44) ["bar","room"]
 _T:eg K mg "loads_in" (top 45) ["bars","room"]
 _U:eg K mg "mixed_load" (top 47) ["row","bars","times","room"]
 _V:eg K mg "mixed" (top 48) ["row","bars","times"]
 _W:eg K mg "settled" (top 49) ["row","k","bars"]
 _X:eg K mg "next_load" (top 50) ["p","arrow","load"]
 _Y:eg K mg "taken_on" (top 51) ["p","arrow","bar"]
 _Z:eg K mg "new_loads" (top 52) ["p","arrow"]
 b?:eg K mg "grown" (top 53) ["row","k","bars"]
 d?:eg K mg "stretch_of" (top 43) ["bar"]
 e?:eg K mg "all_grown" (top 54) ["row"]
 f?:eg K mg "back_of" (top 41) ["p","table"]
 g?:eg K mg "barred" (top 55) ["row"]
 i?:eg K mg "left_holds" (top 65) ["ways","one","other"]
 j?:eg K mg "right_holds" (top 66) ["ways","one","other"]
 k?:eg K mg "bar_ways" (top 67) ["ways","one","other"]
 l?:eg K mg "ways_into" (top 68) ["ways","bars","bar"]
 m?:eg K mg "count_ways" (top 69) ["one","other"]
 n?:eg K mg "plain_sum" (top 77) ["upper","under"]
 o?:eg K mg "count_upon" (top 78) ["upper","under"]
 p?:eg K mg "room_by_room" (top 91) ["p","ones","others"]
 q?:eg K mg "are_told_apart" (top 92) ["ways","ones","others","bar"]
 r?:eg K mg "apart" (top 93) ["ways","ones","others"]
 s?:eg K mg "alike" (top 94) ["one","other"]
 t?:eg K mg "beside" (top 30) ["one","other"]
 u?:eg K mg "law" (top 109) ["_law_script"]
 Z0:mg "len" = none
 Z1:mg "min" = none
 Z2:mg "range" = none
 Z3:mg "sorted" = none
 Z4:mg "int" = none
 Z5:mg "sum" = none
 Z6:mg "zip" = none
 Z7:mg "tuple" = none
 Z8:mg "enumerate" = none
 Z9:mg "isinstance" = none
 Za:mg "any" = none
 Zb:mg "dict" = none
 Zc:mg "list" = none
 Zd:mg "max" = none
 G0:GL K mg "BEYOND_ALL_ARROWS" (.int 5)
 G1:GL K mg "MOST_TOGETHER" (.int 30)
structure E1(P:PySem.Program)(w:PySem.World)(K:Ti)(mg:PySem.Str->Option PySem.Value)(base:PySem.Heap)(CR CL:PySem.Addr):Prop where
 O1:NW P w K mg base 3 "arrow_by" CR CL
 Pz:MethAt P w K mg base 5 CR wj
 Py:MethAt P w K mg base 5 CL qO
theorem vU(E:E0 K mg):d9 P w K mg base 1 "_law_cell" 2 qe:=
 qG E (·.Q0) λX E y I=>by refine zc (qX (oq<|bD (Ym (xm y () E.Z0 jR) zw)<|Vh<|yb y (qu zI zw) zw) (by refine zc (z5<|jh jR<|jn zw<|qu zx<|xR (xm y () E.Z0 jR) zw) ?_;refine zc (qE I y (js y () E.Z2<|og y () E.Z1 zw<|yW zx<|xR (xm y () E.Z0 jR) zw)<|zk<|z5<|yW zx<|nY zw zw) ?_;exact(zk<|zK<|qu zx<|nY zw zw)) jL) ?_;refine zc (z5 zx) ?_;refine zc (qX (Ym (xm y () E.Z0 jR) zw) (zk<|z5<|jh jR<|qu zx<|xm y () E.Z0 jR) jL) ?_;exact(zk<|zK<|qu (qt (qu (jn (jn (jn (qt (qu zx<|nY zw zw) zw)<|qt (qt zw zx) zx)<|qt zw zx) zw) zw) zw) zw)
theorem XY(E:E0 K mg):d9 P w K mg base 1 "_law_ways" 2 xu:=
 qG E (·.Q1) λX E y I=>zk<|zK<|oh xF<|PO.q<|qb y (g8.c<|js y () E.Z2<|xR zx zw)<|λ_ _ _ O=>Jm xF<|qu (yW zx<|jh (PO.q<|xq<|qF<|za zw<|za zw<|za zw<|za zw<|za zw zo) zx) zw
theorem wI(E:E0 K mg):d9 P w K mg base 2 "_law_stretches" 4 qC:=
 qG E (·.Q2) λX E y I=>by refine zc (xU<|xq<|qF zo) ?_;refine zc (qE I y (js y () E.Z2 zx)<|by refine zc (z5<|zN (vU E)<|za zx<|za (jn zx zx) zo) ?_;refine zc (z5<|qu zx zx) ?_;exact(zk<|ko 4 y ()<|jb<|qF<|za zx<|za (jn zx<|qu (yW zx zx)<|xR zx zx) zo)) ?_;exact(zk<|qI<|zfp y () E.Z3 jR)
theorem yB(E:E0 K mg):d9 P w K mg base 1 "_law_ends" 2 xJ:=
 qG E (·.Q3) λX E y I=>by refine zc (qX (yb y (Jm zx zx) xF) (zk<|zK<|jb<|qF<|za zx<|za (jn zx zw) zo) jL) ?_;exact(zk<|zK<|jb<|qF<|za (jn zx zw) gw)
theorem J9(E:E0 K mg):d9 P w K mg base 2 "_law_bar_tables" 2 xw:=
 Pk (N:=["_law_ways_here","_law_bars","_law_numbered","_law_room","_law_tables","_law_k","_law_begin","_law_end"]) E (·.Q4) () λX E y O=>by refine zc (xU (xq (qF zo))) ?_;refine zc (qE O y (js y () E.Z2 (jn (w6 y () E.Z0 zx) zw)) (zk (ko 2 y () (PO.v (WB y (g8.c (js y () E.Z2 (xm y () E.Z0 jR))) (λ_ _ _ I=>ot Ft Ft nu nu (jh (PV.q (jh jR zx)) zw) zx (jh (PV.q (jh jR zx)) zw)) (λ_ _ _ I=>iq I)))))) ?_;exact(by refine zc (J5 2 (xU (xq (qF zo)))) ?_;exact(by refine zc (qE O y (js y () E.Z2 (w6 y () E.Z0 zx)) (by refine zc (vP (Eg y) (zN (yB E) gv)) ?_;exact(zk (ko 4 y () (PO.v (qb y (jk (PV.q (jh jR zx))) (λ_ _ _ I=>PO.v (qb I (jk (PV.q (jh jR zx))) (λ_ _ _ Q=>Vi Q () E.Z4 (XN Q zx zx)))))))))) ?_;exact(zk (J5 4 (zK (jb (qF (za (PO.v (qb y (jk jR) (λ_ _ _ I=>xm I () E.Z0 jR))) gw))))))))
theorem xV(E:E0 K mg):d9 P w K mg base 1 "_law_times" 4 jK:=
 qG E (·.Q5) λX E y O=>by refine zc (xU<|xq<|qF zo) ?_;refine zc (qE O y (J7 zx)<|zk<|ko 4 y ()<|PO.v<|qb y (g8.c<|js y () E.Z2 zx)<|λ_ _ _ I=>qu (Yi I () E.Z5<|PO.q<|qb I (g8.c<|js I () E.Z2<|xm I () E.Z0 jR)<|λ_ _ _ Q=>qt (jh jR zx)<|jh (PV.q<|jh jR zx) zx) zx) ?_;exact(zk<|xT 4<|y.var ())
theorem KQ(E:E0 K mg):d9 P w K mg base 2 "_law_turn" 4 ke:=
 Pk (N:=["_law_script","_law_at","_law_p","_law_size","_law_turn_here","_law_back","_law_k","_law_cell_here","_law_i","_law_j","_law_times_here","_law_row_here"]) E (·.Q6) () λX E y Q=>by refine zc (Vj 4 (yR y (g8.c (js y () E.Z2 zx)) (λ_ _ _ I=>PO.v (qb I (g8.c (js I () E.Z2 zx)) (λ_ _ _ O=>Vi O () E.Z4 (XN O zx zx)))))) ?_;refine zc (IY y (g8.c (js y () E.Z2 zx)) (λ_ _ _ I=>qb I (g8.c (js I () E.Z2 zx)) (λ_ _ _ O=>Vi O () E.Z4 (XN O zx zx)))) ?_;refine zc (qE Q y (js y () E.Z2 (xR (qt zw zx) zw)) (by refine zc (z5 (zN (vU E) (za zx (za (jn zx zx) zo)))) ?_;refine zc (z5 (qu zx zx)) ?_;refine zc (z5 (qu (jn (jn zx zw) (qu (yW zx zw) (xR zx zw))) zx)) ?_;refine zc (z5 (qu (yW zx zw) zx)) ?_;refine zc (Wz 4 y () zx (PO.v (qb y (g8.c (yz y () E.Z6 (jh jR zx) (jh jR zx))) (λ_ _ _ I=>qu (jn zx (qt zx zx)) zx)))) ?_;exact(zk (iw 5 11 (Cd Q) y.calm y () () (y.yr 11 ()) zx (qu (xR (jh jR zx) (qt zx (jh jR zx))) zx))))) ?_;exact(zk (zfl 5 (J5 4 (zK (jb (qF gv))))))
theorem Js(E:E0 K mg):d9 P w K mg base 3 "_law_row" 5 xh:=
 qG E (·.Q7) λX E y I=>by refine zc (vP (Eg y)<|zN (J9 E) gv) ?_;refine zc (xU<|xq<|qF zo) ?_;refine zc (qE I y (js y () E.Z2<|xm y () E.Z0 jR)<|zk<|ko 7 y ()<|zN (KQ E)<|za zx<|za (jn zx<|qt zw zx)<|za zx<|za (jh jR zx) zo) ?_;refine zc (xU<|xq<|qF zo) ?_;refine zc (qE I y (js y () E.Z2<|w6 y () E.Z0 zx)<|by refine zc (vP (Eg y)<|zN (yB E) gv) ?_;refine zc (z5<|PO.v<|qa (xV E)<|za zx<|za (jh jR zx)<|za (jh (PV.q<|jh jR zx) zw)<|za (jh jR zx) zo) ?_;exact(zk<|ko 9 y ()<|PO.v<|qa (xV E)<|za zx<|za (jh (PV.q<|jh jR zx) zw)<|za zx<|za (jh jR zx) zo)) ?_;exact(zk<|J5 9<|zK<|jb<|qF gv)
theorem Zj(E:E0 K mg):d9 P w K mg base 2 "_law_table" 6 kJ:=
 qG E (·.Q8) λX E y I=>by refine zc (xU<|xq<|qF zo) ?_;refine zc (qE I y (js y () E.Z2 zx)<|by refine zc (xU<|xq<|qF zo) ?_;refine zc (qE I y (js y () E.Z2 zx)<|by refine zc (z5<|zN (vU E)<|za zx<|za (jn (jn zx<|qt zx zx) zx) zo) ?_;exact(zk<|ko 8 y ()<|qt (qu (yW zx zw) zx)<|Vi y () E.Z4<|OL (qu (yW zx zw) zw) zx)) ?_;exact(zk<|J5 8<|ko 6 y () zx)) ?_;exact(zk<|xT 6<|y.var ())
theorem XZ(E:E0 K mg):d9 P w K mg base 3 "_law_joins" 7 kK:=
 qG E (·.Q9) λX E y I=>by refine zc (xU<|xq<|qF zo) ?_;refine zc (qE I y (js y () E.Z2<|w6 y () E.Z0 zx)<|by refine zc (vP (Eg y)<|zN (yB E) gv) ?_;refine zc (z5<|PO.v<|qa (Zj E)<|za zx<|za (jn zx<|qt zw zx)<|za zx<|za (jh (PV.q zI) zx)<|za (jh (PV.q zI) zx) gw) ?_;exact(zk<|ko 7 y ()<|jb<|qF<|za (jh (PV.q zI) zx)<|za (jh (PV.q zI) zx)<|za (jC y () E.Z7<|PO.q<|qb y (jk jR)<|λ_ _ _ O=>jC O () E.Z7 jR) zo)) ?_;exact(zk<|xT 7<|y.var ())
theorem wJ(E:E0 K mg):d9 P w K mg base 2 "_law_handed" 3 qD:=
 qG E (·.Qa) λX E y I=>by refine zc (vP (Eg y) zx) ?_;refine zc (xU<|xq<|qF zo) ?_;refine zc (qE I y (js y () E.Z2<|w6 y () E.Z0 zx)<|by refine zc (vP (Eg y)<|zN (yB E) gv) ?_;refine zc (z5<|jC y () E.Z7<|PO.q<|qb y (jk<|PV.q<|jh jR zx)<|λ_ _ _ O=>jC O () E.Z7 jR) ?_;exact(zk<|ko 5 y ()<|jb<|qF<|za (Jm zx zx)<|za (jb<|qF<|za (jh jR zx)<|za (jh jR zx) gw) zo)) ?_;exact(zk<|zK<|jb<|qF<|za zx<|za (jC y () E.Z7 jR)<|za (jC y () E.Z7 jR) zo)
theorem vw(E:E0 K mg):d9 P w K mg base 1 "ways_of" 1 x6:=
 qG E (·.Qb) λX E y I=>zk<|zK<|oh xF<|PO.q<|qb y (jk<|PV.q zI)<|λ_ _ _ O=>jh jR zw
theorem bP(E:E0 K mg):d9 P w K mg base 2 "one_kind" 2 yp:=
 qG E (·.Qc) λX E y I=>zk<|zK<|BX (XN y zI zI)<|BU<|XN y (zN (vw E) gw)<|zN (vw E) gw
theorem qY(E:E0 K mg):d9 P w K mg base 3 "ask_one_kind" 2 jT:=
 qG E (·.Qd) λX E y I=>zk<|qX (J3<|k5<|zN (bP E) gv) (zk Ze) jL
theorem WO(E:E0 K mg):d9 P w K mg base 1 "end_of" 2 ZF:=
 qG E (·.Qe) λX E y I=>zk<|zK<|xS (yb y zx xF) (jn zx zw) zx
theorem Zk(E:E0 K mg):d9 P w K mg base 1 "beginning_of" 2 qP:=
 qG E (·.Qf) λX E y I=>zk<|zK<|xS (yb y zx xF) zx<|jn zx zw
theorem kE(E:E0 K mg):d9 P w K mg base 2 "arrow_sizes" 2 qm:=
 qG E (·.Qg) λX E y I=>by refine zc (z5<|zN (vw E) gw) ?_;exact(zk<|qI<|qb y (g8.c<|Ff y () E.Z8 zx)<|λ_ _ _ O=>jb<|qF<|za (jh (PV.q zI)<|zN (WO E) gv)<|za (jh (PV.q zI)<|zN (Zk E) gv) zo)
theorem iI(E:E0 K mg):d9 P w K mg base 1 "is_join" 2 JQ:=
 qG E (·.Qh) λX E y I=>zk<|zK<|BX (bF y () E.Z9 () E.Z7 zx)<|BU<|XN y (Jn zx ZU<|yA zw) zx
theorem QO(E:E0 K mg):d9 P w K mg base 4 "ask_joins" 3 wz:=
 qG E (·.Qi) λX E y I=>by refine zc (yf<|zN (qY E) gv) ?_;refine zc (z5<|PO.v<|qa (kE E) gv) ?_;refine zc (qE I y (oE y () E.Z8 zx)<|zk<|qX (oq<|BS (IU zx<|xm y () E.Z0 jR)<|nX<|J3<|k5<|zN (iI E)<|za zx<|za (jh jR zx) zo) (zk Ze) jL) ?_;exact(zk<|qX (Ym (xm y () E.Z0 jR)<|xm y () E.Z0 jR) (zk Ze) jL)
theorem X0(E:E0 K mg):d9 P w K mg base 1 "ask_together" 1 kM:=
 qG E (·.Qj) λX E y I=>zk<|qX (Ym (Yi y () E.Z5 jR)<|OK y () E.G1) (zk Ze) jL
theorem yX(E:E0 K mg):d9 P w K mg base 2 "widths_together" 2 jJ:=
 qG E (·.Qk) λX E y I=>by refine zc (z5<|jC y () E.Z7<|PO.q<|qb y (g8.c<|yz y () E.Z6 zI zI)<|λ_ _ _ O=>jn zx zx) ?_;refine zc (yf<|zN (X0 E) gw) ?_;exact(zk<|xT 2<|y.var ())
theorem wH(E:E0 K mg):d9 P w K mg base 1 "tables_joined" 3 qB:=
 qG E (·.Ql) λX E y O=>by refine zc (jM 3<|yR y (g8.c<|yz y () E.Z6 zI zI)<|λ_ _ _ I=>jn zx zx) ?_;refine zc (jM 4<|yR y (jk<|PV.q zI)<|λ_ _ _ I=>jn (qt (jb<|qF<|za zw zo) zI) zx) ?_;exact(zk<|zK<|jb<|qF<|za (jn zI zI)<|za (jn zI zI)<|za (jC y () E.Z7<|PV.q<|PO.v<|Yo jR jR) zo)
theorem WN(E:E0 K mg):d9 P w K mg base 3 "joined" 3 Xo:=
 qG E (·.Qm) λX E y I=>by refine zc (z5<|zN (yX E) gv) ?_;refine zc (jM 4<|yR y (g8.c<|Fd y () E.Z6 zI zI zx)<|λ_ _ _ O=>jb<|qF<|za zI<|za (zN (wH E)<|za zI<|za zI gw) zo) ?_;exact(zk<|zK<|jb<|qF<|za zI<|za zx<|za (jC y () E.Z7 jR) zo)
theorem WL(E:E0 K mg):d9 P w K mg base 5 "laid_upon" 3 wm:=
 qG E (·.Qn) λX E y I=>by refine zc (yf<|zN (QO E) lT) ?_;exact(zk<|zK<|zN (WN E) lT)
theorem Zh(E:E0 K mg):d9 P w K mg base 1 "stretches_of" 1 qr:=
 qG E (·.Qo) λX E y I=>by refine zc (xU<|xq<|qF zo) ?_;refine zc (qE I y (js y () E.Z2 zx)<|zk<|EV 1 y ()<|qb y (g8.c<|Vn y () E.Z2 zx zx)<|λ_ _ _ O=>jb<|qF gv) ?_;exact(zk<|xT 1<|y.var ())
theorem Zv(E:E0 K mg):d9 P w K mg base 1 "rests" 2 kC:=
 qG E (·.Qp) λX E y I=>zk<|zK<|jC y () E.Z7<|PO.q<|qb y (jk jR)<|λ_ _ _ O=>qu zx zx
theorem iJ(E:E0 K mg):d9 P w K mg base 1 "inverse" 2 KF:=
 qG E (·.Qq) λX E y I=>by refine zc (qE I y (Vn y () E.Z2 zw zx)<|zk<|qX (yb y (qu (qt zx zx) zx) zw) (zk<|xT 2<|y.var ()) jL) ?_;exact(zk Ze)
theorem Ys(E:E0 K mg):d9 P w K mg base 2 "cleared" 4 yN:=
 qG E (·.Qr) λX E y I=>by refine zc (z5<|jh jR zx) ?_;refine zc (qX (yb y zx zw) (zk<|xT 1<|y.var ()) jL) ?_;exact(zk<|zK<|zN (Zv E)<|za zx<|za (PO.v<|qb y (g8.c<|yz y () E.Z6 zx zx)<|λ_ _ _ O=>xR zx<|qt zx zx) zo)
theorem yn(E:E0 K mg):d9 P w K mg base 3 "base_of" 3 xi:=
 qG E (·.Qs) λX E y O=>by refine zc (jM 3<|yR y (jk jR)<|λ_ _ _ I=>zN (Zv E) gv) ?_;refine zc (xU<|xq<|qF zo) ?_;refine zc (qE O y (js y () E.Z2 zx)<|by refine zc (jM 6<|EW y (jk jR) (λ_ _ _ I=>QM I (jh jR zx) zw)<|λ_ _ _ I=>iq I) ?_;refine zc (qX (J3<|zfK jR) (zk WA) jL) ?_;refine zc (z5<|zN (iJ E)<|za zx<|za (jh (PV.q zI) zx) zo) ?_;refine zc (z5<|zN (Zv E)<|za zx<|za (PO.v<|qb y (jk<|PV.q zI)<|λ_ _ _ I=>qt zx zx) zo) ?_;refine zc (jM 3<|yR y (jk jR)<|λ_ _ _ I=>zN (Ys E)<|za zx lT) ?_;exact(zk<|xU<|Yo (PO.q<|qb y (jk jR)<|λ_ _ _ I=>zN (Ys E)<|za zx lT)<|PO.q<|xq<|qF gw)) ?_;exact(zk<|xT 4<|y.var ())
theorem eV(E:E0 K mg):d9 P w K mg base 2 "led" 3 aT:=
 qG E (·.Qt) λX E I O=>zk<|zK<|zN (Zv E)<|za zx<|za (PO.v<|qb I (jk<|PV.q zI)<|λ_ _ _ y=>Yi y () E.Z5<|PO.q<|qb y (g8.c<|yz y () E.Z6 zx zx)<|λ_ _ _ Q=>qt zx zx) zo
theorem LI(E:E0 K mg):d9 P w K mg base 4 "led_on" 3 wj:=
 qG E (·.Qu) λX E y I=>zk<|qI<|qa (yn E)<|za zx<|za zI<|za (PO.v<|qb y (jk jR)<|λ_ _ _ O=>zN (eV E) lT) zo
theorem kx(E:E0 K mg):d9 P w K mg base 1 "behind_noughts" 2 qg:=
 qG E (·.Qv) λX E I O=>zk<|qI<|WB I (jk jR) (λ_ _ _ y=>J3<|k5<|BW y () E.Za<|PV.q<|Jn zx ZU<|yA zx)<|λ_ _ _ y=>Jn zx (yA zx) ZU
theorem qo(E:E0 K mg):d9 P w K mg base 1 "turned_over" 1 jO:=
 qG E (·.Qw) λX E y O=>by refine zc (jM 1<|yR y (g8.c<|js y () E.Z2 zI)<|λ_ _ _ I=>jC I () E.Z7<|PO.q<|qb I (jk<|PV.q zI)<|λ_ _ _ Q=>jh jR zx) ?_;exact(zk<|zK<|jb<|qF<|za zI<|za zI<|za (jC y () E.Z7 jR) zo)
theorem xk(E:E0 K mg):d9 P w K mg base 1 "same_table" 1 ql:=
 qG E (·.Qx) λX E y Q=>by refine zc (jM 1<|yR y (g8.c<|js y () E.Z2 zx)<|λ_ _ _ I=>jC I () E.Z7<|PO.q<|qb I (g8.c<|js I () E.Z2 zx)<|λ_ _ _ O=>xS (yb O zx zx) zw zw) ?_;exact(zk<|zK<|jb<|qF<|za zx<|za zx<|za (jC y () E.Z7 jR) zo)
theorem XX(E:E0 K mg):d9 P w K mg base 4 "led_into" 3 qO:=
 qG E (·.Qy) λX E y O=>by refine zc (jM 3<|yR y (g8.c<|yz y () E.Z6 (jh (PV.q<|zN (qo E) gw) zw)<|jh (PV.q<|zN (xk E)<|za zI zo) zw)<|λ_ _ _ I=>jn zx zx) ?_;refine zc (jM 4<|yR y (jk jR)<|λ_ _ _ I=>jn zx<|qt (jb<|qF<|za zw zo) zI) ?_;exact(zk<|qI<|qa (kx E)<|za zI<|za (PO.v<|qa (yn E)<|za zx<|za (jn zI zI)<|za (PO.v<|Yo jR jR) zo) zo)
theorem XW(E:E0 K mg):d9 P w K mg base 1 "nought_table" 2 kH:=
 qG E (·.Qz) λX E y I=>zk<|zK<|jb<|qF<|za zx<|za zx<|za (qt (jb<|qF<|za (qt (jb<|qF<|za zw zo) zx) zo) zx) zo
theorem Yr(E:E0 K mg):d9 P w K mg base 2 "no_join" 2 ka:=
 qG E (·._u) λX E y I=>zk<|zK<|zN (XW E)<|za zI<|za zI zo
theorem Jq(E:E0 K mg):d9 P w K mg base 3 "tables_beside" 2 xl:=
 qG E (·._v) λX E y I=>zk<|zK<|zN (wH E)<|za zx<|za zx<|za (zN (Yr E) gv) zo
theorem Fx(E:E0 K mg)(A:E1 P w K mg base CR CL):d9 P w K mg base 6 "link" 3 gF:=
 NJ (N:=["row","i","j","same","base","arrow"]) E._w () λX I a O Q U y Y=>by subst I a O Q U;exact by refine zc (z5 (zN (xk E) (za (jh (PV.q zI) zx) zo))) ?_;refine zc (Vj 4 (yR y (jk (PV.q zI)) (λ_ _ _ Z=>jn zx zx))) ?_;refine zc (qE Y y (J7 (Jn zI (yA zx) (yA zx))) (zk (J5 4 (xU (zfs A.O1 A.Pz A.Py () () () y () zI zI (zN (Jq E) (za zx (za zI zo))) zx))))) ?_;exact(zk (xT 4 (y.var ())))
theorem Fz(E:E0 K mg)(A:E1 P w K mg base CR CL):d9 P w K mg base 7 "kept" 3 KD:=
 NJ (N:=["row","i","j","base","first","second","swapped"]) E._x () λX I a O Q U y Y=>by subst I a O Q U;exact by refine zc (z5 (PO.v (OP (Fx E A) y lT))) ?_;refine zc (z5 (jh (PV.q zI) zx)) ?_;refine zc (z5 (jh (PV.q zI) zx)) ?_;refine zc (z5 (PO.v (qa (yn E) (za zI (za (jn zx zx) (za (PO.v (qb y (jk jR) (λ_ _ _ Z=>jn (Jn zx (yA zx) ZU) (Jn zx ZU (yA zx))))) zo)))))) ?_;exact(zk (zK (xR (xR (xm y () E.Z0 jR) (xm y () E.Z0 (PO.q (qa (kx E) gv)))) (xm y () E.Z0 (PO.q (qa (kx E) gv))))))
theorem WI(E:E0 K mg):d9 P w K mg base 1 "number_of" 3 yJ:=
 qG E (·._y) λX E y I=>by refine zc (z5<|jn (bG y zx (jb<|qF<|za (xR zx zw) gw) zw)<|bG y zx (jb<|qF<|za zx<|za (jn zx zw) zo) zw) ?_;exact(zk<|zK<|jn (xR (oi y zx<|jb<|qF gv) zx)<|bG y zx (jb<|qF<|za (xR zx zw)<|za (jn zx zw) zo) zw)
theorem iH(E:E0 K mg)(A:E1 P w K mg base CR CL):d9 P w K mg base 8 "numbers" 1 vD:=
 NJ (N:=["row","stretches","much"]) E._z () λX O a Q U Y y Z=>by subst O a Q U Y;exact by refine zc (z5 (PO.v (qa (Zh E) (za (xm y () E.Z0 (PV.q zI)) zo)))) ?_;refine zc (z5 (eH y () E.Zb (qb y (jk jR) (λ_ _ _ I=>jb (qF (za (jb (qF gv)) (za (IR (Fz E A) I lT) zo))))))) ?_;exact(zk (zK (eH y () E.Zb (qb y (jk jR) (λ_ _ _ I=>jb (qF (za (jb (qF gv)) (za (zN (WI E) lT) zo))))))))
theorem KR(E:E0 K mg):d9 P w K mg base 3 "_law_made" 5 kf:=
 qG E (·._A) λX E y O=>by refine zc (xU<|xq<|qF zo) ?_;refine zc (qE O y (js y () E.Z2<|jn (w6 y () E.Z0 zx) zw)<|zk<|ko 5 y ()<|PO.v<|qa (Zj E)<|za zx<|za (jn zw<|qt zw zx)<|za zx<|za (jh (PV.q zI) zx)<|za (jh (PV.q zI) zx)<|za zw zo) ?_;refine zc (xU<|xq<|qF zo) ?_;refine zc (qE O y (js y () E.Z2<|w6 y () E.Z0 zx)<|by refine zc (vP (Eg y)<|zN (yB E) gv) ?_;refine zc (z5<|jh (PV.q zI) zx) ?_;refine zc (z5<|PO.v<|qa (xV E)<|za zx<|za (jh (PV.q zI) zx)<|za (jh jR zx) gw) ?_;refine zc (z5<|PO.v<|qa (xV E)<|za zx<|za (jh jR zx)<|za (jh (PV.q zI) zx) gw) ?_;refine zc (jM 13<|yR y (g8.c<|yz y () E.Z6 zx zx)<|λ_ _ _ I=>jC I () E.Z7<|PO.q<|qb I (g8.c<|yz I () E.Z6 zx zx)<|λ_ _ _ Q=>qu (xR zx zx) zx) ?_;exact(zk<|ko 7 y ()<|jb<|qF<|za (jh (PV.q zI) zx)<|za zx<|za (jC y () E.Z7 jR) zo)) ?_;exact(zk<|xT 7<|y.var ())
theorem vT(E:E0 K mg):d9 P w K mg base 1 "room_sizes" 2 kW:=
 qG E (·._B) λX E y I=>zk<|qI<|zfr y () E.Zc () E.Z6 zI zI
theorem yh(E:E0 K mg):d9 P w K mg base 1 "numbers_in" 1 xH:=
 qG E (·._C) λX E y I=>zk<|zK<|Yi y () E.Z5<|PO.q<|qb y (jk jR)<|λ_ _ _ O=>qt zx zx
theorem Yq(E:E0 K mg):d9 P w K mg base 1 "written" 1 vB:=
 qG E (·._D) λX E y I=>by refine zc (xU<|xq<|qF zo) ?_;refine zc (qE I y (J7 zx)<|zk<|qE I y (J7 zI)<|zk<|zfm 1 y () jR) ?_;exact(zk<|zK<|jC y () E.Z7 jR)
theorem J8(E:E0 K mg):d9 P w K mg base 3 "product" 3 yH:=
 qG E (·._E) λX E y I=>by refine zc (z5<|zN (qo E) gw) ?_;exact(zk<|zK<|jb<|qF<|za zI<|za zI<|za (jC y () E.Z7<|PO.q<|qb y (jk<|PV.q zI)<|λ_ _ _ O=>zN (eV E) lT) zo)
theorem KS(E:E0 K mg):d9 P w K mg base 2 "added_times" 4 kg:=
 qG E (·._F) λX E y O=>by refine zc (jM 4<|yR y (g8.c<|yz y () E.Z6 zI zI)<|λ_ _ _ I=>zN (Zv E)<|za zx<|za (PO.v<|qb I (g8.c<|yz I () E.Z6 zx zx)<|λ_ _ _ Q=>jn zx<|qt zx zx) zo) ?_;exact(zk<|zK<|jb<|qF<|za zI<|za zI<|za (jC y () E.Z7 jR) zo)
theorem Fy(E:E0 K mg):d9 P w K mg base 3 "less" 3 sH:=
 qG E (·._G) λX E y I=>zk<|zK<|zN (KS E)<|za zx<|za zx<|za (nZ zw) gw
theorem LJ(E:E0 K mg):d9 P w K mg base 4 "gap" 4 Bn:=
 qG E (·._H) λX E y I=>by refine zc (z5 zI) ?_;refine zc (z5<|jh (PV.q<|jh (PV.q zI) zx) zw) ?_;refine zc (z5<|zN (J8 E)<|za zx<|za (jh jR<|zN (WO E) gv)<|za (jh (PV.q<|jh (PV.q zI) zx) zw) zo) ?_;refine zc (z5<|zN (J8 E)<|za zx<|za (jh (PV.q<|jh (PV.q zI) zx) zw)<|za (jh jR<|zN (Zk E) gv) zo) ?_;exact(zk<|zK<|zN (Fy E) lT)
theorem FA(E:E0 K mg):d9 P w K mg base 5 "gaps" 3 gG:=
 qG E (·._I) λX E y I=>zk<|qI<|qb y (g8.c<|js y () E.Z2<|xm y () E.Z0<|PV.q zI)<|λ_ _ _ O=>zN (LJ E)<|za zx lT
theorem Zg(E:E0 K mg):d9 P w K mg base 1 "tables_in" 2 xC:=
 qG E (·._J) λX E y I=>by refine zc (xU<|xq<|qF zo) ?_;refine zc (z5 zw) ?_;refine zc (qE I y (J7 zx)<|by refine zc (jM 6<|yR y (g8.c<|js y () E.Z2 zx)<|λ_ _ _ O=>Jn zx (yA<|jn zx<|qt zx zx)<|yA<|jn zx<|qt (jn zx zw) zx) ?_;refine zc (ko 2 y ()<|jb<|qF<|za zx<|za zx<|za (jC y () E.Z7 jR) zo) ?_;exact(zk<|z5<|jn zx<|qt zx zx)) ?_;exact(zk<|xT 2<|y.var ())
theorem Vu(E:E0 K mg):d9 P w K mg base 6 "gaps_table" 2 Zs:=
 qG E (·._K) λX E y I=>by refine zc (z5<|PO.v<|qa (vT E) gv) ?_;refine zc (z5<|zN (yh E) gw) ?_;refine zc (jM 4<|yR y (jk<|PV.q<|jh (PV.q<|zN (xk E) gw) zw)<|λ_ _ _ O=>zN (Yq E)<|za (PO.v<|qa (FA E)<|za zx<|za zx<|za (PO.v<|qa (Zg E) gv) zo) zo) ?_;exact(zk<|zK<|zN (qo E)<|za (jb<|qF<|za zx<|za (zN (yh E)<|za (PO.v<|qa (kE E) gv) zo)<|za (jC y () E.Z7 jR) zo) zo)
theorem Zw(E:E0 K mg):d9 P w K mg base 1 "lead_of" 1 kc:=
 qG E (·._L) λX E I O=>zk<|zK<|jh (PO.q<|WB I (g8.c<|oF I () E.Z8 zx) (λ_ _ _ y=>QM y zx zw)<|λ_ _ _ y=>iq y) zw
theorem XU(E:E0 K mg):d9 P w K mg base 4 "solved" 3 yk:=
 qG E (·._M) λX E y I=>by refine zc (z5 zI) ?_;refine zc (xU<|Le (xq<|qF<|za zw zo) zx) ?_;refine zc (qE I y (J7<|PO.v<|qa (yn E)<|za zx<|za (jn zx zw)<|za (PO.v<|qb y (g8.c<|yz y () E.Z6 zI zx)<|λ_ _ _ O=>jn zx<|jb<|qF gw) zo)<|by refine zc (z5<|zN (Zw E) gw) ?_;refine zc (qX (yb y zx zx) (zk<|zK Yj) jL) ?_;exact(zk<|Wz 4 y () zx<|jh jR zx)) ?_;exact(zk<|zK<|jC y () E.Z7 jR)
theorem Jp(E:E0 K mg):d9 P w K mg base 5 "weights_against" 3 kB:=
 qG E (·._N) λX E y I=>by refine zc (z5<|zN (qo E) gw) ?_;refine zc (z5<|jb<|qF<|za (jn zI zw)<|za zI<|za (jn zI<|jb<|qF gw) zo) ?_;exact(zk<|zK<|zN (XU E)<|za zx<|za zx<|za (jn (qt (jb<|qF<|za zw zo) zI)<|jb<|qF<|za zw zo) zo)
theorem oQ(E:E0 K mg):d9 P w K mg base 7 "fallen" 3 wu:=
 qG E (·._O) λX E y O=>by refine zc (yf<|zN (QO E) lT) ?_;refine zc (yf<|zN (yX E) gv) ?_;refine zc (z5 zI) ?_;refine zc (z5<|zN (Vu E) gv) ?_;refine zc (z5<|zN (Zv E)<|za zx<|za (PO.v<|qb y (jk<|PV.q<|zN (Yq E) gw)<|λ_ _ _ I=>nZ zx) zo) ?_;refine zc (z5<|zN (XU E) lT) ?_;refine zc (qX (iu zx Yj) (zk<|zK<|jb<|qF<|za xF<|za (PO.v<|qa (Zg E)<|za (PO.v<|qa (vT E) gv) gw) zo) jL) ?_;refine zc (z5<|PO.v<|qa (Zg E)<|za (PO.v<|qa (kE E) gv)<|za (zN (Jp E) lT) zo) ?_;exact(zk<|zK<|jb<|qF<|za xF<|za (PO.v<|qb y (jk jR)<|λ_ _ _ I=>zN (qo E) gw) zo)
theorem WM(E:E0 K mg):d9 P w K mg base 5 "kernel" 2 wt:=
 qG E (·._P) λX E y I=>zk<|qI<|qa (XX E)<|za zx<|za zx<|za (PO.v<|xq<|qF zo) zo
theorem eW(E:E0 K mg):d9 P w K mg base 4 "image" 2 QK:=
 qG E (·._Q) λX E y I=>zk<|qI<|qa (yn E)<|za zx<|za zI<|za (jh (PV.q<|zN (qo E) gw) zw) zo
theorem QA(E:E0 K mg):d9 P w K mg base 2 "columns" 2 yM:=
 qG E (·._R) λX E y I=>zk<|zK<|zN (qo E)<|za (jb<|qF<|za (xm y () E.Z0 jR)<|za zx<|za (jC y () E.Z7 jR) zo) zo
theorem vV(E:E0 K mg):d9 P w K mg base 1 "has_room" 2 qf:=
 qG E (·._S) λX E y I=>zk<|zK<|zfJ Ft LD nu BG zI zx<|jn zI<|xm y () E.Z0<|PV.q zI
theorem ZW(E:E0 K mg):d9 P w K mg base 2 "loads_in" 2 xI:=
 qG E (·._T) λX E y O=>zk<|qI<|WB y (jk jR) (λ_ _ _ I=>k5<|zN (vV E) gv)<|λ_ _ _ I=>jh (PV.q zI)<|xR zx zI
theorem Vr(E:E0 K mg):d9 P w K mg base 3 "mixed_load" 4 vd:=
 qG E (·._U) λX E y O=>by refine zc (jM 4<|EW y (g8.c<|yz y () E.Z6 zx zx) (λ_ _ _ I=>k5<|zN (vV E) gv)<|λ_ _ _ I=>iq I) ?_;exact(zk<|zK<|zN (eV E)<|za zI<|za (zN (QA E)<|za (jh (PV.q zI) zx)<|za (PO.v<|qa (ZW E) gv) zo) gw)
theorem Ab(E:E0 K mg):d9 P w K mg base 4 "mixed" 3 V3:=
 qG E (·._V) λX E y I=>by refine zc (z5<|jh jR<|zN (Zw E) gw) ?_;refine zc (jM 4<|yR y (g8.c<|js y () E.Z2<|xm y () E.Z0<|PV.q zI)<|λ_ _ _ O=>zN (Vr E)<|za zx<|za zx<|za zx<|za (jn zI zx) zo) ?_;exact(zk<|zK<|jb<|qF<|za zI<|za (jC y () E.Z7 jR) zo)
theorem iG(E:E0 K mg):d9 P w K mg base 6 "settled" 3 KB:=
 qG E (·._W) λX E y O=>by refine zc (z5<|jh (PV.q<|jh (PV.q zI) zx) zw) ?_;refine zc (z5<|jh (PV.q<|jh (PV.q zI) zx) zw) ?_;refine zc (z5<|xS (yb y zx xF) (PO.v<|qa (WM E)<|za zI gw)<|PO.v<|qa (eW E)<|za zI gw) ?_;refine zc (z5<|PO.v<|qa (XX E)<|za zI<|za (zN (QA E)<|za (jh (PV.q zI) zx)<|za (PO.v<|qa (ZW E) gv) zo) gw) ?_;refine zc (z5<|zfI y () E.Zb<|qb y (jk jR)<|λ_ _ _ I=>jb<|qF<|za (zN (Zw E) gw) gw) ?_;exact(zk<|qI<|qb y (g8.c<|oE y () E.Z8 zx)<|λ_ _ _ I=>xS (ER I zx zx) (zN (Ab E)<|za zx<|za zx<|za (IS I zx zx) zo) zx)
theorem WJ(E:E0 K mg):d9 P w K mg base 5 "next_load" 3 yK:=
 qG E (·._X) λX E y I=>by refine zc (qX (yb y zI xF) (zk<|zK<|zN (XU E)<|za zx<|za zI gw) jL) ?_;refine zc (z5<|zN (eV E)<|za zx<|za zI gw) ?_;exact(zk<|zK<|xS (k5<|BW y () E.Za jR) zx Yj)
theorem bO(E:E0 K mg):d9 P w K mg base 6 "taken_on" 3 vC:=
 qG E (·._Y) λX E y I=>by refine zc (z5<|zN (WJ E)<|za zx<|za zx<|za (jh (PV.q zI)<|nZ zw) zo) ?_;exact(zk<|zK<|xS (EO zx Yj) zx<|jb<|qF<|za zI<|za (jn zI<|jb<|qF gw) zo)
theorem WK(E:E0 K mg):d9 P w K mg base 6 "new_loads" 2 Jc:=
 qG E (·._Z) λX E y O=>by refine zc (qX (yb y zI xF) (zk<|qI<|qa (WM E)<|za zx<|za zI zo) jL) ?_;refine zc (jM 2<|yR y (jk<|PO.q<|qa (eW E)<|za zx<|za zI zo)<|λ_ _ _ I=>zN (Zw E) gw) ?_;exact(zk<|qI<|WB y (g8.c<|oF y () E.Z8<|jh (PV.q<|zN (xk E)<|za (jh (PV.q zI) zw) zo) zw) (λ_ _ _ I=>ir zx jR)<|λ_ _ _ I=>iq I)
theorem Ac(E:E0 K mg):d9 P w K mg base 7 "grown" 3 V4:=
 qG E (·.b?) λX E I O=>by refine zc (z5 zI) ?_;refine zc (z5<|jh (PV.q zI) zx) ?_;refine zc (jM 5<|EW I (jk jR) (λ_ _ _ y=>J3<|k5<|zN (vV E) gv)<|λ_ _ _ y=>iq y) ?_;refine zc (z5<|PO.v<|qa (iG E)<|za zx<|za zx<|za (PO.v<|WB I (jk jR) (λ_ _ _ y=>k5<|zN (vV E) gv)<|λ_ _ _ y=>iq y) zo) ?_;refine zc (jM 7<|yR I (jk jR)<|λ_ _ _ y=>zN (bO E) lT) ?_;refine zc (jM 8<|yR I (jk<|PO.q<|qa (WK E) gv)<|λ_ _ _ y=>jb<|qF<|za (jn zx zw)<|za (jb<|qF gw) zo) ?_;exact(zk<|zK<|PO.v<|Yo jR<|PV.q<|xS (yb I zI xF) (PO.v<|Yo jR jR)<|PO.v<|Yo jR jR)
theorem Jr(E:E0 K mg):d9 P w K mg base 1 "stretch_of" 1 qk:=
 qG E (·.d?) λX E y I=>zk<|zK<|jb<|qF<|za zI<|za (xR (jn zI<|xm y () E.Z0<|PV.q zI) zw) zo
theorem WQ(E:E0 K mg):d9 P w K mg base 9 "all_grown" 1 wA:=
 qG E (·.e?) λX E y I=>by refine zc (jM 1<|yR y (jk<|PV.q<|jh (PV.q<|zN (xk E)<|za (jh (PV.q zI) zw) zo) zw)<|λ_ _ _ O=>jb<|qF<|za zw<|za (jb<|qF gw) zo) ?_;refine zc (qE I y (js y () E.Z2<|xm y () E.Z0<|PV.q zI)<|zk<|z5<|zN (Ac E) lT) ?_;exact(zk<|qI<|zfq (Jr E) y () () E.Z3 () jR)
theorem iK(E:E0 K mg):d9 P w K mg base 4 "back_of" 2 yO:=
 qG E (·.f?) λX E y O=>by refine zc (z5 zI) ?_;refine zc (qX (QM y zI zx) (zk<|zK Yj) jL) ?_;refine zc (z5<|jh (PV.q<|zN (xk E) gw) zw) ?_;refine zc (z5<|PO.v<|qa (yn E)<|za zx<|za (jn zx zx)<|za (PO.v<|qb y (g8.c<|yz y () E.Z6 zI zx)<|λ_ _ _ I=>jn zx zx) zo) ?_;refine zc (qX (QM y (PO.v<|qb y (jk jR)<|λ_ _ _ I=>Jn zx ZU<|yA zx)<|PO.v<|bK y () E.Zc jR) (zk<|zK Yj) jL) ?_;exact(zk<|zK<|jb<|qF<|za zx<|za zx<|za (jC y () E.Z7<|PO.q<|qb y (jk jR)<|λ_ _ _ I=>Jn zx (yA zx) ZU) zo)
theorem Jt(E:E0 K mg):d9 P w K mg base 10 "barred" 1 qw:=
 qG E (·.g?) λX E y O=>by refine zc (z5<|PO.v<|qa (WQ E) gw) ?_;refine zc (jM 2<|yR y (g8.c<|oF y () E.Z8 zI)<|λ_ _ _ I=>zN (QA E)<|za zx<|za (PO.v<|qa (ZW E) gv) zo) ?_;refine zc (jM 3<|yR y (jk jR)<|λ_ _ _ I=>zN (iK E)<|za zI gw) ?_;exact(zk<|zK<|jb<|qF<|za (PO.v<|qb y (jk jR)<|λ_ _ _ I=>zN (Jr E) gw) gv)
theorem Vt(E:E0 K mg):d9 P w K mg base 1 "left_holds" 3 kY:=
 qG E (·.i?) λX E y I=>by refine zc (qX (yb y zI zI) (zk<|zK om) jL) ?_;exact(zk<|zK<|XN y (Jm zx<|xR (BV y () E.Zd zI zI) zw)<|xS (IT zI zI) xF xF)
theorem KP(E:E0 K mg):d9 P w K mg base 1 "right_holds" 3 x9:=
 qG E (·.j?) λX E y I=>by refine zc (qX (yb y zI zI) (zk<|zK om) jL) ?_;exact(zk<|zK<|XN y (Jm zx<|og y () E.Z1 zI zI)<|xS (Ym zI zI) xF xF)
theorem bQ(E:E0 K mg):d9 P w K mg base 2 "bar_ways" 3 yq:=
 qG E (·.k?) λX E y I=>by refine zc (qX (Ym (BV y () E.Zd zI zI)<|og y () E.Z1 zI zI) (zk<|zK zw) jL) ?_;exact(zk<|zK<|xS (oq<|bD (k5<|zN (Vt E) lT)<|Vh<|k5<|zN (KP E) lT) zw zw)
theorem Zf(E:E0 K mg):d9 P w K mg base 3 "ways_into" 3 qM:=
 qG E (·.l?) λX E y I=>zk<|zK<|Yi y () E.Z5<|PO.q<|qb y (jk jR)<|λ_ _ _ O=>zN (bQ E) lT
theorem Vv(E:E0 K mg):d9 P w K mg base 11 "count_ways" 2 xK:=
 qG E (·.m?) λX E y I=>by refine zc (yf<|zN (qY E) gv) ?_;refine zc (z5<|jh (PV.q<|zN (Jt E) gw) zw) ?_;exact(zk<|zK<|Yi y () E.Z5<|PO.q<|qb y (jk<|PV.q<|jh (PV.q<|zN (Jt E) gw) zw)<|λ_ _ _ O=>zN (Zf E)<|za (zN (vw E) gw) gv)
theorem WH(E:E0 K mg):d9 P w K mg base 4 "plain_sum" 2 yI:=
 qG E (·.n?) λX E y I=>by refine zc (yf<|zN (qY E) gv) ?_;exact(zk<|zK<|xR (zN (yh E)<|za (PO.v<|qa (vT E) gv) zo)<|zN (yh E)<|za (PO.v<|qa (kE E) gv) zo)
theorem Vw(E:E0 K mg):d9 P w K mg base 12 "count_upon" 2 xM:=
 qG E (·.o?) λX E y I=>zk<|zK<|xR (zN (Vv E) gv)<|zN (WH E) gv
theorem Zi(E:E0 K mg):d9 P w K mg base 4 "room_by_room" 3 xt:=
 qG E (·.p?) λX E y I=>zk<|qI<|qb y (g8.c<|yz y () E.Z6 zx zx)<|λ_ _ _ O=>zN (J8 E) lT
theorem QB(E:E0 K mg):d9 P w K mg base 4 "are_told_apart" 4 xy:=
 qG E (·.q?) λX E y I=>zk<|zK<|OI y (zN (Zf E) lT)<|zN (Zf E) lT
theorem Ad(E:E0 K mg):d9 P w K mg base 5 "apart" 3 KG:=
 qG E (·.r?) λX E I O=>by refine zc (z5<|PO.v<|qa (Zh E)<|za (jn (w6 I () E.Z0 zx) zw) zo) ?_;refine zc (z5<|jh (PO.q<|WB I (jk jR) (λ_ _ _ y=>QM y (vn y jR zx)<|vn y jR zx)<|λ_ _ _ y=>iq y) zw) ?_;refine zc (z5<|jh (PO.q<|WB I (jk jR) (λ_ _ _ y=>k5<|zN (QB E)<|za zx lT)<|λ_ _ _ y=>iq y) zw) ?_;exact(zk<|zK<|jb<|qF<|za xF<|za zx<|za (vn I jR zx)<|za (vn I jR zx) gw)
theorem Ae(E:E0 K mg):d9 P w K mg base 11 "alike" 2 Jd:=
 qG E (·.s?) λX E y I=>by refine zc (yf<|zN (qY E) gv) ?_;refine zc (z5<|zN (Jt E) gw) ?_;refine zc (z5<|zN (Jt E) gw) ?_;refine zc (qX (QM y zI zI) (zk<|zK<|zN (Ad E)<|za (zN (vw E) gw)<|za zI<|za zI zo) jL) ?_;refine zc (z5<|PO.v<|qa (Zi E)<|za zI<|za zI<|za zI zo) ?_;refine zc (z5<|PO.v<|qa (Zi E)<|za zI<|za zI<|za zI zo) ?_;exact(zk<|zK<|jb<|qF<|za xF gv)
theorem oS(E:E0 K mg):d9 P w K mg base 4 "beside" 2 Xp:=
 qG E (·.t?) λX E y I=>by refine zc (yf<|zN (qY E) gv) ?_;exact(zk<|zK<|zN (WN E)<|za zx<|za zx<|za (PO.v<|qb y (g8.c<|yz y () E.Z6 zI zI)<|λ_ _ _ O=>zN (Yr E)<|za zI<|za zI zo) zo)
theorem RK(D:L2.o6 K "law" "law" (top 109) f fd)(E:E0 K mg)(A:E1 P w K mg base CR CL):kA P w K mg base l7 13 f fd ["_law_script"] (p8 K 1 JP):=
 Po (N:=["_law_script","_law_cell_here","_law_p","_law_rooms","_law_ways_here","_law_downs","_law_ups","_law_under","_law_upper","_law_joins_here","_law_one","_law_other","_law_both","_law_known","_law_same","_law_i","_law_j","_law_word"]) D () λX O a Q U Y y I=>by subst O a Q U Y;exact by refine zc (z5 (zN (vU E) (za zx (za zw zo)))) ?_;refine zc (z5 (jh (PO.q (xq (qF (za zw (za zw (za zw (za zw zo))))))) (qu zx zw))) ?_;refine zc (z5 (jn zw (qu (yW zx zw) zw))) ?_;refine zc (z5 (zN (XY E) (za (yW zx zw) gw))) ?_;refine zc (z5 (PO.v (qa (wI E) (za zx (za zw (za (qu (yW zx zw) zw) gw)))))) ?_;refine zc (z5 (PO.v (qa (wI E) (za zx (za zw (za (qu (yW zx zw) zw) gw)))))) ?_;refine zc (z5 (zN (Js E) (za zx (za zw lT)))) ?_;refine zc (z5 (zN (Js E) (za zx (za zw lT)))) ?_;refine zc (z5 (PO.v (qa (XZ E) (za zx (za zw (za zx (za zx (za zx (za zx (za (qu (yW zx zw) zw) zo)))))))))) ?_;refine zc (qX (yb y (qu (yW zx zw) zw) zw) (zk (z5 (PO.v (qa (KR E) (za zx (za zx lT)))))) jL) ?_;refine zc (z5 (zN (wJ E) lT)) ?_;refine zc (z5 (zN (wJ E) lT)) ?_;refine zc (z5 (zN (WL E) (za zx (za zx (za (PO.v (bK y () E.Zc jR)) zo))))) ?_;refine zc (z5 (IR (iH E A) y gw)) ?_;refine zc (z5 om) ?_;refine zc (qE I y (js y () E.Z2 zx) (zk (qE I y (Vn y () E.Z2 zx zx) (zk (qX (QM y (oi y zx (jb (qF gv))) (jn (vn y jR (jb (qF gv))) (vn y jR (jb (qF gv))))) (zk (z5 om)) jL))))) ?_;refine zc (z5 (jh (PV.q (zN (oQ E) (za zx (za zx (za (PO.v (bK y () E.Zc jR)) zo))))) zw)) ?_;refine zc (qX (oq (BS (QM y (XN y zx xF) zx) (nX (oq (bD (yb y (zN (Vw E) gv) zw) (Vh (J3 (k5 zx)))))))) (zk (zK om)) jL) ?_;exact(zk (zK (XN y (XN y (jh (PV.q (zN (Ae E) (za zx (za (zN (oS E) gv) zo)))) zw) xF) zx)))
theorem OU(I:L2.o6 K "__init__" "Arrow.__init__" (Ga (top 80) 0) f fd)(c:tL K C):kA P w K mg base l7 1 f fd ["self","p","table"] (XC C):=
 Gp (k:=0) I () c λX O a Q U Y y=>by subst O a Q U Y;exact eJ (Ca (y.var ()) (y.var ()) rfl)<|J4<|Ca (y.var ()) (y.var ()) rfl
theorem LK(Q:L2.o6 K "forth" "Right.forth" (Ga (top 81) 0) f j)(c:tL K C)(U:d9 P w K mg base 4 "led_on" 3 wj):kA P w K mg base l7 5 f j ["self","base"] (Y6 K C wj):=
 fS (k:=4) Q () c λX Y d Z I O y=>by subst Y d Z I O;obtain⟨e,j,g,b,G,I,a,O⟩:=U.ex;rw[b]at G;exact J4 (Yn (XS G (y.room.mono ()) (y.gl (x:="led_on") ()).1 I a O .nil WC (zZ (eP (y.var ()) rfl) (zZ (eP (y.var ()) rfl) (zZ (y.var ()) j7)))))
theorem LL(Q:L2.o6 K "forth" "Left.forth" (Ga (top 82) 0) f j)(c:tL K C)(U:d9 P w K mg base 4 "led_into" 3 qO):kA P w K mg base l7 5 f j ["self","base"] (Y6 K C qO):=
 fS (k:=4) Q () c λX Y d Z I O y=>by subst Y d Z I O;obtain⟨e,j,g,b,G,I,a,O⟩:=U.ex;rw[b]at G;exact J4 (Yn (XS G (y.room.mono ()) (y.gl (x:="led_into") ()).1 I a O .nil WC (zZ (eP (y.var ()) rfl) (zZ (eP (y.var ()) rfl) (zZ (y.var ()) j7)))))
theorem SE(O:L2.o6 K "arrow_by" "arrow_by" (top 83) f fd)(Q:Mk K CR fI)(U:Mk K CL fI)(Y:kA P w K mg base l7 1 fI U9 ["self","p","table"] (XC CR))(GL:kA P w K mg base l7 1 fI U9 ["self","p","table"] (XC CL))(I:Binds K U9 ["self","p","table"] [])(z:mg "Right" = cz (.ref CR))(j:mg "Left" = cz (.ref CL)):kA P w K mg base l7 3 f fd ["p","way","table"] (Oy CR CL):=
 Pn (k:=2) O () λX Z e a d b y=>by subst Z e a d b;exact J4 (Yn (L2.uU (bH OT (y.var ()) Cc (by with_unfolding_all rfl)) (oN Q Y (y.room.mono ()) (y.gl (x:="Right") ()).1 z I .nil WC (zZ (y.var ()) (zZ (y.var ()) j7))) (oN U GL (y.room.mono ()) (y.gl (x:="Left") ()).1 j I .nil WC (zZ (y.var ()) (zZ (y.var ()) j7)))))
end
end DL
open PySem PySem.W PyProof.Rows
set_option maxRecDepth 100000 in
set_option maxHeartbeats 0 in
theorem PySem.Challenge.cw_barsplit_k49_whole_parted_by_bars_holds : PySem.Challenge.rw_barsplit_k49_whole_parted_by_bars.Holds := by
 refine hd0 ?_
 k_fill
 refine L2.Nm (l:=Uw) (n:=63) (k:=13) (x:="_law_script") (CX:=L2.l7) (sp:=λK=>DL.p8 K 1 DL.JP) rfl () rfl (rfl,by decide,by decide) (λw h Y=>PySem.W.kIn_of Y) ?F ?S ?C
 case S=>exact λK H a ns y zhB hS=>DL.NI hS (DL.OZ ns y)
 case C=>exact λ_ _ _ _ z=>z
 case F=>
  intro w mg fa h I G a1;have b3:DL.GL (L2.rh I) mg "BEYOND_ALL_ARROWS" (.int 5):=by
   dsimp only[L2.rh];refine' DL.RN I G ?a
   (case a=>k_is)
  have b4:DL.GL (L2.rh I) mg "MOST_TOGETHER" (.int 30):=by
   dsimp only[L2.rh];refine' DL.RN I G ?a
   (case a=>k_is)
  have E:DL.E0 (L2.rh I) mg:=by
   constructor
   all_goals first
    |assumption
    |exact PySem.W.mg_none_of I G (by k_is)
    |(dsimp only[L2.rh];refine' DL.RT I G ?a ?l ?c ?k ?b;(case a=>k_is);(case l=>k_is);(case c=>k_is);(case k=>k_is);(case b=>intro _ _ _ _ _ _ us y;first|(obtain⟨_,rfl⟩:=DL.Tc y;rfl)|(obtain⟨_,_,rfl⟩:=DL.SG y;rfl)|(obtain⟨_,_,_,rfl⟩:=DL.Tb y;rfl)|(obtain⟨_,_,_,_,rfl⟩:=DL.Ta y;rfl)|(obtain⟨_,_,_,_,_,rfl⟩:=DL.SZ y;rfl)|(obtain⟨_,_,_,_,_,_,rfl⟩:=DL.SY y;rfl)|(obtain⟨_,_,_,_,_,_,_,rfl⟩:=DL.SW y;rfl)))
  have AR:DL.T3 (L2.rh I) mg (DL.Ga (DL.top 80) 0) (DL.Ga (DL.top 81) 0) (DL.Ga (DL.top 82) 0):=by
   dsimp only[L2.rh];refine' DL.RW I G ?nR ?nL ?iR ?iL ?mR ?mL ?uI ?uR ?uL ?vI ?vR ?vL ?w1 ?w2 ?w3 ?z1 ?z2 ?z3 ?bR ?bL ?gI ?gR ?gL
   (case nR=>k_is)
   (case nL=>k_is)
   (case iR=>k_is)
   (case iL=>k_is)
   (case mR=>k_is)
   (case mL=>k_is)
   (case uI=>k_is)
   (case uR=>k_is)
   (case uL=>k_is)
   (case vI=>k_is)
   (case vR=>k_is)
   (case vL=>k_is)
   (case w1=>k_is)
   (case w2=>k_is)
   (case w3=>k_is)
   (case z1=>k_is)
   (case z2=>k_is)
   (case z3=>k_is)
   (case bR=>kernel_rfl)
   (case bL=>kernel_rfl)
   (case gI=>intro _ _ _ _ _ _ us y;obtain⟨_,_,_,rfl⟩:=DL.Tb y;rfl)
   (case gR=>intro _ _ _ _ _ _ us y;obtain⟨_,_,rfl⟩:=DL.SG y;rfl)
   (case gL=>intro _ _ _ _ _ _ us y;obtain⟨_,_,rfl⟩:=DL.SG y;rfl)
  have a3:DL.eg (L2.rh I) mg "arrow_by" (DL.top 83) ["p","way","table"]:=by
   dsimp only[L2.rh];refine' DL.RT I G ?a ?l ?c ?k ?b
   (case a=>k_is);(case l=>k_is);(case c=>k_is);(case k=>k_is)
   (case b=>intro _ _ _ _ _ _ us y;obtain⟨_,_,_,rfl⟩:=DL.Tb y;rfl)
  obtain⟨f,fd,Fu,hb,hm⟩:=E.u?.ex;have e0:=a1.symm.trans hm;cases e0;refine(fd,λs u=>.of_eq (hb [u] rfl),λbase kb nb=>?_);obtain⟨CR,CL,fI,fR,fL,dI,dR,dL,q1,q2,q3,q4,O,Q,q7,zed,U,ak,al,am,an,ap⟩:=AR.ex;obtain⟨as,ax,Z,b0,b1⟩:=a3.ex;have O1:DL.NW (Uw).prog w (L2.rh I) mg base 3 "arrow_by" CR CL:=(as,ax,DL.SE Z q3 q4 (DL.OU U O) (DL.OU U Q) am q1 q2,b1,Z.kp,.all b0);have Pz:DL.MethAt (Uw).prog w (L2.rh I) mg base 5 CR DL.wj:=(O,fR,dR,q7,DL.LK ak O (DL.LI E),an);have Py:DL.MethAt (Uw).prog w (L2.rh I) mg base 5 CL DL.qO:=(Q,fL,dL,zed,DL.LL al Q (DL.XX E),ap);have A:DL.E1 (Uw).prog w (L2.rh I) mg base CR CL:=(O1,Pz,Py);exact DL.RK Fu E A
