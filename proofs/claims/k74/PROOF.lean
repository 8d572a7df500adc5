import PyProof.Rows.All
import Wide.All
import OpenK.AllK
import Wide.FinOn
import Lean
import PyProof.EqAt
import PyProof.EqKinds
import PyProof.TupleCall
import PySem.Str
import PyProof.ZipIter
import PyProof.IsiBase
import KE.KItemsList
import KE.KIsAll
import OpenK.KOwn
import KE.KSortAsk
import PyProof.StrBlockI
import PyProof.Rows.EqDataRows
import PyProof.Rows.InDataRows
import PyProof.SumWalkG
import PyProof.ConsumeWalk
import PyProof.WalksMore
import KE.KSortTup
import PyProof.ListMulRoad
import PyProof.EnumFor
import PyProof.Rows.EnumRows
import PyProof.StrBlockL
import PyProof.JoinWalk
import PyProof.NsDelKeeps
import KE.KTryDeep
import PyProof.InstStoreFacts
import PyProof.NsCount
import PyProof.ExcClass2
import PyProof.Rows.FStr
import PyProof.StationsW
import PyProof.Rows.Catch
import KE.KRevIter
import PyProof.CollectIter
import PyProof.TupleOfGen
import PyProof.Rows.Tup
import PyProof.Draws
import PyProof.EnumMake
import PyProof.StrWalks
import PyProof.SliceStr2
import PyProof.ListNew
import KE.KDictOf
import PyProof.ListRange
import PyProof.Rows.GenSrcRange
import PyProof.ListCopy
import PyProof.AttrMissHeap
import PyProof.DictWalks
import PyProof.FactsDict
import KE.KSortKey
import PyProof.TableCode
import PyProof.Rows.KernelRfl
import PySem.Challenge.RW_barsplit_k74_whole_ways_seen_from_the_ot
open PySem renaming wpAny_bind → LK,wpAny_pure → LU,wpAny_field → MJ,wpAny_callSpecial?_slot → MK,wpAny_call_entry → MS,wpAny_newObj_type → MZ,wpAny_setField_rec → Ng,builtinLookup_eq_fast → Nt,wpAny_holding → NG,wpAny_seqItems → NN,wpAny_attempt → NP,wpAny_truthy_bool → NW,typeLookup_type → Oa,wpAny_mono → Oh,wpAny_loadPart' → Oj,wpAny_Call_Name_kw → Ot,wpAny_of_eq → OB,isSubtype_type → OC,wpAny_specialOf → OF,codeAny_builtin → OG,wpAny_isInstance → OR,wpAny_rule → OT,wpAny_typeOf → Pf,sizeLine_eq → Pg,mem_of_lookup → Pn,Builtin → Pw,wpAny_updateSeq → E1,plainId_quiet → PR,call_meets → Dg,wpAny_passesOwn → Ry,pushCells_keeps → RA,wpAny_pyIter_tuple → RK,wpAny_newTuple → RO,isSubtype_stop → RP,wpAny_letGo → Sd,codeAny_mono → Ss,wpAny_updateSeq_pair → T7,callType_codes → SE,wpAny_standAt → SM,wpAny_onRaise → SN,wpAny_newList → SO,wpAny_pyIter_list → SS,typeIs_int → SU,concat_meets → SW,wpAny_pyIter_zip → SY,noFill_tuple_add → Ua,entryFor_of_tree → Ta,Addr → dn,Value → dy,Shared → ed,model → eg,Expr → eh,eval → el,sizeLine → fe,Heap → fy,starEach → fA,Pos → g5,World → hG,Scope → hL,Program → il,Stmt → kA,Around → k0,IsPair → lp,Builtin → l6,Obj → mu,Env → n7,compareOp → o4,rawInt → o8,foldedSetIterable → pk,FuncData → q5,Tok → q7,pyNext → rn,IsZip → rq,backTo → r6,cellsFrom → tr,holding → t5,IsEnum → t9,assign → uw,binaryOp → uM,NameKind → u4,ZipApart → u6,mainGlobals → vr,relabel → wh,assignEach → zl,behindInMarks → z3,IsPart → B0,getItem → B9,swapsWith → C5,sysModules → C6,typeLookup → C8,bootBuiltins → Di,pushCells → Dp,Keyword → Dx,bindC → Dz,bindL → DB,cLine → DC,callerA → DD,isTrue → DF,standAt → DM,atKey → DT,valueAt → D4,Meets → D7,firstArgMember → FG,pyIter → F8,setField → G4,truthy → G8,BindsTo → Ig,letOwnedTupleGo → L6,newExc → L7,spliced → M9,strIterType → N1,swapsWithSole → N2,IsEnumOut → O3,PassesOwn → O7,attributeBase → P2,backToKw → P8,lastMarks → S4,newTuple → Tc,ownMembersOf → Ti,preSum → Tp,setItem → Tz,subscripted → TH,swappedStores → TJ,bindArgs → Uc,builtinsNs → Ue,callType_new → Ug,newFunctionEnv → Uu,release → Uw,seqIndex_neg → Ux,seqIndex_of → Uy,seq_tuple_add → Uz,tupleKind → US,typeIs_str → UU,wpAny_Name → U2,wpAny_execs_nil → U3,getattributeRaised → w_,tupleKind_room_in1 → P_,wpAny_assign_Name → R_,wpAny_binaryOp_repeat_ref → S',wpAny_handled → S_,wpAny_isTrue_Compare1 → T_,wpAny_letOwnedTupleGo_enum → U',wpAny_pyNext_enum_endD → U_,wpAny_pyNext_enum_itemD → V',wpAny_sequenceKey → V_
open List renaming range → LL,mem_range → LO,getElem?_eq_getElem → LP,replicate → LQ,getD_eq_getElem?_getD → LS,getElem?_set_ne → LV,getElem?_cons_zero → LX,getElem?_cons_succ → LY,size_toArray → Mb,mem_cons → Mc,map_congr_left → Md,mem_cons_of_mem → Mg,mem_cons_self → Mh,getElem?_eq_some_iff → Mj,mem_map → Mk,length_map → Mm,not_mem_nil → Mn,length_cons → Mo,mem_append_right → Mr,getElem?_set_self → Ms,map_cons → Mu,mem_filter → MA,map_map → MB,length_nil → MG,getElem?_map → MV,getElem?_append_right → MX,mem_of_getElem? → Na,countP_eq_length_filter → Nb,length_range → Nc,length_append → Nf,eq_nil_of_length_eq_zero → Ni,getElem?_append_left → Nk,lookup_cons → Nl,map_append → Nm,nodup_cons → NA,all_eq_true → ND,set_cons_zero → NH,set_cons_succ → NI,ext_getElem? → NK,countP_congr → NR,drop_eq_getElem_cons → NS,range_succ → NT,length_singleton → NU,range_eq_range' → Ob,replicate_succ → Og,mem_singleton → Om,pairwise_iff_getElem → Oq,nil_append → Ox,getElem?_set → Oy,find?_cons → Oz,append_nil → OA,range'_succ → OK,getElem_mem → OL,zip_cons_cons → OP,toArray → OU,mem_append → OV,flatten_cons → Pb,Pairwise → Pc,zip_map' → Py,getElem?_replicate → PB,take_of_length_le → PK,pairwise_lt_range → PL,range' → PM,pairwise_map → PN,length_filter_le → PX,length_take → Rb,drop_length → Rc,getElem_of_mem → Ri,getElem?_range → Rj,forIn_cons → Rl,filter_sublist → Rm,countP_eq_zero → Rn,map_nil → Ru,filter_append → Rv,range_add → Rw,forIn_nil → Rx,reverse_cons → RF,filter_congr → RG,any_cons → RL,all_cons → RM,nodup_range → RR,cons_append → RT,drop_eq_nil_of_le → RW,getElem?_eq_none → Sa,countP_map → Sb,mem_append_left → Si,getElem?_of_mem → Sj,length_reverse → Sn,filterMap_cons → So,map_singleton → Sy,forIn_toArray → Sz,length_eq_countP_add_countP → SD,foldl → SF,append_assoc → SG,any_eq_true → T9
open PySem.W renaming Frag → LM,cellsFrom_some → Px,fnOf → PH,keepIn → Ro,kitOne → RY,codeIn → RZ,methodObj → Su
open PySem.Heap renaming get?_push_of_some → LN,get?_push_size → Ma,lt_size → Me,get?_update_other → Mx,push → MD,size_push → MO,get?_update_self → NB,size_update → OM,SameBut → OW,get?_push_ne → Pd,get?_update_ne → Sq
open Option renaming bind_some → LR,map_some → Mf,some → Nq,isSome_iff_exists → NX,getD_some → OE,map → Sx,some → cq,none → cO
open Nat renaming le_refl → LW,ne_of_lt → Ml,lt_or_ge → Mt,lt_of_lt_of_le → Mv,not_lt_zero → MH,le_add_right → MI,zero_le → MR,zero_add → MT,lt_succ_of_lt → Nd,lt_irrefl → Nh,le_trans → Nv,reduceAdd → Nx,ne_of_gt → NL,add_sub_cancel_left → NM,lt_succ_self → NO,lt_trichotomy → OD,mul_comm → PZ,le_succ → Rp,le_succ_of_le → RI,add_assoc → RQ,min_eq_left → Sg,le_of_lt → Sh,add_zero → SK
open Int renaming mul_emod → LZ,emod_emod → Mp,emod_lt_of_pos → MF,emod_nonneg → MQ,mul_comm → MU,mul_assoc → MW,add_emod → MY,emod_eq_of_lt → Nn,toNat_natCast → NF,sub_emod → NY,emod_eq_emod_iff_emod_sub_eq_zero → Oc,mul_left_comm → Of,mul_zero → xr,one_mul → OH,eq_ofNat_of_zero_le → OI,zero_mul → OX,mul_one → OY,add_zero → OZ,toNat_of_nonneg → Pp,mul_add → Pq,add_mul → RU
open Bool renaming and_eq_true → Mi,false_ne_true → MP,false_eq_true → Nj,or_eq_true → NC,eq_iff_iff → NV,not_eq_true' → Oe,false_and → Pk,true_and → Rg,and_true → RN,true → cM,false → cR
open PySem.Builtin.SmallTypes renaming nextOf → Mq,ownedTupleIsFree → Mz,ownedTupleHandOut → NQ,ownedTupleFields → Rr,newRecord → RV
open PySem.Str renaming ofString → Mw,join → SR
open Ne renaming symm → My
open PyProof.Rows renaming callWith_type1 → MC,slot_tuple_getitem → Ny,listUpdate_at → PU,slot_tupleiter_next → Rz,tupleItemsOf_ → Sf,get?_update_seq → Sr,seqEpoch_at → SH,size_push' → SV,seqObj → g8,IsTup → o7,AllBare → C9,Call_ → Dc,arrOf → E5,IntsAre → I7,envOfC → L0,Subscript_ → Ub,boot_enumerate → Ud,subscriptTail → UE,args_tuple_getitem → n_,args_tupleiter_next → o_,entry_tupleiter_next → t_,listItems_at → D_,subscriptTail_builtinR → N_
open PySem.Obj renaming mapSeq → ME,data_mapFields → T8
open PySem.NameKind renaming free → ML,cell → Ow
open PySem.Value renaming none → MM,ref → Nw,type → OJ
open Option.some renaming inj → MN
open PySem.SeqAt renaming EqAt → Np
open Classical renaming byContradiction → Nr,axiomOfChoice → Ov
open PySem.Builtin.Tuple renaming tupleExact → Nu,tupleIsExact → ON
open Array renaming length_toList → Nz,getElem?_eq_getElem → Oo,getD_eq_getD_getElem? → OS,getElem?_toList → RX
open PySem.F renaming slot_zip_next → NJ,plain_extend_loop → OO,slot_enumerate_next → Pe,args_zip_next_1 → E2,entry_zip_next → Pu,slot_list_getattribute → PD,slot_tuple_mul → Rh,args_tuple_add_2 → Rt,entry_tuple_add → RB,slot_tuple_add → RH,slot_int_rmul → Sl,args_object_init_2 → Sv,args_tuple_mul_2 → SJ,entry_tuple_mul → SQ
open PySem.Builtin.List renaming listExtendWith → NZ,listTooLong → Oi,listSameRef → Pa,listFitsIndex → PY
open Sum renaming inl → Od,inr → SI
open PySem.Around renaming under_plainId → D9
open False renaming elim → Ou
open PySem.Builtin.Slice renaming slicePlaces → OQ,sliceAdjust → Ra
open PySem.Challenge renaming rw_barsplit_k74_whole_ways_seen_from_the_ot → Ph
open PySem.SeqAt.EqAt renaming int_int → Pj
open PySem.PyData renaming depth → Po,eqv → PF,canLay0 → PJ,eqvAll → Sm,canLayAll0 → Sw
open List.Pairwise renaming imp_of_mem → Rf,filter → RD
open PySem.Calls renaming spliced_cons → Rq,spliced_nil → RE
open ForInStep renaming yield → RJ
local macro_rules | `(⋯) => `(by first | decide +kernel | omega | simp)
set_option autoImplicit true
noncomputable section
set_option Elab.async false
set_option linter.all false
set_option maxRecDepth 100000
set_option maxHeartbeats 4000000
abbrev EQ:=PySem.Value->PySem.Shared->Prop
abbrev UQ:=List (PySem.Addr×PySem.Obj)
abbrev UW:=Nat->Nat->Nat->Int
abbrev UV:=Nat->Nat->Int
abbrev UK:=Nat->Bool
abbrev UX:=Nat->Nat
abbrev UZ:=PySem.Str->Option PySem.Value
theorem UJ{c:Prop}{h:Decidable c}(z:c){α}{a b:α}:ite c a b=a:=if_pos z
theorem UY{c:Prop}{h:Decidable c}(z:¬c){α}{a b:α}:ite c a b=b:=if_neg z
namespace L2
open PySem PySem.Spec PyProof.Rows
abbrev Key:=Sum Int Str
noncomputable def cN:Key->dy->Bool
 | .inl k,v=>Value.isInt k v
 | .inr x,v=>Value.isStrOf x v
noncomputable def Lf(w:hG):Key->Int
 | .inl k=>hashInt k
 | .inr x=>hashStr w x
theorem qr : ∀{k:Key} {v:dy},cN k v=cM->(∃i t,k=Od i/\v=Value.int i t)\/(∃x t,k=SI x/\v=Value.str x t)
 | .inl i,v,h=>by obtain⟨t,e⟩:=Value.isInt_shape (k:=i) (v:=v) h;exact .inl ⟨i,t,rfl,e⟩
 | .inr x,v,h=>by obtain⟨t,e⟩:=Value.isStrOf_shape (x:=x) (v:=v) h;exact .inr ⟨x,t,rfl,e⟩
theorem gX(i:Int)(t:q7):cN (.inl i) (.int i t)=cM:=by simp[cN,Value.isInt]
theorem gW(x:Str)(t:q7):cN (.inr x) (.str x t)=cM:=by simp[cN,Value.isStrOf]
theorem CD(a b:Int):decide ((Od a:Key)=Od b)=(a==b):=by
 by_cases e:a=b
 ·subst e;simp
 ·have h : ¬(Od a:Key)=Od b:=λq=>e (Od.inj q)
  rw[decide_eq_false h];exact(beq_eq_false_iff_ne.mpr e).symm
theorem CA(a b:Str):decide ((SI a:Key)=SI b)=decide (a=b):=by
 by_cases e:a=b
 ·subst e;simp
 ·have h : ¬(SI a:Key)=SI b:=λq=>e (SI.inj q)
  rw[decide_eq_false h,decide_eq_false e]
theorem CC(a:Int)(b:Str):decide ((Od a:Key)=SI b)=cR:=decide_eq_false<|λq=>nomatch q
theorem CB(a:Str)(b:Int):decide ((SI a:Key)=Od b)=cR:=decide_eq_false<|λq=>nomatch q
noncomputable def xC(prog:il)(w:hG):PySem.KeyKind prog w Key where
 is:=cN
 hash:=Lf w
 inj:=λv a b ha O=>by
  rcases qr ha with⟨i,t,rfl,rfl⟩ | ⟨x,t,rfl,rfl⟩
  ·rcases qr O with⟨j,u,rfl,e⟩ | ⟨y,u,rfl,e⟩
   ·injection e with e1 _;rw[e1]
   ·exact nomatch e
  ·rcases qr O with⟨j,u,rfl,e⟩ | ⟨y,u,rfl,e⟩
   ·exact nomatch e
   ·injection e with e1 _;rw[e1]
 byValue:=λk v h=>by rcases qr h with⟨i,t,rfl,rfl⟩ | ⟨x,t,rfl,rfl⟩<;>rfl
 pyHash:=λI h=>by
  rcases qr I with⟨i,t,rfl,rfl⟩ | ⟨x,t,rfl,rfl⟩
  ·exact wpAny_pyHash_int h
  ·exact wpAny_pyHash_str h
 eqBool:=λQ I h=>by
  rcases qr Q with⟨i,t,rfl,rfl⟩ | ⟨x,t,rfl,rfl⟩
  ·rcases qr I with⟨j,u,rfl,rfl⟩ | ⟨y,u,rfl,rfl⟩
   ·rw[CD]at h;exact wpAny_eqBool_int h
   ·rw[CC]at h;exact Np.int_str i t y u _ _ _ _ h
  ·rcases qr I with⟨j,u,rfl,rfl⟩ | ⟨y,u,rfl,rfl⟩
   ·rw[CB]at h;exact Np.str_int x t j u _ _ _ _ h
   ·rw[CA]at h;exact wpAny_eqBool_str h
 «strs» :=λk x t v h=>by
  rcases qr h with⟨i,u,rfl,e⟩ | ⟨y,u,rfl,e⟩
  ·exact nomatch e
  ·injection e with e1 _
   subst e1;cases v<;>rfl
theorem Wb(prog:il)(w:hG)(i:Int)(t:q7):(xC prog w).is (.inl i) (.int i t)=cM:=gX i t
theorem Wa(prog:il)(w:hG)(x:Str)(t:q7):(xC prog w).is (.inr x) (.str x t)=cM:=gW x t
inductive V where
 | ez | bl (b:Bool) | int (i:Int) | str (x:Str) | E6 (b:Array UInt8) | R7 (b:UInt64) | ref (a:dn) | ty (n:String)
 deriving DecidableEq
noncomputable def RelV:V->dy->Prop
 | .ez,u=>u=MM
 | .bl b,u=>u=Value.bool b
 | .int i,u=>∃t,u=Value.int i t
 | .str x,u=>∃t,u=Value.str x t
 | .E6 b,u=>∃t,u=Value.bytes b t
 | .R7 b,u=>∃t,u=Value.float b t
 | .ref a,u=>u=Nw a
 | .ty n,u=>u=OJ n
abbrev eK:List V->List dy->Prop:=Paired RelV
theorem eK.length(r:eK xs us):xs.length=us.length:=Paired.length r
theorem eK.get : ∀{xs:List V} {us:List dy} {i:Nat} {x:V},eK xs us->xs[i]? = cq x->∃u,us[i]? = cq u/\RelV x u
 | _,_,_,_,.nil,e=>by simp at e
 | _,_,0,_,.cons r _,e=>by simp at e;subst e;exact⟨_,rfl,r⟩
 | _,_,i+1,x,.cons _ t,e=>by obtain⟨u,a,b⟩:=eK.get (i:=i) (x:=x) t (by simpa using e);exact⟨u,by simpa using a,b⟩
theorem eK.set(r:RelV x u) : ∀{xs:List V} {us:List dy} (i:Nat),eK xs us->eK (xs.set i x) (us.set i u)
 | _,_,_,.nil=> .nil
 | _,_,0,.cons _ t=> .cons r t
 | _,_,i+1,.cons q t=> .cons q (eK.set r i t)
theorem eK.append : ∀{xs ys:List V} {us ws:List dy},eK xs us->eK ys ws->eK (xs++ys) (us++ws)
 | _,_,_,_,.nil,s=>s
 | _,_,_,_,.cons r t,s=> .cons r (eK.append t s)
theorem eK.take : ∀{xs:List V} {us:List dy} (n:Nat),eK xs us->eK (xs.take n) (us.take n)
 | _,_,0,_=> .nil
 | _,_,_+1,.nil=> .nil
 | _,_,n+1,.cons r t=> .cons r (eK.take n t)
theorem eK.drop : ∀{xs:List V} {us:List dy} (n:Nat),eK xs us->eK (xs.drop n) (us.drop n)
 | _,_,0,r=>r
 | _,_,_+1,.nil=> .nil
 | _,_,n+1,.cons _ t=>eK.drop n t
noncomputable def yg:Option V->Option dy->Prop
 | some v,cq u=>RelV v u
 | none,cO=>True
 | _,_=>False
noncomputable def KV{C:Type}:List (C×V)->List (C×dy)->Prop:=Paired λ(p:C×V) (q:C×dy)=>p.1=q.1/\RelV p.2 q.2
noncomputable def kV:Key->V
 | .inl i=> .int i
 | .inr x=> .str x
inductive HO where
 | lst (xs:List V)
 | tup (xs:List V)
 | dK (m9:List (Key×V)) | dT (m9:List (List Key×V))
 | set (S:Int->Bool) (n:Nat)
 | ins (C dx:dn) (fs:List (Str×V))
 | own (x:dn)
 | xd (fs:List (Str×V))
 | met (f x:dn)
 | l0 (lo hi:Int)
 | A1 (o:mu) (u:HO)
 | DN (ps:Array dy)
 | ext (φ:fy->Prop)
abbrev Hp:=dn->Option HO
noncomputable def upd(H:Hp)(a:dn)(o:HO):Hp:=λb=>if b=a then cq o else H b
theorem zJ:upd H a o a=cq o:=by unfold upd;rw[UJ rfl]
theorem zG(h:b≠a):upd H a o b=H b:=by unfold upd;rw[UY h]
theorem Jn{H:Hp}{a:dn}{o u:HO}:upd (upd H a o) a u=upd H a u:=by funext b;unfold upd;split<;>rfl
theorem qk{H:Hp}{a b:dn}{o:HO}(h:H a=cq o)(h':H b=cO):a≠b:=by intro e;subst e;rw[h]at h';cases h'
noncomputable def uf(h:fy)(a:dn)(items:Array dy):Prop:=∃o,h.get? a=cq o/\(o.cls,o.dict)=(OJ "tuple",cO)/\∃n,o.data = .seq items n
theorem uf.new(h:fy)(items:Array dy):uf (h.push {cls:= .type "tuple",data:= .seq items}) h.objs.size items:=⟨_,Ma _ rfl,rfl,_,rfl⟩
theorem uf.tup(x:uf h a items):o7 h a items:=let ⟨o,e,c,r⟩:=x;⟨o,e,(Prod.mk.inj c).1,r⟩
section
variable(P:il)(w:hG)
noncomputable def m3(H:Hp)(h:fy)(a:dn):HO->Prop
 | .lst e=>e.length<=fe/\∃(b:List dy) (n:Nat),eK e b/\h.get? a=cq {cls:= .type "list",data:= .seq b.toArray n}
 | .tup e=>e.length<=fe/\∃b:List dy,eK e b/\uf h a b.toArray
 | .dK d=>d.length<=fe/\(a==C6)=cR/\∃m,KV d m/\h.DictOf (xC P w) a m
 | .dT d=>d.length<=fe/\(a==C6)=cR/\∃e:List (List Key×dn×dy),
  Paired (λ(p:List Key×V) (q:List Key×dn×dy)=>p.1=q.1/\H q.2.1=cq (.tup<|p.1.map kV)/\RelV p.2 q.2.2) d e/\
  ∃o j O,h.get? a=cq o/\o.ExactDict/\o.data = .dict j O/\j.toList=e.map (entryOfKey<|tupleKind<|xC P w)/\(e.map (·.1)).Nodup
 | .set S n=>h.SetOf (intKind P w) a S n
 | .ins C g fs=>H g=cq (.own a)/\fs.length<=1000/\g≠a/\h.get? a=cq (PySem.W.instObj C g)/\
  ∃I,h.Ns1 g I/\(∀f,yg (fs.lookup f)<|I f)/\PySem.Within I (fs.map (·.1))
 | .own _=>∃o,h.get? a=cq o
 | .xd fs=>∃I,h.Ns1 a I/\∀f,yg (fs.lookup f)<|I f
 | .l0 lo r=>∃t u v,h.get? a=cq {cls:= .type "range",data:= .fields #[.int lo t,.int r u,.int 1 v]}
 | .A1 o u=>h.get? a=cq o/\m3 H h a u
 | .DN s=>h.get? a=cq {cls:= .none,data:= .fields s}
 | .met f x=>h.get? a=cq (Su (.ref f)<|.ref x)
 | .ext i=>i h/\(∃o,h.get? a=cq o)/\∀k l:fy,i k->(∀o,k.get? a=cq o->l.get? a=cq o)->i l
noncomputable def l7(H:Hp)(h:fy):Prop:=∀a o,H a=cq o->m3 P w H h a o
end
section
variable{P:il}{w:hG}{H H':Hp}{h h':fy}{a:dn}{o:HO}
theorem m3.lt(x:m3 P w H h a o):a<h.objs.size:=by
 cases o with
 | lst d=>obtain⟨_,_,_,_,e⟩:=x;exact Me e
 | tup d=>obtain⟨_,_,_,p⟩:=x;exact p.tup.lt
 | dK b=>obtain⟨_,_,_,_,o,_,_,e,_⟩:=x;exact Me e
 | dT b=>obtain⟨_,_,_,_,o,_,_,e,_⟩:=x;exact Me e
 | set S n=>obtain⟨o,_,_,_,e,_⟩:=x;exact Me e
 | ins C g fs=>obtain⟨_,_,_,e,_⟩:=x;exact Me e
 | own y=>obtain⟨_,e⟩:=x;exact Me e
 | xd fs=>obtain⟨_,⟨_,_,_,e,_⟩,_⟩:=x;exact Me e
 | l0 lo i=>obtain⟨_,_,_,e⟩:=x;exact Me e
 | A1 I u=>obtain⟨e,_⟩:=x;exact Me e
 | DN j=>exact Me (show h.get? a=cq _ from x)
 | met f y=>exact Me (show h.get? a=cq _ from x)
 | ext k=>obtain⟨_,⟨_,e⟩,_⟩:=x;exact Me e
theorem Paired.Ut : ∀{I:List α} {O:List β},Paired F I O->(∀a b,F a b->G a b)->Paired G I O
 | _,_,.nil,_=> .nil
 | _,_,.cons r t,f=> .cons (f _ _ r) (Paired.Ut t f)
theorem m3.Dq(x:m3 P w H h a o)(k : ∀b u,(b=a\/H b=cq (.own a))->h.get? b=cq u->h'.get? b=cq u)
 (U : ∀b,H b=cq (.own a)->H' b=cq (.own a)) (Y : ∀b xs,H b=cq (.tup xs)->H' b=cq (.tup xs)):m3 P w H' h' a o:=by
 induction o with
 | lst xs=>obtain⟨z,i,n,r,e⟩:=x;exact⟨z,i,n,r,k _ _ (.inl rfl) e⟩
 | tup xs=>obtain⟨z,i,r,I,e,c⟩:=x;exact⟨z,i,r,I,k _ _ (.inl rfl) e,c⟩
 | dK j=>obtain⟨z,y,E,r,I,g,O,e,c⟩:=x;exact⟨z,y,E,r,I,g,O,k _ _ (.inl rfl) e,c⟩
 | dT j=>
  obtain⟨z,y,xs,r,I,g,O,e,c⟩:=x;exact⟨z,y,xs,Paired.Ut r λp q z=>⟨z.1,Y _ _ z.2.1,z.2.2⟩,I,g,O,k _ _ (.inl rfl) e,c⟩
 | set S n=>obtain⟨I,g,O,t,e,c⟩:=x;exact⟨I,g,O,t,k _ _ (.inl rfl) e,c⟩
 | ins C F fs=>
  obtain⟨d,z,B,e,Q,⟨l,g,O,s,c⟩,r⟩:=x;exact⟨U _ d,z,B,k _ _ (.inl rfl) e,Q,⟨l,g,O,k _ _ (.inr d) s,c⟩,r⟩
 | own y=>obtain⟨I,e⟩:=x;exact⟨I,k _ _ (.inl rfl) e⟩
 | xd fs=>obtain⟨Q,⟨l,g,O,e,c⟩,r⟩:=x;exact⟨Q,⟨l,g,O,k _ _ (.inl rfl) e,c⟩,r⟩
 | l0 lo G=>obtain⟨t,u,v,e⟩:=x;exact⟨t,u,v,k _ _ (.inl rfl) e⟩
 | A1 I u A=>obtain⟨e,q⟩:=x;exact⟨k _ _ (.inl rfl) e,A q⟩
 | DN m=>
  have e:h.get? a=cq {cls:= .none,data:= .fields m}:=x;show h'.get? a=cq {cls:= .none,data:= .fields m};exact k a _ (.inl rfl) e
 | met f y=>
  have e:h.get? a=cq (Su (.ref f)<|.ref y):=x;show h'.get? a=cq (Su (.ref f)<|.ref y);exact k a _ (.inl rfl) e
 | ext J=>obtain⟨p,⟨o,e⟩,st⟩:=x;exact⟨st _ _ p λo q=>k _ _ (.inl rfl) q,⟨o,k _ _ (.inl rfl) e⟩,st⟩
theorem l7.lt(x:l7 P w H h)(e:H a=cq o):a<h.objs.size:=(x a o e).lt
theorem l7.fresh(x:l7 P w H h)(e:h.objs.size<=a):H a=cO:=by
 cases q:H a with
 | none=>rfl
 | some u=>exact absurd (Mv (x.lt q) e)<|Nh _
theorem l7.kept(x:l7 P w H h)(k : ∀b u,h.get? b=cq u->h'.get? b=cq u):l7 P w H h':=λa o e=>
 (x a o e).Dq (λb u _ q=>k b u q) (λ_ q=>q) λ_ _ q=>q
theorem l7.laid(x:l7 P w H h)(k : ∀b u,h.get? b=cq u->h'.get? b=cq u)(Q:h.objs.size<=a)(new:m3 P w (upd H a o) h' a o):l7 P w (upd H a o) h':=λb u e=>by
 have I:=x.fresh Q;by_cases O:b=a
 ·subst O;rw[zJ]at e;cases e;exact new
 ·rw[zG O]at e
  exact(x b u e).Dq (λc v _ q=>k c v q) (λc q=>by rw[zG (qk q I)];exact q) λc d q=>by rw[zG (qk q I)];exact q
end
noncomputable def Rd(H:Hp)(a:dn)(u:HO):Prop:=H a=cq u\/∃o,H a=cq (.A1 o u)
theorem Rd.ok(r:Rd H a u)(x:l7 P w H h):m3 P w H h a u:=by
 rcases r with r | ⟨o,r⟩
 ·exact x a u r
 ·obtain⟨_,q⟩:=x a _ r
  exact q
noncomputable def D8:Option HO->Prop
 | some (.lst _)=>True
 | some (.dK _)=>True
 | some (.dT _)=>True
 | some (.set _ _)=>True
 | some (.ins _ _ _)=>True
 | some (.ext _)=>True
 | _=>False
section
variable{P:il}{w:hG}{H:Hp}{h h':fy}{x e:dn}{o':HO}
theorem l7.write(ok:l7 P w H h)(I:D8 (H x))(Y:e=x\/H e=cq (.own x))(k : ∀b u,b≠e->h.get? b=cq u->h'.get? b=cq u)(C : ∃u,h'.get? e=cq u)
 (new:m3 P w (upd H x o') h' x o'):l7 P w (upd H x o') h':=λb u q=>by
 have d : ∀c y,H c=cq (.own y)->c≠x:=λc y r z=>by subst z;rw[r]at I;exact I
 have g : ∀c a,H c=cq (.tup a)->c≠x:=λc a r z=>by subst z;rw[r]at I;exact I
 by_cases O:b=x
 ·subst O;rw[zJ]at q;cases q;exact new
 ·rw[zG O]at q
  by_cases Q:b=e
  ·have f:H b=cq (.own x):=by
    rcases Y with z | z
    ·exact absurd (Q.trans z) O
    ·rw[Q];exact z
   rw[q]at f;cases f;obtain⟨v,i⟩:=C;exact⟨v,by rw[Q];exact i⟩
  ·refine(ok b u q).Dq (λc v U r=>k c v ?_ r) (λc r=>by rw[zG (d c b r)];exact r) λc a r=>by rw[zG (g c a r)];exact r
   rcases U with rfl | U
   ·exact Q
   ·rintro rfl
    rcases Y with z | z
    ·exact d c b U z
    ·rw[U]at z;cases z;exact O rfl
end
structure Un(fs ex:List dn)(H H':Hp)(h h':fy):Prop where
 keep : ∀b o,h.get? b=cq o->H b=cO->b∉fs->b∉ex->h'.get? b=cq o
 slot : ∀b o,h.get? b=cq o->H b=cO->b∈fs->b∉ex->∃sl,h'.get? b=cq {o with slots:=sl}
 free : ∀b o,h.get? b=cq o->H b=cO->b∉ex->H' b=cO
 there : ∀b o,h.get? b=cq o->b∉ex->∃o',h'.get? b=cq o'
 C7 : ∀b xs,H b=cq (.tup xs)->H' b=cq (.tup xs)
 Dl : ∀b o u,H b=cq (.A1 o u)->H' b=cq (.A1 o u)
 DO : ∀b ps,H b=cq (.DN ps)->∃more,H' b=cq (.DN<|ps++more)
section
variable{fs Y_ ex X_:List dn}{H H1 H2:Hp}{h h1 h2 h':fy}{a x e:dn}{o:HO}
theorem Un.any(u:Un fs ex H H1 h h1)(q:h.get? b=cq ob)(n:H b=cO)(hx:b∉ex) : ∃C,h1.get? b=cq {ob with slots:=C}:=by
 by_cases I:b∈fs
 ·exact u.slot b ob q n I hx
 ·exact⟨ob.slots,u.keep b ob q n I hx⟩
theorem Un.kept(k : ∀b u,h.get? b=cq u->h'.get? b=cq u):Un fs ex H H h h':=
 ⟨λb I q _ _ _=>k b I q,λb I q _ _ _=>⟨I.slots,k b I q⟩,λ_ _ _ n _=>n,λb I q _=>⟨I,k b I q⟩,λ_ _ q=>q,λ_ _ _ q=>q,λ_ a q=>⟨#[],by rw[q];simp⟩⟩
theorem Un.refl:Un fs ex H H h h:=Un.kept λ_ _ q=>q
theorem Un.laid(k : ∀b u,h.get? b=cq u->h'.get? b=cq u)(O:h.objs.size<=a)(I:H a=cO):Un fs ex H (upd H a o) h h' where
 keep:=λb u q _ _ _=>k b u q
 slot:=λb u q _ _ _=>⟨u.slots,k b u q⟩
 free:=λb u q n _=>by rw[zG (Ml<|Mv (Me q) O)];exact n
 there:=λb u q _=>⟨u,k b u q⟩
 C7:=λb xs q=>by rw[zG (qk q I)];exact q
 Dl:=λb u xs q=>by rw[zG (qk q I)];exact q
 DO:=λb ps q=>⟨#[],by rw[zG (qk q I),q];simp⟩
theorem Un.write(I:D8 (H x))(Y:e=x\/H e=cq (.own x))(k : ∀b u,b≠e->h.get? b=cq u->h'.get? b=cq u)(C : ∃u,h'.get? e=cq u):Un fs ex H (upd H x o) h h':=by
 have a : ∀b,H b=cO->b≠x:=λb n z=>by subst z;rw[n]at I;exact I
 have Q : ∀b,H b=cO->b≠e:=λb n z=>by
  subst z;rcases Y with r | r
  ·exact a b n r
  ·rw[n]at r;cases r
 have O : ∀b u,H b=cq u->¬D8 (cq u)->b≠x:=λb u q nm z=>by subst z;rw[q]at I;exact nm I
 refine⟨λb u q n _ _=>k b u (Q b n) q,λb u q n _ _=>⟨u.slots,k b u (Q b n) q⟩,λb u q n _=>by rw[zG (a b n)];exact n,λb u q _=>?_,
  λb d q=>by rw[zG (O b _ q λz=>z)];exact q,λb u d q=>by rw[zG (O b _ q λz=>z)];exact q,λb f q=>⟨#[],by rw[zG (O b _ q λz=>z),q];simp⟩⟩
 by_cases U:b=e
 ·subst U;exact C
 ·exact⟨u,k b u U q⟩
end
noncomputable def N8(h:fy)(H:Hp):List dn:=(LL h.objs.size).filter λa=>(H a).isSome
noncomputable def oE(h:fy)(H:Hp):fy:=PySem.W.hideAll h<|N8 h H
theorem ic(h:fy)(H:Hp):(oE h H).objs.size=h.objs.size:=PySem.W.hideAll_size _ _
theorem oC(e:h.get? b=cq o)(n:H b=cO):(oE h H).get? b=cq o:=
 PySem.W.hideAll_get _ e λI=>by have q:(H b).isSome=cM:=(MA.mp I).2;rw[n]at q;simp at q
theorem uq(e:(oE h H).get? b=cq o):h.get? b=cq o/\H b=cO:=by
 have I:h.get? b=cq o:=PySem.W.of_hideAll (N8 h H) e;refine⟨I,?_⟩;cases q:H b with
 | none=>rfl
 | some x=>
  have O:b∈N8 h H:=MA.mpr ⟨LO.mpr<|Me I,by simp[q]⟩;have z:(oE h H).get? b=cO:=PySem.W.hideAll_none (N8 h H) O;rw[z]at e;cases e
noncomputable def Ar(g h:fy)(L:dn):List (dn×mu):=(LL h.objs.size).filterMap λa=>if a=L\/(g.get? a).isSome=cM then cO else (h.get? a).map λo=>(a,o)
noncomputable def k6(g h:fy)(L d:dn):List (dn×mu):=(Ar g h L).filter λp=>decide<|p.1≠d
structure Mod(K:LM)(mg:UZ)(base:fy):Prop where
 S3:K.In base
 glob:base.Ns vr mg
 blt : ∃mb,base.Ns Ue mb/\∀x:Str,x ≠ "__name__"->mb x=Di x
 nolimit:base.NoLimit
structure Cx where
 prog:il
 w:hG
 K:LM
 mg:Str->Option dy
 base:fy
 A:k0
 N:List Str
 n5:ed
 D6:Hp
 env:n7
 outer:List n7
 stack:List n7
 ex:List dn
 fn:Str->Bool
 calm:Bool
 pn:List (dn×mu)
 xe:dy->ed->Prop
noncomputable def vl(l:List n7):List dn:=l.filterMap (·.frame)
abbrev Cx.fs(X:Cx):List dn:=vl X.outer
noncomputable def Pt(C:hL)(x:Str):Prop:=C.names.lookup x=cq .local\/C.names.lookup x=cq .cell\/C.names.lookup x=cq .free
noncomputable def Loc(C:hL)(x:Str):Prop:=C.names.lookup x=cq .local\/C.names.lookup x=cq .cell
noncomputable def Lw(env:n7)(h:fy)(m:UZ)(x:Str)(u:dy):Prop:=
 (env.kindOf x=cq .local/\m x=cq u)\/((env.kindOf x=cq .cell\/env.kindOf x=cq .free)/\∃c,env.cells.lookup x=cq c/\h.IsCell c (cq u))
structure Cx.Ok(X:Cx):Prop where
 mod:Mod X.K X.mg X.base
 kind:X.env.scope.kind = .function
 glob:X.env.globals=vr
 blt:X.env.builtins=Ue
 above:X.n5.heap.objs.size<=X.env.locals
 inj : ∀x y c,X.env.cells.lookup x=cq c->X.env.cells.lookup y=cq c->x=y
 has : ∀x,(X.env.kindOf x=cq .cell\/X.env.kindOf x=cq .free)->∃c,X.env.cells.lookup x=cq c
 E7 : ∀x c,X.fn x=cM->X.env.cells.lookup x=cq c->X.n5.heap.objs.size<=c
 hd:X.calm=cM->X.A.handled=cO
 frames:X.A.frames=cq X.stack
 N0:X.stack=X.outer\/(X.stack=X.env::X.outer/\X.env.frame=cq X.env.locals)
 L1 : ∀b∈X.ex,b≠X.env.locals/\∀x c,X.env.cells.lookup x=cq c->c≠b
 bs : ∀b o,X.base.get? b=cq o->X.n5.heap.get? b=cq o/\X.D6 b=cO
 z4:X.base.objs.size<=X.n5.heap.objs.size
 F2 : ∀b o,X.base.get? b=cq o->b∉X.ex
 E9 : ∀b∈X.ex,b∉X.fs
 t4:X.n5.heap.FunFrames X.base X.outer
 Dk : ∀b∈X.fs,X.D6 b=cO
structure Inv(X:Cx)(pins:UQ)(σ:List (Option V))(H:Hp)(s:ed):Prop where
 ok:X.Ok
 os:s.os=X.n5.os
 bare:C9 s.gens
 base:Un X.fs X.ex X.D6 H X.n5.heap s.heap
 loc : ∃m,s.heap.Ns X.env.locals m/\∀(i:Nat) (x:Str) (v:V),X.N[i]? = cq x->σ[i]? = cq (cq v)->Pt X.env.scope x->∃u,RelV v u/\Lw X.env s.heap m x u
 cell : ∀x c,X.env.cells.lookup x=cq c->∃v,s.heap.IsCell c v
 free:H X.env.locals=cO
 u9 : ∀x c,X.env.cells.lookup x=cq c->H c=cO
 pin : ∀p∈X.pn++pins,s.heap.get? p.1=cq p.2/\H p.1=cO/\p.1≠X.env.locals/\p.1∉X.fs/\∀v,p.2.data ≠ .cell v
 f6:l7 X.prog X.w H s.heap
 len:σ.length=X.N.length
section
variable{X:Cx}{pins:UQ}{σ:List (Option V)}{H H':Hp}{s:ed}{h':fy}
theorem Cx.Ok.F'(ok:X.Ok)(e:X.base.get? b=cq o):b∉X.fs:=λI=>by have:=(ok.t4.mem I).1;rw[e]at this;cases this
theorem Inv.bs(I:Inv X pins σ H s) : ∀b o,X.base.get? b=cq o->s.heap.get? b=cq o/\H b=cO:=λb o e=>
 ⟨I.base.keep b o (I.ok.bs b o e).1 (I.ok.bs b o e).2 (I.ok.F' e) (I.ok.F2 b o e),I.base.free b o (I.ok.bs b o e).1 (I.ok.bs b o e).2 (I.ok.F2 b o e)⟩
theorem Inv.bk(I:Inv X pins σ H s) : ∀b o,X.base.get? b=cq o->s.heap.get? b=cq o:=λb o e=>(I.bs b o e).1
theorem Inv.mod(I:Inv X pins σ H s):Mod X.K X.mg X.base:=I.ok.mod
theorem Inv.DH(I:Inv X pins σ H s):X.K.In s.heap:=I.ok.mod.S3.keeps I.bk
theorem Inv.lt(I:Inv X pins σ H s):X.env.locals<s.heap.objs.size:=let ⟨_,O,_⟩:=I.loc;O.lt
theorem Inv.sz(I:Inv X pins σ H s):X.n5.heap.objs.size<=s.heap.objs.size:=Nv I.ok.above<|Sh I.lt
theorem Inv.G_(I:Inv X pins σ H s)(h:s.heap.objs.size<=a):a∉X.fs:=λO=>by obtain⟨_,o,Q,_⟩:=I.ok.t4.mem O;exact absurd (Mv (Me Q)<|Nv I.sz h)<|Nh _
theorem Inv.DE(I:Inv X pins σ H s) : ∀x c,X.env.cells.lookup x=cq c->c≠X.env.locals:=λx c e z=>by obtain⟨v,o,O,a⟩:=I.cell x c e;obtain⟨m,⟨d,b,Y,Q,U,_⟩,_⟩:=I.loc;rw[z,Q]at O;cases O;rw[U]at a;cases a
theorem Inv.t4(I:Inv X pins σ H s):s.heap.FunFrames X.base X.outer:=by
 have all : ∀(l:List n7),(∀b∈vl l,b∈X.fs)->X.n5.heap.FunFrames X.base l->s.heap.FunFrames X.base l:=by
  intro l
  induction l with
  | nil=>intro _ _;trivial
  | cons d r Y=>
   intro a h;obtain⟨g,⟨L,o,O,i,j,f⟩,k⟩:=h;have Q:L∈X.fs:=a L (by unfold vl;rw[So,O];exact Mh);obtain⟨m,e⟩:=I.base.slot L o j (I.ok.Dk L Q) Q λz=>I.ok.E9 L z Q;exact⟨g,⟨L,_,O,i,e,f⟩,Y (λb U=>a b<|by unfold vl;rw[So,O];exact Mg _ U) k⟩
 exact all X.outer (λ_ U=>U) I.ok.t4
theorem Inv.stack(I:Inv X pins σ H s):s.heap.FunFrames X.base X.stack:=by
 rcases I.ok.N0 with e | ⟨e,O⟩
 ·rw[e];exact I.t4
 ·rw[e]
  obtain⟨m,Q,_⟩:=I.loc;refine .cons (by rw[I.ok.kind];decide) O Q ?_ I.t4;exact Heap.get?_none_of_le<|Nv I.ok.z4 I.ok.above
theorem Inv.TF(I:Inv X pins σ H s) : ∀b∈vl X.stack,b∈X.env.locals::X.fs:=λb O=>by
 rcases I.ok.N0 with e | ⟨e,Q⟩
 ·rw[e]at O;exact Mg _ O
 ·rw[e]at O
  unfold vl at O;rw[So,Q]at O;exact O
theorem Inv.UD(I:Inv X pins σ H s) : ∀b∈vl X.stack,H b=cO:=λb O=>by
 rcases Mc.mp (I.TF b O)with e | O
 ·rw[e];exact I.free
 ·obtain⟨_,o,Q,_⟩:=I.ok.t4.mem O
  exact I.base.free b o Q (I.ok.Dk b O) λz=>I.ok.E9 b z O
theorem Inv.step{g':Array GenState}{t':Nat}{d':Drawn}{ch:List dn}(I:Inv X pins σ H s)
 (U : ∀b∈ch,(b∈X.ex\/X.n5.heap.objs.size<=b)/\b≠X.env.locals/\(∀x c,X.env.cells.lookup x=cq c->c≠b)/\∀p∈X.pn++pins,p.1≠b)
 (keep : ∀b o,b≠X.env.locals->b∉X.fs->b∉ch->s.heap.get? b=cq o->H b=cO->h'.get? b=cq o)
 (C : ∀b o,b≠X.env.locals->b∈X.fs->b∉ch->s.heap.get? b=cq o->H b=cO->∃sl,h'.get? b=cq {o with slots:=sl}) (free : ∀b o,b∉ch->s.heap.get? b=cq o->H b=cO->H' b=cO)
 (J : ∀b o,b∉ch->s.heap.get? b=cq o->∃S,h'.get? b=cq S)
 (C7 : ∀b xs,H b=cq (.tup xs)->H' b=cq (.tup xs)) (L : ∀b o u,H b=cq (.A1 o u)->H' b=cq (.A1 o u)) (Z : ∀b ps,H b=cq (.DN ps)->∃more,H' b=cq (.DN<|ps++more))
 (ns : ∀m,s.heap.Ns X.env.locals m->h'.Ns X.env.locals m) (f6:l7 X.prog X.w H' h') (hg:C9 g') :
 Inv X pins σ H' {s with heap:=h',gens:=g',drawn:=d',toks:=t'}:=by
 have t : ∀b o,X.n5.heap.get? b=cq o->b≠X.env.locals:=λb o e=>Ml<|Mv (Me e) I.ok.above;have h : ∀b o,X.n5.heap.get? b=cq o->b∉X.ex->b∉ch:=λb o e a O=>by
  rcases (U b O).1 with z | z
  ·exact a z
  ·exact absurd (Mv (Me e) z)<|Nh _
 have y : ∀x c,X.env.cells.lookup x=cq c->∀v,s.heap.IsCell c v->h'.IsCell c v:=λx c e v M=>by
  obtain⟨o,Q,j⟩:=M;have Y:c∉ch:=λz=>(U c z).2.2.1 x c e rfl;by_cases A:c∈X.fs
  ·obtain⟨sl,q⟩:=C c o (I.DE x c e) A Y Q (I.u9 x c e)
   exact⟨_,q,j⟩
  ·exact⟨o,keep c o (I.DE x c e) A Y Q<|I.u9 x c e,j⟩
 refine⟨I.ok,I.os,hg,⟨λb o e n O a=>?_,λb o e n O a=>?_,λb o e n a=>?_,λb o e a=>?_,λb xs e=>C7 b xs<|I.base.C7 b xs e,λb o xs e=>L b o xs<|I.base.Dl b o xs e,λb ps e=>?_⟩,?_,λx c e=>?_,?_,λx c e=>?_,λp B=>?_,f6,I.len⟩
 ·exact keep b o (t b o e) O (h b o e a) (I.base.keep b o e n O a)<|I.base.free b o e n a
 ·obtain⟨sl,f⟩:=I.base.slot b o e n O a
  obtain⟨G,g⟩:=C b _ (t b o e) O (h b o e a) f<|I.base.free b o e n a;exact⟨G,g⟩
 ·obtain⟨S,f⟩:=I.base.there b o e a
  exact free b S (h b o e a) f<|I.base.free b o e n a
 ·obtain⟨S,f⟩:=I.base.there b o e a
  exact J b S (h b o e a) f
 ·obtain⟨R,f⟩:=I.base.DO b ps e
  obtain⟨T,g⟩:=Z b _ f;exact⟨R++T,by rw[g,Array.append_assoc]⟩
 ·obtain⟨m,P,N⟩:=I.loc
  refine⟨m,ns m P,λi x v f g K=>?_⟩;obtain⟨u,r,l⟩:=N i x v f g K;refine⟨u,r,?_⟩;rcases l with l | ⟨k,c,e,z⟩
  ·exact .inl l
  ·exact .inr ⟨k,c,e,y x c e _ z⟩
 ·obtain⟨v,z⟩:=I.cell x c e
  exact⟨v,y x c e v z⟩
 ·obtain⟨m,⟨o,_,_,Q,_⟩,_⟩:=I.loc
  exact free _ o (λz=>(U _ z).2.1 rfl) Q I.free
 ·obtain⟨v,o,Q,j⟩:=I.cell x c e
  exact free c o (λz=>(U c z).2.2.1 x c e rfl) Q<|I.u9 x c e
 ·obtain⟨e,n,E,F,d⟩:=I.pin p B
  have Y:p.1∉ch:=λz=>(U p.1 z).2.2.2 p B rfl;exact⟨keep p.1 p.2 E F Y e n,free p.1 p.2 Y e n,E,F,d⟩
theorem Inv.un{t':Nat}(I:Inv X pins σ H s)(u:Un X.fs [] H H' s.heap h')(C:l7 X.prog X.w H' h'):Inv X pins σ H' {s with heap:=h',toks:=t'}:=by
 obtain⟨m,⟨o,i,h,Q,r⟩,_⟩:=id I.loc;obtain⟨l,Y⟩:=u.any Q I.free ⋯;exact I.step (g':=s.gens) (d':=s.drawn) (ch:=[]) (λ_ z=>nomatch z) (λb o _ O _ e n=>u.keep b o e n O ⋯) (λb o _ O _ e n=>u.slot b o e n O ⋯) (λb o _ e n=>u.free b o e n ⋯) (λb o _ e=>u.there b o e ⋯) u.C7 u.Dl u.DO (λj f=>by obtain⟨k,a,d,U,g⟩:=f;rw[Q]at U;cases U;exact⟨_,a,d,Y,g⟩) C I.bare
theorem Inv.call{g':Array GenState}{t':Nat}{d':Drawn}{ch:List dn}(I:Inv X pins σ H s)(u:Un (vl X.stack) ch H H' s.heap h')(C:l7 X.prog X.w H' h')(J:C9 g')
 (U : ∀b∈ch,(b∈X.ex\/X.n5.heap.objs.size<=b)/\b≠X.env.locals/\(∀x c,X.env.cells.lookup x=cq c->c≠b)/\∀p∈X.pn++pins,p.1≠b) :
 Inv X pins σ H' {s with heap:=h',gens:=g',drawn:=d',toks:=t'}:=by
 obtain⟨m,⟨o,k,j,Y,r⟩,_⟩:=id I.loc;obtain⟨y,Q⟩:=u.any Y I.free λz=>(U _ z).2.1 rfl;exact I.step (ch:=ch) U (λb o Q g O e n=>u.keep b o e n (λz=>(Mc.mp<|I.TF b z).elim Q g) O) (λb o _ _ O e n=>u.any e n O) (λb o O e n=>u.free b o e n O) (λb o O e=>u.there b o e O) u.C7 u.Dl u.DO (λl h=>by obtain⟨t,d,f,a,i⟩:=h;rw[Y]at a;cases a;exact⟨_,d,f,Q,i⟩) C J
theorem Inv.turned{t':Nat}{it:dn}(I:Inv X pins σ H s)(k : ∀b o,b≠it->s.heap.get? b=cq o->h'.get? b=cq o)(Y:H it=cO)(Q:it≠X.env.locals)
 (C:it∈X.ex\/X.n5.heap.objs.size<=it) (J : ∀x c,X.env.cells.lookup x=cq c->c≠it) (L : ∀p∈X.pn++pins,p.1≠it):Inv X pins σ H {s with heap:=h',toks:=t'}:=by
 have U : ∀b u,H b=cq u->b≠it:=λb u e z=>by rw[z,Y]at e;cases e
 refine I.step (g':=s.gens) (d':=s.drawn) (ch:=[it]) (λb f=>?_) (λb o _ _ O e _=>k b o (λz=>O<|by simp[z]) e) (λb o _ _ O e _=>⟨o.slots,k b o (λz=>O<|by simp[z]) e⟩) (λ_ _ _ _ n=>n)
  (λb o O e=>⟨o,k b o (λz=>O<|by simp[z]) e⟩) (λ_ _ e=>e) (λ_ _ _ e=>e) (λb i e=>⟨#[],by rw[e];simp⟩) (λm g=>?_) (λb u e=>?_) I.bare
 ·have e:b=it:=by simpa using f
  subst e;exact⟨C,Q,J,L⟩
 ·obtain⟨o,d,a,h,r⟩:=g
  exact⟨o,d,a,k _ o (My Q) h,r⟩
 ·refine(I.f6 b u e).Dq (λc v O q=>k c v ?_ q) (λ_ q=>q) λ_ _ q=>q
  rcases O with z | z
  ·rw[z];exact U b u e
  ·exact U c _ z
theorem Inv.tok(I:Inv X pins σ H s)(t:Nat):Inv X pins σ H {s with toks:=t}:=I.un (h':=s.heap) (t':=t) Un.refl I.f6
theorem Inv.kept(I:Inv X pins σ H s)(k : ∀b u,s.heap.get? b=cq u->h'.get? b=cq u):Inv X pins σ H {s with heap:=h',toks:=t'}:=I.un (Un.kept k)<|I.f6.kept k
theorem Inv.laid(I:Inv X pins σ H s)(k : ∀b u,s.heap.get? b=cq u->h'.get? b=cq u)(O:s.heap.objs.size<=a)(new:m3 X.prog X.w (upd H a o) h' a o) :
 Inv X pins σ (upd H a o) {s with heap:=h',toks:=t'}:=I.un (Un.laid k O<|I.f6.fresh O)<|I.f6.laid k O new
theorem Inv.write(I:Inv X pins σ H s)(O:D8 (H x))(Q:e=x\/H e=cq (.own x))(k : ∀b u,b≠e->s.heap.get? b=cq u->h'.get? b=cq u)(U : ∃u,h'.get? e=cq u)
 (new:m3 X.prog X.w (upd H x o) h' x o):Inv X pins σ (upd H x o) {s with heap:=h',toks:=t'}:=I.un (Un.write O Q k U)<|I.f6.write O Q k U new
theorem Inv.M4(I:Inv X pins σ H s)(h : ∀p∈O,s.heap.get? p.1=cq p.2/\H p.1=cO/\p.1≠X.env.locals/\p.1∉X.fs/\∀v,p.2.data ≠ .cell v):Inv X O σ H s:=
 ⟨I.ok,I.os,I.bare,I.base,I.loc,I.cell,I.free,I.u9,λp Q=>(OV.mp Q).elim (λz=>I.pin p<|Si _ z) (h p),I.f6,I.len⟩
theorem aD{N:List Str}(I:N.Nodup){i j:Nat}{x:Str}(a:N[i]? = cq x)(b:N[j]? = cq x):i=j:=by obtain⟨e,d⟩:=Mj.mp a;obtain⟨f,O⟩:=Mj.mp b;exact(List.getElem_inj I).mp (d.trans O.symm)
theorem Yl{M:Model}{A:k0}{E:EQ}{i:Nat}{x:Str}{v:V}{u:dy}{Q:Unit->ed->Prop}(I:Inv X pins σ H s)(hN:X.N.Nodup)(C:X.N[i]? = cq x)(hx:Loc X.env.scope x)(r:RelV v u)
 (h : ∀Z,Inv X pins (σ.set i<|some v) H Z->(∃a,OW a s.heap Z.heap/\(a=X.env.locals\/X.env.cells.lookup x=cq a))->Q () Z) (hf:X.fn x=cM\/X.env.scope.names.lookup x=cq .local:=by first | exact .inl rfl | exact .inr rfl | assumption):wpAny M A (storeName X.env x u) Q E s:=by
 obtain⟨m,L,hl⟩:=id I.loc;have b5:(X.env.scope.kind == .class || (X.env.scope.kind == .module && X.env.locals != X.env.globals))=cR:=by rw[I.ok.kind];rfl
 have am:i<σ.length:=by rw[I.len];exact(Mj.mp C).1
 have DE:=I.DE;have an : ∀{a:dn} {h':fy},(∃o,s.heap.get? a=cq o/\H a=cO)->OW a s.heap h'->l7 X.prog X.w H h':=λ{a h'} ha f b ob e=>by
  obtain⟨_,_,ap⟩:=ha;refine(I.f6 b ob e).Dq (λc G O q=>(f.2 c ?_).trans q) (λ_ q=>q) λ_ _ q=>q;rintro rfl;rcases O with rfl | O
  ·rw[ap]at e;cases e
  ·rw[ap]at O;cases O
 rcases hx with Y | Y
 ·refine wpAny_storeName_local Y L (λh' b7 f=>?_) b5
  obtain⟨oL,_,_,b9,_⟩:=id L;refine h _ ⟨I.ok,I.os,I.bare,⟨λb o e n l hx=>?_,λb o e n l hx=>?_,I.base.free,λb o e hx=>?_,I.base.C7,I.base.Dl,I.base.DO⟩,⟨_,b7,λj y v' g U K=>?_⟩,λy c e=>?_,I.free,I.u9,λp P=>?_,an ⟨oL,b9,I.free⟩ f,by simpa using I.len⟩ ⟨_,f,.inl rfl⟩
  ·exact(f.2 b<|Ml<|Mv (Me e) I.ok.above).trans (I.base.keep b o e n l hx)
  ·obtain⟨W,g⟩:=I.base.slot b o e n l hx
   exact⟨W,(f.2 b<|Ml<|Mv (Me e) I.ok.above).trans g⟩
  ·obtain⟨S,g⟩:=I.base.there b o e hx
   exact⟨S,(f.2 b<|Ml<|Mv (Me e) I.ok.above).trans g⟩
  ·by_cases t:j=i
   ·subst t
    rw[C]at g;cases g;rw[Ms am]at U;cases U;exact⟨u,r,.inl ⟨Y,by simp⟩⟩
   ·rw[LV (My t)]at U
    obtain⟨u',T,q⟩:=hl j y v' g U K;refine⟨u',T,?_⟩;rcases q with⟨k,e⟩ | ⟨k,c,e,z⟩
    ·refine .inl ⟨k,?_⟩
     have:y≠x:=λe=>t<|aD hN g<|e ▸ C;simp[this,e]
    ·exact .inr ⟨k,c,e,z.sameBut f<|DE y c e⟩
  ·obtain⟨G,z⟩:=I.cell y c e
   exact⟨G,z.sameBut f<|DE y c e⟩
  ·obtain⟨e,n,F,R,d⟩:=I.pin p P
   exact⟨(f.2 p.1 F).trans e,n,F,R,d⟩
 ·have J:X.fn x=cM:=by
   rcases hf with z | z
   ·exact z
   ·rw[z]at Y;cases Y
  obtain⟨c,O⟩:=I.ok.has x<|.inl Y;obtain⟨G,z⟩:=I.cell x c O;refine wpAny_storeName_cell I.ok.kind Y O z<|λh' ar f=>?_;obtain⟨oc,as,bb⟩:=id z;refine h {s with heap:=h'} ⟨I.ok,I.os,I.bare,⟨λb o e n l hx=>?_,λb o e n l hx=>?_,I.base.free,λb o e hx=>?_,I.base.C7,I.base.Dl,I.base.DO⟩,⟨m,L.sameBut f<|My<|DE x c O,λj y v' g U K=>?_⟩,λy B e=>?_,I.free,I.u9,λp P=>?_,an ⟨oc,as,I.u9 x c O⟩ f,by simpa using I.len⟩ ⟨c,f,.inr O⟩
  ·exact(f.2 b<|Ml<|Mv (Me e)<|I.ok.E7 x c J O).trans (I.base.keep b o e n l hx)
  ·obtain⟨W,g⟩:=I.base.slot b o e n l hx
   exact⟨W,(f.2 b<|Ml<|Mv (Me e)<|I.ok.E7 x c J O).trans g⟩
  ·obtain⟨S,g⟩:=I.base.there b o e hx
   exact⟨S,(f.2 b<|Ml<|Mv (Me e)<|I.ok.E7 x c J O).trans g⟩
  ·by_cases t:j=i
   ·subst t
    rw[C]at g;cases g;rw[Ms am]at U;cases U;exact⟨u,r,.inr ⟨.inl Y,c,O,ar⟩⟩
   ·rw[LV (My t)]at U
    obtain⟨u',T,q⟩:=hl j y v' g U K;refine⟨u',T,?_⟩;rcases q with q | ⟨k,B,e,z'⟩
    ·exact .inl q
    ·refine .inr ⟨k,B,e,z'.sameBut f ?_⟩
     rintro rfl;exact t<|aD hN g<|I.ok.inj _ _ _ e O ▸ C
  ·by_cases ax:B=c
   ·subst ax;exact⟨_,ar⟩
   ·obtain⟨w2,z2⟩:=I.cell y B e
    exact⟨w2,z2.sameBut f ax⟩
  ·obtain⟨e,n,F,R,d⟩:=I.pin p P
   refine⟨(f.2 p.1 ?_).trans e,n,F,R,d⟩;intro q;rw[q,as]at e;have q':oc=p.2:=MN e;exact d G (by rw[<- q'];exact bb)
theorem W5(I:Inv X pins σ H s)(O:X.N.Nodup)(J:X.N[i]? = cq x)(hx:Loc X.env.scope x)(r:RelV v u)
 (h : ∀C,Inv X pins (σ.set i<|some v) H C->Q () C) (U:X.fn x=cM\/X.env.scope.names.lookup x=cq .local:=by first | exact .inl rfl | exact .inr rfl | assumption):wpAny M A (storeName X.env x u) Q E s:=
 Yl I O J hx r (λC Y _=>h C Y) U
theorem Inv.r_(I:Inv X pins σ H s)(O:s'.os=s.os)(u:Un (vl X.stack) ch H H' s.heap s'.heap)(C:l7 X.prog X.w H' s'.heap)(Q:C9 s'.gens)
 (U : ∀b∈ch,(b∈X.ex\/X.n5.heap.objs.size<=b)/\b≠X.env.locals/\(∀x c,X.env.cells.lookup x=cq c->c≠b)/\∀p∈X.pn++pins,p.1≠b):Inv X pins σ H' s':=by
 obtain⟨h',g',d',t',a⟩:=s';have e:a=s.os:=O;subst e;exact I.call (g':=g') (t':=t') (d':=d') u C Q U
end
abbrev XK:=dy->Option dn->Hp->Prop
abbrev St:=List (Option V)
abbrev VK:=V->Hp->Prop
abbrev TE:=St->Hp->VK->Prop
abbrev TT:=St->Hp->(Bool->Hp->Prop)->Prop
abbrev TA:=St->Hp->(List V->Hp->Prop)->Prop
structure Ends where
 nx:St->Hp->Prop
 rt:VK
 bk:St->Hp->Prop:=λ_ _=>False
 ct:St->Hp->Prop:=λ_ _=>False
abbrev TS:=Ends->St->Hp->Prop
noncomputable def EP(X:Cx)(C:UQ)(J:St)(Q:VK)(u:dy)(I:ed):Prop:=∃v a,Inv X C J a I/\RelV v u/\Q v a
noncomputable def TP(X:Cx)(C:UQ)(J:St)(Q:Bool->Hp->Prop)(b:Bool)(I:ed):Prop:=∃a,Inv X C J a I/\Q b a
noncomputable def AP(X:Cx)(C:UQ)(J:St)(Q:List V->Hp->Prop)(us:List dy)(I:ed):Prop:=∃b a,Inv X C J a I/\eK b us/\Q b a
noncomputable def SP(X:Cx)(C:UQ)(D:Ends)(f:Flow)(I:ed):Prop:=
 match f with
 | .next=>∃a b,Inv X C a b I/\D.nx a b
 | .brk=>∃a b,Inv X C a b I/\D.bk a b
 | .cont=>∃a b,Inv X C a b I/\D.ct a b
 | .ret u=>∃v a b,Inv X C a b I/\RelV v u/\D.rt v b
noncomputable def PE(X:Cx)(e:eh)(t:TE):Prop:=
 ∀(a:UQ) (s:ed) (b:St) (H:Hp) (Q:VK),Inv X a b H s->t b H Q->wpAny (eg X.prog X.w) X.A (el e X.env) (EP X a b Q) X.xe s
noncomputable def PT(X:Cx)(e:eh)(t:TT):Prop:=
 ∀(a:UQ) (s:ed) (b:St) (H:Hp) (Q:Bool->Hp->Prop),Inv X a b H s->t b H Q->wpAny (eg X.prog X.w) X.A (DF e X.env<|eval e X.env) (TP X a b Q) X.xe s
noncomputable def PW(X:Cx)(e:eh)(t:TT):Prop:=
 ∀(I:Sem dy) (a:UQ) (s:ed) (b:St) (H:Hp) (Q:Bool->Hp->Prop),Inv X a b H s->t b H Q->wpAny (eg X.prog X.w) X.A (DF e X.env I) (TP X a b Q) X.xe s
theorem PW.pt(h:PW X e t):PT X e t:=h _
noncomputable def PA(X:Cx)(es:List eh)(t:TA):Prop:=
 ∀(pos:g5) (a:UQ) (s:ed) (b:St) (H:Hp) (Q:List V->Hp->Prop),Inv X a b H s->t b H Q->wpAny (eg X.prog X.w) X.A (M9<|backTo pos<|starEach es X.env) (AP X a b Q) X.xe s
noncomputable def PS(X:Cx)(st:kA)(t:TS):Prop:=
 ∀(a:UQ) (s:ed) (b:St) (H:Hp) (D:Ends),Inv X a b H s->t D b H->wpAny (eg X.prog X.w) X.A (exec st X.env) (SP X a D) X.xe s
noncomputable def rr(X:Cx)(st:List kA)(t:TS):Prop:=
 ∀(a:UQ) (s:ed) (b:St) (H:Hp) (D:Ends),Inv X a b H s->t D b H->wpAny (eg X.prog X.w) X.A (execs st X.env) (SP X a D) X.xe s
theorem e9(h:wpAny M A t Q E s)(I : ∀a s,Q a s->Q' a s):wpAny M A t Q' E s:=Oh h I λ_ _ x=>x
section
variable{X:Cx}
noncomputable def Au(i:Nat):TE:=λa H Q=>∃v,a[i]? = cq (cq v)/\Q v H
noncomputable def tC(v:V):TE:=λ_ H Q=>Q v H
theorem BU(L:X.N[i]? = cq x)(S:Pt X.env.scope x)(C:(x==("__debug__" : Str))=cR:=by decide)(J:(x==("__classdict__" : Str))=cR:=by decide):PE X (.Name x pos) (Au i):=by
 intro a s j H Q I h;obtain⟨v,e,h⟩:=h;obtain⟨m,g,d⟩:=I.loc;obtain⟨u,r,l⟩:=d i x v L e S;have U:EP X a j Q u s:=⟨v,H,I,r,h⟩;rcases l with⟨O,f⟩ | ⟨O,c,Y,b⟩
 ·exact U2 (wpAny_loadName_local I.ok.kind O g f U) C
 ·rcases O with O | O
  ·exact U2 (wpAny_loadName_cell I.ok.kind O Y b U) C
  ·exact U2 (wpAny_loadName_free I.ok.kind O Y b U J) C
theorem Cb:PE X (.Constant (.int i) j pos) (tC<|.int i):=λ_ _ _ H _ I h=>wpAny_Constant_int ⟨.int i,H,I.tok _,⟨_,rfl⟩,h⟩
theorem Gf:PE X (.Constant (.bool b) j pos) (tC<|.bl b):=λ_ _ _ H _ I h=>Constant_bool ⟨.bl b,H,I,rfl,h⟩
theorem BY:PE X (.Constant .none j pos) (tC .ez):=λ_ _ _ H _ I h=>Constant_none ⟨.ez,H,I,rfl,h⟩
theorem BW:PE X (.Constant (.str x) j pos) (tC<|.str x):=λ_ _ _ H _ I h=>Calls.Constant_str ⟨.str x,H,I.tok _,⟨_,rfl⟩,h⟩
noncomputable def Gl(X:Cx)(x:Str):Prop:=X.env.kindOf x=cq .globalImplicit
theorem gS(I:Inv X pins σ H s)(O:Gl X x)(U:X.mg x=cq u)(h:Q u s)
 (C:(x==("__debug__" : Str))=cR:=by decide):wpAny (eg X.prog X.w) X.A (el (.Name x pos) X.env) Q E s:=
 Calls.Name_function_global I.ok.kind O (Calls.loadGlobal_global (by rw[I.ok.glob];exact I.mod.glob.keeps I.bk) U h) C
theorem kI(I:Inv X pins σ H s)(O:Gl X x)(U:X.mg x=cO)(Y:Di x=cq u)(h:Q u s)
 (J:x ≠ "__name__":=by decide) (C:(x==("__debug__" : Str))=cR:=by decide):wpAny (eg X.prog X.w) X.A (el (.Name x pos) X.env) Q E s:=by
 obtain⟨d,a,b⟩:=I.mod.blt;exact Calls.Name_function_global I.ok.kind O (Calls.loadGlobal_builtin (by rw[I.ok.glob];exact I.mod.glob.keeps I.bk) U (by rw[I.ok.blt];exact a.keeps I.bk) ((b x J).trans Y) h) C
variable{a b:eh}{ta tb:TE}{pos:g5}
noncomputable def PC(X:Cx)(I:CmpOp)(a b:eh)(t:TE):Prop:=
 ∀(d:UQ) (s:ed) (e:St) (H:Hp) (Q:VK),Inv X d e H s->t e H Q->
  wpAny (eg X.prog X.w) X.A (el a X.env) (λv O=>wpAny (eg X.prog X.w) X.A (el b X.env) (λu U=>wpAny (eg X.prog X.w) X.A (o4 I v u) (EP X d e Q) X.xe U) X.xe O) X.xe s
theorem nO(b:eh)(h:op ≠ .In)(C:op ≠ .NotIn):z3 op b=cR:=by
 have a:(op==CmpOp.In)=cR:=by cases op<;>first | rfl | exact absurd rfl h
 have I:(op==CmpOp.NotIn)=cR:=by cases op<;>first | rfl | exact absurd rfl C
 cases b<;>simp[z3,a,I]
noncomputable def tB(t:TE):TT:=λb H Q=>t b H λx a=>∃c,x = .bl c/\Q c a
theorem BI(h:PC X op a b t)(C:z3 op b=cR:=by first | exact nO _ ⋯ ⋯ | rfl):PT X (.Compare a [op] [b] pos) (tB t):=by intro e s k H Q I i;refine T_ (e9 (h e s k H _ I i) λv l C=>e9 C λu m g=>e9 g λc n O=>?_) C;obtain⟨x,f,U,Y,j⟩:=O;obtain⟨d,rfl,q⟩:=j;cases Y;exact NW ⟨f,U,q⟩
theorem BG(h:PE X e t)(U : ∀O,DF e X.env O=(do let v <- O;DM e.pos;t5 [v] (G8 v)):=by intro _;rfl):PT X e (tB t):=by intro a s k H Q I g;refine isTrue_plain (e9 (h a s k H _ I g) λv l Y=>?_)<|U _;obtain⟨x,b,f,j,i⟩:=Y;obtain⟨d,rfl,q⟩:=i;cases j;exact NW ⟨b,f,q⟩
variable{tA N3:TT}{k6:List eh}
noncomputable def IM(t u:TT):TT:=λb H Q=>t b H λc a=>if c=cM then u b a Q else Q cR a
noncomputable def O'(t u:TT):TT:=λb H Q=>t b H λc a=>if c=cM then Q cM a else u b a Q
noncomputable def IH(t:TT):TT:=λb H Q=>t b H λc a=>Q (!c) a
theorem sZ(C:PT X a tA):PW X (.BoolOp .And [a] pos) tA:=by
 intro O b s d H Q I h;refine isTrue_and<|e9 (C b s d H Q I h) λc f e=>?_;cases c with
 | true=>exact isTrue_and_nil e
 | false=>exact e
theorem Bw(C:PT X a tA):PW X (.BoolOp .Or [a] pos) tA:=by
 intro O b s d H Q I h;refine isTrue_or<|e9 (C b s d H Q I h) λc f e=>?_;cases c with
 | false=>exact isTrue_or_nil e
 | true=>exact e
theorem Bx(C:PT X a tA)(Y:PW X (.BoolOp .And (b::k6) pos) N3):PW X (.BoolOp .And (a::b::k6) pos) (IM tA N3):=by
 intro j d s f H Q I h;refine isTrue_and<|e9 (C d s f H _ I h) λc i g=>?_;obtain⟨e,O,U⟩:=g;cases c with
 | true=>exact Y j d i f e Q O U
 | false=>exact⟨e,O,U⟩
theorem FZ(C:PT X a tA)(Y:PW X (.BoolOp .Or (b::k6) pos) N3):PW X (.BoolOp .Or (a::b::k6) pos) (O' tA N3):=by
 intro j d s f H Q I h;refine isTrue_or<|e9 (C d s f H _ I h) λc i g=>?_;obtain⟨e,O,U⟩:=g;cases c with
 | true=>exact⟨e,O,U⟩
 | false=>exact Y j d i f e Q O U
theorem BH(ha:PT X a tA):PT X (.UnaryOp .Not a pos) (IH tA):=by intro b s e H Q I h;exact isTrue_not<|ha b s e H (λc d=>Q (!c) d) I h
noncomputable def FO(ta tb:TE):TE:=λb H Q=>ta b H λx a=>∃c,x = .bl c/\if c=cM then tb b a Q else Q (.bl cR) a
theorem BX(h:PE X a t):PE X (.BoolOp op [a] pos) t:=λb s e H Q I d=>BoolOp_one<|h b s e H Q I d
theorem Cd(C:PE X a ta)(Y:PE X (.BoolOp .And (b::k6) pos) tb):PE X (.BoolOp .And (a::b::k6) pos) (FO ta tb):=by
 intro d s f H Q I h;refine BoolOp_and<|e9 (C d s f H _ I h) λv j g=>?_;obtain⟨x,e,U,i,O⟩:=g;obtain⟨c,rfl,O⟩:=O;cases i;refine NW ?_;cases c with
 | true=>exact Y d j f e Q U O
 | false=>exact⟨.bl cR,e,U,rfl,O⟩
noncomputable def TL(t:TT)(ta tb:TE):TE:=λa H Q=>t a H λc b=>if c=cM then ta a b Q else tb a b Q
theorem nB(Y:PT X c tA)(C:PE X a ta)(J:PE X b tb):PE X (.IfExp c a b pos) (TL tA ta tb):=by
 intro e s f H Q I h;refine wpAny_IfExp<|e9 (Y e s f H _ I h) λd i j=>?_;obtain⟨g,O,U⟩:=j;cases d with
 | true=>exact C e i f g Q O U
 | false=>exact J e i f g Q O U
end
noncomputable def gB(K:LM)(H:Hp)(a:dn)(xs:List V):Prop:=
 Rd H a (.lst xs)\/
  ∃(o:mu) (b:Array dy) (n:Nat),K.lookup a=cq o/\o.cls = .type "list"/\o.dict=cO/\o.data = .seq b n/\b.size<=fe/\eK xs b.toList
noncomputable def gu(K:LM)(H:Hp)(a:dn)(xs:List V):Prop:=
 Rd H a (.tup xs)\/
  ∃(o:mu) (b:Array dy) (n:Nat),K.lookup a=cq o/\(o.cls,o.dict)=(OJ "tuple",cO)/\o.data = .seq b n/\b.size<=fe/\eK xs b.toList
noncomputable def Lr:dy->Option V
 | .none=>cq .ez
 | .bool b=>cq (.bl b)
 | .int i _=>cq (.int i)
 | .str x _=>cq (.str x)
 | .bytes b _=>cq (.E6 b)
 | .float b _=>cq (.R7 b)
 | .ref a=>cq (.ref a)
 | .type n=>cq (.ty n)
 | _=>cO
theorem RelV.abs(r:RelV x u):Lr u=cq x:=by
 cases x with
 | ez=>cases r;rfl
 | bl _=>cases r;rfl
 | int _=>obtain⟨t,rfl⟩:=r;rfl
 | str _=>obtain⟨t,rfl⟩:=r;rfl
 | E6 _=>obtain⟨t,rfl⟩:=r;rfl
 | R7 _=>obtain⟨t,rfl⟩:=r;rfl
 | ref _=>cases r;rfl
 | ty _=>cases r;rfl
theorem RelV.inj(r:RelV x u)(q:RelV y u):x=y:=MN<|r.abs.symm.trans q.abs
theorem eK.inj : ∀{xs ys:List V} {us:List dy},eK xs us->eK ys us->xs=ys
 | _,_,_,.nil,.nil=>rfl
 | _,_,_,.cons r t,.cons r' t'=>by rw[r.inj r',eK.inj t t']
section
variable{X:Cx}{pins:UQ}{σ:St}{H:Hp}{s:ed}{a:dn}{xs ys:List V}
theorem gB.of{K:LM}(h:H a=cq (.lst xs)):gB K H a xs:= .inl (.inl h)
theorem gu.of{K:LM}(h:H a=cq (.tup xs)):gu K H a xs:= .inl (.inl h)
theorem Inv.list(I:Inv X pins σ H s)(h:gB X.K H a xs) : ∃its:List dy,eK xs its/\PlainL s.heap a its.toArray/\xs.length<=fe:=by
 rcases h with h | ⟨o,its,n,O,Q,hd,hs,hz,r⟩
 ·obtain⟨z,its,n,r,e⟩:=h.ok I.f6
  exact⟨its,r,⟨_,n,e,rfl,rfl,rfl⟩,z⟩
 ·refine⟨its.toList,r,⟨o,n,I.DH a o O,Q,hd,by simpa using hs⟩,?_⟩
  have e:=r.length;simp only[Nz]at e;omega
theorem Inv.tuple(I:Inv X pins σ H s)(h:gu X.K H a xs) : ∃its:List dy,eK xs its/\o7 s.heap a its.toArray/\xs.length<=fe:=by
 rcases h with h | ⟨o,its,n,O,Q,hs,hz,r⟩
 ·obtain⟨z,its,r,p⟩:=h.ok I.f6
  exact⟨its,r,p.tup,z⟩
 ·refine⟨its.toList,r,⟨o,I.DH a o O,(Prod.mk.inj Q).1,n,by simpa using hs⟩,?_⟩
  have e:=r.length;simp only[Nz]at e;omega
theorem Inv.S7(I:Inv X pins σ H s)(h:gB X.K H a xs)(h':gB X.K H a ys):xs=ys:=by
 obtain⟨f,r,⟨o,n,e,_,_,d⟩,_⟩:=I.list h;obtain⟨b,i,⟨k,j,O,_,_,g⟩,_⟩:=I.list h';rw[e]at O;cases O;rw[d]at g;injection g with Q _;have:f=b:=by simpa using congrArg Array.toList Q
 subst this;exact r.inj i
theorem Inv.TR(I:Inv X pins σ H s)(h:gu X.K H a xs)(h':gu X.K H a ys):xs=ys:=by
 obtain⟨f,r,⟨o,e,_,n,d⟩,_⟩:=I.tuple h;obtain⟨b,i,⟨k,O,_,j,g⟩,_⟩:=I.tuple h';rw[e]at O;cases O;rw[d]at g;injection g with Q _;have:f=b:=by simpa using congrArg Array.toList Q
 subst this;exact r.inj i
end
abbrev Cx.A5(X:Cx)(E:EQ):Cx:={X with xe:=E}
abbrev Cx.F3(X:Cx):Cx:=X.A5 λ_ _=>False
theorem Cx.Ok.A5{X:Cx}(ok:X.Ok)(E:EQ):(X.A5 E).Ok:=
 ⟨ok.mod,ok.kind,ok.glob,ok.blt,ok.above,ok.inj,ok.has,ok.E7,ok.hd,ok.frames,ok.N0,ok.L1,ok.bs,ok.z4,ok.F2,ok.E9,ok.t4,ok.Dk⟩
theorem Cx.Ok.Dt{X:Cx}{E:EQ}(ok:(X.A5 E).Ok):X.Ok:=
 ⟨ok.mod,ok.kind,ok.glob,ok.blt,ok.above,ok.inj,ok.has,ok.E7,ok.hd,ok.frames,ok.N0,ok.L1,ok.bs,ok.z4,ok.F2,ok.E9,ok.t4,ok.Dk⟩
section
variable{X:Cx}{pins:UQ}{σ:St}{H:Hp}{s:ed}{E:EQ}
theorem Inv.A5(I:Inv X pins σ H s)(E:EQ):Inv (X.A5 E) pins σ H s:=⟨I.ok.A5 E,I.os,I.bare,I.base,I.loc,I.cell,I.free,I.u9,I.pin,I.f6,I.len⟩
theorem Inv.Dt(I:Inv (X.A5 E) pins σ H s):Inv X pins σ H s:=⟨I.ok.Dt,I.os,I.bare,I.base,I.loc,I.cell,I.free,I.u9,I.pin,I.f6,I.len⟩
theorem SP.Dt(h:SP (X.A5 E) pins D f s'):SP X pins D f s':=by
 cases f with
 | next=>obtain⟨a,b,I,q⟩:=h;exact⟨a,b,I.Dt,q⟩
 | brk=>obtain⟨a,b,I,q⟩:=h;exact⟨a,b,I.Dt,q⟩
 | cont=>obtain⟨a,b,I,q⟩:=h;exact⟨a,b,I.Dt,q⟩
 | ret u=>obtain⟨v,a,b,I,r,q⟩:=h;exact⟨v,a,b,I.Dt,r,q⟩
theorem rr.F3{st:List kA}{t:TS}(h:rr X.F3 st t):rr X st t:=λpins s σ H D I a=>
 Oh (h pins s σ H D (I.A5 _) a) (λ_ _ q=>q.Dt) λ_ _ z=>Ou z
end
section
variable{X:Cx}{st:kA}{k6:List kA}{t u:TS}{e:eh}{te:TE}{pos:g5}
noncomputable def FK:TS:=λD a H=>D.nx a H
noncomputable def IF(t u:TS):TS:=λD a H=>t {D with nx:=u D} a H
theorem tF:rr X [] FK:=λ_ _ a H _ I h=>U3 ⟨a,H,I,h⟩
theorem mV(C:PS X st t)(J:rr X k6 u):rr X (st::k6) (IF t u):=by
 intro a s g H D I h;refine wpAny_execs_cons<|e9 (C a s g H {D with nx:=u D} I h) λf e q=>?_;cases f with
 | next=>
  obtain⟨b,d,O,q⟩:=q;exact J a e b d D O q
 | ret v=>exact q
 | brk=>exact q
 | cont=>exact q
theorem fN(C:PS X st t):rr X [st] t:=by
 intro a s b H D I h;refine wpAny_execs_cons<|e9 (C a s b H D I h) λf d q=>?_;cases f with
 | next=>exact U3 q
 | ret v=>exact q
 | brk=>exact q
 | cont=>exact q
noncomputable def FN:TS:=λD a H=>D.ct a H
theorem VX:PS X (.Continue pos) FN:=λ_ _ a H _ I h=>wpAny_Continue ⟨a,H,I,h⟩
theorem Inv.quiet(I:Inv X pins σ H s):interactive X.env=cR:=by simp[interactive,I.ok.kind]
noncomputable def FL(te:TE):TS:=λD a H=>te a H λ_ b=>D.nx a b
theorem fP(O:PE X e te)(hs:C5 e cO pos.line X.env=pure cR:=by rfl):PS X (.Expr e pos) (FL te):=by intro a s b H D I h;exact wpAny_Expr_any (e9 (O a s b H _ I h) λv f ⟨x,d,Q,Y,U⟩=>⟨b,d,Q,U⟩) I.quiet hs
noncomputable def IG(te:TE):TS:=λD a H=>te a H D.rt
theorem fO(O:PE X e te):PS X (.Return (cq e) pos) (IG te):=by intro a s b H D I h;exact wpAny_Return_some<|e9 (O a s b H _ I h) λv f ⟨x,d,Q,U,Y⟩=>⟨x,b,d,Q,U,Y⟩
noncomputable def IJ(c:TT)(t u:TS):TS:=λD a H=>c a H λb d=>if b=cM then t D a d else u D a d
theorem Gc(U:PT X c tc)(C:rr X a t)(Y:rr X b u):PS X (.If c a b pos) (IJ tc t u):=by
 intro e s f H D I h;refine wpAny_If<|e9 (U e s f H _ I h) λd i j=>?_;obtain⟨g,O,Q⟩:=j;cases d with
 | true=>exact C e i f g D O Q
 | false=>exact Y e i f g D O Q
noncomputable def AV:TS:=λ_ _ _=>False
theorem mZ:PS X st AV:=λ_ _ _ _ _ _ h=>h.elim
end
abbrev TG:=V->St->Hp->(St->Hp->Prop)->Prop
abbrev DS:=List V->St->Hp->(St->Hp->Prop)->Prop
noncomputable def PG(X:Cx)(I:eh)(t:TG):Prop:=
 ∀(a:UQ) (s:ed) (e:St) (H:Hp) (v:V) (u:dy) (Q:St->Hp->Prop),Inv X a e H s->RelV v u->t v e H Q->
  wpAny (eg X.prog X.w) X.A (uw I X.env u) (λ_ f=>∃b d,Inv X a b d f/\Q b d) X.xe s
noncomputable def En(X:Cx)(ts:List eh)(t:DS):Prop:=
 ∀(a:UQ) (s:ed) (g:St) (H:Hp) (f:List V) (e:List dy) (Q:St->Hp->Prop),Inv X a g H s->eK f e->t f g H Q->
  wpAny (eg X.prog X.w) X.A (assignInOrder ((zl ts X.env).map (·.2)) e) (λ_ h=>∃b d,Inv X a b d h/\Q b d) X.xe s
abbrev Iv:=V->V->V->Hp->(Hp->Prop)->Prop
noncomputable def Iw(X:Cx)(t:Iv):Prop:=
 ∀(a:UQ) (s:ed) (d:St) (H:Hp) (o i v:V) (I O u:dy) (Q:Hp->Prop),Inv X a d H s->RelV o I->RelV i O->RelV v u->t o i v H Q->
  wpAny (eg X.prog X.w) X.A (Tz I O u) (λ_ e=>∃b,Inv X a d b e/\Q b) X.xe s
section
variable{X:Cx}{pos:g5}
noncomputable def yW(i:Nat):TG:=λv a H Q=>Q (a.set i<|some v) H
theorem gc(O:X.N.Nodup)(C:X.N[i]? = cq x)(hx:Loc X.env.scope x)(U:X.fn x=cM\/X.env.scope.names.lookup x=cq .local:=by first | exact .inl rfl | exact .inr rfl | assumption):PG X (.Name x pos) (yW i):=by intro a s d H v u Q I r h;exact R_<|W5 I O C hx r (λb Y=>⟨_,H,Y,h⟩) U
noncomputable def HW:DS:=λa b H Q=>a=[]/\Q b H
noncomputable def CU(t:TG)(u:DS):DS:=λd e H Q=>∃v r,d=v::r/\t v e H λa b=>u r a b Q
theorem gb:En X [] HW:=by intro a s b H f d Q I r h;obtain⟨e,h⟩:=h;subst e;cases r;exact assignInOrder_nil ⟨b,H,I,h⟩
theorem wy(C:PG X e t)(J:En X es u)
 (hs:(zl (e::es) X.env).map (·.2)=uw e X.env::(zl es X.env).map (·.2):=by rfl):En X (e::es) (CU t u):=by
 intro a s j H m k Q I r h;obtain⟨v,l,f,h⟩:=h;subst f;cases r with
 | cons r O=>
  rw[hs];refine assignInOrder_cons<|e9 (C a s j H _ _ _ I r h) λ_ i U=>?_;obtain⟨Y,b,d,g⟩:=U;exact J a i Y b _ _ Q d O g
noncomputable def HV(K:LM)(n:Nat)(t:DS):TG:=λv d H Q=>∃a b,v = .ref a/\gu K H a b/\b.length=n/\t b d H Q
theorem BS(U:X.calm=cM)(h:En X es t)
 (Y:(zl es X.env).length=n:=by rfl) (C:(zl es X.env).findIdx? (·.1)=cO:=by rfl):PG X (.Tuple es k pos) (HV X.K n t):=by
 intro d s g H v u Q I r f;obtain⟨a,z,j,p,m,f⟩:=f;subst j;cases r;obtain⟨y,O,w,A⟩:=I.tuple p;refine assign_Tuple_tuple (I.ok.hd U) w (by simp[Y,<- m,O.length]) C λl x=>?_;have i:Inv X d g H {s with heap:=l}:=I.kept (t':=s.toks) λb o e=>x b o (Ml<|Me e) e;exact h d _ g H z _ Q i (by simpa using O) f
noncomputable def Lm(to I:TE)(t:Iv):TG:=λv a H Q=>to a H λo b=>I a b λi d=>t o i v d λO=>Q a O
theorem pX(L:PE X o to)(J:PE X i ti)(hs:Iw X t)
 (C : ∀v,uw (.Subscript o i pos) X.env v=(do
   let O <- t5 [v] (el o X.env);let U <- t5 [v,O] (el i X.env)
   DM pos
   t5 [v,O,U] (Tz O U v)
   Uw [v,O,U] []):=by intro _;rfl):PG X (.Subscript o i pos) (Lm to ti t):=by
 intro a s b H v u Q I r h;rw[C];refine LK<|NG<|e9 (L a s b H _ I h) λO z Y=>?_;obtain⟨x,d,g,p,l⟩:=Y;refine LK<|NG<|e9 (J a z b d _ g l) λU A Y=>?_;obtain⟨y,e,j,w,m⟩:=Y;refine LK<|SM<|LK<|NG<|e9 (hs a A b e x y v O U u _ j p w r m) λ_ B Y=>?_;obtain⟨f,k,n⟩:=Y;exact wpAny_release ⟨b,f,k,n⟩
noncomputable def bN(te:TE)(g:TG):TS:=λD a H=>te a H λx b=>g x a b D.nx
theorem aw(O:PE X e te)(Q:PG X tg g)(hs:N2 [tg] e pos.line X.env=pure cR:=by rfl)(J:TJ [tg] e X.env=pure cO:=by rfl)
 (C:(zl [tg] X.env).map (·.2)=[uw tg X.env]:=by rfl):PS X (.Assign [tg] e pos) (bN te g):=by
 intro a s b H D I h;refine wpAny_Assign_stores (e9 (O a s b H _ I h) λv j U=>?_) hs J;obtain⟨x,d,Y,i,f⟩:=U;rw[C];exact e9 (Q a j b d x v _ Y i f) λ_ k q=>q
theorem BK(O:X.N.Nodup)(C:X.N[i]? = cq x)(hx:Loc X.env.scope x)(Q:PE X e te)(hs:C5 e (cq (.Name x pos')) pos.line X.env=pure cR:=by rfl)(U:X.fn x=cM\/X.env.scope.names.lookup x=cq .local:=by first | exact .inl rfl | exact .inr rfl | assumption) :
 PS X (.Assign [.Name x pos'] e pos) (bN te<|yW i):=by
 intro a s k H D I h;refine wpAny_Assign_Name (e9 (Q a s k H _ I h) λv l Y=>?_) hs;obtain⟨y,b,d,j,g⟩:=Y;exact W5 d O C hx j (λm f=>⟨_,b,f,g⟩) U
end
structure It where
 go:Nat->Hp->Prop
 A6:Nat->Hp->V->Hp->Prop
 stop:Nat->Hp->Prop
noncomputable def vD(X:Cx)(C:UQ)(H:Hp)(b:dn):Prop:=
 H b=cO/\b≠X.env.locals/\b∉X.fs/\(b∈X.ex\/X.n5.heap.objs.size<=b)/\(∀x c,X.env.cells.lookup x=cq c->c≠b)/\∀p∈X.pn++C,p.1≠b
theorem Inv.uO(I:Inv X pins σ H s)(O:s.heap.objs.size<=b)(Q:H' b=cO):vD X pins H' b:=by
 refine⟨Q,NL<|Mv I.lt O,I.G_ O,.inr<|Nv I.sz O,λx c e z=>?_,λp U z=>?_⟩
 ·obtain⟨v,q⟩:=I.cell x c e
  exact absurd (Mv q.lt<|by rw[z];exact O)<|Nh _
 ·exact absurd (Mv (Me (I.pin p U).1)<|by rw[z];exact O)<|Nh _
structure Turn(P:il)(w:hG)(K:LM)(tg:eh)(J:It)(fp:List dn)(it:dn)(tn:Nat->fy->Prop):Prop where
 mem:it∈fp
 obj : ∀i h,tn i h->∀b∈fp,∃o,h.get? b=cq o/\∀v,o.data ≠ .cell v
 keep : ∀i h h',tn i h->(∀b∈fp,∀o,h.get? b=cq o->h'.get? b=cq o)->tn i h'
 item : ∀(X:Cx),X.prog=P->X.w=w->X.K=K->X.calm=cM->∀(i:Nat) (pins:UQ) (s:ed) (σ:St) (H:Hp) (E:EQ),Inv X pins σ H s->(∀b∈fp,vD X pins H b)->tn i s.heap->J.go i H->
  wpAny (eg P w) X.A (rn<|.ref it) (λr s1=>∃u,r=cq u/\
   wpAny (eg P w) X.A (L6 tg (.ref it) u) (λ_ s2=>∃x H',Inv X pins σ H' s2/\RelV x u/\J.A6 i H x H'/\tn (i+1) s2.heap/\∀b∈fp,H' b=cO) E s1) E s
 done : ∀(X:Cx),X.prog=P->X.w=w->X.K=K->X.calm=cM->∀(i:Nat) (pins:UQ) (s:ed) (σ:St) (H:Hp) (E:EQ),Inv X pins σ H s->(∀b∈fp,vD X pins H b)->tn i s.heap->J.stop i H->
  wpAny (eg P w) X.A (rn<|.ref it) (λr s1=>r=cO/\Inv X pins σ H s1) E s
 self : ∀(A:k0) (i:Nat) (s:ed) (Q:EQ) (E:EQ),tn i s.heap->Q (.ref it) s->wpAny (eg P w) A (F8<|.ref it) Q E s
abbrev TI:=St->Hp->(It->Hp->Prop)->Prop
noncomputable def T6(X:Cx)(C:UQ)(S:St)(O:eh)(R:It->Hp->Prop)(I:dy)(L:ed):Prop:=
 ∃(e:dn) (d:List dn) (f:Nat->fy->Prop) (J:It) (a:Hp),I = .ref e/\Inv X C S a L/\Turn X.prog X.w X.K O J d e f/\f 0 L.heap/\(∀b∈d,vD X C a b)/\R J a
noncomputable def PI(X:Cx)(I C:eh)(J:TI):Prop:=
 ∀(a:UQ) (s:ed) (b:St) (H:Hp) (R:It->Hp->Prop),Inv X a b H s->J b H R->
  wpAny (eg X.prog X.w) X.A (el C X.env) (λv d=>wpAny (eg X.prog X.w) X.A (F8 v) (T6 X a b I R) X.xe d) X.xe s
theorem oH(O:s.heap.get? it=cq o)(U:o.cls = .type n)(C:o.data = .fields vs)
 (Y:["enumerate","zip","dict_itemiterator","dict_reverseitemiterator","odict_iterator","itertools.zip_longest","itertools.pairwise"].contains n=cR) (I:Q () s):wpAny M A (L6 tg (.ref it) u) Q E s:=by
 unfold L6;cases tg<;>first
  | exact LU I
  | (cases u<;>first
      | exact LU I
      | (refine LK (wpAny_load O ?_)
         rw[U,C];show wpAny M A (if (["enumerate","zip","dict_itemiterator","dict_reverseitemiterator","odict_iterator","itertools.zip_longest","itertools.pairwise"].contains n && vs[0]? == cq (o8 _))=cM then _ else _) Q E s;rw[UY (by intro h;rw[Y,Pk]at h;cases h)];exact LU I))
noncomputable def TZ(K:LM)(a:dn):It:=
 ⟨λi H=>∃b x,gB K H a b/\b[i]? = cq x,λi H x d=>d=H/\∀b,gB K H a b->b[i]? = cq x,λi H=>∃b,gB K H a b/\b.length<=i⟩
noncomputable def T3(K:LM)(a:dn):It:=
 ⟨λi H=>∃b x,gu K H a b/\b[i]? = cq x,λi H x d=>d=H/\∀b,gu K H a b->b[i]? = cq x,λi H=>∃b,gu K H a b/\b.length<=i⟩
noncomputable def Dd(lo:Int)(n:Nat):It:=⟨λi _=>i<n,λi H x a=>a=H/\x = .int (lo+i),λi _=>n<=i⟩
theorem dM{P:il}{w:hG}{K:LM}{tg:eh}(a it:dn):Turn P w K tg (TZ K a) [it] it (λi h=>h.IsListIter it a i) where
 mem:=by simp
 obj:=λi h st b O=>by
  have e:b=it:=by simpa using O
  subst e;obtain⟨o,e,c,d⟩:=st;exact⟨o,e,λv z=>by rw[d]at z;cases z⟩
 keep:=λi h h' st k=>st.at λo e=>k it ⋯ o e
 item:=by intro X Y hw hK hc i pins s σ H E I Q st hg;subst Y hw hK;obtain⟨xs,x,U,hx⟩:=hg;obtain⟨its,rv,p,hz⟩:=I.list U;obtain⟨u,hu,ru⟩:=rv.get hx;obtain⟨f0,f1,f2,f3,f4,f5⟩:=Q it ⋯;refine wpAny_pyNext_list_item st p.isList (x:=u) (by simpa using hu) λh' a9 sb=>?_;have I1:Inv X pins σ H {s with heap:=h'}:=I.turned (t':=s.toks) (λb o O e=>(sb.2 b O).trans e) f0 f1 f3 f4 f5;obtain⟨o,e,c,d⟩:=id a9;exact⟨u,rfl,oH (s:={s with heap:=h'}) e c d ⋯ ⟨x,H,I1,ru,⟨rfl,λys hy=>by rw[I.S7 hy U];exact hx⟩,a9,λb O=>(Q b O).1⟩⟩
 done:=by intro X Y hw hK hc i pins s σ H E I Q st hg;subst Y hw hK;obtain⟨xs,U,hx⟩:=hg;obtain⟨its,rv,p,hz⟩:=I.list U;obtain⟨f0,f1,f2,f3,f4,f5⟩:=Q it ⋯;have hl:=rv.length;exact wpAny_pyNext_list_end (I.ok.hd hc) st p.isList (by simp;omega) λh' eb=>⟨rfl,I.turned (t':=s.toks) (λb o O e=>eb b o O e) f0 f1 f3 f4 f5⟩
 self:=λ_ _ _ _ _ st h=>wpAny_pyIter_listiter st h
theorem bD{P:il}{w:hG}{K:LM}{tg:eh}(a it:dn):Turn P w K tg (T3 K a) [it] it (λi h=>h.IsTupleIter it a i) where
 mem:=by simp
 obj:=λi h st b O=>by
  have e:b=it:=by simpa using O
  subst e;obtain⟨o,e,c,d⟩:=st;exact⟨o,e,λv z=>by rw[d]at z;cases z⟩
 keep:=λi h h' st k=>st.at λo e=>k it ⋯ o e
 item:=by intro X Y hw hK hc i pins s σ H E I Q st hg;subst Y hw hK;obtain⟨xs,x,U,hx⟩:=hg;obtain⟨its,rv,p,hz⟩:=I.tuple U;obtain⟨u,hu,ru⟩:=rv.get hx;obtain⟨f0,f1,f2,f3,f4,f5⟩:=Q it ⋯;refine wpAny_pyNext_tuple_item st (show s.heap.IsTuple a its.toArray from p) (x:=u) (by simpa using hu) λh' a9 sb=>?_;have I1:Inv X pins σ H {s with heap:=h'}:=I.turned (t':=s.toks) (λb o O e=>(sb.2 b O).trans e) f0 f1 f3 f4 f5;obtain⟨o,e,c,d⟩:=id a9;exact⟨u,rfl,oH (s:={s with heap:=h'}) e c d ⋯ ⟨x,H,I1,ru,⟨rfl,λys hy=>by rw[I.TR hy U];exact hx⟩,a9,λb O=>(Q b O).1⟩⟩
 done:=by intro X Y hw hK hc i pins s σ H E I Q st hg;subst Y hw hK;obtain⟨xs,U,hx⟩:=hg;obtain⟨its,rv,p,hz⟩:=I.tuple U;obtain⟨f0,f1,f2,f3,f4,f5⟩:=Q it ⋯;have hl:=rv.length;exact wpAny_pyNext_tuple_end (I.ok.hd hc) st (show s.heap.IsTuple a its.toArray from p) (by simp;omega) λh' eb=>⟨rfl,I.turned (t':=s.toks) (λb o O e=>eb b o O e) f0 f1 f3 f4 f5⟩
 self:=λ_ _ _ _ _ st h=>wpAny_pyIter_tupleiter st h
theorem bG{P:il}{w:hG}{K:LM}{tg:eh}(it:dn)(lo:Int)(n:Nat):Turn P w K tg (Dd lo n) [it] it (λi h=>IsRangeIter h it (lo+(i:Nat)*1) ((n:Int) - (i:Nat)) 1) where
 mem:=by simp
 obj:=λi h st b O=>by
  have e:b=it:=by simpa using O
  subst e;exact⟨_,st,λv z=>by have z':Data.fields _=Data.cell v:=z;cases z'⟩
 keep:=λi h h' st k=>k it ⋯ _ st
 item:=by intro X U hw Y hc i pins s σ H E I Q st hg;subst U hw Y;obtain⟨f0,f1,f2,f3,f4,f5⟩:=Q it ⋯;have W:=Walks.range (prog:=X.prog) (w:=X.w) (I.ok.hd hc) it lo 1 n;refine W.item i s _ _ hg st λv h' tk hv a7 kk=>?_;obtain⟨t,rfl⟩:=hv;have I1:Inv X pins σ H {s with heap:=h',toks:=tk}:=I.turned (λb o O e=>kk b o (by simpa using O) e) f0 f1 f3 f4 f5;refine⟨_,rfl,oH (s:={s with heap:=h',toks:=tk}) (n:="range_iterator") a7 rfl rfl ⋯ ⟨.int (lo+i),H,I1,⟨t,?_⟩,⟨rfl,rfl⟩,a7,λb O=>(Q b O).1⟩⟩;rw[OY]
 done:=by intro X U hw Y hc i pins s σ H E I Q st hg;subst U hw Y;obtain⟨f0,f1,f2,f3,f4,f5⟩:=Q it ⋯;exact wpAny_pyNext_range_end (I.ok.hd hc) st (by have:n<=i:=hg;omega) λh' eb=>⟨rfl,I.turned (t':=s.toks) (λb o O e=>eb b o O e) f0 f1 f3 f4 f5⟩
 self:=λ_ _ _ _ _ st h=>wpAny_pyIter_rangeiter st h
section
variable{X:Cx}{tg:eh}
theorem ai{J:UQ}{L:St}{H:Hp}{s:ed}{R:It->Hp->Prop}{E:EQ}{lo C:Int}{t u v:q7}{tk:Nat}(I:Inv X J L H s)(S : -(2 ^ 62)<=lo)(Z:lo<2 ^ 62)(Q : -(2 ^ 62)<=C)(U:C<2 ^ 62)
 (q:R (Dd lo (C - lo).toNat) H):wpAny (eg X.prog X.w) X.A (F8 (.ref s.heap.objs.size)) (T6 X J L tg R) E {s with heap:=s.heap.push {cls:= .type "range",data:= .fields #[.int lo t,.int C u,.int 1 v]},toks:=tk}:=by
 refine wpAny_pyIter_range (IsRange.new ..) (small_one S Z Q U) ?_;have O:Inv X J L H {s with heap:=s.heap.push {cls:= .type "range",data:= .fields #[.int lo t,.int C u,.int 1 v]},toks:=tk}:=I.kept λb o e=>LN _ e;refine⟨(s.heap.push {cls:= .type "range",data:= .fields #[.int lo t,.int C u,.int 1 v]}).objs.size,[(s.heap.push {cls:= .type "range",data:= .fields #[.int lo t,.int C u,.int 1 v]}).objs.size],_,_,H,rfl,
  O.kept (t':=tk) λb o e=>LN _ e,bG _ lo (C - lo).toNat,?_,λb Y=>?_,q⟩
 ·have a:lo+((0:Nat):Int)*1=lo:=by simp
  have d:(((C - lo).toNat:Nat):Int) - ((0:Nat):Int)=Builtin.Range.rangeSize lo C 1:=by rw[rangeSize_one];split<;>omega
  show IsRangeIter _ _ (lo+((0:Nat):Int)*1) ((((C - lo).toNat:Nat):Int) - ((0:Nat):Int)) 1;rw[a,d];exact Ma _ rfl
 ·have e:b=(s.heap.push {cls:= .type "range",data:= .fields #[.int lo t,.int C u,.int 1 v]}).objs.size:=by simpa using Y
  subst e;exact O.uO (LW _)<|O.f6.fresh<|LW _
noncomputable def GE(C:TA):TI:=λd H R=>C d H λb a=>∃j:Int,b=[.int j]/\ -(2 ^ 62)<=j/\j<2 ^ 62/\R (Dd 0 j.toNat) a
noncomputable def GD(C:TA):TI:=λd H R=>C d H λb a=>∃i j:Int,b=[.int i,.int j]/\(-(2 ^ 62)<=i/\i<2 ^ 62/\ -(2 ^ 62)<=j/\j<2 ^ 62)/\R (Dd i (j - i).toNat) a
theorem fZ{a:eh}{C:TA}{p pos:g5}(Q:Gl X "range")(U:X.mg "range" = cO)(J:PA X [a] C)(hs:fA [a] X.env=[(cR,el a X.env)]:=by rfl):PI X tg (.Call (.Name "range" p) [a] [] pos) (GE C):=by
 intro b s k H R I h;refine Dc<|kI I Q U boot_range<|MC (e9 (J pos b s k H _ I h) λn m Y=>?_) hs rfl;obtain⟨o,l,d,g,O⟩:=Y;obtain⟨j,e,O,f,q⟩:=O;subst e;cases g with
 | cons r i=>
  cases i;obtain⟨t,rfl⟩:=r;exact call_range_1 (ai d ⋯ ⋯ O f<|by simpa using q)
theorem fY(Y:Gl X "range")(J:X.mg "range" = cO)(C:PA X [a,b] ta)(hs:fA [a,b] X.env=[(cR,el a X.env),(cR,el b X.env)]:=by rfl)(U:fA [b] X.env=[(cR,el b X.env)]:=by rfl) :
 PI X tg (.Call (.Name "range" p) [a,b] [] pos) (GD ta):=by
 intro d s u H R I h;refine Dc (kI I Y J boot_range<|MC (e9 (C pos d s u H _ I h) λz x g=>?_) (by rw[hs,U])<|by rw[U];rfl);obtain⟨A,w,f,o,O⟩:=g;obtain⟨i,j,e,⟨O,k,l,m⟩,q⟩:=O;subst e;cases o with
 | cons r Q=>
  cases Q with
  | cons n Q=>
   cases Q;obtain⟨t,rfl⟩:=r;obtain⟨y,rfl⟩:=n;exact call_range_2<|ai f O k l m q
noncomputable def IK(L:TI)(g:TG)(C:TS):TS:=λD a H=>L a H λJ f=>∃W:Nat->Nat->St->Hp->Prop,(∃m,W 0 m a f)/\∀i m a H,W i m a H->
 (J.stop i H/\D.nx a H)\/(J.go i H/\∃N:St->Hp->Prop,(∀d b,N d b->∃e,e<m/\W (i+1) e d b)/\∀x b,J.A6 i H x b->g x a b λI h=>C {D with nx:=N,ct:=N,bk:=D.nx} I h)
noncomputable def YH(fp:List dn)(h:fy):List (dn×mu):=fp.filterMap λb=>(h.get? b).map λo=>(b,o)
theorem vn(I:b∈fp)(e:h.get? b=cq o):(b,o)∈YH fp h:=List.mem_filterMap.mpr ⟨b,I,by rw[e];rfl⟩
theorem gF(I:p∈YH fp h):p.1∈fp/\h.get? p.1=cq p.2:=by
 obtain⟨b,O,e⟩:=List.mem_filterMap.mp I;cases q:h.get? b with
 | none=>rw[q]at e;cases e
 | some o=>
  rw[q]at e;have Q:(b,o)=p:=MN e;subst Q;exact⟨O,q⟩
theorem Inv.pinned(I:Inv X pins σ H s)(U : ∀b∈fp,vD X pins H b)(Y : ∀b∈fp,∃o,s.heap.get? b=cq o/\∀v,o.data ≠ .cell v):Inv X (pins++YH fp s.heap) σ H s:=
 I.M4 λp f=>(OV.mp f).elim (λz=>I.pin p<|Mr _ z) λz=>by obtain⟨O,e⟩:=gF z;obtain⟨a,f1,f2,_⟩:=U p.1 O;obtain⟨o,Q,d⟩:=Y p.1 O;rw[e]at Q;cases Q;exact⟨e,a,f1,f2,d⟩
theorem Inv.Ht(I:Inv X (pins++pl) σ H s):Inv X pins σ H s:=I.M4 λp O=>I.pin p<|Mr _<|Si _ O
theorem pW(C:O7 (eg X.prog X.w) X.A X.env X.xe)(hc:X.calm=cM)(hi:PI X tg iter wi)(hg:PG X tg g)(O:rr X body tb)
 (hs : ∀x,pk iter X.env x=pure x:=by intro _;rfl):PS X (.For tg iter body [] pos) (IK wi g tb):=by
 intro a s σ H D I h;refine wpAny_For (e9 (hi a s σ H _ I h) λv s1 h1=>e9 h1 λc8 s2 h2=>?_) hs;obtain⟨it,y,tn,J,H2,e,I2,T,b5,f2,W,⟨m0,w0⟩,b8⟩:=h2;subst e;have G : ∀{l:Hp},(∀b∈y,l b=cO)->∀b∈y,vD X a l b:=λhn b O=>⟨hn b O,(f2 b O).2⟩;refine codeAny_forLoop_any (λn s'=>∃i j l,Inv X a j l s'/\tn i s'.heap/\(∀b∈y,l b=cO)/\W i n j l) ?_ m0 ⟨0,σ,H2,I2,b5,λb O=>(f2 b O).1,w0⟩;rintro n s3 ⟨i,k,F,S,B,Z,w3⟩;rcases b8 i n k F w3 with⟨E,qn⟩ | ⟨go,N,hN,step⟩
 ·refine Ry C (e9 (T.done X rfl rfl rfl hc i a s3 k F X.xe S (G Z) B E) λr s4 t=>?_)
  obtain⟨L,I4⟩:=t;subst L;exact U3 ⟨k,F,I4,qn⟩
 ·refine Ry C (e9 (T.item X rfl rfl rfl hc i a s3 k F X.xe S (G Z) B go) λr s4 t=>?_)
  obtain⟨u,L,h4⟩:=t;subst L;refine Ry C<|e9 h4 λ_ s5 t=>?_;obtain⟨x,R,I5,r5,y5,K,bv⟩:=t;have bx:=I5.pinned (G bv)<|T.obj _ _ K;refine Ry C<|e9 (hg _ s5 k R x u _ bx r5<|step x R y5) λ_ s6 t=>?_;obtain⟨P,H6,I6,q6⟩:=t;refine Ry C<|e9 (O _ s6 P H6 _ I6 q6) λf M p=>?_;have again : ∀{Q:St} {U:Hp},Inv X (a++YH y s5.heap) Q U M->N Q U->∃m,m<n/\∃i j l,Inv X a j l M/\tn i M.heap/\(∀b∈y,l b=cO)/\W i m j l:=λ{Q U} Y z=>by obtain⟨m',hm,w7⟩:=hN Q U z;refine⟨m',hm,i+1,Q,U,Y.Ht,T.keep _ _ _ K λb O o e=>(Y.pin (b,o)<|Mr _<|Mr _<|vn O e).1,λb O=>?_,w7⟩;obtain⟨o,e,d⟩:=T.obj _ _ K b O;exact(Y.pin (b,o)<|Mr _<|Mr _<|vn O e).2.1
  cases f with
  | next=>obtain⟨Q,U,Y,z⟩:=p;exact again Y z
  | cont=>obtain⟨Q,U,Y,z⟩:=p;exact again Y z
  | brk=>obtain⟨Q,U,Y,p⟩:=p;exact⟨Q,U,Y.Ht,p⟩
  | ret v=>obtain⟨x7,Q,U,Y,r7,p⟩:=p;exact⟨x7,Q,U,Y.Ht,r7,p⟩
end
theorem Vd{lo:Int}{n:Nat}{g:TG}{Y:TS}{D:Ends}{C:St}{H:Hp}(I:Nat->St->Hp->Prop)(U:I 0 C H)
 (hs : ∀i C H,i<n->I i C H->g (.int<|lo+i) C H λO L=>Y {D with nx:=I<|i+1,ct:=I<|i+1,bk:=D.nx} O L) (Z : ∀C H,I n C H->D.nx C H) :
 ∃W:Nat->Nat->St->Hp->Prop,(∃m,W 0 m C H)/\∀i m C H,W i m C H->
  ((Dd lo n).stop i H/\D.nx C H)\/((Dd lo n).go i H/\∃N:St->Hp->Prop,(∀J H',N J H'->∃S,S<m/\W (i+1) S J H')/\∀x H',(Dd lo n).A6 i H x H'->g x C H' λO L=>Y {D with nx:=N,ct:=N,bk:=D.nx} O L):=by
 refine⟨λi m C H=>m=n - i/\i<=n/\I i C H,⟨n,by simp,MR _,U⟩,?_⟩;rintro i m C H ⟨rfl,b,p⟩;by_cases Q:i<n
 ·refine .inr ⟨Q,I<|i+1,λJ H' a=>⟨n - (i+1),by omega,rfl,Q,a⟩,λx H' y=>?_⟩
  obtain⟨e,y⟩:=y;subst e y;exact hs i C _ Q p
 ·have e:i=n:=by omega
  subst e;exact .inl ⟨LW _,Z C H p⟩
abbrev R2:=V->V->Hp->VK->Prop
noncomputable def i8(X:Cx)(f:dy->dy->Sem dy)(r:R2):Prop:=
 ∀(a:UQ) (s:ed) (b:St) (H:Hp) (x y:V) (v u:dy) (Q:VK),Inv X a b H s->RelV x v->RelV y u->r x y H Q->
  wpAny (eg X.prog X.w) X.A (f v u) (EP X a b Q) X.xe s
noncomputable def O9(X:Cx)(f:dy->Sem dy)(r:V->Hp->VK->Prop):Prop:=
 ∀(a:UQ) (s:ed) (b:St) (H:Hp) (x:V) (v:dy) (Q:VK),Inv X a b H s->RelV x v->r x H Q->
  wpAny (eg X.prog X.w) X.A (f v) (EP X a b Q) X.xe s
noncomputable def ZP(X:Cx)(f:dy)(r:List V->Hp->VK->Prop):Prop:=
 ∀(a:UQ) (s:ed) (e:St) (H:Hp) (d:List V) (b:List dy) (Q:VK),Inv X a e H s->eK d b->r d H Q->
  wpAny (eg X.prog X.w) X.A (call f b) (EP X a e Q) X.xe s
noncomputable def Lu(X:Cx)(r:V->Hp->(Bool->Hp->Prop)->Prop):Prop:=
 ∀(a:UQ) (s:ed) (b:St) (H:Hp) (x:V) (v:dy) (Q:Bool->Hp->Prop),Inv X a b H s->RelV x v->r x H Q->
  wpAny (eg X.prog X.w) X.A (G8 v) (TP X a b Q) X.xe s
noncomputable def G5(r:R2)(C I:TE):TE:=λa H Q=>C a H λx b=>I a b λy d=>r x y d Q
noncomputable def P'(r:V->Hp->VK->Prop)(C:TE):TE:=λb H Q=>C b H λx a=>r x a Q
noncomputable def rI(C:Int->Int->Prop)(g:Int->Int->V):R2:=λx y H Q=>∃i j,x = .int i/\y = .int j/\C i j/\Q (g i j) H
noncomputable def t7(g:Int->Int->V):R2:=λx y H Q=>∃i j,x = .int i/\y = .int j/\Q (g i j) H
noncomputable def rU(g:Int->V):V->Hp->VK->Prop:=λx H Q=>∃i,x = .int i/\Q (g i) H
section
variable{X:Cx}{a b c:eh}{ta tb tc:TE}{pos:g5}
theorem GT(ha:PE X a ta)(U:PE X b tb){C:UQ}{s:ed}{L:St}{H:Hp}{R:V->V->Hp->Prop}(I:Inv X C L H s)
 (h:ta L H λx H1=>tb L H1 λy J=>R x y J) {Q:EQ} {f:dy->dy->Sem dy}
 (Y : ∀v u s2 x y J,Inv X C L J s2->RelV x v->RelV y u->R x y J->wpAny (eg X.prog X.w) X.A (f v u) Q X.xe s2) :
 wpAny (eg X.prog X.w) X.A (el a X.env) (λv S=>wpAny (eg X.prog X.w) X.A (el b X.env) (λu Z=>wpAny (eg X.prog X.w) X.A (f v u) Q X.xe Z) X.xe S) X.xe s:=by
 refine e9 (ha C s L H _ I h) λv l O=>?_;obtain⟨x,H1,d,j,g⟩:=O;refine e9 (U C l L H1 _ d g) λu s2 O=>?_;obtain⟨y,J,e,k,i⟩:=O;exact Y v u s2 x y J e j k i
theorem tZ{O:Operator}{r:R2}(U:i8 X (uM O) r)(C:PE X a ta)(Y:PE X b tb):PE X (.BinOp a O b pos) (G5 r ta tb):=by intro d s k H Q I h;exact wpAny_BinOp<|GT C Y I h λv u j x y e f g i q=>U d j k e x y v u Q f g i q
theorem Ge(O:O9 X (unaryOp op) r)(C:PE X a ta):PE X (.UnaryOp op a pos) (P' r ta):=by intro b s d H Q I h;exact UnaryOp_<|e9 (C b s d H _ I h) λv g ⟨x,e,U,Y,f⟩=>O b g d e x v Q U Y f
theorem M3{f:dy->dy->Sem dy}{C:Int->Int->Prop}{g:Int->Int->Int}
 (rule : ∀(i j:Int) (t u:q7) (s:ed) (Q:EQ) (E:EQ),C i j->Q (.int (g i j) s.toks) {s with toks:=s.toks+1}->wpAny (eg X.prog X.w) X.A (f (.int i t)<|.int j u) Q E s) :
 i8 X f (rI C λi j=> .int (g i j)):=by
 intro a s d H x y v u Q I O U h;obtain⟨i,j,rfl,rfl,Y,q⟩:=h;obtain⟨t,rfl⟩:=O;obtain⟨b,rfl⟩:=U;exact rule i j t b s _ _ Y ⟨.int<|g i j,H,I.tok _,⟨_,rfl⟩,q⟩
theorem HQ{f:dy->dy->Sem dy}{g:Int->Int->Int}
 (rule : ∀(i j:Int) (t u:q7) (s:ed) (Q:EQ) (E:EQ),Q (.int (g i j) s.toks) {s with toks:=s.toks+1}->wpAny (eg X.prog X.w) X.A (f (.int i t)<|.int j u) Q E s) :
 i8 X f (t7 λi j=> .int (g i j)):=by
 intro a s d H x y v u Q I O U h;obtain⟨i,j,rfl,rfl,q⟩:=h;obtain⟨t,rfl⟩:=O;obtain⟨b,rfl⟩:=U;exact rule i j t b s _ _ ⟨.int<|g i j,H,I.tok _,⟨_,rfl⟩,q⟩
theorem Gh{f:dy->dy->Sem dy}{g:Int->Int->Bool}
 (rule : ∀(i j:Int) (t u:q7) (s:ed) (Q:EQ) (E:EQ),Q (.bool<|g i j) s->wpAny (eg X.prog X.w) X.A (f (.int i t)<|.int j u) Q E s) :
 i8 X f (t7 λi j=> .bl (g i j)):=by
 intro a s d H x y v u Q I O U h;obtain⟨i,j,rfl,rfl,q⟩:=h;obtain⟨t,rfl⟩:=O;obtain⟨b,rfl⟩:=U;exact rule i j t b s _ _ ⟨.bl<|g i j,H,I,rfl,q⟩
noncomputable def IA(i j:Int):Prop:=0<j/\j<1073741824
noncomputable def Iz(i j:Int):Prop:=0<=j/\j<=1000000/\i.natAbs<2 ^ 64
noncomputable def DP(i j:Int):Prop:=(-(2 ^ 64)<i/\i<2 ^ 64)\/(-(2 ^ 64)<j/\j<2 ^ 64)
theorem DP.ok(h:DP i j):IntMulOk i j:=by
 rcases h with⟨a,b⟩ | ⟨a,b⟩
 ·exact .of_left<|intBits_le_64 a b
 ·exact .of_right<|intBits_le_64 a b
theorem H_:i8 X (uM .Add) (t7 λi j=> .int (i+j)):=HQ λ_ _ _ _ _ _ _ q=>add_int q
theorem Ci:i8 X (uM .Sub) (t7 λi j=> .int (i - j)):=HQ λ_ _ _ _ _ _ _ q=>sub_int q
theorem I':i8 X (uM .Mult) (rI DP λi j=> .int (i*j)):=M3 λ_ _ _ _ _ _ _ I q=>mul_int q I.ok
theorem ui:i8 X (uM .FloorDiv) (rI IA λi j=> .int (i/j)):=M3 λi j _ _ _ _ _ I q=>by have a:(0:Int)<j:=I.1;have b:j<1073741824:=I.2;exact floordiv_int ⋯ (by rw[Int.fdiv_eq_ediv_of_nonneg i ⋯];exact q)<|.inl<|PyProof.noPylong_small ⋯
theorem Cn:i8 X (uM .Mod) (rI (λ_ j=>0<j) λi j=> .int (i%j)):=M3 λi j _ _ _ _ _ I q=>by have a:(0:Int)<j:=I;exact mod_int' ⋯ (by rw[Int.fmod_eq_emod_of_nonneg i ⋯];exact q)
theorem Ck:i8 X (uM .Pow) (rI Iz λi j=> .int (i ^ j.toNat)):=M3 λ_ _ _ _ _ _ _ I q=>pow_int_small I.1 I.2.1 I.2.2 q
theorem Q_{f:dy->Sem dy}{g:Int->Int}
 (rule : ∀(i:Int) (t:q7) (s:ed) (Q:EQ) (E:EQ),Q (.int (g i) s.toks) {s with toks:=s.toks+1}->wpAny (eg X.prog X.w) X.A (f<|.int i t) Q E s) :
 O9 X f (rU λi=> .int (g i)):=by
 intro a s b H x v Q I O h;obtain⟨i,rfl,q⟩:=h;obtain⟨t,rfl⟩:=O;exact rule i t s _ _ ⟨.int<|g i,H,I.tok _,⟨_,rfl⟩,q⟩
theorem AL:O9 X (unaryOp .USub) (rU λi=> .int (-i)):=Q_ λ_ _ _ _ _ q=>neg_int q
end
section
variable{X:Cx}{a b c:eh}{ta tb tc:TE}{pos:g5}
theorem CZ(I:Inv X pins σ H s)(q:Q (.bl k) H)(e:k=k'):EP X pins σ Q (.bool k') s:=by subst e;exact⟨.bl k,H,I,rfl,q⟩
theorem Co:i8 X (o4 .Lt) (t7 λi j=> .bl (decide<|i<j)):=Gh λ_ _ _ _ _ _ _ q=>lt_int q
theorem ug:i8 X (o4 .LtE) (t7 λi j=> .bl (decide<|i<=j)):=Gh λ_ _ _ _ _ _ _ q=>le_int q
theorem Gg:i8 X (o4 .Gt) (t7 λi j=> .bl (decide<|j<i)):=Gh λ_ _ _ _ _ _ _ q=>gt_int q
theorem Cp:i8 X (o4 .Is) (λx y H Q=>y = .ez/\Q (.bl<|decide<|x = .ez) H):=by
 intro a s b H x y v u Q I O U h;obtain⟨rfl,q⟩:=h;cases U;refine is_none_gen<|CZ I q ?_;cases x<;>first
  | (cases O;rfl)
  | (obtain⟨t,rfl⟩:=O;rfl)
theorem i8.or(h:i8 X f r)(h':i8 X f r'):i8 X f (λx y H Q=>r x y H Q\/r' x y H Q):=by
 intro a s b H x y v u Q I O U q;rcases q with q | q
 ·exact h a s b H x y v u Q I O U q
 ·exact h' a s b H x y v u Q I O U q
theorem Xw(b:eh)(h:op ≠ .In:=by decide)(C:op ≠ .NotIn:=by decide):z3 op b=cR:=by
 have a:(op==CmpOp.In)=cR:=by cases op<;>first | rfl | exact absurd rfl h
 have I:(op==CmpOp.NotIn)=cR:=by cases op<;>first | rfl | exact absurd rfl C
 cases b<;>simp[z3,a,I]
theorem ub{O:CmpOp}{r:R2}(U:i8 X (o4 O) r)(C:PE X a ta)(Y:PE X b tb)(J:z3 O b=cR):PE X (.Compare a [O] [b] pos) (G5 r ta tb):=by intro d s k H Q I h;exact wpAny_Compare1 (GT C Y I h λv u j x y e f g i q=>U d j k e x y v u Q f g i q) J
noncomputable def AU(t:TE):TT:=λb H Q=>t b H λx a=>∃k,x = .bl k/\Q k a
theorem fM(O:i8 X (o4 op) r)(C:PE X a ta)(U:PE X b tb)(Y:z3 op b=cR):PT X (.Compare a [op] [b] pos) (AU<|G5 r ta tb):=by
 intro d s f H Q I h;refine T_ (e9 (C d s f H _ I h) λv E ⟨x,g,l,w,o⟩=>e9 (U d E f g _ l o) λu F ⟨y,i,m,A,p⟩=>
  e9 (O d F f i x y v u _ m w A p) λc G ⟨z,j,n,B,k,e,t⟩=>?_) Y
 subst e;cases B;exact NW ⟨j,n,t⟩
noncomputable def pI(r C:R2)(ta tb tc:TE):TE:=λa H Q=>ta a H λx b=>tb a b λy d=>r x y d λz I=>∃k,z = .bl k/\
 (if k=cM then tc a I λe O=>C y e O Q else Q (.bl cR) I)
theorem nC(ho:i8 X (o4 op) r)(C:i8 X (o4 F5) r')(J:PE X a ta)(L:PE X b tb)(S:PE X c tc)
 (Z:S4 [op,F5] [b,c]=cR:=by with_unfolding_all rfl):PE X (.Compare a [op,F5] [b,c] pos) (pI r r' ta tb tc):=by
 intro f s g H Q I h;refine Compare_chain (e9 (J f s g H _ I h) λv G ⟨x,j,n,B,t⟩=>chain_link (e9 (L f G g j _ n t) λu K ⟨y,l,o,i,w⟩=>
  e9 (ho f K g l x y v u _ o B i w) λd M ⟨z,O,U,E,k,e,Y⟩=>?_)) Z
 subst e;cases E;refine NW ?_;cases k with
 | false=>exact ite_ff ⟨.bl cR,O,U,rfl,Y⟩
 | true=>exact ite_tt<|chain_last<|e9 (S f M g O _ U Y) λP N ⟨R,m,p,F,A⟩=>C f N g m y R u P Q p i F A
theorem mU{O U:CmpOp}{r C:R2}(ho:i8 X (o4 O) r)(J:i8 X (o4 U) C)(L:PE X a ta)(S:PE X b tb)(Z:PE X c tc)
 (hm:S4 [O,U] [b,c]=cR:=by with_unfolding_all rfl):PT X (.Compare a [O,U] [b,c] pos) (AU<|pI r C ta tb tc):=by
 intro f s g H Q I h;refine isTrue_chain (e9 (L f s g H _ I h) λv s1 ⟨x,m,t,R,K⟩=>test_link (e9 (S f s1 g m _ t K) λu s2 ⟨y,n,w,l,M⟩=>
  e9 (ho f s2 g n x y v u _ w R l M) λd s3 ⟨z,Y,i,T,k,e,j⟩=>?_)) hm
 subst e;cases T;refine NW ?_;cases k with
 | false=>
  obtain⟨k',E,G⟩:=j;cases E;exact ite_ff ⟨Y,i,G⟩
 | true=>
  refine ite_tt<|test_last<|e9 (Z f s3 g Y _ i j) λw' s4 ⟨z',o,A,W,N⟩=>e9 (J f s4 g o y z' u w' _ A l W N) λd' s5 ⟨z2,p,B,r5,k2,F,P⟩=>?_;subst F;cases r5;exact NW ⟨p,B,P⟩
noncomputable def Iu(K:LM)(x:V)(H:Hp)(k:Bool):Prop:=
 match x with
 | .ez=>k=cR
 | .bl b=>k=b
 | .int i=>k=(i != 0)
 | .str y=>y.length<=fe/\k=((y.length:Int) != 0)
 | .E6 y=>y.size<=fe/\k=((y.size:Int) != 0)
 | .ref p=>(∃d,gB K H p d/\k = !d.isEmpty)\/(∃d,gu K H p d/\k = !d.isEmpty)\/∃a,H p=cq (.dK a)/\k = !a.isEmpty
 | _=>False
theorem cP(r:KV m9 vs):(!vs.isEmpty) = !m9.isEmpty:=by cases r<;>rfl
theorem XE(r:eK xs its):(!its.toArray.isEmpty) = !xs.isEmpty:=by cases r<;>simp
theorem JU:(fe:Nat)<2 ^ 63:=by rw[Pg];decide
theorem AO:Lu X (λx H Q=>∃k,Iu X.K x H k/\Q k H):=by
 intro o s C H x v Q I U h;obtain⟨k,e,q⟩:=h;have A:=JU;have B:fe=16777216:=Pg;cases x with
 | ez=>
  cases U;have O:k=cR:=e;subst O;exact truthy_none ⟨H,I,q⟩
 | bl b=>
  cases U;have O:k=b:=e;subst O;exact NW ⟨H,I,q⟩
 | int i=>
  obtain⟨t,rfl⟩:=U;have O:k=(i != 0):=e;subst O;exact PySem.P.truthy_int ⟨H,I,q⟩
 | str y=>
  obtain⟨t,rfl⟩:=U;obtain⟨z,O⟩:y.length<=fe/\k=((y.length:Int) != 0):=e;subst O;exact PySem.P.truthy_str ⋯ ⟨H,I.tok _,q⟩
 | E6 y=>
  obtain⟨t,rfl⟩:=U;obtain⟨z,O⟩:y.size<=fe/\k=((y.size:Int) != 0):=e;subst O;exact PySem.W.truthy_bytes ⋯ ⟨H,I.tok _,q⟩
 | ref p=>
  cases U;have O:(∃d,gB X.K H p d/\k = !d.isEmpty)\/(∃d,gu X.K H p d/\k = !d.isEmpty)\/∃a,H p=cq (.dK a)/\k = !a.isEmpty:=e;rcases O with⟨d,f,O⟩ | ⟨d,f,O⟩ | ⟨a,f,O⟩
  ·subst O
   obtain⟨j,r,Y,n⟩:=I.list f;have l:=r.length;exact wpAny_truthy_list Y.isList (by simp only[Mb];omega) ⟨H,I.tok _,by rw[XE r];exact q⟩
  ·subst O
   obtain⟨j,r,Y,n⟩:=I.tuple f;have l:=r.length;exact truthy_tuple Y (by simp only[Mb];omega) ⟨H,I.tok _,by rw[XE r];exact q⟩
  ·subst O
   obtain⟨n,u,g,r,m⟩:a.length<=fe/\(p==C6)=cR/\∃g,KV a g/\s.heap.DictOf (xC X.prog X.w) p g:=I.f6 p _ f;have l:a.length=g.length:=Paired.length r;exact wpAny_truthy_dict u m ⋯ ⟨H,I.tok _,by rw[cP r];exact q⟩
 | _=>exact(show False from e).elim
theorem mT(J:PE X a ta)(U : ∀O,DF a X.env O=(do let v <- O;DM a.pos;t5 [v] (G8 v))) :
 PT X a (λC H Q=>ta C H λx H'=>∃k,Iu X.K x H' k/\Q k H'):=by
 intro b s C H Q I h;exact isTrue_plain (e9 (J b s C H _ I h) λv g ⟨x,d,Y,f,e⟩=>AO b g C d x v Q Y f e)<|U _
theorem yh(r:eK [x] us) : ∃u,us=[u]/\RelV x u:=by
 cases r with
 | cons I a=>cases a;exact⟨_,rfl,I⟩
theorem mh(r:eK [x,y] us) : ∃u w',us=[u,w']/\RelV x u/\RelV y w':=by
 cases r with
 | cons I a=>
  cases a with
  | cons O Q=>cases Q;exact⟨_,_,rfl,I,O⟩
theorem iZ(U:X.calm=cM):ZP X (.builtin "max") (λxs H Q=>∃i j,xs=[.int i,.int j]/\Q (.int (if j>i then j else i)) H):=by
 intro a s l H xs f Q I r h;obtain⟨i,j,rfl,q⟩:=h;obtain⟨u,g,rfl,⟨t,rfl⟩,⟨d,rfl⟩⟩:=mh r;refine max_two_ints (I.ok.hd U) λb e k=>⟨_,H,I.kept k,?_,q⟩;by_cases O:j>i
 ·rw[UJ O,UJ O];exact⟨_,rfl⟩
 ·rw[UY O,UY O];exact⟨_,rfl⟩
theorem iY(U:X.calm=cM):ZP X (.builtin "min") (λxs H Q=>∃i j,xs=[.int i,.int j]/\Q (.int (if j<i then j else i)) H):=by
 intro a s l H xs f Q I r h;obtain⟨i,j,rfl,q⟩:=h;obtain⟨u,g,rfl,⟨t,rfl⟩,⟨d,rfl⟩⟩:=mh r;refine min_two_ints (I.ok.hd U) λb e k=>⟨_,H,I.kept k,?_,q⟩;by_cases O:j<i
 ·rw[UJ O,UJ O];exact⟨_,rfl⟩
 ·rw[UY O,UY O];exact⟨_,rfl⟩
theorem lg:ZP X (.type "int") (λxs H Q=>(∃i,xs=[.int i]/\Q (.int i) H)\/∃k,xs=[.bl k]/\Q (.int (if k then 1 else 0)) H):=by
 intro a s d H xs b Q I r h;rcases h with⟨i,rfl,q⟩ | ⟨k,rfl,q⟩
 ·obtain⟨u,rfl,t,rfl⟩:=yh r
  exact call_int_int ⟨.int i,H,I,⟨_,rfl⟩,q⟩
 ·obtain⟨u,rfl,O⟩:=yh r
  cases O;exact call_int_bool ⟨.int<|if k then 1 else 0,H,I.tok _,⟨_,rfl⟩,q⟩
end
theorem yg.some_of(r:yg (cq v) o) : ∃u,o=cq u/\RelV v u:=by
 cases o with
 | none=>exact(show False from r).elim
 | some u=>exact⟨u,rfl,r⟩
structure nh(k:Nat)(A:k0):Prop where
 hd:A.handled=cO
 dp:A.depth+3*k+5<recursionLimit
 un:A.units+16*k+200<DC
theorem nh.mono(r:nh k A)(h:j<=k):nh j A:=⟨r.hd,by have:=r.dp;omega,by have:=r.un;omega⟩
theorem nh.deeper(r:nh (k+1) A)(env:n7):nh k (A.deeper env):=
 ⟨r.hd,by have:=r.dp;show A.depth+1+3*k+5<_;omega,by have:=r.un;show A.units+3+16*k+200<_;omega⟩
theorem nh.in1(r:nh (k+1) A):nh k A.in1:=
 ⟨r.hd,by have:=r.dp;show A.depth+3*k+5<_;omega,by have:=r.un;show A.units+1+16*k+200<_;omega⟩
theorem nh.depth(r:nh k A):A.depth<recursionLimit:=by have:=r.dp;omega
noncomputable def HC:TA:=λ_ H Q=>Q [] H
noncomputable def AW(C:TE)(I:TA):TA:=λa H Q=>C a H λx b=>I a b λe d=>Q (x::e) d
section
variable{X:Cx}{e:eh}{es:List eh}{te:TE}{t:TA}{pos:g5}
theorem qG:PA X [] HC:=λ_ _ _ _ H Q I h=>RE ⟨[],H,I,.nil,h⟩
theorem jA(C:PE X e te)(O:PA X es t)(hs:fA (e::es) X.env=(cR,el e X.env)::fA es X.env:=by rfl):PA X (e::es) (AW te t):=by intro pos a s b H Q I h;rw[hs];show wpAny _ _ (M9 ((cR,el e X.env)::r6 pos (fA es X.env))) _ _ s;refine Rq<|e9 (C a s b H _ I h) λu m U=>?_;obtain⟨x,d,Y,k,i⟩:=U;exact e9 (O pos a m b d _ Y i) λp o ⟨n,f,g,l,j⟩=>⟨x::n,f,g,.cons k l,j⟩
noncomputable def IE(t:TA):TE:=λd H Q=>t d H λb a=>b.length<=fe/\∀p,a p=cO->Q (.ref p) (upd a p<|.tup b)
noncomputable def II(t:TA):TE:=λd H Q=>t d H λb a=>b.length<=fe/\∀p,a p=cO->Q (.ref p) (upd a p<|.lst b)
theorem BV(h:PA X es t):PE X (.Tuple es x1 pos) (IE t):=by intro a s j H Q I U;refine wpAny_Tuple_spliced<|e9 (h pos a s j H _ I U) λg d ⟨i,f,O,r,z,q⟩=>⟨by rw[<- r.length];exact z,?_⟩;have Y:f d.heap.objs.size=cO:=O.f6.fresh<|LW _;refine⟨.ref d.heap.objs.size,upd f d.heap.objs.size<|.tup i,O.laid (t':=d.toks) (λb u e=>LN _ e) (LW _) ?_,rfl,q _ Y⟩;exact⟨z,g,r,⟨_,Ma _ rfl,rfl,_,rfl⟩⟩
theorem BZ(h:PA X es t):PE X (.List es pos) (II t):=by intro a s j H Q I U;refine wpAny_List_spliced<|e9 (h pos a s j H _ I U) λg d ⟨i,f,O,r,z,q⟩=>⟨by rw[<- r.length];exact z,?_⟩;have Y:f d.heap.objs.size=cO:=O.f6.fresh<|LW _;refine⟨.ref d.heap.objs.size,upd f d.heap.objs.size<|.lst i,O.laid (t':=d.toks) (λb u e=>LN _ e) (LW _) ?_,rfl,q _ Y⟩;exact⟨z,g,0,r,Ma _ rfl⟩
end
abbrev Sp:=List V->Hp->VK->XK->Prop
abbrev t8:=List n7->Hp->ed->XK->dy->ed->Prop
structure A9(P:il)(w:hG)(K:LM)(mg:UZ)(base:fy)(A:k0)(outer:List n7)(s:ed)(H:Hp):Prop where
 frames:A.frames=cq outer
 mod:Mod K mg base
 bs : ∀b o,base.get? b=cq o->s.heap.get? b=cq o/\H b=cO
 z4:base.objs.size<=s.heap.objs.size
 t4:s.heap.FunFrames base outer
 Dk : ∀b∈vl outer,H b=cO
 f6:l7 P w H s.heap
 bare:C9 s.gens
noncomputable def CE(outer:List n7)(P:il)(w:hG)(H:Hp)(s:ed)(Q:VK)(u:dy)(C:ed):Prop:=
 ∃v a,C.os=s.os/\C9 C.gens/\Un (vl outer) [] H a s.heap C.heap/\l7 P w a C.heap/\RelV v u/\Q v a
noncomputable def CR(CX:t8)(outer:List n7)(P:il)(w:hG)(H:Hp)(s:ed)(Q:VK)(E:XK)(r:Result)(C:ed):Prop:=
 match r with
 | .ok (.ret u)=>CE outer P w H s Q u C
 | .ok _=>False
 | .error e=>CX outer H s E e C
structure qs(P:il)(w:hG)(K:LM)(mg:UZ)(base:fy)(CX:t8)(k:Nat)(f:dn)(fd:q5)(ps:List Str)(sp:Sp):Prop where
 len : ∀vs H Q E,sp vs H Q E->vs.length=ps.length
 run : ∀(A:k0) (outer:List n7) (s:ed) (H:Hp) (args:Args) (us:List dy) (vs:List V) (Q:VK) (E:XK),nh k A->A9 P w K mg base A outer s H->Ig s fd args (ps.zip us)->eK vs us->sp vs H Q E->
  codeAny (eg P w) A (.call (.ref f) args) (CR CX outer P w H s Q E) s
theorem A9.in1{P:il}{w:hG}{K:LM}{C:UZ}{base:fy}{A:k0}{outer:List n7}{s:ed}{H:Hp}(e:A9 P w K C base A outer s H) :
 A9 P w K C base A.in1 outer s H:=⟨e.frames,e.mod,e.bs,e.z4,e.t4,e.Dk,e.f6,e.bare⟩
section
variable{X:Cx}{pins:UQ}{σ:St}{H:Hp}{s s':ed}
theorem Inv.B6(I:Inv X pins σ H s):A9 X.prog X.w X.K X.mg X.base X.A X.stack s H:=
 ⟨I.ok.frames,I.ok.mod,I.bs,Nv I.ok.z4 I.sz,I.stack,I.UD,I.f6,I.bare⟩
theorem Inv.after(I:Inv X pins σ H s)(h:CE X.stack X.prog X.w H s Q u s'):EP X pins σ Q u s':=by obtain⟨v,f,os,a,un,e,r,q⟩:=h;obtain⟨O,g,d,t,U⟩:=s';obtain rfl:U=s.os:=os;exact⟨v,f,I.call (h':=O) (g':=g) (d':=d) (t':=t) (ch:=[]) un e a<|λb z=>absurd z ⋯,r,q⟩
end
noncomputable def sA(sp:Sp)(C:List V)(E:XK)(t:TA):TE:=λd H Q=>t d H λb a=>sp (b++C) a Q E
noncomputable def Binds(K:LM)(C:q5)(ps:List Str)(ds:List dy):Prop:=
 ∀(s:ed) (a:List dy),K.In s.heap->(a++ds).length=ps.length->Ig s C ⟨a,[]⟩ (ps.zip<|a++ds)
theorem Binds.all{K:LM}{C:q5}{ps:List Str}(h : ∀us:List dy,us.length=ps.length->Uc C ⟨us,[]⟩=pure (ps.zip us)):Binds K C ps []:=λs us _ I=>by rw[OA]at I ⊢;exact .of_eq<|h us I
noncomputable def lG(CX:t8)(X:Cx)(E:XK):Prop:=∀(a:UQ) (d:St) (H:Hp) (s:ed) (e:dy) (b:ed),Inv X a d H s->CX X.stack H s E e b->X.xe e b
section
variable{X:Cx}{CX:t8}{k:Nat}{f C:dn}{fd:q5}{ps:List Str}{sp:Sp}{DV:List V}{ds:List dy}{E:XK}{x m:Str}{p pos apos:g5}{e o:eh}{es:List eh}{ta:TE}{t:TA}
theorem Bn(F:qs X.prog X.w X.K X.mg X.base CX k f fd ps sp)(U:nh k X.A)(Y:Binds X.K fd ps ds)(J:eK DV ds)(hx:lG CX X E)
 (I:Inv X pins σ H s) (r:eK vs us) (h:sp (vs++DV) H Q E):wpAny (eg X.prog X.w) X.A (call (.ref f) us) (EP X pins σ Q) X.xe s:=by
 have a:eK (vs++DV) (us++ds):=r.append J;have d:(us++ds).length=ps.length:=by rw[<- a.length];exact F.len _ _ _ _ h
 refine wpAny_call<|Ss (F.run X.A X.stack s H ⟨us,[]⟩ (us++ds) (vs++DV) Q E U I.B6 (Y s us I.DH d) a h) λr g O=>?_;cases r with
 | error e=>exact hx pins σ H s e g I O
 | ok b=>
  cases b with
  | ret u=>exact I.after O
  | next=>exact Ou O
  | brk=>exact Ou O
  | cont=>exact Ou O
theorem gi(F:qs X.prog X.w X.K X.mg X.base CX k f fd ps sp)(U:nh k X.A)(Y:Gl X x)(hm:X.mg x=cq (.ref f))(hk:Ro X.K (.ref f)=cM)(Z:Binds X.K fd ps ds)(hd:eK DV ds)(hx:lG CX X E)
 (S:PA X (e::es) t) (J:(x==("__debug__" : Str))=cR:=by decide) (he:fA (e::es) X.env=(cR,el e X.env)::fA es X.env:=by rfl) (L:(r6 pos (fA es X.env)).any (·.1)=cR:=by rfl) :
 PE X (.Call (.Name x p) (e::es) [] pos) (sA sp DV E t):=by
 intro a s b H Q I h;refine Ot<|gS I Y hm ?_ J;refine PySem.W.callWith_K (h₀:=X.base) I.ok.mod.S3 hk (e9 (S pos a s b H _ I h) λi g ⟨j,d,O,r,q⟩=>⟨O.DH,?_⟩) he L;exact Bn F U Z hd hx O r q
end
structure D5(N P:List Str)(sc:hL):Prop where
 kind:sc.kind = .function
 co:sc.isCoroutine=cR
 gen:sc.isGenerator=cR
 nd:N.Nodup
 pre:N.take P.length=P
 par : ∀x∈P,sc.names.lookup x=cq .local\/sc.names.lookup x=cq .cell
 F_ : ∀y∈sc.names,y.2 ≠ .free
theorem Vp{kindOf:Str->Option u4}{x:Str} : ∀{I:List (Str×dy)} {m:UZ},(∀v,(x,v)∉I)->DB kindOf I m x=m x
 | [],_,_=>rfl
 | (n,v)::r,m,h=>by
  unfold DB;rw[Vp λw a=>h w (Mg _ a)];split
  ·have:x≠n:=by rintro rfl;exact h v Mh
   simp[this]
  ·rfl
theorem Vs{kindOf:Str->Option u4}{x:Str} : ∀{I:List (Str×dy)} {m:UZ},(∀v,(x,v)∉I)->Dz kindOf I m x=m x
 | [],_,_=>rfl
 | (n,v)::r,m,h=>by
  unfold Dz;rw[Vs λw a=>h w (Mg _ a)];split
  ·rfl
  ·have:x≠n:=by rintro rfl;exact h v Mh
   simp[this]
theorem Vq{kindOf:Str->Option u4}{x:Str}{v:dy} : ∀{P:List Str} {vs:List dy} {i:Nat} {m:UZ},P.Nodup->P[i]? = cq x->vs[i]? = cq v->kindOf x=cq .local->
 DB kindOf (P.zip vs) m x=cq v
 | [],_,_,_,_,h,_,_=>by simp at h
 | _::_,[],_,_,_,_,h,_=>by simp at h
 | p::P,w::vs,0,m,nd,h1,h2,hk=>by simp at h1 h2;subst h1;subst h2;show DB kindOf ((p,w)::P.zip vs) m p=_;unfold DB;rw[Vp λv I=>(NA.mp nd).1 (List.of_mem_zip I).1,UJ hk];simp
 | p::P,w::vs,i+1,m,nd,h1,h2,hk=>by show DB kindOf ((p,w)::P.zip vs) m x=_;unfold DB;exact Vq (i:=i) (NA.mp nd).2 (by simpa using h1) (by simpa using h2) hk
theorem Vt{kindOf:Str->Option u4}{x:Str}{v:dy} : ∀{P:List Str} {vs:List dy} {i:Nat} {m:UZ},P.Nodup->P[i]? = cq x->vs[i]? = cq v->kindOf x≠cq .local->
 Dz kindOf (P.zip vs) m x=cq v
 | [],_,_,_,_,h,_,_=>by simp at h
 | _::_,[],_,_,_,_,h,_=>by simp at h
 | p::P,w::vs,0,m,nd,h1,h2,hk=>by simp at h1 h2;subst h1;subst h2;show Dz kindOf ((p,w)::P.zip vs) m p=_;unfold Dz;rw[Vs λv I=>(NA.mp nd).1 (List.of_mem_zip I).1,UY hk];simp
 | p::P,w::vs,i+1,m,nd,h1,h2,hk=>by show Dz kindOf ((p,w)::P.zip vs) m x=_;unfold Dz;exact Vt (i:=i) (NA.mp nd).2 (by simpa using h1) (by simpa using h2) hk
noncomputable def Jt(N:List Str)(vs:List V):St:=vs.map cq++LQ (N.length - vs.length) cO
noncomputable def Ac(CX:t8)(P:il)(w:hG)(K:LM)(mg:UZ)(base:fy)(N:List Str)(qual:Str)(scope:hL)(f:dn)(I:dy)(A:k0)(outer:List n7)(s:ed)(H:Hp)(E:XK):Cx where
 prog:=P
 w:=w
 K:=K
 mg:=mg
 base:=base
 A:=A.deeper<|envOfC qual scope s.heap.objs.size f I
 N:=N
 n5:=s
 D6:=H
 env:=L0 qual scope s.heap.objs.size f I
 outer:=outer
 stack:=L0 qual scope s.heap.objs.size f I::outer
 ex:=[]
 calm:=cM
 fn:=λ_=>cM
 pn:=[]
 xe:=λe s'=>wpAny (eg P w) (A.deeper<|envOfC qual scope s.heap.objs.size f I) (leaving (L0 qual scope s.heap.objs.size f I) e) (λ_ O=>CX outer H s E e O) (λQ O=>CX outer H s E Q O) s'
theorem bq{C:hL}{n:Nat}{x:Str}(h:C.names.lookup x=cq .cell) : ∃c,(tr n C.names []).lookup x=cq c:=by have q:=Px C.names n [] (.inl h);exact NX.mp q
theorem hU{CX:t8}{P:il}{w:hG}{K:LM}{C:UZ}{base:fy}{N ps:List Str}{qual:Str}{scope:hL}{f:dn}{U:dy}{A:k0}{outer:List n7}{s J:ed}{H:Hp}{E:XK}{us:List dy}{vs:List V}
 (S:D5 N ps scope) (L:A.handled=cO) (I:A9 P w K C base A outer s H) (Z:vs.length=ps.length) (r:eK vs us)
 (x:InCallC s s.heap.objs.size (DB (L0 qual scope s.heap.objs.size f U).kindOf (ps.zip us) λ_=>cO) (tr (s.heap.objs.size+1) scope.names []) (Dz (L0 qual scope s.heap.objs.size f U).kindOf (ps.zip us) λ_=>cO) J) :
 Inv (Ac CX P w K C base N qual scope f U A outer s H E) [] (Jt N vs) H J:=by
 have F:ps.length<=N.length:=by have:=congrArg List.length S.pre;rw[Rb]at this;omega
 obtain⟨g,M,rfl,m⟩:=x.done;have Y : ∀b:dn,b∉(Ac CX P w K C base N qual scope f U A outer s H E).ex:=λb z=>absurd (show b∈([]:List dn)from z) ⋯;refine⟨⟨I.mod,S.kind,rfl,rfl,LW _,λy z c g d=>?_,λy O=>?_,λy c _ h=>?_,λ_=>L,Around.frames_deeper I.frames,.inr ⟨rfl,rfl⟩,λb z=>absurd z<|Y b,I.bs,I.z4,λb _ _=>Y b,λb z=>absurd z<|Y b,I.t4,I.Dk⟩,
  rfl,I.bare,Un.kept m,⟨_,x.toInCall.ns,λi y v g d G=>?_⟩,λy c h=>⟨_,x.cell y c h⟩,I.f6.fresh<|LW _,λy c h=>?_,λp Q=>absurd (show p∈([]:UQ)from Q) ⋯,I.f6.kept m,?_⟩
 ·exact name_of_addr x.apart (Pn g)<|Pn d
 ·have O:scope.names.lookup y=cq .cell\/scope.names.lookup y=cq .free:=O
  rcases O with O | O
  ·exact bq O
  ·exact absurd rfl<|S.F_ _<|Pn O
 ·exact Sh<|x.above y c<|Pn h
 ·have j:i<vs.length:=by
   unfold Jt at d;by_cases j:i<vs.length
   ·exact j
   ·rw[MX (by simpa using j)]at d
    rw[PB]at d;split at d<;>cases d
  have t:vs[i]? = cq v:=by
   unfold Jt at d;rw[Nk (by simpa using j),MV]at d;cases e:vs[i]? with
   | none=>rw[e]at d;cases d
   | some a=>rw[e]at d;cases d;rfl
  obtain⟨u,o,B⟩:=r.get t;have Q:ps[i]? = cq y:=by rw[<- S.pre,List.getElem?_take_of_lt ⋯];exact g
  have l:ps.Nodup:=by rw[<- S.pre];exact S.nd.sublist<|List.take_sublist _ _
  refine⟨u,B,?_⟩;rcases S.par y (Na Q)with k | k
  ·exact .inl ⟨k,Vq l Q o k⟩
  ·obtain⟨c,e⟩:=bq (n:=s.heap.objs.size+1) k
   refine .inr ⟨.inl k,c,e,?_⟩;have q:=x.cell y c e;rw[Vt l Q o (by show scope.names.lookup y≠_;rw[k];decide)]at q;exact q
 ·exact I.f6.fresh<|Sh<|x.above y c<|Pn h
 ·unfold Jt
  show _=N.length;rw[Nf,Mm,List.length_replicate];omega
theorem GI{CX:t8}{P:il}{w:hG}{K:LM}{mg:UZ}{base:fy}{k:Nat}{f:dn}{name qual:Str}{a0:Arguments}{L:List kA}{scope:hL}{dV kV Z pm C ct oc:dy}{an od:Option dn}
 {Th:Array (Option dy)} {N ps:List Str} {sp:Sp} (lk:K.lookup f=cq ⟨oc,od,.func<|PH name qual a0 L scope dV kV Z pm an C ct,Th⟩) (a5:RZ K C qual=cM) (S:D5 N ps scope)
 (len : ∀vs H Q E,sp vs H Q E->vs.length=ps.length)
 (a6 : ∀(A:k0) (outer:List n7) (s:ed) (H:Hp) (vs:List V) (Q:VK) (E:XK),nh k (A.deeper<|envOfC qual scope s.heap.objs.size f C)->sp vs H Q E->
   ∃t,rr (Ac CX P w K mg base N qual scope f C A outer s H E) L t/\t {nx:=λ_ H'=>Q .ez H',rt:=Q} (Jt N vs) H) :
 qs P w K mg base CX (k+1) f (PH name qual a0 L scope dV kV Z pm an C ct) ps sp:=by
 refine⟨len,λA outer s H l X vs Q E U O hb r i=>?_⟩;have G:=len _ _ _ _ i;have h:K.In s.heap:=O.mod.S3.keeps λb o e=>(O.bs b o e).1;have lim:s.heap.NoLimit:=O.mod.nolimit.keeps λb o e=>(O.bs b o e).1;have p : ∀y∈ps.zip X,scope.names.lookup y.1=cq .local\/(scope.names.lookup y.1=cq .cell/\((tr (s.heap.objs.size+1) scope.names []).lookup y.1).isSome=cM):=λ⟨n,v⟩ T=>by
  rcases S.par n (List.of_mem_zip T).1 with q | q
  ·exact .inl q
  ·exact .inr ⟨q,Px _ _ _<|.inl q⟩
 refine codeAny_call_function U.depth (h _ _ lk) rfl S.co S.gen rfl (PySem.W.codeRec_of h a5)<|hb _ _ _ _ ?_;refine wpAny_newFunctionEnv_cells S.kind p λz F m x=>?_;subst F;refine⟨lim.keeps x.toInCall.keep,codeAny_func ?_⟩;obtain⟨t,R,M⟩:=a6 A outer s H vs Q E (U.deeper _) i;have I:Inv (Ac CX P w K mg base N qual scope f C A outer s H E) [] (Jt N vs) H m:=hU S U.hd O G r x;refine Oh (R [] m (Jt N vs) H _ I M) (λB g d=>?_) λe g d=>d;have j : ∀{a:St} {H':Hp} {v:V} {u:dy},Inv (Ac CX P w K mg base N qual scope f C A outer s H E) [] a H' g->RelV v u->Q v H'->CE outer P w H s Q u g:=
  λ{a H' v u} J Y q=>⟨v,H',J.os,J.bare,J.base,J.f6,Y,q⟩
 cases B with
 | ret u=>
  obtain⟨v,a,H',J,Y,q⟩:=d;exact j J Y q
 | next=>
  obtain⟨a,H',J,q⟩:=d;exact j (v:=V.ez) (u:=MM) J rfl q
 | brk=>
  obtain⟨_,_,_,q⟩:=d;exact Ou q
 | cont=>
  obtain⟨_,_,_,q⟩:=d;exact Ou q
section
variable{X:Cx}{x:Str}{p pos:g5}{e:eh}{es:List eh}{t:TA}{id T:String}{r:List V->Hp->VK->Prop}
noncomputable def UH(r:List V->Hp->VK->Prop)(t:TA):TE:=λd H Q=>t d H λb a=>r b a Q
theorem yn(O:ZP X (.builtin id) r)(U:Gl X x)(Y:X.mg x=cO)(hv:Di x=cq (.builtin id))(L:PA X (e::es) t)(Z:x ≠ "__name__":=by decide)(C:(x==("__debug__" : Str))=cR:=by decide)
 (S:fA (e::es) X.env=(cR,el e X.env)::fA es X.env:=by rfl) (J:(r6 pos<|starEach es X.env).any (·.1)=cR:=by rfl):PE X (.Call (.Name x p) (e::es) [] pos) (UH r t):=by
 intro a s b H Q I h;refine Ot<|kI I U Y hv ?_ Z C;exact PyProof.Rows.callWith_builtin1 (e9 (L pos a s b H _ I h) λk j ⟨l,d,f,i,g⟩=>O a j b d l k Q f i g) S J
theorem JM(O:ZP X (.type T) r)(U:Gl X x)(Y:X.mg x=cO)(hv:Di x=cq (.type T))(L:PA X (e::es) t)(Z:x ≠ "__name__":=by decide)(C:(x==("__debug__" : Str))=cR:=by decide)
 (S:fA (e::es) X.env=(cR,el e X.env)::fA es X.env:=by rfl) (J:(r6 pos<|starEach es X.env).any (·.1)=cR:=by rfl):PE X (.Call (.Name x p) (e::es) [] pos) (UH r t):=by
 intro a s b H Q I h;refine Ot<|kI I U Y hv ?_ Z C;exact MC (e9 (L pos a s b H _ I h) λk j ⟨l,d,f,i,g⟩=>O a j b d l k Q f i g) S J
end
end L2
namespace HT
open PySem PyProof.Rows
section
variable{prog:il}{w:hG}{A:k0}{E:EQ}{s:ed}
theorem GS(S:o7 s.heap t vs.toArray)(L:o7 s.heap b ws.toArray)(U:vs ≠ [])
 (C:ws=[]->Q (.ref t) s) (J:ws ≠ []->Q (.ref s.heap.objs.size) {s with heap:=s.heap.push {cls:= .type "tuple",data:= .seq (vs++ws).toArray}})
 (hsz:vs.length+ws.length<=fe):wpAny (eg prog w) A (uM .Add (.ref t)<|.ref b) Q E s:=by
 obtain⟨⟨cls,Y,data,l⟩,I,i,n,j⟩:=id S;obtain⟨⟨m,d,data2,f⟩,O,g,k,h⟩:=id L;simp only at i j g h;subst i j g h;have e:vs.toArray++ws.toArray=(vs++ws).toArray:=by simp
 by_cases a:ws=[]
 ·exact SW ⟨_,I,rfl⟩ ⟨_,O,rfl⟩ Ua Uz RH RB (Rt _ _)
   (tuple_addW1 t b vs.toArray ws.toArray n k Y d l f (by simpa using U)<|by simp[a]) ⟨I,O,C a⟩
 ·refine SW ⟨_,I,rfl⟩ ⟨_,O,rfl⟩ Ua Uz RH RB (Rt _ _)
   (tuple_addW2 t b vs.toArray ws.toArray n k Y d l f (by simpa using U) (by simpa using a)<|by rw[Mb,Mb];exact hsz) ⟨I,O,?_⟩
  rw[e];exact J a
noncomputable def di(n d:Nat):Option Int->Nat
 | none=>d
 | some v=>if v<0 then (v+(n:Int)).toNat else min v.toNat n
theorem Bj(n d:Nat)(C:d<=n)(o:Option Int):di n d o<=n:=by
 cases o with
 | none=>exact C
 | some v=>
  show(if v<0 then (v+(n:Int)).toNat else min v.toNat n)<=n;by_cases I:v<0
  ·rw[UJ I];omega
  ·rw[UY I];exact Nat.min_le_right _ _
theorem iU(v:Int)(n d:Nat):(if v<0 then max (v+(n:Int)) 0 else min v (n:Int))=((di n d (cq v):Nat):Int):=by
 show(if v<0 then max (v+(n:Int)) 0 else min v (n:Int))=(((if v<0 then (v+(n:Int)).toNat else min v.toNat n):Nat):Int);by_cases I:v<0
 ·simp only[UJ I];omega
 ·simp only[UY I];omega
theorem dh(lo C:Option Int)(n:Nat):Ra lo C 1 (n:Int)=(((di n 0 lo:Nat):Int),((di n n C:Nat):Int)):=by
 have a : ¬((1:Int)<0):=by omega
 unfold Ra;simp only[a,if_false];refine Prod.ext ?_ ?_
 ·cases lo with
  | none=>rfl
  | some v=>exact iU v n 0
 ·cases C with
  | none=>rfl
  | some v=>exact iU v n n
theorem ck(i j:Nat):OQ (i:Int) (j:Int) 1=j - i:=by
 unfold OQ;have a:(1:Int)>0:=by omega
 simp only[a,if_true,Int.ediv_one];split<;>omega
theorem Xm(p:B0 v o)(h:Q o s):wpAny (eg prog w) A (Builtin.Slice.slicePartIndex v) Q E s:=by
 cases p with
 | none=>exact slicePart_none h
 | int i t=>exact slicePart_int h
theorem ZH{J:dn}{I O:dy}{lo C:Option Int}{n:Nat}{Q:Int×Int×Nat->ed->Prop}(hs:s.heap.IsSliceOf J I O .none)(L:B0 I lo)(S:B0 O C)
 (h:Q (((di n 0 lo:Nat):Int),1,di n n C - di n 0 lo) s):wpAny (eg prog w) A (Builtin.Slice.sliceApplied (.ref J)<|pure (n:Int)) Q E s:=by
 obtain⟨os,U,a,Y⟩:=id hs;unfold Builtin.Slice.sliceApplied Builtin.Slice.sliceFields;refine LK<|LK<|MJ U Y (x:=I) rfl<|LK<|MJ U Y (x:=O) rfl<|LK<|MJ U Y (x:= .none) rfl<|LU ?_;refine LK<|slicePart_none ?_;show wpAny _ _ (if ((1:Int)==0)=cM then _ else _) _ _ s;rw[UY ⋯];refine LK<|Xm L<|LK<|Xm S<|LK<|LU ?_;show wpAny _ _ (match Ra lo C 1 (n:Int)with | (lo,C)=>pure (lo,(1:Int),OQ lo C 1)) _ _ s;rw[dh lo C n];show wpAny _ _ (pure (((di n 0 lo:Nat):Int),(1:Int),OQ ((di n 0 lo:Nat):Int) ((di n n C:Nat):Int) 1)) _ _ s;rw[ck];exact LU h
theorem nv(xs:Array dy)(i k:Nat):((LL k).filterMap λ(m:Nat)=>xs[((i:Int)+(m:Int)*1).toNat]?).toArray=((xs.toList.drop i).take k).toArray:=by
 have e:(λ(m:Nat)=>xs[((i:Int)+(m:Int)*1).toNat]?)=λm=>xs[i+m]? :=by
  funext m;have:((i:Int)+(m:Int)*1).toNat=i+m:=by omega
  rw[this]
 rw[e];have:=pick_run xs i k;rw[List.filterMap_map]at this;have I:((λx=>xs[x]?)∘λx=>i+x)=λm=>xs[i+m]? :=rfl;rw[I]at this;rw[this]
theorem cT{t J:dn}{items:Array dy}{U Y:dy}{lo C:Option Int}{Q:EQ}(I:o7 s.heap t items)(hs:s.heap.IsSliceOf J U Y .none)(S:B0 U lo)(Z:B0 Y C)
 (L : ¬(di items.size 0 lo=0/\di items.size items.size C=items.size))
 (h:Q (.ref s.heap.objs.size) {s with heap:=s.heap.push {cls:= .type "tuple",data:= .seq ((items.toList.drop (di items.size 0 lo)).take (di items.size items.size C - di items.size 0 lo)).toArray}})
 (hsz:items.size<=fe):wpAny (eg prog w) A (B9 (.ref t)<|.ref J) Q E s:=by
 have O:sizeOk (.seq ((items.toList.drop<|di items.size 0 lo).take (di items.size items.size C - di items.size 0 lo)).toArray):=by show((items.toList.drop<|di items.size 0 lo).take (di items.size items.size C - di items.size 0 lo)).toArray.size<=fe;rw[Mb,Rb,List.length_drop,Nz];omega
 have g:di items.size items.size C<=items.size:=Bj _ _ (LW _) C;obtain⟨os,a,b,f⟩:=id hs;have d:s.TypeIs (.ref J) "slice":=⟨os,a,b⟩;unfold B9
 try with_reducible refine NG ?_
 first | refine LK (LU ?_) | skip
 refine LK (V_ I.typeIs ⋯ ?_);refine LK (MK (name:=Mw "__getitem__") I.typeIs Ny
  (MS Ny I.typeIs entry_tuple_getitem ?_ (n_ _ _)))
 show wpAny _ _ (Builtin.Tuple.tupleItemsOf (.ref t) >>= _) _ _ s;refine LK<|Sf I ?_;refine LK<|Pf d ?_;rw[UJ ⋯];refine LK<|ZH hs S Z ?_;have e : ¬((((di items.size 0 lo:Nat):Int)==0 && (1:Int)==1 && (di items.size items.size C - di items.size 0 lo)==items.size)=cM):=by intro q;rw[Mi,Mi]at q;have i:((di items.size 0 lo:Nat):Int)=0:=eq_of_beq q.1.1;have j:di items.size items.size C - di items.size 0 lo=items.size:=eq_of_beq q.2;exact L ⟨by omega,by omega⟩
 show wpAny _ _ (if (((di items.size 0 lo:Nat):Int)==0 && (1:Int)==1 && (di items.size items.size C - di items.size 0 lo)==items.size)=cM then _ else _) _ _ s;rw[UY e,nv]
 first
  | exact LK (m:=Nu _)<|MZ (LU ⟨_,rfl,LU h⟩) O
  | exact LK (m:=Nu _)<|MZ (LK<|LU<|LU ⟨_,rfl,LU h⟩) O
  | exact LK<|LK (m:=Nu _)<|MZ (LU<|LU ⟨_,rfl,LU h⟩) O
  | exact LK<|LK (m:=Nu _)<|MZ (LU ⟨_,rfl,LU h⟩) O
end
end HT
namespace L2
open PySem PySem.Spec PyProof.Rows
abbrev TO:=St->Hp->(Option Int->Hp->Prop)->Prop
noncomputable def PO(X:Cx)(e:Option eh)(t:TO):Prop:=
 ∀(a:UQ) (s:ed) (b:St) (H:Hp) (Q:Option Int->Hp->Prop),Inv X a b H s->t b H Q->
  wpAny (eg X.prog X.w) X.A (evalPart e X.env) (λu f=>∃o d,Inv X a b d f/\B0 u o/\Q o d) X.xe s
noncomputable def sy:TO:=λ_ H Q=>Q cO H
noncomputable def FI(t:TE):TO:=λb H Q=>t b H λx a=>∃i,x = .int i/\Q (cq i) a
section
variable{X:Cx}{e:eh}{te:TE}{lo hi:Option eh}{tl th:TO}{pos p2:g5}
theorem tM:PO X cO sy:=by intro a s b H Q I h;rw[evalPart_none];exact LU ⟨cO,H,I,.none,h⟩
theorem tL(h:PE X e te):PO X (cq e) (FI te):=by intro a s g H Q I d;rw[evalPart_some];refine e9 (h a s g H _ I d) λu j O=>?_;obtain⟨x,b,U,Y,f⟩:=O;obtain⟨i,rfl,q⟩:=f;obtain⟨t,rfl⟩:=Y;exact⟨cq i,b,U,.int i t,q⟩
noncomputable def O8(X:Cx)(r:V->Option Int->Option Int->Hp->VK->Prop):Prop:=
 ∀(a:UQ) (s:ed) (d:St) (H:Hp) (x:V) (v I O:dy) (lo hi:Option Int) (b:dn) (Q:VK),Inv X a d H s->RelV x v->s.heap.IsSliceOf b I O .none->B0 I lo->B0 O hi->r x lo hi H Q->
  ∃T id,C8 (.type T) "__getitem__" = pure (cq (.builtin id))/\s.TypeIs v T/\wpAny (eg X.prog X.w) X.A (B9 v (.ref b)) (EP X a d Q) X.xe s
noncomputable def O_(r:V->Option Int->Option Int->Hp->VK->Prop)(te:TE)(tl th:TO):TE:=λa H Q=>te a H λx b=>tl a b λl d=>th a d λu I=>r x l u I Q
theorem nA(L:O8 X r)(C:PE X e te)(J:PO X lo tl)(S:PO X hi th):PE X (.Subscript e (.Slice lo hi cO p2) pos) (O_ r te tl th):=by intro a s d H Q I h;refine Ub (e9 (C a s d H _ I h) λv M p=>?_);obtain⟨x,g,j,K,E⟩:=p;refine wpAny_Slice (e9 (J a M d g _ j E) λU N ⟨l,i,k,z,F⟩=>e9 (S a N d i _ k F) λY O ⟨u,f,m,B,G⟩=>?_);rw[evalPart_none];refine LU ?_;have n:Inv X a d f {O with heap:=O.heap.push {cls:= .type "slice",data:= .fields #[U,Y,.none]}}:=m.kept (t':=O.toks) λb P q=>LN _ q;obtain⟨T,id,o,y,t⟩:=L a {O with heap:=O.heap.push {cls:= .type "slice",data:= .fields #[U,Y,.none]}} d f x v U Y l u O.heap.objs.size Q n K (Heap.IsSliceOf.new ..) z B G;show wpAny (eg X.prog X.w) X.A (UE e (.Slice lo hi cO p2) v (.ref O.heap.objs.size)) (EP X a d Q) X.xe {O with heap:=O.heap.push {cls:= .type "slice",data:= .fields #[U,Y,.none]}};exact tail_any (ops:=[.ref O.heap.objs.size,v]) y o t (by with_unfolding_all rfl)
noncomputable def Ae(xs:List V)(lo hi:Option Int):List V:=(xs.drop<|HT.di xs.length 0 lo).take (HT.di xs.length xs.length hi - HT.di xs.length 0 lo)
theorem Wr(xs:List V)(lo hi:Option Int):(Ae xs lo hi).length<=xs.length:=by unfold Ae;rw[Rb,List.length_drop];omega
noncomputable def IW(K:LM):V->Option Int->Option Int->Hp->VK->Prop:=λx lo hi H Q=>∃a b,x = .ref a/\gu K H a b/\
 ¬(HT.di b.length 0 lo=0/\HT.di b.length b.length hi=b.length)/\∀p,H p=cO->Q (.ref p) (upd H p<|.tup<|Ae b lo hi)
theorem Be:O8 X (IW X.K):=by
 intro g s w H x v t u lo hi p Q I Y i l m h;obtain⟨a,d,rfl,k,j,q⟩:=h;cases Y;obtain⟨e,r,U,f⟩:=I.tuple k;have O:e.toArray.size=d.length:=by rw[Mb];exact r.length.symm
 refine⟨"tuple",_,Ny.lookup,U.typeIs,?_⟩;refine HT.cT U i l m (by rw[O];exact j) ?_ (by rw[O];exact f);rw[O];refine⟨.ref s.heap.objs.size,_,I.laid (t':=s.toks) (o:= .tup (Ae d lo hi)) (λb n q=>LN _ q) (LW _) ?_,rfl,q _ (I.f6.fresh (LW _))⟩;exact⟨Nv (Wr d lo hi) f,_,(r.drop (HT.di d.length 0 lo)).take (HT.di d.length d.length hi - HT.di d.length 0 lo),uf.new _ _⟩
theorem eK.L8(r:eK xs us):us=[]↔xs=[]:=by
 cases r with
 | nil=>simp
 | cons _ _=>simp
end
noncomputable def DG(n:Nat)(i:Int):Option Nat:=if 0<=i then (if i<n then cq i.toNat else cO)else if -(n:Int)<=i then cq (i+n).toNat else cO
noncomputable def Dh{C:Type}(xs:List C)(i:Int):Option C:=(DG xs.length i).bind λj=>xs[j]?
theorem gZ(h:DG n i=cq j):seqIndex? i n=cq j/\j<n/\ -(n:Int)<=i/\i<n:=by
 unfold DG at h;by_cases I:0<=i
 ·rw[UJ I]at h
  by_cases a:i<n
  ·rw[UJ a]at h
   have e:i.toNat=j:=MN h;exact⟨by rw[Uy I a,e],by omega,by omega,a⟩
  ·rw[UY a]at h;cases h
 ·rw[UY I]at h
  by_cases a : -(n:Int)<=i
  ·rw[UJ a]at h
   have e:(i+n).toNat=j:=MN h;exact⟨by rw[Ux ⋯ a,e],by omega,a,by omega⟩
  ·rw[UY a]at h;cases h
theorem Wz(h:Dh xs i=cq v) : ∃j,seqIndex? i xs.length=cq j/\xs[j]? = cq v/\j<xs.length/\ -(xs.length:Int)<=i/\i<xs.length:=by
 unfold Dh at h;cases e:DG xs.length i with
 | none=>rw[e]at h;cases h
 | some j=>
  rw[e]at h;obtain⟨a,b,I,O⟩:=gZ e;exact⟨j,a,h,b,I,O⟩
noncomputable def WH(b:eh):Prop:=∀o i,TH b cR o i=operate [o,i] (B9 o i)
noncomputable def De(X:Cx)(r:R2):Prop:=
 ∀(b I:eh) (a:UQ) (s:ed) (d:St) (H:Hp) (x y:V) (v u:dy) (Q:VK),Inv X a d H s->RelV x v->RelV y u->r x y H Q->
  TH I cR v u=operate [v,u] (B9 v u)->wpAny (eg X.prog X.w) X.A (UE b I v u) (EP X a d Q) X.xe s
noncomputable def T5(X:Cx)(id:String)(r:V->List V->Hp->VK->Prop):Prop:=
 ∀(a:UQ) (s:ed) (e:St) (H:Hp) (x:V) (d:List V) (v:dy) (b:List dy) (Q:VK),Inv X a e H s->RelV x v->eK d b->r x d H Q->
  wpAny (eg X.prog X.w) X.A (call (.builtin id) (v::b)) (EP X a e Q) X.xe s
section
variable{X:Cx}{a b:eh}{ta tb:TE}{pos:g5}
theorem De.or(h:De X r)(h':De X r'):De X (λx y H Q=>r x y H Q\/r' x y H Q):=by
 intro a O b s e H x y v u Q I U Y q d;rcases q with q | q
 ·exact h a O b s e H x y v u Q I U Y q d
 ·exact h' a O b s e H x y v u Q I U Y q d
theorem Ca(O:De X r)(C:PE X a ta)(U:PE X b tb)(hs:WH b):PE X (.Subscript a b pos) (G5 r ta tb):=by intro d s j H Q I h;exact Ub<|GT C U I h λv u i x y e Y f g q=>O a b d i j e x y v u Q Y f g q<|hs _ _
noncomputable def La(K:LM):R2:=λx y H Q=>∃p a i v,x = .ref p/\y = .int i/\gB K H p a/\Dh a i=cq v/\Q v H
noncomputable def IY(K:LM):R2:=λx y H Q=>∃p a i v,x = .ref p/\y = .int i/\gu K H p a/\Dh a i=cq v/\Q v H
noncomputable def IZ:R2:=λx y H Q=>∃z i c,x = .str z/\y = .int i/\z.length<=fe/\Dh z.cps.toList i=cq c/\Q (.str ⟨#[c]⟩) H
theorem B_:De X (La X.K):=by
 intro e L a s l H x y v u Q I F G h k;obtain⟨p,R,i,z,rfl,rfl,E,B,q⟩:=h;cases F;obtain⟨t,rfl⟩:=G;obtain⟨d,r,O,P⟩:=I.list E;obtain⟨j,b,n,M,o,A⟩:=Wz B;obtain⟨w,Y,m⟩:=r.get n;have C:=r.length;have N:=JU;have f:EP X a l Q w s:=⟨z,H,I,m,q⟩;by_cases g:0<=i
 ·have U:i.toNat=j:=by
   rw[Uy g A]at b;exact MN b
  exact item_listR O.isList g ⋯ (by rw[U];simpa using Y) f k
 ·have U:(i+(d.toArray.size:Int)).toNat=j:=by
   rw[Ux ⋯ o]at b;rw[Mb,<- C];exact MN b
  exact N_ (x:=w) O.isList.typeIs slot_list_getitem.lookup
   (wpAny_getItem_list_neg (Q:=λr J=>r=w/\EP X a l Q r J) O.isList ⋯ (by rw[Mb]<;>omega) ⋯ (by rw[U];simpa using Y) ⟨rfl,f⟩) k
theorem CG:De X (IY X.K):=by
 intro b E a s d H x y v u Q I U Y h A;obtain⟨p,N,i,z,rfl,rfl,o,m,q⟩:=h;cases U;obtain⟨t,rfl⟩:=Y;obtain⟨B,r,O,M⟩:=I.tuple o;obtain⟨j,k,l,F,G,J⟩:=Wz m;obtain⟨w,g,e⟩:=r.get l;have n:=r.length;have L:=JU;have f:EP X a d Q w s:=⟨z,H,I,e,q⟩;exact N_ (x:=w) O.typeIs slot_tuple_getitem.lookup
  (getItem_tuple (j:=j) (Q:=λr C=>r=w/\EP X a d Q r C) O ⋯ ⋯ (by rw[Mb,<- n];exact k) (by simpa using g) ⟨rfl,f⟩) A
theorem CH:De X IZ:=by
 intro a o d s B H x y v u Q I O U h n;obtain⟨z,i,c,rfl,rfl,w,Y,q⟩:=h;obtain⟨t,rfl⟩:=O;obtain⟨A,rfl⟩:=U;obtain⟨j,b,g,p,k,l⟩:=Wz Y;have m:z.cps.toList.length=z.length:=by simp[Str.length]
 rw[m]at b k l;have r:=JU;exact tail_any (UU s z t) slot_str_getitem.lookup (getItem_str (c:=c) (by
  have e:decide (i < -(2 ^ 63:Int))=cR:=decide_eq_false ⋯;have f:decide (i>=2 ^ 63)=cR:=decide_eq_false ⋯;rw[e,f,Bool.or_false]) (by rw[b];simpa using g) ⟨.str ⟨#[c]⟩,H,I.tok _,⟨_,rfl⟩,q⟩) n
theorem cG(its:List dy)(n j:Nat)(u:dy):ME (·.setIfInBounds j u) {cls:= .type "list",data:= .seq its.toArray n} = {cls:= .type "list",data:= .seq (its.set j u).toArray n}:=by simp[ME]
theorem Inv.lst(I:Inv X pins σ H s)(h:H p=cq (.lst xs)) :
 ∃(its:List dy) (n:Nat),eK xs its/\s.heap.get? p=cq {cls:= .type "list",data:= .seq its.toArray n}/\xs.length<=fe:=by
 obtain⟨z,its,n,r,e⟩:=I.f6 p _ h;exact⟨its,n,r,e,z⟩
theorem Inv.E'{C:UQ}{J:St}{H:Hp}{s:ed}{p:dn}{xs ys:List V}{its its':List dy}{n n':Nat}{f:mu->mu}(I:Inv X C J H s)(h:H p=cq (.lst xs))
 (Q:s.heap.get? p=cq {cls:= .type "list",data:= .seq its.toArray n}) (O:f {cls:= .type "list",data:= .seq its.toArray n} = {cls:= .type "list",data:= .seq its'.toArray n'}) (r:eK ys its') (hz:ys.length<=fe) (t:Nat) :
 Inv X C J (upd H p<|.lst ys) {s with heap:=s.heap.update p f,toks:=t}:=by
 have e:(s.heap.update p f).get? p=cq {cls:= .type "list",data:= .seq its'.toArray n'}:=by rw[NB f Q (by rw[O]<;>rfl),O]
 refine I.write (x:=p) (e:=p) (by rw[h];trivial) (.inl rfl) (λb u U q=>(Mx _ _<|My U).trans q) ⟨_,e⟩ ?_;exact⟨hz,its',n',r,e⟩
noncomputable def FX:V->V->V->Hp->(Hp->Prop)->Prop:=λo i v H Q=>∃p a k j,o = .ref p/\i = .int k/\H p=cq (.lst a)/\DG a.length k=cq j/\Q (upd H p<|.lst<|a.set j v)
theorem W7:Iw X FX:=by
 intro b s C H o i v J G u Q I z y A h;obtain⟨p,B,k,j,rfl,rfl,m,w,q⟩:=h;cases z;obtain⟨t,rfl⟩:=y;obtain⟨a,n,r,O,x⟩:=I.lst m;obtain⟨d,E,g,l⟩:=gZ w;have U:=r.length;have F:=JU;have e:Inv X b C (upd H p<|.lst<|B.set j v) {s with heap:=s.heap.update p (ME (·.setIfInBounds j u))}:=
  I.E' m O (cG a n j u) (r.set A j) (by rw[List.length_set];exact x) s.toks
 by_cases f:0<=k
 ·have Y:k.toNat=j:=by
   rw[Uy f l]at d;exact MN d
  exact PySem.W.ki_setAt O f ⋯ (by rw[Mb,<- U];exact l) (by rw[Y];exact⟨_,e,q⟩)
 ·have Y:(k+(a.toArray.size:Int)).toNat=j:=by
   rw[Ux ⋯ g]at d;rw[Mb,<- U];exact MN d
  exact PySem.W.ki_setBack O ⋯ (by rw[Mb,<- U];exact g) ⋯ (by rw[Y];exact⟨_,e,q⟩)
noncomputable def KC:V->Bool
 | .ez=>cM
 | .bl _=>cM
 | .int _=>cM
 | .str _=>cM
 | _=>cR
noncomputable def B8:V->V->Bool
 | .ez,.ez=>cM
 | .bl a,.bl b=>a==b
 | .bl a,.int b=>(if a then 1 else 0)==b
 | .int a,.bl b=>a==(if b then 1 else 0)
 | .int a,.int b=>a==b
 | .str a,.str b=>a==b
 | _,_=>cR
theorem Eb(O:RelV y u)(I:RelV x v)(U:KC y=cM)(Q:KC x=cM):Np A s u v (B8 y x):=by
 cases y with
 | ez=>
  cases O;cases x with
  | ez=>cases I;exact Np.same _
  | bl b=>cases I;exact Np.none_bool b
  | int b=>obtain⟨t,rfl⟩:=I;exact Np.none_int b t
  | str b=>obtain⟨t,rfl⟩:=I;exact Np.none_str b t
  | _=>exact absurd (show cR=cM from Q) MP
 | bl a=>
  cases O;cases x with
  | ez=>cases I;exact Np.bool_none a
  | bl b=>cases I;exact Np.bool_bool a b
  | int b=>obtain⟨t,rfl⟩:=I;exact Np.bool_int a b t
  | str b=>obtain⟨t,rfl⟩:=I;exact Np.bool_str a b t
  | _=>exact absurd (show cR=cM from Q) MP
 | int a=>
  obtain⟨d,rfl⟩:=O;cases x with
  | ez=>cases I;exact Np.int_none a d
  | bl b=>cases I;exact Np.int_bool a d b
  | int b=>obtain⟨t,rfl⟩:=I;exact Pj a d b t
  | str b=>obtain⟨t,rfl⟩:=I;exact Np.int_str a d b t
  | _=>exact absurd (show cR=cM from Q) MP
 | str a=>
  obtain⟨d,rfl⟩:=O;cases x with
  | ez=>cases I;exact Np.str_none a d
  | bl b=>cases I;exact Np.str_bool a d b
  | int b=>obtain⟨t,rfl⟩:=I;exact Np.str_int a d b t
  | str b=>obtain⟨t,rfl⟩:=I;exact Np.str_str a d b t
  | _=>exact absurd (show cR=cM from Q) MP
 | _=>exact absurd (show cR=cM from U) MP
noncomputable def B7(x:V)(u:dy):Bool:=match u with
 | .none=>B8 .ez x
 | .bool b=>B8 (.bl b) x
 | .int i _=>B8 (.int i) x
 | .str z _=>B8 (.str z) x
 | _=>cR
theorem rC(r:RelV y u)(f:KC y=cM):B7 x u=B8 y x:=by
 cases y with
 | ez=>cases r;rfl
 | bl b=>cases r;rfl
 | int i=>obtain⟨t,rfl⟩:=r;rfl
 | str z=>obtain⟨t,rfl⟩:=r;rfl
 | _=>exact absurd (show cR=cM from f) MP
theorem WD : ∀{xs:List V} {us:List dy},eK xs us->xs.all KC=cM->us.any (B7 x)=xs.any λy=>B8 y x
 | _,_,.nil,_=>rfl
 | y::xs,u::us,.cons r t,f=>by rw[RM,Mi]at f;rw[RL,RL,rC r f.1,WD t f.2]
theorem Ks(O:RelV x v)(Q:KC x=cM) : ∀{xs:List V} {us:List dy},eK xs us->xs.all KC=cM->∀u∈us,Np A s u v (B7 x u)
 | _,_,.nil,_=>λu I=>by cases I
 | y::xs,u::us,.cons r t,f=>λU I=>by
  rw[RM,Mi]at f;rcases Mc.mp I with rfl | I
  ·rw[rC r f.1];exact Eb r O f.1 Q
  ·exact Ks O Q t f.2 U I
noncomputable def L4(x:V)(xs:List V):Bool:=xs.any λy=>B8 y x
noncomputable def J'(K:LM)(I:Bool):R2:=λx y H Q=>∃p a,y = .ref p/\(gB K H p a\/gu K H p a)/\KC x=cM/\a.all KC=cM/\Q (.bl<|if I then !L4 x a else L4 x a) H
theorem YL:i8 X (o4 .NotIn) (J' X.K cM):=by
 intro e s j H x y v u Q I Y g h;obtain⟨p,i,rfl,O,d,fs,q⟩:=h;cases g;rcases O with O | O
 ·obtain⟨a,r,U,f⟩:=I.list O
  refine SeqAt.notIn_listAt (B7 x) U.isList (λw b=>Ks Y d r fs w<|by simpa using b) ⟨.bl _,H,I,rfl,?_⟩;rw[show a.toArray.any (B7 x)=a.any (B7 x)by simp,WD r fs];exact q
 ·obtain⟨a,r,U,f⟩:=I.tuple O
  refine SeqAt.notIn_tupleAt (B7 x) U (λw b=>Ks Y d r fs w<|by simpa using b) ⟨.bl _,H,I,rfl,?_⟩;rw[show a.toArray.any (B7 x)=a.any (B7 x)by simp,WD r fs];exact q
theorem Vn:ZP X (.builtin "len") (λxs H Q=>∃p ys,xs=[.ref p]/\(gB X.K H p ys\/gu X.K H p ys)/\Q (.int ys.length) H):=by
 intro d s j H xs i Q I r h;obtain⟨p,ys,rfl,O,q⟩:=h;obtain⟨u,rfl,f⟩:=yh r;cases f;have g:=JU;rcases O with O | O
 ·obtain⟨a,b,U,e⟩:=I.list O
  have Y:=b.length;exact Calls.call_len_list U.isList (by simp only[Mb]<;>omega) ⟨.int ys.length,H,I.tok _,⟨s.toks+1,by rw[Mb,Y]⟩,q⟩
 ·obtain⟨a,b,U,e⟩:=I.tuple O
  have Y:=b.length;exact len_tuple U (by simp only[Mb]<;>omega) ⟨.int ys.length,H,I.tok _,⟨s.toks+1,by rw[Mb,Y]⟩,q⟩
theorem Vm:ZP X (.builtin "len") (λxs H Q=>∃z,xs=[.str z]/\z.length<=fe/\Q (.int z.length) H):=by intro a s e H xs d Q I r h;obtain⟨z,rfl,b,q⟩:=h;obtain⟨u,rfl,t,rfl⟩:=yh r;have O:=JU;exact len_str ⋯ ⟨.int z.length,H,I.tok _,⟨_,rfl⟩,q⟩
theorem Vl:ZP X (.type "list") (λxs H Q=>∃p ys,xs=[.ref p]/\(gB X.K H p ys\/gu X.K H p ys)/\∀l,H l=cO->Q (.ref l) (upd H l (.lst ys))):=by
 intro j s B H xs C Q I r h;obtain⟨p,ys,rfl,U,q⟩:=h;obtain⟨u,rfl,A⟩:=yh r;cases A;have x : ∀(a:List dy),eK ys a->ys.length<=fe->∀(d:fy) (O:Nat),(∀b y,s.heap.get? b=cq y->d.get? b=cq y)->
  d.get? s.heap.objs.size=cq {cls:= .type "list",dict:=cO,data:= .seq a.toArray O,slots:=#[]}->EP X j B Q (.ref s.heap.objs.size) {s with heap:=d}:=λa f g d O i e=>
  ⟨.ref s.heap.objs.size,_,I.laid (t':=s.toks) i (LW _) (show m3 X.prog X.w _ d _ (.lst ys)from⟨g,a,O,f,e⟩),rfl,q _<|I.f6.fresh<|LW _⟩
 rcases U with U | U
 ·obtain⟨a,f,Y,g⟩:=I.list U
  have z:=f.length;obtain⟨o,t,k,n,m⟩:=Y.isList;exact call_list_seq p (.inl rfl) t k m (λd O i e=>x a f g d O i e) (by simp only[Mb]<;>omega)
 ·obtain⟨a,f,Y,g⟩:=I.tuple U
  have z:=f.length;obtain⟨o,t,k,n,m⟩:=Y;exact call_list_seq p (.inr rfl) t k m (λd O i e=>x a f g d O i e) (by simp only[Mb]<;>omega)
theorem KQ:ZP X (.type "tuple") (λxs H Q=>∃p ys,xs=[.ref p]/\((gB X.K H p ys/\∀l,H l=cO->Q (.ref l) (upd H l (.tup ys)))\/(gu X.K H p ys/\Q (.ref p) H))):=by
 intro a s j H xs x Q I r h;obtain⟨p,ys,rfl,h⟩:=h;obtain⟨u,rfl,n⟩:=yh r;cases n;rcases h with⟨O,q⟩ | ⟨O,q⟩
 ·obtain⟨d,g,U,i⟩:=I.list O
  have t:=g.length;refine call_tuple_list U.isList (λf m=>?_) (by simp only[Mb]<;>omega);have Y:Inv X a j H {s with heap:=f}:=I.kept (t':=s.toks) m;have k:Inv X a j (upd H f.objs.size (.tup ys)) {s with heap:=f.push {cls:= .type "tuple",data:= .seq d.toArray}}:=
   Y.laid (t':=s.toks) (λb o e=>LN _ e) (LW _) (show m3 X.prog X.w _ _ _ (.tup ys)from⟨i,d,g,uf.new _ _⟩)
  exact⟨.ref f.objs.size,_,k,rfl,q _<|Y.f6.fresh<|LW _⟩
 ·obtain⟨d,g,U,i⟩:=I.tuple O
  exact call_tuple_same U ⟨.ref p,H,I,rfl,q⟩
noncomputable def UT(K:LM)(T:String)(x:V)(H:Hp):Prop:=match x with
 | .str _=>T = "str"
 | .int _=>T = "int"
 | .ref p=>(T = "list"/\∃b,gB K H p b)\/(T = "tuple"/\∃o,K.lookup p=cq o/\o.cls = .type "tuple"/\o.dict=cO)\/
  (T = "dict"/\((∃a,H p=cq (.dK a))\/∃a,H p=cq (.dT a)))\/(T = "set"/\∃S n,H p=cq (.set S n))
 | _=>False
theorem AM(I:Inv X pins σ H s)(r:RelV x v)(ty:UT X.K T x H) :
 s.TypeIs v T/\∀a,v = .ref a->∃U,s.heap.get? a=cq U/\U.dict=cO:=by
 cases x with
 | str z=>
  obtain⟨t,rfl⟩:=r;cases (show T = "str" from ty);exact⟨UU s z t,λ_ e=>nomatch e⟩
 | int i=>
  obtain⟨t,rfl⟩:=r;cases (show T = "int" from ty);exact⟨SU s i t,λ_ e=>nomatch e⟩
 | ref p=>
  cases r;rcases ty with⟨rfl,k,h⟩ | ⟨rfl,o,O,g,d⟩ | ⟨rfl,O⟩ | ⟨rfl,S,n,O⟩
  ·obtain⟨j,_,Y,_⟩:=I.list h
   refine⟨Y.isList.typeIs,λa e=>?_⟩;cases e;obtain⟨o,n,e,c,d,_⟩:=Y;exact⟨o,e,d⟩
  ·refine⟨⟨o,I.DH p o O,g⟩,λa e=>?_⟩
   cases e;exact⟨o,I.DH _ o O,d⟩
  ·have z : ∃o,s.heap.get? p=cq o/\o.ExactDict:=by
    rcases O with⟨f,O⟩ | ⟨f,O⟩
    ·obtain⟨_,_,_,_,o,_,_,e,b,_⟩:=I.f6 p _ O
     exact⟨o,e,b⟩
    ·obtain⟨_,_,_,_,o,_,_,e,b,_⟩:=I.f6 p _ O
     exact⟨o,e,b⟩
   obtain⟨o,e,b⟩:=z;refine⟨⟨o,e,b.1⟩,λa Q=>?_⟩;cases Q;exact⟨o,e,b.2.1⟩
  ·obtain⟨o,_,_,_,e,b,_⟩:=I.f6 p _ O
   refine⟨⟨o,e,b.1⟩,λa Q=>?_⟩;cases Q;exact⟨o,e,b.2.1⟩
 | _=>exact Ou ty
noncomputable def UG(K:LM)(T:String)(r:V->List V->Hp->VK->Prop)(to:TE)(t:TA):TE:=λb H Q=>to b H λx a=>UT K T x a/\t b a λe d=>r x e d Q
variable{o e:eh}{es:List eh}{to:TE}{t:TA}{name:Str}{apos cpos:g5}{T id:String}{r:V->List V->Hp->VK->Prop}
theorem Cc(pa:PlainAttrs T)(C:Slot T name id)(J:typeOf (.builtin id)=pure (.type "method_descriptor"))(hm:T5 X id r)(ho:PE X o to)(ha:PA X (e::es) t)
 (L:P2 o name X.env (el o X.env)=el o X.env:=by rfl)
 (S:((r6 cpos<|starEach (e::es) X.env).all (λx=> !x.1) && (P8 cpos<|keywordEach [] X.env).all (λx=>x.1.isSome)
   && decide ((e::es).length+([]:List Dx).length+(if ([]:List Dx).isEmpty then 0 else 1)<30))=cM:=by rfl)
 (Z:(apos.endLine==cpos.line)=cM:=by rfl) (hs:fA (e::es) X.env=(cR,el e X.env)::fA es X.env:=by rfl) (a7:(r6 cpos<|starEach es X.env).any (·.1)=cR:=by rfl) :
 PE X (.Call (.Attribute o name apos) (e::es) [] cpos) (UG X.K T r to t):=by
 intro a s b H Q I h;refine wpAny_Call_method_late L S Z rfl<|e9 (ho a s b H _ I h) λv p k=>?_;obtain⟨x,d,O,U,ty,l⟩:=k;obtain⟨i,j⟩:=AM O U ty;refine⟨T,id,pa,C,J,i,j,?_⟩;have Y:=ha cpos a p b d _ O l;rw[hs]at Y ⊢;refine Calls.callWith_builtin (by show(cR || (r6 cpos<|starEach es X.env).any (·.1))=cR;rw[a7]<;>rfl)<|Calls.evalArgs_plain ?_;exact e9 Y λw u ⟨y,f,g,n,m⟩=>hm a u b f x y v w Q g U n m
end
noncomputable def U4(X:Cx)(id:String)(r:V->List V->Hp->VK->Prop):Prop:=
 ∀(a:UQ) (s:ed) (e:St) (H:Hp) (x:V) (d:List V) (v:dy) (b:List dy) (Q:VK),Inv X a e H s->RelV x v->eK d b->r x d H Q->
  wpAny (eg X.prog X.w) X.A (call (.builtin id) (v::b)) (EP X a e Q) X.xe s
theorem eK.one : ∀{x:V} {us:List dy},eK [x] us->∃u,us=[u]/\RelV x u
 | _,_,.cons r .nil=>⟨_,rfl,r⟩
theorem eK.dropLast(h:eK xs us):eK xs.dropLast us.dropLast:=by
 induction h with
 | nil=>exact .nil
 | cons r t I=>
  cases t with
  | nil=>exact .nil
  | cons q a=>exact .cons r I
theorem eK.reverse{xs:List V}{us:List dy}(h:eK xs us):eK xs.reverse us.reverse:=by
 induction h with
 | nil=>exact .nil
 | cons r t I=>rw[RF,RF];exact eK.append I<|.cons r .nil
theorem eK.rep(h:eK xs us) : ∀k:Nat,eK (LQ k xs).flatten (LQ k us).flatten
 | 0=> .nil
 | k+1=>by rw[Og,Og,Pb,Pb];exact eK.append h<|eK.rep h k
theorem J9(its:List dy) : ∀(k:Nat) (acc:List dy),
 SF (λx1 I=>x1++I) acc.toArray (LQ k its.toArray)=(acc++(LQ k its).flatten).toArray
 | 0,acc=>by simp
 | k+1,acc=>by
  have e:acc.toArray++its.toArray=(acc++its).toArray:=by simp
  have O:(acc++its)++(LQ k its).flatten=acc++(LQ (k+1) its).flatten:=by rw[Og,Pb,SG]
  rw[<- O,<- J9 its k (acc++its),<- e,Og,List.foldl_cons]
section
variable{X:Cx}{pins:UQ}{σ:St}{H:Hp}{s:ed}{l b:dn}{xs ys zs:List V}
theorem Inv.DZ{its its':List dy}{n:Nat}{f:Array dy->Array dy}{t':Nat}(I:Inv X pins σ H s)(O:H l=cq (.lst xs))
 (e:s.heap.get? l=cq {cls:= .type "list",data:= .seq its.toArray n}) (Q:f its.toArray=its'.toArray) (U:eK ys its') (hz:ys.length<=fe) :
 Inv X pins σ (upd H l<|.lst ys) {s with heap:=s.heap.update l<|ME f,toks:=t'}:=by
 have q:=PySem.IsL.update e f;rw[Q]at q;refine I.write (x:=l) (e:=l) (by rw[O];exact trivial) (.inl rfl) (λb u Y a=>(Mx s.heap (ME f)<|My Y).trans a) ⟨_,q⟩ ?_;exact⟨hz,its',_,U,q⟩
theorem Inv.S8(I:Inv X pins σ H s)(O:eK ys its)(hz:ys.length<=fe) :
 Inv X pins σ (upd H s.heap.objs.size (.lst ys)) {s with heap:=s.heap.push {cls:= .type "list",data:= .seq its.toArray},toks:=t'}:=
 I.laid (λ_ _ q=>LN _ q) (LW _) ⟨hz,its,0,O,Ma _ rfl⟩
theorem Inv.fresh(I:Inv X pins σ H s):H s.heap.objs.size=cO:=I.f6.fresh<|LW _
theorem Inv.DI(I:Inv X pins σ H s)(O:H l=cq (.lst xs)):xs.length<=fe/\∃(its:List dy) (n:Nat),eK xs its/\xs.length=its.length/\s.heap.get? l=cq {cls:= .type "list",data:= .seq its.toArray n}:=by obtain⟨z,its,n,r,e⟩:=I.f6 l _ O;exact⟨z,its,n,r,r.length,e⟩
theorem nN(h:n<=fe):Oi n=cR:=by unfold Oi;exact decide_eq_false ⋯
end
section
variable{X:Cx}
noncomputable def fE:V->List V->Hp->VK->Prop:=λx b H Q=>∃l a y,x = .ref l/\b=[y]/\H l=cq (.lst a)/\a.length<fe/\Q .ez (upd H l<|.lst<|a++[y])
theorem gH:U4 X "list.append" fE:=by intro b s m H x j v i Q I U Y h;obtain⟨l,k,y,rfl,rfl,O,g,q⟩:=h;cases U;obtain⟨u,rfl,d⟩:=Y.one;obtain⟨z,a,n,r,f,e⟩:=I.DI O;refine Dg F.slot_list_append ⟨_,e,rfl⟩ F.entry_list_append (F.args_list_append_2 _ _) (PySem.list_append l a.toArray n u (by rw[Mb];omega)) ⟨e,?_⟩;refine⟨.ez,_,I.DZ (its':=a++[u]) O e ⋯ (r.append (.cons d .nil)) ?_,rfl,q⟩;rw[Nf,NU];omega
noncomputable def IX:R2:=λx y H Q=>∃l k a,x = .ref l/\y = .int k/\H l=cq (.lst a)/\ -(2 ^ 63)<=k/\k<2 ^ 63/\a.length*k.toNat<=fe/\
 ∀p,H p=cO->Q (.ref p) (upd H p<|.lst (LQ k.toNat a).flatten)
theorem Wd(xs:List α)(k:Nat):(LQ k xs).flatten.length=k*xs.length:=by
 induction k with
 | zero=>simp
 | succ k I=>rw[Og,Pb,Nf,I,Nat.succ_mul,Nat.add_comm]
theorem Cj:i8 X (uM .Mult) IX:=by
 intro f s M H x y v u Q I Y G h;obtain⟨l,k,L,rfl,rfl,C,A,B,d,q⟩:=h;cases Y;obtain⟨t,rfl⟩:=G;obtain⟨z,b,n,r,E,e⟩:=I.DI C;have g:b.toArray.size*k.toNat<=fe:=by rw[Mb,<- E];exact d
 have i : ¬b.toArray.size*k.toNat>(2 ^ 63 - 1)/8:=by
  have:(fe:Nat)<=(2 ^ 63 - 1)/8:=by decide
  omega
 have j : ¬(!PY k)=cM:=by rw[fitsIndex_both A B];exact MP
 have o : ¬Oi (b.toArray.size*k.toNat)=cM:=by rw[nN g];exact MP
 have p:SF (λx1 O=>x1++O) #[] (LQ (if b.toArray.isEmpty=cM then 0 else k.toNat) b.toArray)=(LQ k.toNat b).flatten.toArray:=by
  have w : ∀m:Nat,SF (λx1 O=>x1++O) #[] (LQ m b.toArray)=(LQ m b).flatten.toArray:=λm=>by have:=J9 b m [];rw[Ox]at this;exact this
  rw[w];cases b with
  | nil=>simp
  | cons a K=>rw[UY ⋯]
 refine S' (T:="list") (U:="int") ⋯ ⟨_,e,rfl⟩ (λJ=>SU J k t) noFill_list_mul F.fills_int_mul Sl repeat_list F.slot_int_index.lookup
  (Dg Sl (SU s k t) F.entry_int_rmul (F.args_int_rmul_2 _ _) (int___rmul___int_list k t l b.toArray n)
    ⟨e,rfl,⟨_,e,rfl⟩,Dg F.slot_list_mul ⟨_,e,rfl⟩ F.entry_list_mul (F.args_list_mul_2 _ _) (AutoListH.list___mul___list_int_3 l b.toArray n k t j i o) ⟨e,?_⟩⟩)
 rw[p];exact⟨.ref _,_,I.S8 (t':=s.toks) (r.rep k.toNat) (by rw[Wd,PZ];exact d),rfl,q _ I.fresh⟩
end
end L2
namespace Att
open PySem PySem.W PySem.Calls PyProof.Rows
theorem J1 : ∀(C:List Int) (vs:List dy),WellAll P h vs (C.map WData.int)->I7 vs C:=by
 intro C
 induction C with
 | nil=>
  intro vs w;rw[Ru]at w;cases w;exact .nil
 | cons n C I=>
  intro vs w;rw[Mu]at w;cases w with
  | cons a b=>
   cases a;exact .cons _ _<|I _ b
theorem eI{l:OpenLaw}{n:Nat}(L:l.most=cq n){P:Params}{h:fy}{args:List WData}{Q:List dy}
 (U:l.row.toRowW.claim.pre args=cM) (J:WellAll P h Q args) :
 ∃a vs C,Q=[Nw a]/\args=[WData.list (C.map WData.int)]/\h.get? a=cq {cls:= .type "list",data:= .seq vs.toArray}/\I7 vs C/\C.length<=n:=by
 have b:WShape.hasAll [] args [.list .int]=cM:=(pre_splitW U).1;have Y:l.pre.holds [] {args:=args}=cM:=(pre_splitW U).2;obtain⟨d,r,rfl,g,i⟩:=hasAllW_cons b;obtain rfl:=hasAllW_nil i;obtain⟨s,rfl,j⟩:=hasW_list g;obtain⟨C,rfl⟩:=items_int j;have e:C.length<=n:=by
  unfold OpenLaw.pre at Y;have I:(WTm.not<|.lt (.lit<|.int (n:Int))<|.len<|.arg 0).holds [] {args:=[.list (C.map .int)]}=cM:=by have I:=(holds_andW Y).1;rw[L]at I;exact I
  have O:=condW_of I<|w_not<|w_lt w_lit<|w_len_list<|w_arg rfl;rw[Mm]at O;refine Nat.le_of_not_lt λq=>?_;have m:(n:Int)<((C.length:Nat):Int):=by omega
  first
   | (rw[decide_eq_true m]at O;exact absurd O ⋯)
   | (simp at O;omega)
 cases J with
 | cons o p=>
  cases p;cases o with
  | list k f=>exact⟨_,_,C,rfl,rfl,k,J1 C _ f,e⟩
theorem fQ(l:OpenLaw)(args:List WData):l.row.toRowW.claim.post args (.bool cM) args=cM:=
 postW_of (r:=l.row.toRowW) (X:=(cM==cM))
  (show WShape.has [] (.bool cM) .bool=cM by first | rfl | decide | simp[WShape.has,WShape.arms,WShape.armsAll])
  (show(WTm.eq .res<|.lit<|.bool cM).value [] {args:=args,res:=cq (.bool cM),after:=args}=cq (.bool<|true==cM)from w_eq_bool (w_res rfl) w_lit) rfl
theorem An{l:OpenLaw}{n:Nat}{q:il}{Q:List Str}{U:(Str->Option dy)->fy->Prop}{YP:hG->fy->Prop}{d:DefRec}
 (hn:l.most=cq n) (a3:d.params.defaults=[])
 (call : ∀(w:hG) (n5 I:ed) (L mb:UZ) (J:dn) (o:mu) (pm O C:dy) (a:dn) (vs:List dy) (S:List Int),
   Ground q Q [] U w n5 L mb I.heap->YP w I.heap->
   I.heap.get? J=cq o->o.data = .func (docDef d.name d.params d.body d.scope pm O C)->I.heap.CodeRec O d.name->L d.name=cq (.ref J)->
   I.heap.get? a=cq {cls:= .type "list",data:= .seq vs.toArray}->I7 vs S->S.length<=n->I.gens = #[]->
   codeAny (eg l.prog w) DD (.call (.ref J) ⟨[.ref a],[]⟩) (λr Z=>r = .ok (.ret<|.bool cM)/\OldK I.heap Z.heap/\Z.os=I.os/\C9 Z.gens) I) :
 WalkO q Q U YP l.row.toRowW d [] (λf vs=>PySem.call f vs):=by
 intro w n5 I L mb G Y J o pm O C s kV B y g e h z b F as i H K j M;obtain rfl:s = .none:=Dflts.none e a3;obtain rfl:kV = .none:=Dflts.noKw e;obtain⟨a,vs,S,rfl,rfl,k,m,p⟩:=eI hn i j;refine enter_call<|Ss (call w n5 I L mb J o pm O C a vs S G Y B (fd_plain y) g h k m p z) λr Z E=>?_;obtain⟨rfl,t,u,x⟩:=E;exact⟨.inl ⟨.bool cM,.bool cM,[],rfl,λ_=>rfl,.bool cM,fQ l _,λ_=>⟨Pc.nil,λ_ A=>(nomatch A)⟩⟩,t,u,x⟩
end Att
namespace L2
open PySem PySem.Spec PyProof.Rows
theorem wb : ∀{vs:List dy} {C:List Int},I7 vs C->eK (C.map V.int) vs
 | _,_,.nil=> .nil
 | _,_,.cons n t h=> .cons ⟨t,rfl⟩ (wb h)
noncomputable def FC(H:Hp):Prop:=∀b,H b=cO\/∃o a,H b=cq (.A1 o<|.lst a)
theorem oi{P:il}{w:hG}{K:LM}{J mb:UZ}{CX:t8}{k:Nat}{Z a:dn}{fd:q5}{x:Str}{sp:Sp}{I:ed}{vs:List dy}{L:List Int}
 (KX:K.In I.heap) (a2:I.heap.Ns vr J) (O:I.heap.Ns Ue mb) (a9 : ∀x:Str,x ≠ "__name__"->mb x=Di x) (ac:I.heap.NoLimit) (hg:I.gens = #[])
 (S:I.heap.get? a=cq {cls:= .type "list",data:= .seq vs.toArray}) (hi:I7 vs L) (hl:L.length<=fe) (hr:nh k DD)
 (F : ∀base:fy,K.In base->base.Ns vr J->qs P w K J base CX k Z fd [x] sp) (an : ∀(s:ed) (u:dy),Ig s fd ⟨[u],[]⟩ [(x,u)])
 (ap : ∀H:Hp,FC H->gB K H a (L.map V.int)->sp [.ref a] H (λv _=>v = .bl cM) λ_ _ _=>False)
 (ar : ∀H e C,CX [] H I (λ_ _ _=>False) e C->False) :
 codeAny (eg P w) DD (.call (.ref Z) ⟨[.ref a],[]⟩) (λr C=>r = .ok (.ret<|.bool cM)/\OldK I.heap C.heap/\C.os=I.os/\C9 C.gens) I:=by
 have E:=wb hi;have as:=hi.length;have p : ∀H:Hp,FC H->gB K H a (L.map V.int)->l7 P w H I.heap->(∀b,H b≠cO->b=a)->(H a≠cO->K.lookup a=cO)->
  codeAny (eg P w) DD (.call (.ref Z) ⟨[.ref a],[]⟩) (λr C=>r = .ok (.ret<|.bool cM)/\OldK I.heap C.heap/\C.os=I.os/\C9 C.gens) I:=by
  intro H B hS j A hK;have f : ∀{b:dn} {o:mu},I.heap.get? b=cq o->H b=cO->(oE I.heap H).get? b=cq o:=λe n=>oC e n;have b5 : ∀{b:dn} {o:mu} {i:Array DictEntry} {Q:Nat},I.heap.get? b=cq o->o.data = .dict i Q->H b=cO:=λ{b o i Q} e d=>by
   cases q:H b with
   | none=>rfl
   | some u=>
    have l:b=a:=A b (by rw[q];simp);subst l;rw[S]at e;cases e;have M:Data.seq vs.toArray _=Data.dict i Q:=d;cases M
  have Y : ∀{b:dn} {m:UZ},I.heap.Ns b m->(oE I.heap H).Ns b m:=λ{b m} ⟨o,i,Q,e,d,r⟩=>⟨o,i,Q,f e<|b5 e d,d,r⟩;have t:K.In (oE I.heap H):=λb o e=>f (KX b o e) (by
   cases q:H b with
   | none=>rfl
   | some u=>
    have l:b=a:=A b (by rw[q];simp);subst l;rw[hK (by rw[q];simp)]at e;cases e)
  have hM:Mod K J (oE I.heap H):=⟨t,Y a2,⟨mb,Y O,a9⟩,let ⟨mc,W,X⟩:=ac;⟨mc,Y W,X⟩⟩;have N:A9 P w K J (oE I.heap H) DD [] I H:=⟨rfl,hM,λb o e=>uq e,Nat.le_of_eq<|ic _ _,trivial,λb O=>absurd (show b∈([]:List dn)from O) ⋯,j,.of_eq hg⟩;refine Ss ((F _ t<|Y a2).run DD [] I H ⟨[.ref a],[]⟩ [.ref a] [.ref a] _ _ hr N (an I<|.ref a) (.cons rfl .nil) (ap H B hS)) λr C h=>?_;cases r with
  | error e=>exact(ar H e C h).elim
  | ok T=>
   cases T with
   | next=>exact Ou h
   | brk=>exact Ou h
   | cont=>exact Ou h
   | ret u=>
    obtain⟨v,H',os,g,un,G,r',q⟩:=h;have q':v = .bl cM:=q;subst q';obtain rfl:u=Value.bool cM:=r';refine⟨rfl,OldK.of_keep λb o e=>?_,os,g⟩;cases q:H b with
    | none=>exact un.keep b o e q (by intro z;exact absurd (show b∈([]:List dn)from z) ⋯) ⋯
    | some u=>
     rcases B b with z | ⟨ob,xs,z⟩
     ·rw[q]at z;cases z
     ·have z2:=un.Dl b ob _ z
      obtain⟨y,_⟩:=j b _ z;obtain⟨R,_⟩:=G b _ z2;rw[e]at y;cases y;exact R
 cases hk:K.lookup a with
 | some o=>
  have e:=KX a o hk;rw[S]at e;cases e;refine p (λ_=>cO) (λ_=> .inl rfl) (.inr ⟨_,vs.toArray,_,hk,rfl,rfl,rfl,by rw[Mb,as];exact hl,by simpa using E⟩) (λb u z=>by have U:(cO:Option HO)=cq u:=z;cases U) (λb z=>absurd rfl z) λz=>absurd rfl z
 | none=>
  refine p (λb=>if b=a then cq (.A1 {cls:= .type "list",data:= .seq vs.toArray} (.lst (L.map V.int)))else cO) (λb=>?_) (.inl (.inr ⟨{cls:= .type "list",data:= .seq vs.toArray},UJ rfl⟩)) (λb u z=>?_) (λb z=>?_) λ_=>hk
  ·by_cases O:b=a
   ·exact .inr ⟨_,_,UJ O⟩
   ·exact .inl<|UY O
  ·by_cases O:b=a
   ·have U:=(UJ O).symm.trans z
    cases U;subst O;exact⟨S,by rw[Mm];exact hl,vs,_,E,S⟩
   ·have U:=(UY O).symm.trans z
    cases U
  ·by_cases O:b=a
   ·exact O
   ·exact absurd (UY O) z
abbrev T4{K:LM}{h:fy}(_:K.In h):LM:=K
theorem rV{l:PySem.W.OpenLaw}{n k:Nat}{q:il}{U:List Str}{XP:(Str->Option dy)->fy->Prop}{I:hG->fy->Prop}{d:DefRec}{K:Params->LM}{CX:hG->t8}{sp:hG->Sp}{x:Str}
 (hn:l.most=cq n) (a2:n<=fe) (a3:d.params.defaults=[]) (hr:nh k DD)
 (hY : ∀(w:hG) (h:fy),I w h->(K w.params).In h)
 (F : ∀(w:hG) (C:UZ) (J:dn) (h:fy),(K w.params).In h->h.Ns vr C->C d.name=cq (.ref J)->
   ∃S:q5,(∀(s:ed) (u:dy),Ig s S ⟨[u],[]⟩ [(x,u)])/\
    ∀base:fy,(K w.params).In base->base.Ns vr C->qs l.prog w (K w.params) C base (CX w) k J S [x] (sp w))
 (a6 : ∀(w:hG) (H:Hp) (a:dn) (L:List Int),L.length<=n->FC H->gB (K w.params) H a (L.map V.int)->sp w [.ref a] H (λv _=>v = .bl cM) λ_ _ _=>False)
 (a7 : ∀(w:hG) (H:Hp) (s:ed) (e:dy) (Z:ed),CX w [] H s (λ_ _ _=>False) e Z->False) :
 PySem.W.WalkO q U XP I l.row.toRowW d [] (λf vs=>PySem.call f vs):=by
 refine Att.An hn a3 λw j i C X J o pm N t a vs L G Y R P M m p r O E=>?_;have Q:=hY w _ Y;obtain⟨S,B,y⟩:=F w C J _ Q G.T.g m;exact oi Q G.T.g G.T.b G.T.builtins G.T.nolimit E p r (Nv O a2) hr y B (λH z A=>a6 w H a L O z A) λH e Z=>a7 w H i e Z
theorem EF{l:PySem.W.OpenLaw}{n k:Nat}{q:il}{O:List Str}{Q:(Str->Option dy)->fy->Prop}{I:hG->fy->Prop}{d:DefRec}{K:Params->LM}{CX:t8}{sp:LM->Sp}{x:Str}
 (U:l.most=cq n) (Y:n<=fe) (a0:d.params.defaults=[]) (hr:nh k DD)
 (hY : ∀(w:hG) (h:fy),I w h->(K w.params).In h)
 (F : ∀(w:hG) (C:UZ) (S:dn) (h:fy),(K w.params).In h->h.Ns vr C->C d.name=cq (.ref S)->
   ∃Z:q5,(∀(s:ed) (u:dy),Ig s Z ⟨[u],[]⟩ [(x,u)])/\
    ∀base:fy,(K w.params).In base->base.Ns vr C->qs l.prog w (K w.params) C base CX k S Z [x] (sp<|K w.params))
 (a3 : ∀(K:LM) (H:Hp) (a:dn) (J:List Int),J.length<=n->FC H->gB K H a (J.map V.int)->sp K [.ref a] H (λv _=>v = .bl cM) λ_ _ _=>False)
 (a4 : ∀(H:Hp) (s:ed) (e:dy) (L:ed),CX [] H s (λ_ _ _=>False) e L->False) :
 PySem.W.WalkO q O Q I l.row.toRowW d [] (λf vs=>PySem.call f vs):=
 rV (K:=K) (CX:=λ_=>CX) (sp:=λw=>sp<|K w.params) U Y a0 hr hY F (λw H a J b g i=>a3 (K w.params) H a J b g i) λ_ H s e L=>a4 H s e L
noncomputable def QD(s:kA):Arguments:=match s with
 | .FunctionDef _ a _ _ _ _ _ _ _ _=>a
 | _=>{posonlyargs:=[],args:=[],vararg:=cO,kwonlyargs:=[],kw_defaults:=[],kwarg:=cO,defaults:=[]}
noncomputable def yz(s:kA):List kA:=match s with
 | .FunctionDef _ _ b _ _ _ _ _ _ _=>b
 | _=>[]
noncomputable def jN(s:kA):hL:=match s with
 | .FunctionDef _ _ _ _ _ _ a _ _ _=>a
 | _=>{kind:= .function,names:=[],isGenerator:=cR,isCoroutine:=cR}
abbrev rp:t8:=λ_ _ _ _ _ _=>False
abbrev E0:XK:=λ_ _ _=>False
theorem Cf:lG rp X E0:=λ_ _ _ _ _ _ _ h=>h.elim
structure Dv(K:LM)(x qual:Str)(st:kA)(f:dn)(fd:q5):Prop where
 ex : ∃(oc:dy) (od:Option dn) (kV doc pm:dy) (an:Option dn) (Uh ct:dy) (Th:Array (Option dy)),
  fd=PH x qual (QD st) (yz st) (jN st) .none kV doc pm an Uh ct/\K.lookup f=cq ⟨oc,od,.func fd,Th⟩/\RZ K Uh qual=cM
 kp:Ro K (.ref f)=cM
section
variable{P:il}{w:hG}{K:LM}{mg:UZ}{base:fy}
theorem Dv.ok{x qual:Str}{st:kA}{f:dn}{J:q5}{N ps:List Str}{k:Nat}{sp:Sp}(F:Dv K x qual st f J)(S:D5 N ps (jN st))(len : ∀vs H Q E,sp vs H Q E->vs.length=ps.length)
 (I : ∀(C:dy) (A:k0) (outer:List n7) (s:ed) (H:Hp) (vs:List V) (Q:VK) (E:XK),nh k (A.deeper<|envOfC qual (jN st) s.heap.objs.size f C)->sp vs H Q E->
   ∃t,rr (Ac rp P w K mg base N qual (jN st) f C A outer s H E).F3 (yz st) t/\t {nx:=λ_ H'=>Q .ez H',rt:=Q} (Jt N vs) H):qs P w K mg base rp (k+1) f J ps sp:=by
 obtain⟨g,i,kV,a,j,d,C,e,b,rfl,lk,O⟩:=F.ex;refine GI lk O S len λA outer s H vs Q E U Y=>?_;obtain⟨t,h,q⟩:=I C A outer s H vs Q E U Y;exact⟨t,h.F3,q⟩
theorem CV{x qual:Str}{st:kA}{f:dn}{S:dy}{Y L:Option dn}{J:Array (Option dy)}{kV I O C ct:dy}(l:K.lookup f=cq ⟨S,Y,.func<|PH x qual (QD st) (yz st) (jN st) .none kV I O L C ct,J⟩)
 (c:RZ K C qual=cM) (k:Ro K (.ref f)=cM):Dv K x qual st f (PH x qual (QD st) (yz st) (jN st) .none kV I O L C ct):=⟨⟨S,Y,kV,I,O,L,C,ct,J,rfl,l,c⟩,k⟩
end
noncomputable def g9(H H':Hp):Prop:=∀b o,H b=cq o->H' b=cq o
theorem g9.refl(H:Hp):g9 H H:=λ_ _ h=>h
theorem g9.trans(a:g9 H H1)(b:g9 H1 H2):g9 H H2:=λc o h=>b c o<|a c o h
theorem g9.free(e:g9 H H')(h:H' l=Option.none):H l=Option.none:=by
 cases q:H l with
 | none=>rfl
 | some o=>
  rw[e l o q]at h;cases h
theorem g9.seq{K:LM}{H H':Hp}{a:dn}{xs:List V}(e:g9 H H')(h:gB K H a xs):gB K H' a xs:=by
 rcases h with(h | ⟨o,h⟩) | h
 ·exact .inl<|.inl<|e _ _ h
 ·exact .inl<|.inr ⟨o,e _ _ h⟩
 ·exact .inr h
noncomputable def K4(cells:List (Str×dn)):List (Str×u4)->List (Str×dn)->List (Str×dn)
 | [],acc=>acc
 | (n,k)::r,acc=>K4 cells r<|if k==ML then (match cells.lookup n with | some c=>(n,c)::acc | none=>acc)else acc
theorem yY(f:Str×u4->List (Str×dn)->Sem (ForInStep<|List<|Str×dn))
 (O : ∀name kind Q,f (name,kind) Q=if kind==ML then (do let a <- cellOf env name;pure (.yield ((name,a)::Q)))else pure (.yield Q)) :
 ∀(names:List (Str×u4)) (acc:List (Str×dn)),(∀n,(n,ML)∈names->∃c,env.cells.lookup n=cq c)->
  forIn names acc f=(pure (K4 env.cells names acc):Sem _)
 | [],acc,_=>by rw[Rx];rfl
 | (n,k)::r,acc,h=>by
  rw[Rl,O];have U : ∀n,(n,ML)∈r->∃c,env.cells.lookup n=cq c:=λm d=>h m<|Mg _ d;unfold K4;by_cases I:(k==ML)=cM
  ·rw[UJ I,UJ I]
   have b:k=ML:=by simpa using I
   subst b;obtain⟨c,Y⟩:=h n Mh;have e:cellOf env n=pure c:=by unfold cellOf;rw[Y]
   rw[e,Y];exact yY f O r _ U
  ·rw[UY I,UY I]
   exact yY f O r acc U
theorem KO(h : ∀n,(n,ML)∈scope.names->∃c,env.cells.lookup n=cq c) :
 closureFor scope env=pure (K4 env.cells scope.names []):=by
 simp only[closureFor];rw[yY (env:=env) _ (λb a I=>by cases hk:a==ML<;>simp[hk]) scope.names [] h];rfl
theorem kU
 (I:Q {scope:=scope,locals:=s.heap.objs.size,globals:=globals,cells:=tr (s.heap.objs.size+1) scope.names cl,qual:=qual,func:=cO,code:=env.code,frame:=env.frame,builtins:=env.builtins}
   {s with heap:=Dp (s.heap.push {cls:= .type "dict",data:= .dict #[]}) scope.names}) :
 wpAny M A (Uu scope globals cl [] qual cO .none (cq env)) Q E s:=by
 simp only[Uu,Option.isSome_some,if_true];refine LK (wpAny_alloc ?_);refine LK (wpAny_layCells _ (λb a cells=>by cases z_:a==Ow<;>simp[z_]) _ _ _ _ ?_);rw[show({s with heap:=s.heap.push {cls:= .type "dict",data:= .dict #[]}}:ed).heap.objs.size=s.heap.objs.size+1 from MO ..];exact LK (LU (LU I))
theorem aF : ∀{names:List (Str×u4)} {acc:List (Str×dn)},(n,c)∈K4 cells names acc->(n,c)∈acc\/((n,ML)∈names/\cells.lookup n=cq c)
 | [],acc,h=> .inl h
 | (m,k)::r,acc,h=>by
  unfold K4 at h;rcases aF h with g | ⟨h1,h2⟩
  ·clear h
   by_cases I:(k==ML)=cM
   ·rw[UJ I]at g
    have O:k=ML:=by simpa using I
    subst O;cases e:cells.lookup m with
    | none=>rw[e]at g;exact .inl g
    | some Q=>
     rw[e]at g;rcases Mc.mp g with g | g
     ·cases g;exact .inr ⟨Mh,e⟩
     ·exact .inl g
   ·rw[UY I]at g;exact .inl g
  ·exact .inr ⟨Mg _ h1,h2⟩
theorem JR : ∀{names:List (Str×u4)} {acc:List (Str×dn)},((acc.lookup n).isSome=cM\/((n,ML)∈names/\(cells.lookup n).isSome=cM))->((K4 cells names acc).lookup n).isSome=cM
 | [],acc,h=>by
  rcases h with h | ⟨h,_⟩
  ·exact h
  ·cases h
 | (m,k)::r,acc,h=>by
  unfold K4;apply JR;by_cases I:(k==ML)=cM
  ·rw[UJ I]
   have Q:k=ML:=by simpa using I
   subst Q;cases e:cells.lookup m with
   | none=>
    rcases h with h | ⟨h1,h2⟩
    ·exact .inl h
    ·rcases Mc.mp h1 with h1 | h1
     ·cases h1;rw[e]at h2;cases h2
     ·exact .inr ⟨h1,h2⟩
   | some U=>
    dsimp only;by_cases O:n=m
    ·subst O;left;simp
    ·rcases h with h | ⟨h1,h2⟩
     ·left;rw[Nl];split<;>simp_all
     ·rcases Mc.mp h1 with h1 | h1
      ·cases h1;exact absurd rfl O
      ·exact .inr ⟨h1,h2⟩
  ·rw[UY I]
   rcases h with h | ⟨h1,h2⟩
   ·exact .inl h
   ·rcases Mc.mp h1 with h1 | h1
    ·cases h1;exact absurd rfl I
    ·exact .inr ⟨h1,h2⟩
theorem kh : ∀{names:List (Str×u4)} {k:Nat} {acc:List (Str×dn)},(n,c)∈tr k names acc->(n,c)∈acc\/(k<=c/\(n,Ow)∈names)
 | [],_,_,h=> .inl h
 | (m,kd)::r,k,acc,h=>by
  unfold tr at h;split at h
  ·rename_i I
   have O:kd=Ow:=by simpa using I
   subst O;rcases kh h with h | ⟨h1,h2⟩
   ·rcases Mc.mp h with h | h
    ·cases h;exact .inr ⟨LW _,Mh⟩
    ·exact .inl h
   ·exact .inr ⟨by omega,Mg _ h2⟩
  ·rcases kh h with h | ⟨h1,h2⟩
   ·exact .inl h
   ·exact .inr ⟨h1,Mg _ h2⟩
theorem yw : ∀{names:List (Str×u4)} {k:Nat} {acc:List (Str×dn)},(∀p∈acc,∀q∈acc,p.2=q.2->p.1=q.1)->(∀p∈acc,p.2<k)->
 ∀p∈tr k names acc,∀q∈tr k names acc,p.2=q.2->p.1=q.1
 | [],_,_,h,_=>h
 | (m,kd)::r,k,acc,h,hl=>by
  unfold tr;split
  ·refine yw (λp I q O e=>?_) (λp I=>?_)
   ·rcases Mc.mp I with rfl | I<;>rcases Mc.mp O with rfl | O
    ·rfl
    ·have Q:k=q.2:=e
     exact absurd (Q ▸ hl q O)<|Nh _
    ·have Q:p.2=k:=e
     exact absurd (Q ▸ hl p I)<|Nh _
    ·exact h p I q O e
   ·rcases Mc.mp I with rfl | I
    ·exact NO _
    ·exact Nd<|hl p I
  ·exact yw h hl
theorem QE : ∀{names:List (Str×u4)} {h:fy} {acc:List (Str×dn)} {n:Str} {c:dn},(n,c)∈tr h.objs.size names acc->(n,c)∈acc\/(Dp h names).IsCell c cO
 | [],_,_,_,_,I=> .inl I
 | (m,kd)::r,h,acc,n,c,I=>by
  unfold tr at I;unfold Dp;split at I
  ·rename_i O
   rw[UJ O];have e:h.objs.size+1=(h.push {cls:= .type "cell",data:= .cell cO}).objs.size:=(MO ..).symm;rw[e]at I;rcases QE I with I | I
   ·rcases Mc.mp I with I | I
    ·cases I
     have Q:(h.push {cls:= .type "cell",data:= .cell cO}).IsCell h.objs.size cO:=⟨{cls:= .type "cell",data:= .cell cO},Ma _ rfl,rfl⟩;exact .inr (Q.keeps λb o q=>RA _ _ b o q)
    ·exact .inl I
   ·exact .inr I
  ·rename_i O
   rw[UY O];exact QE I
theorem vo{J:Type}{l:List (Str×J)}(C:(l.map (·.1)).Nodup) : ∀{n:Str} {a:J},(n,a)∈l->l.lookup n=cq a:=by
 induction l with
 | nil=>intro n a h;cases h
 | cons p r I=>
  intro n a h;obtain⟨m,b⟩:=p;rw[Mu,NA]at C;rw[Nl];rcases Mc.mp h with h | h
  ·cases h;simp
  ·have O:(n==m)=cR:=by
    have:n≠m:=λe=>C.1 (by rw[<- e];exact Mk.mpr ⟨(n,a),h,rfl⟩);simpa using this
   rw[O];exact I C.2 h
theorem vF(scope:hL)(env:n7)(x:Str):(wh scope env).names.lookup x =
 (scope.names.lookup x).map λk=>if (k==ML && env.scope.kind == .function && env.kindOf x==cq .cell)then Ow else k:=by
 unfold wh;dsimp only;generalize scope.names=l
 induction l with
 | nil=>rfl
 | cons p r O=>
  obtain⟨n,k⟩:=p;rw[Mu];cases hx:x==n with
  | true=>
   have e:x=n:=by simpa using hx
   subst e;rw[Nl,Nl];dsimp only;by_cases I:(k==ML && env.scope.kind == .function && env.kindOf x==cq .cell)=cM
   ·rw[UJ I,beq_self_eq_true];dsimp only[Sx];rw[UJ I]
   ·rw[UY I,beq_self_eq_true];dsimp only[Sx];rw[UY I]
  | false=>
   have : ∀Q,List.lookup x ((n,Q)::(r.map λx=>match x with | (n,k)=>if (k==ML && env.scope.kind == .function && env.kindOf n==cq .cell)=cM then (n,Ow)else (n,k)))=List.lookup x (r.map λx=>match x with | (n,k)=>if (k==ML && env.scope.kind == .function && env.kindOf n==cq .cell)=cM then (n,Ow)else (n,k)):=λQ=>by rw[Nl,hx]
   rw[Nl (k:=n),hx];dsimp only;split
   ·rw[this];exact O
   ·rw[this];exact O
noncomputable def wR(scope:hL)(env:n7)(L:dn):n7:=
 {scope:=wh scope env,locals:=L,globals:=env.globals,cells:=tr (L+1) scope.names<|K4 env.cells scope.names [],qual:=env.qual,func:=cO,code:=env.code,frame:=env.frame,builtins:=env.builtins}
noncomputable def jD(X:Cx)(scope:hL)(J:List Str)(fp:List dn)(C:ed)(I:Hp):Cx:=
 {X with N:=J,n5:=C,D6:=I,env:=wR scope X.env<|C.heap.objs.size+1,outer:=X.stack,stack:=X.stack,ex:=fp,fn:=λx=>scope.names.lookup x==cq .cell,pn:=[],xe:=λ_ _=>False}
structure s8(X:Cx)(scope:hL)(fr:List (Str×Nat)):Prop where
 kind:scope.kind = .function
 nd:(scope.names.map (·.1)).Nodup
 free : ∀p∈scope.names,p.2=ML->X.env.kindOf p.1=cq .cell\/X.env.kindOf p.1=cq .free
 fr : ∀p∈fr,scope.names.lookup p.1=cq .free/\X.N[p.2]? = cq p.1
noncomputable def mR(own:List Str)(C:List (Str×Nat))(I:St):St:=own.map (λ_=>cO)++C.map λp=>(I[p.2]?).join
abbrev Wc:mu:={cls:= .type "list",data:= .seq #[]}
abbrev rE:mu:={cls:= .type "dict",data:= .dict #[]}
theorem ou{X:Cx}{L:UQ}{Z:St}{S:Hp}{C:ed}{scope:hL}{own:List Str}{J:List (Str×Nat)}{fp:List dn}(I:Inv X L Z S C)(ok:s8 X scope J)
 (a3 : ∀b∈fp,vD X L S b) (ax : ∀b∈fp,∃o,C.heap.get? b=cq o) :
 Inv (jD X scope (own++J.map (·.1)) fp C S) [] (mR own J Z) (upd S C.heap.objs.size<|.lst []) {C with heap:=Dp ((C.heap.push Wc).push rE) scope.names}:=by
 have K:(C.heap.push Wc).objs.size=C.heap.objs.size+1:=MO ..;have z2:((C.heap.push Wc).push rE).objs.size=C.heap.objs.size+2:=by rw[MO,K]
 have Y : ∀n c,(n,c)∈K4 X.env.cells scope.names []->(n,ML)∈scope.names/\X.env.cells.lookup n=cq c:=λn c h=>(aF h).resolve_left ⋯;have ac : ∀n c,X.env.cells.lookup n=cq c->c<C.heap.objs.size:=λn c h=>by obtain⟨v,q⟩:=I.cell n c h;exact q.lt
 have M : ∀p∈K4 X.env.cells scope.names [],p.2<C.heap.objs.size+1+1:=λp Q=>by exact Nd<|Nd<|ac p.1 p.2 (Y p.1 p.2 Q).2
 have hC:(wR scope X.env<|C.heap.objs.size+1).cells=tr (C.heap.objs.size+2) scope.names (K4 X.env.cells scope.names []):=rfl;have a : ∀x c,(wR scope X.env<|C.heap.objs.size+1).cells.lookup x=cq c->((x,ML)∈scope.names/\X.env.cells.lookup x=cq c)\/(C.heap.objs.size+2<=c/\(x,Ow)∈scope.names):=λx c h=>by
  rcases kh (mem_of_lookup h)with h | h
  ·exact .inl<|Y x c h
  ·exact .inr h
 have B : ∀x,(x,ML)∈scope.names->∃c,X.env.cells.lookup x=cq c/\(wR scope X.env<|C.heap.objs.size+1).cells.lookup x=cq c:=λx l=>by
  obtain⟨c,d⟩:=I.ok.has x<|ok.free (x,.free) l rfl;have t:((K4 X.env.cells scope.names []).lookup x).isSome=cM:=JR<|.inr ⟨l,by rw[d];rfl⟩;have j:=Px scope.names (C.heap.objs.size+2) (K4 X.env.cells scope.names [])<|.inr t;obtain⟨G,E⟩:=NX.mp j;refine⟨c,d,?_⟩;rcases a x G E with⟨_,q⟩ | ⟨_,q⟩
  ·rw[d]at q;cases q;exact E
  ·exact absurd ((vo ok.nd q).symm.trans (vo ok.nd l)) ⋯
 have keep : ∀b o,C.heap.get? b=cq o->(Dp ((C.heap.push Wc).push rE) scope.names).get? b=cq o:=λb o e=>
  RA _ _ b o (LN _<|LN _ e)
 have ap : ∀b∈fp,b<C.heap.objs.size:=λb O=>by obtain⟨o,e⟩:=ax b O;exact Me e
 have fresh:S C.heap.objs.size=cO:=I.f6.fresh<|LW _;have F : ∀c,C.heap.objs.size<c->(upd S C.heap.objs.size<|.lst []) c=cO:=λc d=>by rw[zG (NL d)];exact I.f6.fresh<|Sh d
 obtain⟨m0,N⟩ : ∃m,(Dp ((C.heap.push Wc).push rE) scope.names).Ns (C.heap.objs.size+1) m:=by have q:=(Heap.Ns.new (C.heap.push Wc) (.type "dict")).keeps (λb o e=>RA scope.names _ b o e);rw[K]at q;exact⟨_,q⟩
 refine⟨⟨I.ok.mod,ok.kind,I.ok.glob,I.ok.blt,Rp _,λx y c t j=>?_,λx l=>?_,λx c hf h=>?_,I.ok.hd,I.ok.frames,.inl rfl,λb O=>⟨?_,λx c h z=>?_⟩,λb o e=>I.bs b o e,?_,λb o e O=>?_,λb O hs=>?_,I.stack,I.UD⟩,
  rfl,I.bare,Un.laid keep (LW _) fresh,⟨m0,N,λi x v H U e3=>?_⟩,λx c h=>?_,?_,λx c h=>?_,λp Q=>?_,?_,?_⟩
 ·have q:=yw (names:=scope.names) (k:=C.heap.objs.size+2) (acc:=K4 X.env.cells scope.names []) (λp Q q hq e=>I.ok.inj p.1 q.1 p.2 (Y _ _ Q).2 (by rw[e];exact(Y _ _ hq).2)) M
  exact q (x,c) (mem_of_lookup t) (y,c) (mem_of_lookup j) rfl
 ·have f:(wh scope X.env).names.lookup x=cq .cell\/(wh scope X.env).names.lookup x=cq .free:=l
  have:scope.names.lookup x=cq .cell\/scope.names.lookup x=cq .free:=by
   rw[vF]at f;cases e:scope.names.lookup x with
   | none=>rw[e]at f;simp at f
   | some k=>
    rw[e]at f;cases k<;>simp at f ⊢
  rcases this with h | h
  ·exact NX.mp<|Px scope.names _ _<|.inl h
  ·obtain⟨c,_,j⟩:=B x<|mem_of_lookup h;exact⟨c,j⟩
 ·have P:(scope.names.lookup x==cq .cell)=cM:=hf
  have R:scope.names.lookup x=cq .cell:=by simpa using P
  rcases a x c h with⟨q,_⟩ | ⟨q,_⟩
  ·exact absurd ((vo ok.nd q).symm.trans R) ⋯
  ·exact Nv (MI _ 2) q
 ·exact Ml<|Nd<|ap b O
 ·rcases a x c h with⟨_,q⟩ | ⟨q,_⟩
  ·exact(a3 b O).2.2.2.2.1 x c q z
  ·exact absurd (Mv (ap b O)<|Nv (MI _ 2)<|z ▸ q)<|Nh _
 ·exact Nv I.ok.z4 I.sz
 ·rcases (a3 b O).2.2.2.1 with q | q
  ·exact I.ok.F2 b o e q
  ·exact absurd (Mv (Me e)<|Nv I.ok.z4 q)<|Nh _
 ·rcases Mc.mp (I.TF b hs)with q | q
  ·exact(a3 b O).2.1 q
  ·exact(a3 b O).2.2.1 q
 ·have hi:i<(own++J.map (·.1)).length:=(Mj.mp H).1
  by_cases s:i<own.length
  ·unfold mR at U
   rw[Nk (by simpa using s)]at U;simp[MV,s]at U
  ·have hj : ∃p,J[i - own.length]? = cq p/\p.1=x/\(Z[p.2]?).join=cq v:=by
    unfold mR at U;have g:(own++J.map (·.1))[i]? = cq x:=H;rw[MX ⋯,MV]at g;rw[MX (by simpa using s),MV,Mm]at U;cases q:J[i - own.length]? with
    | none=>rw[q]at g;cases g
    | some p=>
     rw[q]at g U;exact⟨p,rfl,by simpa using g,by simpa using U⟩
   obtain⟨p,Q,T,r⟩:=hj;obtain⟨g1,g2⟩:=ok.fr p<|Na Q;rw[T]at g1 g2;have w:Z[p.2]? = cq (cq v):=by
    cases q:Z[p.2]? with
    | none=>rw[q]at r;cases r
    | some o=>rw[q]at r;simpa using r
   have as:=ok.free (x,.free) (mem_of_lookup g1) rfl;obtain⟨m,hn,hl⟩:=I.loc;obtain⟨u,ru,lk⟩:=hl p.2 x v g2 w (by rcases as with k | k;exact .inr<|.inl k;exact .inr<|.inr k);refine⟨u,ru,.inr ?_⟩;obtain⟨c,W,bn⟩:=B x<|mem_of_lookup g1;have bv:C.heap.IsCell c (cq u):=by
    rcases lk with⟨k,_⟩ | ⟨_,G,e,z⟩
    ·rcases as with k' | k'<;>rw[k]at k'<;>cases k'
    ·rw[W]at e;cases e;exact z
   refine⟨?_,c,bn,bv.keeps keep⟩;show(wh scope X.env).names.lookup x=cq .cell\/(wh scope X.env).names.lookup x=cq .free;rw[vF,g1];dsimp only[Sx];split
   ·exact .inl rfl
   ·exact .inr rfl
 ·rcases kh (mem_of_lookup h)with q | q
  ·obtain⟨v,A⟩:=I.cell x c (Y x c q).2
   exact⟨v,A.keeps keep⟩
  ·have q2:=mem_of_lookup h
   have q3:(x,c)∈tr ((C.heap.push Wc).push rE).objs.size scope.names (K4 X.env.cells scope.names []):=by rw[z2];exact q2
   rcases QE q3 with q4 | q4
   ·obtain⟨v,A⟩:=I.cell x c (Y x c q4).2
    exact⟨v,A.keeps keep⟩
   ·exact⟨cO,q4⟩
 ·exact F _<|NO _
 ·rcases a x c h with⟨_,q⟩ | ⟨q,_⟩
  ·rw[zG (Ml<|ac x c q)];exact I.u9 x c q
  ·exact F c<|Mv (Nd<|NO _) q
 ·exact absurd (show p∈([]:UQ)from Q) ⋯
 ·refine I.f6.laid keep (LW _) ⟨MR _,[],0,.nil,?_⟩
  exact RA _ _ _ _<|LN _<|Ma _ rfl
 ·show(mR own J Z).length=(own++J.map (·.1)).length
  simp[mR]
theorem vC(I:Nat->ed->Prop)
 (J : ∀n s,I n s->wpAny (eg prog w) A (rn it) (λr O=>match r with
   | none=>R (.ok .next) O
   | some v=>wpAny (eg prog w) A (L6 target it v) (λ_ O=>wpAny (eg prog w) A (uw target env v) (λ_ U=>
    wpAny (eg prog w) A (forIn ifs cM λc r=>if r=cM then do let ok <- DF c env (el c env);pure (RJ ok)else pure (RJ r)) (λok Q=>
     if ok=cM then wpAny (eg prog w) A (el elt env) (λx Y=>
      wpAny (eg prog w) A (call (.builtin "list.append") [acc,x]) (λ_ C=>∃m,m<n/\I m C) (λ_ _=>False) Y) (λ_ _=>False) Q
     else ∃m,m<n/\I m Q) (λ_ _=>False) U) (λ_ _=>False) O) (λ_ _=>False) O) (λ_ _=>False) s)
 (n:Nat) (h:I n s) :
 codeAny (eg prog w) A (.compLoop (.ListComp elt [⟨target,iter,ifs,0⟩] scope pos) 0 it acc env) R s:=by
 refine codeAny_loop rfl I (λn s j=>?_) n h;show wpAny _ A ((compTurn (.ListComp elt [⟨target,iter,ifs,0⟩] scope pos) 0 it acc env).onRaise (λx=>do noteFrame x env;theTreesLotGoes x)) _ _ s;refine wpAny_noted ?_;rw[compTurn_list];refine LK<|SM<|LK<|Oh (J n s j) (λr O b=>?_) λ_ _ a=>a.elim;cases r with
 | none=>exact LU b
 | some v=>
  refine LK<|Oh b (λ_ k i=>?_) λ_ _ a=>a.elim;refine LK<|Oh i (λ_ U e=>LK<|Oh e (λok Q d=>?_) λ_ _ a=>a.elim) λ_ _ a=>a.elim;cases ok with
  | false=>exact LU ⟨rfl,d⟩
  | true=>
   exact LK<|LK<|Oh d (λx Y f=>LK<|Oh f (λ_ C g=>LU<|LU ⟨rfl,g⟩) λ_ _ a=>a.elim) λ_ _ a=>a.elim
noncomputable def AD(X:Cx)(C:List eh)(t:TT):Prop:=
 ∀(a:UQ) (s:ed) (b:St) (H:Hp) (Q:Bool->Hp->Prop),Inv X a b H s->t b H Q->
  wpAny (eg X.prog X.w) X.A (forIn C cM λc r=>if r=cM then do let ok <- DF c X.env (el c X.env);pure (RJ ok)else pure (RJ r)) (TP X a b Q) X.xe s
noncomputable def FJ:TT:=λ_ H Q=>Q cM H
theorem Kj:AD X [] FJ:=λ_ _ _ H _ I h=>wpAny_tests_nil ⟨H,I,h⟩
theorem az(h:PT X c t):AD X [c] t:=λa s b H Q I O=>wpAny_tests_one<|h a s b H Q I O
noncomputable def CW(J:It)(g:TG)(C:TT)(te:TE)(D:dn)(Q:VK)(W:Nat->Nat->List V->St->Hp->Prop):Prop:=
 ∀i m a f H,W i m a f H->H D=cq (.lst a)/\((J.stop i H/\Q (.ref D) H)\/(J.go i H/\a.length<fe/\∀x e,J.A6 i H x e->g x f e λI h=>C I h λb O=>
  if b=cM then te I O λv U=>U D=cq (.lst a)/\∃d,d<m/\W (i+1) d (a++[v]) I (upd U D<|.lst<|a++[v])else ∃d,d<m/\W (i+1) d a I O))
noncomputable def pA(X:Cx)(C:UQ)(H:Hp)(L:dn):Prop:=
 H L=cO/\L≠X.env.locals/\X.n5.heap.objs.size<=L/\(∀x c,X.env.cells.lookup x=cq c->c≠L)/\∀p∈X.pn++C,p.1≠L
theorem oY
 (hc:X.calm=cM) (I:Inv X pins σ H2 s2) (ok:s8 X scope fr) (T:Turn X.prog X.w X.K tg J fp it tn) (st:tn 0 s2.heap) (Y : ∀b∈fp,vD X pins H2 b)
 (hg:PG (jD X scope (own++fr.map (·.1)) fp s2 H2) tg g) (ht:AD (jD X scope (own++fr.map (·.1)) fp s2 H2) ifs tt) (he:PE (jD X scope (own++fr.map (·.1)) fp s2 H2) elt te)
 (hW : ∀D,H2 D=cO->∃W:Nat->Nat->List V->St->Hp->Prop,(∃m,W 0 m [] (mR own fr σ) (upd H2 D<|.lst []))/\CW J g tt te D Q W) :
 wpAny (eg X.prog X.w) X.A (newList []) (λacc L=>wpAny (eg X.prog X.w) X.A (Uu scope X.env.globals (K4 X.env.cells scope.names []) [] X.env.qual cO .none (cq X.env)) (λac S=>
  codeAny (eg X.prog X.w) X.A (.compStart (.ListComp elt [⟨tg,iter,ifs,0⟩] scope pos) 0 (.ref it) acc {ac with scope:=wh scope X.env})
   (λr C=>(∃f,r = .ok f)/\∃D H',acc = .ref D/\Inv X pins σ H' C/\Q (.ref D) H'/\(∃m,C.heap.Ns ac.locals m)/\pA X pins H' ac.locals) S) E L) E s2:=by
 have b7 : ∀b∈fp,∃o,s2.heap.get? b=cq o:=λb O=>by obtain⟨o,e,_⟩:=T.obj 0 _ st b O;exact⟨o,e⟩
 have P:=ou (own:=own) I ok Y b7;obtain⟨W,⟨m0,w0⟩,cw⟩:=hW _ I.fresh;refine MZ<|kU ?_;have z1:(s2.heap.push Wc).objs.size=s2.heap.objs.size+1:=MO ..;show codeAny _ _ (.compStart _ 0 (.ref it) (.ref s2.heap.objs.size) {scope:=wh scope X.env,locals:=(s2.heap.push Wc).objs.size,globals:=X.env.globals,cells:=tr ((s2.heap.push Wc).objs.size+1) scope.names<|K4 X.env.cells scope.names [],qual:=X.env.qual,func:=cO,code:=X.env.code,frame:=X.env.frame,builtins:=X.env.builtins})
  (λr C=>(∃f,r = .ok f)/\∃D H',Nw s2.heap.objs.size = .ref D/\Inv X pins σ H' C/\Q (.ref D) H'/\(∃m,C.heap.Ns (s2.heap.push Wc).objs.size m)/\pA X pins H' (s2.heap.push Wc).objs.size) {s2 with heap:=Dp ((s2.heap.push Wc).push rE) scope.names}
 rw[z1];have b8:tn 0 (Dp ((s2.heap.push Wc).push rE) scope.names):=T.keep 0 _ _ st λb _ o e=>RA _ _ b o<|LN _<|LN _ e;have c7 : ∀b∈fp,b<s2.heap.objs.size:=λb O=>by obtain⟨o,e⟩:=b7 b O;exact Me e
 have ak : ∀{H':Hp},(∀b∈fp,H' b=cO)->∀b∈fp,vD (jD X scope (own++fr.map (·.1)) fp s2 H2) [] H' b:=λhn b O=>
  ⟨hn b O,(P.ok.L1 b O).1,P.ok.E9 b O,.inl O,(P.ok.L1 b O).2,λp hp=>absurd (show p∈([]:UQ)from hp) ⋯⟩
 have b9:codeAny (eg X.prog X.w) X.A (.compLoop (.ListComp elt [⟨tg,iter,ifs,0⟩] scope pos) 0 (.ref it) (.ref s2.heap.objs.size)<|wR scope X.env<|s2.heap.objs.size+1)
  (λr C=>(∃f,r = .ok f)/\∃D H',Nw s2.heap.objs.size = .ref D/\Inv X pins σ H' C/\Q (.ref D) H'/\(∃m,C.heap.Ns (s2.heap.objs.size+1) m)/\pA X pins H' (s2.heap.objs.size+1)) {s2 with heap:=Dp ((s2.heap.push Wc).push rE) scope.names}:=by
  refine vC (λn C=>∃i B G H',Inv (jD X scope (own++fr.map (·.1)) fp s2 H2) [] G H' C/\tn i C.heap/\(∀b∈fp,H' b=cO)/\W i n B G H') ?_ m0
   ⟨0,[],_,_,P,b8,λb O=>by rw[zG (Ml<|c7 b O)];exact(Y b O).1,w0⟩
  rintro n s3 ⟨i,B,a,M,I3,t,be,w3⟩;obtain⟨hD,c9⟩:=cw i n B a M w3;rcases c9 with⟨y,qn⟩ | ⟨go,hz,step⟩
  ·refine e9 (T.done (jD X scope (own++fr.map (·.1)) fp s2 H2) rfl rfl rfl hc i [] s3 a M _ I3 (ak be) t y) λr s4 U=>?_
   obtain⟨hr,j⟩:=U;subst hr;refine⟨⟨_,rfl⟩,_,M,rfl,I.r_ (ch:=fp) j.os j.base j.f6 j.bare<|λb O=>⟨(Y b O).2.2.2.1,(Y b O).2.1,(Y b O).2.2.2.2.1,(Y b O).2.2.2.2.2⟩,qn,?_,j.free,?_,?_,?_,?_⟩
   ·obtain⟨m,hn,_⟩:=j.loc
    exact⟨m,hn⟩
   ·exact NL<|Nd I.lt
   ·exact RI I.sz
   ·intro x c e z
    obtain⟨v,q⟩:=I.cell x c e;exact absurd (Nd q.lt) (by rw[z];exact Nh _)
   ·intro p hp z
    exact absurd (Nd<|Me (I.pin p hp).1) (by rw[z];exact Nh _)
  ·refine e9 (T.item (jD X scope (own++fr.map (·.1)) fp s2 H2) rfl rfl rfl hc i [] s3 a M _ I3 (ak be) t go) λr s4 U=>?_
   obtain⟨u,hr,h4⟩:=U;subst hr;refine e9 h4 λ_ s5 U=>?_;obtain⟨x,H5,I5,r5,y5,ar,cl⟩:=U;have cm:=I5.pinned (ak cl)<|T.obj _ _ ar;refine e9 (hg _ s5 a H5 x u _ cm r5<|step x H5 y5) λ_ s6 U=>?_;obtain⟨h,H6,I6,q6⟩:=U;refine e9 (ht _ s6 h H6 _ I6 q6) λb s7 U=>?_;obtain⟨H7,R,Z⟩:=U;have after : ∀{H:St} {N:Hp} {s:ed},Inv (jD X scope (own++fr.map (·.1)) fp s2 H2) ([]++YH fp s5.heap) H N s->tn (i+1) s.heap/\∀b∈fp,N b=cO:=λ{H N s} k=>by refine⟨T.keep _ _ _ ar λb O o e=>(k.pin (b,o)<|Mr _<|Mr _<|vn O e).1,λb O=>?_⟩;obtain⟨o,e,d⟩:=T.obj _ _ ar b O;exact(k.pin (b,o)<|Mr _<|Mr _<|vn O e).2.1
   cases b with
   | false=>
    rw[UY MP]at Z ⊢;obtain⟨m',hm,w7⟩:=Z;exact⟨m',hm,i+1,B,h,H7,R.Ht,(after R).1,(after R).2,w7⟩
   | true=>
    rw[UJ rfl]at Z ⊢;refine e9 (he _ s7 h H7 _ R Z) λv8 s U=>?_;obtain⟨x8,N,k,r8,bm,m',hm,w8⟩:=U;obtain⟨z8,l,n8,rv,d5,e8⟩:=k.DI bm;refine Dg F.slot_list_append ⟨_,e8,rfl⟩ F.entry_list_append (F.args_list_append_2 _ _) (PySem.list_append _ l.toArray n8 v8<|by rw[Mb];omega) ⟨e8,?_⟩;have I9:=k.DZ (its':=l++[v8]) (f:=(·.push v8)) (t':=s.toks) bm e8 ⋯ (rv.append<|.cons r8 .nil) (by rw[Nf,NU];omega);exact⟨m',hm,i+1,B++[x8],h,_,I9.Ht,(after I9).1,(after I9).2,w8⟩
 exact codeAny_compStart_list b9<|T.self _ 0 _ _ _ b8 b9
noncomputable def eB(L:TI)(own:List Str)(C:List (Str×Nat))(g:TG)(I:TT)(te:TE):TE:=λb H Q=>L b H λJ a=>∀D,a D=cO->
 ∃W:Nat->Nat->List V->St->Hp->Prop,(∃m,W 0 m [] (mR own C b) (upd a D<|.lst []))/\CW J g I te D Q W
section
variable{X:Cx}{scope:hL}{own:List Str}{fr:List (Str×Nat)}{elt tg iter:eh}{ifs:List eh}{pos:g5}{wi:TI}{g:TG}{tt:TT}{te:TE}
theorem bp
 (U:X.calm=cM) (ok:s8 X scope fr) (hi:PI X tg iter wi) (Y : ∀fp S C,PG (jD X scope (own++fr.map (·.1)) fp S C) tg g)
 (ht : ∀fp S C,AD (jD X scope (own++fr.map (·.1)) fp S C) ifs tt) (he : ∀fp S C,PE (jD X scope (own++fr.map (·.1)) fp S C) elt te)
 (I:Inv X pins σ H s) (h:eB wi own fr g tt te σ H Q)
 (hR : ∀D H' Z L,Inv X pins σ H' Z->Q (.ref D) H'->(∃m,Z.heap.Ns L m)->pA X pins H' L->
   compPost (eg X.prog X.w) X.A X.xe use R (.ref D) L (.ok .next) Z)
 (hs : ∀x,pk iter X.env x=pure x:=by intro _;rfl) :
 wpAny (eg X.prog X.w) X.A (comprehension (.ListComp elt [⟨tg,iter,ifs,0⟩] scope pos) scope X.env (firstIterPos [⟨tg,iter,ifs,0⟩] pos) (newList []) cR (el iter X.env) use) R X.xe s:=by
 refine wpAny_comprehension_free rfl hs (KO λn O=>I.ok.has n<|ok.free (n,.free) O rfl) ok.kind (λx B e=>by rw[<- e];exact vo ok.nd<|show(x.1,x.2)∈scope.names from B) ?_;refine e9 (hi pins s σ H _ I h) λv M k=>e9 k λG S l=>?_;obtain⟨K,fp,W,J,C,e,b,T,d,f2,u⟩:=l;subst e;refine e9 (oY (own:=own) (Q:=Q) (E:=X.xe) U b ok T d f2 (Y fp S C) (ht fp S C) (he fp S C) u) λacc N o=>e9 o λi P p=>Ss p λr Z t=>?_;obtain⟨⟨f,z⟩,D,H',j,a,q,O,y⟩:=t;subst z;subst j;have F:=hR D H' Z i.locals a q O y;cases use<;>exact F
theorem V0(O:X.calm=cM)(ok:s8 X scope fr)(Z:PI X tg iter wi)(U : ∀fp J C,PG (jD X scope (own++fr.map (·.1)) fp J C) tg g)
 (Y : ∀fp J C,AD (jD X scope (own++fr.map (·.1)) fp J C) ifs tt) (S : ∀fp J C,PE (jD X scope (own++fr.map (·.1)) fp J C) elt te)
 (hs : ∀x,pk iter X.env x=pure x:=by intro _;rfl) :
 PE X (.ListComp elt [⟨tg,iter,ifs,0⟩] scope pos) (eB wi own fr g tt te):=by
 intro a s A H Q I h;rw[eval_ListComp];refine bp (use:=cO) O ok Z U Y S I h (λD d l L f q k y=>?_) hs;obtain⟨m,j⟩:=k;obtain⟨p,r,t,u,w⟩:=y;refine⟨m,j,λz n=>⟨.ref D,d,f.turned (t':=l.toks) (it:=L) (λb o i e=>n.extBut b o i e) p r (.inr t) u w,rfl,q⟩⟩
theorem Zj(Q:X.N.Nodup)(U:X.N[i]? = cq y)(Y:Loc X.env.scope y)(hf:X.fn y=cM\/X.env.scope.names.lookup y=cq .local)
 (S:X.calm=cM) (ok:s8 X scope fr) (hi:PI X tg iter wi) (hg : ∀fp J C,PG (jD X scope (own++fr.map (·.1)) fp J C) tg g)
 (ht : ∀fp J C,AD (jD X scope (own++fr.map (·.1)) fp J C) ifs tt) (Z : ∀fp J C,PE (jD X scope (own++fr.map (·.1)) fp J C) elt te)
 (hs : ∀x,pk iter X.env x=pure x:=by intro _;rfl) :
 PS X (.Assign [.Name y py] (.ListComp elt [⟨tg,iter,ifs,0⟩] scope pos) spos) (bN (eB wi own fr g tt te)<|yW i):=by
 have O : ∃b:Bool,C5 (.ListComp elt [⟨tg,iter,ifs,0⟩] scope pos) (cq (.Name y py)) spos.line X.env=pure b:=⟨_,rfl⟩;obtain⟨b,O⟩:=O;cases b with
 | false=>
  have u:N2 [.Name y py] (.ListComp elt [⟨tg,iter,ifs,0⟩] scope pos) spos.line X.env=C5 (.ListComp elt [⟨tg,iter,ifs,0⟩] scope pos) (cq (.Name y py)) spos.line X.env:=rfl;exact aw (V0 S ok hi hg ht Z hs) (gc Q U Y hf) (by rw[u];exact O)
 | true=>
  intro d s W H D I h;rw[exec_Assign_Name_used _ _ _ _ O];refine LK<|SM<|LK ?_;show wpAny _ X.A (do let _ <- comprehension (.ListComp elt [⟨tg,iter,ifs,0⟩] scope pos) scope X.env _ (newList []) cR (el iter X.env) (cq (uw (.Name y py) X.env))) _ _ s;refine LK<|e9 (bp (R:=λ_ f=>SP X d D .next f) (use:=cq (uw (.Name y py) X.env)) S ok hi hg ht Z I h (λj P f L l q B M=>?_) hs) λ_ f q=>LU<|LU q;obtain⟨F,k,G,y4,K⟩:=M;obtain⟨m,z⟩:=B;show wpAny _ _ (uw (.Name y py) X.env<|.ref j) _ _ _;refine R_<|Yl l Q U Y (v:= .ref j) rfl (λn as p=>?_) hf;obtain⟨a,E,w⟩:=p;have r:L≠a:=by
   rcases w with e | e
   ·rw[e];exact k
   ·exact My<|y4 _ _ e
  refine⟨m,z.sameBut E r,λT t=>⟨_,_,as.turned (t':=n.toks) (it:=L) (λb o O e=>t.extBut b o O e) F k (.inr G) y4 K,q⟩⟩
end
inductive Sk where
 | L | T
 deriving DecidableEq
end L2
namespace DL
open PySem L2
inductive D where
 | ez | bl (b:Bool) | int (i:Int) | str (x:Str) | tup (xs:List D) | lst (xs:List D)
 | m7 (ks vs:List D)
 | ml (ks:List (List Int)) (vs:List D)
inductive Cell where
 | no | val (d:D) | own (ds:List D) | nest (rows:List (List D))
abbrev Ctx:=List Cell
abbrev CO (a : Type) := Ctx -> Option a
noncomputable def lim:Nat:=2500
noncomputable def jR:D->Option (Sk×List D)
 | .tup a=>cq (.T,a)
 | .lst a=>cq (.L,a)
 | _=>cO
noncomputable def zR(f:CO D)(γ:Ctx):Option (Sk×List D):=(f γ).bind jR
noncomputable def qf(f:CO (List D))(γ:Ctx):Option D:=(f γ).map D.lst
noncomputable def jt(f:CO (List D))(γ:Ctx):Option (Sk×List D):=(f γ).map λa=>(Sk.L,a)
noncomputable def iW:Option Cell->Option D
 | some (.val d)=>cq d
 | _=>cO
noncomputable def vV:Option Cell->Option (Sk×List D)
 | some (.val d)=>jR d
 | some (.own ds)=>cq (.L,ds)
 | _=>cO
noncomputable def zc(i:Nat)(γ:Ctx):Option D:=iW γ[i]?
noncomputable def zh(i:Nat)(γ:Ctx):Option (Sk×List D):=vV γ[i]?
noncomputable def zu(d:D):CO D:=λ_=>cq d
noncomputable def zB(F:D->D->Option D)(C I:CO D)(γ:Ctx):Option D:=(C γ).bind λx=>(I γ).bind λy=>F x y
noncomputable def r0:D->Option Bool
 | .bl b=>cq b
 | _=>cO
noncomputable def m5:D->Option Int
 | .int i=>cq i
 | _=>cO
noncomputable def sB(f:CO D)(γ:Ctx):Option Bool:=(f γ).bind r0
noncomputable def ZJ(f g:CO Bool)(γ:Ctx):Option Bool:=(f γ).bind λb=>if b=cM then g γ else cq cR
noncomputable def yK(f g:CO Bool)(γ:Ctx):Option Bool:=(f γ).bind λb=>if b=cM then cq cM else g γ
noncomputable def jX(f:CO Bool)(γ:Ctx):Option Bool:=(f γ).map λb=> !b
noncomputable def lS(f g:CO D)(γ:Ctx):Option D:=((f γ).bind r0).bind λb=>if b=cM then g γ else cq (.bl cR)
noncomputable def L'(f g:CO D)(γ:Ctx):Option D:=((f γ).bind r0).bind λb=>if b=cM then cq (.bl cM)else g γ
noncomputable def HE(f:CO D)(γ:Ctx):Option D:=((f γ).bind r0).map λb=> .bl (!b)
noncomputable def ab(c:CO Bool)(f g:CO D)(γ:Ctx):Option D:=(c γ).bind λb=>if b=cM then f γ else g γ
noncomputable def zD:CO (List D):=λ_=>cq []
noncomputable def zb(f:CO D)(g:CO (List D))(γ:Ctx):Option (List D):=(f γ).bind λx=>(g γ).map λr=>x::r
noncomputable def xk(f:CO (List D))(γ:Ctx):Option D:=(f γ).bind λa=>if a.length<=lim then cq (.tup a)else cO
noncomputable def kY(f:CO (List D))(γ:Ctx):Option (List D):=(f γ).bind λa=>if a.length<=lim then cq a else cO
inductive Res where
 | val (d:D) | own (ds:List D)
inductive Fl where
 | next (γ:Ctx) | brk (γ:Ctx) | cont (γ:Ctx) | ret (r:Res)
noncomputable def j1(γ:Ctx):Option Fl:=cq (.next γ)
noncomputable def zM(F G:CO Fl):CO Fl:=λb=>(F b).bind λI=>match I with
 | .next a=>G a
 | f=>cq f
noncomputable def j7(f:CO D)(γ:Ctx):Option Fl:=(f γ).map λd=> .ret (.val d)
noncomputable def vz(f:CO (List D))(γ:Ctx):Option Fl:=(f γ).map λd=> .ret (.own d)
noncomputable def Wu:Option Cell->Option Fl
 | some (.val d)=>cq (.ret<|.val d)
 | some (.own ds)=>cq (.ret<|.own ds)
 | _=>cO
noncomputable def VN(i:Nat)(γ:Ctx):Option Fl:=Wu γ[i]?
noncomputable def LB(γ:Ctx):Option Fl:=cq (.brk γ)
noncomputable def sU(γ:Ctx):Option Fl:=cq (.cont γ)
noncomputable def Ys:CO Fl:=λ_=>cO
noncomputable def h7(k:CO Bool)(F G:CO Fl)(γ:Ctx):Option Fl:=(k γ).bind λb=>if b=cM then F γ else G γ
noncomputable def jB(i:Nat)(f:CO D)(γ:Ctx):Option Fl:=(f γ).map λd=> .next (γ.set i<|.val d)
noncomputable def vN(i:Nat)(f:CO (List D))(γ:Ctx):Option Fl:=(f γ).map λa=> .next (γ.set i<|.own a)
noncomputable def sT(f:CO D)(γ:Ctx):Option Fl:=(f γ).map λ_=> .next γ
noncomputable def xF:Option Cell->Option (List D)
 | some (.own ds)=>cq ds
 | _=>cO
noncomputable def xW(i:Nat)(f:CO D)(γ:Ctx):Option Fl:=(xF γ[i]?).bind λa=>(f γ).bind λd=>if a.length<lim then cq (.next<|γ.set i<|.own<|a++[d])else cO
noncomputable def zZ(n:Nat)(ds:List D):Ctx:=ds.map Cell.val++LQ (n - ds.length) Cell.no
noncomputable def jo(n:Nat)(F:CO Fl)(ds:List D):Option Res:=(F<|zZ n ds).bind λI=>match I with
 | .ret r=>cq r
 | .next _=>cq (.val .ez)
 | _=>cO
noncomputable def pS:Res->D
 | .val d=>d
 | .own a=> .lst a
noncomputable def zA(F:List D->Option Res)(g:CO (List D))(γ:Ctx):Option D:=(g γ).bind λa=>(F a).map pS
noncomputable def FV:Res->Option (List D)
 | .own a=>cq a
 | _=>cO
noncomputable def jH(F:List D->Option Res)(g:CO (List D))(γ:Ctx):Option (List D):=(g γ).bind λa=>(F a).bind FV
noncomputable def wu(lo:Int)(n:Nat):List D:=(LL n).map λ(i:Nat)=>D.int<|lo+(i:Int)
noncomputable def w9(ds es:List D):List D:=(ds.zip es).map λp=>D.tup [p.1,p.2]
noncomputable def zN(f:CO (Sk×List D))(γ:Ctx):Option (List D):=(f γ).map (·.2)
noncomputable def inR(i:Int):Bool:=decide<|i.natAbs<2 ^ 62
noncomputable def ju(f:CO D)(γ:Ctx):Option (List D):=((f γ).bind m5).bind λn=>if inR n=cM then cq (wu 0 n.toNat)else cO
noncomputable def VO(f g:CO D)(γ:Ctx):Option (List D):=((f γ).bind m5).bind λm=>((g γ).bind m5).bind λn=>if inR m=cM/\inR n=cM then cq (wu m (n - m).toNat)else cO
noncomputable def aa(f g:CO D)(γ:Ctx):Option (List D):=((f γ).bind jR).bind λm=>((g γ).bind jR).map λn=>w9 m.2 n.2
inductive Tg where
 | nm (i:Nat) | tp (is:List Nat)
noncomputable def xn:List Nat->List D->Ctx->Ctx
 | i::is,d::ds,γ=>xn is ds<|γ.set i<|.val d
 | _,_,γ=>γ
noncomputable def xG:Tg->D->CO Ctx
 | .nm i,d,γ=>cq (γ.set i<|.val d)
 | .tp is,.tup ds,γ=>if ds.length=is.length then cq (xn is ds γ)else cO
 | _,_,_=>cO
noncomputable def qQ(T:Tg)(F:CO Fl):List D->CO Fl
 | [],a=>cq (.next a)
 | d::e,a=>(xG T d a).bind λb=>(F b).bind λO=>match O with
  | .next I=>qQ T F e I
  | .cont I=>qQ T F e I
  | .brk I=>cq (.next I)
  | .ret r=>cq (.ret r)
noncomputable def ZI(C:CO (List D))(T:Tg)(F:CO Fl)(γ:Ctx):Option Fl:=(C γ).bind λa=>qQ T F a γ
noncomputable def kg:Cell->Cell
 | .own _=> .no
 | .nest _=> .no
 | c=>c
noncomputable def z5(n:Nat)(C:List Nat)(γ:Ctx):Ctx:=LQ n Cell.no++C.map λj=>kg<|γ[j]?.getD .no
noncomputable def zP(T:Tg)(k:CO Bool)(f:CO D)(γ:Ctx):List D->Option (List D)
 | []=>cq []
 | d::ds=>(xG T d γ).bind λa=>(k a).bind λb=>if b=cM then (f a).bind λe=>(zP T k f γ ds).map λr=>e::r else zP T k f γ ds
noncomputable def zK(C:CO (List D))(T:Tg)(n:Nat)(I:List Nat)(k:CO Bool)(f:CO D)(γ:Ctx):Option (List D):=(C γ).bind λa=>if a.length<=lim then zP T k f (z5 n I γ) a else cO
noncomputable def jd:CO Bool:=λ_=>cq cM
noncomputable def Tg.idx:Tg->List Nat
 | .nm i=>[i]
 | .tp is=>is
noncomputable def dI(g:Int->Int->D):D->D->Option D
 | .int i,.int j=>cq (g i j)
 | _,_=>cO
noncomputable def E8(c:Int->Int->Bool)(g:Int->Int->D):D->D->Option D
 | .int i,.int j=>if c i j=cM then cq (g i j)else cO
 | _,_=>cO
noncomputable def vB:D->D->Option D:=dI λi j=> .int (i - j)
noncomputable def XR(i j:Int):Bool:=decide (i.natAbs<2 ^ 64) || decide (j.natAbs<2 ^ 64)
noncomputable def Ek(_ j:Int):Bool:=decide (0<j) && decide (j.natAbs<1073741824)
noncomputable def XQ:D->D->Option D:=E8 Ek λi j=> .int (i/j)
noncomputable def Ej(_ j:Int):Bool:=decide<|0<j
noncomputable def xV:D->D->Option D:=E8 Ej λi j=> .int (i%j)
noncomputable def Ei(i j:Int):Bool:=decide (0<=j) && decide (j.natAbs<=1000000) && decide (i.natAbs<2 ^ 64)
noncomputable def uZ:D->D->Option D:=E8 Ei λi j=> .int (i ^ j.toNat)
noncomputable def pe:D->D->Option D:=dI λi j=> .bl (decide<|i<j)
noncomputable def ni:D->D->Option D:=dI λi j=> .bl (decide<|i<=j)
noncomputable def qq:D->D->Option D:=dI λi j=> .bl (decide<|j<i)
noncomputable def Ui:D->D->Option D:=dI λi j=> .bl (decide<|j<=i)
noncomputable def qD:D->D->Option D
 | .int i,.int j=>cq (.int<|i+j)
 | .tup xs,.tup ys=>if xs.length+ys.length<=lim then cq (.tup<|xs++ys)else cO
 | _,_=>cO
noncomputable def kX:D->D->Option D
 | .int i,.int j=>if XR i j=cM then cq (.int<|i*j)else cO
 | .tup xs,.int j=>if xs.length*j.toNat<=lim/\inR j=cM then cq (.tup (LQ j.toNat xs).flatten)else cO
 | _,_=>cO
noncomputable def VQ(f g:CO (Sk×List D))(γ:Ctx):Option (List D):=(f γ).bind λa=>(g γ).bind λb=>
 match a.1,b.1 with
 | .L,.L=>if a.2.length+b.2.length<=lim then cq (a.2++b.2)else cO
 | _,_=>cO
noncomputable def sS(f:CO (Sk×List D))(g:CO D)(γ:Ctx):Option (List D):=(f γ).bind λa=>((g γ).bind m5).bind λj=>
 match a.1 with
 | .L=>if a.2.length*j.toNat<=lim/\inR j=cM then cq (LQ j.toNat a.2).flatten else cO
 | _=>cO
noncomputable def i3(n:Nat)(i:Int):Option Nat:=if 0<=i/\i<n then cq i.toNat else if i<0/\0<=i+n then cq (i+n).toNat else cO
noncomputable def di(f:CO (Sk×List D))(g:CO D)(γ:Ctx):Option D:=(f γ).bind λa=>((g γ).bind m5).bind λi=>(i3 a.2.length i).bind λk=>a.2[k]?
noncomputable def JB(i:Nat)(g f:CO D)(γ:Ctx):Option Fl:=(f γ).bind λd=>(xF γ[i]?).bind λa=>((g γ).bind m5).bind λk=>(i3 a.length k).map λj=> .next (γ.set i<|.own<|a.set j d)
noncomputable def cZ(n dflt:Nat):Option Int->Nat
 | none=>dflt
 | some i=>if i<0 then (i+n).toNat else min i.toNat n
noncomputable def oW(xs:List D)(lo C:Option Int):List D:=(xs.drop<|cZ xs.length 0 lo).take (cZ xs.length xs.length C - cZ xs.length 0 lo)
noncomputable def dr:CO (Option Int):=λ_=>cq cO
noncomputable def u0(f:CO D)(γ:Ctx):Option (Option Int):=((f γ).bind m5).map cq
noncomputable def eP(f:CO D)(l h:CO (Option Int))(γ:Ctx):Option D:=(f γ).bind λd=>(l γ).bind λlo=>(h γ).bind λa=>match d with
 | .tup b=>cq (.tup<|oW b lo a)
 | _=>cO
noncomputable def yJ(f:CO (Sk×List D))(γ:Ctx):Option D:=(f γ).map λa=> .int a.2.length
inductive Ty where
 | int | bool | str | tuple | list
 deriving DecidableEq
@[simp] noncomputable def CN:D->Bool
 | .int _=>cM
 | .bl _=>cM
 | _=>cR
@[simp] noncomputable def GC:D->Bool
 | .bl _=>cM
 | _=>cR
@[simp] noncomputable def CK:D->Bool
 | .str _=>cM
 | _=>cR
@[simp] noncomputable def CJ:D->Bool
 | .tup _=>cM
 | _=>cR
@[simp] noncomputable def CM:D->Bool
 | .lst _=>cM
 | _=>cR
noncomputable def CI:Ty->D->Bool
 | .int=>CN
 | .bool=>GC
 | .str=>CK
 | .tuple=>CJ
 | .list=>CM
noncomputable def ro(T:Ty)(f:CO D)(γ:Ctx):Option D:=(f γ).map λd=> .bl (CI T d)
noncomputable def GB:Ty->Sk->Bool
 | .tuple,.T=>cM
 | .list,.L=>cM
 | _,_=>cR
noncomputable def Ly(T:Ty)(f:CO (Sk×List D))(γ:Ctx):Option D:=(f γ).map λa=> .bl (GB T a.1)
@[simp] noncomputable def u_:D->Bool
 | .ez=>cM
 | _=>cR
@[simp] noncomputable def eqB(a:Bool):D->Bool
 | .bl b=>a==b
 | .int b=>(if a then 1 else 0)==b
 | _=>cR
@[simp] noncomputable def Uk(a:Int):D->Bool
 | .bl b=>a==(if b then 1 else 0)
 | .int b=>a==b
 | _=>cR
@[simp] noncomputable def Ul(a:Str):D->Bool
 | .str b=>a==b
 | _=>cR
@[simp] noncomputable def X'(a:Str)(i:Option Int):D->Bool
 | _=>cR
mutual
def i5:D->D->Bool
 | .ez,y=>u_ y
 | .bl a,y=>eqB a y
 | .int a,y=>Uk a y
 | .str a,y=>Ul a y
 | .tup xs,y=>match y with
  | .tup e=>rb xs e
  | _=>cR
 | .lst xs,y=>match y with
  | .lst e=>rb xs e
  | _=>cR
 | .m7 a b,y=>match y with
  | .m7 c d=>rb a c && rb b d
  | _=>cR
 | .ml a b,y=>match y with
  | .ml c d=>a==c && rb b d
  | _=>cR
def rb:List D->List D->Bool
 | [],[]=>cM
 | x::xs,y::ys=>i5 x y && rb xs ys
 | _,_=>cR
end
mutual
def deep:D->Nat
 | .tup a=>n3 a+1
 | .lst a=>n3 a+1
 | _=>0
def n3:List D->Nat
 | []=>0
 | x::xs=>max (deep x)<|n3 xs
end
mutual
def h9:D->Bool
 | .str x=>x.cps.all (· < 0x110000)
 | .m7 _ _=>cR
 | .ml _ _=>cR
 | .tup a=>o6 a
 | .lst a=>o6 a
 | _=>cM
def o6:List D->Bool
 | []=>cM
 | x::xs=>h9 x && o6 xs
end
noncomputable def jn(d:D):Bool:=decide (deep d<=20) && h9 d
noncomputable def f9(x y:D):Option D:=if jn x=cM/\jn y=cM then cq (.bl<|i5 x y)else cO
noncomputable def gv(x y:D):Option D:=if jn x=cM/\jn y=cM then cq (.bl<|!i5 x y)else cO
noncomputable def Ef:D->D->Option D
 | x,.ez=>cq (.bl<|match x with | .ez=>cM | _=>cR)
 | _,_=>cO
noncomputable def zV(f:CO (Sk×List D))(γ:Ctx):Option D:=(f γ).map λa=> .tup a.2
noncomputable def eV(f:CO (Sk×List D))(γ:Ctx):Option (List D):=(f γ).map λa=>a.2
noncomputable def W4:List D->Option Int
 | []=>cq 0
 | .int i::r=>(W4 r).map λs=>i+s
 | _::_=>cO
noncomputable def bU(f:CO (Sk×List D))(γ:Ctx):Option D:=(f γ).bind λa=>(W4 a.2).map D.int
noncomputable def EG:D->Option Bool
 | .ez=>cq cR
 | .bl b=>cq b
 | .int i=>cq (i != 0)
 | _=>cO
noncomputable def Jp:List D->Option (List Bool)
 | []=>cq []
 | d::r=>(EG d).bind λb=>(Jp r).map λs=>b::s
noncomputable def Aw(f:CO (Sk×List D))(γ:Ctx):Option D:=(f γ).bind λa=>(Jp a.2).map λs=> .bl (s.all id)
noncomputable def Av(f:CO (Sk×List D))(γ:Ctx):Option D:=(f γ).bind λa=>(Jp a.2).map λs=> .bl (s.any id)
noncomputable def ka(f:CO D)(γ:Ctx):Option D:=(f γ).bind λd=>match d with
 | .int i=>cq (.int i)
 | .bl b=>cq (.int<|if b then 1 else 0)
 | _=>cO
noncomputable def eT(f g:CO D)(γ:Ctx):Option D:=((f γ).bind m5).bind λi=>((g γ).bind m5).map λj=> .int (if j>i then j else i)
noncomputable def sR(f:CO (Sk×List D))(γ:Ctx):Option Bool:=(f γ).map λa=> !a.2.isEmpty
noncomputable def EK(f:CO D):CO D:=λa=>((f a).bind m5).map λi=> .int (-i)
noncomputable def kZ(F G:D->D->Option D)(C I J:CO D):CO D:=λa=>(C a).bind λx=>(I a).bind λy=>((F x y).bind r0).bind λb=>if b=cM then (J a).bind λz=>G y z else cq (.bl cR)
noncomputable def eQ(T:Tg)(f:CO D)(γ:Ctx):Option Fl:=(f γ).bind λd=>(xG T d γ).map .next
noncomputable def Lg:D->Option Int
 | .tup (.int k::_)=>cq k
 | _=>cO
noncomputable def Cz:List D->Option (List Int)
 | []=>cq []
 | d::r=>(Lg d).bind λk=>(Cz r).map λl=>k::l
noncomputable def HZ:List Int->Bool
 | a::b::r=>decide (a<b) && HZ (b::r)
 | _=>cM
noncomputable def Ld(ks:List Int):Nat:=(ks.dropLast.filter λk=>decide<|k<ks.getLast?.getD 0).length
noncomputable def Lh(q:Nat)(ds:List D):List D:=ds.dropLast.take q++(ds.drop (ds.length - 1)++ds.dropLast.drop q)
noncomputable def FQ(ds:List D):Option (List D):=(Cz ds).bind λa=>if (1<=ds.length/\ds.length<=8)/\HZ a.dropLast=cM/\decide (a.getLast?.getD 0∈a.dropLast)=cR then cq (Lh (Ld a) ds)else cO
noncomputable def FS(f:CO (Sk×List D))(γ:Ctx):Option (List D):=(f γ).bind λa=>match a.1 with
 | .L=>FQ a.2
 | _=>cO
noncomputable def GK:D->Bool
 | .tup _=>cR
 | .lst _=>cR
 | .m7 _ _=>cR
 | .ml _ _=>cR
 | _=>cM
end DL
namespace L2
open PySem PySem.Spec PyProof.Rows
noncomputable def i7(k:Sk)(h:fy)(i l:dn)(n:Nat):Prop:=match k with
 | .L=>h.IsListIter i l n
 | .T=>h.IsTupleIter i l n
noncomputable def lC(k:Sk)(h:fy)(l:dn)(xs:Array dy):Prop:=match k with
 | .L=>h.IsList l xs
 | .T=>h.IsTuple l xs
noncomputable def je(k:Sk)(l:dn):mu:=match k with
 | .L=>{cls:= .type "list_iterator",data:= .fields #[.ref l,.int 0 0]}
 | .T=>{cls:= .type "tuple_iterator",data:= .fields #[.ref l,.int 0 0]}
theorem i7.at(x:i7 k h i l n)(e : ∀o,h.get? i=cq o->h'.get? i=cq o):i7 k h' i l n:=by cases k<;>exact let ⟨o,I,r⟩:=x;⟨o,e _ I,r⟩
theorem lC.at(x:lC k h l xs)(e : ∀o,h.get? l=cq o->h'.get? l=cq o):lC k h' l xs:=by cases k<;>exact let ⟨o,I,r⟩:=x;⟨o,e _ I,r⟩
theorem i7.obj(x:i7 k h i l n) : ∃o,h.get? i=cq o/\∀v,o.data ≠ .cell v:=by cases k<;>exact let ⟨o,I,_,d⟩:=x;⟨o,I,λv z=>by rw[d]at z;cases z⟩
theorem lC.lt(x:lC k h l xs):l<h.objs.size:=by cases k<;>exact let ⟨o,I,_⟩:=x;Me I
theorem JZ(k:Sk)(h:fy)(l:dn):i7 k (h.push<|je k l) h.objs.size l 0:=by cases k<;>exact⟨_,Ma _ rfl,rfl,rfl⟩
section
variable{prog:il}{w:hG}{A:k0}{E:EQ}{s:ed}
theorem aQ(I:lC k s.heap l xs)(O:Q (.ref s.heap.objs.size) {s with heap:=s.heap.push (je k l)}):wpAny (eg prog w) A (F8<|.ref l) Q E s:=by
 cases k
 ·exact SS I O
 ·exact RK I O
theorem kG(U:i7 k s.heap it l i)(Y:lC k s.heap l items)(hx:items[i]? = cq x)
 (C : ∀h',i7 k h' it l (i+1)->OW it s.heap h'->Q x {s with heap:=h'}):wpAny (eg prog w) A (Mq<|.ref it) Q E s:=by
 cases k with
 | L=>exact wpAny_nextOf_list_item U Y hx C
 | T=>
  have O:s.heap.IsTupleIter it l i:=U;obtain⟨o,I,e,a⟩:=id O;obtain⟨g,b,_,f,d⟩:=(show s.heap.IsTuple l items from Y);unfold Mq;refine LK (MK (name:=Mw "__next__") O.typeIs Rz (MS Rz O.typeIs t_ ?_ (o_ _)));refine LK (m:=field (.ref it) 0) (MJ I a (x:= .ref l) rfl ?_);show wpAny _ _ (if (Nw l==MM)=cM then _ else _) _ _ s;rw[UY (show ¬((Nw l==MM)=cM)from MP)];refine LK (m:=field (.ref it) 1) (MJ I a (x:= .int i 0) rfl ?_);refine LK (m:=seqItems? (.ref l)) (NN b d ?_);simp only[NF,hx];refine LK (wpAny_setField I a ⋯ (LU ⟨x,rfl,LU (C _ ?_ (OW.update ..))⟩));show Heap.IsTupleIter _ it l (i+1);exact⟨_,NB _ I (Obj.isFreed_of_fields (T8 a _)),(Obj.cls_mapFields ..).trans e,by rw[T8 a];simp[o8]⟩
theorem wG(I:A.handled=cO)(Y:i7 k s.heap it l i)(C:lC k s.heap l items)(hx:items[i]? = cO)
 (hE : ∀h' e,Heap.ExtBut it s.heap h'->(∃o,h'.get? e=cq o/\o.cls = .type "StopIteration")->E (.ref e) {s with heap:=h'}):wpAny (eg prog w) A (Mq (.ref it)) Q E s:=by
 cases k with
 | L=>exact wpAny_nextOf_list_end I Y C hx hE
 | T=>
  have O:s.heap.IsTupleIter it l i:=Y;obtain⟨o,U,g,b⟩:=id O;obtain⟨j,d,_,h,f⟩:=(show s.heap.IsTuple l items from C);unfold Mq;refine LK (MK (name:=Mw "__next__") O.typeIs Rz (MS Rz O.typeIs t_ ?_ (o_ _)));refine LK (m:=field (.ref it) 0) (MJ U b (x:= .ref l) rfl ?_);show wpAny _ _ (if (Nw l==MM)=cM then _ else _) _ _ s;rw[UY (show ¬((Nw l==MM)=cM)from MP)];refine LK (m:=field (.ref it) 1) (MJ U b (x:= .int i 0) rfl ?_);refine LK (m:=seqItems? (.ref l)) (NN d f ?_);simp only[NF,hx];refine LK (OT (LK (wpAny_setField U b ⋯ ?_)));refine LK (m:=L7 (.type "StopIteration") []) ?_;simp only[L7,Tc];refine LK (MZ ?_ (by size_fits));refine LK (m:=FG _ _) (OB (a:=MM) (by first | rfl | (simp only[FG];rfl)) ?_);refine MZ ?_ (by size_fits);simp only[raiseNew];refine LK (S_ ?_)
  first | rw[show A.in1.handled=cO from I] | rw[I]
  exact LK<|LU<|wpAny_throw<|hE _ _ (((OW.update ..).extBut.push _).push _) ⟨_,Ma _ rfl,rfl⟩
theorem K5{k1 k2:Sk}{z TI TO C J L S:dn}{Z n2:Nat}{xs ys:Array dy}{x y a b:dy}{Q:EQ}(D:u6 z TI TO C J L S)
 (hz:rq s.heap z TI TO .none) (b9:lp s.heap TI (.ref C) (.ref J)) (bb:lp s.heap TO a b)
 (h1:i7 k1 s.heap C L Z) (h2:i7 k2 s.heap J S n2) (bd:lC k1 s.heap L xs) (be:lC k2 s.heap S ys) (hx:xs[Z]? = cq x) (hy:ys[n2]? = cq y)
 (hQ : ∀h',rq h' z TI TO (o8 s.heap.objs.size)->lp h' TO x y->i7 k1 h' C L (Z+1)->i7 k2 h' J S (n2+1)->lp h' s.heap.objs.size x y->h'.objs.size=s.heap.objs.size+1->
   (∀c o,c≠z->c≠TO->c≠C->c≠J->s.heap.get? c=cq o->h'.get? c=cq o)->Q (.ref s.heap.objs.size) {s with heap:=h'}) :
 wpAny (eg prog w) A (l6.«zip.__next__» ⟨[.ref z],[]⟩) (λbi s'=>∃v,bi = .done (.ret v)/\Q v s') E s:=by
 refine LK (m:=field (.ref z) 2)<|MJ hz rfl (x:= .bool cR) rfl ?_;refine LK (m:=field (.ref z) 3)<|MJ hz rfl (x:= .ref TI) rfl ?_;refine LK<|NN b9 rfl ?_;refine LK (m:=Mz<|.ref z) ?_;unfold Mz;refine LK<|MJ hz rfl (x:= .none) rfl<|LU ?_;simp only[if_true];refine LK<|OT<|LK<|MJ hz rfl (x:= .ref TO) rfl ?_;refine LK<|Ng hz ⋯ λg1 p O=>?_;replace p:rq g1 z TI TO .ellipsis:=p;refine LK ?_;simp only[List.zipIdx_cons,List.zipIdx_nil,Rl,Rx];refine LK<|LK<|SN ?_;refine LK (m:=Mq<|.ref C)<|kG (h1.at λo e=>O.extBut _ _ D.i1z e) (bd.at λo e=>O.extBut _ _ D.l1z e) hx λg2 R Y=>LU ?_;have G:lp g2 TO a b:=Y.extBut _ _ D.TOi1<|O.extBut _ _ D.TOz bb;refine LK<|NN G rfl<|LK<|T7 G λg3 r d=>?_;replace r:lp g3 TO x b:=r;refine LK<|Sd<|LU<|LK<|LK<|SN ?_;refine LK (m:=Mq<|.ref J)<|kG (h2.at λo e=>d.extBut _ _ D.TOi2.symm<|Y.extBut _ _ D.i12.symm<|O.extBut _ _ D.i2z e) (be.at λo e=>d.extBut _ _ D.l2TO<|Y.extBut _ _ D.l2i1<|O.extBut _ _ D.l2z e) hy λg4 T f=>LU ?_;have H:lp g4 TO x b:=f.extBut _ _ D.TOi2 r;refine LK<|NN H rfl<|LK<|T7 H λI j g=>?_;replace j:lp I TO x y:=j;refine LK<|Sd<|LU<|LU<|LK<|NN j rfl<|LK<|RO ?_;have i:I.objs.size=s.heap.objs.size:=by rw[g.1,f.1,d.1,Y.1,O.1]
 have K:rq I z TI TO .ellipsis:=g.extBut _ _ D.TOz.symm (f.extBut _ _ D.i2z.symm (d.extBut _ _ D.TOz.symm (Y.extBut _ _ D.i1z.symm p)));have c0 : ∀c o,c≠z->c≠TO->c≠C->c≠J->s.heap.get? c=cq o->I.get? c=cq o:=λc o U l B F e=>g.extBut _ _ l (f.extBut _ _ F (d.extBut _ _ l (Y.extBut _ _ B (O.extBut _ _ U e))));have W:i7 k1 I C L (Z+1):=R.at λo e=>g.extBut _ _ D.TOi1.symm (f.extBut _ _ D.i12 (d.extBut _ _ D.TOi1.symm e));have X:i7 k2 I J S (n2+1):=T.at λo e=>g.extBut _ _ D.TOi2.symm e;have M:z<I.objs.size:=Me K;refine LK (m:=NQ (.ref z) (.ref I.objs.size)) ?_;unfold NQ;have c7:rq (I.push {cls:= .type "tuple",data:= .seq #[x,y]}) z TI TO .ellipsis:=LN _ K;refine LK (Ng c7 ⋯ λg7 t u=>?_);replace t:rq g7 z TI TO (o8 I.objs.size):=t;refine Ng t ⋯ λh k as=>?_;replace k:rq h z TI TO (o8 I.objs.size):=k;have n : ∀c o,c≠z->I.get? c=cq o->h.get? c=cq o:=λc o U e=>as.extBut _ _ U (u.extBut _ _ U (LN _ e));have N:lp h I.objs.size x y:=as.extBut _ _ (NL M) (u.extBut _ _ (NL M) (Ma _ rfl));have P:h.objs.size=I.objs.size+1:=by rw[as.1,u.1,MO]
 rw[i]at k N P;refine LU ⟨_,rfl,?_⟩;show Q (.ref I.objs.size) _;rw[i];exact hQ h k (n _ _ D.TOz j) (W.at λo e=>n _ o D.i1z e) (X.at λo e=>n _ o D.i2z e) N P λc o U l B F e=>n c o U<|c0 c o U l B F e
theorem WM{k1 k2:Sk}{z TI TO C J L S:dn}{Z n2:Nat}{xs ys:Array dy}{a b:dy}{Q:Fin->ed->Prop}(hh:A.handled=cO)(D:u6 z TI TO C J L S)
 (hz:rq s.heap z TI TO .none) (as:lp s.heap TI (.ref C) (.ref J)) (ax:lp s.heap TO a b)
 (h1:i7 k1 s.heap C L Z) (h2:i7 k2 s.heap J S n2) (ak:lC k1 s.heap L xs) (b0:lC k2 s.heap S ys) (b5:xs[Z]? = cO\/ys[n2]? = cO)
 (hE : ∀h' e,(∀c o,c≠z->c≠TO->c≠C->c≠J->s.heap.get? c=cq o->h'.get? c=cq o)->(∃o,h'.get? e=cq o/\o.cls = .type "StopIteration")->E (.ref e) {s with heap:=h'}) :
 wpAny (eg prog w) A (l6.«zip.__next__» ⟨[.ref z],[]⟩) Q E s:=by
 refine LK (m:=field (.ref z) 2) (MJ hz rfl (x:= .bool cR) rfl ?_);refine LK (m:=field (.ref z) 3) (MJ hz rfl (x:= .ref TI) rfl ?_);refine LK (NN as rfl ?_);refine LK (m:=Mz (.ref z)) ?_;unfold Mz;refine LK (MJ hz rfl (x:= .none) rfl (LU ?_));simp only[if_true];refine LK (OT (LK (MJ hz rfl (x:= .ref TO) rfl ?_)));refine LK (Ng hz ⋯ λg1 k I=>?_);replace k:rq g1 z TI TO .ellipsis:=k;refine LK ?_;simp only[List.zipIdx_cons,List.zipIdx_nil,Rl,Rx];refine LK (LK (SN ?_));have r : ∀{g e:_} {i:mu},rq g z TI TO .ellipsis->(∀c o,c≠z->c≠TO->c≠C->c≠J->s.heap.get? c=cq o->g.get? c=cq o)->g.get? e=cq i->i.cls = .type "StopIteration"->
  wpAny (eg prog w) A (G4 (.ref z) 0 .none) (λ_ F=>E (.ref e) F) E {s with heap:=g}:=λ{g e i} l9 hk U d=>by
  have y:e≠z:=λq=>by subst q;rw[l9]at U;cases U;simp at d
  exact Ng l9 ⋯ λg3 _ Y=>hE g3 e (λc o f l j n q=>Y.extBut _ _ f<|hk c o f l j n q) ⟨i,Y.extBut _ _ y U,d⟩
 cases hx:xs[Z]? with
 | none=>
  refine LK (m:=Mq<|.ref C)<|wG hh (h1.at λo e=>I.extBut _ _ D.i1z e) (ak.at λo e=>I.extBut _ _ D.l1z e) hx λg2 e O p=>?_;obtain⟨i,U,d⟩:=p;exact r (O _ _ D.i1z.symm k) (λc o f _ j _ q=>O _ _ j<|I.extBut _ _ f q) U d
 | some x=>
  have B:ys[n2]? = cO:=by rcases b5 with h | h;rw[hx]at h;cases h;exact h
  refine LK (m:=Mq<|.ref C)<|kG (h1.at λo e=>I.extBut _ _ D.i1z e) (ak.at λo e=>I.extBut _ _ D.l1z e) hx λg2 G O=>LU ?_;have t:lp g2 TO a b:=O.extBut _ _ D.TOi1<|I.extBut _ _ D.TOz ax;refine LK<|NN t rfl<|LK<|T7 t λg3 H Y=>?_;refine LK<|Sd<|LU<|LK<|LK<|SN ?_;refine LK (m:=Mq<|.ref J)<|wG hh (h2.at λo e=>Y.extBut _ _ D.TOi2.symm<|O.extBut _ _ D.i12.symm<|I.extBut _ _ D.i2z e) (b0.at λo e=>Y.extBut _ _ D.l2TO<|O.extBut _ _ D.l2i1<|I.extBut _ _ D.l2z e) B λK e u p=>?_;obtain⟨i,U,d⟩:=p;exact r (u _ _ D.i2z.symm<|Y.extBut _ _ D.TOz.symm<|O.extBut _ _ D.i1z.symm k) (λc o f l j n q=>u _ _ n<|Y.extBut _ _ l<|O.extBut _ _ j<|I.extBut _ _ f q) U d
end
noncomputable def kB(a b:dy):mu:={cls:= .type "tuple",data:= .seq #[a,b]}
noncomputable def EE(TI TO:dn):mu:={cls:= .type "zip",data:= .fields #[.none,.bool cR,.bool cR,.ref TI,.ref TO]}
noncomputable def yM(k1 k2:Sk)(h:fy)(I C:dn):fy:=
 MD (MD (MD (MD (MD h<|je k1 I)<|je k2 C)<|kB (.ref h.objs.size)<|.ref<|h.objs.size+1)<|kB .none .none) (EE (h.objs.size+2)<|h.objs.size+3)
theorem WL(k1 k2:Sk)(I C:dn)(xs ys:Array dy) :
 D7 (l6.«zip.__new__» ⟨[.type "zip",.ref I,.ref C],[]⟩) (λ_ R s=>lC k1 s.heap I xs/\lC k2 s.heap C ys/\
  R (.ok<|.ret<|.ref<|s.heap.objs.size+4) {s with heap:=yM k1 k2 s.heap I C}):=
 .of_wp λa w A R s h=>by
  obtain⟨O,g,d,b,os⟩:=s;obtain⟨Q,U,h⟩:=h;have i:=sub_zip;have Y:lC k1 (Shared.heap ⟨O,g,d,b,os⟩) I xs:=Q;have f:lC k2 (Shared.heap ⟨O.push<|je k1 I,g,d,b,os⟩) C ys:=U.at λo e=>LN _ e
  wp_walk using aQ Y,aQ f
  refine⟨_,rfl,?_⟩;simp only[yM,kB,EE,MO]at h ⊢;exact h
section
variable{X:Cx}{pins:UQ}{σ:St}{H:Hp}{s:ed}{h':fy}
theorem Inv.TU{t':Nat}{fp:List dn}{a:dn}{o:HO}(I:Inv X pins σ H s)(k : ∀b u,b∉fp->s.heap.get? b=cq u->h'.get? b=cq u)(U : ∀b∈fp,vD X pins H b)
 (C:s.heap.objs.size<=a) (new:m3 X.prog X.w (upd H a o) h' a o):Inv X pins σ (upd H a o) {s with heap:=h',toks:=t'}:=by
 have d:H a=cO:=I.f6.fresh C;have f : ∀b u,H b=cq u->b∉fp:=λb u e z=>by rw[(U b z).1]at e;cases e
 have h : ∀b u,s.heap.get? b=cq u->b≠a:=λb u e=>Ml<|Mv (Me e) C;refine I.step (g':=s.gens) (d':=s.drawn) (ch:=fp) (λb O=>⟨(U b O).2.2.2.1,(U b O).2.1,(U b O).2.2.2.2.1,(U b O).2.2.2.2.2⟩) (λb u _ _ Q e _=>k b u Q e) (λb u _ _ Q e _=>⟨u.slots,k b u Q e⟩)
  (λb u _ e n=>by rw[zG (h b u e)];exact n) (λb u Q e=>⟨u,k b u Q e⟩) (λb g e=>by rw[zG (qk e d)];exact e) (λb Y g e=>by rw[zG (qk e d)];exact e)
  (λb t e=>⟨#[],by rw[zG (qk e d),e];simp⟩) (λm l=>?_) (λb u e=>?_) I.bare
 ·obtain⟨Y,j,i,p,r⟩:=l
  refine⟨Y,j,i,k _ Y (λz=>(U _ z).2.1 rfl) p,r⟩
 ·by_cases O:b=a
  ·subst O;rw[zJ]at e;cases e;exact new
  ·rw[zG O]at e
   refine(I.f6 b u e).Dq (λc v Q q=>k c v ?_ q) (λc q=>by rw[zG (qk q d)];exact q) λc g q=>by rw[zG (qk q d)];exact q
   rcases Q with z | z
   ·rw[z];exact f b u e
   ·exact f c _ z
theorem Inv.wo{t':Nat}{fp:List dn}(I:Inv X pins σ H s)(k : ∀b u,b∉fp->s.heap.get? b=cq u->h'.get? b=cq u)(Q : ∀b∈fp,vD X pins H b):Inv X pins σ H {s with heap:=h',toks:=t'}:=by
 have a : ∀b u,H b=cq u->b∉fp:=λb u e z=>by rw[(Q b z).1]at e;cases e
 refine I.step (g':=s.gens) (d':=s.drawn) (ch:=fp) (λb U=>⟨(Q b U).2.2.2.1,(Q b U).2.1,(Q b U).2.2.2.2.1,(Q b U).2.2.2.2.2⟩) (λb u _ _ O e _=>k b u O e) (λb u _ _ O e _=>⟨u.slots,k b u O e⟩)
  (λb u _ e n=>n) (λb u O e=>⟨u,k b u O e⟩) (λb d e=>e) (λb Y d e=>e)
  (λb j e=>⟨#[],by rw[e];simp⟩) (λm h=>?_) (λb u e=>?_) I.bare
 ·obtain⟨Y,g,f,i,r⟩:=h
  refine⟨Y,g,f,k _ Y (λz=>(Q _ z).2.1 rfl) i,r⟩
 ·refine(I.f6 b u e).Dq (λc v O q=>k c v ?_ q) (λc q=>q) λc d q=>q
  rcases O with z | z
  ·rw[z];exact a b u e
  ·exact a c _ z
end
noncomputable def kv(k:Sk)(K:LM)(H:Hp)(a:dn)(xs:List V):Prop:=match k with
 | .L=>gB K H a xs
 | .T=>gu K H a xs
theorem Inv.sq(I:Inv X pins σ H s)(h:kv k X.K H a xs) :
 ∃its:List dy,eK xs its/\lC k s.heap a its.toArray/\xs.length<=fe:=by
 cases k with
 | L=>obtain⟨its,r,p,z⟩:=I.list h;exact⟨its,r,p.isList,z⟩
 | T=>obtain⟨its,r,p,z⟩:=I.tuple h;exact⟨its,r,p,z⟩
theorem Inv.TC(I:Inv X pins σ H s)(h:kv k X.K H a xs)(h':kv k X.K H a ys):xs=ys:=by
 cases k with
 | L=>exact I.S7 h h'
 | T=>exact I.TR h h'
noncomputable def O6(k1 k2:Sk)(K:LM)(a b:dn):It:=
 ⟨λi H=>∃d e,kv k1 K H a d/\kv k2 K H b e/\i<d.length/\i<e.length,
  λi H x f=>∃p u v,x = .ref p/\H p=cO/\f=upd H p (.tup [u,v])/\(∀d,kv k1 K H a d->d[i]? = cq u)/\(∀e,kv k2 K H b e->e[i]? = cq v),
  λi H=>∃d e,kv k1 K H a d/\kv k2 K H b e/\(d.length<=i\/e.length<=i)⟩
theorem mj{P:il}{w:hG}{K:LM}{elts:List eh}{x1:Nat}{tw:g5}(k1 k2:Sk){z TI TO i1 i2 a b:dn}(D:u6 z TI TO i1 i2 a b) :
 Turn P w K (.Tuple elts x1 tw) (O6 k1 k2 K a b) [z,TI,TO,i1,i2] z (λi h=>rq h z TI TO .none/\lp h TI (.ref i1) (.ref i2)/\(∃c d,lp h TO c d)/\i7 k1 h i1 a i/\i7 k2 h i2 b i) where
 mem:=by simp
 obj:=λi h ⟨hz,U,⟨c,d,Y⟩,h1,h2⟩ y hy=>by
  simp only[Mc,Mn,or_false]at hy;rcases hy with rfl | rfl | rfl | rfl | rfl
  ·exact⟨_,hz,λv q=>by cases q⟩
  ·exact⟨_,U,λv q=>by cases q⟩
  ·exact⟨_,Y,λv q=>by cases q⟩
  ·exact h1.obj
  ·exact h2.obj
 keep:=λi h h' ⟨hz,U,⟨c,d,Y⟩,h1,h2⟩ k=>
  ⟨k z ⋯ _ hz,k TI ⋯ _ U,⟨c,d,k TO ⋯ _ Y⟩,h1.at λo e=>k i1 ⋯ o e,h2.at λo e=>k i2 ⋯ o e⟩
 item:=by
  rintro X hP hw hK hc i pins s σ H E I hf ⟨hz,U,⟨c,d,Y⟩,h1,h2⟩ ⟨xs,ys,ak,am,b7,b8⟩;subst hP hw hK;obtain⟨b9,ar,p1,z1⟩:=I.sq ak;obtain⟨bd,ax,p2,z2⟩:=I.sq am;have hx:xs[i]? = cq xs[i]:=LP b7;have hy:ys[i]? = cq ys[i]:=LP b8;obtain⟨u1,bf,bg⟩:=ar.get hx;obtain⟨u2,bi,bl⟩:=ax.get hy;have hT:s.TypeIs (.ref z) "zip":=⟨_,hz,rfl⟩;unfold rn;refine LK (NP (MK (name:=Mw "__next__") hT NJ (MS NJ hT Pu
   (K5 D hz U Y h1 h2 p1 p2 (x:=u1) (y:=u2) (by simpa using bf) (by simpa using bi) λg a1 a2 a3 a4 a5 a6 a7=>LU ⟨_,rfl,?_⟩) (E2 _))))
  refine wpAny_letOwnedTupleGo_zip a1 λg2 l9 a0=>?_;have lt : ∀{c o},s.heap.get? c=cq o->s.heap.objs.size≠c:=λe=>NL<|Me e;have c1:lp g2 s.heap.objs.size u1 u2:=a0.extBut _ _ (lt hz) a5;have kk : ∀Q u,Q ∉ [z,TI,TO,i1,i2]->s.heap.get? Q=cq u->g2.get? Q=cq u:=λQ u O e=>by simp only[Mc,Mn,or_false,not_or]at O;exact a0.extBut _ _ O.1<|a7 Q u O.1 O.2.2.1 O.2.2.2.1 O.2.2.2.2 e
  have I1:Inv X pins σ (upd H s.heap.objs.size<|.tup [xs[i],ys[i]]) {s with heap:=g2,toks:=s.toks}:=
   I.TU (fp:=[z,TI,TO,i1,i2]) kk hf (LW _) ⟨by show 2<=fe;decide,[u1,u2],.cons bg<|.cons bl .nil,⟨_,c1,rfl,_,rfl⟩⟩
  have c3:H s.heap.objs.size=cO:=I.fresh;refine⟨.ref s.heap.objs.size,_,I1,rfl,⟨_,_,_,rfl,c3,rfl,λca b0=>by rw[I.TC b0 ak];exact hx,λcb b0=>by rw[I.TC b0 am];exact hy⟩,?_,λQ O=>?_⟩
  ·exact⟨l9,a0.extBut _ _ D.TIz<|a7 _ _ D.TIz D.TITO D.TIi1 D.TIi2 U,⟨_,_,a0.extBut _ _ D.TOz a2⟩,a3.at λo e=>a0.extBut _ _ D.i1z e,a4.at λo e=>a0.extBut _ _ D.i2z e⟩
  ·have c4:Q≠s.heap.objs.size:=by
    simp only[Mc,Mn,or_false]at O;rcases O with rfl | rfl | rfl | rfl | rfl
    ·exact(lt hz).symm
    ·exact(lt U).symm
    ·exact(lt Y).symm
    ·obtain⟨o,e,_⟩:=h1.obj;exact(lt e).symm
    ·obtain⟨o,e,_⟩:=h2.obj;exact(lt e).symm
   rw[zG c4];exact(hf Q O).1
 done:=by
  rintro X hP hw hK hc i pins s σ H E I hf ⟨hz,U,⟨c,d,Y⟩,h1,h2⟩ ⟨xs,ys,ak,am,hi⟩;subst hP hw hK;obtain⟨b9,ar,p1,z1⟩:=I.sq ak;obtain⟨bd,ax,p2,z2⟩:=I.sq am;have hT:s.TypeIs (.ref z) "zip":=⟨_,hz,rfl⟩;have l1:=ar.length;have l2:=ax.length;unfold rn;refine LK (NP (MK (name:=Mw "__next__") hT NJ (MS NJ hT Pu
   (WM (show X.A.handled=cO from I.ok.hd hc) D hz U Y h1 h2 p1 p2 (by rcases hi with q | q;left;simp;omega;right;simp;omega) λg e hk he=>?_) (E2 _))))
  obtain⟨o,ho,c8⟩:=he;refine LK (OR (T:="StopIteration") (b:=cM) ⟨o,ho,c8⟩ RP (LU ⟨rfl,?_⟩));refine I.wo (t':=s.toks) (fp:=[z,TI,TO,i1,i2]) (λQ u O e=>?_) hf;simp only[Mc,Mn,or_false,not_or]at O;exact hk Q u O.1 O.2.2.1 O.2.2.2.1 O.2.2.2.2 e
 self:=λ_ _ _ _ _ st h=>SY st.1 h
noncomputable def Li(K:LM)(C:TA):TI:=λj H R=>C j H λg d=>∃e f a b,g=[.ref a,.ref b]/\(∃h,kv e K d a h)/\(∃i,kv f K d b i)/\R (O6 e f K a b) d
theorem BP{X:Cx}{L O:eh}{Z:TA}{p pos:g5}{C:List eh}{x1:Nat}{J:g5}(hg:Gl X "zip")(hm:X.mg "zip" = cO)(ha:PA X [L,O] Z)
 (hv:Di "zip" = cq (.type "zip")) (hs:fA [L,O] X.env=[(cR,el L X.env),(cR,el O X.env)]:=by rfl) (S:fA [O] X.env=[(cR,el O X.env)]:=by rfl) :
 PI X (.Tuple C x1 J) (.Call (.Name "zip" p) [L,O] [] pos) (Li X.K Z):=by
 intro j s A H R I h;refine Dc (kI I hg hm hv<|MC (e9 (ha pos j s A H _ I h) λus d hZ=>?_) (by rw[hs,S])<|by rw[S];rfl);obtain⟨vs,l,Q,r1,q1⟩:=hZ;obtain⟨f,g,a,b,e,⟨xs,E⟩,⟨ys,G⟩,q⟩:=q1;subst e;obtain⟨w1,w2,W,M,N⟩:=mh r1;subst W;cases M;cases N;obtain⟨P,bi,u,z1⟩:=Q.sq E;obtain⟨T,bm,w,z2⟩:=Q.sq G;have la:=u.lt;have lb:=w.lt;refine Ug F.called_zip ⋯ (F.typeCall_zip_2 _ _) (F.newCall_zip_2 _ _) (λobj=>F.args_object_init_3 obj _ _) F.entry_zip_new (WL f g a b P.toArray T.toArray) ⟨u,w,?_⟩;have keep : ∀c o,d.heap.get? c=cq o->(yM f g d.heap a b).get? c=cq o:=λc o e=>
  LN _ (LN _<|LN _<|LN _<|LN _ e)
 have x:(MD d.heap<|je f a).objs.size=d.heap.objs.size+1:=MO ..;have y:(MD (MD d.heap<|je f a)<|je g b).objs.size=d.heap.objs.size+2:=by rw[MO,x]
 have z:(MD (MD (MD d.heap<|je f a)<|je g b)<|kB (.ref d.heap.objs.size)<|.ref<|d.heap.objs.size+1).objs.size=d.heap.objs.size+3:=by rw[MO,y]
 have y4:(MD (MD (MD (MD d.heap<|je f a)<|je g b)<|kB (.ref d.heap.objs.size)<|.ref<|d.heap.objs.size+1)<|kB .none .none).objs.size=d.heap.objs.size+4:=by rw[MO,z]
 have g0:i7 f (yM f g d.heap a b) d.heap.objs.size a 0:=(JZ f d.heap a).at λo e=>LN _<|LN _<|LN _<|LN _ e;have g1:i7 g (yM f g d.heap a b) (d.heap.objs.size+1) b 0:=by have q:=JZ g (MD d.heap<|je f a) b;rw[x]at q;exact q.at λo e=>LN _<|LN _<|LN _ e
 have g2:lp (yM f g d.heap a b) (d.heap.objs.size+2) (.ref d.heap.objs.size) (.ref<|d.heap.objs.size+1):=by have q:_=cq (kB (.ref d.heap.objs.size)<|.ref<|d.heap.objs.size+1):=Ma (MD (MD d.heap<|je f a)<|je g b) (o:=kB (.ref d.heap.objs.size)<|.ref<|d.heap.objs.size+1) rfl;rw[y]at q;exact LN _<|LN _ q
 have g3:lp (yM f g d.heap a b) (d.heap.objs.size+3) .none .none:=by have q:_=cq (kB .none .none):=Ma (MD (MD (MD d.heap<|je f a)<|je g b)<|kB (.ref d.heap.objs.size)<|.ref<|d.heap.objs.size+1) (o:=kB .none .none) rfl;rw[z]at q;exact LN _ q
 have k:rq (yM f g d.heap a b) (d.heap.objs.size+4) (d.heap.objs.size+2) (d.heap.objs.size+3) .none:=by have q:=Ma (MD (MD (MD (MD d.heap<|je f a)<|je g b)<|kB (.ref d.heap.objs.size)<|.ref<|d.heap.objs.size+1)<|kB .none .none) (o:=EE (d.heap.objs.size+2)<|d.heap.objs.size+3) rfl;rw[y4]at q;exact q
 refine⟨⟨_,k,rfl⟩,SY (s:={d with heap:=yM f g d.heap a b}) k ?_⟩;have B:Inv X j A l {d with heap:=yM f g d.heap a b,toks:=d.toks}:=Q.kept keep;have nn : ∀m:Nat,d.heap.objs.size≠d.heap.objs.size+m+1:=λm=>by omega
 have U : ∀m:Nat,a≠d.heap.objs.size+m:=λm=>Ml<|Mv la<|MI _ m;have Y : ∀m:Nat,b≠d.heap.objs.size+m:=λm=>Ml<|Mv lb<|MI _ m;have i : ∀m n:Nat,m≠n->(d.heap.objs.size+m:Nat)≠d.heap.objs.size+n:=λm n h=>by omega
 have D:u6 (d.heap.objs.size+4) (d.heap.objs.size+2) (d.heap.objs.size+3) d.heap.objs.size (d.heap.objs.size+1) a b:=
  ⟨i 2 4 ⋯,i 3 4 ⋯,i 0 4 ⋯,i 1 4 ⋯,i 2 3 ⋯,i 2 0 ⋯,i 2 1 ⋯,i 3 0 ⋯,i 3 1 ⋯,i 0 1 ⋯,
   U 4,U 3,U 0,U 1,Y 4,Y 3,Y 0,Y 1⟩
 refine⟨_,[d.heap.objs.size+4,d.heap.objs.size+2,d.heap.objs.size+3,d.heap.objs.size,d.heap.objs.size+1],_,_,l,rfl,B,mj f g D,⟨k,g2,⟨_,_,g3⟩,g0,g1⟩,λc t=>?_,q⟩;have r:d.heap.objs.size<=c:=by
  simp only[Mc,Mn,or_false]at t;rcases t with rfl | rfl | rfl | rfl | rfl
  ·exact MI _ _
  ·exact MI _ _
  ·exact MI _ _
  ·exact LW _
  ·exact MI _ _
 exact Q.uO r<|Q.f6.fresh r
noncomputable def TY(k:Sk)(K:LM)(a:dn):It:=match k with
 | .L=>TZ K a
 | .T=>T3 K a
noncomputable def Lj(K:LM)(C:TE):TI:=λe H R=>C e H λx b=>∃a k,x = .ref a/\(∃d,kv k K b a d)/\R (TY k K a) b
theorem fX(U:PE X l tl):PI X tg l (Lj X.K tl):=by
 intro d s t H R I h;refine e9 (U d s t H _ I h) λv f Y=>?_;obtain⟨x,g,O,r,n⟩:=Y;obtain⟨a,k,e,⟨y,j⟩,q⟩:=n;subst e;cases r;have Q : ∀b ∈ [f.heap.objs.size],vD X d g b:=λb i=>by
  have e:b=f.heap.objs.size:=by simpa using i
  subst e;exact O.uO (LW _)<|O.f6.fresh<|LW _
 obtain⟨m,w,p,u⟩:=O.sq j;cases k with
 | L=>exact SS p ⟨f.heap.objs.size,[f.heap.objs.size],_,_,g,rfl,O.kept (t':=f.toks) λb o e=>LN _ e,dM a _,⟨_,Ma _ rfl,rfl,rfl⟩,Q,q⟩
 | T=>exact RK p ⟨f.heap.objs.size,[f.heap.objs.size],_,_,g,rfl,O.kept (t':=f.toks) λb o e=>LN _ e,bD a _,⟨_,Ma _ rfl,rfl,rfl⟩,Q,q⟩
end L2
namespace DL
open PySem PySem.Spec PyProof.Rows L2
noncomputable def VC(C:dn)(b:Bool)(TI TO:dn):mu:={cls:= .type "zip",dict:=cO,data:= .fields #[o8 C,.bool b,.bool cR,.ref TI,.ref TO],slots:=#[]}
section
variable{prog:il}{w:hG}{A:k0}{E:EQ}{s:ed}
theorem K6{z C TI TO:dn}{b:Bool}{O:mu}{Q:Bool->ed->Prop}(hz:s.heap.get? z=cq (VC C b TI TO))(J:s.heap.get? C=cq O)
 (I : ∀h',h'.get? z=cq (VC C cM TI TO)->OW z s.heap h'->Q cR {s with heap:=h'}):wpAny (eg prog w) A (Mz<|.ref z) Q E s:=by
 unfold Mz;refine LK<|MJ hz rfl (x:=o8 C) rfl ?_;show wpAny _ _ (loadIfAlive ((C:Int).toNat) >>= _) _ _ _;rw[NF];refine LK<|PySem.W.kdx_alive J ?_;simp only[Option.isNone_some,Nj,if_false];refine LK<|MJ hz rfl (x:= .bool b) rfl ?_;cases b with
 | true=>
  rw[UY ⋯];exact LU<|I _ hz ⟨rfl,λ_ _=>rfl⟩
 | false=>
  rw[UJ ⋯];refine LK<|Ng hz ⋯ λg U a=>?_;exact LU<|I g U a
theorem dw{k1 k2:Sk}{z TI TO C J Y S L:dn}{b:Bool}{oa:mu}{Z n2:Nat}{xs ys:Array dy}{x y:dy}{Q:EQ}(D:u6 z TI TO C J Y S)
 (hz:s.heap.get? z=cq (VC L b TI TO)) (ha:s.heap.get? L=cq oa) (a4:lp s.heap TI (.ref C) (.ref J))
 (h1:i7 k1 s.heap C Y Z) (h2:i7 k2 s.heap J S n2) (a5:lC k1 s.heap Y xs) (a6:lC k2 s.heap S ys) (hx:xs[Z]? = cq x) (hy:ys[n2]? = cq y)
 (hQ : ∀h',h'.get? z=cq (VC L cM TI TO)->i7 k1 h' C Y (Z+1)->i7 k2 h' J S (n2+1)->lp h' s.heap.objs.size x y->h'.objs.size=s.heap.objs.size+1->
   (∀c o,c≠z->c≠C->c≠J->s.heap.get? c=cq o->h'.get? c=cq o)->Q (.ref s.heap.objs.size) {s with heap:=h'}) :
 wpAny (eg prog w) A (l6.«zip.__next__» ⟨[.ref z],[]⟩) (λa9 s'=>∃v,a9 = .done (.ret v)/\Q v s') E s:=by
 refine LK (m:=field (.ref z) 2)<|MJ hz rfl (x:= .bool cR) rfl ?_;refine LK (m:=field (.ref z) 3)<|MJ hz rfl (x:= .ref TI) rfl ?_;refine LK<|NN a4 rfl ?_;refine LK (m:=Mz<|.ref z)<|K6 hz ha λg1 f I=>?_;simp only[Nj,if_false];rw[show(#[Nw C,Nw J]:Array dy)=[Nw C,Nw J].toArray from rfl,Sz];simp only[Rl,Rx];refine LK<|LK<|LK ?_;refine LK (m:=Mq<|.ref C)<|kG (h1.at λo e=>I.extBut _ _ D.i1z e) (a5.at λo e=>I.extBut _ _ D.l1z e) hx λg2 g U=>LU ?_;refine LU<|LK<|LK<|NG ?_;refine LK (m:=Mq<|.ref J)<|kG (h2.at λo e=>U.extBut _ _ D.i12.symm<|I.extBut _ _ D.i2z e) (a6.at λo e=>U.extBut _ _ D.l2i1<|I.extBut _ _ D.l2z e) hy λO h a=>LU ?_;refine LU<|LU ?_;have hsz:O.objs.size=s.heap.objs.size:=by rw[a.1,U.1,I.1]
 refine LK (RO (hsz:=by show 2<=fe;decide) ?_);refine LU ⟨_,rfl,?_⟩;show Q (.ref O.objs.size) _;rw[hsz];have d : ∀c o,O.get? c=cq o->(O.push {cls:= .type "tuple",data:= .seq #[x,y]}).get? c=cq o:=λc o e=>LN _ e;have i:O.get? z=cq (VC L cM TI TO):=a.extBut _ _ D.i2z.symm (U.extBut _ _ D.i1z.symm f);refine hQ _ (d _ _ i) ((g.at λo e=>d _ o (a.extBut _ _ D.i12 e))) (h.at λo e=>d _ o e) ?_ ?_ λc o j k l e=>d c o (a.extBut _ _ l (U.extBut _ _ k (I.extBut _ _ j e)))
 ·have:=Ma O (o:={cls:= .type "tuple",data:= .seq #[x,y]}) rfl
  rw[hsz]at this;exact this
 ·rw[MO,hsz]
theorem ma{k1 k2:Sk}{z TI TO C J U L al:dn}{b:Bool}{oa:mu}{S Y:Nat}{xs ys:Array dy}{Q:Fin->ed->Prop}(hh:A.handled=cO)(D:u6 z TI TO C J U L)
 (hz:s.heap.get? z=cq (VC al b TI TO)) (ha:s.heap.get? al=cq oa) (a7:lp s.heap TI (.ref C) (.ref J))
 (h1:i7 k1 s.heap C U S) (h2:i7 k2 s.heap J L Y) (Z:lC k1 s.heap U xs) (a8:lC k2 s.heap L ys) (a9:xs[S]? = cO\/ys[Y]? = cO)
 (hE : ∀h' e,(∀c o,c≠z->c≠C->c≠J->s.heap.get? c=cq o->h'.get? c=cq o)->(∃o,h'.get? e=cq o/\o.cls = .type "StopIteration")->E (.ref e) {s with heap:=h'}) :
 wpAny (eg prog w) A (l6.«zip.__next__» ⟨[.ref z],[]⟩) Q E s:=by
 refine LK (m:=field (.ref z) 2)<|MJ hz rfl (x:= .bool cR) rfl ?_;refine LK (m:=field (.ref z) 3)<|MJ hz rfl (x:= .ref TI) rfl ?_;refine LK<|NN a7 rfl ?_;refine LK (m:=Mz<|.ref z)<|K6 hz ha λg1 k I=>?_;simp only[Nj,if_false];rw[show(#[Nw C,Nw J]:Array dy)=[Nw C,Nw J].toArray from rfl,Sz];simp only[Rl,Rx];refine LK<|LK<|LK ?_;cases hx:xs[S]? with
 | none=>
  refine LK (m:=Mq<|.ref C)<|wG hh (h1.at λo e=>I.extBut _ _ D.i1z e) (Z.at λo e=>I.extBut _ _ D.l1z e) hx λg2 e O f=>?_;exact hE g2 e (λc o a d _ q=>O _ _ d<|I.extBut _ _ a q) f
 | some x=>
  have j:ys[Y]? = cO:=by rcases a9 with h | h;rw[hx]at h;cases h;exact h
  refine LK (m:=Mq<|.ref C)<|kG (h1.at λo e=>I.extBut _ _ D.i1z e) (Z.at λo e=>I.extBut _ _ D.l1z e) hx λg2 as O=>LU ?_;refine LU<|LK<|LK<|NG ?_;refine LK (m:=Mq<|.ref J)<|wG hh (h2.at λo e=>O.extBut _ _ D.i12.symm<|I.extBut _ _ D.i2z e) (a8.at λo e=>O.extBut _ _ D.l2i1<|I.extBut _ _ D.l2z e) j λg3 e g f=>?_;exact hE g3 e (λc o a d i q=>g _ _ i<|O.extBut _ _ d<|I.extBut _ _ a q) f
end
end DL
namespace L2
open PySem PySem.Spec PyProof.Rows
section
variable{κ:Type} [DecidableEq κ]
noncomputable def WR(C:List (κ×V))(k:κ):Option V:=(C.find? λI=>decide<|I.1=k).map (·.2)
noncomputable def du(C:List (κ×V))(k:κ)(v:V):List (κ×V):=
 if (C.any λI=>decide<|I.1=k)=cM then C.map (λI=>if I.1=k then (I.1,v)else I)else C++[(k,v)]
theorem XZ{p:κ×V}{r:List (κ×V)}{k:κ}(e:p.1=k):WR (p::r) k=cq p.2:=by simp[WR,Oz,e]
theorem WQ{p:κ×V}{r:List (κ×V)}{k:κ}(e : ¬p.1=k):WR (p::r) k=WR r k:=by simp[WR,Oz,e]
theorem JV(C:List (κ×V))(k:κ)(v:V):(du C k v).length<=C.length+1:=by
 unfold du;split
 ·rw[Mm];omega
 ·rw[Nf,Mo,MG];omega
theorem yg.Uq(r:yg o u):o.isSome=u.isSome:=by
 cases o with
 | none=>cases u with
  | none=>rfl
  | some _=>exact(show False from r).elim
 | some _=>cases u with
  | none=>exact(show False from r).elim
  | some _=>rfl
theorem KV.val{C:List (κ×V)}{vs:List (κ×dy)}(r:KV C vs)(k:κ):yg (WR C k) (D4 vs k):=by
 unfold KV at r
 induction r with
 | nil=>exact True.intro
 | @cons p q f I h t Q=>
  obtain⟨a,d⟩:=h;by_cases e:p.1=k
  ·have O:q.1=k:=a.symm.trans e
   have b:D4 (q::I) k=cq q.2:=by simp[D4,Oz,O]
   rw[XZ e,b];exact d
  ·have O : ¬q.1=k:=λz=>e (a.trans z)
   have b:D4 (q::I) k=D4 I k:=by simp[D4,Oz,O]
   rw[WQ e,b];exact Q
theorem KV.any(r:KV m9 vs)(k:κ):(m9.any λI=>decide<|I.1=k)=vs.any λI=>decide (I.1=k):=by
 unfold KV at r
 induction r with
 | nil=>rfl
 | cons h t O=>rw[RL,RL,O,h.1]
theorem KV.J_(r:KV m9 vs)(k:κ)(O:RelV y u) :
 KV (m9.map λI=>if I.1=k then (I.1,y)else I) (vs.map λI=>if I.1=k then (I.1,u)else I):=by
 unfold KV at r ⊢
 induction r with
 | nil=>exact .nil
 | @cons p q d U h t Q=>
  rw[Mu,Mu];refine .cons ?_ Q;obtain⟨a,b⟩:=h;by_cases e:p.1=k
  ·rw[UJ e,UJ (a.symm.trans e)];exact⟨a,O⟩
  ·rw[UY e,UY (λz=>e<|a.trans z)];exact⟨a,b⟩
theorem KV.put(r:KV m9 vs)(k:κ)(I:RelV y u):KV (du m9 k y) (stored vs k u):=by
 unfold du stored;rw[r.any k];by_cases e:(vs.any λO=>decide<|O.1=k)=cM
 ·rw[UJ e,UJ e];exact r.J_ k I
 ·rw[UY e,UY e];exact Paired.snoc r ⟨rfl,I⟩
theorem KV.length(r:KV m9 vs):m9.length=vs.length:=Paired.length r
end
theorem oo(r:RelV (kV k) u):(xC P w).is k u=cM:=by
 cases k with
 | inl i=>obtain⟨t,e⟩:=(show ∃t,u=Value.int i t from r);subst e;exact Wb P w i t
 | inr x=>obtain⟨t,e⟩:=(show ∃t,u=Value.str x t from r);subst e;exact Wa P w x t
theorem Y4 : ∀{ks:List Key} {us:List dy},eK (ks.map kV) us->ItemsAre (xC P w) ks us
 | [],_,r=>by rw[Ru]at r;cases r;exact .nil
 | k::ks,_,r=>by
  rw[Mu]at r;cases r with
  | cons h t=>exact .cons (oo h)<|Y4 t
abbrev KT(H:Hp):List (List Key×V)->List (List Key×dn×dy)->Prop:=Paired λp q=>p.1=q.1/\H q.2.1=cq (.tup (p.1.map kV))/\RelV p.2 q.2.2
theorem KT.val{H:Hp}{C:List (List Key×V)}{xs:List (List Key×dn×dy)}(r:KT H C xs)(k:List Key):yg (WR C k) ((DT xs k).map (·.2)):=by
 induction r with
 | nil=>exact True.intro
 | @cons p q f I h t Q=>
  obtain⟨a,_,d⟩:=h;by_cases e:p.1=k
  ·have O:q.1=k:=a.symm.trans e
   have b:DT (q::I) k=cq q.2:=by simp[DT,Oz,O]
   rw[XZ e,b];exact d
  ·have O : ¬q.1=k:=λz=>e (a.trans z)
   have b:DT (q::I) k=DT I k:=by simp[DT,Oz,O]
   rw[WQ e,b];exact Q
section
variable{P:il}{w:hG}{H:Hp}{h:fy}{a:dn}
theorem Bs(ok:l7 P w H h)(e:Rd H a u):m3 P w H h a u:=e.ok ok
theorem oN(ok:l7 P w H h)(e:Rd H a (.dK m9)):m9.length<=fe/\(a==C6)=cR/\∃vs,KV m9 vs/\h.DictOf (xC P w) a vs:=
 show m3 P w H h a (.dK m9)from Bs ok e
theorem GN(ok:l7 P w H h)(e:H a=cq (.dK m9)):m9.length<=fe/\(a==C6)=cR/\∃vs,KV m9 vs/\h.DictOf (xC P w) a vs:=oN ok<|.inl e
theorem gU(ok:l7 P w H h)(e:H a=cq (.tup<|ks.map kV)):(US<|xC P w).is h ks a:=by obtain⟨_,b,r,o,d,f,n,I⟩:=(show m3 P w H h a (.tup<|ks.map kV)from ok a _ e);exact⟨o,b.toArray,n,d,(Prod.mk.inj f).1,I,by simpa using Y4 r⟩
theorem uX(ok:l7 P w H h)(e:Rd H a (.dT m9)):m9.length<=fe/\(a==C6)=cR/\
 ∃xs,KT H m9 xs/\h.DictOfH (US<|xC P w) a xs:=by
 obtain⟨z,y,xs,r,o,b,O,d,f,Q,U,Y⟩:=(show m3 P w H h a (.dT m9)from Bs ok e);refine⟨z,y,xs,r,o,b,O,d,f,Q,U,λx hx=>?_,Y⟩;have all : ∀{l:List (List Key×V)} {m:List (List Key×dn×dy)},KT H l m->∀x∈m,(US<|xC P w).is h x.1 x.2.1:=by
  intro l m q
  induction q with
  | nil=>intro x hx;exact nomatch hx
  | @cons p q i j I t g=>
   intro x hx;rcases Mc.mp hx with e | hx
   ·subst e
    exact gU ok (by rw[<- I.1];exact I.2.1)
   ·exact g x hx
 exact all r x hx
end
noncomputable def ED(H:Hp)(a:dn)(y:V)(r:Option V):Prop:=
 (∃d k,Rd H a (.dK d)/\y=kV k/\r=WR d k)\/∃d k b,Rd H a (.dT d)/\y = .ref b/\H b=cq (.tup<|k.map kV)/\r=WR d k
section
variable{X:Cx}{pins:UQ}{σ:St}{H:Hp}{s:ed}{a:dn}{y v:V}{u r:dy}{o:Option V}{A:k0}{E:EQ}
theorem Inv.big(I:Inv X pins σ H s):C6<s.heap.objs.size:=by have h:vr<s.heap.objs.size:=(I.mod.glob.keeps I.bk).lt;exact Nat.lt_trans ⋯ h
theorem iM(L:A.units+1<DC)(I:Inv X pins σ H s)(g:ED H a y (cq v))(C:RelV y u)(h : ∀w' J,Inv X pins σ H J->RelV v w'->Q w' J) :
 wpAny (eg X.prog X.w) A (B9 (.ref a) u) Q E s:=by
 rcases g with⟨i,k,e,O,l⟩ | ⟨i,k,b,e,O,m,l⟩
 ·subst O
  obtain⟨z,n,t,U,Y⟩:=oN I.f6 e;obtain⟨w',f,d⟩:=yg.some_of (v:=v) (o:=D4 t k) (by rw[l];exact U.val k);exact wpAny_getItem_of (oo C) Y.mapOf f<|h w' _ (I.tok _) d
 ·subst O
  cases (show u=Nw b from C);obtain⟨z,n,x,U,Y⟩:=uX I.f6 e;obtain⟨w',f,d⟩:=yg.some_of (v:=v) (o:=(DT x k).map (·.2)) (by rw[l];exact U.val k);obtain⟨p,r,j⟩:=Option.map_eq_some_iff.mp f;refine wpAny_getItem_heap (P_ L) (gU I.f6 m) Y r ?_;rw[j];exact h w' _ (I.tok _) d
theorem Ln(L:A.units+1<DC)(I:Inv X pins σ H s)(g:ED H a y o)(C:RelV y u)(h : ∀J,Inv X pins σ H J->Q (.bool o.isSome) J) :
 wpAny (eg X.prog X.w) A (o4 .In u<|.ref a) Q E s:=by
 rcases g with⟨f,k,e,O,l⟩ | ⟨f,k,b,e,O,i,l⟩
 ·subst O
  obtain⟨z,d,j,U,Y⟩:=oN I.f6 e;refine wpAny_in_of (oo C) d Y.mapOf ?_;rw[<- (U.val k).Uq,<- l];exact h _<|I.tok _
 ·subst O
  cases (show u=Nw b from C);obtain⟨z,d,m,U,Y⟩:=uX I.f6 e;refine wpAny_in_heap (P_ L) (gU I.f6 i) d Y ?_;have q:=(U.val k).Uq;rw[Option.isSome_map]at q;rw[<- q,<- l];exact h _<|I.tok _
theorem uY(I:Inv X pins σ H s)(O:D8 (H a))(hs:OW a s.heap h')(Q : ∃q,h'.get? a=cq q)(new:m3 X.prog X.w (upd H a ob) h' a ob) :
 Inv X pins σ (upd H a ob) {s with heap:=h',toks:=t'}:=
 I.write (x:=a) (e:=a) O (.inl rfl) (λb q U z=>(hs.2 b U).trans z) Q new
theorem Ed(z:m9.length<=fe)(C:(a==C6)=cR)(I:KV m9 vs)(O:h'.DictOf (xC P w) a vs) :
 m3 P w H' h' a (.dK m9):=⟨z,C,vs,I,O⟩
end
noncomputable def Hx(i:eh):Prop:=∀I O,TH i cR I O=operate [I,O] (B9 I O)
theorem sD{prog:il}{w:hG}{A:k0}{E:EQ}{s:ed}{env:n7}{C I:eh}{pos:g5}{T id:String}{Q:EQ}
 (L:C8 (.type T) "__getitem__" = pure (cq (.builtin id))) (hs:Hx I)
 (h:wpAny (eg prog w) A (el C env) (λo J=>wpAny (eg prog w) A (el I env) (λi O=>O.TypeIs o T/\wpAny (eg prog w) A (B9 o i) Q E O) E J) E s) :
 wpAny (eg prog w) A (el (.Subscript C I pos) env) Q E s:=by
 refine Ub<|Oh h (λo J b=>Oh b (λi O U=>?_) λ_ _ x=>x) λ_ _ x=>x;obtain⟨e,U⟩:=U;unfold UE;refine LK ?_;rw[getitemInPython_of_ne e.not_modules];refine LK<|OF e L ?_;have Y:wpAny (eg prog w) A (TH I cR o i) (λr a=>wpAny (eg prog w) A (letTemporaryGo C o r >>= λ_=>pure r) Q E a) E O:=by rw[hs o i];exact wpAny_operating<|Oh U (λr a d=>LK<|wpAny_letTemporaryGo<|LU d) λ_ _ x=>x
 first
  | exact LU<|LK Y
  | exact LK<|LU<|LK Y
  | exact LK Y
theorem Wq(I:Inv X pins σ H s)(g:ED H a y o):s.TypeIs (.ref a) "dict":=by
 rcases g with⟨d,k,e,_,_⟩ | ⟨d,k,b,e,_,_,_⟩
 ·obtain⟨_,_,f,_,O⟩:=oN I.f6 e
  exact O.typeIs
 ·obtain⟨_,_,h,_,O⟩:=uX I.f6 e
  exact O.typeIs
noncomputable def FM(C ty:TE):TE:=λd H Q=>C d H λx e=>ty d e λy b=>∃a v,x = .ref a/\ED b a y (cq v)/\Q v b
noncomputable def IL(ty C:TE):TE:=λd H Q=>ty d H λy e=>C d e λx b=>∃a o,x = .ref a/\ED b a y o/\Q (.bl o.isSome) b
section
variable{X:Cx}{o i e value:eh}{pos pos' tw:g5}{td ty tv:TE}
theorem ua(U:X.A.units+1<DC)(Y:PE X o td)(C:PE X i ty)(hs:Hx i):PE X (.Subscript o i pos) (FM td ty):=by intro b s d H Q I h;refine sD PySem.F.slot_dict_getitem.lookup hs<|e9 (Y b s d H _ I h) λu w ⟨x,e,j,r,n⟩=>e9 (C b w d e _ j n) λz B ⟨y,f,O,t,a,v,m,g,p⟩=>?_;subst m;obtain rfl:u=Nw a:=r;exact⟨Wq O g,iM U O g t λG E k l=>⟨v,f,k,l,p⟩⟩
theorem Ce(O:X.A.units+1<DC)(C:PE X i ty)(U:PE X o td):PC X .In i o (IL ty td):=by intro b s d H Q I h;refine e9 (C b s d H _ I h) λz w ⟨y,e,Y,t,n⟩=>e9 (U b w d e _ Y n) λu B ⟨x,f,j,r,a,m,l,g,p⟩=>?_;subst l;obtain rfl:u=Nw a:=r;exact Ln O j g t λE k=>⟨.bl m.isSome,f,k,rfl,p⟩
end
theorem oO(h:fy)(I:C6<h.objs.size):m3 P w H (h.push {cls:= .type "dict",data:= .dict #[]}) h.objs.size (.dK []):=
 ⟨MR _,beq_eq_false_iff_ne.mpr<|My<|Ml I,[],.nil,Heap.DictOf.new h⟩
end L2
namespace DL
open PySem PySem.Spec PyProof.Rows L2
noncomputable def N9:List Str:=["NoPrime","Nought","NoTable","NoWidths","NoRow","Unlike","TooMany","NoTurn","NoLine","Nothing","NoArrow","NoText","NoRoom"]
noncomputable def AG(K:LM)(c:Str):Option dn:=match PySem.W.nsIn K vr c with
 | some (cq (.ref C))=>cq C
 | _=>cO
noncomputable def IC(K:LM)(C:dn):Bool:=
 ["int","bool","str","tuple","list"].all (λt=>RY K (.ref C) (.type t)==cq cR) && RY K (.ref C) (.type "ValueError")==cq cM &&
 PySem.W.findIn K (.ref C) "__getattribute__" == cq (cq (.builtin "BaseException.__getattribute__")) && PySem.W.findIn K (.ref C) "__getattr__" == cq cO &&
 PySem.W.findIn K (.ref C) "__class__" == cq (cq (.builtin "object.__class__")) && PySem.W.mroIn K C (.type "object")==cq cM && PySem.W.mroIn K C (.type "BaseException")==cq cM &&
 PySem.W.specialIn K (.builtin "object.__class__") "__get__" == cq (cq (.builtin "getset_descriptor.__get__")) && PySem.W.takesIn K (.builtin "object.__class__")==cq cM &&
 (PySem.W.clsIn K C).any (λI=> !I.hasDel) && PySem.W.typeIn K (.ref C)==cq (.type "type")
noncomputable def HA(K:LM):Bool:=match AG K "SplitError" with
 | some S=>N9.all λc=>match AG K c with
  | some C=>IC K C && RY K (.ref C) (.ref S)==cq cM && N9.all λI=>match AG K I with
   | some O=>RY K (.ref C) (.ref O)==cq (c==I)
   | none=>cR
  | none=>cR
 | none=>cR
noncomputable def Ls(h:fy)(a:dn)(C:dn):Prop:=∃o b,h.get? a=cq o/\o.cls = .ref C/\o.data = .fields b
structure Pz(K:LM)(H:Hp)(c:Str)(n:Option Int)(a:dn):Prop where
 all:HA K=cM
 mem:c∈N9
 ex : ∃C φ,AG K c=cq C/\H a=cq (.ext φ)/\(∀h,φ h->Ls h a C)/\
  match n with
  | none=>True
  | some i=>∃d,(∀h,φ h->∃o,h.get? a=cq o/\o.dict=cq d)/\H d=cq (.xd [(if c==("NoRoom" : Str)then "room" else "at",.int i)])
theorem Pz.mono{K:LM}{H H':Hp}{c:Str}{n:Option Int}{a:dn}(e : ∀b o,H b=cq o->H' b=cq o)(h:Pz K H c n a):Pz K H' c n a:=by
 obtain⟨f,g,C,j,O,g2,Q,I⟩:=h;refine⟨f,g,C,j,O,e _ _ g2,Q,?_⟩;cases n with
 | none=>exact I
 | some i=>obtain⟨d,U,Y⟩:=I;exact⟨d,U,e _ _ Y⟩
abbrev St:=L2.St
noncomputable def CF:D->Option Key
 | .int i=>cq (.inl i)
 | .str x=>cq (.inr x)
 | _=>cO
noncomputable def Y1:List D->Option (List Key)
 | []=>cq []
 | d::ds=>(CF d).bind λk=>(Y1 ds).map λr=>k::r
noncomputable def DQ(H:Hp)(a:dn)(ks:List D)(xs:List V):Prop:=∃b,Y1 ks=cq b/\b.length=xs.length/\H a=cq (.dK<|b.zip xs)
noncomputable def FH(k:List Int):Int:=reduceHash<|Builtin.Tuple.tupleHashOf<|k.map hashInt
noncomputable def Lx(o:mu)(xs:List (List Int×dn×dy)):Prop:=o.ExactDict/\∃a I,o.data = .dict a I/\a.toList=xs.map (λx=>⟨FH x.1,.ref x.2.1,x.2.2⟩)/\(xs.map (·.1)).Nodup
noncomputable def p_(a:dn)(o:mu):HO:= .ext λh=>h.get? a=cq o
noncomputable def O0(K:LM)(H:Hp)(a:dn)(ks:List (List Int))(ys:List V):Prop:=
 (a==C6)=cR/\∃o b,H a=cq (p_ a o)/\Lx o b/\b.map (·.1)=ks/\b.length<=fe/\(∀x∈b,gu K H x.2.1<|x.1.map V.int)/\eK ys (b.map (·.2.2))
mutual
def Rep(K:LM)(H:Hp):D->V->Prop
 | .ez,v=>v = .ez
 | .bl b,v=>v = .bl b
 | .int i,v=>v = .int i
 | .str x,v=>v = .str x
 | .tup ds,v=>∃a d,v = .ref a/\gu K H a d/\d9 K H ds d
 | .lst ds,v=>∃a d,v = .ref a/\gB K H a d/\d9 K H ds d
 | .m7 ks vs,v=>∃a d,v = .ref a/\DQ H a ks d/\d9 K H vs d
 | .ml ks vs,v=>∃a d,v = .ref a/\O0 K H a ks d/\d9 K H vs d
def d9(K:LM)(H:Hp):List D->List V->Prop
 | [],xs=>xs=[]
 | d::ds,xs=>∃x r,xs=x::r/\Rep K H d x/\d9 K H ds r
end
theorem mr{K:LM}{H H':Hp}{a:dn}{xs:List V}(e:g9 H H')(h:gu K H a xs):gu K H' a xs:=by
 rcases h with(h | ⟨o,h⟩) | h
 ·exact .inl<|.inl<|e _ _ h
 ·exact .inl<|.inr ⟨o,e _ _ h⟩
 ·exact .inr h
theorem vy{k:Sk}{K:LM}{H H':Hp}{a:dn}{xs:List V}(e:g9 H H')(h:kv k K H a xs):kv k K H' a xs:=by
 cases k
 ·exact e.seq h
 ·exact mr e h
mutual
theorem Rep.mono{K:LM}{H H':Hp}(e:g9 H H') : ∀{d:D} {v:V},Rep K H d v->Rep K H' d v
 | .ez,_,h=>h
 | .bl _,_,h=>h
 | .int _,_,h=>h
 | .str _,_,h=>h
 | .tup ds,v,h=>by obtain⟨a,b,f,i,g⟩:=(show ∃a b,v = .ref a/\gu K H a b/\d9 K H ds b from h);exact(show ∃a b,v = .ref a/\gu K H' a b/\d9 K H' ds b from⟨a,b,f,mr e i,d9.mono e g⟩)
 | .lst ds,v,h=>by obtain⟨a,b,f,i,g⟩:=(show ∃a b,v = .ref a/\gB K H a b/\d9 K H ds b from h);exact(show ∃a b,v = .ref a/\gB K H' a b/\d9 K H' ds b from⟨a,b,f,e.seq i,d9.mono e g⟩)
 | .m7 ks vs,v,h=>by obtain⟨a,b,f,⟨k,I,g2,O⟩,g⟩:=(show ∃a b,v = .ref a/\DQ H a ks b/\d9 K H vs b from h);exact(show ∃a b,v = .ref a/\DQ H' a ks b/\d9 K H' vs b from⟨a,b,f,⟨k,I,g2,e _ _ O⟩,d9.mono e g⟩)
 | .ml ks vs,v,h=>by obtain⟨a,b,f,⟨I,o,l,g2,O,Q,U,g6,Y⟩,g⟩:=(show ∃a b,v = .ref a/\O0 K H a ks b/\d9 K H vs b from h);exact(show ∃a b,v = .ref a/\O0 K H' a ks b/\d9 K H' vs b from⟨a,b,f,⟨I,o,l,e _ _ g2,O,Q,U,λx j=>mr e<|g6 x j,Y⟩,d9.mono e g⟩)
theorem d9.mono{K:LM}{H H':Hp}(e:g9 H H') : ∀{ds:List D} {xs:List V},d9 K H ds xs->d9 K H' ds xs
 | [],_,h=>h
 | d::ds,xs,h=>by obtain⟨x,r,a,b,f⟩:=(show ∃x r,xs=x::r/\Rep K H d x/\d9 K H ds r from h);exact(show ∃x r,xs=x::r/\Rep K H' d x/\d9 K H' ds r from⟨x,r,a,Rep.mono e b,d9.mono e f⟩)
end
section
variable{K:LM}{H:Hp}
theorem d9.nil:d9 K H [] []:=(show([]:List V)=[]from rfl)
theorem d9.cons(h:Rep K H d x)(t:d9 K H ds xs):d9 K H (d::ds) (x::xs):=⟨x,xs,rfl,h,t⟩
theorem d9.p5(h:d9 K H [] xs):xs=[]:=h
theorem d9.m8(h:d9 K H (d::ds) xs) : ∃x r,xs=x::r/\Rep K H d x/\d9 K H ds r:=h
theorem d9.length : ∀{ds:List D} {xs:List V},d9 K H ds xs->xs.length=ds.length
 | [],xs,h=>by rw[h.p5];rfl
 | d::ds,xs,h=>by obtain⟨x,r,e,_,t⟩:=h.m8;rw[e,Mo,Mo,d9.length t]
theorem d9.get : ∀{ds:List D} {xs:List V} {i:Nat} {d:D},d9 K H ds xs->ds[i]? = cq d->∃x,xs[i]? = cq x/\Rep K H d x
 | [],_,_,_,_,e=>by simp at e
 | c::ds,xs,0,d,h,e=>by obtain⟨x,r,a,b,_⟩:=h.m8;simp at e;subst e;exact⟨x,by rw[a];rfl,b⟩
 | c::ds,xs,i+1,d,h,e=>by obtain⟨x,r,a,_,t⟩:=h.m8;obtain⟨y,I,g2⟩:=d9.get (i:=i) (d:=d) t (by simpa using e);exact⟨y,by rw[a];simpa using I,g2⟩
theorem d9.Dm{ds:List D}{xs:List V}{i:Nat}{x:V}(h:d9 K H ds xs)(e:xs[i]? = cq x) : ∃d,ds[i]? = cq d/\Rep K H d x:=by
 have b:i<ds.length:=by rw[<- h.length];exact(Mj.mp e).1
 obtain⟨y,a,r⟩:=h.get<|LP b;rw[e]at a;cases a;exact⟨_,LP b,r⟩
theorem d9.append : ∀{ds es:List D} {xs ys:List V},d9 K H ds xs->d9 K H es ys->d9 K H (ds++es) (xs++ys)
 | [],_,xs,_,h,g=>by rw[h.p5];exact g
 | d::ds,es,xs,ys,h,g=>by obtain⟨x,r,e,a,t⟩:=h.m8;rw[e];exact d9.cons a<|d9.append t g
theorem d9.drop : ∀{ds:List D} {xs:List V} (n:Nat),d9 K H ds xs->d9 K H (ds.drop n) (xs.drop n)
 | _,_,0,h=>h
 | [],xs,n+1,h=>by rw[h.p5];exact d9.nil
 | d::ds,xs,n+1,h=>by obtain⟨x,r,e,_,t⟩:=h.m8;rw[e];exact d9.drop n t
theorem d9.take : ∀{ds:List D} {xs:List V} (n:Nat),d9 K H ds xs->d9 K H (ds.take n) (xs.take n)
 | _,_,0,h=>by simp;exact d9.nil
 | [],xs,n+1,h=>by rw[h.p5];exact d9.nil
 | d::ds,xs,n+1,h=>by obtain⟨x,r,e,a,t⟩:=h.m8;rw[e];exact d9.cons a<|d9.take n t
theorem d9.set : ∀{ds:List D} {xs:List V} {d:D} {x:V} (i:Nat),d9 K H ds xs->Rep K H d x->d9 K H (ds.set i d) (xs.set i x)
 | [],xs,_,_,_,h,_=>by rw[h.p5];exact d9.nil
 | c::ds,xs,d,x,0,h,g=>by obtain⟨y,r,e,_,t⟩:=h.m8;rw[e];exact d9.cons g t
 | c::ds,xs,d,x,i+1,h,g=>by obtain⟨y,r,e,a,t⟩:=h.m8;rw[e];exact d9.cons a<|d9.set i t g
end
structure Ext(H0 H xg H':Hp):Prop where
 s0:g9 H0 xg
 s1:g9 H H'
 sub:g9 xg H'
 new : ∀a,H0 a=cO->H a≠cO->xg a=cO
theorem Ext.refl(s:g9 H0 H):Ext H0 H H0 H:=⟨g9.refl _,g9.refl _,s,λ_ h _=>h⟩
theorem Ext.trans(a:Ext H0 H H1 G1)(b:Ext H1 G1 H2 G2):Ext H0 H H2 G2:=
 ⟨a.s0.trans b.s0,a.s1.trans b.s1,b.sub,λc e d=>b.new c (a.new c e d) (by
  cases q:H c with
  | none=>exact absurd q d
  | some o=>rw[a.s1 c o q];simp)⟩
theorem jh(h:H p=cO)(o:HO):g9 H (upd H p o):=λb u q=>by rw[zG (qk q h)];exact q
theorem js(s:g9 H0 H)(h:H p=cO):H0 p=cO:=s.free h
theorem eM(s:g9 H0 H):g9 (upd H0 p o) (upd H p o):=λb u q=>by
 by_cases e:b=p
 ·subst e;rw[zJ]at q ⊢;exact q
 ·rw[zG e]at q ⊢;exact s b u q
theorem Ext.alloc(s:g9 H0 H)(h:H p=cO)(o:HO):Ext H0 H (upd H0 p o) (upd H p o):=
 ⟨jh (js s h) o,jh h o,eM s,λa b d=>by rw[zG (λe=>d<|by rw[e];exact h)];exact b⟩
theorem Ext.hide(s:g9 H0 H)(h:H p=cO)(o:HO):Ext H0 H H0 (upd H p o):=
 ⟨g9.refl _,jh h o,s.trans<|jh h o,λa b _=>b⟩
theorem Ext.show(e:Ext H0 H xg H')(C:H a=cO)(J:xg a=cO)(O:H' a=cq o)(s:g9 H0 H):Ext H0 H (upd xg a o) H':=
 ⟨e.s0.trans<|jh J o,e.s1,λb u q=>by
  by_cases z:b=a
  ·subst z;rw[zJ]at q;rw[O];exact q
  ·rw[zG z]at q;exact e.sub b u q,λb Q I=>by
  rw[zG (λz=>I<|by rw[z];exact C)];exact e.new b Q I⟩
structure u5(K:LM)(H0 H:Hp)(rows:List (List D))(a:dn)(bs:List dn):Prop where
 a0:H0 a=cO
 ha:H a=cq (.lst<|bs.map V.ref)
 nd:(a::bs).Nodup
 len:bs.length=rows.length
 row : ∀(k:Nat) b row,bs[k]? = cq b->rows[k]? = cq row->H0 b=cO/\∃xs,H b=cq (.lst xs)/\d9 K H0 row xs
theorem u5.at{K:LM}{H0 H:Hp}{C:List (List D)}{a:dn}{bs:List dn}(n:u5 K H0 H C a bs){b:dn}(I:b∈a::bs):H0 b=cO/\∃xs,H b=cq (.lst xs):=by
 rcases Mc.mp I with rfl | I
 ·exact⟨n.a0,_,n.ha⟩
 ·obtain⟨k,O⟩:=Sj I
  have Q:=(Mj.mp O).1;rw[n.len]at Q;obtain⟨d,xs,e,_⟩:=n.row k b _ O<|LP Q;exact⟨d,xs,e⟩
theorem u5.move{K:LM}{H0 H J H':Hp}{C:List (List D)}{a:dn}{bs:List dn}(n:u5 K H0 H C a bs)(s:g9 H0 J)(I : ∀b∈a::bs,J b=cO)(h : ∀b∈a::bs,H' b=H b):u5 K J H' C a bs:=
 ⟨I a Mh,by rw[h a Mh];exact n.ha,n.nd,n.len,λk b row O U=>by obtain⟨_,e,d,Y⟩:=n.row k b row O U;have Q:b∈a::bs:=Mg _<|Na O;exact⟨I b Q,e,by rw[h b Q];exact d,Y.mono s⟩⟩
noncomputable def pb(K:LM)(H0 H:Hp)(C:St)(γ:Ctx):Prop:=
 (∀(i:Nat) b,γ[i]? = cq (.nest b)->∃a bs,C[i]? = cq (cq (.ref a))/\u5 K H0 H b a bs/\∀(j:Nat) d c,γ[j]? = cq (.own d)->C[j]? = cq (cq (.ref c))->c∉a::bs)/\
 ∀(i j:Nat) I e,γ[i]? = cq (.nest I)->γ[j]? = cq (.nest e)->i=j
theorem pb.D1{K:LM}{H0 H:Hp}{J:St}{γ:Ctx}(h : ∀(i:Nat) C,γ[i]? ≠ cq (.nest C)):pb K H0 H J γ:=⟨λi C e=>absurd e<|h i C,λi j I a e=>absurd e<|h i I⟩
theorem pb.move{K:LM}{H0 H J H':Hp}{L:St}{γ:Ctx}(n:pb K H0 H L γ)(s:g9 H0 J)(h : ∀(i:Nat) C a bs,γ[i]? = cq (.nest C)->L[i]? = cq (cq (.ref a))->u5 K H0 H C a bs->(∀(j:Nat) ds c,γ[j]? = cq (.own ds)->L[j]? = cq (cq (.ref c))->c∉a::bs)->∀b∈a::bs,J b=cO/\H' b=H b):pb K J H' L γ:=
 ⟨λi C e=>by obtain⟨a,bs,d,f,I⟩:=n.1 i C e;exact⟨a,bs,d,f.move s (λb O=>(h i C a bs e d f I b O).1)<|λb O=>(h i C a bs e d f I b O).2,I⟩,n.2⟩
theorem pb.ext{K:LM}{H0 H C H':Hp}{J:St}{γ:Ctx}(n:pb K H0 H J γ)(e:Ext H0 H C H'):pb K C H' J γ:=
 n.move e.s0 λi d a bs _ _ f _ b I=>by obtain⟨O,g,g2⟩:=f.at I;exact⟨e.new b O (by rw[g2];simp),by rw[e.s1 b _ g2,g2]⟩
structure RC(K:LM)(H0 H:Hp)(σ:St)(γ:Ctx):Prop where
 sub:g9 H0 H
 len:σ.length=γ.length
 val : ∀(i:Nat) d,γ[i]? = cq (.val d)->∃v,σ[i]? = cq (cq v)/\Rep K H0 d v
 own : ∀(i:Nat) ds,γ[i]? = cq (.own ds)->∃a xs,σ[i]? = cq (cq (.ref a))/\H0 a=cO/\H a=cq (.lst xs)/\d9 K H0 ds xs
 ne : ∀(i j:Nat) a ds es,γ[i]? = cq (.own ds)->γ[j]? = cq (.own es)->σ[i]? = cq (cq (.ref a))->σ[j]? = cq (cq (.ref a))->i=j
 n4:pb K H0 H σ γ
theorem RC.ext{K:LM}{H0 H C H':Hp}{J:St}{γ:Ctx}(r:RC K H0 H J γ)(e:Ext H0 H C H'):RC K C H' J γ:=
 ⟨e.sub,r.len,λi d h=>let ⟨v,b,f⟩:=r.val i d h;⟨v,b,f.mono e.s0⟩,
  λi g h=>let ⟨a,j,b,f,I,O⟩:=r.own i g h;⟨a,j,b,e.new a f (by rw[I];simp),e.s1 _ _ I,O.mono e.s0⟩,r.ne,r.n4.ext e⟩
noncomputable def tV(K:LM)(f:CO D):TE:=λh H Q=>∃e g d,RC K e H h g/\f g=cq d/\∀v b a,Ext e H a b->Rep K a d v->Q v b
noncomputable def tQ(K:LM)(f:CO (Sk×List D)):TE:=λj H Q=>∃g i k h,RC K g H j i/\f i=cq (k,h)/\∀a e d b,Ext g H b d->kv k K d a e->(k = .T->gu K b a e)->d9 K b h e->Q (.ref a) d
noncomputable def tO(K:LM)(f:CO (List D)):TE:=λj H Q=>∃e i g,RC K e H j i/\f i=cq g/\
 ∀a h d b,Ext e H b d->H a=cO->b a=cO->d a=cq (.lst h)->d9 K b g h->Q (.ref a) d
noncomputable def tT(K:LM)(f:CO Bool):TT:=λh H Q=>∃e g b,RC K e H h g/\f g=cq b/\∀d a,Ext e H a d->Q b d
noncomputable def tA(K:LM)(f:CO (List D)):TA:=λi H Q=>∃d h e,RC K d H i h/\f h=cq e/\∀g b a,Ext d H a b->d9 K a e g->Q g b
abbrev PV(X:Cx)(e:eh)(f:CO D):Prop:=PE X e (tV X.K f)
abbrev PQ(X:Cx)(e:eh)(f:CO (Sk×List D)):Prop:=PE X e (tQ X.K f)
abbrev PO(X:Cx)(e:eh)(f:CO (List D)):Prop:=PE X e (tO X.K f)
abbrev m4(X:Cx)(e:eh)(f:CO Bool):Prop:=PT X e (tT X.K f)
abbrev Dy(X:Cx)(e:eh)(f:CO Bool):Prop:=PW X e (tT X.K f)
abbrev B1(X:Cx)(es:List eh)(f:CO (List D)):Prop:=PA X es (tA X.K f)
theorem qC(h:PE X e t)(i : ∀C H Q,t' C H Q->t C H Q):PE X e t':=λa s C H Q I q=>h a s C H Q I<|i C H Q q
theorem VW(h:PT X e t)(i : ∀C H Q,t' C H Q->t C H Q):PT X e t':=λa s C H Q I q=>h a s C H Q I<|i C H Q q
theorem By(h:PW X e t)(i : ∀C H Q,t' C H Q->t C H Q):PW X e t':=λO a s C H Q I q=>h O a s C H Q I<|i C H Q q
theorem Cg(h:PA X es t)(i : ∀C H Q,t' C H Q->t C H Q):PA X es t':=λpos a s C H Q I q=>h pos a s C H Q I<|i C H Q q
theorem k8{X:Cx}{st:kA}{t t':TS}(h:PS X st t)(i : ∀D C H,t' D C H->t D C H):PS X st t':=λa s C H D I q=>h a s C H D I<|i D C H q
theorem pV{X:Cx}{st:List kA}{t t':TS}(h:rr X st t)(i : ∀D C H,t' D C H->t D C H):rr X st t':=λa s C H D I q=>h a s C H D I<|i D C H q
theorem QW(h:PI X tg e t)(i : ∀C H R,t' C H R->t C H R):PI X tg e t':=λa s C H R I q=>h a s C H R I<|i C H R q
theorem yv(h:n<=lim):n<=fe:=Nv h ⋯
section
variable{X:Cx}{e a b c:eh}{pos:g5}
theorem PV.q(h:PV X e f):PQ X e (zR f):=qC h λs H Q Y=>by
 obtain⟨p,o,k,i,rc,I,q⟩:=Y;unfold zR at I;cases e1:f o with
 | none=>rw[e1]at I;cases I
 | some d=>
  rw[e1]at I;refine⟨p,o,d,rc,e1,λv n b ext r=>?_⟩;cases d with
  | tup l=>
   obtain⟨O,U⟩:k = .T/\i=l:=by simp[jR]at I;exact⟨I.1.symm,I.2.symm⟩
   subst O U;obtain⟨a,g,rfl,j,m⟩:=(show ∃a g,v = .ref a/\gu X.K b a g/\d9 X.K b i g from r);exact q a g n b ext (mr ext.sub j) (λ_=>j) m
  | lst l=>
   obtain⟨O,U⟩:k = .L/\i=l:=by simp[jR]at I;exact⟨I.1.symm,I.2.symm⟩
   subst O U;obtain⟨a,g,rfl,j,m⟩:=(show ∃a g,v = .ref a/\gB X.K b a g/\d9 X.K b i g from r);exact q a g n b ext (ext.sub.seq j) (λz=>nomatch z) m
  | _=>simp[jR]at I
theorem PO.v(h:PO X e f):PV X e (qf f):=qC h λp H Q Y=>by
 obtain⟨j,i,d,rc,I,q⟩:=Y;unfold qf at I;cases e1:f i with
 | none=>rw[e1]at I;cases I
 | some b=>
  rw[e1]at I;cases I;refine⟨j,i,b,rc,e1,λa n o k ext l g m r=>?_⟩;exact q _ _ _ (ext.show l g m rc.sub) (show ∃O U,V.ref a = .ref O/\gB X.K _ O U/\d9 X.K _ b U from⟨a,n,rfl,gB.of zJ,r.mono<|jh g _⟩)
theorem PO.q(h:PO X e f):PQ X e (jt f):=qC h λp H Q O=>by
 obtain⟨i,d,k,l,rc,I,q⟩:=O;unfold jt at I;cases e1:f d with
 | none=>rw[e1]at I;cases I
 | some m=>
  rw[e1]at I;cases I;exact⟨i,d,_,rc,e1,λa j g b ext n o U r=>q a j g b ext (gB.of U) (λz=>nomatch z) r⟩
theorem Bz(i:Nat)(h:PE X e (Au i)):PV X e (zc i):=qC h λm H Q O=>by
 obtain⟨b,j,d,rc,I,q⟩:=O;unfold zc at I;cases e1:j[i]? with
 | none=>rw[e1]at I;cases I
 | some c=>
  rw[e1]at I;cases c with
  | val k=>
   cases I;obtain⟨v,f,g⟩:=rc.val i d e1;exact⟨v,f,q v H b (Ext.refl rc.sub) g⟩
  | no=>cases I
  | own l=>cases I
  | nest a=>cases I
theorem BM(i:Nat)(h:PE X e (Au i)):PQ X e (zh i):=qC h λt H Q r=>by
 obtain⟨f,s,k,g,rc,I,q⟩:=r;unfold zh at I;cases e1:s[i]? with
 | none=>rw[e1]at I;cases I
 | some c=>
  rw[e1]at I;cases c with
  | no=>cases I
  | nest n=>cases I
  | own j=>
   cases I;obtain⟨a,b,l,m,o,p⟩:=rc.own i g e1;exact⟨_,l,q a b H f (Ext.refl rc.sub) (gB.of o) (λz=>nomatch z) p⟩
  | val d=>
   obtain⟨v,l,m⟩:=rc.val i d e1;refine⟨v,l,?_⟩;cases d with
   | tup j=>
    obtain⟨U,Y⟩:k = .T/\g=j:=by simp[vV,jR]at I;exact⟨I.1.symm,I.2.symm⟩
    subst U Y;obtain⟨a,b,rfl,O,g2⟩:=(show ∃a b,v = .ref a/\gu X.K f a b/\d9 X.K f g b from m);exact q a b H f (Ext.refl rc.sub) (mr rc.sub O) (λ_=>O) g2
   | lst j=>
    obtain⟨U,Y⟩:k = .L/\g=j:=by simp[vV,jR]at I;exact⟨I.1.symm,I.2.symm⟩
    subst U Y;obtain⟨a,b,rfl,O,g2⟩:=(show ∃a b,v = .ref a/\gB X.K f a b/\d9 X.K f g b from m);exact q a b H f (Ext.refl rc.sub) (rc.sub.seq O) (λz=>nomatch z) g2
   | _=>simp[vV,jR]at I
theorem ZU(h:PE X e (tC v))(r : ∀H,Rep X.K H d v):PV X e (zu d):=qC h λg H Q I=>by obtain⟨a,f,b,rc,O,q⟩:=I;cases O;exact q v H a (Ext.refl rc.sub)<|r a
theorem zk:PV X (.Constant (.int i) j pos) (zu<|.int i):=ZU Cb λ_=>(show V.int i = .int i from rfl)
theorem bZ:PV X (.Constant (.bool x) j pos) (zu<|.bl x):=ZU Gf λ_=>(show V.bl x = .bl x from rfl)
theorem YC:PV X (.Constant .none j pos) (zu .ez):=ZU BY λ_=>(show V.ez = .ez from rfl)
theorem qz:PV X (.Constant (.str x) j pos) (zu<|.str x):=ZU BW λ_=>(show V.str x = .str x from rfl)
noncomputable def n9(K:LM)(r:R2)(F:D->D->Option D):Prop:=∀b H x y f I d Q,g9 b H->Rep K b f x->Rep K b I y->F f I=cq d->(∀v e a,Ext b H a e->Rep K a d v->Q v e)->r x y H Q
theorem ze(h:o.bind f=cq y) : ∃x,o=cq x/\f x=cq y:=by
 cases o with
 | none=>cases h
 | some x=>exact⟨x,rfl,h⟩
theorem V1{K:LM}{r:R2}{F:D->D->Option D}{J L:CO D}(hs:n9 K r F) : ∀C H Q,tV K (zB F J L) C H Q->G5 r (tV K J) (tV K L) C H Q:=λC H Q U=>by obtain⟨f,b,d,rc,I,q⟩:=U;obtain⟨x,j,I⟩:=ze I;obtain⟨y,Y,I⟩:=ze I;refine⟨f,b,x,rc,j,λn p h x1 k=>⟨h,b,y,rc.ext x1,Y,λo g i O l=>?_⟩⟩;exact hs i g n o x y d Q O.sub (k.mono O.s0) l I λv e a x3 m=>q v e a (x1.trans<|O.trans x3) m
theorem Xq(I:i8 X (uM op) r)(hs:n9 X.K r F)(C:PV X a fa)(O:PV X b fb):PV X (.BinOp a op b pos) (zB F fa fb):=
 qC (tZ I C O) (V1 hs)
theorem BD(I:i8 X (o4 op) r)(hs:n9 X.K r F)(C:PV X a fa)(O:PV X b fb)(Q:z3 op b=cR):PV X (.Compare a [op] [b] pos) (zB F fa fb):=
 qC (ub I C O Q) (V1 hs)
theorem Jh{d:D}{b:Bool}(h:r0 d=cq b):d = .bl b:=by cases d<;>simp[r0]at h;rw[h]
theorem JI(O:i8 X (o4 op) r)(hs:n9 X.K r F)(C:PV X a fa)(U:PV X b fb)(Y:z3 op b=cR):m4 X (.Compare a [op] [b] pos) (sB<|zB F fa fb):=
 VW (fM O C U Y) λl H Q i=>by obtain⟨g,j,k,rc,I,q⟩:=i;obtain⟨d,h,I⟩:=ze I;refine V1 hs l H _ ⟨g,j,d,rc,h,λv f e x r=>?_⟩;rw[Jh I]at r;exact⟨k,r,q f e x⟩
theorem ym{f:CO D}(h:PV X e f)(U : ∀O,DF e X.env O=(do let v <- O;DM e.pos;t5 [v] (G8 v)):=by intro _;rfl):m4 X e (sB f):=
 VW (BG h U) λl H Q Y=>by obtain⟨g,j,k,rc,I,q⟩:=Y;obtain⟨d,i,I⟩:=ze I;refine⟨g,j,d,rc,i,λv b a x r=>?_⟩;rw[Jh I]at r;exact⟨k,r,q b a x⟩
theorem vh(h:m4 X a f):Dy X (.BoolOp .And [a] pos) f:=sZ h
theorem Kf(h:m4 X a f):Dy X (.BoolOp .Or [a] pos) f:=Bw h
theorem Zi{f g:CO Bool}{k6:List eh}(C:m4 X a f)(O:Dy X (.BoolOp .And (b::k6) pos) g):Dy X (.BoolOp .And (a::b::k6) pos) (ZJ f g):=
 By (Bx C O) λn H Q U=>by
  obtain⟨i,e,k,rc,I,q⟩:=U;obtain⟨c,l,I⟩:=ze I;refine⟨i,e,c,rc,l,λh d x=>?_⟩;cases c with
  | true=>rw[UJ rfl]at I ⊢;exact⟨d,e,k,rc.ext x,I,λj Y m=>q j Y<|x.trans m⟩
  | false=>rw[UY MP]at I ⊢;cases I;exact q h d x
theorem aj{f g:CO Bool}{k6:List eh}(C:m4 X a f)(O:Dy X (.BoolOp .Or (b::k6) pos) g):Dy X (.BoolOp .Or (a::b::k6) pos) (yK f g):=
 By (FZ C O) λn H Q U=>by
  obtain⟨i,e,k,rc,I,q⟩:=U;obtain⟨c,l,I⟩:=ze I;refine⟨i,e,c,rc,l,λh d x=>?_⟩;cases c with
  | true=>rw[UJ rfl]at I ⊢;cases I;exact q h d x
  | false=>rw[UY MP]at I ⊢;exact⟨d,e,k,rc.ext x,I,λj Y m=>q j Y<|x.trans m⟩
theorem Kg(C:m4 X a f):m4 X (.UnaryOp .Not a pos) (jX f):=
 VW (BH C) λh H Q O=>by
  obtain⟨g,d,k,rc,I,q⟩:=O;unfold jX at I;cases e1:f d with
  | none=>rw[e1]at I;cases I
  | some c=>rw[e1]at I;cases I;exact⟨g,d,c,rc,e1,λe b x=>q e b x⟩
theorem QV(h:Dy X e f):m4 X e f:=h.pt
theorem BA(h:PV X a f):PV X (.BoolOp op [a] pos) f:=BX h
theorem BE{f g:CO D}{k6:List eh}(C:PV X a f)(O:PV X (.BoolOp .And (b::k6) pos) g):PV X (.BoolOp .And (a::b::k6) pos) (lS f g):=
 qC (Cd C O) λt H Q U=>by
  obtain⟨k,i,d,rc,I,q⟩:=U;obtain⟨c,h,I⟩:=ze I;obtain⟨Y,n,h⟩:=ze h;refine⟨k,i,Y,rc,n,λv j e x r=>?_⟩;rw[Jh h]at r;refine⟨c,r,?_⟩;cases c with
  | true=>rw[UJ rfl]at I ⊢;exact⟨e,i,d,rc.ext x,I,λp l m s o=>q p l m (x.trans s) o⟩
  | false=>rw[UY MP]at I ⊢;cases I;exact q _ j e x (show V.bl cR = .bl cR from rfl)
theorem qW(L:m4 X c k)(C:PV X a f)(J:PV X b g):PV X (.IfExp c a b pos) (ab k f g):=
 qC (nB L C J) λp H Q n=>by
  obtain⟨l,j,d,rc,I,q⟩:=n;obtain⟨t,m,I⟩:=ze I;refine⟨l,j,t,rc,m,λo e x=>?_⟩;cases t with
  | true=>rw[UJ rfl]at I ⊢;exact⟨e,j,d,rc.ext x,I,λO h U Y i=>q O h U (x.trans Y) i⟩
  | false=>rw[UY MP]at I ⊢;exact⟨e,j,d,rc.ext x,I,λO h U Y i=>q O h U (x.trans Y) i⟩
theorem ud:B1 X [] zD:=Cg qG λe H Q I=>by obtain⟨a,d,b,rc,O,q⟩:=I;cases O;exact q [] H a (Ext.refl rc.sub) d9.nil
theorem nF(C:PV X e f)(Y:B1 X es g)(hs:fA (e::es) X.env=(cR,el e X.env)::fA es X.env:=by rfl):B1 X (e::es) (zb f g):=
 Cg (jA C Y hs) λs H Q k=>by
  obtain⟨b,a,p,rc,I,q⟩:=k;obtain⟨x,j,I⟩:=ze I;cases O:g a with
  | none=>rw[O]at I;cases I
  | some r=>
   rw[O]at I;cases I;exact⟨b,a,x,rc,j,λv o h x1 l=>⟨h,a,r,rc.ext x1,O,λn d i U m=>q (v::n) d i (x1.trans U)<|d9.cons (l.mono U.s0) m⟩⟩
theorem j4(h:B1 X es f):PV X (.Tuple es x1 pos) (xk f):=
 qC (BV h) λo H Q j=>by
  obtain⟨g,l,d,rc,I,q⟩:=j;obtain⟨b,i,I⟩:=ze I;by_cases O:b.length<=lim
  ·rw[UJ O]at I;cases I
   refine⟨g,l,b,rc,i,λk m n x1 U=>⟨yv (by rw[U.length];exact O),λp Y=>?_⟩⟩;exact q _ _ _ (x1.trans<|Ext.alloc x1.sub Y _) (show ∃a e,V.ref p = .ref a/\gu X.K _ a e/\d9 X.K _ b e from⟨p,k,rfl,gu.of zJ,U.mono<|jh (js x1.sub Y) _⟩)
  ·rw[UY O]at I;cases I
theorem yP(h:B1 X es f):PO X (.List es pos) (kY f):=
 qC (BZ h) λm H Q i=>by
  obtain⟨a,k,d,rc,I,q⟩:=i;obtain⟨e,g,I⟩:=ze I;by_cases U:e.length<=lim
  ·rw[UJ U]at I;cases I
   refine⟨a,k,_,rc,g,λj l b x1 Y=>⟨yv (by rw[Y.length];exact U),λp O=>?_⟩⟩;exact q p j _ b (x1.trans<|Ext.hide x1.sub O _) (by
    cases z:H p with
    | none=>rfl
    | some o=>rw[x1.s1 p o z]at O;cases O) (js x1.sub O) zJ Y
  ·rw[UY U]at I;cases I
end
noncomputable def B3(k1 k2:Sk)(z TI TO C J I L:dn)(n:Nat)(h:fy):Prop:=
 (rq h z TI TO .none\/∃a b O,h.get? z=cq (VC a b TI TO)/\h.get? a=cq O)/\lp h TI (.ref C) (.ref J)/\(∃c e,lp h TO c e)/\i7 k1 h C I n/\i7 k2 h J L n
section
variable{prog:il}{w:hG}{A:k0}{E:EQ}{s:ed}
theorem AE{k1 k2:Sk}{z TI TO C J U L:dn}{n:Nat}{xs ys:Array dy}{Q:Option dy->ed->Prop}(hh:A.handled=cO)(D:u6 z TI TO C J U L)
 (Z:B3 k1 k2 z TI TO C J U L n s.heap) (S:lC k1 s.heap U xs) (a5:lC k2 s.heap L ys) (a6:xs[n]? = cO\/ys[n]? = cO)
 (hQ : ∀h',(∀c o,c ∉ [z,TI,TO,C,J]->s.heap.get? c=cq o->h'.get? c=cq o)->Q cO {s with heap:=h'}):wpAny (eg prog w) A (rn<|.ref z) Q E s:=by
 obtain⟨a,i,⟨c,e,l⟩,j,k⟩:=Z;unfold rn;rcases a with a | ⟨al,b,oa,a,ha⟩
 ·have O:s.TypeIs (.ref z) "zip":=⟨_,a,rfl⟩
  refine LK (NP (MK (name:=Mw "__next__") O NJ (MS NJ O Pu
   (WM (show A.in1.handled=cO from hh) D a i l j k S a5 a6 λg e Y f=>?_) (E2 _))))
  obtain⟨o,h,d⟩:=f;refine LK (OR (T:="StopIteration") (b:=cM) ⟨o,h,d⟩ RP (LU ?_));refine hQ g λc o I q=>?_;simp only[Mc,Mn,or_false,not_or]at I;exact Y c o I.1 I.2.2.1 I.2.2.2.1 I.2.2.2.2 q
 ·have O:s.TypeIs (.ref z) "zip":=⟨_,a,rfl⟩
  refine LK (NP (MK (name:=Mw "__next__") O NJ (MS NJ O Pu
   (ma (show A.in1.handled=cO from hh) D a ha i j k S a5 a6 λg e Y f=>?_) (E2 _))))
  obtain⟨o,h,d⟩:=f;refine LK (OR (T:="StopIteration") (b:=cM) ⟨o,h,d⟩ RP (LU ?_));refine hQ g λc o I q=>?_;simp only[Mc,Mn,or_false,not_or]at I;exact Y c o I.1 I.2.2.2.1 I.2.2.2.2 q
end
noncomputable def mQ(C:List (Key×V))(ps:List (Key×V)):List (Key×V):=ps.foldl (λacc I=>du acc I.1 I.2) C
theorem yX:entryFor table "dict.update.loop" = cq l6.«dict.update.loop» :=Ta (by kernel_rfl)
theorem yN(args:Args):(Code.builtin "dict.update.loop" args).quiet=cM:=Code.quiet_builtin _ ⋯
end DL
namespace L2
open PySem PySem.Spec PyProof.Rows
structure M2(X:Cx)(o:eh)(m:Str)(apos:g5)(e f:eh)(cpos:g5):Prop where
 base:P2 o m X.env (el o X.env)=el o X.env
 Y':((r6 cpos<|starEach [e,f] X.env).all (λx=> !x.1) && (P8 cpos<|keywordEach [] X.env).all (λx=>x.1.isSome)
  && decide (([e,f]:List eh).length+([]:List Dx).length+(if ([]:List Dx).isEmpty then 0 else 1)<30))=cM
 line:(apos.endLine==cpos.line)=cM
 trees:r6 cpos (fA [e,f] X.env)=[(cR,el e X.env),(cR,el f X.env)]
end L2
namespace DL
open PySem L2
noncomputable def LC(i:Nat)(f:CO D)(γ:Ctx):Option D:=(xF γ[i]?).bind λa=>(f<|γ.set i<|.val<|.lst a).bind λd=>if GK d=cM then cq d else cO
noncomputable def IV(i:Nat)(f:CO Bool)(γ:Ctx):Option Bool:=(xF γ[i]?).bind λa=>f<|γ.set i<|.val<|.lst a
noncomputable def HH(i:Nat)(γ:Ctx):Option Fl:=(xF γ[i]?).map λ_=> .next (γ.set i<|.own [])
noncomputable def qv(ds:List D):List D:=(LL ds.length).map λ(i:Nat)=>D.tup [.int i,ds[i]?.getD .ez]
noncomputable def Yt(f:CO D)(γ:Ctx):Option (List D):=(f γ).bind λd=>match d with
 | .tup a=>cq (qv a)
 | _=>cO
noncomputable def Kz:List D->Option (List Int)
 | []=>cq []
 | .int i::r=>(Kz r).map λl=>i::l
 | _::_=>cO
noncomputable def Lz(f:CO D)(g:CO (Sk×List D))(γ:Ctx):Option D:=(f γ).bind λd=>(g γ).bind λa=>(m5 d).bind λi=>(Kz a.2).map λl=> .bl (decide<|i∈l)
noncomputable def ir(k:Int):List Int->Option Nat
 | []=>cO
 | i::r=>if i=k then cq 0 else (ir k r).map (· + 1)
noncomputable def LA(f g:CO D)(γ:Ctx):Option D:=(f γ).bind λd=>((g γ).bind m5).bind λk=>match d with
 | .tup a=>(Kz a).bind λl=>(ir k l).map λ(j:Nat)=>D.int (j:Int)
 | _=>cO
noncomputable def vU(T:Tg)(f:CO (List D))(γ:Ctx):List D->Option (List<|List D)
 | []=>cq []
 | d::ds=>(xG T d γ).bind λa=>(f a).bind λe=>(vU T f γ ds).map λr=>e::r
noncomputable def af(C:CO (List D))(T:Tg)(n:Nat)(I:List Nat)(f:CO (List D))(γ:Ctx):Option (List<|List D):=(C γ).bind λa=>if a.length<=lim then vU T f (z5 n I γ) a else cO
noncomputable def XD:Cell->Bool
 | .nest _=>cM
 | _=>cR
noncomputable def mG(i:Nat)(f:CO (List<|List D)):CO Fl:=λb=>(f b).bind λa=>if b.any XD=cR then cq (.next<|b.set i<|.nest a)else cO
noncomputable def Je:Option Cell->Option (List<|List D)
 | some (.nest rows)=>cq rows
 | _=>cO
noncomputable def yG(γ:Ctx)(j i:Nat)(r:List D):Ctx:=(γ.set j .no).set i (.own r)
noncomputable def ki(j i:Nat)(g f:CO D)(γ:Ctx):List (List D)->Option (List<|List D)
 | []=>cq []
 | r::rs=>(f<|yG γ j i r).bind λd=>((g<|yG γ j i r).bind m5).bind λk=>(i3 r.length k).bind λm=>(ki j i g f γ rs).map λt=>r.set m d::t
noncomputable def JC(j i:Nat)(g f:CO D)(γ:Ctx):Option Fl:=(Je γ[j]?).bind λa=>if i=j\/γ.length<=i then cO else (ki j i g f γ a).map λI=> .next ((γ.set j<|.nest I).set i .no)
noncomputable def HF(i:Nat)(F:CO Fl)(γ:Ctx):Option Fl:=(xF γ[i]?).bind λa=>F<|γ.set i<|.val<|.lst a
noncomputable def Bk(i:Nat)(F:CO Fl)(γ:Ctx):Option Fl:=(Je γ[i]?).bind λa=>F<|γ.set i<|.val<|.lst<|a.map D.lst
noncomputable def HD(is:List Nat)(f:CO D)(γ:Ctx):Option Fl:=(f γ).bind λd=>match d with
 | .lst a=>if a.length=is.length then cq (.next<|xn is a γ)else cO
 | _=>cO
noncomputable def X5:List D->Option (List Str)
 | []=>cq []
 | .str x::r=>(X5 r).map λl=>x::l
 | _::_=>cO
noncomputable def j3(x:Str):Bool:=decide<|x.length<=1000
noncomputable def eW(f:CO D)(g:CO (Sk×List D))(γ:Ctx):Option D:=(f γ).bind λd=>(g γ).bind λa=>match d,a.1 with
 | .str sep,.L=>(X5 a.2).bind λl=>if l.length<=lim/\l.all j3=cM/\j3 sep=cM then cq (.str<|SR sep l)else cO
 | _,_=>cO
noncomputable def xo(f g:CO D)(γ:Ctx):Option D:=(f γ).bind λd=>((g γ).bind m5).bind λi=>match d with
 | .str z=>if j3 z=cM then (i3 z.cps.toList.length i).bind λk=>z.cps.toList[k]?.map λc=> .str ⟨#[c]⟩else cO
 | _=>cO
noncomputable def VP(f:CO D)(γ:Ctx):Option D:=(f γ).bind λd=>match d with
 | .str z=>if j3 z=cM then cq (.int z.length)else cO
 | _=>cO
noncomputable def IT(k1 I k2 O:Str)(f:CO D)(γ:Ctx):Option D:=(f γ).bind λd=>match d with
 | .str x=>if k1=k2 then cO else if x=k1 then cq (.str I)else if x=k2 then cq (.str O)else cO
 | _=>cO
noncomputable def bV(f g:CO D)(γ:Ctx):Option D:=((f γ).bind m5).bind λi=>((g γ).bind m5).map λj=> .int (if j<i then j else i)
noncomputable def EJ(f:CO D):CO (List D):=λb=>(f b).bind λd=>match d with
 | .tup a=>cq a.reverse
 | _=>cO
noncomputable def Ka(f:CO D):CO D:=λb=>(f b).bind λd=>match d with
 | .tup a=>cq (.tup a.reverse)
 | _=>cO
abbrev Xn:=Str×Option Int
noncomputable def H9:CO Xn:=λ_=>cO
noncomputable def AF(c:Str):CO Xn:=λ_=>cq (c,cO)
noncomputable def H8(k:CO Bool)(G H:CO Xn):CO Xn:=λa=>(k a).bind λb=>if b=cM then G a else H a
noncomputable def IB(G:CO Xn)(F:CO Fl)(H:CO Xn):CO Xn:=λb=>match G b with
 | some c=>cq c
 | none=>(F b).bind λI=>match I with
  | .next a=>H a
  | _=>cO
noncomputable def HJ(n:Nat)(G:CO Xn)(ds:List D):Option Xn:=G<|zZ n ds
noncomputable def Lo(c:Str):Str:=if c==("NoRoom" : Str)then "room" else "at"
noncomputable def Kb(f:CO D)(g:CO (Sk×List D)):CO D:=λb=>(f b).bind λd=>(g b).bind λa=>(m5 d).bind λi=>(Kz a.2).map λl=> .bl (!decide (i∈l))
end DL
namespace DL
open PySem L2
open PySem.W (KasT kas_sort)
noncomputable def xm(z:Str):List D:=z.cps.toList.map λc=>D.str ⟨#[c]⟩
noncomputable def Bi(f:CO D)(γ:Ctx):Option (List D):=(f γ).bind λd=>match d with
 | .str z=>if j3 z=cM then cq (xm z)else cO
 | _=>cO
noncomputable def JD(f:CO D)(γ:Ctx):Option (List D):=(f γ).bind λd=>match d with
 | .str z=>if j3 z=cM then cq (qv<|xm z)else cO
 | _=>cO
noncomputable def ae(f:CO D)(γ:Ctx):Option (List D):=(f γ).bind λd=>match d with
 | .lst a=>cq (qv a)
 | _=>cO
noncomputable def IR(f:CO D)(g:CO (Sk×List D))(γ:Ctx):Option D:=(f γ).bind λd=>(g γ).bind λa=>match d with
 | .str x=>(X5 a.2).map λl=> .bl (l.any λy=>y==x)
 | _=>cO
noncomputable def nE:D->Option (Int×Int)
 | .tup [.int a,.int b]=>cq (a,b)
 | _=>cO
noncomputable def Zz:List D->Option (List<|Int×Int)
 | []=>cq []
 | d::r=>(nE d).bind λp=>(Zz r).map λl=>p::l
noncomputable def vG(x y:Int×Int):Bool:=if x.1=y.1 then decide (x.2<y.2)else decide (x.1<y.1)
noncomputable def kc{C:Type}(lt:Nat->Nat->Bool):KasT C->C
 | .ret a=>a
 | .ask i j k=>kc lt<|k<|lt i j
noncomputable def qj(ps:List (Int×Int)):List Nat:=if ps.length<2 then LL ps.length else (kc (λi j=>vG (ps.getD i (0,0))<|ps.getD j (0,0))<|kas_sort ps.length).toList
noncomputable def eD(ds:List D):Option (List D):=(Zz ds).bind λa=>if ds.length<64 then cq ((qj a).map λi=>ds.getD i .ez)else cO
noncomputable def JA(f:CO (Sk×List D))(γ:Ctx):Option (List D):=(f γ).bind λa=>match a.1 with
 | .L=>eD a.2
 | _=>cO
end DL
namespace DL
open PySem L2
noncomputable def FU(i:Nat)(f:CO (List D))(γ:Ctx):Option Fl:=(xF γ[i]?).bind λa=>(f γ).bind λb=>if a.length+b.length<=lim then cq (.next<|γ.set i<|.own<|a++b)else cO
noncomputable def HI(F G:List D->Option Res)(g:CO (List D))(γ:Ctx):Option (List D):=(g γ).bind λl=>match l with
 | [p,.str z,t,b]=>((if z=("r" : Str)then F else G) [p,t,b]).bind FV
 | _=>cO
noncomputable def Xe:List D->Option (List Int)
 | []=>cq []
 | .int i::r=>(Xe r).map λl=>i::l
 | _::_=>cO
noncomputable def oQ(ds es:List D):Option D:=match Xe ds with
 | some a=>if ds.length=es.length/\a.Nodup/\ds.length<=lim then cq (.m7 ds es)else cO
 | none=>cO
noncomputable def aU:List D->List D->Int->Option D
 | k::ks,v::vs,i=>match k with
  | .int j=>if j=i then cq v else aU ks vs i
  | _=>aU ks vs i
 | _,_,_=>cO
open PySem.Spec PyProof.Rows
structure RS(K:LM)(E0 E H0 H:Hp)(σ:St)(γ:Ctx):Prop where
 rc:RC K H0 H σ γ
 ext:Ext E0 E H0 H
 fresh : ∀(i:Nat) ds a,γ[i]? = cq (.own ds)->σ[i]? = cq (cq (.ref a))->E a=cO
 uR : ∀(i:Nat) rows a xs,γ[i]? = cq (.nest rows)->σ[i]? = cq (cq (.ref a))->H a=cq (.lst xs)->E a=cO/\∀b,V.ref b∈xs->E b=cO
noncomputable def Sat(K:LM)(E0 E:Hp)(D:Ends):Fl->Prop
 | .next f=>∀e H b,RS K E0 E b H e f->D.nx e H
 | .brk f=>∀e H b,RS K E0 E b H e f->D.bk e H
 | .cont f=>∀e H b,RS K E0 E b H e f->D.ct e H
 | .ret (.val d)=>∀v H b,Ext E0 E b H->Rep K b d v->D.rt v H
 | .ret (.own es)=>∀a g H b,Ext E0 E b H->E a=cO->b a=cO->H a=cq (.lst g)->d9 K b es g->D.rt (.ref a) H
noncomputable def tS(K:LM)(F:CO Fl):TS:=λD d H=>∃E0 E b a I,RS K E0 E b H d a/\F a=cq I/\Sat K E0 E D I
abbrev md(X:Cx)(st:kA)(F:CO Fl):Prop:=PS X st (tS X.K F)
abbrev lH(X:Cx)(M_:List kA)(F:CO Fl):Prop:=rr X M_ (tS X.K F)
section
variable{K:LM}{E0 E H0 H xg H':Hp}{σ:St}{γ:Ctx}
theorem RS.step(r:RS K E0 E H0 H σ γ)(e:Ext H0 H xg H'):RS K E0 E xg H' σ γ:=⟨r.rc.ext e,r.ext.trans e,r.fresh,λi b a g d f O=>by obtain⟨Q,bs,I,g2,_⟩:=r.rc.n4.1 i b d;rw[f]at I;cases I;have:=e.s1 a _ g2.ha;rw[O]at this;cases this;exact r.uR i b a _ d f g2.ha⟩
theorem zF{C:Type}{l:List C}{i j:Nat}{x y:C}(h:(l.set i x)[j]? = cq y):(j=i/\y=x/\i<l.length)\/(j≠i/\l[j]? = cq y):=by
 by_cases e:i=j
 ·subst e
  by_cases I:i<l.length
  ·rw[Ms I]at h;cases h;exact .inl ⟨rfl,rfl,I⟩
  ·rw[List.set_eq_of_length_le ⋯]at h
   exact absurd (Mj.mp h).1 I
 ·rw[LV e]at h;exact .inr ⟨My e,h⟩
theorem pb.A2{i:Nat}{d:D}{v:V}(n:pb K H0 H σ γ):pb K H0 H (σ.set i<|some v) (γ.set i<|.val d):=
 ⟨λj b e=>by
  rcases zF e with⟨_,z,_⟩ | ⟨Q,z⟩
  ·cases z
  ·obtain⟨a,bs,h,l,U⟩:=n.1 j b z
   refine⟨a,bs,by rw[LV (My Q)];exact h,l,λk g c f I=>?_⟩;rcases zF f with⟨_,z,_⟩ | ⟨Y,O⟩
   ·cases z
   ·rw[LV (My Y)]at I;exact U k g c O I,
 λj k m o f I=>by
  rcases zF f with⟨_,z,_⟩ | ⟨_,O⟩
  ·cases z
  ·rcases zF I with⟨_,z,_⟩ | ⟨_,p⟩
   ·cases z
   ·exact n.2 j k m o O p⟩
theorem RC.A2{i:Nat}{d:D}{v:V}(r:RC K H0 H σ γ)(h:Rep K H0 d v):RC K H0 H (σ.set i<|some v) (γ.set i<|.val d):=by
 refine⟨r.sub,by simp[r.len],λj f e=>?_,λj b e=>?_,λj k a b m g l Q U=>?_,r.n4.A2⟩
 ·rcases zF e with⟨rfl,z,Y⟩ | ⟨I,z⟩
  ·cases z;exact⟨v,Ms (by rw[r.len];exact Y),h⟩
  ·obtain⟨o,O,g2⟩:=r.val j f z
   exact⟨o,by rw[LV (My I)];exact O,g2⟩
 ·rcases zF e with⟨rfl,z,Y⟩ | ⟨I,z⟩
  ·cases z
  ·obtain⟨a,p,O,g2⟩:=r.own j b z
   exact⟨a,p,by rw[LV (My I)];exact O,g2⟩
 ·rcases zF g with⟨_,z,_⟩ | ⟨I,s⟩
  ·cases z
  ·rcases zF l with⟨_,z,_⟩ | ⟨n,t⟩
   ·cases z
   ·rw[LV (My I)]at Q
    rw[LV (My n)]at U;exact r.ne j k a b m s t Q U
theorem RS.A2{i:Nat}{d:D}{v:V}(r:RS K E0 E H0 H σ γ)(h:Rep K H0 d v):RS K E0 E H0 H (σ.set i<|some v) (γ.set i<|.val d):=
 ⟨r.rc.A2 h,r.ext,λj f a e I=>by
  rcases zF e with⟨_,z,_⟩ | ⟨O,z⟩
  ·cases z
  ·rw[LV (My O)]at I;exact r.fresh j f a z I,
 λj b a g e I Q=>by
  rcases zF e with⟨_,z,_⟩ | ⟨O,z⟩
  ·cases z
  ·rw[LV (My O)]at I;exact r.uR j b a g z I Q⟩
theorem yu : ∀{I bs:List dn},I.map V.ref=bs.map V.ref->I=bs
 | [],[],_=>rfl
 | [],_::_,h=>by cases h
 | _::_,[],h=>by cases h
 | a::I,b::bs,h=>by rw[Mu,Mu]at h;injection h with h1 h2;injection h1 with h1;rw[h1,yu h2]
theorem RS.M'{i:Nat}{es:List D}{a:dn}{xs:List V}{J G:Hp}(r:RS K E0 E J G σ γ)(e:Ext J G H0 H)(C:G a=cO)(L:H0 a=cO)(S:H a=cq (.lst xs))(Z:d9 K H0 es xs) :
 RS K E0 E H0 H (σ.set i<|some (.ref a)) (γ.set i<|.own es):=by
 have rc:=r.rc.ext e;have no : ∀(j:Nat) f,γ[j]? = cq (.own f)->¬σ[j]? = cq (cq (.ref a)):=λj f g z=>by obtain⟨b,t,I,g2,g3,_⟩:=r.rc.own j f g;rw[z]at I;cases I;rw[C]at g3;cases g3
 refine⟨⟨rc.sub,by simp[rc.len],λj w g=>?_,λj f g=>?_,λj k b f fs s U Y h=>?_,⟨λj d g=>?_,λj k B F I g2=>?_⟩⟩,r.ext.trans e,λj f b I g2=>?_,λj d b xs I g2 g3=>?_⟩
 ·rcases zF g with⟨_,z,_⟩ | ⟨O,z⟩
  ·cases z
  ·obtain⟨M,I,g2⟩:=rc.val j w z
   exact⟨M,by rw[LV (My O)];exact I,g2⟩
 ·rcases zF g with⟨rfl,z,Q⟩ | ⟨O,z⟩
  ·cases z;exact⟨a,xs,Ms (by rw[rc.len];exact Q),L,S,Z⟩
  ·obtain⟨b,t,I,g2⟩:=rc.own j f z
   exact⟨b,t,by rw[LV (My O)];exact I,g2⟩
 ·rcases zF s with⟨rfl,z,Q⟩ | ⟨O,l⟩
  ·rcases zF U with⟨rfl,_,_⟩ | ⟨m,n⟩
   ·rfl
   ·rw[Ms (by rw[rc.len];exact Q)]at Y
    rw[LV (My m)]at h;cases Y;exact absurd h<|no k fs n
  ·rcases zF U with⟨rfl,z,Q⟩ | ⟨m,n⟩
   ·rw[Ms (by rw[rc.len];exact Q)]at h
    rw[LV (My O)]at Y;cases h;exact absurd Y<|no j f l
   ·rw[LV (My O)]at Y
    rw[LV (My m)]at h;exact rc.ne j k b f fs l n Y h
 ·rcases zF g with⟨_,z,_⟩ | ⟨O,z⟩
  ·cases z
  ·obtain⟨b,bs,I,g2,g3⟩:=r.rc.n4.1 j d z
   obtain⟨P,p,f1,f2,y⟩:=rc.n4.1 j d z;rw[I]at f1;cases f1;have x:p.map V.ref=bs.map V.ref:=by have:=e.s1 b _ g2.ha;rw[f2.ha]at this;injection this with this;injection this
   have u:p=bs:=yu x;subst u;refine⟨b,p,by rw[LV (My O)];exact I,f2,λk f c s U=>?_⟩;rcases zF s with⟨rfl,_,Q⟩ | ⟨m,l⟩
   ·rw[Ms (by rw[rc.len];exact Q)]at U;cases U
    intro A;obtain⟨_,N,q⟩:=g2.at A;rw[C]at q;cases q
   ·rw[LV (My m)]at U;exact y k f c l U
 ·rcases zF I with⟨_,z,_⟩ | ⟨_,l⟩
  ·cases z
  ·rcases zF g2 with⟨_,z,_⟩ | ⟨_,n⟩
   ·cases z
   ·exact rc.n4.2 j k B F l n
 ·rcases zF I with⟨rfl,z,Q⟩ | ⟨O,z⟩
  ·rw[Ms (by rw[rc.len];exact Q)]at g2;cases g2
   cases q:E a with
   | none=>rfl
   | some o=>rw[r.ext.s1 a o q]at C;cases C
  ·rw[LV (My O)]at g2;exact r.fresh j f b z g2
 ·rcases zF I with⟨_,z,_⟩ | ⟨O,z⟩
  ·cases z
  ·rw[LV (My O)]at g2;exact(r.step e).uR j d b xs z g2 g3
theorem RS.rewrite{i:Nat}{ds es:List D}{a:dn}{xs ys:List V}(r:RS K E0 E H0 H σ γ)(C:γ[i]? = cq (.own ds))(hs:σ[i]? = cq (cq (.ref a)))(J:d9 K H0 es ys) :
 RS K E0 E H0 (upd H a<|.lst ys) σ (γ.set i<|.own es):=by
 obtain⟨F,G,g1,g2,g3,M⟩:=r.rc.own i ds C;rw[hs]at g1;cases g1;have as:i<γ.length:=(Mj.mp C).1;refine⟨⟨λb o q=>?_,by simp[r.rc.len],λj w g=>?_,λj fs g=>?_,λj k b fs gs e I h x=>?_,⟨λj d g=>?_,λj k A B e I=>?_⟩⟩,⟨r.ext.s0,λb o q=>?_,λb o q=>?_,r.ext.new⟩,λj fs b e I=>?_,λj d b p e I h=>?_⟩
 ·rw[zG (λz=>by rw[z,g2]at q;cases q)];exact r.rc.sub b o q
 ·rcases zF g with⟨_,z,_⟩ | ⟨l,z⟩
  ·cases z
  ·exact r.rc.val j w z
 ·rcases zF g with⟨rfl,z,N⟩ | ⟨l,z⟩
  ·cases z;exact⟨a,ys,hs,g2,zJ,J⟩
  ·obtain⟨b,p,O,Q,U,y⟩:=r.rc.own j fs z
   refine⟨b,p,O,Q,?_,y⟩;rw[zG (λq=>l<|r.rc.ne j i a fs ds z C (by rw[O,q]) hs)];exact U
 ·have t : ∃f,γ[j]? = cq (.own f):=by
   rcases zF e with⟨q,_,_⟩ | ⟨_,z⟩
   ·exact⟨ds,by rw[q];exact C⟩
   ·exact⟨fs,z⟩
  have u : ∃f,γ[k]? = cq (.own f):=by
   rcases zF I with⟨q,_,_⟩ | ⟨_,z⟩
   ·exact⟨ds,by rw[q];exact C⟩
   ·exact⟨gs,z⟩
  obtain⟨O,Y⟩:=t;obtain⟨Q,n⟩:=u;exact r.rc.ne j k b O Q Y n h x
 ·rcases zF g with⟨_,z,_⟩ | ⟨l,z⟩
  ·cases z
  ·obtain⟨b,bs,O,Q,U⟩:=r.rc.n4.1 j d z
   have s:=U i ds a C hs;refine⟨b,bs,O,Q.move (g9.refl _) (λc m=>(Q.at m).1)<|λc m=>zG λq=>s<|q ▸ m,λk fs c e I=>?_⟩;rcases zF e with⟨q,_,_⟩ | ⟨_,Y⟩
   ·rw[q,hs]at I;cases I;exact s
   ·exact U k fs c Y I
 ·rcases zF e with⟨_,z,_⟩ | ⟨_,Y⟩
  ·cases z
  ·rcases zF I with⟨_,z,_⟩ | ⟨_,n⟩
   ·cases z
   ·exact r.rc.n4.2 j k A B Y n
 ·rw[zG (λz=>by rw[z,r.fresh i ds a C hs]at q;cases q)];exact r.ext.s1 b o q
 ·rw[zG (λz=>by rw[z,g2]at q;cases q)];exact r.ext.sub b o q
 ·rcases zF e with⟨q,_,_⟩ | ⟨_,z⟩
  ·rw[q]at I;exact r.fresh i ds b C I
  ·exact r.fresh j fs b z I
 ·rcases zF e with⟨_,z,_⟩ | ⟨l,z⟩
  ·cases z
  ·obtain⟨L,bs,O,Q,U⟩:=r.rc.n4.1 j d z
   rw[I]at O;cases O;rw[zG (show b≠a from λq=>U i ds a C hs<|by rw[q];exact Mh)]at h;exact r.uR j d b p z I h
end
section
variable{X:Cx}{e a b c:eh}{pos:g5}{st:kA}{k6:List kA}
theorem jI:lH X [] j1:=pV tF λD b H I=>by obtain⟨E0,E,a,d,Y,O,Q,U⟩:=I;cases Q;exact U b H a O
theorem zg{F G:CO Fl}(C:md X st F)(J:lH X k6 G):lH X (st::k6) (zM F G):=pV (mV C J) λD k H U=>by
 obtain⟨E0,E,d,h,Y,g,I,O⟩:=U;obtain⟨Q,f,I⟩:=ze I;refine⟨E0,E,d,h,Q,g,f,?_⟩;cases Q with
 | next a=>exact λi j b e=>⟨E0,E,b,a,Y,e,I,O⟩
 | brk a=>cases I;exact O
 | cont a=>cases I;exact O
 | ret r=>cases I;cases r<;>exact O
theorem zq(C:md X st F):lH X [st] F:=fN C
theorem zE(h:o.map f=cq y) : ∃x,o=cq x/\f x=y:=by
 cases o with
 | none=>cases h
 | some x=>exact⟨x,rfl,by simpa using h⟩
theorem zO{f:CO D}(h:PV X e f):md X (.Return (cq e) pos) (j7 f):=k8 (fO h) λD k H Q=>by obtain⟨E0,E,g,j,Y,O,I,U⟩:=Q;obtain⟨d,i,I⟩:=zE I;subst I;exact⟨g,j,d,O.rc,i,λv b a x r=>U v b a (O.ext.trans x) r⟩
theorem qK{f:CO (List D)}(h:PO X e f):md X (.Return (cq e) pos) (vz f):=k8 (fO h) λD s H Q=>by
 obtain⟨E0,E,i,n,p,I,O,U⟩:=Q;obtain⟨j,k,O⟩:=zE O;subst O;refine⟨i,n,j,I.rc,k,λa m g b x d l Y r=>U a m g b (I.ext.trans x) ?_ l Y r⟩;cases q:E a with
 | none=>rfl
 | some o=>rw[I.ext.s1 a o q]at d;cases d
theorem ZV(i:Nat)(h:PE X e (Au i)):md X (.Return (cq e) pos) (VN i):=k8 (fO h) λD r H U=>by
 obtain⟨E0,E,j,o,p,O,I,Q⟩:=U;unfold VN at I;cases b:o[i]? with
 | none=>rw[b]at I;cases I
 | some c=>
  rw[b]at I;cases c with
  | no=>cases I
  | val d=>
   cases I;obtain⟨v,f,g⟩:=O.rc.val i d b;exact⟨v,f,Q v H j O.ext g⟩
  | nest l=>cases I
  | own k=>
   cases I;obtain⟨a,n,f,g,Y,m⟩:=O.rc.own i k b;exact⟨_,f,Q a n H j O.ext (O.fresh i k a b f) g Y m⟩
theorem YE:md X (.Continue pos) sU:=k8 VX λD b H ⟨E0,E,a,d,U,I,O,Q⟩=>by cases O;exact Q b H a I
theorem YD:md X st Ys:=k8 mZ λD d H ⟨E0,E,a,b,O,Q,I,U⟩=>by cases I
theorem qN{k:CO Bool}{F G:CO Fl}{x y:List kA}(Y:m4 X c k)(C:lH X x F)(J:lH X y G):md X (.If c x y pos) (h7 k F G):=k8 (Gc Y C J) λD h H f=>by
 obtain⟨E0,E,d,b,Q,O,I,U⟩:=f;obtain⟨t,e,I⟩:=ze I;refine⟨d,b,t,O.rc,e,λg a x=>?_⟩;cases t with
 | true=>rw[UJ rfl]at I ⊢;exact⟨E0,E,a,b,Q,O.step x,I,U⟩
 | false=>rw[UY MP]at I ⊢;exact⟨E0,E,a,b,Q,O.step x,I,U⟩
theorem tG(i:Nat){f:CO D}(h:PS X st (bN (tV X.K f)<|yW i)):md X st (jB i f):=k8 h λD k H Q=>by obtain⟨E0,E,b,g,Y,O,I,U⟩:=Q;obtain⟨d,e,I⟩:=zE I;subst I;exact⟨b,g,d,O.rc,e,λv j a x r=>U _ _ a<|(O.step x).A2 r⟩
theorem au(i:Nat){f:CO (List D)}(h:PS X st (bN (tO X.K f)<|yW i)):md X st (vN i f):=k8 h λD p H Q=>by obtain⟨E0,E,d,l,n,O,I,U⟩:=Q;obtain⟨e,g,I⟩:=zE I;subst I;exact⟨d,l,e,O.rc,g,λa o m b x j k Y r=>U _ _ b<|O.M' x j k Y r⟩
theorem yZ(h:xF o=cq ds):o=cq (.own ds):=by
 cases o with
 | none=>cases h
 | some c=>cases c<;>simp[xF]at h;rw[h]
theorem cf(i:Nat){f:CO D}(h:PE X e (UG X.K "list" fE (Au i) (AW (tV X.K f) HC)))(hs:C5 e cO pos.line X.env=pure cR:=by rfl):md X (.Expr e pos) (xW i f):=
 k8 (fP h hs) λD z H s=>by
  obtain⟨E0,E,l,t,w,O,I,m⟩:=s;obtain⟨j,b,I⟩:=ze I;obtain⟨d,p,I⟩:=ze I;have b:=yZ b;by_cases Q:j.length<lim
  ·rw[UJ Q]at I;cases I
   obtain⟨a,xs,k,y,U,Y⟩:=O.rc.own i j b;refine⟨_,k,.inl ⟨rfl,_,gB.of U⟩,l,t,d,O.rc,p,λv u g x r=>?_⟩;have n:=O.step x;have o:=x.s1 _ _ U;refine⟨a,xs,v,rfl,rfl,o,?_,?_⟩
   ·exact Mv (by rw[Y.length];exact Q)<|yv<|LW _
   ·exact m _ _ g<|n.rewrite (xs:=xs) b k<|(Y.mono x.s0).append (d9.cons r d9.nil)
  ·rw[UY Q]at I;cases I
end
noncomputable def Lv(K:LM)(H0 H:Hp)(Q:VK):Res->Prop
 | .val d=>∀v e b,Ext H0 H b e->Rep K b d v->Q v e
 | .own g=>∀a f e b,Ext H0 H b e->H a=cO->b a=cO->e a=cq (.lst f)->d9 K b g f->Q (.ref a) e
noncomputable def sm(K:LM)(n:Nat)(F:List D->Option Res):Sp:=λd H Q _=>∃a b r,g9 a H/\d9 K a b d/\b.length=n/\F b=cq r/\Lv K a H Q r
theorem sm.len{K:LM}{n:Nat}{F:List D->Option Res}{ps:List Str}(I:ps.length=n) : ∀vs H Q E,sm K n F vs H Q E->vs.length=ps.length:=λvs H Q E h=>by obtain⟨d,e,r,_,a,b,_⟩:=h;rw[a.length,b,I]
section
variable{P:il}{w:hG}{K:LM}{mg:UZ}{base:fy}
theorem mK(s:g9 H0 H)(h:d9 K H0 ds vs)(Q:ds.length<=N.length):RS K H0 H H0 H (Jt N vs) (zZ N.length ds):=by
 have I:=h.length;refine⟨⟨s,by simp[L2.Jt,zZ,I],λi d e=>?_,λi g e=>?_,λi j a g fs e _ _ _=>?_,pb.D1 λi f e=>?_⟩,Ext.refl s,λi g a e _=>?_,λi f a l e _ _=>?_⟩
 all_goals unfold zZ at e
 ·by_cases b:i<ds.length
  ·rw[Nk (by simpa using b),MV]at e
   cases e1:ds[i]? with
   | none=>rw[e1]at e;cases e
   | some k=>
    rw[e1]at e;cases e;obtain⟨x,O,g2⟩:=h.get e1;refine⟨x,?_,g2⟩;unfold L2.Jt;rw[Nk (by simp;omega),MV,O];rfl
  ·rw[MX (by simpa using b),PB]at e
   split at e<;>cases e
 all_goals
  by_cases b:i<ds.length
  ·rw[Nk (by simpa using b),MV]at e
   cases e1:ds[i]? with
   | none=>rw[e1]at e;cases e
   | some k=>rw[e1]at e;cases e
  ·rw[MX (by simpa using b),PB]at e
   split at e<;>cases e
theorem CY{x qual:Str}{st:kA}{f:dn}{J:q5}{N ps:List Str}{k:Nat}{F:CO Fl}(Y:L2.Dv K x qual st f J)(S:D5 N ps (jN st))
 (L : ∀(C:dy) (A:k0) (outer:List n7) (s:ed) (H:Hp) (E:XK),nh k (A.deeper<|envOfC qual (jN st) s.heap.objs.size f C)->lH (Ac rp P w K mg base N qual (jN st) f C A outer s H E).F3 (yz st) F) :
 qs P w K mg base rp (k+1) f J ps (sm K ps.length<|jo N.length F):=by
 refine Y.ok S (sm.len rfl)<|λC A outer s H z Q E m h=>⟨_,L C A outer s H E m,?_⟩;obtain⟨b,g,r,o,j,u,l,O⟩:=h;obtain⟨U,i,I⟩:=ze l;have t:ps.length<=N.length:=by have:=congrArg List.length S.pre;rw[Rb]at this;omega
 refine⟨b,H,b,zZ N.length g,U,mK o j ⋯,i,?_⟩;cases U with
 | ret y=>cases I;cases r<;>exact O
 | next d=>cases I;exact λp e a n=>O .ez e a n.ext (show V.ez = .ez from rfl)
 | brk d=>cases I
 | cont d=>cases I
end
section
variable{X:Cx}{es:List eh}{pos p:g5}{k:Nat}{f:dn}{fd:q5}{ps:List Str}{x:Str}{F:List D->Option Res}{g:CO (List D)}
theorem tq{A0:List eh}(G:qs X.prog X.w X.K X.mg X.base rp k f fd ps (sm X.K ps.length F))(C:B1 X es g)(L : ∀γ ds,g γ=cq ds->ds.length=ps.length)
 (J : ∀{t:TA},PA X es t->PE X (.Call (.Name x p) es [] pos) (sA (sm X.K ps.length F) [] E0 t)):PV X (.Call (.Name x p) es [] pos) (zA F g):=
 qC (J C) λE H Q u=>by
  obtain⟨l,γ,d,rc,I,q⟩:=u;obtain⟨ds,i,I⟩:=ze I;obtain⟨r,n,I⟩:=zE I;refine⟨l,γ,ds,rc,i,λB A m x1 y=>⟨m,ds,r,x1.sub,by simpa using y,L γ ds i,n,?_⟩⟩;subst I;cases r with
  | val d=>exact λv e b O h=>q v e b (x1.trans O) h
  | own fs=>
   refine λa z e b O o j s h=>q _ e _ (x1.trans<|O.show o j s x1.sub) ?_;exact(show ∃U Y,V.ref a = .ref U/\gB X.K _ U Y/\d9 X.K _ fs Y from⟨a,z,rfl,gB.of zJ,h.mono<|jh j _⟩)
theorem tU(G:qs X.prog X.w X.K X.mg X.base rp k f fd ps (sm X.K ps.length F))(C:B1 X es g)(O : ∀γ ds,g γ=cq ds->ds.length=ps.length)
 (U : ∀{t:TA},PA X es t->PE X (.Call (.Name x p) es [] pos) (sA (sm X.K ps.length F) [] E0 t)):PO X (.Call (.Name x p) es [] pos) (jH F g):=
 qC (U C) λL H Q Y=>by
  obtain⟨j,γ,fs,rc,I,q⟩:=Y;obtain⟨ds,e,I⟩:=ze I;obtain⟨r,m,I⟩:=ze I;refine⟨j,γ,ds,rc,e,λJ E l x1 u=>⟨l,ds,r,x1.sub,by simpa using u,O γ ds e,m,?_⟩⟩;cases r with
  | val d=>cases I
  | own gs=>
   cases I;exact λa B i b A h n s y=>q a B i b (x1.trans A) (by
    cases z:H a with
    | none=>rfl
    | some o=>rw[x1.s1 a o z]at h;cases h) n s y
end
structure Walk(K:LM)(H0 Hs:Hp)(J:It)(ds:List D):Prop where
 go : ∀i H1,g9 Hs H1->i<ds.length->J.go i H1
 stop : ∀H1,g9 Hs H1->J.stop ds.length H1
 A6 : ∀i H1 x TX,g9 Hs H1->i<ds.length->J.A6 i H1 x TX->∃d,ds[i]? = cq d/\∀G0,g9 H0 G0->g9 G0 H1->∃TV,Ext G0 H1 TV TX/\Rep K TV d x
theorem Walk.weak{K:LM}{H0 C I:Hp}{J:It}{ds:List D}(w:Walk K H0 C J ds)(s:g9 C I):Walk K H0 I J ds:=
 ⟨λi a h=>w.go i a<|s.trans h,λa h=>w.stop a<|s.trans h,λi a x b h=>w.A6 i a x b<|s.trans h⟩
theorem XY{k:Sk}{K:LM}{H0 C:Hp}{a:dn}{xs:List V}{ds:List D}(h:kv k K C a xs)(r:d9 K H0 ds xs):Walk K H0 C (TY k K a) ds:=by
 have Q:=r.length;refine⟨λi b s n=>?_,λb s=>?_,λi b x f s n y=>?_⟩
 ·have g:i<xs.length:=by omega
  cases k with
  | L=>exact⟨xs,xs[i],s.seq h,LP g⟩
  | T=>exact⟨xs,xs[i],mr s h,LP g⟩
 ·cases k with
  | L=>exact⟨xs,s.seq h,by omega⟩
  | T=>exact⟨xs,mr s h,by omega⟩
 ·have e:f=b/\xs[i]? = cq x:=by
   cases k with
   | L=>exact⟨y.1,y.2 xs<|s.seq h⟩
   | T=>exact⟨y.1,y.2 xs<|mr s h⟩
  obtain⟨l,I⟩:=e;subst l;obtain⟨d,m,O⟩:=r.Dm I;exact⟨d,m,λj o p=>⟨j,Ext.refl p,O.mono o⟩⟩
theorem Zh(lo:Int)(n:Nat):(wu lo n).length=n:=by simp[wu]
theorem Xi{K:LM}{H0 C:Hp}(lo:Int)(n:Nat):Walk K H0 C (Dd lo n) (wu lo n):=by
 refine⟨λi b s a=>?_,λb s=>?_,λi b x e s a y=>?_⟩
 ·rw[Zh]at a;exact a
 ·rw[Zh];exact LW _
 ·rw[Zh]at a
  obtain⟨f,I⟩:=y;subst f I;exact⟨.int<|lo+i,by simp[wu,a],λd h g=>⟨d,Ext.refl g,(show V.int (lo+i) = .int (lo+i)from rfl)⟩⟩
theorem me{k1 k2:Sk}{K:LM}{H0 C:Hp}{a b:dn}{xs ys:List V}{ds es:List D}(J:kv k1 K C a xs)(O:d9 K H0 ds xs)(L:kv k2 K C b ys)(S:d9 K H0 es ys) :
 Walk K H0 C (O6 k1 k2 K a b) (w9 ds es):=by
 have z:=O.length;have A:=S.length;have w:(w9 ds es).length=min ds.length es.length:=by simp[w9]
 refine⟨λi f s r=>?_,λf s=>?_,λi f x j s r y=>?_⟩
 ·exact⟨xs,ys,vy s J,vy s L,by omega,by omega⟩
 ·refine⟨xs,ys,vy s J,vy s L,?_⟩
  rw[w];omega
 ·obtain⟨p,u,v,m,I,Y,g1,g2⟩:=y
  obtain⟨d,o,t⟩:=O.Dm<|g1 xs<|vy s J;obtain⟨c,n,k⟩:=S.Dm<|g2 ys<|vy s L;refine⟨.tup [d,c],?_,λh g e=>⟨upd h p<|.tup [u,v],?_,?_⟩⟩
  ·have l:(ds.zip es)[i]? = cq (d,c):=List.getElem?_zip_eq_some.mpr ⟨o,n⟩
   simp[w9,l]
  ·rw[Y];exact Ext.alloc e I _
  ·rw[m]
   exact(show ∃Q U,V.ref p = .ref Q/\gu K _ Q U/\d9 K _ [d,c] U from⟨p,[u,v],rfl,gu.of zJ,d9.cons ((t.mono g).mono (jh (js e I) _))<|d9.cons ((k.mono g).mono (jh (js e I) _)) d9.nil⟩)
noncomputable def TK(K:LM)(C:CO (List D)):TI:=λg H R=>∃d f e,RC K d H g f/\C f=cq e/\∀J b a,Ext d H a b->Walk K a b J e->R J b
noncomputable def TL(K:LM)(C:CO (List D)):TI:=λg H R=>∃d f e,RC K d H g f/\C f=cq e/\∀J b a,Ext d H a b->Walk K a a J e->R J b
abbrev s9(X:Cx)(tg e:eh)(src:CO (List D)):Prop:=PI X tg e (TK X.K src)
abbrev i0(X:Cx)(tg e:eh)(src:CO (List D)):Prop:=PI X tg e (TL X.K src)
section
variable{X:Cx}{tg e a b:eh}{pos p:g5}
theorem i0.c(h:i0 X tg e src):s9 X tg e src:=QW h λi H R ⟨d,g,f,rc,I,q⟩=>⟨d,g,f,rc,I,λJ b a x w=>q J b a x<|w.weak x.sub⟩
theorem ja(h:PQ X e f):s9 X tg e (zN f):=QW (fX h) λp H R I=>by obtain⟨i,n,o,rc,O,q⟩:=I;obtain⟨⟨k,l⟩,j,Q⟩:=zE O;subst Q;exact⟨i,n,k,l,rc,j,λa m g b x d _ r=>⟨a,k,rfl,⟨m,d⟩,q _ g b x<|XY d r⟩⟩
theorem Kk(h:PV X e f):i0 X tg e (zN<|zR f):=QW (fX h) λt H R Q=>by
 obtain⟨o,p,s,rc,U,q⟩:=Q;obtain⟨⟨k,l⟩,g,I⟩:=zE U;subst I;obtain⟨d,Y,g⟩:=ze g;refine⟨o,p,d,rc,Y,λv n b x r=>?_⟩;cases d with
 | tup fs=>
  obtain⟨I,O⟩:k = .T/\l=fs:=by simp[jR]at g;exact⟨g.1.symm,g.2.symm⟩
  subst I O;obtain⟨a,i,rfl,j,m⟩:=(show ∃a i,v = .ref a/\gu X.K b a i/\d9 X.K b l i from r);exact⟨a,.T,rfl,⟨i,mr x.sub j⟩,q _ n b x<|XY (k:= .T) j m⟩
 | lst fs=>
  obtain⟨I,O⟩:k = .L/\l=fs:=by simp[jR]at g;exact⟨g.1.symm,g.2.symm⟩
  subst I O;obtain⟨a,i,rfl,j,m⟩:=(show ∃a i,v = .ref a/\gB X.K b a i/\d9 X.K b l i from r);exact⟨a,.L,rfl,⟨i,x.sub.seq j⟩,q _ n b x<|XY (k:= .L) j m⟩
 | _=>simp[jR]at g
theorem jS(h:m5 d=cq i):d = .int i:=by cases d<;>simp[m5]at h;rw[h]
theorem J4(h:inR i=cM) : -(2 ^ 62)<=i/\i<2 ^ 62:=by unfold inR at h;have h:=of_decide_eq_true h;omega
theorem cp(Q:Gl X "range")(U:X.mg "range" = cO)(C:PV X a f)(hs:fA [a] X.env=[(cR,el a X.env)]:=by rfl):i0 X tg (.Call (.Name "range" p) [a] [] pos) (ju f):=
 QW (fZ Q U (jA C qG hs) hs) λo H R Y=>by
  obtain⟨h,l,m,rc,I,q⟩:=Y;obtain⟨n,e,I⟩:=ze I;obtain⟨d,i,e⟩:=ze e;by_cases O:inR n=cM
  ·rw[UJ O]at I;cases I
   refine⟨h,l,d,rc,i,λv g b x r=>?_⟩;rw[jS e]at r;obtain⟨j,k⟩:=J4 O;exact⟨n,by rw[show v = .int n from r],j,k,q _ g b x<|Xi 0 n.toNat⟩
  ·rw[UY O]at I;cases I
theorem cn(Y:Gl X "range")(L:X.mg "range" = cO)(C:PV X a f)(J:PV X b g)(hs:fA [a,b] X.env=[(cR,el a X.env),(cR,el b X.env)]:=by rfl)(Q:fA [b] X.env=[(cR,el b X.env)]:=by rfl) :
 i0 X tg (.Call (.Name "range" p) [a,b] [] pos) (VO f g):=
 QW (fY Y L (jA C (jA J qG Q)<|by rw[hs,Q]) hs Q) λK H R A=>by
  obtain⟨k,j,G,rc,I,q⟩:=A;obtain⟨m,h,I⟩:=ze I;obtain⟨d,s,h⟩:=ze h;obtain⟨n,U,I⟩:=ze I;obtain⟨c,t,U⟩:=ze U;by_cases O:inR m=cM/\inR n=cM
  ·rw[UJ O]at I;cases I
   refine⟨k,j,d,rc,s,λv F e x r=>⟨e,j,c,rc.ext x,t,λB l o E i=>?_⟩⟩;rw[jS h]at r;rw[jS U]at i;obtain⟨u,w⟩:=J4 O.1;obtain⟨y,z⟩:=J4 O.2;exact⟨m,n,by rw[show v = .int m from r,show B = .int n from i],⟨u,w,y,z⟩,q _ l o (x.trans E)<|Xi m (n - m).toNat⟩
  ·rw[UY O]at I;cases I
theorem X8{K:LM}{H:Hp}{d:D}{v:V}{k:Sk}{ds:List D}(r:Rep K H d v)(e:jR d=cq (k,ds)) : ∃a xs,v = .ref a/\kv k K H a xs/\d9 K H ds xs:=by
 cases d with
 | tup fs=>simp[jR]at e;obtain⟨b,I⟩:=e;subst b I;exact r
 | lst fs=>simp[jR]at e;obtain⟨b,I⟩:=e;subst b I;exact r
 | _=>simp[jR]at e
theorem tW{f g:CO D}{C:List eh}{x1:Nat}{J:g5}(Z:Gl X "zip")(hm:X.mg "zip" = cO)(L:PV X a f)(S:PV X b g)(hs:fA [a,b] X.env=[(cR,el a X.env),(cR,el b X.env)]:=by rfl)(Q:fA [b] X.env=[(cR,el b X.env)]:=by rfl) :
 i0 X (.Tuple C x1 J) (.Call (.Name "zip" p) [a,b] [] pos) (aa f g):=
 QW (BP Z hm (jA L (jA S qG Q)<|by rw[hs,Q]) PyProof.Rows.boot_zip hs Q) λN H R y=>by obtain⟨j,i,K,rc,I,q⟩:=y;obtain⟨⟨z,m⟩,h,I⟩:=ze I;obtain⟨d,t,h⟩:=ze h;obtain⟨⟨A,n⟩,U,I⟩:=zE I;obtain⟨c,u,U⟩:=ze U;subst I;refine⟨j,i,d,rc,t,λv G e x r=>⟨e,i,c,rc.ext x,u,λM k s O B=>?_⟩⟩;obtain⟨l,E,rfl,Y,g2⟩:=X8 (r.mono O.s0) h;obtain⟨o,F,rfl,g3,w⟩:=X8 B U;exact⟨z,A,l,o,rfl,⟨E,vy O.sub Y⟩,⟨F,vy O.sub g3⟩,q _ k s (x.trans O)<|me Y g2 g3 w⟩
end
noncomputable def W8:List Nat->List V->St->St
 | i::is,v::vs,σ=>W8 is vs<|σ.set i<|some v
 | _,_,σ=>σ
noncomputable def gs:List Nat->DS
 | []=>HW
 | i::is=>CU (yW i)<|gs is
noncomputable def ri(K:LM):Tg->TG
 | .nm i=>yW i
 | .tp is=>HV K is.length<|gs is
theorem ig : ∀{is:List Nat} {vs:List V} {C:St} {H:Hp} {Q:St->Hp->Prop},vs.length=is.length->Q (W8 is vs C) H->gs is vs C H Q
 | [],[],_,_,_,_,q=>⟨rfl,q⟩
 | i::is,v::vs,C,H,Q,hl,q=>⟨v,vs,rfl,ig (by simpa using hl) q⟩
 | [],_::_,_,_,_,hl,_=>by simp at hl
 | _::_,[],_,_,_,hl,_=>by simp at hl
theorem RS.G3{K:LM}{E0 E H0 H:Hp} : ∀{is:List Nat} {ds:List D} {vs:List V} {C:St} {γ:Ctx},RS K E0 E H0 H C γ->d9 K H0 ds vs->RS K E0 E H0 H (W8 is vs C) (xn is ds γ)
 | [],ds,vs,C,γ,r,h=>by cases ds<;>cases vs<;>exact r
 | i::is,[],vs,C,γ,r,h=>by rw[h.p5];exact r
 | i::is,d::ds,vs,C,γ,r,h=>by obtain⟨x,t,e,a,b⟩:=h.m8;subst e;show RS K E0 E H0 H (DL.W8 is t<|C.set i<|some x) (xn is ds<|γ.set i<|.val d);exact RS.G3 (r.A2 a) b
theorem RC.G3{K:LM}{H0 H:Hp} : ∀{is:List Nat} {ds:List D} {vs:List V} {C:St} {γ:Ctx},RC K H0 H C γ->d9 K H0 ds vs->RC K H0 H (W8 is vs C) (xn is ds γ)
 | [],ds,vs,C,γ,r,h=>by cases ds<;>cases vs<;>exact r
 | i::is,[],vs,C,γ,r,h=>by rw[h.p5];exact r
 | i::is,d::ds,vs,C,γ,r,h=>by obtain⟨x,t,e,a,b⟩:=h.m8;subst e;show RC K H0 H (DL.W8 is t<|C.set i<|some x) (xn is ds<|γ.set i<|.val d);exact RC.G3 (r.A2 a) b
theorem wV{K:LM}{H0 H:Hp}{T:Tg}{d:D}{v:V}{C:St}{γ γ1:Ctx}{Q:St->Hp->Prop}(s:g9 H0 H)(h:Rep K H0 d v)(e:xG T d γ=cq γ1)
 (q : ∀I,(RC K H0 H C γ->RC K H0 H I γ1)->(∀E0 E,RS K E0 E H0 H C γ->RS K E0 E H0 H I γ1)->Q I H):ri K T v C H Q:=by
 cases T with
 | nm i=>cases e;exact q _ (λr=>r.A2 h) λE0 E r=>r.A2 h
 | tp is=>
  cases d with
  | tup g=>
   simp only[xG]at e;by_cases O:g.length=is.length
   ·rw[UJ O]at e;cases e
    obtain⟨a,b,rfl,k,f⟩:=(show ∃a b,v = .ref a/\gu K H0 a b/\d9 K H0 g b from h);have j:b.length=is.length:=by rw[f.length,O]
    exact⟨a,b,rfl,mr s k,j,ig j<|q _ (λr=>r.G3 f) λE0 E r=>r.G3 f⟩
   ·rw[UY O]at e;cases e
  | _=>simp[xG]at e
theorem Ext.rebase{E0 E I H0 H B:Hp}(e:Ext E0 E I B)(x:Ext I E H0 H):Ext E0 E H0 H:=
 ⟨e.s0.trans x.s0,x.s1,x.sub,λa d b=>x.new a (e.new a d b) b⟩
theorem Ext.base{E0 E I B:Hp}(e:Ext E0 E I B):Ext I E I B:=⟨g9.refl _,e.s1,e.sub,λa h _=>h⟩
theorem Sat.rebase{K:LM}{E0 E O B:Hp}{D:Ends}{I:Fl}(e:Ext E0 E O B)(h:Sat K E0 E D I):Sat K O E D I:=by
 cases I with
 | next g=>exact λf H b r=>h f H b ⟨r.rc,e.rebase r.ext,r.fresh,r.uR⟩
 | brk g=>exact λf H b r=>h f H b ⟨r.rc,e.rebase r.ext,r.fresh,r.uR⟩
 | cont g=>exact λf H b r=>h f H b ⟨r.rc,e.rebase r.ext,r.fresh,r.uR⟩
 | ret r=>
  cases r with
  | val d=>exact λv H b x q=>h v H b (e.rebase x) q
  | own l=>exact λa k H b x i j Q q=>h a k H b (e.rebase x) i j Q q
section
variable{X:Cx}{tg iter:eh}{body:List kA}{pos:g5}
theorem tI{C:CO (List D)}{T:Tg}{F:CO Fl}(hp:O7 (eg X.prog X.w) X.A X.env X.xe)(hc:X.calm=cM)(L:i0 X tg iter C)(hg:PG X tg (ri X.K T))(hb:lH X body F)
 (hs : ∀x,pk iter X.env x=pure x:=by intro _;rfl):md X (.For tg iter body [] pos) (ZI C T F):=
 k8 (pW hp hc L hg hb hs) λD j H hZ=>by
  obtain⟨E0,E,g,b,O,Q,I,Y⟩:=hZ;obtain⟨a,Z,I⟩:=ze I;refine⟨g,b,a,Q.rc,Z,λJ H1 U x1 s=>?_⟩;have k:=Q.step x1;have B:=k.ext;refine⟨λi m j H=>m=a.length - i/\i<=a.length/\∃g b O,RS X.K U E g H j b/\qQ T F (a.drop i) b=cq O/\Sat X.K U E D O,⟨_,rfl,MR _,U,b,O,⟨k.rc,B.base,k.fresh,k.uR⟩,I,Y.rebase B⟩,?_⟩;rintro i m j H ⟨rfl,L,g,b,O,Q,I,Y⟩;have l:g9 U H:=Q.ext.s0.trans Q.ext.sub;by_cases h:i<a.length
  ·refine .inr ⟨s.go i H l h,λj H=>i+1<=a.length/\∃g b O,RS X.K U E g H j b/\qQ T F (a.drop<|i+1) b=cq O/\Sat X.K U E D O,λW_ z n=>⟨a.length - (i+1),by omega,rfl,n.1,n.2⟩,λx z y=>?_⟩
   obtain⟨d,G,hx⟩:=s.A6 i H x z l h y;obtain⟨N,M,rg⟩:=hx g Q.ext.s0 Q.rc.sub;have R:a.drop i=d::a.drop (i+1):=by
    have S:d=a[i]:=by rw[LP h]at G;exact(MN G).symm
    rw[S];exact NS h
   rw[R]at I;simp only[qQ]at I;obtain⟨t,eb,I⟩:=ze I;obtain⟨f1,eF,I⟩:=ze I;refine wV M.sub rg eb λOl _ W=>⟨U,E,N,t,f1,W U E<|Q.step M,eF,?_⟩;cases f1 with
   | next f=>exact λu P o p=>⟨h,o,f,O,p,I,Y⟩
   | cont f=>exact λu P o p=>⟨h,o,f,O,p,I,Y⟩
   | brk f=>cases I;exact Y
   | ret r=>cases I;cases r<;>exact Y
  ·have e:i=a.length:=by omega
   subst e;rw[Rc]at I;cases I;exact .inl ⟨s.stop H l,Y j H g Q⟩
end
theorem qS(h:(z5 n fr γ)[i]? = cq c):c = .no\/(∃d j,c = .val d/\n<=i/\fr[i - n]? = cq j/\γ[j]? = cq (.val d)):=by
 unfold z5 at h;by_cases b:i<n
 ·rw[Nk (by simpa using b),PB,UJ b]at h
  exact .inl (MN h).symm
 ·rw[MX (by simpa using b),MV,List.length_replicate]at h
  cases e:fr[i - n]? with
  | none=>rw[e]at h;cases h
  | some j=>
   rw[e]at h;have a:kg (γ[j]?.getD .no)=c:=by simpa using h
   cases e2:γ[j]? with
   | none=>rw[e2]at a;exact .inl a.symm
   | some I=>
    rw[e2]at a;cases I with
    | no=>exact .inl a.symm
    | own g=>exact .inl a.symm
    | nest f=>exact .inl a.symm
    | val d=>exact .inr ⟨d,j,a.symm,by omega,rfl,e2⟩
theorem RC.pull{K:LM}{H0 H:Hp}{J:St}{γ:Ctx}{own:List Str}{C:List (Str×Nat)}(r:RC K H0 H J γ):RC K H0 H (L2.mR own C J) (z5 own.length (C.map (·.2)) γ):=by
 refine⟨r.sub,by simp[L2.mR,z5],λi d h=>?_,λi e h=>?_,λi j a e k h _ _ _=>?_,pb.D1 λi b h=>?_⟩
 ·rcases qS h with z | ⟨d',j,z,hi,I,O⟩
  ·cases z
  ·cases z
   obtain⟨v,f,g⟩:=r.val j d O;refine⟨v,?_,g⟩;rw[MV]at I;cases q:C[i - own.length]? with
   | none=>rw[q]at I;cases I
   | some p=>
    rw[q]at I;have Q:p.2=j:=by simpa using I
    unfold L2.mR;rw[MX (by simpa using hi),MV,Mm,q];simp[Q,f]
 ·rcases qS h with z | ⟨d',j,z,_⟩<;>cases z
 ·rcases qS h with z | ⟨d',j,z,_⟩<;>cases z
 ·rcases qS h with z | ⟨d',j,z,_⟩<;>cases z
theorem RC.weak{K:LM}{H0 H:Hp}{J:St}{γ γ':Ctx}(r:RC K H0 H J γ)(O:γ'.length=γ.length)(Q : ∀(i:Nat) d,γ'[i]? = cq (.val d)->γ[i]? = cq (.val d))(I : ∀(i:Nat) ds,γ'[i]? ≠ cq (.own ds))(U : ∀(i:Nat) C,γ'[i]? ≠ cq (.nest C)):RC K H0 H J γ':=
 ⟨r.sub,by rw[O];exact r.len,λi d h=>r.val i d<|Q i d h,λi ds h=>absurd h<|I i ds,λi j a ds b h _ _ _=>absurd h<|I i ds,pb.D1 U⟩
theorem RC.upd{K:LM}{H0 H:Hp}{J:St}{γ:Ctx}{D:dn}{o:HO}(r:RC K H0 H J γ)(O:H0 D=cO)(I : ∀(i:Nat) ds,γ[i]? ≠ cq (.own ds))(Q : ∀(i:Nat) C,γ[i]? ≠ cq (.nest C)):RC K H0 (upd H D o) J γ:=
 ⟨λb u q=>by rw[zG (λz=>by rw[z,O]at q;cases q)];exact r.sub b u q,r.len,r.val,λi ds h=>absurd h<|I i ds,λi j a ds d h _ _ _=>absurd h<|I i ds,pb.D1 Q⟩
theorem Jy : ∀{is:List Nat} {ds:List D} {γ:Ctx},(xn is ds γ).length=γ.length
 | [],ds,γ=>by cases ds<;>rfl
 | i::is,[],γ=>rfl
 | i::is,d::ds,γ=>by show(xn is ds<|γ.set i<|.val d).length=_;rw[Jy];simp
theorem Jz : ∀{is:List Nat} {ds:List D} {γ:Ctx} {i:Nat},i∉is->(xn is ds γ)[i]? = γ[i]?
 | [],ds,γ,i,_=>by cases ds<;>rfl
 | j::is,[],γ,i,_=>rfl
 | j::is,d::ds,γ,i,h=>by show(xn is ds<|γ.set j<|.val d)[i]? = _;rw[Jz (λz=>h<|Mg _ z),LV (λz=>h<|by rw[<- z];exact Mh)]
theorem Vr(h:xG T d γ=cq γ1):γ1.length=γ.length/\∀i,i∉T.idx->γ1[i]? = γ[i]? :=by
 cases T with
 | nm j=>cases h;exact⟨by simp,λi a=>LV<|λz=>a<|by simp[Tg.idx,z]⟩
 | tp is=>
  cases d with
  | tup b=>
   simp only[xG]at h;by_cases I:b.length=is.length
   ·rw[UJ I]at h;cases h;exact⟨Jy,λi a=>Jz a⟩
   ·rw[UY I]at h;cases h
  | _=>simp[xG]at h
section
variable{K:LM}{own:List Str}{fr:List (Str×Nat)}{src:CO (List D)}{T:Tg}{k:CO Bool}{f:CO D}
theorem wQ(hT : ∀i∈T.idx,i<own.length)(bx : ∀C H Q,tT K k C H Q->tt C H Q) : ∀C H Q,tO K (zK src T own.length (fr.map (·.2)) k f) C H Q->eB (TK K src) own fr (ri K T) tt (tV K f) C H Q:=λC H Q hZ=>by
 obtain⟨H0,t,ds,rc,U,q⟩:=hZ;obtain⟨a,e1,U⟩:=ze U;by_cases hl:a.length<=lim
 ·rw[UJ hl]at U
  refine⟨H0,t,a,rc,e1,λJ H1 P x1 wk D A=>?_⟩;have R : ∀(i:Nat) es,(z5 own.length (fr.map (·.2)) t)[i]? ≠ cq (.own es):=λi es h=>by rcases qS h with z | ⟨d',j,z,_⟩<;>cases z
  have S : ∀(i:Nat) B,(z5 own.length (fr.map (·.2)) t)[i]? ≠ cq (.nest B):=λi es h=>by rcases qS h with z | ⟨d',j,z,_⟩<;>cases z
  have b0:P D=cO:=js x1.sub A;have c1:H D=cO:=by
   cases z:H D with
   | none=>rfl
   | some o=>rw[x1.s1 D o z]at A;cases A
  refine⟨λi m n F l=>m=a.length - i/\i<=a.length/\n.length<=i/\l D=cq (.lst n)/\∃g u L,RC K g l F (z5 own.length (fr.map (·.2)) t)/\g D=cO/\Ext P H1 g l/\d9 K g u n/\zP T k f (z5 own.length (fr.map (·.2)) t) (a.drop i)=cq L/\ds=u++L,
   ⟨_,rfl,MR _,LW _,zJ,P,[],ds,((rc.ext x1).pull).upd b0 R S,b0,Ext.hide x1.sub A _,d9.nil,U,rfl⟩,?_⟩
  rintro i m n F l ⟨rfl,hi,hy,M,g,u,L,W,b5,Y,r',I,rfl⟩;refine⟨M,?_⟩;by_cases s:i<a.length
  ·refine .inr ⟨wk.go i l Y.s1 s,?_,λx X y=>?_⟩
   ·have:=yv<|LW lim;omega
   obtain⟨d,hd,hx⟩:=wk.A6 i l x X Y.s1 s y;obtain⟨G0,O,rg⟩:=hx g Y.s0 W.sub;have c3:a.drop i=d::a.drop (i+1):=by
    have c4:d=a[i]:=by rw[LP s]at hd;exact(MN hd).symm
    rw[c4];exact NS s
   rw[c3]at I;simp only[zP]at I;obtain⟨p,eb,I⟩:=ze I;obtain⟨b,ek,I⟩:=ze I;have c6:G0 D=cO:=O.new D b5 (by rw[M];simp);have b7:X D=cq (.lst n):=O.s1 _ _ M;obtain⟨bl,bg⟩:=Vr eb;have b8 : ∀{G:St} {G2 H2:Hp},RC K G2 H2 G p->RC K G2 H2 G (z5 own.length (fr.map (·.2)) t):=λr=>r.weak bl.symm (λj d' hj=>by
    by_cases hm:j∈T.idx
    ·rcases qS hj with z | ⟨d2,j2,_,hn,_⟩
     ·cases z
     ·exact absurd (hT j hm) ⋯
    ·rw[bg j hm];exact hj) R S
   refine wV O.sub rg eb λOl bf _=>bx Ol X _ ⟨G0,p,b,bf<|W.ext O,ek,λH3 Z x3=>?_⟩;have ap:=(bf<|W.ext O).ext x3;have xa:=Y.trans<|O.trans x3;have bm:Z D=cO:=x3.new D c6 (by rw[b7];simp);have ar:H3 D=cq (.lst n):=x3.s1 _ _ b7;cases b with
   | true=>
    dsimp only;rw[UJ rfl]at I ⊢;obtain⟨e,ee,I⟩:=ze I;obtain⟨k6,er,I⟩:=zE I;refine⟨Z,p,e,ap,ee,λv H4 bn E r4=>?_⟩;have as:bn D=cO:=E.new D bm (by rw[ar];simp);have ce:H4 D=cq (.lst n):=E.s1 _ _ ar;have N:=xa.trans E;refine⟨ce,a.length - (i+1),by omega,rfl,s,by rw[Nf,NU];omega,zJ,bn,u++[e],k6,(b8<|ap.ext E).upd as R S,as,?_,(r'.mono<|(O.trans<|x3.trans E).s0).append (d9.cons r4 d9.nil),er,?_⟩
    ·exact⟨N.s0,λc o z=>by rw[zG (λw=>by rw[w,A]at z;cases z)];exact N.s1 c o z,λc o z=>by rw[zG (λw=>by rw[w,as]at z;cases z)];exact N.sub c o z,N.new⟩
    ·rw[<- I];simp
   | false=>
    dsimp only;rw[UY MP]at I ⊢;exact⟨a.length - (i+1),by omega,rfl,s,by omega,ar,Z,u,L,b8 ap,bm,xa,r'.mono<|(O.trans x3).s0,I,rfl⟩
  ·have e:i=a.length:=by omega
   subst e;rw[Rc]at I;cases I;rw[OA]at q;exact .inl ⟨wk.stop l Y.s1,q D n l g (x1.trans Y) c1 b5 M r'⟩
 ·rw[UY hl]at U;cases U
end
section
variable{X:Cx}{scope:hL}{own:List Str}{fr:List (Str×Nat)}{elt tg iter c:eh}{pos:g5}{src:CO (List D)}{T:Tg}{k:CO Bool}{f:CO D}
theorem tR(I:X.calm=cM)(ok:s8 X scope fr)(O : ∀i∈T.idx,i<own.length)(L:s9 X tg iter src)(U : ∀fp J C,PG (jD X scope (own++fr.map (·.1)) fp J C) tg<|ri X.K T)
 (Y : ∀fp J C,PV (jD X scope (own++fr.map (·.1)) fp J C) elt f) (hs : ∀x,pk iter X.env x=pure x:=by intro _;rfl) :
 PO X (.ListComp elt [⟨tg,iter,[],0⟩] scope pos) (zK src T own.length (fr.map (·.2)) jd f):=
 qC (V0 I ok L U (λ_ _ _=>Kj) Y hs) (wQ O λg H Q ⟨a,e,b,rc,d,q⟩=>by cases d;exact q H a<|Ext.refl rc.sub)
theorem fR(I:X.calm=cM)(ok:s8 X scope fr)(O : ∀i∈T.idx,i<own.length)(S:s9 X tg iter src)(U : ∀fp J C,PG (jD X scope (own++fr.map (·.1)) fp J C) tg<|ri X.K T)
 (Y : ∀fp J C,m4 (jD X scope (own++fr.map (·.1)) fp J C) c k) (L : ∀fp J C,PV (jD X scope (own++fr.map (·.1)) fp J C) elt f) (hs : ∀x,pk iter X.env x=pure x:=by intro _;rfl) :
 PO X (.ListComp elt [⟨tg,iter,[c],0⟩] scope pos) (zK src T own.length (fr.map (·.2)) k f):=
 qC (V0 I ok S U (λfp J C=>az<|Y fp J C) L hs) (wQ O λa H Q h=>h)
theorem nc(I:X.N.Nodup)(O:X.N[i]? = cq y)(U:Loc X.env.scope y)(Y:X.fn y=cM\/X.env.scope.names.lookup y=cq .local)
 (S:X.calm=cM) (ok:s8 X scope fr) (L : ∀i∈T.idx,i<own.length) (hi:s9 X tg iter src) (hg : ∀fp J C,PG (jD X scope (own++fr.map (·.1)) fp J C) tg<|ri X.K T)
 (Z : ∀fp J C,PV (jD X scope (own++fr.map (·.1)) fp J C) elt f) (hs : ∀x,pk iter X.env x=pure x:=by intro _;rfl) :
 PS X (.Assign [.Name y py] (.ListComp elt [⟨tg,iter,[],0⟩] scope pos) spos) (bN (tO X.K<|zK src T own.length (fr.map (·.2)) jd f)<|yW i):=
 k8 (Zj I O U Y S ok hi hg (λ_ _ _=>Kj) Z hs) λD a H h=>wQ L (λa H Q g=>by obtain⟨d,j,b,rc,e,q⟩:=g;cases e;exact q H d<|Ext.refl rc.sub) a H _ h
theorem cg(I:X.N.Nodup)(O:X.N[i]? = cq y)(U:Loc X.env.scope y)(Y:X.fn y=cM\/X.env.scope.names.lookup y=cq .local)
 (S:X.calm=cM) (ok:s8 X scope fr) (L : ∀i∈T.idx,i<own.length) (hi:s9 X tg iter src) (hg : ∀fp J C,PG (jD X scope (own++fr.map (·.1)) fp J C) tg<|ri X.K T)
 (hk : ∀fp J C,m4 (jD X scope (own++fr.map (·.1)) fp J C) c k) (Z : ∀fp J C,PV (jD X scope (own++fr.map (·.1)) fp J C) elt f) (hs : ∀x,pk iter X.env x=pure x:=by intro _;rfl) :
 PS X (.Assign [.Name y py] (.ListComp elt [⟨tg,iter,[c],0⟩] scope pos) spos) (bN (tO X.K<|zK src T own.length (fr.map (·.2)) k f)<|yW i):=
 k8 (Zj I O U Y S ok hi hg (λfp J C=>az<|hk fp J C) Z hs) λD a H h=>wQ L (λa H Q h=>h) a H _ h
end
theorem jz{K:LM}{H:Hp}{i:Int}{v:V}(h:Rep K H (.int i) v):v = .int i:=h
theorem mD{K:LM}{g:Int->Int->D}{I:Int->Int->V}(U : ∀H i j,Rep K H (g i j)<|I i j):n9 K (t7 I) (dI g):=λa H x y b Y d Q s e f O q=>by cases b<;>cases Y<;>simp[dI]at O;subst O;exact⟨_,_,jz e,jz f,q _ H a (Ext.refl s)<|U a _ _⟩
theorem eG{K:LM}{C:Int->Int->Prop}{c:Int->Int->Bool}{g:Int->Int->D}{I:Int->Int->V}(U : ∀i j,c i j=cM->C i j)(Y : ∀H i j,Rep K H (g i j)<|I i j):n9 K (rI C I) (E8 c g):=λa H x y b e d Q s k l O q=>by cases b<;>cases e<;>simp[E8]at O;obtain⟨f,h⟩:=O;subst h;exact⟨_,_,jz k,jz l,U _ _ f,q _ H a (Ext.refl s)<|Y a _ _⟩
theorem sG{K:LM}:n9 K (t7 λi j=> .int (i - j)) vB:=mD λ_ _ _=>rfl
theorem pd(h:XR i j=cM):DP i j:=by unfold XR at h;rw[NC,decide_eq_true_eq,decide_eq_true_eq]at h;unfold DP;omega
theorem sN{K:LM}:n9 K (rI IA λi j=> .int (i/j)) XQ:=eG (λi j h=>by unfold Ek at h;rw[Mi,decide_eq_true_eq,decide_eq_true_eq]at h;exact⟨h.1,by omega⟩) λ_ _ _=>rfl
theorem sL{K:LM}:n9 K (rI (λ_ j=>0<j) λi j=> .int (i%j)) xV:=eG (λi j h=>by unfold Ej at h;exact of_decide_eq_true h) λ_ _ _=>rfl
theorem sH{K:LM}:n9 K (rI Iz λi j=> .int (i ^ j.toNat)) uZ:=eG (λi j h=>by unfold Ei at h;rw[Mi,Mi,decide_eq_true_eq,decide_eq_true_eq,decide_eq_true_eq]at h;exact⟨h.1.1,by omega,h.2⟩) λ_ _ _=>rfl
theorem pK{K:LM}:n9 K (t7 λi j=> .bl (decide<|i<j)) pe:=mD λ_ _ _=>rfl
theorem eE{K:LM}:n9 K (t7 λi j=> .bl (decide<|i<=j)) ni:=mD λ_ _ _=>rfl
theorem Bd{K:LM}:n9 K (t7 λi j=> .bl (decide<|j<i)) qq:=mD λ_ _ _=>rfl
section
variable{X:Cx}
noncomputable def pT(K:LM):R2:=λx y H Q=>∃a b d e,x = .ref a/\y = .ref b/\gu K H a d/\gu K H b e/\d.length+e.length<=fe/\
 (d=[]->Q (.ref b) H)/\(e=[]->Q (.ref a) H)/\∀p,H p=cO->Q (.ref p) (upd H p<|.tup<|d++e)
theorem nG:i8 X (uM .Add) (pT X.K):=by
 intro w s σ H x y v u Q I S T h;obtain⟨a,b,A,Z,rfl,rfl,J,L,t,N,P,R⟩:=h;cases S;cases T;obtain⟨d,r,U,z1⟩:=I.tuple J;obtain⟨B,f,Y,z2⟩:=I.tuple L;by_cases O:A=[]
 ·have e:d=[]:=(r.L8).mpr O
  obtain⟨⟨F,G,k,W⟩,p,l,n,m⟩:=id U;obtain⟨⟨b0,C,data2,E⟩,g,i,M,j⟩:=id Y;simp only at l m i j;subst l m i j;exact SW ⟨_,p,rfl⟩ ⟨_,g,rfl⟩ Ua Uz RH RB (Rt _ _)
   (tuple_addW0 a b d.toArray B.toArray n M G C W E<|by simp[e]) ⟨p,g,⟨.ref b,H,I,rfl,N O⟩⟩
 ·have e:d ≠ []:=λz=>O ((r.L8).mp z)
  refine HT.GS U Y e (λz=>⟨.ref a,H,I,rfl,P<|(f.L8).mp z⟩) (λ_=>?_) (by rw[<- r.length,<- f.length];exact t);refine⟨.ref s.heap.objs.size,_,I.laid (t':=s.toks) (o:= .tup (A++Z)) (λc ob q=>LN _ q) (LW _) ?_,rfl,R _<|I.f6.fresh<|LW _⟩;exact⟨by rw[Nf];exact t,_,r.append f,uf.new _ _⟩
noncomputable def Bv(K:LM):R2:=λx y H Q=>∃l b a d,x = .ref l/\y = .ref b/\gB K H l a/\gB K H b d/\a.length+d.length<=fe/\∀p,H p=cO->Q (.ref p) (upd H p<|.lst<|a++d)
theorem nH:i8 X (uM .Add) (Bv X.K):=by
 intro d s L H x y v u Q I E G h;obtain⟨l,b,Z,zs,rfl,rfl,A,z,S,q⟩:=h;cases E;cases G;obtain⟨a,r,⟨o,n,e,U,Y,f⟩,z1⟩:=I.list A;obtain⟨O,m,⟨C,B,k,g,i,j⟩,z2⟩:=I.list z;have T:=r.length;have W:=m.length;obtain⟨cls,ml,R,J⟩:=o;obtain⟨M,N,P,p⟩:=C;simp only at U Y f g i j;subst U Y f g i j;have t:EP X d L Q (.ref s.heap.objs.size) {s with heap:=s.heap.push {cls:= .type "list",data:= .seq (a++O).toArray}}:=
  ⟨.ref _,_,I.S8 (t':=s.toks) (r.append m) (by rw[Nf];omega),rfl,q _ I.fresh⟩
 have w:a.toArray++O.toArray=(a++O).toArray:=by simp
 refine SW ⟨_,e,rfl⟩ ⟨_,k,rfl⟩ noFill_list_add seq_list_add PySem.F.slot_list_add PySem.F.entry_list_add (PySem.F.args_list_add_2 _ _)
  (list_addW l b a.toArray O.toArray n B cO cO J p<|by rw[Mb,Mb];omega) ⟨e,k,?_⟩
 rw[w];exact t
end
noncomputable def yj(scope C:hL):hL:={scope with names:=scope.names.map λp=>if p.2==ML && C.kind == .function && C.names.lookup p.1==cq .cell then (p.1,Ow)else (p.1,p.2)}
theorem bY(scope:hL)(env:n7):wh scope env=yj scope env.scope:=by unfold wh yj;rfl
structure SX(X:Cx)(sc:hL)(N T:List Str)(k:Nat):Prop where
 DY:X.env.scope=sc
 eN:X.N=N
 nd:N.Nodup
 calm:X.calm=cM
 room:nh k X.A
 fn : ∀x∈T,X.fn x=cM\/sc.names.lookup x=cq .local
noncomputable def K8(C:hL)(N:List Str)(i:Nat)(x:Str):Bool:=
 decide (N[i]? = cq x) && (decide (C.names.lookup x=cq .local) || decide (C.names.lookup x=cq .cell) || decide (C.names.lookup x=cq .free)) && !(x==("__debug__" : Str)) && !(x==("__classdict__" : Str))
noncomputable def yI(C:hL)(N T:List Str)(i:Nat)(x:Str):Bool:=decide (x∈T) && decide (N[i]? = cq x) && (decide (C.names.lookup x=cq .local) || decide (C.names.lookup x=cq .cell))
noncomputable def vZ(C:hL)(x:Str):Bool:=decide (C.names.lookup x=cq .globalImplicit) && !(x==("__name__" : Str)) && !(x==("__debug__" : Str))
section
variable{X:Cx}{sc:hL}{N T:List Str}{k:Nat}{i:Nat}{x:Str}{pos:g5}
theorem SX.var(h:SX X sc N T k)(c:K8 sc N i x=cM):PE X (.Name x pos) (Au i):=by
 unfold K8 at c;simp only[Mi,NC,decide_eq_true_eq,Oe]at c;obtain⟨⟨⟨a,h2⟩,I⟩,O⟩:=c;refine BU (by rw[h.eN];exact a) ?_ I O;unfold Pt;rw[h.DY];rcases h2 with(h2 | h2) | h2
 ·exact .inl h2
 ·exact .inr<|.inl h2
 ·exact .inr<|.inr h2
theorem SX.loc(h:SX X sc N T k)(c:yI sc N T i x=cM):X.N[i]? = cq x/\L2.Loc X.env.scope x/\(X.fn x=cM\/X.env.scope.names.lookup x=cq .local):=by
 unfold yI at c;simp only[Mi,NC,decide_eq_true_eq]at c;refine⟨by rw[h.eN];exact c.1.2,?_,?_⟩
 ·unfold L2.Loc;rw[h.DY];exact c.2
 ·rw[h.DY];exact h.fn x c.1.1
theorem SX.F0(h:SX X sc N T k):X.N.Nodup:=by rw[h.eN];exact h.nd
theorem SX.Ds(h:SX X sc N T k)(i:Nat)(c:yI sc N T i x=cM):PG X (.Name x pos) (yW i):=by obtain⟨a,b,I⟩:=h.loc c;exact gc h.F0 a b I
theorem SX.UI(h:SX X sc N T k)(g:En X es (gs is))(I:(zl es X.env).length=is.length:=by rfl)(O:(zl es X.env).findIdx? (·.1)=cO:=by rfl):PG X (.Tuple es j pos) (ri X.K<|.tp is):=
 BS h.calm g I O
theorem SX.set(h:SX X sc N T k)(i:Nat)(c:yI sc N T i x=cM)(I:PE X e te)(hs:C5 e (cq (.Name x pos')) pos.line X.env=pure cR:=by rfl):PS X (.Assign [.Name x pos'] e pos) (bN te<|yW i):=by obtain⟨a,b,O⟩:=h.loc c;exact BK h.F0 a b I hs O
theorem SX.gl(h:SX X sc N T k)(c:vZ sc x=cM):Gl X x/\x ≠ "__name__"/\(x==("__debug__" : Str))=cR:=by
 unfold vZ at c;simp only[Mi,decide_eq_true_eq,Oe]at c;refine⟨?_,?_,c.2⟩
 ·show X.env.scope.names.lookup x=_
  rw[h.DY];exact c.1.1
 ·intro e;rw[e]at c;simp at c
noncomputable def Ws(sc scope:hL)(N:List Str)(C:List (Str×Nat)):Bool:=
 decide (scope.kind = .function) && decide ((scope.names.map (·.1)).Nodup) && scope.names.all (λp=> !(p.2==ML) || decide (sc.names.lookup p.1=cq .cell) || decide (sc.names.lookup p.1=cq .free)) &&
 C.all λp=>decide (scope.names.lookup p.1=cq .free) && decide (N[p.2]? = cq p.1)
noncomputable def FP(own:List Str)(scope:hL)(C:List (Str×Nat)):Bool:=decide ((own++C.map (·.1)).Nodup) && own.all (λx=>decide (scope.names.lookup x=cq .local) || decide (scope.names.lookup x=cq .cell))
theorem SX.s_(h:SX X sc N T k)(c:Ws sc scope N fr=cM):s8 X scope fr:=by
 unfold Ws at c;simp only[Mi,decide_eq_true_eq,ND,NC,Oe]at c;obtain⟨⟨⟨Q,U⟩,Y⟩,O⟩:=c;refine⟨Q,U,λp I a=>?_,λp I=>⟨(O p I).1,by rw[h.eN];exact(O p I).2⟩⟩;have e:X.env.kindOf p.1=sc.names.lookup p.1:=by show X.env.scope.names.lookup p.1=_;rw[h.DY]
 rw[e];rcases Y p I with(q | q) | q
 ·rw[a]at q;exact absurd q ⋯
 ·exact .inl q
 ·exact .inr q
theorem JQ(scope sc:hL)(x:Str):(yj scope sc).names.lookup x=(scope.names.lookup x).map λk=>if (k==ML && sc.kind == .function && sc.names.lookup x==cq .cell)then Ow else k:=by
 unfold yj;dsimp only;generalize scope.names=l
 induction l with
 | nil=>rfl
 | cons p r O=>
  obtain⟨n,Q⟩:=p;rw[Mu];cases hx:x==n with
  | true=>
   have e:x=n:=by simpa using hx
   subst e;dsimp only;split
   ·rename_i I;rw[Nl,Nl,beq_self_eq_true];dsimp only[Sx];rw[UJ I]
   ·rename_i I;rw[Nl,Nl,beq_self_eq_true];dsimp only[Sx];rw[UY I]
  | false=>
   dsimp only;split
   ·rw[Nl,Nl,hx];exact O
   ·rw[Nl,Nl,hx];exact O
theorem SX.comp(h:SX X sc N T k)(c:FP own scope fr=cM) :
 SX (jD X scope (own++fr.map (·.1)) fp s2 H2) (yj scope sc) (own++fr.map (·.1)) own k:=by
 unfold FP at c;simp only[Mi,decide_eq_true_eq,ND,NC]at c;refine⟨?_,rfl,c.1,h.calm,h.room,λx a=>?_⟩
 ·show wh scope X.env=_
  rw[bY,h.DY]
 ·rcases c.2 x a with q | q
  ·right;rw[JQ,q];rfl
  ·left
   show(scope.names.lookup x==cq .cell)=cM;rw[q];rfl
end
mutual
def l5:D->PyData
 | .ez=> .none
 | .bl b=> .bool b
 | .int i=> .int i
 | .str x=> .str x
 | .tup a=> .tuple (sX a)
 | .lst a=> .list (sX a)
 | .m7 _ _=> .none
 | .ml _ _=> .none
def sX:List D->List PyData
 | []=>[]
 | d::ds=>l5 d::sX ds
end
theorem C4(h:h9 (.m7 ks vs)=cM):False:=by simp[h9]at h
theorem C3(h:h9 (.ml ks vs)=cM):False:=by simp[h9]at h
mutual
theorem R5 : ∀x y:D,h9 x=cM->h9 y=cM->PF (l5 x) (l5 y)=i5 x y
 | .ez,y,_,h=>by cases y<;>first | exact(C4 h).elim | exact(C3 h).elim | simp[l5,PF,i5]
 | .bl a,y,_,h=>by cases y<;>first | exact(C4 h).elim | exact(C3 h).elim | simp[l5,PF,i5]
 | .int a,y,_,h=>by cases y<;>first | exact(C4 h).elim | exact(C3 h).elim | simp[l5,PF,i5]
 | .str a,y,_,h=>by cases y<;>first | exact(C4 h).elim | exact(C3 h).elim | simp[l5,PF,i5]
 | .m7 c n,y,h,_=>(C4 h).elim
 | .ml c n,y,h,_=>(C3 h).elim
 | .tup xs,y,h1,h2=>by
  cases y with
  | tup b=>simp only[h9]at h1 h2;simp only[l5,PF,i5];exact R6 xs b h1 h2
  | m7 c n=>exact(C4 h2).elim
  | ml c n=>exact(C3 h2).elim
  | _=>simp[l5,PF,i5]
 | .lst xs,y,h1,h2=>by
  cases y with
  | lst b=>simp only[h9]at h1 h2;simp only[l5,PF,i5];exact R6 xs b h1 h2
  | m7 c n=>exact(C4 h2).elim
  | ml c n=>exact(C3 h2).elim
  | _=>simp[l5,PF,i5]
theorem R6 : ∀xs ys:List D,o6 xs=cM->o6 ys=cM->Sm (sX xs) (sX ys)=rb xs ys
 | [],ys,_,_=>by cases ys<;>simp[sX,Sm,rb]
 | x::xs,ys,h1,h2=>by
  cases ys with
  | nil=>simp[sX,Sm,rb]
  | cons y ys=>
   simp only[o6,Mi]at h1 h2;simp only[sX,Sm,rb];rw[R5 x y h1.1 h2.1,R6 xs ys h1.2 h2.2]
end
mutual
theorem Us : ∀x:D,h9 x=cM->(l5 x).canLay0=cM
 | .ez,_=>by simp[l5,PJ]
 | .bl a,_=>by simp[l5,PJ]
 | .int a,_=>by simp[l5,PJ]
 | .str a,h=>by simpa[l5,PJ,h9,PyData.strOk]using h
 | .tup xs,h=>by simp only[h9]at h;simp only[l5,PJ];exact S5 xs h
 | .lst xs,h=>by simp only[h9]at h;simp only[l5,PJ];exact S5 xs h
 | .m7 c n,h=>(C4 h).elim
 | .ml c n,h=>(C3 h).elim
theorem S5 : ∀xs:List D,o6 xs=cM->Sw (sX xs)=cM
 | [],_=>by simp[sX,Sw]
 | x::xs,h=>by simp only[o6,Mi]at h;simp only[sX,Sw];rw[Us x h.1,S5 xs h.2];rfl
end
mutual
theorem Uj : ∀x:D,(l5 x).depth=deep x
 | .ez=>by simp[l5,Po,deep]
 | .bl a=>by simp[l5,Po,deep]
 | .int a=>by simp[l5,Po,deep]
 | .str a=>by simp[l5,Po,deep]
 | .m7 c n=>by simp[l5,Po,deep]
 | .ml c n=>by simp[l5,Po,deep]
 | .tup b=>by simp only[l5,Po,deep];rw[R4 b]
 | .lst b=>by simp only[l5,Po,deep];rw[R4 b]
theorem R4 : ∀xs:List D,PyData.depthAll (sX xs)=n3 xs
 | []=>by simp[sX,PyData.depthAll,n3]
 | x::xs=>by simp only[sX,PyData.depthAll,n3];rw[Uj x,R4 xs]
end
theorem yT(h:jn d=cM):h9 d=cM:=by unfold jn at h;rw[Mi]at h;exact h.2
theorem wq(h:jn d=cM):SeqAt.shaped (l5 d)=cM:=by unfold jn at h;rw[Mi,decide_eq_true_eq]at h;unfold SeqAt.shaped;rw[Us d h.2,Rg,Uj];exact decide_eq_true ⋯
section
variable{X:Cx}{pins:UQ}{σ:St}{H0 H:Hp}{s:ed}
mutual
theorem F9(I:Inv X pins σ H s)(sub:g9 H0 H) : ∀{d:D} {v:V} {u:dy},h9 d=cM->Rep X.K H0 d v->RelV v u->∃O,Reads s.heap u (l5 d) O
 | .ez,v,u,_,h,r=>by cases (show v = .ez from h);cases r;exact⟨_,.none⟩
 | .bl b,v,u,_,h,r=>by cases (show v = .bl b from h);cases r;exact⟨_,.bool b⟩
 | .int i,v,u,_,h,r=>by cases (show v = .int i from h);obtain⟨t,rfl⟩:=r;exact⟨_,.int i t⟩
 | .str x,v,u,_,h,r=>by cases (show v = .str x from h);obtain⟨t,rfl⟩:=r;exact⟨_,.str x t⟩
 | .m7 c n,v,u,o,_,_=>(C4 o).elim
 | .ml c n,v,u,o,_,_=>(C3 o).elim
 | .tup ds,v,u,o,h,r=>by obtain⟨a,e,rfl,f,g⟩:=(show ∃a e,v = .ref a/\gu X.K H0 a e/\d9 X.K H0 ds e from h);cases r;simp only[h9]at o;obtain⟨k,Q,⟨w,U,Y,n,j⟩,m⟩:=I.tuple<|mr sub f;obtain⟨O,l⟩:=Tq I sub o g Q;exact⟨O,.tuple U Y j<|by simpa using l⟩
 | .lst ds,v,u,o,h,r=>by obtain⟨a,e,rfl,f,g⟩:=(show ∃a e,v = .ref a/\gB X.K H0 a e/\d9 X.K H0 ds e from h);cases r;simp only[h9]at o;obtain⟨k,Q,p,m⟩:=I.list<|sub.seq f;obtain⟨w,U,Y,n,j⟩:=p.isList;obtain⟨O,l⟩:=Tq I sub o g Q;exact⟨_,.list U Y j<|by simpa using l⟩
theorem Tq(I:Inv X pins σ H s)(sub:g9 H0 H) : ∀{ds:List D} {xs:List V} {us:List dy},o6 ds=cM->d9 X.K H0 ds xs->eK xs us->∃O,ReadsAll s.heap us (sX ds) O
 | [],xs,us,_,h,r=>by rw[h.p5]at r;cases r;exact⟨_,.nil⟩
 | d::ds,xs,us,o,h,r=>by
  obtain⟨x,t,e,a,b⟩:=h.m8;subst e;simp only[o6,Mi]at o;cases r with
  | cons Q f=>
   obtain⟨O,U⟩:=F9 I sub o.1 a Q;obtain⟨bs,Y⟩:=Tq I sub o.2 b f;exact⟨_,.cons U Y⟩
end
end
noncomputable def HL(K:LM):R2:=λx y H Q=>∃a b I,g9 a H/\Rep K a b x/\Rep K a I y/\jn b=cM/\jn I=cM/\Q (.bl<|i5 b I) H
noncomputable def HK(K:LM):R2:=λx y H Q=>∃a b I,g9 a H/\Rep K a b x/\Rep K a I y/\jn b=cM/\jn I=cM/\Q (.bl<|!i5 b I) H
theorem pY(Y:X.A.units+64<DC):i8 X (o4 .Eq) (HL X.K):=by intro a s m H x y v u Q I g i h;obtain⟨j,k,l,sub,b,d,O,U,q⟩:=h;obtain⟨as,e⟩:=F9 I sub (yT O) b g;obtain⟨bs,f⟩:=F9 I sub (yT U) d i;exact eq_dataH e f (wq O) (wq U) Y ⟨.bl _,H,I,by rw[R5 _ _ (yT O) (yT U)];rfl,q⟩
theorem Cm(Y:X.A.units+64<DC):i8 X (o4 .NotEq) (HK X.K):=by intro a s m H x y v u Q I g i h;obtain⟨j,k,l,sub,b,d,O,U,q⟩:=h;obtain⟨as,e⟩:=F9 I sub (yT O) b g;obtain⟨bs,f⟩:=F9 I sub (yT U) d i;exact ne_dataH e f (wq O) (wq U) Y ⟨.bl _,H,I,by rw[R5 _ _ (yT O) (yT U)];rfl,q⟩
theorem eH{K:LM}:n9 K (HL K) f9:=λa H x y b O d Q s U Y I q=>by
 unfold f9 at I;split at I
 ·rename_i h;cases I;exact⟨a,b,O,s,U,Y,h.1,h.2,q _ H a (Ext.refl s) rfl⟩
 ·cases I
theorem sI{K:LM}:n9 K (HK K) gv:=λa H x y b O d Q s U Y I q=>by
 unfold gv at I;split at I
 ·rename_i h;cases I;exact⟨a,b,O,s,U,Y,h.1,h.2,q _ H a (Ext.refl s) rfl⟩
 ·cases I
theorem SX.G9(h:SX X sc N T k):X.A.units+64<DC:=by have:=h.room.un;omega
section
variable{X:Cx}{sc:hL}{N T:List Str}{k:Nat}{a b c:eh}{pos p:g5}{fa fb fc:CO D}
theorem xP(C:PV X a fa)(I:PV X b fb):PV X (.BinOp a .Sub b pos) (zB vB fa fb):=Xq Ci sG C I
theorem wx(C:PV X a fa)(I:PV X b fb):PV X (.BinOp a .FloorDiv b pos) (zB XQ fa fb):=Xq ui sN C I
theorem qu(C:PV X a fa)(I:PV X b fb):PV X (.BinOp a .Mod b pos) (zB xV fa fb):=Xq Cn sL C I
theorem fG(C:PV X a fa)(I:PV X b fb):PV X (.BinOp a .Pow b pos) (zB uZ fa fb):=Xq Ck sH C I
theorem ZK(h:SX X sc N T k)(C:PV X a fa)(I:PV X b fb):PV X (.Compare a [.Eq] [b] pos) (zB f9 fa fb):=BD (pY h.G9) eH C I<|Xw b
theorem fK(C:PV X a fa)(I:PV X b fb):m4 X (.Compare a [.Lt] [b] pos) (sB<|zB pe fa fb):=JI Co pK C I<|Xw b
theorem JH(C:PV X a fa)(I:PV X b fb):m4 X (.Compare a [.Gt] [b] pos) (sB<|zB qq fa fb):=JI Gg Bd C I<|Xw b
theorem x6(h:SX X sc N T k)(C:PV X a fa)(I:PV X b fb):m4 X (.Compare a [.Eq] [b] pos) (sB<|zB f9 fa fb):=JI (pY h.G9) eH C I<|Xw b
theorem kO(h:SX X sc N T k)(C:PV X a fa)(I:PV X b fb):m4 X (.Compare a [.NotEq] [b] pos) (sB<|zB gv fa fb):=JI (Cm h.G9) sI C I<|Xw b
theorem VU{K:LM}{H:Hp}{d:D}(h:Rep K H d .ez):d = .ez:=by
 cases d with
 | ez=>rfl
 | bl b=>exact V.noConfusion (show V.ez = .bl b from h)
 | int b=>exact V.noConfusion (show V.ez = .int b from h)
 | str b=>exact V.noConfusion (show V.ez = .str b from h)
 | tup b=>obtain⟨a,f,e,_⟩:=h;cases e
 | lst b=>obtain⟨a,f,e,_⟩:=h;cases e
 | m7 c n=>obtain⟨a,f,e,_⟩:=h;cases e
 | ml c n=>obtain⟨a,f,e,_⟩:=h;cases e
theorem sM{K:LM}:n9 K (λx y H Q=>y = .ez/\Q (.bl<|decide<|x = .ez) H) Ef:=λa H x y b U d Q s I Y O q=>by
 cases U with
 | ez=>
  refine⟨Y,?_⟩;cases b with
  | ez=>cases O;rw[show x=V.ez from I];exact q _ H a (Ext.refl s) (by simp;rfl)
  | _=>
   cases O;refine q _ H a (Ext.refl s) ?_;have : ¬x=V.ez:=λe=>by rw[e]at I;exact D.noConfusion<|VU I
   rw[decide_eq_false this];rfl
 | _=>cases b<;>cases O
theorem tx(C:PV X a fa)(I:PV X b fb):m4 X (.Compare a [.Is] [b] pos) (sB<|zB Ef fa fb):=JI Cp sM C I<|Xw b
theorem kW{K:LM}{H:Hp}{ds:List D}{v:V}(h:Rep K H (.tup ds) v) : ∃a xs,v = .ref a/\gu K H a xs/\d9 K H ds xs:=h
theorem uA{K:LM}{H:Hp}{ds:List D}{v:V}(h:Rep K H (.lst ds) v) : ∃a xs,v = .ref a/\gB K H a xs/\d9 K H ds xs:=h
theorem xp{K:LM}{H:Hp}{ds:List D}{a:dn}{xs:List V}(C:gu K H a xs)(I:d9 K H ds xs):Rep K H (.tup ds) (.ref a):=⟨a,xs,rfl,C,I⟩
theorem JG{K:LM}{H:Hp}{ds:List D}{a:dn}{xs:List V}(C:gB K H a xs)(I:d9 K H ds xs):Rep K H (.lst ds) (.ref a):=⟨a,xs,rfl,C,I⟩
theorem sO{K:LM}:n9 K (λx y H Q=>t7 (λi j=> .int (i+j)) x y H Q\/pT K x y H Q) qD:=λg H x y o r d Q s Y m O q=>by
 cases o<;>cases r<;>simp[qD]at O
 ·subst O;exact .inl ⟨_,_,jz Y,jz m,q _ H g (Ext.refl s) rfl⟩
 ·rename_i n t
  obtain⟨u,rfl⟩:=O;obtain⟨a,w,rfl,h,f⟩:=kW Y;obtain⟨b,z,rfl,k,I⟩:=kW m;refine .inr ⟨a,b,w,z,rfl,rfl,mr s h,mr s k,yv (by rw[f.length,I.length];exact u),λe=>?_,λe=>?_,λp l=>?_⟩
  ·have U:n=[]:=by
    have:=f.length;rw[e]at this;exact Ni this.symm
   subst U;exact q _ H g (Ext.refl s)<|xp k I
  ·have U:t=[]:=by
    have:=I.length;rw[e]at this;exact Ni this.symm
   subst U;exact q _ H g (Ext.refl s) (by rw[OA];exact xp h f)
  ·exact q _ _ _ (Ext.alloc s l _)<|xp (gu.of zJ)<|(f.append I).mono (jh (js s l) _)
theorem jU(C:PV X a fa)(I:PV X b fb):PV X (.BinOp a .Add b pos) (zB qD fa fb):=Xq (H_.or nG) sO C I
end
theorem WO(Q:A.handled=cO)(k:Sk)(I O:dn)(U:O≠I)(items:Array dy) :
 Walks P w A I [I,O] [I] items.size (λi v=>items[i]? = cq v) (λi h=>i7 k h I O i/\lC k h O items):=by
 cases k
 ·exact Walks.list Q I O U items
 ·exact Walks.tuple Q I O U items
theorem JL(C:List Int) : ∀n,Tp (λi=>C.getD i 0) n=(C.take n).sum
 | 0=>by simp[Tp]
 | n+1=>by
  have I:=JL C n;simp only[Tp,I];by_cases h:n<C.length
  ·rw[List.take_succ_eq_append_getElem h,List.sum_append]
   simp[h]
  ·rw[PK ⋯,PK ⋯]
   simp[h]
section
variable{X:Cx}{pins:UQ}{σ:St}{H:Hp}{s:ed}
theorem iX(J:X.calm=cM):ZP X (.builtin "sum") (λxs H Q=>∃p k ys C,xs=[.ref p]/\kv k X.K H p ys/\ys=(C:List Int).map V.int/\Q (.int C.sum) H):=by
 intro pins s σ H F E Q I w h;obtain⟨p,k,ys,C,rfl,m,rfl,q⟩:=h;obtain⟨u,rfl,O⟩:=yh w;cases O;obtain⟨a,r,d,B⟩:=I.sq m;have lt:=d.lt;have U:=r.length;rw[Mm]at U;refine call_sum_walkG<|aQ d ⟨_,[_,p],[_],a.toArray.size,_,_,λi=>C.getD i 0,rfl,WO (A:=X.A.in1) (I.ok.hd J) k _ p (Ml lt) a.toArray,⟨JZ k _ p,d.at λo e=>LN _ e⟩,?_,?_,?_⟩
 ·intro b Y
  rw[MO];simp only[Mc,Mn,or_false]at Y;rcases Y with rfl | rfl
  ·exact NO _
  ·exact Nd lt
 ·intro i v n
  have f:a[i]? = cq v:=by simpa using n
  have j:i<C.length:=by rw[U];exact(Mj.mp f).1
  obtain⟨u,g,O⟩:=r.get (i:=i) (x:= .int C[i]) (by simp[j]);rw[f]at g;cases g;obtain⟨t,rfl⟩:=O;exact⟨t,by simp[j]⟩
 ·intro z y t' l
  have e:Tp (λi=>C.getD i 0) a.toArray.size=C.sum:=by rw[JL,PK (by rw[Mb,U];exact LW _)]
  refine⟨.int C.sum,H,I.kept (t':=y)<|λb u e=>l b u ?_ (LN _ e),⟨t',by rw[e]⟩,q⟩;simp only[Mc,Mn,or_false];exact Ml<|Me e
noncomputable def AQ:V->Option Bool
 | .ez=>cq cR
 | .bl b=>cq b
 | .int i=>cq (i != 0)
 | _=>cO
theorem mw(r:RelV x u)(e:AQ x=cq b)(q:Q b s):wpAny (eg P w) A (G8 u) Q E s:=by
 cases x with
 | ez=>cases r;cases e;exact λ_ _ _=>q
 | bl c=>cases r;cases e;exact NW q
 | int i=>obtain⟨t,rfl⟩:=r;cases e;exact PyProof.Rows.truthy_int q
 | _=>cases e
noncomputable def dS:List V->Option (List Bool)
 | []=>cq []
 | x::r=>(AQ x).bind λb=>(dS r).map λl=>b::l
theorem Yd : ∀{xs:List V} {bs:List Bool},dS xs=cq bs->bs.length=xs.length/\∀(i:Nat) x,xs[i]? = cq x->AQ x=cq (bs.getD i cR)
 | [],bs,h=>by cases h;exact⟨rfl,λi x e=>by simp at e⟩
 | y::xs,bs,h=>by
  obtain⟨b,a,h⟩:=ze h;obtain⟨l,I,h⟩:=zE h;subst h;obtain⟨d,f⟩:=Yd I;refine⟨by simp[d],λi x e=>?_⟩;cases i with
  | zero=>simp at e;subst e;simpa using a
  | succ i=>simpa using f i x (by simpa using e)
theorem lE(bs:List Bool):(LL bs.length).any (λi=>bs.getD i cR)=bs.any id:=by
 rw[NV];simp only[T9,LO,id_eq];constructor
 ·rintro⟨i,a,h⟩
  rw[LS,LP a]at h;exact⟨_,OL a,h⟩
 ·rintro⟨b,I,h⟩
  obtain⟨i,a,e⟩:=List.mem_iff_getElem.mp I;refine⟨i,a,?_⟩;rw[LS,LP a,OE,e];exact h
theorem lh(C:X.calm=cM):ZP X (.builtin "any") (λxs H Q=>∃p k ys bs,xs=[.ref p]/\kv k X.K H p ys/\dS ys=cq bs/\Q (.bl (bs.any id)) H):=by
 intro pins s σ H N M Q I z h;obtain⟨p,k,ys,bs,rfl,t,w,q⟩:=h;obtain⟨u,rfl,O⟩:=yh z;cases O;obtain⟨a,r,d,J⟩:=I.sq t;have lt:=d.lt;have U:=r.length;obtain⟨j,l⟩:=Yd w;refine call_any_walk<|aQ d ⟨_,[_,p],[_],a.toArray.size,_,_,λi=>bs.getD i cR,rfl,WO (A:=X.A.in1) (I.ok.hd C) k _ p (Ml lt) a.toArray,⟨JZ k _ p,d.at λo e=>LN _ e⟩,?_,?_⟩
 ·intro i v L F E y m
  have Y:a[i]? = cq v:=by simpa using y
  have g:i<ys.length:=by rw[U];exact(Mj.mp Y).1
  obtain⟨u,f,O⟩:=r.get (i:=i) (x:=ys[i]) (by simp[g]);rw[Y]at f;cases f;exact mw O (l i ys[i] (by simp[g])) m
 ·intro G B n
  have e:(LL a.toArray.size).any (λi=>bs.getD i cR)=bs.any id:=by rw[Mb,<- U,<- j];exact lE bs
  refine⟨.bl<|bs.any id,H,I.kept (t':=B)<|λb u e=>n b u ?_ (LN _ e),by rw[e];rfl,q⟩;simp only[Mc,Mn,or_false];exact Ml<|Me e
end
section
variable{X:Cx}{sc:hL}{N T:List Str}{k:Nat}{e a b c:eh}{pos p p2:g5}{f g:CO D}{fq:CO (Sk×List D)}
theorem Bb{K:LM}{H:Hp}{k:Sk}{a:dn}{xs:List V}(h:kv k K H a xs):gB K H a xs\/gu K H a xs:=by
 cases k
 ·exact .inl h
 ·exact .inr h
theorem yO(h:SX X sc N T k)(c:vZ sc "len" = cM)(z:X.mg "len" = cO)(I:PQ X e fq)(hs:fA [e] X.env=[(cR,el e X.env)]:=by rfl):PV X (.Call (.Name "len" p) [e] [] pos) (yJ fq):=
 qC (yn Vn (h.gl c).1 z PySem.boot_len (jA I qG hs) ⋯ ⋯ hs rfl) λt H Q O=>by obtain⟨j,o,d,rc,U,q⟩:=O;obtain⟨⟨n,f⟩,l,Y⟩:=zE U;subst Y;refine⟨j,o,n,f,rc,l,λa g i b ext m s r=>⟨a,g,rfl,Bb m,?_⟩⟩;exact q _ i b ext (show V.int g.length = .int f.length by rw[r.length])
theorem jM(h:SX X sc N T k)(c:vZ sc "tuple" = cM)(z:X.mg "tuple" = cO)(O:PQ X e fq)(hs:fA [e] X.env=[(cR,el e X.env)]:=by rfl):PV X (.Call (.Name "tuple" p) [e] [] pos) (zV fq):=
 qC (JM KQ (h.gl c).1 z PyProof.Rows.boot_tuple (jA O qG hs) ⋯ ⋯ hs rfl) λw H Q U=>by
  obtain⟨j,u,d,rc,Y,q⟩:=U;obtain⟨⟨g,m⟩,n,o⟩:=zE Y;subst o;refine⟨j,u,g,m,rc,n,λa t i b ext f s r=>⟨a,t,rfl,?_⟩⟩;cases g with
  | L=>exact .inl ⟨f,λl I=>q _ _ _ (ext.trans<|Ext.alloc ext.sub I _)<|xp (gu.of zJ)<|r.mono<|jh (js ext.sub I) _⟩
  | T=>exact .inr ⟨f,q _ i b ext (xp (s rfl) r)⟩
theorem kF{H H':Hp}(s:g9 H H'){a:dn}(h:H' a=cO):H a=cO:=by
 cases z:H a with
 | none=>rfl
 | some o=>rw[s a o z]at h;cases h
theorem tP(h:SX X sc N T k)(c:vZ sc "list" = cM)(z:X.mg "list" = cO)(O:PQ X e fq)(hs:fA [e] X.env=[(cR,el e X.env)]:=by rfl):PO X (.Call (.Name "list" p) [e] [] pos) (eV fq):=
 qC (JM Vl (h.gl c).1 z PyProof.Rows.boot_list (jA O qG hs) ⋯ ⋯ hs rfl) λw H Q U=>by obtain⟨g,s,d,rc,Y,q⟩:=U;obtain⟨⟨o,i⟩,j,m⟩:=zE Y;subst m;refine⟨g,s,o,i,rc,j,λa f t b ext n u r=>⟨a,f,rfl,Bb n,λl I=>?_⟩⟩;exact q l f _ b (ext.trans<|Ext.hide ext.sub I _) (kF ext.s1 I) (js ext.sub I) zJ r
theorem Yj : ∀{ds:List D} {n:Int},W4 ds=cq n->∃C:List Int,ds=C.map D.int/\n=C.sum
 | [],n,h=>by cases h;exact⟨[],rfl,rfl⟩
 | d::ds,n,h=>by
  cases d with
  | int i=>
   obtain⟨s,e,h⟩:=zE h;obtain⟨C,rfl,rfl⟩:=Yj e;exact⟨i::C,rfl,by rw[<- h];simp⟩
  | _=>cases h
theorem YA{K:LM}{H:Hp} : ∀{C:List Int} {xs:List V},d9 K H (C.map D.int) xs->xs=C.map V.int
 | [],xs,h=>h.p5
 | z::C,xs,h=>by obtain⟨x,r,e,a,b⟩:=d9.m8 h;rw[e,jz a,YA b];rfl
theorem Xp(h:SX X sc N T k)(c:vZ sc "sum" = cM)(z:X.mg "sum" = cO)(U:PQ X e fq)(hs:fA [e] X.env=[(cR,el e X.env)]:=by rfl):PV X (.Call (.Name "sum" p) [e] [] pos) (bU fq):=
 qC (yn (iX h.calm) (h.gl c).1 z PyProof.Rows.boot_sum (jA U qG hs) ⋯ ⋯ hs rfl) λy H Q Y=>by obtain⟨j,w,d,rc,I,q⟩:=Y;obtain⟨⟨f,l⟩,m,I⟩:=ze I;obtain⟨n,o,s⟩:=zE I;subst s;obtain⟨g,O,rfl⟩:=Yj o;have O:l=g.map D.int:=O;subst O;exact⟨j,w,f,_,rc,m,λa u i b ext t x r=>⟨a,f,u,g,rfl,t,YA r,q _ i b ext rfl⟩⟩
theorem sk{K:LM}{H:Hp}{d:D}{x:V}{b:Bool}(h:Rep K H d x)(e:EG d=cq b):AQ x=cq b:=by
 cases d with
 | ez=>cases (show x = .ez from h);exact e
 | bl c=>cases (show x = .bl c from h);exact e
 | int i=>cases (show x = .int i from h);exact e
 | _=>cases e
theorem WZ{K:LM}{H:Hp} : ∀{ds:List D} {xs:List V} {bs:List Bool},d9 K H ds xs->Jp ds=cq bs->dS xs=cq bs
 | [],xs,bs,h,e=>by rw[h.p5];exact e
 | d::ds,xs,bs,h,e=>by obtain⟨x,r,I,f,g⟩:=h.m8;obtain⟨b,a,e⟩:=ze e;obtain⟨l,O,e⟩:=zE e;subst I e;show(AQ x).bind _=_;rw[sk f a];show((dS r).map λl=>b::l)=_;rw[WZ g O];rfl
theorem pU(h:SX X sc N T k)(c:vZ sc "any" = cM)(z:X.mg "any" = cO)(O:PQ X e fq)(hs:fA [e] X.env=[(cR,el e X.env)]:=by rfl):PV X (.Call (.Name "any" p) [e] [] pos) (Av fq):=
 qC (yn (lh h.calm) (h.gl c).1 z PyProof.Rows.boot_any (jA O qG hs) ⋯ ⋯ hs rfl) λu H Q U=>by obtain⟨i,o,d,rc,I,q⟩:=U;obtain⟨⟨f,s⟩,j,I⟩:=ze I;obtain⟨bs,Y,l⟩:=zE I;subst l;exact⟨i,o,f,_,rc,j,λa n g b ext m t r=>⟨a,f,n,bs,rfl,m,WZ r Y,q _ g b ext rfl⟩⟩
theorem vP(h:SX X sc N T k)(c:vZ sc "int" = cM)(z:X.mg "int" = cO)(U:PV X e f)(hs:fA [e] X.env=[(cR,el e X.env)]:=by rfl):PV X (.Call (.Name "int" p) [e] [] pos) (ka f):=
 qC (JM lg (h.gl c).1 z PyProof.Rows.boot_int (jA U qG hs) ⋯ ⋯ hs rfl) λn H Q Y=>by
  obtain⟨j,m,d,rc,I,q⟩:=Y;obtain⟨O,l,I⟩:=ze I;refine⟨j,m,O,rc,l,λv g a ext r=>?_⟩;cases O with
  | int i=>cases I;exact .inl ⟨i,by rw[jz r],q _ g a ext rfl⟩
  | bl b=>cases I;exact .inr ⟨b,by rw[show v = .bl b from r],q _ g a ext rfl⟩
  | _=>cases I
theorem fH(h:SX X sc N T k)(c:vZ sc "max" = cM)(z:X.mg "max" = cO)(C:PV X a f)(Y:PV X b g)(hs:fA [a,b] X.env=[(cR,el a X.env),(cR,el b X.env)]:=by rfl)(O:fA [b] X.env=[(cR,el b X.env)]:=by rfl) :
 PV X (.Call (.Name "max" p) [a,b] [] pos) (eT f g):=
 qC (yn (iZ h.calm) (h.gl c).1 z PyProof.Rows.boot_max (jA C (jA Y qG O)<|by rw[hs,O]) ⋯ ⋯ (by rw[hs,O]) (by rw[O];rfl)) λJ H Q B=>by obtain⟨o,n,d,rc,I,q⟩:=B;obtain⟨i,l,I⟩:=ze I;obtain⟨u,y,l⟩:=ze l;obtain⟨j,U,I⟩:=zE I;obtain⟨w,A,U⟩:=ze U;subst I;refine⟨o,n,u,rc,y,λv F e x r=>⟨e,n,w,rc.ext x,A,λG s t E m=>⟨i,j,?_,q _ s t (x.trans E) rfl⟩⟩⟩;rw[jS l]at r;rw[jS U]at m;rw[jz r,jz m]
end
section
variable{X:Cx}{sc:hL}{N T:List Str}{k:Nat}{e a b c:eh}{pos p p2:g5}{f g:CO D}{fq:CO (Sk×List D)}
theorem aP(h:i3 n i=cq j):DG n i=cq j:=by
 unfold i3 at h;unfold DG;split at h
 ·rename_i a;rw[UJ a.1,UJ a.2];exact h
 ·split at h
  ·rename_i a b;rw[UY ⋯,UJ ⋯];exact h
  ·cases h
theorem zC(C:PQ X a fq)(J:PV X b g)(hs:WH b:=by intro _ _;rfl):PV X (.Subscript a b pos) (di fq g):=
 qC (Ca (B_.or CG) C J hs) λN H Q B=>by
  obtain⟨o,n,d,rc,I,q⟩:=B;obtain⟨⟨m,w⟩,y,I⟩:=ze I;obtain⟨i,U,I⟩:=ze I;obtain⟨u,z,U⟩:=ze U;obtain⟨j,A,I⟩:=ze I;refine⟨o,n,m,w,rc,y,λp h G e ext l K r=>⟨e,n,u,rc.ext ext,z,λM s t O f=>?_⟩⟩;rw[jS U]at f;obtain⟨x,E,F⟩:=r.get I;have Y:Dh h i=cq x:=by unfold Dh;rw[r.length,aP A];exact E
  have k:=q x s t (ext.trans O)<|F.mono O.s0;cases m with
  | L=>exact .inl ⟨p,h,i,x,rfl,jz f,O.s1.seq l,Y,k⟩
  | T=>exact .inr ⟨p,h,i,x,rfl,jz f,mr O.s1 l,Y,k⟩
theorem Zp{P:il}{w:hG}{A:k0}{E:EQ}{s:ed}{t J:dn}{items:Array dy}{O U:dy}{lo C:Option Int}{Q:EQ}(I:o7 s.heap t items)(hs:s.heap.IsSliceOf J O U .none)(Y:B0 O lo)(S:B0 U C)
 (L:HT.di items.size 0 lo=0/\HT.di items.size items.size C=items.size) (h:Q (.ref t) s):wpAny (eg P w) A (B9 (.ref t)<|.ref J) Q E s:=by
 obtain⟨os,a,b,f⟩:=id hs;have d:s.TypeIs (.ref J) "slice":=⟨os,a,b⟩;unfold B9
 try with_reducible refine NG ?_
 first | refine LK (LU ?_) | skip
 refine LK (V_ I.typeIs ⋯ ?_);refine LK (MK (name:=Mw "__getitem__") I.typeIs Ny
  (MS Ny I.typeIs entry_tuple_getitem ?_ (n_ _ _)))
 show wpAny _ _ (Builtin.Tuple.tupleItemsOf (.ref t) >>= _) _ _ s;refine LK<|Sf I ?_;refine LK<|Pf d ?_;rw[UJ ⋯];refine LK<|HT.ZH hs Y S ?_;have e:(((HT.di items.size 0 lo:Nat):Int)==0 && (1:Int)==1 && (HT.di items.size items.size C - HT.di items.size 0 lo)==items.size)=cM:=by rw[L.1,L.2];simp
 show wpAny _ _ (if (((HT.di items.size 0 lo:Nat):Int)==0 && (1:Int)==1 && (HT.di items.size items.size C - HT.di items.size 0 lo)==items.size)=cM then _ else _) _ _ s;rw[UJ e];refine LK (m:=ON _) ?_;unfold ON;refine LK<|Pf I.typeIs<|LU ?_;rw[UJ ⋯];exact LK<|OT<|LU ⟨_,rfl,LU h⟩
noncomputable def FW(K:LM):V->Option Int->Option Int->Hp->VK->Prop:=λx lo d H Q=>∃a b,x = .ref a/\gu K H a b/\(HT.di b.length 0 lo=0/\HT.di b.length b.length d=b.length->Q (.ref a) H)/\∀p,H p=cO->Q (.ref p) (upd H p<|.tup<|Ae b lo d)
theorem sP:O8 X (FW X.K):=by
 intro d s u H x v p t lo g o Q I O i U Y h;obtain⟨a,b,rfl,k,m,n⟩:=h;by_cases e:HT.di b.length 0 lo=0/\HT.di b.length b.length g=b.length
 ·cases O
  obtain⟨f,r,j,w⟩:=I.tuple k;have l:f.toArray.size=b.length:=by rw[Mb];exact r.length.symm
  refine⟨"tuple",_,Ny.lookup,j.typeIs,?_⟩;exact Zp j i U Y (by rw[l];exact e) ⟨.ref a,H,I,rfl,m e⟩
 ·exact Be d s u H (.ref a) v p t lo g o Q I O i U Y ⟨a,b,rfl,k,e,n⟩
theorem Jc(n d:Nat)(o:Option Int):cZ n d o=HT.di n d o:=by cases o<;>rfl
theorem mN{K:LM}{H:Hp}{ds:List D}{xs:List V}(r:d9 K H ds xs)(lo C:Option Int):d9 K H (oW ds lo C) (Ae xs lo C):=by unfold oW Ae;rw[<- Jc,<- Jc,r.length];exact(r.drop _).take _
theorem iQ{ds:List D}{lo C:Option Int}(h:HT.di ds.length 0 lo=0/\HT.di ds.length ds.length C=ds.length):oW ds lo C=ds:=by unfold oW;rw[Jc,Jc,h.1,h.2];simp
noncomputable def tB(K:LM)(f:CO (Option Int)):TO:=λg H Q=>∃d e o,RC K d H g e/\f e=cq o/\∀b a,Ext d H a b->Q o b
theorem Km:L2.PO X cO (tB X.K dr):=λa s d H Q I ⟨b,e,o,rc,O,q⟩=>tM a s d H Q I (by cases O;exact q H b<|Ext.refl rc.sub)
theorem Kl(h:PV X e f):L2.PO X (cq e) (tB X.K<|u0 f):=λa s m H Q I ⟨k,l,o,rc,O,q⟩=>tL h a s m H Q I (by
 obtain⟨i,g,U⟩:=zE O;obtain⟨d,Y,g⟩:=ze g;subst U;refine⟨k,l,d,rc,Y,λv j b x r=>?_⟩;rw[jS g]at r;exact⟨i,jz r,q j b x⟩)
theorem ao{lo C:Option eh}{U Y:CO (Option Int)}(J:PV X a f)(S:L2.PO X lo (tB X.K U))(L:L2.PO X C (tB X.K Y)):PV X (.Subscript a (.Slice lo C cO p2) pos) (eP f U Y):=
 qC (nA sP J S L) λP H Q E=>by
  obtain⟨n,g,d,rc,I,q⟩:=E;obtain⟨h,z,I⟩:=ze I;obtain⟨l,A,I⟩:=ze I;obtain⟨u,B,I⟩:=ze I;refine⟨n,g,h,rc,z,λv G b x r=>⟨b,g,l,rc.ext x,A,λM t O=>⟨t,g,u,(rc.ext x).ext O,B,λo w x3=>?_⟩⟩⟩;have m:=x.trans<|O.trans x3;cases h with
  | tup N=>
   cases I;obtain⟨s,F,rfl,i,e⟩:=kW<|r.mono (O.trans x3).s0;have y:=e.length;refine⟨s,F,rfl,mr x3.sub i,λk=>?_,λp j=>?_⟩
   ·rw[y]at k
    exact q _ o w m (by rw[iQ k];exact xp i e)
   ·exact q _ _ _ (m.trans<|Ext.alloc x3.sub j _)<|xp (gu.of zJ)<|(mN e _ _).mono (jh (js x3.sub j) _)
  | _=>cases I
theorem Ke{K:LM}{H:Hp}{ds:List D}{xs:List V}(r:d9 K H ds xs) : ∀n:Nat,d9 K H (LQ n ds).flatten (LQ n xs).flatten
 | 0=>d9.nil
 | n+1=>by rw[Og,Og,Pb,Pb];exact r.append<|Ke r n
theorem YF(C:PQ X a fq)(J:PQ X b gq):PO X (.BinOp a .Add b pos) (VQ fq gq):=
 qC (tZ nH C J) λG H Q w=>by
  obtain⟨k,j,B,rc,I,q⟩:=w;obtain⟨⟨x,d⟩,r,I⟩:=ze I;obtain⟨⟨y,e⟩,s,I⟩:=ze I;cases x<;>cases y<;>try (simp at I;done)
  dsimp only at I;by_cases U:d.length+e.length<=lim
  ·rw[UJ U]at I;cases I
   refine⟨k,j,.L,d,rc,r,λl h z n x1 t E f=>⟨n,j,.L,e,rc.ext x1,s,λm i A o O u F g=>⟨l,m,h,i,rfl,rfl,O.s1.seq t,u,yv (by rw[f.length,g.length];exact U),λp Y=>?_⟩⟩⟩;exact q p (h++i) _ o (x1.trans<|O.trans<|Ext.hide O.sub Y _) (kF (x1.trans O).s1 Y) (js O.sub Y) zJ<|(f.mono O.s0).append g
  ·rw[UY U]at I;cases I
theorem BN(C:PO X a gn)(J:PV X b g):PO X (.BinOp a .Mult b pos) (sS (jt gn) g):=
 qC (tZ Cj C J) λM H Q w=>by
  obtain⟨l,k,B,rc,I,q⟩:=w;obtain⟨⟨G,f⟩,d,I⟩:=ze I;obtain⟨A,s,d⟩:=zE d;cases d;obtain⟨j,Y,I⟩:=ze I;obtain⟨r,t,Y⟩:=ze Y;dsimp only at I;by_cases U:f.length*j.toNat<=lim/\inR j=cM
  ·rw[UJ U]at I;cases I
   refine⟨l,k,f,rc,s,λm x y n x1 E F u h=>⟨n,k,r,rc.ext x1,t,λv z o O i=>?_⟩⟩;rw[jS Y]at i;obtain⟨K,L⟩:=J4 U.2;refine⟨m,j,x,rfl,jz i,O.s1 _ _ u,by omega,by omega,yv (by rw[h.length];exact U.1),λp e=>?_⟩;exact q p _ _ o (x1.trans<|O.trans<|Ext.hide O.sub e _) (kF (x1.trans O).s1 e) (js O.sub e) zJ<|(Ke h _).mono O.s0
  ·rw[UY U]at I;cases I
end
section
variable{X:Cx}{sc:hL}{N L:List Str}{k:Nat}{e a b c:eh}{pos p p2:g5}{f g:CO D}{fq:CO (Sk×List D)}
theorem j9(h:SX X sc N L k)(c:vZ sc "range" = cM)(z:X.mg "range" = cO)(C:PV X a f)(hs:fA [a] X.env=[(cR,el a X.env)]:=by rfl):i0 X tg (.Call (.Name "range" p) [a] [] pos) (ju f):=cp (h.gl c).1 z C hs
theorem nu(h:SX X sc N L k)(c:vZ sc "range" = cM)(z:X.mg "range" = cO)(C:PV X a f)(I:PV X b g)(hs:fA [a,b] X.env=[(cR,el a X.env),(cR,el b X.env)]:=by rfl)(O:fA [b] X.env=[(cR,el b X.env)]:=by rfl) :
 i0 X tg (.Call (.Name "range" p) [a,b] [] pos) (VO f g):=cn (h.gl c).1 z C I hs O
theorem Zy(h:SX X sc N L k)(c:vZ sc "zip" = cM)(z:X.mg "zip" = cO)(C:PV X a f)(I:PV X b g)(hs:fA [a,b] X.env=[(cR,el a X.env),(cR,el b X.env)]:=by rfl)(O:fA [b] X.env=[(cR,el b X.env)]:=by rfl) :
 i0 X (.Tuple elts x1 tw) (.Call (.Name "zip" p) [a,b] [] pos) (aa f g):=tW (h.gl c).1 z C I hs O
theorem mS(C:PQ X a fq)(O : ∀I,DF a X.env I=(do let v <- I;DM a.pos;t5 [v] (G8 v)):=by intro _;rfl):m4 X a (sR fq):=
 VW (mT C O) λo H Q U=>by
  obtain⟨j,m,t,rc,Y,q⟩:=U;obtain⟨⟨h,b⟩,k,l⟩:=zE Y;subst l;refine⟨j,m,h,b,rc,k,λp d i f ext g n r=>⟨!b.isEmpty,?_,q i f ext⟩⟩;have e:d.isEmpty=b.isEmpty:=by have:=r.length;cases d<;>cases b<;>simp_all
  rw[<- e];cases h with
  | L=>exact .inl ⟨d,g,rfl⟩
  | T=>exact .inr<|.inl ⟨d,g,rfl⟩
theorem BB(C:PV X a f):PV X (.UnaryOp .USub a pos) (EK f):=
 qC (Ge AL C) λl H Q I=>by obtain⟨h,k,d,rc,O,q⟩:=I;obtain⟨i,e,U⟩:=zE O;obtain⟨Y,j,e⟩:=ze e;subst U;refine⟨h,k,Y,rc,j,λv g b x r=>?_⟩;rw[jS e]at r;exact⟨i,jz r,q _ g b x rfl⟩
theorem JK(i:Nat)(h:SX X sc N L k)(c:K8 sc N i x=cM)(C:PV X a f)(hs:fA [a] X.env=[(cR,el a X.env)]:=by rfl)
 (I:P2 (.Name x np) "append" X.env (el (.Name x np) X.env)=el (.Name x np) X.env:=by rfl)
 (O:((r6 cpos<|starEach [a] X.env).all (λx=> !x.1) && (P8 cpos<|keywordEach [] X.env).all (λx=>x.1.isSome)
   && decide ([a].length+([]:List Dx).length+(if ([]:List Dx).isEmpty then 0 else 1)<30))=cM:=by rfl)
 (Q:(apos.endLine==cpos.line)=cM:=by rfl) (U:C5 (.Call (.Attribute (.Name x np) "append" apos) [a] [] cpos) cO pos.line X.env=pure cR:=by rfl) :
 md X (.Expr (.Call (.Attribute (.Name x np) "append" apos) [a] [] cpos) pos) (xW i f):=
 cf i (Cc PySem.F.plainAttrs_list PySem.F.slot_list_append PySem.F.type_list_append gH (h.var c) (jA C qG hs) I O Q hs rfl) U
theorem jC(i:Nat){st:kA}{f:CO (List D)}(h:PS X st (bN (tO X.K f)<|yW i)):md X st (jB i<|qf f):=k8 h λD t H Q=>by obtain⟨E0,E,g,n,p,I,O,U⟩:=Q;obtain⟨d,b,O⟩:=zE O;obtain⟨k,Y,b⟩:=zE b;subst O b;exact⟨g,n,k,I.rc,Y,λa s o j x l e m r=>U _ _ _<|(I.step<|x.show l e m I.rc.sub).A2 (JG (gB.of zJ)<|r.mono<|jh e _)⟩
theorem I_(i:Nat)(h:SX X sc N L k)(c:yI sc N L i y=cM)
 (I:X.calm=cM) (ok:s8 X scope fr) (O : ∀i∈T.idx,i<own.length) (S:s9 X tg iter src) (Q : ∀fp J C,PG (jD X scope (own++fr.map (·.1)) fp J C) tg<|ri X.K T)
 (U : ∀fp J C,PV (jD X scope (own++fr.map (·.1)) fp J C) elt f) (hs : ∀x,pk iter X.env x=pure x:=by intro _;rfl) :
 PS X (.Assign [.Name y py] (.ListComp elt [⟨tg,iter,[],0⟩] scope cpos) spos) (bN (tO X.K<|zK src T own.length (fr.map (·.2)) jd f)<|yW i):=by
 obtain⟨a,b,Y⟩:=h.loc c;exact nc h.F0 a b Y I ok O S Q U hs
theorem Gb(i:Nat)(h:SX X sc N L k)(c:yI sc N L i y=cM)
 (I:X.calm=cM) (ok:s8 X scope fr) (O : ∀i∈T.idx,i<own.length) (S:s9 X tg iter src) (Q : ∀fp J C,PG (jD X scope (own++fr.map (·.1)) fp J C) tg<|ri X.K T)
 (U : ∀fp J C,m4 (jD X scope (own++fr.map (·.1)) fp J C) DU kk) (Y : ∀fp J C,PV (jD X scope (own++fr.map (·.1)) fp J C) elt f) (hs : ∀x,pk iter X.env x=pure x:=by intro _;rfl) :
 PS X (.Assign [.Name y py] (.ListComp elt [⟨tg,iter,[DU],0⟩] scope cpos) spos) (bN (tO X.K<|zK src T own.length (fr.map (·.2)) kk f)<|yW i):=by
 obtain⟨a,b,d⟩:=h.loc c;exact cg h.F0 a b d I ok O S Q U Y hs
theorem JJ(i:Nat)(h:SX X sc N L k)(c:K8 sc N i x=cM)(hi:PV X b g)(Z:PV X e f)
 (S : ∀v,uw (.Subscript (.Name x np) b p) X.env v=(do
   let O <- t5 [v] (el (.Name x np) X.env);let Y <- t5 [v,O] (el b X.env)
   DM p
   t5 [v,O,Y] (Tz O Y v)
   Uw [v,O,Y] []):=by intro _;rfl)
 (hs:N2 [.Subscript (.Name x np) b p] e pos.line X.env=pure cR:=by rfl) (hw:TJ [.Subscript (.Name x np) b p] e X.env=pure cO:=by rfl)
 (C:(zl [.Subscript (.Name x np) b p] X.env).map (·.2)=[uw (.Subscript (.Name x np) b p) X.env]:=by rfl) :
 md X (.Assign [.Subscript (.Name x np) b p] e pos) (JB i g f):=
 k8 (aw Z (pX (h.var c) hi W7 S) hs hw C) λD σ H P=>by obtain⟨E0,E,w,u,fl,t,I,y⟩:=P;obtain⟨d,G,I⟩:=ze I;obtain⟨F,Q,I⟩:=ze I;obtain⟨R,n,I⟩:=ze I;obtain⟨B,J,n⟩:=ze n;obtain⟨j,K,I⟩:=zE I;subst I;have Q:=yZ Q;refine⟨w,u,d,t.rc,G,λv T l x r=>?_⟩;have m:=t.step x;obtain⟨a,xs,C,h2,M,o⟩:=m.rc.own i F Q;refine⟨_,C,l,u,B,m.rc,J,λv2 W z U s=>?_⟩;rw[jS n]at s;have A:=m.step U;refine⟨a,xs,R,j,rfl,jz s,U.s1 _ _ M,by rw[o.length];exact aP K,?_⟩;exact y _ _ z<|A.rewrite (xs:=xs) Q C<|(o.mono U.s0).set j (r.mono U.s0)
theorem mW(Q:PG X tg (ri X.K T))(U:PV X e f)(hs:N2 [tg] e pos.line X.env=pure cR:=by rfl)(J:TJ [tg] e X.env=pure cO:=by rfl)
 (C:(zl [tg] X.env).map (·.2)=[uw tg X.env]:=by rfl):md X (.Assign [tg] e pos) (eQ T f):=
 k8 (aw U Q hs J C) λD o H Y=>by obtain⟨E0,E,h,l,n,O,I,i⟩:=Y;obtain⟨d,j,I⟩:=ze I;obtain⟨m,k,I⟩:=zE I;subst I;refine⟨h,l,d,O.rc,j,λv g a x r=>?_⟩;exact wV x.sub r k λb _ a3=>i b g a<|a3 E0 E<|O.step x
end
structure gR(P:il)(w:hG)(K:LM)(mg:UZ)(base:fy)(k:Nat)(x:Str)(n:Nat)(F:List D->Option Res):Prop where
 ex : ∃(f:dn) (fd:q5) (ps:List Str),ps.length=n/\qs P w K mg base rp k f fd ps (sm K ps.length F)/\mg x=cq (.ref f)/\Ro K (.ref f)=cM/\Binds K fd ps []
structure hB(K:LM)(mg:UZ)(x:Str)(st:kA)(ps:List Str):Prop where
 ex : ∃(f:dn) (fd:q5),L2.Dv K x x st f fd/\(∀us:List dy,us.length=ps.length->Uc fd ⟨us,[]⟩=pure (ps.zip us))/\mg x=cq (.ref f)
noncomputable def Df(X:Cx)(es:List eh)(n:Nat)(g:CO (List D)):Prop:=B1 X es g/\∀b a,g b=cq a->a.length=n
section
variable{X:Cx}{sc:hL}{N L:List Str}{k:Nat}{e:eh}{es:List eh}{f:CO D}{g:CO (List D)}{n:Nat}{pos p:g5}{x:Str}
theorem zm:Df X [] 0 zD:=⟨ud,λb a h=>by cases h;rfl⟩
theorem za(C:PV X e f)(I:Df X es n g)(hs:fA (e::es) X.env=(cR,el e X.env)::fA es X.env:=by rfl):Df X (e::es) (n+1) (zb f g):=
 ⟨nF C I.1 hs,λa b h=>by obtain⟨y,d,h⟩:=ze h;obtain⟨r,O,h⟩:=zE h;subst h;rw[Mo,I.2 a r O]⟩
variable{j:Nat}{F:List D->Option Res}
theorem Ga(I:gR X.prog X.w X.K X.mg X.base j x n F)(O:j<=k)(h:SX X sc N L k)(c:vZ sc x=cM)(C:Df X (e::es) n g)
 (Q:fA (e::es) X.env=(cR,el e X.env)::fA es X.env:=by rfl) (U:(r6 pos<|starEach es X.env).any (·.1)=cR:=by rfl):PV X (.Call (.Name x p) (e::es) [] pos) (zA F g):=by
 obtain⟨i,l,m,Y,G,f,d,b⟩:=I.ex;subst Y;exact tq (A0:=[]) G C.1 C.2 λ{t} a=>gi G (h.room.mono O) (h.gl c).1 f d b .nil Cf a (h.gl c).2.2 Q U
theorem Gd(I:gR X.prog X.w X.K X.mg X.base j x n F)(O:j<=k)(h:SX X sc N L k)(c:vZ sc x=cM)(C:Df X (e::es) n g)
 (Q:fA (e::es) X.env=(cR,el e X.env)::fA es X.env:=by rfl) (U:(r6 pos<|starEach es X.env).any (·.1)=cR:=by rfl):PO X (.Call (.Name x p) (e::es) [] pos) (jH F g):=by
 obtain⟨i,l,m,Y,G,f,d,b⟩:=I.ex;subst Y;exact tU G C.1 C.2 λ{t} a=>gi G (h.room.mono O) (h.gl c).1 f d b .nil Cf a (h.gl c).2.2 Q U
end
section
variable{P:il}{w:hG}{K:LM}{mg:UZ}{base:fy}
noncomputable def oR(N ps:List Str)(st:kA):Bool:=
 decide ((jN st).kind = .function) && decide ((jN st).isCoroutine=cR) && decide ((jN st).isGenerator=cR) && decide N.Nodup && decide (N.take ps.length=ps) &&
 ps.all (λx=>decide ((jN st).names.lookup x=cq .local) || decide ((jN st).names.lookup x=cq .cell)) && (jN st).names.all (λy=> !(y.2==ML))
theorem W9{N ps:List Str}{st:kA}(h:oR N ps st=cM):D5 N ps (jN st):=by unfold oR at h;simp only[Mi,decide_eq_true_eq,ND,NC,Oe]at h;obtain⟨⟨⟨⟨⟨⟨a,b⟩,I⟩,O⟩,Q⟩,U⟩,Y⟩:=h;exact⟨a,b,I,O,Q,U,λy d e=>by have:=Y y d;rw[e]at this;exact absurd this ⋯⟩
theorem gj{X:Cx}(hx:X.xe=λ_ _=>False):O7 (eg X.prog X.w) X.A X.env X.xe:=by rw[hx];exact PassesOwn.never
theorem xE{x:Str}{st:kA}{N ps:List Str}{k:Nat}{F:CO Fl}(A:hB K mg x st ps)(C:oR N ps st=cM)
 (O : ∀X:Cx,X.prog=P->X.w=w->X.K=K->X.mg=mg->X.base=base->SX X (jN st) N N k->X.xe=(λ_ _=>False)->lH X (yz st) F) :
 gR P w K mg base (k+1) x ps.length (jo N.length F):=by
 obtain⟨f,d,I,Q,U⟩:=A.ex;have S:=W9 C;refine⟨f,d,ps,rfl,CY I S λb A a s H E Y=>?_,U,I.kp,.all Q⟩;exact O _ rfl rfl rfl rfl rfl ⟨rfl,rfl,S.nd,rfl,Y,λ_ _=> .inl rfl⟩ rfl
theorem HY{h:fy}{x:Str}{st:kA}{ps:List Str}{f:dn}{Z:dy}{od L:Option dn}{S:Array (Option dy)}{kV J O C ct:dy}(I:K.In h)(G:h.Ns vr mg)
 (a:PySem.W.nsIn K vr x=cq (cq (.ref f))) (l:K.lookup f=cq ⟨Z,od,.func<|PH x x (QD st) (yz st) (jN st) .none kV J O L C ct,S⟩)
 (c:RZ K C x=cM) (Y:Ro K (.ref f)=cM)
 (b : ∀(kV J O:dy) (L:Option dn) (C ct:dy) (us:List dy),us.length=ps.length->Uc (PH x x (QD st) (yz st) (jN st) .none kV J O L C ct) ⟨us,[]⟩=pure (ps.zip us)):hB K mg x st ps:=
 ⟨f,_,CV l c Y,b kV J O L C ct,PySem.W.mg_of I G a⟩
theorem GJ{x:Str}{st:kA}{f:dn}{C:q5}{N ps:List Str}{k:Nat}{F:CO Fl}(I:L2.Dv K x x st f C)(J:oR N ps st=cM)
 (O : ∀X:Cx,X.prog=P->X.w=w->X.K=K->X.mg=mg->X.base=base->SX X (jN st) N N k->X.xe=(λ_ _=>False)->lH X (yz st) F) :
 qs P w K mg base rp (k+1) f C ps (sm K ps.length<|jo N.length F):=by
 have S:=W9 J;exact CY I S λb A a s H E Q=>O _ rfl rfl rfl rfl rfl ⟨rfl,rfl,S.nd,rfl,Q,λ_ _=> .inl rfl⟩ rfl
theorem Fk{F:List D->Option Res}{H:Hp}{a:dn}{C:List Int}(I:gB K H a (C.map V.int))(O:F [.lst (C.map D.int)]=cq (.val<|.bl cM)) :
 sm K 1 F [.ref a] H (λv _=>v = .bl cM) λ_ _ _=>False:=by
 refine⟨H,[.lst (C.map D.int)],.val<|.bl cM,g9.refl _,d9.cons (JG I ?_) d9.nil,rfl,O,λv d b _ r=>r⟩;clear O I
 induction C with
 | nil=>exact d9.nil
 | cons n C Q=>exact d9.cons rfl Q
end
end DL
namespace DL
open PySem PySem.Spec PyProof.Rows L2
open PySem.W (KasT kas_sort kas_ask kat_run kat_snds kat_lt kat_cons kat_no kat_kind KatTups KatGo)
noncomputable def EB(h:fy)(v:dy)(k:Int):Prop:=∃x o a m t,v = .ref x/\h.get? x=cq o/\o.cls = .type "tuple"/\o.data = .seq a m/\a[0]? = cq (.int k t)
theorem gY : ∀{vs:List dy} {ks:Nat->Int},(∀i (C:i<vs.length),EB h vs[i] (ks i))->∃fs,KatTups h vs fs/\fs.length=vs.length/\∀f∈fs,∃k t,f=Value.int k t
 | [],ks,_=>⟨[],KatTups.nil,rfl,λf I=>by cases I⟩
 | v::vs,ks,H=>by
  obtain⟨fs,d,e,O⟩:=gY (vs:=vs) (ks:=λi=>ks<|i+1) λi C=>H (i+1) (by simpa using C);obtain⟨x,o,g,m,t,a,Q,U,Y,b⟩:=H 0 ⋯;have a:v = .ref x:=a;subst a;exact⟨.int (ks 0) t::fs,KatTups.cons Q U Y b d,by simp[e],λf I=>by
   rcases Mc.mp I with rfl | I
   ·exact⟨_,_,rfl⟩
   ·exact O f I⟩
end DL
namespace DL
open PySem PySem.Spec PyProof.Rows L2
open AutoSeq1 (wpAny_loadPart')
theorem ZL:fillsNumberSlot (.type "tuple") "mul" = pure cR:=
 PySem.fillsNumberSlot_seq (id:="tuple.__mul__") (r:=cq (.builtin "tuple.__rmul__")) Rh.lookup ⋯ F.slot_tuple_rmul.lookup ⋯
theorem YB:seqRepeat? (.type "tuple")=pure (cq (.builtin "tuple.__mul__")):=by unfold seqRepeat?;rw[PySem.seqSlot_of (T:="tuple") (name:="__mul__") (id:="tuple.__mul__") Rh.lookup ⋯,PySem.seqSlot_of (T:="tuple") (name:="__rmul__") (id:="tuple.__rmul__") F.slot_tuple_rmul.lookup ⋯];rfl
theorem Xd(a:Int)(t:q7)(l:dn)(items:Array dy)(n:Nat)(I:Option dn)(C:Array (Option dy)) :
 D7 (l6.«int.__rmul__» ⟨[.int a t,.ref l],[]⟩) (λ_ R s=>s.heap.get? l=cq {cls:= .type "tuple",dict:=I,data:= .seq items n,slots:=C}/\R (.ok (.ret Value.notImplemented)) s):=
 .of_wp λb w A R s h=>by obtain⟨O,g,d,e,os⟩:=s;obtain⟨Q,h⟩:=h;wp_walk;exact⟨_,rfl,h⟩
theorem X3(a:Int)(t:q7)(l:dn)(items:Array dy)(n:Nat)(O:Option dn)(L:Array (Option dy))(C : ¬(decide (a < -(2 ^ 63)) || decide (a>=2 ^ 63))=cM)(J : ¬(items.isEmpty || a==1)=cM)
 (Q : ¬(decide (a<=0) || items.isEmpty)=cM) (U : ¬((items.size:Int)*a>(2 ^ 63 - 1)/8)) (Y : ¬Builtin.Tuple.tupleTooMany ((items.size:Int)*a)=cM) (hz:((LQ a.toNat items).foldl (· ++ ·) #[]).size<=fe) :
 D7 (l6.«tuple.__mul__» ⟨[.ref l,.int a t],[]⟩) (λ_ R s=>s.heap.get? l=cq {cls:= .type "tuple",dict:=O,data:= .seq items n,slots:=L}/\
  R (.ok (.ret (.ref s.heap.objs.size))) {s with heap:=s.heap.push {cls:= .type "tuple",data:= .seq ((LQ a.toNat items).foldl (· ++ ·) #[])}}):=
 .of_wp λb w A R s h=>by
  obtain⟨e,g,d,f,os⟩:=s;obtain⟨I,h⟩:=h
  wp_walk using Oj I
  rw[UY C];refine LK<|Sf (s:=⟨e,g,d,f,os⟩) ⟨_,I,rfl,n,rfl⟩ ?_;dsimp only;rw[UY J,UY Q,UY U,UY Y];refine LK (m:=Nu _)<|MZ ?_ hz;exact LU ⟨_,rfl,h⟩
theorem QU(a:Int)(t:q7)(l:dn)(items:Array dy)(n:Nat)(O:Option dn)(L:Array (Option dy))(C : ¬(decide (a < -(2 ^ 63)) || decide (a>=2 ^ 63))=cM)(J : ¬(items.isEmpty || a==1)=cM)
 (Q:(decide (a<=0) || items.isEmpty)=cM) :
 D7 (l6.«tuple.__mul__» ⟨[.ref l,.int a t],[]⟩) (λ_ R s=>s.heap.get? l=cq {cls:= .type "tuple",dict:=O,data:= .seq items n,slots:=L}/\
  R (.ok (.ret (.ref s.heap.objs.size))) {s with heap:=s.heap.push {cls:= .type "tuple",data:= .seq #[]}}):=
 .of_wp λb w A R s h=>by
  obtain⟨U,g,d,e,os⟩:=s;obtain⟨I,h⟩:=h
  wp_walk using Oj I
  rw[UY C];refine LK<|Sf (s:=⟨U,g,d,e,os⟩) ⟨_,I,rfl,n,rfl⟩ ?_;dsimp only;rw[UY J,UJ Q];refine LK (m:=Nu _)<|MZ ?_ (MR _);exact LU ⟨_,rfl,h⟩
theorem QT(a:Int)(t:q7)(l:dn)(items:Array dy)(n:Nat)(O:Option dn)(L:Array (Option dy))(C : ¬(decide (a < -(2 ^ 63)) || decide (a>=2 ^ 63))=cM)(J:(items.isEmpty || a==1)=cM) :
 D7 (l6.«tuple.__mul__» ⟨[.ref l,.int a t],[]⟩) (λ_ R s=>s.heap.get? l=cq {cls:= .type "tuple",dict:=O,data:= .seq items n,slots:=L}/\R (.ok (.ret (.ref l))) s):=
 .of_wp λb w A R s h=>by
  obtain⟨Q,g,d,e,os⟩:=s;obtain⟨I,h⟩:=h
  wp_walk using Oj I
  rw[UY C];refine LK (Sf (s:=⟨Q,g,d,e,os⟩) ⟨_,I,rfl,n,rfl⟩ ?_);dsimp only;rw[UJ J];refine LK (m:=ON _) ?_;unfold ON;refine LK (Pf (T:="tuple") ⟨_,I,rfl⟩ (LU ?_));rw[UJ ⋯];exact LK (OT (LU ⟨_,rfl,h⟩))
section
variable{X:Cx}
noncomputable def Bu(K:LM):R2:=λx y H Q=>∃l k a,x = .ref l/\y = .int k/\gu K H l a/\ -(2 ^ 62)<=k/\k<2 ^ 62/\a.length*k.toNat<=fe/\(a=[]\/k=1->Q (.ref l) H)/\
 ∀p,H p=cO->Q (.ref p) (upd H p<|.tup (LQ k.toNat a).flatten)
theorem ue:i8 X (uM .Mult) (Bu X.K):=by
 intro E s σ H x y v u Q I Z ry h;obtain⟨l,k,J,rfl,rfl,P,h1,h2,C,W,G⟩:=h;cases Z;obtain⟨t,rfl⟩:=ry;obtain⟨a,r,R,z1⟩:=I.tuple P;obtain⟨⟨N,b,p,d⟩,O,z,n,A⟩:=id R;simp only at z A;subst z A;have L:=r.length;have g1 : ¬(decide (k < -(2 ^ 63)) || decide (k>=2 ^ 63))=cM:=by simp;omega
 refine S' (T:="tuple") (U:="int") ⋯ ⟨_,O,rfl⟩ (λs'=>SU s' k t) ZL F.fills_int_mul Sl YB F.slot_int_index.lookup
  (Dg Sl (SU s k t) F.entry_int_rmul (F.args_int_rmul_2 _ _) (Xd k t l a.toArray n b d) ⟨O,rfl,⟨_,O,rfl⟩,?_⟩)
 have w : ∀m:Nat,SF (λx1 j=>x1++j) #[] (LQ m a.toArray)=(LQ m a).flatten.toArray:=λm=>by have:=J9 a m [];rw[Ox]at this;exact this
 by_cases g2:(a.toArray.isEmpty || k==1)=cM
 ·refine Dg Rh ⟨_,O,rfl⟩ SQ (SJ _ _) (QT k t l a.toArray n b d g1 g2) ⟨O,⟨.ref l,H,I,rfl,W ?_⟩⟩
  rw[NC]at g2;rcases g2 with g | g
  ·left
   have:a=[]:=by simpa using g
   exact(r.L8).mp this
  ·right;simpa using g
 ·have f:=g2
  simp only[NC,not_or]at f;have M:a ≠ []:=by intro e;exact f.1 (by rw[e];rfl)
  have b0:0<a.length:=List.length_pos_iff.mpr M;by_cases Y:(decide (k<=0) || a.toArray.isEmpty)=cM
  ·have B:k.toNat=0:=by
    rw[NC]at Y;rcases Y with g | g
    ·have:=of_decide_eq_true g;omega
    ·exact absurd g f.1
   refine Dg Rh ⟨_,O,rfl⟩ SQ (SJ _ _) (QU k t l a.toArray n b d g1 g2 Y) ⟨O,?_⟩;refine⟨.ref s.heap.objs.size,_,I.laid (t':=s.toks) (o:= .tup (LQ k.toNat J).flatten) (λc S q=>LN _ q) (LW _) ?_,rfl,G _<|I.f6.fresh<|LW _⟩;rw[B];exact⟨MR _,[],.nil,uf.new _ _⟩
  ·have B : ¬k<=0:=by intro g;exact Y (by rw[NC];exact .inl<|decide_eq_true g)
   have i:a.length*k.toNat<=fe:=by rw[<- L];exact C
   have b5:((a.toArray.size:Nat):Int)*k<=(fe:Int):=by
    rw[Mb];have e:((a.length*k.toNat:Nat):Int)=(a.length:Int)*k:=by rw[Int.natCast_mul,Pp ⋯]
    omega
   have b6:fe=16777216:=Pg;have as:(SF (λx1 j=>x1++j) #[] (LQ k.toNat a.toArray)).size<=fe:=by rw[w,Mb,Wd,PZ];exact i
   refine Dg Rh ⟨_,O,rfl⟩ SQ (SJ _ _) (X3 k t l a.toArray n b d g1 g2 Y ⋯ (by unfold Builtin.Tuple.tupleTooMany;simp only[decide_eq_true_eq];omega) as) ⟨O,?_⟩;rw[w];refine⟨.ref s.heap.objs.size,_,I.laid (t':=s.toks) (o:= .tup (LQ k.toNat J).flatten) (λc S q=>LN _ q) (LW _) ?_,rfl,G _<|I.f6.fresh<|LW _⟩;exact⟨by rw[Wd,PZ];exact C,_,r.rep k.toNat,uf.new _ _⟩
theorem sJ{K:LM}:n9 K (λx y H Q=>rI DP (λi j=> .int (i*j)) x y H Q\/Bu K x y H Q) kX:=λh H x y l m d Q s U Y I q=>by
 cases l<;>cases m<;>simp[kX]at I
 ·obtain⟨n,O⟩:=I
  subst O;exact .inl ⟨_,_,jz U,jz Y,pd n,q _ H h (Ext.refl s) rfl⟩
 ·rename_i f j
  obtain⟨⟨r,o⟩,rfl⟩:=I;obtain⟨a,w,rfl,g,b⟩:=kW U;obtain⟨t,u⟩:=J4 o;refine .inr ⟨a,j,w,rfl,jz Y,mr s g,t,u,yv (by rw[b.length];exact r),λe=>?_,λp k=>?_⟩
  ·refine q _ H h (Ext.refl s) ?_
   rcases e with e | e
   ·have O:f=[]:=by
     have:=b.length;rw[e]at this;exact Ni this.symm
    subst O;rw[show(LQ j.toNat ([]:List D)).flatten=[]by simp];exact xp g b
   ·subst e
    rw[show(LQ (1:Int).toNat f).flatten=f by simp];exact xp g b
  ·exact q _ _ _ (Ext.alloc s k _)<|xp (gu.of zJ)<|(Ke b _).mono (jh (js s k) _)
theorem xq(C:PV X a fa)(I:PV X b fb):PV X (.BinOp a .Mult b pos) (zB kX fa fb):=Xq (I'.or ue) sJ C I
end
end DL
namespace DL
open PySem PySem.Spec PyProof.Rows L2
theorem RC.D'{K:LM}{H0 H:Hp}{L:St}{γ:Ctx}{i:Nat}{ds:List D}{a:dn}{xs:List V}(r:RC K H0 H L γ)(e:γ[i]? = cq (.own ds))(J:L[i]? = cq (cq (.ref a)))(C:H0 a=cO)(S:H a=cq (.lst xs))(Z:d9 K H0 ds xs):RC K (L2.upd H0 a<|.lst xs) H L (γ.set i<|.val<|.lst ds):=by
 refine⟨λb o q=>?_,by simp[r.len],λj d g=>?_,λj l g=>?_,λj k b l fs f I s t=>?_,⟨λj h g=>?_,λj k w x f I=>?_⟩⟩
 ·by_cases z:b=a
  ·subst z;rw[zJ]at q;rw[S];exact q
  ·rw[zG z]at q;exact r.sub b o q
 ·rcases zF g with⟨rfl,z,B⟩ | ⟨Q,z⟩
  ·cases z;exact⟨_,J,JG (gB.of zJ)<|Z.mono<|jh C _⟩
  ·obtain⟨v,U,g2⟩:=r.val j d z
   exact⟨v,U,g2.mono<|jh C _⟩
 ·rcases zF g with⟨_,z,_⟩ | ⟨Q,z⟩
  ·cases z
  ·obtain⟨b,y,U,g2,g3,u⟩:=r.own j l z
   refine⟨b,y,U,?_,g3,u.mono<|jh C _⟩;rw[zG (λq=>Q<|r.ne j i a l ds z e (by rw[U,q]) J)];exact g2
 ·rcases zF f with⟨_,z,_⟩ | ⟨Q,O⟩
  ·cases z
  ·rcases zF I with⟨_,z,_⟩ | ⟨A,Y⟩
   ·cases z
   ·exact r.ne j k b l fs O Y s t
 ·rcases zF g with⟨_,z,_⟩ | ⟨Q,z⟩
  ·cases z
  ·obtain⟨b,bs,f1,f2,n⟩:=r.n4.1 j h z
   have p:=n i ds a e J;refine⟨b,bs,f1,f2.move (jh C _) (λc m=>by rw[zG (λq=>p<|by rw[<- q];exact m)];exact(f2.at m).1)<|λc m=>rfl,λk fs c f I=>?_⟩;rcases zF f with⟨_,z,_⟩ | ⟨_,O⟩
   ·cases z
   ·exact n k fs c O I
 ·rcases zF f with⟨_,z,_⟩ | ⟨_,O⟩
  ·cases z
  ·rcases zF I with⟨_,z,_⟩ | ⟨_,Y⟩
   ·cases z
   ·exact r.n4.2 j k w x O Y
end DL
namespace L2
open PySem PySem.Spec PyProof.Rows
open AutoSeq1 (wpAny_loadPart')
section
variable{prog:il}{w:hG}{A:k0}{E:EQ}{s:ed}
theorem cU{z it l:dn}{n:Nat}{xs:Array dy}{x U:dy}{Q:EQ}(hz:t9 s.heap z it n U)(S:i7 .T s.heap it l n)(hl:lC .T s.heap l xs)(hx:xs[n]? = cq x)(C:z≠it)
 (Z : ∀g,O3 g z it ((n:Int)+1) x s.heap.objs.size->i7 .T g it l (n+1)->lp g s.heap.objs.size (.int n s.toks) x->g.objs.size=s.heap.objs.size+1->
   (∀c o,c≠z->c≠it->s.heap.get? c=cq o->g.get? c=cq o)->Q (.ref s.heap.objs.size) {s with heap:=g,toks:=s.toks+1}) :
 wpAny (eg prog w) A (l6.«enumerate.__next__» ⟨[.ref z],[]⟩) (λJ s'=>∃v,J = .done (.ret v)/\Q v s') E s:=by
 refine LK (m:=field (.ref z) 2) (MJ hz rfl (x:= .ref it) rfl ?_);refine LK (m:=Mq (.ref it)) (kG S hl hx λg1 H f=>?_);have h:t9 g1 z it n U:=f.extBut _ _ C hz;refine LK (m:=field (.ref z) 3) (MJ h rfl (x:=o8 n) rfl ?_);refine LK (m:=field (.ref z) 4) (MJ h rfl (x:= .none) rfl ?_);refine LK (m:=mkInt n) (wpAny_mkInt ?_);refine LK (m:=G4 (.ref z) 3 (o8 ((n:Int)+1))) (Ng h ⋯ λg2 l9 i=>?_);replace l9:t9 g2 z it ((n:Int)+1) U:=l9;refine LK (m:=G4 (.ref z) 4 .none) (Ng l9 ⋯ λY j k=>?_);replace j:t9 Y z it ((n:Int)+1) U:=j;refine LK (m:=Tc [.int n s.toks,x]) (RO ?_);have d:t9 (Y.push {cls:= .type "tuple",data:= .seq #[.int n s.toks,x]}) z it ((n:Int)+1) U:=LN _ j;generalize a3:Y.push {cls:= .type "tuple",data:= .seq #[.int n s.toks,x]}=O at d;have R:g1.objs.size=s.heap.objs.size:=f.1;have W:g2.objs.size=g1.objs.size:=i.1;have X:Y.objs.size=g2.objs.size:=k.1;have a:Y.objs.size=s.heap.objs.size:=by rw[X,W,R]
 have K:z<s.heap.objs.size:=Me hz;have L:lp O s.heap.objs.size (.int n s.toks) x:=by show O.get? _=_;rw[<- a3,<- a];exact Ma _ rfl
 have y4:O.objs.size=s.heap.objs.size+1:=by rw[<- a3,MO,a]
 have bi : ∀c o,c≠z->c≠it->s.heap.get? c=cq o->O.get? c=cq o:=λc o I u e=>by rw[<- a3];exact LN _<|k.extBut _ _ I<|i.extBut _ _ I<|f.extBut _ _ u e
 have bl:i7 .T O it l (n+1):=H.at λo e=>by rw[<- a3];exact LN _<|k.extBut _ _ C.symm<|i.extBut _ _ C.symm e
 refine LK (m:=Mz<|.ref z) ?_;unfold Mz;refine LK<|MJ d rfl (x:= .none) rfl<|LU ?_;simp only[if_true];refine LK<|OT<|LK<|MJ d rfl (x:=U) rfl ?_;refine LK<|Ng d ⋯ λy p as=>?_;replace p:t9 y z it ((n:Int)+1) x:=p;rw[a];refine LK (m:=NQ (.ref z)<|.ref s.heap.objs.size) ?_;unfold NQ;refine LK<|Ng p ⋯ λg6 r F=>?_;replace r:O3 g6 z it ((n:Int)+1) x s.heap.objs.size:=r;refine Ng r ⋯ λb t G=>?_;replace t:O3 b z it ((n:Int)+1) x s.heap.objs.size:=t;have B : ∀c o,c≠z->O.get? c=cq o->b.get? c=cq o:=λc o I e=>G.extBut _ _ I<|F.extBut _ _ I<|as.extBut _ _ I e;have y7:b.objs.size=s.heap.objs.size+1:=by have M:y.objs.size=O.objs.size:=as.1;have N:g6.objs.size=y.objs.size:=F.1;have P:b.objs.size=g6.objs.size:=G.1;rw[P,N,M,y4]
 exact LK<|Sd<|LU ⟨_,rfl,Z b t (bl.at λo e=>B _ o C.symm e) (B _ _ (NL K) L) y7 λc o I u e=>B c o I<|bi c o I u e⟩
theorem iA{z it l:dn}{n:Nat}{xs:Array dy}{I:dy}{Q:Fin->ed->Prop}(O:A.handled=cO)(hz:t9 s.heap z it n I)(C:i7 .T s.heap it l n)(U:lC .T s.heap l xs)(hx:xs[n]? = cO)
 (Y : ∀g e,Heap.ExtBut it s.heap g->(∃o,g.get? e=cq o/\o.cls = .type "StopIteration")->E (.ref e) {s with heap:=g}) :
 wpAny (eg prog w) A (l6.«enumerate.__next__» ⟨[.ref z],[]⟩) Q E s:=
 LK (m:=field (.ref z) 2) (MJ hz rfl (x:= .ref it) rfl<|LK (m:=Mq<|.ref it)<|wG O C U hx Y)
end
noncomputable def uV(i:dn):mu:={cls:= .type "enumerate",data:= .fields #[.none,.bool cR,.ref i,o8 0,.none,.none]}
noncomputable def QB(h:fy)(l:dn):fy:=MD (MD h<|je .T l)<|uV h.objs.size
theorem iz(l:dn)(xs:Array dy) :
 D7 (l6.«enumerate.__new__» ⟨[.type "enumerate",.ref l],[]⟩) (λ_ R s=>lC .T s.heap l xs/\R (.ok (.ret (.ref (s.heap.objs.size+1)))) {s with heap:=QB s.heap l}):=
 .of_wp λb w A R s h=>by
  obtain⟨U,g,d,f,os⟩:=s;obtain⟨Y,h⟩:=h;have i:=sub_enumerate;have I:Heap.IsTuple (Shared.heap ⟨U,g,d,f,os⟩) l xs:=Y;obtain⟨o,O,Q,m,a⟩:=id I;obtain⟨e,ml,j,k⟩:=o;simp only at Q a;subst Q a;simp only[QB,uV,je,MO]at h
  wp_walk using Oj O
  refine wpAny_stack_any λst=>LU ?_;split
  ·rename_i c _ _ _ _ _
   cases (c==OJ "enumerate")<;>(wp_walk using Oj O,RK I;exact⟨_,rfl,by simpa[MO,Rr]using h⟩)
  ·wp_walk using Oj O,RK I
   exact⟨_,rfl,by simpa[MO,Rr]using h⟩
noncomputable def O4(K:LM)(a:dn):It:=
 ⟨λi H=>∃b,kv .T K H a b/\i<b.length,
  λi H x d=>∃p u,x = .ref p/\H p=cO/\d=upd H p (.tup [.int i,u])/\(∀b,kv .T K H a b->b[i]? = cq u),
  λi H=>∃b,kv .T K H a b/\b.length<=i⟩
theorem yb(hz:t9 s.heap z it n old)(h:Q (.ref z) s):wpAny (eg prog w) A (F8 (.ref z)) Q E s:=by have I:s.TypeIs (.ref z) "enumerate":=⟨_,hz,rfl⟩;refine wpAny_pyIter_slot I F.slot_enumerate_iter (MS F.slot_enumerate_iter I F.entry_enumerate_iter ?_ (F.args_enumerate_iter_1 _));have O:wpAny (eg prog w) A.in1 (ret (.ref z)) (λO a=>∃v,O = .done (.ret v)/\∃T m,a.TypeIs v T/\C8 (.type T) "__next__" = pure (cq m)/\Q v a) E s:=LU ⟨_,rfl,"enumerate",_,I,Pe.lookup,h⟩;exact O
theorem dN{P:il}{w:hG}{K:LM}{elts:List eh}{x1:Nat}{tw:g5}{z it a:dn}(am:z≠it) :
 Turn P w K (.Tuple elts x1 tw) (O4 K a) [z,it] z (λi h=>(∃U,t9 h z it i U)/\i7 .T h it a i) where
 mem:=by simp
 obj:=λi h ⟨⟨U,hz⟩,h1⟩ y hy=>by
  simp only[Mc,Mn,or_false]at hy;rcases hy with rfl | rfl
  ·exact⟨_,hz,λv q=>by cases q⟩
  ·exact h1.obj
 keep:=λi h h' ⟨⟨U,hz⟩,h1⟩ k=>⟨⟨U,k z ⋯ _ hz⟩,h1.at λo e=>k it ⋯ o e⟩
 item:=by
  rintro X hP hw hK hc i pins s σ H E I hf ⟨⟨U,hz⟩,h1⟩ ⟨xs,a6,ar⟩;subst hP hw hK;obtain⟨as,a9,p1,z1⟩:=I.sq a6;have hx:xs[i]? = cq xs[i]:=LP ar;obtain⟨u1,b0,b5⟩:=a9.get hx;have Y:s.TypeIs (.ref z) "enumerate":=⟨_,hz,rfl⟩;unfold rn;refine LK (NP (MK (name:=Mw "__next__") Y Pe (MS Pe Y F.entry_enumerate_next
   (cU hz h1 p1 (x:=u1) (by simpa using b0) am λg a1 a2 a3 a4 a5=>LU ⟨_,rfl,?_⟩) (F.args_enumerate_next_1 _))))
  refine U' a1 λg2 l9 ak=>?_;have lt : ∀{c o},s.heap.get? c=cq o->s.heap.objs.size≠c:=λe=>NL<|Me e;have bb:lp g2 s.heap.objs.size (.int i s.toks) u1:=ak.extBut _ _ (lt hz) a3;have kk : ∀Q u,Q ∉ [z,it]->s.heap.get? Q=cq u->g2.get? Q=cq u:=λQ u O e=>by simp only[Mc,Mn,or_false,not_or]at O;exact ak.extBut _ _ O.1<|a5 Q u O.1 O.2 e
  have I1:Inv X pins σ (upd H s.heap.objs.size<|.tup [.int i,xs[i]]) {s with heap:=g2,toks:=s.toks+1}:=
   I.TU (fp:=[z,it]) kk hf (LW _) ⟨by show 2<=fe;decide,[.int i s.toks,u1],.cons ⟨_,rfl⟩<|.cons b5 .nil,⟨_,bb,rfl,_,rfl⟩⟩
  have be:H s.heap.objs.size=cO:=I.fresh;refine⟨.ref s.heap.objs.size,_,I1,rfl,⟨_,_,rfl,be,rfl,λbx bf=>by rw[I.TC bf a6];exact hx⟩,?_,λQ O=>?_⟩
  ·exact⟨⟨_,by have:=l9;rwa [show((i:Int)+1)=((i+1:Nat):Int)by omega]at this⟩,a2.at λo e=>ak.extBut _ _ am.symm e⟩
  ·have bg:Q≠s.heap.objs.size:=by
    simp only[Mc,Mn,or_false]at O;rcases O with rfl | rfl
    ·exact(lt hz).symm
    ·obtain⟨o,e,_⟩:=h1.obj;exact(lt e).symm
   rw[zG bg];exact(hf Q O).1
 done:=by
  rintro X hP hw hK hc i pins s σ H E I hf ⟨⟨U,hz⟩,h1⟩ ⟨xs,a6,hi⟩;subst hP hw hK;obtain⟨as,a9,p1,z1⟩:=I.sq a6;have Y:s.TypeIs (.ref z) "enumerate":=⟨_,hz,rfl⟩;have l1:=a9.length;unfold rn;refine LK (NP (MK (name:=Mw "__next__") Y Pe (MS Pe Y F.entry_enumerate_next
   (iA (show X.A.handled=cO from I.ok.hd hc) hz h1 p1 (by simp;omega) λg e hk he=>?_) (F.args_enumerate_next_1 _))))
  obtain⟨o,ho,bn⟩:=he;refine LK (OR (T:="StopIteration") (b:=cM) ⟨o,ho,bn⟩ RP (LU ⟨rfl,?_⟩));refine I.wo (t':=s.toks) (fp:=[z,it]) (λQ u O e=>?_) hf;simp only[Mc,Mn,or_false,not_or]at O;exact hk Q u O.2 e
 self:=λ_ _ _ _ _ st h=>yb st.1.choose_spec h
noncomputable def GF(K:LM)(C:TA):TI:=λf H R=>C f H λd b=>∃a,d=[.ref a]/\(∃e,kv .T K b a e)/\R (O4 K a) b
theorem tY{X:Cx}{L:eh}{S:TA}{p pos:g5}{C:List eh}{x1:Nat}{J:g5}(hg:Gl X "enumerate")(hm:X.mg "enumerate" = cO)(Z:PA X [L] S)
 (hv:Di "enumerate" = cq (.type "enumerate")) (hs:fA [L] X.env=[(cR,el L X.env)]:=by rfl) :
 PI X (.Tuple C x1 J) (.Call (.Name "enumerate" p) [L] [] pos) (GF X.K S):=by
 intro d s i H R I h;refine Dc<|kI I hg hm hv<|MC (e9 (Z pos d s i H _ I h) λz b r=>?_) (by rw[hs];rfl) rfl;obtain⟨A,f,O,u,t⟩:=r;obtain⟨a,e,⟨E,k⟩,q⟩:=t;subst e;obtain⟨B,n,l⟩:=yh u;subst n;cases l;obtain⟨m,x,U,G⟩:=O.sq k;have y:=U.lt;refine Ug F.called_enumerate ⋯ (F.typeCall_enumerate_1 _) (F.newCall_enumerate_1 _) (λobj=>Sv obj _) F.entry_enumerate_new (iz a m.toArray) ⟨U,?_⟩;have keep : ∀c o,b.heap.get? c=cq o->(QB b.heap a).get? c=cq o:=λc o e=>LN _<|LN _ e;have w:(MD b.heap<|je .T a).objs.size=b.heap.objs.size+1:=MO ..;have g0:i7 .T (QB b.heap a) b.heap.objs.size a 0:=(JZ .T b.heap a).at λo e=>LN _ e;have Q:t9 (QB b.heap a) (b.heap.objs.size+1) b.heap.objs.size 0 .none:=by have q:=Ma (MD b.heap<|je .T a) (o:=uV b.heap.objs.size) rfl;rw[w]at q;exact q
 refine⟨⟨_,Q,rfl⟩,yb (s:={b with heap:=QB b.heap a}) Q ?_⟩;have j:Inv X d i f {b with heap:=QB b.heap a,toks:=b.toks}:=O.kept keep;refine⟨_,[b.heap.objs.size+1,b.heap.objs.size],_,_,f,rfl,j,dN<|NL<|NO _,⟨⟨_,Q⟩,g0⟩,λc Y=>?_,q⟩;have g:b.heap.objs.size<=c:=by
  simp only[Mc,Mn,or_false]at Y;rcases Y with rfl | rfl
  ·exact MI _ _
  ·exact LW _
 exact O.uO g<|O.f6.fresh g
end L2
namespace DL
open PySem PySem.Spec PyProof.Rows L2
theorem Y5{K:LM}{H:Hp} : ∀{ds:List D} {xs:List V} {l:List Int},d9 K H ds xs->Kz ds=cq l->xs=l.map V.int
 | [],xs,l,r,e=>by cases e;rw[show xs=[]from r];rfl
 | d::ds,xs,l,r,e=>by
  obtain⟨x,g,rfl,I,b⟩:=(show ∃x r,xs=x::r/\Rep K H d x/\d9 K H ds r from r);cases d with
  | int i=>
   obtain⟨f,a,rfl⟩:=zE (show(Kz ds).map (λl=>i::l)=cq l from e);rw[Y5 b a,show x = .int i from I];rfl
  | _=>cases e
theorem Vg : ∀l:List Int,(l.map V.int).all KC=cM
 | []=>rfl
 | i::l=>by simp only[Mu,RM,Vg l,RN];rfl
theorem hV(i:Int) : ∀l:List Int,L4 (.int i) (l.map V.int)=decide (i∈l)
 | []=>rfl
 | j::l=>by
  have I:=hV i l;unfold L4 at I ⊢;rw[Mu,RL,I];have e:B8 (.int j) (.int i)=(j==i):=rfl;rw[e];by_cases h:i=j
  ·subst h
   rw[beq_self_eq_true,Bool.true_or];exact(decide_eq_true Mh).symm
  ·rw[beq_false_of_ne (My h),Bool.false_or]
   exact decide_eq_decide.mpr ⟨λq=>Mg _ q,λq=>(Mc.mp q).resolve_left h⟩
theorem dz{K:LM}{H0 C:Hp}{a:dn}{xs:List V}{ds:List D}(h:gu K C a xs)(r:d9 K H0 ds xs):Walk K H0 C (O4 K a) (qv ds):=by
 have n:=r.length;have o:(qv ds).length=ds.length:=by simp[qv]
 refine⟨λi b s l=>?_,λb s=>?_,λi b x g s l y=>?_⟩
 ·exact⟨xs,mr s h,by omega⟩
 ·exact⟨xs,mr s h,by omega⟩
 ·obtain⟨p,u,j,I,O,Q⟩:=y
  obtain⟨d,k,U⟩:=r.Dm<|Q xs<|mr s h;refine⟨.tup [.int i,d],?_,λf m e=>⟨upd f p<|.tup [.int i,u],?_,?_⟩⟩
  ·have Y:i<ds.length:=by omega
   unfold qv;rw[MV,Rj Y,Mf,k];rfl
  ·rw[O];exact Ext.alloc e I _
  ·rw[j]
   exact xp (gu.of zJ)<|d9.cons (show V.int i = .int i from rfl)<|d9.cons ((U.mono m).mono (jh (js e I) _)) d9.nil
section
variable{X:Cx}{sc:hL}{N L:List Str}{k:Nat}{a b c:eh}{pos p:g5}{f fa fb fc:CO D}
theorem YI(h:SX X sc N L k)(c:vZ sc "enumerate" = cM)(z:X.mg "enumerate" = cO)(C:PV X a f)(hs:fA [a] X.env=[(cR,el a X.env)]:=by rfl) :
 i0 X (.Tuple elts x1 tw) (.Call (.Name "enumerate" p) [a] [] pos) (Yt f):=
 QW (tY (h.gl c).1 z (jA C qG hs) Ud hs) λn H R Q=>by
  obtain⟨g,j,l,rc,I,q⟩:=Q;obtain⟨d,U,I⟩:=ze I;cases d with
  | tup m=>
   cases I;refine⟨g,j,_,rc,U,λv e b x r=>?_⟩;obtain⟨Y,i,rfl,O,g2⟩:=kW r;exact⟨Y,rfl,⟨i,mr x.sub O⟩,q _ e b x<|dz O g2⟩
  | _=>cases I
theorem mP(ho:i8 X (o4 op) r)(C:i8 X (o4 F5) r')(s1:n9 X.K r F)(s2:n9 X.K r' G)(S:PV X a fa)(Z:PV X b fb)(hc:PV X c fc)
 (hm:S4 [op,F5] [b,c]=cR:=by with_unfolding_all rfl):PV X (.Compare a [op,F5] [b,c] pos) (kZ F G fa fb fc):=
 qC (nC ho C S Z hc hm) λσ H Q M=>by
  obtain⟨j,e,d,rc,I,q⟩:=M;obtain⟨x,w,I⟩:=ze I;obtain⟨y,A,I⟩:=ze I;obtain⟨k,B,I⟩:=ze I;obtain⟨Y,E,g⟩:=ze B;refine⟨j,e,x,rc,w,λW H1 p x1 N=>⟨p,e,y,rc.ext x1,A,λi l s O h=>s1 s l W i x y Y _ O.sub (N.mono O.s0) h E λv3 m f x3 P=>?_⟩⟩;cases Y with
  | bl k'=>
   cases g;refine⟨k,show v3 = .bl k from P,?_⟩;cases k with
   | true=>
    rw[UJ rfl];rw[UJ rfl]at I;obtain⟨z,J,L⟩:=ze I;exact⟨f,e,z,((rc.ext x1).ext O).ext x3,J,λv4 n t U R=>s2 t n i v4 y z d _ U.sub ((h.mono x3.s0).mono U.s0) R L λv5 o u x5 T=>q v5 o u (((x1.trans O).trans x3).trans (U.trans x5)) T⟩
   | false=>
    rw[UY ⋯];rw[UY ⋯]at I;cases I;exact q _ m f ((x1.trans O).trans x3) rfl
  | _=>cases g
end
theorem wb : ∀{l:List Int} {us:List dy},eK (l.map V.int) us->∀i,i<us.toArray.size->∃z u,us.toArray[i]? = cq (.int z u)/\l[i]? = cq z
 | [],us,r,i,hi=>by cases r;exact absurd hi<|MH _
 | z::l,u::us,.cons r t,i,hi=>by
  cases i with
  | zero=>
   obtain⟨b,rfl⟩:=r;exact⟨z,b,by simp,by simp⟩
  | succ i=>
   obtain⟨I,O,a,Q⟩:=wb t i (by simpa using hi);exact⟨I,O,by simpa using a,by simpa using Q⟩
theorem wU(h:Je o=cq rows):o=cq (.nest rows):=by
 cases o with
 | none=>cases h
 | some c=>cases c<;>first | cases h;rfl | cases h
noncomputable def tN(K:LM)(f:CO (List<|List D)):TE:=λj H Q=>∃h i d,RC K h H j i/\f i=cq d/\
 ∀a bs g e,Ext h H e g->(∀b∈a::bs,H b=cO)->u5 K e g d a bs->Q (.ref a) g
noncomputable def uh(K:LM)(H0 H:Hp)(C:List (List D))(bs:List dn):Prop:=bs.length=C.length/\∀(k:Nat) b row,bs[k]? = cq b->C[k]? = cq row->H0 b=cO/\∃a,H b=cq (.lst a)/\d9 K H0 row a
theorem uh.at{K:LM}{H0 H:Hp}{C:List (List D)}{bs:List dn}(n:uh K H0 H C bs){b:dn}(Q:b∈bs):H0 b=cO/\∃xs,H b=cq (.lst xs):=by obtain⟨k,I⟩:=Sj Q;have O:=(Mj.mp I).1;rw[n.1]at O;obtain⟨a,xs,d,_⟩:=n.2 k b _ I<|LP O;exact⟨a,xs,d⟩
theorem uh.ext{K:LM}{H0 H J H':Hp}{C:List (List D)}{bs:List dn}(n:uh K H0 H C bs)(e:Ext H0 H J H'):uh K J H' C bs:=
 ⟨n.1,λk b row a d=>by obtain⟨I,f,g2,O⟩:=n.2 k b row a d;exact⟨e.new b I (by rw[g2];simp),f,e.s1 _ _ g2,O.mono e.s0⟩⟩
theorem uh.add{K:LM}{H0 H:Hp}{C:List (List D)}{bs:List dn}{b:dn}{row:List D}{xs:List V}(n:uh K H0 H C bs)(J:H0 b=cO)(L:H b=cq (.lst xs))(Q:d9 K H0 row xs):uh K H0 H (C++[row]) (bs++[b]):=
 ⟨by simp[n.1],λk c r a I=>by
  rcases Mt k bs.length with z | z
  ·rw[Nk z]at a
   rw[Nk (by rw[<- n.1];exact z)]at I;exact n.2 k c r a I
  ·rw[MX z]at a
   rw[MX (by rw[<- n.1];exact z)]at I;have O:k - bs.length=0:=by have:=(Mj.mp a).1;simp at this;omega
   rw[O]at a;rw[<- n.1,O]at I;cases a;cases I;exact⟨J,xs,L,Q⟩⟩
theorem uh.hide{K:LM}{H0 H:Hp}{C:List (List D)}{bs:List dn}{I:dn}{o:HO}(n:uh K H0 H C bs)(h:I∉bs):uh K H0 (upd H I o) C bs:=
 ⟨n.1,λk b row a d=>by obtain⟨O,e,g2,Q⟩:=n.2 k b row a d;exact⟨O,e,by rw[zG (λq=>h<|by rw[<- q];exact Na a)];exact g2,Q⟩⟩
section
variable{K:LM}{own:List Str}{fr:List (Str×Nat)}{src:CO (List D)}{T:Tg}{f:CO (List D)}
theorem da(hT : ∀i∈T.idx,i<own.length){tt:TT}(c6 : ∀C H Q,tT K jd C H Q->tt C H Q) : ∀C H Q,tN K (af src T own.length (fr.map (·.2)) f) C H Q->eB (TK K src) own fr (ri K T) tt (tO K f) C H Q:=λC H Q hZ=>by
 obtain⟨H0,u,n,rc,s,q⟩:=hZ;obtain⟨a,e1,s⟩:=ze s;by_cases hl:a.length<=lim
 ·rw[UJ hl]at s
  refine⟨H0,u,a,rc,e1,λJ A an x1 wk D P=>?_⟩;have ar : ∀(i:Nat) E,(z5 own.length (fr.map (·.2)) u)[i]? ≠ cq (.own E):=λi E h=>by rcases qS h with z | ⟨d',j,z,_⟩<;>cases z
  have as : ∀(i:Nat) E,(z5 own.length (fr.map (·.2)) u)[i]? ≠ cq (.nest E):=λi E h=>by rcases qS h with z | ⟨d',j,z,_⟩<;>cases z
  have b8:an D=cO:=js x1.sub P;have b9 : ∀c,A c=cO->H c=cO:=λc R=>by
   cases z:H c with
   | none=>rfl
   | some o=>rw[x1.s1 c o z]at R;cases R
  refine⟨λi m Z G l=>m=a.length - i/\i<=a.length/\Z.length<=i/\l D=cq (.lst Z)/\∃g bs W r2,Z=bs.map V.ref/\RC K g l G (z5 own.length (fr.map (·.2)) u)/\g D=cO/\Ext an A g l/\uh K g l W bs/\(D::bs).Nodup/\(∀b∈bs,A b=cO)/\vU T f (z5 own.length (fr.map (·.2)) u) (a.drop i)=cq r2/\n=W++r2,
   ⟨_,rfl,MR _,LW _,zJ,an,[],[],n,rfl,((rc.ext x1).pull).upd b8 ar as,b8,Ext.hide x1.sub P _,⟨rfl,λk b row h=>by simp at h⟩,by simp,λb U=>by simp at U,s,rfl⟩,?_⟩
  rintro i m Z G l ⟨rfl,hi,hy,M,g,bs,W,r2,c8,ax,bb,t,N,nd,bd,I,rfl⟩;subst c8;refine⟨M,?_⟩;by_cases B:i<a.length
  ·refine .inr ⟨wk.go i l t.s1 B,?_,λx b0 y=>?_⟩
   ·have:=yv<|LW lim;omega
   obtain⟨d,hd,hx⟩:=wk.A6 i l x b0 t.s1 B y;obtain⟨G0,O,rg⟩:=hx g t.s0 ax.sub;have ca:a.drop i=d::a.drop (i+1):=by
    have cb:d=a[i]:=by rw[LP B]at hd;exact(MN hd).symm
    rw[cb];exact NS B
   rw[ca]at I;simp only[vU]at I;obtain⟨p,eb,I⟩:=ze I;obtain⟨e,ee,I⟩:=ze I;obtain⟨k6,er,I⟩:=zE I;have ch:G0 D=cO:=O.new D bb (by rw[M];simp);have bf:b0 D=cq (.lst<|bs.map V.ref):=O.s1 _ _ M;obtain⟨bl,bg⟩:=Vr eb;have ci : ∀{L:St} {G2 H2:Hp},RC K G2 H2 L p->RC K G2 H2 L (z5 own.length (fr.map (·.2)) u):=λr=>r.weak bl.symm (λj d' hj=>by
    by_cases S:j∈T.idx
    ·rcases qS hj with z | ⟨d2,j2,_,hn,_⟩
     ·cases z
     ·exact absurd (hT j S) ⋯
    ·rw[bg j S];exact hj) ar as
   refine wV O.sub rg eb λOl bv _=>c6 Ol b0 _ ⟨G0,p,cM,bv<|ax.ext O,rfl,λH3 bx x3=>?_⟩;have c0:=(bv<|ax.ext O).ext x3;have xa:=t.trans<|O.trans x3;have cm:bx D=cO:=x3.new D ch (by rw[bf];simp);have b5:H3 D=cq (.lst<|bs.map V.ref):=x3.s1 _ _ bf;dsimp only;rw[UJ rfl];refine⟨bx,p,e,c0,ee,λY d6 H4 c2 F g1 g2 g3 g4=>?_⟩;have b6:c2 D=cO:=F.new D cm (by rw[b5];simp);have cs:H4 D=cq (.lst<|bs.map V.ref):=F.s1 _ _ b5;have X:=xa.trans F;have ct:=((N.ext O).ext x3).ext F;have cv:=(N.ext O).ext x3;have c3:D∉bs:=(NA.mp nd).1;have c4:D≠Y:=λz=>by rw[<- z,b5]at g1;cases g1
   have cw:Y∉bs:=λS=>by obtain⟨_,d7,z⟩:=cv.at S;rw[g1]at z;cases z
   have cy:A Y=cO:=by
    cases z:A Y with
    | none=>rfl
    | some o=>rw[xa.s1 _ _ z]at g1;cases g1
   refine⟨cs,a.length - (i+1),by omega,rfl,B,by rw[Nf,NU];omega,zJ,c2,bs++[Y],W++[e],k6,by simp,(ci<|c0.ext F).upd b6 ar as,b6,?_,?_,?_,?_,er,?_⟩
   ·exact⟨X.s0,λc o z=>by rw[zG (λw=>by rw[w,P]at z;cases z)];exact X.s1 c o z,λc o z=>by rw[zG (λw=>by rw[w,b6]at z;cases z)];exact X.sub c o z,X.new⟩
   ·exact(ct.add g2 g3 g4).hide (by simp[c3,c4])
   ·refine NA.mpr ⟨by simp[c3,c4],List.nodup_append.mpr ⟨(NA.mp nd).2,by simp,λc R c' d0=>?_⟩⟩
    have:c'=Y:=by simpa using d0
    subst this;exact λz=>cw (by rw[<- z];exact R)
   ·intro b U
    rcases OV.mp U with z | z
    ·exact bd b z
    ·have:b=Y:=by simpa using z
     subst this;exact cy
   ·rw[<- I];simp
  ·have e:i=a.length:=by omega
   subst e;rw[Rc]at I;cases I;rw[OA]at q;refine .inl ⟨wk.stop l t.s1,q D bs l g (x1.trans t) (λb U=>?_) ⟨bb,M,nd,N.1,N.2⟩⟩;rcases Mc.mp U with rfl | U
   ·exact b9 _ P
   ·exact b9 b<|bd b U
 ·rw[UY hl]at s;cases s
end
section
variable{K:LM}{E0 E H0 H:Hp}{σ:St}{γ:Ctx}
theorem Jl(h:γ.any XD=cR)(i:Nat)(C:List (List D)):γ[i]? ≠ cq (.nest C):=λe=>by have I:Cell.nest C∈γ:=Na e;have:=List.any_eq_false.mp h _ I;exact this rfl
theorem RS.L_(r:RS K E0 E G0 G σ γ)(e:Ext G0 G H0 H)(C : ∀b∈a::bs,G b=cO)(n:u5 K H0 H rows a bs)(Y:γ.any XD=cR) :
 RS K E0 E H0 H (σ.set i<|some (.ref a)) (γ.set i<|.nest rows):=by
 have rc:=r.rc.ext e;have x : ∀b∈a::bs,E b=cO:=λb m=>by
  cases q:E b with
  | none=>rfl
  | some o=>have:=C b m;rw[r.ext.s1 b o q]at this;cases this
 refine⟨⟨rc.sub,by simp[rc.len],λj A g=>?_,λj d g=>?_,λj k b d fs l f u w=>?_,⟨λj h g=>?_,λj k J L I g2=>?_⟩⟩,r.ext.trans e,λj d b I g2=>?_,λj h b P I g2 O=>?_⟩
 ·rcases zF g with⟨_,z,_⟩ | ⟨Q,z⟩
  ·cases z
  ·obtain⟨M,I,g2⟩:=rc.val j A z
   exact⟨M,by rw[LV (My Q)];exact I,g2⟩
 ·rcases zF g with⟨_,z,_⟩ | ⟨Q,z⟩
  ·cases z
  ·obtain⟨b,y,I,g2⟩:=rc.own j d z
   exact⟨b,y,by rw[LV (My Q)];exact I,g2⟩
 ·rcases zF l with⟨_,z,_⟩ | ⟨Q,U⟩
  ·cases z
  ·rcases zF f with⟨_,z,_⟩ | ⟨p,t⟩
   ·cases z
   ·rw[LV (My Q)]at u
    rw[LV (My p)]at w;exact rc.ne j k b d fs U t u w
 ·rcases zF g with⟨rfl,z,s⟩ | ⟨Q,z⟩
  ·cases z
   refine⟨a,bs,Ms (by rw[rc.len];exact s),n,λk d c l f=>?_⟩;rcases zF l with⟨_,z,_⟩ | ⟨p,U⟩
   ·cases z
   ·rw[LV (My p)]at f
    obtain⟨N,y,I,g2,O,_⟩:=r.rc.own k d U;rw[f]at I;cases I;intro F;rw[C c F]at O;cases O
  ·exact absurd z<|Jl Y j h
 ·rcases zF I with⟨rfl,_,_⟩ | ⟨_,U⟩
  ·rcases zF g2 with⟨rfl,_,_⟩ | ⟨_,t⟩
   ·rfl
   ·exact absurd t<|Jl Y k L
  ·exact absurd U<|Jl Y j J
 ·rcases zF I with⟨_,z,_⟩ | ⟨Q,z⟩
  ·cases z
  ·rw[LV (My Q)]at g2;exact r.fresh j d b z g2
 ·rcases zF I with⟨rfl,z,s⟩ | ⟨Q,z⟩
  ·rw[Ms (by rw[rc.len];exact s)]at g2;cases g2
   rw[n.ha]at O;injection O with O;injection O with O;subst O;refine⟨x a Mh,λb m=>?_⟩;obtain⟨c,B,q⟩:=Mk.mp m;cases q;exact x b<|Mg _ B
  ·exact absurd z<|Jl Y j h
theorem RS.forget(r:RS K E0 E H0 H σ γ):RS K E0 E H0 H (σ.set i v) (γ.set i .no):=by
 have U : ∀{j:Nat} {e:List D} {b:dn},(γ.set i .no)[j]? = cq (.own e)->γ[j]? = cq (.own e)/\(σ.set i v)[j]? = σ[j]? :=λ{j e b} g=>by
  rcases zF g with⟨_,z,_⟩ | ⟨Y,z⟩
  ·cases z
  ·exact⟨z,LV<|My Y⟩
 have h : ∀{j:Nat} {d:List (List D)},(γ.set i .no)[j]? = cq (.nest d)->γ[j]? = cq (.nest d)/\(σ.set i v)[j]? = σ[j]? :=λ{j d} g=>by
  rcases zF g with⟨_,z,_⟩ | ⟨Y,z⟩
  ·cases z
  ·exact⟨z,LV<|My Y⟩
 refine⟨⟨r.rc.sub,by simp[r.rc.len],λj s g=>?_,λj e g=>?_,λj k b e fs l f o p=>?_,⟨λj d g=>?_,λj k x y Q g2=>r.rc.n4.2 j k x y (h Q).1 (h g2).1⟩⟩,r.ext,λj e b Q g2=>?_,λj d b B Q g2 g3=>?_⟩
 ·rcases zF g with⟨_,z,_⟩ | ⟨Y,z⟩
  ·cases z
  ·obtain⟨A,Q,g2⟩:=r.rc.val j s z
   exact⟨A,by rw[LV (My Y)];exact Q,g2⟩
 ·obtain⟨I,O⟩:=U (b:=0) g
  rw[O];exact r.rc.own j e I
 ·obtain⟨I,O⟩:=U (b:=0) l
  obtain⟨m,n⟩:=U (b:=0) f;rw[O]at o;rw[n]at p;exact r.rc.ne j k b e fs I m o p
 ·obtain⟨I,O⟩:=h g
  obtain⟨a,bs,t,u,w⟩:=r.rc.n4.1 j d I;refine⟨a,bs,by rw[O];exact t,u,λk e c l f=>?_⟩;obtain⟨m,n⟩:=U (b:=0) l;rw[n]at f;exact w k e c m f
 ·obtain⟨I,O⟩:=U (b:=0) Q
  rw[O]at g2;exact r.fresh j e b I g2
 ·obtain⟨I,O⟩:=h Q
  rw[O]at g2;exact r.uR j d b B I g2 g3
theorem YW : ∀{l:List dn} {m t:Nat} {b:dn},l.Nodup->l[m]? = cq b->l[t]? = cq b->m=t
 | [],m,t,b,_,h,_=>by simp at h
 | c::l,m,t,b,nd,h1,h2=>by
  obtain⟨a,O⟩:=NA.mp nd;cases m with
  | zero=>
   cases t with
   | zero=>rfl
   | succ t=>
    have e1:c=b:=by simpa using h1
    have I:l[t]? = cq b:=by simpa using h2
    exact absurd (Na I)<|e1 ▸ a
  | succ m=>
   cases t with
   | zero=>
    have e1:c=b:=by simpa using h2
    have I:l[m]? = cq b:=by simpa using h1
    exact absurd (Na I)<|e1 ▸ a
   | succ t=>exact congrArg (· + 1) (YW (b:=b) O (by simpa using h1)<|by simpa using h2)
theorem RC.row{j i t:Nat}{R:List (List D)}{a b:dn}{bs:List dn}{row:List D}(r:RC K H0 H σ γ)(L:γ[j]? = cq (.nest R))(hs:σ[j]? = cq (cq (.ref a)))(S:u5 K H0 H R a bs)
 (a2 : ∀(k:Nat) ds c,γ[k]? = cq (.own ds)->σ[k]? = cq (cq (.ref c))->c∉a::bs) (J:bs[t]? = cq b) (Z:R[t]? = cq row) (C:i<γ.length) :
 RC K H0 H (σ.set i<|some (.ref b)) ((γ.set j .no).set i (.own row)):=by
 obtain⟨p,w,b1,b2⟩:=S.row t b row J Z;have l:b∈a::bs:=Mg _<|Na J;have U : ∀{k:Nat} {c:Cell},c ≠ .no->(γ.set j .no)[k]? = cq c->γ[k]? = cq c/\k≠j:=λ{k c} u g=>by
  rcases zF g with⟨_,z,_⟩ | ⟨O,z⟩
  ·exact absurd z u
  ·exact⟨z,O⟩
 refine⟨r.sub,by simp[r.len],λk d g=>?_,λk ds g=>?_,λk m c ds o s n Y e=>?_,pb.D1 λk f g=>?_⟩
 ·rcases zF g with⟨_,z,_⟩ | ⟨O,z⟩
  ·cases z
  ·obtain⟨I,_⟩:=U ⋯ z
   rw[LV (My O)];exact r.val k d I
 ·rcases zF g with⟨rfl,z,x⟩ | ⟨O,z⟩
  ·cases z
   exact⟨b,w,Ms (by rw[r.len];exact C),p,b1,b2⟩
  ·obtain⟨I,_⟩:=U ⋯ z
   rw[LV (My O)];exact r.own k ds I
 ·rcases zF s with⟨rfl,_,_⟩ | ⟨O,I⟩
  ·rcases zF n with⟨rfl,_,_⟩ | ⟨h,Q⟩
   ·rfl
   ·obtain⟨Q,_⟩:=U ⋯ Q
    rw[Ms (by rw[r.len];exact C)]at Y;rw[LV (My h)]at e;cases Y;exact absurd l<|a2 m o b Q e
  ·obtain⟨I,_⟩:=U ⋯ I
   rcases zF n with⟨rfl,_,_⟩ | ⟨h,Q⟩
   ·rw[Ms (by rw[r.len];exact C)]at e
    rw[LV (My O)]at Y;cases e;exact absurd l<|a2 k ds b I Y
   ·obtain⟨Q,_⟩:=U ⋯ Q
    rw[LV (My O)]at Y;rw[LV (My h)]at e;exact r.ne k m c ds o I Q Y e
 ·rcases zF g with⟨_,z,_⟩ | ⟨O,z⟩
  ·cases z
  ·obtain⟨I,Q⟩:=U ⋯ z
   exact Q<|r.n4.2 k j f R I L
theorem RS.E_(r:RS K E0 E H0 H σ γ)(Q:γ[j]? = cq (.nest R))(hs:σ[j]? = cq (cq (.ref a)))(I:u5 K H0 H R a bs)
 (J : ∀(k:Nat) ds c,γ[k]? = cq (.own ds)->σ[k]? = cq (cq (.ref c))->c∉a::bs) (C:bs[t]? = cq b) (Z:d9 K H0 row' ys) :
 RS K E0 E H0 (upd H b<|.lst ys) σ (γ.set j<|.nest<|R.set t row'):=by
 have A:j<γ.length:=(Mj.mp Q).1;have i:b∈bs:=Na C;have x:b≠a:=λq=>(NA.mp I.nd).1 (by rw[<- q];exact i);obtain⟨s,_⟩:=I.at<|Mg a i;obtain⟨N,y⟩:=r.uR j R a _ Q hs I.ha;have P:E b=cO:=y b<|Mk.mpr ⟨b,i,rfl⟩;have U : ∀{k:Nat} {c:Cell},(∀e,c ≠ .nest e)->(γ.set j<|.nest<|R.set t row')[k]? = cq c->γ[k]? = cq c:=λ{k c} Y g=>by
  rcases zF g with⟨_,z,_⟩ | ⟨l,z⟩
  ·exact absurd z<|Y _
  ·exact z
 refine⟨⟨λc o q=>?_,by simp[r.rc.len],λk d g=>r.rc.val k d<|U ⋯ g,λk ds g=>?_,λk m c ds S F G L M=>r.rc.ne k m c ds S (U ⋯ F) (U ⋯ G) L M,⟨λk e g=>?_,λk m X r2 O g2=>?_⟩⟩,⟨r.ext.s0,λc o q=>?_,λc o q=>?_,r.ext.new⟩,λk ds c O g2=>r.fresh k ds c (U ⋯ O) g2,λk e c p O g2 g3=>?_⟩
 ·rw[zG (λz=>by rw[z,s]at q;cases q)];exact r.rc.sub c o q
 ·have z:=U ⋯ g
  obtain⟨c,p,f,h,u,T⟩:=r.rc.own k ds z;refine⟨c,p,f,h,?_,T⟩;rw[zG (λq=>J k ds c z f<|by rw[q];exact Mg _ i)];exact u
 ·have l:k=j:=by
   rcases zF g with⟨z,_,_⟩ | ⟨_,z⟩
   ·exact z
   ·exact r.rc.n4.2 k j e R z Q
  subst l;rw[Ms A]at g;cases g;refine⟨a,bs,hs,⟨I.a0,by rw[zG (My x)];exact I.ha,I.nd,by simp[I.len],λm c row Y n=>?_⟩,λm ds c O g2=>J m ds c (U ⋯ O) g2⟩;by_cases w:m=t
  ·subst w
   rw[C]at Y;cases Y;have:m<R.length:=by rw[<- I.len];exact(Mj.mp C).1
   rw[Ms this]at n;cases n;exact⟨s,ys,zJ,Z⟩
  ·rw[LV (My w)]at n
   obtain⟨f,p,h,u⟩:=I.row m c row Y n;have B:c≠b:=λq=>by subst q;have W:=(NA.mp I.nd).2;exact w<|YW W Y C
   exact⟨f,p,by rw[zG B];exact h,u⟩
 ·have f:k=j:=by
   rcases zF O with⟨z,_,_⟩ | ⟨_,z⟩
   ·exact z
   ·exact r.rc.n4.2 k j X R z Q
  have h:m=j:=by
   rcases zF g2 with⟨z,_,_⟩ | ⟨_,z⟩
   ·exact z
   ·exact r.rc.n4.2 m j r2 R z Q
  rw[f,h]
 ·rw[zG (λz=>by rw[z,P]at q;cases q)];exact r.ext.s1 c o q
 ·rw[zG (λz=>by rw[z,s]at q;cases q)];exact r.ext.sub c o q
 ·have l:k=j:=by
   rcases zF O with⟨z,_,_⟩ | ⟨_,z⟩
   ·exact z
   ·exact r.rc.n4.2 k j e R z Q
  subst l;rw[hs]at g2;cases g2;rw[zG (My x),I.ha]at g3;injection g3 with g3;injection g3 with g3;subst g3;exact⟨N,y⟩
end
section
variable{K:LM}{E0 E H0 H:Hp}{σ:St}{γ:Ctx}
theorem RS.freeze(r:RS K E0 E H0 H σ γ)(e:γ[i]? = cq (.own ds)) : ∃C,RS K E0 E C H σ (γ.set i<|.val<|.lst ds):=by
 obtain⟨a,n,f,g,U,Y⟩:=r.rc.own i ds e;have h:=r.fresh i ds a e f;obtain⟨C,m,Q⟩ : ∃C,C=upd H0 a (.lst n)/\RC K C H σ (γ.set i<|.val<|.lst ds):=by refine⟨_,rfl,?_⟩;exact RC.D' r.rc e f g U Y
 subst m;refine⟨_,Q,⟨r.ext.s0.trans<|jh g _,r.ext.s1,Q.sub,λc l I=>?_⟩,λj k b O g2=>?_,λj d b o O g2 g3=>?_⟩
 ·rw[zG (λz=>by rw[z,h]at I;exact I rfl)];exact r.ext.new c l I
 ·rcases zF O with⟨_,z,_⟩ | ⟨_,z⟩
  ·cases z
  ·exact r.fresh j k b z g2
 ·rcases zF O with⟨_,z,_⟩ | ⟨_,z⟩
  ·cases z
  ·exact r.uR j d b o z g2 g3
open Classical in
noncomputable def Wg(H0 H:Hp)(L:List dn):Hp:=λc=>if c∈L then H c else H0 c
theorem Kx(h:c∈L):Wg H0 H L c=H c:=by unfold Wg;rw[UJ h]
theorem wL(h:c∉L):Wg H0 H L c=H0 c:=by unfold Wg;rw[UY h]
theorem Yz : ∀{C:List (List D)} {bs:List dn},bs.length=C.length->(∀(k:Nat) b row,bs[k]? = cq b->C[k]? = cq row->∃xs,G b=cq (.lst xs)/\d9 K G row xs)->d9 K G (C.map D.lst) (bs.map V.ref)
 | [],[],_,_=>d9.nil
 | [],_::_,h,_=>by simp at h
 | _::_,[],h,_=>by simp at h
 | row::C,b::bs,h,f=>by obtain⟨xs,I,g2⟩:=f 0 b row rfl rfl;exact d9.cons (JG (gB.of I) g2) (Yz (by simpa using h) λk c r a O=>f (k+1) c r (by simpa using a)<|by simpa using O)
theorem RS.v_(r:RS K E0 E H0 H σ γ)(e:γ[i]? = cq (.nest rows)) : ∃C,RS K E0 E C H σ (γ.set i<|.val<|.lst<|rows.map D.lst):=by
 obtain⟨a,bs,p,Q,u⟩:=r.rc.n4.1 i rows e;obtain⟨B,F⟩:=r.uR i rows a _ e p Q.ha;have ef : ∀b∈a::bs,E b=cO:=λb hb=>by
  rcases Mc.mp hb with rfl | hb
  ·exact B
  ·exact F b<|Mk.mpr ⟨b,hb,rfl⟩
 have l:g9 H0 (Wg H0 H (a::bs)):=λc o q=>by rw[wL (λO=>by rw[(Q.at O).1]at q;cases q)];exact q
 have sub:g9 (Wg H0 H (a::bs)) H:=λc o q=>by
  by_cases O:c∈a::bs
  ·rw[Kx O]at q;exact q
  ·rw[wL O]at q;exact r.rc.sub c o q
 have L:Rep K (Wg H0 H (a::bs)) (.lst<|rows.map D.lst) (.ref a):=JG (gB.of<|by rw[Kx Mh];exact Q.ha) (Yz Q.len λk b row I g2=>by obtain⟨_,M,n,h⟩:=Q.row k b row I g2;exact⟨M,by rw[Kx (Mg _<|Na I)];exact n,h.mono l⟩)
 have s : ∀{j:Nat} {U:List (List D)},(γ.set i<|.val<|.lst<|rows.map D.lst)[j]? ≠ cq (.nest U):=λ{j U} g=>by
  rcases zF g with⟨_,z,_⟩ | ⟨m,z⟩
  ·cases z
  ·exact m<|r.rc.n4.2 j i U rows z e
 have Y : ∀{j:Nat} {f:List D},(γ.set i<|.val<|.lst<|rows.map D.lst)[j]? = cq (.own f)->γ[j]? = cq (.own f):=λ{j f} g=>by
  rcases zF g with⟨_,z,_⟩ | ⟨m,z⟩
  ·cases z
  ·exact z
 refine⟨_,⟨sub,by simp[r.rc.len],λj d g=>?_,λj f g=>?_,λj k c f G w x y A=>r.rc.ne j k c f G (Y w) (Y x) y A,pb.D1 λj U=>s⟩,⟨r.ext.s0.trans l,r.ext.s1,sub,λc n h=>?_⟩,λj f b I g2=>r.fresh j f b (Y I) g2,λj U b t I=>absurd I s⟩
 ·rcases zF g with⟨rfl,z,N⟩ | ⟨m,z⟩
  ·cases z;exact⟨_,p,L⟩
  ·obtain⟨v,I,g2⟩:=r.rc.val j d z
   exact⟨v,I,g2.mono l⟩
 ·obtain⟨b,t,I,g2,g3,J⟩:=r.rc.own j f (Y g)
  exact⟨b,t,I,by rw[wL (u j f b (Y g) I)];exact g2,g3,J.mono l⟩
 ·rw[wL (λO=>h<|ef c O)];exact r.ext.new c n h
end
section
variable{X:Cx}{st:kA}{F:CO Fl}
theorem tH(i:Nat)(h:md X st F):md X st (HF i F):=k8 h λD j H O=>by obtain⟨E0,E,e,g,Q,U,I,Y⟩:=O;obtain⟨f,d,I⟩:=ze I;obtain⟨a,b⟩:=U.freeze<|yZ d;exact⟨E0,E,a,_,Q,b,I,Y⟩
theorem mY(i:Nat)(h:md X st F):md X st (Bk i F):=k8 h λD j H O=>by obtain⟨E0,E,f,g,Q,U,I,Y⟩:=O;obtain⟨b,e,I⟩:=ze I;obtain⟨a,d⟩:=U.v_<|wU e;exact⟨E0,E,a,_,Q,d,I,Y⟩
end
section
variable{X:Cx}{sc:hL}{N L:List Str}{k:Nat}
theorem mX(i:Nat)(h:SX X sc N L k)(c:yI sc N L i y=cM)
 (Z:X.calm=cM) (ok:s8 X scope fr) (S : ∀i∈T.idx,i<own.length) (hi:s9 X tg iter src) (hg : ∀fp J C,PG (jD X scope (own++fr.map (·.1)) fp J C) tg<|ri X.K T)
 (he : ∀fp J C,PO (jD X scope (own++fr.map (·.1)) fp J C) elt f) (hs : ∀x,pk iter X.env x=pure x:=by intro _;rfl) :
 md X (.Assign [.Name y py] (.ListComp elt [⟨tg,iter,[],0⟩] scope cpos) spos) (mG i<|af src T own.length (fr.map (·.2)) f):=by
 obtain⟨p,r,s⟩:=h.loc c;refine k8 (Zj (te:=tO X.K f) h.F0 p r s Z ok hi hg (λ_ _ _=>Kj) he hs) λD l H O=>?_;obtain⟨E0,E,e,j,w,Y,I,m⟩:=O;obtain⟨d,o,I⟩:=ze I;by_cases U:j.any XD=cR
 ·rw[UJ U]at I;cases I
  exact da S (λl H Q O=>by obtain⟨e,j,b,rc,I,q⟩:=O;cases I;exact q H e<|Ext.refl rc.sub) l H _ ⟨e,j,d,Y.rc,o,λa bs u g x t n=>m _ _ g<|Y.L_ x t n U⟩
 ·rw[UY U]at I;cases I
theorem fB(I:i≠j)(c:Cell)(r:List D):((((γ.set j c).set i .no).set j .no).set i (.own r))=yG γ j i r:=by
 unfold yG;apply NK;intro m;simp only[Oy,List.length_set];by_cases a:i=m
 ·subst a;simp
 ·by_cases b:j=m
  ·subst b;simp[a]
  ·simp[a,b]
theorem V7{γ:Ctx}{j i:Nat}(I:i≠j)(c O:Cell):(((γ.set j c).set i .no).set j O)=(γ.set j O).set i .no:=by rw[List.set_comm _ _ (My I),List.set_set,List.set_comm _ _ I]
theorem Xs(j i:Nat){x y:Str}{bg C bi:g5}{U e:eh}{g f:CO D}{p pos ca:g5}(hp:O7 (eg X.prog X.w) X.A X.env X.xe)(hc:X.calm=cM)(h:SX X sc N L k)(cj:K8 sc N j x=cM)(ci:K8 sc N i y=cM)
 (hg:PG X (.Name y bg) (yW i)) (hi:PV X U g) (he:PV X e f)
 (ha : ∀v,uw (.Subscript (.Name y C) U p) X.env v=(do
   let ov <- t5 [v] (el (.Name y C) X.env);let iv <- t5 [v,ov] (el U X.env)
   DM p
   t5 [v,ov,iv] (Tz ov iv v)
   Uw [v,ov,iv] []):=by intro _;rfl)
 (hs:N2 [.Subscript (.Name y C) U p] e pos.line X.env=pure cR:=by rfl) (hw:TJ [.Subscript (.Name y C) U p] e X.env=pure cO:=by rfl)
 (h1:(zl [.Subscript (.Name y C) U p] X.env).map (·.2)=[uw (.Subscript (.Name y C) U p) X.env]:=by rfl)
 (hf : ∀z,pk (.Name x bi) X.env z=pure z:=by intro _;rfl) :
 md X (.For (.Name y bg) (.Name x bi) [.Assign [.Subscript (.Name y C) U p] e pos] [] ca) (JC j i g f):=
 k8 (pW hp hc (fX<|h.var cj) hg (fN<|aw he (pX (h.var ci) hi W7 ha) hs hw h1) hf) λD u H hZ=>by
  obtain⟨E0,E,H0,o,fl,rs,Y,bl⟩:=hZ;obtain⟨l,e1,Y⟩:=ze Y;have e1:=wU e1;by_cases ar:i=j\/o.length<=i
  ·rw[UJ ar]at Y;cases Y
  rw[UY ar]at Y;have B:i≠j:=λz=>ar<|.inl z;have R:i<o.length:=by
   rcases Mt i o.length with z | z
   ·exact z
   ·exact absurd (.inr z) ar
  have bm:j<o.length:=(Mj.mp e1).1;obtain⟨b5,e2,Y⟩:=zE Y;subst Y;obtain⟨a,bs,g1,hn,e4⟩:=rs.rc.n4.1 j l e1;refine⟨_,g1,a,.L,rfl,⟨_,gB.of hn.ha⟩,?_⟩;refine⟨λt m J H'=>m=l.length - t/\t<=l.length/\∃(r:Hp) (I k6:List (List DL.D)) (Q:L2.St),I.length=t/\Q[j]? = cq (cq (V.ref a))/\(∃v,J=Q.set i v)/\H' a=cq (.lst<|bs.map V.ref)/\RS X.K E0 E r H' J ((o.set j<|.nest<|I++l.drop t).set i .no)/\ki j i g f o (l.drop t)=cq k6/\b5=I++k6,
   ⟨_,rfl,MR _,H0,[],b5,u,rfl,g1,⟨u[i]?.getD cO,?_⟩,hn.ha,?_,e2,rfl⟩,?_⟩
  ·apply NK
   intro m;rw[Oy];by_cases z:i=m
   ·subst z
    have:i<u.length:=by rw[rs.rc.len];exact R
    simp[this]
   ·simp[z]
  ·have:=rs.forget (i:=i) (v:=u[i]?.getD cO)
   have es:u.set i (u[i]?.getD cO)=u:=by
    apply NK;intro m;rw[Oy];by_cases z:i=m
    ·subst z
     have:i<u.length:=by rw[rs.rc.len];exact R
     simp[this]
    ·simp[z]
   rw[es]at this;have ec:o.set j (.nest l)=o:=by
    apply NK;intro m;rw[Oy];by_cases z:j=m
    ·subst z;rw[UJ rfl,UJ bm,e1]
    ·simp[z]
   simpa[ec]using this
  rintro t m J H' ⟨rfl,ht,r,I,k6,Q,c0,S,⟨v0,rfl⟩,T,W,O,er⟩;have as:((o.set j<|.nest<|I++l.drop t).set i .no)[j]? = cq (.nest<|I++l.drop t):=by rw[LV B,Ms bm]
  obtain⟨a',s,q1,b6,cv⟩:=W.rc.n4.1 j _ as;rw[LV B,S]at q1;cases q1;have cw:s=bs:=by have:=b6.ha;rw[T]at this;injection this with this;injection this with this;exact(yu this).symm
  subst cw;have cy:s.length=l.length:=by rw[b6.len];simp;omega
  by_cases c3:t<l.length
  ·have P:s[t]? = cq (s[t]'⋯):=LP ⋯
   generalize s[t]'⋯=b at P;have b7:l.drop t=l[t]::l.drop (t+1):=NS c3;refine .inr ⟨⟨_,.ref b,gB.of T,by rw[MV,P];rfl⟩,λM H2=>t+1<=l.length/\∃(r:Hp) (I k6:List (List DL.D)) (Q:L2.St),I.length=t+1/\Q[j]? = cq (cq (V.ref a))/\(∃v,M=Q.set i v)/\H2 a=cq (.lst<|s.map V.ref)/\RS X.K E0 E r H2 M ((o.set j<|.nest<|I++l.drop (t+1)).set i .no)/\ki j i g f o (l.drop<|t+1)=cq k6/\b5=I++k6,λM H2 n=>⟨l.length - (t+1),by omega,rfl,n.1,n.2⟩,λxv H2 yl=>?_⟩;obtain⟨rfl,yl⟩:=yl;have d0:xv = .ref b:=by have:=yl _<|gB.of T;rw[MV,P]at this;exact(MN this).symm
   subst d0;rw[b7]at O;simp only[ki]at O;obtain⟨d,f1,O⟩:=ze O;obtain⟨kk,f2,O⟩:=ze O;obtain⟨dk,f3,f2⟩:=ze f2;obtain⟨G,f4,O⟩:=ze O;obtain⟨d5,f5,O⟩:=zE O;have d7:(I++l.drop t)[t]? = cq l[t]:=by rw[b7,MX ⋯,c0];simp
   have F:(Q.set i v0).set i (cq (.ref b))=Q.set i (cq (.ref b)):=List.set_set ..;have ax:=W.rc.row (i:=i) as (by rw[LV B];exact S) b6 cv P d7 (by simp;exact R);rw[fB B,F]at ax;show ∃_,_;refine⟨r,yG o j i l[t],d,?_,f1,λv H3 d8 x3 r3=>?_⟩
   ·rw[F];exact ax
   have c4:=ax.ext x3;obtain⟨Z,xs,p1,p2,p3,p4⟩:=c4.own i l[t] (by unfold yG;rw[Ms (by simpa using R)]);have dd:Z=b:=by
    rw[Ms (by
     have:=ax.len;simp[yG]at this;rw[this];exact R)]at p1
    cases p1;rfl
   subst dd;refine⟨_,by rw[F];exact p1,d8,yG o j i l[t],dk,by rw[F];exact c4,f3,λv2 H4 dj x4 r4=>?_⟩;rw[jS f2]at r4;refine⟨Z,xs,kk,G,rfl,jz r4,x4.s1 _ _ p3,by rw[p4.length];exact aP f4,?_⟩;have dl:=(W.step x3).step x4;have be:=dl.forget (i:=i) (v:=cq (.ref Z));have dp:(((o.set j<|.nest<|I++l.drop t).set i .no).set i .no)=((o.set j<|.nest<|I++l.drop t).set i .no):=List.set_set ..;rw[dp,F]at be;obtain⟨a2,kr,w1,bf,dt⟩:=be.rc.n4.1 j _ as;rw[LV B,S]at w1;cases w1;have c8:H4 a=cq (.lst<|s.map V.ref):=x4.s1 _ _<|x3.s1 _ _ T;have dv:kr=s:=by have:=bf.ha;rw[c8]at this;injection this with this;injection this with this;exact(yu this).symm
   subst dv;have c9:=be.E_ (t:=t) (row':=l[t].set G d) (ys:=xs.set G v) as (by rw[LV B];exact S) bf dt P<|(p4.mono x4.s0).set G (r3.mono x4.s0);have dx:a≠Z:=λq=>(NA.mp bf.nd).1 (by rw[q];exact Na P);refine⟨c3,dj,I++[l[t].set G d],d5,Q,by simp[c0],S,⟨cq (.ref Z),F⟩,by rw[zG dx];exact c8,?_,f5,by rw[er,<- O];simp⟩;rw[F];have eR:(I++l.drop t).set t (l[t].set G d)=(I++[l[t].set G d])++l.drop (t+1):=by rw[b7,List.set_append_right _ _ ⋯,show t - I.length=0 by omega,SG];rfl
   rw[eR,V7 B]at c9;exact c9
  ·have et:t=l.length:=by omega
   subst et;rw[Rc]at O;cases O;rw[Rc]at W;refine .inl ⟨⟨_,gB.of T,by simp[cy]⟩,?_⟩;rw[er]at bl;exact bl _ _ r W
end
end DL
namespace L2
open PySem PySem.Spec PyProof.Rows
noncomputable def FY(K:LM):V->List V->Hp->VK->Prop:=λx d H Q=>∃I p b,x = .str I/\d=[.ref p]/\gB K H p (b.map V.str)/\Builtin.Str.tooLong (b.toArray.foldl (λa p=>a+p.length+I.length) 0)=cR/\Q (.str<|SR I b) H
theorem K9 : ∀{C:List Str} {us:List dy},eK (C.map V.str) us->∃l:List (Str×q7),strValues l=us/\l.map (·.1)=C
 | [],us,r=>by cases r;exact⟨[],rfl,rfl⟩
 | z::C,u::us,.cons r t=>by obtain⟨a,rfl⟩:=r;obtain⟨l,rfl,h⟩:=K9 t;exact⟨(z,a)::l,rfl,by simp[h]⟩
theorem uv{X:Cx}:T5 X "str.join" (FY X.K):=by intro a s y H x n v m Q I Y i h;obtain⟨O,p,w,rfl,rfl,d,U,q⟩:=h;obtain⟨t,rfl⟩:=Y;obtain⟨u,rfl,rw⟩:=yh i;cases rw;obtain⟨f,r,g,j⟩:=I.list d;obtain⟨l,rfl,e⟩:=K9 r;subst e;refine Dg F.slot_str_join (UU _ _ _) F.entry_str_join (F.args_str_join_2 _ _) (meets_str_join_list O t p l U) ⟨g.isList,post_join l ⟨joinFit_length U,λt' k=>?_⟩⟩;refine⟨.str (SR O (l.map (·.1))),H,(I.kept (h':=s.heap) (t':=k) λb o e=>e),⟨t',?_⟩,q⟩;show Value.str (Builtin.Str.glued O (l.map (·.1))) t'=_;rw[StrLaws.glued_eq_join]
end L2
namespace DL
open PySem PySem.Spec PyProof.Rows L2
theorem Yk{K:LM}{H:Hp} : ∀{ds:List D} {xs:List V} {l:List Str},d9 K H ds xs->X5 ds=cq l->xs=l.map V.str
 | [],xs,l,r,e=>by cases e;rw[show xs=[]from r];rfl
 | d::ds,xs,l,r,e=>by
  obtain⟨x,g,rfl,I,b⟩:=(show ∃x r,xs=x::r/\Rep K H d x/\d9 K H ds r from r);cases d with
  | str i=>
   obtain⟨f,a,rfl⟩:=zE (show(X5 ds).map (λl=>i::l)=cq l from e);rw[Yk b a,show x = .str i from I];rfl
  | _=>cases e
section
variable{X:Cx}{sc:hL}{N L:List Str}{k:Nat}{o e a b:eh}{apos cpos pos p:g5}{f g:CO D}{q:CO (Sk×List D)}
theorem X7(h:j3 x=cM):x.length<=1000:=of_decide_eq_true h
theorem Xo(h:j3 x=cM):x.length<=fe:=Nv (X7 h) ⋯
theorem fI(Y:PV X o f)(Z:PQ X e q)(C:P2 o "join" X.env (el o X.env)=el o X.env:=by rfl)
 (J:((r6 cpos<|starEach [e] X.env).all (λx=> !x.1) && (P8 cpos<|keywordEach [] X.env).all (λx=>x.1.isSome) && decide ([e].length+([]:List Dx).length+(if ([]:List Dx).isEmpty then 0 else 1)<30))=cM:=by rfl)
 (S:(apos.endLine==cpos.line)=cM:=by rfl) (hs:fA [e] X.env=[(cR,el e X.env)]:=by rfl):PV X (.Call (.Attribute o "join" apos) [e] [] cpos) (eW f q):=
 qC (Cc PySem.F.plainAttrs_str PySem.F.slot_str_join PySem.F.type_str_join uv Y (jA Z qG hs) C J S hs rfl) λσ H Q z=>by
  obtain⟨h,g,d,rc,I,G⟩:=z;obtain⟨k,n,I⟩:=ze I;obtain⟨⟨E,m⟩,p,I⟩:=ze I;cases k with
  | str U=>
   cases E with
   | L=>
    obtain⟨l,s,I⟩:=ze I;by_cases O:l.length<=lim/\l.all j3=cM/\j3 U=cM
    ·rw[UJ O]at I;cases I
     refine⟨h,g,_,rc,n,λv N b x r=>?_⟩;rw[show v = .str U from r];refine⟨rfl,b,g,.L,m,rc.ext x,p,λa W i j M u P K=>?_⟩;have t:=Yk K s;subst t;refine⟨U,a,l,rfl,rfl,u,StrLaws.joinFits (B:=1000) (λy A=>X7<|ND.mp O.2.1 y A) ?_,G _ i j (x.trans M) rfl⟩;have R:=O.1;have:lim=2500:=rfl;have w:=X7 O.2.2;have:l.length*U.length<=2500*1000:=Nat.mul_le_mul ⋯ w;omega
    ·rw[UY O]at I;cases I
   | T=>cases I
  | _=>cases I
theorem yk(C:PV X a f)(Y:PV X b g)(hs:WH b:=by intro _ _;rfl):PV X (.Subscript a b pos) (xo f g):=
 qC (Ca CH C Y hs) λG H Q A=>by
  obtain⟨m,l,d,rc,I,q⟩:=A;obtain⟨p,t,I⟩:=ze I;obtain⟨i,O,I⟩:=ze I;obtain⟨s,u,O⟩:=ze O;cases p with
  | str z=>
   by_cases U:j3 z=cM
   ·have I:(if j3 z=cM then (i3 z.cps.toList.length i).bind λk=>z.cps.toList[k]?.map λc=>D.str ⟨#[c]⟩else cO)=cq d:=I
    rw[UJ U]at I;obtain⟨j,w,I⟩:=ze I;obtain⟨c,y,rfl⟩:=zE I;refine⟨m,l,_,rc,t,λv E e x r=>⟨e,l,s,rc.ext x,u,λF n o B h=>?_⟩⟩;rw[jS O]at h;refine⟨z,i,c,r,jz h,Xo U,?_,q _ n o (x.trans B) rfl⟩;unfold Dh;rw[aP w];exact y
   ·have I:(if j3 z=cM then (i3 z.cps.toList.length i).bind λk=>z.cps.toList[k]?.map λc=>D.str ⟨#[c]⟩else cO)=cq d:=I
    rw[UY U]at I;cases I
  | _=>cases I
theorem tj(h:SX X sc N L k)(c:vZ sc "len" = cM)(z:X.mg "len" = cO)(C:PV X e f)(hs:fA [e] X.env=[(cR,el e X.env)]:=by rfl):PV X (.Call (.Name "len" p) [e] [] pos) (VP f):=
 qC (yn Vm (h.gl c).1 z PySem.boot_len (jA C qG hs) ⋯ ⋯ hs rfl) λl H Q U=>by
  obtain⟨g,j,d,rc,I,q⟩:=U;obtain⟨Y,i,I⟩:=ze I;cases Y with
  | str z=>
   by_cases O:j3 z=cM
   ·have I:(if j3 z=cM then cq (D.int z.length)else cO)=cq d:=I
    rw[UJ O]at I;cases I;refine⟨g,j,_,rc,i,λv b a x r=>⟨z,by rw[show v = .str z from r],Xo O,q _ b a x rfl⟩⟩
   ·have I:(if j3 z=cM then cq (D.int z.length)else cO)=cq d:=I
    rw[UY O]at I;cases I
  | _=>cases I
end
section
variable{X:Cx}{sc:hL}{N L:List Str}{k:Nat}{b:eh}{f:CO D}
theorem aq(h:SX X sc N L k)(c:vZ sc "min" = cM)(z:X.mg "min" = cO)(C:PV X a f)(Y:PV X b g)(hs:fA [a,b] X.env=[(cR,el a X.env),(cR,el b X.env)]:=by rfl)(O:fA [b] X.env=[(cR,el b X.env)]:=by rfl) :
 PV X (.Call (.Name "min" p) [a,b] [] pos) (bV f g):=
 qC (yn (iY h.calm) (h.gl c).1 z PyProof.Rows.boot_min (jA C (jA Y qG O)<|by rw[hs,O]) ⋯ ⋯ (by rw[hs,O]) (by rw[O];rfl)) λJ H Q B=>by obtain⟨o,n,d,rc,I,q⟩:=B;obtain⟨i,l,I⟩:=ze I;obtain⟨u,y,l⟩:=ze l;obtain⟨j,U,I⟩:=zE I;obtain⟨w,A,U⟩:=ze U;subst I;refine⟨o,n,u,rc,y,λv F e x r=>⟨e,n,w,rc.ext x,A,λG s t E m=>⟨i,j,?_,q _ s t (x.trans E) rfl⟩⟩⟩;rw[jS l]at r;rw[jS U]at m;rw[jz r,jz m]
end
noncomputable def Gi(c:Xn)(C:Option dn)(H0:Hp):Prop:=match c.2 with
 | none=>C=cO
 | some i=>∃d,C=cq d/\H0 d=cq (.xd [(Lo c.1,.int i)])
noncomputable def UB(K:LM)(n:Nat)(G:List D->Option Xn):Sp:=λg H _ E=>∃b d c,g9 b H/\d9 K b d g/\d.length=n/\G d=cq c/\
 ∀C e a f,HA K=cM->c.1∈N9->AG K c.1=cq C->Gi c f a->Ext b H a e->E (.ref C) f e
section ap
variable(γ:Ctx)
@[simp] noncomputable def vq:=@zR.eq_1
@[simp] noncomputable def ZE:=@qf.eq_1
@[simp] noncomputable def xt:=@jt.eq_1
@[simp] noncomputable def qO:=@zc.eq_1
@[simp] noncomputable def jT:=@zh.eq_1
@[simp] theorem kJ(d):zu d γ=cq d:=rfl
@[simp] noncomputable def xc:=@zB.eq_1
@[simp] noncomputable def Xg:=@sB.eq_1
@[simp] noncomputable def KS:=@ZJ.eq_1
@[simp] noncomputable def QL:=@yK.eq_1
@[simp] noncomputable def KR:=@jX.eq_1
@[simp] noncomputable def Ir:=@lS.eq_1
@[simp] noncomputable def Lp:=@L'.eq_1
@[simp] noncomputable def Ie:=@HE.eq_1
@[simp] noncomputable def rL:=@ab.eq_1
@[simp] theorem x9:zD γ=cq []:=rfl
@[simp] noncomputable def qo:=@zb.eq_1
@[simp] noncomputable def wX:=@xk.eq_1
@[simp] noncomputable def Hh:=@kY.eq_1
@[simp] noncomputable def He:=@j1.eq_1
@[simp] noncomputable def vJ:=@j7.eq_1
@[simp] noncomputable def WC:=@vz.eq_1
@[simp] noncomputable def Hc:=@VN.eq_1
@[simp] noncomputable def Io:=@LB.eq_1
@[simp] noncomputable def Hu:=@sU.eq_1
@[simp] noncomputable def y9:=@h7.eq_1
@[simp] noncomputable def ZD:=@jB.eq_1
@[simp] noncomputable def GZ:=@vN.eq_1
@[simp] noncomputable def Ho:=@sT.eq_1
@[simp] noncomputable def wY:=@xW.eq_1
@[simp] noncomputable def va:=@zA.eq_1
@[simp] noncomputable def px:=@jH.eq_1
@[simp] noncomputable def qX:=@zN.eq_1
@[simp] noncomputable def y8:=@ju.eq_1
@[simp] noncomputable def Es:=@VO.eq_1
@[simp] noncomputable def Ep:=@aa.eq_1
@[simp] noncomputable def XT:=@ZI.eq_1
@[simp] noncomputable def j6:=@zK.eq_1
@[simp] theorem Ib:jd γ=cq cM:=rfl
@[simp] noncomputable def Hv:=@VQ.eq_1
@[simp] noncomputable def Hd:=@sS.eq_1
@[simp] noncomputable def vX:=@di.eq_1
@[simp] noncomputable def Fv:=@JB.eq_1
@[simp] theorem Ih:dr γ=cq cO:=rfl
@[simp] noncomputable def Lq:=@u0.eq_1
@[simp] noncomputable def Ic:=@eP.eq_1
@[simp] noncomputable def ly:=@yJ.eq_1
@[simp] noncomputable def Hk:=@ro.eq_1
@[simp] noncomputable def Ii:=@Ly.eq_1
@[simp] noncomputable def xH:=@zV.eq_1
@[simp] noncomputable def Et:=@eV.eq_1
@[simp] noncomputable def Vw:=@bU.eq_1
@[simp] noncomputable def Ey:=@Aw.eq_1
@[simp] noncomputable def Iq:=@Av.eq_1
@[simp] noncomputable def lB:=@ka.eq_1
@[simp] noncomputable def Hg:=@eT.eq_1
@[simp] noncomputable def GX:=@sR.eq_1
theorem jc(F G):zM F G γ=(F γ).bind λI=>match I with
 | .next a=>G a
 | f=>cq f:=rfl
end ap
@[simp] theorem Eo(ds):jR (.tup ds)=cq (.T,ds):=rfl
@[simp] theorem rK(ds):jR (.lst ds)=cq (.L,ds):=rfl
@[simp] theorem zW(d):iW (cq (.val d))=cq d:=rfl
@[simp] theorem zX(d):vV (cq (.val d))=jR d:=rfl
@[simp] theorem QF(d):vV (cq (.own d))=cq (.L,d):=rfl
@[simp] theorem Wv(d):xF (cq (.own d))=cq d:=rfl
@[simp] theorem Ag(d):Wu (cq (.val d))=cq (.ret<|.val d):=rfl
@[simp] theorem Ah(d):Wu (cq (.own d))=cq (.ret<|.own d):=rfl
@[simp] theorem XS(b):r0 (.bl b)=cq b:=rfl
@[simp] theorem qm(b):m5 (.int b)=cq b:=rfl
@[simp] theorem EO(d):pS (.val d)=d:=rfl
@[simp] theorem ER(d):pS (.own d) = .lst d:=rfl
@[simp] theorem mM(d):FV (.own d)=cq d:=rfl
@[simp] theorem Fm(i j):vB (.int i) (.int j)=cq (.int<|i - j):=rfl
@[simp] theorem oU(i j):qD (.int i) (.int j)=cq (.int<|i+j):=rfl
@[simp] theorem Fp(i j):xV (.int i) (.int j)=if 0<j then cq (.int<|i%j)else cO:=by show(if Ej i j=cM then _ else _)=_;simp[Ej]
@[simp] theorem Fq(i j):XQ (.int i) (.int j)=if 0<j/\j<1073741824 then cq (.int<|i/j)else cO:=by
 show(if Ek i j=cM then _ else _)=_;have e:(Ek i j=cM)=(0<j/\j<1073741824):=by unfold Ek;rw[Mi,decide_eq_true_eq,decide_eq_true_eq];apply propext;constructor<;>intro h<;>exact⟨h.1,by omega⟩
 simp only[e]
@[simp] theorem Fo(i j):kX (.int i) (.int j)=if XR i j=cM then cq (.int<|i*j)else cO:=rfl
@[simp] theorem Fn(i j):uZ (.int i) (.int j)=if Ei i j=cM then cq (.int<|i ^ j.toNat)else cO:=rfl
@[simp] theorem Aa(i j):pe (.int i) (.int j)=cq (.bl<|decide<|i<j):=rfl
@[simp] theorem Ab(i j):ni (.int i) (.int j)=cq (.bl<|decide<|i<=j):=rfl
@[simp] theorem GP(i j):qq (.int i) (.int j)=cq (.bl<|decide<|j<i):=rfl
@[simp] theorem GQ(i j):Ui (.int i) (.int j)=cq (.bl<|decide<|j<=i):=rfl
@[simp] theorem GR(i j):f9 (.int i) (.int j)=cq (.bl<|decide<|i=j):=by unfold f9;rw[UJ ⟨rfl,rfl⟩];exact congrArg (λb=>cq (D.bl b)) (by rw[NV];simp[i5])
@[simp] theorem GO(i j):gv (.int i) (.int j)=cq (.bl<|!decide (i=j)):=by unfold gv;rw[UJ ⟨rfl,rfl⟩];exact congrArg (λb=>cq (D.bl !b)) (by rw[NV];simp[i5])
@[simp] theorem Bg(i is d ds γ):xn (i::is) (d::ds) γ=xn is ds (γ.set i<|.val d):=rfl
@[simp] theorem Bf(ds γ):xn [] ds γ=γ:=by cases ds<;>rfl
@[simp] theorem vp(i d γ):xG (.nm i) d γ=cq (γ.set i<|.val d):=rfl
@[simp] theorem Em(i j a b γ):xG (.tp [i,j]) (.tup [a,b]) γ=cq ((γ.set i<|.val a).set j (.val b)):=rfl
@[simp] theorem X9(γ:Ctx)(G:CO Fl):(cq (Fl.next γ)).bind (λI=>match I with
 | .next γ'=>G γ'
 | f=>cq f)=G γ:=rfl
theorem Vo(i j:Int)(C : -(2 ^ 64)<j)(I:j<2 ^ 64):XR i j=cM:=by unfold XR;rw[NC];right;exact decide_eq_true ⋯
theorem vI(i j:Int)(C : -(2 ^ 64)<i)(I:i<2 ^ 64):XR i j=cM:=by unfold XR;rw[NC];left;exact decide_eq_true ⋯
theorem XI(C : -(2 ^ 62)<i)(I:i<2 ^ 62):inR i=cM:=by unfold inR;exact decide_eq_true ⋯
@[simp] theorem xD(n k:Nat):i3 n (k:Int)=if k<n then cq k else cO:=by
 unfold i3;by_cases h:k<n
 ·rw[UJ ⟨Int.natCast_nonneg k,by omega⟩,UJ h];simp
 ·rw[UY ⋯,UY ⋯,UY h]
theorem jy:lim=2500:=rfl
@[simp] theorem Fj:0<=lim:=MR _
@[simp] theorem Fi:1<=lim:=by decide
@[simp] theorem Fh:2<=lim:=by decide
@[simp] theorem Fg:3<=lim:=by decide
@[simp] theorem Ff:4<=lim:=by decide
@[simp] theorem Fe:5<=lim:=by decide
@[simp] theorem Fd:6<=lim:=by decide
@[simp] theorem Fc:7<=lim:=by decide
@[simp] theorem Fb:8<=lim:=by decide
@[simp] theorem EY:0<lim:=by decide
@[simp] theorem ia(h:n<=lim):inR (n:Int)=cM:=XI ⋯ (by have:=jy;omega)
@[simp] theorem Z_(n:Nat):i3 (n+1) 0=cq 0:=xD (n+1) 0 ▸ rfl
@[simp] theorem _a(n:Nat):i3 (n+2) 1=cq 1:=by have:=xD (n+2) 1;simpa using this
@[simp] theorem A_(n:Nat):i3 (n+3) 2=cq 2:=by have:=xD (n+3) 2;simpa using this
theorem zw(r:α->D) : ∀(l:List α),(∀x∈l,zP T k f γ [g x]=cq [r x])->zP T k f γ (l.map g)=cq (l.map r)
 | [],_=>rfl
 | x::l,h=>by
  have a:=h x Mh;have i:=zw r l λy I=>h y<|Mg _ I;simp only[Mu,zP]at a ⊢;cases e1:xG T (g x) γ with
  | none=>rw[e1]at a;simp at a
  | some d=>
   rw[e1]at a;simp only[LR]at a ⊢;cases e2:k d with
   | none=>rw[e2]at a;simp at a
   | some b=>
    rw[e2]at a;simp only[LR]at a ⊢;cases b with
    | false=>simp at a
    | true=>
     simp only[UJ]at a ⊢;cases e3:f d with
     | none=>rw[e3]at a;simp at a
     | some e=>
      rw[e3]at a;simp at a;rw[i];simp[a]
theorem zx(C:xG T d γ=cq γ1)(J:k γ1=cq cM)(I:f γ1=cq e):zP T k f γ [d]=cq [e]:=by simp[zP,C,J,I]
theorem jF(T F d ds γ):qQ T F (d::ds) γ=(xG T d γ).bind λγ1=>(F γ1).bind λO=>match O with
 | .next I=>qQ T F ds I
 | .cont I=>qQ T F ds I
 | .brk I=>cq (.next I)
 | .ret r=>cq (.ret r):=rfl
theorem Vf(P:Nat->Ctx->Prop) : ∀(ds:List D) (k:Nat) (γ:Ctx),P k γ->(∀i d γ,ds[i]? = cq d->P (k+i) γ->∃γ',((xG T d γ).bind F=cq (.next γ')\/(xG T d γ).bind F=cq (.cont γ'))/\P (k+i+1) γ')->
 ∃γ',qQ T F ds γ=cq (.next γ')/\P (k+ds.length) γ'
 | [],k,γ,h,_=>⟨γ,rfl,h⟩
 | d::ds,k,γ,h,step=>by
  obtain⟨a,e,f⟩:=step 0 d γ rfl h;obtain⟨γ',I,g⟩:=Vf P ds (k+1) a (by simpa using f) (λi b O j Q=>by have:=step (i+1) b O (by simpa using j) (by rw[show k+(i+1)=k+1+i by omega];exact Q);rw[show k+(i+1)+1=k+1+i+1 by omega]at this;exact this)
  refine⟨γ',?_,by rw[show k+(d::ds).length=k+1+ds.length by simp;omega];exact g⟩;rw[jF];cases eb:xG T d γ with
  | none=>rw[eb]at e;simp at e
  | some U=>
   rw[eb]at e;simp only[LR]at e ⊢;rcases e with e | e<;>rw[e]<;>exact I
noncomputable def zH(n:Nat)(f:Nat->Int):List D:=(LL n).map λi=>D.int<|f i
theorem z7(n f):zH n f=(LL n).map λi=>D.int (f i):=rfl
noncomputable def z9(h w:Nat)(f:UV):List D:=(LL h).map λi=>D.tup<|zH w<|f i
noncomputable def jf(h w:Nat)(f:UV):D:= .tup [.int h,.int w,.tup (z9 h w f)]
@[simp] theorem aZ(n f):(zH n f).length=n:=by simp[zH]
@[simp] theorem oM(h w f):(z9 h w f).length=h:=by simp[z9]
@[simp] theorem GL(f)(h:i<(zH n f).length):(zH n f)[i] = .int (f i):=by simp[zH]
theorem KG(f)(h:i<n):(zH n f)[i]? = cq (.int<|f i):=by simp[zH,h]
@[simp] theorem GM(f)(C:i<(z9 h w f).length):(z9 h w f)[i] = .tup (zH w<|f i):=by simp[z9]
theorem kj(h : ∀i,i<n->f i=g i):zH n f=zH n g:=by unfold zH;apply Md;intro i a;rw[h i (LO.mp a)]
theorem KH(e : ∀i j,i<h->j<w->f i j=g i j):z9 h w f=z9 h w g:=by unfold z9;apply Md;intro i a;rw[kj λj I=>e i j (LO.mp a) I]
theorem ZZ{h w:Nat}{f g:UV}(e : ∀i j,i<h->j<w->f i j=g i j):jf h w f=jf h w g:=by unfold jf;rw[KH e]
theorem jY(n:Nat):wu 0 n=zH n λi=>(i:Int):=by simp[wu,zH]
theorem v7(n:Nat)(f g:Nat->Int):w9 (zH n f) (zH n g)=(LL n).map λi=>D.tup [.int (f i),.int (g i)]:=by unfold w9 zH;rw[Py];simp
theorem lY(n w:Nat)(f g:UV):w9 (z9 n w f) (z9 n w g)=(LL n).map λi=>D.tup [.tup (zH w<|f i),.tup (zH w<|g i)]:=by unfold w9 z9;rw[Py];simp
noncomputable def zf(f:Nat->Int):Nat->Int
 | 0=>0
 | n+1=>zf f n+f n
theorem Js : ∀(xs:List Int) (y:Int),W4 (xs.map D.int++[.int y])=(W4<|xs.map D.int).map λs=>s+y
 | [],y=>by simp[W4]
 | x::xs,y=>by simp only[Mu,RT,W4];rw[Js xs y];cases e:W4 (xs.map D.int)<;>simp[Int.add_assoc]
theorem wg(f:Nat->Int) : ∀n,W4 (zH n f)=cq (zf f n)
 | 0=>rfl
 | n+1=>by
  have I:=wg f n;have e : ∀m,zH m f=((LL m).map f).map D.int:=λm=>by simp[zH]
  rw[e]at I ⊢;rw[NT,Nm,Nm,Sy,Sy,Js,I];simp[zf]
noncomputable def xY:=jo 2<|j7<|zV<|jt<|zK (zN<|zh 1) (.nm 0) 1 [0] jd (zB xV (zc 0)<|zc 1)
noncomputable def lO:=jo 3<|j7<|zA xY<|zb (zc 0)<|zb (qf<|zK (zN<|zR<|di (zh 1)<|zu<|.int 2) (.nm 0) 1 [2] jd (bU<|jt<|zK (aa (zc 0)<|zc 1) (.tp [0,1]) 2 [] jd (zB kX (zc 0)<|zc 1))) zD
noncomputable def qa:=jo 2<|zM (jB 1<|qf<|zK (ju<|di (zh 0)<|zu<|.int 1) (.nm 0) 1 [0] jd (zV<|jt<|zK (zN<|zR<|di (zh 1)<|zu<|.int 2) (.nm 0) 1 [0] jd (di (zh 0)<|zc 1)))<|j7<|xk<|zb (di (zh 0)<|zu<|.int 1)<|zb (di (zh 0)<|zu<|.int 0)<|zb (zV<|zh 1) zD
noncomputable def qH:=jo 2<|zM (jB 1<|qf<|zK (ju<|zc 0) (.nm 0) 1 [0] jd (zV<|jt<|zK (ju<|zc 1) (.nm 0) 1 [0] jd (ab (sB<|zB f9 (zc 1)<|zc 0) (zu<|.int 1)<|zu<|.int 0)))<|j7<|xk<|zb (zc 0)<|zb (zc 0)<|zb (zV<|zh 1) zD
noncomputable def jG:=jo 1<|j7<|lS (ro .int<|zc 0)<|HE<|ro .bool<|zc 0
noncomputable def w6:=jo 3<|zM (ZI (VO (zu<|.int 1)<|zc 0) (.nm 2)<|h7 (sB<|zB f9 (zB xV (zB kX (zc 1)<|zc 2)<|zc 0)<|zu<|.int 1) (VN 2) j1) Ys
noncomputable def qV:=jo 5<|zM (jB 4<|di (zh 1)<|zc 3)<|zM (h7 (sB<|zB f9 (zc 4)<|zu<|.int 0) (VN 1) j1)<|j7<|zA xY<|zb (zc 0)<|zb (qf<|zK (aa (zc 1)<|zc 2) (.tp [0,1]) 2 [4] jd (zB vB (zc 0)<|zB kX (zc 2)<|zc 1)) zD
noncomputable def xU:=jo 9<|zM (jB 3<|qf<|zK (zN<|zh 2) (.nm 0) 1 [0] jd (zA xY<|zb (zc 1)<|zb (zc 0) zD))<|zM (vN 4<|kY zD)<|zM (ZI (ju<|zc 1) (.nm 5)<|zM (jB 6<|qf<|zK (zN<|zh 3) (.nm 0) 1 [5] (sB<|zB gv (di (zh 0)<|zc 1)<|zu<|.int 0) (zc 0))<|zM (h7 (jX<|sR<|zh 6) sU j1)<|zM (jB 7<|zA w6<|zb (zc 0)<|zb (di (zR<|di (zh 6)<|zu<|.int 0)<|zc 5) zD)<|zM (jB 8<|zA xY<|zb (zc 0)<|zb (qf<|zK (zN<|zR<|di (zh 6)<|zu<|.int 0) (.nm 0) 1 [7] jd (zB kX (zc 1)<|zc 0)) zD)<|zM (jB 3<|qf<|zK (zN<|zh 3) (.nm 0) 1 [0,5,8] jd (zA qV<|zb (zc 1)<|zb (zc 0)<|zb (zc 3)<|zb (zc 2) zD))<|vN 4<|VQ (jt<|zK (zN<|zh 4) (.nm 0) 1 [0,5,8] jd (zA qV<|zb (zc 1)<|zb (zc 0)<|zb (zc 3)<|zb (zc 2) zD))<|jt<|kY<|zb (zc 8) zD)<|VN 4
noncomputable def qY:=jo 2<|vz<|zK (zN<|zh 1) (.nm 0) 1 [0] (jX<|sB<|Av<|zR<|eP (zc 0) dr<|u0<|zc 1) (eP (zc 0) (u0<|zc 1) dr)
noncomputable def ku:=jo 5<|zM (jB 3<|qf<|zK (aa (di (zR<|zA qa<|zb (zc 1) zD)<|zu<|.int 2)<|di (zR<|zA qH<|zb (di (zh 1)<|zu<|.int 1) zD)<|zu<|.int 2) (.tp [0,1]) 2 [] jd (zB qD (zc 0)<|zc 1))<|zM (jB 4<|qf<|zK (zN<|zh 2) (.nm 0) 1 [1] jd (zB qD (zc 0)<|zB kX (xk<|zb (zu<|.int 0) zD)<|di (zh 1)<|zu<|.int 1))<|vz<|jH qY<|zb (di (zh 1)<|zu<|.int 0)<|zb (qf<|jH xU<|zb (zc 0)<|zb (zB qD (di (zh 1)<|zu<|.int 0)<|di (zh 1)<|zu<|.int 1)<|zb (qf<|VQ (zh 3)<|zh 4) zD) zD
noncomputable def vw:=jo 2<|vz<|jH ku<|zb (zc 0)<|zb (zc 1)<|zb (qf<|kY zD) zD
noncomputable def Zu:=jo 2<|vz<|jH xU<|zb (zc 0)<|zb (di (zh 1)<|zu<|.int 0)<|zb (di (zR<|zA qa<|zb (zc 1) zD)<|zu<|.int 2) zD
section
variable(γ:Ctx)
@[simp] noncomputable def Ip:=@LC.eq_1
@[simp] noncomputable def Hw:=@IV.eq_1
@[simp] noncomputable def Fz:=@HH.eq_1
end
noncomputable def qT:=jo 1<|j7<|di (jt<|zK (Yt<|zc 0) (.tp [0,1]) 2 [] (sB<|zB gv (zc 1)<|zu<|.int 0) (zc 0))<|zu<|.int 0
noncomputable def vt:=jo 7<|zM (jB 3<|di (zh 1)<|zu<|.int 1)<|zM (vN 4<|sS (jt<|kY<|zb (zu<|.int 0) zD)<|zc 3)<|zM (ZI (zN<|zR<|qf<|jH xU<|zb (zc 0)<|zb (zB qD (zc 3)<|zu<|.int 1)<|zb (qf<|zK (aa (di (zh 1)<|zu<|.int 2)<|zc 2) (.tp [0,1]) 2 [] jd (zB qD (zc 0)<|xk<|zb (zc 1) zD)) zD) (.nm 5)<|zM (jB 6<|zA qT<|zb (zc 5) zD)<|zM (h7 (sB<|zB f9 (zc 6)<|zc 3) (j7<|zu .ez) j1)<|JB 4 (zc 6)<|di (zh 5)<|zc 3)<|j7<|zV<|zh 4
section
variable(γ:Ctx)
@[simp] noncomputable def Hn:=@Yt.eq_1
@[simp] noncomputable def Ik:=@Lz.eq_1
@[simp] noncomputable def Il:=@LA.eq_1
@[simp] theorem FA(F G a b c):kZ F G a b c γ=(a γ).bind λx=>(b γ).bind λy=>((F x y).bind r0).bind λk=>if k=cM then (c γ).bind λz=>G y z else cq (.bl cR):=rfl
@[simp] noncomputable def GY:=@eQ.eq_1
end
noncomputable def kN:=jo 5<|zM (jB 2<|di (zh 1)<|zu<|.int 0)<|zM (h7 (sB<|zB gv (di (zh 1)<|zu<|.int 1)<|zc 2) (j7<|zu .ez) j1)<|zM (jB 3<|di (zR<|zA qH<|zb (zc 2) zD)<|zu<|.int 2)<|zM (jB 4<|qf<|jH xU<|zb (zc 0)<|zb (zB qD (zc 2)<|zc 2)<|zb (qf<|zK (aa (di (zh 1)<|zu<|.int 2)<|zc 3) (.tp [0,1]) 2 [] jd (zB qD (zc 0)<|zc 1)) zD)<|zM (h7 (sB<|zB gv (qf<|zK (zN<|zh 4) (.nm 0) 1 [2] jd (eP (zc 0) dr<|u0<|zc 1))<|qf<|eV<|zh 3) (j7<|zu .ez) j1)<|j7<|xk<|zb (zc 2)<|zb (zc 2)<|zb (zV<|jt<|zK (zN<|zh 4) (.nm 0) 1 [2] jd (eP (zc 0) (u0<|zc 1) dr)) zD
section
variable(γ:Ctx)
@[simp] theorem Ha(i f):mG i f γ=(f γ).bind λC=>if γ.any XD=cR then cq (.next<|γ.set i<|.nest C)else cO:=rfl
@[simp] noncomputable def Fy:=@af.eq_1
@[simp] noncomputable def Eu:=@JC.eq_1
@[simp] noncomputable def Im:=@HF.eq_1
@[simp] noncomputable def Hm:=@Bk.eq_1
@[simp] noncomputable def Ft:=@HD.eq_1
end
@[simp] theorem oZ(r):Je (cq (.nest r))=cq r:=rfl
section
variable(γ:Ctx)
@[simp] noncomputable def Jk:=@xo.eq_1
@[simp] noncomputable def Ap:=@VP.eq_1
@[simp] noncomputable def Hr:=@IT.eq_1
@[simp] noncomputable def lA:=@eW.eq_1
end
noncomputable def qw:=jo 2 (j7 (ab (sB (zB f9 (zc 1) (zu (.str "r")))) (zc 0) (zB qD (zc 0) (zu (.int 1)))))
noncomputable def vx:=jo 2 (j7 (ab (sB (zB f9 (zc 1) (zu (.str "r")))) (zB qD (zc 0) (zu (.int 1))) (zc 0)))
noncomputable def q8:=jo 1 (j7 (ab (sB (zB f9 (zc 0) (zu (.str "r")))) (zu (.str "l")) (zu (.str "r"))))
noncomputable def qM:=jo 2<|zM (jB 1<|qf<|zK (EJ<|di (zh 0)<|zu<|.int 2) (.nm 0) 1 [] jd (xk<|zb (zA q8<|zb (di (zh 0)<|zu<|.int 0) zD)<|zb (di (zh 0)<|zu<|.int 1) zD))<|j7<|xk<|zb (di (zh 0)<|zu<|.int 0)<|zb (Ka<|di (zh 0)<|zu<|.int 1)<|zb (zV<|zh 1) zD
noncomputable def xf:=jo 2<|zM (jB 1<|qf<|zK (zN<|zR<|di (zh 0)<|zu<|.int 2) (.nm 0) 1 [] jd (xk<|zb (zA q8<|zb (di (zh 0)<|zu<|.int 0) zD)<|zb (zA qa<|zb (di (zh 0)<|zu<|.int 1) zD) zD))<|j7<|xk<|zb (di (zh 0)<|zu<|.int 0)<|zb (di (zh 0)<|zu<|.int 1)<|zb (zV<|zh 1) zD
noncomputable def FT(f:CO D):CO D:=λa=>(f a).map λd=> .bl (CI .list d || CI .tuple d)
noncomputable def dq:=jo 1<|j7<|lS (ro .int<|zc 0)<|HE<|ro .bool<|zc 0
noncomputable def Vz:=jo 2<|j7<|lS (zA dq<|zb (zc 1) zD)<|kZ ni pe (zu<|.int 0) (zc 1)<|zc 0
noncomputable def WJ:=jo 2<|j7<|lS (FT<|zc 0)<|zB f9 (yJ<|zh 0)<|zc 1
noncomputable def xu:=jo 1 (j7 (eW (zu (.str "")) (jt (zK (zN (zR (di (zh 0) (zu (.int 2))))) (.nm 0) 1 [] jd (di (zh 0) (zu (.int 0)))))))
noncomputable def ko:=jo 2<|j7<|lS (zB f9 (di (zh 0)<|zu<|.int 0)<|di (zh 1)<|zu<|.int 0)<|zB f9 (zA xu<|zb (zc 0) zD)<|zA xu<|zb (zc 1) zD
noncomputable def qx:=jo 2<|h7 (jX<|sB<|zA ko<|zb (zc 0)<|zb (zc 1) zD) Ys j1
noncomputable def vK:List D->Option Xn:=HJ 2 (H8 (jX (sB (zA ko (zb (zc 0) (zb (zc 1) zD))))) (AF "Unlike") H9)
section
variable{X:Cx}{sc:hL}{N L:List Str}{k:Nat}{a e:eh}{es:List eh}{f:CO D}{g:CO (List D)}{pos p p2:g5}
theorem av(Q:PV X e f)(hs:C5 e cO pos.line X.env=pure cR:=by rfl):md X (.Expr e pos) (sT f):=k8 (fP Q hs) λD j H U=>by obtain⟨E0,E,g,i,k,O,I,Y⟩:=U;obtain⟨d,h,I⟩:=zE I;subst I;exact⟨g,i,d,O.rc,h,λv b a x r=>Y j b a<|O.step x⟩
end
end DL
namespace L2
open PySem PySem.Spec PyProof.Rows
theorem eX:Manifest.owners.lookup (String.ofList ['d','e','s','r','e','v','e','r'].reverse)=cq Manifest.sig_reversed:=by kernel_rfl
theorem Gx:Slot "reversed" "__next__" "reversed.__next__":= .of (owner:="reversed") (n:="__next__") (by rw[Oa,Nt];kernel_rfl) ⋯ ⋯ ⋯ (by first | exact .inl ⋯ | exact .inr ⋯) (by rw[OC];kernel_rfl)
theorem ff:Slot "reversed" "__iter__" "reversed.__iter__":= .of (owner:="reversed") (n:="__iter__") (by rw[Oa,Nt];kernel_rfl) ⋯ ⋯ ⋯ (by first | exact .inl ⋯ | exact .inr ⋯) (by rw[OC];kernel_rfl)
theorem Ts:Slot "reversed" "__length_hint__" "reversed.__length_hint__":= .of (owner:="reversed") (n:="__length_hint__") (by rw[Oa,Nt];kernel_rfl) ⋯ ⋯ ⋯ (by first | exact .inl ⋯ | exact .inr ⋯) (by rw[OC];kernel_rfl)
theorem Yv:entryFor table "reversed.__next__" = cq l6.«reversed.__next__» :=Ta (by kernel_rfl)
theorem fm:entryFor table "reversed.__length_hint__" = cq l6.«reversed.__length_hint__» :=Ta (by kernel_rfl)
theorem eY:entryFor table "reversed.__iter__" = cq l6.«dict_keyiterator.__iter__» :=entryFor_alias (id':="dict_keyiterator.__iter__") (by kernel_rfl) (by first | rfl | decide +kernel | (unfold String.splitOn;simp +decide [String.splitOnAux])) ⋯ (by kernel_rfl)
theorem Yw(a:dy):argsOk "reversed.__next__" ⟨[a],[]⟩:=by unfold argsOk;rw[signature?_of (id:="reversed.__next__") (n:=['_','_','t','x','e','n','_','_']) (o:=['d','e','s','r','e','v','e','r']) (by kernel_rfl) eX];kernel_rfl
theorem eZ(a:dy):argsOk "reversed.__iter__" ⟨[a],[]⟩:=by unfold argsOk;rw[signature?_of (id:="reversed.__iter__") (n:=['_','_','r','e','t','i','_','_']) (o:=['d','e','s','r','e','v','e','r']) (by kernel_rfl) eX];kernel_rfl
theorem fu(a:dy):argsOk "reversed.__length_hint__" ⟨[a],[]⟩:=by unfold argsOk;rw[signature?_of (id:="reversed.__length_hint__") (n:=['_','_','t','n','i','h','_','h','t','g','n','e','l','_','_']) (o:=['d','e','s','r','e','v','e','r']) (by kernel_rfl) eX];kernel_rfl
theorem mJ:C8 (.type "reversed") "__len__" = pure cO:=by rw[Oa,Nt];kernel_rfl
theorem dQ:C8 (.type "tuple") "__reversed__" = pure cO:=by rw[Oa,Nt];kernel_rfl
theorem bJ:isSubtype (.type "tuple") (.type "dict")=pure cR:=by rw[OC];kernel_rfl
abbrev Vy(h:fy)(z t:dn)(i:Int):Prop:=h.get? z=cq {cls:= .type "reversed",dict:=cO,data:= .fields #[.ref t,o8 i],slots:=#[]}
section
variable{prog:il}{w:hG}{A:k0}{E:EQ}{s:ed}
theorem Bm{l:dn}{xs:Array dy}{Q₁:EQ}(I:o7 s.heap l xs)(O:(xs.size:Int)<2 ^ 63)
 (h:Q₁ (.ref s.heap.objs.size) {s with heap:=s.heap.push {cls:= .type "reversed",data:= .fields #[.ref l,o8 ((xs.size:Int) - 1)]},toks:=s.toks+1+1}) :
 codeAny (eg prog w) A (.call (.builtin "reversed.__new__") ⟨[.type "reversed",.ref l],[]⟩) (wants Q₁ E) s:=by
 refine codeAny_of_tree ?_;refine LK (m:=checkBuiltinCall "reversed.__new__" ⟨[.type "reversed",.ref l],[]⟩) (OB (F.newCall_reversed_1 _) (LU ⟨PR F.plain_reversed_new _,OG F.entry_reversed_new ?_⟩));rw[D9 F.plain_reversed_new _];unfold l6.«reversed.__new__»;refine LK (OB (newClass_reversed _) ?_)
 try dsimp only
 refine LK<|OB (a:=()) (by first | rfl | kernel_rfl)<|LK<|OB (a:=()) (by first | rfl | kernel_rfl) ?_
 try dsimp only
 refine LK<|OF I.typeIs dQ ?_
 try dsimp only
 refine LK ?_;show wpAny _ _ (isInstance (.ref l) (.type "dict") >>= _) _ _ _;refine LK (OR (b:=cR) I.typeIs bJ ?_);rw[UY ⋯];refine LK (OF I.typeIs F.slot_tuple_getitem.lookup ?_);dsimp only;rw[UJ ⋯];refine LU ?_;rw[UY ⋯];refine LK (len_tuple I O ?_);refine LK (m:=asInt? _) (LU ?_);dsimp only;refine LK (m:=RV _ _) ?_;unfold RV;exact MZ (LU h)
theorem sV:Slot "reversed" "__init__" "object.__init__":= .of (owner:="object") (n:="__init__") (by rw[Oa,Nt];kernel_rfl) ⋯ ⋯ ⋯ (by first | exact .inl ⋯ | exact .inr ⋯) (by rw[OC];kernel_rfl)
theorem Tr:TypeCalled "reversed" "reversed.__new__" "object.__init__":=⟨by decide +kernel,by decide +kernel,⟨_,_,F.mro_reversed⟩,F.made_reversed,by decide +kernel,by rw[OC];kernel_rfl,sV⟩
theorem fv{l:dn}{xs:Array dy}{Q:EQ}(U:o7 s.heap l xs)(Y:(xs.size:Int)<2 ^ 63)
 (h:Q (.ref s.heap.objs.size) {s with heap:=s.heap.push {cls:= .type "reversed",data:= .fields #[.ref l,o8 ((xs.size:Int) - 1)]},toks:=s.toks+1+1}):wpAny (eg prog w) A (call (.type "reversed") [.ref l]) Q E s:=by
 refine SE (Q₁:=λobj I=>I.TypeIs obj "reversed"/\Q obj I) Tr (F.typeCall_reversed_1 _) F.entry_object_init (Bm U Y ⟨⟨_,Ma _ rfl,rfl⟩,h⟩) λobj I O=>?_;exact⟨O.1,Sv obj _,object_init_meets Tr.init.lookup Tr.made ⋯ prog w A.in1 _ I ⟨O.1,rfl,O.2⟩⟩
theorem VR{z t:dn}{i:Int}{Q:EQ}(hz:Vy s.heap z t i)(h:Q (.ref z) s):wpAny (eg prog w) A (F8 (.ref z)) Q E s:=by have I:s.TypeIs (.ref z) "reversed":=⟨_,hz,rfl⟩;refine wpAny_pyIter_slot I ff (MS ff I eY ?_ (eZ _));have O:wpAny (eg prog w) A.in1 (ret (.ref z)) (λO a=>∃v,O = .done (.ret v)/\∃T m,a.TypeIs v T/\C8 (.type T) "__next__" = pure (cq m)/\Q v a) E s:=LU ⟨_,rfl,"reversed",_,I,Gx.lookup,h⟩;exact O
theorem fi{z t:dn}{i:Nat}{xs:Array dy}{x:dy}{Q:Option dy->ed->Prop}(hz:Vy s.heap z t i)(I:o7 s.heap t xs)(hx:xs[i]? = cq x)(C:(xs.size:Int)<2 ^ 63)
 (Y : ∀g,Vy g z t ((i:Int) - 1)->OW z s.heap g->Q (cq x) {s with heap:=g,toks:=s.toks+1}):wpAny (eg prog w) A (rn<|.ref z) Q E s:=by
 have O:s.TypeIs (.ref z) "reversed":=⟨_,hz,rfl⟩;unfold rn;refine LK (NP (MK (name:=Mw "__next__") O Gx (MS Gx O Yv ?_ (Yw _))));unfold l6.«reversed.__next__»;refine LK (OB (a:=(Nw z,[])) rfl ?_)
 try dsimp only
 refine LK<|MJ hz rfl (x:= .ref t) rfl<|LK<|MJ hz rfl (x:=o8 (i:Int)) rfl ?_;show wpAny _ _ (if (i:Int)<0 then _ else _) _ _ s;rw[UY ⋯];refine LK<|OF I.typeIs F.slot_tuple_getitem.lookup ?_;rw[UY ⋯];refine LK<|wpAny_mkInt ?_;have f:i<xs.size:=(Array.getElem?_eq_some_iff.mp hx).1;have b:o7 ({s with toks:=s.toks+1}:ed).heap t xs:=I;have e:seqIndex? (i:Int) xs.size=cq i:=by unfold seqIndex?;simp;omega
 refine LK<|NP<|getItem_tuple (j:=i) (x:=x) b ⋯ ⋯ e hx ?_;have U:Vy ({s with toks:=s.toks+1}:ed).heap z t i:=hz;refine LK<|MJ U rfl (x:=o8 (i:Int)) rfl ?_;refine LK (m:=G4 (.ref z) 1<|rawInt<|(i:Int) - 1)<|Ng U ⋯ λg l9 d=>?_;exact LU ⟨x,rfl,LU<|Y g l9 d⟩
theorem pP{z t:dn}{i:Int}{Q:Option dy->ed->Prop}(U:A.handled=cO)(C:i<0)(hz:Vy s.heap z t i)(Y : ∀g,Heap.ExtBut z s.heap g->Q cO {s with heap:=g}):wpAny (eg prog w) A (rn<|.ref z) Q E s:=by
 have I:s.TypeIs (.ref z) "reversed":=⟨_,hz,rfl⟩;unfold rn;refine LK (NP (MK (name:=Mw "__next__") I Gx (MS Gx I Yv ?_ (Yw _))));unfold l6.«reversed.__next__»;refine LK (OB (a:=(Nw z,[])) rfl ?_)
 try dsimp only
 refine LK (MJ hz rfl (x:= .ref t) rfl (LK (MJ hz rfl (x:=o8 i) rfl ?_)));show wpAny _ _ (if i<0 then _ else _) _ _ s;rw[UJ C];refine LK (OT ?_);refine LK ?_;show wpAny _ _ (G4 (.ref z) 1 (o8 (-1)) >>= λ_=>G4 (.ref z) 0 .none) _ _ _;refine LK (Ng hz ⋯ λg1 d f=>?_);refine Ng d ⋯ λg2 l9 h=>?_;have j:Heap.ExtBut z s.heap g2:=λb o O e=>h.extBut b o O (f.extBut b o O e);refine LK (m:=Builtin.SmallTypes.stopIteration) ?_;show wpAny _ _ (L7 (.type "StopIteration") [] >>= _) _ _ _;refine LK ?_;simp only[L7,Tc];refine LK (MZ ?_ (by size_fits));refine LK (m:=FG _ _) (OB (a:=MM) (by first | rfl | (simp only[FG];rfl)) ?_);refine MZ ?_ (by size_fits);simp only[raiseNew];refine LK (S_ ?_);rw[show A.in1.handled=cO from U];refine LK (LU (wpAny_throw ?_));refine LK (OR (T:="StopIteration") (b:=cM) ⟨_,Ma _ rfl,rfl⟩ RP ?_);exact LU (Y _ ((j.push _).push _))
theorem mH(hh:A.handled=cO)(z t:dn)(a2:t≠z)(xs:Array dy)(a3:(xs.size:Int)<2 ^ 63) :
 Walks prog w A z [z,t] [z] xs.size (λi v=>xs[xs.size - 1 - i]? = cq v) (λi h=>i<=xs.size/\Vy h z t ((xs.size:Int) - 1 - (i:Int))/\o7 h t xs) where
 sub:=λb I=>by simp at I;simp[I]
 frame:=λ_ _ _ x Y=>⟨x.1,Y z ⋯ _ x.2.1,let ⟨o,ho,r⟩:=x.2.2;⟨o,Y t ⋯ o ho,r⟩⟩
 item:=λi s Q E hi x O=>by
  have e:(xs.size:Int) - 1 - (i:Int)=((xs.size - 1 - i:Nat):Int):=by omega
  have hz:=x.2.1;rw[e]at hz;have hx:xs[xs.size - 1 - i]? = cq (xs[xs.size - 1 - i]'⋯):=Oo ⋯;refine fi hz x.2.2 hx a3 λg l9 a0=>?_;have e2:((xs.size - 1 - i:Nat):Int) - 1=(xs.size:Int) - 1 - ((i+1:Nat):Int):=by omega
  rw[e2]at l9;exact O _ g _ hx ⟨hi,l9,x.2.2.extBut a0.extBut a2⟩ λb o I U=>a0.extBut b o (λh=>I<|by simp[h]) U
 done:=λs Q E x O=>by have hz:=x.2.1;exact pP hh ⋯ hz λg he=>O g s.toks λb o I U=>he b o (λh=>I<|by simp[h]) U
 self:=λ_ _ _ _ x O=>VR x.2.1 O
theorem fj{z t:dn}{xs:Array dy}{Q:EQ}(hz:Vy s.heap z t ((xs.size:Int) - 1))(I:o7 s.heap t xs)(O:(xs.size:Int)<2 ^ 63)
 (h : ∀u tk,s.toks<=tk->Q (.int xs.size u) {s with toks:=tk}):wpAny (eg prog w) A (call (.builtin "reversed.__length_hint__") [.ref z]) Q E s:=by
 have U:s.TypeIs (.ref z) "reversed":=⟨_,hz,rfl⟩;refine MS Ts U fm ?_ (fu _);unfold l6.«reversed.__length_hint__»;refine LK (OB (a:=Nw z) (by first | rfl | kernel_rfl) ?_);refine LK (MJ hz rfl (x:= .ref t) rfl ?_);rw[UY ⋯];refine LK (len_tuple I O ?_);refine LK (m:=asInt? _) (LU ?_);have Y:Vy ({s with toks:=s.toks+1+1}:ed).heap z t ((xs.size:Int) - 1):=hz;refine LK (MJ Y rfl (x:=o8 ((xs.size:Int) - 1)) rfl ?_);show wpAny _ _ (if (xs.size:Int)<(xs.size:Int) - 1+1 then _ else _) _ _ _;rw[UY ⋯];refine LK (m:=mkInt _) (wpAny_mkInt (LU ⟨_,rfl,?_⟩));rw[show(xs.size:Int) - 1+1=xs.size by omega];exact h _ _ (by show s.toks<=s.toks+1+1+1;omega)
end
section
variable{prog:il}{w:hG}{A:k0}{E:EQ}{s:ed}
theorem bX{z t:dn}{xs:Array dy}{Q:List dy->ed->Prop}(hh:A.handled=cO)(Z:t≠z)(hz:Vy s.heap z t ((xs.size:Int) - 1))(S:o7 s.heap t xs)(L:xs.size<=fe)
 (J : ∀C acc,Moved [z] (λa b=>b=a) s C->ItemsOf (λi v=>xs[xs.size - 1 - i]? = cq v) acc xs.size->Q acc.toList C):wpAny (eg prog w) A (collect<|.ref z) Q E s:=by
 have x:(xs.size:Int)<2 ^ 63:=by
  have:fe<2 ^ 63:=by decide
  omega
 have W:=(mH (prog:=prog) (w:=w) (A:=A.in1) hh z t Z xs x).toS;have lz:=Me hz;have lt:=S.lt;have y:z<s.heap.objs.size:=lz;have K:t<s.heap.objs.size:=lt;have M:(λi (s:ed)=>i<=xs.size/\Vy s.heap z t ((xs.size:Int) - 1 - ((i:Nat):Int))/\o7 s.heap t xs) 0 s:=⟨MR _,by simpa using hz,S⟩;have j:s.heap.objs.size ∉ [z,t]:=λI=>by
  simp only[Mc,Mn,or_false]at I;rcases I with e | e
  ·exact NL y e
  ·exact NL K e
 have N:s.heap.objs.size≠z:=NL y;unfold collect;refine LK (wpAny_runValue (OG F.entry_proto_collect ?_));rw[D9 F.plain_proto_collect _];show wpAny _ A.in1 (newList [] >>= λl=>again (.builtin "list.__iadd__" ⟨[l,.ref z],[]⟩)) _ _ s;refine LK (MZ (LU ⟨PR F.plain_list_iadd _,OG F.entry_list_iadd ?_⟩));rw[D9 F.plain_list_iadd _];have U:=W.frame 0 s (s.heap.push {cls:= .type "list",data:= .seq ([]:List dy).toArray}) s.toks M (LW _) λb _ o e=>LN _ e;obtain⟨_,P,R⟩:=id U;have B:Vy (s.heap.push {cls:= .type "list",data:= .seq ([]:List dy).toArray}) z t ((xs.size:Int) - 1):=by simpa using P
 have Y:Shared.TypeIs {s with heap:=s.heap.push {cls:= .type "list",data:= .seq ([]:List dy).toArray}} (.ref z) "reversed":=⟨_,B,rfl⟩;have k:(s.heap.push {cls:= .type "list",data:= .seq ([]:List dy).toArray}).get? s.heap.objs.size=cq {cls:= .type "list",data:= .seq ([]:List dy).toArray}:=Ma _ rfl;have h1:Pa (.ref s.heap.objs.size) (.ref z)=cR:=by simp[Pa,N]
 show wpAny _ A.in1 (NZ (.ref s.heap.objs.size) (.ref z) (.ref s.heap.objs.size)) _ _ _;unfold NZ;refine LK (Pf Y ?_);rw[UY (by rw[h1];decide)];refine LK (W.self 0 _ _ _ U (LK (NG ?_)));unfold Builtin.List.listLengthHint;refine LK (OF Y mJ ?_);show wpAny _ A.in1 (specialOf (Nw z) (Mw "__length_hint__") >>= _) _ _ _;refine LK (OF Y Ts.lookup ?_);generalize an:("reversed.__length_hint__" : String)=bb;wp_delta;rw[show splitId bb=cq ("reversed","__length_hint__")from by subst an;decide +kernel];subst an;refine LK (OR (b:=cM) Y (by rw[OC];kernel_rfl) ?_);rw[UY ⋯,UY ⋯];refine LK (OT (LK (OB (Ts.bind _) ?_)));dsimp only;refine LK (NP (fj B R x λu tk f=>?_));dsimp only;have ea:asInt? (Value.int (xs.size:Int) u)=pure (cq (xs.size:Int)):=rfl;rw[ea,pure_bind];dsimp only;have hk:Oi (Int.toNat (xs.size:Int))=cR:=by simp[Oi];omega
 have T:PY (xs.size:Int)=cM:=by simp[PY];omega
 rw[UY (by rw[T];decide),UY ⋯,UY (by rw[hk];decide)];refine LU ?_;have X:=W.frame 0 _ _ tk U f λb _ o e=>e;by_cases h0:xs.size=0
 ·have r:((xs.size:Int) != 0)=cR:=by simp[h0]
  rw[r,UY ⋯];refine LU ⟨PR OO _,codeAny_extend_loopS W L _ j _ xs.size 0 _ _ _ rfl (MR _) X k (ItemsOf.nil _) λC m c' I n p=>?_⟩;show wpAny _ A (load s.heap.objs.size >>= _) _ _ C;exact LK (wpAny_load n (LU (J C m (Moved.drop_new (o:={cls:= .type "list",data:= .seq ([]:List dy).toArray}) (tk:=tk) I f) p)))
 ·have r:((xs.size:Int) != 0)=cM:=bne_iff_ne.mpr ⋯
  rw[r,Bool.true_or,UJ rfl];refine LK (OT (LK ?_));show wpAny _ A.in1 (updateSeq s.heap.objs.size (·.push .none) >>= λ_=>updateSeq s.heap.objs.size (·.pop)) _ _ _;refine LK (E1 k rfl ?_ ⋯ ⋯);have G:=NB (ME (·.push MM)) k rfl;refine E1 G rfl ?_ (by simp;decide) ⋯;have H:=NB (ME (·.pop)) G rfl;generalize hg:((s.heap.push {cls:= .type "list",data:= .seq ([]:List dy).toArray}).update s.heap.objs.size (ME (·.push MM))).update s.heap.objs.size (ME (·.pop))=g at H ⊢;have d : ∀b o,b≠s.heap.objs.size->(s.heap.push {cls:= .type "list",data:= .seq ([]:List dy).toArray}).get? b=cq o->g.get? b=cq o:=λb o O e=>by rw[<- hg];exact(Mx _ _ (My O)).trans ((Mx _ _ (My O)).trans e)
  refine LU ⟨PR OO _,codeAny_extend_loopS W L _ j _ xs.size 0 _ _ _ rfl (MR _)
   (W.frame 0 ({s with heap:=s.heap.push {cls:= .type "list",data:= .seq ([]:List dy).toArray}}:ed) g tk U f λb O o e=>d b o (λh=>j (h ▸ O)) e) H (ItemsOf.nil _) λC m c' I n p=>?_⟩
  show wpAny _ A (load s.heap.objs.size >>= _) _ _ C;have mv:Moved [s.heap.objs.size,z] (λa b=>b=a) ({s with heap:=s.heap.push {cls:= .type "list",data:= .seq ([]:List dy).toArray},toks:=tk}:ed) ({s with heap:=g,toks:=tk}:ed):=
   ⟨λb o O e=>d b o (λh=>O<|h ▸ Mh) e,rfl,rfl,rfl,LW _⟩
  exact LK (wpAny_load n (LU (J C m (Moved.drop_new (o:={cls:= .type "list",data:= .seq ([]:List dy).toArray}) (tk:=tk) (Moved.trans W.gtrans mv I) f) p)))
theorem Yu{z t:dn}{xs:Array dy}{Q₁:EQ}(Q:A.handled=cO)(U:t≠z)(hz:Vy s.heap z t ((xs.size:Int) - 1))(Y:o7 s.heap t xs)(I:xs.size<=fe)
 (h : ∀C acc,Moved [z] (λa b=>b=a) s C->ItemsOf (λi v=>xs[xs.size - 1 - i]? = cq v) acc xs.size->Q₁ (.ref C.heap.objs.size) {C with heap:=C.heap.push {cls:= .type "tuple",data:= .seq acc}}) :
 codeAny (eg prog w) A (.call (.builtin "tuple.__new__") ⟨[.type "tuple",.ref z],[]⟩) (wants Q₁ E) s:=by
 refine codeAny_of_tree ?_;refine LK (m:=checkBuiltinCall "tuple.__new__" ⟨[.type "tuple",.ref z],[]⟩) (OB (F.newCall_tuple_1 _) (LU ⟨PR F.plain_tuple_new _,OG F.entry_tuple_new ?_⟩));rw[D9 F.plain_tuple_new _];have f:=sub_tuple_self;have g:=init_tuple_lookup;have j:=madeHere_tuple;have d:s.TypeIs (.ref z) "reversed":=⟨_,hz,rfl⟩
 wp_walk using Pf d,bX (A:=A.in1) Q U hz Y I
 intro C acc e O;show wpAny _ _ (Nu acc.toList.toArray >>= λv=>ret v) _ _ _;unfold Nu;refine LK (MZ (LU ?_)<|by show acc.toList.toArray.size<=fe;simp only[Array.toArray_toList];rw[O.1];exact I);rw[show acc.toList.toArray=acc by simp];exact h C acc e O
theorem mI{z t:dn}{xs:Array dy}{Q:EQ}(U:A.handled=cO)(Y:t≠z)(hz:Vy s.heap z t ((xs.size:Int) - 1))(S:o7 s.heap t xs)(L:xs.size<=fe)
 (J : ∀C acc,Moved [z] (λa b=>b=a) s C->ItemsOf (λi v=>xs[xs.size - 1 - i]? = cq v) acc xs.size->Q (.ref C.heap.objs.size) {C with heap:=C.heap.push {cls:= .type "tuple",data:= .seq acc}}) :
 wpAny (eg prog w) A (call (.type "tuple") [.ref z]) Q E s:=by
 refine SE (Q₁:=λobj I=>I.TypeIs obj "tuple"/\Q obj I) F.called_tuple (F.typeCall_tuple_1 _) F.entry_object_init
  (Yu U Y hz S L λC acc e d=>⟨⟨_,Ma _ rfl,rfl⟩,J C acc e d⟩) λobj I O=>?_
 exact⟨O.1,Sv obj _,object_init_meets F.called_tuple.init.lookup F.called_tuple.made ⋯ prog w A.in1 _ I ⟨O.1,rfl,O.2⟩⟩
end
noncomputable def O5(K:LM)(a:dn)(n:Nat):It:=
 ⟨λi H=>i<n/\∃b,gu K H a b/\b.length=n,λi H x d=>d=H/\∀b,gu K H a b->b[n - 1 - i]? = cq x,λi H=>n<=i⟩
theorem Ku{n:Nat}(h:n<=fe):(n:Int)<2 ^ 63:=by
 have:fe<2 ^ 63:=by decide
 omega
theorem mn{P:il}{w:hG}{K:LM}{tg:eh}(a z:dn)(n:Nat):Turn P w K tg (O5 K a n) [z] z (λi h=>Vy h z a<|(n:Int) - 1 - (i:Nat)) where
 mem:=by simp
 obj:=λi h st b O=>by
  have e:b=z:=by simpa using O
  subst e;exact⟨_,st,λv q=>by cases q⟩
 keep:=λi h h' st k=>k z ⋯ _ st
 item:=by
  intro X Y hw hK hc i pins s σ H E I Q st U;subst Y hw hK;obtain⟨hi,xs,hq,hn⟩:=U;obtain⟨its,rv,p,hz⟩:=I.tuple hq;have hl:=rv.length;have hx:xs[n - 1 - i]? = cq (xs[n - 1 - i]'⋯):=LP ⋯;obtain⟨u,hu,ru⟩:=rv.get hx;obtain⟨f0,f1,f2,f3,f4,f5⟩:=Q z ⋯;have am:Vy s.heap z a ((n - 1 - i:Nat):Int):=by rwa [show((n - 1 - i:Nat):Int)=(n:Int) - 1 - (i:Nat)by omega]
  refine fi am (show o7 s.heap a its.toArray from p) (x:=u) (by simpa using hu) (Ku<|by simp;omega) λg l9 sb=>?_;have I1:Inv X pins σ H {s with heap:=g,toks:=s.toks+1}:=I.turned (λb o O e=>(sb.2 b O).trans e) f0 f1 f3 f4 f5;rw[show((n - 1 - i:Nat):Int) - 1=(n:Int) - 1 - ((i+1:Nat))by omega]at l9;exact⟨u,rfl,oH (s:={s with heap:=g,toks:=s.toks+1}) l9 rfl rfl ⋯ ⟨_,H,I1,ru,⟨rfl,λys hy=>by rw[I.TR hy hq];exact hx⟩,l9,λb O=>(Q b O).1⟩⟩
 done:=by intro X Y hw hK hc i pins s σ H E I Q st U;subst Y hw hK;obtain⟨f0,f1,f2,f3,f4,f5⟩:=Q z ⋯;have U:n<=i:=U;exact pP (I.ok.hd hc) ⋯ st λg eb=>⟨rfl,I.turned (t':=s.toks) (λb o O e=>eb b o O e) f0 f1 f3 f4 f5⟩
 self:=λ_ _ _ _ _ st h=>VR st h
noncomputable def Ll(K:LM)(C:TA):TI:=λf H R=>C f H λe b=>∃a d,e=[.ref a]/\gu K b a d/\R (O5 K a d.length) b
theorem BQ{X:Cx}{C tg:eh}{J:TA}{p pos:g5}(S:Gl X "reversed")(Z:X.mg "reversed" = cO)(L:PA X [C] J)
 (hs:fA [C] X.env=[(cR,el C X.env)]:=by rfl):PI X tg (.Call (.Name "reversed" p) [C] [] pos) (Ll X.K J):=by
 intro d s k H R I h;refine Dc (kI I S Z PyProof.Rows.boot_reversed (MC (e9 (L pos d s k H _ I h) λB b u=>?_) (by rw[hs];rfl) rfl));obtain⟨E,i,O,A,z⟩:=u;obtain⟨a,f,e,m,q⟩:=z;subst e;obtain⟨F,t,n⟩:=yh A;subst t;cases n;obtain⟨Q,r,y,G⟩:=O.tuple m;have x:=r.length;refine fv (show o7 b.heap a Q.toArray from y) (Ku (by simp;omega)) ?_;generalize U:b.heap.push {cls:= .type "reversed",data:= .fields #[.ref a,o8 ((Q.toArray.size:Int) - 1)]}=g;have Y:Vy g b.heap.objs.size a ((f.length:Int) - 1 - (0:Nat)):=by rw[<- U,show((f.length:Int) - 1 - (0:Nat))=(Q.toArray.size:Int) - 1 by simp[x]];exact Ma _ rfl
 refine VR (s:={b with heap:=g,toks:=b.toks+1+1}) Y ?_;have l:Inv X d k i {b with heap:=g,toks:=b.toks+1+1}:=O.kept λc o e=>by rw[<- U];exact LN _ e
 refine⟨_,[b.heap.objs.size],_,_,i,rfl,l,mn a _ f.length,Y,λc w=>?_,q⟩;have j:b.heap.objs.size<=c:=by
  have e:c=b.heap.objs.size:=by simpa using w
  rw[e];exact LW _
 exact O.uO j<|O.f6.fresh j
noncomputable def sx(K:LM)(C:TA):TE:=λf H Q=>C f H λe b=>∃a d,e=[.ref a]/\gu K b a d/\∀l,b l=cO->Q (.ref l) (upd b l<|.tup d.reverse)
theorem gh{X:Cx}{J:eh}{Z:TA}{p pos L C:g5}(hc:X.calm=cM)(hg:Gl X "tuple")(hm:X.mg "tuple" = cO)(am:Gl X "reversed")(an:X.mg "reversed" = cO)(ha:PA X [J] Z)
 (hs:fA [J] X.env=[(cR,el J X.env)]:=by rfl) (S:fA [.Call (.Name "reversed" L) [J] [] C] X.env=[(cR,el (.Call (.Name "reversed" L) [J] [] C) X.env)]:=by rfl) :
 PE X (.Call (.Name "tuple" p) [.Call (.Name "reversed" L) [J] [] C] [] pos) (sx X.K Z):=by
 intro d s n H Q I h;refine Ot (kI I hg hm PyProof.Rows.boot_tuple (MC ?_ (by rw[S];rfl) rfl) ⋯ ⋯);rw[S];show wpAny _ _ (M9 ((cR,el (.Call (.Name "reversed" L) [J] [] C) X.env)::r6 pos [])) _ _ s;refine Rq (Ot (kI I am an PyProof.Rows.boot_reversed (MC (e9 (ha C d s n H _ I h) λus i hZ=>?_) (by rw[hs];rfl) rfl) ⋯ ⋯));obtain⟨vs,k,Y,r1,q1⟩:=hZ;obtain⟨a,B,e,F,q⟩:=q1;subst e;obtain⟨w1,R,G⟩:=yh r1;subst R;cases G;obtain⟨O,u,r,z1⟩:=Y.tuple F;have hl:=u.length;have l:O.toArray.size<=fe:=by simp;omega
 refine fv (show o7 i.heap a O.toArray from r) (Ku l) ?_;generalize a4:i.heap.push {cls:= .type "reversed",data:= .fields #[.ref a,o8 ((O.toArray.size:Int) - 1)]}=g;have A : ∀c o,i.heap.get? c=cq o->g.get? c=cq o:=λc o e=>by rw[<- a4];exact LN _ e
 have g4:Vy g i.heap.objs.size a ((O.toArray.size:Int) - 1):=by rw[<- a4];exact Ma _ rfl
 have t:Inv X d n k {i with heap:=g,toks:=i.toks+1+1}:=Y.kept A;refine RE ?_;have pt:o7 g a O.toArray:=IsTup.keeps r A;refine mI (s:={i with heap:=g,toks:=i.toks+1+1}) (t.ok.hd hc) (Ml<|IsTup.lt r) g4 pt l λf acc m M=>?_;obtain⟨T,f1,f2,W,f4,f5⟩:=(Y.uO (H':=k) (LW _) (Y.f6.fresh<|LW _):vD X d k i.heap.objs.size);have U:=t.turned (h':=f.heap) (it:=i.heap.objs.size) (t':=f.toks) (λb o hb e=>m.heap b o (by simpa using hb) e) T f1 W f4 f5;have U:Inv X d n k {i with heap:=f.heap,toks:=f.toks}:=U;have P:({i with heap:=f.heap,toks:=f.toks}:ed)=f:=by obtain⟨h1,h2,h3,h4,h5⟩:=f;have J:=m.gens;have y:=m.drawn;have z:=m.os;simp only at J y z;simp only[J,y,z]
 rw[P]at U;have N:acc=O.reverse.toArray:=by
  apply Array.ext';apply NK;intro j;obtain⟨n1,n2⟩:=M;simp only[Mb]at n1;by_cases hj:j<O.length
  ·have x:j<acc.size:=by omega
   have:=n2 j acc[j] (Oo x);simp only[Mb,List.getElem?_toArray]at this;simp only[RX,List.toList_toArray];rw[Oo x,List.getElem?_reverse hj,this]
  ·simp only[RX,List.toList_toArray]
   rw[Array.getElem?_eq_none ⋯,Sa (by simp;omega)]
 subst N;have E:Inv X d n (upd k f.heap.objs.size (.tup B.reverse)) {f with heap:=f.heap.push {cls:= .type "tuple",data:= .seq O.reverse.toArray}}:=
  U.laid (t':=f.toks) (λb o e=>LN _ e) (LW _) (show m3 X.prog X.w _ _ _ (.tup B.reverse)from⟨by simp;omega,O.reverse,u.reverse,uf.new _ _⟩)
 exact⟨.ref f.heap.objs.size,_,E,rfl,q _<|U.f6.fresh<|LW _⟩
end L2
namespace DL
open PySem PySem.Spec PyProof.Rows L2
theorem ya(h:Df X es n g):B1 X es g:=h.1
theorem d9.rev{K:LM}{H:Hp}{ds:List D}{xs:List V}(r:d9 K H ds xs):d9 K H ds.reverse xs.reverse:=by
 induction ds generalizing xs with
 | nil=>rw[r.p5];exact d9.nil
 | cons d ds I=>
  obtain⟨x,b,e,O,a⟩:=r.m8;rw[e,RF,RF];exact(I a).append (d9.cons O d9.nil)
theorem mf{K:LM}{H0 C:Hp}{a:dn}{xs:List V}{ds:List D}(J:gu K C a xs)(r:d9 K H0 ds xs):Walk K H0 C (O5 K a xs.length) ds.reverse:=by
 have I:=r.length;refine⟨λi e s b=>?_,λe s=>?_,λi e x g s b y=>?_⟩
 ·rw[Sn]at b;exact⟨by omega,xs,mr s J,rfl⟩
 ·rw[Sn];exact(by omega:xs.length<=ds.length)
 ·obtain⟨h,O⟩:=y
  subst h;rw[Sn]at b;obtain⟨d,j,Q⟩:=r.Dm<|O xs<|mr s J;exact⟨d,by rw[List.getElem?_reverse b,<- I];exact j,λf k l=>⟨f,Ext.refl l,Q.mono k⟩⟩
section
variable{X:Cx}{sc:hL}{N L:List Str}{k:Nat}{a tg:eh}{pos p Dn p2:g5}{f:CO D}
theorem tX(h:SX X sc N L k)(c:vZ sc "reversed" = cM)(z:X.mg "reversed" = cO)(C:PV X a f)(hs:fA [a] X.env=[(cR,el a X.env)]:=by rfl):i0 X tg (.Call (.Name "reversed" p) [a] [] pos) (EJ f):=
 QW (BQ (h.gl c).1 z (jA C qG hs) hs) λn H R Q=>by
  obtain⟨g,j,l,rc,I,q⟩:=Q;obtain⟨d,U,I⟩:=ze I;cases d with
  | tup m=>
   cases I;refine⟨g,j,_,rc,U,λv e b x r=>?_⟩;obtain⟨Y,i,rfl,O,g2⟩:=kW r;exact⟨Y,i,rfl,mr x.sub O,q _ e b x<|mf O g2⟩
  | _=>cases I
theorem fF(h:SX X sc N L k)(c:vZ sc "tuple" = cM)(z:X.mg "tuple" = cO)(U:vZ sc "reversed" = cM)(Y:X.mg "reversed" = cO)(J:PV X a f)(hs:fA [a] X.env=[(cR,el a X.env)]:=by rfl)
 (C:fA [.Call (.Name "reversed" p2) [a] [] Dn] X.env=[(cR,el (.Call (.Name "reversed" p2) [a] [] Dn) X.env)]:=by rfl):PV X (.Call (.Name "tuple" p) [.Call (.Name "reversed" p2) [a] [] Dn] [] pos) (Ka f):=
 qC (gh h.calm (h.gl c).1 z (h.gl U).1 Y (jA J qG hs) hs C) λu H Q m=>by
  obtain⟨b,o,d,rc,I,q⟩:=m;obtain⟨i,j,I⟩:=ze I;cases i with
  | tup t=>
   cases I;refine⟨b,o,_,rc,j,λv s e x r=>?_⟩;obtain⟨g,n,rfl,g1,g2⟩:=kW r;exact⟨g,n,rfl,mr x.sub g1,λl O=>q _ _ _ (x.trans<|Ext.alloc x.sub O _)<|xp (gu.of zJ)<|g2.rev.mono<|jh (js x.sub O) _⟩
  | _=>cases I
end
section
variable{K:LM}{E0 E H0 H:Hp}{σ:St}{γ:Ctx}
theorem d9.dropLast : ∀{ds:List D} {xs:List V},d9 K H ds xs->d9 K H ds.dropLast xs.dropLast
 | [],xs,r=>by rw[r.p5];exact d9.nil
 | [d],xs,r=>by obtain⟨x,b,e,_,a⟩:=r.m8;rw[e,a.p5];exact d9.nil
 | d::d2::ds,xs,r=>by obtain⟨x,b,e,I,a⟩:=r.m8;obtain⟨Q,U,O,_,_⟩:=a.m8;subst e O;exact d9.cons I<|d9.dropLast a
end
section
variable{X:Cx}{sc:hL}{N L:List Str}{k:Nat}{a b e:eh}{pos p p2:g5}{f g:CO D}
theorem cc{c:eh}{C:CO D}(J:PV X a C){U:CO (Sk×List D)}(S:PQ X c U)(Z:z3 .NotIn c=cR:=by with_unfolding_all rfl):m4 X (.Compare a [.NotIn] [c] pos) (sB<|Kb C U):=
 VW (fM YL J S Z) λN H Q z=>by
  obtain⟨h,g,d,rc,I,q⟩:=z;obtain⟨F,n,w⟩:=ze I;obtain⟨x,o,I⟩:=ze n;obtain⟨⟨f,m⟩,s,I⟩:=ze I;obtain⟨i,t,I⟩:=ze I;obtain⟨l,u,rfl⟩:=zE I;cases w;refine⟨h,g,x,rc,o,λY E j x1 O=>⟨j,g,f,m,rc.ext x1,s,λp M b k B e G r=>?_⟩⟩;rw[jS t]at O;have y:=Y5 r u;subst y;have A:gB X.K b p (l.map V.int)\/gu X.K b p (l.map V.int):=by
   cases f with
   | L=>exact .inl e
   | T=>exact .inr e
  refine⟨p,_,rfl,A,by rw[show Y = .int i from O];rfl,Vg l,?_⟩;rw[show Y = .int i from O,hV];exact⟨_,rfl,q b k<|x1.trans B⟩
end
end DL
namespace L2
open PySem PySem.Spec PyProof.Rows
theorem GA(z:Str):N1 z = "str_ascii_iterator"\/N1 z = "str_iterator":=by unfold N1;split<;>simp
theorem aY{X:Cx}{C:UQ}{Z:St}{H:Hp}{s:ed}{E:EQ}{z it:dn}{i tk:Nat}{x:dy}{v:V}{g:fy}{J:List eh}{x1:Nat}{L:g5}{Q:Unit->ed->Prop}
 (I:Inv X C Z H s) (S : ∀b ∈ [z,it],vD X C H b) (hz:z<s.heap.objs.size) (hi:it<s.heap.objs.size) (a1:O3 g z it ((i:Int)+1) x s.heap.objs.size)
 (a3:lp g s.heap.objs.size (.int i tk) x) (a5 : ∀b o,b≠z->b≠it->s.heap.get? b=cq o->g.get? b=cq o) (rx:RelV v x)
 (a8 : ∀g2,t9 g2 z it ((i+1:Nat):Int) x->OW z g g2->Inv X C Z (upd H s.heap.objs.size<|.tup [.int i,v]) {s with heap:=g2,toks:=tk+1}->H s.heap.objs.size=cO->
   (∀b ∈ [z,it],upd H s.heap.objs.size (.tup [.int i,v]) b=cO)->Q () {s with heap:=g2,toks:=tk+1}) :
 wpAny (eg X.prog X.w) X.A (L6 (.Tuple J x1 L) (.ref z)<|.ref s.heap.objs.size) Q E {s with heap:=g,toks:=tk+1}:=by
 refine U' a1 λg2 l9 Y=>?_;have a:lp g2 s.heap.objs.size (.int i tk) x:=Y.extBut _ _ (NL hz) a3;have f : ∀O u,O ∉ [z,it]->s.heap.get? O=cq u->g2.get? O=cq u:=λO u U e=>by simp only[Mc,Mn,or_false,not_or]at U;exact Y.extBut _ _ U.1<|a5 O u U.1 U.2 e
 refine a8 g2 (by have:=l9;rwa [show((i:Int)+1)=((i+1:Nat):Int)by omega]at this) Y (I.TU (fp:=[z,it]) f S (LW _) ⟨by show 2<=fe;decide,[.int i tk,x],.cons ⟨_,rfl⟩<|.cons rx .nil,⟨_,a,rfl,_,rfl⟩⟩) I.fresh λO U=>?_;have d:O≠s.heap.objs.size:=by
  simp only[Mc,Mn,or_false]at U;rcases U with rfl | rfl
  ·exact Ml hz
  ·exact Ml hi
 rw[zG d];exact(S O U).1
noncomputable def Hz(K:LM)(a:dn):It:=
 ⟨λi H=>∃b,gB K H a b/\i<b.length,
  λi H x d=>∃p u,x = .ref p/\H p=cO/\d=upd H p (.tup [.int i,u])/\(∀b,gB K H a b->b[i]? = cq u),
  λi H=>∃b,gB K H a b/\b.length=i⟩
theorem bI{P:il}{w:hG}{K:LM}{elts:List eh}{x1:Nat}{tw:g5}{z it a:dn}(a9:z≠it) :
 Turn P w K (.Tuple elts x1 tw) (Hz K a) [z,it] z (λi h=>(∃Q,t9 h z it i Q)/\h.IsListIter it a i) where
 mem:=by simp
 obj:=λi h ⟨⟨Q,hz⟩,h1⟩ y hy=>by
  simp only[Mc,Mn,or_false]at hy;rcases hy with rfl | rfl
  ·exact⟨_,hz,λv q=>by cases q⟩
  ·obtain⟨o,e,c,d⟩:=h1
   exact⟨o,e,λv q=>by rw[d]at q;cases q⟩
 keep:=λi h h' ⟨⟨Q,hz⟩,h1⟩ k=>⟨⟨Q,k z ⋯ _ hz⟩,h1.at λo e=>k it ⋯ o e⟩
 item:=by
  rintro X rfl rfl rfl hc i pins s σ H E I hf ⟨⟨Q,hz⟩,h1⟩ ⟨xs,a0,b5⟩;obtain⟨a6,a7,p1,z1⟩:=I.list a0;have U:=p1.isList;have hx:xs[i]? = cq xs[i]:=LP b5;have l1:=a7.length;have an:a≠it:=λe=>by obtain⟨o,e1,O,_⟩:=U;obtain⟨o2,Y,c2,_⟩:=h1;rw[e,Y]at e1;cases e1;rw[c2]at O;exact absurd O ⋯
  have b8:z≠a:=λe=>by obtain⟨o,e1,O,_⟩:=U;have ax:s.heap.get? z=cq _:=hz;rw[e,e1]at ax;cases ax;exact absurd O ⋯
  have b9:it<s.heap.objs.size:=by obtain⟨o2,Y,_⟩:=h1;exact Me Y
  have Dr:=Draws.list (prog:=X.prog) (w:=X.w) (A:=X.A.in1) (show X.A.in1.handled=cO from I.ok.hd hc) it a an a6.toArray;refine V' Dr hz ⟨h1,U⟩ (by simp;omega) a9 (by simp;exact⟨a9,b8⟩) λx g tk hP a1 a2 a3 a4 a5=>⟨_,rfl,?_⟩;obtain⟨u1,bi,bl⟩:=a7.get hx;obtain rfl:u1=x:=by have:=hP;simp[bi]at this;exact this
  refine aY I hf (Me hz) b9 a1 a3 a5 bl λg2 b1 b2 I1 bn hn=>⟨.ref s.heap.objs.size,_,I1,rfl,⟨_,_,rfl,bn,rfl,λc6 bx=>by rw[I.S7 bx a0];exact hx⟩,⟨⟨_,b1⟩,a2.1.at λo e=>b2.extBut _ _ a9.symm e⟩,hn⟩
 done:=by
  rintro X rfl rfl rfl hc i pins s σ H E I hf ⟨⟨Q,hz⟩,h1⟩ ⟨xs,a0,hi⟩;obtain⟨a6,a7,p1,z1⟩:=I.list a0;have U:=p1.isList;have l1:=a7.length;have an:a≠it:=λe=>by obtain⟨o,e1,O,_⟩:=U;obtain⟨o2,Y,c2,_⟩:=h1;rw[e,Y]at e1;cases e1;rw[c2]at O;exact absurd O ⋯
  have Dr:=Draws.list (prog:=X.prog) (w:=X.w) (A:=X.A.in1) (show X.A.in1.handled=cO from I.ok.hd hc) it a an a6.toArray;have en:a6.toArray.size=i:=by simp;omega
  rw[en]at Dr;refine U_ Dr hz ⟨h1,U⟩ λg hk=>⟨rfl,?_⟩;refine I.wo (t':=s.toks) (fp:=[z,it]) (λb' u hb e=>?_) hf;simp only[Mc,Mn,or_false,not_or]at hb;exact hk b' u hb.2 e
 self:=λ_ _ _ _ _ st h=>yb st.1.choose_spec h
noncomputable def Hy(z:Str):It:=
 ⟨λi _=>i<z.cps.size,λi H x a=>∃p c,x = .ref p/\H p=cO/\a=upd H p (.tup [.int i,.str ⟨#[c]⟩])/\z.cps[i]? = cq c,λi _=>i=z.cps.size⟩
theorem Vi{prog:il}{w:hG}{A:k0}(I:A.handled=cO)(it:dn)(x:Str)(t:q7) :
 Draws prog w A it [it] x.cps.size (λi v=>∃c u,x.cps[i]? = cq c/\v = .str ⟨#[c]⟩ u) (λi h=>h.IsStrIter it (N1 x) x t i):=by
 rcases GA x with q | q
 ·rw[q];exact Draws.strAscii I it x t
 ·rw[q];exact Draws.strWide I it x t
theorem bH{P:il}{w:hG}{K:LM}{elts:List eh}{x1:Nat}{tw:g5}{z it:dn}(x:Str)(t:q7)(Q:z≠it) :
 Turn P w K (.Tuple elts x1 tw) (Hy x) [z,it] z (λi h=>(∃O,t9 h z it i O)/\h.IsStrIter it (N1 x) x t i) where
 mem:=by simp
 obj:=λi h ⟨⟨O,hz⟩,h1⟩ y hy=>by
  simp only[Mc,Mn,or_false]at hy;rcases hy with rfl | rfl
  ·exact⟨_,hz,λv q=>by cases q⟩
  ·obtain⟨o,e,c,d⟩:=h1
   exact⟨o,e,λv q=>by rw[d]at q;cases q⟩
 keep:=λi h h' ⟨⟨O,hz⟩,h1⟩ k=>⟨⟨O,k z ⋯ _ hz⟩,by obtain⟨o,e,r⟩:=h1;exact⟨o,k it ⋯ o e,r⟩⟩
 item:=by
  rintro X rfl rfl rfl U i pins s σ H E I Y ⟨⟨O,hz⟩,h1⟩ a8;have a9:it<s.heap.objs.size:=by obtain⟨o2,e2,_⟩:=h1;exact Me e2
  have Dr:=Vi (prog:=X.prog) (w:=X.w) (A:=X.A.in1) (show X.A.in1.handled=cO from I.ok.hd U) it x t;refine V' Dr hz h1 a8 Q (by simp;exact Q) λu g tk hP a1 a2 a3 a4 a5=>⟨_,rfl,?_⟩;obtain⟨c,tu,as,rfl⟩:=hP;refine aY (v:= .str ⟨#[c]⟩) I Y (Me hz) a9 a1 a3 a5 ⟨_,rfl⟩ λg2 b1 b2 I1 b0 hn=>⟨.ref s.heap.objs.size,_,I1,rfl,⟨_,_,rfl,b0,rfl,as⟩,⟨⟨_,b1⟩,?_⟩,hn⟩;obtain⟨o,e,r⟩:=a2;exact⟨o,b2.extBut _ _ Q.symm e,r⟩
 done:=by rintro X rfl rfl rfl U i pins s σ H E I Y ⟨⟨O,hz⟩,h1⟩ hi;have hi:i=x.cps.size:=hi;subst hi;have Dr:=Vi (prog:=X.prog) (w:=X.w) (A:=X.A.in1) (show X.A.in1.handled=cO from I.ok.hd U) it x t;refine U_ Dr hz h1 λg hk=>⟨rfl,?_⟩;refine I.wo (t':=s.toks) (fp:=[z,it]) (λb' u hb e=>?_) Y;simp only[Mc,Mn,or_false,not_or]at hb;exact hk b' u hb.2 e
 self:=λ_ _ _ _ _ st h=>yb st.1.choose_spec h
noncomputable def CS(K:LM)(C:TA):TI:=λf H R=>C f H λd b=>∃a,d=[.ref a]/\(∃e,gB K b a e)/\R (Hz K a) b
noncomputable def CQ(C:TA):TI:=λd H R=>C d H λb a=>∃z,b=[.str z]/\R (Hy z) a
section
variable{X:Cx}{e1:eh}{ta:TA}{p pos:g5}{elts:List eh}{x1:Nat}{tw:g5}
theorem nz(Y:Gl X "enumerate")(J:X.mg "enumerate" = cO)(C:PA X [e1] ta)
 (L:Di "enumerate" = cq (.type "enumerate")) (hs:fA [e1] X.env=[(cR,el e1 X.env)]:=by rfl) :
 PI X (.Tuple elts x1 tw) (.Call (.Name "enumerate" p) [e1] [] pos) (CS X.K ta):=by
 intro b s n H R I h;refine Dc<|kI I Y J L<|MC (e9 (C pos b s n H _ I h) λt d j=>?_) (by rw[hs];rfl) rfl;obtain⟨u,e,O,m,l⟩:=j;obtain⟨a,rfl,⟨x,f⟩,q⟩:=l;obtain⟨w,rfl,i⟩:=yh m;cases i;obtain⟨o,r,k,y⟩:=O.list f;refine call_enumerate_list k.isList λg b1 b2 b3 b4=>yb (s:={d with heap:=g}) b1 ?_;refine⟨_,[d.heap.objs.size+1,d.heap.objs.size],_,_,e,rfl,O.kept (t':=d.toks) b4,bI<|NL<|NO _,⟨⟨_,b1⟩,b2⟩,λc Q=>?_,q⟩;have U:d.heap.objs.size<=c:=by
  simp only[Mc,Mn,or_false]at Q;rcases Q with rfl | rfl
  ·exact MI _ _
  ·exact LW _
 exact O.uO U<|O.f6.fresh U
theorem ny(Y:Gl X "enumerate")(J:X.mg "enumerate" = cO)(C:PA X [e1] ta)
 (L:Di "enumerate" = cq (.type "enumerate")) (hs:fA [e1] X.env=[(cR,el e1 X.env)]:=by rfl) :
 PI X (.Tuple elts x1 tw) (.Call (.Name "enumerate" p) [e1] [] pos) (CQ ta):=by
 intro a s k H R I h;refine Dc<|kI I Y J L<|MC (e9 (C pos a s k H _ I h) λl b f=>?_) (by rw[hs];rfl) rfl;obtain⟨m,d,O,j,i⟩:=f;obtain⟨z,rfl,q⟩:=i;obtain⟨n,rfl,e⟩:=yh j;obtain⟨t,rfl⟩:=e;refine call_enumerate_str λg b1 b2 b3 b4=>yb (s:={b with heap:=g}) b1 ?_;refine⟨_,[b.heap.objs.size+1,b.heap.objs.size],_,_,d,rfl,O.kept (t':=b.toks) b4,bH z t<|NL<|NO _,⟨⟨_,b1⟩,b2⟩,λc Q=>?_,q⟩;have U:b.heap.objs.size<=c:=by
  simp only[Mc,Mn,or_false]at Q;rcases Q with rfl | rfl
  ·exact MI _ _
  ·exact LW _
 exact O.uO U<|O.f6.fresh U
end
end L2
namespace DL
open PySem PySem.Spec PyProof.Rows L2
theorem Yr(z:Str):(xm z).length=z.cps.size:=by simp[xm]
theorem mE(z:Str){i c:Nat}(h:z.cps[i]? = cq c):(xm z)[i]? = cq (.str ⟨#[c]⟩):=by simp[xm,h]
theorem bz{K:LM}{H0 C:Hp}(z:Str):Walk K H0 C (Hy z) (qv<|xm z):=by
 have b:(qv<|xm z).length=z.cps.size:=by simp[qv,Yr]
 refine⟨λi d s a=>?_,λd s=>?_,λi d x f s a y=>?_⟩
 ·rw[b]at a;exact a
 ·rw[b];exact rfl
 ·obtain⟨p,c,rfl,I,rfl,O⟩:=y
  refine⟨.tup [.int i,.str ⟨#[c]⟩],?_,λe h g=>⟨upd e p<|.tup [.int i,.str ⟨#[c]⟩],Ext.alloc g I _,?_⟩⟩
  ·rw[b]at a
   unfold qv;rw[MV,Rj (by rw[Yr];exact a),Mf,mE z O];rfl
  ·exact xp (gu.of zJ)<|d9.cons (show V.int i = .int i from rfl)<|d9.cons (show V.str ⟨#[c]⟩ = .str ⟨#[c]⟩from rfl) d9.nil
theorem bA{K:LM}{H0 C:Hp}{a:dn}{xs:List V}{ds:List D}(h:gB K C a xs)(r:d9 K H0 ds xs):Walk K H0 C (Hz K a) (qv ds):=by
 have U:=r.length;have m:(qv ds).length=ds.length:=by simp[qv]
 refine⟨λi b s k=>?_,λb s=>?_,λi b x g s k y=>?_⟩
 ·exact⟨xs,s.seq h,by omega⟩
 ·exact⟨xs,s.seq h,by omega⟩
 ·obtain⟨p,u,rfl,I,rfl,O⟩:=y
  obtain⟨d,j,Q⟩:=r.Dm<|O xs<|s.seq h;refine⟨.tup [.int i,d],?_,λf l e=>⟨upd f p<|.tup [.int i,u],Ext.alloc e I _,?_⟩⟩
  ·unfold qv
   rw[MV,Rj ⋯,Mf,j];rfl
  ·exact xp (gu.of zJ)<|d9.cons (show V.int i = .int i from rfl)<|d9.cons ((Q.mono l).mono (jh (js e I) _)) d9.nil
section
variable{X:Cx}{sc:hL}{N L:List Str}{k:Nat}{a b e:eh}{pos p p2:g5}{f fa fb:CO D}
theorem fV{C:List eh}{x1:Nat}{J:g5}(h:SX X sc N L k)(c:vZ sc "enumerate" = cM)(z:X.mg "enumerate" = cO)(S:PV X a f)(hs:fA [a] X.env=[(cR,el a X.env)]:=by rfl) :
 i0 X (.Tuple C x1 J) (.Call (.Name "enumerate" p) [a] [] pos) (JD f):=
 QW (ny (h.gl c).1 z (jA S qG hs) Ud hs) λl H R Q=>by
  obtain⟨i,j,e,rc,I,q⟩:=Q;obtain⟨d,U,I⟩:=ze I;cases d with
  | str z=>
   by_cases O:j3 z=cM
   ·have I:(if j3 z=cM then cq (qv<|xm z)else cO)=cq e:=I
    rw[UJ O]at I;cases I;exact⟨i,j,_,rc,U,λv g b x r=>⟨z,by rw[show v = .str z from r],q _ g b x<|bz z⟩⟩
   ·have I:(if j3 z=cM then cq (qv<|xm z)else cO)=cq e:=I
    rw[UY O]at I;cases I
  | _=>cases I
theorem fW(h:SX X sc N L k)(c:vZ sc "enumerate" = cM)(z:X.mg "enumerate" = cO)(C:PV X a f)(hs:fA [a] X.env=[(cR,el a X.env)]:=by rfl) :
 i0 X (.Tuple elts x1 tw) (.Call (.Name "enumerate" p) [a] [] pos) (ae f):=
 QW (nz (h.gl c).1 z (jA C qG hs) Ud hs) λn H R Q=>by
  obtain⟨g,j,l,rc,I,q⟩:=Q;obtain⟨d,U,I⟩:=ze I;cases d with
  | lst m=>
   cases I;refine⟨g,j,_,rc,U,λv e b x r=>?_⟩;obtain⟨Y,i,rfl,O,g2⟩:=uA r;exact⟨Y,rfl,⟨i,x.sub.seq O⟩,q _ e b x<|bA O g2⟩
  | _=>cases I
end
end DL
namespace DL
open PySem L2 PyProof.Rows
open PySem.W (KasT kas_sort kas_asc kas_desc kas_tail3 kas_descPart kas_count kas_place kas_bin kas_rev)
noncomputable def Good{C:Type}(n:Nat)(P:C->Prop):KasT C->Prop
 | .ret a=>P a
 | .ask i j k=>i<n/\j<n/\∀b,Good n P<|k b
theorem Good.mono{C:Type}{n:Nat}{P I:C->Prop}(h : ∀a,P a->I a) : ∀{t:KasT C},Good n P t->Good n I t
 | .ret a,g=>h a g
 | .ask i j k,g=>⟨g.1,g.2.1,λb=>(g.2.2 b).mono h⟩
theorem Good.bind{C β:Type}{n:Nat}{P:C->Prop}{I:β->Prop}{f:C->KasT β}(O : ∀a,P a->Good n I (f a)) : ∀{t:KasT C},Good n P t->Good n I (t.bind f)
 | .ret a,g=>O a g
 | .ask i j k,g=>⟨g.1,g.2.1,λb=>(g.2.2 b).bind O⟩
theorem Good.run : ∀{t:KasT α},Good n P t->P (kc lt t)
 | .ret a,g=>g
 | .ask i j k,g=>(g.2.2 _).run
noncomputable def Pm(n:Nat)(p:Array Nat):Prop:=p.toList.Perm<|LL n
theorem Pm.lt(h:Pm n p)(I:0<n)(i:Nat):p.getD i 0<n:=by
 by_cases a:i<p.size
 ·have e:p.getD i 0=p[i]:=by simp[Array.getD,a]
  rw[e];exact LO.mp<|h.mem_iff.mp ⋯
 ·have e:p.getD i 0=0:=by simp[Array.getD,a]
  rw[e];exact I
theorem Pm.rev(h:Pm n p)(i j:Nat):Pm n (kas_rev p i j):=(Array.perm_iff_toList_perm.mp<|mirror_perm p i j _).trans h
theorem Pm.q_(h:Pm n p)(i j:Nat):Pm n (bubble p i j):=(Array.perm_iff_toList_perm.mp<|bubble_perm p i j).trans h
theorem KA(h:Pm n p)(I:0<n) : ∀f m,Good n (λ_=>True) (kas_asc p f m)
 | 0,m=>trivial
 | f+1,m=>⟨h.lt I _,h.lt I _,λb=>by
  cases b with
  | true=>exact trivial
  | false=>exact KA h I f<|m+1⟩
theorem wO(I:0<n) : ∀f p m q,Pm n p->Good n (λr=>Pm n r.1) (kas_desc f p m q)
 | 0,p,m,q,h=>h
 | f+1,p,m,q,h=>⟨h.lt I _,h.lt I _,λb=>by
  cases b with
  | true=>
   show Good n _ (if q>0 then _ else _);split
   ·exact wO I f _ _ _<|h.rev _ _
   ·exact wO I f _ _ _ h
  | false=>exact⟨h.lt I _,h.lt I _,λd=>by
   cases d with
   | true=>exact h
   | false=>exact wO I f _ _ _ h⟩⟩
theorem Y9{n:Nat}(I:0<n)(m r:Nat){p:Array Nat}(h:Pm n p):Good n (λr=>Pm n r.2) (kas_tail3 m r p):=by unfold kas_tail3;refine Good.bind (P:=λ_=>True) (λa _=>?_)<|KA (h.rev _ _) I _ _;exact(show Pm n (kas_rev p 0 m)from h.rev _ _)
theorem Va{n:Nat}(I:0<n)(m r:Nat){p:Array Nat}(h:Pm n p):Good n (λr=>Pm n r.2) (kas_descPart m r p):=
 (wO I _ _ _ _ h).bind λa b=>by
   show Good n _ (if a.2.2>0 then _ else _);split
   ·exact Y9 I _ _<|Pm.rev b _ _
   ·exact Y9 I _ _ b
theorem cS{n:Nat}(I:0<n)(r:Nat){p:Array Nat}(h:Pm n p):Good n (λr=>Pm n r.2) (kas_count r p):=
 (KA h I _ _).bind λm _=>by
   show Good n _ (if (m==r)=cM then _ else if m>1 then _ else _);split
   ·exact h
   ·split
    ·exact⟨h.lt I _,h.lt I _,λc=>by
      cases c with
      | true=>exact h
      | false=>exact Va I _ _<|h.rev _ _⟩
    ·exact Va I _ _ h
theorem Zo(I:0<n)(h:Pm n p)(k:Nat) : ∀f l r,Good n (λ_=>True) (kas_place p k f l r)
 | 0,l,r=>trivial
 | f+1,l,r=>by
  show Good n _ (if l>=r then _ else _);split
  ·exact trivial
  ·exact⟨h.lt I _,h.lt I _,λc=>by
    cases c with
    | true=>exact Zo I h k f _ _
    | false=>exact Zo I h k f _ _⟩
theorem aS{n:Nat}(I:0<n) : ∀f p k,Pm n p->Good n (Pm n) (kas_bin f p k)
 | 0,p,k,h=>h
 | f+1,p,k,h=>(Zo I h k k 0 k).bind λl _=>aS I f _ _<|h.q_ _ _
theorem J5{n:Nat}(I:0<n):Good n (Pm n) (kas_sort n):=
 (cS I n<|show Pm n (OU<|LL n)from List.Perm.refl _).bind λr O=>by
   show Good n _ (if r.1<n then _ else _);split
   ·exact aS I _ _ _ O
   ·exact O
theorem jV(ps:List (Int×Int)):(qj ps).Perm (LL ps.length):=by
 unfold qj;split
 ·exact List.Perm.refl _
 ·exact(J5 ⋯).run
theorem YJ : ∀{ds:List D} {ps:List (Int×Int)},Zz ds=cq ps->ps.length=ds.length
 | [],ps,h=>by cases h;rfl
 | d::ds,ps,h=>by
  unfold Zz at h;cases e1:nE d with
  | none=>rw[e1]at h;cases h
  | some x=>
   cases e2:Zz ds with
   | none=>rw[e1,e2]at h;cases h
   | some l=>rw[e1,e2]at h;cases h;simp[YJ e2]
theorem jq(d:α) : ∀ds:List α,(LL ds.length).map (λi=>ds.getD i d)=ds:=λds=>by
 apply NK;intro i;by_cases a:i<ds.length
 ·simp[a]
 ·simp[a,Nat.not_lt.mp a]
end DL
namespace DL
open PySem PySem.Spec PyProof.Rows L2
open PySem.W (KasT kas_sort kas_ask kat_run kat_snds kat_lt kat_cons kat_no kat_yes kat_nil kat_go kat_one kat_kind KatTups KatGo)
theorem Wj(I : ∀i j C,i<n->j<n->C (lt i j) s->cmp i j C s) :
 ∀{t:KasT α},Good n P t->Q (kc lt t) s->t.kasWp cmp Q s
 | .ret _,_,q=>q
 | .ask i j k,g,q=>I i j _ g.1 g.2.1<|Wj I (g.2.2 _) q
noncomputable def y6(h:fy)(v:dy)(k l:Int):Prop:=∃x o a m t u,v = .ref x/\h.get? x=cq o/\o.cls = .type "tuple"/\o.data = .seq a m/\a.toList=[.int k t,.int l u]
theorem y6.keep{h h':fy}{v:dy}{k l:Int}(a:y6 h v k l)(e : ∀b o,h.get? b=cq o->o.cls = .type "tuple"->h'.get? b=cq o):y6 h' v k l:=by obtain⟨x,o,g,m,t,u,d,f,I,O,Q⟩:=a;exact⟨x,o,g,m,t,u,d,e x o f I,I,O,Q⟩
theorem y6.one(a:y6 h v k l):EB h v k:=by obtain⟨x,o,e,m,t,u,b,d,I,O,Q⟩:=a;exact⟨x,o,e,m,t,b,d,I,O,by rw[<- RX,Q];rfl⟩
section
variable{prog:il}{w:hG}{A:k0}{E:EQ}{s:ed}
theorem JS{a:dn}{vs:List dy}{ps:List (Int×Int)}{n:Nat}{P:PySem.Fin->ed->Prop}(L:s.heap.get? a=cq (g8 "list" vs.toArray n))(S:ps.length=vs.length)(ar:vs.length<64)
 (hT : ∀i (J:i<vs.length),y6 s.heap vs[i] (ps.getD i (0,0)).1 (ps.getD i (0,0)).2)
 (h:P (.done<|.ret .none) {s with heap:=sortedHeap s.heap a vs (OU<|(qj ps).map λi=>vs.getD i MM)}) :
 wpAny (eg prog w) A (l6.«list.sort» ⟨[.ref a],[]⟩) P E s:=by
 rw[list_sort_plain];have ha:a<s.heap.objs.size:=Me L;have K:vs.length<=fe:=by rw[Pg];omega
 refine LK (D_ L rfl ?_);refine LK (PU L rfl ?_ (by rw[Mb];exact K) (MR _));obtain⟨f,R⟩ : ∃f,(s.heap.update a (ME λ_=>#[])).get? a=cq (g8 "list" #[] f):=⟨_,Sr L (λ_=>#[])⟩;refine LK (SH R rfl ?_);refine LK (RO ?_ (by show vs.length<=_;exact K));refine LK (SO ?_ (MR _));refine NG ?_;have d:(((s.heap.update a (ME λ_=>#[])).push (g8 "tuple" vs.toArray 0)).push (g8 "list" #[] 0)).get? a=cq (g8 "list" #[] f):=by rw[Pd _ _ _ (by rw[SV,OM];exact Ml (Nd ha)),Pd _ _ _ (by rw[OM];exact Ml ha)];exact R
 show wpAny (eg prog w) A _ P E {s with heap:=((s.heap.update a (ME λ_=>#[])).push (g8 "tuple" vs.toArray 0)).push (g8 "list" #[] 0)};dsimp only;have l:vs.toArray.size=vs.length:=by simp
 by_cases F:vs.toArray.size<2
 ·rw[UJ F,UJ F]
  refine LK<|LU ?_;rw[StateT.run_pure];refine LK<|LU ?_;dsimp only;refine LK<|SH d rfl ?_;have e7:Array.map (λx=>x.snd) (E5<|SortSt.mk' general' (vs.toArray.zip vs.toArray) #[] 7 cO)=vs.toArray:=by show Array.map (λx=>x.snd) (vs.toArray.zip vs.toArray)=_;apply Array.ext';simp[Array.toList_map,Array.toList_zip];rw[List.map_snd_zip (LW _)]
  have ev:(qj ps).map (λi=>vs.getD i MM)=vs:=by unfold qj;rw[UJ ⋯,S];exact jq _ _
  rw[ev]at h;refine LK (PU d rfl ?_ (MR _) (by rw[e7,l];exact RI K));simp only[bne_self_eq_false,Nj,if_false];have e8:({s with heap:=(((s.heap.update a (ME λx=>#[])).push (g8 "tuple" vs.toArray 0)).push (g8 "list" #[] 0)).update a (ME λx=>Array.map (λx=>x.snd) (E5 (SortSt.mk' general' (vs.toArray.zip vs.toArray) #[] 7 cO)))}:ed) = {s with heap:=sortedHeap s.heap a vs vs.toArray}:=by rw[e7];rfl
  refine LU ?_;rw[<- e8]at h;exact h
 ·rw[UY F,UY F]
  have n2:2<=vs.length:=by rw[<- l];omega
  have keep : ∀b o,s.heap.get? b=cq o->o.cls = .type "tuple"->(((s.heap.update a (ME λ_=>#[])).push (g8 "tuple" vs.toArray 0)).push (g8 "list" #[] 0)).get? b=cq o:=λb o e hc=>by
   have b7:b≠a:=λz=>by rw[z,L]at e;cases e;exact absurd hc (by show ¬(OJ "list" = OJ "tuple");decide)
   exact LN _<|LN _<|(Sq _ _ _ _ b7).trans e
  generalize hg:((s.heap.update a (ME λ_=>#[])).push (g8 "tuple" vs.toArray 0)).push (g8 "list" #[] 0)=g at d keep ⊢;have M : ∀i (J:i<vs.length),y6 g vs[i] (ps.getD i (0,0)).1 (ps.getD i (0,0)).2:=λi J=>(hT i J).keep keep;obtain⟨fs,f1,f2,f3⟩:=gY (ks:=λi=>(ps.getD i (0,0)).1) λi J=>(M i J).one;refine LK (kat_kind (T:=OJ "int") (s:={s with heap:=g}) f1 ⋯ (λv hv=>?_) ⋯ ?_)
  ·obtain⟨k,t,rfl⟩:=f3 v hv
   exact PySem.W.Looks.of_pure rfl
  have ep:(kc (λi j=>vG (ps.getD i (0,0))<|ps.getD j (0,0))<|kas_sort vs.length).toList=qj ps:=by unfold qj;rw[UY ⋯,S]
  refine LK (Oh (kat_run (E:=E) (ks:=vs) (Q:=λB r=>∃p:Array Nat,E5 B=p.map (PySem.W.kas_item<|vs.toArray.zip vs.toArray)/\failedOf B=cO/\p.toList=qj ps/\r = {s with heap:=g})
   (G:=λp r=>p.toList=qj ps/\r = {s with heap:=g})
   rfl n2 ar (λp B r a1 a2 a3 N=>⟨p,a2,a3,N.1,N.2⟩) (Wj (lt:=λi j=>vG (ps.getD i (0,0))<|ps.getD j (0,0)) (λi j C J hj I=>?_) (J5 ⋯) ⟨ep,rfl⟩)) ?_ λ_ _ e=>e)
  ·show wpAny _ _ (keyLt' _ (vs.getD i MM)<|vs.getD j MM) C _ _
   rw[show vs.getD i MM=vs[i]by simp[J],show vs.getD j MM=vs[j]by simp[hj]];obtain⟨x,ox,xs,m,t,u,f,e2,e3,e4,Z⟩:=M i J;obtain⟨y,oy,ys,m',t',u',d1,d2,d3,d4,X⟩:=M j hj;rw[f,d1];refine kat_lt e2 e4 d2 d4 ?_;have c0:xs.size=2:=by rw[<- Nz,Z];rfl
   have c1:ys.size=2:=by rw[<- Nz,X];rfl
   rw[Z,X,c0,c1,OP,OP];unfold vG at I;generalize ps.getD i (0,0)=U at I ⊢;generalize ps.getD j (0,0)=Y at I ⊢;refine kat_cons<|Pj U.1 t Y.1 t' _ _ _ _ ?_;refine kat_go (λO=>?_) λO=>?_
   ·have O:U.1=Y.1:=by simpa using O
    rw[UJ O]at I;refine kat_yes<|kat_cons<|Pj U.2 u Y.2 u' _ _ _ _<|kat_go (λH=>?_) λH=>?_
    ·have H:U.2=Y.2:=by simpa using H
     refine kat_yes<|kat_nil ?_;rw[show decide (U.2<Y.2)=cR by rw[H];simp]at I;exact I
    ·exact kat_no<|kat_one _ _<|lt_int I
   ·have O:U.1≠Y.1:=by simpa using O
    rw[UY O]at I;exact kat_no<|oneLt_int I
  rintro⟨⟨⟩,B⟩ r ⟨p,c2,hf,hp,rfl⟩;dsimp only;have c5:=kat_snds rfl c2;have c6:((qj ps).map λi=>vs.getD i MM).length=vs.length:=by rw[Mm,(jV ps).length_eq,Nc,S]
  rw[c5,hp];refine LK<|SH d rfl ?_;refine LK<|PU d rfl ?_ (MR _) (by rw[Mb];show((qj ps).map λi=>vs.getD i MM).length<=_;rw[c6];exact RI K);rw[hf];simp only[bne_self_eq_false,Nj,if_false];subst hg;exact LU h
theorem Yo{l:dn}{vs:List dy}{ps:List (Int×Int)}{Q:EQ}(U:s.heap.IsList l vs.toArray)(Y:ps.length=vs.length)(J:vs.length<64)
 (L : ∀i (C:i<vs.length),y6 s.heap vs[i] (ps.getD i (0,0)).1 (ps.getD i (0,0)).2)
 (h:Q (.ref<|s.heap.objs.size+1) {s with heap:=sortedAll s.heap vs (OU<|(qj ps).map λi=>vs.getD i MM)}) :
 wpAny (eg prog w) A (call (.builtin "sorted") [.ref l]) Q E s:=by
 have d:vs.length<=fe:=by rw[Pg];omega
 refine Calls.call_function_entry kind_sorted plain_sorted entry_sorted (args_sorted1 _) ?_;unfold l6.«sorted»;refine LK (m:=checkCount "sorted" 1 1 _) (LU ?_);refine LK (collect_list U ?_ d);refine LK (SO ?_ d);have a:((s.heap.push (g8 "list" #[] 0)).update s.heap.objs.size (ME (· ++ vs.toArray))).objs.size=s.heap.objs.size+1:=by rw[OM,SV]
 have O:(((s.heap.push (g8 "list" #[] 0)).update s.heap.objs.size (ME (· ++ vs.toArray))).push (g8 "list" vs.toArray 0)).get? (s.heap.objs.size+1)=cq (g8 "list" vs.toArray 0):=by rw[<- a];exact Ma _ rfl
 have keep : ∀b o,s.heap.get? b=cq o->(((s.heap.push (g8 "list" #[] 0)).update s.heap.objs.size (ME (· ++ vs.toArray))).push (g8 "list" vs.toArray 0)).get? b=cq o:=λb o q=>by have I:b<s.heap.objs.size:=Me q;rw[Pd _ _ _ (by rw[a];exact Ml (Nd I)),Sq _ _ _ _ (Ml I),Pd _ _ _ (Ml I)];exact q
 show wpAny _ _ _ _ _ {s with heap:=((s.heap.push (g8 "list" #[] 0)).update s.heap.objs.size (ME (· ++ vs.toArray))).push (g8 "list" vs.toArray 0)};rw[a];refine LK (NG (MS slot_list_sort ⟨_,O,rfl⟩ entry_list_sort (JS (s:={s with heap:=((s.heap.push (g8 "list" #[] 0)).update s.heap.objs.size (ME (· ++ vs.toArray))).push (g8 "list" vs.toArray 0)}) O Y J (λi C=>(L i C).keep λb o e _=>keep b o e) ⟨_,rfl,?_⟩) (args_list_sort _)));exact LU ⟨_,rfl,h⟩
end
section
variable{X:Cx}
noncomputable def Bt(K:LM):List V->Hp->VK->Prop:=λe H Q=>∃l b d,e=[.ref l]/\gB K H l b/\d.length=b.length/\b.length<64/\
 (∀i (f:i<b.length),∃a,b[i]=V.ref a/\gu K H a [.int ((d:List (Int×Int)).getD i (0,0)).1,.int (d.getD i (0,0)).2])/\∀p,H p=cO->Q (.ref p) (upd H p<|.lst<|(qj d).map λi=>b.getD i .ez)
theorem Vk:ZP X (.builtin "sorted") (Bt X.K):=by
 intro A s σ H vs us Q I rv h;obtain⟨l,g,ps,rfl,P,w,b6,G,B⟩:=h;obtain⟨u,rfl,ru⟩:=yh rv;cases ru;obtain⟨d,r,W,S⟩:=I.list P;have b7:=r.length;refine Yo (ps:=ps) W.isList ⋯ ⋯ (λi f=>?_) ?_
 ·obtain⟨a,E,F⟩:=G i ⋯
  obtain⟨v,O,g2⟩:=r.get (i:=i) (x:=V.ref a) (by rw[LP ⋯,E]);have R:d[i]=v:=by rw[LP f]at O;exact MN O
  rw[R];cases g2;obtain⟨C,r2,⟨o,N,J,n,L⟩,_⟩:=I.tuple F;obtain⟨U,Y,rfl,m,p⟩ : ∃U Y,C=U::Y/\RelV (.int (ps.getD i (0,0)).1) U/\eK [.int (ps.getD i (0,0)).2] Y:=by
   cases r2 with
   | cons m p=>exact⟨_,_,rfl,m,p⟩
  obtain⟨v2,rfl,Z⟩:=yh p;obtain⟨t,rfl⟩:=m;obtain⟨u,rfl⟩:=Z;exact⟨a,o,_,n,t,u,rfl,N,J,L,rfl⟩
 ·obtain⟨e,z⟩:=sortedAll_at s.heap d (OU<|(qj ps).map λi=>d.getD i MM)
  have y:((qj ps).map λi=>g.getD i V.ez).length=g.length:=by rw[Mm,(jV ps).length_eq,Nc,w]
  refine⟨.ref<|s.heap.objs.size+1,_,I.laid (t':=s.toks) (o:= .lst ((qj ps).map λi=>g.getD i .ez)) (λb o q=>sortedAll_old q) (Rp _) ?_,rfl,B _<|I.f6.fresh<|Rp _⟩;refine⟨by rw[y];exact S,(qj ps).map λi=>d.getD i MM,e,?_,z⟩;have k : ∀i∈qj ps,i<g.length:=λi f=>by have:=(jV ps).mem_iff.mp f;rw[w]at this;exact LO.mp this
  generalize qj ps=o at k;clear y z
  induction o with
  | nil=>exact .nil
  | cons i o T=>
   have f:=k i Mh;refine .cons ?_ (T λj M=>k j<|Mg _ M);obtain⟨v,O,g2⟩:=r.get (i:=i) (x:=g[i])<|LP f;show RelV (g.getD i V.ez) (d.getD i MM);rw[LS,LS,LP f,O];exact g2
theorem aA : ∀{ds:List D} {ps:List (Int×Int)},Zz ds=cq ps->∀(i:Nat) d,ds[i]? = cq d->d = .tup [.int (ps.getD i (0,0)).1,.int (ps.getD i (0,0)).2]
 | [],ps,h,i,d,hd=>by simp at hd
 | c::ds,ps,h,i,d,hd=>by
  obtain⟨k,a,h⟩:=ze h;obtain⟨l,I,h⟩:=zE h;subst h;cases i with
  | zero=>
   simp at hd;subst hd;unfold nE at a;split at a
   ·cases a;rfl
   ·cases a
  | succ i=>simpa using aA I i d (by simpa using hd)
theorem JF{K:LM}{H:Hp}{ds:List D}{xs:List V}(r:d9 K H ds xs) : ∀(o:List Nat),(∀i∈o,i<xs.length)->d9 K H (o.map λi=>ds.getD i .ez) (o.map λi=>xs.getD i .ez)
 | [],_=>d9.nil
 | i::o,h=>by have a:=h i Mh;obtain⟨d,b,I⟩:=r.Dm<|LP a;refine d9.cons ?_ (JF r o λj O=>h j<|Mg _ O);show Rep K H (ds.getD i .ez) (xs.getD i .ez);rw[LS,LS,LP a,b];exact I
theorem ay{J:hL}{N L:List Str}{k:Nat}{e:eh}{pos p:g5}{C:CO (Sk×List D)}(h:SX X J N L k)(c:vZ J "sorted" = cM)(z:X.mg "sorted" = cO)(S:PQ X e C)(hs:fA [e] X.env=[(cR,el e X.env)]:=by rfl) :
 PO X (.Call (.Name "sorted" p) [e] [] pos) (JA C):=
 qC (yn Vk (h.gl c).1 z ⋯ (jA S qG hs) ⋯ ⋯ hs rfl) λσ H Q P=>by
  obtain⟨s,γ,t,rc,I,q⟩:=P;obtain⟨⟨W,g⟩,u,I⟩:=ze I;cases W with
  | T=>cases I
  | L=>
   have I:eD g=cq t:=I;unfold eD at I;obtain⟨o,U,I⟩:=ze I;by_cases Y:g.length<64
   ·rw[UJ Y]at I
    cases I;have an:=YJ U;refine⟨s,γ,.L,g,rc,u,λa xs H' f ext B h2 r=>?_⟩;have ap:=r.length;refine⟨a,xs,o,rfl,B,by omega,by omega,λi j=>?_,λl O=>?_⟩
    ·obtain⟨d,R,Z⟩:=r.Dm (LP j)
     have A:=aA U i d R;subst A;obtain⟨b,zs,x,n,E⟩:=kW Z;refine⟨b,x,?_⟩;obtain⟨y,yr,w,F,G⟩:=E.m8;obtain⟨y2,ax,m,K,M⟩:=G.m8;rw[M.p5]at m;rw[w,m,jz F,jz K]at n;exact mr ext.sub n
    ·refine q l _ _ f (ext.trans<|Ext.hide ext.sub O _) (kF ext.s1 O) (js ext.sub O) zJ ?_
     refine JF r _ λi j=>?_;have:=(jV o).mem_iff.mp j;have:=LO.mp this;omega
   ·rw[UY Y]at I;cases I
end
section
variable{X:Cx}{a b c:eh}{pos:g5}{fa fb fc:CO D}
theorem fL{U Y:CmpOp}{r C:R2}{F G:D->D->Option D}(ho:i8 X (o4 U) r)(J:i8 X (o4 Y) C)(s1:n9 X.K r F)(s2:n9 X.K C G)(ha:PV X a fa)(hb:PV X b fb)(hc:PV X c fc)
 (hm:S4 [U,Y] [b,c]=cR:=by with_unfolding_all rfl):m4 X (.Compare a [U,Y] [b,c] pos) (sB<|kZ F G fa fb fc):=
 VW (mU ho J ha hb hc hm) λσ H Q hZ=>by
  obtain⟨i,h,kq,rc,A,q0⟩:=hZ;obtain⟨d,I,Z⟩:=ze A;have q : ∀v f e,Ext i H e f->Rep X.K e d v->∃k,v = .bl k/\Q k f:=λv f e x o=>by rw[Jh Z]at o;exact⟨kq,o,q0 f e x⟩
  obtain⟨x,N,I⟩:=ze I;obtain⟨y,P,I⟩:=ze I;obtain⟨k,R,I⟩:=ze I;obtain⟨l,S,m⟩:=ze R;refine⟨i,h,x,rc,N,λv1 H1 B x1 r1=>⟨B,h,y,rc.ext x1,P,λp s E O n=>s1 E s v1 p x y l _ O.sub (r1.mono O.s0) n S λv3 t j x3 r3=>?_⟩⟩;cases l with
  | bl k'=>
   cases m;refine⟨k,show v3 = .bl k from r3,?_⟩;cases k with
   | true=>
    rw[UJ rfl];rw[UJ rfl]at I;obtain⟨z,T,W⟩:=ze I;exact⟨j,h,z,((rc.ext x1).ext O).ext x3,T,λv4 u L g r4=>s2 L u p v4 y z d _ g.sub ((n.mono x3.s0).mono g.s0) r4 W λv5 w M x5 r5=>q v5 w M (((x1.trans O).trans x3).trans (g.trans x5)) r5⟩
   | false=>
    rw[UY ⋯];rw[UY ⋯]at I;cases I;exact q _ t j ((x1.trans O).trans x3) rfl
  | _=>cases m
end
end DL
namespace DL
open PySem PySem.Spec PyProof.Rows L2
theorem Jn{H:Hp}{x:dn}{o C:HO}:upd (upd H x o) x C=upd H x C:=by
 funext b;by_cases h:b=x
 ·subst h;rw[zJ,zJ]
 ·rw[zG h,zG h,zG h]
section
variable{X:Cx}{pins:UQ}{σ:St}{H H0:Hp}{s:ed}
theorem oJ{ta:TA}{J O:eh}{p pos:g5}{Q:EQ}{xs ys:List V}(I:Inv X pins σ H s)(hg:Gl X "zip")(hm:X.mg "zip" = cO)(ha:PA X [J,O] ta)
 (h:ta σ H λvs C=>∃k1 k2 a b,vs=[.ref a,.ref b]/\(∃xs,kv k1 X.K C a xs)/\(∃ys,kv k2 X.K C b ys)/\
   ∀L z TI TO S Z,Inv X pins σ C L->u6 z TI TO S Z a b->B3 k1 k2 z TI TO S Z a b 0 L.heap->rq L.heap z TI TO .none->(∀c ∈ [z,TI,TO,S,Z],vD X pins C c)->Q (.ref z) L)
 (hs:fA [J,O] X.env=[(cR,el J X.env),(cR,el O X.env)]:=by rfl) (a2:fA [O] X.env=[(cR,el O X.env)]:=by rfl) :
 wpAny (eg X.prog X.w) X.A (el (.Call (.Name "zip" p) [J,O] [] pos) X.env) Q X.xe s:=by
 refine Dc (kI I hg hm PyProof.Rows.boot_zip<|MC (e9 (ha pos pins s σ H _ I h) λus d T=>?_) (by rw[hs,a2])<|by rw[a2];rfl);obtain⟨vs,C,U,r1,q1⟩:=T;obtain⟨k1,k2,a,b,e,⟨xs,B⟩,⟨ys,E⟩,q⟩:=q1;subst e;obtain⟨w1,w2,R,G,M⟩:=mh r1;subst R;cases G;cases M;obtain⟨N,bi,l,z1⟩:=U.sq B;obtain⟨P,bm,r,z2⟩:=U.sq E;have W:=l.lt;have lb:=r.lt;refine Ug F.called_zip ⋯ (F.typeCall_zip_2 _ _) (F.newCall_zip_2 _ _) (λobj=>F.args_object_init_3 obj _ _) F.entry_zip_new (WL k1 k2 a b N.toArray P.toArray) ⟨l,r,?_⟩;have keep : ∀c o,d.heap.get? c=cq o->(yM k1 k2 d.heap a b).get? c=cq o:=λc o e=>
  LN _ (LN _<|LN _<|LN _<|LN _ e)
 have t:(MD d.heap<|je k1 a).objs.size=d.heap.objs.size+1:=MO ..;have u:(MD (MD d.heap<|je k1 a)<|je k2 b).objs.size=d.heap.objs.size+2:=by rw[MO,t]
 have x:(MD (MD (MD d.heap<|je k1 a)<|je k2 b)<|kB (.ref d.heap.objs.size)<|.ref<|d.heap.objs.size+1).objs.size=d.heap.objs.size+3:=by rw[MO,u]
 have y4:(MD (MD (MD (MD d.heap<|je k1 a)<|je k2 b)<|kB (.ref d.heap.objs.size)<|.ref<|d.heap.objs.size+1)<|kB .none .none).objs.size=d.heap.objs.size+4:=by rw[MO,x]
 have g0:i7 k1 (yM k1 k2 d.heap a b) d.heap.objs.size a 0:=(JZ k1 d.heap a).at λo e=>LN _<|LN _<|LN _<|LN _ e;have g1:i7 k2 (yM k1 k2 d.heap a b) (d.heap.objs.size+1) b 0:=by have q:=JZ k2 (MD d.heap<|je k1 a) b;rw[t]at q;exact q.at λo e=>LN _<|LN _<|LN _ e
 have g2:lp (yM k1 k2 d.heap a b) (d.heap.objs.size+2) (.ref d.heap.objs.size) (.ref<|d.heap.objs.size+1):=by have q:_=cq (kB (.ref d.heap.objs.size)<|.ref<|d.heap.objs.size+1):=Ma (MD (MD d.heap<|je k1 a)<|je k2 b) (o:=kB (.ref d.heap.objs.size)<|.ref<|d.heap.objs.size+1) rfl;rw[u]at q;exact LN _<|LN _ q
 have g3:lp (yM k1 k2 d.heap a b) (d.heap.objs.size+3) .none .none:=by have q:_=cq (kB .none .none):=Ma (MD (MD (MD d.heap<|je k1 a)<|je k2 b)<|kB (.ref d.heap.objs.size)<|.ref<|d.heap.objs.size+1) (o:=kB .none .none) rfl;rw[x]at q;exact LN _ q
 have i:rq (yM k1 k2 d.heap a b) (d.heap.objs.size+4) (d.heap.objs.size+2) (d.heap.objs.size+3) .none:=by have q:=Ma (MD (MD (MD (MD d.heap<|je k1 a)<|je k2 b)<|kB (.ref d.heap.objs.size)<|.ref<|d.heap.objs.size+1)<|kB .none .none) (o:=EE (d.heap.objs.size+2)<|d.heap.objs.size+3) rfl;rw[y4]at q;exact q
 refine⟨⟨_,i,rfl⟩,?_⟩;have y:Inv X pins σ C {d with heap:=yM k1 k2 d.heap a b,toks:=d.toks}:=U.kept keep;have Y : ∀m:Nat,a≠d.heap.objs.size+m:=λm=>Ml<|Mv W<|MI _ m;have g : ∀m:Nat,b≠d.heap.objs.size+m:=λm=>Ml<|Mv lb<|MI _ m;have f : ∀m n:Nat,m≠n->(d.heap.objs.size+m:Nat)≠d.heap.objs.size+n:=λm n h=>by omega
 have D:u6 (d.heap.objs.size+4) (d.heap.objs.size+2) (d.heap.objs.size+3) d.heap.objs.size (d.heap.objs.size+1) a b:=
  ⟨f 2 4 ⋯,f 3 4 ⋯,f 0 4 ⋯,f 1 4 ⋯,f 2 3 ⋯,f 2 0 ⋯,f 2 1 ⋯,f 3 0 ⋯,f 3 1 ⋯,f 0 1 ⋯,
   Y 4,Y 3,Y 0,Y 1,g 4,g 3,g 0,g 1⟩
 refine q _ _ _ _ _ _ y D ⟨.inl i,g2,⟨_,_,g3⟩,g0,g1⟩ i λc k=>?_;have j:d.heap.objs.size<=c:=by
  simp only[Mc,Mn,or_false]at k;rcases k with rfl | rfl | rfl | rfl | rfl
  ·exact MI _ _
  ·exact MI _ _
  ·exact MI _ _
  ·exact LW _
  ·exact MI _ _
 exact U.uO j<|U.f6.fresh j
theorem J8{o:HO}{c p:dn}(h:vD X pins H c)(I:c≠p):vD X pins (upd H p o) c:=⟨by rw[zG I];exact h.1,h.2⟩
end
theorem XG : ∀{ds:List D} {C:List Int},Xe ds=cq C->Y1 ds=cq (C.map Od)
 | [],C,e=>by cases e;rfl
 | d::ds,C,e=>by
  cases d with
  | int i=>
   obtain⟨l,a,I⟩:=zE e;subst I;show((CF<|.int i).bind λk=>(Y1 ds).map λr=>k::r)=_;rw[XG a];rfl
  | _=>cases e
theorem Xr : ∀(ps acc:List (Key×V)),((acc++ps).map (·.1)).Nodup->mQ acc ps=acc++ps
 | [],acc,_=>by simp[mQ]
 | (k,v)::ps,acc,h=>by
  have O : ¬((acc.any λI=>decide<|I.1=k)=cM):=λq=>by obtain⟨I,a,b⟩:=T9.mp q;rw[Nm,Mu]at h;have:=(List.nodup_append.mp h).2.2 I.1 (Mk.mpr ⟨I,a,rfl⟩) k ⋯;exact this<|of_decide_eq_true b
  show mQ (du acc k v) ps=_;rw[show du acc k v=acc++[(k,v)]by unfold du;rw[UY O]];rw[Xr ps (acc++[(k,v)]) (by simpa using h)];simp
theorem YV : ∀{C:List Int},C.Nodup->(C.map<|Od (β:=Str)).Nodup
 | [],_=>by simp
 | n::C,h=>by simp only[Mu,NA,Mk,Od.injEq,exists_eq_right]at h ⊢;exact⟨h.1,YV h.2⟩
theorem KB{K:LM}{H:Hp}{i:Int} : ∀{ks vs:List D} {C:List Key} {xs:List V},Y1 ks=cq C->C.length=xs.length->d9 K H vs xs->
 (∀d,aU ks vs i=cq d->∃v,WR (C.zip xs) (Od i)=cq v/\Rep K H d v)/\(aU ks vs i=cO->WR (C.zip xs) (Od i)=cO)
 | [],vs,C,xs,e,l,r=>by cases e;exact⟨(λd q=>by cases q),λ_=>rfl⟩
 | k::ks,[],C,xs,e,l,r=>by rw[r.p5]at l ⊢;rw[List.length_eq_zero_iff.mp l];exact⟨(λd q=>by cases q),λ_=>rfl⟩
 | k::ks,v::vs,C,xs,e,l,r=>by
  obtain⟨Q,a,f⟩:=ze e;obtain⟨U,g,h⟩:=zE f;subst h;obtain⟨x,Y,rfl,n,o⟩:=r.m8;have b:=KB (i:=i) g (by simpa using l) o;have step:Q≠Od i->WR ((Q::U).zip (x::Y)) (Od i)=WR (U.zip Y) (Od i):=λI=>by rw[OP];simp[WR,Oz,I]
  cases k with
  | int j=>
   cases a;by_cases O:j=i
   ·subst O
    refine⟨λd q=>⟨x,?_,?_⟩,λq=>?_⟩
    ·rw[OP];exact XZ rfl
    ·have:v=d:=by simpa[aU]using q
     exact this ▸ n
    ·simp[aU]at q
   ·have I:(Od j:Key)≠Od i:=λq=>O (Od.inj q)
    rw[step I];have m:aU (.int j::ks) (v::vs) i=aU ks vs i:=by simp[aU,O]
    rw[m];exact b
  | str y=>
   cases a;rw[step (λq=>by cases q)];exact b
  | _=>cases a
noncomputable def Kc(F G J:D->D->Option D)(C L O S:CO D):CO D:=λa=>(C a).bind λx=>(L a).bind λy=>((F x y).bind r0).bind λb=>if b=cM then (O a).bind λz=>((G y z).bind r0).bind λI=>if I=cM then (S a).bind λw=>J z w else cq (.bl cR)else cq (.bl cR)
@[simp] theorem lD(F G J a b c d):Kc F G J a b c d γ=(a γ).bind λx=>(b γ).bind λy=>((F x y).bind r0).bind λk=>if k=cM then (c γ).bind λz=>((G y z).bind r0).bind λI=>if I=cM then (d γ).bind λw=>J z w else cq (.bl cR)else cq (.bl cR):=rfl
noncomputable def EL(f:CO D)(γ:Ctx):Option (List D):=((f γ).bind m5).bind λn=>if inR n=cM/\n.toNat<=lim then cq (wu 0 n.toNat)else cO
@[simp] noncomputable def AC:=@EL.eq_1
noncomputable def rQ(ds es fs:List D):List D:=(ds.zip<|es.zip fs).map λp=>D.tup [p.1,p.2.1,p.2.2]
noncomputable def FR(f g h:CO D)(γ:Ctx):Option (List D):=((f γ).bind jR).bind λm=>((g γ).bind jR).bind λn=>((h γ).bind jR).map λo=>rQ m.2 n.2 o.2
@[simp] noncomputable def GW:=@FR.eq_1
noncomputable def eU(f g:CO D)(γ:Ctx):Option (List D):=((f γ).bind jR).bind λm=>((g γ).bind jR).bind λn=>if m.2.length<=lim then cq (w9 m.2 n.2)else cO
@[simp] noncomputable def pq:=@eU.eq_1
section
variable{prog:il}{w:hG}{A:k0}{E:EQ}{s:ed}
theorem rP{k1 k2:Sk}{z TI TO C J Y L:dn}{n:Nat}{xs ys:Array dy}{x y:dy}{Q:Option dy->ed->Prop}(D:u6 z TI TO C J Y L)
 (Z:B3 k1 k2 z TI TO C J Y L n s.heap) (S:lC k1 s.heap Y xs) (ar:lC k2 s.heap L ys) (hx:xs[n]? = cq x) (hy:ys[n]? = cq y)
 (hQ : ∀h',B3 k1 k2 z TI TO C J Y L (n+1) h'->lp h' s.heap.objs.size x y->(∀c o,c ∉ [z,TI,TO,C,J]->s.heap.get? c=cq o->h'.get? c=cq o)->Q (cq (.ref s.heap.objs.size)) {s with heap:=h'}) :
 wpAny (eg prog w) A (rn<|.ref z) Q E s:=by
 obtain⟨a,d,⟨c,e,m⟩,p,r⟩:=Z;unfold rn;rcases a with a | ⟨al,b,oa,a,ha⟩
 ·have U:s.TypeIs (.ref z) "zip":=⟨_,a,rfl⟩
  refine LK (NP (MK (name:=Mw "__next__") U NJ (MS NJ U Pu
   (K5 D a d m p r S ar hx hy λg f F h i j G O=>LU ?_) (E2 _))))
  refine hQ g ⟨.inr ⟨s.heap.objs.size,cR,_,f,j⟩,O _ _ D.TIz D.TITO D.TIi1 D.TIi2 d,⟨_,_,F⟩,h,i⟩ j λc o I q=>?_;simp only[Mc,Mn,or_false,not_or]at I;exact O c o I.1 I.2.2.1 I.2.2.2.1 I.2.2.2.2 q
 ·have U:s.TypeIs (.ref z) "zip":=⟨_,a,rfl⟩
  refine LK (NP (MK (name:=Mw "__next__") U NJ (MS NJ U Pu
   (dw D a ha d p r S ar hx hy λg f h i j G O=>LU ?_) (E2 _))))
  have k : ∃l,g.get? al=cq l:=by
   by_cases t:al=z
   ·exact⟨_,(congrArg g.get? t).trans f⟩
   ·by_cases u:al=C
    ·obtain⟨o,e,_⟩:=h.obj;exact⟨o,u ▸ e⟩
    ·by_cases B:al=J
     ·obtain⟨o,e,_⟩:=i.obj;exact⟨o,B ▸ e⟩
     ·exact⟨oa,O al oa t u B ha⟩
  obtain⟨l,k⟩:=k;refine hQ g ⟨.inr ⟨al,cM,l,f,k⟩,O _ _ D.TIz D.TIi1 D.TIi2 d,⟨_,_,O _ _ D.TOz D.TOi1 D.TOi2 m⟩,h,i⟩ j λc o I q=>?_;simp only[Mc,Mn,or_false,not_or]at I;exact O c o I.1 I.2.2.2.1 I.2.2.2.2 q
end
theorem B3.keep{k1 k2:Sk}{z TI TO C J a b:dn}{n:Nat}{h h':fy}(Z:B3 k1 k2 z TI TO C J a b n h)(k : ∀c ∈ [z,TI,TO,C,J],∀o,h.get? c=cq o->h'.get? c=cq o)(e : ∀c o,h.get? c=cq o->∃L,h'.get? c=cq L):B3 k1 k2 z TI TO C J a b n h':=by
 obtain⟨I,O,⟨c,d,Q⟩,U,Y⟩:=Z;refine⟨?_,k TI ⋯ _ O,⟨c,d,k TO ⋯ _ Q⟩,U.at λo q=>k C ⋯ o q,Y.at λo q=>k J ⋯ o q⟩;rcases I with I | ⟨al,bb,oa,I,a2⟩
 ·exact .inl<|k z ⋯ _ I
 ·obtain⟨f,g⟩:=e al oa a2
  exact .inr ⟨al,bb,f,k z ⋯ _ I,g⟩
theorem fJ{h:fy}{o C:mu}{c:dn}(I:c≠h.objs.size)(q:(h.push o).get? c=cq C):h.get? c=cq C:=by unfold Heap.get? MD at q;unfold Heap.get?;simp only[Array.getElem?_push,UY I]at q;exact q
theorem oI{H00 Hb H0 H:Hp}{S p:dn}{o C:HO}(E:Ext H00 Hb H0 H)(O:Hb S=cO)(Q:H0 S=cO)(I:H p=cO)(U:p≠S):Ext H00 Hb (upd H0 p o) (upd (upd H p o) S C):=by
 have Y:H0 p=cO:=js E.sub I;refine⟨E.s0.trans<|jh Y o,λb u q=>?_,λb u q=>?_,λb a d=>?_⟩
 ·have a:=E.s1 b u q
  rw[zG (λz=>by rw[z,O]at q;cases q),zG (λz=>by rw[z,I]at a;cases a)];exact a
 ·by_cases z:b=p
  ·subst z
   rw[zJ]at q;rw[zG U,zJ];exact q
  ·rw[zG z]at q
   rw[zG (λy=>by rw[y,Q]at q;cases q),zG z];exact E.sub b u q
 ·have:b≠p:=λz=>by
   cases q:Hb b with
   | none=>exact d q
   | some u=>have:=E.s1 b u q;rw[z,I]at this;cases this
  rw[zG this];exact E.new b a d
section
variable{X:Cx}{pins:UQ}{σ:St}{A:k0}{R:Result->ed->Prop}{H00 Hb:Hp}{k1 k2:Sk}{z TI TO i1 i2 a b S:dn}{xs ys:List V}{ds es:List D}{res:dy}
theorem fC{K:LM}{H:Hp}{d e:D}{x y:V}{p:dn}(C:Rep K H d x)(J:Rep K H e y)(I:H p=cq (.tup [x,y])):Rep K H (.tup [d,e]) (.ref p):=
 show ∃a xs,V.ref p = .ref a/\gu K H a xs/\d9 K H [d,e] xs from⟨p,[x,y],rfl,.inl<|.inl I,.cons C<|.cons J .nil⟩
theorem gP(hh:A.handled=cO)(DA:u6 z TI TO i1 i2 a b)(hS:Hb S=cO) : ∀(m n:Nat) (s:ed) (H H0:Hp) (acc:List D) (vs:List V),n+m=(ds.zip es).length->
 Inv X pins σ H s->Ext H00 Hb H0 H->H0 S=cO->kv k1 X.K H0 a xs->kv k2 X.K H0 b ys->d9 X.K H0 ds xs->d9 X.K H0 es ys->d9 X.K H0 acc vs->(∀c ∈ [z,TI,TO,i1,i2],vD X pins H c)->B3 k1 k2 z TI TO i1 i2 a b n s.heap->H S=cq (.lst vs)->vs.length+m<=fe->
 (∀L H' C J,Inv X pins σ H' L->Ext H00 Hb C H'->C S=cO->H' S=cq (.lst J)->d9 X.K C (acc++(w9 ds es).drop n) J->R (.ok<|.ret res) L)->
 codeAny (eg X.prog X.w) A (.builtin "list.extend.loop" ⟨[.ref S,.ref z,res],[]⟩) R s:=by
 intro m
 induction m with
 | zero=>
  intro n s H H0 acc vs P I E i r t U h ra u Z d hz hR;obtain⟨b8,j,T,z1⟩:=I.sq<|vy E.sub r;obtain⟨bb,l,W,z2⟩:=I.sq<|vy E.sub t;have l1:=j.length;have l2:=l.length;have l3:=U.length;have l4:=h.length;simp only[List.length_zip,SK]at P;refine OG F.entry_extend_loop ?_;rw[D9 OO _];show wpAny _ A.in1 (rn (.ref z) >>= _) _ _ s;refine LK<|AE (s:=s) hh DA Z T W (by rw[P];rcases Nat.le_total ds.length es.length with q | q;left;simp;omega;right;simp;omega) λh' k=>?_;refine LU<|hR _ H H0 vs (I.wo (t':=s.toks) (fp:=[z,TI,TO,i1,i2]) k u) E i d ?_;rw[RW (by unfold w9;simp;omega),OA];exact ra
 | succ m ih=>
  intro n s H H0 acc vs P I E i r t U h ra u Z d hz hR;obtain⟨b8,j,T,z1⟩:=I.sq<|vy E.sub r;obtain⟨bb,l,W,z2⟩:=I.sq<|vy E.sub t;have l1:=j.length;have l2:=l.length;have l3:=U.length;have l4:=h.length;have ap:n<(ds.zip es).length:=by omega
  have bl:=ap;simp only[List.length_zip]at bl;have hk:ds[n]? = cq ds[n]:=LP ⋯;have hy:es[n]? = cq es[n]:=LP ⋯;obtain⟨x,ex,rx⟩:=U.get hk;obtain⟨y,ey,ry⟩:=h.get hy;obtain⟨u1,c2,c3⟩:=j.get ex;obtain⟨u2,c4,c5⟩:=l.get ey;have p:H s.heap.objs.size=cO:=I.fresh;have B:s.heap.objs.size≠S:=λq=>by rw[q,d]at p;cases p
  refine OG F.entry_extend_loop ?_;rw[D9 OO _];show wpAny _ A.in1 (rn (.ref z) >>= _) _ _ s;refine LK (rP (s:=s) DA Z T W (x:=u1) (y:=u2) (by simpa using c2) (by simpa using c4) λh' Z' hP k=>?_);have I1:Inv X pins σ (upd H s.heap.objs.size (.tup [x,y])) {s with heap:=s.heap.push {cls:= .type "tuple",data:= .seq #[u1,u2]}}:=
   I.laid (t':=s.toks) (λb o e=>LN _ e) (LW _) (show m3 X.prog X.w _ _ _ (.tup [x,y])from⟨(show 2<=fe by decide),[u1,u2],.cons c3<|.cons c5 .nil,uf.new _ _⟩)
  have np : ∀c ∈ [z,TI,TO,i1,i2],c≠s.heap.objs.size:=λc O q=>by
   obtain⟨Y,ca,⟨c',e',cb⟩,g1,g2⟩:=Z;obtain⟨o1,G,_⟩:=g1.obj;obtain⟨o2,e2,_⟩:=g2.obj;have N : ∃o,s.heap.get? z=cq o:=by
    rcases Y with Y | ⟨_,_,_,Y,_⟩
    ·exact⟨_,Y⟩
    ·exact⟨_,Y⟩
   obtain⟨oz,N⟩:=N;simp only[Mc,Mn,or_false]at O;rcases O with rfl | rfl | rfl | rfl | rfl
   ·exact absurd q<|Ml<|Me N
   ·exact absurd q<|Ml<|Me ca
   ·exact absurd q<|Ml<|Me cb
   ·exact absurd q<|Ml<|Me G
   ·exact absurd q<|Ml<|Me e2
  have ar : ∀c ∈ [z,TI,TO,i1,i2],vD X pins (upd H s.heap.objs.size<|.tup [x,y]) c:=λc O=>J8 (u c O)<|np c O;have I2:=I1.wo (h':=h') (t':=s.toks) (fp:=[z,TI,TO,i1,i2]) (λc o O q=>by
   by_cases e:c=s.heap.objs.size
   ·rw[e]at q ⊢
    rw[Ma _ rfl]at q;cases q;exact hP
   ·exact k c o O<|fJ e q) ar
  have ax:upd H s.heap.objs.size (.tup [x,y]) S=cq (.lst vs):=by rw[zG (My B)];exact d
  obtain⟨zz,g,c0,rl,ll,M⟩:=I2.DI ax;show wpAny _ A.in1 (updateSeq S (·.push (.ref s.heap.objs.size)) >>= _) _ _ _;refine LK ?_;refine E1 M rfl (LU ⟨PR OO _,?_⟩) (by rw[Mb];omega) (by show(g.toArray.push _).size<=fe+1;rw[Array.size_push,Mb];omega);have nS : ∀c ∈ [z,TI,TO,i1,i2],c≠S:=λc O q=>by have:=(u c O).1;rw[q,d]at this;cases this
  have I3:=I2.DZ (t':=s.toks) (f:=(·.push (.ref s.heap.objs.size))) (its':=g++[.ref s.heap.objs.size]) (ys:=vs++[.ref s.heap.objs.size]) ax M ⋯ (rl.append<|.cons (show L2.RelV (.ref s.heap.objs.size) (.ref s.heap.objs.size)from rfl) .nil) (by rw[Nf,NU];omega);have E3:Ext H00 Hb (upd H0 s.heap.objs.size<|.tup [x,y]) (upd (upd H s.heap.objs.size<|.tup [x,y]) S<|.lst<|vs++[.ref s.heap.objs.size]):=oI E hS i p B;have Q:g9 H0 (upd H0 s.heap.objs.size<|.tup [x,y]):=jh (js E.sub p) _;refine ih (n+1) _ _ _ (acc++[.tup [ds[n],es[n]]]) (vs++[.ref s.heap.objs.size]) ⋯ I3 E3 (by rw[zG (My B)];exact i) (vy Q r) (vy Q t) (U.mono Q) (h.mono Q) ((ra.mono Q).append (.cons (fC (rx.mono Q) (ry.mono Q) zJ) .nil)) (λc O=>J8 (ar c O)<|nS c O) ?_ zJ (by rw[Nf,NU];omega) λL H' C J I4 E4 y1 y2 y3=>hR L H' C J I4 E4 y1 y2 ?_
  ·refine Z'.keep (λc O o q=>(Mx _ _<|My<|nS c O).trans q) λc o q=>?_
   by_cases e:c=S
   ·exact⟨_,by rw[e];exact NB _ M rfl⟩
   ·exact⟨o,(Mx _ _<|My e).trans q⟩
  ·have G:(w9 ds es).drop n = .tup [ds[n],es[n]]::(w9 ds es).drop (n+1):=by
    have:n<(w9 ds es).length:=by unfold w9;simpa using ap
    rw[NS this];congr 1;simp[w9]
   rw[G];rw[SG]at y3;exact y3
theorem bw:C8 (.type "zip") "__len__" = pure cO:=by rw[Oa,Nt];kernel_rfl
theorem VB:C8 (.type "zip") "__length_hint__" = pure cO:=by rw[Oa,Nt];kernel_rfl
theorem dc{Q:EQ}{H0 H:Hp}{s:ed}(I:Inv X pins σ H s)(hh:X.A.handled=cO)(E:Ext H00 Hb H0 H)(L:u6 z TI TO i1 i2 a b)
 (h1:kv k1 X.K H0 a xs) (h2:kv k2 X.K H0 b ys) (r1:d9 X.K H0 ds xs) (r2:d9 X.K H0 es ys) (Z:B3 k1 k2 z TI TO i1 i2 a b 0 s.heap) (hz:rq s.heap z TI TO .none) (hf : ∀c ∈ [z,TI,TO,i1,i2],vD X pins H c) (hl:(ds.zip es).length<=fe)
 (hQ : ∀J H' C S Y,Hb S=cO->Inv X pins σ H' J->Ext H00 Hb C H'->C S=cO->H' S=cq (.lst Y)->d9 X.K C (w9 ds es) Y->Q (.ref S) J):wpAny (eg X.prog X.w) X.A (call (.type "list") [.ref z]) Q X.xe s:=by
 have l:H s.heap.objs.size=cO:=I.fresh;have r:Hb s.heap.objs.size=cO:=kF E.s1 l;have G:H0 s.heap.objs.size=cO:=js E.sub l;refine SE (Q₁:=λobj d=>obj = .ref s.heap.objs.size/\d = {s with heap:=s.heap.push {cls:= .type "list",data:= .seq #[]}}) F.called_list (F.typeCall_list_1 _) F.entry_list_init (code_list_new _ ⟨rfl,rfl⟩) ?_;rintro obj d ⟨rfl,rfl⟩;have y:Inv X pins σ (upd H s.heap.objs.size (.lst [])) {s with heap:=s.heap.push {cls:= .type "list",data:= .seq #[]}}:=I.S8 (its:=[]) (ys:=[]) (t':=s.toks) .nil (MR _);have u:Ext H00 Hb H0 (upd H s.heap.objs.size (.lst [])):=E.trans (Ext.hide E.sub l _);have U:(s.heap.push {cls:= .type "list",data:= .seq #[]}).get? s.heap.objs.size=cq {cls:= .type "list",data:= .seq #[]}:=Ma _ rfl;have nd : ∀c ∈ [z,TI,TO,i1,i2],c≠s.heap.objs.size:=λc O q=>by
  obtain⟨bl,M,⟨c',e',N⟩,g1,g2⟩:=Z;obtain⟨o1,j,_⟩:=g1.obj;obtain⟨o2,k,_⟩:=g2.obj;simp only[Mc,Mn,or_false]at O;rcases O with rfl | rfl | rfl | rfl | rfl
  ·exact absurd q<|Ml<|Me hz
  ·exact absurd q<|Ml<|Me M
  ·exact absurd q<|Ml<|Me N
  ·exact absurd q<|Ml<|Me j
  ·exact absurd q<|Ml<|Me k
 refine⟨⟨_,U,rfl⟩,F.args_list_init_2 _ _,?_⟩;show wpAny _ X.A.in1.in1 (do let b9 <- Builtin.List.listItems (.ref s.heap.objs.size);Builtin.List.listUpdate (.ref s.heap.objs.size) (λ_=>#[]);letGo b9.toList.reverse;NZ (.ref s.heap.objs.size) (.ref z) .none) _ _ _;refine LK ?_;unfold Builtin.List.listItems;refine LK (NN U rfl (LU ?_));show wpAny _ _ (updateSeq s.heap.objs.size (λ_=>#[]) >>= λ_=>letGo (#[]:Array dy).toList.reverse >>= λ_=>NZ (.ref s.heap.objs.size) (.ref z) .none) _ _ _;refine LK (E1 U rfl ?_);have m:=y.DZ (t':=s.toks) (f:=λ_=>#[]) (its:=[]) (its':=[]) (xs:=[]) (ys:=[]) zJ U rfl .nil (MR _);rw[Jn]at m;have g:=NB (ME (λ_=>(#[]:Array dy))) U rfl;refine LK (Sd ?_);unfold NZ;have h : ∀c o,c≠s.heap.objs.size->s.heap.get? c=cq o->((s.heap.push {cls:= .type "list",data:= .seq #[]}).update s.heap.objs.size (ME (λ_=>(#[]:Array dy)))).get? c=cq o:=λc o O q=>(Mx _ _ (My O)).trans (LN _ q);have l9:=h z _ (nd z ⋯) hz;refine LK (Pf (T:="zip") ⟨_,l9,rfl⟩ ?_);have j:Pa (.ref s.heap.objs.size) (.ref z)=cR:=by have:=nd z ⋯;simp[Pa,My this]
 have k:(OJ "zip" == OJ "list")=cR:=by decide
 have R:(OJ "zip" == OJ "tuple")=cR:=by decide
 simp only[j,k,R,Bool.or_false,Nj,if_false];refine LK (SY l9 ?_);refine LK (NG ?_);unfold Builtin.List.listLengthHint;refine LK (OF (T:="zip") ⟨_,l9,rfl⟩ bw ?_);show wpAny _ _ (specialOf (Nw z) (Mw "__length_hint__") >>= _) _ _ _;refine LK (OF (T:="zip") ⟨_,l9,rfl⟩ VB ?_);refine LU ?_;show wpAny _ _ (rule "list.extend.makes-room" >>= λ_=>Builtin.List.listTouch (.ref s.heap.objs.size) >>= λ_=>
  again (.builtin "list.extend.loop" ⟨[.ref s.heap.objs.size,.ref z,.none],[]⟩)) _ _ _
 refine LK<|OT ?_;refine LK ?_;show wpAny _ _ (updateSeq s.heap.objs.size (·.push .none) >>= λ_=>updateSeq s.heap.objs.size (·.pop)) _ _ _;refine LK<|E1 g rfl ?_;have i:=NB (ME (·.push MM)) g rfl;have n:=m.DZ (t':=s.toks) (f:=(·.push MM)) (its:=[]) (its':=[.none]) (xs:=[]) (ys:=[.ez]) zJ g rfl (.cons (show L2.RelV .ez .none from rfl) .nil) ⋯;rw[Jn]at n;refine E1 (hz:=by seq_fits) i rfl ?_;have P:=NB (ME (·.pop)) i rfl;have p:=n.DZ (t':=s.toks) (f:=(·.pop)) (its:=[.none]) (its':=[]) (xs:=[.ez]) (ys:=[]) zJ i rfl .nil ⋯;rw[Jn]at p;refine LU ⟨PR OO _,?_⟩;refine gP (A:=X.A.in1) (ds:=ds) (es:=es) (xs:=xs) (ys:=ys) (k1:=k1) (k2:=k2) (show X.A.in1.handled=cO from hh) L r (ds.zip es).length 0 _ (upd H s.heap.objs.size<|.lst []) H0 [] [] (MT _) p u G h1 h2 r1 r2 .nil (λc O=>J8 (hf c O)<|nd c O) ?_ zJ (by simpa using hl) λJ H' C Y B x W y2 t=>?_
 ·refine Z.keep (λc O o q=>?_) λc o q=>?_
  ·exact(Mx _ _<|My<|nd c O).trans ((Mx _ _<|My<|nd c O).trans (h c o (nd c O) q))
  ·by_cases e:c=s.heap.objs.size
   ·exact⟨_,by rw[e];exact P⟩
   ·exact⟨o,(Mx _ _<|My e).trans ((Mx _ _<|My e).trans (h c o e q))⟩
 ·rw[Ox,List.drop_zero]at t
  exact⟨rfl,hQ J H' C _ Y r B x W y2 t⟩
end
section
variable{X:Cx}{sc:hL}{N L:List Str}{k:Nat}{a b:eh}{f g:CO D}{p p2 pos Dn:g5}
theorem nq(h:SX X sc N L k)(J:vZ sc "list" = cM)(zd:X.mg "list" = cO)(cz:vZ sc "zip" = cM)(zz:X.mg "zip" = cO)(ha:PV X a f)(hb:PV X b g)
 (hs:fA [.Call (.Name "zip" p2) [a,b] [] Dn] X.env=[(cR,el (.Call (.Name "zip" p2) [a,b] [] Dn) X.env)]:=by rfl)
 (C:fA [a,b] X.env=[(cR,el a X.env),(cR,el b X.env)]:=by rfl) (Y:fA [b] X.env=[(cR,el b X.env)]:=by rfl) :
 PO X (.Call (.Name "list" p) [.Call (.Name "zip" p2) [a,b] [] Dn] [] pos) (eU f g):=by
 intro m s σ H Q I hZ;obtain⟨j,n,d,rc,O,q⟩:=hZ;obtain⟨⟨k1,K⟩,y,O⟩:=ze O;obtain⟨G,M,R⟩:=ze y;obtain⟨⟨k2,es⟩,B,O⟩:=ze O;obtain⟨F,P,T⟩:=ze B;have hh:X.A.handled=cO:=I.ok.hd h.calm;dsimp only at O;by_cases l:K.length<=lim
 ·rw[UJ l]at O
  cases O;refine Ot (kI I (h.gl J).1 zd PyProof.Rows.boot_list (MC ?_ (by rw[hs];rfl) rfl) ⋯ ⋯);rw[hs];show wpAny _ _ (M9 ((cR,el (.Call (.Name "zip" p2) [a,b] [] Dn) X.env)::[])) _ _ s;refine Rq (oJ (xs:=[]) (ys:=[]) I (h.gl cz).1 zz (jA ha (jA hb qG Y) (by rw[C,Y])) ?_ C Y);refine⟨j,n,G,rc,M,λv i e x r=>⟨e,n,F,rc.ext x,P,λv2 H2 c0 U r2=>?_⟩⟩;obtain⟨u,xs,rfl,g1,g2⟩:=X8 (r.mono U.s0) R;obtain⟨w,ys,rfl,g3,W⟩:=X8 r2 T;refine⟨k1,k2,u,w,rfl,⟨xs,vy U.sub g1⟩,⟨ys,vy U.sub g3⟩,λs2 z TI TO i1 i2 t o Z hz hf=>RE ?_⟩;have xa:=x.trans U;refine dc (H00:=j) (Hb:=H) t hh xa o g1 g3 g2 W Z hz hf ?_ λs' i e S E y0 y1 y2 y3 y4 y5=>?_
  ·have:lim<=fe:=by decide
   simp only[List.length_zip];omega
  ·exact⟨.ref S,i,y1,rfl,q S E i e y2 y0 y3 y4 y5⟩
 ·rw[UY l]at O;cases O
end
theorem Y0:C8 (.type "list") "keys" = pure cO:=by rw[Oa,Nt];kernel_rfl
theorem Xf:entryFor table "list.__getattribute__" = cq l6.«object.__getattribute__» :=
 entryFor_alias (id':="object.__getattribute__") (by kernel_rfl) (by first | rfl | decide +kernel) ⋯ (by kernel_rfl)
section
variable{prog:il}{w:hG}{A:k0}{E:EQ}{h:fy}{g:Array GenState}{d:Drawn}{t:Nat}{os:OsState}{a:dn}{o:mu}
theorem JT(hx:h.get? a=cq ⟨.type "list",cO,.seq vs nk,sl⟩)(C:A.handled=cO)
 (hE : ∀h' e t',(∀b u,h.get? b=cq u->h'.get? b=cq u)->(∃U,h'.get? e=cq U/\U.cls = .type "AttributeError")->E (.ref e) ⟨h',g,d,t',os⟩) :
 wpAny (eg prog w) A (l6.«object.__getattribute__» ⟨[.ref a,.str "keys" tk],[]⟩) Q E ⟨h,g,d,t,os⟩:=by
 have n:(⟨h,g,d,t,os⟩:ed).TypeIs (.ref a) "list":=⟨_,hx,rfl⟩;have k:=Y0
 repeat (any_goals (first | assumption | wp_step))
 unfold raiseAttrError;have Y:((Mw (toString "'" ++ toString ((Manifest.find? "list").elim "list" λx=>x.tpName)++toString "' object has no attribute '")++Mw "keys" ++ Mw "'"):Str).length<=fe:=by decide +kernel
 generalize (Mw (toString "'" ++ toString ((Manifest.find? "list").elim "list" λx=>x.tpName)++toString "' object has no attribute '")++Mw "keys" ++ Mw "'")=I at Y ⊢;refine LK (wpAny_mkStr (hx:=Y) ?_);refine LK ?_;unfold L7 Tc;refine LK (MZ ?_ (by size_fits));refine LK (m:=FG _ _) (OB (a:=MM) (by first | rfl | (simp only[FG];rfl)) ?_);refine MZ ?_ (by size_fits);simp only[MO];have O:((h.push {cls:= .type "tuple",data:= .seq #[.str I t]}).push {cls:= .type "AttributeError",data:= .fields (#[.ref h.objs.size,.none,.none,.none,.bool cR,.none]++Ti (.type "AttributeError") [.str I t])}).get? (h.objs.size+1) =
  cq {cls:= .type "AttributeError",data:= .fields (#[.ref h.objs.size,.none,.none,.none,.bool cR,.none]++Ti (.type "AttributeError") [.str I t])}:=by heap_get
 have f : ∀b u,h.get? b=cq u->((h.push {cls:= .type "tuple",data:= .seq #[.str I t]}).push {cls:= .type "AttributeError",data:= .fields (#[.ref h.objs.size,.none,.none,.none,.bool cR,.none]++Ti (.type "AttributeError") [.str I t])}).get? b=cq u:=λb u e=>LN _ (LN _ e);have i:h.get? (h.objs.size+1)=cO:=Heap.get?_none_of_le (Rp _);generalize ((h.push {cls:= .type "tuple",data:= .seq #[.str I t]}).push {cls:= .type "AttributeError",data:= .fields (#[.ref h.objs.size,.none,.none,.none,.bool cR,.none]++Ti (.type "AttributeError") [.str I t])})=h2 at O f ⊢;refine LK (wpAny_mkText ?_);unfold noteAttr lacksNameAndObj;have j:(⟨h2,g,d,t+1+1,os⟩:ed).TypeIs (.ref (h.objs.size+1)) "AttributeError":=⟨_,O,rfl⟩;have l:isSubtype (.type "AttributeError") (.type "AttributeError")=pure cM:=by rw[OC];kernel_rfl
 repeat (any_goals (first | assumption | with_reducible refine wpAny_loadPart_at O ?_ | with_reducible refine wpAny_load O ?_ | wp_step))
 refine wpAny_raiseNew_none C<|hE _ _ _ (λb u e=>?_) ⟨_,NB _ O<|Obj.isFreed_of_fields<|T8 rfl _,Obj.cls_mapFields ..⟩;rw[Mx _ _ (λq=>by rw[<- q]at e;rw[i]at e;cases e)];exact f b u e
theorem Xb(hx:h.get? a=cq ⟨.type "list",cO,.seq vs nk,sl⟩)(O:A.handled=cO)
 (Q : ∀h' e t',(∀b u,h.get? b=cq u->h'.get? b=cq u)->(∃I,h'.get? e=cq I/\I.cls = .type "AttributeError")->R (.error (.ref e)) ⟨h',g,d,t',os⟩) :
 codeAny (eg prog w) A (.call (.builtin "list.__getattribute__") ⟨[.ref a,.str "keys" tk],[]⟩) R ⟨h,g,d,t,os⟩:=
 codeAny_call_builtin PD.plain Xf (PD.check _ _ _ _ _ _ _ _ (show(⟨h,g,d,t,os⟩:ed).TypeIs (.ref a) "list" from⟨_,hx,rfl⟩) (F.args_list_getattribute_2 _ _) (JT hx O Q))
theorem cJ:C8 (.type "list") "__getattr__" = pure cO:=by rw[Oa,Nt];kernel_rfl
theorem gQ(hx:h.get? a=cq ⟨.type "list",cO,.seq vs nk,sl⟩)(O:A.handled=cO)
 (U : ∀h' t',(∀b u,h.get? b=cq u->h'.get? b=cq u)->Q cO ⟨h',g,d,t',os⟩):wpAny (eg prog w) A (getAttr? (.ref a) "keys") Q E ⟨h,g,d,t,os⟩:=by
 have o:(⟨h,g,d,t+1,os⟩:ed).TypeIs (.ref a) "list":=⟨_,hx,rfl⟩;have f2:=PD.lookup;have l:=PD.bind (.ref a);have m:=cJ;have n:isSubtype (.type "AttributeError") (.type "AttributeError")=pure cM:=by rw[OC];kernel_rfl
 unfold getAttr? getAttrBy? getAttrBy
 repeat (any_goals (first | assumption | wp_step))
 refine Xb (g:=g) (d:=d) (os:=os) hx O λh' e t' Y I=>?_;obtain⟨i,I,f⟩:=I;have j:(⟨h',g,d,t',os⟩:ed).TypeIs (.ref e) "AttributeError":=⟨i,I,f⟩;have k:=U h' t' Y;show wpAny _ _ (w_ _ _ _ _ _ _ _) _ _ _;unfold w_ hookOrError attributeErrorLeaves
 repeat (any_goals (first | assumption | wp_step))
end
noncomputable def wc:List D->Option (List D×List D)
 | []=>cq ([],[])
 | d::r=>match d with
  | .tup a=>match a with
   | [k,v]=>(wc r).map λp=>(k::p.1,v::p.2)
   | _=>cO
  | _=>cO
noncomputable def pL(f:CO (List D))(γ:Ctx):Option D:=(f γ).bind λa=>(wc a).bind λp=>oQ p.1 p.2
@[simp] noncomputable def Fx:=@pL.eq_1
noncomputable def EM(C I:CO D):CO D:=λa=>(C a).bind λd=>(I a).bind λk=>match d with
 | .m7 b e=>(m5 k).bind λi=>aU b e i
 | _=>cO
noncomputable def Bl(I C:CO D):CO D:=λa=>(I a).bind λk=>(C a).bind λd=>match d with
 | .m7 b e=>(m5 k).map λi=> .bl (aU b e i).isSome
 | _=>cO
section
variable{X:Cx}{pins:UQ}{σ:St}{A:k0}{R:Result->ed->Prop}{H0:Hp}{l it d:dn}{ks:List Key}{ys xs:List V}
theorem cY(hh:A.handled=cO)(hx:xs.length=ks.length)(hy:ys.length=ks.length)(hp : ∀(n:Nat) (h1:n<xs.length) (h2:n<ks.length) (h3:n<ys.length),∃p,xs[n] = .ref p/\gu X.K H0 p [kV ks[n],ys[n]])(S:H0 d=cO)(Z:l≠d) : ∀(m n:Nat) (s:ed) (H:Hp) (C:List (Key×V)) (i:Int) (t:q7),n+m=ks.length->
 Inv X pins σ H s->g9 H0 H->H l=cq (.lst xs)->s.heap.IsListIter it l n->vD X pins H it->H d=cq (.dK C)->C.length+m<=fe->
 (∀J,Inv X pins σ (upd H d<|.dK<|mQ C<|(ks.zip ys).drop n) J->R (.ok<|.ret .none) J)->
 codeAny (eg X.prog X.w) A (.builtin "dict.update.loop" ⟨[.ref d,.ref it,.int i t,.none],[]⟩) R s:=by
 intro m
 induction m with
 | zero=>
  intro n s H C i t hn I sub U st Q f hz Y;obtain⟨z1,a,c,L,ll,h⟩:=I.DI U;refine OG yX ?_;unfold l6.«dict.update.loop»;have j:s.heap.IsList l a.toArray:=⟨_,h,rfl,_,rfl⟩;refine LK<|wpAny_pyNext_list_end (s:=s) hh st j (by simp;omega) λh' eb=>?_;refine LK<|LU ?_;have e0:upd H d (.dK<|mQ C<|(ks.zip ys).drop n)=H:=by
   rw[RW (by simp;omega)];funext c;by_cases q:c=d
   ·rw[q,zJ,f];rfl
   ·rw[zG q]
  rw[e0]at Y;exact LU (Y _<|I.wo (t':=s.toks) (fp:=[it]) (λb o O e=>eb b o (by simpa using O) e)<|λb O=>by rw[Om.mp O];exact Q)
 | succ m ih=>
  intro n s H C i t hn I sub U st Q f hz Y;obtain⟨z1,a,c,L,ll,h⟩:=I.DI U;have j:s.heap.IsList l a.toArray:=⟨_,h,rfl,_,rfl⟩;have P:n<ks.length:=by omega
  obtain⟨p,ep,T⟩:=hp n ⋯ P ⋯;obtain⟨u,hu,G⟩:=L.get (LP<|show n<xs.length by omega);rw[ep]at G;have eu:u = .ref p:=G;subst eu;refine OG yX ?_;unfold l6.«dict.update.loop»;refine LK<|wpAny_pyNext_list_item (s:=s) st j (x:= .ref p) (by simpa using hu) λh' W sb=>?_;have g:=I.wo (h':=h') (t':=s.toks) (fp:=[it]) (λb o O e=>(sb.2 b<|by simpa using O).trans e) (λb O=>by rw[Om.mp O];exact Q);obtain⟨ts,rt,⟨o,B,co,nn,bf⟩,zt⟩:=g.tuple<|mr sub T;obtain⟨u1,r,rfl,bg,k⟩ : ∃u1 r,ts=u1::r/\RelV (kV ks[n]) u1/\eK [ys[n]] r:=by
   cases rt with
   | cons q1 k=>exact⟨_,_,rfl,q1,k⟩
  obtain⟨u2,rfl,bl⟩:=yh k;have bm:({s with heap:=h'}:ed).TypeIs (.ref p) "tuple":=⟨_,B,co⟩;refine LK (NG (LK (wpAny_tryCatch ?_)));unfold Builtin.Dict.pairItems;refine LK (Pf bm ?_);rw[UJ ⋯];refine LK (NN B bf (LU ?_));show wpAny _ _ (t5 [u1,u2] (dictSet d u1 u2)) _ _ _;obtain⟨zz,bv,vs,y,dd⟩:=GN g.f6 f;have c0:vs.length<=fe:=by rw[<- y.length];exact zz
  have c1:(du C ks[n] ys[n]).length<=fe:=by have:=JV C ks[n] ys[n];omega
  refine NG<|wpAny_dictSet_pairs (hsz:=c0) (oo bg) dd λc2 z E=>?_;have he : ∃q,c2.get? d=cq q:=let ⟨q,_,_,hq,_⟩:=z;⟨q,hq⟩;have M:=uY (t':=s.toks+1) g (by rw[f];exact True.intro) E he<|Ed c1 bv (y.put ks[n] bl) z;have F:it≠d:=λq=>by have:=Q.1;rw[q,f]at this;cases this
  refine LU ⟨yN _,ih (n+1) _ _ (du C ks[n] ys[n]) (i+1) 0 ⋯ M (λc o e=>?_) (by rw[zG Z];exact U) (W.at λo q=>(E.2 it F).trans q) ⟨by rw[zG F];exact Q.1,Q.2⟩ zJ (by have:=JV C ks[n] ys[n];omega) λJ N=>Y J ?_⟩
  ·rw[zG (λq=>by rw[q,S]at e;cases e)];exact sub _ _ e
  ·have c7:n<(ks.zip ys).length:=by simp;omega
   have e1:(ks.zip ys).drop n=(ks[n],ys[n])::(ks.zip ys).drop (n+1):=by rw[NS c7];simp
   have e2:upd (upd H d<|.dK<|du C ks[n] ys[n]) d (.dK<|mQ (du C ks[n] ys[n])<|(ks.zip ys).drop (n+1))=upd H d (.dK<|mQ C<|(ks.zip ys).drop n):=by
    funext c;by_cases q:c=d
    ·rw[q,zJ,zJ,e1];rfl
    ·rw[zG q,zG q,zG q]
   rw[<- e2];exact N
theorem de(I:Inv X pins σ H s)(J:X.A.handled=cO)(sub:g9 H0 H)(O:H l=cq (.lst xs))(hx:xs.length=ks.length)(Z:ys.length=ks.length)
 (S : ∀(n:Nat) (h1:n<xs.length) (h2:n<ks.length) (h3:n<ys.length),∃p,xs[n] = .ref p/\gu X.K H0 p [kV ks[n],ys[n]]) (hz:ks.length<=fe)
 (L : ∀C p,H p=cO->Inv X pins σ (upd H p (.dK (mQ [] (ks.zip ys)))) C->Q (.ref p) C):wpAny (eg X.prog X.w) X.A (call (.type "dict") [.ref l]) Q X.xe s:=by
 have U:H s.heap.objs.size=cO:=I.fresh;have y:H0 s.heap.objs.size=cO:=js sub U;have m:l≠s.heap.objs.size:=λq=>by rw[q,U]at O;cases O
 refine SE (Q₁:=λobj f=>obj = .ref s.heap.objs.size/\f = {s with heap:=s.heap.push {cls:= .type "dict",data:= .dict #[]}}) F.kt_called_dict (F.kt_typeCall_dict_1 _) F.entry_dict_init (kt_code_dict_new _ ⟨rfl,rfl⟩) ?_;rintro obj f ⟨rfl,rfl⟩;have u:=I.laid (a:=s.heap.objs.size) (o:= .dK []) (t':=s.toks) (λ_ _ q=>LN {cls:= .type "dict",data:= .dict #[]} q) (LW _) (oO s.heap I.big);have r:({s with heap:=s.heap.push {cls:= .type "dict",data:= .dict #[]}}:ed).TypeIs (.ref s.heap.objs.size) "dict":=⟨_,Ma _ rfl,rfl⟩;obtain⟨P,h,c,N,M,B⟩:=I.DI O;have Y:(s.heap.push {cls:= .type "dict",data:= .dict #[]}).get? l=cq {cls:= .type "list",data:= .seq h.toArray c}:=LN _ B;refine⟨r,F.args_dict_init_2 _ _,?_⟩;unfold l6.«dict.__init__»;refine LK ?_;unfold Builtin.Dict.selfAndRest;refine LK (wpAny_notOrdered_dict r ?_);show wpAny _ _ (pure (s.heap.objs.size,[Nw l])) _ _ _;refine LU ?_;show wpAny _ _ (Builtin.Dict.updateFrom "dict.__init__" s.heap.objs.size (.ref l) [] .none) _ _ _;unfold Builtin.Dict.updateFrom;refine LK (Pf (T:="list") ⟨_,Y,rfl⟩ ?_);rw[UJ ⋯];refine LK (gQ (g:=s.gens) (d:=s.drawn) (t:=s.toks) (os:=s.os) Y (show X.A.in1.in1.handled=cO from J) λh' t' k=>?_);have i:Inv X pins σ (upd H s.heap.objs.size (.dK [])) {s with heap:=h',toks:=t'}:=u.kept k;have z:=k _ _ Y;simp only[Option.isNone_none,if_true];refine LK (OT (LK (SS (items:=h.toArray) ⟨_,z,rfl,_,rfl⟩ ?_)));refine LU ⟨yN _,?_⟩;have x:=i.kept (h':=h'.push {cls:= .type "list_iterator",data:= .fields #[.ref l,.int 0 0]}) (t':=t') λb o e=>LN _ e;have G:s.heap.objs.size<h'.objs.size:=by have:=Me (k _ _ (Ma s.heap (o:={cls:= .type "dict",data:= .dict #[]}) rfl));exact this
 have E:=i.uO (b:=h'.objs.size) (H':=upd H s.heap.objs.size<|.dK []) (LW _) i.fresh;refine cY (H0:=H0) (l:=l) (it:=h'.objs.size) (ks:=ks) (ys:=ys) (xs:=xs) (show X.A.in1.handled=cO from J) hx Z S y m ks.length 0 _ (upd H s.heap.objs.size<|.dK []) [] 0 0 (MT _) x (sub.trans<|jh U _) (by rw[zG m];exact O) ⟨_,Ma _ rfl,rfl,rfl⟩ E zJ (by simpa using hz) λC j=>?_;rw[Jn,List.drop_zero]at j;exact⟨rfl,L C _ U j⟩
end
theorem Yc : ∀{ps ks vs:List D},wc ps=cq (ks,vs)->ks.length=ps.length/\vs.length=ps.length
 | [],ks,vs,h=>by cases h;exact⟨rfl,rfl⟩
 | d::r,ks,vs,h=>by
  unfold wc at h;split at h
  ·split at h
   ·obtain⟨⟨a,b⟩,e,I⟩:=zE h
    cases I;obtain⟨f,g⟩:=Yc e;exact⟨by simp[f],by simp[g]⟩
   ·cases h
  ·cases h
theorem Xj{K:LM}{H:Hp} : ∀{ps ks vs:List D} {xs:List V} {C:List Int},wc ps=cq (ks,vs)->d9 K H ps xs->Xe ks=cq C->
 ∃ys,d9 K H vs ys/\ys.length=C.length/\xs.length=C.length/\∀(n:Nat) (J:n<xs.length) (L:n<C.length) (I:n<ys.length),∃p,xs[n] = .ref p/\gu K H p [.int C[n],ys[n]]
 | [],ks,vs,xs,C,h,r,hi=>by cases h;cases hi;rw[r.p5];exact⟨[],d9.nil,rfl,rfl,λn J=>by cases J⟩
 | d::ps,ks,vs,xs,C,h,r,hi=>by
  unfold wc at h;split at h
  ·split at h
   ·rename_i k v
    obtain⟨⟨a,b⟩,e,O⟩:=zE h;cases O;obtain⟨x,z,rfl,J,L⟩:=r.m8;cases k with
    | int j=>
     obtain⟨y,Q,U⟩:=zE hi;subst U;obtain⟨ys,o,s,Y,t⟩:=Xj e L Q;obtain⟨q,E,rfl,I,f⟩:=kW J;obtain⟨A,B,rfl,g,i⟩:=f.m8;obtain⟨u,w,rfl,l,m⟩:=i.m8;rw[m.p5,jz g]at I;refine⟨u::ys,d9.cons l o,by simp[s],by simp[Y],λn g1 g2 g3=>?_⟩;cases n with
     | zero=>exact⟨q,rfl,I⟩
     | succ n=>exact t n (by simpa using g1) (by simpa using g2) (by simpa using g3)
    | _=>cases hi
   ·cases h
  ·cases h
section
variable{X:Cx}{sc:hL}{N L:List Str}{k:Nat}{a o i:eh}{f:CO (List D)}{fd fk:CO D}{p pos:g5}
theorem mO(h:SX X sc N L k)(J:vZ sc "dict" = cM)(zd:X.mg "dict" = cO)(S:PO X a f)(hs:fA [a] X.env=[(cR,el a X.env)]:=by rfl) :
 PV X (.Call (.Name "dict" p) [a] [] pos) (pL f):=by
 intro g s σ H Q I o;obtain⟨H0,γ,d,rc,O,q⟩:=o;obtain⟨z,E,O⟩:=ze O;obtain⟨⟨b,j⟩,x,O⟩:=ze O;have P:X.A.handled=cO:=I.ok.hd h.calm;unfold oQ at O;cases hi:Xe b with
 | none=>rw[show(b,j).1=b from rfl,hi]at O;cases O
 | some e=>
  rw[show(b,j).1=b from rfl,hi]at O;dsimp only at O;by_cases r:b.length=j.length/\e.Nodup/\b.length<=lim
  ·rw[UJ r]at O
   cases O;refine Dc<|kI I (h.gl J).1 zd PyProof.Rows.boot_dict (MC ?_ (by rw[hs];rfl) rfl);rw[hs];show wpAny _ _ (M9 ((cR,el a X.env)::[])) _ _ s;refine Rq<|e9 (S g s σ H (λv i=>∃l xs U,v = .ref l/\Ext H0 H U i/\U l=cO/\i l=cq (.lst xs)/\d9 X.K U z xs) I ⟨H0,γ,z,rc,E,λl xs i U x1 g1 g2 g3 Y=>⟨l,xs,U,rfl,x1,g2,g3,Y⟩⟩) λv s1 o=>?_;obtain⟨y,i,B,ry,l,xs,U,rfl,x1,g2,g3,Y⟩:=o;cases ry;refine RE ?_;obtain⟨ys,R,T,W,Z⟩:=Xj x Y hi;have u:(e.map<|Od (β:=Str)).length=e.length:=by simp
   have nl:e.length=b.length:=by have:=(Yc x).1;have:=Y.length;omega
   refine de (H0:=U) (ks:=e.map Od) (ys:=ys) (xs:=xs) B P x1.sub g3 (by rw[u];exact W) (by rw[u];exact T) (λn F G M=>?_) ?_ λs' p m w=>?_
   ·obtain⟨t,t1,t2⟩:=Z n F (by simpa using G) M
    refine⟨t,t1,?_⟩;simpa[kV]using t2
   ·have:lim<=fe:=by decide
    rw[u];omega
   ·have C:mQ [] ((e.map<|Od (β:=Str)).zip ys)=(e.map Od).zip ys:=by
     rw[Xr _ []]
     ·simp
     ·rw[Ox,List.map_fst_zip ⋯]
      exact YV r.2.1
    rw[C]at w;exact⟨.ref p,_,w,rfl,q (.ref p) _ _ ((x1.trans<|Ext.hide x1.sub m _).show (kF x1.s1 m) (js x1.sub m) zJ rc.sub)
     (show ∃a xs,V.ref p = .ref a/\DQ (upd U p _) a b xs/\d9 X.K (upd U p _) j xs from⟨p,ys,rfl,⟨_,XG hi,by omega,zJ⟩,R.mono<|jh (js x1.sub m) _⟩)⟩
  ·rw[UY r]at O;cases O
theorem BC(h:SX X sc N L k)(J:PV X o fd)(C:PV X i fk)(hs:Hx i:=by intro _ _;rfl):PV X (.Subscript o i pos) (EM fd fk):=
 qC (ua (by have:=h.G9;omega) J C hs) λS H Q B=>by
  obtain⟨g,f,d,rc,I,q⟩:=B;obtain⟨s,t,I⟩:=ze I;obtain⟨P,u,I⟩:=ze I;cases s with
  | m7 F G=>
   obtain⟨j,w,z⟩:=ze I;refine⟨g,f,_,rc,t,λv M O x r=>⟨O,f,_,rc.ext x,u,λy l m U e=>?_⟩⟩;obtain⟨ad,b,rfl,⟨R,g1,g2,g3⟩,A⟩:=(show ∃a b,v = .ref a/\DQ O a F b/\d9 X.K O G b from r);rw[jS w]at e;have E:y = .int j:=e;obtain⟨Y,n,p⟩:=(KB (i:=j) g1 g2<|A.mono U.s0).1 d z;refine⟨ad,Y,rfl,?_,q Y l m (x.trans U) p⟩;rw[E,<- n];exact .inl ⟨_,Od j,.inl<|U.s1 _ _<|x.sub _ _ g3,rfl,rfl⟩
  | _=>cases I
theorem tE(h:SX X sc N L k)(S:PV X i fk)(ho:PV X o fd)(Z:z3 .In o=cR:=by with_unfolding_all rfl):m4 X (.Compare i [.In] [o] pos) (sB<|Bl fk fd):=
 VW (BI (Ce (by have:=h.G9;omega) S ho) Z) λσ H Q M=>by
  obtain⟨n,m,b,rc,I,q⟩:=M;obtain⟨W,A,G⟩:=ze I;obtain⟨k1,B,I⟩:=ze A;obtain⟨w,C,I⟩:=ze I;cases w with
  | m7 g l=>
   obtain⟨j,E,F⟩:=zE I;subst F;cases G;refine⟨n,m,_,rc,B,λy R p x Y=>⟨p,m,_,rc.ext x,C,λv e O U r=>?_⟩⟩;obtain⟨ad,d,rfl,⟨kk,g1,g2,g3⟩,J⟩:=(show ∃a d,v = .ref a/\DQ O a g d/\d9 X.K O l d from r);rw[jS E]at Y;have f:y = .int j:=Y;obtain⟨s,t⟩:=KB (i:=j) g1 g2 J;cases hv:aU g l j with
   | none=>
    refine⟨ad,cO,rfl,?_,_,rfl,?_⟩
    ·rw[f,<- t hv]
     exact .inl ⟨_,Od j,.inl<|U.sub _ _ g3,rfl,rfl⟩
    ·rw[hv]at q;exact q e O<|x.trans U
   | some z=>
    obtain⟨P,u,T⟩:=s z hv;refine⟨ad,cq P,rfl,?_,_,rfl,?_⟩
    ·rw[f,<- u]
     exact .inl ⟨_,Od j,.inl<|U.sub _ _ g3,rfl,rfl⟩
    ·rw[hv]at q;exact q e O<|x.trans U
  | _=>cases I
end
noncomputable def Gz:D->Option (List Int)
 | .tup a=>Xe a
 | _=>cO
noncomputable def Cy:List D->Option (List<|List Int)
 | []=>cq []
 | d::ds=>(Gz d).bind λk=>(Cy ds).map λr=>k::r
noncomputable def HG(f:CO (List D))(γ:Ctx):Option D:=(f γ).bind λb=>(wc b).bind λp=>(Cy p.1).bind λa=>if a.Nodup/\a.length<=lim then cq (.ml a p.2)else cO
noncomputable def GH:List (List Int)->List D->List Int->Option D
 | k::ks,v::vs,i=>if k=i then cq v else GH ks vs i
 | _,_,_=>cO
noncomputable def IU(C I:CO D)(γ:Ctx):Option D:=(C γ).bind λd=>(I γ).bind λk=>match d with
 | .ml a b=>(Gz k).bind λi=>GH a b i
 | _=>cO
noncomputable def GG(d k x:D):Option D:=match d with
 | .ml a b=>(Gz k).map λi=>(GH a b i).getD x
 | _=>cO
noncomputable def IS(C J I:CO D)(γ:Ctx):Option D:=(C γ).bind λd=>(J γ).bind λk=>(I γ).bind λx=>GG d k x
noncomputable def IQ(f:CO D)(γ:Ctx):Option (List D):=(f γ).bind λd=>match d with
 | .ml a _=>cq (a.map λk=> .tup (k.map .int))
 | _=>cO
section
variable(γ:Ctx)
@[simp] noncomputable def Fw:=@HG.eq_1
@[simp] noncomputable def Hq:=@IU.eq_1
@[simp] noncomputable def Hl:=@IS.eq_1
@[simp] noncomputable def Hj:=@IQ.eq_1
end
noncomputable def HU:List (List Int)->List Int->List Int->Option Int
 | k::ks,n::ns,i=>if k=i then cq n else HU ks ns i
 | _,_,_=>cO
noncomputable def eqT(ks:List (List Int))(C:List Int)(I:List (List Int))(O:List Int):Bool:=decide (ks.length=I.length) && (ks.zip C).all λx=>decide<|HU I O x.1=cq x.2
noncomputable def HX(d e:D):Option Bool:=match d with
 | .ml a f=>match e with
  | .ml I O=>(Xe f).bind λb=>(Xe O).map λQ=>eqT a b I Q
  | _=>cO
 | _=>cO
@[simp] noncomputable def LJ(d e:D):Option D:=(HX d e).map D.bl
@[simp] noncomputable def LI(d e:D):Option D:=(HX d e).map λb=>D.bl<|!b
noncomputable def IP(f:CO D)(γ:Ctx):Option D:=(f γ).bind λd=>match d with
 | .ml a _=>cq (.int a.length)
 | _=>cO
@[simp] noncomputable def Hi:=@IP.eq_1
abbrev TT:=List (List (List Int))
inductive Pl where
 | out | tab (k:Nat) | row (k m:Nat)
deriving DecidableEq
section
variable{K:LM}{al:List (Nat×Pl)}{E0 E H0 H xg H':Hp}{σ W_:St}{γ γ':Ctx}{Z:TT}{ad:Pl->dn}
open Classical in
end
open Classical in
section
variable{H:Hp}{Z:TT}{ad:Pl->dn}
end
end DL
namespace DL
open PySem PySem.Spec PyProof.Rows L2
open PySem.W (KasT kas_sort kas_ask kat_run kat_snds kat_lt kat_cons kat_no kat_yes kat_nil kat_go kat_one kat_kind KatTups KatGo)
section
variable{prog:il}{w:hG}{A:k0}{E:EQ}{s:ed}
theorem aM{a kS:dn}{O:List dy}{out:List dy}{e C:Nat}{P:PySem.Fin->ed->Prop}{st:SortSt}(Q:s.heap.get? kS=cq (g8 "list" O.toArray e))(L:s.heap.get? a=cq (g8 "list" #[] C))(U:kS≠a)(Y:O.length<=fe)(J:out.length<=fe)
 (Z:(E5 st).map (·.2)=out.toArray) (S:failedOf st=cO)
 (h : ∀h' c,h'.objs.size=s.heap.objs.size->(∀b o,b≠a->b≠kS->s.heap.get? b=cq o->h'.get? b=cq o)->h'.get? a=cq (g8 "list" out.toArray c)->P (.done (.ret .none)) {s with heap:=h'}) :
 wpAny (eg prog w) A (ksk_tail a cR C (.ref kS) st) P E s:=by
 unfold ksk_tail;refine LK (PU Q rfl ?_ (by rw[Mb];exact Y) (MR _));refine LK (Sd ?_);have I:(s.heap.update kS (ME λ_=>(#[]:Array dy))).get? a=cq (g8 "list" #[] C):=(Mx _ _ U).trans L;refine LK (SH I rfl ?_);simp only[Nj,if_false];rw[Z];refine LK (PU I rfl ?_ (MR _) (by show out.toArray.size<=_;rw[Mb];exact RI J));rw[S];simp only[bne_self_eq_false,Nj,if_false];obtain⟨c,g⟩ : ∃c,((s.heap.update kS (ME λ_=>(#[]:Array dy))).update a (ME λ_=>out.toArray)).get? a=cq (g8 "list" out.toArray c):=⟨_,Sr I λ_=>out.toArray⟩;refine LU (h _ c (by rw[OM,OM]) (λb o d f q=>?_) g);exact(Mx _ _ (My d)).trans ((Mx _ _ (My f)).trans q)
theorem uE{a kS:dn}{vs I:List dy}{ps:List (Int×Int)}{e J:Nat}{P:PySem.Fin->ed->Prop}(hk:s.heap.get? kS=cq (g8 "list" I.toArray e))(ha:s.heap.get? a=cq (g8 "list" #[] J))(a9:kS≠a)(ac:I.length=vs.length)(L:ps.length=vs.length)(ax:vs.length<64)
 (S : ∀i (Z:i<I.length),y6 s.heap I[i] (ps.getD i (0,0)).1 (ps.getD i (0,0)).2)
 (h : ∀h' c,h'.objs.size=s.heap.objs.size->(∀b o,b≠a->b≠kS->s.heap.get? b=cq o->h'.get? b=cq o)->h'.get? a=cq (g8 "list" (OU ((qj ps).map λi=>vs.getD i MM)) c)->P (.done (.ret .none)) {s with heap:=h'}) :
 wpAny (eg prog w) A (ksk_end a cR vs.toArray J (.ref kS) I.toArray) P E s:=by
 have hz:vs.length<=fe:=by rw[Pg];omega
 have n:vs.toArray.size=vs.length:=by simp
 have c4:((qj ps).map λi=>vs.getD i MM).length=vs.length:=by rw[Mm,(jV ps).length_eq,Nc,L]
 have step : ∀t:Sem PySem.Fin,wpAny (eg prog w) A t P E s->wpAny (eg prog w) A (if cR=cM then (do let _ <- rule "list.sort.reverse";t)else t) P E s:=λt ht=>ht;unfold ksk_end
 try dsimp only
 refine step _ ?_;by_cases g:vs.toArray.size<2
 ·rw[UJ g,UJ g]
  refine LK<|LU ?_;rw[StateT.run_pure];refine LK<|LU ?_;dsimp only;have ev:(qj ps).map (λi=>vs.getD i MM)=vs:=by unfold qj;rw[UJ ⋯,L];exact jq _ _
  have e7:Array.map (λx=>x.snd) (E5<|SortSt.mk' general' (I.toArray.zip vs.toArray) #[] 7 cO)=((qj ps).map (λi=>vs.getD i MM)).toArray:=by show Array.map (λx=>x.snd) (I.toArray.zip vs.toArray)=_;rw[ev];apply Array.ext';simp[Array.toList_map,Array.toList_zip];rw[List.map_snd_zip ⋯]
  exact aM hk ha a9 ⋯ ⋯ e7 rfl h
 ·rw[UY g,UY g]
  have n2:2<=vs.length:=by rw[<- n];omega
  obtain⟨fs,f1,f2,f3⟩:=gY (ks:=λi=>(ps.getD i (0,0)).1) λi Z=>(S i Z).one;refine LK (kat_kind (T:=OJ "int") f1 ⋯ (λv hv=>?_) ⋯ ?_)
  ·obtain⟨k,t,rfl⟩:=f3 v hv
   exact PySem.W.Looks.of_pure rfl
  have ep:(kc (λi j=>vG (ps.getD i (0,0))<|ps.getD j (0,0))<|kas_sort vs.length).toList=qj ps:=by unfold qj;rw[UY ⋯,L]
  refine LK (Oh (kat_run (E:=E) (ks:=I) (Q:=λf d=>∃p:Array Nat,E5 f=p.map (PySem.W.kas_item<|I.toArray.zip vs.toArray)/\failedOf f=cO/\p.toList=qj ps/\d=s)
   (G:=λp d=>p.toList=qj ps/\d=s)
   ac n2 ax (λp f d a1 K M r=>⟨p,K,M,r.1,r.2⟩) (Wj (lt:=λi j=>vG (ps.getD i (0,0))<|ps.getD j (0,0)) (λi j C Z hj O=>?_) (J5 ⋯) ⟨ep,rfl⟩)) ?_ λ_ _ e=>e)
  ·show wpAny _ _ (keyLt' _ (I.getD i MM)<|I.getD j MM) C _ _
   have z:i<I.length:=by omega
   have B:j<I.length:=by omega
   rw[show I.getD i MM=I[i]by simp[z],show I.getD j MM=I[j]by simp[B]];obtain⟨x,ox,xs,m,t,u,J,e2,e3,e4,H⟩:=S i z;obtain⟨y,oy,ys,m',t',u',d1,d2,d3,d4,F⟩:=S j B;rw[J,d1];refine kat_lt e2 e4 d2 d4 ?_;have N:xs.size=2:=by rw[<- Nz,H];rfl
   have R:ys.size=2:=by rw[<- Nz,F];rfl
   rw[H,F,N,R,OP,OP];unfold vG at O;generalize ps.getD i (0,0)=Y at O ⊢;generalize ps.getD j (0,0)=X2 at O ⊢;refine kat_cons<|Pj Y.1 t X2.1 t' _ _ _ _ ?_;refine kat_go (λU=>?_) λU=>?_
   ·have U:Y.1=X2.1:=by simpa using U
    rw[UJ U]at O;refine kat_yes<|kat_cons<|Pj Y.2 u X2.2 u' _ _ _ _<|kat_go (λl=>?_) λl=>?_
    ·have l:Y.2=X2.2:=by simpa using l
     refine kat_yes<|kat_nil ?_;rw[show decide (Y.2<X2.2)=cR by rw[l];simp]at O;exact O
    ·exact kat_no<|kat_one _ _<|lt_int O
   ·have U:Y.1≠X2.1:=by simpa using U
    rw[UY U]at O;exact kat_no<|oneLt_int O
  rintro⟨⟨⟩,f⟩ d ⟨p,X,hf,hp,rfl⟩;dsimp only;have as:=kat_snds ac X;rw[hp]at as;exact aM hk ha a9 ⋯ ⋯ as hf h
end
end DL
namespace DL
open PySem PySem.Spec PyProof.Rows L2
section
variable{X:Cx}{pins:UQ}{σ:St}{H:Hp}{s:ed}{a:dn}{o:HO}
theorem hJ(I:Inv X pins σ H s)(f:vD X pins H a)(new:m3 X.prog X.w (upd H a o) s.heap a o):Inv X pins σ (upd H a o) s:=by
 obtain⟨f1,f2,t,i,j,k⟩:=f;have d : ∀b u,H b=cq u->b≠a:=λb u q z=>by rw[z,f1]at q;cases q
 refine⟨I.ok,I.os,I.bare,⟨I.base.keep,I.base.slot,λb Q q n g=>?_,I.base.there,λb h q=>?_,λb Q u q=>?_,λb l q=>?_⟩,I.loc,I.cell,?_,λx c e=>?_,λp Y=>?_,λb u e=>?_,I.len⟩
 ·have O:b≠a:=λz=>by
   rcases i with U | U
   ·exact g<|z ▸ U
   ·have:=Me q
    rw[z]at this;exact absurd this<|Nat.not_lt_of_le U
  rw[zG O];exact I.base.free b Q q n g
 ·have:=I.base.C7 b h q
  rw[zG (d b _ this)];exact this
 ·have:=I.base.Dl b Q u q
  rw[zG (d b _ this)];exact this
 ·obtain⟨m,this⟩:=I.base.DO b l q
  exact⟨m,by rw[zG (d b _ this)];exact this⟩
 ·rw[zG (My f2)];exact I.free
 ·rw[zG (j x c e)];exact I.u9 x c e
 ·obtain⟨e,n,r⟩:=I.pin p Y
  exact⟨e,by rw[zG (k p Y)];exact n,r⟩
 ·by_cases O:b=a
  ·subst O;rw[zJ]at e;cases e;exact new
  ·rw[zG O]at e
   exact(I.f6 b u e).Dq (λ_ _ _ q=>q) (λc q=>by rw[zG (d c _ q)];exact q) λc h q=>by rw[zG (d c _ q)];exact q
theorem sW{A:k0}{Q:VK}{us:List dy}{vs:List V}{CX:t8}{k:Nat}{f:dn}{C:q5}{ps:List Str}{sp:Sp}(F:qs X.prog X.w X.K X.mg X.base rp k f C ps sp)(U:nh k A)(Y:A9 X.prog X.w X.K X.mg X.base A X.stack s H)(J:Binds X.K C ps [])
 (I:Inv X pins σ H s) (r:eK vs us) (h:sp vs H Q E0):wpAny (eg X.prog X.w) A (call (.ref f) us) (EP X pins σ Q) (λ_ _=>False) s:=by
 have b:us.length=ps.length:=by rw[<- r.length];exact F.len _ _ _ _ h
 refine wpAny_call<|Ss (F.run A X.stack s H ⟨us,[]⟩ us vs Q E0 U Y (by simpa using J s us I.DH (by simpa using b)) r h) λr d O=>?_;cases r with
 | error e=>exact O.elim
 | ok a=>
  cases a with
  | ret u=>exact I.after O
  | next=>exact Ou O
  | brk=>exact Ou O
  | cont=>exact Ou O
theorem Br(I:Inv X pins σ H s)(J:vD X pins H kS)(C:vD X pins H a)(Q:s.heap.get? kS=cq ok)(L:s.heap.get? a=cq oa)(U : ∀v,ok.data ≠ .cell v)(Y : ∀v,oa.data ≠ .cell v):Inv X (pins++[(kS,ok),(a,oa)]) σ H s:=
 I.M4 λp O=>by
  rcases OV.mp O with O | O
  ·exact I.pin p<|Mr _ O
  ·rcases Mc.mp O with rfl | O
   ·exact⟨Q,J.1,J.2.1,J.2.2.1,U⟩
   ·rw[Om.mp O];exact⟨L,C.1,C.2.1,C.2.2.1,Y⟩
theorem AK(I:Inv X (pins++more) σ H s):Inv X pins σ H s:=I.M4 λp O=>I.pin p<|Mr _<|Si _ O
end
noncomputable def YK(ps:List (Int×Int)):List D:=ps.map λp=>D.tup [.int p.1,.int p.2]
section
variable{X:Cx}{pins:UQ}{σ:St}{F:List D->Option Res}{k:Nat}{f:dn}{fd:q5}{pr:List Str}{A:k0}{E:EQ}
theorem sj(I:Inv X pins σ H s)(sub:g9 H0 H)(r:Rep X.K H0 (.tup [.int i,.int j]) v)(C:RelV v u):y6 s.heap u i j:=by
 obtain⟨b,J,rfl,d,g⟩:=kW r;obtain⟨y,G,f,h,k⟩:=g.m8;obtain⟨F,B,a,l,m⟩:=k.m8;rw[m.p5]at a;rw[f,a,jz h,jz l]at d;cases C;obtain⟨e,A,⟨o,x,p,n,w⟩,_⟩:=I.tuple<|mr sub d;obtain⟨O,Q,rfl,U,Y⟩ : ∃O Q,e=O::Q/\RelV (.int i) O/\eK [.int j] Q:=by
  cases A with
  | cons U Y=>exact⟨_,_,rfl,U,Y⟩
 obtain⟨E,rfl,z⟩:=yh Y;obtain⟨t,rfl⟩:=U;obtain⟨u,rfl⟩:=z;exact⟨b,o,_,n,t,u,rfl,x,p,w,rfl⟩
theorem oj{a kS:dn}{vs:List dy}{xs:List V}{ds:List D}{ps:List (Int×Int)}{L:Nat}{P:PySem.Fin->ed->Prop}{H0 H:Hp}{s:ed}
 (G:qs X.prog X.w X.K X.mg X.base rp k f fd pr (sm X.K pr.length F)) (h1:pr.length=1) (hr:nh k A) (bf:A.frames=cq X.stack) (O:Binds X.K fd pr [])
 (I:Inv X pins σ H s) (sub:g9 H0 H) (rv:eK xs vs) (rd:d9 X.K H0 ds xs) (ax:ps.length=vs.length) (bg:vs.length<64)
 (hF : ∀(i:Nat) d p,ds[i]? = cq d->ps[i]? = cq p->F [d]=cq (.val<|.tup [.int p.1,.int p.2]))
 (hk:s.heap.get? kS=cq (g8 "list" #[] 0)) (ha:s.heap.get? a=cq (g8 "list" #[] L)) (b0:kS≠a) (fk:vD X pins H kS) (fa:vD X pins H a)
 (h : ∀J H' C c,Inv X pins σ H' J->Ext H0 H C H'->J.heap.get? a=cq (g8 "list" (OU ((qj ps).map λi=>vs.getD i MM)) c)->vD X pins H' a->P (.done (.ret .none)) J) :
 wpAny (eg X.prog X.w) A (ksk_rest a (.ref f) cR vs.toArray L<|.ref kS) P E s:=by
 have cb:=rv.length;have cd:=rd.length;have hz:vs.length<=fe:=by rw[Pg];omega
 unfold ksk_rest;refine LK (OT ?_);rw[Sz];refine LK (ksk_fold (λj J=>∃l n U e,Inv X (pins++[(kS,g8 "list" U e),(a,g8 "list" #[] L)]) σ l J/\Ext H0 H n l/\∃g:List V,eK g U.toList/\d9 X.K n (YK (ps.take j)) g) vs 0 s
  ⟨H,H0,#[],0,Br I fk fa hk ha (λv z=>by cases z) (λv z=>by cases z),Ext.refl sub,[],.nil,d9.nil⟩ ?step ?done)
 case step=>
  rintro j x J hx ⟨l,n,U,e,Y,x1,g,B,m⟩;simp only[MT]at m ⊢;have hj:j<vs.length:=(Mj.mp hx).1;have hp:ps[j]? = cq ps[j]:=LP ⋯;have hd:ds[j]? = cq ds[j]:=LP ⋯;have b6:xs[j]? = cq xs[j]:=LP ⋯;obtain⟨u',b7,bl⟩:=rv.get b6;rw[hx]at b7;cases b7;obtain⟨x',b8,bm⟩:=rd.get hd;rw[b6]at b8;cases b8;have env:A9 X.prog X.w X.K X.mg X.base A X.stack J l:=⟨bf,Y.B6.mod,Y.B6.bs,Y.B6.z4,Y.B6.t4,Y.B6.Dk,Y.B6.f6,Y.B6.bare⟩;refine LK (NP (Oh (sW (CX:=rp) (Q:=λv H'=>∃C,Ext n l C H'/\Rep X.K C (.tup [.int ps[j].1,.int ps[j].2]) v) G hr env O Y (vs:=[xs[j]]) (us:=[x]) (.cons bl .nil)
   ⟨n,[ds[j]],_,x1.sub,d9.cons (bm.mono x1.s0) d9.nil,by rw[h1];rfl,hF j _ _ hd hp,λv H' C S r2=>⟨C,S,r2⟩⟩) (λv M he=>?_) λ_ _ hF=>hF.elim))
  obtain⟨vv,T,t,bx,c0,S,r2⟩:=he
  try dsimp only
  obtain⟨r,W,_⟩:=t.pin (kS,g8 "list" U e) (Mr _ (Mr _ (.head _)));obtain⟨na,Z,_⟩:=t.pin (a,g8 "list" #[] L) (Mr _ (Mr _ (.tail _ (.head _))));have c1:=AK t;have N:vD X pins T kS:=⟨W,fk.2⟩;have R:vD X pins T a:=⟨Z,fa.2⟩;have kl:U.size=j:=by have:=B.length;have:=m.length;simp only[YK,Mm,Rb,Nz]at *;omega
  refine LK (PU r rfl ?_ (by rw[kl,Pg];omega) (Nv (Nat.le_of_eq (Array.size_push ..)) (by rw[kl,Pg];omega)));obtain⟨c2,c3⟩ : ∃c2,(M.heap.update kS (ME (·.push v))).get? kS=cq (g8 "list" (U.push v) c2):=⟨_,Sr r (·.push v)⟩;have I3:=c1.wo (h':=M.heap.update kS (ME (·.push v))) (t':=M.toks) (fp:=[kS]) (λb o O q=>(Mx _ _ (λz=>O (by rw[z];exact List.mem_singleton_self _))).trans q) (λb O=>by rw[Om.mp O];exact N);have c5:(M.heap.update kS (ME (·.push v))).get? a=cq (g8 "list" #[] L):=(Mx _ _ b0).trans na;refine LU ⟨rfl,T,c0,U.push v,c2,Br I3 N R c3 c5 (λv z=>by cases z) (λv z=>by cases z),x1.trans S,g++[vv],?_,?_⟩
  ·rw[Array.toList_push];exact B.append<|.cons bx .nil
  ·have ek:ps.take (j+1)=ps.take j++[ps[j]]:=by rw[List.take_add_one,hp];simp
   rw[ek];unfold YK at m ⊢;rw[Nm];exact(m.mono S.s0).append (d9.cons r2 d9.nil)
 case done=>
  rintro J ⟨l,n,U,e,Y,x1,g,B,m⟩;rw[MT,<- ax,List.take_length]at m;obtain⟨r,W,_⟩:=Y.pin (kS,g8 "list" U e) (Mr _ (Mr _ (.head _)));obtain⟨na,Z,_⟩:=Y.pin (a,g8 "list" #[] L) (Mr _ (Mr _ (.tail _ (.head _))));have bb:=AK Y;have N:vD X pins l kS:=⟨W,fk.2⟩;have R:vD X pins l a:=⟨Z,fa.2⟩
  try dsimp only
  refine LK<|listItems_at r rfl ?_;have l1:=B.length;have l2:=m.length;simp only[YK,Mm]at l2;have ek:U=U.toList.toArray:=by simp
  rw[ek]at r ⊢;refine uE r na b0 ⋯ ax bg (λi hi=>?_) λh' c hsz kp hA=>?_
  ·have c7:i<ps.length:=by omega
   obtain⟨y,ey,ry⟩:=m.get (i:=i) (d:= .tup [.int (ps.getD i (0,0)).1,.int (ps.getD i (0,0)).2]) (by unfold YK;simp[c7]);obtain⟨u,hu,ru⟩:=B.get ey;have:U.toList[i]=u:=by rw[LP hi]at hu;exact MN hu
   rw[this];exact sj bb x1.sub ry ru
  ·have t:=bb.wo (h':=h') (t':=J.toks) (fp:=[a,kS]) (λb o O q=>kp b o (λz=>O<|by rw[z];simp) (λz=>O<|by rw[z];simp) q) (λb O=>by
    rcases Mc.mp O with rfl | O
    ·exact R
    ·rw[Om.mp O];exact N)
   exact h _ l n c t x1 hA R
end
noncomputable def uc:Res->Option (Int×Int)
 | .val d=>match d with
  | .tup a=>match a with
   | [x,y]=>(m5 x).bind λi=>(m5 y).map λj=>(i,j)
   | _=>cO
  | _=>cO
 | .own _=>cO
noncomputable def Y3(F:List D->Option Res):List D->Option (List<|Int×Int)
 | []=>cq []
 | d::r=>((F [d]).bind uc).bind λp=>(Y3 F r).map λl=>p::l
noncomputable def eO(F:List D->Option Res)(f:CO (Sk×List D)):CO (List D):=λd=>(f d).bind λa=>match a.1 with
 | .L=>(Y3 F a.2).bind λb=>if a.2.length<64 then cq ((qj b).map λi=>a.2.getD i .ez)else cO
 | _=>cO
theorem Ya(I:eK xs vs) : ∀(o:List Nat),(∀i∈o,i<xs.length)->eK (o.map λi=>xs.getD i .ez) (o.map λi=>vs.getD i MM)
 | [],_=> .nil
 | i::o,h=>by have a:=h i Mh;refine .cons ?_ (Ya I o λj O=>h j<|Mg _ O);obtain⟨v,Q,g2⟩:=I.get (i:=i) (x:=xs[i])<|LP a;show RelV (xs.getD i V.ez) (vs.getD i MM);rw[LS,LS,LP a,Q];exact g2
section
variable{X:Cx}{pins:UQ}{σ:St}{F:List D->Option Res}{k:Nat}{f:dn}{fd:q5}{pr:List Str}
theorem cL
 (G:qs X.prog X.w X.K X.mg X.base rp k f fd pr (sm X.K pr.length F)) (Z:pr.length=1) (hr:nh (k+1+1) X.A) (O:Binds X.K fd pr [])
 (I:Inv X pins σ H s) (sub:g9 H0 H) (hl:s.heap.IsList l vs.toArray) (Y:eK xs vs) (rd:d9 X.K H0 ds xs) (L:ps.length=vs.length) (S:vs.length<64)
 (hF : ∀(i:Nat) d p,ds[i]? = cq d->ps[i]? = cq p->F [d]=cq (.val<|.tup [.int p.1,.int p.2]))
 (h : ∀J H' C D,H D=cO->H' D=cO->Ext H0 H C H'->Inv X pins σ (upd H' D<|.lst<|(qj ps).map λi=>xs.getD i .ez) J->Q (.ref D) J) :
 wpAny (eg X.prog X.w) X.A (call (.builtin "sorted") [.ref l] [(Mw "key",.ref f)]) Q E s:=by
 have ax:=Y.length;have e:vs.length<=fe:=by rw[Pg];omega
 refine call_function_entry_kw kind_sorted plain_sorted entry_sorted (ksk_s1 _ _) ?_;unfold l6.«sorted»;refine LK (m:=checkCount "sorted" 1 1 _) (LU ?_);refine LK (collect_list hl ?_ e);refine LK (SO ?_ e);have a:((s.heap.push (g8 "list" #[] 0)).update s.heap.objs.size (ME (· ++ vs.toArray))).objs.size=s.heap.objs.size+1:=by rw[OM,SV]
 have U:(((s.heap.push (g8 "list" #[] 0)).update s.heap.objs.size (ME (· ++ vs.toArray))).push (g8 "list" vs.toArray 0)).get? (s.heap.objs.size+1)=cq (g8 "list" vs.toArray 0):=by rw[<- a];exact Ma _ rfl
 have keep : ∀b o,s.heap.get? b=cq o->(((s.heap.push (g8 "list" #[] 0)).update s.heap.objs.size (ME (· ++ vs.toArray))).push (g8 "list" vs.toArray 0)).get? b=cq o:=λb o q=>by have j:b<s.heap.objs.size:=Me q;rw[Pd _ _ _ (by rw[a];exact Ml (Nd j)),Sq _ _ _ _ (Ml j),Pd _ _ _ (Ml j)];exact q
 have n:(((s.heap.push (g8 "list" #[] 0)).update s.heap.objs.size (ME (· ++ vs.toArray))).push (g8 "list" vs.toArray 0)).objs.size=s.heap.objs.size+2:=by rw[SV,a]
 show wpAny _ _ _ _ _ {s with heap:=((s.heap.push (g8 "list" #[] 0)).update s.heap.objs.size (ME (· ++ vs.toArray))).push (g8 "list" vs.toArray 0)};rw[a];generalize ((s.heap.push (g8 "list" #[] 0)).update s.heap.objs.size (ME (· ++ vs.toArray))).push (g8 "list" vs.toArray 0)=g at U keep n ⊢;have P:Inv X pins σ H {s with heap:=g}:=I.kept (t':=s.toks) keep;have x:vD X pins H (s.heap.objs.size+1):=I.uO (Rp _) (I.f6.fresh (Rp _));refine LK (NG (wpAny_call_entry_kw slot_list_sort ⟨_,U,rfl⟩ entry_list_sort ?body (ksk_l1 _ _)))
 case body=>
  show wpAny (eg X.prog X.w) X.A.in1.in1 (l6.«list.sort» ⟨[.ref (s.heap.objs.size+1)],[(Mw "key",.ref f)]⟩) _ _ _;rw[ksk_t1];unfold ksk_tree;refine LK (D_ U rfl ?_);refine LK (PU U rfl ?_ (by rw[Mb];exact e) (MR _));obtain⟨t,r⟩ : ∃t,(g.update (s.heap.objs.size+1) (ME λ_=>(#[]:Array dy))).get? (s.heap.objs.size+1)=cq (g8 "list" #[] t):=⟨_,Sr U λ_=>#[]⟩;refine LK (SH r rfl ?_);refine LK (RO ?_ (by show vs.length<=_;exact e));refine LK (SO ?_ (MR _));refine NG ?_;have B:=P.wo (h':=g.update (s.heap.objs.size+1) (ME λ_=>(#[]:Array dy))) (t':=s.toks) (fp:=[s.heap.objs.size+1]) (λb o O q=>(Mx _ _ (λz=>O (by rw[z];exact List.mem_singleton_self _))).trans q) (λb O=>by rw[Om.mp O];exact x);have M:=B.kept (h':=((g.update (s.heap.objs.size+1) (ME λ_=>(#[]:Array dy))).push (g8 "tuple" vs.toArray 0)).push (g8 "list" #[] 0)) (t':=s.toks) (λb o q=>LN _ (LN _ q));have y:((g.update (s.heap.objs.size+1) (ME λ_=>(#[]:Array dy))).push (g8 "tuple" vs.toArray 0)).objs.size=s.heap.objs.size+3:=by rw[SV,OM,n]
  have T:vD X pins H (s.heap.objs.size+3):=I.uO (MI _ _) (I.f6.fresh (MI _ _));refine oj (A:=X.A.in1.in1) (ps:=ps) (xs:=xs) (ds:=ds) (H0:=H0) (H:=H) (s:={s with heap:=((g.update (s.heap.objs.size+1) (ME λ_=>(#[]:Array dy))).push (g8 "tuple" vs.toArray 0)).push (g8 "list" #[] 0)}) (kS:=((g.update (s.heap.objs.size+1) (ME λ_=>(#[]:Array dy))).push (g8 "tuple" vs.toArray 0)).objs.size)
   G Z hr.in1.in1 I.B6.in1.in1.frames O M sub Y rd L S hF (Ma _ rfl) (LN _<|LN _ r) (by rw[y];exact λz=>absurd (Nat.add_left_cancel z) ⋯) (by rw[y];exact T) x λJ H' C c N x3 W u=>⟨_,rfl,?_⟩
  refine LU ⟨_,rfl,h J H' C _ (I.f6.fresh<|Rp _) u.1 x3<|hJ N u ?_⟩;have R : ∀i∈qj ps,i<xs.length:=λi hi=>by have:=(jV ps).mem_iff.mp hi;have:=LO.mp this;omega
  have as:((qj ps).map λi=>xs.getD i V.ez).length=vs.length:=by rw[Mm,(jV ps).length_eq,Nc,L]
  exact⟨by rw[as];exact e,(qj ps).map λi=>vs.getD i MM,c,Ya Y _ R,W⟩
end
theorem Y2 : ∀{ds:List D} {ps:List (Int×Int)},Y3 F ds=cq ps->ps.length=ds.length
 | [],ps,h=>by cases h;rfl
 | d::r,ps,h=>by obtain⟨p,_,a⟩:=ze h;obtain⟨l,I,O⟩:=zE a;subst O;simp[Y2 I]
theorem cu(h:uc r=cq p):r = .val (.tup [.int p.1,.int p.2]):=by
 unfold uc at h;split at h
 ·split at h
  ·split at h
   ·obtain⟨i,a,b⟩:=ze h
    obtain⟨j,I,O⟩:=zE b;subst O;rw[jS a,jS I]
   ·cases h
  ·cases h
 ·cases h
theorem aL : ∀{ds:List D} {ps:List (Int×Int)},Y3 F ds=cq ps->∀(i:Nat) d p,ds[i]? = cq d->ps[i]? = cq p->F [d]=cq (.val<|.tup [.int p.1,.int p.2])
 | [],ps,h,i,d,p,hd,hp=>by simp at hd
 | c::r,ps,h,i,d,p,hd,hp=>by
  obtain⟨q,b,e⟩:=ze h;obtain⟨l,I,O⟩:=zE e;subst O;cases i with
  | zero=>
   simp at hd hp;subst hd hp;obtain⟨U,a,Q⟩:=ze b;rw[a,cu Q]
  | succ i=>exact aL I i d p (by simpa using hd) (by simpa using hp)
section
variable{X:Cx}{sc:hL}{N L:List Str}{k j:Nat}{e:eh}{fq:CO (Sk×List D)}{F:List D->Option Res}{x:Str}{p p2 pos C_:g5}
theorem nj(S:gR X.prog X.w X.K X.mg X.base j x 1 F)(h:SX X sc N L k)(Z:j+1+1<=k)(c:vZ sc "sorted" = cM)(z:X.mg "sorted" = cO)(C:vZ sc x=cM)(hq:PQ X e fq)
 (hs:fA [e] X.env=[(cR,el e X.env)]:=by rfl) :
 PO X (.Call (.Name "sorted" p) [e] [⟨cq "key",.Name x p2,C_⟩] pos) (eO F fq):=by
 intro b s σ H Q I m;obtain⟨H0,γ,out,rc,O,q⟩:=m;obtain⟨⟨kk,ds⟩,E,O⟩:=ze O;obtain⟨J,fd,pr,hn,G,W,hk,P⟩:=S.ex;cases kk with
 | T=>cases O
 | L=>
  have O:((Y3 F ds).bind λps=>if ds.length<64 then cq ((qj ps).map λi=>ds.getD i .ez)else cO)=cq out:=O;obtain⟨ps,t,O⟩:=ze O;by_cases y:ds.length<64
  ·rw[UJ y]at O
   cases O;refine Ot (kI (u:= .builtin "sorted") I (h.gl c).1 z ⋯ (callWith_kw ?_ (by rw[hs];rfl) (by rw[hs];rfl)) ⋯ ⋯);refine e9 ((jA hq qG hs) pos b s σ H (λvs d=>∃a xs U,vs=[.ref a]/\Ext H0 H U d/\gB X.K d a xs/\d9 X.K U ds xs) I ⟨H0,γ,.L,ds,rc,E,λa xs d U x1 g1 g2 Y=>⟨a,xs,U,rfl,x1,g1,Y⟩⟩) λus A m=>?_;obtain⟨vs,d,l,rv,a,xs,U,rfl,x1,g1,Y⟩:=m;obtain⟨u,rfl,ru⟩:=yh rv;cases ru;show wpAny _ _ (evalAll ((do let v <- el (.Name x p2) X.env;DM pos;pure v)::[])) _ _ A;refine wpAny_evalAll_cons (LK (gS l (h.gl C).1 W (LK (SM (LU ?_))) (h.gl C).2.2));refine wpAny_evalAll_nil ?_;obtain⟨n,r,pl,hz⟩:=l.list g1;have l1:=r.length;have l2:=Y.length;have l3:=Y2 t;show wpAny _ _ (call (.builtin "sorted") [.ref a] [(Mw "key",.ref J)]) _ _ A;refine cL (H0:=U) (ps:=ps) (xs:=xs) (ds:=ds) (vs:=n) (F:=F) G hn (h.room.mono Z) P l x1.sub pl.isList r Y ⋯ ⋯ (aL t) λs' H' g D M o f B=>?_;refine⟨.ref D,_,B,rfl,q D _ _ g (x1.trans (f.trans (Ext.hide f.sub o _))) (kF x1.s1 M) (js f.sub o) zJ ?_⟩;refine JF (Y.mono f.s0) _ λi R=>?_;have:=(jV ps).mem_iff.mp R;have:=LO.mp this;omega
  ·rw[UY y]at O;cases O
end
section
variable{X:Cx}{sc:hL}{N L:List Str}{k j n i:Nat}{a b c e:eh}{es:List eh}{f:CO D}{g:CO (List D)}{p pos:g5}{x:Str}{st _b _c:kA}{k6:List kA}{F:List D->Option Res}
open Classical in
noncomputable def C1(H:Hp)(p:dn):Hp:=λc=>if c=p then cO else H c
theorem L5{H:Hp}{p c:dn}(h:c≠p):C1 H p c=H c:=UY h
end
mutual
def Td:D->Bool
 | .tup a=>F1 a
 | .lst a=>F1 a
 | .m7 _ _=>cR
 | .ml _ _=>cR
 | _=>cM
def F1:List D->Bool
 | []=>cM
 | x::xs=>Td x && F1 xs
end
mutual
theorem Rep.less{K:LM}{H:Hp}{p:dn}{C:fy->Prop}(O:H p=cq (.ext C)) : ∀{d:D} {v:V},Td d=cM->Rep K H d v->Rep K (C1 H p) d v
 | .ez,_,_,h=>h
 | .bl _,_,_,h=>h
 | .int _,_,_,h=>h
 | .str _,_,_,h=>h
 | .tup ds,v,n,h=>by
  obtain⟨a,b,f,g,i⟩:=(show ∃a b,v = .ref a/\gu K H a b/\d9 K H ds b from h);refine(show ∃a b,v = .ref a/\gu K (C1 H p) a b/\d9 K (C1 H p) ds b from⟨a,b,f,?_,d9.less O n i⟩);have I : ∀{u:HO},(∀C,u ≠ .ext C)->H a=cq u->a≠p:=λQ q e=>by rw[e,O]at q;exact Q _ (MN q).symm
  rcases g with(hq | ⟨o',hq⟩) | hq
  ·exact .inl (.inl<|by rw[L5 (I (λ_=>by simp) hq)];exact hq)
  ·exact .inl<|.inr ⟨o',by rw[L5 (I (λ_=>by simp) hq)];exact hq⟩
  ·exact .inr hq
 | .lst ds,v,n,h=>by
  obtain⟨a,b,f,g,i⟩:=(show ∃a b,v = .ref a/\gB K H a b/\d9 K H ds b from h);refine(show ∃a b,v = .ref a/\gB K (C1 H p) a b/\d9 K (C1 H p) ds b from⟨a,b,f,?_,d9.less O n i⟩);have I : ∀{u:HO},(∀C,u ≠ .ext C)->H a=cq u->a≠p:=λQ q e=>by rw[e,O]at q;exact Q _ (MN q).symm
  rcases g with(hq | ⟨o',hq⟩) | hq
  ·exact .inl (.inl<|by rw[L5 (I (λ_=>by simp) hq)];exact hq)
  ·exact .inl<|.inr ⟨o',by rw[L5 (I (λ_=>by simp) hq)];exact hq⟩
  ·exact .inr hq
 | .m7 _ _,_,n,_=>nomatch n
 | .ml _ _,_,n,_=>nomatch n
theorem d9.less{K:LM}{H:Hp}{p:dn}{C:fy->Prop}(I:H p=cq (.ext C)) : ∀{ds:List D} {xs:List V},F1 ds=cM->d9 K H ds xs->d9 K (C1 H p) ds xs
 | [],_,_,h=>h
 | d::ds,xs,n,h=>by obtain⟨x,r,a,b,e⟩:=(show ∃x r,xs=x::r/\Rep K H d x/\d9 K H ds r from h);have n:(Td d && F1 ds)=cM:=n;rw[Mi]at n;exact(show ∃x r,xs=x::r/\Rep K (C1 H p) d x/\d9 K (C1 H p) ds r from⟨x,r,a,Rep.less I n.1 b,d9.less I n.2 e⟩)
end
noncomputable def C2(e:eh):Str:=match e with | .Name x _=>x | _=>""
noncomputable def A4(e:eh):List Str:=match e with | .Tuple a _ _=>a.map C2 | e=>[C2 e]
noncomputable def Dj(N:List Str)(fs:List Nat):List (Str×Nat):=fs.map λi=>(N.getD i "",i)
theorem J7(N:List Str)(fs:List Nat):(Dj N fs).map (·.2)=fs:=by unfold Dj;rw[MB];exact List.map_id fs
noncomputable def rz(e:eh):Bool:=match e with | .Name _ _=>cM | _=>cR
theorem cE{e:eh}(h:rz e=cM) : ∃p,e = .Name (C2 e) p:=by
 unfold rz at h;split at h
 ·exact⟨_,rfl⟩
 ·cases h
noncomputable def HB(C:hL)(N L:List Str)(is:List Nat)(es:List eh):Bool:=match is with
 | [i,j]=>(match es with | [a,b]=>rz a && (yI C N L i (C2 a) && (rz b && yI C N L j (C2 b))) | _=>cR)
 | [i,j,l]=>(match es with | [a,b,c]=>rz a && (yI C N L i (C2 a) && (rz b && (yI C N L j (C2 b) && (rz c && yI C N L l (C2 c))))) | _=>cR)
 | _=>cR
noncomputable def G6(C:hL)(N L:List Str)(e:eh)(T:Tg):Bool:=match T with
 | .nm i=>rz e && yI C N L i (C2 e)
 | .tp is=>(match e with | .Tuple a _ _=>HB C N L is a | _=>cR)
theorem su{X:Cx}{C:hL}{N L:List Str}{k:Nat}(h:SX X C N L k){e:eh}{T:Tg}(c:G6 C N L e T=cM):PG X e (ri X.K T):=by
 cases T with
 | nm i=>
  have c:=Bool.and_eq_true_iff.mp c;obtain⟨p,q⟩:=cE c.1;rw[q];exact h.Ds _ c.2
 | tp is=>
  unfold G6 at c;dsimp only at c;split at c
  ·next d j pos=>
   unfold HB at c;split at c
   ·split at c
    ·simp only[Mi]at c
     obtain⟨I,O,b1,b2⟩:=c;obtain⟨p,q⟩:=cE I;obtain⟨a,Q⟩:=cE b1;rw[q,Q];exact h.UI<|wy (h.Ds _ O)<|wy (h.Ds _ b2) gb
    ·cases c
   ·split at c
    ·simp only[Mi]at c
     obtain⟨I,O,b1,b2,U,Y⟩:=c;obtain⟨p,q⟩:=cE I;obtain⟨a,Q⟩:=cE b1;obtain⟨f,b⟩:=cE U;rw[q,Q,b];exact h.UI<|wy (h.Ds _ O)<|wy (h.Ds _ b2)<|wy (h.Ds _ Y) gb
    ·cases c
   ·cases c
  ·cases c
noncomputable def cB(I scope:hL)(N:List Str)(C:eh)(T:Tg)(n:Nat)(fs:List Nat):Bool:=
 Ws I scope N (Dj N fs) && (FP (A4 C) scope (Dj N fs) && (decide (∀i∈T.idx,i<(A4 C).length) && (decide ((A4 C).length=n) && G6 (yj scope I) (A4 C++(Dj N fs).map (·.1)) (A4 C) C T)))
abbrev B5(X:Cx)(scope:hL)(N:List Str)(tg:eh)(fs:List Nat):=jD X scope (A4 tg++(Dj N fs).map (·.1))
abbrev SA(X:Cx)(sc scope:hL)(N:List Str)(tg:eh)(fs:List Nat)(k:Nat)(fp:List dn)(s2:ed)(H2:Hp):Prop:=SX (B5 X scope N tg fs fp s2 H2) (yj scope sc) (A4 tg++(Dj N fs).map (·.1)) (A4 tg) k
section
variable{X:Cx}{sc scope:hL}{N L:List Str}{k n i:Nat}{fs:List Nat}{T:Tg}{e elt tg iter DU:eh}{es:List eh}{pos p py spos cpos:g5}{x y:Str}{f g:CO D}{fo:CO (List D)}{src gl:CO (List D)}{kk:CO Bool}
theorem cA(h:SX X sc N L k)(c:cB sc scope N tg T n fs=cM):s8 X scope (Dj N fs)/\(∀i∈T.idx,i<(A4 tg).length)/\(A4 tg).length=n/\(∀fp J C,SA X sc scope N tg fs k fp J C)/\∀fp J C,PG (B5 X scope N tg fs fp J C) tg (ri X.K T):=by unfold cB at c;simp only[Mi,decide_eq_true_eq]at c;obtain⟨I,O,Q,U,a⟩:=c;have s : ∀fp J C,SA X sc scope N tg fs k fp J C:=λfp J C=>h.comp O;exact⟨h.s_ I,Q,U,s,λfp J C=>su (s fp J C) a⟩
theorem qL(h:SX X sc N L k)(O:s9 X tg iter src)(I : ∀fp J C,SA X sc scope N tg fs k fp J C->PV (B5 X scope N tg fs fp J C) elt f)(c:cB sc scope N tg T n fs=cM:=by decide +kernel)(hs : ∀x,pk iter X.env x=pure x:=by intro _;rfl) :
 PO X (.ListComp elt [⟨tg,iter,[],0⟩] scope pos) (zK src T n fs jd f):=by
 obtain⟨a,b,d,s,q⟩:=cA h c;have r:=tR (pos:=pos) h.calm a b O q (λfp J C=>I fp J C<|s fp J C) hs;rw[d,J7]at r;exact r
theorem VZ(h:SX X sc N L k)(S:s9 X tg iter src)(I : ∀fp J C,SA X sc scope N tg fs k fp J C->m4 (B5 X scope N tg fs fp J C) DU kk)(O : ∀fp J C,SA X sc scope N tg fs k fp J C->PV (B5 X scope N tg fs fp J C) elt f)(c:cB sc scope N tg T n fs=cM:=by decide +kernel)(hs : ∀x,pk iter X.env x=pure x:=by intro _;rfl) :
 PO X (.ListComp elt [⟨tg,iter,[DU],0⟩] scope pos) (zK src T n fs kk f):=by
 obtain⟨a,b,d,s,q⟩:=cA h c;have r:=fR (pos:=pos) h.calm a b S q (λfp J C=>I fp J C<|s fp J C) (λfp J C=>O fp J C<|s fp J C) hs;rw[d,J7]at r;exact r
theorem k7(h:SX X sc N L k)(O:s9 X tg iter src)(I : ∀fp J C,SA X sc scope N tg fs k fp J C->PV (B5 X scope N tg fs fp J C) elt f)(ct:yI sc N L i y=cM:=by decide +kernel)(c:cB sc scope N tg T n fs=cM:=by decide +kernel)(hs : ∀x,pk iter X.env x=pure x:=by intro _;rfl) :
 PS X (.Assign [.Name y py] (.ListComp elt [⟨tg,iter,[],0⟩] scope cpos) spos) (bN (tO X.K<|zK src T n fs jd f)<|yW i):=by
 obtain⟨a,b,d,s,q⟩:=cA h c;have r:=I_ (cpos:=cpos) (spos:=spos) (py:=py) i h ct h.calm a b O q (λfp J C=>I fp J C<|s fp J C) hs;rw[d,J7]at r;exact r
theorem tJ(h:SX X sc N L k)(S:s9 X tg iter src)(I : ∀fp J C,SA X sc scope N tg fs k fp J C->m4 (B5 X scope N tg fs fp J C) DU kk)(O : ∀fp J C,SA X sc scope N tg fs k fp J C->PV (B5 X scope N tg fs fp J C) elt f)(ct:yI sc N L i y=cM:=by decide +kernel)(c:cB sc scope N tg T n fs=cM:=by decide +kernel)(hs : ∀x,pk iter X.env x=pure x:=by intro _;rfl) :
 PS X (.Assign [.Name y py] (.ListComp elt [⟨tg,iter,[DU],0⟩] scope cpos) spos) (bN (tO X.K<|zK src T n fs kk f)<|yW i):=by
 obtain⟨a,b,d,s,q⟩:=cA h c;have r:=Gb (cpos:=cpos) (spos:=spos) (py:=py) i h ct h.calm a b S q (λfp J C=>I fp J C<|s fp J C) (λfp J C=>O fp J C<|s fp J C) hs;rw[d,J7]at r;exact r
theorem BJ(h:SX X sc N L k)(O:s9 X tg iter src)(I : ∀fp J C,SA X sc scope N tg fs k fp J C->PO (B5 X scope N tg fs fp J C) elt fo)(ct:yI sc N L i y=cM:=by decide +kernel)(c:cB sc scope N tg T n fs=cM:=by decide +kernel)(hs : ∀x,pk iter X.env x=pure x:=by intro _;rfl) :
 md X (.Assign [.Name y py] (.ListComp elt [⟨tg,iter,[],0⟩] scope cpos) spos) (mG i<|af src T n fs fo):=by
 obtain⟨a,b,d,s,q⟩:=cA h c;have r:=mX (cpos:=cpos) (spos:=spos) (py:=py) i h ct h.calm a b O q (λfp J C=>I fp J C<|s fp J C) hs;rw[d,J7]at r;exact r
theorem zy(h:SX X sc N L k)(c:K8 sc N i x=cM:=by decide +kernel):PV X (.Name x pos) (zc i):=Bz i<|h.var c
theorem zU(h:SX X sc N L k)(c:K8 sc N i x=cM:=by decide +kernel):PQ X (.Name x pos) (zh i):=BM i<|h.var c
theorem ID(h:SX X sc N L k)(c:G6 sc N L e T=cM:=by decide +kernel):PG X e (ri X.K T):=su h c
theorem jK(h:SX X sc N L k)(I:PV X e f)(c:yI sc N L i x=cM:=by decide +kernel)(hs:C5 e (cq (.Name x py)) pos.line X.env=pure cR:=by rfl):md X (.Assign [.Name x py] e pos) (jB i f):=tG i<|h.set i c I hs
theorem Zx(h:SX X sc N L k)(I:PO X e fo)(c:yI sc N L i x=cM:=by decide +kernel)(hs:C5 e (cq (.Name x py)) pos.line X.env=pure cR:=by rfl):md X (.Assign [.Name x py] e pos) (vN i fo):=au i<|h.set i c I hs
theorem yH{C:List kA}{F:CO Fl}(hx:X.xe=λ_ _=>False)(h:SX X sc N L k)(J:i0 X tg iter src)(I:lH X C F)(c:G6 sc N L tg T=cM:=by decide +kernel)(hs : ∀x,pk iter X.env x=pure x:=by intro _;rfl):md X (.For tg iter C [] pos) (ZI src T F):=tI (gj hx) h.calm J (su h c) I hs
variable{j:Nat}{F:List D->Option Res}
theorem zY(I:gR X.prog X.w X.K X.mg X.base j x n F)(h:SX X sc N L k)(C:Df X (e::es) n gl)(O:j<=k:=by decide)(c:vZ sc x=cM:=by decide +kernel)
 (Q:fA (e::es) X.env=(cR,el e X.env)::fA es X.env:=by rfl) (U:(r6 pos<|starEach es X.env).any (·.1)=cR:=by rfl):PV X (.Call (.Name x p) (e::es) [] pos) (zA F gl):=Ga I O h c C Q U
theorem xX(I:gR X.prog X.w X.K X.mg X.base j x n F)(h:SX X sc N L k)(C:Df X (e::es) n gl)(O:j<=k:=by decide)(c:vZ sc x=cM:=by decide +kernel)
 (Q:fA (e::es) X.env=(cR,el e X.env)::fA es X.env:=by rfl) (U:(r6 pos<|starEach es X.env).any (·.1)=cR:=by rfl):PO X (.Call (.Name x p) (e::es) [] pos) (jH F gl):=Gd I O h c C Q U
end
noncomputable def XX:=jo 1 (zM (h7 (yK (jX (sB (ro .str (zc 0)))) (sB (zB Ui (VP (zc 0)) (zu (.int 6))))) (j7 (zu (.bl cR))) j1) (j7 (Aw (jt (zK (Bi (zc 0)) (.nm 0) 1 [] jd (IR (zc 0) (zR (zu (.tup [.str "r",.str "l"])))))))))
noncomputable def ZF:=jo 2<|zM (h7 (yK (jX<|sB<|zA WJ<|zb (zc 1)<|zb (zu<|.int 2) zD)<|yK (jX<|sB<|zA Vz<|zb (zc 0)<|zb (di (zh 1)<|zu<|.int 0) zD)<|jX<|sB<|zA Vz<|zb (zc 0)<|zb (di (zh 1)<|zu<|.int 1) zD) (j7<|zu<|.bl cR) j1)<|j7<|zB ni (di (zh 1)<|zu<|.int 0)<|di (zh 1)<|zu<|.int 1
noncomputable def QS:=jo 2<|vz<|zK (ae<|zc 0) (.tp [0,1]) 2 [1] (sB<|kZ ni ni (di (zh 1)<|zu<|.int 0) (zc 2)<|di (zh 1)<|zu<|.int 1) (zc 0)
noncomputable def jj:=jo 5<|zM (h7 (ZJ (sB<|zB qq (yJ<|zh 0)<|zu<|.int 1)<|sB<|zB f9 (zB xV (di (zh 0)<|zu<|.int 0)<|zu<|.int 2)<|zu<|.int 1) (zM (jB 2<|di (zh 0)<|zB qD (zu<|.int 1)<|zB xV (zc 1)<|zB vB (yJ<|zh 0)<|zu<|.int 1)<|zM (ZI (ju<|bV (zu<|.int 60)<|zB XQ (zc 1)<|zB vB (yJ<|zh 0)<|zu<|.int 1) (.nm 3)<|jB 2<|zB XQ (zc 2)<|zB uZ (zu<|.int 10)<|zu<|.int 9)<|j7<|zB xV (zc 2)<|zB uZ (zu<|.int 10)<|zu<|.int 9) j1)<|zM (jB 4<|zc 1)<|zM (h7 (sB<|zB qq (yJ<|zh 0)<|zu<|.int 0) (jB 4<|di (zh 0)<|zB xV (zc 1)<|yJ<|zh 0) j1)<|j7<|zB xV (zB kX (zB xV (zB qD (zB qD (zB qD (zB kX (zB xV (zc 4)<|zB uZ (zu<|.int 10)<|zu<|.int 30)<|zu<|.int 48271)<|zB kX (zB kX (zu<|.int 7)<|zc 1)<|zc 1)<|zB kX (zu<|.int 13)<|zc 1)<|zu<|.int 5)<|zu<|.int 2147483647)<|zu<|.int 69621)<|zu<|.int 1000000007
noncomputable def xO:=jo 3 (j7 (eW (zu (.str "")) (jt (zK (ju (zB vB (zc 2) (zu (.int 1)))) (.nm 0) 1 [0,1] jd (xo (zu (.str "rl")) (zB xV (zB XQ (zA jj (zb (zc 1) (zb (zB qD (zc 2) (zc 0)) zD))) (zu (.int 8))) (zu (.int 2))))))))
noncomputable def qU:=jo 8<|zM (vN 4<|kY zD)<|zM (ZI (ju<|zc 3) (.nm 5)<|zM (jB 6<|zA jj<|zb (zc 0)<|zb (zB qD (zc 1)<|zc 5) zD)<|zM (jB 7<|zB xV (zc 6)<|zc 2)<|xW 4<|xk<|zb (zc 7)<|zb (zB qD (zc 7)<|zB xV (zB XQ (zc 6)<|zu<|.int 16)<|zB vB (zc 2)<|zc 7) zD)<|vz<|JA<|zh 4
noncomputable def jr:=jo 2<|vz<|zK (ae<|zc 0) (.tp [0,1]) 2 [1] (sB<|kZ ni ni (di (zh 1)<|zu<|.int 0) (zc 2)<|di (zh 1)<|zu<|.int 1) (zc 0)
noncomputable def cH:=(zM (jB 7 (zB qD (zc 5) (ka (zB f9 (zc 6) (zu (.str "l")))))) (zM (jB 8 (zB qD (zc 5) (ka (zB f9 (zc 6) (zu (.str "r")))))) (zM (jB 9 (qf (zK (zN (jt (jH jr (zb (zc 2) (zb (zc 8) zD))))) (.nm 0) 1 [2,7] jd (zV (jt (zK (zN (jt (jH jr (zb (zc 1) (zb (zc 2) zD))))) (.nm 0) 1 [0] jd (ka (zB f9 (zc 1) (zc 0))))))))) (xW 4 (xk (zb (zc 6) (zb (xk (zb (di (zh 3) (zc 8)) (zb (di (zh 3) (zc 7)) (zb (zV (zh 9)) zD)))) zD)))))))
noncomputable def qc:=jo 10<|zM (jB 3<|qf<|zK (ju<|zB qD (VP<|zc 1)<|zu<|.int 1) (.nm 0) 1 [2] jd (yJ<|jt<|jH jr<|zb (zc 1)<|zb (zc 0) zD))<|zM (vN 4<|kY zD)<|zM (ZI (JD<|zc 1) (.tp [5,6]) cH)<|j7<|xk<|zb (zc 0)<|zb (zV<|zh 3)<|zb (zV<|zh 4) zD
noncomputable def xR:=jo 3 (zM (h7 (sB (zB f9 (di (zh 1) (zu (.int 0))) (di (zh 2) (zu (.int 0))))) (j7 (zu (.bl cM))) j1) (j7 (zB f9 (xo (zc 0) (zB vB (eT (di (zh 1) (zu (.int 0))) (di (zh 2) (zu (.int 0)))) (zu (.int 1)))) (ab (sB (zB pe (di (zh 1) (zu (.int 0))) (di (zh 2) (zu (.int 0))))) (zu (.str "l")) (zu (.str "r"))))))
noncomputable def xw:=jo 3 (zM (h7 (sB (zB f9 (di (zh 1) (zu (.int 1))) (di (zh 2) (zu (.int 1))))) (j7 (zu (.bl cM))) j1) (j7 (zB f9 (xo (zc 0) (bV (di (zh 1) (zu (.int 1))) (di (zh 2) (zu (.int 1))))) (ab (sB (zB qq (di (zh 1) (zu (.int 1))) (di (zh 2) (zu (.int 1))))) (zu (.str "r")) (zu (.str "l"))))))
noncomputable def kx:=jo 3<|zM (h7 (sB<|zB qq (eT (di (zh 1)<|zu<|.int 0)<|di (zh 2)<|zu<|.int 0)<|bV (di (zh 1)<|zu<|.int 1)<|di (zh 2)<|zu<|.int 1) (j7<|zu<|.int 0) j1)<|j7<|ab (ZJ (sB<|zA xR<|zb (zc 0)<|zb (zc 1)<|zb (zc 2) zD)<|sB<|zA xw<|zb (zc 0)<|zb (zc 1)<|zb (zc 2) zD) (zu<|.int 1)<|zu<|.int 0
noncomputable def yD:=jo 3<|zM (jB 2<|zA xu<|zb (zc 0) zD)<|vz<|zK (JD<|zc 2) (.tp [0,1]) 2 [0,1] jd (xk<|zb (di (zR<|di (zh 3)<|zu<|.int 1)<|zA vx<|zb (zc 0)<|zb (zc 1) zD)<|zb (di (zR<|di (zh 2)<|zu<|.int 1)<|zA qw<|zb (zc 0)<|zb (zc 1) zD) zD)
noncomputable def Cv:=(jB 3<|qf<|zK (ju<|di (zh 2)<|zu<|.int 1) (.nm 0) 1 [2] jd (qf<|zK (zN<|zR<|di (zh 1)<|zu<|.int 2) (.nm 0) 1 [0] jd (di (zh 0)<|zc 1)))
noncomputable def Gu:=(vN 4<|kY zD)
noncomputable def Gs:=(ZI (zN<|zR<|di (zh 1)<|zu<|.int 2) (.nm 5)<|xW 4<|zV<|jt<|zK (zN<|zh 3) (.nm 0) 1 [0,5] jd (zB xV (bU<|jt<|zK (aa (zc 2)<|zc 0) (.tp [0,1]) 2 [] jd (zB kX (zc 0)<|zc 1))<|zc 1))
noncomputable def EZ:=(j7<|xk<|zb (di (zh 1)<|zu<|.int 0)<|zb (di (zh 2)<|zu<|.int 1)<|zb (zV<|zh 4) zD)
noncomputable def jw:=jo 6<|zM Cv<|zM Gu<|zM Gs EZ
noncomputable def km:=jo 1<|j7<|xk<|zb (zc 0)<|zb (zc 0)<|zb (zV<|jt<|zK (ju<|zc 0) (.nm 0) 1 [0] jd (zV<|jt<|zK (ju<|zc 1) (.nm 0) 1 [0] jd (ka<|zB f9 (zc 1)<|zc 0))) zD
noncomputable def G7:=(vN 4<|zK (ju<|zc 3) (.nm 0) 1 [3] jd (qf<|zK (ju<|zc 1) (.nm 0) 1 [0] jd (ka<|zB f9 (zc 1)<|zc 0)))
noncomputable def N5:=(mG 5<|af (ju<|zc 3) (.nm 0) 1 [3] (zK (ju<|zc 1) (.nm 0) 1 [0] jd (ka<|zB f9 (zc 1)<|zc 0)))
noncomputable def TN:=(ZI (ju<|zB kX (zu<|.int 3)<|zc 3) (.nm 6)<|zM (jB 7<|zA jj<|zb (zc 0)<|zb (zB qD (zc 1)<|zc 6) zD)<|zM (jB 8<|zB xV (zc 7)<|zc 3)<|zM (jB 9<|zB xV (zB XQ (zc 7)<|zc 3)<|zc 3)<|zM (jB 10<|zB qD (zu<|.int 1)<|zB xV (zB XQ (zc 7)<|zu<|.int 97)<|zB vB (zc 2)<|zu<|.int 1)<|h7 (sB<|zB f9 (zc 8)<|zc 9) (zM (JB 4 (zc 8)<|qf<|zK (zN<|zR<|di (zh 4)<|zc 8) (.nm 0) 1 [2,10] jd (zB xV (zB kX (zc 2)<|zc 0)<|zc 1))<|zM (jB 11<|di (jt<|zK (ju<|zc 2) (.nm 0) 1 [2,10] (sB<|zB f9 (zB xV (zB kX (zc 0)<|zc 2)<|zc 1)<|zu<|.int 1) (zc 0))<|zu<|.int 0)<|JC 5 12 (zc 8)<|zB xV (zB kX (di (zh 12)<|zc 8)<|zc 11)<|zc 2)<|zM (JB 4 (zc 9)<|qf<|zK (aa (di (zh 4)<|zc 9)<|di (zh 4)<|zc 8) (.tp [0,1]) 2 [2,10] jd (zB xV (zB qD (zc 0)<|zB kX (zc 3)<|zc 1)<|zc 2))<|JC 5 12 (zc 8)<|zB xV (zB vB (di (zh 12)<|zc 8)<|zB kX (zc 10)<|di (zh 12)<|zc 9)<|zc 2)
noncomputable def TQ:=(vN 13<|kY zD)
noncomputable def N6:=(Bk 5<|HF 4<|ZI (zN<|zR<|qf<|kY<|zb (zc 4)<|zb (zc 5) zD) (.nm 14)<|xW 13<|xk<|zb (zc 3)<|zb (zc 3)<|zb (zV<|jt<|zK (zN<|zh 14) (.nm 0) 1 [] jd (zV<|zh 0)) zD)
noncomputable def UL:=(VN 13)
noncomputable def xx:=jo 15<|zM G7<|zM N5<|zM TN<|zM TQ<|zM N6 UL
noncomputable def Gr:=(eQ (.tp [3,4,5])<|zc 0)
noncomputable def Gq:=(vN 6<|kY zD)
noncomputable def Gp:=(ZI (Yt (zc 5)) (.tp [7,8]) (zM (jB 9 (zB qD (zc 7) (ka (zB f9 (di (zh 8) (zu (.int 0))) (zu (.str "l")))))) (zM (jB 10 (zB qD (zc 7) (ka (zB f9 (di (zh 8) (zu (.int 0))) (zu (.str "r")))))) (xW 6 (xk (zb (di (zh 8) (zu (.int 0))) (zb (zA jw (zb (zc 3) (zb (zA jw (zb (zc 3) (zb (di (zh 1) (zc 10)) (zb (di (zh 8) (zu (.int 1))) zD)))) (zb (di (zh 2) (zc 9)) zD)))) zD)))))))
noncomputable def EX:=(j7<|xk<|zb (zc 3)<|zb (zc 4)<|zb (zV<|zh 6) zD)
noncomputable def qp:=jo 11<|zM Gr<|zM Gq<|zM Gp EX
noncomputable def Gw:=(h7 (yK (jX<|sB<|ro .tuple<|zc 1)<|yK (sB<|zB gv (yJ<|zh 1)<|zu<|.int 3)<|yK (jX<|sB<|zA jG<|zb (di (zh 1)<|zu<|.int 0) zD)<|jX<|sB<|zA jG<|zb (di (zh 1)<|zu<|.int 1) zD) (j7<|zu<|.bl cR) j1)
noncomputable def AA:=(h7 (yK (sB<|zB gv (eP (zc 1) dr<|u0<|zu<|.int 2)<|xk<|zb (zc 2)<|zb (zc 3) zD)<|yK (jX<|sB<|ro .tuple<|di (zh 1)<|zu<|.int 2)<|sB<|zB gv (yJ<|zR<|di (zh 1)<|zu<|.int 2)<|zc 2) (j7<|zu<|.bl cR) j1)
noncomputable def Gv:=(ZI (zN<|zR<|di (zh 1)<|zu<|.int 2) (.nm 4)<|zM (h7 (yK (jX<|sB<|ro .tuple<|zc 4)<|sB<|zB gv (yJ<|zh 4)<|zc 3) (j7<|zu<|.bl cR) j1)<|h7 (jX<|sB<|Aw<|jt<|zK (zN<|zh 4) (.nm 0) 1 [0] jd (lS (zA jG<|zb (zc 0) zD)<|kZ ni pe (zu<|.int 0) (zc 0)<|zc 1)) (j7<|zu<|.bl cR) j1)
noncomputable def HS:=(j7<|zu<|.bl cM)
noncomputable def jv:=jo 5<|zM Gw<|zM AA<|zM Gv HS
noncomputable def Tj:=(eQ (.tp [2,3,4])<|zc 0)
noncomputable def Tn:=(h7 (yK (jX<|sB<|ro .tuple<|zc 1)<|yK (sB<|zB gv (yJ<|zh 1)<|zu<|.int 3)<|jX<|sB<|Aw<|jt<|zK (zN<|zh 1) (.nm 0) 1 [] jd (ro .list<|zc 0)) (j7<|zu<|.bl cR) j1)
noncomputable def To:=(eQ (.tp [5,6,7])<|zc 1)
noncomputable def F6:=(ZI (zN<|zR<|zc 5) (.nm 8)<|zM (h7 (yK (jX<|sB<|ro .tuple<|zc 8)<|yK (sB<|zB gv (yJ<|zh 8)<|zu<|.int 2)<|yK (jX<|sB<|zA jG<|zb (di (zh 8)<|zu<|.int 0) zD)<|jX<|sB<|zA jG<|zb (di (zh 8)<|zu<|.int 1) zD) (j7<|zu<|.bl cR) j1)<|h7 (jX<|sB<|Kc ni ni pe (zu<|.int 0) (di (zh 8)<|zu<|.int 0) (di (zh 8)<|zu<|.int 1)<|yJ<|zh 3) (j7<|zu<|.bl cR) j1)
noncomputable def M5:=(h7 (yK (sB<|zB gv (zc 5)<|qf<|JA<|zh 5)<|yK (sB<|zB gv (yJ<|zh 6)<|yJ<|zh 3)<|sB<|zB gv (yJ<|zh 7)<|yJ<|zh 3) (j7<|zu<|.bl cR) j1)
noncomputable def F7:=(ZI (FR (zc 3) (zc 6)<|zc 7) (.tp [9,10,11])<|zM (h7 (yK (jX<|sB<|zA jv<|zb (zc 2)<|zb (zc 10)<|zb (zc 9)<|zb (zc 9) zD)<|jX<|sB<|zA jv<|zb (zc 2)<|zb (zc 11)<|zb (zc 9)<|zb (zc 9) zD) (j7<|zu<|.bl cR) j1)<|h7 (sB<|zB gv (zA jw<|zb (zc 2)<|zb (zc 10)<|zb (zc 11) zD)<|zA km<|zb (zc 9) zD) (j7<|zu<|.bl cR) j1)
noncomputable def M6:=(j7 (zB f9 (zA qp (zb (zc 0) (zb (zc 6) (zb (zc 7) zD)))) (zA qc (zb (zc 2) (zb (eW (zu (.str "")) (jt (zK (zN (zh 4)) (.nm 0) 1 [] jd (di (zh 0) (zu (.int 0)))))) (zb (zc 5) zD))))))
noncomputable def xJ:=jo 12<|zM Tj<|zM Tn<|zM To<|zM F6<|zM M5<|zM F7 M6
noncomputable def vc:=jo 2<|vz<|eU (di (zh 1)<|zu<|.int 1)<|di (zh 0)<|zu<|.int 1
noncomputable def kR:=jo 1<|j7<|bU<|jt<|zK (zN<|zh 0) (.tp [0,1]) 2 [] jd (zB kX (zc 0)<|zc 1)
noncomputable def qb:=jo 1<|j7<|xk<|zb (di (zh 0)<|zu<|.int 0)<|zb (zB vB (zB qD (di (zh 0)<|zu<|.int 0)<|yJ<|zR<|di (zh 0)<|zu<|.int 1)<|zu<|.int 1) zD
noncomputable def j8:=jo 2<|j7<|kZ ni pe (di (zh 0)<|zu<|.int 0) (zc 1)<|zB qD (di (zh 0)<|zu<|.int 0)<|yJ<|zR<|di (zh 0)<|zu<|.int 1
noncomputable def xh:=jo 2<|vz<|zK (zN<|zh 0) (.nm 0) 1 [1] (sB<|zA j8<|zb (zc 0)<|zb (zc 1) zD) (di (zR<|di (zh 0)<|zu<|.int 1)<|zB vB (zc 1)<|di (zh 0)<|zu<|.int 0)
noncomputable def kM:=jo 2<|j7<|zA qa<|zb (xk<|zb (yJ<|zh 1)<|zb (zc 0)<|zb (zV<|zh 1) zD) zD
noncomputable def kT:=jo 5<|zM (jB 4<|qf<|zK (aa (zc 2)<|zc 1) (.tp [0,1]) 2 [3] (sB<|zA j8<|zb (zc 1)<|zb (zc 2) zD) (zc 0))<|j7<|zA lO<|zb (di (zh 0)<|zu<|.int 0)<|zb (zA kM<|zb (di (zR<|di (zh 0)<|zu<|.int 1)<|zc 3)<|zb (qf<|jH xh<|zb (zc 1)<|zb (zc 3) zD) zD)<|zb (zc 4) zD
noncomputable def KY:=jo 5<|zM (jB 3<|di (zh 1)<|zA qT<|zb (zc 2) zD)<|zM (jB 4<|qf<|zK (ju<|yJ<|zR<|di (zh 3)<|zu<|.int 1) (.nm 0) 1 [0,1,2,3] jd (zA kT<|zb (zc 1)<|zb (zc 2)<|zb (zc 3)<|zb (zB qD (di (zh 4)<|zu<|.int 0)<|zc 0) zD))<|j7<|xk<|zb (di (zh 3)<|zu<|.int 0)<|zb (zV<|zh 4) zD
noncomputable def Tt:=(jB 3<|di (zR<|di (zR<|di (zh 0)<|zu<|.int 2)<|zc 1)<|zu<|.int 0)
noncomputable def Tu:=(jB 4<|di (zR<|di (zR<|di (zh 0)<|zu<|.int 2)<|zc 1)<|zu<|.int 1)
noncomputable def M7:=(jB 5 (ab (sB (zB f9 (zc 3) (zu (.str "r")))) (qf (jH vw (zb (di (zh 0) (zu (.int 0))) (zb (zc 4) zD)))) (qf (jH Zu (zb (di (zh 0) (zu (.int 0))) (zb (zc 4) zD))))))
noncomputable def Tv:=(jB 6<|qf<|jH ku<|zb (di (zh 0)<|zu<|.int 0)<|zb (zA kM<|zb (di (zR<|di (zh 0)<|zu<|.int 1)<|zc 1)<|zb (qf<|jH xh<|zb (zc 2)<|zb (zc 1) zD) zD)<|zb (zc 5) zD)
noncomputable def Tw:=(jB 7<|pL<|zK (zN<|zh 6) (.nm 0) 1 [] jd (xk<|zb (zA qT<|zb (zc 0) zD)<|zb (zc 0) zD))
noncomputable def Tx:=(vz<|zK (ae<|zc 2) (.tp [0,1]) 2 [0,2,7] jd (ab (sB<|Bl (zc 0)<|zc 4) (zA KY<|zb (zc 2)<|zb (zc 3)<|zb (EM (zc 4)<|zc 0) zD)<|zc 1))
noncomputable def wZ:=jo 8<|zM Tt<|zM Tu<|zM M7<|zM Tv<|zM Tw Tx
noncomputable def D2:=(h7 (sB (zB f9 (di (zh 1) (zu (.int 0))) (zu (.str "l")))) (j7 (zA vt (zb (zc 0) (zb (di (zh 1) (zu (.int 1))) (zb (zc 2) zD))))) j1)
noncomputable def L9:=(jB 3<|zA lO<|zb (zc 0)<|zb (di (zh 1)<|zu<|.int 1)<|zb (zc 2) zD)
noncomputable def M0:=(j7<|ab (sB<|Av<|zh 3) (zc 3)<|zu .ez)
noncomputable def xI:=jo 4<|zM D2<|zM L9 M0
noncomputable def TM:=(jB 3<|zA xI<|zb (zc 0)<|zb (zc 1)<|zb (di (zR<|di (zh 2)<|zu<|.int 1)<|EK<|zu<|.int 1) zD)
noncomputable def N4:=(j7<|ab (sB<|zB Ef (zc 3)<|zu .ez) (zc 2)<|xk<|zb (di (zh 2)<|zu<|.int 0)<|zb (zB qD (di (zh 2)<|zu<|.int 1)<|xk<|zb (zc 3) zD) zD)
noncomputable def yf:=jo 4<|zM TM N4
noncomputable def F4:=(h7 (sB (zB f9 (di (zh 1) (zu (.int 0))) (zu (.str "l")))) (vz (jH vw (zb (zc 0) (zb (di (zh 1) (zu (.int 1))) zD)))) j1)
noncomputable def Te:=(jB 2<|qf<|zK (zN<|jt<|jH Zu<|zb (zc 0)<|zb (di (zh 1)<|zu<|.int 1) zD) (.nm 0) 1 [] jd (zA qT<|zb (zc 0) zD))
noncomputable def Tf:=(vz<|zK (Yt<|di (zR<|zA qH<|zb (di (zR<|di (zh 1)<|zu<|.int 1)<|zu<|.int 0) zD)<|zu<|.int 2) (.tp [0,1]) 2 [2] (sB<|Kb (zc 0)<|zh 2) (zc 1))
noncomputable def yB:=jo 3<|zM F4<|zM Te Tf
noncomputable def R8:=(jB 3<|di (zh 0)<|zu<|.int 0)
noncomputable def R9:=(jB 4<|di (zR<|di (zh 0)<|zu<|.int 2)<|zc 1)
noncomputable def Se:=(jB 5<|qf<|zK (zN<|zh 2) (.nm 0) 1 [1] (jX<|sB<|zA j8<|zb (zc 0)<|zb (zc 1) zD) (zc 0))
noncomputable def S0:=(jB 6<|qf<|jH wZ<|zb (zc 0)<|zb (zc 1)<|zb (qf<|zK (zN<|zh 2) (.nm 0) 1 [1] (sB<|zA j8<|zb (zc 0)<|zb (zc 1) zD) (zc 0)) zD)
noncomputable def S1:=(jB 7<|qf<|zK (zN<|zh 6) (.nm 0) 1 [3,4] jd (zA yf<|zb (zc 1)<|zb (zc 2)<|zb (zc 0) zD))
noncomputable def S2:=(jB 8<|qf<|zK (zN<|jt<|jH yB<|zb (zc 3)<|zb (zc 4) zD) (.nm 0) 1 [1] jd (xk<|zb (zB qD (zc 1)<|zu<|.int 1)<|zb (xk<|zb (zc 0) zD) zD))
noncomputable def L3:=(j7 (qf (VQ (zh 5) (zR (ab (sB (zB f9 (di (zh 4) (zu (.int 0))) (zu (.str "r")))) (qf (VQ (zh 8) (zh 7))) (qf (VQ (zh 7) (zh 8))))))))
noncomputable def QQ:=jo 9<|zM R8<|zM R9<|zM Se<|zM S0<|zM S1<|zM S2 L3
noncomputable def I8:=(jB 1<|qf<|zK (zN<|zR<|di (zR<|zA qH<|zb (di (zR<|di (zh 0)<|zu<|.int 1)<|zu<|.int 0) zD)<|zu<|.int 2) (.nm 0) 1 [] jd (xk<|zb (zu<|.int 0)<|zb (xk<|zb (zc 0) zD) zD))
noncomputable def P0:=(ZI (ju<|yJ<|zR<|di (zh 0)<|zu<|.int 2) (.nm 2)<|jB 1<|zA QQ<|zb (zc 0)<|zb (zc 2)<|zb (zc 1) zD)
noncomputable def P1:=(vz<|eO qb<|zh 1)
noncomputable def yE:=jo 3<|zM I8<|zM P0 P1
noncomputable def P4:=(jB 1<|qf<|jH yE<|zb (zc 0) zD)
noncomputable def P5:=(jB 2<|qf<|zK (Yt<|di (zh 0)<|zu<|.int 1) (.tp [0,1]) 2 [1] jd (zA kM<|zb (zc 1)<|zb (qf<|jH xh<|zb (zc 2)<|zb (zc 0) zD) zD))
noncomputable def P6:=(jB 3<|qf<|zK (zN<|zh 2) (.nm 0) 1 [0] jd (zA kN<|zb (di (zh 1)<|zu<|.int 0)<|zb (zc 0) zD))
noncomputable def P7:=(j7<|xk<|zb (qf<|zK (zN<|zh 1) (.nm 0) 1 [] jd (zA qb<|zb (zc 0) zD))<|zb (zc 3)<|zb (zc 2) zD)
noncomputable def jZ:=jo 4<|zM P4<|zM P5<|zM P6 P7
noncomputable def CT:CO D:=qf<|jH xx<|zb (zc 2)<|zb (zB qD (zc 3)<|zB kX (zu<|.int 20)<|zc 0)<|zb (di (zh 4)<|zu<|.int 0)<|zb (zc 1) zD
noncomputable def aR:=jB 3<|qf<|zK (Yt<|di (zh 2)<|zu<|.int 1) (.tp [0,1]) 2 [0,1,2] jd CT
noncomputable def ie:=j7<|zA qp<|zb (zc 2)<|zb (qf<|zK (zN<|zh 3) (.nm 0) 1 [] jd (di (zh 0)<|zu<|.int 0))<|zb (qf<|zK (zN<|zh 3) (.nm 0) 1 [] jd (di (zh 0)<|zu<|.int 1)) zD
noncomputable def xS:=jo 4<|zM aR ie
noncomputable def kK:=jo 3<|j7<|bU<|jt<|zK (zN<|zh 1) (.nm 0) 1 [0,2] jd (zA kx<|zb (zc 1)<|zb (zc 0)<|zb (zc 2) zD)
noncomputable def qe:=jo 3<|zM (sT<|zA qx<|zb (zc 0)<|zb (zc 1) zD)<|zM (jB 2<|di (zR<|zA jZ<|zb (zc 0) zD)<|zu<|.int 0)<|j7<|bU<|jt<|zK (zN<|zR<|di (zR<|zA jZ<|zb (zc 1) zD)<|zu<|.int 0) (.nm 0) 1 [0,2] jd (zA kK<|zb (zA xu<|zb (zc 1) zD)<|zb (zc 2)<|zb (zc 0) zD)
noncomputable def kL:=jo 2<|zM (sT<|zA qx<|zb (zc 0)<|zb (zc 1) zD)<|j7<|zB vB (zA kR<|zb (qf<|jH vc<|zb (zc 0)<|zb (zc 1) zD) zD)<|zA kR<|zb (qf<|jH yD<|zb (zc 0)<|zb (zc 1) zD) zD
noncomputable def xi:=jo 2<|j7<|zB vB (zA qe<|zb (zc 0)<|zb (zc 1) zD)<|zA kL<|zb (zc 0)<|zb (zc 1) zD
noncomputable def qI:=jo 5 (zM (jB 3 (eT (di (zh 1) (zu (.int 0))) (di (zh 2) (zu (.int 0))))) (zM (jB 4 (bV (di (zh 1) (zu (.int 1))) (di (zh 2) (zu (.int 1))))) (zM (h7 (sB (zB qq (zc 3) (zc 4))) (j7 (zu (.int 0))) j1) (zM (h7 (yK (ZJ (sB (zB pe (di (zh 1) (zu (.int 0))) (zc 3))) (sB (zB gv (xo (zc 0) (zB vB (zc 3) (zu (.int 1)))) (zu (.str "l"))))) (ZJ (sB (zB pe (di (zh 2) (zu (.int 0))) (zc 3))) (sB (zB gv (xo (zc 0) (zB vB (zc 3) (zu (.int 1)))) (zu (.str "r")))))) (j7 (zu (.int 0))) j1) (zM (h7 (yK (ZJ (sB (zB qq (di (zh 1) (zu (.int 1))) (zc 4))) (sB (zB gv (xo (zc 0) (zc 4)) (zu (.str "r"))))) (ZJ (sB (zB qq (di (zh 2) (zu (.int 1))) (zc 4))) (sB (zB gv (xo (zc 0) (zc 4)) (zu (.str "l")))))) (j7 (zu (.int 0))) j1) (j7 (zu (.int 1))))))))
noncomputable def si:=jB 1<|zA jj<|zb (zc 0)<|zb (zu<|.int 0) zD
noncomputable def sg:=jB 2<|di (jt<|kY<|zb (zu<|.int 2)<|zb (zu<|.int 3)<|zb (zu<|.int 5)<|zb (zu<|.int 7) zD)<|zB xV (zc 1)<|zu<|.int 4
noncomputable def sf:=jB 3<|zB qD (zu<|.int 1)<|zB xV (zB XQ (zc 1)<|zu<|.int 4)<|zu<|.int 4
noncomputable def se:=jB 4<|zA xO<|zb (zc 0)<|zb (zu<|.int 1)<|zb (zc 3) zD
noncomputable def sd:=jB 5<|qf<|jH qU<|zb (zc 0)<|zb (zu<|.int 10)<|zb (zc 3)<|zb (zB xV (zB XQ (zc 1)<|zu<|.int 20)<|zu<|.int 5) zD
noncomputable def sa:=jB 6<|qf<|jH qU<|zb (zc 0)<|zb (zu<|.int 130)<|zb (zc 3)<|zb (zB xV (zB XQ (zc 1)<|zu<|.int 120)<|zu<|.int 5) zD
noncomputable def rZ:=jB 7<|zA xS<|zb (zc 0)<|zb (zu<|.int 20)<|zb (zA qc<|zb (zc 2)<|zb (zc 4)<|zb (zc 5) zD) zD
noncomputable def rY:=jB 8<|zA xS<|zb (zc 0)<|zb (zu<|.int 140)<|zb (zA qc<|zb (zc 2)<|zb (zc 4)<|zb (zc 6) zD) zD
noncomputable def rX:=jB 9<|zu<|.int 0
noncomputable def WT:=ZI (zN<|zR<|zc 5) (.nm 10)<|jB 9<|zB qD (zc 9)<|bU<|jt<|zK (zN<|zh 6) (.nm 0) 1 [4,10] jd (zA qI<|zb (zc 1)<|zb (zc 2)<|zb (zc 0) zD)
noncomputable def dG:=h7 (yK (sB<|zB gv (zA qe<|zb (zc 7)<|zb (zc 8) zD)<|zc 9)<|sB<|zB gv (zA qe<|zb (zA xf<|zb (zc 8) zD)<|zb (zA xf<|zb (zc 7) zD) zD)<|zc 9) (j7<|zu<|.bl cR) j1
noncomputable def dF:=h7 (sB<|zB gv (zA qe<|zb (zA qM<|zb (zc 7) zD)<|zb (zA qM<|zb (zc 8) zD) zD)<|zc 9) (j7<|zu<|.bl cR) j1
noncomputable def dE:=jB 11<|zA xi<|zb (zc 7)<|zb (zc 8) zD
noncomputable def dD:=h7 (yK (sB<|zB gv (zA xi<|zb (zA xf<|zb (zc 8) zD)<|zb (zA xf<|zb (zc 7) zD) zD)<|zc 11)<|sB<|zB gv (zA xi<|zb (zA qM<|zb (zc 7) zD)<|zb (zA qM<|zb (zc 8) zD) zD)<|zc 11) (j7<|zu<|.bl cR) j1
noncomputable def dC:=jB 12<|zB vB (zc 3)<|zu<|.int 1
noncomputable def WS:=h7 (sB<|zB gv (di (zR<|zA jZ<|zb (zA qM<|zb (zc 7) zD) zD)<|zu<|.int 0)<|qf<|JA<|jt<|zK (zN<|zh 5) (.tp [0,1]) 2 [12] jd (xk<|zb (zB vB (zc 2)<|zc 1)<|zb (zB vB (zc 2)<|zc 0) zD)) (j7<|zu<|.bl cR) j1
noncomputable def dB:=j7<|zB f9 (di (zR<|zA jZ<|zb (zA xf<|zb (zc 7) zD) zD)<|zu<|.int 0)<|zc 5
noncomputable def QP:=jo 13<|zM si<|zM sg<|zM sf<|zM se<|zM sd<|zM sa<|zM rZ<|zM rY<|zM rX<|zM WT<|zM dG<|zM dF<|zM dE<|zM dD<|zM dC<|zM WS dB
abbrev r9(k:Sk)(xs:List D):D:=match k with | .T=>D.tup xs | .L=>D.lst xs
@[simp] theorem Ia(k xs):jR (r9 k xs)=cq (k,xs):=by cases k<;>rfl
theorem XU(k:Sk)(f:Nat->Int)(I:0<p)(O:n<=lim) :
 xY [.int p,r9 k (zH n f)]=cq (.val<|.tup<|zH n λi=>f i%p):=by
 simp[xY,jo,zZ,z5,O,kg];unfold zH;rw[zw (r:=λi=>D.int<|f i%p)]
 ·simp
 ·intro i a
  refine zx rfl rfl ?_;simp[I]
theorem lL(f:Nat->Int)(I:0<p)(O:n<=lim) :
 xY [.int p,.tup (zH n f)]=cq (.val<|.tup<|zH n λi=>f i%p):=XU .T f I O
theorem QO(f:Nat->Int)(I:0<p)(O:n<=lim) :
 xY [.int p,.lst (zH n f)]=cq (.val<|.tup<|zH n λi=>f i%p):=XU .L f I O
theorem bu(k:Sk)(f:UV)(g:Nat->Int)(O:0<p)(I:h<=lim)(C:w<=lim)(Q : ∀i j,i<h->j<w->0<=f i j/\f i j<100) :
 lO [.int p,jf h w f,r9 k (zH w g)]=cq (.val<|.tup<|zH h λi=>zf (λj=>f i j*g j) w%p):=by
 simp[lO,jo,zZ,z5,I,kg,jf,LQ];unfold z9;rw[zw (r:=λi=>D.int<|zf (λj=>f i j*g j) w)]
 ·simp
  rw[show(List.map (λi=>D.int<|zf (λj=>f i j*g j) w)<|LL h)=zH h λi=>zf (λj=>f i j*g j) w from rfl,QO _ O I];rfl
 ·intro i a
  refine zx rfl rfl ?_;simp[z5,v7,C];rw[zw (r:=λj=>D.int<|f i j*g j)]
  ·simp
   rw[show(List.map (λj=>D.int<|f i j*g j)<|LL w)=zH w λj=>f i j*g j from rfl,wg]
  ·intro j U
   refine zx rfl rfl ?_;have:=Q i j (LO.mp a)<|LO.mp U;simp[vI (f i j) (g j) ⋯ ⋯]
theorem vd(f:UV)(I:h<=lim)(C:w<=lim):qa [jf h w f]=cq (.val<|jf w h λi j=>f j i):=by
 simp[qa,jo,zZ,z5,I,C,kg,jf,LQ,jc,jY];rw[z7 w λi=>(i:Int)];rw[zw (r:=λj=>D.tup<|zH h λi=>f i j)]
 ·simp
  rfl
 ·intro j O
  refine zx rfl rfl ?_;simp[z5,I,kg];unfold z9;rw[zw (r:=λi=>D.int<|f i j)]
  ·simp
   rfl
  ·intro i b
   refine zx rfl rfl ?_;have a:=LO.mp O;simp[a,KG _ a]
theorem vb(I:n<=lim):qH [.int n]=cq (.val<|jf n n λi j=>if i=j then 1 else 0):=by
 simp[qH,jo,zZ,jc,I,z5,kg,LQ,jY];rw[z7 n λi=>(i:Int)];rw[zw (r:=λi=>D.tup<|zH n λj=>if i=j then 1 else 0)]
 ·simp
  rfl
 ·intro i a
  refine zx rfl rfl ?_;simp[I,z5,LQ,jY,kg];rw[z7 n λi=>(i:Int)];rw[zw (r:=λj=>D.int<|if i=j then 1 else 0)]
  ·simp
   rfl
  ·intro j O
   refine zx rfl rfl ?_;simp;by_cases e:i=j
   ·simp[e]
   ·rw[UY ⋯,UY e]
theorem fD(d:D)(w:Nat):LQ w d=(LL w).map λ_=>d:=by
 induction w with
 | zero=>rfl
 | succ n I=>rw[List.replicate_succ',I,NT,Nm];simp
noncomputable def kn(C:List Int):D:= .lst (C.map D.int)
mutual
theorem DW : ∀d:D,i5 d d=cM
 | .ez=>rfl
 | .bl b=>by simp[i5]
 | .int i=>by simp[i5]
 | .str x=>by simp[i5]
 | .tup e=>by simp only[i5];exact DX e
 | .lst e=>by simp only[i5];exact DX e
 | .m7 a b=>by simp only[i5];rw[DX a,DX b];rfl
 | .ml a b=>by simp only[i5];rw[DX b];simp
theorem DX : ∀ds:List D,rb ds ds=cM
 | []=>rfl
 | d::ds=>by simp only[rb,DW d,DX ds,Bool.and_self]
end
theorem xN : ∀{l:List D} {n:Nat},(∀d∈l,deep d<=n)->n3 l<=n
 | [],n,_=>MR n
 | d::ds,n,h=>by simp only[n3];exact Nat.max_le.mpr ⟨h d Mh,xN λe I=>h e<|Mg _ I⟩
theorem ba(n f):deep (.tup<|zH n f)<=1:=by
 simp only[deep];have:n3 (zH n f)<=0:=xN λd a=>by simp[zH]at a;obtain⟨i,_,rfl⟩:=a;exact LW _
 omega
theorem bh(h w f):deep (.tup<|z9 h w f)<=2:=by
 simp only[deep];have:n3 (z9 h w f)<=1:=xN λd a=>by simp[z9]at a;obtain⟨i,_,rfl⟩:=a;exact ba _ _
 omega
theorem bc(h w f):deep (jf h w f)<=3:=by
 unfold jf;simp only[deep];have:n3 [D.int h,D.int w,D.tup (z9 h w f)]<=2:=xN λd a=>by
  simp at a;rcases a with rfl | rfl | rfl
  ·exact MR _
  ·exact MR _
  ·exact bh _ _ _
 omega
theorem yt : ∀{l:List D},(∀d∈l,h9 d=cM)->o6 l=cM
 | [],_=>rfl
 | d::ds,h=>by simp only[o6,h d Mh,yt λe I=>h e<|Mg _ I,Bool.and_self]
theorem Xv(h:deep d<=n)(I:n<=20)(C:h9 d=cM):jn d=cM:=by unfold jn;rw[C,RN];exact decide_eq_true<|Nv h I
theorem gC(n f):h9 (.tup<|zH n f)=cM:=by
 simp only[h9];exact yt λd a=>by simp[zH]at a;obtain⟨i,_,rfl⟩:=a;rfl
theorem gD(h w f):h9 (.tup<|z9 h w f)=cM:=by
 simp only[h9];exact yt λd a=>by simp[z9]at a;obtain⟨i,_,rfl⟩:=a;exact gC _ _
theorem uk(h w f):h9 (jf h w f)=cM:=by unfold jf;simp only[h9,o6];have:=gD h w f;simp only[h9]at this;rw[this];rfl
theorem V5(h w f):jn (jf h w f)=cM:=Xv (bc h w f) ⋯<|uk h w f
theorem oT(h:jn d=cM):f9 d d=cq (.bl cM):=by unfold f9;rw[UJ ⟨h,h⟩,DW]
theorem KJ{d:D}(h:jn d=cM):gv d d=cq (.bl cR):=by unfold gv;rw[UJ ⟨h,h⟩,DW];rfl
theorem WI(i:Int):jG [.int i]=cq (.val<|.bl cM):=by simp[jG,jo,zZ,CI]
theorem dR{C:Type}(l:List C):Jp (l.map λ_=>D.bl cM)=cq (l.map λ_=>cM):=by
 induction l with
 | nil=>rfl
 | cons a l I=>simp[Jp,EG,I]
theorem Xx(k:Int)(I:0<k) : ∃n:Nat,m%k=n/\(n:Int)<k:=by have a:=MQ m (show k≠0 by omega);have b:=MF m I;obtain⟨n,O⟩:=OI a;exact⟨n,O,by omega⟩
noncomputable def ft(b:Bool):Nat:=if b then 108 else 114
noncomputable def qA(c:Nat):Str:=⟨#[c]⟩
theorem XB : ∀(l:List Nat),(SR "" (l.map qA)).cps.toList=l
 | []=>rfl
 | [c]=>rfl
 | c::d::l=>by
  have I:=XB (d::l);show((qA c++("" : Str))++SR "" ((d::l).map qA)).cps.toList=_;have e : ∀a b:Str,(a++b).cps.toList=a.cps.toList++b.cps.toList:=λa b=>by show(a.cps++b.cps).toList=_;simp
  rw[e,e,I];rfl
noncomputable def qZ(m:Nat)(w:UK):Str:=SR "" ((LL m).map λk=>qA (ft (w k)))
theorem xB(m w):(qZ m w).cps.toList=(LL m).map λk=>ft (w k):=by have:=XB<|(LL m).map λk=>ft<|w k;rw[MB]at this;exact this
theorem WN(m w):(qZ m w).length=m:=by show(qZ m w).cps.size=m;rw[<- Nz,xB];simp
theorem Ze{m:Nat}(w)(I:m<=1000):j3 (qZ m w)=cM:=decide_eq_true (by rw[WN];exact I)
theorem ZS{C:Type}(g:C->Str) : ∀l:List C,X5 (l.map λx=>D.str<|g x)=cq (l.map g)
 | []=>rfl
 | a::l=>by simp[X5,ZS g l]
noncomputable def gm(w:UK)(wd:UX)(k:Nat):Nat:=if w k then wd k else wd (k+1)
noncomputable def f7(w:UK)(wd:UX)(k:Nat):Nat:=if w k then wd (k+1)else wd k
noncomputable def xy(w:UK)(wd:UX)(T:UW)(k:Nat):D:= .tup [.str (qA<|ft<|w k),jf (gm w wd k) (f7 w wd k) (T k)]
noncomputable def jL(m:Nat)(w:UK)(wd:UX)(T:UW):List D:=(LL m).map (xy w wd T)
noncomputable def jk(p:Int)(m:Nat)(w:UK)(wd:UX)(T:UW):D:= .tup [.int p,.tup<|zH (m+1) λk=>(wd k:Int),.tup (jL m w wd T)]
@[simp] theorem QJ(m w wd T):(jL m w wd T).length=m:=by simp[jL]
theorem wj{m k:Nat}(w)(I:m<=1000)(O:k<m)(γ:Ctx)(f g:CO D)(Q:f γ=cq (.str<|qZ m w))(U:g γ=cq (.int k)):xo f g γ=cq (.str<|qA<|ft<|w k):=by rw[Jk,Q,U];simp only[LR,qm];rw[UJ (Ze w I),xB];simp[O,qA]
theorem aW(b:Bool):f9 (.str (qA (ft b))) (.str "l")=cq (.bl b):=by
 have e : ∀b:Bool,(qA (ft b)==(Mw "l"))=b:=by decide +kernel
 have I : ∀b:Bool,jn (.str<|qA<|ft b)=cM:=by decide +kernel
 have O:jn (.str (Mw "l"))=cM:=by decide +kernel
 unfold f9;rw[UJ ⟨I b,O⟩];show cq (D.bl (qA (ft b)==Mw "l"))=_;rw[e]
theorem gw(b:Bool):jn (.str<|qA<|ft b)=cM:=by cases b<;>decide +kernel
theorem Zr(b:Bool):f9 (.str (qA (ft b))) (.str "r")=cq (.bl (!b)):=by
 have e : ∀b:Bool,(qA (ft b)==(Mw "r")) = !b:=by decide +kernel
 have I:jn (.str (Mw "r"))=cM:=by decide +kernel
 unfold f9;rw[UJ ⟨gw b,I⟩];show cq (D.bl (qA (ft b)==Mw "r"))=_;rw[e]
theorem FD:Mw "r" = qA (ft cR):=by decide +kernel
theorem FE:Mw "l" = qA (ft cM):=by decide +kernel
theorem vL(b:Bool):q8 [.str (qA<|ft b)]=cq (.val<|.str<|qA<|ft !b):=by have a:=FD;have I:=FE;have q:=Zr b;rw[a]at q;cases b<;>simp[q8,jo,zZ,a,I]at q ⊢ <;> simp[q]
theorem pj{w w':UK}{wd wd':UX}{T T':UW}{k:Nat}(C:w k=w' k)(J:wd k=wd' k)(I:wd (k+1)=wd' (k+1))(O : ∀i j,i<gm w wd k->j<f7 w wd k->T k i j=T' k i j):xy w wd T k=xy w' wd' T' k:=by
 have a:gm w wd k=gm w' wd' k:=by unfold gm;rw[C,J,I]
 have Q:f7 w wd k=f7 w' wd' k:=by unfold f7;rw[C,J,I]
 unfold xy;rw[C,<- a,<- Q,ZZ O]
theorem mL{p:Int}{m:Nat}{w w':UK}{wd wd':UX}{T T':UW}(J : ∀k,k<m->w k=w' k)(C : ∀k,k<m+1->wd k=wd' k)(O : ∀k i j,k<m->i<gm w wd k->j<f7 w wd k->T k i j=T' k i j):jk p m w wd T=jk p m w' wd' T':=by unfold jk jL;rw[kj (f:=λk=>((wd k:Nat):Int)) (g:=λk=>((wd' k:Nat):Int)) λk I=>by rw[C k I]];rw[Md λk I=>pj (J k<|LO.mp I) (C k (by have:=LO.mp I;omega)) (C (k+1) (by have:=LO.mp I;omega)) λi j a Q=>O k i j (LO.mp I) a Q]
theorem um(w wd T k):h9 (xy w wd T k)=cM:=by have a:=V5 (gm w wd k) (f7 w wd k)<|T k;have b:=gw<|w k;simp only[jn,Mi]at a b;show(h9 _ && (h9 _ && cM))=cM;rw[a.2,b.2];rfl
theorem oS(w wd T k):deep (xy w wd T k)<=4:=by have:=bc (gm w wd k) (f7 w wd k)<|T k;simp[xy,deep,n3];omega
theorem uo(p m w wd T):jn (jk p m w wd T)=cM:=by
 have e:n3 (jL m w wd T)<=4:=xN λd a=>by obtain⟨k,_,rfl⟩:=Mk.mp a;exact oS w wd T k
 have b:o6 (jL m w wd T)=cM:=yt λd a=>by obtain⟨k,_,rfl⟩:=Mk.mp a;exact um w wd T k
 have O:=ba (m+1) λk=>(wd k:Int);have I:=gC (m+1) λk=>(wd k:Int);refine Xv (n:=10) ?_ ⋯ ?_
 ·simp only[jk,deep,n3]at O ⊢
  omega
 ·simp only[jk,h9,o6]at I ⊢
  simp[b,I]
section
variable{p:Int}
noncomputable def iH(h w:Nat)(f:UV):List D:=(LL h).map λi=>D.lst<|zH w<|f i
@[simp] theorem Ec(h w f):(iH h w f).length=h:=by simp[iH]
end
theorem zv : ∀{n:Nat},(∀k,k<n->f k=g k)->zf f n=zf g n
 | 0,_=>rfl
 | n+1,h=>by simp only[zf];rw[zv (n:=n) λk I=>h k ⋯,h n ⋯]
theorem zQ(n:Nat):zf (λ_=>0) n=0:=by
 induction n with
 | zero=>rfl
 | succ n I=>simp[zf,I]
theorem zL(C:i<n)(h : ∀k,k<n->k≠i->f k=0):zf f n=f i:=by
 induction n with
 | zero=>omega
 | succ n I=>
  simp only[zf];by_cases e:i=n
  ·subst e
   rw[zv (g:=λ_=>0) (λk O=>h k ⋯ ⋯),zQ];omega
  ·rw[I ⋯ λk O=>h k ⋯,h n ⋯ ⋯]
   omega
theorem jJ(f g:Nat->Int)(n:Nat):zf (λk=>f k+g k) n=zf f n+zf g n:=by
 induction n with
 | zero=>rfl
 | succ n I=>simp only[zf,I];omega
theorem qi(f:Nat->Int)(c:Int)(n:Nat):zf (λk=>f k*c) n=zf f n*c:=by
 induction n with
 | zero=>simp[zf]
 | succ n I=>simp only[zf,I,RU]
theorem jg(f:Nat->Int)(c:Int)(n:Nat):zf (λk=>c*f k) n=c*zf f n:=by
 induction n with
 | zero=>simp[zf]
 | succ n I=>simp only[zf,I,Pq]
theorem qh(f:UV)(n m:Nat):zf (λi=>zf (λj=>f i j) m) n=zf (λj=>zf (λi=>f i j) n) m:=by
 induction n with
 | zero=>simp[zf,zQ]
 | succ n I=>simp only[zf];rw[I,<- jJ]
theorem zI : ∀{n:Nat},(∀k,k<n->f k%p=g k%p)->zf f n%p=zf g n%p
 | 0,_=>rfl
 | n+1,h=>by simp only[zf];rw[MY,zI (n:=n)<|λk I=>h k ⋯,h n ⋯,<- MY]
theorem gI(p x y:Int):(x%p*y)%p=(x*y)%p:=by rw[LZ,Mp,<- LZ]
theorem wH(p x y:Int):(x*(y%p))%p=(x*y)%p:=by rw[LZ,Mp,<- LZ]
theorem Jq(p:Int)(a b c:UV)(m w i j:Nat) :
 zf (λk=>a i k*(zf (λl=>b k l*c l j) w%p)) m%p=zf (λl=>(zf (λk=>a i k*b k l) m%p)*c l j) w%p:=by
 rw[zI (g:=λk=>zf (λl=>a i k*(b k l*c l j)) w) (λk _=>by rw[wH,jg]),
  zI (f:=λl=>(zf (λk=>a i k*b k l) m%p)*c l j) (g:=λl=>zf (λk=>a i k*(b k l*c l j)) m) (λl _=>by rw[gI,<- qi];exact congrArg (· % p)<|zv λk _=>MW _ _ _),qh]
abbrev Vc:=Nat->Int
noncomputable def Pr(p:Int):Prop:=p=2\/p=3\/p=5\/p=7
theorem Pr.pos(h:Pr p):0<p:=by unfold Pr at h;omega
theorem Pr.two(h:Pr p):2<=p:=by unfold Pr at h;omega
theorem Pr.le(h:Pr p):p<=7:=by unfold Pr at h;omega
theorem Pr.one(h:Pr p):(1:Int)%p=1:=Nn ⋯ (by have:=h.two;omega)
inductive Span(p:Int)(n:Nat)(G:Vc->Prop):Vc->Prop where
 | zero {v:Vc}:(∀i,i<n->v i%p=0)->Span p n G v
 | step {v w g:Vc} {c:Int}:G g->Span p n G w->(∀i,i<n->v i%p=(w i+c*g i)%p)->Span p n G v
section
variable{p:Int}{n:Nat}{G G':Vc->Prop}
theorem Span.congr(h:Span p n G v)(e : ∀i,i<n->v' i%p=v i%p):Span p n G v':=by
 cases h with
 | zero h=>exact .zero λi a=>by rw[e i a,h i a]
 | step I b h=>exact .step I b λi a=>by rw[e i a,h i a]
theorem Span.gen(h:G g):Span p n G g:= .step (c:=1) h (.zero (v:=λ_=>0) λi _=>by simp) λi _=>by simp
theorem Span.add(O:Span p n G v)(C:Span p n G w) : ∀c:Int,Span p n G λi=>w i+c*v i:=by
 induction O with
 | zero h=>
  intro c;refine C.congr λi a=>?_;rw[MY,LZ,h i a];simp
 | @step v b g I Q Y h U=>
  intro c;refine .step (c:=c*I) Q (U c) λi a=>?_;have e:(c*v i)%p=(c*(b i+I*g i))%p:=by rw[LZ,h i a,<- LZ]
  rw[MY,e,<- MY];congr 1;rw[Pq,<- MW,Int.add_assoc]
theorem Span.smul(I:Span p n G v)(c:Int):Span p n G λi=>c*v i:=
 (I.add (w:=λ_=>0) (.zero λi _=>by simp) c).congr λi _=>by simp
theorem Span.le(h:Span p n G v)(I : ∀g,G g->Span p n G' g):Span p n G' v:=by
 induction h with
 | zero h=>exact .zero h
 | step O a h Q=>exact((I _ O).add Q _).congr h
end
structure h8(p:Int)(n r:Nat)(B:Nat->Vc)(l:UX):Prop where
 lt : ∀k,k<r->l k<n
 mono : ∀k m,k<m->m<r->l k<l m
 one : ∀k,k<r->B k (l k)=1
 mA : ∀k j,k<r->j<l k->B k j=0
 sh : ∀k m,k<r->m<r->m≠k->B k (l m)=0
 l0 : ∀k i,k<r->i<n->0<=B k i/\B k i<p
noncomputable def ej(r:Nat)(B:Nat->Vc):Vc->Prop:=λv=>∃k,k<r/\v=B k
section
variable{p:Int}{n r r':Nat}{B B':Nat->Vc}{l l':UX}
theorem ZM(O:h8 p n r B l)(h:Span p n (ej r B) v) : ∀i,i<n->v i%p=zf (λk=>v (l k)*B k i) r%p:=by
 induction h with
 | @zero v h=>
  intro i a;rw[h i a];have:zf (λk=>v (l k)*B k i) r%p=zf (λ_=>0) r%p:=zI λk I=>by rw[LZ,h _ (O.lt k I)];simp
  rw[this,zQ];rfl
 | @step v w g c U f h Y=>
  intro i a;obtain⟨m,Q,rfl⟩:=U;rw[h i a];have d:zf (λk=>v (l k)*B k i) r%p=zf (λk=>w (l k)*B k i+c*B m (l k)*B k i) r%p:=zI λk I=>by rw[LZ,h _<|O.lt k I,<- LZ,RU]
  have e:zf (λk=>c*B m (l k)*B k i) r=c*B m i:=by rw[zL (i:=m) Q λk I b=>by rw[O.sh m k Q I b];simp,O.one m Q];simp
  rw[d,jJ,e,MY,Y i a,<- MY]
theorem Wf(I:h8 p n r B l)(h:Span p n (ej r B) v)(Q:j<n)(U:v j%p≠0)(hz : ∀i,i<j->v i%p=0) : ∃k,k<r/\l k=j:=by
 apply Nr;intro Y;apply U;rw[ZM I h j Q];have:zf (λk=>v (l k)*B k j) r%p=zf (λ_=>0) r%p:=zI λk O=>by
  have a:l k≠j:=λe=>Y ⟨k,O,e⟩;rcases Mt (l k) j with q | q
  ·rw[LZ,hz _ q];simp
  ·rw[I.mA k j O ⋯];simp
 rw[this,zQ];rfl
theorem aJ(O : ∀k m,k<m->m<r->l k<l m)(Q : ∀k m,k<m->m<r'->l' k<l' m)(C : ∀k,k<r->∃m,m<r'/\l' m=l k)(J : ∀k,k<r'->∃m,m<r/\l m=l' k) :
 ∀k,k<r->k<r'/\l k=l' k:=by
 intro k
 induction k using Nat.strongRecOn with
 | ind k U=>
  intro Y;obtain⟨m,a,em⟩:=C k Y;have d:k<=m:=by
   rcases Mt m k with q | q
   ·have:=(U m q ⋯).2
    have:=O m k q Y;omega
   ·exact q
  have I:k<r':=by omega
  refine⟨I,?_⟩;obtain⟨q,b,eq⟩:=J k I;have e:k<=q:=by
   rcases Mt q k with z | z
   ·have:=(U q z ⋯).2
    have:=Q q k z I;omega
   ·exact z
  rcases Mt k m with z | z
  ·have f:=Q k m z a
   have g:l k<=l q:=by
    rcases Mt k q with y | y
    ·exact Sh<|O k q y b
    ·have:k=q:=by omega
     subst this;exact LW _
   omega
  ·have:m=k:=by omega
   subst this;exact em.symm
theorem QH(L:Pr p)(O:h8 p n r B l)(Q:h8 p n r' B' l')(C : ∀v,Span p n (ej r B) v->Span p n (ej r' B') v)(J : ∀v,Span p n (ej r' B') v->Span p n (ej r B) v) :
 r=r'/\(∀k,k<r->l k=l' k)/\∀k i,k<r->i<n->B k i=B' k i:=by
 have one:=L.one;have e : ∀k,k<r->∃m,m<r'/\l' m=l k:=λk I=>Wf Q (C _<|.gen ⟨k,I,rfl⟩) (O.lt k I) (by rw[O.one k I,one];decide) λi a=>by rw[O.mA k i I a];simp
 have f : ∀k,k<r'->∃m,m<r/\l m=l' k:=λk I=>Wf O (J _<|.gen ⟨k,I,rfl⟩) (Q.lt k I) (by rw[Q.one k I,one];decide) λi a=>by rw[Q.mA k i I a];simp
 have b:=aJ O.mono Q.mono e f;have h:=aJ Q.mono O.mono f e;have j:r=r':=by
  rcases OD r r' with q | q | q
  ·exact absurd (h r q).1 (Nh _)
  ·exact q
  ·exact absurd (b r' q).1 (Nh _)
 subst j;refine⟨rfl,λk I=>(b k I).2,λk i I a=>?_⟩;have c:=ZM Q (C _<|.gen ⟨k,I,rfl⟩) i a;rw[zL (i:=k) I λm U g=>by rw[<- (b m U).2,O.sh k m I U g];simp,<- (b k I).2,O.one k I,OH]at c;have Y:=O.l0 k i I a;have d:=Q.l0 k i I a;rw[Nn Y.1 Y.2,Nn d.1 d.2]at c;exact c
end
theorem jx(q:α->Bool)(r:α->D) : ∀(l:List α),(∀x∈l,∃γ1,xG T (g x) γ=cq γ1/\k γ1=cq (q x)/\(q x=cM->f γ1=cq (r x)))->
 zP T k f γ (l.map g)=cq ((l.filter q).map r)
 | [],_=>rfl
 | x::l,h=>by
  obtain⟨γ1,a,b,O⟩:=h x Mh;have I:=jx q r l λy Q=>h y<|Mg _ Q;simp only[Mu,zP,a,b,LR];cases e:q x with
  | true=>simp[O e,I,e]
  | false=>simp[I,e]
theorem rA(I:Pr p)(O:0<x)(C:x<p) : ∃y:Nat,1<=y/\(y:Int)<p/\(y:Int)*x%p=1:=by
 rcases I with rfl | rfl | rfl | rfl
 ·obtain rfl:x=1:=by omega
  exact⟨1,by decide,by decide,by decide⟩
 ·rcases (show x=1\/x=2 by omega)with rfl | rfl
  ·exact⟨1,by decide,by decide,by decide⟩
  ·exact⟨2,by decide,by decide,by decide⟩
 ·rcases (show x=1\/x=2\/x=3\/x=4 by omega)with rfl | rfl | rfl | rfl
  ·exact⟨1,by decide,by decide,by decide⟩
  ·exact⟨3,by decide,by decide,by decide⟩
  ·exact⟨2,by decide,by decide,by decide⟩
  ·exact⟨4,by decide,by decide,by decide⟩
 ·rcases (show x=1\/x=2\/x=3\/x=4\/x=5\/x=6 by omega)with rfl | rfl | rfl | rfl | rfl | rfl
  ·exact⟨1,by decide,by decide,by decide⟩
  ·exact⟨4,by decide,by decide,by decide⟩
  ·exact⟨5,by decide,by decide,by decide⟩
  ·exact⟨2,by decide,by decide,by decide⟩
  ·exact⟨3,by decide,by decide,by decide⟩
  ·exact⟨6,by decide,by decide,by decide⟩
theorem ZC{q:UK}{n a:Nat}{k6:List Nat}(h:(LL n).filter q=a::k6):a<n/\q a=cM/\∀i,i<a->q i=cR:=by
 have I:a∈(LL n).filter q:=by rw[h];exact Mh
 refine⟨LO.mp (MA.mp I).1,(MA.mp I).2,λi d=>?_⟩;apply Nr;intro O;have Q:q i=cM:=by simpa using O
 have U:i∈a::k6:=by rw[<- h];exact MA.mpr ⟨LO.mpr (by have:=LO.mp (MA.mp I).1;omega),Q⟩
 have b:(a::k6).Pairwise (· < ·):=by rw[<- h];exact RD _ PL
 rcases Mc.mp U with e | e
 ·omega
 ·have:=(List.pairwise_cons.mp b).1 i e;omega
theorem YX(h:(LL n).filter q=[]) : ∀i,i<n->q i=cR:=λi a=>by apply Nr;intro I;have:i∈(LL n).filter q:=MA.mpr ⟨LO.mpr a,by simpa using I⟩;rw[h]at this;simp at this
theorem VA(I:Pr p)(O:0<x)(C:x<p) : ∃y,w6 [.int p,.int x]=cq (.val<|.int y)/\1<=y/\y<p/\x*y%p=1:=by
 rcases I with rfl | rfl | rfl | rfl
 ·have:x=1:=by omega
  subst this;exact⟨1,rfl,by decide,by decide,by decide⟩
 ·have:x=1\/x=2:=by omega
  rcases this with rfl | rfl
  ·exact⟨1,rfl,by decide,by decide,by decide⟩
  ·exact⟨2,rfl,by decide,by decide,by decide⟩
 ·have:x=1\/x=2\/x=3\/x=4:=by omega
  rcases this with rfl | rfl | rfl | rfl
  ·exact⟨1,rfl,by decide,by decide,by decide⟩
  ·exact⟨3,rfl,by decide,by decide,by decide⟩
  ·exact⟨2,rfl,by decide,by decide,by decide⟩
  ·exact⟨4,rfl,by decide,by decide,by decide⟩
 ·have:x=1\/x=2\/x=3\/x=4\/x=5\/x=6:=by omega
  rcases this with rfl | rfl | rfl | rfl | rfl | rfl
  ·exact⟨1,rfl,by decide,by decide,by decide⟩
  ·exact⟨4,rfl,by decide,by decide,by decide⟩
  ·exact⟨5,rfl,by decide,by decide,by decide⟩
  ·exact⟨2,rfl,by decide,by decide,by decide⟩
  ·exact⟨3,rfl,by decide,by decide,by decide⟩
  ·exact⟨6,rfl,by decide,by decide,by decide⟩
theorem ZG(O:Pr p)(Q:n<=lim)(I:t<n)(w P:Nat->Int)(C : ∀i,i<n->0<=w i/\w i<p) :
 qV [.int p,.tup<|zH n w,.tup<|zH n P,.int t]=cq (.val<|.tup<|zH n λi=>(w i - w t*P i)%p):=by
 have b:=C t I;have d:=O.le;have Y : ∀x,XR (w t) x=cM:=λx=>vI _ _ ⋯ ⋯;by_cases U:w t=0
 ·simp[qV,jo,zZ,jc,I,U]
  apply kj;intro i a;rw[Nn (C i a).1 (C i a).2]
 ·simp[qV,jo,zZ,jc,I,U,v7,Q,z5,kg,LQ]
  rw[zw (r:=λi=>D.int<|w i - w t*P i)]
  ·rw[<- z7]
   simp[QO _ O.pos Q]
  ·intro i a
   refine zx rfl rfl ?_;simp[Y]
theorem V8{l:UX}{r t:Nat}(I : ∀k m,k<m->m<r->l k<l m)(O : ∀k,k<r->l k<t):r<=t:=by
 have a : ∀k,k<r->k<=l k:=by
  intro k
  induction k with
  | zero=>intro _;exact MR _
  | succ k Q=>
   intro U;have b:=Q ⋯;have d:=I k (k+1) ⋯ U;omega
 cases r with
 | zero=>exact MR _
 | succ r=>
  have b:=a r ⋯;have d:=O r ⋯;omega
noncomputable def Jf:=(zM (jB 6<|qf<|zK (zN<|zh 3) (.nm 0) 1 [5] (sB<|zB gv (di (zh 0)<|zc 1)<|zu<|.int 0) (zc 0))<|zM (h7 (jX<|sR<|zh 6) sU j1)<|zM (jB 7<|zA w6<|zb (zc 0)<|zb (di (zR<|di (zh 6)<|zu<|.int 0)<|zc 5) zD)<|zM (jB 8<|zA xY<|zb (zc 0)<|zb (qf<|zK (zN<|zR<|di (zh 6)<|zu<|.int 0) (.nm 0) 1 [7] jd (zB kX (zc 1)<|zc 0)) zD)<|zM (jB 3<|qf<|zK (zN<|zh 3) (.nm 0) 1 [0,5,8] jd (zA qV<|zb (zc 1)<|zb (zc 0)<|zb (zc 3)<|zb (zc 2) zD))<|vN 4<|VQ (jt<|zK (zN<|zh 4) (.nm 0) 1 [0,5,8] jd (zA qV<|zb (zc 1)<|zb (zc 0)<|zb (zc 3)<|zb (zc 2) zD))<|jt<|kY<|zb (zc 8) zD)
noncomputable def Un(r:Nat)(B:Nat->Vc)(m:Nat)(W:Nat->Vc):Vc->Prop:=λv=>ej r B v\/ej m W v
structure A7(p:Int)(n m:Nat)(W:Nat->Vc)(t r:Nat)(B:Nat->Vc)(l:UX)(Wt:Nat->Vc):Prop where
 l0 : ∀j i,j<m->i<n->0<=Wt j i/\Wt j i<p
 Du : ∀j i,j<m->i<t->Wt j i=0
 C0:h8 p n r B l
 lt : ∀k,k<r->l k<t
 span : ∀v,Span p n (Un r B m Wt) v↔Span p n (ej m W) v
section
variable{p:Int}{n m:Nat}{W:Nat->Vc}{t r:Nat}{B:Nat->Vc}{l:UX}{Wt:Nat->Vc}
theorem A7.skip(h:A7 p n m W t r B l Wt)(hz : ∀j,j<m->Wt j t=0):A7 p n m W (t+1) r B l Wt:=
 ⟨h.l0,λj i I a=>by
  rcases Mt i t with q | q
  ·exact h.Du j i I q
  ·have:i=t:=by omega
   subst this;exact hz j I,h.C0,λk O=>Nd<|h.lt k O,h.span⟩
noncomputable def i9(p:Int)(P:Vc)(t:Nat)(w:Vc):Vc:=λi=>(w i - w t*P i)%p
noncomputable def cF(p:Int)(P:Vc)(t r:Nat)(B:Nat->Vc):Nat->Vc:=λk=>if k<r then i9 p P t (B k)else P
noncomputable def rf(t r:Nat)(l:UX):Nat->Nat:=λk=>if k<r then l k else t
theorem Jd(I:Span p n G P)(C:Span p n G w):Span p n G (i9 p P t w):=
 (I.add C (-(w t))).congr λi _=>by unfold i9;rw[Mp];congr 1;rw[Int.neg_mul];omega
theorem WW(I:Span p n G P)(C:Span p n G (i9 p P t w)):Span p n G w:=
 (I.add C<|w t).congr λi _=>by unfold i9;rw[MY,Mp,<- MY];congr 1;omega
theorem A7.next(C:Pr p)(h:A7 p n m W t r B l Wt)(L:t<n)(J:j0<m)(Z:Wt j0 t*y%p=1)(U : ∀i,i<n->P i=y*Wt j0 i%p) :
 A7 p n m W (t+1) (r+1) (cF p P t r B) (rf t r l) (λj=>i9 p P t<|Wt j):=by
 have H:=C.pos;have one:=C.one;have x:P t=1:=by rw[U t L,MU];exact Z
 have d : ∀i,i<t->P i=0:=λi a=>by rw[U i ⋯,h.Du j0 i J a];simp
 have K : ∀i,i<n->0<=P i/\P i<p:=λi a=>by rw[U i a];exact⟨MQ _ ⋯,MF _ H⟩
 have E : ∀(w:Vc) i,0<=i9 p P t w i/\i9 p P t w i<p:=λw i=>⟨MQ _ ⋯,MF _ H⟩;have Y : ∀(w:Vc) i,i<t->0<=w i->w i<p->i9 p P t w i=w i:=λw i a R S=>by unfold i9;rw[d i a,xr,Int.sub_zero];exact Nn R S
 have F : ∀w:Vc,i9 p P t w t=0:=λw=>by unfold i9;rw[x,OY,Int.sub_self];simp
 refine⟨λj i O a=>E _ _,λj i O a=>?_,⟨λk I=>?_,λk q M T=>?_,λk I=>?_,λk j I O=>?_,λk q I T N=>?_,λk i I a=>?_⟩,λk I=>?_,λv=>?_⟩
 ·rcases Mt i t with q | q
  ·have e:=h.Du j i O q
   rw[Y _ i q ⋯ ⋯];exact e
  ·have:i=t:=by omega
   subst this;exact F _
 ·unfold rf;split
  ·rename_i q;exact h.C0.lt k q
  ·exact L
 ·unfold rf
  have I:k<r:=by omega
  rw[UJ I];split
  ·rename_i z;exact h.C0.mono k q M z
  ·exact h.lt k I
 ·unfold rf cF;split
  ·rename_i q
   have e:=h.C0.one k q;have b:=h.lt k q;rw[Y _ _ b ⋯ (by have:=C.two;omega)];exact e
  ·exact x
 ·unfold cF;unfold rf at O;split at O
  ·rename_i q
   have e:=h.C0.mA k j q O;have b:=h.lt k q;rw[UJ q,Y _ _ ⋯ ⋯ ⋯];exact e
  ·rename_i q
   rw[UY q];exact d j O
 ·unfold cF rf
  by_cases u:k<r
  ·rw[UJ u]
   by_cases Q:q<r
   ·rw[UJ Q]
    have e:=h.C0.sh k q u Q N;have b:=h.lt q Q;rw[Y _ _ b ⋯ ⋯];exact e
   ·rw[UY Q];exact F _
  ·rw[UY u]
   have Q:q<r:=by omega
   rw[UJ Q];exact d _<|h.lt q Q
 ·unfold cF;split
  ·exact E _ _
  ·exact K i a
 ·unfold rf;split
  ·rename_i q;exact Nd<|h.lt k q
  ·exact NO _
 ·rw[<- h.span v]
  have f:Span p n (Un r B m Wt) P:=((Span.gen (p:=p) (n:=n) (G:=Un r B m Wt) (g:=Wt j0)<|.inr ⟨j0,J,rfl⟩).smul y).congr λi a=>by rw[U i a,Mp]
  have A:Span p n (Un (r+1) (cF p P t r B) m λj=>i9 p P t<|Wt j) P:= .gen (.inl ⟨r,NO r,by unfold cF;rw[UY (Nh r)]⟩);constructor
  ·refine λs=>s.le λg o=>?_
   rcases o with⟨k,I,rfl⟩ | ⟨j,O,rfl⟩
   ·unfold cF;split
    ·rename_i q;exact Jd f<|.gen<|.inl ⟨k,q,rfl⟩
    ·exact f
   ·exact Jd f<|.gen<|.inr ⟨j,O,rfl⟩
  ·refine λs=>s.le λg o=>?_
   rcases o with⟨k,I,rfl⟩ | ⟨j,O,rfl⟩
   ·refine WW (t:=t) A (.gen<|.inl ⟨k,Nd I,?_⟩)
    unfold cF;rw[UJ I]
   ·exact WW (t:=t) A<|.gen<|.inr ⟨j,O,rfl⟩
theorem A7.done(h:A7 p n m W n r B l Wt)(v:Vc):Span p n (ej r B) v↔Span p n (ej m W) v:=by
 rw[<- h.span v];constructor
 ·exact λO=>O.le λg I=> .gen (.inl I)
 ·refine λO=>O.le λg I=>?_
  rcases I with I | ⟨j,Q,rfl⟩
  ·exact .gen I
  ·exact .zero λi a=>by rw[h.Du j i Q a];simp
theorem iG(O:True)(P:Vc):z9 (r+1) n (cF p P t r B)=z9 r n (λk=>i9 p P t<|B k)++[.tup (zH n P)]:=by
 unfold z9;rw[NT,Nm];congr 1
 ·apply Md
  intro k I;have:=LO.mp I;simp[cF,this]
 ·simp[cF]
end
theorem xT{p:Int}(C:Pr p){n m:Nat}(hn:n<=100)(L:m<=lim)(J:Sk)(W:Nat->Vc) :
 ∃r B l,xU [.int p,.int n,r9 J (z9 m n W)]=cq (.own<|z9 r n B)/\h8 p n r B l/\∀v,Span p n (ej r B) v↔Span p n (ej m W) v:=by
 have hl:=jy;have a:n<=lim:=by omega
 have E:=C.pos;have A:=Vf (T:= .nm 5) (F:=Jf)
  (λt N=>∃r B l Wt o s f h,N=[.val (.int p),.val<|.int n,.val<|r9 J<|z9 m n W,.val<|.lst<|z9 m n Wt,.own<|z9 r n B,o,s,f,h]/\A7 p n m W t r B l Wt)
  ((LL n).map λ(i:Nat)=>D.int i) 0 [.val (.int p),.val<|.int n,.val<|r9 J<|z9 m n W,.val<|.lst<|z9 m n λj i=>W j i%p,.own [],.no,.no,.no,.no]
  ⟨0,λ_ _=>0,λ_=>0,λj i=>W j i%p,.no,.no,.no,.no,rfl,λj i _ _=>⟨MQ _ ⋯,MF _ E⟩,λj i _ b=>absurd b<|MH _,
   ⟨λk O=>absurd O<|MH _,λk q _ O=>absurd O<|MH _,λk O=>absurd O<|MH _,λk j O=>absurd O<|MH _,λk q O=>absurd O<|MH _,λk i O=>absurd O<|MH _⟩,
   λk O=>absurd O<|MH _,λv=>⟨λz=>z.le λg w=>by
    rcases w with⟨k,O,_⟩ | ⟨j,U,rfl⟩
    ·exact absurd O<|MH _
    ·exact(Span.gen (p:=p) (n:=n) (G:=ej m W) (g:=W j) ⟨j,U,rfl⟩).congr λi _=>Mp _ _,λz=>z.le λg w=>by
    obtain⟨j,U,rfl⟩:=w;exact(Span.gen (p:=p) (n:=n) (G:=Un 0 (λ_ _=>0) m λj i=>W j i%p) (g:=λi=>W j i%p)<|.inr ⟨j,U,rfl⟩).congr λi _=>(Mp _ _).symm⟩⟩ (by
   rintro t d N u ⟨r,B,l,Wt,o,s,f,h,rfl,Q⟩;rw[MT]at Q ⊢;have Y:t<n:=by have:=(Mj.mp u).1;simpa using this
   have R:d = .int t:=by simp[Y]at u;exact u.symm
   subst R;have e:zP (.nm 0) (sB<|zB gv (di (zh 0)<|zc 1)<|zu<|.int 0) (zc 0) [Cell.no,Cell.val (.int t)] (z9 m n Wt)=cq (((LL m).filter λj=> !decide (Wt j t=0)).map λj=>D.tup<|zH n<|Wt j):=by unfold z9;refine jx _ _ _ λj U=>⟨_,rfl,?_,λ_=>rfl⟩;simp[Y]
   have hr:r<=t:=V8 Q.C0.mono Q.lt;have S:r<=lim:=by omega
   cases hf:(LL m).filter λj=> !decide (Wt j t=0)with
   | nil=>
    have hz : ∀j,j<m->Wt j t=0:=λj U=>by apply Nr;intro H;have:j∈(LL m).filter λj=> !decide (Wt j t=0):=MA.mpr ⟨LO.mpr U,by simp[H]⟩;rw[hf]at this;simp at this
    rw[hf]at e;refine⟨_,.inr ?_,r,B,l,Wt,.val<|.int t,.val<|.lst [],f,h,rfl,Q.skip hz⟩;simp only[vp,LR,NI,NH,Jf];rw[jc];simp[jc,z5,kg,LQ,e,L]
   | cons I k6=>
    have K:I∈(LL m).filter λj=> !decide (Wt j t=0):=by rw[hf];exact Mh
    have M:I<m:=LO.mp (MA.mp K).1;have H:Wt I t≠0:=by simpa using (MA.mp K).2
    have X:=Q.l0 I t M Y;obtain⟨y,ey,y1,y2,yy⟩:=VA C (x:=Wt I t) ⋯ X.2;rw[hf]at e;have nx:=Q.next C Y M yy (P:=λi=>y*Wt I i%p) λi _=>rfl;refine⟨_,.inl ?_,r+1,cF p (λi=>y*Wt I i%p) t r B,rf t r l,λj=>i9 p (λi=>y*Wt I i%p) t<|Wt j,.val<|.int t,.val<|.lst<|(I::k6).map λj=>D.tup<|zH n<|Wt j,.val<|.int y,.val<|.tup<|zH n λi=>y*Wt I i%p,rfl,nx⟩;have bf:=C.le;have cy : ∀x,XR y x=cM:=λx=>vI _ _ ⋯ ⋯;have as:zP (.nm 0) jd (zB kX (zc 1)<|zc 0) [Cell.no,Cell.val (.int y)] (zH n<|Wt I)=cq (zH n λi=>y*Wt I i):=by rw[z7,z7];refine zw _ _ λi b=>zx rfl rfl ?_;simp[cy]
    have Z:zP (.nm 0) jd (zA qV<|zb (zc 1)<|zb (zc 0)<|zb (zc 3)<|zb (zc 2) zD) [Cell.no,Cell.val<|.int p,Cell.val<|.int t,Cell.val (.tup<|zH n λi=>y*Wt I i%p)] (z9 m n Wt)=cq (z9 m n λj=>i9 p (λi=>y*Wt I i%p) t<|Wt j):=by unfold z9;refine zw _ _ λj U=>zx rfl rfl ?_;simp[ZG C a Y (Wt j) (λi=>y*Wt I i%p) λi b=>Q.l0 j i (LO.mp U) b];rfl
    have b0:zP (.nm 0) jd (zA qV<|zb (zc 1)<|zb (zc 0)<|zb (zc 3)<|zb (zc 2) zD) [Cell.no,Cell.val<|.int p,Cell.val<|.int t,Cell.val (.tup<|zH n λi=>y*Wt I i%p)] (z9 r n B)=cq (z9 r n λj=>i9 p (λi=>y*Wt I i%p) t<|B j):=by unfold z9;refine zw _ _ λj U=>zx rfl rfl ?_;simp[ZG C a Y (B j) (λi=>y*Wt I i%p) λi b=>Q.C0.l0 j i (LO.mp U) b];rfl
    have b5:r+1<=lim:=by omega
    rw[iG trivial];simp only[vp,LR,NI,NH,Jf];rw[jc];simp[jc,z5,kg,LQ,e,L,a,Y,ey,as,QO _ E a,Z,b0,S,b5])
 obtain⟨γ',e1,r,B,l,Wt,o,s,f,h,rfl,Q⟩:=A;simp only[Mm,Nc,MT]at Q;refine⟨r,B,l,?_,Q.C0,Q.done⟩;have b6:zP (.nm 0) jd (zA xY<|zb (zc 1)<|zb (zc 0) zD) [Cell.no,Cell.val (.int p)] (z9 m n W)=cq (z9 m n λj i=>W j i%p):=by unfold z9;refine zw _ _ λj U=>zx rfl rfl ?_;simp[lL _ E a]
 have e0:xU [.int p,.int n,r9 J (z9 m n W)]=jo 9 (zM (jB 3<|qf<|zK (zN<|zh 2) (.nm 0) 1 [0] jd (zA xY<|zb (zc 1)<|zb (zc 0) zD))<|zM (vN 4<|kY zD)<|zM (ZI (ju<|zc 1) (.nm 5) Jf)<|VN 4) [.int p,.int n,r9 J (z9 m n W)]:=rfl;rw[e0];simp[jo,zZ,jc,L,z5,kg,LQ,b6,a,jY];rw[z7 n λi=>(i:Int),e1];simp
@[simp] noncomputable def Er:=@FS.eq_1
noncomputable def J2{C:Type}(q:Nat)(x:C)(f:Nat->C):Nat->C:=λk=>if k<q then f k else if k=q then x else f (k - 1)
noncomputable def ZN(l:UX)(r x:Nat):Nat:=((LL r).filter λk=>decide<|l k<x).length
theorem KM : ∀{r:Nat},(∀k m,k<m->m<r->l k<l m)->(∀k,k<r->l k≠x)->ZN l r x<=r/\(∀k,k<ZN l r x->l k<x)/\∀k,ZN l r x<=k->k<r->x<l k
 | 0,_,_=>⟨LW _,λk I=>absurd I (by simp[ZN]),λk _ I=>absurd I<|MH _⟩
 | r+1,hm,Uo=>by
  obtain⟨f,d,O⟩:=KM (r:=r) (x:=x) (λk m a b=>hm k m a ⋯) λk I=>Uo k ⋯;have e:ZN l (r+1) x=ZN l r x+if l r<x then 1 else 0:=by unfold ZN;rw[NT,Rv,Nf];by_cases q:l r<x<;>simp[q]
  by_cases q:l r<x
  ·rw[e,UJ q]
   have Q:ZN l r x=r:=by
    rcases Mt (ZN l r x) r with z | z
    ·have U:=O (ZN l r x) (LW _) z
     have Y:=hm (ZN l r x) r z<|NO r;omega
    ·omega
   rw[Q];refine⟨LW _,λk I=>?_,λk a b=>absurd b ⋯⟩;rcases Mt k r with z | z
   ·exact d k ⋯
   ·have:k=r:=by omega
    subst this;exact q
  ·rw[e,UY q,SK]
   refine⟨by omega,d,λk a b=>?_⟩;rcases Mt k r with z | z
   ·exact O k a z
   ·have:k=r:=by omega
    subst this;have:=Uo k b;omega
section
variable{p:Int}{n r:Nat}{B:Nat->Vc}{l:UX}{w:Vc}
structure DR(p:Int)(n r:Nat)(B:Nat->Vc)(l:UX)(w:Vc)(k:Nat)(R:Vc):Prop where
 l0 : ∀i,i<n->0<=R i/\R i<p
 Du : ∀q,q<k->R (l q)=0
 eqv : ∀G,(∀k,k<r->Span p n G (B k))->(Span p n G w↔Span p n G R)
theorem DR.next(Y:Pr p)(U:h8 p n r B l)(h:DR p n r B l w k R)(I:k<r):DR p n r B l w (k+1) (i9 p (B k) (l k) R):=by
 have a:=Y.pos;refine⟨λi _=>⟨MQ _ ⋯,MF _ a⟩,λq b=>?_,λG O=>?_⟩
 ·unfold i9
  rcases Mt q k with z | z
  ·rw[h.Du q z,U.sh k q I ⋯ ⋯];simp
  ·have:q=k:=by omega
   subst this;rw[U.one q I];simp
 ·rw[h.eqv G O]
  exact⟨λQ=>Jd (O k I) Q,λQ=>WW (O k I) Q⟩
theorem Y7(O:q<=r)(Q:k<r+1):(k=q/\J2 q x f k=x)\/∃I,I<r/\J2 q x f k=f I/\((k<q/\I=k)\/(q<k/\I+1=k)):=by
 unfold J2;rcases OD k q with z | z | z
 ·right;exact⟨k,by omega,by rw[UJ z],.inl ⟨z,rfl⟩⟩
 ·left;subst z;exact⟨rfl,by rw[UY (Nh _),UJ rfl]⟩
 ·right;exact⟨k - 1,by omega,by rw[UY ⋯,UY ⋯],.inr ⟨z,by omega⟩⟩
theorem Up:J2 q x f q=x:=by unfold J2;rw[UY (Nh _),UJ rfl]
theorem uI : ∃I,(I<q/\I=k\/q<I/\I=k+1)/\J2 q x f I=f k:=by
 rcases Mt k q with z | z
 ·exact⟨k,.inl ⟨z,rfl⟩,by unfold J2;rw[UJ z]⟩
 ·exact⟨k+1,.inr ⟨by omega,rfl⟩,by unfold J2;rw[UY ⋯,UY ⋯];rfl⟩
theorem uJ(L:Pr p)(Y:h8 p n r B l)(Z:a<n)(C:R a=1)(hz : ∀i,i<a->R i=0)(J : ∀k,k<r->R (l k)=0)(S : ∀i,i<n->0<=R i/\R i<p) :
 h8 p n (r+1) (J2 (ZN l r a) R λk=>i9 p R a<|B k) (J2 (ZN l r a) a l):=by
 have W:=L.pos;have G : ∀k,k<r->l k≠a:=λk O e=>by have:=J k O;rw[e,C]at this;omega
 obtain⟨T,X,q2⟩:=KM Y.mono G;have M : ∀(w:Vc) i,0<=i9 p R a w i/\i9 p R a w i<p:=λw i=>⟨MQ _ ⋯,MF _ W⟩;have H : ∀w:Vc,i9 p R a w a=0:=λw=>by unfold i9;rw[C,OY,Int.sub_self];simp
 have A : ∀(w:Vc) k,k<r->0<=w (l k)->w (l k)<p->i9 p R a w (l k)=w (l k):=λw k O C N=>by unfold i9;rw[J k O,xr,Int.sub_zero];exact Nn C N
 have K : ∀k j,k<r->j<l k->i9 p R a (B k) j=0:=λk j O s=>by
  unfold i9;rw[Y.mA k j O s];rcases Mt a (l k)with z | z
  ·rw[Y.mA k a O z];simp
  ·rw[hz j ⋯];simp
 have two:=L.two;have U : ∀k,k<r+1->(k=ZN l r a/\J2 (ZN l r a) R (λk=>i9 p R a<|B k) k=R/\J2 (ZN l r a) a l k=a)\/
  ∃I,I<r/\J2 (ZN l r a) R (λk=>i9 p R a<|B k) k=i9 p R a (B I)/\J2 (ZN l r a) a l k=l I/\((k<ZN l r a/\I=k)\/(ZN l r a<k/\I+1=k)):=by
  intro k O;rcases Y7 (x:=R) (f:=λk=>i9 p R a<|B k) T O with⟨b,t⟩ | ⟨I,Q,b,t⟩
  ·left;refine⟨b,t,?_⟩;subst b;exact Up
  ·right
   refine⟨I,Q,b,?_,t⟩;rcases t with⟨E,F⟩ | ⟨E,F⟩
   ·unfold J2;rw[UJ E,F]
   ·unfold J2;rw[UY ⋯,UY ⋯];congr 1;omega
 refine⟨λk O=>?_,λk m b6 u=>?_,λk O=>?_,λk j O s=>?_,λk m O u b7=>?_,λk i O P=>?_⟩
 ·rcases U k O with⟨_,_,e⟩ | ⟨I,Q,_,e,_⟩
  ·rw[e];exact Z
  ·rw[e];exact Y.lt I Q
 ·rcases U k ⋯with⟨z,_,e⟩ | ⟨I,Q,_,e,z⟩<;>rcases U m u with⟨y,_,h⟩ | ⟨g,d,_,h,y⟩<;>rw[e,h]
  ·omega
  ·exact q2 g ⋯ d
  ·exact X I ⋯
  ·exact Y.mono I g ⋯ d
 ·rcases U k O with⟨_,b,e⟩ | ⟨I,Q,b,e,_⟩<;>rw[b,e]
  ·exact C
  ·have o:=Y.one I Q
   rw[A _ I Q ⋯ ⋯];exact o
 ·rcases U k O with⟨_,b,e⟩ | ⟨I,Q,b,e,_⟩<;>rw[b]<;>rw[e]at s
  ·exact hz j s
  ·exact K I j Q s
 ·rcases U k O with⟨z,b,_⟩ | ⟨I,Q,b,_,z⟩<;>rcases U m u with⟨y,_,h⟩ | ⟨g,d,_,h,y⟩<;>rw[b,h]
  ·omega
  ·exact J g d
  ·exact H _
  ·have o:=Y.sh I g Q d ⋯
   rw[A _ g d ⋯ ⋯];exact o
 ·rcases U k O with⟨_,b,_⟩ | ⟨I,Q,b,_,_⟩<;>rw[b]
  ·exact S i P
  ·exact M _ _
theorem uK(I:q<=r)(O:Span p n G R)(Q : ∀k,k<r->Span p n G (F k)) : ∀g,ej (r+1) (J2 q R F) g->Span p n G g:=by
 rintro g ⟨k,U,rfl⟩;rcases Y7 (x:=R) (f:=F) I U with⟨_,e⟩ | ⟨Y,a,e,_⟩<;>rw[e]
 ·exact O
 ·exact Q Y a
theorem ux(O:q<=r):ej (r+1) (J2 q R F) R/\∀k,k<r->ej (r+1) (J2 q R F) (F k):=by refine⟨⟨q,by omega,Up.symm⟩,λk Q=>?_⟩;obtain⟨I,h,e⟩:=uI (q:=q) (x:=R) (f:=F) (k:=k);exact⟨I,by omega,e.symm⟩
theorem oA(S:Pr p)(L:h8 p n r B l)(J:a<n)(hs : ∀v,Span p n (ej r B) v↔Span p n (ej j W) v)(Q:DR p n r B l (W j) r R)(C:y*R a%p=1)(U : ∀i,i<n->R' i=y*R i%p)(Y:ZN l r a<=r)(v:Vc) :
 Span p n (ej (r+1)<|J2 (ZN l r a) R' λk=>i9 p R' a<|B k) v↔Span p n (ej (j+1) W) v:=by
 have w : ∀v,Span p n (ej j W) v->Span p n (ej (j+1) W) v:=λv O=>O.le λg ⟨i,b,e⟩=> .gen ⟨i,by omega,e⟩;have a0 : ∀k,k<r->Span p n (ej (j+1) W) (B k):=λk I=>w _<|(hs _).mp (.gen ⟨k,I,rfl⟩);have m:Span p n (ej (j+1) W) R:=(Q.eqv _ a0).mp (.gen ⟨j,by omega,rfl⟩);have d:Span p n (ej (j+1) W) R':=(m.smul y).congr λi b=>by rw[U i b,Mp]
 obtain⟨u,m2⟩:=ux (R:=R') (F:=λk=>i9 p R' a<|B k) Y;have f:Span p n (ej (r+1)<|J2 (ZN l r a) R' λk=>i9 p R' a<|B k) R':= .gen u;have h : ∀k,k<r->Span p n (ej (r+1)<|J2 (ZN l r a) R' λk=>i9 p R' a<|B k) (B k):=λk I=>WW (t:=a) f<|.gen<|m2 k I;have o:Span p n (ej (r+1)<|J2 (ZN l r a) R' λk=>i9 p R' a<|B k) R:=(f.smul<|R a).congr λi b=>by rw[U i b,wH,<- MW,MU (R a) y,LZ,C,OH,Mp]
 constructor
 ·exact λO=>O.le<|uK Y d λk I=>Jd d<|a0 k I
 ·refine λO=>O.le ?_
  rintro g ⟨i,b,rfl⟩;rcases Mt i j with z | z
  ·exact((hs _).mpr (.gen ⟨i,z,rfl⟩)).le λg s=>by obtain⟨k,I,e⟩:=s;rw[e];exact h k I
  ·have:i=j:=by omega
   subst this;exact(Q.eqv _ h).mpr o
theorem eJ(hs : ∀v,Span p n (ej r B) v↔Span p n (ej j W) v)(O:DR p n r B l (W j) r R)(Q : ∀i,i<n->R i=0)(v:Vc):Span p n (ej r B) v↔Span p n (ej (j+1) W) v:=by
 constructor
 ·exact λI=>((hs v).mp I).le λg ⟨i,a,e⟩=> .gen ⟨i,by omega,e⟩
 ·refine λI=>I.le ?_
  rintro g ⟨i,a,rfl⟩;rcases Mt i j with z | z
  ·exact(hs _).mpr (.gen ⟨i,z,rfl⟩)
  ·have:i=j:=by omega
   subst this;exact(O.eqv _ λk U=> .gen ⟨k,U,rfl⟩).mpr (.zero λi a=>by rw[Q i a];simp)
end
theorem iK(h w f):deep (.lst<|z9 h w f)<=2:=bh h w f
theorem nM(h w f):h9 (.lst<|z9 h w f)=cM:=gD h w f
theorem aC(h w f):jn (.lst<|z9 h w f)=cM:=Xv (iK h w f) ⋯<|nM h w f
@[simp] theorem AB(h w f):(iH h w f).length=h:=by simp[iH]
section
variable{p:Int}{n m r:Nat}{G:Vc->Prop}
theorem Span.sum{u:Nat->Vc}(c:Nat->Int) : ∀{m:Nat},(∀k,k<m->Span p n G (u k))->Span p n G λi=>zf (λk=>c k*u k i) m
 | 0,_=> .zero λi _=>by simp[zf]
 | m+1,h=>(((h m ⋯).add (Span.sum c (m:=m) λk I=>h k ⋯) (c m))).congr λi _=>by simp[zf]
noncomputable def Rk(p:Int)(n m:Nat)(W:Nat->Vc)(r:Nat):Prop:=∃B l,h8 p n r B l/\∀v,Span p n (ej r B) v↔Span p n (ej m W) v
theorem vO(Q:Pr p)(h:Rk p n m W r)(h':Rk p n m W r'):r=r':=by obtain⟨B,l,U,a⟩:=h;obtain⟨b,d,Y,O⟩:=h';exact(QH Q U Y (λv I=>(O v).mpr ((a v).mp I))<|λv I=>(a v).mpr ((O v).mp I)).1
theorem ah(I:Pr p)(O:h8 p n r B l)(C : ∀i,i<n->0<=w i/\w i<p) : ∀k,k<=r->∃R,DR p n r B l w k R
 | 0,_=>⟨w,C,λq Q=>absurd Q<|MH _,λG _=>Iff.rfl⟩
 | k+1,h=>by obtain⟨R,U⟩:=ah I O C k ⋯;exact⟨_,U.next I O ⋯⟩
theorem aV : ∀(n:Nat) (R:Vc),(∀i,i<n->R i=0)\/∃a,a<n/\R a≠0/\∀i,i<a->R i=0
 | 0,R=> .inl λi b=>absurd b<|MH _
 | n+1,R=>by
  rcases aV n R with h | ⟨a,h1,h2,I⟩
  ·by_cases e:R n=0
   ·exact .inl λi b=>by rcases Mt i n with z | z;exact h i z;rw[show i=n by omega];exact e
   ·exact .inr ⟨n,by omega,e,h⟩
  ·exact .inr ⟨a,by omega,h2,I⟩
theorem pQ(O:Pr p)(W:Nat->Vc)(C : ∀j i,0<=W j i/\W j i<p) : ∀m,∃r,r<=m/\Rk p n m W r
 | 0=>⟨0,LW _,λ_ _=>0,λ_=>0,⟨λk I=>absurd I<|MH _,λk q _ I=>absurd I<|MH _,λk I=>absurd I<|MH _,λk j I=>absurd I<|MH _,λk q I=>absurd I<|MH _,λk i I=>absurd I<|MH _⟩,
  λv=>⟨λY=>Y.le λg ⟨k,I,_⟩=>absurd I<|MH _,λY=>Y.le λg ⟨k,I,_⟩=>absurd I<|MH _⟩⟩
 | m+1=>by
  obtain⟨r,t,B,l,Q,b⟩:=pQ O W C m;have s:=O.pos;obtain⟨R,U⟩:=ah O Q (w:=W m) (λi _=>C m i) r<|LW _;rcases aV n R with h0 | ⟨a,ha,a4,a5⟩
  ·exact⟨r,by omega,B,l,Q,eJ b U h0⟩
  ·have f:=U.l0 a ha
   obtain⟨y,_,_,d⟩:=rA O (x:=R a) ⋯ f.2;have h : ∀k,k<r->l k≠a:=λk I e=>by have:=U.Du k I;rw[e]at this;exact a4 this
   exact⟨r+1,by omega,_,_,uJ O Q (R:=λi=>(y:Int)*R i%p) ha d (λi o=>by rw[a5 i o];simp) (λk I=>by rw[U.Du k I];simp) λi _=>⟨MQ _ ⋯,MF _ s⟩,
    oA O (R':=λi=>(y:Int)*R i%p) Q ha b U d (λi _=>rfl) (KM Q.mono h).1⟩
theorem JE(I:Pr p)(m:Nat)(W:Nat->Vc) : ∃r,r<=m/\Rk p n m W r:=by
 obtain⟨r,Q,B,l,U,a⟩:=pQ (n:=n) I (λj i=>W j i%p) (λj i=>⟨MQ _ (by have:=I.pos;omega),MF _ I.pos⟩) m;refine⟨r,Q,B,l,U,λv=>(a v).trans ⟨λh=>h.le λg ⟨k,O,e⟩=>?_,λh=>h.le λg ⟨k,O,e⟩=>?_⟩⟩
 ·subst e;exact(Span.gen (g:=W k) ⟨k,O,rfl⟩).congr λi _=>by rw[Mp]
 ·subst e;exact(Span.gen (g:=λi=>W k i%p) ⟨k,O,rfl⟩).congr λi _=>by rw[Mp]
theorem sY(I:Pr p)(_:n<=100)(_:m<=8)(W:Nat->Vc) : ∃r,r<=m/\Rk p n m W r:=JE I m W
theorem Bq(C:Pr p)(h:Rk p n m W r)(h':Rk p n m' W' r')(J : ∀j,j<m->Span p n (ej m' W') (W j)):r<=r':=by
 obtain⟨B,l,Q,w⟩:=h;obtain⟨A,d,U,o⟩:=h';have f : ∀k,k<r->∃q,q<r'/\d q=l k:=λk I=>Wf U ((o _).mpr (((w _).mp (.gen ⟨k,I,rfl⟩)).le λg ⟨j,u,e⟩=>e ▸ J j u)) (Q.lt k I) (by rw[Q.one k I,C.one];decide) λi t=>by rw[Q.mA k i I t];simp
 have a : ∀k,k<r->∀q,q<r'->d q=l k->k<=q:=by
  intro k
  induction k with
  | zero=>intro _ q _ _;exact MR _
  | succ k x=>
   intro I q Y e;obtain⟨O,b,s⟩:=f k ⋯;have E:=x ⋯ O b s;have F:=Q.mono k (k+1) ⋯ I;rcases Mt O q with z | z
   ·omega
   ·rcases Mt q O with y | y
    ·have:=U.mono q O y b
     omega
    ·have:q=O:=by omega
     subst this;omega
 rcases Nat.eq_zero_or_pos r with z | z
 ·omega
 ·obtain⟨q,Y,e⟩:=f (r - 1) ⋯
  have:=a (r - 1) ⋯ q Y e;omega
end
section
variable{p:Int}{n m r h w:Nat}
theorem ZT{l:UX}(h:Nat) : ∀{r:Nat},(∀k m,k<m->m<r->l k<l m)->∃s,s<=r/\(∀k,k<s->l k<h)/\∀k,s<=k->k<r->h<=l k
 | 0,_=>⟨0,LW _,λk I=>absurd I<|MH _,λk _ I=>absurd I<|MH _⟩
 | r+1,hm=>by
  obtain⟨s,b,a,O⟩:=ZT h (r:=r) λk m I Q=>hm k m I ⋯;by_cases e:l r<h
  ·refine⟨r+1,LW _,λk I=>?_,λk b a=>by omega⟩
   rcases Mt k r with z | z
   ·have:=hm k r z ⋯;omega
   ·have:k=r:=by omega
    subst this;exact e
  ·refine⟨s,by omega,a,λk I U=>?_⟩
   rcases Mt k r with z | z
   ·exact O k I z
   ·have:k=r:=by omega
    subst this;omega
theorem Wm(hs:s<=r)(C : ∀k,k<s->q k=cR)(J : ∀k,s<=k->k<r->q k=cM):(LL r).filter q=(LL<|r - s).map (s + ·):=by
 obtain⟨d,rfl⟩ : ∃d,r=s+d:=⟨r - s,by omega⟩;rw[Rw,Rv];have a:(LL s).filter q=[]:=List.filter_eq_nil_iff.mpr λk I=>by rw[C k (LO.mp I)];decide
 have O:((LL d).map (s + ·)).filter q=(LL d).map (s + ·):=List.filter_eq_self.mpr λk I=>by obtain⟨i,b,rfl⟩:=Mk.mp I;exact J _ ⋯ (by have:=LO.mp b;omega)
 rw[a,O,NM];rfl
noncomputable def yL(h:Nat)(u v:Vc):Vc:=λi=>if i<h then u i else v (i - h)
noncomputable def j5(j:Nat):Vc:=λk=>if j=k then 1 else 0
theorem ql(C:i<h):yL h u v i=u i:=UJ C
theorem qB(i:Nat):yL h u v (h+i)=v i:=by unfold yL;rw[UY ⋯,NM]
theorem ZY(h w:Nat)(u v:Vc):zH h u++zH w v=zH (h+w) (yL h u v):=by
 unfold zH;rw[Rw,Nm];congr 1
 ·exact Md λi a=>by rw[ql (LO.mp a)]
 ·rw[MB]
  exact Md λi _=>by simp only[Function.comp];rw[qB]
theorem iC(h w:Nat)(v:Vc):(zH (h+w) v).take h=zH h v:=by unfold zH;rw[<- List.map_take,List.take_range,Sg (MI h w)]
theorem iD(h w:Nat)(v:Vc):(zH (h+w) v).drop h=zH w λj=>v (h+j):=by unfold zH;rw[Rw,Nm,List.drop_append_of_le_length ⋯,RW ⋯,MB];rfl
theorem bo(h w:Nat)(v:Vc):oW (zH (h+w) v) cO (cq (h:Int))=zH h v:=by
 have c : ¬((h:Int)<0):=by omega
 have e:min h (h+w)=h:=Sg<|MI h w;simp[oW,cZ,c,e,iC]
theorem bj(h w:Nat)(v:Vc):oW (zH (h+w) v) (cq (h:Int)) cO=zH w λj=>v (h+j):=by
 have c : ¬((h:Int)<0):=by omega
 have e:min h (h+w)=h:=Sg<|MI h w;have t : ∀g:Vc,(zH w g).take w=zH w g:=λg=>PK ⋯;simp[oW,cZ,c,e,iD,t]
theorem WY(v:Vc) : ∀n,Jp (zH n v)=cq ((LL n).map λi=>v i != 0)
 | 0=>rfl
 | n+1=>by
  have b : ∀l:List Nat,Jp (l.map λi=>D.int<|v i)=cq (l.map λi=>v i != 0):=by
   intro l
   induction l with
   | nil=>rfl
   | cons a l I=>simp[Jp,EG,I]
  exact b _
theorem QR(O:h8 p (h+w) r B l)(Q:r<=lim)(hs:s<=r)(C : ∀k,k<s->l k<h)(h2 : ∀k,s<=k->k<r->h<=l k) :
 qY [.int h,.lst (z9 r (h+w) B)]=cq (.own<|z9 (r - s) w λk j=>B (s+k)<|h+j):=by
 have d:zP (.nm 0) (jX<|sB<|Av<|zR<|eP (zc 0) dr<|u0<|zc 1) (eP (zc 0) (u0<|zc 1) dr) [Cell.no,Cell.val (.int h)] (z9 r (h+w) B)=cq (((LL r).filter λk=>decide<|h<=l k).map λk=>D.tup<|zH w λj=>B k<|h+j):=by
  unfold z9;refine jx (λk=>decide<|h<=l k) _ _ λk I=>⟨_,rfl,?_,λU=>?_⟩
  ·have I:=LO.mp I
   simp[bo,WY];by_cases e:h<=l k
   ·simp[e]
    intro i f;have:=O.mA k i I ⋯;simp[this]
   ·simp[e]
    exact⟨l k,by omega,by rw[O.one k I];decide⟩
  ·simp[bj]
 rw[Wm hs (λk I=>decide_eq_false (by have:=C k I;omega)) (λk a b=>decide_eq_true<|h2 k a b)]at d;simp[qY,jo,zZ,Q,z5,kg,LQ,d];unfold z9;rfl
noncomputable def Dw(p:Int)(h w:Nat)(f:UV)(v:Vc):Prop:=∀i,i<h->zf (λj=>f i j*v j) w%p=0
theorem nD{f:UV}{v:Vc}(O:Span p (h+w) (ej w λj=>yL h (λi=>f i j)<|j5 j) v) : ∀i,i<h->v i%p=zf (λj=>f i j*v (h+j)) w%p:=by
 induction O with
 | @zero v b=>
  intro i a;rw[b i ⋯];have:zf (λj=>f i j*v (h+j)) w%p=zf (λ_=>0) w%p:=zI λj Q=>by rw[LZ,b (h+j) ⋯];simp
  rw[this,zQ];rfl
 | @step v u g c U l I Y=>
  intro i a;obtain⟨m,k,rfl⟩:=U;rw[I i ⋯,MY,Y i a,<- MY];have e:zf (λj=>f i j*v (h+j)) w%p=zf (λj=>f i j*u (h+j)+c*(f i j*j5 m j)) w%p:=zI λj Q=>by rw[LZ,I (h+j) ⋯,<- LZ];simp only[qB];rw[Pq,Of]
  rw[e,jJ,jg,zL (f:=λj=>f i j*j5 m j) k λj _ d=>by simp[j5,My d]];simp[j5,ql a]
theorem WV(O:Pr p)(w:Nat):h8 p w w j5 id where
 lt:=λk I=>I
 mono:=λk m I _=>I
 one:=λk _=>UJ rfl
 mA:=λk j _ Q=>UY (by simp only[id]at Q;omega)
 sh:=λk m _ _ U=>UY (by simp only[id];omega)
 l0:=λk i _ _=>by have:=O.two;unfold j5;split<;>omega
theorem Span.map(t:UX)(I : ∀i,i<n'->t i<n)(O : ∀g,G g->Span p n' G' λi=>g<|t i)(Q:Span p n G v):Span p n' G' λi=>v (t i):=by
 induction Q with
 | @zero v b=>exact .zero λi a=>b _<|I i a
 | @step v u g c U e Y d=>exact((O _ U).add d c).congr λi a=>Y _<|I i a
theorem yC(C:Pr p)(hh:h<=20)(hw:w<=20)(f:UV) :
 ∃q K l s,vw [.int p,jf h w f]=cq (.own<|z9 q w K)/\h8 p w q K l/\(∀v,Span p w (ej q K) v↔Dw p h w f v)/\Rk p h w (λj i=>f i j) s/\q+s=w:=by
 have hl:=jy;have S:h<=lim:=by omega
 have x:w<=lim:=by omega
 have X:h+w<=lim:=by omega
 obtain⟨r,B,l,e,O,o⟩:=xT C (show h+w<=100 by omega) x .L λj=>yL h (λi=>f i j)<|j5 j;have Z : ∀v,Span p (h+w) (ej r B) v->∀i,i<h->v i%p=zf (λj=>f i j*v (h+j)) w%p:=λv U=>nD<|(o v).mp U;have am:r<=w:=by obtain⟨r',A,E⟩:=JE C (n:=h+w) w λj=>yL h (λi=>f i j)<|j5 j;rw[vO C ⟨B,l,O,o⟩ E];exact A
 have an:w<=r:=by obtain⟨r',A,E⟩:=JE C (n:=w) r λk j=>B k<|h+j;refine Nv (Bq C (m:=w) (W:=j5) ⟨j5,id,WV C w,λv=>Iff.rfl⟩ E λj Q=>?_) A;have:=Span.map (n':=w) (G':=ej r λk j=>B k<|h+j) (λi=>h+i) (λi a=>by omega) (λg ⟨k,I,Y⟩=> .gen ⟨k,I,by rw[Y]⟩)<|(o<|yL h (λi=>f i j)<|j5 j).mpr (.gen ⟨j,Q,rfl⟩);exact this.congr λi _=>by rw[qB]
 have er:r=w:=Nat.le_antisymm am an;subst er;obtain⟨s,hs,M,b⟩:=ZT h O.mono;have eb:=QR O x hs M b;have as:h8 p r (r - s) (λk j=>B (s+k)<|h+j) (λk=>l (s+k) - h):={
  lt:=λk I=>by have:=O.lt (s+k) ⋯;have:=b (s+k) ⋯ ⋯;omega
  mono:=λk m I G=>by have:=O.mono (s+k) (s+m) ⋯ ⋯;have:=b (s+k) ⋯ ⋯;omega
  one:=λk I=>by have:=b (s+k) ⋯ ⋯;rw[show h+(l (s+k) - h)=l (s+k)by omega];exact O.one _ ⋯
  mA:=λk j I Q=>O.mA _ _ ⋯ ⋯
  sh:=λk m I G y=>by have:=b (s+m) ⋯ ⋯;rw[show h+(l (s+m) - h)=l (s+m)by omega];exact O.sh _ _ ⋯ ⋯ ⋯
  l0:=λk i I a=>O.l0 _ _ ⋯ ⋯}
 refine⟨r - s,_,_,s,?_,as,λv=>⟨λU=>?_,λU=>?_⟩,?_,by omega⟩
 ·have P:=vd f S x
  have R:=vb (n:=r) x;have J:zP (.tp [0,1]) jd (zB qD (zc 0)<|zc 1) [Cell.no,Cell.no] ((LL r).map λj=>D.tup [.tup (zH h λi=>f i j),.tup (zH r λk=>if j=k then 1 else 0)])=cq (z9 r (h+r) λj=>yL h (λi=>f i j)<|j5 j):=by unfold z9;refine zw _ _ λj Q=>zx rfl rfl ?_;simp[qD,X,ZY];rfl
  have zp:w9 (z9 r h λi j=>f j i) (z9 r r λi j=>if i=j then 1 else 0)=(LL r).map λj=>D.tup [.tup (zH h λi=>f i j),.tup (zH r λk=>if j=k then 1 else 0)]:=by unfold w9 z9;rw[Py];simp
  have c1:((h:Int)+(r:Int))=((h+r:Nat):Int):=by omega
  simp only[r9]at e;rw[<- c1]at e;unfold jf at P R ⊢;have nl : ∀T t f γ,zP T t f γ []=cq []:=λ_ _ _ _=>rfl;simp[vw,ku,jo,zZ,jc,P,R,zp,x,z5,LQ,J,nl,e,eb]
 ·intro i a
  induction U with
  | @zero v hz=>
   have:zf (λj=>f i j*v j) r%p=zf (λ_=>0) r%p:=zI λj Q=>by rw[LZ,hz j Q];simp
   rw[this,zQ];rfl
  | @step v u g c hg hu he H=>
   obtain⟨k,I,rfl⟩:=hg;have e1:zf (λj=>f i j*v j) r%p=zf (λj=>f i j*u j+c*(f i j*B (s+k) (h+j))) r%p:=zI λj Q=>by rw[LZ,he j Q,<- LZ,Pq,Of]
   have N:=Z (B<|s+k) (.gen ⟨s+k,by omega,rfl⟩) i a;have e3:B (s+k) i=0:=O.mA _ _ ⋯ (by have:=b (s+k) ⋯ ⋯;omega);rw[e3]at N;rw[e1,jJ,jg,MY,H,LZ,<- N];simp
 ·
  have b9:Span p (h+r) (ej r B) (yL h (λ_=>0) v):=by
   refine(o _).mpr ((Span.sum (u:=λj=>yL h (λi=>f i j)<|j5 j) v (m:=r) λj Q=> .gen ⟨j,Q,rfl⟩).congr λi a=>?_);rcases Mt i h with z | z
   ·simp only[ql z]
    rw[zv (g:=λj=>f i j*v j) λj _=>MU _ _,U i z];simp
   ·obtain⟨k,rfl⟩ : ∃k,i=h+k:=⟨i - h,by omega⟩
    simp only[qB];rw[zL (f:=λj=>v j*j5 j k) (i:=k) ⋯ λj _ y=>by simp[j5,y]];simp[j5]
  have co:=ZM O b9;refine(Span.sum (u:=λk j=>B (s+k)<|h+j) (λk=>yL h (λ_=>0) v<|l<|s+k) (m:=r - s) λk I=> .gen ⟨k,I,rfl⟩).congr λj Q=>?_;have:=co (h+j) ⋯;rw[qB]at this;rw[this];obtain⟨d,rfl⟩ : ∃d,r=s+d:=⟨r - s,by omega⟩;rw[NM];have sp : ∀(F:Nat->Int) (d:Nat),(∀k,k<s->F k=0)->zf F (s+d)=zf (λk=>F<|s+k) d:=by
   intro F d hF
   induction d with
   | zero=>
    show zf F s=0;rw[zv (g:=λ_=>0) hF,zQ]
   | succ d H=>rw[<- RQ];simp only[zf];rw[H]
  rw[sp _ d λk I=>by rw[ql (M k I)];simp]
 ·
  refine⟨λk i=>B k i,l,⟨λk I=>M k I,λk m I G=>O.mono k m I ⋯,λk I=>O.one k ⋯,λk j I Q=>O.mA k j ⋯ Q,λk m I G y=>O.sh k m ⋯ ⋯ y,λk i I a=>O.l0 k i ⋯ ⋯⟩,λv=>⟨λU=>U.le λg ⟨k,I,Y⟩=>?_,λU=>U.le λg ⟨j,Q,Y⟩=>?_⟩⟩
  ·subst Y
   exact Span.map (n':=h) (G':=ej r λj i=>f i j) (λi=>i) (λi a=>by omega) (λg ⟨j,Q,Y⟩=>(Span.gen (g:=λi=>f i j) ⟨j,Q,rfl⟩).congr λi a=>by rw[Y];simp only[ql a])<|(o<|B k).mp (.gen ⟨k,by omega,rfl⟩)
  ·subst Y
   have:=Span.map (n':=h) (G':=ej s λk i=>B k i) (λi=>i) (λi a=>by omega) (λg hZ=>by
    obtain⟨k,I,Y⟩:=hZ;subst Y;rcases Mt k s with z | z
    ·exact .gen ⟨k,z,rfl⟩
    ·exact .zero λi a=>by rw[O.mA k i I (by have:=b k z I;omega)];simp) ((o<|yL h (λi=>f i j)<|j5 j).mpr (.gen ⟨j,Q,rfl⟩))
   exact this.congr λi a=>by rw[ql a]
end
section
variable{p:Int}{h w q r:Nat}
noncomputable def app(f:UV)(w:Nat)(v:Vc):Vc:=λi=>zf (λj=>f i j*v j) w
theorem WB(I : ∀j,j<w->v j%p=(u j+c*g j)%p)(i:Nat):app f w v i%p=(app f w u i+c*app f w g i)%p:=by
 unfold app;have e:zf (λj=>f i j*v j) w%p=zf (λj=>f i j*u j+c*(f i j*g j)) w%p:=zI λj O=>by rw[LZ,I j O,<- LZ,Pq,Of]
 rw[e,jJ,jg]
theorem Ji(hz : ∀j,j<w->v j%p=0)(i:Nat):app f w v i%p=0:=by
 unfold app;have:zf (λj=>f i j*v j) w%p=zf (λ_=>0) w%p:=zI λj I=>by rw[LZ,hz j I];simp
 rw[this,zQ];rfl
theorem jP(I : ∀j,j<w->v j%p=u j%p)(i:Nat):app f w v i%p=app f w u i%p:=by unfold app;exact zI λj O=>by rw[LZ,I j O,<- LZ]
theorem bK(O:h8 p (h+w) r B l)(hs:s<=r)(J : ∀k,k<s->l k<h)(C : ∀k,s<=k->k<r->h<=l k) :
 h8 p w (r - s) (λk j=>B (s+k)<|h+j) (λk=>l (s+k) - h)/\∀v,Span p w (ej (r - s) λk j=>B (s+k)<|h+j) v↔Span p (h+w) (ej r B) (yL h (λ_=>0) v):=by
 refine⟨{
  lt:=λk I=>by have:=O.lt (s+k) ⋯;have:=C (s+k) ⋯ ⋯;omega
  mono:=λk m I Y=>by have:=O.mono (s+k) (s+m) ⋯ ⋯;have:=C (s+k) ⋯ ⋯;omega
  one:=λk I=>by have:=C (s+k) ⋯ ⋯;rw[show h+(l (s+k) - h)=l (s+k)by omega];exact O.one _ ⋯
  mA:=λk j I o=>O.mA _ _ ⋯ ⋯
  sh:=λk m I Y y=>by have:=C (s+m) ⋯ ⋯;rw[show h+(l (s+m) - h)=l (s+m)by omega];exact O.sh _ _ ⋯ ⋯ ⋯
  l0:=λk i I a=>O.l0 _ _ ⋯ ⋯},λv=>⟨λQ=>?_,λQ=>?_⟩⟩
 ·induction Q with
  | @zero v t=>
   refine .zero λi a=>?_;rcases Mt i h with z | z
   ·rw[ql z];simp
   ·obtain⟨k,rfl⟩ : ∃k,i=h+k:=⟨i - h,by omega⟩
    rw[qB];exact t k ⋯
  | @step v u g c n A f U=>
   obtain⟨k,I,rfl⟩:=n;refine .step (g:=B<|s+k) (c:=c) ⟨s+k,by omega,rfl⟩ U λi a=>?_;rcases Mt i h with z | z
   ·rw[ql z,ql z,O.mA (s+k) i ⋯ (by have:=C (s+k) ⋯ ⋯;omega)];simp
   ·obtain⟨j,rfl⟩ : ∃k,i=h+k:=⟨i - h,by omega⟩
    rw[qB,qB];exact f j ⋯
 ·have b:=ZM O Q
  refine(Span.sum (u:=λk j=>B (s+k)<|h+j) (λk=>yL h (λ_=>0) v<|l<|s+k) (m:=r - s) λk I=> .gen ⟨k,I,rfl⟩).congr λj o=>?_;have:=b (h+j) ⋯;rw[qB]at this;rw[this];obtain⟨d,rfl⟩ : ∃d,r=s+d:=⟨r - s,by omega⟩;rw[NM];have x : ∀(F:Nat->Int) (d:Nat),(∀k,k<s->F k=0)->zf F (s+d)=zf (λk=>F<|s+k) d:=by
   intro F d e
   induction d with
   | zero=>
    show zf F s=0;rw[zv (g:=λ_=>0) e,zQ]
   | succ d U=>rw[<- RQ];simp only[zf];rw[U]
  rw[x _ d λk I=>by rw[ql (J k I)];simp]
end
section
variable{p:Int}{h w q:Nat}
noncomputable def xl(h w:Nat)(f:UV)(g:Nat->Vc):Nat->Vc:=λm=>if m<w then yL h (λi=>f i m) (j5 m)else yL h (g<|m - w) (λ_=>0)
theorem iF(f:UV)(g:Nat->Vc):z9 w (h+w) (λj=>yL h (λi=>f i j)<|j5 j)++z9 q (h+w) (λk=>yL h (g k) λ_=>0)=z9 (w+q) (h+w) (xl h w f g):=by
 unfold z9;rw[Rw,Nm,MB];congr 1
 ·refine Md λm I=>?_
  unfold xl;rw[UJ (LO.mp I)]
 ·refine Md λm I=>?_
  simp only[Function.comp];unfold xl;rw[UY ⋯,NM]
theorem wW(f:UV)(I:j<w)(i:Nat):app f w (j5 j) i=f i j:=by unfold app;rw[zL (f:=λk=>f i k*j5 j k) I λk _ O=>by simp[j5,My O]];simp[j5]
theorem gp(hz:Span p (h+w) (ej (w+q)<|xl h w f g) z):Span p h (ej q g) λi=>z i - app f w (λj=>z<|h+j) i:=by
 induction hz with
 | @zero z hz=>
  refine .zero λi a=>?_;rw[NY,hz i ⋯,Ji (p:=p) (λj Y=>hz (h+j) ⋯) i];simp
 | @step z u k c e n Q U=>
  obtain⟨m,l,rfl⟩:=e;have d:=λi=>WB (p:=p) (w:=w) (f:=f) (u:=λj=>u<|h+j) (g:=λj=>xl h w f g m<|h+j) (v:=λj=>z<|h+j) (c:=c) (λj Y=>Q (h+j) ⋯) i;have b : ∀i,i<h->(z i - app f w (λj=>z<|h+j) i)%p=((u i - app f w (λj=>u<|h+j) i)+c*(xl h w f g m i - app f w (λj=>xl h w f g m<|h+j) i))%p:=λi a=>by rw[NY,Q i ⋯,d i,<- NY];congr 1;rw[Int.mul_sub];omega
  rcases Mt m w with I | I
  ·refine U.congr λi a=>?_
   rw[b i a];have t:app f w (λj=>xl h w f g m<|h+j) i=f i m:=by
    have:(λj=>xl h w f g m<|h+j)=j5 m:=by funext j;unfold xl;rw[UJ I,qB]
    rw[this,wW f I]
   have O:xl h w f g m i=f i m:=by unfold xl;rw[UJ I,ql a]
   rw[t,O];simp
  ·refine .step (g:=g<|m - w) (c:=c) ⟨m - w,by omega,rfl⟩ U λi a=>?_
   rw[b i a];have t:app f w (λj=>xl h w f g m<|h+j) i=0:=by
    have:(λj=>xl h w f g m<|h+j)=λ_=>0:=by funext j;unfold xl;rw[UY ⋯,qB]
    rw[this];unfold app;simp[zQ]
   have O:xl h w f g m i=g (m - w) i:=by unfold xl;rw[UY ⋯,ql a]
   rw[t,O];simp
theorem uS(I:Span p h (ej q g) y):Span p (h+w) (ej (w+q)<|xl h w f g) (yL h y λ_=>0):=by
 induction I with
 | @zero y b=>
  refine .zero λi a=>?_;rcases Mt i h with z | z
  ·rw[ql z];exact b i z
  ·obtain⟨k,rfl⟩ : ∃k,i=h+k:=⟨i - h,by omega⟩
   rw[qB];simp
 | @step y u d c O Y Q U=>
  obtain⟨k,l,rfl⟩:=O;refine .step (g:=xl h w f g<|w+k) (c:=c) ⟨w+k,by omega,rfl⟩ U λi a=>?_;have e:xl h w f g (w+k)=yL h (g k) λ_=>0:=by unfold xl;rw[UY ⋯,NM]
  rw[e];rcases Mt i h with z | z
  ·rw[ql z,ql z,ql z];exact Q i z
  ·obtain⟨j,rfl⟩ : ∃k,i=h+k:=⟨i - h,by omega⟩
   rw[qB,qB,qB];simp
theorem KZ(hp:Pr p)(hh:h<=20)(hw:w<=20)(hq:q<=100)(f:UV)(g:Nat->Vc) :
 ∃r B l,ku [.int p,jf h w f,.lst (z9 q h g)]=cq (.own<|z9 r w B)/\h8 p w r B l/\∀v,Span p w (ej r B) v↔Span p h (ej q g) (app f w v):=by
 have hl:=jy;have S:h<=lim:=by omega
 have I:w<=lim:=by omega
 have Q:h+w<=lim:=by omega
 have W:q<=lim:=by omega
 have U:w+q<=lim:=by omega
 obtain⟨r,B,l,e,O,E⟩:=xT hp (show h+w<=100 by omega) U .L<|xl h w f g;have X:r<=h+w:=V8 O.mono O.lt;obtain⟨s,t,y,A⟩:=ZT h O.mono;have J:=QR O ⋯ t y A;obtain⟨F,P⟩:=bK O t y A;refine⟨r - s,_,_,?_,F,λv=>(P v).trans ((E _).trans ⟨λY=>?_,λY=>?_⟩)⟩
 ·have x:=vd f S I
  have C:=vb (n:=w) I;have d:zP (.tp [0,1]) jd (zB qD (zc 0)<|zc 1) [Cell.no,Cell.no] ((LL w).map λj=>D.tup [.tup (zH h λi=>f i j),.tup (zH w λk=>if j=k then 1 else 0)])=cq (z9 w (h+w) λj=>yL h (λi=>f i j)<|j5 j):=by unfold z9;refine zw _ _ λj o=>zx rfl rfl ?_;simp[qD,Q,ZY];rfl
  have R:w9 (z9 w h λi j=>f j i) (z9 w w λi j=>if i=j then 1 else 0)=(LL w).map λj=>D.tup [.tup (zH h λi=>f i j),.tup (zH w λk=>if j=k then 1 else 0)]:=by unfold w9 z9;rw[Py];simp
  have H:inR (w:Int)=cM:=ia I;have zr:kX (.tup [.int 0]) (.int w)=cq (.tup<|zH w λ_=>0):=by
   show(if [D.int 0].length*(w:Int).toNat<=lim/\inR (w:Int)=cM then cq (D.tup (LQ (w:Int).toNat [D.int 0]).flatten)else cO)=_;rw[UJ ⟨by simpa using I,H⟩];congr 2;rw[NF];clear d R C x J F P E O e H U Q I hw hq y A t X
   induction w with
   | zero=>rfl
   | succ w ih=>rw[List.replicate_succ',List.flatten_append,ih];unfold zH;rw[NT,Nm];rfl
  have K:zP (.nm 0) jd (zB qD (zc 0)<|zB kX (xk<|zb (zu<|.int 0) zD)<|di (zh 1)<|zu<|.int 1) [Cell.no,Cell.val (jf h w f)] (z9 q h g)=cq (z9 q (h+w) λk=>yL h (g k) λ_=>0):=by unfold z9;refine zw _ _ λk N=>zx rfl rfl ?_;have sq:jR (jf h w f)=cq (.T,[.int h,.int w,.tup (z9 h w f)]):=rfl;simp[sq,zr,qD,Q,ZY]
  have c1:((h:Int)+(w:Int))=((h+w:Nat):Int):=by omega
  simp only[r9]at e;rw[<- c1,<- iF]at e;have sq:jR (jf h w f)=cq (.T,[.int h,.int w,.tup (z9 h w f)]):=rfl;unfold jf at x C K ⊢;simp[ku,jo,zZ,jc,x,C,R,I,W,U,z5,kg,LQ,d,K,e,J]
 ·have:=gp Y
  refine(this.smul (-1)).congr λi M=>?_;congr 1;show app f w v i = -1*(yL h (λ_=>0) v i - app f w (λj=>yL h (λ_=>0) v<|h+j) i);rw[ql M,show(λj=>yL h (λ_=>0) v<|h+j)=v from funext λj=>qB j];omega
 ·have a:=Span.sum (p:=p) (n:=h+w) (G:=ej (w+q)<|xl h w f g) (u:=λj=>xl h w f g j) v (m:=w) λj o=> .gen ⟨j,by omega,rfl⟩
  have b:=uS (w:=w) (f:=f) Y;refine(b.add a (-1)).congr λi M=>?_;congr 1;rcases Mt i h with z | z
  ·rw[ql z,ql z]
   have:zf (λk=>v k*xl h w f g k i) w=app f w v i:=by unfold app;exact zv λk N=>by unfold xl;rw[UJ N,ql z,MU]
   rw[this];omega
  ·obtain⟨k,rfl⟩ : ∃k,i=h+k:=⟨i - h,by omega⟩
   rw[qB,qB];have:zf (λj=>v j*xl h w f g j (h+k)) w=v k:=by rw[zL (f:=λj=>v j*xl h w f g j (h+k)) (i:=k) ⋯ λj o Z=>by unfold xl;rw[UJ o,qB];simp[j5,Z]];unfold xl;rw[UJ (show k<w by omega),qB];simp[j5]
   rw[this];simp
end
noncomputable def h6(i j:Nat):Int:=if i=j then 1 else 0
noncomputable def ZO(p:Int)(n:Nat)(f g:UV):Prop:=∀i j,i<n->j<n->zf (λk=>f i k*g k j) n%p=h6 i j%p
theorem kH{p x y X Y:Int}(C:x%p=X%p)(I:y%p=Y%p):(x*y)%p=(X*Y)%p:=by rw[LZ,C,I,<- LZ]
section
variable{p:Int}{n:Nat}{f g f' g':UV}
theorem bC{a b:Int}{u:Nat}(U:a*b%p=1%p)(C:ZO p n f g)(Y : ∀i k,i<n->k<n->f' i k%p=((if i=u then a else 1)*f i k)%p)(J : ∀k j,k<n->j<n->g' k j%p=((if j=u then b else 1)*g k j)%p):ZO p n f' g':=by
 intro i j d I;rw[zI (g:=λk=>((if i=u then a else 1)*(if j=u then b else 1))*(f i k*g k j)) λk O=>by rw[kH (Y i k d O) (J k j O I)];congr 1;rw[MW,MW];congr 1;rw[Of],jg,LZ,C i j d I,<- LZ]
 unfold h6;by_cases e:i=j
 ·subst e
  by_cases Q:i=u
  ·simp only[UJ Q,if_true,OY];exact U
  ·simp only[UY Q,if_true];rfl
 ·simp only[UY e,xr]
theorem VF{a b:Int}{u:Nat}(U:b*a%p=1%p)(C:ZO p n g f)(Y : ∀i k,i<n->k<n->f' i k%p=((if i=u then a else 1)*f i k)%p)(J : ∀k j,k<n->j<n->g' k j%p=((if j=u then b else 1)*g k j)%p):ZO p n g' f':=by
 intro i j d I;rw[<- C i j d I];refine zI λk O=>?_;rw[kH (J i k d O) (Y k j O I)];by_cases Q:k=u
 ·simp only[UJ Q]
  rw[show b*g i k*(a*f k j)=(b*a)*(g i k*f k j)by rw[MW,MW];congr 1;rw[Of],LZ,U,<- LZ,OH]
 ·simp only[UY Q,OH]
theorem mi{t:Int}{u o:Nat}(hu:u<n)(Z:o<n)(J:u≠o)(C:ZO p n f g)(L : ∀i k,i<n->k<n->f' i k%p=(f i k+(if i=u then t else 0)*f o k)%p)(hg : ∀k j,k<n->j<n->g' k j%p=(g k j+(if j=o then -t else 0)*g k u)%p):ZO p n f' g':=by
 intro i j m O;generalize ea:(if i=u then t else 0)=a at L;have s : ∀k,k<n->f' i k%p=(f i k+(if i=u then t else 0)*f o k)%p:=λk I=>by have:=L i k m I;exact this
 rw[zI (g:=λk=>f i k*g k j+(if j=o then -t else 0)*(f i k*g k u)+((if i=u then t else 0)*(f o k*g k j)+((if i=u then t else 0)*(if j=o then -t else 0))*(f o k*g k u))) λk I=>by
  rw[kH (s k I) (hg k j I O)];congr 1;generalize (if i=u then t else 0)=a;generalize (if j=o then -t else 0)=b;rw[RU,Pq,Pq];congr 1
  ·congr 1;rw[Of]
  ·congr 1
   ·rw[MW]
   ·rw[MW,MW];congr 1;rw[Of]]
 rw[jJ,jJ,jJ,jg,jg,jg];have z:=C i j m O;have A:=C i u m hu;have B:=C o j Z O;have E:=C o u Z hu;have Q : ∀c S d:Int,S%p=d%p->(c*S)%p=(c*d)%p:=λc S d h=>kH rfl h;have ad : ∀x y X Y:Int,x%p=X%p->y%p=Y%p->(x+y)%p=(X+Y)%p:=λx y X Y a b=>by rw[MY,a,b,<- MY]
 rw[ad _ _ _ _ (ad _ _ _ _ z<|Q _ _ _ A) (ad _ _ _ _ (Q _ _ _ B)<|Q _ _ _ E)];congr 1;unfold h6;have r : ¬o=u:=λe=>J e.symm;by_cases l:i=u
 ·by_cases U:j=o
  ·subst l U;simp[J,r];omega
  ·have w : ¬o=j:=λe=>U e.symm
   simp[l,U,w,r]
 ·simp[l]
theorem dH{t:Int}{u o:Nat}(U:u<n)(Y:o<n)(C:u≠o)(J:ZO p n g f)(L : ∀i k,i<n->k<n->f' i k%p=(f i k+(if i=u then t else 0)*f o k)%p)(S : ∀k j,k<n->j<n->g' k j%p=(g k j+(if j=o then -t else 0)*g k u)%p):ZO p n g' f':=by
 intro i j b Q;rw[<- J i j b Q];rw[zI (g:=λk=>g i k*f k j+((if k=u then t*(g i u*f o j)else 0)+(if k=o then -t*(g i u*f o j)else 0))) λk I=>by
  rw[kH (S i k b I) (L k j I Q)];congr 1;by_cases a:k=u
  ·subst a
   have O : ¬k=o:=C;simp only[UY O,if_true,OX,OZ,Pq];rw[Of]
  ·by_cases O:k=o
   ·subst O
    simp only[UY a,if_true,OX,OZ,Int.zero_add,RU];rw[MW]
   ·simp only[UY a,UY O,OX,OZ]]
 rw[jJ,jJ,zL (f:=λk=>if k=u then t*(g i u*f o j)else 0) U λk _ I=>UY I,zL (f:=λk=>if k=o then -t*(g i u*f o j)else 0) Y λk _ I=>UY I];simp only[if_true];congr 1;rw[Int.neg_mul];omega
end
noncomputable def jQ(n:Nat)(f:UV):List D:=(LL n).map λi=>D.lst<|zH n<|f i
noncomputable def qE(n:Nat)(f:UV):List (List D):=(LL n).map λi=>zH n<|f i
theorem fw(n f):(qE n f).map D.lst=jQ n f:=by simp[qE,jQ]
@[simp] theorem fz(n f):(jQ n f).length=n:=by simp[jQ]
@[simp] theorem EN(f)(C:i<(jQ n f).length):(jQ n f)[i] = .lst (zH n<|f i):=by simp[jQ]
@[simp] theorem Az(r):kg (.nest r) = .no:=rfl
@[simp] theorem Cs(r):kg (.own r) = .no:=rfl
@[simp] theorem Cr(d):kg (.val d) = .val d:=rfl
@[simp] theorem EW:kg .no = .no:=rfl
theorem QC(L:a<n)(v I:Vc)(x:Int)(C:I a=x)(J : ∀i,i<n->i≠a->I i=v i):(zH n v).set a (.int x)=zH n I:=by
 apply NK;intro i;rw[Oy];by_cases b:i<n
 ·by_cases e:a=i
  ·subst e;simp[L,zH,C]
  ·have:=J i b (My e)
   simp[e,zH,b,this]
 ·have O:(zH n v)[i]? = cO:=by simp[zH];omega
  have d:(zH n I)[i]? = cO:=by simp[zH];omega
  rw[O,d,UY ⋯]
theorem Yx(O:u<n)(f C:UV)(v:Vc)(J : ∀j,j<n->C u j=v j)(L : ∀i j,i<n->i≠u->j<n->C i j=f i j):(jQ n f).set u (.lst<|zH n v)=jQ n C:=by
 apply NK;intro i;rw[Oy];by_cases a:i<n
 ·by_cases e:u=i
  ·subst e;simp[O,jQ];exact kj λj I=>(J j I).symm
  ·simp[e,jQ,a];exact kj λj I=>(L i j a (My e) I).symm
 ·have Q:(jQ n f)[i]? = cO:=by simp[jQ];omega
  have b:(jQ n C)[i]? = cO:=by simp[jQ];omega
  rw[Q,b,UY ⋯]
theorem Zq : ∀(l:List Nat),(∀k∈l,∃d C m,fx (yG γ j i<|R k)=cq d/\gx (yG γ j i<|R k)=cq (.int C)/\i3 (R k).length C=cq m/\(R k).set m d=R' k)->ki j i gx fx γ (l.map R)=cq (l.map R')
 | [],_=>rfl
 | k::l,h=>by obtain⟨d,C,m,a,b,I,O⟩:=h k Mh;have Q:=Zq l λx e=>h x<|Mg _ e;simp[ki,a,b,I,O,Q]
theorem Vj : ∀(l:List Nat),(∀k∈l,∃γ1,xG T (g k) γ=cq γ1/\f γ1=cq (R k))->vU T f γ (l.map g)=cq (l.map R)
 | [],_=>rfl
 | k::l,h=>by obtain⟨γ1,a,b⟩:=h k Mh;have I:=Vj l λx d=>h x<|Mg _ d;simp[vU,a,b,I]
section
variable{p:Int}{n:Nat}
structure Pair(p:Int)(n:Nat)(f g:UV):Prop where
 bf : ∀i j,i<n->j<n->0<=f i j/\f i j<p
 bg : ∀i j,i<n->j<n->0<=g i j/\g i j<p
 fg:ZO p n f g
 gf:ZO p n g f
end
@[simp] theorem Bo(n f):(qE n f).length=n:=by simp[qE]
noncomputable def zS(w:UK)(k:Nat):Nat:=if w k then k+1 else k
noncomputable def z6(w:UK)(k:Nat):Nat:=if w k then k else k+1
theorem wN(w:UK)(wd:UX)(k):gm w wd k=wd (z6 w k):=by unfold gm z6;split<;>rfl
theorem wa(w:UK)(wd:UX)(k):f7 w wd k=wd (zS w k):=by unfold f7 zS;split<;>rfl
theorem QG(w:UK)(h:k<m):zS w k<m+1:=by unfold zS;split<;>omega
theorem KF(w:UK)(h:k<m):z6 w k<m+1:=by unfold z6;split<;>omega
theorem Xh(w:UK)(k:Nat):qw [.int k,.str (qA<|ft<|w k)]=cq (.val<|.int (zS w k:Nat)):=by have q:=Zr<|w k;cases h:w k<;>rw[h]at q<;>simp[qw,jo,zZ,zS,q,h]
theorem pF(w:UK)(k:Nat):vx [.int k,.str (qA<|ft<|w k)]=cq (.val<|.int (z6 w k:Nat)):=by have q:=Zr<|w k;cases h:w k<;>rw[h]at q<;>simp[vx,jo,zZ,z6,q,h]
noncomputable def xj(m:Nat)(wd:UX)(f:UW):List D:=(LL m).map λk=>jf (wd k) (wd k)<|f k
@[simp] theorem dX(m wd f):(xj m wd f).length=m:=by simp[xj]
@[simp] theorem EH(wd f)(h:k<(xj m wd f).length):(xj m wd f)[k]=jf (wd k) (wd k) (f k):=by simp[xj]
noncomputable def jl(p:Int)(w:UK)(wd:UX)(f g T:UW)(k i j:Nat):Int:=
 zf (λb=>g (zS w k) b j*(zf (λa=>T k a b*f (z6 w k) i a) (wd<|z6 w k)%p)) (wd<|zS w k)%p
section
variable{p:Int}{m:Nat}{w:UK}{wd:UX}{f g T:UW}
theorem XO(m:Nat)(F:Nat->D):qv ((LL m).map F)=(LL m).map λ(k:Nat)=>D.tup [.int k,F k]:=by unfold qv;rw[Mm,Nc];apply Md;intro k I;have I:=LO.mp I;simp[I]
theorem VG(k i j:Nat):zf (λa=>f (z6 w k) i a*(zf (λb=>T k a b*g (zS w k) b j) (wd<|zS w k)%p)) (wd<|z6 w k)%p=jl p w wd f g T k i j:=by unfold jl;rw[Jq];refine congrArg (· % p)<|zv λb _=>?_;rw[MU,zv (g:=λa=>T k a b*f (z6 w k) i a) λa _=>MU _ _]
end
structure eA where
 s:Nat
 n:Nat
 v:Nat->Vc
noncomputable def eA.has(b:eA)(r:Nat):Bool:=decide (b.s<=r) && decide (r<b.s+b.n)
theorem i6{b:eA}{r:Nat}:b.has r=cM↔b.s<=r/\r<b.s+b.n:=by simp[eA.has]
noncomputable def lR:eA:=⟨0,0,λ_ _=>0⟩
structure n6(p:Int)(w:UK)(wd:UX)(T:UW)(k:Nat)(b:eA):Prop where
 n1:1<=b.n
 le:b.s+b.n<=k+1
 l0 : ∀r i,b.has r=cM->i<wd r->0<=b.v r i/\b.v r i<p
 arr : ∀j,j<k->b.has (zS w j)=cM->∀i,i<wd (z6 w j)->app (T j) (wd<|zS w j) (b.v<|zS w j) i%p=(if b.has (z6 w j)=cM then b.v (z6 w j) i else 0)%p
noncomputable def Ord(w:UK)(a b:eA):Prop:=(a.s<b.s->w (b.s - 1)=cM)/\(b.s<a.s->w (a.s - 1)=cR)
noncomputable def Iy(C:List eA)(r:Nat):Vc->Prop:=λg=>∃b,b∈C/\b.has r=cM/\g=b.v r
noncomputable def o3(p:Int)(A:Nat->eA)(N:Nat)(t:Vc)(r:Nat):Vc:=λc=>zf (λj=>if (A j).has r=cM then t j*(A j).v r c else 0) N%p
noncomputable def D0(p:Int)(A:Nat->eA)(N:Nat)(t:Vc)(i:Nat):eA:=⟨(A i).s,(A i).n,o3 p A N t⟩
section
variable{p:Int}{w:UK}{wd:UX}{T:UW}{k N:Nat}{A:Nat->eA}
theorem yA(f:UV)(h:Nat)(t:Vc)(u:Nat->Vc)(n:Nat)(i:Nat):app f h (λc=>zf (λj=>t j*u j c) n) i=zf (λj=>t j*app f h (u j) i) n:=by
 unfold app;have e:zf (λj=>f i j*zf (λk=>t k*u k j) n) h=zf (λj=>zf (λk=>t k*(f i j*u k j)) n) h:=zv λj _=>by rw[<- jg];exact zv λk _=>by rw[<- MW,<- MW,MU (f i j)]
 rw[e,qh];exact zv λj _=>jg ..
theorem uF(c:Prop) [Decidable c](x y:Int):(if c then x*y else 0)=x*(if c then y else 0):=by split<;>simp
theorem lx(f:UV)(h r:Nat)(t:Vc)(i:Nat):app f h (o3 p A N t r) i%p=zf (λj=>t j*(if (A j).has r=cM then app f h ((A j).v r) i else 0)) N%p:=by
 have e:app f h (o3 p A N t r) i%p=app f h (λc=>zf (λj=>t j*(if (A j).has r=cM then (A j).v r c else 0)) N) i%p:=jP (λc _=>by unfold o3;rw[Mp];congr 1;exact zv λj _=>uF ..) i
 rw[e,yA];congr 1;refine zv λj _=>?_;congr 1;by_cases I:(A j).has r=cM
 ·simp only[UJ I]
 ·simp only[UY I]
  unfold app;simp[zQ]
theorem Cu(S:0<p)(C : ∀j,j<N->n6 p w wd T k (A j))(hk : ∀j,j<N->(A j).has k=cM){t:Vc}{i:Nat}(J:i<N)(L : ∀c,i<c->c<N->Ord w (A i) (A c))(tz : ∀c,c<i->t c=0) :
 n6 p w wd T k (D0 p A N t i):=by
 refine⟨(C i J).n1,(C i J).le,λr c _ _=>⟨MQ _ ⋯,MF _ S⟩,λj h O c g=>?_⟩;have O:(A i).has (zS w j)=cM:=O;show app (T j) (wd<|zS w j) (o3 p A N t<|zS w j) c%p=(if (A i).has (z6 w j)=cM then o3 p A N t (z6 w j) c else 0)%p;rw[lx];have f : ∀I,I<N->t I≠0->((A i).has (z6 w j)=cM->(A I).has (z6 w j)=cM->(A I).has (zS w j)=cM)/\((A i).has (z6 w j)=cR->(A I).has (zS w j)=cM->(A I).has (z6 w j)=cR):=λI Q b=>by
  have x:=i6.mp<|hk i J;have y:=i6.mp<|hk I Q;have U:i<=I:=Nat.not_lt.mp λz=>b<|tz I z;rcases Nat.lt_or_eq_of_le U with U | U
  ·obtain⟨o,u⟩:=L I U Q
   have O:=i6.mp O;cases hw:w j with
   | false=>
    have Y:zS w j=j:=by unfold zS;rw[hw];rfl
    have d:z6 w j=j+1:=by unfold z6;rw[hw];rfl
    rw[Y]at O;rw[Y,d];refine⟨λ_ q=>i6.mpr ?_,λq _=>?_⟩
    ·have q:=i6.mp q
     refine⟨Nat.not_lt.mp λz=>?_,by omega⟩;have e:(A I).s=j+1:=by omega
     have:=o ⋯;rw[e]at this;simp[hw]at this
    ·exfalso
     have:(A i).has (j+1)=cM:=i6.mpr ⋯;rw[this]at q;cases q
   | true=>
    have Y:zS w j=j+1:=by unfold zS;rw[hw];rfl
    have d:z6 w j=j:=by unfold z6;rw[hw];rfl
    rw[Y]at O;rw[Y,d];refine⟨λ_ q=>i6.mpr ?_,λq _=>?_⟩
    ·have q:=i6.mp q
     omega
    ·cases a:(A I).has j with
     | false=>rfl
     | true=>
      exfalso;have a:=i6.mp a;have e:(A i).s=j+1:=by
       have : ¬((A i).s<=j):=λz=>by have:(A i).has j=cM:=i6.mpr ⋯;rw[this]at q;cases q
       omega
      have:=u ⋯;rw[e]at this;simp[hw]at this
  ·subst U
   exact⟨λ_ _=>O,λq _=>q⟩
 have l:zf (λI=>t I*(if (A I).has (zS w j)=cM then app (T j) (wd<|zS w j) ((A I).v (zS w j)) c else 0)) N%p
  = zf (λI=>if (A i).has (z6 w j)=cM then (if (A I).has (z6 w j)=cM then t I*(A I).v (z6 w j) c else 0)else 0) N%p:=zI λI Q=>by
  by_cases b:t I=0
  ·simp[b]
  obtain⟨m,n⟩:=f I Q b;cases a:(A i).has (z6 w j)with
  | false=>
   cases hy:(A I).has (zS w j)with
   | false=>simp
   | true=>
    have q:=(C I Q).arr j h hy c g;rw[n a hy]at q;simp only[if_true];rw[LZ,q];simp
  | true=>
   cases hy:(A I).has (zS w j)with
   | false=>
    cases hz:(A I).has (z6 w j)with
    | false=>simp
    | true=>rw[m a hz]at hy;cases hy
   | true=>
    have q:=(C I Q).arr j h hy c g;simp only[if_true];rw[LZ,q,<- LZ];congr 1;cases hz:(A I).has (z6 w j)<;>simp
 rw[l];cases a:(A i).has (z6 w j)with
 | false=>simp[zQ]
 | true=>
  simp only[if_true];unfold o3;rw[Mp]
theorem nV{G':Vc->Prop}{r n:Nat}{A':Nat->eA}(t:Nat->Vc)(Y : ∀i,i<N->t i i=1)(hz : ∀i c,i<N->c<i->t i c=0)
 (C : ∀i,i<N->(A i).has r=cM->Span p n G' ((A' i).v r)) (J : ∀i,i<N->(A i).has r=cM->∀c,c<n->(A' i).v r c%p=o3 p A N (t i) r c%p) :
 ∀i,i<N->(A i).has r=cM->Span p n G' ((A i).v r):=by
 have f : ∀d i,N - i<=d->i<N->(A i).has r=cM->Span p n G' ((A i).v r):=by
  intro d
  induction d with
  | zero=>intro i e a;omega
  | succ d w=>
   intro i e a O;have u:Span p n G' λc=>zf (λj=>(if j=i then 0 else if (A j).has r=cM then t i j else 0)*(A j).v r c) N:=by
    have gen : ∀M,M<=N->Span p n G' λc=>zf (λj=>(if j=i then 0 else if (A j).has r=cM then t i j else 0)*(A j).v r c) M:=by
     intro M
     induction M with
     | zero=>intro _;exact .zero λc _=>by simp[zf]
     | succ M g=>
      intro x;have q:=g ⋯;by_cases I:M=i\/¬((A M).has r=cM)\/M<i
      ·refine q.congr λc _=>?_
       show(zf _ M+_)%p=_;rcases I with I | I | I
       ·simp[I]
       ·simp[I]
       ·have z:=hz i M a I;simp only[z];simp
      ·have h:M≠i/\(A M).has r=cM/\¬M<i:=by
        refine⟨λz=>I<|.inl z,?_,λz=>I<|.inr<|.inr z⟩;cases b:(A M).has r with
        | true=>rfl
        | false=>exact absurd (.inr<|.inl<|by rw[b];decide) I
       exact((w M ⋯ ⋯ h.2.1).add q (if M=i then 0 else if (A M).has r=cM then t i M else 0)).congr λc _=>rfl
    exact gen N<|LW _
   have o:=u.add (C i a O) (-1);refine o.congr λc I=>?_;have l:zf (λj=>if (A j).has r=cM then t i j*(A j).v r c else 0) N=(A i).v r c+zf (λj=>(if j=i then 0 else if (A j).has r=cM then t i j else 0)*(A j).v r c) N:=by
    have m:(A i).v r c=zf (λj=>if j=i then (A i).v r c else 0) N:=by rw[zL a λk _ s=>by simp[s]];simp
    rw[m,<- jJ];refine zv λj y=>?_;by_cases U:j=i
    ·subst U;simp[O,Y j a]
    ·simp only[UY U]
     by_cases b:(A j).has r=cM
     ·simp[b]
     ·simp[b]
   have Q:=J i a O c I;unfold o3 at Q;rw[Mp,l]at Q;rw[MY,Q,<- MY];congr 1;omega
 exact λi e a=>f N i ⋯ e a
end
section
variable{p:Int}{n m N h r r2 q:Nat}{B B2 K:Nat->Vc}{l l2 lK:UX}{M f:UV}
theorem Yn(I:Span p n (ej m U) v) : ∃t:Vc,∀i,i<n->v i%p=zf (λj=>t j*U j i) m%p:=by
 induction I with
 | zero h=>exact⟨λ_=>0,λi a=>by rw[h i a];simp[zQ]⟩
 | @step v w g c O o Q Y=>
  obtain⟨t,l⟩:=Y;obtain⟨k,d,rfl⟩:=O;refine⟨λj=>t j+if j=k then c else 0,λi a=>?_⟩;rw[Q i a,MY,l i a,<- MY];congr 1;have e:zf (λj=>(t j+if j=k then c else 0)*U j i) m=zf (λj=>t j*U j i) m+zf (λj=>(if j=k then c else 0)*U j i) m:=by rw[<- jJ];exact zv λj _=>RU ..
  rw[e,zL (f:=λj=>(if j=k then c else 0)*U j i) d λj _ b=>by simp[b]];simp
theorem q9(a b:Nat->Int)(n:Nat):zf (λj=>a j*b j) n=zf (λj=>b j*a j) n:=zv λj _=>MU ..
theorem B4:Span p h (ej N λj i=>M i j) u ↔ ∃x:Vc,∀i,i<h->u i%p=app M N x i%p:=by
 constructor
 ·intro q
  obtain⟨t,I⟩:=Yn q;exact⟨t,λi a=>by rw[I i a];unfold app;rw[q9]⟩
 ·rintro⟨x,b⟩
  refine(Span.sum (u:=λj i=>M i j) x (m:=N) λj O=> .gen ⟨j,O,rfl⟩).congr λi a=>?_;rw[b i a];unfold app;rw[q9]
theorem Vb(n:Nat)(v:Vc):Span p n (ej n j5) v:=by refine(Span.sum (u:=j5) v (m:=n) λj I=> .gen ⟨j,I,rfl⟩).congr λi a=>?_;rw[zL (f:=λk=>v k*j5 k i) a λk _ O=>by simp[j5,O]];simp[j5]
theorem vT(I:Pr p)(C:N<=8)(hs : ∀v:Vc,∃t,∀i,i<N->v i%p=app f N t i%p)(Q : ∀i,i<N->app f N t i%p=0) : ∀j,j<N->t j%p=0:=by
 obtain⟨q,K,l,s,_,g,O,U,e⟩:=yC I (h:=N) (w:=N) ⋯ ⋯ f;have Y:Rk p N N (λj i=>f i j) N:=⟨j5,id,WV I N,λv=>⟨λ_=>B4.mpr<|hs v,λ_=>Vb N v⟩⟩;have:=vO I U Y;have d:q=0:=by omega
 subst d;have:=(O t).mpr λi b=>by have:=Q i b;unfold app at this;exact this
 cases this with
 | zero h=>exact h
 | step a _ _=>obtain⟨k,O,_⟩:=a;omega
noncomputable def Xc(r:Nat)(B:Nat->Vc)(l:UX)(t:Vc):Vc:=λi=>t i - zf (λj=>t (l j)*B j i) r
theorem Xz(O:h8 p N r B l)(t:Vc)(I:j<r):Xc r B l t (l j)=0:=by unfold Xc;rw[zL (f:=λQ=>t (l Q)*B Q (l j)) I λk U Y=>by rw[O.sh k j U I (My Y)];simp];rw[O.one j I];omega
theorem aI(t:Vc):Span p N (ej r B) λi=>zf (λj=>t (l j)*B j i) r:=Span.sum (u:=B) (λj=>t<|l j) λj I=> .gen ⟨j,I,rfl⟩
theorem uL(I:h8 p N r B l)(h:Span p N (ej r B) t)(hz : ∀j,j<r->t (l j)%p=0) : ∀i,i<N->t i%p=0:=λi a=>by
 rw[ZM I h i a];have e:zf (λk=>t (l k)*B k i) r%p=zf (λ_=>0) r%p:=zI λk O=>by rw[LZ,hz k O];simp
 rw[e,zQ];simp
theorem WU(I:Pr p)(O:h8 p N r B l)(C:i<N)(Q : ∀j,j<r->l j≠i) : ¬Span p N (ej r B) (j5 i):=λh=>by have:=uL O h (λj U=>by unfold j5;rw[UY (My<|Q j U)];simp) i C;unfold j5 at this;rw[UJ rfl,I.one]at this;omega
theorem QK(g:UV)(w:Nat)(u v:Vc)(i:Nat):app g w (λj=>u j - v j) i=app g w u i - app g w v i:=by
 have e:app g w u i=app g w (λj=>u j - v j) i+app g w v i:=by unfold app;rw[<- jJ];exact zv λj _=>by dsimp only;rw[<- Pq];congr 1;omega
 omega
noncomputable def VY(M f:UV)(N:Nat):Nat->Nat->Int:=λi j=>zf (λk=>M i k*f k j) N
theorem Jj(t:Vc)(i:Nat):app (VY M f N) N t i=app M N (app f N t) i:=by
 unfold app VY;have e:zf (λj=>zf (λk=>M i k*f k j) N*t j) N=zf (λj=>zf (λk=>M i k*(f k j*t j)) N) N:=zv λj _=>by rw[<- qi];exact zv λk _=>MW ..
 rw[e,qh];exact zv λk _=>jg ..
theorem AY(C:Pr p)(hN:N<=8)(hh:h<=8)(hs : ∀v:Vc,∃t,∀i,i<N->v i%p=app f N t i%p)(J:h8 p N r B l)(U : ∀t,Span p N (ej r B) t↔Dw p h N M (app f N t))
 (L:h8 p h r2 B2 l2) (S : ∀v,Span p h (ej r2 B2) v↔Span p h (ej N λj i=>M i j) v) :
 (∀j,j<r->∀i,i<h->app M N (app f N<|B j) i%p=0)/\(∀c,c<N->(∀j,j<r->l j≠c)->∃i,i<h/\app M N (λa=>f a c) i%p≠0)/\r+r2=N/\
   ∀Q:Vc->Prop,(∀c,c<N->(∀j,j<r->l j≠c)->Span p h Q (app M N λa=>f a c))->(∀c,c<h->(∀j,j<r2->l2 j≠c)->Span p h Q (j5 c))->∀v,Span p h Q v:=by
 have g : ∀t:Vc,Dw p h N M (app f N t) ↔ ∀i,i<h->app M N (app f N t) i%p=0:=λt=>Iff.rfl;have o : ∀(c:Nat),c<N->∀i,app M N (λa=>f a c) i%p=app M N (app f N<|j5 c) i%p:=λc I i=>jP (λa _=>by rw[wW f I]) i;refine⟨λj O=>(g _).mp ((U<|B j).mp (.gen ⟨j,O,rfl⟩)),λc I T=>?_,?_,λQ H P v=>?_⟩
 ·refine Nr λz=>WU C J I T ((U _).mpr ((g _).mpr λi b=>?_))
  rw[<- o c I i];exact Nr λy=>z ⟨i,b,y⟩
 ·obtain⟨q',K',l',s',_,s,n,A,b8⟩:=yC C (h:=h) (w:=N) ⋯ ⋯ (VY M f N)
  have e1:q'=r:=(QH C s J (λv k=>(U v).mpr λi b=>by
   have:=(n v).mp k i b;rw[show zf (λj=>VY M f N i j*v j) N=app (VY M f N) N v i from rfl,Jj]at this;exact this) λv k=>(n v).mpr λi b=>by
   have:=(U v).mp k i b;rw[show zf (λj=>VY M f N i j*v j) N=app (VY M f N) N v i from rfl,Jj];exact this).1
  have e2:s'=r2:=by
   refine vO C A ⟨B2,l2,L,λv=>(S v).trans ⟨λz=>?_,λz=>?_⟩⟩
   ·obtain⟨x,m⟩:=B4.mp z
    obtain⟨t,Y⟩:=hs x;refine B4.mpr ⟨t,λi b=>?_⟩;rw[m i b,Jj];exact jP Y i
   ·obtain⟨t,Y⟩:=B4.mp z
    exact B4.mpr ⟨app f N t,λi b=>by rw[Y i b,Jj]⟩
  omega
 ·
  have Z : ∀t:Vc,Span p h Q (app M N<|app f N t):=λt=>by
   have X:=(g _).mp ((U _).mp (aI (p:=p) (N:=N) (B:=B) (r:=r) (l:=l) t));have e : ∀i,i<h->app M N (app f N t) i%p=app M N (app f N<|Xc r B l t) i%p:=λi b=>by
    have F:app M N (app f N<|Xc r B l t) i=app M N (app f N t) i - app M N (app f N λi=>zf (λj=>t (l j)*B j i) r) i:=by rw[<- QK];congr 1;funext a;exact QK ..
    rw[F,NY,X i b];simp
   refine Span.congr ?_ e;have G : ∀i,app M N (app f N<|Xc r B l t) i=zf (λc=>Xc r B l t c*app M N (λa=>f a c) i) N:=λi=>by rw[<- yA];congr 1;funext a;unfold app;exact q9 ..
   have s1 : ∀K,K<=N->Span p h Q λi=>zf (λc=>Xc r B l t c*app M N (λa=>f a c) i) K:=by
    intro K
    induction K with
    | zero=>intro _;exact .zero λi _=>by simp[zf]
    | succ K d=>
     intro R;by_cases I : ∃j,j<r/\l j=K
     ·obtain⟨j,O,rfl⟩:=I
      refine(d ⋯).congr λi _=>?_;show(zf _ (l j)+_)%p=_;have z:=Xz J t O;simp only[z];simp
     ·exact((H K ⋯ λj O z=>I ⟨j,O,z⟩).add (d ⋯) _).congr λi _=>rfl
   exact(s1 N<|LW _).congr λi _=>by rw[G]
  have E : ∀u,Span p h (ej r2 B2) u->Span p h Q u:=λu W=>by obtain⟨x,m⟩:=B4.mp<|(S u).mp W;obtain⟨t,Y⟩:=hs x;exact(Z t).congr λi b=>by rw[m i b];exact jP Y i
  have s2 : ∀K,K<=h->Span p h Q λi=>zf (λc=>Xc r2 B2 l2 v c*j5 c i) K:=by
   intro K
   induction K with
   | zero=>intro _;exact .zero λi _=>by simp[zf]
   | succ K d=>
    intro R;by_cases I : ∃j,j<r2/\l2 j=K
    ·obtain⟨j,O,rfl⟩:=I
     refine(d ⋯).congr λi _=>?_;show(zf _ (l2 j)+_)%p=_;have z:=Xz L v O;simp only[z];simp
    ·exact((P K ⋯ λj O z=>I ⟨j,O,z⟩).add (d ⋯) _).congr λi _=>rfl
  refine((E _<|aI (B:=B2) (r:=r2) (l:=l2) v).add (s2 h<|LW _) 1).congr λi b=>?_;congr 1;rw[zL (f:=λc=>Xc r2 B2 l2 v c*j5 c i) b λc _ I=>by simp[j5,I]];simp only[j5,if_true,Xc];omega
theorem AZ(O:Pr p)(hN:N<=8)(hh:h<=8)(hs : ∀v:Vc,∃t,∀i,i<N->v i%p=app f N t i%p)(L:h8 p N r B l)(S : ∀t,Span p N (ej r B) t↔Span p N (ej h λj i=>M i j) (app f N t))
 (Z : ∀v,Span p h (ej q K) v↔Dw p N h M v) (hr:Rk p N h (λj i=>M i j) s) (bi:q+s=h) :
 (∀j,j<r->∃y:Vc,∀i,i<N->app M h y i%p=app f N (B j) i%p)/\(∀c,c<N->(∀j,j<r->l j≠c)->¬∃y:Vc,∀i,i<N->app M h y i%p=f i c%p)/\r+q=h/\
   ∀(J:Vc->Prop) (x:Nat->Vc),(∀j,j<r->Span p h J (x j)/\∀i,i<N->app M h (x j) i%p=app f N (B j) i%p)->(∀j,j<q->Span p h J (K j))->∀v,Span p h J v:=by
 have o : ∀t,Span p N (ej r B) t ↔ ∃y:Vc,∀i,i<N->app f N t i%p=app M h y i%p:=λt=>(S t).trans B4;have inj : ∀{t:Vc},(∀i,i<N->app f N t i%p=0)->∀j,j<N->t j%p=0:=λU=>vT O hN hs U;refine⟨λj I=>?_,λc hc hn z=>?_,?_,λJ x T h2 v=>?_⟩
 ·obtain⟨y,d⟩:=(o<|B j).mp (.gen ⟨j,I,rfl⟩)
  exact⟨y,λi b=>(d i b).symm⟩
 ·obtain⟨y,d⟩:=z
  exact WU O L hc hn<|(o _).mpr ⟨y,λi b=>by rw[wW f hc,d i b]⟩
 ·have P:s<=8/\r<=8:=by
   obtain⟨E,bl,b5⟩:=sY O (n:=N) (m:=h) ⋯ hh λj i=>M i j;refine⟨by rw[vO O hr b5];omega,?_⟩;have : ∀A,A<=r->A<=N:=by
    intro A;have mono : ∀k,k<r->k<=l k:=by
     intro k
     induction k with
     | zero=>intro _;omega
     | succ k ih=>intro Z;have:=ih ⋯;have:=L.mono k (k+1) ⋯ Z;omega
    intro bm;cases A with
    | zero=>omega
    | succ R=>have:=mono R ⋯;have:=L.lt R ⋯;omega
   have:=this r<|LW _;omega
  have bn:s<=r:=by
   obtain⟨E,a1,F⟩:=sY O (n:=N) (m:=r) ⋯ P.2 λj=>app f N<|B j;have e:s=E:=by
    obtain⟨C,Y,H,w⟩:=hr;refine vO O (m:=h) (W:=λj i=>M i j) ⟨C,Y,H,w⟩ ?_;obtain⟨C',b9,bb,bd⟩:=F;refine⟨C',b9,bb,λv=>(bd v).trans ⟨λz=>?_,λz=>?_⟩⟩
    ·exact z.le λg Q=>by obtain⟨j,I,rfl⟩:=Q;exact(S<|B j).mp (.gen ⟨j,I,rfl⟩)
    ·obtain⟨y,d⟩:=B4.mp z
     obtain⟨t,U⟩:=hs v;have G:Span p N (ej r B) t:=(o t).mpr ⟨y,λi b=>by rw[<- U i b,d i b]⟩;refine(Span.sum (u:=λj=>app f N<|B j) (λj=>t<|l j) (m:=r) λj I=> .gen ⟨j,I,rfl⟩).congr λi b=>?_;rw[U i b,<- yA];exact jP (λj I=>ZM L G j I) i
   omega
  have bv:r<=s:=by
   obtain⟨C,Y,H,w⟩:=hr;have ex : ∀j,∃t:Vc,∀i,i<N->C j i%p=app f N t i%p:=λj=>hs<|C j;have g:Nat->Vc:=λj=>Classical.choose<|ex j;have Q : ∃g:Nat->Vc,∀j i,i<N->C j i%p=app f N (g j) i%p:=⟨λj=>Classical.choose<|ex j,λj=>Classical.choose_spec<|ex j⟩;obtain⟨g,Q⟩:=Q;obtain⟨E,a1,F⟩:=sY O (n:=N) (m:=s) ⋯ P.1 g;have e:r=E:=by
    refine vO O (m:=s) (W:=g) ⟨B,l,L,λv=>⟨λz=>?_,λz=>?_⟩⟩ F
    ·have hv:=(w _).mpr ((S v).mp z)
     refine(Span.sum (u:=g) (λj=>app f N v<|Y j) (m:=s) λj I=> .gen ⟨j,I,rfl⟩).congr λi b=>?_;have z0 : ∀a,a<N->app f N (λi=>v i - zf (λj=>app f N v (Y j)*g j i) s) a%p=0:=λa X=>by
      rw[QK,yA,NY,ZM H hv a X];have e:zf (λk=>app f N v (Y k)*C k a) s%p=zf (λk=>app f N v (Y k)*app f N (g k) a) s%p:=zI λk _=>by rw[LZ,Q k a X,<- LZ]
      rw[e];simp
     have:=inj z0 i b;have q2:=Int.emod_emod_of_dvd;exact(Int.emod_emod_of_dvd _<|Int.dvd_refl p).symm.trans (by
      rw[Mp];have:(v i - zf (λj=>app f N v (Y j)*g j i) s)%p=0:=this;exact Oc.mpr this)
    ·refine z.le λu hu=>?_
     obtain⟨j,I,rfl⟩:=hu;refine(S _).mpr (((w<|C j).mp (.gen ⟨j,I,rfl⟩)).congr λi b=>(Q j i b).symm)
   omega
  omega
 ·obtain⟨t,U⟩:=hs (app M h v)
  have G:Span p N (ej r B) t:=(o t).mpr ⟨v,λi b=>(U i b).symm⟩;have hx:Span p h J λc=>zf (λj=>t (l j)*x j c) r:=Span.sum (u:=x) (λj=>t<|l j) λj I=>(T j I).1;have hd:Span p h J λc=>v c - zf (λj=>t (l j)*x j c) r:=by
   refine((Z _).mpr λi b=>?_).le λg Q=>by obtain⟨j,I,rfl⟩:=Q;exact h2 j I
   show app M h (λc=>v c - zf (λj=>t (l j)*x j c) r) i%p=0;rw[QK,yA,NY];have e:zf (λj=>t (l j)*app M h (x j) i) r%p=app M h v i%p:=by rw[U i b,jP (λj I=>ZM L G j I) i,yA];exact zI λj I=>by rw[LZ,(T j I).2 i b,<- LZ]
   rw[e];simp
  refine(hx.add hd 1).congr λc _=>?_;congr 1;omega
end
structure A8(p:Int)(w:UK)(wd:UX)(T:UW)(k:Nat)(m6:List eA):Prop where
 ok : ∀b,b∈m6->n6 p w wd T k b
 sp : ∀r,r<=k->∀v,Span p (wd r) (Iy m6 r) v
 ct : ∀r,r<=k->m6.countP (λb=>b.has r)=wd r
 od:(m6.filter λb=>b.has k).Pairwise (Ord w)
noncomputable def mm(r:Nat)(l:UX)(i:Nat):Option Nat:=(LL r).find? λj=>l j==i
theorem xM(h:mm r l i=cq j):j<r/\l j=i:=by have a:=List.find?_some h;have b:=List.mem_of_find?_eq_some h;exact⟨LO.mp b,by simpa using a⟩
theorem ZX(h:mm r l i=cO) : ∀j,j<r->l j≠i:=λj I=>by have:=List.find?_eq_none.mp h j<|LO.mpr I;simpa using this
noncomputable def ij(p:Int)(A:Nat->eA)(N r:Nat)(B:Nat->Vc)(l:UX)(i:Nat):eA:=match mm r l i with
 | some j=>D0 p A N (B j) i
 | none=>A i
noncomputable def k3(k:Nat)(b:eA):Option Vc->eA
 | none=>b
 | some y=>⟨b.s,b.n+1,λr=>if r=k+1 then y else b.v r⟩
noncomputable def p8(k:Nat)(y:Vc):eA:=⟨k+1,1,λ_=>y⟩
noncomputable def D3(r:Nat)(B:Nat->Vc)(l:UX)(i:Nat):Vc:=match mm r l i with
 | some j=>B j
 | none=>j5 i
theorem eC(p A N r B l i):(ij p A N r B l i).s=(A i).s:=by unfold ij;split<;>rfl
theorem Ba(p A N r B l i):(ij p A N r B l i).n=(A i).n:=by unfold ij;split<;>rfl
theorem VJ(p A N r B l i rm):(ij p A N r B l i).has rm=(A i).has rm:=by unfold eA.has;rw[eC,Ba]
theorem Zm:(p8 k y).has r=decide (r=k+1):=by
 unfold p8 eA.has;by_cases h:r=k+1
 ·simp[h]
 ·simp[h];intro;omega
section
variable{p:Int}{w:UK}{wd:UX}{T:UW}{k N r:Nat}{A:Nat->eA}{B:Nat->Vc}{l:UX}
theorem pH(I:h8 p N r B l)(C:i<N):D3 r B l i i=1/\∀c,c<i->D3 r B l i c=0:=by
 unfold D3;cases hj:mm r l i with
 | some j=>
  obtain⟨a,b⟩:=xM hj;subst b;exact⟨I.one j a,λc O=>I.mA j c a O⟩
 | none=>exact⟨by simp[j5],λc O=>by simp only[j5];rw[UY ⋯]⟩
theorem sE(C:i<N)(O:(A i).has rm=cM):(ij p A N r B l i).v rm c%p=o3 p A N (D3 r B l i) rm c%p:=by
 unfold ij D3;cases I:mm r l i with
 | some j=>rfl
 | none=>
  show(A i).v rm c%p=_;unfold o3;rw[Mp];congr 1;rw[zL (f:=λj=>if (A j).has rm=cM then j5 i j*(A j).v rm c else 0) C λj _ I=>by unfold j5;rw[UY (My I)];simp];simp[j5,O]
theorem pJ(O:0<p)(Q:h8 p N r B l)(I : ∀j,j<N->n6 p w wd T k (A j))(U : ∀j,j<N->(A j).has k=cM)(Y : ∀i c,i<c->c<N->Ord w (A i) (A c))(C:i<N):n6 p w wd T k (ij p A N r B l i):=by
 unfold ij;split
 ·next j e=>
  obtain⟨a,b⟩:=xM e;subst b;exact Cu O I U C (λc a b=>Y _ c a b) λc d=>Q.mA j c a d
 ·exact I i C
theorem XJ(I:rm<=k)(O:b.s+b.n=k+1):(k3 k b o).has rm=b.has rm/\(k3 k b o).v rm=b.v rm:=by
 cases o with
 | none=>exact⟨rfl,rfl⟩
 | some y=>
  refine⟨?_,by simp only[k3];rw[UY ⋯]⟩;unfold k3 eA.has;simp only;congr 1;exact decide_eq_decide.mpr ⋯
theorem Wn(I:b.s+b.n=k+1):(k3 k b o).has (k+1)=o.isSome:=by
 cases o with
 | none=>unfold k3 eA.has;simp;omega
 | some y=>unfold k3 eA.has;simp;omega
theorem uU(k b o):(k3 k b o).s=b.s:=by cases o<;>rfl
theorem Ea(p0:0<p)(Q:b.s+b.n=k+1)(C:n6 p w wd T k b)(Z : ∀y,o=cq y->∀c,c<wd (k+1)->0<=y c/\y c<p)
 (J:o=cO->w k=cR->∀c,c<wd (k+1)->app (T k) (wd k) (b.v k) c%p=0) (L : ∀y,o=cq y->w k=cR->∀c,c<wd (k+1)->app (T k) (wd k) (b.v k) c%p=y c%p)
 (S : ∀y,o=cq y->w k=cM->∀c,c<wd k->app (T k) (wd<|k+1) y c%p=b.v k c%p):n6 p w wd T (k+1) (k3 k b o):=by
 have x:=C.n1;refine⟨?_,?_,λU c h I=>?_,λj z d c I=>?_⟩
 ·cases o with
  | none=>exact C.n1
  | some y=>show 1<=b.n+1;omega
 ·cases o with
  | none=>show b.s+b.n<=k+1+1;omega
  | some y=>show b.s+(b.n+1)<=k+1+1;omega
 ·by_cases m:U<=k
  ·obtain⟨a,O⟩:=XJ (o:=o) m Q
   rw[a]at h;rw[O];exact C.l0 U c h I
  ·have i:=i6.mp h
   cases o with
   | none=>exact absurd i.2 (by show ¬(U<b.s+b.n);omega)
   | some y=>
    have:U=k+1:=by have:U<b.s+(b.n+1):=i.2;omega
    subst this;have e:(k3 k b<|some y).v (k+1)=y:=by simp[k3]
    rw[e];exact Z y rfl c I
 ·by_cases g:j<k
  ·have g1:zS w j<=k:=by unfold zS;split<;>omega
   have g2:z6 w j<=k:=by unfold z6;split<;>omega
   obtain⟨a,O⟩:=XJ (o:=o) g1 Q;obtain⟨t,u⟩:=XJ (o:=o) g2 Q;rw[a]at d;rw[O,t,u];exact C.arr j g d c I
  ·have g:j=k:=by omega
   subst g;obtain⟨a,O⟩:=XJ (o:=o) (LW j) Q;have l:=Wn (k:=j) (o:=o) Q;have r:b.has j=cM:=i6.mpr ⋯;cases hw:w j with
   | false=>
    have f:zS w j=j:=by unfold zS;rw[hw];rfl
    have Y:z6 w j=j+1:=by unfold z6;rw[hw];rfl
    rw[Y]at I;rw[f,Y,O,l];cases o with
    | none=>rw[J rfl hw c I];simp
    | some y=>rw[L y rfl hw c I];simp[k3]
   | true=>
    have f:zS w j=j+1:=by unfold zS;rw[hw];rfl
    have Y:z6 w j=j:=by unfold z6;rw[hw];rfl
    rw[Y]at I;rw[f,l]at d;rw[f,Y,a,O,r];cases o with
    | none=>cases d
    | some y=>
     have e:(k3 j b<|some y).v (j+1)=y:=by simp[k3]
     rw[e,S y rfl hw c I];simp
theorem Ct(J : ∀c,c<wd (k+1)->0<=y c/\y c<p)(C:w k=cM->∀c,c<wd k->app (T k) (wd<|k+1) y c%p=0):n6 p w wd T (k+1) (p8 k y):=by
 refine⟨LW _,by show k+1+1<=k+1+1;omega,λe c Q I=>?_,λj d O c I=>?_⟩
 ·rw[Zm]at Q
  have:=of_decide_eq_true Q;subst this;exact J c I
 ·rw[Zm]at O
  have O:=of_decide_eq_true O;cases hw:w j with
  | false=>
   have U:zS w j=j:=by unfold zS;rw[hw];rfl
   omega
  | true=>
   have U:zS w j=j+1:=by unfold zS;rw[hw];rfl
   have Y:z6 w j=j:=by unfold z6;rw[hw];rfl
   have a:j=k:=by omega
   subst a;rw[Y]at I;have b:(p8 j y).has (z6 w j)=cR:=by rw[Zm,Y];simp
   rw[b,U];show app (T j) (wd<|j+1) y c%p=_;rw[C hw c I];simp
noncomputable def vH(p:Int)(k:Nat)(w:UK)(C:List eA)(A:Nat->eA)(N r:Nat)(B:Nat->Vc)(l:UX)(nx:Nat->Option Vc)(I:List Vc):List eA:=
 (C.filter λb=> !b.has k)++(if w k then (LL N).map (λi=>k3 k (ij p A N r B l i)<|nx i)++I.map (p8 k)else I.map (p8 k)++(LL N).map λi=>k3 k (ij p A N r B l i)<|nx i)
theorem ik(p0:0<p)(I:A8 p w wd T k m6)(hN:(m6.filter λb=>b.has k).length=N)(U : ∀j,A j=(m6.filter λb=>b.has k).getD j lR)(O:h8 p N r B l)
 (c1 : ∀i y,i<N->nx i=cq y->∀c,c<wd (k+1)->0<=y c/\y c<p) (c2 : ∀y,y∈news->∀c,c<wd (k+1)->0<=y c/\y c<p)
   (d0 : ∀i,i<N->nx i=cO->w k=cR->∀c,c<wd (k+1)->app (T k) (wd k) ((ij p A N r B l i).v k) c%p=0)
   (d1 : ∀i y,i<N->nx i=cq y->w k=cR->∀c,c<wd (k+1)->app (T k) (wd k) ((ij p A N r B l i).v k) c%p=y c%p)
   (d2 : ∀i y,i<N->nx i=cq y->w k=cM->∀c,c<wd k->app (T k) (wd<|k+1) y c%p=(ij p A N r B l i).v k c%p)
   (d3 : ∀y,y∈news->w k=cM->∀c,c<wd k->app (T k) (wd<|k+1) y c%p=0)
   (s1 : ∀v,Span p (wd<|k+1) (λg=>(∃i,i<N/\nx i=cq g)\/g∈news) v) (n1:(LL N).countP (λi=>(nx i).isSome)+news.length=wd (k+1)) :
   A8 p w wd T (k+1) (vH p k w m6 A N r B l nx news):=by
  have F : ∀j,j<N->A j∈m6/\(A j).has k=cM:=λj Y=>by
   have:A j∈m6.filter λb=>b.has k:=by rw[U j,LS,LP ⋯];exact OL _
   have:=MA.mp this;exact⟨this.1,by simpa using this.2⟩
  have W : ∀j,j<N->n6 p w wd T k (A j):=λj Y=>I.ok _ (F j Y).1;have Z : ∀i c,i<c->c<N->Ord w (A i) (A c):=λi c m u=>by have:=Oq.mp I.od i c ⋯ ⋯ m;rw[U i,U c,LS,LP ⋯,LS,LP ⋯];exact this
  have h9 : ∀i,i<N->n6 p w wd T k (ij p A N r B l i):=λi d=>pJ p0 O W (λj Y=>(F j Y).2) Z d;have a0 : ∀i,i<N->(ij p A N r B l i).s+(ij p A N r B l i).n=k+1:=λi d=>by rw[eC,Ba];have m:=i6.mp (F i d).2;have u:=(W i d).le;omega
  have G : ∀b,b∈m6->b.has k=cR->b.s+b.n<=k:=λb O R=>by have m:=(I.ok b O).le;have u:=(I.ok b O).n1;refine Nat.not_lt.mp λz=>?_;have:b.has k=cM:=i6.mpr ⋯;rw[this]at R;cases R
  have x : ∀b,b∈vH p k w m6 A N r B l nx news↔(b∈m6/\b.has k=cR)\/(∃i,i<N/\b=k3 k (ij p A N r B l i) (nx i))\/∃y,y∈news/\b=p8 k y:=λb=>by
   unfold vH;rw[OV,MA];refine or_congr ⋯ ?_;cases w k<;>simp only[Nj,if_false,if_true,OV,Mk,LO]
   ·constructor
    ·rintro(⟨y,m,u⟩ | ⟨i,m,u⟩)
     ·exact .inr ⟨y,m,u.symm⟩
     ·exact .inl ⟨i,m,u.symm⟩
    ·rintro(⟨i,m,u⟩ | ⟨y,m,u⟩)
     ·exact .inr ⟨i,m,u.symm⟩
     ·exact .inl ⟨y,m,u.symm⟩
   ·constructor
    ·rintro(⟨i,m,u⟩ | ⟨y,m,u⟩)
     ·exact .inl ⟨i,m,u.symm⟩
     ·exact .inr ⟨y,m,u.symm⟩
    ·rintro(⟨i,m,u⟩ | ⟨y,m,u⟩)
     ·exact .inl ⟨i,m,u.symm⟩
     ·exact .inr ⟨y,m,u.symm⟩
  have cnt : ∀P:eA->Bool,(vH p k w m6 A N r B l nx news).countP P=(m6.filter λb=> !b.has k).countP P+(LL N).countP (λi=>P<|k3 k (ij p A N r B l i)<|nx i)+(news.map<|p8 k).countP P:=λP=>by
   unfold vH;rw[List.countP_append];cases w k<;>simp only[Nj,if_false,if_true,List.countP_append,Sb (f:=λi=>k3 k (ij p A N r B l i)<|nx i)]
   ·rw[RQ,Nat.add_comm (List.countP P<|List.map (p8 k) news)];rfl
   ·rw[RQ];rfl
  refine⟨λb bf=>?_,λQ hr v=>?_,λQ hr=>?_,?_⟩
  ·rcases (x b).mp bf with⟨m,u⟩ | ⟨i,d,rfl⟩ | ⟨y,hy,rfl⟩
   ·have R:=G b m u
    have S:=I.ok b m;refine⟨S.n1,by omega,S.l0,λj Y X c L=>?_⟩;have bn:=i6.mp X;refine S.arr j ?_ X c L;have:zS w j>=j:=by unfold zS;split<;>omega
    omega
   ·exact Ea p0 (a0 i d) (h9 i d) (λy e=>c1 i y d e) (λe=>d0 i d e) (λy e=>d1 i y d e) λy e=>d2 i y d e
   ·exact Ct (c2 y hy)<|d3 y hy
  ·by_cases C:Q<=k
   ·refine(I.sp Q C v).le λg hg=>?_
    obtain⟨b,m,u,rfl⟩:=hg;cases Um:b.has k with
    | false=>exact .gen ⟨b,(x b).mpr (.inl ⟨m,Um⟩),u,rfl⟩
    | true=>
     have bi:b∈m6.filter λb=>b.has k:=MA.mpr ⟨m,by simpa using Um⟩;obtain⟨i,d,e⟩:=Ri bi;have ei:A i=b:=by rw[U i,LS,LP d];exact e
     rw[<- ei]at u ⊢;refine nV (A:=A) (A':=λi=>ij p A N r B l i) (t:=λi=>D3 r B l i) (λi d=>(pH O d).1) (λi c d L=>(pH O d).2 c L) (λi d M=>?_) (λi d M c _=>sE d M) i ⋯ u;obtain⟨x1,x2⟩:=XJ (o:=nx i) C<|a0 i d;exact .gen ⟨_,(x _).mpr (.inr<|.inl ⟨i,d,rfl⟩),by rw[x1,VJ];exact M,by rw[x2]⟩
   ·have:Q=k+1:=by omega
    subst this;refine(s1 v).le λg hg=>?_;rcases hg with⟨i,d,e⟩ | hg
    ·refine .gen ⟨_,(x _).mpr (.inr<|.inl ⟨i,d,rfl⟩),?_,?_⟩
     ·rw[Wn (a0 i d),e];rfl
     ·rw[e];simp[k3]
    ·exact .gen ⟨_,(x _).mpr (.inr<|.inr ⟨g,hg,rfl⟩),by rw[Zm];simp,rfl⟩
  ·rw[cnt]
   by_cases C:Q<=k
   ·have J:(news.map<|p8 k).countP (λb=>b.has Q)=0:=Rn.mpr λb O=>by
     obtain⟨y,_,rfl⟩:=Mk.mp O;rw[Zm];simp;omega
    have K:(LL N).countP (λi=>(k3 k (ij p A N r B l i)<|nx i).has Q)=(m6.filter λb=>b.has k).countP λb=>b.has Q:=by
     have:(m6.filter λb=>b.has k)=(LL N).map A:=by rw[<- jq lR (m6.filter λb=>b.has k),hN];exact Md λj _=>(U j).symm
     rw[this,Sb];refine NR λi d=>?_;have d:=LO.mp d;rw[(XJ (o:=nx i) C<|a0 i d).1,VJ];rfl
    rw[J,K,<- I.ct Q C,List.countP_eq_countP_filter_add m6 (λb=>b.has Q) λb=>b.has k];omega
   ·have:Q=k+1:=by omega
    subst this;have H:(m6.filter λb=> !b.has k).countP (λb=>b.has<|k+1)=0:=Rn.mpr λb O=>by obtain⟨m,u⟩:=MA.mp O;have:=G b m (by simpa using u);intro z;have:=i6.mp z;omega
    have J:(news.map<|p8 k).countP (λb=>b.has<|k+1)=news.length:=by rw[List.countP_eq_length.mpr λb O=>?_,Mm];obtain⟨y,_,rfl⟩:=Mk.mp O;rw[Zm];simp
    have K:(LL N).countP (λi=>(k3 k (ij p A N r B l i)<|nx i).has (k+1))=(LL N).countP λi=>(nx i).isSome:=NR λi d=>by rw[Wn (a0 i<|LO.mp d)]
    rw[H,J,K];omega
  ·have H:((m6.filter λb=> !b.has k).filter λb=>b.has<|k+1)=[]:=List.filter_eq_nil_iff.mpr λb O=>by
    obtain⟨m,u⟩:=MA.mp O;have:=G b m (by simpa using u);intro z;have:=i6.mp z;omega
   have pO:((LL N).map λi=>k3 k (ij p A N r B l i)<|nx i).Pairwise (Ord w):=by rw[PN];refine Rf (λ{a b} E O h=>?_)<|PL (n:=N);have:=Z a b h<|LO.mp O;unfold Ord;rw[uU,uU,eC,eC];exact this
   have pN:(news.map<|p8 k).Pairwise (Ord w):=by
    rw[PN];refine Oq.mpr λ_ _ _ _ _=>⟨λz=>?_,λz=>?_⟩
    ·exact absurd z<|Nh<|k+1
    ·exact absurd z<|Nh<|k+1
   have so : ∀b,b∈(LL N).map (λi=>k3 k (ij p A N r B l i)<|nx i)->b.s<=k:=λb O=>by obtain⟨i,d,rfl⟩:=Mk.mp O;have d:=LO.mp d;rw[uU,eC];exact(i6.mp (F i d).2).1
   have sn : ∀b,b∈news.map (p8 k)->b.s=k+1:=λb O=>by obtain⟨y,_,rfl⟩:=Mk.mp O;rfl
   unfold vH;rw[Rv,H,Ox];refine RD _ ?_;cases hw:w k with
   | false=>
    simp only[Nj,if_false];refine List.pairwise_append.mpr ⟨pN,pO,λa E b O=>?_⟩;have m:=sn a E;have u:=so b O;exact⟨λz=>by omega,λ_=>by rw[m];exact hw⟩
   | true=>
    simp only[if_true];refine List.pairwise_append.mpr ⟨pO,pN,λa E b O=>?_⟩;have m:=sn b O;have u:=so a E;exact⟨λ_=>by rw[m];exact hw,λz=>by omega⟩
end
theorem zo(h:F γ=cq (.next γ'))(g:G γ'=r):zM F G γ=r:=by rw[jc,h];exact g
theorem jm(h:F (zZ n ds)=cq (.ret r)):jo n F ds=cq r:=by show(F<|zZ n ds).bind _=_;rw[h];rfl
theorem Vd{T:Tg}{F:CO Fl}(P:Nat->Ctx->Prop)(n:Nat){γ:Ctx}(Q:P 0 γ)(step : ∀s,s<n->∀γ,P s γ->∃γ1 I,xG T (.int (s:Int)) γ=cq γ1/\F γ1=cq (.next I)/\P (s+1) I) :
 ∃γ',qQ T F ((LL n).map λ(i:Nat)=>D.int (i:Int)) γ=cq (.next γ')/\P n γ':=by
 have a : ∀(k s:Nat) (γ:Ctx),s+k=n->P s γ->∃γ',qQ T F ((PM s k).map λ(i:Nat)=>D.int (i:Int)) γ=cq (.next γ')/\P n γ':=by
  intro k
  induction k with
  | zero=>
   intro s γ e O;obtain rfl:s=n:=by omega
   exact⟨γ,rfl,O⟩
  | succ k U=>
   intro s γ e O;obtain⟨γ1,I,b,Y,d⟩:=step s ⋯ γ O;obtain⟨γ',f,g⟩:=U (s+1) I ⋯ d;refine⟨γ',?_,g⟩;rw[OK,Mu,jF,b];simp only[LR,Y];exact f
 have:=a n 0 γ ⋯ Q;rw[<- Ob]at this;exact this
theorem Xy(P:Nat->Ctx->Prop)(n:Nat)(Y:n<=lim)(O:f γ=cq (.int (n:Int)))(Q:P 0 γ)(step : ∀s,s<n->∀γ,P s γ->∃γ1 I,xG T (.int (s:Int)) γ=cq γ1/\F γ1=cq (.next I)/\P (s+1) I) :
 ∃γ',ZI (ju f) T F γ=cq (.next γ')/\P n γ':=by
 obtain⟨γ',e,U⟩:=Vd P n Q step;refine⟨γ',?_,U⟩;have a:=jy;have r:inR (n:Int)=cM:=XI ⋯ ⋯;rw[XT,y8,O];simp only[LR,qm,r,if_true,NF,jY];rw[z7 n λi=>(i:Int)];exact e
@[simp] noncomputable def Hf:=@bV.eq_1
theorem rS{a b:Bool}(h:ft a=ft b):a=b:=by cases a<;>cases b<;>first | rfl | exact absurd h ⋯
noncomputable def pD(m C:Nat)(w w':UK):Prop:=m=C/\∀k,k<m->w k=w' k
instance (m m':Nat) (w w':UK):Decidable (pD m m' w w'):=inferInstanceAs (Decidable (m=m'/\∀k,k<m->w k=w' k))
theorem rT{m C:Nat}{w w':UK}:qZ m w=qZ C w'↔pD m C w w':=by
 constructor
 ·intro h
  have a:=xB m w;rw[h,xB]at a;have O:m=C:=by have:=congrArg List.length a;simpa using this.symm
  subst O;refine⟨rfl,λk I=>?_⟩;have:=congrArg (λl=>l[k]?) a;simp[I]at this;exact(rS this).symm
 ·rintro⟨rfl,h⟩
  unfold qZ;rw[Md λk I=>by rw[h k (LO.mp I)]]
theorem gA(m w):jn (.str<|qZ m w)=cM:=by refine Xv (n:=0) (by simp[deep]) ⋯ ?_;show(qZ m w).cps.all (· < 0x110000)=cM;rw[<- Array.all_toList,xB];simp only[ND];intro c I;obtain⟨k,_,rfl⟩:=Mk.mp I;unfold ft;split<;>decide
section
variable{p p':Int}{m m':Nat}{w w':UK}{wd wd':UX}{T T':UW}
theorem VS:jR (jk p m w wd T)=cq (.T,[.int p,.tup<|zH (m+1) λk=>(wd k:Int),.tup (jL m w wd T)]):=rfl
theorem Ao(k):jR (xy w wd T k)=cq (.T,[.str (qA<|ft<|w k),jf (gm w wd k) (f7 w wd k) (T k)]):=rfl
theorem K7:zP (.nm 0) jd (di (zh 0)<|zu<|.int 0) [Cell.no] (jL m w wd T)=cq ((LL m).map λk=>D.str<|qA<|ft<|w k):=by unfold jL;refine zw _ _ λk I=>zx rfl rfl ?_;simp[Ao]
theorem kQ(Q:m<=900):xu [jk p m w wd T]=cq (.val<|.str<|qZ m w):=by
 have U:=jy;have I:m<=lim:=by omega
 have st:X5 ((LL m).map λk=>D.str<|qA<|ft<|w k)=cq ((LL m).map λk=>qA<|ft<|w k):=ZS _ _;have O:((LL m).map λk=>qA<|ft<|w k).all j3=cM:=by simp only[ND];intro x a;obtain⟨k,_,rfl⟩:=Mk.mp a;unfold ft;split<;>decide
 have b:j3 "" = cM:=by decide +kernel
 simp only[xu,jo,zZ];simp only[vJ,lA,kJ,xt,j6,qX,vq,vX,jT,Mu,Ru,Mo,MG,LQ,OA,LX,zX,VS,LR,Mf,qm,A_,LY,Eo,Nat.sub_self,MT];rw[QJ,UJ I,show z5 1 [] [Cell.val (jk p m w wd T)]=[Cell.no]from rfl,K7];simp only[Mf,LR,st];rw[UJ ⟨by simpa using I,O,b⟩];rfl
theorem KW(O:m<=900)(Q:m'<=900):ko [jk p m w wd T,jk p' m' w' wd' T']=cq (.val<|.bl<|decide<|p=p'/\pD m m' w w'):=by
 have I:=kQ (p:=p) (wd:=wd) (T:=T) (w:=w) O;have U:=kQ (p:=p') (wd:=wd') (T:=T') (w:=w') Q;have d:f9 (.str<|qZ m w) (.str<|qZ m' w')=cq (.bl<|decide<|pD m m' w w'):=by unfold f9;rw[UJ ⟨gA m w,gA m' w'⟩];congr 2;rw[NV];simp only[i5,Ul,beq_iff_eq,decide_eq_true_eq];exact rT
 by_cases q:p=p'
 ·simp[ko,jo,zZ,VS,q,I,U,d]
  subst q;simp[I,d]
 ·simp[ko,jo,zZ,VS,q]
end
theorem iV(xs:List D)(n:Nat)(O:xs.length=n)(C : ∀i (h:i<n),∃z,xs[i]'(O ▸ h) = .int z)(bg:n<=63)(k:Int)(J:0<=k)(bi:k<100000) :
 ∃m,jj [.lst xs,.int k]=cq (.val<|.int m)/\0<=m/\m<1000000007:=by
 have Q : ∀x:Int,XR x 48271=cM:=λx=>Vo _ _ ⋯ ⋯;have U : ∀x:Int,XR 7 x=cM:=λx=>vI _ _ ⋯ ⋯;have Y : ∀x:Int,XR 13 x=cM:=λx=>vI _ _ ⋯ ⋯;have e : ∀x:Int,XR x 69621=cM:=λx=>Vo _ _ ⋯ ⋯;have f:XR (7*k) k=cM:=Vo _ _ ⋯ ⋯;have I:Ei 10 9=cM:=by decide
 have b:Ei 10 30=cM:=by decide
 have hl:lim=2500:=rfl;by_cases G:n=0
 ·subst G
  have g:xs=[]:=Ni O;subst g;simp[jj,jo,zZ,jc,Q,U,Y,e,f,I,b];omega
 ·have l:0<n:=by omega
  obtain⟨i,P⟩:=OI (MQ k<|show(n:Int)≠0 by omega);have r:i<n:=by have:=MF k (show(0:Int)<n by omega);omega
  obtain⟨zi,A⟩:=C i r;have W:i3 n (i:Int)=cq i:=by rw[xD,UJ r]
  by_cases M:n=1
  ·subst M
   have o:i=0:=by omega
   subst o;have k1:k%1=0:=by omega
   simp[jj,jo,zZ,jc,Q,U,Y,e,f,I,b,O,A];omega
  ·obtain⟨z0,g⟩:=C 0 l
   have o:i3 n 0=cq 0:=by have:=xD n 0;rw[UJ l]at this;exact this
   have E:(0:Int)<(n:Int) - 1:=by omega
   have F:(1:Int)<(n:Int):=by omega
   have y:1<n:=by omega
   have Z:(n:Int) - 1<1073741824:=by omega
   have q4:(0:Int)<(n:Int):=by omega
   obtain⟨j,R⟩:=OI (MQ k<|show(n:Int) - 1≠0 by omega);have u:1+j<n:=by have:=MF k E;omega
   obtain⟨zj,L⟩:=C (1+j) u;have X:i3 n (1+(j:Int))=cq (1+j):=by have:=xD n<|1+j;rw[UJ u]at this;rw[<- this];congr 1
   have N:0<=k/((n:Int) - 1)/\k/((n:Int) - 1)<=k:=⟨Int.ediv_nonneg J ⋯,Int.ediv_le_self _ J⟩;obtain⟨t,S⟩:=OI N.1;by_cases B:z0%2=1
   ·obtain⟨a,H,bn⟩ : ∃a:Nat,(if (t:Int)<60 then (t:Int)else 60)=a/\a<=60:=by
     split
     ·exact⟨t,rfl,by omega⟩
     ·exact⟨60,rfl,by omega⟩
    have K:inR (a:Int)=cM:=XI ⋯ ⋯;simp[jj,jo,zZ,jc,Q,U,Y,e,f,O,l,u,F,y,g,o,E,Z,B,R,X,L,S,I,b];rw[H,UJ K];simp only[LR,jY,NF];rw[z7 a λi=>(i:Int)];have w : ∀(m s:Nat) (v:Int) (c:Cell),∃p d,qQ (.nm 3) (jB 2<|zB XQ (zc 2)<|zB uZ (zu<|D.int 10)<|zu<|D.int 9) ((PM s m).map λ(i:Nat)=>D.int i) [.val (.lst xs),.val<|.int k,.val<|.int v,c,.no] =
     cq (.next [.val (.lst xs),.val<|.int k,.val<|.int p,d,.no]):=by
     intro m
     induction m with
     | zero=>intro s v c;exact⟨v,c,rfl⟩
     | succ m T=>
      intro s v c;rw[OK,Mu,jF];obtain⟨p,d,h⟩:=T (s+1) (v/10 ^ 9)<|.val<|.int s;refine⟨p,d,?_⟩;rw[<- h];simp[I]
    obtain⟨p,d,h⟩:=w a 0 zj .no;rw[<- Ob]at h;rw[h];simp[I];omega
   ·simp[jj,jo,zZ,jc,Q,U,Y,e,f,O,F,y,q4,l,g,o,B,P,A,r,W,I,b]
    omega
theorem Af(C:List Int)(I:C.length<=63)(k:Int)(O:0<=k)(Q:k<100000) : ∃m,jj [kn C,.int k]=cq (.val<|.int m)/\0<=m/\m<1000000007:=
 iV (C.map D.int) C.length ⋯ (λi a=>⟨C[i],by simp⟩) I k O Q
noncomputable def xQ(C:List Int)(k:Int):Int:=match jj [kn C,.int k]with
 | some (.val<|.int m)=>m
 | _=>0
theorem KP(I:ns.length<=63)(O:0<=k)(Q:k<100000):jj [kn ns,.int k]=cq (.val<|.int<|xQ ns k)/\0<=xQ ns k/\xQ ns k<1000000007:=by
 obtain⟨m,h,a,b⟩:=Af ns I k O Q;have e:xQ ns k=m:=by unfold xQ;rw[h]
 rw[e];exact⟨h,a,b⟩
theorem AJ{C:List Int}(Q:C.length<=63){m:Nat}(J:m<=5) : ∃w,xO [kn C,.int 1,.int (1+(m:Int))]=cq (.val<|.str<|qZ m w):=by
 have f:=jy;have I:m<=lim:=by omega
 refine⟨λk=>decide (xQ C (1+(k:Int))/8%2=1),?_⟩;have b:zP (.nm 0) jd (xo (zu (.str "rl")) (zB xV (zB XQ (zA jj (zb (zc 1) (zb (zB qD (zc 2) (zc 0)) zD))) (zu (.int 8))) (zu (.int 2)))) [Cell.no,Cell.val (kn C),Cell.val (.int 1)] ((LL m).map λ(i:Nat)=>D.int i) =
  cq ((LL m).map λ(k:Nat)=>D.str<|qA<|ft<|decide<|xQ C (1+(k:Int))/8%2=1):=by
  refine zw _ _ λk O=>zx rfl rfl ?_;have O:=LO.mp O;obtain⟨a,d,e⟩:=KP Q (k:=1+(k:Int)) ⋯ ⋯;have U:zB xV (zB XQ (zA jj<|zb (zc 1)<|zb (zB qD (zc 2)<|zc 0) zD)<|zu<|.int 8) (zu<|.int 2) [Cell.val (.int k),Cell.val<|kn C,Cell.val (.int 1)]=cq (.int<|xQ C (1+(k:Int))/8%2):=by simp[a]
  show xo _ _ [Cell.val (.int k),Cell.val<|kn C,Cell.val (.int 1)]=_;rw[Jk,U];have q:xQ C (1+(k:Int))/8%2=0\/xQ C (1+(k:Int))/8%2=1:=by omega
  rcases q with q | q
  ·rw[q];rfl
  ·rw[q];rfl
 have all1:((LL m).map λ(k:Nat)=>qA<|ft<|decide<|xQ C (1+(k:Int))/8%2=1).all j3=cM:=by
  rw[List.all_map];exact ND.mpr λk _=>by show j3 (qA _)=cM;rfl
 have Y:j3 ("" : Str)=cM:=rfl;have a:(1:Int)+(m:Int) - 1=(m:Int):=by omega
 simp[xO,jo,zZ,jc,a,I,jY,z5,kg,LQ];rw[z7 m λi=>(i:Int),b];simp only[Mf,LR,Function.comp];rw[ZS];simp only[LR];rw[UJ ⟨by simpa using I,ND.mp all1,Y⟩];rfl
noncomputable def zT(bs:List (Int×Int)):List D:=bs.map λb=>D.tup [.int b.1,.int b.2]
@[simp] theorem Vu(bs):(zT bs).length=bs.length:=by simp[zT]
theorem Xt : ∀bs,Zz (zT bs)=cq bs
 | []=>rfl
 | b::bs=>by have I:=Xt bs;unfold zT at I;simp[zT,Zz,nE,I]
noncomputable def qR(bs:List (Int×Int)):List (Int×Int):=(qj bs).map λi=>bs.getD i (0,0)
theorem qJ(bs):(qR bs).Perm bs:=by have:=(jV bs).map λi=>bs.getD i (0,0);rw[jq]at this;exact this
theorem Jx{bs:List (Int×Int)}(h:bs.length<64):eD (zT bs)=cq (zT<|qR bs):=by unfold eD;rw[Xt];show(if (zT bs).length<64 then cq ((qj bs).map λi=>(zT bs).getD i .ez)else cO)=_;rw[Vu,UJ h];unfold qR;congr 1;unfold zT;rw[MB];refine Md λi a=>?_;have a:i<bs.length:=LO.mp<|(jV bs).mem_iff.mp a;simp[a]
noncomputable def vY(n:Int)(b:Int×Int):Prop:=0<=b.1/\b.1<=b.2/\b.2<n
@[simp] noncomputable def bt:=@JA.eq_1
section ap
variable(γ:Ctx)
@[simp] noncomputable def Fs:=@Bi.eq_1
@[simp] noncomputable def pv:=@JD.eq_1
@[simp] noncomputable def pw:=@ae.eq_1
@[simp] noncomputable def Ij:=@IR.eq_1
end ap
noncomputable def lW(b:Int×Int)(r:Int):Bool:=decide (b.1<=r) && decide (r<=b.2)
noncomputable def jO(bs:List (Int×Int))(r:Int):List Nat:=(LL bs.length).filter λi=>lW (bs.getD i (0,0)) r
noncomputable def rj(l:List Nat):List D:=l.map λ(i:Nat)=>D.int i
@[simp] theorem nQ(l):(rj l).length=l.length:=by simp[rj]
theorem YG(bs r):(jO bs r).length<=bs.length:=by have:=PX (λi=>lW (bs.getD i (0,0)) r)<|LL bs.length;simpa[jO]using this
theorem iy(bs:List (Int×Int)):qv (zT bs)=(LL bs.length).map λ(i:Nat)=>D.tup [.int i,.tup [.int (bs.getD i (0,0)).1,.int (bs.getD i (0,0)).2]]:=by unfold qv;rw[Vu];refine Md λi a=>?_;have a:=LO.mp a;simp[zT,a]
theorem vf{bs:List (Int×Int)}(I:bs.length<=lim)(r:Int):QS [.lst (zT bs),.int r]=cq (.own<|rj<|jO bs r):=by
 have a:zP (.tp [0,1]) (sB<|kZ ni ni (di (zh 1)<|zu<|.int 0) (zc 2)<|di (zh 1)<|zu<|.int 1) (zc 0) [Cell.no,Cell.no,Cell.val (.int r)] ((LL bs.length).map λ(i:Nat)=>D.tup [.int i,.tup [.int (bs.getD i (0,0)).1,.int (bs.getD i (0,0)).2]]) =
  cq (((LL bs.length).filter λi=>lW (bs.getD i (0,0)) r).map λ(i:Nat)=>D.int i):=by
  refine jx (λi=>lW (bs.getD i (0,0)) r) (λ(i:Nat)=>D.int i) _ λi e=>⟨_,rfl,?_,λ_=>rfl⟩;generalize bs.getD i (0,0)=b;by_cases h:b.1<=r
  ·simp[lW,h]
  ·simp[lW,h]
 have d:(qv<|zT bs).length=bs.length:=by simp[qv]
 simp only[QS,jo,zZ,WC,j6,pw,qO,Mu,Ru,Mo,MG,LQ,OA,RT,Ox,LX,zW,LR,d,I,if_true];rw[show z5 2 [1] (Cell.val (D.lst<|zT bs)::Cell.val (D.int r)::LQ (2 - (0+1+1)) Cell.no)=[Cell.no,Cell.no,Cell.val (.int r)]from rfl,iy,a];rfl
theorem v9:jr=QS:=rfl
noncomputable def sv(e b:List Nat):D:= .tup [.int e.length,.int b.length,.tup (e.map λx=>D.tup<|b.map λy=>D.int<|if x=y then 1 else 0)]
theorem XW(I:Pr p)(O:h<=100)(C:w<=lim)(f:UV) :
 ∃r B l,Zu [.int p,jf h w f]=cq (.own<|z9 r h B)/\h8 p h r B l/\∀v,Span p h (ej r B) v↔Span p h (ej w λj i=>f i j) v:=by
 obtain⟨r,B,l,e,Q,a⟩:=xT I O C .T λj i=>f i j;have U:=jy;refine⟨r,B,l,?_,Q,a⟩;simp only[r9]at e;have o:=vd f (show h<=lim by omega) C;unfold jf at o ⊢;simp[Zu,jo,zZ,o,e]
theorem Ve(P:Nat->Ctx->Prop) : ∀(ds es:List D) (k:Nat) (γ:Ctx),P k γ->(∀i d γ,ds[i]? = cq d->P (k+i) γ->∃γ',(xG T d γ).bind F=cq (.next γ')/\P (k+i+1) γ')->
 ∃γ',P (k+ds.length) γ'/\qQ T F (ds++es) γ=qQ T F es γ'
 | [],es,k,γ,h,_=>⟨γ,h,rfl⟩
 | d::ds,es,k,γ,h,step=>by
  obtain⟨a,e,f⟩:=step 0 d γ rfl h;obtain⟨γ',g,I⟩:=Ve P ds es (k+1) a (by simpa using f) (λi b O j Q=>by have:=step (i+1) b O (by simpa using j) (by rw[show k+(i+1)=k+1+i by omega];exact Q);rw[show k+(i+1)+1=k+1+i+1 by omega]at this;exact this)
  refine⟨γ',by rw[show k+(d::ds).length=k+1+ds.length by simp;omega];exact g,?_⟩;rw[RT,jF];cases eb:xG T d γ with
  | none=>rw[eb]at e;simp at e
  | some U=>
   rw[eb]at e;simp only[LR]at e ⊢;rw[e];exact I
theorem aX(n:Nat)(v:Vc):qv (zH n v)=(LL n).map λ(i:Nat)=>D.tup [.int i,.int (v i)]:=by unfold qv;rw[aZ];refine Md λi a=>?_;have:=LO.mp a;simp[zH,this]
theorem ve(I:n<=lim)(v:Vc)(J:a<n)(O : ∀i,i<a->v i=0)(C:v a≠0):qT [.tup (zH n v)]=cq (.val<|.int a):=by
 have d:zP (.tp [0,1]) (sB<|zB gv (zc 1)<|zu<|.int 0) (zc 0) [Cell.no,Cell.no] ((LL n).map λ(i:Nat)=>D.tup [.int i,.int (v i)])=cq (((LL n).filter λi=> !decide (v i=0)).map λ(i:Nat)=>D.int i):=by refine jx _ _ _ λi f=>⟨_,rfl,?_,λ_=>rfl⟩;simp
 cases hf:(LL n).filter λi=> !decide (v i=0)with
 | nil=>exact absurd (by have:=YX hf a J;simpa using this) C
 | cons b k6=>
  obtain⟨Y,Q,U⟩:=ZC hf;have e:b=a:=by
   rcases OD a b with z | z | z
   ·exact absurd (by have:=U a z;simpa using this) C
   ·exact z.symm
   ·exact absurd (O b z) (by simpa using Q)
  subst e;rw[hf]at d;simp[qT,jo,zZ,aX,I,z5,LQ,d]
theorem cV(L:a<n)(v I:Vc)(x:Int)(C:I a=x)(J : ∀i,i<n->i≠a->I i=v i):(zH n v).set a (.int x)=zH n I:=by
 apply NK;intro i;rw[Oy];by_cases b:i<n
 ·by_cases e:a=i
  ·subst e;simp[L,zH,C]
  ·have:=J i b (My e)
   simp[e,zH,b,this]
 ·have O:(zH n v)[i]? = cO:=by simp[zH];omega
  have d:(zH n I)[i]? = cO:=by simp[zH];omega
  rw[O,d,UY ⋯]
noncomputable def WE(w:Nat)(B:Nat->Vc)(l:UX)(r:Nat):Vc:=λj=>zf (λk=>if l k=j then B k w else 0) r
noncomputable def yc:=(zM (jB 6<|zA qT<|zb (zc 5) zD)<|zM (h7 (sB<|zB f9 (zc 6)<|zc 3) (j7<|zu .ez) j1)<|JB 4 (zc 6)<|di (zh 5)<|zc 3)
section
variable{p:Int}{h w r:Nat}
theorem aE{l:UX}(I : ∀k m,k<m->m<r->l k<l m){k m:Nat}(O:k<r)(Q:m<r)(e:l k=l m):k=m:=by
 rcases OD k m with z | z | z
 ·have:=I k m z Q;omega
 ·exact z
 ·have:=I m k z O;omega
noncomputable def aug(w:Nat)(f:UV)(b:Vc):Nat->Vc:=λi j=>if j<w then f i j else b i
theorem bP(S:w+1<=lim)(Q:h8 p (w+1) r B l)(hs:s<=r)(Z : ∀k,k<s->l k<w)(es:List D)(L I O:Cell) :
 ∃C J,qQ (.nm 5) yc (z9 s (w+1) B++es) [L,I,O,.val<|.int w,.own<|zH w λ_=>0,.no,.no]=qQ (.nm 5) yc es [L,I,O,.val<|.int w,.own<|zH w<|WE w B l s,C,J]:=by
 obtain⟨A,⟨C,J,rfl⟩,e⟩:=Ve (T:= .nm 5) (F:=yc) (λt n=>∃C J,n=[L,I,O,.val<|.int w,.own<|zH w<|WE w B l t,C,J]) (z9 s (w+1) B) es 0 [L,I,O,.val<|.int w,.own<|zH w λ_=>0,.no,.no]
  ⟨.no,.no,by rw[kj (f:=WE w B l 0) (g:=λ_=>0) λi _=>rfl]⟩ (by
   rintro k d n a ⟨C,J,rfl⟩;rw[MT];have j:k<s:=by have:=(Mj.mp a).1;simpa using this
   have o:d = .tup (zH (w+1)<|B k):=by simp[j]at a;exact a.symm
   subst o;have U:k<r:=by omega
   have b:=Z k j;have le:=ve S (B k) (show l k<w+1 by omega) (λi h=>Q.mA k i U h) (by rw[Q.one k U];decide);refine⟨_,?_,.val<|.tup<|zH (w+1)<|B k,.val<|.int<|l k,rfl⟩;have Y : ¬((l k:Int)=(w:Int)):=by omega
   have u : ¬l k=w:=by omega
   have z:w<w+1:=by omega
   have x:=cV b (WE w B l k) (WE w B l<|k+1) (B k w) (by
    unfold WE;simp only[zf,if_true];rw[zv (g:=λ_=>0) λm y=>by rw[UY λe=>by have:=Q.mono m k y U;omega],zQ]
    omega) (λi h Y=>by
    unfold WE;simp only[zf];rw[UY (My Y)];omega)
   simp[yc,jc,le,Y,u,b,z,x])
 rw[oM]at e;refine⟨C,J,?_⟩;rw[e];rw[MT]
theorem Am(w:Nat)(f:UV)(b:Vc)(i:Nat):zH w (f i)++[.int (b i)]=zH (w+1) (aug w f b i):=by
 unfold zH;rw[NT,Nm];congr 1
 ·exact Md λj I=>by simp[aug,LO.mp I]
 ·simp[aug]
theorem QN(U:Pr p)(S:h<=90)(Z:w<=90)(f:UV)(b:Vc) :
 ∃r B l s,h8 p (w+1) r B l/\(∀v,Span p (w+1) (ej r B) v↔Span p (w+1) (ej h<|aug w f b) v)/\s<=r/\(∀k,k<s->l k<w)/\(∀k,s<=k->k<r->w<=l k)/\
  vt [.int p,jf h w f,.tup (zH h b)]=cq (.val<|if s<r then .ez else .tup (zH w<|WE w B l s)):=by
 have W:=jy;have Q:h<=lim:=by omega
 have Y:w<=lim:=by omega
 have O:w+1<=lim:=by omega
 obtain⟨r,B,l,e,I,n⟩:=xT U (show w+1<=100 by omega) Q .L<|aug w f b;obtain⟨s,j,m,g⟩:=ZT w I.mono;refine⟨r,B,l,s,I,n,j,m,g,?_⟩;have a:zP (.tp [0,1]) jd (zB qD (zc 0)<|xk<|zb (zc 1) zD) [Cell.no,Cell.no] ((LL h).map λi=>D.tup [.tup (zH w<|f i),.int (b i)])=cq (z9 h (w+1)<|aug w f b):=by unfold z9;refine zw _ _ λi E=>zx rfl rfl ?_;simp[qD,O,Am]
 have J:w9 (z9 h w f) (zH h b)=(LL h).map λi=>D.tup [.tup (zH w<|f i),.int (b i)]:=by unfold w9 z9 zH;rw[Py];simp
 have o:LQ w (D.int 0)=zH w λ_=>0:=by rw[fD];rfl
 have y:((w+1:Nat):Int)=(w:Int)+1:=by omega
 simp only[r9]at e;rw[y]at e;obtain⟨d,C⟩ : ∃d,r=s+d:=⟨r - s,by omega⟩;have G:z9 r (w+1) B=z9 s (w+1) B++z9 d (w+1) λk=>B (s+k):=by unfold z9;rw[C,Rw,Nm,MB];rfl
 obtain⟨K,M,F⟩:=bP O I j m (z9 d (w+1) λk=>B<|s+k) (.val<|.int p) (.val<|jf h w f)<|.val<|.tup<|zH h b;have H:jR (jf h w f)=cq (.T,[.int h,.int w,.tup (z9 h w f)]):=rfl;have A:vt=jo 7 (zM (jB 3<|di (zh 1)<|zu<|.int 1)<|zM (vN 4<|sS (jt<|kY<|zb (zu<|.int 0) zD)<|zc 3)<|zM (ZI (zN<|zR<|qf<|jH xU<|zb (zc 0)<|zb (zB qD (zc 3)<|zu<|.int 1)<|zb (qf<|zK (aa (di (zh 1)<|zu<|.int 2)<|zc 2) (.tp [0,1]) 2 [] jd (zB qD (zc 0)<|xk<|zb (zc 1) zD)) zD) (.nm 5) yc)<|j7<|zV<|zh 4):=rfl;rw[A];simp[jo,zZ,jc,H,Y,J,Q,z5,LQ,a,e];rw[o,G,F];by_cases z:s<r
 ·
  have t:d=1:=by
   rcases Mt 1 d with q | q
   ·have N:=I.mono s (s+1) ⋯ ⋯
    have P:=g s (LW _) z;have R:=I.lt (s+1) ⋯;omega
   ·omega
  subst t;have u:l s=w:=by have:=g s (LW _) z;have:=I.lt s z;omega
  have le:=ve O (B s) (show w<w+1 by omega) (λi E=>I.mA s i z ⋯) (by have:=I.one s z;rw[u]at this;rw[this];decide);have one:z9 1 (w+1) (λk=>B<|s+k)=[.tup (zH (w+1)<|B s)]:=rfl;rw[one,jF];simp[yc,jc,le,z]
 ·have x:d=0:=by omega
  subst x;have zero:z9 0 (w+1) (λk=>B<|s+k)=[]:=rfl;rw[zero];simp[qQ,z]
end
section
variable{p p':Int}{m m':Nat}{w w':UK}{wd wd':UX}{T T':UW}
theorem Vv(I:m<=900):vK [jk p m w wd T,jk p m w wd' T']=cO/\qx [jk p m w wd T,jk p m w wd' T']=cq (.val .ez):=by
 have a:=KW (p:=p) (p':=p) (w:=w) (w':=w) (wd:=wd) (wd':=wd') (T:=T) (T':=T') I I;rw[decide_eq_true ⟨rfl,rfl,λ_ _=>rfl⟩]at a;constructor
 ·simp[vK,HJ,zZ,IB,H8,AF,H9,a,LQ]
 ·simp[qx,jo,zZ,a,LQ]
end
@[simp] noncomputable def FB:=@HI.eq_1
section
variable{p:Int}{m:Nat}{w:UK}{wd:UX}{T:UW}{a:Nat}
theorem Yg(F:Nat->Int)(s:Nat) : ∀d,zf F (s+d)=zf F s+zf (λk=>F<|s+k) d
 | 0=>by simp[zf]
 | d+1=>by rw[<- RQ];simp only[zf];rw[Yg F s d];omega
abbrev lk(p:Int)(m:Nat)(w:UK)(wd:UX)(T:UW)(i j:Int)(a:Nat)(ds:List D)(c:Cell):Ctx:=[.val (jk p m w wd T),.val (.int i),.val (.int j),.val (jf a a λi j=>if i=j then 1 else 0),.own ds,c]
end
@[simp] noncomputable def Ew:=@FU.eq_1
section
variable{p:Int}{m:Nat}{w:UK}{wd:UX}{T:UW}
theorem yF:jR (jk p m w wd T)=cq (.T,[.int p,.tup<|zH (m+1) λk=>(wd k:Int),.tup (jL m w wd T)]):=rfl
end
@[simp] theorem Ex(γ:Ctx)(f):JD f γ=(f γ).bind λd=>match d with
 | .str z=>if j3 z=cM then cq (qv<|xm z)else cO
 | _=>cO:=rfl
theorem XN(m:Nat)(w:UK):qv (xm<|qZ m w)=(LL m).map λ(k:Nat)=>D.tup [.int k,.str (qA<|ft<|w k)]:=by
 have e:xm (qZ m w)=(LL m).map λk=>D.str (qA<|ft<|w k):=by unfold xm;rw[xB,MB];rfl
 unfold qv;rw[e];simp only[Mm,Nc];refine Md λk I=>?_;simp[LO.mp I]
noncomputable def pr(a b:Nat):D:= .tup [.int a,.int b]
@[simp] theorem HM(a b):jR (pr a b)=cq (.T,[.int (a:Int),.int (b:Int)]):=rfl
theorem Kt(a c:Nat):(if a<c then (c:Int)else (a:Int))=((max a c:Nat):Int):=by
 by_cases h:c>a
 ·rw[UJ h,Nat.max_eq_right ⋯]
 ·rw[UY h,Nat.max_eq_left ⋯]
theorem Kr(a c:Nat):(if c<a then (c:Int)else (a:Int))=((min a c:Nat):Int):=by
 by_cases h:c<a
 ·rw[UJ h,Nat.min_eq_right ⋯]
 ·rw[UY h,Sg ⋯]
noncomputable def p6(w:UK)(a c:Nat):Bool:=decide (a=c) || (w (max a c - 1)==decide (a<c))
noncomputable def o9(w:UK)(b d:Nat):Bool:=decide (b=d) || (w (min b d)==decide (b<d))
section
variable{m a b c d:Nat}{w:UK}
theorem lN(O:m<=5)(C:a<=m)(J:c<=m):xR [.str (qZ m w),pr a b,pr c d]=cq (.val<|.bl<|p6 w a c):=by
 by_cases q:a=c
 ·subst q
  simp[xR,jo,zZ,jc,p6]
 ·have I : ¬((a:Int)=(c:Int)):=by omega
  have e:xo (zc 0) (zB vB (eT (di (zh 1)<|zu<|.int 0)<|di (zh 2)<|zu<|.int 0)<|zu<|.int 1) [Cell.val (.str<|qZ m w),Cell.val<|pr a b,Cell.val (pr c d)]=cq (.str<|qA<|ft<|w<|max a c - 1):=by refine wj w ⋯ ⋯ _ _ _ rfl ?_;simp[Kt];omega
  simp only[xR,jo,zZ,jc,LQ,Mo,MG];simp[-Jk,I,e];by_cases l:a<c
  ·have f:(a:Int)<c:=by omega
   simp[l,aW,p6,q]
  ·simp[l,Zr,p6,q]
theorem dm(O:m<=5)(C:b<=m)(J:d<=m):xw [.str (qZ m w),pr a b,pr c d]=cq (.val<|.bl<|o9 w b d):=by
 by_cases q:b=d
 ·subst q
  simp[xw,jo,zZ,jc,o9]
 ·have I : ¬((b:Int)=(d:Int)):=by omega
  have f:xo (zc 0) (bV (di (zh 1)<|zu<|.int 1)<|di (zh 2)<|zu<|.int 1) [Cell.val (.str<|qZ m w),Cell.val<|pr a b,Cell.val (pr c d)]=cq (.str<|qA<|ft<|w<|min b d):=by refine wj w ⋯ ⋯ _ _ _ rfl ?_;simp[Kr]
  simp only[xw,jo,zZ,jc,LQ,Mo,MG];simp[-Jk,I,f];by_cases l:d<b
  ·have e : ¬b<d:=by omega
   simp[l,e,Zr,o9,q]
  ·have e:b<d:=by omega
   simp[l,e,aW,o9,q]
noncomputable def u7(w:UK)(a b c d:Nat):Bool:=decide (max a c<=min b d) && (p6 w a c && o9 w b d)
theorem K0(O:m<=5)(C:a<=m)(Q:b<=m)(U:c<=m)(J:d<=m):kx [.str (qZ m w),pr a b,pr c d]=cq (.val<|.int<|if u7 w a b c d=cM then 1 else 0):=by
 have e:=lN (b:=b) (d:=d) (w:=w) O C U;have Y:=dm (a:=a) (c:=c) (w:=w) O Q J;simp only[kx,jo,zZ,jc,LQ,Mo,MG];by_cases q:max a c<=min b d
 ·have I : ¬((min b d:Nat):Int)<((max a c:Nat):Int):=by omega
  simp[Kt,Kr,I,e,u7,q];cases h1:p6 w a c
  ·simp[h1]
  ·simp[h1,Y]
   cases h2:o9 w b d<;>simp[h2]
 ·have I:((min b d:Nat):Int)<((max a c:Nat):Int):=by omega
  simp[Kt,Kr,I,u7,q]
end
noncomputable def mk(lo:Nat)(ch:List Int)(r:Nat):Int:=if lo<=r then ch.getD (r - lo) 0 else 0
noncomputable def UA:=jB 3<|qf<|zK (ju<|zB qD (VP<|zc 0)<|zu<|.int 1) (.nm 0) 1 [1,2] (ZJ (sB<|kZ ni ni (di (zh 1)<|zu<|.int 0) (zc 0)<|di (zh 1)<|zu<|.int 1)<|sB<|kZ ni ni (di (zh 2)<|zu<|.int 0) (zc 0)<|di (zh 2)<|zu<|.int 1) (zc 0)
noncomputable def M8:=jB 4<|qf<|kY<|zb (qf<|kY zD) zD
noncomputable def K2(h w:Nat)(f:UV):List D:=(LL h).map λi=>D.lst<|zH w<|f i
@[simp] theorem nZ(h w f):(K2 h w f).length=h:=by simp[K2]
theorem yd(ds:List D):jR (.lst ds)=cq (.L,ds):=rfl
theorem jW(ds:List D):jR (.tup ds)=cq (.T,ds):=rfl
theorem ag(s:Nat)(f:Nat->α):(LL<|s+1).map f=(LL s).map f++[f s]:=by rw[NT,Nm];rfl
theorem uN(w:UK)(wd:UX)(k:Nat):wd (z6 w k)=gm w wd k:=by unfold z6 gm;split<;>rfl
theorem rR(w:UK)(wd:UX)(k:Nat):wd (zS w k)=f7 w wd k:=by unfold zS f7;split<;>rfl
theorem uW{w:UK}{k m:Nat}(h:k<m):z6 w k<m+1:=by unfold z6;split<;>omega
theorem Ak{w:UK}{k m:Nat}(h:k<m):zS w k<m+1:=by unfold zS;split<;>omega
theorem AI{m k:Nat}(h:k<m+1)(wd:UX):(zH (m+1) λk=>(wd k:Int))[k]? = cq (.int (wd k:Int)):=by unfold zH;simp[h]
theorem AH(m:Nat)(wd:UX):(zH (m+1) λk=>(wd k:Int)).length=m+1:=by simp[zH]
theorem lu(s w wd T):jL (s+1) w wd T=jL s w wd T++[xy w wd T s]:=ag _ _
section
variable{p:Int}{m:Nat}{w:UK}{wd wd':UX}{T T' J:UW}
theorem wt(p m w wd T):jR (jk p m w wd T)=cq (.T,[.int p,.tup<|zH (m+1) λk=>(wd k:Int),.tup (jL m w wd T)]):=rfl
noncomputable def Yq(m:Nat)(w:UK)(wd wd':UX):List D:=(LL m).map λk=>D.tup [.int (gm w wd k:Nat),.int (f7 w wd' k:Nat)]
theorem sQ(C:m<=4):yD [jk p m w wd' T',jk p m w wd T]=cq (.own<|Yq m w wd wd'):=by
 have t:=jy;have d:m<=lim:=by omega
 have s:=wt p m w wd T;have x1:=wt p m w wd' T';have r:=kQ (p:=p) (wd:=wd') (T:=T') (w:=w) (show m<=900 by omega);have e:=Ze w (show m<=1000 by omega);have l:2<=lim:=by omega
 have a:zP (.tp [0,1]) jd (xk<|zb (di (zR<|di (zh 3)<|zu<|.int 1)<|zA vx<|zb (zc 0)<|zb (zc 1) zD)<|zb (di (zR<|di (zh 2)<|zu<|.int 1)<|zA qw<|zb (zc 0)<|zb (zc 1) zD) zD) [Cell.no,Cell.no,Cell.val<|jk p m w wd' T',Cell.val (jk p m w wd T)] ((LL m).map λ(k:Nat)=>D.tup [.int k,.str (qA<|ft<|w k)])=cq (Yq m w wd wd'):=by unfold Yq;refine zw _ _ λk I=>zx rfl rfl ?_;have I:=LO.mp I;have O:=uW (w:=w) I;have Q:=Ak (w:=w) I;have U:=AI O wd;have Y:=AI Q wd';rw[uN w wd]at U;rw[rR w wd']at Y;have g:=pF w k;have h:=Xh w k;have j:i3 3 1=cq 1:=rfl;show xk _ [Cell.val (.int (k:Int)),Cell.val<|.str<|qA<|ft<|w k,Cell.val<|jk p m w wd' T',Cell.val (jk p m w wd T)]=_;simp only[wX,qo,x9,vX,vq,jT,qO,kJ,va,LX,LY,Mo,MG,MT,Nx,zW,zX,LR,Mf,s,x1,qm,j,jW,g,h,pS,AH,xD,O,Q,if_true,U,Y,l]
 have i:(qv<|xm<|qZ m w).length<=lim:=by rw[XN];simpa using d
 have n:(jB 2<|zA xu<|zb (zc 0) zD) (zZ 3 [jk p m w wd' T',jk p m w wd T])=cq (.next [.val (jk p m w wd' T'),.val<|jk p m w wd T,.val (.str<|qZ m w)]):=by simp[zZ,LQ,r]
 have o:(vz<|zK (JD<|zc 2) (.tp [0,1]) 2 [0,1] jd (xk<|zb (di (zR<|di (zh 3)<|zu<|.int 1)<|zA vx<|zb (zc 0)<|zb (zc 1) zD)<|zb (di (zR<|di (zh 2)<|zu<|.int 1)<|zA qw<|zb (zc 0)<|zb (zc 1) zD) zD)) [.val (jk p m w wd' T'),.val<|jk p m w wd T,.val (.str<|qZ m w)]=cq (.ret<|.own<|Yq m w wd wd'):=by
  have b:JD (zc 2) [.val (jk p m w wd' T'),.val<|jk p m w wd T,.val (.str<|qZ m w)]=cq (qv<|xm<|qZ m w):=by show(if j3 (qZ m w)=cM then _ else _)=_;rw[UJ e]
  have pc:z5 2 [0,1] [.val (jk p m w wd' T'),.val<|jk p m w wd T,.val (.str<|qZ m w)]=[Cell.no,Cell.no,Cell.val<|jk p m w wd' T',Cell.val (jk p m w wd T)]:=rfl;show((zK _ _ _ _ _ _ _).map λf=>Fl.ret<|.own f)=_;rw[j6,b];simp only[LR];rw[UJ i,XN,pc,a];rfl
 exact jm<|zo n o
end
section
variable{p:Int}{m:Nat}{w:UK}{wd wd':UX}{T T' J:UW}
theorem VI(h w f):jR (jf h w f)=cq (.T,[.int (h:Int),.int (w:Int),.tup (z9 h w f)]):=rfl
theorem Zs(h w f):(z9 h w f).length=h:=by simp[z9]
theorem Wp(s w:Nat)(f:UV):z9 (s+1) w f=z9 s w f++[.tup (zH w<|f s)]:=ag _ _
end
noncomputable def wl(l:List Bool):Str:=⟨⟨l.map ft⟩⟩
noncomputable def Gk(n k:Nat)(u:Nat->Int):Int:=if 0<k then (if k+1<n then u (k - 1)+(u (k+1)+0)else u (k - 1)+0)else if k+1<n then u (k+1)+0 else 0
noncomputable def mv(n k:Nat)(u:Nat->Int)(i:Nat):Int:=if i=k then Gk n k u - u k else u i
noncomputable def off(hs ws:UX):Nat->Nat
 | 0=>0
 | k+1=>off hs ws k+hs k*ws k
noncomputable def A3(n:Nat)(hs ws:UX):List D:=(LL n).map λk=>D.tup [.int (hs k:Nat),.int (ws k:Nat)]
section
variable{hs ws:UX}{T:UW}
theorem cW(n f):(zH n f).length=n:=by simp[zH]
theorem sC(n hs ws):(A3 n hs ws).length=n:=by simp[A3]
theorem gE(hs ws:UX) : ∀n,zf (λk=>(hs k:Int)*(ws k:Int)) n=(off hs ws n:Nat)
 | 0=>rfl
 | n+1=>by show zf _ n+_=((off hs ws n+hs n*ws n:Nat):Int);rw[gE hs ws n,Int.natCast_add,Int.natCast_mul]
theorem wF{n:Nat}(Y:n<=100)(C : ∀k,ws k<=100):kR [.lst (A3 n hs ws)]=cq (.val<|.int (off hs ws n:Nat)):=by
 have d:=jy;have I:n<=lim:=by omega
 have a:zP (.tp [0,1]) jd (zB kX (zc 0)<|zc 1) [Cell.no,Cell.no] (A3 n hs ws)=cq (zH n λk=>(hs k:Int)*(ws k:Int)):=by unfold A3;rw[z7 n λk=>(hs k:Int)*(ws k:Int)];refine zw _ _ λk b=>zx rfl rfl ?_;have O:XR (hs k:Int) (ws k:Int)=cM:=Vo _ _ ⋯ (by have:=C k;omega);show zB _ _ _ [Cell.val (.int (hs k:Nat)),Cell.val (.int (ws k:Nat))]=_;simp[O]
 have Q:=wg (λk=>(hs k:Int)*(ws k:Int)) n;have U:=sC n hs ws;refine jm ?_;show((bU _) [.val (.lst<|A3 n hs ws)]).map _=_;simp only[Vw,xt,j6,qX,jT,LX,zX,yd,Mf,LR,U,I,if_true];rw[show z5 2 [] [Cell.val (.lst<|A3 n hs ws)]=[Cell.no,Cell.no]from rfl,a];simp only[Mf,LR,Q,gE]
end
section
variable{p:Int}{m:Nat}{w:UK}{wd wd':UX}{T T' S:UW}
theorem Kd(Q:m<=4):vc [jk p m w wd' T',jk p m w wd T]=cq (.own<|A3 (m+1) wd wd'):=by
 have U:=jy;have I:m+1<=lim:=by omega
 have O:=wt p m w wd T;have x1:=wt p m w wd' T';have a:i3 3 1=cq 1:=rfl;have z:w9 (zH (m+1) λk=>(wd k:Int)) (zH (m+1) λk=>(wd' k:Int))=A3 (m+1) wd wd':=v7 (m+1) (λk=>(wd k:Int)) λk=>(wd' k:Int);refine jm ?_;show((eU _ _) [.val (jk p m w wd' T'),.val (jk p m w wd T)]).map _=_;simp only[pq,vX,jT,kJ,LX,LY,Mo,MG,MT,Nx,zX,LR,Mf,O,x1,qm,a,jW,cW,I,if_true,z]
end
theorem Aq(h : ∀k,k<r->l k≠j):WE w B l r j=0:=by unfold WE;rw[zv (g:=λ_=>0) λk I=>UY<|h k I,zQ]
theorem Ez{p:Int}{w n r:Nat}{B:Nat->Vc}{l:UX}(O:h8 p n r B l){k:Nat}(I:k<r):WE w B l r (l k)=B k w:=by unfold WE;rw[zL I λm Q U=>UY λe=>U<|aE O.mono Q I e,UJ rfl]
theorem mB{p:Int}{h w:Nat}{f:UV}{b y:Vc}(U : ∀i,i<h->zf (λj=>f i j*y j) w%p=b i%p){v:Vc}(Y:Span p (w+1) (ej h<|aug w f b) v):(v w - zf (λj=>v j*y j) w)%p=0:=by
 induction Y with
 | @zero v O=>
  have e:zf (λj=>v j*y j) w%p=zf (λ_=>0) w%p:=zI λj Q=>by rw[LZ,O j ⋯];simp
  rw[NY,e,O w ⋯,zQ];simp
 | @step v I g c n s a r=>
  obtain⟨i,o,rfl⟩:=n;have d:zf (λj=>v j*y j) w%p=(zf (λj=>I j*y j) w+c*zf (λj=>f i j*y j) w)%p:=by
   rw[<- jg,<- jJ];refine zI λj Q=>?_;rw[LZ,a j ⋯,<- LZ];have:aug w f b i j=f i j:=by simp[aug,Q]
   rw[this,RU,MW]
  have k:v w%p=(I w+c*b i)%p:=by
   rw[a w ⋯];have:aug w f b i w=b i:=by simp[aug]
   rw[this]
  have l:(c*zf (λj=>f i j*y j) w)%p=(c*b i)%p:=by rw[LZ,U i o,<- LZ]
  rw[NY,d,k,<- NY];have m:(I w+c*b i - (zf (λj=>I j*y j) w+c*zf (λj=>f i j*y j) w))=(I w - zf (λj=>I j*y j) w)+(c*b i - c*zf (λj=>f i j*y j) w):=by omega
  rw[m,MY,r,NY,l];simp
theorem mC(U:Pr p)(J:h<=90)(L:w<=90)(f:UV)(b y:Vc)(Q : ∀i,i<h->0<=b i/\b i<p)(S : ∀i,i<h->zf (λj=>f i j*y j) w%p=b i) :
 ∃x:Vc,vt [.int p,jf h w f,.tup (zH h b)]=cq (.val<|.tup<|zH w x)/\(∀j,0<=x j/\x j<p)/\∀i,i<h->zf (λj=>f i j*x j) w%p=b i:=by
 have K:=U.pos;obtain⟨r,B,l,s,O,Y,T,o,M,d⟩:=QN U J L f b;have t : ¬s<r:=λz=>by
  have P:=O.lt s z;have R:=M s (LW _) z;have E:l s=w:=by omega
  have N:=(Y<|B s).mp (.gen ⟨s,z,rfl⟩);have q:=mB (y:=y) (λi a=>by rw[S i a,Nn (Q i a).1 (Q i a).2]) N;have n:=O.one s z;rw[E]at n;have G:zf (λj=>B s j*y j) w=0:=by rw[zv (g:=λ_=>0) λj H=>by rw[O.mA s j z ⋯];simp];exact zQ _
  rw[n,G,Int.sub_zero,U.one]at q;omega
 rw[UY t]at d;have F:s=r:=by omega
 subst F;refine⟨_,d,λj=>?_,λi a=>?_⟩
 ·by_cases e : ∃k,k<s/\l k=j
  ·obtain⟨k,I,rfl⟩:=e
   rw[Ez O I];exact O.l0 k w I ⋯
  ·rw[Aq λk I C=>e ⟨k,I,C⟩];exact⟨Int.le_refl _,K⟩
 ·have m:=ZM O ((Y<|aug w f b i).mpr (.gen ⟨i,a,rfl⟩)) w ⋯
  have u:aug w f b i w=b i:=by simp[aug]
  rw[u,Nn (Q i a).1 (Q i a).2]at m;rw[m];congr 1;unfold WE;rw[zv (g:=λj=>zf (λk=>f i j*(if l k=j then B k w else 0)) s) λj _=>(jg _ _ _).symm,qh];refine zv λk I=>?_;rw[zL (i:=l k) (o k I) λj H A=>by rw[UY (My A)];simp,UJ rfl];simp only[aug,UJ (o k I)]
noncomputable def kP(wd:UX)(b:eA):List D:=(LL b.n).map λi=>D.tup<|zH (wd<|b.s+i)<|b.v<|b.s+i
noncomputable def qt(wd:UX)(b:eA):D:= .tup [.int b.s,.tup (kP wd b)]
@[simp] theorem cI(wd b):(kP wd b).length=b.n:=by simp[kP]
theorem aH(h:i<b.n):(kP wd b)[i]? = cq (.tup<|zH (wd<|b.s+i)<|b.v<|b.s+i):=by simp[kP,h]
@[simp] theorem GU(wd b):jR (qt wd b)=cq (.T,[.int b.s,.tup (kP wd b)]):=rfl
section
variable{wd:UX}{b:eA}{m6:List eA}
theorem Xl(C:1<=b.n)(I:b.s+b.n<=100):qb [qt wd b]=cq (.val<|.tup [.int b.s,.int ((b.s+b.n - 1:Nat):Int)]):=by
 have e:((b.s:Int)+(b.n:Int) - 1)=((b.s+b.n - 1:Nat):Int):=by omega
 simp[qb,jo,zZ,qt,LQ];omega
theorem yx(I:b.s+b.n<=100)(r:Nat):j8 [qt wd b,.int r]=cq (.val<|.bl<|b.has r):=by
 by_cases h:b.s<=r
 ·by_cases a:r<b.s+b.n
  ·have:(r:Int)<(b.s:Int)+b.n:=by omega
   simp[j8,jo,zZ,qt,LQ,eA.has,h,a,this]
  ·have : ¬((r:Int)<(b.s:Int)+b.n):=by omega
   simp[j8,jo,zZ,qt,LQ,eA.has,h,a,this]
 ·simp[j8,jo,zZ,qt,LQ,eA.has,h]
theorem vS{N:Nat}{A:Nat->eA}(I : ∀j,j<N->(A j).s+(A j).n<=100)(O:N<=lim)(r:Nat) :
 xh [.lst ((LL N).map λj=>qt wd<|A j),.int r]=cq (.own<|((LL N).filter λj=>(A j).has r).map λj=>D.tup<|zH (wd r)<|(A j).v r):=by
 simp only[xh,jo,zZ,WC,j6,qX,jT,Mu,Ru,Mo,MG,LQ,OA,RT,Ox,LX,vV,jR,Mf,LR,Mm,Nc,O,if_true];rw[jx (λj=>(A j).has r) (λj=>D.tup<|zH (wd r)<|(A j).v r) (LL N) λj Q=>⟨_,rfl,?_,λY=>?_⟩]
 ·rfl
 ·have e:=yx (wd:=wd) (I j<|LO.mp Q) r
  simp[z5,e]
 ·obtain⟨b,g⟩:=i6.mp Y
  obtain⟨i,rfl⟩:=Nat.exists_eq_add_of_le b;have a:i<(A j).n:=by omega
  have f:(((A j).s+i:Nat):Int) - ((A j).s:Int)=(i:Int):=by omega
  have U:=aH (wd:=wd) a;have O:=jy;have d:=I j<|LO.mp Q;simp[z5,qt,a,U];rw[show((A j).s:Int)+(i:Int) - ((A j).s:Int)=(i:Int)by omega,xD,UJ a];exact U
theorem Zt(g:Nat->Vc)(I:q<=lim)(O:h<=lim):kM [.int h,.lst (z9 q h g)]=cq (.val<|jf h q λi j=>g j i):=by have e:=vd (h:=q) (w:=h) g I O;unfold jf at e;simp[kM,jo,zZ,LQ,I,e];rfl
theorem aG(h:Nat)(u:Nat->Vc)(L:List Nat):(L.map λj=>D.tup<|zH h<|u j)=z9 L.length h λi=>u (L.getD i 0):=by
 unfold z9
 conv=>lhs;rw[<- jq 0 L]
 rw[MB];rfl
theorem nY(u:Nat->Int)(L:List Nat):(L.map λj=>D.int<|u j)=zH L.length λi=>u (L.getD i 0):=by
 unfold zH
 conv=>lhs;rw[<- jq 0 L]
 rw[MB];rfl
theorem vg(P:UK)(g:Nat->Int) : ∀N,zf (λi=>g<|((LL N).filter P).getD i 0) ((LL N).filter P).length=zf (λj=>if P j=cM then g j else 0) N
 | 0=>rfl
 | N+1=>by
  have I:=vg P g N;rw[NT,Rv];show _=zf _ N+_;rw[<- I];cases hP:P N with
  | false=>simp[hP]
  | true=>
   have e:([N].filter P)=[N]:=by simp[hP]
   rw[e,Nf,NU];show zf _ _+_=_;simp only[if_true];congr 1
   ·refine zv λi a=>?_
    simp[LS,Nk a]
   ·simp[LS,hP]
end
section
variable{wd:UX}{N m:Nat}{A:Nat->eA}{p:Int}{w:UK}{T:UW}{t:Vc}
theorem lZ:w9 (zH N t) ((LL N).map λj=>qt wd<|A j)=(LL N).map λj=>D.tup [.int (t j),qt wd (A j)]:=by
 unfold w9 zH;rw[List.zip_map,MB];have e:(LL N).zip (LL N)=(LL N).map λi=>(i,i):=by rw[List.zip_eq_zipWith,List.zipWith_self]
 rw[e,MB];rfl
theorem Kq(Q:Pr p)(U : ∀j,j<N->(A j).s+(A j).n<=100)(J:N<=60)(S:m<=5)(Y : ∀k,wd k<=60)(Z:r<=m)(C : ∀j i,j<N->(A j).has r=cM->i<wd r->0<=(A j).v r i/\(A j).v r i<p) :
 kT [jk p m w wd T,.lst<|(LL N).map λj=>qt wd<|A j,.tup<|zH N t,.int r]=cq (.val<|.tup<|zH (wd r)<|o3 p A N t r):=by
 have E:=jy;have G:=Q.le;have B:=Y r;have a:=vS (wd:=wd) U (show N<=lim by omega) r;rw[aG (wd r) (λj=>(A j).v r)]at a;have F:((LL N).filter λj=>(A j).has r).length<=N:=by have:=PX (λj=>(A j).has r)<|LL N;simpa using this
 have g:=Zt (q:=((LL N).filter λj=>(A j).has r).length) (h:=wd r) (λi=>(A<|((LL N).filter λj=>(A j).has r).getD i 0).v r) ⋯ ⋯;have I:=bu (p:=p) (h:=wd r) (w:=((LL N).filter λj=>(A j).has r).length) .L (λi j=>(A<|((LL N).filter λj=>(A j).has r).getD j 0).v r i) (λi=>t<|((LL N).filter λj=>(A j).has r).getD i 0) Q.pos ⋯ ⋯ (λi j y O=>by
  have b:((LL N).filter λj=>(A j).has r).getD j 0∈(LL N).filter λj=>(A j).has r:=by rw[LS,LP O];exact OL _
  obtain⟨u,x⟩:=MA.mp b;have:=C _ i (LO.mp u) (by simpa using x) y;omega)
 have l:(zH (wd r) λi=>zf (λj=>(A<|((LL N).filter λj=>(A j).has r).getD j 0).v r i*t (((LL N).filter λj=>(A j).has r).getD j 0)) ((LL N).filter λj=>(A j).has r).length%p)=zH (wd r) (o3 p A N t r):=kj λi _=>by unfold o3;rw[vg (λj=>(A j).has r) (λj=>(A j).v r i*t j) N];congr 1;refine zv λj _=>?_;rw[MU]
 rw[l]at I;have o:zP (.tp [0,1]) (sB<|zA j8<|zb (zc 1)<|zb (zc 2) zD) (zc 0) [.no,.no,.val (.int r)] ((LL N).map λj=>D.tup [.int (t j),qt wd (A j)])=cq (zH ((LL N).filter λj=>(A j).has r).length λi=>t<|((LL N).filter λj=>(A j).has r).getD i 0):=by rw[<- nY];refine jx (λj=>(A j).has r) (λj=>D.int<|t j) _ λj O=>⟨_,rfl,?_,λ_=>rfl⟩;have e:=yx (wd:=wd) (U j<|LO.mp O) r;simp[e]
 have d:r<m+1:=by omega
 have z:=lZ (N:=N) (wd:=wd) (t:=t) (A:=A);simp only[r9]at I;have f:N<=lim:=by omega
 refine jm<|zo (γ':=[.val (jk p m w wd T),.val<|.lst<|(LL N).map λj=>qt wd<|A j,.val<|.tup<|zH N t,.val<|.int r,.val (.lst<|zH ((LL N).filter λj=>(A j).has r).length λi=>t<|((LL N).filter λj=>(A j).has r).getD i 0)]) ?_ ?_
 ·simp[-LS,zZ,z5,LQ,z,o,f]
 ·simp[-LS,jk,a,g,I,d]
theorem nU(Y:Pr p)(O : ∀j,j<N->(A j).s+(A j).n<=m+1)(L:N<=60)(S:m<=5)(J : ∀k,wd k<=60)(Z : ∀j r i,j<N->(A j).has r=cM->i<wd r->0<=(A j).v r i/\(A j).v r i<p)(C:a<N)(t0 : ∀i,i<a->t i=0)(t1:t a≠0) :
 KY [jk p m w wd T,.lst<|(LL N).map λj=>qt wd<|A j,.tup (zH N t)]=cq (.val<|qt wd<|D0 p A N t a):=by
 have z:=jy;have d:N<=lim:=by omega
 have g:=ve d t C t0 t1;have y:=O a C;have h:zP (.nm 0) jd (zA kT<|zb (zc 1)<|zb (zc 2)<|zb (zc 3)<|zb (zB qD (di (zh 4)<|zu<|.int 0)<|zc 0) zD) [.no,.val<|jk p m w wd T,.val<|.lst<|(LL N).map λj=>qt wd<|A j,.val<|.tup<|zH N t,.val (qt wd<|A a)] ((LL (A a).n).map λ(i:Nat)=>D.int i)=cq (kP wd<|D0 p A N t a):=by
  unfold kP;refine zw _ _ λi b=>zx rfl rfl ?_;have b:=LO.mp b;have e:=Kq (T:=T) (w:=w) (t:=t) Y (λj I=>by have:=O j I;omega) L S J (r:=(A a).s+i) (by have:i<(A a).n:=b;omega) λj c I u o=>Z j _ c I u o;have l:(((A a).s+i:Nat):Int)=((A a).s:Int)+(i:Int):=by omega
  rw[l]at e;have B:inR (((A a).s:Int)+(i:Int))=cM:=decide_eq_true (by have:i<(A a).n:=b;omega);simp[e];rfl
 have Q:(A a).n<=lim:=by omega
 have x:inR ((A a).n:Int)=cM:=decide_eq_true ⋯;refine jm<|zo (γ':=[.val (jk p m w wd T),.val<|.lst<|(LL N).map λj=>qt wd<|A j,.val<|.tup<|zH N t,.val<|qt wd<|A a,.no]) ?_ (zo (γ':=[.val (jk p m w wd T),.val<|.lst<|(LL N).map λj=>qt wd<|A j,.val<|.tup<|zH N t,.val<|qt wd<|A a,.val (.lst<|kP wd<|D0 p A N t a)]) ?_ ?_)
 ·simp[zZ,LQ,g,C]
 ·have U:=h
  rw[show((LL (A a).n).map λ(i:Nat)=>D.int i)=zH (A a).n λi=>(i:Int)from rfl]at U;simp[z5,jY,x,Q,U]
 ·have f:(D0 p A N t a).n<=lim:=Q
  simp[cI,f];rfl
end
noncomputable def b1:=(h7 (jX<|sB<|zA XX<|zb (zc 1) zD) Ys j1)
noncomputable def b2:=(jB 3<|zB qD (VP<|zc 1)<|zu<|.int 1)
noncomputable def b3:=(h7 (jX<|sB<|Aw<|jt<|zK (zN<|zh 2) (.nm 0) 1 [3] jd (zA ZF<|zb (zc 1)<|zb (zc 0) zD)) Ys j1)
noncomputable def b4:=(jB 4<|qf<|JA<|zh 2)
noncomputable def x1:CO Xn:=(H8 (jX (sB (zA XX (zb (zc 1) zD)))) (AF "NoRow") H9)
noncomputable def x3:CO Xn:=(H8 (jX (sB (Aw (jt (zK (zN (zh 2)) (.nm 0) 1 [3] jd (zA ZF (zb (zc 1) (zb (zc 0) zD)))))))) (AF "NoRow") H9)
noncomputable def x7:CO Xn:=(H8 (sB (zB qq (bU (zh 6)) (zu (.int 30)))) (AF "TooMany") H9)
theorem iw(m:Nat)(w:UK):qv (xm<|qZ m w)=(LL m).map λ(k:Nat)=>D.tup [.int k,.str (qA<|ft<|w k)]:=by
 have e:xm (qZ m w)=(LL m).map λk=>D.str (qA<|ft<|w k):=by unfold xm;rw[xB,MB];rfl
 unfold qv;rw[e];simp only[Mm,Nc];refine Md λk I=>?_;simp[LO.mp I]
noncomputable def EI(n:Int)(b:Int×Int):Bool:=decide<|0<=b.1/\b.1<n/\0<=b.2/\b.2<n/\b.1<=b.2
noncomputable def Bp(m:Nat)(bs:List (Int×Int)):List D:=(LL<|m+1).map λ(r:Nat)=>D.lst<|rj<|jO bs r
noncomputable def qP(m:Nat)(bs:List (Int×Int)):List D:=zH (m+1) λr=>((jO bs r).length:Int)
noncomputable def vW(m:Nat)(w:UK)(bs:List (Int×Int)):List D:=(LL m).map λk=>D.tup [.str (qA<|ft<|w k),sv (jO bs<|z6 w k) (jO bs<|zS w k)]
noncomputable def BR(p:Int)(m:Nat)(w:UK)(bs:List (Int×Int)):D:= .tup [.int p,.tup<|qP m bs,.tup (vW m w bs)]
section
variable{p:Int}{m:Nat}{w:UK}{bs:List (Int×Int)}
abbrev g0(p:Int)(z:Str)(bs:List (Int×Int)):Ctx:=[.val (.int p),.val (.str z),.val (.lst (zT bs)),.no,.no,.no,.no,.no]
abbrev g2(p:Int)(z:Str)(m:Nat)(bs:List (Int×Int)):Ctx:=[.val (.int p),.val (.str z),.val (.lst (zT bs)),.val (.int ((m+1:Nat):Int)),.no,.no,.no,.no]
abbrev g6(p:Int)(z:Str)(m:Nat)(bs:List (Int×Int)):Ctx:=[.val (.int p),.val (.str z),.val (.lst (zT bs)),.val (.int ((m+1:Nat):Int)),.val (.lst (zT (qR bs))),.val (.lst (Bp m (qR bs))),.val (.tup (qP m (qR bs))),.no]
theorem VD:(qP m bs).length=m+1:=by simp[qP]
end
theorem JX:qc=jo 10 (zM (jB 3<|qf<|zK (ju<|zB qD (VP<|zc 1)<|zu<|.int 1) (.nm 0) 1 [2] jd (yJ<|jt<|jH jr<|zb (zc 1)<|zb (zc 0) zD))<|zM (vN 4<|kY zD)<|zM (ZI (JD<|zc 1) (.tp [5,6]) cH)<|j7<|xk<|zb (zc 0)<|zb (zV<|zh 3)<|zb (zV<|zh 4) zD):=rfl
section
variable{p:Int}{m:Nat}{w:UK}{bs:List (Int×Int)}
theorem lj(w:UK)(k:Nat):((k:Int)+if w k=cM then 1 else 0)=((zS w k:Nat):Int):=by unfold zS;split<;>omega
theorem iB(w:UK)(k:Nat):((k:Int)+if (!w k)=cM then 1 else 0)=((z6 w k:Nat):Int):=by unfold z6;cases w k<;>simp
theorem uH{b:List Nat}(x:Nat):zP (.nm 0) jd (ka<|zB f9 (zc 1)<|zc 0) [Cell.no,Cell.val (.int x)] (rj b)=cq (b.map λy=>D.int<|if x=y then 1 else 0):=by
 unfold rj;refine zw _ _ λy I=>zx rfl rfl ?_;by_cases h:x=y
 ·simp[h]
 ·have a : ¬((x:Int)=(y:Int)):=by omega
  simp[h,a]
abbrev lc(p:Int)(m:Nat)(w:UK)(bs:List (Int×Int))(acc:List D)(c5 c6 c7 c8 c9:Cell):Ctx:=[.val (.int p),.val (.str (qZ m w)),.val (.lst (zT bs)),.val (.lst (qP m bs)),.own acc,c5,c6,c7,c8,c9]
noncomputable def br(w:UK)(bs:List (Int×Int))(k:Nat):D:=D.tup [.str (qA<|ft<|w k),sv (jO bs<|z6 w k) (jO bs<|zS w k)]
theorem gN(hm:m<=5)(hb:bs.length<64){k:Nat}(I:k<m)(acc:List D)(Z:acc.length<lim)(J L C:Cell) : ∃U Y S,cH (lc p m w bs acc (.val<|.int k) (.val<|.str<|qA<|ft<|w k) J L C)=cq (.next<|lc p m w bs (acc++[br w bs k]) (.val<|.int k) (.val<|.str<|qA<|ft<|w k) U Y S):=by
 have A:=jy;have O:bs.length<=lim:=by omega
 have d:=KF w I;have e:=QG w I;have Q : ∀r:Int,(jO bs r).length<=lim:=λr=>by have:=YG bs r;omega
 have j:=aW (w k);have l:=Zr (w k);have f:=lj w k;have g:=iB w k;refine⟨.val (.int ((zS w k:Nat):Int)),.val (.int ((z6 w k:Nat):Int)),.val (.lst ((jO bs (z6 w k)).map λx=>D.tup ((jO bs (zS w k)).map λy=>D.int (if x=y then 1 else 0)))),?_⟩;have o:(jB 7 (zB qD (zc 5) (ka (zB f9 (zc 6) (zu (.str "l")))))) (lc p m w bs acc (.val (.int k)) (.val (.str (qA (ft (w k))))) J L C)=cq (.next (lc p m w bs acc (.val (.int k)) (.val (.str (qA (ft (w k))))) (.val (.int ((zS w k:Nat):Int))) L C)):=by rw[<- f];simp[lc,j]
 have s : ∀J,(jB 8 (zB qD (zc 5) (ka (zB f9 (zc 6) (zu (.str "r")))))) (lc p m w bs acc (.val (.int k)) (.val (.str (qA (ft (w k))))) J L C)=cq (.next (lc p m w bs acc (.val (.int k)) (.val (.str (qA (ft (w k))))) J (.val (.int ((z6 w k:Nat):Int))) C)):=λJ=>by rw[<- g];simp[lc,l]
 have a:zP (.nm 0) jd (zV<|jt<|zK (zN<|jt<|jH jr<|zb (zc 1)<|zb (zc 2) zD) (.nm 0) 1 [0] jd (ka<|zB f9 (zc 1)<|zc 0)) [Cell.no,Cell.val<|.lst<|zT bs,Cell.val (.int ((zS w k:Nat):Int))] (rj<|jO bs<|z6 w k)=cq ((jO bs<|z6 w k).map λx=>D.tup<|(jO bs<|zS w k).map λy=>D.int<|if x=y then 1 else 0):=by rw[rj];refine zw _ _ λx B=>zx rfl rfl ?_;have:=uH (b:=jO bs<|zS w k) x;simp[v9,vf O,Q,z5,kg,LQ,this]
 have t:(jB 9<|qf<|zK (zN<|jt<|jH jr<|zb (zc 2)<|zb (zc 8) zD) (.nm 0) 1 [2,7] jd (zV<|jt<|zK (zN<|jt<|jH jr<|zb (zc 1)<|zb (zc 2) zD) (.nm 0) 1 [0] jd (ka<|zB f9 (zc 1)<|zc 0))) (lc p m w bs acc (.val<|.int k) (.val<|.str<|qA<|ft<|w k) (.val<|.int ((zS w k:Nat):Int)) (.val<|.int ((z6 w k:Nat):Int)) C) =
  cq (.next<|lc p m w bs acc (.val<|.int k) (.val<|.str<|qA<|ft<|w k) (.val<|.int ((zS w k:Nat):Int)) (.val<|.int ((z6 w k:Nat):Int))<|.val<|.lst<|(jO bs<|z6 w k).map λx=>D.tup<|(jO bs<|zS w k).map λy=>D.int<|if x=y then 1 else 0):=by
  rw[ZD,ZE,j6,qX,xt,px];simp only[lc,qo,x9,qO,LX,LY,zW,LR,Mf,v9,vf O,mM,nQ,Q,if_true];rw[show z5 1 [2,7] [Cell.val (D.int p),Cell.val<|D.str<|qZ m w,Cell.val<|D.lst<|zT bs,Cell.val<|D.lst<|qP m bs,Cell.own acc,Cell.val<|D.int (k:Int),Cell.val<|D.str<|qA<|ft<|w k,Cell.val<|D.int ((zS w k:Nat):Int),Cell.val<|D.int ((z6 w k:Nat):Int),C]=[Cell.no,Cell.val<|.lst<|zT bs,Cell.val (.int ((zS w k:Nat):Int))]from rfl];rw[v9]at a;rw[a];rfl
 have wl:(qP m bs).length=m+1:=VD;have h:i3 (m+1) ((z6 w k:Nat):Int)=cq (z6 w k):=by rw[xD,UJ d]
 have i:i3 (m+1) ((zS w k:Nat):Int)=cq (zS w k):=by rw[xD,UJ e]
 have u:(qP m bs)[z6 w k]? = cq (.int ((jO bs<|z6 w k).length:Int)):=KG (n:=m+1) (λr=>((jO bs r).length:Int)) d;have z:(qP m bs)[zS w k]? = cq (.int ((jO bs<|zS w k).length:Int)):=KG (n:=m+1) (λr=>((jO bs r).length:Int)) e;unfold cH;rw[jc,o];show zM _ _ _=_;rw[jc,s];show zM _ _ _=_;rw[jc,t,X9];simp only[wY,lc,wX,qo,x9,qO,vX,jT,xH,LX,LY,zW,zX,Wv,rK,LR,Mf,qm,wl,h,i,u,z,Mo,MG,Z,if_true];rfl
theorem xZ(L:m<=5)(J:bs.length<64):qc [.int p,.str<|qZ m w,.lst (zT bs)]=cq (.val<|BR p m w bs):=by
 have P:=jy;have n:bs.length<=lim:=by omega
 have I:m+1<=lim:=by omega
 have l:=Ze w (show m<=1000 by omega);have K:zP (.nm 0) jd (yJ<|jt<|jH jr<|zb (zc 1)<|zb (zc 0) zD) [Cell.no,Cell.val (.lst<|zT bs)] (zH (m+1) λi=>(i:Int))=cq (qP m bs):=by unfold qP;rw[z7,z7];refine zw _ _ λr R=>zx rfl rfl ?_;simp[v9,vf n]
 have F:(jB 3<|qf<|zK (ju<|zB qD (VP<|zc 1)<|zu<|.int 1) (.nm 0) 1 [2] jd (yJ<|jt<|jH jr<|zb (zc 1)<|zb (zc 0) zD)) (zZ 10 [.int p,.str<|qZ m w,.lst (zT bs)])=cq (.next [.val (.int p),.val<|.str<|qZ m w,.val<|.lst<|zT bs,.val<|.lst<|qP m bs,.no,.no,.no,.no,.no,.no]):=by rw[ZD,ZE,j6,y8,show zZ 10 [D.int p,.str<|qZ m w,.lst (zT bs)]=[.val (.int p),.val<|.str<|qZ m w,.val<|.lst<|zT bs,.no,.no,.no,.no,.no,.no,.no]from rfl];simp only[xc,Ap,qO,kJ,LX,LY,zW,LR,l,if_true,WN,oU,qm];rw[show((m:Int)+1)=((m+1:Nat):Int)by omega];simp only[ia I,if_true,NF,LR,jY,aZ,I];rw[show z5 1 [2] [Cell.val (D.int p),Cell.val<|D.str<|qZ m w,Cell.val<|D.lst<|zT bs,Cell.no,Cell.no,Cell.no,Cell.no,Cell.no,Cell.no,Cell.no]=[Cell.no,Cell.val (.lst<|zT bs)]from rfl,K];rfl
 have j : ∀(k s:Nat) (f g a b d:Cell),s+k=m->∃o t u x y,qQ (.tp [5,6]) cH ((PM s k).map λ(k:Nat)=>D.tup [.int k,.str (qA<|ft<|w k)]) (lc p m w bs ((LL s).map (br w bs)) f g a b d)=cq (.next<|lc p m w bs ((LL m).map (br w bs)) o t u x y):=by
  intro k
  induction k with
  | zero=>
   intro s f g a b d h;obtain rfl:s=m:=by omega
   exact⟨f,g,a,b,d,rfl⟩
  | succ k H=>
   intro s f g a b d h;obtain⟨O,Q,U,e⟩:=gN (p:=p) (w:=w) L J (show s<m by omega) ((LL s).map (br w bs)) (by simp;omega) a b d;obtain⟨z,A,B,C,E,Y⟩:=H (s+1) (.val<|.int s) (.val<|.str<|qA<|ft<|w s) O Q U ⋯;refine⟨z,A,B,C,E,?_⟩;rw[OK,Mu,jF];show((cH<|lc p m w bs _ (.val<|.int s) (.val<|.str<|qA<|ft<|w s) a b d).bind _)=_;rw[e];rw[NT,Nm,Sy]at Y;exact Y
 obtain⟨M,N,O,Q,U,e⟩:=j m 0 .no .no .no .no .no ⋯;rw[<- Ob]at e;have G:j3 (qZ m w)=cM:=l;rw[JX];unfold jo;rw[jc,F];show(zM _ _ _).bind _=_;rw[jc];show(zM _ _<|lc p m w bs [] .no .no .no .no .no).bind _=_;rw[jc,XT,pv];simp only[lc,qO,LX,LY,zW,LR,G,if_true,iw];simp only[lc,List.range_zero,Ru]at e;rw[e];simp[BR];rfl
end
section
variable{p:Int}{m:Nat}{w:UK}{bs:List (Int×Int)}
noncomputable def Ax(b:List Nat)(x:Nat):D:=D.tup<|b.map λy=>D.int<|if x=y then 1 else 0
theorem W1(e b:List Nat):sv e b = .tup [.int e.length,.int b.length,.tup (e.map<|Ax b)]:=rfl
theorem iJ(b x):deep (Ax b x)<=1:=by
 have:n3 (b.map λy=>D.int<|if x=y then 1 else 0)<=0:=xN λd a=>by obtain⟨y,_,rfl⟩:=Mk.mp a;simp[deep]
 unfold Ax;simp only[deep];omega
theorem iI(e b):deep (sv e b)<=3:=by
 have:n3 (e.map<|Ax b)<=1:=xN λd a=>by obtain⟨y,_,rfl⟩:=Mk.mp a;exact iJ b y
 rw[W1];simp only[deep,n3];omega
theorem nL(b x):h9 (Ax b x)=cM:=by
 unfold Ax;simp only[h9];exact yt λd a=>by obtain⟨y,_,rfl⟩:=Mk.mp a;simp[h9]
theorem nK(e b):h9 (sv e b)=cM:=by
 rw[W1];simp only[h9,o6,Rg,RN];exact yt λd a=>by obtain⟨y,_,rfl⟩:=Mk.mp a;exact nL b y
theorem Cq:jn (BR p m w bs)=cM:=by
 refine Xv (n:=6) ?_ ⋯ ?_
 ·have b:n3 (qP m bs)<=0:=xN λd a=>by
   unfold qP zH at a;obtain⟨y,_,rfl⟩:=Mk.mp a;simp[deep]
  have e:n3 (vW m w bs)<=4:=xN λd a=>by unfold vW at a;obtain⟨k,_,rfl⟩:=Mk.mp a;have:=iI (jO bs<|z6 w k)<|jO bs<|zS w k;simp only[deep,n3];omega
  unfold BR;simp only[deep,n3];omega
 ·have b:o6 (qP m bs)=cM:=yt λd a=>by
   unfold qP zH at a;obtain⟨y,_,rfl⟩:=Mk.mp a;simp[h9]
  have e:o6 (vW m w bs)=cM:=yt λd a=>by unfold vW at a;obtain⟨k,_,rfl⟩:=Mk.mp a;have Q:=nK (jO bs<|z6 w k)<|jO bs<|zS w k;have I:=gw<|w k;simp only[jn,Mi]at I;simp only[h9,o6,RN,Mi];have O:=I.2;simp only[h9]at O;exact⟨O,Q⟩
  unfold BR;simp[h9,o6,b,e]
end
end DL
namespace DL
open PySem L2 PySem.W PyProof.Rows
noncomputable def k4(x y:Int×Int):Prop:=vG y x=cR
theorem wJ(x):k4 x x:=by unfold k4 vG;simp
theorem Kv:k4 x y↔x.1<y.1\/(x.1=y.1/\x.2<=y.2):=by
 unfold k4 vG;by_cases h:y.1=x.1
 ·rw[UJ h,decide_eq_false_iff_not];omega
 ·rw[UY h,decide_eq_false_iff_not];omega
theorem gM:vG x y=cM↔x.1<y.1\/(x.1=y.1/\x.2<y.2):=by
 unfold vG;by_cases h:x.1=y.1
 ·rw[UJ h,decide_eq_true_iff];omega
 ·rw[UY h,decide_eq_true_iff];omega
theorem wI(a:k4 x y)(b:k4 y z):k4 x z:=by rw[Kv]at *;omega
theorem wK(a:vG x y=cM):k4 x y:=by rw[gM]at a;rw[Kv];omega
theorem Cw(a:vG x y=cM)(b:k4 y z):vG x z=cM:=by rw[gM]at *;rw[Kv]at b;omega
theorem Kw(a:k4 x y)(b:k4 y x):x=y:=by rw[Kv]at *;obtain⟨x1,I⟩:=x;obtain⟨O,Q⟩:=y;simp only[Prod.mk.injEq]at *;omega
section
variable(key:Nat->Int×Int)
noncomputable def vA(p:Array Nat)(i:Nat):Int×Int:=key<|p.getD i 0
noncomputable def ji(i j:Nat):Bool:=vG (key i)<|key j
noncomputable def tf(p:Array Nat)(n:Nat):Prop:=∀i j,i<=j->j<n->k4 (vA key p i) (vA key p j)
noncomputable def Dec(p:Array Nat)(n:Nat):Prop:=∀i j,i<=j->j<n->k4 (vA key p j) (vA key p i)
variable{key}
theorem k5(f:α->KasT β) : ∀t:KasT α,kc lt (t.bind f)=kc lt (f<|kc lt t)
 | .ret a=>rfl
 | .ask i j k=>k5 f<|k<|lt i j
theorem yi(p:Array Nat)(i j):(kas_rev p i j).size=p.size:=mirror_size _ _ _ _
theorem FF(p:Array Nat)(i:Nat):vA key p i=key (p[i]?.getD 0):=by unfold vA;rw[OS]
theorem dA(I:j<=p.size)(k:Nat):vA key (kas_rev p i j) k=if i<=k/\k<j then vA key p (i+j - 1 - k)else vA key p k:=by have:=getElem?_mirror_all (xs:=p) (i:=i) I k;unfold vA kas_rev;rw[OS,this];split<;>rw[OS]
theorem Jm(O:j<=p.size)(I : ∀k,i<=k->k<j->vA key p k=vA key p (j - 1))(k:Nat):vA key (kas_rev p i j) k=vA key p k:=by
 rw[dA O];split
 ·rename_i h
  rw[I _ ⋯ ⋯,I k h.1 h.2]
 ·rfl
theorem pG(I:k<p.size)(O:l<=k)(i:Nat):vA key (bubble p k<|k - l) i=if i=l then vA key p k else if l<i/\i<=k then vA key p (i - 1)else vA key p i:=by
 have:=getElem?_bubble (xs:=p) I (k - l) ⋯ i;rw[show k - (k - l)=l by omega]at this;simp only[FF];rw[this];split
 ·rfl
 ·split<;>rfl
theorem mz(Q:1<=n)(hs:tf key p n)(h:k4 (vA key p<|n - 1) (vA key p n)):tf key p (n+1):=λi j I U=>by
 by_cases e:j=n
 ·subst e
  by_cases O:i=j
  ·subst O;exact wJ _
  ·exact wI (hs i (j - 1) ⋯ ⋯) h
 ·exact hs i j I ⋯
theorem Ja(Q:1<=n)(hs:Dec key p n)(h:k4 (vA key p n) (vA key p<|n - 1)):Dec key p (n+1):=λi j I U=>by
 by_cases e:j=n
 ·subst e
  by_cases O:i=j
  ·subst O;exact wJ _
  ·exact wI h<|hs i (j - 1) ⋯ ⋯
 ·exact hs i j I ⋯
theorem lr(p:Array Nat) : ∀(f n:Nat),1<=n->tf key p n->n<=kc (ji key) (kas_asc p f n)/\kc (ji key) (kas_asc p f n)<=n+f/\tf key p (kc (ji key)<|kas_asc p f n)/\(kc (ji key) (kas_asc p f n)=n+f\/vG (vA key p<|kc (ji key)<|kas_asc p f n) (vA key p<|kc (ji key) (kas_asc p f n) - 1)=cM)
 | 0,n,hn,hs=>⟨LW _,LW _,hs,.inl rfl⟩
 | f+1,n,hn,hs=>by
  have e:kc (ji key) (kas_asc p (f+1) n)=kc (ji key) (if vG (vA key p n) (vA key p<|n - 1)=cM then .ret n else kas_asc p f (n+1)):=rfl;rw[e];by_cases c:vG (vA key p n) (vA key p<|n - 1)=cM
  ·rw[UJ c]
   exact⟨LW _,by show n<=n+(f+1);omega,hs,.inr c⟩
  ·rw[UY c]
   obtain⟨Q,U,I,O⟩:=lr p f (n+1) ⋯ (mz hn hs<|by unfold k4;simpa using c);exact⟨by omega,by omega,I,O.imp (λh=>by omega) id⟩
noncomputable def I0(key:Nat->Int×Int)(p:Array Nat)(n q:Nat):Prop:=q+1<=n/\∀i,n - (q+1)<=i->i<n->vA key p i=vA key p (n - 1)
theorem Ww(p:Array Nat)(I:1<=n):I0 key p n 0:=⟨I,λi a b=>by rw[show i=n - 1 by omega]⟩
theorem KI : ∀(f:Nat) (p:Array Nat) (n q:Nat),Dec key p n->I0 key p n q->n+f<=p.size->
 ∃p' n' I,kc (ji key) (kas_desc f p n q)=(p',n',I)/\p'.size=p.size/\n<=n'/\n'<=n+f/\Dec key p' n'/\I0 key p' n' I
 | 0,p,n,q,hd,hb,_=>⟨p,n,q,rfl,rfl,LW _,LW _,hd,hb⟩
 | f+1,p,n,q,hd,hb,hs=>by
  have Y:1<=n:=by have:=hb.1;omega
  have e:kc (ji key) (kas_desc (f+1) p n q)=kc (ji key) (if vG (vA key p n) (vA key p<|n - 1)=cM then (if q>0 then kas_desc f (kas_rev p (n - (q+1)) n) (n+1) 0 else kas_desc f p (n+1) 0)
   else .ask (p.getD (n - 1) 0) (p.getD n 0) λd=>if d=cM then .ret (p,n,q)else kas_desc f p (n+1) (q+1)):=rfl
  rw[e];by_cases c:vG (vA key p n) (vA key p<|n - 1)=cM
  ·rw[UJ c]
   by_cases k:q>0
   ·rw[UJ k]
    have h:=Jm (key:=key) (p:=p) (i:=n - (q+1)) (j:=n) ⋯ hb.2;have m:Dec key (kas_rev p (n - (q+1)) n) (n+1):=λi j o u=>by rw[h,h];exact Ja Y hd (wK c) i j o u
    obtain⟨p',n',I,a,O,b,g,Q,U⟩:=KI f (kas_rev p (n - (q+1)) n) (n+1) 0 m (Ww _ ⋯) (by rw[yi];omega);exact⟨p',n',I,a,by rw[O,yi],by omega,by omega,Q,U⟩
   ·rw[UY k]
    obtain⟨p',n',I,a,O,b,g,Q,U⟩:=KI f p (n+1) 0 (Ja Y hd<|wK c) (Ww _ ⋯) ⋯;exact⟨p',n',I,a,O,by omega,by omega,Q,U⟩
  ·rw[UY c]
   have s:kc (ji key) (.ask (p.getD (n - 1) 0) (p.getD n 0) λd=>if d=cM then .ret (p,n,q)else kas_desc f p (n+1) (q+1))=kc (ji key) (if vG (vA key p<|n - 1) (vA key p n)=cM then .ret (p,n,q)else kas_desc f p (n+1) (q+1)):=rfl;rw[s];by_cases d:vG (vA key p<|n - 1) (vA key p n)=cM
   ·rw[UJ d]
    exact⟨p,n,q,rfl,rfl,LW _,by omega,hd,hb⟩
   ·rw[UY d]
    have w:k4 (vA key p<|n - 1) (vA key p n):=by unfold k4;simpa using c
    have l:k4 (vA key p n) (vA key p<|n - 1):=by unfold k4;simpa using d
    have eq:=Kw w l;have r:I0 key p (n+1) (q+1):=⟨by have:=hb.1;omega,λi x y=>by
     rw[Nat.add_sub_cancel];by_cases t:i=n
     ·rw[t]
     ·rw[hb.2 i ⋯ ⋯,eq]⟩
    obtain⟨p',n',I,a,O,b,g,Q,U⟩:=KI f p (n+1) (q+1) (Ja Y hd l) r ⋯;exact⟨p',n',I,a,O,by omega,by omega,Q,U⟩
noncomputable def lQ(key:Nat->Int×Int)(C nrem:Nat)(r:Nat×Array Nat):Prop:=1<=r.1/\r.1<=nrem/\r.2.size=C/\tf key r.2 r.1
theorem W0(I:1<=n)(U:n<=nrem)(hs:nrem<=p.size)(C:Dec key p n):lQ key p.size nrem (kc (ji key)<|kas_tail3 n nrem p):=by
 have O:tf key (kas_rev p 0 n) n:=λi j Y d=>by rw[dA ⋯,dA ⋯,UJ ⟨by omega,by omega⟩,UJ ⟨by omega,by omega⟩];exact C _ _ ⋯ ⋯
 obtain⟨a,b,Q,_⟩:=lr (kas_rev p 0 n) (nrem - n) n I O;unfold kas_tail3;rw[k5];exact⟨by show 1<=kc _ _;omega,by show kc _ _<=nrem;omega,yi _ _ _,Q⟩
theorem gk(J:1<=n)(L:n<nrem)(hs:nrem<=p.size)(Q : ∀i,i<n->vA key p i=vA key p (n - 1))(C:vG (vA key p n) (vA key p<|n - 1)=cM):lQ key p.size nrem (kc (ji key)<|kas_descPart n nrem p):=by
 have h:Dec key p n:=λi j U O=>by rw[Q i ⋯,Q j O];exact wJ _
 obtain⟨b,a,I,f,Y,k,l,d,g⟩:=KI (nrem - (n+1)) p (n+1) 0 (Ja J h<|wK C) (Ww _ ⋯) ⋯;unfold kas_descPart;rw[k5,f];show lQ key p.size nrem (kc (ji key)<|if I>0 then kas_tail3 a nrem (kas_rev b (a - (I+1)) a)else kas_tail3 a nrem b);split
 ·have e:=Jm (key:=key) (p:=b) (i:=a - (I+1)) (j:=a) ⋯ g.2
  have:=W0 (p:=kas_rev b (a - (I+1)) a) (n:=a) (nrem:=nrem) ⋯ ⋯ (by rw[yi];omega) (λi j U O=>by rw[e,e];exact d i j U O);rw[yi,Y]at this;exact this
 ·have:=W0 (p:=b) (n:=a) (nrem:=nrem) ⋯ ⋯ ⋯ d
  rw[Y]at this;exact this
theorem oX(C:1<=nrem)(hs:nrem<=p.size):lQ key p.size nrem (kc (ji key)<|kas_count nrem p):=by
 have f:tf key p 1:=λi j m r=>by rw[show i=j by omega];exact wJ _
 obtain⟨I,d,O,U⟩:=lr p (nrem - 1) 1 (LW _) f;unfold kas_count;rw[k5];generalize kc (ji key) (kas_asc p (nrem - 1) 1)=n at I d O U;show lQ key p.size nrem (kc (ji key)<|if (n==nrem)=cM then .ret (n,p)else if n>1 then .ask (p.getD 0 0) (p.getD (n - 1) 0) λc=>if c=cM then .ret (n,p)else kas_descPart n nrem (kas_rev p 0 n)else kas_descPart n nrem p);split
 ·rename_i h
  have:=eq_of_beq h;exact⟨I,by show n<=nrem;omega,rfl,O⟩
 ·rename_i h
  have o:n≠nrem:=λe=>h (by rw[e];exact beq_self_eq_true _);have Y:vG (vA key p n) (vA key p<|n - 1)=cM:=U.resolve_left ⋯;split
  ·have e:kc (ji key) (.ask (p.getD 0 0) (p.getD (n - 1) 0) λc=>if c=cM then .ret (n,p)else kas_descPart n nrem (kas_rev p 0 n))=kc (ji key) (if vG (vA key p 0) (vA key p<|n - 1)=cM then .ret (n,p)else kas_descPart n nrem (kas_rev p 0 n)):=rfl
   rw[e];split
   ·exact⟨I,by show n<=nrem;omega,rfl,O⟩
   ·rename_i c
    have l:k4 (vA key p<|n - 1) (vA key p 0):=by unfold k4;simpa using c
    have b : ∀i,i<n->vA key p i=vA key p (n - 1):=λi a=>Kw (O i (n - 1) ⋯ ⋯)<|wI l<|O 0 i ⋯ a;have Q:=Jm (key:=key) (p:=p) (i:=0) (j:=n) ⋯<|λk _ g=>b k g;have:=gk (key:=key) (p:=kas_rev p 0 n) (n:=n) (nrem:=nrem) I ⋯ (by rw[yi];omega) (λi a=>by rw[Q,Q];exact b i a) (by rw[Q,Q];exact Y);rw[yi]at this;exact this
  ·exact gk I ⋯ hs (λi a=>by rw[show i=n - 1 by omega]) Y
theorem Ki(hs:tf key p k) : ∀(f l r:Nat),l<=r->r<=k->r - l<=f->(∀i,i<l->k4 (vA key p i) (vA key p k))->(∀i,r<=i->i<k->vG (vA key p k) (vA key p i)=cM)->
 kc (ji key) (kas_place p k f l r)<=k/\(∀i,i<kc (ji key) (kas_place p k f l r)->k4 (vA key p i) (vA key p k))/\∀i,kc (ji key) (kas_place p k f l r)<=i->i<k->vG (vA key p k) (vA key p i)=cM
 | 0,l,r,h1,h2,h3,h4,h5=>⟨by show l<=k;omega,h4,λi a I=>h5 i (by have:l<=i:=a;omega) I⟩
 | f+1,l,r,h1,h2,h3,h4,h5=>by
  have e:kc (ji key) (kas_place p k (f+1) l r)=kc (ji key) (if l>=r then .ret l else .ask (p.getD k 0) (p.getD ((l+r)/2) 0) λc=>if c=cM then kas_place p k f l ((l+r)/2)else kas_place p k f ((l+r)/2+1) r):=rfl;rw[e];by_cases O:l>=r
  ·rw[UJ O]
   exact⟨by show l<=k;omega,h4,λi a I=>h5 i (by have:l<=i:=a;omega) I⟩
  ·rw[UY O]
   have Q:kc (ji key) (.ask (p.getD k 0) (p.getD ((l+r)/2) 0) λc=>if c=cM then kas_place p k f l ((l+r)/2)else kas_place p k f ((l+r)/2+1) r)=kc (ji key) (if vG (vA key p k) (vA key p<|(l+r)/2)=cM then kas_place p k f l ((l+r)/2)else kas_place p k f ((l+r)/2+1) r):=rfl;rw[Q];by_cases c:vG (vA key p k) (vA key p<|(l+r)/2)=cM
   ·rw[UJ c]
    exact Ki hs f l ((l+r)/2) ⋯ ⋯ ⋯ h4 λi a I=>Cw c<|hs _ _ a I
   ·rw[UY c]
    have U:k4 (vA key p<|(l+r)/2) (vA key p k):=by unfold k4;simpa using c
    exact Ki hs f ((l+r)/2+1) r ⋯ h2 ⋯ (λi a=>wI (hs i ((l+r)/2) ⋯ ⋯) U) h5
theorem BF(O:k<p.size)(Q:l<=k)(hs:tf key p k)(C : ∀i,i<l->k4 (vA key p i) (vA key p k))(h2 : ∀i,l<=i->i<k->vG (vA key p k) (vA key p i)=cM):tf key (bubble p k<|k - l) (k+1):=λi j b d=>by
 rw[pG O Q,pG O Q];by_cases a:i=l
 ·subst a
  rw[UJ rfl];by_cases I:j=i
  ·rw[UJ I];exact wJ _
  ·rw[UY I,UJ ⟨by omega,by omega⟩]
   exact wK<|h2 _ ⋯ ⋯
 ·rw[UY a]
  by_cases U:l<i/\i<=k
  ·rw[UJ U,UY (show ¬j=l by omega),UJ ⟨by omega,by omega⟩]
   exact hs _ _ ⋯ ⋯
  ·rw[UY U]
   by_cases I:j=l
   ·rw[UJ I];exact C i ⋯
   ·rw[UY I]
    by_cases Y:l<j/\j<=k
    ·rw[UJ Y];exact hs _ _ ⋯ ⋯
    ·rw[UY Y];exact hs _ _ b ⋯
theorem rH : ∀(f:Nat) (p:Array Nat) (k n:Nat),k+f=n->p.size=n->tf key p k->tf key (kc (ji key)<|kas_bin f p k) n/\(kc (ji key)<|kas_bin f p k).size=n
 | 0,p,k,n,h1,h2,hs=>by
  obtain rfl:k=n:=by omega
  exact⟨hs,h2⟩
 | f+1,p,k,n,h1,h2,hs=>by obtain⟨I,O,Q⟩:=Ki hs k 0 k ⋯ (LW _) ⋯ (λi a=>by omega) (λi U Y=>by omega);unfold kas_bin;rw[k5];exact rH f _ (k+1) n ⋯ (by rw[bubble_size];exact h2)<|BF ⋯ I hs O Q
theorem sF(O:1<=n):tf key (kc (ji key)<|kas_sort n) n/\(kc (ji key)<|kas_sort n).size=n:=by
 have a:(OU<|LL n).size=n:=by simp
 obtain⟨Q,U,Y,I⟩:=oX (key:=key) (p:=OU<|LL n) (nrem:=n) O ⋯;unfold kas_sort;rw[k5];generalize kc (ji key) (kas_count n<|OU<|LL n)=r at Q U Y I;show tf key (kc (ji key)<|if r.1<n then kas_bin (n - max r.1 1) r.2 (max r.1 1)else .ret r.2) n/\(kc (ji key)<|if r.1<n then kas_bin (n - max r.1 1) r.2 (max r.1 1)else .ret r.2).size=n;rw[show max r.1 1=r.1 by omega];split
 ·exact rH (n - r.1) r.2 r.1 n ⋯ ⋯ I
 ·have:r.1=n:=by omega
  rw[this]at I;exact⟨I,by show r.2.size=n;omega⟩
end
theorem Zw(bs:List (Int×Int)):(qR bs).Pairwise k4:=by
 unfold qR qj;by_cases h:bs.length<2
 ·rw[UJ h]
  rcases bs with _ | ⟨a,_ | ⟨b,bs⟩⟩
  ·exact Pc.nil
  ·exact List.pairwise_singleton _ _
  ·simp only[Mo]at h;omega
 ·rw[UY h]
  obtain⟨f,g⟩:=sF (key:=λi=>bs.getD i (0,0)) (n:=bs.length) ⋯;have e:(kc (λi j=>vG (bs.getD i (0,0))<|bs.getD j (0,0))<|kas_sort bs.length)=kc (ji λi=>bs.getD i (0,0)) (kas_sort bs.length):=rfl;rw[e];generalize kc (ji λi=>bs.getD i (0,0)) (kas_sort bs.length)=p at f g;rw[Oq];intro i j d I O;simp only[Mm,Nz]at d I;have:=f i j ⋯ ⋯;unfold vA at this;simp only[OS,Oo d,Oo I,OE]at this;simpa using this
theorem Jv : ∀{a b:List (Int×Int)},a.Perm b->a.Pairwise k4->b.Pairwise k4->a=b
 | [],b,h,_,_=>by rw[h.nil_eq]
 | x::a,[],h,_,_=>by have:=h.length_eq;simp at this
 | x::a,y::b,h,ha,hb=>by
  have d:x∈y::b:=h.mem_iff.mp Mh;have O:y∈x::a:=h.mem_iff.mpr Mh;have e:x=y:=by
   rcases Mc.mp d with e | e
   ·exact e
   ·rcases Mc.mp O with I | I
    ·exact I.symm
    ·exact Kw (List.rel_of_pairwise_cons ha I)<|List.rel_of_pairwise_cons hb e
  subst e;rw[Jv (List.Perm.cons_inv h) ha.of_cons hb.of_cons]
theorem vM(h:a.Perm b):qR a=qR b:=
 Jv ((qJ a).trans (h.trans (qJ b).symm)) (Zw a) (Zw b)
end DL
namespace DL
open PySem L2
section
variable{p:Int}{m:Nat}{w:UK}{bs:List (Int×Int)}
noncomputable def iq(n:Int)(bs:List (Int×Int)):Bool:=bs.all<|EI n
noncomputable def wm(bs:List (Int×Int)):Bool:=decide<|bs=qR bs
theorem XM(a b c d:Int):i5 (.tup [.int a,.int b]) (.tup [.int c,.int d])=(a==c && b==d):=by simp[i5,rb,Uk]
theorem Vh : ∀a b:List (Int×Int),rb (zT a) (zT b)=decide (a=b)
 | [],[]=>rfl
 | [],_::_=>rfl
 | _::_,[]=>rfl
 | (x1,x2)::a,(y1,y2)::b=>by have I:=Vh a b;show(i5 (.tup [.int x1,.int x2]) (.tup [.int y1,.int y2]) && rb (zT a) (zT b))=_;rw[I,XM];by_cases d:x1=y1<;>by_cases e:x2=y2<;>by_cases O:a=b<;>simp[d,e,O]
end
section
variable{p:Int}{m:Nat}{w:UK}{wd:UX}{f g T:UW}
theorem gK{n:Nat}{a:Nat->Int}{x:Nat->Int}{i:Nat}(J:i<n)(C : ∀k,k<n->a k%p=h6 i k%p):zf (λk=>a k*x k) n%p=x i%p:=by rw[zI (g:=λk=>h6 i k*x k) λk I=>kH (C k I) rfl,zL J λk _ O=>by simp[h6,My O]];simp[h6]
theorem gJ{n:Nat}{a:Nat->Int}{x:Nat->Int}{i:Nat}(C:i<n)(ha : ∀k,k<n->a k%p=h6 k i%p):zf (λk=>x k*a k) n%p=x i%p:=by rw[zI (g:=λk=>x k*h6 k i) λk I=>kH rfl<|ha k I,zL C λk _ O=>by simp[h6,O]];simp[h6]
theorem dP(O : ∀k,k<m+1->Pair p (wd k) (f k) (g k)){k i j:Nat}(Q:k<m)(C:i<wd (z6 w k))(U:j<wd (zS w k))(Y:0<=T k i j/\T k i j<p):jl p w wd g f (jl p w wd f g T) k i j=T k i j:=by
 have n:=O _<|KF w Q;have h:=O _<|QG w Q;have o : ∀a b,jl p w wd f g T k a b=zf (λc=>f (z6 w k) a c*(zf (λd=>T k c d*g (zS w k) d b) (wd<|zS w k)%p)) (wd<|z6 w k)%p:=λa b=>(VG k a b).symm;have r : ∀b,b<wd (zS w k)->zf (λa=>jl p w wd f g T k a b*g (z6 w k) i a) (wd<|z6 w k)%p=zf (λd=>T k i d*g (zS w k) d b) (wd<|zS w k)%p:=λb e=>by rw[zv (g:=λa=>g (z6 w k) i a*(zf (λc=>f (z6 w k) a c*(zf (λd=>T k c d*g (zS w k) d b) (wd<|zS w k)%p)) (wd<|z6 w k)%p)) λa _=>by rw[o,MU]];rw[Jq p (g<|z6 w k) (f<|z6 w k) (λc b=>zf (λd=>T k c d*g (zS w k) d b) (wd<|zS w k)%p) (wd<|z6 w k) (wd<|z6 w k) i b];rw[gK (i:=i) C λl I=>by rw[Mp];exact n.gf i l C I];rw[Mp]
 show zf (λb=>f (zS w k) b j*(zf (λa=>jl p w wd f g T k a b*g (z6 w k) i a) (wd<|z6 w k)%p)) (wd<|zS w k)%p=_;rw[zv (g:=λb=>(zf (λd=>T k i d*g (zS w k) d b) (wd<|zS w k)%p)*f (zS w k) b j) λb e=>by rw[r b e,MU]];rw[<- Jq p (T k) (g<|zS w k) (f<|zS w k) (wd<|zS w k) (wd<|zS w k) i j];rw[gJ (i:=j) U λl I=>by rw[Mp];exact h.gf l j I U];exact Nn Y.1 Y.2
end
theorem uz:jw=jo 6 (zM Cv<|zM Gu<|zM Gs EZ):=rfl
theorem uB:jv=jo 5 (zM Gw<|zM AA<|zM Gv HS):=rfl
theorem uy:qp=jo 11 (zM Gr<|zM Gq<|zM Gp EX):=rfl
noncomputable def ltB:=(xW 4<|zV<|jt<|zK (zN<|zh 3) (.nm 0) 1 [0,5] jd (zB xV (bU<|jt<|zK (aa (zc 2)<|zc 0) (.tp [0,1]) 2 [] jd (zB kX (zc 0)<|zc 1))<|zc 1))
theorem VH(f g:UV)(Y:0<p)(Z:h<=400)(hm:m<=400)(hw:w<=400)(C : ∀i j,i<m->j<w->0<=g i j/\g i j<100) :
 jw [.int p,jf h m f,jf m w g]=cq (.val<|jf h w λi j=>zf (λk=>f i k*g k j) m%p):=by
 have hl:=jy;have l1:h<=lim:=by omega
 have r:m<=lim:=by omega
 have t:w<=lim:=by omega
 have u:=VI h m f;have Q:=VI m w g;have B:i3 3 0=cq 0:=rfl;have n:i3 3 1=cq 1:=rfl;have o:i3 3 2=cq 2:=rfl;have F : ∀j:Nat,j<w->zP (.nm 0) jd (di (zh 0)<|zc 1) [Cell.no,Cell.val (.int (j:Int))] (z9 m w g)=cq (zH m λk=>g k j):=λj I=>by
  rw[z7];unfold z9;refine zw _ _ λi X=>zx rfl rfl ?_;show di _ _ [Cell.val (.tup<|zH w<|g i),Cell.val (.int (j:Int))]=_;have e:(zH w<|g i)[j]? = cq (.int<|g i j):=by unfold zH;simp[I]
  have A:(zH w<|g i).length=w:=by simp[zH]
  simp only[vX,jT,qO,LX,LY,zX,zW,jW,LR,qm,A,xD,I,if_true,e]
 have G:zP (.nm 0) jd (qf<|zK (zN<|zR<|di (zh 1)<|zu<|.int 2) (.nm 0) 1 [0] jd (di (zh 0)<|zc 1)) [Cell.no,Cell.val (jf m w g)] (zH w λi=>(i:Int))=cq (K2 w m λj k=>g k j):=by
  rw[z7 w λi=>(i:Int)];unfold K2;refine zw _ _ λj I=>zx rfl rfl ?_;have I:=LO.mp I;have dl:(z9 m w g).length<=lim:=by rw[Zs];exact r
  show qf _ [Cell.val (.int (j:Int)),Cell.val (jf m w g)]=_;simp only[ZE,j6,qX,vq,vX,jT,kJ,LX,LY,Mo,MG,MT,Nx,zX,LR,Mf,Q,qm,o,jW,dl,if_true];rw[show z5 1 [0] [Cell.val (.int (j:Int)),Cell.val (jf m w g)]=[Cell.no,Cell.val (.int (j:Int))]from rfl,F j I];rfl
 have L:Cv (zZ 6 [.int p,jf h m f,jf m w g])=cq (.next [.val (.int p),.val<|jf h m f,.val<|jf m w g,.val<|.lst<|K2 w m λj k=>g k j,.no,.no]):=by
  have x:inR (w:Int)=cM:=XI ⋯ ⋯;have dl:(zH w λi=>(i:Int)).length<=lim:=by simp[zH];exact t
  show Cv [.val (.int p),.val<|jf h m f,.val<|jf m w g,.no,.no,.no]=_;unfold Cv;simp only[ZD,ZE,j6,y8,vX,jT,kJ,LX,LY,Mo,MG,MT,Nx,zX,LR,Mf,Q,qm,n,x,if_true,NF,jY,dl];rw[show z5 1 [2] [.val (.int p),.val<|jf h m f,.val<|jf m w g,.no,.no,.no]=[Cell.no,Cell.val (jf m w g)]from rfl,G];rfl
 have M:Gu [.val (.int p),.val<|jf h m f,.val<|jf m w g,.val<|.lst<|K2 w m λj k=>g k j,.no,.no]=cq (.next [.val (.int p),.val<|jf h m f,.val<|jf m w g,.val<|.lst<|K2 w m λj k=>g k j,.own [],.no]):=rfl;have H : ∀i:Nat,zP (.nm 0) jd (zB xV (bU<|jt<|zK (aa (zc 2)<|zc 0) (.tp [0,1]) 2 [] jd (zB kX (zc 0)<|zc 1))<|zc 1) [Cell.no,Cell.val<|.int p,Cell.val (.tup<|zH m<|f i)] (K2 w m λj k=>g k j)=cq (zH w λj=>zf (λk=>f i k*g k j) m%p):=λi=>by
  rw[z7 w];unfold K2;refine zw _ _ λj I=>zx rfl rfl ?_;have I:=LO.mp I;have z:=v7 m (f i) λk=>g k j;have J:zP (.tp [0,1]) jd (zB kX (zc 0)<|zc 1) [Cell.no,Cell.no] ((LL m).map λk=>D.tup [.int (f i k),.int (g k j)])=cq (zH m λk=>f i k*g k j):=by rw[z7 m λk=>f i k*g k j];refine zw _ _ λk U=>zx rfl rfl ?_;have U:=LO.mp U;have b:=C k j U I;have c:XR (f i k) (g k j)=cM:=Vo _ _ ⋯ ⋯;show zB _ _ _ [Cell.val (.int<|f i k),Cell.val (.int<|g k j)]=_;simp[c]
  have T:((LL m).map λk=>D.tup [.int (f i k),.int (g k j)]).length<=lim:=by simpa using r
  have S:=wg (λk=>f i k*g k j) m;have W:Ej 0 p=cM:=decide_eq_true Y;show zB _ _ _ [Cell.val (.lst<|zH m λk=>g k j),Cell.val<|.int p,Cell.val (.tup<|zH m<|f i)]=_;simp only[xc,Vw,xt,j6,Ep,qO,LX,LY,zW,LR,Mf,yd,jW,z,T,if_true];rw[show z5 2 [] [Cell.val (.lst<|zH m λk=>g k j),Cell.val<|.int p,Cell.val (.tup<|zH m<|f i)]=[Cell.no,Cell.no]from rfl,J];simp only[Mf,LR,S];simp[Y]
 obtain⟨d,q,⟨a,rfl⟩⟩ : ∃d,qQ (.nm 5) ltB (z9 h m f) [.val (.int p),.val<|jf h m f,.val<|jf m w g,.val<|.lst<|K2 w m λj k=>g k j,.own [],.no]=cq (.next d)/\∃a,d=[.val (.int p),.val<|jf h m f,.val<|jf m w g,.val<|.lst<|K2 w m λj k=>g k j,.own<|z9 h w λi j=>zf (λk=>f i k*g k j) m%p,a]:=by
  have l : ∀(k s:Nat) (a:Cell),s+k=h->∃O,qQ (.nm 5) ltB ((PM s k).map λi=>D.tup<|zH m<|f i) [.val (.int p),.val<|jf h m f,.val<|jf m w g,.val<|.lst<|K2 w m λj k=>g k j,.own<|z9 s w λi j=>zf (λk=>f i k*g k j) m%p,a]=cq (.next [.val (.int p),.val<|jf h m f,.val<|jf m w g,.val<|.lst<|K2 w m λj k=>g k j,.own<|z9 h w λi j=>zf (λk=>f i k*g k j) m%p,O]):=by
   intro k
   induction k with
   | zero=>
    intro s a e;obtain rfl:s=h:=by omega
    exact⟨a,rfl⟩
   | succ k E=>
    intro s a e;obtain⟨O,q⟩:=E (s+1) (.val<|.tup<|zH m<|f s) ⋯;refine⟨O,?_⟩;rw[<- q,OK,Mu,jF,Wp];have R:s<lim:=by omega
    have K:(K2 w m λj k=>g k j).length<=lim:=by rw[nZ];exact t
    simp only[vp,LR,ltB,wY,xH,xt,j6,qX,jT,NI,NH,LX,LY,xF,zX,yd,Mf,K,if_true];rw[show z5 1 [0,5] [Cell.val (.int p),Cell.val<|jf h m f,Cell.val<|jf m w g,Cell.val<|.lst<|K2 w m λj k=>g k j,Cell.own<|z9 s w λi j=>zf (λk=>f i k*g k j) m%p,Cell.val (.tup<|zH m<|f s)]=[Cell.no,Cell.val<|.int p,Cell.val (.tup<|zH m<|f s)]from rfl,H s];simp only[Mf,LR,Zs,R,if_true]
  obtain⟨O,q⟩:=l h 0 .no ⋯;rw[<- Ob]at q;exact⟨_,q,O,rfl⟩
 have N:Gs [.val (.int p),.val<|jf h m f,.val<|jf m w g,.val<|.lst<|K2 w m λj k=>g k j,.own [],.no]=cq (.next [.val (.int p),.val<|jf h m f,.val<|jf m w g,.val<|.lst<|K2 w m λj k=>g k j,.own<|z9 h w λi j=>zf (λk=>f i k*g k j) m%p,a]):=by show ZI _ _ ltB _=_;rw[XT];simp only[qX,vq,vX,jT,kJ,LX,LY,Mo,MG,MT,Nx,zX,LR,Mf,u,qm,o,jW];exact q
 have P:EZ [.val (.int p),.val<|jf h m f,.val<|jf m w g,.val<|.lst<|K2 w m λj k=>g k j,.own<|z9 h w λi j=>zf (λk=>f i k*g k j) m%p,a]=cq (.ret<|.val<|jf h w λi j=>zf (λk=>f i k*g k j) m%p):=by
  have y:3<=lim:=by omega
  unfold EZ;simp only[vJ,wX,qo,x9,vX,jT,kJ,xH,LX,LY,Mo,MG,MT,Nx,zX,QF,LR,Mf,u,Q,qm,B,n,y,if_true];rfl
 rw[uz];exact jm<|zo L<|zo M<|zo N P
noncomputable def K_(n:Nat)(ks:List Nat)(u:Nat->Int):Nat->Int:=ks.foldl (λu k=>mv n k u) u
noncomputable def Ur(n:Nat)(ks:List Nat)(u:Nat->Int):Nat->Nat->Int
 | 0=>u
 | j+1=>K_ n ks<|Ur n ks u j
noncomputable def acc(n:Nat)(ks:List Nat)(u:Nat->Int):Nat->Nat->Int
 | 0=>λ_=>0
 | j+1=>λi=>acc n ks u j i+Ur n ks u j i
theorem Bh{n:Nat}(U:n<=400):km [.int n]=cq (.val<|jf n n λi j=>if i=j then 1 else 0):=by
 have Y:=jy;have O:n<=lim:=by omega
 have I:inR (n:Int)=cM:=XI ⋯ ⋯;have dl:(zH n λi=>(i:Int)).length<=lim:=by simp[zH];exact O
 have a : ∀i:Nat,zP (.nm 0) jd (ka<|zB f9 (zc 1)<|zc 0) [Cell.no,Cell.val (.int (i:Int))] (zH n λi=>(i:Int))=cq (zH n λj=>if i=j then 1 else 0):=λi=>by
  rw[z7 n λi=>(i:Int),z7 n λj=>if i=j then (1:Int)else 0];refine zw _ _ λj f=>zx rfl rfl ?_;show ka _ [Cell.val (.int (j:Int)),Cell.val (.int (i:Int))]=_;by_cases h:i=j
  ·simp[h]
  ·have : ¬((i:Int)=(j:Int)):=by omega
   simp[h,this]
 have b:zP (.nm 0) jd (zV<|jt<|zK (ju<|zc 1) (.nm 0) 1 [0] jd (ka<|zB f9 (zc 1)<|zc 0)) [Cell.no,Cell.val (.int (n:Int))] (zH n λi=>(i:Int))=cq (z9 n n λi j=>if i=j then 1 else 0):=by have e:=a;rw[z7 n λi=>(i:Int)];unfold z9;refine zw _ _ λi d=>zx rfl rfl ?_;show zV _ [Cell.val (.int (i:Int)),Cell.val (.int (n:Int))]=_;simp only[xH,xt,j6,y8,qO,LX,LY,zW,LR,qm,I,if_true,NF,jY,dl];rw[show z5 1 [0] [Cell.val (.int (i:Int)),Cell.val (.int (n:Int))]=[Cell.no,Cell.val (.int (i:Int))]from rfl,a i];rfl
 have Q:3<=lim:=by omega
 refine jm ?_;show j7 _ [Cell.val (.int (n:Int))]=_;simp only[vJ,wX,qo,x9,xH,xt,j6,y8,qO,LX,Mo,MG,MT,Nx,zW,LR,Mf,qm,I,if_true,NF,jY,dl];rw[show z5 1 [0] [Cell.val (.int (n:Int))]=[Cell.no,Cell.val (.int (n:Int))]from rfl,b];simp only[Mf,LR,Q,if_true];rfl
noncomputable def S6:=(zM (h7 (yK (jX<|sB<|ro .tuple<|zc 4)<|sB<|zB gv (yJ<|zh 4)<|zc 3) (j7<|zu<|.bl cR) j1)<|h7 (jX<|sB<|Aw<|jt<|zK (zN<|zh 4) (.nm 0) 1 [0] jd (lS (zA jG<|zb (zc 0) zD)<|kZ ni pe (zu<|.int 0) (zc 0)<|zc 1)) (j7<|zu<|.bl cR) j1)
theorem uu(a b c d:Int):gv (.tup [.int a,.int b]) (.tup [.int c,.int d])=cq (.bl<|!(a==c && b==d)):=by have o : ∀a b:Int,jn (.tup [.int a,.int b])=cM:=λa b=>rfl;unfold gv;rw[UJ ⟨o a b,o c d⟩,XM]
theorem XC{p:Int}{h w:Nat}(f:UV)(L:h<=400)(S:w<=400)(C : ∀i j,i<h->j<w->0<=f i j/\f i j<p)(a b:Nat) :
 jv [.int p,jf h w f,.int a,.int b]=cq (.val<|.bl<|decide<|h=a/\w=b):=by
 have M:=jy;have F:w<=lim:=by omega
 have Y:=VI h w f;have u:Gw (zZ 5 [.int p,jf h w f,.int a,.int b])=cq (.next [.val (.int p),.val<|jf h w f,.val<|.int a,.val<|.int b,.no]):=rfl;have m:eP (zc 1) dr (u0<|zu<|.int 2) [.val (.int p),.val<|jf h w f,.val<|.int a,.val<|.int b,.no]=cq (.tup [.int (h:Int),.int (w:Int)]):=rfl;have o:i3 3 2=cq 2:=rfl;have r:2<=lim:=by omega
 have t:=uu (h:Int) (w:Int) (a:Int) (b:Int);rw[uB];by_cases O:h=a/\w=b
 ·obtain⟨rfl,rfl⟩:=O
  have l:AA [.val (.int p),.val<|jf h w f,.val<|.int h,.val<|.int w,.no]=cq (.next [.val (.int p),.val<|jf h w f,.val<|.int h,.val<|.int w,.no]):=by
   have Q:gv (.tup [.int (h:Int),.int (w:Int)]) (.tup [.int (h:Int),.int (w:Int)])=cq (.bl cR):=by rw[t];simp
   have G:gv (.int (h:Int)) (.int (h:Int))=cq (.bl cR):=KJ rfl;unfold AA;rw[y9,QL,Xg,xc,m];simp only[wX,qo,x9,qO,QL,KR,Xg,xc,Hk,ly,vq,vX,jT,kJ,LX,LY,Mo,MG,MT,Nx,zW,zX,LR,Mf,r,if_true,Q,XS,Nj,if_false,Y,qm,o,jW,Zs,G];rfl
  have step : ∀i:Nat,i<h->S6 [.val (.int p),.val<|jf h w f,.val<|.int h,.val<|.int w,.val (.tup<|zH w<|f i)]=cq (.next [.val (.int p),.val<|jf h w f,.val<|.int h,.val<|.int w,.val (.tup<|zH w<|f i)]):=λi A=>by
   have d:zP (.nm 0) jd (lS (zA jG<|zb (zc 0) zD)<|kZ ni pe (zu<|.int 0) (zc 0)<|zc 1) [Cell.no,Cell.val (.int p)] (zH w<|f i)=cq ((LL w).map λ_=>D.bl cM):=by rw[z7];refine zw _ _ λj B=>zx rfl rfl ?_;have q:=C i j A<|LO.mp B;show lS _ _ [Cell.val (.int<|f i j),Cell.val (.int p)]=_;simp[WI,q.1,q.2]
   have dl:(zH w<|f i).length=w:=by simp[zH]
   have H:gv (.int (w:Int)) (.int (w:Int))=cq (.bl cR):=KJ rfl;have ty:CI Ty.tuple (.tup<|zH w<|f i)=cM:=rfl;have x:(h7 (yK (jX<|sB<|ro .tuple<|zc 4)<|sB<|zB gv (yJ<|zh 4)<|zc 3) (j7<|zu<|.bl cR) j1) [.val (.int p),.val<|jf h w f,.val<|.int h,.val<|.int w,.val (.tup<|zH w<|f i)]=cq (.next [.val (.int p),.val<|jf h w f,.val<|.int h,.val<|.int w,.val (.tup<|zH w<|f i)]):=by simp[ty,jW,dl,H]
   refine zo x ?_;have y:(zH w<|f i).length<=lim:=by rw[dl];exact F
   simp only[y9,KR,Xg,Ey,xt,j6,qX,jT,LX,LY,zX,jW,LR,Mf,y,if_true];rw[show z5 1 [0] [Cell.val (.int p),Cell.val<|jf h w f,Cell.val<|.int (h:Int),Cell.val<|.int (w:Int),Cell.val (.tup<|zH w<|f i)]=[Cell.no,Cell.val (.int p)]from rfl,d];simp[dR]
  have g : ∀(k s:Nat) (c:Cell),s+k=h->∃I,qQ (.nm 4) S6 ((PM s k).map λi=>D.tup<|zH w<|f i) [.val (.int p),.val<|jf h w f,.val<|.int h,.val<|.int w,c]=cq (.next [.val (.int p),.val<|jf h w f,.val<|.int h,.val<|.int w,I]):=by
   intro k
   induction k with
   | zero=>intro s c _;exact⟨c,rfl⟩
   | succ k E=>
    intro s c e;obtain⟨I,q⟩:=E (s+1) (.val<|.tup<|zH w<|f s) ⋯;refine⟨I,?_⟩;rw[OK,Mu,jF];simp only[vp,LR,NI,NH,step s ⋯];exact q
  obtain⟨I,q⟩:=g h 0 .no ⋯;rw[<- Ob]at q;have J:Gv [.val (.int p),.val<|jf h w f,.val<|.int h,.val<|.int w,.no]=cq (.next [.val (.int p),.val<|jf h w f,.val<|.int h,.val<|.int w,I]):=by show ZI _ _ S6 _=_;rw[XT];simp only[qX,vq,vX,jT,kJ,LX,LY,Mo,MG,MT,Nx,zX,LR,Mf,Y,qm,o,jW];exact q
  rw[decide_eq_true (show h=h/\w=w from⟨rfl,rfl⟩)];exact jm<|zo u<|zo l<|zo J rfl
 ·have l:AA [.val (.int p),.val<|jf h w f,.val<|.int a,.val<|.int b,.no]=cq (.ret<|.val<|.bl cR):=by
   have Q:gv (.tup [.int (h:Int),.int (w:Int)]) (.tup [.int (a:Int),.int (b:Int)])=cq (.bl cM):=by
    rw[t];by_cases n:h=a
    ·have K : ¬w=b:=λz=>O ⟨n,z⟩
     have U : ¬((w:Int)=(b:Int)):=by omega
     simp[n,U]
    ·have U : ¬((h:Int)=(a:Int)):=by omega
     simp[U]
   unfold AA;rw[y9,QL,Xg,xc,m];simp only[wX,qo,x9,qO,LX,LY,Mo,MG,MT,Nx,zW,LR,Mf,r,if_true,Q,XS];rfl
  rw[decide_eq_false O];exact jm (zo u<|by rw[jc,l];rfl)
theorem QA(b:Bool):f9 (.str (qA (ft b))) (.str "r")=cq (.bl (!b)):=by cases b<;>kernel_rfl
noncomputable def S9:=(zM (jB 9 (zB qD (zc 7) (ka (zB f9 (di (zh 8) (zu (.int 0))) (zu (.str "l")))))) (zM (jB 10 (zB qD (zc 7) (ka (zB f9 (di (zh 8) (zu (.int 0))) (zu (.str "r")))))) (xW 6 (xk (zb (di (zh 8) (zu (.int 0))) (zb (zA jw (zb (zc 3) (zb (zA jw (zb (zc 3) (zb (di (zh 1) (zc 10)) (zb (di (zh 8) (zu (.int 1))) zD)))) (zb (di (zh 2) (zc 9)) zD)))) zD))))))
section
variable{p:Int}{m:Nat}{w:UK}{wd:UX}{T f g:UW}
abbrev ow(p:Int)(m:Nat)(w:UK)(wd:UX)(T f g:UW)(c6 c7 c8 c9 R0:Cell):Ctx:=[.val (jk p m w wd T),.val (.lst (xj (m+1) wd f)),.val (.lst (xj (m+1) wd g)),.val (.int p),.val (.tup (zH (m+1) λk=>(wd k:Int))),.val (.tup (jL m w wd T)),c6,c7,c8,c9,R0]
theorem Ye(h:k<n)(wd:UX)(f:UW):(xj n wd f)[k]? = cq (jf (wd k) (wd k)<|f k):=by unfold xj;simp[h]
theorem XH(J:0<p)(p7:p<=7)(hm:m<=5)(C : ∀k,wd k<=60)(Z : ∀k i j,k<m->i<gm w wd k->j<f7 w wd k->0<=T k i j/\T k i j<p)(hg : ∀k i j,k<m+1->i<wd k->j<wd k->0<=g k i j/\g k i j<p) :
 qp [jk p m w wd T,.lst<|xj (m+1) wd f,.lst (xj (m+1) wd g)]=cq (.val<|jk p m w wd<|jl p w wd f g T):=by
 have hl:=jy;have s1:Gr (zZ 11 [jk p m w wd T,.lst<|xj (m+1) wd f,.lst (xj (m+1) wd g)])=cq (.next<|ow p m w wd T f g .no .no .no .no .no):=rfl;have s2:Gq (ow p m w wd T f g .no .no .no .no .no)=cq (.next<|ow p m w wd T f g (.own []) .no .no .no .no):=rfl;have step : ∀s,s<m->∀l d:Cell,∃I O,S9 (ow p m w wd T f g (.own<|jL s w wd<|jl p w wd f g T) (.val<|.int (s:Int)) (.val<|xy w wd T s) l d)=cq (.next<|ow p m w wd T f g (.own<|jL (s+1) w wd<|jl p w wd f g T) (.val<|.int (s:Int)) (.val<|xy w wd T s) I O):=λs z l d=>by
  have G:=KF w z;have x:=QG w z;have r:jR (xy w wd T s)=cq (.T,[.str (qA<|ft<|w s),jf (gm w wd s) (f7 w wd s) (T s)]):=rfl;have Q:i3 2 0=cq 0:=rfl;have i1:i3 2 1=cq 1:=rfl;have R:=aW<|w s;have S:=QA<|w s;have b1:((s:Int)+if w s=cM then 1 else 0)=((zS w s:Nat):Int):=lj w s;have b2:((s:Int)+if (!w s)=cM then 1 else 0)=((z6 w s:Nat):Int):=iB w s;have ta:=Ye G wd f;have tb:=Ye x wd g;have l2:2<=lim:=by omega
  have sl:s<lim:=by omega
  refine⟨.val (.int ((zS w s:Nat):Int)),.val (.int ((z6 w s:Nat):Int)),?_⟩;have q1:(jB 9 (zB qD (zc 7) (ka (zB f9 (di (zh 8) (zu (.int 0))) (zu (.str "l")))))) (ow p m w wd T f g (.own (jL s w wd (jl p w wd f g T))) (.val (.int (s:Int))) (.val (xy w wd T s)) l d)=cq (.next (ow p m w wd T f g (.own (jL s w wd (jl p w wd f g T))) (.val (.int (s:Int))) (.val (xy w wd T s)) (.val (.int ((zS w s:Nat):Int))) d)):=by rw[<- b1];simp only[ow,ZD,xc,qO,lB,vX,jT,kJ,LX,LY,Mo,MG,MT,Nx,zW,zX,LR,Mf,r,qm,Q,R,NI,NH];cases w s<;>simp
  have U:(jB 10 (zB qD (zc 7) (ka (zB f9 (di (zh 8) (zu (.int 0))) (zu (.str "r")))))) (ow p m w wd T f g (.own (jL s w wd (jl p w wd f g T))) (.val (.int (s:Int))) (.val (xy w wd T s)) (.val (.int ((zS w s:Nat):Int))) d)=cq (.next (ow p m w wd T f g (.own (jL s w wd (jl p w wd f g T))) (.val (.int (s:Int))) (.val (xy w wd T s)) (.val (.int ((zS w s:Nat):Int))) (.val (.int ((z6 w s:Nat):Int))))):=by rw[<- b2];simp only[ow,ZD,xc,qO,lB,vX,jT,kJ,LX,LY,Mo,MG,MT,Nx,zW,zX,LR,Mf,r,qm,Q,S,NI,NH];cases w s<;>simp
  refine zo q1<|zo U ?_;have bE:=C<|z6 w s;have bB:=C<|zS w s;have K : ∀i j,i<wd (z6 w s)->j<wd (zS w s)->0<=T s i j/\T s i j<100:=λi j y Y=>by have:=Z s i j z (by rw[wN];exact y) (by rw[wa];exact Y);omega
  have L : ∀i j,i<wd (zS w s)->j<wd (zS w s)->0<=g (zS w s) i j/\g (zS w s) i j<100:=λi j y Y=>by have:=hg (zS w s) i j x y Y;omega
  have m1:=VH (p:=p) (h:=wd<|z6 w s) (m:=wd<|z6 w s) (w:=wd<|zS w s) (f<|z6 w s) (T s) J ⋯ ⋯ ⋯ K;have H:=VH (p:=p) (h:=wd<|z6 w s) (m:=wd<|zS w s) (w:=wd<|zS w s) (λi b=>zf (λa=>f (z6 w s) i a*T s a b) (wd<|z6 w s)%p) (g<|zS w s) J ⋯ ⋯ ⋯ L;have E:gm w wd s=wd (z6 w s):=wN w wd s;have F:f7 w wd s=wd (zS w s):=wa w wd s;have W:(λi j=>zf (λb=>(zf (λa=>f (z6 w s) i a*T s a b) (wd<|z6 w s)%p)*g (zS w s) b j) (wd<|zS w s)%p)=jl p w wd f g T s:=by funext i j;unfold jl;congr 1;congr 1;funext b;rw[MU];congr 1;congr 1;congr 1;funext a;rw[MU]
  rw[W]at H;have M:xy w wd (jl p w wd f g T) s = .tup [.str (qA<|ft<|w s),jf (wd<|z6 w s) (wd<|zS w s) (jl p w wd f g T s)]:=by unfold xy;rw[E,F]
  rw[lu,M];simp only[ow,wY,wX,qo,x9,va,qO,vX,jT,kJ,LX,LY,Mo,MG,MT,Nx,zW,zX,xF,LR,Mf,r,qm,Q,i1,yd,dX,xD,G,x,if_true,ta,tb,E,F,m1,H,pS,l2,QJ,sl,NI,NH]
 have A : ∀(k s:Nat) (n o l d:Cell),s+k=m->∃t u I O,qQ (.tp [7,8]) S9 ((PM s k).map λ(k:Nat)=>D.tup [.int k,xy w wd T k]) (ow p m w wd T f g (.own<|jL s w wd<|jl p w wd f g T) n o l d)=cq (.next<|ow p m w wd T f g (.own<|jL m w wd<|jl p w wd f g T) t u I O):=by
  intro k
  induction k with
  | zero=>
   intro s n o l d e;obtain rfl:s=m:=by omega
   exact⟨n,o,l,d,rfl⟩
  | succ k ih=>
   intro s n o l d e;obtain⟨P,N,q⟩:=step s ⋯ l d;obtain⟨t,u,I,O,U⟩:=ih (s+1) (.val<|.int (s:Int)) (.val<|xy w wd T s) P N ⋯;refine⟨t,u,I,O,?_⟩;rw[<- U,OK,Mu,jF];have X:xG (.tp [7,8]) (.tup [.int (s:Int),xy w wd T s]) (ow p m w wd T f g (.own<|jL s w wd<|jl p w wd f g T) n o l d)=cq (ow p m w wd T f g (.own<|jL s w wd<|jl p w wd f g T) (.val<|.int (s:Int)) (.val<|xy w wd T s) l d):=rfl;rw[X];simp only[LR,q]
 obtain⟨n,o,l,d,q⟩:=A m 0 .no .no .no .no ⋯;rw[<- Ob]at q;have s3:Gp (ow p m w wd T f g (.own []) .no .no .no .no)=cq (.next<|ow p m w wd T f g (.own<|jL m w wd<|jl p w wd f g T) n o l d):=by
  show ZI _ _ S9 _=_;have B:Yt (zc 5) (ow p m w wd T f g (.own []) .no .no .no .no)=cq ((LL m).map λ(k:Nat)=>D.tup [.int k,xy w wd T k]):=by show cq (qv<|jL m w wd T)=_;rw[show jL m w wd T=(LL m).map (xy w wd T)from rfl,XO]
  rw[XT,B];exact q
 have s4:EX (ow p m w wd T f g (.own<|jL m w wd<|jl p w wd f g T) n o l d)=cq (.ret<|.val<|jk p m w wd<|jl p w wd f g T):=by
  have l3:3<=lim:=by omega
  unfold EX;simp only[ow,vJ,wX,qo,x9,qO,xH,jT,LX,LY,Mo,MG,MT,Nx,zW,QF,LR,Mf,l3,if_true];rfl
 rw[uy];exact jm<|zo s1<|zo s2<|zo s3 s4
end
section
variable{wd:UX}{N m k r:Nat}{A:Nat->eA}{p:Int}{w:UK}{T:UW}{B:Nat->Vc}{l:UX}
theorem aT(l:UX)(g:Nat->D)(i:Nat) : ∀(L:List Nat),aU (L.map λj=>D.int ((l j:Nat):Int)) (L.map g) (i:Int)=(L.find? λj=>l j==i).map g
 | []=>rfl
 | j::L=>by
  have I:=aT l g i L;simp only[Mu,aU,Oz];by_cases h:l j=i
  ·simp[h]
  ·have a : ¬((l j:Nat):Int)=(i:Int):=by omega
   rw[UY a,I];have:(l j==i)=cR:=by simpa using h
   rw[this]
theorem Y6(l:UX) : ∀L:List Nat,Xe (L.map λj=>D.int ((l j:Nat):Int))=cq (L.map λj=>((l j:Nat):Int))
 | []=>rfl
 | j::L=>by simp[Xe,Y6 l L]
theorem cK(I:h8 p N r B l)(O:r<=lim):oQ ((LL r).map λj=>D.int ((l j:Nat):Int)) ((LL r).map λj=>D.tup<|zH N<|B j)=cq (.m7 ((LL r).map λj=>D.int ((l j:Nat):Int))<|(LL r).map λj=>D.tup<|zH N<|B j):=by unfold oQ;rw[Y6];dsimp only;rw[UJ];refine⟨by simp,?_,by simpa using O⟩;rw[List.nodup_iff_pairwise_ne,PN];refine Rf (λ{a b} d Q h=>?_)<|PL (n:=r);have:=I.mono a b h<|LO.mp Q;omega
theorem Yb(f g:Nat->D) : ∀L:List Nat,wc (L.map λj=>D.tup [f j,g j])=cq (L.map f,L.map g)
 | []=>rfl
 | j::L=>by simp[wc,Yb f g L]
theorem QI(h:k<(jL m w wd T).length):(jL m w wd T)[k]=xy w wd T k:=by simp[jL]
theorem ye(w wd T k):jR (xy w wd T k)=cq (.T,[.str (qA<|ft<|w k),jf (gm w wd k) (f7 w wd k) (T k)]):=rfl
theorem Wo:qv ((LL N).map λj=>qt wd<|A j)=(LL N).map λ(i:Nat)=>D.tup [.int i,qt wd (A i)]:=by unfold qv;simp only[Mm,Nc];refine Md λi a=>?_;have a:=LO.mp a;simp[a]
noncomputable def As(p:Int)(w:UK)(wd:UX)(T:UW)(k:Nat)(u:Vc):Prop:=if w k=cM then Span p (wd k) (ej (wd<|k+1) λj i=>T k i j) u else Dw p (wd<|k+1) (wd k) (T k) u
theorem bO(Q:Pr p)(U : ∀k,wd k<=8)(w)(T)(k:Nat) : ∃q g,q<=100/\(∀u,Span p (wd k) (ej q g) u↔As p w wd T k u)/\
 (if w k=cM then Zu [.int p,jf (gm w wd k) (f7 w wd k) (T k)]=cq (.own<|z9 q (wd k) g)else vw [.int p,jf (gm w wd k) (f7 w wd k) (T k)]=cq (.own<|z9 q (wd k) g)):=by
 have m:=jy;have Y:=U k;have j:=U<|k+1;have d : ∀{r n:Nat} {B:Nat->Vc} {l:UX},h8 p n r B l->r<=n:=λ{r n B l} I=>by
  have mono : ∀k,k<r->k<=l k:=by
   intro k
   induction k with
   | zero=>intro _;omega
   | succ k i=>intro Y;have:=i ⋯;have:=I.mono k (k+1) ⋯ Y;omega
  cases r with
  | zero=>omega
  | succ f=>have:=mono f ⋯;have:=I.lt f ⋯;omega
 cases hw:w k with
 | true=>
  have a:gm w wd k=wd k:=by unfold gm;rw[hw];rfl
  have O:f7 w wd k=wd (k+1):=by unfold f7;rw[hw];rfl
  obtain⟨r,B,l,e,I,b⟩:=XW Q (h:=wd k) (w:=wd<|k+1) ⋯ ⋯<|T k;refine⟨r,B,by have:=d I;omega,λu=>by unfold As;rw[hw,UJ rfl];exact b u,?_⟩;rw[UJ rfl,a,O];exact e
 | false=>
  have a:gm w wd k=wd (k+1):=by unfold gm;rw[hw];rfl
  have O:f7 w wd k=wd k:=by unfold f7;rw[hw];rfl
  obtain⟨q,K,l,s,e,I,b,_⟩:=yC Q (h:=wd<|k+1) (w:=wd k) ⋯ ⋯<|T k;refine⟨q,K,by have:=d I;omega,λu=>by unfold As;rw[hw,UY ⋯];exact b u,?_⟩;rw[UY ⋯,a,O];exact e
theorem VL:wZ=jo 8 (zM Tt<|zM Tu<|zM M7<|zM Tv<|zM Tw Tx):=rfl
theorem bR(S:Pr p)(hb : ∀j,j<N->(A j).s+(A j).n<=m+1)(J : ∀j,j<N->(A j).has k=cM)(Z:k<m)(hN:N<=8)(hm:m<=5)(C : ∀k,wd k<=8)(hv : ∀j r i,j<N->(A j).has r=cM->i<wd r->0<=(A j).v r i/\(A j).v r i<p) :
 ∃r B l,h8 p N r B l/\(∀t,Span p N (ej r B) t↔As p w wd T k (app (λi j=>(A j).v k i) N t))/\
  wZ [jk p m w wd T,.int k,.lst ((LL N).map λj=>qt wd<|A j)]=cq (.own<|(LL N).map λi=>qt wd<|ij p A N r B l i):=by
 have hl:=jy;obtain⟨q,g,hq,y,U⟩:=bO S C w T k;have bd:=C k;obtain⟨r,B,l,G,I,hs⟩:=KZ S (h:=wd k) (w:=N) (q:=q) ⋯ ⋯ hq (λi j=>(A j).v k i) g;refine⟨r,B,l,I,λt=>(hs t).trans (y _),?_⟩;have Y:N<=lim:=by omega
 have z:k<m+1:=by omega
 have rN:r<=N:=by
  have mono : ∀k,k<r->k<=l k:=by
   intro k
   induction k with
   | zero=>intro _;omega
   | succ k ih=>intro J;have:=ih ⋯;have:=I.mono k (k+1) ⋯ J;omega
  cases r with
  | zero=>omega
  | succ f=>have:=mono f ⋯;have:=I.lt f ⋯;omega
 have o:r<=lim:=by omega
 have u:=vS (wd:=wd) (A:=A) (N:=N) (λj O=>by have:=hb j O;omega) Y k;have W:((LL N).filter λj=>(A j).has k)=LL N:=List.filter_eq_self.mpr λj O=>J j<|LO.mp O;rw[W]at u;have H:=Zt (q:=N) (h:=wd k) (λj=>(A j).v k) Y ⋯;have E:xh [.lst ((LL N).map λj=>qt wd<|A j),.int k]=cq (.own<|z9 N (wd k) λj=>(A j).v k):=u;have K:zP (.nm 0) jd (xk<|zb (zA qT<|zb (zc 0) zD)<|zb (zc 0) zD) [.no] (z9 r N B)=cq ((LL r).map λj=>D.tup [.int ((l j:Nat):Int),.tup (zH N<|B j)]):=by unfold z9;refine zw _ _ λj O=>zx rfl rfl ?_;have O:=LO.mp O;have e:=ve Y (B j) (I.lt j O) (λi b=>I.mA j i O b) (by rw[I.one j O];decide);simp[e]
 have M:=cK I o;have P:=Yb (λj=>D.int ((l j:Nat):Int)) (λj=>D.tup<|zH N<|B j)<|LL r;let d:D:= .m7 ((LL r).map λj=>D.int ((l j:Nat):Int)) ((LL r).map λj=>D.tup<|zH N<|B j);let L:D:= .lst ((LL N).map λj=>qt wd<|A j);have R:zP (.tp [0,1]) jd (ab (sB<|Bl (zc 0)<|zc 4) (zA KY<|zb (zc 2)<|zb (zc 3)<|zb (EM (zc 4)<|zc 0) zD)<|zc 1) [.no,.no,.val<|jk p m w wd T,.val L,.val d] ((LL N).map λ(i:Nat)=>D.tup [.int i,qt wd (A i)])=cq ((LL N).map λi=>qt wd<|ij p A N r B l i):=by
  refine zw _ _ λi b=>zx rfl rfl ?_;have b:=LO.mp b;have Q:=aT l (λj=>D.tup<|zH N<|B j) i<|LL r;have F:(LL r).find? (λj=>l j==i)=mm r l i:=rfl;rw[F]at Q;unfold ij;cases hx:mm r l i with
  | none=>
   rw[hx]at Q;simp[d,Bl,Q]
  | some j=>
   rw[hx]at Q;obtain⟨x,X⟩:=xM hx;have e:=nU (T:=T) (w:=w) (t:=B j) S hb ⋯ hm (λk=>by have:=C k;omega) hv (a:=i) b (λc hc=>I.mA j c x ⋯) (by rw[<- X,I.one j x];decide);simp[d,Bl,EM,Q,L,e]
 rw[VL];refine jm (zo (γ':=[.val (jk p m w wd T),.val<|.int k,.val L,.val<|.str<|qA<|ft<|w k,.no,.no,.no,.no]) ?_
  (zo (γ':=[.val (jk p m w wd T),.val<|.int k,.val L,.val<|.str<|qA<|ft<|w k,.val<|jf (gm w wd k) (f7 w wd k)<|T k,.no,.no,.no]) ?_
  (zo (γ':=[.val (jk p m w wd T),.val<|.int k,.val L,.val<|.str<|qA<|ft<|w k,.val<|jf (gm w wd k) (f7 w wd k)<|T k,.val<|.lst<|z9 q (wd k) g,.no,.no]) ?_
  (zo (γ':=[.val (jk p m w wd T),.val<|.int k,.val L,.val<|.str<|qA<|ft<|w k,.val<|jf (gm w wd k) (f7 w wd k)<|T k,.val<|.lst<|z9 q (wd k) g,.val<|.lst<|z9 r N B,.no]) ?_
  (zo (γ':=[.val (jk p m w wd T),.val<|.int k,.val L,.val<|.str<|qA<|ft<|w k,.val<|jf (gm w wd k) (f7 w wd k)<|T k,.val<|.lst<|z9 q (wd k) g,.val<|.lst<|z9 r N B,.val d]) ?_ ?_)))))
 ·simp[Tt,zZ,LQ,yF,ye,QI,Z];rfl
 ·simp[Tu,yF,ye,QI,Z]
 ·cases hw:w k with
  | true=>
   rw[hw,UJ rfl]at U;have eq:=QA cM;simp[M7,yF,eq,U]
  | false=>
   rw[hw,UY ⋯]at U;have eq:=QA cR;simp[M7,yF,eq,U]
 ·simp[Tv,yF,z,L,E,H,G]
 ·simp[Tw,z5,K,o,P,M];rfl
 ·simp[Tx,z5,L,Wo,Y,R]
end
noncomputable def oD(n:Nat):Option Vc->D
 | none=> .ez
 | some y=> .tup (zH n y)
theorem bQ(Q:Pr p)(U:h<=90)(C:w<=90)(f:UV)(b:Vc)(O : ∀i,i<h->0<=b i/\b i<p) :
 ∃o:Option Vc,vt [.int p,jf h w f,.tup (zH h b)]=cq (.val<|oD w o)/\(∀x,o=cq x->(∀j,0<=x j/\x j<p)/\∀i,i<h->app f w x i%p=b i%p)/\(o=cO->¬∃y:Vc,∀i,i<h->app f w y i%p=b i%p):=by
 have Y : ∀i,i<h->b i%p=b i:=λi a=>Nn (O i a).1 (O i a).2;by_cases I : ∃y:Vc,∀i,i<h->app f w y i%p=b i%p
 ·obtain⟨y,I⟩:=I
  obtain⟨x,e,J,K⟩:=mC Q U C f b y O λi a=>by rw[<- Y i a,<- I i a];rfl
  refine⟨cq x,e,λR G=>?_,λz=>by cases z⟩;cases G;exact⟨J,λi a=>by rw[Y i a];exact K i a⟩
 ·obtain⟨r,B,l,s,L,A,N,u,P,d⟩:=QN Q U C f b
  have m:s<r:=by
   refine Nr λm=>I ?_;have H:s=r:=by omega
   subst H;refine⟨WE w B l s,λi a=>?_⟩;have n:=ZM L ((A<|aug w f b i).mpr (.gen ⟨i,a,rfl⟩)) w ⋯;have E:aug w f b i w=b i:=by simp[aug]
   rw[E]at n;rw[n];congr 1;unfold app WE;rw[zv (g:=λj=>zf (λk=>f i j*(if l k=j then B k w else 0)) s) λj _=>(jg _ _ _).symm,qh];refine zv λk t=>?_;rw[zL (i:=l k) (u k t) λj M F=>by rw[UY (My F)];simp,UJ rfl];simp only[aug,UJ (u k t)]
  rw[UJ m]at d;exact⟨cO,d,nofun,λ_=>I⟩
section
variable{wd:UX}{m k:Nat}{p:Int}{w:UK}{T:UW}
theorem nP:xI=jo 4 (zM D2<|zM L9 M0):=rfl
theorem KD(b:Bool):f9 (.str (qA (ft b))) (.str "l")=cq (.bl b):=by cases b<;>kernel_rfl
theorem YY(I:Pr p)(C : ∀k,wd k<=8)(J : ∀i j,i<gm w wd k->j<f7 w wd k->0<=T k i j/\T k i j<p)(u:Vc)(L : ∀i,i<wd k->0<=u i/\u i<p) :
 ∃o:Option Vc,xI [.int p,xy w wd T k,.tup (zH (wd k) u)]=cq (.val<|oD (wd<|k+1) o)/\(∀y,o=cq y->∀c,c<wd (k+1)->0<=y c/\y c<p)/\
  (w k=cR->(o=cO->∀c,c<wd (k+1)->app (T k) (wd k) u c%p=0)/\∀y,o=cq y->(∀c,c<wd (k+1)->app (T k) (wd k) u c%p=y c%p)/\∃c,c<wd (k+1)/\y c%p≠0)/\
  (w k=cM->(o=cO->¬∃y:Vc,∀c,c<wd k->app (T k) (wd<|k+1) y c%p=u c%p)/\∀y,o=cq y->∀c,c<wd k->app (T k) (wd<|k+1) y c%p=u c%p):=by
 have E:=jy;have F:=I.le;have B:=C k;have A:=C<|k+1;rw[nP];cases hw:w k with
 | true=>
  have b:gm w wd k=wd k:=by unfold gm;rw[hw];rfl
  have O:f7 w wd k=wd (k+1):=by unfold f7;rw[hw];rfl
  obtain⟨o,n,a,d⟩:=bQ I (h:=wd k) (w:=wd<|k+1) ⋯ ⋯ (T k) u L;refine⟨o,?_,λy e c _=>(a y e).1 c,nofun,λ_=>⟨d,λy e=>(a y e).2⟩⟩;refine jm ?_;have Q:=KD cM;have r:D2 (zZ 4 [.int p,xy w wd T k,.tup (zH (wd k) u)])=cq (.ret<|.val<|oD (wd<|k+1) o):=by simp[D2,zZ,LQ,ye,hw,Q,b,O,n]
  rw[jc,r];rfl
 | false=>
  have b:gm w wd k=wd (k+1):=by unfold gm;rw[hw];rfl
  have O:f7 w wd k=wd k:=by unfold f7;rw[hw];rfl
  rw[b,O]at J;have U:=bu (p:=p) (h:=wd<|k+1) (w:=wd k) .T (T k) u I.pos ⋯ ⋯ λi j t x=>by have:=J i j t x;omega
  simp only[r9]at U;have Q:=KD cR;have m:=WY (λi=>zf (λj=>T k i j*u j) (wd k)%p)<|wd<|k+1;by_cases f : ∃c,c<wd (k+1)/\zf (λj=>T k c j*u j) (wd k)%p≠0
  ·refine⟨cq λi=>zf (λj=>T k i j*u j) (wd k)%p,?_,(λy e c _=>by cases e;exact⟨MQ _ (by have:=I.pos;omega),MF _ I.pos⟩),λ_=>⟨nofun,(λy e=>by cases e;exact⟨(λc _=>by rw[Mp];rfl),(by obtain⟨c,a,d⟩:=f;exact⟨c,a,(by rw[Mp];exact d)⟩)⟩)⟩,nofun⟩
   refine jm<|zo (γ':=[.val (.int p),.val<|xy w wd T k,.val<|.tup<|zH (wd k) u,.no]) ?_ (zo (γ':=[.val (.int p),.val<|xy w wd T k,.val<|.tup<|zH (wd k) u,.val (.tup<|zH (wd<|k+1) λi=>zf (λj=>T k i j*u j) (wd k)%p)]) ?_ ?_)
   ·simp[D2,zZ,LQ,ye,hw,Q]
   ·simp[L9,ye,b,O,U]
   ·have Y:(LL<|wd<|k+1).any (λi=>(zf (λj=>T k i j*u j) (wd k)%p) != 0)=cM:=by
     obtain⟨c,a,d⟩:=f;exact T9.mpr ⟨c,LO.mpr a,by simpa using d⟩
    have g:Av (zh 3) [.val (.int p),.val<|xy w wd T k,.val<|.tup<|zH (wd k) u,.val (.tup<|zH (wd<|k+1) λi=>zf (λj=>T k i j*u j) (wd k)%p)]=cq (.bl cM):=by show((Jp _).map λs=>D.bl<|s.any id)=_;rw[m];show cq (D.bl<|((LL<|wd<|k+1).map λi=>(zf (λj=>T k i j*u j) (wd k)%p) != 0).any id)=_;rw[List.any_map];rw[show(id∘λi=>(zf (λj=>T k i j*u j) (wd k)%p) != 0)=λi=>(zf (λj=>T k i j*u j) (wd k)%p) != 0 from rfl,Y]
    unfold M0;simp only[vJ,rL,Xg,g];rfl
  ·refine⟨cO,?_,nofun,λ_=>⟨λ_ c l=>Nr λz=>f ⟨c,l,z⟩,nofun⟩,nofun⟩
   refine jm<|zo (γ':=[.val (.int p),.val<|xy w wd T k,.val<|.tup<|zH (wd k) u,.no]) ?_ (zo (γ':=[.val (.int p),.val<|xy w wd T k,.val<|.tup<|zH (wd k) u,.val (.tup<|zH (wd<|k+1) λi=>zf (λj=>T k i j*u j) (wd k)%p)]) ?_ ?_)
   ·simp[D2,zZ,LQ,ye,hw,Q]
   ·simp[L9,ye,b,O,U]
   ·have Y:(LL<|wd<|k+1).any (λi=>(zf (λj=>T k i j*u j) (wd k)%p) != 0)=cR:=List.any_eq_false.mpr λc l z=>f ⟨c,LO.mp l,by simpa using z⟩
    have g:Av (zh 3) [.val (.int p),.val<|xy w wd T k,.val<|.tup<|zH (wd k) u,.val (.tup<|zH (wd<|k+1) λi=>zf (λj=>T k i j*u j) (wd k)%p)]=cq (.bl cR):=by show((Jp _).map λs=>D.bl<|s.any id)=_;rw[m];show cq (D.bl<|((LL<|wd<|k+1).map λi=>(zf (λj=>T k i j*u j) (wd k)%p) != 0).any id)=_;rw[List.any_map];rw[show(id∘λi=>(zf (λj=>T k i j*u j) (wd k)%p) != 0)=λi=>(zf (λj=>T k i j*u j) (wd k)%p) != 0 from rfl,Y]
    unfold M0;simp only[vJ,rL,Xg,g];rfl
end
section
variable{wd:UX}{m k:Nat}{p:Int}{w:UK}{T:UW}
theorem ot(h:1<=n):i3 n (-1)=cq (n - 1):=by unfold i3;rw[UY ⋯,UJ ⋯];congr 1;omega
theorem gO(I:b.s+b.n=k+1)(y:Vc):kP wd (k3 k b<|some y)=kP wd b++[D.tup (zH (wd<|k+1) y)]:=by
 unfold kP k3;dsimp only;rw[NT,Nm];congr 1
 ·refine Md λi a=>?_
  have a:=LO.mp a;rw[UY ⋯]
 ·simp[I]
theorem dU:yf=jo 4 (zM TM N4):=rfl
theorem mx(C:1<=b.n)(O:b.s+b.n=k+1)(J:k<=20)(e:xI [.int p,xy w wd T k,.tup (zH (wd k)<|b.v k)]=cq (.val<|oD (wd<|k+1) o)) :
 yf [.int p,xy w wd T k,qt wd b]=cq (.val<|qt wd<|k3 k b o):=by
 have h:=jy;have d:=ot C;have I:=aH (wd:=wd) (b:=b) (i:=b.n - 1) ⋯;rw[show b.s+(b.n - 1)=k by omega]at I;have g:b.n - 1<b.n:=by omega
 rw[dU];refine jm<|zo (γ':=[.val (.int p),.val<|xy w wd T k,.val<|qt wd b,.val (oD (wd<|k+1) o)]) ?_ ?_
 ·unfold TM
  have a:di (zR<|di (zh 2)<|zu<|.int 1) (EK<|zu<|.int 1) (zZ 4 [.int p,xy w wd T k,qt wd b])=cq (.tup<|zH (wd k)<|b.v k):=by have Q : ∀f:Ctx,EK (zu<|.int 1) f=cq (.int (-1)):=λ_=>rfl;simp[zZ,LQ,d,Q];exact I
  simp only[ZD,va,qo,x9,a];simp[zZ,LQ,e]
 ·cases o with
  | none=>simp[N4,oD,Ef,k3]
  | some y=>
   have U:b.n+1<=lim:=by omega
   have Y:=gO (wd:=wd) O y;simp[N4,oD,Ef,U,qD];unfold qt;rw[Y];rfl
noncomputable def lI(p:Int)(w:UK)(wd:UX)(T:UW)(k:Nat)(L:List Vc):Prop:=
 if w k=cM then ∃q K l s,L=(LL q).map K/\h8 p (wd<|k+1) q K l/\(∀v,Span p (wd<|k+1) (ej q K) v↔Dw p (wd k) (wd<|k+1) (T k) v)/\Rk p (wd k) (wd<|k+1) (λj i=>T k i j) s/\q+s=wd (k+1)
 else ∃r B l,h8 p (wd<|k+1) r B l/\(∀v,Span p (wd<|k+1) (ej r B) v↔Span p (wd<|k+1) (ej (wd k) λj i=>T k i j) v)/\L=((LL<|wd<|k+1).filter λ(c:Nat)=> !decide ((c:Int)∈(LL r).map λj=>((l j:Nat):Int))).map j5
theorem ur:yB=jo 3 (zM F4<|zM Te Tf):=rfl
theorem XF(l:UX) : ∀L:List Nat,Kz (L.map λj=>D.int ((l j:Nat):Int))=cq (L.map λj=>((l j:Nat):Int))
 | []=>rfl
 | j::L=>by simp[Kz,XF l L]
theorem VV(I:h8 p n r B l):r<=n:=by
 have mono : ∀k,k<r->k<=l k:=by
  intro k
  induction k with
  | zero=>intro _;omega
  | succ k Q=>intro U;have:=Q ⋯;have:=I.mono k (k+1) ⋯ U;omega
 cases r with
 | zero=>omega
 | succ O=>have:=mono O ⋯;have:=I.lt O ⋯;omega
theorem ix(n:Nat):qv (z9 n n λi j=>if i=j then 1 else 0)=(LL n).map λ(i:Nat)=>D.tup [.int i,.tup (zH n<|j5 i)]:=by unfold qv z9;simp only[Mm,Nc];refine Md λi a=>?_;have a:=LO.mp a;simp[a];rfl
theorem YZ(J:Pr p)(C : ∀k,wd k<=8) : ∃L:List Vc,lI p w wd T k L/\yB [.int p,xy w wd T k]=cq (.own<|L.map λy=>D.tup<|zH (wd<|k+1) y):=by
 have G:=jy;have F:=C k;have as:=C<|k+1;rw[ur];unfold lI;cases hw:w k with
 | true=>
  have a:gm w wd k=wd k:=by unfold gm;rw[hw];rfl
  have Q:f7 w wd k=wd (k+1):=by unfold f7;rw[hw];rfl
  obtain⟨q,K,l,s,e,I,d,A,t⟩:=yC J (h:=wd k) (w:=wd<|k+1) ⋯ ⋯<|T k;refine⟨(LL q).map K,by rw[UJ rfl];exact⟨q,K,l,s,rfl,I,d,A,t⟩,jm ?_⟩;have U:=KD cM;have b:F4 (zZ 3 [.int p,xy w wd T k])=cq (.ret<|.own<|z9 q (wd<|k+1) K):=by simp[F4,zZ,LQ,ye,hw,U,a,Q,e]
  rw[jc,b,MB];rfl
 | false=>
  have a:gm w wd k=wd (k+1):=by unfold gm;rw[hw];rfl
  have Q:f7 w wd k=wd k:=by unfold f7;rw[hw];rfl
  obtain⟨r,B,l,e,I,d⟩:=XW J (h:=wd<|k+1) (w:=wd k) ⋯ ⋯<|T k;have H:=VV I;have u:r<=lim:=by omega
  have Y:wd (k+1)<=lim:=by omega
  refine⟨_,by rw[UY ⋯];exact⟨r,B,l,I,d,rfl⟩,?_⟩;have U:=KD cR;have x:zP (.nm 0) jd (zA qT<|zb (zc 0) zD) [.no] (z9 r (wd<|k+1) B)=cq ((LL r).map λj=>D.int ((l j:Nat):Int)):=by unfold z9;refine zw _ _ λj O=>zx rfl rfl ?_;have O:=LO.mp O;have e:=ve Y (B j) (I.lt j O) (λi f=>I.mA j i O f) (by rw[I.one j O];decide);simp[e]
  have z:zP (.tp [0,1]) (sB<|Kb (zc 0)<|zh 2) (zc 1) [.no,.no,.val (.lst<|(LL r).map λj=>D.int ((l j:Nat):Int))] ((LL<|wd<|k+1).map λ(i:Nat)=>D.tup [.int i,.tup (zH (wd<|k+1)<|j5 i)]) =
   cq (((LL<|wd<|k+1).filter λ(c:Nat)=> !decide ((c:Int)∈(LL r).map λj=>((l j:Nat):Int))).map λ(i:Nat)=>D.tup<|zH (wd<|k+1)<|j5 i):=by
   refine jx (λ(c:Nat)=> !decide ((c:Int)∈(LL r).map λj=>((l j:Nat):Int))) (λ(i:Nat)=>D.tup<|zH (wd<|k+1)<|j5 i) _ λi f=>⟨_,rfl,?_,λ_=>rfl⟩;have E:=XF l<|LL r;show(Kb (zc 0) (zh 2) [.val (.int i),_,.val (.lst<|(LL r).map λj=>D.int ((l j:Nat):Int))]).bind r0=_;show((Kz<|(LL r).map λj=>D.int ((l j:Nat):Int)).map λl=>D.bl<|!decide ((i:Int)∈l)).bind r0=_;rw[E];rfl
  have b:=vb (n:=wd<|k+1) Y;refine jm<|zo (γ':=[.val (.int p),.val<|xy w wd T k,.no]) ?_ (zo (γ':=[.val (.int p),.val<|xy w wd T k,.val (.lst<|(LL r).map λj=>D.int ((l j:Nat):Int))]) ?_ ?_)
  ·simp[F4,zZ,LQ,ye,hw,U]
  ·simp[Te,z5,ye,a,Q,e,u,x]
  ·have g:jR (jf (gm w wd k) (f7 w wd k)<|T k)=cq (.T,[.int (wd (k+1):Nat),.int (wd k:Nat),.tup (z9 (wd<|k+1) (wd k)<|T k)]):=by rw[a,Q];rfl
   have m:jR (jf (wd<|k+1) (wd<|k+1) λi j=>if i=j then 1 else 0)=cq (.T,[.int (wd (k+1):Nat),.int (wd (k+1):Nat),.tup (z9 (wd<|k+1) (wd<|k+1) λi j=>if i=j then 1 else 0)]):=rfl;have o:=ix<|wd<|k+1;simp[Tf,z5,ye,g,b,m,o,Y];rw[z];exact congrArg cq (congrArg (List.map _)<|RG λc _=>by simp)
end
section
variable{wd:UX}{m k r N:Nat}{p:Int}{w:UK}{T:UW}{B:Nat->Vc}{l:UX}{A:Nat->eA}
theorem rk(O:h8 p N r B l){j:Nat}(I:j<r):mm r l (l j)=cq j:=by
 cases h:mm r l (l j)with
 | none=>exact absurd rfl<|ZX h j I
 | some i=>
  obtain⟨a,b⟩:=xM h;rw[aE O.mono a I b]
theorem We{a b:List Nat}(C:a.Nodup)(I:b.Nodup)(h : ∀x,x∈a↔x∈b):a.length=b.length:=((List.perm_ext_iff_of_nodup C I).mpr h).length_eq
theorem KN(I:h8 p N r B l):(LL N).countP (λi=>(mm r l i).isSome)=r:=by
 rw[Nb];have e:((LL N).filter λi=>(mm r l i).isSome).length=((LL r).map l).length:=by
  refine We (RR.sublist Rm) ?_ λx=>?_
  ·rw[List.nodup_iff_pairwise_ne,PN]
   refine Rf (λ{a b} g O h=>?_)<|PL (n:=r);have:=I.mono a b h<|LO.mp O;omega
  ·rw[MA,Mk]
   constructor
   ·rintro⟨d,f⟩
    obtain⟨j,Q⟩:=NX.mp f;obtain⟨U,Y⟩:=xM Q;exact⟨j,LO.mpr U,Y⟩
   ·rintro⟨j,d,f⟩
    have d:=LO.mp d;subst f;exact⟨LO.mpr<|I.lt j d,by rw[rk I d];rfl⟩
 rw[e];simp
theorem iT(q:UK)(N:Nat):(LL N).countP q+(LL N).countP (λi=> !q i)=N:=by
 have:=SD q (l:=LL N);rw[Nc]at this;rw[this];congr 1
 ·rw[<- this]
 ·rw[<- this]
  exact NR λi _=>by simp
theorem Gm(I : ∀j,j<N->(A j).has k=cM)(t:Vc)(c:Nat):o3 p A N t k c%p=app (λi j=>(A j).v k i) N t c%p:=by unfold o3 app;rw[Mp];congr 1;exact zv λj O=>by rw[UJ (I j O),MU]
theorem Zg(I : ∀j,j<N->(A j).has k=cM)(h:mm r l i=cq j)(c:Nat):(ij p A N r B l i).v k c%p=app (λi j=>(A j).v k i) N (B j) c%p:=by unfold ij;rw[h];exact Gm I (B j) c
theorem X6(h:mm r l i=cO):ij p A N r B l i=A i:=by unfold ij;rw[h]
theorem cQ(hp:Pr p)(L : ∀k,wd k<=8)(S : ∀j,j<wd k->(A j).has k=cM)(hs : ∀v:Vc,∃t,∀i,i<wd k->v i%p=app (λi j=>(A j).v k i) (wd k) t i%p)
 (J:h8 p (wd k) r B l) (hW : ∀t,Span p (wd k) (ej r B) t↔As p w wd T k (app (λi j=>(A j).v k i) (wd k) t)) {C:List Vc} (Q:lI p w wd T k C) {nx:Nat->Option Vc}
 (hr : ∀i,i<wd k->w k=cR->(nx i=cO->∀c,c<wd (k+1)->app (T k) (wd k) ((ij p A (wd k) r B l i).v k) c%p=0)/\∀y,nx i=cq y->(∀c,c<wd (k+1)->app (T k) (wd k) ((ij p A (wd k) r B l i).v k) c%p=y c%p)/\∃c,c<wd (k+1)/\y c%p≠0)
 (Z : ∀i,i<wd k->w k=cM->(nx i=cO->¬∃y:Vc,∀c,c<wd k->app (T k) (wd<|k+1) y c%p=(ij p A (wd k) r B l i).v k c%p)/\∀y,nx i=cq y->∀c,c<wd k->app (T k) (wd<|k+1) y c%p=(ij p A (wd k) r B l i).v k c%p) :
 (∀y,y∈C->∀c,c<wd (k+1)->0<=y c/\y c<p)/\(∀y,y∈C->w k=cM->∀c,c<wd k->app (T k) (wd<|k+1) y c%p=0)/\
   (∀v,Span p (wd<|k+1) (λg=>(∃i,i<wd k/\nx i=cq g)\/g∈C) v)/\(LL<|wd k).countP (λi=>(nx i).isSome)+C.length=wd (k+1):=by
 have two:=hp.two;cases hw:w k with
 | false=>
  have u : ∀t,Span p (wd k) (ej r B) t↔Dw p (wd<|k+1) (wd k) (T k) (app (λi j=>(A j).v k i) (wd k) t):=λt=>by have:=hW t;unfold As at this;rw[hw,UY ⋯]at this;exact this
  unfold lI at Q;rw[hw,UY ⋯]at Q;obtain⟨o,B2,n,H,hI,U⟩:=Q;obtain⟨g1,g2,g3,G⟩:=AY hp (L k) (L<|k+1) hs J u H hI;have b6 : ∀c,c<wd (k+1)->(∀j,j<o->n j≠c)->j5 c∈C:=λc O Q=>by rw[U];refine Mk.mpr ⟨c,MA.mpr ⟨LO.mpr O,?_⟩,rfl⟩;simp only[Oe,decide_eq_false_iff_not,Mk,LO];rintro⟨j,f,h⟩;exact Q j f ⋯
  have on : ∀i,i<wd k->(nx i).isSome=(mm r l i).isNone:=λi d=>by
   cases b:mm r l i with
   | none=>
    obtain⟨c,f,h⟩:=g2 i d<|ZX b;cases I:nx i with
    | some y=>rfl
    | none=>
     have:=(hr i d hw).1 I c f;rw[X6 b]at this;exact absurd this h
   | some j=>
    obtain⟨f,h⟩:=xM b;cases I:nx i with
    | none=>rfl
    | some y=>
     obtain⟨e,c,N,h4⟩:=(hr i d hw).2 y I;have z:=g1 j f c N;rw[<- jP (λa _=>Zg (B:=B) (r:=r) (l:=l) S b a) c,e c N]at z;exact absurd z h4
  refine⟨λy I c O=>?_,(λy I z=>by cases z),λv=>G _ (λc O x=>?_) (λc O x=> .gen (.inr<|b6 c O x)) v,?_⟩
  ·rw[U]at I
   obtain⟨i,_,rfl⟩:=Mk.mp I;unfold j5;split<;>omega
  ·have b:mm r l c=cO:=by
    cases b:mm r l c with
    | none=>rfl
    | some j=>exact absurd (xM b).2 (x j (xM b).1)
   have m:=on c O;rw[b]at m;obtain⟨y,I⟩:=NX.mp m;refine(Span.gen<|.inl ⟨c,O,I⟩).congr λi d=>?_;have:=((hr c O hw).2 y I).1 i d;rw[X6 b]at this;exact this
  ·have F:(LL<|wd k).countP (λi=>(nx i).isSome)=(LL<|wd k).countP λi=> !(mm r l i).isSome:=NR λi d=>by
    rw[on i (LO.mp d)];cases mm r l i<;>simp
   have e2:=iT (λi=>(mm r l i).isSome)<|wd k;rw[KN J]at e2;have e3:=iT (λi=>(mm o n i).isSome)<|wd<|k+1;rw[KN H]at e3;have e4:C.length=(LL<|wd<|k+1).countP λi=> !(mm o n i).isSome:=by
    rw[U,Mm,<- Nb];refine NR λi d=>?_;cases b:mm o n i with
    | none=>
     have:=ZX b;simp only[Oe,decide_eq_false_iff_not,Mk,LO];constructor
     ·intro _;rfl
     ·rintro _ ⟨j,f,h⟩
      exact this j f ⋯
    | some j=>
     obtain⟨f,h⟩:=xM b;simp only[Oe,decide_eq_false_iff_not,Mk,LO];constructor
     ·intro z;exact absurd ⟨j,f,by rw[h]⟩ z
     ·intro z;cases z
   rw[F,e4];omega
 | true=>
  have u : ∀t,Span p (wd k) (ej r B) t↔Span p (wd k) (ej (wd<|k+1) λj i=>T k i j) (app (λi j=>(A j).v k i) (wd k) t):=λt=>by have:=hW t;unfold As at this;rw[hw,UJ rfl]at this;exact this
  unfold lI at Q;rw[hw,UJ rfl]at Q;obtain⟨q,K,lK,s,U,P,M,R,W⟩:=Q;obtain⟨g1,g2,g3,G⟩:=AZ hp (L k) (L<|k+1) hs J u M R W;have on : ∀i,i<wd k->(nx i).isSome=(mm r l i).isSome:=λi d=>by
   cases b:mm r l i with
   | none=>
    cases I:nx i with
    | none=>rfl
    | some y=>
     have:=(Z i d hw).2 y I;rw[X6 b]at this;exact absurd ⟨y,this⟩<|g2 i d<|ZX b
   | some j=>
    obtain⟨f,h⟩:=xM b;cases I:nx i with
    | some y=>rfl
    | none=>
     obtain⟨y,X⟩:=g1 j f;exact absurd ⟨y,λc O=>by rw[X c O,Zg S b c]⟩<|(Z i d hw).1 I
  refine⟨λy I c O=>?_,λy I _ c O=>?_,λv=>G _ (λj=>(nx<|l j).getD λ_=>0) (λj Y=>?_) (λj Y=>?_) v,?_⟩
  ·rw[U]at I
   obtain⟨j,Y,rfl⟩:=Mk.mp I;exact P.l0 j c (LO.mp Y) O
  ·rw[U]at I
   obtain⟨j,Y,rfl⟩:=Mk.mp I;exact(M<|K j).mp (.gen ⟨j,LO.mp Y,rfl⟩) c O
  ·have b:=rk J Y
   have E:=J.lt j Y;have m:=on (l j) E;rw[b]at m;obtain⟨y,I⟩:=NX.mp m;rw[I];refine⟨.gen<|.inl ⟨l j,E,I⟩,λc O=>?_⟩;have:=(Z (l j) E hw).2 y I c O;rw[Zg S b c]at this;exact this
  ·refine .gen (.inr ?_)
   rw[U];exact Mk.mpr ⟨j,LO.mpr Y,rfl⟩
  ·have F:(LL<|wd k).countP (λi=>(nx i).isSome)=(LL<|wd k).countP λi=>(mm r l i).isSome:=NR λi d=>by
    rw[on i (LO.mp d)]
   rw[F,KN J,U,Mm,Nc];omega
end
section
variable{wd:UX}{m k:Nat}{p:Int}{w:UK}{T:UW}
theorem ip:QQ=jo 9 (zM R8<|zM R9<|zM Se<|zM S0<|zM S1<|zM S2 L3):=rfl
theorem Gj(y:Vc):qt wd (p8 k y) = .tup [.int ((k:Int)+1),.tup [.tup (zH (wd<|k+1) y)]]:=by unfold qt p8 kP;simp
theorem oG(J:Pr p)(O : ∀k,wd k<=8)(hm:m<=5)(Z:k<m)(hT : ∀i j,i<gm w wd k->j<f7 w wd k->0<=T k i j/\T k i j<p){C:List eA}(I:A8 p w wd T k C)(b6:C.length<=100) :
 ∃S,A8 p w wd T (k+1) S/\S.length<=C.length+8/\QQ [jk p m w wd T,.int k,.lst (C.map<|qt wd)]=cq (.val<|.lst<|S.map<|qt wd):=by
 have hl:=jy;have X:=J.pos;have M:C.length<=lim:=by omega
 have F:(C.filter λb=>b.has k).length=wd k:=by rw[<- Nb];exact I.ct k<|LW _
 let A:Nat->eA:=λj=>(C.filter λb=>b.has k).getD j lR;have R:(C.filter λb=>b.has k)=(LL<|wd k).map A:=by rw[<- F];exact(jq lR _).symm
 have W : ∀j,j<wd k->A j∈C/\(A j).has k=cM:=λj Q=>by
  have:A j∈C.filter λb=>b.has k:=by show(C.filter λb=>b.has k).getD j lR∈_;rw[LS,LP ⋯];exact OL _
  have:=MA.mp this;exact⟨this.1,by simpa using this.2⟩
 have G : ∀j,j<wd k->n6 p w wd T k (A j):=λj Q=>I.ok _ (W j Q).1;have hO : ∀i c,i<c->c<wd k->Ord w (A i) (A c):=λi c d s=>by have:=Oq.mp I.od i c ⋯ ⋯ d;show Ord w ((C.filter λb=>b.has k).getD i lR) ((C.filter λb=>b.has k).getD c lR);rw[LS,LP ⋯,LS,LP ⋯];exact this
 have E : ∀j,j<wd k->(A j).has k=cM:=λj Q=>(W j Q).2;obtain⟨r,B,l,H,hW,eS⟩:=bR (T:=T) (w:=w) (A:=A) (N:=wd k) (k:=k) J (λj Q=>by have:=(G j Q).le;omega) E Z (O k) hm O λj rm i Q hh a=>(G j Q).l0 rm i hh a;have h9 : ∀i,i<wd k->n6 p w wd T k (ij p A (wd k) r B l i):=λi a=>pJ X H G E hO a;have as : ∀i,i<wd k->(ij p A (wd k) r B l i).has k=cM:=λi a=>by rw[VJ];exact E i a
 have ex : ∀i,∃o:Option Vc,i<wd k->(xI [.int p,xy w wd T k,.tup (zH (wd k)<|(ij p A (wd k) r B l i).v k)]=cq (.val<|oD (wd<|k+1) o)/\(∀y,o=cq y->∀c,c<wd (k+1)->0<=y c/\y c<p)/\
  (w k=cR->(o=cO->∀c,c<wd (k+1)->app (T k) (wd k) ((ij p A (wd k) r B l i).v k) c%p=0)/\∀y,o=cq y->(∀c,c<wd (k+1)->app (T k) (wd k) ((ij p A (wd k) r B l i).v k) c%p=y c%p)/\∃c,c<wd (k+1)/\y c%p≠0)/\
  (w k=cM->(o=cO->¬∃y:Vc,∀c,c<wd k->app (T k) (wd<|k+1) y c%p=(ij p A (wd k) r B l i).v k c%p)/\∀y,o=cq y->∀c,c<wd k->app (T k) (wd<|k+1) y c%p=(ij p A (wd k) r B l i).v k c%p)):=λi=>by
  by_cases a:i<wd k
  ·obtain⟨o,h⟩:=YY (T:=T) (w:=w) (k:=k) J O hT ((ij p A (wd k) r B l i).v k) λc hc=>(h9 i a).l0 k c (as i a) hc
   exact⟨o,λ_=>h⟩
  ·exact⟨cO,λz=>absurd z a⟩
 obtain⟨nx,Y⟩:=Ov ex;obtain⟨U,hN,eN⟩:=YZ (T:=T) (w:=w) (k:=k) J O;have hs : ∀v:Vc,∃t,∀i,i<wd k->v i%p=app (λi j=>(A j).v k i) (wd k) t i%p:=λv=>by
  have hv:Span p (wd k) (ej (wd k) λj=>(A j).v k) v:=(I.sp k (LW _) v).le λg hg=>by obtain⟨b,d,s,rfl⟩:=hg;have P:b∈C.filter λb=>b.has k:=MA.mpr ⟨d,by simpa using s⟩;rw[R]at P;obtain⟨j,Q,rfl⟩:=Mk.mp P;exact .gen ⟨j,LO.mp Q,rfl⟩
  obtain⟨t,ht⟩:=Yn hv;exact⟨t,λi a=>by rw[ht i a];unfold app;rw[q9]⟩
 obtain⟨f1,f2,f3,f4⟩:=cQ (T:=T) (w:=w) (A:=A) J O E hs H hW hN (nx:=nx) (λi a=>(Y i a).2.2.1) λi a=>(Y i a).2.2.2;refine⟨vH p k w C A (wd k) r B l nx U,ik X I F (λ_=>rfl) H (λi y a e=>(Y i a).2.1 y e) f1 (λi a e f=>((Y i a).2.2.1 f).1 e) (λi y a e f=>(((Y i a).2.2.1 f).2 y e).1) (λi y a e f=>((Y i a).2.2.2 f).2 y e) f2 f3 f4,?_,?_⟩
 ·have d:(C.filter λb=> !b.has k).length+wd k=C.length:=by
   have:=SD (λb:eA=>b.has k) (l:=C);rw[<- F,<- Nb,<- Nb,this];have e:C.countP (λb=> !b.has k)=C.countP λb=>decide (¬b.has k=cM):=NR λb _=>by simp
   rw[e];omega
  have s:=O<|k+1;unfold vH;rw[Nf];cases w k<;>simp<;>omega
 ·
  let L:D:= .lst (C.map<|qt wd);have e3:zP (.nm 0) (jX<|sB<|zA j8<|zb (zc 0)<|zb (zc 1) zD) (zc 0) [.no,.val (.int k)] (C.map<|qt wd)=cq ((C.filter λb=> !b.has k).map (qt wd)):=by refine jx (g:=qt wd) (λb=> !b.has k) (qt wd) C λb K=>⟨[.val (qt wd b),.val (.int k)],rfl,?_,λ_=>by rfl⟩;have e:=yx (wd:=wd) (b:=b) (by have:=(I.ok b K).le;omega) k;simp[e]
  have e4:zP (.nm 0) (sB<|zA j8<|zb (zc 0)<|zb (zc 1) zD) (zc 0) [.no,.val (.int k)] (C.map<|qt wd)=cq ((LL<|wd k).map λj=>qt wd<|A j):=by
   have:((C.filter λb=>b.has k).map (qt wd))=(LL<|wd k).map λj=>qt wd (A j):=by rw[R,MB];rfl
   rw[<- this];refine jx (g:=qt wd) (λb=>b.has k) (qt wd) C λb K=>⟨[.val (qt wd b),.val (.int k)],rfl,?_,λ_=>by rfl⟩;have e:=yx (wd:=wd) (b:=b) (by have:=(I.ok b K).le;omega) k;simp[e]
  have e5:zP (.nm 0) jd (zA yf<|zb (zc 1)<|zb (zc 2)<|zb (zc 0) zD) [.no,.val<|.int p,.val (xy w wd T k)] ((LL<|wd k).map λi=>qt wd<|ij p A (wd k) r B l i)=cq ((LL<|wd k).map λi=>qt wd<|k3 k (ij p A (wd k) r B l i)<|nx i):=by refine zw _ _ λi a=>zx rfl rfl ?_;have a:=LO.mp a;have d:=i6.mp<|as i a;have e:=mx (p:=p) (h9 i a).n1 (by have:=(h9 i a).le;omega) (show k<=20 by omega) (Y i a).1;simp[e]
  have e6:zP (.nm 0) jd (xk<|zb (zB qD (zc 1)<|zu<|.int 1)<|zb (xk<|zb (zc 0) zD) zD) [.no,.val (.int k)] (U.map λy=>D.tup<|zH (wd<|k+1) y)=cq ((U.map<|p8 k).map (qt wd)):=by rw[MB];refine zw _ _ λy hy=>zx rfl rfl ?_;show _=cq (qt wd<|p8 k y);rw[Gj];rfl
  have c4:U.length<=lim:=by have:=O<|k+1;omega
  have c5:wd k<=lim:=by have:=O k;omega
  let n:D:= .lst ((C.filter λb=> !b.has k).map (qt wd));let x:D:= .lst ((LL<|wd k).map λi=>qt wd<|ij p A (wd k) r B l i);let u:D:= .lst ((LL<|wd k).map λi=>qt wd<|k3 k (ij p A (wd k) r B l i)<|nx i);let Ne:D:= .lst ((U.map<|p8 k).map (qt wd));rw[ip];refine jm (zo (γ':=[.val (jk p m w wd T),.val<|.int k,.val L,.val<|.int p,.no,.no,.no,.no,.no]) ?_
   (zo (γ':=[.val (jk p m w wd T),.val<|.int k,.val L,.val<|.int p,.val<|xy w wd T k,.no,.no,.no,.no]) ?_
   (zo (γ':=[.val (jk p m w wd T),.val<|.int k,.val L,.val<|.int p,.val<|xy w wd T k,.val n,.no,.no,.no]) ?_
   (zo (γ':=[.val (jk p m w wd T),.val<|.int k,.val L,.val<|.int p,.val<|xy w wd T k,.val n,.val x,.no,.no]) ?_
   (zo (γ':=[.val (jk p m w wd T),.val<|.int k,.val L,.val<|.int p,.val<|xy w wd T k,.val n,.val x,.val u,.no]) ?_
   (zo (γ':=[.val (jk p m w wd T),.val<|.int k,.val L,.val<|.int p,.val<|xy w wd T k,.val n,.val x,.val u,.val Ne]) ?_ ?_))))))
  ·simp[R8,zZ,LQ,yF,L]
  ·simp[R9,yF,QI,Z]
  ·simp[Se,z5,L,M,e3,n]
  ·simp[S0,z5,L,M,e4,eS,x]
  ·simp[S1,z5,x,c5,e5,u]
  ·simp[S2,z5,eN,c4]
   rw[e6];simp[Ne]
  ·have c8:(C.filter λb=> !b.has k).length<=100:=Nv (PX _ _) b6
   have q1:=O k;have q2:=O<|k+1;cases f:w k with
   | false=>
    have eq:=QA cR;have d:U.length+wd k<=lim:=by omega
    have s:(C.filter λb=> !b.has k).length+(U.length+wd k)<=lim:=by omega
    simp[L3,ye,f,eq,n,u,Ne,vH,d,s]
   | true=>
    have eq:=QA cM;have d:wd k+U.length<=lim:=by omega
    have s:(C.filter λb=> !b.has k).length+(wd k+U.length)<=lim:=by omega
    simp[L3,ye,f,eq,n,u,Ne,vH,d,s]
end
section
variable{wd:UX}{m k:Nat}{p:Int}{w:UK}{T:UW}
noncomputable def lX(c:Nat):eA:=⟨0,1,λ_=>j5 c⟩
theorem uQ(U:Pr p):A8 p w wd T 0 ((LL<|wd 0).map lX):=by
 have two:=U.two;have a : ∀b,b∈(LL<|wd 0).map lX ↔ ∃c,c<wd 0/\b=lX c:=λb=>by rw[Mk];exact⟨λ⟨c,d,e⟩=>⟨c,LO.mp d,e.symm⟩,λ⟨c,d,e⟩=>⟨c,LO.mpr d,e.symm⟩⟩
 have Q : ∀c,(lX c).has 0=cM:=λc=>i6.mpr ⟨LW _,by show 0<0+1;omega⟩;refine⟨λb I=>?_,λr Y v=>?_,λr Y=>?_,?_⟩
 ·obtain⟨c,O,rfl⟩:=(a b).mp I
  exact⟨LW _,by show 0+1<=0+1;omega,λr i _ _=>by show 0<=j5 c i/\j5 c i<p;unfold j5;split<;>omega,λj h=>by omega⟩
 ·have:r=0:=by omega
  subst this;refine(Vb (wd 0) v).le λg f=>?_;obtain⟨c,O,rfl⟩:=f;exact .gen ⟨lX c,(a _).mpr ⟨c,O,rfl⟩,Q c,rfl⟩
 ·have:r=0:=by omega
  subst this;rw[List.countP_eq_length.mpr λb I=>?_]
  ·simp
  ·obtain⟨c,O,rfl⟩:=(a b).mp I
   exact Q c
 ·refine RD _ ?_
  rw[PN];exact Oq.mpr λ_ _ _ _ _=>⟨λz=>absurd z<|Nh 0,λz=>absurd z<|Nh 0⟩
theorem KU:yE=jo 3 (zM I8<|zM P0 P1):=rfl
noncomputable def K3(b:eA):Int×Int:=((b.s:Int),((b.s+b.n - 1:Nat):Int))
theorem gT : ∀C:List eA,(∀b,b∈C->1<=b.n/\b.s+b.n<=100)->Y3 qb (C.map<|qt wd)=cq (C.map K3)
 | [],_=>rfl
 | b::C,h=>by have a:=h b Mh;have e:=Xl (wd:=wd) a.1 a.2;have I:=gT C λb O=>h b<|Mg _ O;simp only[Mu,Y3,e,I,LR];rfl
noncomputable def kz(C:List eA):List eA:=(qj<|C.map K3).map λi=>C.getD i lR
theorem Jw(C:List eA):(kz C).Perm C:=by have h:=jV<|C.map K3;rw[Mm]at h;have:=h.map λi=>C.getD i lR;rw[jq]at this;exact this
theorem Yp(C:List eA):(kz C).map K3=qR (C.map K3):=by unfold kz qR;rw[MB];refine Md λi a=>?_;have h:=jV<|C.map K3;have a:=LO.mp<|h.mem_iff.mp a;rw[Mm]at a;simp[a]
theorem Vx(O:Pr p)(Q : ∀k,wd k<=8)(L:m<=5)(J : ∀k i j,k<m->i<gm w wd k->j<f7 w wd k->0<=T k i j/\T k i j<p) :
 ∃C,A8 p w wd T m C/\C.length<=48/\yE [jk p m w wd T]=cq (.own<|(kz C).map (qt wd)):=by
 have M:=jy;have K:=Q 0;have U:wd 0<=lim:=by omega
 have A:=vb (n:=wd 0) U;have r:jR (jf (wd 0) (wd 0) λi j=>if i=j then 1 else 0)=cq (.T,[.int (wd 0:Nat),.int (wd 0:Nat),.tup (z9 (wd 0) (wd 0) λi j=>if i=j then 1 else 0)]):=rfl;have x:zP (.nm 0) jd (xk<|zb (zu<|.int 0)<|zb (xk<|zb (zc 0) zD) zD) [.no] (z9 (wd 0) (wd 0) λi j=>if i=j then 1 else 0)=cq (((LL<|wd 0).map lX).map (qt wd)):=by rw[MB];unfold z9;refine zw _ _ λi a=>zx rfl rfl ?_;show cq _=cq (qt wd<|lX i);unfold qt lX kP;simp;rfl
 have x1:I8 (zZ 3 [jk p m w wd T])=cq (.next [.val (jk p m w wd T),.val<|.lst<|((LL<|wd 0).map lX).map (qt wd),.no]):=by simp[I8,zZ,LQ,yF,A,r,z5,U];rw[x];simp
 obtain⟨G,E,C,c,I,t,rfl⟩:=Xy (T:= .nm 2) (F:=jB 1<|zA QQ<|zb (zc 0)<|zb (zc 2)<|zb (zc 1) zD) (f:=yJ<|zR<|di (zh 0)<|zu<|.int 2)
  (λj γ=>∃C c,A8 p w wd T j C/\C.length<=8*(j+1)/\γ=[.val (jk p m w wd T),.val<|.lst<|C.map<|qt wd,c]) m ⋯ (γ:=[.val (jk p m w wd T),.val<|.lst<|((LL<|wd 0).map lX).map (qt wd),.no])
  (by simp[yF]) ⟨_,_,uQ O,by simp;omega,rfl⟩ λs l γ d=>by obtain⟨C,c,I,t,rfl⟩:=d;obtain⟨Y,o,H,e⟩:=oG (T:=T) (w:=w) (k:=s) O Q L l (J s · · l) I ⋯;refine⟨_,[.val (jk p m w wd T),.val<|.lst<|Y.map<|qt wd,.val (.int s)],rfl,?_,Y,_,o,by omega,rfl⟩;simp[e]
 refine⟨C,I,by omega,?_⟩;have z:=gT (wd:=wd) C λb g=>⟨(I.ok b g).n1,by have:=(I.ok b g).le;omega⟩;rw[KU];refine jm<|zo x1<|zo (show P0 _=_ from E) ?_;have u:C.length<64:=by omega
 unfold P1;have y:eO qb (zh 1) [.val (jk p m w wd T),.val<|.lst<|C.map<|qt wd,c]=cq ((kz C).map (qt wd)):=by show((Y3 qb<|C.map<|qt wd).bind λB=>if (C.map<|qt wd).length<64 then cq ((qj B).map λi=>(C.map<|qt wd).getD i .ez)else cO)=_;rw[z];simp only[LR,Mm,u,if_true];congr 1;unfold kz;rw[MB];refine Md λi a=>?_;have h:=jV<|C.map K3;have a:=LO.mp<|h.mem_iff.mp a;rw[Mm]at a;simp[a]
 rw[WC,y];rfl
theorem A8.perm(h:P9.Perm m6)(I:A8 p w wd T k m6):(∀b,b∈P9->n6 p w wd T k b)/\(∀r,r<=k->∀v,Span p (wd r) (Iy P9 r) v)/\∀r,r<=k->P9.countP (λb=>b.has r)=wd r:=by
 refine⟨λb Q=>I.ok b<|h.mem_iff.mp Q,λr O v=>(I.sp r O v).le λg U=>?_,λr O=>?_⟩
 ·obtain⟨b,a,d,Y⟩:=U
  exact .gen ⟨b,h.mem_iff.mpr a,d,Y⟩
 ·rw[h.countP_eq];exact I.ct r O
end
abbrev TB:=Nat×Nat×(Nat->Nat->Int)
noncomputable def tD(t:TB):D:=jf t.1 t.2.1 t.2.2
structure xb(p:Int)(t:TB):Prop where
 h:t.1<=60
 w:t.2.1<=60
 e : ∀i j,i<t.1->j<t.2.1->0<=t.2.2 i j/\t.2.2 i j<p
noncomputable def VM(n:Nat):D:=jf n n λi j=>if i=j then 1 else 0
noncomputable def tK(p:Int)(n:Nat)(t u:TB):D:=jf n n λi j=>zf (λk=>t.2.2 i k*u.2.2 k j) n%p
noncomputable def t6(p:Int)(n:Nat)(t u:TB):Bool:=decide (t.1=n/\t.2.1=n/\u.1=n/\u.2.1=n) && i5 (tK p n t u) (VM n)
theorem Eg{x y:D}(hx:jn x=cM)(I:jn y=cM):f9 x y=cq (.bl<|i5 x y):=by unfold f9;rw[UJ ⟨hx,I⟩]
theorem iN{x y:D}(hx:jn x=cM)(I:jn y=cM):gv x y=cq (.bl<|!i5 x y):=by unfold gv;rw[UJ ⟨hx,I⟩]
theorem vm(bs):jn (.lst<|zT bs)=cM:=Xv (n:=2) (by
 simp only[deep];have:n3 (zT bs)<=1:=xN λd a=>by simp only[zT,Mk]at a;obtain⟨b,_,rfl⟩:=a;simp[deep,n3]
 omega) ⋯ (by
 simp only[h9];exact yt λd a=>by simp only[zT,Mk]at a;obtain⟨b,_,rfl⟩:=a;rfl)
noncomputable def n0:TB:=(0,0,λ_ _=>0)
noncomputable def JW(m:Nat)(ts us:List TB):Bool:=decide<|ts.length=m+1/\us.length=m+1
noncomputable def pz(p:Int)(m:Nat)(wd:UX)(ts us:List TB):Bool:=(LL<|m+1).all λk=>t6 p (wd k) (ts.getD k n0)<|us.getD k n0
noncomputable def qF(bs:List (Int×Int))(ts us:List TB):D:= .tup [.lst (zT bs),.lst<|ts.map tD,.lst (us.map tD)]
theorem ZR{n:Nat}{ts:List TB}(h:ts.length=n):ts.map tD=(LL n).map λk=>tD (ts.getD k n0):=by
 conv=>lhs;rw[<- jq n0 ts]
 rw[MB,h];rfl
theorem J6{p:Int}{ts:List TB}(h : ∀t∈ts,xb p t){k:Nat}(I:k<ts.length):xb p (ts.getD k n0):=by rw[LS,LP I];exact h _<|OL I
section
variable{p:Int}{m:Nat}{w:UK}{wd:UX}{T:UW}{bs:List (Int×Int)}{ts us:List TB}
noncomputable def fT(ts:List TB)(k:Nat):Nat->Nat->Int:=(ts.getD k n0).2.2
theorem WG(h:pz p m wd ts us=cM){k:Nat}(I:k<m+1):t6 p (wd k) (ts.getD k n0) (us.getD k n0)=cM:=ND.mp h k<|LO.mpr I
theorem J0{n:Nat}{t u:TB}(h:t6 p n t u=cM):t.1=n/\t.2.1=n/\u.1=n/\u.2.1=n:=by unfold t6 at h;rw[Mi]at h;exact of_decide_eq_true h.1
theorem bM(Q:JW m ts us=cM)(h:pz p m wd ts us=cM):ts.map tD=xj (m+1) wd (fT ts)/\us.map tD=xj (m+1) wd (fT us):=by
 have O:ts.length=m+1/\us.length=m+1:=of_decide_eq_true Q;rw[ZR O.1,ZR O.2];unfold xj;refine⟨Md λk I=>?_,Md λk I=>?_⟩
 ·have q:=J0 (WG h<|LO.mp I)
  show jf _ _ _=_;rw[q.1,q.2.1];rfl
 ·have q:=J0 (WG h<|LO.mp I)
  show jf _ _ _=_;rw[q.2.2.1,q.2.2.2];rfl
theorem uT(I:JW m ts us=cM)(h:pz p m wd ts us=cM)(O : ∀t∈us,xb p t) : ∀k i j,k<m+1->i<wd k->j<wd k->0<=fT us k i j/\fT us k i j<p:=λk i j Q a U=>by have Y:ts.length=m+1/\us.length=m+1:=of_decide_eq_true I;have q:=J0<|WG h Q;have g:=J6 O (k:=k) ⋯;exact g.e i j (by rw[q.2.2.1];exact a) (by rw[q.2.2.2];exact U)
noncomputable def mF(p:Int)(m:Nat)(w:UK)(wd:UX)(T:UW)(bs:List (Int×Int))(ts us:List TB):Bool:=
 (iq ((m+1:Nat):Int) bs && wm bs) && (JW m ts us && pz p m wd ts us) && i5 (jk p m w wd<|jl p w wd (fT ts) (fT us) T) (BR p m w bs)
end
theorem BL:xJ=jo 12 (zM Tj<|zM Tn<|zM To<|zM F6<|zM M5<|zM F7 M6):=rfl
noncomputable def HP:=(zM (h7 (yK (jX<|sB<|ro .tuple<|zc 8)<|yK (sB<|zB gv (yJ<|zh 8)<|zu<|.int 2)<|yK (jX<|sB<|zA jG<|zb (di (zh 8)<|zu<|.int 0) zD)<|jX<|sB<|zA jG<|zb (di (zh 8)<|zu<|.int 1) zD) (j7<|zu<|.bl cR) j1)<|h7 (jX<|sB<|Kc ni ni pe (zu<|.int 0) (di (zh 8)<|zu<|.int 0) (di (zh 8)<|zu<|.int 1)<|yJ<|zh 3) (j7<|zu<|.bl cR) j1)
noncomputable def Ay:=(h7 (yK (jX<|sB<|zA jv<|zb (zc 2)<|zb (zc 10)<|zb (zc 9)<|zb (zc 9) zD)<|jX<|sB<|zA jv<|zb (zc 2)<|zb (zc 11)<|zb (zc 9)<|zb (zc 9) zD) (j7<|zu<|.bl cR) j1)
noncomputable def EV:=(h7 (sB<|zB gv (zA jw<|zb (zc 2)<|zb (zc 10)<|zb (zc 11) zD)<|zA km<|zb (zc 9) zD) (j7<|zu<|.bl cR) j1)
noncomputable def HN:=zM Ay EV
theorem Wl{C:Type}{T:Tg}{F:CO Fl}{g:C->D}{t:C->Bool}{r:Res}(P:Ctx->Prop) : ∀(l:List C) {γ:Ctx},P γ->
 (∀a∈l,∀γ,P γ->∃γ1,xG T (g a) γ=cq γ1/\((t a=cM->∃I,F γ1=cq (.next I)/\P I)/\(t a=cR->F γ1=cq (.ret r))))->
 (l.all t=cM->∃γ',qQ T F (l.map g) γ=cq (.next γ')/\P γ')/\(l.all t=cR->qQ T F (l.map g) γ=cq (.ret r))
 | [],γ,hp,_=>⟨λ_=>⟨γ,rfl,hp⟩,λh=>by cases h⟩
 | a::l,γ,hp,h=>by
  obtain⟨γ1,d,f,i⟩:=h a (Mh ..) γ hp;cases ht:t a with
  | true=>
   obtain⟨I,O,Q⟩:=f ht;have U:=Wl P l Q λb Y=>h b<|Mg _ Y;have e:qQ T F ((a::l).map g) γ=qQ T F (l.map g) I:=by rw[Mu,jF,d];simp only[LR,O]
   rw[e,RM,ht,Rg];exact U
  | false=>
   refine⟨λz=>?_,λ_=>?_⟩
   ·rw[RM,ht,Pk]at z;cases z
   ·rw[Mu,jF,d]
    simp only[LR,i ht]
section
variable{p:Int}{m:Nat}{w:UK}{wd:UX}{T:UW}{bs:List (Int×Int)}{ts us:List TB}
abbrev i4(p:Int)(m:Nat)(w:UK)(wd:UX)(T:UW)(bs:List (Int×Int))(ts us:List TB)(c8 c9 R0 R3:Cell):Ctx:=[.val (jk p m w wd T),.val (qF bs ts us),.val (.int p),.val (.tup (zH (m+1) λk=>(wd k:Int))),.val (.tup (jL m w wd T)),.val (.lst (zT bs)),.val (.lst (ts.map tD)),.val (.lst (us.map tD)),c8,c9,R0,R3]
theorem EU:Tj (zZ 12 [jk p m w wd T,qF bs ts us])=cq (.next [.val (jk p m w wd T),.val<|qF bs ts us,.val<|.int p,.val<|.tup<|zH (m+1) λk=>(wd k:Int),.val<|.tup<|jL m w wd T,.no,.no,.no,.no,.no,.no,.no]):=rfl
theorem ET:Tn [.val (jk p m w wd T),.val<|qF bs ts us,.val<|.int p,.val<|.tup<|zH (m+1) λk=>(wd k:Int),.val<|.tup<|jL m w wd T,.no,.no,.no,.no,.no,.no,.no]=cq (.next [.val (jk p m w wd T),.val<|qF bs ts us,.val<|.int p,.val<|.tup<|zH (m+1) λk=>(wd k:Int),.val<|.tup<|jL m w wd T,.no,.no,.no,.no,.no,.no,.no]):=rfl
theorem ES:To [.val (jk p m w wd T),.val<|qF bs ts us,.val<|.int p,.val<|.tup<|zH (m+1) λk=>(wd k:Int),.val<|.tup<|jL m w wd T,.no,.no,.no,.no,.no,.no,.no]=cq (.next<|i4 p m w wd T bs ts us .no .no .no .no):=rfl
theorem Uv:(iq ((m+1:Nat):Int) bs=cM->∃C,F6 (i4 p m w wd T bs ts us .no .no .no .no)=cq (.next<|i4 p m w wd T bs ts us C .no .no .no))/\(iq ((m+1:Nat):Int) bs=cR->F6 (i4 p m w wd T bs ts us .no .no .no .no)=cq (.ret<|.val<|.bl cR)):=by
 have q:=Wl (T:= .nm 8) (F:=HP) (g:=λb:Int×Int=>D.tup [.int b.1,.int b.2]) (t:=EI ((m+1:Nat):Int)) (r:= .val (.bl cR)) (λγ=>∃C,γ=i4 p m w wd T bs ts us C .no .no .no) bs (γ:=i4 p m w wd T bs ts us .no .no .no .no) ⟨_,rfl⟩ (by
  rintro⟨a,b⟩ _ γ ⟨C,rfl⟩;refine⟨i4 p m w wd T bs ts us (.val<|.tup [.int a,.int b]) .no .no .no,rfl,?_⟩;have U:(h7 (yK (jX<|sB<|ro .tuple<|zc 8)<|yK (sB<|zB gv (yJ<|zh 8)<|zu<|.int 2)<|yK (jX<|sB<|zA jG<|zb (di (zh 8)<|zu<|.int 0) zD)<|jX<|sB<|zA jG<|zb (di (zh 8)<|zu<|.int 1) zD) (j7<|zu<|.bl cR) j1) (i4 p m w wd T bs ts us (.val<|.tup [.int a,.int b]) .no .no .no)=cq (.next<|i4 p m w wd T bs ts us (.val<|.tup [.int a,.int b]) .no .no .no):=rfl;have wl:(zH (m+1) λk=>(wd k:Int)).length=m+1:=by simp[zH]
  have j:i3 2 0=cq 0:=rfl;have l:i3 2 1=cq 1:=rfl;have Y:jX (sB<|Kc ni ni pe (zu<|.int 0) (di (zh 8)<|zu<|.int 0) (di (zh 8)<|zu<|.int 1)<|yJ<|zh 3) (i4 p m w wd T bs ts us (.val<|.tup [.int a,.int b]) .no .no .no)=cq (!EI ((m+1:Nat):Int) (a,b)):=by
   simp only[i4,KR,Xg,lD,kJ,vX,jT,ly,LX,LY,Mo,MG,MT,Nx,zX,jW,LR,Mf,qm,j,l,wl,Ab,Aa,XS];unfold EI;by_cases d:0<=a
   ·by_cases f:a<=b
    ·by_cases O:b<((m+1:Nat):Int)
     ·have I:0<=a/\a<((m+1:Nat):Int)/\0<=b/\b<((m+1:Nat):Int)/\a<=b:=⟨d,by omega,by omega,O,f⟩
      rw[decide_eq_true d,decide_eq_true f,decide_eq_true O,decide_eq_true I];rfl
     ·have I : ¬(0<=a/\a<((m+1:Nat):Int)/\0<=b/\b<((m+1:Nat):Int)/\a<=b):=λz=>O z.2.2.2.1
      rw[decide_eq_true d,decide_eq_true f,decide_eq_false O,decide_eq_false I];rfl
    ·have I : ¬(0<=a/\a<((m+1:Nat):Int)/\0<=b/\b<((m+1:Nat):Int)/\a<=b):=λz=>f z.2.2.2.2
     rw[decide_eq_true d,decide_eq_false f,decide_eq_false I];rfl
   ·have I : ¬(0<=a/\a<((m+1:Nat):Int)/\0<=b/\b<((m+1:Nat):Int)/\a<=b):=λz=>d z.1
    rw[decide_eq_false d,decide_eq_false I];rfl
  refine⟨λQ=>⟨i4 p m w wd T bs ts us (.val<|.tup [.int a,.int b]) .no .no .no,?_,_,rfl⟩,λQ=>?_⟩
  ·refine zo U ?_
   rw[y9,Y,Q];rfl
  ·refine zo U ?_
   rw[y9,Y,Q];rfl)
 have e:F6 (i4 p m w wd T bs ts us .no .no .no .no)=qQ (.nm 8) HP (bs.map λb:Int×Int=>D.tup [.int b.1,.int b.2]) (i4 p m w wd T bs ts us .no .no .no .no):=rfl;rw[e];refine⟨λh=>?_,λh=>q.2 h⟩;obtain⟨n,i,C,rfl⟩:=q.1 h;exact⟨C,i⟩
theorem Lc(I:bs.length<64)(C:Cell):M5 (i4 p m w wd T bs ts us C .no .no .no)=if (wm bs && JW m ts us)=cM then cq (.next<|i4 p m w wd T bs ts us C .no .no .no)else cq (.ret<|.val<|.bl cR):=by
 have O:=Jx I;have q:=iN (vm bs)<|vm<|qR bs;have Q:gv (.lst<|zT bs) (.lst<|zT<|qR bs)=cq (.bl<|!wm bs):=by rw[q,show i5 (.lst<|zT bs) (.lst<|zT<|qR bs)=rb (zT bs) (zT<|qR bs)from rfl,Vh];rfl
 have wl:(zH (m+1) λk=>(wd k:Int)).length=m+1:=by simp[zH]
 have U : ∀a b:Int,gv (.int a) (.int b)=cq (.bl<|!(a==b)):=λa b=>by rw[iN rfl rfl];rfl
 have Y:(yK (sB<|zB gv (zc 5)<|qf<|JA<|zh 5)<|yK (sB<|zB gv (yJ<|zh 6)<|yJ<|zh 3)<|sB<|zB gv (yJ<|zh 7)<|yJ<|zh 3) (i4 p m w wd T bs ts us C .no .no .no)=cq (!(wm bs && JW m ts us)):=by
  simp only[i4,QL,Xg,xc,ZE,bt,ly,jT,qO,LX,LY,zX,zW,yd,jW,LR,Mf,Mm,O,Q,U,XS,wl];unfold JW;cases wm bs with
  | false=>rfl
  | true=>
   by_cases d:ts.length=m+1<;>by_cases e:us.length=m+1<;>simp[d,e,Int.natCast_inj]
   ·intro z;omega
   ·intro z;omega
   ·intro z;omega
 unfold M5;rw[y9,Y];cases wm bs && JW m ts us<;>rfl
theorem Lb(p0:0<p)(p7:p<=7)(hm:m<=5)(Z : ∀k,wd k<=60)(ht : ∀t∈ts,xb p t)(hu : ∀t∈us,xb p t)(hl:JW m ts us=cM)(C:Cell):(pz p m wd ts us=cM->∃S J L,F7 (i4 p m w wd T bs ts us C .no .no .no)=cq (.next<|i4 p m w wd T bs ts us C S J L))/\(pz p m wd ts us=cR->F7 (i4 p m w wd T bs ts us C .no .no .no)=cq (.ret<|.val<|.bl cR)):=by
 have E:ts.length=m+1/\us.length=m+1:=of_decide_eq_true hl;have q:=Wl (T:= .tp [9,10,11]) (F:=HN) (g:=λk:Nat=>D.tup [.int (wd k:Int),tD<|ts.getD k n0,tD (us.getD k n0)]) (t:=λk=>t6 p (wd k) (ts.getD k n0)<|us.getD k n0) (r:= .val (.bl cR)) (λγ=>∃S J L,γ=i4 p m w wd T bs ts us C S J L) (LL<|m+1) (γ:=i4 p m w wd T bs ts us C .no .no .no) ⟨_,_,_,rfl⟩ (by
  rintro k G γ ⟨S,J,L,rfl⟩;have G:=LO.mp G;have x:=J6 ht (k:=k) ⋯;have b:=J6 hu (k:=k) ⋯;have N:=Z k;refine⟨i4 p m w wd T bs ts us C (.val<|.int (wd k:Int)) (.val<|tD<|ts.getD k n0)<|.val<|tD<|us.getD k n0,rfl,?_⟩;generalize ts.getD k n0=t at x ⊢;generalize us.getD k n0=u at b ⊢;generalize wd k=n at N ⊢;obtain⟨a,Q,I⟩:=t;obtain⟨U,Y,O⟩:=u;have W:a<=60:=x.h;have X:Q<=60:=x.w;have b7:U<=60:=b.h;have b8:Y<=60:=b.w;have b1:=XC (p:=p) I (show a<=400 by omega) (show Q<=400 by omega) x.e n n;have b2:=XC (p:=p) O (show U<=400 by omega) (show Y<=400 by omega) b.e n n;have b3:=VH (p:=p) (h:=n) (m:=n) (w:=n) I O p0 ⋯ ⋯ ⋯;have b4:=Bh (n:=n) ⋯;show(t6 p n (a,Q,I) (U,Y,O)=cM->_)/\(t6 p n (a,Q,I) (U,Y,O)=cR->_);have A:(yK (jX<|sB<|zA jv<|zb (zc 2)<|zb (zc 10)<|zb (zc 9)<|zb (zc 9) zD)<|jX<|sB<|zA jv<|zb (zc 2)<|zb (zc 11)<|zb (zc 9)<|zb (zc 9) zD) (i4 p m w wd T bs ts us C (.val<|.int (n:Int)) (.val<|jf a Q I)<|.val<|jf U Y O)=cq (!decide (a=n/\Q=n/\U=n/\Y=n)):=by simp only[i4,QL,KR,Xg,va,qo,x9,qO,LX,LY,zW,LR,Mf,b1,b2,pS,XS];by_cases d:a=n<;>by_cases f:Q=n<;>by_cases l:U=n<;>by_cases o:Y=n<;>simp[d,f,l,o]
  by_cases y:a=n/\Q=n/\U=n/\Y=n
  ·have s:Ay (i4 p m w wd T bs ts us C (.val<|.int (n:Int)) (.val<|jf a Q I)<|.val<|jf U Y O)=cq (.next<|i4 p m w wd T bs ts us C (.val<|.int (n:Int)) (.val<|jf a Q I)<|.val<|jf U Y O):=by
    unfold Ay;rw[y9,A,decide_eq_true y];rfl
   obtain⟨d,f,l,o⟩:=y;replace d:=d.symm;replace f:=f.symm;replace l:=l.symm;replace o:=o.symm;subst d f l o;have b3:=b3 (λi j K M=>by have:=b.e i j K M;simp only at this;omega);have P:=iN (V5 n n λi j=>zf (λk=>I i k*O k j) n%p)<|V5 n n λi j=>if i=j then 1 else 0;have B:sB (zB gv (zA jw<|zb (zc 2)<|zb (zc 10)<|zb (zc 11) zD)<|zA km<|zb (zc 9) zD) (i4 p m w wd T bs ts us C (.val<|.int (n:Int)) (.val<|jf n n I)<|.val<|jf n n O)=cq (!t6 p n (n,n,I) (n,n,O)):=by simp only[i4,Xg,xc,va,qo,x9,qO,LX,LY,zW,LR,Mf,b3,b4,pS,P,XS,t6,tK,VM,and_self,decide_true,Rg]
   refine⟨λz=>⟨i4 p m w wd T bs ts us C (.val<|.int (n:Int)) (.val<|jf n n I)<|.val<|jf n n O,?_,_,_,_,rfl⟩,λz=>?_⟩
   ·refine zo s ?_
    unfold EV;rw[y9,B,z];rfl
   ·refine zo s ?_
    unfold EV;rw[y9,B,z];rfl
  ·have e:t6 p n (a,Q,I) (U,Y,O)=cR:=by
    unfold t6;rw[decide_eq_false y];rfl
   have s:Ay (i4 p m w wd T bs ts us C (.val<|.int (n:Int)) (.val<|jf a Q I)<|.val<|jf U Y O)=cq (.ret<|.val<|.bl cR):=by unfold Ay;rw[y9,A,decide_eq_false y];rfl
   refine⟨λz=>?_,λ_=>?_⟩
   ·rw[e]at z;cases z
   ·show zM Ay EV (i4 p m w wd T bs ts us C (.val<|.int (n:Int)) (.val<|jf a Q I)<|.val<|jf U Y O)=_
    rw[jc,s];rfl)
 have z:rQ (zH (m+1) λk=>(wd k:Int)) (ts.map tD) (us.map tD)=(LL<|m+1).map λk=>D.tup [.int (wd k:Int),tD<|ts.getD k n0,tD (us.getD k n0)]:=by rw[ZR E.1,ZR E.2];unfold rQ zH;rw[Py,Py,MB];rfl
 have e:F7 (i4 p m w wd T bs ts us C .no .no .no)=qQ (.tp [9,10,11]) HN ((LL<|m+1).map λk=>D.tup [.int (wd k:Int),tD<|ts.getD k n0,tD (us.getD k n0)]) (i4 p m w wd T bs ts us C .no .no .no):=by rw[<- z];rfl
 rw[e];refine⟨λh=>?_,λh=>q.2 h⟩;obtain⟨R,H,S,J,L,rfl⟩:=q.1 h;exact⟨S,J,L,H⟩
theorem QX(S:0<p)(Z:p<=7)(U:m<=5)(C : ∀k,wd k<=60)(hT : ∀k i j,k<m->i<gm w wd k->j<f7 w wd k->0<=T k i j/\T k i j<p)(J:bs.length<64)(ht : ∀t∈ts,xb p t)(L : ∀t∈us,xb p t) :
 xJ [jk p m w wd T,qF bs ts us]=cq (.val<|.bl<|mF p m w wd T bs ts us):=by
 have B:=jy;rw[BL];unfold mF;cases g1:iq ((m+1:Nat):Int) bs with
 | false=>
  simp only[Pk];exact jm (zo EU<|zo ET<|zo ES<|by rw[jc,Uv.2 g1];rfl)
 | true=>
  obtain⟨d,Y⟩:=(Uv (p:=p) (w:=w) (wd:=wd) (T:=T) (ts:=ts) (us:=us)).1 g1;have I:=Lc (p:=p) (m:=m) (w:=w) (wd:=wd) (T:=T) (ts:=ts) (us:=us) J d;cases g2:(wm bs && JW m ts us)with
  | false=>
   rw[g2,UY ⋯]at I;have e:(cM && wm bs && (JW m ts us && pz p m wd ts us) && i5 (jk p m w wd<|jl p w wd (fT ts) (fT us) T) (BR p m w bs))=cR:=by rw[Rg,<- Bool.and_assoc,g2,Pk,Pk]
   rw[e];exact jm (zo EU<|zo ET<|zo ES<|zo Y<|by rw[jc,I];rfl)
  | true=>
   rw[g2,UJ rfl]at I;rw[Mi]at g2;obtain⟨g2,O⟩:=g2;have Q:=Lb (w:=w) (T:=T) (bs:=bs) S Z U C ht L O d;cases g4:pz p m wd ts us with
   | false=>
    simp only[Bool.and_false,Pk];exact jm (zo EU<|zo ET<|zo ES<|zo Y<|zo I<|by rw[jc,Q.2 g4];rfl)
   | true=>
    obtain⟨g,a,b,Q⟩:=Q.1 g4;rw[g2,O];simp only[Rg,RN];obtain⟨z,A⟩:=bM O g4;have l:=XH (f:=fT ts) S Z U C hT (uT O g4 L);rw[<- z,<- A]at l;have r:=xZ (p:=p) (w:=w) U J;have q:=Eg (uo p m w wd (jl p w wd (fT ts) (fT us) T)) (Cq (p:=p) (m:=m) (w:=w) (bs:=bs));have o:eW (zu (.str "")) (jt (zK (zN (zh 4)) (.nm 0) 1 [] jd (di (zh 0) (zu (.int 0))))) (i4 p m w wd T bs ts us d g a b)=cq (.str (qZ m w)):=by
     have h:m<=lim:=by omega
     have st:X5 ((LL m).map λk=>D.str<|qA<|ft<|w k)=cq ((LL m).map λk=>qA<|ft<|w k):=ZS _ _;have y:((LL m).map λk=>qA<|ft<|w k).all j3=cM:=by simp only[ND];intro x n;obtain⟨k,_,rfl⟩:=Mk.mp n;unfold ft;split<;>decide
     have s:j3 "" = cM:=by decide +kernel
     simp only[i4,lA,kJ,xt,j6,qX,jT,LX,LY,zX,jW,LR,Mf];rw[QJ,UJ h,show z5 1 [] (i4 p m w wd T bs ts us d g a b)=[Cell.no]from rfl,K7];simp only[Mf,LR,st];rw[UJ ⟨by simpa using h,y,s⟩];rfl
    have u:M6 (i4 p m w wd T bs ts us d g a b)=cq (.ret<|.val<|.bl<|i5 (jk p m w wd<|jl p w wd (fT ts) (fT us) T)<|BR p m w bs):=by unfold M6;rw[vJ,xc,va,va,qo,qo,qo,x9,qo,qo,qo,x9,o];simp only[i4,qO,LX,LY,zW,LR,Mf,l,r,pS,q]
    exact jm<|zo EU<|zo ET<|zo ES<|zo Y<|zo I<|zo Q u
end
theorem AR:xx=jo 15 (zM G7<|zM N5<|zM TN<|zM TQ<|zM N6 UL):=rfl
noncomputable def UO:=(zM (JB 4 (zc 8)<|qf<|zK (zN<|zR<|di (zh 4)<|zc 8) (.nm 0) 1 [2,10] jd (zB xV (zB kX (zc 2)<|zc 0)<|zc 1))<|zM (jB 11<|di (jt<|zK (ju<|zc 2) (.nm 0) 1 [2,10] (sB<|zB f9 (zB xV (zB kX (zc 0)<|zc 2)<|zc 1)<|zu<|.int 1) (zc 0))<|zu<|.int 0)<|JC 5 12 (zc 8)<|zB xV (zB kX (di (zh 12)<|zc 8)<|zc 11)<|zc 2)
noncomputable def UM:=(zM (JB 4 (zc 9)<|qf<|zK (aa (di (zh 4)<|zc 9)<|di (zh 4)<|zc 8) (.tp [0,1]) 2 [2,10] jd (zB xV (zB qD (zc 0)<|zB kX (zc 3)<|zc 1)<|zc 2))<|JC 5 12 (zc 8)<|zB xV (zB vB (di (zh 12)<|zc 8)<|zB kX (zc 10)<|di (zh 12)<|zc 9)<|zc 2)
noncomputable def N7:=(h7 (sB<|zB f9 (zc 8)<|zc 9) UO UM)
noncomputable def UN:=(zM (jB 7<|zA jj<|zb (zc 0)<|zb (zB qD (zc 1)<|zc 6) zD)<|zM (jB 8<|zB xV (zc 7)<|zc 3)<|zM (jB 9<|zB xV (zB XQ (zc 7)<|zc 3)<|zc 3)<|zM (jB 10<|zB qD (zu<|.int 1)<|zB xV (zB XQ (zc 7)<|zu<|.int 97)<|zB vB (zc 2)<|zu<|.int 1) N7)
theorem sr:TN=ZI (ju<|zB kX (zu<|.int 3)<|zc 3) (.nm 6) UN:=rfl
section
variable{p:Int}{n:Nat}
theorem dJ(S:Pr p)(Z:n<=60)(h:Pair p n f g)(I:u<n)(Y:o<n)(ht:1<=tm/\tm<p)(C J L ac ak:Cell) :
 ∃f' g' R3 b0,Pair p n f' g'/\N7 [C,J,.val<|.int p,.val<|.int n,.own<|jQ n f,.nest<|qE n g,L,.val<|.int cell,.val<|.int u,.val<|.int o,.val<|.int tm,ac,ak,.no,.no]=cq (.next [C,J,.val<|.int p,.val<|.int n,.own<|jQ n f',.nest<|qE n g',L,.val<|.int cell,.val<|.int u,.val<|.int o,.val<|.int tm,R3,b0,.no,.no]):=by
 have hl:=jy;have Z:n<=lim:=by omega
 have U:=S.pos;have p7:=S.le;have one:=S.one;have r : ∀z:Int,0<=z%p/\z%p<p:=λz=>⟨MQ _ ⋯,MF _ U⟩;have w : ∀x,XR tm x=cM:=λx=>vI _ _ ⋯ ⋯;by_cases m:u=o
 ·subst m
  have B:zP (.nm 0) (sB<|zB f9 (zB xV (zB kX (zc 0)<|zc 2)<|zc 1)<|zu<|.int 1) (zc 0) [Cell.no,Cell.val<|.int p,Cell.val (.int tm)] (zH p.toNat λi=>(i:Int))=cq (((LL p.toNat).filter λ(i:Nat)=>decide<|(i:Int)*tm%p=1).map λ(i:Nat)=>D.int (i:Int)):=by rw[z7];refine jx _ _ _ λi l=>⟨_,rfl,?_,λ_=>rfl⟩;have bl:=LO.mp l;simp[vI (i:Int) tm ⋯ ⋯,U]
  obtain⟨R,T,W,G⟩:=rA S (x:=tm) ⋯ ht.2;cases hg:(LL p.toNat).filter λ(i:Nat)=>decide ((i:Int)*tm%p=1)with
  | nil=>
   have:=YX hg R ⋯;simp[G]at this
  | cons b X=>
   obtain⟨bx,H,_⟩:=ZC hg;rw[hg]at B;have E:(b:Int)*tm%p=1:=by simpa using H
   have c0:(b:Int)<p:=by omega
   refine⟨λi j=>if i=u then tm*f u j%p else f i j,λi j=>if j=u then g i u*(b:Int)%p else g i j,.val<|.int (b:Int),.no,⟨λi j l O=>?_,λi j l O=>?_,?_,?_⟩,?_⟩
   ·by_cases e:i=u
    ·simp only[UJ e];exact r _
    ·simp only[UY e];exact h.bf i j l O
   ·by_cases e:j=u
    ·simp only[UJ e];exact r _
    ·simp only[UY e];exact h.bg i j l O
   ·refine bC (a:=tm) (b:=(b:Int)) (u:=u) (by rw[MU,E,one]) h.fg (λi k _ _=>?_) (λk j _ _=>?_)
    ·by_cases e:i=u
     ·simp only[UJ e];rw[Mp,e]
     ·simp only[UY e,OH]
    ·by_cases e:j=u
     ·simp only[UJ e];rw[Mp,e,MU]
     ·simp only[UY e,OH]
   ·refine VF (a:=tm) (b:=(b:Int)) (u:=u) (by rw[E,one]) h.gf (λi k _ _=>?_) (λk j _ _=>?_)
    ·by_cases e:i=u
     ·simp only[UJ e];rw[Mp,e]
     ·simp only[UY e,OH]
    ·by_cases e:j=u
     ·simp only[UJ e];rw[Mp,e,MU]
     ·simp only[UY e,OH]
   ·have s:zP (.nm 0) jd (zB xV (zB kX (zc 2)<|zc 0)<|zc 1) [Cell.no,Cell.val<|.int p,Cell.val (.int tm)] (zH n<|f u)=cq (zH n λj=>tm*f u j%p):=by
     rw[z7,z7];refine zw _ _ λj O=>zx rfl rfl ?_;simp[w,U]
    have A:=Yx I f (λi j=>if i=u then tm*f u j%p else f i j) (λj=>tm*f u j%p) (λj _=>by simp) (λi j _ Q _=>by simp[Q]);have y : ∀d:Cell,ki 5 12 (zc 8) (zB xV (zB kX (di (zh 12)<|zc 8)<|zc 11)<|zc 2) [C,J,.val<|.int p,.val<|.int n,d,.nest<|qE n g,L,.val<|.int cell,.val<|.int u,.val<|.int u,.val<|.int tm,.val<|.int (b:Int),ak,.no,.no] (qE n g)=cq (qE n λi j=>if j=u then g i u*(b:Int)%p else g i j):=λd=>by
     unfold qE;refine Zq _ λk F=>⟨.int<|g k u*(b:Int)%p,u,u,?_,rfl,?_,QC I _ _ _ ⋯ λi _ Q=>by simp[Q]⟩
     ·have q:=h.bg k u (LO.mp F) I
      have N:=vI (g k u) (b:Int) ⋯ ⋯;simp[yG,I,N,U]
     ·simp[I]
    have K:inR p=cM:=XI ⋯ ⋯;have P:p.toNat<=lim:=by omega
    simp[N7,UO,jc,I,Z,z5,LQ,s,A,y,K,jY,P,B]
 ·refine⟨λi j=>if i=o then (f o j+tm*f u j)%p else f i j,λi j=>if j=u then (g i u - tm*g i o)%p else g i j,ac,.no,⟨λi j l O=>?_,λi j l O=>?_,?_,?_⟩,?_⟩
  ·by_cases e:i=o
   ·simp only[UJ e];exact r _
   ·simp only[UY e];exact h.bf i j l O
  ·by_cases e:j=u
   ·simp only[UJ e];exact r _
   ·simp only[UY e];exact h.bg i j l O
  ·refine mi (t:=tm) (u:=o) (o:=u) Y I (My m) h.fg (λi k _ _=>?_) (λk j _ _=>?_)
   ·by_cases e:i=o
    ·simp only[UJ e];rw[Mp,e]
    ·simp only[UY e,OX,OZ]
   ·by_cases e:j=u
    ·simp only[UJ e];rw[Mp,e,Int.neg_mul];rfl
    ·simp only[UY e,OX,OZ]
  ·refine dH (t:=tm) (u:=o) (o:=u) Y I (My m) h.gf (λi k _ _=>?_) (λk j _ _=>?_)
   ·by_cases e:i=o
    ·simp only[UJ e];rw[Mp,e]
    ·simp only[UY e,OX,OZ]
   ·by_cases e:j=u
    ·simp only[UJ e];rw[Mp,e,Int.neg_mul];rfl
    ·simp only[UY e,OX,OZ]
  ·have s:zP (.tp [0,1]) jd (zB xV (zB qD (zc 0)<|zB kX (zc 3)<|zc 1)<|zc 2) [Cell.no,Cell.no,Cell.val<|.int p,Cell.val (.int tm)] ((LL n).map λj=>D.tup [.int (f o j),.int (f u j)])=cq (zH n λj=>(f o j+tm*f u j)%p):=by
    rw[z7];refine zw _ _ λj O=>zx rfl rfl ?_;simp[w,U]
   have A:=Yx Y f (λi j=>if i=o then (f o j+tm*f u j)%p else f i j) (λj=>(f o j+tm*f u j)%p) (λj _=>by simp) (λi j _ Q _=>by simp[Q]);have y : ∀d:Cell,ki 5 12 (zc 8) (zB xV (zB vB (di (zh 12)<|zc 8)<|zB kX (zc 10)<|di (zh 12)<|zc 9)<|zc 2) [C,J,.val<|.int p,.val<|.int n,d,.nest<|qE n g,L,.val<|.int cell,.val<|.int u,.val<|.int o,.val<|.int tm,ac,ak,.no,.no] (qE n g)=cq (qE n λi j=>if j=u then (g i u - tm*g i o)%p else g i j):=λd=>by
    unfold qE;refine Zq _ λk F=>⟨.int<|(g k u - tm*g k o)%p,u,u,?_,rfl,?_,QC I _ _ _ ⋯ λi _ Q=>by simp[Q]⟩
    ·simp[yG,I,Y,w,U]
    ·simp[I]
   have M : ¬((u:Int)=(o:Int)):=by omega
   simp[N7,UM,jc,m,M,I,Y,Z,z5,LQ,v7,s,A,y]
end
section
variable{p:Int}{n:Nat}
theorem AN(Z:C.length<=63)(Q:Pr p)(hn:n<=60)(h0:0<=at')(h1:at'<=10000) :
 ∃f g,Pair p n f g/\xx [kn C,.int at',.int p,.int n]=cq (.own [jf n n f,jf n n g]):=by
 have hl:=jy;have O:n<=lim:=by omega
 have p0:=Q.pos;have two:=Q.two;have p7:=Q.le;have one:=Q.one;have z : ∀i:Nat,zP (.nm 0) jd (ka<|zB f9 (zc 1)<|zc 0) [Cell.no,Cell.val (.int i)] ((LL n).map λ(j:Nat)=>D.int j)=cq (zH n<|h6 i):=λi=>by
  rw[z7];refine zw _ _ λj hj=>zx rfl rfl ?_;by_cases e:i=j
  ·subst e;simp[h6]
  ·have e' : ¬((i:Int)=(j:Int)):=by omega
   simp[h6,e,e']
 have W:zP (.nm 0) jd (qf<|zK (ju<|zc 1) (.nm 0) 1 [0] jd (ka<|zB f9 (zc 1)<|zc 0)) [Cell.no,Cell.val (.int n)] ((LL n).map λ(j:Nat)=>D.int j)=cq (jQ n h6):=by unfold jQ;refine zw _ _ λi x=>zx rfl rfl ?_;simp[O,jY,z5,LQ];rw[z7 n λi=>(i:Int),z]
 have X:vU (.nm 0) (zK (ju<|zc 1) (.nm 0) 1 [0] jd (ka<|zB f9 (zc 1)<|zc 0)) [Cell.no,Cell.val (.int n)] ((LL n).map λ(j:Nat)=>D.int j)=cq (qE n h6):=by unfold qE;refine Vj _ λi x=>⟨_,rfl,?_⟩;simp[O,jY,z5,LQ];rw[z7 n λi=>(i:Int),z]
 have Jt:Pair p n h6 h6:=by
  have b : ∀i j:Nat,i<n->j<n->0<=h6 i j/\h6 i j<p:=λi j _ _=>by unfold h6;split<;>omega
  have u:ZO p n h6 h6:=λi j x hj=>by rw[zL (i:=i) x λk _ b7=>by unfold h6;rw[UY (My b7)];simp];simp[h6]
  exact⟨b,b,u,u⟩
 have s1:G7 (zZ 15 [kn C,.int at',.int p,.int n])=cq (.next [.val (kn C),.val<|.int at',.val<|.int p,.val<|.int n,.own<|jQ n h6,.no,.no,.no,.no,.no,.no,.no,.no,.no,.no]):=by show G7 [.val (kn C),.val<|.int at',.val<|.int p,.val<|.int n,.no,.no,.no,.no,.no,.no,.no,.no,.no,.no,.no]=_;unfold G7;simp[O,jY,z5,LQ];rw[z7 n λi=>(i:Int),W]
 have s2:N5 [.val (kn C),.val<|.int at',.val<|.int p,.val<|.int n,.own<|jQ n h6,.no,.no,.no,.no,.no,.no,.no,.no,.no,.no]=cq (.next [.val (kn C),.val<|.int at',.val<|.int p,.val<|.int n,.own<|jQ n h6,.nest<|qE n h6,.no,.no,.no,.no,.no,.no,.no,.no,.no]):=by unfold N5;simp[O,jY,z5,LQ];rw[z7 n λi=>(i:Int),X];simp[XD,O]
 have cm:XR 3 (n:Int)=cM:=vI _ _ ⋯ ⋯;obtain⟨γ',L,f,g,w,s,r,l,d,a,I,y,rfl⟩:=Xy (T:= .nm 6) (F:=UN) (f:=zB kX (zu<|.int 3)<|zc 3)
  (λt γ=>∃f g w s r l d a I,Pair p n f g/\γ=[.val (kn C),.val<|.int at',.val<|.int p,.val<|.int n,.own<|jQ n f,.nest<|qE n g,w,s,r,l,d,a,I,.no,.no])
  (3*n) ⋯ (γ:=[.val (kn C),.val<|.int at',.val<|.int p,.val<|.int n,.own<|jQ n h6,.nest<|qE n h6,.no,.no,.no,.no,.no,.no,.no,.no,.no]) (by
    have:((3*n:Nat):Int)=3*(n:Int):=by omega
    rw[this];simp[cm]) ⟨h6,h6,.no,.no,.no,.no,.no,.no,.no,Jt,rfl⟩ (by
    rintro t ht γ ⟨f,g,w,s,r,l,d,a,I,y,rfl⟩;have A:0<n:=by omega
    obtain⟨H,N,b1⟩:=KP Z (k:=at'+(t:Int)) ⋯ ⋯;generalize xQ C (at'+(t:Int))=cell at H N b1;obtain⟨u,eu,hu⟩:=Xx (m:=cell) (n:Int) ⋯;obtain⟨o,eo,ho⟩:=Xx (m:=cell/(n:Int)) (n:Int) ⋯;have cj:=MQ (cell/97) (show p - 1≠0 by omega);have cl:=MF (cell/97) (show 0<p - 1 by omega);have be:1<=1+cell/97%(p - 1)/\1+cell/97%(p - 1)<p:=by omega
    obtain⟨J,K,B,E,bf,es⟩:=dJ Q hn y (u:=u) (o:=o) (tm:=1+cell/97%(p - 1)) (cell:=cell) ⋯ ⋯ be (.val<|kn C) (.val<|.int at') (.val<|.int t) a I;refine⟨[.val (kn C),.val<|.int at',.val<|.int p,.val<|.int n,.own<|jQ n f,.nest<|qE n g,.val<|.int t,s,r,l,d,a,I,.no,.no],[.val (kn C),.val<|.int at',.val<|.int p,.val<|.int n,.own<|jQ n J,.nest<|qE n K,.val<|.int t,.val<|.int cell,.val<|.int u,.val<|.int o,.val<|.int<|1+cell/97%(p - 1),B,E,.no,.no],rfl,?_,J,K,.val<|.int t,.val<|.int cell,.val<|.int u,.val<|.int o,.val<|.int<|1+cell/97%(p - 1),B,E,bf,rfl⟩;have G:(0:Int)<(n:Int):=by omega
    have pm:0<p - 1:=by omega
    have P:(jB 7<|zA jj<|zb (zc 0)<|zb (zB qD (zc 1)<|zc 6) zD) [.val (kn C),.val<|.int at',.val<|.int p,.val<|.int n,.own<|jQ n f,.nest<|qE n g,.val<|.int t,s,r,l,d,a,I,.no,.no]=cq (.next [.val (kn C),.val<|.int at',.val<|.int p,.val<|.int n,.own<|jQ n f,.nest<|qE n g,.val<|.int t,.val<|.int cell,r,l,d,a,I,.no,.no]):=by simp[H]
    have R:(jB 8<|zB xV (zc 7)<|zc 3) [.val (kn C),.val<|.int at',.val<|.int p,.val<|.int n,.own<|jQ n f,.nest<|qE n g,.val<|.int t,.val<|.int cell,r,l,d,a,I,.no,.no]=cq (.next [.val (kn C),.val<|.int at',.val<|.int p,.val<|.int n,.own<|jQ n f,.nest<|qE n g,.val<|.int t,.val<|.int cell,.val<|.int u,l,d,a,I,.no,.no]):=by simp[G,A,eu]
    have S:(jB 9<|zB xV (zB XQ (zc 7)<|zc 3)<|zc 3) [.val (kn C),.val<|.int at',.val<|.int p,.val<|.int n,.own<|jQ n f,.nest<|qE n g,.val<|.int t,.val<|.int cell,.val<|.int u,l,d,a,I,.no,.no]=cq (.next [.val (kn C),.val<|.int at',.val<|.int p,.val<|.int n,.own<|jQ n f,.nest<|qE n g,.val<|.int t,.val<|.int cell,.val<|.int u,.val<|.int o,d,a,I,.no,.no]):=by
     have nb:(n:Int)<1073741824:=by omega
     simp[G,A,nb,eo]
    have bn:1<p:=by omega
    have bv:(jB 10<|zB qD (zu<|.int 1)<|zB xV (zB XQ (zc 7)<|zu<|.int 97)<|zB vB (zc 2)<|zu<|.int 1) [.val (kn C),.val<|.int at',.val<|.int p,.val<|.int n,.own<|jQ n f,.nest<|qE n g,.val<|.int t,.val<|.int cell,.val<|.int u,.val<|.int o,d,a,I,.no,.no]=cq (.next [.val (kn C),.val<|.int at',.val<|.int p,.val<|.int n,.own<|jQ n f,.nest<|qE n g,.val<|.int t,.val<|.int cell,.val<|.int u,.val<|.int o,.val<|.int<|1+cell/97%(p - 1),a,I,.no,.no]):=by simp[pm,bn]
    exact zo P<|zo R<|zo S<|zo bv es)
 rw[<- sr]at L;refine⟨f,g,y,?_⟩;have bx : ∀h:UV,zP (.nm 0) jd (zV<|zh 0) [Cell.no] (jQ n h)=cq (z9 n n h):=λh=>by unfold jQ z9;refine zw _ _ λi x=>zx rfl rfl ?_;simp
 have s4:TQ [.val (kn C),.val<|.int at',.val<|.int p,.val<|.int n,.own<|jQ n f,.nest<|qE n g,w,s,r,l,d,a,I,.no,.no]=cq (.next [.val (kn C),.val<|.int at',.val<|.int p,.val<|.int n,.own<|jQ n f,.nest<|qE n g,w,s,r,l,d,a,I,.own [],.no]):=rfl;have s5:N6 [.val (kn C),.val<|.int at',.val<|.int p,.val<|.int n,.own<|jQ n f,.nest<|qE n g,w,s,r,l,d,a,I,.own [],.no]=cq (.next [.val (kn C),.val<|.int at',.val<|.int p,.val<|.int n,.val<|.lst<|jQ n f,.val<|.lst<|jQ n g,w,s,r,l,d,a,I,.own [jf n n f,jf n n g],.val (.lst<|jQ n g)]):=by
  have l3:3<=lim:=by omega
  have l2:2<=lim:=by omega
  have M : ∀(acc:List D) (h:UV) (U Y:Cell),acc.length<=1->(xW 13<|xk<|zb (zc 3)<|zb (zc 3)<|zb (zV<|jt<|zK (zN<|zh 14) (.nm 0) 1 [] jd (zV<|zh 0)) zD) [.val (kn C),.val<|.int at',.val<|.int p,.val<|.int n,U,Y,w,s,r,l,d,a,I,.own acc,.val (.lst<|jQ n h)]=cq (.next [.val (kn C),.val<|.int at',.val<|.int p,.val<|.int n,U,Y,w,s,r,l,d,a,I,.own<|acc++[jf n n h],.val (.lst<|jQ n h)]):=λacc h U Y ha=>by
   have la:acc.length<lim:=by omega
   have rl:(jQ n h).length<=lim:=by rw[fz];exact O
   simp only[wY,wX,qo,x9,qO,xH,xt,j6,qX,jT,LX,LY,Mo,MG,MT,Nx,zW,zX,xF,yd,LR,Mf,rl,if_true];rw[show z5 1 [] [Cell.val (kn C),.val<|.int at',.val<|.int p,.val<|.int n,U,Y,w,s,r,l,d,a,I,.own acc,.val (.lst<|jQ n h)]=[Cell.no]from rfl,bx];simp only[Mf,LR,l3,if_true,la,NI,NH];rfl
  have e:N6 [.val (kn C),.val<|.int at',.val<|.int p,.val<|.int n,.own<|jQ n f,.nest<|qE n g,w,s,r,l,d,a,I,.own [],.no]=qQ (.nm 14) (xW 13<|xk<|zb (zc 3)<|zb (zc 3)<|zb (zV<|jt<|zK (zN<|zh 14) (.nm 0) 1 [] jd (zV<|zh 0)) zD) [.lst (jQ n f),.lst ((qE n g).map D.lst)] [.val (kn C),.val<|.int at',.val<|.int p,.val<|.int n,.val<|.lst<|jQ n f,.val<|.lst<|(qE n g).map D.lst,w,s,r,l,d,a,I,.own [],.no]:=rfl;rw[e,fw,jF];simp only[vp,LR,NI,NH];rw[M [] f _ _ ⋯];simp only[LR,Ox];rw[jF];simp only[vp,LR,NI,NH];rw[M [jf n n f] g _ _ (LW 1)];rfl
 rw[AR];exact jm<|zo s1<|zo s2<|zo L<|zo s4<|zo s5 rfl
end
noncomputable def hH(bs:List (Int×Int))(k:Nat):Nat:=(jO bs k).length
noncomputable def p9(w:UK)(bs:List (Int×Int))(k i j:Nat):Int:=if (jO bs<|z6 w k).getD i 0=(jO bs<|zS w k).getD j 0 then 1 else 0
theorem dZ(e b:List Nat):sv e b=jf e.length b.length λi j=>if e.getD i 0=b.getD j 0 then 1 else 0:=by
 have h : ∀{a:Type} (g:Nat->a) (l:List Nat),l.map g=(LL l.length).map λi=>g (l.getD i 0):=λg l=>by
  conv=>lhs;rw[<- jq 0 l]
  rw[MB];rfl
 unfold sv jf z9 zH;rw[h (λx=>D.tup<|b.map λy=>D.int<|if x=y then 1 else 0) e];simp only[h (λy=>D.int _) b]
theorem rO(p:Int)(m:Nat)(w:UK)(bs:List (Int×Int)):BR p m w bs=jk p m w (hH bs) (p9 w bs):=by
 have e:vW m w bs=jL m w (hH bs) (p9 w bs):=by unfold vW jL;refine Md λk _=>?_;rw[dZ];unfold xy;rw[wN,wa];rfl
 unfold BR jk;rw[e];rfl
theorem El{p:Int}(two:2<=p)(w:UK)(bs:List (Int×Int))(k i j:Nat):0<=p9 w bs k i j/\p9 w bs k i j<p:=by unfold p9;split<;>omega
theorem WX(I:0<p)(w:UK)(wd:UX)(f g T:UW)(k i j:Nat):0<=jl p w wd f g T k i j/\jl p w wd f g T k i j<p:=
 ⟨MQ _ ⋯,MF _ I⟩
noncomputable def xA(m:Nat)(wd:UX)(f:UW):List TB:=(LL<|m+1).map λk=>(wd k,wd k,f k)
theorem dW(m wd f):(xA m wd f).map tD=xj (m+1) wd f:=by unfold xA xj;rw[MB];rfl
theorem X4{m k:Nat}(wd f)(h:k<m+1):(xA m wd f).getD k n0=(wd k,wd k,f k):=by unfold xA;simp[LS,h]
theorem Yf(m wd f):(xA m wd f).length=m+1:=by simp[xA]
theorem iu{m k:Nat}(wd f)(h:k<m+1):fT (xA m wd f) k=f k:=by unfold fT;rw[X4 wd f h]
section
variable{p:Int}{m:Nat}{w:UK}{wd:UX}{f g T:UW}{bs:List (Int×Int)}
theorem Xk(O : ∀k,wd k<=60)(U : ∀k i j,k<m+1->i<wd k->j<wd k->0<=f k i j/\f k i j<p) : ∀t∈xA m wd f,xb p t:=λt Q=>by unfold xA at Q;obtain⟨k,I,rfl⟩:=Mk.mp Q;have I:=LO.mp I;exact⟨O k,O k,λi j a Y=>U k i j I a Y⟩
theorem VT(Q:Pr p)(Y : ∀b∈bs,vY ((m+1:Nat):Int) b)(hs:qR bs=bs)(U : ∀k,k<m+1->Pair p (hH bs k) (f k) (g k)) :
 mF p m w (hH bs) (jl p w (hH bs) f g<|p9 w bs) bs (xA m (hH bs) g) (xA m (hH bs) f)=cM:=by
 have o:=Q.pos;have two:=Q.two;have g1:iq ((m+1:Nat):Int) bs=cM:=ND.mpr λb h=>by have q:=Y b h;unfold vY at q;exact decide_eq_true ⋯
 have g2:wm bs=cM:=decide_eq_true hs.symm;have g3:JW m (xA m (hH bs) g) (xA m (hH bs) f)=cM:=decide_eq_true ⟨Yf ..,Yf ..⟩;have l:pz p m (hH bs) (xA m (hH bs) g) (xA m (hH bs) f)=cM:=ND.mpr λk I=>by
  have I:=LO.mp I;show t6 p (hH bs k) ((xA m (hH bs) g).getD k n0) ((xA m (hH bs) f).getD k n0)=cM;rw[X4 _ _ I,X4 _ _ I];unfold t6;have e:tK p (hH bs k) (hH bs k,hH bs k,g k) (hH bs k,hH bs k,f k)=VM (hH bs k):=ZZ λi j d O=>by
   have q:=(U k I).gf i j d O;show zf (λa=>g k i a*f k a j) (hH bs k)%p=_;rw[q];unfold h6;split
   ·exact Nn ⋯ ⋯
   ·exact Nn ⋯ ⋯
  rw[e,DW];simp
 have n:jk p m w (hH bs) (jl p w (hH bs) (fT<|xA m (hH bs) g) (fT<|xA m (hH bs) f)<|jl p w (hH bs) f g<|p9 w bs)=BR p m w bs:=by rw[rO];refine mL (λ_ _=>rfl) (λ_ _=>rfl) λk i j I d O=>?_;have q:=dP (w:=w) (T:=p9 w bs) U I (wN w (hH bs) k ▸ d) (wa w (hH bs) k ▸ O)<|El two w bs k i j;rw[<- q];show jl p w (hH bs) (fT<|xA m (hH bs) g) (fT<|xA m (hH bs) f) _ k i j=_;unfold jl;rw[iu _ _ (KF w I),iu _ _ (QG w I)]
 unfold mF;rw[g1,g2,g3,l,n,DW];rfl
end
section
variable{p:Int}{n:Nat}
theorem lP(C:Pr p)(J:n<=20)(f:UV) : ∃r B l,h8 p (n+n) r B l/\(∀v,Span p (n+n) (ej r B) v↔Span p (n+n) (ej n λi=>yL n (f i)<|j5 i) v)/\
 kN [.int p,jf n n f]=cq (.val<|if i5 (.lst<|z9 r n B) (.lst<|z9 n n j5)=cM then .tup [.int n,.int n,.tup (z9 r n λk j=>B k<|n+j)]else .ez):=by
 have z:=jy;have I:n<=lim:=by omega
 have m:n+n<=lim:=by omega
 obtain⟨r,B,l,e,O,o⟩:=xT C (show n+n<=100 by omega) I .L λi=>yL n (f i)<|j5 i;refine⟨r,B,l,O,o,?_⟩;have Q:r<=lim:=by have:r<=n+n:=V8 O.mono O.lt;omega
 have U:=vb (n:=n) I;have a:zP (.tp [0,1]) jd (zB qD (zc 0)<|zc 1) [Cell.no,Cell.no] ((LL n).map λi=>D.tup [.tup (zH n<|f i),.tup (zH n λk=>if i=k then 1 else 0)])=cq (z9 n (n+n) λi=>yL n (f i)<|j5 i):=by unfold z9;refine zw _ _ λj y=>zx rfl rfl ?_;simp[qD,m,ZY];rfl
 have Y:=lY n n f λi j=>if i=j then 1 else 0;have t:((n:Int)+(n:Int))=((n+n:Nat):Int):=by omega
 simp only[r9]at e;rw[<- t]at e;have d:zP (.nm 0) jd (eP (zc 0) dr<|u0<|zc 1) [Cell.no,Cell.val (.int n)] (z9 r (n+n) B)=cq (z9 r n B):=by unfold z9;refine zw _ _ λk u=>zx rfl rfl ?_;simp[bo]
 have s:zP (.nm 0) jd (eP (zc 0) (u0<|zc 1) dr) [Cell.no,Cell.val (.int n)] (z9 r (n+n) B)=cq (z9 r n λk j=>B k<|n+j):=by unfold z9;refine zw _ _ λk u=>zx rfl rfl ?_;simp[bj]
 have b:gv (.lst<|z9 r n B) (.lst<|z9 n n λi j=>if i=j then 1 else 0)=cq (.bl<|!i5 (.lst<|z9 r n B) (.lst<|z9 n n j5)):=by unfold gv;rw[UJ ⟨aC _ _ _,aC _ _ _⟩];rfl
 have g : ∀(h w:Nat) (f:UV),jR (jf h w f)=cq (.T,[.int h,.int w,.tup (z9 h w f)]):=λ_ _ _=>rfl;by_cases q:i5 (.lst<|z9 r n B) (.lst<|z9 n n j5)=cM
 ·rw[q]at b
  rw[UJ q];simp[kN,jo,zZ,jc,g,U,Y,I,Q,z5,kg,LQ,a,e,d,s,b]
 ·have x:i5 (.lst<|z9 r n B) (.lst<|z9 n n j5)=cR:=by simpa using q
  rw[x]at b;rw[UY q];simp[kN,jo,zZ,jc,g,U,Y,I,Q,z5,kg,LQ,a,e,d,b]
theorem WK(Q:Pr p)(S:n<=20)(J:ZO p n f g)(L:ZO p n g f)(C : ∀i j,i<n->j<n->0<=g i j/\g i j<p):kN [.int p,jf n n f]=cq (.val<|jf n n g):=by
 obtain⟨r,B,l,A,h,e⟩:=lP Q S f;have two:=Q.two;have one:=Q.one;have w:h8 p (n+n) n (λk=>yL n (j5 k)<|g k) id:={
  lt:=λk I=>by simp only[id];omega
  mono:=λk m I _=>I
  one:=λk I=>by simp only[id];rw[ql I];exact UJ rfl
  mA:=λk j I U=>by simp only[id]at U;rw[ql ⋯];exact UY ⋯
  sh:=λk m I E Y=>by simp only[id];rw[ql E];exact UY ⋯
  l0:=λk i I a=>by
   rcases Mt i n with z | z
   ·rw[ql z];unfold j5;split<;>omega
   ·obtain⟨j,rfl⟩ : ∃j,i=n+j:=⟨i - n,by omega⟩
    rw[qB];exact C k j I ⋯}
 have o : ∀v,Span p (n+n) (ej n λk=>yL n (j5 k)<|g k) v->Span p (n+n) (ej n λi=>yL n (f i)<|j5 i) v:=λv O=>O.le λs d=>by
  obtain⟨k,I,b⟩:=d;subst b;refine(Span.sum (u:=λi=>yL n (f i)<|j5 i) (λi=>g k i) (m:=n) λi a=> .gen ⟨i,a,rfl⟩).congr λj U=>?_;rcases Mt j n with z | z
  ·simp only[ql z]
   exact(L k j I z).symm
  ·obtain⟨m,rfl⟩ : ∃m,j=n+m:=⟨j - n,by omega⟩
   simp only[qB];rw[zL (i:=m) ⋯ λi _ Y=>by simp[j5,Y]];simp[j5]
 have t : ∀v,Span p (n+n) (ej n λi=>yL n (f i)<|j5 i) v->Span p (n+n) (ej n λk=>yL n (j5 k)<|g k) v:=λv O=>O.le λs d=>by
  obtain⟨i,a,b⟩:=d;subst b;refine(Span.sum (u:=λk=>yL n (j5 k)<|g k) (λk=>f i k) (m:=n) λk I=> .gen ⟨k,I,rfl⟩).congr λj U=>?_;rcases Mt j n with z | z
  ·simp only[ql z]
   rw[zL (i:=j) z λk _ Y=>by simp[j5,Y]];simp[j5]
  ·obtain⟨m,rfl⟩ : ∃m,j=n+m:=⟨j - n,by omega⟩
   simp only[qB];exact(J i m a ⋯).symm
 obtain⟨rfl,_,u⟩:=QH Q A w (λv O=>t v<|(h v).mp O)<|λv O=>(h v).mpr (o v O);have x:z9 r r B=z9 r r j5:=KH λk i I a=>by rw[u k i I ⋯,ql a]
 have y:z9 r r (λk j=>B k<|r+j)=z9 r r g:=KH λk j I U=>by rw[u k (r+j) I ⋯,qB]
 rw[e,x,UJ<|DW _,y];rfl
end
section
variable{wd:UX}{m k N:Nat}{p:Int}{w:UK}{T:UW}{A:Nat->eA}
noncomputable def fh(A:Nat->eA)(N r:Nat):List Nat:=(LL N).filter λj=>(A j).has r
noncomputable def jE(A:Nat->eA)(N r:Nat):Nat->Nat->Int:=λi j=>(A<|(fh A N r).getD j 0).v r i
theorem JY{r j:Nat}(h:j<(fh A N r).length):(fh A N r).getD j 0<N/\(A<|(fh A N r).getD j 0).has r=cM:=by
 have I:(fh A N r).getD j 0∈fh A N r:=by rw[LS,LP h];exact OL _
 obtain⟨a,b⟩:=MA.mp I;exact⟨LO.mp a,by simpa using b⟩
theorem Zv(I:Pr p)(U:n<=8)(hs : ∀v:Vc,∃t,∀i,i<n->v i%p=app f n t i%p) : ∃g:UV,ZO p n f g/\ZO p n g f/\∀i j,0<=g i j/\g i j<p:=by
 have Y:=I.pos;obtain⟨t,O⟩:=Ov λj=>hs<|j5 j;refine⟨λi j=>t j i%p,?_,?_,λi j=>⟨MQ _ ⋯,MF _ Y⟩⟩
 ·intro i j d Q
  have e:zf (λk=>f i k*(t j k%p)) n%p=app f n (t j) i%p:=zI λk _=>wH p _ _;rw[e,<- O j i d];unfold j5 h6;simp only[eq_comm]
 ·intro i j d Q
  have z : ∀a,a<n->app f n (λb=>zf (λk=>(t k b%p)*f k j) n - j5 j b) a%p=0:=λa h=>by
   rw[QK,wW f Q,NY];have e:app f n (λb=>zf (λk=>(t k b%p)*f k j) n) a%p=f a j%p:=by
    have l:app f n (λb=>zf (λk=>(t k b%p)*f k j) n) a=zf (λk=>f k j*app f n (λb=>t k b%p) a) n:=by rw[<- yA];congr 1;funext b;exact q9 ..
    rw[l];have m:zf (λk=>f k j*app f n (λb=>t k b%p) a) n%p=zf (λk=>f k j*j5 k a) n%p:=zI λk _=>by rw[LZ,jP (u:=t k) (λb _=>Mp _ _) a,<- O k a h,<- LZ]
    rw[m,zL (f:=λk=>f k j*j5 k a) h λk _ r=>by simp[j5,r]];simp[j5]
   rw[e];simp
  have:=vT I U hs z i d;have o:(zf (λk=>(t k i%p)*f k j) n)%p=j5 j i%p:=Oc.mpr this;show zf (λk=>(t k i%p)*f k j) n%p=h6 i j%p;rw[o];unfold j5 h6;simp only[eq_comm]
theorem df:jZ=jo 4 (zM P4<|zM P5<|zM P6 P7):=rfl
theorem lq(C:Pr p)(Y : ∀k,wd k<=8)(hm:m<=5)(hT : ∀k i j,k<m->i<gm w wd k->j<f7 w wd k->0<=T k i j/\T k i j<p) :
 ∃(N:Nat) (A:Nat->eA) (g:UW),N<=48/\(∀j,j<N->n6 p w wd T m (A j))/\(∀r,r<=m->(fh A N r).length=wd r)/\(∀r,r<=m->ZO p (wd r) (jE A N r) (g r)/\ZO p (wd r) (g r) (jE A N r)/\∀i j,0<=g r i j/\g r i j<p)/\
  qR ((LL N).map λj=>K3<|A j)=((LL N).map λj=>K3<|A j)/\
  jZ [jk p m w wd T]=cq (.val<|qF ((LL N).map λj=>K3<|A j) (xA m wd g)<|xA m wd λr=>jE A N r):=by
 have hl:=jy;obtain⟨a,I,H,F⟩:=Vx (T:=T) (w:=w) C Y hm hT;obtain⟨ok,sp,S⟩:=I.perm<|Jw a;have J:(kz a).length=a.length:=(Jw a).length_eq;let A:Nat->eA:=λj=>(kz a).getD j lR;have U:kz a=(LL a.length).map A:=by rw[<- J];exact(jq lR _).symm
 have l : ∀j,j<a.length->n6 p w wd T m (A j):=λj Q=>ok _ (by
  rw[U];exact Mk.mpr ⟨j,LO.mpr Q,rfl⟩)
 have cnt : ∀r,r<=m->(fh A a.length r).length=wd r:=λr O=>by have:=S r O;rw[U,Sb,Nb]at this;exact this
 have K : ∀r,r<=m->∀v:Vc,∃t,∀i,i<wd r->v i%p=app (jE A a.length r) (wd r) t i%p:=λr O v=>by
  have hv:Span p (wd r) (ej (wd r) λj i=>jE A a.length r i j) v:=(sp r O v).le λgg f=>by obtain⟨b,d,u,rfl⟩:=f;rw[U]at d;obtain⟨j,Q,rfl⟩:=Mk.mp d;have M:j∈fh A a.length r:=MA.mpr ⟨Q,by simpa using u⟩;obtain⟨i,G,e⟩:=Ri M;refine .gen ⟨i,by rw[<- cnt r O];exact G,?_⟩;funext c;show(A j).v r c=(A<|(fh A a.length r).getD i 0).v r c;rw[LS,LP G];simp[e]
  exact B4.mp hv
 have P : ∀r,∃g:UV,r<=m->ZO p (wd r) (jE A a.length r) g/\ZO p (wd r) g (jE A a.length r)/\∀i j,0<=g i j/\g i j<p:=λr=>by
  by_cases O:r<=m
  ·obtain⟨g,h⟩:=Zv C (Y r) (K r O)
   exact⟨g,λ_=>h⟩
  ·exact⟨λ_ _=>0,λz=>absurd z O⟩
 obtain⟨g,f⟩:=Ov P;have Z:(kz a).map K3=(LL a.length).map λj=>K3 (A j):=by
  conv=>lhs;rw[U,MB]
  rfl
 refine⟨a.length,A,g,H,l,cnt,f,?_,?_⟩
 ·rw[<- Z,Yp]
  refine vM ?_;have:=(Jw a).map K3;rw[Yp]at this;exact this
 ·have x:a.length<=lim:=by omega
  have eL:((kz a).map (qt wd))=(LL a.length).map λj=>qt wd (A j):=by
   conv=>lhs;rw[U,MB]
   rfl
  rw[eL]at F;let L:D:= .lst ((LL a.length).map λj=>qt wd<|A j);have y : ∀j,j<a.length->(A j).s+(A j).n<=100:=λj Q=>by have:=(l j Q).le;omega
  have W:zP (.tp [0,1]) jd (zA kM<|zb (zc 1)<|zb (qf<|jH xh<|zb (zc 2)<|zb (zc 0) zD) zD) [.no,.no,.val L] ((LL<|m+1).map λ(i:Nat)=>D.tup [.int i,.int (wd i:Nat)])=cq (xj (m+1) wd λr=>jE A a.length r):=by unfold xj;refine zw _ _ λr O=>zx rfl rfl ?_;have O:=LO.mp O;have E:=vS (wd:=wd) y x r;rw[aG (wd r) (λj=>(A j).v r),show((LL a.length).filter λj=>(A j).has r)=fh A a.length r from rfl,cnt r ⋯]at E;have bd:=Y r;have o:=Zt (q:=wd r) (h:=wd r) (λi=>(A<|(fh A a.length r).getD i 0).v r) ⋯ ⋯;simp[-LS,L,E,o];rfl
  have o:zP (.nm 0) jd (zA kN<|zb (di (zh 1)<|zu<|.int 0)<|zb (zc 0) zD) [.no,.val (jk p m w wd T)] (xj (m+1) wd λr=>jE A a.length r)=cq (xj (m+1) wd g):=by unfold xj;refine zw _ _ λr O=>zx rfl rfl ?_;have O:=LO.mp O;obtain⟨d,u,h3⟩:=f r ⋯;have e:=WK C (n:=wd r) (by have:=Y r;omega) d u λi j _ _=>h3 i j;simp[yF,e]
  have X:zP (.nm 0) jd (zA qb<|zb (zc 0) zD) [.no] ((LL a.length).map λj=>qt wd<|A j)=cq (zT<|(LL a.length).map λj=>K3<|A j):=by unfold zT;rw[MB];refine zw _ _ λj Q=>zx rfl rfl ?_;have Q:=LO.mp Q;have e:=Xl (wd:=wd) (l j Q).n1 (y j Q);simp[e];exact⟨rfl,rfl⟩
  have ew:qv (zH (m+1) λk=>(wd k:Int))=(LL<|m+1).map λ(i:Nat)=>D.tup [.int i,.int (wd i:Nat)]:=aX _ _;have B:m+1<=lim:=by omega
  have R : ∀g:UW,(xj (m+1) wd g).length=m+1:=λg=>by simp[xj]
  rw[df];refine jm<|zo (γ':=[.val (jk p m w wd T),.val L,.no,.no]) ?_ (zo (γ':=[.val (jk p m w wd T),.val L,.val<|.lst<|xj (m+1) wd λr=>jE A a.length r,.no]) ?_ (zo (γ':=[.val (jk p m w wd T),.val L,.val<|.lst<|xj (m+1) wd λr=>jE A a.length r,.val (.lst<|xj (m+1) wd g)]) ?_ ?_))
  ·simp[P4,zZ,LQ,F,L]
  ·simp[P5,z5,yF,ew,B,W]
  ·simp[P6,z5,R,B,o]
  ·unfold qF
   rw[dW,dW];simp[P7,z5,L,x,X]
end
section
variable{wd:UX}{m k N:Nat}{p:Int}{w:UK}{T:UW}{A:Nat->eA}{g:UW}
noncomputable def qg(A:Nat->eA)(N:Nat):List (Int×Int):=(LL N).map λj=>K3<|A j
theorem uP{b:eA}(C:1<=b.n)(r:Nat):lW (K3 b) (r:Int)=b.has r:=by
 unfold lW K3 eA.has;dsimp only;congr 1
 ·exact decide_eq_decide.mpr ⋯
 ·exact decide_eq_decide.mpr ⋯
theorem k9(C : ∀j,j<N->1<=(A j).n)(r:Nat):jO (qg A N) (r:Int)=fh A N r:=by unfold jO fh qg;simp only[Mm,Nc];refine RG λj I=>?_;have I:=LO.mp I;rw[LS,MV,Rj I];exact uP (C j I) r
theorem yV(A N r):(fh A N r).Nodup:=RR.sublist Rm
theorem Zn{L:List Nat}(h:L.Nodup){a b:Nat}(C:a<L.length)(I:b<L.length)(e:L.getD a 0=L.getD b 0):a=b:=by rw[LS,LS,LP C,LP I]at e;exact(List.getElem_inj h).mp e
theorem oB(O : ∀j,j<N->n6 p w wd T m (A j))(Q:k<m){i b:Nat}(C:i<wd (z6 w k))(U:b<(fh A N<|zS w k).length) :
 zf (λa=>(if (fh A N<|z6 w k).getD a 0=(fh A N<|zS w k).getD b 0 then (1:Int)else 0)*jE A N (z6 w k) i a) (fh A N<|z6 w k).length%p=app (T k) (wd<|zS w k) (λc=>jE A N (zS w k) c b) i%p:=by
 obtain⟨h,r⟩:=JY U;have q:=(O _ h).arr k Q r i C;show _=app (T k) (wd<|zS w k) ((A<|(fh A N<|zS w k).getD b 0).v (zS w k)) i%p;rw[q];congr 1;cases hx:(A<|(fh A N<|zS w k).getD b 0).has (z6 w k)with
 | true=>
  have Y:(fh A N<|zS w k).getD b 0∈fh A N (z6 w k):=MA.mpr ⟨LO.mpr h,by simpa using hx⟩;obtain⟨l,I,o⟩:=Ri Y;have d:(fh A N<|z6 w k).getD l 0=(fh A N<|zS w k).getD b 0:=by rw[<- o,LS,LP I];rfl
  rw[zL (f:=λa=>(if (fh A N<|z6 w k).getD a 0=(fh A N<|zS w k).getD b 0 then (1:Int)else 0)*jE A N (z6 w k) i a) I λa e n=>by rw[UY λz=>n (Zn (yV A N _) e I<|z.trans d.symm)];simp]
  rw[UJ d,UJ rfl];unfold jE;rw[d];simp
 | false=>
  rw[UY ⋯];rw[zv (g:=λ_=>0) λa e=>by
   rw[UY λz=>by have:=(JY e).2;rw[z,hx]at this;cases this]
   simp]
  exact zQ _
theorem pC(S:Pr p)(Q : ∀j,j<N->n6 p w wd T m (A j))(cnt : ∀r,r<=m->(fh A N r).length=wd r)(C : ∀r,r<=m->ZO p (wd r) (jE A N r) (g r))(J:k<m){i j:Nat}(L:i<wd (z6 w k))(I:j<wd (zS w k))(U:0<=T k i j/\T k i j<p) :
 T k i j=jl p w (hH<|qg A N) (λr=>jE A N r) g (p9 w<|qg A N) k i j:=by
 have d : ∀j,j<N->1<=(A j).n:=λj I=>(Q j I).n1;have O:zS w k<=m:=by unfold zS;split<;>omega
 have Y:z6 w k<=m:=by unfold z6;split<;>omega
 unfold jl;have l:hH (qg A N) (zS w k)=wd (zS w k):=by unfold hH;rw[k9 d,cnt _ O]
 have o:hH (qg A N) (z6 w k)=wd (z6 w k):=by unfold hH;rw[k9 d,cnt _ Y]
 rw[l,o];have e:zf (λb=>g (zS w k) b j*(zf (λa=>p9 w (qg A N) k a b*jE A N (z6 w k) i a) (wd<|z6 w k)%p)) (wd<|zS w k)%p
  = zf (λb=>g (zS w k) b j*app (T k) (wd<|zS w k) (λc=>jE A N (zS w k) c b) i) (wd<|zS w k)%p:=zI λb s=>by
  have:=oB (T:=T) (k:=k) Q J L (b:=b) (by rw[cnt _ O];exact s);rw[cnt _ Y]at this;have f:zf (λa=>p9 w (qg A N) k a b*jE A N (z6 w k) i a) (wd<|z6 w k)=zf (λa=>(if (fh A N<|z6 w k).getD a 0=(fh A N<|zS w k).getD b 0 then (1:Int)else 0)*jE A N (z6 w k) i a) (wd<|z6 w k):=zv λa _=>by unfold p9;rw[k9 d,k9 d]
  rw[f,this,wH]
 have h:zf (λb=>g (zS w k) b j*app (T k) (wd<|zS w k) (λc=>jE A N (zS w k) c b) i) (wd<|zS w k)=app (T k) (wd<|zS w k) (λc=>zf (λb=>jE A N (zS w k) c b*g (zS w k) b j)<|wd<|zS w k) i:=by rw[<- yA];congr 1;funext c;exact q9 ..
 rw[show(zf (λb=>g (zS w k) b j*(zf (λa=>p9 w (qg A N) k a b*(λr=>jE A N r) (z6 w k) i a) (wd<|z6 w k)%p)) (wd<|zS w k)%p)=_ from e,h,
  jP (u:=j5 j) (λc t=>by rw[C _ O c j t I];unfold h6 j5;simp only[eq_comm]) i,wW (T k) I]
 exact(Nn U.1 U.2).symm
end
structure nf(p:Int)(w:UK)(wd:UX)(T:UW)(m N:Nat)(A:Nat->eA):Prop where
 ok : ∀j,j<N->n6 p w wd T m (A j)
 sp : ∀r,r<=m->∀v:Vc,∃t:Vc,∀i,i<wd r->v i%p=zf (λj=>if (A j).has r=cM then t j*(A j).v r i else 0) N%p
 inj : ∀r,r<=m->∀t:Vc,(∀i,i<wd r->zf (λj=>if (A j).has r=cM then t j*(A j).v r i else 0) N%p=0)->∀j,j<N->(A j).has r=cM->t j%p=0
 cnt : ∀r,r<=m->(fh A N r).length=wd r
noncomputable def Lk(p:Int)(w:UK)(wd:UX)(T:UW)(k:Nat)(y z:Vc):Prop:=
 if w k=cM then ∀i,i<wd k->y i%p=app (T k) (wd<|k+1) z i%p else ∀i,i<wd (k+1)->z i%p=app (T k) (wd k) y i%p
noncomputable def Wk(p:Int)(w:UK)(wd:UX)(T:UW)(d:Nat):Nat->Vc->Vc->Prop
 | 0,u,z=>∀i,i<wd d->u i%p=z i%p
 | n+1,u,z=>∃y,Wk p w wd T d n u y/\Lk p w wd T (d+n) y z
section
variable{p:Int}{w:UK}{wd:UX}{T:UW}{m N N':Nat}{A A':Nat->eA}{d:Nat}
theorem V9(C:a%p=b%p)(I:a'%p=b'%p):(a+c*a')%p=(b+c*b')%p:=by rw[MY,C,LZ,I,<- LZ,<- MY]
theorem EC(c:Int)(h:Lk p w wd T k y z)(h':Lk p w wd T k y' z'):Lk p w wd T k (λi=>y i+c*y' i) λi=>z i+c*z' i:=by
 unfold Lk at *;split
 ·next b=>
  rw[UJ b]at h h';intro i a;rw[V9 (h i a) (h' i a)];exact(WB (λ_ _=>rfl) i).symm
 ·next b=>
  rw[UY b]at h h';intro i a;rw[V9 (h i a) (h' i a)];exact(WB (λ_ _=>rfl) i).symm
theorem lF : ∀(n:Nat) {u z I O:Vc} (c:Int),Wk p w wd T d n u z->Wk p w wd T d n I O->Wk p w wd T d n (λi=>u i+c*I i) λi=>z i+c*O i
 | 0,u,z,I,O,c,h,h'=>λi a=>V9 (h i a)<|h' i a
 | n+1,u,z,I,O,c,⟨y,h1,h2⟩,⟨y',x_,y_⟩=>⟨_,lF n c h1 x_,EC c h2 y_⟩
theorem lJ(k:Nat):Lk p w wd T k (λ_=>0) λ_=>0:=by unfold Lk;split<;>exact λi _=>by rw[Ji (λ_ _=>by simp) i];simp
theorem QM : ∀n,Wk p w wd T d n (λ_=>0) λ_=>0
 | 0=>λ_ _=>rfl
 | n+1=>⟨_,QM n,lJ _⟩
theorem pE(h:Lk p w wd T k y z)(hz : ∀i,i<wd (k+1)->z' i%p=z i%p):Lk p w wd T k y z':=by
 unfold Lk at *;split
 ·next b=>rw[UJ b]at h;intro i a;rw[h i a];exact(jP hz i).symm
 ·next b=>rw[UY b]at h;intro i a;rw[hz i a,h i a]
theorem EA : ∀{n:Nat} {u z I:Vc},Wk p w wd T d n u z->(∀i,i<wd (d+n)->I i%p=z i%p)->Wk p w wd T d n u I
 | 0,u,z,I,h,hz=>λi a=>by rw[h i a,hz i a]
 | n+1,u,z,I,⟨y,h1,h2⟩,hz=>⟨y,h1,pE h2 hz⟩
theorem pB : ∀{n:Nat} {u I z:Vc},Wk p w wd T d n u z->(∀i,i<wd d->I i%p=u i%p)->Wk p w wd T d n I z
 | 0,u,I,z,h,hu=>λi a=>by rw[hu i a,h i a]
 | n+1,u,I,z,⟨y,h1,h2⟩,hu=>⟨y,pB h1 hu,h2⟩
theorem rM(t:Vc)(u z:Nat->Vc) : ∀K,(∀j,j<K->Wk p w wd T d n (u j) (z j))->Wk p w wd T d n (λi=>zf (λj=>t j*u j i) K) λi=>zf (λj=>t j*z j i) K
 | 0,_=>QM n
 | K+1,h=>lF n (t K) (rM t u z K λj I=>h j ⋯)<|h K ⋯
theorem pg(Q:n6 p w wd T m b)(U:k<m)(C:b.has k=cM)(J:b.has (k+1)=cM):Lk p w wd T k (b.v k) (b.v<|k+1):=by
 unfold Lk;cases hw:w k with
 | true=>
  have I:zS w k=k+1:=by unfold zS;rw[hw];rfl
  have O:z6 w k=k:=by unfold z6;rw[hw];rfl
  rw[UJ rfl];intro i a;have:=Q.arr k U (by rw[I];exact J) i (by rw[O];exact a);rw[I,O,C,UJ rfl]at this;exact this.symm
 | false=>
  have I:zS w k=k:=by unfold zS;rw[hw];rfl
  have O:z6 w k=k+1:=by unfold z6;rw[hw];rfl
  rw[UY ⋯];intro i a;have:=Q.arr k U (by rw[I];exact C) i (by rw[O];exact a);rw[I,O,J,UJ rfl]at this;exact this.symm
theorem Jg(I:n6 p w wd T m b)(C:b.has d=cM) : ∀n,d+n<=m->b.has (d+n)=cM->Wk p w wd T d n (b.v d) (b.v<|d+n)
 | 0,_,_=>λ_ _=>rfl
 | n+1,hn,h2=>by have O:b.has (d+n)=cM:=i6.mpr (by have:=i6.mp C;have:=i6.mp h2;omega);exact⟨_,Jg I C n ⋯ O,pg I ⋯ O h2⟩
theorem Wy(I:n6 p w wd T m b)(J:b.has d=cM)(C:w (b.s+b.n - 1)=cR) : ∀n,d+n<=m->b.has (d+n)=cR->Wk p w wd T d n (b.v d) λ_=>0
 | 0,_,h2=>by rw[SK,J]at h2;cases h2
 | n+1,hn,h2=>by
  cases h3:b.has (d+n)with
  | false=>exact⟨_,Wy I J C n ⋯ h3,lJ _⟩
  | true=>
   refine⟨_,Jg I J n ⋯ h3,?_⟩;have Y:=i6.mp h3;have e : ¬(d+n+1<b.s+b.n):=λz=>by have:b.has (d+(n+1))=cM:=i6.mpr ⋯;rw[this]at h2;cases h2
   have O:b.s+b.n - 1=d+n:=by omega
   rw[O]at C;have Q:zS w (d+n)=d+n:=by unfold zS;rw[C];rfl
   have U:z6 w (d+n)=d+n+1:=by unfold z6;rw[C];rfl
   have:=I.arr (d+n) ⋯;rw[Q,U]at this;unfold Lk;rw[C,UY ⋯];intro i a;rw[this h3 i a,show b.has (d+n+1)=cR from h2];simp
theorem Zf(D:nf p w wd T m N A) : ∀n,d+n<=m->∀{u z:Vc},Wk p w wd T d n u z->∀{a b:Vc},(∀i,i<wd d->u i%p=zf (λj=>if (A j).has d=cM then a j*(A j).v d i else 0) N%p)->(∀i,i<wd (d+n)->z i%p=zf (λj=>if (A j).has (d+n)=cM then b j*(A j).v (d+n) i else 0) N%p)->
 ∀j,j<N->(A j).has d=cM->((A j).has (d+n)=cM->a j%p=b j%p)/\((A j).has (d+n)=cR->w ((A j).s+(A j).n - 1)=cM->a j%p=0):=by
 have t : ∀r,r<=m->∀{v:Vc} {a b:Vc},(∀i,i<wd r->v i%p=zf (λj=>if (A j).has r=cM then a j*(A j).v r i else 0) N%p)->(∀i,i<wd r->v i%p=zf (λj=>if (A j).has r=cM then b j*(A j).v r i else 0) N%p)->∀j,j<N->(A j).has r=cM->a j%p=b j%p:=λr X v a b E l j O Q=>by
  have:=D.inj r X (λj=>a j - b j) (λi f=>by
   have e:zf (λj=>if (A j).has r=cM then (a j - b j)*(A j).v r i else 0) N=zf (λj=>if (A j).has r=cM then a j*(A j).v r i else 0) N+zf (λj=>(if (A j).has r=cM then b j*(A j).v r i else 0)*(-1)) N:=by
    rw[<- jJ];refine zv λj _=>?_;split
    ·rw[Int.sub_mul];omega
    ·simp
   rw[e,qi,MY,<- E i f,LZ,<- l i f,<- LZ,<- MY,show v i+v i * -1=0 by omega];simp) j O Q
  exact Oc.mpr this
 have J : ∀k,k<m->∀(c:Vc) (r o:Nat),r=zS w k->o=z6 w k->∀i,i<wd o->app (T k) (wd r) (o3 p A N c r) i%p=zf (λj=>if (A j).has o=cM then (if (A j).has r=cM then c j else 0)*(A j).v o i else 0) N%p:=λk S c r o K L i f=>by
  rw[lx];refine zI λj O=>?_;cases hx:(A j).has r with
  | false=>simp
  | true=>
   have q:=(D.ok j O).arr k S (by rw[<- K];exact hx) i (by rw[<- L];exact f);rw[<- K,<- L]at q;simp only[if_true];rw[LZ,q,<- LZ];cases hy:(A j).has o<;>simp
 intro n
 induction n with
 | zero=>
  intro W u z x a b F Y j O Q;refine⟨λ_=>t d ⋯ F (λi f=>by rw[x i f];exact Y i f) j O Q,λh=>?_⟩;rw[SK,Q]at h;cases h
 | succ n Z=>
  intro W u z x a b F Y j O Q;obtain⟨y,E,l⟩:=x;obtain⟨c,G⟩:=D.sp (d+n) ⋯ y;obtain⟨H,M⟩:=Z ⋯ E F G j O Q;have P : ∀i,i<wd (d+n)->y i%p=o3 p A N c (d+n) i%p:=λi f=>by rw[G i f];unfold o3;rw[Mp]
  have R : ∀i,i<wd (d+n+1)->z i%p=o3 p A N b (d+n+1) i%p:=λi f=>by rw[Y i f];unfold o3;rw[Mp];rfl
  have qd:=i6.mp Q;cases hw:w (d+n)with
  | false=>
   have B:zS w (d+n)=d+n:=by unfold zS;rw[hw];rfl
   have C:z6 w (d+n)=d+n+1:=by unfold z6;rw[hw];rfl
   unfold Lk at l;rw[hw,UY ⋯]at l;have g:=t (d+n+1) ⋯ (v:=z) Y (b:=λj=>if (A j).has (d+n)=cM then c j else 0) λi f=>by rw[l i f,jP P i];exact J (d+n) ⋯ c (d+n) (d+n+1) B.symm C.symm i f
   refine⟨λh=>?_,λh U=>?_⟩
   ·have I:(A j).has (d+n)=cM:=i6.mpr (by have:=i6.mp h;omega)
    have:=g j O h;rw[I,UJ rfl]at this;rw[H I,this]
   ·cases I:(A j).has (d+n)with
    | false=>exact M I U
    | true=>
     have q3:=i6.mp I;have q2 : ¬(d+n+1<(A j).s+(A j).n):=λz=>by have:(A j).has (d+(n+1))=cM:=i6.mpr ⋯;rw[this]at h;cases h
     rw[show(A j).s+(A j).n - 1=d+n by omega,hw]at U;cases U
  | true=>
   have B:zS w (d+n)=d+n+1:=by unfold zS;rw[hw];rfl
   have C:z6 w (d+n)=d+n:=by unfold z6;rw[hw];rfl
   unfold Lk at l;rw[hw,UJ rfl]at l;have g:=t (d+n) ⋯ (v:=y) G (b:=λj=>if (A j).has (d+n+1)=cM then b j else 0) λi f=>by rw[l i f,jP R i];exact J (d+n) ⋯ b (d+n+1) (d+n) B.symm C.symm i f
   refine⟨λh=>?_,λh U=>?_⟩
   ·have I:(A j).has (d+n)=cM:=i6.mpr (by have:=i6.mp h;omega)
    have:=g j O I;rw[show(A j).has (d+n+1)=cM from h,UJ rfl]at this;rw[H I,this]
   ·cases I:(A j).has (d+n)with
    | false=>exact M I U
    | true=>
     have:=g j O I;rw[show(A j).has (d+n+1)=cR from h,UY ⋯]at this;rw[H I,this];simp
end
section
variable{p:Int}{n:Nat}
theorem rB{l:UX} : ∀{r:Nat},(∀k m,k<m->m<r->l k<l m)->∃j,j<=r/\∀k,k<r->l k≠j
 | 0,_=>⟨0,LW _,λk I=>absurd I<|MH _⟩
 | r+1,h=>by
  obtain⟨j,f,d⟩:=rB (r:=r) λk m a b=>h k m a ⋯;by_cases e:l r=j
  ·refine⟨r+1,LW _,λk I=>?_⟩
   rcases Mt k r with z | z
   ·have:=h k r z ⋯;omega
   ·rw[show k=r by omega];omega
  ·refine⟨j,by omega,λk I=>?_⟩
   rcases Mt k r with z | z
   ·exact d k z
   ·rw[show k=r by omega];exact e
theorem CP(C:Pr p){h N:Nat}{f:UV}(inj : ∀t:Vc,(∀i,i<h->app f N t i%p=0)->∀j,j<N->t j%p=0):N<=h:=by
 rcases Mt h N with a8 | a7
 ·exfalso
  obtain⟨r,y,B,l,Y,w⟩:=JE (n:=N) C h f;obtain⟨O,x,a3⟩:=rB Y.mono;have m:O<N:=by omega
  let t:Vc:=λj=>if j=O then 1 else zf (λk=>if l k=j then B k O*(-1)else 0) r;have s:t O=1:=UJ rfl;have A : ∀k,k<r->t (l k)=B k O*(-1):=λk Q=>by
   show(if l k=O then _ else _)=_;rw[UY (a3 k Q),zL (f:=λI=>if l I=l k then B I O*(-1)else 0) Q λI U a=>by
    rw[UY λe=>a (by
     rcases OD I k with z | z | z
     ·have:=Y.mono I k z Q;omega
     ·exact z
     ·have:=Y.mono k I z U;omega)]]
   rw[UJ rfl]
  have d : ∀k,k<r->zf (λj=>B k j*t j) N=0:=λk Q=>by
   have e:zf (λj=>B k j*t j) N=zf (λj=>(if j=O then B k O else 0)+zf (λI=>if l I=j then B k (l I)*(B I O*(-1))else 0) r) N:=zv λj o=>by
    by_cases z:j=O
    ·subst z
     rw[s,UJ rfl,zv (g:=λ_=>0) λI U=>UY<|a3 I U,zQ];simp
    ·show B k j*(if j=O then _ else _)=_
     rw[UY z,UY z,Int.zero_add,MU,<- qi];refine zv λI U=>?_;by_cases e:l I=j
     ·rw[UJ e,UJ e,<- e,MU]
     ·rw[UY e,UY e];simp
   rw[e,jJ,zL (f:=λj=>if j=O then B k O else 0) m<|λj _ a=>UY a,UJ rfl,qh];have b:zf (λI=>zf (λj=>if l I=j then B k (l I)*(B I O*(-1))else 0) N) r=zf (λI=>B k (l I)*(B I O*(-1))) r:=zv λI U=>by rw[zL (f:=λj=>if l I=j then B k (l I)*(B I O*(-1))else 0) (Y.lt I U) λj _ a=>UY<|My a,UJ rfl]
   rw[b,zL (f:=λI=>B k (l I)*(B I O*(-1))) Q λI U a=>by rw[Y.sh k I Q U a];simp];rw[Y.one k Q];omega
  have:=inj t (λi u=>by
   have c:=ZM Y<|(w<|f i).mpr (.gen ⟨i,u,rfl⟩);unfold app;have e:zf (λj=>f i j*t j) N%p=zf (λj=>zf (λk=>f i (l k)*B k j) r*t j) N%p:=zI λj o=>by rw[LZ,c j o,<- LZ]
   rw[e];have b:zf (λj=>zf (λk=>f i (l k)*B k j) r*t j) N=zf (λk=>f i (l k)*zf (λj=>B k j*t j) N) r:=by rw[zv (g:=λj=>zf (λk=>f i (l k)*B k j*t j) r) λj _=>(qi _ _ _).symm,qh];refine zv λk _=>?_;rw[<- jg];exact zv λj _=>MW _ _ _
   rw[b,zv (g:=λ_=>0) λk Q=>by rw[d k Q,xr],zQ];simp) O m
  rw[s,C.one]at this;cases this
 ·exact a7
theorem W2(W:Nat->Vc)(t:Vc):Span p n (ej m W) λi=>zf (λj=>t j*W j i) m:=Span.sum (u:=W) t λj I=> .gen ⟨j,I,rfl⟩
theorem Ee(I:Pr p)(O:h8 p n s B l)(sp : ∀v,Span p n (ej s B) v↔Span p n (ej m W) v)(Q : ∀t:Vc,(∀i,i<n->zf (λj=>t j*W j i) m%p=0)->∀j,j<m->t j%p=0):m=s:=by
 have d:s<=m:=by obtain⟨r,g,U⟩:=JE (n:=n) I m W;have:=vO I (m:=m) (W:=W) ⟨B,l,O,sp⟩ U;omega
 have h:s<=n:=VV O;have e:m<=s:=CP I (f:=λi j=>W j<|l i) λt Y=>Q t λi a=>by
  have c:=ZM O ((sp _).mpr (W2 (n:=n) W t)) i a;rw[c];have:zf (λk=>zf (λj=>t j*W j (l k)) m*B k i) s%p=zf (λ_=>0) s%p:=zI λk b=>by have:=Y k b;unfold app at this;rw[q9]at this;rw[LZ,this];simp
  rw[this,zQ];simp
 omega
theorem oP(hp:Pr p){s q c:Nat}{B C V:Nat->Vc}{l J:UX}(hX:h8 p n s B l)(Q:h8 p n q C J)(S : ∀j,j<c->Span p n (ej s B) (V j))(L : ∀v,Span p n (ej q C) v->Span p n (ej s B) v)
 (UB : ∀v,Span p n (ej s B) v->∃t:Vc,Span p n (ej q C) λi=>v i - zf (λj=>t j*V j i) c) (Z : ∀t:Vc,Span p n (ej q C) (λi=>zf (λj=>t j*V j i) c)->∀j,j<c->t j%p=0):q+c=s:=by
 let W:Nat->Vc:=λj=>if j<q then C j else V (j - q);have U : ∀j,j<q->W j=C j:=λj I=>UJ I;have Y : ∀j,W (q+j)=V j:=λj=>by show(if q+j<q then _ else _)=_;rw[UY ⋯,NM]
 have u : ∀t:Vc,∀i,zf (λj=>t j*W j i) (q+c)=zf (λj=>t j*C j i) q+zf (λj=>t (q+j)*V j i) c:=λt i=>by
  rw[Yg];congr 1
  ·exact zv λj I=>by rw[U j I]
  ·exact zv λj I=>by rw[Y j]
 refine Ee hp hX (W:=W) (λv=>⟨λm=>?_,λm=>m.le λg b=>?_⟩) λt o=>?_
 ·obtain⟨t,h⟩:=UB v m
  have a:Span p n (ej (q+c) W) λi=>v i - zf (λj=>t j*V j i) c:=h.le λg b=>by obtain⟨k,O,rfl⟩:=b;rw[<- U k O];exact .gen ⟨k,by omega,rfl⟩
  have y:Span p n (ej (q+c) W) λi=>zf (λj=>t j*V j i) c:=Span.sum t λj I=>by rw[<- Y j];exact .gen ⟨q+j,by omega,rfl⟩
  exact(y.add a 1).congr λi _=>by rw[OH,Int.sub_add_cancel]
 ·obtain⟨k,O,rfl⟩:=b
  rcases Mt k q with z | z
  ·rw[U k z];exact L _<|.gen ⟨k,z,rfl⟩
  ·obtain⟨j,rfl⟩ : ∃j,k=q+j:=⟨k - q,by omega⟩
   rw[Y j];exact S j ⋯
 ·have r : ∀j,j<c->t (q+j)%p=0:=Z (λj=>t<|q+j) ((W2 (n:=n) C λj=> -1*t j).congr λi d=>by
   have:=o i d;rw[u]at this;have e:zf (λj=> -1*t j*C j i) q=zf (λj=>t j*C j i) q * -1:=by rw[<- qi];exact zv λj _=>by rw[MU (-1),MW,MU (-1),MW]
   rw[e];refine Oc.mpr ?_;rw[<- this];congr 1;omega)
  intro j I;rcases Mt j q with z | z
  ·have x : ∀i,i<n->zf (λj=>t j*C j i) q%p=0:=λi d=>by
    have:=o i d;rw[u,MY]at this;have e:zf (λj=>t (q+j)*V j i) c%p=zf (λ_=>0) c%p:=zI λj I=>by rw[LZ,r j I];simp
    rw[e,zQ]at this;simpa using this
   have a:=x (J j)<|Q.lt j z;rw[zL (f:=λk=>t k*C k (J j)) z λk O w=>by rw[Q.sh k j O z (My w)];simp]at a;rw[Q.one j z,OY]at a;exact a
  ·obtain⟨k,rfl⟩ : ∃k,j=q+k:=⟨j - q,by omega⟩
   exact r k ⋯
end
noncomputable def o5(A:Nat->eA)(N d e:Nat):List Nat:=(LL N).filter λj=>(A j).has d && (A j).has e
section
variable{p:Int}{w:UK}{wd:UX}{T:UW}{m N n:Nat}{A:Nat->eA}{d:Nat}
theorem iP(I:k<(o5 A N d e).length):(o5 A N d e).getD k 0<N/\(A<|(o5 A N d e).getD k 0).has d=cM/\(A<|(o5 A N d e).getD k 0).has e=cM:=by
 have O:(o5 A N d e).getD k 0∈o5 A N d e:=by rw[LS,LP I];exact OL _
 obtain⟨b,a⟩:=MA.mp O;simp only[Mi]at a;exact⟨LO.mp b,a.1,a.2⟩
theorem Eh(D:nf p w wd T m N A)(C:d<=m)(e:Nat):(o5 A N d e).length<=wd d:=by rw[<- D.cnt d C];unfold o5 fh;rw[<- Nb,<- Nb];exact List.countP_mono_left λj _ h=>by simp only[Mi]at h;exact h.1
theorem oV(d e:Nat)(t:Vc) : ∃a:Vc,∀k,k<(o5 A N d e).length->a ((o5 A N d e).getD k 0)=t k:=by refine⟨λj=>t<|(o5 A N d e).idxOf j,λk I=>?_⟩;have b:(o5 A N d e).Nodup:=RR.sublist Rm;show t _=_;rw[LS,LP I,OE,b.idxOf_getElem _ I]
theorem iO(d e:Nat)(a:Vc)(i:Nat):zf (λk=>a ((o5 A N d e).getD k 0)*(A<|(o5 A N d e).getD k 0).v d i) (o5 A N d e).length=zf (λj=>if (A j).has d=cM then (if (A j).has e=cM then a j else 0)*(A j).v d i else 0) N:=by have:=vg (λj=>(A j).has d && (A j).has e) (λj=>a j*(A j).v d i) N;refine this.trans<|zv λj _=>?_;cases (A j).has d<;>cases (A j).has e<;>simp
theorem aN(Z:Pr p)(D:nf p w wd T m N A)(C:d+n<=m){s q:Nat}{B J:Nat->Vc}{l l2:UX}(S:h8 p (wd d) s B l)(Q : ∀u,Span p (wd d) (ej s B) u ↔ ∃z,Wk p w wd T d n u z)
 (L:h8 p (wd d) q J l2) (U : ∀u,Span p (wd d) (ej q J) u↔Wk p w wd T d n u λ_=>0):q+(o5 A N d<|d+n).length=s:=by
 have P:=Eh D (show d<=m by omega)<|d+n;have R:=VV L;refine oP Z S L (V:=λk=>(A<|(o5 A N d<|d+n).getD k 0).v d) (λk I=>?_) (λv Y=>(Q v).mpr ⟨_,(U v).mp Y⟩) (λv Y=>?_) λt K=>?_
 ·obtain⟨f,g,O⟩:=iP I
  exact(Q _).mpr ⟨_,Jg (D.ok _ f) g n C O⟩
 ·obtain⟨z,y⟩:=(Q v).mp Y
  obtain⟨a,o⟩:=D.sp d ⋯ v;obtain⟨b,G⟩:=D.sp (d+n) C z;have r:=Zf D n C y o G;refine⟨λk=>a<|(o5 A N d<|d+n).getD k 0,(U _).mpr ?_⟩;let u:Nat->Vc:=λj=>if (A j).has d=cM/\(A j).has (d+n)=cR/\w ((A j).s+(A j).n - 1)=cR then (A j).v d else λ_=>0;have M : ∀j,j<N->Wk p w wd T d n (u j) λ_=>0:=λj x=>by
   show Wk p w wd T d n (if _ then _ else _) _;split
   ·next h=>exact Wy (D.ok j x) h.1 h.2.2 n C h.2.1
   ·exact QM n
  have H:=rM a u (λ_ _=>0) N M;refine EA (pB H λi E=>?_) λi _=>by simp[zQ]
  rw[iO d (d+n) a i];rw[NY,o i E,<- NY];have e:zf (λj=>if (A j).has d=cM then a j*(A j).v d i else 0) N - zf (λj=>if (A j).has d=cM then (if (A j).has (d+n)=cM then a j else 0)*(A j).v d i else 0) N=zf (λj=>(if (A j).has d=cM then a j*(A j).v d i else 0)+(if (A j).has d=cM then (if (A j).has (d+n)=cM then a j else 0)*(A j).v d i else 0) * -1) N:=by rw[jJ,qi];omega
  rw[e];refine zI λj x=>?_;show _=a j*(if _ then (A j).v d else λ_=>0) i%p;cases f:(A j).has d with
  | false=>simp
  | true=>
   cases g:(A j).has (d+n)with
   | true=>
    have F:a j*(A j).v d i+a j*(A j).v d i * -1=0:=by omega
    simp only[if_true,F,Bool.true_eq_false,false_and,and_false,if_false,xr]
   | false=>
    cases O:w ((A j).s+(A j).n - 1)with
    | false=>simp
    | true=>
     have:=(r j x f).2 g O;simp only[if_true,Nj,if_false,OX,OZ,xr,Bool.true_eq_false,and_false];rw[LZ,this];simp
 ·obtain⟨a,o⟩:=oV (A:=A) (N:=N) d (d+n) t
  have y:=(U _).mp K;have r:=Zf D n C y (a:=λj=>if (A j).has (d+n)=cM then a j else 0) (b:=λ_=>0) (λi E=>by
   rw[<- iO d (d+n) a i];congr 1;exact zv λk I=>by rw[o k I]) (λi _=>by
   have:zf (λj=>if (A j).has (d+n)=cM then 0*(A j).v (d+n) i else 0) N=zf (λ_=>0) N:=zv λj _=>by simp
   rw[this,zQ])
  intro k I;obtain⟨f,g,O⟩:=iP I;have:=(r _ f g).1 O;rw[O,UJ rfl,o k I]at this;simpa using this
end
section
variable{p:Int}{w:UK}{wd:UX}{T:UW}{m N:Nat}{A:Nat->eA}
theorem oq(r:Nat)(t:Vc) : ∃a:Vc,∀k,k<(fh A N r).length->a ((fh A N r).getD k 0)=t k:=by refine⟨λj=>t<|(fh A N r).idxOf j,λk I=>?_⟩;show t _=_;rw[LS,LP I,OE,(yV A N r).idxOf_getElem _ I]
theorem Wi(r:Nat)(a:Vc)(i:Nat):zf (λj=>if (A j).has r=cM then a j*(A j).v r i else 0) N=app (jE A N r) (fh A N r).length (λk=>a<|(fh A N r).getD k 0) i:=by have:=vg (λj=>(A j).has r) (λj=>a j*(A j).v r i) N;rw[<- this];unfold app;rw[q9];rfl
theorem aO(I:j<N)(O:(A j).has r=cM) : ∃k,k<(fh A N r).length/\(fh A N r).getD k 0=j:=by have Q:j∈fh A N r:=MA.mpr ⟨LO.mpr I,by simpa using O⟩;obtain⟨i,a,e⟩:=Ri Q;exact⟨i,a,by rw[LS,LP a];simpa using e⟩
theorem iL(Y:Pr p)(a0 : ∀k,wd k<=8)(ok : ∀j,j<N->n6 p w wd T m (A j))(cnt : ∀r,r<=m->(fh A N r).length=wd r)(U : ∀r,r<=m->∀v:Vc,∃t,∀i,i<wd r->v i%p=app (jE A N r) (wd r) t i%p):nf p w wd T m N A where
 ok:=ok
 cnt:=cnt
 sp:=λr I v=>by obtain⟨t,O⟩:=U r I v;obtain⟨a,ha⟩:=oq (A:=A) (N:=N) r t;refine⟨a,λi hi=>?_⟩;rw[O i hi,Wi,cnt r I];unfold app;congr 1;exact zv λk Q=>by show _=_*a _;rw[ha k (by rw[cnt r I];exact Q)]
 inj:=λr I t O j hj hh=>by
  obtain⟨k,Q,e⟩:=aO hj hh;have:=vT Y (a0 r) (U r I) (t:=λk=>t<|(fh A N r).getD k 0) (λi hi=>by have:=O i hi;rw[Wi,cnt r I]at this;exact this) k (by rw[<- cnt r I];exact Q)
  rw[e]at this;exact this
end
section
variable{p:Int}{w:UK}{wd:UX}{T f g:UW}{m N:Nat}{A:Nat->eA}
theorem WA(F G:UV)(n k:Nat)(u:Vc)(i:Nat):app F n (app G k u) i=zf (λj=>zf (λb=>F i b*G b j) n*u j) k:=by
 unfold app;have e:zf (λb=>F i b*zf (λj=>G b j*u j) k) n=zf (λb=>zf (λj=>F i b*G b j*u j) k) n:=zv λb _=>by rw[<- jg];exact zv λj _=>(MW _ _ _).symm
 rw[e,qh];exact zv λj _=>qi _ _ _
theorem ZQ(h:ZO p n F G)(u:Vc)(C:i<n):app F n (app G n u) i%p=u i%p:=by
 rw[WA];have e:zf (λj=>zf (λb=>F i b*G b j) n*u j) n%p=zf (λj=>h6 i j*u j) n%p:=zI λj I=>by rw[LZ,h i j C I,<- LZ]
 rw[e,zL (f:=λj=>h6 i j*u j) C λj _ O=>by unfold h6;rw[UY (My O),OX]];unfold h6;rw[UJ rfl,OH]
theorem mq(k:Nat)(u:Vc)(i:Nat):app (jl p w wd f g T k) (wd<|zS w k) u i%p=app (f<|z6 w k) (wd<|z6 w k) (app (T k) (wd<|zS w k)<|app (g<|zS w k) (wd<|zS w k) u) i%p:=by
 rw[WA];show _=app (λi b=>zf (λa=>f (z6 w k) i a*T k a b)<|wd<|z6 w k) (wd<|zS w k) (app (g<|zS w k) (wd<|zS w k) u) i%p;rw[WA];have e:app (jl p w wd f g T k) (wd<|zS w k) u i%p=zf (λj=>zf (λb=>zf (λa=>f (z6 w k) i a*T k a b) (wd<|z6 w k)*g (zS w k) b j) (wd<|zS w k)*u j) (wd<|zS w k)%p:=by
  unfold app;refine zI λj _=>?_;rw[LZ];have I:jl p w wd f g T k i j%p=zf (λb=>zf (λa=>f (z6 w k) i a*T k a b) (wd<|z6 w k)*g (zS w k) b j) (wd<|zS w k)%p:=by unfold jl;rw[Mp];refine zI λb _=>?_;rw[LZ,Mp,<- LZ,MU,zv (g:=λa=>f (z6 w k) i a*T k a b) λa _=>MU _ _]
  rw[I,<- LZ]
 exact e
noncomputable def X0(p:Int)(wd:UX)(f:UW)(x:eA):eA:=⟨x.s,x.n,λr i=>app (f r) (wd r) (x.v r) i%p⟩
theorem Jo(x:eA)(r i:Nat):(X0 p wd f x).v r i%p=app (f r) (wd r) (x.v r) i%p:=Mp _ _
theorem AX(q:UK)(t:Vc)(F:UV)(n r i:Nat)(X:Nat->eA):zf (λj=>if q j=cM then t j*app F n ((X j).v r) i else 0) N=app F n (λi=>zf (λj=>if q j=cM then t j*(X j).v r i else 0) N) i:=by
 have a:(λi=>zf (λj=>if q j=cM then t j*(X j).v r i else 0) N)=λi=>zf (λj=>(if q j=cM then t j else 0)*(X j).v r i) N:=by funext i;exact zv λj _=>by split<;>simp
 rw[a,yA F n (λj=>if q j=cM then t j else 0) (λj=>(X j).v r) N i];exact zv λj _=>by split<;>simp
theorem dO(L:0<p)(J : ∀r,r<=m->ZO p (wd r) (f r) (g r))(C : ∀r,r<=m->ZO p (wd r) (g r) (f r))(D:nf p w wd T m N A):nf p w wd (jl p w wd f g T) m N λj=>X0 p wd f (A j):=by
 have s : ∀z:Int,0<=z%p/\z%p<p:=λz=>⟨MQ _ ⋯,MF _ L⟩;have e : ∀r i (t:Vc),zf (λj=>if (A j).has r=cM then t j*(X0 p wd f<|A j).v r i else 0) N%p=app (f r) (wd r) (λi=>zf (λj=>if (A j).has r=cM then t j*(A j).v r i else 0) N) i%p:=λr i t=>by
  rw[<- AX (λj=>(A j).has r) t (f r) (wd r) r i A];refine zI λj _=>?_;split
  ·rw[LZ,Jo,<- LZ]
  ·rfl
 refine⟨λj O=>?_,λr I v=>?_,λr I t Q j O U=>?_,D.cnt⟩
 ·have b:=D.ok j O
  refine⟨b.n1,b.le,λr i _ _=>s _,λk h U i d=>?_⟩;have l:zS w k<=m:=by have:=QG w h;omega
  have Y:(A j).has (zS w k)=cM:=U;rw[mq];have n : ∀x,x<wd (zS w k)->app (g<|zS w k) (wd<|zS w k) ((X0 p wd f<|A j).v (zS w k)) x%p=(A j).v (zS w k) x%p:=λx a=>by rw[jP (u:=app (f<|zS w k) (wd<|zS w k)<|(A j).v (zS w k)) (λy _=>Jo _ _ _),ZQ (C _ l) _ a]
  have o : ∀x,x<wd (z6 w k)->app (T k) (wd<|zS w k) (app (g<|zS w k) (wd<|zS w k)<|(X0 p wd f<|A j).v (zS w k)) x%p=(if (A j).has (z6 w k)=cM then (A j).v (z6 w k) x else 0)%p:=λx a=>by rw[jP (u:=(A j).v (zS w k)) n];exact b.arr k h Y x a
  rw[jP o];show _=(if (A j).has (z6 w k)=cM then (X0 p wd f<|A j).v (z6 w k) i else 0)%p;by_cases a:(A j).has (z6 w k)=cM
  ·simp only[a,if_true]
   exact(Jo _ _ _).symm
  ·simp only[a,if_false]
   rw[Ji (λ_ _=>by simp) i];simp
 ·obtain⟨t,Q⟩:=D.sp r I (app (g r) (wd r) v)
  refine⟨t,λi d=>?_⟩;show _=zf (λj=>if (A j).has r=cM then t j*(X0 p wd f<|A j).v r i else 0) N%p;rw[e,<- ZQ (J r I) v d];exact jP Q i
 ·have Y:(A j).has r=cM:=U
  refine D.inj r I t (λi d=>?_) j O Y;have z : ∀x,x<wd r->app (f r) (wd r) (λi=>zf (λj=>if (A j).has r=cM then t j*(A j).v r i else 0) N) x%p=0:=λx a=>by rw[<- e];exact Q x a
  rw[<- ZQ (C r I) (λi=>zf (λj=>if (A j).has r=cM then t j*(A j).v r i else 0) N) d];exact Ji z i
end
noncomputable def gV(p:Int)(a b:Nat)(c:Int)(v:Vc):Vc:=λi=>if i=b then (v b+c*v a)%p else v i
noncomputable def Le(S E:UX)(j:Nat):eA:=⟨S j,E j - S j+1,λ_ _=>0⟩
noncomputable def qy(S E:UX)(N r:Nat):List Nat:=fh (Le S E) N r
noncomputable def Wh(S E:UX)(N j:Nat):eA:=⟨S j,E j - S j+1,λr i=>if (qy S E N r).getD i N=j then 1 else 0⟩
noncomputable def lU(S E:UX)(N r:Nat):Nat:=(qy S E N r).length
noncomputable def lV(w:UK)(S E:UX)(N k i j:Nat):Int:=if (qy S E N<|z6 w k).getD i N=(qy S E N<|zS w k).getD j (N+1)then 1 else 0
section
variable{S E:UX}{N r:Nat}{w:UK}{p:Int}{m:Nat}
theorem my:(qy S E N r).Nodup:=List.Nodup.sublist Rm RR
theorem UC{j:Nat}:j∈qy S E N r↔j<N/\(Wh S E N j).has r=cM:=by unfold qy fh;rw[MA,LO];rfl
theorem W6{j:Nat}(h:j<N)(O:(Wh S E N j).has r=cM) : ∃c,c<lU S E N r/\(qy S E N r)[c]? = cq j:=by obtain⟨c,I⟩:=Sj<|UC.mpr ⟨h,O⟩;exact⟨c,(Mj.mp I).1,I⟩
theorem Ju{c d:Nat}(h:c<lU S E N r) : ∃j,(qy S E N r)[c]? = cq j/\(qy S E N r).getD c d=j/\j<N/\(Wh S E N j).has r=cM:=by have e:=LP (l:=qy S E N r) h;obtain⟨a,b⟩:=UC.mp<|Na e;exact⟨_,e,by rw[LS,e];rfl,a,b⟩
theorem Ym{c I j:Nat}(C:(qy S E N r)[c]? = cq j)(J:(qy S E N r)[I]? = cq j):c=I:=by exact(List.getElem?_inj (Mj.mp C).1 my).mp (C.trans J.symm)
theorem XA{c j:Nat}(h:c<lU S E N r):(Wh S E N j).v r c=if (qy S E N r)[c]? = cq j then 1 else 0:=by
 obtain⟨I,a,O,_⟩:=Ju (d:=N) h;show(if (qy S E N r).getD c N=j then (1:Int)else 0)=_;rw[a,O];by_cases z:I=j
 ·rw[UJ z,UJ (by rw[z])]
 ·rw[UY z,UY (λq=>z<|MN q)]
theorem oh(J:Pr p)(C : ∀j,j<N->S j<=E j/\E j<=m):nf p w (lU S E N) (lV w S E N) m N (Wh S E N):=by
 have two:=J.two;refine⟨λj O=>⟨by show 1<=_+1;omega,by show S j+(E j - S j+1)<=m+1;have:=C j O;omega,λr i _ _=>?_,λk F g i a=>?_⟩,λr o v=>?_,λr o t y j O g=>?_,λr o=>rfl⟩
 ·show 0<=(if _ then (1:Int)else 0)/\(if _ then (1:Int)else 0)<p
  split<;>omega
 ·obtain⟨Q,U,Y⟩:=W6 O g
  obtain⟨x,b,s,u,l⟩:=Ju (d:=N) a;have e:app (lV w S E N k) (lU S E N<|zS w k) ((Wh S E N j).v (zS w k)) i=lV w S E N k i Q:=by
   unfold app;rw[zL (f:=λc=>lV w S E N k i c*(Wh S E N j).v (zS w k) c) U λc n I=>by rw[XA n,UY<|λq=>I<|Ym q Y,xr]]
   rw[XA U,UJ Y,OY]
  rw[e];congr 1;unfold lV;rw[show(qy S E N<|zS w k).getD Q (N+1)=j by rw[LS,Y];rfl];by_cases h:(Wh S E N j).has (z6 w k)=cM
  ·rw[UJ h];rfl
  ·rw[UY h,s,UY (λz=>h<|by rw[<- z];exact l)]
 ·refine⟨λj=>zf (λc=>if (qy S E N r)[c]? = cq j then v c else 0)<|lU S E N r,λi a=>?_⟩
  obtain⟨x,b,s,u,l⟩:=Ju (d:=N) a;rw[zL (f:=λj=>if (Wh S E N j).has r=cM then zf (λc=>if (qy S E N r)[c]? = cq j then v c else 0) (lU S E N r)*(Wh S E N j).v r i else 0) u λj O I=>by rw[XA a,show(if (qy S E N r)[i]? = cq j then (1:Int)else 0)=0 from UY<|λq=>I<|MN<|q.symm.trans b,xr,ite_self]]
  rw[UJ l,XA a,UJ b,OY,zL (f:=λc=>if (qy S E N r)[c]? = cq x then v c else 0) a λc n I=>UY λq=>I<|Ym q b,UJ b]
 ·obtain⟨Q,U,Y⟩:=W6 O g
  have:=y Q U;rw[zL (f:=λj=>if (Wh S E N j).has r=cM then t j*(Wh S E N j).v r Q else 0) O λA B I=>by rw[XA U,show(if (qy S E N r)[Q]? = cq A then (1:Int)else 0)=0 from UY<|λq=>I<|MN<|q.symm.trans Y,xr,ite_self]]at this
  rw[UJ g,XA U,UJ Y,OY]at this;exact this
theorem aK(I:Pr p) : ∀k x y,0<=lV w S E N k x y/\lV w S E N k x y<p:=λk x y=>by have:=I.two;unfold lV;split<;>omega
end
section
variable{p:Int}{m:Nat}{w:UK}{wd:UX}{T:UW}
noncomputable def dY(w:UK)(wd:UX)(T:UW)(m:Nat):List D:=(LL m).map λk=>D.lst<|iH (gm w wd k) (f7 w wd k)<|T k
@[simp] theorem AS(m):(dY w wd T m).length=m:=by simp[dY]
abbrev rc(p:Int)(m:Nat)(w:UK)(wd:UX)(T:UW)(acc:List D)(c5 c6 c7 c8:Cell):Ctx:=[.val (.int p),.val (.str (qZ m w)),.val (.lst (zH (m+1) λk=>(wd k:Int))),.val (.lst (dY w wd T m)),.own acc,c5,c6,c7,c8]
end
noncomputable def stN(M:Nat):List (Nat×Nat):=(LL M).flatMap λi=>(PM i<|M - i).map λj=>(i,j)
theorem Tb:s∈stN M↔s.1<=s.2/\s.2<M:=by
 unfold stN;simp only[List.mem_flatMap,LO,Mk,List.mem_range'_1];constructor
 ·rintro⟨i,a,j,I,rfl⟩
  exact⟨I.1,by show j<M;omega⟩
 ·intro h
  exact⟨s.1,by omega,s.2,⟨h.1,by omega⟩,rfl⟩
noncomputable def ky:List Int->Int
 | []=>0
 | x::r=>x+ky r
theorem we : ∀L:List Int,W4 (L.map D.int)=cq (ky L)
 | []=>rfl
 | x::L=>by show(W4<|L.map D.int).map _=_;rw[we L];rfl
noncomputable def oe(K:List (Nat×Nat))(a b:Int):Nat:=K.countP λx=>decide ((x.1:Int)<=a) && decide (b<=(x.2:Int))
noncomputable def vu(K:List (Nat×Nat))(s:Nat×Nat):Nat:=K.countP λx=>decide<|x=s
theorem Jb(x:Nat×Nat)(K:List (Nat×Nat))(a b:Int):(oe (x::K) a b:Int)=(oe K a b:Int)+if (x.1:Int)<=a/\b<=(x.2:Int)then 1 else 0:=by
 unfold oe;rw[List.countP_cons];by_cases d:(x.1:Int)<=a
 ·by_cases e:b<=(x.2:Int)
  ·rw[UJ (show(decide ((x.1:Int)<=a) && decide (b<=(x.2:Int)))=cM by simp only[decide_eq_true d,decide_eq_true e];rfl),UJ ⟨d,e⟩];rfl
  ·rw[UY (show ¬(decide ((x.1:Int)<=a) && decide (b<=(x.2:Int)))=cM by simp only[decide_eq_false e,Bool.and_false];decide),UY λz=>e z.2];rfl
 ·rw[UY (show ¬(decide ((x.1:Int)<=a) && decide (b<=(x.2:Int)))=cM by simp only[decide_eq_false d,Pk];decide),UY λz=>d z.1];rfl
theorem nT(x s:Nat×Nat)(K:List (Nat×Nat)):(vu (x::K) s:Int)=(vu K s:Int)+if (x.1=s.1/\x.2=s.2)then 1 else 0:=by
 unfold vu;rw[List.countP_cons];by_cases h:x=s
 ·rw[UJ (decide_eq_true h),UJ (by rw[h];exact⟨rfl,rfl⟩)];rfl
 ·rw[UY (by simpa using h),UY λz=>h (Prod.ext z.1 z.2)];rfl
theorem J3(s:Nat×Nat) : ∀K:List (Nat×Nat),(oe K s.1 s.2:Int) - ((oe K ((s.1:Int) - 1) s.2:Int)+(oe K s.1 ((s.2:Int)+1):Int))+(oe K ((s.1:Int) - 1) ((s.2:Int)+1):Int)=(vu K s:Int)
 | []=>rfl
 | x::K=>by
  have I:=J3 s K;rw[Jb,Jb,Jb,Jb,nT];generalize (oe K s.1 s.2:Int)=O at *;generalize (oe K ((s.1:Int) - 1) s.2:Int)=Q at *;generalize (oe K s.1 ((s.2:Int)+1):Int)=U at *;generalize (oe K ((s.1:Int) - 1) ((s.2:Int)+1):Int)=Y at *;generalize (vu K s:Int)=c5 at *
  repeat' split
  all_goals omega
section
variable{p:Int}{w:UK}{wd:UX}{T:UW}{m N:Nat}{A:Nat->eA}
noncomputable def om(A:Nat->eA)(N:Nat):List (Nat×Nat):=(LL N).map λj=>((A j).s,(A j).s+(A j).n - 1)
theorem Ky(D:nf p w wd T m N A) : ∀x,x∈om A N->x∈stN (m+1):=λx a=>by obtain⟨j,I,rfl⟩:=Mk.mp a;have b:=(D.ok j<|LO.mp I).n1;have d:=(D.ok j<|LO.mp I).le;exact Tb.mpr (by show(A j).s<=(A j).s+(A j).n - 1/\(A j).s+(A j).n - 1<m+1;omega)
theorem rF(D:nf p w wd T m N A)(O:i<=j):(o5 A N i j).length=oe (om A N) i j:=by unfold o5 oe om;rw[<- Nb,Sb];refine NR λk I=>?_;have a:=(D.ok k<|LO.mp I).n1;simp only[Mi,Function.comp_def,decide_eq_true_eq];rw[i6,i6];omega
end
noncomputable def u1:=(jB 1<|zA jj<|zb (zc 0)<|zb (zu<|.int 0) zD)
noncomputable def u2:=(jB 2<|di (jt<|kY<|zb (zu<|.int 2)<|zb (zu<|.int 3)<|zb (zu<|.int 5)<|zb (zu<|.int 7) zD)<|zB xV (zc 1)<|zu<|.int 4)
noncomputable def u3:=(eQ (.tp [3,4])<|di (jt<|kY<|zb (xk<|zb (zu<|.int 4)<|zb (zu<|.int 2) zD)<|zb (xk<|zb (zu<|.int 3)<|zb (zu<|.int 2) zD)<|zb (xk<|zb (zu<|.int 2)<|zb (zu<|.int 2) zD)<|zb (xk<|zb (zu<|.int 2)<|zb (zu<|.int 2) zD)<|zb (xk<|zb (zu<|.int 6)<|zb (zu<|.int 1) zD)<|zb (xk<|zb (zu<|.int 5)<|zb (zu<|.int 1) zD)<|zb (xk<|zb (zu<|.int 4)<|zb (zu<|.int 1) zD)<|zb (xk<|zb (zu<|.int 3)<|zb (zu<|.int 1) zD) zD)<|zB xV (zc 1)<|zu<|.int 8)
theorem BO{c:Int}(h:0<=c) : ∃q:Nat,Pr (q:Int)/\([D.int 2,.int 3,.int 5,.int 7])[(c%4).toNat]? = cq (.int q)/\i3 4 (c%4)=cq (c%4).toNat:=by
 have a:=MQ c (show(4:Int)≠0 by decide);have b:=MF c (show(0:Int)<4 by decide);obtain⟨r,I⟩:=OI a;rw[I];have O:r<4:=by omega
 rw[xD,UJ O,NF];rcases (by omega:r=0\/r=1\/r=2\/r=3)with e | e | e | e<;>subst e
 ·exact⟨2,.inl rfl,rfl,rfl⟩
 ·exact⟨3,.inr<|.inl rfl,rfl,rfl⟩
 ·exact⟨5,.inr<|.inr<|.inl rfl,rfl,rfl⟩
 ·exact⟨7,.inr<|.inr<|.inr rfl,rfl,rfl⟩
noncomputable def bS(bs:List (Int×Int))(j:Nat):Nat:=(bs.getD j (0,0)).1.toNat
noncomputable def bE(bs:List (Int×Int))(j:Nat):Nat:=(bs.getD j (0,0)).2.toNat
abbrev bW(bs:List (Int×Int)):Nat->Nat:=lU (bS bs) (bE bs) bs.length
abbrev bT(w:UK)(bs:List (Int×Int)):Nat->Nat->Nat->Int:=lV w (bS bs) (bE bs) bs.length
abbrev bL(bs:List (Int×Int))(r:Nat):List Nat:=qy (bS bs) (bE bs) bs.length r
section
variable{bs:List (Int×Int)}{m:Nat}{w:UK}
theorem ph(h : ∀b∈bs,vY ((m+1:Nat):Int) b){j:Nat}(I:j<bs.length):bs[j]? = cq ((bS bs j:Int),(bE bs j:Int))/\bS bs j<=bE bs j/\bE bs j<=m:=by have e:=LP I;have O:=h _<|Na e;obtain⟨a,d,Q⟩:=O;unfold bS bE;rw[LS,e,OE];refine⟨?_,by omega,by omega⟩;congr 1;exact Prod.ext (by dsimp only;omega) (by dsimp only;omega)
end
section
variable{bs:List (Int×Int)}{m:Nat}
theorem Al(h : ∀b∈bs,vY ((m+1:Nat):Int) b):bs=(LL bs.length).map λj=>((bS bs j:Int),(bE bs j:Int)):=by
 apply NK;intro j;by_cases I:j<bs.length
 ·rw[(ph h I).1];simp[I]
 ·rw[Sa ⋯,Sa (by simpa using I)]
end
theorem Yy{C:Type}(m:Nat)(f:Nat->C):((LL m).map f).reverse=(LL m).map λk=>f (m - 1 - k):=by
 apply List.ext_getElem
 ·simp
 ·intro i a b
  simp at a b ⊢
theorem w5{p:Int}{m:Nat}(w:UK)(wd:UX)(T:UW)(C:m<=900):qM [jk p m w wd T]=cq (.val<|jk p m (λk=> !w (m - 1 - k)) (λk=>wd<|m - k) λk=>T<|m - 1 - k):=by
 have g:=jy;have Y:m<=lim:=by omega
 have I:jR (jk p m w wd T)=cq (.T,[.int p,.tup<|zH (m+1) λk=>(wd k:Int),.tup (jL m w wd T)]):=rfl;have a:zP (.nm 0) jd (xk<|zb (zA q8<|zb (di (zh 0)<|zu<|.int 0) zD)<|zb (di (zh 0)<|zu<|.int 1) zD) [Cell.no] ((LL m).map λk=>xy w wd T<|m - 1 - k)=cq (jL m (λk=> !w (m - 1 - k)) (λk=>wd<|m - k) λk=>T<|m - 1 - k):=by
  unfold jL;refine zw _ _ λk O=>zx rfl rfl ?_;have O:=LO.mp O;have f:jR (xy w wd T<|m - 1 - k)=cq (.T,[.str (qA<|ft<|w<|m - 1 - k),jf (gm w wd<|m - 1 - k) (f7 w wd<|m - 1 - k) (T<|m - 1 - k)]):=rfl;have b:=vL<|w<|m - 1 - k;have d:m - k=m - 1 - k+1:=by omega
  have e:m - (k+1)=m - 1 - k:=by omega
  simp[f,b,xy,gm,f7];rw[d,e];cases w (m - 1 - k)<;>simp
 have Q:(jL m w wd T).reverse=(LL m).map λk=>xy w wd T (m - 1 - k):=Yy m _;have U:(zH (m+1) λk=>(wd k:Int)).reverse=zH (m+1) λk=>((wd (m - k):Nat):Int):=by unfold zH;rw[Yy];simp
 simp only[qM,jo,zZ];rw[jc];simp[I,EJ,Ka,Q,U,Y,z5,kg,LQ];rw[a];simp[I,EJ,Ka,Q,U,jk]
theorem w4{p:Int}{m:Nat}(w:UK)(wd:UX)(T:UW)(C:m<=900)(I : ∀k,wd k<=lim):xf [jk p m w wd T]=cq (.val<|jk p m (λk=> !w k) wd λk i j=>T k j i):=by
 have n:=jy;have Q:m<=lim:=by omega
 have O:jR (jk p m w wd T)=cq (.T,[.int p,.tup<|zH (m+1) λk=>(wd k:Int),.tup (jL m w wd T)]):=rfl;have d:zP (.nm 0) jd (xk<|zb (zA q8<|zb (di (zh 0)<|zu<|.int 0) zD)<|zb (zA qa<|zb (di (zh 0)<|zu<|.int 1) zD) zD) [Cell.no] (jL m w wd T)=cq (jL m (λk=> !w k) wd λk i j=>T k j i):=by
  unfold jL;refine zw _ _ λk l=>zx rfl rfl ?_;have f:gm w wd k<=lim:=by unfold gm;split<;>exact I _
  have g:f7 w wd k<=lim:=by unfold f7;split<;>exact I _
  have U:jR (xy w wd T k)=cq (.T,[.str (qA<|ft<|w k),jf (gm w wd k) (f7 w wd k) (T k)]):=rfl;have Y:=vL<|w k;have h:=vd (T k) f g;have a:gm (λk=> !w k) wd k=f7 w wd k:=by unfold gm f7;cases e:w k<;>simp[e]
  have b:f7 (λk=> !w k) wd k=gm w wd k:=by unfold gm f7;cases e:w k<;>simp[e]
  simp[U,Y,h];simp[xy,a,b]
 simp only[xf,jo,zZ];rw[jc];simp[O,Q,z5,kg,LQ];rw[d];simp[O,jk]
section
variable{p:Int}{w:UK}{wd:UX}{T:UW}{m N:Nat}{A:Nat->eA}
noncomputable def Gn(m:Nat)(b:eA):eA:=⟨m+1 - (b.s+b.n),b.n,λr=>b.v<|m - r⟩
theorem vR{b:eA}(h:b.s+b.n<=m+1){r:Nat}(I:r<=m):(Gn m b).has r=b.has (m - r):=by rw[NV,i6,i6];show m+1 - (b.s+b.n)<=r/\r<m+1 - (b.s+b.n)+b.n↔_;omega
theorem nW(w:UK){m k:Nat}(I:k<m):m - zS (λk=> !w (m - 1 - k)) k=zS w (m - 1 - k)/\m - z6 (λk=> !w (m - 1 - k)) k=z6 w (m - 1 - k)/\zS (λk=> !w (m - 1 - k)) k<=m/\z6 (λk=> !w (m - 1 - k)) k<=m:=by unfold zS z6;cases h:w (m - 1 - k)<;>simp[h]<;>omega
theorem nX(D:nf p w wd T m N A):nf p (λk=> !w (m - 1 - k)) (λk=>wd<|m - k) (λk=>T<|m - 1 - k) m N (λj=>Gn m<|A j) where
 ok:=λj I=>by
  have o:=D.ok j I;refine⟨o.n1,?_,λr i O hi=>?_,λk hk U i hi=>?_⟩
  ·show m+1 - ((A j).s+(A j).n)+(A j).n<=m+1
   have:=o.le;omega
  ·have a2:r<=m:=by
    have:=(i6.mp O).2;have:r<m+1 - ((A j).s+(A j).n)+(A j).n:=this;have:=o.le;omega
   rw[vR o.le a2]at O;exact o.l0 (m - r) i O hi
  ·obtain⟨e1,Y,e3,e4⟩:=nW w hk
   rw[vR o.le e3,e1]at U;rw[vR o.le e4,Y];show app (T<|m - 1 - k) (wd<|m - zS (λk=> !w (m - 1 - k)) k) ((A j).v (m - zS (λk=> !w (m - 1 - k)) k)) i%p=(if _ then (A j).v (m - z6 (λk=> !w (m - 1 - k)) k) i else 0)%p;have hi:i<wd (m - z6 (λk=> !w (m - 1 - k)) k):=hi;rw[e1,Y]at *;exact o.arr (m - 1 - k) ⋯ U i hi
 sp:=λr O v=>by obtain⟨t,Q⟩:=D.sp (m - r) ⋯ v;refine⟨t,λi hi=>?_⟩;rw[Q i hi];congr 1;exact zv λj I=>by rw[vR (D.ok j I).le O];rfl
 inj:=λr O t Q j I hh=>by rw[vR (D.ok j I).le O]at hh;refine D.inj (m - r) ⋯ t (λi hi=>(congrArg (· % p)<|zv λj I=>?_).trans (Q i hi)) j I hh;rw[vR (D.ok j I).le O];rfl
 cnt:=λr O=>by rw[<- D.cnt (m - r) ⋯];unfold fh;congr 1;exact RG λj I=>by rw[vR (D.ok j<|LO.mp I).le O]
noncomputable def cX(A:Nat->eA)(N:Nat)(g:UW)(j:Nat):eA:=⟨(A j).s,(A j).n,λr i=>g r ((fh A N r).idxOf j) i⟩
theorem oK(g:UW)(r:Nat):fh (cX A N g) N r=fh A N r:=rfl
theorem Bc(D:nf p w wd T m N A){r:Nat}(I:r<=m)(v:Vc) : ∃t,∀i,i<wd r->v i%p=app (jE A N r) (wd r) t i%p:=by obtain⟨t,O⟩:=D.sp r I v;refine⟨λk=>t<|(fh A N r).getD k 0,λi a=>?_⟩;rw[O i a,Wi,D.cnt r I]
theorem iE(L:Pr p)(S : ∀k,wd k<=8)(D:nf p w wd T m N A) : ∃g,nf p (λk=> !w k) wd (λk i j=>T k j i) m N (cX A N g):=by
 have p0:=L.pos;have b6 : ∀r,∃g:UV,r<=m->ZO p (wd r) (jE A N r) g/\ZO p (wd r) g (jE A N r)/\∀i j,0<=g i j/\g i j<p:=λr=>by
  by_cases Q:r<=m
  ·obtain⟨g,h⟩:=Zv L (S r) (Bc D Q)
   exact⟨g,λ_=>h⟩
  ·exact⟨λ_ _=>0,λz=>absurd z Q⟩
 obtain⟨g,f⟩:=Ov b6;have pos : ∀{r l:Nat},l<(fh A N r).length->(fh A N r).idxOf ((fh A N r).getD l 0)=l:=λ{r l} O=>by rw[LS,LP O,OE,(yV A N r).idxOf_getElem _ O]
 have bF : ∀{r:Nat},r<=m->∀i l,l<wd r->jE (cX A N g) N r i l=g r l i:=λ{r} Q i l O=>by show g r ((fh A N r).idxOf ((fh A N r).getD l 0)) i=_;rw[pos (by rw[D.cnt r Q];exact O)]
 refine⟨g,iL L S (λj K=>?_) (λr Q=>by rw[oK];exact D.cnt r Q) λr Q v=>?_⟩
 ·have o:=D.ok j K
  refine⟨o.n1,o.le,λr i Q a=>?_,λk hk U x M=>?_⟩
  ·have b9:r<=m:=by have:=(i6.mp Q).2;have:r<(A j).s+(A j).n:=this;have:=o.le;omega
   exact(f r b9).2.2 _ _
  ·have W:zS (λk=> !w k) k=z6 w k:=by unfold zS z6;cases h:w k<;>simp[h]
   have X:z6 (λk=> !w k) k=zS w k:=by unfold zS z6;cases h:w k<;>simp[h]
   have Y:zS w k<=m:=by unfold zS;split<;>omega
   have t:z6 w k<=m:=by unfold z6;split<;>omega
   rw[W]at U;rw[X]at M;rw[W,X];have U:(A j).has (z6 w k)=cM:=U;generalize as:zS w k=b at *;generalize ax:z6 w k=e at *;show zf (λi=>T k i x*g e ((fh A N e).idxOf j) i) (wd e)%p=(if (A j).has b=cM then g b ((fh A N b).idxOf j) x else 0)%p;obtain⟨I,B,C⟩:=aO K U;have bb:(fh A N e).idxOf j=I:=by rw[<- C];exact pos B
   rw[bb];have bd:I<wd e:=by rw[<- D.cnt e t];exact B
   have on : ∀l,l<wd b->zf (λy=>zf (λi=>T k i y*g e I i) (wd e)*jE A N b y l) (wd b)%p=(if (fh A N b).getD l 0=j then 1 else 0)%p:=λl O=>by
    have bf:l<(fh A N b).length:=by rw[D.cnt b Y];exact O
    obtain⟨Z,h2⟩:=JY bf;have H:zf (λy=>zf (λi=>T k i y*g e I i) (wd e)*jE A N b y l) (wd b)=zf (λi=>g e I i*app (T k) (wd b) ((A<|(fh A N b).getD l 0).v b) i) (wd e):=by
     have:zf (λy=>zf (λi=>T k i y*g e I i) (wd e)*jE A N b y l) (wd b)=zf (λy=>zf (λi=>g e I i*(T k i y*jE A N b y l))<|wd e) (wd b):=zv λy _=>by rw[<- qi];exact zv λi _=>by rw[MU (T k i y),MW]
     rw[this,qh];exact zv λi _=>by rw[jg];rfl
    rw[H];have ar : ∀i,i<wd e->app (T k) (wd b) ((A<|(fh A N b).getD l 0).v b) i%p=(if (A<|(fh A N b).getD l 0).has e=cM then (A<|(fh A N b).getD l 0).v e i else 0)%p:=λi a=>by have:=(D.ok _ Z).arr k hk (by rw[as];exact h2) i (by rw[ax];exact a);rw[as,ax]at this;exact this
    have J:zf (λi=>g e I i*app (T k) (wd b) ((A<|(fh A N b).getD l 0).v b) i) (wd e)%p=zf (λi=>g e I i*(if (A<|(fh A N b).getD l 0).has e=cM then (A<|(fh A N b).getD l 0).v e i else 0)) (wd e)%p:=zI λi a=>kH rfl<|ar i a;rw[J];cases hh:(A<|(fh A N b).getD l 0).has e with
    | false=>
     have:(fh A N b).getD l 0≠j:=λz=>by rw[z,U]at hh;cases hh
     rw[UY this];simp[zQ]
    | true=>
     obtain⟨le,R,E⟩:=aO Z hh;have u:=(f e t).2.1 I le bd (by rw[<- D.cnt e t];exact R);have e3:zf (λi=>g e I i*jE A N e i le) (wd e)=zf (λi=>g e I i*(if cM=cM then (A<|(fh A N b).getD l 0).v e i else 0)) (wd e):=zv λi _=>by rw[UJ rfl];show _*(A<|(fh A N e).getD le 0).v e i=_;rw[E]
     rw[<- e3,u];unfold h6;by_cases q:I=le
     ·rw[UJ q,UJ (by rw[<- E,<- q,C])]
     ·rw[UY q,UY λz=>q (by
       have:(fh A N e).getD le 0=(fh A N e).getD I 0:=by rw[E,C,z]
       exact(Zn (yV A N e) R B this).symm)]
   have e4:zf (λi=>T k i x*g e I i) (wd e)%p=zf (λl=>(if (fh A N b).getD l 0=j then 1 else 0)*g b l x) (wd b)%p:=by
    have s1:zf (λl=>(if (fh A N b).getD l 0=j then 1 else 0)*g b l x) (wd b)%p=zf (λl=>zf (λy=>zf (λi=>T k i y*g e I i) (wd e)*jE A N b y l) (wd b)*g b l x) (wd b)%p:=zI λl O=>kH (on l O).symm rfl;rw[s1];have s2:zf (λl=>zf (λy=>zf (λi=>T k i y*g e I i) (wd e)*jE A N b y l) (wd b)*g b l x) (wd b)=zf (λy=>zf (λi=>T k i y*g e I i) (wd e)*zf (λl=>jE A N b y l*g b l x) (wd b)) (wd b):=by
     have:zf (λl=>zf (λy=>zf (λi=>T k i y*g e I i) (wd e)*jE A N b y l) (wd b)*g b l x) (wd b)=zf (λl=>zf (λy=>zf (λi=>T k i y*g e I i) (wd e)*(jE A N b y l*g b l x))<|wd b) (wd b):=zv λl _=>by rw[<- qi];exact zv λy _=>by rw[MW]
     rw[this,qh];exact zv λy _=>jg ..
    rw[s2];have s3:zf (λy=>zf (λi=>T k i y*g e I i) (wd e)*zf (λl=>jE A N b y l*g b l x) (wd b)) (wd b)%p=zf (λy=>zf (λi=>T k i y*g e I i) (wd e)*h6 y x) (wd b)%p:=zI λy P=>kH rfl<|(f b Y).1 y x P M;rw[s3,zL (i:=x) M λy _ d=>by unfold h6;rw[UY d];simp];unfold h6;rw[UJ rfl,OY]
   rw[e4];cases hh:(A j).has b with
   | false=>
    have:zf (λl=>(if (fh A N b).getD l 0=j then 1 else 0)*g b l x) (wd b)=zf (λ_=>0) (wd b):=zv λl O=>by
     rw[UY λz=>by have:=(JY (A:=A) (N:=N) (r:=b) (j:=l)<|by rw[D.cnt b Y];exact O).2;rw[z,hh]at this;cases this]
     simp
    rw[this,zQ];rfl
   | true=>
    obtain⟨jb,F,G⟩:=aO K hh;have bn:(fh A N b).idxOf j=jb:=by rw[<- G];exact pos F
    rw[UJ rfl,bn,zL (i:=jb) (by rw[<- D.cnt b Y];exact F) λl O d=>by rw[UY λz=>d (Zn (yV A N b) (by rw[D.cnt b Y];exact O) F<|by rw[z,G])];simp,UJ G,OH]
 ·refine⟨λl=>zf (λy=>v y*jE A N r y l)<|wd r,λi a=>?_⟩
  unfold app;have H:zf (λl=>jE (cX A N g) N r i l*zf (λy=>v y*jE A N r y l) (wd r)) (wd r)=zf (λy=>v y*zf (λl=>jE A N r y l*g r l i) (wd r)) (wd r):=by
   have:zf (λl=>jE (cX A N g) N r i l*zf (λy=>v y*jE A N r y l) (wd r)) (wd r)=zf (λl=>zf (λy=>v y*(jE A N r y l*g r l i))<|wd r) (wd r):=zv λl O=>by rw[bF Q i l O,MU,<- qi];exact zv λy _=>by rw[MW]
   rw[this,qh];exact zv λy _=>jg ..
  rw[H];have J:zf (λy=>v y*zf (λl=>jE A N r y l*g r l i) (wd r)) (wd r)%p=zf (λy=>v y*h6 y i) (wd r)%p:=zI λy P=>kH rfl<|(f r Q).1 y i P a;rw[J,zL (i:=i) a λy _ d=>by unfold h6;rw[UY d];simp];unfold h6;rw[UJ rfl,OY]
end
theorem oF:xS=jo 4 (zM aR ie):=rfl
section
variable{p:Int}{w:UK}{wd:UX}{T:UW}{m N:Nat}{A:Nat->eA}
theorem nR{M:Nat}{K I:List (Nat×Nat)}(C : ∀x,x∈K->x∈stN M)(J : ∀x,x∈I->x∈stN M)(h : ∀a b:Nat,a<=b->b<M->oe K a b=oe I a b){s:Nat×Nat}(hs:s.1<=s.2):vu K s=vu I s:=by
 have z : ∀{L:List (Nat×Nat)} {a b:Int},(∀x,x∈L->x∈stN M)->a<0\/(M:Int)<=b->oe L a b=0:=λ{L a b} Q U=>by unfold oe;rw[Rn];intro x d q;have:=Tb.mp<|Q x d;simp only[Mi,decide_eq_true_eq]at q;omega
 have O : ∀{a b:Int},a<=b->oe K a b=oe I a b:=λ{a b} U=>by
  by_cases c:a<0\/(M:Int)<=b
  ·rw[z C c,z J c]
  ·have:=h a.toNat b.toNat ⋯ ⋯
   rw[Pp ⋯,Pp ⋯]at this;exact this
 have e:=J3 s K;have f:=J3 s I;rw[O ⋯,O ⋯,O ⋯,O ⋯]at e;omega
end
section
variable{p:Int}{w:UK}{wd:UX}{T:UW}{m N N':Nat}{A A':Nat->eA}{d n:Nat}
noncomputable def DJ(w:UK)(A:Nat->eA)(d n:Nat)(z:Bool)(j:Nat):Bool:=(A j).has d && ((!z && (A j).has (d+n)) || (!(A j).has (d+n) && !w ((A j).s+(A j).n - 1)))
noncomputable def DK(w:UK)(A:Nat->eA)(d n:Nat)(z:Bool)(j:Nat):Vc:=if DJ w A d n z j=cM then (A j).v d else λ_=>0
theorem uj(D:nf p w wd T m N A)(C:d+n<=m){z:Bool}{j:Nat}(O:j<N) : ∃y:Vc,Wk p w wd T d n (DK w A d n z j) y/\(z=cM->∀i,y i=0):=by
 unfold DK;by_cases h:DJ w A d n z j=cM
 ·rw[UJ h]
  unfold DJ at h;simp only[Mi,NC,Oe]at h;obtain⟨a,e⟩:=h;rcases e with⟨b,I⟩ | ⟨I,Q⟩
  ·exact⟨_,Jg (D.ok j O) a n C I,λq=>by rw[q]at b;cases b⟩
  ·exact⟨_,Wy (D.ok j O) a Q n C I,λ_ _=>rfl⟩
 ·rw[UY h];exact⟨_,QM n,λ_ _=>rfl⟩
theorem gr(D:nf p w wd T m N A)(C:d+n<=m)(z:Bool)(u:Vc):Span p (wd d) (ej N<|DK w A d n z) u ↔ ∃y:Vc,Wk p w wd T d n u y/\(z=cM->∀i,y i%p=0):=by
 constructor
 ·intro h
  induction h with
  | zero h=>exact⟨_,pB (QM n) λi l=>by rw[h i l];simp,λ_ _=>by simp⟩
  | step Y _ e x=>
   obtain⟨y,f,k⟩:=x;obtain⟨j,Q,rfl⟩:=Y;obtain⟨F,g1,g2⟩:=uj D C (z:=z) Q;refine⟨_,pB (lF n _ f g1) e,λq i=>?_⟩;rw[g2 q i,xr,OZ];exact k q i
 ·rintro⟨y,f,k⟩
  obtain⟨a,o⟩:=D.sp d ⋯ u;obtain⟨b,U,r⟩ : ∃b:Vc,(∀i,i<wd (d+n)->y i%p=zf (λj=>if (A j).has (d+n)=cM then b j*(A j).v (d+n) i else 0) N%p)/\(z=cM->∀j,b j=0):=by
   cases z with
   | false=>
    obtain⟨b,U⟩:=D.sp (d+n) C y;exact⟨b,U,λq=>nomatch q⟩
   | true=>exact⟨λ_=>0,λi _=>by rw[k rfl i,zv (g:=λ_=>0) λj _=>by simp,zQ];simp,λ_ _=>rfl⟩
  have t:=Zf D n C f o U;refine(Span.sum (u:=DK w A d n z) a (m:=N) λj Q=> .gen ⟨j,Q,rfl⟩).congr λi l=>?_;rw[o i l];refine zI λj Q=>?_;unfold DK;by_cases O:(A j).has d=cM
  ·obtain⟨B,E⟩:=t j Q O
   rw[UJ O];by_cases I:DJ w A d n z j=cM
   ·rw[UJ I]
   ·rw[UY I,xr]
    have:a j%p=0:=by
     unfold DJ at I;rw[O]at I;cases h4:(A j).has (d+n)with
     | true=>
      rw[h4]at I;cases z with
      | true=>rw[B h4,r rfl j];simp
      | false=>simp at I
     | false=>
      rw[h4]at I;cases h5:w ((A j).s+(A j).n - 1)with
      | true=>exact E h4 h5
      | false=>rw[h5]at I;simp at I
    rw[LZ,this];simp
  ·have:DJ w A d n z j=cR:=by unfold DJ;rw[Bool.not_eq_true]at O;rw[O];rfl
   rw[UY O,this];simp
theorem Ad(I:Pr p)(D:nf p w wd T m N A)(Q:nf p w wd T m N' A'){a b:Nat}(U:a<=b)(O:b<=m):oe (om A N) a b=oe (om A' N') a b:=by obtain⟨n,rfl⟩ : ∃n,b=a+n:=⟨b - a,by omega⟩;obtain⟨s,_,B,l,Y,o⟩:=JE (n:=wd a) I N<|DK w A a n cR;obtain⟨q,_,g,x,d,k⟩:=JE (n:=wd a) I N<|DK w A a n cM;have f : ∀u,Span p (wd a) (ej s B) u ↔ ∃z,Wk p w wd T a n u z:=λu=>(o u).trans ((gr D O cR u).trans ⟨λ⟨y,h,_⟩=>⟨y,h⟩,λ⟨y,h⟩=>⟨y,h,λq=>nomatch q⟩⟩);have e : ∀u,Span p (wd a) (ej q g) u↔Wk p w wd T a n u λ_=>0:=λu=>(k u).trans ((gr D O cM u).trans ⟨λ⟨y,h,j⟩=>EA h λi _=>by rw[j rfl i];simp,λh=>⟨_,h,λ_ _=>by simp⟩⟩);have r:=aN I D O Y f d e;have t:=aN I Q O Y f d e;rw[<- rF D U,<- rF Q U];omega
theorem gd(O:Pr p)(D:nf p w wd T m N A)(I:nf p w wd T m N' A'):(om A N).Perm (om A' N'):=by
 refine List.perm_iff_count.mpr λs=>?_;have e : ∀K:List (Nat×Nat),K.count s=vu K s:=λK=>by unfold vu List.count;exact NR λx _=>by simp
 rw[e,e];by_cases d:s.1<=s.2
 ·exact nR (M:=m+1) (Ky D) (Ky I) (λa b f i=>Ad O D I f ⋯) d
 ·have z : ∀K:List (Nat×Nat),(∀x,x∈K->x∈stN (m+1))->vu K s=0:=λK h=>by
   unfold vu;rw[Rn];intro x g q;have:=(Tb.mp<|h x g).1;have q:=of_decide_eq_true q;rw[q]at this;exact d this
  rw[z _ (Ky D),z _ (Ky I)]
theorem dg(U:Pr p)(C : ∀k,wd k<=8)(L:m<=5)(J : ∀k i j,k<m->i<gm w wd k->j<f7 w wd k->0<=T k i j/\T k i j<p) :
 ∃(N:Nat) (A:Nat->eA) (ts us:List TB),N<=48/\nf p w wd T m N A/\qR (qg A N)=qg A N/\(∀b∈qg A N,vY ((m+1:Nat):Int) b)/\(∀r,r<=m->hH (qg A N) r=wd r)/\(∀t∈ts,xb p t)/\(∀t∈us,xb p t)/\jZ [jk p m w wd T]=cq (.val<|qF (qg A N) ts us)/\xJ [jk p m w wd T,qF (qg A N) ts us]=cq (.val<|.bl cM):=by
 obtain⟨N,A,g,R,Y,cnt,h,o,H⟩:=lq (T:=T) (w:=w) U C L J;have W : ∀j,j<N->1<=(A j).n:=λj I=>(Y j I).n1;have d : ∀r,r<=m->hH (qg A N) r=wd r:=λr O=>by unfold hH;rw[k9 W,cnt _ O]
 have X:(qg A N).length=N:=by simp[qg]
 have B:nf p w wd T m N A:=iL U C Y cnt λr O v=>⟨app (g r) (wd r) v,λi a=>(ZQ (h r O).1 v a).symm⟩;have e : ∀f:UW,xA m wd f=xA m (hH<|qg A N) f:=λf=>by unfold xA;refine Md λr O=>?_;have O:=LO.mp O;rw[d r ⋯]
 have M:jk p m w wd T=jk p m w (hH<|qg A N) (jl p w (hH<|qg A N) (λr=>jE A N r) g<|p9 w<|qg A N):=by
  unfold jk;congr 1;have P:(zH (m+1) λk=>(wd k:Int))=zH (m+1) λk=>(hH (qg A N) k:Int):=kj λr O=>by rw[d r ⋯]
  have G:jL m w wd T=jL m w (hH<|qg A N) (jl p w (hH<|qg A N) (λr=>jE A N r) g<|p9 w<|qg A N):=by
   unfold jL;refine Md λk Q=>?_;have Q:=LO.mp Q;have F:zS w k<=m:=by unfold zS;split<;>omega
   have K:z6 w k<=m:=by unfold z6;split<;>omega
   unfold xy;rw[wN,wa,wN,wa,d _ F,d _ K];congr 2;congr 1;exact ZZ λi j a I=>pC U Y cnt (λr O=>(h r O).1) Q a I (J k i j Q (by rw[wN];exact a)<|by rw[wa];exact I)
  rw[P,G]
 have l : ∀k,hH (qg A N) k<=60:=λk=>by have:=YG (qg A N) (k:Int);unfold hH;omega
 have pr : ∀k,k<m+1->Pair p (hH (qg A N) k) (jE A N k) (g k):=λk Q=>by
  obtain⟨u1,u2,u3⟩:=h k ⋯;rw[d k ⋯];refine⟨λi j a I=>?_,λi j _ _=>u3 i j,u1,u2⟩;have E:j<(fh A N k).length:=by rw[cnt k ⋯];exact I
  obtain⟨x,y⟩:=JY E;exact(Y _ x).l0 k i y a
 have z : ∀b∈qg A N,vY ((m+1:Nat):Int) b:=λb S=>by obtain⟨j,I,rfl⟩:=Mk.mp S;have I:=LO.mp I;have x:=(Y j I).n1;have y:=(Y j I).le;unfold vY K3;dsimp only;omega
 have u:=Xk (f:=g) l λk i j Q a I=>(pr k Q).bg i j a I;have s:=Xk (f:=λr=>jE A N r) l λk i j Q a I=>(pr k Q).bf i j a I;refine⟨N,A,xA m wd g,xA m wd λr=>jE A N r,R,B,o,z,d,by rw[e g];exact u,by rw[e λr=>jE A N r];exact s,H,?_⟩;rw[M,e g,e λr=>jE A N r];rw[QX U.pos U.le L l (λk i j _ _ _=>WX U.pos _ _ _ _ _ _ _ _) ⋯ u s,VT U z o pr]
theorem nt{bs:List (Int×Int)}(h : ∀b∈bs,vY ((m+1:Nat):Int) b)(r:Nat):jO bs (r:Int)=bL bs r:=by
 unfold jO bL qy fh;refine RG λj I=>?_;have I:=LO.mp I;obtain⟨e,a,d⟩:=ph h I;have O:bs.getD j (0,0)=((bS bs j:Int),(bE bs j:Int)):=by rw[LS,e];rfl
 rw[O];show lW _ _=(decide (bS bs j<=r) && decide (r<bS bs j+(bE bs j - bS bs j+1)));unfold lW;dsimp only;congr 1
 ·exact decide_eq_decide.mpr ⋯
 ·exact decide_eq_decide.mpr ⋯
theorem rG{bs:List (Int×Int)}(h : ∀b∈bs,vY ((m+1:Nat):Int) b)(p:Int)(w:UK):BR p m w bs=jk p m w (bW bs) (bT w bs):=by
 have a:=nt h;rw[rO];unfold jk;congr 1;have I : ∀r,hH bs r=bW bs r:=λr=>by unfold hH bW lU;rw[a]
 have d:(zH (m+1) λk=>(hH bs k:Int))=zH (m+1) λk=>(bW bs k:Int):=kj λr _=>by rw[I]
 have O:jL m w (hH bs) (p9 w bs)=jL m w (bW bs) (bT w bs):=by unfold jL;refine Md λk _=>?_;unfold xy;rw[wN,wa,wN,wa,I,I];congr 2;congr 1;refine ZZ λi j e Q=>?_;unfold p9 bT lV;rw[a,a];have U:i<(bL bs<|z6 w k).length:=e;have Y:j<(bL bs<|zS w k).length:=Q;simp only[LS,LP U,LP Y,OE]
 rw[d,O]
end
section
variable{p:Int}{m:Nat}{w:UK}{bs:List (Int×Int)}
abbrev l9(p:Int)(z:Str)(m:Nat)(bs:List (Int×Int)):Ctx:=[.val (.int p),.val (.str z),.val (.lst (zT bs)),.val (.int ((m+1:Nat):Int))]
end
theorem rJ{C:List Int}(J:C.length<=63){a:Int}(S:0<=a)(Z:a<=1000){r n:Nat}(L:0<r)(ak:r<=6)(am:n<=60) : ∃bs,qU [kn C,.int a,.int r,.int n]=cq (.own<|zT bs)/\(∀b∈bs,vY r b)/\bs.length=n/\qR bs=bs:=by
 have F:=jy;have m:n<=lim:=by omega
 have j : ∀(k s:Nat) (acc:List (Int×Int)) (d f g:Cell),s+k=n->acc.length=s->(∀b∈acc,vY r b)->∃bs O Q U,
  qQ (.nm 5) (zM (jB 6<|zA jj<|zb (zc 0)<|zb (zB qD (zc 1)<|zc 5) zD)<|zM (jB 7<|zB xV (zc 6)<|zc 2)<|xW 4<|xk<|zb (zc 7)<|zb (zB qD (zc 7)<|zB xV (zB XQ (zc 6)<|zu<|.int 16)<|zB vB (zc 2)<|zc 7) zD) ((PM s k).map λ(i:Nat)=>D.int i)
   [.val (kn C),.val<|.int a,.val<|.int r,.val<|.int n,.own<|zT acc,d,f,g]=cq (.next [.val (kn C),.val<|.int a,.val<|.int r,.val<|.int n,.own<|zT bs,O,Q,U])/\(∀b∈bs,vY r b)/\bs.length=n:=by
  intro k
  induction k with
  | zero=>intro s acc d f g x l Y;exact⟨acc,d,f,g,rfl,Y,by omega⟩
  | succ k y=>
   intro s acc d f g x l Y;obtain⟨w,B,E⟩:=KP J (k:=a+(s:Int)) ⋯ ⋯;have o:=MQ (xQ C<|a+(s:Int)) (show(r:Int)≠0 by omega);have p:=MF (xQ C<|a+(s:Int)) (show(0:Int)<r by omega);have as:=MQ (xQ C (a+(s:Int))/16) (show(r:Int) - xQ C (a+(s:Int))%r≠0 by omega);have A:=MF (xQ C (a+(s:Int))/16) (show(0:Int)<(r:Int) - xQ C (a+(s:Int))%r by omega);obtain⟨bs,O,Q,U,h,g1,g2⟩:=y (s+1) (acc++[(xQ C (a+(s:Int))%r,xQ C (a+(s:Int))%r+xQ C (a+(s:Int))/16%((r:Int) - xQ C (a+(s:Int))%r))]) (.val<|.int s) (.val<|.int<|xQ C<|a+(s:Int)) (.val<|.int<|xQ C (a+(s:Int))%r) ⋯ (by simp[l]) (λb I=>by
    rcases OV.mp I with I | I
    ·exact Y b I
    ·have e:b=_:=Om.mp I
     subst e;exact⟨o,by show _<=_+_;omega,by show _+_<_;omega⟩)
   refine⟨bs,O,Q,U,?_,g1,g2⟩;rw[<- h,OK,Mu,jF];have t:acc.length<lim:=by omega
   have z:(0:Int)<r:=by omega
   have G:(0:Int)<(r:Int) - xQ C (a+(s:Int))%r:=by omega
   simp[jc,w,z,L,p,t];simp[zT]
 obtain⟨bs,O,Q,U,h,g1,g2⟩:=j n 0 [] .no .no .no ⋯ rfl ⋯;refine⟨qR bs,?_,λb I=>g1 b<|(qJ bs).mem_iff.mp I,by rw[(qJ bs).length_eq,g2],vM<|qJ bs⟩;rw[<- Ob]at h;simp[qU,jo,zZ,jc,m,jY,LQ];rw[z7 n λi=>(i:Int)];have u:(zT []:List D)=[]:=rfl;rw[u]at h;rw[h];simp[Jx (show bs.length<64 by omega)]
section
variable{ns:List Int}{p:Int}{m:Nat}{w:UK}{wd:UX}{T:UW}
theorem Y8{a:Int}(S:0<=a)(Z:a<=1000)(C:ns.length<=63)(Q:Pr p)(hm:m<=5)(Y : ∀k,wd k<=7)(J : ∀k x y,0<=T k x y/\T k x y<p) :
 ∃f g:UW,(∀k,k<m+1->Pair p (wd k) (f k) (g k))/\xS [kn ns,.int a,jk p m w wd T]=cq (.val<|jk p m w wd<|jl p w wd f g T):=by
 have H:=jy;have l:m+1<=lim:=by omega
 have o : ∀k:Nat,∃b:(Nat->Nat->Int)×(Nat->Nat->Int),k<m+1->Pair p (wd k) b.1 b.2/\xx [kn ns,.int<|a+20*(k:Int),.int p,.int (wd k:Nat)]=cq (.own [jf (wd k) (wd k) b.1,jf (wd k) (wd k) b.2]):=λk=>by
  by_cases O:k<m+1
  ·obtain⟨f,g,u,z⟩:=AN C Q (n:=wd k) (by have:=Y k;omega) (show(0:Int)<=a+20*(k:Int)by omega) ⋯
   exact⟨(f,g),λ_=>⟨u,z⟩⟩
  ·exact⟨(λ_ _=>0,λ_ _=>0),λh=>absurd h O⟩
 obtain⟨I,U⟩:=Ov o;refine⟨λk=>(I k).1,λk=>(I k).2,λk O=>(U k O).1,?_⟩;let L:List D:=(LL<|m+1).map λk=>D.lst [jf (wd k) (wd k) (I k).1,jf (wd k) (wd k) (I k).2];have G:aR [.val (kn ns),.val<|.int a,.val<|jk p m w wd T,.no]=cq (.next [.val (kn ns),.val<|.int a,.val<|jk p m w wd T,.val (.lst L)]):=by
  have d:Yt (di (zh 2)<|zu<|.int 1) [.val (kn ns),.val<|.int a,.val<|jk p m w wd T,.no]=cq ((LL<|m+1).map λ(k:Nat)=>D.tup [.int k,.int (wd k:Int)]):=by rw[<- XO (m+1) λk=>D.int (wd k:Int)];rfl
  unfold aR;rw[ZD,ZE,j6,d];simp only[LR,Mm,Nc,l,if_true];rw[zw (λk=>D.lst [jf (wd k) (wd k) (I k).1,jf (wd k) (wd k) (I k).2]) _ λk O=>zx (γ1:=[.val (.int k),.val<|.int (wd k:Int),.val<|kn ns,.val<|.int a,.val (jk p m w wd T)]) rfl rfl ?_]
  ·rfl
  ·have O:=LO.mp O
   have e:=(U k O).2;have r:XR 20 (k:Int)=cM:=vI _ _ ⋯ ⋯;unfold CT;simp[yF,r,e,i3]
 have s:zP (.nm 0) jd (di (zh 0)<|zu<|.int 0) [Cell.no] L=cq (xj (m+1) wd λk=>(I k).1):=by refine zw _ _ λk _=>zx rfl rfl ?_;rfl
 have t:zP (.nm 0) jd (di (zh 0)<|zu<|.int 1) [Cell.no] L=cq (xj (m+1) wd λk=>(I k).2):=by refine zw _ _ λk _=>zx rfl rfl ?_;rfl
 have F:=XH (f:=λk=>(I k).1) (g:=λk=>(I k).2) (m:=m) (w:=w) (wd:=wd) (T:=T) Q.pos Q.le ⋯ (λk=>by have:=Y k;omega) (λk i j _ _ _=>J k i j)<|λk i j O B E=>(U k O).1.bg i j B E;rw[oF];refine jm<|zo G ?_;have A:L.length<=lim:=by simp[L];omega
 unfold ie;simp only[vJ,va,qo,x9,qO,ZE,j6,qX,jT,LX,LY,zW,zX,rK,LR,Mf,A,if_true];rw[show z5 1 [] [Cell.val (kn ns),.val<|.int a,.val<|jk p m w wd T,.val (.lst L)]=[Cell.no]from rfl,s,t];simp[F]
end
theorem rh(b:Bool):gv (.str (qA (ft b))) (.str "l")=cq (.bl (!b)):=by
 have e : ∀b:Bool,(qA (ft b)==(Mw "l"))=b:=by decide +kernel
 have I : ∀b:Bool,jn (.str<|qA<|ft b)=cM:=by decide +kernel
 have O:jn (.str (Mw "l"))=cM:=by decide +kernel
 unfold gv;rw[UJ ⟨I b,O⟩];exact congrArg (λb=>cq (D.bl !b))<|e b
theorem gG(b:Bool):gv (.str (qA (ft b))) (.str "r")=cq (.bl b):=by
 have e : ∀b:Bool,(!(qA (ft b)==(Mw "r")))=b:=by decide +kernel
 have I : ∀b:Bool,jn (.str<|qA<|ft b)=cM:=by decide +kernel
 have O:jn (.str (Mw "r"))=cM:=by decide +kernel
 unfold gv;rw[UJ ⟨I b,O⟩];exact congrArg (λb=>cq (D.bl b))<|e b
section
variable{m a b c d:Nat}{w:UK}
theorem uD(Z:m<=5)(C:a<=b)(L:b<=m)(J:c<=d)(S:d<=m):qI [.str (qZ m w),pr a b,pr c d]=cq (.val<|.int<|if u7 w a b c d=cM then 1 else 0):=by
 let f:Ctx:=[Cell.val (.str<|qZ m w),Cell.val<|pr a b,Cell.val<|pr c d,.val<|.int ((max a c:Nat):Int),.val (.int ((min b d:Nat):Int))];have x1:0<max a c->xo (zc 0) (zB vB (zc 3)<|zu<|.int 1) f=cq (.str<|qA<|ft<|w<|max a c - 1):=λh=>by refine wj w ⋯ ⋯ _ _ _ rfl ?_;simp[f];omega
 have U:min b d<m->xo (zc 0) (zc 4) f=cq (.str (qA (ft (w (min b d))))):=λh=>wj w ⋯ h _ _ _ rfl rfl;have Y:yK (ZJ (sB (zB pe (di (zh 1) (zu (.int 0))) (zc 3))) (sB (zB gv (xo (zc 0) (zB vB (zc 3) (zu (.int 1)))) (zu (.str "l"))))) (ZJ (sB (zB pe (di (zh 2) (zu (.int 0))) (zc 3))) (sB (zB gv (xo (zc 0) (zB vB (zc 3) (zu (.int 1)))) (zu (.str "r"))))) f=cq (!p6 w a c):=by
  have O:zB pe (di (zh 1)<|zu<|.int 0) (zc 3) f=cq (.bl<|decide<|a<max a c):=by simp[f,i3]
  have Q:zB pe (di (zh 2)<|zu<|.int 0) (zc 3) f=cq (.bl<|decide<|c<max a c):=by simp[f,i3]
  rw[QL,KS,KS,Xg,Xg,Xg,Xg,O,Q];rcases OD a c with l | l | l
  ·have e:=x1 ⋯
   have I:max a c=c:=by omega
   rw[xc,xc,e,I];simp[l,rh,p6,I];cases w (c - 1)<;>simp<;>omega
  ·subst l
   simp[p6]
  ·have e:=x1 ⋯
   have I:max a c=a:=by omega
   rw[xc,xc,e,I];simp[l,gG,p6,I];cases w (a - 1)<;>simp<;>omega
 have g:yK (ZJ (sB (zB qq (di (zh 1) (zu (.int 1))) (zc 4))) (sB (zB gv (xo (zc 0) (zc 4)) (zu (.str "r"))))) (ZJ (sB (zB qq (di (zh 2) (zu (.int 1))) (zc 4))) (sB (zB gv (xo (zc 0) (zc 4)) (zu (.str "l"))))) f=cq (!o9 w b d):=by
  have O:zB qq (di (zh 1)<|zu<|.int 1) (zc 4) f=cq (.bl<|decide<|min b d<b):=by simp[f,i3]
  have Q:zB qq (di (zh 2)<|zu<|.int 1) (zc 4) f=cq (.bl<|decide<|min b d<d):=by simp[f,i3]
  rw[QL,KS,KS,Xg,Xg,Xg,Xg,O,Q];rcases OD b d with l | l | l
  ·have e:=U ⋯
   have I:min b d=b:=by omega
   rw[xc,xc,e,I];simp[l,rh,o9,I];cases w b<;>simp<;>omega
  ·subst l
   simp[o9]
  ·have e:=U ⋯
   have I:min b d=d:=by omega
   rw[xc,xc,e,I];simp[l,gG,o9,I];cases w d<;>simp<;>omega
 unfold qI;refine jm<|zo (γ':=[Cell.val (.str<|qZ m w),Cell.val<|pr a b,Cell.val<|pr c d,.val<|.int ((max a c:Nat):Int),.no]) (by simp[zZ,Kt,i3])<|zo (γ':=f) (by simp[f,Kr,i3]) ?_;by_cases q:max a c<=min b d
 ·have i : ¬((min b d:Nat):Int)<((max a c:Nat):Int):=by omega
  refine zo (γ':=f) (by rw[y9,Xg,show zB qq (zc 3) (zc 4) f=cq (.bl cR)by simp[f];omega];rfl) ?_;cases h1:p6 w a c with
  | false=>
   rw[jc,y9,Y,h1];simp[u7,h1]
  | true=>
   refine zo (γ':=f) (by rw[y9,Y,h1];rfl) ?_;cases h2:o9 w b d with
   | false=>
    rw[jc,y9,g,h2];simp[u7,h2]
   | true=>
    refine zo (γ':=f) (by rw[y9,g,h2];rfl) ?_;simp[u7,h1,h2];omega
 ·rw[jc,y9,Xg,show zB qq (zc 3) (zc 4) f=cq (.bl cM)by simp[f];omega]
  simp[u7,q]
end
section
variable{α β:Type}
theorem Yi(f g:α->Int) : ∀L:List α,ky (L.map λx=>f x+g x)=ky (L.map f)+ky (L.map g)
 | []=>rfl
 | x::L=>by simp only[Mu,ky,Yi f g L];omega
theorem W3 : ∀L:List α,ky (L.map λ_=>(0:Int))=0
 | []=>rfl
 | x::L=>by simp only[Mu,ky,W3 L];omega
theorem Jr(f:α->β->Int) : ∀(K:List α) (L:List β),ky (K.map λa=>ky<|L.map λb=>f a b)=ky (L.map λb=>ky<|K.map λa=>f a b)
 | [],L=>(W3 L).symm
 | a::K,L=>by simp only[Mu,ky];rw[Jr f K L,Yi]
theorem Yh{K L:List Int}(h:K.Perm L):ky K=ky L:=by
 induction h with
 | nil=>rfl
 | cons x _ I=>simp only[ky,I]
 | swap x y l=>simp only[ky];omega
 | trans _ _ a b=>exact a.trans b
end
theorem yU{h h' g g':UX} : ∀n,(∀k,k<n->h k*g k=h' k*g' k)->off h g n=off h' g' n
 | 0,_=>rfl
 | n+1,e=>by simp only[off];rw[yU n λk I=>e k ⋯,e n ⋯]
theorem YU(h g:UX) : ∀n,off h g (n+1)=h 0*g 0+off (λk=>h<|k+1) (λk=>g<|k+1) n
 | 0=>by simp[off]
 | n+1=>by rw[off,YU h g n,off];omega
theorem V6 : ∀(n:Nat) (h g:UX),off (λk=>h<|n - 1 - k) (λk=>g<|n - 1 - k) n=off h g n
 | 0,_,_=>rfl
 | n+1,h,g=>by
  rw[YU h g n,off,<- V6 n (λk=>h<|k+1) λk=>g (k+1)];have e:off (λk=>h<|n+1 - 1 - k) (λk=>g<|n+1 - 1 - k) n=off (λk=>h<|n - 1 - k+1) (λk=>g<|n - 1 - k+1) n:=yU n λk I=>by rw[show n+1 - 1 - k=n - 1 - k+1 by omega]
  rw[e,show n+1 - 1 - n=0 by omega];omega
noncomputable def l8(w:UK)(b c:Int×Int):Int:=if u7 w b.1.toNat b.2.toNat c.1.toNat c.2.toNat=cM then 1 else 0
theorem ng{n:Int}{b:Int×Int}(h:vY n b):D.tup [.int b.1,.int b.2]=pr b.1.toNat b.2.toNat:=by obtain⟨a,d,_⟩:=h;unfold pr;rw[Pp a,Pp ⋯]
section
variable{p:Int}{m:Nat}{w:UK}{wd1 wd2:UX}{T1 T2:UW}{bs nr kr:List (Int×Int)}{c:Int×Int}{UP UR U0 U1:List TB}
theorem GV(Q:m<=5){b:Int×Int}(I:vY ((m+1:Nat):Int) b)(O:vY ((m+1:Nat):Int) c):kx [.str (qZ m w),.tup [.int b.1,.int b.2],.tup [.int c.1,.int c.2]]=cq (.val<|.int<|l8 w b c):=by rw[ng I,ng O];obtain⟨a,d,U⟩:=I;obtain⟨Y,g2,g3⟩:=O;exact K0 Q ⋯ ⋯ ⋯ ⋯
theorem uC(Q:m<=5){b:Int×Int}(I:vY ((m+1:Nat):Int) b)(O:vY ((m+1:Nat):Int) c):qI [.str (qZ m w),.tup [.int b.1,.int b.2],.tup [.int c.1,.int c.2]]=cq (.val<|.int<|l8 w b c):=by rw[ng I,ng O];obtain⟨a,d,U⟩:=I;obtain⟨Y,g2,g3⟩:=O;exact uD Q ⋯ ⋯ ⋯ ⋯
theorem uG(I:m<=5)(h : ∀b∈bs,vY ((m+1:Nat):Int) b)(O:bs.length<=lim)(Q:vY ((m+1:Nat):Int) c):kK [.str (qZ m w),.lst<|zT bs,.tup [.int c.1,.int c.2]]=cq (.val<|.int<|ky<|bs.map λb=>l8 w b c):=by
 have d:zP (.nm 0) jd (zA kx<|zb (zc 1)<|zb (zc 0)<|zb (zc 2) zD) [Cell.no,.val<|.str<|qZ m w,.val (.tup [.int c.1,.int c.2])] (zT bs)=cq (bs.map λb=>D.int<|l8 w b c):=by unfold zT;exact zw _ _ λb U=>zx (γ1:=[.val (.tup [.int b.1,.int b.2]),.val<|.str<|qZ m w,.val (.tup [.int c.1,.int c.2])]) rfl rfl (by simp[GV I (h b U) Q])
 have Y:(zT bs).length<=lim:=by simpa using O
 have e:W4 (bs.map λb=>D.int<|l8 w b c)=cq (ky<|bs.map λb=>l8 w b c):=by rw[<- we,MB];rfl
 unfold kK;refine jm ?_;have a:zN (zh 1) [Cell.val (.str<|qZ m w),.val<|.lst<|zT bs,.val (.tup [.int c.1,.int c.2])]=cq (zT bs):=rfl;show j7 _ [Cell.val (.str<|qZ m w),.val<|.lst<|zT bs,.val (.tup [.int c.1,.int c.2])]=_;rw[vJ,Vw,xt,j6,a];simp only[LR,Y,if_true];rw[show z5 1 [0,2] [Cell.val (.str<|qZ m w),.val<|.lst<|zT bs,.val (.tup [.int c.1,.int c.2])]=[Cell.no,.val<|.str<|qZ m w,.val (.tup [.int c.1,.int c.2])]from rfl,d];simp[e]
theorem KL(O:m<=5)(J : ∀b∈nr,vY ((m+1:Nat):Int) b)(L : ∀b∈kr,vY ((m+1:Nat):Int) b)(Q:nr.length<=lim)(S:kr.length<=lim)(C:jZ [jk p m w wd1 T1]=cq (.val<|qF nr UP U0))(U:jZ [jk p m w wd2 T2]=cq (.val<|qF kr UR U1)) :
 qe [jk p m w wd1 T1,jk p m w wd2 T2]=cq (.val<|.int<|ky<|kr.map λc=>ky<|nr.map λb=>l8 w b c):=by
 have Y:=(Vv (p:=p) (w:=w) (wd:=wd1) (T:=T1) (wd':=wd2) (T':=T2)<|show m<=900 by omega).2;have k:=kQ (p:=p) (w:=w) (wd:=wd1) (T:=T1) (show m<=900 by omega);let I:=jk p m w wd1 T1;let R2:=jk p m w wd2 T2;have f:zP (.nm 0) jd (zA kK<|zb (zA xu<|zb (zc 1) zD)<|zb (zc 2)<|zb (zc 0) zD) [Cell.no,.val I,.val (.lst<|zT nr)] (zT kr)=cq (kr.map λc=>D.int<|ky<|nr.map λb=>l8 w b c):=by
  conv=>lhs;unfold zT
  exact zw _ _ λc g=>zx (γ1:=[.val (.tup [.int c.1,.int c.2]),.val I,.val (.lst<|zT nr)]) rfl rfl (by simp[I,k,uG O J Q (L c g)])
 have d:(zT kr).length<=lim:=by simpa using S
 have j:W4 (kr.map λc=>D.int<|ky<|nr.map λb=>l8 w b c)=cq (ky<|kr.map λc=>ky<|nr.map λb=>l8 w b c):=by rw[<- we,MB];rfl
 have h:jZ [I]=cq (.val<|qF nr UP U0):=C;have i:jZ [R2]=cq (.val<|qF kr UR U1):=U;have e:qx [I,R2]=cq (.val .ez):=Y;show qe [I,R2]=_
 clear_value I R2
 unfold qe;refine jm<|zo (γ':=[.val I,.val R2,.no]) (by simp[zZ,e])<|zo (γ':=[.val I,.val R2,.val (.lst<|zT nr)]) (by simp[h,qF,i3]) ?_;have a:zN (zR<|di (zR<|zA jZ<|zb (zc 1) zD)<|zu<|.int 0) [Cell.val I,.val R2,.val (.lst<|zT nr)]=cq (zT kr):=by simp[i,qF,i3]
 rw[vJ,Vw,xt,j6,a];simp only[LR,d,if_true];rw[show z5 1 [0,2] [Cell.val I,.val R2,.val (.lst<|zT nr)]=[Cell.no,.val I,.val (.lst<|zT nr)]from rfl,f];simp[j]
theorem Kh(U:m<=4)(Y : ∀k,wd1 k<=100)(C : ∀k,wd2 k<=100):kL [jk p m w wd1 T1,jk p m w wd2 T2]=cq (.val<|.int<|(off wd2 wd1 (m+1):Int) - (off (gm w wd2) (f7 w wd1) m:Int)):=by have O:=(Vv (p:=p) (w:=w) (wd:=wd1) (T:=T1) (wd':=wd2) (T':=T2)<|show m<=900 by omega).2;have Q:=Kd (p:=p) (w:=w) (wd:=wd2) (T:=T2) (wd':=wd1) (T':=T1) U;have I:=sQ (p:=p) (w:=w) (wd:=wd2) (T:=T2) (wd':=wd1) (T':=T1) U;have a:=wF (hs:=wd2) (ws:=wd1) (n:=m+1) ⋯ Y;have b:=wF (hs:=gm w wd2) (ws:=f7 w wd1) (n:=m) ⋯ (λk=>by unfold f7;split<;>exact Y _);have e:Yq m w wd2 wd1=A3 m (gm w wd2) (f7 w wd1):=rfl;rw[e]at I;generalize jk p m w wd1 T1=R1 at O Q I;generalize jk p m w wd2 T2=R2 at O Q I;unfold kL;refine jm<|zo (γ':=[.val R1,.val R2]) (by simp[zZ,O]) ?_;simp[Q,I,a,b]
theorem VE(O:m<=4){x y:Int}{I R2:D}(C:qe [I,R2]=cq (.val<|.int x))(J:kL [I,R2]=cq (.val<|.int y)):xi [I,R2]=cq (.val<|.int<|x - y):=by unfold xi;refine jm ?_;simp[zZ,C,J]
end
noncomputable def K1(m:Nat)(b:Int×Int):Int×Int:=((m:Int) - b.2,(m:Int) - b.1)
section
variable{p:Int}{m N:Nat}{w:UK}{wd:UX}{T:UW}{A:Nat->eA}{bs:List (Int×Int)}{b c:Int×Int}
theorem Ai:l8 (λk=> !w k) c b=l8 w b c:=by
 have l : ∀a c:Nat,p6 (λk=> !w k) c a=p6 w a c:=λa c=>by
  unfold p6;rw[Nat.max_comm c a];by_cases h:a=c
  ·simp[h]
  ·have e:decide (c<a) = !decide (a<c):=by rw[NV];simp;omega
   have d:decide (a=c)=cR:=decide_eq_false h;have I:decide (c=a)=cR:=decide_eq_false λz=>h z.symm;rw[e,d,I];show(cR || (!w (max a c - 1)) == !decide (a<c))=_;cases w (max a c - 1)<;>cases decide (a<c)<;>rfl
 have r : ∀a c:Nat,o9 (λk=> !w k) c a=o9 w a c:=λa c=>by
  unfold o9;rw[Nat.min_comm c a];by_cases h:a=c
  ·simp[h]
  ·have e:decide (c<a) = !decide (a<c):=by rw[NV];simp;omega
   have d:decide (a=c)=cR:=decide_eq_false h;have I:decide (c=a)=cR:=decide_eq_false λz=>h z.symm;rw[e,d,I];show(cR || (!w (min a c)) == !decide (a<c))=_;cases w (min a c)<;>cases decide (a<c)<;>rfl
 unfold l8 u7;rw[l,r,Nat.max_comm,Nat.min_comm]
theorem Aj(U:vY ((m+1:Nat):Int) b)(Y:vY ((m+1:Nat):Int) c):l8 (λk=> !w (m - 1 - k)) (K1 m b) (K1 m c)=l8 w b c:=by
 obtain⟨b1,b2⟩:=b;obtain⟨O,I⟩:=c;obtain⟨g,i,j⟩:=U;obtain⟨g1,g2,g3⟩:=Y;dsimp only at g i j g1 g2 g3;unfold l8 K1;dsimp only;rw[show((m:Int) - b2).toNat=m - b2.toNat by omega,show((m:Int) - b1).toNat=m - b1.toNat by omega,show((m:Int) - I).toNat=m - I.toNat by omega,show((m:Int) - O).toNat=m - O.toNat by omega];have x1:b1.toNat<=b2.toNat:=by omega
 have n:b2.toNat<=m:=by omega
 have x3:O.toNat<=I.toNat:=by omega
 have o:I.toNat<=m:=by omega
 generalize b1.toNat=a at x1;generalize b2.toNat=b at x1 n;generalize O.toNat=c at x3;generalize I.toNat=d at x3 o;have l:p6 (λk=> !w (m - 1 - k)) (m - b) (m - d)=o9 w b d:=by
  unfold p6 o9;by_cases h:b=d
  ·simp[h]
  ·have f:decide (m - b=m - d)=cR:=decide_eq_false ⋯
   have Q:decide (b=d)=cR:=decide_eq_false h;have e:decide (m - b<m - d) = !decide (b<d):=by rw[NV];simp;omega
   show(decide (m - b=m - d) || (!w (m - 1 - (max (m - b) (m - d) - 1)))==decide (m - b<m - d))=_;rw[f,Q,e,show m - 1 - (max (m - b) (m - d) - 1)=min b d by omega];cases w (min b d)<;>cases decide (b<d)<;>rfl
 have r:o9 (λk=> !w (m - 1 - k)) (m - a) (m - c)=p6 w a c:=by
  unfold p6 o9;by_cases h:a=c
  ·simp[h]
  ·have f:decide (m - a=m - c)=cR:=decide_eq_false ⋯
   have Q:decide (a=c)=cR:=decide_eq_false h;have e:decide (m - a<m - c) = !decide (a<c):=by rw[NV];simp;omega
   show(decide (m - a=m - c) || (!w (m - 1 - min (m - a) (m - c)))==decide (m - a<m - c))=_;rw[f,Q,e,show m - 1 - min (m - a) (m - c)=max a c - 1 by omega];cases w (max a c - 1)<;>cases decide (a<c)<;>rfl
 unfold u7;rw[l,r];have q:decide (max (m - b) (m - d)<=min (m - a) (m - c))=decide (max a c<=min b d):=by rw[NV];simp;omega
 rw[q,Bool.and_comm (o9 w b d)]
theorem Wx(I:Pr p)(O : ∀k,wd k<=8)(Q:m<=5)(U : ∀k i j,0<=T k i j/\T k i j<p)(D:nf p w wd T m N A) : ∃ts us,jZ [jk p m w wd T]=cq (.val<|qF (qR<|qg A N) ts us):=by
 obtain⟨Y,a,ts,us,_,b,M8,_,_,_,_,d,_⟩:=dg (w:=w) (wd:=wd) (T:=T) (m:=m) I O Q λk i j _ _ _=>U k i j;refine⟨ts,us,?_⟩;have e : ∀(X:Nat->eA) (M:Nat),qg X M=(om X M).map λs=>((s.1:Int),(s.2:Int)):=λX M=>by unfold qg om;rw[MB];rfl
 have f:(qg a Y).Perm (qg A N):=by rw[e,e];exact(gd I b D).map _
 rw[d,<- M8,vM f]
theorem gL(D:nf p w wd T m N A):qg (λj=>Gn m<|A j) N=(qg A N).map (K1 m):=by unfold qg;rw[MB];refine Md λj I=>?_;have o:=D.ok j<|LO.mp I;have a:=o.n1;have b:=o.le;show(((m+1 - ((A j).s+(A j).n):Nat):Int),((m+1 - ((A j).s+(A j).n)+(A j).n - 1:Nat):Int))=((m:Int) - (((A j).s+(A j).n - 1:Nat):Int),(m:Int) - ((A j).s:Int));rw[show((m+1 - ((A j).s+(A j).n):Nat):Int)=(m:Int) - (((A j).s+(A j).n - 1:Nat):Int)by omega,show((m+1 - ((A j).s+(A j).n)+(A j).n - 1:Nat):Int)=(m:Int) - ((A j).s:Int)by omega]
theorem og(h : ∀b∈bs,vY ((m+1:Nat):Int) b):qg (Wh (bS bs) (bE bs) bs.length) bs.length=bs:=by
 conv=>rhs;rw[Al h]
 unfold qg;refine Md λj I=>?_;have:=(ph h<|LO.mp I).2.1;show((bS bs j:Int),((bS bs j+(bE bs j - bS bs j+1) - 1:Nat):Int))=_;rw[show bS bs j+(bE bs j - bS bs j+1) - 1=bE bs j by omega]
theorem pf(bs:List (Int×Int))(k:Nat):bW bs k<=bs.length:=by unfold bW lU qy;exact Nv (PX _ _) ⋯
theorem ib(I:Pr p)(O:m<=5)(h : ∀b∈bs,vY ((m+1:Nat):Int) b)(U:qR bs=bs)(C:bs.length<=4){f g:UW}(Y : ∀k,k<m+1->Pair p (bW bs k) (f k) (g k)) :
 (∃ts us,jZ [jk p m w (bW bs) (jl p w (bW bs) f g<|bT w bs)]=cq (.val<|qF bs ts us))/\
 (∃ts us,jZ [jk p m (λk=> !w k) (bW bs) λk i j=>jl p w (bW bs) f g (bT w bs) k j i]=cq (.val<|qF bs ts us))/\
 (∃ts us,jZ [jk p m (λk=> !w (m - 1 - k)) (λk=>bW bs<|m - k) λk=>jl p w (bW bs) f g (bT w bs) (m - 1 - k)]=cq (.val<|qF (qR<|bs.map<|K1 m) ts us)):=by
 have e:=I.pos;have a : ∀k,bW bs k<=8:=λk=>by have:=pf bs k;omega
 have n:=oh (p:=p) (w:=w) (m:=m) I λj s=>(ph h s).2;have D:=dO e (λr t=>(Y r ⋯).fg) (λr t=>(Y r ⋯).gf) n;have Q:=λk i j=>WX e w (bW bs) f g (bT w bs) k i j;have d:qg (λj=>X0 p (bW bs) f<|Wh (bS bs) (bE bs) bs.length j) bs.length=bs:=og h;refine⟨?_,?_,?_⟩
 ·have:=Wx I a O Q D
  rwa [d,U]at this
 ·obtain⟨o,l⟩:=iE I a D
  have:=Wx I a O (λk i j=>Q k j i) l
  rwa [show qg (cX (λj=>X0 p (bW bs) f<|Wh (bS bs) (bE bs) bs.length j) bs.length o) bs.length=bs from d,U]at this
 ·have:=Wx I (λk=>a _) O (λk i j=>Q _ i j) (nX D)
  rwa [gL D,d]at this
end
theorem rW:QP=jo 13 (zM si<|zM sg<|zM sf<|zM se<|zM sd<|zM sa<|zM rZ<|zM rY<|zM rX<|zM WT<|zM dG<|zM dF<|zM dE<|zM dD<|zM dC<|zM WS dB):=rfl
section
variable{p:Int}{m:Nat}{w:UK}{wd1 wd2:UX}{nr kr:List (Int×Int)}
theorem rD(hm:m<=5)(h2 : ∀c∈kr,vY ((m+1:Nat):Int) c)(l2:kr.length<=lim)(I O Q U J S Z:Cell) : ∀(L:List (Int×Int)) (x:Int) (C:Cell),(∀b∈L,vY ((m+1:Nat):Int) b)->∃Y,
 qQ (.nm 10) (jB 9<|zB qD (zc 9)<|bU<|jt<|zK (zN<|zh 6) (.nm 0) 1 [4,10] jd (zA qI<|zb (zc 1)<|zb (zc 2)<|zb (zc 0) zD)) (zT L) [I,O,Q,U,.val<|.str<|qZ m w,J,.val<|.lst<|zT kr,S,Z,.val<|.int x,C,.no,.no]
  = cq (.next [I,O,Q,U,.val<|.str<|qZ m w,J,.val<|.lst<|zT kr,S,Z,.val<|.int<|x+ky (L.map λb=>ky<|kr.map λc=>l8 w b c),Y,.no,.no])
 | [],x,C,_=>⟨C,by simp[zT,qQ,ky]⟩
 | b::L,x,C,h=>by
  obtain⟨Y,e⟩:=rD hm h2 l2 I O Q U J S Z L (x+ky (kr.map λc=>l8 w b c)) (.val<|.tup [.int b.1,.int b.2]) λy j=>h y<|Mg _ j;refine⟨Y,?_⟩;have g:=h b Mh;have f:zP (.nm 0) jd (zA qI<|zb (zc 1)<|zb (zc 2)<|zb (zc 0) zD) [Cell.no,.val<|.str<|qZ m w,.val (.tup [.int b.1,.int b.2])] (zT kr)=cq (kr.map λc=>D.int<|l8 w b c):=by unfold zT;exact zw _ _ λc i=>zx (γ1:=[.val (.tup [.int c.1,.int c.2]),.val<|.str<|qZ m w,.val (.tup [.int b.1,.int b.2])]) rfl rfl (by simp[uC hm g (h2 c i)])
  have d:(zT kr).length<=lim:=by simpa using l2
  have k:W4 (kr.map λc=>D.int<|l8 w b c)=cq (ky<|kr.map λc=>l8 w b c):=by rw[<- we,MB];rfl
  let a:Ctx:=[I,O,Q,U,.val<|.str<|qZ m w,J,.val<|.lst<|zT kr,S,Z,.val<|.int x,.val<|.tup [.int b.1,.int b.2],.no,.no];have v:bU (jt<|zK (zN<|zh 6) (.nm 0) 1 [4,10] jd (zA qI<|zb (zc 1)<|zb (zc 2)<|zb (zc 0) zD)) a=cq (.int<|ky<|kr.map λc=>l8 w b c):=by rw[Vw,xt,j6,show zN (zh 6) a=cq (zT kr)from rfl];simp only[LR,d,if_true];rw[show z5 1 [4,10] a=[Cell.no,.val<|.str<|qZ m w,.val (.tup [.int b.1,.int b.2])]from rfl,f];simp[k]
  rw[show zT (b::L)=D.tup [.int b.1,.int b.2]::zT L from rfl,jF,show xG (.nm 10) (D.tup [.int b.1,.int b.2]) [I,O,Q,U,.val<|.str<|qZ m w,J,.val<|.lst<|zT kr,S,Z,.val<|.int x,C,.no,.no]=cq a from rfl,LR,ZD,xc,v];rw[Mu,ky,<- Int.add_assoc,<- e];rfl
theorem iR(nr kr:List (Int×Int)):ky (nr.map λc=>ky<|kr.map λb=>l8 (λk=> !w k) b c)=ky (nr.map λb=>ky<|kr.map λc=>l8 w b c):=by refine congrArg ky<|Md λb _=>congrArg ky<|Md λc _=>Ai
theorem iS(C : ∀b∈nr,vY ((m+1:Nat):Int) b)(h2 : ∀b∈kr,vY ((m+1:Nat):Int) b):ky ((qR<|kr.map<|K1 m).map λc=>ky<|(qR<|nr.map<|K1 m).map λb=>l8 (λk=> !w (m - 1 - k)) b c)=ky (nr.map λb=>ky<|kr.map λc=>l8 w b c):=by rw[Yh ((qJ<|kr.map<|K1 m).map _),MB,Jr];refine congrArg ky<|Md λc I=>?_;show ky ((qR<|nr.map<|K1 m).map λb=>l8 (λk=> !w (m - 1 - k)) b<|K1 m c)=_;rw[Yh ((qJ<|nr.map<|K1 m).map _),MB];exact congrArg ky<|Md λb O=>Aj (C b O)<|h2 c I
theorem fS:((off wd1 wd2 (m+1):Int) - (off (gm (λk=> !w k) wd1) (f7 (λk=> !w k) wd2) m:Int))=(off wd2 wd1 (m+1):Int) - (off (gm w wd2) (f7 w wd1) m:Int):=by
 rw[yU (h:=wd1) (g:=wd2) (h':=wd2) (g':=wd1) (m+1) λk _=>PZ _ _,yU (h:=gm (λk=> !w k) wd1) (g:=f7 (λk=> !w k) wd2) (h':=gm w wd2) (g':=f7 w wd1) m λk _=>by unfold gm f7;by_cases h:w k=cM<;>simp[h,PZ]]
theorem fU:((off (λk=>wd2<|m - k) (λk=>wd1<|m - k) (m+1):Int) - (off (gm (λk=> !w (m - 1 - k)) λk=>wd2<|m - k) (f7 (λk=> !w (m - 1 - k)) λk=>wd1<|m - k) m:Int))=(off wd2 wd1 (m+1):Int) - (off (gm w wd2) (f7 w wd1) m:Int):=by have a:off (λk=>wd2<|m - k) (λk=>wd1<|m - k) (m+1)=off wd2 wd1 (m+1):=V6 (m+1) wd2 wd1;rw[a,<- V6 m (gm w wd2) (f7 w wd1),yU (h':=λk=>gm w wd2<|m - 1 - k) (g':=λk=>f7 w wd1<|m - 1 - k) m λk I=>?_];unfold gm f7;dsimp only;rw[show m - (k+1)=m - 1 - k by omega,show m - 1 - k+1=m - k by omega];by_cases h:w (m - 1 - k)=cM<;>simp[h]
end
theorem Gy(J:List Int)(C:J.length<=63):QP [kn J]=cq (.val<|.bl cM):=by
 have hl:=jy;obtain⟨e1,R,b1⟩:=KP C (k:=0) ⋯ ⋯;generalize xQ J 0=c at e1 R b1;obtain⟨q,y,ep,bi⟩:=BO R;have p0:=y.pos;obtain⟨m,em,hm⟩ : ∃m:Nat,1+c/4%4=1+(m:Int)/\m<=3:=⟨(c/4%4).toNat,by omega,by omega⟩;obtain⟨n1,bn,d2⟩ : ∃n:Nat,c/20%5=(n:Int)/\n<=4:=⟨(c/20%5).toNat,by omega,by omega⟩;obtain⟨n2,bx,d3⟩ : ∃n:Nat,c/120%5=(n:Int)/\n<=4:=⟨(c/120%5).toNat,by omega,by omega⟩;obtain⟨w,ew⟩:=AJ C (m:=m) ⋯;have c1:((m+1:Nat):Int)=1+(m:Int):=by omega
 obtain⟨d,r1,o,l1,UA⟩:=rJ C (a:=10) ⋯ ⋯ (r:=m+1) (n:=n1) ⋯ ⋯ ⋯;obtain⟨e,r2,s,l2,M8⟩:=rJ C (a:=130) ⋯ ⋯ (r:=m+1) (n:=n2) ⋯ ⋯ ⋯;rw[c1]at r1 r2;have w1 : ∀k,bW d k<=4:=λk=>by have:=pf d k;omega
 have w2 : ∀k,bW e k<=4:=λk=>by have:=pf e k;omega
 have ca:qc [.int q,.str<|qZ m w,.lst (zT d)]=cq (.val<|jk q m w (bW d)<|bT w d):=by rw[xZ ⋯ ⋯,rG o]
 have cb:qc [.int q,.str<|qZ m w,.lst (zT e)]=cq (.val<|jk q m w (bW e)<|bT w e):=by rw[xZ ⋯ ⋯,rG s]
 obtain⟨O,Q,cd,ce⟩:=Y8 (a:=20) ⋯ ⋯ (w:=w) (wd:=bW d) (T:=bT w d) C y (show m<=5 by omega) (λk=>by have:=w1 k;omega)<|aK y;obtain⟨Y,g2,ch,ci⟩:=Y8 (a:=140) ⋯ ⋯ (w:=w) (wd:=bW e) (T:=bT w e) C y (show m<=5 by omega) (λk=>by have:=w2 k;omega)<|aK y;obtain⟨⟨_,_,cj⟩,⟨_,_,X⟩,⟨_,_,Z⟩⟩:=ib (w:=w) y (show m<=5 by omega) o UA ⋯ cd;obtain⟨⟨_,_,cl⟩,⟨_,_,cm⟩,⟨_,_,co⟩⟩:=ib (w:=w) y (show m<=5 by omega) s M8 ⋯ ch;have wl : ∀(bs:List (Int×Int)),bs.length<=4->∀k,bW bs k<=100:=λbs h k=>by have:=pf bs k;omega
 have wM : ∀{bs:List (Int×Int)},(∀b∈bs,vY ((m+1:Nat):Int) b)->∀b∈qR (bs.map<|K1 m),vY ((m+1:Nat):Int) b:=λh b hb=>by obtain⟨x,hx,rfl⟩:=Mk.mp<|(qJ _).mem_iff.mp hb;obtain⟨x1,x2,x3⟩:=h x hx;exact⟨by show(0:Int)<=(m:Int) - x.2;omega,by show(m:Int) - x.2<=(m:Int) - x.1;omega,by show(m:Int) - x.1<_;omega⟩
 have lM : ∀(bs:List (Int×Int)),(qR<|bs.map<|K1 m).length=bs.length:=λbs=>by rw[(qJ _).length_eq,Mm]
 have E:=KL (show m<=5 by omega) o s ⋯ ⋯ cj cl;have B:=KL (show m<=5 by omega) s o ⋯ ⋯ cm X;have A:=KL (show m<=5 by omega) (wM o) (wM s) (by rw[lM];omega) (by rw[lM];omega) Z co;have pR:=Kh (p:=(q:Int)) (w:=w) (T1:=jl q w (bW d) O Q<|bT w d) (T2:=jl q w (bW e) Y g2<|bT w e) (show m<=4 by omega) (wl d ⋯)<|wl e ⋯;have pO:=Kh (p:=(q:Int)) (w:=λk=> !w k) (T1:=λk i j=>jl q w (bW e) Y g2 (bT w e) k j i) (T2:=λk i j=>jl q w (bW d) O Q (bT w d) k j i) (show m<=4 by omega) (wl e ⋯)<|wl d ⋯;have pM:=Kh (p:=(q:Int)) (w:=λk=> !w (m - 1 - k)) (wd1:=λk=>bW d<|m - k) (wd2:=λk=>bW e<|m - k) (T1:=λk=>jl q w (bW d) O Q (bT w d)<|m - 1 - k) (T2:=λk=>jl q w (bW e) Y g2 (bT w e)<|m - 1 - k) (show m<=4 by omega) (λk=>wl d ⋯ _)<|λk=>wl e ⋯ _;rw[Jr]at E;rw[iR]at B;rw[iS o s]at A;rw[fS]at pO;rw[fU]at pM;have L:=w4 (p:=(q:Int)) (m:=m) w (bW d) (jl q w (bW d) O Q<|bT w d) ⋯ (λk=>by have:=w1 k;omega);have o2:=w4 (p:=(q:Int)) (m:=m) w (bW e) (jl q w (bW e) Y g2<|bT w e) ⋯ (λk=>by have:=w2 k;omega);have K:=w5 (p:=(q:Int)) (m:=m) w (bW d) (jl q w (bW d) O Q<|bT w d) ⋯;have i2:=w5 (p:=(q:Int)) (m:=m) w (bW e) (jl q w (bW e) Y g2<|bT w e) ⋯;have P:=VE (m:=m) ⋯ E pR;have N:=VE (m:=m) ⋯ B pO;have M:=VE (m:=m) ⋯ A pM;obtain⟨f,F⟩:=rD (w:=w) (m:=m) ⋯ s ⋯ (.val<|kn J) (.val<|.int c) (.val<|.int q) (.val<|.int<|1+(m:Int)) (.val<|.lst<|zT d) (.val<|jk q m w (bW d)<|jl q w (bW d) O Q<|bT w d) (.val<|jk q m w (bW e)<|jl q w (bW e) Y g2<|bT w e) d 0 .no o;rw[Int.zero_add]at F;generalize ky (d.map λb=>ky<|e.map λc=>l8 w b c)=S at E B A P N M F;generalize S - ((off (bW e) (bW d) (m+1):Int) - (off (gm w<|bW e) (f7 w<|bW d) m:Int))=U at P N M;generalize jk q m w (bW d) (jl q w (bW d) O Q<|bT w d)=R1 at *;generalize jk q m w (bW e) (jl q w (bW e) Y g2<|bT w e)=R2 at *;generalize (jk q m (λk=> !w k) (bW d) λk i j=>jl q w (bW d) O Q (bT w d) k j i)=O1 at *;generalize (jk q m (λk=> !w k) (bW e) λk i j=>jl q w (bW e) Y g2 (bT w e) k j i)=O2 at *;generalize (jk q m (λk=> !w (m - 1 - k)) (λk=>bW d<|m - k) λk=>jl q w (bW d) O Q (bT w d)<|m - 1 - k)=M1 at *;generalize (jk q m (λk=> !w (m - 1 - k)) (λk=>bW e<|m - k) λk=>jl q w (bW e) Y g2 (bT w e)<|m - 1 - k)=M2 at *;let g:Cell->Cell->Cell->Cell->Cell->Cell->Cell->Cell->Cell->Cell->Cell->Ctx:=λc2 c3 c4 c5 c6 c7 c8 H f t G=>[.val (kn J),.val<|.int c,c2,c3,c4,c5,c6,c7,c8,H,f,t,G];let l:D:= .lst (zT d);let z:D:= .lst (zT e);let W:D:= .str (qZ m w);let I:Cell->Cell->Cell->Cell->Ctx:=λH f t G=>g (.val<|.int q) (.val<|.int<|1+(m:Int)) (.val W) (.val l) (.val z) (.val R1) (.val R2) H f t G;have cv:WT (I (.val<|.int 0) .no .no .no)=cq (.next<|I (.val<|.int S) f .no .no):=by unfold WT;rw[XT,show zN (zR<|zc 5) (I (.val<|.int 0) .no .no .no)=cq (zT d)from rfl];exact F
 have cw:WS (I (.val<|.int S) f (.val<|.int U)<|.val<|.int (m:Int))=cq (.next<|I (.val<|.int S) f (.val<|.int U)<|.val<|.int (m:Int)):=by
  have go:zP (.tp [0,1]) jd (xk<|zb (zB vB (zc 2)<|zc 1)<|zb (zB vB (zc 2)<|zc 0) zD) [Cell.no,.no,.val (.int (m:Int))] (zT d)=cq (zT<|d.map<|K1 m):=by unfold zT;rw[MB];exact zw _ _ λb hb=>zx (γ1:=[.val (.int b.1),.val<|.int b.2,.val (.int (m:Int))]) rfl rfl (by simp[K1])
  have cy:(zT d).length<=lim:=by simp;omega
  have v:qf (JA<|jt<|zK (zN<|zh 5) (.tp [0,1]) 2 [12] jd (xk<|zb (zB vB (zc 2)<|zc 1)<|zb (zB vB (zc 2)<|zc 0) zD)) (I (.val<|.int S) f (.val<|.int U)<|.val<|.int (m:Int))=cq (.lst<|zT<|qR<|d.map<|K1 m):=by rw[ZE,bt,xt,j6,show zN (zh 5) (I (.val<|.int S) f (.val<|.int U)<|.val<|.int (m:Int))=cq (zT d)from rfl];simp only[LR,cy,if_true];rw[show z5 2 [12] (I (.val<|.int S) f (.val<|.int U)<|.val<|.int (m:Int))=[Cell.no,.no,.val (.int (m:Int))]from rfl,go];simp[Jx (show(d.map<|K1 m).length<64 by simp;omega)]
  have u:di (zR<|zA jZ<|zb (zA qM<|zb (zc 7) zD) zD) (zu<|.int 0) (I (.val<|.int S) f (.val<|.int U)<|.val<|.int (m:Int))=cq (.lst<|zT<|qR<|d.map<|K1 m):=by simp[I,g,K,Z,qF,i3]
  unfold WS;rw[y9,Xg,xc,u,v];simp[KJ (vm _)]
 rw[rW];refine jm<|zo (γ':=g .no .no .no .no .no .no .no .no .no .no .no) (by simp[si,zZ,e1,g])<|zo (γ':=g (.val<|.int q) .no .no .no .no .no .no .no .no .no .no) (by simp[sg,g,bi,ep])<|zo (γ':=g (.val<|.int q) (.val<|.int<|1+(m:Int)) .no .no .no .no .no .no .no .no .no) (by simp[sf,g,em])<|zo (γ':=g (.val<|.int q) (.val<|.int<|1+(m:Int)) (.val W) .no .no .no .no .no .no .no .no) (by simp[se,g,ew,W])<|zo (γ':=g (.val<|.int q) (.val<|.int<|1+(m:Int)) (.val W) (.val l) .no .no .no .no .no .no .no) (by simp[sd,g,bn,r1,l])<|zo (γ':=g (.val<|.int q) (.val<|.int<|1+(m:Int)) (.val W) (.val l) (.val z) .no .no .no .no .no .no) (by simp[sa,g,bx,r2,z])<|zo (γ':=g (.val<|.int q) (.val<|.int<|1+(m:Int)) (.val W) (.val l) (.val z) (.val R1) .no .no .no .no .no) (by simp[rZ,g,W,l,ca,ce])<|zo (γ':=I .no .no .no .no) (by simp[rY,I,g,W,z,cb,ci])<|zo (γ':=I (.val<|.int 0) .no .no .no) (by simp[rX,I,g])<|zo cv<|zo (γ':=I (.val<|.int S) f .no .no) (by simp[dG,I,g,E,B,L,o2])<|zo (γ':=I (.val<|.int S) f .no .no) (by simp[dF,I,g,A,K,i2])<|zo (γ':=I (.val<|.int S) f (.val<|.int U) .no) (by simp[dE,I,g,P])<|zo (γ':=I (.val<|.int S) f (.val<|.int U) .no) (by simp[dD,I,g,N,M,L,o2,K,i2])<|zo (γ':=I (.val<|.int S) f (.val<|.int U)<|.val<|.int (m:Int)) (by simp[dC,I,g];omega)<|zo cw ?_;simp[dB,I,g,L,X,qF,i3,l,oT (vm d)]
open PySem.Spec PyProof.Rows
noncomputable def top(i:Nat):PySem.Stmt:=PySem.Challenge.pw_barsplit_k74_whole_ways_seen_from_the_ot.main.body.getD i<|.Pass ⟨0,0,0,0⟩
section
variable{CR CL:PySem.Addr}{P:PySem.Program}{w:PySem.World}{K:LM}{mg:PySem.Str->Option PySem.Value}{base:PySem.Heap}
theorem lT(h:us.length=n+1) : ∃a t,us=a::t/\t.length=n:=by
 cases us with
 | nil=>exact absurd h<|Nat.zero_ne_add_one n
 | cons a t=>exact⟨a,t,rfl,Nat.succ.inj h⟩
theorem LH(h:us.length=1) : ∃a,us=[a]:=by obtain⟨a,O,rfl,I⟩:=lT h;rw[Ni I];exact⟨a,rfl⟩
theorem LG(h:us.length=2) : ∃a b,us=[a,b]:=by obtain⟨a,O,rfl,I⟩:=lT h;obtain⟨b,Q,rfl,d⟩:=lT I;rw[Ni d];exact⟨a,b,rfl⟩
theorem LF(h:us.length=3) : ∃a b c,us=[a,b,c]:=by obtain⟨a,O,rfl,I⟩:=lT h;obtain⟨b,Q,rfl,d⟩:=lT I;obtain⟨c,U,rfl,e⟩:=lT d;rw[Ni e];exact⟨a,b,c,rfl⟩
theorem LD(h:us.length=4) : ∃a b c d,us=[a,b,c,d]:=by obtain⟨a,Q,rfl,I⟩:=lT h;obtain⟨b,U,rfl,e⟩:=lT I;obtain⟨c,Y,rfl,f⟩:=lT e;obtain⟨d,g,rfl,O⟩:=lT f;rw[Ni O];exact⟨a,b,c,d,rfl⟩
structure E0(K:LM)(mg:PySem.Str->Option PySem.Value):Prop where
 Q0:hB K mg "_law_cell" (top 57) ["_law_script","_law_k"]
 Q1:hB K mg "_law_ways" (top 61) ["_law_script","_law_at","_law_many"]
 Q2:hB K mg "_law_bars" (top 62) ["_law_script","_law_at","_law_rooms","_law_many"]
 Q3:hB K mg "_law_times" (top 58) ["_law_p","_law_one","_law_other"]
 Q4:hB K mg "_law_in_turns" (top 65) ["_law_told","_law_turns","_law_backs"]
 Q5:hB K mg "_law_turn" (top 60) ["_law_script","_law_at","_law_p","_law_many"]
 Q6:hB K mg "_law_hidden" (top 66) ["_law_script","_law_at","_law_told"]
 Q7:hB K mg "ways_of" (top 38) ["row"]
 Q8:hB K mg "one_kind" (top 39) ["one","other"]
 Q9:hB K mg "ask_one_kind" (top 40) ["one","other"]
 Qa:hB K mg "behind_noughts" (top 14) ["many","base"]
 Qb:hB K mg "rests" (top 5) ["p","numbers"]
 Qc:hB K mg "inverse" (top 6) ["p","x"]
 Qd:hB K mg "cleared" (top 12) ["p","load","pivot","place"]
 Qe:hB K mg "base_of" (top 13) ["p","long","loads"]
 Qf:hB K mg "turned_over" (top 8) ["table"]
 Qg:hB K mg "same_table" (top 9) ["many"]
 Qh:hB K mg "led_into" (top 15) ["p","table","base"]
 Qi:hB K mg "kernel" (top 16) ["p","table"]
 Qj:hB K mg "image" (top 17) ["p","table"]
 Qk:hB K mg "columns" (top 24) ["high","loads"]
 Ql:hB K mg "has_room" (top 22) ["bar","room"]
 Qm:hB K mg "loads_in" (top 23) ["bars","room"]
 Qn:hB K mg "lead_of" (top 11) ["load"]
 Qo:hB K mg "led" (top 7) ["p","table","load"]
 Qp:hB K mg "mixed_load" (top 25) ["row","bars","times","room"]
 Qq:hB K mg "mixed" (top 26) ["row","bars","times"]
 Qr:hB K mg "settled" (top 27) ["row","k","bars"]
 Qs:hB K mg "solved" (top 18) ["p","table","load"]
 Qt:hB K mg "next_load" (top 28) ["p","arrow","load"]
 Qu:hB K mg "taken_on" (top 29) ["p","arrow","bar"]
 Qv:hB K mg "new_loads" (top 30) ["p","arrow"]
 Qw:hB K mg "grown" (top 31) ["row","k","bars"]
 Qx:hB K mg "stretch_of" (top 21) ["bar"]
 Qy:hB K mg "all_grown" (top 32) ["row"]
 Qz:hB K mg "back_of" (top 19) ["p","table"]
 U5:hB K mg "barred" (top 33) ["row"]
 U6:hB K mg "left_holds" (top 45) ["ways","one","other"]
 U7:hB K mg "right_holds" (top 46) ["ways","one","other"]
 U8:hB K mg "bar_ways" (top 47) ["ways","one","other"]
 U9:hB K mg "ways_into" (top 48) ["ways","bars","bar"]
 X1:hB K mg "count_ways" (top 49) ["one","other"]
 a_:hB K mg "numbers_in" (top 44) ["sizes"]
 b_:hB K mg "room_sizes" (top 42) ["one","other"]
 c_:hB K mg "end_of" (top 36) ["k","way"]
 d_:hB K mg "beginning_of" (top 35) ["k","way"]
 e_:hB K mg "arrow_sizes" (top 43) ["one","other"]
 f_:hB K mg "plain_sum" (top 54) ["upper","under"]
 g_:hB K mg "count_upon" (top 55) ["upper","under"]
 h_:hB K mg "_law_with" (top 63) ["_law_found","_law_room"]
 i_:hB K mg "_law_bar_row" (top 64) ["_law_p","_law_ways_here","_law_found"]
 j':hB K mg "other_way" (top 37) ["way"]
 j_:hB K mg "mirrored" (top 51) ["row"]
 k_:hB K mg "opposite" (top 52) ["row"]
 l_:hB K mg "_law_leads" (top 67) ["_law_ways_here","_law_one","_law_other"]
 m_:hB K mg "law" (top 68) ["_law_script"]
 Z0:mg "len" = cO
 Z1:mg "min" = cO
 Z2:mg "range" = cO
 Z3:mg "sorted" = cO
 Z4:mg "sum" = cO
 Z5:mg "tuple" = cO
 Z6:mg "zip" = cO
 Z7:mg "enumerate" = cO
 Z8:mg "int" = cO
 Z9:mg "any" = cO
 Za:mg "dict" = cO
 Zb:mg "list" = cO
 Zc:mg "max" = cO
 Zd:mg "reversed" = cO
theorem yo(E:E0 K mg):gR P w K mg base 1 "_law_cell" 2 jj:=
 xE (N:=["_law_script","_law_k","_law_cell_here","_law_turn_here","_law_given"]) E.Q0 ⋯ λX O a Q U Y I b=>by subst O a Q U Y;exact by refine zg (qN (QV (Zi (JH (yO I ⋯ E.Z0 (zU I)) zk) (vh (x6 I (qu (zC (zU I) zk) zk) zk)))) (by refine zg (jK I (zC (zU I) (jU zk (qu (zy I) (xP (yO I ⋯ E.Z0 (zU I)) zk))))) ?_;refine zg (yH b I (j9 I ⋯ E.Z2 (aq I ⋯ E.Z1 zk (wx (zy I) (xP (yO I ⋯ E.Z0 (zU I)) zk)))) (zq (jK I (wx (zy I) (fG zk zk))))) ?_;exact(zq (zO (qu (zy I) (fG zk zk))))) jI) ?_;refine zg (jK I (zy I)) ?_;refine zg (qN (JH (yO I ⋯ E.Z0 (zU I)) zk) (zq (jK I (zC (zU I) (qu (zy I) (yO I ⋯ E.Z0 (zU I)))))) jI) ?_;exact(zq (zO (qu (xq (qu (jU (jU (jU (xq (qu (zy I) (fG zk zk)) zk) (xq (xq zk (zy I)) (zy I))) (xq zk (zy I))) zk) zk) zk) zk)))
theorem JO(E:E0 K mg):gR P w K mg base 2 "_law_ways" 3 xO:=
 xE (N:=["_law_script","_law_at","_law_many"]) E.Q1 ⋯ λX O b Q U Y I d=>by subst O b Q U Y;exact zq (zO (fI qz (PO.q (qL I (i0.c (j9 I ⋯ E.Z2 (xP (zy I) zk))) (λ_ _ _ a=>yk qz (qu (wx (zY (yo E) a (za (zy a) (za (jU (zy a) (zy a)) zm))) zk) zk))))))
theorem yR(E:E0 K mg):gR P w K mg base 2 "_law_bars" 4 qU:=
 xE (N:=["_law_script","_law_at","_law_rooms","_law_many","_law_found","_law_k","_law_cell_here","_law_i"]) E.Q2 ⋯ λX O a Q U Y I b=>by subst O a Q U Y;exact by refine zg (Zx I (yP (ya zm))) ?_;refine zg (yH b I (j9 I ⋯ E.Z2 (zy I)) (by refine zg (jK I (zY (yo E) I (za (zy I) (za (jU (zy I) (zy I)) zm)))) ?_;refine zg (jK I (qu (zy I) (zy I))) ?_;exact(zq (JK 4 I ⋯ (j4 (ya (za (zy I) (za (jU (zy I) (qu (wx (zy I) zk) (xP (zy I) (zy I)))) zm)))))))) ?_;exact(zq (qK (ay I ⋯ E.Z3 (zU I))))
theorem yQ(E:E0 K mg):gR P w K mg base 1 "_law_times" 3 jw:=
 xE (N:=["_law_p","_law_one","_law_other","_law_columns_told","_law_rows","_law_row"]) E.Q3 ⋯ λX O d Q U Y I e=>by subst O d Q U Y;exact by refine zg (jC 3 (k7 I (i0.c (j9 I ⋯ E.Z2 (zC (zU I) zk))) (λ_ _ _ a=>PO.v (qL a (ja (PV.q (zC (zU a) zk))) (λ_ _ _ b=>zC (zU b) (zy b)))))) ?_;refine zg (Zx I (yP (ya zm))) ?_;refine zg (yH e I (Kk (zC (zU I) zk)) (zq (JK 4 I ⋯ (jM I ⋯ E.Z5 (PO.q (qL I (ja (zU I)) (λ_ _ _ a=>qu (Xp a ⋯ E.Z4 (PO.q (qL a (i0.c (Zy a ⋯ E.Z6 (zy a) (zy a))) (λ_ _ _ b=>xq (zy b) (zy b))))) (zy a)))))))) ?_;exact(zq (zO (j4 (ya (za (zC (zU I) zk) (za (zC (zU I) zk) (za (jM I ⋯ E.Z5 (zU I)) zm)))))))
theorem wB(E:E0 K mg):gR P w K mg base 2 "_law_in_turns" 3 qp:=
 xE (N:=["_law_told","_law_turns","_law_backs","_law_p","_law_widths","_law_arrows","_law_made","_law_k","_law_pair","_law_begin","_law_end"]) E.Q4 ⋯ λX O a Q U Y I b=>by subst O a Q U Y;exact by refine zg (mW (ID I) (zy I)) ?_;refine zg (Zx I (yP (ya zm))) ?_;refine zg (yH b I (YI I ⋯ E.Z7 (zy I)) (by refine zg (jK I (jU (zy I) (vP I ⋯ E.Z8 (ZK I (zC (zU I) zk) qz)))) ?_;refine zg (jK I (jU (zy I) (vP I ⋯ E.Z8 (ZK I (zC (zU I) zk) qz)))) ?_;exact(zq (JK 6 I ⋯ (j4 (ya (za (zC (zU I) zk) (za (zY (yQ E) I (za (zy I) (za (zY (yQ E) I (za (zy I) (za (zC (zU I) (zy I)) (za (zC (zU I) zk) zm)))) (za (zC (zU I) (zy I)) zm)))) zm)))))))) ?_;exact(zq (zO (j4 (ya (za (zy I) (za (zy I) (za (jM I ⋯ E.Z5 (zU I)) zm)))))))
theorem QZ(E:E0 K mg):gR P w K mg base 2 "_law_turn" 4 xx:=
 xE (N:=["_law_script","_law_at","_law_p","_law_many","_law_turn_here","_law_back","_law_step","_law_cell_here","_law_a","_law_b","_law_by","_law_undo","_law_row","_law_told","_law_rows"]) E.Q5 ⋯ λX O e Q U Y I d=>by subst O e Q U Y;exact by refine zg (au 4 (k7 I (i0.c (j9 I ⋯ E.Z2 (zy I))) (λ_ _ _ a=>PO.v (qL a (i0.c (j9 a ⋯ E.Z2 (zy a))) (λ_ _ _ b=>vP b ⋯ E.Z8 (ZK b (zy b) (zy b))))))) ?_;refine zg (BJ I (i0.c (j9 I ⋯ E.Z2 (zy I))) (λ_ _ _ a=>qL a (i0.c (j9 a ⋯ E.Z2 (zy a))) (λ_ _ _ b=>vP b ⋯ E.Z8 (ZK b (zy b) (zy b))))) ?_;refine zg (yH d I (j9 I ⋯ E.Z2 (xq zk (zy I))) (by refine zg (jK I (zY (yo E) I (za (zy I) (za (jU (zy I) (zy I)) zm)))) ?_;refine zg (jK I (qu (zy I) (zy I))) ?_;refine zg (jK I (qu (wx (zy I) (zy I)) (zy I))) ?_;refine zg (jK I (jU zk (qu (wx (zy I) zk) (xP (zy I) zk)))) ?_;exact(zq (qN (x6 I (zy I) (zy I)) (by refine zg (JJ 4 I ⋯ (zy I) (PO.v (qL I (ja (PV.q (zC (zU I) (zy I)))) (λ_ _ _ a=>qu (xq (zy a) (zy a)) (zy a))))) ?_;refine zg (jK I (zC (PO.q (VZ I (i0.c (j9 I ⋯ E.Z2 (zy I))) (λ_ _ _ a=>x6 a (qu (xq (zy a) (zy a)) (zy a)) zk) (λ_ _ _ a=>zy a))) zk)) ?_;exact(zq (Xs 5 12 (gj d) I.calm I ⋯ ⋯ (I.Ds 12 ⋯) (zy I) (qu (xq (zC (zU I) (zy I)) (zy I)) (zy I))))) (by refine zg (JJ 4 I ⋯ (zy I) (PO.v (qL I (i0.c (Zy I ⋯ E.Z6 (zC (zU I) (zy I)) (zC (zU I) (zy I)))) (λ_ _ _ a=>qu (jU (zy a) (xq (zy a) (zy a))) (zy a))))) ?_;exact(zq (Xs 5 12 (gj d) I.calm I ⋯ ⋯ (I.Ds 12 ⋯) (zy I) (qu (xP (zC (zU I) (zy I)) (xq (zy I) (zC (zU I) (zy I)))) (zy I))))))))) ?_;refine zg (Zx I (yP (ya zm))) ?_;refine zg (mY 5 (tH 4 (yH d I (Kk (PO.v (yP (ya (za (zy I) (za (zy I) zm)))))) (zq (JK 13 I ⋯ (j4 (ya (za (zy I) (za (zy I) (za (jM I ⋯ E.Z5 (PO.q (qL I (ja (zU I)) (λ_ _ _ a=>jM a ⋯ E.Z5 (zU a))))) zm)))))))))) ?_;exact(zq (ZV 13 (I.var ⋯)))
theorem wC(E:E0 K mg):gR P w K mg base 3 "_law_hidden" 3 xS:=
 xE (N:=["_law_script","_law_at","_law_told","_law_pairs"]) E.Q6 ⋯ λX O b Q U Y I d=>by subst O b Q U Y;exact by refine zg (jC 3 (k7 I (i0.c (YI I ⋯ E.Z7 (zC (zU I) zk))) (λ_ _ _ a=>PO.v (xX (QZ E) a (za (zy a) (za (jU (zy a) (xq zk (zy a))) (za (zC (zU a) zk) (za (zy a) zm)))))))) ?_;exact(zq (zO (zY (wB E) I (za (zy I) (za (PO.v (qL I (ja (zU I)) (λ_ _ _ a=>zC (zU a) zk))) (za (PO.v (qL I (ja (zU I)) (λ_ _ _ a=>zC (zU a) zk))) zm))))))
theorem vi(E:E0 K mg):gR P w K mg base 1 "ways_of" 1 xu:=
 xE (N:=["row"]) E.Q7 ⋯ λX O b Q U Y I d=>by subst O b Q U Y;exact zq (zO (fI qz (PO.q (qL I (ja (PV.q (zC (zU I) zk))) (λ_ _ _ a=>zC (zU a) zk)))))
theorem V3(E:E0 K mg):gR P w K mg base 2 "one_kind" 2 ko:=
 xE (N:=["one","other"]) E.Q8 ⋯ λX O a Q U Y I b=>by subst O a Q U Y;exact zq (zO (BE (ZK I (zC (zU I) zk) (zC (zU I) zk)) (BA (ZK I (zY (vi E) I (za (zy I) zm)) (zY (vi E) I (za (zy I) zm))))))
theorem yS(E:E0 K mg):gR P w K mg base 3 "ask_one_kind" 2 qx:=
 xE (N:=["one","other"]) E.Q9 ⋯ λX O a Q U Y I b=>by subst O a Q U Y;exact zq (qN (Kg (ym (zY (V3 E) I (za (zy I) (za (zy I) zm))))) (zq YD) jI)
theorem Zl(E:E0 K mg):gR P w K mg base 1 "behind_noughts" 2 qY:=
 xE (N:=["many","base"]) E.Qa ⋯ λX O b Q U Y I d=>by subst O b Q U Y;exact zq (qK (VZ I (ja (zU I)) (λ_ _ _ a=>Kg (ym (pU a ⋯ E.Z9 (PV.q (ao (zy a) Km (Kl (zy a))))))) (λ_ _ _ a=>ao (zy a) (Kl (zy a)) Km)))
theorem ZW(E:E0 K mg):gR P w K mg base 1 "rests" 2 xY:=
 xE (N:=["p","numbers"]) E.Qb ⋯ λX O b Q U Y I d=>by subst O b Q U Y;exact zq (zO (jM I ⋯ E.Z5 (PO.q (qL I (ja (zU I)) (λ_ _ _ a=>qu (zy a) (zy a))))))
theorem cC(E:E0 K mg):gR P w K mg base 1 "inverse" 2 w6:=
 xE (N:=["p","x","y"]) E.Qc ⋯ λX O a Q U Y I b=>by subst O a Q U Y;exact by refine zg (yH b I (nu I ⋯ E.Z2 zk (zy I)) (zq (qN (x6 I (qu (xq (zy I) (zy I)) (zy I)) zk) (zq (ZV 2 (I.var ⋯))) jI))) ?_;exact(zq YD)
theorem Xu(E:E0 K mg):gR P w K mg base 2 "cleared" 4 qV:=
 xE (N:=["p","load","pivot","place","much"]) E.Qd ⋯ λX O b Q U Y I d=>by subst O b Q U Y;exact by refine zg (jK I (zC (zU I) (zy I))) ?_;refine zg (qN (x6 I (zy I) zk) (zq (ZV 1 (I.var ⋯))) jI) ?_;exact(zq (zO (zY (ZW E) I (za (zy I) (za (PO.v (qL I (i0.c (Zy I ⋯ E.Z6 (zy I) (zy I))) (λ_ _ _ a=>xP (zy a) (xq (zy a) (zy a))))) zm)))))
theorem vk(E:E0 K mg):gR P w K mg base 3 "base_of" 3 xU:=
 xE (N:=["p","long","loads","left","base","place","leading","times","pivot"]) E.Qe ⋯ λX O b Q U Y I d=>by subst O b Q U Y;exact by refine zg (jC 3 (k7 I (ja (zU I)) (λ_ _ _ a=>zY (ZW E) a (za (zy a) (za (zy a) zm))))) ?_;refine zg (Zx I (yP (ya zm))) ?_;refine zg (yH d I (j9 I ⋯ E.Z2 (zy I)) (by refine zg (jC 6 (tJ I (ja (zU I)) (λ_ _ _ a=>kO a (zC (zU a) (zy a)) zk) (λ_ _ _ a=>zy a))) ?_;refine zg (qN (Kg (mS (zU I))) (zq YE) jI) ?_;refine zg (jK I (zY (cC E) I (za (zy I) (za (zC (PV.q (zC (zU I) zk)) (zy I)) zm)))) ?_;refine zg (jK I (zY (ZW E) I (za (zy I) (za (PO.v (qL I (ja (PV.q (zC (zU I) zk))) (λ_ _ _ a=>xq (zy a) (zy a)))) zm)))) ?_;refine zg (jC 3 (k7 I (ja (zU I)) (λ_ _ _ a=>zY (Xu E) a (za (zy a) (za (zy a) (za (zy a) (za (zy a) zm))))))) ?_;exact(zq (Zx I (YF (PO.q (qL I (ja (zU I)) (λ_ _ _ a=>zY (Xu E) a (za (zy a) (za (zy a) (za (zy a) (za (zy a) zm))))))) (PO.q (yP (ya (za (zy I) zm))))))))) ?_;exact(zq (ZV 4 (I.var ⋯)))
theorem xK(E:E0 K mg):gR P w K mg base 1 "turned_over" 1 qa:=
 xE (N:=["table","columns"]) E.Qf ⋯ λX O d Q U Y I e=>by subst O d Q U Y;exact by refine zg (jC 1 (k7 I (i0.c (j9 I ⋯ E.Z2 (zC (zU I) zk))) (λ_ _ _ a=>jM a ⋯ E.Z5 (PO.q (qL a (ja (PV.q (zC (zU a) zk))) (λ_ _ _ b=>zC (zU b) (zy b))))))) ?_;exact(zq (zO (j4 (ya (za (zC (zU I) zk) (za (zC (zU I) zk) (za (jM I ⋯ E.Z5 (zU I)) zm)))))))
theorem ke(E:E0 K mg):gR P w K mg base 1 "same_table" 1 qH:=
 xE (N:=["many","rows"]) E.Qg ⋯ λX O d Q U Y I e=>by subst O d Q U Y;exact by refine zg (jC 1 (k7 I (i0.c (j9 I ⋯ E.Z2 (zy I))) (λ_ _ _ a=>jM a ⋯ E.Z5 (PO.q (qL a (i0.c (j9 a ⋯ E.Z2 (zy a))) (λ_ _ _ b=>qW (x6 b (zy b) (zy b)) zk zk)))))) ?_;exact(zq (zO (j4 (ya (za (zy I) (za (zy I) (za (jM I ⋯ E.Z5 (zU I)) zm)))))))
theorem JN(E:E0 K mg):gR P w K mg base 4 "led_into" 3 ku:=
 xE (N:=["p","table","base","pairs","free"]) E.Qh ⋯ λX O b Q U Y I d=>by subst O b Q U Y;exact by refine zg (jC 3 (k7 I (i0.c (Zy I ⋯ E.Z6 (zC (PV.q (zY (xK E) I (za (zy I) zm))) zk) (zC (PV.q (zY (ke E) I (za (zC (zU I) zk) zm))) zk))) (λ_ _ _ a=>jU (zy a) (zy a)))) ?_;refine zg (jC 4 (k7 I (ja (zU I)) (λ_ _ _ a=>jU (zy a) (xq (j4 (ya (za zk zm))) (zC (zU a) zk))))) ?_;exact(zq (qK (xX (Zl E) I (za (zC (zU I) zk) (za (PO.v (xX (vk E) I (za (zy I) (za (jU (zC (zU I) zk) (zC (zU I) zk)) (za (PO.v (YF (zU I) (zU I))) zm))))) zm)))))
theorem YS(E:E0 K mg):gR P w K mg base 5 "kernel" 2 vw:=
 xE (N:=["p","table"]) E.Qi ⋯ λX O a Q U Y I b=>by subst O a Q U Y;exact zq (qK (xX (JN E) I (za (zy I) (za (zy I) (za (PO.v (yP (ya zm))) zm)))))
theorem aB(E:E0 K mg):gR P w K mg base 4 "image" 2 Zu:=
 xE (N:=["p","table"]) E.Qj ⋯ λX O a Q U Y I b=>by subst O a Q U Y;exact zq (qK (xX (vk E) I (za (zy I) (za (zC (zU I) zk) (za (zC (PV.q (zY (xK E) I (za (zy I) zm))) zk) zm)))))
theorem Zk(E:E0 K mg):gR P w K mg base 2 "columns" 2 kM:=
 xE (N:=["high","loads"]) E.Qk ⋯ λX O a Q U Y I b=>by subst O a Q U Y;exact zq (zO (zY (xK E) I (za (j4 (ya (za (yO I ⋯ E.Z0 (zU I)) (za (zy I) (za (jM I ⋯ E.Z5 (zU I)) zm))))) zm)))
theorem yp(E:E0 K mg):gR P w K mg base 1 "has_room" 2 j8:=
 xE (N:=["bar","room"]) E.Ql ⋯ λX O a Q U Y I b=>by subst O a Q U Y;exact zq (zO (mP ug Co eE pK (zC (zU I) zk) (zy I) (jU (zC (zU I) zk) (yO I ⋯ E.Z0 (PV.q (zC (zU I) zk))))))
theorem vQ(E:E0 K mg):gR P w K mg base 2 "loads_in" 2 xh:=
 xE (N:=["bars","room"]) E.Qm ⋯ λX O b Q U Y I d=>by subst O b Q U Y;exact zq (qK (VZ I (ja (zU I)) (λ_ _ _ a=>ym (zY (yp E) a (za (zy a) (za (zy a) zm)))) (λ_ _ _ a=>zC (PV.q (zC (zU a) zk)) (xP (zy a) (zC (zU a) zk)))))
theorem vj(E:E0 K mg):gR P w K mg base 1 "lead_of" 1 qT:=
 xE (N:=["load"]) E.Qn ⋯ λX O b Q U Y I d=>by subst O b Q U Y;exact zq (zO (zC (PO.q (VZ I (i0.c (YI I ⋯ E.Z7 (zy I))) (λ_ _ _ a=>kO a (zy a) zk) (λ_ _ _ a=>zy a))) zk))
theorem pZ(E:E0 K mg):gR P w K mg base 2 "led" 3 lO:=
 xE (N:=["p","table","load"]) E.Qo ⋯ λX O d Q U Y I e=>by subst O d Q U Y;exact zq (zO (zY (ZW E) I (za (zy I) (za (PO.v (qL I (ja (PV.q (zC (zU I) zk))) (λ_ _ _ a=>Xp a ⋯ E.Z4 (PO.q (qL a (i0.c (Zy a ⋯ E.Z6 (zy a) (zy a))) (λ_ _ _ b=>xq (zy b) (zy b))))))) zm))))
theorem Ko(E:E0 K mg):gR P w K mg base 3 "mixed_load" 4 kT:=
 xE (N:=["row","bars","times","room","there"]) E.Qp ⋯ λX O b Q U Y I d=>by subst O b Q U Y;exact by refine zg (jC 4 (tJ I (i0.c (Zy I ⋯ E.Z6 (zy I) (zy I))) (λ_ _ _ a=>ym (zY (yp E) a (za (zy a) (za (zy a) zm)))) (λ_ _ _ a=>zy a))) ?_;exact(zq (zO (zY (pZ E) I (za (zC (zU I) zk) (za (zY (Zk E) I (za (zC (PV.q (zC (zU I) zk)) (zy I)) (za (PO.v (xX (vQ E) I (za (zy I) (za (zy I) zm)))) zm))) (za (zy I) zm))))))
theorem nI(E:E0 K mg):gR P w K mg base 4 "mixed" 3 KY:=
 xE (N:=["row","bars","times","first","loads"]) E.Qq ⋯ λX O b Q U Y I d=>by subst O b Q U Y;exact by refine zg (jK I (zC (zU I) (zY (vj E) I (za (zy I) zm)))) ?_;refine zg (jC 4 (k7 I (i0.c (j9 I ⋯ E.Z2 (yO I ⋯ E.Z0 (PV.q (zC (zU I) zk))))) (λ_ _ _ a=>zY (Ko E) a (za (zy a) (za (zy a) (za (zy a) (za (jU (zC (zU a) zk) (zy a)) zm))))))) ?_;exact(zq (zO (j4 (ya (za (zC (zU I) zk) (za (jM I ⋯ E.Z5 (zU I)) zm))))))
theorem cx(E:E0 K mg):gR P w K mg base 6 "settled" 3 wZ:=
 xE (N:=["row","k","bars","way","table","special","base","leads"]) E.Qr ⋯ λX O b Q U Y I d=>by subst O b Q U Y;exact by refine zg (jK I (zC (PV.q (zC (PV.q (zC (zU I) zk)) (zy I))) zk)) ?_;refine zg (jK I (zC (PV.q (zC (PV.q (zC (zU I) zk)) (zy I))) zk)) ?_;refine zg (jK I (qW (x6 I (zy I) qz) (PO.v (xX (YS E) I (za (zC (zU I) zk) (za (zy I) zm)))) (PO.v (xX (aB E) I (za (zC (zU I) zk) (za (zy I) zm)))))) ?_;refine zg (jK I (PO.v (xX (JN E) I (za (zC (zU I) zk) (za (zY (Zk E) I (za (zC (PV.q (zC (zU I) zk)) (zy I)) (za (PO.v (xX (vQ E) I (za (zy I) (za (zy I) zm)))) zm))) (za (zy I) zm)))))) ?_;refine zg (jK I (mO I ⋯ E.Za (qL I (ja (zU I)) (λ_ _ _ a=>j4 (ya (za (zY (vj E) a (za (zy a) zm)) (za (zy a) zm))))))) ?_;exact(zq (qK (qL I (i0.c (fW I ⋯ E.Z7 (zy I))) (λ_ _ _ a=>qW (tE a (zy a) (zy a)) (zY (nI E) a (za (zy a) (za (zy a) (za (BC a (zy a) (zy a)) zm)))) (zy a)))))
theorem gy(E:E0 K mg):gR P w K mg base 4 "solved" 3 vt:=
 xE (N:=["p","table","load","wide","answer","line","place"]) E.Qs ⋯ λX O b Q U Y I d=>by subst O b Q U Y;exact by refine zg (jK I (zC (zU I) zk)) ?_;refine zg (Zx I (BN (yP (ya (za zk zm))) (zy I))) ?_;refine zg (yH d I (Kk (PO.v (xX (vk E) I (za (zy I) (za (jU (zy I) zk) (za (PO.v (qL I (i0.c (Zy I ⋯ E.Z6 (zC (zU I) zk) (zy I))) (λ_ _ _ a=>jU (zy a) (j4 (ya (za (zy a) zm)))))) zm)))))) (by refine zg (jK I (zY (vj E) I (za (zy I) zm))) ?_;refine zg (qN (x6 I (zy I) (zy I)) (zq (zO YC)) jI) ?_;exact(zq (JJ 4 I ⋯ (zy I) (zC (zU I) (zy I)))))) ?_;exact(zq (zO (jM I ⋯ E.Z5 (zU I))))
theorem YO(E:E0 K mg):gR P w K mg base 5 "next_load" 3 xI:=
 xE (N:=["p","arrow","load","there"]) E.Qt ⋯ λX O a Q U Y I b=>by subst O a Q U Y;exact by refine zg (qN (x6 I (zC (zU I) zk) qz) (zq (zO (zY (gy E) I (za (zy I) (za (zC (zU I) zk) (za (zy I) zm)))))) jI) ?_;refine zg (jK I (zY (pZ E) I (za (zy I) (za (zC (zU I) zk) (za (zy I) zm))))) ?_;exact(zq (zO (qW (ym (pU I ⋯ E.Z9 (zU I))) (zy I) YC)))
theorem V2(E:E0 K mg):gR P w K mg base 6 "taken_on" 3 yf:=
 xE (N:=["p","arrow","bar","load"]) E.Qu ⋯ λX O a Q U Y I b=>by subst O a Q U Y;exact by refine zg (jK I (zY (YO E) I (za (zy I) (za (zy I) (za (zC (PV.q (zC (zU I) zk)) (BB zk)) zm))))) ?_;exact(zq (zO (qW (tx (zy I) YC) (zy I) (j4 (ya (za (zC (zU I) zk) (za (jU (zC (zU I) zk) (j4 (ya (za (zy I) zm)))) zm)))))))
theorem YQ(E:E0 K mg):gR P w K mg base 6 "new_loads" 2 yB:=
 xE (N:=["p","arrow","leads"]) E.Qv ⋯ λX O b Q U Y I d=>by subst O b Q U Y;exact by refine zg (qN (x6 I (zC (zU I) zk) qz) (zq (qK (xX (YS E) I (za (zy I) (za (zC (zU I) zk) zm))))) jI) ?_;refine zg (jC 2 (k7 I (ja (PO.q (xX (aB E) I (za (zy I) (za (zC (zU I) zk) zm))))) (λ_ _ _ a=>zY (vj E) a (za (zy a) zm)))) ?_;exact(zq (qK (VZ I (i0.c (YI I ⋯ E.Z7 (zC (PV.q (zY (ke E) I (za (zC (PV.q (zC (zU I) zk)) zk) zm))) zk))) (λ_ _ _ a=>cc (zy a) (zU a)) (λ_ _ _ a=>zy a))))
theorem nJ(E:E0 K mg):gR P w K mg base 7 "grown" 3 QQ:=
 xE (N:=["row","k","bars","p","arrow","ended","here","old","new"]) E.Qw ⋯ λX O b Q U Y I d=>by subst O b Q U Y;exact by refine zg (jK I (zC (zU I) zk)) ?_;refine zg (jK I (zC (PV.q (zC (zU I) zk)) (zy I))) ?_;refine zg (jC 5 (tJ I (ja (zU I)) (λ_ _ _ a=>Kg (ym (zY (yp E) a (za (zy a) (za (zy a) zm))))) (λ_ _ _ a=>zy a))) ?_;refine zg (jK I (PO.v (xX (cx E) I (za (zy I) (za (zy I) (za (PO.v (VZ I (ja (zU I)) (λ_ _ _ a=>ym (zY (yp E) a (za (zy a) (za (zy a) zm)))) (λ_ _ _ a=>zy a))) zm)))))) ?_;refine zg (jC 7 (k7 I (ja (zU I)) (λ_ _ _ a=>zY (V2 E) a (za (zy a) (za (zy a) (za (zy a) zm)))))) ?_;refine zg (jC 8 (k7 I (ja (PO.q (xX (YQ E) I (za (zy I) (za (zy I) zm))))) (λ_ _ _ a=>j4 (ya (za (jU (zy a) zk) (za (j4 (ya (za (zy a) zm))) zm)))))) ?_;exact(zq (zO (PO.v (YF (zU I) (PV.q (qW (x6 I (zC (zU I) zk) qz) (PO.v (YF (zU I) (zU I))) (PO.v (YF (zU I) (zU I)))))))))
theorem wz(E:E0 K mg):gR P w K mg base 1 "stretch_of" 1 qb:=
 xE (N:=["bar"]) E.Qx ⋯ λX O a Q U Y I b=>by subst O a Q U Y;exact zq (zO (j4 (ya (za (zC (zU I) zk) (za (xP (jU (zC (zU I) zk) (yO I ⋯ E.Z0 (PV.q (zC (zU I) zk)))) zk) zm)))))
theorem YT(E:E0 K mg):gR P w K mg base 9 "all_grown" 1 yE:=
 xE (N:=["row","bars","k"]) E.Qy ⋯ λX O b Q U Y I d=>by subst O b Q U Y;exact by refine zg (jC 1 (k7 I (ja (PV.q (zC (PV.q (zY (ke E) I (za (zC (PV.q (zC (zU I) zk)) zk) zm))) zk))) (λ_ _ _ a=>j4 (ya (za zk (za (j4 (ya (za (zy a) zm))) zm)))))) ?_;refine zg (yH d I (j9 I ⋯ E.Z2 (yO I ⋯ E.Z0 (PV.q (zC (zU I) zk)))) (zq (jK I (zY (nJ E) I (za (zy I) (za (zy I) (za (zy I) zm))))))) ?_;exact(zq (qK (nj (wz E) I ⋯ ⋯ E.Z3 ⋯ (zU I))))
theorem cD(E:E0 K mg):gR P w K mg base 4 "back_of" 2 kN:=
 xE (N:=["p","table","many","same","base"]) E.Qz ⋯ λX O b Q U Y I d=>by subst O b Q U Y;exact by refine zg (jK I (zC (zU I) zk)) ?_;refine zg (qN (kO I (zC (zU I) zk) (zy I)) (zq (zO YC)) jI) ?_;refine zg (jK I (zC (PV.q (zY (ke E) I (za (zy I) zm))) zk)) ?_;refine zg (jK I (PO.v (xX (vk E) I (za (zy I) (za (jU (zy I) (zy I)) (za (PO.v (qL I (i0.c (Zy I ⋯ E.Z6 (zC (zU I) zk) (zy I))) (λ_ _ _ a=>jU (zy a) (zy a)))) zm)))))) ?_;refine zg (qN (kO I (PO.v (qL I (ja (zU I)) (λ_ _ _ a=>ao (zy a) Km (Kl (zy a))))) (PO.v (tP I ⋯ E.Zb (zU I)))) (zq (zO YC)) jI) ?_;exact(zq (zO (j4 (ya (za (zy I) (za (zy I) (za (jM I ⋯ E.Z5 (PO.q (qL I (ja (zU I)) (λ_ _ _ a=>ao (zy a) (Kl (zy a)) Km)))) zm)))))))
theorem wD(E:E0 K mg):gR P w K mg base 10 "barred" 1 jZ:=
 xE (N:=["row","bars","backs","turns"]) E.U5 ⋯ λX O b Q U Y I d=>by subst O b Q U Y;exact by refine zg (jK I (PO.v (xX (YT E) I (za (zy I) zm)))) ?_;refine zg (jC 2 (k7 I (i0.c (YI I ⋯ E.Z7 (zC (zU I) zk))) (λ_ _ _ a=>zY (Zk E) a (za (zy a) (za (PO.v (xX (vQ E) a (za (zy a) (za (zy a) zm)))) zm))))) ?_;refine zg (jC 3 (k7 I (ja (zU I)) (λ_ _ _ a=>zY (cD E) a (za (zC (zU a) zk) (za (zy a) zm))))) ?_;exact(zq (zO (j4 (ya (za (PO.v (qL I (ja (zU I)) (λ_ _ _ a=>zY (wz E) a (za (zy a) zm)))) (za (zy I) (za (zy I) zm)))))))
theorem Kp(E:E0 K mg):gR P w K mg base 1 "left_holds" 3 xR:=
 xE (N:=["ways","one","other"]) E.U6 ⋯ λX O a Q U Y I b=>by subst O a Q U Y;exact by refine zg (qN (x6 I (zC (zU I) zk) (zC (zU I) zk)) (zq (zO bZ)) jI) ?_;exact(zq (zO (ZK I (yk (zy I) (xP (fH I ⋯ E.Zc (zC (zU I) zk) (zC (zU I) zk)) zk)) (qW (fK (zC (zU I) zk) (zC (zU I) zk)) qz qz))))
theorem QY(E:E0 K mg):gR P w K mg base 1 "right_holds" 3 xw:=
 xE (N:=["ways","one","other"]) E.U7 ⋯ λX O a Q U Y I b=>by subst O a Q U Y;exact by refine zg (qN (x6 I (zC (zU I) zk) (zC (zU I) zk)) (zq (zO bZ)) jI) ?_;exact(zq (zO (ZK I (yk (zy I) (aq I ⋯ E.Z1 (zC (zU I) zk) (zC (zU I) zk))) (qW (JH (zC (zU I) zk) (zC (zU I) zk)) qz qz))))
theorem V4(E:E0 K mg):gR P w K mg base 2 "bar_ways" 3 kx:=
 xE (N:=["ways","one","other"]) E.U8 ⋯ λX O a Q U Y I b=>by subst O a Q U Y;exact by refine zg (qN (JH (fH I ⋯ E.Zc (zC (zU I) zk) (zC (zU I) zk)) (aq I ⋯ E.Z1 (zC (zU I) zk) (zC (zU I) zk))) (zq (zO zk)) jI) ?_;exact(zq (zO (qW (QV (Zi (ym (zY (Kp E) I (za (zy I) (za (zy I) (za (zy I) zm))))) (vh (ym (zY (QY E) I (za (zy I) (za (zy I) (za (zy I) zm)))))))) zk zk)))
theorem YM(E:E0 K mg):gR P w K mg base 3 "ways_into" 3 kK:=
 xE (N:=["ways","bars","bar"]) E.U9 ⋯ λX O b Q U Y I d=>by subst O b Q U Y;exact zq (zO (Xp I ⋯ E.Z4 (PO.q (qL I (ja (zU I)) (λ_ _ _ a=>zY (V4 E) a (za (zy a) (za (zy a) (za (zy a) zm))))))))
theorem kf(E:E0 K mg):gR P w K mg base 11 "count_ways" 2 qe:=
 xE (N:=["one","other","bars"]) E.X1 ⋯ λX O b Q U Y I d=>by subst O b Q U Y;exact by refine zg (av (zY (yS E) I (za (zy I) (za (zy I) zm)))) ?_;refine zg (jK I (zC (PV.q (zY (wD E) I (za (zy I) zm))) zk)) ?_;exact(zq (zO (Xp I ⋯ E.Z4 (PO.q (qL I (ja (PV.q (zC (PV.q (zY (wD E) I (za (zy I) zm))) zk))) (λ_ _ _ a=>zY (YM E) a (za (zY (vi E) a (za (zy a) zm)) (za (zy a) (za (zy a) zm)))))))))
theorem wA(E:E0 K mg):gR P w K mg base 1 "numbers_in" 1 kR:=
 xE (N:=["sizes"]) E.a_ ⋯ λX O b Q U Y I d=>by subst O b Q U Y;exact zq (zO (Xp I ⋯ E.Z4 (PO.q (qL I (ja (zU I)) (λ_ _ _ a=>xq (zy a) (zy a))))))
theorem Kn(E:E0 K mg):gR P w K mg base 1 "room_sizes" 2 vc:=
 xE (N:=["one","other"]) E.b_ ⋯ λX O a Q U Y I b=>by subst O a Q U Y;exact zq (qK (nq I ⋯ E.Zb ⋯ E.Z6 (zC (zU I) zk) (zC (zU I) zk)))
theorem gz(E:E0 K mg):gR P w K mg base 1 "end_of" 2 vx:=
 xE (N:=["k","way"]) E.c_ ⋯ λX O a Q U Y I b=>by subst O a Q U Y;exact zq (zO (qW (x6 I (zy I) qz) (jU (zy I) zk) (zy I)))
theorem JP(E:E0 K mg):gR P w K mg base 1 "beginning_of" 2 qw:=
 xE (N:=["k","way"]) E.d_ ⋯ λX O a Q U Y I b=>by subst O a Q U Y;exact zq (zO (qW (x6 I (zy I) qz) (zy I) (jU (zy I) zk)))
theorem Xa(E:E0 K mg):gR P w K mg base 2 "arrow_sizes" 2 yD:=
 xE (N:=["one","other","ways"]) E.e_ ⋯ λX O b Q U Y I d=>by subst O b Q U Y;exact by refine zg (jK I (zY (vi E) I (za (zy I) zm))) ?_;exact(zq (qK (qL I (i0.c (fV I ⋯ E.Z7 (zy I))) (λ_ _ _ a=>j4 (ya (za (zC (PV.q (zC (zU a) zk)) (zY (gz E) a (za (zy a) (za (zy a) zm)))) (za (zC (PV.q (zC (zU a) zk)) (zY (JP E) a (za (zy a) (za (zy a) zm)))) zm)))))))
theorem YN(E:E0 K mg):gR P w K mg base 4 "plain_sum" 2 kL:=
 xE (N:=["upper","under"]) E.f_ ⋯ λX O a Q U Y I b=>by subst O a Q U Y;exact by refine zg (av (zY (yS E) I (za (zy I) (za (zy I) zm)))) ?_;exact(zq (zO (xP (zY (wA E) I (za (PO.v (xX (Kn E) I (za (zy I) (za (zy I) zm)))) zm)) (zY (wA E) I (za (PO.v (xX (Xa E) I (za (zy I) (za (zy I) zm)))) zm)))))
theorem yq(E:E0 K mg):gR P w K mg base 12 "count_upon" 2 xi:=
 xE (N:=["upper","under"]) E.g_ ⋯ λX O a Q U Y I b=>by subst O a Q U Y;exact zq (zO (xP (zY (kf E) I (za (zy I) (za (zy I) zm))) (zY (YN E) I (za (zy I) (za (zy I) zm)))))
theorem kE(E:E0 K mg):gR P w K mg base 1 "_law_with" 2 jr:=
 xE (N:=["_law_found","_law_room"]) E.h_ ⋯ λX O b Q U Y I d=>by subst O b Q U Y;exact zq (qK (VZ I (i0.c (fW I ⋯ E.Z7 (zy I))) (λ_ _ _ a=>fL ug ug eE eE (zC (zU a) zk) (zy a) (zC (zU a) zk)) (λ_ _ _ a=>zy a)))
theorem vE(E:E0 K mg):gR P w K mg base 2 "_law_bar_row" 3 qc:=
 xE (N:=["_law_p","_law_ways_here","_law_found","_law_widths","_law_arrows","_law_k","_law_way","_law_begin","_law_end","_law_rows"]) E.i_ ⋯ λX O d Q U Y I e=>by subst O d Q U Y;exact by refine zg (jC 3 (k7 I (i0.c (j9 I ⋯ E.Z2 (jU (tj I ⋯ E.Z0 (zy I)) zk))) (λ_ _ _ a=>yO a ⋯ E.Z0 (PO.q (xX (kE E) a (za (zy a) (za (zy a) zm))))))) ?_;refine zg (Zx I (yP (ya zm))) ?_;refine zg (yH e I (fV I ⋯ E.Z7 (zy I)) (by refine zg (jK I (jU (zy I) (vP I ⋯ E.Z8 (ZK I (zy I) qz)))) ?_;refine zg (jK I (jU (zy I) (vP I ⋯ E.Z8 (ZK I (zy I) qz)))) ?_;refine zg (jC 9 (k7 I (ja (PO.q (xX (kE E) I (za (zy I) (za (zy I) zm))))) (λ_ _ _ a=>jM a ⋯ E.Z5 (PO.q (qL a (ja (PO.q (xX (kE E) a (za (zy a) (za (zy a) zm))))) (λ_ _ _ b=>vP b ⋯ E.Z8 (ZK b (zy b) (zy b)))))))) ?_;exact(zq (JK 4 I ⋯ (j4 (ya (za (zy I) (za (j4 (ya (za (zC (zU I) (zy I)) (za (zC (zU I) (zy I)) (za (jM I ⋯ E.Z5 (zU I)) zm))))) zm)))))))) ?_;exact(zq (zO (j4 (ya (za (zy I) (za (jM I ⋯ E.Z5 (zU I)) (za (jM I ⋯ E.Z5 (zU I)) zm)))))))
theorem ZA(E:E0 K mg):gR P w K mg base 1 "other_way" 1 q8:=
 xE (N:=["way"]) E.j' ⋯ λX O a Q U Y I b=>by subst O a Q U Y;exact zq (zO (qW (x6 I (zy I) qz) qz qz))
theorem kD(E:E0 K mg):gR P w K mg base 2 "mirrored" 1 qM:=
 xE (N:=["row","arrows"]) E.j_ ⋯ λX O b Q U Y I d=>by subst O b Q U Y;exact by refine zg (jC 1 (k7 I (i0.c (tX I ⋯ E.Zd (zC (zU I) zk))) (λ_ _ _ a=>j4 (ya (za (zY (ZA E) a (za (zC (zU a) zk) zm)) (za (zC (zU a) zk) zm)))))) ?_;exact(zq (zO (j4 (ya (za (zC (zU I) zk) (za (fF I ⋯ E.Z5 ⋯ E.Zd (zC (zU I) zk)) (za (jM I ⋯ E.Z5 (zU I)) zm)))))))
theorem kC(E:E0 K mg):gR P w K mg base 2 "opposite" 1 xf:=
 xE (N:=["row","arrows"]) E.k_ ⋯ λX O b Q U Y I d=>by subst O b Q U Y;exact by refine zg (jC 1 (k7 I (ja (PV.q (zC (zU I) zk))) (λ_ _ _ a=>j4 (ya (za (zY (ZA E) a (za (zC (zU a) zk) zm)) (za (zY (xK E) a (za (zC (zU a) zk) zm)) zm)))))) ?_;exact(zq (zO (j4 (ya (za (zC (zU I) zk) (za (zC (zU I) zk) (za (jM I ⋯ E.Z5 (zU I)) zm)))))))
theorem YR(E:E0 K mg):gR P w K mg base 1 "_law_leads" 3 qI:=
 xE (N:=["_law_ways_here","_law_one","_law_other","_law_begin","_law_end"]) E.l_ ⋯ λX O a Q U Y I b=>by subst O a Q U Y;exact by refine zg (jK I (fH I ⋯ E.Zc (zC (zU I) zk) (zC (zU I) zk))) ?_;refine zg (jK I (aq I ⋯ E.Z1 (zC (zU I) zk) (zC (zU I) zk))) ?_;refine zg (qN (JH (zy I) (zy I)) (zq (zO zk)) jI) ?_;refine zg (qN (QV (aj (QV (Zi (fK (zC (zU I) zk) (zy I)) (vh (kO I (yk (zy I) (xP (zy I) zk)) qz)))) (Kf (QV (Zi (fK (zC (zU I) zk) (zy I)) (vh (kO I (yk (zy I) (xP (zy I) zk)) qz))))))) (zq (zO zk)) jI) ?_;refine zg (qN (QV (aj (QV (Zi (JH (zC (zU I) zk) (zy I)) (vh (kO I (yk (zy I) (zy I)) qz)))) (Kf (QV (Zi (JH (zC (zU I) zk) (zy I)) (vh (kO I (yk (zy I) (zy I)) qz))))))) (zq (zO zk)) jI) ?_;exact(zq (zO zk))
theorem HR(D:L2.Dv K "law" "law" (top 68) f fd)(E:E0 K mg):qs P w K mg base rp 13 f fd ["_law_script"] (sm K 1 QP):=
 GJ (N:=["_law_script","_law_cell_here","_law_p","_law_rooms","_law_ways_here","_law_ones","_law_others","_law_one","_law_other","_law_due","_law_bar","_law_number","_law_last"]) D ⋯ λX O b Q U Y I d=>by subst O b Q U Y;exact by refine zg (jK I (zY (yo E) I (za (zy I) (za zk zm)))) ?_;refine zg (jK I (zC (PO.q (yP (ya (za zk (za zk (za zk (za zk zm))))))) (qu (zy I) zk))) ?_;refine zg (jK I (jU zk (qu (wx (zy I) zk) zk))) ?_;refine zg (jK I (zY (JO E) I (za (zy I) (za zk (za (zy I) zm))))) ?_;refine zg (jK I (PO.v (xX (yR E) I (za (zy I) (za zk (za (zy I) (za (qu (wx (zy I) zk) zk) zm))))))) ?_;refine zg (jK I (PO.v (xX (yR E) I (za (zy I) (za zk (za (zy I) (za (qu (wx (zy I) zk) zk) zm))))))) ?_;refine zg (jK I (zY (wC E) I (za (zy I) (za zk (za (zY (vE E) I (za (zy I) (za (zy I) (za (zy I) zm)))) zm))))) ?_;refine zg (jK I (zY (wC E) I (za (zy I) (za zk (za (zY (vE E) I (za (zy I) (za (zy I) (za (zy I) zm)))) zm))))) ?_;refine zg (jK I zk) ?_;refine zg (yH d I (Kk (zy I)) (zq (jK I (jU (zy I) (Xp I ⋯ E.Z4 (PO.q (qL I (ja (zU I)) (λ_ _ _ a=>zY (YR E) a (za (zy a) (za (zy a) (za (zy a) zm))))))))))) ?_;refine zg (qN (QV (aj (kO I (zY (kf E) I (za (zy I) (za (zy I) zm))) (zy I)) (Kf (kO I (zY (kf E) I (za (zY (kC E) I (za (zy I) zm)) (za (zY (kC E) I (za (zy I) zm)) zm))) (zy I))))) (zq (zO bZ)) jI) ?_;refine zg (qN (kO I (zY (kf E) I (za (zY (kD E) I (za (zy I) zm)) (za (zY (kD E) I (za (zy I) zm)) zm))) (zy I)) (zq (zO bZ)) jI) ?_;refine zg (jK I (zY (yq E) I (za (zy I) (za (zy I) zm)))) ?_;refine zg (qN (QV (aj (kO I (zY (yq E) I (za (zY (kC E) I (za (zy I) zm)) (za (zY (kC E) I (za (zy I) zm)) zm))) (zy I)) (Kf (kO I (zY (yq E) I (za (zY (kD E) I (za (zy I) zm)) (za (zY (kD E) I (za (zy I) zm)) zm))) (zy I))))) (zq (zO bZ)) jI) ?_;refine zg (jK I (xP (zy I) zk)) ?_;refine zg (qN (kO I (zC (PV.q (zY (wD E) I (za (zY (kD E) I (za (zy I) zm)) zm))) zk) (PO.v (ay I ⋯ E.Z3 (PO.q (qL I (ja (zU I)) (λ_ _ _ a=>j4 (ya (za (xP (zy a) (zy a)) (za (xP (zy a) (zy a)) zm))))))))) (zq (zO bZ)) jI) ?_;exact(zq (zO (ZK I (zC (PV.q (zY (wD E) I (za (zY (kC E) I (za (zy I) zm)) zm))) zk) (zy I))))
end
end DL
namespace PySem.W.Fast
def tw1862821059047677917:=0
def tw7929309894464742127:=0
def tw9276544393382810677:=0
def tw4551786661555123818:=0
def tw3714177812379259520:=0
def tw13297380834105831003:=0
def tw10285831234554259906:=0
def tw12043082612416316641:=0
def tw1937831568399272561:=0
def tw3515576712996525073:=0
def tw8225596742114650746:=0
def tw334065002561842108:=0
def tw16990718118800312028:=0
def tw2276284064013656463:=0
def tw7832878594333743697:=0
def tw3693709442441407079:=0
def tw8756952762037455373:=0
def tw12341327947267977839:=0
def tw11926424387933364428:=0
def tw654750050668535038:=0
def tw9860327688829963884:=0
def tw4348773512477559154:=0
def tw8390251264332155854:=0
def tw8317281648630454662:=0
def tw10530874615762491892:=0
def tw16799674546719965860:=0
def tw450125436974280666:=0
def tw6738437700046453977:=0
def tw1004781536940913151:=0
def tw18045460101654646286:=0
def tw10696849797685353980:=0
def tw6236136704165439513:=0
def tw2078748637540669379:=0
def tw18250499362792403597:=0
def tw15124324375954625284:=0
def tw6951894903500702216:=0
def tw2785188049774039130:=0
def tw6648675542086691498:=0
def tw12321712172507334695:=0
def tw18199291921297047435:=0
def tw9863784973177821078:=0
def tw12861603354195551615:=0
def tw15921212846119895118:=0
def tw8655151064744667424:=0
def tw9161784742868047182:=0
def tw16347330219250366713:=0
def tw15581353212348705081:=0
def tw7480396246543151214:=0
def tw7856270761082812217:=0
def tw17011544125366147414:=0
def tw5864337548879797975:=0
def tw2936349653452333044:=0
def tw12960320419649603672:=0
def tw18283637361691669263:=0
def tw9794692632621758874:=0
def tw1612189410104406107:=0
def tw10440292142632744460:=0
def tw8487296609370281631:=0
def tw8042845225133869050:=0
def tw11904370349008403119:=0
def tw629976310979332927:=0
def tw6716402997759974523:=0
def tw14918265797129978365:=0
def tw16930953339247558738:=0
def tw6865911569186855738:=0
def tw14770177327580307751:=0
def tw4577341055475935096:=0
def tw18071478322264680469:=0
def tw10440894260985528138:=0
def tw17810421740376145136:=0
def tw4547816835686287257:=0
def tw17798768239603953451:=0
def tw12136305646545765659:=0
def tw210803462580269819:=0
def tw4189683666557212031:=0
def tw12815977759062935570:=0
def tw13777606988301261095:=0
def tw1720920691399249751:=0
def tw4654054007574673237:=0
def tw8576937959939728611:=0
def tw11646658076790208787:=0
def tw2779849539415585929:=0
def tw10031147944917757763:=0
def tw10546943681450059336:=0
def tw5054331669470262276:=0
def tw15541613877749068654:=0
def tw784886945527122291:=0
def tw7504091759530277748:=0
def tw5274825103829406440:=0
def tw1815762772807182003:=0
def tw1357115245079673090:=0
def tw16227692882819992515:=0
def tw14826131996504683386:=0
def tw6273557724440595312:=0
def tw4372852893803380680:=0
def tw9947677778755613533:=0
def tw12463356757256209559:=0
def tw14906311291394315420:=0
def tw2696004786339733172:=0
def tw17066184044198341824:=0
def tw3272033140126105136:=0
def tw18321368737702352507:=0
def tw11967420493249423971:=0
def tw1288478787854967624:=0
def tw5729768721075552507:=0
def tw7868762888946780834:=0
def tw11372431023413242187:=0
def tw2958791101583997895:=0
def tw2675127773076847068:=0
def tw6544801890617595145:=0
def tw8134289165269980580:=0
def tw3743785404050840729:=0
def tw2969404341844382422:=0
def tw15966110916271615299:=0
def tw9713453608629824366:=0
def tw17683685611930284700:=0
def tw16836273182153551808:=0
def tw8842705494017256837:=0
def tw11031482264404329003:=0
def tw881569175089326013:=0
def tw7150145341752870943:=0
def tw2795406412110833907:=0
def tw10275378661582683107:=0
def tw6179692866897868370:=0
def tw4486621550349267888:=0
def tw11941240953526074363:=0
def tw8009599008363244628:=0
def tw17520239143041020561:=0
def tw17545297509145987544:=0
def tw155647910660149293:=0
def tw16109702902296216262:=0
def tw9099769577901134010:=0
def tw2703023676064746715:=0
def tw6179431872196794814:=0
def tw3196121608650440299:=0
def tw13924815812170816956:=0
def tw7796946442527599321:=0
def tw10115983302783262558:=0
def tw11277120425522973995:=0
def tw9165701911760987271:=0
def tw13594111969613990233:=0
def tw694209313761429463:=0
def tw7792016406927662146:=0
def tw16797091124865973790:=0
def tw13146046454818878257:=0
def tw17539461102441308584:=0
def tw9114155789040161987:=0
def tw8035795243345178634:=0
def tw11785073851244187716:=0
def tw5600261947764940020:=0
def tw13418769531614643473:=0
def tw2684216677195718498:=0
def tw9522129313210825820:=0
def tw16429521968321781219:=0
def tw6219499880590072620:=0
def tw15983490114731267847:=0
def tw9260176659660773249:=0
def tw12259959141315981355:=0
end PySem.W.Fast
open PySem PySem.W PyProof.Rows
set_option maxRecDepth 100000 in
set_option maxHeartbeats 0 in
theorem PySem.Challenge.cw_barsplit_k74_whole_ways_seen_from_the_ot_holds : PySem.Challenge.rw_barsplit_k74_whole_ways_seen_from_the_ot.Holds := by
 w_on;o_law;k_head;(case hw=>w_witness2)
 k_fill
 refine L2.EF (l:=Ph) (n:=63) (k:=13) (x:="_law_script") (CX:=L2.rp) (sp:=λK=>DL.sm K 1 DL.QP) rfl ⋯ rfl ⟨rfl,by decide,by decide⟩ (λw h Y=>PySem.W.kIn_of Y) ?F ?S ?C
 case S=>exact λK H a ns I hO Q=>DL.Fk Q (DL.Gy ns I)
 case C=>exact λ_ _ _ _ z=>z
 case F=>
  intro w mg fa h O G U;have E:DL.E0 (L2.T4 O) mg:=by
   constructor
   all_goals first
    | assumption
    | exact PySem.W.mg_none_of O G (by k_is)
    | (dsimp only[L2.T4];refine' DL.HY O G ?a ?l ?c ?k ?b;(case a=>k_is);(case l=>k_is);(case c=>k_is);(case k=>k_is);(case b=>intro _ _ _ _ _ _ us I;first | (obtain⟨_,rfl⟩:=DL.LH I;rfl) | (obtain⟨_,_,rfl⟩:=DL.LG I;rfl) | (obtain⟨_,_,_,rfl⟩:=DL.LF I;rfl) | (obtain⟨_,_,_,_,rfl⟩:=DL.LD I;rfl)))
  obtain⟨f,fd,Fu,hb,hm⟩:=E.m_.ex;have e0:=U.symm.trans hm;cases e0;refine⟨fd,λs u=> .of_eq (hb [u] rfl),λbase kb nb=>?_⟩;exact DL.HR Fu E
