import PyProof.Rows.All
import Wide.All
import OpenK.AllK
import Wide.FinOn
import Lean
import PyProof.EqAt
import PyProof.EqKinds
import PyProof.TupleCall
import PySem.Str
import PyProof.ZipIter
import PyProof.IsiBase
import KE.KItemsList
import KE.KIsAll
import OpenK.KOwn
import KE.KSortAsk
import PyProof.StrBlockI
import PyProof.Rows.EqDataRows
import PyProof.Rows.InDataRows
import PyProof.SumWalkG
import PyProof.ConsumeWalk
import PyProof.WalksMore
import KE.KSortTup
import PyProof.ListMulRoad
import PyProof.EnumFor
import PyProof.Rows.EnumRows
import PyProof.StrBlockL
import PyProof.JoinWalk
import PyProof.NsDelKeeps
import KE.KTryDeep
import PyProof.InstStoreFacts
import PyProof.NsCount
import PyProof.ExcClass2
import PyProof.Rows.FStr
import PyProof.StationsW
import PyProof.Rows.Catch
import KE.KRevIter
import PyProof.CollectIter
import PyProof.TupleOfGen
import PyProof.Rows.Tup
import PyProof.Draws
import PyProof.EnumMake
import PyProof.StrWalks
import PyProof.SliceStr2
import PyProof.ListNew
import KE.KDictOf
import PyProof.ListRange
import PyProof.Rows.GenSrcRange
import PyProof.ListCopy
import PyProof.AttrMissHeap
import PyProof.DictWalks
import PyProof.FactsDict
import KE.KSortKey
import PyProof.TableCode
import PyProof.Rows.KernelRfl
import PySem.Challenge.RW_barsplit_k62_whole_turned_through_a_row
open PySem.W renaming Frag → Ob,findIn → Pp,kia_one → Pu,keepIn → Rb,fnOf → Rw,emptyDict → RF,instObj → Sq,kitOne → SU,codeIn → SV,cellsFrom_some → Tt,plainGet → TF,isFn → TY,hasDictIn → Ub,nsIn → Uw,makesIn → Ux,lookIn → UH,plainGet_of → UJ,mg_of → UM,callWith_K → UN,plainOver → UX,methodObj → UY,kitx_list → UZ,kitx_dict → _k
open PySem renaming wpAny_bind → Oc,wpAny_pure → Oi,wpAny_newObj_type → Pg,wpAny_callSpecial?_slot → Po,wpAny_call_entry → p5,wpAny_field → PZ,wpAny_truthy_bool → Ro,wpAny_setField_rec → Rt,wpAny_seqItems → RO,wpAny_Call_Name_kw → RT,wpAny_holding → Sb,wpAny_loadPart' → Sg,wpAny_mono → t5,wpAny_typeNameOfWhole_valiter → SF,wpAny_typeNameOfWhole_keyiter → SG,wpAny_passesOwn → Ta,wpAny_dictEntries → Td,wpAny_attempt → Te,call_meets → Tf,mem_of_lookup → Th,Builtin → Ts,wpAny_dictEpoch → TC,wpAny_setField → TQ,wpAny_typeOf → TV,wpAny_of_eq → Uk,sizeLine_eq → Um,pushCells_keeps → Uo,wpAny_pyIter_tuple → Uu,tupleKind_room_in1 → Uv,wpAny_rule → UD,wpAny_isInstance → UL,wpAny_notOrdered_dict → UT,wpAny_isOneOf_valiter → UU,wpAny_execs_nil → N7,codeAny_mono → UW,wpAny_updateSeq_pair → _o,wpAny_fieldsOf → f',isSubtype_stop → f_,Within → g_,wpAny_onRaise → l_,wpAny_pyIter_slot → _h,wpAny_pyIter_list → _i,concat_meets → e',noFill_tuple_add → _j,Addr → di,Value → dq,Expr → dy,eval → d3,model → d5,Shared → d8,starEach → ei,Pos → eo,Heap → ew,sizeLine → eJ,World → fm,Scope → f9,Program → gB,Stmt → g8,Obj → i5,Around → i8,backTo → j1,Env → m5,FuncData → m6,compareOp → m9,IsPair → nj,Builtin → n9,foldedSetIterable → o4,rawInt → o5,Keyword → o8,swapsWith → p4,Tok → p7,mainGlobals → qd,atKey → qq,cLine → rd,cellsFrom → ri,pyNext → rr,sysModules → tr,IsEnum → tu,behindInMarks → t7,binaryOp → t8,holding → u6,IsZip → vl,NameKind → vp,assign → vr,attributeBase → vt,relabel → xb,assignEach → y0,backToKw → y1,IsPart → A4,bootBuiltins → A8,getItem → B4,pushCells → Di,bindC → Dy,bindL → Dz,callerA → DA,firstArgMember → DC,isTrue → DG,standAt → DO,tupleKind → DT,Meets → D2,PassesOwn → D3,bindArgs → D9,newExc → E7,pyIter → E9,setField → FI,spliced → FL,valueAt → F0,truthy → Lo,BindsTo → L0,DictEntry → L1,letOwnedTupleGo → MC,newTuple → ME,preSum → MH,strIterType → MK,swapsWithSole → ML,typeLookup → M5,IsEnumOut → NZ,ZipApart → Oa,getMethod → P0,lastMarks → P9,ownMembersOf → S8,seqItems? → TB,subscripted → T4,swappedStores → T5,builtinsNs → C_,intKind → J',newFunctionEnv → N_,seqIndex_neg → Q_,seqIndex_of → R_,seq_tuple_add → S',setItem → S_,typeIs_int → Y_,typeIs_str → Z_,wpAny_Name → _c,wpAny_handled → _d,builtinLookup_eq_fast → _S,callType_new → _V,getattributeRaised → f?,wpAny_assign_Name → N?,wpAny_getItem_heap → O?,wpAny_isTrue_Compare1 → P?,wpAny_letOwnedTupleGo_enum → Q?,wpAny_newTuple → R?,wpAny_pyNext_enum_endD → S?,wpAny_pyNext_enum_itemD → T?,wpAny_sequenceKey → U?
open List renaming range → Od,getElem?_eq_getElem → Oe,getD_eq_getElem?_getD → Oh,mem_range → Oj,getElem?_eq_some_iff → Ol,replicate → gx,getElem?_cons_zero → Oq,getElem?_cons_succ → kv,mem_cons_self → Ot,size_toArray → Ov,mem_cons_of_mem → Ow,getElem?_set_ne → Ox,mem_cons → OA,map_congr_left → OB,length_map → OC,getElem?_map → OF,map_cons → OH,length_cons → OK,length_range → OM,not_mem_nil → OP,mem_of_getElem? → OS,getElem?_append_left → OV,length_append → OX,getElem?_append_right → OZ,eq_nil_of_length_eq_zero → Pd,all_eq_true → Pe,getElem?_set_self → Pj,mem_filter → Pn,map_map → Pw,map_append → PB,getElem?_range → PD,lookup_cons → so,mem_append_right → Ra,range_eq_range' → A6,set_cons_zero → Rh,set_cons_succ → Ri,mem_singleton → Rp,map → Rq,take_of_length_le → Rr,getElem?_eq_none → Rv,range_succ → Rx,nodup_cons → Ry,append_nil → Rz,replicate_succ → RJ,mem_map → RK,length_nil → RL,countP_eq_length_filter → RU,length_set → RZ,filter_sublist → Sa,range'_succ → Sh,length_take → Si,getElem_mem → Sj,length_singleton → Sl,flatten_cons → Sw,ext_getElem? → Sx,length_filter_le → SH,length → SI,find?_cons → SJ,filter_congr → SR,append_assoc → SS,getElem?_of_mem → L6,drop_eq_getElem_cons → Tc,nodup_range → Tj,range' → Tn,lookup → To,mem_append → Tu,getElem?_replicate → Tv,mem_flatMap → TM,any_cons → TU,countP_map → TZ,zip_cons_cons → Ud,getElem_range → Ue,filter_append → Ug,range_add → Uj,drop_length → Uz,filterMap_cons → UR,countP_eq_zero → US,zip_map' → e_,find?_eq_none → _n,toArray → h_,map_nil → i_,length_drop → _r,filter_cons → _s,ext_getElem → _t,countP_cons → _u
open PySem.Heap renaming get?_push_of_some → Of,get?_push_size → Oz,lt_size → OD,size_push → nr,push → PX,SameBut → RE,get?_update_self → SK,get?_push_ne → Uq,get?_update_other → UC,size_update → _v
open Option renaming bind_some → Og,map_some → OJ,some → za7,bind → Rn,map_eq_some_iff → RV,getD_some → Sd,map → TN,isSome_iff_exists → Ui,some → cI,none → cR
open Int renaming mul_emod → Om,add_emod → OE,emod_lt_of_pos → OQ,emod_nonneg → Pb,emod_emod → Pc,toNat_natCast → Pq,mul_assoc → PF,mul_comm → Rf,mul_one → RA,eq_ofNat_of_zero_le → RB,emod_eq_emod_iff_emod_sub_eq_zero → RR,mul_left_comm → RW,emod_eq_of_lt → RX,mul_zero → Sn,sub_emod → Sy,add_zero → SN,mul_add → Tp,add_mul → TH,one_mul → UA,toNat_of_nonneg → _l,sub_zero → k_
open Bool renaming and_eq_true → Oo,false_ne_true → Oy,false_eq_true → Pa,or_eq_true → PY,eq_iff_iff → Rc,not_eq_true' → Tz,false_and → UP,true → cL,false → dd
open Nat renaming le_refl → Ou,lt_or_ge → OG,lt_of_lt_of_le → OI,ne_of_lt → ON,not_lt_zero → OO,add_sub_cancel_left → OU,lt_succ_of_lt → Py,le_trans → PK,lt_succ_self → PR,le_add_right → PU,zero_le → Rg,lt_irrefl → Rj,ne_of_gt → RM,zero_add → C9,min_eq_left → SM,lt_trichotomy → SW,le_of_lt → UK,le_succ → M8,le_succ_of_le → _p,mul_comm → Y?,add_zero → j_,min_le_right → _e
open PySem.Value renaming ref → OR,none → Ph,type → Ss,str → UE,int → D7,bool → M9
open PySem.Challenge renaming rw_barsplit_k62_whole_turned_through_a_row → OT
open Option.some renaming inj → OW
open PySem.NameKind renaming free → OY,cell → Sv
open PySem.Builtin.SmallTypes renaming nextOf → Pf,ownedTupleIsFree → PN,ownedTupleHandOut → RI,ownedTupleFields → Ua
open PyProof.Rows renaming callWith_type1 → Pk,slot_tuple_getitem → Rm,callWith_builtin1 → Tq,slot_tupleiter_next → Ul,tupleItemsOf_ → UI,seqObj → nf,AllBare → C3,Call_ → D1,IsTup → F4,IntsAre → L3,envOfC → Mu,Subscript_ → u_,boot_enumerate → A_,subscriptTail → V_,args_tuple_getitem → _P,args_tupleiter_next → _Q,entry_tupleiter_next → _Y,listUpdate_at → q?,subscriptTail_builtinR → F?
open PySem.Str renaming ofString → Px,join → LN
open Ne renaming symm → PH
open True renaming intro → PJ
open Array renaming length_toList → PM,getElem?_eq_getElem → Tb,getElem?_toList → TJ
open PySem.SeqAt renaming EqAt → Rl
open Sum renaming inl → Ru,inr → DY
open PySem.Obj renaming mapSeq → RD,data_mapFields → Sm,isFreed_of_fields → TK,cls_mapFields → Us,mapFields → Uy
open PySem.Builtin.Tuple renaming tupleExact → RG,tupleIsExact → N4
open PySem.Builtin.Dict_items renaming ownsTuple → RH
open PySem.Calls renaming spliced_cons → RN,spliced_nil → SQ,callWith_builtin → UB
open PySem.F renaming slot_dict_valueiterator_next → RP,plainAttrs_list → RQ,slot_dict_keyiterator_next → RY,slot_enumerate_next → SY,slot_list_getattribute → Tw,slot_tuple_mul → TX,args_tuple_add_2 → Uc,entry_tuple_add → Up,slot_tuple_add → Ur,slot_zip_next → UO,args_tuple_mul_2 → _q,args_dict_valueiterator_next_1 → Z?,entry_tuple_mul → _g,entry_dict_valueiterator_next → V?,args_dict_keyiterator_next_1 → W?,entry_dict_keyiterator_next → X?
open Eq renaming trans → Se
open PySem.Builtin.List renaming listTooLong → Sf
open PySem.Heap.SameBut renaming update → So
open PySem.PyData renaming eqv → Sr,depth → Ti,canLay0 → Tx,depthAll → TR,eqvAll → UQ,canLayAll0 → _m
open False renaming elim → Su
open PySem.Builtin.Dict renaming showsAll → Sz
open PySem.Builtin.Slice renaming slicePlaces → SD,sliceAdjust → TL
open Function renaming comp_def → SE
open Classical renaming byContradiction → SO,axiomOfChoice → Uh
open ForInStep renaming yield → Ut
open PySem.SeqAt.EqAt renaming int_int → UG
local macro_rules | `(⋯) => `(by first | decide +kernel | omega | simp)
set_option autoImplicit true
noncomputable section
set_option Elab.async false
set_option linter.all false
set_option maxRecDepth 100000
set_option maxHeartbeats 4000000
abbrev EQ:=PySem.Value->PySem.Shared->Prop
abbrev TW:=List (PySem.Addr×PySem.Obj)
abbrev DQ:=Nat->Nat->Nat->Int
abbrev DW:=Nat->Nat->Int
abbrev DV:=Nat->Bool
abbrev DK:=Nat->Nat
abbrev DX:=PySem.Str->Option PySem.Value
theorem DZ{c:Prop}{h:Decidable c}(z:c){α}{a b:α}:ite c a b=a:=if_pos z
theorem DJ{c:Prop}{h:Decidable c}(z:¬c){α}{a b:α}:ite c a b=b:=if_neg z
namespace L2
open PySem PySem.Spec PyProof.Rows
abbrev Key:=Sum Int Str
noncomputable def dh:Key->dq->Bool
 | .inl k,v=>Value.isInt k v
 | .inr x,v=>Value.isStrOf x v
noncomputable def Nx(w:fm):Key->Int
 | .inl k=>hashInt k
 | .inr x=>hashStr w x
theorem j8 : ∀{k:Key} {v:dq},dh k v=cL->(∃i t,k=Ru i/\v=D7 i t)\/(∃x t,k=DY x/\v=UE x t)
 | .inl i,v,h=>by obtain⟨t,e⟩:=Value.isInt_shape (k:=i) (v:=v) h;exact .inl ⟨i,t,rfl,e⟩
 | .inr x,v,h=>by obtain⟨t,e⟩:=Value.isStrOf_shape (x:=x) (v:=v) h;exact .inr ⟨x,t,rfl,e⟩
theorem iu(i:Int)(t:p7):dh (.inl i) (.int i t)=cL:=by simp[dh,Value.isInt]
theorem ir(x:Str)(t:p7):dh (.inr x) (.str x t)=cL:=by simp[dh,Value.isStrOf]
theorem Fk(a b:Int):decide ((Ru a:Key)=Ru b)=(a==b):=by
 by_cases e:a=b
 ·subst e;simp
 ·have h : ¬(Ru a:Key)=Ru b:=λq=>e (Ru.inj q)
  rw[decide_eq_false h];exact(beq_eq_false_iff_ne.mpr e).symm
theorem Fg(a b:Str):decide ((DY a:Key)=DY b)=decide (a=b):=by
 by_cases e:a=b
 ·subst e;simp
 ·have h : ¬(DY a:Key)=DY b:=λq=>e (DY.inj q)
  rw[decide_eq_false h,decide_eq_false e]
theorem Fj(a:Int)(b:Str):decide ((Ru a:Key)=DY b)=dd:=decide_eq_false<|λq=>nomatch q
theorem Fh(a:Str)(b:Int):decide ((DY a:Key)=Ru b)=dd:=decide_eq_false<|λq=>nomatch q
noncomputable def qG(prog:gB)(w:fm):PySem.KeyKind prog w Key where
 is:=dh
 hash:=Nx w
 inj:=λv a b ha hb=>by
  rcases j8 ha with⟨i,t,rfl,rfl⟩ | ⟨x,t,rfl,rfl⟩
  ·rcases j8 hb with⟨j,u,rfl,e⟩ | ⟨y,u,rfl,e⟩
   ·injection e with e1 _;rw[e1]
   ·exact nomatch e
  ·rcases j8 hb with⟨j,u,rfl,e⟩ | ⟨y,u,rfl,e⟩
   ·exact nomatch e
   ·injection e with e1 _;rw[e1]
 byValue:=λk v h=>by rcases j8 h with⟨i,t,rfl,rfl⟩ | ⟨x,t,rfl,rfl⟩<;>rfl
 pyHash:=λz h=>by
  rcases j8 z with⟨i,t,rfl,rfl⟩ | ⟨x,t,rfl,rfl⟩
  ·exact wpAny_pyHash_int h
  ·exact wpAny_pyHash_str h
 eqBool:=λI z h=>by
  rcases j8 I with⟨i,t,rfl,rfl⟩ | ⟨x,t,rfl,rfl⟩
  ·rcases j8 z with⟨j,u,rfl,rfl⟩ | ⟨y,u,rfl,rfl⟩
   ·rw[Fk]at h;exact wpAny_eqBool_int h
   ·rw[Fj]at h;exact Rl.int_str i t y u _ _ _ _ h
  ·rcases j8 z with⟨j,u,rfl,rfl⟩ | ⟨y,u,rfl,rfl⟩
   ·rw[Fh]at h;exact Rl.str_int x t j u _ _ _ _ h
   ·rw[Fg]at h;exact wpAny_eqBool_str h
 «strs» :=λk x t v h=>by
  rcases j8 h with⟨i,u,rfl,e⟩ | ⟨y,u,rfl,e⟩
  ·exact nomatch e
  ·injection e with e1 _
   subst e1;cases v<;>rfl
theorem VU(prog:gB)(w:fm)(i:Int)(t:p7):(qG prog w).is (.inl i) (.int i t)=cL:=iu i t
theorem VT(prog:gB)(w:fm)(x:Str)(t:p7):(qG prog w).is (.inr x) (.str x t)=cL:=ir x t
inductive V where
 | eg | bl (b:Bool) | int (i:Int) | str (x:Str) | t9 (b:Array UInt8) | DD (b:UInt64) | ref (a:di) | ty (n:String)
 deriving DecidableEq
noncomputable def RelV:V->dq->Prop
 | .eg,u=>u=Ph
 | .bl b,u=>u=M9 b
 | .int i,u=>∃t,u=D7 i t
 | .str x,u=>∃t,u=UE x t
 | .t9 b,u=>∃t,u=Value.bytes b t
 | .DD b,u=>∃t,u=Value.float b t
 | .ref a,u=>u=OR a
 | .ty n,u=>u=Ss n
abbrev ej:List V->List dq->Prop:=Paired RelV
theorem ej.length(r:ej xs us):xs.length=us.length:=Paired.length r
theorem ej.get : ∀{xs:List V} {us:List dq} {i:Nat} {x:V},ej xs us->xs[i]? = cI x->∃u,us[i]? = cI u/\RelV x u
 | _,_,_,_,.nil,e=>by simp at e
 | _,_,0,_,.cons r _,e=>by simp at e;subst e;exact⟨_,rfl,r⟩
 | _,_,i+1,x,.cons _ t,e=>by obtain⟨u,a,b⟩:=ej.get (i:=i) (x:=x) t (by simpa using e);exact⟨u,by simpa using a,b⟩
theorem ej.set(r:RelV x u) : ∀{xs:List V} {us:List dq} (i:Nat),ej xs us->ej (xs.set i x) (us.set i u)
 | _,_,_,.nil=> .nil
 | _,_,0,.cons _ t=> .cons r t
 | _,_,i+1,.cons q t=> .cons q (ej.set r i t)
theorem ej.append : ∀{xs ys:List V} {us z:List dq},ej xs us->ej ys z->ej (xs++ys) (us++z)
 | _,_,_,_,.nil,s=>s
 | _,_,_,_,.cons r t,s=> .cons r (ej.append t s)
theorem ej.take : ∀{xs:List V} {us:List dq} (n:Nat),ej xs us->ej (xs.take n) (us.take n)
 | _,_,0,_=> .nil
 | _,_,_+1,.nil=> .nil
 | _,_,n+1,.cons r t=> .cons r (ej.take n t)
theorem ej.drop : ∀{xs:List V} {us:List dq} (n:Nat),ej xs us->ej (xs.drop n) (us.drop n)
 | _,_,0,r=>r
 | _,_,_+1,.nil=> .nil
 | _,_,n+1,.cons _ t=>ej.drop n t
noncomputable def p6:Option V->Option dq->Prop
 | some v,cI u=>RelV v u
 | none,cR=>True
 | _,_=>False
noncomputable def KV{I:Type}:List (I×V)->List (I×dq)->Prop:=Paired λ(p:I×V) (q:I×dq)=>p.1=q.1/\RelV p.2 q.2
noncomputable def kV:Key->V
 | .inl i=> .int i
 | .inr x=> .str x
inductive HO where
 | lst (xs:List V)
 | tup (xs:List V)
 | dK (lK:List (Key×V)) | dT (lK:List (List Key×V))
 | set (S:Int->Bool) (n:Nat)
 | ins (C dx:di) (fs:List (Str×V))
 | own (x:di)
 | xd (fs:List (Str×V))
 | met (f x:di)
 | i4 (lo hi:Int)
 | ro (o:i5) (u:HO)
 | DS (ps:Array dq)
 | ext (φ:ew->Prop)
abbrev Hp:=di->Option HO
noncomputable def upd(H:Hp)(a:di)(o:HO):Hp:=λb=>if b=a then cI o else H b
theorem zB:upd H a o a=cI o:=by unfold upd;rw[DZ rfl]
theorem zH(h:b≠a):upd H a o b=H b:=by unfold upd;rw[DJ h]
theorem ZP{H:Hp}{a:di}{o u:HO}:upd (upd H a o) a u=upd H a u:=by funext b;unfold upd;split<;>rfl
theorem j4{H:Hp}{a b:di}{o:HO}(h:H a=cI o)(h':H b=cR):a≠b:=by intro e;subst e;rw[h]at h';cases h'
noncomputable def x4(h:ew)(a:di)(items:Array dq):Prop:=∃o,h.get? a=cI o/\(o.cls,o.dict)=(Ss "tuple",cR)/\∃n,o.data = .seq items n
theorem x4.new(h:ew)(items:Array dq):x4 (h.push {cls:= .type "tuple",data:= .seq items}) h.objs.size items:=⟨_,Oz _ rfl,rfl,_,rfl⟩
theorem x4.tup(x:x4 h a items):F4 h a items:=let ⟨o,e,c,r⟩:=x;⟨o,e,(Prod.mk.inj c).1,r⟩
section
variable(P:gB)(w:fm)
noncomputable def ij(H:Hp)(h:ew)(a:di):HO->Prop
 | .lst d=>d.length<=eJ/\∃(z:List dq) (n:Nat),ej d z/\h.get? a=cI {cls:= .type "list",data:= .seq z.toArray n}
 | .tup d=>d.length<=eJ/\∃z:List dq,ej d z/\x4 h a z.toArray
 | .dK b=>b.length<=eJ/\(a==tr)=dd/\∃l,KV b l/\h.DictOf (qG P w) a l
 | .dT b=>b.length<=eJ/\(a==tr)=dd/\∃d:List (List Key×di×dq),
  Paired (λ(p:List Key×V) (q:List Key×di×dq)=>p.1=q.1/\H q.2.1=cI (.tup<|p.1.map kV)/\RelV p.2 q.2.2) b d/\
  ∃o i m,h.get? a=cI o/\o.ExactDict/\o.data = .dict i m/\i.toList=d.map (entryOfKey<|tupleKind<|qG P w)/\(d.map (·.1)).Nodup
 | .set S n=>h.SetOf (J' P w) a S n
 | .ins C e fs=>H e=cI (.own a)/\fs.length<=1000/\e≠a/\h.get? a=cI (Sq C e)/\
  ∃mA,h.Ns1 e mA/\(∀f,p6 (fs.lookup f)<|mA f)/\g_ mA (fs.map (·.1))
 | .own _=>∃o,h.get? a=cI o
 | .xd fs=>∃mA,h.Ns1 a mA/\∀f,p6 (fs.lookup f)<|mA f
 | .i4 lo r=>∃t u v,h.get? a=cI {cls:= .type "range",data:= .fields #[.int lo t,.int r u,.int 1 v]}
 | .ro o u=>h.get? a=cI o/\ij H h a u
 | .DS s=>h.get? a=cI {cls:= .none,data:= .fields s}
 | .met f x=>h.get? a=cI (UY (.ref f)<|.ref x)
 | .ext g=>g h/\(∃o,h.get? a=cI o)/\∀j k:ew,g j->(∀o,j.get? a=cI o->k.get? a=cI o)->g k
noncomputable def ji(H:Hp)(h:ew):Prop:=∀a o,H a=cI o->ij P w H h a o
end
section
variable{P:gB}{w:fm}{H H':Hp}{h h':ew}{a:di}{o:HO}
theorem ij.lt(x:ij P w H h a o):a<h.objs.size:=by
 cases o with
 | lst d=>obtain⟨_,_,_,_,e⟩:=x;exact OD e
 | tup d=>obtain⟨_,_,_,p⟩:=x;exact p.tup.lt
 | dK b=>obtain⟨_,_,_,_,o,_,_,e,_⟩:=x;exact OD e
 | dT b=>obtain⟨_,_,_,_,o,_,_,e,_⟩:=x;exact OD e
 | set S n=>obtain⟨o,_,_,_,e,_⟩:=x;exact OD e
 | ins C g fs=>obtain⟨_,_,_,e,_⟩:=x;exact OD e
 | own y=>obtain⟨_,e⟩:=x;exact OD e
 | xd fs=>obtain⟨_,⟨_,_,_,e,_⟩,_⟩:=x;exact OD e
 | i4 lo i=>obtain⟨_,_,_,e⟩:=x;exact OD e
 | ro z u=>obtain⟨e,_⟩:=x;exact OD e
 | DS j=>exact OD (show h.get? a=cI _ from x)
 | met f y=>exact OD (show h.get? a=cI _ from x)
 | ext k=>obtain⟨_,⟨_,e⟩,_⟩:=x;exact OD e
theorem Paired.M_ : ∀{z:List α} {I:List β},Paired F z I->(∀a b,F a b->G a b)->Paired G z I
 | _,_,.nil,_=> .nil
 | _,_,.cons r t,f=> .cons (f _ _ r) (Paired.M_ t f)
theorem ij.DP(x:ij P w H h a o)(k : ∀b u,(b=a\/H b=cI (.own a))->h.get? b=cI u->h'.get? b=cI u)
 (Y : ∀b,H b=cI (.own a)->H' b=cI (.own a)) (J : ∀b xs,H b=cI (.tup xs)->H' b=cI (.tup xs)):ij P w H' h' a o:=by
 induction o with
 | lst xs=>obtain⟨z,O,n,r,e⟩:=x;exact⟨z,O,n,r,k _ _ (.inl rfl) e⟩
 | tup xs=>obtain⟨z,O,r,I,e,c⟩:=x;exact⟨z,O,r,I,k _ _ (.inl rfl) e,c⟩
 | dK j=>obtain⟨z,y,F,r,I,i,g,e,c⟩:=x;exact⟨z,y,F,r,I,i,g,k _ _ (.inl rfl) e,c⟩
 | dT j=>
  obtain⟨z,y,xs,r,I,i,g,e,c⟩:=x;exact⟨z,y,xs,Paired.M_ r λp q z=>⟨z.1,J _ _ z.2.1,z.2.2⟩,I,i,g,k _ _ (.inl rfl) e,c⟩
 | set S n=>obtain⟨I,i,g,t,e,c⟩:=x;exact⟨I,i,g,t,k _ _ (.inl rfl) e,c⟩
 | ins C G fs=>
  obtain⟨d,z,E,e,l,⟨m,i,g,A,c⟩,r⟩:=x;exact⟨Y _ d,z,E,k _ _ (.inl rfl) e,l,⟨m,i,g,k _ _ (.inr d) A,c⟩,r⟩
 | own y=>obtain⟨I,e⟩:=x;exact⟨I,k _ _ (.inl rfl) e⟩
 | xd fs=>obtain⟨l,⟨m,i,g,e,c⟩,r⟩:=x;exact⟨l,⟨m,i,g,k _ _ (.inl rfl) e,c⟩,r⟩
 | i4 lo K=>obtain⟨t,u,v,e⟩:=x;exact⟨t,u,v,k _ _ (.inl rfl) e⟩
 | ro I u B=>obtain⟨e,q⟩:=x;exact⟨k _ _ (.inl rfl) e,B q⟩
 | DS s=>
  have e:h.get? a=cI {cls:= .none,data:= .fields s}:=x;show h'.get? a=cI {cls:= .none,data:= .fields s};exact k a _ (.inl rfl) e
 | met f y=>
  have e:h.get? a=cI (UY (.ref f)<|.ref y):=x;show h'.get? a=cI (UY (.ref f)<|.ref y);exact k a _ (.inl rfl) e
 | ext L=>obtain⟨p,⟨o,e⟩,st⟩:=x;exact⟨st _ _ p λo q=>k _ _ (.inl rfl) q,⟨o,k _ _ (.inl rfl) e⟩,st⟩
theorem ji.lt(x:ji P w H h)(e:H a=cI o):a<h.objs.size:=(x a o e).lt
theorem ji.fresh(x:ji P w H h)(e:h.objs.size<=a):H a=cR:=by
 cases q:H a with
 | none=>rfl
 | some u=>exact absurd (OI (x.lt q) e)<|Rj _
theorem ji.kept(x:ji P w H h)(k : ∀b u,h.get? b=cI u->h'.get? b=cI u):ji P w H h':=λa o e=>
 (x a o e).DP (λb u _ q=>k b u q) (λ_ q=>q) λ_ _ q=>q
theorem ji.laid(x:ji P w H h)(k : ∀b u,h.get? b=cI u->h'.get? b=cI u)(z:h.objs.size<=a)(new:ij P w (upd H a o) h' a o):ji P w (upd H a o) h':=λb u e=>by
 have f:=x.fresh z;by_cases d:b=a
 ·subst d;rw[zB]at e;cases e;exact new
 ·rw[zH d]at e
  exact(x b u e).DP (λc v _ q=>k c v q) (λc q=>by rw[zH (j4 q f)];exact q) λc g q=>by rw[zH (j4 q f)];exact q
end
noncomputable def Rd(H:Hp)(a:di)(u:HO):Prop:=H a=cI u\/∃o,H a=cI (.ro o u)
theorem Rd.ok(r:Rd H a u)(x:ji P w H h):ij P w H h a u:=by
 rcases r with r | ⟨o,r⟩
 ·exact x a u r
 ·obtain⟨_,q⟩:=x a _ r
  exact q
noncomputable def F7:Option HO->Prop
 | some (.lst _)=>True
 | some (.dK _)=>True
 | some (.dT _)=>True
 | some (.set _ _)=>True
 | some (.ins _ _ _)=>True
 | some (.ext _)=>True
 | _=>False
section
variable{P:gB}{w:fm}{H:Hp}{h h':ew}{x e:di}{o':HO}
theorem ji.write(ok:ji P w H h)(I:F7 (H x))(J:e=x\/H e=cI (.own x))(k : ∀b u,b≠e->h.get? b=cI u->h'.get? b=cI u)(L : ∃u,h'.get? e=cI u)
 (new:ij P w (upd H x o') h' x o'):ji P w (upd H x o') h':=λb u q=>by
 have f : ∀c y,H c=cI (.own y)->c≠x:=λc y r z=>by subst z;rw[r]at I;exact I
 have i : ∀c d,H c=cI (.tup d)->c≠x:=λc d r z=>by subst z;rw[r]at I;exact I
 by_cases a:b=x
 ·subst a;rw[zB]at q;cases q;exact new
 ·rw[zH a]at q
  by_cases O:b=e
  ·have g:H b=cI (.own x):=by
    rcases J with z | z
    ·exact absurd (O.trans z) a
    ·rw[O];exact z
   rw[q]at g;cases g;obtain⟨v,j⟩:=L;exact⟨v,by rw[O];exact j⟩
  ·refine(ok b u q).DP (λc v Y r=>k c v ?_ r) (λc r=>by rw[zH (f c b r)];exact r) λc d r=>by rw[zH (i c d r)];exact r
   rcases Y with rfl | Y
   ·exact O
   ·rintro rfl
    rcases J with z | z
    ·exact f c b Y z
    ·rw[Y]at z;cases z;exact a rfl
end
structure Un(fs ex:List di)(H H':Hp)(h h':ew):Prop where
 keep : ∀b o,h.get? b=cI o->H b=cR->b∉fs->b∉ex->h'.get? b=cI o
 slot : ∀b o,h.get? b=cI o->H b=cR->b∈fs->b∉ex->∃sl,h'.get? b=cI {o with slots:=sl}
 free : ∀b o,h.get? b=cI o->H b=cR->b∉ex->H' b=cR
 there : ∀b o,h.get? b=cI o->b∉ex->∃o',h'.get? b=cI o'
 Dl : ∀b xs,H b=cI (.tup xs)->H' b=cI (.tup xs)
 B3 : ∀b o u,H b=cI (.ro o u)->H' b=cI (.ro o u)
 Dj : ∀b ps,H b=cI (.DS ps)->∃more,H' b=cI (.DS<|ps++more)
section
variable{fs e? ex ex':List di}{H H1 H2:Hp}{h h1 h2 h':ew}{a x e:di}{o:HO}
theorem Un.any(u:Un fs ex H H1 h h1)(q:h.get? b=cI ob)(n:H b=cR)(hx:b∉ex) : ∃I,h1.get? b=cI {ob with slots:=I}:=by
 by_cases a:b∈fs
 ·exact u.slot b ob q n a hx
 ·exact⟨ob.slots,u.keep b ob q n a hx⟩
theorem Un.kept(k : ∀b u,h.get? b=cI u->h'.get? b=cI u):Un fs ex H H h h':=
 ⟨λb z q _ _ _=>k b z q,λb z q _ _ _=>⟨z.slots,k b z q⟩,λ_ _ _ n _=>n,λb z q _=>⟨z,k b z q⟩,λ_ _ q=>q,λ_ _ _ q=>q,λ_ a q=>⟨#[],by rw[q];simp⟩⟩
theorem Un.refl:Un fs ex H H h h:=Un.kept λ_ _ q=>q
theorem Un.laid(k : ∀b u,h.get? b=cI u->h'.get? b=cI u)(z:h.objs.size<=a)(hn:H a=cR):Un fs ex H (upd H a o) h h' where
 keep:=λb u q _ _ _=>k b u q
 slot:=λb u q _ _ _=>⟨u.slots,k b u q⟩
 free:=λb u q n _=>by rw[zH (ON<|OI (OD q) z)];exact n
 there:=λb u q _=>⟨u,k b u q⟩
 Dl:=λb xs q=>by rw[zH (j4 q hn)];exact q
 B3:=λb u xs q=>by rw[zH (j4 q hn)];exact q
 Dj:=λb ps q=>⟨#[],by rw[zH (j4 q hn),q];simp⟩
theorem Un.write(I:F7 (H x))(Y:e=x\/H e=cI (.own x))(k : ∀b u,b≠e->h.get? b=cI u->h'.get? b=cI u)(J : ∃u,h'.get? e=cI u):Un fs ex H (upd H x o) h h':=by
 have f : ∀b,H b=cR->b≠x:=λb n z=>by subst z;rw[n]at I;exact I
 have d : ∀b,H b=cR->b≠e:=λb n z=>by
  subst z;rcases Y with r | r
  ·exact f b n r
  ·rw[n]at r;cases r
 have a : ∀b u,H b=cI u->¬F7 (cI u)->b≠x:=λb u q nm z=>by subst z;rw[q]at I;exact nm I
 refine⟨λb u q n _ _=>k b u (d b n) q,λb u q n _ _=>⟨u.slots,k b u (d b n) q⟩,λb u q n _=>by rw[zH (f b n)];exact n,λb u q _=>?_,
  λb g q=>by rw[zH (a b _ q λz=>z)];exact q,λb u g q=>by rw[zH (a b _ q λz=>z)];exact q,λb i q=>⟨#[],by rw[zH (a b _ q λz=>z),q];simp⟩⟩
 by_cases O:b=e
 ·subst O;exact J
 ·exact⟨u,k b u O q⟩
end
noncomputable def M3(h:ew)(H:Hp):List di:=(Od h.objs.size).filter λa=>(H a).isSome
noncomputable def pB(h:ew)(H:Hp):ew:=PySem.W.hideAll h<|M3 h H
theorem iF(h:ew)(H:Hp):(pB h H).objs.size=h.objs.size:=PySem.W.hideAll_size _ _
theorem pA(e:h.get? b=cI o)(n:H b=cR):(pB h H).get? b=cI o:=
 PySem.W.hideAll_get _ e λa=>by have q:(H b).isSome=cL:=(Pn.mp a).2;rw[n]at q;simp at q
theorem Ao(e:(pB h H).get? b=cI o):h.get? b=cI o/\H b=cR:=by
 have I:h.get? b=cI o:=PySem.W.of_hideAll (M3 h H) e;refine⟨I,?_⟩;cases q:H b with
 | none=>rfl
 | some x=>
  have a:b∈M3 h H:=Pn.mpr ⟨Oj.mpr<|OD I,by simp[q]⟩;have z:(pB h H).get? b=cR:=PySem.W.hideAll_none (M3 h H) a;rw[z]at e;cases e
noncomputable def BE(g h:ew)(L:di):List (di×i5):=(Od h.objs.size).filterMap λa=>if a=L\/(g.get? a).isSome=cL then cR else (h.get? a).map λo=>(a,o)
noncomputable def qZ(g h:ew)(L d:di):List (di×i5):=(BE g h L).filter λp=>decide<|p.1≠d
structure Mod(K:Ob)(mg:DX)(base:ew):Prop where
 G5:K.In base
 glob:base.Ns qd mg
 blt : ∃mb,base.Ns C_ mb/\∀x:Str,x ≠ "__name__"->mb x=A8 x
 nolimit:base.NoLimit
structure Cx where
 prog:gB
 w:fm
 K:Ob
 mg:Str->Option dq
 base:ew
 A:i8
 N:List Str
 m4:d8
 F3:Hp
 env:m5
 outer:List m5
 stack:List m5
 ex:List di
 fn:Str->Bool
 calm:Bool
 pn:List (di×i5)
 xe:dq->d8->Prop
noncomputable def wh(l:List m5):List di:=l.filterMap (·.frame)
abbrev Cx.fs(X:Cx):List di:=wh X.outer
noncomputable def N8(I:f9)(x:Str):Prop:=I.names.lookup x=cI .local\/I.names.lookup x=cI .cell\/I.names.lookup x=cI .free
noncomputable def Loc(I:f9)(x:Str):Prop:=I.names.lookup x=cI .local\/I.names.lookup x=cI .cell
noncomputable def NO(env:m5)(h:ew)(m:DX)(x:Str)(u:dq):Prop:=
 (env.kindOf x=cI .local/\m x=cI u)\/((env.kindOf x=cI .cell\/env.kindOf x=cI .free)/\∃c,env.cells.lookup x=cI c/\h.IsCell c (cI u))
structure Cx.Ok(X:Cx):Prop where
 mod:Mod X.K X.mg X.base
 kind:X.env.scope.kind = .function
 glob:X.env.globals=qd
 blt:X.env.builtins=C_
 above:X.m4.heap.objs.size<=X.env.locals
 inj : ∀x y c,X.env.cells.lookup x=cI c->X.env.cells.lookup y=cI c->x=y
 has : ∀x,(X.env.kindOf x=cI .cell\/X.env.kindOf x=cI .free)->∃c,X.env.cells.lookup x=cI c
 Gf : ∀x c,X.fn x=cL->X.env.cells.lookup x=cI c->X.m4.heap.objs.size<=c
 hd:X.calm=cL->X.A.handled=cR
 frames:X.A.frames=cI X.stack
 MJ:X.stack=X.outer\/(X.stack=X.env::X.outer/\X.env.frame=cI X.env.locals)
 Mv : ∀b∈X.ex,b≠X.env.locals/\∀x c,X.env.cells.lookup x=cI c->c≠b
 bs : ∀b o,X.base.get? b=cI o->X.m4.heap.get? b=cI o/\X.F3 b=cR
 A9:X.base.objs.size<=X.m4.heap.objs.size
 H9 : ∀b o,X.base.get? b=cI o->b∉X.ex
 G3 : ∀b∈X.ex,b∉X.fs
 u5:X.m4.heap.FunFrames X.base X.outer
 DE : ∀b∈X.fs,X.F3 b=cR
structure Inv(X:Cx)(pins:TW)(σ:List (Option V))(H:Hp)(s:d8):Prop where
 ok:X.Ok
 os:s.os=X.m4.os
 bare:C3 s.gens
 base:Un X.fs X.ex X.F3 H X.m4.heap s.heap
 loc : ∃m,s.heap.Ns X.env.locals m/\∀(i:Nat) (x:Str) (v:V),X.N[i]? = cI x->σ[i]? = cI (cI v)->N8 X.env.scope x->∃u,RelV v u/\NO X.env s.heap m x u
 cell : ∀x c,X.env.cells.lookup x=cI c->∃v,s.heap.IsCell c v
 free:H X.env.locals=cR
 y7 : ∀x c,X.env.cells.lookup x=cI c->H c=cR
 pin : ∀p∈X.pn++pins,s.heap.get? p.1=cI p.2/\H p.1=cR/\p.1≠X.env.locals/\p.1∉X.fs/\∀v,p.2.data ≠ .cell v
 eG:ji X.prog X.w H s.heap
 len:σ.length=X.N.length
section
variable{X:Cx}{pins:TW}{σ:List (Option V)}{H H':Hp}{s:d8}{h':ew}
theorem Cx.Ok.t?(ok:X.Ok)(e:X.base.get? b=cI o):b∉X.fs:=λa=>by have:=(ok.u5.mem a).1;rw[e]at this;cases this
theorem Inv.bs(I:Inv X pins σ H s) : ∀b o,X.base.get? b=cI o->s.heap.get? b=cI o/\H b=cR:=λb o e=>
 ⟨I.base.keep b o (I.ok.bs b o e).1 (I.ok.bs b o e).2 (I.ok.t? e) (I.ok.H9 b o e),I.base.free b o (I.ok.bs b o e).1 (I.ok.bs b o e).2 (I.ok.H9 b o e)⟩
theorem Inv.bk(I:Inv X pins σ H s) : ∀b o,X.base.get? b=cI o->s.heap.get? b=cI o:=λb o e=>(I.bs b o e).1
theorem Inv.mod(I:Inv X pins σ H s):Mod X.K X.mg X.base:=I.ok.mod
theorem Inv.i7(I:Inv X pins σ H s):X.K.In s.heap:=I.ok.mod.G5.keeps I.bk
theorem Inv.lt(I:Inv X pins σ H s):X.env.locals<s.heap.objs.size:=let ⟨_,a,_⟩:=I.loc;a.lt
theorem Inv.sz(I:Inv X pins σ H s):X.m4.heap.objs.size<=s.heap.objs.size:=PK I.ok.above<|UK I.lt
theorem Inv.v?(I:Inv X pins σ H s)(h:s.heap.objs.size<=a):a∉X.fs:=λb=>by obtain⟨_,o,z,_⟩:=I.ok.u5.mem b;exact absurd (OI (OD z)<|PK I.sz h)<|Rj _
theorem Inv.DB(I:Inv X pins σ H s) : ∀x c,X.env.cells.lookup x=cI c->c≠X.env.locals:=λx c e z=>by obtain⟨v,o,O,a⟩:=I.cell x c e;obtain⟨m,⟨g,f,d,Y,b,_⟩,_⟩:=I.loc;rw[z,Y]at O;cases O;rw[b]at a;cases a
theorem Inv.u5(I:Inv X pins σ H s):s.heap.FunFrames X.base X.outer:=by
 have all : ∀(l:List m5),(∀b∈wh l,b∈X.fs)->X.m4.heap.FunFrames X.base l->s.heap.FunFrames X.base l:=by
  intro l
  induction l with
  | nil=>intro _ _;trivial
  | cons f r n=>
   intro d i;obtain⟨h,⟨L,o,O,j,k,g⟩,m⟩:=i;have Y:L∈X.fs:=d L (by unfold wh;rw[UR,O];exact Ot);obtain⟨p,e⟩:=I.base.slot L o k (I.ok.DE L Y) Y λz=>I.ok.G3 L z Y;exact⟨h,⟨L,_,O,j,e,g⟩,n (λb a=>d b<|by unfold wh;rw[UR,O];exact Ow _ a) m⟩
 exact all X.outer (λ_ a=>a) I.ok.u5
theorem Inv.stack(I:Inv X pins σ H s):s.heap.FunFrames X.base X.stack:=by
 rcases I.ok.MJ with e | ⟨e,z⟩
 ·rw[e];exact I.u5
 ·rw[e]
  obtain⟨m,a,_⟩:=I.loc;refine .cons (by rw[I.ok.kind];decide) z a ?_ I.u5;exact Heap.get?_none_of_le<|PK I.ok.A9 I.ok.above
theorem Inv.T3(I:Inv X pins σ H s) : ∀b∈wh X.stack,b∈X.env.locals::X.fs:=λb a=>by
 rcases I.ok.MJ with e | ⟨e,z⟩
 ·rw[e]at a;exact Ow _ a
 ·rw[e]at a
  unfold wh at a;rw[UR,z]at a;exact a
theorem Inv.V'(I:Inv X pins σ H s) : ∀b∈wh X.stack,H b=cR:=λb hb=>by
 rcases OA.mp (I.T3 b hb)with e | hb
 ·rw[e];exact I.free
 ·obtain⟨_,o,O,_⟩:=I.ok.u5.mem hb
  exact I.base.free b o O (I.ok.DE b hb) λz=>I.ok.G3 b z hb
theorem Inv.step{g':Array GenState}{t':Nat}{d':Drawn}{ch:List di}(I:Inv X pins σ H s)
 (Y : ∀b∈ch,(b∈X.ex\/X.m4.heap.objs.size<=b)/\b≠X.env.locals/\(∀x c,X.env.cells.lookup x=cI c->c≠b)/\∀p∈X.pn++pins,p.1≠b)
 (keep : ∀b o,b≠X.env.locals->b∉X.fs->b∉ch->s.heap.get? b=cI o->H b=cR->h'.get? b=cI o)
 (J : ∀b o,b≠X.env.locals->b∈X.fs->b∉ch->s.heap.get? b=cI o->H b=cR->∃sl,h'.get? b=cI {o with slots:=sl}) (free : ∀b o,b∉ch->s.heap.get? b=cI o->H b=cR->H' b=cR)
 (L : ∀b o,b∉ch->s.heap.get? b=cI o->∃o',h'.get? b=cI o')
 (Dl : ∀b xs,H b=cI (.tup xs)->H' b=cI (.tup xs)) (B3 : ∀b o u,H b=cI (.ro o u)->H' b=cI (.ro o u)) (Dj : ∀b ps,H b=cI (.DS ps)->∃more,H' b=cI (.DS<|ps++more))
 (ns : ∀m,s.heap.Ns X.env.locals m->h'.Ns X.env.locals m) (eG:ji X.prog X.w H' h') (hg:C3 g') :
 Inv X pins σ H' {s with heap:=h',gens:=g',drawn:=d',toks:=t'}:=by
 have A : ∀b o,X.m4.heap.get? b=cI o->b≠X.env.locals:=λb o e=>ON<|OI (OD e) I.ok.above;have t : ∀b o,X.m4.heap.get? b=cI o->b∉X.ex->b∉ch:=λb o e a g=>by
  rcases (Y b g).1 with z | z
  ·exact a z
  ·exact absurd (OI (OD e) z)<|Rj _
 have B : ∀x c,X.env.cells.lookup x=cI c->∀v,s.heap.IsCell c v->h'.IsCell c v:=λx c e v N=>by
  obtain⟨o,O,y⟩:=N;have h:c∉ch:=λz=>(Y c z).2.2.1 x c e rfl;by_cases C:c∈X.fs
  ·obtain⟨sl,q⟩:=J c o (I.DB x c e) C h O (I.y7 x c e)
   exact⟨_,q,y⟩
  ·exact⟨o,keep c o (I.DB x c e) C h O<|I.y7 x c e,y⟩
 refine⟨I.ok,I.os,hg,⟨λb o e n g a=>?_,λb o e n g a=>?_,λb o e n a=>?_,λb o e a=>?_,λb xs e=>Dl b xs<|I.base.Dl b xs e,λb o xs e=>B3 b o xs<|I.base.B3 b o xs e,λb ps e=>?_⟩,?_,λx c e=>?_,?_,λx c e=>?_,λp E=>?_,eG,I.len⟩
 ·exact keep b o (A b o e) g (t b o e a) (I.base.keep b o e n g a)<|I.base.free b o e n a
 ·obtain⟨sl,f⟩:=I.base.slot b o e n g a
  obtain⟨K,j⟩:=J b _ (A b o e) g (t b o e a) f<|I.base.free b o e n a;exact⟨K,j⟩
 ·obtain⟨o',f⟩:=I.base.there b o e a
  exact free b o' (t b o e a) f<|I.base.free b o e n a
 ·obtain⟨o',f⟩:=I.base.there b o e a
  exact L b o' (t b o e a) f
 ·obtain⟨R,f⟩:=I.base.Dj b ps e
  obtain⟨S,j⟩:=Dj b _ f;exact⟨R++S,by rw[j,Array.append_assoc]⟩
 ·obtain⟨m,Q,P⟩:=I.loc
  refine⟨m,ns m Q,λi x v f j M=>?_⟩;obtain⟨u,r,l⟩:=P i x v f j M;refine⟨u,r,?_⟩;rcases l with l | ⟨k,c,e,z⟩
  ·exact .inl l
  ·exact .inr ⟨k,c,e,B x c e _ z⟩
 ·obtain⟨v,z⟩:=I.cell x c e
  exact⟨v,B x c e v z⟩
 ·obtain⟨m,⟨o,_,_,O,_⟩,_⟩:=I.loc
  exact free _ o (λz=>(Y _ z).2.1 rfl) O I.free
 ·obtain⟨v,o,O,y⟩:=I.cell x c e
  exact free c o (λz=>(Y c z).2.2.1 x c e rfl) O<|I.y7 x c e
 ·obtain⟨e,n,F,G,d⟩:=I.pin p E
  have h:p.1∉ch:=λz=>(Y p.1 z).2.2.2 p E rfl;exact⟨keep p.1 p.2 F G h e n,free p.1 p.2 h e n,F,G,d⟩
theorem Inv.un{t':Nat}(I:Inv X pins σ H s)(u:Un X.fs [] H H' s.heap h')(J:ji X.prog X.w H' h'):Inv X pins σ H' {s with heap:=h',toks:=t'}:=by
 obtain⟨m,⟨o,k,j,O,r⟩,_⟩:=id I.loc;obtain⟨t,g⟩:=u.any O I.free ⋯;exact I.step (g':=s.gens) (d':=s.drawn) (ch:=[]) (λ_ z=>nomatch z) (λb o _ a _ e n=>u.keep b o e n a ⋯) (λb o _ a _ e n=>u.slot b o e n a ⋯) (λb o _ e n=>u.free b o e n ⋯) (λb o _ e=>u.there b o e ⋯) u.Dl u.B3 u.Dj (λl h=>by obtain⟨p,d,f,Y,i⟩:=h;rw[O]at Y;cases Y;exact⟨_,d,f,g,i⟩) J I.bare
theorem Inv.call{g':Array GenState}{t':Nat}{d':Drawn}{ch:List di}(I:Inv X pins σ H s)(u:Un (wh X.stack) ch H H' s.heap h')(J:ji X.prog X.w H' h')(hg:C3 g')
 (L : ∀b∈ch,(b∈X.ex\/X.m4.heap.objs.size<=b)/\b≠X.env.locals/\(∀x c,X.env.cells.lookup x=cI c->c≠b)/\∀p∈X.pn++pins,p.1≠b) :
 Inv X pins σ H' {s with heap:=h',gens:=g',drawn:=d',toks:=t'}:=by
 obtain⟨m,⟨o,l,k,d,r⟩,_⟩:=id I.loc;obtain⟨A,Y⟩:=u.any d I.free λz=>(L _ z).2.1 rfl;exact I.step (ch:=ch) L (λb o Y h O e n=>u.keep b o e n (λz=>(OA.mp<|I.T3 b z).elim Y h) O) (λb o _ _ O e n=>u.any e n O) (λb o O e n=>u.free b o e n O) (λb o O e=>u.there b o e O) u.Dl u.B3 u.Dj (λt i=>by obtain⟨y,f,g,a,j⟩:=i;rw[d]at a;cases a;exact⟨_,f,g,Y,j⟩) J hg
theorem Inv.turned{t':Nat}{it:di}(I:Inv X pins σ H s)(k : ∀b o,b≠it->s.heap.get? b=cI o->h'.get? b=cI o)(hn:H it=cR)(Y:it≠X.env.locals)
 (J:it∈X.ex\/X.m4.heap.objs.size<=it) (L : ∀x c,X.env.cells.lookup x=cI c->c≠it) (h3 : ∀p∈X.pn++pins,p.1≠it):Inv X pins σ H {s with heap:=h',toks:=t'}:=by
 have a : ∀b u,H b=cI u->b≠it:=λb u e z=>by rw[z,hn]at e;cases e
 refine I.step (g':=s.gens) (d':=s.drawn) (ch:=[it]) (λb g=>?_) (λb o _ _ O e _=>k b o (λz=>O<|by simp[z]) e) (λb o _ _ O e _=>⟨o.slots,k b o (λz=>O<|by simp[z]) e⟩) (λ_ _ _ _ n=>n)
  (λb o O e=>⟨o,k b o (λz=>O<|by simp[z]) e⟩) (λ_ _ e=>e) (λ_ _ _ e=>e) (λb j e=>⟨#[],by rw[e];simp⟩) (λm h=>?_) (λb u e=>?_) I.bare
 ·have e:b=it:=by simpa using g
  subst e;exact⟨J,Y,L,h3⟩
 ·obtain⟨o,f,d,i,r⟩:=h
  exact⟨o,f,d,k _ o (PH Y) i,r⟩
 ·refine(I.eG b u e).DP (λc v O q=>k c v ?_ q) (λ_ q=>q) λ_ _ q=>q
  rcases O with z | z
  ·rw[z];exact a b u e
  ·exact a c _ z
theorem Inv.tok(I:Inv X pins σ H s)(t:Nat):Inv X pins σ H {s with toks:=t}:=I.un (h':=s.heap) (t':=t) Un.refl I.eG
theorem Inv.kept(I:Inv X pins σ H s)(k : ∀b u,s.heap.get? b=cI u->h'.get? b=cI u):Inv X pins σ H {s with heap:=h',toks:=t'}:=I.un (Un.kept k)<|I.eG.kept k
theorem Inv.laid(I:Inv X pins σ H s)(k : ∀b u,s.heap.get? b=cI u->h'.get? b=cI u)(z:s.heap.objs.size<=a)(new:ij X.prog X.w (upd H a o) h' a o) :
 Inv X pins σ (upd H a o) {s with heap:=h',toks:=t'}:=I.un (Un.laid k z<|I.eG.fresh z)<|I.eG.laid k z new
theorem Inv.write(I:Inv X pins σ H s)(z:F7 (H x))(O:e=x\/H e=cI (.own x))(k : ∀b u,b≠e->s.heap.get? b=cI u->h'.get? b=cI u)(Y : ∃u,h'.get? e=cI u)
 (new:ij X.prog X.w (upd H x o) h' x o):Inv X pins σ (upd H x o) {s with heap:=h',toks:=t'}:=I.un (Un.write z O k Y)<|I.eG.write z O k Y new
theorem Inv.O_(I:Inv X pins σ H s)(h : ∀p∈O,s.heap.get? p.1=cI p.2/\H p.1=cR/\p.1≠X.env.locals/\p.1∉X.fs/\∀v,p.2.data ≠ .cell v):Inv X O σ H s:=
 ⟨I.ok,I.os,I.bare,I.base,I.loc,I.cell,I.free,I.y7,λp Y=>(Tu.mp Y).elim (λz=>I.pin p<|List.mem_append_left _ z) (h p),I.eG,I.len⟩
theorem aF{N:List Str}(z:N.Nodup){i j:Nat}{x:Str}(a:N[i]? = cI x)(b:N[j]? = cI x):i=j:=by obtain⟨f,d⟩:=Ol.mp a;obtain⟨g,e⟩:=Ol.mp b;exact(List.getElem_inj z).mp (d.trans e.symm)
theorem Yf{M:Model}{A:i8}{E:EQ}{i:Nat}{x:Str}{v:V}{u:dq}{Q:Unit->d8->Prop}(I:Inv X pins σ H s)(hN:X.N.Nodup)(J:X.N[i]? = cI x)(hx:Loc X.env.scope x)(r:RelV v u)
 (h : ∀s',Inv X pins (σ.set i<|some v) H s'->(∃a,RE a s.heap s'.heap/\(a=X.env.locals\/X.env.cells.lookup x=cI a))->Q () s') (hf:X.fn x=cL\/X.env.scope.names.lookup x=cI .local:=by first | exact .inl rfl | exact .inr rfl | assumption):wpAny M A (storeName X.env x u) Q E s:=by
 obtain⟨m,L,hl⟩:=id I.loc;have am:(X.env.scope.kind == .class || (X.env.scope.kind == .module && X.env.locals != X.env.globals))=dd:=by rw[I.ok.kind];rfl
 have a8:i<σ.length:=by rw[I.len];exact(Ol.mp J).1
 have DB:=I.DB;have a9 : ∀{a:di} {h':ew},(∃o,s.heap.get? a=cI o/\H a=cR)->RE a s.heap h'->ji X.prog X.w H h':=λ{a h'} ha f b ob e=>by
  obtain⟨_,_,aa⟩:=ha;refine(I.eG b ob e).DP (λc F O q=>(f.2 c ?_).trans q) (λ_ q=>q) λ_ _ q=>q;rintro rfl;rcases O with rfl | O
  ·rw[aa]at e;cases e
  ·rw[aa]at O;cases O
 rcases hx with hk | hk
 ·refine wpAny_storeName_local hk L (λh' ap f=>?_) am
  obtain⟨oL,_,_,as,_⟩:=id L;refine h _ ⟨I.ok,I.os,I.bare,⟨λb o e n t hx=>?_,λb o e n t hx=>?_,I.base.free,λb o e hx=>?_,I.base.Dl,I.base.B3,I.base.Dj⟩,⟨_,ap,λj y Z g l K=>?_⟩,λy c e=>?_,I.free,I.y7,λp P=>?_,a9 ⟨oL,as,I.free⟩ f,by simpa using I.len⟩ ⟨_,f,.inl rfl⟩
  ·exact(f.2 b<|ON<|OI (OD e) I.ok.above).trans (I.base.keep b o e n t hx)
  ·obtain⟨U,g⟩:=I.base.slot b o e n t hx
   exact⟨U,(f.2 b<|ON<|OI (OD e) I.ok.above).trans g⟩
  ·obtain⟨S,g⟩:=I.base.there b o e hx
   exact⟨S,(f.2 b<|ON<|OI (OD e) I.ok.above).trans g⟩
  ·by_cases Y:j=i
   ·subst Y
    rw[J]at g;cases g;rw[Pj a8]at l;cases l;exact⟨u,r,.inl ⟨hk,by simp⟩⟩
   ·rw[Ox (PH Y)]at l
    obtain⟨W,T,q⟩:=hl j y Z g l K;refine⟨W,T,?_⟩;rcases q with⟨k,e⟩ | ⟨k,c,e,z⟩
    ·refine .inl ⟨k,?_⟩
     have:y≠x:=λe=>Y<|aF hN g<|e ▸ J;simp[this,e]
    ·exact .inr ⟨k,c,e,z.sameBut f<|DB y c e⟩
  ·obtain⟨F,z⟩:=I.cell y c e
   exact⟨F,z.sameBut f<|DB y c e⟩
  ·obtain⟨e,n,C,R,d⟩:=I.pin p P
   exact⟨(f.2 p.1 C).trans e,n,C,R,d⟩
 ·have G:X.fn x=cL:=by
   rcases hf with z | z
   ·exact z
   ·rw[z]at hk;cases hk
  obtain⟨c,O⟩:=I.ok.has x<|.inl hk;obtain⟨F,z⟩:=I.cell x c O;refine wpAny_storeName_cell I.ok.kind hk O z<|λh' ab f=>?_;obtain⟨oc,ac,ax⟩:=id z;refine h {s with heap:=h'} ⟨I.ok,I.os,I.bare,⟨λb o e n t hx=>?_,λb o e n t hx=>?_,I.base.free,λb o e hx=>?_,I.base.Dl,I.base.B3,I.base.Dj⟩,⟨m,L.sameBut f<|PH<|DB x c O,λj y Z g l K=>?_⟩,λy B e=>?_,I.free,I.y7,λp P=>?_,a9 ⟨oc,ac,I.y7 x c O⟩ f,by simpa using I.len⟩ ⟨c,f,.inr O⟩
  ·exact(f.2 b<|ON<|OI (OD e)<|I.ok.Gf x c G O).trans (I.base.keep b o e n t hx)
  ·obtain⟨U,g⟩:=I.base.slot b o e n t hx
   exact⟨U,(f.2 b<|ON<|OI (OD e)<|I.ok.Gf x c G O).trans g⟩
  ·obtain⟨S,g⟩:=I.base.there b o e hx
   exact⟨S,(f.2 b<|ON<|OI (OD e)<|I.ok.Gf x c G O).trans g⟩
  ·by_cases Y:j=i
   ·subst Y
    rw[J]at g;cases g;rw[Pj a8]at l;cases l;exact⟨u,r,.inr ⟨.inl hk,c,O,ab⟩⟩
   ·rw[Ox (PH Y)]at l
    obtain⟨W,T,q⟩:=hl j y Z g l K;refine⟨W,T,?_⟩;rcases q with q | ⟨k,B,e,z'⟩
    ·exact .inl q
    ·refine .inr ⟨k,B,e,z'.sameBut f ?_⟩
     rintro rfl;exact Y<|aF hN g<|I.ok.inj _ _ _ e O ▸ J
  ·by_cases ae:B=c
   ·subst ae;exact⟨_,ab⟩
   ·obtain⟨w2,z2⟩:=I.cell y B e
    exact⟨w2,z2.sameBut f ae⟩
  ·obtain⟨e,n,C,R,d⟩:=I.pin p P
   refine⟨(f.2 p.1 ?_).trans e,n,C,R,d⟩;intro q;rw[q,ac]at e;have q':oc=p.2:=OW e;exact d F (by rw[<- q'];exact ax)
theorem WW(I:Inv X pins σ H s)(z:X.N.Nodup)(L:X.N[i]? = cI x)(hx:Loc X.env.scope x)(r:RelV v u)
 (h : ∀J,Inv X pins (σ.set i<|some v) H J->Q () J) (O:X.fn x=cL\/X.env.scope.names.lookup x=cI .local:=by first | exact .inl rfl | exact .inr rfl | assumption):wpAny M A (storeName X.env x u) Q E s:=
 Yf I z L hx r (λJ Y _=>h J Y) O
theorem Inv._U(I:Inv X pins σ H s)(z:s'.os=s.os)(u:Un (wh X.stack) ch H H' s.heap s'.heap)(J:ji X.prog X.w H' s'.heap)(O:C3 s'.gens)
 (Y : ∀b∈ch,(b∈X.ex\/X.m4.heap.objs.size<=b)/\b≠X.env.locals/\(∀x c,X.env.cells.lookup x=cI c->c≠b)/\∀p∈X.pn++pins,p.1≠b):Inv X pins σ H' s':=by
 obtain⟨h',g',d',t',a⟩:=s';have e:a=s.os:=z;subst e;exact I.call (g':=g') (t':=t') (d':=d') u J O Y
end
abbrev XK:=dq->Option di->Hp->Prop
abbrev St:=List (Option V)
abbrev VK:=V->Hp->Prop
abbrev TE:=St->Hp->VK->Prop
abbrev TT:=St->Hp->(Bool->Hp->Prop)->Prop
abbrev TA:=St->Hp->(List V->Hp->Prop)->Prop
structure Ends where
 nx:St->Hp->Prop
 rt:VK
 bk:St->Hp->Prop:=λ_ _=>False
 ct:St->Hp->Prop:=λ_ _=>False
abbrev TS:=Ends->St->Hp->Prop
noncomputable def EP(X:Cx)(I:TW)(L:St)(Q:VK)(u:dq)(J:d8):Prop:=∃v a,Inv X I L a J/\RelV v u/\Q v a
noncomputable def TP(X:Cx)(I:TW)(L:St)(Q:Bool->Hp->Prop)(b:Bool)(J:d8):Prop:=∃a,Inv X I L a J/\Q b a
noncomputable def AP(X:Cx)(I:TW)(L:St)(Q:List V->Hp->Prop)(us:List dq)(J:d8):Prop:=∃b a,Inv X I L a J/\ej b us/\Q b a
noncomputable def SP(X:Cx)(I:TW)(D:Ends)(f:Flow)(J:d8):Prop:=
 match f with
 | .next=>∃a b,Inv X I a b J/\D.nx a b
 | .brk=>∃a b,Inv X I a b J/\D.bk a b
 | .cont=>∃a b,Inv X I a b J/\D.ct a b
 | .ret u=>∃v a b,Inv X I a b J/\RelV v u/\D.rt v b
noncomputable def PE(X:Cx)(e:dy)(t:TE):Prop:=
 ∀(a:TW) (s:d8) (b:St) (H:Hp) (Q:VK),Inv X a b H s->t b H Q->wpAny (d5 X.prog X.w) X.A (d3 e X.env) (EP X a b Q) X.xe s
noncomputable def PT(X:Cx)(e:dy)(t:TT):Prop:=
 ∀(a:TW) (s:d8) (b:St) (H:Hp) (Q:Bool->Hp->Prop),Inv X a b H s->t b H Q->wpAny (d5 X.prog X.w) X.A (DG e X.env<|eval e X.env) (TP X a b Q) X.xe s
noncomputable def PW(X:Cx)(e:dy)(t:TT):Prop:=
 ∀(z:Sem dq) (a:TW) (s:d8) (b:St) (H:Hp) (Q:Bool->Hp->Prop),Inv X a b H s->t b H Q->wpAny (d5 X.prog X.w) X.A (DG e X.env z) (TP X a b Q) X.xe s
theorem PW.pt(h:PW X e t):PT X e t:=h _
noncomputable def PA(X:Cx)(I:List dy)(t:TA):Prop:=
 ∀(pos:eo) (a:TW) (s:d8) (b:St) (H:Hp) (Q:List V->Hp->Prop),Inv X a b H s->t b H Q->wpAny (d5 X.prog X.w) X.A (FL<|backTo pos<|starEach I X.env) (AP X a b Q) X.xe s
noncomputable def PS(X:Cx)(st:g8)(t:TS):Prop:=
 ∀(a:TW) (s:d8) (b:St) (H:Hp) (D:Ends),Inv X a b H s->t D b H->wpAny (d5 X.prog X.w) X.A (exec st X.env) (SP X a D) X.xe s
noncomputable def hO(X:Cx)(st:List g8)(t:TS):Prop:=
 ∀(a:TW) (s:d8) (b:St) (H:Hp) (D:Ends),Inv X a b H s->t D b H->wpAny (d5 X.prog X.w) X.A (execs st X.env) (SP X a D) X.xe s
theorem ed(h:wpAny M A t Q E s)(z : ∀a s,Q a s->Q' a s):wpAny M A t Q' E s:=t5 h z λ_ _ x=>x
section
variable{X:Cx}
noncomputable def wF(i:Nat):TE:=λa H Q=>∃v,a[i]? = cI (cI v)/\Q v H
noncomputable def tC(v:V):TE:=λ_ H Q=>Q v H
theorem Ej(hN:X.N[i]? = cI x)(hv:N8 X.env.scope x)(J:(x==("__debug__" : Str))=dd:=by decide)(L:(x==("__classdict__" : Str))=dd:=by decide):PE X (.Name x pos) (wF i):=by
 intro a s g H Q I h;obtain⟨v,e,h⟩:=h;obtain⟨m,f,b⟩:=I.loc;obtain⟨u,r,l⟩:=b i x v hN e hv;have z:EP X a g Q u s:=⟨v,H,I,r,h⟩;rcases l with⟨hk,d⟩ | ⟨hk,c,O,Y⟩
 ·exact _c (wpAny_loadName_local I.ok.kind hk f d z) J
 ·rcases hk with hk | hk
  ·exact _c (wpAny_loadName_cell I.ok.kind hk O Y z) J
  ·exact _c (wpAny_loadName_free I.ok.kind hk O Y z L) J
theorem Em:PE X (.Constant (.int i) j pos) (tC<|.int i):=λ_ _ _ H _ I h=>wpAny_Constant_int ⟨.int i,H,I.tok _,⟨_,rfl⟩,h⟩
theorem Iq:PE X (.Constant (.bool b) j pos) (tC<|.bl b):=λ_ _ _ H _ I h=>Constant_bool ⟨.bl b,H,I,rfl,h⟩
theorem se:PE X (.Constant (.str x) j pos) (tC<|.str x):=λ_ _ _ H _ I h=>Calls.Constant_str ⟨.str x,H,I.tok _,⟨_,rfl⟩,h⟩
noncomputable def Gl(X:Cx)(x:Str):Prop:=X.env.kindOf x=cI .globalImplicit
theorem V1(I:Inv X pins σ H s)(z:Gl X x)(L:X.mg x=cI u)(h:Q u s)
 (J:(x==("__debug__" : Str))=dd:=by decide):wpAny (d5 X.prog X.w) X.A (d3 (.Name x pos) X.env) Q E s:=
 Calls.Name_function_global I.ok.kind z (Calls.loadGlobal_global (by rw[I.ok.glob];exact I.mod.glob.keeps I.bk) L h) J
theorem kA(I:Inv X pins σ H s)(z:Gl X x)(L:X.mg x=cR)(O:A8 x=cI u)(h:Q u s)
 (Y:x ≠ "__name__":=by decide) (J:(x==("__debug__" : Str))=dd:=by decide):wpAny (d5 X.prog X.w) X.A (d3 (.Name x pos) X.env) Q E s:=by
 obtain⟨d,a,b⟩:=I.mod.blt;exact Calls.Name_function_global I.ok.kind z (Calls.loadGlobal_builtin (by rw[I.ok.glob];exact I.mod.glob.keeps I.bk) L (by rw[I.ok.blt];exact a.keeps I.bk) ((b x Y).trans O) h) J
variable{a b:dy}{ta tb:TE}{pos:eo}
noncomputable def PC(X:Cx)(z:CmpOp)(a b:dy)(t:TE):Prop:=
 ∀(d:TW) (s:d8) (e:St) (H:Hp) (Q:VK),Inv X d e H s->t e H Q->
  wpAny (d5 X.prog X.w) X.A (d3 a X.env) (λv I=>wpAny (d5 X.prog X.w) X.A (d3 b X.env) (λu O=>wpAny (d5 X.prog X.w) X.A (m9 z v u) (EP X d e Q) X.xe O) X.xe I) X.xe s
theorem oE(b:dy)(h:op ≠ .In)(I:op ≠ .NotIn):t7 op b=dd:=by
 have a:(op==CmpOp.In)=dd:=by cases op<;>first | rfl | exact absurd rfl h
 have d:(op==CmpOp.NotIn)=dd:=by cases op<;>first | rfl | exact absurd rfl I
 cases b<;>simp[t7,a,d]
noncomputable def tB(t:TE):TT:=λb H Q=>t b H λx a=>∃c,x = .bl c/\Q c a
theorem Eb(h:PC X op a b t)(J:t7 op b=dd:=by first | exact oE _ ⋯ ⋯ | rfl):PT X (.Compare a [op] [b] pos) (tB t):=by intro e s k H Q I i;refine P? (ed (h e s k H _ I i) λv l J=>ed J λu m g=>ed g λc n z=>?_) J;obtain⟨x,f,O,Y,j⟩:=z;obtain⟨d,rfl,q⟩:=j;cases Y;exact Ro ⟨f,O,q⟩
theorem CZ(h:PE X e t)(O : ∀z,DG e X.env z=(do let v <- z;DO e.pos;u6 [v] (Lo v)):=by intro _;rfl):PT X e (tB t):=by intro a s k H Q I g;refine isTrue_plain (ed (h a s k H _ I g) λv l Y=>?_)<|O _;obtain⟨x,b,f,j,i⟩:=Y;obtain⟨d,rfl,q⟩:=i;cases j;exact Ro ⟨b,f,q⟩
variable{tA MR:TT}{qZ:List dy}
noncomputable def Nd(t u:TT):TT:=λb H Q=>t b H λc a=>if c=cL then u b a Q else Q dd a
noncomputable def J?(t u:TT):TT:=λb H Q=>t b H λc a=>if c=cL then Q cL a else u b a Q
noncomputable def MZ(t:TT):TT:=λb H Q=>t b H λc a=>Q (!c) a
theorem uC(J:PT X a tA):PW X (.BoolOp .And [a] pos) tA:=by
 intro z b s d H Q I h;refine isTrue_and<|ed (J b s d H Q I h) λc f e=>?_;cases c with
 | true=>exact isTrue_and_nil e
 | false=>exact e
theorem CH(J:PT X a tA):PW X (.BoolOp .Or [a] pos) tA:=by
 intro z b s d H Q I h;refine isTrue_or<|ed (J b s d H Q I h) λc f e=>?_;cases c with
 | false=>exact isTrue_or_nil e
 | true=>exact e
theorem CI(J:PT X a tA)(L:PW X (.BoolOp .And (b::qZ) pos) MR):PW X (.BoolOp .And (a::b::qZ) pos) (Nd tA MR):=by
 intro Y d s f H Q I h;refine isTrue_and<|ed (J d s f H _ I h) λc i g=>?_;obtain⟨e,z,O⟩:=g;cases c with
 | true=>exact L Y d i f e Q z O
 | false=>exact⟨e,z,O⟩
theorem Ii(J:PT X a tA)(L:PW X (.BoolOp .Or (b::qZ) pos) MR):PW X (.BoolOp .Or (a::b::qZ) pos) (J? tA MR):=by
 intro Y d s f H Q I h;refine isTrue_or<|ed (J d s f H _ I h) λc i g=>?_;obtain⟨e,z,O⟩:=g;cases c with
 | true=>exact⟨e,z,O⟩
 | false=>exact L Y d i f e Q z O
theorem Ea(ha:PT X a tA):PT X (.UnaryOp .Not a pos) (MZ tA):=by intro b s e H Q I h;exact isTrue_not<|ha b s e H (λc d=>Q (!c) d) I h
noncomputable def HL(ta tb:TE):TE:=λb H Q=>ta b H λx a=>∃c,x = .bl c/\if c=cL then tb b a Q else Q (.bl dd) a
noncomputable def MY(ta tb:TE):TE:=λb H Q=>ta b H λx a=>∃c,x = .bl c/\if c=cL then Q (.bl cL) a else tb b a Q
noncomputable def HC(ta:TE):TE:=λb H Q=>ta b H λx a=>∃c,x = .bl c/\Q (.bl<|!c) a
theorem Ek(h:PE X a t):PE X (.BoolOp op [a] pos) t:=λb s e H Q I d=>BoolOp_one<|h b s e H Q I d
theorem En(J:PE X a ta)(L:PE X (.BoolOp .And (b::qZ) pos) tb):PE X (.BoolOp .And (a::b::qZ) pos) (HL ta tb):=by
 intro d s f H Q I h;refine BoolOp_and<|ed (J d s f H _ I h) λv i Y=>?_;obtain⟨x,e,O,g,z⟩:=Y;obtain⟨c,rfl,z⟩:=z;cases g;refine Ro ?_;cases c with
 | true=>exact L d i f e Q O z
 | false=>exact⟨.bl dd,e,O,rfl,z⟩
theorem Ip(J:PE X a ta)(L:PE X (.BoolOp .Or (b::qZ) pos) tb):PE X (.BoolOp .Or (a::b::qZ) pos) (MY ta tb):=by
 intro d s f H Q I h;refine BoolOp_or<|ed (J d s f H _ I h) λv i Y=>?_;obtain⟨x,e,O,g,z⟩:=Y;obtain⟨c,rfl,z⟩:=z;cases g;refine Ro ?_;cases c with
 | false=>exact L d i f e Q O z
 | true=>exact⟨.bl cL,e,O,rfl,z⟩
theorem El(J:PE X a ta):PE X (.UnaryOp .Not a pos) (HC ta):=by intro b s f H Q I h;refine UnaryOp_<|ed (J b s f H _ I h) λv g O=>?_;obtain⟨x,d,Y,e,z⟩:=O;obtain⟨c,rfl,z⟩:=z;cases e;exact not_of<|Ro ⟨.bl<|!c,d,Y,rfl,z⟩
noncomputable def M0(t:TT)(ta tb:TE):TE:=λa H Q=>t a H λc b=>if c=cL then ta a b Q else tb a b Q
theorem oh(Y:PT X c tA)(J:PE X a ta)(L:PE X b tb):PE X (.IfExp c a b pos) (M0 tA ta tb):=by
 intro e s f H Q I h;refine wpAny_IfExp<|ed (Y e s f H _ I h) λd i j=>?_;obtain⟨g,z,O⟩:=j;cases d with
 | true=>exact J e i f g Q z O
 | false=>exact L e i f g Q z O
end
noncomputable def e9(K:Ob)(H:Hp)(a:di)(xs:List V):Prop:=
 Rd H a (.lst xs)\/
  ∃(o:i5) (z:Array dq) (n:Nat),K.lookup a=cI o/\o.cls = .type "list"/\o.dict=cR/\o.data = .seq z n/\z.size<=eJ/\ej xs z.toList
noncomputable def fh(K:Ob)(H:Hp)(a:di)(xs:List V):Prop:=
 Rd H a (.tup xs)\/
  ∃(o:i5) (z:Array dq) (n:Nat),K.lookup a=cI o/\(o.cls,o.dict)=(Ss "tuple",cR)/\o.data = .seq z n/\z.size<=eJ/\ej xs z.toList
noncomputable def NL:dq->Option V
 | .none=>cI .eg
 | .bool b=>cI (.bl b)
 | .int i _=>cI (.int i)
 | .str x _=>cI (.str x)
 | .bytes b _=>cI (.t9 b)
 | .float b _=>cI (.DD b)
 | .ref a=>cI (.ref a)
 | .type n=>cI (.ty n)
 | _=>cR
theorem RelV.abs(r:RelV x u):NL u=cI x:=by
 cases x with
 | eg=>cases r;rfl
 | bl _=>cases r;rfl
 | int _=>obtain⟨t,rfl⟩:=r;rfl
 | str _=>obtain⟨t,rfl⟩:=r;rfl
 | t9 _=>obtain⟨t,rfl⟩:=r;rfl
 | DD _=>obtain⟨t,rfl⟩:=r;rfl
 | ref _=>cases r;rfl
 | ty _=>cases r;rfl
theorem RelV.inj(r:RelV x u)(q:RelV y u):x=y:=OW<|r.abs.symm.trans q.abs
theorem ej.inj : ∀{xs ys:List V} {us:List dq},ej xs us->ej ys us->xs=ys
 | _,_,_,.nil,.nil=>rfl
 | _,_,_,.cons r t,.cons r' t'=>by rw[r.inj r',ej.inj t t']
section
variable{X:Cx}{pins:TW}{σ:St}{H:Hp}{s:d8}{a:di}{xs ys:List V}
theorem e9.of{K:Ob}(h:H a=cI (.lst xs)):e9 K H a xs:= .inl (.inl h)
theorem fh.of{K:Ob}(h:H a=cI (.tup xs)):fh K H a xs:= .inl (.inl h)
theorem Inv.list(I:Inv X pins σ H s)(h:e9 X.K H a xs) : ∃O:List dq,ej xs O/\PlainL s.heap a O.toArray/\xs.length<=eJ:=by
 rcases h with h | ⟨o,O,n,hk,Y,hd,hs,hz,r⟩
 ·obtain⟨z,O,n,r,e⟩:=h.ok I.eG
  exact⟨O,r,⟨_,n,e,rfl,rfl,rfl⟩,z⟩
 ·refine⟨O.toList,r,⟨o,n,I.i7 a o hk,Y,hd,by simpa using hs⟩,?_⟩
  have e:=r.length;simp only[PM]at e;omega
theorem Inv.tuple(I:Inv X pins σ H s)(h:fh X.K H a xs) : ∃O:List dq,ej xs O/\F4 s.heap a O.toArray/\xs.length<=eJ:=by
 rcases h with h | ⟨o,O,n,hk,Y,hs,hz,r⟩
 ·obtain⟨z,O,r,p⟩:=h.ok I.eG
  exact⟨O,r,p.tup,z⟩
 ·refine⟨O.toList,r,⟨o,I.i7 a o hk,(Prod.mk.inj Y).1,n,by simpa using hs⟩,?_⟩
  have e:=r.length;simp only[PM]at e;omega
theorem Inv.R0(I:Inv X pins σ H s)(h:e9 X.K H a xs)(h':e9 X.K H a ys):xs=ys:=by
 obtain⟨O,r,⟨o,n,e,_,_,d⟩,_⟩:=I.list h;obtain⟨b,g,⟨j,i,z,_,_,f⟩,_⟩:=I.list h';rw[e]at z;cases z;rw[d]at f;injection f with Y _;have:O=b:=by simpa using congrArg Array.toList Y
 subst this;exact r.inj g
theorem Inv.X_(I:Inv X pins σ H s)(h:fh X.K H a xs)(h':fh X.K H a ys):xs=ys:=by
 obtain⟨O,r,⟨o,e,_,n,d⟩,_⟩:=I.tuple h;obtain⟨b,g,⟨j,z,_,i,f⟩,_⟩:=I.tuple h';rw[e]at z;cases z;rw[d]at f;injection f with Y _;have:O=b:=by simpa using congrArg Array.toList Y
 subst this;exact r.inj g
end
abbrev Cx.z4(X:Cx)(E:EQ):Cx:={X with xe:=E}
abbrev Cx.I0(X:Cx):Cx:=X.z4 λ_ _=>False
theorem Cx.Ok.z4{X:Cx}(ok:X.Ok)(E:EQ):(X.z4 E).Ok:=
 ⟨ok.mod,ok.kind,ok.glob,ok.blt,ok.above,ok.inj,ok.has,ok.Gf,ok.hd,ok.frames,ok.MJ,ok.Mv,ok.bs,ok.A9,ok.H9,ok.G3,ok.u5,ok.DE⟩
theorem Cx.Ok.Dn{X:Cx}{E:EQ}(ok:(X.z4 E).Ok):X.Ok:=
 ⟨ok.mod,ok.kind,ok.glob,ok.blt,ok.above,ok.inj,ok.has,ok.Gf,ok.hd,ok.frames,ok.MJ,ok.Mv,ok.bs,ok.A9,ok.H9,ok.G3,ok.u5,ok.DE⟩
section
variable{X:Cx}{pins:TW}{σ:St}{H:Hp}{s:d8}{E:EQ}
theorem Inv.z4(I:Inv X pins σ H s)(E:EQ):Inv (X.z4 E) pins σ H s:=⟨I.ok.z4 E,I.os,I.bare,I.base,I.loc,I.cell,I.free,I.y7,I.pin,I.eG,I.len⟩
theorem Inv.Dn(I:Inv (X.z4 E) pins σ H s):Inv X pins σ H s:=⟨I.ok.Dn,I.os,I.bare,I.base,I.loc,I.cell,I.free,I.y7,I.pin,I.eG,I.len⟩
theorem SP.Dn(h:SP (X.z4 E) pins D f s'):SP X pins D f s':=by
 cases f with
 | next=>obtain⟨a,b,I,q⟩:=h;exact⟨a,b,I.Dn,q⟩
 | brk=>obtain⟨a,b,I,q⟩:=h;exact⟨a,b,I.Dn,q⟩
 | cont=>obtain⟨a,b,I,q⟩:=h;exact⟨a,b,I.Dn,q⟩
 | ret u=>obtain⟨v,a,b,I,r,q⟩:=h;exact⟨v,a,b,I.Dn,r,q⟩
theorem hO.I0{st:List g8}{t:TS}(h:hO X.I0 st t):hO X st t:=λpins s σ H D I a=>
 t5 (h pins s σ H D (I.z4 _) a) (λ_ _ q=>q.Dn) λ_ _ z=>Su z
end
section
variable{X:Cx}{st:g8}{qZ:List g8}{t u:TS}{e:dy}{te:TE}{pos:eo}
noncomputable def HE:TS:=λD a H=>D.nx a H
noncomputable def LV(t u:TS):TS:=λD a H=>t {D with nx:=u D} a H
theorem fZ:hO X [] HE:=λ_ _ a H _ I h=>N7 ⟨a,H,I,h⟩
theorem xO(J:PS X st t)(L:hO X qZ u):hO X (st::qZ) (LV t u):=by
 intro a s g H D I h;refine wpAny_execs_cons<|ed (J a s g H {D with nx:=u D} I h) λf e q=>?_;cases f with
 | next=>
  obtain⟨b,d,z,q⟩:=q;exact L a e b d D z q
 | ret v=>exact q
 | brk=>exact q
 | cont=>exact q
theorem vB(J:PS X st t):hO X [st] t:=by
 intro a s b H D I h;refine wpAny_execs_cons<|ed (J a s b H D I h) λf d q=>?_;cases f with
 | next=>exact N7 q
 | ret v=>exact q
 | brk=>exact q
 | cont=>exact q
noncomputable def HK:TS:=λD a H=>D.ct a H
theorem VJ:PS X (.Continue pos) HK:=λ_ _ a H _ I h=>wpAny_Continue ⟨a,H,I,h⟩
theorem Inv.quiet(I:Inv X pins σ H s):interactive X.env=dd:=by simp[interactive,I.ok.kind]
noncomputable def HH(te:TE):TS:=λD a H=>te a H λ_ b=>D.nx a b
theorem vC(z:PE X e te)(J:p4 e cR pos.line X.env=pure dd:=by rfl):PS X (.Expr e pos) (HH te):=by intro a s b H D I h;exact wpAny_Expr_any (ed (z a s b H _ I h) λv g ⟨x,d,O,f,Y⟩=>⟨b,d,O,Y⟩) I.quiet J
noncomputable def HA(te:TE):TS:=λD a H=>te a H D.rt
theorem Jg(z:PE X e te):PS X (.Return (cI e) pos) (HA te):=by intro a s b H D I h;exact wpAny_Return_some<|ed (z a s b H _ I h) λv g ⟨x,d,O,Y,f⟩=>⟨x,b,d,O,Y,f⟩
noncomputable def Na(c:TT)(t u:TS):TS:=λD a H=>c a H λb d=>if b=cL then t D a d else u D a d
theorem Ed(Y:PT X c tc)(J:hO X a t)(L:hO X b u):PS X (.If c a b pos) (Na tc t u):=by
 intro e s f H D I h;refine wpAny_If<|ed (Y e s f H _ I h) λd i j=>?_;obtain⟨g,z,O⟩:=j;cases d with
 | true=>exact J e i f g D z O
 | false=>exact L e i f g D z O
noncomputable def Ci:TS:=λ_ _ _=>False
theorem nS:PS X st Ci:=λ_ _ _ _ _ _ h=>h.elim
end
abbrev TG:=V->St->Hp->(St->Hp->Prop)->Prop
abbrev D6:=List V->St->Hp->(St->Hp->Prop)->Prop
noncomputable def PG(X:Cx)(z:dy)(t:TG):Prop:=
 ∀(a:TW) (s:d8) (e:St) (H:Hp) (v:V) (u:dq) (Q:St->Hp->Prop),Inv X a e H s->RelV v u->t v e H Q->
  wpAny (d5 X.prog X.w) X.A (vr z X.env u) (λ_ f=>∃b d,Inv X a b d f/\Q b d) X.xe s
noncomputable def F8(X:Cx)(z:List dy)(t:D6):Prop:=
 ∀(a:TW) (s:d8) (g:St) (H:Hp) (f:List V) (e:List dq) (Q:St->Hp->Prop),Inv X a g H s->ej f e->t f g H Q->
  wpAny (d5 X.prog X.w) X.A (assignInOrder ((y0 z X.env).map (·.2)) e) (λ_ h=>∃b d,Inv X a b d h/\Q b d) X.xe s
abbrev MO:=V->V->V->Hp->(Hp->Prop)->Prop
noncomputable def MS(X:Cx)(t:MO):Prop:=
 ∀(a:TW) (s:d8) (e:St) (H:Hp) (o i v:V) (d z u:dq) (Q:Hp->Prop),Inv X a e H s->RelV o d->RelV i z->RelV v u->t o i v H Q->
  wpAny (d5 X.prog X.w) X.A (S_ d z u) (λ_ f=>∃b,Inv X a e b f/\Q b) X.xe s
section
variable{X:Cx}{pos:eo}
noncomputable def yn(i:Nat):TG:=λv a H Q=>Q (a.set i<|some v) H
theorem gu(z:X.N.Nodup)(J:X.N[i]? = cI x)(hx:Loc X.env.scope x)(O:X.fn x=cL\/X.env.scope.names.lookup x=cI .local:=by first | exact .inl rfl | exact .inr rfl | assumption):PG X (.Name x pos) (yn i):=by intro a s d H v u Q I r h;exact N?<|WW I z J hx r (λb Y=>⟨_,H,Y,h⟩) O
noncomputable def Mp:D6:=λa b H Q=>a=[]/\Q b H
noncomputable def Fz(t:TG)(u:D6):D6:=λd e H Q=>∃v r,d=v::r/\t v e H λa b=>u r a b Q
theorem yP:F8 X [] Mp:=by intro a s b H f d Q I r h;obtain⟨e,h⟩:=h;subst e;cases r;exact assignInOrder_nil ⟨b,H,I,h⟩
theorem jQ(J:PG X e t)(L:F8 X es u)
 (hs:(y0 (e::es) X.env).map (·.2)=vr e X.env::(y0 es X.env).map (·.2):=by rfl):F8 X (e::es) (Fz t u):=by
 intro a s j H m k Q I r h;obtain⟨v,l,f,h⟩:=h;subst f;cases r with
 | cons r z=>
  rw[hs];refine assignInOrder_cons<|ed (J a s j H _ _ _ I r h) λ_ i O=>?_;obtain⟨Y,b,d,g⟩:=O;exact L a i Y b _ _ Q d z g
noncomputable def Mo(K:Ob)(n:Nat)(t:D6):TG:=λv d H Q=>∃a b,v = .ref a/\fh K H a b/\b.length=n/\t b d H Q
theorem Eh(O:X.calm=cL)(h:F8 X es t)
 (J:(y0 es X.env).length=n:=by rfl) (Y:(y0 es X.env).findIdx? (·.1)=cR:=by rfl):PG X (.Tuple es k pos) (Mo X.K n t):=by
 intro d s g H v u Q I r f;obtain⟨a,y,j,p,m,f⟩:=f;subst j;cases r;obtain⟨A,z,w,B⟩:=I.tuple p;refine assign_Tuple_tuple (I.ok.hd O) w (by simp[J,<- m,z.length]) Y λl x=>?_;have i:Inv X d g H {s with heap:=l}:=I.kept (t':=s.toks) λb o e=>x b o (ON<|OD e) e;exact h d _ g H y _ Q i (by simpa using z) f
noncomputable def GV(to z:TE)(t:MO):TG:=λv a H Q=>to a H λo b=>z a b λi d=>t o i v d λI=>Q a I
theorem Ei(Y:PE X o to)(L:PE X i ti)(hs:MS X t)
 (J : ∀v,vr (.Subscript o i pos) X.env v=(do
   let ov <- u6 [v] (d3 o X.env);let z <- u6 [v,ov] (d3 i X.env)
   DO pos
   u6 [v,ov,z] (S_ ov z v)
   release [v,ov,z] []):=by intro _;rfl):PG X (.Subscript o i pos) (GV to ti t):=by
 intro a s b H v u Q I r h;rw[J];refine Oc<|Sb<|ed (Y a s b H _ I h) λov A O=>?_;obtain⟨x,d,g,p,l⟩:=O;refine Oc<|Sb<|ed (L a A b d _ g l) λz B O=>?_;obtain⟨y,e,j,w,m⟩:=O;refine Oc<|wpAny_standAt<|Oc<|Sb<|ed (hs a B b e x y v ov z u _ j p w r m) λ_ C O=>?_;obtain⟨f,k,n⟩:=O;exact wpAny_release ⟨b,f,k,n⟩
noncomputable def XZ(I:TE)(g:TG):TS:=λD a H=>I a H λx b=>g x a b D.nx
theorem Xj(z:PE X e te)(O:PG X tg g)(L:ML [tg] e pos.line X.env=pure dd:=by rfl)(hw:T5 [tg] e X.env=pure cR:=by rfl)
 (J:(y0 [tg] X.env).map (·.2)=[vr tg X.env]:=by rfl):PS X (.Assign [tg] e pos) (XZ te g):=by
 intro a s b H D I h;refine wpAny_Assign_stores (ed (z a s b H _ I h) λv k Y=>?_) L hw;obtain⟨x,d,f,j,i⟩:=Y;rw[J];exact ed (O a k b d x v _ f j i) λ_ l q=>q
theorem Ec(z:X.N.Nodup)(J:X.N[i]? = cI x)(hx:Loc X.env.scope x)(O:PE X e te)(L:p4 e (cI (.Name x pos')) pos.line X.env=pure dd:=by rfl)(Y:X.fn x=cL\/X.env.scope.names.lookup x=cI .local:=by first | exact .inl rfl | exact .inr rfl | assumption) :
 PS X (.Assign [.Name x pos'] e pos) (XZ te<|yn i):=by
 intro a s l H D I h;refine wpAny_Assign_Name (ed (O a s l H _ I h) λv m g=>?_) L;obtain⟨y,b,d,k,j⟩:=g;exact WW d z J hx k (λn f=>⟨_,b,f,j⟩) Y
end
section
variable{X:Cx}{pos:eo}
noncomputable def Cg(c:TT)(tb:TS):TS:=λD a H=>∃W:Nat->St->Hp->Prop,(∃m,W m a H)/\∀m a H,W m a H->
 c a H λb f=>if b=cL then ∃N:St->Hp->Prop,(∀d e,N d e->∃g,g<m/\W g d e)/\tb {D with nx:=N,ct:=N,bk:=D.nx} a f else D.nx a f
theorem nQ{c:dy}{J:List g8}{tc:TT}{tb:TS}(L:D3 (d5 X.prog X.w) X.A X.env X.xe)(hc:PT X c tc)(hb:hO X J tb):PS X (.While c J [] pos) (Cg tc tb):=by
 intro a s M H D I h;obtain⟨W,⟨B,G⟩,a9⟩:=h;refine wpAny_While<|codeAny_whileLoop (λn C=>∃d o,Inv X a d o C/\W n d o) ?_ B ⟨M,H,I,G⟩;rintro n E ⟨Y,p,x,K⟩;refine Ta L<|ed (hc a E Y p _ x<|a9 n Y p K) λb F y=>?_;obtain⟨r,t,e⟩:=y;cases b with
 | true=>
  obtain⟨N,u,e⟩:=e;rw[DZ rfl];refine Ta L<|ed (hb a F Y r _ t e) λf P g=>?_;cases f with
  | next=>
   obtain⟨z,O,i,l⟩:=g;obtain⟨k,j,m⟩:=u z O l;exact⟨k,j,z,O,i,m⟩
  | cont=>
   obtain⟨z,O,i,l⟩:=g;obtain⟨k,j,m⟩:=u z O l;exact⟨k,j,z,O,i,m⟩
  | brk=>exact g
  | ret v=>exact g
 | false=>
  rw[DJ Oy];exact N7 ⟨Y,r,t,e⟩
end
structure It where
 go:Nat->Hp->Prop
 z8:Nat->Hp->V->Hp->Prop
 stop:Nat->Hp->Prop
noncomputable def bN(X:Cx)(I:TW)(H:Hp)(b:di):Prop:=
 H b=cR/\b≠X.env.locals/\b∉X.fs/\(b∈X.ex\/X.m4.heap.objs.size<=b)/\(∀x c,X.env.cells.lookup x=cI c->c≠b)/\∀p∈X.pn++I,p.1≠b
theorem Inv.Df(I:Inv X pins σ H s)(J:s.heap.objs.size<=b)(L:H' b=cR):bN X pins H' b:=by
 refine⟨L,RM<|OI I.lt J,I.v? J,.inr<|PK I.sz J,λx c e z=>?_,λp O z=>?_⟩
 ·obtain⟨v,q⟩:=I.cell x c e
  exact absurd (OI q.lt<|by rw[z];exact J)<|Rj _
 ·exact absurd (OI (OD (I.pin p O).1)<|by rw[z];exact J)<|Rj _
structure Turn(P:gB)(w:fm)(K:Ob)(tg:dy)(J:It)(fp:List di)(it:di)(tn:Nat->ew->Prop):Prop where
 mem:it∈fp
 obj : ∀i h,tn i h->∀b∈fp,∃o,h.get? b=cI o/\∀v,o.data ≠ .cell v
 keep : ∀i h h',tn i h->(∀b∈fp,∀o,h.get? b=cI o->h'.get? b=cI o)->tn i h'
 item : ∀(X:Cx),X.prog=P->X.w=w->X.K=K->X.calm=cL->∀(i:Nat) (pins:TW) (s:d8) (σ:St) (H:Hp) (E:EQ),Inv X pins σ H s->(∀b∈fp,bN X pins H b)->tn i s.heap->J.go i H->
  wpAny (d5 P w) X.A (rr<|.ref it) (λr s1=>∃u,r=cI u/\
   wpAny (d5 P w) X.A (MC tg (.ref it) u) (λ_ s2=>∃x H',Inv X pins σ H' s2/\RelV x u/\J.z8 i H x H'/\tn (i+1) s2.heap/\∀b∈fp,H' b=cR) E s1) E s
 done : ∀(X:Cx),X.prog=P->X.w=w->X.K=K->X.calm=cL->∀(i:Nat) (pins:TW) (s:d8) (σ:St) (H:Hp) (E:EQ),Inv X pins σ H s->(∀b∈fp,bN X pins H b)->tn i s.heap->J.stop i H->
  wpAny (d5 P w) X.A (rr<|.ref it) (λr s1=>r=cR/\Inv X pins σ H s1) E s
 self : ∀(A:i8) (i:Nat) (s:d8) (Q:EQ) (E:EQ),tn i s.heap->Q (.ref it) s->wpAny (d5 P w) A (E9<|.ref it) Q E s
abbrev TI:=St->Hp->(It->Hp->Prop)->Prop
noncomputable def t_(X:Cx)(I:TW)(Y:St)(O:dy)(R:It->Hp->Prop)(z:dq)(L:d8):Prop:=
 ∃(e:di) (d:List di) (f:Nat->ew->Prop) (J:It) (a:Hp),z = .ref e/\Inv X I Y a L/\Turn X.prog X.w X.K O J d e f/\f 0 L.heap/\(∀b∈d,bN X I a b)/\R J a
noncomputable def PI(X:Cx)(J I:dy)(L:TI):Prop:=
 ∀(a:TW) (s:d8) (b:St) (H:Hp) (R:It->Hp->Prop),Inv X a b H s->L b H R->
  wpAny (d5 X.prog X.w) X.A (d3 I X.env) (λv d=>wpAny (d5 X.prog X.w) X.A (E9 v) (t_ X a b J R) X.xe d) X.xe s
theorem pC(I:s.heap.get? it=cI o)(O:o.cls = .type n)(J:o.data = .fields vs)
 (L:["enumerate","zip","dict_itemiterator","dict_reverseitemiterator","odict_iterator","itertools.zip_longest","itertools.pairwise"].contains n=dd) (z:Q () s):wpAny M A (MC tg (.ref it) u) Q E s:=by
 unfold MC;cases tg<;>first
  | exact Oi z
  | (cases u<;>first
      | exact Oi z
      | (refine Oc (wpAny_load I ?_)
         rw[O,J];show wpAny M A (if (["enumerate","zip","dict_itemiterator","dict_reverseitemiterator","odict_iterator","itertools.zip_longest","itertools.pairwise"].contains n && vs[0]? == cI (o5 _))=cL then _ else _) Q E s;rw[DJ (by intro h;rw[L,UP]at h;cases h)];exact Oi z))
noncomputable def q_(K:Ob)(a:di):It:=
 ⟨λi H=>∃b x,e9 K H a b/\b[i]? = cI x,λi H x d=>d=H/\∀b,e9 K H a b->b[i]? = cI x,λi H=>∃b,e9 K H a b/\b.length<=i⟩
noncomputable def r_(K:Ob)(a:di):It:=
 ⟨λi H=>∃b x,fh K H a b/\b[i]? = cI x,λi H x d=>d=H/\∀b,fh K H a b->b[i]? = cI x,λi H=>∃b,fh K H a b/\b.length<=i⟩
noncomputable def F5(lo:Int)(n:Nat):It:=⟨λi _=>i<n,λi H x a=>a=H/\x = .int (lo+i),λi _=>n<=i⟩
theorem eQ{P:gB}{w:fm}{K:Ob}{tg:dy}(a it:di):Turn P w K tg (q_ K a) [it] it (λi h=>h.IsListIter it a i) where
 mem:=by simp
 obj:=λi h st b hb=>by
  have e:b=it:=by simpa using hb
  subst e;obtain⟨o,e,c,d⟩:=st;exact⟨o,e,λv z=>by rw[d]at z;cases z⟩
 keep:=λi h h' st k=>st.at λo e=>k it ⋯ o e
 item:=by intro X hP hw hK hc i pins s σ H E I O st hg;subst hP hw hK;obtain⟨xs,x,Y,hx⟩:=hg;obtain⟨ab,rv,p,hz⟩:=I.list Y;obtain⟨u,hu,ru⟩:=rv.get hx;obtain⟨f0,f1,f2,f3,f4,f5⟩:=O it ⋯;refine wpAny_pyNext_list_item st p.isList (x:=u) (by simpa using hu) λh' aa sb=>?_;have I1:Inv X pins σ H {s with heap:=h'}:=I.turned (t':=s.toks) (λb o hb e=>(sb.2 b hb).trans e) f0 f1 f3 f4 f5;obtain⟨o,e,c,d⟩:=id aa;exact⟨u,rfl,pC (s:={s with heap:=h'}) e c d ⋯ ⟨x,H,I1,ru,⟨rfl,λys hy=>by rw[I.R0 hy Y];exact hx⟩,aa,λb hb=>(O b hb).1⟩⟩
 done:=by intro X hP hw hK hc i pins s σ H E I O st hg;subst hP hw hK;obtain⟨xs,Y,hx⟩:=hg;obtain⟨ab,rv,p,hz⟩:=I.list Y;obtain⟨f0,f1,f2,f3,f4,f5⟩:=O it ⋯;have hl:=rv.length;exact wpAny_pyNext_list_end (I.ok.hd hc) st p.isList (by simp;omega) λh' eb=>⟨rfl,I.turned (t':=s.toks) (λb o hb e=>eb b o hb e) f0 f1 f3 f4 f5⟩
 self:=λ_ _ _ _ _ st h=>wpAny_pyIter_listiter st h
theorem bV{P:gB}{w:fm}{K:Ob}{tg:dy}(a it:di):Turn P w K tg (r_ K a) [it] it (λi h=>h.IsTupleIter it a i) where
 mem:=by simp
 obj:=λi h st b hb=>by
  have e:b=it:=by simpa using hb
  subst e;obtain⟨o,e,c,d⟩:=st;exact⟨o,e,λv z=>by rw[d]at z;cases z⟩
 keep:=λi h h' st k=>st.at λo e=>k it ⋯ o e
 item:=by intro X hP hw hK hc i pins s σ H E I O st hg;subst hP hw hK;obtain⟨xs,x,Y,hx⟩:=hg;obtain⟨a3,rv,p,hz⟩:=I.tuple Y;obtain⟨u,hu,ru⟩:=rv.get hx;obtain⟨f0,f1,f2,f3,f4,f5⟩:=O it ⋯;refine wpAny_pyNext_tuple_item st (show s.heap.IsTuple a a3.toArray from p) (x:=u) (by simpa using hu) λh' ab sb=>?_;have I1:Inv X pins σ H {s with heap:=h'}:=I.turned (t':=s.toks) (λb o hb e=>(sb.2 b hb).trans e) f0 f1 f3 f4 f5;obtain⟨o,e,c,d⟩:=id ab;exact⟨u,rfl,pC (s:={s with heap:=h'}) e c d ⋯ ⟨x,H,I1,ru,⟨rfl,λys hy=>by rw[I.X_ hy Y];exact hx⟩,ab,λb hb=>(O b hb).1⟩⟩
 done:=by intro X hP hw hK hc i pins s σ H E I O st hg;subst hP hw hK;obtain⟨xs,Y,hx⟩:=hg;obtain⟨a3,rv,p,hz⟩:=I.tuple Y;obtain⟨f0,f1,f2,f3,f4,f5⟩:=O it ⋯;have hl:=rv.length;exact wpAny_pyNext_tuple_end (I.ok.hd hc) st (show s.heap.IsTuple a a3.toArray from p) (by simp;omega) λh' eb=>⟨rfl,I.turned (t':=s.toks) (λb o hb e=>eb b o hb e) f0 f1 f3 f4 f5⟩
 self:=λ_ _ _ _ _ st h=>wpAny_pyIter_tupleiter st h
theorem bX{P:gB}{w:fm}{K:Ob}{tg:dy}(it:di)(lo:Int)(n:Nat):Turn P w K tg (F5 lo n) [it] it (λi h=>IsRangeIter h it (lo+(i:Nat)*1) ((n:Int) - (i:Nat)) 1) where
 mem:=by simp
 obj:=λi h st b hb=>by
  have e:b=it:=by simpa using hb
  subst e;exact⟨_,st,λv z=>by have z':Data.fields _=Data.cell v:=z;cases z'⟩
 keep:=λi h h' st k=>k it ⋯ _ st
 item:=by intro X Y hw hK hc i pins s σ H E I O st hg;subst Y hw hK;obtain⟨f0,f1,f2,f3,f4,f5⟩:=O it ⋯;have W:=Walks.range (prog:=X.prog) (w:=X.w) (I.ok.hd hc) it lo 1 n;refine W.item i s _ _ hg st λv h' tk hv a9 kk=>?_;obtain⟨t,rfl⟩:=hv;have I1:Inv X pins σ H {s with heap:=h',toks:=tk}:=I.turned (λb o hb e=>kk b o (by simpa using hb) e) f0 f1 f3 f4 f5;refine⟨_,rfl,pC (s:={s with heap:=h',toks:=tk}) (n:="range_iterator") a9 rfl rfl ⋯ ⟨.int (lo+i),H,I1,⟨t,?_⟩,⟨rfl,rfl⟩,a9,λb hb=>(O b hb).1⟩⟩;rw[RA]
 done:=by intro X Y hw hK hc i pins s σ H E I O st hg;subst Y hw hK;obtain⟨f0,f1,f2,f3,f4,f5⟩:=O it ⋯;exact wpAny_pyNext_range_end (I.ok.hd hc) st (by have:n<=i:=hg;omega) λh' eb=>⟨rfl,I.turned (t':=s.toks) (λb o hb e=>eb b o hb e) f0 f1 f3 f4 f5⟩
 self:=λ_ _ _ _ _ st h=>wpAny_pyIter_rangeiter st h
section
variable{X:Cx}{tg:dy}
theorem ah{L:TW}{σ:St}{H:Hp}{s:d8}{R:It->Hp->Prop}{E:EQ}{lo J:Int}{t u v:p7}{z:Nat}(I:Inv X L σ H s)(h1 : -(2 ^ 62)<=lo)(h2:lo<2 ^ 62)(Y : -(2 ^ 62)<=J)(h4:J<2 ^ 62)
 (q:R (F5 lo (J - lo).toNat) H):wpAny (d5 X.prog X.w) X.A (E9 (.ref s.heap.objs.size)) (t_ X L σ tg R) E {s with heap:=s.heap.push {cls:= .type "range",data:= .fields #[.int lo t,.int J u,.int 1 v]},toks:=z}:=by
 refine wpAny_pyIter_range (IsRange.new ..) (small_one h1 h2 Y h4) ?_;have O:Inv X L σ H {s with heap:=s.heap.push {cls:= .type "range",data:= .fields #[.int lo t,.int J u,.int 1 v]},toks:=z}:=I.kept λb o e=>Of _ e;refine⟨(s.heap.push {cls:= .type "range",data:= .fields #[.int lo t,.int J u,.int 1 v]}).objs.size,[(s.heap.push {cls:= .type "range",data:= .fields #[.int lo t,.int J u,.int 1 v]}).objs.size],_,_,H,rfl,
  O.kept (t':=z) λb o e=>Of _ e,bX _ lo (J - lo).toNat,?_,λb f=>?_,q⟩
 ·have a:lo+((0:Nat):Int)*1=lo:=by simp
  have d:(((J - lo).toNat:Nat):Int) - ((0:Nat):Int)=Builtin.Range.rangeSize lo J 1:=by rw[rangeSize_one];split<;>omega
  show IsRangeIter _ _ (lo+((0:Nat):Int)*1) ((((J - lo).toNat:Nat):Int) - ((0:Nat):Int)) 1;rw[a,d];exact Oz _ rfl
 ·have e:b=(s.heap.push {cls:= .type "range",data:= .fields #[.int lo t,.int J u,.int 1 v]}).objs.size:=by simpa using f
  subst e;exact O.Df (Ou _)<|O.eG.fresh<|Ou _
noncomputable def IK(I:TA):TI:=λd H R=>I d H λb a=>∃j:Int,b=[.int j]/\ -(2 ^ 62)<=j/\j<2 ^ 62/\R (F5 0 j.toNat) a
noncomputable def IJ(I:TA):TI:=λd H R=>I d H λb a=>∃i j:Int,b=[.int i,.int j]/\(-(2 ^ 62)<=i/\i<2 ^ 62/\ -(2 ^ 62)<=j/\j<2 ^ 62)/\R (F5 i (j - i).toNat) a
theorem gr{a:dy}{J:TA}{p pos:eo}(O:Gl X "range")(hm:X.mg "range" = cR)(L:PA X [a] J)(hs:ei [a] X.env=[(dd,d3 a X.env)]:=by rfl):PI X tg (.Call (.Name "range" p) [a] [] pos) (IK J):=by
 intro b s k H R I h;refine D1<|kA I O hm boot_range<|Pk (ed (L pos b s k H _ I h) λn m Y=>?_) hs rfl;obtain⟨o,l,d,g,z⟩:=Y;obtain⟨j,e,z,f,q⟩:=z;subst e;cases g with
 | cons r i=>
  cases i;obtain⟨t,rfl⟩:=r;exact call_range_1 (ah d ⋯ ⋯ z f<|by simpa using q)
theorem gp(L:Gl X "range")(hm:X.mg "range" = cR)(J:PA X [a,b] ta)(hs:ei [a,b] X.env=[(dd,d3 a X.env),(dd,d3 b X.env)]:=by rfl)(Y:ei [b] X.env=[(dd,d3 b X.env)]:=by rfl) :
 PI X tg (.Call (.Name "range" p) [a,b] [] pos) (IJ ta):=by
 intro d s u H R I h;refine D1 (kA I L hm boot_range<|Pk (ed (J pos d s u H _ I h) λA x g=>?_) (by rw[hs,Y])<|by rw[Y];rfl);obtain⟨B,w,f,o,z⟩:=g;obtain⟨i,j,e,⟨z,k,l,m⟩,q⟩:=z;subst e;cases o with
 | cons r O=>
  cases O with
  | cons n O=>
   cases O;obtain⟨t,rfl⟩:=r;obtain⟨y,rfl⟩:=n;exact call_range_2<|ah f z k l m q
noncomputable def Nb(I:TI)(g:TG)(tb:TS):TS:=λD a H=>I a H λJ f=>∃W:Nat->Nat->St->Hp->Prop,(∃m,W 0 m a f)/\∀i m a H,W i m a H->
 (J.stop i H/\D.nx a H)\/(J.go i H/\∃N:St->Hp->Prop,(∀d b,N d b->∃e,e<m/\W (i+1) e d b)/\∀x b,J.z8 i H x b->g x a b λz h=>tb {D with nx:=N,ct:=N,bk:=D.nx} z h)
noncomputable def YB(fp:List di)(h:ew):List (di×i5):=fp.filterMap λb=>(h.get? b).map λo=>(b,o)
theorem vd(I:b∈fp)(e:h.get? b=cI o):(b,o)∈YB fp h:=List.mem_filterMap.mpr ⟨b,I,by rw[e];rfl⟩
theorem gJ(z:p∈YB fp h):p.1∈fp/\h.get? p.1=cI p.2:=by
 obtain⟨b,a,e⟩:=List.mem_filterMap.mp z;cases q:h.get? b with
 | none=>rw[q]at e;cases e
 | some o=>
  rw[q]at e;have I:(b,o)=p:=OW e;subst I;exact⟨a,q⟩
theorem Inv.pinned(I:Inv X pins σ H s)(Y : ∀b∈fp,bN X pins H b)(J : ∀b∈fp,∃o,s.heap.get? b=cI o/\∀v,o.data ≠ .cell v):Inv X (pins++YB fp s.heap) σ H s:=
 I.O_ λp g=>(Tu.mp g).elim (λz=>I.pin p<|Ra _ z) λz=>by obtain⟨a,e⟩:=gJ z;obtain⟨f,f1,f2,_⟩:=Y p.1 a;obtain⟨o,O,d⟩:=J p.1 a;rw[e]at O;cases O;exact⟨e,f,f1,f2,d⟩
theorem Inv.Lp(I:Inv X (pins++pl) σ H s):Inv X pins σ H s:=I.O_ λp z=>I.pin p<|Ra _<|List.mem_append_left _ z
theorem gd(hp:D3 (d5 X.prog X.w) X.A X.env X.xe)(hc:X.calm=cL)(hi:PI X tg iter wi)(hg:PG X tg g)(L:hO X body tb)
 (hs : ∀x,o4 iter X.env x=pure x:=by intro _;rfl):PS X (.For tg iter body [] pos) (Nb wi g tb):=by
 intro a s σ H D I h;refine wpAny_For (ed (hi a s σ H _ I h) λv s1 h1=>ed h1 λc7 s2 h2=>?_) hs;obtain⟨it,y,tn,J,H2,e,I2,T,as,f2,W,⟨m0,w0⟩,b9⟩:=h2;subst e;have G : ∀{l:Hp},(∀b∈y,l b=cR)->∀b∈y,bN X a l b:=λhn b L=>⟨hn b L,(f2 b L).2⟩;refine codeAny_forLoop_any (λn Z=>∃i j l,Inv X a j l Z/\tn i Z.heap/\(∀b∈y,l b=cR)/\W i n j l) ?_ m0 ⟨0,σ,H2,I2,as,λb L=>(f2 b L).1,w0⟩;rintro n s3 ⟨i,k,F,S,C,U,w3⟩;rcases b9 i n k F w3 with⟨E,qn⟩ | ⟨go,N,hN,step⟩
 ·refine Ta hp (ed (T.done X rfl rfl rfl hc i a s3 k F X.xe S (G U) C E) λr s4 t=>?_)
  obtain⟨M,I4⟩:=t;subst M;exact N7 ⟨k,F,I4,qn⟩
 ·refine Ta hp (ed (T.item X rfl rfl rfl hc i a s3 k F X.xe S (G U) C go) λr s4 t=>?_)
  obtain⟨u,M,h4⟩:=t;subst M;refine Ta hp<|ed h4 λ_ s5 t=>?_;obtain⟨x,R,I5,r5,y5,K,bv⟩:=t;have bx:=I5.pinned (G bv)<|T.obj _ _ K;refine Ta hp<|ed (hg _ s5 k R x u _ bx r5<|step x R y5) λ_ s6 t=>?_;obtain⟨Q,H6,I6,q6⟩:=t;refine Ta hp<|ed (L _ s6 Q H6 _ I6 q6) λf P p=>?_;have again : ∀{z:St} {O:Hp},Inv X (a++YB y s5.heap) z O P->N z O->∃m,m<n/\∃i j l,Inv X a j l P/\tn i P.heap/\(∀b∈y,l b=cR)/\W i m j l:=λ{z O} Y B=>by obtain⟨m',hm,w7⟩:=hN z O B;refine⟨m',hm,i+1,z,O,Y.Lp,T.keep _ _ _ K λb L o e=>(Y.pin (b,o)<|Ra _<|Ra _<|vd L e).1,λb L=>?_,w7⟩;obtain⟨o,e,d⟩:=T.obj _ _ K b L;exact(Y.pin (b,o)<|Ra _<|Ra _<|vd L e).2.1
  cases f with
  | next=>obtain⟨z,O,Y,B⟩:=p;exact again Y B
  | cont=>obtain⟨z,O,Y,B⟩:=p;exact again Y B
  | brk=>obtain⟨z,O,Y,p⟩:=p;exact⟨z,O,Y.Lp,p⟩
  | ret v=>obtain⟨x7,z,O,Y,r7,p⟩:=p;exact⟨x7,z,O,Y.Lp,r7,p⟩
end
abbrev R2:=V->V->Hp->VK->Prop
noncomputable def hJ(X:Cx)(f:dq->dq->Sem dq)(r:R2):Prop:=
 ∀(a:TW) (s:d8) (b:St) (H:Hp) (x y:V) (v u:dq) (Q:VK),Inv X a b H s->RelV x v->RelV y u->r x y H Q->
  wpAny (d5 X.prog X.w) X.A (f v u) (EP X a b Q) X.xe s
noncomputable def J3(X:Cx)(f:dq)(r:List V->Hp->VK->Prop):Prop:=
 ∀(a:TW) (s:d8) (e:St) (H:Hp) (d:List V) (b:List dq) (Q:VK),Inv X a e H s->ej d b->r d H Q->
  wpAny (d5 X.prog X.w) X.A (call f b) (EP X a e Q) X.xe s
noncomputable def NN(X:Cx)(r:V->Hp->(Bool->Hp->Prop)->Prop):Prop:=
 ∀(a:TW) (s:d8) (b:St) (H:Hp) (x:V) (v:dq) (Q:Bool->Hp->Prop),Inv X a b H s->RelV x v->r x H Q->
  wpAny (d5 X.prog X.w) X.A (Lo v) (TP X a b Q) X.xe s
noncomputable def DR(r:R2)(I tb:TE):TE:=λa H Q=>I a H λx b=>tb a b λy d=>r x y d Q
noncomputable def rI(C:Int->Int->Prop)(g:Int->Int->V):R2:=λx y H Q=>∃i j,x = .int i/\y = .int j/\C i j/\Q (g i j) H
noncomputable def tj(g:Int->Int->V):R2:=λx y H Q=>∃i j,x = .int i/\y = .int j/\Q (g i j) H
section
variable{X:Cx}{a b c:dy}{ta tb tc:TE}{pos:eo}
theorem Li(ha:PE X a ta)(hb:PE X b tb){J:TW}{s:d8}{σ:St}{H:Hp}{R:V->V->Hp->Prop}(I:Inv X J σ H s)
 (h:ta σ H λx H1=>tb σ H1 λy L=>R x y L) {Q:EQ} {f:dq->dq->Sem dq}
 (O : ∀v u s2 x y L,Inv X J σ L s2->RelV x v->RelV y u->R x y L->wpAny (d5 X.prog X.w) X.A (f v u) Q X.xe s2) :
 wpAny (d5 X.prog X.w) X.A (d3 a X.env) (λv Y=>wpAny (d5 X.prog X.w) X.A (d3 b X.env) (λu G?=>wpAny (d5 X.prog X.w) X.A (f v u) Q X.xe G?) X.xe Y) X.xe s:=by
 refine ed (ha J s σ H _ I h) λv l z=>?_;obtain⟨x,H1,d,j,g⟩:=z;refine ed (hb J l σ H1 _ d g) λu s2 z=>?_;obtain⟨y,L,e,k,i⟩:=z;exact O v u s2 x y L e j k i
theorem uZ{z:Operator}{r:R2}(O:hJ X (t8 z) r)(J:PE X a ta)(L:PE X b tb):PE X (.BinOp a z b pos) (DR r ta tb):=by intro d s i H Q I h;exact wpAny_BinOp<|Li J L I h λv u g x y e Y rx f q=>O d g i e x y v u Q Y rx f q
theorem MG{f:dq->dq->Sem dq}{C:Int->Int->Prop}{g:Int->Int->Int}
 (rule : ∀(i j:Int) (t u:p7) (s:d8) (Q:EQ) (E:EQ),C i j->Q (.int (g i j) s.toks) {s with toks:=s.toks+1}->wpAny (d5 X.prog X.w) X.A (f (.int i t)<|.int j u) Q E s) :
 hJ X f (rI C λi j=> .int (g i j)):=by
 intro a s d H x y v u Q I rx z h;obtain⟨i,j,rfl,rfl,O,q⟩:=h;obtain⟨t,rfl⟩:=rx;obtain⟨b,rfl⟩:=z;exact rule i j t b s _ _ O ⟨.int<|g i j,H,I.tok _,⟨_,rfl⟩,q⟩
theorem Mi{f:dq->dq->Sem dq}{g:Int->Int->Int}
 (rule : ∀(i j:Int) (t u:p7) (s:d8) (Q:EQ) (E:EQ),Q (.int (g i j) s.toks) {s with toks:=s.toks+1}->wpAny (d5 X.prog X.w) X.A (f (.int i t)<|.int j u) Q E s) :
 hJ X f (tj λi j=> .int (g i j)):=by
 intro a s d H x y v u Q I rx z h;obtain⟨i,j,rfl,rfl,q⟩:=h;obtain⟨t,rfl⟩:=rx;obtain⟨b,rfl⟩:=z;exact rule i j t b s _ _ ⟨.int<|g i j,H,I.tok _,⟨_,rfl⟩,q⟩
theorem Iv{f:dq->dq->Sem dq}{g:Int->Int->Bool}
 (rule : ∀(i j:Int) (t u:p7) (s:d8) (Q:EQ) (E:EQ),Q (.bool<|g i j) s->wpAny (d5 X.prog X.w) X.A (f (.int i t)<|.int j u) Q E s) :
 hJ X f (tj λi j=> .bl (g i j)):=by
 intro a s d H x y v u Q I rx z h;obtain⟨i,j,rfl,rfl,q⟩:=h;obtain⟨t,rfl⟩:=rx;obtain⟨b,rfl⟩:=z;exact rule i j t b s _ _ ⟨.bl<|g i j,H,I,rfl,q⟩
noncomputable def MU(i j:Int):Prop:=0<j/\j<1073741824
noncomputable def MT(i j:Int):Prop:=0<=j/\j<=1000000/\i.natAbs<2 ^ 64
noncomputable def D0(i j:Int):Prop:=(-(2 ^ 64)<i/\i<2 ^ 64)\/(-(2 ^ 64)<j/\j<2 ^ 64)
theorem D0.ok(h:D0 i j):IntMulOk i j:=by
 rcases h with⟨a,b⟩ | ⟨a,b⟩
 ·exact .of_left<|intBits_le_64 a b
 ·exact .of_right<|intBits_le_64 a b
theorem w?:hJ X (t8 .Add) (tj λi j=> .int (i+j)):=Mi λ_ _ _ _ _ _ _ q=>add_int q
theorem Et:hJ X (t8 .Sub) (tj λi j=> .int (i - j)):=Mi λ_ _ _ _ _ _ _ q=>sub_int q
theorem x?:hJ X (t8 .Mult) (rI D0 λi j=> .int (i*j)):=MG λ_ _ _ _ _ _ _ z q=>mul_int q z.ok
theorem Aj:hJ X (t8 .FloorDiv) (rI MU λi j=> .int (i/j)):=MG λi j _ _ _ _ _ z q=>by have a:(0:Int)<j:=z.1;have b:j<1073741824:=z.2;exact floordiv_int ⋯ (by rw[Int.fdiv_eq_ediv_of_nonneg i ⋯];exact q)<|.inl<|PyProof.noPylong_small ⋯
theorem Ex:hJ X (t8 .Mod) (rI (λ_ j=>0<j) λi j=> .int (i%j)):=MG λi j _ _ _ _ _ z q=>by have a:(0:Int)<j:=z;exact mod_int' ⋯ (by rw[Int.fmod_eq_emod_of_nonneg i ⋯];exact q)
theorem Eu:hJ X (t8 .Pow) (rI MT λi j=> .int (i ^ j.toNat)):=MG λ_ _ _ _ _ _ _ z q=>pow_int_small z.1 z.2.1 z.2.2 q
end
noncomputable def Nf:V->V->Bool
 | .eg,.eg=>cL | .eg,.int _=>cL | .int _,.eg=>cL | .eg,.bl _=>cL | .bl _,.eg=>cL | .eg,.str _=>cL | .str _,.eg=>cL
 | .int _,.int _=>cL | .bl _,.bl _=>cL | .str _,.str _=>cL | .t9 _,.t9 _=>cL
 | .int _,.str _=>cL | .str _,.int _=>cL | .bl _,.str _=>cL | .str _,.bl _=>cL
 | _,_=>dd
noncomputable def P':R2:=λx y H Q=>Nf x y=cL/\Q (.bl<|decide<|x=y) H
theorem Bb:decide (V.int i=V.int j)=(i==j):=by rw[Rc];simp
theorem FH:decide (V.bl i=V.bl j)=(i==j):=by rw[Rc];simp
theorem Ba:decide (V.str i=V.str j)=(i==j):=by rw[Rc];simp
theorem Bd:decide (V.t9 i=V.t9 j)=(i.toList==j.toList):=by rw[Rc];cases i;cases j;simp
section
variable{X:Cx}{a b c:dy}{ta tb tc:TE}{pos:eo}
theorem x6(I:Inv X pins σ H s)(q:Q (.bl k) H)(e:k=k'):EP X pins σ Q (.bool k') s:=by subst e;exact⟨.bl k,H,I,rfl,q⟩
theorem Iu:hJ X (m9 .Eq) P':=by
 intro d s e H x y v u Q I rx z h;obtain⟨b,q⟩:=h;cases x with
 | eg=>
  cases rx;cases y with
  | eg=>cases z;exact PySem.EqNone.eq_none_none<|x6 I q ⋯
  | bl j=>cases z;exact PySem.EqNone.eq_none_bool<|x6 I q ⋯
  | int j=>obtain⟨a,rfl⟩:=z;exact PySem.EqNone.eq_none_int<|x6 I q ⋯
  | str j=>obtain⟨a,rfl⟩:=z;exact PySem.EqNone.eq_none_str<|x6 I q ⋯
  | _=>exact absurd (show dd=cL from b) Oy
 | bl i=>
  cases rx;cases y with
  | eg=>cases z;exact PySem.EqNone.eq_bool_none<|x6 I q ⋯
  | bl j=>cases z;exact eq_bool<|x6 I q FH
  | str j=>obtain⟨a,rfl⟩:=z;exact PySem.EqMixed.eq_bool_str<|x6 I q ⋯
  | _=>exact absurd (show dd=cL from b) Oy
 | int i=>
  obtain⟨t,rfl⟩:=rx;cases y with
  | eg=>cases z;exact PySem.EqNone.eq_int_none<|x6 I q ⋯
  | int j=>obtain⟨a,rfl⟩:=z;exact eq_int<|x6 I q Bb
  | str j=>obtain⟨a,rfl⟩:=z;exact PySem.EqMixed.eq_int_str<|x6 I q ⋯
  | _=>exact absurd (show dd=cL from b) Oy
 | str i=>
  obtain⟨t,rfl⟩:=rx;cases y with
  | eg=>cases z;exact PySem.EqNone.eq_str_none<|x6 I q ⋯
  | bl j=>cases z;exact PySem.EqMixed.eq_str_bool<|x6 I q ⋯
  | int j=>obtain⟨a,rfl⟩:=z;exact PySem.EqMixed.eq_str_int<|x6 I q ⋯
  | str j=>obtain⟨a,rfl⟩:=z;exact eq_str<|x6 I q Ba
  | _=>exact absurd (show dd=cL from b) Oy
 | t9 i=>
  obtain⟨t,rfl⟩:=rx;cases y with
  | t9 j=>obtain⟨a,rfl⟩:=z;exact PySem.W.eq_bytes<|x6 I q Bd
  | _=>exact absurd (show dd=cL from b) Oy
 | _=>cases y<;>exact absurd (show dd=cL from b) Oy
theorem Ai:hJ X (m9 .Lt) (tj λi j=> .bl (decide<|i<j)):=Iv λ_ _ _ _ _ _ _ q=>lt_int q
theorem ou:hJ X (m9 .LtE) (tj λi j=> .bl (decide<|i<=j)):=Iv λ_ _ _ _ _ _ _ q=>le_int q
theorem Ir:hJ X (m9 .Gt) (tj λi j=> .bl (decide<|j<i)):=Iv λ_ _ _ _ _ _ _ q=>gt_int q
theorem hJ.or(h:hJ X f r)(h':hJ X f r'):hJ X f (λx y H Q=>r x y H Q\/r' x y H Q):=by
 intro a s b H x y v u Q I rx z q;rcases q with q | q
 ·exact h a s b H x y v u Q I rx z q
 ·exact h' a s b H x y v u Q I rx z q
theorem YM(b:dy)(h:op ≠ .In:=by decide)(I:op ≠ .NotIn:=by decide):t7 op b=dd:=by
 have a:(op==CmpOp.In)=dd:=by cases op<;>first | rfl | exact absurd rfl h
 have d:(op==CmpOp.NotIn)=dd:=by cases op<;>first | rfl | exact absurd rfl I
 cases b<;>simp[t7,a,d]
theorem gy{z:CmpOp}{r:R2}(O:hJ X (m9 z) r)(J:PE X a ta)(L:PE X b tb)(hm:t7 z b=dd):PE X (.Compare a [z] [b] pos) (DR r ta tb):=by intro d s i H Q I h;exact wpAny_Compare1 (Li J L I h λv u g x y e Y rx f q=>O d g i e x y v u Q Y rx f q) hm
noncomputable def tZ(t:TE):TT:=λb H Q=>t b H λx a=>∃k,x = .bl k/\Q k a
theorem Kf(O:hJ X (m9 op) r)(J:PE X a ta)(L:PE X b tb)(hm:t7 op b=dd):PT X (.Compare a [op] [b] pos) (tZ<|DR r ta tb):=by
 intro d s f H Q I h;refine P? (ed (J d s f H _ I h) λv B ⟨x,g,Y,t,n⟩=>ed (L d B f g _ Y n) λu C ⟨y,i,l,w,o⟩=>
  ed (O d C f i x y v u _ l t w o) λc E ⟨z,j,m,A,k,e,p⟩=>?_) hm
 subst e;cases A;exact Ro ⟨j,m,p⟩
noncomputable def rK(r J:R2)(ta tb tc:TE):TE:=λa H Q=>ta a H λx b=>tb a b λy d=>r x y d λz I=>∃k,z = .bl k/\
 (if k=cL then tc a I λe O=>J y e O Q else Q (.bl dd) I)
theorem oj(ho:hJ X (m9 op) r)(J:hJ X (m9 I7) r')(L:PE X a ta)(hb:PE X b tb)(hc:PE X c tc)
 (hm:P9 [op,I7] [b,c]=dd:=by with_unfolding_all rfl):PE X (.Compare a [op,I7] [b,c] pos) (rK r r' ta tb tc):=by
 intro f s g H Q I h;refine Compare_chain (ed (L f s g H _ I h) λv G ⟨x,l,o,C,w⟩=>chain_link (ed (hb f G g l _ o w) λu K ⟨y,m,p,j,A⟩=>
  ed (ho f K g m x y v u _ p C j A) λd M ⟨z,O,Y,E,k,e,i⟩=>?_)) hm
 subst e;cases E;refine Ro ?_;cases k with
 | false=>exact ite_ff ⟨.bl dd,O,Y,rfl,i⟩
 | true=>exact ite_tt<|chain_last<|ed (hc f M g O _ Y i) λP N ⟨R,n,t,F,B⟩=>J f N g n y R u P Q t j F B
theorem nN{O Y:CmpOp}{r J:R2}(ho:hJ X (m9 O) r)(L:hJ X (m9 Y) J)(ha:PE X a ta)(hb:PE X b tb)(hc:PE X c tc)
 (hm:P9 [O,Y] [b,c]=dd:=by with_unfolding_all rfl):PT X (.Compare a [O,Y] [b,c] pos) (tZ<|rK r J ta tb tc):=by
 intro f s g H Q I h;refine isTrue_chain (ed (ha f s g H _ I h) λv W ⟨x,n,w,R,K⟩=>test_link (ed (hb f W g n _ w K) λu Z ⟨y,o,A,m,M⟩=>
  ed (ho f Z g o x y v u _ A R m M) λd s3 ⟨z,i,j,S,k,e,l⟩=>?_)) hm
 subst e;cases S;refine Ro ?_;cases k with
 | false=>
  obtain⟨k',E,G⟩:=l;cases E;exact ite_ff ⟨i,j,G⟩
 | true=>
  refine ite_tt<|test_last<|ed (hc f s3 g i _ j l) λw' s4 ⟨z',p,B,T,N⟩=>ed (L f s4 g p y z' u w' _ B m T N) λd' s5 ⟨z2,t,C,U,k2,F,P⟩=>?_;subst F;cases U;exact Ro ⟨t,C,P⟩
noncomputable def MN(K:Ob)(x:V)(H:Hp)(k:Bool):Prop:=
 match x with
 | .eg=>k=dd
 | .bl b=>k=b
 | .int i=>k=(i != 0)
 | .str y=>y.length<=eJ/\k=((y.length:Int) != 0)
 | .t9 y=>y.size<=eJ/\k=((y.size:Int) != 0)
 | .ref p=>(∃d,e9 K H p d/\k = !d.isEmpty)\/(∃d,fh K H p d/\k = !d.isEmpty)\/∃a,H p=cI (.dK a)/\k = !a.isEmpty
 | _=>False
theorem dk(r:KV lK vs):(!vs.isEmpty) = !lK.isEmpty:=by cases r<;>rfl
theorem Xw(r:ej xs o?):(!o?.toArray.isEmpty) = !xs.isEmpty:=by cases r<;>simp
theorem JE:(eJ:Nat)<2 ^ 63:=by rw[Um];decide
theorem Cd:NN X (λx H Q=>∃k,MN X.K x H k/\Q k H):=by
 intro l s B H x v Q I rx h;obtain⟨k,e,q⟩:=h;have u:=JE;have A:eJ=16777216:=Um;cases x with
 | eg=>
  cases rx;have z:k=dd:=e;subst z;exact truthy_none ⟨H,I,q⟩
 | bl b=>
  cases rx;have z:k=b:=e;subst z;exact Ro ⟨H,I,q⟩
 | int i=>
  obtain⟨t,rfl⟩:=rx;have z:k=(i != 0):=e;subst z;exact PySem.P.truthy_int ⟨H,I,q⟩
 | str y=>
  obtain⟨t,rfl⟩:=rx;obtain⟨Y,z⟩:y.length<=eJ/\k=((y.length:Int) != 0):=e;subst z;exact PySem.P.truthy_str ⋯ ⟨H,I.tok _,q⟩
 | t9 y=>
  obtain⟨t,rfl⟩:=rx;obtain⟨Y,z⟩:y.size<=eJ/\k=((y.size:Int) != 0):=e;subst z;exact PySem.W.truthy_bytes ⋯ ⟨H,I.tok _,q⟩
 | ref p=>
  cases rx;have z:(∃d,e9 X.K H p d/\k = !d.isEmpty)\/(∃d,fh X.K H p d/\k = !d.isEmpty)\/∃a,H p=cI (.dK a)/\k = !a.isEmpty:=e;rcases z with⟨d,f,z⟩ | ⟨d,f,z⟩ | ⟨a,f,z⟩
  ·subst z
   obtain⟨n,r,pl,j⟩:=I.list f;have O:=r.length;exact wpAny_truthy_list pl.isList (by simp only[Ov];omega) ⟨H,I.tok _,by rw[Xw r];exact q⟩
  ·subst z
   obtain⟨n,r,pl,j⟩:=I.tuple f;have O:=r.length;exact truthy_tuple pl (by simp only[Ov];omega) ⟨H,I.tok _,by rw[Xw r];exact q⟩
  ·subst z
   obtain⟨j,o,g,r,m⟩:a.length<=eJ/\(p==tr)=dd/\∃g,KV a g/\s.heap.DictOf (qG X.prog X.w) p g:=I.eG p _ f;have O:a.length=g.length:=Paired.length r;exact wpAny_truthy_dict o m ⋯ ⟨H,I.tok _,by rw[dk r];exact q⟩
 | _=>exact(show False from e).elim
theorem nM(L:PE X a ta)(O : ∀z,DG a X.env z=(do let v <- z;DO a.pos;u6 [v] (Lo v))) :
 PT X a (λJ H Q=>ta J H λx H'=>∃k,MN X.K x H' k/\Q k H'):=by
 intro b s J H Q I h;exact isTrue_plain (ed (L b s J H _ I h) λv g ⟨x,d,Y,f,e⟩=>Cd b g J d x v Q Y f e)<|O _
theorem cS:hJ X (t8 .Add) (λx y H Q=>∃i j,x = .str i/\y = .str j/\i.length+j.length<=eJ/\Q (.str<|i++j) H):=by intro a s e H x y v u Q I rx z h;obtain⟨i,j,rfl,rfl,b,q⟩:=h;obtain⟨t,rfl⟩:=rx;obtain⟨d,rfl⟩:=z;exact add_str (λd O=>⟨.str<|i++j,H,I.tok _,⟨_,rfl⟩,q⟩) b
theorem yE(r:ej [x] us) : ∃u,us=[u]/\RelV x u:=by
 cases r with
 | cons z a=>cases a;exact⟨_,rfl,z⟩
theorem BZ(r:ej [x,y] us) : ∃u w',us=[u,w']/\RelV x u/\RelV y w':=by
 cases r with
 | cons z a=>
  cases a with
  | cons I O=>cases O;exact⟨_,_,rfl,z,I⟩
theorem lC(O:X.calm=cL):J3 X (.builtin "min") (λxs H Q=>∃i j,xs=[.int i,.int j]/\Q (.int (if j<i then j else i)) H):=by
 intro a s g H xs e Q I r h;obtain⟨i,j,rfl,q⟩:=h;obtain⟨u,f,rfl,⟨t,rfl⟩,⟨d,rfl⟩⟩:=BZ r;refine min_two_ints (I.ok.hd O) λb Y k=>⟨_,H,I.kept k,?_,q⟩;by_cases z:j<i
 ·rw[DZ z,DZ z];exact⟨_,rfl⟩
 ·rw[DJ z,DJ z];exact⟨_,rfl⟩
theorem lD:J3 X (.type "int") (λxs H Q=>(∃i,xs=[.int i]/\Q (.int i) H)\/∃k,xs=[.bl k]/\Q (.int (if k then 1 else 0)) H):=by
 intro a s d H xs b Q I r h;rcases h with⟨i,rfl,q⟩ | ⟨k,rfl,q⟩
 ·obtain⟨u,rfl,t,rfl⟩:=yE r
  exact call_int_int ⟨.int i,H,I,⟨_,rfl⟩,q⟩
 ·obtain⟨u,rfl,z⟩:=yE r
  cases z;exact call_int_bool ⟨.int<|if k then 1 else 0,H,I.tok _,⟨_,rfl⟩,q⟩
end
structure Dw(h:ew)(x dx C:di)(mA:DX):Prop where
 obj:h.get? x=cI (Sq C dx)
 ns:h.Ns1 dx mA
 ne:dx≠x
theorem gY{h:ew}{J:di}{L:DX}(n:h.Ns1 J L) : ∃od,h.get? J=cI od/\∀name,UH name od=cI (L name):=by
 obtain⟨o,b,j,I,f,g,_,i⟩:=n;refine⟨o,I,λname=>?_⟩;have e:=i name;unfold nsFind findBy at e;rw[<- Array.find?_toList]at e;unfold UH;rw[f];dsimp only;split
 ·rename_i y q
  rw[q]at e;exact congrArg cI e
 ·rename_i q
  rw[q]at e;have a:b.toList.any (·.refKey)=dd:=by rw[List.any_eq_false];intro y O;obtain⟨z,t,Y⟩:=g y<|Array.mem_toList_iff.mp O;simp[DictEntry.refKey,Y]
  have d : ¬b.toList.any (·.refKey)=cL:=by rw[a];exact Oy
  rw[DJ d];exact congrArg cI e
theorem Dw.look(I:Dw h x dx C mA) : ∃J,PySem.W.InstAt h x (Sq C dx) C (cI J)/\∀name,UH name J=cI (mA name):=
 let ⟨J,z,O⟩:=gY I.ns
 ⟨J,⟨I.obj,rfl,rfl,z⟩,O⟩
section
variable{prog:gB}{w:fm}{A:i8}{E:EQ}{s:d8}{K:Ob}{x dx C f:di}{mA:DX}{name:Str}{v:dq}
theorem AO(X:K.In s.heap)(I:Dw s.heap x dx C mA)(z:TF K C name=cL)(O:Ub K C=cL)
 (ha:Pp K (.ref C) name=cI cR) (Y:mA name=cI v) (L:PySem.W.handedIn v=cL) (h:Q v {s with toks:=s.toks+1}) :
 wpAny (d5 prog w) A (getAttr (.ref x) name expr) Q E s:=by
 obtain⟨b,J,a⟩:=I.look;exact PySem.W.get_value X J (UJ z).1 (PySem.W.findObj_own O ha rfl<|by rw[a,Y]) L h
theorem pE(X:K.In s.heap)(I:Dw s.heap x dx C mA)(z:TF K C name=cL)
 (O:Pp K (.ref C) name=cI (cI (.ref f))) (Y:TY K (.ref f)=cL) (L:mA name=cR) (h:Q (.ref f,[.ref x]) s) :
 wpAny (d5 prog w) A (P0 (.ref x) name pl) Q E s:=by
 obtain⟨b,J,a⟩:=I.look;exact PySem.W.method_fn X J (UJ z).1 (UJ z).2 O (beq_iff_eq.mp Y) (by show(UH name b).map (·.isSome)=cI dd;rw[a,L];rfl) h
theorem um(X:K.In s.heap)(I:Dw s.heap x dx C mA)
 (hs:Pp K (.ref C) "__setattr__" = cI (cI (.builtin "object.__setattr__"))) (Y:UX K C=cL) (ht:PySem.W.takerIn K C name=cI cR) (L:Ub K C=cL)
 (hw:g_ mA ns) (hsz:ns.length<=eJ)
 (h : ∀h',Dw h' x dx C (λy=>if y=name then cI v else mA y)->RE dx s.heap h'->Q () {s with heap:=h',toks:=s.toks+2}) :
 wpAny (d5 prog w) A (setAttr (.ref x) name v) Q E s:=by
 obtain⟨o,J,n⟩:=I.look;refine PySem.W.set_plain X J hs<|PySem.W.osa_open (s:={s with toks:=s.toks+1}) (r:=cR) X J Y ht λb=>?_;obtain⟨m,i,d⟩:=PySem.W.any_some L;have j:s.heap.get? x=cI ⟨.ref C,cI dx,.plain,#[]⟩:=I.obj;refine Oc<|Oi<|Oc<|Oc<|wpAny_loadPart j<|Oc<|PySem.W.Looks.here (s:={s with toks:=s.toks+1}) (PySem.W.looks_clsIn X i) ?_;rw[d];refine Oi (a:=cI dx)<|Oc<|Oi<|Oc ?_;refine wpAny_nsSet1 (s:={s with toks:=s.toks+1}) I.ns λh' z O=>?_;obtain⟨oD,k,l,e,f,g⟩:=z.count<|g_.cons name v hw;refine Oc<|wpAny_lookBehind e (by rw[f];exact pastItsLine_dict<|PK g<|by rw[OK];omega) ?_;exact Oi<|h _ ⟨(O.2 _<|PH I.ne).trans I.obj,z,I.ne⟩ O
theorem oP(X:K.In s.heap)(L:Ux K C=cL)
 (J:Pp K (.ref C) "__init__" = cI (cI (.ref f))) (z:PySem.W.typeIn K (.ref f)=cI (.type "function"))
 (h:codeAny (d5 prog w) (A.under (.builtin "type.__call__" ⟨.ref C::vs,kw⟩)) (.call (.ref f) ⟨.ref (s.heap.objs.size+1)::vs,kw⟩) (PySem.W.InitBack (s.heap.objs.size+1) R)
   {s with heap:=(s.heap.push RF).push (Sq C s.heap.objs.size)}) :
 codeAny (d5 prog w) A (.call (.ref C) ⟨vs,kw⟩) R s:=by
 obtain⟨I,g,d,t,os⟩:=s;exact PySem.W.make_core (PySem.W.makes_of X L) (PySem.W.looks_findIn X J) (λa=>PySem.W.bind_fn X a z) (.inl rfl) h
end
noncomputable def Kd(f:Str)(v:V):List (Str×V)->List (Str×V)
 | []=>[(f,v)]
 | (g,x)::r=>if g=f then (g,v)::r else (g,x)::Kd f v r
theorem qH(f g:Str)(v:V) : ∀fs:List (Str×V),(Kd f v fs).lookup g=if g=f then cI v else fs.lookup g
 | []=>by
  show To g [(f,v)]=_;by_cases h:g=f
  ·have a:(g==f)=cL:=beq_iff_eq.mpr h
   simp only[To,a,DZ h]
  ·have a:(g==f)=dd:=beq_eq_false_iff_ne.mpr h
   simp only[To,a,DJ h]
 | (k,x)::r=>by
  have z:=qH f g v r;rw[show Kd f v ((k,x)::r)=(if k=f then (k,v)::r else (k,x)::Kd f v r)from rfl];by_cases b:k=f
  ·rw[DZ b]
   by_cases h:g=k
   ·have a:(g==k)=cL:=beq_iff_eq.mpr h
    simp only[To,a,DZ (h.trans b)]
   ·have a:(g==k)=dd:=beq_eq_false_iff_ne.mpr h
    simp only[To,a,DJ (λe:g=f=>h<|e.trans b.symm)]
  ·rw[DJ b]
   by_cases h:g=k
   ·have a:(g==k)=cL:=beq_iff_eq.mpr h
    simp only[To,a,DJ (λe:g=f=>b<|h.symm.trans e)]
   ·have a:(g==k)=dd:=beq_eq_false_iff_ne.mpr h
    simp only[To,a];exact z
theorem JG(f:Str)(v:V) : ∀fs:List (Str×V),f∈(Kd f v fs).map (·.1)/\∀g,g∈fs.map (·.1)->g∈(Kd f v fs).map (·.1)
 | []=>⟨by simp[Kd],λg h=>by simp at h⟩
 | (k,x)::r=>by
  obtain⟨z,I⟩:=JG f v r;rw[show Kd f v ((k,x)::r)=(if k=f then (k,v)::r else (k,x)::Kd f v r)from rfl];by_cases a:k=f
  ·rw[DZ a]
   subst a;exact⟨by simp,λg h=>by simpa using h⟩
  ·rw[DJ a]
   refine⟨?_,λg h=>?_⟩
   ·rw[OH]
    exact Ow _ z
   ·rw[OH]at h ⊢
    rcases OA.mp h with e | e
    ·exact OA.mpr<|.inl e
    ·exact Ow _<|I g e
theorem JF(f:Str)(v:V) : ∀fs:List (Str×V),(Kd f v fs).length<=fs.length+1
 | []=>by simp[Kd]
 | (k,x)::r=>by
  have z:=JF f v r;rw[show Kd f v ((k,x)::r)=(if k=f then (k,v)::r else (k,x)::Kd f v r)from rfl];by_cases a:k=f
  ·rw[DZ a,OK,OK];omega
  ·rw[DJ a,OK,OK];omega
theorem p6.some_of(r:p6 (cI v) o) : ∃u,o=cI u/\RelV v u:=by
 cases o with
 | none=>exact(show False from r).elim
 | some u=>exact⟨u,rfl,r⟩
theorem p6.none_of(r:p6 cR o):o=cR:=by
 cases o with
 | none=>rfl
 | some u=>exact(show False from r).elim
theorem iG(r:RelV v u):PySem.W.handedIn u=cL:=by
 cases v with
 | eg=>cases (show u=Ph from r);rfl
 | bl b=>cases (show u=M9 b from r);rfl
 | int i=>obtain⟨t,e⟩:=(show ∃t,u=D7 i t from r);cases e;rfl
 | str x=>obtain⟨t,e⟩:=(show ∃t,u=UE x t from r);cases e;rfl
 | t9 b=>obtain⟨t,e⟩:=(show ∃t,u=Value.bytes b t from r);cases e;rfl
 | DD b=>obtain⟨t,e⟩:=(show ∃t,u=Value.float b t from r);cases e;rfl
 | ref a=>cases (show u=OR a from r);rfl
 | ty n=>cases (show u=Ss n from r);rfl
section
variable{P:gB}{w:fm}{H H':Hp}{h h':ew}{a C dx:di}{fs e?:List (Str×V)}
theorem Kv(J:ji P w H h)(e:H a=cI (.ins C dx fs)) : ∃mA,Dw h a dx C mA/\(∀f,p6 (fs.lookup f)<|mA f)/\g_ mA (fs.map (·.1))/\fs.length<=1000/\H dx=cI (.own a):=by obtain⟨d,z,b,I,mA,n,r,q⟩:=(show ij P w H h a (.ins C dx fs)from J a _ e);exact⟨mA,⟨I,n,b⟩,r,q,z,d⟩
end
structure xx(K:Ob)(C:di):Prop where
 pg:TF K C Str.empty=cL
 hd:Ub K C=cL
 po:UX K C=cL
 sa:Pp K (.ref C) "__setattr__" = cI (cI (.builtin "object.__setattr__"))
theorem xx.get{K:Ob}{C:di}(c:xx K C)(f:Str):TF K C f=cL:=c.pg
noncomputable def C8(K:Ob)(C:di)(f:Str):Prop:=Pp K (.ref C) f=cI cR
theorem C8.L?{K:Ob}{C:di}{f:Str}(n:C8 K C f):PySem.W.takerIn K C f=cI cR:=by unfold PySem.W.takerIn;rw[show Pp K (.ref C) f=cI cR from n];rfl
structure F6(K:Ob)(C:di)(m:Str)(f:di):Prop where
 at_:Pp K (.ref C) m=cI (cI (.ref f))
 fn:TY K (.ref f)=cL
 kp:Rb K (.ref f)=cL
section
variable{X:Cx}{pins:TW}{σ:St}{H:Hp}{s:d8}{a C dx:di}{fs:List (Str×V)}{f:Str}{v:V}{A:i8}{E:EQ}
theorem dA(I:Inv X pins σ H s)(e:H a=cI (.ins C dx fs))(c:xx X.K C)(n:C8 X.K C f)(l:fs.lookup f=cI v)
 (h : ∀u J,Inv X pins σ H J->RelV v u->Q u J):wpAny (d5 X.prog X.w) A (getAttr (.ref a) f b) Q E s:=by
 obtain⟨d,O,r,_,_,_⟩:=Kv I.eG e;obtain⟨u,Y,z⟩:=p6.some_of (v:=v) (o:=d f) (by rw[<- l];exact r f);exact AO I.i7 O (c.get f) c.hd n Y (iG z)<|h u _ (I.tok _) z
theorem dz(I:Inv X pins σ H s)(e:H a=cI (.ins C dx fs))(c:xx X.K C)(k:F6 X.K C m g)(l:fs.lookup m=cR)
 (h:Q (.ref g,[.ref a]) s):wpAny (d5 X.prog X.w) A (P0 (.ref a) m pl) Q E s:=by
 obtain⟨d,O,r,_,_,_⟩:=Kv I.eG e;have b:d m=cR:=p6.none_of (by rw[<- l];exact r m);exact pE I.i7 O (c.get m) k.at_ k.fn b h
theorem cv(I:Inv X pins σ H s)(e:H a=cI (.ins C dx fs))(c:xx X.K C)(n:C8 X.K C f)(hl:fs.length<1000)(L:RelV y u)
 (h : ∀J,Inv X pins σ (upd H a<|.ins C dx<|Kd f y fs) J->Q () J):wpAny (d5 X.prog X.w) A (setAttr (.ref a) f u) Q E s:=by
 obtain⟨i,O,r,j,_,d⟩:=Kv I.eG e;have B:(fs.map (·.1)).length<=eJ:=by rw[OC,Um];omega
 refine um I.i7 O c.sa c.po n.L? c.hd j B λl Y F=>h _ ?_;have p : ∃o,l.get? dx=cI o:=let ⟨o,_,_,k,_⟩:=Y.ns;⟨o,k⟩;refine I.write (x:=a) (e:=dx) (by rw[e];exact PJ) (.inr d) (λb q m z=>(F.2 b m).trans z) p ?_;refine⟨by rw[zH O.ne];exact d,?_,O.ne,Y.obj,_,Y.ns,λg=>?_,λg t=>?_⟩
 ·have:=JF f y fs;omega
 ·show p6 ((Kd f y fs).lookup g) (if g=f then cI u else i g)
  rw[qH];by_cases q:g=f
  ·rw[DZ q,DZ q];exact L
  ·rw[DJ q,DJ q];exact r g
 ·by_cases q:g=f
  ·rw[q];exact(JG f y fs).1
  ·refine(JG f y fs).2 g (j g λz=>t ?_)
   show(if g=f then cI u else i g)=cR;rw[DJ q];exact z
theorem Inv.made(I:Inv X pins σ H s):Inv X pins σ (upd (upd H s.heap.objs.size<|.own<|s.heap.objs.size+1) (s.heap.objs.size+1)<|.ins C s.heap.objs.size [])
 {s with heap:=(s.heap.push RF).push (Sq C s.heap.objs.size)}:=by
 have d:(s.heap.push RF).get? s.heap.objs.size=cI RF:=Oz s.heap rfl;have g:((s.heap.push RF).push (Sq C s.heap.objs.size)).get? (s.heap.objs.size+1)=cI (Sq C s.heap.objs.size):=by
  have:=Oz (s.heap.push RF) (o:=Sq C s.heap.objs.size) rfl
  rwa [nr]at this
 have z:(s.heap.push RF).Ns s.heap.objs.size (λ_=>cR):=⟨RF,#[],_,d,rfl,(λe O=>absurd O ⋯),λ_=>rfl⟩;have Y:=I.laid (a:=s.heap.objs.size) (o:= .own (s.heap.objs.size+1)) (h':=s.heap.push RF) (t':=s.toks) (λb u q=>Of _ q) (Ou _) ⟨_,d⟩;refine Y.laid (a:=s.heap.objs.size+1) (o:= .ins C s.heap.objs.size []) (t':=s.toks) (λb u q=>Of _ q) (Nat.le_of_eq<|nr _ _) ?_;have f:s.heap.objs.size≠s.heap.objs.size+1:=ON<|PR _;refine⟨by rw[zH f,zB],Rg _,f,g,λ_=>cR,(Heap.Ns1.of_empty z).at λo q=>Of _ q,λ_=>PJ,λy h=>absurd rfl h⟩
theorem Br(I:vt e f env (d3 e env)=d3 e env)
 (h:wpAny (d5 prog w) A (d3 e env) (λo z=>wpAny (d5 prog w) A (getAttr o f cL) Q E z) E s):wpAny (d5 prog w) A (d3 (.Attribute e f pos) env) Q E s:=
 Attribute_any_ h (by rw[arm_eval_Attribute,I])
end
noncomputable def HG(K:Ob)(I:TE)(f:Str):TE:=λe H Q=>I e H λx b=>∃a C d fs v,x = .ref a/\b a=cI (.ins C d fs)/\xx K C/\C8 K C f/\fs.lookup f=cI v/\Q v b
noncomputable def HZ(K:Ob)(I J:TE)(f:Str):TS:=λD b H=>J b H λy g=>I b g λx d=>∃a C e fs,x = .ref a/\d a=cI (.ins C e fs)/\xx K C/\C8 K C f/\fs.length<1000/\
 D.nx b (upd d a<|.ins C e<|Kd f y fs)
section
variable{X:Cx}{o e value:dy}{f:Str}{pos pos' n7:eo}{ta tv:TE}
theorem az(z:PE X e ta)(J:vt e f X.env (d3 e X.env)=d3 e X.env):PE X (.Attribute e f pos) (HG X.K ta f):=by intro b s m H Q I h;refine Br J<|ed (z b s m H _ I h) λu p O=>?_;obtain⟨x,d,Y,rx,a,C,o,fs,v,j,i,c,n,l,q⟩:=O;subst j;obtain rfl:u=OR a:=rx;exact dA Y i c n l λt r g k=>⟨v,d,g,k,q⟩
theorem rY(J:PE X o ta)(z:PE X value tv)(L:p4 value (cI (.Attribute o f pos')) pos.line X.env=pure dd):PS X (.Assign [.Attribute o f pos'] value pos) (HZ X.K ta tv f):=by intro b s d H D I h;refine plainObj_wpAny_Assign_Attribute (ed (z b s d H _ I h) λu r ⟨y,e,O,Y,q⟩=>ed (J b r d e _ O q) λm A ⟨x,t,g,rx,a,C,w,fs,k,j,c,n,l,p⟩=>?_) L;subst k;obtain rfl:m=OR a:=rx;exact cv g j c n l Y λB i=>⟨d,_,i,p⟩
end
section
variable{X:Cx}{pins:TW}{σ:St}{H:Hp}{s:d8}{A:i8}{E:EQ}{Q:EQ}{c:dq}{b:Bool}
inductive t6(K:Ob)(H:Hp):V->dq->Prop where
 | eg:t6 K H .eg (.type "NoneType")
 | bl (x:Bool):t6 K H (.bl x) (.type "bool")
 | int (i:Int):t6 K H (.int i) (.type "int")
 | str (x:Str):t6 K H (.str x) (.type "str")
 | DD (x:UInt64):t6 K H (.DD x) (.type "float")
 | lst {a:di} {xs:List V} (e:H a=cI (.lst xs)):t6 K H (.ref a) (.type "list")
 | ro {a:di} {o:i5} {xs:List V} (e:H a=cI (.ro o (.lst xs))):t6 K H (.ref a) (.type "list")
 | tup {a:di} {xs:List V} (e:H a=cI (.tup xs)):t6 K H (.ref a) (.type "tuple")
 | dK {a:di} {lK:List (Key×V)} (e:H a=cI (.dK lK)):t6 K H (.ref a) (.type "dict")
 | dT {a:di} {lK:List (List Key×V)} (e:H a=cI (.dT lK)):t6 K H (.ref a) (.type "dict")
 | ins {a C dx:di} {fs:List (Str×V)} (e:H a=cI (.ins C dx fs)) (cl:xx K C) (ha:Pp K (.ref C) "__class__" = cI (cI (.builtin "object.__class__")))
  (hn:PySem.W.specialIn K (.builtin "object.__class__") "__get__" = cI (cI (.builtin "getset_descriptor.__get__"))) (htk:PySem.W.takesIn K (.builtin "object.__class__")=cI cL)
  (hm:PySem.W.mroIn K C (.type "object")=cI cL):t6 K H (.ref a) (.ref C)
theorem iA(I:Inv X pins σ H s)(rx:RelV x u)(ty:t6 X.K H x t)(e:SU X.K t c=cI b)(h : ∀tk,Q (.bool b) {s with toks:=tk}) :
 wpAny (d5 X.prog X.w) A (call (.builtin "isinstance") [u,c]) Q E s:=by
 cases ty with
 | eg=>cases (show u=Ph from rx);exact Pu PySem.W.kitx_none I.i7 PJ e (λz=>nomatch z) h
 | bl y=>cases (show u=M9 y from rx);exact Pu PySem.W.kitx_bool I.i7 PJ e (λz=>nomatch z) h
 | int i=>obtain⟨t,q⟩:=(show ∃t,u=D7 i t from rx);cases q;exact Pu PySem.W.kitx_int I.i7 PJ e (λz=>nomatch z) h
 | str y=>obtain⟨t,q⟩:=(show ∃t,u=UE y t from rx);cases q;exact Pu PySem.W.kitx_str I.i7 PJ e (λz=>nomatch z) h
 | DD y=>obtain⟨t,q⟩:=(show ∃t,u=Value.float y t from rx);cases q;exact Pu PySem.W.kitx_float I.i7 PJ e (λz=>nomatch z) h
 | @lst a g Y=>
  cases (show u=OR a from rx);obtain⟨_,_,n,_,d⟩:=(show ij X.prog X.w H s.heap a (.lst g)from I.eG a _ Y);exact Pu UZ I.i7 ⟨_,d,rfl⟩ e (λz=>nomatch z) h
 | @ro a L g Y=>
  cases (show u=OR a from rx);obtain⟨_,_,_,n,_,d⟩:=(show ij X.prog X.w H s.heap a (.ro L<|.lst g)from I.eG a _ Y);exact Pu UZ I.i7 ⟨_,d,rfl⟩ e (λz=>nomatch z) h
 | @tup a g Y=>
  cases (show u=OR a from rx);obtain⟨_,_,_,p⟩:=(show ij X.prog X.w H s.heap a (.tup g)from I.eG a _ Y);obtain⟨o,d,j,_⟩:=p;exact Pu PySem.W.kitx_tuple I.i7 ⟨o,d,(Prod.mk.inj j).1⟩ e (λz=>nomatch z) h
 | @dK a f Y=>
  cases (show u=OR a from rx);obtain⟨_,_,R,_,p⟩:=(show ij X.prog X.w H s.heap a (.dK f)from I.eG a _ Y);obtain⟨o,r,m,d,j,_⟩:=p;exact Pu _k I.i7 ⟨o,d,j.1⟩ e (λz=>nomatch z) h
 | @dT a f Y=>
  cases (show u=OR a from rx);obtain⟨_,_,g,_,o,r,m,d,j,_⟩:=(show ij X.prog X.w H s.heap a (.dT f)from I.eG a _ Y);exact Pu _k I.i7 ⟨o,d,j.1⟩ e (λz=>nomatch z) h
 | @ins a C M fs Y l B G k F=>
  cases (show u=OR a from rx);obtain⟨N,O,_⟩:=Kv I.eG Y;obtain⟨P,J,_⟩:=O.look;exact Pu (PySem.W.kitx_own (l.get _) l.hd B G k F) I.i7 J e (λz=>nomatch z) h
end
structure l8(k:Nat)(A:i8):Prop where
 hd:A.handled=cR
 dp:A.depth+3*k+5<recursionLimit
 un:A.units+16*k+200<rd
theorem l8.mono(r:l8 k A)(h:j<=k):l8 j A:=⟨r.hd,by have:=r.dp;omega,by have:=r.un;omega⟩
theorem l8.deeper(r:l8 (k+1) A)(env:m5):l8 k (A.deeper env):=
 ⟨r.hd,by have:=r.dp;show A.depth+1+3*k+5<_;omega,by have:=r.un;show A.units+3+16*k+200<_;omega⟩
theorem df{A:i8}{C:di}{us:List dq}{z:List (Str×dq)}:(A.under (.builtin "type.__call__" ⟨.ref C::us,z⟩)).depth=A.depth+1:=by first | rfl | simp[Around.under,Code.weight,Code.isCreation,Code.isGuard,Code.isCaller,Code.frames,Code.isFrame,guardIds]
theorem de{A:i8}{C:di}{us:List dq}{z:List (Str×dq)}:(A.under (.builtin "type.__call__" ⟨.ref C::us,z⟩)).units=A.units+1:=by first | rfl | simp[Around.under,Code.cUnits,Code.frames,Code.isFrame]
theorem l8.make(r:l8 (k+1) A)(C:di)(us:List dq)(z:List (Str×dq)):l8 k (A.under (.builtin "type.__call__" ⟨.ref C::us,z⟩)):=
 ⟨r.hd,by have:=r.dp;rw[df];omega,by have:=r.un;rw[de];omega⟩
theorem l8.depth(r:l8 k A):A.depth<recursionLimit:=by have:=r.dp;omega
noncomputable def rJ:TA:=λ_ H Q=>Q [] H
noncomputable def Zr(I:TE)(z:TA):TA:=λa H Q=>I a H λx b=>z a b λe d=>Q (x::e) d
section
variable{X:Cx}{e:dy}{es:List dy}{te:TE}{t:TA}{pos:eo}
theorem jF:PA X [] rJ:=λ_ _ _ _ H Q I h=>SQ ⟨[],H,I,.nil,h⟩
theorem zQ(J:PE X e te)(z:PA X es t)(L:ei (e::es) X.env=(dd,d3 e X.env)::ei es X.env:=by rfl):PA X (e::es) (Zr te t):=by intro pos a s b H Q I h;rw[L];show wpAny _ _ (FL ((dd,d3 e X.env)::j1 pos (ei es X.env))) _ _ s;refine RN<|ed (J a s b H _ I h) λu m O=>?_;obtain⟨x,d,Y,k,i⟩:=O;exact ed (z pos a m b d _ Y i) λp o ⟨n,f,g,l,j⟩=>⟨x::n,f,g,.cons k l,j⟩
noncomputable def MX(t:TA):TE:=λd H Q=>t d H λb a=>b.length<=eJ/\∀p,a p=cR->Q (.ref p) (upd a p<|.tup b)
noncomputable def LW(t:TA):TE:=λd H Q=>t d H λb a=>b.length<=eJ/\∀p,a p=cR->Q (.ref p) (upd a p<|.lst b)
theorem sd(h:PA X es t):PE X (.Tuple es x1 pos) (MX t):=by intro a s k H Q I Y;refine wpAny_Tuple_spliced<|ed (h pos a s k H _ I Y) λi d ⟨j,f,O,r,z,q⟩=>⟨by rw[<- r.length];exact z,?_⟩;have g:f d.heap.objs.size=cR:=O.eG.fresh<|Ou _;refine⟨.ref d.heap.objs.size,upd f d.heap.objs.size<|.tup j,O.laid (t':=d.toks) (λb u e=>Of _ e) (Ou _) ?_,rfl,q _ g⟩;exact⟨z,i,r,⟨_,Oz _ rfl,rfl,_,rfl⟩⟩
theorem sf(h:PA X es t):PE X (.List es pos) (LW t):=by intro a s k H Q I Y;refine wpAny_List_spliced<|ed (h pos a s k H _ I Y) λi d ⟨j,f,O,r,z,q⟩=>⟨by rw[<- r.length];exact z,?_⟩;have g:f d.heap.objs.size=cR:=O.eG.fresh<|Ou _;refine⟨.ref d.heap.objs.size,upd f d.heap.objs.size<|.lst j,O.laid (t':=d.toks) (λb u e=>Of _ e) (Ou _) ?_,rfl,q _ g⟩;exact⟨z,i,0,r,Oz _ rfl⟩
end
abbrev Sp:=List V->Hp->VK->XK->Prop
abbrev vb:=List m5->Hp->d8->XK->dq->d8->Prop
structure Dv(P:gB)(w:fm)(K:Ob)(mg:DX)(base:ew)(A:i8)(outer:List m5)(s:d8)(H:Hp):Prop where
 frames:A.frames=cI outer
 mod:Mod K mg base
 bs : ∀b o,base.get? b=cI o->s.heap.get? b=cI o/\H b=cR
 A9:base.objs.size<=s.heap.objs.size
 u5:s.heap.FunFrames base outer
 DE : ∀b∈wh outer,H b=cR
 eG:ji P w H s.heap
 bare:C3 s.gens
noncomputable def CE(outer:List m5)(P:gB)(w:fm)(H:Hp)(s:d8)(Q:VK)(u:dq)(I:d8):Prop:=
 ∃v a,I.os=s.os/\C3 I.gens/\Un (wh outer) [] H a s.heap I.heap/\ji P w a I.heap/\RelV v u/\Q v a
noncomputable def CR(CX:vb)(outer:List m5)(P:gB)(w:fm)(H:Hp)(s:d8)(Q:VK)(E:XK)(r:Result)(I:d8):Prop:=
 match r with
 | .ok (.ret u)=>CE outer P w H s Q u I
 | .ok _=>False
 | .error e=>CX outer H s E e I
structure je(P:gB)(w:fm)(K:Ob)(mg:DX)(base:ew)(CX:vb)(k:Nat)(f:di)(fd:m6)(ps:List Str)(sp:Sp):Prop where
 len : ∀vs H Q E,sp vs H Q E->vs.length=ps.length
 run : ∀(A:i8) (outer:List m5) (s:d8) (H:Hp) (args:Args) (us:List dq) (vs:List V) (Q:VK) (E:XK),l8 k A->Dv P w K mg base A outer s H->L0 s fd args (ps.zip us)->ej vs us->sp vs H Q E->
  codeAny (d5 P w) A (.call (.ref f) args) (CR CX outer P w H s Q E) s
theorem Dv.make{P:gB}{w:fm}{K:Ob}{I:DX}{base:ew}{A:i8}{outer:List m5}{s:d8}{H:Hp}(e:Dv P w K I base A outer s H)(C:di)(us:List dq)(z:List (Str×dq)) :
 Dv P w K I base (A.under (.builtin "type.__call__" ⟨.ref C::us,z⟩)) outer s H:=⟨by first | exact e.frames | (simpa[Around.under,Code.envs,Code.isFrame,pushEnvs]using e.frames),e.mod,e.bs,e.A9,e.u5,e.DE,e.eG,e.bare⟩
section
variable{X:Cx}{pins:TW}{σ:St}{H:Hp}{s s':d8}
theorem Inv.F'(I:Inv X pins σ H s):Dv X.prog X.w X.K X.mg X.base X.A X.stack s H:=
 ⟨I.ok.frames,I.ok.mod,I.bs,PK I.ok.A9 I.sz,I.stack,I.V',I.eG,I.bare⟩
theorem Inv.after(I:Inv X pins σ H s)(h:CE X.stack X.prog X.w H s Q u s'):EP X pins σ Q u s':=by obtain⟨v,f,os,a,un,e,r,q⟩:=h;obtain⟨O,g,d,t,Y⟩:=s';obtain rfl:Y=s.os:=os;exact⟨v,f,I.call (h':=O) (g':=g) (d':=d) (t':=t) (ch:=[]) un e a<|λb z=>absurd z ⋯,r,q⟩
end
noncomputable def mY(sp:Sp)(I:List V)(E:XK)(t:TA):TE:=λd H Q=>t d H λb a=>sp (b++I) a Q E
noncomputable def HF(C:di)(m:Str)(sp:Sp)(I:List V)(E:XK)(J:TE)(t:TA):TE:=λd H Q=>J d H λx b=>∃a f fs,x = .ref a/\b a=cI (.ins C f fs)/\fs.lookup m=cR/\
 t d b λg e=>sp (x::(g++I)) e Q E
noncomputable def mW(C:di)(sp:Sp)(I:List V)(E:XK)(t:TA):TE:=λf H Q=>t f H λe b=>∀x a,b x=cR->b a=cR->a≠x->
 sp (.ref x::(e++I)) (upd (upd b a<|.own x) x<|.ins C a []) (λv d=>v = .eg/\Q (.ref x) d) E
noncomputable def Binds(K:Ob)(J:m6)(ps:List Str)(I:List dq):Prop:=
 ∀(s:d8) (a:List dq),K.In s.heap->(a++I).length=ps.length->L0 s J ⟨a,[]⟩ (ps.zip<|a++I)
theorem Binds.all{K:Ob}{I:m6}{ps:List Str}(h : ∀us:List dq,us.length=ps.length->D9 I ⟨us,[]⟩=pure (ps.zip us)):Binds K I ps []:=λs us _ z=>by rw[Rz]at z ⊢;exact .of_eq<|h us z
noncomputable def XH(CX:vb)(X:Cx)(E:XK):Prop:=∀(a:TW) (d:St) (H:Hp) (s:d8) (e:dq) (b:d8),Inv X a d H s->CX X.stack H s E e b->X.xe e b
section
variable{X:Cx}{CX:vb}{k:Nat}{f C:di}{fd:m6}{ps:List Str}{sp:Sp}{sX:List V}{ds:List dq}{E:XK}{x m:Str}{p pos apos:eo}{e o:dy}{es:List dy}{ta:TE}{t:TA}
theorem rR(F:je X.prog X.w X.K X.mg X.base CX k f fd ps sp)(O:l8 k X.A)(J:Binds X.K fd ps ds)(L:ej sX ds)(hx:XH CX X E)
 (I:Inv X pins σ H s) (r:ej vs us) (h:sp (vs++sX) H Q E):wpAny (d5 X.prog X.w) X.A (call (.ref f) us) (EP X pins σ Q) X.xe s:=by
 have a:ej (vs++sX) (us++ds):=r.append L;have Y:(us++ds).length=ps.length:=by rw[<- a.length];exact F.len _ _ _ _ h
 refine wpAny_call<|UW (F.run X.A X.stack s H ⟨us,[]⟩ (us++ds) (vs++sX) Q E O I.F' (J s us I.i7 Y) a h) λr d z=>?_;cases r with
 | error e=>exact hx pins σ H s e d I z
 | ok b=>
  cases b with
  | ret u=>exact I.after z
  | next=>exact Su z
  | brk=>exact Su z
  | cont=>exact Su z
theorem vE(F:je X.prog X.w X.K X.mg X.base CX k f fd ps sp)(O:l8 k X.A)(Y:Gl X x)(hm:X.mg x=cI (.ref f))(hk:Rb X.K (.ref f)=cL)(hb:Binds X.K fd ps ds)(hd:ej sX ds)(hx:XH CX X E)
 (ha:PA X (e::es) t) (J:(x==("__debug__" : Str))=dd:=by decide) (he:ei (e::es) X.env=(dd,d3 e X.env)::ei es X.env:=by rfl) (L:(j1 pos (ei es X.env)).any (·.1)=dd:=by rfl) :
 PE X (.Call (.Name x p) (e::es) [] pos) (mY sp sX E t):=by
 intro a s b H Q I h;refine RT<|V1 I Y hm ?_ J;refine UN (h₀:=X.base) I.ok.mod.G5 hk (ed (ha pos a s b H _ I h) λi g ⟨j,d,z,r,q⟩=>⟨z.i7,?_⟩) he L;exact rR F O hb hd hx z r q
theorem Aa(Y:PE X o ta)(c:xx X.K C)(J:F6 X.K C m f)(F:je X.prog X.w X.K X.mg X.base CX k f fd ps sp)(hr:l8 k X.A)(hb:Binds X.K fd ps ds)(hd:ej sX ds)(hx:XH CX X E)(ha:PA X (e::es) t)
 (L:ei (e::es) X.env=(dd,d3 e X.env)::ei es X.env:=by rfl) (a2:(j1 pos<|starEach es X.env).any (·.1)=dd:=by rfl)
 (ht:d3 (.Call (.Attribute o m apos) (e::es) [] pos) X.env=(do
   let ov <- d3 o X.env
   DO apos.atName
   let (f,first) <- u6 [ov] (P0 ov m pl)
   callWith pos f first (j1 pos<|starEach (e::es) X.env) (y1 pos<|keywordEach [] X.env)):=by rfl) :
 PE X (.Call (.Attribute o m apos) (e::es) [] pos) (HF C m sp sX E ta t):=by
 intro b s d H Q I h;refine PySem.W.methodCall_KW (pl:=pl) (ed (Y b s d H _ I h) λu y n=>?_) ht;obtain⟨x,g,z,rx,a,G,fs,j,i,l,q⟩:=n;subst j;obtain rfl:u=OR a:=rx;refine dz z i c J l ?_;refine UN (first:=[.ref a]) (h₀:=X.base) I.ok.mod.G5 J.kp (ed (ha pos b y d g _ z q) λus M ⟨vs,B,O,r,p⟩=>⟨O.i7,?_⟩) L a2;exact rR (us:= .ref a::us) (vs:= .ref a::vs) F hr hb hd hx O (.cons rfl r) p
structure Mk(K:Ob)(C f:di):Prop where
 makes:Ux K C=cL
 init:Pp K (.ref C) "__init__" = cI (cI (.ref f))
 fn:TY K (.ref f)=cL
 kp:Rb K (.ref C)=cL
theorem nD(M:Mk X.K C f)(F:je X.prog X.w X.K X.mg X.base CX k f fd ps sp)(hr:l8 (k+1) X.A)(hb:Binds X.K fd ps ds)(hd:ej sX ds)
 (hx:XH CX X E) (I:Inv X pins σ H s) (r:ej vs us)
 (h : ∀x J,H x=cR->H J=cR->J≠x->sp (.ref x::(vs++sX)) (upd (upd H J<|.own x) x<|.ins C J []) (λv L=>v = .eg/\Q (.ref x) L) E) :
 wpAny (d5 X.prog X.w) X.A (call (.ref C) us) (EP X pins σ Q) X.xe s:=by
 have Y:=h (s.heap.objs.size+1) s.heap.objs.size (I.eG.fresh<|M8 _) (I.eG.fresh<|Ou _)<|ON<|PR _;have O:=Inv.made (C:=C) I;have a:ej (V.ref (s.heap.objs.size+1)::(vs++sX)) (OR (s.heap.objs.size+1)::(us++ds)):= .cons rfl (r.append hd);have j:(OR (s.heap.objs.size+1)::us++ds).length=ps.length:=by have e:=a.length;rw[F.len _ _ _ _ Y]at e;exact e.symm
 refine wpAny_call (oP (f:=f) I.i7 M.makes M.init (beq_iff_eq.mp M.fn) (UW (F.run _ X.stack _ _ ⟨OR (s.heap.objs.size+1)::us,[]⟩ (OR (s.heap.objs.size+1)::(us++ds)) _ _ E (hr.make C us [])
  (O.F'.make C us []) (hb _ (OR (s.heap.objs.size+1)::us) O.i7 j) a Y) λr n z=>?_))
 cases r with
 | error e=>exact hx pins σ _ _ e n O z
 | ok i=>
  cases i with
  | ret u=>
   obtain⟨v,b,d,m,g,l⟩:=O.after z;subst g;exact⟨m,⟨V.ref<|s.heap.objs.size+1,b,d,rfl,l⟩⟩
  | next=>exact Su z
  | brk=>exact Su z
  | cont=>exact Su z
theorem gw(M:Mk X.K C f)(F:je X.prog X.w X.K X.mg X.base CX k f fd ps sp)(O:l8 (k+1) X.A)(Y:Gl X x)(hm:X.mg x=cI (.ref C))(hb:Binds X.K fd ps ds)(hd:ej sX ds)(hx:XH CX X E)
 (ha:PA X (e::es) t) (J:(x==("__debug__" : Str))=dd:=by decide) (he:ei (e::es) X.env=(dd,d3 e X.env)::ei es X.env:=by rfl) (L:(j1 pos (ei es X.env)).any (·.1)=dd:=by rfl) :
 PE X (.Call (.Name x p) (e::es) [] pos) (mW C sp sX E t):=by
 intro a s b H Q I h;refine RT<|V1 I Y hm ?_ J;refine UN (h₀:=X.base) I.ok.mod.G5 M.kp (ed (ha pos a s b H _ I h) λi g ⟨j,d,z,r,q⟩=>⟨z.i7,?_⟩) he L;exact nD M F O hb hd hx z r q
end
structure F2(N P:List Str)(sc:f9):Prop where
 kind:sc.kind = .function
 co:sc.isCoroutine=dd
 gen:sc.isGenerator=dd
 nd:N.Nodup
 pre:N.take P.length=P
 par : ∀x∈P,sc.names.lookup x=cI .local\/sc.names.lookup x=cI .cell
 u? : ∀y∈sc.names,y.2 ≠ .free
theorem Vj{kindOf:Str->Option vp}{x:Str} : ∀{binds:List (Str×dq)} {m:DX},(∀v,(x,v)∉binds)->Dz kindOf binds m x=m x
 | [],_,_=>rfl
 | (n,v)::r,m,h=>by
  unfold Dz;rw[Vj λw a=>h w (Ow _ a)];split
  ·have:x≠n:=by rintro rfl;exact h v Ot
   simp[this]
  ·rfl
theorem Vm{kindOf:Str->Option vp}{x:Str} : ∀{binds:List (Str×dq)} {m:DX},(∀v,(x,v)∉binds)->Dy kindOf binds m x=m x
 | [],_,_=>rfl
 | (n,v)::r,m,h=>by
  unfold Dy;rw[Vm λw a=>h w (Ow _ a)];split
  ·rfl
  ·have:x≠n:=by rintro rfl;exact h v Ot
   simp[this]
theorem Vk{kindOf:Str->Option vp}{x:Str}{v:dq} : ∀{P:List Str} {vs:List dq} {i:Nat} {m:DX},P.Nodup->P[i]? = cI x->vs[i]? = cI v->kindOf x=cI .local->
 Dz kindOf (P.zip vs) m x=cI v
 | [],_,_,_,_,h,_,_=>by simp at h
 | _::_,[],_,_,_,_,h,_=>by simp at h
 | p::P,w::vs,0,m,nd,h1,h2,hk=>by simp at h1 h2;subst h1;subst h2;show Dz kindOf ((p,w)::P.zip vs) m p=_;unfold Dz;rw[Vj λv z=>(Ry.mp nd).1 (List.of_mem_zip z).1,DZ hk];simp
 | p::P,w::vs,i+1,m,nd,h1,h2,hk=>by show Dz kindOf ((p,w)::P.zip vs) m x=_;unfold Dz;exact Vk (i:=i) (Ry.mp nd).2 (by simpa using h1) (by simpa using h2) hk
theorem Vn{kindOf:Str->Option vp}{x:Str}{v:dq} : ∀{P:List Str} {vs:List dq} {i:Nat} {m:DX},P.Nodup->P[i]? = cI x->vs[i]? = cI v->kindOf x≠cI .local->
 Dy kindOf (P.zip vs) m x=cI v
 | [],_,_,_,_,h,_,_=>by simp at h
 | _::_,[],_,_,_,_,h,_=>by simp at h
 | p::P,w::vs,0,m,nd,h1,h2,hk=>by simp at h1 h2;subst h1;subst h2;show Dy kindOf ((p,w)::P.zip vs) m p=_;unfold Dy;rw[Vm λv z=>(Ry.mp nd).1 (List.of_mem_zip z).1,DJ hk];simp
 | p::P,w::vs,i+1,m,nd,h1,h2,hk=>by show Dy kindOf ((p,w)::P.zip vs) m x=_;unfold Dy;exact Vn (i:=i) (Ry.mp nd).2 (by simpa using h1) (by simpa using h2) hk
noncomputable def wI(N:List Str)(vs:List V):St:=vs.map cI++gx (N.length - vs.length) cR
noncomputable def Bh(CX:vb)(P:gB)(w:fm)(K:Ob)(mg:DX)(base:ew)(N:List Str)(qual:Str)(scope:f9)(f:di)(z:dq)(A:i8)(outer:List m5)(s:d8)(H:Hp)(E:XK):Cx where
 prog:=P
 w:=w
 K:=K
 mg:=mg
 base:=base
 A:=A.deeper<|envOfC qual scope s.heap.objs.size f z
 N:=N
 m4:=s
 F3:=H
 env:=Mu qual scope s.heap.objs.size f z
 outer:=outer
 stack:=Mu qual scope s.heap.objs.size f z::outer
 ex:=[]
 calm:=cL
 fn:=λ_=>cL
 pn:=[]
 xe:=λe s'=>wpAny (d5 P w) (A.deeper<|envOfC qual scope s.heap.objs.size f z) (leaving (Mu qual scope s.heap.objs.size f z) e) (λ_ I=>CX outer H s E e I) (λO I=>CX outer H s E O I) s'
theorem bC{I:f9}{n:Nat}{x:Str}(h:I.names.lookup x=cI .cell) : ∃c,(ri n I.names []).lookup x=cI c:=by have q:=Tt I.names n [] (.inl h);exact Ui.mp q
theorem iB{CX:vb}{P:gB}{w:fm}{K:Ob}{L:DX}{base:ew}{N ps:List Str}{qual:Str}{scope:f9}{f:di}{J:dq}{A:i8}{outer:List m5}{s s1:d8}{H:Hp}{E:XK}{us:List dq}{vs:List V}
 (S:F2 N ps scope) (hd:A.handled=cR) (I:Dv P w K L base A outer s H) (hl:vs.length=ps.length) (r:ej vs us)
 (x:InCallC s s.heap.objs.size (Dz (Mu qual scope s.heap.objs.size f J).kindOf (ps.zip us) λ_=>cR) (ri (s.heap.objs.size+1) scope.names []) (Dy (Mu qual scope s.heap.objs.size f J).kindOf (ps.zip us) λ_=>cR) s1) :
 Inv (Bh CX P w K L base N qual scope f J A outer s H E) [] (wI N vs) H s1:=by
 have C:ps.length<=N.length:=by have:=congrArg SI S.pre;rw[Si]at this;omega
 obtain⟨g,G,rfl,m⟩:=x.done;have a1 : ∀b:di,b∉(Bh CX P w K L base N qual scope f J A outer s H E).ex:=λb z=>absurd (show b∈([]:List di)from z) ⋯;refine⟨⟨I.mod,S.kind,rfl,rfl,Ou _,λy z c g d=>?_,λy O=>?_,λy c _ h=>?_,λ_=>hd,Around.frames_deeper I.frames,.inr ⟨rfl,rfl⟩,λb z=>absurd z<|a1 b,I.bs,I.A9,λb _ _=>a1 b,λb z=>absurd z<|a1 b,I.u5,I.DE⟩,
  rfl,I.bare,Un.kept m,⟨_,x.toInCall.ns,λi y v g d F=>?_⟩,λy c h=>⟨_,x.cell y c h⟩,I.eG.fresh<|Ou _,λy c h=>?_,λp Y=>absurd (show p∈([]:TW)from Y) ⋯,I.eG.kept m,?_⟩
 ·exact name_of_addr x.apart (Th g)<|Th d
 ·have O:scope.names.lookup y=cI .cell\/scope.names.lookup y=cI .free:=O
  rcases O with O | O
  ·exact bC O
  ·exact absurd rfl<|S.u? _<|Th O
 ·exact UK<|x.above y c<|Th h
 ·have j:i<vs.length:=by
   unfold wI at d;by_cases j:i<vs.length
   ·exact j
   ·rw[OZ (by simpa using j)]at d
    rw[Tv]at d;split at d<;>cases d
  have t:vs[i]? = cI v:=by
   unfold wI at d;rw[OV (by simpa using j),OF]at d;cases e:vs[i]? with
   | none=>rw[e]at d;cases d
   | some a=>rw[e]at d;cases d;rfl
  obtain⟨u,o,B⟩:=r.get t;have Y:ps[i]? = cI y:=by rw[<- S.pre,List.getElem?_take_of_lt ⋯];exact g
  have l:ps.Nodup:=by rw[<- S.pre];exact S.nd.sublist<|List.take_sublist _ _
  refine⟨u,B,?_⟩;rcases S.par y (OS Y)with k | k
  ·exact .inl ⟨k,Vk l Y o k⟩
  ·obtain⟨c,e⟩:=bC (n:=s.heap.objs.size+1) k
   refine .inr ⟨.inl k,c,e,?_⟩;have q:=x.cell y c e;rw[Vn l Y o (by show scope.names.lookup y≠_;rw[k];decide)]at q;exact q
 ·exact I.eG.fresh<|UK<|x.above y c<|Th h
 ·unfold wI
  show _=N.length;rw[OX,OC,List.length_replicate];omega
theorem IR{CX:vb}{P:gB}{w:fm}{K:Ob}{mg:DX}{base:ew}{k:Nat}{f:di}{name qual:Str}{a0:Arguments}{body:List g8}{scope:f9}{dV kV doc pm L ct oc:dq}{an od:Option di}
 {S7:Array (Option dq)} {N ps:List Str} {sp:Sp} (lk:K.lookup f=cI ⟨oc,od,.func<|Rw name qual a0 body scope dV kV doc pm an L ct,S7⟩) (a5:SV K L qual=cL) (S:F2 N ps scope)
 (len : ∀vs H Q E,sp vs H Q E->vs.length=ps.length)
 (a6 : ∀(A:i8) (outer:List m5) (s:d8) (H:Hp) (vs:List V) (Q:VK) (E:XK),l8 k (A.deeper<|envOfC qual scope s.heap.objs.size f L)->sp vs H Q E->
   ∃t,hO (Bh CX P w K mg base N qual scope f L A outer s H E) body t/\t {nx:=λ_ H'=>Q .eg H',rt:=Q} (wI N vs) H) :
 je P w K mg base CX (k+1) f (Rw name qual a0 body scope dV kV doc pm an L ct) ps sp:=by
 refine⟨len,λA outer s H l U vs Q E O z hb r i=>?_⟩;have G:=len _ _ _ _ i;have h:K.In s.heap:=z.mod.G5.keeps λb o e=>(z.bs b o e).1;have lim:s.heap.NoLimit:=z.mod.nolimit.keeps λb o e=>(z.bs b o e).1;have p : ∀y∈ps.zip U,scope.names.lookup y.1=cI .local\/(scope.names.lookup y.1=cI .cell/\((ri (s.heap.objs.size+1) scope.names []).lookup y.1).isSome=cL):=λ⟨n,v⟩ T=>by
  rcases S.par n (List.of_mem_zip T).1 with q | q
  ·exact .inl q
  ·exact .inr ⟨q,Tt _ _ _<|.inl q⟩
 refine codeAny_call_function O.depth (h _ _ lk) rfl S.co S.gen rfl (PySem.W.codeRec_of h a5)<|hb _ _ _ _ ?_;refine wpAny_newFunctionEnv_cells S.kind p λB F m x=>?_;subst F;refine⟨lim.keeps x.toInCall.keep,codeAny_func ?_⟩;obtain⟨t,R,M⟩:=a6 A outer s H vs Q E (O.deeper _) i;have I:Inv (Bh CX P w K mg base N qual scope f L A outer s H E) [] (wI N vs) H m:=iB S O.hd z G r x;refine t5 (R [] m (wI N vs) H _ I M) (λC g d=>?_) λe g d=>d;have j : ∀{a:St} {H':Hp} {v:V} {u:dq},Inv (Bh CX P w K mg base N qual scope f L A outer s H E) [] a H' g->RelV v u->Q v H'->CE outer P w H s Q u g:=
  λ{a H' v u} J Y q=>⟨v,H',J.os,J.bare,J.base,J.eG,Y,q⟩
 cases C with
 | ret u=>
  obtain⟨v,a,H',J,Y,q⟩:=d;exact j J Y q
 | next=>
  obtain⟨a,H',J,q⟩:=d;exact j (v:=V.eg) (u:=Ph) J rfl q
 | brk=>
  obtain⟨_,_,_,q⟩:=d;exact Su q
 | cont=>
  obtain⟨_,_,_,q⟩:=d;exact Su q
section
variable{X:Cx}{x:Str}{p pos:eo}{e:dy}{es:List dy}{t:TA}{id T:String}{r:List V->Hp->VK->Prop}
noncomputable def W_(r:List V->Hp->VK->Prop)(t:TA):TE:=λd H Q=>t d H λb a=>r b a Q
theorem yj(z:J3 X (.builtin id) r)(O:Gl X x)(hm:X.mg x=cR)(Y:A8 x=cI (.builtin id))(ha:PA X (e::es) t)(hn:x ≠ "__name__":=by decide)(J:(x==("__debug__" : Str))=dd:=by decide)
 (he:ei (e::es) X.env=(dd,d3 e X.env)::ei es X.env:=by rfl) (L:(j1 pos<|starEach es X.env).any (·.1)=dd:=by rfl):PE X (.Call (.Name x p) (e::es) [] pos) (W_ r t):=by
 intro a s b H Q I h;refine RT<|kA I O hm Y ?_ hn J;exact Tq (ed (ha pos a s b H _ I h) λk j ⟨l,d,f,i,g⟩=>z a j b d l k Q f i g) he L
theorem YE(z:J3 X (.type T) r)(O:Gl X x)(hm:X.mg x=cR)(Y:A8 x=cI (.type T))(ha:PA X (e::es) t)(hn:x ≠ "__name__":=by decide)(J:(x==("__debug__" : Str))=dd:=by decide)
 (he:ei (e::es) X.env=(dd,d3 e X.env)::ei es X.env:=by rfl) (L:(j1 pos<|starEach es X.env).any (·.1)=dd:=by rfl):PE X (.Call (.Name x p) (e::es) [] pos) (W_ r t):=by
 intro a s b H Q I h;refine RT<|kA I O hm Y ?_ hn J;exact Pk (ed (ha pos a s b H _ I h) λk j ⟨l,d,f,i,g⟩=>z a j b d l k Q f i g) he L
end
end L2
namespace HT
open PySem PyProof.Rows
section
variable{prog:gB}{w:fm}{A:i8}{E:EQ}{s:d8}
theorem Lh(ht:F4 s.heap t vs.toArray)(hb:F4 s.heap b z.toArray)(Y:vs ≠ [])
 (J:z=[]->Q (.ref t) s) (L:z ≠ []->Q (.ref s.heap.objs.size) {s with heap:=s.heap.push {cls:= .type "tuple",data:= .seq (vs++z).toArray}})
 (hsz:vs.length+z.length<=eJ):wpAny (d5 prog w) A (t8 .Add (.ref t)<|.ref b) Q E s:=by
 obtain⟨⟨cls,i,data,m⟩,I,j,n,k⟩:=id ht;obtain⟨⟨o,d,data2,f⟩,O,g,l,h⟩:=id hb;simp only at j k g h;subst j k g h;have e:vs.toArray++z.toArray=(vs++z).toArray:=by simp
 by_cases a:z=[]
 ·exact e' ⟨_,I,rfl⟩ ⟨_,O,rfl⟩ _j S' Ur Up (Uc _ _)
   (tuple_addW1 t b vs.toArray z.toArray n l i d m f (by simpa using Y)<|by simp[a]) ⟨I,O,J a⟩
 ·refine e' ⟨_,I,rfl⟩ ⟨_,O,rfl⟩ _j S' Ur Up (Uc _ _)
   (tuple_addW2 t b vs.toArray z.toArray n l i d m f (by simpa using Y) (by simpa using a)<|by rw[Ov,Ov];exact hsz) ⟨I,O,?_⟩
  rw[e];exact L a
noncomputable def dr(n d:Nat):Option Int->Nat
 | none=>d
 | some v=>if v<0 then (v+(n:Int)).toNat else min v.toNat n
theorem Ct(n d:Nat)(I:d<=n)(o:Option Int):dr n d o<=n:=by
 cases o with
 | none=>exact I
 | some v=>
  show(if v<0 then (v+(n:Int)).toNat else min v.toNat n)<=n;by_cases z:v<0
  ·rw[DZ z];omega
  ·rw[DJ z];exact _e _ _
theorem ly(v:Int)(n d:Nat):(if v<0 then max (v+(n:Int)) 0 else min v (n:Int))=((dr n d (cI v):Nat):Int):=by
 show(if v<0 then max (v+(n:Int)) 0 else min v (n:Int))=(((if v<0 then (v+(n:Int)).toNat else min v.toNat n):Nat):Int);by_cases z:v<0
 ·simp only[DZ z];omega
 ·simp only[DJ z];omega
theorem dQ(lo I:Option Int)(n:Nat):TL lo I 1 (n:Int)=(((dr n 0 lo:Nat):Int),((dr n n I:Nat):Int)):=by
 have a : ¬((1:Int)<0):=by omega
 unfold TL;simp only[a,if_false];refine Prod.ext ?_ ?_
 ·cases lo with
  | none=>rfl
  | some v=>exact ly v n 0
 ·cases I with
  | none=>rfl
  | some v=>exact ly v n n
theorem cN(i j:Nat):SD (i:Int) (j:Int) 1=j - i:=by
 unfold SD;have a:(1:Int)>0:=by omega
 simp only[a,if_true,Int.ediv_one];split<;>omega
theorem QY(p:A4 v o)(h:Q o s):wpAny (d5 prog w) A (Builtin.Slice.slicePartIndex v) Q E s:=by
 cases p with
 | none=>exact slicePart_none h
 | int i t=>exact slicePart_int h
theorem Zs{L:di}{z I:dq}{lo J:Option Int}{n:Nat}{Q:Int×Int×Nat->d8->Prop}(hs:s.heap.IsSliceOf L z I .none)(pl:A4 z lo)(pu:A4 I J)
 (h:Q (((dr n 0 lo:Nat):Int),1,dr n n J - dr n 0 lo) s):wpAny (d5 prog w) A (Builtin.Slice.sliceApplied (.ref L)<|pure (n:Int)) Q E s:=by
 obtain⟨os,O,a,Y⟩:=id hs;unfold Builtin.Slice.sliceApplied Builtin.Slice.sliceFields;refine Oc<|Oc<|PZ O Y (x:=z) rfl<|Oc<|PZ O Y (x:=I) rfl<|Oc<|PZ O Y (x:= .none) rfl<|Oi ?_;refine Oc<|slicePart_none ?_;show wpAny _ _ (if ((1:Int)==0)=cL then _ else _) _ _ s;rw[DJ ⋯];refine Oc<|QY pl<|Oc<|QY pu<|Oc<|Oi ?_;show wpAny _ _ (match TL lo J 1 (n:Int)with | (lo,J)=>pure (lo,(1:Int),SD lo J 1)) _ _ s;rw[dQ lo J n];show wpAny _ _ (pure (((dr n 0 lo:Nat):Int),(1:Int),SD ((dr n 0 lo:Nat):Int) ((dr n n J:Nat):Int) 1)) _ _ s;rw[cN];exact Oi h
theorem nY(xs:Array dq)(i k:Nat):((Od k).filterMap λ(m:Nat)=>xs[((i:Int)+(m:Int)*1).toNat]?).toArray=((xs.toList.drop i).take k).toArray:=by
 have e:(λ(m:Nat)=>xs[((i:Int)+(m:Int)*1).toNat]?)=λm=>xs[i+m]? :=by
  funext m;have:((i:Int)+(m:Int)*1).toNat=i+m:=by omega
  rw[this]
 rw[e];have:=pick_run xs i k;rw[List.filterMap_map]at this;have a:((λx=>xs[x]?)∘λx=>i+x)=λm=>xs[i+m]? :=rfl;rw[a]at this;rw[this]
theorem dB{t L:di}{items:Array dq}{O Y:dq}{lo J:Option Int}{Q:EQ}(z:F4 s.heap t items)(hs:s.heap.IsSliceOf L O Y .none)(pl:A4 O lo)(pu:A4 Y J)
 (hw : ¬(dr items.size 0 lo=0/\dr items.size items.size J=items.size))
 (h:Q (.ref s.heap.objs.size) {s with heap:=s.heap.push {cls:= .type "tuple",data:= .seq ((items.toList.drop (dr items.size 0 lo)).take (dr items.size items.size J - dr items.size 0 lo)).toArray}})
 (hsz:items.size<=eJ):wpAny (d5 prog w) A (B4 (.ref t)<|.ref L) Q E s:=by
 have I:sizeOk (.seq ((items.toList.drop<|dr items.size 0 lo).take (dr items.size items.size J - dr items.size 0 lo)).toArray):=by show((items.toList.drop<|dr items.size 0 lo).take (dr items.size items.size J - dr items.size 0 lo)).toArray.size<=eJ;rw[Ov,Si,_r,PM];omega
 have g:dr items.size items.size J<=items.size:=Ct _ _ (Ou _) J;obtain⟨os,a,b,f⟩:=id hs;have d:s.TypeIs (.ref L) "slice":=⟨os,a,b⟩;unfold B4
 try with_reducible refine Sb ?_
 first | refine Oc (Oi ?_) | skip
 refine Oc (U? z.typeIs ⋯ ?_);refine Oc (Po (name:=Px "__getitem__") z.typeIs Rm
  (p5 Rm z.typeIs entry_tuple_getitem ?_ (_P _ _)))
 show wpAny _ _ (Builtin.Tuple.tupleItemsOf (.ref t) >>= _) _ _ s;refine Oc<|UI z ?_;refine Oc<|TV d ?_;rw[DZ ⋯];refine Oc<|Zs hs pl pu ?_;have e : ¬((((dr items.size 0 lo:Nat):Int)==0 && (1:Int)==1 && (dr items.size items.size J - dr items.size 0 lo)==items.size)=cL):=by intro q;rw[Oo,Oo]at q;have i:((dr items.size 0 lo:Nat):Int)=0:=eq_of_beq q.1.1;have j:dr items.size items.size J - dr items.size 0 lo=items.size:=eq_of_beq q.2;exact hw ⟨by omega,by omega⟩
 show wpAny _ _ (if (((dr items.size 0 lo:Nat):Int)==0 && (1:Int)==1 && (dr items.size items.size J - dr items.size 0 lo)==items.size)=cL then _ else _) _ _ s;rw[DJ e,nY]
 first
  | exact Oc (m:=RG _)<|Pg (Oi ⟨_,rfl,Oi h⟩) I
  | exact Oc (m:=RG _)<|Pg (Oc<|Oi<|Oi ⟨_,rfl,Oi h⟩) I
  | exact Oc<|Oc (m:=RG _)<|Pg (Oi<|Oi ⟨_,rfl,Oi h⟩) I
  | exact Oc<|Oc (m:=RG _)<|Pg (Oi ⟨_,rfl,Oi h⟩) I
end
end HT
namespace L2
open PySem PySem.Spec PyProof.Rows
abbrev TO:=St->Hp->(Option Int->Hp->Prop)->Prop
noncomputable def PO(X:Cx)(e:Option dy)(t:TO):Prop:=
 ∀(a:TW) (s:d8) (b:St) (H:Hp) (Q:Option Int->Hp->Prop),Inv X a b H s->t b H Q->
  wpAny (d5 X.prog X.w) X.A (evalPart e X.env) (λu f=>∃o d,Inv X a b d f/\A4 u o/\Q o d) X.xe s
noncomputable def ua:TO:=λ_ H Q=>Q cR H
noncomputable def HB(t:TE):TO:=λb H Q=>t b H λx a=>∃i,x = .int i/\Q (cI i) a
section
variable{X:Cx}{e:dy}{te:TE}{lo hi:Option dy}{tl th:TO}{pos p2:eo}
theorem uT:PO X cR ua:=by intro a s b H Q I h;rw[evalPart_none];exact Oi ⟨cR,H,I,.none,h⟩
theorem uS(h:PE X e te):PO X (cI e) (HB te):=by intro a s g H Q I d;rw[evalPart_some];refine ed (h a s g H _ I d) λu j z=>?_;obtain⟨x,b,O,Y,f⟩:=z;obtain⟨i,rfl,q⟩:=f;obtain⟨t,rfl⟩:=Y;exact⟨cI i,b,O,.int i t,q⟩
noncomputable def N5(X:Cx)(r:V->Option Int->Option Int->Hp->VK->Prop):Prop:=
 ∀(a:TW) (s:d8) (d:St) (H:Hp) (x:V) (v z I:dq) (lo hi:Option Int) (b:di) (Q:VK),Inv X a d H s->RelV x v->s.heap.IsSliceOf b z I .none->A4 z lo->A4 I hi->r x lo hi H Q->
  ∃T id,M5 (.type T) "__getitem__" = pure (cI (.builtin id))/\s.TypeIs v T/\wpAny (d5 X.prog X.w) X.A (B4 v (.ref b)) (EP X a d Q) X.xe s
noncomputable def K?(r:V->Option Int->Option Int->Hp->VK->Prop)(te:TE)(tl th:TO):TE:=λa H Q=>te a H λx b=>tl a b λl d=>th a d λu z=>r x l u z Q
theorem og(hr:N5 X r)(J:PE X e te)(L:PO X lo tl)(hu:PO X hi th):PE X (.Subscript e (.Slice lo hi cR p2) pos) (K? r te tl th):=by intro a s d H Q I h;refine u_ (ed (J a s d H _ I h) λv K p=>?_);obtain⟨x,g,j,G,C⟩:=p;refine wpAny_Slice (ed (L a K d g _ j C) λO M ⟨l,i,k,pl,E⟩=>ed (hu a M d i _ k E) λY z ⟨u,f,m,B,F⟩=>?_);rw[evalPart_none];refine Oi ?_;have n:Inv X a d f {z with heap:=z.heap.push {cls:= .type "slice",data:= .fields #[O,Y,.none]}}:=m.kept (t':=z.toks) λb N q=>Of _ q;obtain⟨T,id,o,y,t⟩:=hr a {z with heap:=z.heap.push {cls:= .type "slice",data:= .fields #[O,Y,.none]}} d f x v O Y l u z.heap.objs.size Q n G (Heap.IsSliceOf.new ..) pl B F;show wpAny (d5 X.prog X.w) X.A (V_ e (.Slice lo hi cR p2) v (.ref z.heap.objs.size)) (EP X a d Q) X.xe {z with heap:=z.heap.push {cls:= .type "slice",data:= .fields #[O,Y,.none]}};exact tail_any (ops:=[.ref z.heap.objs.size,v]) y o t (by with_unfolding_all rfl)
noncomputable def Bi(xs:List V)(lo hi:Option Int):List V:=(xs.drop<|HT.dr xs.length 0 lo).take (HT.dr xs.length xs.length hi - HT.dr xs.length 0 lo)
theorem Wg(xs:List V)(lo hi:Option Int):(Bi xs lo hi).length<=xs.length:=by unfold Bi;rw[Si,_r];omega
noncomputable def Nn(K:Ob):V->Option Int->Option Int->Hp->VK->Prop:=λx lo hi H Q=>∃a b,x = .ref a/\fh K H a b/\
 ¬(HT.dr b.length 0 lo=0/\HT.dr b.length b.length hi=b.length)/\∀p,H p=cR->Q (.ref p) (upd H p<|.tup<|Bi b lo hi)
theorem Co:N5 X (Nn X.K):=by
 intro f s t H x v n p lo hi m Q I rx i pl Y h;obtain⟨a,d,rfl,k,j,q⟩:=h;cases rx;obtain⟨g,r,O,e⟩:=I.tuple k;have z:g.toArray.size=d.length:=by rw[Ov];exact r.length.symm
 refine⟨"tuple",_,Rm.lookup,O.typeIs,?_⟩;refine HT.dB O i pl Y (by rw[z];exact j) ?_ (by rw[z];exact e);rw[z];refine⟨.ref s.heap.objs.size,_,I.laid (t':=s.toks) (o:= .tup (Bi d lo hi)) (λb l q=>Of _ q) (Ou _) ?_,rfl,q _ (I.eG.fresh (Ou _))⟩;exact⟨PK (Wg d lo hi) e,_,(r.drop (HT.dr d.length 0 lo)).take (HT.dr d.length d.length hi - HT.dr d.length 0 lo),x4.new _ _⟩
theorem ej.MF(r:ej xs us):us=[]↔xs=[]:=by
 cases r with
 | nil=>simp
 | cons _ _=>simp
end
noncomputable def DH(n:Nat)(i:Int):Option Nat:=if 0<=i then (if i<n then cI i.toNat else cR)else if -(n:Int)<=i then cI (i+n).toNat else cR
noncomputable def A7{I:Type}(xs:List I)(i:Int):Option I:=(DH xs.length i).bind λj=>xs[j]?
theorem V3(h:DH n i=cI j):seqIndex? i n=cI j/\j<n/\ -(n:Int)<=i/\i<n:=by
 unfold DH at h;by_cases b:0<=i
 ·rw[DZ b]at h
  by_cases a:i<n
  ·rw[DZ a]at h
   have e:i.toNat=j:=OW h;exact⟨by rw[R_ b a,e],by omega,by omega,a⟩
  ·rw[DJ a]at h;cases h
 ·rw[DJ b]at h
  by_cases a : -(n:Int)<=i
  ·rw[DZ a]at h
   have e:(i+n).toNat=j:=OW h;exact⟨by rw[Q_ ⋯ a,e],by omega,a,by omega⟩
  ·rw[DJ a]at h;cases h
theorem Wo(h:A7 xs i=cI v) : ∃j,seqIndex? i xs.length=cI j/\xs[j]? = cI v/\j<xs.length/\ -(xs.length:Int)<=i/\i<xs.length:=by
 unfold A7 at h;cases e:DH xs.length i with
 | none=>rw[e]at h;cases h
 | some j=>
  rw[e]at h;obtain⟨a,b,z,I⟩:=V3 e;exact⟨j,a,h,b,z,I⟩
noncomputable def KP(b:dy):Prop:=∀o i,T4 b dd o i=operate [o,i] (B4 o i)
noncomputable def C6(X:Cx)(r:R2):Prop:=
 ∀(b z:dy) (a:TW) (s:d8) (d:St) (H:Hp) (x y:V) (v u:dq) (Q:VK),Inv X a d H s->RelV x v->RelV y u->r x y H Q->
  T4 z dd v u=operate [v,u] (B4 v u)->wpAny (d5 X.prog X.w) X.A (V_ b z v u) (EP X a d Q) X.xe s
noncomputable def N2(X:Cx)(id:String)(r:V->List V->Hp->VK->Prop):Prop:=
 ∀(a:TW) (s:d8) (e:St) (H:Hp) (x:V) (d:List V) (v:dq) (b:List dq) (Q:VK),Inv X a e H s->RelV x v->ej d b->r x d H Q->
  wpAny (d5 X.prog X.w) X.A (call (.builtin id) (v::b)) (EP X a e Q) X.xe s
section
variable{X:Cx}{a b:dy}{ta tb:TE}{pos:eo}
theorem C6.or(h:C6 X r)(h':C6 X r'):C6 X (λx y H Q=>r x y H Q\/r' x y H Q):=by
 intro a z b s e H x y v u Q I rx O q d;rcases q with q | q
 ·exact h a z b s e H x y v u Q I rx O q d
 ·exact h' a z b s e H x y v u Q I rx O q d
theorem Ab(z:C6 X r)(J:PE X a ta)(L:PE X b tb)(hs:KP b):PE X (.Subscript a b pos) (DR r ta tb):=by intro d s g H Q I h;exact u_<|Li J L I h λv u f x y e O rx Y q=>z a b d f g e x y v u Q O rx Y q<|hs _ _
noncomputable def Mf(K:Ob):R2:=λx y H Q=>∃p a i v,x = .ref p/\y = .int i/\e9 K H p a/\A7 a i=cI v/\Q v H
noncomputable def Np(K:Ob):R2:=λx y H Q=>∃p a i v,x = .ref p/\y = .int i/\fh K H p a/\A7 a i=cI v/\Q v H
noncomputable def Nq:R2:=λx y H Q=>∃z i c,x = .str z/\y = .int i/\z.length<=eJ/\A7 z.cps.toList i=cI c/\Q (.str ⟨#[c]⟩) H
theorem L':C6 X (Mf X.K):=by
 intro d J a s k H x y v u Q I rx F h g;obtain⟨p,P,i,z,rfl,rfl,E,B,q⟩:=h;cases rx;obtain⟨t,rfl⟩:=F;obtain⟨l,r,pl,N⟩:=I.list E;obtain⟨j,b,n,L,o,A⟩:=Wo B;obtain⟨w,Y,m⟩:=r.get n;have C:=r.length;have M:=JE;have e:EP X a k Q w s:=⟨z,H,I,m,q⟩;by_cases f:0<=i
 ·have O:i.toNat=j:=by
   rw[R_ f A]at b;exact OW b
  exact item_listR pl.isList f ⋯ (by rw[O];simpa using Y) e g
 ·have O:(i+(l.toArray.size:Int)).toNat=j:=by
   rw[Q_ ⋯ o]at b;rw[Ov,<- C];exact OW b
  exact F? (x:=w) pl.isList.typeIs slot_list_getitem.lookup
   (wpAny_getItem_list_neg (Q:=λr G=>r=w/\EP X a k Q r G) pl.isList ⋯ (by rw[Ov]<;>omega) ⋯ (by rw[O];simpa using Y) ⟨rfl,e⟩) g
theorem Fp:C6 X (Np X.K):=by
 intro b B a s d H x y v u Q I rx O h o;obtain⟨p,M,i,z,rfl,rfl,Y,m,q⟩:=h;cases rx;obtain⟨t,rfl⟩:=O;obtain⟨C,r,pl,L⟩:=I.tuple Y;obtain⟨j,k,l,E,F,G⟩:=Wo m;obtain⟨w,g,e⟩:=r.get l;have n:=r.length;have J:=JE;have f:EP X a d Q w s:=⟨z,H,I,e,q⟩;exact F? (x:=w) pl.typeIs slot_tuple_getitem.lookup
  (getItem_tuple (j:=j) (Q:=λr A=>r=w/\EP X a d Q r A) pl ⋯ ⋯ (by rw[Ov,<- n];exact k) (by simpa using g) ⟨rfl,f⟩) o
theorem Fq:C6 X Nq:=by
 intro a o d s B H x y v u Q I rx O h n;obtain⟨z,i,c,rfl,rfl,w,Y,q⟩:=h;obtain⟨t,rfl⟩:=rx;obtain⟨A,rfl⟩:=O;obtain⟨j,b,g,p,k,l⟩:=Wo Y;have m:z.cps.toList.length=z.length:=by simp[Str.length]
 rw[m]at b k l;have r:=JE;exact tail_any (Z_ s z t) slot_str_getitem.lookup (getItem_str (c:=c) (by
  have e:decide (i < -(2 ^ 63:Int))=dd:=decide_eq_false ⋯;have f:decide (i>=2 ^ 63)=dd:=decide_eq_false ⋯;rw[e,f,Bool.or_false]) (by rw[b];simpa using g) ⟨.str ⟨#[c]⟩,H,I.tok _,⟨_,rfl⟩,q⟩) n
theorem dc(z:List dq)(n j:Nat)(u:dq):RD (·.setIfInBounds j u) {cls:= .type "list",data:= .seq z.toArray n} = {cls:= .type "list",data:= .seq (z.set j u).toArray n}:=by simp[RD]
theorem Inv.lst(I:Inv X pins σ H s)(h:H p=cI (.lst xs)) :
 ∃(O:List dq) (n:Nat),ej xs O/\s.heap.get? p=cI {cls:= .type "list",data:= .seq O.toArray n}/\xs.length<=eJ:=by
 obtain⟨z,O,n,r,e⟩:=I.eG p _ h;exact⟨O,n,r,e,z⟩
theorem Inv.s?{J:TW}{L:St}{H:Hp}{s:d8}{p:di}{xs ys:List V}{z its':List dq}{n n':Nat}{f:i5->i5}(I:Inv X J L H s)(h:H p=cI (.lst xs))
 (Y:s.heap.get? p=cI {cls:= .type "list",data:= .seq z.toArray n}) (O:f {cls:= .type "list",data:= .seq z.toArray n} = {cls:= .type "list",data:= .seq its'.toArray n'}) (r:ej ys its') (hz:ys.length<=eJ) (t:Nat) :
 Inv X J L (upd H p<|.lst ys) {s with heap:=s.heap.update p f,toks:=t}:=by
 have e:(s.heap.update p f).get? p=cI {cls:= .type "list",data:= .seq its'.toArray n'}:=by rw[SK f Y (by rw[O]<;>rfl),O]
 refine I.write (x:=p) (e:=p) (by rw[h];trivial) (.inl rfl) (λb u a q=>(UC _ _<|PH a).trans q) ⟨_,e⟩ ?_;exact⟨hz,its',n',r,e⟩
noncomputable def nH:V->V->V->Hp->(Hp->Prop)->Prop:=λo i v H Q=>∃p a k j,o = .ref p/\i = .int k/\H p=cI (.lst a)/\DH a.length k=cI j/\Q (upd H p<|.lst<|a.set j v)
theorem nq:MS X nH:=by
 intro a s E H o i v K J u Q I A y B h;obtain⟨p,C,k,j,rfl,rfl,Y,w,q⟩:=h;cases A;obtain⟨t,rfl⟩:=y;obtain⟨f,n,r,z,x⟩:=I.lst Y;obtain⟨b,F,l,m⟩:=V3 w;have O:=r.length;have G:=JE;have e:Inv X a E (upd H p<|.lst<|C.set j v) {s with heap:=s.heap.update p (RD (·.setIfInBounds j u))}:=
  I.s? Y z (dc f n j u) (r.set B j) (by rw[RZ];exact x) s.toks
 by_cases g:0<=k
 ·have d:k.toNat=j:=by
   rw[R_ g m]at b;exact OW b
  exact PySem.W.ki_setAt z g ⋯ (by rw[Ov,<- O];exact m) (by rw[d];exact⟨_,e,q⟩)
 ·have d:(k+(f.toArray.size:Int)).toNat=j:=by
   rw[Q_ ⋯ l]at b;rw[Ov,<- O];exact OW b
  exact PySem.W.ki_setBack z ⋯ (by rw[Ov,<- O];exact l) ⋯ (by rw[d];exact⟨_,e,q⟩)
noncomputable def KC:V->Bool
 | .eg=>cL
 | .bl _=>cL
 | .int _=>cL
 | .str _=>cL
 | _=>dd
noncomputable def B1:V->V->Bool
 | .eg,.eg=>cL
 | .bl a,.bl b=>a==b
 | .bl a,.int b=>(if a then 1 else 0)==b
 | .int a,.bl b=>a==(if b then 1 else 0)
 | .int a,.int b=>a==b
 | .str a,.str b=>a==b
 | _,_=>dd
theorem FB(z:RelV y u)(rx:RelV x v)(I:KC y=cL)(fx:KC x=cL):Rl A s u v (B1 y x):=by
 cases y with
 | eg=>
  cases z;cases x with
  | eg=>cases rx;exact Rl.same _
  | bl b=>cases rx;exact Rl.none_bool b
  | int b=>obtain⟨t,rfl⟩:=rx;exact Rl.none_int b t
  | str b=>obtain⟨t,rfl⟩:=rx;exact Rl.none_str b t
  | _=>exact absurd (show dd=cL from fx) Oy
 | bl a=>
  cases z;cases x with
  | eg=>cases rx;exact Rl.bool_none a
  | bl b=>cases rx;exact Rl.bool_bool a b
  | int b=>obtain⟨t,rfl⟩:=rx;exact Rl.bool_int a b t
  | str b=>obtain⟨t,rfl⟩:=rx;exact Rl.bool_str a b t
  | _=>exact absurd (show dd=cL from fx) Oy
 | int a=>
  obtain⟨d,rfl⟩:=z;cases x with
  | eg=>cases rx;exact Rl.int_none a d
  | bl b=>cases rx;exact Rl.int_bool a d b
  | int b=>obtain⟨t,rfl⟩:=rx;exact UG a d b t
  | str b=>obtain⟨t,rfl⟩:=rx;exact Rl.int_str a d b t
  | _=>exact absurd (show dd=cL from fx) Oy
 | str a=>
  obtain⟨d,rfl⟩:=z;cases x with
  | eg=>cases rx;exact Rl.str_none a d
  | bl b=>cases rx;exact Rl.str_bool a d b
  | int b=>obtain⟨t,rfl⟩:=rx;exact Rl.str_int a d b t
  | str b=>obtain⟨t,rfl⟩:=rx;exact Rl.str_str a d b t
  | _=>exact absurd (show dd=cL from fx) Oy
 | _=>exact absurd (show dd=cL from I) Oy
noncomputable def qs(x:V)(u:dq):Bool:=match u with
 | .none=>B1 .eg x
 | .bool b=>B1 (.bl b) x
 | .int i _=>B1 (.int i) x
 | .str z _=>B1 (.str z) x
 | _=>dd
theorem sN(r:RelV y u)(f:KC y=cL):qs x u=B1 y x:=by
 cases y with
 | eg=>cases r;rfl
 | bl b=>cases r;rfl
 | int i=>obtain⟨t,rfl⟩:=r;rfl
 | str z=>obtain⟨t,rfl⟩:=r;rfl
 | _=>exact absurd (show dd=cL from f) Oy
theorem JX : ∀{xs:List V} {us:List dq},ej xs us->xs.all KC=cL->us.any (qs x)=xs.any λy=>B1 y x
 | _,_,.nil,_=>rfl
 | y::xs,u::us,.cons r t,f=>by rw[List.all_cons,Oo]at f;rw[TU,TU,sN r f.1,JX t f.2]
theorem vX(rx:RelV x v)(fx:KC x=cL) : ∀{xs:List V} {us:List dq},ej xs us->xs.all KC=cL->∀u∈us,Rl A s u v (qs x u)
 | _,_,.nil,_=>λu z=>by cases z
 | y::xs,u::us,.cons r t,f=>λI z=>by
  rw[List.all_cons,Oo]at f;rcases OA.mp z with rfl | z
  ·rw[sN r f.1];exact FB r rx f.1 fx
  ·exact vX rx fx t f.2 I z
noncomputable def Mx(x:V)(xs:List V):Bool:=xs.any λy=>B1 y x
noncomputable def P_(K:Ob)(z:Bool):R2:=λx y H Q=>∃p a,y = .ref p/\(e9 K H p a\/fh K H p a)/\KC x=cL/\a.all KC=cL/\Q (.bl<|if z then !Mx x a else Mx x a) H
theorem gD:hJ X (m9 .In) (P_ X.K dd):=by
 intro b s f H x y v u Q I rx Y h;obtain⟨p,e,rfl,z,fx,fs,q⟩:=h;cases Y;rcases z with z | z
 ·obtain⟨O,r,pl,d⟩:=I.list z
  refine SeqAt.in_listAt (qs x) pl.isList (λw a=>vX rx fx r fs w<|by simpa using a) ⟨.bl _,H,I,rfl,?_⟩;rw[show O.toArray.any (qs x)=O.any (qs x)by simp,JX r fs];exact q
 ·obtain⟨O,r,pl,d⟩:=I.tuple z
  refine SeqAt.in_tupleAt (qs x) pl (λw a=>vX rx fx r fs w<|by simpa using a) ⟨.bl _,H,I,rfl,?_⟩;rw[show O.toArray.any (qs x)=O.any (qs x)by simp,JX r fs];exact q
theorem YH:hJ X (m9 .NotIn) (P_ X.K cL):=by
 intro b s f H x y v u Q I rx Y h;obtain⟨p,e,rfl,z,fx,fs,q⟩:=h;cases Y;rcases z with z | z
 ·obtain⟨O,r,pl,d⟩:=I.list z
  refine SeqAt.notIn_listAt (qs x) pl.isList (λw a=>vX rx fx r fs w<|by simpa using a) ⟨.bl _,H,I,rfl,?_⟩;rw[show O.toArray.any (qs x)=O.any (qs x)by simp,JX r fs];exact q
 ·obtain⟨O,r,pl,d⟩:=I.tuple z
  refine SeqAt.notIn_tupleAt (qs x) pl (λw a=>vX rx fx r fs w<|by simpa using a) ⟨.bl _,H,I,rfl,?_⟩;rw[show O.toArray.any (qs x)=O.any (qs x)by simp,JX r fs];exact q
theorem Vi:J3 X (.builtin "len") (λxs H Q=>∃p ys,xs=[.ref p]/\(e9 X.K H p ys\/fh X.K H p ys)/\Q (.int ys.length) H):=by
 intro b s g H xs f Q I r h;obtain⟨p,ys,rfl,z,q⟩:=h;obtain⟨u,rfl,rx⟩:=yE r;cases rx;have e:=JE;rcases z with z | z
 ·obtain⟨Y,a,pl,d⟩:=I.list z
  have O:=a.length;exact Calls.call_len_list pl.isList (by simp only[Ov]<;>omega) ⟨.int ys.length,H,I.tok _,⟨s.toks+1,by rw[Ov,O]⟩,q⟩
 ·obtain⟨Y,a,pl,d⟩:=I.tuple z
  have O:=a.length;exact len_tuple pl (by simp only[Ov]<;>omega) ⟨.int ys.length,H,I.tok _,⟨s.toks+1,by rw[Ov,O]⟩,q⟩
theorem Vh:J3 X (.builtin "len") (λxs H Q=>∃z,xs=[.str z]/\z.length<=eJ/\Q (.int z.length) H):=by intro a s f H xs e Q I r h;obtain⟨z,rfl,d,q⟩:=h;obtain⟨u,rfl,t,rfl⟩:=yE r;have b:=JE;exact len_str ⋯ ⟨.int z.length,H,I.tok _,⟨_,rfl⟩,q⟩
theorem KN:J3 X (.type "tuple") (λxs H Q=>∃p ys,xs=[.ref p]/\((e9 X.K H p ys/\∀l,H l=cR->Q (.ref l) (upd H l (.tup ys)))\/(fh X.K H p ys/\Q (.ref p) H))):=by
 intro a s i H xs n Q I r h;obtain⟨p,ys,rfl,h⟩:=h;obtain⟨u,rfl,rx⟩:=yE r;cases rx;rcases h with⟨z,q⟩ | ⟨z,q⟩
 ·obtain⟨O,f,pl,g⟩:=I.list z
  have m:=f.length;refine call_tuple_list pl.isList (λd k=>?_) (by simp only[Ov]<;>omega);have Y:Inv X a i H {s with heap:=d}:=I.kept (t':=s.toks) k;have j:Inv X a i (upd H d.objs.size (.tup ys)) {s with heap:=d.push {cls:= .type "tuple",data:= .seq O.toArray}}:=
   Y.laid (t':=s.toks) (λb o e=>Of _ e) (Ou _) (show ij X.prog X.w _ _ _ (.tup ys)from⟨g,O,f,x4.new _ _⟩)
  exact⟨.ref d.objs.size,_,j,rfl,q _<|Y.eG.fresh<|Ou _⟩
 ·obtain⟨O,f,pl,g⟩:=I.tuple z
  exact call_tuple_same pl ⟨.ref p,H,I,rfl,q⟩
noncomputable def Y'(K:Ob)(T:String)(x:V)(H:Hp):Prop:=match x with
 | .str _=>T = "str"
 | .int _=>T = "int"
 | .ref p=>(T = "list"/\∃b,e9 K H p b)\/(T = "tuple"/\∃o,K.lookup p=cI o/\o.cls = .type "tuple"/\o.dict=cR)\/
  (T = "dict"/\((∃a,H p=cI (.dK a))\/∃a,H p=cI (.dT a)))\/(T = "set"/\∃S n,H p=cI (.set S n))
 | _=>False
theorem Cc(I:Inv X pins σ H s)(r:RelV x v)(ty:Y' X.K T x H) :
 s.TypeIs v T/\∀a,v = .ref a->∃O,s.heap.get? a=cI O/\O.dict=cR:=by
 cases x with
 | str z=>
  obtain⟨t,rfl⟩:=r;cases (show T = "str" from ty);exact⟨Z_ s z t,λ_ e=>nomatch e⟩
 | int i=>
  obtain⟨t,rfl⟩:=r;cases (show T = "int" from ty);exact⟨Y_ s i t,λ_ e=>nomatch e⟩
 | ref p=>
  cases r;rcases ty with⟨rfl,l,Y⟩ | ⟨rfl,o,b,j,g⟩ | ⟨rfl,b⟩ | ⟨rfl,S,n,b⟩
  ·obtain⟨k,_,pl,_⟩:=I.list Y
   refine⟨pl.isList.typeIs,λa e=>?_⟩;cases e;obtain⟨o,n,e,c,g,_⟩:=pl;exact⟨o,e,g⟩
  ·refine⟨⟨o,I.i7 p o b,j⟩,λa e=>?_⟩
   cases e;exact⟨o,I.i7 _ o b,g⟩
  ·have z : ∃o,s.heap.get? p=cI o/\o.ExactDict:=by
    rcases b with⟨h,b⟩ | ⟨h,b⟩
    ·obtain⟨_,_,_,_,o,_,_,e,d,_⟩:=I.eG p _ b
     exact⟨o,e,d⟩
    ·obtain⟨_,_,_,_,o,_,_,e,d,_⟩:=I.eG p _ b
     exact⟨o,e,d⟩
   obtain⟨o,e,d⟩:=z;refine⟨⟨o,e,d.1⟩,λa f=>?_⟩;cases f;exact⟨o,e,d.2.1⟩
  ·obtain⟨o,_,_,_,e,d,_⟩:=I.eG p _ b
   refine⟨⟨o,e,d.1⟩,λa f=>?_⟩;cases f;exact⟨o,e,d.2.1⟩
 | _=>exact Su ty
noncomputable def T8(K:Ob)(T:String)(r:V->List V->Hp->VK->Prop)(to:TE)(t:TA):TE:=λb H Q=>to b H λx a=>Y' K T x a/\t b a λe d=>r x e d Q
variable{o e:dy}{es:List dy}{to:TE}{t:TA}{name:Str}{apos cpos:eo}{T id:String}{r:V->List V->Hp->VK->Prop}
theorem VL(pa:PlainAttrs T)(J:Slot T name id)(L:typeOf (.builtin id)=pure (.type "method_descriptor"))(hm:N2 X id r)(ho:PE X o to)(ha:PA X (e::es) t)
 (a3:vt o name X.env (d3 o X.env)=d3 o X.env:=by rfl)
 (a4:((j1 cpos<|starEach (e::es) X.env).all (λx=> !x.1) && (y1 cpos<|keywordEach [] X.env).all (λx=>x.1.isSome)
   && decide ((e::es).length+([]:List o8).length+(if ([]:List o8).isEmpty then 0 else 1)<30))=cL:=by rfl)
 (a5:(apos.endLine==cpos.line)=cL:=by rfl) (hs:ei (e::es) X.env=(dd,d3 e X.env)::ei es X.env:=by rfl) (a6:(j1 cpos<|starEach es X.env).any (·.1)=dd:=by rfl) :
 PE X (.Call (.Attribute o name apos) (e::es) [] cpos) (T8 X.K T r to t):=by
 intro a s b H Q I h;refine wpAny_Call_method_late a3 a4 a5 rfl<|ed (ho a s b H _ I h) λv p k=>?_;obtain⟨x,d,z,O,ty,l⟩:=k;obtain⟨i,j⟩:=Cc z O ty;refine⟨T,id,pa,J,L,i,j,?_⟩;have Y:=ha cpos a p b d _ z l;rw[hs]at Y ⊢;refine UB (by show(dd || (j1 cpos<|starEach es X.env).any (·.1))=dd;rw[a6]<;>rfl)<|Calls.evalArgs_plain ?_;exact ed Y λw u ⟨y,f,g,n,m⟩=>hm a u b f x y v w Q g O n m
end
noncomputable def L4(X:Cx)(id:String)(r:V->List V->Hp->VK->Prop):Prop:=
 ∀(a:TW) (s:d8) (e:St) (H:Hp) (x:V) (d:List V) (v:dq) (b:List dq) (Q:VK),Inv X a e H s->RelV x v->ej d b->r x d H Q->
  wpAny (d5 X.prog X.w) X.A (call (.builtin id) (v::b)) (EP X a e Q) X.xe s
theorem ej.one : ∀{x:V} {us:List dq},ej [x] us->∃u,us=[u]/\RelV x u
 | _,_,.cons r .nil=>⟨_,rfl,r⟩
theorem ej.dropLast(h:ej xs us):ej xs.dropLast us.dropLast:=by
 induction h with
 | nil=>exact .nil
 | cons r t z=>
  cases t with
  | nil=>exact .nil
  | cons q a=>exact .cons r z
theorem ej.rep(h:ej xs us) : ∀k:Nat,ej (gx k xs).flatten (gx k us).flatten
 | 0=> .nil
 | k+1=>by rw[RJ,RJ,Sw,Sw];exact ej.append h<|ej.rep h k
theorem Va(z:List dq) : ∀(k:Nat) (acc:List dq),
 List.foldl (λx1 I=>x1++I) acc.toArray (gx k z.toArray)=(acc++(gx k z).flatten).toArray
 | 0,acc=>by simp
 | k+1,acc=>by
  have e:acc.toArray++z.toArray=(acc++z).toArray:=by simp
  have a:(acc++z)++(gx k z).flatten=acc++(gx (k+1) z).flatten:=by rw[RJ,Sw,SS]
  rw[<- a,<- Va z k (acc++z),<- e,RJ,List.foldl_cons]
section
variable{X:Cx}{pins:TW}{σ:St}{H:Hp}{s:d8}{l b:di}{xs ys zs:List V}
theorem Inv.G9{z its':List dq}{n:Nat}{f:Array dq->Array dq}{t':Nat}(I:Inv X pins σ H s)(O:H l=cI (.lst xs))
 (e:s.heap.get? l=cI {cls:= .type "list",data:= .seq z.toArray n}) (Y:f z.toArray=its'.toArray) (J:ej ys its') (hz:ys.length<=eJ) :
 Inv X pins σ (upd H l<|.lst ys) {s with heap:=s.heap.update l<|RD f,toks:=t'}:=by
 have q:=PySem.IsL.update e f;rw[Y]at q;refine I.write (x:=l) (e:=l) (by rw[O];exact trivial) (.inl rfl) (λd u a b=>(UC s.heap (RD f)<|PH a).trans b) ⟨_,q⟩ ?_;exact⟨hz,its',_,J,q⟩
theorem Inv.r?(I:Inv X pins σ H s)(O:ej ys z)(hz:ys.length<=eJ) :
 Inv X pins σ (upd H s.heap.objs.size (.lst ys)) {s with heap:=s.heap.push {cls:= .type "list",data:= .seq z.toArray},toks:=t'}:=
 I.laid (λ_ _ q=>Of _ q) (Ou _) ⟨hz,z,0,O,Oz _ rfl⟩
theorem Inv.fresh(I:Inv X pins σ H s):H s.heap.objs.size=cR:=I.eG.fresh<|Ou _
theorem Inv.B8(I:Inv X pins σ H s)(Y:H l=cI (.lst xs)):xs.length<=eJ/\∃(O:List dq) (n:Nat),ej xs O/\xs.length=O.length/\s.heap.get? l=cI {cls:= .type "list",data:= .seq O.toArray n}:=by obtain⟨z,O,n,r,e⟩:=I.eG l _ Y;exact⟨z,O,n,r,r.length,e⟩
theorem aD(h:n<=eJ):Sf n=dd:=by unfold Sf;exact decide_eq_false ⋯
end
section
variable{X:Cx}
noncomputable def VG:V->List V->Hp->VK->Prop:=λx b H Q=>∃l a y,x = .ref l/\b=[y]/\H l=cI (.lst a)/\a.length<eJ/\Q .eg (upd H l<|.lst<|a++[y])
theorem YT:L4 X "list.append" VG:=by intro a s m H x j v i Q I rx d h;obtain⟨l,k,y,rfl,rfl,O,g,q⟩:=h;cases rx;obtain⟨u,rfl,b⟩:=d.one;obtain⟨z,Y,n,r,f,e⟩:=I.B8 O;refine Tf F.slot_list_append ⟨_,e,rfl⟩ F.entry_list_append (F.args_list_append_2 _ _) (PySem.list_append l Y.toArray n u (by rw[Ov];omega)) ⟨e,?_⟩;refine⟨.eg,_,I.G9 (its':=Y++[u]) O e ⋯ (r.append (.cons b .nil)) ?_,rfl,q⟩;rw[OX,Sl];omega
noncomputable def uz:V->List V->Hp->VK->Prop:=λx e H Q=>∃l b a d,x = .ref l/\e=[.ref b]/\H l=cI (.lst a)/\H b=cI (.lst d)/\a.length+d.length<=eJ/\Q .eg (upd H l<|.lst<|a++d)
theorem gP:L4 X "list.extend" uz:=by
 intro f s J H x B v A Q I rx p h;obtain⟨l,b,C,G,rfl,rfl,d,j,y,q⟩:=h;cases rx;obtain⟨u,rfl,o⟩:=p.one;cases o;obtain⟨z,O,n,r,w,e⟩:=I.B8 d;obtain⟨E,Y,k,m,t,i⟩:=I.B8 j;have a:O.toArray.size+Y.toArray.size<=eJ:=by rw[Ov,Ov];omega
 have g : ¬(!O.toArray.isEmpty && Sf (O.toArray.size+Y.toArray.size))=cL:=by rw[aD a,Bool.and_false];exact Oy
 refine Tf F.slot_list_extend ⟨_,e,rfl⟩ F.entry_list_extend (F.args_list_extend_2 _ _)
  (AutoSeq1.list_extend_list_list_0 l O.toArray n b Y.toArray k g (by rw[Ov];omega) ⋯) ⟨e,i,?_⟩
 refine⟨.eg,_,I.G9 (its':=O++Y) d e ⋯ (r.append m) ?_,rfl,q⟩;rw[OX];omega
theorem ia(xs:List α)(k:Nat):(gx k xs).flatten.length=k*xs.length:=by
 induction k with
 | zero=>simp
 | succ k z=>rw[RJ,Sw,OX,z,Nat.succ_mul,Nat.add_comm]
end
end L2
namespace Att
open PySem PySem.W PySem.Calls PyProof.Rows
theorem JI : ∀(ns:List Int) (vs:List dq),WellAll P h vs (ns.map WData.int)->L3 vs ns:=by
 intro ns
 induction ns with
 | nil=>
  intro vs w;rw[i_]at w;cases w;exact .nil
 | cons n ns z=>
  intro vs w;rw[OH]at w;cases w with
  | cons a b=>
   cases a;exact .cons _ _<|z _ b
theorem fD{l:OpenLaw}{n:Nat}(L:l.most=cI n){P:Params}{h:ew}{args:List WData}{O:List dq}
 (Y:l.row.toRowW.claim.pre args=cL) (J:WellAll P h O args) :
 ∃a vs ns,O=[OR a]/\args=[WData.list (ns.map WData.int)]/\h.get? a=cI {cls:= .type "list",data:= .seq vs.toArray}/\L3 vs ns/\ns.length<=n:=by
 have e:WShape.hasAll [] args [.list .int]=cL:=(pre_splitW Y).1;have b:l.pre.holds [] {args:=args}=cL:=(pre_splitW Y).2;obtain⟨d,r,rfl,i,j⟩:=hasAllW_cons e;obtain rfl:=hasAllW_nil j;obtain⟨t,rfl,k⟩:=hasW_list i;obtain⟨ns,rfl⟩:=items_int k;have f:ns.length<=n:=by
  unfold OpenLaw.pre at b;have z:(WTm.not<|.lt (.lit<|.int (n:Int))<|.len<|.arg 0).holds [] {args:=[.list (ns.map .int)]}=cL:=by have z:=(holds_andW b).1;rw[L]at z;exact z
  have I:=condW_of z<|w_not<|w_lt w_lit<|w_len_list<|w_arg rfl;rw[OC]at I;refine Nat.le_of_not_lt λq=>?_;have o:(n:Int)<((ns.length:Nat):Int):=by omega
  first
   | (rw[decide_eq_true o]at I;exact absurd I ⋯)
   | (simp at I;omega)
 cases J with
 | cons p s=>
  cases s;cases p with
  | list m g=>exact⟨_,_,ns,rfl,rfl,m,JI ns _ g,f⟩
theorem gf(l:OpenLaw)(args:List WData):l.row.toRowW.claim.post args (.bool cL) args=cL:=
 postW_of (r:=l.row.toRowW) (X:=(cL==cL))
  (show WShape.has [] (.bool cL) .bool=cL by first | rfl | decide | simp[WShape.has,WShape.arms,WShape.armsAll])
  (show(WTm.eq .res<|.lit<|.bool cL).value [] {args:=args,res:=cI (.bool cL),after:=args}=cI (.bool<|true==cL)from w_eq_bool (w_res rfl) w_lit) rfl
theorem Bt{l:OpenLaw}{n:Nat}{q:gB}{O:List Str}{XP:(Str->Option dq)->ew->Prop}{YP:fm->ew->Prop}{d:DefRec}
 (hn:l.most=cI n) (a3:d.params.defaults=[])
 (call : ∀(w:fm) (m4 z:d8) (mg mb:DX) (L:di) (o:i5) (pm I J:dq) (a:di) (vs:List dq) (ns:List Int),
   Ground q O [] XP w m4 mg mb z.heap->YP w z.heap->
   z.heap.get? L=cI o->o.data = .func (docDef d.name d.params d.body d.scope pm I J)->z.heap.CodeRec I d.name->mg d.name=cI (.ref L)->
   z.heap.get? a=cI {cls:= .type "list",data:= .seq vs.toArray}->L3 vs ns->ns.length<=n->z.gens = #[]->
   codeAny (d5 l.prog w) DA (.call (.ref L) ⟨[.ref a],[]⟩) (λr s'=>r = .ok (.ret<|.bool cL)/\OldK z.heap s'.heap/\s'.os=z.os/\C3 s'.gens) z) :
 WalkO q O XP YP l.row.toRowW d [] (λf vs=>PySem.call f vs):=by
 intro w m4 z mg mb G Y L o pm I J s kV C y g e h A b F as i H K j M;obtain rfl:s = .none:=Dflts.none e a3;obtain rfl:kV = .none:=Dflts.noKw e;obtain⟨a,vs,ns,rfl,rfl,k,m,p⟩:=fD hn i j;refine enter_call<|UW (call w m4 z mg mb L o pm I J a vs ns G Y C (fd_plain y) g h k m p A) λr s' E=>?_;obtain⟨rfl,t,u,x⟩:=E;exact⟨.inl ⟨.bool cL,.bool cL,[],rfl,λ_=>rfl,.bool cL,gf l _,λ_=>⟨List.Pairwise.nil,λ_ B=>(nomatch B)⟩⟩,t,u,x⟩
end Att
namespace L2
open PySem PySem.Spec PyProof.Rows
theorem vH : ∀{vs:List dq} {ns:List Int},L3 vs ns->ej (ns.map V.int) vs
 | _,_,.nil=> .nil
 | _,_,.cons n t h=> .cons ⟨t,rfl⟩ (vH h)
noncomputable def Hn(H:Hp):Prop:=∀b,H b=cR\/∃o a,H b=cI (.ro o<|.lst a)
theorem pf{P:gB}{w:fm}{K:Ob}{mg mb:DX}{CX:vb}{k:Nat}{fa a:di}{fd:m6}{x:Str}{sp:Sp}{I:d8}{vs:List dq}{ns:List Int}
 (KX:K.In I.heap) (a2:I.heap.Ns qd mg) (J:I.heap.Ns C_ mb) (a9 : ∀x:Str,x ≠ "__name__"->mb x=A8 x) (aa:I.heap.NoLimit) (hg:I.gens = #[])
 (ha:I.heap.get? a=cI {cls:= .type "list",data:= .seq vs.toArray}) (hi:L3 vs ns) (hl:ns.length<=eJ) (hr:l8 k DA)
 (F : ∀base:ew,K.In base->base.Ns qd mg->je P w K mg base CX k fa fd [x] sp) (ae : ∀(s:d8) (u:dq),L0 s fd ⟨[u],[]⟩ [(x,u)])
 (ag : ∀H:Hp,Hn H->e9 K H a (ns.map V.int)->sp [.ref a] H (λv _=>v = .bl cL) λ_ _ _=>False)
 (am : ∀H e L,CX [] H I (λ_ _ _=>False) e L->False) :
 codeAny (d5 P w) DA (.call (.ref fa) ⟨[.ref a],[]⟩) (λr L=>r = .ok (.ret<|.bool cL)/\OldK I.heap L.heap/\L.os=I.os/\C3 L.gens) I:=by
 have E:=vH hi;have G:=hi.length;have t : ∀H:Hp,Hn H->e9 K H a (ns.map V.int)->ji P w H I.heap->(∀b,H b≠cR->b=a)->(H a≠cR->K.lookup a=cR)->
  codeAny (d5 P w) DA (.call (.ref fa) ⟨[.ref a],[]⟩) (λr L=>r = .ok (.ret<|.bool cL)/\OldK I.heap L.heap/\L.os=I.os/\C3 L.gens) I:=by
  intro H C Z l B W;have f : ∀{b:di} {o:i5},I.heap.get? b=cI o->H b=cR->(pB I.heap H).get? b=cI o:=λe n=>pA e n;have as : ∀{b:di} {o:i5} {j:Array L1} {i:Nat},I.heap.get? b=cI o->o.data = .dict j i->H b=cR:=λ{b o j i} e d=>by
   cases q:H b with
   | none=>rfl
   | some u=>
    have p:b=a:=B b (by rw[q];simp);subst p;rw[ha]at e;cases e;have N:Data.seq vs.toArray _=Data.dict j i:=d;cases N
  have Y : ∀{b:di} {m:DX},I.heap.Ns b m->(pB I.heap H).Ns b m:=λ{b m} ⟨o,j,i,e,d,r⟩=>⟨o,j,i,f e<|as e d,d,r⟩;have y:K.In (pB I.heap H):=λb o e=>f (KX b o e) (by
   cases q:H b with
   | none=>rfl
   | some u=>
    have p:b=a:=B b (by rw[q];simp);subst p;rw[W (by rw[q];simp)]at e;cases e)
  have X:Mod K mg (pB I.heap H):=⟨y,Y a2,⟨mb,Y J,a9⟩,let ⟨mc,T,U⟩:=aa;⟨mc,Y T,U⟩⟩;have Q:Dv P w K mg (pB I.heap H) DA [] I H:=⟨rfl,X,λb o e=>Ao e,Nat.le_of_eq<|iF _ _,trivial,λb J=>absurd (show b∈([]:List di)from J) ⋯,l,.of_eq hg⟩;refine UW ((F _ y<|Y a2).run DA [] I H ⟨[.ref a],[]⟩ [.ref a] [.ref a] _ _ hr Q (ae I<|.ref a) (.cons rfl .nil) (ag H C Z)) λr L h=>?_;cases r with
  | error e=>exact(am H e L h).elim
  | ok S=>
   cases S with
   | next=>exact Su h
   | brk=>exact Su h
   | cont=>exact Su h
   | ret u=>
    obtain⟨v,H',os,g,un,M,r',q⟩:=h;have q':v = .bl cL:=q;subst q';obtain rfl:u=M9 cL:=r';refine⟨rfl,OldK.of_keep λb o e=>?_,os,g⟩;cases q:H b with
    | none=>exact un.keep b o e q (by intro z;exact absurd (show b∈([]:List di)from z) ⋯) ⋯
    | some u=>
     rcases C b with z | ⟨ob,xs,z⟩
     ·rw[q]at z;cases z
     ·have z2:=un.B3 b ob _ z
      obtain⟨A,_⟩:=l b _ z;obtain⟨R,_⟩:=M b _ z2;rw[e]at A;cases A;exact R
 cases hk:K.lookup a with
 | some o=>
  have e:=KX a o hk;rw[ha]at e;cases e;refine t (λ_=>cR) (λ_=> .inl rfl) (.inr ⟨_,vs.toArray,_,hk,rfl,rfl,rfl,by rw[Ov,G];exact hl,by simpa using E⟩) (λb u z=>by have O:(cR:Option HO)=cI u:=z;cases O) (λb z=>absurd rfl z) λz=>absurd rfl z
 | none=>
  refine t (λb=>if b=a then cI (.ro {cls:= .type "list",data:= .seq vs.toArray} (.lst (ns.map V.int)))else cR) (λb=>?_) (.inl (.inr ⟨{cls:= .type "list",data:= .seq vs.toArray},DZ rfl⟩)) (λb u z=>?_) (λb z=>?_) λ_=>hk
  ·by_cases J:b=a
   ·exact .inr ⟨_,_,DZ J⟩
   ·exact .inl<|DJ J
  ·by_cases J:b=a
   ·have O:=(DZ J).symm.trans z
    cases O;subst J;exact⟨ha,by rw[OC];exact hl,vs,_,E,ha⟩
   ·have O:=(DJ J).symm.trans z
    cases O
  ·by_cases J:b=a
   ·exact J
   ·exact absurd (DJ J) z
abbrev tx{K:Ob}{h:ew}(_:K.In h):Ob:=K
theorem tm{l:PySem.W.OpenLaw}{n k:Nat}{q:gB}{a0:List Str}{XP:(Str->Option dq)->ew->Prop}{z:fm->ew->Prop}{d:DefRec}{K:Params->Ob}{CX:fm->vb}{sp:fm->Sp}{x:Str}
 (hn:l.most=cI n) (a2:n<=eJ) (a3:d.params.defaults=[]) (hr:l8 k DA)
 (hY : ∀(w:fm) (h:ew),z w h->(K w.params).In h)
 (F : ∀(w:fm) (J:DX) (L:di) (h:ew),(K w.params).In h->h.Ns qd J->J d.name=cI (.ref L)->
   ∃fd:m6,(∀(s:d8) (u:dq),L0 s fd ⟨[u],[]⟩ [(x,u)])/\
    ∀base:ew,(K w.params).In base->base.Ns qd J->je l.prog w (K w.params) J base (CX w) k L fd [x] (sp w))
 (a6 : ∀(w:fm) (H:Hp) (a:di) (ns:List Int),ns.length<=n->Hn H->e9 (K w.params) H a (ns.map V.int)->sp w [.ref a] H (λv _=>v = .bl cL) λ_ _ _=>False)
 (a7 : ∀(w:fm) (H:Hp) (s:d8) (e:dq) (s':d8),CX w [] H s (λ_ _ _=>False) e s'->False) :
 PySem.W.WalkO q a0 XP z l.row.toRowW d [] (λf vs=>PySem.call f vs):=by
 refine Att.Bt hn a3 λw j i J R L o S N t a vs ns G Y Q P M m p r I E=>?_;have O:=hY w _ Y;obtain⟨fd,C,y⟩:=F w J L _ O G.T.g m;exact pf O G.T.g G.T.b G.T.builtins G.T.nolimit E p r (PK I a2) hr y C (λH A B=>a6 w H a ns I A B) λH e s'=>a7 w H i e s'
theorem Gw{l:PySem.W.OpenLaw}{n k:Nat}{q:gB}{I:List Str}{O:(Str->Option dq)->ew->Prop}{z:fm->ew->Prop}{d:DefRec}{K:Params->Ob}{CX:vb}{sp:Ob->Sp}{x:Str}
 (hn:l.most=cI n) (Y:n<=eJ) (a0:d.params.defaults=[]) (hr:l8 k DA)
 (hY : ∀(w:fm) (h:ew),z w h->(K w.params).In h)
 (F : ∀(w:fm) (J:DX) (fa:di) (h:ew),(K w.params).In h->h.Ns qd J->J d.name=cI (.ref fa)->
   ∃fd:m6,(∀(s:d8) (u:dq),L0 s fd ⟨[u],[]⟩ [(x,u)])/\
    ∀base:ew,(K w.params).In base->base.Ns qd J->je l.prog w (K w.params) J base CX k fa fd [x] (sp<|K w.params))
 (a3 : ∀(K:Ob) (H:Hp) (a:di) (ns:List Int),ns.length<=n->Hn H->e9 K H a (ns.map V.int)->sp K [.ref a] H (λv _=>v = .bl cL) λ_ _ _=>False)
 (a4 : ∀(H:Hp) (s:d8) (e:dq) (L:d8),CX [] H s (λ_ _ _=>False) e L->False) :
 PySem.W.WalkO q I O z l.row.toRowW d [] (λf vs=>PySem.call f vs):=
 tm (K:=K) (CX:=λ_=>CX) (sp:=λw=>sp<|K w.params) hn Y a0 hr hY F (λw H a ns b g i=>a3 (K w.params) H a ns b g i) λ_ H s e L=>a4 H s e L
noncomputable def xH(s:g8):Arguments:=match s with
 | .FunctionDef _ a _ _ _ _ _ _ _ _=>a
 | _=>{posonlyargs:=[],args:=[],vararg:=cR,kwonlyargs:=[],kw_defaults:=[],kwarg:=cR,defaults:=[]}
noncomputable def jT(s:g8):List g8:=match s with
 | .FunctionDef _ _ b _ _ _ _ _ _ _=>b
 | _=>[]
noncomputable def zT(s:g8):f9:=match s with
 | .FunctionDef _ _ _ _ _ _ a _ _ _=>a
 | _=>{kind:= .function,names:=[],isGenerator:=dd,isCoroutine:=dd}
abbrev l7:vb:=λ_ _ _ _ _ _=>False
abbrev E0:XK:=λ_ _ _=>False
theorem QC:XH l7 X E0:=λ_ _ _ _ _ _ _ h=>h.elim
structure oi(K:Ob)(x qual:Str)(st:g8)(f:di)(fd:m6):Prop where
 ex : ∃(oc:dq) (od:Option di) (kV doc pm:dq) (an:Option di) (D' ct:dq) (S7:Array (Option dq)),
  fd=Rw x qual (xH st) (jT st) (zT st) .none kV doc pm an D' ct/\K.lookup f=cI ⟨oc,od,.func fd,S7⟩/\SV K D' qual=cL
 kp:Rb K (.ref f)=cL
section
variable{P:gB}{w:fm}{K:Ob}{mg:DX}{base:ew}
theorem oi.ok{x qual:Str}{st:g8}{f:di}{L:m6}{N ps:List Str}{k:Nat}{sp:Sp}(F:oi K x qual st f L)(S:F2 N ps (zT st))(len : ∀vs H Q E,sp vs H Q E->vs.length=ps.length)
 (z : ∀(J:dq) (A:i8) (outer:List m5) (s:d8) (H:Hp) (vs:List V) (Q:VK) (E:XK),l8 k (A.deeper<|envOfC qual (zT st) s.heap.objs.size f J)->sp vs H Q E->
   ∃t,hO (Bh l7 P w K mg base N qual (zT st) f J A outer s H E).I0 (jT st) t/\t {nx:=λ_ H'=>Q .eg H',rt:=Q} (wI N vs) H):je P w K mg base l7 (k+1) f L ps sp:=by
 obtain⟨g,i,kV,a,j,d,J,e,b,rfl,lk,I⟩:=F.ex;refine IR lk I S len λA outer s H vs Q E O Y=>?_;obtain⟨t,h,q⟩:=z J A outer s H vs Q E O Y;exact⟨t,h.I0,q⟩
theorem oi.binds{x qual:Str}{st:g8}{f:di}{Y:m6}{ps:List Str}(F:oi K x qual st f Y)
 (h : ∀(kV J O:dq) (L:Option di) (I ct:dq) (us:List dq),us.length=ps.length->D9 (Rw x qual (xH st) (jT st) (zT st) .none kV J O L I ct) ⟨us,[]⟩=pure (ps.zip us)):Binds K Y ps []:=by
 obtain⟨b,d,kV,J,O,L,I,ct,a,rfl,lk,z⟩:=F.ex;exact .all<|h kV J O L I ct
theorem aW{x qual:Str}{st:g8}{f:di}{oc:dq}{od O:Option di}{L:Array (Option dq)}{kV J Y I ct:dq}(l:K.lookup f=cI ⟨oc,od,.func<|Rw x qual (xH st) (jT st) (zT st) .none kV J Y O I ct,L⟩)
 (c:SV K I qual=cL) (k:Rb K (.ref f)=cL):oi K x qual st f (Rw x qual (xH st) (jT st) (zT st) .none kV J Y O I ct):=⟨⟨oc,od,kV,J,Y,O,I,ct,L,rfl,l,c⟩,k⟩
end
noncomputable def et(H H':Hp):Prop:=∀b o,H b=cI o->H' b=cI o
theorem et.refl(H:Hp):et H H:=λ_ _ h=>h
theorem et.trans(a:et H H1)(b:et H1 H2):et H H2:=λc o h=>b c o<|a c o h
theorem et.free(e:et H H')(h:H' l=Option.none):H l=Option.none:=by
 cases q:H l with
 | none=>rfl
 | some o=>
  rw[e l o q]at h;cases h
theorem et.seq{K:Ob}{H H':Hp}{a:di}{xs:List V}(e:et H H')(h:e9 K H a xs):e9 K H' a xs:=by
 rcases h with(h | ⟨o,h⟩) | h
 ·exact .inl<|.inl<|e _ _ h
 ·exact .inl<|.inr ⟨o,e _ _ h⟩
 ·exact .inr h
noncomputable def K2(cells:List (Str×di)):List (Str×vp)->List (Str×di)->List (Str×di)
 | [],acc=>acc
 | (n,k)::r,acc=>K2 cells r<|if k==OY then (match cells.lookup n with | some c=>(n,c)::acc | none=>acc)else acc
theorem yW(f:Str×vp->List (Str×di)->Sem (ForInStep<|List<|Str×di))
 (z : ∀name kind I,f (name,kind) I=if kind==OY then (do let a <- cellOf env name;pure (.yield ((name,a)::I)))else pure (.yield I)) :
 ∀(names:List (Str×vp)) (acc:List (Str×di)),(∀n,(n,OY)∈names->∃c,env.cells.lookup n=cI c)->
  forIn names acc f=(pure (K2 env.cells names acc):Sem _)
 | [],acc,_=>by rw[List.forIn_nil];rfl
 | (n,k)::r,acc,h=>by
  rw[List.forIn_cons,z];have O : ∀n,(n,OY)∈r->∃c,env.cells.lookup n=cI c:=λm g=>h m<|Ow _ g;unfold K2;by_cases b:(k==OY)=cL
  ·rw[DZ b,DZ b]
   have d:k=OY:=by simpa using b
   subst d;obtain⟨c,Y⟩:=h n Ot;have e:cellOf env n=pure c:=by unfold cellOf;rw[Y]
   rw[e,Y];exact yW f z r _ O
  ·rw[DJ b,DJ b]
   exact yW f z r acc O
theorem KJ(h : ∀n,(n,OY)∈scope.names->∃c,env.cells.lookup n=cI c) :
 closureFor scope env=pure (K2 env.cells scope.names []):=by
 simp only[closureFor];rw[yW (env:=env) _ (λb a z=>by cases hk:a==OY<;>simp[hk]) scope.names [] h];rfl
theorem kC
 (z:Q {scope:=scope,locals:=s.heap.objs.size,globals:=globals,cells:=ri (s.heap.objs.size+1) scope.names cl,qual:=qual,func:=cR,code:=env.code,frame:=env.frame,builtins:=env.builtins}
   {s with heap:=Di (s.heap.push {cls:= .type "dict",data:= .dict #[]}) scope.names}) :
 wpAny M A (N_ scope globals cl [] qual cR .none (cI env)) Q E s:=by
 simp only[N_,Option.isSome_some,if_true];refine Oc (wpAny_alloc ?_);refine Oc (wpAny_layCells _ (λb a cells=>by cases k?:a==Sv<;>simp[k?]) _ _ _ _ ?_);rw[show({s with heap:=s.heap.push {cls:= .type "dict",data:= .dict #[]}}:d8).heap.objs.size=s.heap.objs.size+1 from nr ..];exact Oc (Oi (Oi z))
theorem aH : ∀{names:List (Str×vp)} {acc:List (Str×di)},(n,c)∈K2 cells names acc->(n,c)∈acc\/((n,OY)∈names/\cells.lookup n=cI c)
 | [],acc,h=> .inl h
 | (m,k)::r,acc,h=>by
  unfold K2 at h;rcases aH h with g | ⟨h1,h2⟩
  ·clear h
   by_cases a:(k==OY)=cL
   ·rw[DZ a]at g
    have z:k=OY:=by simpa using a
    subst z;cases e:cells.lookup m with
    | none=>rw[e]at g;exact .inl g
    | some b=>
     rw[e]at g;rcases OA.mp g with g | g
     ·cases g;exact .inr ⟨Ot,e⟩
     ·exact .inl g
   ·rw[DJ a]at g;exact .inl g
  ·exact .inr ⟨Ow _ h1,h2⟩
theorem JB : ∀{names:List (Str×vp)} {acc:List (Str×di)},((acc.lookup n).isSome=cL\/((n,OY)∈names/\(cells.lookup n).isSome=cL))->((K2 cells names acc).lookup n).isSome=cL
 | [],acc,h=>by
  rcases h with h | ⟨h,_⟩
  ·exact h
  ·cases h
 | (m,k)::r,acc,h=>by
  unfold K2;apply JB;by_cases a:(k==OY)=cL
  ·rw[DZ a]
   have I:k=OY:=by simpa using a
   subst I;cases e:cells.lookup m with
   | none=>
    rcases h with h | ⟨h1,h2⟩
    ·exact .inl h
    ·rcases OA.mp h1 with h1 | h1
     ·cases h1;rw[e]at h2;cases h2
     ·exact .inr ⟨h1,h2⟩
   | some b=>
    dsimp only;by_cases z:n=m
    ·subst z;left;simp
    ·rcases h with h | ⟨h1,h2⟩
     ·left;rw[so];split<;>simp_all
     ·rcases OA.mp h1 with h1 | h1
      ·cases h1;exact absurd rfl z
      ·exact .inr ⟨h1,h2⟩
  ·rw[DJ a]
   rcases h with h | ⟨h1,h2⟩
   ·exact .inl h
   ·rcases OA.mp h1 with h1 | h1
    ·cases h1;exact absurd rfl a
    ·exact .inr ⟨h1,h2⟩
theorem xP : ∀{names:List (Str×vp)} {k:Nat} {acc:List (Str×di)},(n,c)∈ri k names acc->(n,c)∈acc\/(k<=c/\(n,Sv)∈names)
 | [],_,_,h=> .inl h
 | (m,kd)::r,k,acc,h=>by
  unfold ri at h;split at h
  ·rename_i a
   have z:kd=Sv:=by simpa using a
   subst z;rcases xP h with h | ⟨h1,h2⟩
   ·rcases OA.mp h with h | h
    ·cases h;exact .inr ⟨Ou _,Ot⟩
    ·exact .inl h
   ·exact .inr ⟨by omega,Ow _ h2⟩
  ·rcases xP h with h | ⟨h1,h2⟩
   ·exact .inl h
   ·exact .inr ⟨h1,Ow _ h2⟩
theorem ym : ∀{names:List (Str×vp)} {k:Nat} {acc:List (Str×di)},(∀p∈acc,∀q∈acc,p.2=q.2->p.1=q.1)->(∀p∈acc,p.2<k)->
 ∀p∈ri k names acc,∀q∈ri k names acc,p.2=q.2->p.1=q.1
 | [],_,_,h,_=>h
 | (m,kd)::r,k,acc,h,hl=>by
  unfold ri;split
  ·refine ym (λp z q I e=>?_) (λp z=>?_)
   ·rcases OA.mp z with rfl | z<;>rcases OA.mp I with rfl | I
    ·rfl
    ·have O:k=q.2:=e
     exact absurd (O ▸ hl q I)<|Rj _
    ·have O:p.2=k:=e
     exact absurd (O ▸ hl p z)<|Rj _
    ·exact h p z q I e
   ·rcases OA.mp z with rfl | z
    ·exact PR _
    ·exact Py<|hl p z
  ·exact ym h hl
theorem JQ : ∀{names:List (Str×vp)} {h:ew} {acc:List (Str×di)} {n:Str} {c:di},(n,c)∈ri h.objs.size names acc->(n,c)∈acc\/(Di h names).IsCell c cR
 | [],_,_,_,_,hm=> .inl hm
 | (m,kd)::r,h,acc,n,c,hm=>by
  unfold ri at hm;unfold Di;split at hm
  ·rename_i a
   rw[DZ a];have e:h.objs.size+1=(h.push {cls:= .type "cell",data:= .cell cR}).objs.size:=(nr ..).symm;rw[e]at hm;rcases JQ hm with hm | hm
   ·rcases OA.mp hm with hm | hm
    ·cases hm
     have z:(h.push {cls:= .type "cell",data:= .cell cR}).IsCell h.objs.size cR:=⟨{cls:= .type "cell",data:= .cell cR},Oz _ rfl,rfl⟩;exact .inr (z.keeps λb o q=>Uo _ _ b o q)
    ·exact .inl hm
   ·exact .inr hm
  ·rename_i a
   rw[DJ a];exact JQ hm
theorem ve{L:Type}{l:List (Str×L)}(J:(l.map (·.1)).Nodup) : ∀{n:Str} {a:L},(n,a)∈l->l.lookup n=cI a:=by
 induction l with
 | nil=>intro n a h;cases h
 | cons p r z=>
  intro n a h;obtain⟨m,b⟩:=p;rw[OH,Ry]at J;rw[so];rcases OA.mp h with h | h
  ·cases h;simp
  ·have I:(n==m)=dd:=by
    have:n≠m:=λe=>J.1 (by rw[<- e];exact RK.mpr ⟨(n,a),h,rfl⟩);simpa using this
   rw[I];exact z J.2 h
theorem vo(scope:f9)(env:m5)(x:Str):(xb scope env).names.lookup x =
 (scope.names.lookup x).map λk=>if (k==OY && env.scope.kind == .function && env.kindOf x==cI .cell)then Sv else k:=by
 unfold xb;dsimp only;generalize scope.names=l
 induction l with
 | nil=>rfl
 | cons p r I=>
  obtain⟨n,k⟩:=p;rw[OH];cases hx:x==n with
  | true=>
   have e:x=n:=by simpa using hx
   subst e;rw[so,so];dsimp only;by_cases z:(k==OY && env.scope.kind == .function && env.kindOf x==cI .cell)=cL
   ·rw[DZ z,beq_self_eq_true];dsimp only[TN];rw[DZ z]
   ·rw[DJ z,beq_self_eq_true];dsimp only[TN];rw[DJ z]
  | false=>
   have : ∀O,To x ((n,O)::(r.map λx=>match x with | (n,k)=>if (k==OY && env.scope.kind == .function && env.kindOf n==cI .cell)=cL then (n,Sv)else (n,k)))=To x (r.map λx=>match x with | (n,k)=>if (k==OY && env.scope.kind == .function && env.kindOf n==cI .cell)=cL then (n,Sv)else (n,k)):=λO=>by rw[so,hx]
   rw[so (k:=n),hx];dsimp only;split
   ·rw[this];exact I
   ·rw[this];exact I
noncomputable def wj(scope:f9)(env:m5)(L:di):m5:=
 {scope:=xb scope env,locals:=L,globals:=env.globals,cells:=ri (L+1) scope.names<|K2 env.cells scope.names [],qual:=env.qual,func:=cR,code:=env.code,frame:=env.frame,builtins:=env.builtins}
noncomputable def jm(X:Cx)(scope:f9)(L:List Str)(fp:List di)(I:d8)(J:Hp):Cx:=
 {X with N:=L,m4:=I,F3:=J,env:=wj scope X.env<|I.heap.objs.size+1,outer:=X.stack,stack:=X.stack,ex:=fp,fn:=λx=>scope.names.lookup x==cI .cell,pn:=[],xe:=λ_ _=>False}
structure rb(X:Cx)(scope:f9)(fr:List (Str×Nat)):Prop where
 kind:scope.kind = .function
 nd:(scope.names.map (·.1)).Nodup
 free : ∀p∈scope.names,p.2=OY->X.env.kindOf p.1=cI .cell\/X.env.kindOf p.1=cI .free
 fr : ∀p∈fr,scope.names.lookup p.1=cI .free/\X.N[p.2]? = cI p.1
noncomputable def nK(own:List Str)(fr:List (Str×Nat))(I:St):St:=own.map (λ_=>cR)++fr.map λp=>(I[p.2]?).join
abbrev VW:i5:={cls:= .type "list",data:= .seq #[]}
abbrev sO:i5:={cls:= .type "dict",data:= .dict #[]}
theorem px{X:Cx}{L:TW}{σ:St}{H2:Hp}{J:d8}{scope:f9}{own:List Str}{fr:List (Str×Nat)}{fp:List di}(I:Inv X L σ H2 J)(ok:rb X scope fr)
 (a3 : ∀b∈fp,bN X L H2 b) (am : ∀b∈fp,∃o,J.heap.get? b=cI o) :
 Inv (jm X scope (own++fr.map (·.1)) fp J H2) [] (nK own fr σ) (upd H2 J.heap.objs.size<|.lst []) {J with heap:=Di ((J.heap.push VW).push sO) scope.names}:=by
 have N:(J.heap.push VW).objs.size=J.heap.objs.size+1:=nr ..;have z2:((J.heap.push VW).push sO).objs.size=J.heap.objs.size+2:=by rw[nr,N]
 have Y : ∀n c,(n,c)∈K2 X.env.cells scope.names []->(n,OY)∈scope.names/\X.env.cells.lookup n=cI c:=λn c h=>(aH h).resolve_left ⋯;have a9 : ∀n c,X.env.cells.lookup n=cI c->c<J.heap.objs.size:=λn c h=>by obtain⟨v,q⟩:=I.cell n c h;exact q.lt
 have P : ∀p∈K2 X.env.cells scope.names [],p.2<J.heap.objs.size+1+1:=λp O=>by exact Py<|Py<|a9 p.1 p.2 (Y p.1 p.2 O).2
 have hC:(wj scope X.env<|J.heap.objs.size+1).cells=ri (J.heap.objs.size+2) scope.names (K2 X.env.cells scope.names []):=rfl;have a : ∀x c,(wj scope X.env<|J.heap.objs.size+1).cells.lookup x=cI c->((x,OY)∈scope.names/\X.env.cells.lookup x=cI c)\/(J.heap.objs.size+2<=c/\(x,Sv)∈scope.names):=λx c h=>by
  rcases xP (mem_of_lookup h)with h | h
  ·exact .inl<|Y x c h
  ·exact .inr h
 have E : ∀x,(x,OY)∈scope.names->∃c,X.env.cells.lookup x=cI c/\(wj scope X.env<|J.heap.objs.size+1).cells.lookup x=cI c:=λx s=>by
  obtain⟨c,g⟩:=I.ok.has x<|ok.free (x,.free) s rfl;have A:((K2 X.env.cells scope.names []).lookup x).isSome=cL:=JB<|.inr ⟨s,by rw[g];rfl⟩;have r:=Tt scope.names (J.heap.objs.size+2) (K2 X.env.cells scope.names [])<|.inr A;obtain⟨K,F⟩:=Ui.mp r;refine⟨c,g,?_⟩;rcases a x K F with⟨_,q⟩ | ⟨_,q⟩
  ·rw[g]at q;cases q;exact F
  ·exact absurd ((ve ok.nd q).symm.trans (ve ok.nd s)) ⋯
 have keep : ∀b o,J.heap.get? b=cI o->(Di ((J.heap.push VW).push sO) scope.names).get? b=cI o:=λb o e=>
  Uo _ _ b o (Of _<|Of _ e)
 have ac : ∀b∈fp,b<J.heap.objs.size:=λb d=>by obtain⟨o,e⟩:=am b d;exact OD e
 have fresh:H2 J.heap.objs.size=cR:=I.eG.fresh<|Ou _;have G : ∀c,J.heap.objs.size<c->(upd H2 J.heap.objs.size<|.lst []) c=cR:=λc g=>by rw[zH (RM g)];exact I.eG.fresh<|UK g
 obtain⟨m0,Q⟩ : ∃m,(Di ((J.heap.push VW).push sO) scope.names).Ns (J.heap.objs.size+1) m:=by have q:=(Heap.Ns.new (J.heap.push VW) (.type "dict")).keeps (λb o e=>Uo scope.names _ b o e);rw[N]at q;exact⟨_,q⟩
 refine⟨⟨I.ok.mod,ok.kind,I.ok.glob,I.ok.blt,M8 _,λx y c A r=>?_,λx s=>?_,λx c Z h=>?_,I.ok.hd,I.ok.frames,.inl rfl,λb d=>⟨?_,λx c h z=>?_⟩,λb o e=>I.bs b o e,?_,λb o e d=>?_,λb d hs=>?_,I.stack,I.V'⟩,
  rfl,I.bare,Un.laid keep (Ou _) fresh,⟨m0,Q,λi x v M f e3=>?_⟩,λx c h=>?_,?_,λx c h=>?_,λp O=>?_,?_,?_⟩
 ·have q:=ym (names:=scope.names) (k:=J.heap.objs.size+2) (acc:=K2 X.env.cells scope.names []) (λp O q hq e=>I.ok.inj p.1 q.1 p.2 (Y _ _ O).2 (by rw[e];exact(Y _ _ hq).2)) P
  exact q (x,c) (mem_of_lookup A) (y,c) (mem_of_lookup r) rfl
 ·have j:(xb scope X.env).names.lookup x=cI .cell\/(xb scope X.env).names.lookup x=cI .free:=s
  have:scope.names.lookup x=cI .cell\/scope.names.lookup x=cI .free:=by
   rw[vo]at j;cases e:scope.names.lookup x with
   | none=>rw[e]at j;simp at j
   | some k=>
    rw[e]at j;cases k<;>simp at j ⊢
  rcases this with h | h
  ·exact Ui.mp<|Tt scope.names _ _<|.inl h
  ·obtain⟨c,_,r⟩:=E x<|mem_of_lookup h;exact⟨c,r⟩
 ·have R:(scope.names.lookup x==cI .cell)=cL:=Z
  have S:scope.names.lookup x=cI .cell:=by simpa using R
  rcases a x c h with⟨q,_⟩ | ⟨q,_⟩
  ·exact absurd ((ve ok.nd q).symm.trans S) ⋯
  ·exact PK (PU _ 2) q
 ·exact ON<|Py<|ac b d
 ·rcases a x c h with⟨_,q⟩ | ⟨q,_⟩
  ·exact(a3 b d).2.2.2.2.1 x c q z
  ·exact absurd (OI (ac b d)<|PK (PU _ 2)<|z ▸ q)<|Rj _
 ·exact PK I.ok.A9 I.sz
 ·rcases (a3 b d).2.2.2.1 with q | q
  ·exact I.ok.H9 b o e q
  ·exact absurd (OI (OD e)<|PK I.ok.A9 q)<|Rj _
 ·rcases OA.mp (I.T3 b hs)with q | q
  ·exact(a3 b d).2.1 q
  ·exact(a3 b d).2.2.1 q
 ·have hi:i<(own++fr.map (·.1)).length:=(Ol.mp M).1
  by_cases w:i<own.length
  ·unfold nK at f
   rw[OV (by simpa using w)]at f;simp[OF,w]at f
  ·have hj : ∃p,fr[i - own.length]? = cI p/\p.1=x/\(σ[p.2]?).join=cI v:=by
    unfold nK at f;have l:(own++fr.map (·.1))[i]? = cI x:=M;rw[OZ ⋯,OF]at l;rw[OZ (by simpa using w),OF,OC]at f;cases q:fr[i - own.length]? with
    | none=>rw[q]at l;cases l
    | some p=>
     rw[q]at l f;exact⟨p,rfl,by simpa using l,by simpa using f⟩
   obtain⟨p,O,T,t⟩:=hj;obtain⟨g1,g2⟩:=ok.fr p<|OS O;rw[T]at g1 g2;have B:σ[p.2]? = cI (cI v):=by
    cases q:σ[p.2]? with
    | none=>rw[q]at t;cases t
    | some o=>rw[q]at t;simpa using t
   have H:=ok.free (x,.free) (mem_of_lookup g1) rfl;obtain⟨m,hn,hl⟩:=I.loc;obtain⟨u,ru,lk⟩:=hl p.2 x v g2 B (by rcases H with k | k;exact .inr<|.inl k;exact .inr<|.inr k);refine⟨u,ru,.inr ?_⟩;obtain⟨c,bl,U⟩:=E x<|mem_of_lookup g1;have W:J.heap.IsCell c (cI u):=by
    rcases lk with⟨k,_⟩ | ⟨_,K,e,z⟩
    ·rcases H with k' | k'<;>rw[k]at k'<;>cases k'
    ·rw[bl]at e;cases e;exact z
   refine⟨?_,c,U,W.keeps keep⟩;show(xb scope X.env).names.lookup x=cI .cell\/(xb scope X.env).names.lookup x=cI .free;rw[vo,g1];dsimp only[TN];split
   ·exact .inl rfl
   ·exact .inr rfl
 ·rcases xP (mem_of_lookup h)with q | q
  ·obtain⟨v,C⟩:=I.cell x c (Y x c q).2
   exact⟨v,C.keeps keep⟩
  ·have q2:=mem_of_lookup h
   have q3:(x,c)∈ri ((J.heap.push VW).push sO).objs.size scope.names (K2 X.env.cells scope.names []):=by rw[z2];exact q2
   rcases JQ q3 with q4 | q4
   ·obtain⟨v,C⟩:=I.cell x c (Y x c q4).2
    exact⟨v,C.keeps keep⟩
   ·exact⟨cR,q4⟩
 ·exact G _<|PR _
 ·rcases a x c h with⟨_,q⟩ | ⟨q,_⟩
  ·rw[zH (ON<|a9 x c q)];exact I.y7 x c q
  ·exact G c<|OI (Py<|PR _) q
 ·exact absurd (show p∈([]:TW)from O) ⋯
 ·refine I.eG.laid keep (Ou _) ⟨Rg _,[],0,.nil,?_⟩
  exact Uo _ _ _ _<|Of _<|Oz _ rfl
 ·show(nK own fr σ).length=(own++fr.map (·.1)).length
  simp[nK]
theorem vj(I:Nat->d8->Prop)
 (a4 : ∀n s,I n s->wpAny (d5 prog w) A (rr it) (λr z=>match r with
   | none=>R (.ok .next) z
   | some v=>wpAny (d5 prog w) A (MC target it v) (λ_ z=>wpAny (d5 prog w) A (vr target env v) (λ_ Y=>
    wpAny (d5 prog w) A (forIn ifs cL λc r=>if r=cL then do let ok <- DG c env (d3 c env);pure (Ut ok)else pure (Ut r)) (λok O=>
     if ok=cL then wpAny (d5 prog w) A (d3 elt env) (λx J=>
      wpAny (d5 prog w) A (call (.builtin "list.append") [acc,x]) (λ_ L=>∃m,m<n/\I m L) (λ_ _=>False) J) (λ_ _=>False) O
     else ∃m,m<n/\I m O) (λ_ _=>False) Y) (λ_ _=>False) z) (λ_ _=>False) z) (λ_ _=>False) s)
 (n:Nat) (h:I n s) :
 codeAny (d5 prog w) A (.compLoop (.ListComp elt [⟨target,iter,ifs,0⟩] scope pos) 0 it acc env) R s:=by
 refine codeAny_loop rfl I (λn s j=>?_) n h;show wpAny _ A ((compTurn (.ListComp elt [⟨target,iter,ifs,0⟩] scope pos) 0 it acc env).onRaise (λx=>do noteFrame x env;theTreesLotGoes x)) _ _ s;refine wpAny_noted ?_;rw[compTurn_list];refine Oc<|wpAny_standAt<|Oc<|t5 (a4 n s j) (λr z b=>?_) λ_ _ a=>a.elim;cases r with
 | none=>exact Oi b
 | some v=>
  refine Oc<|t5 b (λ_ k i=>?_) λ_ _ a=>a.elim;refine Oc<|t5 i (λ_ Y e=>Oc<|t5 e (λok O d=>?_) λ_ _ a=>a.elim) λ_ _ a=>a.elim;cases ok with
  | false=>exact Oi ⟨rfl,d⟩
  | true=>
   exact Oc<|Oc<|t5 d (λx J f=>Oc<|t5 f (λ_ L g=>Oi<|Oi ⟨rfl,g⟩) λ_ _ a=>a.elim) λ_ _ a=>a.elim
noncomputable def BP(X:Cx)(I:List dy)(t:TT):Prop:=
 ∀(a:TW) (s:d8) (b:St) (H:Hp) (Q:Bool->Hp->Prop),Inv X a b H s->t b H Q->
  wpAny (d5 X.prog X.w) X.A (forIn I cL λc r=>if r=cL then do let ok <- DG c X.env (d3 c X.env);pure (Ut ok)else pure (Ut r)) (TP X a b Q) X.xe s
noncomputable def HD:TT:=λ_ H Q=>Q cL H
theorem Kh:BP X [] HD:=λ_ _ _ H _ I h=>wpAny_tests_nil ⟨H,I,h⟩
theorem av(h:PT X c t):BP X [c] t:=λa s b H Q I z=>wpAny_tests_one<|h a s b H Q I z
noncomputable def CW(J:It)(g:TG)(Y:TT)(L:TE)(D:di)(Q:VK)(W:Nat->Nat->List V->St->Hp->Prop):Prop:=
 ∀i m a f H,W i m a f H->H D=cI (.lst a)/\((J.stop i H/\Q (.ref D) H)\/(J.go i H/\a.length<eJ/\∀x e,J.z8 i H x e->g x f e λz h=>Y z h λb I=>
  if b=cL then L z I λv O=>O D=cI (.lst a)/\∃d,d<m/\W (i+1) d (a++[v]) z (upd O D<|.lst<|a++[v])else ∃d,d<m/\W (i+1) d a z I))
noncomputable def rE(X:Cx)(I:TW)(H:Hp)(L:di):Prop:=
 H L=cR/\L≠X.env.locals/\X.m4.heap.objs.size<=L/\(∀x c,X.env.cells.lookup x=cI c->c≠L)/\∀p∈X.pn++I,p.1≠L
theorem pW
 (hc:X.calm=cL) (I:Inv X pins σ H2 s2) (ok:rb X scope fr) (T:Turn X.prog X.w X.K tg J fp it tn) (st:tn 0 s2.heap) (Y : ∀b∈fp,bN X pins H2 b)
 (hg:PG (jm X scope (own++fr.map (·.1)) fp s2 H2) tg g) (ht:BP (jm X scope (own++fr.map (·.1)) fp s2 H2) ifs tt) (he:PE (jm X scope (own++fr.map (·.1)) fp s2 H2) elt te)
 (hW : ∀D,H2 D=cR->∃W:Nat->Nat->List V->St->Hp->Prop,(∃m,W 0 m [] (nK own fr σ) (upd H2 D<|.lst []))/\CW J g tt te D Q W) :
 wpAny (d5 X.prog X.w) X.A (newList []) (λacc H?=>wpAny (d5 X.prog X.w) X.A (N_ scope X.env.globals (K2 X.env.cells scope.names []) [] X.env.qual cR .none (cI X.env)) (λaa I?=>
  codeAny (d5 X.prog X.w) X.A (.compStart (.ListComp elt [⟨tg,iter,ifs,0⟩] scope pos) 0 (.ref it) acc {aa with scope:=xb scope X.env})
   (λr L=>(∃f,r = .ok f)/\∃D H',acc = .ref D/\Inv X pins σ H' L/\Q (.ref D) H'/\(∃m,L.heap.Ns aa.locals m)/\rE X pins H' aa.locals) I?) E H?) E s2:=by
 have as : ∀b∈fp,∃o,s2.heap.get? b=cI o:=λb a=>by obtain⟨o,e,_⟩:=T.obj 0 _ st b a;exact⟨o,e⟩
 have N:=px (own:=own) I ok Y as;obtain⟨W,⟨m0,w0⟩,cw⟩:=hW _ I.fresh;refine Pg<|kC ?_;have z1:(s2.heap.push VW).objs.size=s2.heap.objs.size+1:=nr ..;show codeAny _ _ (.compStart _ 0 (.ref it) (.ref s2.heap.objs.size) {scope:=xb scope X.env,locals:=(s2.heap.push VW).objs.size,globals:=X.env.globals,cells:=ri ((s2.heap.push VW).objs.size+1) scope.names<|K2 X.env.cells scope.names [],qual:=X.env.qual,func:=cR,code:=X.env.code,frame:=X.env.frame,builtins:=X.env.builtins})
  (λr L=>(∃f,r = .ok f)/\∃D H',OR s2.heap.objs.size = .ref D/\Inv X pins σ H' L/\Q (.ref D) H'/\(∃m,L.heap.Ns (s2.heap.push VW).objs.size m)/\rE X pins H' (s2.heap.push VW).objs.size) {s2 with heap:=Di ((s2.heap.push VW).push sO) scope.names}
 rw[z1];have ax:tn 0 (Di ((s2.heap.push VW).push sO) scope.names):=T.keep 0 _ _ st λb _ o e=>Uo _ _ b o<|Of _<|Of _ e;have c7 : ∀b∈fp,b<s2.heap.objs.size:=λb a=>by obtain⟨o,e⟩:=as b a;exact OD e
 have U : ∀{H':Hp},(∀b∈fp,H' b=cR)->∀b∈fp,bN (jm X scope (own++fr.map (·.1)) fp s2 H2) [] H' b:=λhn b a=>
  ⟨hn b a,(N.ok.Mv b a).1,N.ok.G3 b a,.inl a,(N.ok.Mv b a).2,λp hp=>absurd (show p∈([]:TW)from hp) ⋯⟩
 have b0:codeAny (d5 X.prog X.w) X.A (.compLoop (.ListComp elt [⟨tg,iter,ifs,0⟩] scope pos) 0 (.ref it) (.ref s2.heap.objs.size)<|wj scope X.env<|s2.heap.objs.size+1)
  (λr L=>(∃f,r = .ok f)/\∃D H',OR s2.heap.objs.size = .ref D/\Inv X pins σ H' L/\Q (.ref D) H'/\(∃m,L.heap.Ns (s2.heap.objs.size+1) m)/\rE X pins H' (s2.heap.objs.size+1)) {s2 with heap:=Di ((s2.heap.push VW).push sO) scope.names}:=by
  refine vj (λn L=>∃i B C H',Inv (jm X scope (own++fr.map (·.1)) fp s2 H2) [] C H' L/\tn i L.heap/\(∀b∈fp,H' b=cR)/\W i n B C H') ?_ m0
   ⟨0,[],_,_,N,ax,λb a=>by rw[zH (ON<|c7 b a)];exact(Y b a).1,w0⟩
  rintro n s3 ⟨i,B,h,H,I3,t,bd,w3⟩;obtain⟨zbe,ca⟩:=cw i n B h H w3;rcases ca with⟨y,qn⟩ | ⟨go,hz,step⟩
  ·refine ed (T.done (jm X scope (own++fr.map (·.1)) fp s2 H2) rfl rfl rfl hc i [] s3 h H _ I3 (U bd) t y) λr s4 O=>?_
   obtain⟨hr,k⟩:=O;subst hr;refine⟨⟨_,rfl⟩,_,H,rfl,I._U (ch:=fp) k.os k.base k.eG k.bare<|λb a=>⟨(Y b a).2.2.2.1,(Y b a).2.1,(Y b a).2.2.2.2.1,(Y b a).2.2.2.2.2⟩,qn,?_,k.free,?_,?_,?_,?_⟩
   ·obtain⟨m,hn,_⟩:=k.loc
    exact⟨m,hn⟩
   ·exact RM<|Py I.lt
   ·exact _p I.sz
   ·intro x c e z
    obtain⟨v,q⟩:=I.cell x c e;exact absurd (Py q.lt) (by rw[z];exact Rj _)
   ·intro p hp z
    exact absurd (Py<|OD (I.pin p hp).1) (by rw[z];exact Rj _)
  ·refine ed (T.item (jm X scope (own++fr.map (·.1)) fp s2 H2) rfl rfl rfl hc i [] s3 h H _ I3 (U bd) t go) λr s4 O=>?_
   obtain⟨u,hr,h4⟩:=O;subst hr;refine ed h4 λ_ s5 O=>?_;obtain⟨x,H5,I5,r5,y5,Z,cm⟩:=O;have cn:=I5.pinned (U cm)<|T.obj _ _ Z;refine ed (hg _ s5 h H5 x u _ cn r5<|step x H5 y5) λ_ s6 O=>?_;obtain⟨j,H6,I6,q6⟩:=O;refine ed (ht _ s6 j H6 _ I6 q6) λb s7 O=>?_;obtain⟨H7,P,R⟩:=O;have after : ∀{G:St} {M:Hp} {s:d8},Inv (jm X scope (own++fr.map (·.1)) fp s2 H2) ([]++YB fp s5.heap) G M s->tn (i+1) s.heap/\∀b∈fp,M b=cR:=λ{G M s} l=>by refine⟨T.keep _ _ _ Z λb a o e=>(l.pin (b,o)<|Ra _<|Ra _<|vd a e).1,λb a=>?_⟩;obtain⟨o,e,d⟩:=T.obj _ _ Z b a;exact(l.pin (b,o)<|Ra _<|Ra _<|vd a e).2.1
   cases b with
   | false=>
    rw[DJ Oy]at R ⊢;obtain⟨m',hm,w7⟩:=R;exact⟨m',hm,i+1,B,j,H7,P.Lp,(after P).1,(after P).2,w7⟩
   | true=>
    rw[DZ rfl]at R ⊢;refine ed (he _ s7 j H7 _ P R) λv8 s O=>?_;obtain⟨x8,M,l,r8,bm,m',hm,w8⟩:=O;obtain⟨zbv,bn,n8,rv,d6,e8⟩:=l.B8 bm;refine Tf F.slot_list_append ⟨_,e8,rfl⟩ F.entry_list_append (F.args_list_append_2 _ _) (PySem.list_append _ bn.toArray n8 v8<|by rw[Ov];omega) ⟨e8,?_⟩;have S:=l.G9 (its':=bn++[v8]) (f:=(·.push v8)) (t':=s.toks) bm e8 ⋯ (rv.append<|.cons r8 .nil) (by rw[OX,Sl];omega);exact⟨m',hm,i+1,B++[x8],j,_,S.Lp,(after S).1,(after S).2,w8⟩
 exact codeAny_compStart_list b0<|T.self _ 0 _ _ _ ax b0
noncomputable def fe(O:TI)(own:List Str)(fr:List (Str×Nat))(g:TG)(L:TT)(I:TE):TE:=λb H Q=>O b H λJ a=>∀D,a D=cR->
 ∃W:Nat->Nat->List V->St->Hp->Prop,(∃m,W 0 m [] (nK own fr b) (upd a D<|.lst []))/\CW J g L I D Q W
section
variable{X:Cx}{scope:f9}{own:List Str}{fr:List (Str×Nat)}{elt tg iter:dy}{ifs:List dy}{pos:eo}{wi:TI}{g:TG}{tt:TT}{te:TE}
theorem bB
 (z:X.calm=cL) (ok:rb X scope fr) (hi:PI X tg iter wi) (O : ∀fp s2 H2,PG (jm X scope (own++fr.map (·.1)) fp s2 H2) tg g)
 (Y : ∀fp s2 H2,BP (jm X scope (own++fr.map (·.1)) fp s2 H2) ifs tt) (he : ∀fp s2 H2,PE (jm X scope (own++fr.map (·.1)) fp s2 H2) elt te)
 (I:Inv X pins σ H s) (h:fe wi own fr g tt te σ H Q)
 (hR : ∀D H' s' L,Inv X pins σ H' s'->Q (.ref D) H'->(∃m,s'.heap.Ns L m)->rE X pins H' L->
   compPost (d5 X.prog X.w) X.A X.xe use R (.ref D) L (.ok .next) s')
 (hs : ∀x,o4 iter X.env x=pure x:=by intro _;rfl) :
 wpAny (d5 X.prog X.w) X.A (comprehension (.ListComp elt [⟨tg,iter,ifs,0⟩] scope pos) scope X.env (firstIterPos [⟨tg,iter,ifs,0⟩] pos) (newList []) dd (d3 iter X.env) use) R X.xe s:=by
 refine wpAny_comprehension_free rfl hs (KJ λn a=>I.ok.has n<|ok.free (n,.free) a rfl) ok.kind (λx F e=>by rw[<- e];exact ve ok.nd<|show(x.1,x.2)∈scope.names from F) ?_;refine ed (hi pins s σ H _ I h) λv N l=>ed l λK s2 o=>?_;obtain⟨M,fp,U,J,H2,e,d,T,i,f2,B⟩:=o;subst e;refine ed (pW (own:=own) (Q:=Q) (E:=X.xe) z d ok T i f2 (O fp s2 H2) (Y fp s2 H2) (he fp s2 H2) B) λacc P p=>ed p λj S t=>UW t λr s' u=>?_;obtain⟨⟨f,C⟩,D,H',k,b,q,a,y⟩:=u;subst C;subst k;have G:=hR D H' s' j.locals b q a y;cases use<;>exact G
theorem Kk(z:X.calm=cL)(ok:rb X scope fr)(hi:PI X tg iter wi)(O : ∀fp s2 J,PG (jm X scope (own++fr.map (·.1)) fp s2 J) tg g)
 (Y : ∀fp s2 J,BP (jm X scope (own++fr.map (·.1)) fp s2 J) ifs tt) (he : ∀fp s2 J,PE (jm X scope (own++fr.map (·.1)) fp s2 J) elt te)
 (hs : ∀x,o4 iter X.env x=pure x:=by intro _;rfl) :
 PE X (.ListComp elt [⟨tg,iter,ifs,0⟩] scope pos) (fe wi own fr g tt te):=by
 intro a s B H Q I h;rw[eval_ListComp];refine bB (use:=cR) z ok hi O Y he I h (λD d l L f q k y=>?_) hs;obtain⟨m,j⟩:=k;obtain⟨p,r,t,u,w⟩:=y;refine⟨m,j,λA n=>⟨.ref D,d,f.turned (t':=l.toks) (it:=L) (λb o i e=>n.extBut b o i e) p r (.inr t) u w,rfl,q⟩⟩
theorem Xi(z:X.N.Nodup)(O:X.N[i]? = cI y)(Y:Loc X.env.scope y)(hf:X.fn y=cL\/X.env.scope.names.lookup y=cI .local)
 (hc:X.calm=cL) (ok:rb X scope fr) (hi:PI X tg iter wi) (hg : ∀fp s2 J,PG (jm X scope (own++fr.map (·.1)) fp s2 J) tg g)
 (ht : ∀fp s2 J,BP (jm X scope (own++fr.map (·.1)) fp s2 J) ifs tt) (he : ∀fp s2 J,PE (jm X scope (own++fr.map (·.1)) fp s2 J) elt te)
 (hs : ∀x,o4 iter X.env x=pure x:=by intro _;rfl) :
 PS X (.Assign [.Name y py] (.ListComp elt [⟨tg,iter,ifs,0⟩] scope pos) spos) (XZ (fe wi own fr g tt te)<|yn i):=by
 have d : ∃b:Bool,p4 (.ListComp elt [⟨tg,iter,ifs,0⟩] scope pos) (cI (.Name y py)) spos.line X.env=pure b:=⟨_,rfl⟩;obtain⟨b,d⟩:=d;cases b with
 | false=>
  have B:ML [.Name y py] (.ListComp elt [⟨tg,iter,ifs,0⟩] scope pos) spos.line X.env=p4 (.ListComp elt [⟨tg,iter,ifs,0⟩] scope pos) (cI (.Name y py)) spos.line X.env:=rfl;exact Xj (Kk hc ok hi hg ht he hs) (gu z O Y hf) (by rw[B];exact d)
 | true=>
  intro f s U H D I h;rw[exec_Assign_Name_used _ _ _ _ d];refine Oc<|wpAny_standAt<|Oc ?_;show wpAny _ X.A (do let _ <- comprehension (.ListComp elt [⟨tg,iter,ifs,0⟩] scope pos) scope X.env _ (newList []) dd (d3 iter X.env) (cI (vr (.Name y py) X.env))) _ _ s;refine Oc<|ed (bB (R:=λ_ j=>SP X f D .next j) (use:=cI (vr (.Name y py) X.env)) hc ok hi hg ht he I h (λk S j L n q F Q=>?_) hs) λ_ j q=>Oi<|Oi q;obtain⟨K,l,M,y4,P⟩:=Q;obtain⟨m,E⟩:=F;show wpAny _ _ (vr (.Name y py) X.env<|.ref k) _ _ _;refine N?<|Yf n z O Y (v:= .ref k) rfl (λp r t=>?_) hf;obtain⟨a,G,C⟩:=t;have u:L≠a:=by
   rcases C with e | e
   ·rw[e];exact l
   ·exact PH<|y4 _ _ e
  refine⟨m,E.sameBut G u,λT w=>⟨_,_,r.turned (t':=p.toks) (it:=L) (λb o d e=>w.extBut b o d e) K l (.inr M) y4 P,q⟩⟩
end
inductive Sk where
 | L | T
 deriving DecidableEq
end L2
namespace DL
open PySem L2
inductive D where
 | eg | bl (b:Bool) | int (i:Int) | str (x:Str) | tup (xs:List D) | lst (xs:List D)
 | lp (ks vs:List D)
 | hM (ks:List (List Int)) (vs:List D)
inductive Cell where
 | no | val (d:D) | own (ds:List D) | nest (rows:List (List D))
abbrev Ctx:=List Cell
abbrev CO (a : Type) := Ctx -> Option a
noncomputable def lim:Nat:=2500
noncomputable def jo:D->Option (Sk×List D)
 | .tup a=>cI (.T,a)
 | .lst a=>cI (.L,a)
 | _=>cR
noncomputable def zL(f:CO D)(γ:Ctx):Option (Sk×List D):=(f γ).bind jo
noncomputable def xh(f:CO (List D))(γ:Ctx):Option D:=(f γ).map D.lst
noncomputable def jR(f:CO (List D))(γ:Ctx):Option (Sk×List D):=(f γ).map λa=>(Sk.L,a)
noncomputable def lA:Option Cell->Option D
 | some (.val d)=>cI d
 | _=>cR
noncomputable def Zh:Option Cell->Option (Sk×List D)
 | some (.val d)=>jo d
 | some (.own ds)=>cI (.L,ds)
 | _=>cR
noncomputable def ze(i:Nat)(γ:Ctx):Option D:=lA γ[i]?
noncomputable def zq(i:Nat)(γ:Ctx):Option (Sk×List D):=Zh γ[i]?
noncomputable def zx(d:D):CO D:=λ_=>cI d
noncomputable def zw(F:D->D->Option D)(I J:CO D)(γ:Ctx):Option D:=(I γ).bind λx=>(J γ).bind λy=>F x y
noncomputable def p8:D->Option Bool
 | .bl b=>cI b
 | _=>cR
noncomputable def js:D->Option Int
 | .int i=>cI i
 | _=>cR
noncomputable def sB(f:CO D)(γ:Ctx):Option Bool:=(f γ).bind p8
noncomputable def xi(f g:CO Bool)(γ:Ctx):Option Bool:=(f γ).bind λb=>if b=cL then g γ else cI dd
noncomputable def uq(f g:CO Bool)(γ:Ctx):Option Bool:=(f γ).bind λb=>if b=cL then cI cL else g γ
noncomputable def kW(f:CO Bool)(γ:Ctx):Option Bool:=(f γ).map λb=> !b
noncomputable def Gz(f g:CO D)(γ:Ctx):Option D:=((f γ).bind p8).bind λb=>if b=cL then g γ else cI (.bl dd)
noncomputable def Fc(f g:CO D)(γ:Ctx):Option D:=((f γ).bind p8).bind λb=>if b=cL then cI (.bl cL)else g γ
noncomputable def HV(f:CO D)(γ:Ctx):Option D:=((f γ).bind p8).map λb=> .bl (!b)
noncomputable def VE(c:CO Bool)(f g:CO D)(γ:Ctx):Option D:=(c γ).bind λb=>if b=cL then f γ else g γ
noncomputable def zC:CO (List D):=λ_=>cI []
noncomputable def zc(f:CO D)(g:CO (List D))(γ:Ctx):Option (List D):=(f γ).bind λx=>(g γ).map λr=>x::r
noncomputable def qe(f:CO (List D))(γ:Ctx):Option D:=(f γ).bind λa=>if a.length<=lim then cI (.tup a)else cR
noncomputable def ye(f:CO (List D))(γ:Ctx):Option (List D):=(f γ).bind λa=>if a.length<=lim then cI a else cR
inductive Res where
 | val (d:D) | own (ds:List D)
inductive Fl where
 | next (γ:Ctx) | brk (γ:Ctx) | cont (γ:Ctx) | ret (r:Res)
noncomputable def kE(γ:Ctx):Option Fl:=cI (.next γ)
noncomputable def zS(F G:CO Fl):CO Fl:=λb=>(F b).bind λz=>match z with
 | .next a=>G a
 | f=>cI f
noncomputable def xM(f:CO D)(γ:Ctx):Option Fl:=(f γ).map λd=> .ret (.val d)
noncomputable def Ja(f:CO (List D))(γ:Ctx):Option Fl:=(f γ).map λd=> .ret (.own d)
noncomputable def Wm:Option Cell->Option Fl
 | some (.val d)=>cI (.ret<|.val d)
 | some (.own ds)=>cI (.ret<|.own ds)
 | _=>cR
noncomputable def Zt(i:Nat)(γ:Ctx):Option Fl:=Wm γ[i]?
noncomputable def NR(γ:Ctx):Option Fl:=cI (.brk γ)
noncomputable def uv(γ:Ctx):Option Fl:=cI (.cont γ)
noncomputable def Zj:CO Fl:=λ_=>cR
noncomputable def jb(k:CO Bool)(F G:CO Fl)(γ:Ctx):Option Fl:=(k γ).bind λb=>if b=cL then F γ else G γ
noncomputable def jE(i:Nat)(f:CO D)(γ:Ctx):Option Fl:=(f γ).map λd=> .next (γ.set i<|.val d)
noncomputable def kU(i:Nat)(f:CO (List D))(γ:Ctx):Option Fl:=(f γ).map λa=> .next (γ.set i<|.own a)
noncomputable def nB(f:CO D)(γ:Ctx):Option Fl:=(f γ).map λ_=> .next γ
noncomputable def qI:Option Cell->Option (List D)
 | some (.own ds)=>cI ds
 | _=>cR
noncomputable def jS(i:Nat)(f:CO D)(γ:Ctx):Option Fl:=(qI γ[i]?).bind λa=>(f γ).bind λd=>if a.length<lim then cI (.next<|γ.set i<|.own<|a++[d])else cR
noncomputable def jx(n:Nat)(I:List D):Ctx:=I.map Cell.val++gx (n - I.length) Cell.no
noncomputable def jn(n:Nat)(F:CO Fl)(ds:List D):Option Res:=(F<|jx n ds).bind λz=>match z with
 | .ret r=>cI r
 | .next _=>cI (.val .eg)
 | _=>cR
noncomputable def Cz:Res->D
 | .val d=>d
 | .own a=> .lst a
noncomputable def zJ(F:List D->Option Res)(g:CO (List D))(γ:Ctx):Option D:=(g γ).bind λa=>(F a).map Cz
noncomputable def GA:Res->Option (List D)
 | .own a=>cI a
 | _=>cR
noncomputable def jU(F:List D->Option Res)(g:CO (List D))(γ:Ctx):Option (List D):=(g γ).bind λa=>(F a).bind GA
noncomputable def yK(lo:Int)(n:Nat):List D:=(Od n).map λ(i:Nat)=>D.int<|lo+(i:Int)
noncomputable def K4(I J:List D):List D:=(I.zip J).map λp=>D.tup [p.1,p.2]
noncomputable def zO(f:CO (Sk×List D))(γ:Ctx):Option (List D):=(f γ).map (·.2)
noncomputable def inR(i:Int):Bool:=decide<|i.natAbs<2 ^ 62
noncomputable def jI(f:CO D)(γ:Ctx):Option (List D):=((f γ).bind js).bind λn=>if inR n=cL then cI (yK 0 n.toNat)else cR
noncomputable def X5(f g:CO D)(γ:Ctx):Option (List D):=((f γ).bind js).bind λm=>((g γ).bind js).bind λn=>if inR m=cL/\inR n=cL then cI (yK m (n - m).toNat)else cR
noncomputable def rO(f g:CO D)(γ:Ctx):Option (List D):=((f γ).bind jo).bind λm=>((g γ).bind jo).map λn=>K4 m.2 n.2
inductive Tg where
 | nm (i:Nat) | tp (is:List Nat)
noncomputable def qF:List Nat->List D->Ctx->Ctx
 | i::is,d::ds,γ=>qF is ds<|γ.set i<|.val d
 | _,_,γ=>γ
noncomputable def qz:Tg->D->CO Ctx
 | .nm i,d,γ=>cI (γ.set i<|.val d)
 | .tp is,.tup ds,γ=>if ds.length=is.length then cI (qF is ds γ)else cR
 | _,_,_=>cR
noncomputable def qU(T:Tg)(F:CO Fl):List D->CO Fl
 | [],a=>cI (.next a)
 | d::e,a=>(qz T d a).bind λb=>(F b).bind λI=>match I with
  | .next z=>qU T F e z
  | .cont z=>qU T F e z
  | .brk z=>cI (.next z)
  | .ret r=>cI (.ret r)
noncomputable def Jb(I:CO (List D))(T:Tg)(F:CO Fl)(γ:Ctx):Option Fl:=(I γ).bind λa=>qU T F a γ
noncomputable def xm:Cell->Cell
 | .own _=> .no
 | .nest _=> .no
 | c=>c
noncomputable def jL(n:Nat)(fr:List Nat)(γ:Ctx):Ctx:=gx n Cell.no++fr.map λj=>xm<|γ[j]?.getD .no
noncomputable def jh(T:Tg)(k:CO Bool)(f:CO D)(γ:Ctx):List D->Option (List D)
 | []=>cI []
 | d::ds=>(qz T d γ).bind λa=>(k a).bind λb=>if b=cL then (f a).bind λe=>(jh T k f γ ds).map λr=>e::r else jh T k f γ ds
noncomputable def zR(I:CO (List D))(T:Tg)(n:Nat)(fr:List Nat)(k:CO Bool)(f:CO D)(γ:Ctx):Option (List D):=(I γ).bind λa=>if a.length<=lim then jh T k f (jL n fr γ) a else cR
noncomputable def jO:CO Bool:=λ_=>cI cL
noncomputable def Tg.idx:Tg->List Nat
 | .nm i=>[i]
 | .tp is=>is
noncomputable def dI(g:Int->Int->D):D->D->Option D
 | .int i,.int j=>cI (g i j)
 | _,_=>cR
noncomputable def E3(c:Int->Int->Bool)(g:Int->Int->D):D->D->Option D
 | .int i,.int j=>if c i j=cL then cI (g i j)else cR
 | _,_=>cR
noncomputable def vg:D->D->Option D:=dI λi j=> .int (i - j)
noncomputable def QM(i j:Int):Bool:=decide (i.natAbs<2 ^ 64) || decide (j.natAbs<2 ^ 64)
noncomputable def rf(_ j:Int):Bool:=decide (0<j) && decide (j.natAbs<1073741824)
noncomputable def K1:D->D->Option D:=E3 rf λi j=> .int (i/j)
noncomputable def mq(_ j:Int):Bool:=decide<|0<j
noncomputable def kj:D->D->Option D:=E3 mq λi j=> .int (i%j)
noncomputable def FS(i j:Int):Bool:=decide (0<=j) && decide (j.natAbs<=1000000) && decide (i.natAbs<2 ^ 64)
noncomputable def Bf:D->D->Option D:=E3 FS λi j=> .int (i ^ j.toNat)
noncomputable def sx:D->D->Option D:=dI λi j=> .bl (decide<|i<j)
noncomputable def rk:D->D->Option D:=dI λi j=> .bl (decide<|i<=j)
noncomputable def p3:D->D->Option D:=dI λi j=> .bl (decide<|j<i)
noncomputable def E':D->D->Option D:=dI λi j=> .bl (decide<|j<=i)
noncomputable def qg:D->D->Option D
 | .int i,.int j=>cI (.int<|i+j)
 | .tup xs,.tup ys=>if xs.length+ys.length<=lim then cI (.tup<|xs++ys)else cR
 | _,_=>cR
noncomputable def ya:D->D->Option D
 | .int i,.int j=>if QM i j=cL then cI (.int<|i*j)else cR
 | .tup xs,.int j=>if xs.length*j.toNat<=lim/\inR j=cL then cI (.tup (gx j.toNat xs).flatten)else cR
 | _,_=>cR
noncomputable def fK(f g:CO (Sk×List D))(γ:Ctx):Option (List D):=(f γ).bind λa=>(g γ).bind λb=>
 match a.1,b.1 with
 | .L,.L=>if a.2.length+b.2.length<=lim then cI (a.2++b.2)else cR
 | _,_=>cR
noncomputable def HU(f:CO (Sk×List D))(g:CO D)(γ:Ctx):Option (List D):=(f γ).bind λa=>((g γ).bind js).bind λj=>
 match a.1 with
 | .L=>if a.2.length*j.toNat<=lim/\inR j=cL then cI (gx j.toNat a.2).flatten else cR
 | _=>cR
noncomputable def l5(n:Nat)(i:Int):Option Nat:=if 0<=i/\i<n then cI i.toNat else if i<0/\0<=i+n then cI (i+n).toNat else cR
noncomputable def dr(f:CO (Sk×List D))(g:CO D)(γ:Ctx):Option D:=(f γ).bind λa=>((g γ).bind js).bind λi=>(l5 a.2.length i).bind λk=>a.2[k]?
noncomputable def LY(i:Nat)(g f:CO D)(γ:Ctx):Option Fl:=(f γ).bind λd=>(qI γ[i]?).bind λa=>((g γ).bind js).bind λk=>(l5 a.length k).map λj=> .next (γ.set i<|.own<|a.set j d)
noncomputable def QL(n dflt:Nat):Option Int->Nat
 | none=>dflt
 | some i=>if i<0 then (i+n).toNat else min i.toNat n
noncomputable def Zy(xs:List D)(lo I:Option Int):List D:=(xs.drop<|QL xs.length 0 lo).take (QL xs.length xs.length I - QL xs.length 0 lo)
noncomputable def W1:CO (Option Int):=λ_=>cI cR
noncomputable def o6(f:CO D)(γ:Ctx):Option (Option Int):=((f γ).bind js).map cI
noncomputable def VC(f:CO D)(l h:CO (Option Int))(γ:Ctx):Option D:=(f γ).bind λd=>(l γ).bind λlo=>(h γ).bind λa=>match d with
 | .tup b=>cI (.tup<|Zy b lo a)
 | _=>cR
noncomputable def wG(f:CO (Sk×List D))(γ:Ctx):Option D:=(f γ).map λa=> .int a.2.length
inductive Ty where
 | int | bool | str | tuple | list
 deriving DecidableEq
@[simp] noncomputable def sF:D->Bool
 | .int _=>cL
 | .bl _=>cL
 | _=>dd
@[simp] noncomputable def Fs:D->Bool
 | .bl _=>cL
 | _=>dd
@[simp] noncomputable def sA:D->Bool
 | .str _=>cL
 | _=>dd
@[simp] noncomputable def sy:D->Bool
 | .tup _=>cL
 | _=>dd
@[simp] noncomputable def sD:D->Bool
 | .lst _=>cL
 | _=>dd
noncomputable def BK:Ty->D->Bool
 | .int=>sF
 | .bool=>Fs
 | .str=>sA
 | .tuple=>sy
 | .list=>sD
noncomputable def DN(T:Ty)(f:CO D)(γ:Ctx):Option D:=(f γ).map λd=> .bl (BK T d)
noncomputable def II:Ty->Sk->Bool
 | .tuple,.T=>cL
 | .list,.L=>cL
 | _,_=>dd
noncomputable def NP(T:Ty)(f:CO (Sk×List D))(γ:Ctx):Option D:=(f γ).map λa=> .bl (II T a.1)
@[simp] noncomputable def _Z:D->Bool
 | .eg=>cL
 | _=>dd
@[simp] noncomputable def eqB(a:Bool):D->Bool
 | .bl b=>a==b
 | .int b=>(if a then 1 else 0)==b
 | _=>dd
@[simp] noncomputable def F_(a:Int):D->Bool
 | .bl b=>a==(if b then 1 else 0)
 | .int b=>a==b
 | _=>dd
@[simp] noncomputable def b?(a:Str):D->Bool
 | .str b=>a==b
 | _=>dd
@[simp] noncomputable def eqX(a:Str)(i:Option Int):D->Bool
 | _=>dd
mutual
noncomputable def hH:D->D->Bool
 | .eg,y=>_Z y
 | .bl a,y=>eqB a y
 | .int a,y=>F_ a y
 | .str a,y=>b? a y
 | .tup xs,y=>match y with
  | .tup e=>s8 xs e
  | _=>dd
 | .lst xs,y=>match y with
  | .lst e=>s8 xs e
  | _=>dd
 | .lp a b,y=>match y with
  | .lp c d=>s8 a c && s8 b d
  | _=>dd
 | .hM a b,y=>match y with
  | .hM c d=>a==c && s8 b d
  | _=>dd
noncomputable def s8:List D->List D->Bool
 | [],[]=>cL
 | x::xs,y::ys=>hH x y && s8 xs ys
 | _,_=>dd
end
mutual
noncomputable def deep:D->Nat
 | .tup a=>B0 a+1
 | .lst a=>B0 a+1
 | _=>0
noncomputable def B0:List D->Nat
 | []=>0
 | x::xs=>max (deep x)<|B0 xs
end
mutual
noncomputable def mu:D->Bool
 | .str x=>x.cps.all (· < 0x110000)
 | .lp _ _=>dd
 | .hM _ _=>dd
 | .tup a=>i9 a
 | .lst a=>i9 a
 | _=>cL
noncomputable def i9:List D->Bool
 | []=>cL
 | x::xs=>mu x && i9 xs
end
noncomputable def iv(d:D):Bool:=decide (deep d<=20) && mu d
noncomputable def ft(x y:D):Option D:=if iv x=cL/\iv y=cL then cI (.bl<|hH x y)else cR
noncomputable def i6(x y:D):Option D:=if iv x=cL/\iv y=cL then cI (.bl<|!hH x y)else cR
noncomputable def jd(f:CO (Sk×List D))(γ:Ctx):Option D:=(f γ).map λa=> .tup a.2
noncomputable def HW(f:CO (Sk×List D))(γ:Ctx):Option (List D):=(f γ).map λa=>a.2
noncomputable def cp:List D->Option Int
 | []=>cI 0
 | .int i::r=>(cp r).map λs=>i+s
 | _::_=>cR
noncomputable def BG(f:CO (Sk×List D))(γ:Ctx):Option D:=(f γ).bind λa=>(cp a.2).map D.int
noncomputable def Gx:D->Option Bool
 | .eg=>cI dd
 | .bl b=>cI b
 | .int i=>cI (i != 0)
 | _=>cR
noncomputable def XY:List D->Option (List Bool)
 | []=>cI []
 | d::r=>(Gx d).bind λb=>(XY r).map λs=>b::s
noncomputable def fM(f:CO (Sk×List D))(γ:Ctx):Option D:=(f γ).bind λa=>(XY a.2).map λs=> .bl (s.all id)
noncomputable def Ib(f:CO (Sk×List D))(γ:Ctx):Option D:=(f γ).bind λa=>(XY a.2).map λs=> .bl (s.any id)
noncomputable def ur(f:CO D)(γ:Ctx):Option D:=(f γ).bind λd=>match d with
 | .int i=>cI (.int i)
 | .bl b=>cI (.int<|if b then 1 else 0)
 | _=>cR
noncomputable def Nh(f g:CO D)(γ:Ctx):Option D:=((f γ).bind js).bind λi=>((g γ).bind js).map λj=> .int (if j>i then j else i)
noncomputable def ny(f:CO (Sk×List D))(γ:Ctx):Option Bool:=(f γ).map λa=> !a.2.isEmpty
noncomputable def vn(F G:D->D->Option D)(I J L:CO D):CO D:=λa=>(I a).bind λx=>(J a).bind λy=>((F x y).bind p8).bind λb=>if b=cL then (L a).bind λz=>G y z else cI (.bl dd)
noncomputable def uo(T:Tg)(f:CO D)(γ:Ctx):Option Fl:=(f γ).bind λd=>(qz T d γ).map .next
noncomputable def Ny:D->Option Int
 | .tup (.int k::_)=>cI k
 | _=>cR
noncomputable def Ff:List D->Option (List Int)
 | []=>cI []
 | d::r=>(Ny d).bind λk=>(Ff r).map λl=>k::l
noncomputable def Mt:List Int->Bool
 | a::b::r=>decide (a<b) && Mt (b::r)
 | _=>cL
noncomputable def Nt(ks:List Int):Nat:=(ks.dropLast.filter λk=>decide<|k<ks.getLast?.getD 0).length
noncomputable def Nz(q:Nat)(I:List D):List D:=I.dropLast.take q++(I.drop (I.length - 1)++I.dropLast.drop q)
noncomputable def HR(I:List D):Option (List D):=(Ff I).bind λa=>if (1<=I.length/\I.length<=8)/\Mt a.dropLast=cL/\decide (a.getLast?.getD 0∈a.dropLast)=dd then cI (Nz (Nt a) I)else cR
noncomputable def HS(f:CO (Sk×List D))(γ:Ctx):Option (List D):=(f γ).bind λa=>match a.1 with
 | .L=>HR a.2
 | _=>cR
noncomputable def IU:D->Bool
 | .tup _=>dd
 | .lst _=>dd
 | .lp _ _=>dd
 | .hM _ _=>dd
 | _=>cL
end DL
namespace L2
open PySem PySem.Spec PyProof.Rows
noncomputable def kr(k:Sk)(h:ew)(i l:di)(n:Nat):Prop:=match k with
 | .L=>h.IsListIter i l n
 | .T=>h.IsTupleIter i l n
noncomputable def n4(k:Sk)(h:ew)(l:di)(xs:Array dq):Prop:=match k with
 | .L=>h.IsList l xs
 | .T=>h.IsTuple l xs
noncomputable def m3(k:Sk)(l:di):i5:=match k with
 | .L=>{cls:= .type "list_iterator",data:= .fields #[.ref l,.int 0 0]}
 | .T=>{cls:= .type "tuple_iterator",data:= .fields #[.ref l,.int 0 0]}
theorem kr.at(x:kr k h i l n)(e : ∀o,h.get? i=cI o->h'.get? i=cI o):kr k h' i l n:=by cases k<;>exact let ⟨o,z,r⟩:=x;⟨o,e _ z,r⟩
theorem n4.at(x:n4 k h l xs)(e : ∀o,h.get? l=cI o->h'.get? l=cI o):n4 k h' l xs:=by cases k<;>exact let ⟨o,z,r⟩:=x;⟨o,e _ z,r⟩
theorem kr.obj(x:kr k h i l n) : ∃o,h.get? i=cI o/\∀v,o.data ≠ .cell v:=by cases k<;>exact let ⟨o,I,_,d⟩:=x;⟨o,I,λv z=>by rw[d]at z;cases z⟩
theorem n4.lt(x:n4 k h l xs):l<h.objs.size:=by cases k<;>exact let ⟨o,z,_⟩:=x;OD z
theorem Xv(k:Sk)(h:ew)(l:di):kr k (h.push<|m3 k l) h.objs.size l 0:=by cases k<;>exact⟨_,Oz _ rfl,rfl,rfl⟩
section
variable{prog:gB}{w:fm}{A:i8}{E:EQ}{s:d8}
theorem YY(z:n4 k s.heap l xs)(I:Q (.ref s.heap.objs.size) {s with heap:=s.heap.push (m3 k l)}):wpAny (d5 prog w) A (E9<|.ref l) Q E s:=by
 cases k
 ·exact _i z I
 ·exact Uu z I
theorem vW(O:kr k s.heap it l i)(Y:n4 k s.heap l items)(hx:items[i]? = cI x)
 (J : ∀h',kr k h' it l (i+1)->RE it s.heap h'->Q x {s with heap:=h'}):wpAny (d5 prog w) A (Pf<|.ref it) Q E s:=by
 cases k with
 | L=>exact wpAny_nextOf_list_item O Y hx J
 | T=>
  have I:s.heap.IsTupleIter it l i:=O;obtain⟨o,z,e,a⟩:=id I;obtain⟨g,b,_,f,d⟩:=(show s.heap.IsTuple l items from Y);unfold Pf;refine Oc (Po (name:=Px "__next__") I.typeIs Ul (p5 Ul I.typeIs _Y ?_ (_Q _)));refine Oc (m:=field (.ref it) 0) (PZ z a (x:= .ref l) rfl ?_);show wpAny _ _ (if (OR l==Ph)=cL then _ else _) _ _ s;rw[DJ (show ¬((OR l==Ph)=cL)from Oy)];refine Oc (m:=field (.ref it) 1) (PZ z a (x:= .int i 0) rfl ?_);refine Oc (m:=TB (.ref l)) (RO b d ?_);simp only[Pq,hx];refine Oc (TQ z a ⋯ (Oi ⟨x,rfl,Oi (J _ ?_ (So ..))⟩));show Heap.IsTupleIter _ it l (i+1);exact⟨_,SK _ z (TK (Sm a _)),(Us ..).trans e,by rw[Sm a];simp[o5]⟩
theorem Kn(z:A.handled=cR)(Y:kr k s.heap it l i)(J:n4 k s.heap l items)(hx:items[i]? = cR)
 (hE : ∀h' e,Heap.ExtBut it s.heap h'->(∃o,h'.get? e=cI o/\o.cls = .type "StopIteration")->E (.ref e) {s with heap:=h'}):wpAny (d5 prog w) A (Pf (.ref it)) Q E s:=by
 cases k with
 | L=>exact wpAny_nextOf_list_end z Y J hx hE
 | T=>
  have I:s.heap.IsTupleIter it l i:=Y;obtain⟨o,O,g,b⟩:=id I;obtain⟨j,d,_,h,f⟩:=(show s.heap.IsTuple l items from J);unfold Pf;refine Oc (Po (name:=Px "__next__") I.typeIs Ul (p5 Ul I.typeIs _Y ?_ (_Q _)));refine Oc (m:=field (.ref it) 0) (PZ O b (x:= .ref l) rfl ?_);show wpAny _ _ (if (OR l==Ph)=cL then _ else _) _ _ s;rw[DJ (show ¬((OR l==Ph)=cL)from Oy)];refine Oc (m:=field (.ref it) 1) (PZ O b (x:= .int i 0) rfl ?_);refine Oc (m:=TB (.ref l)) (RO d f ?_);simp only[Pq,hx];refine Oc (UD (Oc (TQ O b ⋯ ?_)));refine Oc (m:=E7 (.type "StopIteration") []) ?_;simp only[E7,ME];refine Oc (Pg ?_ (by size_fits));refine Oc (m:=DC _ _) (Uk (a:=Ph) (by first | rfl | (simp only[DC];rfl)) ?_);refine Pg ?_ (by size_fits);simp only[raiseNew];refine Oc (_d ?_)
  first | rw[show A.in1.handled=cR from z] | rw[z]
  exact Oc<|Oi<|wpAny_throw<|hE _ _ (((So ..).extBut.push _).push _) ⟨_,Oz _ rfl,rfl⟩
theorem eh{k1 k2:Sk}{z TI TO O Y J L:di}{n1 n2:Nat}{xs ys:Array dq}{x y a b:dq}{Q:EQ}(D:Oa z TI TO O Y J L)
 (hz:vl s.heap z TI TO .none) (bi:nj s.heap TI (.ref O) (.ref Y)) (bl:nj s.heap TO a b)
 (h1:kr k1 s.heap O J n1) (h2:kr k2 s.heap Y L n2) (bm:n4 k1 s.heap J xs) (bn:n4 k2 s.heap L ys) (hx:xs[n1]? = cI x) (hy:ys[n2]? = cI y)
 (hQ : ∀h',vl h' z TI TO (o5 s.heap.objs.size)->nj h' TO x y->kr k1 h' O J (n1+1)->kr k2 h' Y L (n2+1)->nj h' s.heap.objs.size x y->h'.objs.size=s.heap.objs.size+1->
   (∀c o,c≠z->c≠TO->c≠O->c≠Y->s.heap.get? c=cI o->h'.get? c=cI o)->Q (.ref s.heap.objs.size) {s with heap:=h'}) :
 wpAny (d5 prog w) A (n9.«zip.__next__» ⟨[.ref z],[]⟩) (λc0 s'=>∃v,c0 = .done (.ret v)/\Q v s') E s:=by
 refine Oc (m:=field (.ref z) 2)<|PZ hz rfl (x:= .bool dd) rfl ?_;refine Oc (m:=field (.ref z) 3)<|PZ hz rfl (x:= .ref TI) rfl ?_;refine Oc<|RO bi rfl ?_;refine Oc (m:=PN<|.ref z) ?_;unfold PN;refine Oc<|PZ hz rfl (x:= .none) rfl<|Oi ?_;simp only[if_true];refine Oc<|UD<|Oc<|PZ hz rfl (x:= .ref TO) rfl ?_;refine Oc<|Rt hz ⋯ λg1 u d=>?_;replace u:vl g1 z TI TO .ellipsis:=u;refine Oc ?_;simp only[List.zipIdx_cons,List.zipIdx_nil,List.forIn_cons,List.forIn_nil];refine Oc<|Oc<|l_ ?_;refine Oc (m:=Pf<|.ref O)<|vW (h1.at λo e=>d.extBut _ _ D.i1z e) (bm.at λo e=>d.extBut _ _ D.l1z e) hx λg2 T g=>Oi ?_;have K:nj g2 TO a b:=g.extBut _ _ D.TOi1<|d.extBut _ _ D.TOz bl;refine Oc<|RO K rfl<|Oc<|_o K λg3 B h=>?_;replace B:nj g3 TO x b:=B;refine Oc<|wpAny_letGo<|Oi<|Oc<|Oc<|l_ ?_;refine Oc (m:=Pf<|.ref Y)<|vW (h2.at λo e=>h.extBut _ _ D.TOi2.symm<|g.extBut _ _ D.i12.symm<|d.extBut _ _ D.i2z e) (bn.at λo e=>h.extBut _ _ D.l2TO<|g.extBut _ _ D.l2i1<|d.extBut _ _ D.l2z e) hy λg4 U i=>Oi ?_;have M:nj g4 TO x b:=i.extBut _ _ D.TOi2 B;refine Oc<|RO M rfl<|Oc<|_o M λI n j=>?_;replace n:nj I TO x y:=n;refine Oc<|wpAny_letGo<|Oi<|Oi<|Oc<|RO n rfl<|Oc<|wpAny_newTuple ?_;have l:I.objs.size=s.heap.objs.size:=by rw[j.1,i.1,h.1,g.1,d.1]
 have N:vl I z TI TO .ellipsis:=j.extBut _ _ D.TOz.symm (i.extBut _ _ D.i2z.symm (h.extBut _ _ D.TOz.symm (g.extBut _ _ D.i1z.symm u)));have cd : ∀c o,c≠z->c≠TO->c≠O->c≠Y->s.heap.get? c=cI o->I.get? c=cI o:=λc o f r G H e=>j.extBut _ _ r (i.extBut _ _ H (h.extBut _ _ r (g.extBut _ _ G (d.extBut _ _ f e))));have W:kr k1 I O J (n1+1):=T.at λo e=>j.extBut _ _ D.TOi1.symm (i.extBut _ _ D.i12 (h.extBut _ _ D.TOi1.symm e));have X:kr k2 I Y L (n2+1):=U.at λo e=>j.extBut _ _ D.TOi2.symm e;have P:z<I.objs.size:=OD N;refine Oc (m:=RI (.ref z) (.ref I.objs.size)) ?_;unfold RI;have Z:vl (I.push {cls:= .type "tuple",data:= .seq #[x,y]}) z TI TO .ellipsis:=Of _ N;refine Oc (Rt Z ⋯ λg7 C as=>?_);replace C:vl g7 z TI TO (o5 I.objs.size):=C;refine Rt C ⋯ λk p F=>?_;replace p:vl k z TI TO (o5 I.objs.size):=p;have t : ∀c o,c≠z->I.get? c=cI o->k.get? c=cI o:=λc o f e=>F.extBut _ _ f (as.extBut _ _ f (Of _ e));have R:nj k I.objs.size x y:=F.extBut _ _ (RM P) (as.extBut _ _ (RM P) (Oz _ rfl));have S:k.objs.size=I.objs.size+1:=by rw[F.1,as.1,nr]
 rw[l]at p R S;refine Oi ⟨_,rfl,?_⟩;show Q (.ref I.objs.size) _;rw[l];exact hQ k p (t _ _ D.TOz n) (W.at λo e=>t _ o D.i1z e) (X.at λo e=>t _ o D.i2z e) R S λc o f r G H e=>t c o f<|cd c o f r G H e
theorem mC{k1 k2:Sk}{z TI TO Y J L l2:di}{n1 n2:Nat}{xs ys:Array dq}{a b:dq}{Q:Fin->d8->Prop}(hh:A.handled=cR)(D:Oa z TI TO Y J L l2)
 (hz:vl s.heap z TI TO .none) (b0:nj s.heap TI (.ref Y) (.ref J)) (b9:nj s.heap TO a b)
 (h1:kr k1 s.heap Y L n1) (h2:kr k2 s.heap J l2 n2) (am:n4 k1 s.heap L xs) (bb:n4 k2 s.heap l2 ys) (bd:xs[n1]? = cR\/ys[n2]? = cR)
 (hE : ∀h' e,(∀c o,c≠z->c≠TO->c≠Y->c≠J->s.heap.get? c=cI o->h'.get? c=cI o)->(∃o,h'.get? e=cI o/\o.cls = .type "StopIteration")->E (.ref e) {s with heap:=h'}) :
 wpAny (d5 prog w) A (n9.«zip.__next__» ⟨[.ref z],[]⟩) Q E s:=by
 refine Oc (m:=field (.ref z) 2) (PZ hz rfl (x:= .bool dd) rfl ?_);refine Oc (m:=field (.ref z) 3) (PZ hz rfl (x:= .ref TI) rfl ?_);refine Oc (RO b0 rfl ?_);refine Oc (m:=PN (.ref z)) ?_;unfold PN;refine Oc (PZ hz rfl (x:= .none) rfl (Oi ?_));simp only[if_true];refine Oc (UD (Oc (PZ hz rfl (x:= .ref TO) rfl ?_)));refine Oc (Rt hz ⋯ λg1 n I=>?_);replace n:vl g1 z TI TO .ellipsis:=n;refine Oc ?_;simp only[List.zipIdx_cons,List.zipIdx_nil,List.forIn_cons,List.forIn_nil];refine Oc (Oc (l_ ?_));have u : ∀{g e:_} {k:i5},vl g z TI TO .ellipsis->(∀c o,c≠z->c≠TO->c≠Y->c≠J->s.heap.get? c=cI o->g.get? c=cI o)->g.get? e=cI k->k.cls = .type "StopIteration"->
  wpAny (d5 prog w) A (FI (.ref z) 0 .none) (λ_ G=>E (.ref e) G) E {s with heap:=g}:=λ{g e k} y hk d i=>by
  have C:e≠z:=λq=>by subst q;rw[y]at d;cases d;simp at i
  exact Rt y ⋯ λg3 _ f=>hE g3 e (λc o j p l r q=>f.extBut _ _ j<|hk c o j p l r q) ⟨k,f.extBut _ _ C d,i⟩
 cases hx:xs[n1]? with
 | none=>
  refine Oc (m:=Pf<|.ref Y)<|Kn hh (h1.at λo e=>I.extBut _ _ D.i1z e) (am.at λo e=>I.extBut _ _ D.l1z e) hx λg2 e O t=>?_;obtain⟨k,d,i⟩:=t;exact u (O _ _ D.i1z.symm n) (λc o j _ l _ q=>O _ _ l<|I.extBut _ _ j q) d i
 | some x=>
  have F:ys[n2]? = cR:=by rcases bd with h | h;rw[hx]at h;cases h;exact h
  refine Oc (m:=Pf<|.ref Y)<|vW (h1.at λo e=>I.extBut _ _ D.i1z e) (am.at λo e=>I.extBut _ _ D.l1z e) hx λg2 H O=>Oi ?_;have as:nj g2 TO a b:=O.extBut _ _ D.TOi1<|I.extBut _ _ D.TOz b9;refine Oc<|RO as rfl<|Oc<|_o as λg3 K f=>?_;refine Oc<|wpAny_letGo<|Oi<|Oc<|Oc<|l_ ?_;refine Oc (m:=Pf<|.ref J)<|Kn hh (h2.at λo e=>f.extBut _ _ D.TOi2.symm<|O.extBut _ _ D.i12.symm<|I.extBut _ _ D.i2z e) (bb.at λo e=>f.extBut _ _ D.l2TO<|O.extBut _ _ D.l2i1<|I.extBut _ _ D.l2z e) F λM e B t=>?_;obtain⟨k,d,i⟩:=t;exact u (B _ _ D.i2z.symm<|f.extBut _ _ D.TOz.symm<|O.extBut _ _ D.i1z.symm n) (λc o j p l r q=>B _ _ r<|f.extBut _ _ p<|O.extBut _ _ l<|I.extBut _ _ j q) d i
end
noncomputable def wQ(a b:dq):i5:={cls:= .type "tuple",data:= .seq #[a,b]}
noncomputable def Hq(TI TO:di):i5:={cls:= .type "zip",data:= .fields #[.none,.bool dd,.bool dd,.ref TI,.ref TO]}
noncomputable def J7(z I:Sk)(h:ew)(O J:di):ew:=
 PX (PX (PX (PX (PX h<|m3 z O)<|m3 I J)<|wQ (.ref h.objs.size)<|.ref<|h.objs.size+1)<|wQ .none .none) (Hq (h.objs.size+2)<|h.objs.size+3)
theorem mB(I O:Sk)(z J:di)(xs ys:Array dq) :
 D2 (n9.«zip.__new__» ⟨[.type "zip",.ref z,.ref J],[]⟩) (λ_ R s=>n4 I s.heap z xs/\n4 O s.heap J ys/\
  R (.ok<|.ret<|.ref<|s.heap.objs.size+4) {s with heap:=J7 I O s.heap z J}):=
 .of_wp λa w A R s h=>by
  obtain⟨Y,g,d,b,os⟩:=s;obtain⟨f,i,h⟩:=h;have l:=sub_zip;have j:n4 I (Shared.heap ⟨Y,g,d,b,os⟩) z xs:=f;have k:n4 O (Shared.heap ⟨Y.push<|m3 I z,g,d,b,os⟩) J ys:=i.at λo e=>Of _ e
  wp_walk using YY j,YY k
  refine⟨_,rfl,?_⟩;simp only[J7,wQ,Hq,nr]at h ⊢;exact h
section
variable{X:Cx}{pins:TW}{σ:St}{H:Hp}{s:d8}{h':ew}
theorem Inv.X1{t':Nat}{fp:List di}{a:di}{o:HO}(I:Inv X pins σ H s)(k : ∀b u,b∉fp->s.heap.get? b=cI u->h'.get? b=cI u)(Y : ∀b∈fp,bN X pins H b)
 (J:s.heap.objs.size<=a) (new:ij X.prog X.w (upd H a o) h' a o):Inv X pins σ (upd H a o) {s with heap:=h',toks:=t'}:=by
 have f:H a=cR:=I.eG.fresh J;have h : ∀b u,H b=cI u->b∉fp:=λb u e z=>by rw[(Y b z).1]at e;cases e
 have j : ∀b u,s.heap.get? b=cI u->b≠a:=λb u e=>ON<|OI (OD e) J;refine I.step (g':=s.gens) (d':=s.drawn) (ch:=fp) (λb d=>⟨(Y b d).2.2.2.1,(Y b d).2.1,(Y b d).2.2.2.2.1,(Y b d).2.2.2.2.2⟩) (λb u _ _ O e _=>k b u O e) (λb u _ _ O e _=>⟨u.slots,k b u O e⟩)
  (λb u _ e n=>by rw[zH (j b u e)];exact n) (λb u O e=>⟨u,k b u O e⟩) (λb i e=>by rw[zH (j4 e f)];exact e) (λb g i e=>by rw[zH (j4 e f)];exact e)
  (λb y e=>⟨#[],by rw[zH (j4 e f),e];simp⟩) (λm t=>?_) (λb u e=>?_) I.bare
 ·obtain⟨g,p,l,x,r⟩:=t
  refine⟨g,p,l,k _ g (λz=>(Y _ z).2.1 rfl) x,r⟩
 ·by_cases d:b=a
  ·subst d;rw[zB]at e;cases e;exact new
  ·rw[zH d]at e
   refine(I.eG b u e).DP (λc v O q=>k c v ?_ q) (λc q=>by rw[zH (j4 q f)];exact q) λc i q=>by rw[zH (j4 q f)];exact q
   rcases O with z | z
   ·rw[z];exact h b u e
   ·exact h c _ z
theorem Inv.FR{t':Nat}{fp:List di}(I:Inv X pins σ H s)(k : ∀b u,b∉fp->s.heap.get? b=cI u->h'.get? b=cI u)(Y : ∀b∈fp,bN X pins H b):Inv X pins σ H {s with heap:=h',toks:=t'}:=by
 have f : ∀b u,H b=cI u->b∉fp:=λb u e z=>by rw[(Y b z).1]at e;cases e
 refine I.step (g':=s.gens) (d':=s.drawn) (ch:=fp) (λb a=>⟨(Y b a).2.2.2.1,(Y b a).2.1,(Y b a).2.2.2.2.1,(Y b a).2.2.2.2.2⟩) (λb u _ _ O e _=>k b u O e) (λb u _ _ O e _=>⟨u.slots,k b u O e⟩)
  (λb u _ e n=>n) (λb u O e=>⟨u,k b u O e⟩) (λb g e=>e) (λb d g e=>e)
  (λb o e=>⟨#[],by rw[e];simp⟩) (λm j=>?_) (λb u e=>?_) I.bare
 ·obtain⟨d,i,h,l,r⟩:=j
  refine⟨d,i,h,k _ d (λz=>(Y _ z).2.1 rfl) l,r⟩
 ·refine(I.eG b u e).DP (λc v O q=>k c v ?_ q) (λc q=>q) λc g q=>q
  rcases O with z | z
  ·rw[z];exact f b u e
  ·exact f c _ z
end
noncomputable def lb(k:Sk)(K:Ob)(H:Hp)(a:di)(xs:List V):Prop:=match k with
 | .L=>e9 K H a xs
 | .T=>fh K H a xs
theorem Inv.sq(I:Inv X pins σ H s)(h:lb k X.K H a xs) :
 ∃O:List dq,ej xs O/\n4 k s.heap a O.toArray/\xs.length<=eJ:=by
 cases k with
 | L=>obtain⟨O,r,p,z⟩:=I.list h;exact⟨O,r,p.isList,z⟩
 | T=>obtain⟨O,r,p,z⟩:=I.tuple h;exact⟨O,r,p,z⟩
theorem Inv.T2(I:Inv X pins σ H s)(h:lb k X.K H a xs)(h':lb k X.K H a ys):xs=ys:=by
 cases k with
 | L=>exact I.R0 h h'
 | T=>exact I.X_ h h'
noncomputable def N1(z I:Sk)(K:Ob)(a b:di):It:=
 ⟨λi H=>∃d e,lb z K H a d/\lb I K H b e/\i<d.length/\i<e.length,
  λi H x f=>∃p u v,x = .ref p/\H p=cR/\f=upd H p (.tup [u,v])/\(∀d,lb z K H a d->d[i]? = cI u)/\(∀e,lb I K H b e->e[i]? = cI v),
  λi H=>∃d e,lb z K H a d/\lb I K H b e/\(d.length<=i\/e.length<=i)⟩
theorem mQ{P:gB}{w:fm}{K:Ob}{elts:List dy}{x1:Nat}{n7:eo}(k1 k2:Sk){z TI TO i1 i2 a b:di}(D:Oa z TI TO i1 i2 a b) :
 Turn P w K (.Tuple elts x1 n7) (N1 k1 k2 K a b) [z,TI,TO,i1,i2] z (λi h=>vl h z TI TO .none/\nj h TI (.ref i1) (.ref i2)/\(∃c d,nj h TO c d)/\kr k1 h i1 a i/\kr k2 h i2 b i) where
 mem:=by simp
 obj:=λi h ⟨hz,Y,⟨c,d,a9⟩,h1,h2⟩ y hy=>by
  simp only[OA,OP,or_false]at hy;rcases hy with rfl | rfl | rfl | rfl | rfl
  ·exact⟨_,hz,λv q=>by cases q⟩
  ·exact⟨_,Y,λv q=>by cases q⟩
  ·exact⟨_,a9,λv q=>by cases q⟩
  ·exact h1.obj
  ·exact h2.obj
 keep:=λi h h' ⟨hz,Y,⟨c,d,a9⟩,h1,h2⟩ k=>
  ⟨k z ⋯ _ hz,k TI ⋯ _ Y,⟨c,d,k TO ⋯ _ a9⟩,h1.at λo e=>k i1 ⋯ o e,h2.at λo e=>k i2 ⋯ o e⟩
 item:=by
  rintro X hP hw hK hc i pins s σ H E I hf ⟨hz,Y,⟨c,d,a9⟩,h1,h2⟩ ⟨xs,ys,ag,am,bg,bi⟩;subst hP hw hK;obtain⟨bl,ar,p1,z1⟩:=I.sq ag;obtain⟨bm,ax,p2,z2⟩:=I.sq am;have hx:xs[i]? = cI xs[i]:=Oe bg;have hy:ys[i]? = cI ys[i]:=Oe bi;obtain⟨u1,bn,bv⟩:=ar.get hx;obtain⟨u2,bx,c0⟩:=ax.get hy;have hT:s.TypeIs (.ref z) "zip":=⟨_,hz,rfl⟩;unfold rr;refine Oc (Te (Po (name:=Px "__next__") hT UO (p5 UO hT F.entry_zip_next
   (eh D hz Y a9 h1 h2 p1 p2 (x:=u1) (y:=u2) (by simpa using bn) (by simpa using bx) λg a1 a2 a3 a4 a5 a6 a7=>Oi ⟨_,rfl,?_⟩) (F.args_zip_next_1 _))))
  refine wpAny_letOwnedTupleGo_zip a1 λg2 c6 aa=>?_;have lt : ∀{c o},s.heap.get? c=cI o->s.heap.objs.size≠c:=λe=>RM<|OD e;have c7:nj g2 s.heap.objs.size u1 u2:=aa.extBut _ _ (lt hz) a5;have kk : ∀O u,O ∉ [z,TI,TO,i1,i2]->s.heap.get? O=cI u->g2.get? O=cI u:=λO u hb e=>by simp only[OA,OP,or_false,not_or]at hb;exact aa.extBut _ _ hb.1<|a7 O u hb.1 hb.2.2.1 hb.2.2.2.1 hb.2.2.2.2 e
  have I1:Inv X pins σ (upd H s.heap.objs.size<|.tup [xs[i],ys[i]]) {s with heap:=g2,toks:=s.toks}:=
   I.X1 (fp:=[z,TI,TO,i1,i2]) kk hf (Ou _) ⟨by show 2<=eJ;decide,[u1,u2],.cons bv<|.cons c0 .nil,⟨_,c7,rfl,_,rfl⟩⟩
  have cb:H s.heap.objs.size=cR:=I.fresh;refine⟨.ref s.heap.objs.size,_,I1,rfl,⟨_,_,_,rfl,cb,rfl,λcl b0=>by rw[I.T2 b0 ag];exact hx,λcm b0=>by rw[I.T2 b0 am];exact hy⟩,?_,λO hb=>?_⟩
  ·exact⟨c6,aa.extBut _ _ D.TIz<|a7 _ _ D.TIz D.TITO D.TIi1 D.TIi2 Y,⟨_,_,aa.extBut _ _ D.TOz a2⟩,a3.at λo e=>aa.extBut _ _ D.i1z e,a4.at λo e=>aa.extBut _ _ D.i2z e⟩
  ·have cd:O≠s.heap.objs.size:=by
    simp only[OA,OP,or_false]at hb;rcases hb with rfl | rfl | rfl | rfl | rfl
    ·exact(lt hz).symm
    ·exact(lt Y).symm
    ·exact(lt a9).symm
    ·obtain⟨o,e,_⟩:=h1.obj;exact(lt e).symm
    ·obtain⟨o,e,_⟩:=h2.obj;exact(lt e).symm
   rw[zH cd];exact(hf O hb).1
 done:=by
  rintro X hP hw hK hc i pins s σ H E I hf ⟨hz,Y,⟨c,d,a9⟩,h1,h2⟩ ⟨xs,ys,ag,am,hi⟩;subst hP hw hK;obtain⟨bl,ar,p1,z1⟩:=I.sq ag;obtain⟨bm,ax,p2,z2⟩:=I.sq am;have hT:s.TypeIs (.ref z) "zip":=⟨_,hz,rfl⟩;have l1:=ar.length;have l2:=ax.length;unfold rr;refine Oc (Te (Po (name:=Px "__next__") hT UO (p5 UO hT F.entry_zip_next
   (mC (show X.A.handled=cR from I.ok.hd hc) D hz Y a9 h1 h2 p1 p2 (by rcases hi with q | q;left;simp;omega;right;simp;omega) λg e hk he=>?_) (F.args_zip_next_1 _))))
  obtain⟨o,ho,ch⟩:=he;refine Oc (UL (T:="StopIteration") (b:=cL) ⟨o,ho,ch⟩ f_ (Oi ⟨rfl,?_⟩));refine I.FR (t':=s.toks) (fp:=[z,TI,TO,i1,i2]) (λO u hb e=>?_) hf;simp only[OA,OP,or_false,not_or]at hb;exact hk O u hb.1 hb.2.2.1 hb.2.2.2.1 hb.2.2.2.2 e
 self:=λ_ _ _ _ _ st h=>wpAny_pyIter_zip st.1 h
noncomputable def NA(K:Ob)(J:TA):TI:=λh H R=>J h H λe d=>∃z I a b,e=[.ref a,.ref b]/\(∃f,lb z K d a f)/\(∃g,lb I K d b g)/\R (N1 z I K a b) d
theorem Eg{X:Cx}{e1 J:dy}{ta:TA}{p pos:eo}{L:List dy}{x1:Nat}{n7:eo}(hg:Gl X "zip")(hm:X.mg "zip" = cR)(ha:PA X [e1,J] ta)
 (hv:A8 "zip" = cI (.type "zip")) (hs:ei [e1,J] X.env=[(dd,d3 e1 X.env),(dd,d3 J X.env)]:=by rfl) (a3:ei [J] X.env=[(dd,d3 J X.env)]:=by rfl) :
 PI X (.Tuple L x1 n7) (.Call (.Name "zip" p) [e1,J] [] pos) (NA X.K ta):=by
 intro g s B H R I h;refine D1 (kA I hg hm hv<|Pk (ed (ha pos g s B H _ I h) λus d S=>?_) (by rw[hs,a3])<|by rw[a3];rfl);obtain⟨vs,l,Y,Z,W⟩:=S;obtain⟨z,O,a,b,e,⟨xs,E⟩,⟨ys,G⟩,q⟩:=W;subst e;obtain⟨w1,w2,Q,M,as⟩:=BZ Z;subst Q;cases M;cases as;obtain⟨N,bi,u,z1⟩:=Y.sq E;obtain⟨P,bl,w,z2⟩:=Y.sq G;have T:=u.lt;have U:=w.lt;refine _V F.called_zip ⋯ (F.typeCall_zip_2 _ _) (F.newCall_zip_2 _ _) (λobj=>F.args_object_init_3 obj _ _) F.entry_zip_new (mB z O a b N.toArray P.toArray) ⟨u,w,?_⟩;have keep : ∀c o,d.heap.get? c=cI o->(J7 z O d.heap a b).get? c=cI o:=λc o e=>
  Of _ (Of _<|Of _<|Of _<|Of _ e)
 have x:(PX d.heap<|m3 z a).objs.size=d.heap.objs.size+1:=nr ..;have y:(PX (PX d.heap<|m3 z a)<|m3 O b).objs.size=d.heap.objs.size+2:=by rw[nr,x]
 have A:(PX (PX (PX d.heap<|m3 z a)<|m3 O b)<|wQ (.ref d.heap.objs.size)<|.ref<|d.heap.objs.size+1).objs.size=d.heap.objs.size+3:=by rw[nr,y]
 have y4:(PX (PX (PX (PX d.heap<|m3 z a)<|m3 O b)<|wQ (.ref d.heap.objs.size)<|.ref<|d.heap.objs.size+1)<|wQ .none .none).objs.size=d.heap.objs.size+4:=by rw[nr,A]
 have g0:kr z (J7 z O d.heap a b) d.heap.objs.size a 0:=(Xv z d.heap a).at λo e=>Of _<|Of _<|Of _<|Of _ e;have g1:kr O (J7 z O d.heap a b) (d.heap.objs.size+1) b 0:=by have q:=Xv O (PX d.heap<|m3 z a) b;rw[x]at q;exact q.at λo e=>Of _<|Of _<|Of _ e
 have g2:nj (J7 z O d.heap a b) (d.heap.objs.size+2) (.ref d.heap.objs.size) (.ref<|d.heap.objs.size+1):=by have q:_=cI (wQ (.ref d.heap.objs.size)<|.ref<|d.heap.objs.size+1):=Oz (PX (PX d.heap<|m3 z a)<|m3 O b) (o:=wQ (.ref d.heap.objs.size)<|.ref<|d.heap.objs.size+1) rfl;rw[y]at q;exact Of _<|Of _ q
 have g3:nj (J7 z O d.heap a b) (d.heap.objs.size+3) .none .none:=by have q:_=cI (wQ .none .none):=Oz (PX (PX (PX d.heap<|m3 z a)<|m3 O b)<|wQ (.ref d.heap.objs.size)<|.ref<|d.heap.objs.size+1) (o:=wQ .none .none) rfl;rw[A]at q;exact Of _ q
 have k:vl (J7 z O d.heap a b) (d.heap.objs.size+4) (d.heap.objs.size+2) (d.heap.objs.size+3) .none:=by have q:=Oz (PX (PX (PX (PX d.heap<|m3 z a)<|m3 O b)<|wQ (.ref d.heap.objs.size)<|.ref<|d.heap.objs.size+1)<|wQ .none .none) (o:=Hq (d.heap.objs.size+2)<|d.heap.objs.size+3) rfl;rw[y4]at q;exact q
 refine⟨⟨_,k,rfl⟩,wpAny_pyIter_zip (s:={d with heap:=J7 z O d.heap a b}) k ?_⟩;have C:Inv X g B l {d with heap:=J7 z O d.heap a b,toks:=d.toks}:=Y.kept keep;have nn : ∀m:Nat,d.heap.objs.size≠d.heap.objs.size+m+1:=λm=>by omega
 have i : ∀m:Nat,a≠d.heap.objs.size+m:=λm=>ON<|OI T<|PU _ m;have j : ∀m:Nat,b≠d.heap.objs.size+m:=λm=>ON<|OI U<|PU _ m;have f : ∀m n:Nat,m≠n->(d.heap.objs.size+m:Nat)≠d.heap.objs.size+n:=λm n h=>by omega
 have D:Oa (d.heap.objs.size+4) (d.heap.objs.size+2) (d.heap.objs.size+3) d.heap.objs.size (d.heap.objs.size+1) a b:=
  ⟨f 2 4 ⋯,f 3 4 ⋯,f 0 4 ⋯,f 1 4 ⋯,f 2 3 ⋯,f 2 0 ⋯,f 2 1 ⋯,f 3 0 ⋯,f 3 1 ⋯,f 0 1 ⋯,
   i 4,i 3,i 0,i 1,j 4,j 3,j 0,j 1⟩
 refine⟨_,[d.heap.objs.size+4,d.heap.objs.size+2,d.heap.objs.size+3,d.heap.objs.size,d.heap.objs.size+1],_,_,l,rfl,C,mQ z O D,⟨k,g2,⟨_,_,g3⟩,g0,g1⟩,λc t=>?_,q⟩;have r:d.heap.objs.size<=c:=by
  simp only[OA,OP,or_false]at t;rcases t with rfl | rfl | rfl | rfl | rfl
  ·exact PU _ _
  ·exact PU _ _
  ·exact PU _ _
  ·exact Ou _
  ·exact PU _ _
 exact Y.Df r<|Y.eG.fresh r
noncomputable def p_(k:Sk)(K:Ob)(a:di):It:=match k with
 | .L=>q_ K a
 | .T=>r_ K a
noncomputable def NB(K:Ob)(I:TE):TI:=λe H R=>I e H λx b=>∃a k,x = .ref a/\(∃d,lb k K b a d)/\R (p_ k K a) b
theorem gn(Y:PE X l tl):PI X tg l (NB X.K tl):=by
 intro d s t H R I h;refine ed (Y d s t H _ I h) λv f i=>?_;obtain⟨x,g,z,r,n⟩:=i;obtain⟨a,k,e,⟨A,m⟩,q⟩:=n;subst e;cases r;have O : ∀b ∈ [f.heap.objs.size],bN X d g b:=λb j=>by
  have e:b=f.heap.objs.size:=by simpa using j
  subst e;exact z.Df (Ou _)<|z.eG.fresh<|Ou _
 obtain⟨u,y,p,w⟩:=z.sq m;cases k with
 | L=>exact _i p ⟨f.heap.objs.size,[f.heap.objs.size],_,_,g,rfl,z.kept (t':=f.toks) λb o e=>Of _ e,eQ a _,⟨_,Oz _ rfl,rfl,rfl⟩,O,q⟩
 | T=>exact Uu p ⟨f.heap.objs.size,[f.heap.objs.size],_,_,g,rfl,z.kept (t':=f.toks) λb o e=>Of _ e,bV a _,⟨_,Oz _ rfl,rfl,rfl⟩,O,q⟩
section
variable{κ:Type} [DecidableEq κ]
noncomputable def WJ(I:List (κ×V))(k:κ):Option V:=(I.find? λz=>decide<|z.1=k).map (·.2)
noncomputable def nJ(I:List (κ×V))(k:κ)(v:V):List (κ×V):=
 if (I.any λz=>decide<|z.1=k)=cL then I.map (λz=>if z.1=k then (z.1,v)else z)else I++[(k,v)]
theorem XT{p:κ×V}{r:List (κ×V)}{k:κ}(e:p.1=k):WJ (p::r) k=cI p.2:=by simp[WJ,SJ,e]
theorem WI{p:κ×V}{r:List (κ×V)}{k:κ}(e : ¬p.1=k):WJ (p::r) k=WJ r k:=by simp[WJ,SJ,e]
theorem VZ(I:List (κ×V))(k:κ)(v:V):(nJ I k v).length<=I.length+1:=by
 unfold nJ;split
 ·rw[OC];omega
 ·rw[OX,OK,RL];omega
theorem p6.J_(r:p6 o u):o.isSome=u.isSome:=by
 cases o with
 | none=>cases u with
  | none=>rfl
  | some _=>exact(show False from r).elim
 | some _=>cases u with
  | none=>exact(show False from r).elim
  | some _=>rfl
theorem KV.val{J:List (κ×V)}{vs:List (κ×dq)}(r:KV J vs)(k:κ):p6 (WJ J k) (F0 vs k):=by
 unfold KV at r
 induction r with
 | nil=>exact PJ
 | @cons p q f I h t Y=>
  obtain⟨a,d⟩:=h;by_cases e:p.1=k
  ·have O:q.1=k:=a.symm.trans e
   have b:F0 (q::I) k=cI q.2:=by simp[F0,SJ,O]
   rw[XT e,b];exact d
  ·have O : ¬q.1=k:=λz=>e (a.trans z)
   have b:F0 (q::I) k=F0 I k:=by simp[F0,SJ,O]
   rw[WI e,b];exact Y
theorem KV.any(r:KV lK vs)(k:κ):(lK.any λz=>decide<|z.1=k)=vs.any λz=>decide (z.1=k):=by
 unfold KV at r
 induction r with
 | nil=>rfl
 | cons h t I=>rw[TU,TU,I,h.1]
theorem KV.B?(r:KV lK vs)(k:κ)(O:RelV y u) :
 KV (lK.map λI=>if I.1=k then (I.1,y)else I) (vs.map λI=>if I.1=k then (I.1,u)else I):=by
 unfold KV at r ⊢
 induction r with
 | nil=>exact .nil
 | @cons p q d f h t Y=>
  rw[OH,OH];refine .cons ?_ Y;obtain⟨a,b⟩:=h;by_cases e:p.1=k
  ·rw[DZ e,DZ (a.symm.trans e)];exact⟨a,O⟩
  ·rw[DJ e,DJ (λz=>e<|a.trans z)];exact⟨a,b⟩
theorem KV.put(r:KV lK vs)(k:κ)(z:RelV y u):KV (nJ lK k y) (stored vs k u):=by
 unfold nJ stored;rw[r.any k];by_cases e:(vs.any λI=>decide<|I.1=k)=cL
 ·rw[DZ e,DZ e];exact r.B? k z
 ·rw[DJ e,DJ e];exact Paired.snoc r ⟨rfl,z⟩
end
theorem pq(r:RelV (kV k) u):(qG P w).is k u=cL:=by
 cases k with
 | inl i=>obtain⟨t,e⟩:=(show ∃t,u=D7 i t from r);subst e;exact VU P w i t
 | inr x=>obtain⟨t,e⟩:=(show ∃t,u=UE x t from r);subst e;exact VT P w x t
theorem YZ : ∀{ks:List Key} {us:List dq},ej (ks.map kV) us->ItemsAre (qG P w) ks us
 | [],_,r=>by rw[i_]at r;cases r;exact .nil
 | k::ks,_,r=>by
  rw[OH]at r;cases r with
  | cons h t=>exact .cons (pq h)<|YZ t
abbrev KT(H:Hp):List (List Key×V)->List (List Key×di×dq)->Prop:=Paired λp q=>p.1=q.1/\H q.2.1=cI (.tup (p.1.map kV))/\RelV p.2 q.2.2
theorem KT.val{H:Hp}{J:List (List Key×V)}{xs:List (List Key×di×dq)}(r:KT H J xs)(k:List Key):p6 (WJ J k) ((qq xs k).map (·.2)):=by
 induction r with
 | nil=>exact PJ
 | @cons p q f I h t Y=>
  obtain⟨a,_,d⟩:=h;by_cases e:p.1=k
  ·have O:q.1=k:=a.symm.trans e
   have b:qq (q::I) k=cI q.2:=by simp[qq,SJ,O]
   rw[XT e,b];exact d
  ·have O : ¬q.1=k:=λz=>e (a.trans z)
   have b:qq (q::I) k=qq I k:=by simp[qq,SJ,O]
   rw[WI e,b];exact Y
section
variable{P:gB}{w:fm}{H:Hp}{h:ew}{a:di}
theorem CA(ok:ji P w H h)(e:Rd H a u):ij P w H h a u:=e.ok ok
theorem pO(ok:ji P w H h)(e:Rd H a (.dK lK)):lK.length<=eJ/\(a==tr)=dd/\∃vs,KV lK vs/\h.DictOf (qG P w) a vs:=
 show ij P w H h a (.dK lK)from CA ok e
theorem IX(ok:ji P w H h)(e:H a=cI (.dK lK)):lK.length<=eJ/\(a==tr)=dd/\∃vs,KV lK vs/\h.DictOf (qG P w) a vs:=pO ok<|.inl e
theorem iq(ok:ji P w H h)(e:H a=cI (.tup<|ks.map kV)):(DT<|qG P w).is h ks a:=by obtain⟨_,z,r,o,b,d,n,I⟩:=(show ij P w H h a (.tup<|ks.map kV)from ok a _ e);exact⟨o,z.toArray,n,b,(Prod.mk.inj d).1,I,by simpa using YZ r⟩
theorem AX(ok:ji P w H h)(e:Rd H a (.dT lK)):lK.length<=eJ/\(a==tr)=dd/\
 ∃xs,KT H lK xs/\h.DictOfH (DT<|qG P w) a xs:=by
 obtain⟨z,y,xs,r,o,d,b,f,g,O,Y,i⟩:=(show ij P w H h a (.dT lK)from CA ok e);refine⟨z,y,xs,r,o,d,b,f,g,O,Y,λx hx=>?_,i⟩;have all : ∀{l:List (List Key×V)} {m:List (List Key×di×dq)},KT H l m->∀x∈m,(DT<|qG P w).is h x.1 x.2.1:=by
  intro l m q
  induction q with
  | nil=>intro x hx;exact nomatch hx
  | @cons p q k n I t j=>
   intro x hx;rcases OA.mp hx with e | hx
   ·subst e
    exact iq ok (by rw[<- I.1];exact I.2.1)
   ·exact j x hx
 exact all r x hx
end
noncomputable def Gs(H:Hp)(a:di)(y:V)(r:Option V):Prop:=
 (∃d k,Rd H a (.dK d)/\y=kV k/\r=WJ d k)\/∃d k b,Rd H a (.dT d)/\y = .ref b/\H b=cI (.tup<|k.map kV)/\r=WJ d k
section
variable{X:Cx}{pins:TW}{σ:St}{H:Hp}{s:d8}{a:di}{y v:V}{u r:dq}{o:Option V}{A:i8}{E:EQ}
theorem Inv.big(I:Inv X pins σ H s):tr<s.heap.objs.size:=by have h:qd<s.heap.objs.size:=(I.mod.glob.keeps I.bk).lt;exact Nat.lt_trans ⋯ h
theorem lg(hu:A.units+1<rd)(I:Inv X pins σ H s)(g:Gs H a y (cI v))(J:RelV y u)(h : ∀w' L,Inv X pins σ H L->RelV v w'->Q w' L) :
 wpAny (d5 X.prog X.w) A (B4 (.ref a) u) Q E s:=by
 rcases g with⟨j,k,e,O,l⟩ | ⟨j,k,b,e,O,n,l⟩
 ·subst O
  obtain⟨z,r,x,Y,f⟩:=pO I.eG e;obtain⟨w',i,d⟩:=p6.some_of (v:=v) (o:=F0 x k) (by rw[l];exact Y.val k);exact wpAny_getItem_of (pq J) f.mapOf i<|h w' _ (I.tok _) d
 ·subst O
  cases (show u=OR b from J);obtain⟨z,r,B,Y,f⟩:=AX I.eG e;obtain⟨w',i,d⟩:=p6.some_of (v:=v) (o:=(qq B k).map (·.2)) (by rw[l];exact Y.val k);obtain⟨p,t,m⟩:=RV.mp i;refine O? (Uv hu) (iq I.eG n) f t ?_;rw[m];exact h w' _ (I.tok _) d
theorem NH(hu:A.units+1<rd)(I:Inv X pins σ H s)(g:Gs H a y o)(J:RelV y u)(h : ∀L,Inv X pins σ H L->Q (.bool o.isSome) L) :
 wpAny (d5 X.prog X.w) A (m9 .In u<|.ref a) Q E s:=by
 rcases g with⟨i,k,e,O,l⟩ | ⟨i,k,b,e,O,j,l⟩
 ·subst O
  obtain⟨z,f,m,Y,d⟩:=pO I.eG e;refine wpAny_in_of (pq J) f d.mapOf ?_;rw[<- (Y.val k).J_,<- l];exact h _<|I.tok _
 ·subst O
  cases (show u=OR b from J);obtain⟨z,f,n,Y,d⟩:=AX I.eG e;refine wpAny_in_heap (Uv hu) (iq I.eG j) f d ?_;have q:=(Y.val k).J_;rw[Option.isSome_map]at q;rw[<- q,<- l];exact h _<|I.tok _
theorem Be(I:Inv X pins σ H s)(O:F7 (H a))(J:RE a s.heap h')(Y : ∃q,h'.get? a=cI q)(new:ij X.prog X.w (upd H a ob) h' a ob) :
 Inv X pins σ (upd H a ob) {s with heap:=h',toks:=t'}:=
 I.write (x:=a) (e:=a) O (.inl rfl) (λb q d z=>(J.2 b d).trans z) Y new
theorem FF(z:lK.length<=eJ)(J:(a==tr)=dd)(I:KV lK vs)(O:h'.DictOf (qG P w) a vs) :
 ij P w H' h' a (.dK lK):=⟨z,J,vs,I,O⟩
end
noncomputable def Ho(i:dy):Prop:=∀a z,T4 i dd a z=operate [a,z] (B4 a z)
theorem fg{prog:gB}{w:fm}{A:i8}{E:EQ}{s:d8}{env:m5}{J z:dy}{pos:eo}{T id:String}{Q:EQ}
 (hl:M5 (.type T) "__getitem__" = pure (cI (.builtin id))) (hs:Ho z)
 (h:wpAny (d5 prog w) A (d3 J env) (λo L=>wpAny (d5 prog w) A (d3 z env) (λi I=>I.TypeIs o T/\wpAny (d5 prog w) A (B4 o i) Q E I) E L) E s) :
 wpAny (d5 prog w) A (d3 (.Subscript J z pos) env) Q E s:=by
 refine u_<|t5 h (λo L b=>t5 b (λi I O=>?_) λ_ _ x=>x) λ_ _ x=>x;obtain⟨e,O⟩:=O;unfold V_;refine Oc ?_;rw[getitemInPython_of_ne e.not_modules];refine Oc<|wpAny_specialOf e hl ?_;have Y:wpAny (d5 prog w) A (T4 z dd o i) (λr a=>wpAny (d5 prog w) A (letTemporaryGo J o r >>= λ_=>pure r) Q E a) E I:=by rw[hs o i];exact wpAny_operating<|t5 O (λr a d=>Oc<|wpAny_letTemporaryGo<|Oi d) λ_ _ x=>x
 first
  | exact Oi<|Oc Y
  | exact Oc<|Oi<|Oc Y
  | exact Oc Y
theorem Wf(I:Inv X pins σ H s)(g:Gs H a y o):s.TypeIs (.ref a) "dict":=by
 rcases g with⟨d,k,e,_,_⟩ | ⟨d,k,b,e,_,_,_⟩
 ·obtain⟨_,_,f,_,z⟩:=pO I.eG e
  exact z.typeIs
 ·obtain⟨_,_,h,_,z⟩:=AX I.eG e
  exact z.typeIs
noncomputable def HJ(I ty:TE):TE:=λd H Q=>I d H λx e=>ty d e λy b=>∃a v,x = .ref a/\Gs b a y (cI v)/\Q v b
noncomputable def Nc(ty I:TE):TE:=λd H Q=>ty d H λy e=>I d e λx b=>∃a o,x = .ref a/\Gs b a y o/\Q (.bl o.isSome) b
section
variable{X:Cx}{o i e value:dy}{pos pos' n7:eo}{td ty tv:TE}
theorem Ad(O:X.A.units+1<rd)(Y:PE X o td)(J:PE X i ty)(L:Ho i):PE X (.Subscript o i pos) (HJ td ty):=by intro b s d H Q I h;refine fg PySem.F.slot_dict_getitem.lookup L<|ed (Y b s d H _ I h) λu t ⟨x,e,j,rx,n⟩=>ed (J b t d e _ j n) λw B ⟨y,f,z,r,a,v,m,g,p⟩=>?_;subst m;obtain rfl:u=OR a:=rx;exact⟨Wf z g,lg O z g r λE C k l=>⟨v,f,k,l,p⟩⟩
theorem Eo(z:X.A.units+1<rd)(J:PE X i ty)(O:PE X o td):PC X .In i o (Nc ty td):=by intro b s d H Q I h;refine ed (J b s d H _ I h) λw t ⟨y,e,Y,r,n⟩=>ed (O b t d e _ Y n) λu B ⟨x,f,j,rx,a,m,l,g,p⟩=>?_;subst l;obtain rfl:u=OR a:=rx;exact NH z j g r λC k=>⟨.bl m.isSome,f,k,rfl,p⟩
end
theorem pP(h:ew)(I:tr<h.objs.size):ij P w H (h.push {cls:= .type "dict",data:= .dict #[]}) h.objs.size (.dK []):=
 ⟨Rg _,beq_eq_false_iff_ne.mpr<|PH<|ON I,[],.nil,Heap.DictOf.new h⟩
noncomputable def eX:List (TE×TE)->St->Hp->(List (V×V)->Hp->Prop)->Prop
 | [],_,H,Q=>Q [] H
 | (tk,tv)::r,σ,H,Q=>tk σ H λx a=>tv σ a λy b=>eX r σ b λd z=>Q ((x,y)::d) z
abbrev VV:List (V×V)->List (dq×dq)->Prop:=Paired λp q=>RelV p.1 q.1/\RelV p.2 q.2
noncomputable def L5(X:Cx)(pos:eo)(z:List (Option dy))(I:List dy)(O:List (TE×TE)):Prop:=
 ∀(a:TW) (s:d8) (b:St) (H:Hp) (Q:List (V×V)->Hp->Prop),Inv X a b H s->eX O b H Q->
  wpAny (d5 X.prog X.w) X.A (evalPairs<|pairTrees z I X.env pos) (λg f=>∃e d,Inv X a b d f/\VV e g/\Q e d) X.xe s
theorem uQ{X:Cx}{pos:eo}:L5 X pos [] [] []:=λa s b H Q I h=>pairTrees_nil_walk ⟨[],H,I,.nil,h⟩
theorem aq{X:Cx}{pos:eo}{k v:dy}{ks:List (Option dy)}{vs:List dy}{z J:TE}{O:List (TE×TE)}(L:PE X k z)(Y:PE X v J)(hr:L5 X pos ks vs O) :
 L5 X pos (cI k::ks) (v::vs) ((z,J)::O):=λa s b H Q I h=>
 pairTrees_cons_walk (ed (L a s b H _ I h) λu t ⟨x,d,g,rx,n⟩=>ed (Y a t b d _ g n) λB w ⟨y,e,i,r,o⟩=>
  ed (hr a w b e _ i o) λC A ⟨m,f,j,l,p⟩=>⟨(x,y)::m,f,j,.cons ⟨rx,r⟩ l,p⟩)
noncomputable def Jx(I more:List (Key×V)):List (Key×V):=more.foldl (λacc z=>nJ acc z.1 z.2) I
theorem KV.merge : ∀{more:List (Key×V)} {L:List (Key×dq)} {J:List (Key×V)} {vs:List (Key×dq)},KV more L->KV J vs->KV (Jx J more) (merged vs L):=by
 intro more L J vs r;unfold KV at r
 induction r generalizing J vs with
 | nil=>intro q;exact q
 | @cons p q a O h t z=>
  intro I;have e:KV (nJ J p.1 p.2) (stored vs q.1 q.2):=by have:=I.put p.1 h.2;rw[<- h.1];exact this
  exact z e
theorem vY : ∀(more I:List (Key×V)),(Jx I more).length<=I.length+more.length
 | [],I=>by show I.length<=I.length+0;omega
 | p::r,I=>by have a:=vY r<|nJ I p.1 p.2;have b:=VZ I p.1 p.2;show(Jx (nJ I p.1 p.2) r).length<=_;rw[OK];omega
theorem XC{P:gB}{w:fm} : ∀{J:List (Key×V)} {z:List (dq×dq)},VV (J.map λI=>(kV I.1,I.2)) z->∃L,Carries (qG P w) z L/\KV J L
 | [],_,r=>by rw[i_]at r;cases r;exact⟨[],PJ,.nil⟩
 | p::J,_,r=>by
  rw[OH]at r;cases r with
  | @cons a b O bs h t=>
   obtain⟨L,c,q⟩:=XC (P:=P) (w:=w) t;obtain⟨b1,b2⟩:=b;exact⟨(p.1,b2)::L,⟨pq h.1,rfl,c⟩,.cons ⟨rfl,h.2⟩ q⟩
noncomputable def HI(I:List (TE×TE)):TE:=λe H Q=>∀p,H p=cR->eX I e (upd H p<|.dK []) λd b=>b p=cI (.dK [])/\∃a:List (Key×V),d=a.map (λz=>(kV z.1,z.2))/\a.length<=15/\Q (.ref p) (upd b p<|.dK<|Jx [] a)
theorem Ac{X:Cx}{pos:eo}{O:List (Option dy)}{Y:List dy}{J:List (TE×TE)}(h:L5 X pos O Y J)(L:O.all (·.isSome)=cL)(hl:O.length=Y.length)(h0:O ≠ [])
 (a5:O.length<=15):PE X (.Dict O Y pos) (HI J):=by
 intro d s E H Q I q;have r:=I.eG.fresh (Ou s.heap.objs.size);have i:=I.laid (a:=s.heap.objs.size) (o:= .dK []) (h':=s.heap.push {cls:= .type "dict",data:= .dict #[]}) (t':=s.toks) (λ_ _ q=>Of _ q) (Ou _) (pP s.heap I.big);refine wpAny_Dict_walk (knd:=qG X.prog X.w) L hl h0 a5 (ed (h d _ E _ _ i (q _ r)) λN M ⟨K,F,f,j,e,b,l,lk,y⟩=>?_);subst l;obtain⟨C,c,B⟩:=XC (P:=X.prog) (w:=X.w) j;obtain⟨z,n,G,A,k⟩:=IX f.eG e;cases A;refine⟨C,c,k,λh' g u=>⟨.ref s.heap.objs.size,_,?_,rfl,y⟩⟩;have x:(Jx [] b).length<=eJ:=by have m:=vY b [];rw[RL]at m;rw[Um];omega
 have p : ∃q,h'.get? s.heap.objs.size=cI q:=let ⟨q,_,_,t,_⟩:=g;⟨q,t⟩;exact Be f (by rw[e];exact PJ) u p<|FF x n (B.merge .nil) g
end L2
namespace DL
open PySem PySem.Spec PyProof.Rows L2
noncomputable def M7:List Str:=["NoPrime","Nought","NoTable","NoWidths","NoRow","Unlike","TooMany","NoTurn","NoLine","Nothing","NoArrow","NoText","NoRoom"]
noncomputable def BW(K:Ob)(c:Str):Option di:=match Uw K qd c with
 | some (cI (.ref C))=>cI C
 | _=>cR
noncomputable def MV(K:Ob)(C:di):Bool:=
 ["int","bool","str","tuple","list"].all (λt=>SU K (.ref C) (.type t)==cI dd) && SU K (.ref C) (.type "ValueError")==cI cL &&
 Pp K (.ref C) "__getattribute__" == cI (cI (.builtin "BaseException.__getattribute__")) && Pp K (.ref C) "__getattr__" == cI cR &&
 Pp K (.ref C) "__class__" == cI (cI (.builtin "object.__class__")) && PySem.W.mroIn K C (.type "object")==cI cL && PySem.W.mroIn K C (.type "BaseException")==cI cL &&
 PySem.W.specialIn K (.builtin "object.__class__") "__get__" == cI (cI (.builtin "getset_descriptor.__get__")) && PySem.W.takesIn K (.builtin "object.__class__")==cI cL &&
 (PySem.W.clsIn K C).any (λz=> !z.hasDel) && PySem.W.typeIn K (.ref C)==cI (.type "type")
noncomputable def LS(K:Ob):Bool:=match BW K "SplitError" with
 | some S=>M7.all λc=>match BW K c with
  | some C=>MV K C && SU K (.ref C) (.ref S)==cI cL && M7.all λa=>match BW K a with
   | some z=>SU K (.ref C) (.ref z)==cI (c==a)
   | none=>dd
  | none=>dd
 | none=>dd
noncomputable def NM(h:ew)(a:di)(C:di):Prop:=∃o b,h.get? a=cI o/\o.cls = .ref C/\o.data = .fields b
structure N9(K:Ob)(H:Hp)(c:Str)(n:Option Int)(a:di):Prop where
 all:LS K=cL
 mem:c∈M7
 ex : ∃C φ,BW K c=cI C/\H a=cI (.ext φ)/\(∀h,φ h->NM h a C)/\
  match n with
  | none=>True
  | some i=>∃d,(∀h,φ h->∃o,h.get? a=cI o/\o.dict=cI d)/\H d=cI (.xd [(if c==("NoRoom" : Str)then "room" else "at",.int i)])
theorem N9.mono{K:Ob}{H H':Hp}{c:Str}{n:Option Int}{a:di}(e : ∀b o,H b=cI o->H' b=cI o)(h:N9 K H c n a):N9 K H' c n a:=by
 obtain⟨f,g,C,j,I,g2,O,z⟩:=h;refine⟨f,g,C,j,I,e _ _ g2,O,?_⟩;cases n with
 | none=>exact z
 | some i=>obtain⟨d,Y,f2⟩:=z;exact⟨d,Y,e _ _ f2⟩
abbrev St:=L2.St
noncomputable def IG:D->Option Key
 | .int i=>cI (.inl i)
 | .str x=>cI (.inr x)
 | _=>cR
noncomputable def ik:List D->Option (List Key)
 | []=>cI []
 | d::ds=>(IG d).bind λk=>(ik ds).map λr=>k::r
noncomputable def Du(H:Hp)(a:di)(ks:List D)(xs:List V):Prop:=∃b,ik ks=cI b/\b.length=xs.length/\H a=cI (.dK<|b.zip xs)
noncomputable def mV(k:List Int):Int:=reduceHash<|Builtin.Tuple.tupleHashOf<|k.map hashInt
noncomputable def BQ(o:i5)(xs:List (List Int×di×dq)):Prop:=o.ExactDict/\∃a b,o.data = .dict a b/\a.toList=xs.map (λx=>⟨mV x.1,.ref x.2.1,x.2.2⟩)/\(xs.map (·.1)).Nodup
noncomputable def m7(a:di)(o:i5):HO:= .ext λh=>h.get? a=cI o
noncomputable def A3(K:Ob)(H:Hp)(a:di)(ks:List (List Int))(ys:List V):Prop:=
 (a==tr)=dd/\∃o b,H a=cI (m7 a o)/\BQ o b/\b.map (·.1)=ks/\b.length<=eJ/\(∀x∈b,fh K H x.2.1<|x.1.map V.int)/\ej ys (b.map (·.2.2))
noncomputable def u4(z I:V):List (Str×V):=Kd "table" I (Kd "p" z [])
theorem IP(z I:V):(u4 z I).lookup ("p" : Str)=cI z:=by unfold u4;rw[qH,qH,DJ ⋯,DZ rfl]
theorem IM(I z:V):(u4 I z).lookup ("table" : Str)=cI z:=by unfold u4;rw[qH,DZ rfl]
theorem IQ(z I:V):(u4 z I).lookup ("forth" : Str)=cR:=by unfold u4;rw[qH,qH,DJ ⋯,DJ ⋯];rfl
mutual
noncomputable def Rep(K:Ob)(H:Hp):D->V->Prop
 | .eg,v=>v = .eg
 | .bl b,v=>v = .bl b
 | .int i,v=>v = .int i
 | .str x,v=>v = .str x
 | .tup ds,v=>∃a d,v = .ref a/\fh K H a d/\dt K H ds d
 | .lst ds,v=>∃a d,v = .ref a/\e9 K H a d/\dt K H ds d
 | .lp ks vs,v=>∃a d,v = .ref a/\Du H a ks d/\dt K H vs d
 | .hM ks vs,v=>∃a d,v = .ref a/\A3 K H a ks d/\dt K H vs d
noncomputable def dt(K:Ob)(H:Hp):List D->List V->Prop
 | [],xs=>xs=[]
 | d::ds,xs=>∃x r,xs=x::r/\Rep K H d x/\dt K H ds r
end
theorem ix{K:Ob}{H H':Hp}{a:di}{xs:List V}(e:et H H')(h:fh K H a xs):fh K H' a xs:=by
 rcases h with(h | ⟨o,h⟩) | h
 ·exact .inl<|.inl<|e _ _ h
 ·exact .inl<|.inr ⟨o,e _ _ h⟩
 ·exact .inr h
theorem Yl{k:Sk}{K:Ob}{H H':Hp}{a:di}{xs:List V}(e:et H H')(h:lb k K H a xs):lb k K H' a xs:=by
 cases k
 ·exact e.seq h
 ·exact ix e h
mutual
theorem Rep.mono{K:Ob}{H H':Hp}(e:et H H') : ∀{d:D} {v:V},Rep K H d v->Rep K H' d v
 | .eg,_,h=>h
 | .bl _,_,h=>h
 | .int _,_,h=>h
 | .str _,_,h=>h
 | .tup ds,v,h=>by obtain⟨a,b,f,i,g⟩:=(show ∃a b,v = .ref a/\fh K H a b/\dt K H ds b from h);exact(show ∃a b,v = .ref a/\fh K H' a b/\dt K H' ds b from⟨a,b,f,ix e i,dt.mono e g⟩)
 | .lst ds,v,h=>by obtain⟨a,b,f,i,g⟩:=(show ∃a b,v = .ref a/\e9 K H a b/\dt K H ds b from h);exact(show ∃a b,v = .ref a/\e9 K H' a b/\dt K H' ds b from⟨a,b,f,e.seq i,dt.mono e g⟩)
 | .lp ks vs,v,h=>by obtain⟨a,b,f,⟨l,z,g2,I⟩,g⟩:=(show ∃a b,v = .ref a/\Du H a ks b/\dt K H vs b from h);exact(show ∃a b,v = .ref a/\Du H' a ks b/\dt K H' vs b from⟨a,b,f,⟨l,z,g2,e _ _ I⟩,dt.mono e g⟩)
 | .hM ks vs,v,h=>by obtain⟨a,b,f,⟨z,o,m,g2,I,O,Y,g6,j⟩,g⟩:=(show ∃a b,v = .ref a/\A3 K H a ks b/\dt K H vs b from h);exact(show ∃a b,v = .ref a/\A3 K H' a ks b/\dt K H' vs b from⟨a,b,f,⟨z,o,m,e _ _ g2,I,O,Y,λx k=>ix e<|g6 x k,j⟩,dt.mono e g⟩)
theorem dt.mono{K:Ob}{H H':Hp}(e:et H H') : ∀{I:List D} {xs:List V},dt K H I xs->dt K H' I xs
 | [],_,h=>h
 | d::I,xs,h=>by obtain⟨x,r,a,b,f⟩:=(show ∃x r,xs=x::r/\Rep K H d x/\dt K H I r from h);exact(show ∃x r,xs=x::r/\Rep K H' d x/\dt K H' I r from⟨x,r,a,Rep.mono e b,dt.mono e f⟩)
end
section
variable{K:Ob}{H:Hp}
theorem dt.nil:dt K H [] []:=(show([]:List V)=[]from rfl)
theorem dt.cons(h:Rep K H d x)(t:dt K H ds xs):dt K H (d::ds) (x::xs):=⟨x,xs,rfl,h,t⟩
theorem dt.ow(h:dt K H [] xs):xs=[]:=h
theorem dt.l6(h:dt K H (d::ds) xs) : ∃x r,xs=x::r/\Rep K H d x/\dt K H ds r:=h
theorem dt.length : ∀{I:List D} {xs:List V},dt K H I xs->xs.length=I.length
 | [],xs,h=>by rw[h.ow];rfl
 | d::I,xs,h=>by obtain⟨x,r,e,_,t⟩:=h.l6;rw[e,OK,OK,dt.length t]
theorem dt.get : ∀{I:List D} {xs:List V} {i:Nat} {d:D},dt K H I xs->I[i]? = cI d->∃x,xs[i]? = cI x/\Rep K H d x
 | [],_,_,_,_,e=>by simp at e
 | c::I,xs,0,d,h,e=>by obtain⟨x,r,a,b,_⟩:=h.l6;simp at e;subst e;exact⟨x,by rw[a];rfl,b⟩
 | c::I,xs,i+1,d,h,e=>by obtain⟨x,r,a,_,t⟩:=h.l6;obtain⟨y,z,g2⟩:=dt.get (i:=i) (d:=d) t (by simpa using e);exact⟨y,by rw[a];simpa using z,g2⟩
theorem dt.DF{I:List D}{xs:List V}{i:Nat}{x:V}(h:dt K H I xs)(e:xs[i]? = cI x) : ∃d,I[i]? = cI d/\Rep K H d x:=by
 have b:i<I.length:=by rw[<- h.length];exact(Ol.mp e).1
 obtain⟨y,a,r⟩:=h.get<|Oe b;rw[e]at a;cases a;exact⟨_,Oe b,r⟩
theorem dt.append : ∀{I J:List D} {xs ys:List V},dt K H I xs->dt K H J ys->dt K H (I++J) (xs++ys)
 | [],_,xs,_,h,g=>by rw[h.ow];exact g
 | d::I,J,xs,ys,h,g=>by obtain⟨x,r,e,a,t⟩:=h.l6;rw[e];exact dt.cons a<|dt.append t g
theorem dt.drop : ∀{I:List D} {xs:List V} (n:Nat),dt K H I xs->dt K H (I.drop n) (xs.drop n)
 | _,_,0,h=>h
 | [],xs,n+1,h=>by rw[h.ow];exact dt.nil
 | d::I,xs,n+1,h=>by obtain⟨x,r,e,_,t⟩:=h.l6;rw[e];exact dt.drop n t
theorem dt.take : ∀{I:List D} {xs:List V} (n:Nat),dt K H I xs->dt K H (I.take n) (xs.take n)
 | _,_,0,h=>by simp;exact dt.nil
 | [],xs,n+1,h=>by rw[h.ow];exact dt.nil
 | d::I,xs,n+1,h=>by obtain⟨x,r,e,a,t⟩:=h.l6;rw[e];exact dt.cons a<|dt.take n t
end
structure Ext(H0 H r9 H':Hp):Prop where
 s0:et H0 r9
 s1:et H H'
 sub:et r9 H'
 new : ∀a,H0 a=cR->H a≠cR->r9 a=cR
theorem Ext.refl(s:et H0 H):Ext H0 H H0 H:=⟨et.refl _,et.refl _,s,λ_ h _=>h⟩
theorem Ext.trans(a:Ext H0 H H1 G1)(b:Ext H1 G1 H2 G2):Ext H0 H H2 G2:=
 ⟨a.s0.trans b.s0,a.s1.trans b.s1,b.sub,λc e d=>b.new c (a.new c e d) (by
  cases q:H c with
  | none=>exact absurd q d
  | some o=>rw[a.s1 c o q];simp)⟩
theorem zX(h:H p=cR)(o:HO):et H (upd H p o):=λb u q=>by rw[zH (j4 q h)];exact q
theorem jk(s:et H0 H)(h:H p=cR):H0 p=cR:=s.free h
theorem Yk(s:et H0 H):et (upd H0 p o) (upd H p o):=λb u q=>by
 by_cases e:b=p
 ·subst e;rw[zB]at q ⊢;exact q
 ·rw[zH e]at q ⊢;exact s b u q
theorem Ext.alloc(s:et H0 H)(h:H p=cR)(o:HO):Ext H0 H (upd H0 p o) (upd H p o):=
 ⟨zX (jk s h) o,zX h o,Yk s,λa b d=>by rw[zH (λe=>d<|by rw[e];exact h)];exact b⟩
theorem Ext.hide(s:et H0 H)(h:H p=cR)(o:HO):Ext H0 H H0 (upd H p o):=
 ⟨et.refl _,zX h o,s.trans<|zX h o,λa b _=>b⟩
theorem Ext.show(e:Ext H0 H r9 H')(J:H a=cR)(L:r9 a=cR)(O:H' a=cI o)(s:et H0 H):Ext H0 H (upd r9 a o) H':=
 ⟨e.s0.trans<|zX L o,e.s1,λb u q=>by
  by_cases z:b=a
  ·subst z;rw[zB]at q;rw[O];exact q
  ·rw[zH z]at q;exact e.sub b u q,λb Y I=>by
  rw[zH (λz=>I<|by rw[z];exact J)];exact e.new b Y I⟩
structure C7(K:Ob)(H0 H:Hp)(rows:List (List D))(a:di)(bs:List di):Prop where
 a0:H0 a=cR
 ha:H a=cI (.lst<|bs.map V.ref)
 nd:(a::bs).Nodup
 len:bs.length=rows.length
 row : ∀(k:Nat) b row,bs[k]? = cI b->rows[k]? = cI row->H0 b=cR/\∃xs,H b=cI (.lst xs)/\dt K H0 row xs
theorem C7.at{K:Ob}{H0 H:Hp}{I:List (List D)}{a:di}{bs:List di}(n:C7 K H0 H I a bs){b:di}(hb:b∈a::bs):H0 b=cR/\∃xs,H b=cI (.lst xs):=by
 rcases OA.mp hb with rfl | hb
 ·exact⟨n.a0,_,n.ha⟩
 ·obtain⟨k,d⟩:=L6 hb
  have z:=(Ol.mp d).1;rw[n.len]at z;obtain⟨e,xs,f,_⟩:=n.row k b _ d<|Oe z;exact⟨e,xs,f⟩
theorem C7.move{K:Ob}{H0 H L H':Hp}{J:List (List D)}{a:di}{bs:List di}(n:C7 K H0 H J a bs)(s:et H0 L)(O : ∀b∈a::bs,L b=cR)(h : ∀b∈a::bs,H' b=H b):C7 K L H' J a bs:=
 ⟨O a Ot,by rw[h a Ot];exact n.ha,n.nd,n.len,λk b row e z=>by obtain⟨_,g,f,I⟩:=n.row k b row e z;have d:b∈a::bs:=Ow _<|OS e;exact⟨O b d,g,by rw[h b d];exact f,I.mono s⟩⟩
noncomputable def o9(K:Ob)(H0 H:Hp)(I:St)(γ:Ctx):Prop:=
 (∀(i:Nat) b,γ[i]? = cI (.nest b)->∃a bs,I[i]? = cI (cI (.ref a))/\C7 K H0 H b a bs/\∀(j:Nat) d c,γ[j]? = cI (.own d)->I[j]? = cI (cI (.ref c))->c∉a::bs)/\
 ∀(i j:Nat) z e,γ[i]? = cI (.nest z)->γ[j]? = cI (.nest e)->i=j
theorem o9.Ht{K:Ob}{H0 H:Hp}{J:St}{γ:Ctx}(h : ∀(i:Nat) I,γ[i]? ≠ cI (.nest I)):o9 K H0 H J γ:=⟨λi I e=>absurd e<|h i I,λi j z a e=>absurd e<|h i z⟩
theorem o9.move{K:Ob}{H0 H J H':Hp}{L:St}{γ:Ctx}(n:o9 K H0 H L γ)(s:et H0 J)(h : ∀(i:Nat) I a bs,γ[i]? = cI (.nest I)->L[i]? = cI (cI (.ref a))->C7 K H0 H I a bs->(∀(j:Nat) O c,γ[j]? = cI (.own O)->L[j]? = cI (cI (.ref c))->c∉a::bs)->∀b∈a::bs,J b=cR/\H' b=H b):o9 K J H' L γ:=
 ⟨λi I e=>by obtain⟨a,bs,d,f,z⟩:=n.1 i I e;exact⟨a,bs,d,f.move s (λb g=>(h i I a bs e d f z b g).1)<|λb g=>(h i I a bs e d f z b g).2,z⟩,n.2⟩
theorem o9.ext{K:Ob}{H0 H I H':Hp}{J:St}{γ:Ctx}(n:o9 K H0 H J γ)(e:Ext H0 H I H'):o9 K I H' J γ:=
 n.move e.s0 λi d a bs _ _ f _ b g=>by obtain⟨z,h,g2⟩:=f.at g;exact⟨e.new b z (by rw[g2];simp),by rw[e.s1 b _ g2,g2]⟩
structure RC(K:Ob)(H0 H:Hp)(σ:St)(γ:Ctx):Prop where
 sub:et H0 H
 len:σ.length=γ.length
 val : ∀(i:Nat) d,γ[i]? = cI (.val d)->∃v,σ[i]? = cI (cI v)/\Rep K H0 d v
 own : ∀(i:Nat) ds,γ[i]? = cI (.own ds)->∃a xs,σ[i]? = cI (cI (.ref a))/\H0 a=cR/\H a=cI (.lst xs)/\dt K H0 ds xs
 ne : ∀(i j:Nat) a ds es,γ[i]? = cI (.own ds)->γ[j]? = cI (.own es)->σ[i]? = cI (cI (.ref a))->σ[j]? = cI (cI (.ref a))->i=j
 s9:o9 K H0 H σ γ
theorem RC.ext{K:Ob}{H0 H J H':Hp}{L:St}{γ:Ctx}(r:RC K H0 H L γ)(e:Ext H0 H J H'):RC K J H' L γ:=
 ⟨e.sub,r.len,λi d h=>let ⟨v,b,f⟩:=r.val i d h;⟨v,b,f.mono e.s0⟩,
  λi g h=>let ⟨a,j,b,f,z,I⟩:=r.own i g h;⟨a,j,b,e.new a f (by rw[z];simp),e.s1 _ _ z,I.mono e.s0⟩,r.ne,r.s9.ext e⟩
noncomputable def tV(K:Ob)(f:CO D):TE:=λh H Q=>∃e g d,RC K e H h g/\f g=cI d/\∀v b a,Ext e H a b->Rep K a d v->Q v b
noncomputable def tQ(K:Ob)(f:CO (Sk×List D)):TE:=λj H Q=>∃g i k h,RC K g H j i/\f i=cI (k,h)/\∀a e d b,Ext g H b d->lb k K d a e->(k = .T->fh K b a e)->dt K b h e->Q (.ref a) d
noncomputable def tO(K:Ob)(f:CO (List D)):TE:=λj H Q=>∃e i g,RC K e H j i/\f i=cI g/\
 ∀a h d b,Ext e H b d->H a=cR->b a=cR->d a=cI (.lst h)->dt K b g h->Q (.ref a) d
noncomputable def tT(K:Ob)(f:CO Bool):TT:=λh H Q=>∃e g b,RC K e H h g/\f g=cI b/\∀d a,Ext e H a d->Q b d
noncomputable def tA(K:Ob)(f:CO (List D)):TA:=λi H Q=>∃d h e,RC K d H i h/\f h=cI e/\∀g b a,Ext d H a b->dt K a e g->Q g b
abbrev PV(X:Cx)(e:dy)(f:CO D):Prop:=PE X e (tV X.K f)
abbrev PQ(X:Cx)(e:dy)(f:CO (Sk×List D)):Prop:=PE X e (tQ X.K f)
abbrev PO(X:Cx)(e:dy)(f:CO (List D)):Prop:=PE X e (tO X.K f)
abbrev k0(X:Cx)(e:dy)(f:CO Bool):Prop:=PT X e (tT X.K f)
abbrev Dx(X:Cx)(e:dy)(f:CO Bool):Prop:=PW X e (tT X.K f)
abbrev yg(X:Cx)(es:List dy)(f:CO (List D)):Prop:=PA X es (tA X.K f)
theorem j6(h:PE X e t)(i : ∀J H Q,t' J H Q->t J H Q):PE X e t':=λa s J H Q I q=>h a s J H Q I<|i J H Q q
theorem Yx(h:PT X e t)(i : ∀J H Q,t' J H Q->t J H Q):PT X e t':=λa s J H Q I q=>h a s J H Q I<|i J H Q q
theorem CJ(h:PW X e t)(i : ∀J H Q,t' J H Q->t J H Q):PW X e t':=λz a s J H Q I q=>h z a s J H Q I<|i J H Q q
theorem ot(h:PA X es t)(i : ∀J H Q,t' J H Q->t J H Q):PA X es t':=λpos a s J H Q I q=>h pos a s J H Q I<|i J H Q q
theorem qX{X:Cx}{st:g8}{t t':TS}(h:PS X st t)(i : ∀D J H,t' D J H->t D J H):PS X st t':=λa s J H D I q=>h a s J H D I<|i D J H q
theorem rX{X:Cx}{st:List g8}{t t':TS}(h:hO X st t)(i : ∀D J H,t' D J H->t D J H):hO X st t':=λa s J H D I q=>h a s J H D I<|i D J H q
theorem Kj(h:PI X tg e t)(i : ∀J H R,t' J H R->t J H R):PI X tg e t':=λa s J H R I q=>h a s J H R I<|i J H R q
theorem kJ(h:n<=lim):n<=eJ:=PK h ⋯
section
variable{X:Cx}{e a b c:dy}{pos:eo}
theorem PV.q(h:PV X e f):PQ X e (zL f):=j6 h λt H Q Y=>by
 obtain⟨s,p,k,i,rc,I,q⟩:=Y;unfold zL at I;cases e1:f p with
 | none=>rw[e1]at I;cases I
 | some d=>
  rw[e1]at I;refine⟨s,p,d,rc,e1,λv o b ext r=>?_⟩;cases d with
  | tup m=>
   obtain⟨l,O⟩:k = .T/\i=m:=by simp[jo]at I;exact⟨I.1.symm,I.2.symm⟩
   subst l O;obtain⟨a,g,rfl,j,n⟩:=(show ∃a g,v = .ref a/\fh X.K b a g/\dt X.K b i g from r);exact q a g o b ext (ix ext.sub j) (λ_=>j) n
  | lst m=>
   obtain⟨l,O⟩:k = .L/\i=m:=by simp[jo]at I;exact⟨I.1.symm,I.2.symm⟩
   subst l O;obtain⟨a,g,rfl,j,n⟩:=(show ∃a g,v = .ref a/\e9 X.K b a g/\dt X.K b i g from r);exact q a g o b ext (ext.sub.seq j) (λz=>nomatch z) n
  | _=>simp[jo]at I
theorem PO.v(h:PO X e f):PV X e (xh f):=j6 h λp H Q Y=>by
 obtain⟨j,i,d,rc,z,q⟩:=Y;unfold xh at z;cases e1:f i with
 | none=>rw[e1]at z;cases z
 | some b=>
  rw[e1]at z;cases z;refine⟨j,i,b,rc,e1,λa n o k ext l g m r=>?_⟩;exact q _ _ _ (ext.show l g m rc.sub) (show ∃I O,V.ref a = .ref I/\e9 X.K _ I O/\dt X.K _ b O from⟨a,n,rfl,e9.of zB,r.mono<|zX g _⟩)
theorem PO.q(h:PO X e f):PQ X e (jR f):=j6 h λp H Q O=>by
 obtain⟨i,d,k,l,rc,I,q⟩:=O;unfold jR at I;cases e1:f d with
 | none=>rw[e1]at I;cases I
 | some m=>
  rw[e1]at I;cases I;exact⟨i,d,_,rc,e1,λa j g b ext n o Y r=>q a j g b ext (e9.of Y) (λz=>nomatch z) r⟩
theorem CK(i:Nat)(h:PE X e (wF i)):PV X e (ze i):=j6 h λm H Q I=>by
 obtain⟨b,j,d,rc,z,q⟩:=I;unfold ze at z;cases e1:j[i]? with
 | none=>rw[e1]at z;cases z
 | some c=>
  rw[e1]at z;cases c with
  | val k=>
   cases z;obtain⟨v,f,g⟩:=rc.val i d e1;exact⟨v,f,q v H b (Ext.refl rc.sub) g⟩
  | no=>cases z
  | own l=>cases z
  | nest a=>cases z
theorem Ee(i:Nat)(h:PE X e (wF i)):PQ X e (zq i):=j6 h λu H Q s=>by
 obtain⟨f,t,k,g,rc,I,q⟩:=s;unfold zq at I;cases e1:t[i]? with
 | none=>rw[e1]at I;cases I
 | some c=>
  rw[e1]at I;cases c with
  | no=>cases I
  | nest o=>cases I
  | own j=>
   cases I;obtain⟨a,b,m,n,p,r⟩:=rc.own i g e1;exact⟨_,m,q a b H f (Ext.refl rc.sub) (e9.of p) (λz=>nomatch z) r⟩
  | val d=>
   obtain⟨v,m,n⟩:=rc.val i d e1;refine⟨v,m,?_⟩;cases d with
   | tup j=>
    obtain⟨l,Y⟩:k = .T/\g=j:=by simp[Zh,jo]at I;exact⟨I.1.symm,I.2.symm⟩
    subst l Y;obtain⟨a,b,rfl,O,g2⟩:=(show ∃a b,v = .ref a/\fh X.K f a b/\dt X.K f g b from n);exact q a b H f (Ext.refl rc.sub) (ix rc.sub O) (λ_=>O) g2
   | lst j=>
    obtain⟨l,Y⟩:k = .L/\g=j:=by simp[Zh,jo]at I;exact⟨I.1.symm,I.2.symm⟩
    subst l Y;obtain⟨a,b,rfl,O,g2⟩:=(show ∃a b,v = .ref a/\e9 X.K f a b/\dt X.K f g b from n);exact q a b H f (Ext.refl rc.sub) (rc.sub.seq O) (λz=>nomatch z) g2
   | _=>simp[Zh,jo]at I
theorem Kc(h:PE X e (tC v))(r : ∀H,Rep X.K H d v):PV X e (zx d):=j6 h λg H Q z=>by obtain⟨a,f,b,rc,I,q⟩:=z;cases I;exact q v H a (Ext.refl rc.sub)<|r a
theorem zm:PV X (.Constant (.int i) j pos) (zx<|.int i):=Kc Em λ_=>(show V.int i = .int i from rfl)
theorem uH:PV X (.Constant (.bool x) j pos) (zx<|.bl x):=Kc Iq λ_=>(show V.bl x = .bl x from rfl)
theorem yM:PV X (.Constant (.str x) j pos) (zx<|.str x):=Kc se λ_=>(show V.str x = .str x from rfl)
noncomputable def n0(K:Ob)(r:R2)(F:D->D->Option D):Prop:=∀b H x y f z d Q,et b H->Rep K b f x->Rep K b z y->F f z=cI d->(∀v e a,Ext b H a e->Rep K a d v->Q v e)->r x y H Q
theorem zb(h:o.bind f=cI y) : ∃x,o=cI x/\f x=cI y:=by
 cases o with
 | none=>cases h
 | some x=>exact⟨x,rfl,h⟩
theorem VM{K:Ob}{r:R2}{F:D->D->Option D}{L fb:CO D}(hs:n0 K r F) : ∀J H Q,tV K (zw F L fb) J H Q->DR r (tV K L) (tV K fb) J H Q:=λJ H Q O=>by obtain⟨f,b,d,rc,z,q⟩:=O;obtain⟨x,j,z⟩:=zb z;obtain⟨y,k,z⟩:=zb z;refine⟨f,b,x,rc,j,λY p h x1 l=>⟨h,b,y,rc.ext x1,k,λo g i I m=>?_⟩⟩;exact hs i g Y o x y d Q I.sub (l.mono I.s0) m z λv e a x3 n=>q v e a (x1.trans<|I.trans x3) n
theorem Xg(z:hJ X (t8 op) r)(L:n0 X.K r F)(I:PV X a fa)(J:PV X b fb):PV X (.BinOp a op b pos) (zw F fa fb):=
 j6 (uZ z I J) (VM L)
theorem CV(z:hJ X (m9 op) r)(O:n0 X.K r F)(I:PV X a fa)(J:PV X b fb)(L:t7 op b=dd):PV X (.Compare a [op] [b] pos) (zw F fa fb):=
 j6 (gy z I J L) (VM O)
theorem wt{d:D}{b:Bool}(h:p8 d=cI b):d = .bl b:=by cases d<;>simp[p8]at h;rw[h]
theorem Ke(I:hJ X (m9 op) r)(hs:n0 X.K r F)(J:PV X a fa)(L:PV X b fb)(Y:t7 op b=dd):k0 X (.Compare a [op] [b] pos) (sB<|zw F fa fb):=
 Yx (Kf I J L Y) λj H Q O=>by obtain⟨g,i,k,rc,z,q⟩:=O;obtain⟨d,h,z⟩:=zb z;refine VM hs j H _ ⟨g,i,d,rc,h,λv f e x r=>?_⟩;rw[wt z]at r;exact⟨k,r,q f e x⟩
theorem kG{f:CO D}(h:PV X e f)(O : ∀I,DG e X.env I=(do let v <- I;DO e.pos;u6 [v] (Lo v)):=by intro _;rfl):k0 X e (sB f):=
 Yx (CZ h O) λl H Q Y=>by obtain⟨g,j,k,rc,z,q⟩:=Y;obtain⟨d,i,z⟩:=zb z;refine⟨g,j,d,rc,i,λv b a x r=>?_⟩;rw[wt z]at r;exact⟨k,r,q b a x⟩
theorem xn(h:k0 X a f):Dx X (.BoolOp .And [a] pos) f:=uC h
theorem uB(h:k0 X a f):Dx X (.BoolOp .Or [a] pos) f:=CH h
theorem kF{f g:CO Bool}{qZ:List dy}(J:k0 X a f)(L:Dx X (.BoolOp .And (b::qZ) pos) g):Dx X (.BoolOp .And (a::b::qZ) pos) (xi f g):=
 CJ (CI J L) λm H Q I=>by
  obtain⟨i,e,k,rc,z,q⟩:=I;obtain⟨c,l,z⟩:=zb z;refine⟨i,e,c,rc,l,λh d x=>?_⟩;cases c with
  | true=>rw[DZ rfl]at z ⊢;exact⟨d,e,k,rc.ext x,z,λj O Y=>q j O<|x.trans Y⟩
  | false=>rw[DJ Oy]at z ⊢;cases z;exact q h d x
theorem CG{f g:CO Bool}{qZ:List dy}(J:k0 X a f)(L:Dx X (.BoolOp .Or (b::qZ) pos) g):Dx X (.BoolOp .Or (a::b::qZ) pos) (uq f g):=
 CJ (Ii J L) λm H Q I=>by
  obtain⟨i,e,k,rc,z,q⟩:=I;obtain⟨c,l,z⟩:=zb z;refine⟨i,e,c,rc,l,λh d x=>?_⟩;cases c with
  | true=>rw[DZ rfl]at z ⊢;cases z;exact q h d x
  | false=>rw[DJ Oy]at z ⊢;exact⟨d,e,k,rc.ext x,z,λj O Y=>q j O<|x.trans Y⟩
theorem wN(J:k0 X a f):k0 X (.UnaryOp .Not a pos) (kW f):=
 Yx (Ea J) λh H Q I=>by
  obtain⟨g,d,k,rc,z,q⟩:=I;unfold kW at z;cases e1:f d with
  | none=>rw[e1]at z;cases z
  | some c=>rw[e1]at z;cases z;exact⟨g,d,c,rc,e1,λe b x=>q e b x⟩
theorem Je(h:Dx X e f):k0 X e f:=h.pt
theorem ai(h:PV X a f):PV X (.BoolOp op [a] pos) f:=Ek h
theorem rV{f g:CO D}{qZ:List dy}(J:PV X a f)(L:PV X (.BoolOp .And (b::qZ) pos) g):PV X (.BoolOp .And (a::b::qZ) pos) (Gz f g):=
 j6 (En J L) λs H Q I=>by
  obtain⟨k,i,d,rc,z,q⟩:=I;obtain⟨c,h,z⟩:=zb z;obtain⟨O,Y,h⟩:=zb h;refine⟨k,i,O,rc,Y,λv j e x r=>?_⟩;rw[wt h]at r;refine⟨c,r,?_⟩;cases c with
  | true=>rw[DZ rfl]at z ⊢;exact⟨e,i,d,rc.ext x,z,λo l m p n=>q o l m (x.trans p) n⟩
  | false=>rw[DJ Oy]at z ⊢;cases z;exact q _ j e x (show V.bl dd = .bl dd from rfl)
theorem CM{f g:CO D}{qZ:List dy}(J:PV X a f)(L:PV X (.BoolOp .Or (b::qZ) pos) g):PV X (.BoolOp .Or (a::b::qZ) pos) (Fc f g):=
 j6 (Ip J L) λs H Q I=>by
  obtain⟨k,i,d,rc,z,q⟩:=I;obtain⟨c,h,z⟩:=zb z;obtain⟨O,Y,h⟩:=zb h;refine⟨k,i,O,rc,Y,λv j e x r=>?_⟩;rw[wt h]at r;refine⟨c,r,?_⟩;cases c with
  | true=>rw[DZ rfl]at z ⊢;cases z;exact q _ j e x (show V.bl cL = .bl cL from rfl)
  | false=>rw[DJ Oy]at z ⊢;exact⟨e,i,d,rc.ext x,z,λo l m p n=>q o l m (x.trans p) n⟩
theorem CN(J:PV X a f):PV X (.UnaryOp .Not a pos) (HV f):=
 j6 (El J) λi H Q O=>by
  obtain⟨h,e,d,rc,z,q⟩:=O;unfold HV at z;cases e1:f e with
  | none=>rw[e1]at z;cases z
  | some I=>
   rw[e1]at z;refine⟨h,e,I,rc,e1,λv g b x r=>?_⟩;cases I with
   | bl c=>cases z;exact⟨c,r,q _ g b x<|show V.bl (!c) = .bl (!c)from rfl⟩
   | _=>cases z
theorem qS(hc:k0 X c k)(J:PV X a f)(L:PV X b g):PV X (.IfExp c a b pos) (VE k f g):=
 j6 (oh hc J L) λp H Q n=>by
  obtain⟨l,j,d,rc,z,q⟩:=n;obtain⟨t,m,z⟩:=zb z;refine⟨l,j,t,rc,m,λo e x=>?_⟩;cases t with
  | true=>rw[DZ rfl]at z ⊢;exact⟨e,j,d,rc.ext x,z,λI h O Y i=>q I h O (x.trans Y) i⟩
  | false=>rw[DJ Oy]at z ⊢;exact⟨e,j,d,rc.ext x,z,λI h O Y i=>q I h O (x.trans Y) i⟩
theorem gA:yg X [] zC:=ot jF λe H Q z=>by obtain⟨a,d,b,rc,I,q⟩:=z;cases I;exact q [] H a (Ext.refl rc.sub) dt.nil
theorem vT(J:PV X e f)(O:yg X es g)(L:ei (e::es) X.env=(dd,d3 e X.env)::ei es X.env:=by rfl):yg X (e::es) (zc f g):=
 ot (zQ J O L) λs H Q Y=>by
  obtain⟨d,b,p,rc,z,q⟩:=Y;obtain⟨x,k,z⟩:=zb z;cases a:g b with
  | none=>rw[a]at z;cases z
  | some r=>
   rw[a]at z;cases z;exact⟨d,b,x,rc,k,λv o i x1 l=>⟨i,b,r,rc.ext x1,a,λn h j I m=>q (v::n) h j (x1.trans I)<|dt.cons (l.mono I.s0) m⟩⟩
theorem jg(h:yg X es f):PV X (.Tuple es x1 pos) (qe f):=
 j6 (sd h) λo H Q j=>by
  obtain⟨g,l,d,rc,z,q⟩:=j;obtain⟨b,i,z⟩:=zb z;by_cases I:b.length<=lim
  ·rw[DZ I]at z;cases z
   refine⟨g,l,b,rc,i,λk m n x1 O=>⟨kJ (by rw[O.length];exact I),λp Y=>?_⟩⟩;exact q _ _ _ (x1.trans<|Ext.alloc x1.sub Y _) (show ∃a e,V.ref p = .ref a/\fh X.K _ a e/\dt X.K _ b e from⟨p,k,rfl,fh.of zB,O.mono<|zX (jk x1.sub Y) _⟩)
  ·rw[DJ I]at z;cases z
theorem yO(h:yg X es f):PO X (.List es pos) (ye f):=
 j6 (sf h) λn H Q j=>by
  obtain⟨b,l,d,rc,I,q⟩:=j;obtain⟨g,i,I⟩:=zb I;by_cases Y:g.length<=lim
  ·rw[DZ Y]at I;cases I
   refine⟨b,l,_,rc,i,λk m e x1 a=>⟨kJ (by rw[a.length];exact Y),λp O=>?_⟩⟩;exact q p k _ e (x1.trans<|Ext.hide x1.sub O _) (by
    cases z:H p with
    | none=>rfl
    | some o=>rw[x1.s1 p o z]at O;cases O) (jk x1.sub O) zB a
  ·rw[DJ Y]at I;cases I
end
theorem yU:entryFor table "dict.update.loop" = cI n9.«dict.update.loop» :=entryFor_of_tree (by kernel_rfl)
theorem yL(args:Args):(Code.builtin "dict.update.loop" args).quiet=cL:=Code.quiet_builtin _ ⋯
end DL
namespace L2
open PySem PySem.Spec PyProof.Rows
structure M2(X:Cx)(o:dy)(m:Str)(apos:eo)(e f:dy)(cpos:eo):Prop where
 base:vt o m X.env (d3 o X.env)=d3 o X.env
 d?:((j1 cpos<|starEach [e,f] X.env).all (λx=> !x.1) && (y1 cpos<|keywordEach [] X.env).all (λx=>x.1.isSome)
  && decide (([e,f]:List dy).length+([]:List o8).length+(if ([]:List o8).isEmpty then 0 else 1)<30))=cL
 line:(apos.endLine==cpos.line)=cL
 trees:j1 cpos (ei [e,f] X.env)=[(dd,d3 e X.env),(dd,d3 f X.env)]
end L2
namespace DL
open PySem L2
noncomputable def NS(i:Nat)(f:CO D)(γ:Ctx):Option D:=(qI γ[i]?).bind λa=>(f<|γ.set i<|.val<|.lst a).bind λd=>if IU d=cL then cI d else cR
noncomputable def Nm(i:Nat)(f:CO Bool)(γ:Ctx):Option Bool:=(qI γ[i]?).bind λa=>f<|γ.set i<|.val<|.lst a
noncomputable def Md(i:Nat)(γ:Ctx):Option Fl:=(qI γ[i]?).map λ_=> .next (γ.set i<|.own [])
noncomputable def xG(I:List D):List D:=(Od I.length).map λ(i:Nat)=>D.tup [.int i,I[i]?.getD .eg]
noncomputable def cC(f:CO D)(γ:Ctx):Option (List D):=(f γ).bind λd=>match d with
 | .tup a=>cI (xG a)
 | _=>cR
noncomputable def QI:List D->Option (List Int)
 | []=>cI []
 | .int i::r=>(QI r).map λl=>i::l
 | _::_=>cR
noncomputable def Ma(f:CO D)(g:CO (Sk×List D))(γ:Ctx):Option D:=(f γ).bind λd=>(g γ).bind λa=>(js d).bind λi=>(QI a.2).map λl=> .bl (decide<|i∈l)
noncomputable def iO(k:Int):List Int->Option Nat
 | []=>cR
 | i::r=>if i=k then cI 0 else (iO k r).map (· + 1)
noncomputable def NQ(f g:CO D)(γ:Ctx):Option D:=(f γ).bind λd=>((g γ).bind js).bind λk=>match d with
 | .tup a=>(QI a).bind λl=>(iO k l).map λ(j:Nat)=>D.int (j:Int)
 | _=>cR
noncomputable def Zg(T:Tg)(f:CO (List D))(γ:Ctx):List D->Option (List<|List D)
 | []=>cI []
 | d::ds=>(qz T d γ).bind λa=>(f a).bind λe=>(Zg T f γ ds).map λr=>e::r
noncomputable def W3(I:CO (List D))(T:Tg)(n:Nat)(fr:List Nat)(f:CO (List D))(γ:Ctx):Option (List<|List D):=(I γ).bind λa=>if a.length<=lim then Zg T f (jL n fr γ) a else cR
noncomputable def KM:Option Cell->Option (List<|List D)
 | some (.nest rows)=>cI rows
 | _=>cR
noncomputable def rS(γ:Ctx)(j i:Nat)(r:List D):Ctx:=(γ.set j .no).set i (.own r)
noncomputable def aX(j i:Nat)(g f:CO D)(γ:Ctx):List (List D)->Option (List<|List D)
 | []=>cI []
 | r::rs=>(f<|rS γ j i r).bind λd=>((g<|rS γ j i r).bind js).bind λk=>(l5 r.length k).bind λm=>(aX j i g f γ rs).map λt=>r.set m d::t
noncomputable def HY(j i:Nat)(g f:CO D)(γ:Ctx):Option Fl:=(KM γ[j]?).bind λa=>if i=j\/γ.length<=i then cR else (aX j i g f γ a).map λz=> .next ((γ.set j<|.nest z).set i .no)
noncomputable def Mb(i:Nat)(F:CO Fl)(γ:Ctx):Option Fl:=(qI γ[i]?).bind λa=>F<|γ.set i<|.val<|.lst a
noncomputable def Nk(i:Nat)(F:CO Fl)(γ:Ctx):Option Fl:=(KM γ[i]?).bind λa=>F<|γ.set i<|.val<|.lst<|a.map D.lst
noncomputable def LX(is:List Nat)(f:CO D)(γ:Ctx):Option Fl:=(f γ).bind λd=>match d with
 | .lst a=>if a.length=is.length then cI (.next<|qF is a γ)else cR
 | _=>cR
noncomputable def Ye:List D->Option (List Str)
 | []=>cI []
 | .str x::r=>(Ye r).map λl=>x::l
 | _::_=>cR
noncomputable def jy(x:Str):Bool:=decide<|x.length<=1000
noncomputable def X6(f:CO D)(g:CO (Sk×List D))(γ:Ctx):Option D:=(f γ).bind λd=>(g γ).bind λa=>match d,a.1 with
 | .str sep,.L=>(Ye a.2).bind λl=>if l.length<=lim/\l.all jy=cL/\jy sep=cL then cI (.str<|LN sep l)else cR
 | _,_=>cR
noncomputable def Xc(f g:CO D)(γ:Ctx):Option D:=(f γ).bind λd=>((g γ).bind js).bind λi=>match d with
 | .str z=>if jy z=cL then (l5 z.cps.toList.length i).bind λk=>z.cps.toList[k]?.map λc=> .str ⟨#[c]⟩else cR
 | _=>cR
noncomputable def Yn(f:CO D)(γ:Ctx):Option D:=(f γ).bind λd=>match d with
 | .str z=>if jy z=cL then cI (.int z.length)else cR
 | _=>cR
noncomputable def Nl(z O I Y:Str)(f:CO D)(γ:Ctx):Option D:=(f γ).bind λd=>match d with
 | .str x=>if z=I then cR else if x=z then cI (.str O)else if x=I then cI (.str Y)else cR
 | _=>cR
noncomputable def Cs(f g:CO D)(γ:Ctx):Option D:=((f γ).bind js).bind λi=>((g γ).bind js).map λj=> .int (if j<i then j else i)
abbrev Xn:=Str×Option Int
noncomputable def d_:CO Xn:=λ_=>cR
noncomputable def Hw(c:Str):CO Xn:=λ_=>cI (c,cR)
noncomputable def c_(k:CO Bool)(G H:CO Xn):CO Xn:=λa=>(k a).bind λb=>if b=cL then G a else H a
noncomputable def NI(c:Str):Str:=if c==("NoRoom" : Str)then "room" else "at"
noncomputable def VD(f:CO D)(g:CO (Sk×List D)):CO D:=λb=>(f b).bind λd=>(g b).bind λa=>(js d).bind λi=>(QI a.2).map λl=> .bl (!decide (i∈l))
end DL
namespace DL
open PySem L2
open PySem.W (KasT kas_sort)
noncomputable def kl(z:Str):List D:=z.cps.toList.map λc=>D.str ⟨#[c]⟩
noncomputable def Cr(f:CO D)(γ:Ctx):Option (List D):=(f γ).bind λd=>match d with
 | .str z=>if jy z=cL then cI (kl z)else cR
 | _=>cR
noncomputable def xW(f:CO D)(γ:Ctx):Option (List D):=(f γ).bind λd=>match d with
 | .str z=>if jy z=cL then cI (xG<|kl z)else cR
 | _=>cR
noncomputable def Xd(f:CO D)(γ:Ctx):Option (List D):=(f γ).bind λd=>match d with
 | .lst a=>cI (xG a)
 | _=>cR
noncomputable def Nj(f:CO D)(g:CO (Sk×List D))(γ:Ctx):Option D:=(f γ).bind λd=>(g γ).bind λa=>match d with
 | .str x=>(Ye a.2).map λl=> .bl (l.any λy=>y==x)
 | _=>cR
noncomputable def nC(f g:CO D):CO D:=λa=>(f a).bind λd=>(g a).bind λe=>match d,e with
 | .str x,.str y=>if jy x=cL/\jy y=cL then cI (.str<|x++y)else cR
 | _,_=>cR
noncomputable def oq:D->Option (Int×Int)
 | .tup [.int a,.int b]=>cI (a,b)
 | _=>cR
noncomputable def Zl:List D->Option (List<|Int×Int)
 | []=>cI []
 | d::r=>(oq d).bind λp=>(Zl r).map λl=>p::l
noncomputable def GI(x y:Int×Int):Bool:=if x.1=y.1 then decide (x.2<y.2)else decide (x.1<y.1)
noncomputable def Cv{I:Type}(lt:Nat->Nat->Bool):KasT I->I
 | .ret a=>a
 | .ask i j k=>Cv lt<|k<|lt i j
noncomputable def kh(ps:List (Int×Int)):List Nat:=if ps.length<2 then Od ps.length else (Cv (λi j=>GI (ps.getD i (0,0))<|ps.getD j (0,0))<|kas_sort ps.length).toList
noncomputable def fw(I:List D):Option (List D):=(Zl I).bind λa=>if I.length<64 then cI ((kh a).map λi=>I.getD i .eg)else cR
noncomputable def Ym(f:CO (Sk×List D))(γ:Ctx):Option (List D):=(f γ).bind λa=>match a.1 with
 | .L=>fw a.2
 | _=>cR
end DL
namespace DL
open PySem L2
noncomputable def fH(i:Nat)(f:CO (List D))(γ:Ctx):Option Fl:=(qI γ[i]?).bind λa=>(f γ).bind λb=>if a.length+b.length<=lim then cI (.next<|γ.set i<|.own<|a++b)else cR
noncomputable def rQ(F G:List D->Option Res)(g:CO (List D))(γ:Ctx):Option (List D):=(g γ).bind λl=>match l with
 | [p,.str z,t,b]=>((if z=("r" : Str)then F else G) [p,t,b]).bind GA
 | _=>cR
noncomputable def wc:List D->Option (List Int)
 | []=>cI []
 | .int i::r=>(wc r).map λl=>i::l
 | _::_=>cR
noncomputable def IY(I J:List D):Option D:=match wc I with
 | some a=>if I.length=J.length/\a.Nodup/\I.length<=lim then cI (.lp I J)else cR
 | none=>cR
noncomputable def aV:List D->List D->Int->Option D
 | k::ks,v::vs,i=>match k with
  | .int j=>if j=i then cI v else aV ks vs i
  | _=>aV ks vs i
 | _,_,_=>cR
open PySem.Spec PyProof.Rows
structure RS(K:Ob)(E0 E H0 H:Hp)(σ:St)(γ:Ctx):Prop where
 rc:RC K H0 H σ γ
 ext:Ext E0 E H0 H
 fresh : ∀(i:Nat) ds a,γ[i]? = cI (.own ds)->σ[i]? = cI (cI (.ref a))->E a=cR
 u0 : ∀(i:Nat) rows a xs,γ[i]? = cI (.nest rows)->σ[i]? = cI (cI (.ref a))->H a=cI (.lst xs)->E a=cR/\∀b,V.ref b∈xs->E b=cR
noncomputable def Sat(K:Ob)(E0 E:Hp)(D:Ends):Fl->Prop
 | .next f=>∀e H b,RS K E0 E b H e f->D.nx e H
 | .brk f=>∀e H b,RS K E0 E b H e f->D.bk e H
 | .cont f=>∀e H b,RS K E0 E b H e f->D.ct e H
 | .ret (.val d)=>∀v H b,Ext E0 E b H->Rep K b d v->D.rt v H
 | .ret (.own es)=>∀a g H b,Ext E0 E b H->E a=cR->b a=cR->H a=cI (.lst g)->dt K b es g->D.rt (.ref a) H
noncomputable def tS(K:Ob)(F:CO Fl):TS:=λD d H=>∃E0 E b a z,RS K E0 E b H d a/\F a=cI z/\Sat K E0 E D z
abbrev l3(X:Cx)(st:g8)(F:CO Fl):Prop:=PS X st (tS X.K F)
abbrev bM(X:Cx)(E?:List g8)(F:CO Fl):Prop:=hO X E? (tS X.K F)
section
variable{K:Ob}{E0 E H0 H r9 H':Hp}{σ:St}{γ:Ctx}
theorem RS.step(r:RS K E0 E H0 H σ γ)(e:Ext H0 H r9 H'):RS K E0 E r9 H' σ γ:=⟨r.rc.ext e,r.ext.trans e,r.fresh,λi b a g d f I=>by obtain⟨O,bs,z,g2,_⟩:=r.rc.s9.1 i b d;rw[f]at z;cases z;have:=e.s1 a _ g2.ha;rw[I]at this;cases this;exact r.u0 i b a _ d f g2.ha⟩
theorem zN{I:Type}{l:List I}{i j:Nat}{x y:I}(h:(l.set i x)[j]? = cI y):(j=i/\y=x/\i<l.length)\/(j≠i/\l[j]? = cI y):=by
 by_cases e:i=j
 ·subst e
  by_cases z:i<l.length
  ·rw[Pj z]at h;cases h;exact .inl ⟨rfl,rfl,z⟩
  ·rw[List.set_eq_of_length_le ⋯]at h
   exact absurd (Ol.mp h).1 z
 ·rw[Ox e]at h;exact .inr ⟨PH e,h⟩
theorem o9.u7{i:Nat}{d:D}{v:V}(n:o9 K H0 H σ γ):o9 K H0 H (σ.set i<|some v) (γ.set i<|.val d):=
 ⟨λj b e=>by
  rcases zN e with⟨_,z,_⟩ | ⟨I,z⟩
  ·cases z
  ·obtain⟨a,bs,m,o,O⟩:=n.1 j b z
   refine⟨a,bs,by rw[Ox (PH I)];exact m,o,λk l c g f=>?_⟩;rcases zN g with⟨_,z,_⟩ | ⟨p,h⟩
   ·cases z
   ·rw[Ox (PH p)]at f;exact O k l c h f,
 λj k Y r g f=>by
  rcases zN g with⟨_,z,_⟩ | ⟨_,h⟩
  ·cases z
  ·rcases zN f with⟨_,z,_⟩ | ⟨_,s⟩
   ·cases z
   ·exact n.2 j k Y r h s⟩
theorem RC.u7{i:Nat}{d:D}{v:V}(r:RC K H0 H σ γ)(h:Rep K H0 d v):RC K H0 H (σ.set i<|some v) (γ.set i<|.val d):=by
 refine⟨r.sub,by simp[r.len],λj l e=>?_,λj b e=>?_,λj k a b o m n Y f=>?_,r.s9.u7⟩
 ·rcases zN e with⟨rfl,z,g⟩ | ⟨I,z⟩
  ·cases z;exact⟨v,Pj (by rw[r.len];exact g),h⟩
  ·obtain⟨s,O,g2⟩:=r.val j l z
   exact⟨s,by rw[Ox (PH I)];exact O,g2⟩
 ·rcases zN e with⟨rfl,z,g⟩ | ⟨I,z⟩
  ·cases z
  ·obtain⟨a,t,O,g2⟩:=r.own j b z
   exact⟨a,t,by rw[Ox (PH I)];exact O,g2⟩
 ·rcases zN m with⟨_,z,_⟩ | ⟨I,u⟩
  ·cases z
  ·rcases zN n with⟨_,z,_⟩ | ⟨p,w⟩
   ·cases z
   ·rw[Ox (PH I)]at Y
    rw[Ox (PH p)]at f;exact r.ne j k a b o u w Y f
theorem RS.u7{i:Nat}{d:D}{v:V}(r:RS K E0 E H0 H σ γ)(h:Rep K H0 d v):RS K E0 E H0 H (σ.set i<|some v) (γ.set i<|.val d):=
 ⟨r.rc.u7 h,r.ext,λj g a f b=>by
  rcases zN f with⟨_,z,_⟩ | ⟨I,z⟩
  ·cases z
  ·rw[Ox (PH I)]at b;exact r.fresh j g a z b,
 λj e a k f b O=>by
  rcases zN f with⟨_,z,_⟩ | ⟨I,z⟩
  ·cases z
  ·rw[Ox (PH I)]at b;exact r.u0 j e a k z b O⟩
theorem Jz : ∀{z bs:List di},z.map V.ref=bs.map V.ref->z=bs
 | [],[],_=>rfl
 | [],_::_,h=>by cases h
 | _::_,[],h=>by cases h
 | a::z,b::bs,h=>by rw[OH,OH]at h;injection h with h1 h2;injection h1 with h1;rw[h1,Jz h2]
theorem RS.C?{i:Nat}{es:List D}{a:di}{xs:List V}{L G:Hp}(r:RS K E0 E L G σ γ)(e:Ext L G H0 H)(J:G a=cR)(h2:H0 a=cR)(h3:H a=cI (.lst xs))(h4:dt K H0 es xs) :
 RS K E0 E H0 H (σ.set i<|some (.ref a)) (γ.set i<|.own es):=by
 have rc:=r.rc.ext e;have no : ∀(j:Nat) f,γ[j]? = cI (.own f)->¬σ[j]? = cI (cI (.ref a)):=λj f g z=>by obtain⟨b,w,I,g2,g3,_⟩:=r.rc.own j f g;rw[z]at I;cases I;rw[J]at g3;cases g3
 refine⟨⟨rc.sub,by simp[rc.len],λj y g=>?_,λj f g=>?_,λj k b f fs u h l m=>?_,⟨λj d g=>?_,λj k F M I g2=>?_⟩⟩,r.ext.trans e,λj f b I g2=>?_,λj d b xs I g2 g3=>?_⟩
 ·rcases zN g with⟨_,z,_⟩ | ⟨O,z⟩
  ·cases z
  ·obtain⟨N,I,g2⟩:=rc.val j y z
   exact⟨N,by rw[Ox (PH O)];exact I,g2⟩
 ·rcases zN g with⟨rfl,z,Y⟩ | ⟨O,z⟩
  ·cases z;exact⟨a,xs,Pj (by rw[rc.len];exact Y),h2,h3,h4⟩
  ·obtain⟨b,w,I,g2⟩:=rc.own j f z
   exact⟨b,w,by rw[Ox (PH O)];exact I,g2⟩
 ·rcases zN u with⟨rfl,z,Y⟩ | ⟨O,n⟩
  ·rcases zN h with⟨rfl,_,_⟩ | ⟨p,s⟩
   ·rfl
   ·rw[Pj (by rw[rc.len];exact Y)]at l
    rw[Ox (PH p)]at m;cases l;exact absurd m<|no k fs s
  ·rcases zN h with⟨rfl,z,Y⟩ | ⟨p,s⟩
   ·rw[Pj (by rw[rc.len];exact Y)]at m
    rw[Ox (PH O)]at l;cases m;exact absurd l<|no j f n
   ·rw[Ox (PH O)]at l
    rw[Ox (PH p)]at m;exact rc.ne j k b f fs n s l m
 ·rcases zN g with⟨_,z,_⟩ | ⟨O,z⟩
  ·cases z
  ·obtain⟨b,bs,I,g2,g3⟩:=r.rc.s9.1 j d z
   obtain⟨Q,t,f1,f2,B⟩:=rc.s9.1 j d z;rw[I]at f1;cases f1;have A:t.map V.ref=bs.map V.ref:=by have:=e.s1 b _ g2.ha;rw[f2.ha]at this;injection this with this;injection this
   have x:t=bs:=Jz A;subst x;refine⟨b,t,by rw[Ox (PH O)];exact I,f2,λk f c u h=>?_⟩;rcases zN u with⟨rfl,_,Y⟩ | ⟨p,n⟩
   ·rw[Pj (by rw[rc.len];exact Y)]at h;cases h
    intro C;obtain⟨_,P,q⟩:=g2.at C;rw[J]at q;cases q
   ·rw[Ox (PH p)]at h;exact B k f c n h
 ·rcases zN I with⟨_,z,_⟩ | ⟨_,n⟩
  ·cases z
  ·rcases zN g2 with⟨_,z,_⟩ | ⟨_,s⟩
   ·cases z
   ·exact rc.s9.2 j k F M n s
 ·rcases zN I with⟨rfl,z,Y⟩ | ⟨O,z⟩
  ·rw[Pj (by rw[rc.len];exact Y)]at g2;cases g2
   cases q:E a with
   | none=>rfl
   | some o=>rw[r.ext.s1 a o q]at J;cases J
  ·rw[Ox (PH O)]at g2;exact r.fresh j f b z g2
 ·rcases zN I with⟨_,z,_⟩ | ⟨O,z⟩
  ·cases z
  ·rw[Ox (PH O)]at g2;exact(r.step e).u0 j d b xs z g2 g3
theorem RS.rewrite{i:Nat}{J es:List D}{a:di}{xs ys:List V}(r:RS K E0 E H0 H σ γ)(L:γ[i]? = cI (.own J))(hs:σ[i]? = cI (cI (.ref a)))(h4:dt K H0 es ys) :
 RS K E0 E H0 (upd H a<|.lst ys) σ (γ.set i<|.own es):=by
 obtain⟨G,M,g1,g2,g3,Q⟩:=r.rc.own i J L;rw[hs]at g1;cases g1;have N:i<γ.length:=(Ol.mp L).1;refine⟨⟨λb o q=>?_,by simp[r.rc.len],λj y g=>?_,λj fs g=>?_,λj k b fs gs f d m A=>?_,⟨λj e g=>?_,λj k C F f d=>?_⟩⟩,⟨r.ext.s0,λb o q=>?_,λb o q=>?_,r.ext.new⟩,λj fs b f d=>?_,λj e b t f d m=>?_⟩
 ·rw[zH (λz=>by rw[z,g2]at q;cases q)];exact r.rc.sub b o q
 ·rcases zN g with⟨_,z,_⟩ | ⟨n,z⟩
  ·cases z
  ·exact r.rc.val j y z
 ·rcases zN g with⟨rfl,z,R⟩ | ⟨n,z⟩
  ·cases z;exact⟨a,ys,hs,g2,zB,h4⟩
  ·obtain⟨b,t,I,O,Y,B⟩:=r.rc.own j fs z
   refine⟨b,t,I,O,?_,B⟩;rw[zH (λq=>n<|r.rc.ne j i a fs J z L (by rw[I,q]) hs)];exact Y
 ·have w : ∃h,γ[j]? = cI (.own h):=by
   rcases zN f with⟨q,_,_⟩ | ⟨_,z⟩
   ·exact⟨J,by rw[q];exact L⟩
   ·exact⟨fs,z⟩
  have x : ∃h,γ[k]? = cI (.own h):=by
   rcases zN d with⟨q,_,_⟩ | ⟨_,z⟩
   ·exact⟨J,by rw[q];exact L⟩
   ·exact⟨gs,z⟩
  obtain⟨I,l⟩:=w;obtain⟨O,s⟩:=x;exact r.rc.ne j k b I O l s m A
 ·rcases zN g with⟨_,z,_⟩ | ⟨n,z⟩
  ·cases z
  ·obtain⟨b,bs,I,O,Y⟩:=r.rc.s9.1 j e z
   have u:=Y i J a L hs;refine⟨b,bs,I,O.move (et.refl _) (λc p=>(O.at p).1)<|λc p=>zH λq=>u<|q ▸ p,λk fs c f d=>?_⟩;rcases zN f with⟨q,_,_⟩ | ⟨_,l⟩
   ·rw[q,hs]at d;cases d;exact u
   ·exact Y k fs c l d
 ·rcases zN f with⟨_,z,_⟩ | ⟨_,l⟩
  ·cases z
  ·rcases zN d with⟨_,z,_⟩ | ⟨_,s⟩
   ·cases z
   ·exact r.rc.s9.2 j k C F l s
 ·rw[zH (λz=>by rw[z,r.fresh i J a L hs]at q;cases q)];exact r.ext.s1 b o q
 ·rw[zH (λz=>by rw[z,g2]at q;cases q)];exact r.ext.sub b o q
 ·rcases zN f with⟨q,_,_⟩ | ⟨_,z⟩
  ·rw[q]at d;exact r.fresh i J b L d
  ·exact r.fresh j fs b z d
 ·rcases zN f with⟨_,z,_⟩ | ⟨n,z⟩
  ·cases z
  ·obtain⟨P,bs,I,O,Y⟩:=r.rc.s9.1 j e z
   rw[d]at I;cases I;rw[zH (show b≠a from λq=>Y i J a L hs<|by rw[q];exact Ot)]at m;exact r.u0 j e b t z d m
end
section
variable{X:Cx}{e a b c:dy}{pos:eo}{st:g8}{qZ:List g8}
theorem qC:bM X [] kE:=rX fZ λD d H z=>by obtain⟨E0,E,a,e,Y,b,I,O⟩:=z;cases I;exact O d H a b
theorem zg{F G:CO Fl}(J:l3 X st F)(L:bM X qZ G):bM X (st::qZ) (zS F G):=rX (xO J L) λD l H Y=>by
 obtain⟨E0,E,d,i,g,h,z,I⟩:=Y;obtain⟨O,f,z⟩:=zb z;refine⟨E0,E,d,i,O,h,f,?_⟩;cases O with
 | next a=>exact λj k b e=>⟨E0,E,b,a,g,e,z,I⟩
 | brk a=>cases z;exact I
 | cont a=>cases z;exact I
 | ret r=>cases z;cases r<;>exact I
theorem zo(I:l3 X st F):bM X [st] F:=vB I
theorem zv(h:o.map f=cI y) : ∃x,o=cI x/\f x=y:=by
 cases o with
 | none=>cases h
 | some x=>exact⟨x,rfl,by simpa using h⟩
theorem zU{f:CO D}(h:PV X e f):l3 X (.Return (cI e) pos) (xM f):=qX (Jg h) λD l H I=>by obtain⟨E0,E,i,k,Y,b,z,O⟩:=I;obtain⟨d,j,z⟩:=zv z;subst z;exact⟨i,k,d,b.rc,j,λv g a x r=>O v g a (b.ext.trans x) r⟩
theorem ko{f:CO (List D)}(h:PO X e f):l3 X (.Return (cI e) pos) (Ja f):=qX (Jg h) λD t H I=>by
 obtain⟨E0,E,j,p,s,d,z,O⟩:=I;obtain⟨k,l,z⟩:=zv z;subst z;refine⟨j,p,k,d.rc,l,λa n i b x g m Y r=>O a n i b (d.ext.trans x) ?_ m Y r⟩;cases q:E a with
 | none=>rfl
 | some o=>rw[d.ext.s1 a o q]at g;cases g
theorem kn(i:Nat)(h:PE X e (wF i)):l3 X (.Return (cI e) pos) (Zt i):=qX (Jg h) λD s H O=>by
 obtain⟨E0,E,k,p,r,f,z,I⟩:=O;unfold Zt at z;cases b:p[i]? with
 | none=>rw[b]at z;cases z
 | some c=>
  rw[b]at z;cases c with
  | no=>cases z
  | val d=>
   cases z;obtain⟨v,g,j⟩:=f.rc.val i d b;exact⟨v,g,I v H k f.ext j⟩
  | nest m=>cases z
  | own l=>
   cases z;obtain⟨a,o,g,j,Y,n⟩:=f.rc.own i l b;exact⟨_,g,I a o H k f.ext (f.fresh i l a b g) j Y n⟩
theorem Yy:l3 X (.Continue pos) uv:=qX VJ λD d H ⟨E0,E,a,e,O,b,z,I⟩=>by cases z;exact I d H a b
theorem vS:l3 X st Zj:=qX nS λD e H ⟨E0,E,a,d,I,b,z,O⟩=>by cases z
theorem xN{k:CO Bool}{F G:CO Fl}{x y:List g8}(Y:k0 X c k)(J:bM X x F)(L:bM X y G):l3 X (.If c x y pos) (jb k F G):=qX (Ed Y J L) λD i H g=>by
 obtain⟨E0,E,e,d,I,b,z,O⟩:=g;obtain⟨t,f,z⟩:=zb z;refine⟨e,d,t,b.rc,f,λh a x=>?_⟩;cases t with
 | true=>rw[DZ rfl]at z ⊢;exact⟨E0,E,a,d,I,b.step x,z,O⟩
 | false=>rw[DJ Oy]at z ⊢;exact⟨E0,E,a,d,I,b.step x,z,O⟩
theorem uM(i:Nat){f:CO D}(h:PS X st (XZ (tV X.K f)<|yn i)):l3 X st (jE i f):=qX h λD l H I=>by obtain⟨E0,E,e,j,Y,b,z,O⟩:=I;obtain⟨d,g,z⟩:=zv z;subst z;exact⟨e,j,d,b.rc,g,λv k a x r=>O _ _ a<|(b.step x).u7 r⟩
theorem ao(i:Nat){f:CO (List D)}(h:PS X st (XZ (tO X.K f)<|yn i)):l3 X st (kU i f):=qX h λD s H I=>by obtain⟨E0,E,e,m,o,d,z,O⟩:=I;obtain⟨g,j,z⟩:=zv z;subst z;exact⟨e,m,g,d.rc,j,λa p n b x k l Y r=>O _ _ b<|d.C? x k l Y r⟩
theorem xA(h:qI o=cI ds):o=cI (.own ds):=by
 cases o with
 | none=>cases h
 | some c=>cases c<;>simp[qI]at h;rw[h]
theorem cJ(i:Nat){f:CO D}(h:PE X e (T8 X.K "list" VG (wF i) (Zr (tV X.K f) rJ)))(J:p4 e cR pos.line X.env=pure dd:=by rfl):l3 X (.Expr e pos) (jS i f):=
 qX (vC h J) λD B H t=>by
  obtain⟨E0,E,m,u,y,j,z,n⟩:=t;obtain⟨k,b,z⟩:=zb z;obtain⟨d,s,z⟩:=zb z;have b:=xA b;by_cases I:k.length<lim
  ·rw[DZ I]at z;cases z
   obtain⟨a,xs,l,A,O,Y⟩:=j.rc.own i k b;refine⟨_,l,.inl ⟨rfl,_,e9.of O⟩,m,u,d,j.rc,s,λv w g x r=>?_⟩;have o:=j.step x;have p:=x.s1 _ _ O;refine⟨a,xs,v,rfl,rfl,p,?_,?_⟩
   ·exact OI (by rw[Y.length];exact I)<|kJ<|Ou _
   ·exact n _ _ g<|o.rewrite (xs:=xs) b l<|(Y.mono x.s0).append (dt.cons r dt.nil)
  ·rw[DJ I]at z;cases z
end
noncomputable def MP(K:Ob)(H0 H:Hp)(Q:VK):Res->Prop
 | .val d=>∀v e b,Ext H0 H b e->Rep K b d v->Q v e
 | .own g=>∀a f e b,Ext H0 H b e->H a=cR->b a=cR->e a=cI (.lst f)->dt K b g f->Q (.ref a) e
noncomputable def r6(K:Ob)(n:Nat)(F:List D->Option Res):Sp:=λd H Q _=>∃a b r,et a H/\dt K a b d/\b.length=n/\F b=cI r/\MP K a H Q r
theorem r6.len{K:Ob}{n:Nat}{F:List D->Option Res}{ps:List Str}(I:ps.length=n) : ∀vs H Q E,r6 K n F vs H Q E->vs.length=ps.length:=λvs H Q E h=>by obtain⟨d,e,r,_,a,b,_⟩:=h;rw[a.length,b,I]
section
variable{P:gB}{w:fm}{K:Ob}{mg:DX}{base:ew}
theorem X8(s:et H0 H)(h:dt K H0 ds vs)(J:ds.length<=N.length):RS K H0 H H0 H (wI N vs) (jx N.length ds):=by
 have z:=h.length;refine⟨⟨s,by simp[L2.wI,jx,z],λi d e=>?_,λi g e=>?_,λi j a g fs e _ _ _=>?_,o9.Ht λi f e=>?_⟩,Ext.refl s,λi g a e _=>?_,λi f a l e _ _=>?_⟩
 all_goals unfold jx at e
 ·by_cases b:i<ds.length
  ·rw[OV (by simpa using b),OF]at e
   cases e1:ds[i]? with
   | none=>rw[e1]at e;cases e
   | some k=>
    rw[e1]at e;cases e;obtain⟨x,I,g2⟩:=h.get e1;refine⟨x,?_,g2⟩;unfold L2.wI;rw[OV (by simp;omega),OF,I];rfl
  ·rw[OZ (by simpa using b),Tv]at e
   split at e<;>cases e
 all_goals
  by_cases b:i<ds.length
  ·rw[OV (by simpa using b),OF]at e
   cases e1:ds[i]? with
   | none=>rw[e1]at e;cases e
   | some k=>rw[e1]at e;cases e
  ·rw[OZ (by simpa using b),Tv]at e
   split at e<;>cases e
theorem FA{x qual:Str}{st:g8}{f:di}{L:m6}{N ps:List Str}{k:Nat}{F:CO Fl}(O:L2.oi K x qual st f L)(S:F2 N ps (zT st))
 (Y : ∀(J:dq) (A:i8) (outer:List m5) (s:d8) (H:Hp) (E:XK),l8 k (A.deeper<|envOfC qual (zT st) s.heap.objs.size f J)->bM (Bh l7 P w K mg base N qual (zT st) f J A outer s H E).I0 (jT st) F) :
 je P w K mg base l7 (k+1) f L ps (r6 K ps.length<|jn N.length F):=by
 refine O.ok S (r6.len rfl)<|λJ A outer s H C Q E n h=>⟨_,Y J A outer s H E n,?_⟩;obtain⟨d,i,r,p,l,y,m,z⟩:=h;obtain⟨I,j,a⟩:=zb m;have u:ps.length<=N.length:=by have:=congrArg SI S.pre;rw[Si]at this;omega
 refine⟨d,H,d,jx N.length i,I,X8 p l ⋯,j,?_⟩;cases I with
 | ret B=>cases a;cases r<;>exact z
 | next e=>cases a;exact λt g b o=>z .eg g b o.ext (show V.eg = .eg from rfl)
 | brk e=>cases a
 | cont e=>cases a
end
section
variable{X:Cx}{es:List dy}{pos p:eo}{k:Nat}{f:di}{fd:m6}{ps:List Str}{x:Str}{F:List D->Option Res}{g:CO (List D)}
theorem uG{A0:List dy}(G:je X.prog X.w X.K X.mg X.base l7 k f fd ps (r6 X.K ps.length F))(L:yg X es g)(hl : ∀γ J,g γ=cI J->J.length=ps.length)
 (hc : ∀{t:TA},PA X es t->PE X (.Call (.Name x p) es [] pos) (mY (r6 X.K ps.length F) [] E0 t)):PV X (.Call (.Name x p) es [] pos) (zJ F g):=
 j6 (hc L) λE H Q u=>by
  obtain⟨l,γ,d,rc,z,q⟩:=u;obtain⟨J,i,z⟩:=zb z;obtain⟨r,n,z⟩:=zv z;refine⟨l,γ,J,rc,i,λC B m x1 y=>⟨m,J,r,x1.sub,by simpa using y,hl γ J i,n,?_⟩⟩;subst z;cases r with
  | val d=>exact λv e b I h=>q v e b (x1.trans I) h
  | own fs=>
   refine λa A e b I o j s h=>q _ e _ (x1.trans<|I.show o j s x1.sub) ?_;exact(show ∃O Y,V.ref a = .ref O/\e9 X.K _ O Y/\dt X.K _ fs Y from⟨a,A,rfl,e9.of zB,h.mono<|zX j _⟩)
theorem uV(G:je X.prog X.w X.K X.mg X.base l7 k f fd ps (r6 X.K ps.length F))(L:yg X es g)(O : ∀γ J,g γ=cI J->J.length=ps.length)
 (Y : ∀{t:TA},PA X es t->PE X (.Call (.Name x p) es [] pos) (mY (r6 X.K ps.length F) [] E0 t)):PO X (.Call (.Name x p) es [] pos) (jU F g):=
 j6 (Y L) λN H Q u=>by
  obtain⟨j,γ,fs,rc,I,q⟩:=u;obtain⟨J,e,I⟩:=zb I;obtain⟨r,m,I⟩:=zb I;refine⟨j,γ,J,rc,e,λM E l x1 y=>⟨l,J,r,x1.sub,by simpa using y,O γ J e,m,?_⟩⟩;cases r with
  | val d=>cases I
  | own gs=>
   cases I;exact λa C i b B h n s A=>q a C i b (x1.trans B) (by
    cases z:H a with
    | none=>rfl
    | some o=>rw[x1.s1 a o z]at h;cases h) n s A
end
structure Walk(K:Ob)(H0 Hs:Hp)(J:It)(ds:List D):Prop where
 go : ∀i H1,et Hs H1->i<ds.length->J.go i H1
 stop : ∀H1,et Hs H1->J.stop ds.length H1
 z8 : ∀i H1 x o_,et Hs H1->i<ds.length->J.z8 i H1 x o_->∃d,ds[i]? = cI d/\∀G0,et H0 G0->et G0 H1->∃n_,Ext G0 H1 n_ o_/\Rep K n_ d x
theorem Walk.weak{K:Ob}{H0 I z:Hp}{J:It}{L:List D}(w:Walk K H0 I J L)(s:et I z):Walk K H0 z J L:=
 ⟨λi a h=>w.go i a<|s.trans h,λa h=>w.stop a<|s.trans h,λi a x b h=>w.z8 i a x b<|s.trans h⟩
theorem XR{k:Sk}{K:Ob}{H0 J:Hp}{a:di}{xs:List V}{O:List D}(h:lb k K J a xs)(r:dt K H0 O xs):Walk K H0 J (p_ k K a) O:=by
 have I:=r.length;refine⟨λi b s o=>?_,λb s=>?_,λi b x f s o y=>?_⟩
 ·have g:i<xs.length:=by omega
  cases k with
  | L=>exact⟨xs,xs[i],s.seq h,Oe g⟩
  | T=>exact⟨xs,xs[i],ix s h,Oe g⟩
 ·cases k with
  | L=>exact⟨xs,s.seq h,by omega⟩
  | T=>exact⟨xs,ix s h,by omega⟩
 ·have e:f=b/\xs[i]? = cI x:=by
   cases k with
   | L=>exact⟨y.1,y.2 xs<|s.seq h⟩
   | T=>exact⟨y.1,y.2 xs<|ix s h⟩
  obtain⟨l,m⟩:=e;subst l;obtain⟨d,n,z⟩:=r.DF m;exact⟨d,n,λj p t=>⟨j,Ext.refl t,z.mono p⟩⟩
theorem wM(lo:Int)(n:Nat):(yK lo n).length=n:=by simp[yK]
theorem QQ{K:Ob}{H0 I:Hp}(lo:Int)(n:Nat):Walk K H0 I (F5 lo n) (yK lo n):=by
 refine⟨λi b s a=>?_,λb s=>?_,λi b x e s a y=>?_⟩
 ·rw[wM]at a;exact a
 ·rw[wM];exact Ou _
 ·rw[wM]at a
  obtain⟨f,g⟩:=y;subst f g;exact⟨.int<|lo+i,by simp[yK,a],λd j h=>⟨d,Ext.refl h,(show V.int (lo+i) = .int (lo+i)from rfl)⟩⟩
theorem mJ{I O:Sk}{K:Ob}{H0 Hs:Hp}{a b:di}{xs ys:List V}{J L:List D}(h1:lb I K Hs a xs)(Y:dt K H0 J xs)(h2:lb O K Hs b ys)(r2:dt K H0 L ys) :
 Walk K H0 Hs (N1 I O K a b) (K4 J L):=by
 have E:=Y.length;have F:=r2.length;have C:(K4 J L).length=min J.length L.length:=by simp[K4]
 refine⟨λi f s A=>?_,λf s=>?_,λi f x l s A y=>?_⟩
 ·exact⟨xs,ys,Yl s h1,Yl s h2,by omega,by omega⟩
 ·refine⟨xs,ys,Yl s h1,Yl s h2,?_⟩
  rw[C];omega
 ·obtain⟨p,u,v,o,z,r,g1,g2⟩:=y
  obtain⟨d,w,B⟩:=Y.DF<|g1 xs<|Yl s h1;obtain⟨c,t,m⟩:=r2.DF<|g2 ys<|Yl s h2;refine⟨.tup [d,c],?_,λk j e=>⟨upd k p<|.tup [u,v],?_,?_⟩⟩
  ·have n:(J.zip L)[i]? = cI (d,c):=List.getElem?_zip_eq_some.mpr ⟨w,t⟩
   simp[K4,n]
  ·rw[r];exact Ext.alloc e z _
  ·rw[o]
   exact(show ∃g h,V.ref p = .ref g/\fh K _ g h/\dt K _ [d,c] h from⟨p,[u,v],rfl,fh.of zB,dt.cons ((B.mono j).mono (zX (jk e z) _))<|dt.cons ((m.mono j).mono (zX (jk e z) _)) dt.nil⟩)
noncomputable def U1(K:Ob)(I:CO (List D)):TI:=λg H R=>∃d f e,RC K d H g f/\I f=cI e/\∀J b a,Ext d H a b->Walk K a b J e->R J b
noncomputable def M0(K:Ob)(I:CO (List D)):TI:=λg H R=>∃d f e,RC K d H g f/\I f=cI e/\∀J b a,Ext d H a b->Walk K a a J e->R J b
abbrev sh(X:Cx)(tg e:dy)(src:CO (List D)):Prop:=PI X tg e (U1 X.K src)
abbrev i0(X:Cx)(tg e:dy)(src:CO (List D)):Prop:=PI X tg e (M0 X.K src)
section
variable{X:Cx}{tg e a b:dy}{pos p:eo}
theorem i0.c(h:i0 X tg e src):sh X tg e src:=Kj h λi H R ⟨d,g,f,rc,z,q⟩=>⟨d,g,f,rc,z,λJ b a x w=>q J b a x<|w.weak x.sub⟩
theorem jf(h:PQ X e f):sh X tg e (zO f):=Kj (gn h) λs H R z=>by obtain⟨i,o,p,rc,I,q⟩:=z;obtain⟨⟨k,m⟩,j,l⟩:=zv I;subst l;exact⟨i,o,k,m,rc,j,λa n g b x d _ r=>⟨a,k,rfl,⟨n,d⟩,q _ g b x<|XR d r⟩⟩
theorem wO(h:PV X e f):i0 X tg e (zO<|zL f):=Kj (gn h) λu H R I=>by
 obtain⟨p,s,t,rc,O,q⟩:=I;obtain⟨⟨k,m⟩,g,j⟩:=zv O;subst j;obtain⟨d,Y,g⟩:=zb g;refine⟨p,s,d,rc,Y,λv o b x r=>?_⟩;cases d with
 | tup fs=>
  obtain⟨j,z⟩:k = .T/\m=fs:=by simp[jo]at g;exact⟨g.1.symm,g.2.symm⟩
  subst j z;obtain⟨a,i,rfl,l,n⟩:=(show ∃a i,v = .ref a/\fh X.K b a i/\dt X.K b m i from r);exact⟨a,.T,rfl,⟨i,ix x.sub l⟩,q _ o b x<|XR (k:= .T) l n⟩
 | lst fs=>
  obtain⟨j,z⟩:k = .L/\m=fs:=by simp[jo]at g;exact⟨g.1.symm,g.2.symm⟩
  subst j z;obtain⟨a,i,rfl,l,n⟩:=(show ∃a i,v = .ref a/\e9 X.K b a i/\dt X.K b m i from r);exact⟨a,.L,rfl,⟨i,x.sub.seq l⟩,q _ o b x<|XR (k:= .L) l n⟩
 | _=>simp[jo]at g
theorem jA(h:js d=cI i):d = .int i:=by cases d<;>simp[js]at h;rw[h]
theorem Kw(h:inR i=cL) : -(2 ^ 62)<=i/\i<2 ^ 62:=by unfold inR at h;have h:=of_decide_eq_true h;omega
theorem cP(I:Gl X "range")(hm:X.mg "range" = cR)(L:PV X a f)(J:ei [a] X.env=[(dd,d3 a X.env)]:=by rfl):i0 X tg (.Call (.Name "range" p) [a] [] pos) (jI f):=
 Kj (gr I hm (zQ L jF J) J) λo H R O=>by
  obtain⟨i,l,m,rc,z,q⟩:=O;obtain⟨n,e,z⟩:=zb z;obtain⟨d,Y,e⟩:=zb e;by_cases g:inR n=cL
  ·rw[DZ g]at z;cases z
   refine⟨i,l,d,rc,Y,λv h b x r=>?_⟩;rw[jA e]at r;obtain⟨j,k⟩:=Kw g;exact⟨n,by rw[show v = .int n from r],j,k,q _ h b x<|QQ 0 n.toNat⟩
  ·rw[DJ g]at z;cases z
theorem cO(Y:Gl X "range")(hm:X.mg "range" = cR)(L:PV X a f)(hb:PV X b g)(J:ei [a,b] X.env=[(dd,d3 a X.env),(dd,d3 b X.env)]:=by rfl)(I:ei [b] X.env=[(dd,d3 b X.env)]:=by rfl) :
 i0 X tg (.Call (.Name "range" p) [a,b] [] pos) (X5 f g):=
 Kj (gp Y hm (zQ L (zQ hb jF I)<|by rw[J,I]) J I) λM H R C=>by
  obtain⟨l,k,K,rc,z,q⟩:=C;obtain⟨m,i,z⟩:=zb z;obtain⟨d,t,i⟩:=zb i;obtain⟨n,O,z⟩:=zb z;obtain⟨c,u,O⟩:=zb O;by_cases e:inR m=cL/\inR n=cL
  ·rw[DZ e]at z;cases z
   refine⟨l,k,d,rc,t,λv G h x r=>⟨h,k,c,rc.ext x,u,λE o s F j=>?_⟩⟩;rw[jA i]at r;rw[jA O]at j;obtain⟨w,y⟩:=Kw e.1;obtain⟨A,B⟩:=Kw e.2;exact⟨m,n,by rw[show v = .int m from r,show E = .int n from j],⟨w,y,A,B⟩,q _ o s (x.trans F)<|QQ m (n - m).toNat⟩
  ·rw[DJ e]at z;cases z
theorem fC{K:Ob}{H:Hp}{d:D}{v:V}{k:Sk}{I:List D}(r:Rep K H d v)(e:jo d=cI (k,I)) : ∃a xs,v = .ref a/\lb k K H a xs/\dt K H I xs:=by
 cases d with
 | tup fs=>simp[jo]at e;obtain⟨b,f⟩:=e;subst b f;exact r
 | lst fs=>simp[jo]at e;obtain⟨b,f⟩:=e;subst b f;exact r
 | _=>simp[jo]at e
theorem uW{f g:CO D}{J:List dy}{x1:Nat}{L:eo}(hg:Gl X "zip")(hm:X.mg "zip" = cR)(ha:PV X a f)(hb:PV X b g)(hs:ei [a,b] X.env=[(dd,d3 a X.env),(dd,d3 b X.env)]:=by rfl)(O:ei [b] X.env=[(dd,d3 b X.env)]:=by rfl) :
 i0 X (.Tuple J x1 L) (.Call (.Name "zip" p) [a,b] [] pos) (rO f g):=
 Kj (Eg hg hm (zQ ha (zQ hb jF O)<|by rw[hs,O]) PyProof.Rows.boot_zip hs O) λN H R y=>by obtain⟨j,i,K,rc,z,q⟩:=y;obtain⟨⟨A,m⟩,h,z⟩:=zb z;obtain⟨d,t,h⟩:=zb h;obtain⟨⟨B,n⟩,Y,z⟩:=zv z;obtain⟨c,u,Y⟩:=zb Y;subst z;refine⟨j,i,d,rc,t,λv G e x r=>⟨e,i,c,rc.ext x,u,λM k s I C=>?_⟩⟩;obtain⟨l,E,rfl,g1,g2⟩:=fC (r.mono I.s0) h;obtain⟨o,F,rfl,g3,w⟩:=fC C Y;exact⟨A,B,l,o,rfl,⟨E,Yl I.sub g1⟩,⟨F,Yl I.sub g3⟩,q _ k s (x.trans I)<|mJ g1 g2 g3 w⟩
end
noncomputable def Xb:List Nat->List V->St->St
 | i::is,v::vs,σ=>Xb is vs<|σ.set i<|some v
 | _,_,σ=>σ
noncomputable def gs:List Nat->D6
 | []=>Mp
 | i::is=>Fz (yn i)<|gs is
noncomputable def oe(K:Ob):Tg->TG
 | .nm i=>yn i
 | .tp is=>Mo K is.length<|gs is
theorem V7 : ∀{is:List Nat} {vs:List V} {I:St} {H:Hp} {Q:St->Hp->Prop},vs.length=is.length->Q (Xb is vs I) H->gs is vs I H Q
 | [],[],_,_,_,_,q=>⟨rfl,q⟩
 | i::is,v::vs,I,H,Q,hl,q=>⟨v,vs,rfl,V7 (by simpa using hl) q⟩
 | [],_::_,_,_,_,hl,_=>by simp at hl
 | _::_,[],_,_,_,hl,_=>by simp at hl
theorem RS.Fd{K:Ob}{E0 E H0 H:Hp} : ∀{is:List Nat} {I:List D} {vs:List V} {J:St} {γ:Ctx},RS K E0 E H0 H J γ->dt K H0 I vs->RS K E0 E H0 H (Xb is vs J) (qF is I γ)
 | [],I,vs,J,γ,r,h=>by cases I<;>cases vs<;>exact r
 | i::is,[],vs,J,γ,r,h=>by rw[h.ow];exact r
 | i::is,d::I,vs,J,γ,r,h=>by obtain⟨x,t,e,a,b⟩:=h.l6;subst e;show RS K E0 E H0 H (DL.Xb is t<|J.set i<|some x) (qF is I<|γ.set i<|.val d);exact RS.Fd (r.u7 a) b
theorem RC.Fd{K:Ob}{H0 H:Hp} : ∀{is:List Nat} {I:List D} {vs:List V} {J:St} {γ:Ctx},RC K H0 H J γ->dt K H0 I vs->RC K H0 H (Xb is vs J) (qF is I γ)
 | [],I,vs,J,γ,r,h=>by cases I<;>cases vs<;>exact r
 | i::is,[],vs,J,γ,r,h=>by rw[h.ow];exact r
 | i::is,d::I,vs,J,γ,r,h=>by obtain⟨x,t,e,a,b⟩:=h.l6;subst e;show RC K H0 H (DL.Xb is t<|J.set i<|some x) (qF is I<|γ.set i<|.val d);exact RC.Fd (r.u7 a) b
theorem wm{K:Ob}{H0 H:Hp}{T:Tg}{d:D}{v:V}{J:St}{γ γ1:Ctx}{Q:St->Hp->Prop}(s:et H0 H)(h:Rep K H0 d v)(e:qz T d γ=cI γ1)
 (q : ∀z,(RC K H0 H J γ->RC K H0 H z γ1)->(∀E0 E,RS K E0 E H0 H J γ->RS K E0 E H0 H z γ1)->Q z H):oe K T v J H Q:=by
 cases T with
 | nm i=>cases e;exact q _ (λr=>r.u7 h) λE0 E r=>r.u7 h
 | tp is=>
  cases d with
  | tup g=>
   simp only[qz]at e;by_cases I:g.length=is.length
   ·rw[DZ I]at e;cases e
    obtain⟨a,b,rfl,k,f⟩:=(show ∃a b,v = .ref a/\fh K H0 a b/\dt K H0 g b from h);have j:b.length=is.length:=by rw[f.length,I]
    exact⟨a,b,rfl,ix s k,j,V7 j<|q _ (λr=>r.Fd f) λE0 E r=>r.Fd f⟩
   ·rw[DJ I]at e;cases e
  | _=>simp[qz]at e
theorem Ext.rebase{E0 E z H0 H B:Hp}(e:Ext E0 E z B)(x:Ext z E H0 H):Ext E0 E H0 H:=
 ⟨e.s0.trans x.s0,x.s1,x.sub,λa d b=>x.new a (e.new a d b) b⟩
theorem Ext.base{E0 E z B:Hp}(e:Ext E0 E z B):Ext z E z B:=⟨et.refl _,e.s1,e.sub,λa h _=>h⟩
theorem Sat.rebase{K:Ob}{E0 E I B:Hp}{D:Ends}{z:Fl}(e:Ext E0 E I B)(h:Sat K E0 E D z):Sat K I E D z:=by
 cases z with
 | next g=>exact λf H b r=>h f H b ⟨r.rc,e.rebase r.ext,r.fresh,r.u0⟩
 | brk g=>exact λf H b r=>h f H b ⟨r.rc,e.rebase r.ext,r.fresh,r.u0⟩
 | cont g=>exact λf H b r=>h f H b ⟨r.rc,e.rebase r.ext,r.fresh,r.u0⟩
 | ret r=>
  cases r with
  | val d=>exact λv H b x q=>h v H b (e.rebase x) q
  | own l=>exact λa k H b x i j O q=>h a k H b (e.rebase x) i j O q
section
variable{X:Cx}{tg iter:dy}{body:List g8}{pos:eo}
theorem uO{L:CO (List D)}{T:Tg}{F:CO Fl}(hp:D3 (d5 X.prog X.w) X.A X.env X.xe)(hc:X.calm=cL)(hi:i0 X tg iter L)(hg:PG X tg (oe X.K T))(hb:bM X body F)
 (hs : ∀x,o4 iter X.env x=pure x:=by intro _;rfl):l3 X (.For tg iter body [] pos) (Jb L T F):=
 qX (gd hp hc hi hg hb hs) λD k H hZ=>by
  obtain⟨E0,E,h,f,I,b,z,Y⟩:=hZ;obtain⟨a,U,z⟩:=zb z;refine⟨h,f,a,b.rc,U,λJ H1 O x1 s=>?_⟩;have C2:=b.step x1;have C:=C2.ext;refine⟨λi m k H=>m=a.length - i/\i<=a.length/\∃h f I,RS X.K O E h H k f/\qU T F (a.drop i) f=cI I/\Sat X.K O E D I,⟨_,rfl,Rg _,O,f,I,⟨C2.rc,C.base,C2.fresh,C2.u0⟩,z,Y.rebase C⟩,?_⟩;rintro i m k H ⟨rfl,hi,h,f,I,b,z,Y⟩;have l:et O H:=b.ext.s0.trans b.ext.sub;by_cases j:i<a.length
  ·refine .inr ⟨s.go i H l j,λk H=>i+1<=a.length/\∃h f I,RS X.K O E h H k f/\qU T F (a.drop<|i+1) f=cI I/\Sat X.K O E D I,λDt B n=>⟨a.length - (i+1),by omega,rfl,n.1,n.2⟩,λx B y=>?_⟩
   obtain⟨d,G,hx⟩:=s.z8 i H x B l j y;obtain⟨N,M,rg⟩:=hx h b.ext.s0 b.rc.sub;have Q:a.drop i=d::a.drop (i+1):=by
    have R:d=a[i]:=by rw[Oe j]at G;exact(OW G).symm
    rw[R];exact Tc j
   rw[Q]at z;simp only[qU]at z;obtain⟨t,Z,z⟩:=zb z;obtain⟨f1,W,z⟩:=zb z;refine wm M.sub rg Z λNJ _ S=>⟨O,E,N,t,f1,S O E<|b.step M,W,?_⟩;cases f1 with
   | next g=>exact λu P o p=>⟨j,o,g,I,p,z,Y⟩
   | cont g=>exact λu P o p=>⟨j,o,g,I,p,z,Y⟩
   | brk g=>cases z;exact Y
   | ret r=>cases z;cases r<;>exact Y
  ·have e:i=a.length:=by omega
   subst e;rw[Uz]at z;cases z;exact .inl ⟨s.stop H l,Y k H h b⟩
end
theorem qv(h:(jL n fr γ)[i]? = cI c):c = .no\/(∃d j,c = .val d/\n<=i/\fr[i - n]? = cI j/\γ[j]? = cI (.val d)):=by
 unfold jL at h;by_cases b:i<n
 ·rw[OV (by simpa using b),Tv,DZ b]at h
  exact .inl (OW h).symm
 ·rw[OZ (by simpa using b),OF,List.length_replicate]at h
  cases e:fr[i - n]? with
  | none=>rw[e]at h;cases h
  | some j=>
   rw[e]at h;have a:xm (γ[j]?.getD .no)=c:=by simpa using h
   cases e2:γ[j]? with
   | none=>rw[e2]at a;exact .inl a.symm
   | some g=>
    rw[e2]at a;cases g with
    | no=>exact .inl a.symm
    | own k=>exact .inl a.symm
    | nest f=>exact .inl a.symm
    | val d=>exact .inr ⟨d,j,a.symm,by omega,rfl,e2⟩
theorem RC.pull{K:Ob}{H0 H:Hp}{J:St}{γ:Ctx}{own:List Str}{fr:List (Str×Nat)}(r:RC K H0 H J γ):RC K H0 H (L2.nK own fr J) (jL own.length (fr.map (·.2)) γ):=by
 refine⟨r.sub,by simp[L2.nK,jL],λi d h=>?_,λi e h=>?_,λi j a e k h _ _ _=>?_,o9.Ht λi b h=>?_⟩
 ·rcases qv h with z | ⟨d',j,z,hi,I,O⟩
  ·cases z
  ·cases z
   obtain⟨v,f,g⟩:=r.val j d O;refine⟨v,?_,g⟩;rw[OF]at I;cases q:fr[i - own.length]? with
   | none=>rw[q]at I;cases I
   | some p=>
    rw[q]at I;have Y:p.2=j:=by simpa using I
    unfold L2.nK;rw[OZ (by simpa using hi),OF,OC,q];simp[Y,f]
 ·rcases qv h with z | ⟨d',j,z,_⟩<;>cases z
 ·rcases qv h with z | ⟨d',j,z,_⟩<;>cases z
 ·rcases qv h with z | ⟨d',j,z,_⟩<;>cases z
theorem RC.weak{K:Ob}{H0 H:Hp}{σ:St}{γ γ':Ctx}(r:RC K H0 H σ γ)(I:γ'.length=γ.length)(O : ∀(i:Nat) d,γ'[i]? = cI (.val d)->γ[i]? = cI (.val d))(z : ∀(i:Nat) J,γ'[i]? ≠ cI (.own J))(Y : ∀(i:Nat) L,γ'[i]? ≠ cI (.nest L)):RC K H0 H σ γ':=
 ⟨r.sub,by rw[I];exact r.len,λi d h=>r.val i d<|O i d h,λi J h=>absurd h<|z i J,λi j a J b h _ _ _=>absurd h<|z i J,o9.Ht Y⟩
theorem RC.upd{K:Ob}{H0 H:Hp}{Y:St}{γ:Ctx}{D:di}{o:HO}(r:RC K H0 H Y γ)(h0:H0 D=cR)(I : ∀(i:Nat) J,γ[i]? ≠ cI (.own J))(O : ∀(i:Nat) L,γ[i]? ≠ cI (.nest L)):RC K H0 (upd H D o) Y γ:=
 ⟨λb u q=>by rw[zH (λz=>by rw[z,h0]at q;cases q)];exact r.sub b u q,r.len,r.val,λi J h=>absurd h<|I i J,λi j a J d h _ _ _=>absurd h<|I i J,o9.Ht O⟩
theorem ZY : ∀{is:List Nat} {I:List D} {γ:Ctx},(qF is I γ).length=γ.length
 | [],I,γ=>by cases I<;>rfl
 | i::is,[],γ=>rfl
 | i::is,d::I,γ=>by show(qF is I<|γ.set i<|.val d).length=_;rw[ZY];simp
theorem ZZ : ∀{is:List Nat} {I:List D} {γ:Ctx} {i:Nat},i∉is->(qF is I γ)[i]? = γ[i]?
 | [],I,γ,i,_=>by cases I<;>rfl
 | j::is,[],γ,i,_=>rfl
 | j::is,d::I,γ,i,h=>by show(qF is I<|γ.set j<|.val d)[i]? = _;rw[ZZ (λz=>h<|Ow _ z),Ox (λz=>h<|by rw[<- z];exact Ot)]
theorem Vl(h:qz T d γ=cI γ1):γ1.length=γ.length/\∀i,i∉T.idx->γ1[i]? = γ[i]? :=by
 cases T with
 | nm j=>cases h;exact⟨by simp,λi a=>Ox<|λz=>a<|by simp[Tg.idx,z]⟩
 | tp is=>
  cases d with
  | tup b=>
   simp only[qz]at h;by_cases I:b.length=is.length
   ·rw[DZ I]at h;cases h;exact⟨ZY,λi a=>ZZ a⟩
   ·rw[DJ I]at h;cases h
  | _=>simp[qz]at h
section
variable{K:Ob}{own:List Str}{fr:List (Str×Nat)}{src:CO (List D)}{T:Tg}{k:CO Bool}{f:CO D}
theorem wg(hT : ∀i∈T.idx,i<own.length)(c0 : ∀L H Q,tT K k L H Q->tt L H Q) : ∀L H Q,tO K (zR src T own.length (fr.map (·.2)) k f) L H Q->fe (U1 K src) own fr (oe K T) tt (tV K f) L H Q:=λL H Q hZ=>by
 obtain⟨H0,u,ds,rc,Y,q⟩:=hZ;obtain⟨a,e1,Y⟩:=zb Y;by_cases hl:a.length<=lim
 ·rw[DZ hl]at Y
  refine⟨H0,u,a,rc,e1,λJ H1 R x1 wk D B=>?_⟩;have S : ∀(i:Nat) es,(jL own.length (fr.map (·.2)) u)[i]? ≠ cI (.own es):=λi es h=>by rcases qv h with z | ⟨d',j,z,_⟩<;>cases z
  have U : ∀(i:Nat) C,(jL own.length (fr.map (·.2)) u)[i]? ≠ cI (.nest C):=λi es h=>by rcases qv h with z | ⟨d',j,z,_⟩<;>cases z
  have ar:R D=cR:=jk x1.sub B;have c2:H D=cR:=by
   cases z:H D with
   | none=>rfl
   | some o=>rw[x1.s1 D o z]at B;cases B
  refine⟨λi m n F l=>m=a.length - i/\i<=a.length/\n.length<=i/\l D=cI (.lst n)/\∃g A M,RC K g l F (jL own.length (fr.map (·.2)) u)/\g D=cR/\Ext R H1 g l/\dt K g A n/\jh T k f (jL own.length (fr.map (·.2)) u) (a.drop i)=cI M/\ds=A++M,
   ⟨_,rfl,Rg _,Ou _,zB,R,[],ds,((rc.ext x1).pull).upd ar S U,ar,Ext.hide x1.sub B _,dt.nil,Y,rfl⟩,?_⟩
  rintro i m n F l ⟨rfl,hi,hy,N,g,A,M,W,as,t,r',I,rfl⟩;refine⟨N,?_⟩;by_cases s:i<a.length
  ·refine .inr ⟨wk.go i l t.s1 s,?_,λx X y=>?_⟩
   ·have:=kJ<|Ou lim;omega
   obtain⟨d,hd,hx⟩:=wk.z8 i l x X t.s1 s y;obtain⟨G0,O,rg⟩:=hx g t.s0 W.sub;have c4:a.drop i=d::a.drop (i+1):=by
    have c5:d=a[i]:=by rw[Oe s]at hd;exact(OW hd).symm
    rw[c5];exact Tc s
   rw[c4]at I;simp only[jh]at I;obtain⟨p,eb,I⟩:=zb I;obtain⟨b,ek,I⟩:=zb I;have c7:G0 D=cR:=O.new D as (by rw[N];simp);have b0:X D=cI (.lst n):=O.s1 _ _ N;obtain⟨bl,bg⟩:=Vl eb;have b9 : ∀{G:St} {G2 H2:Hp},RC K G2 H2 G p->RC K G2 H2 G (jL own.length (fr.map (·.2)) u):=λr=>r.weak bl.symm (λj d' hj=>by
    by_cases hm:j∈T.idx
    ·rcases qv hj with z | ⟨d2,j2,_,hn,_⟩
     ·cases z
     ·exact absurd (hT j hm) ⋯
    ·rw[bg j hm];exact hj) S U
   refine wm O.sub rg eb λNJ bi _=>c0 NJ X _ ⟨G0,p,b,bi<|W.ext O,ek,λH3 Z x3=>?_⟩;have ag:=(bi<|W.ext O).ext x3;have xa:=t.trans<|O.trans x3;have bn:Z D=cR:=x3.new D c7 (by rw[b0];simp);have am:H3 D=cI (.lst n):=x3.s1 _ _ b0;cases b with
   | true=>
    dsimp only;rw[DZ rfl]at I ⊢;obtain⟨e,ee,I⟩:=zb I;obtain⟨qZ,er,I⟩:=zv I;refine⟨Z,p,e,ag,ee,λv H4 bv E r4=>?_⟩;have an:bv D=cR:=E.new D bn (by rw[am];simp);have ci:H4 D=cI (.lst n):=E.s1 _ _ am;have P:=xa.trans E;refine⟨ci,a.length - (i+1),by omega,rfl,s,by rw[OX,Sl];omega,zB,bv,A++[e],qZ,(b9<|ag.ext E).upd an S U,an,?_,(r'.mono<|(O.trans<|x3.trans E).s0).append (dt.cons r4 dt.nil),er,?_⟩
    ·exact⟨P.s0,λc o z=>by rw[zH (λw=>by rw[w,B]at z;cases z)];exact P.s1 c o z,λc o z=>by rw[zH (λw=>by rw[w,an]at z;cases z)];exact P.sub c o z,P.new⟩
    ·rw[<- I];simp
   | false=>
    dsimp only;rw[DJ Oy]at I ⊢;exact⟨a.length - (i+1),by omega,rfl,s,by omega,am,Z,A,M,b9 ag,bn,xa,r'.mono<|(O.trans x3).s0,I,rfl⟩
  ·have e:i=a.length:=by omega
   subst e;rw[Uz]at I;cases I;rw[Rz]at q;exact .inl ⟨wk.stop l t.s1,q D n l g (x1.trans t) c2 as N r'⟩
 ·rw[DJ hl]at Y;cases Y
end
section
variable{X:Cx}{scope:f9}{own:List Str}{fr:List (Str×Nat)}{elt tg iter c:dy}{pos:eo}{src:CO (List D)}{T:Tg}{k:CO Bool}{f:CO D}
theorem uU(z:X.calm=cL)(ok:rb X scope fr)(I : ∀i∈T.idx,i<own.length)(hi:sh X tg iter src)(O : ∀fp L J,PG (jm X scope (own++fr.map (·.1)) fp L J) tg<|oe X.K T)
 (Y : ∀fp L J,PV (jm X scope (own++fr.map (·.1)) fp L J) elt f) (hs : ∀x,o4 iter X.env x=pure x:=by intro _;rfl) :
 PO X (.ListComp elt [⟨tg,iter,[],0⟩] scope pos) (zR src T own.length (fr.map (·.2)) jO f):=
 j6 (Kk z ok hi O (λ_ _ _=>Kh) Y hs) (wg I λg H Q ⟨a,e,b,rc,d,q⟩=>by cases d;exact q H a<|Ext.refl rc.sub)
theorem gg(z:X.calm=cL)(ok:rb X scope fr)(I : ∀i∈T.idx,i<own.length)(hi:sh X tg iter src)(O : ∀fp L J,PG (jm X scope (own++fr.map (·.1)) fp L J) tg<|oe X.K T)
 (hk : ∀fp L J,k0 (jm X scope (own++fr.map (·.1)) fp L J) c k) (Y : ∀fp L J,PV (jm X scope (own++fr.map (·.1)) fp L J) elt f) (hs : ∀x,o4 iter X.env x=pure x:=by intro _;rfl) :
 PO X (.ListComp elt [⟨tg,iter,[c],0⟩] scope pos) (zR src T own.length (fr.map (·.2)) k f):=
 j6 (Kk z ok hi O (λfp L J=>av<|hk fp L J) Y hs) (wg I λa H Q h=>h)
theorem nT(z:X.N.Nodup)(I:X.N[i]? = cI y)(O:Loc X.env.scope y)(Y:X.fn y=cL\/X.env.scope.names.lookup y=cI .local)
 (hc:X.calm=cL) (ok:rb X scope fr) (hT : ∀i∈T.idx,i<own.length) (hi:sh X tg iter src) (hg : ∀fp L J,PG (jm X scope (own++fr.map (·.1)) fp L J) tg<|oe X.K T)
 (he : ∀fp L J,PV (jm X scope (own++fr.map (·.1)) fp L J) elt f) (hs : ∀x,o4 iter X.env x=pure x:=by intro _;rfl) :
 PS X (.Assign [.Name y py] (.ListComp elt [⟨tg,iter,[],0⟩] scope pos) spos) (XZ (tO X.K<|zR src T own.length (fr.map (·.2)) jO f)<|yn i):=
 qX (Xi z I O Y hc ok hi hg (λ_ _ _=>Kh) he hs) λD a H h=>wg hT (λa H Q g=>by obtain⟨d,j,b,rc,e,q⟩:=g;cases e;exact q H d<|Ext.refl rc.sub) a H _ h
theorem cK(z:X.N.Nodup)(I:X.N[i]? = cI y)(O:Loc X.env.scope y)(Y:X.fn y=cL\/X.env.scope.names.lookup y=cI .local)
 (hc:X.calm=cL) (ok:rb X scope fr) (hT : ∀i∈T.idx,i<own.length) (hi:sh X tg iter src) (hg : ∀fp L J,PG (jm X scope (own++fr.map (·.1)) fp L J) tg<|oe X.K T)
 (hk : ∀fp L J,k0 (jm X scope (own++fr.map (·.1)) fp L J) c k) (he : ∀fp L J,PV (jm X scope (own++fr.map (·.1)) fp L J) elt f) (hs : ∀x,o4 iter X.env x=pure x:=by intro _;rfl) :
 PS X (.Assign [.Name y py] (.ListComp elt [⟨tg,iter,[c],0⟩] scope pos) spos) (XZ (tO X.K<|zR src T own.length (fr.map (·.2)) k f)<|yn i):=
 qX (Xi z I O Y hc ok hi hg (λfp L J=>av<|hk fp L J) he hs) λD a H h=>wg hT (λa H Q h=>h) a H _ h
end
theorem jD{K:Ob}{H:Hp}{i:Int}{v:V}(h:Rep K H (.int i) v):v = .int i:=h
theorem nh{K:Ob}{g:Int->Int->D}{z:Int->Int->V}(O : ∀H i j,Rep K H (g i j)<|z i j):n0 K (tj z) (dI g):=λa H x y b Y d Q s rx e I q=>by cases b<;>cases Y<;>simp[dI]at I;subst I;exact⟨_,_,jD rx,jD e,q _ H a (Ext.refl s)<|O a _ _⟩
theorem fA{K:Ob}{C:Int->Int->Prop}{c:Int->Int->Bool}{g:Int->Int->D}{z:Int->Int->V}(O : ∀i j,c i j=cL->C i j)(Y : ∀H i j,Rep K H (g i j)<|z i j):n0 K (rI C z) (E3 c g):=λa H x y b e d Q s rx k I q=>by cases b<;>cases e<;>simp[E3]at I;obtain⟨f,h⟩:=I;subst h;exact⟨_,_,jD rx,jD k,O _ _ f,q _ H a (Ext.refl s)<|Y a _ _⟩
theorem ud{K:Ob}:n0 K (tj λi j=> .int (i - j)) vg:=nh λ_ _ _=>rfl
theorem pZ(h:QM i j=cL):D0 i j:=by unfold QM at h;rw[PY,decide_eq_true_eq,decide_eq_true_eq]at h;unfold D0;omega
theorem ui{K:Ob}:n0 K (rI MU λi j=> .int (i/j)) K1:=fA (λi j h=>by unfold rf at h;rw[Oo,decide_eq_true_eq,decide_eq_true_eq]at h;exact⟨h.1,by omega⟩) λ_ _ _=>rfl
theorem uh{K:Ob}:n0 K (rI (λ_ j=>0<j) λi j=> .int (i%j)) kj:=fA (λi j h=>by unfold mq at h;exact of_decide_eq_true h) λ_ _ _=>rfl
theorem ue{K:Ob}:n0 K (rI MT λi j=> .int (i ^ j.toNat)) Bf:=fA (λi j h=>by unfold FS at h;rw[Oo,Oo,decide_eq_true_eq,decide_eq_true_eq,decide_eq_true_eq]at h;exact⟨h.1.1,by omega,h.2⟩) λ_ _ _=>rfl
theorem fz{K:Ob}:n0 K (tj λi j=> .bl (decide<|i<j)) sx:=nh λ_ _ _=>rfl
theorem W0{K:Ob}:n0 K (tj λi j=> .bl (decide<|i<=j)) rk:=nh λ_ _ _=>rfl
theorem Cn{K:Ob}:n0 K (tj λi j=> .bl (decide<|j<i)) p3:=nh λ_ _ _=>rfl
section
variable{X:Cx}
noncomputable def rU(K:Ob):R2:=λx y H Q=>∃a b d e,x = .ref a/\y = .ref b/\fh K H a d/\fh K H b e/\d.length+e.length<=eJ/\
 (d=[]->Q (.ref b) H)/\(e=[]->Q (.ref a) H)/\∀p,H p=cR->Q (.ref p) (upd H p<|.tup<|d++e)
theorem oz:hJ X (t8 .Add) (rU X.K):=by
 intro A s σ H x y v u Q I rx T h;obtain⟨a,b,B,W,rfl,rfl,L,M,w,P,R,S⟩:=h;cases rx;cases T;obtain⟨O,r,t,z1⟩:=I.tuple L;obtain⟨C,e,f,z2⟩:=I.tuple M;by_cases Y:B=[]
 ·have d:O=[]:=(r.MF).mpr Y
  obtain⟨⟨G,J,k,U⟩,p,l,n,m⟩:=id t;obtain⟨⟨Z,E,data2,F⟩,g,i,N,j⟩:=id f;simp only at l m i j;subst l m i j;exact e' ⟨_,p,rfl⟩ ⟨_,g,rfl⟩ _j S' Ur Up (Uc _ _)
   (tuple_addW0 a b O.toArray C.toArray n N J E U F<|by simp[d]) ⟨p,g,⟨.ref b,H,I,rfl,P Y⟩⟩
 ·have d:O ≠ []:=λz=>Y ((r.MF).mp z)
  refine HT.Lh t f d (λz=>⟨.ref a,H,I,rfl,R<|(e.MF).mp z⟩) (λ_=>?_) (by rw[<- r.length,<- e.length];exact w);refine⟨.ref s.heap.objs.size,_,I.laid (t':=s.toks) (o:= .tup (B++W)) (λc ob q=>Of _ q) (Ou _) ?_,rfl,S _<|I.eG.fresh<|Ou _⟩;exact⟨by rw[OX];exact w,_,r.append e,x4.new _ _⟩
noncomputable def CF(K:Ob):R2:=λx y H Q=>∃l b a d,x = .ref l/\y = .ref b/\e9 K H l a/\e9 K H b d/\a.length+d.length<=eJ/\∀p,H p=cR->Q (.ref p) (upd H p<|.lst<|a++d)
theorem oA:hJ X (t8 .Add) (CF X.K):=by
 intro a s L H x y v u Q I rx G h;obtain⟨l,b,W,zs,rfl,rfl,B,A,S,q⟩:=h;cases rx;cases G;obtain⟨z,r,⟨o,n,e,Y,d,f⟩,Z⟩:=I.list B;obtain⟨O,m,⟨E,C,k,g,i,j⟩,z2⟩:=I.list A;have T:=r.length;have U:=m.length;obtain⟨cls,hM,R,J⟩:=o;obtain⟨M,N,P,p⟩:=E;simp only at Y d f g i j;subst Y d f g i j;have t:EP X a L Q (.ref s.heap.objs.size) {s with heap:=s.heap.push {cls:= .type "list",data:= .seq (z++O).toArray}}:=
  ⟨.ref _,_,I.r? (t':=s.toks) (r.append m) (by rw[OX];omega),rfl,q _ I.fresh⟩
 have w:z.toArray++O.toArray=(z++O).toArray:=by simp
 refine e' ⟨_,e,rfl⟩ ⟨_,k,rfl⟩ noFill_list_add seq_list_add PySem.F.slot_list_add PySem.F.entry_list_add (PySem.F.args_list_add_2 _ _)
  (list_addW l b z.toArray O.toArray n C cR cR J p<|by rw[Ov,Ov];omega) ⟨e,k,?_⟩
 rw[w];exact t
end
noncomputable def yh(scope I:f9):f9:={scope with names:=scope.names.map λp=>if p.2==OY && I.kind == .function && I.names.lookup p.1==cI .cell then (p.1,Sv)else (p.1,p.2)}
theorem cE(scope:f9)(env:m5):xb scope env=yh scope env.scope:=by unfold xb yh;rfl
structure SX(X:Cx)(sc:f9)(N T:List Str)(k:Nat):Prop where
 E5:X.env.scope=sc
 eN:X.N=N
 nd:N.Nodup
 calm:X.calm=cL
 room:l8 k X.A
 fn : ∀x∈T,X.fn x=cL\/sc.names.lookup x=cI .local
noncomputable def ZO(I:f9)(N:List Str)(i:Nat)(x:Str):Bool:=
 decide (N[i]? = cI x) && (decide (I.names.lookup x=cI .local) || decide (I.names.lookup x=cI .cell) || decide (I.names.lookup x=cI .free)) && !(x==("__debug__" : Str)) && !(x==("__classdict__" : Str))
noncomputable def yF(I:f9)(N T:List Str)(i:Nat)(x:Str):Bool:=decide (x∈T) && decide (N[i]? = cI x) && (decide (I.names.lookup x=cI .local) || decide (I.names.lookup x=cI .cell))
noncomputable def yT(I:f9)(x:Str):Bool:=decide (I.names.lookup x=cI .globalImplicit) && !(x==("__name__" : Str)) && !(x==("__debug__" : Str))
section
variable{X:Cx}{sc:f9}{N T:List Str}{k:Nat}{i:Nat}{x:Str}{pos:eo}
theorem SX.var(h:SX X sc N T k)(c:ZO sc N i x=cL):PE X (.Name x pos) (wF i):=by
 unfold ZO at c;simp only[Oo,PY,decide_eq_true_eq,Tz]at c;obtain⟨⟨⟨a,h2⟩,z⟩,I⟩:=c;refine Ej (by rw[h.eN];exact a) ?_ z I;unfold N8;rw[h.E5];rcases h2 with(h2 | h2) | h2
 ·exact .inl h2
 ·exact .inr<|.inl h2
 ·exact .inr<|.inr h2
theorem SX.loc(h:SX X sc N T k)(c:yF sc N T i x=cL):X.N[i]? = cI x/\L2.Loc X.env.scope x/\(X.fn x=cL\/X.env.scope.names.lookup x=cI .local):=by
 unfold yF at c;simp only[Oo,PY,decide_eq_true_eq]at c;refine⟨by rw[h.eN];exact c.1.2,?_,?_⟩
 ·unfold L2.Loc;rw[h.E5];exact c.2
 ·rw[h.E5];exact h.fn x c.1.1
theorem SX.MD(h:SX X sc N T k):X.N.Nodup:=by rw[h.eN];exact h.nd
theorem SX.n6(h:SX X sc N T k)(i:Nat)(c:yF sc N T i x=cL):PG X (.Name x pos) (yn i):=by obtain⟨a,b,z⟩:=h.loc c;exact gu h.MD a b z
theorem SX.Dk(h:SX X sc N T k)(g:F8 X es (gs is))(I:(y0 es X.env).length=is.length:=by rfl)(z:(y0 es X.env).findIdx? (·.1)=cR:=by rfl):PG X (.Tuple es j pos) (oe X.K<|.tp is):=
 Eh h.calm g I z
theorem SX.set(h:SX X sc N T k)(i:Nat)(c:yF sc N T i x=cL)(z:PE X e te)(J:p4 e (cI (.Name x pos')) pos.line X.env=pure dd:=by rfl):PS X (.Assign [.Name x pos'] e pos) (XZ te<|yn i):=by obtain⟨a,b,I⟩:=h.loc c;exact Ec h.MD a b z J I
theorem SX.gl(h:SX X sc N T k)(c:yT sc x=cL):Gl X x/\x ≠ "__name__"/\(x==("__debug__" : Str))=dd:=by
 unfold yT at c;simp only[Oo,decide_eq_true_eq,Tz]at c;refine⟨?_,?_,c.2⟩
 ·show X.env.scope.names.lookup x=_
  rw[h.E5];exact c.1.1
 ·intro e;rw[e]at c;simp at c
noncomputable def Wl(sc scope:f9)(N:List Str)(fr:List (Str×Nat)):Bool:=
 decide (scope.kind = .function) && decide ((scope.names.map (·.1)).Nodup) && scope.names.all (λp=> !(p.2==OY) || decide (sc.names.lookup p.1=cI .cell) || decide (sc.names.lookup p.1=cI .free)) &&
 fr.all λp=>decide (scope.names.lookup p.1=cI .free) && decide (N[p.2]? = cI p.1)
noncomputable def HM(own:List Str)(scope:f9)(fr:List (Str×Nat)):Bool:=decide ((own++fr.map (·.1)).Nodup) && own.all (λx=>decide (scope.names.lookup x=cI .local) || decide (scope.names.lookup x=cI .cell))
theorem SX.D_(h:SX X sc N T k)(c:Wl sc scope N fr=cL):rb X scope fr:=by
 unfold Wl at c;simp only[Oo,decide_eq_true_eq,Pe,PY,Tz]at c;obtain⟨⟨⟨O,Y⟩,a⟩,I⟩:=c;refine⟨O,Y,λp z b=>?_,λp z=>⟨(I p z).1,by rw[h.eN];exact(I p z).2⟩⟩;have e:X.env.kindOf p.1=sc.names.lookup p.1:=by show X.env.scope.names.lookup p.1=_;rw[h.E5]
 rw[e];rcases a p z with(q | q) | q
 ·rw[b]at q;exact absurd q ⋯
 ·exact .inl q
 ·exact .inr q
theorem JA(scope sc:f9)(x:Str):(yh scope sc).names.lookup x=(scope.names.lookup x).map λk=>if (k==OY && sc.kind == .function && sc.names.lookup x==cI .cell)then Sv else k:=by
 unfold yh;dsimp only;generalize scope.names=l
 induction l with
 | nil=>rfl
 | cons p r I=>
  obtain⟨n,O⟩:=p;rw[OH];cases hx:x==n with
  | true=>
   have e:x=n:=by simpa using hx
   subst e;dsimp only;split
   ·rename_i z;rw[so,so,beq_self_eq_true];dsimp only[TN];rw[DZ z]
   ·rename_i z;rw[so,so,beq_self_eq_true];dsimp only[TN];rw[DJ z]
  | false=>
   dsimp only;split
   ·rw[so,so,hx];exact I
   ·rw[so,so,hx];exact I
theorem SX.comp(h:SX X sc N T k)(c:HM own scope fr=cL) :
 SX (jm X scope (own++fr.map (·.1)) fp s2 H2) (yh scope sc) (own++fr.map (·.1)) own k:=by
 unfold HM at c;simp only[Oo,decide_eq_true_eq,Pe,PY]at c;refine⟨?_,rfl,c.1,h.calm,h.room,λx a=>?_⟩
 ·show xb scope X.env=_
  rw[cE,h.E5]
 ·rcases c.2 x a with q | q
  ·right;rw[JA,q];rfl
  ·left
   show(scope.names.lookup x==cI .cell)=cL;rw[q];rfl
theorem SX.cq(h:SX X sc N T k)(own:List Str)(fr:List (Str×Nat))(fp:List di)(J:d8)(I:Hp)(c:HM own scope fr=cL) :
 SX (jm X scope (own++fr.map (·.1)) fp J I) (yh scope sc) (own++fr.map (·.1)) own k:=h.comp c
end
mutual
noncomputable def h7:D->PyData
 | .eg=> .none
 | .bl b=> .bool b
 | .int i=> .int i
 | .str x=> .str x
 | .tup a=> .tuple (m1 a)
 | .lst a=> .list (m1 a)
 | .lp _ _=> .none
 | .hM _ _=> .none
noncomputable def m1:List D->List PyData
 | []=>[]
 | d::ds=>h7 d::m1 ds
end
theorem C1(h:mu (.lp ks vs)=cL):False:=by simp[mu]at h
theorem C0(h:mu (.hM ks vs)=cL):False:=by simp[mu]at h
mutual
theorem GR : ∀x y:D,mu x=cL->mu y=cL->Sr (h7 x) (h7 y)=hH x y
 | .eg,y,_,h=>by cases y<;>first | exact(C1 h).elim | exact(C0 h).elim | simp[h7,Sr,hH]
 | .bl a,y,_,h=>by cases y<;>first | exact(C1 h).elim | exact(C0 h).elim | simp[h7,Sr,hH]
 | .int a,y,_,h=>by cases y<;>first | exact(C1 h).elim | exact(C0 h).elim | simp[h7,Sr,hH]
 | .str a,y,_,h=>by cases y<;>first | exact(C1 h).elim | exact(C0 h).elim | simp[h7,Sr,hH]
 | .lp c n,y,h,_=>(C1 h).elim
 | .hM c n,y,h,_=>(C0 h).elim
 | .tup xs,y,h1,h2=>by
  cases y with
  | tup b=>simp only[mu]at h1 h2;simp only[h7,Sr,hH];exact PL xs b h1 h2
  | lp c n=>exact(C1 h2).elim
  | hM c n=>exact(C0 h2).elim
  | _=>simp[h7,Sr,hH]
 | .lst xs,y,h1,h2=>by
  cases y with
  | lst b=>simp only[mu]at h1 h2;simp only[h7,Sr,hH];exact PL xs b h1 h2
  | lp c n=>exact(C1 h2).elim
  | hM c n=>exact(C0 h2).elim
  | _=>simp[h7,Sr,hH]
theorem PL : ∀xs ys:List D,i9 xs=cL->i9 ys=cL->UQ (m1 xs) (m1 ys)=s8 xs ys
 | [],ys,_,_=>by cases ys<;>simp[m1,UQ,s8]
 | x::xs,ys,h1,h2=>by
  cases ys with
  | nil=>simp[m1,UQ,s8]
  | cons y ys=>
   simp only[i9,Oo]at h1 h2;simp only[m1,UQ,s8];rw[GR x y h1.1 h2.1,PL xs ys h1.2 h2.2]
end
mutual
theorem My : ∀x:D,mu x=cL->(h7 x).canLay0=cL
 | .eg,_=>by simp[h7,Tx]
 | .bl a,_=>by simp[h7,Tx]
 | .int a,_=>by simp[h7,Tx]
 | .str a,h=>by simpa[h7,Tx,mu,PyData.strOk]using h
 | .tup xs,h=>by simp only[mu]at h;simp only[h7,Tx];exact G6 xs h
 | .lst xs,h=>by simp only[mu]at h;simp only[h7,Tx];exact G6 xs h
 | .lp c n,h=>(C1 h).elim
 | .hM c n,h=>(C0 h).elim
theorem G6 : ∀xs:List D,i9 xs=cL->_m (m1 xs)=cL
 | [],_=>by simp[m1,_m]
 | x::xs,h=>by simp only[i9,Oo]at h;simp only[m1,_m];rw[My x h.1,G6 xs h.2];rfl
end
mutual
theorem E_ : ∀x:D,(h7 x).depth=deep x
 | .eg=>by simp[h7,Ti,deep]
 | .bl a=>by simp[h7,Ti,deep]
 | .int a=>by simp[h7,Ti,deep]
 | .str a=>by simp[h7,Ti,deep]
 | .lp c n=>by simp[h7,Ti,deep]
 | .hM c n=>by simp[h7,Ti,deep]
 | .tup b=>by simp only[h7,Ti,deep];rw[O8 b]
 | .lst b=>by simp only[h7,Ti,deep];rw[O8 b]
theorem O8 : ∀xs:List D,TR (m1 xs)=B0 xs
 | []=>by simp[m1,TR,B0]
 | x::xs=>by simp only[m1,TR,B0];rw[E_ x,O8 xs]
end
theorem qT(h:iv d=cL):mu d=cL:=by unfold iv at h;rw[Oo]at h;exact h.2
theorem kT(h:iv d=cL):SeqAt.shaped (h7 d)=cL:=by unfold iv at h;rw[Oo,decide_eq_true_eq]at h;unfold SeqAt.shaped;rw[My d h.2,Bool.true_and,E_];exact decide_eq_true ⋯
section
variable{X:Cx}{pins:TW}{σ:St}{H0 H:Hp}{s:d8}
mutual
theorem DM(I:Inv X pins σ H s)(sub:et H0 H) : ∀{d:D} {v:V} {u:dq},mu d=cL->Rep X.K H0 d v->RelV v u->∃z,Reads s.heap u (h7 d) z
 | .eg,v,u,_,h,r=>by cases (show v = .eg from h);cases r;exact⟨_,.none⟩
 | .bl b,v,u,_,h,r=>by cases (show v = .bl b from h);cases r;exact⟨_,.bool b⟩
 | .int i,v,u,_,h,r=>by cases (show v = .int i from h);obtain⟨t,rfl⟩:=r;exact⟨_,.int i t⟩
 | .str x,v,u,_,h,r=>by cases (show v = .str x from h);obtain⟨t,rfl⟩:=r;exact⟨_,.str x t⟩
 | .lp c n,v,u,o,_,_=>(C1 o).elim
 | .hM c n,v,u,o,_,_=>(C0 o).elim
 | .tup ds,v,u,o,h,r=>by obtain⟨a,e,rfl,f,g⟩:=(show ∃a e,v = .ref a/\fh X.K H0 a e/\dt X.K H0 ds e from h);cases r;simp only[mu]at o;obtain⟨m,O,⟨y,Y,j,n,k⟩,w⟩:=I.tuple<|ix sub f;obtain⟨z,l⟩:=MI I sub o g O;exact⟨z,.tuple Y j k<|by simpa using l⟩
 | .lst ds,v,u,o,h,r=>by obtain⟨a,e,rfl,f,g⟩:=(show ∃a e,v = .ref a/\e9 X.K H0 a e/\dt X.K H0 ds e from h);cases r;simp only[mu]at o;obtain⟨m,O,p,w⟩:=I.list<|sub.seq f;obtain⟨y,Y,j,n,k⟩:=p.isList;obtain⟨z,l⟩:=MI I sub o g O;exact⟨_,.list Y j k<|by simpa using l⟩
theorem MI(I:Inv X pins σ H s)(sub:et H0 H) : ∀{J:List D} {xs:List V} {us:List dq},i9 J=cL->dt X.K H0 J xs->ej xs us->∃z,ReadsAll s.heap us (m1 J) z
 | [],xs,us,_,h,r=>by rw[h.ow]at r;cases r;exact⟨_,.nil⟩
 | d::J,xs,us,o,h,r=>by
  obtain⟨x,t,e,a,b⟩:=h.l6;subst e;simp only[i9,Oo]at o;cases r with
  | cons O f=>
   obtain⟨z,g⟩:=DM I sub o.1 a O;obtain⟨bs,Y⟩:=MI I sub o.2 b f;exact⟨_,.cons g Y⟩
end
end
noncomputable def Mg(K:Ob):R2:=λx y H Q=>∃a b z,et a H/\Rep K a b x/\Rep K a z y/\iv b=cL/\iv z=cL/\Q (.bl<|hH b z) H
noncomputable def Me(K:Ob):R2:=λx y H Q=>∃a b z,et a H/\Rep K a b x/\Rep K a z y/\iv b=cL/\iv z=cL/\Q (.bl<|!hH b z) H
theorem sg(Y:X.A.units+64<rd):hJ X (m9 .Eq) (Mg X.K):=by intro a s l H x y v u Q I rx g h;obtain⟨i,j,k,sub,b,d,z,O,q⟩:=h;obtain⟨as,e⟩:=DM I sub (qT z) b rx;obtain⟨bs,f⟩:=DM I sub (qT O) d g;exact eq_dataH e f (kT z) (kT O) Y ⟨.bl _,H,I,by rw[GR _ _ (qT z) (qT O)];rfl,q⟩
theorem Ew(Y:X.A.units+64<rd):hJ X (m9 .NotEq) (Me X.K):=by intro a s l H x y v u Q I rx g h;obtain⟨i,j,k,sub,b,d,z,O,q⟩:=h;obtain⟨as,e⟩:=DM I sub (qT z) b rx;obtain⟨bs,f⟩:=DM I sub (qT O) d g;exact ne_dataH e f (kT z) (kT O) Y ⟨.bl _,H,I,by rw[GR _ _ (qT z) (qT O)];rfl,q⟩
theorem fB{K:Ob}:n0 K (Mg K) ft:=λa H x y b I d Q s rx O z q=>by
 unfold ft at z;split at z
 ·rename_i h;cases z;exact⟨a,b,I,s,rx,O,h.1,h.2,q _ H a (Ext.refl s) rfl⟩
 ·cases z
theorem uf{K:Ob}:n0 K (Me K) i6:=λa H x y b I d Q s rx O z q=>by
 unfold i6 at z;split at z
 ·rename_i h;cases z;exact⟨a,b,I,s,rx,O,h.1,h.2,q _ H a (Ext.refl s) rfl⟩
 ·cases z
theorem SX.Dm(h:SX X sc N T k):X.A.units+64<rd:=by have:=h.room.un;omega
section
variable{X:Cx}{sc:f9}{N T:List Str}{k:Nat}{a b c:dy}{pos p:eo}{fa fb fc:CO D}
theorem qK(I:PV X a fa)(J:PV X b fb):PV X (.BinOp a .Sub b pos) (zw vg fa fb):=Xg Et ud I J
theorem Zk(I:PV X a fa)(J:PV X b fb):PV X (.BinOp a .FloorDiv b pos) (zw K1 fa fb):=Xg Aj ui I J
theorem ql(I:PV X a fa)(J:PV X b fb):PV X (.BinOp a .Mod b pos) (zw kj fa fb):=Xg Ex uh I J
theorem fS(I:PV X a fa)(J:PV X b fb):PV X (.BinOp a .Pow b pos) (zw Bf fa fb):=Xg Eu ue I J
theorem fU(h:SX X sc N T k)(I:PV X a fa)(J:PV X b fb):PV X (.Compare a [.Eq] [b] pos) (zw ft fa fb):=CV (sg h.Dm) fB I J<|YM b
theorem rW(I:PV X a fa)(J:PV X b fb):k0 X (.Compare a [.Lt] [b] pos) (sB<|zw sx fa fb):=Ke Ai fz I J<|YM b
theorem Xh(I:PV X a fa)(J:PV X b fb):k0 X (.Compare a [.Gt] [b] pos) (sB<|zw p3 fa fb):=Ke Ir Cn I J<|YM b
theorem qM(h:SX X sc N T k)(I:PV X a fa)(J:PV X b fb):k0 X (.Compare a [.Eq] [b] pos) (sB<|zw ft fa fb):=Ke (sg h.Dm) fB I J<|YM b
theorem Jf(h:SX X sc N T k)(I:PV X a fa)(J:PV X b fb):k0 X (.Compare a [.NotEq] [b] pos) (sB<|zw i6 fa fb):=Ke (Ew h.Dm) uf I J<|YM b
theorem yb{K:Ob}{H:Hp}{I:List D}{v:V}(h:Rep K H (.tup I) v) : ∃a xs,v = .ref a/\fh K H a xs/\dt K H I xs:=h
theorem gX{K:Ob}{H:Hp}{I:List D}{v:V}(h:Rep K H (.lst I) v) : ∃a xs,v = .ref a/\e9 K H a xs/\dt K H I xs:=h
theorem qQ{K:Ob}{H:Hp}{I:List D}{a:di}{xs:List V}(J:fh K H a xs)(L:dt K H I xs):Rep K H (.tup I) (.ref a):=⟨a,xs,rfl,J,L⟩
theorem wK{K:Ob}{H:Hp}{I:List D}{a:di}{xs:List V}(J:e9 K H a xs)(L:dt K H I xs):Rep K H (.lst I) (.ref a):=⟨a,xs,rfl,J,L⟩
theorem uj{K:Ob}:n0 K (λx y H Q=>tj (λi j=> .int (i+j)) x y H Q\/rU K x y H Q) qg:=λg H x y n o d Q s rx O I q=>by
 cases n<;>cases o<;>simp[qg]at I
 ·subst I;exact .inl ⟨_,_,jD rx,jD O,q _ H g (Ext.refl s) rfl⟩
 ·rename_i m r
  obtain⟨t,rfl⟩:=I;obtain⟨a,u,rfl,k,f⟩:=yb rx;obtain⟨b,w,rfl,Y,z⟩:=yb O;refine .inr ⟨a,b,u,w,rfl,rfl,ix s k,ix s Y,kJ (by rw[f.length,z.length];exact t),λe=>?_,λe=>?_,λp l=>?_⟩
  ·have h:m=[]:=by
    have:=f.length;rw[e]at this;exact Pd this.symm
   subst h;exact q _ H g (Ext.refl s)<|qQ Y z
  ·have h:r=[]:=by
    have:=z.length;rw[e]at this;exact Pd this.symm
   subst h;exact q _ H g (Ext.refl s) (by rw[Rz];exact qQ k f)
  ·exact q _ _ _ (Ext.alloc s l _)<|qQ (fh.of zB)<|(f.append z).mono (zX (jk s l) _)
theorem jj(I:PV X a fa)(J:PV X b fb):PV X (.BinOp a .Add b pos) (zw qg fa fb):=Xg (w?.or oz) uj I J
end
theorem XQ(O:A.handled=cR)(k:Sk)(I z:di)(Y:z≠I)(items:Array dq) :
 Walks P w A I [I,z] [I] items.size (λi v=>items[i]? = cI v) (λi h=>kr k h I z i/\n4 k h z items):=by
 cases k
 ·exact Walks.list O I z Y items
 ·exact Walks.tuple O I z Y items
theorem vD(I:List Int) : ∀n,MH (λi=>I.getD i 0) n=(I.take n).sum
 | 0=>by simp[MH]
 | n+1=>by
  have z:=vD I n;simp only[MH,z];by_cases h:n<I.length
  ·rw[List.take_succ_eq_append_getElem h,List.sum_append]
   simp[h]
  ·rw[Rr ⋯,Rr ⋯]
   simp[h]
section
variable{X:Cx}{pins:TW}{σ:St}{H:Hp}{s:d8}
theorem lB(L:X.calm=cL):J3 X (.builtin "sum") (λxs H Q=>∃p k ys J,xs=[.ref p]/\lb k X.K H p ys/\ys=(J:List Int).map V.int/\Q (.int J.sum) H):=by
 intro pins s σ H F E Q I w h;obtain⟨p,k,ys,J,rfl,m,rfl,q⟩:=h;obtain⟨u,rfl,O⟩:=yE w;cases O;obtain⟨z,r,a,C⟩:=I.sq m;have lt:=a.lt;have Y:=r.length;rw[OC]at Y;refine call_sum_walkG<|YY a ⟨_,[_,p],[_],z.toArray.size,_,_,λi=>J.getD i 0,rfl,XQ (A:=X.A.in1) (I.ok.hd L) k _ p (ON lt) z.toArray,⟨Xv k _ p,a.at λo e=>Of _ e⟩,?_,?_,?_⟩
 ·intro b g
  rw[nr];simp only[OA,OP,or_false]at g;rcases g with rfl | rfl
  ·exact PR _
  ·exact Py lt
 ·intro i v n
  have d:z[i]? = cI v:=by simpa using n
  have j:i<J.length:=by rw[Y];exact(Ol.mp d).1
  obtain⟨u,f,O⟩:=r.get (i:=i) (x:= .int J[i]) (by simp[j]);rw[d]at f;cases f;obtain⟨t,rfl⟩:=O;exact⟨t,by simp[j]⟩
 ·intro B y t' l
  have e:MH (λi=>J.getD i 0) z.toArray.size=J.sum:=by rw[vD,Rr (by rw[Ov,Y];exact Ou _)]
  refine⟨.int J.sum,H,I.kept (t':=y)<|λb u e=>l b u ?_ (Of _ e),⟨t',by rw[e]⟩,q⟩;simp only[OA,OP,or_false];exact ON<|OD e
noncomputable def Ce:V->Option Bool
 | .eg=>cI dd
 | .bl b=>cI b
 | .int i=>cI (i != 0)
 | _=>cR
theorem WM(r:RelV x u)(e:Ce x=cI b)(q:Q b s):wpAny (d5 P w) A (Lo u) Q E s:=by
 cases x with
 | eg=>cases r;cases e;exact λ_ _ _=>q
 | bl c=>cases r;cases e;exact Ro q
 | int i=>obtain⟨t,rfl⟩:=r;cases e;exact PyProof.Rows.truthy_int q
 | _=>cases e
noncomputable def cc:List V->Option (List Bool)
 | []=>cI []
 | x::r=>(Ce x).bind λb=>(cc r).map λl=>b::l
theorem ZR : ∀{xs:List V} {bs:List Bool},cc xs=cI bs->bs.length=xs.length/\∀(i:Nat) x,xs[i]? = cI x->Ce x=cI (bs.getD i dd)
 | [],bs,h=>by cases h;exact⟨rfl,λi x e=>by simp at e⟩
 | y::xs,bs,h=>by
  obtain⟨b,a,h⟩:=zb h;obtain⟨l,d,h⟩:=zv h;subst h;obtain⟨f,g⟩:=ZR d;refine⟨by simp[f],λi x e=>?_⟩;cases i with
  | zero=>simp at e;subst e;simpa using a
  | succ i=>simpa using g i x (by simpa using e)
theorem lY(bs:List Bool):(Od bs.length).all (λi=>bs.getD i dd)=bs.all id:=by
 rw[Rc];simp only[Pe,Oj,id_eq];constructor
 ·intro h b d
  obtain⟨i,a,e⟩:=List.mem_iff_getElem.mp d;have:=h i a;rw[Oh,Oe a]at this;rw[<- e];exact this
 ·intro h i a
  rw[Oh,Oe a];exact h _<|Sj a
theorem lX(bs:List Bool):(Od bs.length).any (λi=>bs.getD i dd)=bs.any id:=by
 rw[Rc];simp only[List.any_eq_true,Oj,id_eq];constructor
 ·rintro⟨i,a,h⟩
  rw[Oh,Oe a]at h;exact⟨_,Sj a,h⟩
 ·rintro⟨b,d,h⟩
  obtain⟨i,a,e⟩:=List.mem_iff_getElem.mp d;refine⟨i,a,?_⟩;rw[Oh,Oe a,Sd,e];exact h
theorem lF(J:X.calm=cL):J3 X (.builtin "all") (λxs H Q=>∃p k ys bs,xs=[.ref p]/\lb k X.K H p ys/\cc ys=cI bs/\Q (.bl (bs.all id)) H):=by
 intro pins s σ H P N Q I B h;obtain⟨p,k,ys,bs,rfl,t,w,q⟩:=h;obtain⟨u,rfl,O⟩:=yE B;cases O;obtain⟨z,r,a,L⟩:=I.sq t;have lt:=a.lt;have Y:=r.length;obtain⟨j,l⟩:=ZR w;refine call_all_walk<|YY a ⟨_,[_,p],[_],z.toArray.size,_,_,λi=>bs.getD i dd,rfl,XQ (A:=X.A.in1) (I.ok.hd J) k _ p (ON lt) z.toArray,⟨Xv k _ p,a.at λo e=>Of _ e⟩,?_,?_⟩
 ·intro i v M F E y m
  have d:z[i]? = cI v:=by simpa using y
  have g:i<ys.length:=by rw[Y];exact(Ol.mp d).1
  obtain⟨u,f,O⟩:=r.get (i:=i) (x:=ys[i]) (by simp[g]);rw[d]at f;cases f;exact WM O (l i ys[i] (by simp[g])) m
 ·intro G C n
  have e:(Od z.toArray.size).all (λi=>bs.getD i dd)=bs.all id:=by rw[Ov,<- Y,<- j];exact lY bs
  refine⟨.bl<|bs.all id,H,I.kept (t':=C)<|λb u e=>n b u ?_ (Of _ e),by rw[e];rfl,q⟩;simp only[OA,OP,or_false];exact ON<|OD e
theorem lE(J:X.calm=cL):J3 X (.builtin "any") (λxs H Q=>∃p k ys bs,xs=[.ref p]/\lb k X.K H p ys/\cc ys=cI bs/\Q (.bl (bs.any id)) H):=by
 intro pins s σ H P N Q I B h;obtain⟨p,k,ys,bs,rfl,t,w,q⟩:=h;obtain⟨u,rfl,O⟩:=yE B;cases O;obtain⟨z,r,a,L⟩:=I.sq t;have lt:=a.lt;have Y:=r.length;obtain⟨j,l⟩:=ZR w;refine call_any_walk<|YY a ⟨_,[_,p],[_],z.toArray.size,_,_,λi=>bs.getD i dd,rfl,XQ (A:=X.A.in1) (I.ok.hd J) k _ p (ON lt) z.toArray,⟨Xv k _ p,a.at λo e=>Of _ e⟩,?_,?_⟩
 ·intro i v M F E y m
  have d:z[i]? = cI v:=by simpa using y
  have g:i<ys.length:=by rw[Y];exact(Ol.mp d).1
  obtain⟨u,f,O⟩:=r.get (i:=i) (x:=ys[i]) (by simp[g]);rw[d]at f;cases f;exact WM O (l i ys[i] (by simp[g])) m
 ·intro G C n
  have e:(Od z.toArray.size).any (λi=>bs.getD i dd)=bs.any id:=by rw[Ov,<- Y,<- j];exact lX bs
  refine⟨.bl<|bs.any id,H,I.kept (t':=C)<|λb u e=>n b u ?_ (Of _ e),by rw[e];rfl,q⟩;simp only[OA,OP,or_false];exact ON<|OD e
end
section
variable{X:Cx}{sc:f9}{N T:List Str}{k:Nat}{e a b c:dy}{pos p p2:eo}{f g:CO D}{fq:CO (Sk×List D)}
theorem HP{K:Ob}{H:Hp}{k:Sk}{a:di}{xs:List V}(h:lb k K H a xs):e9 K H a xs\/fh K H a xs:=by
 cases k
 ·exact .inl h
 ·exact .inr h
theorem xy(h:SX X sc N T k)(c:yT sc "len" = cL)(z:X.mg "len" = cR)(I:PQ X e fq)(J:ei [e] X.env=[(dd,d3 e X.env)]:=by rfl):PV X (.Call (.Name "len" p) [e] [] pos) (wG fq):=
 j6 (yj Vi (h.gl c).1 z PySem.boot_len (zQ I jF J) ⋯ ⋯ J rfl) λu H Q O=>by obtain⟨j,s,d,rc,Y,q⟩:=O;obtain⟨⟨o,f⟩,l,m⟩:=zv Y;subst m;refine⟨j,s,o,f,rc,l,λa g i b ext n t r=>⟨a,g,rfl,HP n,?_⟩⟩;exact q _ i b ext (show V.int g.length = .int f.length by rw[r.length])
theorem jY(h:SX X sc N T k)(c:yT sc "tuple" = cL)(z:X.mg "tuple" = cR)(O:PQ X e fq)(J:ei [e] X.env=[(dd,d3 e X.env)]:=by rfl):PV X (.Call (.Name "tuple" p) [e] [] pos) (jd fq):=
 j6 (YE KN (h.gl c).1 z PyProof.Rows.boot_tuple (zQ O jF J) ⋯ ⋯ J rfl) λx H Q Y=>by
  obtain⟨j,w,d,rc,s,q⟩:=Y;obtain⟨⟨g,m⟩,n,o⟩:=zv s;subst o;refine⟨j,w,g,m,rc,n,λa u i b ext f t r=>⟨a,u,rfl,?_⟩⟩;cases g with
  | L=>exact .inl ⟨f,λl I=>q _ _ _ (ext.trans<|Ext.alloc ext.sub I _)<|qQ (fh.of zB)<|r.mono<|zX (jk ext.sub I) _⟩
  | T=>exact .inr ⟨f,q _ i b ext (qQ (t rfl) r)⟩
theorem yS{H H':Hp}(s:et H H'){a:di}(h:H' a=cR):H a=cR:=by
 cases z:H a with
 | none=>rfl
 | some o=>rw[s a o z]at h;cases h
theorem ZS : ∀{J:List D} {n:Int},cp J=cI n->∃I:List Int,J=I.map D.int/\n=I.sum
 | [],n,h=>by cases h;exact⟨[],rfl,rfl⟩
 | d::J,n,h=>by
  cases d with
  | int i=>
   obtain⟨s,e,h⟩:=zv h;obtain⟨I,rfl,rfl⟩:=ZS e;exact⟨i::I,rfl,by rw[<- h];simp⟩
  | _=>cases h
theorem Ys{K:Ob}{H:Hp} : ∀{I:List Int} {xs:List V},dt K H (I.map D.int) xs->xs=I.map V.int
 | [],xs,h=>h.ow
 | z::I,xs,h=>by obtain⟨x,r,e,a,b⟩:=dt.l6 h;rw[e,jD a,Ys b];rfl
theorem fQ(h:SX X sc N T k)(c:yT sc "sum" = cL)(z:X.mg "sum" = cR)(Y:PQ X e fq)(J:ei [e] X.env=[(dd,d3 e X.env)]:=by rfl):PV X (.Call (.Name "sum" p) [e] [] pos) (BG fq):=
 j6 (yj (lB h.calm) (h.gl c).1 z PyProof.Rows.boot_sum (zQ Y jF J) ⋯ ⋯ J rfl) λA H Q u=>by obtain⟨j,x,d,rc,I,q⟩:=u;obtain⟨⟨f,l⟩,m,I⟩:=zb I;obtain⟨n,o,s⟩:=zv I;subst s;obtain⟨g,O,rfl⟩:=ZS o;have O:l=g.map D.int:=O;subst O;exact⟨j,x,f,_,rc,m,λa w i b ext t y r=>⟨a,f,w,g,rfl,t,Ys r,q _ i b ext rfl⟩⟩
theorem tP{K:Ob}{H:Hp}{d:D}{x:V}{b:Bool}(h:Rep K H d x)(e:Gx d=cI b):Ce x=cI b:=by
 cases d with
 | eg=>cases (show x = .eg from h);exact e
 | bl c=>cases (show x = .bl c from h);exact e
 | int i=>cases (show x = .int i from h);exact e
 | _=>cases e
theorem XX{K:Ob}{H:Hp} : ∀{I:List D} {xs:List V} {bs:List Bool},dt K H I xs->XY I=cI bs->cc xs=cI bs
 | [],xs,bs,h,e=>by rw[h.ow];exact e
 | d::I,xs,bs,h,e=>by obtain⟨x,r,z,g,i⟩:=h.l6;obtain⟨b,a,e⟩:=zb e;obtain⟨l,f,e⟩:=zv e;subst z e;show(Ce x).bind _=_;rw[tP g a];show((cc r).map λl=>b::l)=_;rw[XX i f];rfl
theorem fX(h:SX X sc N T k)(c:yT sc "all" = cL)(z:X.mg "all" = cR)(O:PQ X e fq)(J:ei [e] X.env=[(dd,d3 e X.env)]:=by rfl):PV X (.Call (.Name "all" p) [e] [] pos) (fM fq):=
 j6 (yj (lF h.calm) (h.gl c).1 z PyProof.Rows.boot_all (zQ O jF J) ⋯ ⋯ J rfl) λw H Q Y=>by obtain⟨i,s,d,rc,I,q⟩:=Y;obtain⟨⟨f,t⟩,j,I⟩:=zb I;obtain⟨bs,l,m⟩:=zv I;subst m;exact⟨i,s,f,_,rc,j,λa o g b ext n u r=>⟨a,f,o,bs,rfl,n,XX r l,q _ g b ext rfl⟩⟩
theorem CY(h:SX X sc N T k)(c:yT sc "any" = cL)(z:X.mg "any" = cR)(O:PQ X e fq)(J:ei [e] X.env=[(dd,d3 e X.env)]:=by rfl):PV X (.Call (.Name "any" p) [e] [] pos) (Ib fq):=
 j6 (yj (lE h.calm) (h.gl c).1 z PyProof.Rows.boot_any (zQ O jF J) ⋯ ⋯ J rfl) λw H Q Y=>by obtain⟨i,s,d,rc,I,q⟩:=Y;obtain⟨⟨f,t⟩,j,I⟩:=zb I;obtain⟨bs,l,m⟩:=zv I;subst m;exact⟨i,s,f,_,rc,j,λa o g b ext n u r=>⟨a,f,o,bs,rfl,n,XX r l,q _ g b ext rfl⟩⟩
theorem uE(h:SX X sc N T k)(c:yT sc "int" = cL)(z:X.mg "int" = cR)(Y:PV X e f)(J:ei [e] X.env=[(dd,d3 e X.env)]:=by rfl):PV X (.Call (.Name "int" p) [e] [] pos) (ur f):=
 j6 (YE lD (h.gl c).1 z PyProof.Rows.boot_int (zQ Y jF J) ⋯ ⋯ J rfl) λo H Q m=>by
  obtain⟨j,n,d,rc,I,q⟩:=m;obtain⟨O,l,I⟩:=zb I;refine⟨j,n,O,rc,l,λv g a ext r=>?_⟩;cases O with
  | int i=>cases I;exact .inl ⟨i,by rw[jD r],q _ g a ext rfl⟩
  | bl b=>cases I;exact .inr ⟨b,by rw[show v = .bl b from r],q _ g a ext rfl⟩
  | _=>cases I
end
section
variable{X:Cx}{sc:f9}{N T:List Str}{k:Nat}{e a b c:dy}{pos p p2:eo}{f g:CO D}{fq:CO (Sk×List D)}
theorem Xt(h:l5 n i=cI j):DH n i=cI j:=by
 unfold l5 at h;unfold DH;split at h
 ·rename_i a;rw[DZ a.1,DZ a.2];exact h
 ·split at h
  ·rename_i a b;rw[DJ ⋯,DZ ⋯];exact h
  ·cases h
theorem zM(J:PQ X a fq)(hb:PV X b g)(hs:KP b:=by intro _ _;rfl):PV X (.Subscript a b pos) (dr fq g):=
 j6 (Ab (L'.or Fp) J hb hs) λM H Q C=>by
  obtain⟨o,n,d,rc,z,q⟩:=C;obtain⟨⟨m,w⟩,y,z⟩:=zb z;obtain⟨i,f,z⟩:=zb z;obtain⟨u,A,f⟩:=zb f;obtain⟨j,B,z⟩:=zb z;refine⟨o,n,m,w,rc,y,λp k F e ext l G r=>⟨e,n,u,rc.ext ext,A,λK s t I h=>?_⟩⟩;rw[jA f]at h;obtain⟨x,E,rx⟩:=r.get z;have O:A7 k i=cI x:=by unfold A7;rw[r.length,Xt B];exact E
  have Y:=q x s t (ext.trans I)<|rx.mono I.s0;cases m with
  | L=>exact .inl ⟨p,k,i,x,rfl,jD h,I.s1.seq l,O,Y⟩
  | T=>exact .inr ⟨p,k,i,x,rfl,jD h,ix I.s1 l,O,Y⟩
theorem w5{P:gB}{w:fm}{A:i8}{E:EQ}{s:d8}{t L:di}{items:Array dq}{I O:dq}{lo J:Option Int}{Q:EQ}(z:F4 s.heap t items)(hs:s.heap.IsSliceOf L I O .none)(pl:A4 I lo)(Y:A4 O J)
 (hw:HT.dr items.size 0 lo=0/\HT.dr items.size items.size J=items.size) (h:Q (.ref t) s):wpAny (d5 P w) A (B4 (.ref t)<|.ref L) Q E s:=by
 obtain⟨os,a,b,f⟩:=id hs;have d:s.TypeIs (.ref L) "slice":=⟨os,a,b⟩;unfold B4
 try with_reducible refine Sb ?_
 first | refine Oc (Oi ?_) | skip
 refine Oc (U? z.typeIs ⋯ ?_);refine Oc (Po (name:=Px "__getitem__") z.typeIs Rm
  (p5 Rm z.typeIs entry_tuple_getitem ?_ (_P _ _)))
 show wpAny _ _ (Builtin.Tuple.tupleItemsOf (.ref t) >>= _) _ _ s;refine Oc<|UI z ?_;refine Oc<|TV d ?_;rw[DZ ⋯];refine Oc<|HT.Zs hs pl Y ?_;have e:(((HT.dr items.size 0 lo:Nat):Int)==0 && (1:Int)==1 && (HT.dr items.size items.size J - HT.dr items.size 0 lo)==items.size)=cL:=by rw[hw.1,hw.2];simp
 show wpAny _ _ (if (((HT.dr items.size 0 lo:Nat):Int)==0 && (1:Int)==1 && (HT.dr items.size items.size J - HT.dr items.size 0 lo)==items.size)=cL then _ else _) _ _ s;rw[DZ e];refine Oc (m:=N4 _) ?_;unfold N4;refine Oc<|TV z.typeIs<|Oi ?_;rw[DZ ⋯];exact Oc<|UD<|Oi ⟨_,rfl,Oi h⟩
noncomputable def Ie(K:Ob):V->Option Int->Option Int->Hp->VK->Prop:=λx lo d H Q=>∃a b,x = .ref a/\fh K H a b/\(HT.dr b.length 0 lo=0/\HT.dr b.length b.length d=b.length->Q (.ref a) H)/\∀p,H p=cR->Q (.ref p) (upd H p<|.tup<|Bi b lo d)
theorem uk:N5 X (Ie X.K):=by
 intro d s p H x v Y o lo f n Q I rx g pl z h;obtain⟨a,b,rfl,i,l,m⟩:=h;by_cases e:HT.dr b.length 0 lo=0/\HT.dr b.length b.length f=b.length
 ·cases rx
  obtain⟨j,r,O,t⟩:=I.tuple i;have k:j.toArray.size=b.length:=by rw[Ov];exact r.length.symm
  refine⟨"tuple",_,Rm.lookup,O.typeIs,?_⟩;exact w5 O g pl z (by rw[k];exact e) ⟨.ref a,H,I,rfl,l e⟩
 ·exact Co d s p H (.ref a) v Y o lo f n Q I rx g pl z ⟨a,b,rfl,i,e,m⟩
theorem ZG(n d:Nat)(o:Option Int):QL n d o=HT.dr n d o:=by cases o<;>rfl
theorem nF{K:Ob}{H:Hp}{I:List D}{xs:List V}(r:dt K H I xs)(lo J:Option Int):dt K H (Zy I lo J) (Bi xs lo J):=by unfold Zy Bi;rw[<- ZG,<- ZG,r.length];exact(r.drop _).take _
theorem lq{I:List D}{lo J:Option Int}(h:HT.dr I.length 0 lo=0/\HT.dr I.length I.length J=I.length):Zy I lo J=I:=by unfold Zy;rw[ZG,ZG,h.1,h.2];simp
noncomputable def tB(K:Ob)(f:CO (Option Int)):TO:=λg H Q=>∃d e o,RC K d H g e/\f e=cI o/\∀b a,Ext d H a b->Q o b
theorem yQ:L2.PO X cR (tB X.K W1):=λa s d H Q I ⟨b,e,o,rc,z,q⟩=>uT a s d H Q I (by cases z;exact q H b<|Ext.refl rc.sub)
theorem kH(h:PV X e f):L2.PO X (cI e) (tB X.K<|o6 f):=λa s n H Q I ⟨k,m,o,rc,z,q⟩=>uS h a s n H Q I (by
 obtain⟨i,g,l⟩:=zv z;obtain⟨d,O,g⟩:=zb g;subst l;refine⟨k,m,d,rc,O,λv j b x r=>?_⟩;rw[jA g]at r;exact⟨i,jD r,q j b x⟩)
theorem vQ{lo J:Option dy}{O Y:CO (Option Int)}(L:PV X a f)(hl:L2.PO X lo (tB X.K O))(hh:L2.PO X J (tB X.K Y)):PV X (.Subscript a (.Slice lo J cR p2) pos) (VC f O Y):=
 j6 (og uk L hl hh) λP H Q E=>by
  obtain⟨n,g,d,rc,z,q⟩:=E;obtain⟨h,A,z⟩:=zb z;obtain⟨l,B,z⟩:=zb z;obtain⟨u,C,z⟩:=zb z;refine⟨n,g,h,rc,A,λv G b x r=>⟨b,g,l,rc.ext x,B,λM t I=>⟨t,g,u,(rc.ext x).ext I,C,λo w x3=>?_⟩⟩⟩;have m:=x.trans<|I.trans x3;cases h with
  | tup N=>
   cases z;obtain⟨s,F,rfl,i,e⟩:=yb<|r.mono (I.trans x3).s0;have y:=e.length;refine⟨s,F,rfl,ix x3.sub i,λk=>?_,λp j=>?_⟩
   ·rw[y]at k
    exact q _ o w m (by rw[lq k];exact qQ i e)
   ·exact q _ _ _ (m.trans<|Ext.alloc x3.sub j _)<|qQ (fh.of zB)<|(nF e _ _).mono (zX (jk x3.sub j) _)
  | _=>cases z
theorem W7{K:Ob}{H:Hp}{I:List D}{xs:List V}(r:dt K H I xs) : ∀n:Nat,dt K H (gx n I).flatten (gx n xs).flatten
 | 0=>dt.nil
 | n+1=>by rw[RJ,RJ,Sw,Sw];exact r.append<|W7 r n
theorem gh(J:PQ X a fq)(hb:PQ X b gq):PO X (.BinOp a .Add b pos) (fK fq gq):=
 j6 (uZ oA J hb) λG H Q w=>by
  obtain⟨k,j,C,rc,z,q⟩:=w;obtain⟨⟨x,d⟩,r,z⟩:=zb z;obtain⟨⟨y,e⟩,s,z⟩:=zb z;cases x<;>cases y<;>try (simp at z;done)
  dsimp only at z;by_cases O:d.length+e.length<=lim
  ·rw[DZ O]at z;cases z
   refine⟨k,j,.L,d,rc,r,λl h A n x1 t E f=>⟨n,j,.L,e,rc.ext x1,s,λm i B o I u F g=>⟨l,m,h,i,rfl,rfl,I.s1.seq t,u,kJ (by rw[f.length,g.length];exact O),λp Y=>?_⟩⟩⟩;exact q p (h++i) _ o (x1.trans<|I.trans<|Ext.hide I.sub Y _) (yS (x1.trans I).s1 Y) (jk I.sub Y) zB<|(f.mono I.s0).append g
  ·rw[DJ O]at z;cases z
theorem Fb{K:Ob}{t c:String}{b:Bool}(h:(if ((Ss t) == .type c)=cL then cI cL else if PySem.W.kitMeta c=cL then (fastBuiltinMro t).map (·.contains (.type c))else cR)=cI b):SU K (.type t) (.type c)=cI b:=h
noncomputable def M4:Ty->String
 | .int=>"int"
 | .bool=>"bool"
 | .str=>"str"
 | .tuple=>"tuple"
 | .list=>"list"
noncomputable def Fe:D->String
 | .eg=>"NoneType"
 | .bl _=>"bool"
 | .int _=>"int"
 | .str _=>"str"
 | .tup _=>"tuple"
 | .lst _=>"list"
 | .lp _ _=>"dict"
 | .hM _ _=>"dict"
theorem YX{K:Ob}(T:Ty)(d:D):SU K (.type<|Fe d) (.type<|M4 T)=cI (BK T d):=by cases d<;>cases T<;>(dsimp only[Fe,M4,BK,sF,Fs,sA,sy,sD];exact Fb ⋯)
theorem pw{J:TW}{σ:St}{H0 H:Hp}{s:d8}{A:i8}{E:EQ}{Q:EQ}{d:D}{x:V}{u:dq}(I:Inv X J σ H s)(sub:et H0 H)(rx:RelV x u)(r:Rep X.K H0 d x)(T:Ty)
 (h : ∀L,Q (.bool (BK T d)) {s with toks:=L}):wpAny (d5 X.prog X.w) A (call (.builtin "isinstance") [u,.type (M4 T)]) Q E s:=by
 cases d with
 | eg=>have e:=YX (K:=X.K) T .eg;cases (show x = .eg from r);cases (show u=Ph from rx);exact Pu PySem.W.kitx_none I.i7 PJ e (λz=>nomatch z) h
 | bl y=>have e:=YX (K:=X.K) T<|.bl y;cases (show x = .bl y from r);cases (show u=M9 y from rx);exact Pu PySem.W.kitx_bool I.i7 PJ e (λz=>nomatch z) h
 | int i=>have e:=YX (K:=X.K) T<|.int i;cases (show x = .int i from r);obtain⟨t,q⟩:=(show ∃t,u=D7 i t from rx);cases q;exact Pu PySem.W.kitx_int I.i7 PJ e (λz=>nomatch z) h
 | str y=>have e:=YX (K:=X.K) T<|.str y;cases (show x = .str y from r);obtain⟨t,q⟩:=(show ∃t,u=UE y t from rx);cases q;exact Pu PySem.W.kitx_str I.i7 PJ e (λz=>nomatch z) h
 | tup k=>
  have e:=YX (K:=X.K) T<|.tup k;obtain⟨a,b,rfl,f,l⟩:=yb r;cases (show u=OR a from rx);obtain⟨m,B,⟨o,O,Y,_⟩,n⟩:=I.tuple<|ix sub f;exact Pu PySem.W.kitx_tuple I.i7 ⟨o,O,Y⟩ e (λz=>nomatch z) h
 | lst k=>
  have e:=YX (K:=X.K) T<|.lst k;obtain⟨a,b,rfl,f,l⟩:=gX r;cases (show u=OR a from rx);obtain⟨m,B,p,n⟩:=I.list<|sub.seq f;obtain⟨o,O,Y,_⟩:=p.isList;exact Pu UZ I.i7 ⟨o,O,Y⟩ e (λz=>nomatch z) h
 | lp g j=>
  have e:=YX (K:=X.K) T<|.lp g j;obtain⟨a,b,rfl,⟨C,_,_,f⟩,_⟩:=(show ∃a b,x = .ref a/\Du H0 a g b/\dt X.K H0 j b from r);exact iA I rx (.dK<|sub _ _ f) e h
 | hM g j=>
  have e:=YX (K:=X.K) T<|.hM g j;obtain⟨a,b,rfl,⟨_,o,F,f,l,_⟩,_⟩:=(show ∃a b,x = .ref a/\A3 X.K H0 a g b/\dt X.K H0 j b from r);cases (show u=OR a from rx);obtain⟨O,_⟩:=(show ij X.prog X.w H s.heap a (m7 a o)from I.eG a _<|sub _ _ f);exact Pu _k I.i7 ⟨o,O,l.1.1⟩ e (λz=>nomatch z) h
theorem CQ(T:Ty)(h:SX X sc N L k)(c:yT sc "isinstance" = cL)(z:X.mg "isinstance" = cR)(O:yT sc ty=cL)(z2:X.mg ty=cR)(hb:A8 ty=cI (.type (M4 T)))(ha:PV X a f)
 (J:ei [a,.Name ty p2] X.env=[(dd,d3 a X.env),(dd,d3 (.Name ty p2) X.env)]:=by rfl):PV X (.Call (.Name "isinstance" p) [a,.Name ty p2] [] pos) (DN T f):=by
 intro e s F H Q I ⟨i,E,d,rc,t,q⟩;obtain⟨l,n,o⟩:=zv t;subst o;refine RT<|kA I (h.gl c).1 z PyProof.Rows.boot_isinstance ?_ ⋯ ⋯;refine Tq ?_ (by rw[J];rfl) rfl;rw[J];show wpAny _ _ (FL ((dd,d3 a X.env)::j1 pos [(dd,d3 (.Name ty p2) X.env)])) _ _ s;refine RN<|ed (ha e s F H _ I ⟨i,E,l,rc,n,λv g b x r=>(show(λv g=>∃b,Ext i H b g/\Rep X.K b l v) v g from⟨b,x,r⟩)⟩) λu B w=>?_;obtain⟨x,j,Y,y,m,x1,A⟩:=w;show wpAny _ _ (FL ((dd,d3 (.Name ty p2) X.env)::[])) _ _ B;refine RN<|kA Y (h.gl O).1 z2 hb ?_ (h.gl O).2.1 (h.gl O).2.2;refine SQ ?_;exact pw Y x1.sub y A T λC=>⟨.bl _,j,Y.tok C,rfl,q _ j m x1 rfl⟩
end
section
variable{X:Cx}{sc:f9}{N L:List Str}{k:Nat}{e a b c:dy}{pos p p2:eo}{f g:CO D}{fq:CO (Sk×List D)}
theorem qE(h:SX X sc N L k)(c:yT sc "range" = cL)(z:X.mg "range" = cR)(I:PV X a f)(J:ei [a] X.env=[(dd,d3 a X.env)]:=by rfl):i0 X tg (.Call (.Name "range" p) [a] [] pos) (jI f):=cP (h.gl c).1 z I J
theorem aw(h:SX X sc N L k)(c:yT sc "range" = cL)(z:X.mg "range" = cR)(J:PV X a f)(O:PV X b g)(Y:ei [a,b] X.env=[(dd,d3 a X.env),(dd,d3 b X.env)]:=by rfl)(I:ei [b] X.env=[(dd,d3 b X.env)]:=by rfl) :
 i0 X tg (.Call (.Name "range" p) [a,b] [] pos) (X5 f g):=cO (h.gl c).1 z J O Y I
theorem YC(h:SX X sc N L k)(c:yT sc "zip" = cL)(z:X.mg "zip" = cR)(J:PV X a f)(O:PV X b g)(Y:ei [a,b] X.env=[(dd,d3 a X.env),(dd,d3 b X.env)]:=by rfl)(I:ei [b] X.env=[(dd,d3 b X.env)]:=by rfl) :
 i0 X (.Tuple elts x1 n7) (.Call (.Name "zip" p) [a,b] [] pos) (rO f g):=uW (h.gl c).1 z J O Y I
theorem fT(h:SX X sc N L k)(c:yT sc "isinstance" = cL)(z:X.mg "isinstance" = cR)(I:yT sc "int" = cL)(Y:X.mg "int" = cR)(J:PV X a f)
 (O:ei [a,.Name "int" p2] X.env=[(dd,d3 a X.env),(dd,d3 (.Name "int" p2) X.env)]:=by rfl):PV X (.Call (.Name "isinstance" p) [a,.Name "int" p2] [] pos) (DN .int f):=CQ .int h c z I Y PyProof.Rows.boot_int J O
theorem cF(h:SX X sc N L k)(c:yT sc "isinstance" = cL)(z:X.mg "isinstance" = cR)(I:yT sc "bool" = cL)(Y:X.mg "bool" = cR)(J:PV X a f)
 (O:ei [a,.Name "bool" p2] X.env=[(dd,d3 a X.env),(dd,d3 (.Name "bool" p2) X.env)]:=by rfl):PV X (.Call (.Name "isinstance" p) [a,.Name "bool" p2] [] pos) (DN .bool f):=CQ .bool h c z I Y PyProof.Rows.boot_bool J O
theorem ak(J:PQ X a fq)(I : ∀z,DG a X.env z=(do let v <- z;DO a.pos;u6 [v] (Lo v)):=by intro _;rfl):k0 X a (ny fq):=
 Yx (nM J I) λo H Q O=>by
  obtain⟨j,m,t,rc,Y,q⟩:=O;obtain⟨⟨h,b⟩,k,l⟩:=zv Y;subst l;refine⟨j,m,h,b,rc,k,λp d i f ext g n r=>⟨!b.isEmpty,?_,q i f ext⟩⟩;have e:d.isEmpty=b.isEmpty:=by have:=r.length;cases d<;>cases b<;>simp_all
  rw[<- e];cases h with
  | L=>exact .inl ⟨d,g,rfl⟩
  | T=>exact .inr<|.inl ⟨d,g,rfl⟩
theorem yi(i:Nat)(h:SX X sc N L k)(c:ZO sc N i x=cL)(ha:PV X a f)(J:ei [a] X.env=[(dd,d3 a X.env)]:=by rfl)
 (z:vt (.Name x np) "append" X.env (d3 (.Name x np) X.env)=d3 (.Name x np) X.env:=by rfl)
 (I:((j1 cpos<|starEach [a] X.env).all (λx=> !x.1) && (y1 cpos<|keywordEach [] X.env).all (λx=>x.1.isSome)
   && decide ([a].length+([]:List o8).length+(if ([]:List o8).isEmpty then 0 else 1)<30))=cL:=by rfl)
 (O:(apos.endLine==cpos.line)=cL:=by rfl) (Y:p4 (.Call (.Attribute (.Name x np) "append" apos) [a] [] cpos) cR pos.line X.env=pure dd:=by rfl) :
 l3 X (.Expr (.Call (.Attribute (.Name x np) "append" apos) [a] [] cpos) pos) (jS i f):=
 cJ i (VL RQ PySem.F.slot_list_append PySem.F.type_list_append YT (h.var c) (zQ ha jF J) z I O J rfl) Y
theorem qD(i:Nat){st:g8}{f:CO (List D)}(h:PS X st (XZ (tO X.K f)<|yn i)):l3 X st (jE i<|xh f):=qX h λD u H I=>by obtain⟨E0,E,j,o,s,e,z,O⟩:=I;obtain⟨d,b,z⟩:=zv z;obtain⟨l,Y,b⟩:=zv b;subst z b;exact⟨j,o,l,e.rc,Y,λa t p k x m g n r=>O _ _ _<|(e.step<|x.show m g n e.rc.sub).u7 (wK (e9.of zB)<|r.mono<|zX g _)⟩
theorem y?(i:Nat)(h:SX X sc N L k)(c:yF sc N L i y=cL)
 (z:X.calm=cL) (ok:rb X scope fr) (I : ∀i∈T.idx,i<own.length) (hi:sh X tg iter src) (O : ∀fp s2 J,PG (jm X scope (own++fr.map (·.1)) fp s2 J) tg<|oe X.K T)
 (Y : ∀fp s2 J,PV (jm X scope (own++fr.map (·.1)) fp s2 J) elt f) (hs : ∀x,o4 iter X.env x=pure x:=by intro _;rfl) :
 PS X (.Assign [.Name y py] (.ListComp elt [⟨tg,iter,[],0⟩] scope cpos) spos) (XZ (tO X.K<|zR src T own.length (fr.map (·.2)) jO f)<|yn i):=by
 obtain⟨a,b,d⟩:=h.loc c;exact nT h.MD a b d z ok I hi O Y hs
theorem Il(i:Nat)(h:SX X sc N L k)(c:yF sc N L i y=cL)
 (z:X.calm=cL) (ok:rb X scope fr) (I : ∀i∈T.idx,i<own.length) (hi:sh X tg iter src) (O : ∀fp s2 J,PG (jm X scope (own++fr.map (·.1)) fp s2 J) tg<|oe X.K T)
 (hk : ∀fp s2 J,k0 (jm X scope (own++fr.map (·.1)) fp s2 J) E2 kk) (Y : ∀fp s2 J,PV (jm X scope (own++fr.map (·.1)) fp s2 J) elt f) (hs : ∀x,o4 iter X.env x=pure x:=by intro _;rfl) :
 PS X (.Assign [.Name y py] (.ListComp elt [⟨tg,iter,[E2],0⟩] scope cpos) spos) (XZ (tO X.K<|zR src T own.length (fr.map (·.2)) kk f)<|yn i):=by
 obtain⟨a,b,d⟩:=h.loc c;exact cK h.MD a b d z ok I hi O hk Y hs
theorem nO(I:PG X tg (oe X.K T))(O:PV X e f)(hs:ML [tg] e pos.line X.env=pure dd:=by rfl)(hw:T5 [tg] e X.env=pure cR:=by rfl)
 (J:(y0 [tg] X.env).map (·.2)=[vr tg X.env]:=by rfl):l3 X (.Assign [tg] e pos) (uo T f):=
 qX (Xj O I hs hw J) λD p H Y=>by obtain⟨E0,E,i,m,o,g,z,j⟩:=Y;obtain⟨d,k,z⟩:=zb z;obtain⟨n,l,z⟩:=zv z;subst z;refine⟨i,m,d,g.rc,k,λv h a x r=>?_⟩;exact wm x.sub r l λb _ a2=>j b h a<|a2 E0 E<|g.step x
end
structure f7(P:gB)(w:fm)(K:Ob)(mg:DX)(base:ew)(k:Nat)(x:Str)(n:Nat)(F:List D->Option Res):Prop where
 ex : ∃(f:di) (fd:m6) (ps:List Str),ps.length=n/\je P w K mg base l7 k f fd ps (r6 K ps.length F)/\mg x=cI (.ref f)/\Rb K (.ref f)=cL/\Binds K fd ps []
structure fy(K:Ob)(mg:DX)(x:Str)(st:g8)(ps:List Str):Prop where
 ex : ∃(f:di) (fd:m6),L2.oi K x x st f fd/\(∀us:List dq,us.length=ps.length->D9 fd ⟨us,[]⟩=pure (ps.zip us))/\mg x=cI (.ref f)
noncomputable def A5(X:Cx)(I:List dy)(n:Nat)(g:CO (List D)):Prop:=yg X I g/\∀b a,g b=cI a->a.length=n
section
variable{X:Cx}{sc:f9}{N L:List Str}{k:Nat}{e:dy}{es:List dy}{f:CO D}{g:CO (List D)}{n:Nat}{pos p:eo}{x:Str}
theorem zh:A5 X [] 0 zC:=⟨gA,λb a h=>by cases h;rfl⟩
theorem za(I:PV X e f)(z:A5 X es n g)(J:ei (e::es) X.env=(dd,d3 e X.env)::ei es X.env:=by rfl):A5 X (e::es) (n+1) (zc f g):=
 ⟨vT I z.1 J,λb d h=>by obtain⟨y,i,h⟩:=zb h;obtain⟨r,a,h⟩:=zv h;subst h;rw[OK,z.2 b r a]⟩
variable{j:Nat}{F:List D->Option Res}
theorem Ik(z:f7 X.prog X.w X.K X.mg X.base j x n F)(I:j<=k)(h:SX X sc N L k)(c:yT sc x=cL)(J:A5 X (e::es) n g)
 (O:ei (e::es) X.env=(dd,d3 e X.env)::ei es X.env:=by rfl) (Y:(j1 pos<|starEach es X.env).any (·.1)=dd:=by rfl):PV X (.Call (.Name x p) (e::es) [] pos) (zJ F g):=by
 obtain⟨l,m,o,i,G,f,d,b⟩:=z.ex;subst i;exact uG (A0:=[]) G J.1 J.2 λ{t} a=>vE G (h.room.mono I) (h.gl c).1 f d b .nil QC a (h.gl c).2.2 O Y
theorem Io(z:f7 X.prog X.w X.K X.mg X.base j x n F)(I:j<=k)(h:SX X sc N L k)(c:yT sc x=cL)(J:A5 X (e::es) n g)
 (O:ei (e::es) X.env=(dd,d3 e X.env)::ei es X.env:=by rfl) (Y:(j1 pos<|starEach es X.env).any (·.1)=dd:=by rfl):PO X (.Call (.Name x p) (e::es) [] pos) (jU F g):=by
 obtain⟨l,m,o,i,G,f,d,b⟩:=z.ex;subst i;exact uV G J.1 J.2 λ{t} a=>vE G (h.room.mono I) (h.gl c).1 f d b .nil QC a (h.gl c).2.2 O Y
end
section
variable{P:gB}{w:fm}{K:Ob}{mg:DX}{base:ew}
noncomputable def KF(N ps:List Str)(st:g8):Bool:=
 decide ((zT st).kind = .function) && decide ((zT st).isCoroutine=dd) && decide ((zT st).isGenerator=dd) && decide N.Nodup && decide (N.take ps.length=ps) &&
 ps.all (λx=>decide ((zT st).names.lookup x=cI .local) || decide ((zT st).names.lookup x=cI .cell)) && (zT st).names.all (λy=> !(y.2==OY))
theorem yd{N ps:List Str}{st:g8}(h:KF N ps st=cL):F2 N ps (zT st):=by unfold KF at h;simp only[Oo,decide_eq_true_eq,Pe,PY,Tz]at h;obtain⟨⟨⟨⟨⟨⟨a,b⟩,z⟩,I⟩,O⟩,Y⟩,d⟩:=h;exact⟨a,b,z,I,O,Y,λy f e=>by have:=d y f;rw[e]at this;exact absurd this ⋯⟩
theorem Ji{X:Cx}(hx:X.xe=λ_ _=>False):D3 (d5 X.prog X.w) X.A X.env X.xe:=by rw[hx];exact PassesOwn.never
theorem xD{x:Str}{st:g8}{N ps:List Str}{k:Nat}{F:CO Fl}(A:fy K mg x st ps)(J:KF N ps st=cL)
 (I : ∀X:Cx,X.prog=P->X.w=w->X.K=K->X.mg=mg->X.base=base->SX X (zT st) N N k->X.xe=(λ_ _=>False)->bM X (jT st) F) :
 f7 P w K mg base (k+1) x ps.length (jn N.length F):=by
 obtain⟨f,d,z,e,g⟩:=A.ex;have S:=yd J;refine⟨f,d,ps,rfl,FA z S λb A a s H E O=>?_,g,z.kp,.all e⟩;exact I _ rfl rfl rfl rfl rfl ⟨rfl,rfl,S.nd,rfl,O,λ_ _=> .inl rfl⟩ rfl
theorem Mr{h:ew}{x:Str}{st:g8}{ps:List Str}{f:di}{oc:dq}{od L:Option di}{Y:Array (Option dq)}{kV J O I ct:dq}(z:K.In h)(G:h.Ns qd mg)
 (a:Uw K qd x=cI (cI (.ref f))) (l:K.lookup f=cI ⟨oc,od,.func<|Rw x x (xH st) (jT st) (zT st) .none kV J O L I ct,Y⟩)
 (c:SV K I x=cL) (kp:Rb K (.ref f)=cL)
 (b : ∀(kV J O:dq) (L:Option di) (I ct:dq) (us:List dq),us.length=ps.length->D9 (Rw x x (xH st) (jT st) (zT st) .none kV J O L I ct) ⟨us,[]⟩=pure (ps.zip us)):fy K mg x st ps:=
 ⟨f,_,aW l c kp,b kV J O L I ct,UM z G a⟩
theorem IT{x:Str}{st:g8}{f:di}{J:m6}{N ps:List Str}{k:Nat}{F:CO Fl}(z:L2.oi K x x st f J)(L:KF N ps st=cL)
 (I : ∀X:Cx,X.prog=P->X.w=w->X.K=K->X.mg=mg->X.base=base->SX X (zT st) N N k->X.xe=(λ_ _=>False)->bM X (jT st) F) :
 je P w K mg base l7 (k+1) f J ps (r6 K ps.length<|jn N.length F):=by
 have S:=yd L;exact FA z S λb A a s H E O=>I _ rfl rfl rfl rfl rfl ⟨rfl,rfl,S.nd,rfl,O,λ_ _=> .inl rfl⟩ rfl
theorem GU{F:List D->Option Res}{H:Hp}{a:di}{ns:List Int}(z:e9 K H a (ns.map V.int))(I:F [.lst (ns.map D.int)]=cI (.val<|.bl cL)) :
 r6 K 1 F [.ref a] H (λv _=>v = .bl cL) λ_ _ _=>False:=by
 refine⟨H,[.lst (ns.map D.int)],.val<|.bl cL,et.refl _,dt.cons (wK z ?_) dt.nil,rfl,I,λv d b _ r=>r⟩;clear I z
 induction ns with
 | nil=>exact dt.nil
 | cons n ns O=>exact dt.cons rfl O
end
end DL
namespace DL
open PySem PySem.Spec PyProof.Rows L2
open PySem.W (KasT kas_sort kas_ask kat_run kat_snds kat_lt kat_cons kat_no kat_kind KatTups KatGo)
noncomputable def Gq(h:ew)(v:dq)(k:Int):Prop:=∃x o a m t,v = .ref x/\h.get? x=cI o/\o.cls = .type "tuple"/\o.data = .seq a m/\a[0]? = cI (.int k t)
theorem sr : ∀{vs:List dq} {ks:Nat->Int},(∀i (J:i<vs.length),Gq h vs[i] (ks i))->∃fs,KatTups h vs fs/\fs.length=vs.length/\∀f∈fs,∃k t,f=D7 k t
 | [],ks,_=>⟨[],KatTups.nil,rfl,λf z=>by cases z⟩
 | v::vs,ks,H=>by
  obtain⟨fs,e,g,I⟩:=sr (vs:=vs) (ks:=λi=>ks<|i+1) λi J=>H (i+1) (by simpa using J);obtain⟨x,o,j,m,t,a,b,O,Y,d⟩:=H 0 ⋯;have a:v = .ref x:=a;subst a;exact⟨.int (ks 0) t::fs,KatTups.cons b O Y d e,by simp[g],λf z=>by
   rcases OA.mp z with rfl | z
   ·exact⟨_,_,rfl⟩
   ·exact I f z⟩
end DL
namespace DL
open PySem PySem.Spec PyProof.Rows L2
open AutoSeq1 (wpAny_loadPart')
theorem Zw:fillsNumberSlot (.type "tuple") "mul" = pure dd:=
 PySem.fillsNumberSlot_seq (id:="tuple.__mul__") (r:=cI (.builtin "tuple.__rmul__")) TX.lookup ⋯ F.slot_tuple_rmul.lookup ⋯
theorem Yt:seqRepeat? (.type "tuple")=pure (cI (.builtin "tuple.__mul__")):=by unfold seqRepeat?;rw[PySem.seqSlot_of (T:="tuple") (name:="__mul__") (id:="tuple.__mul__") TX.lookup ⋯,PySem.seqSlot_of (T:="tuple") (name:="__rmul__") (id:="tuple.__rmul__") F.slot_tuple_rmul.lookup ⋯];rfl
theorem QJ(a:Int)(t:p7)(l:di)(items:Array dq)(n:Nat)(z:Option di)(J:Array (Option dq)) :
 D2 (n9.«int.__rmul__» ⟨[.int a t,.ref l],[]⟩) (λ_ R s=>s.heap.get? l=cI {cls:= .type "tuple",dict:=z,data:= .seq items n,slots:=J}/\R (.ok (.ret Value.notImplemented)) s):=
 .of_wp λb w A R s h=>by obtain⟨I,g,d,O,os⟩:=s;obtain⟨Y,h⟩:=h;wp_walk;exact⟨_,rfl,h⟩
theorem XW(a:Int)(t:p7)(l:di)(items:Array dq)(n:Nat)(I:Option di)(sl:Array (Option dq))(J : ¬(decide (a < -(2 ^ 63)) || decide (a>=2 ^ 63))=cL)(L : ¬(items.isEmpty || a==1)=cL)
 (O : ¬(decide (a<=0) || items.isEmpty)=cL) (Y : ¬((items.size:Int)*a>(2 ^ 63 - 1)/8)) (h5 : ¬Builtin.Tuple.tupleTooMany ((items.size:Int)*a)=cL) (hz:((gx a.toNat items).foldl (· ++ ·) #[]).size<=eJ) :
 D2 (n9.«tuple.__mul__» ⟨[.ref l,.int a t],[]⟩) (λ_ R s=>s.heap.get? l=cI {cls:= .type "tuple",dict:=I,data:= .seq items n,slots:=sl}/\
  R (.ok (.ret (.ref s.heap.objs.size))) {s with heap:=s.heap.push {cls:= .type "tuple",data:= .seq ((gx a.toNat items).foldl (· ++ ·) #[])}}):=
 .of_wp λb w A R s h=>by
  obtain⟨e,g,d,f,os⟩:=s;obtain⟨z,h⟩:=h
  wp_walk using Sg z
  rw[DJ J];refine Oc<|UI (s:=⟨e,g,d,f,os⟩) ⟨_,z,rfl,n,rfl⟩ ?_;dsimp only;rw[DJ L,DJ O,DJ Y,DJ h5];refine Oc (m:=RG _)<|Pg ?_ hz;exact Oi ⟨_,rfl,h⟩
theorem QB(a:Int)(t:p7)(l:di)(items:Array dq)(n:Nat)(I:Option di)(sl:Array (Option dq))(J : ¬(decide (a < -(2 ^ 63)) || decide (a>=2 ^ 63))=cL)(L : ¬(items.isEmpty || a==1)=cL)
 (O:(decide (a<=0) || items.isEmpty)=cL) :
 D2 (n9.«tuple.__mul__» ⟨[.ref l,.int a t],[]⟩) (λ_ R s=>s.heap.get? l=cI {cls:= .type "tuple",dict:=I,data:= .seq items n,slots:=sl}/\
  R (.ok (.ret (.ref s.heap.objs.size))) {s with heap:=s.heap.push {cls:= .type "tuple",data:= .seq #[]}}):=
 .of_wp λb w A R s h=>by
  obtain⟨Y,g,d,e,os⟩:=s;obtain⟨z,h⟩:=h
  wp_walk using Sg z
  rw[DJ J];refine Oc<|UI (s:=⟨Y,g,d,e,os⟩) ⟨_,z,rfl,n,rfl⟩ ?_;dsimp only;rw[DJ L,DZ O];refine Oc (m:=RG _)<|Pg ?_ (Rg _);exact Oi ⟨_,rfl,h⟩
theorem QA(a:Int)(t:p7)(l:di)(items:Array dq)(n:Nat)(I:Option di)(sl:Array (Option dq))(J : ¬(decide (a < -(2 ^ 63)) || decide (a>=2 ^ 63))=cL)(L:(items.isEmpty || a==1)=cL) :
 D2 (n9.«tuple.__mul__» ⟨[.ref l,.int a t],[]⟩) (λ_ R s=>s.heap.get? l=cI {cls:= .type "tuple",dict:=I,data:= .seq items n,slots:=sl}/\R (.ok (.ret (.ref l))) s):=
 .of_wp λb w A R s h=>by
  obtain⟨O,g,d,Y,os⟩:=s;obtain⟨z,h⟩:=h
  wp_walk using Sg z
  rw[DJ J];refine Oc (UI (s:=⟨O,g,d,Y,os⟩) ⟨_,z,rfl,n,rfl⟩ ?_);dsimp only;rw[DZ L];refine Oc (m:=N4 _) ?_;unfold N4;refine Oc (TV (T:="tuple") ⟨_,z,rfl⟩ (Oi ?_));rw[DZ ⋯];exact Oc (UD (Oi ⟨_,rfl,h⟩))
section
variable{X:Cx}
noncomputable def CD(K:Ob):R2:=λx y H Q=>∃l k a,x = .ref l/\y = .int k/\fh K H l a/\ -(2 ^ 62)<=k/\k<2 ^ 62/\a.length*k.toNat<=eJ/\(a=[]\/k=1->Q (.ref l) H)/\
 ∀p,H p=cR->Q (.ref p) (upd H p<|.tup (gx k.toNat a).flatten)
theorem Ah:hJ X (t8 .Mult) (CD X.K):=by
 intro E s σ H x y v u Q I rx ry h;obtain⟨l,k,J,rfl,rfl,R,h1,h2,C,Z,G⟩:=h;cases rx;obtain⟨t,rfl⟩:=ry;obtain⟨z,r,S,z1⟩:=I.tuple R;obtain⟨⟨P,a,j,b⟩,O,w,n,A⟩:=id S;simp only at w A;subst w A;have L:=r.length;have g1 : ¬(decide (k < -(2 ^ 63)) || decide (k>=2 ^ 63))=cL:=by simp;omega
 refine wpAny_binaryOp_repeat_ref (T:="tuple") (U:="int") ⋯ ⟨_,O,rfl⟩ (λs'=>Y_ s' k t) Zw F.fills_int_mul F.slot_int_rmul Yt F.slot_int_index.lookup
  (Tf F.slot_int_rmul (Y_ s k t) F.entry_int_rmul (F.args_int_rmul_2 _ _) (QJ k t l z.toArray n a b) ⟨O,rfl,⟨_,O,rfl⟩,?_⟩)
 have p : ∀m:Nat,List.foldl (λx1 i=>x1++i) #[] (gx m z.toArray)=(gx m z).flatten.toArray:=λm=>by have:=Va z m [];rw[List.nil_append]at this;exact this
 by_cases g2:(z.toArray.isEmpty || k==1)=cL
 ·refine Tf TX ⟨_,O,rfl⟩ _g (_q _ _) (QA k t l z.toArray n a b g1 g2) ⟨O,⟨.ref l,H,I,rfl,Z ?_⟩⟩
  rw[PY]at g2;rcases g2 with g | g
  ·left
   have:z=[]:=by simpa using g
   exact(r.MF).mp this
  ·right;simpa using g
 ·have d:=g2
  simp only[PY,not_or]at d;have M:z ≠ []:=by intro e;exact d.1 (by rw[e];rfl)
  have am:0<z.length:=List.length_pos_iff.mpr M;by_cases Y:(decide (k<=0) || z.toArray.isEmpty)=cL
  ·have B:k.toNat=0:=by
    rw[PY]at Y;rcases Y with g | g
    ·have:=of_decide_eq_true g;omega
    ·exact absurd g d.1
   refine Tf TX ⟨_,O,rfl⟩ _g (_q _ _) (QB k t l z.toArray n a b g1 g2 Y) ⟨O,?_⟩;refine⟨.ref s.heap.objs.size,_,I.laid (t':=s.toks) (o:= .tup (gx k.toNat J).flatten) (λc W q=>Of _ q) (Ou _) ?_,rfl,G _<|I.eG.fresh<|Ou _⟩;rw[B];exact⟨Rg _,[],.nil,x4.new _ _⟩
  ·have B : ¬k<=0:=by intro g;exact Y (by rw[PY];exact .inl<|decide_eq_true g)
   have f:z.length*k.toNat<=eJ:=by rw[<- L];exact C
   have an:((z.toArray.size:Nat):Int)*k<=(eJ:Int):=by
    rw[Ov];have e:((z.length*k.toNat:Nat):Int)=(z.length:Int)*k:=by rw[Int.natCast_mul,_l ⋯]
    omega
   have ap:eJ=16777216:=Um;have N:(List.foldl (λx1 i=>x1++i) #[] (gx k.toNat z.toArray)).size<=eJ:=by rw[p,Ov,ia,Y?];exact f
   refine Tf TX ⟨_,O,rfl⟩ _g (_q _ _) (XW k t l z.toArray n a b g1 g2 Y ⋯ (by unfold Builtin.Tuple.tupleTooMany;simp only[decide_eq_true_eq];omega) N) ⟨O,?_⟩;rw[p];refine⟨.ref s.heap.objs.size,_,I.laid (t':=s.toks) (o:= .tup (gx k.toNat J).flatten) (λc W q=>Of _ q) (Ou _) ?_,rfl,G _<|I.eG.fresh<|Ou _⟩;exact⟨by rw[ia,Y?];exact C,_,r.rep k.toNat,x4.new _ _⟩
theorem ug{K:Ob}:n0 K (λx y H Q=>rI D0 (λi j=> .int (i*j)) x y H Q\/CD K x y H Q) ya:=λk H x y l Y d Q s rx I z q=>by
 cases l<;>cases Y<;>simp[ya]at z
 ·obtain⟨m,g⟩:=z
  subst g;exact .inl ⟨_,_,jD rx,jD I,pZ m,q _ H k (Ext.refl s) rfl⟩
 ·rename_i f j
  obtain⟨⟨o,n⟩,rfl⟩:=z;obtain⟨a,u,rfl,h,b⟩:=yb rx;obtain⟨r,t⟩:=Kw n;refine .inr ⟨a,j,u,rfl,jD I,ix s h,r,t,kJ (by rw[b.length];exact o),λe=>?_,λp O=>?_⟩
  ·refine q _ H k (Ext.refl s) ?_
   rcases e with e | e
   ·have g:f=[]:=by
     have:=b.length;rw[e]at this;exact Pd this.symm
    subst g;rw[show(gx j.toNat ([]:List D)).flatten=[]by simp];exact qQ h b
   ·subst e
    rw[show(gx (1:Int).toNat f).flatten=f by simp];exact qQ h b
  ·exact q _ _ _ (Ext.alloc s O _)<|qQ (fh.of zB)<|(W7 b _).mono (zX (jk s O) _)
theorem qL(I:PV X a fa)(J:PV X b fb):PV X (.BinOp a .Mult b pos) (zw ya fa fb):=Xg (x?.or Ah) ug I J
end
end DL
namespace DL
open PySem PySem.Spec PyProof.Rows L2
theorem RC.p?{K:Ob}{H0 H:Hp}{σ:St}{γ:Ctx}{i:Nat}{J:List D}{a:di}{xs:List V}(r:RC K H0 H σ γ)(e:γ[i]? = cI (.own J))(h1:σ[i]? = cI (cI (.ref a)))(L:H0 a=cR)(h3:H a=cI (.lst xs))(h4:dt K H0 J xs):RC K (L2.upd H0 a<|.lst xs) H σ (γ.set i<|.val<|.lst J):=by
 refine⟨λb o q=>?_,by simp[r.len],λj d g=>?_,λj n g=>?_,λj k b n fs f h u w=>?_,⟨λj l g=>?_,λj k y A f h=>?_⟩⟩
 ·by_cases z:b=a
  ·subst z;rw[zB]at q;rw[h3];exact q
  ·rw[zH z]at q;exact r.sub b o q
 ·rcases zN g with⟨rfl,z,E⟩ | ⟨I,z⟩
  ·cases z;exact⟨_,h1,wK (e9.of zB)<|h4.mono<|zX L _⟩
  ·obtain⟨v,O,g2⟩:=r.val j d z
   exact⟨v,O,g2.mono<|zX L _⟩
 ·rcases zN g with⟨_,z,_⟩ | ⟨I,z⟩
  ·cases z
  ·obtain⟨b,B,O,g2,g3,x⟩:=r.own j n z
   refine⟨b,B,O,?_,g3,x.mono<|zX L _⟩;rw[zH (λq=>I<|r.ne j i a n J z e (by rw[O,q]) h1)];exact g2
 ·rcases zN f with⟨_,z,_⟩ | ⟨I,m⟩
  ·cases z
  ·rcases zN h with⟨_,z,_⟩ | ⟨C,p⟩
   ·cases z
   ·exact r.ne j k b n fs m p u w
 ·rcases zN g with⟨_,z,_⟩ | ⟨I,z⟩
  ·cases z
  ·obtain⟨b,bs,f1,f2,s⟩:=r.s9.1 j l z
   have t:=s i J a e h1;refine⟨b,bs,f1,f2.move (zX L _) (λc Y=>by rw[zH (λq=>t<|by rw[<- q];exact Y)];exact(f2.at Y).1)<|λc Y=>rfl,λk fs c f h=>?_⟩;rcases zN f with⟨_,z,_⟩ | ⟨_,m⟩
   ·cases z
   ·exact s k fs c m h
 ·rcases zN f with⟨_,z,_⟩ | ⟨_,m⟩
  ·cases z
  ·rcases zN h with⟨_,z,_⟩ | ⟨_,p⟩
   ·cases z
   ·exact r.s9.2 j k y A m p
end DL
namespace L2
open PySem PySem.Spec PyProof.Rows
open AutoSeq1 (wpAny_loadPart')
section
variable{prog:gB}{w:fm}{A:i8}{E:EQ}{s:d8}
theorem dD{z it l:di}{n:Nat}{xs:Array dq}{x Y:dq}{Q:EQ}(hz:tu s.heap z it n Y)(h1:kr .T s.heap it l n)(hl:n4 .T s.heap l xs)(hx:xs[n]? = cI x)(J:z≠it)
 (hQ : ∀g,NZ g z it ((n:Int)+1) x s.heap.objs.size->kr .T g it l (n+1)->nj g s.heap.objs.size (.int n s.toks) x->g.objs.size=s.heap.objs.size+1->
   (∀c o,c≠z->c≠it->s.heap.get? c=cI o->g.get? c=cI o)->Q (.ref s.heap.objs.size) {s with heap:=g,toks:=s.toks+1}) :
 wpAny (d5 prog w) A (n9.«enumerate.__next__» ⟨[.ref z],[]⟩) (λL s'=>∃v,L = .done (.ret v)/\Q v s') E s:=by
 refine Oc (m:=field (.ref z) 2) (PZ hz rfl (x:= .ref it) rfl ?_);refine Oc (m:=Pf (.ref it)) (vW h1 hl hx λg1 H f=>?_);have h:tu g1 z it n Y:=f.extBut _ _ J hz;refine Oc (m:=field (.ref z) 3) (PZ h rfl (x:=o5 n) rfl ?_);refine Oc (m:=field (.ref z) 4) (PZ h rfl (x:= .none) rfl ?_);refine Oc (m:=mkInt n) (wpAny_mkInt ?_);refine Oc (m:=FI (.ref z) 3 (o5 ((n:Int)+1))) (Rt h ⋯ λg2 i j=>?_);replace i:tu g2 z it ((n:Int)+1) Y:=i;refine Oc (m:=FI (.ref z) 4 .none) (Rt i ⋯ λg3 k p=>?_);replace k:tu g3 z it ((n:Int)+1) Y:=k;refine Oc (m:=ME [.int n s.toks,x]) (R? ?_);have d:tu (g3.push {cls:= .type "tuple",data:= .seq #[.int n s.toks,x]}) z it ((n:Int)+1) Y:=Of _ k;generalize a4:g3.push {cls:= .type "tuple",data:= .seq #[.int n s.toks,x]}=O at d;have S:g1.objs.size=s.heap.objs.size:=f.1;have U:g2.objs.size=g1.objs.size:=j.1;have W:g3.objs.size=g2.objs.size:=p.1;have a:g3.objs.size=s.heap.objs.size:=by rw[W,U,S]
 have bl:z<s.heap.objs.size:=OD hz;have K:nj O s.heap.objs.size (.int n s.toks) x:=by show O.get? _=_;rw[<- a4,<- a];exact Oz _ rfl
 have X:O.objs.size=s.heap.objs.size+1:=by rw[<- a4,nr,a]
 have bv : ∀c o,c≠z->c≠it->s.heap.get? c=cI o->O.get? c=cI o:=λc o I y e=>by rw[<- a4];exact Of _<|p.extBut _ _ I<|j.extBut _ _ I<|f.extBut _ _ y e
 have M:kr .T O it l (n+1):=H.at λo e=>by rw[<- a4];exact Of _<|p.extBut _ _ J.symm<|j.extBut _ _ J.symm e
 refine Oc (m:=PN<|.ref z) ?_;unfold PN;refine Oc<|PZ d rfl (x:= .none) rfl<|Oi ?_;simp only[if_true];refine Oc<|UD<|Oc<|PZ d rfl (x:=Y) rfl ?_;refine Oc<|Rt d ⋯ λB r F=>?_;replace r:tu B z it ((n:Int)+1) x:=r;rw[a];refine Oc (m:=RI (.ref z)<|.ref s.heap.objs.size) ?_;unfold RI;refine Oc<|Rt r ⋯ λg6 t as=>?_;replace t:NZ g6 z it ((n:Int)+1) x s.heap.objs.size:=t;refine Rt t ⋯ λb u G=>?_;replace u:NZ b z it ((n:Int)+1) x s.heap.objs.size:=u;have C : ∀c o,c≠z->O.get? c=cI o->b.get? c=cI o:=λc o I e=>G.extBut _ _ I<|as.extBut _ _ I<|F.extBut _ _ I e;have Z:b.objs.size=s.heap.objs.size+1:=by have N:B.objs.size=O.objs.size:=F.1;have P:g6.objs.size=B.objs.size:=as.1;have R:b.objs.size=g6.objs.size:=G.1;rw[R,P,N,X]
 exact Oc<|wpAny_letGo<|Oi ⟨_,rfl,hQ b u (M.at λo e=>C _ o J.symm e) (C _ _ (RM bl) K) Z λc o I y e=>C c o I<|bv c o I y e⟩
theorem iT{z it l:di}{n:Nat}{xs:Array dq}{I:dq}{Q:Fin->d8->Prop}(O:A.handled=cR)(hz:tu s.heap z it n I)(J:kr .T s.heap it l n)(Y:n4 .T s.heap l xs)(hx:xs[n]? = cR)
 (L : ∀g e,Heap.ExtBut it s.heap g->(∃o,g.get? e=cI o/\o.cls = .type "StopIteration")->E (.ref e) {s with heap:=g}) :
 wpAny (d5 prog w) A (n9.«enumerate.__next__» ⟨[.ref z],[]⟩) Q E s:=
 Oc (m:=field (.ref z) 2) (PZ hz rfl (x:= .ref it) rfl<|Oc (m:=Pf<|.ref it)<|Kn O J Y hx L)
end
noncomputable def AW(i:di):i5:={cls:= .type "enumerate",data:= .fields #[.none,.bool dd,.ref i,o5 0,.none,.none]}
noncomputable def JM(h:ew)(l:di):ew:=PX (PX h<|m3 .T l)<|AW h.objs.size
theorem iS(l:di)(xs:Array dq) :
 D2 (n9.«enumerate.__new__» ⟨[.type "enumerate",.ref l],[]⟩) (λ_ R s=>n4 .T s.heap l xs/\R (.ok (.ret (.ref (s.heap.objs.size+1)))) {s with heap:=JM s.heap l}):=
 .of_wp λb w A R s h=>by
  obtain⟨Y,g,d,i,os⟩:=s;obtain⟨f,h⟩:=h;have j:=sub_enumerate;have z:Heap.IsTuple (Shared.heap ⟨Y,g,d,i,os⟩) l xs:=f;obtain⟨o,I,O,m,a⟩:=id z;obtain⟨e,hM,k,n⟩:=o;simp only at O a;subst O a;simp only[JM,AW,m3,nr]at h
  wp_walk using Sg I
  refine wpAny_stack_any λst=>Oi ?_;split
  ·rename_i c _ _ _ _ _
   cases (c==Ss "enumerate")<;>(wp_walk using Sg I,Uu z;exact⟨_,rfl,by simpa[nr,Ua]using h⟩)
  ·wp_walk using Sg I,Uu z
   exact⟨_,rfl,by simpa[nr,Ua]using h⟩
noncomputable def N0(K:Ob)(a:di):It:=
 ⟨λi H=>∃b,lb .T K H a b/\i<b.length,
  λi H x d=>∃p u,x = .ref p/\H p=cR/\d=upd H p (.tup [.int i,u])/\(∀b,lb .T K H a b->b[i]? = cI u),
  λi H=>∃b,lb .T K H a b/\b.length<=i⟩
theorem kZ(hz:tu s.heap z it n old)(h:Q (.ref z) s):wpAny (d5 prog w) A (E9 (.ref z)) Q E s:=by have I:s.TypeIs (.ref z) "enumerate":=⟨_,hz,rfl⟩;refine _h I F.slot_enumerate_iter (p5 F.slot_enumerate_iter I F.entry_enumerate_iter ?_ (F.args_enumerate_iter_1 _));have O:wpAny (d5 prog w) A.in1 (ret (.ref z)) (λO a=>∃v,O = .done (.ret v)/\∃T m,a.TypeIs v T/\M5 (.type T) "__next__" = pure (cI m)/\Q v a) E s:=Oi ⟨_,rfl,"enumerate",_,I,SY.lookup,h⟩;exact O
theorem eT{P:gB}{w:fm}{K:Ob}{elts:List dy}{x1:Nat}{n7:eo}{z it a:di}(ae:z≠it) :
 Turn P w K (.Tuple elts x1 n7) (N0 K a) [z,it] z (λi h=>(∃Y,tu h z it i Y)/\kr .T h it a i) where
 mem:=by simp
 obj:=λi h ⟨⟨Y,hz⟩,h1⟩ y hy=>by
  simp only[OA,OP,or_false]at hy;rcases hy with rfl | rfl
  ·exact⟨_,hz,λv q=>by cases q⟩
  ·exact h1.obj
 keep:=λi h h' ⟨⟨Y,hz⟩,h1⟩ k=>⟨⟨Y,k z ⋯ _ hz⟩,h1.at λo e=>k it ⋯ o e⟩
 item:=by
  rintro X hP hw hK hc i pins s σ H E I hf ⟨⟨Y,hz⟩,h1⟩ ⟨xs,a7,an⟩;subst hP hw hK;obtain⟨ap,aa,p1,z1⟩:=I.sq a7;have hx:xs[i]? = cI xs[i]:=Oe an;obtain⟨u1,ar,as⟩:=aa.get hx;have hT:s.TypeIs (.ref z) "enumerate":=⟨_,hz,rfl⟩;unfold rr;refine Oc (Te (Po (name:=Px "__next__") hT SY (p5 SY hT F.entry_enumerate_next
   (dD hz h1 p1 (x:=u1) (by simpa using ar) ae λg a1 a2 a3 a4 a5=>Oi ⟨_,rfl,?_⟩) (F.args_enumerate_next_1 _))))
  refine Q? a1 λg2 bd ac=>?_;have lt : ∀{c o},s.heap.get? c=cI o->s.heap.objs.size≠c:=λe=>RM<|OD e;have be:nj g2 s.heap.objs.size (.int i s.toks) u1:=ac.extBut _ _ (lt hz) a3;have kk : ∀O u,O ∉ [z,it]->s.heap.get? O=cI u->g2.get? O=cI u:=λO u hb e=>by simp only[OA,OP,or_false,not_or]at hb;exact ac.extBut _ _ hb.1<|a5 O u hb.1 hb.2 e
  have I1:Inv X pins σ (upd H s.heap.objs.size<|.tup [.int i,xs[i]]) {s with heap:=g2,toks:=s.toks+1}:=
   I.X1 (fp:=[z,it]) kk hf (Ou _) ⟨by show 2<=eJ;decide,[.int i s.toks,u1],.cons ⟨_,rfl⟩<|.cons as .nil,⟨_,be,rfl,_,rfl⟩⟩
  have bi:H s.heap.objs.size=cR:=I.fresh;refine⟨.ref s.heap.objs.size,_,I1,rfl,⟨_,_,rfl,bi,rfl,λc1 bl=>by rw[I.T2 bl a7];exact hx⟩,?_,λO hb=>?_⟩
  ·exact⟨⟨_,by have:=bd;rwa [show((i:Int)+1)=((i+1:Nat):Int)by omega]at this⟩,a2.at λo e=>ac.extBut _ _ ae.symm e⟩
  ·have bm:O≠s.heap.objs.size:=by
    simp only[OA,OP,or_false]at hb;rcases hb with rfl | rfl
    ·exact(lt hz).symm
    ·obtain⟨o,e,_⟩:=h1.obj;exact(lt e).symm
   rw[zH bm];exact(hf O hb).1
 done:=by
  rintro X hP hw hK hc i pins s σ H E I hf ⟨⟨Y,hz⟩,h1⟩ ⟨xs,a7,hi⟩;subst hP hw hK;obtain⟨ap,aa,p1,z1⟩:=I.sq a7;have hT:s.TypeIs (.ref z) "enumerate":=⟨_,hz,rfl⟩;have l1:=aa.length;unfold rr;refine Oc (Te (Po (name:=Px "__next__") hT SY (p5 SY hT F.entry_enumerate_next
   (iT (show X.A.handled=cR from I.ok.hd hc) hz h1 p1 (by simp;omega) λg e hk he=>?_) (F.args_enumerate_next_1 _))))
  obtain⟨o,ho,bx⟩:=he;refine Oc (UL (T:="StopIteration") (b:=cL) ⟨o,ho,bx⟩ f_ (Oi ⟨rfl,?_⟩));refine I.FR (t':=s.toks) (fp:=[z,it]) (λO u hb e=>?_) hf;simp only[OA,OP,or_false,not_or]at hb;exact hk O u hb.2 e
 self:=λ_ _ _ _ _ st h=>kZ st.1.choose_spec h
noncomputable def IL(K:Ob)(I:TA):TI:=λf H R=>I f H λd b=>∃a,d=[.ref a]/\(∃e,lb .T K b a e)/\R (N0 K a) b
theorem uY{X:Cx}{e1:dy}{ta:TA}{p pos:eo}{J:List dy}{x1:Nat}{L:eo}(hg:Gl X "enumerate")(hm:X.mg "enumerate" = cR)(ha:PA X [e1] ta)
 (hv:A8 "enumerate" = cI (.type "enumerate")) (hs:ei [e1] X.env=[(dd,d3 e1 X.env)]:=by rfl) :
 PI X (.Tuple J x1 L) (.Call (.Name "enumerate" p) [e1] [] pos) (IL X.K ta):=by
 intro d s j H R I h;refine D1<|kA I hg hm hv<|Pk (ed (ha pos d s j H _ I h) λB b t=>?_) (by rw[hs];rfl) rfl;obtain⟨C,f,z,w,u⟩:=t;obtain⟨a,e,⟨G,l⟩,q⟩:=u;subst e;obtain⟨E,r,m⟩:=yE w;subst r;cases m;obtain⟨n,y,Y,M⟩:=z.sq l;have A:=Y.lt;refine _V F.called_enumerate ⋯ (F.typeCall_enumerate_1 _) (F.newCall_enumerate_1 _) (λobj=>F.args_object_init_2 obj _) F.entry_enumerate_new (iS a n.toArray) ⟨Y,?_⟩;have keep : ∀c o,b.heap.get? c=cI o->(JM b.heap a).get? c=cI o:=λc o e=>Of _<|Of _ e;have x:(PX b.heap<|m3 .T a).objs.size=b.heap.objs.size+1:=nr ..;have g0:kr .T (JM b.heap a) b.heap.objs.size a 0:=(Xv .T b.heap a).at λo e=>Of _ e;have O:tu (JM b.heap a) (b.heap.objs.size+1) b.heap.objs.size 0 .none:=by have q:=Oz (PX b.heap<|m3 .T a) (o:=AW b.heap.objs.size) rfl;rw[x]at q;exact q
 refine⟨⟨_,O,rfl⟩,kZ (s:={b with heap:=JM b.heap a}) O ?_⟩;have k:Inv X d j f {b with heap:=JM b.heap a,toks:=b.toks}:=z.kept keep;refine⟨_,[b.heap.objs.size+1,b.heap.objs.size],_,_,f,rfl,k,eT<|RM<|PR _,⟨⟨_,O⟩,g0⟩,λc i=>?_,q⟩;have g:b.heap.objs.size<=c:=by
  simp only[OA,OP,or_false]at i;rcases i with rfl | rfl
  ·exact PU _ _
  ·exact Ou _
 exact z.Df g<|z.eG.fresh g
end L2
namespace DL
open PySem PySem.Spec PyProof.Rows L2
theorem v7{K:Ob}{H:Hp} : ∀{I:List D} {xs:List V} {l:List Int},dt K H I xs->QI I=cI l->xs=l.map V.int
 | [],xs,l,r,e=>by cases e;rw[show xs=[]from r];rfl
 | d::I,xs,l,r,e=>by
  obtain⟨x,g,rfl,z,b⟩:=(show ∃x r,xs=x::r/\Rep K H d x/\dt K H I r from r);cases d with
  | int i=>
   obtain⟨f,a,rfl⟩:=zv (show(QI I).map (λl=>i::l)=cI l from e);rw[v7 b a,show x = .int i from z];rfl
  | _=>cases e
theorem JL : ∀l:List Int,(l.map V.int).all KC=cL
 | []=>rfl
 | i::l=>by simp only[OH,List.all_cons,JL l,Bool.and_true];rfl
theorem V5(i:Int) : ∀l:List Int,Mx (.int i) (l.map V.int)=decide (i∈l)
 | []=>rfl
 | j::l=>by
  have z:=V5 i l;unfold Mx at z ⊢;rw[OH,TU,z];have e:B1 (.int j) (.int i)=(j==i):=rfl;rw[e];by_cases h:i=j
  ·subst h
   rw[beq_self_eq_true,Bool.true_or];exact(decide_eq_true Ot).symm
  ·rw[beq_false_of_ne (PH h),Bool.false_or]
   exact decide_eq_decide.mpr ⟨λq=>Ow _ q,λq=>(OA.mp q).resolve_left h⟩
theorem eE{K:Ob}{H0 L:Hp}{a:di}{xs:List V}{J:List D}(h:fh K L a xs)(r:dt K H0 J xs):Walk K H0 L (N0 K a) (xG J):=by
 have o:=r.length;have t:(xG J).length=J.length:=by simp[xG]
 refine⟨λi b s m=>?_,λb s=>?_,λi b x g s m y=>?_⟩
 ·exact⟨xs,ix s h,by omega⟩
 ·exact⟨xs,ix s h,by omega⟩
 ·obtain⟨p,u,j,z,k,I⟩:=y
  obtain⟨d,l,O⟩:=r.DF<|I xs<|ix s h;refine⟨.tup [.int i,d],?_,λf n e=>⟨upd f p<|.tup [.int i,u],?_,?_⟩⟩
  ·have Y:i<J.length:=by omega
   unfold xG;rw[OF,PD Y,OJ,l];rfl
  ·rw[k];exact Ext.alloc e z _
  ·rw[j]
   exact qQ (fh.of zB)<|dt.cons (show V.int i = .int i from rfl)<|dt.cons ((O.mono n).mono (zX (jk e z) _)) dt.nil
section
variable{X:Cx}{sc:f9}{N L:List Str}{k:Nat}{a b c:dy}{pos p:eo}{f fa fb fc:CO D}
theorem ay(h:SX X sc N L k)(c:yT sc "enumerate" = cL)(z:X.mg "enumerate" = cR)(ha:PV X a f)(J:ei [a] X.env=[(dd,d3 a X.env)]:=by rfl) :
 i0 X (.Tuple elts x1 n7) (.Call (.Name "enumerate" p) [a] [] pos) (cC f):=
 Kj (uY (h.gl c).1 z (zQ ha jF J) A_ J) λs H R Y=>by
  obtain⟨g,m,n,rc,I,q⟩:=Y;obtain⟨d,j,I⟩:=zb I;cases d with
  | tup o=>
   cases I;refine⟨g,m,_,rc,j,λv e b x r=>?_⟩;obtain⟨i,l,rfl,O,g2⟩:=yb r;exact⟨i,rfl,⟨l,ix x.sub O⟩,q _ e b x<|eE O g2⟩
  | _=>cases I
theorem nI(ho:hJ X (m9 op) r)(J:hJ X (m9 I7) r')(s1:n0 X.K r F)(s2:n0 X.K r' G)(ha:PV X a fa)(hb:PV X b fb)(hc:PV X c fc)
 (hm:P9 [op,I7] [b,c]=dd:=by with_unfolding_all rfl):PV X (.Compare a [op,I7] [b,c] pos) (vn F G fa fb fc):=
 j6 (oj ho J ha hb hc hm) λσ H Q N=>by
  obtain⟨l,e,d,rc,I,q⟩:=N;obtain⟨x,A,I⟩:=zb I;obtain⟨y,B,I⟩:=zb I;obtain⟨k,C,I⟩:=zb I;obtain⟨g,E,h⟩:=zb C;refine⟨l,e,x,rc,A,λU H1 s x1 P=>⟨s,e,y,rc.ext x1,B,λj m t O i=>s1 t m U j x y g _ O.sub (P.mono O.s0) i E λW n f x3 R=>?_⟩⟩;cases g with
  | bl k'=>
   cases h;refine⟨k,show W = .bl k from R,?_⟩;cases k with
   | true=>
    rw[DZ rfl];rw[DZ rfl]at I;obtain⟨z,L,M⟩:=zb I;exact⟨f,e,z,((rc.ext x1).ext O).ext x3,L,λZ o u Y S=>s2 u o j Z y z d _ Y.sub ((i.mono x3.s0).mono Y.s0) S M λv5 p w x5 T=>q v5 p w (((x1.trans O).trans x3).trans (Y.trans x5)) T⟩
   | false=>
    rw[DJ ⋯];rw[DJ ⋯]at I;cases I;exact q _ n f ((x1.trans O).trans x3) rfl
  | _=>cases h
end
theorem vH : ∀{l:List Int} {us:List dq},ej (l.map V.int) us->∀i,i<us.toArray.size->∃z u,us.toArray[i]? = cI (.int z u)/\l[i]? = cI z
 | [],us,r,i,hi=>by cases r;exact absurd hi<|OO _
 | z::l,u::us,.cons r t,i,hi=>by
  cases i with
  | zero=>
   obtain⟨I,rfl⟩:=r;exact⟨z,I,by simp,by simp⟩
  | succ i=>
   obtain⟨O,Y,a,b⟩:=vH t i (by simpa using hi);exact⟨O,Y,by simpa using a,by simpa using b⟩
noncomputable def tN(K:Ob)(f:CO (List<|List D)):TE:=λj H Q=>∃h i d,RC K h H j i/\f i=cI d/\
 ∀a bs g e,Ext h H e g->(∀b∈a::bs,H b=cR)->C7 K e g d a bs->Q (.ref a) g
noncomputable def t4(K:Ob)(H0 H:Hp)(I:List (List D))(bs:List di):Prop:=bs.length=I.length/\∀(k:Nat) b row,bs[k]? = cI b->I[k]? = cI row->H0 b=cR/\∃a,H b=cI (.lst a)/\dt K H0 row a
theorem t4.at{K:Ob}{H0 H:Hp}{I:List (List D)}{bs:List di}(n:t4 K H0 H I bs){b:di}(J:b∈bs):H0 b=cR/\∃xs,H b=cI (.lst xs):=by obtain⟨k,a⟩:=L6 J;have z:=(Ol.mp a).1;rw[n.1]at z;obtain⟨d,xs,e,_⟩:=n.2 k b _ a<|Oe z;exact⟨d,xs,e⟩
theorem t4.ext{K:Ob}{H0 H L H':Hp}{J:List (List D)}{bs:List di}(n:t4 K H0 H J bs)(e:Ext H0 H L H'):t4 K L H' J bs:=
 ⟨n.1,λk b row a d=>by obtain⟨z,f,g2,I⟩:=n.2 k b row a d;exact⟨e.new b z (by rw[g2];simp),f,e.s1 _ _ g2,I.mono e.s0⟩⟩
theorem t4.add{K:Ob}{H0 H:Hp}{J:List (List D)}{bs:List di}{b:di}{row:List D}{xs:List V}(n:t4 K H0 H J bs)(L:H0 b=cR)(O:H b=cI (.lst xs))(I:dt K H0 row xs):t4 K H0 H (J++[row]) (bs++[b]):=
 ⟨by simp[n.1],λk c r a d=>by
  rcases OG k bs.length with z | z
  ·rw[OV z]at a
   rw[OV (by rw[<- n.1];exact z)]at d;exact n.2 k c r a d
  ·rw[OZ z]at a
   rw[OZ (by rw[<- n.1];exact z)]at d;have e:k - bs.length=0:=by have:=(Ol.mp a).1;simp at this;omega
   rw[e]at a;rw[<- n.1,e]at d;cases a;cases d;exact⟨L,xs,O,I⟩⟩
theorem t4.hide{K:Ob}{H0 H:Hp}{J:List (List D)}{bs:List di}{z:di}{o:HO}(n:t4 K H0 H J bs)(h:z∉bs):t4 K H0 (upd H z o) J bs:=
 ⟨n.1,λk b row a d=>by obtain⟨I,e,g2,O⟩:=n.2 k b row a d;exact⟨I,e,by rw[zH (λq=>h<|by rw[<- q];exact OS a)];exact g2,O⟩⟩
section
variable{K:Ob}{own:List Str}{fr:List (Str×Nat)}{src:CO (List D)}{T:Tg}{f:CO (List D)}
theorem dF(hT : ∀i∈T.idx,i<own.length){tt:TT}(c6 : ∀L H Q,tT K jO L H Q->tt L H Q) : ∀L H Q,tN K (W3 src T own.length (fr.map (·.2)) f) L H Q->fe (U1 K src) own fr (oe K T) tt (tO K f) L H Q:=λL H Q hZ=>by
 obtain⟨H0,u,n,rc,s,q⟩:=hZ;obtain⟨a,e1,s⟩:=zb s;by_cases hl:a.length<=lim
 ·rw[DZ hl]at s
  refine⟨H0,u,a,rc,e1,λJ A Z x1 wk D P=>?_⟩;have ae : ∀(i:Nat) C,(jL own.length (fr.map (·.2)) u)[i]? ≠ cI (.own C):=λi C h=>by rcases qv h with z | ⟨d',j,z,_⟩<;>cases z
  have ag : ∀(i:Nat) C,(jL own.length (fr.map (·.2)) u)[i]? ≠ cI (.nest C):=λi C h=>by rcases qv h with z | ⟨d',j,z,_⟩<;>cases z
  have ax:Z D=cR:=jk x1.sub P;have b0 : ∀c,A c=cR->H c=cR:=λc R=>by
   cases z:H c with
   | none=>rfl
   | some o=>rw[x1.s1 c o z]at R;cases R
  refine⟨λi m X F l=>m=a.length - i/\i<=a.length/\X.length<=i/\l D=cI (.lst X)/\∃g bs U r2,X=bs.map V.ref/\RC K g l F (jL own.length (fr.map (·.2)) u)/\g D=cR/\Ext Z A g l/\t4 K g l U bs/\(D::bs).Nodup/\(∀b∈bs,A b=cR)/\Zg T f (jL own.length (fr.map (·.2)) u) (a.drop i)=cI r2/\n=U++r2,
   ⟨_,rfl,Rg _,Ou _,zB,Z,[],[],n,rfl,((rc.ext x1).pull).upd ax ae ag,ax,Ext.hide x1.sub P _,⟨rfl,λk b row h=>by simp at h⟩,by simp,λb hb=>by simp at hb,s,rfl⟩,?_⟩
  rintro i m X F l ⟨rfl,hi,hy,M,g,bs,U,r2,ca,am,b9,t,N,nd,bb,I,rfl⟩;subst ca;refine⟨M,?_⟩;by_cases B:i<a.length
  ·refine .inr ⟨wk.go i l t.s1 B,?_,λx an y=>?_⟩
   ·have:=kJ<|Ou lim;omega
   obtain⟨d,hd,hx⟩:=wk.z8 i l x an t.s1 B y;obtain⟨G0,O,rg⟩:=hx g t.s0 am.sub;have cd:a.drop i=d::a.drop (i+1):=by
    have ce:d=a[i]:=by rw[Oe B]at hd;exact(OW hd).symm
    rw[ce];exact Tc B
   rw[cd]at I;simp only[Zg]at I;obtain⟨p,eb,I⟩:=zb I;obtain⟨e,ee,I⟩:=zb I;obtain⟨qZ,er,I⟩:=zv I;have ch:G0 D=cR:=O.new D b9 (by rw[M];simp);have be:an D=cI (.lst<|bs.map V.ref):=O.s1 _ _ M;obtain⟨bl,bg⟩:=Vl eb;have cl : ∀{G:St} {G2 H2:Hp},RC K G2 H2 G p->RC K G2 H2 G (jL own.length (fr.map (·.2)) u):=λr=>r.weak bl.symm (λj d' hj=>by
    by_cases S:j∈T.idx
    ·rcases qv hj with z | ⟨d2,j2,_,hn,_⟩
     ·cases z
     ·exact absurd (hT j S) ⋯
    ·rw[bg j S];exact hj) ae ag
   refine wm O.sub rg eb λNJ bv _=>c6 NJ an _ ⟨G0,p,cL,bv<|am.ext O,rfl,λH3 bx x3=>?_⟩;have c0:=(bv<|am.ext O).ext x3;have xa:=t.trans<|O.trans x3;have co:bx D=cR:=x3.new D ch (by rw[be];simp);have ap:H3 D=cI (.lst<|bs.map V.ref):=x3.s1 _ _ be;dsimp only;rw[DZ rfl];refine⟨bx,p,e,c0,ee,λY d6 H4 c2 E g1 g2 g3 g4=>?_⟩;have ar:c2 D=cR:=E.new D co (by rw[ap];simp);have ct:H4 D=cI (.lst<|bs.map V.ref):=E.s1 _ _ ap;have W:=xa.trans E;have cw:=((N.ext O).ext x3).ext E;have cx:=(N.ext O).ext x3;have c3:D∉bs:=(Ry.mp nd).1;have c4:D≠Y:=λz=>by rw[<- z,ap]at g1;cases g1
   have cy:Y∉bs:=λS=>by obtain⟨_,d7,z⟩:=cx.at S;rw[g1]at z;cases z
   have d0:A Y=cR:=by
    cases z:A Y with
    | none=>rfl
    | some o=>rw[xa.s1 _ _ z]at g1;cases g1
   refine⟨ct,a.length - (i+1),by omega,rfl,B,by rw[OX,Sl];omega,zB,c2,bs++[Y],U++[e],qZ,by simp,(cl<|c0.ext E).upd ar ae ag,ar,?_,?_,?_,?_,er,?_⟩
   ·exact⟨W.s0,λc o z=>by rw[zH (λw=>by rw[w,P]at z;cases z)];exact W.s1 c o z,λc o z=>by rw[zH (λw=>by rw[w,ar]at z;cases z)];exact W.sub c o z,W.new⟩
   ·exact(cw.add g2 g3 g4).hide (by simp[c3,c4])
   ·refine Ry.mpr ⟨by simp[c3,c4],List.nodup_append.mpr ⟨(Ry.mp nd).2,by simp,λc R c' d1=>?_⟩⟩
    have:c'=Y:=by simpa using d1
    subst this;exact λz=>cy (by rw[<- z];exact R)
   ·intro b hb
    rcases Tu.mp hb with z | z
    ·exact bb b z
    ·have:b=Y:=by simpa using z
     subst this;exact d0
   ·rw[<- I];simp
  ·have e:i=a.length:=by omega
   subst e;rw[Uz]at I;cases I;rw[Rz]at q;refine .inl ⟨wk.stop l t.s1,q D bs l g (x1.trans t) (λb hb=>?_) ⟨b9,M,nd,N.1,N.2⟩⟩;rcases OA.mp hb with rfl | hb
   ·exact b0 _ P
   ·exact b0 b<|bb b hb
 ·rw[DJ hl]at s;cases s
end
section
variable{K:Ob}{E0 E H0 H:Hp}{σ:St}{γ:Ctx}
theorem RS.forget(r:RS K E0 E H0 H σ γ):RS K E0 E H0 H (σ.set i v) (γ.set i .no):=by
 have O : ∀{j:Nat} {e:List D} {b:di},(γ.set i .no)[j]? = cI (.own e)->γ[j]? = cI (.own e)/\(σ.set i v)[j]? = σ[j]? :=λ{j e b} g=>by
  rcases zN g with⟨_,z,_⟩ | ⟨Y,z⟩
  ·cases z
  ·exact⟨z,Ox<|PH Y⟩
 have m : ∀{j:Nat} {d:List (List D)},(γ.set i .no)[j]? = cI (.nest d)->γ[j]? = cI (.nest d)/\(σ.set i v)[j]? = σ[j]? :=λ{j d} g=>by
  rcases zN g with⟨_,z,_⟩ | ⟨Y,z⟩
  ·cases z
  ·exact⟨z,Ox<|PH Y⟩
 refine⟨⟨r.rc.sub,by simp[r.rc.len],λj u g=>?_,λj e g=>?_,λj k b e fs n l s t=>?_,⟨λj d g=>?_,λj k A B I g2=>r.rc.s9.2 j k A B (m I).1 (m g2).1⟩⟩,r.ext,λj e b I g2=>?_,λj d b F I g2 g3=>?_⟩
 ·rcases zN g with⟨_,z,_⟩ | ⟨Y,z⟩
  ·cases z
  ·obtain⟨C,I,g2⟩:=r.rc.val j u z
   exact⟨C,by rw[Ox (PH Y)];exact I,g2⟩
 ·obtain⟨f,h⟩:=O (b:=0) g
  rw[h];exact r.rc.own j e f
 ·obtain⟨f,h⟩:=O (b:=0) n
  obtain⟨o,p⟩:=O (b:=0) l;rw[h]at s;rw[p]at t;exact r.rc.ne j k b e fs f o s t
 ·obtain⟨f,h⟩:=m g
  obtain⟨a,bs,w,x,y⟩:=r.rc.s9.1 j d f;refine⟨a,bs,by rw[h];exact w,x,λk e c n l=>?_⟩;obtain⟨o,p⟩:=O (b:=0) n;rw[p]at l;exact y k e c o l
 ·obtain⟨f,h⟩:=O (b:=0) I
  rw[h]at g2;exact r.fresh j e b f g2
 ·obtain⟨f,h⟩:=m I
  rw[h]at g2;exact r.u0 j d b F f g2 g3
theorem YN : ∀{l:List di} {m t:Nat} {b:di},l.Nodup->l[m]? = cI b->l[t]? = cI b->m=t
 | [],m,t,b,_,h,_=>by simp at h
 | c::l,m,t,b,nd,h1,h2=>by
  obtain⟨d,e⟩:=Ry.mp nd;cases m with
  | zero=>
   cases t with
   | zero=>rfl
   | succ t=>
    have e1:c=b:=by simpa using h1
    have a:l[t]? = cI b:=by simpa using h2
    exact absurd (OS a)<|e1 ▸ d
  | succ m=>
   cases t with
   | zero=>
    have e1:c=b:=by simpa using h2
    have a:l[m]? = cI b:=by simpa using h1
    exact absurd (OS a)<|e1 ▸ d
   | succ t=>exact congrArg (· + 1) (YN (b:=b) e (by simpa using h1)<|by simpa using h2)
end
section
variable{K:Ob}{E0 E H0 H:Hp}{σ:St}{γ:Ctx}
theorem RS.freeze(r:RS K E0 E H0 H σ γ)(e:γ[i]? = cI (.own L)) : ∃J,RS K E0 E J H σ (γ.set i<|.val<|.lst L):=by
 obtain⟨a,p,f,g,l,m⟩:=r.rc.own i L e;have h:=r.fresh i L a e f;obtain⟨J,o,Y⟩ : ∃J,J=upd H0 a (.lst p)/\RC K J H σ (γ.set i<|.val<|.lst L):=by refine⟨_,rfl,?_⟩;exact RC.p? r.rc e f g l m
 subst o;refine⟨_,Y,⟨r.ext.s0.trans<|zX g _,r.ext.s1,Y.sub,λc n I=>?_⟩,λj k b O g2=>?_,λj d b s O g2 g3=>?_⟩
 ·rw[zH (λz=>by rw[z,h]at I;exact I rfl)];exact r.ext.new c n I
 ·rcases zN O with⟨_,z,_⟩ | ⟨_,z⟩
  ·cases z
  ·exact r.fresh j k b z g2
 ·rcases zN O with⟨_,z,_⟩ | ⟨_,z⟩
  ·cases z
  ·exact r.u0 j d b s z g2 g3
open Classical in
end
section
variable{X:Cx}{st:g8}{F:CO Fl}
theorem uN(i:Nat)(h:l3 X st F):l3 X st (Mb i F):=qX h λD k H I=>by obtain⟨E0,E,f,j,O,e,z,Y⟩:=I;obtain⟨g,d,z⟩:=zb z;obtain⟨a,b⟩:=e.freeze<|xA d;exact⟨E0,E,a,_,O,b,z,Y⟩
end
end DL
namespace L2
open PySem PySem.Spec PyProof.Rows
noncomputable def Ig(K:Ob):V->List V->Hp->VK->Prop:=λx d H Q=>∃z p b,x = .str z/\d=[.ref p]/\e9 K H p (b.map V.str)/\Builtin.Str.tooLong (b.toArray.foldl (λa p=>a+p.length+z.length) 0)=dd/\Q (.str<|LN z b) H
theorem K8 : ∀{J:List Str} {us:List dq},ej (J.map V.str) us->∃l:List (Str×p7),strValues l=us/\l.map (·.1)=J
 | [],us,r=>by cases r;exact⟨[],rfl,rfl⟩
 | z::J,u::us,.cons r t=>by obtain⟨I,rfl⟩:=r;obtain⟨l,rfl,h⟩:=K8 t;exact⟨(z,I)::l,rfl,by simp[h]⟩
theorem Aw{X:Cx}:N2 X "str.join" (Ig X.K):=by intro a s u H x j v i Q I rx Y h;obtain⟨z,p,n,rfl,rfl,d,O,q⟩:=h;obtain⟨t,rfl⟩:=rx;obtain⟨m,rfl,rw⟩:=yE Y;cases rw;obtain⟨f,r,pl,g⟩:=I.list d;obtain⟨l,rfl,e⟩:=K8 r;subst e;refine Tf F.slot_str_join (Z_ _ _ _) F.entry_str_join (F.args_str_join_2 _ _) (meets_str_join_list z t p l O) ⟨pl.isList,post_join l ⟨joinFit_length O,λt' k=>?_⟩⟩;refine⟨.str (LN z (l.map (·.1))),H,(I.kept (h':=s.heap) (t':=k) λb o e=>e),⟨t',?_⟩,q⟩;show UE (Builtin.Str.glued z (l.map (·.1))) t'=_;rw[StrLaws.glued_eq_join]
end L2
namespace DL
open PySem PySem.Spec PyProof.Rows L2
theorem Yd{K:Ob}{H:Hp} : ∀{I:List D} {xs:List V} {l:List Str},dt K H I xs->Ye I=cI l->xs=l.map V.str
 | [],xs,l,r,e=>by cases e;rw[show xs=[]from r];rfl
 | d::I,xs,l,r,e=>by
  obtain⟨x,g,rfl,z,b⟩:=(show ∃x r,xs=x::r/\Rep K H d x/\dt K H I r from r);cases d with
  | str i=>
   obtain⟨f,a,rfl⟩:=zv (show(Ye I).map (λl=>i::l)=cI l from e);rw[Yd b a,show x = .str i from z];rfl
  | _=>cases e
section
variable{X:Cx}{sc:f9}{N L:List Str}{k:Nat}{o e a b:dy}{apos cpos pos p:eo}{f g:CO D}{q:CO (Sk×List D)}
theorem vM(h:jy x=cL):x.length<=1000:=of_decide_eq_true h
theorem QZ(h:jy x=cL):x.length<=eJ:=PK (vM h) ⋯
theorem VH(Y:PV X o f)(he:PQ X e q)(a1:vt o "join" X.env (d3 o X.env)=d3 o X.env:=by rfl)
 (a2:((j1 cpos<|starEach [e] X.env).all (λx=> !x.1) && (y1 cpos<|keywordEach [] X.env).all (λx=>x.1.isSome) && decide ([e].length+([]:List o8).length+(if ([]:List o8).isEmpty then 0 else 1)<30))=cL:=by rfl)
 (a3:(apos.endLine==cpos.line)=cL:=by rfl) (J:ei [e] X.env=[(dd,d3 e X.env)]:=by rfl):PV X (.Call (.Attribute o "join" apos) [e] [] cpos) (X6 f q):=
 j6 (VL PySem.F.plainAttrs_str PySem.F.slot_str_join PySem.F.type_str_join Aw Y (zQ he jF J) a1 a2 a3 J rfl) λU H Q A=>by
  obtain⟨h,g,d,rc,z,G⟩:=A;obtain⟨k,n,z⟩:=zb z;obtain⟨⟨E,m⟩,p,z⟩:=zb z;cases k with
  | str O=>
   cases E with
   | L=>
    obtain⟨l,s,z⟩:=zb z;by_cases I:l.length<=lim/\l.all jy=cL/\jy O=cL
    ·rw[DZ I]at z;cases z
     refine⟨h,g,_,rc,n,λv N b x r=>?_⟩;rw[show v = .str O from r];refine⟨rfl,b,g,.L,m,rc.ext x,p,λa S i j M u P K=>?_⟩;have t:=Yd K s;subst t;refine⟨O,a,l,rfl,rfl,u,StrLaws.joinFits (B:=1000) (λy C=>vM<|Pe.mp I.2.1 y C) ?_,G _ i j (x.trans M) rfl⟩;have R:=I.1;have:lim=2500:=rfl;have w:=vM I.2.2;have:l.length*O.length<=2500*1000:=Nat.mul_le_mul ⋯ w;omega
    ·rw[DJ I]at z;cases z
   | T=>cases z
  | _=>cases z
theorem Ka(J:PV X a f)(hb:PV X b g)(hs:KP b:=by intro _ _;rfl):PV X (.Subscript a b pos) (Xc f g):=
 j6 (Ab Fq J hb hs) λF H Q Y=>by
  obtain⟨n,m,d,rc,I,q⟩:=Y;obtain⟨s,u,I⟩:=zb I;obtain⟨i,h,I⟩:=zb I;obtain⟨t,w,h⟩:=zb h;cases s with
  | str z=>
   by_cases O:jy z=cL
   ·have I:(if jy z=cL then (l5 z.cps.toList.length i).bind λk=>z.cps.toList[k]?.map λc=>D.str ⟨#[c]⟩else cR)=cI d:=I
    rw[DZ O]at I;obtain⟨j,y,I⟩:=zb I;obtain⟨c,A,rfl⟩:=zv I;refine⟨n,m,_,rc,u,λv C e x r=>⟨e,m,t,rc.ext x,w,λE o p B l=>?_⟩⟩;rw[jA h]at l;refine⟨z,i,c,r,jD l,QZ O,?_,q _ o p (x.trans B) rfl⟩;unfold A7;rw[Xt y];exact A
   ·have I:(if jy z=cL then (l5 z.cps.toList.length i).bind λk=>z.cps.toList[k]?.map λc=>D.str ⟨#[c]⟩else cR)=cI d:=I
    rw[DJ O]at I;cases I
  | _=>cases I
theorem Kb(h:SX X sc N L k)(c:yT sc "len" = cL)(z:X.mg "len" = cR)(ha:PV X e f)(J:ei [e] X.env=[(dd,d3 e X.env)]:=by rfl):PV X (.Call (.Name "len" p) [e] [] pos) (Yn f):=
 j6 (yj Vh (h.gl c).1 z PySem.boot_len (zQ ha jF J) ⋯ ⋯ J rfl) λm H Q Y=>by
  obtain⟨g,l,d,rc,I,q⟩:=Y;obtain⟨i,j,I⟩:=zb I;cases i with
  | str z=>
   by_cases O:jy z=cL
   ·have I:(if jy z=cL then cI (D.int z.length)else cR)=cI d:=I
    rw[DZ O]at I;cases I;refine⟨g,l,_,rc,j,λv b a x r=>⟨z,by rw[show v = .str z from r],QZ O,q _ b a x rfl⟩⟩
   ·have I:(if jy z=cL then cI (D.int z.length)else cR)=cI d:=I
    rw[DJ O]at I;cases I
  | _=>cases I
end
section
variable{X:Cx}{sc:f9}{N L:List Str}{k:Nat}{b:dy}{f:CO D}
theorem CP(h:SX X sc N L k)(c:yT sc "min" = cL)(z:X.mg "min" = cR)(ha:PV X a f)(hb:PV X b g)(J:ei [a,b] X.env=[(dd,d3 a X.env),(dd,d3 b X.env)]:=by rfl)(O:ei [b] X.env=[(dd,d3 b X.env)]:=by rfl) :
 PV X (.Call (.Name "min" p) [a,b] [] pos) (Cs f g):=
 j6 (yj (lC h.calm) (h.gl c).1 z PyProof.Rows.boot_min (zQ ha (zQ hb jF O)<|by rw[J,O]) ⋯ ⋯ (by rw[J,O]) (by rw[O];rfl)) λG H Q B=>by obtain⟨o,n,d,rc,I,q⟩:=B;obtain⟨i,l,I⟩:=zb I;obtain⟨u,y,l⟩:=zb l;obtain⟨j,Y,I⟩:=zv I;obtain⟨w,A,Y⟩:=zb Y;subst I;refine⟨o,n,u,rc,y,λv E e x r=>⟨e,n,w,rc.ext x,A,λF s t C m=>⟨i,j,?_,q _ s t (x.trans C) rfl⟩⟩⟩;rw[jA l]at r;rw[jA Y]at m;rw[jD r,jD m]
end
noncomputable def Iy(c:Xn)(I:Option di)(H0:Hp):Prop:=match c.2 with
 | none=>I=cR
 | some i=>∃d,I=cI d/\H0 d=cI (.xd [(NI c.1,.int i)])
noncomputable def T_(K:Ob)(n:Nat)(G:List D->Option Xn):Sp:=λg H _ E=>∃b d c,et b H/\dt K b d g/\d.length=n/\G d=cI c/\
 ∀C e a f,LS K=cL->c.1∈M7->BW K c.1=cI C->Iy c f a->Ext b H a e->E (.ref C) f e
section ap
variable(γ:Ctx)
@[simp] noncomputable def xp:=@zL.eq_1
@[simp] noncomputable def lW:=@xh.eq_1
@[simp] noncomputable def Wu:=@jR.eq_1
@[simp] noncomputable def jW:=@ze.eq_1
@[simp] noncomputable def qu:=@zq.eq_1
@[simp] theorem k6(d):zx d γ=cI d:=rfl
@[simp] noncomputable def bH:=@zw.eq_1
@[simp] noncomputable def za6:=@sB.eq_1
@[simp] noncomputable def LM:=@xi.eq_1
@[simp] noncomputable def za1:=@uq.eq_1
@[simp] noncomputable def Lr:=@kW.eq_1
@[simp] noncomputable def zaU:=@Gz.eq_1
@[simp] noncomputable def za2:=@Fc.eq_1
@[simp] noncomputable def zaK:=@HV.eq_1
@[simp] noncomputable def zaP:=@VE.eq_1
@[simp] theorem Zo:zC γ=cI []:=rfl
@[simp] noncomputable def yX:=@zc.eq_1
@[simp] noncomputable def Gb:=@qe.eq_1
@[simp] noncomputable def Lw:=@ye.eq_1
@[simp] noncomputable def Ls:=@kE.eq_1
@[simp] noncomputable def sS:=@xM.eq_1
@[simp] noncomputable def Ln:=@Ja.eq_1
@[simp] noncomputable def Lm:=@Zt.eq_1
@[simp] noncomputable def zaR:=@NR.eq_1
@[simp] noncomputable def LI:=@uv.eq_1
@[simp] noncomputable def ZC:=@jb.eq_1
@[simp] noncomputable def lV:=@jE.eq_1
@[simp] noncomputable def Ws:=@kU.eq_1
@[simp] noncomputable def LD:=@nB.eq_1
@[simp] noncomputable def Vr:=@jS.eq_1
@[simp] noncomputable def yY:=@zJ.eq_1
@[simp] noncomputable def Hl:=@jU.eq_1
@[simp] noncomputable def kB:=@zO.eq_1
@[simp] noncomputable def wu:=@jI.eq_1
@[simp] noncomputable def Ge:=@X5.eq_1
@[simp] noncomputable def Ga:=@rO.eq_1
@[simp] noncomputable def JV:=@Jb.eq_1
@[simp] noncomputable def kM:=@zR.eq_1
@[simp] theorem zaZ:jO γ=cI cL:=rfl
@[simp] noncomputable def LJ:=@fK.eq_1
@[simp] noncomputable def Lq:=@HU.eq_1
@[simp] noncomputable def vG:=@dr.eq_1
@[simp] noncomputable def Hc:=@LY.eq_1
@[simp] theorem zaL:W1 γ=cI cR:=rfl
@[simp] noncomputable def LL:=@o6.eq_1
@[simp] noncomputable def Gd:=@VC.eq_1
@[simp] noncomputable def Gh:=@wG.eq_1
@[simp] noncomputable def za3:=@DN.eq_1
@[simp] noncomputable def zaM:=@NP.eq_1
@[simp] noncomputable def dP:=@jd.eq_1
@[simp] noncomputable def Gg:=@HW.eq_1
@[simp] noncomputable def za0:=@BG.eq_1
@[simp] noncomputable def zaV:=@fM.eq_1
@[simp] noncomputable def zaT:=@Ib.eq_1
@[simp] noncomputable def Lz:=@ur.eq_1
@[simp] noncomputable def Lv:=@Nh.eq_1
@[simp] noncomputable def Ll:=@ny.eq_1
theorem jM(F G):zS F G γ=(F γ).bind λz=>match z with
 | .next a=>G a
 | f=>cI f:=rfl
end ap
@[simp] theorem bD(ds):jo (.tup ds)=cI (.T,ds):=rfl
@[simp] theorem vq(ds):jo (.lst ds)=cI (.L,ds):=rfl
@[simp] theorem zE(d):lA (cI (.val d))=cI d:=rfl
@[simp] theorem zY(d):Zh (cI (.val d))=jo d:=rfl
@[simp] theorem Bl(d):Zh (cI (.own d))=cI (.L,d):=rfl
@[simp] theorem vF(d):qI (cI (.own d))=cI d:=rfl
@[simp] theorem Bm(d):Wm (cI (.val d))=cI (.ret<|.val d):=rfl
@[simp] theorem Bn(d):Wm (cI (.own d))=cI (.ret<|.own d):=rfl
@[simp] theorem zaY(b):p8 (.bl b)=cI b:=rfl
@[simp] theorem jN(b):js (.int b)=cI b:=rfl
@[simp] theorem yf(d):Cz (.val d)=d:=rfl
@[simp] theorem GB(d):Cz (.own d) = .lst d:=rfl
@[simp] theorem W6(d):GA (.own d)=cI d:=rfl
@[simp] theorem GW(i j):vg (.int i) (.int j)=cI (.int<|i - j):=rfl
@[simp] theorem bw(i j):qg (.int i) (.int j)=cI (.int<|i+j):=rfl
@[simp] theorem GY(i j):kj (.int i) (.int j)=if 0<j then cI (.int<|i%j)else cR:=by show(if mq i j=cL then _ else _)=_;simp[mq]
@[simp] theorem pT(i j):K1 (.int i) (.int j)=if 0<j/\j<1073741824 then cI (.int<|i/j)else cR:=by
 show(if rf i j=cL then _ else _)=_;have e:(rf i j=cL)=(0<j/\j<1073741824):=by unfold rf;rw[Oo,decide_eq_true_eq,decide_eq_true_eq];apply propext;constructor<;>intro h<;>exact⟨h.1,by omega⟩
 simp only[e]
@[simp] theorem bt(i j):ya (.int i) (.int j)=if QM i j=cL then cI (.int<|i*j)else cR:=rfl
@[simp] theorem GX(i j):Bf (.int i) (.int j)=if FS i j=cL then cI (.int<|i ^ j.toNat)else cR:=rfl
@[simp] theorem La(i j):sx (.int i) (.int j)=cI (.bl<|decide<|i<j):=rfl
@[simp] theorem Lb(i j):rk (.int i) (.int j)=cI (.bl<|decide<|i<=j):=rfl
@[simp] theorem Lc(i j):p3 (.int i) (.int j)=cI (.bl<|decide<|j<i):=rfl
@[simp] theorem Ld(i j):E' (.int i) (.int j)=cI (.bl<|decide<|j<=i):=rfl
@[simp] theorem Le(i j):ft (.int i) (.int j)=cI (.bl<|decide<|i=j):=by unfold ft;rw[DZ ⟨rfl,rfl⟩];exact congrArg (λb=>cI (D.bl b)) (by rw[Rc];simp[hH])
@[simp] theorem IZ(i j):i6 (.int i) (.int j)=cI (.bl<|!decide (i=j)):=by unfold i6;rw[DZ ⟨rfl,rfl⟩];exact congrArg (λb=>cI (D.bl !b)) (by rw[Rc];simp[hH])
@[simp] theorem Cq(i is d ds γ):qF (i::is) (d::ds) γ=qF is ds (γ.set i<|.val d):=rfl
@[simp] theorem Cp(ds γ):qF [] ds γ=γ:=by cases ds<;>rfl
@[simp] theorem ZJ(i d γ):qz (.nm i) d γ=cI (γ.set i<|.val d):=rfl
@[simp] theorem JR(i j a b γ):qz (.tp [i,j]) (.tup [a,b]) γ=cI ((γ.set i<|.val a).set j (.val b)):=rfl
@[simp] theorem vN(γ:Ctx)(G:CO Fl):(cI (Fl.next γ)).bind (λz=>match z with
 | .next γ'=>G γ'
 | f=>cI f)=G γ:=rfl
theorem lG(i j:Int)(I : -(2 ^ 64)<j)(J:j<2 ^ 64):QM i j=cL:=by unfold QM;rw[PY];right;exact decide_eq_true ⋯
theorem yC(i j:Int)(I : -(2 ^ 64)<i)(J:i<2 ^ 64):QM i j=cL:=by unfold QM;rw[PY];left;exact decide_eq_true ⋯
theorem sH(I : -(2 ^ 62)<i)(J:i<2 ^ 62):inR i=cL:=by unfold inR;exact decide_eq_true ⋯
@[simp] theorem jJ(n k:Nat):l5 n (k:Int)=if k<n then cI k else cR:=by
 unfold l5;by_cases h:k<n
 ·rw[DZ ⟨Int.natCast_nonneg k,by omega⟩,DZ h];simp
 ·rw[DJ ⋯,DJ ⋯,DJ h]
theorem jB:lim=2500:=rfl
@[simp] theorem GT:0<=lim:=Rg _
@[simp] theorem GS:1<=lim:=by decide
@[simp] theorem GQ:2<=lim:=by decide
@[simp] theorem GP:3<=lim:=by decide
@[simp] theorem GO:4<=lim:=by decide
@[simp] theorem GN:5<=lim:=by decide
@[simp] theorem GM:6<=lim:=by decide
@[simp] theorem GK:7<=lim:=by decide
@[simp] theorem GJ:8<=lim:=by decide
@[simp] theorem GF:0<lim:=by decide
@[simp] theorem wZ(h:n<=lim):inR (n:Int)=cL:=sH ⋯ (by have:=jB;omega)
@[simp] theorem K_(n:Nat):l5 (n+1) 0=cI 0:=jJ (n+1) 0 ▸ rfl
@[simp] theorem P1(n:Nat):l5 (n+2) 1=cI 1:=by have:=jJ (n+2) 1;simpa using this
@[simp] theorem P2(n:Nat):l5 (n+3) 2=cI 2:=by have:=jJ (n+3) 2;simpa using this
theorem zD(r:α->D) : ∀(l:List α),(∀x∈l,jh T k f γ [g x]=cI [r x])->jh T k f γ (l.map g)=cI (l.map r)
 | [],_=>rfl
 | x::l,h=>by
  have a:=h x Ot;have i:=zD r l λy z=>h y<|Ow _ z;simp only[OH,jh]at a ⊢;cases e1:qz T (g x) γ with
  | none=>rw[e1]at a;simp at a
  | some d=>
   rw[e1]at a;simp only[Og]at a ⊢;cases e2:k d with
   | none=>rw[e2]at a;simp at a
   | some b=>
    rw[e2]at a;simp only[Og]at a ⊢;cases b with
    | false=>simp at a
    | true=>
     simp only[DZ]at a ⊢;cases e3:f d with
     | none=>rw[e3]at a;simp at a
     | some e=>
      rw[e3]at a;simp at a;rw[i];simp[a]
theorem zF(I:qz T d γ=cI γ1)(J:k γ1=cI cL)(z:f γ1=cI e):jh T k f γ [d]=cI [e]:=by simp[jh,I,J,z]
theorem jz(T F d J γ):qU T F (d::J) γ=(qz T d γ).bind λγ1=>(F γ1).bind λI=>match I with
 | .next z=>qU T F J z
 | .cont z=>qU T F J z
 | .brk z=>cI (.next z)
 | .ret r=>cI (.ret r):=rfl
theorem Y9(P:Nat->Ctx->Prop) : ∀(J:List D) (k:Nat) (γ:Ctx),P k γ->(∀i d γ,J[i]? = cI d->P (k+i) γ->∃γ',((qz T d γ).bind F=cI (.next γ')\/(qz T d γ).bind F=cI (.cont γ'))/\P (k+i+1) γ')->
 ∃γ',qU T F J γ=cI (.next γ')/\P (k+J.length) γ'
 | [],k,γ,h,_=>⟨γ,rfl,h⟩
 | d::J,k,γ,h,step=>by
  obtain⟨a,e,g⟩:=step 0 d γ rfl h;obtain⟨γ',f,j⟩:=Y9 P J (k+1) a (by simpa using g) (λi b z l I=>by have:=step (i+1) b z (by simpa using l) (by rw[show k+(i+1)=k+1+i by omega];exact I);rw[show k+(i+1)+1=k+1+i+1 by omega]at this;exact this)
  refine⟨γ',?_,by rw[show k+(d::J).length=k+1+J.length by simp;omega];exact j⟩;rw[jz];cases eb:qz T d γ with
  | none=>rw[eb]at e;simp at e
  | some O=>
   rw[eb]at e;simp only[Og]at e ⊢;rcases e with e | e<;>rw[e]<;>exact f
noncomputable def zP(n:Nat)(f:Nat->Int):List D:=(Od n).map λi=>D.int<|f i
theorem jt(n f):zP n f=(Od n).map λi=>D.int (f i):=rfl
noncomputable def zW(h w:Nat)(f:DW):List D:=(Od h).map λi=>D.tup<|zP w<|f i
noncomputable def jV(h w:Nat)(f:DW):D:= .tup [.int h,.int w,.tup (zW h w f)]
@[simp] theorem yo(n f):(zP n f).length=n:=by simp[zP]
@[simp] theorem KD(h w f):(zW h w f).length=h:=by simp[zW]
@[simp] theorem IV(f)(h:i<(zP n f).length):(zP n f)[i] = .int (f i):=by simp[zP]
theorem xR(f)(h:i<n):(zP n f)[i]? = cI (.int<|f i):=by simp[zP,h]
@[simp] theorem IW(f)(I:i<(zW h w f).length):(zW h w f)[i] = .tup (zP w<|f i):=by simp[zW]
theorem yp(h : ∀i,i<n->f i=g i):zP n f=zP n g:=by unfold zP;apply OB;intro i a;rw[h i (Oj.mp a)]
theorem vf(e : ∀i j,i<h->j<w->f i j=g i j):zW h w f=zW h w g:=by unfold zW;apply OB;intro i a;rw[yp λj z=>e i j (Oj.mp a) z]
theorem pN{h w:Nat}{f g:DW}(e : ∀i j,i<h->j<w->f i j=g i j):jV h w f=jV h w g:=by unfold jV;rw[vf e]
theorem qR(n:Nat):yK 0 n=zP n λi=>(i:Int):=by simp[yK,zP]
theorem XN(n:Nat)(f g:Nat->Int):K4 (zP n f) (zP n g)=(Od n).map λi=>D.tup [.int (f i),.int (g i)]:=by unfold K4 zP;rw[e_];simp
noncomputable def zf(f:Nat->Int):Nat->Int
 | 0=>0
 | n+1=>zf f n+f n
theorem ZU : ∀(xs:List Int) (y:Int),cp (xs.map D.int++[.int y])=(cp<|xs.map D.int).map λs=>s+y
 | [],y=>by simp[cp]
 | x::xs,y=>by simp only[OH,List.cons_append,cp];rw[ZU xs y];cases e:cp (xs.map D.int)<;>simp[Int.add_assoc]
theorem ZT(f:Nat->Int) : ∀n,cp (zP n f)=cI (zf f n)
 | 0=>rfl
 | n+1=>by
  have z:=ZT f n;have e : ∀m,zP m f=((Od m).map f).map D.int:=λm=>by simp[zP]
  rw[e]at z ⊢;rw[Rx,PB,PB,List.map_singleton,List.map_singleton,ZU,z];simp[zf]
noncomputable def xJ:=jn 2<|xM<|jd<|jR<|zR (zO<|zq 1) (.nm 0) 1 [0] jO (zw kj (ze 0)<|ze 1)
noncomputable def mh:=jn 3<|xM<|zJ xJ<|zc (ze 0)<|zc (xh<|zR (zO<|zL<|dr (zq 1)<|zx<|.int 2) (.nm 0) 1 [2] jO (BG<|jR<|zR (rO (ze 0)<|ze 1) (.tp [0,1]) 2 [] jO (zw ya (ze 0)<|ze 1))) zC
noncomputable def ju:=jn 2<|zS (jE 1<|xh<|zR (jI<|dr (zq 0)<|zx<|.int 1) (.nm 0) 1 [0] jO (jd<|jR<|zR (zO<|zL<|dr (zq 1)<|zx<|.int 2) (.nm 0) 1 [0] jO (dr (zq 0)<|ze 1)))<|xM<|qe<|zc (dr (zq 0)<|zx<|.int 1)<|zc (dr (zq 0)<|zx<|.int 0)<|zc (jd<|zq 1) zC
noncomputable def j7:=jn 2<|zS (jE 1<|xh<|zR (jI<|ze 0) (.nm 0) 1 [0] jO (jd<|jR<|zR (jI<|ze 1) (.nm 0) 1 [0] jO (VE (sB<|zw ft (ze 1)<|ze 0) (zx<|.int 1)<|zx<|.int 0)))<|xM<|qe<|zc (ze 0)<|zc (ze 0)<|zc (jd<|zq 1) zC
noncomputable def xt:=jn 2<|xM<|qe<|zc (ze 0)<|zc (ze 1)<|zc (zw ya (qe<|zc (zw ya (qe<|zc (zx<|.int 0) zC)<|ze 1) zC)<|ze 0) zC
noncomputable def wC:=jn 3<|zS (Jb (X5 (zx<|.int 1)<|ze 0) (.nm 2)<|jb (sB<|zw ft (zw kj (zw ya (ze 1)<|ze 2)<|ze 0)<|zx<|.int 1) (Zt 2) kE) Zj
noncomputable def j5:=jn 5<|zS (jE 4<|dr (zq 1)<|ze 3)<|zS (jb (sB<|zw ft (ze 4)<|zx<|.int 0) (Zt 1) kE)<|xM<|zJ xJ<|zc (ze 0)<|zc (xh<|zR (rO (ze 1)<|ze 2) (.tp [0,1]) 2 [4] jO (zw vg (ze 0)<|zw ya (ze 2)<|ze 1)) zC
noncomputable def kg:=jn 9<|zS (jE 3<|xh<|zR (zO<|zq 2) (.nm 0) 1 [0] jO (zJ xJ<|zc (ze 1)<|zc (ze 0) zC))<|zS (kU 4<|ye zC)<|zS (Jb (jI<|ze 1) (.nm 5)<|zS (jE 6<|xh<|zR (zO<|zq 3) (.nm 0) 1 [5] (sB<|zw i6 (dr (zq 0)<|ze 1)<|zx<|.int 0) (ze 0))<|zS (jb (kW<|ny<|zq 6) uv kE)<|zS (jE 7<|zJ wC<|zc (ze 0)<|zc (dr (zL<|dr (zq 6)<|zx<|.int 0)<|ze 5) zC)<|zS (jE 8<|zJ xJ<|zc (ze 0)<|zc (xh<|zR (zO<|zL<|dr (zq 6)<|zx<|.int 0) (.nm 0) 1 [7] jO (zw ya (ze 1)<|ze 0)) zC)<|zS (jE 3<|xh<|zR (zO<|zq 3) (.nm 0) 1 [0,5,8] jO (zJ j5<|zc (ze 1)<|zc (ze 0)<|zc (ze 3)<|zc (ze 2) zC))<|kU 4<|fK (jR<|zR (zO<|zq 4) (.nm 0) 1 [0,5,8] jO (zJ j5<|zc (ze 1)<|zc (ze 0)<|zc (ze 3)<|zc (ze 2) zC))<|jR<|ye<|zc (ze 8) zC)<|Zt 4
noncomputable def jP:=jn 2<|Ja<|zR (zO<|zq 1) (.nm 0) 1 [0] (kW<|sB<|Ib<|zL<|VC (ze 0) W1<|o6<|ze 1) (VC (ze 0) (o6<|ze 1) W1)
noncomputable def qr:=jn 5<|zS (jE 3<|xh<|zR (rO (dr (zL<|zJ ju<|zc (ze 1) zC)<|zx<|.int 2)<|dr (zL<|zJ j7<|zc (dr (zq 1)<|zx<|.int 1) zC)<|zx<|.int 2) (.tp [0,1]) 2 [] jO (zw qg (ze 0)<|ze 1))<|zS (jE 4<|xh<|zR (zO<|zq 2) (.nm 0) 1 [1] jO (zw qg (ze 0)<|zw ya (qe<|zc (zx<|.int 0) zC)<|dr (zq 1)<|zx<|.int 1))<|Ja<|jU jP<|zc (dr (zq 1)<|zx<|.int 0)<|zc (xh<|jU kg<|zc (ze 0)<|zc (zw qg (dr (zq 1)<|zx<|.int 0)<|dr (zq 1)<|zx<|.int 1)<|zc (xh<|fK (zq 3)<|zq 4) zC) zC
noncomputable def ZL:=jn 2<|Ja<|jU qr<|zc (ze 0)<|zc (ze 1)<|zc (xh<|ye zC) zC
noncomputable def KU:=jn 2<|Ja<|jU kg<|zc (ze 0)<|zc (dr (zq 1)<|zx<|.int 0)<|zc (dr (zL<|zJ ju<|zc (ze 1) zC)<|zx<|.int 2) zC
section
variable(γ:Ctx)
@[simp] noncomputable def zaS:=@NS.eq_1
@[simp] noncomputable def LK:=@Nm.eq_1
@[simp] noncomputable def Hj:=@Md.eq_1
end
noncomputable def xB:=jn 1<|xM<|dr (jR<|zR (cC<|ze 0) (.tp [0,1]) 2 [] (sB<|zw i6 (ze 1)<|zx<|.int 0) (ze 0))<|zx<|.int 0
section
variable(γ:Ctx)
@[simp] noncomputable def LC:=@cC.eq_1
@[simp] noncomputable def zaO:=@Ma.eq_1
@[simp] noncomputable def zaQ:=@NQ.eq_1
@[simp] theorem Hk(F G a b c):vn F G a b c γ=(a γ).bind λx=>(b γ).bind λy=>((F x y).bind p8).bind λk=>if k=cL then (c γ).bind λz=>G y z else cI (.bl dd):=rfl
@[simp] noncomputable def BA:=@uo.eq_1
end
section
variable(γ:Ctx)
@[simp] noncomputable def Hi:=@W3.eq_1
@[simp] noncomputable def Gj:=@HY.eq_1
@[simp] noncomputable def sT:=@Mb.eq_1
@[simp] noncomputable def LB:=@Nk.eq_1
@[simp] noncomputable def Hb:=@LX.eq_1
end
@[simp] theorem zbr(r):KM (cI (.nest r))=cI r:=rfl
section
variable(γ:Ctx)
@[simp] noncomputable def rC:=@Xc.eq_1
@[simp] noncomputable def BB:=@Yn.eq_1
@[simp] noncomputable def LH:=@Nl.eq_1
@[simp] noncomputable def BC:=@X6.eq_1
end
noncomputable def kO:=jn 2 (xM (VE (sB (zw ft (ze 1) (zx (.str "r")))) (ze 0) (zw qg (ze 0) (zx (.int 1)))))
noncomputable def KW:=jn 2 (xM (VE (sB (zw ft (ze 1) (zx (.str "r")))) (zw qg (ze 0) (zx (.int 1))) (ze 0)))
noncomputable def kc:=jn 1 (xM (VE (sB (zw ft (ze 0) (zx (.str "r")))) (zx (.str "l")) (zx (.str "r"))))
noncomputable def HX(f:CO D):CO D:=λa=>(f a).map λd=> .bl (BK .list d || BK .tuple d)
noncomputable def XJ:=jn 1<|xM<|Gz (DN .int<|ze 0)<|HV<|DN .bool<|ze 0
noncomputable def y8:=jn 2<|xM<|Gz (zJ XJ<|zc (ze 1) zC)<|vn rk sx (zx<|.int 0) (ze 1)<|ze 0
noncomputable def Wy:=jn 2<|xM<|Gz (HX<|ze 0)<|zw ft (wG<|zq 0)<|ze 1
noncomputable def x9:=jn 1 (xM (X6 (zx (.str "")) (jR (zR (zO (zL (dr (zq 0) (zx (.int 2))))) (.nm 0) 1 [] jO (dr (zq 0) (zx (.int 0)))))))
section
variable{X:Cx}{sc:f9}{N L:List Str}{k:Nat}{a e:dy}{es:List dy}{f:CO D}{g:CO (List D)}{pos p p2:eo}
theorem Kg(I:PV X e f)(J:p4 e cR pos.line X.env=pure dd:=by rfl):l3 X (.Expr e pos) (nB f):=qX (vC I J) λD k H O=>by obtain⟨E0,E,h,j,l,b,z,Y⟩:=O;obtain⟨d,i,z⟩:=zv z;subst z;exact⟨h,j,d,b.rc,i,λv g a x r=>Y k g a<|b.step x⟩
structure GL(K:Ob)(mg:DX)(x:Str)(d:D):Prop where
 ex : ∃u v,mg x=cI u/\RelV v u/\∀H,Rep K H d v
theorem Ij{x:Str}{d:D}(h:SX X sc N L k)(c:yT sc x=cL)(z:GL X.K X.mg x d):PV X (.Name x pos) (zx d):=by intro b s j H Q I ⟨a,i,g,rc,O,q⟩;cases O;obtain⟨u,v,e,f,Y⟩:=z.ex;exact V1 I (h.gl c).1 e ⟨v,H,I,f,q v H a (Ext.refl rc.sub)<|Y a⟩ (h.gl c).2.2
end
section
variable{K:Ob}{mg:DX}{h:ew}
theorem Ml{x:Str}{n:Int}{t:p7}(z:K.In h)(G:h.Ns qd mg)(a:Uw K qd x=cI (cI (.int n t))):GL K mg x (.int n):=
 ⟨_,.int n,UM z G a,⟨t,rfl⟩,λ_=>(show V.int n = .int n from rfl)⟩
end
theorem xF(h:A5 X es n g):yg X es g:=h.1
section
variable{K:Ob}{E0 E H0 H:Hp}{σ:St}{γ:Ctx}
theorem dt.dropLast : ∀{J:List D} {xs:List V},dt K H J xs->dt K H J.dropLast xs.dropLast
 | [],xs,r=>by rw[r.ow];exact dt.nil
 | [d],xs,r=>by obtain⟨x,f,e,_,a⟩:=r.l6;rw[e,a.ow];exact dt.nil
 | d::d2::J,xs,r=>by obtain⟨x,f,e,z,a⟩:=r.l6;obtain⟨I,O,b,_,_⟩:=a.l6;subst e b;exact dt.cons z<|dt.dropLast a
end
section
variable{X:Cx}{sc:f9}{N L:List Str}{k:Nat}{a b e:dy}{pos p p2:eo}{f g:CO D}
theorem cG{c:dy}{J:CO D}(ha:PV X a J){O:CO (Sk×List D)}(hb:PQ X c O)(hm:t7 .NotIn c=dd:=by with_unfolding_all rfl):k0 X (.Compare a [.NotIn] [c] pos) (sB<|VD J O):=
 Yx (Kf YH ha hb hm) λN H Q A=>by
  obtain⟨h,g,d,rc,z,q⟩:=A;obtain⟨F,n,w⟩:=zb z;obtain⟨x,o,z⟩:=zb n;obtain⟨⟨f,m⟩,s,z⟩:=zb z;obtain⟨i,t,z⟩:=zb z;obtain⟨l,u,rfl⟩:=zv z;cases w;refine⟨h,g,x,rc,o,λY E j x1 I=>⟨j,g,f,m,rc.ext x1,s,λp M b k C e G r=>?_⟩⟩;rw[jA t]at I;have y:=v7 r u;subst y;have B:e9 X.K b p (l.map V.int)\/fh X.K b p (l.map V.int):=by
   cases f with
   | L=>exact .inl e
   | T=>exact .inr e
  refine⟨p,_,rfl,B,by rw[show Y = .int i from I];rfl,JL l,?_⟩;rw[show Y = .int i from I,V5];exact⟨_,rfl,q b k<|x1.trans C⟩
end
end DL
namespace L2
open PySem PySem.Spec PyProof.Rows
theorem IH(z:Str):MK z = "str_ascii_iterator"\/MK z = "str_iterator":=by unfold MK;split<;>simp
theorem bc{X:Cx}{J:TW}{σ:St}{H:Hp}{s:d8}{E:EQ}{z it:di}{i Y:Nat}{x:dq}{v:V}{g:ew}{L:List dy}{x1:Nat}{n7:eo}{Q:Unit->d8->Prop}
 (I:Inv X J σ H s) (hf : ∀b ∈ [z,it],bN X J H b) (hz:z<s.heap.objs.size) (hi:it<s.heap.objs.size) (a1:NZ g z it ((i:Int)+1) x s.heap.objs.size)
 (a3:nj g s.heap.objs.size (.int i Y) x) (a5 : ∀b o,b≠z->b≠it->s.heap.get? b=cI o->g.get? b=cI o) (rx:RelV v x)
 (a8 : ∀g2,tu g2 z it ((i+1:Nat):Int) x->RE z g g2->Inv X J σ (upd H s.heap.objs.size<|.tup [.int i,v]) {s with heap:=g2,toks:=Y+1}->H s.heap.objs.size=cR->
   (∀b ∈ [z,it],upd H s.heap.objs.size (.tup [.int i,v]) b=cR)->Q () {s with heap:=g2,toks:=Y+1}) :
 wpAny (d5 X.prog X.w) X.A (MC (.Tuple L x1 n7) (.ref z)<|.ref s.heap.objs.size) Q E {s with heap:=g,toks:=Y+1}:=by
 refine Q? a1 λg2 f d=>?_;have h:nj g2 s.heap.objs.size (.int i Y) x:=d.extBut _ _ (RM hz) a3;have k : ∀O u,O ∉ [z,it]->s.heap.get? O=cI u->g2.get? O=cI u:=λO u a e=>by simp only[OA,OP,or_false,not_or]at a;exact d.extBut _ _ a.1<|a5 O u a.1 a.2 e
 refine a8 g2 (by have:=f;rwa [show((i:Int)+1)=((i+1:Nat):Int)by omega]at this) d (I.X1 (fp:=[z,it]) k hf (Ou _) ⟨by show 2<=eJ;decide,[.int i Y,x],.cons ⟨_,rfl⟩<|.cons rx .nil,⟨_,h,rfl,_,rfl⟩⟩) I.fresh λO a=>?_;have j:O≠s.heap.objs.size:=by
  simp only[OA,OP,or_false]at a;rcases a with rfl | rfl
  ·exact ON hz
  ·exact ON hi
 rw[zH j];exact(hf O a).1
noncomputable def LR(K:Ob)(a:di):It:=
 ⟨λi H=>∃b,e9 K H a b/\i<b.length,
  λi H x d=>∃p u,x = .ref p/\H p=cR/\d=upd H p (.tup [.int i,u])/\(∀b,e9 K H a b->b[i]? = cI u),
  λi H=>∃b,e9 K H a b/\b.length=i⟩
theorem bZ{P:gB}{w:fm}{K:Ob}{elts:List dy}{x1:Nat}{n7:eo}{z it a:di}(aa:z≠it) :
 Turn P w K (.Tuple elts x1 n7) (LR K a) [z,it] z (λi h=>(∃Y,tu h z it i Y)/\h.IsListIter it a i) where
 mem:=by simp
 obj:=λi h ⟨⟨Y,hz⟩,h1⟩ y hy=>by
  simp only[OA,OP,or_false]at hy;rcases hy with rfl | rfl
  ·exact⟨_,hz,λv q=>by cases q⟩
  ·obtain⟨o,e,c,d⟩:=h1
   exact⟨o,e,λv q=>by rw[d]at q;cases q⟩
 keep:=λi h h' ⟨⟨Y,hz⟩,h1⟩ k=>⟨⟨Y,k z ⋯ _ hz⟩,h1.at λo e=>k it ⋯ o e⟩
 item:=by
  rintro X rfl rfl rfl hc i pins s σ H E I hf ⟨⟨Y,hz⟩,h1⟩ ⟨xs,a6,as⟩;obtain⟨a7,a8,p1,z1⟩:=I.list a6;have hl:=p1.isList;have hx:xs[i]? = cI xs[i]:=Oe as;have l1:=a8.length;have ag:a≠it:=λe=>by obtain⟨o,e1,O,_⟩:=hl;obtain⟨o2,e2,c2,_⟩:=h1;rw[e,e2]at e1;cases e1;rw[c2]at O;exact absurd O ⋯
  have b0:z≠a:=λe=>by obtain⟨o,e1,O,_⟩:=hl;have ar:s.heap.get? z=cI _:=hz;rw[e,e1]at ar;cases ar;exact absurd O ⋯
  have b9:it<s.heap.objs.size:=by obtain⟨o2,e2,_⟩:=h1;exact OD e2
  have Dr:=Draws.list (prog:=X.prog) (w:=X.w) (A:=X.A.in1) (show X.A.in1.handled=cR from I.ok.hd hc) it a ag a7.toArray;refine T? Dr hz ⟨h1,hl⟩ (by simp;omega) aa (by simp;exact⟨aa,b0⟩) λx g tk hP a1 a2 a3 a4 a5=>⟨_,rfl,?_⟩;obtain⟨u1,bl,bm⟩:=a8.get hx;obtain rfl:u1=x:=by have:=hP;simp[bl]at this;exact this
  refine bc I hf (OD hz) b9 a1 a3 a5 bm λg2 b1 b2 I1 bv hn=>⟨.ref s.heap.objs.size,_,I1,rfl,⟨_,_,rfl,bv,rfl,λc6 bx=>by rw[I.R0 bx a6];exact hx⟩,⟨⟨_,b1⟩,a2.1.at λo e=>b2.extBut _ _ aa.symm e⟩,hn⟩
 done:=by
  rintro X rfl rfl rfl hc i pins s σ H E I hf ⟨⟨Y,hz⟩,h1⟩ ⟨xs,a6,hi⟩;obtain⟨a7,a8,p1,z1⟩:=I.list a6;have hl:=p1.isList;have l1:=a8.length;have ag:a≠it:=λe=>by obtain⟨o,e1,O,_⟩:=hl;obtain⟨o2,e2,c2,_⟩:=h1;rw[e,e2]at e1;cases e1;rw[c2]at O;exact absurd O ⋯
  have Dr:=Draws.list (prog:=X.prog) (w:=X.w) (A:=X.A.in1) (show X.A.in1.handled=cR from I.ok.hd hc) it a ag a7.toArray;have en:a7.toArray.size=i:=by simp;omega
  rw[en]at Dr;refine S? Dr hz ⟨h1,hl⟩ λg hk=>⟨rfl,?_⟩;refine I.FR (t':=s.toks) (fp:=[z,it]) (λb' u hb e=>?_) hf;simp only[OA,OP,or_false,not_or]at hb;exact hk b' u hb.2 e
 self:=λ_ _ _ _ _ st h=>kZ st.1.choose_spec h
noncomputable def LQ(z:Str):It:=
 ⟨λi _=>i<z.cps.size,λi H x a=>∃p c,x = .ref p/\H p=cR/\a=upd H p (.tup [.int i,.str ⟨#[c]⟩])/\z.cps[i]? = cI c,λi _=>i=z.cps.size⟩
theorem Ve{prog:gB}{w:fm}{A:i8}(z:A.handled=cR)(it:di)(x:Str)(t:p7) :
 Draws prog w A it [it] x.cps.size (λi v=>∃c u,x.cps[i]? = cI c/\v = .str ⟨#[c]⟩ u) (λi h=>h.IsStrIter it (MK x) x t i):=by
 rcases IH x with q | q
 ·rw[q];exact Draws.strAscii z it x t
 ·rw[q];exact Draws.strWide z it x t
theorem bY{P:gB}{w:fm}{K:Ob}{elts:List dy}{x1:Nat}{n7:eo}{z it:di}(x:Str)(t:p7)(Y:z≠it) :
 Turn P w K (.Tuple elts x1 n7) (LQ x) [z,it] z (λi h=>(∃O,tu h z it i O)/\h.IsStrIter it (MK x) x t i) where
 mem:=by simp
 obj:=λi h ⟨⟨O,hz⟩,h1⟩ y hy=>by
  simp only[OA,OP,or_false]at hy;rcases hy with rfl | rfl
  ·exact⟨_,hz,λv q=>by cases q⟩
  ·obtain⟨o,e,c,d⟩:=h1
   exact⟨o,e,λv q=>by rw[d]at q;cases q⟩
 keep:=λi h h' ⟨⟨O,hz⟩,h1⟩ k=>⟨⟨O,k z ⋯ _ hz⟩,by obtain⟨o,e,r⟩:=h1;exact⟨o,k it ⋯ o e,r⟩⟩
 item:=by
  rintro X rfl rfl rfl hc i pins s σ H E I hf ⟨⟨O,hz⟩,h1⟩ a9;have aa:it<s.heap.objs.size:=by obtain⟨o2,e2,_⟩:=h1;exact OD e2
  have Dr:=Ve (prog:=X.prog) (w:=X.w) (A:=X.A.in1) (show X.A.in1.handled=cR from I.ok.hd hc) it x t;refine T? Dr hz h1 a9 Y (by simp;exact Y) λu g tk hP a1 a2 a3 a4 a5=>⟨_,rfl,?_⟩;obtain⟨c,zbt,an,rfl⟩:=hP;refine bc (v:= .str ⟨#[c]⟩) I hf (OD hz) aa a1 a3 a5 ⟨_,rfl⟩ λg2 b1 b2 I1 ar hn=>⟨.ref s.heap.objs.size,_,I1,rfl,⟨_,_,rfl,ar,rfl,an⟩,⟨⟨_,b1⟩,?_⟩,hn⟩;obtain⟨o,e,r⟩:=a2;exact⟨o,b2.extBut _ _ Y.symm e,r⟩
 done:=by rintro X rfl rfl rfl hc i pins s σ H E I hf ⟨⟨O,hz⟩,h1⟩ hi;have hi:i=x.cps.size:=hi;subst hi;have Dr:=Ve (prog:=X.prog) (w:=X.w) (A:=X.A.in1) (show X.A.in1.handled=cR from I.ok.hd hc) it x t;refine S? Dr hz h1 λg hk=>⟨rfl,?_⟩;refine I.FR (t':=s.toks) (fp:=[z,it]) (λb' u hb e=>?_) hf;simp only[OA,OP,or_false,not_or]at hb;exact hk b' u hb.2 e
 self:=λ_ _ _ _ _ st h=>kZ st.1.choose_spec h
noncomputable def Fv(K:Ob)(I:TA):TI:=λf H R=>I f H λd b=>∃a,d=[.ref a]/\(∃e,e9 K b a e)/\R (LR K a) b
noncomputable def Ft(I:TA):TI:=λd H R=>I d H λb a=>∃z,b=[.str z]/\R (LQ z) a
section
variable{X:Cx}{e1:dy}{ta:TA}{p pos:eo}{elts:List dy}{x1:Nat}{n7:eo}
theorem oa(L:Gl X "enumerate")(hm:X.mg "enumerate" = cR)(J:PA X [e1] ta)
 (hv:A8 "enumerate" = cI (.type "enumerate")) (hs:ei [e1] X.env=[(dd,d3 e1 X.env)]:=by rfl) :
 PI X (.Tuple elts x1 n7) (.Call (.Name "enumerate" p) [e1] [] pos) (Fv X.K ta):=by
 intro b s n H R I h;refine D1<|kA I L hm hv<|Pk (ed (J pos b s n H _ I h) λt d j=>?_) (by rw[hs];rfl) rfl;obtain⟨u,e,z,m,l⟩:=j;obtain⟨a,rfl,⟨x,f⟩,q⟩:=l;obtain⟨w,rfl,i⟩:=yE m;cases i;obtain⟨o,r,k,y⟩:=z.list f;refine call_enumerate_list k.isList λg b1 b2 b3 b4=>kZ (s:={d with heap:=g}) b1 ?_;refine⟨_,[d.heap.objs.size+1,d.heap.objs.size],_,_,e,rfl,z.kept (t':=d.toks) b4,bZ<|RM<|PR _,⟨⟨_,b1⟩,b2⟩,λc O=>?_,q⟩;have Y:d.heap.objs.size<=c:=by
  simp only[OA,OP,or_false]at O;rcases O with rfl | rfl
  ·exact PU _ _
  ·exact Ou _
 exact z.Df Y<|z.eG.fresh Y
theorem nZ(L:Gl X "enumerate")(hm:X.mg "enumerate" = cR)(J:PA X [e1] ta)
 (hv:A8 "enumerate" = cI (.type "enumerate")) (hs:ei [e1] X.env=[(dd,d3 e1 X.env)]:=by rfl) :
 PI X (.Tuple elts x1 n7) (.Call (.Name "enumerate" p) [e1] [] pos) (Ft ta):=by
 intro a s l H R I h;refine D1<|kA I L hm hv<|Pk (ed (J pos a s l H _ I h) λm b i=>?_) (by rw[hs];rfl) rfl;obtain⟨n,e,O,k,j⟩:=i;obtain⟨z,rfl,q⟩:=j;obtain⟨o,rfl,f⟩:=yE k;obtain⟨t,rfl⟩:=f;refine call_enumerate_str λg b1 b2 b3 b4=>kZ (s:={b with heap:=g}) b1 ?_;refine⟨_,[b.heap.objs.size+1,b.heap.objs.size],_,_,e,rfl,O.kept (t':=b.toks) b4,bY z t<|RM<|PR _,⟨⟨_,b1⟩,b2⟩,λc Y=>?_,q⟩;have d:b.heap.objs.size<=c:=by
  simp only[OA,OP,or_false]at Y;rcases Y with rfl | rfl
  ·exact PU _ _
  ·exact Ou _
 exact O.Df d<|O.eG.fresh d
end
end L2
namespace DL
open PySem PySem.Spec PyProof.Rows L2
theorem Yj(z:Str):(kl z).length=z.cps.size:=by simp[kl]
theorem ni(z:Str){i c:Nat}(h:z.cps[i]? = cI c):(kl z)[i]? = cI (.str ⟨#[c]⟩):=by simp[kl,h]
theorem bQ{K:Ob}{H0 J:Hp}(z:Str):Walk K H0 J (LQ z) (xG<|kl z):=by
 have b:(xG<|kl z).length=z.cps.size:=by simp[xG,Yj]
 refine⟨λi d s a=>?_,λd s=>?_,λi d x f s a y=>?_⟩
 ·rw[b]at a;exact a
 ·rw[b];exact rfl
 ·obtain⟨p,c,rfl,I,rfl,O⟩:=y
  refine⟨.tup [.int i,.str ⟨#[c]⟩],?_,λe h g=>⟨upd e p<|.tup [.int i,.str ⟨#[c]⟩],Ext.alloc g I _,?_⟩⟩
  ·rw[b]at a
   unfold xG;rw[OF,PD (by rw[Yj];exact a),OJ,ni z O];rfl
  ·exact qQ (fh.of zB)<|dt.cons (show V.int i = .int i from rfl)<|dt.cons (show V.str ⟨#[c]⟩ = .str ⟨#[c]⟩from rfl) dt.nil
theorem bU{K:Ob}{H0 L:Hp}{a:di}{xs:List V}{J:List D}(h:e9 K L a xs)(r:dt K H0 J xs):Walk K H0 L (LR K a) (xG J):=by
 have Y:=r.length;have m:(xG J).length=J.length:=by simp[xG]
 refine⟨λi b s k=>?_,λb s=>?_,λi b x g s k y=>?_⟩
 ·exact⟨xs,s.seq h,by omega⟩
 ·exact⟨xs,s.seq h,by omega⟩
 ·obtain⟨p,u,rfl,z,rfl,I⟩:=y
  obtain⟨d,j,O⟩:=r.DF<|I xs<|s.seq h;refine⟨.tup [.int i,d],?_,λf l e=>⟨upd f p<|.tup [.int i,u],Ext.alloc e z _,?_⟩⟩
  ·unfold xG
   rw[OF,PD ⋯,OJ,j];rfl
  ·exact qQ (fh.of zB)<|dt.cons (show V.int i = .int i from rfl)<|dt.cons ((O.mono l).mono (zX (jk e z) _)) dt.nil
section
variable{X:Cx}{sc:f9}{N L:List Str}{k:Nat}{a b e:dy}{pos p p2:eo}{f fa fb:CO D}
theorem Ki{J:List dy}{x1:Nat}{n7:eo}(h:SX X sc N L k)(c:yT sc "enumerate" = cL)(z:X.mg "enumerate" = cR)(ha:PV X a f)(hs:ei [a] X.env=[(dd,d3 a X.env)]:=by rfl) :
 i0 X (.Tuple J x1 n7) (.Call (.Name "enumerate" p) [a] [] pos) (xW f):=
 Kj (nZ (h.gl c).1 z (zQ ha jF hs) A_ hs) λm H R Y=>by
  obtain⟨i,l,e,rc,I,q⟩:=Y;obtain⟨d,j,I⟩:=zb I;cases d with
  | str z=>
   by_cases O:jy z=cL
   ·have I:(if jy z=cL then cI (xG<|kl z)else cR)=cI e:=I
    rw[DZ O]at I;cases I;exact⟨i,l,_,rc,j,λv g b x r=>⟨z,by rw[show v = .str z from r],q _ g b x<|bQ z⟩⟩
   ·have I:(if jy z=cL then cI (xG<|kl z)else cR)=cI e:=I
    rw[DJ O]at I;cases I
  | _=>cases I
theorem uX(h:SX X sc N L k)(c:yT sc "enumerate" = cL)(z:X.mg "enumerate" = cR)(ha:PV X a f)(J:ei [a] X.env=[(dd,d3 a X.env)]:=by rfl) :
 i0 X (.Tuple elts x1 n7) (.Call (.Name "enumerate" p) [a] [] pos) (Xd f):=
 Kj (oa (h.gl c).1 z (zQ ha jF J) A_ J) λs H R Y=>by
  obtain⟨g,m,n,rc,I,q⟩:=Y;obtain⟨d,j,I⟩:=zb I;cases d with
  | lst o=>
   cases I;refine⟨g,m,_,rc,j,λv e b x r=>?_⟩;obtain⟨i,l,rfl,O,g2⟩:=gX r;exact⟨i,rfl,⟨l,x.sub.seq O⟩,q _ e b x<|bU O g2⟩
  | _=>cases I
theorem uF(J:PV X a fa)(hb:PV X b fb):PV X (.BinOp a .Add b pos) (nC fa fb):=
 j6 (uZ cS J hb) λt H Q O=>by
  obtain⟨f,e,d,rc,z,q⟩:=O;obtain⟨x,i,z⟩:=zb z;obtain⟨y,j,z⟩:=zb z;cases x with
  | str u=>
   cases y with
   | str w=>
    by_cases I:jy u=cL/\jy w=cL
    ·have z:(if jy u=cL/\jy w=cL then cI (D.str<|u++w)else cR)=cI d:=z
     rw[DZ I]at z;cases z;refine⟨f,e,_,rc,i,λr n Y x1 k=>⟨Y,e,_,rc.ext x1,j,λs g h m l=>⟨u,w,k,l,?_,q _ g h (x1.trans m) rfl⟩⟩⟩;have o:=vM I.1;have p:=vM I.2;have:2000<=eJ:=by decide
     omega
    ·have z:(if jy u=cL/\jy w=cL then cI (D.str<|u++w)else cR)=cI d:=z
     rw[DJ I]at z;cases z
   | _=>cases z
  | _=>cases z
end
end DL
namespace DL
open PySem L2 PyProof.Rows
open PySem.W (KasT kas_sort kas_asc kas_desc kas_tail3 kas_descPart kas_count kas_place kas_bin kas_rev)
noncomputable def Good{I:Type}(n:Nat)(P:I->Prop):KasT I->Prop
 | .ret a=>P a
 | .ask i j k=>i<n/\j<n/\∀b,Good n P<|k b
theorem Good.mono{I:Type}{n:Nat}{P z:I->Prop}(h : ∀a,P a->z a) : ∀{t:KasT I},Good n P t->Good n z t
 | .ret a,g=>h a g
 | .ask i j k,g=>⟨g.1,g.2.1,λb=>(g.2.2 b).mono h⟩
theorem Good.bind{J L:Type}{n:Nat}{P:J->Prop}{z:L->Prop}{f:J->KasT L}(I : ∀a,P a->Good n z (f a)) : ∀{t:KasT J},Good n P t->Good n z (t.bind f)
 | .ret a,g=>I a g
 | .ask i j k,g=>⟨g.1,g.2.1,λb=>(g.2.2 b).bind I⟩
theorem Good.run : ∀{t:KasT α},Good n P t->P (Cv lt t)
 | .ret a,g=>g
 | .ask i j k,g=>(g.2.2 _).run
noncomputable def Pm(n:Nat)(p:Array Nat):Prop:=p.toList.Perm<|Od n
theorem Pm.lt(h:Pm n p)(I:0<n)(i:Nat):p.getD i 0<n:=by
 by_cases a:i<p.size
 ·have e:p.getD i 0=p[i]:=by simp[Array.getD,a]
  rw[e];exact Oj.mp<|h.mem_iff.mp ⋯
 ·have e:p.getD i 0=0:=by simp[Array.getD,a]
  rw[e];exact I
theorem Pm.rev(h:Pm n p)(i j:Nat):Pm n (kas_rev p i j):=(Array.perm_iff_toList_perm.mp<|mirror_perm p i j _).trans h
theorem Pm._R(h:Pm n p)(i j:Nat):Pm n (bubble p i j):=(Array.perm_iff_toList_perm.mp<|bubble_perm p i j).trans h
theorem Kx(h:Pm n p)(I:0<n) : ∀f m,Good n (λ_=>True) (kas_asc p f m)
 | 0,m=>trivial
 | f+1,m=>⟨h.lt I _,h.lt I _,λb=>by
  cases b with
  | true=>exact trivial
  | false=>exact Kx h I f<|m+1⟩
theorem we(I:0<n) : ∀f p m q,Pm n p->Good n (λr=>Pm n r.1) (kas_desc f p m q)
 | 0,p,m,q,h=>h
 | f+1,p,m,q,h=>⟨h.lt I _,h.lt I _,λb=>by
  cases b with
  | true=>
   show Good n _ (if q>0 then _ else _);split
   ·exact we I f _ _ _<|h.rev _ _
   ·exact we I f _ _ _ h
  | false=>exact⟨h.lt I _,h.lt I _,λd=>by
   cases d with
   | true=>exact h
   | false=>exact we I f _ _ _ h⟩⟩
theorem Y5{n:Nat}(I:0<n)(m r:Nat){p:Array Nat}(h:Pm n p):Good n (λr=>Pm n r.2) (kas_tail3 m r p):=by unfold kas_tail3;refine Good.bind (P:=λ_=>True) (λa _=>?_)<|Kx (h.rev _ _) I _ _;exact(show Pm n (kas_rev p 0 m)from h.rev _ _)
theorem Y7{n:Nat}(I:0<n)(m r:Nat){p:Array Nat}(h:Pm n p):Good n (λr=>Pm n r.2) (kas_descPart m r p):=
 (we I _ _ _ _ h).bind λa b=>by
   show Good n _ (if a.2.2>0 then _ else _);split
   ·exact Y5 I _ _<|Pm.rev b _ _
   ·exact Y5 I _ _ b
theorem du{n:Nat}(I:0<n)(r:Nat){p:Array Nat}(h:Pm n p):Good n (λr=>Pm n r.2) (kas_count r p):=
 (Kx h I _ _).bind λm _=>by
   show Good n _ (if (m==r)=cL then _ else if m>1 then _ else _);split
   ·exact h
   ·split
    ·exact⟨h.lt I _,h.lt I _,λc=>by
      cases c with
      | true=>exact h
      | false=>exact Y7 I _ _<|h.rev _ _⟩
    ·exact Y7 I _ _ h
theorem w4(I:0<n)(h:Pm n p)(k:Nat) : ∀f l r,Good n (λ_=>True) (kas_place p k f l r)
 | 0,l,r=>trivial
 | f+1,l,r=>by
  show Good n _ (if l>=r then _ else _);split
  ·exact trivial
  ·exact⟨h.lt I _,h.lt I _,λc=>by
    cases c with
    | true=>exact w4 I h k f _ _
    | false=>exact w4 I h k f _ _⟩
theorem aU{n:Nat}(I:0<n) : ∀f p k,Pm n p->Good n (Pm n) (kas_bin f p k)
 | 0,p,k,h=>h
 | f+1,p,k,h=>(w4 I h k k 0 k).bind λl _=>aU I f _ _<|h._R _ _
theorem Y6{n:Nat}(I:0<n):Good n (Pm n) (kas_sort n):=
 (du I n<|show Pm n (h_<|Od n)from List.Perm.refl _).bind λr z=>by
   show Good n _ (if r.1<n then _ else _);split
   ·exact aU I _ _ _ z
   ·exact z
theorem xU(ps:List (Int×Int)):(kh ps).Perm (Od ps.length):=by
 unfold kh;split
 ·exact List.Perm.refl _
 ·exact(Y6 ⋯).run
theorem YG : ∀{I:List D} {ps:List (Int×Int)},Zl I=cI ps->ps.length=I.length
 | [],ps,h=>by cases h;rfl
 | d::I,ps,h=>by
  unfold Zl at h;cases e1:oq d with
  | none=>rw[e1]at h;cases h
  | some x=>
   cases e2:Zl I with
   | none=>rw[e1,e2]at h;cases h
   | some l=>rw[e1,e2]at h;cases h;simp[YG e2]
theorem qx(d:α) : ∀I:List α,(Od I.length).map (λi=>I.getD i d)=I:=λI=>by
 apply Sx;intro i;by_cases a:i<I.length
 ·simp[a]
 ·simp[a,Nat.not_lt.mp a]
end DL
namespace DL
open PySem PySem.Spec PyProof.Rows L2
open PySem.W (KasT kas_sort kas_ask kat_run kat_snds kat_lt kat_cons kat_no kat_yes kat_nil kat_go kat_one kat_kind KatTups KatGo)
theorem iH(z : ∀i j C,i<n->j<n->C (lt i j) s->cmp i j C s) :
 ∀{t:KasT α},Good n P t->Q (Cv lt t) s->t.kasWp cmp Q s
 | .ret _,_,q=>q
 | .ask i j k,g,q=>z i j _ g.1 g.2.1<|iH z (g.2.2 _) q
noncomputable def Dc(h:ew)(v:dq)(k l:Int):Prop:=∃x o a m t u,v = .ref x/\h.get? x=cI o/\o.cls = .type "tuple"/\o.data = .seq a m/\a.toList=[.int k t,.int l u]
theorem Dc.keep{h h':ew}{v:dq}{k l:Int}(a:Dc h v k l)(e : ∀b o,h.get? b=cI o->o.cls = .type "tuple"->h'.get? b=cI o):Dc h' v k l:=by obtain⟨x,o,g,m,t,u,d,f,z,I,O⟩:=a;exact⟨x,o,g,m,t,u,d,e x o f z,z,I,O⟩
theorem Dc.one(a:Dc h v k l):Gq h v k:=by obtain⟨x,o,e,m,t,u,b,d,z,I,O⟩:=a;exact⟨x,o,e,m,t,b,d,z,I,by rw[<- TJ,O];rfl⟩
section
variable{prog:gB}{w:fm}{A:i8}{E:EQ}{s:d8}
theorem JC{a:di}{vs:List dq}{ps:List (Int×Int)}{n:Nat}{P:PySem.Fin->d8->Prop}(L:s.heap.get? a=cI (nf "list" vs.toArray n))(a7:ps.length=vs.length)(am:vs.length<64)
 (hT : ∀i (J:i<vs.length),Dc s.heap vs[i] (ps.getD i (0,0)).1 (ps.getD i (0,0)).2)
 (h:P (.done<|.ret .none) {s with heap:=sortedHeap s.heap a vs (h_<|(kh ps).map λi=>vs.getD i Ph)}) :
 wpAny (d5 prog w) A (n9.«list.sort» ⟨[.ref a],[]⟩) P E s:=by
 rw[list_sort_plain];have ha:a<s.heap.objs.size:=OD L;have M:vs.length<=eJ:=by rw[Um];omega
 refine Oc (listItems_at L rfl ?_);refine Oc (q? L rfl ?_ (by rw[Ov];exact M) (Rg _));obtain⟨l,S⟩ : ∃l,(s.heap.update a (RD λ_=>#[])).get? a=cI (nf "list" #[] l):=⟨_,get?_update_seq L (λ_=>#[])⟩;refine Oc (seqEpoch_at S rfl ?_);refine Oc (R? ?_ (by show vs.length<=_;exact M));refine Oc (wpAny_newList ?_ (Rg _));refine Sb ?_;have f:(((s.heap.update a (RD λ_=>#[])).push (nf "tuple" vs.toArray 0)).push (nf "list" #[] 0)).get? a=cI (nf "list" #[] l):=by rw[Uq _ _ _ (by rw[size_push',_v];exact ON (Py ha)),Uq _ _ _ (by rw[_v];exact ON ha)];exact S
 show wpAny (d5 prog w) A _ P E {s with heap:=((s.heap.update a (RD λ_=>#[])).push (nf "tuple" vs.toArray 0)).push (nf "list" #[] 0)};dsimp only;have r:vs.toArray.size=vs.length:=by simp
 by_cases H:vs.toArray.size<2
 ·rw[DZ H,DZ H]
  refine Oc<|Oi ?_;rw[StateT.run_pure];refine Oc<|Oi ?_;dsimp only;refine Oc<|seqEpoch_at f rfl ?_;have Z:Array.map (λx=>x.snd) (arrOf<|SortSt.mk' general' (vs.toArray.zip vs.toArray) #[] 7 cR)=vs.toArray:=by show Array.map (λx=>x.snd) (vs.toArray.zip vs.toArray)=_;apply Array.ext';simp[Array.toList_map,Array.toList_zip];rw[List.map_snd_zip (Ou _)]
  have ev:(kh ps).map (λi=>vs.getD i Ph)=vs:=by unfold kh;rw[DZ ⋯,a7];exact qx _ _
  rw[ev]at h;refine Oc (q? f rfl ?_ (Rg _) (by rw[Z,r];exact _p M));simp only[bne_self_eq_false,Pa,if_false];have e8:({s with heap:=(((s.heap.update a (RD λx=>#[])).push (nf "tuple" vs.toArray 0)).push (nf "list" #[] 0)).update a (RD λx=>Array.map (λx=>x.snd) (arrOf (SortSt.mk' general' (vs.toArray.zip vs.toArray) #[] 7 cR)))}:d8) = {s with heap:=sortedHeap s.heap a vs vs.toArray}:=by rw[Z];rfl
  refine Oi ?_;rw[<- e8]at h;exact h
 ·rw[DJ H,DJ H]
  have n2:2<=vs.length:=by rw[<- r];omega
  have keep : ∀b o,s.heap.get? b=cI o->o.cls = .type "tuple"->(((s.heap.update a (RD λ_=>#[])).push (nf "tuple" vs.toArray 0)).push (nf "list" #[] 0)).get? b=cI o:=λb o e hc=>by
   have ax:b≠a:=λz=>by rw[z,L]at e;cases e;exact absurd hc (by show ¬(Ss "list" = Ss "tuple");decide)
   exact Of _<|Of _<|(Heap.get?_update_ne _ _ _ _ ax).trans e
  generalize hg:((s.heap.update a (RD λ_=>#[])).push (nf "tuple" vs.toArray 0)).push (nf "list" #[] 0)=g at f keep ⊢;have N : ∀i (J:i<vs.length),Dc g vs[i] (ps.getD i (0,0)).1 (ps.getD i (0,0)).2:=λi J=>(hT i J).keep keep;obtain⟨fs,f1,f2,f3⟩:=sr (ks:=λi=>(ps.getD i (0,0)).1) λi J=>(N i J).one;refine Oc (kat_kind (T:=Ss "int") (s:={s with heap:=g}) f1 ⋯ (λv hv=>?_) ⋯ ?_)
  ·obtain⟨k,t,rfl⟩:=f3 v hv
   exact PySem.W.Looks.of_pure rfl
  have ep:(Cv (λi j=>GI (ps.getD i (0,0))<|ps.getD j (0,0))<|kas_sort vs.length).toList=kh ps:=by unfold kh;rw[DJ ⋯,a7]
  refine Oc (t5 (kat_run (E:=E) (ks:=vs) (Q:=λF B=>∃p:Array Nat,arrOf F=p.map (PySem.W.kas_item<|vs.toArray.zip vs.toArray)/\failedOf F=cR/\p.toList=kh ps/\B = {s with heap:=g})
   (G:=λp B=>p.toList=kh ps/\B = {s with heap:=g})
   rfl n2 am (λp F B a1 a2 a3 R=>⟨p,a2,a3,R.1,R.2⟩) (iH (lt:=λi j=>GI (ps.getD i (0,0))<|ps.getD j (0,0)) (λi j C J hj I=>?_) (Y6 ⋯) ⟨ep,rfl⟩)) ?_ λ_ _ e=>e)
  ·show wpAny _ _ (keyLt' _ (vs.getD i Ph)<|vs.getD j Ph) C _ _
   rw[show vs.getD i Ph=vs[i]by simp[J],show vs.getD j Ph=vs[j]by simp[hj]];obtain⟨x,zbo,xs,m,t,u,l,e2,e3,e4,X⟩:=N i J;obtain⟨y,zbp,ys,m',t',u',d1,d2,zba,d4,U⟩:=N j hj;rw[l,d1];refine kat_lt e2 e4 d2 d4 ?_;have bx:xs.size=2:=by rw[<- PM,X];rfl
   have c0:ys.size=2:=by rw[<- PM,U];rfl
   rw[X,U,bx,c0,Ud,Ud];unfold GI at I;generalize ps.getD i (0,0)=O at I ⊢;generalize ps.getD j (0,0)=Y at I ⊢;refine kat_cons<|UG O.1 t Y.1 t' _ _ _ _ ?_;refine kat_go (λd=>?_) λd=>?_
   ·have d:O.1=Y.1:=by simpa using d
    rw[DZ d]at I;refine kat_yes<|kat_cons<|UG O.2 u Y.2 u' _ _ _ _<|kat_go (λK=>?_) λK=>?_
    ·have K:O.2=Y.2:=by simpa using K
     refine kat_yes<|kat_nil ?_;rw[show decide (O.2<Y.2)=dd by rw[K];simp]at I;exact I
    ·exact kat_no<|kat_one _ _<|lt_int I
   ·have d:O.1≠Y.1:=by simpa using d
    rw[DJ d]at I;exact kat_no<|oneLt_int I
  rintro⟨⟨⟩,F⟩ B ⟨p,c1,hf,hp,rfl⟩;dsimp only;have c4:=kat_snds rfl c1;have c5:((kh ps).map λi=>vs.getD i Ph).length=vs.length:=by rw[OC,(xU ps).length_eq,OM,a7]
  rw[c4,hp];refine Oc<|seqEpoch_at f rfl ?_;refine Oc<|listUpdate_at f rfl ?_ (Rg _) (by rw[Ov];show((kh ps).map λi=>vs.getD i Ph).length<=_;rw[c5];exact _p M);rw[hf];simp only[bne_self_eq_false,Pa,if_false];subst hg;exact Oi h
theorem Yh{l:di}{vs:List dq}{ps:List (Int×Int)}{Q:EQ}(O:s.heap.IsList l vs.toArray)(Y:ps.length=vs.length)(L:vs.length<64)
 (hT : ∀i (J:i<vs.length),Dc s.heap vs[i] (ps.getD i (0,0)).1 (ps.getD i (0,0)).2)
 (h:Q (.ref<|s.heap.objs.size+1) {s with heap:=sortedAll s.heap vs (h_<|(kh ps).map λi=>vs.getD i Ph)}) :
 wpAny (d5 prog w) A (call (.builtin "sorted") [.ref l]) Q E s:=by
 have d:vs.length<=eJ:=by rw[Um];omega
 refine Calls.call_function_entry kind_sorted plain_sorted entry_sorted (args_sorted1 _) ?_;unfold n9.«sorted»;refine Oc (m:=checkCount "sorted" 1 1 _) (Oi ?_);refine Oc (collect_list O ?_ d);refine Oc (wpAny_newList ?_ d);have a:((s.heap.push (nf "list" #[] 0)).update s.heap.objs.size (RD (· ++ vs.toArray))).objs.size=s.heap.objs.size+1:=by rw[_v,size_push']
 have I:(((s.heap.push (nf "list" #[] 0)).update s.heap.objs.size (RD (· ++ vs.toArray))).push (nf "list" vs.toArray 0)).get? (s.heap.objs.size+1)=cI (nf "list" vs.toArray 0):=by rw[<- a];exact Oz _ rfl
 have keep : ∀b o,s.heap.get? b=cI o->(((s.heap.push (nf "list" #[] 0)).update s.heap.objs.size (RD (· ++ vs.toArray))).push (nf "list" vs.toArray 0)).get? b=cI o:=λb o q=>by have z:b<s.heap.objs.size:=OD q;rw[Uq _ _ _ (by rw[a];exact ON (Py z)),Heap.get?_update_ne _ _ _ _ (ON z),Uq _ _ _ (ON z)];exact q
 show wpAny _ _ _ _ _ {s with heap:=((s.heap.push (nf "list" #[] 0)).update s.heap.objs.size (RD (· ++ vs.toArray))).push (nf "list" vs.toArray 0)};rw[a];refine Oc (Sb (p5 slot_list_sort ⟨_,I,rfl⟩ entry_list_sort (JC (s:={s with heap:=((s.heap.push (nf "list" #[] 0)).update s.heap.objs.size (RD (· ++ vs.toArray))).push (nf "list" vs.toArray 0)}) I Y L (λi J=>(hT i J).keep λb o e _=>keep b o e) ⟨_,rfl,?_⟩) (args_list_sort _)));exact Oi ⟨_,rfl,h⟩
end
section
variable{X:Cx}
noncomputable def CB(K:Ob):List V->Hp->VK->Prop:=λe H Q=>∃l b d,e=[.ref l]/\e9 K H l b/\d.length=b.length/\b.length<64/\
 (∀i (f:i<b.length),∃a,b[i]=V.ref a/\fh K H a [.int ((d:List (Int×Int)).getD i (0,0)).1,.int (d.getD i (0,0)).2])/\∀p,H p=cR->Q (.ref p) (upd H p<|.lst<|(kh d).map λi=>b.getD i .eg)
theorem Vg:J3 X (.builtin "sorted") (CB X.K):=by
 intro B s σ H vs us Q I rv h;obtain⟨l,f,ps,rfl,R,w,as,J,C⟩:=h;obtain⟨u,rfl,ru⟩:=yE rv;cases ru;obtain⟨z,r,pl,T⟩:=I.list R;have ax:=r.length;refine Yh (ps:=ps) pl.isList ⋯ ⋯ (λi d=>?_) ?_
 ·obtain⟨a,F,G⟩:=J i ⋯
  obtain⟨v,O,g2⟩:=r.get (i:=i) (x:=V.ref a) (by rw[Oe ⋯,F]);have S:z[i]=v:=by rw[Oe d]at O;exact OW O
  rw[S];cases g2;obtain⟨E,Z,⟨o,P,L,n,M⟩,_⟩:=I.tuple G;obtain⟨Y,p,rfl,k,m⟩ : ∃Y p,E=Y::p/\RelV (.int (ps.getD i (0,0)).1) Y/\ej [.int (ps.getD i (0,0)).2] p:=by
   cases Z with
   | cons k m=>exact⟨_,_,rfl,k,m⟩
  obtain⟨v2,rfl,W⟩:=yE m;obtain⟨t,rfl⟩:=k;obtain⟨u,rfl⟩:=W;exact⟨a,o,_,n,t,u,rfl,P,L,M,rfl⟩
 ·obtain⟨e,A⟩:=sortedAll_at s.heap z (h_<|(kh ps).map λi=>z.getD i Ph)
  have y:((kh ps).map λi=>f.getD i V.eg).length=f.length:=by rw[OC,(xU ps).length_eq,OM,w]
  refine⟨.ref<|s.heap.objs.size+1,_,I.laid (t':=s.toks) (o:= .lst ((kh ps).map λi=>f.getD i .eg)) (λb o q=>sortedAll_old q) (M8 _) ?_,rfl,C _<|I.eG.fresh<|M8 _⟩;refine⟨by rw[y];exact T,(kh ps).map λi=>z.getD i Ph,e,?_,A⟩;have g : ∀i∈kh ps,i<f.length:=λi d=>by have:=(xU ps).mem_iff.mp d;rw[w]at this;exact Oj.mp this
  generalize kh ps=o at g;clear y A
  induction o with
  | nil=>exact .nil
  | cons i o U=>
   have d:=g i Ot;refine .cons ?_ (U λj N=>g j<|Ow _ N);obtain⟨v,O,g2⟩:=r.get (i:=i) (x:=f[i])<|Oe d;show RelV (f.getD i V.eg) (z.getD i Ph);rw[Oh,Oh,Oe d,O];exact g2
theorem aB : ∀{I:List D} {ps:List (Int×Int)},Zl I=cI ps->∀(i:Nat) d,I[i]? = cI d->d = .tup [.int (ps.getD i (0,0)).1,.int (ps.getD i (0,0)).2]
 | [],ps,h,i,d,hd=>by simp at hd
 | c::I,ps,h,i,d,hd=>by
  obtain⟨k,a,h⟩:=zb h;obtain⟨l,b,h⟩:=zv h;subst h;cases i with
  | zero=>
   simp at hd;subst hd;unfold oq at a;split at a
   ·cases a;rfl
   ·cases a
  | succ i=>simpa using aB b i d (by simpa using hd)
theorem Yp{K:Ob}{H:Hp}{J:List D}{xs:List V}(r:dt K H J xs) : ∀(o:List Nat),(∀i∈o,i<xs.length)->dt K H (o.map λi=>J.getD i .eg) (o.map λi=>xs.getD i .eg)
 | [],_=>dt.nil
 | i::o,h=>by have a:=h i Ot;obtain⟨d,b,z⟩:=r.DF<|Oe a;refine dt.cons ?_ (Yp r o λj I=>h j<|Ow _ I);show Rep K H (J.getD i .eg) (xs.getD i .eg);rw[Oh,Oh,Oe a,b];exact z
theorem au{sc:f9}{N L:List Str}{k:Nat}{e:dy}{pos p:eo}{J:CO (Sk×List D)}(h:SX X sc N L k)(c:yT sc "sorted" = cL)(z:X.mg "sorted" = cR)(hq:PQ X e J)(hs:ei [e] X.env=[(dd,d3 e X.env)]:=by rfl) :
 PO X (.Call (.Name "sorted" p) [e] [] pos) (Ym J):=
 j6 (yj Vg (h.gl c).1 z ⋯ (zQ hq jF hs) ⋯ ⋯ hs rfl) λσ H Q P=>by
  obtain⟨t,Z,u,rc,I,q⟩:=P;obtain⟨⟨S,g⟩,w,I⟩:=zb I;cases S with
  | T=>cases I
  | L=>
   have I:fw g=cI u:=I;unfold fw at I;obtain⟨s,m,I⟩:=zb I;by_cases Y:g.length<64
   ·rw[DZ Y]at I
    cases I;have ae:=YG m;refine⟨t,Z,.L,g,rc,w,λa W H' f ext C h2 r=>?_⟩;have ag:=r.length;refine⟨a,W,s,rfl,C,by omega,by omega,λi j=>?_,λl O=>?_⟩
    ·obtain⟨d,R,U⟩:=r.DF (Oe j)
     have B:=aB m i d R;subst B;obtain⟨b,zs,A,o,E⟩:=yb U;refine⟨b,A,?_⟩;obtain⟨y,yr,x,F,G⟩:=E.l6;obtain⟨y2,ap,n,K,M⟩:=G.l6;rw[M.ow]at n;rw[x,n,jD F,jD K]at o;exact ix ext.sub o
    ·refine q l _ _ f (ext.trans<|Ext.hide ext.sub O _) (yS ext.s1 O) (jk ext.sub O) zB ?_
     refine Yp r _ λi j=>?_;have:=(xU s).mem_iff.mp j;have:=Oj.mp this;omega
   ·rw[DJ Y]at I;cases I
end
section
variable{X:Cx}{a b c:dy}{pos:eo}{fa fb fc:CO D}
theorem Yw{Y J:CmpOp}{r L:R2}{F G:D->D->Option D}(ho:hJ X (m9 Y) r)(a8:hJ X (m9 J) L)(s1:n0 X.K r F)(s2:n0 X.K L G)(ha:PV X a fa)(hb:PV X b fb)(hc:PV X c fc)
 (hm:P9 [Y,J] [b,c]=dd:=by with_unfolding_all rfl):k0 X (.Compare a [Y,J] [b,c] pos) (sB<|vn F G fa fb fc):=
 Yx (nN ho a8 ha hb hc hm) λσ H Q Z=>by
  obtain⟨i,h,kq,rc,A,q0⟩:=Z;obtain⟨d,I,W⟩:=zb A;have q : ∀v f e,Ext i H e f->Rep X.K e d v->∃k,v = .bl k/\Q k f:=λv f e x o=>by rw[wt W]at o;exact⟨kq,o,q0 f e x⟩
  obtain⟨x,N,I⟩:=zb I;obtain⟨y,P,I⟩:=zb I;obtain⟨k,R,I⟩:=zb I;obtain⟨l,S,m⟩:=zb R;refine⟨i,h,x,rc,N,λv1 H1 B x1 r1=>⟨B,h,y,rc.ext x1,P,λp s C O n=>s1 C s v1 p x y l _ O.sub (r1.mono O.s0) n S λv3 t j x3 r3=>?_⟩⟩;cases l with
  | bl k'=>
   cases m;refine⟨k,show v3 = .bl k from r3,?_⟩;cases k with
   | true=>
    rw[DZ rfl];rw[DZ rfl]at I;obtain⟨z,T,U⟩:=zb I;exact⟨j,h,z,((rc.ext x1).ext O).ext x3,T,λv4 u E g r4=>s2 E u p v4 y z d _ g.sub ((n.mono x3.s0).mono g.s0) r4 U λv5 w M x5 r5=>q v5 w M (((x1.trans O).trans x3).trans (g.trans x5)) r5⟩
   | false=>
    rw[DJ ⋯];rw[DJ ⋯]at I;cases I;exact q _ t j ((x1.trans O).trans x3) rfl
  | _=>cases m
end
end DL
namespace DL
open PySem PySem.Spec PyProof.Rows L2
theorem ZP{H:Hp}{x:di}{o I:HO}:upd (upd H x o) x I=upd H x I:=by
 funext b;by_cases h:b=x
 ·subst h;rw[zB,zB]
 ·rw[zH h,zH h,zH h]
structure A2(K:Ob)(C:di):Prop where
 cls:xx K C
 np:C8 K C "p"
 nt:C8 K C "table"
noncomputable def ZW(C:di):Sp:=λb H Q _=>∃x a z I,b=[.ref x,z,I]/\H x=cI (.ins C a [])/\Q .eg (upd H x<|.ins C a<|u4 z I)
noncomputable def X4(K:Ob)(C:di)(F:List D->Option Res):Sp:=λf H Q _=>∃x e z I O a p t b d,f=[.ref x,O]/\H x=cI (.ins C e<|u4 z I)/\et a H/\Rep K a p z/\Rep K a t I/\Rep K a b O/\F [p,t,b]=cI (.own d)/\MP K a H Q (.own d)
section
variable{P:gB}{w:fm}{K:Ob}{mg:DX}{base:ew}{k:Nat}
theorem AU{q:Str}{st:g8}{f C:di}{J:m6}(O:L2.oi K "__init__" q st f J)(L:KF ["self","p","table"] ["self","p","table"] st=cL)(c:A2 K C)
 (Y : ∀X:Cx,X.prog=P->X.w=w->X.K=K->X.mg=mg->X.base=base->SX X (zT st) ["self","p","table"] ["self","p","table"] k->hO X (jT st) (LV (HZ X.K (wF 0) (wF 1) "p") (HZ X.K (wF 0) (wF 2) "table"))) :
 je P w K mg base l7 (k+1) f J ["self","p","table"] (ZW C):=by
 have S:=yd L;refine O.ok S (λj H Q E h=>by obtain⟨x,a,z,I,rfl,_⟩:=h;rfl) λe A b s H j Q E g d=>⟨_,Y _ rfl rfl rfl rfl rfl ⟨rfl,rfl,S.nd,rfl,g,λ_ _=> .inl rfl⟩,?_⟩;obtain⟨x,a,z,I,rfl,i,q⟩:=d;refine⟨z,rfl,.ref x,rfl,x,C,a,[],rfl,i,c.cls,c.np,by decide,?_⟩;refine⟨I,rfl,.ref x,rfl,x,C,a,Kd "p" z [],rfl,zB,c.cls,c.nt,by show 1<1000;decide,?_⟩;rw[ZP];exact q
theorem aY{Y q:Str}{st:g8}{f C:di}{J:m6}{F:List D->Option Res}(L:L2.oi K Y q st f J)(hd:KF ["self","base"] ["self","base"] st=cL)(c:A2 K C)
 (a1 : ∀X:Cx,X.prog=P->X.w=w->X.K=K->X.mg=mg->X.base=base->SX X (zT st) ["self","base"] ["self","base"] k->
   hO X (jT st) (HA (mY (r6 X.K 3 F) [] E0 (Zr (HG X.K (wF 0) "p") (Zr (HG X.K (wF 0) "table") (Zr (wF 1) rJ)))))) :
 je P w K mg base l7 (k+1) f J ["self","base"] (X4 K C F):=by
 have S:=yd hd;refine L.ok S (λG H Q E h=>by obtain⟨x,a,z,I,O,e,p,t,b,g,rfl,_⟩:=h;rfl) λm A d s H G Q E r j=>⟨_,a1 _ rfl rfl rfl rfl rfl ⟨rfl,rfl,S.nd,rfl,r,λ_ _=> .inl rfl⟩,?_⟩;obtain⟨x,a,z,I,O,e,p,t,b,g,rfl,i,n,u,y,B,o,l⟩:=j;refine⟨.ref x,rfl,x,C,a,_,z,rfl,i,c.cls,c.np,IP z I,.ref x,rfl,x,C,a,_,I,rfl,i,c.cls,c.nt,IM z I,O,rfl,?_⟩;exact⟨e,[p,t,b],.own g,n,dt.cons u<|dt.cons y<|dt.cons B dt.nil,rfl,o,l⟩
noncomputable def HQ(CR J:di):Sp:=λb H Q _=>∃z s I,b=[z,.str s,I]/\∀x a,H x=cR->H a=cR->a≠x->Q (.ref x) (upd (upd H a (.own x)) x (.ins (if s=("r" : Str)then CR else J) a (u4 z I)))
theorem IS{x:Str}{st:g8}{f CR J:di}{L:m6}(Y:L2.oi K x x st f L)(hd:KF ["p","way","table"] ["p","way","table"] st=cL)
 (a0 : ∀X:Cx,X.prog=P->X.w=w->X.K=K->X.mg=mg->X.base=base->SX X (zT st) ["p","way","table"] ["p","way","table"] k->
   hO X (jT st) (HA (L2.M0 (tZ (DR P' (wF 1) (tC (.str "r")))) (mW CR (ZW CR) [] E0 (Zr (wF 0) (Zr (wF 2) rJ))) (mW J (ZW J) [] E0 (Zr (wF 0) (Zr (wF 2) rJ)))))) :
 je P w K mg base l7 (k+1) f L ["p","way","table"] (HQ CR J):=by
 have S:=yd hd;refine Y.ok S (λp H Q E h=>by obtain⟨I,s,O,rfl,_⟩:=h;rfl) λm A e s H p Q E n i=>⟨_,a0 _ rfl rfl rfl rfl rfl ⟨rfl,rfl,S.nd,rfl,n,λ_ _=> .inl rfl⟩,?_⟩;obtain⟨I,z,O,rfl,q⟩:=i;have g : ∀C,(∀x d,H x=cR->H d=cR->d≠x->Q (.ref x) (upd (upd H d (.own x)) x (.ins C d (u4 I O))))->mW C (ZW C) [] E0 (Zr (wF 0) (Zr (wF 2) rJ)) (wI ["p","way","table"] [I,.str z,O]) H Q:=λC q=>by refine⟨I,rfl,O,rfl,λx d o j l=>⟨x,d,I,O,rfl,zB,rfl,?_⟩⟩;rw[ZP];exact q x d o j l
 refine⟨.str z,rfl,rfl,_,rfl,?_⟩;show(if decide (V.str z=V.str "r")=cL then _ else _);by_cases h:z=("r" : Str)
 ·rw[DZ (decide_eq_true<|by rw[h])]
  refine g CR λx d a b c=>?_;have:=q x d a b c
  rwa [DZ h]at this
 ·rw[DJ (by simpa using h)]
  refine g J λx d a b c=>?_;have:=q x d a b c
  rwa [DJ h]at this
end
section
variable{X:Cx}{sc:f9}{N L:List Str}{k j jr jl:Nat}{a b c d:dy}{p E8 apos zi:eo}{fa fb fc fd:CO D}{F G:List D->Option Res}{x:Str}{CR CL:di}
structure NK(P:gB)(w:fm)(K:Ob)(mg:DX)(base:ew)(j:Nat)(x:Str)(CR CL:di):Prop where
 ex : ∃(f:di) (fd:m6),je P w K mg base l7 j f fd ["p","way","table"] (HQ CR CL)/\mg x=cI (.ref f)/\Rb K (.ref f)=cL/\Binds K fd ["p","way","table"] []
structure MethAt(P:gB)(w:fm)(K:Ob)(mg:DX)(base:ew)(j:Nat)(C:di)(F:List D->Option Res):Prop where
 cls:A2 K C
 ex : ∃(f:di) (fd:m6),F6 K C "forth" f/\je P w K mg base l7 j f fd ["self","base"] (X4 K C F)/\Binds K fd ["self","base"] []
theorem nU(b0:NK X.prog X.w X.K X.mg X.base j x CR CL)(hR:MethAt X.prog X.w X.K X.mg X.base jr CR F)(hL:MethAt X.prog X.w X.K X.mg X.base jl CL G)(h1:j<=k)(h2:jr<=k)(h3:jl<=k)(h:SX X sc N L k)(cx:yT sc x=cL)
 (ha:PV X a fa) (hb:PV X b fb) (hc:PV X c fc) (hd:PV X d fd)
 (he:ei [a,b,c] X.env=(dd,d3 a X.env)::ei [b,c] X.env:=by rfl) (bg:(j1 E8<|starEach [b,c] X.env).any (·.1)=dd:=by rfl)
 (bi:ei [b,c] X.env=(dd,d3 b X.env)::ei [c] X.env:=by rfl) (bl:ei [c] X.env=(dd,d3 c X.env)::ei [] X.env:=by rfl)
 (an:ei [d] X.env=(dd,d3 d X.env)::ei [] X.env:=by rfl) (bn:(j1 zi<|starEach [] X.env).any (·.1)=dd:=by rfl)
 (ht:d3 (.Call (.Attribute (.Call (.Name x p) [a,b,c] [] E8) "forth" apos) [d] [] zi) X.env=(do
   let ov <- d3 (.Call (.Name x p) [a,b,c] [] E8) X.env
   DO apos.atName
   let (f,first) <- u6 [ov] (P0 ov "forth" pl)
   callWith zi f first (j1 zi<|starEach [d] X.env) (y1 zi<|keywordEach [] X.env)):=by rfl) :
   PO X (.Call (.Attribute (.Call (.Name x p) [a,b,c] [] E8) "forth" apos) [d] [] zi) (rQ F G (zc fa (zc fb (zc fc (zc fd zC))))):=by
  intro e s σ H Q I ⟨H0,P,T,rc,O,q⟩;obtain⟨l,U,O⟩:=zb O;obtain⟨u,e1,U⟩:=zb U;obtain⟨l1,W,rfl⟩:=zv U;obtain⟨dw,e3,W⟩:=zb W;obtain⟨l2,Z,rfl⟩:=zv W;obtain⟨y,e5,Z⟩:=zb Z;obtain⟨zbj,e6,rfl⟩:=zv Z;obtain⟨t,e7,e6⟩:=zb e6;obtain⟨zbk,e8,rfl⟩:=zv e6;cases e8;cases dw with
  | str z=>
   have O:((if z=("r" : Str)then F else G) [u,y,t]).bind GA=cI T:=O;obtain⟨r,B,ap⟩:=zb O;cases r with
   | val _=>cases ap
   | own zbb=>
    cases ap;obtain⟨d6,d7,Gy,my,ky,c7⟩:=b0.ex;have call:=vE (p:=p) (pos:=E8) Gy (h.room.mono h1) (h.gl cx).1 my ky c7 .nil QC (zQ ha (zQ hb (zQ hc jF bl) bi) he) (h.gl cx).2.2 he bg;have go : ∀(C:di) (jc:Nat) (R:List D->Option Res),(if z=("r" : Str)then CR else CL)=C->MethAt X.prog X.w X.K X.mg X.base jc C R->jc<=k->R [u,y,t]=cI (.own T)->
     wpAny (d5 X.prog X.w) X.A (d3 (.Call (.Attribute (.Call (.Name x p) [a,b,c] [] E8) "forth" apos) [d] [] zi) X.env) (EP X e σ Q) X.xe s:=λC jc R hC M hj hF=>by
     obtain⟨zbd,d9,Mm,Gm,bm⟩:=M.ex;refine Aa (pl:=pl) (E:=E0) call M.cls.cls Mm Gm (h.room.mono hj) bm .nil QC (zQ hd jF an) an bn ht e s σ H Q I ?_;refine⟨H0,P,u,rc,e1,λY H1 ci x1 r1=>⟨ci,P,_,rc.ext x1,e3,λv2 H2 cn x2 r2=>⟨cn,P,y,(rc.ext x1).ext x2,e5,λg H3 m x3 r3=>?_⟩⟩⟩;refine⟨Y,z,g,by rw[show v2 = .str z from r2];rfl,λo n n1 n2 cq=>?_⟩;rw[hC];have xe:Ext m H3 m (upd (upd H3 n<|.own o) o<|.ins C n<|u4 Y g):=(Ext.hide x3.sub n2<|.own o).trans (Ext.hide (x3.sub.trans<|zX n2 _) (by rw[zH (PH cq)];exact n1) _);have xa:=(x1.trans<|x2.trans x3).trans xe;refine⟨o,n,u4 Y g,rfl,zB,IQ Y g,m,P,t,rc.ext xa,e7,λv4 H4 as i r4=>?_⟩;have ax:et m as:=i.s0;refine⟨o,n,Y,g,v4,as,u,y,t,T,rfl,i.s1 _ _ zB,i.sub,((r1.mono x2.s0).mono x3.s0).mono ax,r3.mono ax,r4,hF,?_⟩;exact λa' xs H' S x5 g1 g2 g3 g4=>q a' xs H' S (xa.trans<|i.trans x5) (yS (xa.trans i).s1 g1) g2 g3 g4
    by_cases J:z=("r" : Str)
    ·rw[DZ J]at B
     exact go CR jr F (DZ J) hR h2 B
    ·rw[DJ J]at B
     exact go CL jl G (DJ J) hL h3 B
  | _=>cases O
end
section
variable{X:Cx}{sc:f9}{N L:List Str}{k:Nat}{a:dy}{pos:eo}{f:CO (List D)}
theorem uP(i:Nat)(h:SX X sc N L k)(c:ZO sc N i x=cL)(ha:PO X a f)(J:ei [a] X.env=[(dd,d3 a X.env)]:=by rfl)
 (a1:vt (.Name x np) "extend" X.env (d3 (.Name x np) X.env)=d3 (.Name x np) X.env:=by rfl)
 (a2:((j1 cpos<|starEach [a] X.env).all (λx=> !x.1) && (y1 cpos<|keywordEach [] X.env).all (λx=>x.1.isSome)
   && decide ([a].length+([]:List o8).length+(if ([]:List o8).isEmpty then 0 else 1)<30))=cL:=by rfl)
 (a3:(apos.endLine==cpos.line)=cL:=by rfl) (a4:p4 (.Call (.Attribute (.Name x np) "extend" apos) [a] [] cpos) cR pos.line X.env=pure dd:=by rfl) :
 l3 X (.Expr (.Call (.Attribute (.Name x np) "extend" apos) [a] [] cpos) pos) (fH i f):=
 qX (vC (VL RQ PySem.F.slot_list_extend PySem.F.type_list_extend gP (h.var c) (zQ ha jF J) a1 a2 a3 J rfl) a4) λD K H w=>by
  obtain⟨E0,E,p,A,C,e,z,s⟩:=w;obtain⟨g,d,z⟩:=zb z;obtain⟨j,u,z⟩:=zb z;have d:=xA d;by_cases I:g.length+j.length<=lim
  ·rw[DZ I]at z;cases z
   obtain⟨l,xs,n,G,O,Y⟩:=e.rc.own i g d;refine⟨_,n,.inl ⟨rfl,_,e9.of O⟩,p,A,j,e.rc,u,λb o B r x g1 g2 g3 m=>?_⟩;have y:xs.length+o.length<=eJ:=by
    rw[Y.length,m.length];have:lim<=eJ:=by decide
    omega
   refine⟨l,b,xs,o,rfl,rfl,x.s1 _ _ O,g3,y,?_⟩;have t:=e.step x;exact s _ _ _<|t.rewrite (xs:=xs) d n<|(Y.mono x.s0).append m
  ·rw[DJ I]at z;cases z
end
noncomputable def pX(K:Ob)(C:di):Bool:=Ux K C && Rb K (.ref C) && TF K C Str.empty && Ub K C && UX K C &&
 Pp K (.ref C) "__setattr__" == cI (cI (.builtin "object.__setattr__")) && Pp K (.ref C) "p" == cI cR && Pp K (.ref C) "table" == cI cR
structure m_(K:Ob)(mg:DX)(sI sR sL:g8):Prop where
 ex : ∃(CR CL fI fR fL:di) (dI dR dL:m6),mg "Right" = cI (.ref CR)/\mg "Left" = cI (.ref CL)/\Mk K CR fI/\Mk K CL fI/\A2 K CR/\A2 K CL/\F6 K CR "forth" fR/\F6 K CL "forth" fL/\
  L2.oi K "__init__" "Arrow.__init__" sI fI dI/\L2.oi K "forth" "Right.forth" sR fR dR/\L2.oi K "forth" "Left.forth" sL fL dL/\
  Binds K dI ["self","p","table"] []/\Binds K dR ["self","base"] []/\Binds K dL ["self","base"] []
section
variable{K:Ob}{mg:DX}{h:ew}
theorem lx(b:pX K C=cL):A2 K C/\Ux K C=cL/\Rb K (.ref C)=cL:=by unfold pX at b;simp only[Oo,beq_iff_eq]at b;obtain⟨⟨⟨⟨⟨⟨⟨b1,b2⟩,b3⟩,b4⟩,b5⟩,b6⟩,b7⟩,b8⟩:=b;exact⟨⟨⟨b3,b4,b5,b6⟩,b7,b8⟩,b1,b2⟩
theorem Mw{sI sR sL:g8}{CR CL fI fR fL:di}{oI oR oL:dq}{eI eR eL aI aR aL:Option di}{lI lR lL:Array (Option dq)}{kI dI pI z tI kR dR pR I tR kL dL pL O tL:dq}(Y:K.In h)(G:h.Ns qd mg)
 (nR:Uw K qd "Right" = cI (cI (.ref CR))) (nL:Uw K qd "Left" = cI (cI (.ref CL)))
 (iR:Pp K (.ref CR) "__init__" = cI (cI (.ref fI))) (iL:Pp K (.ref CL) "__init__" = cI (cI (.ref fI)))
 (mR:Pp K (.ref CR) "forth" = cI (cI (.ref fR))) (mL:Pp K (.ref CL) "forth" = cI (cI (.ref fL)))
 (uI:K.lookup fI=cI ⟨oI,eI,.func (Rw "__init__" "Arrow.__init__" (xH sI) (jT sI) (zT sI) .none kI dI pI aI z tI),lI⟩)
 (uR:K.lookup fR=cI ⟨oR,eR,.func (Rw "forth" "Right.forth" (xH sR) (jT sR) (zT sR) .none kR dR pR aR I tR),lR⟩)
 (uL:K.lookup fL=cI ⟨oL,eL,.func (Rw "forth" "Left.forth" (xH sL) (jT sL) (zT sL) .none kL dL pL aL O tL),lL⟩)
 (vI:SV K z "Arrow.__init__" = cL) (vR:SV K I "Right.forth" = cL) (vL:SV K O "Left.forth" = cL)
 (w1:Rb K (.ref fI)=cL) (w2:Rb K (.ref fR)=cL) (w3:Rb K (.ref fL)=cL)
 (z1:TY K (.ref fI)=cL) (z2:TY K (.ref fR)=cL) (z3:TY K (.ref fL)=cL)
 (bR:pX K CR=cL) (bL:pX K CL=cL)
 (gI : ∀(kV L pm:dq) (an:Option di) (J ct:dq) (us:List dq),us.length=3->D9 (Rw "__init__" "Arrow.__init__" (xH sI) (jT sI) (zT sI) .none kV L pm an J ct) ⟨us,[]⟩=pure ((["self","p","table"]:List Str).zip us))
 (gR : ∀(kV L pm:dq) (an:Option di) (J ct:dq) (us:List dq),us.length=2->D9 (Rw "forth" "Right.forth" (xH sR) (jT sR) (zT sR) .none kV L pm an J ct) ⟨us,[]⟩=pure ((["self","base"]:List Str).zip us))
 (gL : ∀(kV L pm:dq) (an:Option di) (J ct:dq) (us:List dq),us.length=2->D9 (Rw "forth" "Left.forth" (xH sL) (jT sL) (zT sL) .none kV L pm an J ct) ⟨us,[]⟩=pure ((["self","base"]:List Str).zip us)):m_ K mg sI sR sL:=by
 obtain⟨e,f,g⟩:=lx bR;obtain⟨i,j,k⟩:=lx bL;have a:=aW uI vI w1;have d:=aW uR vR w2;have b:=aW uL vL w3;exact⟨CR,CL,fI,fR,fL,_,_,_,UM Y G nR,UM Y G nL,⟨f,iR,z1,g⟩,⟨j,iL,z1,k⟩,e,i,⟨mR,z2,w2⟩,⟨mL,z3,w3⟩,a,d,b,a.binds gI,d.binds gR,b.binds gL⟩
end
noncomputable def Bj:g8->List g8
 | .ClassDef _ _ _ b _ _ _ _ _ _ _=>b
 | _=>[]
noncomputable def AM(st:g8)(j:Nat):g8:=(Bj st).getD j (.Pass ⟨0,0,0,0⟩)
theorem wX{K:Ob}{H:Hp} : ∀{I:List D} {ns:List Int} {xs:List V},wc I=cI ns->dt K H I xs->xs=(ns.map Ru).map kV
 | [],ns,xs,e,r=>by cases e;exact r.ow
 | d::I,ns,xs,e,r=>by
  cases d with
  | int i=>
   obtain⟨l,a,b⟩:=zv e;subst b;obtain⟨x,t,rfl,f,g⟩:=r.l6;rw[wX a g,show x = .int i from f];rfl
  | _=>cases e
theorem Kz{K:Ob}{H:Hp}{i:Int} : ∀{ks vs:List D} {J:List Key} {xs:List V},ik ks=cI J->J.length=xs.length->dt K H vs xs->
 (∀d,aV ks vs i=cI d->∃v,WJ (J.zip xs) (Ru i)=cI v/\Rep K H d v)/\(aV ks vs i=cR->WJ (J.zip xs) (Ru i)=cR)
 | [],vs,J,xs,e,l,r=>by cases e;exact⟨(λd q=>by cases q),λ_=>rfl⟩
 | k::ks,[],J,xs,e,l,r=>by rw[r.ow]at l ⊢;rw[List.length_eq_zero_iff.mp l];exact⟨(λd q=>by cases q),λ_=>rfl⟩
 | k::ks,v::vs,J,xs,e,l,r=>by
  obtain⟨I,a,g⟩:=zb e;obtain⟨O,h,m⟩:=zv g;subst m;obtain⟨x,Y,rfl,o,p⟩:=r.l6;have f:=Kz (i:=i) h (by simpa using l) p;have step:I≠Ru i->WJ ((I::O).zip (x::Y)) (Ru i)=WJ (O.zip Y) (Ru i):=λb=>by rw[Ud];simp[WJ,SJ,b]
  cases k with
  | int j=>
   cases a;by_cases z:j=i
   ·subst z
    refine⟨λd q=>⟨x,?_,?_⟩,λq=>?_⟩
    ·rw[Ud];exact XT rfl
    ·have:v=d:=by simpa[aV]using q
     exact this ▸ o
    ·simp[aV]at q
   ·have b:(Ru j:Key)≠Ru i:=λq=>z (Ru.inj q)
    rw[step b];have n:aV (.int j::ks) (v::vs) i=aV ks vs i:=by simp[aV,z]
    rw[n];exact f
  | str y=>
   cases a;rw[step (λq=>by cases q)];exact f
  | _=>cases a
section
variable{X:Cx}{a:dy}{pos:eo}
theorem uJ{c:dy}{J:CO D}(ha:PV X a J){O:CO (Sk×List D)}(hb:PQ X c O)(hm:t7 .In c=dd:=by with_unfolding_all rfl):k0 X (.Compare a [.In] [c] pos) (sB<|Ma J O):=
 Yx (Kf gD ha hb hm) λN H Q A=>by
  obtain⟨h,g,d,rc,z,q⟩:=A;obtain⟨F,n,w⟩:=zb z;obtain⟨x,o,z⟩:=zb n;obtain⟨⟨f,m⟩,s,z⟩:=zb z;obtain⟨i,t,z⟩:=zb z;obtain⟨l,u,rfl⟩:=zv z;cases w;refine⟨h,g,x,rc,o,λY E j x1 I=>⟨j,g,f,m,rc.ext x1,s,λp M b k C e G r=>?_⟩⟩;rw[jA t]at I;have y:=v7 r u;subst y;have B:e9 X.K b p (l.map V.int)\/fh X.K b p (l.map V.int):=by
   cases f with
   | L=>exact .inl e
   | T=>exact .inr e
  refine⟨p,_,rfl,B,by rw[show Y = .int i from I];rfl,JL l,?_⟩;rw[show Y = .int i from I,V5];exact⟨_,rfl,q b k<|x1.trans C⟩
end
noncomputable def ZN(k:CO Bool)(F:CO Fl):Nat->CO Fl
 | 0,_=>cR
 | n+1,d=>(k d).bind λb=>if b=cL then (F d).bind λz=>match z with
  | .next a=>ZN k F n a
  | .cont a=>ZN k F n a
  | .brk a=>cI (.next a)
  | .ret r=>cI (.ret r)
  else cI (.next d)
noncomputable def rP(n:Nat)(k:CO Bool)(F:CO Fl):CO Fl:=λa=>ZN k F n a
section
variable{X:Cx}{c:dy}{body:List g8}{pos:eo}{k:CO Bool}{F:CO Fl}
theorem gc(n:Nat)(hp:D3 (d5 X.prog X.w) X.A X.env X.xe)(L:k0 X c k)(J:bM X body F):l3 X (.While c body [] pos) (rP n k F):=
 qX (nQ hp L J) λD t H G=>by
  obtain⟨E0,E,g,i,Y,M,C,j⟩:=G;refine⟨λm t H=>∃g i,RS X.K E0 E g H t i/\ZN k F m i=cI Y,⟨n,g,i,M,C⟩,λm l P N=>?_⟩;obtain⟨x,f,C2,p⟩:=N;cases m with
  | zero=>cases p
  | succ m=>
   obtain⟨b,y,I⟩:=zb (show(k f).bind _=cI Y from p);refine⟨x,f,b,C2.rc,y,λu o s=>?_⟩;cases b with
   | true=>
    rw[DZ rfl]at I ⊢;obtain⟨f1,B,O⟩:=zb I;refine⟨λd h=>∃g a,RS X.K E0 E g h d a/\ZN k F m a=cI Y,λd h z=>⟨m,PR m,z⟩,E0,E,o,f,f1,C2.step s,B,?_⟩;cases f1 with
    | next a=>exact λd h e r=>⟨e,a,r,O⟩
    | cont a=>exact λd h e r=>⟨e,a,r,O⟩
    | brk a=>cases O;exact j
    | ret r=>
     cases O;cases r<;>exact j
   | false=>
    rw[DJ Oy]at I ⊢;cases I;exact j l u o<|C2.step s
end
noncomputable def uu(I:CO D)(g:CO (Sk×List D)):CO D:=λb=>(I b).bind λx=>(g b).bind λa=>match a.1 with
 | .L=>if iv x=cL/\i9 a.2=cL then cI (.bl<|a.2.any λd=>hH d x)else cR
 | .T=>cR
noncomputable def yI(g:CO (Sk×List D))(I:CO D):CO D:=λb=>(g b).bind λa=>(I b).bind λx=>match a.1 with
 | .L=>if iv x=cL/\i9 a.2=cL then cI (.int (a.2.countP λd=>hH d x:Nat))else cR
 | .T=>cR
noncomputable def Nr(K:Ob)(z:Bool):R2:=λx y H Q=>∃e b p f a,et e H/\Rep K e b x/\y = .ref p/\e9 K H p f/\dt K e a f/\iv b=cL/\i9 a=cL/\Q (.bl<|if z then !a.any λd=>hH d b else a.any λd=>hH d b) H
theorem bJ(hx:mu x=cL) : ∀I:List D,i9 I=cL->(m1 I).any (λy=>Sr y<|h7 x)=I.any λd=>hH d x
 | [],_=>by simp[m1]
 | d::I,h=>by simp only[i9,Oo]at h;simp only[m1,TU];rw[GR d x h.1 hx,bJ hx I h.2]
theorem Xf(I:Inv X pins σ H s)(sub:et H0 H)(O:e9 X.K H p xs)(r:dt X.K H0 ds xs)(o:i9 ds=cL) : ∃z,Reads s.heap (.ref p) (.list<|m1 ds) z:=by obtain⟨f,Y,q,g⟩:=I.list O;obtain⟨h,d,a,n,b⟩:=q.isList;obtain⟨z,e⟩:=MI I sub o r Y;exact⟨_,.list d a b<|by simpa using e⟩
theorem Ey(J:X.A.units+66<rd):hJ X (m9 .In) (Nr X.K dd):=by
 intro d s n H x y v u Q I rx Y h;obtain⟨k,b,p,m,a,sub,f,rfl,e,g,z,O,q⟩:=h;cases Y;obtain⟨as,i⟩:=DM I sub (qT z) f rx;obtain⟨bs,j⟩:=Xf I sub e g O;have l:=PySem.SeqAt.depth_of_shaped<|kT z;refine PySem.SeqAt.in_list_reads j i (G6 a O) (My b<|qT z) ?_ ⟨.bl _,H,I,rfl,?_⟩
 ·have:min (TR<|m1 a) (h7 b).depth<=(h7 b).depth:=_e _ _
  omega
 ·rw[bJ (qT z) a O];exact q
section
variable{X:Cx}{sc:f9}{N L:List Str}{k:Nat}{a b:dy}{pos:eo}{fa:CO D}{g:CO (Sk×List D)}
theorem SX._a(h:SX X sc N L k):X.A.units+66<rd:=by have:=h.room.un;omega
theorem CS(h:SX X sc N L k)(J:PV X a fa)(hb:PQ X b g)(hm:t7 .In b=dd:=by with_unfolding_all rfl):PV X (.Compare a [.In] [b] pos) (uu fa g):=
 j6 (gy (Ey h._a) J hb hm) λC H Q s=>by
  obtain⟨i,f,d,rc,z,q⟩:=s;obtain⟨x,m,z⟩:=zb z;obtain⟨⟨t,e⟩,n,z⟩:=zb z;cases t with
  | T=>cases z
  | L=>
   have z:(if iv x=cL/\i9 e=cL then cI (D.bl<|e.any λd=>hH d x)else cR)=cI d:=z;by_cases I:iv x=cL/\i9 e=cL
   ·rw[DZ I]at z;cases z
    exact⟨i,f,x,rc,m,λB y l x1 u=>⟨l,f,.L,e,rc.ext x1,n,λp w j Y O o A r=>⟨Y,x,p,w,e,O.sub,u.mono O.s0,rfl,o,r,I.1,I.2,q _ j Y (x1.trans O) rfl⟩⟩⟩
   ·rw[DJ I]at z;cases z
end
noncomputable def uA(K:Ob):V->List V->Hp->VK->Prop:=λx g H Q=>∃a e v p f b,et a H/\x = .ref p/\g=[v]/\Rep K a e v/\e9 K H p f/\dt K a b f/\iv e=cL/\i9 b=cL/\Q (.int (b.countP λd=>hH d e:Nat)) H
theorem XB(hx:mu x=cL) : ∀I:List D,i9 I=cL->(m1 I).countP (λy=>Sr y<|h7 x)=I.countP λd=>hH d x
 | [],_=>by simp[m1]
 | d::I,h=>by simp only[i9,Oo]at h;simp only[m1,_u];rw[GR d x h.1 hx,XB hx I h.2]
theorem gQ(hu:X.A.units+66<rd):N2 X "list.count" (uA X.K):=by
 intro k s U H x S v R Q I rx E h;obtain⟨J,a,y,p,T,b,sub,rfl,rfl,u,o,w,z,O,q⟩:=h;cases rx;obtain⟨G,rfl,rw⟩:=yE E;obtain⟨as,B⟩:=DM I sub (qT z) u rw;obtain⟨bs,C⟩:=Xf I sub o w O;have N:=PySem.SeqAt.depth_of_shaped<|kT z;have Y:=G6 b O;cases C with
 | list i l m j=>
  rename_i r g n L
  obtain⟨P,t,M,f⟩:=r;subst l m;refine Tf F.slot_list_count ⟨_,i,rfl⟩ F.entry_list_count (F.args_list_count_2 _ _) (PySem.SeqAt.list_countAt p g n t f G<|λy=>Sr (PySem.SeqAt.readOf s.heap y)<|h7 a) ⟨i,PySem.SeqAt.items_eqAt j B Y (My a<|qT z) ?_,?_⟩
  ·have:min (TR<|m1 b) (h7 a).depth<=(h7 a).depth:=_e _ _
   omega
  ·have e:g.toList.countP (λy=>Sr (PySem.SeqAt.readOf s.heap y)<|h7 a)=b.countP λd=>hH d a:=by
    rw[<- XB (qT z) b O,<- PySem.SeqAt.readsAll_map _ _ _ Y j,TZ];rfl
   rw[e];exact⟨.int _,H,I.tok _,⟨_,rfl⟩,q⟩
section
variable{X:Cx}{sc:f9}{N L:List Str}{k:Nat}{o e:dy}{apos cpos:eo}{fa:CO D}{g:CO (Sk×List D)}
theorem fW(h:SX X sc N L k)(ho:PQ X o g)(he:PV X e fa)(a2:vt o "count" X.env (d3 o X.env)=d3 o X.env:=by rfl)
 (a3:((j1 cpos<|starEach [e] X.env).all (λx=> !x.1) && (y1 cpos<|keywordEach [] X.env).all (λx=>x.1.isSome) && decide ([e].length+([]:List o8).length+(if ([]:List o8).isEmpty then 0 else 1)<30))=cL:=by rfl)
 (a4:(apos.endLine==cpos.line)=cL:=by rfl) (J:ei [e] X.env=[(dd,d3 e X.env)]:=by rfl):PV X (.Call (.Attribute o "count" apos) [e] [] cpos) (yI g fa):=
 j6 (VL RQ PySem.F.slot_list_count PySem.F.type_list_count (gQ h._a) ho (zQ he jF J) a2 a3 a4 J rfl) λC H Q t=>by
  obtain⟨j,i,d,rc,z,q⟩:=t;obtain⟨⟨u,a⟩,s,z⟩:=zb z;obtain⟨x,n,z⟩:=zb z;cases u with
  | T=>cases z
  | L=>
   have z:(if iv x=cL/\i9 a=cL then cI (D.int (a.countP λd=>hH d x:Nat))else cR)=cI d:=z;by_cases I:iv x=cL/\i9 a=cL
   ·rw[DZ I]at z;cases z
    refine⟨j,i,.L,a,rc,s,λp f A m x1 b B r=>⟨.inl ⟨rfl,f,b⟩,m,i,x,rc.ext x1,n,λy l Y O w=>?_⟩⟩;exact⟨Y,x,y,p,f,a,O.sub,rfl,rfl,w,O.s1.seq b,r.mono O.s0,I.1,I.2,q _ l Y (x1.trans O) rfl⟩
   ·rw[DJ I]at z;cases z
end
noncomputable def W2(f:CO D)(γ:Ctx):Option (List D):=((f γ).bind js).bind λn=>if inR n=cL/\n.toNat<=lim then cI (yK 0 n.toNat)else cR
@[simp] noncomputable def BN:=@W2.eq_1
noncomputable def fF(i:Nat)(f:CO D):CO Fl:=λb=>(qI b[i]?).bind λd=>((f b).bind js).bind λn=>(QI d).bind λa=>if a.idxOf n<a.length then cI (.next<|b.set i<|.own<|d.eraseIdx<|a.idxOf n)else cR
theorem GH:2500<=eJ:=by have:=kJ<|Ou lim;rw[show lim=2500 from rfl]at this;exact this
theorem vO{K:Ob}{H:Hp} : ∀{I:List D} {xs:List V} (j:Nat),dt K H I xs->dt K H (I.eraseIdx j) (xs.eraseIdx j)
 | [],xs,j,r=>by rw[r.ow];exact dt.nil
 | d::I,xs,0,r=>by obtain⟨x,b,e,_,a⟩:=r.l6;subst e;exact a
 | d::I,xs,j+1,r=>by obtain⟨x,b,e,z,a⟩:=r.l6;subst e;exact dt.cons z<|vO j a
theorem Jc{K:Ob}{H:Hp} : ∀l:List Int,dt K H (l.map D.int) (l.map V.int)
 | []=>dt.nil
 | i::l=>dt.cons rfl<|Jc l
end DL
namespace L2
open PySem PySem.Spec PyProof.Rows
theorem QS : ∀(z:List dq) (s:Nat),(∀(i:Nat) v,z[i]? = cI v->∃t,v = .int ((s+i:Nat):Int) t)->ej ((Tn s z.length).map λ(i:Nat)=>V.int (i:Int)) z
 | [],s,_=> .nil
 | v::z,s,h=>by
  rw[OK,Sh,OH];refine .cons ?_ (QS z (s+1) λi v I=>?_)
  ·obtain⟨t,e⟩:=h 0 v rfl
   exact⟨t,e⟩
  ·obtain⟨t,e⟩:=h (i+1) v I
   exact⟨t,by rw[e,show s+(i+1)=s+1+i by omega]⟩
noncomputable def mX(I:TA):TE:=λd H Q=>I d H λb a=>∃j:Int,b=[.int j]/\ -(2 ^ 62)<=j/\j<2 ^ 62/\j.toNat<=2500/\∀l,a l=cR->Q (.ref l) (upd a l<|.lst<|(Od j.toNat).map λ(i:Nat)=>V.int (i:Int))
theorem cQ{X:Cx}{L:dy}{ta:TA}{p pos p2 J:eo}(hc:X.calm=cL)(hg:Gl X "list")(hm:X.mg "list" = cR)(a4:Gl X "range")(a5:X.mg "range" = cR)(ha:PA X [L] ta)
 (hs:ei [L] X.env=[(dd,d3 L X.env)]:=by rfl) (O:ei [.Call (.Name "range" p2) [L] [] J] X.env=[(dd,d3 (.Call (.Name "range" p2) [L] [] J) X.env)]:=by rfl) :
 PE X (.Call (.Name "list" p) [.Call (.Name "range" p2) [L] [] J] [] pos) (mX ta):=by
 intro d s f H Q I h;refine RT (kA I hg hm PyProof.Rows.boot_list (Pk ?_ (by rw[O];rfl) rfl) ⋯ ⋯);rw[O];show wpAny _ _ (FL ((dd,d3 (.Call (.Name "range" p2) [L] [] J) X.env)::j1 pos [])) _ _ s;refine RN (RT (kA I a4 a5 PyProof.Rows.boot_range (Pk (ed (ha J d s f H _ I h) λW a E=>?_) (by rw[hs];rfl) rfl) ⋯ ⋯));obtain⟨Z,k,Y,T,S⟩:=E;obtain⟨j,rfl,K,M,N,q⟩:=S;obtain⟨w1,rfl,u⟩:=yE T;obtain⟨t,rfl⟩:=u;refine call_range_1 ?_;generalize z:a.heap.push {cls:= .type "range",data:= .fields #[.int 0 a.toks,.int j t,.int 1 (a.toks+1)]}=g;have kp : ∀c o,a.heap.get? c=cI o->g.get? c=cI o:=λc o e=>by rw[<- z];exact Of _ e
 have A:IsRange g a.heap.objs.size 0 j 1 a.toks t (a.toks+1):=by rw[<- z];exact Oz _ rfl
 have as:g.objs.size=a.heap.objs.size+1:=by rw[<- z];exact nr ..
 have l:Inv X d f k {a with heap:=g,toks:=a.toks+1+1}:=Y.kept (t':=a.toks+1+1) kp;refine SQ ?_;refine call_list_range (s:={a with heap:=g,toks:=a.toks+1+1}) (n:=j.toNat) (l.ok.hd hc) A (small_one ⋯ ⋯ K M) (by rw[rangeSize_nat];simp) ⋯ λB m acc y F C x=>?_;obtain⟨P,R⟩:=x;have U:ej ((Od j.toNat).map λ(i:Nat)=>V.int (i:Int)) acc.toList:=by
  have:=QS acc.toList 0 λi v G=>by obtain⟨t,e⟩:=R i v (by rw[<- TJ];exact G);exact⟨t,by rw[e];simp⟩
  rw[PM,P,<- A6]at this;exact this
 have r:Inv X d f (upd k g.objs.size<|.lst<|(Od j.toNat).map λ(i:Nat)=>V.int (i:Int)) {a with heap:=B,toks:=m}:=
  Y.laid (t':=m) (λb o e=>F b o<|kp b o e) ⋯ (show ij X.prog X.w _ _ _ (.lst _)from⟨by rw[OC,OM];exact PK N DL.GH,acc.toList,y,U,C⟩)
 exact⟨.ref g.objs.size,_,r,rfl,q _<|l.eG.fresh<|Ou _⟩
noncomputable def uy:V->List V->Hp->VK->Prop:=λx b H Q=>∃l n,∃a:List Int,x = .ref l/\b=[.int n]/\H l=cI (.lst<|a.map V.int)/\a.idxOf n<a.length/\Q .eg (upd H l<|.lst<|(a.map V.int).eraseIdx (a.idxOf n))
theorem QU : ∀{xs:List V} {z:List dq} (j:Nat),ej xs z->ej (xs.eraseIdx j) (z.eraseIdx j)
 | [],_,j,.nil=> .nil
 | _::_,_,0,.cons _ r=>r
 | _::_,_,j+1,.cons h r=> .cons h (QU j r)
theorem QT : ∀{ks:List Int} {z:List dq},ej (ks.map V.int) z->∀(i:Nat) (v:dq),z[i]? = cI v->∃k t,ks[i]? = cI k/\v = .int k t
 | [],_,.nil,i,v,h=>by cases h
 | k::ks,_,.cons h r,0,v,hv=>by obtain⟨t,e⟩:=h;cases hv;exact⟨k,t,rfl,e⟩
 | k::ks,_,.cons h r,i+1,v,hv=>QT r i v hv
theorem gO{X:Cx}:L4 X "list.remove" uy:=by
 intro B s P H x N v M Q I rx K h;obtain⟨l,n,a,rfl,rfl,j,o,q⟩:=h;cases rx;obtain⟨u,rfl,J⟩:=K.one;obtain⟨t,rfl⟩:=J;obtain⟨z,O,c,r,L,e⟩:=I.B8 j;have C:=r.length;rw[OC]at C;have Y:=λi v=>QT r i v;refine Tf F.slot_list_remove ⟨_,e,rfl⟩ F.entry_list_remove (F.args_list_remove_2 _ _) (PySem.MeetsSeq.list_remove l O.toArray c (.int n t) (λy=>match y with | .int k _=>k==n | _=>dd) ?_ (a.idxOf n) (by rw[Ov];omega) ?_ ?_ (by rw[Ov];omega)) ⟨e,?_⟩
 ·intro y A
  rw[List.mem_toArray]at A;obtain⟨i,E⟩:=L6 A;obtain⟨k,g,_,rfl⟩:=Y i y E;exact MeetsSeq.EqGives.int k n g t
 ·have d:a.idxOf n<O.length:=by omega
  obtain⟨k,g,b,f⟩:=Y (a.idxOf n) O[a.idxOf n] (Oe d);simp only[List.getElem_toArray];rw[f];have:=List.getElem_idxOf o;rw[Oe o]at b;cases b;simp[this]
 ·intro m w d
  rw[Ov]at w;obtain⟨k,g,b,f⟩:=Y m O[m] (Oe w);simp only[List.getElem_toArray];rw[f];have G:m<a.length:=by omega
  rw[Oe G]at b;cases b;have:=List.not_of_lt_findIdx (p:=(· == n)) (xs:=a) (i:=m) (by exact d);simpa using this
 ·exact⟨.eg,_,I.G9 (its':=O.eraseIdx<|a.idxOf n) j e (by apply Array.ext';simp) (QU _ r) (by rw[List.length_eraseIdx,OC];split<;>omega),rfl,q⟩
end L2
namespace DL
open PySem PySem.Spec PyProof.Rows L2
section
variable{X:Cx}{sc:f9}{N L:List Str}{k:Nat}{a:dy}{f:CO D}
theorem cM{p p2 pos J:eo}(h:SX X sc N L k)(c:yT sc "list" = cL)(z:X.mg "list" = cR)(c2:yT sc "range" = cL)(z2:X.mg "range" = cR)(ha:PV X a f)
 (hs:ei [a] X.env=[(dd,d3 a X.env)]:=by rfl) (a1:ei [.Call (.Name "range" p2) [a] [] J] X.env=[(dd,d3 (.Call (.Name "range" p2) [a] [] J) X.env)]:=by rfl) :
 PO X (.Call (.Name "list" p) [.Call (.Name "range" p2) [a] [] J] [] pos) (W2 f):=
 j6 (cQ h.calm (h.gl c).1 z (h.gl c2).1 z2 (zQ ha jF hs) hs a1) λA H Q s=>by
  obtain⟨m,t,w,rc,I,q⟩:=s;obtain⟨n,g,I⟩:=zb I;obtain⟨d,g,o⟩:=zb g;by_cases O:inR n=cL/\n.toNat<=lim
  ·rw[DZ O]at I;cases I
   refine⟨m,t,d,rc,g,λv u b x r=>?_⟩;rw[jA o]at r;have y:=of_decide_eq_true O.1;refine⟨n,by rw[jD r],by omega,by omega,by have j:=O.2;rw[show lim=2500 from rfl]at j;exact j,λl Y=>?_⟩;refine q l _ _ b (x.trans<|Ext.hide x.sub Y _) (yS x.s1 Y) (jk x.sub Y) zB ?_;have:=Jc (K:=X.K) (H:=b)<|(Od n.toNat).map λ(i:Nat)=>(i:Int);rw[Pw,Pw]at this;have e:yK 0 n.toNat=(Od n.toNat).map (D.int∘λ(i:Nat)=>(i:Int)):=by simp[yK]
   rw[e];exact this
  ·rw[DJ O]at I;cases I
theorem cH(i:Nat){x:Str}{J cpos np pos:eo}(h:SX X sc N L k)(c:ZO sc N i x=cL)(ha:PV X a f)(hs:ei [a] X.env=[(dd,d3 a X.env)]:=by rfl)
 (a0:vt (.Name x np) "remove" X.env (d3 (.Name x np) X.env)=d3 (.Name x np) X.env:=by rfl)
 (a1:((j1 cpos<|starEach [a] X.env).all (λx=> !x.1) && (y1 cpos<|keywordEach [] X.env).all (λx=>x.1.isSome)
   && decide ([a].length+([]:List o8).length+(if ([]:List o8).isEmpty then 0 else 1)<30))=cL:=by rfl)
 (a2:(J.endLine==cpos.line)=cL:=by rfl) (a3:p4 (.Call (.Attribute (.Name x np) "remove" J) [a] [] cpos) cR pos.line X.env=pure dd:=by rfl) :
 l3 X (.Expr (.Call (.Attribute (.Name x np) "remove" J) [a] [] cpos) pos) (fF i f):=
 qX (vC (VL RQ PySem.F.slot_list_remove PySem.F.type_list_remove gO (h.var c) (zQ ha jF hs) a0 a1 a2 hs rfl) a3) λD P H A=>by
  obtain⟨E0,E,o,C,K,l,z,p⟩:=A;obtain⟨u,b,z⟩:=zb z;obtain⟨n,j,z⟩:=zb z;obtain⟨e,w,z⟩:=zb z;obtain⟨d,j,y⟩:=zb j;have b:=xA b;by_cases I:e.idxOf n<e.length
  ·rw[DZ I]at z;cases z
   obtain⟨a,xs,m,M,O,Y⟩:=l.rc.own i u b;refine⟨_,m,.inl ⟨rfl,_,e9.of O⟩,o,C,d,l.rc,j,λv G g x r=>?_⟩;rw[jA y]at r;have s:=l.step x;have t:=x.s1 _ _ O;have B:=v7 Y w;subst B;refine⟨a,n,e,rfl,by rw[jD r],t,I,?_⟩;exact p _ _ g<|s.rewrite (xs:=e.map V.int) b m<|vO _<|Y.mono x.s0
  ·rw[DJ I]at z;cases z
end
noncomputable def Hr(I J fs:List D):List D:=(I.zip<|J.zip fs).map λp=>D.tup [p.1,p.2.1,p.2.2]
noncomputable def Ng(f g h:CO D)(γ:Ctx):Option (List D):=((f γ).bind jo).bind λm=>((g γ).bind jo).bind λn=>((h γ).bind jo).map λo=>Hr m.2 n.2 o.2
@[simp] noncomputable def Lj:=@Ng.eq_1
noncomputable def nA(i:Nat)(g:CO (Sk×List D)):CO Fl:=λb=>(qI b[i]?).bind λd=>(g b).bind λa=>match a.1 with
 | .T=>if d.length+a.2.length<=lim then cI (.next<|b.set i<|.own<|d++a.2)else cR
 | .L=>cR
end DL
namespace L2
open PySem PySem.Spec PyProof.Rows
theorem dC(l b:di)(z:Array dq)(n:Nat)(I:Array dq)(n2:Nat)(o:i5)(Y : ¬(!z.isEmpty && Sf (z.size+I.size))=cL)(J:z.size<=eJ)(L:z.size+I.size<=eJ+1) :
 D2 (n9.«list.extend» ⟨[.ref l,.ref b],[]⟩) (λ_ R s=>s.heap.get? l=cI {cls:= .type "list",dict:=cR,data:= .seq z n,slots:=#[]}/\s.heap.get? b=cI o/\o.cls = .type "tuple"/\o.data = .seq I n2/\R (.ok (.ret Ph)) {s with heap:=s.heap.update l (RD λx=>x++I)}):=
 .of_wp λd w A R s h=>by
  obtain⟨O,a,g,i,h⟩:=h;have e:(z++I).size<=eJ+1:=by rw[Array.size_append];exact L
  refine Oc (m:=PySem.selfAndOne "list.extend" ⟨[.ref l,.ref b],[]⟩) (Oi ?_);show wpAny _ _ (Builtin.List.listExtendWith (.ref l) (.ref b) .none) _ _ s;unfold Builtin.List.listExtendWith;refine Oc (m:=typeOf (.ref b)) (TV ⟨o,a,g⟩ ?_);have f:(Builtin.List.listSameRef (.ref l) (.ref b) || Ss "tuple" == Ss "list" || Ss "tuple" == Ss "tuple")=cL:=by simp
  rw[DZ f];refine Oc (m:=Builtin.List.listItems<|.ref b) ?_;unfold Builtin.List.listItems;refine Oc (m:=TB<|.ref b)<|RO a i<|Oi ?_;refine Oc ?_;refine Oc (m:=TB<|.ref l)<|RO O rfl<|Oi ?_;rw[DJ Y];exact Oc (m:=updateSeq l λx=>x++I)<|wpAny_updateSeq O rfl (hz:=J) (_hz':=e)<|Oi ⟨_,rfl,h⟩
noncomputable def Ih(K:Ob):V->List V->Hp->VK->Prop:=λx e H Q=>∃l b a d,x = .ref l/\e=[.ref b]/\H l=cI (.lst a)/\fh K H b d/\a.length+d.length<=eJ/\Q .eg (upd H l<|.lst<|a++d)
theorem Ax{X:Cx}:L4 X "list.extend" (Ih X.K):=by
 intro f s M H x G v E Q I rx y h;obtain⟨l,b,J,L,rfl,rfl,d,j,C,q⟩:=h;cases rx;obtain⟨u,rfl,w⟩:=y.one;cases w;obtain⟨z,O,n,r,B,e⟩:=I.B8 d;obtain⟨Y,g,⟨o,p,k,t,m⟩,A⟩:=I.tuple j;have Nw:=r.length;have Nv:=g.length;have a:O.toArray.size+Y.toArray.size<=eJ:=by rw[Ov,Ov];omega
 have i : ¬(!O.toArray.isEmpty && Sf (O.toArray.size+Y.toArray.size))=cL:=by rw[aD a,Bool.and_false];exact Oy
 refine Tf F.slot_list_extend ⟨_,e,rfl⟩ F.entry_list_extend (F.args_list_extend_2 _ _) (dC l b O.toArray n Y.toArray t o i (by rw[Ov];omega) ⋯) ⟨e,p,k,m,?_⟩;exact⟨.eg,_,I.G9 (its':=O++Y) d e ⋯ (r.append g) (by rw[OX];omega),rfl,q⟩
end L2
namespace DL
open PySem PySem.Spec PyProof.Rows L2
section
variable{X:Cx}{sc:f9}{N L:List Str}{k:Nat}{a:dy}{g:CO (Sk×List D)}{pos:eo}
theorem nP(i:Nat){x:Str}{J cpos np:eo}(h:SX X sc N L k)(c:ZO sc N i x=cL)(ha:PQ X a g)(hs:ei [a] X.env=[(dd,d3 a X.env)]:=by rfl)
 (a1:vt (.Name x np) "extend" X.env (d3 (.Name x np) X.env)=d3 (.Name x np) X.env:=by rfl)
 (a2:((j1 cpos<|starEach [a] X.env).all (λx=> !x.1) && (y1 cpos<|keywordEach [] X.env).all (λx=>x.1.isSome)
   && decide ([a].length+([]:List o8).length+(if ([]:List o8).isEmpty then 0 else 1)<30))=cL:=by rfl)
 (a3:(J.endLine==cpos.line)=cL:=by rfl) (a4:p4 (.Call (.Attribute (.Name x np) "extend" J) [a] [] cpos) cR pos.line X.env=pure dd:=by rfl) :
 l3 X (.Expr (.Call (.Attribute (.Name x np) "extend" J) [a] [] cpos) pos) (nA i g):=
 qX (vC (VL RQ PySem.F.slot_list_extend PySem.F.type_list_extend Ax (h.var c) (zQ ha jF hs) a1 a2 a3 hs rfl) a4) λD K H y=>by
  obtain⟨E0,E,p,o,w,j,z,s⟩:=y;obtain⟨d,e,z⟩:=zb z;obtain⟨⟨B,f⟩,u,z⟩:=zb z;have e:=xA e;cases B with
  | L=>cases z
  | T=>
   have z:(if d.length+f.length<=lim then cI (Fl.next<|o.set i<|.own<|d++f)else cR)=cI w:=z;by_cases I:d.length+f.length<=lim
   ·rw[DZ I]at z;cases z
    obtain⟨l,xs,m,G,O,Y⟩:=j.rc.own i d e;refine⟨_,m,.inl ⟨rfl,_,e9.of O⟩,p,o,.T,f,j.rc,u,λb n C r x g1 g2 g3=>?_⟩;have A:xs.length+n.length<=eJ:=by
     rw[Y.length,g3.length];have:lim<=eJ:=by decide
     omega
    refine⟨l,b,xs,n,rfl,rfl,x.s1 _ _ O,g1,A,?_⟩;have t:=j.step x;exact s _ _ _<|t.rewrite (xs:=xs) e m<|(Y.mono x.s0).append g3
   ·rw[DJ I]at z;cases z
end
noncomputable def LZ(f g:CO D)(γ:Ctx):Option (List D):=((f γ).bind jo).bind λm=>((g γ).bind jo).bind λn=>if m.2.length<=lim then cI (K4 m.2 n.2)else cR
@[simp] noncomputable def Hd:=@LZ.eq_1
theorem YW:M5 (.type "list") "keys" = pure cR:=by rw[typeLookup_type,_S];kernel_rfl
theorem QK:entryFor table "list.__getattribute__" = cI n9.«object.__getattribute__» :=
 entryFor_alias (id':="object.__getattribute__") (by kernel_rfl) (by first | rfl | decide +kernel) ⋯ (by kernel_rfl)
section
variable{prog:gB}{w:fm}{A:i8}{E:EQ}{h:ew}{g:Array GenState}{d:Drawn}{t:Nat}{os:OsState}{a:di}{o:i5}
theorem JD(hx:h.get? a=cI ⟨.type "list",cR,.seq vs nk,sl⟩)(Y:A.handled=cR)
 (hE : ∀h' e t',(∀b u,h.get? b=cI u->h'.get? b=cI u)->(∃O,h'.get? e=cI O/\O.cls = .type "AttributeError")->E (.ref e) ⟨h',g,d,t',os⟩) :
 wpAny (d5 prog w) A (n9.«object.__getattribute__» ⟨[.ref a,.str "keys" tk],[]⟩) Q E ⟨h,g,d,t,os⟩:=by
 have o:(⟨h,g,d,t,os⟩:d8).TypeIs (.ref a) "list":=⟨_,hx,rfl⟩;have l:=YW
 repeat (any_goals (first | assumption | wp_step))
 unfold raiseAttrError;have i:((Px (toString "'" ++ toString ((Manifest.find? "list").elim "list" λx=>x.tpName)++toString "' object has no attribute '")++Px "keys" ++ Px "'"):Str).length<=eJ:=by decide +kernel
 generalize (Px (toString "'" ++ toString ((Manifest.find? "list").elim "list" λx=>x.tpName)++toString "' object has no attribute '")++Px "keys" ++ Px "'")=z at i ⊢;refine Oc (wpAny_mkStr (hx:=i) ?_);refine Oc ?_;unfold E7 ME;refine Oc (Pg ?_ (by size_fits));refine Oc (m:=DC _ _) (Uk (a:=Ph) (by first | rfl | (simp only[DC];rfl)) ?_);refine Pg ?_ (by size_fits);simp only[nr];have I:((h.push {cls:= .type "tuple",data:= .seq #[.str z t]}).push {cls:= .type "AttributeError",data:= .fields (#[.ref h.objs.size,.none,.none,.none,.bool dd,.none]++S8 (.type "AttributeError") [.str z t])}).get? (h.objs.size+1) =
  cI {cls:= .type "AttributeError",data:= .fields (#[.ref h.objs.size,.none,.none,.none,.bool dd,.none]++S8 (.type "AttributeError") [.str z t])}:=by heap_get
 have f : ∀b u,h.get? b=cI u->((h.push {cls:= .type "tuple",data:= .seq #[.str z t]}).push {cls:= .type "AttributeError",data:= .fields (#[.ref h.objs.size,.none,.none,.none,.bool dd,.none]++S8 (.type "AttributeError") [.str z t])}).get? b=cI u:=λb u e=>Of _ (Of _ e);have j:h.get? (h.objs.size+1)=cR:=Heap.get?_none_of_le (M8 _);generalize ((h.push {cls:= .type "tuple",data:= .seq #[.str z t]}).push {cls:= .type "AttributeError",data:= .fields (#[.ref h.objs.size,.none,.none,.none,.bool dd,.none]++S8 (.type "AttributeError") [.str z t])})=h2 at I f ⊢;refine Oc (wpAny_mkText ?_);unfold noteAttr lacksNameAndObj;have k:(⟨h2,g,d,t+1+1,os⟩:d8).TypeIs (.ref (h.objs.size+1)) "AttributeError":=⟨_,I,rfl⟩;have n:isSubtype (.type "AttributeError") (.type "AttributeError")=pure cL:=by rw[isSubtype_type];kernel_rfl
 repeat (any_goals (first | assumption | with_reducible refine wpAny_loadPart_at I ?_ | with_reducible refine wpAny_load I ?_ | wp_step))
 refine wpAny_raiseNew_none Y<|hE _ _ _ (λb u e=>?_) ⟨_,SK _ I<|TK<|Sm rfl _,Us ..⟩;rw[UC _ _ (λq=>by rw[<- q]at e;rw[j]at e;cases e)];exact f b u e
theorem QG(hx:h.get? a=cI ⟨.type "list",cR,.seq vs nk,sl⟩)(I:A.handled=cR)
 (O : ∀h' e t',(∀b u,h.get? b=cI u->h'.get? b=cI u)->(∃z,h'.get? e=cI z/\z.cls = .type "AttributeError")->R (.error (.ref e)) ⟨h',g,d,t',os⟩) :
 codeAny (d5 prog w) A (.call (.builtin "list.__getattribute__") ⟨[.ref a,.str "keys" tk],[]⟩) R ⟨h,g,d,t,os⟩:=
 codeAny_call_builtin Tw.plain QK (Tw.check _ _ _ _ _ _ _ _ (show(⟨h,g,d,t,os⟩:d8).TypeIs (.ref a) "list" from⟨_,hx,rfl⟩) (F.args_list_getattribute_2 _ _) (JD hx I O))
theorem dg:M5 (.type "list") "__getattr__" = pure cR:=by rw[typeLookup_type,_S];kernel_rfl
theorem gZ(hx:h.get? a=cI ⟨.type "list",cR,.seq vs nk,sl⟩)(I:A.handled=cR)
 (O : ∀h' t',(∀b u,h.get? b=cI u->h'.get? b=cI u)->Q cR ⟨h',g,d,t',os⟩):wpAny (d5 prog w) A (getAttr? (.ref a) "keys") Q E ⟨h,g,d,t,os⟩:=by
 have o:(⟨h,g,d,t+1,os⟩:d8).TypeIs (.ref a) "list":=⟨_,hx,rfl⟩;have f2:=Tw.lookup;have l:=Tw.bind (.ref a);have m:=dg;have n:isSubtype (.type "AttributeError") (.type "AttributeError")=pure cL:=by rw[isSubtype_type];kernel_rfl
 unfold getAttr? getAttrBy? getAttrBy
 repeat (any_goals (first | assumption | wp_step))
 refine QG (g:=g) (d:=d) (os:=os) hx I λh' e t' i z=>?_;obtain⟨Y,z,f⟩:=z;have j:(⟨h',g,d,t',os⟩:d8).TypeIs (.ref e) "AttributeError":=⟨Y,z,f⟩;have k:=O h' t' i;show wpAny _ _ (f? _ _ _ _ _ _ _) _ _ _;unfold f? hookOrError attributeErrorLeaves
 repeat (any_goals (first | assumption | wp_step))
end
noncomputable def ZQ:List D->Option (List D×List D)
 | []=>cI ([],[])
 | d::r=>match d with
  | .tup a=>match a with
   | [k,v]=>(ZQ r).map λp=>(k::p.1,v::p.2)
   | _=>cR
  | _=>cR
noncomputable def Mc(f:CO (List D))(γ:Ctx):Option D:=(f γ).bind λa=>(ZQ a).bind λp=>IY p.1 p.2
@[simp] noncomputable def Hh:=@Mc.eq_1
noncomputable def Cu(I J:CO D):CO D:=λa=>(I a).bind λd=>(J a).bind λk=>match d with
 | .lp b e=>(js k).bind λi=>aV b e i
 | _=>cR
noncomputable def BH(J I:CO D):CO D:=λa=>(J a).bind λk=>(I a).bind λd=>match d with
 | .lp b e=>(js k).map λi=> .bl (aV b e i).isSome
 | _=>cR
section
variable{X:Cx}{sc:f9}{N L:List Str}{k:Nat}{a o i:dy}{f:CO (List D)}{fd fk:CO D}{p pos:eo}
theorem CT(h:SX X sc N L k)(ho:PV X o fd)(J:PV X i fk)(hs:Ho i:=by intro _ _;rfl):PV X (.Subscript o i pos) (Cu fd fk):=
 j6 (Ad (by have:=h.Dm;omega) ho J hs) λS H Q C=>by
  obtain⟨g,f,d,rc,z,q⟩:=C;obtain⟨s,t,z⟩:=zb z;obtain⟨P,u,z⟩:=zb z;cases s with
  | lp F G=>
   obtain⟨j,w,A⟩:=zb z;refine⟨g,f,_,rc,t,λv M I x r=>⟨I,f,_,rc.ext x,u,λy l m O e=>?_⟩⟩;obtain⟨ad,b,rfl,⟨R,g1,g2,g3⟩,B⟩:=(show ∃a b,v = .ref a/\Du I a F b/\dt X.K I G b from r);rw[jA w]at e;have E:y = .int j:=e;obtain⟨Y,n,p⟩:=(Kz (i:=j) g1 g2<|B.mono O.s0).1 d A;refine⟨ad,Y,rfl,?_,q Y l m (x.trans O) p⟩;rw[E,<- n];exact .inl ⟨_,Ru j,.inl<|O.s1 _ _<|x.sub _ _ g3,rfl,rfl⟩
  | _=>cases z
theorem uK(h:SX X sc N L k)(hi:PV X i fk)(ho:PV X o fd)(hm:t7 .In o=dd:=by with_unfolding_all rfl):k0 X (.Compare i [.In] [o] pos) (sB<|BH fk fd):=
 Yx (Eb (Eo (by have:=h.Dm;omega) hi ho) hm) λσ H Q P=>by
  obtain⟨n,m,b,rc,z,q⟩:=P;obtain⟨U,B,J⟩:=zb z;obtain⟨W,C,z⟩:=zb B;obtain⟨w,E,z⟩:=zb z;cases w with
  | lp g l=>
   obtain⟨j,F,G⟩:=zv z;subst G;cases J;refine⟨n,m,_,rc,C,λy S p x Y=>⟨p,m,_,rc.ext x,E,λv e I O r=>?_⟩⟩;obtain⟨ad,d,rfl,⟨Z,g1,g2,g3⟩,M⟩:=(show ∃a d,v = .ref a/\Du I a g d/\dt X.K I l d from r);rw[jA F]at Y;have f:y = .int j:=Y;obtain⟨s,t⟩:=Kz (i:=j) g1 g2 M;cases hv:aV g l j with
   | none=>
    refine⟨ad,cR,rfl,?_,_,rfl,?_⟩
    ·rw[f,<- t hv]
     exact .inl ⟨_,Ru j,.inl<|O.sub _ _ g3,rfl,rfl⟩
    ·rw[hv]at q;exact q e I<|x.trans O
   | some A=>
    obtain⟨R,u,T⟩:=s A hv;refine⟨ad,cI R,rfl,?_,_,rfl,?_⟩
    ·rw[f,<- u]
     exact .inl ⟨_,Ru j,.inl<|O.sub _ _ g3,rfl,rfl⟩
    ·rw[hv]at q;exact q e I<|x.trans O
  | _=>cases z
end
noncomputable def AG:D->Option (List Int)
 | .tup a=>wc a
 | _=>cR
noncomputable def ig:List D->Option (List<|List Int)
 | []=>cI []
 | d::ds=>(AG d).bind λk=>(ig ds).map λr=>k::r
noncomputable def fJ(f:CO (List D))(γ:Ctx):Option D:=(f γ).bind λb=>(ZQ b).bind λp=>(ig p.1).bind λa=>if a.Nodup/\a.length<=lim then cI (.hM a p.2)else cR
noncomputable def dX:List (List Int)->List D->List Int->Option D
 | k::ks,v::vs,i=>if k=i then cI v else dX ks vs i
 | _,_,_=>cR
noncomputable def X7(I J:CO D)(γ:Ctx):Option D:=(I γ).bind λd=>(J γ).bind λk=>match d with
 | .hM a b=>(AG k).bind λi=>dX a b i
 | _=>cR
noncomputable def AQ(d k x:D):Option D:=match d with
 | .hM a b=>(AG k).map λi=>(dX a b i).getD x
 | _=>cR
noncomputable def nz(I J fx:CO D)(γ:Ctx):Option D:=(I γ).bind λd=>(J γ).bind λk=>(fx γ).bind λx=>AQ d k x
noncomputable def fG(f:CO D)(γ:Ctx):Option (List D):=(f γ).bind λd=>match d with
 | .hM a _=>cI (a.map λk=> .tup (k.map .int))
 | _=>cR
section
variable(γ:Ctx)
@[simp] noncomputable def Hg:=@fJ.eq_1
@[simp] noncomputable def LG:=@X7.eq_1
@[simp] noncomputable def LA:=@nz.eq_1
@[simp] noncomputable def Ly:=@fG.eq_1
end
theorem Xu : ∀{k:List Int} {us:List dq},ej (k.map V.int) us->PySem.ItemsAre (J' P w) k us
 | [],us,h=>by cases h;exact .nil
 | i::k,us,h=>by
  cases h with
  | cons a b=>
   obtain⟨t,rfl⟩:=a;exact .cons (by show Value.isInt i (.int i t)=cL;simp[Value.isInt])<|Xu b
section
variable{X:Cx}{pins:TW}{σ:St}{H:Hp}{s:d8}
theorem Kt(I:Inv X pins σ H s)(h:fh X.K H b (k.map V.int)):(DT<|intKind X.prog X.w).is s.heap k b:=by obtain⟨z,O,⟨o,Y,a,n,d⟩,_⟩:=I.tuple h;exact⟨o,z.toArray,n,Y,a,d,Xu O⟩
theorem JO(I:Inv X pins σ H s)(e:H a=cI (m7 a o))(d:BQ o xs)(hk : ∀x∈xs,fh X.K H x.2.1<|x.1.map V.int):s.heap.DictOfH (DT<|intKind X.prog X.w) a xs:=by obtain⟨z,_⟩:=(show ij X.prog X.w H s.heap a (m7 a o)from I.eG a _ e);obtain⟨O,h,g,Y,b,f⟩:=d;exact⟨o,h,g,z,O,Y,b,λx i=>Kt I<|hk x i,f⟩
theorem EG{h:ew}{P:gB}{w:fm}{a:di}{xs:List (List Int×di×dq)}(d:h.DictOfH (DT<|intKind P w) a xs) : ∃o,h.get? a=cI o/\BQ o xs:=by obtain⟨o,e,b,f,g,z,I,_,O⟩:=d;exact⟨o,f,g,e,b,z,I,O⟩
end
theorem sQ(e:h.get? a=cI o):ij P w H h a (m7 a o):=⟨e,⟨o,e⟩,λb d p q=>q o p⟩
theorem rA{K:Type} [DecidableEq K]{k:K} : ∀{xs:List (K×di×dq)},k∉xs.map (·.1)->qq xs k=cR
 | xs,h=>by unfold qq;rw[Option.map_eq_none_iff,_n];intro x a z;exact h<|RK.mpr ⟨x,a,by simpa using z⟩
section
variable{X:Cx}{pins:TW}{σ:St}{A:i8}{R:Result->d8->Prop}{H0:Hp}{l it d:di}{ks:List (List Int)}{ys xs:List V}
theorem dE(hh:A.handled=cR)(hu:A.units+8<rd)(hx:xs.length=ks.length)(hy:ys.length=ks.length)(nd:ks.Nodup)(hz:ks.length<=eJ)
 (hp : ∀(n:Nat) (h1:n<xs.length) (h2:n<ks.length) (h3:n<ys.length),∃p b,xs[n] = .ref p/\fh X.K H0 p [.ref b,ys[n]]/\fh X.K H0 b (ks[n].map V.int)) (be:H0 d=cR) (bg:l≠d) : ∀(m n:Nat) (s:d8) (H:Hp) (o:i5) (J:List (List Int×di×dq)) (i:Int) (t:p7),n+m=ks.length->
 Inv X pins σ H s->et H0 H->H l=cI (.lst xs)->s.heap.IsListIter it l n->bN X pins H it->H d=cI (m7 d o)->BQ o J->J.map (·.1)=ks.take n->(∀x∈J,fh X.K H0 x.2.1<|x.1.map V.int)->ej (ys.take n) (J.map (·.2.2))->
 (∀s' L a0,BQ L a0->a0.map (·.1)=ks->(∀x∈a0,fh X.K H0 x.2.1<|x.1.map V.int)->ej ys (a0.map (·.2.2))->Inv X pins σ (upd H d<|m7 d L) s'->R (.ok<|.ret .none) s')->
 codeAny (d5 X.prog X.w) A (.builtin "dict.update.loop" ⟨[.ref d,.ref it,.int i t,.none],[]⟩) R s:=by
 intro m
 induction m with
 | zero=>
  intro n s H o J i t hn I sub r st O f G Y h k E;obtain⟨z1,y,c,rv,ll,C⟩:=I.B8 r;refine codeAny_builtin yU ?_;unfold n9.«dict.update.loop»;have F:s.heap.IsList l y.toArray:=⟨_,C,rfl,_,rfl⟩;refine Oc<|wpAny_pyNext_list_end (s:=s) hh st F (by simp;omega) λh' eb=>?_;refine Oc<|Oi ?_;have e0:upd H d (m7 d o)=H:=by
   funext c;by_cases q:c=d
   ·rw[q,zB,f]
   ·rw[zH q]
  have I':Inv X pins σ H {s with heap:=h'}:=I.FR (t':=s.toks) (fp:=[it]) (λb o a e=>eb b o (by simpa using a) e) (λb a=>by rw[Rp.mp a];exact O);have:=E {s with heap:=h'} o J G (by rw[Y,Rr ⋯]) h (by rw[Rr ⋯]at k;exact k);rw[e0]at this;exact Oi<|this I'
 | succ m ih=>
  intro n s H o J i t hn I sub r st O f G Y h k E;obtain⟨z1,y,c,rv,ll,C⟩:=I.B8 r;have F:s.heap.IsList l y.toArray:=⟨_,C,rfl,_,rfl⟩;have B:n<ks.length:=by omega
  obtain⟨p,b,ep,bx,Q⟩:=hp n ⋯ B ⋯;obtain⟨u,c0,Z⟩:=rv.get (Oe<|show n<xs.length by omega);rw[ep]at Z;have eu:u = .ref p:=Z;subst eu;refine codeAny_builtin yU ?_;unfold n9.«dict.update.loop»;refine Oc<|wpAny_pyNext_list_item (s:=s) st F (x:= .ref p) (by simpa using c0) λh' c2 sb=>?_;have g:=I.FR (h':=h') (t':=s.toks) (fp:=[it]) (λb o a e=>(sb.2 b<|by simpa using a).trans e) (λb a=>by rw[Rp.mp a];exact O);obtain⟨ts,rt,⟨zbm,U,co,nn,c5⟩,zbx⟩:=g.tuple<|ix sub bx;obtain⟨u1,N,rfl,c6,M⟩ : ∃u1 N,ts=u1::N/\RelV (.ref b) u1/\ej [ys[n]] N:=by
   cases rt with
   | cons q1 M=>exact⟨_,_,rfl,q1,M⟩
  obtain⟨u2,rfl,ca⟩:=yE M;have cb:u1 = .ref b:=c6;subst cb;have cd:({s with heap:=h'}:d8).TypeIs (.ref p) "tuple":=⟨_,U,co⟩;refine Oc (Sb (Oc (wpAny_tryCatch ?_)));unfold Builtin.Dict.pairItems;refine Oc (TV cd ?_);rw[DZ ⋯];refine Oc (RO U c5 (Oi ?_));show wpAny _ _ (u6 [.ref b,u2] (dictSet d (.ref b) u2)) _ _ _;have dH:=JO g f G λx hx=>ix sub (h x hx);have cf:=Kt g (ix sub Q);have d6:J.length=n:=by have:=congrArg SI Y;rw[OC,Si]at this;omega
  have ch:ks[n]∉J.map (·.1):=by rw[Y];intro z;obtain⟨j,hj,e⟩:=List.getElem_of_mem z;rw[List.getElem_take]at e;rw[Si]at hj;exact List.pairwise_iff_getElem.mp nd j n ⋯ B ⋯ e
  refine Sb (wpAny_dictSet_heap (hsz:=by omega) (show(A.under _).units<rd from by rw[show(A.under (Code.builtin "dict.update.loop" _)).units=A.units+1 from rfl];omega) cf dH λcl as W=>?_);rw[storedH_new (rA ch)]at as;obtain⟨L,S,cm⟩:=EG as;have I2:=g.write (x:=d) (e:=d) (o:=m7 d L) (t':=s.toks+(DT (J' X.prog X.w)).draws ks[n]) (h':=cl) (by rw[f];exact PJ) (.inl rfl) (λb q a z=>(W.2 b a).trans z) ⟨_,S⟩ (sQ S);have T:it≠d:=λq=>by have:=O.1;rw[q,f]at this;cases this
  have tk:ks.take (n+1)=ks.take n++[ks[n]]:=by rw[List.take_succ,Oe B];rfl
  have ty:ys.take (n+1)=ys.take n++[ys[n]]:=by rw[List.take_succ,Oe ⋯];rfl
  refine Oi ⟨yL _,ih (n+1) _ _ L _ (i+1) 0 ⋯ I2 (λc o e=>?_) (by rw[zH bg];exact r) (c2.at λo q=>(W.2 it T).trans q) ⟨by rw[zH T];exact O.1,O.2⟩ zB cm ?_ ?_ ?_ λs' o3 cs a1 a2 a3 a4 P=>E s' o3 cs a1 a2 a3 a4 ?_⟩
  ·rw[zH (λq=>by rw[q,be]at e;cases e)];exact sub _ _ e
  ·rw[PB,Y,tk];rfl
  ·intro x hx
   rcases Tu.mp hx with z | z
   ·exact h x z
   ·rw[Rp.mp z];exact Q
  ·rw[PB,ty]
   exact k.append<|.cons ca .nil
  ·rw[ZP]at P;exact P
theorem dJ(I:Inv X pins σ H s)(hh:X.A.handled=cR)(hu:X.A.units+64<rd)(sub:et H0 H)(z:H l=cI (.lst xs))(hx:xs.length=ks.length)(hy:ys.length=ks.length)(nd:ks.Nodup)
 (hp : ∀(n:Nat) (h1:n<xs.length) (h2:n<ks.length) (h3:n<ys.length),∃p b,xs[n] = .ref p/\fh X.K H0 p [.ref b,ys[n]]/\fh X.K H0 b (ks[n].map V.int)) (hz:ks.length<=eJ)
 (hQ : ∀L p o J,H p=cR->(p==tr)=dd->BQ o J->J.map (·.1)=ks->(∀x∈J,fh X.K H0 x.2.1 (x.1.map V.int))->ej ys (J.map (·.2.2))->Inv X pins σ (upd H p (m7 p o)) L->Q (.ref p) L):wpAny (d5 X.prog X.w) X.A (call (.type "dict") [.ref l]) Q X.xe s:=by
 have O:H s.heap.objs.size=cR:=I.fresh;have M:H0 s.heap.objs.size=cR:=jk sub O;have j:l≠s.heap.objs.size:=λq=>by rw[q,O]at z;cases z
 have N:(s.heap.objs.size==tr)=dd:=beq_eq_false_iff_ne.mpr (RM I.big);refine callType_codes (Q₁:=λobj f=>obj = .ref s.heap.objs.size/\f = {s with heap:=s.heap.push {cls:= .type "dict",data:= .dict #[]}}) F.kt_called_dict (F.kt_typeCall_dict_1 _) F.entry_dict_init (kt_code_dict_new _ ⟨rfl,rfl⟩) ?_;rintro obj f ⟨rfl,rfl⟩;have u:=I.laid (a:=s.heap.objs.size) (o:=m7 s.heap.objs.size {cls:= .type "dict",data:= .dict #[]}) (t':=s.toks) (λ_ _ q=>Of {cls:= .type "dict",data:= .dict #[]} q) (Ou _) (sQ (Oz _ rfl));have m:({s with heap:=s.heap.push {cls:= .type "dict",data:= .dict #[]}}:d8).TypeIs (.ref s.heap.objs.size) "dict":=⟨_,Oz _ rfl,rfl⟩;obtain⟨z1,r,c,Z,W,R⟩:=I.B8 z;have Y:(s.heap.push {cls:= .type "dict",data:= .dict #[]}).get? l=cI {cls:= .type "list",data:= .seq r.toArray c}:=Of _ R;refine⟨m,F.args_dict_init_2 _ _,?_⟩;unfold n9.«dict.__init__»;refine Oc ?_;unfold Builtin.Dict.selfAndRest;refine Oc (UT m ?_);show wpAny _ _ (pure (s.heap.objs.size,[OR l])) _ _ _;refine Oi ?_;show wpAny _ _ (Builtin.Dict.updateFrom "dict.__init__" s.heap.objs.size (.ref l) [] .none) _ _ _;unfold Builtin.Dict.updateFrom;refine Oc (TV (T:="list") ⟨_,Y,rfl⟩ ?_);rw[DZ ⋯];refine Oc (gZ (g:=s.gens) (d:=s.drawn) (t:=s.toks) (os:=s.os) Y (show X.A.in1.in1.handled=cR from hh) λh' t' k=>?_);have h:Inv X pins σ (upd H s.heap.objs.size (m7 s.heap.objs.size {cls:= .type "dict",data:= .dict #[]})) {s with heap:=h',toks:=t'}:=u.kept k;have P:=k _ _ Y;simp only[Option.isNone_none,if_true];refine Oc (UD (Oc (_i (items:=r.toArray) ⟨_,P,rfl,_,rfl⟩ ?_)));refine Oi ⟨yL _,?_⟩;have y:=h.kept (h':=h'.push {cls:= .type "list_iterator",data:= .fields #[.ref l,.int 0 0]}) (t':=t') λb o e=>Of _ e;have S:=h.Df (b:=h'.objs.size) (H':=upd H s.heap.objs.size (m7 s.heap.objs.size {cls:= .type "dict",data:= .dict #[]})) (Ou _) h.fresh;refine dE (H0:=H0) (l:=l) (it:=h'.objs.size) (ks:=ks) (ys:=ys) (xs:=xs) (show X.A.in1.handled=cR from hh) (by show X.A.in1.units+8<rd;rw[units_in1];omega) hx hy nd hz hp M j ks.length 0 _ (upd H s.heap.objs.size (m7 s.heap.objs.size {cls:= .type "dict",data:= .dict #[]})) {cls:= .type "dict",data:= .dict #[]} [] 0 0 (C9 _) y (sub.trans (zX O _)) (by rw[zH j];exact z) ⟨_,Oz _ rfl,rfl,rfl⟩ S zB ⟨⟨rfl,rfl,rfl⟩,#[],0,rfl,rfl,List.nodup_nil⟩ rfl (λx hx=>nomatch hx) .nil λL U as B C E G i=>?_;rw[ZP]at i;exact⟨rfl,hQ L _ U as O N B C E G i⟩
end
theorem Ku{K:Ob}{H:Hp}{d:D}{k:List Int}{v:V}(e:AG d=cI k)(r:Rep K H d v) : ∃b,v = .ref b/\fh K H b (k.map V.int):=by
 cases d with
 | tup a=>
  obtain⟨b,f,rfl,z,I⟩:=yb r;have:=wX e I;refine⟨b,rfl,?_⟩;rw[this]at z;simpa[kV,Pw,SE]using z
 | _=>cases e
theorem QV{K:Ob}{H:Hp} : ∀{ps ks vs:List D} {xs:List V} {ns:List (List Int)},ZQ ps=cI (ks,vs)->dt K H ps xs->ig ks=cI ns->
 ∃ys,dt K H vs ys/\ys.length=ns.length/\xs.length=ns.length/\∀(n:Nat) (J:n<xs.length) (L:n<ns.length) (z:n<ys.length),∃p b,xs[n] = .ref p/\fh K H p [.ref b,ys[n]]/\fh K H b (ns[n].map V.int)
 | [],ks,vs,xs,ns,h,r,hi=>by cases h;cases hi;rw[r.ow];exact⟨[],dt.nil,rfl,rfl,λn J=>by cases J⟩
 | d::ps,ks,vs,xs,ns,h,r,hi=>by
  unfold ZQ at h;split at h
  ·split at h
   ·rename_i k v
    obtain⟨⟨a,b⟩,f,g⟩:=zv h;cases g;obtain⟨x,F,rfl,J,L⟩:=r.l6;obtain⟨j,I,O⟩:=zb hi;obtain⟨E,Y,i⟩:=zv O;subst i;obtain⟨ys,u,w,y,A⟩:=QV f L Y;obtain⟨q,N,rfl,z,l⟩:=yb J;obtain⟨G,M,rfl,m,o⟩:=l.l6;obtain⟨C,as,rfl,s,t⟩:=o.l6;obtain⟨B,rfl,e⟩:=Ku I m;rw[t.ow]at z;refine⟨C::ys,dt.cons s u,by simp[w],by simp[y],λn g1 g2 g3=>?_⟩;cases n with
    | zero=>exact⟨q,B,rfl,z,e⟩
    | succ n=>exact A n (by simpa using g1) (by simpa using g2) (by simpa using g3)
   ·cases h
  ·cases h
section
variable{X:Cx}{sc:f9}{N L:List Str}{k:Nat}{a o i:dy}{f:CO (List D)}{fd fk:CO D}{p pos:eo}
theorem aj(h:SX X sc N L k)(cd:yT sc "dict" = cL)(zd:X.mg "dict" = cR)(ha:PO X a f)(J:ei [a] X.env=[(dd,d3 a X.env)]:=by rfl) :
 PV X (.Call (.Name "dict" p) [a] [] pos) (fJ f):=by
 intro b s σ H Q I i;obtain⟨H0,γ,d,rc,O,q⟩:=i;obtain⟨r,E,O⟩:=zb O;obtain⟨⟨ds,M⟩,F,O⟩:=zb O;obtain⟨ks,G,O⟩:=zb O;have P:X.A.handled=cR:=I.ok.hd h.calm;by_cases j:ks.Nodup/\ks.length<=lim
 ·rw[DZ j]at O
  cases O;refine D1<|kA I (h.gl cd).1 zd PyProof.Rows.boot_dict (Pk ?_ (by rw[J];rfl) rfl);rw[J];show wpAny _ _ (FL ((dd,d3 a X.env)::[])) _ _ s;refine RN<|ed (ha b s σ H (λv e=>∃l xs z,v = .ref l/\Ext H0 H z e/\z l=cR/\e l=cI (.lst xs)/\dt X.K z r xs) I ⟨H0,γ,r,rc,E,λl xs e z x1 g1 g2 g3 g=>⟨l,xs,z,rfl,x1,g2,g3,g⟩⟩) λv s1 i=>?_;obtain⟨y,e,t,Z,l,xs,z,rfl,x1,g2,g3,g⟩:=i;cases Z;refine SQ ?_;obtain⟨ys,S,T,U,W⟩:=QV F g G;have:lim<=eJ:=by decide
  refine dJ (H0:=z) (ks:=ks) (ys:=ys) (xs:=xs) t P h.Dm x1.sub g3 U T j.1 W ⋯ λs' p o zs Y C w m a3 B u=>?_;have n:et z (upd z p<|m7 p o):=zX (jk x1.sub Y) _;exact⟨.ref p,_,u,rfl,q (.ref p) _ _ ((x1.trans<|Ext.hide x1.sub Y _).show (yS x1.s1 Y) (jk x1.sub Y) zB rc.sub)
   (show ∃a xs,V.ref p = .ref a/\A3 X.K (upd z p _) a ks xs/\dt X.K (upd z p _) M xs from⟨p,ys,rfl,⟨C,o,zs,zB,w,m,by have:=congrArg SI m;rw[OC]at this;omega,λx R=>ix n<|a3 x R,B⟩,S.mono n⟩)⟩
 ·rw[DJ j]at O;cases O
end
theorem Wa{K:Ob}{H:Hp}{i:List Int} : ∀{xs:List (List Int×di×dq)} {vs:List D} {ys:List V},dt K H vs ys->ej ys (xs.map (·.2.2))->
 (∀d,dX (xs.map (·.1)) vs i=cI d->∃y p,qq xs i=cI p/\Rep K H d y/\RelV y p.2)/\(dX (xs.map (·.1)) vs i=cR->qq xs i=cR)
 | [],vs,ys,r,v=>⟨(λd q=>by cases q),λ_=>rfl⟩
 | x::xs,vs,ys,r,v=>by
  cases v with
  | cons z I=>
   cases vs with
   | nil=>have:=r.ow;cases this
   | cons d vs=>
    obtain⟨y,Y,e,g,h⟩:=r.l6;cases e;have O:=Wa (i:=i) h I;by_cases a:x.1=i
    ·have b:qq (x::xs) i=cI x.2:=by unfold qq;rw[List.find?_cons_of_pos (by simpa using a)];rfl
     have f:dX ((x::xs).map (·.1)) (d::vs) i=cI d:=by show(if x.1=i then _ else _)=_;rw[DZ a]
     rw[b,f];exact⟨λj q=>by cases q;exact⟨_,x.2,rfl,g,z⟩,λq=>by cases q⟩
    ·have b:qq (x::xs) i=qq xs i:=by unfold qq;rw[List.find?_cons_of_neg (by simpa using a)]
     have f:dX ((x::xs).map (·.1)) (d::vs) i=dX (xs.map (·.1)) vs i:=by show(if x.1=i then _ else _)=_;rw[DJ a]
     rw[b,f];exact O
section
variable{X:Cx}{sc:f9}{N L:List Str}{k:Nat}{a b o i:dy}{fd fk fx:CO D}{p pos apos cpos:eo}
theorem fV(h:SX X sc N L k)(ho:PV X o fd)(hi:PV X i fk)(hs:Ho i:=by intro _ _;rfl):PV X (.Subscript o i pos) (X7 fd fk):=by
 intro e s J H Q I l;obtain⟨t,G,d,rc,O,q⟩:=l;obtain⟨U,W,O⟩:=zb O;obtain⟨k1,Z,O⟩:=zb O;cases U with
 | hM B C=>
  obtain⟨j,e3,e4⟩:=zb O;refine fg PySem.F.slot_dict_getitem.lookup hs<|ed (ho e s J H (λv g=>∃z,Ext t H z g/\Rep X.K z (.hM B C) v) I ⟨t,G,_,rc,W,λv g z x r=>⟨z,x,r⟩⟩) λu s1 l=>?_;obtain⟨v,g,M,r1,z,x1,rp⟩:=l;refine ed (hi e s1 J g (λv f=>∃Y,Ext z g Y f/\Rep X.K Y k1 v) M ⟨z,G,_,rc.ext x1,Z,λv f Y x r=>⟨Y,x,r⟩⟩) λu2 s2 l=>?_;obtain⟨v2,f,n,r2,Y,m,P⟩:=l;obtain⟨ad,ys,rfl,⟨g0,ob,zs,g1,g2,g3,g4,g5,g6⟩,g7⟩:=(show ∃a E,v = .ref a/\A3 X.K z a B E/\dt X.K z C E from rp);subst g3;cases (show u=OR ad from r1);obtain⟨b,rfl,hb⟩:=Ku e3 P;cases (show u2=OR b from r2);have w:et z f:=m.s0.trans m.sub;have A:=JO n (w _ _ g1) g2 λx hx=>ix w<|g5 x hx;obtain⟨y,p,R,S,T⟩:=(Wa (g7.mono m.s0) g6).1 d e4;exact⟨A.typeIs,O? (Uv (by have:=h.Dm;omega)) (Kt n<|ix m.sub hb) A R ⟨y,f,n.tok _,T,q y f Y (x1.trans m) S⟩⟩
 | _=>cases O
theorem VI(h:SX X sc N L k)(ho:PV X o fd)(ha:PV X a fk)(hb:PV X b fx)(m:M2 X o "get" apos a b cpos:=by exact⟨by rfl,by rfl,by rfl,by rfl⟩):PV X (.Call (.Attribute o "get" apos) [a,b] [] cpos) (nz fd fk fx):=by
 intro e s J H Q I l;obtain⟨M,G,d,rc,O,q⟩:=l;obtain⟨d1,e1,O⟩:=zb O;obtain⟨k1,e2,O⟩:=zb O;obtain⟨w1,e5,O⟩:=zb O;cases d1 with
 | hM W E=>
  obtain⟨j,e3,e4⟩:=zv O;subst e4;refine wpAny_Call_method m.base m.d? m.line PySem.F.plainAttrs_dict PySem.F.slot_dict_get PySem.F.type_dict_get<|ed (ho e s J H (λv n=>∃z,Ext M H z n/\Rep X.K z (.hM W E) v) I ⟨M,G,_,rc,e1,λv n z x r=>⟨z,x,r⟩⟩) λu s1 l=>?_;obtain⟨v,n,P,r1,z,x1,rp⟩:=l;obtain⟨ad,ys,rfl,⟨g0,ob,zs,g1,g2,g3,g4,g5,g6⟩,g7⟩:=(show ∃a xs,v = .ref a/\A3 X.K z a W xs/\dt X.K z E xs from rp);subst g3;cases (show u=OR ad from r1);have R:=JO P (x1.sub _ _ g1) g2 λx C=>ix x1.sub<|g5 x C;refine⟨R.typeIs,dictOfH_noDict R,?_⟩;rw[m.trees];refine UB rfl<|Calls.evalArgs_plain<|RN<|ed (ha e s1 J n (λv t=>∃f,Ext z n f t/\Rep X.K f k1 v) P ⟨z,G,_,rc.ext x1,e2,λv t f x r=>⟨f,x,r⟩⟩) λu2 s2 l=>?_;obtain⟨v2,t,I2,r2,f,x2,be⟩:=l;refine RN<|ed (hb e s2 J t (λv Y=>∃g,Ext f t g Y/\Rep X.K g w1 v) I2 ⟨f,G,_,(rc.ext x1).ext x2,e5,λv Y g x r=>⟨g,x,r⟩⟩) λu3 s3 l=>SQ ?_;obtain⟨Z,Y,B,r3,g,x3,bi⟩:=l;obtain⟨U,rfl,bl⟩:=Ku e3 be;cases (show u2=OR U from r2);have A:=x2.trans x3;have S:et z Y:=A.s0.trans A.sub;have T:=JO B (S _ _ g1) g2 λx C=>ix S<|g5 x C;refine call_meetsIn PySem.F.slot_dict_get T.typeIs PySem.F.entry_dict_get (PySem.F.args_dict_get_3 _ _ _) (meetsH_dict_get_default (DT<|intKind X.prog X.w) ad U g0 u3) ⟨Uv (by have:=h.Dm;omega),j,zs,Kt B<|ix (x3.s0.trans x3.sub) bl,T,?_⟩;obtain⟨c1,c2⟩:=Wa (i:=j) (g7.mono A.s0) g6;cases hv:dX (zs.map (·.1)) E j with
  | none=>
   rw[hv]at q;rw[c2 hv];exact⟨Z,Y,B.tok _,r3,q Z Y g (x1.trans A) bi⟩
  | some dv=>
   rw[hv]at q;obtain⟨y,p,f1,f2,f3⟩:=c1 dv hv;rw[f1];exact⟨y,Y,B.tok _,f3,q y Y g (x1.trans A) f2⟩
 | _=>cases O
end
section
variable{prog:gB}{w:fm}{A:i8}{E:EQ}{s:d8}{d it:di}{o:i5}{es:Array L1}{i n ep:Nat}
theorem iz{Q:EQ}(J:(d==tr)=dd)(z:s.heap.get? d=cI o)(hx:o.ExactDict)(O:o.data = .dict es ep)(L:es.size=n)
 (Y:Q (.ref s.heap.objs.size) {s with heap:=s.heap.push {cls:= .type "dict_keyiterator",data:= .fields #[.ref d,.int 0 0,.int n 0,.int ep 0]}}):wpAny (d5 prog w) A (E9 (.ref d)) Q E s:=by
 have I:s.TypeIs (.ref d) "dict":=⟨o,z,hx.1⟩;refine _h I F.slot_dict_iter (p5 F.slot_dict_iter I F.entry_dict_iter ?_ (F.args_dict_iter_1 _));unfold n9.«dict.__iter__»;refine Oc ?_;unfold Builtin.Dict.dictSlotNone;refine Oc (UT I ?_);show wpAny _ _ (pure (OR d)) _ _ s;refine Oi ?_;show wpAny _ _ (Sz d >>= _) _ _ s;unfold Sz;rw[DJ (by rw[J];exact Oy)];refine Oc (Oi ?_);refine Oc (Td z O ?_);refine Oc (TC z O ?_);refine Oc (Pg (Oi ⟨_,rfl,"dict_keyiterator",_,⟨_,Oz _ rfl,rfl⟩,RY.lookup,?_⟩));simpa[o5,L]using Y
theorem oG{Q:Option dq->d8->Prop}(z:s.heap.IsKeyIter it d i n ep)(O:s.heap.get? d=cI o)(Y:o.data = .dict es ep)(hsz:es.size=n)(J:i<es.size)
 (hQ : ∀h',h'.IsKeyIter it d (i+1) n ep->RE it s.heap h'->Q (cI es[i].key) {s with heap:=h'}):wpAny (d5 prog w) A (rr<|.ref it) Q E s:=by
 obtain⟨o,I,f,a⟩:=id z;unfold rr;refine Oc (Te (Po (name:=Px "__next__") z.typeIs RY
  (p5 RY z.typeIs X? ?_ (W? _))))
 refine Oc (Oi ?_);refine Oc ?_;refine Oc ?_;refine Oc (SG z.typeIs (Oi ?_));refine Oc (f' I a ?_);have e:RH "dict_keyiterator" = dd:=by decide
 simp only[e,Pa,if_false];show wpAny _ _ (if (OR d==Ph)=cL then _ else _) _ _ s;rw[DJ (show ¬((OR d==Ph)=cL)from Oy)];refine Oc<|Oi ?_;refine Oc<|Td O Y ?_;rw[DJ (by rw[hsz];simp)];refine Oc<|Oi ?_;refine Oc<|TC O Y ?_;rw[DJ ⋯];refine Oi ?_;simp only[show ¬((i:Int)<0)from by omega,if_false,Pq,Tb J];refine Oc ?_;refine Oc<|SG z.typeIs<|Oi ?_;refine Oc<|wpAny_isOneOf_keyiter z.typeIs ?_;show wpAny _ _ (FI (.ref it) 1 (o5<|(i:Int)+1) >>= _) _ _ s;refine Oc<|TQ I a ⋯ ?_;have b:(s.heap.update it<|Uy (·.setIfInBounds 1 (o5<|(i:Int)+1))).IsKeyIter it d (i+1) n ep:=
  ⟨_,SK _ I<|TK<|Sm a _,(Us ..).trans f,by rw[Sm a];simp[o5]⟩
 refine Oc<|Sb ?_;refine Oc<|wpAny_isOneOf_keyiter (s:={s with heap:=s.heap.update it (Uy (·.setIfInBounds 1 (o5<|(i:Int)+1)))}) b.typeIs ?_;show wpAny _ _ (pure es[i].key) _ _ _;exact Oi<|Oi ⟨_,rfl,Oi<|hQ _ b<|So ..⟩
theorem YR{Q:Option dq->d8->Prop}(hh:A.handled=cR)(z:s.heap.IsKeyIter it d i n ep)(I:s.heap.get? d=cI o)(O:o.data = .dict es ep)(hsz:es.size=n)(J:es.size<=i)
 (L : ∀h',Heap.ExtBut it s.heap h'->Q cR {s with heap:=h'}):wpAny (d5 prog w) A (rr<|.ref it) Q E s:=by
 obtain⟨o,Y,g,e⟩:=id z;unfold rr;refine Oc (Te (Po (name:=Px "__next__") z.typeIs RY
  (p5 RY z.typeIs X? ?_ (W? _))))
 refine Oc (Oi ?_);refine Oc ?_;refine Oc ?_;refine Oc (SG z.typeIs (Oi ?_));refine Oc (f' Y e ?_);have f:RH "dict_keyiterator" = dd:=by decide
 simp only[f,Pa,if_false];show wpAny _ _ (if (OR d==Ph)=cL then _ else _) _ _ s;rw[DJ (show ¬((OR d==Ph)=cL)from Oy)];refine Oc (Oi ?_);refine Oc (Td I O ?_);rw[DJ (by rw[hsz];simp)];refine Oc (Oi ?_);refine Oc (TC I O ?_);rw[DJ ⋯];refine Oi ?_;simp only[show ¬((i:Int)<0)from by omega,if_false,Pq,Array.getElem?_eq_none J];refine Oc ?_;refine Oc (SG z.typeIs (Oi ?_));show wpAny _ _ (FI (.ref it) 0 .none >>= _) _ _ s;refine Oc (TQ Y e ⋯ ?_);show wpAny _ _ (E7 (.type "StopIteration") [] >>= _) _ _ _;refine Oc ?_;simp only[E7,ME];refine Oc (Pg ?_ (by size_fits));refine Oc (m:=DC _ _) (Uk (a:=Ph) (by first | rfl | (simp only[DC];rfl)) ?_);refine Pg ?_ (by size_fits);simp only[raiseNew];refine Oc (_d ?_);rw[show A.in1.handled=cR from hh];refine Oc (Oi (wpAny_throw ?_));refine Oc (UL (T:="StopIteration") (b:=cL) ⟨_,Oz _ rfl,rfl⟩ f_ ?_);exact Oi (L _ (((So ..).extBut.push _).push _))
end
noncomputable def p'(a:di)(o:i5)(xs:List (List Int×di×dq)):It:=⟨λi H=>H a=cI (m7 a o)/\i<xs.length,λi H x b=>b=H/\∃e,xs[i]? = cI e/\x = .ref e.2.1,λi H=>H a=cI (m7 a o)/\xs.length<=i⟩
theorem eS{P:gB}{w:fm}{K:Ob}{tg:dy}{a:di}{o:i5}{xs:List (List Int×di×dq)}{es:Array L1}{ep:Nat}(hd:o.data = .dict es ep)(O:es.toList=xs.map (λx=>⟨mV x.1,.ref x.2.1,x.2.2⟩))(it:di) :
 Turn P w K tg (p' a o xs) [it] it (λi h=>h.IsKeyIter it a i xs.length ep) where
 mem:=by simp
 obj:=λi h st b hb=>by
  have e:b=it:=by simpa using hb
  subst e;obtain⟨o,e,c,d⟩:=st;exact⟨o,e,λv q=>by rw[d]at q;cases q⟩
 keep:=λi h h' st k=>by obtain⟨o,e,r⟩:=st;exact⟨o,k it ⋯ o e,r⟩
 item:=by
  rintro X rfl rfl rfl hc i pins s σ H E I z st Y;obtain⟨f0,f1,f2,f3,f4,f5⟩:=z it ⋯;obtain⟨ha,hi⟩:=Y;obtain⟨ho,_⟩:=(show ij X.prog X.w H s.heap a (m7 a o)from I.eG a _ ha);have hsz:es.size=xs.length:=by rw[<- PM,O,OC]
  have a7:i<es.size:=by omega
  have ek:es[i].key = .ref (xs[i]).2.1:=by
   have:es[i]? = cI ⟨mV xs[i].1,.ref xs[i].2.1,xs[i].2.2⟩:=by rw[<- TJ,O,OF,Oe hi];rfl
   rw[Tb a7]at this;rw[OW this]
  refine oG st ho hd hsz a7 λh' a8 sb=>⟨_,rfl,?_⟩;rw[ek];have I1:Inv X pins σ H {s with heap:=h'}:=I.turned (t':=s.toks) (λb o hb e=>(sb.2 b hb).trans e) f0 f1 f3 f4 f5;obtain⟨zbn,e,c,d⟩:=id a8;exact pC (s:={s with heap:=h'}) e c d ⋯ ⟨.ref xs[i].2.1,H,I1,rfl,⟨rfl,xs[i],Oe hi,rfl⟩,a8,λb hb=>(z b hb).1⟩
 done:=by
  rintro X rfl rfl rfl hc i pins s σ H E I z st Y;obtain⟨f0,f1,f2,f3,f4,f5⟩:=z it ⋯;obtain⟨ha,hi⟩:=Y;obtain⟨ho,_⟩:=(show ij X.prog X.w H s.heap a (m7 a o)from I.eG a _ ha);have hsz:es.size=xs.length:=by rw[<- PM,O,OC]
  exact YR (I.ok.hd hc) st ho hd hsz ⋯ λh' eb=>⟨rfl,I.turned (t':=s.toks) (λb o hb e=>eb b o hb e) f0 f1 f3 f4 f5⟩
 self:=λA i s Q E st h=>wpAny_pyIter_keyiter st h
theorem v9{K:Ob}{H:Hp} : ∀I:List Int,dt K H (I.map D.int) (I.map V.int)
 | []=>dt.nil
 | z::I=>dt.cons (show V.int z = .int z from rfl)<|v9 I
theorem eD{K:Ob}{H0 J:Hp}{a:di}{o:i5}{xs:List (List Int×di×dq)}(h:J a=cI (m7 a o))(hk : ∀x∈xs,fh K H0 x.2.1<|x.1.map V.int):Walk K H0 J (p' a o xs) ((xs.map (·.1)).map λk=> .tup (k.map .int)):=by
 have z:((xs.map (·.1)).map λk=>D.tup<|k.map .int).length=xs.length:=by simp
 refine⟨λi d s b=>?_,λd s=>?_,λi d x g s b y=>?_⟩
 ·rw[z]at b;exact⟨s _ _ h,b⟩
 ·rw[z];exact⟨s _ _ h,Ou _⟩
 ·obtain⟨rfl,e,I,rfl⟩:=y
  refine⟨.tup<|e.1.map .int,by simp[I],λf j l=>⟨f,Ext.refl l,?_⟩⟩;exact qQ (ix j<|hk e<|OS I)<|v9 _
section
variable{X:Cx}{tg a:dy}{f:CO D}
theorem nX(J:PV X a f):i0 X tg a (fG f):=by
 intro h s M H R I j;obtain⟨k,L,N,rc,O,q⟩:=j;obtain⟨d,y,O⟩:=zb O;cases d with
 | hM n p=>
  cases O;refine ed (J h s M H (λv g=>∃z,Ext k H z g/\Rep X.K z (.hM n p) v) I ⟨k,L,_,rc,y,λv g z x r=>⟨z,x,r⟩⟩) λu i j=>?_;obtain⟨v,g,Y,F,z,x1,G⟩:=j;obtain⟨ad,U,rfl,⟨g0,E,W,g1,⟨g2,Q,P,l,m,_⟩,g3,S,A,g6⟩,T⟩:=(show ∃a t,v = .ref a/\A3 X.K z a n t/\dt X.K z p t from G);subst g3;cases (show u=OR ad from F);obtain⟨C,_⟩:=(show ij X.prog X.w g i.heap ad (m7 ad E)from Y.eG ad _<|x1.sub _ _ g1);refine iz g0 C g2 l (by rw[<- PM,m,OC]) ?_;refine⟨i.heap.objs.size,[i.heap.objs.size],_,_,g,rfl,Y.kept (t':=i.toks) λb o e=>Of _ e,eS l m _,⟨_,Oz _ rfl,rfl,rfl⟩,λb B=>?_,q _ g z x1<|eD g1 A⟩;have e:b=i.heap.objs.size:=by simpa using B
  subst e;exact Y.Df (Ou _)<|Y.eG.fresh<|Ou _
 | _=>cases O
end
noncomputable def Mn:List (List Int)->List Int->List Int->Option Int
 | k::ks,n::ns,i=>if k=i then cI n else Mn ks ns i
 | _,_,_=>cR
noncomputable def eqT(ks:List (List Int))(ns:List Int)(z:List (List Int))(I:List Int):Bool:=decide (ks.length=z.length) && (ks.zip ns).all λx=>decide<|Mn z I x.1=cI x.2
noncomputable def Mq(d e:D):Option Bool:=match d with
 | .hM a f=>match e with
  | .hM z I=>(wc f).bind λb=>(wc I).map λO=>eqT a b z O
  | _=>cR
 | _=>cR
@[simp] noncomputable def za5(d e:D):Option D:=(Mq d e).map D.bl
@[simp] noncomputable def za4(d e:D):Option D:=(Mq d e).map λb=>D.bl<|!b
noncomputable def eV(i:Nat):Tg->Bool
 | .nm j=>decide<|j≠i
 | .tp z=>decide<|i∉z
theorem Xa{i:Nat} : ∀{is:List Nat} {vs:List V} {I:St},i∉is->(Xb is vs I)[i]? = I[i]?
 | [],vs,I,_=>by cases vs<;>rfl
 | j::is,[],I,_=>rfl
 | j::is,v::vs,I,h=>by show(Xb is vs<|I.set j<|some v)[i]? = _;rw[Xa (λz=>h<|Ow _ z),Ox (λz=>h<|by rw[z];exact Ot)]
noncomputable def Ni(f:CO D)(γ:Ctx):Option D:=(f γ).bind λd=>match d with
 | .hM a _=>cI (.int a.length)
 | _=>cR
@[simp] noncomputable def Lx:=@Ni.eq_1
abbrev TT:=List (List (List Int))
abbrev YF:=Ctx->TT->Option (Ctx×TT)
noncomputable def BM(r:List Int):D:= .lst (r.map D.int)
noncomputable def BL(R:List (List Int)):D:= .lst (R.map BM)
noncomputable def Bg(Z:TT):D:= .lst (Z.map BL)
noncomputable def KZ:Cell->Bool
 | .no=>cL
 | .val _=>cL
 | _=>dd
noncomputable def fN:List (List D)->Option (List<|List Int)
 | []=>cI []
 | r::rs=>(wc r).bind λa=>(fN rs).map λb=>a::b
noncomputable def Gv:YF:=λa Z=>cI (a,Z)
noncomputable def J4(F G:YF):YF:=λa Z=>(F a Z).bind λr=>G r.1 r.2
noncomputable def xr(t:CO Bool)(F:YF):YF:=λa Z=>(t a).bind λb=>if b=cL then F a Z else cI (a,Z)
noncomputable def Vu(z:List Nat)(T:Tg)(f:CO D):YF:=λb Z=>if z.all (eV · T)=cL then (f b).bind λd=>(qz T d b).map λa=>(a,Z)else cR
noncomputable def K5(T:Tg)(F:YF):List D->YF
 | [],γ,Z=>cI (γ,Z)
 | d::ds,γ,Z=>(qz T d γ).bind λa=>(F a Z).bind λr=>K5 T F ds r.1 r.2
noncomputable def KY(z:List Nat)(I:CO (List D))(T:Tg)(F:YF):YF:=λa Z=>if z.all (eV · T)=cL then (I a).bind λb=>K5 T F b a Z else cR
noncomputable def BF(z:List Nat)(j:Nat)(I:CO D)(F:Nat->YF):YF:=λa Z=>if j∈z\/a.length<=j then cR else ((I a).bind js).bind λn=>(l5 Z.length n).bind λk=>F k (a.set j .no) Z
noncomputable def vy(j:Nat)(z:CO D)(f:CO (List D))(k:Nat):YF:=λa Z=>(Z[k]?).bind λR=>((f<|a.set j<|.val<|BL R).bind wc).bind λr=>((z a).bind js).bind λn=>(l5 R.length n).map λm=>(a,Z.set k<|R.set m r)
noncomputable def vz(j:Nat)(z e:CO D)(k m:Nat):YF:=λa Z=>(Z[k]?).bind λR=>(R[m]?).bind λrow=>((e<|a.set j<|.val<|BM row).bind js).bind λv=>((z a).bind js).bind λn=>(l5 row.length n).map λl=>(a,Z.set k<|R.set m<|row.set l v)
noncomputable def ZM(j:Nat)(F:Nat->YF)(k N:Nat):Nat->YF
 | 0,γ,Z=>cI (γ,Z)
 | n+1,γ,Z=>if γ.length<=j then cR else (F (N - (n+1)) (γ.set j .no) Z).bind λs=>if (s.2[k]?).map SI=cI N then ZM j F k N n s.1 s.2 else cR
noncomputable def vA(z:List Nat)(j:Nat)(F:Nat->YF)(k:Nat):YF:=λa Z=>if j∈z then cR else (Z[k]?).bind λR=>ZM j F k R.length R.length a Z
noncomputable def mI(F:List D->List D->TT->Option TT)(I J:CO (List D)):YF:=λa Z=>(I a).bind λd=>(J a).bind λe=>(F d e Z).map λb=>(a,b)
noncomputable def BV(f:CO (List<|List D)):YF:=λa Z=>((f a).bind fN).bind λR=>if Z.length<lim then cI (a,Z++[R])else cR
noncomputable def Ic(n i:Nat)(F:YF)(I J:List D)(Z:TT):Option TT:=(F ((jx n (I ++ .eg::J)).set i .no) Z).map (·.2)
abbrev LF:=CO (D×TT)
noncomputable def IF(F:CO Fl)(G:LF):LF:=λb=>(F b).bind λz=>match z with
 | .next a=>G a
 | _=>cR
noncomputable def BJ(i:Nat)(F:YF)(g:CO D):LF:=λa=>if (a.set i .no).all KZ=cL/\i<a.length then (F (a.set i .no) []).bind λs=>(g s.1).map λd=>(d,s.2)else cR
noncomputable def uw(n:Nat)(G:LF)(I:List D):Option (D×TT):=G<|jx n I
noncomputable def cz(w i:Nat)(L:List D->Option (D×TT))(g:CO (List D))(F:YF):CO Fl:=λa=>if ((a.set w .no).set i .no).all KZ=cL/\i<a.length/\w≠i then
 (g a).bind λb=>(L b).bind λr=>(F ((a.set w<|.val r.1).set i .no) r.2).map λs=> .next (s.1.set i<|.val<|Bg s.2)else cR
inductive Pl where
 | out | tab (k:Nat) | row (k m:Nat)
deriving DecidableEq
noncomputable def kP(Z:TT):Pl->Prop
 | .out=>True
 | .tab k=>k<Z.length
 | .row k m=>k<Z.length/\m<(Z.getD k []).length
noncomputable def qy(Z:TT)(ad:Pl->di):Pl->List V
 | .out=>(Od Z.length).map λk=>V.ref<|ad<|.tab k
 | .tab k=>(Od (Z.getD k []).length).map λm=>V.ref<|ad<|.row k m
 | .row k m=>((Z.getD k []).getD m []).map V.int
structure N3(H:Hp)(Z:TT)(ad:Pl->di):Prop where
 cont : ∀pl,kP Z pl->H (ad pl)=cI (.lst<|qy Z ad pl)
 inj : ∀pl S9,kP Z pl->kP Z S9->ad pl=ad S9->pl=S9
structure Y3(K:Ob)(al:List (Nat×Pl))(E0 E H0 H:Hp)(σ:St)(γ:Ctx)(Z:TT)(ad:Pl->di):Prop where
 rs:RS K E0 E H0 H σ γ
 pn:γ.all KZ=cL
 sl : ∀x∈al,kP Z x.2/\σ[x.1]? = cI (cI (.ref<|ad x.2))
 n3:N3 H Z ad
 h0 : ∀pl,kP Z pl->H0 (ad pl)=cR/\E (ad pl)=cR
theorem gj{γ:Ctx}(h:γ.all KZ=cL) : ∀(i:Nat) I,γ[i]? ≠ cI (.own I):=λi I e=>by have:=Pe.mp h _<|OS e;cases this
theorem gk{γ:Ctx}(h:γ.all KZ=cL) : ∀(i:Nat) I,γ[i]? ≠ cI (.nest I):=λi a e=>by have:=Pe.mp h _<|OS e;cases this
theorem Jh{γ:Ctx}(h:γ.all KZ=cL)(j:Nat){c:Cell}(I:KZ c=cL):(γ.set j c).all KZ=cL:=by
 refine Pe.mpr λa O=>?_;rcases List.mem_or_eq_of_mem_set O with z | z
 ·exact Pe.mp h a z
 ·rw[z];exact I
theorem YA : ∀(is:List Nat) (I:List D) {γ:Ctx},γ.all KZ=cL->(qF is I γ).all KZ=cL
 | [],I,γ,h=>by cases I<;>exact h
 | i::is,[],γ,h=>h
 | i::is,d::I,γ,h=>YA is I<|Jh h i rfl
theorem gm{T:Tg}{d:D}{γ γ1:Ctx}(e:qz T d γ=cI γ1)(h:γ.all KZ=cL):γ1.all KZ=cL:=by
 cases T with
 | nm j=>cases e;exact Jh h j rfl
 | tp is=>
  cases d with
  | tup a=>
   simp only[qz]at e;split at e
   ·cases e;exact YA is a h
   ·cases e
  | _=>simp[qz]at e
section
variable{K:Ob}{al:List (Nat×Pl)}{E0 E H0 H r9 H':Hp}{σ Dt:St}{γ γ':Ctx}{Z:TT}{ad:Pl->di}
theorem RC.pl(sub:et H0 H)(len:σ.length=γ.length)(val : ∀(i:Nat) d,γ[i]? = cI (.val d)->∃v,σ[i]? = cI (cI v)/\Rep K H0 d v)(pn:γ.all KZ=cL):RC K H0 H σ γ:=
 ⟨sub,len,val,λi b e=>absurd e<|gj pn i b,λi j a b f e=>absurd e<|gj pn i b,o9.Ht<|gk pn⟩
theorem RS.pl(rc:RC K H0 H σ γ)(x:Ext E0 E H0 H)(pn:γ.all KZ=cL):RS K E0 E H0 H σ γ:=
 ⟨rc,x,λi d a e=>absurd e<|gj pn i d,λi b a f e=>absurd e<|gk pn i b⟩
theorem RS.swap(r:RS K E0 E H0 H σ γ)(pn:γ.all KZ=cL)(sub:et H0 H')(I:et E H'):RS K E0 E H0 H' σ γ:=
 RS.pl (RC.pl sub r.rc.len r.rc.val pn) ⟨r.ext.s0,I,sub,r.ext.new⟩ pn
theorem Ext.keep(s:et H0 H)(e:et H H'):Ext H0 H H0 H':=⟨et.refl _,e,s.trans e,λ_ h _=>h⟩
theorem N3.step(n:N3 H Z ad)(e:et H H'):N3 H' Z ad:=⟨λpl o=>e _ _<|n.cont pl o,n.inj⟩
theorem Y3.step(y:Y3 K al E0 E H0 H σ γ Z ad)(e:Ext H0 H r9 H'):Y3 K al E0 E r9 H' σ γ Z ad:=
 ⟨y.rs.step e,y.pn,y.sl,y.n3.step e.s1,λpl o=>⟨e.new _ (y.h0 pl o).1 (by rw[y.n3.cont pl o];simp),(y.h0 pl o).2⟩⟩
theorem Y3.names(y:Y3 K al E0 E H0 H σ γ Z ad)(r:RS K E0 E H0 H Dt γ')(pn:γ'.all KZ=cL)(s : ∀x∈al,Dt[x.1]? = σ[x.1]?):Y3 K al E0 E H0 H Dt γ' Z ad:=
 ⟨r,pn,λx a=>⟨(y.sl x a).1,by rw[s x a];exact(y.sl x a).2⟩,y.n3,y.h0⟩
theorem Y3.weak{z:List (Nat×Pl)}(y:Y3 K al E0 E H0 H σ γ Z ad)(s : ∀x∈z,x∈al):Y3 K z E0 E H0 H σ γ Z ad:=⟨y.rs,y.pn,λx a=>y.sl x<|s x a,y.n3,y.h0⟩
open Classical in
noncomputable def K7(H0 H:Hp)(Z:TT)(ad:Pl->di):Hp:=λc=>if ∃pl,kP Z pl/\ad pl=c then H c else H0 c
theorem tq{pl:Pl}(h:kP Z pl):K7 H0 H Z ad (ad pl)=H (ad pl):=by unfold K7;rw[DZ ⟨pl,h,rfl⟩]
theorem eH(I : ∀pl,kP Z pl->H0 (ad pl)=cR):et H0 (K7 H0 H Z ad):=λc o q=>by
 unfold K7;rw[DJ]
 ·exact q
 ·rintro⟨pl,a,b⟩
  rw[<- b,I pl a]at q;cases q
theorem XS(s:et H0 H):et (K7 H0 H Z ad) H:=λc o q=>by
 unfold K7 at q;split at q
 ·exact q
 ·exact s c o q
noncomputable def vu(Z:TT):Pl->D
 | .out=>Bg Z
 | .tab k=>BL<|Z.getD k []
 | .row k m=>BM<|(Z.getD k []).getD m []
theorem Yq{G:Hp} : ∀(r:List Int),dt K G (r.map D.int) (r.map V.int)
 | []=>dt.nil
 | i::r=>dt.cons (show V.int i = .int i from rfl)<|Yq r
theorem W8{G:Hp}{I:Type}{f:I->D}{g:Nat->V} : ∀{l:List I} {n:Nat},(∀(k:Nat) x,l[k]? = cI x->Rep K G (f x) (g<|n+k))->dt K G (l.map f) ((Tn n l.length).map g)
 | [],n,_=>dt.nil
 | x::l,n,h=>by
  rw[OH,OK,Sh,OH];refine dt.cons (h 0 x rfl)<|W8 λk y z=>?_;have:=h (k+1) y (by simpa using z)
  rwa [show n+(k+1)=n+1+k by omega]at this
theorem Yr{G:Hp}{I:Type}{f:I->D}{g:Nat->V}{l:List I}(h : ∀(k:Nat) x,l[k]? = cI x->Rep K G (f x) (g k)):dt K G (l.map f) ((Od l.length).map g):=by rw[A6];exact W8 λk x a=>by rw[C9];exact h k x a
theorem jq{I:Type}{l:List I}{k:Nat}{x d:I}(h:l[k]? = cI x):l.getD k d=x:=by simp[List.getD,h]
theorem af{G:Hp}{k m:Nat}(n:N3 G Z ad)(h:kP Z (.row k m)):Rep K G (vu Z<|.row k m) (.ref<|ad<|.row k m):=
 wK (e9.of<|n.cont _ h) (Yq _)
theorem W9{G:Hp}{k:Nat}(n:N3 G Z ad)(h:kP Z (.tab k)):Rep K G (vu Z<|.tab k) (.ref<|ad<|.tab k):=by refine wK (e9.of<|n.cont _ h)<|Yr λm x a=>?_;have b:=(Ol.mp a).1;have:=af (K:=K) n (k:=k) (m:=m) ⟨h,b⟩;simp only[vu,jq a]at this;exact this
theorem nG{G:Hp}(n:N3 G Z ad):Rep K G (vu Z .out) (.ref<|ad .out):=by refine wK (e9.of<|n.cont .out PJ)<|Yr λk x a=>?_;have b:=(Ol.mp a).1;have:=W9 (K:=K) n (k:=k) b;simp only[vu,jq a]at this;exact this
theorem fP{G:Hp}(n:N3 G Z ad){pl:Pl}(h:kP Z pl):Rep K G (vu Z pl) (.ref<|ad pl):=by
 cases pl with
 | out=>exact nG n
 | tab k=>exact W9 n h
 | row k m=>exact af n h
theorem eK(n:N3 H Z ad):N3 (K7 H0 H Z ad) Z ad:=⟨λpl o=>by rw[tq o];exact n.cont pl o,n.inj⟩
theorem Y3.view(y:Y3 K al E0 E H0 H σ γ Z ad){i:Nat}{pl:Pl}(L:(i,pl)∈al) : ∃J,et H0 J/\RC K J H σ (γ.set i<|.val<|vu Z pl):=by
 have a:=eH (H:=H)<|λpl o=>(y.h0 pl o).1;obtain⟨o,g⟩:=y.sl _ L;refine⟨_,a,RC.pl (XS y.rs.rc.sub) (by simp[y.rs.rc.len]) (λj d e=>?_)<|Jh y.pn i rfl⟩;rcases zN e with⟨rfl,z,_⟩ | ⟨I,z⟩
 ·cases z
  exact⟨_,g,fP (eK y.n3) o⟩
 ·obtain⟨v,b,f⟩:=y.rs.rc.val j d z
  exact⟨v,b,f.mono a⟩
theorem Y3.shown(y:Y3 K al E0 E H0 H σ γ Z ad){i:Nat}(L:(i,Pl.out)∈al) : ∃J,RS K E0 E J H σ (γ.set i<|.val<|Bg Z):=by
 have f:=eH (H:=H)<|λpl o=>(y.h0 pl o).1;obtain⟨o,g⟩:=y.sl _ L;refine⟨_,RS.pl (RC.pl (XS y.rs.rc.sub) (by simp[y.rs.rc.len]) (λj d e=>?_)<|Jh y.pn i rfl) ⟨y.rs.ext.s0.trans f,y.rs.ext.s1,XS y.rs.rc.sub,λc O I=>?_⟩<|Jh y.pn i rfl⟩
 ·rcases zN e with⟨rfl,z,_⟩ | ⟨Y,z⟩
  ·cases z
   exact⟨_,g,fP (eK y.n3) o⟩
  ·obtain⟨v,a,b⟩:=y.rs.rc.val j d z
   exact⟨v,a,b.mono f⟩
 ·unfold K7
  rw[DJ]
  ·exact y.rs.ext.new c O I
  ·rintro⟨pl,a,b⟩
   rw[<- b]at I;exact I (y.h0 pl a).2
end
section
variable{K:Ob}{al:List (Nat×Pl)}{q:di}{E0 E H0 H r9 H':Hp}{σ Dt:St}{γ γ':Ctx}{Z:TT}{ad:Pl->di}{k m:Nat}{R R':List (List Int)}{row r:List Int}
theorem qb{I:Type}{l:List I}{k z:Nat}{x d:I}(J:k<l.length):(l.set k x).getD z d=if z=k then x else l.getD z d:=by
 by_cases h:z=k
 ·subst h;rw[DZ rfl,Oh,Pj J];rfl
 ·rw[DJ h,Oh,Ox<|PH h,Oh]
theorem xo(J:Z[k]? = cI R)(z:R'.length=R.length){pl:Pl}:kP (Z.set k R') pl↔kP Z pl:=by
 have I:=(Ol.mp J).1;cases pl with
 | out=>exact Iff.rfl
 | tab j=>show j<_↔j<_;rw[RZ]
 | row j i=>
  show(j<_/\i<_)↔(j<_/\i<_);rw[RZ,qb I];by_cases h:j=k
  ·subst h;rw[DZ rfl,jq J,z]
  ·rw[DJ h]
theorem N3.z?(n:N3 H Z ad)(J:Z[k]? = cI R)(L:R[m]? = cI row):N3 (upd H (ad<|.row k m)<|.lst<|r.map V.int) (Z.set k<|R.set m r) ad:=by
 have I:=(Ol.mp J).1;have Y:=(Ol.mp L).1;have O:(R.set m r).length=R.length:=RZ;have g:kP Z (.row k m):=⟨I,by rw[jq J];exact Y⟩;refine⟨λpl o=>?_,λa b d f e=>n.inj a b ((xo J O).mp d) ((xo J O).mp f) e⟩;have o:=(xo J O).mp o;by_cases e:pl = .row k m
 ·subst e
  rw[zB];congr 2;show _=(((Z.set k<|R.set m r).getD k []).getD m []).map V.int;rw[qb I,DZ rfl,qb Y,DZ rfl]
 ·rw[zH (λz=>e<|n.inj _ _ o g z),n.cont pl o]
  congr 2;cases pl with
  | out=>show Rq _ _=Rq _ _;rw[RZ]
  | tab j=>
   show Rq _ _=Rq _ _;rw[qb I];by_cases h:j=k
   ·subst h;rw[DZ rfl,jq J,O]
   ·rw[DJ h]
  | row j i=>
   show Rq _ _=Rq _ _;rw[qb I];by_cases h:j=k
   ·subst h
    rw[DZ rfl,jq J,qb Y,DJ (λz=>e<|by rw[z])]
   ·rw[DJ h]
noncomputable def GC(ad:Pl->di)(k m:Nat)(q:di):Pl->di:=λpl=>if pl = .row k m then q else ad pl
theorem yJ:GC ad k m q (.row k m)=q:=DZ rfl
theorem xX{pl:Pl}(h:pl ≠ .row k m):GC ad k m q pl=ad pl:=DJ h
theorem N3.A?(n:N3 H Z ad)(J:Z[k]? = cI R)(L:m<R.length)(hq:H q=cI (.lst<|r.map V.int))(hf : ∀pl,kP Z pl->ad pl≠q) :
 N3 (upd H (ad<|.tab k)<|.lst<|(qy Z ad<|.tab k).set m (.ref q)) (Z.set k<|R.set m r) (GC ad k m q):=by
 have I:=(Ol.mp J).1;have Y:(R.set m r).length=R.length:=RZ;have t:kP Z (.tab k):=I;refine⟨λpl o=>?_,λa b f g e=>?_⟩
 ·have o:=(xo J Y).mp o
  by_cases e:pl = .row k m
  ·subst e
   rw[yJ,zH<|λz=>hf _ t z.symm,hq];congr 2;show _=(((Z.set k<|R.set m r).getD k []).getD m []).map V.int;rw[qb I,DZ rfl,qb L,DZ rfl]
  ·rw[xX e]
   by_cases l:pl = .tab k
   ·subst l
    rw[zB];congr 2;show List.set (Rq _ _) _ _=Rq _ _;rw[qb I,DZ rfl,Y,jq J];apply Sx;intro i;rw[List.getElem?_set];by_cases s:m=i
    ·subst s
     rw[DZ rfl,DZ (by simpa using L)];simp[L,yJ]
    ·rw[DJ s]
     by_cases p:i<R.length
     ·simp[p,xX (show Pl.row k i ≠ .row k m by simp;omega)]
     ·simp[p]
   ·rw[zH (λz=>l<|n.inj _ _ o t z),n.cont pl o]
    congr 2;cases pl with
    | out=>show Rq _ _=Rq _ _;rw[RZ];exact OB λj _=>by rw[xX ⋯]
    | tab j=>
     have u:j≠k:=λz=>l (by rw[z]);show Rq _ _=Rq _ _;rw[qb I,DJ u];exact OB λi _=>by rw[xX (by simp;omega)]
    | row j i=>
     show Rq _ _=Rq _ _;rw[qb I];by_cases h:j=k
     ·subst h
      rw[DZ rfl,jq J,qb L,DJ (λz=>e<|by rw[z])]
     ·rw[DJ h]
 ·have f:=(xo J Y).mp f
  have g:=(xo J Y).mp g;by_cases d:a = .row k m
  ·by_cases O:b = .row k m
   ·rw[d,O]
   ·rw[d,yJ,xX O]at e
    exact absurd e.symm<|hf b g
  ·by_cases O:b = .row k m
   ·rw[O,yJ,xX d]at e
    exact absurd e<|hf a f
   ·rw[xX d,xX O]at e
    exact n.inj a b f g e
theorem aC{pl:Pl}(h:kP (Z++[R]) pl):kP Z pl\/pl = .tab Z.length\/∃i,pl = .row Z.length i/\i<R.length:=by
 cases pl with
 | out=>exact .inl h
 | tab j=>
  have:j<(Z++[R]).length:=h;by_cases e:j=Z.length
  ·exact .inr (.inl<|by rw[e])
  ·exact .inl (show j<Z.length by simp at this;omega)
 | row j i=>
  obtain⟨b,a⟩:=(show j<(Z++[R]).length/\i<((Z++[R]).getD j []).length from h);by_cases e:j=Z.length
  ·subst e
   refine .inr<|.inr ⟨i,rfl,?_⟩;simpa[Oh]using a
  ·have z:j<Z.length:=by simp at b;omega
   refine .inl (show j<Z.length/\i<(Z.getD j []).length from⟨z,?_⟩);rw[Oh,OV z,<- Oh]at a;exact a
noncomputable def sU(ad:Pl->di)(n:Nat)(a:di)(bs:List di):Pl->di
 | .out=>ad .out
 | .tab j=>if j=n then a else ad (.tab j)
 | .row j i=>if j=n then bs.getD i a else ad (.row j i)
theorem wz{pl:Pl}{a:di}{bs:List di}(h:kP Z pl):sU ad Z.length a bs pl=ad pl:=by
 cases pl with
 | out=>rfl
 | tab j=>show(if j=_ then _ else _)=_;rw[DJ (ON<|show j<Z.length from h)]
 | row j i=>show(if j=_ then _ else _)=_;rw[DJ (ON (show j<Z.length/\_ from h).1)]
theorem N3.app{a:di}{bs:List di}(n:N3 H Z ad)(J:H a=cI (.lst<|bs.map V.ref))(L : ∀(i:Nat) b r,bs[i]? = cI b->R[i]? = cI r->H b=cI (.lst<|r.map V.int))(hl:bs.length=R.length)(nd:(a::bs).Nodup)
 (O : ∀pl,kP Z pl->ad pl∉a::bs):N3 (upd H (ad .out)<|.lst<|qy Z ad .out++[.ref a]) (Z++[R]) (sU ad Z.length a bs):=by
 have p:kP Z .out:=PJ;have B : ∀i,i<R.length->∃b,bs[i]? = cI b/\bs.getD i a=b:=λi f=>⟨bs[i]'⋯,Oe ⋯,jq<|Oe ⋯⟩;have s : ∀{pl},kP (Z++[R]) pl->(kP Z pl/\sU ad Z.length a bs pl=ad pl)\/(pl = .tab Z.length/\sU ad Z.length a bs pl=a)\/∃i b,pl = .row Z.length i/\i<R.length/\bs[i]? = cI b/\sU ad Z.length a bs pl=b:=λ{pl} o=>by
  rcases aC o with o | e | ⟨i,e,f⟩
  ·exact .inl ⟨o,wz o⟩
  ·subst e;exact .inr<|.inl ⟨rfl,DZ rfl⟩
  ·subst e
   obtain⟨b,k,l⟩:=B i f;exact .inr<|.inr ⟨i,b,rfl,f,k,by show(if Z.length=Z.length then _ else _)=_;rw[DZ rfl];exact l⟩
 refine⟨λpl o=>?_,λx y k l e=>?_⟩
 ·rcases s o with⟨m,e⟩ | ⟨d,e⟩ | ⟨i,b,d,f,Y,e⟩
  ·rw[e]
   by_cases u:pl = .out
   ·subst u
    rw[zB];congr 2;show Rq _ _++_=Rq _ _;rw[OX,Sl,Rx,PB];congr 1
    ·exact OB λj h=>by rw[wz (show kP Z (.tab j)from Oj.mp h)]
    ·show [_]=[_];congr 2;exact(DZ rfl).symm
   ·rw[zH (λz=>u<|n.inj _ _ m p z),n.cont pl m]
    congr 2;cases pl with
    | out=>exact absurd rfl u
    | tab j=>
     have h:j<Z.length:=m;have I:(Z++[R]).getD j []=Z.getD j []:=by rw[Oh,OV h,<- Oh]
     show Rq _ _=Rq _ _;rw[I];exact OB λi f=>by rw[wz (show kP Z (.row j i)from⟨h,Oj.mp f⟩)]
    | row j i=>
     have h:j<Z.length:=m.1;have I:(Z++[R]).getD j []=Z.getD j []:=by rw[Oh,OV h,<- Oh]
     show Rq _ _=Rq _ _;rw[I]
  ·subst d
   rw[e,zH (λz=>O _ p<|by rw[<- z];exact Ot),J];congr 2;have I:(Z++[R]).getD Z.length []=R:=by simp[Oh]
   show _=Rq _ _;rw[I];apply Sx;intro i;by_cases f:i<R.length
   ·obtain⟨b,k,l⟩:=B i f
    rw[OF,k,OF,PD f];show cI (V.ref b)=cI (V.ref<|if Z.length=Z.length then _ else _);rw[DZ rfl,l]
   ·rw[Rv (by simp;omega),Rv (by simp;omega)]
  ·subst d
   have E:b∈bs:=OS Y;rw[e,zH (λz=>O _ p<|by rw[<- z];exact Ow _ E),L i b _ Y (Oe f)];congr 2;have I:(Z++[R]).getD Z.length []=R:=by simp[Oh]
   show _=Rq _ _;rw[I,jq (Oe f)]
 ·obtain⟨C,F⟩:=Ry.mp nd
  rcases s k with⟨w,d⟩ | ⟨rfl,d⟩ | ⟨i,b,rfl,f,Y,d⟩<;>rcases s l with⟨A,g⟩ | ⟨rfl,g⟩ | ⟨M,K,rfl,G,t,g⟩
  ·rw[d,g]at e;exact n.inj x y w A e
  ·rw[d,g]at e;exact absurd (by rw[e];exact Ot)<|O x w
  ·rw[d,g]at e;exact absurd (by rw[e];exact Ow _<|OS t)<|O x w
  ·rw[d,g]at e;exact absurd (by rw[<- e];exact Ot)<|O y A
  ·rfl
  ·rw[d,g]at e;exact absurd (by rw[e];exact OS t) C
  ·rw[d,g]at e;exact absurd (by rw[<- e];exact Ow _<|OS Y)<|O y A
  ·rw[d,g]at e;exact absurd (by rw[<- e];exact OS Y) C
  ·rw[d,g]at e;subst e
   rw[YN F Y t]
end
noncomputable def vV:Pl->Bool
 | .row _ _=>dd
 | _=>cL
structure Kp(Z:TT)(ad:Pl->di)(Z':TT)(F9:Pl->di):Prop where
 len:Z.length<=Z'.length
 adr : ∀pl,vV pl=cL->kP Z pl->F9 pl=ad pl
section
variable{Z Z' v_:TT}{ad F9 x_:Pl->di}
theorem Kp.refl:Kp Z ad Z ad:=⟨Ou _,λ_ _ _=>rfl⟩
theorem Kp.ok(h:Kp Z ad Z' F9){pl:Pl}(n:vV pl=cL)(o:kP Z pl):kP Z' pl:=by
 cases pl with
 | out=>exact PJ
 | tab k=>exact OI (show k<Z.length from o) h.len
 | row k m=>cases n
theorem Kp.trans(h:Kp Z ad Z' F9)(g:Kp Z' F9 v_ x_):Kp Z ad v_ x_:=
 ⟨PK h.len g.len,λpl n o=>by rw[g.adr pl n (h.ok n o),h.adr pl n o]⟩
end
noncomputable def tY(K:Ob)(I:List (Nat×Pl))(F:YF):TS:=λD h H=>∃E0 E g f Z ad r,Y3 K I E0 E g H h f Z ad/\F f Z=cI r/\∀b e d a,Y3 K I E0 E d e b r.1 r.2 a->Kp Z ad r.2 a->D.nx b e
section
variable{X:Cx}{al:List (Nat×Pl)}{st:g8}{qZ:List g8}{pos:eo}
theorem Vx{F G:YF}(J:PS X st (tY X.K al F))(L:hO X qZ (tY X.K al G)):hO X (st::qZ) (tY X.K al<|J4 F G):=by intro a s t H D I O;refine(xO J L) a s t H D I ?_;obtain⟨E0,E,f,p,Z,ad,r,y,z,Y⟩:=O;obtain⟨m,j,z⟩:=zb z;exact⟨E0,E,f,p,Z,ad,m,y,j,λu w b d n k=>⟨E0,E,b,_,_,d,r,n,z,λe g h i o l=>Y e g h i o<|k.trans l⟩⟩
theorem J8{F:YF}(h:PS X st (tY X.K al F)):hO X [st] (tY X.K al F):=vB h
theorem Gu{c:dy}{J:List g8}{t:CO Bool}{F:YF}(O:k0 X c t)(L:hO X J (tY X.K al F)):PS X (.If c J [] pos) (tY X.K al<|xr t F):=qX (Ed O L fZ) λD h H Y=>by
 obtain⟨E0,E,e,d,Z,ad,r,y,z,I⟩:=Y;obtain⟨b,f,z⟩:=zb z;refine⟨e,d,b,y.rs.rc,f,λg a x=>?_⟩;cases b with
 | true=>rw[DZ rfl]at z ⊢;exact⟨E0,E,a,d,Z,ad,r,y.step x,z,I⟩
 | false=>rw[DJ Oy]at z ⊢;cases z;exact I _ _ a ad (y.step x) Kp.refl
theorem gC{T:Tg}{x:Nat×Pl}(h:(al.map (·.1)).all (eV · T)=cL)(hx:x∈al):eV x.1 T=cL:=Pe.mp h _<|RK.mpr ⟨x,hx,rfl⟩
theorem XD{K:Ob}{H0 H:Hp}{T:Tg}{d:D}{v:V}{J:St}{γ γ1:Ctx}{Q:St->Hp->Prop}(s:et H0 H)(h:Rep K H0 d v)(e:qz T d γ=cI γ1)(O:(al.map (·.1)).all (eV · T)=cL)
 (q : ∀z,(∀x∈al,z[x.1]? = J[x.1]?)->(∀E0 E,RS K E0 E H0 H J γ->RS K E0 E H0 H z γ1)->Q z H):oe K T v J H Q:=by
 cases T with
 | nm j=>cases e;exact q _ (λx b=>Ox<|of_decide_eq_true<|gC O b) λE0 E r=>r.u7 h
 | tp is=>
  cases d with
  | tup g=>
   simp only[qz]at e;by_cases I:g.length=is.length
   ·rw[DZ I]at e;cases e
    obtain⟨a,f,rfl,k,i⟩:=(show ∃a f,v = .ref a/\fh K H0 a f/\dt K H0 g f from h);have b:f.length=is.length:=by rw[i.length,I]
    exact⟨a,f,rfl,ix s k,b,V7 b<|q _ (λx b=>Xa<|of_decide_eq_true<|gC O b) λE0 E r=>r.Fd i⟩
   ·rw[DJ I]at e;cases e
  | _=>simp[qz]at e
theorem mD{T:Tg}{f:CO D}(h:PS X st (XZ (tV X.K f)<|oe X.K T)):PS X st (tY X.K al<|Vu (al.map (·.1)) T f):=qX h λD s H Y=>by
 obtain⟨E0,E,b,m,Z,ad,r,y,z,e⟩:=Y;unfold Vu at z;split at z
 ·next k=>
  obtain⟨d,j,z⟩:=zb z;obtain⟨n,O,z⟩:=zv z;subst z;refine⟨b,m,d,y.rs.rc,j,λv p g x1 l=>?_⟩;have I:=y.step x1;exact XD x1.sub l O k λo a i=>e _ _ g ad (I.names (i _ _ I.rs) (gm O I.pn) a) Kp.refl
 ·cases z
theorem mF{tg L:dy}{body:List g8}{src:CO (List D)}{T:Tg}{F:YF}(hp:D3 (d5 X.prog X.w) X.A X.env X.xe)(hc:X.calm=cL)(hi:i0 X tg L src)(hg:PG X tg (oe X.K T))(hb:hO X body (tY X.K al F))
 (hs : ∀x,o4 L X.env x=pure x:=by intro _;rfl):PS X (.For tg L body [] pos) (tY X.K al<|KY (al.map (·.1)) src T F):=qX (gd hp hc hi hg hb hs) λD k H hZ=>by
 obtain⟨E0,E,h,f,Z,ad,r,S,O,ac⟩:=hZ;unfold KY at O;split at O
 ·next ae=>
  obtain⟨a,e1,O⟩:=zb O;refine⟨h,f,a,S.rs.rc,e1,λJ H1 Y x1 p=>?_⟩;have y:=S.step x1;have P:=y.rs.ext;refine⟨λn m k H=>m=a.length - n/\n<=a.length/\∃h f g b,Y3 X.K al Y E h H k f g b/\Kp Z ad g b/\K5 T F (a.drop n) f g=cI r,⟨_,rfl,Rg _,Y,f,Z,ad,⟨⟨y.rs.rc,P.base,y.rs.fresh,y.rs.u0⟩,y.pn,y.sl,y.n3,y.h0⟩,Kp.refl,O⟩,?_⟩;rintro n m u i ⟨rfl,bl,C,zby,W,G,z,Q,I⟩;have l:et Y i:=z.rs.ext.s0.trans z.rs.ext.sub;by_cases j:n<a.length
  ·refine .inr ⟨p.go n i l j,λk H=>n+1<=a.length/\∃h f g b,Y3 X.K al Y E h H k f g b/\Kp Z ad g b/\K5 T F (a.drop<|n+1) f g=cI r,λDt B q=>⟨a.length - (n+1),by omega,rfl,q.1,q.2⟩,λx B yy=>?_⟩
   obtain⟨d,N,an⟩:=p.z8 n i x B l j yy;obtain⟨U,R,rg⟩:=an C z.rs.ext.s0 z.rs.rc.sub;have ar:a.drop n=d::a.drop (n+1):=by
    have as:d=a[n]:=by rw[Oe j]at N;exact(OW N).symm
    rw[as];exact Tc j
   rw[ar]at I;obtain⟨t,M,I⟩:=zb I;obtain⟨r4,eF,I⟩:=zb I;refine XD R.sub rg M ae λzbB o bd=>?_;have s:=z.step R;exact⟨Y,E,U,t,W,G,r4,s.names (bd Y E s.rs) (gm M s.pn) o,eF,λzbC H5 be bg q kq=>⟨j,be,_,_,bg,q,Q.trans kq,I⟩⟩
  ·have e:n=a.length:=by omega
   subst e;rw[Uz]at I;cases I;exact .inl ⟨p.stop i l,ac u i C G ⟨⟨z.rs.rc,P.rebase z.rs.ext,z.rs.fresh,z.rs.u0⟩,z.pn,z.sl,z.n3,z.h0⟩ Q⟩
 ·cases O
theorem Wj{Z:TT}{ad:Pl->di}{k:Nat}(h:k<Z.length):(qy Z ad .out)[k]? = cI (.ref<|ad<|.tab k):=by show(Rq _ _)[k]? = _;rw[OF,PD h];rfl
theorem Wi{Z:TT}{ad:Pl->di}{k m:Nat}{R:List (List Int)}(I:Z[k]? = cI R)(h:m<R.length):(qy Z ad<|.tab k)[m]? = cI (.ref<|ad<|.row k m):=by show(Rq _ _)[m]? = _;rw[jq I,OF,PD h];rfl
theorem JP{Z:TT}{ad:Pl->di}{k:Nat}{R:List (List Int)}(I:Z[k]? = cI R):(qy Z ad<|.tab k).length=R.length:=by show(Rq _ _).length=_;rw[jq I];simp
theorem su{n:Nat}{i:Int}{j:Nat}(h:l5 n i=cI j):j<n:=(V3<|Xt h).2.1
theorem Y3.alias{K:Ob}{E0 E H0 H:Hp}{J:St}{γ:Ctx}{Z:TT}{ad:Pl->di}{j:Nat}{pl:Pl}(y:Y3 K al E0 E H0 H J γ Z ad)(o:kP Z pl)(I:j∉al.map (·.1))(O:j<γ.length) :
 Y3 K ((j,pl)::al) E0 E H0 H (J.set j<|some (.ref<|ad pl)) (γ.set j .no) Z ad:=
 ⟨y.rs.forget,Jh y.pn j rfl,λx hx=>by
  rcases OA.mp hx with rfl | hx
  ·exact⟨o,Pj<|by rw[y.rs.rc.len];exact O⟩
  ·exact⟨(y.sl x hx).1,by rw[Ox (λz=>I<|by rw[z];exact RK.mpr ⟨x,hx,rfl⟩)];exact(y.sl x hx).2⟩,y.n3,y.h0⟩
theorem Hu{i j:Nat}{Y:CO D}{F:Nat->YF}(hi:(i,Pl.out)∈al)(L:PS X st (XZ (DR (Mf X.K) (wF i)<|tV X.K Y)<|yn j))(h2 : ∀k,hO X qZ<|tY X.K ((j,.tab k)::al)<|F k) :
 hO X (st::qZ) (tY X.K al<|BF (al.map (·.1)) j Y F):=by
 intro a s b H D I M;refine(xO L (u:=λD b H=>∃k,tY X.K ((j,.tab k)::al) (F k) D b H)<|λa s b H D I ⟨k,h⟩=>h2 k a s b H D I h) a s b H D I ?_;obtain⟨E0,E,A,t,Z,ad,r,y,O,B⟩:=M;unfold BF at O;split at O
 ·cases O
 ·next m=>
  obtain⟨n,G,O⟩:=zb O;obtain⟨T,g,J⟩:=zb G;obtain⟨k,l,O⟩:=zb O;rw[jA J]at g;refine⟨_,(y.sl _ hi).2,A,t,_,y.rs.rc,g,λv S C x1 Q=>?_⟩;have p:=y.step x1;have o:k<Z.length:=su l;refine⟨_,qy Z ad .out,n,.ref<|ad<|.tab k,rfl,jD Q,e9.of<|p.n3.cont .out PJ,?_,?_⟩
  ·unfold A7
   rw[show(qy Z ad .out).length=Z.length by simp[qy],Xt l];exact Wj o
  ·refine⟨k,E0,E,C,_,Z,ad,r,p.alias (pl:= .tab k) o (λz=>m<|.inl z) (by rcases OG j t.length with z | z;exact z;exact absurd (.inr z) m),O,λf w d e R P=>B f w d e (R.weak λx N=>Ow _ N) P⟩
theorem iC{K:Ob}{H:Hp}{I:List D}{r:List Int}{xs:List V}(e:wc I=cI r)(h:dt K H I xs):xs=r.map V.int:=by rw[wX e h];simp[kV,Pw,SE]
theorem WE{j k:Nat}{J:CO D}{f:CO (List D)}(L:(j,Pl.tab k)∈al)(hn:(al.all λx=>vV x.2)=cL)(h:PS X st (XZ (tO X.K f)<|GV (wF j) (tV X.K J) nH)) :
 PS X st (tY X.K al<|vy j J f k):=qX h λD σ H hZ=>by
 obtain⟨E0,E,g,γ,Z,ad,r0,y,O,G⟩:=hZ;obtain⟨R,b,O⟩:=zb O;obtain⟨r,Q,O⟩:=zb O;obtain⟨P,S,T⟩:=zb Q;obtain⟨n,U,O⟩:=zb O;obtain⟨dn,u,W⟩:=zb U;obtain⟨m,w,O⟩:=zv O;subst O;rw[jA W]at u;obtain⟨C,s0,rc⟩:=y.view L;rw[show vu Z (.tab k)=BL R by simp only[vu,jq b]]at rc;refine⟨C,_,P,rc,S,λa xs F G1 x1 Y f2 A rp=>?_⟩;have ex:=iC T rp;subst ex;have xk:Ext g H g F:=Ext.keep y.rs.rc.sub x1.s1;have s:=y.step xk;refine⟨_,(s.sl _ L).2,g,γ,_,s.rs.rc,u,λv H2 t p r2=>?_⟩;have I:=s.step p;have i:kP Z (.tab k):=(Ol.mp b).1;have hm:m<R.length:=su w;refine⟨_,qy Z ad<|.tab k,n,m,rfl,jD r2,I.n3.cont _ i,by rw[JP b];exact Xt w,?_⟩;have M:g a=cR:=jk y.rs.rc.sub Y;have B:(R.set m r).length=R.length:=RZ;have N:t a=cR:=p.new a M (by rw[A];simp);have hE:E a=cR:=by
  cases q:E a with
  | none=>rfl
  | some o=>rw[y.rs.ext.s1 a o q]at Y;cases Y
 refine G σ _ t (GC ad k m a) ⟨I.rs.swap I.pn (λc o q=>?_)<|λc o q=>?_,I.pn,λx l=>?_,I.n3.A? b hm (p.s1 _ _ A)<|λpl o z=>?_,λpl o=>?_⟩ ⟨by simp,λpl d o=>xX<|λz=>by rw[z]at d;cases d⟩
 ·rw[zH (λz=>by rw[z,(I.h0 _ i).1]at q;cases q)];exact I.rs.rc.sub c o q
 ·rw[zH (λz=>by rw[z,(I.h0 _ i).2]at q;cases q)];exact I.rs.ext.s1 c o q
 ·have d:vV x.2=cL:=Pe.mp hn x l
  exact⟨(xo b B).mpr (I.sl x l).1,by rw[xX (λz=>by rw[z]at d;cases d)];exact(I.sl x l).2⟩
 ·have:=y.n3.cont pl o
  rw[z,Y]at this;cases this
 ·have o:=(xo b B).mp o
  by_cases e:pl = .row k m
  ·rw[e,yJ];exact⟨N,hE⟩
  ·rw[xX e];exact I.h0 pl o
theorem WG{j k m:Nat}{J e:CO D}(Y:(j,Pl.row k m)∈al)(h:PS X st (XZ (tV X.K e)<|GV (wF j) (tV X.K J) nH)) :
 PS X st (tY X.K al<|vz j J e k m):=qX h λD W H P=>by
 obtain⟨E0,E,t,U,Z,ad,r0,y,O,A⟩:=P;obtain⟨R,a,O⟩:=zb O;obtain⟨row,b,O⟩:=zb O;obtain⟨v,C,O⟩:=zb O;obtain⟨dv,g,F⟩:=zb C;obtain⟨n,G,O⟩:=zb O;obtain⟨dn,i,L⟩:=zb G;obtain⟨l,M,O⟩:=zv O;subst O;rw[jA F]at g;rw[jA L]at i;obtain⟨s,s0,rc⟩:=y.view Y;rw[show vu Z (.row k m)=BM row by simp only[vu,jq a,jq b]]at rc;refine⟨s,_,_,rc,g,λu H1 G1 x1 S=>?_⟩;have f:=y.step<|Ext.keep y.rs.rc.sub x1.s1;refine⟨_,(f.sl _ Y).2,t,U,_,f.rs.rc,i,λw H2 B T Q=>?_⟩;have I:=f.step T;have d:kP Z (.row k m):=(y.sl _ Y).1;have p:(R.set m<|row.set l v).length=R.length:=RZ;refine⟨_,qy Z ad<|.row k m,n,l,rfl,jD Q,I.n3.cont _ d,?_,?_⟩
 ·rw[show(qy Z ad<|.row k m).length=row.length by simp only[qy,jq a,jq b,OC]];exact Xt M
 ·have N:(qy Z ad<|.row k m).set l u=(row.set l v).map V.int:=by
   rw[show qy Z ad (.row k m)=row.map V.int by simp only[qy,jq a,jq b],show u=V.int v from S,List.map_set]
  rw[N];refine A W _ B ad ⟨I.rs.swap I.pn (λc o q=>?_)<|λc o q=>?_,I.pn,λx r=>⟨(xo a p).mpr (I.sl x r).1,(I.sl x r).2⟩,I.n3.z? a b,λpl o=>I.h0 pl<|(xo a p).mp o⟩ ⟨by simp,λpl np o=>rfl⟩
  ·rw[zH (λz=>by rw[z,(I.h0 _ d).1]at q;cases q)];exact I.rs.rc.sub c o q
  ·rw[zH (λz=>by rw[z,(I.h0 _ d).2]at q;cases q)];exact I.rs.ext.s1 c o q
theorem mE{i j k:Nat}{x y:Str}{a8 a2 ab:eo}{J:List g8}{F:Nat->YF}(hp:D3 (d5 X.prog X.w) X.A X.env X.xe)(hc:X.calm=cL)(hi:(i,Pl.tab k)∈al)(hx:PE X (.Name x a2) (wF i))(hg:PG X (.Name y a8) (yn j))
 (hb : ∀m,hO X J<|tY X.K ((j,.row k m)::al)<|F m) (hf : ∀z,o4 (.Name x a2) X.env z=pure z:=by intro _;rfl) :
 PS X (.For (.Name y a8) (.Name x a2) J [] ab) (tY X.K al<|vA (al.map (·.1)) j F k):=
 qX (gd hp hc (gn hx) hg (tb:=λD G H=>∃m,tY X.K ((j,.row k m)::al) (F m) D G H) (λp s G H D I ⟨m,h⟩=>hb m p s G H D I h) hf) λD G H hZ=>by
  obtain⟨E0,E,H0,γ,Z,ad,r,y,Y,an⟩:=hZ;unfold vA at Y;split at Y
  ·cases Y
  ·next hj=>
   obtain⟨R,hk,Y⟩:=zb Y;have Q:kP Z (.tab k):=(Ol.mp hk).1;refine⟨_,(y.sl _ hi).2,_,.L,rfl,⟨_,e9.of<|y.n3.cont _ Q⟩,?_⟩;refine⟨λt n g l=>n=R.length - t/\t<=R.length/\∃d f b a,Y3 X.K al E0 E d l g f b a/\Kp Z ad b a/\(b[k]?).map SI=cI R.length/\ZM j F k R.length (R.length - t) f b=cI r,
    ⟨_,rfl,Rg _,H0,γ,Z,ad,y,Kp.refl,by rw[hk];rfl,Y⟩,?_⟩
   rintro t n g l ⟨rfl,bg,d,f,b,a,S,C,ar,O⟩;obtain⟨R',u,M⟩:=zv ar;have as:kP b (.tab k):=C.ok rfl Q;have U:=S.n3.cont _ as;rw[C.adr (.tab k) rfl Q]at U;have P:e9 X.K l (ad<|.tab k) (qy b a<|.tab k):=e9.of U;have bi:(qy b a<|.tab k).length=R.length:=by rw[JP u,M]
   by_cases N:t<R.length
   ·have hg:(qy b a<|.tab k)[t]? = cI (.ref<|a<|.row k t):=Wi u (by rw[M];exact N)
    refine .inr ⟨⟨_,_,P,hg⟩,λg l=>t+1<=R.length/\∃d f b a,Y3 X.K al E0 E d l g f b a/\Kp Z ad b a/\(b[k]?).map SI=cI R.length/\ZM j F k R.length (R.length - (t+1)) f b=cI r,λzbz T q=>⟨R.length - (t+1),by omega,rfl,q.1,q.2⟩,λv T yy=>?_⟩;obtain⟨e1,B⟩:T=l/\_:=yy;have B:=B _ P;rw[hg]at B;cases B;subst e1;rw[show R.length - t=R.length - (t+1)+1 by omega]at O;simp only[ZM]at O;split at O
    ·cases O
    ·next bm=>
     obtain⟨s,W,O⟩:=zb O;split at O
     ·next b0=>
      rw[show R.length - (R.length - (t+1)+1)=t by omega]at W;have o:kP b (.row k t):=⟨(Ol.mp u).1,by rw[jq u,M];exact N⟩;exact⟨t,E0,E,d,_,b,a,s,S.alias o hj ⋯,W,λzbA H3 b9 bb y3 k3=>⟨N,b9,_,_,bb,y3.weak λx hx=>Ow _ hx,C.trans k3,b0,O⟩⟩
     ·cases O
   ·have e:t=R.length:=by omega
    subst e;rw[Nat.sub_self]at O;cases O;exact .inl ⟨⟨_,P,by omega⟩,an g l d a S C⟩
end
open Classical in
noncomputable def QH(H:Hp)(Z:TT)(ad:Pl->di):Hp:=λc=>if ∃pl,kP Z pl/\ad pl=c then cR else H c
section
variable{H:Hp}{Z:TT}{ad:Pl->di}
theorem AE{pl:Pl}(h:kP Z pl):QH H Z ad (ad pl)=cR:=by unfold QH;rw[DZ ⟨pl,h,rfl⟩]
theorem oW:et (QH H Z ad) H:=λc o q=>by
 unfold QH at q;split at q
 ·cases q
 ·exact q
theorem AD{c:di}{o:HO}(h:H c=cI o)(I : ∀pl,kP Z pl->ad pl≠c):QH H Z ad c=cI o:=by
 unfold QH;rw[DJ]
 ·exact h
 ·rintro⟨pl,a,b⟩;exact I pl a b
end
noncomputable def U'(K:Ob)(I J:Nat)(F:List D->List D->TT->Option TT):Sp:=λj H Q _=>∃b g h i z Z e ad,j=i++V.ref (ad .out)::z/\et b H/\dt K b g i/\dt K b h z/\g.length=I/\h.length=J/\N3 H Z ad/\(∀pl,kP Z pl->b (ad pl)=cR)/\F g h Z=cI e/\
 ∀f d a,Ext b (QH H Z ad) d f->N3 f e a->(∀pl,kP e pl->d (a pl)=cR/\QH H Z ad (a pl)=cR)->Kp Z ad e a->Q .eg f
structure NY(P:gB)(w:fm)(K:Ob)(mg:DX)(base:ew)(k:Nat)(x:Str)(n1 n2:Nat)(F:List D->List D->TT->Option TT):Prop where
 ex : ∃(f:di) (fd:m6) (ps:List Str),ps.length=n1+1+n2/\je P w K mg base l7 k f fd ps (U' K n1 n2 F)/\mg x=cI (.ref f)/\Rb K (.ref f)=cL/\Binds K fd ps []
theorem fj{N:List Str}{us z:List V}{a b:V}:(wI N (us++a::z)).set us.length (cI b)=wI N (us++b::z):=by unfold L2.wI;simp only[PB,OH,SS,List.cons_append,OX,OK];rw[List.set_append_right _ _ ⋯];simp
theorem nW(n:Nat)(J:List D):(jx n J).all KZ=cL:=by
 refine Pe.mpr λc I=>?_;unfold jx at I;rcases Tu.mp I with z | z
 ·obtain⟨d,_,rfl⟩:=RK.mp z;rfl
 ·rw[(List.mem_replicate.mp z).2];rfl
section
variable{P:gB}{w:fm}{K:Ob}{mg:DX}{base:ew}
theorem ND{x:Str}{st:g8}{N ps:List Str}{k J n2:Nat}{F:YF}(A:fy K mg x st ps)(hd:KF N ps st=cL)(L:ps.length=J+1+n2)
 (a3 : ∀X:Cx,X.prog=P->X.w=w->X.K=K->X.mg=mg->X.base=base->SX X (zT st) N N k->X.xe=(λ_ _=>False)->hO X (jT st) (tY X.K [(J,.out)] F)) :
 NY P w K mg base (k+1) x J n2 (Ic N.length J F):=by
 obtain⟨f,fd,u,hb,hm⟩:=A.ex;have S:=yd hd;refine⟨f,fd,ps,L,?_,hm,u.kp,.all hb⟩;refine u.ok S (λvs H Q E h=>?_)<|λU A n s H vs Q E hr h=>⟨_,a3 _ rfl rfl rfl rfl rfl ⟨rfl,rfl,S.nd,rfl,hr,λ_ _=> .inl rfl⟩ rfl,?_⟩
 ·obtain⟨a,j,l,t,G,Z,R,ad,e,_,z,p,I,m,_⟩:=h
  rw[e,OX,OK,z.length,p.length,I,m,L];omega
 obtain⟨a,j,l,t,G,Z,R,ad,e,C,z,p,I,m,n3,h0,ef,q⟩:=h;subst e;obtain⟨r,W,e2⟩:=zv ef;subst e2;have a8:ps.length<=N.length:=by have:=congrArg SI S.pre;rw[Si]at this;omega
 have T:(j++D.eg::l).length<=N.length:=by rw[OX,OK,I,m];omega
 have O:=(X8 C (z.append<|dt.cons (d:=D.eg) (x:=V.eg) (show V.eg = .eg from rfl) p) T).forget (i:=J) (v:=cI (.ref<|ad .out));have Y:t.length=J:=by rw[z.length,I]
 rw[<- Y,fj]at O;rw[Y]at O;have B:=Jh (nW N.length (j++D.eg::l)) J (c:= .no) rfl;refine⟨a,QH H Z ad,a,_,Z,ad,r,⟨RS.pl O.rc ⟨et.refl _,oW,C,λ_ h _=>h⟩ B,B,λy hy=>?_,n3,λpl o=>⟨h0 pl o,AE o⟩⟩,W,λDt M b g y kp=>q M b g y.rs.ext y.n3 y.h0 kp⟩;rw[Rp.mp hy];refine⟨PJ,?_⟩;show(wI N (t++V.ref (ad .out)::G))[J]? = _;unfold L2.wI;rw[<- Y,PB,OH,SS,OZ ⋯];simp
end
noncomputable def MM(K:Ob)(I:CO (List D))(i:Nat)(J:CO (List D)):TA:=λj H Q=>∃e b f g v,RC K e H j b/\I b=cI f/\J b=cI g/\j[i]? = cI (cI v)/\
 ∀h z d a,Ext e H a d->dt K a f h->dt K a g z->Q (h++v::z) d
section
variable{X:Cx}{sc:f9}{N L:List Str}{k j n1 n2 i:Nat}{e:dy}{es:List dy}{f:CO D}{ga gb:CO (List D)}{pos p:eo}{x:Str}{F:List D->List D->TT->Option TT}{al:List (Nat×Pl)}
theorem Ae(z:PE X e (wF i))(I:yg X es gb)(J:ei (e::es) X.env=(dd,d3 e X.env)::ei es X.env:=by rfl):PA X (e::es) (MM X.K zC i gb):=
 ot (zQ z I J) λl H Q O=>by obtain⟨d,j,k,fs,v,rc,f,g,Y,q⟩:=O;cases f;exact⟨v,Y,d,j,fs,rc,g,λh b a x r=>q [] h b a x dt.nil r⟩
theorem aA(J:PV X e f)(I:PA X es (MM X.K ga i gb))(hs:ei (e::es) X.env=(dd,d3 e X.env)::ei es X.env:=by rfl):PA X (e::es) (MM X.K (zc f ga) i gb):=
 ot (zQ J I hs) λA H Q O=>by obtain⟨g,b,y,fs,v,rc,a,m,Y,q⟩:=O;obtain⟨d,n,a⟩:=zb a;obtain⟨l,o,a⟩:=zv a;subst a;exact⟨g,b,d,rc,n,λu x j x1 p=>⟨j,b,l,fs,v,rc.ext x1,o,m,Y,λt w h k z r s=>q (u::t) w h k (x1.trans z) (dt.cons (p.mono z.s0) r) s⟩⟩
theorem BU(hf:NY X.prog X.w X.K X.mg X.base j x n1 n2 F)(hj:j<=k)(h:SX X sc N L k)(c:yT sc x=cL)(hi:(i,Pl.out)∈al)(hn:(al.all λx=>vV x.2)=cL)(ha:PA X (e::es) (MM X.K ga i gb))
 (l1 : ∀γ J,ga γ=cI J->J.length=n1) (l2 : ∀γ J,gb γ=cI J->J.length=n2) {zi:eo}
 (he:ei (e::es) X.env=(dd,d3 e X.env)::ei es X.env:=by rfl) (a7:(j1 pos<|starEach es X.env).any (·.1)=dd:=by rfl)
 (hs:p4 (.Call (.Name x p) (e::es) [] pos) cR zi.line X.env=pure dd:=by rfl) :
 PS X (.Expr (.Call (.Name x p) (e::es) [] pos) zi) (tY X.K al<|mI F ga gb):=by
 obtain⟨fa,fd,ps,an,G,hm,hk,W⟩:=hf.ex;refine qX (vC (vE (E:=E0) G (h.room.mono hj) (h.gl c).1 hm hk W .nil QC ha (h.gl c).2.2 he a7) hs) λD σ H U=>?_;obtain⟨E0,E,P,γ,Z,ad,r,y,O,R⟩:=U;obtain⟨J,m,O⟩:=zb O;obtain⟨fs,n,O⟩:=zb O;obtain⟨Q,T,O⟩:=zv O;subst O;refine⟨P,γ,J,fs,_,y.rs.rc,m,n,(y.sl _ hi).2,λB C l S x1 r1 r2=>?_⟩;have I:=y.step x1;show U' X.K n1 n2 F ((B++V.ref (ad .out)::C)++[]) l _ _;rw[Rz];refine⟨S,J,fs,B,C,Z,Q,ad,rfl,I.rs.rc.sub,r1,r2,l1 γ J m,l2 γ fs n,I.n3,λpl o=>(I.h0 pl o).1,T,λM b a Y n3 s f=>R σ M b a ?_ f⟩;have sE : ∀c o,E c=cI o->QH l Z ad c=cI o:=λc o q=>AD (I.rs.ext.s1 c o q) λpl ho z=>by rw[<- z,(I.h0 pl ho).2]at q;cases q
 refine⟨RS.pl (RC.pl Y.sub I.rs.rc.len (λi d g=>?_) I.pn) ⟨I.rs.ext.s0.trans Y.s0,λc o q=>Y.s1 c o<|sE c o q,Y.sub,λc q1 A=>?_⟩ I.pn,I.pn,λx t=>?_,n3,λpl o=>⟨(s pl o).1,?_⟩⟩
 ·obtain⟨v,g1,g2⟩:=I.rs.rc.val i d g
  exact⟨v,g1,g2.mono Y.s0⟩
 ·refine Y.new c (I.rs.ext.new c q1 A) ?_
  cases q:E c with
  | none=>exact absurd q A
  | some o=>rw[sE c o q];simp
 ·have u:vV x.2=cL:=Pe.mp hn x t
  obtain⟨o,g⟩:=I.sl x t;exact⟨f.ok u o,by rw[f.adr _ u o];exact g⟩
 ·cases q:E (a pl)with
  | none=>rfl
  | some o'=>have:=(s pl o).2;rw[sE _ o' q]at this;cases this
end
noncomputable def MQ(K:Ob)(E0 E:Hp)(Q:VK)(d:D)(Z:TT):Prop:=∀t v ad b a,Ext E0 E a b->Rep K a d v->b t=cI (.tup [v,.ref (ad .out)])->N3 b Z ad->(∀pl,kP Z pl->a (ad pl)=cR/\E (ad pl)=cR)->Q (.ref t) b
noncomputable def tL(K:Ob)(G:LF):TS:=λD d H=>∃E0 E b a r,RS K E0 E b H d a/\G a=cI r/\MQ K E0 E D.rt r.1 r.2
noncomputable def T1(K:Ob)(n:Nat)(F:List D->Option (D×TT)):Sp:=λd H Q _=>∃a b r,et a H/\dt K a b d/\b.length=n/\F b=cI r/\MQ K a H Q r.1 r.2
structure NW(P:gB)(w:fm)(K:Ob)(mg:DX)(base:ew)(k:Nat)(x:Str)(n:Nat)(F:List D->Option (D×TT)):Prop where
 ex : ∃(f:di) (fd:m6) (ps:List Str),ps.length=n/\je P w K mg base l7 k f fd ps (T1 K ps.length F)/\mg x=cI (.ref f)/\Rb K (.ref f)=cL/\Binds K fd ps []
section
variable{P:gB}{w:fm}{K:Ob}{mg:DX}{base:ew}
theorem NF{x:Str}{st:g8}{N ps:List Str}{k:Nat}{G:LF}(A:fy K mg x st ps)(J:KF N ps st=cL)
 (Y : ∀X:Cx,X.prog=P->X.w=w->X.K=K->X.mg=mg->X.base=base->SX X (zT st) N N k->X.xe=(λ_ _=>False)->hO X (jT st) (tL X.K G)) :
 NW P w K mg base (k+1) x ps.length (uw N.length G):=by
 obtain⟨f,i,I,j,l⟩:=A.ex;have S:=yd J;refine⟨f,i,ps,rfl,?_,l,I.kp,.all j⟩;refine I.ok S (λo H Q E h=>?_)<|λd A b s H o Q E m h=>⟨_,Y _ rfl rfl rfl rfl rfl ⟨rfl,rfl,S.nd,rfl,m,λ_ _=> .inl rfl⟩ rfl,?_⟩
 ·obtain⟨a,e,r,_,z,O,_⟩:=h
  rw[z.length,O]
 obtain⟨a,e,r,n,z,O,g,q⟩:=h;have p:ps.length<=N.length:=by have:=congrArg SI S.pre;rw[Si]at this;omega
 exact⟨a,H,a,_,r,X8 n z ⋯,g,q⟩
end
section
variable{X:Cx}{sc:f9}{N L:List Str}{k j i n w:Nat}{st:g8}{qZ:List g8}{e e2:dy}{es:List dy}{f:CO D}{g:CO (List D)}{pos p:eo}{x:Str}{al:List (Nat×Pl)}
theorem EY{F:CO Fl}{G:LF}(J:l3 X st F)(h2:hO X qZ (tL X.K G)):hO X (st::qZ) (tL X.K<|IF F G):=by
 intro b s k H D I Y;refine(xO J h2) b s k H D I ?_;obtain⟨E0,E,e,j,r,i,z,f⟩:=Y;obtain⟨O,h,z⟩:=zb z;refine⟨E0,E,e,j,O,i,h,?_⟩;cases O with
 | next a=>exact λl m d g=>⟨E0,E,d,a,r,g,z,f⟩
 | brk a=>cases z
 | cont a=>cases z
 | ret r=>cases z
theorem aE{E H:Hp}{c:di}(s:et E H)(h:H c=cR):E c=cR:=by
 cases q:E c with
 | none=>rfl
 | some o=>rw[s c o q]at h;cases h
theorem IE{a1 a2:g8}{F:YF}{kx:Nat}{J:eo}(h1:PS X a1 (XZ (LW rJ)<|yn i))(h2:PS X a2 (tY X.K [(i,.out)] F))(he:PV X e f)(hv:PE X e2 (wF i))
 (hs:ei [e,e2] X.env=(dd,d3 e X.env)::ei [e2] X.env:=by rfl) (a6:ei [e2] X.env=(dd,d3 e2 X.env)::ei [] X.env:=by rfl) :
 hO X [a1,a2,.Return (cI (.Tuple [e,e2] kx J)) pos] (tL X.K<|BJ i F f):=by
 intro h s w H D I N;refine(xO h1<|xO h2<|vB<|Jg<|sd<|zQ he (zQ hv jF a6) hs) h s w H D I ?_;obtain⟨E0,E,l,u,r,j,z,x⟩:=N;unfold BJ at z;split at z
 ·next P=>
  obtain⟨A,B⟩:=P;obtain⟨Z,G,z⟩:=zb z;obtain⟨d,L,z⟩:=zv z;subst z;refine⟨Rg _,λq Y=>?_⟩;have C:l q=cR:=jk j.rc.sub Y;have M:E q=cR:=aE j.ext.s1 Y;have U:RS X.K E0 E l (upd H q<|.lst []) (w.set i<|some (.ref q)) (u.set i .no):=(j.forget (v:=cI (.ref q))).step (Ext.hide j.rc.sub Y _);have p : ∀pl,kP ([]:TT) pl->pl = .out:=λpl o=>by
   cases pl with
   | out=>rfl
   | tab k=>exact absurd (show k<0 from o)<|OO _
   | row k m=>exact absurd (show k<0/\_ from o).1 (OO _)
  refine⟨E0,E,l,u.set i .no,[],λ_=>q,Z,⟨U,A,λy R=>?_,⟨λpl o=>?_,λa b S T _=>by rw[p a S,p b T]⟩,λpl o=>⟨C,M⟩⟩,G,λDt H' n g y kp=>?_⟩
  ·rw[Rp.mp R]
   exact⟨PJ,Pj<|by rw[j.rc.len];exact B⟩
  ·rw[p pl o,zB];rfl
  ·refine⟨n,_,d,y.rs.rc,L,λv H2 as x2 W=>⟨_,(y.sl _<|Rp.mpr rfl).2,(show 2<=eJ by decide),λt Q=>?_⟩⟩
   have O:=y.step x2;have x3:=Ext.hide O.rs.rc.sub Q<|.tup [v,.ref (g .out)];exact x t v g _ as (O.rs.ext.trans x3) W zB (O.n3.step x3.s1) O.h0
 ·cases z
noncomputable def M1(K:Ob)(i:Nat)(F:YF)(G:CO Fl):TS:=λD d H=>∃E0 E b a Z ad r z,Y3 K [(i,.out)] E0 E b H d a Z ad/\F a Z=cI r/\G (r.1.set i<|.val<|Bg r.2)=cI z/\Sat K E0 E D z
theorem BR{G:CO Fl}(h:bM X qZ G):hO X qZ (M1 X.K i Gv G):=by intro a s g H D I z;refine h a s g H D I ?_;obtain⟨E0,E,j,k,Z,ad,r,O,y,Y,e,d⟩:=z;cases Y;obtain⟨b,f⟩:=y.shown<|Rp.mpr rfl;exact⟨E0,E,b,_,O,f,e,d⟩
theorem sZ{F O:YF}{G:CO Fl}(J:PS X st (tY X.K [(i,.out)] F))(h2:hO X qZ (M1 X.K i O G)):hO X (st::qZ) (M1 X.K i (J4 F O) G):=by intro a s n H D I Y;refine(xO J h2) a s n H D I ?_;obtain⟨E0,E,e,m,Z,ad,r,j,y,z,h,f⟩:=Y;obtain⟨k,g,z⟩:=zb z;exact⟨E0,E,e,m,Z,ad,k,y,g,λo p b d l _=>⟨E0,E,b,_,_,d,r,j,l,z,h,f⟩⟩
theorem fY(w i:Nat){F:YF}{G:CO Fl}{Lf:List D->Option (D×TT)}{tg:dy}(hf:NW X.prog X.w X.K X.mg X.base j x n Lf)(hj:j<=k)(h:SX X sc N L k)(c:yT sc x=cL)(ha:A5 X (e::es) n g)(hg:PG X tg (oe X.K<|.tp [w,i]))
 (h2:hO X qZ (M1 X.K i F G)) {J:eo}
 (he:ei (e::es) X.env=(dd,d3 e X.env)::ei es X.env:=by rfl) (a6:(j1 pos<|starEach es X.env).any (·.1)=dd:=by rfl)
 (hs:ML [tg] (.Call (.Name x p) (e::es) [] pos) J.line X.env=pure dd:=by rfl) (hw:T5 [tg] (.Call (.Name x p) (e::es) [] pos) X.env=pure cR:=by rfl)
 (hh:(y0 [tg] X.env).map (·.2)=[vr tg X.env]:=by rfl) :
 bM X (.Assign [tg] (.Call (.Name x p) (e::es) [] pos) J::qZ) (zS (cz w i Lf g F) G):=by
 obtain⟨fa,fd,ps,Q,C,l,hk,hb⟩:=hf.ex;subst Q;intro a s σ H D I hZ;refine(xO (Xj (vE (E:=E0) C (h.room.mono hj) (h.gl c).1 l hk hb .nil QC ha.1 (h.gl c).2.2 he a6) hg hs hw hh) h2) a s σ H D I ?_;obtain⟨E0,E,M,u,fl,b,Y,R⟩:=hZ;obtain⟨f1,O,Y⟩:=zb Y;unfold cz at O;split at O
 ·next f=>
  obtain⟨S,T,bm⟩:=f;obtain⟨d,A,O⟩:=zb O;obtain⟨r,e2,O⟩:=zb O;obtain⟨s2,e3,O⟩:=zv O;subst O;refine⟨M,u,d,b.rc,A,λvs P U x1 r1=>⟨U,d,r,x1.sub,by simpa using r1,ha.2 u d A,e2,?_⟩⟩;intro t v ad H2 W x2 rv ht n3 B;refine⟨t,_,rfl,fh.of ht,rfl,v,_,rfl,_,_,rfl,rfl,?_⟩;have Z:=(b.step x1).step x2;have bb:et E P:=(b.step x1).ext.s1;have bd:=(Z.u7 (i:=w) rv).forget (i:=i) (v:=cI (.ref<|ad .out));have pn:((u.set w<|.val r.1).set i .no).all KZ=cL:=by
   refine Pe.mpr λc f=>?_;obtain⟨m,l⟩:=L6 f;rcases zN l with⟨_,z,_⟩ | ⟨be,z⟩
   ·rw[z];rfl
   ·rcases zN z with⟨_,z,_⟩ | ⟨bg,z⟩
    ·rw[z];rfl
    ·refine Pe.mp S c (OS (i:=m) ?_)
     rw[Ox (PH be),Ox (PH bg)];exact z
  refine⟨E0,E,W,_,r.2,ad,s2,fl,⟨bd,pn,λy hy=>?_,n3,λpl o=>⟨(B pl o).1,aE bb (B pl o).2⟩⟩,e3,Y,R⟩;rw[Rp.mp hy];exact⟨PJ,Pj<|by simp[b.rc.len];exact T⟩
 ·cases O
theorem X9 : ∀{I:List (List D)} {R:List (List Int)} {m:Nat},fN I=cI R->I.length=R.length/\∀row,I[m]? = cI row->∃r,R[m]? = cI r/\wc row=cI r
 | [],R,m,h=>by cases h;exact⟨rfl,λrow e=>by simp at e⟩
 | row::I,R,m,h=>by
  obtain⟨a,d,h⟩:=zb h;obtain⟨b,e2,h⟩:=zv h;subst h;refine⟨by simp[(X9 (m:=0) e2).1],λz e=>?_⟩;cases m with
  | zero=>cases e;exact⟨a,rfl,d⟩
  | succ m=>exact(X9 (m:=m) e2).2 z (by simpa using e)
theorem aM : ∀γ I,zC γ=cI I->I.length=0:=λγ I h=>by cases h;rfl
theorem kY{n:Nat}{f:CO D}{g:CO (List D)}(z : ∀γ J,g γ=cI J->J.length=n) : ∀γ J,zc f g γ=cI J->J.length=n+1:=λγ J h=>by obtain⟨d,_,h⟩:=zb h;obtain⟨I,e,h⟩:=zv h;subst h;rw[OK,z γ I e]
theorem mG{f:CO (List (List D))}(hi:(i,Pl.out)∈al)(hn:(al.all λx=>vV x.2)=cL)(h:PE X e (T8 X.K "list" VG (wF i) (Zr (tN X.K f) rJ)))(hs:p4 e cR pos.line X.env=pure dd:=by rfl) :
 PS X (.Expr e pos) (tY X.K al<|BV f):=qX (vC h hs) λD U H L=>by
 obtain⟨E0,E,A,T,Z,ad,r,y,O,B⟩:=L;obtain⟨R,J,O⟩:=zb O;obtain⟨j,e2,t⟩:=zb J;split at O
 ·next M=>
  cases O;refine⟨_,(y.sl _ hi).2,.inl ⟨rfl,_,e9.of<|y.n3.cont .out PJ⟩,A,T,j,y.rs.rc,e2,λa bs W C x1 Y d=>?_⟩;have I:=y.step x1;refine⟨_,_,_,rfl,rfl,I.n3.cont .out PJ,?_,?_⟩
  ·rw[show(qy Z ad .out).length=Z.length by simp[qy]]
   exact OI M<|kJ<|Ou _
  ·have F : ∀pl,kP Z pl->ad pl∉a::bs:=λpl o k=>by
    have:=Y _ k;rw[y.n3.cont pl o]at this;cases this
   have G:bs.length=R.length:=by rw[d.len,(X9 (m:=0) t).1]
   have P:=I.n3.app (R:=R) d.ha (λm b r u N=>by
    have k:m<j.length:=by rw[<- d.len];exact(Ol.mp u).1
    obtain⟨r',g1,g2⟩:=(X9 (m:=m) t).2 _ (Oe k);rw[N]at g1;cases g1;obtain⟨_,xs,Q,S⟩:=d.row m b _ u<|Oe k;rw[Q,iC g2 S]) G d.nd F
   have l:Kp Z ad (Z++[R]) (sU ad Z.length a bs):=⟨by simp,λpl n o=>wz o⟩;refine B U _ C _ ⟨I.rs.swap I.pn (λc o q=>?_)<|λc o q=>?_,I.pn,λx w=>?_,P,λpl o=>?_⟩ l
   ·rw[zH (λz=>by rw[z,(I.h0 .out PJ).1]at q;cases q)];exact I.rs.rc.sub c o q
   ·rw[zH (λz=>by rw[z,(I.h0 .out PJ).2]at q;cases q)];exact I.rs.ext.s1 c o q
   ·have n:vV x.2=cL:=Pe.mp hn x w
    obtain⟨o,g⟩:=I.sl x w;exact⟨l.ok n o,by rw[l.adr _ n o];exact g⟩
   ·rcases aC o with o | e | ⟨m,e,k⟩
    ·rw[wz o];exact I.h0 pl o
    ·subst e
     rw[show sU ad Z.length a bs (.tab Z.length)=a from DZ rfl];exact⟨d.a0,aE y.rs.ext.s1<|Y a Ot⟩
    ·subst e
     have p:bs[m]? = cI (bs[m]'⋯):=Oe ⋯;have s:bs[m]'⋯∈a::bs:=Ow _<|OS p;rw[show sU ad Z.length a bs (.row Z.length m)=bs[m]'⋯by show(if Z.length=Z.length then _ else _)=_;rw[DZ rfl];exact jq p];exact⟨(d.at s).1,aE y.rs.ext.s1<|Y _ s⟩
 ·cases O
theorem nV{scope:f9}{own:List Str}{fr:List (Str×Nat)}{elt tg J:dy}{src:CO (List D)}{T:Tg}{f:CO (List D)}
 (z:X.calm=cL) (ok:rb X scope fr) (I : ∀i∈T.idx,i<own.length) (hi:sh X tg J src) (O : ∀fp s2 H2,PG (jm X scope (own++fr.map (·.1)) fp s2 H2) tg<|oe X.K T)
 (Y : ∀fp s2 H2,PO (jm X scope (own++fr.map (·.1)) fp s2 H2) elt f) (hs : ∀x,o4 J X.env x=pure x:=by intro _;rfl) :
 PE X (.ListComp elt [⟨tg,J,[],0⟩] scope pos) (tN X.K<|W3 src T own.length (fr.map (·.2)) f):=
 j6 (Kk z ok hi O (λ_ _ _=>Kh) Y hs) (dF I λh H Q e=>by obtain⟨a,g,b,rc,d,q⟩:=e;cases d;exact q H a<|Ext.refl rc.sub)
theorem Hv{a:dy}{f:CO (List<|List D)}(i:Nat){J cpos np:eo}(hi:(i,Pl.out)∈al)(hn:(al.all λx=>vV x.2)=cL)(h:SX X sc N L k)(c:ZO sc N i x=cL)(ha:PE X a (tN X.K f))(hs:ei [a] X.env=[(dd,d3 a X.env)]:=by rfl)
 (z:vt (.Name x np) "append" X.env (d3 (.Name x np) X.env)=d3 (.Name x np) X.env:=by rfl)
 (I:((j1 cpos<|starEach [a] X.env).all (λx=> !x.1) && (y1 cpos<|keywordEach [] X.env).all (λx=>x.1.isSome)
   && decide ([a].length+([]:List o8).length+(if ([]:List o8).isEmpty then 0 else 1)<30))=cL:=by rfl)
 (O:(J.endLine==cpos.line)=cL:=by rfl) (Y:p4 (.Call (.Attribute (.Name x np) "append" J) [a] [] cpos) cR pos.line X.env=pure dd:=by rfl) :
 PS X (.Expr (.Call (.Attribute (.Name x np) "append" J) [a] [] cpos) pos) (tY X.K al (BV f)):=
 mG hi hn (VL RQ PySem.F.slot_list_append PySem.F.type_list_append YT (h.var c) (zQ ha jF hs) z I O hs rfl) Y
theorem BS{I:CO D}{F:Nat->YF}{y:Str}{z:dy}{Y O:eo}(i j:Nat)(hi:(i,Pl.out)∈al)(h:SX X sc N L k)(c:ZO sc N i x=cL)(ct:yF sc N L j y=cL)(hb:PV X z I)(h2 : ∀k,hO X qZ<|tY X.K ((j,.tab k)::al)<|F k){J:eo}
 (hx:KP z:=by intro _ _;rfl) (hs:p4 (.Subscript (.Name x Y) z O) (cI (.Name y J)) pos.line X.env=pure dd:=by rfl) :
 hO X (.Assign [.Name y J] (.Subscript (.Name x Y) z O) pos::qZ) (tY X.K al<|BF (al.map (·.1)) j I F):=
 Hu hi (h.set j ct (Ab L' (h.var c) hb hx) hs) h2
theorem ZD{tv:TE}{z:dy}{J I:eo}{Y:CO D}(i:Nat)(h:SX X sc N L k)(c:ZO sc N i x=cL)(he:PE X e tv)(hb:PV X z Y)
 (ha : ∀v,vr (.Subscript (.Name x J) z I) X.env v=(do
   let ov <- u6 [v] (d3 (.Name x J) X.env);let O <- u6 [v,ov] (d3 z X.env)
   DO I
   u6 [v,ov,O] (S_ ov O v)
   release [v,ov,O] []):=by intro _;rfl)
 (hs:ML [.Subscript (.Name x J) z I] e pos.line X.env=pure dd:=by rfl) (hw:T5 [.Subscript (.Name x J) z I] e X.env=pure cR:=by rfl)
 (h1:(y0 [.Subscript (.Name x J) z I] X.env).map (·.2)=[vr (.Subscript (.Name x J) z I) X.env]:=by rfl):PS X (.Assign [.Subscript (.Name x J) z I] e pos) (XZ tv<|GV (wF i) (tV X.K Y) nH):=
 Xj he (Ei (h.var c) hb nq ha) hs hw h1
end
section
variable{X:Cx}{sc:f9}{N L:List Str}{k j n i:Nat}{a b c e:dy}{es:List dy}{f:CO D}{g:CO (List D)}{p pos:eo}{x:Str}{st st3 st4:g8}{qZ:List g8}{F:List D->Option Res}
open Classical in
noncomputable def B6(H:Hp)(p:di):Hp:=λc=>if c=p then cR else H c
theorem MB{H:Hp}{p c:di}(h:c≠p):B6 H p c=H c:=DJ h
end
noncomputable def Ia(I L J O:CO D):CO D:=λa=>((I a).bind js).bind λi=>(L a).bind λx=>((J a).bind js).bind λj=>(O a).bind λy=>if i=j then cR else cI (.lp [.int i,.int j] [x,y])
mutual
noncomputable def S6:D->Bool
 | .tup a=>H8 a
 | .lst a=>H8 a
 | .lp _ _=>dd
 | .hM _ _=>dd
 | _=>cL
noncomputable def H8:List D->Bool
 | []=>cL
 | x::xs=>S6 x && H8 xs
end
theorem Ext.put{H0 H I H':Hp}{p:di}{o:HO}(x:Ext H0 H I H')(z:H p=cR)(J:I p=cR):Ext H0 H (upd I p o) (upd H' p o):=
 ⟨x.s0.trans<|zX J o,λb u q=>by rw[zH (λe=>by rw[e,z]at q;cases q)];exact x.s1 b u q,Yk x.sub,λa f d=>by rw[zH (λe=>d<|by rw[e];exact z)];exact x.new a f d⟩
section
variable{X:Cx}{a b c e:dy}{fa ga fb gb:CO D}{pos:eo}
theorem CU(h1:PV X a fa)(h2:PV X b ga)(h3:PV X c fb)(h4:PV X e gb):PV X (.Dict [cI a,cI c] [b,e] pos) (Ia fa ga fb gb):=
 j6 (Ac (aq h1 h2<|aq h3 h4 uQ) rfl rfl ⋯ ⋯) λσ H Q W=>by
  obtain⟨k,h,d,rc,I,q⟩:=W;obtain⟨i,m,I⟩:=zb I;obtain⟨N,R,m⟩:=zb m;obtain⟨x,S,I⟩:=zb I;obtain⟨j,n,I⟩:=zb I;obtain⟨P,T,n⟩:=zb n;obtain⟨y,U,I⟩:=zb I;by_cases l:i=j
  ·rw[DZ l]at I;cases I
  rw[DJ l]at I;cases I;intro p o;have Y:=Ext.hide rc.sub o<|.dK [];refine⟨k,h,N,rc.ext Y,R,λv1 H1 F x1 A=>⟨F,h,x,(rc.ext Y).ext x1,S,λf H2 G r Z=>⟨G,h,P,((rc.ext Y).ext x1).ext r,T,λv3 H3 J x3 B=>⟨J,h,y,(((rc.ext Y).ext x1).ext r).ext x3,U,λg t O C r4=>?_⟩⟩⟩⟩;have s:=x1.trans<|r.trans<|x3.trans C;rw[jA m]at A;rw[jA n]at B;have bl:t p=cI (.dK []):=s.s1 _ _ zB;have L:k p=cR:=jk rc.sub o;have u:O p=cR:=s.new p L (by rw[zB];simp);have xa:Ext k H O t:=Y.trans s;refine⟨bl,[(Ru i,f),(Ru j,g)],?_,by simp,?_⟩
  ·rw[show v1=V.int i from A,show v3=V.int j from B];rfl
  have M : ¬((Ru i:Key)=Ru j):=λz=>l<|Ru.inj z;have em:Jx [] [((Ru i:Key),f),(Ru j,g)]=[((Ru i:Key),f),(Ru j,g)]:=by simp[Jx,nJ,M]
  rw[em];have w:et O (upd O p<|.dK [((Ru i:Key),f),(Ru j,g)]):=zX u _;refine q (.ref p) _ _ (xa.put o u) (show ∃a E,V.ref p = .ref a/\Du (upd O p _) a [.int i,.int j] E/\dt X.K (upd O p _) [x,y] E from⟨p,[f,g],rfl,⟨[Ru i,Ru j],rfl,rfl,zB⟩,?_⟩);exact dt.cons ((Z.mono<|x3.s0.trans C.s0).mono w)<|dt.cons (r4.mono w) dt.nil
end
mutual
theorem Rep.less{K:Ob}{H:Hp}{p:di}{J:ew->Prop}(I:H p=cI (.ext J)) : ∀{d:D} {v:V},S6 d=cL->Rep K H d v->Rep K (B6 H p) d v
 | .eg,_,_,h=>h
 | .bl _,_,_,h=>h
 | .int _,_,_,h=>h
 | .str _,_,_,h=>h
 | .tup ds,v,n,h=>by
  obtain⟨a,b,f,g,i⟩:=(show ∃a b,v = .ref a/\fh K H a b/\dt K H ds b from h);refine(show ∃a b,v = .ref a/\fh K (B6 H p) a b/\dt K (B6 H p) ds b from⟨a,b,f,?_,dt.less I n i⟩);have z : ∀{u:HO},(∀J,u ≠ .ext J)->H a=cI u->a≠p:=λO q e=>by rw[e,I]at q;exact O _ (OW q).symm
  rcases g with(hq | ⟨o',hq⟩) | hq
  ·exact .inl (.inl<|by rw[MB (z (λ_=>by simp) hq)];exact hq)
  ·exact .inl<|.inr ⟨o',by rw[MB (z (λ_=>by simp) hq)];exact hq⟩
  ·exact .inr hq
 | .lst ds,v,n,h=>by
  obtain⟨a,b,f,g,i⟩:=(show ∃a b,v = .ref a/\e9 K H a b/\dt K H ds b from h);refine(show ∃a b,v = .ref a/\e9 K (B6 H p) a b/\dt K (B6 H p) ds b from⟨a,b,f,?_,dt.less I n i⟩);have z : ∀{u:HO},(∀J,u ≠ .ext J)->H a=cI u->a≠p:=λO q e=>by rw[e,I]at q;exact O _ (OW q).symm
  rcases g with(hq | ⟨o',hq⟩) | hq
  ·exact .inl (.inl<|by rw[MB (z (λ_=>by simp) hq)];exact hq)
  ·exact .inl<|.inr ⟨o',by rw[MB (z (λ_=>by simp) hq)];exact hq⟩
  ·exact .inr hq
 | .lp _ _,_,n,_=>nomatch n
 | .hM _ _,_,n,_=>nomatch n
theorem dt.less{K:Ob}{H:Hp}{p:di}{J:ew->Prop}(z:H p=cI (.ext J)) : ∀{I:List D} {xs:List V},H8 I=cL->dt K H I xs->dt K (B6 H p) I xs
 | [],_,_,h=>h
 | d::I,xs,n,h=>by obtain⟨x,r,a,b,e⟩:=(show ∃x r,xs=x::r/\Rep K H d x/\dt K H I r from h);have n:(S6 d && H8 I)=cL:=n;rw[Oo]at n;exact(show ∃x r,xs=x::r/\Rep K (B6 H p) d x/\dt K (B6 H p) I r from⟨x,r,a,Rep.less z n.1 b,dt.less z n.2 e⟩)
end
noncomputable def VB(f:CO D):CO D:=λb=>(f b).bind λd=>match d with
 | .hM _ a=>(cp a).map D.int
 | _=>cR
section
variable{prog:gB}{w:fm}{A:i8}{E:EQ}{s:d8}{d it:di}{o:i5}{es:Array L1}{i n ep:Nat}
noncomputable def Vy(d:di):i5:={cls:= .type "dict_values",data:= .fields #[.ref d]}
theorem Wn{Q:EQ}(z:s.TypeIs (.ref d) "dict")(J:(d==tr)=dd)(I:Q (.ref s.heap.objs.size) {s with heap:=s.heap.push (Vy d)}):wpAny (d5 prog w) A (call (.builtin "dict.values") [.ref d]) Q E s:=by refine p5 F.slot_dict_values z F.entry_dict_values ?_ (F.args_dict_values_1 _);show wpAny _ _ (do let d <- Builtin.Dict.noArgs "values" ⟨[OR d],[]⟩;Sz d;let v <- newFields "dict_values" [OR d];ret v) _ _ s;unfold Builtin.Dict.noArgs;refine Oc (Oc (UT z ?_));refine Oc (m:=Builtin.Dict.nameIsSure _ _ _) (Uk (a:=()) (by rfl) ?_);refine Oc (m:=selfOnly _ _) (Uk (a:=OR d) (by rfl) ?_);refine Oi ?_;show wpAny _ _ (Sz d >>= _) _ _ s;unfold Sz;rw[DJ (by rw[J];exact Oy)];refine Oc (Oi ?_);unfold newFields;refine Oc (Pg (Oi ⟨_,rfl,?_⟩));exact I
theorem iy{v:di}{ov:i5}{Q:EQ}(z:s.heap.get? v=cI (Vy d))(I:s.heap.get? d=cI o)(O:o.data = .dict es ep)(L:es.size=n)
 (J:Q (.ref s.heap.objs.size) {s with heap:=s.heap.push {cls:= .type "dict_valueiterator",data:= .fields #[.ref d,.int 0 0,.int n 0,.int ep 0]}}):wpAny (d5 prog w) A (E9 (.ref v)) Q E s:=by
 have Y:s.TypeIs (.ref v) "dict_values":=⟨_,z,rfl⟩;refine _h Y F.slot_dict_values_iter (p5 F.slot_dict_values_iter Y F.entry_dict_values_iter ?_ (F.args_dict_values_iter_1 _));unfold n9.«dict_values.__iter__»;refine Oc (m:=Builtin.Dict_items.slot0 _ _) (Uk (a:=OR v) (by rfl) ?_);unfold Builtin.Dict_items.dictOf;refine Oc (Oc (PZ z rfl (x:= .ref d) rfl ?_));refine Oi ?_;unfold Builtin.Dict_items.newIterator;refine Oc (Oc (Td I O ?_));refine Oc (TC I O ?_);have b:RH "dict_valueiterator" = dd:=by decide
 simp only[b,Pa,if_false];unfold newFields;refine Pg (Oi ⟨_,rfl,"dict_valueiterator",_,⟨_,Oz _ rfl,rfl⟩,RP.lookup,?_⟩);simpa[o5,L]using J
theorem oF{Q:Option dq->d8->Prop}(z:s.heap.IsValIter it d i n ep)(Y:s.heap.get? d=cI o)(J:o.data = .dict es ep)(hsz:es.size=n)(L:i<es.size)
 (hQ : ∀h',h'.IsValIter it d (i+1) n ep->RE it s.heap h'->Q (cI es[i].val) {s with heap:=h'}):wpAny (d5 prog w) A (rr<|.ref it) Q E s:=by
 obtain⟨o,I,e,a⟩:=id z;unfold rr;refine Oc (Te (Po (name:=Px "__next__") z.typeIs RP
  (p5 RP z.typeIs V? ?_ (Z? _))))
 refine Oc (Oi ?_);refine Oc ?_;refine Oc ?_;refine Oc (SF z.typeIs (Oi ?_));refine Oc (f' I a ?_);have b:RH "dict_valueiterator" = dd:=by decide
 simp only[b,Pa,if_false];show wpAny _ _ (if (OR d==Ph)=cL then _ else _) _ _ s;rw[DJ (show ¬((OR d==Ph)=cL)from Oy)];refine Oc<|Oi ?_;refine Oc<|Td Y J ?_;rw[DJ (by rw[hsz];simp)];refine Oc<|Oi ?_;refine Oc<|TC Y J ?_;rw[DJ ⋯];refine Oi ?_;simp only[show ¬((i:Int)<0)from by omega,if_false,Pq,Tb L];refine Oc ?_;refine Oc<|SF z.typeIs<|Oi ?_;refine Oc<|UU z.typeIs ?_;show wpAny _ _ (FI (.ref it) 1 (o5<|(i:Int)+1) >>= _) _ _ s;refine Oc<|TQ I a ⋯ ?_;have O:(s.heap.update it<|Uy (·.setIfInBounds 1 (o5<|(i:Int)+1))).IsValIter it d (i+1) n ep:=
  ⟨_,SK _ I<|TK<|Sm a _,(Us ..).trans e,by rw[Sm a];simp[o5]⟩
 refine Oc<|Sb ?_;refine Oc<|UU (s:={s with heap:=s.heap.update it (Uy (·.setIfInBounds 1 (o5<|(i:Int)+1)))}) O.typeIs ?_;rw[DJ ⋯];refine Oc<|UU (s:={s with heap:=s.heap.update it (Uy (·.setIfInBounds 1 (o5<|(i:Int)+1)))}) O.typeIs ?_;rw[DZ ⋯];exact Oi<|Oi ⟨_,rfl,Oi<|hQ _ O<|So ..⟩
theorem YQ{Q:Option dq->d8->Prop}(hh:A.handled=cR)(z:s.heap.IsValIter it d i n ep)(I:s.heap.get? d=cI o)(O:o.data = .dict es ep)(hsz:es.size=n)(J:es.size<=i)
 (L : ∀h',Heap.ExtBut it s.heap h'->Q cR {s with heap:=h'}):wpAny (d5 prog w) A (rr<|.ref it) Q E s:=by
 obtain⟨o,Y,g,e⟩:=id z;unfold rr;refine Oc (Te (Po (name:=Px "__next__") z.typeIs RP
  (p5 RP z.typeIs V? ?_ (Z? _))))
 refine Oc (Oi ?_);refine Oc ?_;refine Oc ?_;refine Oc (SF z.typeIs (Oi ?_));refine Oc (f' Y e ?_);have f:RH "dict_valueiterator" = dd:=by decide
 simp only[f,Pa,if_false];show wpAny _ _ (if (OR d==Ph)=cL then _ else _) _ _ s;rw[DJ (show ¬((OR d==Ph)=cL)from Oy)];refine Oc (Oi ?_);refine Oc (Td I O ?_);rw[DJ (by rw[hsz];simp)];refine Oc (Oi ?_);refine Oc (TC I O ?_);rw[DJ ⋯];refine Oi ?_;simp only[show ¬((i:Int)<0)from by omega,if_false,Pq,Array.getElem?_eq_none J];refine Oc ?_;refine Oc (SF z.typeIs (Oi ?_));show wpAny _ _ (FI (.ref it) 0 .none >>= _) _ _ s;refine Oc (TQ Y e ⋯ ?_);show wpAny _ _ (E7 (.type "StopIteration") [] >>= _) _ _ _;refine Oc ?_;simp only[E7,ME];refine Oc (Pg ?_ (by size_fits));refine Oc (m:=DC _ _) (Uk (a:=Ph) (by first | rfl | (simp only[DC];rfl)) ?_);refine Pg ?_ (by size_fits);simp only[raiseNew];refine Oc (_d ?_);rw[show A.in1.handled=cR from hh];refine Oc (Oi (wpAny_throw ?_));refine Oc (UL (T:="StopIteration") (b:=cL) ⟨_,Oz _ rfl,rfl⟩ f_ ?_);exact Oi (L _ (((So ..).extBut.push _).push _))
end
theorem bP{prog:gB}{w:fm}{A:i8}{d I:di}{o:i5}{J:Array L1}{L:Nat}{xs:List (List Int×di×dq)}(hh:A.handled=cR)(O:o.data = .dict J L)(Y:J.toList=xs.map (λx=>⟨mV x.1,.ref x.2.1,x.2.2⟩))(a3:d≠I) :
 Walks prog w A I [I,d] [I] xs.length (λi v=>∃e,xs[i]? = cI e/\v=e.2.2) (λi h=>h.IsValIter I d i xs.length L/\h.get? d=cI o):=
 have f:J.size=xs.length:=by rw[<- PM,Y,OC]
 {sub:=λb a=>by simp at a;simp[a]
  frame:=λ_ _ _ st l=>⟨st.1.at λo e=>l _ ⋯ o e,l d ⋯ o st.2⟩
  item:=λi s Q E t st z=>by
   have j:i<J.size:=by omega
   have m:xs[i]? = cI xs[i]:=Oe t;have r:J[i].val=xs[i].2.2:=by
    have:J.toList[i]? = cI J[i]:=by rw[TJ,Tb j]
    rw[Y,OF,m]at this;rw[<- OW this]
   refine oF st.1 st.2 O f j λg n k=>?_;exact z _ g s.toks ⟨_,m,r⟩ ⟨n,k.extBut d o a3 st.2⟩ λb o a e=>k.extBut b o (λh=>a<|by simp[h]) e
  done:=λs Q E st z=>YQ hh st.1 st.2 O f ⋯ λg p=>z g s.toks λb o a e=>p b o (λh=>a<|by simp[h]) e
  self:=λ_ _ _ _ st z=>wpAny_pyIter_valiter st.1 z}
section
variable{X:Cx}{sc:f9}{N L:List Str}{k:Nat}{o:dy}{f:CO D}{p pos apos cpos:eo}
theorem uD(h:SX X sc N L k)(c:yT sc "sum" = cL)(z:X.mg "sum" = cR)(ho:PV X o f)(ab:vt o "values" X.env (d3 o X.env)=d3 o X.env:=by rfl)(ac:(apos.endLine==cpos.line)=cL:=by rfl)
 (hs:ei [.Call (.Attribute o "values" apos) [] [] cpos] X.env=[(dd,d3 (.Call (.Attribute o "values" apos) [] [] cpos) X.env)]:=by rfl) :
 PV X (.Call (.Name "sum" p) [.Call (.Attribute o "values" apos) [] [] cpos] [] pos) (VB f):=by
 intro m s σ H Q I M;obtain⟨R,γ,zbc,rc,Y,q⟩:=M;obtain⟨d1,e1,Y⟩:=zb Y;cases d1 with
 | hM U vs=>
  obtain⟨nn,e3,e4⟩:=zv Y;subst e4;obtain⟨d,rfl,rfl⟩:=ZS e3;have hh:X.A.handled=cR:=I.ok.hd h.calm;refine RT (kA I (h.gl c).1 z PyProof.Rows.boot_sum (Tq ?_ (by rw[hs];rfl) rfl) ⋯ ⋯);rw[hs];show wpAny _ _ (FL ((dd,d3 (.Call (.Attribute o "values" apos) [] [] cpos) X.env)::[])) _ _ s;refine RN (wpAny_Call_method0_late ab ac (ed (ho m s σ H (λv j=>∃O,Ext R H O j/\Rep X.K O (.hM U (d.map D.int)) v) I ⟨R,γ,_,rc,e1,λv j O x r=>⟨O,x,r⟩⟩) λu l M=>?_));obtain⟨v,j,E,r1,O,x1,rp⟩:=M;obtain⟨ad,B,rfl,⟨g0,W,g,g1,g2,g3,g4,g5,g6⟩,g7⟩:=(show ∃a Z,v = .ref a/\A3 X.K O a U Z/\dt X.K O (d.map D.int) Z from rp);cases (show u=OR ad from r1);have G:=JO E (x1.sub _ _ g1) g2 λx hx=>ix x1.sub (g5 x hx);obtain⟨b0,_⟩:=(show ij X.prog X.w j l.heap ad (m7 ad W)from E.eG ad _ (x1.sub _ _ g1));obtain⟨c6,eA,ep,S,C,nd⟩:=g2;refine⟨"dict","dict.values",PySem.F.plainAttrs_dict,PySem.F.slot_dict_values,PySem.F.type_dict_values,G.typeIs,dictOfH_noDict G,UB rfl (PySem.evalArgs_none (Wn G.typeIs g0 ?_))⟩;refine SQ ?_;have I2:=E.kept (h':=l.heap.push (Vy ad)) (t':=l.toks) λb o e=>Of _ e;have J:(l.heap.push (Vy ad)).get? ad=cI W:=Of _ b0;have bd:(l.heap.push (Vy ad)).get? l.heap.objs.size=cI (Vy ad):=Oz _ rfl;have P:eA.size=g.length:=by rw[<- PM,C,OC]
  have lt:=OD J;have nm : ∀{d:List Int} {B:List V} {g:List (List Int×di×dq)},dt X.K O (d.map D.int) B->ej B (g.map (·.2.2))->g.length=d.length/\∀(i:Nat) e,g[i]? = cI e->∃t,e.2.2 = .int (d.getD i 0) t:=λ{d}=>by
   induction d with
   | nil=>
    intro B g a b;rw[a.ow]at b;have:g=[]:=by
     cases g with
     | nil=>rfl
     | cons x r=>cases b
    subst this;exact⟨rfl,λi e q=>by simp at q⟩
   | cons n d ih=>
    intro B g a b;obtain⟨y,yr,rfl,a1,a2⟩:=a.l6;cases g with
    | nil=>cases b
    | cons x r=>
     have b':ej (y::yr) (x.2.2::r.map (·.2.2)):=b;cases b' with
     | cons b1 b2=>
      obtain⟨i1,i2⟩:=ih a2 b2;refine⟨by simp[i1],λi e q=>?_⟩;cases i with
      | zero=>
       cases q;rw[show y=V.int n from a1]at b1;obtain⟨t,ht⟩:=b1;exact⟨t,ht⟩
      | succ i=>exact i2 i e (by simpa using q)
  obtain⟨nl,nv⟩:=nm g7 g6;refine call_sum_walkG<|iy (ov:=Vy ad) bd J S P ⟨_,[_,ad],[_],g.length,_,_,λi=>d.getD i 0,rfl,bP (A:=X.A.in1) hh S C<|ON lt,⟨⟨_,Oz _ rfl,rfl,rfl⟩,Of _ J⟩,?_,?_,?_⟩
  ·intro b T
   rw[nr];simp only[OA,OP,or_false]at T;rcases T with rfl | rfl
   ·exact PR _
   ·exact Py lt
  ·rintro i v ⟨e,C,rfl⟩
   exact nv i e C
  ·intro h' tk t' hk
   have e:MH (λi=>d.getD i 0) g.length=d.sum:=by rw[vD,Rr ⋯]
   refine⟨.int d.sum,j,I2.kept (t':=tk)<|λb u e=>hk b u ?_ (Of _ e),⟨t',by rw[e]⟩,q _ j O x1 rfl⟩;simp only[OA,OP,or_false];exact ON<|OD e
 | _=>cases Y
end
noncomputable def B9(e:dy):Str:=match e with | .Name x _=>x | _=>""
noncomputable def zl(e:dy):List Str:=match e with | .Tuple a _ _=>a.map B9 | e=>[B9 e]
noncomputable def Dg(N:List Str)(fs:List Nat):List (Str×Nat):=fs.map λi=>(N.getD i "",i)
theorem KA(N:List Str)(fs:List Nat):(Dg N fs).map (·.2)=fs:=by unfold Dg;rw[Pw];exact List.map_id fs
noncomputable def sC(e:dy):Bool:=match e with | .Name _ _=>cL | _=>dd
theorem cZ{e:dy}(h:sC e=cL) : ∃p,e = .Name (B9 e) p:=by
 unfold sC at h;split at h
 ·exact⟨_,rfl⟩
 ·cases h
noncomputable def LU(I:f9)(N L:List Str)(is:List Nat)(J:List dy):Bool:=match is with
 | [i,j]=>(match J with | [a,b]=>sC a && (yF I N L i (B9 a) && (sC b && yF I N L j (B9 b))) | _=>dd)
 | [i,j,l]=>(match J with | [a,b,c]=>sC a && (yF I N L i (B9 a) && (sC b && (yF I N L j (B9 b) && (sC c && yF I N L l (B9 c))))) | _=>dd)
 | _=>dd
noncomputable def I9(I:f9)(N L:List Str)(e:dy)(T:Tg):Bool:=match T with
 | .nm i=>sC e && yF I N L i (B9 e)
 | .tp is=>(match e with | .Tuple a _ _=>LU I N L is a | _=>dd)
theorem tX{X:Cx}{J:f9}{N L:List Str}{k:Nat}(h:SX X J N L k){e:dy}{T:Tg}(c:I9 J N L e T=cL):PG X e (oe X.K T):=by
 cases T with
 | nm i=>
  have c:=Bool.and_eq_true_iff.mp c;obtain⟨p,q⟩:=cZ c.1;rw[q];exact h.n6 _ c.2
 | tp is=>
  unfold I9 at c;dsimp only at c;split at c
  ·next f j pos=>
   unfold LU at c;split at c
   ·split at c
    ·simp only[Oo]at c
     obtain⟨z,I,b1,b2⟩:=c;obtain⟨p,q⟩:=cZ z;obtain⟨b,O⟩:=cZ b1;rw[q,O];exact h.Dk<|jQ (h.n6 _ I)<|jQ (h.n6 _ b2) yP
    ·cases c
   ·split at c
    ·simp only[Oo]at c
     obtain⟨z,I,b1,b2,Y,a⟩:=c;obtain⟨p,q⟩:=cZ z;obtain⟨b,O⟩:=cZ b1;obtain⟨g,d⟩:=cZ Y;rw[q,O,d];exact h.Dk<|jQ (h.n6 _ I)<|jQ (h.n6 _ b2)<|jQ (h.n6 _ a) yP
    ·cases c
   ·cases c
  ·cases c
noncomputable def cB(J scope:f9)(N:List Str)(I:dy)(T:Tg)(n:Nat)(fs:List Nat):Bool:=
 Wl J scope N (Dg N fs) && (HM (zl I) scope (Dg N fs) && (decide (∀i∈T.idx,i<(zl I).length) && (decide ((zl I).length=n) && I9 (yh scope J) (zl I++(Dg N fs).map (·.1)) (zl I) I T)))
abbrev De(X:Cx)(scope:f9)(N:List Str)(tg:dy)(fs:List Nat):=jm X scope (zl tg++(Dg N fs).map (·.1))
abbrev SA(X:Cx)(sc scope:f9)(N:List Str)(tg:dy)(fs:List Nat)(k:Nat)(fp:List di)(s2:d8)(H2:Hp):Prop:=SX (De X scope N tg fs fp s2 H2) (yh scope sc) (zl tg++(Dg N fs).map (·.1)) (zl tg) k
section
variable{X:Cx}{sc scope:f9}{N L:List Str}{k n i:Nat}{fs:List Nat}{T:Tg}{e elt tg iter E2:dy}{es:List dy}{pos p py spos cpos:eo}{x y:Str}{f g:CO D}{fo:CO (List D)}{src gl:CO (List D)}{kk:CO Bool}
theorem cA(h:SX X sc N L k)(c:cB sc scope N tg T n fs=cL):rb X scope (Dg N fs)/\(∀i∈T.idx,i<(zl tg).length)/\(zl tg).length=n/\(∀fp s2 J,SA X sc scope N tg fs k fp s2 J)/\∀fp s2 J,PG (De X scope N tg fs fp s2 J) tg (oe X.K T):=by unfold cB at c;simp only[Oo,decide_eq_true_eq]at c;obtain⟨z,I,O,Y,a⟩:=c;have s : ∀fp s2 J,SA X sc scope N tg fs k fp s2 J:=λfp s2 J=>h.comp I;exact⟨h.D_ z,O,Y,s,λfp s2 J=>tX (s fp s2 J) a⟩
theorem xE(h:SX X sc N L k)(O:sh X tg iter src)(z : ∀fp J I,SA X sc scope N tg fs k fp J I->PV (De X scope N tg fs fp J I) elt f)(c:cB sc scope N tg T n fs=cL:=by decide +kernel)(Y : ∀x,o4 iter X.env x=pure x:=by intro _;rfl) :
 PO X (.ListComp elt [⟨tg,iter,[],0⟩] scope pos) (zR src T n fs jO f):=by
 obtain⟨a,b,d,s,q⟩:=cA h c;have r:=uU (pos:=pos) h.calm a b O q (λfp J I=>z fp J I<|s fp J I) Y;rw[d,KA]at r;exact r
theorem Yz(h:SX X sc N L k)(O:sh X tg iter src)(Y : ∀fp J I,SA X sc scope N tg fs k fp J I->k0 (De X scope N tg fs fp J I) E2 kk)(z : ∀fp J I,SA X sc scope N tg fs k fp J I->PV (De X scope N tg fs fp J I) elt f)(c:cB sc scope N tg T n fs=cL:=by decide +kernel)(hs : ∀x,o4 iter X.env x=pure x:=by intro _;rfl) :
 PO X (.ListComp elt [⟨tg,iter,[E2],0⟩] scope pos) (zR src T n fs kk f):=by
 obtain⟨a,b,d,s,q⟩:=cA h c;have r:=gg (pos:=pos) h.calm a b O q (λfp J I=>Y fp J I<|s fp J I) (λfp J I=>z fp J I<|s fp J I) hs;rw[d,KA]at r;exact r
theorem Zu(h:SX X sc N L k)(O:sh X tg iter src)(z : ∀fp J I,SA X sc scope N tg fs k fp J I->PV (De X scope N tg fs fp J I) elt f)(ct:yF sc N L i y=cL:=by decide +kernel)(c:cB sc scope N tg T n fs=cL:=by decide +kernel)(Y : ∀x,o4 iter X.env x=pure x:=by intro _;rfl) :
 PS X (.Assign [.Name y py] (.ListComp elt [⟨tg,iter,[],0⟩] scope cpos) spos) (XZ (tO X.K<|zR src T n fs jO f)<|yn i):=by
 obtain⟨a,b,d,s,q⟩:=cA h c;have r:=y? (cpos:=cpos) (spos:=spos) (py:=py) i h ct h.calm a b O q (λfp J I=>z fp J I<|s fp J I) Y;rw[d,KA]at r;exact r
theorem Im(h:SX X sc N L k)(O:sh X tg iter src)(Y : ∀fp J I,SA X sc scope N tg fs k fp J I->k0 (De X scope N tg fs fp J I) E2 kk)(z : ∀fp J I,SA X sc scope N tg fs k fp J I->PV (De X scope N tg fs fp J I) elt f)(ct:yF sc N L i y=cL:=by decide +kernel)(c:cB sc scope N tg T n fs=cL:=by decide +kernel)(hs : ∀x,o4 iter X.env x=pure x:=by intro _;rfl) :
 PS X (.Assign [.Name y py] (.ListComp elt [⟨tg,iter,[E2],0⟩] scope cpos) spos) (XZ (tO X.K<|zR src T n fs kk f)<|yn i):=by
 obtain⟨a,b,d,s,q⟩:=cA h c;have r:=Il (cpos:=cpos) (spos:=spos) (py:=py) i h ct h.calm a b O q (λfp J I=>Y fp J I<|s fp J I) (λfp J I=>z fp J I<|s fp J I) hs;rw[d,KA]at r;exact r
theorem zu(h:SX X sc N L k)(c:ZO sc N i x=cL:=by decide +kernel):PV X (.Name x pos) (ze i):=CK i<|h.var c
theorem z6(h:SX X sc N L k)(c:ZO sc N i x=cL:=by decide +kernel):PQ X (.Name x pos) (zq i):=Ee i<|h.var c
theorem MW(h:SX X sc N L k)(c:I9 sc N L e T=cL:=by decide +kernel):PG X e (oe X.K T):=tX h c
theorem jw(h:SX X sc N L k)(z:PV X e f)(c:yF sc N L i x=cL:=by decide +kernel)(I:p4 e (cI (.Name x py)) pos.line X.env=pure dd:=by rfl):l3 X (.Assign [.Name x py] e pos) (jE i f):=uM i<|h.set i c z I
theorem yN(h:SX X sc N L k)(z:PO X e fo)(c:yF sc N L i x=cL:=by decide +kernel)(I:p4 e (cI (.Name x py)) pos.line X.env=pure dd:=by rfl):l3 X (.Assign [.Name x py] e pos) (kU i fo):=ao i<|h.set i c z I
theorem ku{I:List g8}{F:CO Fl}(hx:X.xe=λ_ _=>False)(h:SX X sc N L k)(O:i0 X tg iter src)(J:bM X I F)(c:I9 sc N L tg T=cL:=by decide +kernel)(Y : ∀x,o4 iter X.env x=pure x:=by intro _;rfl):l3 X (.For tg iter I [] pos) (Jb src T F):=uO (Ji hx) h.calm O (tX h c) J Y
variable{j:Nat}{F:List D->Option Res}
theorem z5(z:f7 X.prog X.w X.K X.mg X.base j x n F)(h:SX X sc N L k)(J:A5 X (e::es) n gl)(I:j<=k:=by decide)(c:yT sc x=cL:=by decide +kernel)
 (O:ei (e::es) X.env=(dd,d3 e X.env)::ei es X.env:=by rfl) (Y:(j1 pos<|starEach es X.env).any (·.1)=dd:=by rfl):PV X (.Call (.Name x p) (e::es) [] pos) (zJ F gl):=Ik z I h c J O Y
theorem kX(z:f7 X.prog X.w X.K X.mg X.base j x n F)(h:SX X sc N L k)(J:A5 X (e::es) n gl)(I:j<=k:=by decide)(c:yT sc x=cL:=by decide +kernel)
 (O:ei (e::es) X.env=(dd,d3 e X.env)::ei es X.env:=by rfl) (Y:(j1 pos<|starEach es X.env).any (·.1)=dd:=by rfl):PO X (.Call (.Name x p) (e::es) [] pos) (jU F gl):=Io z I h c J O Y
end
noncomputable def XM:=jn 1 (zS (jb (uq (kW (sB (DN .str (ze 0)))) (sB (zw E' (Yn (ze 0)) (zx (.int 6))))) (xM (zx (.bl dd))) kE) (xM (fM (jR (zR (Cr (ze 0)) (.nm 0) 1 [] jO (Nj (ze 0) (zL (zx (.tup [.str "r",.str "l"])))))))))
noncomputable def Zq:=jn 2<|zS (jb (uq (kW<|sB<|zJ Wy<|zc (ze 1)<|zc (zx<|.int 2) zC)<|uq (kW<|sB<|zJ y8<|zc (ze 0)<|zc (dr (zq 1)<|zx<|.int 0) zC)<|kW<|sB<|zJ y8<|zc (ze 0)<|zc (dr (zq 1)<|zx<|.int 1) zC) (xM<|zx<|.bl dd) kE)<|xM<|zw rk (dr (zq 1)<|zx<|.int 0)<|dr (zq 1)<|zx<|.int 1
noncomputable def mj:=jn 2<|Ja<|zR (Xd<|ze 0) (.tp [0,1]) 2 [1] (sB<|vn rk rk (dr (zq 1)<|zx<|.int 0) (ze 2)<|dr (zq 1)<|zx<|.int 1) (ze 0)
noncomputable def Wz:=jn 3<|zS (jE 2<|xh<|zR (zO<|zq 0) (.nm 0) 1 [1] jO (jd<|jR<|zR (zO<|zq 1) (.nm 0) 1 [0] jO (VE (sB<|zw ft (ze 1)<|ze 0) (zx<|.int 1)<|zx<|.int 0)))<|xM<|qe<|zc (wG<|zq 0)<|zc (wG<|zq 1)<|zc (jd<|zq 2) zC
noncomputable def ja:=jn 5<|zS (jb (xi (sB<|zw p3 (wG<|zq 0)<|zx<|.int 1)<|sB<|zw ft (zw kj (dr (zq 0)<|zx<|.int 0)<|zx<|.int 2)<|zx<|.int 1) (zS (jE 2<|dr (zq 0)<|zw qg (zx<|.int 1)<|zw kj (ze 1)<|zw vg (wG<|zq 0)<|zx<|.int 1)<|zS (Jb (jI<|Cs (zx<|.int 60)<|zw K1 (ze 1)<|zw vg (wG<|zq 0)<|zx<|.int 1) (.nm 3)<|jE 2<|zw K1 (ze 2)<|zw Bf (zx<|.int 10)<|zx<|.int 9)<|xM<|zw kj (ze 2)<|zw Bf (zx<|.int 10)<|zx<|.int 9) kE)<|zS (jE 4<|ze 1)<|zS (jb (sB<|zw p3 (wG<|zq 0)<|zx<|.int 0) (jE 4<|dr (zq 0)<|zw kj (ze 1)<|wG<|zq 0) kE)<|xM<|zw kj (zw ya (zw kj (zw qg (zw qg (zw qg (zw ya (zw kj (ze 4)<|zw Bf (zx<|.int 10)<|zx<|.int 30)<|zx<|.int 48271)<|zw ya (zw ya (zx<|.int 7)<|ze 1)<|ze 1)<|zw ya (zx<|.int 13)<|ze 1)<|zx<|.int 5)<|zx<|.int 2147483647)<|zx<|.int 69621)<|zx<|.int 1000000007
noncomputable def qV:=jn 5<|zS (jE 3<|xh<|zR (rO (dr (zq 0)<|zx<|.int 2)<|dr (zq 2)<|zx<|.int 2) (.tp [0,1]) 2 [] jO (zw qg (ze 0)<|ze 1))<|zS (jE 4<|xh<|zR (zO<|zL<|dr (zq 1)<|zx<|.int 2) (.nm 0) 1 [0] jO (zw qg (zw ya (qe<|zc (zx<|.int 0) zC)<|dr (zq 1)<|zx<|.int 1)<|ze 0))<|xM<|qe<|zc (zw qg (dr (zq 0)<|zx<|.int 0)<|dr (zq 1)<|zx<|.int 0)<|zc (zw qg (dr (zq 0)<|zx<|.int 1)<|dr (zq 1)<|zx<|.int 1)<|zc (jd<|zL<|xh<|fK (zq 3)<|zq 4) zC
noncomputable def wB:=jn 2<|xM<|zJ xt<|zc (dr (zq 0)<|zx<|.int 0)<|zc (dr (zq 1)<|zx<|.int 1) zC
noncomputable def qp:=jn 2<|xM<|zJ qV<|zc (ze 0)<|zc (ze 1)<|zc (zJ wB<|zc (ze 0)<|zc (ze 1) zC) zC
noncomputable def yv:=jn 3<|Ja<|jU kg<|zc (ze 0)<|zc (dr (zq 1)<|zx<|.int 0)<|zc (xh<|zR (zO<|zq 2) (.nm 0) 1 [0,1] jO (zJ mh<|zc (ze 1)<|zc (ze 2)<|zc (ze 0) zC)) zC
noncomputable def VX:=(Mb 4<|kU 4<|rQ yv qr<|zc (dr (zq 0)<|zx<|.int 0)<|zc (dr (zq 5)<|zx<|.int 0)<|zc (zJ qp<|zc (ze 3)<|zc (dr (zq 5)<|zx<|.int 1) zC)<|zc (ze 4) zC)
noncomputable def bO:=jn 6<|zS (jE 3<|zJ j7<|zc (dr (zL<|dr (zq 0)<|zx<|.int 1)<|ze 1) zC)<|zS (kU 4<|zR (zO<|zL<|dr (zq 3)<|zx<|.int 2) (.nm 0) 1 [] jO (zw qg (ze 0)<|ze 0))<|zS (Jb (zO<|zL<|VC (dr (zq 0)<|zx<|.int 2) (o6<|ze 1)<|o6<|ze 2) (.nm 5) VX)<|Zt 4
noncomputable def jv:=jn 2 (zS (jb (sB (zw ft (ze 1) (zx (.str "r")))) (xM (qe (zc (ze 0) (zc (zw qg (ze 0) (zx (.int 1))) zC)))) kE) (xM (qe (zc (zw qg (ze 0) (zx (.int 1))) (zc (ze 0) zC)))))
noncomputable def Xe:=(zS (uo (.tp [7,8])<|zJ jv<|zc (ze 5)<|zc (ze 6) zC)<|jS 4<|qe<|zc (ze 6)<|zc (qe<|zc (dr (zq 2)<|ze 8)<|zc (dr (zq 2)<|ze 7)<|zc (jd<|jR<|zR (zO<|zL<|dr (zq 3)<|ze 5) (.nm 0) 1 [] jO (jd<|zq 0)) zC) zC)
noncomputable def qt:=jn 9<|zS (kU 4<|ye zC)<|zS (Jb (xW<|ze 1) (.tp [5,6]) Xe)<|xM<|qe<|zc (ze 0)<|zc (jd<|zq 2)<|zc (jd<|zq 4) zC
noncomputable def xu:=jn 4 (zS (jE 2 (zx (.str ""))) (zS (Jb (jI (zw vg (ze 1) (zx (.int 1)))) (.nm 3) (zS (jE 2 (nC (ze 2) (Xc (zx (.str "rl")) (zw kj (ze 0) (zx (.int 2)))))) (jE 0 (zw K1 (ze 0) (zx (.int 2)))))) (Zt 2)))
abbrev rn(k:Sk)(xs:List D):D:=match k with | .T=>D.tup xs | .L=>D.lst xs
@[simp] theorem zaX(k xs):jo (rn k xs)=cI (k,xs):=by cases k<;>rfl
theorem XI(k:Sk)(f:Nat->Int)(z:0<p)(I:n<=lim) :
 xJ [.int p,rn k (zP n f)]=cI (.val<|.tup<|zP n λi=>f i%p):=by
 simp[xJ,jn,jx,jL,I,xm];unfold zP;rw[zD (r:=λi=>D.int<|f i%p)]
 ·simp
 ·intro i a
  refine zF rfl rfl ?_;simp[z]
theorem me(f:Nat->Int)(z:0<p)(I:n<=lim) :
 xJ [.int p,.tup (zP n f)]=cI (.val<|.tup<|zP n λi=>f i%p):=XI .T f z I
theorem JY(f:Nat->Int)(z:0<p)(I:n<=lim) :
 xJ [.int p,.lst (zP n f)]=cI (.val<|.tup<|zP n λi=>f i%p):=XI .L f z I
theorem rG(k:Sk)(f:DW)(g:Nat->Int)(I:0<p)(z:h<=lim)(J:w<=lim)(O : ∀i j,i<h->j<w->0<=f i j/\f i j<100) :
 mh [.int p,jV h w f,rn k (zP w g)]=cI (.val<|.tup<|zP h λi=>zf (λj=>f i j*g j) w%p):=by
 simp[mh,jn,jx,jL,z,xm,jV,gx];unfold zW;rw[zD (r:=λi=>D.int<|zf (λj=>f i j*g j) w)]
 ·simp
  rw[show(Rq (λi=>D.int<|zf (λj=>f i j*g j) w)<|Od h)=zP h λi=>zf (λj=>f i j*g j) w from rfl,JY _ I z];rfl
 ·intro i a
  refine zF rfl rfl ?_;simp[jL,XN,J];rw[zD (r:=λj=>D.int<|f i j*g j)]
  ·simp
   rw[show(Rq (λj=>D.int<|f i j*g j)<|Od w)=zP w λj=>f i j*g j from rfl,ZT]
  ·intro j Y
   refine zF rfl rfl ?_;have:=O i j (Oj.mp a)<|Oj.mp Y;simp[yC (f i j) (g j) ⋯ ⋯]
theorem ka(f:DW)(z:h<=lim)(J:w<=lim):ju [jV h w f]=cI (.val<|jV w h λi j=>f j i):=by
 simp[ju,jn,jx,jL,z,J,xm,jV,gx,jM,qR];rw[jt w λi=>(i:Int)];rw[zD (r:=λj=>D.tup<|zP h λi=>f i j)]
 ·simp
  rfl
 ·intro j I
  refine zF rfl rfl ?_;simp[jL,z,xm];unfold zW;rw[zD (r:=λi=>D.int<|f i j)]
  ·simp
   rfl
  ·intro i b
   refine zF rfl rfl ?_;have a:=Oj.mp I;simp[a,xR _ a]
theorem wA(I:n<=lim):j7 [.int n]=cI (.val<|jV n n λi j=>if i=j then 1 else 0):=by
 simp[j7,jn,jx,jM,I,jL,xm,gx,qR];rw[jt n λi=>(i:Int)];rw[zD (r:=λi=>D.tup<|zP n λj=>if i=j then 1 else 0)]
 ·simp
  rfl
 ·intro i a
  refine zF rfl rfl ?_;simp[I,jL,gx,qR,xm];rw[jt n λi=>(i:Int)];rw[zD (r:=λj=>D.int<|if i=j then 1 else 0)]
  ·simp
   rfl
  ·intro j z
   refine zF rfl rfl ?_;simp;by_cases e:i=j
   ·simp[e]
   ·rw[DJ ⋯,DJ e]
theorem vP(d:D)(w:Nat):gx w d=(Od w).map λ_=>d:=by
 induction w with
 | zero=>rfl
 | succ n z=>rw[List.replicate_succ',z,Rx,PB];simp
theorem Ww(z:h<=lim)(I:w<=lim):xt [.int h,.int w]=cI (.val<|jV h w λ_ _=>0):=by simp[xt,jn,jx,jM,ya,z,I];rw[vP,vP];rfl
noncomputable def bh(ns:List Int):D:= .lst (ns.map D.int)
mutual
theorem Pz : ∀d:D,hH d d=cL
 | .eg=>rfl
 | .bl b=>by simp[hH]
 | .int i=>by simp[hH]
 | .str x=>by simp[hH]
 | .tup e=>by simp only[hH];exact E4 e
 | .lst e=>by simp only[hH];exact E4 e
 | .lp a b=>by simp only[hH];rw[E4 a,E4 b];rfl
 | .hM a b=>by simp only[hH];rw[E4 b];simp
theorem E4 : ∀I:List D,s8 I I=cL
 | []=>rfl
 | d::I=>by simp only[s8,Pz d,E4 I,Bool.and_self]
end
theorem bj : ∀{l:List D} {n:Nat},(∀d∈l,deep d<=n)->B0 l<=n
 | [],n,_=>Rg n
 | d::ds,n,h=>by simp only[B0];exact Nat.max_le.mpr ⟨h d Ot,bj λe z=>h e<|Ow _ z⟩
theorem pS(n f):deep (.tup<|zP n f)<=1:=by
 simp only[deep];have:B0 (zP n f)<=0:=bj λd a=>by simp[zP]at a;obtain⟨i,_,rfl⟩:=a;exact Ou _
 omega
theorem gG : ∀{l:List D},(∀d∈l,mu d=cL)->i9 l=cL
 | [],_=>rfl
 | d::ds,h=>by simp only[i9,h d Ot,gG λe z=>h e<|Ow _ z,Bool.and_self]
theorem EF(h:deep d<=n)(J:n<=20)(I:mu d=cL):iv d=cL:=by unfold iv;rw[I,Bool.and_true];exact decide_eq_true<|PK h J
theorem Am(n f):mu (.tup<|zP n f)=cL:=by
 simp only[mu];exact gG λd a=>by simp[zP]at a;obtain⟨i,_,rfl⟩:=a;rfl
theorem An(n f):iv (.tup<|zP n f)=cL:=EF (pS n f) ⋯<|Am n f
theorem bu(h:iv d=cL):ft d d=cI (.bl cL):=by unfold ft;rw[DZ ⟨h,h⟩,Pz]
theorem bq{d:D}(h:iv d=cL):i6 d d=cI (.bl dd):=by unfold i6;rw[DZ ⟨h,h⟩,Pz];rfl
theorem eU{I:Type}(l:List I):XY (l.map λ_=>D.bl cL)=cI (l.map λ_=>cL):=by
 induction l with
 | nil=>rfl
 | cons a l z=>simp[XY,Gx,z]
theorem Ms(a b c:D):Zy [a,b,c] cR (cI 2)=[a,b]:=by simp[Zy,QL]
noncomputable def f6(b:Bool):Nat:=if b then 108 else 114
noncomputable def xc(c:Nat):Str:=⟨#[c]⟩
theorem Xs : ∀(l:List Nat),(LN "" (l.map xc)).cps.toList=l
 | []=>rfl
 | [c]=>rfl
 | c::d::l=>by
  have z:=Xs (d::l);show((xc c++("" : Str))++LN "" ((d::l).map xc)).cps.toList=_;have e : ∀a b:Str,(a++b).cps.toList=a.cps.toList++b.cps.toList:=λa b=>by show(a.cps++b.cps).toList=_;simp
  rw[e,e,z];rfl
noncomputable def qP(m:Nat)(w:DV):Str:=LN "" ((Od m).map λk=>xc (f6 (w k)))
theorem kS(m w):(qP m w).cps.toList=(Od m).map λk=>f6 (w k):=by have:=Xs<|(Od m).map λk=>f6<|w k;rw[Pw]at this;exact this
theorem WH(m w):(qP m w).length=m:=by show(qP m w).cps.size=m;rw[<- PM,kS];simp
theorem va{m:Nat}(w)(I:m<=1000):jy (qP m w)=cL:=decide_eq_true (by rw[WH];exact I)
theorem WV{I:Type}(g:I->Str) : ∀l:List I,Ye (l.map λx=>D.str<|g x)=cI (l.map g)
 | []=>rfl
 | a::l=>by simp[Ye,WV g l]
noncomputable def g9(w:DV)(wd:DK)(k:Nat):Nat:=if w k then wd k else wd (k+1)
noncomputable def hD(w:DV)(wd:DK)(k:Nat):Nat:=if w k then wd (k+1)else wd k
noncomputable def wH(w:DV)(wd:DK)(T:DQ)(k:Nat):D:= .tup [.str (xc<|f6<|w k),jV (g9 w wd k) (hD w wd k) (T k)]
noncomputable def qJ(m:Nat)(w:DV)(wd:DK)(T:DQ):List D:=(Od m).map (wH w wd T)
noncomputable def qB(p:Int)(m:Nat)(w:DV)(wd:DK)(T:DQ):D:= .tup [.int p,.tup<|zP (m+1) λk=>(wd k:Int),.tup (qJ m w wd T)]
@[simp] theorem lS(m w wd T):(qJ m w wd T).length=m:=by simp[qJ]
theorem Ez(b:Bool):iv (.str<|xc<|f6 b)=cL:=by cases b<;>decide +kernel
theorem iQ(b:Bool):ft (.str (xc (f6 b))) (.str "r")=cI (.bl (!b)):=by
 have e : ∀b:Bool,(xc (f6 b)==(Px "r")) = !b:=by decide +kernel
 have z:iv (.str (Px "r"))=cL:=by decide +kernel
 unfold ft;rw[DZ ⟨Ez b,z⟩];show cI (D.bl (xc (f6 b)==Px "r"))=_;rw[e]
theorem Hx:Px "r" = xc (f6 dd):=by decide +kernel
theorem Hy:Px "l" = xc (f6 cL):=by decide +kernel
theorem QN(b:Bool):kc [.str (xc<|f6 b)]=cI (.val<|.str<|xc<|f6 !b):=by have a:=Hx;have d:=Hy;have q:=iQ b;rw[a]at q;cases b<;>simp[kc,jn,jx,a,d]at q ⊢ <;> simp[q]
theorem lr(f:Nat->D)(L:i<=j)(J:j<=n):Zy ((Od n).map f) (cI (i:Int)) (cI (j:Int))=(Od<|j - i).map λk=>f (i+k):=by
 have c : ∀(d k:Nat),k<=n->QL n d (cI (k:Int))=k:=λd k a=>by show(if (k:Int)<0 then ((k:Int)+n).toNat else min (k:Int).toNat n)=k;rw[DJ ⋯];simp only[Pq];omega
 have z:((Od n).map f).length=n:=by simp
 unfold Zy;rw[z,c 0 i ⋯,c n j J];apply _t
 ·simp;omega
 ·intro k I g2
  simp
section
variable{p:Int}{m:Nat}{w:DV}{wd:DK}{T:DQ}
theorem FO(I:i<=j)(J:j<=m):Zy (qJ m w wd T) (cI (i:Int)) (cI (j:Int))=qJ (j - i) (λk=>w<|i+k) (λk=>wd<|i+k) (λk=>T<|i+k):=by unfold qJ;rw[lr _ I J];apply OB;intro k a;unfold wH g9 hD;rfl
end
section
variable{p:Int}
noncomputable def yt(h w:Nat)(f:DW):List D:=(Od h).map λi=>D.lst<|zP w<|f i
@[simp] theorem FE(h w f):(yt h w f).length=h:=by simp[yt]
end
theorem zk : ∀{n:Nat},(∀k,k<n->f k=g k)->zf f n=zf g n
 | 0,_=>rfl
 | n+1,h=>by simp only[zf];rw[zk (n:=n) λk a=>h k ⋯,h n ⋯]
theorem zz(n:Nat):zf (λ_=>0) n=0:=by
 induction n with
 | zero=>rfl
 | succ n z=>simp[zf,z]
theorem zK(I:i<n)(h : ∀k,k<n->k≠i->f k=0):zf f n=f i:=by
 induction n with
 | zero=>omega
 | succ n z=>
  simp only[zf];by_cases e:i=n
  ·subst e
   rw[zk (g:=λ_=>0) (λk a=>h k ⋯ ⋯),zz];omega
  ·rw[z ⋯ λk a=>h k ⋯,h n ⋯ ⋯]
   omega
theorem z9(f g:Nat->Int)(n:Nat):zf (λk=>f k+g k) n=zf f n+zf g n:=by
 induction n with
 | zero=>rfl
 | succ n z=>simp only[zf,z];omega
theorem jG(f:Nat->Int)(c:Int)(n:Nat):zf (λk=>f k*c) n=zf f n*c:=by
 induction n with
 | zero=>simp[zf]
 | succ n z=>simp only[zf,z,TH]
theorem zZ(f:Nat->Int)(c:Int)(n:Nat):zf (λk=>c*f k) n=c*zf f n:=by
 induction n with
 | zero=>simp[zf]
 | succ n z=>simp only[zf,z,Tp]
theorem jZ(f:DW)(n m:Nat):zf (λi=>zf (λj=>f i j) m) n=zf (λj=>zf (λi=>f i j) n) m:=by
 induction n with
 | zero=>simp[zf,zz]
 | succ n z=>simp only[zf];rw[z,<- z9]
theorem zy : ∀{n:Nat},(∀k,k<n->f k%p=g k%p)->zf f n%p=zf g n%p
 | 0,_=>rfl
 | n+1,h=>by simp only[zf];rw[OE,zy (n:=n)<|λk a=>h k ⋯,h n ⋯,<- OE]
theorem gT(p x y:Int):(x%p*y)%p=(x*y)%p:=by rw[Om,Pc,<- Om]
theorem qw(p x y:Int):(x*(y%p))%p=(x*y)%p:=by rw[Om,Pc,<- Om]
abbrev Vc:=Nat->Int
noncomputable def Pr(p:Int):Prop:=p=2\/p=3\/p=5\/p=7
theorem Pr.pos(h:Pr p):0<p:=by unfold Pr at h;omega
theorem Pr.two(h:Pr p):2<=p:=by unfold Pr at h;omega
theorem Pr.le(h:Pr p):p<=7:=by unfold Pr at h;omega
theorem Pr.one(h:Pr p):(1:Int)%p=1:=RX ⋯ (by have:=h.two;omega)
inductive Span(p:Int)(n:Nat)(G:Vc->Prop):Vc->Prop where
 | zero {v:Vc}:(∀i,i<n->v i%p=0)->Span p n G v
 | step {v w g:Vc} {c:Int}:G g->Span p n G w->(∀i,i<n->v i%p=(w i+c*g i)%p)->Span p n G v
section
variable{p:Int}{n:Nat}{G G':Vc->Prop}
theorem Span.congr(h:Span p n G v)(e : ∀i,i<n->v' i%p=v i%p):Span p n G v':=by
 cases h with
 | zero h=>exact .zero λi a=>by rw[e i a,h i a]
 | step z b h=>exact .step z b λi a=>by rw[e i a,h i a]
theorem Span.gen(h:G g):Span p n G g:= .step (c:=1) h (.zero (v:=λ_=>0) λi _=>by simp) λi _=>by simp
theorem Span.add(z:Span p n G v)(J:Span p n G w) : ∀c:Int,Span p n G λi=>w i+c*v i:=by
 induction z with
 | zero h=>
  intro c;refine J.congr λi a=>?_;rw[OE,Om,h i a];simp
 | @step v d g b I Y h O=>
  intro c;refine .step (c:=c*b) I (O c) λi a=>?_;have e:(c*v i)%p=(c*(d i+b*g i))%p:=by rw[Om,h i a,<- Om]
  rw[OE,e,<- OE];congr 1;rw[Tp,<- PF,Int.add_assoc]
theorem Span.smul(z:Span p n G v)(c:Int):Span p n G λi=>c*v i:=
 (z.add (w:=λ_=>0) (.zero λi _=>by simp) c).congr λi _=>by simp
theorem Span.le(h:Span p n G v)(z : ∀g,G g->Span p n G' g):Span p n G' v:=by
 induction h with
 | zero h=>exact .zero h
 | step I a h O=>exact((z _ I).add O _).congr h
end
structure hI(p:Int)(n r:Nat)(B:Nat->Vc)(l:DK):Prop where
 lt : ∀k,k<r->l k<n
 mono : ∀k m,k<m->m<r->l k<l m
 one : ∀k,k<r->B k (l k)=1
 m8 : ∀k j,k<r->j<l k->B k j=0
 j3 : ∀k m,k<r->m<r->m≠k->B k (l m)=0
 i4 : ∀k i,k<r->i<n->0<=B k i/\B k i<p
noncomputable def ec(r:Nat)(B:Nat->Vc):Vc->Prop:=λv=>∃k,k<r/\v=B k
section
variable{p:Int}{n r r':Nat}{B B':Nat->Vc}{l l':DK}
theorem Wh(J:hI p n r B l)(h:Span p n (ec r B) v) : ∀i,i<n->v i%p=zf (λk=>v (l k)*B k i) r%p:=by
 induction h with
 | @zero v h=>
  intro i b;rw[h i b];have:zf (λk=>v (l k)*B k i) r%p=zf (λ_=>0) r%p:=zy λk a=>by rw[Om,h _ (J.lt k a)];simp
  rw[this,zz];rfl
 | @step v w g c z j h I=>
  intro i b;obtain⟨m,d,rfl⟩:=z;rw[h i b];have e:zf (λk=>v (l k)*B k i) r%p=zf (λk=>w (l k)*B k i+c*B m (l k)*B k i) r%p:=zy λk a=>by rw[Om,h _<|J.lt k a,<- Om,TH]
  have f:zf (λk=>c*B m (l k)*B k i) r=c*B m i:=by rw[zK (i:=m) d λk a O=>by rw[J.j3 m k d a O];simp,J.one m d];simp
  rw[e,z9,f,OE,I i b,<- OE]
theorem V0(J:hI p n r B l)(h:Span p n (ec r B) v)(z:j<n)(L:v j%p≠0)(hz : ∀i,i<j->v i%p=0) : ∃k,k<r/\l k=j:=by
 apply SO;intro I;apply L;rw[Wh J h j z];have:zf (λk=>v (l k)*B k j) r%p=zf (λ_=>0) r%p:=zy λk a=>by
  have O:l k≠j:=λe=>I ⟨k,a,e⟩;rcases OG (l k) j with q | q
  ·rw[Om,hz _ q];simp
  ·rw[J.m8 k j a ⋯];simp
 rw[this,zz];rfl
theorem aN(O : ∀k m,k<m->m<r->l k<l m)(Y : ∀k m,k<m->m<r'->l' k<l' m)(J : ∀k,k<r->∃m,m<r'/\l' m=l k)(L : ∀k,k<r'->∃m,m<r/\l m=l' k) :
 ∀k,k<r->k<r'/\l k=l' k:=by
 intro k
 induction k using Nat.strongRecOn with
 | ind k b=>
  intro a;obtain⟨m,d,em⟩:=J k a;have f:k<=m:=by
   rcases OG m k with q | q
   ·have:=(b m q ⋯).2
    have:=O m k q a;omega
   ·exact q
  have I:k<r':=by omega
  refine⟨I,?_⟩;obtain⟨q,e,eq⟩:=L k I;have g:k<=q:=by
   rcases OG q k with z | z
   ·have:=(b q z ⋯).2
    have:=Y q k z I;omega
   ·exact z
  rcases OG k m with z | z
  ·have h:=Y k m z d
   have i:l k<=l q:=by
    rcases OG k q with y | y
    ·exact UK<|O k q y e
    ·have:k=q:=by omega
     subst this;exact Ou _
   omega
  ·have:m=k:=by omega
   subst this;exact em.symm
theorem lM(Y:Pr p)(J:hI p n r B l)(z:hI p n r' B' l')(L : ∀v,Span p n (ec r B) v->Span p n (ec r' B') v)(h2 : ∀v,Span p n (ec r' B') v->Span p n (ec r B) v) :
 r=r'/\(∀k,k<r->l k=l' k)/\∀k i,k<r->i<n->B k i=B' k i:=by
 have one:=Y.one;have f : ∀k,k<r->∃m,m<r'/\l' m=l k:=λk a=>V0 z (L _<|.gen ⟨k,a,rfl⟩) (J.lt k a) (by rw[J.one k a,one];decide) λi b=>by rw[J.m8 k i a b];simp
 have g : ∀k,k<r'->∃m,m<r/\l m=l' k:=λk a=>V0 J (h2 _<|.gen ⟨k,a,rfl⟩) (z.lt k a) (by rw[z.one k a,one];decide) λi b=>by rw[z.m8 k i a b];simp
 have d:=aN J.mono z.mono f g;have j:=aN z.mono J.mono g f;have o:r=r':=by
  rcases SW r r' with q | q | q
  ·exact absurd (j r q).1 (Rj _)
  ·exact q
  ·exact absurd (d r' q).1 (Rj _)
 subst o;refine⟨rfl,λk a=>(d k a).2,λk i a b=>?_⟩;have c:=Wh z (L _<|.gen ⟨k,a,rfl⟩) i b;rw[zK (i:=k) a λm e h=>by rw[<- (d m e).2,J.j3 k m a e h];simp,<- (d k a).2,J.one k a,UA]at c;have I:=J.i4 k i a b;have O:=z.i4 k i a b;rw[RX I.1 I.2,RX O.1 O.2]at c;exact c
end
theorem j9(q:α->Bool)(r:α->D) : ∀(l:List α),(∀x∈l,∃γ1,qz T (g x) γ=cI γ1/\k γ1=cI (q x)/\(q x=cL->f γ1=cI (r x)))->
 jh T k f γ (l.map g)=cI ((l.filter q).map r)
 | [],_=>rfl
 | x::l,h=>by
  obtain⟨γ1,a,b,I⟩:=h x Ot;have z:=j9 q r l λy O=>h y<|Ow _ O;simp only[OH,jh,a,b,Og];cases e:q x with
  | true=>simp[I e,z,e]
  | false=>simp[z,e]
theorem sG(z:Pr p)(I:0<x)(J:x<p) : ∃y:Nat,1<=y/\(y:Int)<p/\(y:Int)*x%p=1:=by
 rcases z with rfl | rfl | rfl | rfl
 ·obtain rfl:x=1:=by omega
  exact⟨1,by decide,by decide,by decide⟩
 ·rcases (show x=1\/x=2 by omega)with rfl | rfl
  ·exact⟨1,by decide,by decide,by decide⟩
  ·exact⟨2,by decide,by decide,by decide⟩
 ·rcases (show x=1\/x=2\/x=3\/x=4 by omega)with rfl | rfl | rfl | rfl
  ·exact⟨1,by decide,by decide,by decide⟩
  ·exact⟨3,by decide,by decide,by decide⟩
  ·exact⟨2,by decide,by decide,by decide⟩
  ·exact⟨4,by decide,by decide,by decide⟩
 ·rcases (show x=1\/x=2\/x=3\/x=4\/x=5\/x=6 by omega)with rfl | rfl | rfl | rfl | rfl | rfl
  ·exact⟨1,by decide,by decide,by decide⟩
  ·exact⟨4,by decide,by decide,by decide⟩
  ·exact⟨5,by decide,by decide,by decide⟩
  ·exact⟨2,by decide,by decide,by decide⟩
  ·exact⟨3,by decide,by decide,by decide⟩
  ·exact⟨6,by decide,by decide,by decide⟩
theorem Zn{q:DV}{n a:Nat}{qZ:List Nat}(h:(Od n).filter q=a::qZ):a<n/\q a=cL/\∀i,i<a->q i=dd:=by
 have b:a∈(Od n).filter q:=by rw[h];exact Ot
 refine⟨Oj.mp (Pn.mp b).1,(Pn.mp b).2,λi f=>?_⟩;apply SO;intro z;have I:q i=cL:=by simpa using z
 have O:i∈a::qZ:=by rw[<- h];exact Pn.mpr ⟨Oj.mpr (by have:=Oj.mp (Pn.mp b).1;omega),I⟩
 have d:(a::qZ).Pairwise (· < ·):=by rw[<- h];exact List.Pairwise.filter _ List.pairwise_lt_range
 rcases OA.mp O with e | e
 ·omega
 ·have:=(List.pairwise_cons.mp d).1 i e;omega
theorem YO(h:(Od n).filter q=[]) : ∀i,i<n->q i=dd:=λi a=>by apply SO;intro z;have:i∈(Od n).filter q:=Pn.mpr ⟨Oj.mpr a,by simpa using z⟩;rw[h]at this;simp at this
theorem Vt(z:Pr p)(I:0<x)(J:x<p) : ∃y,wC [.int p,.int x]=cI (.val<|.int y)/\1<=y/\y<p/\x*y%p=1:=by
 rcases z with rfl | rfl | rfl | rfl
 ·have:x=1:=by omega
  subst this;exact⟨1,rfl,by decide,by decide,by decide⟩
 ·have:x=1\/x=2:=by omega
  rcases this with rfl | rfl
  ·exact⟨1,rfl,by decide,by decide,by decide⟩
  ·exact⟨2,rfl,by decide,by decide,by decide⟩
 ·have:x=1\/x=2\/x=3\/x=4:=by omega
  rcases this with rfl | rfl | rfl | rfl
  ·exact⟨1,rfl,by decide,by decide,by decide⟩
  ·exact⟨3,rfl,by decide,by decide,by decide⟩
  ·exact⟨2,rfl,by decide,by decide,by decide⟩
  ·exact⟨4,rfl,by decide,by decide,by decide⟩
 ·have:x=1\/x=2\/x=3\/x=4\/x=5\/x=6:=by omega
  rcases this with rfl | rfl | rfl | rfl | rfl | rfl
  ·exact⟨1,rfl,by decide,by decide,by decide⟩
  ·exact⟨4,rfl,by decide,by decide,by decide⟩
  ·exact⟨5,rfl,by decide,by decide,by decide⟩
  ·exact⟨2,rfl,by decide,by decide,by decide⟩
  ·exact⟨3,rfl,by decide,by decide,by decide⟩
  ·exact⟨6,rfl,by decide,by decide,by decide⟩
theorem y9(I:Pr p)(L:n<=lim)(z:t<n)(w P:Nat->Int)(J : ∀i,i<n->0<=w i/\w i<p) :
 j5 [.int p,.tup<|zP n w,.tup<|zP n P,.int t]=cI (.val<|.tup<|zP n λi=>(w i - w t*P i)%p):=by
 have Y:=J t z;have d:=I.le;have O : ∀x,QM (w t) x=cL:=λx=>yC _ _ ⋯ ⋯;by_cases b:w t=0
 ·simp[j5,jn,jx,jM,z,b]
  apply yp;intro i a;rw[RX (J i a).1 (J i a).2]
 ·simp[j5,jn,jx,jM,z,b,XN,L,jL,xm,gx]
  rw[zD (r:=λi=>D.int<|w i - w t*P i)]
  ·rw[<- jt]
   simp[JY _ I.pos L]
  ·intro i a
   refine zF rfl rfl ?_;simp[O]
theorem VR{l:DK}{r t:Nat}(J : ∀k m,k<m->m<r->l k<l m)(z : ∀k,k<r->l k<t):r<=t:=by
 have I : ∀k,k<r->k<=l k:=by
  intro k
  induction k with
  | zero=>intro _;exact Rg _
  | succ k O=>
   intro d;have a:=O ⋯;have b:=J k (k+1) ⋯ d;omega
 cases r with
 | zero=>exact Rg _
 | succ r=>
  have a:=I r ⋯;have b:=z r ⋯;omega
noncomputable def ZI:=(zS (jE 6<|xh<|zR (zO<|zq 3) (.nm 0) 1 [5] (sB<|zw i6 (dr (zq 0)<|ze 1)<|zx<|.int 0) (ze 0))<|zS (jb (kW<|ny<|zq 6) uv kE)<|zS (jE 7<|zJ wC<|zc (ze 0)<|zc (dr (zL<|dr (zq 6)<|zx<|.int 0)<|ze 5) zC)<|zS (jE 8<|zJ xJ<|zc (ze 0)<|zc (xh<|zR (zO<|zL<|dr (zq 6)<|zx<|.int 0) (.nm 0) 1 [7] jO (zw ya (ze 1)<|ze 0)) zC)<|zS (jE 3<|xh<|zR (zO<|zq 3) (.nm 0) 1 [0,5,8] jO (zJ j5<|zc (ze 1)<|zc (ze 0)<|zc (ze 3)<|zc (ze 2) zC))<|kU 4<|fK (jR<|zR (zO<|zq 4) (.nm 0) 1 [0,5,8] jO (zJ j5<|zc (ze 1)<|zc (ze 0)<|zc (ze 3)<|zc (ze 2) zC))<|jR<|ye<|zc (ze 8) zC)
noncomputable def Un(r:Nat)(B:Nat->Vc)(m:Nat)(W:Nat->Vc):Vc->Prop:=λv=>ec r B v\/ec m W v
structure A1(p:Int)(n m:Nat)(W:Nat->Vc)(t r:Nat)(B:Nat->Vc)(l:DK)(Wt:Nat->Vc):Prop where
 i4 : ∀j i,j<m->i<n->0<=Wt j i/\Wt j i<p
 Ds : ∀j i,j<m->i<t->Wt j i=0
 B5:hI p n r B l
 lt : ∀k,k<r->l k<t
 span : ∀v,Span p n (Un r B m Wt) v↔Span p n (ec m W) v
section
variable{p:Int}{n m:Nat}{W:Nat->Vc}{t r:Nat}{B:Nat->Vc}{l:DK}{Wt:Nat->Vc}
theorem A1.skip(h:A1 p n m W t r B l Wt)(hz : ∀j,j<m->Wt j t=0):A1 p n m W (t+1) r B l Wt:=
 ⟨h.i4,λj i z b=>by
  rcases OG i t with q | q
  ·exact h.Ds j i z q
  ·have:i=t:=by omega
   subst this;exact hz j z,h.B5,λk a=>Py<|h.lt k a,h.span⟩
noncomputable def h6(p:Int)(P:Vc)(t:Nat)(w:Vc):Vc:=λi=>(w i - w t*P i)%p
noncomputable def da(p:Int)(P:Vc)(t r:Nat)(B:Nat->Vc):Nat->Vc:=λk=>if k<r then h6 p P t (B k)else P
noncomputable def sj(t r:Nat)(l:DK):Nat->Nat:=λk=>if k<r then l k else t
theorem ZH(z:Span p n G P)(I:Span p n G w):Span p n G (h6 p P t w):=
 (z.add I (-(w t))).congr λi _=>by unfold h6;rw[Pc];congr 1;rw[Int.neg_mul];omega
theorem WL(z:Span p n G P)(I:Span p n G (h6 p P t w)):Span p n G w:=
 (z.add I<|w t).congr λi _=>by unfold h6;rw[OE,Pc,<- OE];congr 1;omega
theorem A1.next(J:Pr p)(h:A1 p n m W t r B l Wt)(ht:t<n)(L:j0<m)(hy:Wt j0 t*y%p=1)(O : ∀i,i<n->P i=y*Wt j0 i%p) :
 A1 p n m W (t+1) (r+1) (da p P t r B) (sj t r l) (λj=>h6 p P t<|Wt j):=by
 have K:=J.pos;have one:=J.one;have C:P t=1:=by rw[O t ht,Rf];exact hy
 have o : ∀i,i<t->P i=0:=λi b=>by rw[O i ⋯,h.Ds j0 i L b];simp
 have M : ∀i,i<n->0<=P i/\P i<p:=λi b=>by rw[O i b];exact⟨Pb _ ⋯,OQ _ K⟩
 have F : ∀(w:Vc) i,0<=h6 p P t w i/\h6 p P t w i<p:=λw i=>⟨Pb _ ⋯,OQ _ K⟩;have Y : ∀(w:Vc) i,i<t->0<=w i->w i<p->h6 p P t w i=w i:=λw i b R S=>by unfold h6;rw[o i b,Sn,k_];exact RX R S
 have H : ∀w:Vc,h6 p P t w t=0:=λw=>by unfold h6;rw[C,RA,Int.sub_self];simp
 refine⟨λj i I b=>F _ _,λj i I b=>?_,⟨λk a=>?_,λk q N T=>?_,λk a=>?_,λk j a I=>?_,λk q a T Q=>?_,λk i a b=>?_⟩,λk a=>?_,λv=>?_⟩
 ·rcases OG i t with q | q
  ·have e:=h.Ds j i I q
   rw[Y _ i q ⋯ ⋯];exact e
  ·have:i=t:=by omega
   subst this;exact H _
 ·unfold sj;split
  ·rename_i q;exact h.B5.lt k q
  ·exact ht
 ·unfold sj
  have a:k<r:=by omega
  rw[DZ a];split
  ·rename_i z;exact h.B5.mono k q N z
  ·exact h.lt k a
 ·unfold sj da;split
  ·rename_i q
   have e:=h.B5.one k q;have f:=h.lt k q;rw[Y _ _ f ⋯ (by have:=J.two;omega)];exact e
  ·exact C
 ·unfold da;unfold sj at I;split at I
  ·rename_i q
   have e:=h.B5.m8 k j q I;have f:=h.lt k q;rw[DZ q,Y _ _ ⋯ ⋯ ⋯];exact e
  ·rename_i q
   rw[DJ q];exact o j I
 ·unfold da sj
  by_cases A:k<r
  ·rw[DZ A]
   by_cases d:q<r
   ·rw[DZ d]
    have e:=h.B5.j3 k q A d Q;have f:=h.lt q d;rw[Y _ _ f ⋯ ⋯];exact e
   ·rw[DJ d];exact H _
  ·rw[DJ A]
   have d:q<r:=by omega
   rw[DZ d];exact o _<|h.lt q d
 ·unfold da;split
  ·exact F _ _
  ·exact M i b
 ·unfold sj;split
  ·rename_i q;exact Py<|h.lt k q
  ·exact PR _
 ·rw[<- h.span v]
  have s:Span p n (Un r B m Wt) P:=((Span.gen (p:=p) (n:=n) (G:=Un r B m Wt) (g:=Wt j0)<|.inr ⟨j0,L,rfl⟩).smul y).congr λi b=>by rw[O i b,Pc]
  have E:Span p n (Un (r+1) (da p P t r B) m λj=>h6 p P t<|Wt j) P:= .gen (.inl ⟨r,PR r,by unfold da;rw[DJ (Rj r)]⟩);constructor
  ·refine λx=>x.le λg u=>?_
   rcases u with⟨k,a,rfl⟩ | ⟨j,I,rfl⟩
   ·unfold da;split
    ·rename_i q;exact ZH s<|.gen<|.inl ⟨k,q,rfl⟩
    ·exact s
   ·exact ZH s<|.gen<|.inr ⟨j,I,rfl⟩
  ·refine λx=>x.le λg u=>?_
   rcases u with⟨k,a,rfl⟩ | ⟨j,I,rfl⟩
   ·refine WL (t:=t) E (.gen<|.inl ⟨k,Py a,?_⟩)
    unfold da;rw[DZ a]
   ·exact WL (t:=t) E<|.gen<|.inr ⟨j,I,rfl⟩
theorem A1.done(h:A1 p n m W n r B l Wt)(v:Vc):Span p n (ec r B) v↔Span p n (ec m W) v:=by
 rw[<- h.span v];constructor
 ·exact λI=>I.le λg z=> .gen (.inl z)
 ·refine λI=>I.le λg z=>?_
  rcases z with z | ⟨j,O,rfl⟩
  ·exact .gen z
  ·exact .zero λi a=>by rw[h.Ds j i O a];simp
theorem iY(z:True)(P:Vc):zW (r+1) n (da p P t r B)=zW r n (λk=>h6 p P t<|B k)++[.tup (zP n P)]:=by
 unfold zW;rw[Rx,PB];congr 1
 ·apply OB
  intro k a;have:=Oj.mp a;simp[da,this]
 ·simp[da]
end
theorem xC{p:Int}(J:Pr p){n m:Nat}(hn:n<=100)(hm:m<=lim)(L:Sk)(W:Nat->Vc) :
 ∃r B l,kg [.int p,.int n,rn L (zW m n W)]=cI (.own<|zW r n B)/\hI p n r B l/\∀v,Span p n (ec r B) v↔Span p n (ec m W) v:=by
 have hl:=jB;have b:n<=lim:=by omega
 have E:=J.pos;have Q:=Y9 (T:= .nm 5) (F:=ZI)
  (λt N=>∃r B l Wt s u h o,N=[.val (.int p),.val<|.int n,.val<|rn L<|zW m n W,.val<|.lst<|zW m n Wt,.own<|zW r n B,s,u,h,o]/\A1 p n m W t r B l Wt)
  ((Od n).map λ(i:Nat)=>D.int i) 0 [.val (.int p),.val<|.int n,.val<|rn L<|zW m n W,.val<|.lst<|zW m n λj i=>W j i%p,.own [],.no,.no,.no,.no]
  ⟨0,λ_ _=>0,λ_=>0,λj i=>W j i%p,.no,.no,.no,.no,rfl,λj i _ _=>⟨Pb _ ⋯,OQ _ E⟩,λj i _ e=>absurd e<|OO _,
   ⟨λk a=>absurd a<|OO _,λk q _ a=>absurd a<|OO _,λk a=>absurd a<|OO _,λk j a=>absurd a<|OO _,λk q a=>absurd a<|OO _,λk i a=>absurd a<|OO _⟩,
   λk a=>absurd a<|OO _,λv=>⟨λC=>C.le λg A=>by
    rcases A with⟨k,a,_⟩ | ⟨j,O,rfl⟩
    ·exact absurd a<|OO _
    ·exact(Span.gen (p:=p) (n:=n) (G:=ec m W) (g:=W j) ⟨j,O,rfl⟩).congr λi _=>Pc _ _,λC=>C.le λg A=>by
    obtain⟨j,O,rfl⟩:=A;exact(Span.gen (p:=p) (n:=n) (G:=Un 0 (λ_ _=>0) m λj i=>W j i%p) (g:=λi=>W j i%p)<|.inr ⟨j,O,rfl⟩).congr λi _=>(Pc _ _).symm⟩⟩ (by
   rintro t d N w ⟨r,B,l,Wt,s,u,h,o,rfl,I⟩;rw[C9]at I ⊢;have Y:t<n:=by have:=(Ol.mp w).1;simpa using this
   have R:d = .int t:=by simp[Y]at w;exact w.symm
   subst R;have f:jh (.nm 0) (sB<|zw i6 (dr (zq 0)<|ze 1)<|zx<|.int 0) (ze 0) [Cell.no,Cell.val (.int t)] (zW m n Wt)=cI (((Od m).filter λj=> !decide (Wt j t=0)).map λj=>D.tup<|zP n<|Wt j):=by unfold zW;refine j9 _ _ _ λj O=>⟨_,rfl,?_,λ_=>rfl⟩;simp[Y]
   have hr:r<=t:=VR I.B5.mono I.lt;have S:r<=lim:=by omega
   cases hf:(Od m).filter λj=> !decide (Wt j t=0)with
   | nil=>
    have hz : ∀j,j<m->Wt j t=0:=λj O=>by apply SO;intro H;have:j∈(Od m).filter λj=> !decide (Wt j t=0):=Pn.mpr ⟨Oj.mpr O,by simp[H]⟩;rw[hf]at this;simp at this
    rw[hf]at f;refine⟨_,.inr ?_,r,B,l,Wt,.val<|.int t,.val<|.lst [],h,o,rfl,I.skip hz⟩;simp only[ZJ,Og,Ri,Rh,ZI];rw[jM];simp[jM,jL,xm,gx,f,hm]
   | cons z qZ=>
    have K:z∈(Od m).filter λj=> !decide (Wt j t=0):=by rw[hf];exact Ot
    have M:z<m:=Oj.mp (Pn.mp K).1;have H:Wt z t≠0:=by simpa using (Pn.mp K).2
    have U:=I.i4 z t M Y;obtain⟨y,ey,zbu,y2,yy⟩:=Vt J (x:=Wt z t) ⋯ U.2;rw[hf]at f;have nx:=I.next J Y M yy (P:=λi=>y*Wt z i%p) λi _=>rfl;refine⟨_,.inl ?_,r+1,da p (λi=>y*Wt z i%p) t r B,sj t r l,λj=>h6 p (λi=>y*Wt z i%p) t<|Wt j,.val<|.int t,.val<|.lst<|(z::qZ).map λj=>D.tup<|zP n<|Wt j,.val<|.int y,.val<|.tup<|zP n λi=>y*Wt z i%p,rfl,nx⟩;have bg:=J.le;have cy : ∀x,QM y x=cL:=λx=>yC _ _ ⋯ ⋯;have X:jh (.nm 0) jO (zw ya (ze 1)<|ze 0) [Cell.no,Cell.val (.int y)] (zP n<|Wt z)=cI (zP n λi=>y*Wt z i):=by rw[jt,jt];refine zD _ _ λi e=>zF rfl rfl ?_;simp[cy]
    have Z:jh (.nm 0) jO (zJ j5<|zc (ze 1)<|zc (ze 0)<|zc (ze 3)<|zc (ze 2) zC) [Cell.no,Cell.val<|.int p,Cell.val<|.int t,Cell.val (.tup<|zP n λi=>y*Wt z i%p)] (zW m n Wt)=cI (zW m n λj=>h6 p (λi=>y*Wt z i%p) t<|Wt j):=by unfold zW;refine zD _ _ λj O=>zF rfl rfl ?_;simp[y9 J b Y (Wt j) (λi=>y*Wt z i%p) λi e=>I.i4 j i (Oj.mp O) e];rfl
    have ar:jh (.nm 0) jO (zJ j5<|zc (ze 1)<|zc (ze 0)<|zc (ze 3)<|zc (ze 2) zC) [Cell.no,Cell.val<|.int p,Cell.val<|.int t,Cell.val (.tup<|zP n λi=>y*Wt z i%p)] (zW r n B)=cI (zW r n λj=>h6 p (λi=>y*Wt z i%p) t<|B j):=by unfold zW;refine zD _ _ λj O=>zF rfl rfl ?_;simp[y9 J b Y (B j) (λi=>y*Wt z i%p) λi e=>I.B5.i4 j i (Oj.mp O) e];rfl
    have as:r+1<=lim:=by omega
    rw[iY trivial];simp only[ZJ,Og,Ri,Rh,ZI];rw[jM];simp[jM,jL,xm,gx,f,hm,b,Y,ey,X,JY _ E b,Z,ar,S,as])
 obtain⟨γ',e1,r,B,l,Wt,s,u,h,o,rfl,I⟩:=Q;simp only[OC,OM,C9]at I;refine⟨r,B,l,?_,I.B5,I.done⟩;have ax:jh (.nm 0) jO (zJ xJ<|zc (ze 1)<|zc (ze 0) zC) [Cell.no,Cell.val (.int p)] (zW m n W)=cI (zW m n λj i=>W j i%p):=by unfold zW;refine zD _ _ λj O=>zF rfl rfl ?_;simp[me _ E b]
 have e0:kg [.int p,.int n,rn L (zW m n W)]=jn 9 (zS (jE 3<|xh<|zR (zO<|zq 2) (.nm 0) 1 [0] jO (zJ xJ<|zc (ze 1)<|zc (ze 0) zC))<|zS (kU 4<|ye zC)<|zS (Jb (jI<|ze 1) (.nm 5) ZI)<|Zt 4) [.int p,.int n,rn L (zW m n W)]:=rfl;rw[e0];simp[jn,jx,jM,hm,jL,xm,gx,ax,b,qR];rw[jt n λi=>(i:Int),e1];simp
@[simp] noncomputable def Gc:=@HS.eq_1
noncomputable def JJ{I:Type}(q:Nat)(x:I)(f:Nat->I):Nat->I:=λk=>if k<q then f k else if k=q then x else f (k - 1)
noncomputable def Zz(l:DK)(r x:Nat):Nat:=((Od r).filter λk=>decide<|l k<x).length
theorem KI : ∀{r:Nat},(∀k m,k<m->m<r->l k<l m)->(∀k,k<r->l k≠x)->Zz l r x<=r/\(∀k,k<Zz l r x->l k<x)/\∀k,Zz l r x<=k->k<r->x<l k
 | 0,_,_=>⟨Ou _,λk d=>absurd d (by simp[Zz]),λk _ d=>absurd d<|OO _⟩
 | r+1,hm,H_=>by
  obtain⟨h,f,I⟩:=KI (r:=r) (x:=x) (λk m a b=>hm k m a ⋯) λk d=>H_ k ⋯;have e:Zz l (r+1) x=Zz l r x+if l r<x then 1 else 0:=by unfold Zz;rw[Rx,Ug,OX];by_cases q:l r<x<;>simp[q]
  by_cases q:l r<x
  ·rw[e,DZ q]
   have O:Zz l r x=r:=by
    rcases OG (Zz l r x) r with z | z
    ·have Y:=I (Zz l r x) (Ou _) z
     have g:=hm (Zz l r x) r z<|PR r;omega
    ·omega
   rw[O];refine⟨Ou _,λk d=>?_,λk a b=>absurd b ⋯⟩;rcases OG k r with z | z
   ·exact f k ⋯
   ·have:k=r:=by omega
    subst this;exact q
  ·rw[e,DJ q,j_]
   refine⟨by omega,f,λk a b=>?_⟩;rcases OG k r with z | z
   ·exact I k a z
   ·have:k=r:=by omega
    subst this;have:=H_ k b;omega
section
variable{p:Int}{n r:Nat}{B:Nat->Vc}{l:DK}{w:Vc}
structure D4(p:Int)(n r:Nat)(B:Nat->Vc)(l:DK)(w:Vc)(k:Nat)(R:Vc):Prop where
 i4 : ∀i,i<n->0<=R i/\R i<p
 Ds : ∀q,q<k->R (l q)=0
 eqv : ∀G,(∀k,k<r->Span p n G (B k))->(Span p n G w↔Span p n G R)
theorem D4.next(Y:Pr p)(L:hI p n r B l)(h:D4 p n r B l w k R)(J:k<r):D4 p n r B l w (k+1) (h6 p (B k) (l k) R):=by
 have a:=Y.pos;refine⟨λi _=>⟨Pb _ ⋯,OQ _ a⟩,λq b=>?_,λG I=>?_⟩
 ·unfold h6
  rcases OG q k with z | z
  ·rw[h.Ds q z,L.j3 k q J ⋯ ⋯];simp
  ·have:q=k:=by omega
   subst this;rw[L.one q J];simp
 ·rw[h.eqv G I]
  exact⟨λO=>ZH (I k J) O,λO=>WL (I k J) O⟩
theorem Y0(O:q<=r)(J:k<r+1):(k=q/\JJ q x f k=x)\/∃I,I<r/\JJ q x f k=f I/\((k<q/\I=k)\/(q<k/\I+1=k)):=by
 unfold JJ;rcases SW k q with z | z | z
 ·right;exact⟨k,by omega,by rw[DZ z],.inl ⟨z,rfl⟩⟩
 ·left;subst z;exact⟨rfl,by rw[DJ (Rj _),DZ rfl]⟩
 ·right;exact⟨k - 1,by omega,by rw[DJ ⋯,DJ ⋯],.inr ⟨z,by omega⟩⟩
theorem I_:JJ q x f q=x:=by unfold JJ;rw[DJ (Rj _),DZ rfl]
theorem AJ : ∃I,(I<q/\I=k\/q<I/\I=k+1)/\JJ q x f I=f k:=by
 rcases OG k q with z | z
 ·exact⟨k,.inl ⟨z,rfl⟩,by unfold JJ;rw[DZ z]⟩
 ·exact⟨k+1,.inr ⟨by omega,rfl⟩,by unfold JJ;rw[DJ ⋯,DJ ⋯];rfl⟩
theorem AK(hp:Pr p)(J:hI p n r B l)(ha:a<n)(L:R a=1)(hz : ∀i,i<a->R i=0)(hl : ∀k,k<r->R (l k)=0)(hR : ∀i,i<n->0<=R i/\R i<p) :
 hI p n (r+1) (JJ (Zz l r a) R λk=>h6 p R a<|B k) (JJ (Zz l r a) a l):=by
 have S:=hp.pos;have G : ∀k,k<r->l k≠a:=λk b e=>by have:=hl k b;rw[e,L]at this;omega
 obtain⟨Q,T,U⟩:=KI J.mono G;have M : ∀(w:Vc) i,0<=h6 p R a w i/\h6 p R a w i<p:=λw i=>⟨Pb _ ⋯,OQ _ S⟩;have H : ∀w:Vc,h6 p R a w a=0:=λw=>by unfold h6;rw[L,RA,Int.sub_self];simp
 have C : ∀(w:Vc) k,k<r->0<=w (l k)->w (l k)<p->h6 p R a w (l k)=w (l k):=λw k b L N=>by unfold h6;rw[hl k b,Sn,k_];exact RX L N
 have K : ∀k j,k<r->j<l k->h6 p R a (B k) j=0:=λk j b t=>by
  unfold h6;rw[J.m8 k j b t];rcases OG a (l k)with z | z
  ·rw[J.m8 k a b z];simp
  ·rw[hz j ⋯];simp
 have two:=hp.two;have Y : ∀k,k<r+1->(k=Zz l r a/\JJ (Zz l r a) R (λk=>h6 p R a<|B k) k=R/\JJ (Zz l r a) a l k=a)\/
  ∃I,I<r/\JJ (Zz l r a) R (λk=>h6 p R a<|B k) k=h6 p R a (B I)/\JJ (Zz l r a) a l k=l I/\((k<Zz l r a/\I=k)\/(Zz l r a<k/\I+1=k)):=by
  intro k b;rcases Y0 (x:=R) (f:=λk=>h6 p R a<|B k) Q b with⟨d,u⟩ | ⟨I,O,d,u⟩
  ·left;refine⟨d,u,?_⟩;subst d;exact I_
  ·right
   refine⟨I,O,d,?_,u⟩;rcases u with⟨E,F⟩ | ⟨E,F⟩
   ·unfold JJ;rw[DZ E,F]
   ·unfold JJ;rw[DJ ⋯,DJ ⋯];congr 1;omega
 refine⟨λk b=>?_,λk m W y=>?_,λk b=>?_,λk j b t=>?_,λk m b y X=>?_,λk i b P=>?_⟩
 ·rcases Y k b with⟨_,_,e⟩ | ⟨I,O,_,e,_⟩
  ·rw[e];exact ha
  ·rw[e];exact J.lt I O
 ·rcases Y k ⋯with⟨z,_,e⟩ | ⟨I,O,_,e,z⟩<;>rcases Y m y with⟨A,_,s⟩ | ⟨h,g,_,s,A⟩<;>rw[e,s]
  ·omega
  ·exact U h ⋯ g
  ·exact T I ⋯
  ·exact J.mono I h ⋯ g
 ·rcases Y k b with⟨_,d,e⟩ | ⟨I,O,d,e,_⟩<;>rw[d,e]
  ·exact L
  ·have o:=J.one I O
   rw[C _ I O ⋯ ⋯];exact o
 ·rcases Y k b with⟨_,d,e⟩ | ⟨I,O,d,e,_⟩<;>rw[d]<;>rw[e]at t
  ·exact hz j t
  ·exact K I j O t
 ·rcases Y k b with⟨z,d,_⟩ | ⟨I,O,d,_,z⟩<;>rcases Y m y with⟨A,_,s⟩ | ⟨h,g,_,s,A⟩<;>rw[d,s]
  ·omega
  ·exact hl h g
  ·exact H _
  ·have o:=J.j3 I h O g ⋯
   rw[C _ h g ⋯ ⋯];exact o
 ·rcases Y k b with⟨_,d,_⟩ | ⟨I,O,d,_,_⟩<;>rw[d]
  ·exact hR i P
  ·exact M _ _
theorem AL(z:q<=r)(I:Span p n G R)(O : ∀k,k<r->Span p n G (F k)) : ∀g,ec (r+1) (JJ q R F) g->Span p n G g:=by
 rintro g ⟨k,b,rfl⟩;rcases Y0 (x:=R) (f:=F) z b with⟨_,e⟩ | ⟨Y,a,e,_⟩<;>rw[e]
 ·exact I
 ·exact O Y a
theorem AA(I:q<=r):ec (r+1) (JJ q R F) R/\∀k,k<r->ec (r+1) (JJ q R F) (F k):=by refine⟨⟨q,by omega,I_.symm⟩,λk a=>?_⟩;obtain⟨z,h,e⟩:=AJ (q:=q) (x:=R) (f:=F) (k:=k);exact⟨z,by omega,e.symm⟩
theorem pz(hp:Pr p)(hb:hI p n r B l)(ha:a<n)(L : ∀v,Span p n (ec r B) v↔Span p n (ec j W) v)(O:D4 p n r B l (W j) r R)(hy:y*R a%p=1)(Y : ∀i,i<n->R' i=y*R i%p)(J:Zz l r a<=r)(v:Vc) :
 Span p n (ec (r+1)<|JJ (Zz l r a) R' λk=>h6 p R' a<|B k) v↔Span p n (ec (j+1) W) v:=by
 have x : ∀v,Span p n (ec j W) v->Span p n (ec (j+1) W) v:=λv I=>I.le λg ⟨i,d,e⟩=> .gen ⟨i,by omega,e⟩;have a1 : ∀k,k<r->Span p n (ec (j+1) W) (B k):=λk b=>x _<|(L _).mp (.gen ⟨k,b,rfl⟩);have o:Span p n (ec (j+1) W) R:=(O.eqv _ a1).mp (.gen ⟨j,by omega,rfl⟩);have f:Span p n (ec (j+1) W) R':=(o.smul y).congr λi d=>by rw[Y i d,Pc]
 obtain⟨w,m2⟩:=AA (R:=R') (F:=λk=>h6 p R' a<|B k) J;have h:Span p n (ec (r+1)<|JJ (Zz l r a) R' λk=>h6 p R' a<|B k) R':= .gen w;have m : ∀k,k<r->Span p n (ec (r+1)<|JJ (Zz l r a) R' λk=>h6 p R' a<|B k) (B k):=λk b=>WL (t:=a) h<|.gen<|m2 k b;have s:Span p n (ec (r+1)<|JJ (Zz l r a) R' λk=>h6 p R' a<|B k) R:=(h.smul<|R a).congr λi d=>by rw[Y i d,qw,<- PF,Rf (R a) y,Om,hy,UA,Pc]
 constructor
 ·exact λI=>I.le<|AL J f λk b=>ZH f<|a1 k b
 ·refine λI=>I.le ?_
  rintro g ⟨i,d,rfl⟩;rcases OG i j with z | z
  ·exact((L _).mpr (.gen ⟨i,z,rfl⟩)).le λg u=>by obtain⟨k,b,e⟩:=u;rw[e];exact m k b
  ·have:i=j:=by omega
   subst this;exact(O.eqv _ m).mpr s
theorem fE(J : ∀v,Span p n (ec r B) v↔Span p n (ec j W) v)(O:D4 p n r B l (W j) r R)(L : ∀i,i<n->R i=0)(v:Vc):Span p n (ec r B) v↔Span p n (ec (j+1) W) v:=by
 constructor
 ·exact λI=>((J v).mp I).le λg ⟨i,a,e⟩=> .gen ⟨i,by omega,e⟩
 ·refine λI=>I.le ?_
  rintro g ⟨i,a,rfl⟩;rcases OG i j with z | z
  ·exact(J _).mpr (.gen ⟨i,z,rfl⟩)
  ·have:i=j:=by omega
   subst this;exact(O.eqv _ λk b=> .gen ⟨k,b,rfl⟩).mpr (.zero λi a=>by rw[L i a];simp)
end
@[simp] theorem Zf(h w f):(yt h w f).length=h:=by simp[yt]
section
variable{p:Int}{n m r:Nat}{G:Vc->Prop}
theorem Span.sum{u:Nat->Vc}(c:Nat->Int) : ∀{m:Nat},(∀k,k<m->Span p n G (u k))->Span p n G λi=>zf (λk=>c k*u k i) m
 | 0,_=> .zero λi _=>by simp[zf]
 | m+1,h=>(((h m ⋯).add (Span.sum c (m:=m) λk a=>h k ⋯) (c m))).congr λi _=>by simp[zf]
noncomputable def Rk(p:Int)(n m:Nat)(W:Nat->Vc)(r:Nat):Prop:=∃B l,hI p n r B l/\∀v,Span p n (ec r B) v↔Span p n (ec m W) v
theorem VF(O:Pr p)(h:Rk p n m W r)(h':Rk p n m W r'):r=r':=by obtain⟨B,l,b,a⟩:=h;obtain⟨d,e,Y,I⟩:=h';exact(lM O b Y (λv z=>(I v).mpr ((a v).mp z))<|λv z=>(a v).mpr ((I v).mp z)).1
theorem W5(z:Pr p)(J:hI p n r B l)(L : ∀i,i<n->0<=w i/\w i<p) : ∀k,k<=r->∃R,D4 p n r B l w k R
 | 0,_=>⟨w,L,λq I=>absurd I<|OO _,λG _=>Iff.rfl⟩
 | k+1,h=>by obtain⟨R,O⟩:=W5 z J L k ⋯;exact⟨_,O.next z J ⋯⟩
theorem aZ : ∀(n:Nat) (R:Vc),(∀i,i<n->R i=0)\/∃a,a<n/\R a≠0/\∀i,i<a->R i=0
 | 0,R=> .inl λi b=>absurd b<|OO _
 | n+1,R=>by
  rcases aZ n R with h | ⟨a,h1,h2,I⟩
  ·by_cases e:R n=0
   ·exact .inl λi b=>by rcases OG i n with z | z;exact h i z;rw[show i=n by omega];exact e
   ·exact .inr ⟨n,by omega,e,h⟩
  ·exact .inr ⟨a,by omega,h2,I⟩
theorem rT(z:Pr p)(W:Nat->Vc)(Y : ∀j i,0<=W j i/\W j i<p) : ∀m,∃r,r<=m/\Rk p n m W r
 | 0=>⟨0,Ou _,λ_ _=>0,λ_=>0,⟨λk b=>absurd b<|OO _,λk q _ b=>absurd b<|OO _,λk b=>absurd b<|OO _,λk j b=>absurd b<|OO _,λk q b=>absurd b<|OO _,λk i b=>absurd b<|OO _⟩,
  λv=>⟨λO=>O.le λg ⟨k,b,_⟩=>absurd b<|OO _,λO=>O.le λg ⟨k,b,_⟩=>absurd b<|OO _⟩⟩
 | m+1=>by
  obtain⟨r,A,B,l,d,f⟩:=rT z W Y m;have u:=z.pos;obtain⟨R,I⟩:=W5 z d (w:=W m) (λi _=>Y m i) r<|Ou _;rcases aZ n R with h0 | ⟨a,ha,a2,a3⟩
  ·exact⟨r,by omega,B,l,d,fE f I h0⟩
  ·have o:=I.i4 a ha
   obtain⟨y,_,_,h⟩:=sG z (x:=R a) ⋯ o.2;have s : ∀k,k<r->l k≠a:=λk b e=>by have:=I.Ds k b;rw[e]at this;exact a2 this
   exact⟨r+1,by omega,_,_,AK z d (R:=λi=>(y:Int)*R i%p) ha h (λi t=>by rw[a3 i t];simp) (λk b=>by rw[I.Ds k b];simp) λi _=>⟨Pb _ ⋯,OQ _ u⟩,
    pz z (R':=λi=>(y:Int)*R i%p) d ha f I h (λi _=>rfl) (KI d.mono s).1⟩
theorem W4(z:Pr p)(m:Nat)(W:Nat->Vc) : ∃r,r<=m/\Rk p n m W r:=by
 obtain⟨r,I,B,l,b,d⟩:=rT (n:=n) z (λj i=>W j i%p) (λj i=>⟨Pb _ (by have:=z.pos;omega),OQ _ z.pos⟩) m;refine⟨r,I,B,l,b,λv=>(d v).trans ⟨λh=>h.le λg ⟨k,a,e⟩=>?_,λh=>h.le λg ⟨k,a,e⟩=>?_⟩⟩
 ·subst e;exact(Span.gen (g:=W k) ⟨k,a,rfl⟩).congr λi _=>by rw[Pc]
 ·subst e;exact(Span.gen (g:=λi=>W k i%p) ⟨k,a,rfl⟩).congr λi _=>by rw[Pc]
theorem Cy(J:Pr p)(h:Rk p n m W r)(h':Rk p n m' W' r')(L : ∀j,j<m->Span p n (ec m' W') (W j)):r<=r':=by
 obtain⟨B,l,b,A⟩:=h;obtain⟨E,f,O,s⟩:=h';have o : ∀k,k<r->∃q,q<r'/\f q=l k:=λk a=>V0 O ((s _).mpr (((A _).mp (.gen ⟨k,a,rfl⟩)).le λg ⟨j,x,e⟩=>e ▸ L j x)) (b.lt k a) (by rw[b.one k a,J.one];decide) λi w=>by rw[b.m8 k i a w];simp
 have t : ∀k,k<r->∀q,q<r'->f q=l k->k<=q:=by
  intro k
  induction k with
  | zero=>intro _ q _ _;exact Rg _
  | succ k C=>
   intro a q Y e;obtain⟨I,d,u⟩:=o k ⋯;have F:=C ⋯ I d u;have G:=b.mono k (k+1) ⋯ a;rcases OG I q with z | z
   ·omega
   ·rcases OG q I with y | y
    ·have:=O.mono q I y d
     omega
    ·have:q=I:=by omega
     subst this;omega
 rcases Nat.eq_zero_or_pos r with z | z
 ·omega
 ·obtain⟨q,Y,e⟩:=o (r - 1) ⋯
  have:=t (r - 1) ⋯ q Y e;omega
end
section
variable{p:Int}{n m r h w:Nat}
theorem vK{l:DK}(h:Nat) : ∀{r:Nat},(∀k m,k<m->m<r->l k<l m)->∃s,s<=r/\(∀k,k<s->l k<h)/\∀k,s<=k->k<r->h<=l k
 | 0,_=>⟨0,Ou _,λk a=>absurd a<|OO _,λk _ a=>absurd a<|OO _⟩
 | r+1,hm=>by
  obtain⟨s,d,b,I⟩:=vK h (r:=r) λk m a O=>hm k m a ⋯;by_cases e:l r<h
  ·refine⟨r+1,Ou _,λk a=>?_,λk d b=>by omega⟩
   rcases OG k r with z | z
   ·have:=hm k r z ⋯;omega
   ·have:k=r:=by omega
    subst this;exact e
  ·refine⟨s,by omega,b,λk a Y=>?_⟩
   rcases OG k r with z | z
   ·exact I k a z
   ·have:k=r:=by omega
    subst this;omega
theorem Wc(L:s<=r)(I : ∀k,k<s->q k=dd)(J : ∀k,s<=k->k<r->q k=cL):(Od r).filter q=(Od<|r - s).map (s + ·):=by
 obtain⟨d,rfl⟩ : ∃d,r=s+d:=⟨r - s,by omega⟩;rw[Uj,Ug];have b:(Od s).filter q=[]:=List.filter_eq_nil_iff.mpr λk a=>by rw[I k (Oj.mp a)];decide
 have e:((Od d).map (s + ·)).filter q=(Od d).map (s + ·):=List.filter_eq_self.mpr λk a=>by obtain⟨i,f,rfl⟩:=RK.mp a;exact J _ ⋯ (by have:=Oj.mp f;omega)
 rw[b,e,OU];rfl
noncomputable def qj(h:Nat)(u v:Vc):Vc:=λi=>if i<h then u i else v (i - h)
noncomputable def jH(j:Nat):Vc:=λk=>if j=k then 1 else 0
theorem zV(I:i<h):qj h u v i=u i:=DZ I
theorem z7(i:Nat):qj h u v (h+i)=v i:=by unfold qj;rw[DJ ⋯,OU]
theorem yq(h w:Nat)(u v:Vc):zP h u++zP w v=zP (h+w) (qj h u v):=by
 unfold zP;rw[Uj,PB];congr 1
 ·exact OB λi a=>by rw[zV (Oj.mp a)]
 ·rw[Pw]
  exact OB λi _=>by simp only[Function.comp];rw[z7]
theorem iV(h w:Nat)(v:Vc):(zP (h+w) v).take h=zP h v:=by unfold zP;rw[<- List.map_take,List.take_range,SM (PU h w)]
theorem iW(h w:Nat)(v:Vc):(zP (h+w) v).drop h=zP w λj=>v (h+j):=by unfold zP;rw[Uj,PB,List.drop_append_of_le_length ⋯,List.drop_eq_nil_of_le ⋯,Pw];rfl
theorem bA(h w:Nat)(v:Vc):Zy (zP (h+w) v) cR (cI (h:Int))=zP h v:=by
 have c : ¬((h:Int)<0):=by omega
 have e:min h (h+w)=h:=SM<|PU h w;simp[Zy,QL,c,e,iV]
theorem bz(h w:Nat)(v:Vc):Zy (zP (h+w) v) (cI (h:Int)) cR=zP w λj=>v (h+j):=by
 have c : ¬((h:Int)<0):=by omega
 have e:min h (h+w)=h:=SM<|PU h w;have t : ∀g:Vc,(zP w g).take w=zP w g:=λg=>Rr ⋯;simp[Zy,QL,c,e,iW,t]
theorem mS(v:Vc) : ∀n,XY (zP n v)=cI ((Od n).map λi=>v i != 0)
 | 0=>rfl
 | n+1=>by
  have z : ∀l:List Nat,XY (l.map λi=>D.int<|v i)=cI (l.map λi=>v i != 0):=by
   intro l
   induction l with
   | nil=>rfl
   | cons a l I=>simp[XY,Gx,I]
  exact z _
theorem yz(J:hI p (h+w) r B l)(I:r<=lim)(Y:s<=r)(L : ∀k,k<s->l k<h)(h2 : ∀k,s<=k->k<r->h<=l k) :
 jP [.int h,.lst (zW r (h+w) B)]=cI (.own<|zW (r - s) w λk j=>B (s+k)<|h+j):=by
 have z:jh (.nm 0) (kW<|sB<|Ib<|zL<|VC (ze 0) W1<|o6<|ze 1) (VC (ze 0) (o6<|ze 1) W1) [Cell.no,Cell.val (.int h)] (zW r (h+w) B)=cI (((Od r).filter λk=>decide<|h<=l k).map λk=>D.tup<|zP w λj=>B k<|h+j):=by
  unfold zW;refine j9 (λk=>decide<|h<=l k) _ _ λk d=>⟨_,rfl,?_,λO=>?_⟩
  ·have d:=Oj.mp d
   simp[bA,mS];by_cases e:h<=l k
   ·simp[e]
    intro i f;have:=J.m8 k i d ⋯;simp[this]
   ·simp[e]
    exact⟨l k,by omega,by rw[J.one k d];decide⟩
  ·simp[bz]
 rw[Wc Y (λk d=>decide_eq_false (by have:=L k d;omega)) (λk a b=>decide_eq_true<|h2 k a b)]at z;simp[jP,jn,jx,I,jL,xm,gx,z];unfold zW;rfl
noncomputable def s_(p:Int)(h w:Nat)(f:DW)(v:Vc):Prop:=∀i,i<h->zf (λj=>f i j*v j) w%p=0
theorem om{f:DW}{v:Vc}(I:Span p (h+w) (ec w λj=>qj h (λi=>f i j)<|jH j) v) : ∀i,i<h->v i%p=zf (λj=>f i j*v (h+j)) w%p:=by
 induction I with
 | @zero v b=>
  intro i a;rw[b i ⋯];have:zf (λj=>f i j*v (h+j)) w%p=zf (λ_=>0) w%p:=zy λj O=>by rw[Om,b (h+j) ⋯];simp
  rw[this,zz];rfl
 | @step v u g c Y n z l=>
  intro i a;obtain⟨m,k,rfl⟩:=Y;rw[z i ⋯,OE,l i a,<- OE];have e:zf (λj=>f i j*v (h+j)) w%p=zf (λj=>f i j*u (h+j)+c*(f i j*jH m j)) w%p:=zy λj O=>by rw[Om,z (h+j) ⋯,<- Om];simp only[z7];rw[Tp,RW]
  rw[e,z9,zZ,zK (f:=λj=>f i j*jH m j) k λj _ d=>by simp[jH,PH d]];simp[jH,zV a]
theorem WK(z:Pr p)(w:Nat):hI p w w jH id where
 lt:=λk hk=>hk
 mono:=λk m hk _=>hk
 one:=λk _=>DZ rfl
 m8:=λk j _ I=>DJ (by simp only[id]at I;omega)
 j3:=λk m _ _ O=>DJ (by simp only[id];omega)
 i4:=λk i _ _=>by have:=z.two;unfold jH;split<;>omega
theorem Span.map(t:DK)(z : ∀i,i<n'->t i<n)(I : ∀g,G g->Span p n' G' λi=>g<|t i)(O:Span p n G v):Span p n' G' λi=>v (t i):=by
 induction O with
 | @zero v d=>exact .zero λi a=>d _<|z i a
 | @step v u g c Y f b e=>exact((I _ Y).add e c).congr λi a=>b _<|z i a
theorem J1(J:Pr p)(hh:h<=20)(hw:w<=20)(f:DW) :
 ∃q K l s,ZL [.int p,jV h w f]=cI (.own<|zW q w K)/\hI p w q K l/\(∀v,Span p w (ec q K) v↔s_ p h w f v)/\Rk p h w (λj i=>f i j) s/\q+s=w:=by
 have hl:=jB;have S:h<=lim:=by omega
 have A:w<=lim:=by omega
 have U:h+w<=lim:=by omega
 obtain⟨r,B,l,e,b,y⟩:=xC J (show h+w<=100 by omega) A .L λj=>qj h (λi=>f i j)<|jH j;have X : ∀v,Span p (h+w) (ec r B) v->∀i,i<h->v i%p=zf (λj=>f i j*v (h+j)) w%p:=λv O=>om<|(y v).mp O;have Z:r<=w:=by obtain⟨r',E,G⟩:=W4 J (n:=h+w) w λj=>qj h (λi=>f i j)<|jH j;rw[VF J ⟨B,l,b,y⟩ G];exact E
 have aa:w<=r:=by obtain⟨r',E,G⟩:=W4 J (n:=w) r λk j=>B k<|h+j;refine PK (Cy J (m:=w) (W:=jH) ⟨jH,id,WK J w,λv=>Iff.rfl⟩ G λj I=>?_) E;have:=Span.map (n':=w) (G':=ec r λk j=>B k<|h+j) (λi=>h+i) (λi o=>by omega) (λg ⟨k,a,Y⟩=> .gen ⟨k,a,by rw[Y]⟩)<|(y<|qj h (λi=>f i j)<|jH j).mpr (.gen ⟨j,I,rfl⟩);exact this.congr λi _=>by rw[z7]
 have er:r=w:=Nat.le_antisymm Z aa;subst er;obtain⟨s,hs,N,x⟩:=vK h b.mono;have eb:=yz b A hs N x;have ac:hI p r (r - s) (λk j=>B (s+k)<|h+j) (λk=>l (s+k) - h):={
  lt:=λk a=>by have:=b.lt (s+k) ⋯;have:=x (s+k) ⋯ ⋯;omega
  mono:=λk m a H=>by have:=b.mono (s+k) (s+m) ⋯ ⋯;have:=x (s+k) ⋯ ⋯;omega
  one:=λk a=>by have:=x (s+k) ⋯ ⋯;rw[show h+(l (s+k) - h)=l (s+k)by omega];exact b.one _ ⋯
  m8:=λk j a I=>b.m8 _ _ ⋯ ⋯
  j3:=λk m a H C=>by have:=x (s+m) ⋯ ⋯;rw[show h+(l (s+m) - h)=l (s+m)by omega];exact b.j3 _ _ ⋯ ⋯ ⋯
  i4:=λk i a o=>b.i4 _ _ ⋯ ⋯}
 refine⟨r - s,_,_,s,?_,ac,λv=>⟨λO=>?_,λO=>?_⟩,?_,by omega⟩
 ·have Q:=ka f S A
  have R:=wA (n:=r) A;have ae:jh (.tp [0,1]) jO (zw qg (ze 0)<|ze 1) [Cell.no,Cell.no] ((Od r).map λj=>D.tup [.tup (zP h λi=>f i j),.tup (zP r λk=>if j=k then 1 else 0)])=cI (zW r (h+r) λj=>qj h (λi=>f i j)<|jH j):=by unfold zW;refine zD _ _ λj I=>zF rfl rfl ?_;simp[qg,U,yq];rfl
  have zp:K4 (zW r h λi j=>f j i) (zW r r λi j=>if i=j then 1 else 0)=(Od r).map λj=>D.tup [.tup (zP h λi=>f i j),.tup (zP r λk=>if j=k then 1 else 0)]:=by unfold K4 zW;rw[e_];simp
  have c1:((h:Int)+(r:Int))=((h+r:Nat):Int):=by omega
  simp only[rn]at e;rw[<- c1]at e;unfold jV at Q R ⊢;have nl : ∀T t f γ,jh T t f γ []=cI []:=λ_ _ _ _=>rfl;simp[ZL,qr,jn,jx,jM,Q,R,zp,A,jL,gx,ae,nl,e,eb]
 ·intro i o
  induction O with
  | @zero v hz=>
   have:zf (λj=>f i j*v j) r%p=zf (λ_=>0) r%p:=zy λj I=>by rw[Om,hz j I];simp
   rw[this,zz];rfl
  | @step v u g c hg hu he M=>
   obtain⟨k,a,rfl⟩:=hg;have e1:zf (λj=>f i j*v j) r%p=zf (λj=>f i j*u j+c*(f i j*B (s+k) (h+j))) r%p:=zy λj I=>by rw[Om,he j I,<- Om,Tp,RW]
   have P:=X (B<|s+k) (.gen ⟨s+k,by omega,rfl⟩) i o;have e3:B (s+k) i=0:=b.m8 _ _ ⋯ (by have:=x (s+k) ⋯ ⋯;omega);rw[e3]at P;rw[e1,z9,zZ,OE,M,Om,<- P];simp
 ·
  have ax:Span p (h+r) (ec r B) (qj h (λ_=>0) v):=by
   refine(y _).mpr ((Span.sum (u:=λj=>qj h (λi=>f i j)<|jH j) v (m:=r) λj I=> .gen ⟨j,I,rfl⟩).congr λi o=>?_);rcases OG i h with z | z
   ·simp only[zV z]
    rw[zk (g:=λj=>f i j*v j) λj _=>Rf _ _,O i z];simp
   ·obtain⟨k,rfl⟩ : ∃k,i=h+k:=⟨i - h,by omega⟩
    simp only[z7];rw[zK (f:=λj=>v j*jH j k) (i:=k) ⋯ λj _ C=>by simp[jH,C]];simp[jH]
  have co:=Wh b ax;refine(Span.sum (u:=λk j=>B (s+k)<|h+j) (λk=>qj h (λ_=>0) v<|l<|s+k) (m:=r - s) λk a=> .gen ⟨k,a,rfl⟩).congr λj I=>?_;have:=co (h+j) ⋯;rw[z7]at this;rw[this];obtain⟨d,rfl⟩ : ∃d,r=s+d:=⟨r - s,by omega⟩;rw[OU];have sp : ∀(F:Nat->Int) (d:Nat),(∀k,k<s->F k=0)->zf F (s+d)=zf (λk=>F<|s+k) d:=by
   intro F d hF
   induction d with
   | zero=>
    show zf F s=0;rw[zk (g:=λ_=>0) hF,zz]
   | succ d M=>rw[<- Nat.add_assoc];simp only[zf];rw[M]
  rw[sp _ d λk a=>by rw[zV (N k a)];simp]
 ·
  refine⟨λk i=>B k i,l,⟨λk a=>N k a,λk m a H=>b.mono k m a ⋯,λk a=>b.one k ⋯,λk j a I=>b.m8 k j ⋯ I,λk m a H C=>b.j3 k m ⋯ ⋯ C,λk i a o=>b.i4 k i ⋯ ⋯⟩,λv=>⟨λO=>O.le λg ⟨k,a,Y⟩=>?_,λO=>O.le λg ⟨j,I,Y⟩=>?_⟩⟩
  ·subst Y
   exact Span.map (n':=h) (G':=ec r λj i=>f i j) (λi=>i) (λi o=>by omega) (λg ⟨j,I,Y⟩=>(Span.gen (g:=λi=>f i j) ⟨j,I,rfl⟩).congr λi o=>by rw[Y];simp only[zV o])<|(y<|B k).mp (.gen ⟨k,by omega,rfl⟩)
  ·subst Y
   have:=Span.map (n':=h) (G':=ec s λk i=>B k i) (λi=>i) (λi o=>by omega) (λg hZ=>by
    obtain⟨k,a,Y⟩:=hZ;subst Y;rcases OG k s with z | z
    ·exact .gen ⟨k,z,rfl⟩
    ·exact .zero λi o=>by rw[b.m8 k i a (by have:=x k z a;omega)];simp) ((y<|qj h (λi=>f i j)<|jH j).mpr (.gen ⟨j,I,rfl⟩))
   exact this.congr λi o=>by rw[zV o]
end
section
variable{p:Int}{h w q r:Nat}
noncomputable def app(f:DW)(w:Nat)(v:Vc):Vc:=λi=>zf (λj=>f i j*v j) w
theorem JU(z : ∀j,j<w->v j%p=(u j+c*g j)%p)(i:Nat):app f w v i%p=(app f w u i+c*app f w g i)%p:=by
 unfold app;have e:zf (λj=>f i j*v j) w%p=zf (λj=>f i j*u j+c*(f i j*g j)) w%p:=zy λj I=>by rw[Om,z j I,<- Om,Tp,RW]
 rw[e,z9,zZ]
theorem ZK(hz : ∀j,j<w->v j%p=0)(i:Nat):app f w v i%p=0:=by
 unfold app;have:zf (λj=>f i j*v j) w%p=zf (λ_=>0) w%p:=zy λj z=>by rw[Om,hz j z];simp
 rw[this,zz];rfl
theorem k5(z : ∀j,j<w->v j%p=u j%p)(i:Nat):app f w v i%p=app f w u i%p:=by unfold app;exact zy λj I=>by rw[Om,z j I,<- Om]
theorem Wx(J:Pr p)(hh:h<=100)(hw:w<=lim)(hq:q<=lim)(f:DW)(hf : ∀i j,i<h->j<w->0<=f i j/\f i j<100)(K:Nat->Vc) :
 ∃r B l,yv [.int p,jV h w f,.lst (zW q w K)]=cI (.own<|zW r h B)/\hI p h r B l/\∀v,Span p h (ec r B) v ↔ ∃y,Span p w (ec q K) y/\∀i,i<h->v i%p=app f w y i%p:=by
 have C:=jB;obtain⟨r,B,l,e,A,o⟩:=xC J hh hq .L λk i=>app f w (K k) i%p;refine⟨r,B,l,?_,A,λv=>(o v).trans ⟨λz=>?_,λ⟨y,I,z⟩=>?_⟩⟩
 ·have s:jh (.nm 0) jO (zJ mh<|zc (ze 1)<|zc (ze 2)<|zc (ze 0) zC) [Cell.no,Cell.val<|.int p,Cell.val (jV h w f)] (zW q w K)=cI (zW q h λk i=>app f w (K k) i%p):=by
   unfold zW;refine zD _ _ λk b=>zF rfl rfl ?_;have:=rG (p:=p) .T f (K k) J.pos (show h<=lim by omega) hw hf;simp only[rn]at this;simp[this];rfl
  simp only[rn]at e;have sq:jo (jV h w f)=cI (.T,[.int h,.int w,.tup (zW h w f)]):=rfl;simp[yv,jn,jx,hq,jL,xm,gx,s,sq,e]
 ·induction z with
  | @zero v d=>exact⟨λ_=>0,.zero λi _=>by simp,λi a=>by rw[d i a,ZK (p:=p) (λ_ _=>by simp)]⟩
  | @step v u g c O n Y m=>
   obtain⟨y,I,t⟩:=m;obtain⟨k,b,rfl⟩:=O;refine⟨λj=>y j+c*K k j,(Span.gen (g:=K k) ⟨k,b,rfl⟩).add I c,λi a=>?_⟩;rw[JU (p:=p) (u:=y) (g:=K k) (c:=c) (λ_ _=>rfl) i,Y i a,OE,t i a,Om,Pc,<- Om,<- OE]
 ·induction I generalizing v with
  | @zero y d=>exact .zero λi a=>by rw[z i a];exact ZK d i
  | @step y u g c O n Y m=>
   obtain⟨k,b,rfl⟩:=O;have x:=m (app f w u) ⟨u,n,λ_ _=>rfl⟩ λi a=>rfl;refine((Span.gen (g:=λi=>app f w (K k) i%p) ⟨k,b,rfl⟩).add x c).congr λi a=>?_;rw[z i a,JU (p:=p) Y i,OE,Om,<- Pc (app f w (K k) i),<- Om,<- OE,Pc]
theorem QX(J:hI p (h+w) r B l)(hs:s<=r)(s1 : ∀k,k<s->l k<h)(L : ∀k,s<=k->k<r->h<=l k) :
 hI p w (r - s) (λk j=>B (s+k)<|h+j) (λk=>l (s+k) - h)/\∀v,Span p w (ec (r - s) λk j=>B (s+k)<|h+j) v↔Span p (h+w) (ec r B) (qj h (λ_=>0) v):=by
 refine⟨{
  lt:=λk a=>by have:=J.lt (s+k) ⋯;have:=L (s+k) ⋯ ⋯;omega
  mono:=λk m a t=>by have:=J.mono (s+k) (s+m) ⋯ ⋯;have:=L (s+k) ⋯ ⋯;omega
  one:=λk a=>by have:=L (s+k) ⋯ ⋯;rw[show h+(l (s+k) - h)=l (s+k)by omega];exact J.one _ ⋯
  m8:=λk j a Y=>J.m8 _ _ ⋯ ⋯
  j3:=λk m a t A=>by have:=L (s+m) ⋯ ⋯;rw[show h+(l (s+m) - h)=l (s+m)by omega];exact J.j3 _ _ ⋯ ⋯ ⋯
  i4:=λk i a b=>J.i4 _ _ ⋯ ⋯},λv=>⟨λI=>?_,λI=>?_⟩⟩
 ·induction I with
  | @zero v x=>
   refine .zero λi b=>?_;rcases OG i h with z | z
   ·rw[zV z];simp
   ·obtain⟨k,rfl⟩ : ∃k,i=h+k:=⟨i - h,by omega⟩
    rw[z7];exact x k ⋯
  | @step v u g c o C n O=>
   obtain⟨k,a,rfl⟩:=o;refine .step (g:=B<|s+k) (c:=c) ⟨s+k,by omega,rfl⟩ O λi b=>?_;rcases OG i h with z | z
   ·rw[zV z,zV z,J.m8 (s+k) i ⋯ (by have:=L (s+k) ⋯ ⋯;omega)];simp
   ·obtain⟨j,rfl⟩ : ∃k,i=h+k:=⟨i - h,by omega⟩
    rw[z7,z7];exact n j ⋯
 ·have e:=Wh J I
  refine(Span.sum (u:=λk j=>B (s+k)<|h+j) (λk=>qj h (λ_=>0) v<|l<|s+k) (m:=r - s) λk a=> .gen ⟨k,a,rfl⟩).congr λj Y=>?_;have:=e (h+j) ⋯;rw[z7]at this;rw[this];obtain⟨d,rfl⟩ : ∃d,r=s+d:=⟨r - s,by omega⟩;rw[OU];have y : ∀(F:Nat->Int) (d:Nat),(∀k,k<s->F k=0)->zf F (s+d)=zf (λk=>F<|s+k) d:=by
   intro F d f
   induction d with
   | zero=>
    show zf F s=0;rw[zk (g:=λ_=>0) f,zz]
   | succ d O=>rw[<- Nat.add_assoc];simp only[zf];rw[O]
  rw[y _ d λk a=>by rw[zV (s1 k a)];simp]
end
section
variable{p:Int}{h w q:Nat}
noncomputable def qO(h w:Nat)(f:DW)(g:Nat->Vc):Nat->Vc:=λm=>if m<w then qj h (λi=>f i m) (jH m)else qj h (g<|m - w) (λ_=>0)
theorem iX(f:DW)(g:Nat->Vc):zW w (h+w) (λj=>qj h (λi=>f i j)<|jH j)++zW q (h+w) (λk=>qj h (g k) λ_=>0)=zW (w+q) (h+w) (qO h w f g):=by
 unfold zW;rw[Uj,PB,Pw];congr 1
 ·refine OB λm a=>?_
  unfold qO;rw[DZ (Oj.mp a)]
 ·refine OB λm a=>?_
  simp only[Function.comp];unfold qO;rw[DJ ⋯,OU]
theorem bG(f:DW)(z:j<w)(i:Nat):app f w (jH j) i=f i j:=by unfold app;rw[zK (f:=λk=>f i k*jH j k) z λk _ I=>by simp[jH,PH I]];simp[jH]
theorem gz(hz:Span p (h+w) (ec (w+q)<|qO h w f g) z):Span p h (ec q g) λi=>z i - app f w (λj=>z<|h+j) i:=by
 induction hz with
 | @zero z hz=>
  refine .zero λi a=>?_;rw[Sy,hz i ⋯,ZK (p:=p) (λj l=>hz (h+j) ⋯) i];simp
 | @step z u n c k r Y d=>
  obtain⟨m,o,rfl⟩:=k;have e:=λi=>JU (p:=p) (w:=w) (f:=f) (u:=λj=>u<|h+j) (g:=λj=>qO h w f g m<|h+j) (v:=λj=>z<|h+j) (c:=c) (λj l=>Y (h+j) ⋯) i;have b : ∀i,i<h->(z i - app f w (λj=>z<|h+j) i)%p=((u i - app f w (λj=>u<|h+j) i)+c*(qO h w f g m i - app f w (λj=>qO h w f g m<|h+j) i))%p:=λi a=>by rw[Sy,Y i ⋯,e i,<- Sy];congr 1;rw[Int.mul_sub];omega
  rcases OG m w with I | I
  ·refine d.congr λi a=>?_
   rw[b i a];have t:app f w (λj=>qO h w f g m<|h+j) i=f i m:=by
    have:(λj=>qO h w f g m<|h+j)=jH m:=by funext j;unfold qO;rw[DZ I,z7]
    rw[this,bG f I]
   have O:qO h w f g m i=f i m:=by unfold qO;rw[DZ I,zV a]
   rw[t,O];simp
  ·refine .step (g:=g<|m - w) (c:=c) ⟨m - w,by omega,rfl⟩ d λi a=>?_
   rw[b i a];have t:app f w (λj=>qO h w f g m<|h+j) i=0:=by
    have:(λj=>qO h w f g m<|h+j)=λ_=>0:=by funext j;unfold qO;rw[DJ ⋯,z7]
    rw[this];unfold app;simp[zz]
   have O:qO h w f g m i=g (m - w) i:=by unfold qO;rw[DJ ⋯,zV a]
   rw[t,O];simp
theorem AS(I:Span p h (ec q g) y):Span p (h+w) (ec (w+q)<|qO h w f g) (qj h y λ_=>0):=by
 induction I with
 | @zero y b=>
  refine .zero λi a=>?_;rcases OG i h with z | z
  ·rw[zV z];exact b i z
  ·obtain⟨k,rfl⟩ : ∃k,i=h+k:=⟨i - h,by omega⟩
   rw[z7];simp
 | @step y u l c O n Y d=>
  obtain⟨k,m,rfl⟩:=O;refine .step (g:=qO h w f g<|w+k) (c:=c) ⟨w+k,by omega,rfl⟩ d λi a=>?_;have e:qO h w f g (w+k)=qj h (g k) λ_=>0:=by unfold qO;rw[DJ ⋯,OU]
  rw[e];rcases OG i h with z | z
  ·rw[zV z,zV z,zV z];exact Y i z
  ·obtain⟨j,rfl⟩ : ∃k,i=h+k:=⟨i - h,by omega⟩
   rw[z7,z7,z7];simp
theorem KQ(hp:Pr p)(hh:h<=20)(hw:w<=20)(hq:q<=100)(f:DW)(g:Nat->Vc) :
 ∃r B l,qr [.int p,jV h w f,.lst (zW q h g)]=cI (.own<|zW r w B)/\hI p w r B l/\∀v,Span p w (ec r B) v↔Span p h (ec q g) (app f w v):=by
 have hl:=jB;have U:h<=lim:=by omega
 have I:w<=lim:=by omega
 have O:h+w<=lim:=by omega
 have W:q<=lim:=by omega
 have Y:w+q<=lim:=by omega
 obtain⟨r,B,l,e,d,F⟩:=xC hp (show h+w<=100 by omega) Y .L<|qO h w f g;have X:r<=h+w:=VR d.mono d.lt;obtain⟨s,t,A,C⟩:=vK h d.mono;have M:=yz d ⋯ t A C;obtain⟨H,R⟩:=QX d t A C;refine⟨r - s,_,_,?_,H,λv=>(R v).trans ((F _).trans ⟨λx=>?_,λx=>?_⟩)⟩
 ·have y:=ka f U I
  have E:=wA (n:=w) I;have J:jh (.tp [0,1]) jO (zw qg (ze 0)<|ze 1) [Cell.no,Cell.no] ((Od w).map λj=>D.tup [.tup (zP h λi=>f i j),.tup (zP w λk=>if j=k then 1 else 0)])=cI (zW w (h+w) λj=>qj h (λi=>f i j)<|jH j):=by unfold zW;refine zD _ _ λj o=>zF rfl rfl ?_;simp[qg,O,yq];rfl
  have S:K4 (zW w h λi j=>f j i) (zW w w λi j=>if i=j then 1 else 0)=(Od w).map λj=>D.tup [.tup (zP h λi=>f i j),.tup (zP w λk=>if j=k then 1 else 0)]:=by unfold K4 zW;rw[e_];simp
  have K:inR (w:Int)=cL:=wZ I;have zr:ya (.tup [.int 0]) (.int w)=cI (.tup<|zP w λ_=>0):=by
   show(if [D.int 0].length*(w:Int).toNat<=lim/\inR (w:Int)=cL then cI (D.tup (gx (w:Int).toNat [D.int 0]).flatten)else cR)=_;rw[DZ ⟨by simpa using I,K⟩];congr 2;rw[Pq];clear J S E y M H R F d e K Y O I hw hq A C t X
   induction w with
   | zero=>rfl
   | succ w ih=>rw[List.replicate_succ',List.flatten_append,ih];unfold zP;rw[Rx,PB];rfl
  have N:jh (.nm 0) jO (zw qg (ze 0)<|zw ya (qe<|zc (zx<|.int 0) zC)<|dr (zq 1)<|zx<|.int 1) [Cell.no,Cell.val (jV h w f)] (zW q h g)=cI (zW q (h+w) λk=>qj h (g k) λ_=>0):=by unfold zW;refine zD _ _ λk Q=>zF rfl rfl ?_;have sq:jo (jV h w f)=cI (.T,[.int h,.int w,.tup (zW h w f)]):=rfl;simp[sq,zr,qg,O,yq]
  have c1:((h:Int)+(w:Int))=((h+w:Nat):Int):=by omega
  simp only[rn]at e;rw[<- c1,<- iX]at e;have sq:jo (jV h w f)=cI (.T,[.int h,.int w,.tup (zW h w f)]):=rfl;unfold jV at y E N ⊢;simp[qr,jn,jx,jM,y,E,S,I,W,Y,jL,xm,gx,J,N,e,M]
 ·have:=gz x
  refine(this.smul (-1)).congr λi P=>?_;congr 1;show app f w v i = -1*(qj h (λ_=>0) v i - app f w (λj=>qj h (λ_=>0) v<|h+j) i);rw[zV P,show(λj=>qj h (λ_=>0) v<|h+j)=v from funext λj=>z7 j];omega
 ·have a:=Span.sum (p:=p) (n:=h+w) (G:=ec (w+q)<|qO h w f g) (u:=λj=>qO h w f g j) v (m:=w) λj o=> .gen ⟨j,by omega,rfl⟩
  have b:=AS (w:=w) (f:=f) x;refine(b.add a (-1)).congr λi P=>?_;congr 1;rcases OG i h with z | z
  ·rw[zV z,zV z]
   have:zf (λk=>v k*qO h w f g k i) w=app f w v i:=by unfold app;exact zk λk Q=>by unfold qO;rw[DZ Q,zV z,Rf]
   rw[this];omega
  ·obtain⟨k,rfl⟩ : ∃k,i=h+k:=⟨i - h,by omega⟩
   rw[z7,z7];have:zf (λj=>v j*qO h w f g j (h+k)) w=v k:=by rw[zK (f:=λj=>v j*qO h w f g j (h+k)) (i:=k) ⋯ λj o Z=>by unfold qO;rw[DZ o,z7];simp[jH,Z]];unfold qO;rw[DZ (show k<w by omega),z7];simp[jH]
   rw[this];simp
end
noncomputable def vv(i j:Nat):Int:=if i=j then 1 else 0
noncomputable def Hm(p:Int)(n:Nat)(f g:DW):Prop:=∀i j,i<n->j<n->zf (λk=>f i k*g k j) n%p=vv i j%p
theorem xZ{p x y X Y:Int}(I:x%p=X%p)(J:y%p=Y%p):(x*y)%p=(X*Y)%p:=by rw[Om,I,J,<- Om]
@[simp] theorem BI(r):xm (.nest r) = .no:=rfl
@[simp] theorem EK(r):xm (.own r) = .no:=rfl
@[simp] theorem EJ(d):xm (.val d) = .val d:=rfl
@[simp] theorem GD:xm .no = .no:=rfl
theorem Vf : ∀(l:List Nat),(∀k∈l,∃γ1,qz T (g k) γ=cI γ1/\f γ1=cI (R k))->Zg T f γ (l.map g)=cI (l.map R)
 | [],_=>rfl
 | k::l,h=>by obtain⟨γ1,a,b⟩:=h k Ot;have z:=Vf l λx d=>h x<|Ow _ d;simp[Zg,a,b,z]
noncomputable def jX(w:DV)(k:Nat):Nat:=if w k then k+1 else k
noncomputable def qa(w:DV)(k:Nat):Nat:=if w k then k else k+1
theorem Y2(w:DV)(wd:DK)(k):g9 w wd k=wd (qa w k):=by unfold g9 qa;split<;>rfl
theorem K6(w:DV)(wd:DK)(k):hD w wd k=wd (jX w k):=by unfold hD jX;split<;>rfl
theorem lJ(w:DV)(h:k<m):jX w k<m+1:=by unfold jX;split<;>omega
theorem iU(w:DV)(h:k<m):qa w k<m+1:=by unfold qa;split<;>omega
section
variable{p:Int}{m:Nat}{w:DV}{wd:DK}{f g T:DQ}
theorem w9(m:Nat)(F:Nat->D):xG ((Od m).map F)=(Od m).map λ(k:Nat)=>D.tup [.int k,F k]:=by unfold xG;rw[OC,OM];apply OB;intro k a;have a:=Oj.mp a;simp[a]
end
structure gv where
 s:Nat
 n:Nat
 v:Nat->Vc
noncomputable def gv.has(b:gv)(r:Nat):Bool:=decide (b.s<=r) && decide (r<b.s+b.n)
theorem l9{b:gv}{r:Nat}:b.has r=cL↔b.s<=r/\r<b.s+b.n:=by simp[gv.has]
structure C4(p:Int)(w:DV)(wd:DK)(T:DQ)(k:Nat)(b:gv):Prop where
 n1:1<=b.n
 le:b.s+b.n<=k+1
 i4 : ∀r i,b.has r=cL->i<wd r->0<=b.v r i/\b.v r i<p
 arr : ∀j,j<k->b.has (jX w j)=cL->∀i,i<wd (qa w j)->app (T j) (wd<|jX w j) (b.v<|jX w j) i%p=(if b.has (qa w j)=cL then b.v (qa w j) i else 0)%p
noncomputable def Dh(p:Int)(A:Nat->gv)(N:Nat)(t:Vc)(r:Nat):Vc:=λc=>zf (λj=>if (A j).has r=cL then t j*(A j).v r c else 0) N%p
section
variable{p:Int}{w:DV}{wd:DK}{T:DQ}{k N:Nat}{A:Nat->gv}
theorem Wr(f:DW)(h:Nat)(t:Vc)(u:Nat->Vc)(n:Nat)(i:Nat):app f h (λc=>zf (λj=>t j*u j c) n) i=zf (λj=>t j*app f h (u j) i) n:=by
 unfold app;have e:zf (λj=>f i j*zf (λk=>t k*u k j) n) h=zf (λj=>zf (λk=>t k*(f i j*u k j)) n) h:=zk λj _=>by rw[<- zZ];exact zk λk _=>by rw[<- PF,<- PF,Rf (f i j)]
 rw[e,jZ];exact zk λj _=>zZ ..
theorem AI(c:Prop) [Decidable c](x y:Int):(if c then x*y else 0)=x*(if c then y else 0):=by split<;>simp
theorem Bx(f:DW)(h r:Nat)(t:Vc)(i:Nat):app f h (Dh p A N t r) i%p=zf (λj=>t j*(if (A j).has r=cL then app f h ((A j).v r) i else 0)) N%p:=by
 have e:app f h (Dh p A N t r) i%p=app f h (λc=>zf (λj=>t j*(if (A j).has r=cL then (A j).v r c else 0)) N) i%p:=k5 (λc _=>by unfold Dh;rw[Pc];congr 1;exact zk λj _=>AI ..) i
 rw[e,Wr];congr 1;refine zk λj _=>?_;congr 1;by_cases z:(A j).has r=cL
 ·simp only[DZ z]
 ·simp only[DJ z]
  unfold app;simp[zz]
end
section
variable{p:Int}{n m N h r r2 q:Nat}{B B2 K:Nat->Vc}{l l2 zbl:DK}{M f:DW}
theorem yH(z:Span p n (ec m U) v) : ∃t:Vc,∀i,i<n->v i%p=zf (λj=>t j*U j i) m%p:=by
 induction z with
 | zero h=>exact⟨λ_=>0,λi a=>by rw[h i a];simp[zz]⟩
 | @step v w g c I o O Y=>
  obtain⟨t,l⟩:=Y;obtain⟨k,d,rfl⟩:=I;refine⟨λj=>t j+if j=k then c else 0,λi a=>?_⟩;rw[O i a,OE,l i a,<- OE];congr 1;have e:zf (λj=>(t j+if j=k then c else 0)*U j i) m=zf (λj=>t j*U j i) m+zf (λj=>(if j=k then c else 0)*U j i) m:=by rw[<- z9];exact zk λj _=>TH ..
  rw[e,zK (f:=λj=>(if j=k then c else 0)*U j i) d λj _ b=>by simp[b]];simp
theorem xT(a b:Nat->Int)(n:Nat):zf (λj=>a j*b j) n=zf (λj=>b j*a j) n:=zk λj _=>Rf ..
theorem _W:Span p h (ec N λj i=>M i j) u ↔ ∃x:Vc,∀i,i<h->u i%p=app M N x i%p:=by
 constructor
 ·intro q
  obtain⟨t,z⟩:=yH q;exact⟨t,λi a=>by rw[z i a];unfold app;rw[xT]⟩
 ·rintro⟨x,b⟩
  refine(Span.sum (u:=λj i=>M i j) x (m:=N) λj I=> .gen ⟨j,I,rfl⟩).congr λi a=>?_;rw[b i a];unfold app;rw[xT]
theorem iK(n:Nat)(v:Vc):Span p n (ec n jH) v:=by refine(Span.sum (u:=jH) v (m:=n) λj z=> .gen ⟨j,z,rfl⟩).congr λi a=>?_;rw[zK (f:=λk=>v k*jH k i) a λk _ b=>by simp[jH,b]];simp[jH]
theorem JK(z:Pr p)(J:N<=8)(hs : ∀v:Vc,∃t,∀i,i<N->v i%p=app f N t i%p)(I : ∀i,i<N->app f N t i%p=0) : ∀j,j<N->t j%p=0:=by
 obtain⟨q,K,l,s,_,m,a,O,g⟩:=J1 z (h:=N) (w:=N) ⋯ ⋯ f;have Y:Rk p N N (λj i=>f i j) N:=⟨jH,id,WK z N,λv=>⟨λ_=>_W.mpr<|hs v,λ_=>iK N v⟩⟩;have:=VF z O Y;have e:q=0:=by omega
 subst e;have:=(a t).mpr λi d=>by have:=I i d;unfold app at this;exact this
 cases this with
 | zero h=>exact h
 | step b _ _=>obtain⟨k,a,_⟩:=b;omega
theorem Bw(g:DW)(w:Nat)(u v:Vc)(i:Nat):app g w (λj=>u j - v j) i=app g w u i - app g w v i:=by
 have e:app g w u i=app g w (λj=>u j - v j) i+app g w v i:=by unfold app;rw[<- z9];exact zk λj _=>by dsimp only;rw[<- Tp];congr 1;omega
 omega
end
noncomputable def y6:=jn 8<|zS (kU 4<|ye zC)<|zS (Jb (jI<|ze 2) (.nm 5)<|zS (jE 6<|zJ ja<|zc (ze 0)<|zc (zw qg (ze 1)<|ze 5) zC)<|zS (jE 7<|zw kj (ze 6)<|ze 3)<|jS 4<|qe<|zc (ze 7)<|zc (zw qg (ze 7)<|zw kj (zw K1 (ze 6)<|ze 3)<|zw vg (ze 3)<|ze 7) zC)<|Ja<|Ym<|zq 4
noncomputable def xv:=jn 1<|jb (sB<|zw p3 (BG<|zq 0)<|zx<|.int 30) Zj kE
noncomputable def wD:=jn 2<|xM<|zJ ju<|zc (qe<|zc (wG<|zq 1)<|zc (ze 0)<|zc (jd<|zq 1) zC) zC
theorem zG(h:F γ=cI (.next γ'))(g:G γ'=r):zS F G γ=r:=by rw[jM,h];exact g
theorem xj(h:F (jx n ds)=cI (.ret r)):jn n F ds=cI r:=by show(F<|jx n ds).bind _=_;rw[h];rfl
@[simp] noncomputable def Lu:=@Cs.eq_1
noncomputable def LP(m I:Nat)(w w':DV):Prop:=m=I/\∀k,k<m->w k=w' k
instance (m m':Nat) (w w':DV):Decidable (LP m m' w w'):=inferInstanceAs (Decidable (m=m'/\∀k,k<m->w k=w' k))
section
variable{p zbq:Int}{m m':Nat}{w w':DV}{wd kb:DK}{T T':DQ}
theorem ux:jo (qB p m w wd T)=cI (.T,[.int p,.tup<|zP (m+1) λk=>(wd k:Int),.tup (qJ m w wd T)]):=rfl
theorem Bv(k):jo (wH w wd T k)=cI (.T,[.str (xc<|f6<|w k),jV (g9 w wd k) (hD w wd k) (T k)]):=rfl
theorem eB:jh (.nm 0) jO (dr (zq 0)<|zx<|.int 0) [Cell.no] (qJ m w wd T)=cI ((Od m).map λk=>D.str<|xc<|f6<|w k):=by unfold qJ;refine zD _ _ λk a=>zF rfl rfl ?_;simp[Bv]
theorem yZ(J:m<=900):x9 [qB p m w wd T]=cI (.val<|.str<|qP m w):=by
 have O:=jB;have z:m<=lim:=by omega
 have st:Ye ((Od m).map λk=>D.str<|xc<|f6<|w k)=cI ((Od m).map λk=>xc<|f6<|w k):=WV _ _;have I:((Od m).map λk=>xc<|f6<|w k).all jy=cL:=by simp only[Pe];intro x a;obtain⟨k,_,rfl⟩:=RK.mp a;unfold f6;split<;>decide
 have b:jy "" = cL:=by decide +kernel
 simp only[x9,jn,jx];simp only[sS,BC,k6,Wu,kM,kB,xp,vG,qu,OH,i_,OK,RL,gx,Rz,Oq,zY,ux,Og,OJ,jN,P2,kv,bD,Nat.sub_self,C9];rw[lS,DZ z,show jL 1 [] [Cell.val (qB p m w wd T)]=[Cell.no]from rfl,eB];simp only[OJ,Og,st];rw[DZ ⟨by simpa using z,I,b⟩];rfl
end
theorem lz(xs:List D)(n:Nat)(J:xs.length=n)(L : ∀i (h:i<n),∃z,xs[i]'(J ▸ h) = .int z)(bl:n<=63)(k:Int)(hk:0<=k)(bm:k<100000) :
 ∃m,ja [.lst xs,.int k]=cI (.val<|.int m)/\0<=m/\m<1000000007:=by
 have O : ∀x:Int,QM x 48271=cL:=λx=>lG _ _ ⋯ ⋯;have Y : ∀x:Int,QM 7 x=cL:=λx=>yC _ _ ⋯ ⋯;have e : ∀x:Int,QM 13 x=cL:=λx=>yC _ _ ⋯ ⋯;have f : ∀x:Int,QM x 69621=cL:=λx=>lG _ _ ⋯ ⋯;have g:QM (7*k) k=cL:=lG _ _ ⋯ ⋯;have I:FS 10 9=cL:=by decide
 have b:FS 10 30=cL:=by decide
 have hl:lim=2500:=rfl;by_cases F:n=0
 ·subst F
  have l:xs=[]:=Pd J;subst l;simp[ja,jn,jx,jM,O,Y,e,f,g,I,b];omega
 ·have o:0<n:=by omega
  obtain⟨i,Q⟩:=RB (Pb k<|show(n:Int)≠0 by omega);have u:i<n:=by have:=OQ k (show(0:Int)<n by omega);omega
  obtain⟨zbw,A⟩:=L i u;have U:l5 n (i:Int)=cI i:=by rw[jJ,DZ u]
  by_cases N:n=1
  ·subst N
   have p:i=0:=by omega
   subst p;have k1:k%1=0:=by omega
   simp[ja,jn,jx,jM,O,Y,e,f,g,I,b,J,A];omega
  ·obtain⟨z0,l⟩:=L 0 o
   have p:l5 n 0=cI 0:=by have:=jJ n 0;rw[DZ o]at this;exact this
   have C:(0:Int)<(n:Int) - 1:=by omega
   have E:(1:Int)<(n:Int):=by omega
   have y:1<n:=by omega
   have X:(n:Int) - 1<1073741824:=by omega
   have Z:(0:Int)<(n:Int):=by omega
   obtain⟨j,R⟩:=RB (Pb k<|show(n:Int) - 1≠0 by omega);have w:1+j<n:=by have:=OQ k C;omega
   obtain⟨zj,M⟩:=L (1+j) w;have W:l5 n (1+(j:Int))=cI (1+j):=by have:=jJ n<|1+j;rw[DZ w]at this;rw[<- this];congr 1
   have P:0<=k/((n:Int) - 1)/\k/((n:Int) - 1)<=k:=⟨Int.ediv_nonneg hk ⋯,Int.ediv_le_self _ hk⟩;obtain⟨t,S⟩:=RB P.1;by_cases B:z0%2=1
   ·obtain⟨a,G,c0⟩ : ∃a:Nat,(if (t:Int)<60 then (t:Int)else 60)=a/\a<=60:=by
     split
     ·exact⟨t,rfl,by omega⟩
     ·exact⟨60,rfl,by omega⟩
    have H:inR (a:Int)=cL:=sH ⋯ ⋯;simp[ja,jn,jx,jM,O,Y,e,f,g,J,o,w,E,y,l,p,C,X,B,R,W,M,S,I,b];rw[G,DZ H];simp only[Og,qR,Pq];rw[jt a λi=>(i:Int)];have K : ∀(m s:Nat) (v:Int) (c:Cell),∃r d,qU (.nm 3) (jE 2<|zw K1 (ze 2)<|zw Bf (zx<|D.int 10)<|zx<|D.int 9) ((Tn s m).map λ(i:Nat)=>D.int i) [.val (.lst xs),.val<|.int k,.val<|.int v,c,.no] =
     cI (.next [.val (.lst xs),.val<|.int k,.val<|.int r,d,.no]):=by
     intro m
     induction m with
     | zero=>intro s v c;exact⟨v,c,rfl⟩
     | succ m T=>
      intro s v c;rw[Sh,OH,jz];obtain⟨r,d,h⟩:=T (s+1) (v/10 ^ 9)<|.val<|.int s;refine⟨r,d,?_⟩;rw[<- h];simp[I]
    obtain⟨r,d,h⟩:=K a 0 zj .no;rw[<- A6]at h;rw[h];simp[I];omega
   ·simp[ja,jn,jx,jM,O,Y,e,f,g,J,E,y,Z,o,l,p,B,Q,A,u,U,I,b]
    omega
theorem Bk(ns:List Int)(J:ns.length<=63)(k:Int)(I:0<=k)(z:k<100000) : ∃m,ja [bh ns,.int k]=cI (.val<|.int m)/\0<=m/\m<1000000007:=
 lz (ns.map D.int) ns.length ⋯ (λi a=>⟨ns[i],by simp⟩) J k I z
noncomputable def kK(ns:List Int)(k:Int):Int:=match ja [bh ns,.int k]with
 | some (.val<|.int m)=>m
 | _=>0
theorem KL(J:ns.length<=63)(I:0<=k)(z:k<100000):ja [bh ns,.int k]=cI (.val<|.int<|kK ns k)/\0<=kK ns k/\kK ns k<1000000007:=by
 obtain⟨m,h,a,b⟩:=Bk ns J k I z;have e:kK ns k=m:=by unfold kK;rw[h]
 rw[e];exact⟨h,a,b⟩
noncomputable def zA(bs:List (Int×Int)):List D:=bs.map λb=>D.tup [.int b.1,.int b.2]
@[simp] theorem wo(bs):(zA bs).length=bs.length:=by simp[zA]
theorem Xk : ∀bs,Zl (zA bs)=cI bs
 | []=>rfl
 | b::bs=>by have z:=Xk bs;unfold zA at z;simp[zA,Zl,oq,z]
noncomputable def ZX(bs:List (Int×Int)):List (Int×Int):=(kh bs).map λi=>bs.getD i (0,0)
theorem wJ(bs):(ZX bs).Perm bs:=by have:=(xU bs).map λi=>bs.getD i (0,0);rw[qx]at this;exact this
theorem Yi{bs:List (Int×Int)}(h:bs.length<64):fw (zA bs)=cI (zA<|ZX bs):=by unfold fw;rw[Xk];show(if (zA bs).length<64 then cI ((kh bs).map λi=>(zA bs).getD i .eg)else cR)=_;rw[wo,DZ h];unfold ZX;congr 1;unfold zA;rw[Pw];refine OB λi a=>?_;have a:i<bs.length:=Oj.mp<|(xU bs).mem_iff.mp a;simp[a]
noncomputable def mw(n:Int)(b:Int×Int):Prop:=0<=b.1/\b.1<=b.2/\b.2<n
@[simp] noncomputable def Ha:=@Ym.eq_1
section ap
variable(γ:Ctx)
@[simp] noncomputable def GZ:=@Cr.eq_1
@[simp] noncomputable def He:=@xW.eq_1
@[simp] noncomputable def Hf:=@Xd.eq_1
@[simp] noncomputable def zaN:=@Nj.eq_1
end ap
noncomputable def NC(b:Int×Int)(r:Int):Bool:=decide (b.1<=r) && decide (r<=b.2)
noncomputable def rZ(bs:List (Int×Int))(r:Int):List Nat:=(Od bs.length).filter λi=>NC (bs.getD i (0,0)) r
noncomputable def Iz(l:List Nat):List D:=l.map λ(i:Nat)=>D.int i
@[simp] theorem GE(l):(Iz l).length=l.length:=by simp[Iz]
theorem dW(z:Pr p)(I:h<=100)(J:w<=lim)(f:DW) :
 ∃r B l,KU [.int p,jV h w f]=cI (.own<|zW r h B)/\hI p h r B l/\∀v,Span p h (ec r B) v↔Span p h (ec w λj i=>f i j) v:=by
 obtain⟨r,B,l,e,a,b⟩:=xC z I J .T λj i=>f i j;have O:=jB;refine⟨r,B,l,?_,a,b⟩;simp only[rn]at e;have o:=ka f (show h<=lim by omega) J;unfold jV at o ⊢;simp[KU,jn,jx,o,e]
theorem pH(n:Nat)(v:Vc):xG (zP n v)=(Od n).map λ(i:Nat)=>D.tup [.int i,.int (v i)]:=by unfold xG;rw[yo];refine OB λi a=>?_;have:=Oj.mp a;simp[zP,this]
theorem mi(hn:n<=lim)(v:Vc)(ha:a<n)(L : ∀i,i<a->v i=0)(J:v a≠0):xB [.tup (zP n v)]=cI (.val<|.int a):=by
 have I:jh (.tp [0,1]) (sB<|zw i6 (ze 1)<|zx<|.int 0) (ze 0) [Cell.no,Cell.no] ((Od n).map λ(i:Nat)=>D.tup [.int i,.int (v i)])=cI (((Od n).filter λi=> !decide (v i=0)).map λ(i:Nat)=>D.int i):=by refine j9 _ _ _ λi f=>⟨_,rfl,?_,λ_=>rfl⟩;simp
 cases hf:(Od n).filter λi=> !decide (v i=0)with
 | nil=>exact absurd (by have:=YO hf a ha;simpa using this) J
 | cons b qZ=>
  obtain⟨d,O,Y⟩:=Zn hf;have e:b=a:=by
   rcases SW a b with z | z | z
   ·exact absurd (by have:=Y a z;simpa using this) J
   ·exact z.symm
   ·exact absurd (L b z) (by simpa using O)
  subst e;rw[hf]at I;simp[xB,jn,jx,pH,hn,jL,gx,I]
noncomputable def JS(h w:Nat)(f g:DW)(i:Nat):Vc:=if i<h then qj w (f i) (λ_=>0)else qj w (λ_=>0) (g<|i - h)
theorem bf(h h' w:Nat)(f g F:DW)(I : ∀i j,i<h->j<w->F i j=f i j)(J : ∀i j,i<h'->j<w->F (h+i) j=g i j):zW h w f++zW h' w g=zW (h+h') w F:=by
 unfold zW;rw[Uj,PB,Pw];congr 1
 ·exact OB λi a=>by rw[yp λj z=>(I i j (Oj.mp a) z).symm]
 ·exact OB λi a=>by simp only[Function.comp];rw[yp λj z=>(J i j (Oj.mp a) z).symm]
theorem Aq(n:Nat):(gx n [D.int 0]).flatten=zP n λ_=>0:=by
 induction n with
 | zero=>rfl
 | succ n z=>
  rw[RJ,Sw,z];unfold zP;rw[<- vP,<- vP];rfl
theorem rl(f g:DW):zW h (w+w') (λi=>qj w (f i) λ_=>0)++zW h' (w+w') (λi=>qj w (λ_=>0)<|g i)=zW (h+h') (w+w') (JS h w f g):=
 bf h h' _ _ _ _ (λi j a _=>by unfold JS;rw[DZ a]) λi j a _=>by unfold JS;rw[DJ ⋯,OU]
theorem vk(f g:DW)(hh:h<=400)(hw:w<=400)(J:h'<=400)(L:w'<=400) :
 qp [jV h w f,jV h' w' g]=cI (.val<|jV (h+h') (w+w')<|JS h w f g):=by
 have p:=jB;have I:h<=lim:=by omega
 have a:w<=lim:=by omega
 have d:h'<=lim:=by omega
 have j:w'<=lim:=by omega
 have Y:w+w'<=lim:=by omega
 have k:h+h'<=lim:=by omega
 have O : ∀(h w:Nat) (f:DW),jo (jV h w f)=cI (.T,[.int h,.int w,.tup (zW h w f)]):=λ_ _ _=>rfl;have l:ya (.tup [.int 0]) (.int w)=cI (.tup<|zP w λ_=>0):=by show(if ([D.int 0]).length*(w:Int).toNat<=lim/\inR (w:Int)=cL then _ else _)=_;rw[DZ ⟨by simpa using a,wZ a⟩,Pq,Aq]
 have g1:jh (.tp [0,1]) jO (zw qg (ze 0)<|ze 1) [Cell.no,Cell.no] (K4 (zW h w f)<|zW h w' λ_ _=>0)=cI (zW h (w+w') λi=>qj w (f i) λ_=>0):=by
  have z:K4 (zW h w f) (zW h w' λ_ _=>0)=(Od h).map λi=>D.tup [.tup (zP w<|f i),.tup (zP w' λ_=>0)]:=by unfold K4 zW;rw[e_];simp
  rw[z];unfold zW;refine zD _ _ λi b=>zF rfl rfl ?_;have e:qg (.tup<|zP w<|f i) (.tup<|zP w' λ_=>0)=cI (.tup<|zP (w+w')<|qj w (f i) λ_=>0):=by show(if (zP w<|f i).length+(zP w' λ_=>0).length<=lim then _ else _)=_;rw[DZ (by simpa using Y),yq]
  show zw _ _ _ [Cell.val (.tup<|zP w<|f i),Cell.val (.tup<|zP w' λ_=>0)]=_;simp[e]
 have g2:jh (.nm 0) jO (zw qg (zw ya (qe<|zc (zx<|.int 0) zC)<|dr (zq 1)<|zx<|.int 1)<|ze 0) [Cell.no,Cell.val (jV h w f)] (zW h' w' g)=cI (zW h' (w+w') λi=>qj w (λ_=>0)<|g i):=by
  unfold zW;refine zD _ _ λi b=>zF rfl rfl ?_;have e:qg (.tup<|zP w λ_=>0) (.tup<|zP w'<|g i)=cI (.tup<|zP (w+w')<|qj w (λ_=>0)<|g i):=by show(if (zP w λ_=>0).length+(zP w'<|g i).length<=lim then _ else _)=_;rw[DZ (by simpa using Y),yq]
  simp[O,l,e]
 have o:(K4 (zW h w f)<|zW h w' λ_ _=>0).length<=lim:=by unfold K4 zW;simp;exact I
 have m:wB [jV h w f,jV h' w' g]=cI (.val<|jV h w' λ_ _=>0):=by simp[wB,jn,jx,O,Ww I j]
 have n:qV [jV h w f,jV h' w' g,jV h w' λ_ _=>0]=cI (.val<|jV (h+h') (w+w')<|JS h w f g):=by simp[qV,jn,jx,jM,O,I,d,k,o,jL,xm,gx,g1,g2];rw[rl];simp[jV]
 simp[qp,jn,jx,m,n]
@[simp] noncomputable def bI:=@rQ.eq_1
section
variable{p:Int}{m:Nat}{w:DV}{wd:DK}{T:DQ}{a:Nat}
noncomputable def D5(p:Int)(w:DV)(wd:DK)(T:DQ)(k:Nat)(u v:Vc):Prop:=
 if w k then ∀x,x<wd k->u x%p=app (T k) (wd<|k+1) v x%p else ∀x,x<wd (k+1)->v x%p=app (T k) (wd k) u x%p
noncomputable def bK(p:Int)(w:DV)(wd:DK)(T:DQ)(i a:Nat):Nat->Vc->Prop
 | 0,z=>∀x,x<a->z x%p=z (a+x)%p
 | t+1,z=>∃u:Vc,bK p w wd T i a t (qj a z u)/\D5 p w wd T (i+t) u λx=>z<|a+x
theorem vJ(F:Nat->Int)(s:Nat) : ∀d,zf F (s+d)=zf F s+zf (λk=>F<|s+k) d
 | 0=>by simp[zf]
 | d+1=>by rw[<- Nat.add_assoc];simp only[zf];rw[vJ F s d];omega
theorem JT(y:Vc)(x:Nat):app (JS a a (λi j=>if i=j then 1 else 0) f) (a+c) y x=if x<a then y x else app f c (λj=>y<|a+j) (x - a):=by
 unfold app;rw[vJ];by_cases h:x<a
 ·rw[DZ h]
  have b:zf (λj=>JS a a (λi j=>if i=j then 1 else 0) f x j*y j) a=y x:=by
   rw[zK (f:=λj=>JS a a (λi j=>if i=j then 1 else 0) f x j*y j) (i:=x) h λj z I=>by unfold JS;rw[DZ h,zV z];simp[PH I]]
   unfold JS;rw[DZ h,zV h];simp
  have d:zf (λk=>JS a a (λi j=>if i=j then 1 else 0) f x (a+k)*y (a+k)) c=0:=by rw[zk (g:=λ_=>0) λj _=>by unfold JS;rw[DZ h,z7];simp,zz]
  rw[b,d];simp
 ·rw[DJ h]
  have b:zf (λj=>JS a a (λi j=>if i=j then 1 else 0) f x j*y j) a=0:=by rw[zk (g:=λ_=>0) λj z=>by unfold JS;rw[DJ h,zV z];simp,zz]
  have d:zf (λk=>JS a a (λi j=>if i=j then 1 else 0) f x (a+k)*y (a+k)) c=zf (λj=>f (x - a) j*y (a+j)) c:=
   zk λj _=>by unfold JS;rw[DJ h,z7]
  rw[b,d];simp
theorem Ep(J:w (i+t)=dd)(I : ∀z,Span p (a+wd (i+t)) (ec q B) z↔bK p w wd T i a t z)
 (Y : ∀v,Span p (a+wd (i+t+1)) (ec q' B') v ↔ ∃y,Span p (a+wd (i+t)) (ec q B) y/\∀x,x<a+wd (i+t+1)->v x%p=app (JS a a (λi j=>if i=j then 1 else 0)<|T<|i+t) (a+wd (i+t)) y x%p) (v:Vc) :
 Span p (a+wd (i+t+1)) (ec q' B') v↔bK p w wd T i a (t+1) v:=by
 rw[Y v];constructor
 ·rintro⟨y,f,O⟩
  refine⟨λx=>y<|a+x,(I _).mp (f.congr λx d=>?_),?_⟩
  ·rcases OG x a with z | z
   ·rw[zV z]
    have:=O x ⋯;rw[JT,DZ z]at this;exact this
   ·obtain⟨k,rfl⟩ : ∃k,x=a+k:=⟨x - a,by omega⟩
    rw[z7]
  ·unfold D5
   rw[J,DJ Oy];intro x d;have:=O (a+x) ⋯;rw[JT,DJ ⋯,OU]at this;exact this
 ·rintro⟨u,e,b⟩
  unfold D5 at b;rw[J,DJ Oy]at b;refine⟨qj a v u,(I _).mpr e,λx d=>?_⟩;rw[JT];rcases OG x a with z | z
  ·rw[DZ z,zV z]
  ·rw[DJ ⋯]
   obtain⟨k,rfl⟩ : ∃k,x=a+k:=⟨x - a,by omega⟩;rw[OU,show(λj=>qj a v u<|a+j)=u from funext λj=>z7 j];exact b k ⋯
theorem Er(J:w (i+t)=cL)(I : ∀z,Span p (a+wd (i+t)) (ec q B) z↔bK p w wd T i a t z)
 (O : ∀v,Span p (a+wd (i+t+1)) (ec q' B') v↔Span p (a+wd (i+t)) (ec q B) (app (JS a a (λi j=>if i=j then 1 else 0)<|T<|i+t) (a+wd (i+t+1)) v)) (v:Vc) :
 Span p (a+wd (i+t+1)) (ec q' B') v↔bK p w wd T i a (t+1) v:=by
 rw[O v];constructor
 ·intro Y
  refine⟨λx=>app (T<|i+t) (wd<|i+t+1) (λj=>v<|a+j) x,(I _).mp (Y.congr λx e=>?_),?_⟩
  ·rw[JT]
   rcases OG x a with z | z
   ·rw[zV z,DZ z]
   ·obtain⟨k,rfl⟩ : ∃k,x=a+k:=⟨x - a,by omega⟩
    rw[z7,DJ ⋯,OU]
  ·unfold D5
   rw[J,DZ rfl];exact λx _=>rfl
 ·rintro⟨u,d,b⟩
  unfold D5 at b;rw[J,DZ rfl]at b;refine((I _).mpr d).congr λx e=>?_;rw[JT];rcases OG x a with z | z
  ·rw[zV z,DZ z]
  ·obtain⟨k,rfl⟩ : ∃k,x=a+k:=⟨x - a,by omega⟩
   rw[z7,DJ ⋯,OU];exact(b k ⋯).symm
theorem oQ:bO=jn 6 (zS (jE 3<|zJ j7<|zc (dr (zL<|dr (zq 0)<|zx<|.int 1)<|ze 1) zC)<|zS (kU 4<|zR (zO<|zL<|dr (zq 3)<|zx<|.int 2) (.nm 0) 1 [] jO (zw qg (ze 0)<|ze 0))<|zS (Jb (zO<|zL<|VC (dr (zq 0)<|zx<|.int 2) (o6<|ze 1)<|o6<|ze 2) (.nm 5) VX)<|Zt 4):=rfl
theorem O':(xc (f6 b)=("r" : Str))↔b=dd:=by cases b<;>decide
abbrev lk(p:Int)(m:Nat)(w:DV)(wd:DK)(T:DQ)(i j:Int)(a:Nat)(ds:List D)(c:Cell):Ctx:=[.val (qB p m w wd T),.val (.int i),.val (.int j),.val (jV a a λi j=>if i=j then 1 else 0),.own ds,c]
theorem hU(Y:Pr p)(a1 : ∀k,wd k<=7)(ha:a<=7)(hT : ∀k x y,0<=T k x y/\T k x y<p)(i' j':Int)(hq:q<=20)(hB : ∀z,Span p (a+wd (i+t)) (ec q B) z↔bK p w wd T i a t z) :
 ∃I J L,VX (lk p m w wd T i' j' a (zW q (a+wd (i+t)) B)<|.val<|wH w wd T<|i+t)=cI (.next<|lk p m w wd T i' j' a (zW I (a+wd (i+t+1)) J)<|.val<|wH w wd T<|i+t)/\hI p (a+wd (i+t+1)) I J L/\
  ∀z,Span p (a+wd (i+t+1)) (ec I J) z↔bK p w wd T i a (t+1) z:=by
 have A:=jB;have r:=Y.le;have s:=a1<|i+t;have u:=a1<|i+t+1;have b:=vk (h:=a) (w:=a) (h':=g9 w wd<|i+t) (w':=hD w wd<|i+t) (λi j=>if i=j then 1 else 0) (T<|i+t) ⋯ ⋯ (by unfold g9;split<;>omega) (by unfold hD;split<;>omega);have n:jo (qB p m w wd T)=cI (.T,[.int p,.tup<|zP (m+1) λk=>(wd k:Int),.tup (qJ m w wd T)]):=rfl;have O:jo (wH w wd T<|i+t)=cI (.T,[.str (xc<|f6<|w<|i+t),jV (g9 w wd<|i+t) (hD w wd<|i+t) (T<|i+t)]):=rfl;have o : ∀x y,0<=JS a a (λi j=>if i=j then 1 else 0) (T<|i+t) x y/\JS a a (λi j=>if i=j then 1 else 0) (T<|i+t) x y<100:=λx y=>by
  have:=hT (i+t) (x - a)<|y - a;unfold JS qj;split
  ·dsimp only
   split
   ·split<;>omega
   ·omega
  ·dsimp only
   split
   ·omega
   ·omega
 cases hw:w (i+t)with
 | false=>
  have g:g9 w wd (i+t)=wd (i+t+1):=by unfold g9;rw[hw];rfl
  have l:hD w wd (i+t)=wd (i+t):=by unfold hD;rw[hw];rfl
  rw[g,l]at b O;obtain⟨I,J,L,e,f,d⟩:=Wx Y (h:=a+wd (i+t+1)) (w:=a+wd (i+t)) (q:=q) ⋯ ⋯ ⋯ (JS a a (λi j=>if i=j then 1 else 0) (T (i+t))) (λx y _ _=>o x y) B;refine⟨I,J,L,?_,f,Ep hw hB d⟩;have z:xc (f6 (w (i+t)))=("r" : Str):=O'.mpr hw;unfold VX;simp only[lk,sT,Ws,bI,yX,Zo,vG,qu,jW,k6,yY,Oq,kv,vF,Ri,Rh,zE,zY,n,O,Og,OJ,jN,OK,RL,K_,P1,b,yf,z,if_true,e,W6]
 | true=>
  have g:g9 w wd (i+t)=wd (i+t):=by unfold g9;rw[hw];rfl
  have l:hD w wd (i+t)=wd (i+t+1):=by unfold hD;rw[hw];rfl
  rw[g,l]at b O;obtain⟨I,J,L,e,f,d⟩:=KQ Y (h:=a+wd (i+t)) (w:=a+wd (i+t+1)) (q:=q) ⋯ ⋯ ⋯ (JS a a (λi j=>if i=j then 1 else 0) (T (i+t))) B;refine⟨I,J,L,?_,f,Er hw hB d⟩;have z : ¬(xc (f6 (w (i+t)))=("r" : Str)):=λq=>by have:=O'.mp q;rw[hw]at this;cases this
  unfold VX;simp only[lk,sT,Ws,bI,yX,Zo,vG,qu,jW,k6,yY,Oq,kv,vF,Ri,Rh,zE,zY,n,O,Og,OJ,jN,OK,RL,K_,P1,b,yf,z,if_false,e,W6]
end
section
variable{p:Int}{m:Nat}{w:DV}{wd:DK}{T:DQ}
theorem mP(z:Pr p)(a:Nat):hI p (a+a) a (λx=>qj a (jH x)<|jH x) id where
 lt:=λk hk=>by simp only[id];omega
 mono:=λk m hk _=>hk
 one:=λk hk=>by simp only[id];rw[zV hk];exact DZ rfl
 m8:=λk j hk I=>by simp only[id]at I;rw[zV ⋯];exact DJ ⋯
 j3:=λk m hk hm O=>by simp only[id];rw[zV hm];exact DJ ⋯
 i4:=λk i _ _=>by have:=z.two;unfold qj jH;split<;>split<;>omega
theorem eP(J:Pr p)(i:Nat)(z:Vc):Span p (wd i+wd i) (ec (wd i) λx=>qj (wd i) (jH x)<|jH x) z↔bK p w wd T i (wd i) 0 z:=by
 constructor
 ·intro a
  induction a with
  | @zero z a=>intro x b;rw[a x ⋯,a (wd i+x) ⋯]
  | @step z u g c O l I Y=>
   obtain⟨k,d,rfl⟩:=O;intro x b;dsimp only at I;rw[I x ⋯,I (wd i+x) ⋯,zV b,z7,OE,Y x b,<- OE]
 ·intro a
  refine(Span.sum (u:=λx=>qj (wd i) (jH x)<|jH x) z (m:=wd i) λk d=> .gen ⟨k,d,rfl⟩).congr λx b=>?_;have one : ∀y,y<wd i->zf (λk=>z k*jH k y) (wd i)=z y:=λy h=>by rw[zK (f:=λk=>z k*jH k y) h λj _ e=>by simp[jH,e]];simp[jH]
  rcases OG x (wd i)with q | q
  ·have:zf (λk=>z k*qj (wd i) (jH k) (jH k) x) (wd i)=z x:=by
    rw[<- one x q];exact zk λk _=>by rw[zV q]
   rw[this]
  ·obtain⟨k,rfl⟩ : ∃k,x=wd i+k:=⟨x - wd i,by omega⟩
   have:zf (λj=>z j*qj (wd i) (jH j) (jH j) (wd i+k)) (wd i)=z k:=by rw[<- one k ⋯];exact zk λj _=>by rw[z7]
   rw[this];exact(a k ⋯).symm
theorem mf(O:Pr p)(Y : ∀k,wd k<=7)(hT : ∀k x y,0<=T k x y/\T k x y<p)(J:i<=j)(hj:j<=m) :
 ∃q B l,bO [qB p m w wd T,.int i,.int j]=cI (.own<|zW q (wd i+wd j) B)/\hI p (wd i+wd j) q B l/\∀z,Span p (wd i+wd j) (ec q B) z↔bK p w wd T i (wd i) (j - i) z:=by
 have hl:=jB;have R:=Y i;have o:wd i<=lim:=by omega
 have A:wd i+wd i<=lim:=by omega
 have C : ∀(k t:Nat) (q:Nat) (B:Nat->Vc) (l:DK) (c:Cell),t+k=j - i->hI p (wd i+wd (i+t)) q B l->(∀z,Span p (wd i+wd (i+t)) (ec q B) z↔bK p w wd T i (wd i) t z)->
  ∃I d g f,qU (.nm 5) VX ((Tn t k).map λk=>wH w wd T<|i+k) (lk p m w wd T i j (wd i) (zW q (wd i+wd (i+t)) B) c)=cI (.next<|lk p m w wd T i j (wd i) (zW I (wd i+wd j) d) f)/\hI p (wd i+wd j) I d g/\
   ∀z,Span p (wd i+wd j) (ec I d) z↔bK p w wd T i (wd i) (j - i) z:=by
  intro k
  induction k with
  | zero=>
   intro t q B l c h a b;have P:t=j - i:=by omega
   have Q:i+t=j:=by omega
   rw[Q]at a b ⊢;rw[<- P];exact⟨q,B,l,c,rfl,a,b⟩
  | succ k S=>
   intro t q B l c h a b;have hq:q<=wd i+wd (i+t):=VR a.mono a.lt;have:=Y<|i+t;obtain⟨X,u,W,e,E,F⟩:=hU (m:=m) O Y R hT i j ⋯ b;obtain⟨I,d,g,f,M,G,H⟩:=S (t+1) X u W (.val<|wH w wd T<|i+t) ⋯ E F;refine⟨I,d,g,f,?_,G,H⟩;rw[Sh,OH,jz];show((VX<|lk p m w wd T i j (wd i) (zW q (wd i+wd (i+t)) B)<|.val<|wH w wd T<|i+t).bind _)=_;rw[e];exact M
 obtain⟨q,B,l,c,e,a,b⟩:=C (j - i) 0 (wd i) (λx=>qj (wd i) (jH x)<|jH x) id .no ⋯ (mP O<|wd i)<|eP O i;refine⟨q,B,l,?_,a,b⟩;have sm:=wA (n:=wd i) o;have s:i<m+1:=by omega
 have tw:jh (.nm 0) jO (zw qg (ze 0)<|ze 0) [Cell.no] (zW (wd i) (wd i) λi j=>if i=j then 1 else 0)=cI (zW (wd i) (wd i+wd i) λx=>qj (wd i) (jH x)<|jH x):=by unfold zW;refine zD _ _ λx hx=>zF rfl rfl ?_;simp[qg,A,yq];rfl
 have r:jo (qB p m w wd T)=cI (.T,[.int p,.tup<|zP (m+1) λk=>(wd k:Int),.tup (qJ m w wd T)]):=rfl;have L:jo (jV (wd i) (wd i) λi j=>if i=j then 1 else 0)=cI (.T,[.int (wd i),.int<|wd i,.tup (zW (wd i) (wd i) λi j=>if i=j then 1 else 0)]):=rfl;have U:l5 (m+1) (i:Int)=cI i:=by rw[jJ,DZ s]
 have wx:(zP (m+1) λk=>(wd k:Int))[i]? = cI (.int<|wd i):=xR _ s;have K:Zy (qJ m w wd T) (cI (i:Int)) (cI (j:Int))=(Od<|j - i).map λk=>wH w wd T (i+k):=by rw[FO J hj];rfl
 rw[<- A6]at e;rw[oQ];unfold jn;have N:jx 6 [qB p m w wd T,.int i,.int j]=[.val (qB p m w wd T),.val<|.int i,.val<|.int j,.no,.no,.no]:=rfl;have Z:(jE 3<|zJ j7<|zc (dr (zL<|dr (zq 0)<|zx<|.int 1)<|ze 1) zC) [.val (qB p m w wd T),.val<|.int i,.val<|.int j,.no,.no,.no]=cI (.next [.val (qB p m w wd T),.val<|.int i,.val<|.int j,.val<|jV (wd i) (wd i) λi j=>if i=j then 1 else 0,.no,.no]):=by simp only[lV,yY,yX,Zo,vG,xp,qu,jW,k6,Oq,kv,zE,zY,r,bD,Og,OJ,jN,OK,RL,P1,yo,U,wx,sm,yf];rfl
 have s2:(kU 4<|zR (zO<|zL<|dr (zq 3)<|zx<|.int 2) (.nm 0) 1 [] jO (zw qg (ze 0)<|ze 0)) [.val (qB p m w wd T),.val<|.int i,.val<|.int j,.val<|jV (wd i) (wd i) λi j=>if i=j then 1 else 0,.no,.no]=cI (.next<|lk p m w wd T i j (wd i) (zW (wd i) (wd i+wd i) λx=>qj (wd i) (jH x)<|jH x) .no):=by simp only[Ws,kM,kB,xp,vG,qu,k6,Oq,kv,zY,L,bD,Og,OJ,jN,OK,RL,P2,KD,o,if_true];rw[show jL 1 [] [Cell.val (qB p m w wd T),Cell.val<|D.int (i:Int),Cell.val<|D.int (j:Int),Cell.val<|jV (wd i) (wd i) λi j=>if i=j then 1 else 0,Cell.no,Cell.no]=[Cell.no]from rfl,tw];rfl
 rw[N,jM,Z,vN,jM,s2,vN,jM,JV];simp only[lk,kB,xp,Gd,vG,qu,jW,k6,LL,Oq,kv,zY,zE,r,bD,Og,OJ,jN,OK,RL,P2,K];simp only[lk,j_]at e;rw[e];simp
end
@[simp] noncomputable def Gk:=@fH.eq_1
section
variable{p:Int}{m:Nat}{w:DV}{wd:DK}{T:DQ}
theorem yA:jo (qB p m w wd T)=cI (.T,[.int p,.tup<|zP (m+1) λk=>(wd k:Int),.tup (qJ m w wd T)]):=rfl
end
@[simp] theorem JW(γ:Ctx)(f):xW f γ=(f γ).bind λd=>match d with
 | .str z=>if jy z=cL then cI (xG<|kl z)else cR
 | _=>cR:=rfl
@[simp] theorem rD(γ:Ctx)(f g):nC f g γ=(f γ).bind λd=>(g γ).bind λe=>match d,e with
 | .str x,.str y=>if jy x=cL/\jy y=cL then cI (.str<|x++y)else cR
 | _,_=>cR:=rfl
theorem w6(m:Nat)(w:DV):xG (kl<|qP m w)=(Od m).map λ(k:Nat)=>D.tup [.int k,.str (xc<|f6<|w k)]:=by
 have e:kl (qP m w)=(Od m).map λk=>D.str (xc<|f6<|w k):=by unfold kl;rw[kS,Pw];rfl
 unfold xG;rw[e];simp only[OC,OM];refine OB λk a=>?_;simp[Oj.mp a]
theorem Wd(w:DV)(k:Nat):jv [.int k,.str (xc<|f6<|w k)]=cI (.val<|.tup [.int ((jX w k:Nat):Int),.int ((qa w k:Nat):Int)]):=by have q:=iQ<|w k;cases h:w k<;>rw[h]at q<;>simp[jv,jn,jx,jM,q,jX,qa,h]
theorem eC(s:Nat)(w:DV):qP s w++xc (f6<|w s)=qP (s+1) w:=by
 have h:(qP s w++xc (f6<|w s)).cps.toList=(qP (s+1) w).cps.toList:=by show((qP s w).cps++(xc<|f6<|w s).cps).toList=_;rw[Array.toList_append,kS,kS,Rx,PB];rfl
 have d:=Array.toList_inj.mp h;generalize qP s w++xc (f6<|w s)=a at d;generalize qP (s+1) w=b at d;cases a;cases b;exact congrArg Str.mk d
theorem BY{c:Int}(J:0<=c){m:Nat}(L:m<=5) : ∃w,xu [.int c,.int (1+(m:Int))]=cI (.val<|.str<|qP m w):=by
 have u:=jB;have Y:m<=lim:=by omega
 refine⟨λk=>decide (c/2 ^ k%2=1),?_⟩;generalize hw:(λk:Nat=>decide (c/2 ^ k%2=1))=w;have a : ∀(k s:Nat) (z:Cell),s+k=m->∃I O,qU (.nm 3) (zS (jE 2 (nC (ze 2) (Xc (zx (.str "rl")) (zw kj (ze 0) (zx (.int 2)))))) (jE 0 (zw K1 (ze 0) (zx (.int 2))))) ((Tn s k).map λ(i:Nat)=>D.int i) [.val (.int (c/2 ^ s)),.val (.int (1+(m:Int))),.val (.str (qP s w)),z] =
  cI (.next [I,.val<|.int<|1+(m:Int),.val<|.str<|qP m w,O]):=by
  intro k
  induction k with
  | zero=>
   intro s z h;obtain rfl:s=m:=by omega
   exact⟨_,z,rfl⟩
  | succ k j=>
   intro s z h;obtain⟨I,O,e⟩:=j (s+1) (.val (.int s)) ⋯;refine⟨I,O,?_⟩;rw[Sh,OH,jz];have o:Xc (zx (.str "rl")) (zw kj (ze 0) (zx (.int 2))) [.val (.int (c/2 ^ s)),.val (.int (1+(m:Int))),.val (.str (qP s w)),.val (.int s)]=cI (.str (xc (f6 (w s)))):=by
    have g:zw kj (ze 0) (zx<|.int 2) [.val (.int<|c/2 ^ s),.val<|.int<|1+(m:Int),.val<|.str<|qP s w,.val (.int s)]=cI (.int<|c/2 ^ s%2):=by simp
    rw[rC,g];have q:c/2 ^ s%2=0\/c/2 ^ s%2=1:=by omega
    have r:w s=decide (c/2 ^ s%2=1):=by rw[<- hw]
    rw[r];rcases q with q | q
    ·rw[q];rfl
    ·rw[q];rfl
   have l:=va w (show s<=1000 by omega);have n:jy (xc<|f6<|w s)=cL:=rfl;have d:c/2 ^ s/2=c/2 ^ (s+1):=by rw[Int.pow_succ,Int.ediv_ediv_of_nonneg (Int.pow_nonneg ⋯)]
   simp only[ZJ,Og,Ri,Rh];rw[jM];simp only[lV,rD,jW,Oq,kv,zE,Og,o,l,n,and_self,if_true,eC,OJ,Ri,Rh];simp only[bH,jW,k6,Oq,zE,Og,pT];rw[DZ ⟨by omega,by omega⟩,d];exact e
 obtain⟨t,z,e⟩:=a m 0 .no ⋯;rw[<- A6]at e;have b:c/2 ^ 0=c:=by simp
 have f:(1:Int)+(m:Int) - 1=(m:Int):=by omega
 have p:qP 0 w=("" : Str):=rfl;rw[b,p]at e;simp[xu,jn,jx,jM,f,Y,qR,gx];rw[jt m λi=>(i:Int),e];simp
noncomputable def pr(a b:Nat):D:= .tup [.int a,.int b]
@[simp] theorem zaW(a b):jo (pr a b)=cI (.T,[.int (a:Int),.int (b:Int)]):=rfl
noncomputable def mk(lo:Nat)(ch:List Int)(r:Nat):Int:=if lo<=r then ch.getD (r - lo) 0 else 0
theorem VA{ns:List Int}(J:ns.length<=63){r n:Nat}{t:Int}(ht:0<=t)(ab:t<1000)(L:0<r)(ac:r<=6)(ae:n<=60) : ∃bs,y6 [bh ns,.int t,.int n,.int r]=cI (.own<|zA bs)/\(∀b∈bs,mw r b)/\bs.length=n:=by
 have H:=jB;have j:n<=lim:=by omega
 have l : ∀(k s:Nat) (acc:List (Int×Int)) (a d f:Cell),s+k=n->acc.length=s->(∀b∈acc,mw r b)->∃bs z I O,
  qU (.nm 5) (zS (jE 6<|zJ ja<|zc (ze 0)<|zc (zw qg (ze 1)<|ze 5) zC)<|zS (jE 7<|zw kj (ze 6)<|ze 3)<|jS 4<|qe<|zc (ze 7)<|zc (zw qg (ze 7)<|zw kj (zw K1 (ze 6)<|ze 3)<|zw vg (ze 3)<|ze 7) zC) ((Tn s k).map λ(i:Nat)=>D.int i)
   [.val (bh ns),.val<|.int t,.val<|.int n,.val<|.int r,.own<|zA acc,a,d,f]=cI (.next [.val (bh ns),.val<|.int t,.val<|.int n,.val<|.int r,.own<|zA bs,z,I,O])/\(∀b∈bs,mw r b)/\bs.length=n:=by
  intro k
  induction k with
  | zero=>intro s acc a d f x g Y;exact⟨acc,a,d,f,rfl,Y,by omega⟩
  | succ k y=>
   intro s acc a d f x g Y;obtain⟨w,F,G⟩:=KL J (k:=t+(s:Int)) ⋯ ⋯;have m:=Pb (kK ns<|t+(s:Int)) (show(r:Int)≠0 by omega);have o:=OQ (kK ns<|t+(s:Int)) (show(0:Int)<r by omega);have C:=Pb (kK ns (t+(s:Int))/r) (show(r:Int) - kK ns (t+(s:Int))%r≠0 by omega);have E:=OQ (kK ns (t+(s:Int))/r) (show(0:Int)<(r:Int) - kK ns (t+(s:Int))%r by omega);obtain⟨bs,z,I,O,h,g1,g2⟩:=y (s+1) (acc++[(kK ns (t+(s:Int))%r,kK ns (t+(s:Int))%r+kK ns (t+(s:Int))/r%((r:Int) - kK ns (t+(s:Int))%r))]) (.val<|.int s) (.val<|.int<|kK ns<|t+(s:Int)) (.val<|.int<|kK ns (t+(s:Int))%r) ⋯ (by simp[g]) (λb hb=>by
    rcases Tu.mp hb with hb | hb
    ·exact Y b hb
    ·have e:b=_:=Rp.mp hb
     subst e;exact⟨m,by show _<=_+_;omega,by show _+_<_;omega⟩)
   refine⟨bs,z,I,O,?_,g1,g2⟩;rw[<- h,Sh,OH,jz];have p:acc.length<lim:=by omega
   have B:(0:Int)<r:=by omega
   have K:(0:Int)<(r:Int) - kK ns (t+(s:Int))%r:=by omega
   have A:(r:Int)<1073741824:=by omega
   simp[jM,w,B,L,o,p,A];simp[zA]
 obtain⟨bs,z,I,O,h,g1,g2⟩:=l n 0 [] .no .no .no ⋯ rfl ⋯;refine⟨ZX bs,?_,λb hb=>g1 b<|(wJ bs).mem_iff.mp hb,by rw[(wJ bs).length_eq,g2]⟩;rw[<- A6]at h;simp[y6,jn,jx,jM,j,qR,gx];rw[jt n λi=>(i:Int)];have u:(zA []:List D)=[]:=rfl;rw[u]at h;rw[h];simp[Yi (show bs.length<64 by omega)]
noncomputable def IA(h w:Nat)(f:DW):List D:=(Od h).map λi=>D.lst<|zP w<|f i
@[simp] theorem GG(h w f):(IA h w f).length=h:=by simp[IA]
noncomputable def Hz(m:Nat)(w:DV)(wd:DK)(T:DQ):List D:=(Od m).map λk=>D.lst<|IA (g9 w wd k) (hD w wd k)<|T k
noncomputable def oo(m:Nat)(w:DV)(wd:DK)(T:DQ):D:= .tup [.lst (zP (m+1) λk=>(wd k:Int)),.lst (Hz m w wd T)]
noncomputable def Fo(m:Nat)(w:DV)(wd I:DK)(J:DQ):List D:=(Od m).map λk=>jV (g9 w wd k) (hD w I k)<|J k
noncomputable def kN:=jn 3<|zS (kU 1<|ye zC)<|zS (Jb (jI<|ze 0) (.nm 2)<|fH 1<|zR (X5 (ze 2)<|ze 0) (.nm 0) 1 [2] jO (qe<|zc (ze 1)<|zc (ze 0) zC))<|Zt 1
noncomputable def qm:=jn 2<|Ja<|zR (zO<|zL<|qe<|zc (zw vg (ze 1)<|zx<|.int 1)<|zc (ze 1) zC) (.nm 0) 1 [0] (sB<|vn rk sx (zx<|.int 0) (ze 0)<|Yn<|ze 1) (ze 0)
noncomputable def vh:=jn 2<|xM<|fM<|jR<|zR (zO<|jR<|jU qm<|zc (ze 0)<|zc (ze 1) zC) (.nm 0) 1 [0,1] jO (zw ft (zJ KW<|zc (ze 0)<|zc (Xc (ze 1)<|ze 0) zC)<|ze 2)
noncomputable def vx:=jn 2<|xM<|fM<|jR<|zR (zO<|jR<|jU qm<|zc (ze 0)<|zc (ze 1) zC) (.nm 0) 1 [0,1] jO (zw ft (zJ kO<|zc (ze 0)<|zc (Xc (ze 1)<|ze 0) zC)<|ze 2)
noncomputable def k9:=jn 2<|zS (jb (kW<|sB<|zJ y8<|zc (zw qg (Yn<|ze 0)<|zx<|.int 1)<|zc (ze 1) zC) Zj kE)<|jb (xi (kW<|sB<|zJ vh<|zc (ze 0)<|zc (ze 1) zC)<|kW<|sB<|zJ vx<|zc (ze 0)<|zc (ze 1) zC) Zj kE
noncomputable def JZ:=jn 3<|zS (jE 2<|BG<|jR<|zR (zO<|zL<|qe<|zc (zw vg (ze 1)<|zx<|.int 1)<|zc (zw qg (ze 1)<|zx<|.int 1) zC) (.nm 0) 1 [0] (sB<|zJ y8<|zc (wG<|zq 1)<|zc (ze 0) zC) (dr (zq 1)<|ze 0))<|xM<|jd<|jR<|zR (cC<|ze 0) (.tp [0,1]) 2 [1,2] jO (VE (sB<|zw ft (ze 0)<|ze 2) (zw vg (ze 3)<|ze 1)<|ze 1)
noncomputable def Zp:=jn 3 (zS (nB (zJ k9 (zc (ze 0) (zc (ze 1) zC)))) (zS (jE 2 (xh (jU qm (zc (ze 0) (zc (ze 1) zC))))) (xM (X6 (zx (.str "")) (jR (zR (xW (ze 0)) (.tp [0,1]) 2 [2] jO (VE (sB (Ma (ze 0) (zq 2))) (zJ kc (zc (ze 1) zC)) (ze 1))))))))
noncomputable def tW:=(kU 2<|ye zC)
noncomputable def tU:=(Jb (zO<|zL<|ze 1) (.tp [3,4])<|jb (xi (sB<|zw sx (ze 3)<|ze 0)<|sB<|zw ft (ze 4)<|ze 0) (jS 2<|qe<|zc (ze 3)<|zc (zw vg (ze 0)<|zx<|.int 1) zC)<|jb (xi (sB<|zw sx (ze 3)<|ze 0)<|sB<|zw ft (ze 4)<|zw vg (ze 0)<|zx<|.int 1) (jS 2<|qe<|zc (ze 3)<|zc (ze 0) zC)<|jb (xi (sB<|zw ft (ze 3)<|ze 0)<|sB<|zw p3 (ze 4)<|ze 0) (jS 2<|qe<|zc (zw qg (ze 0)<|zx<|.int 1)<|zc (ze 4) zC)<|jb (xi (sB<|zw ft (ze 3)<|zw qg (ze 0)<|zx<|.int 1)<|sB<|zw p3 (ze 4)<|ze 0) (jS 2<|qe<|zc (ze 0)<|zc (ze 4) zC)<|jb (sB<|zw i6 (qe<|zc (ze 3)<|zc (ze 4) zC)<|qe<|zc (ze 0)<|zc (ze 0) zC) (jS 2<|qe<|zc (ze 3)<|zc (ze 4) zC) kE)
noncomputable def mU:=(Ja<|Ym<|zq 2)
noncomputable def kf:=jn 5<|zS tW<|zS tU mU
noncomputable def wl(l:List Bool):Str:=⟨⟨l.map f6⟩⟩
theorem yD(m w):qP m w=wl ((Od m).map w):=by have h:=kS m w;rw[show(Od m).map (λk=>f6<|w k)=((Od m).map w).map f6 by rw[Pw];rfl]at h;unfold wl;generalize qP m w=a at h;obtain⟨⟨l⟩⟩:=a;exact congrArg (λx=>Str.mk ⟨x⟩) h
theorem YV{I L:Type}{f g:I->L}{xs:List I}(h:xs.map f=xs.map g){a:I}(J:a∈xs):f a=g a:=List.map_inj_left.mp h a J
theorem EE(l:List Bool):iv (.str<|wl l)=cL:=by
 have h:(wl l).cps.all (· < 0x110000)=cL:=by rw[<- Array.all_toList];show(l.map f6).all _=cL;rw[List.all_map];exact Pe.mpr λb _=>by cases b<;>rfl
 have d:deep (.str<|wl l)<=20:=by simp[deep]
 unfold iv;rw[decide_eq_true d];exact h
noncomputable def ez:Nat->List (List Bool)
 | 0=>[[]]
 | n+1=>(ez n).flatMap λl=>[dd::l,cL::l]
noncomputable def words:List (List Bool):=(Od 6).flatMap ez
theorem Xq : ∀l:List Bool,l∈ez l.length
 | []=>Rp.mpr rfl
 | b::l=>TM.mpr ⟨l,Xq l,by cases b<;>simp⟩
theorem Jy{l:List Bool}(h:l.length<=5):l∈words:=TM.mpr ⟨l.length,Oj.mpr ⋯,Xq l⟩
noncomputable def F1:List (List Bool×Nat):=words.flatMap λl=>(Od<|l.length+1).map λk=>(l,k)
theorem wW{l:List Bool}{k:Nat}(h:l.length<=5)(I:k<=l.length):(l,k)∈F1:=
 TM.mpr ⟨l,Jy h,RK.mpr ⟨k,Oj.mpr ⋯,rfl⟩⟩
noncomputable def Ya(l:List Bool)(k:Nat):Bool:=k==0 || k==l.length || l[k - 1]? != l[k]?
noncomputable def b_:List (List Bool×Nat):=F1.filter λa=>Ya a.1 a.2
theorem gW{l:List Bool}{k:Nat}(h:l.length<=5)(I:k<=l.length)(z:Ya l k=cL):(l,k)∈b_:=
 Pn.mpr ⟨wW h I,z⟩
noncomputable def Wb(l:List Bool)(k:Nat):List Bool:=l.mapIdx λi b=>if i+1=k\/i=k then !b else b
theorem pG(l k):(Wb l k).length=l.length:=by simp[Wb]
theorem Vp:b_.map (λa=>k9 [.str (wl a.1),.int (a.2:Int)])=b_.map λ_=>cI (.val .eg):=by kernel_rfl
theorem Wp{l:List Bool}{k:Nat}(h:l.length<=5)(I:k<=l.length)(z:Ya l k=cL):k9 [.str (wl l),.int (k:Int)]=cI (.val .eg):=by have q:=YV Vp<|gW h I z;dsimp only at q;exact q
noncomputable def As(n k:Nat)(u:Nat->Int):Int:=if 0<k then (if k+1<n then u (k - 1)+(u (k+1)+0)else u (k - 1)+0)else if k+1<n then u (k+1)+0 else 0
noncomputable def mv(n k:Nat)(u:Nat->Int)(i:Nat):Int:=if i=k then As n k u - u k else u i
noncomputable def S0:List (Nat×Nat):=(Od 7).flatMap λn=>(Od n).map λk=>(n,k)
theorem Az{n k:Nat}(J:n<=6)(I:k<n):(n,k)∈S0:=TM.mpr ⟨n,Oj.mpr ⋯,RK.mpr ⟨k,Oj.mpr I,rfl⟩⟩
theorem gS(u:Nat->Int):S0.map (λa=>JZ [.tup (zP a.1 u),.int (a.2:Int)])=S0.map λa=>cI (.val<|.tup<|zP a.1<|mv a.1 a.2 u):=by kernel_rfl
theorem oM{n k:Nat}(J:n<=6)(I:k<n)(u:Nat->Int):JZ [.tup (zP n u),.int (k:Int)]=cI (.val<|.tup<|zP n<|mv n k u):=by have q:=YV (gS u)<|Az J I;dsimp only at q;exact q
theorem BD(γ:Ctx)(i g):nA i g γ=(qI γ[i]?).bind λI=>(g γ).bind λa=>match a.1 with
 | .T=>if I.length+a.2.length<=lim then cI (.next<|γ.set i<|.own<|I++a.2)else cR
 | .L=>cR:=rfl
noncomputable def X'(n:Nat)(I z:DK)(T:DQ):List D:=(Od n).map λk=>jV (I k) (z k)<|T k
section
variable{wd:DK}{b:gv}{za9:List gv}
theorem dG(g:Nat->Vc)(z:q<=lim)(I:h<=lim):wD [.int h,.lst (zW q h g)]=cI (.val<|jV h q λi j=>g j i):=by have e:=ka (h:=q) (w:=h) g z I;unfold jV at e;simp[wD,jn,jx,gx,z,e];rfl
theorem oO(u:Nat->Int)(L:List Nat):(L.map λj=>D.int<|u j)=zP L.length λi=>u (L.getD i 0):=by
 unfold zP
 conv=>lhs;rw[<- qx 0 L]
 rw[Pw];rfl
theorem xf(P:DV)(g:Nat->Int) : ∀N,zf (λi=>g<|((Od N).filter P).getD i 0) ((Od N).filter P).length=zf (λj=>if P j=cL then g j else 0) N
 | 0=>rfl
 | N+1=>by
  have z:=xf P g N;rw[Rx,Ug];show _=zf _ N+_;rw[<- z];cases hP:P N with
  | false=>simp[hP]
  | true=>
   have e:([N].filter P)=[N]:=by simp[hP]
   rw[e,OX,Sl];show zf _ _+_=_;simp only[if_true];congr 1
   ·refine zk λi a=>?_
    simp[Oh,OV a]
   ·simp[Oh,hP]
end
noncomputable def b1:=(jb (kW<|sB<|zJ XM<|zc (ze 1) zC) Zj kE)
noncomputable def b2:=(jE 3<|zw qg (Yn<|ze 1)<|zx<|.int 1)
noncomputable def b3:=(jb (kW<|sB<|fM<|jR<|zR (zO<|zq 2) (.nm 0) 1 [3] jO (zJ Zq<|zc (ze 1)<|zc (ze 0) zC)) Zj kE)
noncomputable def b4:=(jE 4<|xh<|Ym<|zq 2)
noncomputable def b5:=(jE 5<|xh<|zR (jI<|ze 3) (.nm 0) 1 [4] jO (xh<|jU mj<|zc (ze 1)<|zc (ze 0) zC))
noncomputable def b6:=(jE 6<|jd<|jR<|zR (zO<|zq 5) (.nm 0) 1 [] jO (wG<|zq 0))
noncomputable def b7:=(jb (sB<|zw p3 (BG<|zq 6)<|zx<|.int 30) Zj kE)
noncomputable def b8:=(jE 7<|xh<|zR (xW<|ze 1) (.tp [0,1]) 2 [5] jO (qe<|zc (ze 1)<|zc (zJ Wz<|zc (dr (zq 2)<|zJ KW<|zc (ze 0)<|zc (ze 1) zC)<|zc (dr (zq 2)<|zJ kO<|zc (ze 0)<|zc (ze 1) zC) zC) zC))
noncomputable def x1:CO Xn:=(c_ (kW (sB (zJ XM (zc (ze 1) zC)))) (Hw "NoRow") d_)
noncomputable def x3:CO Xn:=(c_ (kW (sB (fM (jR (zR (zO (zq 2)) (.nm 0) 1 [3] jO (zJ Zq (zc (ze 1) (zc (ze 0) zC)))))))) (Hw "NoRow") d_)
noncomputable def x7:CO Xn:=(c_ (sB (zw p3 (BG (zq 6)) (zx (.int 30)))) (Hw "TooMany") d_)
noncomputable def Cw(m:Nat)(bs:List (Int×Int)):List D:=(Od<|m+1).map λ(r:Nat)=>D.lst<|Iz<|rZ bs r
noncomputable def tf(m:Nat)(bs:List (Int×Int)):List D:=zP (m+1) λr=>((rZ bs r).length:Int)
section
variable{p:Int}{m:Nat}{w:DV}{bs:List (Int×Int)}
abbrev g0(p:Int)(z:Str)(bs:List (Int×Int)):Ctx:=[.val (.int p),.val (.str z),.val (.lst (zA bs)),.no,.no,.no,.no,.no]
abbrev g2(p:Int)(z:Str)(m:Nat)(bs:List (Int×Int)):Ctx:=[.val (.int p),.val (.str z),.val (.lst (zA bs)),.val (.int ((m+1:Nat):Int)),.no,.no,.no,.no]
abbrev g6(p:Int)(z:Str)(m:Nat)(bs:List (Int×Int)):Ctx:=[.val (.int p),.val (.str z),.val (.lst (zA bs)),.val (.int ((m+1:Nat):Int)),.val (.lst (zA (ZX bs))),.val (.lst (Cw m (ZX bs))),.val (.tup (tf m (ZX bs))),.no]
end
noncomputable def jK:=jn 5<|zS (kU 1<|ye zC)<|zS (jE 2<|ze 0)<|zS (kU 3<|W2<|zw qg (Yn<|ze 0)<|zx<|.int 1)<|zS (rP 100 (ny<|zq 3)<|zS (jE 4<|dr (jR<|zR (zO<|zq 3) (.nm 0) 1 [2] (sB<|zJ vh<|zc (ze 1)<|zc (ze 0) zC) (ze 0))<|zx<|.int 0)<|zS (jS 1<|ze 4)<|zS (fF 3<|ze 4)<|jE 2<|zJ Zp<|zc (ze 2)<|zc (ze 4) zC)<|Zt 1
noncomputable def xq:=jn 4<|zS (jE 2<|ze 1)<|zS (Jb (zO<|zL<|xh<|jU jK<|zc (ze 0) zC) (.nm 3)<|jE 2<|zJ JZ<|zc (ze 2)<|zc (ze 3) zC)<|Zt 2
noncomputable def NG(l:List Bool)(k:Nat):Bool:=(k==0 || l[k - 1]? == cI dd) && (k==l.length || l[k]? == cI cL)
noncomputable def Es:Nat->List Bool->List Nat->List Nat
 | 0,_,_=>[]
 | f+1,l,left=>match left.find? (NG l)with
  | none=>[]
  | some k=>k::Es f (Wb l k) (left.erase k)
noncomputable def Ag(l:List Bool):List Nat:=Es 6 l<|Od<|l.length+1
theorem Vz:words.map (λl=>jK [.str (wl l)])=words.map λl=>cI (.own ((Ag l).map λk:Nat=>D.int (k:Int))):=by kernel_rfl
theorem QW{l:List Bool}(h:l.length<=5):jK [.str (wl l)]=cI (.own ((Ag l).map λk:Nat=>D.int (k:Int))):=YV Vz<|Jy h
noncomputable def AN(z:List Bool):List Bool->List Nat->Bool
 | l,[]=>l==z
 | l,k::ks=>Ya l k && decide (k<=l.length) && AN z (Wb l k) ks
theorem pD:words.all (λl=>AN l l<|Ag l)=cL:=by kernel_rfl
theorem iI{l:List Bool}(h:l.length<=5):AN l l (Ag l)=cL:=Pe.mp pD _<|Jy h
theorem V8{z:List Bool} : ∀{ks:List Nat} {l:List Bool},AN z l ks=cL->∀k∈ks,k<=l.length
 | [],l,_,k,hk=>by cases hk
 | zbh::ks,l,h,k,hk=>by
  unfold AN at h;rw[Oo,Oo]at h;rcases OA.mp hk with e | e
  ·subst e;exact of_decide_eq_true h.1.2
  ·have:=V8 h.2 k e
   rwa [pG]at this
noncomputable def I8(n:Nat)(ks:List Nat)(u:Nat->Int):Nat->Int:=ks.foldl (λu k=>mv n k u) u
theorem nE{l:List Bool}(h:l.length<=5)(u:Nat->Int):xq [.str (wl l),.tup (zP (l.length+1) u)]=cI (.val<|.tup<|zP (l.length+1)<|I8 (l.length+1) (Ag l) u):=by
 have Y:=V8<|iI h;have d : ∀(O:Nat->Int) (a:List Nat) (u:Nat->Int) (z:Cell),(∀k∈a,k<=l.length)->∃I,qU (.nm 3) (jE 2<|zJ JZ<|zc (ze 2)<|zc (ze 3) zC) (a.map λk:Nat=>D.int (k:Int)) [.val (.str<|wl l),.val<|.tup<|zP (l.length+1) O,.val<|.tup<|zP (l.length+1) u,z]=cI (.next [.val (.str<|wl l),.val<|.tup<|zP (l.length+1) O,.val<|.tup<|zP (l.length+1)<|I8 (l.length+1) a u,I]):=by
  intro O a
  induction a with
  | nil=>intro u z _;exact⟨z,rfl⟩
  | cons k a g=>
   intro u z b;obtain⟨I,e⟩:=g (mv (l.length+1) k u) (.val<|.int (k:Int)) λx f=>b x<|Ow _ f;refine⟨I,?_⟩;have m:=oM (n:=l.length+1) (k:=k) ⋯ (by have:=b k Ot;omega) u;rw[OH,jz];simp[m];exact e
 obtain⟨I,e⟩:=d u (Ag l) u .no Y;have t:=QW h;simp[xq,jn,jx,jM,t,gx,jo];rw[e];rfl
noncomputable def sw(k i:Nat):Nat:=if i=k then k+1 else if i=k+1 then k else i
noncomputable def K'(n:Nat)(ks:List Nat)(u:Nat->Int):Nat->Nat->Int
 | 0=>u
 | j+1=>I8 n ks<|K' n ks u j
noncomputable def acc(n:Nat)(ks:List Nat)(u:Nat->Int):Nat->Nat->Int
 | 0=>λ_=>0
 | j+1=>λi=>acc n ks u j i+K' n ks u j i
section
variable{wd:DK}{N m k r:Nat}{A:Nat->gv}{p:Int}{w:DV}{T:DQ}{B:Nat->Vc}{l:DK}
theorem rB(h:k<m):(qJ m w wd T)[k]? = cI (wH w wd T k):=by simp[qJ,h]
theorem lQ(h:k<(qJ m w wd T).length):(qJ m w wd T)[k]=wH w wd T k:=by simp[qJ]
theorem lT(w wd T k):jo (wH w wd T k)=cI (.T,[.str (xc<|f6<|w k),jV (g9 w wd k) (hD w wd k) (T k)]):=rfl
end
noncomputable def oD(n:Nat):Option Vc->D
 | none=> .eg
 | some y=> .tup (zP n y)
section
variable{wd:DK}{m k:Nat}{p:Int}{w:DV}{T:DQ}
theorem Xx(l:DK) : ∀L:List Nat,QI (L.map λj=>D.int ((l j:Nat):Int))=cI (L.map λj=>((l j:Nat):Int))
 | []=>rfl
 | j::L=>by simp[QI,Xx l L]
theorem wL(J:hI p n r B l):r<=n:=by
 have mono : ∀k,k<r->k<=l k:=by
  intro k
  induction k with
  | zero=>intro _;omega
  | succ k I=>intro a;have:=I ⋯;have:=J.mono k (k+1) ⋯ a;omega
 cases r with
 | zero=>omega
 | succ z=>have:=mono z ⋯;have:=J.lt z ⋯;omega
end
abbrev za8:=Nat×Nat×(Nat->Nat->Int)
section
variable{wd:DK}{m k N:Nat}{p:Int}{w:DV}{T:DQ}{A:Nat->gv}
noncomputable def gi(A:Nat->gv)(N r:Nat):List Nat:=(Od N).filter λj=>(A j).has r
noncomputable def xI(A:Nat->gv)(N r:Nat):Nat->Nat->Int:=λi j=>(A<|(gi A N r).getD j 0).v r i
theorem iw{r j:Nat}(h:j<(gi A N r).length):(gi A N r).getD j 0<N/\(A<|(gi A N r).getD j 0).has r=cL:=by
 have d:(gi A N r).getD j 0∈gi A N r:=by rw[Oh,Oe h];exact Sj _
 obtain⟨a,b⟩:=Pn.mp d;exact⟨Oj.mp a,by simpa using b⟩
theorem K9(I:Pr p)(L:n<=8)(J : ∀v:Vc,∃t,∀i,i<n->v i%p=app f n t i%p) : ∃g:DW,Hm p n f g/\Hm p n g f/\∀i j,0<=g i j/\g i j<p:=by
 have s:=I.pos;obtain⟨t,O⟩:=Uh λj=>J<|jH j;refine⟨λi j=>t j i%p,?_,?_,λi j=>⟨Pb _ ⋯,OQ _ s⟩⟩
 ·intro i j d Y
  have e:zf (λk=>f i k*(t j k%p)) n%p=app f n (t j) i%p:=zy λk _=>qw p _ _;rw[e,<- O j i d];unfold jH vv;simp only[eq_comm]
 ·intro i j d Y
  have z : ∀a,a<n->app f n (λb=>zf (λk=>(t k b%p)*f k j) n - jH j b) a%p=0:=λa h=>by
   rw[Bw,bG f Y,Sy];have e:app f n (λb=>zf (λk=>(t k b%p)*f k j) n) a%p=f a j%p:=by
    have l:app f n (λb=>zf (λk=>(t k b%p)*f k j) n) a=zf (λk=>f k j*app f n (λb=>t k b%p) a) n:=by rw[<- Wr];congr 1;funext b;exact xT ..
    rw[l];have m:zf (λk=>f k j*app f n (λb=>t k b%p) a) n%p=zf (λk=>f k j*jH k a) n%p:=zy λk _=>by rw[Om,k5 (u:=t k) (λb _=>Pc _ _) a,<- O k a h,<- Om]
    rw[m,zK (f:=λk=>f k j*jH k a) h λk _ r=>by simp[jH,r]];simp[jH]
   rw[e];simp
  have:=JK I L J z i d;have o:(zf (λk=>(t k i%p)*f k j) n)%p=jH j i%p:=RR.mpr this;show zf (λk=>(t k i%p)*f k j) n%p=vv i j%p;rw[o];unfold jH vv;simp only[eq_comm]
end
section
variable{wd:DK}{m k N:Nat}{p:Int}{w:DV}{T:DQ}{A:Nat->gv}{g:DQ}
theorem vZ(A N r):(gi A N r).Nodup:=Tj.sublist Sa
theorem wV{L:List Nat}(h:L.Nodup){a b:Nat}(I:a<L.length)(J:b<L.length)(e:L.getD a 0=L.getD b 0):a=b:=by rw[Oh,Oh,Oe I,Oe J]at e;exact(List.getElem_inj h).mp e
end
structure h9(p:Int)(w:DV)(wd:DK)(T:DQ)(m N:Nat)(A:Nat->gv):Prop where
 ok : ∀j,j<N->C4 p w wd T m (A j)
 sp : ∀r,r<=m->∀v:Vc,∃t:Vc,∀i,i<wd r->v i%p=zf (λj=>if (A j).has r=cL then t j*(A j).v r i else 0) N%p
 inj : ∀r,r<=m->∀t:Vc,(∀i,i<wd r->zf (λj=>if (A j).has r=cL then t j*(A j).v r i else 0) N%p=0)->∀j,j<N->(A j).has r=cL->t j%p=0
 cnt : ∀r,r<=m->(gi A N r).length=wd r
noncomputable def Lk(p:Int)(w:DV)(wd:DK)(T:DQ)(k:Nat)(y z:Vc):Prop:=
 if w k=cL then ∀i,i<wd k->y i%p=app (T k) (wd<|k+1) z i%p else ∀i,i<wd (k+1)->z i%p=app (T k) (wd k) y i%p
noncomputable def Wk(p:Int)(w:DV)(wd:DK)(T:DQ)(d:Nat):Nat->Vc->Vc->Prop
 | 0,u,z=>∀i,i<wd d->u i%p=z i%p
 | n+1,u,z=>∃y,Wk p w wd T d n u y/\Lk p w wd T (d+n) y z
section
variable{p:Int}{w:DV}{wd:DK}{T:DQ}{m N N':Nat}{A A':Nat->gv}{d:Nat}
theorem VS(I:a%p=b%p)(J:a'%p=b'%p):(a+c*a')%p=(b+c*b')%p:=by rw[OE,I,Om,J,<- Om,<- OE]
theorem Gr(c:Int)(h:Lk p w wd T k y z)(h':Lk p w wd T k y' z'):Lk p w wd T k (λi=>y i+c*y' i) λi=>z i+c*z' i:=by
 unfold Lk at *;split
 ·next b=>
  rw[DZ b]at h h';intro i a;rw[VS (h i a) (h' i a)];exact(JU (λ_ _=>rfl) i).symm
 ·next b=>
  rw[DJ b]at h h';intro i a;rw[VS (h i a) (h' i a)];exact(JU (λ_ _=>rfl) i).symm
theorem sW : ∀(n:Nat) {u z I O:Vc} (c:Int),Wk p w wd T d n u z->Wk p w wd T d n I O->Wk p w wd T d n (λi=>u i+c*I i) λi=>z i+c*O i
 | 0,u,z,I,O,c,h,h'=>λi a=>VS (h i a)<|h' i a
 | n+1,u,z,I,O,c,⟨y,h1,h2⟩,⟨y',g?,i?⟩=>⟨_,sW n c h1 g?,Gr c h2 i?⟩
theorem ma(k:Nat):Lk p w wd T k (λ_=>0) λ_=>0:=by unfold Lk;split<;>exact λi _=>by rw[ZK (λ_ _=>by simp) i];simp
theorem Wv : ∀n,Wk p w wd T d n (λ_=>0) λ_=>0
 | 0=>λ_ _=>rfl
 | n+1=>⟨_,Wv n,ma _⟩
theorem rF(h:Lk p w wd T k y z)(hz : ∀i,i<wd (k+1)->z' i%p=z i%p):Lk p w wd T k y z':=by
 unfold Lk at *;split
 ·next b=>rw[DZ b]at h;intro i a;rw[h i a];exact(k5 hz i).symm
 ·next b=>rw[DJ b]at h;intro i a;rw[hz i a,h i a]
theorem LO : ∀{n:Nat} {u z I:Vc},Wk p w wd T d n u z->(∀i,i<wd (d+n)->I i%p=z i%p)->Wk p w wd T d n u I
 | 0,u,z,I,h,hz=>λi a=>by rw[h i a,hz i a]
 | n+1,u,z,I,⟨y,h1,h2⟩,hz=>⟨y,h1,rF h2 hz⟩
theorem Vs : ∀{n:Nat} {u I z:Vc},Wk p w wd T d n u z->(∀i,i<wd d->I i%p=u i%p)->Wk p w wd T d n I z
 | 0,u,I,z,h,hu=>λi a=>by rw[hu i a,h i a]
 | n+1,u,I,z,⟨y,h1,h2⟩,hu=>⟨y,Vs h1 hu,h2⟩
theorem sV(t:Vc)(u z:Nat->Vc) : ∀K,(∀j,j<K->Wk p w wd T d n (u j) (z j))->Wk p w wd T d n (λi=>zf (λj=>t j*u j i) K) λi=>zf (λj=>t j*z j i) K
 | 0,_=>Wv n
 | K+1,h=>sW n (t K) (sV t u z K λj I=>h j ⋯)<|h K ⋯
theorem rm(O:C4 p w wd T m b)(Y:k<m)(J:b.has k=cL)(L:b.has (k+1)=cL):Lk p w wd T k (b.v k) (b.v<|k+1):=by
 unfold Lk;cases hw:w k with
 | true=>
  have z:jX w k=k+1:=by unfold jX;rw[hw];rfl
  have I:qa w k=k:=by unfold qa;rw[hw];rfl
  rw[DZ rfl];intro i a;have:=O.arr k Y (by rw[z];exact L) i (by rw[I];exact a);rw[z,I,J,DZ rfl]at this;exact this.symm
 | false=>
  have z:jX w k=k:=by unfold jX;rw[hw];rfl
  have I:qa w k=k+1:=by unfold qa;rw[hw];rfl
  rw[DJ ⋯];intro i a;have:=O.arr k Y (by rw[z];exact J) i (by rw[I];exact a);rw[z,I,L,DZ rfl]at this;exact this.symm
theorem KO(J:C4 p w wd T m b)(I:b.has d=cL) : ∀n,d+n<=m->b.has (d+n)=cL->Wk p w wd T d n (b.v d) (b.v<|d+n)
 | 0,_,_=>λ_ _=>rfl
 | n+1,hn,h2=>by have z:b.has (d+n)=cL:=l9.mpr (by have:=l9.mp I;have:=l9.mp h2;omega);exact⟨_,KO J I n ⋯ z,rm J ⋯ z h2⟩
theorem lP(hb:C4 p w wd T m b)(L:b.has d=cL)(J:w (b.s+b.n - 1)=dd) : ∀n,d+n<=m->b.has (d+n)=dd->Wk p w wd T d n (b.v d) λ_=>0
 | 0,_,h2=>by rw[j_,L]at h2;cases h2
 | n+1,hn,h2=>by
  cases h3:b.has (d+n)with
  | false=>exact⟨_,lP hb L J n ⋯ h3,ma _⟩
  | true=>
   refine⟨_,KO hb L n ⋯ h3,?_⟩;have f:=l9.mp h3;have e : ¬(d+n+1<b.s+b.n):=λz=>by have:b.has (d+(n+1))=cL:=l9.mpr ⋯;rw[this]at h2;cases h2
   have I:b.s+b.n - 1=d+n:=by omega
   rw[I]at J;have O:jX w (d+n)=d+n:=by unfold jX;rw[J];rfl
   have Y:qa w (d+n)=d+n+1:=by unfold qa;rw[J];rfl
   have:=hb.arr (d+n) ⋯;rw[O,Y]at this;unfold Lk;rw[J,DJ ⋯];intro i a;rw[this h3 i a,show b.has (d+n+1)=dd from h2];simp
theorem QR(D:h9 p w wd T m N A) : ∀n,d+n<=m->∀{u z:Vc},Wk p w wd T d n u z->∀{a b:Vc},(∀i,i<wd d->u i%p=zf (λj=>if (A j).has d=cL then a j*(A j).v d i else 0) N%p)->(∀i,i<wd (d+n)->z i%p=zf (λj=>if (A j).has (d+n)=cL then b j*(A j).v (d+n) i else 0) N%p)->
 ∀j,j<N->(A j).has d=cL->((A j).has (d+n)=cL->a j%p=b j%p)/\((A j).has (d+n)=dd->w ((A j).s+(A j).n - 1)=cL->a j%p=0):=by
 have B : ∀r,r<=m->∀{v:Vc} {a b:Vc},(∀i,i<wd r->v i%p=zf (λj=>if (A j).has r=cL then a j*(A j).v r i else 0) N%p)->(∀i,i<wd r->v i%p=zf (λj=>if (A j).has r=cL then b j*(A j).v r i else 0) N%p)->∀j,j<N->(A j).has r=cL->a j%p=b j%p:=λr X v a b G g j O Y=>by
  have:=D.inj r X (λj=>a j - b j) (λi f=>by
   have e:zf (λj=>if (A j).has r=cL then (a j - b j)*(A j).v r i else 0) N=zf (λj=>if (A j).has r=cL then a j*(A j).v r i else 0) N+zf (λj=>(if (A j).has r=cL then b j*(A j).v r i else 0)*(-1)) N:=by
    rw[<- z9];refine zk λj _=>?_;split
    ·rw[Int.sub_mul];omega
    ·simp
   rw[e,jG,OE,<- G i f,Om,<- g i f,<- Om,<- OE,show v i+v i * -1=0 by omega];simp) j O Y
  exact RR.mpr this
 have L : ∀k,k<m->∀(c:Vc) (r l:Nat),r=jX w k->l=qa w k->∀i,i<wd l->app (T k) (wd r) (Dh p A N c r) i%p=zf (λj=>if (A j).has l=cL then (if (A j).has r=cL then c j else 0)*(A j).v l i else 0) N%p:=λk U c r l M P i f=>by
  rw[Bx];refine zy λj O=>?_;cases hx:(A j).has r with
  | false=>simp
  | true=>
   have q:=(D.ok j O).arr k U (by rw[<- M];exact hx) i (by rw[<- P];exact f);rw[<- M,<- P]at q;simp only[if_true];rw[Om,q,<- Om];cases hy:(A j).has l<;>simp
 intro n
 induction n with
 | zero=>
  intro W u z C a b H x j O Y;refine⟨λ_=>B d ⋯ H (λi f=>by rw[C i f];exact x i f) j O Y,λh=>?_⟩;rw[j_,Y]at h;cases h
 | succ n Z=>
  intro W u z C a b H x j O Y;obtain⟨y,G,g⟩:=C;obtain⟨c,J⟩:=D.sp (d+n) ⋯ y;obtain⟨K,Q⟩:=Z ⋯ G H J j O Y;have R : ∀i,i<wd (d+n)->y i%p=Dh p A N c (d+n) i%p:=λi f=>by rw[J i f];unfold Dh;rw[Pc]
  have S : ∀i,i<wd (d+n+1)->z i%p=Dh p A N b (d+n+1) i%p:=λi f=>by rw[x i f];unfold Dh;rw[Pc];rfl
  have zbs:=l9.mp Y;cases hw:w (d+n)with
  | false=>
   have E:jX w (d+n)=d+n:=by unfold jX;rw[hw];rfl
   have F:qa w (d+n)=d+n+1:=by unfold qa;rw[hw];rfl
   unfold Lk at g;rw[hw,DJ ⋯]at g;have t:=B (d+n+1) ⋯ (v:=z) x (b:=λj=>if (A j).has (d+n)=cL then c j else 0) λi f=>by rw[g i f,k5 R i];exact L (d+n) ⋯ c (d+n) (d+n+1) E.symm F.symm i f
   refine⟨λh=>?_,λh o=>?_⟩
   ·have I:(A j).has (d+n)=cL:=l9.mpr (by have:=l9.mp h;omega)
    have:=t j O h;rw[I,DZ rfl]at this;rw[K I,this]
   ·cases I:(A j).has (d+n)with
    | false=>exact Q I o
    | true=>
     have q3:=l9.mp I;have q2 : ¬(d+n+1<(A j).s+(A j).n):=λz=>by have:(A j).has (d+(n+1))=cL:=l9.mpr ⋯;rw[this]at h;cases h
     rw[show(A j).s+(A j).n - 1=d+n by omega,hw]at o;cases o
  | true=>
   have E:jX w (d+n)=d+n+1:=by unfold jX;rw[hw];rfl
   have F:qa w (d+n)=d+n:=by unfold qa;rw[hw];rfl
   unfold Lk at g;rw[hw,DZ rfl]at g;have t:=B (d+n) ⋯ (v:=y) J (b:=λj=>if (A j).has (d+n+1)=cL then b j else 0) λi f=>by rw[g i f,k5 S i];exact L (d+n) ⋯ b (d+n+1) (d+n) E.symm F.symm i f
   refine⟨λh=>?_,λh o=>?_⟩
   ·have I:(A j).has (d+n)=cL:=l9.mpr (by have:=l9.mp h;omega)
    have:=t j O I;rw[show(A j).has (d+n+1)=cL from h,DZ rfl]at this;rw[K I,this]
   ·cases I:(A j).has (d+n)with
    | false=>exact Q I o
    | true=>
     have:=t j O I;rw[show(A j).has (d+n+1)=dd from h,DJ ⋯]at this;rw[K I,this];simp
end
section
variable{p:Int}{n:Nat}
theorem sJ{l:DK} : ∀{r:Nat},(∀k m,k<m->m<r->l k<l m)->∃j,j<=r/\∀k,k<r->l k≠j
 | 0,_=>⟨0,Ou _,λk d=>absurd d<|OO _⟩
 | r+1,h=>by
  obtain⟨j,g,f⟩:=sJ (r:=r) λk m a b=>h k m a ⋯;by_cases e:l r=j
  ·refine⟨r+1,Ou _,λk d=>?_⟩
   rcases OG k r with z | z
   ·have:=h k r z ⋯;omega
   ·rw[show k=r by omega];omega
  ·refine⟨j,by omega,λk d=>?_⟩
   rcases OG k r with z | z
   ·exact f k z
   ·rw[show k=r by omega];exact e
theorem iE(J:Pr p){h N:Nat}{f:DW}(inj : ∀t:Vc,(∀i,i<h->app f N t i%p=0)->∀j,j<N->t j%p=0):N<=h:=by
 rcases OG h N with a8 | a6
 ·exfalso
  obtain⟨r,C,B,l,d,y⟩:=W4 (n:=N) J h f;obtain⟨O,A,a2⟩:=sJ d.mono;have o:O<N:=by omega
  let t:Vc:=λj=>if j=O then 1 else zf (λk=>if l k=j then B k O*(-1)else 0) r;have u:t O=1:=DZ rfl;have E : ∀k,k<r->t (l k)=B k O*(-1):=λk a=>by
   show(if l k=O then _ else _)=_;rw[DJ (a2 k a),zK (f:=λI=>if l I=l k then B I O*(-1)else 0) a λI Y b=>by
    rw[DJ λe=>b (by
     rcases SW I k with z | z | z
     ·have:=d.mono I k z a;omega
     ·exact z
     ·have:=d.mono k I z Y;omega)]]
   rw[DZ rfl]
  have w : ∀k,k<r->zf (λj=>B k j*t j) N=0:=λk a=>by
   have e:zf (λj=>B k j*t j) N=zf (λj=>(if j=O then B k O else 0)+zf (λI=>if l I=j then B k (l I)*(B I O*(-1))else 0) r) N:=zk λj s=>by
    by_cases z:j=O
    ·subst z
     rw[u,DZ rfl,zk (g:=λ_=>0) λI Y=>DJ<|a2 I Y,zz];simp
    ·show B k j*(if j=O then _ else _)=_
     rw[DJ z,DJ z,Int.zero_add,Rf,<- jG];refine zk λI Y=>?_;by_cases e:l I=j
     ·rw[DZ e,DZ e,<- e,Rf]
     ·rw[DJ e,DJ e];simp
   rw[e,z9,zK (f:=λj=>if j=O then B k O else 0) o<|λj _ b=>DJ b,DZ rfl,jZ];have m:zf (λI=>zf (λj=>if l I=j then B k (l I)*(B I O*(-1))else 0) N) r=zf (λI=>B k (l I)*(B I O*(-1))) r:=zk λI Y=>by rw[zK (f:=λj=>if l I=j then B k (l I)*(B I O*(-1))else 0) (d.lt I Y) λj _ b=>DJ<|PH b,DZ rfl]
   rw[m,zK (f:=λI=>B k (l I)*(B I O*(-1))) a λI Y b=>by rw[d.j3 k I a Y b];simp];rw[d.one k a];omega
  have:=inj t (λi x=>by
   have c:=Wh d<|(y<|f i).mpr (.gen ⟨i,x,rfl⟩);unfold app;have e:zf (λj=>f i j*t j) N%p=zf (λj=>zf (λk=>f i (l k)*B k j) r*t j) N%p:=zy λj s=>by rw[Om,c j s,<- Om]
   rw[e];have m:zf (λj=>zf (λk=>f i (l k)*B k j) r*t j) N=zf (λk=>f i (l k)*zf (λj=>B k j*t j) N) r:=by rw[zk (g:=λj=>zf (λk=>f i (l k)*B k j*t j) r) λj _=>(jG _ _ _).symm,jZ];refine zk λk _=>?_;rw[<- zZ];exact zk λj _=>PF _ _ _
   rw[m,zk (g:=λ_=>0) λk a=>by rw[w k a,Sn],zz];simp) O o
  rw[u,J.one]at this;cases this
 ·exact a6
theorem yc(W:Nat->Vc)(t:Vc):Span p n (ec m W) λi=>zf (λj=>t j*W j i) m:=Span.sum (u:=W) t λj z=> .gen ⟨j,z,rfl⟩
theorem FG(z:Pr p)(J:hI p n s B l)(sp : ∀v,Span p n (ec s B) v↔Span p n (ec m W) v)(I : ∀t:Vc,(∀i,i<n->zf (λj=>t j*W j i) m%p=0)->∀j,j<m->t j%p=0):m=s:=by
 have d:s<=m:=by obtain⟨r,g,O⟩:=W4 (n:=n) z m W;have:=VF z (m:=m) (W:=W) ⟨B,l,J,sp⟩ O;omega
 have h:s<=n:=wL J;have e:m<=s:=iE z (f:=λi j=>W j<|l i) λt Y=>I t λi a=>by
  have c:=Wh J ((sp _).mpr (yc (n:=n) W t)) i a;rw[c];have:zf (λk=>zf (λj=>t j*W j (l k)) m*B k i) s%p=zf (λ_=>0) s%p:=zy λk b=>by have:=Y k b;unfold app at this;rw[xT]at this;rw[Om,this];simp
  rw[this,zz];simp
 omega
theorem pQ(hp:Pr p){s q c:Nat}{B J V:Nat->Vc}{l L:DK}(hX:hI p n s B l)(O:hI p n q J L)(a5 : ∀j,j<c->Span p n (ec s B) (V j))(KX : ∀v,Span p n (ec q J) v->Span p n (ec s B) v)
 (T_ : ∀v,Span p n (ec s B) v->∃t:Vc,Span p n (ec q J) λi=>v i - zf (λj=>t j*V j i) c) (a7 : ∀t:Vc,Span p n (ec q J) (λi=>zf (λj=>t j*V j i) c)->∀j,j<c->t j%p=0):q+c=s:=by
 let W:Nat->Vc:=λj=>if j<q then J j else V (j - q);have o : ∀j,j<q->W j=J j:=λj I=>DZ I;have r : ∀j,W (q+j)=V j:=λj=>by show(if q+j<q then _ else _)=_;rw[DJ ⋯,OU]
 have x : ∀t:Vc,∀i,zf (λj=>t j*W j i) (q+c)=zf (λj=>t j*J j i) q+zf (λj=>t (q+j)*V j i) c:=λt i=>by
  rw[vJ];congr 1
  ·exact zk λj I=>by rw[o j I]
  ·exact zk λj I=>by rw[r j]
 refine FG hp hX (W:=W) (λv=>⟨λY=>?_,λY=>Y.le λg d=>?_⟩) λt u=>?_
 ·obtain⟨t,h⟩:=T_ v Y
  have a:Span p n (ec (q+c) W) λi=>v i - zf (λj=>t j*V j i) c:=h.le λg d=>by obtain⟨k,b,rfl⟩:=d;rw[<- o k b];exact .gen ⟨k,by omega,rfl⟩
  have C:Span p n (ec (q+c) W) λi=>zf (λj=>t j*V j i) c:=Span.sum t λj I=>by rw[<- r j];exact .gen ⟨q+j,by omega,rfl⟩
  exact(C.add a 1).congr λi _=>by rw[UA,Int.sub_add_cancel]
 ·obtain⟨k,b,rfl⟩:=d
  rcases OG k q with z | z
  ·rw[o k z];exact KX _<|.gen ⟨k,z,rfl⟩
  ·obtain⟨j,rfl⟩ : ∃j,k=q+j:=⟨k - q,by omega⟩
   rw[r j];exact a5 j ⋯
 ·have w : ∀j,j<c->t (q+j)%p=0:=a7 (λj=>t<|q+j) ((yc (n:=n) J λj=> -1*t j).congr λi m=>by
   have:=u i m;rw[x]at this;have e:zf (λj=> -1*t j*J j i) q=zf (λj=>t j*J j i) q * -1:=by rw[<- jG];exact zk λj _=>by rw[Rf (-1),PF,Rf (-1),PF]
   rw[e];refine RR.mpr ?_;rw[<- this];congr 1;omega)
  intro j I;rcases OG j q with z | z
  ·have A : ∀i,i<n->zf (λj=>t j*J j i) q%p=0:=λi m=>by
    have:=u i m;rw[x,OE]at this;have e:zf (λj=>t (q+j)*V j i) c%p=zf (λ_=>0) c%p:=zy λj I=>by rw[Om,w j I];simp
    rw[e,zz]at this;simpa using this
   have a:=A (L j)<|O.lt j z;rw[zK (f:=λk=>t k*J k (L j)) z λk b y=>by rw[O.j3 k j b z (PH y)];simp]at a;rw[O.one j z,RA]at a;exact a
  ·obtain⟨k,rfl⟩ : ∃k,j=q+k:=⟨j - q,by omega⟩
   exact w k ⋯
end
noncomputable def n5(A:Nat->gv)(N d e:Nat):List Nat:=(Od N).filter λj=>(A j).has d && (A j).has e
section
variable{p:Int}{w:DV}{wd:DK}{T:DQ}{m N n:Nat}{A:Nat->gv}{d:Nat}
theorem lj(I:k<(n5 A N d e).length):(n5 A N d e).getD k 0<N/\(A<|(n5 A N d e).getD k 0).has d=cL/\(A<|(n5 A N d e).getD k 0).has e=cL:=by
 have f:(n5 A N d e).getD k 0∈n5 A N d e:=by rw[Oh,Oe I];exact Sj _
 obtain⟨b,a⟩:=Pn.mp f;simp only[Oo]at a;exact⟨Oj.mp b,a.1,a.2⟩
theorem FN(D:h9 p w wd T m N A)(I:d<=m)(e:Nat):(n5 A N d e).length<=wd d:=by rw[<- D.cnt d I];unfold n5 gi;rw[<- RU,<- RU];exact List.countP_mono_left λj _ h=>by simp only[Oo]at h;exact h.1
theorem pV(d e:Nat)(t:Vc) : ∃a:Vc,∀k,k<(n5 A N d e).length->a ((n5 A N d e).getD k 0)=t k:=by refine⟨λj=>t<|(n5 A N d e).idxOf j,λk b=>?_⟩;have f:(n5 A N d e).Nodup:=Tj.sublist Sa;show t _=_;rw[Oh,Oe b,Sd,f.idxOf_getElem _ b]
theorem lh(d e:Nat)(a:Vc)(i:Nat):zf (λk=>a ((n5 A N d e).getD k 0)*(A<|(n5 A N d e).getD k 0).v d i) (n5 A N d e).length=zf (λj=>if (A j).has d=cL then (if (A j).has e=cL then a j else 0)*(A j).v d i else 0) N:=by have:=xf (λj=>(A j).has d && (A j).has e) (λj=>a j*(A j).v d i) N;refine this.trans<|zk λj _=>?_;cases (A j).has d<;>cases (A j).has e<;>simp
theorem pk(hp:Pr p)(D:h9 p w wd T m N A)(J:d+n<=m){s q:Nat}{B L:Nat->Vc}{l l2:DK}(hX:hI p (wd d) s B l)(O : ∀u,Span p (wd d) (ec s B) u ↔ ∃z,Wk p w wd T d n u z)
 (hK:hI p (wd d) q L l2) (Y : ∀u,Span p (wd d) (ec q L) u↔Wk p w wd T d n u λ_=>0):q+(n5 A N d<|d+n).length=s:=by
 have Q:=FN D (show d<=m by omega)<|d+n;have R:=wL hK;refine pQ hp hX hK (V:=λk=>(A<|(n5 A N d<|d+n).getD k 0).v d) (λk f=>?_) (λv C=>(O v).mpr ⟨_,(Y v).mp C⟩) (λv C=>?_) λt M=>?_
 ·obtain⟨g,o,I⟩:=lj f
  exact(O _).mpr ⟨_,KO (D.ok _ g) o n J I⟩
 ·obtain⟨z,E⟩:=(O v).mp C
  obtain⟨a,r⟩:=D.sp d ⋯ v;obtain⟨b,H⟩:=D.sp (d+n) J z;have x:=QR D n J E r H;refine⟨λk=>a<|(n5 A N d<|d+n).getD k 0,(Y _).mpr ?_⟩;let u:Nat->Vc:=λj=>if (A j).has d=cL/\(A j).has (d+n)=dd/\w ((A j).s+(A j).n - 1)=dd then (A j).v d else λ_=>0;have P : ∀j,j<N->Wk p w wd T d n (u j) λ_=>0:=λj y=>by
   show Wk p w wd T d n (if _ then _ else _) _;split
   ·next h=>exact lP (D.ok j y) h.1 h.2.2 n J h.2.1
   ·exact Wv n
  have K:=sV a u (λ_ _=>0) N P;refine LO (Vs K λi F=>?_) λi _=>by simp[zz]
  rw[lh d (d+n) a i];rw[Sy,r i F,<- Sy];have e:zf (λj=>if (A j).has d=cL then a j*(A j).v d i else 0) N - zf (λj=>if (A j).has d=cL then (if (A j).has (d+n)=cL then a j else 0)*(A j).v d i else 0) N=zf (λj=>(if (A j).has d=cL then a j*(A j).v d i else 0)+(if (A j).has d=cL then (if (A j).has (d+n)=cL then a j else 0)*(A j).v d i else 0) * -1) N:=by rw[z9,jG];omega
  rw[e];refine zy λj y=>?_;show _=a j*(if _ then (A j).v d else λ_=>0) i%p;cases g:(A j).has d with
  | false=>simp
  | true=>
   cases o:(A j).has (d+n)with
   | true=>
    have G:a j*(A j).v d i+a j*(A j).v d i * -1=0:=by omega
    simp only[if_true,G,Bool.true_eq_false,false_and,and_false,if_false,Sn]
   | false=>
    cases I:w ((A j).s+(A j).n - 1)with
    | false=>simp
    | true=>
     have:=(x j y g).2 o I;simp only[if_true,Pa,if_false,Int.zero_mul,SN,Sn,Bool.true_eq_false,and_false];rw[Om,this];simp
 ·obtain⟨a,r⟩:=pV (A:=A) (N:=N) d (d+n) t
  have E:=(Y _).mp M;have x:=QR D n J E (a:=λj=>if (A j).has (d+n)=cL then a j else 0) (b:=λ_=>0) (λi F=>by
   rw[<- lh d (d+n) a i];congr 1;exact zk λk f=>by rw[r k f]) (λi _=>by
   have:zf (λj=>if (A j).has (d+n)=cL then 0*(A j).v (d+n) i else 0) N=zf (λ_=>0) N:=zk λj _=>by simp
   rw[this,zz])
  intro k f;obtain⟨g,o,I⟩:=lj f;have:=(x _ g o).1 I;rw[I,DZ rfl,r k f]at this;simpa using this
theorem Kl : ∀(t:Nat) (z:Vc),bK p w wd T d (wd d) t z↔Wk p w wd T d t z λx=>z (wd d+x)
 | 0,z=>Iff.rfl
 | t+1,z=>by
  have e : ∀u:Vc,bK p w wd T d (wd d) t (qj (wd d) z u)↔Wk p w wd T d t z u:=λu=>by rw[Kl t];have b:(λx=>qj (wd d) z u<|wd d+x)=u:=funext λx=>z7 x;rw[b];exact⟨λh=>Vs h λi a=>by rw[zV a],λh=>Vs h λi a=>by rw[zV a]⟩
  show(∃u:Vc,bK p w wd T d (wd d) t (qj (wd d) z u)/\D5 p w wd T (d+t) u λx=>z<|wd d+x) ↔ ∃y,Wk p w wd T d t z y/\Lk p w wd T (d+t) y λx=>z<|wd d+x;exact exists_congr λu=>and_congr (e u) Iff.rfl
end
section
variable{p:Int}{w:DV}{wd:DK}{T:DQ}{m N:Nat}{A:Nat->gv}
theorem pv(r:Nat)(t:Vc) : ∃a:Vc,∀k,k<(gi A N r).length->a ((gi A N r).getD k 0)=t k:=by refine⟨λj=>t<|(gi A N r).idxOf j,λk b=>?_⟩;show t _=_;rw[Oh,Oe b,Sd,(vZ A N r).idxOf_getElem _ b]
theorem V2(r:Nat)(a:Vc)(i:Nat):zf (λj=>if (A j).has r=cL then a j*(A j).v r i else 0) N=app (xI A N r) (gi A N r).length (λk=>a<|(gi A N r).getD k 0) i:=by have:=xf (λj=>(A j).has r) (λj=>a j*(A j).v r i) N;rw[<- this];unfold app;rw[xT];rfl
theorem aP(z:j<N)(I:(A j).has r=cL) : ∃k,k<(gi A N r).length/\(gi A N r).getD k 0=j:=by have O:j∈gi A N r:=Pn.mpr ⟨Oj.mpr z,by simpa using I⟩;obtain⟨i,a,e⟩:=List.getElem_of_mem O;exact⟨i,a,by rw[Oh,Oe a];simpa using e⟩
theorem AZ(Y:Pr p)(a0 : ∀k,wd k<=8)(ok : ∀j,j<N->C4 p w wd T m (A j))(cnt : ∀r,r<=m->(gi A N r).length=wd r)(O : ∀r,r<=m->∀v:Vc,∃t,∀i,i<wd r->v i%p=app (xI A N r) (wd r) t i%p):h9 p w wd T m N A where
 ok:=ok
 cnt:=cnt
 sp:=λr z v=>by obtain⟨t,I⟩:=O r z v;obtain⟨a,ha⟩:=pv (A:=A) (N:=N) r t;refine⟨a,λi hi=>?_⟩;rw[I i hi,V2,cnt r z];unfold app;congr 1;exact zk λk hk=>by show _=_*a _;rw[ha k (by rw[cnt r z];exact hk)]
 inj:=λr z t I j hj hh=>by
  obtain⟨k,hk,e⟩:=aP hj hh;have:=JK Y (a0 r) (O r z) (t:=λk=>t<|(gi A N r).getD k 0) (λi hi=>by have:=I i hi;rw[V2,cnt r z]at this;exact this) k (by rw[<- cnt r z];exact hk)
  rw[e]at this;exact this
end
section
variable{p:Int}{m:Nat}{w:DV}{wd kb:DK}{T T' X J:DQ}
abbrev fx(p:Int)(m:Nat)(w:DV)(wd kb:DK)(T T' X J:DQ)(c6 c7 c8 c9 c10 c11 c12 c13 _T:Cell):Ctx:=
 [.val (.int p),.val<|.str<|qP m w,.val<|oo m w wd T,.val<|oo m w kb T',.val<|.lst<|Fo m w wd kb J,.val<|.lst<|X' (m+1) wd kb X,c6,c7,c8,c9,c10,c11,c12,c13,_T]
end
theorem Yb(f:Nat->Int)(a:Nat) : ∀b,zf f (a+b)=zf f a+zf (λx=>f<|a+x) b
 | 0=>by show zf f a=zf f a+0;omega
 | b+1=>by show zf f (a+b)+f (a+b)=zf f a+(zf (λx=>f<|a+x) b+f (a+b));rw[Yb f a b];omega
structure WB(n r:Nat)(B:Nat->Vc)(l:DK):Prop where
 lt : ∀k,k<r->l k<n
 one : ∀k,k<r->B k (l k)=1
 j3 : ∀k m,k<r->m<r->m≠k->B k (l m)=0
theorem hI.wb{p:Int}{n r:Nat}{B:Nat->Vc}{l:DK}(h:hI p n r B l):WB n r B l:=⟨h.lt,h.one,h.j3⟩
section
variable{p:Int}{n r:Nat}{B:Nat->Vc}{l:DK}
theorem lu(J:WB n r B l){v:Vc}(h:Span p n (ec r B) v) : ∀i,i<n->v i%p=zf (λk=>v (l k)*B k i) r%p:=by
 obtain⟨t,z⟩:=yH h;intro i b;rw[z i b];refine zy λk a=>?_;have e:v (l k)%p=t k%p:=by rw[z _ (J.lt k a),zK (i:=k) a λj I O=>by rw[J.j3 j k I a (PH O)];simp,J.one k a,RA]
 exact(xZ e rfl).symm
theorem AY(L:Pr p){s m:Nat}{B:Nat->Vc}{l:DK}(J:WB n s B l){W:Nat->Vc}(sp : ∀v,Span p n (ec s B) v↔Span p n (ec m W) v)(a1 : ∀t:Vc,(∀i,i<n->zf (λj=>t j*W j i) m%p=0)->∀j,j<m->t j%p=0):m=s:=by
 have x:s<=m:=by
  have o : ∀j,∃c:Vc,j<s->∀i,i<n->B j i%p=zf (λe=>c e*W e i) m%p:=λj=>by
   by_cases I:j<s
   ·obtain⟨t,O⟩:=yH ((sp _).mp (.gen ⟨j,I,rfl⟩))
    exact⟨t,λ_=>O⟩
   ·exact⟨λ_=>0,λz=>absurd z I⟩
  obtain⟨C,hC⟩:=Uh o;refine iE L (f:=λe j=>C j e) λt O j I=>?_;have b:t j%p=zf (λc=>t c*B c (l j)) s%p:=by rw[zK (i:=j) I λc Y a=>by rw[J.j3 c j Y I (PH a)];simp,J.one j I,RA]
  have d:zf (λc=>t c*B c (l j)) s%p=zf (λc=>t c*zf (λe=>C c e*W e (l j)) m) s%p:=zy λc Y=>xZ rfl<|hC c Y _<|J.lt j I;have h:zf (λc=>t c*zf (λe=>C c e*W e (l j)) m) s=zf (λe=>zf (λc=>C c e*t c) s*W e (l j)) m:=by
   rw[zk (g:=λc=>zf (λe=>C c e*t c*W e (l j)) m) λc _=>by rw[<- zZ];exact zk λe _=>by rw[<- PF,Rf (t c)],jZ]
   exact zk λe _=>jG _ _ _
  rw[b,d,h,zy (g:=λ_=>0) λe r=>by have:=O e r;unfold app at this;rw[Om,this];simp,zz]
  simp
 have y:m<=s:=iE L (f:=λi j=>W j<|l i) λt O=>a1 t λi u=>by
  have c:=lu J ((sp _).mpr (yc (n:=n) W t)) i u;rw[c];have:zf (λk=>zf (λj=>t j*W j (l k)) m*B k i) s%p=zf (λ_=>0) s%p:=zy λk w=>by have:=O k w;unfold app at this;rw[xT]at this;rw[Om,this];simp
  rw[this,zz];simp
 omega
end
structure Loc(p:Int)(wl wr wk N:Nat)(la ra hk:DV)(x y u:Nat->Vc)(Tl Tr:DW):Prop where
 T1 : ∀z:Vc,∃a:Vc,∀i,i<wl->z i%p=zf (λj=>if la j=cL then a j*x j i else 0) N%p
 D? : ∀z:Vc,∃a:Vc,∀i,i<wr->z i%p=zf (λj=>if ra j=cL then a j*y j i else 0) N%p
 n? : ∀t:Vc,(∀i,i<wl->zf (λj=>if la j=cL then t j*x j i else 0) N%p=0)->∀j,j<N->la j=cL->t j%p=0
 inR : ∀t:Vc,(∀i,i<wr->zf (λj=>if ra j=cL then t j*y j i else 0) N%p=0)->∀j,j<N->ra j=cL->t j%p=0
 m? : ∀t:Vc,(∀i,i<wk->zf (λj=>if hk j=cL then t j*u j i else 0) N%p=0)->∀j,j<N->hk j=cL->t j%p=0
 y_ : ∀j,j<N->la j=cL->∀i,i<wk->app Tl wl (x j) i%p=(if hk j=cL then u j i else 0)%p
 z_ : ∀j,j<N->ra j=cL->∀i,i<wk->app Tr wr (y j) i%p=(if hk j=cL then u j i else 0)%p
 both : ∀j,la j=cL->ra j=cL->hk j=cL
noncomputable def ip(J L I:DV)(j:Nat):Bool:=(J j && !I j) || (L j && !I j) || (J j && L j)
noncomputable def u9(I:DV)(j:Nat):Int:=if I j=cL then -1 else 1
noncomputable def o1(wl:Nat)(I J:DV)(x y:Nat->Vc)(j:Nat):Vc:=qj wl (λi=>if I j=cL then x j i else 0) λi=>if J j=cL then u9 I j*y j i else 0
theorem aQ(c:Bool)(a x:Int):(if c=cL then a*x else 0)=(if c=cL then a else 0)*x:=by cases c<;>simp
theorem lU{p:Int}{w N:Nat}{F:DW}{z a:Vc}{x:Nat->Vc}(h : ∀c,c<w->z c%p=zf (λj=>a j*x j c) N%p)(i:Nat):app F w z i%p=zf (λj=>a j*app F w (x j) i) N%p:=by rw[<- Wr F w a x N i];exact k5 h i
theorem Kr{p a b:Int}(h:a%p=0):a*b%p=0:=by rw[Om,h];simp
section
variable{p:Int}{wl wr wk N q:Nat}{la ra hk:DV}{x y u:Nat->Vc}{Tl Tr:DW}{B:Nat->Vc}{l:DK}
noncomputable def sY(p:Int)(wl wr wk:Nat)(Tl Tr:DW)(z:Vc):Prop:=∀i,i<wk->(app Tl wl z i+app Tr wr (λc=>z<|wl+c) i)%p=0
theorem dZ(L:Loc p wl wr wk N la ra hk x y u Tl Tr){j:Nat}(z:j<N)(J:ip la ra hk j=cL):sY p wl wr wk Tl Tr (o1 wl la ra x y j):=λi a=>by
 have b:app Tl wl (o1 wl la ra x y j) i%p=(if la j=cL/\hk j=cL then u j i else 0)%p:=by
  have:app Tl wl (o1 wl la ra x y j) i=app Tl wl (λi=>if la j=cL then x j i else 0) i:=zk λc I=>by show _*qj _ _ _ _=_;rw[zV I]
  rw[this];cases h:la j with
  | false=>simp[app,zz]
  | true=>
   simp only[if_true,true_and];exact L.y_ j z h i a
 have d:app Tr wr (λc=>o1 wl la ra x y j<|wl+c) i%p=(if ra j=cL/\hk j=cL then u9 la j*u j i else 0)%p:=by
  have:app Tr wr (λc=>o1 wl la ra x y j<|wl+c) i=app Tr wr (λi=>if ra j=cL then u9 la j*y j i else 0) i:=zk λc I=>by show _*qj _ _ _ _=_;rw[z7]
  rw[this];cases h:ra j with
  | false=>simp[app,zz]
  | true=>
   simp only[if_true,true_and];have O:app Tr wr (λi=>u9 la j*y j i) i=u9 la j*app Tr wr (y j) i:=by unfold app;rw[<- zZ];exact zk λc _=>by rw[RW]
   rw[O,xZ rfl (L.z_ j z h i a)];cases hk j<;>simp
 rw[OE,b,d,<- OE];unfold ip at J;unfold u9;cases h1:la j<;>cases h2:ra j<;>cases h3:hk j<;>simp[h1,h2,h3]at J ⊢
 all_goals first
  | (rw[show u j i + -u j i=0 by omega];rfl)
  | (have:=L.both j h1 h2;rw[h3]at this;cases this)
theorem dY(L:Loc p wl wr wk N la ra hk x y u Tl Tr){z:Vc}(hz:sY p wl wr wk Tl Tr z) : ∃t:Vc,∀i,i<wl+wr->z i%p=zf (λj=>if ip la ra hk j=cL then t j*o1 wl la ra x y j i else 0) N%p:=by
 obtain⟨a,n⟩:=L.T1 z;obtain⟨b,o⟩:=L.D? λc=>z<|wl+c;let f:Vc:=λj=>if la j=cL then a j else 0;let g:Vc:=λj=>if ra j=cL then b j else 0;have n : ∀i,i<wl->z i%p=zf (λj=>f j*x j i) N%p:=λi k=>by rw[n i k];congr 1;exact zk λj _=>aQ _ _ _
 have o : ∀i,i<wr->z (wl+i)%p=zf (λj=>g j*y j i) N%p:=λi k=>by rw[o i k];congr 1;exact zk λj _=>aQ _ _ _
 have Y : ∀j,j<N->hk j=cL->(f j+g j)%p=0:=L.m? (λj=>f j+g j) λi k=>by
  have l:=lU (F:=Tl) n i;have m:=lU (F:=Tr) (z:=λc=>z<|wl+c) o i;have I:=hz i k;rw[OE,l,m,<- OE,<- z9]at I;refine Se (zy λj O=>?_) I;have r:f j*app Tl wl (x j) i%p=f j*(if hk j=cL then u j i else 0)%p:=by
   cases h:la j with
   | false=>simp[f,h]
   | true=>exact xZ rfl<|L.y_ j O h i k
  have s:g j*app Tr wr (y j) i%p=g j*(if hk j=cL then u j i else 0)%p:=by
   cases h:ra j with
   | false=>simp[g,h]
   | true=>exact xZ rfl<|L.z_ j O h i k
  rw[OE (f j*_),r,s,<- OE,<- TH];cases hk j<;>simp
 refine⟨λj=>if la j=cL then f j else g j,λi k=>?_⟩;rcases OG i wl with c | c
 ·rw[n i c]
  refine zy λj O=>?_;show _=(if _ then _*qj _ _ _ _ else 0)%p;rw[zV c];have:=Y j O;unfold ip;cases l:la j<;>cases m:ra j<;>cases I:hk j<;>simp[l,m,I,f,g]at this ⊢;exact Int.emod_eq_zero_of_dvd<|Int.dvd_mul_of_dvd_left<|Int.dvd_of_emod_eq_zero this
 ·obtain⟨d,rfl⟩ : ∃d,i=wl+d:=⟨i - wl,by omega⟩
  rw[o d ⋯];refine zy λj O=>?_;show _=(if _ then _*qj _ _ _ _ else 0)%p;rw[z7];have:=Y j O;unfold ip u9;cases l:la j<;>cases m:ra j<;>cases I:hk j<;>simp[l,m,I,f,g]at this ⊢
  ·exact Int.emod_eq_zero_of_dvd<|Int.dvd_mul_of_dvd_left<|Int.dvd_of_emod_eq_zero this
  ·have:=L.both j l m;rw[I]at this;cases this
  ·have e:b j*y j d - a j * -y j d=(a j+b j)*y j d:=by rw[Int.mul_neg,TH];omega
   refine RR.mpr ?_;rw[e];exact Kr this
theorem rH(L:Loc p wl wr wk N la ra hk x y u Tl Tr){t:Vc}(z : ∀i,i<wl+wr->zf (λj=>if ip la ra hk j=cL then t j*o1 wl la ra x y j i else 0) N%p=0) : ∀j,j<N->ip la ra hk j=cL->t j%p=0:=by
 have e:=L.n? (λj=>if ip la ra hk j=cL then t j else 0) λi d=>by refine Se (congrArg (· % p)<|zk λj _=>?_)<|z i ⋯;show _=if _ then _*qj _ _ _ _ else 0;rw[zV d];cases la j<;>cases ip la ra hk j<;>simp
 have b:=L.inR (λj=>if ip la ra hk j=cL then u9 la j*t j else 0) λi d=>by refine Se (congrArg (· % p)<|zk λj _=>?_)<|z (wl+i) ⋯;show _=if _ then _*qj _ _ _ _ else 0;rw[z7];cases ra j<;>cases ip la ra hk j<;>simp;rw[<- PF,Rf (t j)]
 intro j I a;cases h:la j with
 | true=>have:=e j I h;rw[DZ a]at this;exact this
 | false=>
  have O:ra j=cL:=by unfold ip at a;rw[h]at a;cases b:ra j<;>simp[b]at a ⊢
  have:=b j I O;rw[DZ a]at this;unfold u9 at this;rw[h]at this;simpa using this
noncomputable def Bc(p:Int)(wl:Nat)(la ra:DV)(x y:Nat->Vc)(l:DK)(j:Nat):Vc:=λc=>o1 wl la ra x y j (l c)%p
theorem FJ(L:Loc p wl wr wk N la ra hk x y u Tl Tr)(J:WB (wl+wr) q B l)(hs : ∀z,Span p (wl+wr) (ec q B) z↔sY p wl wr wk Tl Tr z){j:Nat}(I:j<N)(Y:ip la ra hk j=cL){i:Nat}(O:i<wl+wr) :
 zf (λc=>B c i*Bc p wl la ra x y l j c) q%p=o1 wl la ra x y j i%p:=by
 rw[lu J ((hs _).mpr (dZ L I Y)) i O];refine zy λc _=>?_;show _*(_%p)%p=_;rw[qw,Rf]
theorem Lg(L:Loc p wl wr wk N la ra hk x y u Tl Tr)(J:WB (wl+wr) q B l)(Y : ∀z,Span p (wl+wr) (ec q B) z↔sY p wl wr wk Tl Tr z)(v:Vc) :
 ∃t:Vc,∀i,i<q->v i%p=zf (λj=>if ip la ra hk j=cL then t j*Bc p wl la ra x y l j i else 0) N%p:=by
 obtain⟨t,I⟩:=dY L<|(Y _).mp (yc (p:=p) (n:=wl+wr) (m:=q) B v);refine⟨t,λi a=>?_⟩;have e:zf (λj=>v j*B j (l i)) q=v i:=by rw[zK (i:=i) a λk hk O=>by rw[J.j3 k i hk a (PH O)];simp,J.one i a,RA]
 have:=I (l i)<|J.lt i a;rw[e]at this;rw[this];refine zy λj _=>?_;split
 ·show _=_*(_%p)%p
  rw[qw]
 ·rfl
theorem FK(L:Loc p wl wr wk N la ra hk x y u Tl Tr)(J:WB (wl+wr) q B l)(hs : ∀z,Span p (wl+wr) (ec q B) z↔sY p wl wr wk Tl Tr z){t:Vc}(I : ∀i,i<q->zf (λj=>if ip la ra hk j=cL then t j*Bc p wl la ra x y l j i else 0) N%p=0) : ∀j,j<N->ip la ra hk j=cL->t j%p=0:=by
 refine rH L λi e=>?_;have O:Span p (wl+wr) (ec q B) λi=>zf (λj=>t j*(if ip la ra hk j=cL then o1 wl la ra x y j i else 0)) N:=Span.sum (u:=λj i=>if ip la ra hk j=cL then o1 wl la ra x y j i else 0) t λj Y=>by
  cases hn:ip la ra hk j with
  | true=>simpa using (hs _).mpr (dZ L Y hn)
  | false=>exact .zero λi _=>by simp
 have b : ∀i,zf (λj=>t j*(if ip la ra hk j=cL then o1 wl la ra x y j i else 0)) N=zf (λj=>if ip la ra hk j=cL then t j*o1 wl la ra x y j i else 0) N:=λi=>zk λj _=>by split<;>simp
 rw[<- b,lu J O i e];have:zf (λk=>zf (λj=>t j*(if ip la ra hk j=cL then o1 wl la ra x y j (l k)else 0)) N*B k i) q%p=zf (λ_=>0) q%p:=zy λk a=>by
  have d:=I k a;have:zf (λj=>t j*(if ip la ra hk j=cL then o1 wl la ra x y j (l k)else 0)) N%p=0:=by
   refine Se (zy λj _=>?_) d;split
   ·show _=_*(_%p)%p
    rw[qw]
   ·simp
  rw[Kr this];simp
 rw[this,zz];simp
theorem FM(hp:Pr p)(L:Loc p wl wr wk N la ra hk x y u Tl Tr)(hb:WB (wl+wr) q B l)(hs : ∀z,Span p (wl+wr) (ec q B) z↔sY p wl wr wk Tl Tr z):((Od N).filter (ip la ra hk)).length=q:=by
 have h:((Od N).filter (ip la ra hk)).Nodup:=Tj.sublist Sa;have O:=λg=>xf (ip la ra hk) g N;have a : ∀{e:Nat},e<((Od N).filter (ip la ra hk)).length->((Od N).filter (ip la ra hk)).getD e 0<N/\ip la ra hk (((Od N).filter (ip la ra hk)).getD e 0)=cL:=λ{e} I=>by
  have r:((Od N).filter (ip la ra hk)).getD e 0∈(Od N).filter (ip la ra hk):=by rw[Oh,Oe I];exact Sj _
  obtain⟨b,d⟩:=Pn.mp r;exact⟨Oj.mp b,d⟩
 generalize (Od N).filter (ip la ra hk)=J at h O a;refine AY hp hb (W:=λe=>o1 wl la ra x y<|J.getD e 0) (λv=>⟨λY=>?_,λY=>Y.le λg o=>?_⟩) λt ht=>?_
 ·obtain⟨t,ht⟩:=dY L ((hs v).mp Y)
  refine(yc (p:=p) (n:=wl+wr) (m:=J.length) (λe=>o1 wl la ra x y<|J.getD e 0) λe=>t<|J.getD e 0).congr λi f=>?_;rw[ht i f,<- O λj=>t j*o1 wl la ra x y j i]
 ·obtain⟨e,I,rfl⟩:=o
  obtain⟨b,d⟩:=a I;exact(hs _).mpr (dZ L b d)
 ·have k:=rH L (t:=λj=>t<|J.idxOf j) λi f=>by
   rw[<- O λj=>t (J.idxOf j)*o1 wl la ra x y j i];refine Se (congrArg (· % p)<|zk λe I=>?_)<|ht i f;show t (J.idxOf<|J.getD e 0)*_=_;rw[Oh,Oe I,Sd,h.idxOf_getElem _ I]
  intro e I;obtain⟨b,d⟩:=a I;have:=k _ b d;rw[Oh,Oe I,Sd,h.idxOf_getElem _ I]at this;exact this
end
noncomputable def P4:=jE 3<|xh<|jU bO<|zc (ze 0)<|zc (ze 1)<|zc (ze 2) zC
noncomputable def P5:=jE 4<|dr (zL<|dr (zq 0)<|zx<|.int 1)<|ze 1
noncomputable def P6:=jE 5<|dr (zL<|dr (zq 0)<|zx<|.int 1)<|ze 2
noncomputable def P7:=jE 6<|xh<|jU kg<|zc (dr (zq 0)<|zx<|.int 0)<|zc (zw qg (ze 5)<|ze 4)<|zc (xh<|zR (zO<|zq 3) (.nm 0) 1 [4] jO (zw qg (VC (ze 0) (o6<|ze 1) W1)<|VC (ze 0) W1<|o6<|ze 1)) zC
noncomputable def P8:=xM<|zw vg (zw vg (wG<|zq 3)<|wG<|jR<|jU jP<|zc (ze 5)<|zc (ze 6) zC)<|wG<|jR<|jU jP<|zc (ze 4)<|zc (ze 3) zC
noncomputable def J2:=jn 7<|zS P4<|zS P5<|zS P6<|zS P7 P8
noncomputable def S4:=jE 3<|zw qg (nz (ze 0) (qe<|zc (zw vg (ze 1)<|zx<|.int 1)<|zc (ze 2) zC)<|zx<|.int 0)<|nz (ze 0) (qe<|zc (ze 1)<|zc (zw qg (ze 2)<|zx<|.int 1) zC)<|zx<|.int 0
noncomputable def S5:=xM<|zw qg (zw vg (X7 (ze 0)<|qe<|zc (ze 1)<|zc (ze 2) zC)<|ze 3)<|nz (ze 0) (qe<|zc (zw vg (ze 1)<|zx<|.int 1)<|zc (zw qg (ze 2)<|zx<|.int 1) zC)<|zx<|.int 0
noncomputable def ke:=jn 4<|zS S4 S5
noncomputable def S1:=jE 1<|xh<|jU kN<|zc (wG<|zL<|dr (zq 0)<|zx<|.int 1) zC
noncomputable def S2:=jE 2<|fJ<|zR (zO<|zq 1) (.tp [0,1]) 2 [0] jO (qe<|zc (qe<|zc (ze 0)<|zc (ze 1) zC)<|zc (zJ J2<|zc (ze 2)<|zc (ze 0)<|zc (ze 1) zC) zC)
noncomputable def S3:=xM<|fJ<|zR (zO<|zq 1) (.tp [0,1]) 2 [2] jO (qe<|zc (qe<|zc (ze 0)<|zc (ze 1) zC)<|zc (zJ ke<|zc (ze 2)<|zc (ze 0)<|zc (ze 1) zC) zC)
noncomputable def k7:=jn 3<|zS S1<|zS S2 S3
theorem EZ:J2=jn 7 (zS P4<|zS P5<|zS P6<|zS P7 P8):=rfl
section
variable{p:Int}{w:DV}{wd:DK}{T:DQ}{m:Nat}
theorem dm(J:hI p (a+b) q B l)(hs:s<=q)(L : ∀k,k<s->l k<a)(s2 : ∀k,s<=k->k<q->a<=l k) :
 hI p a s B l/\∀u,Span p a (ec s B) u ↔ ∃z,Span p (a+b) (ec q B) (qj a u z):=by
 refine⟨{
  lt:=L
  mono:=λk m h w=>J.mono k m h ⋯
  one:=λk d=>J.one k ⋯
  m8:=λk j d O=>J.m8 k j ⋯ O
  j3:=λk m d x Y=>J.j3 k m ⋯ ⋯ Y
  i4:=λk i d f=>J.i4 k i ⋯ ⋯},λu=>⟨λI=>?_,λI=>?_⟩⟩
 ·obtain⟨t,o⟩:=yH I
  refine⟨λj=>zf (λk=>t k*B k (a+j)) s,(Span.sum (u:=B) t (m:=s) λk d=> .gen ⟨k,by omega,rfl⟩).congr λi f=>?_⟩;rcases OG i a with z | z
  ·rw[zV z,o i z]
  ·obtain⟨j,rfl⟩ : ∃j,i=a+j:=⟨i - a,by omega⟩
   rw[z7]
 ·obtain⟨z,r⟩:=I
  have c:=Wh J r;refine(yc (n:=a) B λk=>qj a u z<|l k).congr λi f=>?_;have:=c i ⋯;rw[zV f]at this;rw[this];obtain⟨e,rfl⟩ : ∃e,q=s+e:=⟨q - s,by omega⟩;rw[vJ];have g:zf (λk=>qj a u z (l<|s+k)*B (s+k) i) e=zf (λ_=>0) e:=zk λk d=>by rw[J.m8 (s+k) i ⋯ (by have:=s2 (s+k) ⋯ ⋯;omega)];simp
  rw[g,zz,SN]
theorem cg(v:Vc):Span p (b+a) (ec q λk=>qj b (λj=>B k<|a+j)<|B k) (qj b (λ_=>0) v)↔Span p (a+b) (ec q B) (qj a v λ_=>0):=by
 constructor
 ·intro h
  refine(h.map (n':=a+b) (G':=ec q B) (λi=>if i<a then b+i else i - a) (λi d=>by split<;>omega) λg I=>?_).congr λi d=>?_
  ·obtain⟨k,e,rfl⟩:=I
   refine(Span.gen (g:=B k) ⟨k,e,rfl⟩).congr λi d=>?_;show qj b (λj=>B k<|a+j) (B k) (if i<a then b+i else i - a)%p=_;split
   ·rw[z7]
   ·rw[zV ⋯];congr 2;omega
  ·split
   ·next z=>rw[z7,zV z]
   ·next z=>
    obtain⟨j,rfl⟩ : ∃j,i=a+j:=⟨i - a,by omega⟩;rw[z7,zV ⋯]
 ·intro h
  refine(h.map (n':=b+a) (G':=ec q λk=>qj b (λj=>B k<|a+j)<|B k) (λi=>if i<b then a+i else i - b) (λi d=>by split<;>omega) λg I=>?_).congr λi d=>?_
  ·obtain⟨k,e,rfl⟩:=I
   refine(Span.gen (g:=qj b (λj=>B k<|a+j)<|B k) ⟨k,e,rfl⟩).congr λi d=>?_;split
   ·next z=>rw[zV z]
   ·next z=>
    obtain⟨j,rfl⟩ : ∃j,i=b+j:=⟨i - b,by omega⟩;rw[z7];congr 2;omega
  ·split
   ·next z=>rw[z7,zV z]
   ·next z=>
    obtain⟨j,rfl⟩ : ∃j,i=b+j:=⟨i - b,by omega⟩;rw[z7,zV ⋯];congr 2;omega
theorem AH(hp:Pr p)(J : ∀k,wd k<=7)(hT : ∀k x y,0<=T k x y/\T k x y<p)(hm:m<=20)(a8:i<=j)(hj:j<=m) :
 ∃(s q:Nat) (B B2:Nat->Vc) (l l2:DK),J2 [qB p m w wd T,.int i,.int j]=cI (.val<|.int<|(s:Int) - (q:Int))/\hI p (wd i) s B l/\(∀u,Span p (wd i) (ec s B) u ↔ ∃z,Wk p w wd T i (j - i) u z)/\hI p (wd i) q B2 l2/\∀u,Span p (wd i) (ec q B2) u↔Wk p w wd T i (j - i) u λ_=>0:=by
 have hl:=jB;have ha:=J i;have as:=J j;obtain⟨q,B,l,P,b,f⟩:=mf (m:=m) (w:=w) hp J hT a8 hj;have hq:=wL b;have O:q<=lim:=by omega
 obtain⟨r,H,Z,C,Y,X⟩:=xC hp (show wd j+wd i<=100 by omega) O .L λk=>qj (wd j) (λx=>B k<|wd i+x)<|B k;have hr:=wL Y;obtain⟨s,E,F,G⟩:=vK (l:=l) (wd i) b.mono;obtain⟨d,n,o,t⟩:=vK (l:=Z) (wd j) Y.mono;have b1:=yz b O E F G;have b2:=yz Y ⋯ n o t;obtain⟨Q,S⟩:=dm b E F G;obtain⟨U,W⟩:=QX Y n o t;refine⟨s,r - d,B,_,l,_,?_,Q,λu=>?_,U,λu=>?_⟩
 ·have K:i<m+1:=by omega
  have M:j<m+1:=by omega
  have sw:jh (.nm 0) jO (zw qg (VC (ze 0) (o6<|ze 1) W1)<|VC (ze 0) W1<|o6<|ze 1) [.no,.val (.int<|wd i)] (zW q (wd i+wd j) B)=cI (zW q (wd j+wd i) λk=>qj (wd j) (λx=>B k<|wd i+x)<|B k):=by
   unfold zW;refine zD _ _ λk hk=>zF rfl rfl ?_;have A:wd j+wd i<=lim:=by omega
   simp[bA,bz,qg,A,yq]
  let R:=qB p m w wd T;let I:D:= .lst (zW q (wd i+wd j) B);let e:D:= .lst (zW r (wd j+wd i) H);rw[EZ];refine xj (zG (γ':=[.val R,.val<|.int i,.val<|.int j,.val I,.no,.no,.no]) ?_
   (zG (γ':=[.val R,.val<|.int i,.val<|.int j,.val I,.val<|.int<|wd i,.no,.no]) ?_
   (zG (γ':=[.val R,.val<|.int i,.val<|.int j,.val I,.val<|.int<|wd i,.val<|.int<|wd j,.no]) ?_
   (zG (γ':=[.val R,.val<|.int i,.val<|.int j,.val I,.val<|.int<|wd i,.val<|.int<|wd j,.val e]) ?_ ?_))))
  ·simp[P4,jx,gx,R,I,P]
  ·simp[P5,R,yA,K]
  ·simp[P6,R,yA,M]
  ·have N:((wd j:Int)+(wd i:Int))=((wd j+wd i:Nat):Int):=by omega
   have A:wd j+wd i<=lim:=by omega
   simp only[rn]at C;simp[P7,jL,R,yA,I,O,sw];rw[N,C];simp[e]
  ·have r1:q - s<=lim:=by omega
   have r2:r - d<=lim:=by omega
   have f1:(q:Int) - ((r - d:Nat):Int) - ((q - s:Nat):Int)=(s:Int) - ((r - d:Nat):Int):=by omega
   simp[P8,I,e,b1,b2,O,r1,r2,f1]
 ·rw[S u]
  constructor
  ·rintro⟨z,g⟩
   have:=(Kl (j - i) _).mp ((f _).mp g);exact⟨_,Vs this λx a=>by rw[zV a]⟩
  ·rintro⟨z,g⟩
   refine⟨z,(f _).mpr ((Kl (j - i) _).mpr ?_)⟩;rw[show(λx=>qj (wd i) u z<|wd i+x)=z from funext λx=>z7 x];exact Vs g λx a=>by rw[zV a]
 ·rw[W u,X,cg,f,Kl,show(λx=>qj (wd i) u (λ_=>0)<|wd i+x)=λ_=>0 from funext λx=>z7 x]
  exact⟨λh=>Vs h λx a=>by rw[zV a],λh=>Vs h λx a=>by rw[zV a]⟩
end
noncomputable def stN(M:Nat):List (Nat×Nat):=(Od M).flatMap λi=>(Tn i<|M - i).map λj=>(i,j)
noncomputable def kI(s:Nat×Nat):List Int:=[(s.1:Int),(s.2:Int)]
noncomputable def kD(s:Nat×Nat):D:= .tup [.int s.1,.int s.2]
theorem wq:s∈stN M↔s.1<=s.2/\s.2<M:=by
 unfold stN;simp only[TM,Oj,RK,List.mem_range'_1];constructor
 ·rintro⟨i,a,j,z,rfl⟩
  exact⟨z.1,by show j<M;omega⟩
 ·intro h
  exact⟨s.1,by omega,s.2,⟨h.1,by omega⟩,rfl⟩
theorem WZ : ∀M:Fin 7,(stN M.val).Nodup/\((stN M.val).map kI).Nodup/\(stN M.val).length<=21:=by decide +kernel
theorem HN : ∀M:Fin 7,kN [.int (M.val:Int)]=cI (.own<|(stN M.val).map kD)
 | ⟨0,_⟩=>by kernel_rfl
 | ⟨1,_⟩=>by kernel_rfl
 | ⟨2,_⟩=>by kernel_rfl
 | ⟨3,_⟩=>by kernel_rfl
 | ⟨4,_⟩=>by kernel_rfl
 | ⟨5,_⟩=>by kernel_rfl
 | ⟨6,_⟩=>by kernel_rfl
theorem Fn(h:kI s=kI t):s=t:=by unfold kI at h;simp only[List.cons.injEq,and_true]at h;obtain⟨a,b⟩:=s;obtain⟨c,d⟩:=t;simp only[Prod.mk.injEq];have e:=h.1;have f:=h.2;dsimp only at e f;omega
theorem V9(f:Nat×Nat->D)(k:List Int) : ∀L:List (Nat×Nat),dX (L.map kI) (L.map f) k=(L.find? λs=>decide<|kI s=k).map f
 | []=>rfl
 | s::L=>by
  show(if kI s=k then _ else _)=_;by_cases h:kI s=k
  ·rw[DZ h,List.find?_cons_of_pos (by simpa using h)];rfl
  ·rw[DJ h,List.find?_cons_of_neg (by simpa using h)];exact V9 f k L
theorem iP{L:List (Nat×Nat)}{s:Nat×Nat}(h:s∈L):(L.find? λt=>decide<|kI t=kI s)=cI s:=by
 cases e:L.find? λt=>decide (kI t=kI s)with
 | none=>
  have:=_n.mp e s h;simp at this
 | some t=>
  have:=List.find?_some e;rw[Fn (of_decide_eq_true this)]
noncomputable def atS(f:Nat×Nat->Int)(M:Nat)(a b:Int):Int:=if 0<=a/\a<=b/\b<M then f (a.toNat,b.toNat)else 0
theorem Ky(f:Nat×Nat->Int)(M:Nat)(a b:Int):(dX ((stN M).map kI) ((stN M).map λs=> .int (f s)) [a,b]).getD (.int 0) = .int (atS f M a b):=by
 rw[V9 (λs=> .int (f s))];unfold atS;split
 ·next h=>
  have e:[a,b]=kI (a.toNat,b.toNat):=by unfold kI;simp;omega
  rw[e,iP (wq.mpr<|by show a.toNat<=b.toNat/\b.toNat<M;omega)];rfl
 ·next h=>
  rw[_n.mpr λs d z=>h ?_]
  ·rfl
  ·have g:=wq.mp d
   have z:=of_decide_eq_true z;unfold kI at z;simp only[List.cons.injEq,and_true]at z;omega
theorem iJ(f:Nat×Nat->Int){M:Nat}{s:Nat×Nat}(h:s∈stN M):dX ((stN M).map kI) ((stN M).map λs=>D.int<|f s) [(s.1:Int),(s.2:Int)]=cI (.int<|f s):=by rw[V9 (λs=> .int (f s))];rw[show [(s.1:Int),(s.2:Int)]=kI s from rfl,iP h];rfl
noncomputable def Ap(f:Nat×Nat->Int)(M:Nat)(s:Nat×Nat):Int:=f s - (atS f M ((s.1:Int) - 1) s.2+atS f M s.1 ((s.2:Int)+1))+atS f M ((s.1:Int) - 1) ((s.2:Int)+1)
noncomputable def K0(f:Nat×Nat->Int)(M:Nat):D:= .hM ((stN M).map kI) ((stN M).map λs=> .int (f s))
theorem Fm(a b:Int):AG (.tup [.int a,.int b])=cI [a,b]:=rfl
theorem EI:ke=jn 4 (zS S4 S5):=rfl
theorem gK(f:Nat×Nat->Int)(h:s∈stN M):ke [K0 f M,.int s.1,.int s.2]=cI (.val<|.int<|Ap f M s):=by
 have a:=Ky f M ((s.1:Int) - 1) s.2;have b:=Ky f M s.1<|(s.2:Int)+1;have z:=Ky f M ((s.1:Int) - 1)<|(s.2:Int)+1;have I:=iJ f h;rw[EI];refine xj<|zG (γ':=[.val (K0 f M),.val<|.int s.1,.val<|.int s.2,.val (.int<|atS f M ((s.1:Int) - 1) s.2+atS f M s.1 ((s.2:Int)+1))]) ?_ ?_
 ·simp[S4,jx,gx,K0,AQ,Fm,a,b]
 ·simp[S5,K0,AQ,Fm,z,I,Ap]
theorem XU(f:Nat×Nat->Int) : ∀L:List (Nat×Nat),ZQ (L.map λs=>D.tup [kD s,.int (f s)])=cI (L.map kD,L.map λs=> .int (f s))
 | []=>rfl
 | s::L=>by show(ZQ<|L.map λs=>D.tup [kD s,.int (f s)]).map _=_;rw[XU f L];rfl
theorem ic : ∀L:List (Nat×Nat),ig (L.map kD)=cI (L.map kI)
 | []=>rfl
 | s::L=>by show(AG<|kD s).bind _=_;rw[show AG (kD s)=cI (kI s)from rfl];show(ig<|L.map kD).map _=_;rw[ic L];rfl
theorem EL:k7=jn 3 (zS S1<|zS S2 S3):=rfl
section
variable{p:Int}{w:DV}{wd:DK}{T:DQ}{m:Nat}
theorem cY(L:m<=5)(f:Nat×Nat->Int)(J : ∀s,s∈stN (m+1)->J2 [qB p m w wd T,.int s.1,.int s.2]=cI (.val<|.int<|f s)):k7 [qB p m w wd T]=cI (.val<|K0 (Ap f<|m+1)<|m+1):=by
 have h:=jB;obtain⟨e,b,g⟩:=WZ ⟨m+1,by omega⟩;have z:=HN ⟨m+1,by omega⟩;dsimp only at e b g z;have I:(stN<|m+1).length<=lim:=by omega
 let S:D:= .lst ((stN<|m+1).map kD);have Y:jh (.tp [0,1]) jO (qe<|zc (qe<|zc (ze 0)<|zc (ze 1) zC)<|zc (zJ J2<|zc (ze 2)<|zc (ze 0)<|zc (ze 1) zC) zC) [.no,.no,.val (qB p m w wd T)] ((stN<|m+1).map kD)=cI ((stN<|m+1).map λs=>D.tup [kD s,.int (f s)]):=by refine zD _ _ λs a=>zF (γ1:=[.val (.int s.1),.val<|.int s.2,.val (qB p m w wd T)]) rfl rfl ?_;have:=J s a;simp[this,kD]
 have d:jh (.tp [0,1]) jO (qe<|zc (qe<|zc (ze 0)<|zc (ze 1) zC)<|zc (zJ ke<|zc (ze 2)<|zc (ze 0)<|zc (ze 1) zC) zC) [.no,.no,.val (K0 f<|m+1)] ((stN<|m+1).map kD)=cI ((stN<|m+1).map λs=>D.tup [kD s,.int (Ap f (m+1) s)]):=by refine zD _ _ λs a=>zF (γ1:=[.val (.int s.1),.val<|.int s.2,.val (K0 f<|m+1)]) rfl rfl ?_;have:=gK f a;simp[this,kD]
 have u1:=XU f<|stN<|m+1;have u2:=XU (Ap f<|m+1)<|stN<|m+1;have O:=ic<|stN<|m+1;have em:((m:Int)+1)=((m+1:Nat):Int):=by omega
 rw[EL];refine xj<|zG (γ':=[.val (qB p m w wd T),.val S,.no]) ?_ (zG (γ':=[.val (qB p m w wd T),.val S,.val (K0 f<|m+1)]) ?_ ?_)
 ·simp[S1,jx,gx,yA]
  rw[em,z];simp[S]
 ·simp[S2,jL,S,I,Y,u1,O,b,K0]
 ·simp[S3,jL,S,I,d,u2,O,b]
  rfl
end
noncomputable def ck:List Int->Int
 | []=>0
 | x::r=>x+ck r
theorem Yc : ∀L:List Int,cp (L.map D.int)=cI (ck L)
 | []=>rfl
 | x::L=>by show(cp<|L.map D.int).map _=_;rw[Yc L];rfl
noncomputable def Y4(i j:Nat)(s:Nat×Nat):Bool:=decide (s.1<=i) && decide (j<=s.2)
noncomputable def i3(K:List (Nat×Nat))(a b:Int):Nat:=K.countP λx=>decide ((x.1:Int)<=a) && decide (b<=(x.2:Int))
noncomputable def mm(K:List (Nat×Nat))(s:Nat×Nat):Nat:=K.countP λx=>decide<|x=s
theorem xS(x:Nat×Nat)(K:List (Nat×Nat))(a b:Int):(i3 (x::K) a b:Int)=(i3 K a b:Int)+if (x.1:Int)<=a/\b<=(x.2:Int)then 1 else 0:=by
 unfold i3;rw[_u];by_cases d:(x.1:Int)<=a
 ·by_cases e:b<=(x.2:Int)
  ·rw[DZ (show(decide ((x.1:Int)<=a) && decide (b<=(x.2:Int)))=cL by simp only[decide_eq_true d,decide_eq_true e];rfl),DZ ⟨d,e⟩];rfl
  ·rw[DJ (show ¬(decide ((x.1:Int)<=a) && decide (b<=(x.2:Int)))=cL by simp only[decide_eq_false e,Bool.and_false];decide),DJ λz=>e z.2];rfl
 ·rw[DJ (show ¬(decide ((x.1:Int)<=a) && decide (b<=(x.2:Int)))=cL by simp only[decide_eq_false d,UP];decide),DJ λz=>d z.1];rfl
theorem Kq(x s:Nat×Nat)(K:List (Nat×Nat)):(mm (x::K) s:Int)=(mm K s:Int)+if (x.1=s.1/\x.2=s.2)then 1 else 0:=by
 unfold mm;rw[_u];by_cases h:x=s
 ·rw[DZ (decide_eq_true h),DZ (by rw[h];exact⟨rfl,rfl⟩)];rfl
 ·rw[DJ (by simpa using h),DJ λz=>h (Prod.ext z.1 z.2)];rfl
theorem Y1(s:Nat×Nat) : ∀K:List (Nat×Nat),(i3 K s.1 s.2:Int) - ((i3 K ((s.1:Int) - 1) s.2:Int)+(i3 K s.1 ((s.2:Int)+1):Int))+(i3 K ((s.1:Int) - 1) ((s.2:Int)+1):Int)=(mm K s:Int)
 | []=>rfl
 | x::K=>by
  have z:=Y1 s K;rw[xS,xS,xS,xS,Kq];generalize (i3 K s.1 s.2:Int)=I at *;generalize (i3 K ((s.1:Int) - 1) s.2:Int)=O at *;generalize (i3 K s.1 ((s.2:Int)+1):Int)=Y at *;generalize (i3 K ((s.1:Int) - 1) ((s.2:Int)+1):Int)=c4 at *;generalize (mm K s:Int)=c5 at *
  repeat' split
  all_goals omega
theorem si(x:Nat×Nat) : ∀{L:List (Nat×Nat)},L.Nodup->ck (L.map λs=>if x=s then (1:Int)else 0)=if x∈L then 1 else 0
 | [],_=>rfl
 | s::L,h=>by
  have a:=Ry.mp h;show(if x=s then (1:Int)else 0)+ck (L.map λs=>if x=s then (1:Int)else 0)=_;rw[si x a.2];by_cases e:x=s
  ·subst e
   simp[a.1]
  ·simp[e]
theorem WU(f g:Nat×Nat->Int) : ∀L:List (Nat×Nat),ck (L.map λs=>f s+g s)=ck (L.map f)+ck (L.map g)
 | []=>rfl
 | s::L=>by show f s+g s+ck (L.map λs=>f s+g s)=f s+ck (L.map f)+(g s+ck (L.map g));rw[WU f g L];omega
theorem rM{M:Nat}(i j:Nat)(J:(stN M).Nodup) : ∀{K:List (Nat×Nat)},(∀x,x∈K->x∈stN M)->ck (((stN M).filter (Y4 i j)).map λs=>(mm K s:Int))=(i3 K i j:Int)
 | [],_=>by
  have e : ∀L:List (Nat×Nat),ck (L.map λs=>(mm [] s:Int))=0:=λL=>by
   induction L with
   | nil=>rfl
   | cons s L I=>show(mm [] s:Int)+_=0;rw[I];rfl
  rw[e];rfl
 | x::K,h=>by
  have I:=rM i j J (K:=K) λy Y=>h y<|Ow _ Y;have e:(λs=>(mm (x::K) s:Int))=λs=>(if x=s then (1:Int)else 0)+(mm K s:Int):=funext λs=>by
   rw[Kq];by_cases z:x=s
   ·rw[DZ z,DZ (by rw[z];exact⟨rfl,rfl⟩)];omega
   ·rw[DJ z,DJ λq=>z (Prod.ext q.1 q.2)];omega
  rw[e,WU,I,si x<|J.sublist Sa,xS];have a:=h x Ot;have O:x∈(stN M).filter (Y4 i j)↔Y4 i j x=cL:=by simp[a]
  by_cases c:Y4 i j x=cL
  ·rw[DZ (O.mpr c)]
   unfold Y4 at c;simp only[Oo,decide_eq_true_eq]at c;rw[DZ ⋯];omega
  ·rw[DJ λz=>c (O.mp z)]
   unfold Y4 at c;simp only[Oo,decide_eq_true_eq]at c;rw[DJ λz=>c ⟨by omega,by omega⟩];omega
section
variable{p:Int}{w:DV}{wd:DK}{T:DQ}{m N:Nat}{A:Nat->gv}
noncomputable def xQ(A:Nat->gv)(N:Nat):List (Nat×Nat):=(Od N).map λj=>((A j).s,(A j).s+(A j).n - 1)
theorem JH(D:h9 p w wd T m N A) : ∀x,x∈xQ A N->x∈stN (m+1):=λx a=>by obtain⟨j,z,rfl⟩:=RK.mp a;have b:=(D.ok j<|Oj.mp z).n1;have d:=(D.ok j<|Oj.mp z).le;exact wq.mpr (by show(A j).s<=(A j).s+(A j).n - 1/\(A j).s+(A j).n - 1<m+1;omega)
theorem sP(D:h9 p w wd T m N A)(z:i<=j):(n5 A N i j).length=i3 (xQ A N) i j:=by unfold n5 i3 xQ;rw[<- RU,TZ];refine List.countP_congr λk a=>?_;have b:=(D.ok k<|Oj.mp a).n1;simp only[Oo,SE,decide_eq_true_eq];rw[l9,l9];omega
theorem Bu(D:h9 p w wd T m N A)(I:a<=b):atS (λs=>(i3 (xQ A N) s.1 s.2:Int)) (m+1) a b=(i3 (xQ A N) a b:Int):=by
 unfold atS;split
 ·next h=>
  show((i3 (xQ A N) (a.toNat:Int) (b.toNat:Int):Nat):Int)=_;rw[_l h.1,_l ⋯]
 ·next h=>
  have:i3 (xQ A N) a b=0:=by unfold i3;rw[US];intro x d z;have:=wq.mp<|JH D x d;simp only[Oo,decide_eq_true_eq]at z;omega
  rw[this];rfl
theorem EH(D:h9 p w wd T m N A)(I:s.1<=s.2):Ap (λs=>(i3 (xQ A N) s.1 s.2:Int)) (m+1) s=(mm (xQ A N) s:Int):=by unfold Ap;rw[Bu D ⋯,Bu D ⋯,Bu D ⋯];exact Y1 s _
theorem pj(z:Pr p)(O : ∀k,wd k<=7)(Y : ∀k x y,0<=T k x y/\T k x y<p)(L:m<=20)(D:h9 p w wd T m N A)(I:i<=j)(J:j<=m):J2 [qB p m w wd T,.int i,.int j]=cI (.val<|.int ((i3 (xQ A N) i j:Nat):Int)):=by obtain⟨s,q,B,g,l,h,e,a,b,d,f⟩:=AH (w:=w) z O Y L I J;have:=pk z D (n:=j - i) ⋯ a b d f;rw[show i+(j - i)=j by omega]at this;rw[e,<- sP D I];congr 3;omega
end
noncomputable def hA(k x:Nat):Nat:=if x=k then k+1 else if x=k+1 then k else x
noncomputable def ki(k:Nat)(b:gv):Bool:=decide (b.s<k) && decide (k<=b.s+b.n)
noncomputable def Zx(k:Nat)(b:gv):Bool:=decide (b.s<=k+1) && decide (k+1<b.s+b.n)
noncomputable def Av(k:Nat)(b:gv)(v:Nat->Vc):gv:=⟨hA k b.s,hA k (b.s+b.n) - hA k b.s,v⟩
theorem rL{k:Nat}{b:gv}(I:1<=b.n)(h : ¬(b.s=k/\b.n=1)):hA k b.s<hA k (b.s+b.n):=by unfold hA;split<;>split<;>(try split)<;>(try split)<;>omega
theorem gN{k:Nat}{b:gv}{v:Nat->Vc}(I:1<=b.n){r:Nat}(z:r≠k):(Av k b v).has r=b.has r:=by rw[Rc,l9,l9];show hA k b.s<=r/\r<hA k b.s+(hA k (b.s+b.n) - hA k b.s)↔_;unfold hA;split<;>split<;>(try split)<;>(try split)<;>omega
theorem Au{k:Nat}{b:gv}{v:Nat->Vc}(I:1<=b.n):(Av k b v).has k=((ki k b && !b.has k) || (Zx k b && !b.has k) || (ki k b && Zx k b)):=by have e : ∀{x y:Bool},(x=cL↔y=cL)->x=y:=λh=>Rc.mpr h;refine e ?_;simp only[PY,Oo,Tz,<- Bool.not_eq_true,l9,ki,Zx,decide_eq_true_eq];show hA k b.s<=k/\k<hA k b.s+(hA k (b.s+b.n) - hA k b.s)↔_;unfold hA;split<;>split<;>(try split)<;>(try split)<;>omega
noncomputable def oy(k:Nat)(b:gv)(r:Nat):Int:=if b.s<k/\k<r then -1 else 1
theorem rN(k:Nat)(b:gv)(r:Nat):oy k b r*oy k b r=1:=by unfold oy;split<;>rfl
section
variable{p:Int}{w w':DV}{wd kb:DK}{T T':DQ}{m N k q:Nat}{A:Nat->gv}{B:Nat->Vc}{l:DK}
theorem iZ{z:Nat->gv}(keep:DV)(ok : ∀j,j<N->keep j=cL->C4 p w wd T m (z j))(no : ∀j,j<N->keep j=dd->∀r,(z j).has r=dd)
 (sp : ∀r,r<=m->∀v:Vc,∃t:Vc,∀i,i<wd r->v i%p=zf (λj=>if (z j).has r=cL then t j*(z j).v r i else 0) N%p)
 (inj : ∀r,r<=m->∀t:Vc,(∀i,i<wd r->zf (λj=>if (z j).has r=cL then t j*(z j).v r i else 0) N%p=0)->∀j,j<N->(z j).has r=cL->t j%p=0)
 (cnt : ∀r,r<=m->((Od N).filter λj=>(z j).has r).length=wd r) :
 h9 p w wd T m ((Od N).filter keep).length λe=>z (((Od N).filter keep).getD e 0):=by
 have l:((Od N).filter keep).Nodup:=Tj.sublist Sa;have o:=λg=>xf keep g N;have a : ∀{e:Nat},e<((Od N).filter keep).length->((Od N).filter keep).getD e 0<N/\keep (((Od N).filter keep).getD e 0)=cL:=λ{e} I=>by
  have y:((Od N).filter keep).getD e 0∈(Od N).filter keep:=by rw[Oh,Oe I];exact Sj _
  obtain⟨s,u⟩:=Pn.mp y;exact⟨Oj.mp s,u⟩
 have f : ∀r,((Od N).filter keep).filter (λj=>(z j).has r)=(Od N).filter λj=>(z j).has r:=λr=>by
  rw[List.filter_filter];refine SR λj Y=>?_;cases h:keep j with
  | true=>simp
  | false=>simp[no j (Oj.mp Y) h r]
 have k:((Od N).filter keep)=(Od ((Od N).filter keep).length).map λe=>((Od N).filter keep).getD e 0:=(qx 0 _).symm;generalize zbf:(Od N).filter keep=J at l o a f k;have n : ∀r (t:Vc) (i:Nat),zf (λe=>if (z<|J.getD e 0).has r=cL then t (J.getD e 0)*(z<|J.getD e 0).v r i else 0) J.length=zf (λj=>if (z j).has r=cL then t j*(z j).v r i else 0) N:=λr t i=>by
  rw[o λj=>if (z j).has r=cL then t j*(z j).v r i else 0];refine zk λj Y=>?_;cases h:keep j with
  | true=>simp
  | false=>simp[no j Y h r]
 have d : ∀(t:Vc) e,e<J.length->t (J.idxOf<|J.getD e 0)=t e:=λt e I=>by rw[Oh,Oe I,Sd,l.idxOf_getElem _ I]
 refine⟨λe I=>ok _ (a I).1 (a I).2,λr O v=>?_,λr O t ht e I x=>?_,λr O=>?_⟩
 ·obtain⟨t,ht⟩:=sp r O v
  exact⟨λe=>t<|J.getD e 0,λi b=>by rw[ht i b,<- n r t i]⟩
 ·have:=inj r O (λj=>t<|J.idxOf j) (λi b=>by
   rw[<- n r (λj=>t<|J.idxOf j) i];refine Se (congrArg (· % p)<|zk λe I=>?_)<|ht i b;show(if _ then t (J.idxOf<|J.getD e 0)*_ else 0)=_;rw[d t e I]) _ (a I).1 x
  rw[d t e I]at this;exact this
 ·rw[<- cnt r O,<- f r,<- RU]
  unfold gi;rw[<- RU]
  conv=>rhs;rw[k,TZ]
  rfl
end
section
variable{p:Int}{w w':DV}{wd kb:DK}{T T':DQ}{m N k q wl wr:Nat}{A:Nat->gv}{B:Nat->Vc}{l:DK}
structure L7(p:Int)(w w':DV)(wd kb:DK)(T T':DQ)(m k q wl wr:Nat)(B:Nat->Vc)(l:DK):Prop where
 km:k<=m
 Dp:wl=if 0<k then wd (k - 1)else 0
 Dq:wr=if k<m then wd (k+1)else 0
 el:0<k->w (k - 1)=dd/\w' (k - 1)=cL/\∀i c,i<wl->c<q->T' (k - 1) i c=B c i
 er:k<m->w k=cL/\w' k=dd/\∀i c,i<wr->c<q->T' k i c=B c (wl+i)
 j3 : ∀j,j<m->j≠k->j+1≠k->w' j=w j/\∀i c,T' j i c=T j i c
 zt:kb k=q
 xg : ∀r,r≠k->kb r=wd r
 hb:WB (wl+wr) q B l
 hs : ∀z,Span p (wl+wr) (ec q B) z↔sY p wl wr (wd k) (T<|k - 1) (T k) z
theorem aT{b:gv}(J:1<=b.n)(I:0<k):ki k b=b.has (k - 1):=by rw[Rc,l9];simp only[ki,Oo,decide_eq_true_eq];omega
theorem ET(D:h9 p w wd T m N A)(E:L7 p w w' wd kb T T' m k q wl wr B l):Loc p wl wr (wd k) N (λj=>ki k<|A j) (λj=>Zx k<|A j) (λj=>(A j).has k) (λj=>(A j).v (k - 1)) (λj=>(A j).v (k+1)) (λj=>(A j).v k) (T<|k - 1) (T k):=by
 have r:=E.km;have g : ∀j,j<N->0<k->ki k (A j)=(A j).has (k - 1):=λj I a=>aT (D.ok j I).n1 a;have h:0<k->∀t:Vc,∀i,zf (λj=>if ki k (A j)=cL then t j*(A j).v (k - 1) i else 0) N=zf (λj=>if (A j).has (k - 1)=cL then t j*(A j).v (k - 1) i else 0) N:=λa t i=>zk λj I=>by rw[g j I a]
 refine⟨λz=>?_,λz=>?_,λt Y j I O=>?_,λt Y j I O=>?_,λt Y=>D.inj k r t Y,λj I O i b=>?_,λj I O i b=>?_,λj n o=>?_⟩
 ·by_cases a:0<k
  ·obtain⟨t,Y⟩:=D.sp (k - 1) ⋯ z
   refine⟨t,λi b=>?_⟩;rw[E.Dp,DZ a]at b;rw[Y i b,h a]
  ·exact⟨λ_=>0,λi b=>by rw[E.Dp,DJ a]at b;omega⟩
 ·by_cases a:k<m
  ·obtain⟨t,Y⟩:=D.sp (k+1) ⋯ z
   refine⟨t,λi b=>?_⟩;rw[E.Dq,DZ a]at b;exact Y i b
  ·exact⟨λ_=>0,λi b=>by rw[E.Dq,DJ a]at b;omega⟩
 ·have a:0<k:=by simp only[ki,Oo,decide_eq_true_eq]at O;omega
  refine D.inj (k - 1) ⋯ t (λi b=>?_) j I (by rw[<- g j I a];exact O);rw[<- h a];exact Y i (by rw[E.Dp,DZ a];exact b)
 ·have O:(A j).has (k+1)=cL:=O
  have a:k<m:=by have:=(l9.mp O).2;have:=(D.ok j I).le;omega
  exact D.inj (k+1) ⋯ t (λi b=>Y i<|by rw[E.Dq,DZ a];exact b) j I O
 ·have a:0<k:=by simp only[ki,Oo,decide_eq_true_eq]at O;omega
  have f:=(E.el a).1;have d:jX w (k - 1)=k - 1:=by unfold jX;rw[f];rfl
  have e:qa w (k - 1)=k:=by unfold qa;rw[f];simp;omega
  have:=(D.ok j I).arr (k - 1) ⋯ (by rw[d,<- g j I a];exact O) i (by rw[e];exact b);rw[d,e]at this;rw[E.Dp,DZ a];exact this
 ·have O:(A j).has (k+1)=cL:=O
  have a:k<m:=by have:=(l9.mp O).2;have:=(D.ok j I).le;omega
  have f:=(E.er a).1;have d:jX w k=k+1:=by unfold jX;rw[f];rfl
  have e:qa w k=k:=by unfold qa;rw[f];rfl
  have:=(D.ok j I).arr k a (by rw[d];exact O) i (by rw[e];exact b);rw[d,e]at this;rw[E.Dq,DZ a];exact this
 ·simp only[ki,Zx,Oo,decide_eq_true_eq]at n o
  rw[l9];omega
noncomputable def M?(p:Int)(k wl:Nat)(A:Nat->gv)(l:DK)(j r:Nat):Vc:=
 if r=k then Bc p wl (λj=>ki k<|A j) (λj=>Zx k<|A j) (λj=>(A j).v (k - 1)) (λj=>(A j).v (k+1)) l j else λi=>oy k (A j) r*(A j).v r i%p
noncomputable def BO(p:Int)(k wl:Nat)(A:Nat->gv)(l:DK)(j:Nat):gv:=Av k (A j)<|M? p k wl A l j
noncomputable def vi(k:Nat)(A:Nat->gv)(j:Nat):Bool:= !(decide ((A j).s=k) && decide ((A j).n=1))
theorem pK(hp:Pr p)(D:h9 p w wd T m N A)(E:L7 p w w' wd kb T T' m k q wl wr B l) :
 h9 p w' kb T' m ((Od N).filter (vi k A)).length λe=>BO p k wl A l (((Od N).filter (vi k A)).getD e 0):=by
 have L:=ET D E;have km:=E.km;have Z:=hp.pos;have C : ∀{j r:Nat},r≠k->(BO p k wl A l j).v r=λi=>oy k (A j) r*(A j).v r i%p:=λ{j r} h=>DJ h;have J : ∀{j:Nat},(BO p k wl A l j).v k=Bc p wl (λj=>ki k<|A j) (λj=>Zx k<|A j) (λj=>(A j).v (k - 1)) (λj=>(A j).v (k+1)) l j:=λ{j}=>DZ rfl;have Y : ∀{j r:Nat},j<N->r≠k->(BO p k wl A l j).has r=(A j).has r:=λ{j r} I h=>gN (D.ok j I).n1 h;have F : ∀{j:Nat},j<N->(BO p k wl A l j).has k=ip (λj=>ki k<|A j) (λj=>Zx k<|A j) (λj=>(A j).has k) j:=λ{j} I=>Au (D.ok j I).n1;refine iZ (vi k A) (λj I U=>?_) (λj I U r=>?_) (λr O v=>?_) (λr O t H j I P=>?_) λr O=>?_
 ·have o:=D.ok j I
  have ax:hA k (A j).s<hA k ((A j).s+(A j).n):=rL o.n1 λz=>by simp[vi,z.1,z.2]at U
  refine⟨?_,?_,λr i O b=>?_,λa Q G i b=>?_⟩
  ·show 1<=hA k ((A j).s+(A j).n) - hA k (A j).s
   omega
  ·show hA k (A j).s+(hA k ((A j).s+(A j).n) - hA k (A j).s)<=m+1
   have:=o.le;have x:hA k (A j).s+(hA k ((A j).s+(A j).n) - hA k (A j).s)=hA k ((A j).s+(A j).n):=by omega
   rw[x];unfold hA;split
   ·omega
   ·split<;>omega
  ·by_cases z:r=k
   ·subst z
    rw[J];exact⟨Pb _ ⋯,OQ _ Z⟩
   ·rw[C z]
    exact⟨Pb _ ⋯,OQ _ Z⟩
  ·by_cases a1:a+1=k
   ·
    have R:0<k:=by omega
    obtain⟨_,u,M⟩:=E.el R;have ea:a=k - 1:=by omega
    subst ea;have d:jX w' (k - 1)=k:=by unfold jX;rw[u];simp;omega
    have f:qa w' (k - 1)=k - 1:=by unfold qa;rw[u];rfl
    rw[d,F I]at G;rw[f,E.xg _ ⋯]at b;have X:i<wl:=by rw[E.Dp,DZ R];exact b
    rw[d,f,J,E.zt,Y I ⋯,C ⋯];have x:=FJ L E.hb E.hs I G (i:=i) ⋯;have K:app (T'<|k - 1) q (Bc p wl (λj=>ki k<|A j) (λj=>Zx k<|A j) (λj=>(A j).v (k - 1)) (λj=>(A j).v (k+1)) l j) i=zf (λc=>B c i*Bc p wl (λj=>ki k<|A j) (λj=>Zx k<|A j) (λj=>(A j).v (k - 1)) (λj=>(A j).v (k+1)) l j c) q:=zk λc S=>by rw[M i c X S]
    rw[K,x];show qj _ _ _ _%p=_;rw[zV X];show(if ki k (A j)=cL then (A j).v (k - 1) i else 0)%p=(if (A j).has (k - 1)=cL then oy k (A j) (k - 1)*(A j).v (k - 1) i%p else 0)%p;rw[aT o.n1 R];have:oy k (A j) (k - 1)=1:=DJ ⋯;rw[this,UA];split
    ·exact(Pc _ _).symm
    ·rfl
   ·by_cases W:a=k
    ·subst W
     obtain⟨_,u,M⟩:=E.er Q;have d:jX w' a=a:=by unfold jX;rw[u];rfl
     have f:qa w' a=a+1:=by unfold qa;rw[u];rfl
     rw[d,F I]at G;rw[f,E.xg _ ⋯]at b;have as:i<wr:=by rw[E.Dq,DZ Q];exact b
     rw[d,f,J,E.zt,Y I ⋯,C ⋯];have x:=FJ L E.hb E.hs I G (i:=wl+i) ⋯;have K:app (T' a) q (Bc p wl (λj=>ki a<|A j) (λj=>Zx a<|A j) (λj=>(A j).v (a - 1)) (λj=>(A j).v (a+1)) l j) i=zf (λc=>B c (wl+i)*Bc p wl (λj=>ki a<|A j) (λj=>Zx a<|A j) (λj=>(A j).v (a - 1)) (λj=>(A j).v (a+1)) l j c) q:=zk λc S=>by rw[M i c as S]
     rw[K,x];show qj _ _ _ _%p=_;rw[z7];show(if (A j).has (a+1)=cL then u9 (λj=>ki a<|A j) j*(A j).v (a+1) i else 0)%p=(if (A j).has (a+1)=cL then oy a (A j) (a+1)*(A j).v (a+1) i%p else 0)%p;cases O:(A j).has (a+1)with
     | false=>simp
     | true=>
      simp only[if_true];rw[Pc];have O:=l9.mp O;have:u9 (λj=>ki a<|A j) j=oy a (A j) (a+1):=by
       unfold u9 oy ki;simp only[Oo,decide_eq_true_eq];by_cases z:(A j).s<a
       ·rw[DZ ⟨z,by omega⟩,DZ ⟨z,by omega⟩]
       ·rw[DJ (λh=>z h.1),DJ (λh=>z h.1)]
      rw[this]
    ·
     obtain⟨u,M⟩:=E.j3 a Q W a1;have d:jX w' a=jX w a:=by unfold jX;rw[u]
     have f:qa w' a=qa w a:=by unfold qa;rw[u]
     have g:jX w a≠k/\qa w a≠k/\(k<jX w a↔k<qa w a):=by unfold jX qa;cases w a<;>simp<;>omega
     rw[d,Y I g.1]at G;rw[f,E.xg _ g.2.1]at b;rw[d,f,E.xg _ g.1,Y I g.2.1,C g.1,C g.2.1];have x:app (T' a) (wd<|jX w a) (λi=>oy k (A j) (jX w a)*(A j).v (jX w a) i%p) i%p=oy k (A j) (jX w a)*app (T a) (wd<|jX w a) ((A j).v (jX w a)) i%p:=by unfold app;rw[<- zZ];refine zy λc _=>?_;rw[M,qw,RW]
     have K:oy k (A j) (jX w a)=oy k (A j) (qa w a):=by
      unfold oy;by_cases z:(A j).s<k/\k<jX w a
      ·rw[DZ z,DZ ⟨z.1,g.2.2.mp z.2⟩]
      ·rw[DJ z,DJ λy=>z ⟨y.1,g.2.2.mpr y.2⟩]
     rw[x,xZ rfl<|o.arr a Q G i b,K];split
     ·rw[Pc]
     ·simp
 ·have:(A j).s=k/\(A j).n=1:=by simpa[vi]using U
  rw[<- Bool.not_eq_true,l9];show ¬(hA k (A j).s<=r/\r<hA k (A j).s+(hA k ((A j).s+(A j).n) - hA k (A j).s));rw[this.1,this.2];unfold hA;simp
 ·by_cases z:r=k
  ·subst z
   obtain⟨t,H⟩:=Lg L E.hb E.hs v;refine⟨t,λi b=>?_⟩;rw[E.zt]at b;rw[H i b];congr 1;exact zk λj I=>by rw[F I,J]
  ·obtain⟨t,H⟩:=D.sp r O v
   refine⟨λj=>t j*oy k (A j) r,λi b=>?_⟩;rw[E.xg _ z]at b;rw[H i b];refine zy λj I=>?_;rw[Y I z,C z];split
   ·rw[qw,<- PF,PF<|t j,rN,RA]
   ·rfl
 ·by_cases z:r=k
  ·subst z
   rw[F I]at P;refine FK L E.hb E.hs (t:=t) (λi b=>?_) j I P;refine Se (congrArg (· % p)<|zk λj I=>?_) (H i<|by rw[E.zt];exact b);rw[F I,J]
  ·rw[Y I z]at P
   have:=D.inj r O (λj=>t j*oy k (A j) r) (λi b=>by
    refine Se (zy λj I=>?_) (H i<|by rw[E.xg _ z];exact b);rw[Y I z,C z];split
    ·rw[qw,PF]
    ·rfl) j I P
   have e:t j=t j*oy k (A j) r*oy k (A j) r:=by rw[PF,rN,RA]
   rw[e];exact Kr this
 ·by_cases z:r=k
  ·subst z
   rw[E.zt,<- FM hp L E.hb E.hs];congr 1;exact SR λj I=>F<|Oj.mp I
  ·rw[E.xg _ z,<- D.cnt r O]
   unfold gi;congr 1;exact SR λj I=>by rw[Y (Oj.mp I) z]
noncomputable def E6(k:Nat)(s:Nat×Nat):Nat×Nat:=(hA k s.1,hA k (s.2+1) - 1)
noncomputable def rq(k:Nat)(K:List (Nat×Nat)):List (Nat×Nat):=(K.filter λs=> !(decide (s.1=k) && decide (s.2=k))).map (E6 k)
theorem pJ(D:h9 p w wd T m N A):xQ (λe=>BO p k wl A l<|((Od N).filter (vi k A)).getD e 0) ((Od N).filter (vi k A)).length=rq k (xQ A N):=by
 have O:((Od N).filter (vi k A))=(Od ((Od N).filter (vi k A)).length).map λe=>((Od N).filter (vi k A)).getD e 0:=(qx 0 _).symm;unfold rq xQ;rw[List.filter_map,Pw];have d:(Od N).filter ((λs:Nat×Nat=> !(decide (s.1=k) && decide (s.2=k)))∘λj=>((A j).s,(A j).s+(A j).n - 1))=(Od N).filter (vi k A):=SR λj Y=>by
  have:=(D.ok j<|Oj.mp Y).n1;show(!(decide ((A j).s=k) && decide ((A j).s+(A j).n - 1=k))) = !(decide ((A j).s=k) && decide ((A j).n=1));congr 1;by_cases z:(A j).s=k
  ·rw[decide_eq_true z,Bool.true_and,Bool.true_and]
   exact decide_eq_decide.mpr ⋯
  ·rw[decide_eq_false z,UP,UP]
 rw[d]
 conv=>rhs;rw[O]
 rw[Pw];refine OB λe I=>?_;have I:=Oj.mp I;have f:((Od N).filter (vi k A)).getD e 0∈(Od N).filter (vi k A):=by rw[Oh,Oe I];exact Sj _
 obtain⟨a,b⟩:=Pn.mp f;simp only[SE];generalize ((Od N).filter (vi k A)).getD e 0=j at a b;have o:=D.ok j<|Oj.mp a;have g:hA k (A j).s<hA k ((A j).s+(A j).n):=rL o.n1 λz=>by simp[vi,z.1,z.2]at b
 have:=o.n1;show(hA k (A j).s,hA k (A j).s+(hA k ((A j).s+(A j).n) - hA k (A j).s) - 1)=(hA k (A j).s,hA k ((A j).s+(A j).n - 1+1) - 1);rw[show(A j).s+(A j).n - 1+1=(A j).s+(A j).n by omega,show hA k (A j).s+(hA k ((A j).s+(A j).n) - hA k (A j).s) - 1=hA k ((A j).s+(A j).n) - 1 by omega]
end
theorem fO:qt=jn 9 (zS (kU 4<|ye zC)<|zS (Jb (xW<|ze 1) (.tp [5,6]) Xe)<|xM<|qe<|zc (ze 0)<|zc (jd<|zq 2)<|zc (jd<|zq 4) zC):=rfl
section
variable{p:Int}{m:Nat}{w:DV}{wd:DK}{T:DQ}
noncomputable def yG(w:DV)(wd:DK)(T:DQ)(m:Nat):List D:=(Od m).map λk=>D.lst<|yt (g9 w wd k) (hD w wd k)<|T k
@[simp] theorem eW(m):(yG w wd T m).length=m:=by simp[yG]
theorem dN(k):qJ (k+1) w wd T=qJ k w wd T++[wH w wd T k]:=by simp[qJ,Rx]
theorem oN(h v:Nat)(f:DW):jh (.nm 0) jO (jd<|zq 0) [Cell.no] (yt h v f)=cI (zW h v f):=by unfold yt zW;refine zD _ _ λy z=>zF rfl rfl ?_;simp
abbrev rc(p:Int)(m:Nat)(w:DV)(wd:DK)(T:DQ)(acc:List D)(c5 c6 c7 c8:Cell):Ctx:=[.val (.int p),.val (.str (qP m w)),.val (.lst (zP (m+1) λk=>(wd k:Int))),.val (.lst (yG w wd T m)),.own acc,c5,c6,c7,c8]
theorem cD(hm:m<=5)(z : ∀k,wd k<=7){k:Nat}(J:k<m)(acc:List D)(ha:acc.length<lim)(L c8:Cell) : ∃I O,Xe (rc p m w wd T acc (.val<|.int k) (.val<|.str<|xc<|f6<|w k) L c8)=cI (.next<|rc p m w wd T (acc++[wH w wd T k]) (.val<|.int k) (.val<|.str<|xc<|f6<|w k) I O):=by
 have l:=jB;have a:=iU w J;have b:=lJ w J;have Y:g9 w wd k<=lim:=by rw[Y2];have:=z<|qa w k;omega
 have e:l5 (m+1) ((qa w k:Nat):Int)=cI (qa w k):=by rw[jJ,DZ a]
 have f:l5 (m+1) ((jX w k:Nat):Int)=cI (jX w k):=by rw[jJ,DZ b]
 have g:l5 m (k:Int)=cI k:=by rw[jJ,DZ J]
 have i:(zP (m+1) λk=>(wd k:Int))[qa w k]? = cI (.int (wd (qa w k):Int)):=xR (n:=m+1) (λk=>(wd k:Int)) a;have j:(zP (m+1) λk=>(wd k:Int))[jX w k]? = cI (.int (wd (jX w k):Int)):=xR (n:=m+1) (λk=>(wd k:Int)) b;have h:(yG w wd T m)[k]? = cI (D.lst<|yt (g9 w wd k) (hD w wd k)<|T k):=by simp[yG,J]
 refine⟨.val<|.int ((jX w k:Nat):Int),.val<|.int ((qa w k:Nat):Int),?_⟩;unfold Xe;rw[jM,BA,yY];simp only[rc,yX,Zo,jW,Oq,kv,zE,Og,OJ,Wd,yf,JR,Ri,Rh];have d:(zR (zO<|zL<|dr (zq 3)<|ze 5) (.nm 0) 1 [] jO (jd<|zq 0)) [.val (.int p),.val<|.str<|qP m w,.val<|.lst<|zP (m+1) λk=>(wd k:Int),.val<|.lst<|yG w wd T m,.own acc,.val<|.int k,.val<|.str<|xc<|f6<|w k,.val<|.int ((jX w k:Nat):Int),.val (.int ((qa w k:Nat):Int))]=cI (zW (g9 w wd k) (hD w wd k)<|T k):=by simp only[kM,kB,xp,vG,qu,jW,Oq,kv,zE,zY,vq,Og,OJ,jN,eW,g,h,Zf,Y,if_true];exact oN _ _ _
 simp only[Vr,Gb,yX,Zo,jW,vG,qu,dP,Wu,d,Oq,kv,zE,zY,vF,vq,Og,OJ,jN,yo,e,f,i,j,OK,RL,ha,if_true];rw[<- Y2 w wd k,<- K6 w wd k];rfl
theorem QO(J:m<=5)(Y : ∀k,wd k<=7):qt [.int p,.str<|qP m w,.lst<|zP (m+1) λk=>(wd k:Int),.lst (yG w wd T m)]=cI (.val<|qB p m w wd T):=by
 have E:=jB;have y:=va w (show m<=1000 by omega);have g : ∀(k s:Nat) (d f a b:Cell),s+k=m->∃i j l n,qU (.tp [5,6]) Xe ((Tn s k).map λ(k:Nat)=>D.tup [.int k,.str (xc<|f6<|w k)]) (rc p m w wd T (qJ s w wd T) d f a b)=cI (.next<|rc p m w wd T (qJ m w wd T) i j l n):=by
  intro k
  induction k with
  | zero=>
   intro s d f a b h;obtain rfl:s=m:=by omega
   exact⟨d,f,a,b,rfl⟩
  | succ k A=>
   intro s d f a b h;obtain⟨z,I,e⟩:=cD (p:=p) (w:=w) (T:=T) J Y (show s<m by omega) (qJ s w wd T) (by simp;omega) a b;obtain⟨o,r,t,u,O⟩:=A (s+1) (.val<|.int s) (.val<|.str<|xc<|f6<|w s) z I ⋯;refine⟨o,r,t,u,?_⟩;rw[Sh,OH,jz];show((Xe<|rc p m w wd T _ (.val<|.int s) (.val<|.str<|xc<|f6<|w s) a b).bind _)=_;rw[e];rw[dN]at O;exact O
 obtain⟨B,C,z,I,e⟩:=g m 0 .no .no .no .no ⋯;rw[<- A6]at e;rw[fO];unfold jn;rw[jM];show(zS _ _<|rc p m w wd T [] .no .no .no .no).bind _=_;rw[jM,JV,JW];simp only[rc,jW,Oq,kv,zE,Og,y,if_true,w6];have x:qJ 0 w wd T=[]:=rfl;simp only[rc,x]at e;rw[e];simp;rfl
end
noncomputable def u1:=(jE 1<|zJ ja<|zc (ze 0)<|zc (zx<|.int 0) zC)
noncomputable def u2:=(jE 2<|dr (jR<|ye<|zc (zx<|.int 2)<|zc (zx<|.int 3)<|zc (zx<|.int 5)<|zc (zx<|.int 7) zC)<|zw kj (ze 1)<|zx<|.int 4)
noncomputable def u3:=(uo (.tp [3,4])<|dr (jR<|ye<|zc (qe<|zc (zx<|.int 4)<|zc (zx<|.int 2) zC)<|zc (qe<|zc (zx<|.int 3)<|zc (zx<|.int 2) zC)<|zc (qe<|zc (zx<|.int 2)<|zc (zx<|.int 2) zC)<|zc (qe<|zc (zx<|.int 2)<|zc (zx<|.int 2) zC)<|zc (qe<|zc (zx<|.int 6)<|zc (zx<|.int 1) zC)<|zc (qe<|zc (zx<|.int 5)<|zc (zx<|.int 1) zC)<|zc (qe<|zc (zx<|.int 4)<|zc (zx<|.int 1) zC)<|zc (qe<|zc (zx<|.int 3)<|zc (zx<|.int 1) zC) zC)<|zw kj (ze 1)<|zx<|.int 8)
theorem YS{c:Int}{n:Nat}(I:0<n) : ∃a:Nat,c%(n:Int)=a/\a<n:=by obtain⟨a,b⟩:=RB (Pb c<|show(n:Int)≠0 by omega);have:=OQ c (show(0:Int)<n by omega);exact⟨a,b,by omega⟩
theorem Ef{c:Int}(h:0<=c) : ∃q:Nat,Pr (q:Int)/\([D.int 2,.int 3,.int 5,.int 7])[(c%4).toNat]? = cI (.int q)/\l5 4 (c%4)=cI (c%4).toNat:=by
 have a:=Pb c (show(4:Int)≠0 by decide);have b:=OQ c (show(0:Int)<4 by decide);obtain⟨r,z⟩:=RB a;rw[z];have I:r<4:=by omega
 rw[jJ,DZ I,Pq];rcases (by omega:r=0\/r=1\/r=2\/r=3)with e | e | e | e<;>subst e
 ·exact⟨2,.inl rfl,rfl,rfl⟩
 ·exact⟨3,.inr<|.inl rfl,rfl,rfl⟩
 ·exact⟨5,.inr<|.inr<|.inl rfl,rfl,rfl⟩
 ·exact⟨7,.inr<|.inr<|.inr rfl,rfl,rfl⟩
section
variable{p:Int}{w:DV}{wd:DK}{T:DQ}{m N:Nat}{A:Nat->gv}
theorem cX(z:Pr p)(I : ∀k,wd k<=7)(O : ∀k x y,0<=T k x y/\T k x y<p)(J:m<=5)(D:h9 p w wd T m N A):k7 [qB p m w wd T]=cI (.val<|K0 (λs=>(mm (xQ A N) s:Int))<|m+1):=by
 rw[cY J (λs=>(i3 (xQ A N) s.1 s.2:Int)) λs a=>by have:=wq.mp a;exact pj z I O ⋯ D this.1 ⋯]
 congr 2;unfold K0;congr 1;exact OB λs a=>by rw[EH D (wq.mp a).1]
theorem KG(D:h9 p w wd T m N A)(I:k<=m):i3 (xQ A N) k k=wd k:=by rw[<- sP D (Ou k),<- D.cnt k I];unfold n5 gi;congr 1;exact SR λj _=>by simp
end
section
variable{p:Int}{w:DV}{wd:DK}{T:DQ}{m N:Nat}{A:Nat->gv}
noncomputable def We(A:Nat->gv)(N:Nat)(g:DQ)(j:Nat):gv:=⟨(A j).s,(A j).n,λr i=>g r ((gi A N r).idxOf j) i⟩
theorem pM(g:DQ)(r:Nat):gi (We A N g) N r=gi A N r:=rfl
theorem Vb(g:DQ):xQ (We A N g) N=xQ A N:=rfl
theorem Ck(D:h9 p w wd T m N A){r:Nat}(z:r<=m)(v:Vc) : ∃t,∀i,i<wd r->v i%p=app (xI A N r) (wd r) t i%p:=by obtain⟨t,I⟩:=D.sp r z v;refine⟨λk=>t<|(gi A N r).getD k 0,λi a=>?_⟩;rw[I i a,V2,D.cnt r z]
theorem Vd(hp:Pr p)(ac : ∀k,wd k<=8)(D:h9 p w wd T m N A) : ∃g,h9 p (λk=> !w k) wd (λk i j=>T k j i) m N (We A N g):=by
 have p0:=hp.pos;have Z : ∀r,∃g:DW,r<=m->Hm p (wd r) (xI A N r) g/\Hm p (wd r) g (xI A N r)/\∀i j,0<=g i j/\g i j<p:=λr=>by
  by_cases Y:r<=m
  ·obtain⟨g,h⟩:=K9 hp (ac r) (Ck D Y)
   exact⟨g,λ_=>h⟩
  ·exact⟨λ_ _=>0,λz=>absurd z Y⟩
 obtain⟨g,B⟩:=Uh Z;have pos : ∀{r l:Nat},l<(gi A N r).length->(gi A N r).idxOf ((gi A N r).getD l 0)=l:=λ{r l} O=>by rw[Oh,Oe O,Sd,(vZ A N r).idxOf_getElem _ O]
 have bF : ∀{r:Nat},r<=m->∀i l,l<wd r->xI (We A N g) N r i l=g r l i:=λ{r} Y i l O=>by show g r ((gi A N r).idxOf ((gi A N r).getD l 0)) i=_;rw[pos (by rw[D.cnt r Y];exact O)]
 refine⟨g,AZ hp ac (λj M=>?_) (λr Y=>by rw[pM];exact D.cnt r Y) λr Y v=>?_⟩
 ·have o:=D.ok j M
  refine⟨o.n1,o.le,λr i Y a=>?_,λk hk t x P=>?_⟩
  ·have b9:r<=m:=by have:=(l9.mp Y).2;have:r<(A j).s+(A j).n:=this;have:=o.le;omega
   exact(B r b9).2.2 _ _
  ·have S:jX (λk=> !w k) k=qa w k:=by unfold jX qa;cases h:w k<;>simp[h]
   have U:qa (λk=> !w k) k=jX w k:=by unfold jX qa;cases h:w k<;>simp[h]
   have d:jX w k<=m:=by unfold jX;split<;>omega
   have C:qa w k<=m:=by unfold qa;split<;>omega
   rw[S]at t;rw[U]at P;rw[S,U];have t:(A j).has (qa w k)=cL:=t;generalize am:jX w k=b at *;generalize an:qa w k=e at *;show zf (λi=>T k i x*g e ((gi A N e).idxOf j) i) (wd e)%p=(if (A j).has b=cL then g b ((gi A N b).idxOf j) x else 0)%p;obtain⟨I,E,F⟩:=aP M t;have bb:(gi A N e).idxOf j=I:=by rw[<- F];exact pos E
   rw[bb];have bd:I<wd e:=by rw[<- D.cnt e C];exact E
   have on : ∀l,l<wd b->zf (λy=>zf (λi=>T k i y*g e I i) (wd e)*xI A N b y l) (wd b)%p=(if (gi A N b).getD l 0=j then 1 else 0)%p:=λl O=>by
    have bg:l<(gi A N b).length:=by rw[D.cnt b d];exact O
    obtain⟨W,h2⟩:=iw bg;have K:zf (λy=>zf (λi=>T k i y*g e I i) (wd e)*xI A N b y l) (wd b)=zf (λi=>g e I i*app (T k) (wd b) ((A<|(gi A N b).getD l 0).v b) i) (wd e):=by
     have:zf (λy=>zf (λi=>T k i y*g e I i) (wd e)*xI A N b y l) (wd b)=zf (λy=>zf (λi=>g e I i*(T k i y*xI A N b y l))<|wd e) (wd b):=zk λy _=>by rw[<- jG];exact zk λi _=>by rw[Rf (T k i y),PF]
     rw[this,jZ];exact zk λi _=>by rw[zZ];rfl
    rw[K];have ar : ∀i,i<wd e->app (T k) (wd b) ((A<|(gi A N b).getD l 0).v b) i%p=(if (A<|(gi A N b).getD l 0).has e=cL then (A<|(gi A N b).getD l 0).v e i else 0)%p:=λi a=>by have:=(D.ok _ W).arr k hk (by rw[am];exact h2) i (by rw[an];exact a);rw[am,an]at this;exact this
    have L:zf (λi=>g e I i*app (T k) (wd b) ((A<|(gi A N b).getD l 0).v b) i) (wd e)%p=zf (λi=>g e I i*(if (A<|(gi A N b).getD l 0).has e=cL then (A<|(gi A N b).getD l 0).v e i else 0)) (wd e)%p:=zy λi a=>xZ rfl<|ar i a;rw[L];cases hh:(A<|(gi A N b).getD l 0).has e with
    | false=>
     have:(gi A N b).getD l 0≠j:=λz=>by rw[z,t]at hh;cases hh
     rw[DJ this];simp[zz]
    | true=>
     obtain⟨le,R,G⟩:=aP W hh;have u:=(B e C).2.1 I le bd (by rw[<- D.cnt e C];exact R);have e3:zf (λi=>g e I i*xI A N e i le) (wd e)=zf (λi=>g e I i*(if cL=cL then (A<|(gi A N b).getD l 0).v e i else 0)) (wd e):=zk λi _=>by rw[DZ rfl];show _*(A<|(gi A N e).getD le 0).v e i=_;rw[G]
     rw[<- e3,u];unfold vv;by_cases q:I=le
     ·rw[DZ q,DZ (by rw[<- G,<- q,F])]
     ·rw[DJ q,DJ λz=>q (by
       have:(gi A N e).getD le 0=(gi A N e).getD I 0:=by rw[G,F,z]
       exact(wV (vZ A N e) R E this).symm)]
   have e4:zf (λi=>T k i x*g e I i) (wd e)%p=zf (λl=>(if (gi A N b).getD l 0=j then 1 else 0)*g b l x) (wd b)%p:=by
    have s1:zf (λl=>(if (gi A N b).getD l 0=j then 1 else 0)*g b l x) (wd b)%p=zf (λl=>zf (λy=>zf (λi=>T k i y*g e I i) (wd e)*xI A N b y l) (wd b)*g b l x) (wd b)%p:=zy λl O=>xZ (on l O).symm rfl;rw[s1];have s2:zf (λl=>zf (λy=>zf (λi=>T k i y*g e I i) (wd e)*xI A N b y l) (wd b)*g b l x) (wd b)=zf (λy=>zf (λi=>T k i y*g e I i) (wd e)*zf (λl=>xI A N b y l*g b l x) (wd b)) (wd b):=by
     have:zf (λl=>zf (λy=>zf (λi=>T k i y*g e I i) (wd e)*xI A N b y l) (wd b)*g b l x) (wd b)=zf (λl=>zf (λy=>zf (λi=>T k i y*g e I i) (wd e)*(xI A N b y l*g b l x))<|wd b) (wd b):=zk λl _=>by rw[<- jG];exact zk λy _=>by rw[PF]
     rw[this,jZ];exact zk λy _=>zZ ..
    rw[s2];have s3:zf (λy=>zf (λi=>T k i y*g e I i) (wd e)*zf (λl=>xI A N b y l*g b l x) (wd b)) (wd b)%p=zf (λy=>zf (λi=>T k i y*g e I i) (wd e)*vv y x) (wd b)%p:=zy λy Q=>xZ rfl<|(B b d).1 y x Q P;rw[s3,zK (i:=x) P λy _ f=>by unfold vv;rw[DJ f];simp];unfold vv;rw[DZ rfl,RA]
   rw[e4];cases hh:(A j).has b with
   | false=>
    have:zf (λl=>(if (gi A N b).getD l 0=j then 1 else 0)*g b l x) (wd b)=zf (λ_=>0) (wd b):=zk λl O=>by
     rw[DJ λz=>by have:=(iw (A:=A) (N:=N) (r:=b) (j:=l)<|by rw[D.cnt b d];exact O).2;rw[z,hh]at this;cases this]
     simp
    rw[this,zz];rfl
   | true=>
    obtain⟨X,H,J⟩:=aP M hh;have bv:(gi A N b).idxOf j=X:=by rw[<- J];exact pos H
    rw[DZ rfl,bv,zK (i:=X) (by rw[<- D.cnt b d];exact H) λl O f=>by rw[DJ λz=>f (wV (vZ A N b) (by rw[D.cnt b d];exact O) H<|by rw[z,J])];simp,DZ J,UA]
 ·refine⟨λl=>zf (λy=>v y*xI A N r y l)<|wd r,λi a=>?_⟩
  unfold app;have K:zf (λl=>xI (We A N g) N r i l*zf (λy=>v y*xI A N r y l) (wd r)) (wd r)=zf (λy=>v y*zf (λl=>xI A N r y l*g r l i) (wd r)) (wd r):=by
   have:zf (λl=>xI (We A N g) N r i l*zf (λy=>v y*xI A N r y l) (wd r)) (wd r)=zf (λl=>zf (λy=>v y*(xI A N r y l*g r l i))<|wd r) (wd r):=zk λl O=>by rw[bF Y i l O,Rf,<- jG];exact zk λy _=>by rw[PF]
   rw[this,jZ];exact zk λy _=>zZ ..
  rw[K];have L:zf (λy=>v y*zf (λl=>xI A N r y l*g r l i) (wd r)) (wd r)%p=zf (λy=>v y*vv y i) (wd r)%p:=zy λy Q=>xZ rfl<|(B r Y).1 y i Q a;rw[L,zK (i:=i) a λy _ f=>by unfold vv;rw[DJ f];simp];unfold vv;rw[DZ rfl,RA]
end
section
variable{p:Int}{n r q:Nat}{Bs:Nat->Vc}{ls:DK}
noncomputable def J5(r:Nat)(Bs:Nat->Vc)(ls:DK)(v:Vc):Vc:=λx=>v x - zf (λj=>v (ls j)*Bs j x) r
noncomputable def aS(r:Nat)(ls:DK)(i:Nat):Bool:=(Od r).any λj=>ls j==i
theorem G4{i:Nat}:aS r ls i=cL ↔ ∃j,j<r/\ls j=i:=by simp[aS]
noncomputable def il(n r:Nat)(ls:DK):List Nat:=(Od n).filter λi=> !aS r ls i
noncomputable def B7(p:Int)(n r:Nat)(Bs:Nat->Vc)(ls:DK)(c:Nat):Vc:=λi=>J5 r Bs ls (jH i) ((il n r ls).getD c 0)%p
theorem KB{c:Nat}(h:c<(il n r ls).length):(il n r ls).getD c 0<n/\aS r ls ((il n r ls).getD c 0)=dd:=by
 have d:(il n r ls).getD c 0∈il n r ls:=by rw[Oh,Oe h];exact Sj _
 obtain⟨a,b⟩:=Pn.mp d;exact⟨Oj.mp a,by simpa using b⟩
theorem aK{i x:Nat}(h:aS r ls i=dd):J5 r Bs ls (jH i) x=jH i x:=by
 unfold J5;rw[zk (g:=λ_=>0) λj I=>by
  have:i≠ls j:=λz=>by rw[G4.mpr ⟨j,I,z.symm⟩]at h;cases h
  show(if i=ls j then (1:Int)else 0)*_=0;rw[DJ this];simp,zz]
 omega
theorem EW(O:Pr p):WB n (il n r ls).length (B7 p n r Bs ls) λc=>(il n r ls).getD c 0:=by
 have b:(il n r ls).Nodup:=Tj.sublist Sa;refine⟨λc I=>(KB I).1,λc I=>?_,λc d I a Y=>?_⟩
 ·show J5 r Bs ls (jH _) _%p=1
  rw[aK (KB I).2];show(if _=_ then (1:Int)else 0)%p=1;rw[DZ rfl,O.one]
 ·show J5 r Bs ls (jH _) _%p=0
  rw[aK (KB a).2];show(if _=_ then (1:Int)else 0)%p=0;rw[DJ λz=>Y (wV b a I z)];simp
theorem AC(v:Vc){x:Nat}(hx:x<n)(I : ∀j,j<r->ls j<n):zf (λi=>v i*J5 r Bs ls (jH i) x) n=J5 r Bs ls v x:=by
 unfold J5;have a:zf (λi=>v i*(jH i x - zf (λj=>jH i (ls j)*Bs j x) r)) n=zf (λi=>v i*jH i x+zf (λj=>v i*(jH i (ls j)*Bs j x)) r * -1) n:=zk λi _=>by rw[zZ,Int.mul_sub];omega
 rw[a,z9,jG,jZ];have b:zf (λi=>v i*jH i x) n=v x:=by rw[zK (i:=x) hx λi _ z=>by show _*(if _=_ then (1:Int)else 0)=0;rw[DJ z];simp];show _*(if _=_ then (1:Int)else 0)=_;rw[DZ rfl,RA]
 have O:zf (λj=>zf (λi=>v i*(jH i (ls j)*Bs j x)) n) r=zf (λj=>v (ls j)*Bs j x) r:=zk λj Y=>by rw[zK (i:=ls j) (I j Y) λi _ z=>by show _*((if _=_ then (1:Int)else 0)*_)=0;rw[DJ z];simp];show _*((if _=_ then (1:Int)else 0)*_)=_;rw[DZ rfl,UA]
 rw[b,O];omega
theorem oU(J:WB n r Bs ls){j:Nat}(z:j<r)(x:Nat):J5 r Bs ls (Bs j) x=0:=by unfold J5;rw[zK (i:=j) z λi a I=>by rw[J.j3 j i z a I];simp,J.one j z];omega
theorem oT(J:WB n r Bs ls){v:Vc}{j:Nat}(z:j<r):J5 r Bs ls v (ls j)=0:=by unfold J5;rw[zK (i:=j) z λi a I=>by rw[J.j3 i j a z (PH I)];simp,J.one j z];omega
theorem oV(J:WB n r Bs ls)(z:Vc):Span p n (ec (il n r ls).length (B7 p n r Bs ls)) z ↔ ∀j,j<r->zf (λi=>z i*Bs j i) n%p=0:=by
 constructor
 ·intro h j I
  obtain⟨t,O⟩:=yH h;have a:zf (λi=>z i*Bs j i) n%p=zf (λi=>zf (λc=>t c*(Bs j i*J5 r Bs ls (jH i) ((il n r ls).getD c 0))) (il n r ls).length) n%p:=zy λi d=>by rw[Om,O i d,<- Om,<- jG];refine zy λc _=>?_;show t c*(_%p)*_%p=_;rw[PF,Rf<|_%p,<- PF,qw,PF]
  rw[a,jZ];have b:zf (λc=>zf (λi=>t c*(Bs j i*J5 r Bs ls (jH i) ((il n r ls).getD c 0))) n) (il n r ls).length=zf (λ_=>0) (il n r ls).length:=zk λc Y=>by rw[zZ,AC (Bs j) (KB Y).1 J.lt,oU J I,Sn]
  rw[b,zz];simp
 ·intro h
  have o:=λg=>xf (λi=> !aS r ls i) g n;refine(yc (p:=p) (n:=n) (m:=(il n r ls).length) (B7 p n r Bs ls) λc=>z<|(il n r ls).getD c 0).congr λi d=>?_;have f:zf (λc=>z ((il n r ls).getD c 0)*B7 p n r Bs ls c i) (il n r ls).length%p=zf (λc=>z ((il n r ls).getD c 0)*J5 r Bs ls (jH i) ((il n r ls).getD c 0)) (il n r ls).length%p:=zy λc _=>by show _*(_%p)%p=_;rw[qw]
  have a:zf (λc=>z ((il n r ls).getD c 0)*J5 r Bs ls (jH i) ((il n r ls).getD c 0)) (il n r ls).length=zf (λx=>if (!aS r ls x)=cL then z x*J5 r Bs ls (jH i) x else 0) n:=o λx=>z x*J5 r Bs ls (jH i) x;have b:zf (λx=>if (!aS r ls x)=cL then z x*J5 r Bs ls (jH i) x else 0) n=zf (λx=>z x*J5 r Bs ls (jH i) x) n:=zk λx _=>by
   cases hx:aS r ls x with
   | false=>simp
   | true=>
    obtain⟨j,I,rfl⟩:=G4.mp hx;rw[oT J I];simp
  have k:zf (λx=>z x*J5 r Bs ls (jH i) x) n=z i+zf (λj=>jH i (ls j)*zf (λx=>z x*Bs j x) n) r * -1:=by
   unfold J5;have:zf (λx=>z x*(jH i x - zf (λj=>jH i (ls j)*Bs j x) r)) n=zf (λx=>z x*jH i x+zf (λj=>jH i (ls j)*(z x*Bs j x)) r * -1) n:=zk λx _=>by
    have:zf (λj=>jH i (ls j)*(z x*Bs j x)) r=z x*zf (λj=>jH i (ls j)*Bs j x) r:=by rw[<- zZ];exact zk λj _=>by rw[RW]
    rw[this,Int.mul_sub];omega
   rw[this,z9,jG,jZ];congr 1
   ·rw[zK (i:=i) d λx _ e=>by show _*(if _=_ then (1:Int)else 0)=0;rw[DJ (PH e)];simp]
    show _*(if _=_ then (1:Int)else 0)=_;rw[DZ rfl,RA]
   ·congr 1
    exact zk λj _=>zZ _ _ _
  rw[f,a,b,k];have l:zf (λj=>jH i (ls j)*zf (λx=>z x*Bs j x) n) r%p=0:=by rw[zy (g:=λ_=>0) λj I=>by rw[Om,h j I];simp,zz];simp
  rw[OE,Om,l];simp
end
section
variable{p:Int}{w w':DV}{wd kb:DK}{T T':DQ}{m N k q wl wr:Nat}{A:Nat->gv}{B:Nat->Vc}{l:DK}
structure N6(p:Int)(w w':DV)(wd kb:DK)(T T':DQ)(m k q wl wr:Nat)(B:Nat->Vc)(l:DK):Prop where
 km:k<=m
 Dp:wl=if 0<k then wd (k - 1)else 0
 Dq:wr=if k<m then wd (k+1)else 0
 el:0<k->w (k - 1)=cL/\w' (k - 1)=dd/\∀c i,c<q->i<wl->T' (k - 1) c i=B c i
 er:k<m->w k=dd/\w' k=cL/\∀c i,c<q->i<wr->T' k c i=B c (wl+i)
 j3 : ∀j,j<m->j≠k->j+1≠k->w' j=w j/\∀i c,T' j i c=T j i c
 zt:kb k=q
 xg : ∀r,r≠k->kb r=wd r
 hb:WB (wl+wr) q B l
 hs : ∀z,Span p (wl+wr) (ec q B) z↔sY p wl wr (wd k) (λi c=>T (k - 1) c i) (λi c=>T k c i) z
theorem N6._X(E:N6 p w w' wd kb T T' m k q wl wr B l):L7 p (λk=> !w k) (λk=> !w' k) wd kb (λk i j=>T k j i) (λk i j=>T' k j i) m k q wl wr B l where
 km:=E.km
 Dp:=E.Dp
 Dq:=E.Dq
 el:=λh=>by obtain⟨h1,h2,z⟩:=E.el h;exact⟨by simp[h1],by simp[h2],λi c hi I=>z c i I hi⟩
 er:=λh=>by obtain⟨h1,h2,z⟩:=E.er h;exact⟨by simp[h1],by simp[h2],λi c hi I=>z c i I hi⟩
 j3:=λj h1 h2 z=>by obtain⟨O,g2⟩:=E.j3 j h1 h2 z;exact⟨by simp[O],λi c=>g2 c i⟩
 zt:=E.zt
 xg:=E.xg
 hb:=E.hb
 hs:=E.hs
end
noncomputable def L_:=(kU 3<|ye zC)
noncomputable def R1:=(Jb (zO<|zL<|xh<|jU qm<|zc (zJ x9<|zc (ze 0) zC)<|zc (ze 1) zC) (.nm 4)<|zS (jE 5<|dr (zL<|dr (zL<|dr (zq 0)<|zx<|.int 2)<|ze 4)<|zx<|.int 1)<|nA 3<|zL<|VE (sB<|ze 2) (dr (zL<|zJ ju<|zc (ze 5) zC)<|zx<|.int 2)<|dr (zq 5)<|zx<|.int 2)
noncomputable def M':=(xM<|jd<|zq 3)
noncomputable def yu:=jn 6<|zS L_<|zS R1 M'
noncomputable def R8:=(xM<|zJ wD<|zc (dr (zq 1)<|zx<|.int 0)<|zc (xh<|jU ZL<|zc (ze 0)<|zc (zJ ju<|zc (ze 1) zC) zC) zC)
noncomputable def qA:=jn 2 R8
noncomputable def _b:=(jE 3<|ze 2)
noncomputable def M6:=(Jb (zO<|zL<|ze 1) (.nm 4)<|jE 3<|zJ j5<|zc (ze 0)<|zc (ze 3)<|zc (ze 4)<|zc (zJ xB<|zc (ze 4) zC) zC)
noncomputable def X2:=(jE 5<|xh<|zR (zO<|zq 1) (.nm 0) 1 [] jO (zJ xB<|zc (ze 0) zC))
noncomputable def a_:=(xM<|jd<|jR<|zR (cC<|ze 3) (.tp [0,1]) 2 [5] (sB<|VD (ze 0)<|zq 2) (ze 1))
noncomputable def qh:=jn 6<|zS _b<|zS M6<|zS X2 a_
noncomputable def R5:=(jE 2<|xh<|jU KU<|zc (ze 0)<|zc (ze 1) zC)
noncomputable def R6:=(jE 3<|xh<|zR (zO<|zL<|dr (zL<|zJ j7<|zc (dr (zq 1)<|zx<|.int 0) zC)<|zx<|.int 2) (.nm 0) 1 [0,2] jO (zJ qh<|zc (ze 1)<|zc (ze 2)<|zc (ze 0) zC))
noncomputable def R7:=(xM<|qe<|zc (dr (zq 1)<|zx<|.int 0)<|zc (zw vg (dr (zq 1)<|zx<|.int 0)<|wG<|zq 2)<|zc (jd<|zq 3) zC)
noncomputable def jC:=jn 4<|zS R5<|zS R6 R7
noncomputable def O2:=(jE 4<|qe<|zc (wG<|zq 2)<|zc (ze 1)<|zc (ze 2) zC)
noncomputable def O3:=(xM<|qe<|zc (zJ kc<|zc (ze 0) zC)<|zc (VE (sB<|ze 3) (ze 4)<|zJ ju<|zc (ze 4) zC) zC)
noncomputable def qW:=jn 5<|zS O2 O3
noncomputable def L8:=(jE 4<|VE (sB<|zw p3 (ze 1)<|zx<|.int 0) (dr (zL<|dr (zq 0)<|zx<|.int 1)<|zw vg (ze 1)<|zx<|.int 1)<|zx<|.int 0)
noncomputable def O0:=(jE 5<|Ia (zw vg (ze 1)<|zx<|.int 1) (VC (dr (zq 2)<|zx<|.int 2) W1<|o6<|ze 4) (ze 1)<|VC (dr (zq 2)<|zx<|.int 2) (o6<|ze 4) W1)
noncomputable def w_:=(kU 6<|ye zC)
noncomputable def O1:=(Jb (cC<|dr (zq 0)<|zx<|.int 2) (.tp [7,8])<|jS 6<|VE (sB<|BH (ze 7)<|ze 5) (zJ qW<|zc (dr (zq 8)<|zx<|.int 0)<|zc (dr (zq 2)<|zx<|.int 1)<|zc (Cu (ze 5)<|ze 7)<|zc (ze 3) zC)<|ze 8)
noncomputable def x':=(xM<|jd<|zq 6)
noncomputable def xw:=jn 9<|zS L8<|zS O0<|zS w_<|zS O1 x'
noncomputable def U2:=(jE 2<|zJ x9<|zc (ze 0) zC)
noncomputable def U3:=(nB<|zJ k9<|zc (ze 2)<|zc (ze 1) zC)
noncomputable def U4:=(jE 3<|zJ vh<|zc (ze 2)<|zc (ze 1) zC)
noncomputable def U5:=(jE 4<|zJ yu<|zc (ze 0)<|zc (ze 1)<|zc (ze 3) zC)
noncomputable def U6:=(jE 5<|qe<|zc (wG<|zq 4)<|zc (dr (zL<|dr (zq 0)<|zx<|.int 1)<|ze 1)<|zc (ze 4) zC)
noncomputable def U7:=(jE 6<|VE (sB<|ze 3) (zJ qA<|zc (dr (zq 0)<|zx<|.int 0)<|zc (ze 5) zC)<|zJ jC<|zc (dr (zq 0)<|zx<|.int 0)<|zc (ze 5) zC)
noncomputable def U8:=(jE 7<|zw qg (zw qg (VC (dr (zq 0)<|zx<|.int 1) W1<|o6<|ze 1)<|qe<|zc (dr (zq 6)<|zx<|.int 1) zC)<|VC (dr (zq 0)<|zx<|.int 1) (o6<|zw qg (ze 1)<|zx<|.int 1) W1)
noncomputable def U9:=(nB<|zJ xv<|zc (ze 7) zC)
noncomputable def WD:=(xM<|qe<|zc (dr (zq 0)<|zx<|.int 0)<|zc (ze 7)<|zc (zJ xw<|zc (ze 0)<|zc (ze 1)<|zc (ze 6)<|zc (ze 3) zC) zC)
noncomputable def qi:=jn 8<|zS U2<|zS U3<|zS U4<|zS U5<|zS U6<|zS U7<|zS U8<|zS U9 WD
theorem iN{T:Tg}{F:CO Fl}{g:Nat->D}(P:Nat->Ctx->Prop)(n:Nat){γ:Ctx}(J:P 0 γ)(step : ∀s,s<n->∀γ,P s γ->∃γ1 z,qz T (g s) γ=cI γ1/\F γ1=cI (.next z)/\P (s+1) z) :
 ∃γ',qU T F ((Od n).map g) γ=cI (.next γ')/\P n γ':=by
 have O : ∀(k s:Nat) (γ:Ctx),s+k=n->P s γ->∃γ',qU T F ((Tn s k).map g) γ=cI (.next γ')/\P n γ':=by
  intro k
  induction k with
  | zero=>
   intro s γ e I;obtain rfl:s=n:=by omega
   exact⟨γ,rfl,I⟩
  | succ k Y=>
   intro s γ e I;obtain⟨γ1,z,a,b,d⟩:=step s ⋯ γ I;obtain⟨γ',f,h⟩:=Y (s+1) z ⋯ d;refine⟨γ',?_,h⟩;rw[Sh,OH,jz,a];simp only[Og,b];exact f
 have:=O n 0 γ ⋯ J;rw[<- A6]at this;exact this
section
variable{p:Int}{m:Nat}{w:DV}{wd kb:DK}{T T' S J X:DQ}
abbrev rx(p:Int)(m:Nat)(w:DV)(wd kb:DK)(T T' X:DQ)(r:Nat)(c6 c7 c8 c9 c10:Cell):Ctx:=
 [.val (.int p),.val<|.str<|qP m w,.val<|oo m w wd T,.val<|oo m w kb T',.val<|.lst<|X' m (hD w kb) (g9 w wd) λk i j=>X k j i,.val<|.int (r:Int),c6,c7,c8,c9,c10]
noncomputable def C2:=(jE 6<|xh<|zR (jI<|dr (zL<|dr (zq 3)<|zx<|.int 0)<|ze 5) (.nm 0) 1 [2,5] jO (xh<|HU (jR<|ye<|zc (zx<|.int 0) zC)<|dr (zL<|dr (zq 1)<|zx<|.int 0)<|ze 2))
end
theorem EV:yu=jn 6 (zS L_<|zS R1 M'):=rfl
theorem BX:qh=jn 6 (zS _b<|zS M6<|zS X2 a_):=rfl
theorem ER:qA=jn 2 R8:=rfl
theorem ES:jC=jn 4 (zS R5<|zS R6 R7):=rfl
theorem FZ:qW=jn 5 (zS O2 O3):=rfl
theorem Gp:xw=jn 9 (zS L8<|zS O0<|zS w_<|zS O1 x'):=rfl
theorem Cf:qi=jn 8 (zS U2<|zS U3<|zS U4<|zS U5<|zS U6<|zS U7<|zS U8<|zS U9 WD):=rfl
noncomputable def mr(m k:Nat):List Nat:=(if 0<k then [k - 1]else [])++if k<m then [k]else []
theorem dO:F1.map (λa=>qm [.str (wl a.1),.int (a.2:Int)])=F1.map λa=>cI (.own<|(mr a.1.length a.2).map λ(i:Nat)=>D.int (i:Int)):=by kernel_rfl
noncomputable def JN(l:List Bool)(k:Nat):Bool:=(k==0 || l[k - 1]? == cI dd) && (k==l.length || l[k]? == cI cL)
theorem dj:F1.map (λa=>vh [.str (wl a.1),.int (a.2:Int)])=F1.map λa=>cI (.val<|.bl<|JN a.1 a.2):=by kernel_rfl
section
variable{p:Int}{w:DV}{wd:DK}{T:DQ}{m k:Nat}
theorem Wq(J:m<=5)(I:k<=m):qm [.str (qP m w),.int (k:Int)]=cI (.own<|(mr m k).map λ(i:Nat)=>D.int (i:Int)):=by have q:=YV dO (wW (l:=(Od m).map w) (k:=k) (by simpa using J)<|by simpa using I);dsimp only at q;rw[OC,OM]at q;rw[yD];exact q
theorem V4(J:m<=5)(I:k<=m):vh [.str (qP m w),.int (k:Int)]=cI (.val<|.bl<|JN ((Od m).map w) k):=by have q:=YV dj (wW (l:=(Od m).map w) (k:=k) (by simpa using J)<|by simpa using I);rw[yD];exact q
theorem Xz(I:k<=m):JN ((Od m).map w) k=cL↔(0<k->w (k - 1)=dd)/\(k<m->w k=cL):=by
 unfold JN;simp only[OC,OM,Oo,PY,beq_iff_eq,OF];constructor
 ·rintro⟨b,d⟩
  refine⟨λa=>?_,λa=>?_⟩
  ·rcases b with z | z
   ·omega
   ·rw[PD ⋯]at z;simpa using z
  ·rcases d with z | z
   ·omega
   ·rw[PD a]at z;simpa using z
 ·rintro⟨b,d⟩
  refine⟨?_,?_⟩
  ·by_cases a:0<k
   ·right;rw[PD ⋯];simp[b a]
   ·left;omega
  ·by_cases a:k<m
   ·right;rw[PD a];simp[d a]
   ·left;omega
theorem Bo(J:k<=m)(I:Ya ((Od m).map w) k=cL)(O:JN ((Od m).map w) k=dd):(0<k->w (k - 1)=cL)/\(k<m->w k=dd):=by
 have d : ¬((0<k->w (k - 1)=dd)/\(k<m->w k=cL)):=λz=>by rw[(Xz J).mpr z]at O;cases O
 have Y:0<k->k<m->w (k - 1)≠w k:=λb a=>by
  unfold Ya at I;simp only[OC,OM,PY,beq_iff_eq,bne_iff_ne,OF]at I;rcases I with(z | z) | z
  ·omega
  ·omega
  ·rw[PD ⋯,PD a]at z
   intro e;apply z;simp[e]
 refine⟨λb=>?_,λa=>?_⟩
 ·cases e:w (k - 1)with
  | true=>rfl
  | false=>
   exfalso;apply d;refine⟨λ_=>e,λa=>?_⟩;have:=Y b a;rw[e]at this;cases e2:w k with
   | true=>rfl
   | false=>rw[e2]at this;exact absurd rfl this
 ·cases e:w k with
  | false=>rfl
  | true=>
   exfalso;apply d;refine⟨λb=>?_,λ_=>e⟩;have:=Y b a;rw[e]at this;cases e2:w (k - 1)with
   | false=>rfl
   | true=>rw[e2]at this;exact absurd rfl this
noncomputable def ox(e:Bool)(w:DV)(wd:DK)(T:DQ)(a:Nat):List D:=if e=cL then zW (hD w wd a) (g9 w wd a) (λi j=>T a j i)else zW (g9 w wd a) (hD w wd a) (T a)
theorem V6{n:Nat}(z : ∀k,wd k<=n)(a:Nat):g9 w wd a<=n/\hD w wd a<=n:=by unfold g9 hD;constructor<;>(split<;>exact z _)
theorem AB{n:Nat}(z : ∀k,wd k<=n)(e:Bool)(a:Nat):(ox e w wd T a).length<=n:=by
 unfold ox;cases e
 ·rw[DJ ⋯,KD];exact(V6 z a).1
 ·rw[DZ rfl,KD];exact(V6 z a).2
noncomputable def DI:=(zS (jE 5<|dr (zL<|dr (zL<|dr (zq 0)<|zx<|.int 2)<|ze 4)<|zx<|.int 1)<|nA 3<|zL<|VE (sB<|ze 2) (dr (zL<|zJ ju<|zc (ze 5) zC)<|zx<|.int 2)<|dr (zq 5)<|zx<|.int 2)
theorem Ks(z : ∀k,wd k<=100)(e:Bool){a:Nat}(J:a<m){acc:List D}(O:acc.length<=100)(L:Cell)(k:Int) :
 DI [.val (qB p m w wd T),.val<|.int k,.val<|.bl e,.own acc,.val<|.int (a:Int),L]=cI (.next [.val (qB p m w wd T),.val<|.int k,.val<|.bl e,.own<|acc++ox e w wd T a,.val<|.int (a:Int),.val (jV (g9 w wd a) (hD w wd a)<|T a)]):=by
 have Y:=jB;obtain⟨f,g⟩:=V6 (w:=w) z a;have b:=ka (T a) (show g9 w wd a<=lim by omega) (show hD w wd a<=lim by omega);have d:=rB (w:=w) (wd:=wd) (T:=T) J;have I:(qJ m w wd T).length=m:=by simp[qJ]
 unfold DI;refine zG (γ':=[.val (qB p m w wd T),.val<|.int k,.val<|.bl e,.own acc,.val<|.int (a:Int),.val (jV (g9 w wd a) (hD w wd a)<|T a)]) ?_ ?_
 ·simp[yA,lT,jJ,I,J,lQ]
 ·rw[BD]
  cases e with
  | true=>
   have b1:acc.length+hD w wd a<=lim:=by omega
   simp[b,jV,jo,ox,qI,b1];simp[jV]at b;simp[b,jo,b1]
  | false=>
   have b1:acc.length+g9 w wd a<=lim:=by omega
   simp[jV,jo,ox,qI,b1]
theorem oS(z : ∀k,wd k<=100)(L:m<=5)(J:k<=m)(e:Bool):yu [qB p m w wd T,.int (k:Int),.bl e]=cI (.val<|.tup<|(mr m k).flatMap λa=>ox e w wd T a):=by
 have n:=jB;have O:=yZ (p:=p) (w:=w) (wd:=wd) (T:=T) (show m<=900 by omega);have Y:=Wq (w:=w) L J;have h : ∃I g,qU (.nm 4) DI ((mr m k).map λ(i:Nat)=>D.int (i:Int)) [.val (qB p m w wd T),.val<|.int k,.val<|.bl e,.own [],.no,.no]=cI (.next [.val (qB p m w wd T),.val<|.int k,.val<|.bl e,.own<|(mr m k).flatMap λa=>ox e w wd T a,I,g]):=by
  unfold mr;by_cases f:0<k
  ·by_cases b:k<m
   ·have d:=Ks (p:=p) (w:=w) (T:=T) z e (a:=k - 1) (m:=m) ⋯ (acc:=[]) ⋯ .no (k:Int)
    have l:=Ks (p:=p) (w:=w) (T:=T) z e (a:=k) b (acc:=[]++ox e w wd T (k - 1)) (by simpa using AB z e (k - 1)) (.val<|jV (g9 w wd<|k - 1) (hD w wd<|k - 1)<|T<|k - 1) (k:Int);refine⟨.val<|.int (k:Int),.val<|jV (g9 w wd k) (hD w wd k)<|T k,?_⟩;rw[DZ f,DZ b];show qU _ _ [.int ((k - 1:Nat):Int),.int (k:Int)] _=_;rw[jz];show(DI [.val (qB p m w wd T),.val<|.int k,.val<|.bl e,.own [],.val<|.int ((k - 1:Nat):Int),.no]).bind _=_;rw[d,Og];show qU _ _ [.int (k:Int)] _=_;rw[jz];show(DI [.val (qB p m w wd T),.val<|.int k,.val<|.bl e,.own<|[]++ox e w wd T (k - 1),.val<|.int (k:Int),_]).bind _=_;rw[l,Og];simp[qU]
   ·have d:=Ks (p:=p) (w:=w) (T:=T) z e (a:=k - 1) (m:=m) ⋯ (acc:=[]) ⋯ .no (k:Int)
    refine⟨.val<|.int ((k - 1:Nat):Int),.val<|jV (g9 w wd<|k - 1) (hD w wd<|k - 1)<|T<|k - 1,?_⟩;rw[DZ f,DJ b];show qU _ _ [.int ((k - 1:Nat):Int)] _=_;rw[jz];show(DI [.val (qB p m w wd T),.val<|.int k,.val<|.bl e,.own [],.val<|.int ((k - 1:Nat):Int),.no]).bind _=_;rw[d,Og];simp[qU]
  ·by_cases b:k<m
   ·have d:=Ks (p:=p) (w:=w) (T:=T) z e (a:=k) b (acc:=[]) ⋯ .no (k:Int)
    refine⟨.val<|.int (k:Int),.val<|jV (g9 w wd k) (hD w wd k)<|T k,?_⟩;rw[DJ f,DZ b];show qU _ _ [.int (k:Int)] _=_;rw[jz];show(DI [.val (qB p m w wd T),.val<|.int k,.val<|.bl e,.own [],.val<|.int (k:Int),.no]).bind _=_;rw[d,Og];simp[qU]
   ·refine⟨.no,.no,?_⟩
    rw[DJ f,DJ b];rfl
 obtain⟨I,g,h⟩:=h;rw[EV];refine xj<|zG (γ':=[.val (qB p m w wd T),.val<|.int k,.val<|.bl e,.own [],.no,.no]) rfl<|zG (γ':=[.val (qB p m w wd T),.val<|.int k,.val<|.bl e,.own<|(mr m k).flatMap λa=>ox e w wd T a,I,g]) ?_ rfl;unfold R1;rw[JV];have j:zO (zL<|xh<|jU qm<|zc (zJ x9<|zc (ze 0) zC)<|zc (ze 1) zC) [.val (qB p m w wd T),.val<|.int k,.val<|.bl e,.own [],.no,.no]=cI ((mr m k).map λ(i:Nat)=>D.int (i:Int)):=by simp[O,Y,jo]
 rw[j];exact h
end
section
variable{p:Int}{n r:Nat}{Bs:Nat->Vc}{ls:DK}
noncomputable def VY(p:Int)(Bs:Nat->Vc)(ls:DK)(v:Vc)(s:Nat):Vc:=λx=>(v x - zf (λj=>v (ls j)*Bs j x) s)%p
theorem iM(J:hI p n r Bs ls):(il n r ls).length+r=n:=by
 have l:((il n r ls).length:Int)=zf (λi=>if (!aS r ls i)=cL then 1 else 0) n:=by
  have:=xf (λi=> !aS r ls i) (λ_=>1) n;rw[<- this];have : ∀k:Nat,zf (λ_=>1) k=(k:Int):=λk=>by
   induction k with
   | zero=>rfl
   | succ k O=>show zf _ k+1=_;rw[O];omega
  rw[this];rfl
 have inj : ∀{a b:Nat},a<r->b<r->ls a=ls b->a=b:=λ{a b} s f e=>by
  rcases SW a b with z | z | z
  ·have:=J.mono a b z f;omega
  ·exact z
  ·have:=J.mono b a z s;omega
 have m : ∀i,(if (!aS r ls i)=cL then (1:Int)else 0)+zf (λj=>if ls j=i then 1 else 0) r=1:=λi=>by
  cases h:aS r ls i with
  | false=>
   rw[zk (g:=λ_=>0) λj I=>DJ λz=>by(rw[G4.mpr ⟨j,I,z⟩]at h;cases h),zz];rfl
  | true=>
   obtain⟨j,I,e⟩:=G4.mp h;rw[zK (i:=j) I λc t Y=>DJ λz=>Y (inj t I<|by rw[z,e]),DZ e];rfl
 have d:zf (λi=>(if (!aS r ls i)=cL then (1:Int)else 0)+zf (λj=>if ls j=i then 1 else 0) r) n=n:=by
  rw[zk (g:=λ_=>1) λi _=>m i];generalize n=k
  induction k with
  | zero=>rfl
  | succ k O=>show zf _ k+1=_;rw[O];omega
 rw[z9,<- l,jZ]at d;have o:zf (λj=>zf (λi=>if ls j=i then (1:Int)else 0) n) r=r:=by
  have:zf (λj=>zf (λi=>if ls j=i then (1:Int)else 0) n) r=zf (λ_=>1) r:=zk λj I=>by rw[zK (i:=ls j) (J.lt j I) λc _ Y=>DJ<|PH Y,DZ rfl]
  rw[this];generalize r=k
  induction k with
  | zero=>rfl
  | succ k O=>show zf _ k+1=_;rw[O];omega
 rw[o]at d;omega
theorem ib(Y:Pr p)(hn:n<=100)(J:hI p n r Bs ls){i:Nat}:qh [.int p,.lst<|zW r n Bs,.tup (zP n<|jH i)]=cI (.val<|.tup<|zP (il n r ls).length λc=>B7 p n r Bs ls c i):=by
 have E:=jB;have A:=Y.pos;have O:n<=lim:=by omega
 have G:=wL J;have f:r<=lim:=by omega
 have ld : ∀j,j<r->xB [.tup (zP n<|Bs j)]=cI (.val<|.int<|ls j):=λj z=>mi O (Bs j) (J.lt j z) (λi a=>J.m8 j i z a) (by rw[J.one j z];decide);let v:Vc:=jH i;have d : ∀x,0<=v x/\v x<p:=λx=>by have:=Y.two;show 0<=(if _ then (1:Int)else 0)/\(if _ then (1:Int)else 0)<p;split<;>omega
 have k:zP n v=zP n (VY p Bs ls v 0):=yp λx _=>by show v x=(v x - 0)%p;rw[k_,RX (d x).1 (d x).2]
 have h : ∀j,j<r->j5 [.int p,.tup<|zP n<|VY p Bs ls v j,.tup<|zP n<|Bs j,.int (ls j)]=cI (.val<|.tup<|zP n<|VY p Bs ls v<|j+1):=λj z=>by
  rw[y9 Y O (J.lt j z) (VY p Bs ls v j) (Bs j) λx _=>⟨Pb _ ⋯,OQ _ A⟩];congr 3;refine yp λx _=>?_;have u:VY p Bs ls v j (ls j)=v (ls j)%p:=by show(v (ls j) - _)%p=_;rw[zk (g:=λ_=>0) λc C=>by rw[J.j3 c j ⋯ z ⋯];simp,zz,k_]
  show((v x - zf (λj=>v (ls j)*Bs j x) j)%p - VY p Bs ls v j (ls j)*Bs j x)%p=(v x - (zf (λj=>v (ls j)*Bs j x) j+v (ls j)*Bs j x))%p;rw[u,Sy,Pc,gT,<- Sy];congr 1;omega
 have L : ∃I,M6 [.val (.int p),.val<|.lst<|zW r n Bs,.val<|.tup<|zP n v,.val<|.tup<|zP n v,.no,.no]=cI (.next [.val (.int p),.val<|.lst<|zW r n Bs,.val<|.tup<|zP n v,.val<|.tup<|zP n<|VY p Bs ls v r,I,.no]):=by
  unfold M6;rw[JV];show ∃I,Rn (cI (zW r n Bs)) _=_;rw[Og];obtain⟨γ',e,I,rfl⟩:=iN (T:= .nm 4) (g:=λj=>D.tup<|zP n<|Bs j) (F:=(jE 3<|zJ j5<|zc (ze 0)<|zc (ze 3)<|zc (ze 4)<|zc (zJ xB<|zc (ze 4) zC) zC))
   (λs γ=>∃I,γ=[.val (.int p),.val<|.lst<|zW r n Bs,.val<|.tup<|zP n v,.val<|.tup<|zP n<|VY p Bs ls v s,I,.no]) r (γ:=[.val (.int p),.val<|.lst<|zW r n Bs,.val<|.tup<|zP n v,.val<|.tup<|zP n v,.no,.no]) ⟨.no,by rw[<- k]⟩ (by
   rintro s b γ ⟨I,rfl⟩;refine⟨[.val (.int p),.val<|.lst<|zW r n Bs,.val<|.tup<|zP n v,.val<|.tup<|zP n<|VY p Bs ls v s,.val<|.tup<|zP n<|Bs s,.no],_,rfl,?_,.val<|.tup<|zP n<|Bs s,rfl⟩;simp[ld s b,h s b])
  exact⟨I,e⟩
 obtain⟨I,L⟩:=L;have m:jh (.nm 0) jO (zJ xB<|zc (ze 0) zC) [.no] (zW r n Bs)=cI ((Od r).map λj=>D.int ((ls j:Nat):Int)):=by unfold zW;refine zD _ _ λj z=>zF rfl rfl ?_;simp[ld j (Oj.mp z)]
 have o:jh (.tp [0,1]) (sB<|VD (ze 0)<|zq 2) (ze 1) [.no,.no,.val (.lst<|(Od r).map λj=>D.int ((ls j:Nat):Int))] ((Od n).map λ(x:Nat)=>D.tup [.int x,.int (VY p Bs ls v r x)]) =
  cI (((Od n).filter λ(c:Nat)=> !decide ((c:Int)∈(Od r).map λj=>((ls j:Nat):Int))).map λ(x:Nat)=>D.int<|VY p Bs ls v r x):=by
  refine j9 (λ(c:Nat)=> !decide ((c:Int)∈(Od r).map λj=>((ls j:Nat):Int))) (λ(x:Nat)=>D.int<|VY p Bs ls v r x) _ λi a=>⟨_,rfl,?_,λ_=>rfl⟩;have y:=Xx ls<|Od r;show((QI<|(Od r).map λj=>D.int ((ls j:Nat):Int)).map λl=>D.bl<|!decide ((i:Int)∈l)).bind p8=_;rw[y];rfl
 have t:((Od n).filter λ(c:Nat)=> !decide ((c:Int)∈(Od r).map λj=>((ls j:Nat):Int)))=il n r ls:=SR λc _=>by
  congr 1;rw[Rc,G4,decide_eq_true_eq,RK];constructor
  ·rintro⟨j,z,e⟩;exact⟨j,Oj.mp z,by omega⟩
  ·rintro⟨j,z,e⟩;exact⟨j,Oj.mpr z,by omega⟩
 rw[BX];refine xj<|zG (γ':=[.val (.int p),.val<|.lst<|zW r n Bs,.val<|.tup<|zP n v,.val<|.tup<|zP n v,.no,.no]) rfl<|zG L<|zG (γ':=[.val (.int p),.val<|.lst<|zW r n Bs,.val<|.tup<|zP n v,.val<|.tup<|zP n<|VY p Bs ls v r,I,.val (.lst<|(Od r).map λj=>D.int ((ls j:Nat):Int))]) ?_ ?_
 ·simp[X2,jL,jo,f,m]
 ·have w:xG (zP n<|VY p Bs ls v r)=(Od n).map λ(x:Nat)=>D.tup [.int x,.int (VY p Bs ls v r x)]:=by rw[jt,w9]
  have B:(Od n).length<=lim:=by simpa using O
  simp[a_,jL,w,O,xm];rw[o,t];simp only[OJ,za7.injEq];rw[oO];rfl
end
theorem KH(xs:List D){a:Nat}(h:a<=xs.length):Zy xs cR (cI (a:Int))=xs.take a:=by
 have b : ¬((a:Int)<0):=by omega
 simp[Zy,QL,b,SM h]
theorem XA(xs:List D){a:Nat}(h:a<=xs.length):Zy xs (cI (a:Int)) cR=xs.drop a:=by
 have b : ¬((a:Int)<0):=by omega
 simp only[Zy,QL,b,if_false,Pq,SM h];rw[Rr (by rw[_r];omega)]
section
variable{p:Int}
theorem EN(z:Pr p){n J:Nat}(hn:n<=16)(L:J<=20)(M:DW) : ∃q K l,qA [.int p,jV n J M]=cI (.val<|jV n q λi c=>K c i)/\hI p n q K l/\(∀v,Span p n (ec q K) v↔s_ p J n (λi j=>M j i) v):=by have I:=jB;obtain⟨q,K,l,s,e,d,f,O,Y⟩:=J1 z L (show n<=20 by omega) λi j=>M j i;have b:=ka M (show n<=lim by omega) (show J<=lim by omega);have a:=dG (q:=q) (h:=n) K ⋯ ⋯;refine⟨q,K,l,?_,d,f⟩;rw[ER];refine xj ?_;simp only[jV]at b e a ⊢;simp[R8,jx,gx,jo,b,e,a]
theorem EO(z:Pr p){n wk:Nat}(hn:n<=100)(hk:wk<=lim)(M:DW) : ∃r J L,jC [.int p,jV n wk M]=cI (.val<|jV n (il n r L).length λi c=>B7 p n r J L c i)/\hI p n r J L/\(∀v,Span p n (ec r J) v↔Span p n (ec wk λj i=>M i j) v):=by
 have Y:=jB;obtain⟨r,J,L,e,a,f⟩:=dW z hn hk M;have I:n<=lim:=by omega
 have b:=wA I;have g:=iM a;refine⟨r,J,L,?_,a,f⟩;have O:jh (.nm 0) jO (zJ qh<|zc (ze 1)<|zc (ze 2)<|zc (ze 0) zC) [.no,.val<|.int p,.val (.lst<|zW r n J)] (zW n n λi j=>if i=j then 1 else 0)=cI (zW n (il n r L).length λi c=>B7 p n r J L c i):=by unfold zW;refine zD _ _ λi h=>zF rfl rfl ?_;have:=ib z hn a (i:=i);show(qh [.int p,.lst<|zW r n J,.tup (zP n<|jH i)]).map Cz=_;rw[this];rfl
 rw[ES];refine xj<|zG (γ':=[.val (.int p),.val<|jV n wk M,.val<|.lst<|zW r n J,.no]) ?_ (zG (γ':=[.val (.int p),.val<|jV n wk M,.val<|.lst<|zW r n J,.val (.lst<|zW n (il n r L).length λi c=>B7 p n r J L c i)]) ?_ ?_)
 ·simp[R5,jx,gx,e]
 ·simp only[jV]at b ⊢
  simp[R6,jo,b,jL,xm,I];rw[O]
 ·have d:(n:Int) - (r:Int)=((il n r L).length:Int):=by omega
  simp[R7,jV,jo,d]
theorem vw{h q:Nat}(z:h<=lim)(I:q<=lim)(b e:Bool)(f:DW):qW [.str (xc<|f6 b),.int q,.tup<|zW h q f,.bl e]=cI (.val<|.tup [.str (xc<|f6 !b),if e=cL then jV h q f else jV q h λi j=>f j i]):=by
 have a:=ka f z I;have O:=QN b;rw[FZ];refine xj<|zG (γ':=[.val (.str<|xc<|f6 b),.val<|.int q,.val<|.tup<|zW h q f,.val<|.bl e,.val (jV h q f)]) ?_ ?_
 ·simp[O2,jx,gx,jo,jV]
 ·cases e<;>simp[O3,O,a]
variable{w:DV}{wd:DK}{T:DQ}{m k n q:Nat}
noncomputable def l4(k:Nat)(w:DV)(a:Nat):Bool:=if a+1=k\/a=k then !w a else w a
noncomputable def h8(k q:Nat)(wd:DK)(r:Nat):Nat:=if r=k then q else wd r
theorem pF(i j:Int)(x y:D)(a:Int):aV [.int i,.int j] [x,y] a=if i=a then cI x else if j=a then cI y else cR:=by simp[aV]
end
section
variable{p:Int}{w:DV}{wd:DK}{T:DQ}{m k n q wl wr:Nat}
noncomputable def YU(e:Bool)(k wl:Nat)(T:DQ)(i c:Nat):Int:=if i<wl then (if e=cL then T (k - 1) c i else T (k - 1) i c)else (if e=cL then T k c (i - wl)else T k (i - wl) c)
theorem hV(Y:wl=if 0<k then wd (k - 1)else 0)(I:wr=if k<m then wd (k+1)else 0)(L:k<=m)(e:Bool)(J:(0<k->w (k - 1) = !e)/\(k<m->w k=e)) :
 ((mr m k).flatMap λa=>ox e w wd T a)=zW (wl+wr) (wd k) (YU e k wl T):=by
 have h:0<k->ox e w wd T (k - 1)=zW wl (wd k) (YU e k wl T):=λb=>by
  have O:=J.1 b;have n:k - 1+1=k:=by omega
  have f:wl=wd (k - 1):=by rw[Y,DZ b]
  unfold ox g9 hD;rw[O,n];cases e
  ·simp only[Bool.not_false,Pa,if_false,if_true]
   rw[<- f];refine vf λi j g _=>?_;show _=if i<wl then _ else _;rw[DZ g,DJ ⋯]
  ·simp only[Bool.not_true,Pa,if_false,if_true]
   rw[<- f];refine vf λi j g _=>?_;show _=if i<wl then _ else _;rw[DZ g,DZ rfl]
 have l:k<m->ox e w wd T k=zW wr (wd k) λi=>YU e k wl T (wl+i):=λb=>by
  have O:=J.2 b;have f:wr=wd (k+1):=by rw[I,DZ b]
  unfold ox g9 hD;rw[O];cases e
  ·simp only[Pa,if_false,if_true]
   rw[<- f];refine vf λi j g _=>?_;show _=if wl+i<wl then _ else _;rw[DJ ⋯,DJ ⋯,OU]
  ·simp only[Pa,if_false,if_true]
   rw[<- f];refine vf λi j g _=>?_;show _=if wl+i<wl then _ else _;rw[DJ ⋯,DZ rfl,OU]
 unfold mr;by_cases b:0<k
 ·by_cases d:k<m
  ·rw[DZ b,DZ d]
   show ox e w wd T (k - 1)++(ox e w wd T k++[])=_;rw[Rz,h b,l d];exact bf _ _ _ _ _ _ (λ_ _ _ _=>rfl) λ_ _ _ _=>rfl
  ·rw[DZ b,DJ d]
   show ox e w wd T (k - 1)++[]=_;rw[Rz,h b,I,DJ d];rfl
 ·have z:wl=0:=by rw[Y,DJ b]
  by_cases d:k<m
  ·rw[DJ b,DZ d]
   show ox e w wd T k++[]=_;rw[Rz,l d,z,C9];refine vf λi j _ _=>?_;rw[C9]
  ·rw[DJ b,DJ d,z,I,DJ d]
   rfl
theorem J9(J:k<=m)(L:m<=5):qg (.tup<|Zy (zP (m+1) λr=>(wd r:Int)) cR (cI (k:Int))++[D.int (q:Int)]) (.tup<|Zy (zP (m+1) λr=>(wd r:Int)) (cI ((k:Int)+1)) cR)=cI (.tup<|zP (m+1) λr=>(h8 k q wd r:Int)):=by
 have I:=jB;have e:((k:Int)+1)=((k+1:Nat):Int):=by omega
 rw[e,KH _ (by simp;omega),XA _ (by simp;omega)];have b:(zP (m+1) λr=>(wd r:Int)).take k++[D.int (q:Int)]++(zP (m+1) λr=>(wd r:Int)).drop (k+1)=zP (m+1) λr=>(h8 k q wd r:Int):=by
  refine Sx λi=>?_;rcases SW i k with h | h | h
  ·rw[SS,OV (by simp;omega),List.getElem?_take_of_lt h,xR _ ⋯,xR _ ⋯]
   simp[h8,show i≠k by omega]
  ·subst h
   rw[SS,OZ (by simp;omega),xR _ ⋯];simp[h8,SM (show i<=m+1 by omega)]
  ·rw[OZ (by simp;omega)]
   have d:((zP (m+1) λr=>(wd r:Int)).take k++[D.int (q:Int)]).length=k+1:=by simp;omega
   rw[d,List.getElem?_drop,show k+1+(i - (k+1))=i by omega];by_cases a:i<m+1
   ·rw[xR _ a,xR _ a];simp[h8,show i≠k by omega]
   ·rw[Rv (by simp;omega),Rv (by simp;omega)]
 have z:((zP (m+1) λr=>(wd r:Int)).take k++[D.int (q:Int)]).length+((zP (m+1) λr=>(wd r:Int)).drop (k+1)).length<=lim:=by simp;omega
 show(if _<=lim then cI (D.tup<|_++_)else cR)=_;rw[DZ z,b]
theorem YD{n:Nat}{G:Vc->Prop}{z v:Vc}(h:Span p n G v)(I : ∀g,G g->zf (λi=>z i*g i) n%p=0):zf (λi=>z i*v i) n%p=0:=by
 induction h with
 | @zero v h=>
  rw[zy (g:=λ_=>0) λi a=>by rw[Om,h i a];simp,zz];simp
 | @step v w g c O b h Y=>
  have e:zf (λi=>z i*v i) n%p=(zf (λi=>z i*w i) n+zf (λi=>z i*g i) n*c)%p:=by rw[<- jG,<- z9];refine zy λi a=>?_;rw[xZ rfl (h i a),Tp,RW,Rf c]
  rw[e,OE,Y,Om,I g O];simp
theorem gU(e:Bool)(z:Vc)(y:Nat):zf (λi=>YU e k wl T i y*z i) (wl+wr)=app (λi c=>if e=cL then T (k - 1) i c else T (k - 1) c i) wl z y+app (λi c=>if e=cL then T k i c else T k c i) wr (λc=>z<|wl+c) y:=by
 rw[Yb];unfold app;congr 1
 ·exact zk λi a=>by unfold YU;rw[DZ a]
 ·exact zk λi a=>by unfold YU;rw[DJ ⋯,OU]
end
section
variable{p:Int}{w:DV}{wd:DK}{T:DQ}{m k n q wl wr:Nat}
noncomputable def DU(e:Bool)(G:DW):Nat->Nat->Int:=if e=cL then G else λi c=>G c i
noncomputable def pY(e:Bool)(k wl:Nat)(G:DW)(T:DQ)(a:Nat):Nat->Nat->Int:=if a+1=k then DU e G else if a=k then DU e λi=>G (wl+i)else T a
noncomputable def D8:CO D:=VE (sB<|BH (ze 7)<|ze 5) (zJ qW<|zc (dr (zq 8)<|zx<|.int 0)<|zc (dr (zq 2)<|zx<|.int 1)<|zc (Cu (ze 5)<|ze 7)<|zc (ze 3) zC)<|ze 8
theorem ZA(hn:n=wl+wr)(Y:wl=if 0<k then wd (k - 1)else 0)(J:wr=if k<m then wd (k+1)else 0)(hm:m<=5)(hk:k<=m)(a9 : ∀k,wd k<=100)(hq:q<=100)(e:Bool)(hE:(0<k->w (k - 1) = !e)/\(k<m->w k=e))(G:DW) :
 xw [qB p m w wd T,.int (k:Int),jV n q G,.bl e]=cI (.val<|.tup<|qJ m (l4 k w) (h8 k q wd)<|pY e k wl G T):=by
 have Z:=jB;have as:wl<=100:=by rw[Y];split;exact a9 _;omega
 have X:wr<=100:=by rw[J];split;exact a9 _;omega
 let o:D:= .tup (zW wl q G);let r:D:= .tup (zW wr q λi=>G<|wl+i);let O:D:= .lp [.int ((k:Int) - 1),.int (k:Int)] [o,r];have Q:Zy (zW n q G) cR (cI (wl:Int))=zW wl q G:=by rw[KH _ (by simp;omega),hn];unfold zW;rw[<- List.map_take,List.take_range,SM ⋯]
 have Ms:Zy (zW n q G) (cI (wl:Int)) cR=zW wr q λi=>G (wl+i):=by rw[XA _ (by simp;omega),hn];unfold zW;rw[<- List.map_drop,A6,List.drop_range',A6];exact _t ⋯ λi C l=>by simp
 have E:jo (jV n q G)=cI (.T,[.int n,.int q,.tup (zW n q G)]):=rfl;let z:List D->Cell->Cell->Ctx:=λL b d=>[.val (qB p m w wd T),.val<|.int k,.val<|jV n q G,.val<|.bl e,.val<|.int wl,.val O,.own L,b,d];let A:=λs=>qJ s (l4 k w) (h8 k q wd)<|pY e k wl G T;have B:=pF ((k:Int) - 1) k o r;have one : ∀a,a<m->∀L,D8 (z L (.val<|.int (a:Int))<|.val<|wH w wd T a)=cI (wH (l4 k w) (h8 k q wd) (pY e k wl G T) a):=λa N L=>by
  by_cases C:a+1=k
  ·have t:=hE.1 ⋯
   have K:k - 1=a:=by omega
   rw[DZ ⋯,K]at Y;rw[K]at t;have y:=vw (h:=wl) (q:=q) ⋯ ⋯ (w a) e G;have f:(.tup [.str (xc<|f6 !w a),if e=cL then jV wl q G else jV q wl λi j=>G j i]:D)=wH (l4 k w) (h8 k q wd) (pY e k wl G T) a:=by
    have u1:a≠k:=by omega
    cases e<;>simp[wH,g9,hD,l4,h8,pY,DU,C,t,u1,Y]
   have I:=B a;rw[DZ ⋯]at I;rw[<- f];simp[D8,z,BH,Cu,O,I,lT,E,o,y]
  ·by_cases l:a=k
   ·subst l
    have t:=hE.2 N;rw[DZ N]at J;have y:=vw (h:=wr) (q:=q) ⋯ ⋯ (w a) e λi=>G<|wl+i;have f:(.tup [.str (xc<|f6 !w a),if e=cL then jV wr q (λi=>G<|wl+i)else jV q wr λi j=>G (wl+j) i]:D)=wH (l4 a w) (h8 a q wd) (pY e a wl G T) a:=by cases e<;>simp[wH,g9,hD,l4,h8,pY,DU,t,J]
    have I:=B a;rw[DJ ⋯,DZ rfl]at I;rw[<- f];simp[D8,z,BH,Cu,O,I,lT,E,r,y]
   ·have f:wH (l4 k w) (h8 k q wd) (pY e k wl G T) a=wH w wd T a:=by
     simp[wH,g9,hD,l4,h8,pY,C,l]
    have I:=B a;rw[DJ ⋯,DJ ⋯]at I;rw[f];simp[D8,z,BH,O,I]
 have u : ∃b d,O1 (z [] .no .no)=cI (.next<|z (A m) b d):=by
  show ∃b d,Jb _ _ (jS 6 D8) _=_;rw[JV];have H:cC (dr (zq 0)<|zx<|.int 2) (z [] .no .no)=cI ((Od m).map λ(k:Nat)=>D.tup [.int k,wH w wd T k]):=by rw[<- w9];rfl
  rw[H,Og];obtain⟨γ',eq,b,d,rfl⟩:=iN (T:= .tp [7,8]) (F:=jS 6 D8) (g:=λ(a:Nat)=>D.tup [.int a,wH w wd T a]) (λs P=>∃b d,P=z (A s) b d) m ⟨.no,.no,rfl⟩ (by
   rintro s W P ⟨b,d,rfl⟩;refine⟨z (A s) (.val<|.int (s:Int))<|.val<|wH w wd T s,z (A<|s+1) (.val<|.int (s:Int))<|.val<|wH w wd T s,rfl,?_,_,_,rfl⟩;have R:(A s).length<lim:=by simp[A,qJ];omega
   rw[Vr,one s W];show(if (A s).length<lim then cI (Fl.next<|z (A s++[_]) _ _)else cR)=_;rw[DZ R];simp[A,qJ,Rx])
  exact⟨b,d,eq⟩
 obtain⟨b,d,u⟩:=u;rw[Gp];refine xj<|zG (γ':=[.val (qB p m w wd T),.val<|.int k,.val<|jV n q G,.val<|.bl e,.val<|.int wl,.no,.no,.no,.no]) ?_ (zG (γ':=[.val (qB p m w wd T),.val<|.int k,.val<|jV n q G,.val<|.bl e,.val<|.int wl,.val O,.no,.no,.no]) ?_ (zG (γ':=z [] .no .no) rfl<|zG u rfl))
 ·rw[Y]
  by_cases M:0<k
  ·have x:(0:Int)<(k:Int):=by omega
   have S:(k:Int) - 1=((k - 1:Nat):Int):=by omega
   have l:k - 1<m+1:=by omega
   simp[L8,jx,gx,yA,M,x,S,jJ,l]
  ·have x : ¬(0:Int)<(k:Int):=by omega
   simp[L8,jx,gx,M,x]
 ·have U : ¬(k:Int) - 1=(k:Int):=by omega
  simp[O0,Ia,E,Q,Ms,U,O,o,r]
end
section
variable{p:Int}{w w':DV}{wd kb:DK}{T T':DQ}{m N k q n wl wr:Nat}{A:Nat->gv}{B:Nat->Vc}{l:DK}
theorem Xy(z:Pr p)(D:h9 p w wd T m N A)(E:L7 p w w' wd kb T T' m k q wl wr B l) : ∃I J,h9 p w' kb T' m I J/\xQ J I=rq k (xQ A N)/\I<=N:=⟨_,_,pK z D E,pJ D,by
 have:=SH (vi k A)<|Od N;rw[OM]at this;exact this⟩
theorem dM(z:Pr p)(I : ∀k,wd k<=8)(hN:N<=8)(D:h9 p w wd T m N A)(E:N6 p w w' wd kb T T' m k q wl wr B l) : ∃J L,h9 p w' kb T' m J L/\xQ L J=rq k (xQ A N)/\J<=N:=by
 obtain⟨g,a⟩:=Vd z I D;obtain⟨J,L,O,d,b⟩:=Xy z a E._X;have i:q<=J:=by rw[<- E.zt,<- O.cnt k E.km];have:=SH (λj=>(L j).has k)<|Od J;rw[OM]at this;exact this
 obtain⟨f,Y⟩:=Vd z (wd:=kb) (λr=>by
  by_cases h:r=k
  ·rw[h,E.zt];omega
  ·rw[E.xg r h];exact I r) O
 refine⟨J,We L J f,?_,?_,b⟩
 ·have e:(λk=> !(λk=> !w' k) k)=w':=funext λk=>by simp
  rw[e]at Y;exact Y
 ·rw[Vb,d,Vb]
theorem lZ(hp:Pr p)(hm:m<=5)(J:k<=m)(ag : ∀k,wd k<=8)(hT : ∀a x y,0<=T a x y/\T a x y<p)(a9:wl=if 0<k then wd (k - 1)else 0)(ab:wr=if k<m then wd (k+1)else 0)(hn:wl+wr<=16)(ht:Ya ((Od m).map w) k=cL)
 (bv : ∀q,q<=wl+wr->zf (λr=>(h8 k q wd r:Int)) (m+1)<=30) :
 ∃q T',qi [qB p m w wd T,.int (k:Int)]=cI (.val<|qB p m (l4 k w) (h8 k q wd) T')/\(∀a x y,0<=T' a x y/\T' a x y<p)/\q<=wl+wr/\∀{N:Nat} {A:Nat->gv},h9 p w wd T m N A->N<=8->∃N' A',h9 p (l4 k w) (h8 k q wd) T' m N' A'/\xQ A' N'=rq k (xQ A N)/\N'<=N:=by
 have hl:=jB;have p0:=hp.pos;have wy:=yZ (p:=p) (w:=w) (wd:=wd) (T:=T) (show m<=900 by omega);have ap:=Wp (l:=(Od m).map w) (k:=k) (by simpa using hm) (by simpa using J) ht;rw[<- yD]at ap;have ie:=V4 (w:=w) hm J;have cb:=ag k;have as : ∀k,wd k<=100:=λk=>by have:=ag k;omega
 have ax : ∀(e:Bool) (G:DW) (q:Nat),q<=wl+wr->JN ((Od m).map w) k=e->((0<k->w (k - 1) = !e)/\(k<m->w k=e))->
  (if e=cL then qA [.int p,jV (wl+wr) (wd k) (YU e k wl T)]else jC [.int p,jV (wl+wr) (wd k) (YU e k wl T)])=cI (.val<|jV (wl+wr) q G)->
  qi [qB p m w wd T,.int (k:Int)]=cI (.val<|qB p m (l4 k w) (h8 k q wd)<|pY e k wl G T):=λe G q O P hE hF=>by
  have li:=oS (p:=p) (w:=w) (T:=T) as hm J e;rw[hV a9 ab J e hE]at li;have aa:=ZA (T:=T) (p:=p) (q:=q) rfl a9 ab hm J as ⋯ e hE G;rw[P]at ie;let I:Cell->Cell->Cell->Cell->Cell->Cell->Ctx:=λa b c d f g=>[.val (qB p m w wd T),.val<|.int k,a,b,c,d,f,g];let W:Cell:= .val (.str<|qP m w);let E:Cell:= .val (.bl e);let Y:Cell:= .val (.tup<|zW (wl+wr) (wd k)<|YU e k wl T);let L:Cell:= .val (jV (wl+wr) (wd k)<|YU e k wl T);let H:Cell:= .val (jV (wl+wr) q G);let M:D:= .tup (zP (m+1) λr=>(h8 k q wd r:Int));rw[Cf];refine xj<|zG (γ':=I W .no .no .no .no .no) ?_ (zG (γ':=I W .no .no .no .no .no) ?_ (zG (γ':=I W E .no .no .no .no) ?_ (zG (γ':=I W E Y .no .no .no) ?_ (zG (γ':=I W E Y L .no .no) ?_ (zG (γ':=I W E Y L H .no) ?_ (zG (γ':=I W E Y L H<|.val M) ?_ (zG (γ':=I W E Y L H<|.val M) ?_ ?_)))))))
  ·simp[U2,jx,gx,wy,I,W]
  ·simp[U3,I,W,ap]
  ·simp[U4,I,W,ie,E]
  ·simp[U5,I,E,li,Y]
  ·have s:k<m+1:=by omega
   have pl:jo (.tup<|zW (wl+wr) (wd k)<|YU e k wl T)=cI (.T,zW (wl+wr) (wd k)<|YU e k wl T):=rfl;simp[U6,I,yA,jJ,s,Y,pl,L,jV]
  ·cases e<;>simp at hF<;>simp[U7,I,E,yA,L,H,hF]
  ·have pd:jo (jV (wl+wr) q G)=cI (.T,[.int (wl+wr:Nat),.int q,.tup (zW (wl+wr) q G)]):=rfl
   have wa:=J9 (wd:=wd) (q:=q) J hm;have c4:qg (.tup<|Zy (zP (m+1) λr=>(wd r:Int)) cR<|some (k:Int)) (.tup [D.int (q:Int)])=cI (.tup<|Zy (zP (m+1) λr=>(wd r:Int)) cR (cI (k:Int))++[D.int (q:Int)]):=by show(if _<=lim then _ else cR)=_;rw[KH _ (by simp;omega),DZ (by simp;omega)]
   simp[U8,I,yA,H,pd,c4,wa,M]
  ·have c5 : ¬30<zf (λr=>(h8 k q wd r:Int)) (m+1):=by have:=bv q O;omega
   have c6:xv [M]=cI (.val .eg):=by simp[xv,jn,jx,gx,jo,M,ZT,c5]
   simp[U9,I,c6]
  ·simp[WD,I,E,yA,H,aa,M]
   rfl
 have md : ∀x:Int,0<=x%p/\x%p<p:=λx=>⟨Pb _ ⋯,OQ _ p0⟩;have i4 : ∀(e:Bool) (G:DW),(∀i c,0<=G i c/\G i c<p)->∀a x y,0<=pY e k wl G T a x y/\pY e k wl G T a x y<p:=λe G hG a x y=>by
  unfold pY DU;cases e<;>simp only[Pa,if_false,if_true]<;>repeat' split
  all_goals first | exact hG _ _ | exact hT a x y
 have f0:0<k->l4 k w (k - 1) = !w (k - 1):=λt=>DZ<|.inl ⋯;have f1:l4 k w k = !w k:=DZ<|.inr rfl;have fo : ∀{e G} j,j≠k->j+1≠k->l4 k w j=w j/\∀i c,pY e k wl G T j i c=T j i c:=λj o s=>⟨DJ λz=>z.elim s o,λi c=>by simp[pY,o,s]⟩;have g0 : ∀{e G},0<k->pY e k wl G T (k - 1)=DU e G:=λh=>DZ ⋯;have g1 : ∀{e G},pY e k wl G T k=DU e λi=>G (wl+i):=(DJ ⋯).trans (DZ rfl);cases P:JN ((Od m).map w) k with
 | true=>
  obtain⟨u,C⟩:=(Xz J).mp P;obtain⟨q,K,l,S,F,U⟩:=EN hp hn (show wd k<=20 by omega)<|YU cL k wl T;have O:=wL F;have Q : ∀{c i},c<q->i<wl+wr->K c i%p=K c i:=λo s=>RX (F.i4 _ _ o s).1 (F.i4 _ _ o s).2;rw[pN (g:=λi c=>K c i%p) λi c o s=>(Q s o).symm]at S;refine⟨q,_,ax cL _ q O P ⟨u,C⟩ S,i4 cL _ λ_ _=>md _,O,λ{N A} D hN=>Xy hp D (B:=K) (l:=l) (q:=q) (wl:=wl) (wr:=wr) ⟨J,a9,ab,λt=>⟨u t,by rw[f0 t,u t];rfl,λi c Z s=>by rw[g0 t];exact Q s ⋯⟩,λo=>⟨C o,by rw[f1,C o];rfl,λi c Z s=>by rw[g1];exact Q s ⋯⟩,λj R=>fo j,DZ rfl,λr hr=>DJ hr,F.wb,λz=>(U z).trans (forall_congr' λy=>imp_congr_right λX=>by rw[gU];rfl)⟩⟩
 | false=>
  obtain⟨u,C⟩:=Bo J ht P;obtain⟨r,Bs,ls,S,F,U⟩:=EO hp (n:=wl+wr) ⋯ (show wd k<=lim by omega)<|YU dd k wl T;have fl:=iM F;have O:(il (wl+wr) r ls).length<=wl+wr:=by omega
  refine⟨_,_,ax dd _ _ O P ⟨u,C⟩ S,i4 dd _ λ_ _=>md _,O,λ{N A} D hN=>dM hp ag hN D (B:=B7 p (wl+wr) r Bs ls) (l:=λc=>(il (wl+wr) r ls).getD c 0) (wl:=wl) (wr:=wr) ⟨J,a9,ab,λt=>⟨u t,by rw[f0 t,u t];rfl,λc i Q Z=>by rw[g0 t];rfl⟩,λo=>⟨C o,by rw[f1,C o];rfl,λc i Q Z=>by rw[g1];rfl⟩,λj R=>fo j,DZ rfl,λr hr=>DJ hr,EW hp,λz=>?_⟩⟩;rw[oV F.wb];have mk : ∀y,zf (λi=>z i*YU dd k wl T i y) (wl+wr)=app (λi c=>T (k - 1) c i) wl z y+app (λi c=>T k c i) wr (λc=>z<|wl+c) y:=λy=>by rw[zk (g:=λi=>YU dd k wl T i y*z i) λi _=>Rf _ _,gU];rfl
  constructor
  ·intro h y X
   rw[<- mk];exact YD (v:=λi=>YU dd k wl T i y) ((U _).mpr (.gen ⟨y,X,rfl⟩)) λg ⟨j,R,e⟩=>by rw[e];exact h j R
  ·intro h j R
   exact YD (v:=Bs j) ((U _).mp (.gen ⟨j,R,rfl⟩)) λg ⟨y,X,e⟩=>by rw[e,mk];exact h y X
end
noncomputable def o7(a b c:Int):Int:=if a=b then c else if a=c then b else a
noncomputable def ml(k:Int)(b:Int×Int):Bool:= !(b.1==k && b.2==k)
noncomputable def R9(k:Int)(b:Int×Int):Int×Int:=(o7 b.1 k<|k+1,o7 b.2 (k - 1) k)
noncomputable def qc(k:Int)(bs:List (Int×Int)):List (Int×Int):=(bs.filter<|ml k).map (R9 k)
theorem XG(k bs):(qc k bs).length<=bs.length:=by unfold qc;rw[OC];exact SH _ _
theorem dU(k:Int)(b bs):qc k (b::bs)=qc k [b]++qc k bs:=by unfold qc;rw[show b::bs=[b]++bs from rfl,Ug,PB]
theorem oJ{n k:Nat}{u v:Nat->Int}(h : ∀r,r<n->u r=v r)(I:k<n) : ∀r,r<n->mv n k u r=mv n k v r:=λr z=>by
 unfold mv As;rw[h k I,h r z];by_cases b:0<k
 ·rw[h (k - 1) ⋯]
  by_cases a:k+1<n
  ·rw[h (k+1) a]
  ·simp only[DJ a]
 ·simp only[DJ b]
  by_cases a:k+1<n
  ·rw[h (k+1) a]
  ·simp only[DJ a]
theorem ba(a b c d:Int):hH (.tup [.int a,.int b]) (.tup [.int c,.int d])=(a==c && b==d):=by simp[hH,s8,F_]
theorem mT:kf=jn 5 (zS tW<|zS tU mU):=rfl
theorem dS{k:Int}{a b:List (Int×Int)}(h:a.Perm b):(qc k a).Perm (qc k b):=(h.filter _).map _
noncomputable def G8:=(jb (xi (sB<|zw sx (ze 3)<|ze 0)<|sB<|zw ft (ze 4)<|ze 0) (jS 2<|qe<|zc (ze 3)<|zc (zw vg (ze 0)<|zx<|.int 1) zC)<|jb (xi (sB<|zw sx (ze 3)<|ze 0)<|sB<|zw ft (ze 4)<|zw vg (ze 0)<|zx<|.int 1) (jS 2<|qe<|zc (ze 3)<|zc (ze 0) zC)<|jb (xi (sB<|zw ft (ze 3)<|ze 0)<|sB<|zw p3 (ze 4)<|ze 0) (jS 2<|qe<|zc (zw qg (ze 0)<|zx<|.int 1)<|zc (ze 4) zC)<|jb (xi (sB<|zw ft (ze 3)<|zw qg (ze 0)<|zx<|.int 1)<|sB<|zw p3 (ze 4)<|ze 0) (jS 2<|qe<|zc (ze 0)<|zc (ze 4) zC)<|jb (sB<|zw i6 (qe<|zc (ze 3)<|zc (ze 4) zC)<|qe<|zc (ze 0)<|zc (ze 0) zC) (jS 2<|qe<|zc (ze 3)<|zc (ze 4) zC) kE)
theorem br(a b c d:Int):i6 (.tup [.int a,.int b]) (.tup [.int c,.int d])=cI (.bl<|!(a==c && b==d)):=by have o : ∀a b:Int,iv (.tup [.int a,.int b])=cL:=λa b=>rfl;unfold i6;rw[DZ ⟨o a b,o c d⟩,ba]
theorem Vo(a b):zA (a++b)=zA a++zA b:=by unfold zA;rw[PB]
theorem lO(i j:Int):zA [(i,j)]=[.tup [.int i,.int j]]:=rfl
theorem EU{k i j:Int}(bg:i<=j)(z:Cell)(acc:List (Int×Int))(ha:acc.length<60):G8 [.val (.int k),z,.own<|zA acc,.val<|.int i,.val (.int j)]=cI (.next [.val (.int k),z,.own<|zA<|acc++qc k [(i,j)],.val<|.int i,.val (.int j)]):=by
 have P:=jB;have C:acc.length<lim:=by omega
 have Y : ∀(f:CO D) (x y:Int),f [.val (.int k),z,.own<|zA acc,.val<|.int i,.val (.int j)]=cI (.tup [.int x,.int y])->jS 2 f [.val (.int k),z,.own<|zA acc,.val<|.int i,.val (.int j)]=cI (.next [.val (.int k),z,.own<|zA<|acc++[(x,y)],.val<|.int i,.val (.int j)]):=λf x y h=>by rw[Vo,lO];simp[h,C]
 have m : ∀x y,ml k (i,j)=cL->R9 k (i,j)=(x,y)->qc k [(i,j)]=[(x,y)]:=λx y d l=>by unfold qc;simp[d,l]
 have n : ¬(i=k/\j=k)->ml k (i,j)=cL:=λh=>by
  unfold ml;by_cases a:i=k
  ·have b : ¬j=k:=λe=>h ⟨a,e⟩
   simp[a,b]
  ·simp[a]
 unfold G8;by_cases d:i<k/\j=k
 ·obtain⟨d,r⟩:=d
  rw[m i (k - 1) (n ⋯) (by show(o7 i k<|k+1,o7 j (k - 1) k)=_;unfold o7;rw[DJ ⋯,DJ ⋯,DJ ⋯,DZ r])];rw[<- Y (qe<|zc (ze 3)<|zc (zw vg (ze 0)<|zx<|.int 1) zC) i (k - 1) ⋯,ZC];have t:xi (sB<|zw sx (ze 3)<|ze 0) (sB<|zw ft (ze 4)<|ze 0) [.val (.int k),z,.own<|zA acc,.val<|.int i,.val (.int j)]=cI cL:=by simp[d,r]
  rw[t];simp only[Og,if_true]
 ·rw[ZC]
  have K:xi (sB<|zw sx (ze 3)<|ze 0) (sB<|zw ft (ze 4)<|ze 0) [.val (.int k),z,.own<|zA acc,.val<|.int i,.val (.int j)]=cI dd:=by
   by_cases a:i<k
   ·have b : ¬j=k:=λe=>d ⟨a,e⟩
    simp[a,b]
   ·simp[a]
  rw[K];simp only[Og,Pa,if_false];by_cases l:i<k/\j=k - 1
  ·obtain⟨l,s⟩:=l
   rw[m i k (n ⋯) (by show(o7 i k<|k+1,o7 j (k - 1) k)=_;unfold o7;rw[DJ ⋯,DJ ⋯,DZ s])];rw[<- Y (qe<|zc (ze 3)<|zc (ze 0) zC) i k ⋯,ZC];have t:xi (sB<|zw sx (ze 3)<|ze 0) (sB<|zw ft (ze 4)<|zw vg (ze 0)<|zx<|.int 1) [.val (.int k),z,.own<|zA acc,.val<|.int i,.val (.int j)]=cI cL:=by simp[l,s]
   rw[t];simp only[Og,if_true]
  ·rw[ZC]
   have L:xi (sB<|zw sx (ze 3)<|ze 0) (sB<|zw ft (ze 4)<|zw vg (ze 0)<|zx<|.int 1) [.val (.int k),z,.own<|zA acc,.val<|.int i,.val (.int j)]=cI dd:=by
    by_cases a:i<k
    ·have b : ¬j=k - 1:=λe=>l ⟨a,e⟩
     simp[a,b]
    ·simp[a]
   rw[L];simp only[Og,Pa,if_false];by_cases I:i=k/\j>k
   ·obtain⟨I,E⟩:=I
    have F:k<j:=E;rw[m (k+1) j (n ⋯) (by show(o7 i k<|k+1,o7 j (k - 1) k)=_;unfold o7;rw[DZ I,DJ ⋯,DJ ⋯])];rw[<- Y (qe<|zc (zw qg (ze 0)<|zx<|.int 1)<|zc (ze 4) zC) (k+1) j ⋯,ZC];have t:xi (sB<|zw ft (ze 3)<|ze 0) (sB<|zw p3 (ze 4)<|ze 0) [.val (.int k),z,.own<|zA acc,.val<|.int i,.val (.int j)]=cI cL:=by simp[I,F]
    rw[t];simp only[Og,if_true]
   ·rw[ZC]
    have M:xi (sB<|zw ft (ze 3)<|ze 0) (sB<|zw p3 (ze 4)<|ze 0) [.val (.int k),z,.own<|zA acc,.val<|.int i,.val (.int j)]=cI dd:=by
     by_cases a:i=k
     ·have b : ¬k<j:=λe=>I ⟨a,e⟩
      simp[a,b]
     ·simp[a]
    rw[M];simp only[Og,Pa,if_false];by_cases O:i=k+1/\j>k
    ·obtain⟨O,G⟩:=O
     have as:k<j:=G;rw[m k j (n ⋯) (by show(o7 i k<|k+1,o7 j (k - 1) k)=_;unfold o7;rw[DJ ⋯,DZ O,DJ ⋯,DJ ⋯])];rw[<- Y (qe<|zc (ze 0)<|zc (ze 4) zC) k j ⋯,ZC];have t:xi (sB<|zw ft (ze 3)<|zw qg (ze 0)<|zx<|.int 1) (sB<|zw p3 (ze 4)<|ze 0) [.val (.int k),z,.own<|zA acc,.val<|.int i,.val (.int j)]=cI cL:=by simp[O,as]
     rw[t];simp only[Og,if_true]
    ·rw[ZC]
     have N:xi (sB<|zw ft (ze 3)<|zw qg (ze 0)<|zx<|.int 1) (sB<|zw p3 (ze 4)<|ze 0) [.val (.int k),z,.own<|zA acc,.val<|.int i,.val (.int j)]=cI dd:=by
      by_cases a:i=k+1
      ·have b : ¬k<j:=λe=>O ⟨a,e⟩
       simp[a,b]
      ·simp[a]
     rw[N];simp only[Og,Pa,if_false];by_cases p:i=k/\j=k
     ·obtain⟨rfl,rfl⟩:=p
      have e:qc j [(j,j)]=[]:=by unfold qc ml;simp
      rw[e,Rz,ZC];simp[br]
     ·have o:ml k (i,j)=cL:=by
       unfold ml;by_cases a:i=k
       ·have b : ¬j=k:=λe=>p ⟨a,e⟩
        simp[a,b]
       ·simp[a]
      rw[m i j o (by
       show(o7 i k<|k+1,o7 j (k - 1) k)=_;unfold o7;have u : ¬i=k:=λe=>by
        by_cases g:k<j
        ·exact I ⟨e,g⟩
        ·exact p ⟨e,by omega⟩
       have w : ¬i=k+1:=λe=>O ⟨e,by omega⟩;have A : ¬j=k - 1:=λe=>l ⟨by omega,e⟩;have B : ¬j=k:=λe=>d ⟨by omega,e⟩;rw[DJ u,DJ w,DJ A,DJ B])]
      rw[<- Y (qe<|zc (ze 3)<|zc (ze 4) zC) i j ⋯,ZC];unfold ml at o;simp only at o;have:sB (zw i6 (qe<|zc (ze 3)<|zc (ze 4) zC)<|qe<|zc (ze 0)<|zc (ze 0) zC) [.val (.int k),z,.own<|zA acc,.val<|.int i,.val (.int j)]=cI cL:=by
       have J:2<=lim:=by omega
       have H:i6 (.tup [.int i,.int j]) (.tup [.int k,.int k])=cI (.bl cL):=by rw[br,o]
       simp[J,H]
      rw[this];simp
theorem Xp{k:Int}(z:Cell) : ∀(bs acc:List (Int×Int)) (I O:Cell),(∀b∈bs,b.1<=b.2)->acc.length+bs.length<=60->∃Y J,qU (.tp [3,4]) G8 (zA bs) [.val (.int k),z,.own<|zA acc,I,O]=cI (.next [.val (.int k),z,.own<|zA<|acc++qc k bs,Y,J])
 | [],acc,I,O,_,_=>⟨I,O,by rw[show qc k []=[]from rfl,Rz];rfl⟩
 | (i,j)::bs,acc,I,O,h,hl=>by have d:=XG k [(i,j)];simp only[OK,RL]at hl d;obtain⟨Y,J,q⟩:=Xp (k:=k) z bs (acc++qc k [(i,j)]) (.val<|.int i) (.val<|.int j) (λx e=>h x<|Ow _ e) (by rw[OX];omega);refine⟨Y,J,?_⟩;rw[dU,<- SS,<- q];have a:qz (.tp [3,4]) (.tup [.int i,.int j]) [.val (.int k),z,.own<|zA acc,I,O]=cI [.val (.int k),z,.own<|zA acc,.val<|.int i,.val (.int j)]:=rfl;show qU (.tp [3,4]) G8 (.tup [.int i,.int j]::zA bs) _=_;rw[jz,a];simp only[Og];rw[EU (h (i,j) Ot) z acc ⋯];rfl
theorem Ay{k:Int}(bs:List (Int×Int))(h : ∀b∈bs,b.1<=b.2)(O:bs.length<=60):kf [.int k,.lst (zA bs)]=cI (.own<|zA<|ZX<|qc k bs):=by
 have f:=XG k bs;have Y:=Yi (bs:=qc k bs) ⋯;obtain⟨z,I,q⟩:=Xp (k:=k) (.val<|.lst<|zA bs) bs [] .no .no h (by simpa using O);rw[List.nil_append]at q;have a:tW (jx 5 [.int k,.lst (zA bs)])=cI (.next [.val (.int k),.val<|.lst<|zA bs,.own<|zA [],.no,.no]):=rfl;have d:tU [.val (.int k),.val<|.lst<|zA bs,.own<|zA [],.no,.no]=cI (.next [.val (.int k),.val<|.lst<|zA bs,.own<|zA<|qc k bs,z,I]):=by show Jb _ _ G8 _=_;rw[JV];exact q
 have e:mU [.val (.int k),.val<|.lst<|zA bs,.own<|zA<|qc k bs,z,I]=cI (.ret<|.own<|zA<|ZX<|qc k bs):=by unfold mU;simp[jo,Y]
 rw[mT];exact xj<|zG a<|zG d e
noncomputable def gV(p:Int)(a b:Nat)(c:Int)(v:Vc):Vc:=λi=>if i=b then (v b+c*v a)%p else v i
noncomputable def qN(p:Int)(w:DV)(r a b:Nat)(c I:Int)(T:DQ):Nat->Nat->Nat->Int:=λk i j=>
 if qa w k=r then (if i=b then (T k b j+c*T k a j)%p else T k i j)else if jX w k=r then (if j=a then (T k i a+I*T k i b)%p else T k i j)else T k i j
noncomputable def uc(p:Int)(r a b:Nat)(c:Int)(x:gv):gv:=⟨x.s,x.n,λd=>if d=r then gV p a b c (x.v d)else x.v d⟩
theorem WX(p:Int)(r a b:Nat)(c:Int)(x:gv)(I:Nat):(uc p r a b c x).has I=x.has I:=rfl
theorem Zi(w:DV)(k:Nat):jX w k≠qa w k:=by unfold jX qa;split<;>omega
section
variable{p:Int}{w:DV}{wd:DK}{T:DQ}{m N:Nat}{A:Nat->gv}{r a b:Nat}{c c':Int}
theorem k4(v:Vc)(i:Nat):gV p a b c v i%p=(v i+(if i=b then c*v a else 0))%p:=by
 unfold gV;by_cases h:i=b
 ·rw[DZ h,DZ h,Pc,h]
 ·rw[DJ h,DJ h,SN]
theorem Fx(z:0<p){v:Vc}{n:Nat}(h : ∀i,i<n->0<=v i/\v i<p) : ∀i,i<n->0<=gV p a b c v i/\gV p a b c v i<p:=λi d=>by
 unfold gV;split
 ·exact⟨Pb _ ⋯,OQ _ z⟩
 ·exact h i d
theorem By(I:qa w k=r)(n:Nat)(v:Vc)(i:Nat):app (qN p w r a b c c' T k) n v i%p=gV p a b c (app (T k) n v) i%p:=by
 rw[k4];unfold app;by_cases h:i=b
 ·subst h
  rw[DZ rfl];have e:zf (λj=>qN p w r a i c c' T k i j*v j) n%p=zf (λj=>T k i j*v j+c*(T k a j*v j)) n%p:=zy λj _=>by unfold qN;rw[DZ I,DZ rfl,Om,Pc,<- Om,TH,PF]
  rw[e,z9,zZ]
 ·rw[DJ h,SN]
  congr 1;exact zk λj _=>by unfold qN;rw[DZ I,DJ h]
theorem WS{n x:Nat}(hx:x<n)(f:Nat->Int):zf (λj=>if j=x then f j else 0) n=f x:=by rw[zK (f:=λj=>if j=x then f j else 0) hx λj _ z=>DJ z,DZ rfl]
theorem Bz(J:jX w k=r)(I:(c+c'+(if a=b then c*c' else 0))%p=0){n:Nat}(L:a<n)(O:b<n)(v:Vc)(i:Nat):app (qN p w r a b c c' T k) n (gV p a b c v) i%p=app (T k) n v i%p:=by
 have Y:qa w k≠r:=λz=>Zi w k (by rw[J,z]);unfold app;have e:zf (λj=>qN p w r a b c c' T k i j*gV p a b c v j) n%p=zf (λj=>T k i j*v j+((if j=b then T k i j*(c*v a)else 0)+(if j=a then (c'*T k i b)*(v j+(if j=b then c*v a else 0))else 0))) n%p:=zy λj _=>by
  rw[Om,k4];have d:qN p w r a b c c' T k i j%p=(T k i j+(if j=a then c'*T k i b else 0))%p:=by
   unfold qN;rw[DJ Y,DZ J];by_cases h:j=a
   ·rw[DZ h,DZ h,Pc,h]
   ·rw[DJ h,DJ h,SN]
  rw[d,<- Om];congr 1;by_cases g:j=b<;>by_cases l:j=a<;>simp only[g,l,if_true,if_false,TH,Tp,SN,Sn,Int.zero_add,Int.zero_mul]<;>(try split)<;>omega
 rw[e,z9,z9,WS O<|λj=>T k i j*(c*v a),WS L (λj=>(c'*T k i b)*(v j+(if j=b then c*v a else 0)))];have f:T k i b*(c*v a)+c'*T k i b*(v a+if a=b then c*v a else 0)=T k i b*v a*(c+c'+(if a=b then c*c' else 0)):=by
  by_cases h:a=b
  ·simp only[h,if_true]
   grind
  ·simp only[h,if_false]
   grind
 rw[f,OE,Om<|T k i b*v a,I];simp
theorem Vq(I:qa w k≠r)(J:jX w k≠r):qN p w r a b c c' T k=T k:=by funext i j;unfold qN;rw[DJ I,DJ J]
theorem cu(hp:0<p)(hc:(c+c'+(if a=b then c*c' else 0))%p=0)(J:a<wd r)(L:b<wd r){x:gv}(h:C4 p w wd T m x):C4 p w wd (qN p w r a b c c' T) m (uc p r a b c x):=by
 refine⟨h.n1,h.le,λd i g f=>?_,λk u g i f=>?_⟩
 ·show 0<=(if d=r then gV p a b c (x.v d)else x.v d) i/\(if d=r then gV p a b c (x.v d)else x.v d) i<p
  by_cases e:d=r
  ·rw[DZ e];exact Fx hp (λi f=>h.i4 d i g f) i f
  ·rw[DJ e];exact h.i4 d i g f
 ·rw[WX]at g ⊢
  have j:=h.arr k u g;show app _ _ (if jX w k=r then gV p a b c (x.v<|jX w k)else x.v (jX w k)) i%p=(if x.has (qa w k)=cL then (if qa w k=r then gV p a b c (x.v<|qa w k)else x.v (qa w k)) i else 0)%p;by_cases Y:qa w k=r
  ·have I:jX w k≠r:=λz=>Zi w k (by rw[Y,z])
   rw[DJ I,DZ Y,By Y,k4];have s:i<wd (qa w k):=f;have t:a<wd (qa w k):=by rw[Y];exact J
   have l:=j i s;have n:=j a t;by_cases o:x.has (qa w k)=cL
   ·rw[DZ o]at l n ⊢
    rw[k4,OE,l];by_cases O:i=b
    ·rw[DZ O,DZ O,Om,n,<- Om,<- OE]
    ·rw[DJ O,DJ O,<- OE]
   ·rw[DJ o]at l n ⊢
    rw[OE,l];by_cases O:i=b
    ·rw[DZ O,Om,n];simp
    ·rw[DJ O];simp
  ·rw[DJ Y]
   by_cases I:jX w k=r
   ·rw[DZ I,Bz I hc (by rw[I];exact J) (by rw[I];exact L)]
    exact j i f
   ·rw[DJ I,Vq Y I]
    exact j i f
theorem sM(t:Vc)(q:DV)(u:Nat->Vc)(i:Nat):zf (λj=>if q j=cL then t j*gV p a b c (u j) i else 0) N%p=gV p a b c (λi=>zf (λj=>if q j=cL then t j*u j i else 0) N) i%p:=by
 rw[k4];have e:zf (λj=>if q j=cL then t j*gV p a b c (u j) i else 0) N%p=zf (λj=>(if q j=cL then t j*u j i else 0)+(if i=b then c*(if q j=cL then t j*u j a else 0)else 0)) N%p:=zy λj _=>by
  by_cases h:q j=cL
  ·rw[DZ h,DZ h,DZ h,Om,k4,<- Om,Tp]
   by_cases d:i=b
   ·rw[DZ d,DZ d];congr 2;exact RW _ _ _
   ·rw[DJ d,DJ d,Sn]
  ·rw[DJ h,DJ h,DJ h];split<;>simp
 rw[e,z9];by_cases d:i=b
 ·rw[DZ d,zk (g:=λj=>c*(if q j=cL then t j*u j a else 0)) λj _=>DZ d,zZ]
 ·rw[DJ d,zk (g:=λ_=>0) λj _=>DJ d,zz]
theorem Fy(I:(c+c'+(if a=b then c*c' else 0))%p=0){n:Nat}(J:a<n)(L:b<n){v:Vc}(h : ∀i,i<n->gV p a b c v i%p=0) : ∀i,i<n->v i%p=0:=λi g=>by
 have d:=h i g;rw[k4]at d;by_cases z:i=b
 ·rw[DZ z]at d
  subst z;have f:=h a J;rw[k4]at f;by_cases O:a=i
  ·subst O
   rw[DZ rfl]at f I;have e:v a=(v a+c*v a)*(1+c') - v a*(c+c'+c*c'):=by grind
   rw[e,Sy,Om,f,Om<|v a,I];simp
  ·rw[DJ O,SN]at f
   rw[OE,Om,f]at d;simpa using d
 ·rw[DJ z,SN]at d
  exact d
theorem Fw(I:(c+c'+(if a=b then c*c' else 0))%p=0)(v:Vc)(i:Nat):gV p a b c (gV p a b c' v) i%p=v i%p:=by
 rw[k4,OE,k4];by_cases z:i=b
 ·subst z
  rw[DZ rfl,DZ rfl,Om c,k4,<- Om,<- OE];have e:v i+c'*v a+c*(v a+if a=i then c'*v a else 0)=v i+v a*(c+c'+if a=i then c*c' else 0):=by
   by_cases h:a=i
   ·simp only[h,if_true];grind
   ·simp only[h,if_false];grind
  rw[e,OE,Om,I];simp
 ·rw[DJ z,DJ z]
  simp
theorem fi(hp:0<p)(O:(c+c'+(if a=b then c*c' else 0))%p=0)(J:a<wd r)(L:b<wd r)(D:h9 p w wd T m N A):h9 p w wd (qN p w r a b c c' T) m N λj=>uc p r a b c (A j):=by
 refine⟨λj Y=>cu hp O J L<|D.ok j Y,λd z v=>?_,λd z t k j Y g=>?_,D.cnt⟩
 ·by_cases e:d=r
  ·subst e
   obtain⟨t,h⟩:=D.sp d z<|gV p a b c' v;refine⟨t,λi f=>?_⟩;show v i%p=zf (λj=>if (A j).has d=cL then t j*(if d=d then gV p a b c ((A j).v d)else (A j).v d) i else 0) N%p;simp only[if_true];rw[sM,k4,<- Fw O v i,k4,OE,h i f];by_cases I:i=b
   ·rw[DZ I,DZ I,Om,h a J,<- Om,<- OE]
   ·rw[DJ I,DJ I,<- OE]
  ·obtain⟨t,h⟩:=D.sp d z v
   refine⟨t,λi f=>?_⟩;show v i%p=zf (λj=>if (A j).has d=cL then t j*(if d=r then gV p a b c ((A j).v d)else (A j).v d) i else 0) N%p;simp only[DJ e];exact h i f
 ·rw[WX]at g
  refine D.inj d z t (λi f=>?_) j Y g;by_cases e:d=r
  ·subst e
   refine Fy (v:=λi=>zf (λj=>if (A j).has d=cL then t j*(A j).v d i else 0) N) O J L (λi f=>?_) i f;rw[<- sM];have:=k i f;refine Se ?_ this;congr 1;exact zk λj _=>by show _=if (A j).has d=cL then t j*(if d=d then gV p a b c ((A j).v d)else (A j).v d) i else 0;rw[DZ rfl]
  ·refine Se ?_ (k i f)
   congr 1;exact zk λj _=>by show _=if (A j).has d=cL then t j*(if d=r then gV p a b c ((A j).v d)else (A j).v d) i else 0;rw[DJ e]
theorem mZ(Y:0<p)(I : ∀k x y,0<=T k x y/\T k x y<p) : ∀k x y,0<=qN p w r a b c c' T k x y/\qN p w r a b c c' T k x y<p:=λk x y=>by
 have O : ∀z:Int,0<=z%p/\z%p<p:=λz=>⟨Pb _ ⋯,OQ _ Y⟩;unfold qN;split
 ·split
  ·exact O _
  ·exact I k x y
 ·split
  ·split
   ·exact O _
   ·exact I k x y
  ·exact I k x y
end
noncomputable def IC(S E:DK)(j:Nat):gv:=⟨S j,E j - S j+1,λ_ _=>0⟩
noncomputable def qk(S E:DK)(N r:Nat):List Nat:=gi (IC S E) N r
noncomputable def aO(S E:DK)(N j:Nat):gv:=⟨S j,E j - S j+1,λr i=>if (qk S E N r).getD i N=j then 1 else 0⟩
noncomputable def mn(S E:DK)(N r:Nat):Nat:=(qk S E N r).length
noncomputable def pe(w:DV)(S E:DK)(N k i j:Nat):Int:=if (qk S E N<|qa w k).getD i N=(qk S E N<|jX w k).getD j (N+1)then 1 else 0
section
variable{S E:DK}{N r:Nat}{w:DV}{p:Int}{m:Nat}
theorem ng:(qk S E N r).Nodup:=List.Nodup.sublist Sa Tj
theorem U_{j:Nat}:j∈qk S E N r↔j<N/\(aO S E N j).has r=cL:=by unfold qk gi;rw[Pn,Oj];rfl
theorem WY{j:Nat}(h:j<N)(I:(aO S E N j).has r=cL) : ∃c,c<mn S E N r/\(qk S E N r)[c]? = cI j:=by obtain⟨c,z⟩:=L6<|U_.mpr ⟨h,I⟩;exact⟨c,(Ol.mp z).1,z⟩
theorem ZV{c d:Nat}(h:c<mn S E N r) : ∃j,(qk S E N r)[c]? = cI j/\(qk S E N r).getD c d=j/\j<N/\(aO S E N j).has r=cL:=by have e:=Oe (l:=qk S E N r) h;obtain⟨a,b⟩:=U_.mp<|OS e;exact⟨_,e,by rw[Oh,e];rfl,a,b⟩
theorem Yg{c I j:Nat}(J:(qk S E N r)[c]? = cI j)(L:(qk S E N r)[I]? = cI j):c=I:=by exact(List.getElem?_inj (Ol.mp J).1 ng).mp (J.trans L.symm)
theorem Xr{c j:Nat}(h:c<mn S E N r):(aO S E N j).v r c=if (qk S E N r)[c]? = cI j then 1 else 0:=by
 obtain⟨I,a,b,_⟩:=ZV (d:=N) h;show(if (qk S E N r).getD c N=j then (1:Int)else 0)=_;rw[a,b];by_cases z:I=j
 ·rw[DZ z,DZ (by rw[z])]
 ·rw[DJ z,DJ (λq=>z<|OW q)]
theorem oZ(L:Pr p)(J : ∀j,j<N->S j<=E j/\E j<=m):h9 p w (mn S E N) (pe w S E N) m N (aO S E N):=by
 have two:=L.two;refine⟨λj O=>⟨by show 1<=_+1;omega,by show S j+(E j - S j+1)<=m+1;have:=J j O;omega,λr i _ _=>?_,λk G l i g=>?_⟩,λr u v=>?_,λr u t B j O l=>?_,λr u=>rfl⟩
 ·show 0<=(if _ then (1:Int)else 0)/\(if _ then (1:Int)else 0)<p
  split<;>omega
 ·obtain⟨Y,a,b⟩:=WY O l
  obtain⟨A,h,x,y,o⟩:=ZV (d:=N) g;have e:app (pe w S E N k) (mn S E N<|jX w k) ((aO S E N j).v (jX w k)) i=pe w S E N k i Y:=by
   unfold app;rw[zK (f:=λc=>pe w S E N k i c*(aO S E N j).v (jX w k) c) a λc s I=>by rw[Xr s,DJ<|λq=>I<|Yg q b,Sn]]
   rw[Xr a,DZ b,RA]
  rw[e];congr 1;unfold pe;rw[show(qk S E N<|jX w k).getD Y (N+1)=j by rw[Oh,b];rfl];by_cases n:(aO S E N j).has (qa w k)=cL
  ·rw[DZ n];rfl
  ·rw[DJ n,x,DJ (λz=>n<|by rw[<- z];exact o)]
 ·refine⟨λj=>zf (λc=>if (qk S E N r)[c]? = cI j then v c else 0)<|mn S E N r,λi g=>?_⟩
  obtain⟨A,h,x,y,o⟩:=ZV (d:=N) g;rw[zK (f:=λj=>if (aO S E N j).has r=cL then zf (λc=>if (qk S E N r)[c]? = cI j then v c else 0) (mn S E N r)*(aO S E N j).v r i else 0) y λj O I=>by rw[Xr g,show(if (qk S E N r)[i]? = cI j then (1:Int)else 0)=0 from DJ<|λq=>I<|OW<|q.symm.trans h,Sn,ite_self]]
  rw[DZ o,Xr g,DZ h,RA,zK (f:=λc=>if (qk S E N r)[c]? = cI A then v c else 0) g λc s I=>DJ λq=>I<|Yg q h,DZ h]
 ·obtain⟨Y,a,b⟩:=WY O l
  have:=B Y a;rw[zK (f:=λj=>if (aO S E N j).has r=cL then t j*(aO S E N j).v r Y else 0) O λC F I=>by rw[Xr a,show(if (qk S E N r)[Y]? = cI C then (1:Int)else 0)=0 from DJ<|λq=>I<|OW<|q.symm.trans b,Sn,ite_self]]at this
  rw[DZ l,Xr a,DZ b,RA]at this;exact this
theorem pb(z:Pr p) : ∀k x y,0<=pe w S E N k x y/\pe w S E N k x y<p:=λk x y=>by have:=z.two;unfold pe;split<;>omega
end
noncomputable def yx:=jn 8<|zS (kU 4<|ye zC)<|zS (Jb (jI<|ze 2) (.nm 5)<|zS (jE 6<|zJ ja<|zc (ze 0)<|zc (zw qg (ze 1)<|ze 5) zC)<|zS (jE 7<|zw kj (ze 6)<|ze 3)<|jS 4<|qe<|zc (ze 7)<|zc (zw qg (ze 7)<|zw kj (zw K1 (ze 6)<|ze 3)<|zw vg (ze 3)<|ze 7) zC)<|Ja<|Ym<|zq 4
noncomputable def xV:List D->Option (D×TT):=uw 8<|IF (jE 2<|xh<|zR (jI<|zw qg (Yn<|ze 0)<|zx<|.int 1) (.nm 0) 1 [1] jO (xh<|zR (jI<|wG<|zq 1) (.nm 0) 1 [0,1] (sB<|vn rk rk (dr (zL<|dr (zq 2)<|ze 0)<|zx<|.int 0) (ze 1)<|dr (zL<|dr (zq 2)<|ze 0)<|zx<|.int 1) (ze 0)))<|BJ 3 (KY [3] (xW<|ze 0) (.tp [4,5]) (J4 (Vu [3] (.tp [6,7]) (zJ jv<|zc (ze 4)<|zc (ze 5) zC))<|BV<|W3 (zO<|zL<|dr (zq 2)<|ze 7) (.nm 0) 1 [2,6] (zR (zO<|zL<|dr (zq 1)<|ze 2) (.nm 0) 1 [0] jO (ur<|zw ft (ze 1)<|ze 0))))<|xh<|zR (zO<|zq 2) (.nm 0) 1 [] jO (wG<|zq 0)
noncomputable def k8:List D->List D->TT->Option TT:=Ic 14 2<|J4 (Vu [2] (.nm 7) (dr (jR<|zR (jI<|ze 0) (.nm 0) 1 [0,6] (sB<|zw ft (zw kj (zw ya (ze 0)<|ze 2)<|ze 1)<|zx<|.int 1) (ze 0))<|zx<|.int 0))<|KY [2] (xW<|ze 1) (.tp [8,9]) (J4 (Vu [2] (.tp [10,11]) (zJ jv<|zc (ze 8)<|zc (ze 9) zC))<|BF [2] 12 (ze 8) (λk=>J4 (xr (xi (sB<|zw ft (ze 11)<|ze 3)<|sB<|zw ft (ze 4)<|ze 5)<|vy 12 (ze 5) (zR (zO<|zL<|dr (zq 12)<|ze 5) (.nm 0) 1 [0,6] jO (zw kj (zw ya (ze 2)<|ze 0)<|ze 1)) k)<|J4 (xr (xi (sB<|zw ft (ze 11)<|ze 3)<|sB<|zw i6 (ze 4)<|ze 5)<|vy 12 (ze 5) (zR (rO (dr (zq 12)<|ze 4)<|dr (zq 12)<|ze 5) (.tp [0,1]) 2 [0,6] jO (zw kj (zw qg (ze 1)<|zw ya (ze 3)<|ze 0)<|ze 2)) k)<|vA [12,2] 13 (λm=>J4 (xr (xi (sB<|zw ft (ze 10)<|ze 3)<|sB<|zw ft (ze 4)<|ze 5)<|vz 13 (ze 5) (zw kj (zw ya (ze 7)<|dr (zq 13)<|ze 5)<|ze 0) k m)<|xr (xi (sB<|zw ft (ze 10)<|ze 3)<|sB<|zw i6 (ze 4)<|ze 5)<|vz 13 (ze 4) (zw kj (zw vg (dr (zq 13)<|ze 4)<|zw ya (ze 6)<|dr (zq 13)<|ze 5)<|ze 0) k m) k))
noncomputable def yw:=jn 11<|zS (cz 5 6 xV (zc (ze 3)<|zc (ze 4) zC)<|J4 (KY [6] (Xd<|ze 5) (.tp [7,8]) (KY [6] (jI<|zw ya (zx<|.int 2)<|ze 8) (.nm 9) (J4 (Vu [6] (.nm 10) (zJ ja<|zc (ze 0)<|zc (zw qg (zw qg (ze 1)<|zw ya (zx<|.int 14)<|ze 7)<|ze 9) zC))<|mI k8 (zc (ze 2)<|zc (ze 3) zC)<|zc (ze 7)<|zc (zw kj (ze 10)<|ze 8)<|zc (zw kj (zw K1 (ze 10)<|zx<|.int 7)<|ze 8)<|zc (zw qg (zx<|.int 1)<|zw kj (zw K1 (ze 10)<|zx<|.int 49)<|zw vg (ze 2)<|zx<|.int 1) zC))) Gv)<|xM<|zJ qt<|zc (ze 2)<|zc (ze 3)<|zc (ze 5)<|zc (ze 6) zC
noncomputable def Vv(n:Nat)(v:Vc):List Int:=(Od n).map v
noncomputable def K3(h v:Nat)(f:DW):List (List Int):=(Od h).map λi=>Vv v<|f i
noncomputable def xK(w:DV)(wd:DK)(T:DQ)(m:Nat):TT:=(Od m).map λk=>K3 (g9 w wd k) (hD w wd k)<|T k
@[simp] theorem mM(n v):(Vv n v).length=n:=by simp[Vv]
@[simp] theorem WC(h v f):(K3 h v f).length=h:=by simp[K3]
@[simp] theorem WO(w wd T m):(xK w wd T m).length=m:=by simp[xK]
theorem bp(n v):BM (Vv n v) = .lst (zP n v):=by simp[BM,Vv,jt,Pw,SE]
theorem bo(h v f):BL (K3 h v f) = .lst (yt h v f):=by unfold BL K3 yt;rw[Pw];congr 1;exact OB λi _=>bp v<|f i
theorem pU(w wd T m):Bg (xK w wd T m) = .lst (yG w wd T m):=by unfold Bg xK yG;rw[Pw];congr 1;exact OB λk _=>bo _ _ _
theorem wY : ∀(l:List Int),wc (l.map D.int)=cI l
 | []=>rfl
 | i::l=>by show(wc<|l.map D.int).map _=_;rw[wY l];rfl
theorem iD(n v):wc (zP n v)=cI (Vv n v):=by
 have:zP n v=(Vv n v).map D.int:=by simp[Vv,jt,Pw,SE]
 rw[this,wY]
theorem mN{n:Nat}{u v:Vc}(h : ∀i,i<n->u i=v i):Vv n u=Vv n v:=OB λi a=>h i<|Oj.mp a
theorem mz{h v:Nat}{f g:DW}(e : ∀i,i<h->∀j,j<v->f i j=g i j):K3 h v f=K3 h v g:=OB λi a=>mN<|e i<|Oj.mp a
theorem qo{w:DV}{wd:DK}{T U:DQ}{m:Nat}(e : ∀k,k<m->∀i,i<g9 w wd k->∀j,j<hD w wd k->T k i j=U k i j):xK w wd T m=xK w wd U m:=OB λk a=>mz<|e k<|Oj.mp a
theorem Jd{I:Type}{n b:Nat}{f:Nat->I}{x:I}(J:b<n):((Od n).map f).set b x=(Od n).map λi=>if i=b then x else f i:=by
 apply Sx;intro i;rw[List.getElem?_set];by_cases h:b=i
 ·subst h;simp[J]
 ·by_cases a:i<n
  ·simp[h,a,PH h]
  ·simp[h,a]
theorem mK{n b:Nat}{v:Vc}{x:Int}(I:b<n):(Vv n v).set b x=Vv n λj=>if j=b then x else v j:=Jd I
theorem WA{h v b:Nat}{f:DW}{g:Vc}(I:b<h):(K3 h v f).set b (Vv v g)=K3 h v λi=>if i=b then g else f i:=by
 unfold K3;rw[Jd I];refine OB λi _=>?_;by_cases e:i=b
 ·rw[DZ e];exact congrArg (Vv v) (DZ e).symm
 ·rw[DJ e];exact congrArg (Vv v) (DJ e).symm
theorem WN{w:DV}{wd:DK}{T:DQ}{m k:Nat}{f:DW}(I:k<m):(xK w wd T m).set k (K3 (g9 w wd k) (hD w wd k) f)=xK w wd (λz=>if z=k then f else T z) m:=by
 unfold xK;rw[Jd I];refine OB λz _=>?_;by_cases e:z=k
 ·subst e;rw[DZ rfl];exact congrArg (K3 _ _) (DZ rfl).symm
 ·rw[DJ e];exact congrArg (K3 _ _) (DJ e).symm
theorem ZE{w:DV}{wd:DK}{T:DQ}{m k:Nat}(I:k<m):(xK w wd T m)[k]? = cI (K3 (g9 w wd k) (hD w wd k)<|T k):=by simp[xK,I]
theorem mx{h v i:Nat}{f:DW}(I:i<h):(K3 h v f)[i]? = cI (Vv v<|f i):=by simp[K3,I]
theorem kQ{T:Tg}{F:YF}(P:Nat->Ctx->TT->Prop) : ∀(J:List D) (k:Nat) (γ:Ctx) (Z:TT),P k γ Z->(∀i d γ Z,J[i]? = cI d->P (k+i) γ Z->∃γ1 r,qz T d γ=cI γ1/\F γ1 Z=cI r/\P (k+i+1) r.1 r.2)->∃r,K5 T F J γ Z=cI r/\P (k+J.length) r.1 r.2
 | [],k,γ,Z,h,_=>⟨(γ,Z),rfl,h⟩
 | d::J,k,γ,Z,h,step=>by
  obtain⟨γ1,r,f,g,j⟩:=step 0 d γ Z rfl h;obtain⟨m,z,I⟩:=kQ P J (k+1) r.1 r.2 j λi e a b l O=>by have:=step (i+1) e a b (by simpa using l) (by rw[show k+(i+1)=k+1+i by omega];exact O);rw[show k+(i+1)+1=k+1+i+1 by omega]at this;exact this
  refine⟨m,?_,by rw[OK,show k+(J.length+1)=k+1+J.length by omega];exact I⟩;show(qz T d γ).bind _=_;rw[f,Og,g,Og];exact z
theorem mH{j k N:Nat}{F:Nat->YF}(P:Nat->Ctx->TT->Prop){γ:Ctx}{Z:TT}(J:P 0 γ Z)(step : ∀m γ Z,m<N->P m γ Z->j<γ.length/\∃r,F m (γ.set j .no) Z=cI r/\(r.2[k]?).map SI=cI N/\P (m+1) r.1 r.2) : ∃r,ZM j F k N N γ Z=cI r/\P N r.1 r.2:=by
 have z : ∀n γ Z,n<=N->P (N - n) γ Z->∃r,ZM j F k N n γ Z=cI r/\P N r.1 r.2:=by
  intro n
  induction n with
  | zero=>exact λγ Z _ h=>⟨(γ,Z),rfl,h⟩
  | succ n I=>
   intro γ Z g h;obtain⟨f,r,b,d,a⟩:=step (N - (n+1)) γ Z ⋯ h;rw[show N - (n+1)+1=N - n by omega]at a;obtain⟨e,O,Y⟩:=I r.1 r.2 ⋯ a;refine⟨e,?_,Y⟩;show(if γ.length<=j then cR else _)=_;rw[DJ ⋯,b,Og,DZ d];exact O
 exact z N γ Z (Ou _) (by rw[Nat.sub_self];exact J)
theorem Vw{F G:YF}{γ γ':Ctx}{Z Z':TT}{r:Option (Ctx×TT)}(h:F γ Z=cI (γ',Z'))(g:G γ' Z'=r):J4 F G γ Z=r:=by show(F γ Z).bind _=_;rw[h];exact g
theorem vm{t:CO Bool}{F:YF}{γ:Ctx}{Z:TT}(h:t γ=cI dd):xr t F γ Z=cI (γ,Z):=by show(t γ).bind _=_;rw[h];rfl
theorem XO{t:CO Bool}{F:YF}{γ:Ctx}{Z:TT}(h:t γ=cI cL):xr t F γ Z=F γ Z:=by show(t γ).bind _=_;rw[h];rfl
noncomputable def X3:CO D:=dr (jR<|zR (jI<|ze 0) (.nm 0) 1 [0,6] (sB<|zw ft (zw kj (zw ya (ze 0)<|ze 2)<|ze 1)<|zx<|.int 1) (ze 0))<|zx<|.int 0
noncomputable def T9:CO Bool:=xi (sB<|zw ft (ze 11)<|ze 3)<|sB<|zw ft (ze 4)<|ze 5
noncomputable def U0:CO Bool:=xi (sB<|zw ft (ze 11)<|ze 3)<|sB<|zw i6 (ze 4)<|ze 5
noncomputable def T6:CO Bool:=xi (sB<|zw ft (ze 10)<|ze 3)<|sB<|zw ft (ze 4)<|ze 5
noncomputable def T7:CO Bool:=xi (sB<|zw ft (ze 10)<|ze 3)<|sB<|zw i6 (ze 4)<|ze 5
noncomputable def O6:CO (List D):=zR (zO<|zL<|dr (zq 12)<|ze 5) (.nm 0) 1 [0,6] jO (zw kj (zw ya (ze 2)<|ze 0)<|ze 1)
noncomputable def O7:CO (List D):=zR (rO (dr (zq 12)<|ze 4)<|dr (zq 12)<|ze 5) (.tp [0,1]) 2 [0,6] jO (zw kj (zw qg (ze 1)<|zw ya (ze 3)<|ze 0)<|ze 2)
noncomputable def O9:CO D:=zw kj (zw ya (ze 7)<|dr (zq 13)<|ze 5)<|ze 0
noncomputable def Pt:CO D:=zw kj (zw vg (dr (zq 13)<|ze 4)<|zw ya (ze 6)<|dr (zq 13)<|ze 5)<|ze 0
noncomputable def fu(k m:Nat):YF:=J4 (xr T6<|vz 13 (ze 5) O9 k m)<|xr T7<|vz 13 (ze 4) Pt k m
noncomputable def Cm(k:Nat):YF:=J4 (xr T9<|vy 12 (ze 5) O6 k)<|J4 (xr U0<|vy 12 (ze 5) O7 k)<|vA [12,2] 13 (fu k) k
noncomputable def fv:YF:=J4 (Vu [2] (.tp [10,11]) (zJ jv<|zc (ze 8)<|zc (ze 9) zC))<|BF [2] 12 (ze 8) Cm
theorem nc:k8=Ic 14 2 (J4 (Vu [2] (.nm 7) X3)<|KY [2] (xW<|ze 1) (.tp [8,9]) fv):=rfl
abbrev cst(p:Int)(m:Nat)(w:DV)(r a b:Nat)(t:Int)(o c8 c9 c10 c11 c12 c13:Cell):Ctx:=[.val (.int p),.val (.str (qP m w)),.no,.val (.int r),.val (.int a),.val (.int b),.val (.int t),o,c8,c9,c10,c11,c12,c13]
section
variable{p:Int}{m:Nat}{w:DV}{wd:DK}{U:DQ}{r a b k:Nat}{t o c c':Int}{c8 c9 c10 c11 c12 c13:Cell}
theorem eZ(e:Nat):T9 (cst p m w r a b t c8 c9 c10 c11 (.val<|.int e) c12 c13)=cI (decide<|e=r/\a=b):=by by_cases d:e=r<;>by_cases f:a=b<;>simp[T9,d,f]<;>omega
theorem eY(e:Nat):U0 (cst p m w r a b t c8 c9 c10 c11 (.val<|.int e) c12 c13)=cI (decide<|e=r/\a≠b):=by by_cases d:e=r<;>by_cases f:a=b<;>simp[U0,d,f]<;>omega
theorem WR(e:Nat):T6 (cst p m w r a b t c8 c9 c10 (.val<|.int e) c11 c12 c13)=cI (decide<|e=r/\a=b):=by by_cases d:e=r<;>by_cases f:a=b<;>simp[T6,d,f]<;>omega
theorem WQ(e:Nat):T7 (cst p m w r a b t c8 c9 c10 (.val<|.int e) c11 c12 c13)=cI (decide<|e=r/\a≠b):=by by_cases d:e=r<;>by_cases f:a=b<;>simp[T7,d,f]<;>omega
theorem FQ(z:0<p)(Y:0<=t/\t<=7){h v:Nat}(I:v<=lim)(f:DW)(J:b<h):O6 (cst p m w r a b t c8 c9 c10 c11 c12 (.val<|.lst<|yt h v f) c13)=cI (zP v λj=>t*f b j%p):=by
 have e:(yt h v f)[b]? = cI (.lst<|zP v<|f b):=by simp[yt,J]
 have O : ∀x,QM t x=cL:=λx=>yC _ _ ⋯ ⋯;unfold O6;simp only[kM,kB,xp,vG,qu,jW,Oq,kv,zE,zY,vq,Og,OJ,jN,Zf,jJ,J,if_true,e,yo,I];rw[jt,jt];refine zD _ _ λj d=>zF rfl rfl ?_;simp[jL,xm,O,z]
theorem FP(I:0<p)(ht:0<=t/\t<=7){h v:Nat}(O:v<=lim)(f:DW)(J:a<h)(L:b<h):O7 (cst p m w r a b t c8 c9 c10 c11 c12 (.val<|.lst<|yt h v f) c13)=cI (zP v λj=>(f b j+t*f a j)%p):=by
 have d:(yt h v f)[b]? = cI (.lst<|zP v<|f b):=by simp[yt,L]
 have e:(yt h v f)[a]? = cI (.lst<|zP v<|f a):=by simp[yt,J]
 have Y : ∀x,QM t x=cL:=λx=>yC _ _ ⋯ ⋯;have z:=XN v (f a)<|f b;unfold O7;simp only[kM,Ga,vG,qu,jW,Oq,kv,zE,zY,vq,Og,OJ,jN,Zf,jJ,L,J,if_true,d,e,z,OC,OM,O];rw[jt];refine zD _ _ λj g=>zF rfl rfl ?_;simp[jL,xm,Y,I]
theorem FD(z:0<p)(O:0<=o/\o<=7){v:Nat}(f:Vc)(J:b<v):O9 (cst p m w r a b t (.val<|.int o) c8 c9 c10 c11 c12<|.val<|.lst<|zP v f)=cI (.int<|o*f b%p):=by have I : ∀x,QM o x=cL:=λx=>yC _ _ ⋯ ⋯;unfold O9;simp[J,I,z]
theorem FC(z:0<p)(O:0<=t/\t<=7){v:Nat}(f:Vc)(J:a<v)(L:b<v):Pt (cst p m w r a b t c8 c9 c10 c11 c12 c13<|.val<|.lst<|zP v f)=cI (.int<|(f a - t*f b)%p):=by have I : ∀x,QM t x=cL:=λx=>yC _ _ ⋯ ⋯;unfold Pt;simp[J,L,I,z,vg,dI]
end
section
variable{p:Int}{m:Nat}{w:DV}{wd:DK}{U:DQ}{r a b k:Nat}{t o c c':Int}{c8 c9 c10 c11 c12 c13:Cell}
theorem Yu{γ:Ctx}{f:CO (List D)}{g:Vc}(L:k<m)(J:b<g9 w wd k)(I:γ[5]? = cI (.val<|.int b))(O:f (γ.set 12<|.val<|.lst<|yt (g9 w wd k) (hD w wd k)<|U k)=cI (zP (hD w wd k) g)) :
 vy 12 (ze 5) f k γ (xK w wd U m)=cI (γ,xK w wd (λz=>if z=k then (λi=>if i=b then g else U k i)else U z) m):=by
 unfold vy;rw[ZE L,Og,bo,O,Og,iD,Og,jW,I];simp only[zE,Og,jN,WC,jJ,J,if_true,OJ,WA J,WN L]
theorem Yv{γ:Ctx}{s i q:Nat}{e:CO D}{x:Int}(L:k<m)(J:i<g9 w wd k)(z:q<hD w wd k)(Y:γ[s]? = cI (.val<|.int q))(he:e (γ.set 13<|.val<|.lst<|zP (hD w wd k)<|U k i)=cI (.int x)) :
 vz 13 (ze s) e k i γ (xK w wd U m)=cI (γ,xK w wd (λI=>if I=k then (λO=>if O=i then (λj=>if j=q then x else U k i j)else U k O)else U I) m):=by
 unfold vz;rw[ZE L,Og,mx J,Og,bp,he,Og,jN,Og,jW,Y];simp only[zE,Og,jN,mM,jJ,z,if_true,OJ,mK z,WA J,WN L]
theorem Y8{γ:Ctx}(J:(γ.set 13 .no)=γ)(hl:13<γ.length)(L:k<m){F:Nat->YF}{V:Nat->Vc}
 (h : ∀i O,i<g9 w wd k->O k i=U k i->F i γ (xK w wd O m)=cI (γ,xK w wd (λz=>if z=k then (λI=>if I=i then V i else O k I)else O z) m)) :
 vA [12,2] 13 F k γ (xK w wd U m)=cI (γ,xK w wd (λz=>if z=k then V else U z) m):=by
 unfold vA;rw[DJ ⋯,ZE L,Og,WC];obtain⟨r,e,d,f⟩:=mH (j:=13) (k:=k) (N:=g9 w wd k) (F:=F) (λi a Z=>a=γ/\Z=xK w wd (λz=>if z=k then (λI=>if I<i then V I else U k I)else U z) m) (γ:=γ) (Z:=xK w wd U m)
  ⟨rfl,qo λz _ I _ j _=>by
   by_cases e:z=k
   ·subst e;simp
   ·simp[e]⟩ (by
  rintro i a Z l ⟨rfl,rfl⟩;refine⟨hl,_,by rw[J];exact h i _ l ⋯,?_,rfl,?_⟩
  ·simp[ZE L]
  ·refine qo λz _ I _ j _=>?_
   by_cases e:z=k
   ·subst e
    simp only[if_true];by_cases b:I=i
    ·subst b;simp
    ·simp only[DJ b]
     by_cases Y:I<i
     ·rw[DZ Y,DZ ⋯]
     ·rw[DJ Y,DJ ⋯]
   ·simp[e])
 rw[e];obtain⟨n,o⟩:=r;dsimp only at d f;rw[d,f];congr 2;refine qo λz _ I g j _=>?_;by_cases e:z=k
 ·subst e;simp[g]
 ·simp[e]
noncomputable def CC(a b:Nat)(t o c c':Int):Prop:=(a=b/\c=t - 1/\c'=o - 1)\/(a≠b/\c=t/\c' = -t)
theorem ub(L:0<p)(ht:0<=t/\t<=7)(ho:0<=o/\o<=7)(a7:CC a b t o c c')(ae : ∀k,wd k<=7)(ha:a<wd r)(hb:b<wd r)(J:k<m) :
 Cm k (cst p m w r a b t (.val<|.int o) c8 c9 (.val<|.int ((jX w k:Nat):Int)) (.val<|.int ((qa w k:Nat):Int)) .no .no) (xK w wd U m)=cI (cst p m w r a b t (.val<|.int o) c8 c9 (.val<|.int ((jX w k:Nat):Int)) (.val<|.int ((qa w k:Nat):Int)) .no .no,xK w wd (λI=>if I=k then qN p w r a b c c' U k else U I) m):=by
 have H:=jB;have y:hD w wd k<=lim:=by rw[K6];have:=ae<|jX w k;omega
 by_cases Y:qa w k=r
 ·have A:jX w k≠r:=λz=>Zi w k (by rw[Y,z])
  have E:a<g9 w wd k:=by rw[Y2,Y];exact ha
  have n:b<g9 w wd k:=by rw[Y2,Y];exact hb
  have B : ∀h,vA [12,2] 13 (fu k) k (cst p m w r a b t (.val<|.int o) c8 c9 (.val<|.int ((jX w k:Nat):Int)) (.val<|.int ((qa w k:Nat):Int)) .no .no) (xK w wd h m)=cI (cst p m w r a b t (.val<|.int o) c8 c9 (.val<|.int ((jX w k:Nat):Int)) (.val<|.int ((qa w k:Nat):Int)) .no .no,xK w wd h m):=λh=>by
   rw[Y8 (U:=h) (V:=h k) rfl (by show 13<14;decide) J (F:=fu k) λi G x e=>?_]
   ·congr 2
    refine qo λI _ i _ j _=>?_;by_cases z:I=k
    ·subst z;simp
    ·simp[z]
   ·refine Vw (vm<|by rw[WR,decide_eq_false (λz=>A z.1)]) (Se (vm<|by rw[WQ,decide_eq_false (λz=>A z.1)]) ?_)
    congr 2;refine qo λI _ l _ j _=>?_;by_cases z:I=k
    ·subst z
     by_cases d:l=i
     ·subst d;simp[e]
     ·simp[d]
    ·simp[z]
  rcases a7 with⟨O,rfl,rfl⟩ | ⟨O,rfl,rfl⟩
  ·refine Vw (Se (XO<|by rw[eZ,decide_eq_true ⟨Y,O⟩])<|Yu J n rfl<|FQ L ht y (U k) n) (Vw (vm<|by rw[eY,decide_eq_false (λz=>z.2 O)])<|Se (B _) ?_)
   congr 2;refine qo λI _ i _ j _=>?_;by_cases z:I=k
   ·subst z
    simp only[if_true];unfold qN;rw[DZ Y];by_cases d:i=b
    ·rw[DZ d,DZ d,<- O]
     congr 1
     grind
    ·rw[DJ d,DJ d]
   ·simp[z]
  ·refine Vw (vm<|by rw[eZ,decide_eq_false (λz=>O z.2)]) (Vw (Se (XO<|by rw[eY,decide_eq_true ⟨Y,O⟩])<|Yu J n rfl<|FP L ht y (U k) E n)<|Se (B _) ?_)
   congr 2;refine qo λI _ i _ j _=>?_;by_cases z:I=k
   ·subst z
    simp only[if_true];unfold qN;rw[DZ Y];by_cases d:i=b
    ·rw[DZ d,DZ d]
    ·rw[DJ d,DJ d]
   ·simp[z]
 ·refine Vw (vm<|by rw[eZ,decide_eq_false (λz=>Y z.1)]) (Vw (vm<|by rw[eY,decide_eq_false (λz=>Y z.1)]) ?_)
  refine Y8 (V:=qN p w r a b c c' U k) rfl (by show 13<14;decide) J λi h x e=>?_;by_cases f:jX w k=r
  ·have C:a<hD w wd k:=by rw[K6,f];exact ha
   have u:b<hD w wd k:=by rw[K6,f];exact hb
   rcases a7 with⟨O,rfl,rfl⟩ | ⟨O,rfl,rfl⟩
   ·refine Vw (Se (XO<|by rw[WR,decide_eq_true ⟨f,O⟩])<|Yv (s:=5) (q:=b) J x u rfl<|FD L ho (h k i) u) (Se (vm<|by rw[WQ,decide_eq_false (λz=>z.2 O)]) ?_)
    congr 2;refine qo λI _ l _ j _=>?_;by_cases z:I=k
    ·subst z
     simp only[if_true];by_cases d:l=i
     ·subst d
      simp only[if_true];unfold qN;rw[DJ Y,DZ f,e,O];by_cases g:j=b
      ·rw[DZ g,DZ g]
       congr 1
       grind
      ·rw[DJ g,DJ g]
     ·simp[d]
    ·simp[z]
   ·refine Vw (vm<|by rw[WR,decide_eq_false (λz=>O z.2)]) (Se (Se (XO<|by rw[WQ,decide_eq_true ⟨f,O⟩])<|Yv (s:=4) (q:=a) J x C rfl<|FC L ht (h k i) C u) ?_)
    congr 2;refine qo λI _ l _ j _=>?_;by_cases z:I=k
    ·subst z
     simp only[if_true];by_cases d:l=i
     ·subst d
      simp only[if_true];unfold qN;rw[DJ Y,DZ f,e];by_cases g:j=a
      ·rw[DZ g,DZ g]
       congr 1
       grind
      ·rw[DJ g,DJ g]
     ·simp[d]
    ·simp[z]
  ·refine Vw (vm<|by rw[WR,decide_eq_false (λz=>f z.1)]) (Se (vm<|by rw[WQ,decide_eq_false (λz=>f z.1)]) ?_)
   congr 2;refine qo λI _ l _ j _=>?_;by_cases z:I=k
   ·subst z
    simp only[if_true];by_cases d:l=i
    ·subst d
     simp only[if_true];rw[Vq Y f,e]
    ·simp[d]
   ·simp[z]
theorem Af(z:Pr p)(Y:1<=t/\t<p) : ∃o:Int,0<=o/\o<p/\o*t%p=1/\X3 (cst p m w r a b t .no c8 c9 c10 c11 c12 c13)=cI (.int o):=by
 have l:=jB;have k:=z.le;obtain⟨y,n,s,g⟩:=sG z (x:=t) ⋯ Y.2;obtain⟨q,f⟩:=RB (show 0<=p by omega);subst f;have I:jh (.nm 0) (sB<|zw ft (zw kj (zw ya (ze 0)<|ze 2)<|ze 1)<|zx<|.int 1) (ze 0) [Cell.no,Cell.val<|.int q,Cell.val (.int t)] ((Od q).map λ(i:Nat)=>D.int i)=cI (((Od q).filter λ(i:Nat)=>decide<|(i:Int)*t%q=1).map λ(i:Nat)=>D.int i):=by refine j9 _ _ _ λi e=>⟨_,rfl,?_,λ_=>rfl⟩;have h:=Oj.mp e;simp[yC (i:Int) t ⋯ ⋯,show 0<q by omega]
 cases hg:(Od q).filter λ(i:Nat)=>decide ((i:Int)*t%q=1)with
 | nil=>
  have:=YO hg y ⋯;simp[g]at this
 | cons x qZ=>
  obtain⟨j,d,_⟩:=Zn hg;refine⟨x,by omega,by omega,by simpa using d,?_⟩;rw[hg]at I;unfold X3;have O:q<=lim:=by omega
  simp only[vG,Wu,kM,wu,jW,k6,Oq,kv,zE,Og,jN,wZ O,if_true,Pq,qR,yo,O];rw[jt q λi=>(i:Int)];show((jh _ _ _ [Cell.no,Cell.val<|.int q,Cell.val (.int t)] _).map _).bind _=_;rw[I];simp[l5]
theorem KR(O:Pr p)(ht:1<=t/\t<p)(J : ∀k,wd k<=7)(hm:m<=20)(L:a<wd r)(hb:b<wd r) :
 ∃c c':Int,(c+c'+(if a=b then c*c' else 0))%p=0/\∀U,k8 [.int p,.str (qP m w)] [.int r,.int a,.int b,.int t] (xK w wd U m)=cI (xK w wd (qN p w r a b c c' U) m):=by
 have R:=O.le;have two:=O.two;have K:=va w (show m<=1000 by omega);obtain⟨o,S,W,M,N⟩:=Af (m:=m) (w:=w) (r:=r) (a:=a) (b:=b) (c8:= .no) (c9:= .no) (c10:= .no) (c11:= .no) (c12:= .no) (c13:= .no) O ht;obtain⟨c,c',A,H⟩ : ∃c c':Int,CC a b t o c c'/\(c+c'+(if a=b then c*c' else 0))%p=0:=by
  by_cases Y:a=b
  ·refine⟨t - 1,o - 1,.inl ⟨Y,rfl,rfl⟩,?_⟩
   rw[DZ Y,show t - 1+(o - 1)+(t - 1)*(o - 1)=o*t - 1 by grind,Sy,M,O.one];simp
  ·refine⟨t,-t,.inr ⟨Y,rfl,rfl⟩,?_⟩
   rw[DJ Y,SN,Int.add_right_neg];rfl
 refine⟨c,c',H,λU=>?_⟩;rw[nc];show(J4 _ _ (cst p m w r a b t .no .no .no .no .no .no .no)<|xK w wd U m).map _=_;obtain⟨x,e,g⟩:=kQ (T:= .tp [8,9]) (F:=fv) (λk y Z=>(∃c8 c9 c10 c11,y=cst p m w r a b t (.val<|.int o) c8 c9 c10 c11 .no .no)/\Z=xK w wd (λI=>if I<k then qN p w r a b c c' U I else U I) m)
  ((Od m).map λ(k:Nat)=>D.tup [.int k,.str (xc<|f6<|w k)]) 0 (cst p m w r a b t (.val<|.int o) .no .no .no .no .no .no) (xK w wd U m) ⟨⟨.no,.no,.no,.no,rfl⟩,qo λI _ i _ j _=>by simp⟩ (by
  rintro k d y Z h ⟨⟨c8,c9,c10,c11,rfl⟩,rfl⟩;rw[C9]at *;obtain⟨l,rfl⟩:k<m/\d=D.tup [.int k,.str (xc<|f6<|w k)]:=by rw[OF]at h;obtain⟨I,P,Q⟩:=RV.mp h;obtain⟨n,s⟩:=Ol.mp P;rw[OM]at n;rw[Ue]at s;subst s;exact⟨n,Q.symm⟩
  have E:Vu [2] (.tp [10,11]) (zJ jv<|zc (ze 8)<|zc (ze 9) zC) (cst p m w r a b t (.val<|.int o) (.val<|.int k) (.val<|.str<|xc<|f6<|w k) c10 c11 .no .no) (xK w wd (λI=>if I<k then qN p w r a b c c' U I else U I) m)=cI (cst p m w r a b t (.val<|.int o) (.val<|.int k) (.val<|.str<|xc<|f6<|w k) (.val<|.int ((jX w k:Nat):Int)) (.val<|.int ((qa w k:Nat):Int)) .no .no,xK w wd (λI=>if I<k then qN p w r a b c c' U I else U I) m):=by unfold Vu;rw[DZ (by rfl),yY];simp only[yX,Zo,jW,Oq,kv,zE,Og,OJ,Wd,yf,JR,Ri,Rh]
  refine⟨cst p m w r a b t (.val<|.int o) (.val<|.int k) (.val<|.str<|xc<|f6<|w k) c10 c11 .no .no,(cst p m w r a b t (.val<|.int o) (.val<|.int k) (.val<|.str<|xc<|f6<|w k) (.val<|.int ((jX w k:Nat):Int)) (.val<|.int ((qa w k:Nat):Int)) .no .no,xK w wd (λI=>if I=k then qN p w r a b c c' (λI=>if I<k then qN p w r a b c c' U I else U I) k else (λI=>if I<k then qN p w r a b c c' U I else U I) I) m),rfl,Vw E ?_,⟨_,_,_,_,rfl⟩,?_⟩
  ·unfold BF
   rw[DJ ⋯,jW];simp only[Oq,kv,zE,Og,jN,WO,jJ,l,if_true,Ri,Rh];exact ub ⋯ ⋯ ⋯ A J L hb l
  ·refine qo λI _ i _ j _=>?_
   by_cases z:I=k
   ·subst z
    rw[DZ rfl,DZ ⋯];unfold qN;simp
   ·rw[DJ z]
    by_cases u:I<k
    ·simp only[DZ u,DZ (show I<k+1 by omega)]
    ·simp only[DJ u,DJ (show ¬I<k+1 by omega)])
 obtain⟨⟨c8,c9,c10,c11,g⟩,G⟩:=g;have C:Vu [2] (.nm 7) X3 (cst p m w r a b t .no .no .no .no .no .no .no) (xK w wd U m)=cI (cst p m w r a b t (.val<|.int o) .no .no .no .no .no .no,xK w wd U m):=by unfold Vu;rw[DZ (by rfl),N];rfl
 rw[Vw C (r:=cI x) ?_]
 ·rw[OJ,G]
  congr 1;refine qo λI B i _ j _=>?_;rw[DZ (by simpa using B)]
 ·unfold KY
  rw[DZ (by rfl)];have f:xW (ze 1) (cst p m w r a b t (.val<|.int o) .no .no .no .no .no .no)=cI ((Od m).map λ(k:Nat)=>D.tup [.int k,.str (xc<|f6<|w k)]):=by simp only[JW,jW,Oq,kv,zE,Og,K,if_true,w6]
  rw[f];exact e
end
noncomputable def IB:CO (List D):=zR (jI<|wG<|zq 1) (.nm 0) 1 [0,1] (sB<|vn rk rk (dr (zL<|dr (zq 2)<|ze 0)<|zx<|.int 0) (ze 1)<|dr (zL<|dr (zq 2)<|ze 0)<|zx<|.int 1) (ze 0)
noncomputable def Mz:=jE 2<|xh<|zR (jI<|zw qg (Yn<|ze 0)<|zx<|.int 1) (.nm 0) 1 [1] jO (xh IB)
noncomputable def EX:CO (List D):=zR (zO<|zL<|dr (zq 1)<|ze 2) (.nm 0) 1 [0] jO (ur<|zw ft (ze 1)<|ze 0)
noncomputable def oY:CO (List<|List D):=W3 (zO<|zL<|dr (zq 2)<|ze 7) (.nm 0) 1 [2,6] EX
noncomputable def G7:YF:=J4 (Vu [3] (.tp [6,7]) (zJ jv<|zc (ze 4)<|zc (ze 5) zC))<|BV oY
noncomputable def MA:CO D:=xh<|zR (zO<|zq 2) (.nm 0) 1 [] jO (wG<|zq 0)
theorem ph:xV=uw 8 (IF Mz<|BJ 3 (KY [3] (xW<|ze 0) (.tp [4,5]) G7) MA):=rfl
noncomputable def bS(bs:List (Int×Int))(j:Nat):Nat:=(bs.getD j (0,0)).1.toNat
noncomputable def bE(bs:List (Int×Int))(j:Nat):Nat:=(bs.getD j (0,0)).2.toNat
abbrev bW(bs:List (Int×Int)):Nat->Nat:=mn (bS bs) (bE bs) bs.length
abbrev bT(w:DV)(bs:List (Int×Int)):Nat->Nat->Nat->Int:=pe w (bS bs) (bE bs) bs.length
abbrev bL(bs:List (Int×Int))(r:Nat):List Nat:=qk (bS bs) (bE bs) bs.length r
noncomputable def Ko(l:List Nat):List D:=l.map λ(j:Nat)=>D.int j
noncomputable def qY(bs:List (Int×Int))(m:Nat):D:= .lst ((Od<|m+1).map λr=>D.lst<|Ko<|bL bs r)
section
variable{bs:List (Int×Int)}{m:Nat}{w:DV}
theorem rz(h : ∀b∈bs,mw ((m+1:Nat):Int) b){j:Nat}(z:j<bs.length):bs[j]? = cI ((bS bs j:Int),(bE bs j:Int))/\bS bs j<=bE bs j/\bE bs j<=m:=by have e:=Oe z;have a:=h _<|OS e;obtain⟨d,f,I⟩:=a;unfold bS bE;rw[Oh,e,Sd];refine⟨?_,by omega,by omega⟩;congr 1;exact Prod.ext (by dsimp only;omega) (by dsimp only;omega)
theorem AF(h : ∀b∈bs,mw ((m+1:Nat):Int) b)(J:bs.length<=60)(r:Nat):IB [.val (.int r),.val (.lst<|zA bs)]=cI (Ko<|bL bs r):=by
 have l:=jB;have O:bs.length<=lim:=by omega
 unfold IB;simp only[kM,wu,Gh,qu,Oq,kv,zY,vq,Og,OJ,jN,wo,wZ O,if_true,Pq,qR,yo,O];rw[jt bs.length λi=>(i:Int)];show jh _ _ _ [Cell.no,Cell.val<|.int r,Cell.val (.lst<|zA bs)] _=_;rw[j9 (λj=>(IC (bS bs) (bE bs) j).has r) (λ(j:Nat)=>D.int j) _ λj I=>⟨[Cell.val (.int j),Cell.val<|.int r,Cell.val (.lst<|zA bs)],rfl,?_,λ_=>rfl⟩]
 ·rfl
 ·have I:=Oj.mp I
  obtain⟨e,g,k⟩:=rz h I;have a:(zA bs)[j]? = cI (.tup [.int (bS bs j),.int (bE bs j)]):=by unfold zA;rw[OF,e];rfl
  have Y:(IC (bS bs) (bE bs) j).has r=(decide (bS bs j<=r) && decide (r<=bE bs j)):=by show(decide (bS bs j<=r) && decide (r<bS bs j+(bE bs j - bS bs j+1)))=_;congr 1;exact decide_eq_decide.mpr ⋯
  rw[Y];have d:dr (zL<|dr (zq 2)<|ze 0) (zx<|.int 0) [Cell.val (.int j),Cell.val<|.int r,Cell.val (.lst<|zA bs)]=cI (.int<|bS bs j):=by simp only[vG,xp,qu,jW,k6,Oq,kv,zE,zY,vq,Og,jN,wo,jJ,I,if_true,a];rfl
  have x1:dr (zL<|dr (zq 2)<|ze 0) (zx<|.int 1) [Cell.val (.int j),Cell.val<|.int r,Cell.val (.lst<|zA bs)]=cI (.int<|bE bs j):=by simp only[vG,xp,qu,jW,k6,Oq,kv,zE,zY,vq,Og,jN,wo,jJ,I,if_true,a];rfl
  show(vn rk rk _ _ _ _).bind p8=_;unfold vn;simp only[d,x1,jW,Oq,kv,zE,Og];by_cases z:bS bs j<=r<;>by_cases f:r<=bE bs j<;>simp[rk,dI,z,f]
theorem Jw(l:List Nat):(Ko l).length=l.length:=by simp[Ko]
theorem X0{S E:DK}{N r:Nat}:mn S E N r<=N:=by unfold mn qk gi;exact PK (SH _ _) ⋯
theorem aJ{I J:Type}(d:I)(f:I->J)(l:List I):l.map f=(Od l.length).map λi=>f (l.getD i d):=by
 apply Sx;intro i;by_cases a:i<l.length
 ·rw[OF,Oe a,OF,PD a]
  simp[Oh,a]
 ·rw[Rv (by simpa using a),Rv (by simpa using a)]
theorem Yo{f:Nat->List Int} : ∀(l:List Nat),fN (l.map λx=>(f x).map D.int)=cI (l.map f)
 | []=>rfl
 | x::l=>by show(wc<|(f x).map D.int).bind _=_;rw[wY,Og,Yo l];rfl
theorem oX(hb:bs.length<=60){k:Nat}(hk:k<m)(I O Y J L:Cell):(oY [I,O,.val<|qY bs m,Y,J,L,.val<|.int ((jX w k:Nat):Int),.val (.int ((qa w k:Nat):Int))]).bind fN=cI (K3 (g9 w (bW bs) k) (hD w (bW bs) k)<|bT w bs k):=by
 have j:=jB;have a:=iU w hk;have b:=lJ w hk;have g : ∀r,r<m+1->((Od<|m+1).map λr=>D.lst<|Ko<|bL bs r)[r]? = cI (D.lst<|Ko<|bL bs r):=λr f=>by simp[f]
 have d : ∀r,(bL bs r).length<=lim:=λr=>PK (X0 (S:=bS bs) (E:=bE bs) (N:=bs.length)) ⋯;have e:oY [I,O,.val<|qY bs m,Y,J,L,.val<|.int ((jX w k:Nat):Int),.val (.int ((qa w k:Nat):Int))]=cI ((bL bs<|qa w k).map λx=>((bL bs<|jX w k).map λy=>if x=y then (1:Int)else 0).map D.int):=by
  unfold oY qY;show(Rn _ _)=_;simp only[kB,xp,vG,qu,jW,Oq,kv,zE,zY,vq,Og,OJ,jN,OC,OM,jJ,a,if_true,g _ a,Jw,d];refine Vf _ λx _=>⟨[.val (.int x),.val<|qY bs m,.val (.int ((jX w k:Nat):Int))],rfl,?_⟩;unfold EX qY;simp only[kM,kB,xp,vG,qu,jW,Oq,kv,zE,zY,vq,Og,OJ,jN,OC,OM,jJ,b,if_true,g _ b,Jw,d];rw[Pw];refine zD _ _ λy _=>zF rfl rfl ?_;by_cases z:x=y
  ·subst z;simp[jL,xm]
  ·have h : ¬((x:Int)=(y:Int)):=λq=>z ⋯
   simp[jL,xm,z,h]
 rw[e,Og,Yo,Y2,K6];congr 1;rw[aJ bs.length];refine OB λi _=>?_;rw[aJ (bs.length+1)];rfl
theorem KS(h : ∀b∈bs,mw ((m+1:Nat):Int) b)(J:bs.length<=60)(L:m<=20):xV [.str (qP m w),.lst (zA bs)]=cI (.lst<|zP (m+1) λr=>(bW bs r:Int),xK w (bW bs) (bT w bs) m):=by
 have E:=jB;have I:m+1<=lim:=by omega
 have p:=va w (show m<=1000 by omega);have B:Mz [.val (.str<|qP m w),.val<|.lst<|zA bs,.no,.no,.no,.no,.no,.no]=cI (.next [.val (.str<|qP m w),.val<|.lst<|zA bs,.val<|qY bs m,.no,.no,.no,.no,.no]):=by unfold Mz;rw[lV,lW,kM,wu];simp only[bH,BB,jW,k6,Oq,kv,zE,Og,p,if_true,WH,bw,jN];rw[show((m:Int)+1)=((m+1:Nat):Int)by omega];simp only[wZ I,if_true,Pq,Og,qR,yo,I];show(((jh _ _ _ [Cell.no,Cell.val (.lst<|zA bs)] (zP (m+1) λi=>(i:Int))).map _).map _)=_;rw[jt,zD (λr=>D.lst<|Ko<|bL bs r) _ λr _=>zF (γ1:=[.val (.int r),.val (.lst<|zA bs)]) rfl rfl (by rw[lW,AF h J];rfl)];rfl
 obtain⟨x,e,j⟩:=kQ (T:= .tp [4,5]) (F:=G7) (λk s Z=>(∃z g a f,s=[.val (.str<|qP m w),.val<|.lst<|zA bs,.val<|qY bs m,.no,z,g,a,f])/\Z=xK w (bW bs) (bT w bs) k)
  ((Od m).map λ(k:Nat)=>D.tup [.int k,.str (xc<|f6<|w k)]) 0 [.val (.str<|qP m w),.val<|.lst<|zA bs,.val<|qY bs m,.no,.no,.no,.no,.no] [] ⟨⟨.no,.no,.no,.no,rfl⟩,rfl⟩ (by
  rintro k d s Z o ⟨⟨z,g,a,f,rfl⟩,rfl⟩;rw[C9]at *;obtain⟨t,rfl⟩:k<m/\d=D.tup [.int k,.str (xc<|f6<|w k)]:=by rw[OF]at o;obtain⟨G,y,A⟩:=RV.mp o;obtain⟨O,Y⟩:=Ol.mp y;rw[OM]at O;rw[Ue]at Y;subst Y;exact⟨O,A.symm⟩
  refine⟨[.val (.str<|qP m w),.val<|.lst<|zA bs,.val<|qY bs m,.no,.val<|.int k,.val<|.str<|xc<|f6<|w k,a,f],([.val (.str<|qP m w),.val<|.lst<|zA bs,.val<|qY bs m,.no,.val<|.int k,.val<|.str<|xc<|f6<|w k,.val<|.int ((jX w k:Nat):Int),.val (.int ((qa w k:Nat):Int))],xK w (bW bs) (bT w bs)<|k+1),rfl,
   Vw (γ':=[.val (.str<|qP m w),.val<|.lst<|zA bs,.val<|qY bs m,.no,.val<|.int k,.val<|.str<|xc<|f6<|w k,.val<|.int ((jX w k:Nat):Int),.val (.int ((qa w k:Nat):Int))]) (Z':=xK w (bW bs) (bT w bs) k) ?_ ?_,⟨_,_,_,_,rfl⟩,rfl⟩
  ·unfold Vu
   rw[DZ (by rfl),yY];simp only[yX,Zo,jW,Oq,kv,zE,Og,OJ,Wd,yf,JR,Ri,Rh]
  ·unfold BV
   rw[oX J t,Og,WO,DZ ⋯];congr 2;simp[xK,Rx])
 obtain⟨x1,H⟩:=x;obtain⟨⟨z,g,a,f,j⟩,n⟩:=j;dsimp only at j n;subst j n;rw[ph];show(Mz [.val (.str<|qP m w),.val<|.lst<|zA bs,.no,.no,.no,.no,.no,.no]).bind _=_;rw[B];show BJ 3 (KY [3] (xW<|ze 0) (.tp [4,5]) G7) MA [.val (.str<|qP m w),.val<|.lst<|zA bs,.val<|qY bs m,.no,.no,.no,.no,.no]=_;unfold BJ;rw[DZ ⟨rfl,by show 3<8;decide⟩];have l:xW (ze 0) [.val (.str<|qP m w),.val<|.lst<|zA bs,.val<|qY bs m,.no,.no,.no,.no,.no]=cI ((Od m).map λ(k:Nat)=>D.tup [.int k,.str (xc<|f6<|w k)]):=by simp only[JW,jW,Oq,kv,zE,Og,p,if_true,w6]
 have u:KY [3] (xW<|ze 0) (.tp [4,5]) G7 [.val (.str<|qP m w),.val<|.lst<|zA bs,.val<|qY bs m,.no,.no,.no,.no,.no] []=cI ([.val (.str<|qP m w),.val<|.lst<|zA bs,.val<|qY bs m,.no,z,g,a,f],xK w (bW bs) (bT w bs) m):=by unfold KY;rw[DZ (by rfl),l,Og,e];simp
 show(KY [3] (xW<|ze 0) (.tp [4,5]) G7 [.val (.str<|qP m w),.val<|.lst<|zA bs,.val<|qY bs m,.no,.no,.no,.no,.no] []).bind _=_;rw[u,Og];have C:MA [.val (.str<|qP m w),.val<|.lst<|zA bs,.val<|qY bs m,.no,z,g,a,f]=cI (.lst<|zP (m+1) λr=>(bW bs r:Int)):=by unfold MA qY;simp only[lW,kM,kB,qu,Oq,kv,zY,vq,Og,OJ,OC,OM,I,if_true];rw[jt,zD (λr=>D.int (bW bs r:Int)) _ λr _=>zF (γ1:=[.val (.lst<|Ko<|bL bs r)]) rfl rfl (by show cI (D.int ((Ko<|bL bs r).length:Int))=_;rw[Jw];rfl)];rfl
 rw[C];rfl
end
noncomputable def B_:CO (List D):=zc (ze 2)<|zc (ze 3) zC
noncomputable def O5:CO (List D):=zc (ze 7)<|zc (zw kj (ze 10)<|ze 8)<|zc (zw kj (zw K1 (ze 10)<|zx<|.int 7)<|ze 8)<|zc (zw qg (zx<|.int 1)<|zw kj (zw K1 (ze 10)<|zx<|.int 49)<|zw vg (ze 2)<|zx<|.int 1) zC
noncomputable def C':CO D:=zJ ja<|zc (ze 0)<|zc (zw qg (zw qg (ze 1)<|zw ya (zx<|.int 14)<|ze 7)<|ze 9) zC
noncomputable def O4:YF:=J4 (Vu [6] (.nm 10) C')<|mI k8 B_ O5
noncomputable def Mh:YF:=KY [6] (jI<|zw ya (zx<|.int 2)<|ze 8) (.nm 9) O4
theorem lH:yw=jn 11 (zS (cz 5 6 xV (zc (ze 3)<|zc (ze 4) zC)<|J4 (KY [6] (Xd<|ze 5) (.tp [7,8]) Mh) Gv)<|xM<|zJ qt<|zc (ze 2)<|zc (ze 3)<|zc (ze 5)<|zc (ze 6) zC):=rfl
abbrev p9(ns:List Int)(at_ p:Int)(m:Nat)(w:DV)(bs:List (Int×Int))(c6 c7 c8 c9 c10:Cell):Ctx:=[.val (bh ns),.val (.int at_),.val (.int p),.val (.str (qP m w)),.val (.lst (zA bs)),.val (.lst (zP (m+1) λr=>(bW bs r:Int))),c6,c7,c8,c9,c10]
structure C5(p:Int)(m:Nat)(w:DV)(bs:List (Int×Int))(T:DQ):Prop where
 i4 : ∀k x y,0<=T k x y/\T k x y<p
 dec : ∃A,h9 p w (bW bs) T m bs.length A/\xQ A bs.length=xQ (aO (bS bs) (bE bs) bs.length) bs.length
section
variable{ns:List Int}{at_ p:Int}{m:Nat}{w:DV}{bs:List (Int×Int)}
theorem rj(z:Pr p){T:DQ}(B:C5 p m w bs T){r a b:Nat}{c J:Int}(I:(c+J+(if a=b then c*J else 0))%p=0)(L:a<bW bs r)(O:b<bW bs r):C5 p m w bs (qN p w r a b c J T):=by obtain⟨A,D,e⟩:=B.dec;exact⟨mZ z.pos B.i4,_,fi z.pos I L O D,e⟩
theorem gM{x n:Int}(hx:0<=x)(I:0<n) : ∃a:Nat,x%n=(a:Int)/\(a:Int)<n:=by obtain⟨a,b⟩:=RB (Pb x<|show n≠0 by omega);exact⟨a,b,by rw[<- b];exact OQ _ I⟩
theorem rh(L:ns.length<=63)(z:Pr p)(h0:0<=at_)(h2:at_<=1000)(hm:m<=5)(I : ∀k,bW bs k<=7){r q:Nat}(hr:r<=m)(hq:q<2*bW bs r){T:DQ}(B:C5 p m w bs T)(c10:Cell) :
 ∃a1 J,O4 (p9 ns at_ p m w bs .no (.val<|.int r) (.val<|.int (bW bs r:Int)) (.val<|.int q) c10) (xK w (bW bs) T m)=cI (p9 ns at_ p m w bs .no (.val<|.int r) (.val<|.int (bW bs r:Int)) (.val<|.int q) a1,xK w (bW bs) J m)/\C5 p m w bs J:=by
 have two:=z.two;have H:=z.le;have F:=I r;have h:QM 14 (r:Int)=cL:=yC _ _ ⋯ ⋯;obtain⟨O,Y,E⟩:=KL L (k:=at_+14*(r:Int)+(q:Int)) ⋯ ⋯;generalize kK ns (at_+14*(r:Int)+(q:Int))=x at O Y E;obtain⟨a,u,d⟩:=gM (x:=x) (n:=(bW bs r:Int)) Y ⋯;obtain⟨b,y,e⟩:=gM (x:=x/7) (n:=(bW bs r:Int)) ⋯ ⋯;obtain⟨t,A,K⟩:=gM (x:=x/49) (n:=p - 1) ⋯ ⋯;have d:a<bW bs r:=by omega
 have e:b<bW bs r:=by omega
 obtain⟨c,G,C,st⟩:=KR (m:=m) (w:=w) (wd:=bW bs) (r:=r) (a:=a) (b:=b) (t:=1+(t:Int)) z ⋯ I ⋯ d e;have as:(0:Int)<(bW bs r:Int):=by omega
 refine⟨.val<|.int x,_,Vw (γ':=p9 ns at_ p m w bs .no (.val<|.int r) (.val<|.int (bW bs r:Int)) (.val<|.int q)<|.val<|.int x) (Z':=xK w (bW bs) T m) ?_ ?_,rj z B C d e⟩
 ·unfold Vu
  rw[DZ (by rfl)];unfold C';simp only[yY,yX,Zo,bH,jW,k6,Oq,kv,zE,Og,OJ,bt,h,if_true,bw,O,yf,ZJ,Ri,Rh]
 ·unfold mI
  have f:B_ (p9 ns at_ p m w bs .no (.val<|.int r) (.val<|.int (bW bs r:Int)) (.val<|.int q)<|.val<|.int x)=cI [.int p,.str (qP m w)]:=rfl;have g:O5 (p9 ns at_ p m w bs .no (.val<|.int r) (.val<|.int (bW bs r:Int)) (.val<|.int q)<|.val<|.int x)=cI [.int r,.int a,.int b,.int (1+(t:Int))]:=by
   unfold O5;have i:mq x (bW bs r:Int)=cL:=by simp[mq];omega
   have j:mq (x/7) (bW bs r:Int)=cL:=by simp[mq];omega
   have l:mq (x/49) (p - 1)=cL:=by simp[mq];omega
   have o:rf x 7=cL:=by simp[rf]
   have s:rf x 49=cL:=by simp[rf]
   simp[kj,K1,vg,E3,dI,i,j,l,o,s,u,y,A]
  rw[f,Og,g,Og,st T];rfl
theorem QP(L:ns.length<=63)(Y:Pr p)(h0:0<=at_)(h2:at_<=1000)(J:m<=5)(h : ∀b∈bs,mw ((m+1:Nat):Int) b)(hb:bs.length<=7) :
 ∃T,yw [bh ns,.int at_,.int p,.str<|qP m w,.lst (zA bs)]=cI (.val<|qB p m w (bW bs) T)/\C5 p m w bs T:=by
 have hl:=jB;have A : ∀k,bW bs k<=7:=λk=>PK (X0 (S:=bS bs) (E:=bE bs) (N:=bs.length)) hb;have H:C5 p m w bs (bT w bs):=⟨pb Y,_,oZ Y λj X=>(rz h X).2,rfl⟩;obtain⟨x,e,s⟩:=kQ (T:= .tp [7,8]) (F:=Mh) (λ_ o Z=>(∃i l f a,o=p9 ns at_ p m w bs .no i l f a)/\∃T,Z=xK w (bW bs) T m/\C5 p m w bs T)
  ((Od<|m+1).map λ(r:Nat)=>D.tup [.int r,.int (bW bs r:Int)]) 0 (p9 ns at_ p m w bs .no .no .no .no .no) (xK w (bW bs) (bT w bs) m) ⟨⟨.no,.no,.no,.no,rfl⟩,_,rfl,H⟩ (by
  rintro r d o Z n ⟨⟨i,l,f,a,rfl⟩,T,rfl,B⟩;obtain⟨hr,rfl⟩:r<m+1/\d=D.tup [.int r,.int (bW bs r:Int)]:=by rw[OF]at n;obtain⟨k',C,G⟩:=RV.mp n;obtain⟨I,O⟩:=Ol.mp C;rw[OM]at I;rw[Ue]at O;subst O;exact⟨I,G.symm⟩
  have am:=A r;obtain⟨y,Q,z⟩:=kQ (T:= .nm 9) (F:=O4) (λ_ o Z=>(∃f a,o=p9 ns at_ p m w bs .no (.val<|.int r) (.val<|.int (bW bs r:Int)) f a)/\∃T,Z=xK w (bW bs) T m/\C5 p m w bs T)
   ((Od<|2*bW bs r).map λ(q:Nat)=>D.int q) 0 (p9 ns at_ p m w bs .no (.val<|.int r) (.val<|.int (bW bs r:Int)) f a) (xK w (bW bs) T m) ⟨⟨f,a,rfl⟩,T,rfl,B⟩ (by
   rintro q d o Z n ⟨⟨f,a,rfl⟩,T,rfl,B⟩;obtain⟨hq,rfl⟩:q<2*bW bs r/\d=D.int q:=by rw[OF]at n;obtain⟨k',C,G⟩:=RV.mp n;obtain⟨I,O⟩:=Ol.mp C;rw[OM]at I;rw[Ue]at O;subst O;exact⟨I,G.symm⟩
   obtain⟨K,u,U,t⟩:=rh (at_:=at_) L Y h0 h2 J A (show r<=m by omega) hq B a;exact⟨_,_,rfl,U,⟨_,_,rfl⟩,u,rfl,t⟩)
  obtain⟨⟨an,K,z⟩,u,W,t⟩:=z;refine⟨p9 ns at_ p m w bs .no (.val<|.int r) (.val<|.int (bW bs r:Int)) f a,y,rfl,?_,⟨_,_,_,_,z⟩,u,W,t⟩;unfold Mh KY;rw[DZ (by rfl)];have hn:2*bW bs r<=lim:=by omega
  have P:QM 2 (bW bs r:Int)=cL:=yC _ _ ⋯ ⋯;have g:jI (zw ya (zx<|.int 2)<|ze 8) (p9 ns at_ p m w bs .no (.val<|.int r) (.val<|.int (bW bs r:Int)) f a)=cI ((Od<|2*bW bs r).map λ(q:Nat)=>D.int q):=by simp only[wu,bH,jW,k6,Oq,kv,zE,Og,bt,P,if_true,jN];rw[show(2:Int)*(bW bs r:Int)=((2*bW bs r:Nat):Int)by omega];simp only[wZ hn,if_true,Pq,qR];rw[jt]
  rw[g];exact Q)
 obtain⟨x1,x2⟩:=x;obtain⟨⟨i,l,f,a,s⟩,T,z,B⟩:=s;dsimp only at s z;subst s z;refine⟨T,?_,B⟩;rw[lH];have M:cz 5 6 xV (zc (ze 3)<|zc (ze 4) zC) (J4 (KY [6] (Xd<|ze 5) (.tp [7,8]) Mh) Gv) [.val (bh ns),.val<|.int at_,.val<|.int p,.val<|.str<|qP m w,.val<|.lst<|zA bs,.no,.no,.no,.no,.no,.no]=cI (.next<|p9 ns at_ p m w bs (.val<|.lst<|yG w (bW bs) T m) i l f a):=by
  unfold cz;rw[DZ ⟨rfl,by show 6<11;decide,by decide⟩];show(Rn (cI [D.str (qP m w),.lst (zA bs)]) _)=_;rw[Og,KS h ⋯ ⋯,Og];show(J4 _ _ (p9 ns at_ p m w bs .no .no .no .no .no) _).map _=_;rw[Vw (γ':=p9 ns at_ p m w bs .no i l f a) (Z':=xK w (bW bs) T m) ?_ rfl]
  ·show cI (Fl.next<|p9 ns at_ p m w bs (.val<|Bg<|xK w (bW bs) T m) i l f a)=_
   rw[pU]
  ·unfold KY
   rw[DZ (by rfl)];have g:Xd (ze 5) (p9 ns at_ p m w bs .no .no .no .no .no)=cI ((Od<|m+1).map λ(r:Nat)=>D.tup [.int r,.int (bW bs r:Int)]):=by rw[<- w9 (m+1) λr=>D.int (bW bs r:Int)];rfl
   rw[g];exact e
 have R:=QO (p:=p) (w:=w) (T:=T) J A;refine xj<|zG M ?_;rw[sS,yY];show((qt [.int p,.str<|qP m w,.lst<|zP (m+1) λr=>(bW bs r:Int),.lst (yG w (bW bs) T m)]).map Cz).map _=_;rw[R];rfl
end
section
variable{bs:List (Int×Int)}{m:Nat}
theorem Bp(h : ∀b∈bs,mw ((m+1:Nat):Int) b):bs=(Od bs.length).map λj=>((bS bs j:Int),(bE bs j:Int)):=by
 apply Sx;intro j;by_cases z:j<bs.length
 ·rw[(rz h z).1];simp[z]
 ·rw[Rv ⋯,Rv (by simpa using z)]
end
theorem FT{ns:List Int}(J:ns.length<=63){m n:Nat}(L:m<=5)(z:n<=60) : ∃bs,yx [bh ns,.int 2,.int (n:Int),.int (1+(m:Int))]=cI (.own<|zA bs)/\(∀b∈bs,mw ((m+1:Nat):Int) b)/\bs.length=n:=by obtain⟨bs,a,d,I⟩:=VA J (r:=m+1) (n:=n) (t:=2) ⋯ ⋯ ⋯ ⋯ z;rw[show((m+1:Nat):Int)=1+(m:Int)by omega]at a;exact⟨bs,a,d,I⟩
noncomputable def zI(s:Nat×Nat):Int×Int:=((s.1:Int),(s.2:Int))
theorem XF(k:Nat) : ∀{K:List (Nat×Nat)},(∀s∈K,s.1<=s.2)->qc (k:Int) (K.map zI)=(rq k K).map zI
 | [],_=>rfl
 | s::K,h=>by
  have I:=XF k (K:=K) λx a=>h x<|Ow _ a;have b:=h s Ot;unfold qc rq at I ⊢;rw[OH,_s,_s];have e:ml (k:Int) (zI s) = !(decide (s.1=k) && decide (s.2=k)):=by unfold ml zI;congr 1;rw[Rc];simp only[Oo,beq_iff_eq,decide_eq_true_eq];omega
  rw[e];split
  ·next O=>
   have Y : ¬(s.1=k/\s.2=k):=λz=>by simp[z.1,z.2]at O
   rw[OH,OH,OH,I];congr 1;unfold R9 zI E6 o7 hA;rw[Prod.mk.injEq];dsimp only;constructor
   ·repeat' split
    all_goals omega
   ·repeat' split
    all_goals omega
  ·exact I
theorem aG(K:List (Nat×Nat))(s:Nat×Nat):((zA<|K.map zI).countP λd=>hH d<|.tup [.int s.1,.int s.2])=mm K s:=by unfold mm zA;rw[TZ,TZ];refine List.countP_congr λt _=>?_;show hH (.tup [.int (t.1:Int),.int (t.2:Int)]) (.tup [.int s.1,.int s.2])=cL↔_;rw[ba];obtain⟨a,b⟩:=s;obtain⟨c,d⟩:=t;simp only[Oo,beq_iff_eq,decide_eq_true_eq,Prod.mk.injEq];omega
theorem XE{a b:List (Int×Int)}(h:a.Perm b)(x:D):((zA a).countP λd=>hH d x)=(zA b).countP λd=>hH d x:=(h.map _).countP_eq _
theorem lN{bs:List (Int×Int)}{m:Nat}(h : ∀b∈bs,mw ((m+1:Nat):Int) b):bs=(xQ (aO (bS bs) (bE bs) bs.length) bs.length).map zI:=by
 conv=>lhs;rw[Bp h]
 unfold xQ;rw[Pw];refine OB λj z=>?_;have:=(rz h<|Oj.mp z).2.1;show _=(((bS bs j:Nat):Int),((bS bs j+(bE bs j - bS bs j+1) - 1:Nat):Int));rw[show bS bs j+(bE bs j - bS bs j+1) - 1=bE bs j by omega]
theorem cj{M:Nat}(I:(stN M).Nodup){K:List (Nat×Nat)}(h : ∀s∈K,s∈stN M):ck ((stN M).map λs=>(mm K s:Int))=K.length:=by
 have:=rM (M:=M) M 0 I h;have b:(stN M).filter (Y4 M 0)=stN M:=List.filter_eq_self.mpr λs a=>by have:=wq.mp a;simp[Y4];omega
 have d:i3 K (M:Int) ((0:Nat):Int)=K.length:=by unfold i3;rw[List.countP_eq_length];intro s a;have:=wq.mp<|h s a;simp;omega
 rw[b,d]at this;exact this
theorem WT{f g:Nat->Int} : ∀n:Nat,(∀r,f r<=g r)->zf f n<=zf g n
 | 0,_=>Int.le_refl _
 | n+1,h=>by have:=WT n h;have:=h n;show zf f n+f n<=zf g n+g n;omega
theorem ff(c:Int) : ∀n:Nat,zf (λ_=>c) n=n*c
 | 0=>by show(0:Int)=_;simp
 | n+1=>by show zf _ n+c=_;rw[ff c n,Int.natCast_add,TH];simp
theorem Cb{m k n q:Nat}{wd:DK}(I:k<=m)(h : ∀r,wd r<=n):zf (λr=>(h8 k q wd r:Int)) (m+1)<=(m+1)*n+q:=by
 have a:=WT (f:=λr=>(h8 k q wd r:Int)) (g:=λr=>(n:Int)+if r=k then (q:Int)else 0) (m+1) λr=>by have:=h r;show((h8 k q wd r:Nat):Int)<=_;unfold h8;split<;>omega
 rw[z9,ff,zK (f:=λr=>if r=k then (q:Int)else 0) (i:=k) ⋯<|λr _ z=>DJ z,DZ rfl]at a;have e:((m+1:Nat):Int)*(n:Int)=((m:Int)+1)*n:=by rw[Int.natCast_add];rfl
 omega
theorem wU : ∀bs:List (Int×Int),i9 (zA bs)=cL
 | []=>rfl
 | b::bs=>by show(cL && i9 (zA bs))=cL;rw[wU bs];rfl
theorem oK(k:Nat)(s:Nat×Nat)(K:List (Nat×Nat)):rq k (s::K)=if s.1=k/\s.2=k then rq k K else E6 k s::rq k K:=by
 unfold rq;rw[_s];by_cases h:s.1=k/\s.2=k
 ·simp[h.1,h.2]
 ·rw[DJ h]
  have:(!(decide (s.1=k) && decide (s.2=k)))=cL:=by
   by_cases a:s.1=k
   ·have b:s.2≠k:=λz=>h ⟨a,z⟩
    simp[b]
   ·simp[a]
  rw[DZ this];rfl
theorem EM(k:Nat) : ∀{K:List (Nat×Nat)},(∀s∈K,s.1<=s.2)->(i3 (rq k K) k k:Int)=i3 K ((k:Int) - 1) ((k:Int) - 1)+i3 K ((k:Int)+1) ((k:Int)+1) - i3 K k k+mm K (k,k)
 | [],_=>rfl
 | s::K,h=>by
  have z:=EM k (K:=K) λx a=>h x<|Ow _ a;have b:=h s Ot;rw[oK,xS s K<|(k:Int) - 1,xS s K<|(k:Int)+1,xS s K k,Kq];dsimp only;split
  ·next e=>
   rw[z,DJ ⋯,DJ ⋯,DZ ⋯];omega
  ·next e=>
   rw[xS,z];have q:(if ((E6 k s).1:Int)<=k/\(k:Int)<=((E6 k s).2:Int)then (1:Int)else 0)=(if (s.1:Int)<=(k:Int) - 1/\(k:Int) - 1<=(s.2:Int)then (1:Int)else 0)+(if (s.1:Int)<=(k:Int)+1/\(k:Int)+1<=(s.2:Int)then (1:Int)else 0) - (if (s.1:Int)<=(k:Int)/\(k:Int)<=(s.2:Int)then (1:Int)else 0):=by
    unfold E6 hA;dsimp only
    repeat' split
    all_goals omega
   omega
theorem AV(m k:Nat)(w:DV):(Od m).map (l4 k w)=Wb ((Od m).map w) k:=by refine _t (by simp[Wb]) λi a b=>?_;simp[Wb,l4]
theorem gH(m:Nat)(w:DV):iv (.str<|qP m w)=cL:=by rw[yD];exact EE _
section
variable{p:Int}{w:DV}{wd:DK}{T:DQ}{m N k wl wr:Nat}{A:Nat->gv}
theorem Ar(D:h9 p w wd T m N A)(J:k<=m)(z:wl=if 0<k then wd (k - 1)else 0)(I:wr=if k<m then wd (k+1)else 0):i3 (xQ A N) ((k:Int) - 1) ((k:Int) - 1)=wl/\i3 (xQ A N) ((k:Int)+1) ((k:Int)+1)=wr:=by
 constructor
 ·rw[z]
  by_cases a:0<k
  ·rw[DZ a,<- KG D (show k - 1<=m by omega),show(k:Int) - 1=((k - 1:Nat):Int)by omega]
  ·rw[DJ a]
   unfold i3;rw[US];intro s _;have : ¬(s.1:Int)<=(k:Int) - 1:=by omega
   simp[this]
 ·rw[I]
  by_cases a:k<m
  ·rw[DZ a,<- KG D (show k+1<=m by omega),show(k:Int)+1=((k+1:Nat):Int)by omega]
  ·rw[DJ a]
   unfold i3;rw[US];intro s b;have:=wq.mp<|JH D s b;have : ¬(k:Int)+1<=(s.2:Int):=by omega
   simp[this]
theorem oH{q:Nat}{w':DV}{T':DQ}{N':Nat}{L:Nat->gv}(D:h9 p w wd T m N A)(J:k<=m)(z:wl=if 0<k then wd (k - 1)else 0)(I:wr=if k<m then wd (k+1)else 0)(O:h9 p w' (h8 k q wd) T' m N' L)(e:xQ L N'=rq k (xQ A N)):(q:Int)=wl+wr - wd k+mm (xQ A N) (k,k):=by have a:=KG O J;rw[e,show h8 k q wd k=q from DZ rfl]at a;have b:=EM k (K:=xQ A N) λs g=>(wq.mp<|JH D s g).1;obtain⟨Y,d⟩:=Ar D J z I;have f:=KG D J;rw[a,Y,d,f]at b;exact b
end
noncomputable def tM:=(jE 1<|zJ ja<|zc (ze 0)<|zc (zx<|.int 0) zC)
noncomputable def tK:=(jE 2<|dr (jR<|ye<|zc (zx<|.int 2)<|zc (zx<|.int 3)<|zc (zx<|.int 5)<|zc (zx<|.int 7) zC)<|zw kj (ze 1)<|zx<|.int 4)
noncomputable def tJ:=(jE 3<|zw qg (zx<|.int 1)<|zw kj (zw K1 (ze 1)<|zx<|.int 4)<|zx<|.int 4)
noncomputable def tH:=(jE 4<|zJ xu<|zc (zw K1 (ze 1)<|zx<|.int 16)<|zc (ze 3) zC)
noncomputable def tG:=(jE 5<|xh<|jU yx<|zc (ze 0)<|zc (zx<|.int 2)<|zc (zw qg (zx<|.int 1)<|zw kj (zJ ja<|zc (ze 0)<|zc (zx<|.int 9) zC)<|zx<|.int 4)<|zc (ze 3) zC)
noncomputable def tF:=(jE 6<|zJ yw<|zc (ze 0)<|zc (zx<|.int 10)<|zc (ze 2)<|zc (ze 4)<|zc (ze 5) zC)
noncomputable def tE:=(jE 7<|dr (zq 6)<|zx<|.int 1)
noncomputable def Ca:=(jE 8<|zx<|.bl dd)
noncomputable def tD:=(Jb (zO<|zL<|xh<|jU jK<|zc (ze 4) zC) (.nm 9)<|zS (jE 8<|Fc (ze 8)<|uu (qe<|zc (ze 9)<|zc (ze 9) zC)<|zq 5)<|zS (jE 5<|xh<|jU kf<|zc (ze 9)<|zc (ze 5) zC)<|zS (jE 6<|zJ qi<|zc (ze 6)<|zc (ze 9) zC)<|zS (jE 10<|zJ k7<|zc (ze 6) zC)<|jb (uq (kW<|sB<|fM<|jR<|zR (fG<|ze 10) (.nm 0) 1 [5,10] jO (zw ft (X7 (ze 2)<|ze 0)<|yI (zq 1)<|ze 0))<|sB<|zw i6 (VB<|ze 10)<|wG<|zq 5) (xM<|zx<|.bl dd) kE)
noncomputable def eO:=(jb (sB (zw i6 (X6 (zx (.str "")) (jR (zR (zO (zL (dr (zq 6) (zx (.int 2))))) (.nm 0) 1 [] jO (dr (zq 0) (zx (.int 0)))))) (ze 4))) (xM (zx (.bl dd))) kE)
noncomputable def eM:=(xM<|Fc (ze 8)<|zw ft (zJ xq<|zc (ze 4)<|zc (ze 7) zC)<|dr (zq 6)<|zx<|.int 1)
noncomputable def J0:=jn 11<|zS tM<|zS tK<|zS tJ<|zS tH<|zS tG<|zS tF<|zS tE<|zS Ca<|zS tD<|zS eO eM
theorem Gi(γ:Ctx)(fa g):uu fa g γ=(fa γ).bind λx=>(g γ).bind λks=>match ks.1 with
 | .L=>if iv x=cL/\i9 ks.2=cL then cI (.bl<|ks.2.any λd=>hH d x)else cR
 | .T=>cR:=rfl
theorem mO:J0=jn 11 (zS tM<|zS tK<|zS tJ<|zS tH<|zS tG<|zS tF<|zS tE<|zS Ca<|zS tD<|zS eO eM):=rfl
noncomputable def FY:=(jE 8<|Fc (ze 8)<|uu (qe<|zc (ze 9)<|zc (ze 9) zC)<|zq 5)
noncomputable def FX:=(jE 5<|xh<|jU kf<|zc (ze 9)<|zc (ze 5) zC)
noncomputable def FW:=(jE 6<|zJ qi<|zc (ze 6)<|zc (ze 9) zC)
noncomputable def FV:=(jE 10<|zJ k7<|zc (ze 6) zC)
noncomputable def FU:=(jb (uq (kW<|sB<|fM<|jR<|zR (fG<|ze 10) (.nm 0) 1 [5,10] jO (zw ft (X7 (ze 2)<|ze 0)<|yI (zq 1)<|ze 0))<|sB<|zw i6 (VB<|ze 10)<|wG<|zq 5) (xM<|zx<|.bl dd) kE)
noncomputable def L9:=zS FY<|zS FX<|zS FW<|zS FV FU
theorem Bq:tD=Jb (zO<|zL<|xh<|jU jK<|zc (ze 4) zC) (.nm 9) L9:=rfl
noncomputable def yV(ns:List Int)(c:Int)(q m:Nat)(W B R Fi z K F:Cell):Ctx:=[.val (bh ns),.val<|.int c,.val<|.int q,.val<|.int<|1+(m:Int),W,B,R,Fi,z,K,F]
theorem Gn{K:List (Nat×Nat)}{bs:List (Int×Int)}(h:bs.Perm (K.map zI))(k:Nat):((zA bs).any λd=>hH d<|.tup [.int (k:Int),.int (k:Int)])=decide (0<mm K (k,k)):=by rw[Rc,decide_eq_true_eq,<- aG K (k,k),<- XE h,List.countP_pos_iff,List.any_eq_true]
section
variable{ns:List Int}{c:Int}{q m:Nat}{W Fi:Cell}
theorem Cj(hp:Pr (q:Int))(hm:m<=3){w:DV}{wd:DK}{T:DQ}{N:Nat}{A:Nat->gv}{k:Nat}(hk:k<=m)(ht:Ya ((Od m).map w) k=cL)(L : ∀r,wd r<=4)(hN:N<=4)(hT : ∀a x y,0<=T a x y/\T a x y<(q:Int))(Dd:h9 q w wd T m N A){bs:List (Int×Int)}(a6:bs.Perm ((xQ A N).map zI))(Y:Bool)(c10:Cell) :
 ∃J T' N' A' ac z bd,L9 (yV ns c q m W (.val<|.lst<|zA bs) (.val<|qB q m w wd T) Fi (.val<|.bl Y) (.val<|.int (k:Int)) c10)=cI (.next<|yV ns c q m W (.val<|.lst<|zA ac) (.val<|qB q m (l4 k w) J T') Fi (.val<|.bl z) (.val<|.int (k:Int)) bd)/\
  (∀r,J r<=4)/\N'<=4/\(∀a x y,0<=T' a x y/\T' a x y<(q:Int))/\h9 q (l4 k w) J T' m N' A'/\ac.Perm ((xQ A' N').map zI)/\(z=dd->Y=dd/\∀r,r<=m->(J r:Int)=mv (m+1) k (λr=>(wd r:Int)) r):=by
 have hl:=jB;obtain⟨wl,B⟩ : ∃wl,wl=if 0<k then wd (k - 1)else 0:=⟨_,rfl⟩;obtain⟨E,C⟩ : ∃E,E=if k<m then wd (k+1)else 0:=⟨_,rfl⟩;have ch:wl<=4:=by rw[B];split;exact L _;omega
 have ci:E<=4:=by rw[C];split;exact L _;omega
 obtain⟨I,l,f1,F,cl,S⟩:=lZ (w:=w) (wd:=wd) (T:=T) hp ⋯ hk (λr=>by have:=L r;omega) hT B C ⋯ ht λq' cm=>by have o:=Cb (k:=k) (q:=q') hk L;omega
 obtain⟨O,f,n,M,co⟩:=S Dd ⋯;have cq:I<=4:=by have o:=n.cnt k hk;rw[show h8 k I wd k=I from DZ rfl]at o;have:=SH (λj=>(f j).has k)<|Od O;rw[OM]at this;have:(gi f O k).length<=O:=this;omega
 have G : ∀r,h8 k I wd r<=4:=λr=>by have:=L r;unfold h8;split<;>omega
 have nu:=cX hp (λr=>by have:=G r;omega) F ⋯ n;have X:=JH n;have Q:=oH Dd hk B C n M;have H : ∀s∈xQ A N,s.1<=s.2:=λs t=>(wq.mp<|JH Dd s t).1;have Z : ∀b∈bs,b.1<=b.2:=λb hb=>by obtain⟨s,t,rfl⟩:=RK.mp<|a6.mem_iff.mp hb;have:=H s t;show(s.1:Int)<=(s.2:Int);omega
 have cr:bs.length<=4:=by rw[a6.length_eq,OC];unfold xQ;rw[OC,OM];exact hN
 have P:=Ay (k:=(k:Int)) bs Z ⋯;have u:(ZX<|qc (k:Int) bs).Perm ((rq k<|xQ A N).map zI):=by refine(wJ _).trans ?_;rw[<- XF k H];exact dS a6
 have U:=Gn a6 k;generalize ZX (qc (k:Int) bs)=ds at P u;rw[<- M]at u;have cn : ∀s:Nat×Nat,((zA ds).countP λd=>hH d<|.tup [.int s.1,.int s.2])=mm (xQ f O) s:=λs=>by rw[XE u,aG]
 have le:(zA ds).length=(xQ f O).length:=by unfold zA;rw[OC,u.length_eq,OC]
 have c0:=wU ds;obtain⟨R,s2,s3⟩:=WZ ⟨m+1,by omega⟩;dsimp only at R s2 s3;have c3:=cj R X;let g:Nat×Nat->Int:=λs=>(mm (xQ f O) s:Int);let h:=K0 g<|m+1;let z:Bool:=Y || decide (0<mm (xQ A N) (k,k));refine⟨h8 k I wd,l,O,f,ds,z,.val h,?_,G,by omega,F,n,u,λc4=>?_⟩
 ·refine zG (γ':=yV ns c q m W (.val<|.lst<|zA bs) (.val<|qB q m w wd T) Fi (.val<|.bl z) (.val<|.int (k:Int)) c10) ?_
   (zG (γ':=yV ns c q m W (.val<|.lst<|zA ds) (.val<|qB q m w wd T) Fi (.val<|.bl z) (.val<|.int (k:Int)) c10) ?_
   (zG (γ':=yV ns c q m W (.val<|.lst<|zA ds) (.val<|qB q m (l4 k w) (h8 k I wd) l) Fi (.val<|.bl z) (.val<|.int (k:Int)) c10) ?_
   (zG (γ':=yV ns c q m W (.val<|.lst<|zA ds) (.val<|qB q m (l4 k w) (h8 k I wd) l) Fi (.val<|.bl z) (.val<|.int (k:Int))<|.val h) ?_ ?_)))
  ·have i1:uu (qe<|zc (ze 9)<|zc (ze 9) zC) (zq 5) (yV ns c q m W (.val<|.lst<|zA bs) (.val<|qB q m w wd T) Fi (.val<|.bl Y) (.val<|.int (k:Int)) c10)=cI (.bl<|decide<|0<mm (xQ A N) (k,k)):=by
    rw[Gi];show(if iv (.tup [.int (k:Int),.int (k:Int)])=cL/\i9 (zA bs)=cL then cI (D.bl<|(zA bs).any λd=>hH d<|.tup [.int (k:Int),.int (k:Int)])else cR)=_;rw[DZ ⟨rfl,wU bs⟩,U]
   unfold FY;show TN _ (Fc (ze 8) (uu _ _) _)=_;show TN _ (Rn (Rn (cI (D.bl Y)) p8) λb=>if b=cL then cI (.bl cL)else uu _ _ _)=_;rw[i1];cases Y<;>rfl
  ·simp[FX,yV,P]
  ·simp[FW,yV,f1]
  ·simp[FV,yV,nu,h,g]
  ·have c6:(stN<|m+1).length<=lim:=by omega
   have c7:((λk=>D.tup<|Rq D.int k)∘kI)=kD:=rfl;have K:jh (.nm 0) jO (zw ft (X7 (ze 2)<|ze 0)<|yI (zq 1)<|ze 0) [.no,.val<|.lst<|zA ds,.val (K0 g<|m+1)] ((stN<|m+1).map kD)=cI ((stN<|m+1).map λ_=>D.bl cL):=by
    refine zD _ _ λs t=>zF (γ1:=[.val (kD s),.val<|.lst<|zA ds,.val (K0 g<|m+1)]) rfl rfl ?_;have t1:X7 (ze 2) (ze 0) [.val (kD s),.val<|.lst<|zA ds,.val (K0 g<|m+1)]=cI (.int<|g s):=iJ g t;have t2:yI (zq 1) (ze 0) [.val (kD s),.val<|.lst<|zA ds,.val (K0 g<|m+1)]=cI (.int<|g s):=by show(if iv (kD s)=cL/\i9 (zA ds)=cL then cI (D.int ((zA ds).countP λd=>hH d (kD s):Nat))else cR)=_;rw[DZ ⟨rfl,c0⟩];show cI (D.int (((zA ds).countP λd=>hH d (.tup [.int s.1,.int s.2]):Nat):Int))=_;rw[cn]
    show Rn (X7 (ze 2) (ze 0) _) (λx=>Rn (yI (zq 1) (ze 0) _) λy=>ft x y)=_;rw[t1,t2];exact bu (d:= .int (g s)) rfl
   have sv:VB (ze 10) (yV ns c q m W (.val<|.lst<|zA ds) (.val<|qB q m (l4 k w) (h8 k I wd) l) Fi (.val<|.bl z) (.val<|.int (k:Int))<|.val h)=cI (.int ((xQ f O).length:Int)):=by
    show(cp<|(stN<|m+1).map λs=>D.int<|g s).map D.int=_;have:((stN<|m+1).map λs=>D.int<|g s)=((stN<|m+1).map g).map D.int:=by rw[Pw];rfl
    rw[this,Yc,c3];rfl
   have l1:fM (jR<|zR (fG<|ze 10) (.nm 0) 1 [5,10] jO (zw ft (X7 (ze 2)<|ze 0)<|yI (zq 1)<|ze 0)) (yV ns c q m W (.val<|.lst<|zA ds) (.val<|qB q m (l4 k w) (h8 k I wd) l) Fi (.val<|.bl z) (.val<|.int (k:Int))<|.val h)=cI (.bl cL):=by unfold K0 at K;simp[yV,h,K0,jL,xm,c6];rw[c7,K];simp[eU]
   have l2:zw i6 (VB<|ze 10) (wG<|zq 5) (yV ns c q m W (.val<|.lst<|zA ds) (.val<|qB q m (l4 k w) (h8 k I wd) l) Fi (.val<|.bl z) (.val<|.int (k:Int))<|.val h)=cI (.bl dd):=by show Rn (VB (ze 10) _) (λx=>Rn (wG (zq 5) _) λy=>i6 x y)=_;rw[sv,Og];show i6 _ (.int ((zA ds).length:Int))=_;rw[le];exact bq (d:= .int ((xQ f O).length:Int)) rfl
   have tt:(uq (kW<|sB<|fM<|jR<|zR (fG<|ze 10) (.nm 0) 1 [5,10] jO (zw ft (X7 (ze 2)<|ze 0)<|yI (zq 1)<|ze 0))<|sB<|zw i6 (VB<|ze 10)<|wG<|zq 5) (yV ns c q m W (.val<|.lst<|zA ds) (.val<|qB q m (l4 k w) (h8 k I wd) l) Fi (.val<|.bl z) (.val<|.int (k:Int))<|.val h)=cI dd:=by show Rn (TN _<|Rn (fM _ _) p8) (λb=>if b=cL then cI cL else Rn (zw i6 _ _ _) p8)=_;rw[l1,l2];rfl
   unfold FU;rw[ZC,tt];rfl
 ·have o:Y=dd/\mm (xQ A N) (k,k)=0:=by
   have:(Y || decide (0<mm (xQ A N) (k,k)))=dd:=c4;rw[Bool.or_eq_false_iff]at this;exact⟨this.1,by have:=of_decide_eq_false this.2;omega⟩
  refine⟨o.1,λr hr=>?_⟩;rw[o.2]at Q;unfold mv As h8;dsimp only;by_cases e:r=k
  ·subst e
   rw[DZ rfl,DZ rfl,Q,B,C];by_cases i:0<r
   ·by_cases p:r<m
    ·rw[DZ i,DZ p,DZ i,DZ ⋯];omega
    ·rw[DZ i,DJ p,DZ i,DJ ⋯];omega
   ·by_cases p:r<m
    ·rw[DJ i,DZ p,DJ i,DZ ⋯];omega
    ·rw[DJ i,DJ p,DJ i,DJ ⋯];omega
  ·rw[DJ e,DJ e]
end
section
variable{ns:List Int}{c:Int}{q m:Nat}{W Fi:Cell}
theorem sk(hp:Pr (q:Int))(hm:m<=3){l0:List Bool} : ∀(ks:List Nat) (w:DV) (wd:DK) (T:DQ) (N:Nat) (A:Nat->gv) (bs:List (Int×Int)) (I:Bool) (c9 c10:Cell) (u:Nat->Int),
 AN l0 ((Od m).map w) ks=cL->(∀r,wd r<=4)->N<=4->(∀a x y,0<=T a x y/\T a x y<(q:Int))->h9 q w wd T m N A->bs.Perm ((xQ A N).map zI)->(I=dd->∀r,r<m+1->(wd r:Int)=u r)->
 ∃w' J L a0 Y a1 a2,qU (.nm 9) L9 (ks.map λk:Nat=>D.int (k:Int)) (yV ns c q m W (.val<|.lst<|zA bs) (.val<|qB q m w wd T) Fi (.val<|.bl I) c9 c10)=cI (.next<|yV ns c q m W (.val<|.lst<|zA a0) (.val<|qB q m w' J L) Fi (.val<|.bl Y) a1 a2)/\
  (Od m).map w'=l0/\(Y=dd->∀r,r<m+1->(J r:Int)=I8 (m+1) ks u r)
 | [],w,wd,T,N,A,bs,I,c9,c10,u,z,_,_,_,_,_,hu=>⟨w,wd,T,bs,I,c9,c10,rfl,eq_of_beq z,hu⟩
 | k::ks,w,wd,T,N,A,bs,I,c9,c10,u,z,l?,hN,hT,Dd,j?,hu=>by
  unfold AN at z;rw[Oo,Oo]at z;obtain⟨⟨F,b⟩,z⟩:=z;have b:=of_decide_eq_true b;rw[OC,OM]at b;obtain⟨h,g,f,e,i,j,l,n,p,s,t,B,C,E⟩:=Cj (ns:=ns) (c:=c) (W:=W) (Fi:=Fi) hp hm b F l? hN hT Dd j? I c10;rw[<- AV]at z;have as : ∀x∈ks,x<m+1:=λx G=>by have:=V8 z x G;rw[OC,OM]at this;omega
  obtain⟨w',J,L,a0,Y,a1,a2,o,g1,g2⟩:=sk hp hm ks (l4 k w) h g f e i j (.val<|.int (k:Int)) l (mv (m+1) k u) z p s t B C λd r O=>by obtain⟨H,K⟩:=E d;rw[K r ⋯];exact oJ (λr O=>hu H r O) ⋯ r O
  refine⟨w',J,L,a0,Y,a1,a2,?_,g1,λd r O=>by rw[g2 d r O];rfl⟩;rw[OH,jz];show Rn (L9<|yV ns c q m W (.val<|.lst<|zA bs) (.val<|qB q m w wd T) Fi (.val<|.bl I) (.val<|.int (k:Int)) c10) _=_;rw[n,Og];exact o
end
theorem ID(ns:List Int)(I:ns.length<=63):J0 [bh ns]=cI (.val<|.bl cL):=by
 have hl:=jB;obtain⟨o,s,M⟩:=KL I (k:=0) ⋯ ⋯;obtain⟨K,z2,z3⟩:=KL I (k:=9) ⋯ ⋯;generalize kK ns 0=c at o s M;generalize kK ns 9=d9 at K z2 z3;obtain⟨q,H,ep,P⟩:=Ef s;obtain⟨m,em,bv⟩:=YS (c:=c/4) (n:=4) ⋯;have hm:m<=3:=by omega
 obtain⟨w,hw⟩:=BY (c:=c/16) ⋯ (show m<=5 by omega);obtain⟨n,en,hn⟩:=YS (c:=d9) (n:=4) ⋯;obtain⟨bs,t,u,bx⟩:=FT I (show m<=5 by omega) (n:=n+1) ⋯;obtain⟨T,Q,B⟩:=QP (at_:=10) (w:=w) I H ⋯ ⋯ (show m<=5 by omega) u ⋯;obtain⟨A,L,ek⟩:=B.dec;have U : ∀k,bW bs k<=4:=λk=>by have:=X0 (S:=bS bs) (E:=bE bs) (N:=bs.length) (r:=k);have:bW bs k<=bs.length:=this;omega
 have G:=lN u;rw[<- ek]at G;have X:((Od m).map w).length=m:=by simp
 have to:=QW (l:=(Od m).map w) ⋯;have F:=iI (l:=(Od m).map w) ⋯;have O:=nE (l:=(Od m).map w) ⋯ λr=>(bW bs r:Int);rw[X,<- yD]at O;rw[<- yD]at to;generalize Ag ((Od m).map w)=ks at to F O;let W:Cell:= .val (.str<|qP m w);let Fi:Cell:= .val (.tup<|zP (m+1) λr=>(bW bs r:Int));obtain⟨J,a,i,Z,Y,e,f,e2,g1,g2⟩:=sk (ns:=ns) (c:=c) (W:=W) (Fi:=Fi) H hm ks w (bW bs) T bs.length A bs dd .no .no (λr=>(bW bs r:Int)) F U ⋯ B.i4 L (by rw[<- G]) λ_ _ _=>rfl;have C:=yZ (p:=(q:Int)) (w:=J) (wd:=a) (T:=i) (show m<=900 by omega);rw[yD,g1,<- yD]at C;have bd:c/4%4=(m:Int):=em;have be:d9%4=(n:Int):=en;let z:Cell:= .val (.lst<|zA bs);let R:Cell:= .val (qB q m w (bW bs) T);let b:Cell:= .val (.lst<|zA Z);let R2:Cell:= .val (qB q m J a i);rw[mO];refine xj (zG (γ':=[.val (bh ns),.val<|.int c,.no,.no,.no,.no,.no,.no,.no,.no,.no]) ?_
  (zG (γ':=[.val (bh ns),.val<|.int c,.val<|.int q,.no,.no,.no,.no,.no,.no,.no,.no]) ?_
  (zG (γ':=yV ns c q m .no .no .no .no .no .no .no) ?_
  (zG (γ':=yV ns c q m W .no .no .no .no .no .no) ?_
  (zG (γ':=yV ns c q m W z .no .no .no .no .no) ?_
  (zG (γ':=yV ns c q m W z R .no .no .no .no) ?_
  (zG (γ':=yV ns c q m W z R Fi .no .no .no) ?_
  (zG (γ':=yV ns c q m W z R Fi (.val<|.bl dd) .no .no) rfl
  (zG (γ':=yV ns c q m W b R2 Fi (.val<|.bl Y) e f) ?_
  (zG (γ':=yV ns c q m W b R2 Fi (.val<|.bl Y) e f) ?_ ?_))))))))))
 ·simp[tM,jx,gx,o]
 ·simp[tK,P,ep]
 ·simp[tJ,bd,yV]
 ·simp[tH,yV,hw,W]
 ·have e1:(1:Int)+(n:Int)=((n+1:Nat):Int):=by omega
  rw[<- e1]at t;simp[tG,yV,K,be,t,z]
 ·simp[tF,yV,W,z,Q,R]
 ·simp[tE,yV,R,yA,Fi]
 ·rw[Bq,JV]
  have g:zO (zL<|xh<|jU jK<|zc (ze 4) zC) (yV ns c q m W z R Fi (.val<|.bl dd) .no .no)=cI (ks.map λk:Nat=>D.int (k:Int)):=by simp[yV,W,to,jo]
  rw[g];exact e2
 ·have j:X6 (zx (.str "")) (jR (zR (zO (zL (dr (zq 6) (zx (.int 2))))) (.nm 0) 1 [] jO (dr (zq 0) (zx (.int 0))))) (yV ns c q m W b R2 Fi (.val (.bl Y)) e f)=cI (.str (qP m w)):=by
   have h:(X6 (zx (.str "")) (jR (zR (zO (zL (dr (zq 0) (zx (.int 2))))) (.nm 0) 1 [] jO (dr (zq 0) (zx (.int 0))))) [R2]).map (λd=>Res.val d)=cI (.val (.str (qP m w))):=by rw[<- C];unfold x9 jn;show _=((X6 _ _ [R2]).map λd=>Fl.ret (Res.val d)).bind _;cases X6 (zx (.str "")) (jR (zR (zO (zL (dr (zq 0) (zx (.int 2))))) (.nm 0) 1 [] jO (dr (zq 0) (zx (.int 0))))) [R2]<;>rfl
   obtain⟨d,h1,h2⟩:=RV.mp h;cases h2;exact h1
  have ne:=bq<|gH m w;unfold eO;rw[ZC];show(Rn (Rn (Rn (X6 _ _ _) λx=>Rn (ze 4 _) λy=>i6 x y) p8) _)=_;rw[j];show(Rn (Rn (i6 (.str<|qP m w)<|.str<|qP m w) p8) _)=_;rw[ne];rfl
 ·unfold eM
  cases Y with
  | true=>rfl
  | false=>
   have e3:zP (m+1) (I8 (m+1) ks λr=>(bW bs r:Int))=zP (m+1) λr=>(a r:Int):=yp λr hr=>(g2 rfl r hr).symm;rw[e3]at O;have e4:=bu<|An (m+1) λr=>(a r:Int);simp[yV,W,Fi,R2,O,yA,e4]
noncomputable def top(i:Nat):PySem.Stmt:=PySem.Challenge.pw_barsplit_k62_whole_turned_through_a_row.main.body.getD i<|.Pass ⟨0,0,0,0⟩
section
variable{CR CL:PySem.Addr}{P:PySem.Program}{w:PySem.World}{K:Ob}{mg:PySem.Str->Option PySem.Value}{base:PySem.Heap}
theorem J6(h:us.length=n+1) : ∃a t,us=a::t/\t.length=n:=by
 cases us with
 | nil=>exact absurd h<|Nat.zero_ne_add_one n
 | cons a t=>exact⟨a,t,rfl,Nat.succ.inj h⟩
theorem Nw(h:us.length=1) : ∃a,us=[a]:=by obtain⟨a,z,rfl,b⟩:=J6 h;rw[Pd b];exact⟨a,rfl⟩
theorem Nv(h:us.length=2) : ∃a b,us=[a,b]:=by obtain⟨a,z,rfl,d⟩:=J6 h;obtain⟨b,I,rfl,e⟩:=J6 d;rw[Pd e];exact⟨a,b,rfl⟩
theorem NX(h:us.length=3) : ∃a b c,us=[a,b,c]:=by obtain⟨a,z,rfl,d⟩:=J6 h;obtain⟨b,I,rfl,e⟩:=J6 d;obtain⟨c,O,rfl,f⟩:=J6 e;rw[Pd f];exact⟨a,b,c,rfl⟩
theorem NV(h:us.length=4) : ∃a b c d,us=[a,b,c,d]:=by obtain⟨a,I,rfl,e⟩:=J6 h;obtain⟨b,O,rfl,f⟩:=J6 e;obtain⟨c,Y,rfl,g⟩:=J6 f;obtain⟨d,i,rfl,z⟩:=J6 g;rw[Pd z];exact⟨a,b,c,d,rfl⟩
theorem NU{J:Type}{us:List J}(h:us.length=5) : ∃a b c d e,us=[a,b,c,d,e]:=by obtain⟨a,O,rfl,f⟩:=J6 h;obtain⟨b,Y,rfl,g⟩:=J6 f;obtain⟨c,j,rfl,i⟩:=J6 g;obtain⟨d,k,rfl,z⟩:=J6 i;obtain⟨e,l,rfl,I⟩:=J6 z;rw[Pd I];exact⟨a,b,c,d,e,rfl⟩
theorem NT{J:Type}{us:List J}(h:us.length=7) : ∃a b c d e f g,us=[a,b,c,d,e,f,g]:=by obtain⟨a,l,rfl,i⟩:=J6 h;obtain⟨b,m,rfl,j⟩:=J6 i;obtain⟨c,n,rfl,k⟩:=J6 j;obtain⟨d,o,rfl,z⟩:=J6 k;obtain⟨e,p,rfl,I⟩:=J6 z;obtain⟨f,r,rfl,O⟩:=J6 I;obtain⟨g,s,rfl,Y⟩:=J6 O;rw[Pd Y];exact⟨a,b,c,d,e,f,g,rfl⟩
structure E0(K:Ob)(mg:PySem.Str->Option PySem.Value):Prop where
 Q0:fy K mg "_law_cell" (top 66) ["_law_script","_law_k"]
 Q1:fy K mg "_law_ways" (top 69) ["_law_cell_here","_law_rooms"]
 Q2:fy K mg "_law_bars" (top 70) ["_law_script","_law_at","_law_many","_law_rooms"]
 Q3:fy K mg "_law_ends" (top 67) ["_law_k","_law_way"]
 Q4:fy K mg "_law_laid" (top 71) ["_law_ways_here","_law_some"]
 Q5:fy K mg "_law_row" (top 68) ["_law_p","_law_ways_here","_law_widths","_law_tables"]
 Q6:fy K mg "_law_step" (top 72) ["_law_p","_law_ways_here","_law_tables","_law_room","_law_a","_law_b","_law_times"]
 Q7:fy K mg "_law_built" (top 73) ["_law_script","_law_at","_law_p","_law_ways_here","_law_some"]
 Q8:fy K mg "is_whole" (top 7) ["x"]
 Q9:fy K mg "is_room" (top 30) ["many","k"]
 Qa:fy K mg "end_of" (top 28) ["k","way"]
 Qb:fy K mg "arrows_of" (top 34) ["ways","k"]
 Qc:fy K mg "is_end" (top 35) ["ways","k"]
 Qd:fy K mg "beginning_of" (top 27) ["k","way"]
 Qe:fy K mg "is_beginning" (top 36) ["ways","k"]
 Qf:fy K mg "ask_turn" (top 37) ["ways","k"]
 Qg:fy K mg "other_way" (top 29) ["way"]
 Qh:fy K mg "ways_about" (top 62) ["ways","k"]
 Qi:fy K mg "turning_order" (top 63) ["ways"]
 Qj:fy K mg "_law_moved" (top 74) ["_law_k","_law_some"]
 Qk:fy K mg "ways_of" (top 31) ["row"]
 Ql:fy K mg "turned_over" (top 11) ["table"]
 Qm:fy K mg "lines_met" (top 38) ["row","k","ends"]
 Qn:fy K mg "ask_together" (top 32) ["widths"]
 Qo:fy K mg "columns" (top 24) ["high","loads"]
 Qp:fy K mg "behind_noughts" (top 18) ["many","base"]
 Qq:fy K mg "rests" (top 8) ["p","numbers"]
 Qr:fy K mg "inverse" (top 9) ["p","x"]
 Qs:fy K mg "cleared" (top 16) ["p","load","pivot","place"]
 Qt:fy K mg "base_of" (top 17) ["p","long","loads"]
 Qu:fy K mg "same_table" (top 12) ["many"]
 Qv:fy K mg "led_into" (top 20) ["p","table","base"]
 Qw:fy K mg "kernel" (top 21) ["p","table"]
 Qx:fy K mg "met_from_end" (top 39) ["p","met"]
 Qy:fy K mg "image" (top 22) ["p","table"]
 Qz:fy K mg "lead_of" (top 15) ["load"]
 _w:fy K mg "what_is_left" (top 40) ["p","base","load"]
 _x:fy K mg "met_from_beginning" (top 41) ["p","met"]
 _y:fy K mg "arrow_about" (top 42) ["way","wide","lines","ends"]
 _z:fy K mg "arrows_about" (top 43) ["row","k","met","ends"]
 _A:fy K mg "turned_about" (top 44) ["row","k"]
 _B:fy K mg "stretches_of" (top 57) ["many"]
 _C:fy K mg "led" (top 10) ["p","table","load"]
 _D:fy K mg "led_on" (top 19) ["p","table","base"]
 _E:fy K mg "tables_joined" (top 51) ["one","other","join"]
 _F:fy K mg "nought_table" (top 13) ["high","wide"]
 _G:fy K mg "no_join" (top 52) ["one","other"]
 _H:fy K mg "tables_beside" (top 53) ["one","other"]
 _I:fy K mg "link" (top 55) ["row","i","j"]
 _J:fy K mg "kept" (top 56) ["row","i","j"]
 _K:fy K mg "number_of" (top 58) ["much","i","j"]
 _L:fy K mg "numbers" (top 59) ["row"]
 _M:fy K mg "moved" (top 61) ["widths","k"]
 _N:fy K mg "widths_round" (top 64) ["ways","widths"]
 _O:fy K mg "law" (top 75) ["_law_script"]
 Z0:mg "len" = cR
 Z1:mg "min" = cR
 Z2:mg "range" = cR
 Z3:mg "sorted" = cR
 Z4:mg "enumerate" = cR
 Z5:mg "int" = cR
 Z6:mg "tuple" = cR
 Z7:mg "zip" = cR
 Z8:mg "bool" = cR
 Z9:mg "isinstance" = cR
 Za:mg "all" = cR
 Zb:mg "list" = cR
 Zc:mg "sum" = cR
 Zd:mg "any" = cR
 Ze:mg "dict" = cR
 G0:GL K mg "MOST_TOGETHER" (.int 30)
structure E1(P:PySem.Program)(w:PySem.World)(K:Ob)(mg:PySem.Str->Option PySem.Value)(base:PySem.Heap)(CR CL:PySem.Addr):Prop where
 OL:NK P w K mg base 3 "arrow_by" CR CL
 R4:MethAt P w K mg base 5 CR yv
 R3:MethAt P w K mg base 5 CL qr
theorem yl(E:E0 K mg):f7 P w K mg base 1 "_law_cell" 2 ja:=
 xD (N:=["_law_script","_law_k","_law_cell_here","_law_turn","_law_given"]) E.Q0 ⋯ λX z e I d b a f=>by subst z e I d b;exact by refine zg (xN (Je (kF (Xh (xy a ⋯ E.Z0 (z6 a)) zm) (xn (qM a (ql (zM (z6 a) zm) zm) zm)))) (by refine zg (jw a (zM (z6 a) (jj zm (ql (zu a) (qK (xy a ⋯ E.Z0 (z6 a)) zm))))) ?_;refine zg (ku f a (qE a ⋯ E.Z2 (CP a ⋯ E.Z1 zm (Zk (zu a) (qK (xy a ⋯ E.Z0 (z6 a)) zm)))) (zo (jw a (Zk (zu a) (fS zm zm))))) ?_;exact(zo (zU (ql (zu a) (fS zm zm))))) qC) ?_;refine zg (jw a (zu a)) ?_;refine zg (xN (Xh (xy a ⋯ E.Z0 (z6 a)) zm) (zo (jw a (zM (z6 a) (ql (zu a) (xy a ⋯ E.Z0 (z6 a)))))) qC) ?_;exact(zo (zU (ql (qL (ql (jj (jj (jj (qL (ql (zu a) (fS zm zm)) zm) (qL (qL zm (zu a)) (zu a))) (qL zm (zu a))) zm) zm) zm) zm)))
theorem Jp(E:E0 K mg):f7 P w K mg base 1 "_law_ways" 2 xu:=
 xD (N:=["_law_cell_here","_law_rooms","_law_ways_here","_law_k"]) E.Q1 ⋯ λX z e I d b a f=>by subst z e I d b;exact by refine zg (jw a yM) ?_;refine zg (ku f a (qE a ⋯ E.Z2 (qK (zu a) zm)) (by refine zg (jw a (uF (zu a) (Ka yM (ql (zu a) zm)))) ?_;exact(zo (jw a (Zk (zu a) zm))))) ?_;exact(zo (kn 2 (a.var ⋯)))
theorem QE(E:E0 K mg):f7 P w K mg base 2 "_law_bars" 4 yx:=
 xD (N:=["_law_script","_law_at","_law_many","_law_rooms","_law_some","_law_k","_law_cell_here","_law_i"]) E.Q2 ⋯ λX z e I d b a f=>by subst z e I d b;exact by refine zg (yN a (yO (xF zh))) ?_;refine zg (ku f a (qE a ⋯ E.Z2 (zu a)) (by refine zg (jw a (z5 (yl E) a (za (zu a) (za (jj (zu a) (zu a)) zh)))) ?_;refine zg (jw a (ql (zu a) (zu a))) ?_;exact(zo (yi 4 a ⋯ (jg (xF (za (zu a) (za (jj (zu a) (ql (Zk (zu a) (zu a)) (qK (zu a) (zu a)))) zh)))))))) ?_;exact(zo (ko (au a ⋯ E.Z3 (z6 a))))
theorem xY(E:E0 K mg):f7 P w K mg base 1 "_law_ends" 2 jv:=
 xD (N:=["_law_k","_law_way"]) E.Q3 ⋯ λX z e I d b a f=>by subst z e I d b;exact by refine zg (xN (qM a (zu a) yM) (zo (zU (jg (xF (za (zu a) (za (jj (zu a) zm) zh)))))) qC) ?_;exact(zo (zU (jg (xF (za (jj (zu a) zm) (za (zu a) zh))))))
theorem VP(E:E0 K mg):NW P w K mg base 2 "_law_laid" 2 xV:=
 NF (N:=["_law_ways_here","_law_some","_law_stand","_law_tables","_law_k","_law_way","_law_begin","_law_end"]) E.Q4 ⋯ λX z j I i h a k=>by subst z j I i h;exact EY (qD 2 (Zu a (i0.c (qE a ⋯ E.Z2 (jj (Kb a ⋯ E.Z0 (zu a)) zm))) (λ_ _ _ b=>PO.v (Yz b (i0.c (qE b ⋯ E.Z2 (xy b ⋯ E.Z0 (z6 b)))) (λ_ _ _ d=>Yw ou ou W0 W0 (zM (PV.q (zM (z6 d) (zu d))) zm) (zu d) (zM (PV.q (zM (z6 d) (zu d))) zm)) (λ_ _ _ d=>zu d))))) (IE (a.set 3 ⋯ (sf jF)) (mF (T:= .tp [4,5]) (Ji k) a.calm (Ki a ⋯ E.Z4 (zu a)) (a.Dk (jQ (a.n6 4 ⋯) (jQ (a.n6 5 ⋯) yP))) (Vx (mD (T:= .tp [6,7]) (Xj (z5 (xY E) a (za (zu a) (za (zu a) zh))) (a.Dk (jQ (a.n6 6 ⋯) (jQ (a.n6 7 ⋯) yP))))) (J8 (Hv 3 Ot (by rfl) a ⋯ (nV (own:=["_law_x"]) (fr:=[("_law_stand",2),("_law_begin",6)]) (T:= .nm 0) a.calm (a.D_ (fr:=[("_law_stand",2),("_law_begin",6)]) ⋯) ⋯ (jf (PV.q (zM (z6 a) (zu a)))) (λf g e=>have b:=a.cq ["_law_x"] [("_law_stand",2),("_law_begin",6)] f g e ⋯;b.n6 0 ⋯) (λf g e=>have b:=a.cq ["_law_x"] [("_law_stand",2),("_law_begin",6)] f g e ⋯;xE b (jf (PV.q (zM (z6 b) (zu b)))) (λ_ _ _ d=>uE d ⋯ E.Z5 (fU d (zu d) (zu d))))))))) (PO.v (xE a (jf (z6 a)) (λ_ _ _ b=>xy b ⋯ E.Z0 (z6 b)))) (a.var ⋯))
theorem QD(E:E0 K mg):f7 P w K mg base 2 "_law_row" 4 qt:=
 xD (N:=["_law_p","_law_ways_here","_law_widths","_law_tables","_law_arrows","_law_k","_law_way","_law_begin","_law_end"]) E.Q5 ⋯ λX z f I e d a g=>by subst z f I e d;exact by refine zg (yN a (yO (xF zh))) ?_;refine zg (ku g a (Ki a ⋯ E.Z4 (zu a)) (by refine zg (nO (MW a) (z5 (xY E) a (za (zu a) (za (zu a) zh)))) ?_;exact(zo (yi 4 a ⋯ (jg (xF (za (zu a) (za (jg (xF (za (zM (z6 a) (zu a)) (za (zM (z6 a) (zu a)) (za (jY a ⋯ E.Z6 (PO.q (xE a (jf (PV.q (zM (z6 a) (zu a)))) (λ_ _ _ b=>jY b ⋯ E.Z6 (z6 b))))) zh))))) zh)))))))) ?_;exact(zo (zU (jg (xF (za (zu a) (za (jY a ⋯ E.Z6 (z6 a)) (za (jY a ⋯ E.Z6 (z6 a)) zh)))))))
theorem VO(E:E0 K mg):NY P w K mg base 2 "_law_step" 2 4 k8:=
 ND (N:=["_law_p","_law_ways_here","_law_tables","_law_room","_law_a","_law_b","_law_times","_law_over","_law_k","_law_way","_law_begin","_law_end","_law_rows","_law_row_here"]) E.Q6 ⋯ (by rfl) λX z g I f e a d=>by subst z g I f e;exact Vx (mD (T:= .nm 7) (a.set 7 ⋯ (zM (PO.q (Yz a (i0.c (qE a ⋯ E.Z2 (zu a))) (λ_ _ _ b=>qM b (ql (qL (zu b) (zu b)) (zu b)) zm) (λ_ _ _ b=>zu b))) zm))) (J8 (mF (T:= .tp [8,9]) (Ji d) a.calm (Ki a ⋯ E.Z4 (zu a)) (a.Dk (jQ (a.n6 8 ⋯) (jQ (a.n6 9 ⋯) yP))) (Vx (mD (T:= .tp [10,11]) (Xj (z5 (xY E) a (za (zu a) (za (zu a) zh))) (a.Dk (jQ (a.n6 10 ⋯) (jQ (a.n6 11 ⋯) yP))))) (BS 2 12 Ot a ⋯ ⋯ (zu a) (λk=>Vx (Gu (Je (kF (qM a (zu a) (zu a)) (xn (qM a (zu a) (zu a))))) (J8 (WE Ot (by rfl) (ZD 12 a ⋯ (xE a (jf (PV.q (zM (z6 a) (zu a)))) (λ_ _ _ b=>ql (qL (zu b) (zu b)) (zu b))) (zu a))))) (Vx (Gu (Je (kF (qM a (zu a) (zu a)) (xn (Jf a (zu a) (zu a))))) (J8 (WE Ot (by rfl) (ZD 12 a ⋯ (xE a (i0.c (YC a ⋯ E.Z7 (zM (z6 a) (zu a)) (zM (z6 a) (zu a)))) (λ_ _ _ b=>ql (jj (zu b) (qL (zu b) (zu b))) (zu b))) (zu a))))) (J8 (mE (Ji d) a.calm Ot (a.var ⋯) (a.n6 13 ⋯) (λm=>Vx (Gu (Je (kF (qM a (zu a) (zu a)) (xn (qM a (zu a) (zu a))))) (J8 (WG Ot (ZD 13 a ⋯ (ql (qL (zu a) (zM (z6 a) (zu a))) (zu a)) (zu a))))) (J8 (Gu (Je (kF (qM a (zu a) (zu a)) (xn (Jf a (zu a) (zu a))))) (J8 (WG Ot (ZD 13 a ⋯ (ql (qK (zM (z6 a) (zu a)) (qL (zu a) (zM (z6 a) (zu a)))) (zu a)) (zu a)))))))))))))))
theorem YL(E:E0 K mg):f7 P w K mg base 3 "_law_built" 5 yw:=
 xD (N:=["_law_script","_law_at","_law_p","_law_ways_here","_law_some","_law_widths","_law_tables","_law_room","_law_width","_law_k","_law_cell_here"]) E.Q7 ⋯ λX z f I e d a b=>by subst z f I e d;exact fY 5 6 (VP E) ⋯ a ⋯ (za (zu a) (za (zu a) zh)) (a.Dk (jQ (a.n6 5 ⋯) (jQ (a.n6 6 ⋯) yP))) (sZ (mF (T:= .tp [7,8]) (Ji b) a.calm (uX a ⋯ E.Z4 (zu a)) (a.Dk (jQ (a.n6 7 ⋯) (jQ (a.n6 8 ⋯) yP))) (J8 (mF (T:= .nm 9) (Ji b) a.calm (qE a ⋯ E.Z2 (qL zm (zu a))) (a.n6 9 ⋯) (Vx (mD (T:= .nm 10) (a.set 10 ⋯ (z5 (yl E) a (za (zu a) (za (jj (jj (zu a) (qL zm (zu a))) (zu a)) zh))))) (J8 (BU (VO E) ⋯ a ⋯ Ot (by rfl) (aA (zu a) (aA (zu a) (Ae (a.var ⋯) (vT (zu a) (vT (ql (zu a) (zu a)) (vT (ql (Zk (zu a) zm) (zu a)) (vT (jj zm (ql (Zk (zu a) zm) (qK (zu a) zm))) gA))))))) (kY (kY aM)) (kY (kY (kY (kY aM)))))))))) (BR (zo (zU (z5 (QD E) a (za (zu a) (za (zu a) (za (zu a) (za (zu a) zh)))))))))
theorem VQ(E:E0 K mg):f7 P w K mg base 1 "is_whole" 1 XJ:=
 xD (N:=["x"]) E.Q8 ⋯ λX z e I d b a f=>by subst z e I d b;exact zo (zU (rV (fT a ⋯ E.Z9 ⋯ E.Z5 (zu a)) (ai (CN (cF a ⋯ E.Z9 ⋯ E.Z8 (zu a))))))
theorem Xo(E:E0 K mg):f7 P w K mg base 2 "is_room" 2 y8:=
 xD (N:=["many","k"]) E.Q9 ⋯ λX z e I d b a f=>by subst z e I d b;exact zo (zU (rV (z5 (VQ E) a (za (zu a) zh)) (ai (nI ou Ai W0 fz zm (zu a) (zu a)))))
theorem gF(E:E0 K mg):f7 P w K mg base 1 "end_of" 2 KW:=
 xD (N:=["k","way"]) E.Qa ⋯ λX z e I d b a f=>by subst z e I d b;exact zo (zU (qS (qM a (zu a) yM) (jj (zu a) zm) (zu a)))
theorem kz(E:E0 K mg):f7 P w K mg base 1 "arrows_of" 2 qm:=
 xD (N:=["ways","k"]) E.Qb ⋯ λX z f I e d b g=>by subst z f I e d;exact zo (ko (Yz b (jf (PV.q (jg (xF (za (qK (zu b) zm) (za (zu b) zh)))))) (λ_ _ _ a=>Yw ou Ai W0 fz zm (zu a) (Kb a ⋯ E.Z0 (zu a))) (λ_ _ _ a=>zu a)))
theorem Jq(E:E0 K mg):f7 P w K mg base 2 "is_end" 2 vh:=
 xD (N:=["ways","k"]) E.Qc ⋯ λX z f I e d b g=>by subst z f I e d;exact zo (zU (fX b ⋯ E.Za (PO.q (xE b (jf (PO.q (kX (kz E) b (za (zu b) (za (zu b) zh))))) (λ_ _ _ a=>fU a (z5 (gF E) a (za (zu a) (za (Ka (zu a) (zu a)) zh))) (zu a))))))
theorem Js(E:E0 K mg):f7 P w K mg base 1 "beginning_of" 2 kO:=
 xD (N:=["k","way"]) E.Qd ⋯ λX z e I d b a f=>by subst z e I d b;exact zo (zU (qS (qM a (zu a) yM) (zu a) (jj (zu a) zm)))
theorem Jr(E:E0 K mg):f7 P w K mg base 2 "is_beginning" 2 vx:=
 xD (N:=["ways","k"]) E.Qe ⋯ λX z f I e d b g=>by subst z f I e d;exact zo (zU (fX b ⋯ E.Za (PO.q (xE b (jf (PO.q (kX (kz E) b (za (zu b) (za (zu b) zh))))) (λ_ _ _ a=>fU a (z5 (Js E) a (za (zu a) (za (Ka (zu a) (zu a)) zh))) (zu a))))))
theorem Jt(E:E0 K mg):f7 P w K mg base 3 "ask_turn" 2 k9:=
 xD (N:=["ways","k"]) E.Qf ⋯ λX z e I d b a f=>by subst z e I d b;exact by refine zg (xN (wN (kG (z5 (Xo E) a (za (jj (Kb a ⋯ E.Z0 (zu a)) zm) (za (zu a) zh))))) (zo vS) qC) ?_;exact(zo (xN (Je (kF (wN (kG (z5 (Jq E) a (za (zu a) (za (zu a) zh))))) (xn (wN (kG (z5 (Jr E) a (za (zu a) (za (zu a) zh)))))))) (zo vS) qC))
theorem Zm(E:E0 K mg):f7 P w K mg base 1 "other_way" 1 kc:=
 xD (N:=["way"]) E.Qg ⋯ λX z e I d b a f=>by subst z e I d b;exact zo (zU (qS (qM a (zu a) yM) yM yM))
theorem Km(E:E0 K mg):f7 P w K mg base 4 "ways_about" 2 Zp:=
 xD (N:=["ways","k","turned"]) E.Qh ⋯ λX z f I e d a g=>by subst z f I e d;exact by refine zg (Kg (z5 (Jt E) a (za (zu a) (za (zu a) zh)))) ?_;refine zg (jw a (PO.v (kX (kz E) a (za (zu a) (za (zu a) zh))))) ?_;exact(zo (zU (VH yM (PO.q (xE a (i0.c (Ki a ⋯ E.Z4 (zu a))) (λ_ _ _ b=>qS (uJ (zu b) (z6 b)) (z5 (Zm E) b (za (zu b) zh)) (zu b)))))))
theorem yB(E:E0 K mg):f7 P w K mg base 5 "turning_order" 1 jK:=
 xD (N:=["ways","order","now","left","k"]) E.Qi ⋯ λX z f I e d a g=>by subst z f I e d;exact by refine zg (yN a (yO (xF zh))) ?_;refine zg (jw a (zu a)) ?_;refine zg (yN a (cM a ⋯ E.Zb ⋯ E.Z2 (jj (Kb a ⋯ E.Z0 (zu a)) zm))) ?_;refine zg (gc 100 (Ji g) (ak (z6 a)) (by refine zg (jw a (zM (PO.q (Yz a (jf (z6 a)) (λ_ _ _ b=>kG (z5 (Jq E) b (za (zu b) (za (zu b) zh)))) (λ_ _ _ b=>zu b))) zm)) ?_;refine zg (yi 1 a ⋯ (zu a)) ?_;refine zg (cH 3 a ⋯ (zu a)) ?_;exact(zo (jw a (z5 (Km E) a (za (zu a) (za (zu a) zh))))))) ?_;exact(zo (kn 1 (a.var ⋯)))
theorem YK(E:E0 K mg):f7 P w K mg base 1 "_law_moved" 2 kf:=
 xD (N:=["_law_k","_law_some","_law_made","_law_i","_law_j"]) E.Qj ⋯ λX z e I d b a f=>by subst z e I d b;exact by refine zg (yN a (yO (xF zh))) ?_;refine zg (ku f a (wO (zu a)) (zo (xN (Je (kF (rW (zu a) (zu a)) (xn (qM a (zu a) (zu a))))) (zo (yi 2 a ⋯ (jg (xF (za (zu a) (za (qK (zu a) zm) zh)))))) (zo (xN (Je (kF (rW (zu a) (zu a)) (xn (qM a (zu a) (qK (zu a) zm))))) (zo (yi 2 a ⋯ (jg (xF (za (zu a) (za (zu a) zh)))))) (zo (xN (Je (kF (qM a (zu a) (zu a)) (xn (Xh (zu a) (zu a))))) (zo (yi 2 a ⋯ (jg (xF (za (jj (zu a) zm) (za (zu a) zh)))))) (zo (xN (Je (kF (qM a (zu a) (jj (zu a) zm)) (xn (Xh (zu a) (zu a))))) (zo (yi 2 a ⋯ (jg (xF (za (zu a) (za (zu a) zh)))))) (zo (xN (Jf a (jg (xF (za (zu a) (za (zu a) zh)))) (jg (xF (za (zu a) (za (zu a) zh))))) (zo (yi 2 a ⋯ (jg (xF (za (zu a) (za (zu a) zh)))))) qC))))))))))) ?_;exact(zo (ko (au a ⋯ E.Z3 (z6 a))))
theorem Xl(E:E0 K mg):f7 P w K mg base 1 "ways_of" 1 x9:=
 xD (N:=["row"]) E.Qk ⋯ λX z f I e d a g=>by subst z f I e d;exact zo (zU (VH yM (PO.q (xE a (jf (PV.q (zM (z6 a) zm))) (λ_ _ _ b=>zM (z6 b) zm)))))
theorem qf(E:E0 K mg):f7 P w K mg base 1 "turned_over" 1 ju:=
 xD (N:=["table","columns"]) E.Ql ⋯ λX z g I f e a h=>by subst z g I f e;exact by refine zg (qD 1 (Zu a (i0.c (qE a ⋯ E.Z2 (zM (z6 a) zm))) (λ_ _ _ b=>jY b ⋯ E.Z6 (PO.q (xE b (jf (PV.q (zM (z6 b) zm))) (λ_ _ _ d=>zM (z6 d) (zu d))))))) ?_;exact(zo (zU (jg (xF (za (zM (z6 a) zm) (za (zM (z6 a) zm) (za (jY a ⋯ E.Z6 (z6 a)) zh)))))))
theorem YJ(E:E0 K mg):f7 P w K mg base 2 "lines_met" 3 yu:=
 xD (N:=["row","k","ends","lines","at","table"]) E.Qm ⋯ λX z e I d b a f=>by subst z e I d b;exact by refine zg (yN a (yO (xF zh))) ?_;refine zg (ku f a (wO (PO.v (kX (kz E) a (za (z5 (Xl E) a (za (zu a) zh)) (za (zu a) zh))))) (by refine zg (jw a (zM (PV.q (zM (PV.q (zM (z6 a) zm)) (zu a))) zm)) ?_;exact(zo (nP 3 a ⋯ (PV.q (qS (kG (zu a)) (zM (PV.q (z5 (qf E) a (za (zu a) zh))) zm) (zM (z6 a) zm))))))) ?_;exact(zo (zU (jY a ⋯ E.Z6 (z6 a))))
theorem Ju(E:E0 K mg):f7 P w K mg base 1 "ask_together" 1 xv:=
 xD (N:=["widths"]) E.Qn ⋯ λX z e I d b a f=>by subst z e I d b;exact zo (xN (Xh (fQ a ⋯ E.Zc (z6 a)) (Ij a ⋯ E.G0)) (zo vS) qC)
theorem cW(E:E0 K mg):f7 P w K mg base 2 "columns" 2 wD:=
 xD (N:=["high","loads"]) E.Qo ⋯ λX z e I d b a f=>by subst z e I d b;exact zo (zU (z5 (qf E) a (za (jg (xF (za (xy a ⋯ E.Z0 (z6 a)) (za (zu a) (za (jY a ⋯ E.Z6 (z6 a)) zh))))) zh)))
theorem xl(E:E0 K mg):f7 P w K mg base 1 "behind_noughts" 2 jP:=
 xD (N:=["many","base"]) E.Qp ⋯ λX z f I e d b g=>by subst z f I e d;exact zo (ko (Yz b (jf (z6 b)) (λ_ _ _ a=>wN (kG (CY a ⋯ E.Zd (PV.q (vQ (zu a) yQ (kH (zu a))))))) (λ_ _ _ a=>vQ (zu a) (kH (zu a)) yQ)))
theorem ZF(E:E0 K mg):f7 P w K mg base 1 "rests" 2 xJ:=
 xD (N:=["p","numbers"]) E.Qq ⋯ λX z f I e d a g=>by subst z f I e d;exact zo (zU (jY a ⋯ E.Z6 (PO.q (xE a (jf (z6 a)) (λ_ _ _ b=>ql (zu b) (zu b))))))
theorem cV(E:E0 K mg):f7 P w K mg base 1 "inverse" 2 wC:=
 xD (N:=["p","x","y"]) E.Qr ⋯ λX z e I d b a f=>by subst z e I d b;exact by refine zg (ku f a (aw a ⋯ E.Z2 zm (zu a)) (zo (xN (qM a (ql (qL (zu a) (zu a)) (zu a)) zm) (zo (kn 2 (a.var ⋯))) qC))) ?_;exact(zo vS)
theorem wR(E:E0 K mg):f7 P w K mg base 2 "cleared" 4 j5:=
 xD (N:=["p","load","pivot","place","much"]) E.Qs ⋯ λX z f I e d a g=>by subst z f I e d;exact by refine zg (jw a (zM (z6 a) (zu a))) ?_;refine zg (xN (qM a (zu a) zm) (zo (kn 1 (a.var ⋯))) qC) ?_;exact(zo (zU (z5 (ZF E) a (za (zu a) (za (PO.v (xE a (i0.c (YC a ⋯ E.Z7 (zu a) (zu a))) (λ_ _ _ b=>qK (zu b) (qL (zu b) (zu b))))) zh)))))
theorem vc(E:E0 K mg):f7 P w K mg base 3 "base_of" 3 kg:=
 xD (N:=["p","long","loads","left","base","place","leading","times","pivot"]) E.Qt ⋯ λX z f I e d a g=>by subst z f I e d;exact by refine zg (qD 3 (Zu a (jf (z6 a)) (λ_ _ _ b=>z5 (ZF E) b (za (zu b) (za (zu b) zh))))) ?_;refine zg (yN a (yO (xF zh))) ?_;refine zg (ku g a (qE a ⋯ E.Z2 (zu a)) (by refine zg (qD 6 (Im a (jf (z6 a)) (λ_ _ _ b=>Jf b (zM (z6 b) (zu b)) zm) (λ_ _ _ b=>zu b))) ?_;refine zg (xN (wN (ak (z6 a))) (zo Yy) qC) ?_;refine zg (jw a (z5 (cV E) a (za (zu a) (za (zM (PV.q (zM (z6 a) zm)) (zu a)) zh)))) ?_;refine zg (jw a (z5 (ZF E) a (za (zu a) (za (PO.v (xE a (jf (PV.q (zM (z6 a) zm))) (λ_ _ _ b=>qL (zu b) (zu b)))) zh)))) ?_;refine zg (qD 3 (Zu a (jf (z6 a)) (λ_ _ _ b=>z5 (wR E) b (za (zu b) (za (zu b) (za (zu b) (za (zu b) zh))))))) ?_;exact(zo (yN a (gh (PO.q (xE a (jf (z6 a)) (λ_ _ _ b=>z5 (wR E) b (za (zu b) (za (zu b) (za (zu b) (za (zu b) zh))))))) (PO.q (yO (xF (za (zu a) zh))))))))) ?_;exact(zo (kn 4 (a.var ⋯)))
theorem yk(E:E0 K mg):f7 P w K mg base 1 "same_table" 1 j7:=
 xD (N:=["many","rows"]) E.Qu ⋯ λX z g I f e a h=>by subst z g I f e;exact by refine zg (qD 1 (Zu a (i0.c (qE a ⋯ E.Z2 (zu a))) (λ_ _ _ b=>jY b ⋯ E.Z6 (PO.q (xE b (i0.c (qE b ⋯ E.Z2 (zu b))) (λ_ _ _ d=>qS (qM d (zu d) (zu d)) zm zm)))))) ?_;exact(zo (zU (jg (xF (za (zu a) (za (zu a) (za (jY a ⋯ E.Z6 (z6 a)) zh)))))))
theorem VN(E:E0 K mg):f7 P w K mg base 4 "led_into" 3 qr:=
 xD (N:=["p","table","base","pairs","free"]) E.Qv ⋯ λX z f I e d a g=>by subst z f I e d;exact by refine zg (qD 3 (Zu a (i0.c (YC a ⋯ E.Z7 (zM (PV.q (z5 (qf E) a (za (zu a) zh))) zm) (zM (PV.q (z5 (yk E) a (za (zM (z6 a) zm) zh))) zm))) (λ_ _ _ b=>jj (zu b) (zu b)))) ?_;refine zg (qD 4 (Zu a (jf (z6 a)) (λ_ _ _ b=>jj (zu b) (qL (jg (xF (za zm zh))) (zM (z6 b) zm))))) ?_;exact(zo (ko (kX (xl E) a (za (zM (z6 a) zm) (za (PO.v (kX (vc E) a (za (zu a) (za (jj (zM (z6 a) zm) (zM (z6 a) zm)) (za (PO.v (gh (z6 a) (z6 a))) zh))))) zh)))))
theorem gE(E:E0 K mg):f7 P w K mg base 5 "kernel" 2 ZL:=
 xD (N:=["p","table"]) E.Qw ⋯ λX z e I d b a f=>by subst z e I d b;exact zo (ko (kX (VN E) a (za (zu a) (za (zu a) (za (PO.v (yO (xF zh))) zh)))))
theorem Jo(E:E0 K mg):f7 P w K mg base 6 "met_from_end" 2 qA:=
 xD (N:=["p","met"]) E.Qx ⋯ λX z e I d b a f=>by subst z e I d b;exact zo (zU (z5 (cW E) a (za (zM (z6 a) zm) (za (PO.v (kX (gE E) a (za (zu a) (za (z5 (qf E) a (za (zu a) zh)) zh)))) zh))))
theorem oC(E:E0 K mg):f7 P w K mg base 4 "image" 2 KU:=
 xD (N:=["p","table"]) E.Qy ⋯ λX z e I d b a f=>by subst z e I d b;exact zo (ko (kX (vc E) a (za (zu a) (za (zM (z6 a) zm) (za (zM (PV.q (z5 (qf E) a (za (zu a) zh))) zm) zh)))))
theorem Xm(E:E0 K mg):f7 P w K mg base 1 "lead_of" 1 xB:=
 xD (N:=["load"]) E.Qz ⋯ λX z f I e d b g=>by subst z f I e d;exact zo (zU (zM (PO.q (Yz b (i0.c (ay b ⋯ E.Z4 (zu b))) (λ_ _ _ a=>Jf a (zu a) zm) (λ_ _ _ a=>zu a))) zm))
theorem Jk(E:E0 K mg):f7 P w K mg base 3 "what_is_left" 3 qh:=
 xD (N:=["p","base","load","left","pivot","leads"]) E._w ⋯ λX z f I e d a g=>by subst z f I e d;exact by refine zg (jw a (zu a)) ?_;refine zg (ku g a (wO (zu a)) (zo (jw a (z5 (wR E) a (za (zu a) (za (zu a) (za (zu a) (za (z5 (Xm E) a (za (zu a) zh)) zh)))))))) ?_;refine zg (qD 5 (Zu a (jf (z6 a)) (λ_ _ _ b=>z5 (Xm E) b (za (zu b) zh)))) ?_;exact(zo (zU (jY a ⋯ E.Z6 (PO.q (Yz a (i0.c (ay a ⋯ E.Z4 (zu a))) (λ_ _ _ b=>cG (zu b) (z6 b)) (λ_ _ _ b=>zu b))))))
theorem yR(E:E0 K mg):f7 P w K mg base 5 "met_from_beginning" 2 jC:=
 xD (N:=["p","met","base","lines"]) E._x ⋯ λX z f I e d a g=>by subst z f I e d;exact by refine zg (jw a (PO.v (kX (oC E) a (za (zu a) (za (zu a) zh))))) ?_;refine zg (qD 3 (Zu a (jf (PV.q (zM (PV.q (z5 (yk E) a (za (zM (z6 a) zm) zh))) zm))) (λ_ _ _ b=>z5 (Jk E) b (za (zu b) (za (zu b) (za (zu b) zh)))))) ?_;exact(zo (zU (jg (xF (za (zM (z6 a) zm) (za (qK (zM (z6 a) zm) (xy a ⋯ E.Z0 (z6 a))) (za (jY a ⋯ E.Z6 (z6 a)) zh)))))))
theorem QF(E:E0 K mg):f7 P w K mg base 2 "arrow_about" 4 qW:=
 xD (N:=["way","wide","lines","ends","table"]) E._y ⋯ λX z e I d b a f=>by subst z e I d b;exact by refine zg (jw a (jg (xF (za (xy a ⋯ E.Z0 (z6 a)) (za (zu a) (za (zu a) zh)))))) ?_;exact(zo (zU (jg (xF (za (z5 (Zm E) a (za (zu a) zh)) (za (qS (kG (zu a)) (zu a) (z5 (qf E) a (za (zu a) zh))) zh))))))
theorem Jv(E:E0 K mg):f7 P w K mg base 3 "arrows_about" 4 xw:=
 xD (N:=["row","k","met","ends","split","parts","made","at","arrow"]) E._z ⋯ λX z e I d b a f=>by subst z e I d b;exact by refine zg (jw a (qS (Xh (zu a) zm) (zM (PV.q (zM (z6 a) zm)) (qK (zu a) zm)) zm)) ?_;refine zg (jw a (CU (qK (zu a) zm) (vQ (zM (z6 a) zm) yQ (kH (zu a))) (zu a) (vQ (zM (z6 a) zm) (kH (zu a)) yQ))) ?_;refine zg (yN a (yO (xF zh))) ?_;refine zg (ku f a (ay a ⋯ E.Z4 (zM (z6 a) zm)) (zo (yi 6 a ⋯ (qS (uK a (zu a) (zu a)) (z5 (QF E) a (za (zM (z6 a) zm) (za (zM (z6 a) zm) (za (CT a (zu a) (zu a)) (za (zu a) zh))))) (zu a))))) ?_;exact(zo (zU (jY a ⋯ E.Z6 (z6 a))))
theorem Jl(E:E0 K mg):f7 P w K mg base 7 "turned_about" 2 qi:=
 xD (N:=["row","k","ways","ends","lines","old","new","widths"]) E._A ⋯ λX z e I d b a f=>by subst z e I d b;exact by refine zg (jw a (z5 (Xl E) a (za (zu a) zh))) ?_;refine zg (Kg (z5 (Jt E) a (za (zu a) (za (zu a) zh)))) ?_;refine zg (jw a (z5 (Jq E) a (za (zu a) (za (zu a) zh)))) ?_;refine zg (jw a (z5 (YJ E) a (za (zu a) (za (zu a) (za (zu a) zh))))) ?_;refine zg (jw a (jg (xF (za (xy a ⋯ E.Z0 (z6 a)) (za (zM (PV.q (zM (z6 a) zm)) (zu a)) (za (zu a) zh)))))) ?_;refine zg (jw a (qS (kG (zu a)) (z5 (Jo E) a (za (zM (z6 a) zm) (za (zu a) zh))) (z5 (yR E) a (za (zM (z6 a) zm) (za (zu a) zh))))) ?_;refine zg (jw a (jj (jj (vQ (zM (z6 a) zm) yQ (kH (zu a))) (jg (xF (za (zM (z6 a) zm) zh)))) (vQ (zM (z6 a) zm) (kH (jj (zu a) zm)) yQ))) ?_;refine zg (Kg (z5 (Ju E) a (za (zu a) zh))) ?_;exact(zo (zU (jg (xF (za (zM (z6 a) zm) (za (zu a) (za (z5 (Jv E) a (za (zu a) (za (zu a) (za (zu a) (za (zu a) zh))))) zh)))))))
theorem Jm(E:E0 K mg):f7 P w K mg base 1 "stretches_of" 1 kN:=
 xD (N:=["many","found","i"]) E._B ⋯ λX z f I e d a g=>by subst z f I e d;exact by refine zg (yN a (yO (xF zh))) ?_;refine zg (ku g a (qE a ⋯ E.Z2 (zu a)) (zo (uP 1 a ⋯ (xE a (i0.c (aw a ⋯ E.Z2 (zu a) (zu a))) (λ_ _ _ b=>jg (xF (za (zu b) (za (zu b) zh)))))))) ?_;exact(zo (kn 1 (a.var ⋯)))
theorem EB(E:E0 K mg):f7 P w K mg base 2 "led" 3 mh:=
 xD (N:=["p","table","load"]) E._C ⋯ λX z g I f e b h=>by subst z g I f e;exact zo (zU (z5 (ZF E) b (za (zu b) (za (PO.v (xE b (jf (PV.q (zM (z6 b) zm))) (λ_ _ _ a=>fQ a ⋯ E.Zc (PO.q (xE a (i0.c (YC a ⋯ E.Z7 (zu a) (zu a))) (λ_ _ _ d=>qL (zu d) (zu d))))))) zh))))
theorem EA(E:E0 K mg):f7 P w K mg base 4 "led_on" 3 yv:=
 xD (N:=["p","table","base"]) E._D ⋯ λX z f I e d a g=>by subst z f I e d;exact zo (ko (kX (vc E) a (za (zu a) (za (zM (z6 a) zm) (za (PO.v (xE a (jf (z6 a)) (λ_ _ _ b=>z5 (EB E) b (za (zu b) (za (zu b) (za (zu b) zh)))))) zh)))))
theorem Zv(E:E0 K mg):f7 P w K mg base 1 "tables_joined" 3 qV:=
 xD (N:=["one","other","join","first","second"]) E._E ⋯ λX z f I e d a g=>by subst z f I e d;exact by refine zg (qD 3 (Zu a (i0.c (YC a ⋯ E.Z7 (zM (z6 a) zm) (zM (z6 a) zm))) (λ_ _ _ b=>jj (zu b) (zu b)))) ?_;refine zg (qD 4 (Zu a (jf (PV.q (zM (z6 a) zm))) (λ_ _ _ b=>jj (qL (jg (xF (za zm zh))) (zM (z6 b) zm)) (zu b)))) ?_;exact(zo (zU (jg (xF (za (jj (zM (z6 a) zm) (zM (z6 a) zm)) (za (jj (zM (z6 a) zm) (zM (z6 a) zm)) (za (jY a ⋯ E.Z6 (PV.q (PO.v (gh (z6 a) (z6 a))))) zh)))))))
theorem Jn(E:E0 K mg):f7 P w K mg base 1 "nought_table" 2 xt:=
 xD (N:=["high","wide"]) E._F ⋯ λX z e I d b a f=>by subst z e I d b;exact zo (zU (jg (xF (za (zu a) (za (zu a) (za (qL (jg (xF (za (qL (jg (xF (za zm zh))) (zu a)) zh))) (zu a)) zh))))))
theorem cU(E:E0 K mg):f7 P w K mg base 2 "no_join" 2 wB:=
 xD (N:=["one","other"]) E._G ⋯ λX z e I d b a f=>by subst z e I d b;exact zo (zU (z5 (Jn E) a (za (zM (z6 a) zm) (za (zM (z6 a) zm) zh))))
theorem vU(E:E0 K mg):f7 P w K mg base 3 "tables_beside" 2 qp:=
 xD (N:=["one","other"]) E._H ⋯ λX z e I d b a f=>by subst z e I d b;exact zo (zU (z5 (Zv E) a (za (zu a) (za (zu a) (za (z5 (cU E) a (za (zu a) (za (zu a) zh))) zh)))))
theorem Ak(E:E0 K mg)(A:E1 P w K mg base CR CL):f7 P w K mg base 6 "link" 3 bO:=
 xD (N:=["row","i","j","same","base","arrow"]) E._I ⋯ λX z f I e d a g=>by subst z f I e d;exact by refine zg (jw a (z5 (yk E) a (za (zM (PV.q (zM (z6 a) zm)) (zu a)) zh))) ?_;refine zg (ao 4 (Zu a (jf (PV.q (zM (z6 a) zm))) (λ_ _ _ b=>jj (zu b) (zu b)))) ?_;refine zg (ku g a (wO (vQ (zM (z6 a) zm) (kH (zu a)) (kH (zu a)))) (zo (uN 4 (yN a (nU A.OL A.R4 A.R3 ⋯ ⋯ ⋯ a ⋯ (zM (z6 a) zm) (zM (z6 a) zm) (z5 (vU E) a (za (zu a) (za (zM (z6 a) zm) zh))) (zu a)))))) ?_;exact(zo (kn 4 (a.var ⋯)))
theorem Al(E:E0 K mg)(A:E1 P w K mg base CR CL):f7 P w K mg base 7 "kept" 3 J2:=
 xD (N:=["row","i","j","base","first","second","swapped"]) E._J ⋯ λX z f I e d a g=>by subst z f I e d;exact by refine zg (jw a (PO.v (kX (Ak E A) a (za (zu a) (za (zu a) (za (zu a) zh)))))) ?_;refine zg (jw a (zM (PV.q (zM (z6 a) zm)) (zu a))) ?_;refine zg (jw a (zM (PV.q (zM (z6 a) zm)) (zu a))) ?_;refine zg (jw a (PO.v (kX (vc E) a (za (zM (z6 a) zm) (za (jj (zu a) (zu a)) (za (PO.v (xE a (jf (z6 a)) (λ_ _ _ b=>jj (vQ (zu b) (kH (zu b)) yQ) (vQ (zu b) yQ (kH (zu b)))))) zh)))))) ?_;exact(zo (zU (qK (qK (xy a ⋯ E.Z0 (z6 a)) (xy a ⋯ E.Z0 (PO.q (kX (xl E) a (za (zu a) (za (zu a) zh)))))) (xy a ⋯ E.Z0 (PO.q (kX (xl E) a (za (zu a) (za (zu a) zh))))))))
theorem YI(E:E0 K mg):f7 P w K mg base 1 "number_of" 3 ke:=
 xD (N:=["much","i","j","longer"]) E._K ⋯ λX z e I d b a f=>by subst z e I d b;exact by refine zg (jw a (jj (VI a (zu a) (jg (xF (za (qK (zu a) zm) (za (zu a) zh)))) zm) (VI a (zu a) (jg (xF (za (zu a) (za (jj (zu a) zm) zh)))) zm))) ?_;exact(zo (zU (jj (qK (fV a (zu a) (jg (xF (za (zu a) (za (zu a) zh))))) (zu a)) (VI a (zu a) (jg (xF (za (qK (zu a) zm) (za (jj (zu a) zm) zh)))) zm))))
theorem cT(E:E0 K mg)(A:E1 P w K mg base CR CL):f7 P w K mg base 8 "numbers" 1 k7:=
 xD (N:=["row","stretches","much"]) E._L ⋯ λX z f I e d b g=>by subst z f I e d;exact by refine zg (jw b (PO.v (kX (Jm E) b (za (xy b ⋯ E.Z0 (PV.q (zM (z6 b) zm))) zh)))) ?_;refine zg (jw b (aj b ⋯ E.Ze (xE b (jf (z6 b)) (λ_ _ _ a=>jg (xF (za (jg (xF (za (zu a) (za (zu a) zh)))) (za (z5 (Al E A) a (za (zu a) (za (zu a) (za (zu a) zh)))) zh))))))) ?_;exact(zo (zU (aj b ⋯ E.Ze (xE b (jf (z6 b)) (λ_ _ _ a=>jg (xF (za (jg (xF (za (zu a) (za (zu a) zh)))) (za (z5 (YI E) a (za (zu a) (za (zu a) (za (zu a) zh)))) zh))))))))
theorem oB(E:E0 K mg):f7 P w K mg base 3 "moved" 2 JZ:=
 xD (N:=["widths","k","near"]) E._M ⋯ λX z f I e d b g=>by subst z f I e d;exact by refine zg (jw b (fQ b ⋯ E.Zc (PO.q (Yz b (jf (PV.q (jg (xF (za (qK (zu b) zm) (za (jj (zu b) zm) zh)))))) (λ_ _ _ a=>kG (z5 (Xo E) a (za (xy a ⋯ E.Z0 (z6 a)) (za (zu a) zh)))) (λ_ _ _ a=>zM (z6 a) (zu a)))))) ?_;exact(zo (zU (jY b ⋯ E.Z6 (PO.q (xE b (i0.c (ay b ⋯ E.Z4 (zu b))) (λ_ _ _ a=>qS (qM a (zu a) (zu a)) (qK (zu a) (zu a)) (zu a)))))))
theorem Jj(E:E0 K mg):f7 P w K mg base 6 "widths_round" 2 xq:=
 xD (N:=["ways","widths","now","k"]) E._N ⋯ λX z e I d b a f=>by subst z e I d b;exact by refine zg (jw a (zu a)) ?_;refine zg (ku f a (wO (PO.v (kX (yB E) a (za (zu a) zh)))) (zo (jw a (z5 (oB E) a (za (zu a) (za (zu a) zh)))))) ?_;exact(zo (kn 2 (a.var ⋯)))
theorem Mj(D:L2.oi K "law" "law" (top 75) f fd)(E:E0 K mg)(A:E1 P w K mg base CR CL):je P w K mg base l7 9 f fd ["_law_script"] (r6 K 1 J0):=
 IT (N:=["_law_script","_law_cell_here","_law_p","_law_rooms","_law_ways_here","_law_some","_law_row_here","_law_first","_law_lost","_law_k","_law_found"]) D ⋯ λX z g I e d a h=>by subst z g I e d;exact by refine zg (jw a (z5 (yl E) a (za (zu a) (za zm zh)))) ?_;refine zg (jw a (zM (PO.q (yO (xF (za zm (za zm (za zm (za zm zh))))))) (ql (zu a) zm))) ?_;refine zg (jw a (jj zm (ql (Zk (zu a) zm) zm))) ?_;refine zg (jw a (z5 (Jp E) a (za (Zk (zu a) zm) (za (zu a) zh)))) ?_;refine zg (jw a (PO.v (kX (QE E) a (za (zu a) (za zm (za (jj zm (ql (z5 (yl E) a (za (zu a) (za zm zh))) zm)) (za (zu a) zh))))))) ?_;refine zg (jw a (z5 (YL E) a (za (zu a) (za zm (za (zu a) (za (zu a) (za (zu a) zh))))))) ?_;refine zg (jw a (zM (z6 a) zm)) ?_;refine zg (jw a uH) ?_;refine zg (ku h a (wO (PO.v (kX (yB E) a (za (zu a) zh)))) (by refine zg (jw a (CM (zu a) (ai (CS a (jg (xF (za (zu a) (za (zu a) zh)))) (z6 a))))) ?_;refine zg (jw a (PO.v (kX (YK E) a (za (zu a) (za (zu a) zh))))) ?_;refine zg (jw a (z5 (Jl E) a (za (zu a) (za (zu a) zh)))) ?_;refine zg (jw a (z5 (cT E A) a (za (zu a) zh))) ?_;exact(zo (xN (Je (CG (wN (kG (fX a ⋯ E.Za (PO.q (xE a (i0.c (nX (zu a))) (λ_ _ _ b=>fU b (fV b (zu b) (zu b)) (fW b (z6 b) (zu b)))))))) (uB (Jf a (uD a ⋯ E.Zc (zu a)) (xy a ⋯ E.Z0 (z6 a)))))) (zo (zU uH)) qC)))) ?_;refine zg (xN (Jf a (VH yM (PO.q (xE a (jf (PV.q (zM (z6 a) zm))) (λ_ _ _ b=>zM (z6 b) zm)))) (zu a)) (zo (zU uH)) qC) ?_;exact(zo (zU (CM (zu a) (ai (fU a (z5 (Jj E) a (za (zu a) (za (zu a) zh))) (zM (z6 a) zm))))))
theorem Iw(z:L2.oi K "__init__" "Arrow.__init__" (AM (top 46) 0) f fd)(c:A2 K C):je P w K mg base l7 1 f fd ["self","p","table"] (ZW C):=
 AU (k:=0) z ⋯ c λX I e O d b a=>by subst I e O d b;exact xO (rY (a.var ⋯) (a.var ⋯) rfl)<|vB<|rY (a.var ⋯) (a.var ⋯) rfl
theorem EC(z:L2.oi K "forth" "Right.forth" (AM (top 47) 0) f J)(c:A2 K C)(I:f7 P w K mg base 4 "led_on" 3 yv):je P w K mg base l7 5 f J ["self","base"] (X4 K C yv):=
 aY (k:=4) z ⋯ c λX O h Y d b a=>by subst O h Y d b;obtain⟨i,J,j,g,G,d,e,b⟩:=I.ex;rw[g]at G;exact vB (Jg (vE G (a.room.mono ⋯) (a.gl (x:="led_on") ⋯).1 d e b .nil QC (zQ (az (a.var ⋯) rfl) (zQ (az (a.var ⋯) rfl) (zQ (a.var ⋯) jF)))))
theorem ED(z:L2.oi K "forth" "Left.forth" (AM (top 48) 0) f J)(c:A2 K C)(I:f7 P w K mg base 4 "led_into" 3 qr):je P w K mg base l7 5 f J ["self","base"] (X4 K C qr):=
 aY (k:=4) z ⋯ c λX O h Y d b a=>by subst O h Y d b;obtain⟨i,J,j,g,G,d,e,b⟩:=I.ex;rw[g]at G;exact vB (Jg (vE G (a.room.mono ⋯) (a.gl (x:="led_into") ⋯).1 d e b .nil QC (zQ (az (a.var ⋯) rfl) (zQ (az (a.var ⋯) rfl) (zQ (a.var ⋯) jF)))))
theorem Nu(I:L2.oi K "arrow_by" "arrow_by" (top 49) f fd)(O:Mk K CR fI)(Y:Mk K CL fI)(J:je P w K mg base l7 1 fI G_ ["self","p","table"] (ZW CR))(GL:je P w K mg base l7 1 fI G_ ["self","p","table"] (ZW CL))(z:Binds K G_ ["self","p","table"] [])(mR:mg "Right" = cI (.ref CR))(L:mg "Left" = cI (.ref CL)):je P w K mg base l7 3 f fd ["p","way","table"] (HQ CR CL):=
 IS (k:=2) I ⋯ λX d h b g e a=>by subst d h b g e;exact vB (Jg (L2.oh (Kf Iu (a.var ⋯) se (by with_unfolding_all rfl)) (gw O J (a.room.mono ⋯) (a.gl (x:="Right") ⋯).1 mR z .nil QC (zQ (a.var ⋯) (zQ (a.var ⋯) jF))) (gw Y GL (a.room.mono ⋯) (a.gl (x:="Left") ⋯).1 L z .nil QC (zQ (a.var ⋯) (zQ (a.var ⋯) jF)))))
end
end DL
namespace PySem.W.Fast
def tw11294763996705319666:=0
def tw3759856835493272640:=0
def tw13131343591734802998:=0
def tw2956888196293690347:=0
def tw16678045948811894164:=0
def tw373555073296615963:=0
def tw16645933606879082923:=0
def tw15854505789874481849:=0
def tw3742451938116625301:=0
def tw15272163959633005407:=0
def tw12362359616725813765:=0
def tw15137918293232610689:=0
def tw16924186451048923223:=0
def tw4262363225131304232:=0
def tw5632533102682232460:=0
def tw17563510882633087630:=0
def tw3125513991238573393:=0
def tw911267878746139428:=0
def tw9645666540791382791:=0
def tw12730173183231926522:=0
def tw904857181705079042:=0
def tw322484808587041067:=0
def tw8747179711401835840:=0
def tw154328482127136448:=0
def tw5793501388667840375:=0
def tw5416540093297160339:=0
def tw3102312887848675251:=0
def tw15103960440618815422:=0
def tw17843324212697007582:=0
def tw11185198572463835069:=0
def tw15370552011050518446:=0
def tw5785411454377083468:=0
def tw15717479828141240015:=0
def tw17532670054574183092:=0
def tw4528495180279526362:=0
def tw11128500049015971101:=0
def tw13223117868235896695:=0
def tw2662954278203560759:=0
def tw1239392142166549632:=0
def tw15559429440397403085:=0
def tw12769333420350030786:=0
def tw3152756904211083250:=0
def tw7240770120299927323:=0
def tw18045175459720838401:=0
def tw13696559512496385864:=0
def tw11277160731431904284:=0
def tw9664730874978997258:=0
def tw16232833957619317691:=0
def tw16480894365567332819:=0
def tw15939088496719041468:=0
def tw12290385276277498483:=0
def tw13630354086605369702:=0
def tw9871251111114324648:=0
def tw13361483101195943154:=0
def tw426494221596256402:=0
def tw18119163331501110908:=0
def tw1547090903528022583:=0
def tw904085882721129413:=0
def tw10432892232502359977:=0
def tw12400533637190334088:=0
def tw16679831625285050696:=0
def tw3983789770673397195:=0
def tw1105714724957578964:=0
def tw1350470462301606526:=0
def tw13859180736161989072:=0
def tw10235430296427073923:=0
def tw17832145189026047253:=0
def tw17487803941713101114:=0
def tw6413159858917167303:=0
def tw18048333281188483659:=0
def tw15733201625986916661:=0
def tw12345041748787016228:=0
def tw483400048941881019:=0
def tw6553622011419311540:=0
def tw13981297291477899553:=0
def tw3746228709222060414:=0
def tw13664173191240213344:=0
def tw17860445796048468751:=0
def tw17311414700009101397:=0
def tw8022017069958492130:=0
def tw1450773833827300699:=0
def tw4409771513771901689:=0
def tw3855148827889844147:=0
def tw16586996487198194595:=0
def tw1698704508048828505:=0
def tw210519938688323561:=0
def tw334848215738320452:=0
def tw5105651240328069002:=0
def tw2222030726807036879:=0
def tw8858605790651636157:=0
def tw14265637719450759991:=0
def tw7045822361464971878:=0
def tw3414207733523995582:=0
def tw3691040355251504877:=0
def tw7215004751109016182:=0
def tw6603741111452179471:=0
def tw2431092856821573528:=0
def tw5326226074600363069:=0
def tw14040061502846123902:=0
def tw558076792500521888:=0
def tw17658479668335436637:=0
def tw671245693530504238:=0
def tw16091934694335284292:=0
def tw3334268597160081170:=0
def tw9053130897609269473:=0
def tw540265114985470565:=0
def tw751254941765839146:=0
def tw10991883685111363403:=0
def tw4840812645202146326:=0
def tw18336765245848376195:=0
def tw942312808571890903:=0
def tw18191782460762069590:=0
def tw8784275186773976693:=0
def tw7742811736094730078:=0
def tw1802923205673381518:=0
def tw13793329343590321691:=0
def tw2572466828061799618:=0
def tw5484558312375065355:=0
def tw2218648997135511416:=0
def tw5117585549370243162:=0
def tw987409550485201502:=0
def tw12884923071885892216:=0
def tw10417286338928080035:=0
def tw3072630153841044166:=0
def tw13489843044229672438:=0
def tw16457421704487565287:=0
def tw14908828731085197776:=0
def tw13639013614904089334:=0
def tw6938454689452279811:=0
def tw13232792828136096557:=0
def tw9471519792436302980:=0
def tw12614100313960000685:=0
def tw8935666451327795479:=0
def tw6372488639972845468:=0
def tw1051077529033693955:=0
def tw7671546031138831396:=0
def tw10348917790168083103:=0
def tw17077056470867672189:=0
def tw15462122314934215574:=0
def tw5287360052654266826:=0
def tw5233256367896484773:=0
def tw13721601623905252060:=0
def tw10219385864356792854:=0
def tw8234330956321917564:=0
def tw14601576487263498962:=0
def tw12676116732216643206:=0
def tw5246215585848012107:=0
def tw14945331351816911663:=0
def tw5672208539228229524:=0
def tw3254400295173125431:=0
def tw2941722879758312748:=0
def tw13454437139878747831:=0
def tw8295456040569146726:=0
def tw4725432857156820830:=0
def tw11807608436933527086:=0
def tw10035725197205259069:=0
def tw4284475623958300437:=0
def tw1081859960906777535:=0
def tw4198082348357912707:=0
def tw14072573773880039992:=0
def tw17692137236392286488:=0
def tw9751653978643216178:=0
def tw5816815525284137972:=0
def tw5157764523694181141:=0
def tw8235146794083680960:=0
def tw7426151091272822273:=0
def tw14353273504936229499:=0
def tw3201971163012845694:=0
def tw14537015430559369301:=0
def tw9988368556800073412:=0
def tw16734634051749978407:=0
def tw14333405317562107258:=0
def tw5403886532460388741:=0
def tw17406419316412315046:=0
def tw11939770137862978429:=0
def tw15697762903136177251:=0
def tw4651224497210306787:=0
def tw7301544989846298830:=0
def tw16026936622314347648:=0
def tw163508400439136682:=0
def tw3685315571301002853:=0
def tw17038272549013229894:=0
def tw1509335023022677602:=0
def tw16720026238528119757:=0
def tw145833504737653567:=0
def tw8661475667443118605:=0
def tw8207628843725081167:=0
def tw12221288910050404056:=0
def tw2478109436512729983:=0
def tw17411890355828994749:=0
def tw12119337068062416570:=0
def tw5872962361982926182:=0
def tw13924078636081931209:=0
def tw9553006458805261161:=0
def tw14793576874404400824:=0
def tw11733743878734603904:=0
def tw12979864036139240488:=0
def tw2439541816171759855:=0
def tw11409552123595470030:=0
def tw4753820312471433939:=0
def tw10486494204208440682:=0
def tw1456370328860215550:=0
def tw14812171362075764721:=0
def tw10284345028051573844:=0
def tw2147467700040980532:=0
def tw2678451372008429425:=0
def tw17105448707201472147:=0
def tw15487274417203153674:=0
def tw6088167578780272401:=0
def tw14956928592821546103:=0
def tw4432344859862629556:=0
def tw10937619460520254200:=0
def tw17938062822936495366:=0
def tw17761196856260333945:=0
def tw17150781341009602618:=0
def tw17035171312742979273:=0
def tw11749704093591333041:=0
def tw4756976561112611923:=0
def tw15895999884976680120:=0
def tw1729375406609456833:=0
def tw4816951220257446105:=0
def tw12004710187228515722:=0
def tw12571808639538481963:=0
def tw2659578281911996790:=0
def tw915261052063765193:=0
def tw88620096657001052:=0
def tw6555272192219619059:=0
def tw4221221070616377026:=0
def tw17106726492122854951:=0
def tw16787488584766921150:=0
def tw15622184258135483370:=0
def tw14637225336750487620:=0
def tw10982810589755840194:=0
def tw10437287446425336363:=0
def tw9963656770860348274:=0
def tw9837126643144568666:=0
def tw945363418208329441:=0
def tw9161895332879843659:=0
def tw9107454850621545571:=0
def tw866957518159511245:=0
def tw8228467393147019422:=0
def tw8083100127392185046:=0
def tw698230999832327287:=0
def tw6408069430205635524:=0
def tw6065994418395346694:=0
def tw5814535085273623250:=0
def tw5804728468742834848:=0
def tw5215167397334525843:=0
def tw4468698788248540241:=0
def tw4424575393719962106:=0
def tw3394888876972766158:=0
def tw2839655834834708762:=0
def tw2806783235780283459:=0
def tw2622142660811310270:=0
def tw2491468996257370:=0
def tw2453309796857553656:=0
def tw2046111368249521288:=0
def tw17852456666914679369:=0
def tw17789654104918929719:=0
def tw16612105682817829378:=0
def tw16558510511796231656:=0
def tw16415264830852454966:=0
def tw16047013032004484675:=0
def tw15319029912469318074:=0
def tw15192959344338912016:=0
def tw15121693691460656596:=0
def tw14950203636034976240:=0
def tw14705353020176402107:=0
def tw14188626269358064728:=0
def tw13824343175765356934:=0
def tw13143351647094038460:=0
def tw13075968609612755206:=0
def tw12673292005553731090:=0
def tw12154768388980134347:=0
def tw11845403688960985847:=0
def tw10808511154262905164:=0
def tw10242090713328996951:=0
def tw3093500353766214704:=0
def tw15627990852341456205:=0
def tw3627469035227171983:=0
def tw2348839340960439401:=0
def tw15321256495177822207:=0
def tw10033535401663243551:=0
def tw7532936807898707379:=0
def tw17978750030339799446:=0
def tw16860497658934256919:=0
def tw11738812690529432658:=0
def tw9472796227031822432:=0
def tw7809743903997805581:=0
def tw4394579630002444751:=0
def tw4352217863338617753:=0
def tw17106628631382196754:=0
def tw16039882169637588592:=0
def tw15018941544557564240:=0
def tw1462613282151164876:=0
def tw142653713699368121:=0
def tw13798563161308638315:=0
def tw11715336941120172177:=0
def tw11677684244743586345:=0
def tw1739921926466643436:=0
def tw9959959101202646960:=0
def tw17297268979907646201:=0
def tw10124855339561850047:=0
def tw9722766549144679110:=0
def tw14437228318721777125:=0
def tw14570084980820882486:=0
def tw3297635361740086299:=0
def tw13914219275349766027:=0
def tw5127217626278947088:=0
def tw7079948379292622781:=0
def tw6457343203793345824:=0
def tw1309462471158088825:=0
def tw8956193651122234926:=0
def tw6490508263935247497:=0
def tw7536733515430117867:=0
def tw5150889206308091318:=0
def tw4706857402831605570:=0
def tw3153363971581610667:=0
def tw2689484973011128316:=0
def tw12620259320152090395:=0
def tw11637712010443946707:=0
end PySem.W.Fast
open PySem PySem.W PyProof.Rows
set_option maxRecDepth 100000 in
set_option maxHeartbeats 0 in
theorem PySem.Challenge.cw_barsplit_k62_whole_turned_through_a_row_holds : PySem.Challenge.rw_barsplit_k62_whole_turned_through_a_row.Holds := by
 w_on;o_law;k_head;(case hw=>w_witness2)
 k_fill
 refine L2.Gw (l:=OT) (n:=63) (k:=9) (x:="_law_script") (CX:=L2.l7) (sp:=λK=>DL.r6 K 1 DL.J0) rfl ⋯ rfl ⟨rfl,by decide,by decide⟩ (λw h Y=>PySem.W.kIn_of Y) ?F ?S ?C
 case S=>exact λK H a ns I zbg hS=>DL.GU hS (DL.ID ns I)
 case C=>exact λ_ _ _ _ z=>z
 case F=>
  intro w mg fa h O G a5;have bg:DL.GL (L2.tx O) mg "MOST_TOGETHER" (.int 30):=by
   dsimp only[L2.tx];refine' DL.Ml O G ?a
   (case a=>k_is)
  have E:DL.E0 (L2.tx O) mg:=by
   constructor
   all_goals first
    | assumption
    | exact PySem.W.mg_none_of O G (by k_is)
    | (dsimp only[L2.tx];refine' DL.Mr O G ?a ?l ?c ?k ?b;(case a=>k_is);(case l=>k_is);(case c=>k_is);(case k=>k_is);(case b=>intro _ _ _ _ _ _ us I;first | (obtain⟨_,rfl⟩:=DL.Nw I;rfl) | (obtain⟨_,_,rfl⟩:=DL.Nv I;rfl) | (obtain⟨_,_,_,rfl⟩:=DL.NX I;rfl) | (obtain⟨_,_,_,_,rfl⟩:=DL.NV I;rfl) | (obtain⟨_,_,_,_,_,rfl⟩:=DL.NU I;rfl) | (obtain⟨_,_,_,_,_,_,_,rfl⟩:=DL.NT I;rfl)))
  have AR:DL.m_ (L2.tx O) mg (DL.AM (DL.top 46) 0) (DL.AM (DL.top 47) 0) (DL.AM (DL.top 48) 0):=by
   dsimp only[L2.tx];refine' DL.Mw O G ?nR ?nL ?iR ?iL ?mR ?mL ?uI ?uR ?uL ?vI ?vR ?vL ?w1 ?w2 ?w3 ?z1 ?z2 ?z3 ?bR ?bL ?gI ?gR ?gL
   (case nR=>k_is)
   (case nL=>k_is)
   (case iR=>k_is)
   (case iL=>k_is)
   (case mR=>k_is)
   (case mL=>k_is)
   (case uI=>k_is)
   (case uR=>k_is)
   (case uL=>k_is)
   (case vI=>k_is)
   (case vR=>k_is)
   (case vL=>k_is)
   (case w1=>k_is)
   (case w2=>k_is)
   (case w3=>k_is)
   (case z1=>k_is)
   (case z2=>k_is)
   (case z3=>k_is)
   (case bR=>kernel_rfl)
   (case bL=>kernel_rfl)
   (case gI=>intro _ _ _ _ _ _ us I;obtain⟨_,_,_,rfl⟩:=DL.NX I;rfl)
   (case gR=>intro _ _ _ _ _ _ us I;obtain⟨_,_,rfl⟩:=DL.Nv I;rfl)
   (case gL=>intro _ _ _ _ _ _ us I;obtain⟨_,_,rfl⟩:=DL.Nv I;rfl)
  have a7:DL.fy (L2.tx O) mg "arrow_by" (DL.top 49) ["p","way","table"]:=by
   dsimp only[L2.tx];refine' DL.Mr O G ?a ?l ?c ?k ?b
   (case a=>k_is);(case l=>k_is);(case c=>k_is);(case k=>k_is)
   (case b=>intro _ _ _ _ _ _ us I;obtain⟨_,_,_,rfl⟩:=DL.NX I;rfl)
  obtain⟨f,fd,Fu,hb,hm⟩:=E._O.ex;have e0:=a5.symm.trans hm;cases e0;refine⟨fd,λs u=> .of_eq (hb [u] rfl),λbase zbi nb=>?_⟩;obtain⟨CR,CL,fI,fR,fL,dI,dR,dL,q1,q2,q3,q4,q5,q6,q7,q8,q9,an,ap,ar,as,ax⟩:=AR.ex;obtain⟨b0,b9,a3,bb,bd⟩:=a7.ex;have OL:DL.NK (OT).prog w (L2.tx O) mg base 3 "arrow_by" CR CL:=⟨b0,b9,DL.Nu a3 q3 q4 (DL.Iw q9 q5) (DL.Iw q9 q6) ar q1 q2,bd,a3.kp,.all bb⟩;have R4:DL.MethAt (OT).prog w (L2.tx O) mg base 5 CR DL.yv:=⟨q5,fR,dR,q7,DL.EC an q5 (DL.EA E),as⟩;have R3:DL.MethAt (OT).prog w (L2.tx O) mg base 5 CL DL.qr:=⟨q6,fL,dL,q8,DL.ED ap q6 (DL.VN E),ax⟩;have A:DL.E1 (OT).prog w (L2.tx O) mg base CR CL:=⟨OL,R4,R3⟩;exact DL.Mj Fu E A
