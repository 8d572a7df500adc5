import PyProof.Rows.All
import Wide.All
import OpenK.AllK
import Wide.FinOn
import Lean
import PyProof.EqAt
import PyProof.EqKinds
import PyProof.TupleCall
import PySem.Str
import PyProof.ZipIter
import PyProof.IsiBase
import KE.KItemsList
import KE.KIsAll
import OpenK.KOwn
import KE.KSortAsk
import PyProof.StrBlockI
import PyProof.Rows.EqDataRows
import PyProof.Rows.InDataRows
import PyProof.SumWalkG
import PyProof.ConsumeWalk
import PyProof.WalksMore
import KE.KSortTup
import PyProof.ListMulRoad
import PyProof.EnumFor
import PyProof.Rows.EnumRows
import PyProof.StrBlockL
import PyProof.JoinWalk
import PyProof.NsDelKeeps
import KE.KTryDeep
import PyProof.InstStoreFacts
import PyProof.NsCount
import PyProof.ExcClass2
import PyProof.Rows.FStr
import PyProof.StationsW
import PyProof.Rows.Catch
import KE.KRevIter
import PyProof.CollectIter
import PyProof.TupleOfGen
import PyProof.Rows.Tup
import PyProof.Draws
import PyProof.EnumMake
import PyProof.StrWalks
import PyProof.SliceStr2
import PyProof.ListNew
import KE.KDictOf
import PyProof.ListRange
import PyProof.Rows.GenSrcRange
import PyProof.ListCopy
import PyProof.AttrMissHeap
import PyProof.DictWalks
import PyProof.FactsDict
import KE.KSortKey
import PyProof.TableCode
import PyProof.Rows.KernelRfl
import PySem.Challenge.RW_barsplit_k53_whole_bars_go_over
open PySem.W renaming Frag → Nr,findIn → OE,kia_one → OG,keepIn → Pd,fnOf → PB,emptyDict → PN,instObj → RA,kitOne → Se,codeIn → Sf,cellsFrom_some → Sy,plainGet → L7,isFn → SW,hasDictIn → Ta,nsIn → TC,makesIn → TF,lookIn → TZ,plainGet_of → Ub,mg_of → Ue,callWith_K → Ug,plainOver → Ur,methodObj → Us,kitx_list → Ut,kitx_dict → Uu
open PySem renaming wpAny_bind → Nt,wpAny_pure → Nz,wpAny_newObj_type → Ox,wpAny_callSpecial?_slot → OD,wpAny_call_entry → OI,wpAny_field → Pa,wpAny_setField_rec → D2,wpAny_truthy_bool → Py,wpAny_seqItems → Ra,wpAny_holding → Rm,wpAny_loadPart' → Rq,wpAny_mono → RK,wpAny_typeNameOfWhole_valiter → RR,wpAny_typeNameOfWhole_keyiter → RT,wpAny_Call_Name_kw → Sb,wpAny_passesOwn → Si,wpAny_dictEntries → Sn,wpAny_attempt → So,mem_of_lookup → Sq,Builtin → Sx,call_meets → SD,wpAny_getItem_str_slice → SJ,wpAny_dictEpoch → SK,wpAny_setField → SS,wpAny_typeOf → SU,wpAny_of_eq → Tj,sizeLine_eq → To,pushCells_keeps → Tp,wpAny_pyIter_tuple → Tw,tupleKind_room_in1 → Tx,wpAny_rule → TR,wpAny_isInstance → Ud,wpAny_notOrdered_dict → Ul,wpAny_isOneOf_valiter → Um,wpAny_execs_nil → Uo,post_val_or_str → Up,codeAny_mono → Uq,wpAny_updateSeq_pair → UA,wpAny_fieldsOf → UC,isSubtype_stop → UD,Within → UE,wpAny_onRaise → US,wpAny_pyIter_slot → UX,wpAny_pyIter_list → UY,concat_meets → D',noFill_tuple_add → _C,Addr → d8,Value → fm,Expr → f7,eval → f9,model → gv,Shared → gx,starEach → i6,Heap → je,Pos → kr,sizeLine → kv,World → l0,Scope → mu,Program → m4,Stmt → m5,Obj → o8,Around → p4,backTo → r9,Env → u5,FuncData → u6,IsPair → vt,Builtin → wy,compareOp → wW,foldedSetIterable → zl,rawInt → zt,Tok → z8,mainGlobals → A7,swapsWith → A8,Keyword → A9,atKey → Bm,cellsFrom → BR,pyNext → B4,cLine → B7,sysModules → C3,IsEnum → C6,binaryOp → Df,holding → Dk,IsZip → Dq,NameKind → Ds,assign → Du,relabel → Dy,assignEach → DE,attributeBase → DF,behindInMarks → DG,IsPart → DY,backToKw → D4,bootBuiltins → D5,getItem → Em,pushCells → F4,bindC → Gk,bindL → Gq,callerA → Gr,firstArgMember → Gu,isTrue → Gz,standAt → GD,tupleKind → G4,Meets → G8,PassesOwn → G9,bindArgs → Ir,newExc → Iz,pyIter → IE,setField → IH,valueAt → IK,spliced → LW,truthy → LY,BindsTo → L0,DictEntry → L3,letOwnedTupleGo → M3,newTuple → M7,preSum → Nn,strIterType → N0,swapsWithSole → N2,typeLookup → O1,IsEnumOut → O8,ZipApart → R3,getMethod → S8,lastMarks → T7,ownMembersOf → b_,seqItems? → d_,subscripted → g_,swappedStores → h_,typeIs_str → y_,builtinsNs → P_,intKind → X',newFunctionEnv → _g,seqIndex_neg → _k,seqIndex_of → _l,seq_tuple_add → _m,setItem → _n,typeIs_int → _y,wpAny_Name → _A,wpAny_handled → _B,builtinLookup_eq_fast → d?,callType_new → g?,getattributeRaised → o?,wpAny_assign_Name → zai,wpAny_getItem_heap → zaj,wpAny_isTrue_Compare1 → zak,wpAny_letOwnedTupleGo_enum → zal,wpAny_pyNext_enum_endD → zam,wpAny_pyNext_enum_itemD → zan,wpAny_sequenceKey → zao
open List renaming range → Nu,getElem?_eq_getElem → Nw,getD_eq_getElem?_getD → Ny,mem_range → NA,replicate → NB,getElem?_eq_some_iff → NC,getElem?_cons_zero → NF,getElem?_cons_succ → NG,getElem?_set_ne → NH,size_toArray → NK,mem_cons_self → NL,mem_cons_of_mem → NN,mem_cons → NP,map_congr_left → NQ,getElem?_map → NT,length_map → NV,map_cons → NY,not_mem_nil → Oc,length_cons → Od,mem_of_getElem? → Og,getElem?_append_left → Oi,length_append → Ol,getElem?_append_right → Dt,length_range → Oo,eq_nil_of_length_eq_zero → Ov,getElem?_set_self → Oz,all_eq_true → OA,mem_filter → OC,map_append → OM,getElem?_range → ON,map_map → OO,lookup_cons → OV,mem_append_right → Pb,set_cons_zero → Pg,set_cons_succ → Ph,range_eq_range' → Po,mem_singleton → Pp,map → Pq,take_of_length_le → Pu,getElem?_eq_none → Px,range_succ → PD,nodup_cons → PF,append_nil → PH,replicate_succ → PX,length_nil → PY,countP_eq_length_filter → L6,mem_map → Rf,length_set → Rj,filter_sublist → Rl,length_take → Rr,getElem_mem → Rt,length_singleton → Rv,length_filter_le → Rw,flatten_cons → RF,ext_getElem? → RG,range'_succ → RN,length → RU,find?_cons → RV,append_assoc → Sd,drop_eq_getElem_cons → Sm,nodup_range → Ss,lookup → Su,mem_append → Sz,getElem?_replicate → P6,range' → SG,filter_congr → SH,getElem?_of_mem → SR,countP_map → SY,zip_cons_cons → Tc,getElem_range → Td,filter_append → Te,range_add → Ti,any_cons → Tz,mem_flatMap → TJ,drop_length → TK,filterMap_cons → Uk,zip_map' → Uy,find?_eq_none → Uz,toArray → UH,map_nil → UI,length_drop → UN,countP_cons → UO
open PySem.Heap renaming get?_push_of_some → Nv,get?_push_size → NO,lt_size → NR,size_push → OB,push → OY,SameBut → PM,get?_update_self → RW,get?_push_ne → Ts,get?_update_other → TQ,size_update → UQ
open Option renaming bind_some → Nx,map_some → NZ,some → zcc,getD_some → Rn,map_eq_some_iff → RM,bind → Sl,map → SQ,isSome_iff_exists → Th,some → cI,none → cR
open Int renaming mul_emod → ND,add_emod → NS,emod_lt_of_pos → Oe,emod_nonneg → Ot,emod_emod → Ou,toNat_natCast → OF,mul_assoc → OP,mul_comm → Pe,mul_one → PJ,eq_ofNat_of_zero_le → PK,emod_eq_emod_iff_emod_sub_eq_zero → Rc,mul_left_comm → Rg,emod_eq_of_lt → Rh,mul_zero → Ry,sub_emod → RI,add_zero → RZ,mul_add → Sv,add_mul → SM,one_mul → TL,toNat_of_nonneg → Uw,sub_zero → UP
open Bool renaming and_eq_true → NI,false_ne_true → NM,false_eq_true → A3,or_eq_true → OZ,eq_iff_iff → Pn,not_eq_true' → SI,false_and → Ui,true → cL,false → d7
open Nat renaming le_refl → NJ,lt_or_ge → NU,lt_of_lt_of_le → NX,ne_of_lt → Oa,not_lt_zero → Ob,add_sub_cancel_left → Oh,le_trans → OH,lt_succ_of_lt → OK,lt_succ_self → OW,le_add_right → OX,zero_le → Pf,lt_irrefl → Bc,ne_of_gt → PZ,zero_add → RX,min_eq_left → RY,lt_trichotomy → Sg,le_of_lt → Uc,le_succ → Uv,le_succ_of_le → UG,mul_comm → UL,add_zero → UM
open PySem.Value renaming ref → Of,none → Oy,type → RB,str → TU,int → TV,bool → UB
open Option.some renaming inj → Oj
open PySem.NameKind renaming free → Om,cell → RE
open PySem.Challenge renaming rw_barsplit_k53_whole_bars_go_over → Oq
open PySem.Builtin.SmallTypes renaming nextOf → Ow,ownedTupleIsFree → OU,ownedTupleHandOut → PU,ownedTupleFields → _X
open PySem.Str renaming ofString → OJ,join → IX
open Ne renaming symm → OQ
open True renaming intro → OR
open PyProof.Rows renaming callWith_type1 → OT,slot_tuple_getitem → Pk,callWith_builtin1 → Sw,slot_tupleiter_next → Tn,tupleItemsOf_ → Ua,seqObj → vp,AllBare → FC,Call_ → G7,IsTup → IQ,IntsAre → L4,envOfC → Mc,Subscript_ → J_,boot_enumerate → O',subscriptTail → _s,args_tuple_getitem → _Y,args_tupleiter_next → _Z,entry_tupleiter_next → k?,listUpdate_at → A?,subscriptTail_builtinR → S?
open Array renaming length_toList → Pc,getElem?_eq_getElem → Sj,getElem?_toList → TX
open PySem.SeqAt renaming EqAt → Pj
open Sum renaming inl → Pw,inr → Gj
open PySem.Obj renaming mapSeq → PL,data_mapFields → Rx,isFreed_of_fields → SN,cls_mapFields → Tu,mapFields → TH
open PySem.Builtin.Tuple renaming tupleExact → IW,tupleIsExact → RO
open PySem.Builtin.Dict_items renaming ownsTuple → PR
open PySem.F renaming slot_dict_valueiterator_next → Rb,slot_dict_keyiterator_next → Ri,plainAttrs_list → RH,slot_enumerate_next → Sh,slot_list_getattribute → P7,slot_tuple_mul → SV,args_tuple_add_2 → Tb,entry_tuple_add → Tq,slot_tuple_add → Tt,slot_zip_next → Uh,args_tuple_mul_2 → UJ,args_dict_valueiterator_next_1 → UR,entry_tuple_mul → UT,entry_dict_valueiterator_next → UU,args_dict_keyiterator_next_1 → UW,entry_dict_keyiterator_next → UZ
open Eq renaming trans → Ro
open PySem.Builtin.List renaming listTooLong → Rp
open PySem.Calls renaming spliced_cons → Ru,spliced_nil → SF,callWith_builtin → TM
open PySem.Heap.SameBut renaming update → Rz
open False renaming elim → RD
open PySem.Builtin.Dict renaming showsAll → RJ
open PySem.PyData renaming eqv → RL,depth → Sr,canLay0 → SE,depthAll → TN,eqvAll → Uj,canLayAll0 → Ux
open PySem.Builtin.Slice renaming slicePlaces → RP,sliceAdjust → SO
open Function renaming comp_def → RQ
open Classical renaming byContradiction → Sa,axiomOfChoice → Tf
open ForInStep renaming yield → Tv
open PySem.SeqAt.EqAt renaming int_int → TY
open PySem.Txt renaming slice_le → UK
local macro_rules | `(⋯) => `(by first | decide +kernel | omega | simp)
set_option autoImplicit true
noncomputable section
set_option Elab.async false
set_option linter.all false
set_option maxRecDepth 100000
set_option maxHeartbeats 4000000
abbrev EQ:=PySem.Value->PySem.Shared->Prop
abbrev TW:=List (PySem.Addr×PySem.Obj)
abbrev DQ:=Nat->Nat->Nat->Int
abbrev DW:=Nat->Nat->Int
abbrev DV:=Nat->Bool
abbrev DK:=Nat->Nat
abbrev DX:=PySem.Str->Option PySem.Value
theorem DZ{c:Prop}{h:Decidable c}(z:c){α}{a b:α}:ite c a b=a:=if_pos z
theorem DJ{c:Prop}{h:Decidable c}(z:¬c){α}{a b:α}:ite c a b=b:=if_neg z
namespace L2
open PySem PySem.Spec PyProof.Rows
abbrev Key:=Sum Int Str
def de:Key->fm->Bool
 | .inl k,v=>Value.isInt k v
 | .inr x,v=>Value.isStrOf x v
def MM(w:l0):Key->Int
 | .inl k=>hashInt k
 | .inr x=>hashStr w x
theorem j7 : ∀{k:Key} {v:fm},de k v=cL->(∃i t,k=Pw i/\v=TV i t)\/(∃x t,k=Gj x/\v=TU x t)
 | .inl i,v,h=>by obtain⟨t,e⟩:=Value.isInt_shape (k:=i) (v:=v) h;exact .inl ⟨i,t,rfl,e⟩
 | .inr x,v,h=>by obtain⟨t,e⟩:=Value.isStrOf_shape (x:=x) (v:=v) h;exact .inr ⟨x,t,rfl,e⟩
theorem ig(i:Int)(t:z8):de (.inl i) (.int i t)=cL:=by simp[de,Value.isInt]
theorem ic(x:Str)(t:z8):de (.inr x) (.str x t)=cL:=by simp[de,Value.isStrOf]
theorem EK(a b:Int):decide ((Pw a:Key)=Pw b)=(a==b):=by
 by_cases e:a=b
 ·subst e;simp
 ·have h : ¬(Pw a:Key)=Pw b:=λq=>e (Pw.inj q)
  rw[decide_eq_false h];exact(beq_eq_false_iff_ne.mpr e).symm
theorem EH(a b:Str):decide ((Gj a:Key)=Gj b)=decide (a=b):=by
 by_cases e:a=b
 ·subst e;simp
 ·have h : ¬(Gj a:Key)=Gj b:=λq=>e (Gj.inj q)
  rw[decide_eq_false h,decide_eq_false e]
theorem EJ(a:Int)(b:Str):decide ((Pw a:Key)=Gj b)=d7:=decide_eq_false<|λq=>nomatch q
theorem EI(a:Str)(b:Int):decide ((Gj a:Key)=Pw b)=d7:=decide_eq_false<|λq=>nomatch q
def qE(prog:m4)(w:l0):PySem.KeyKind prog w Key where
 is:=de
 hash:=MM w
 inj:=λv a b ha hb=>by
  rcases j7 ha with⟨i,t,rfl,rfl⟩ | ⟨x,t,rfl,rfl⟩
  ·rcases j7 hb with⟨j,u,rfl,e⟩ | ⟨y,u,rfl,e⟩
   ·injection e with e1 _;rw[e1]
   ·exact nomatch e
  ·rcases j7 hb with⟨j,u,rfl,e⟩ | ⟨y,u,rfl,e⟩
   ·exact nomatch e
   ·injection e with e1 _;rw[e1]
 byValue:=λk v h=>by rcases j7 h with⟨i,t,rfl,rfl⟩ | ⟨x,t,rfl,rfl⟩<;>rfl
 pyHash:=λz h=>by
  rcases j7 z with⟨i,t,rfl,rfl⟩ | ⟨x,t,rfl,rfl⟩
  ·exact wpAny_pyHash_int h
  ·exact wpAny_pyHash_str h
 eqBool:=λI z h=>by
  rcases j7 I with⟨i,t,rfl,rfl⟩ | ⟨x,t,rfl,rfl⟩
  ·rcases j7 z with⟨j,u,rfl,rfl⟩ | ⟨y,u,rfl,rfl⟩
   ·rw[EK]at h;exact wpAny_eqBool_int h
   ·rw[EJ]at h;exact Pj.int_str i t y u _ _ _ _ h
  ·rcases j7 z with⟨j,u,rfl,rfl⟩ | ⟨y,u,rfl,rfl⟩
   ·rw[EI]at h;exact Pj.str_int x t j u _ _ _ _ h
   ·rw[EH]at h;exact wpAny_eqBool_str h
 «strs» :=λk x t v h=>by
  rcases j7 h with⟨i,u,rfl,e⟩ | ⟨y,u,rfl,e⟩
  ·exact nomatch e
  ·injection e with e1 _
   subst e1;cases v<;>rfl
theorem VQ(prog:m4)(w:l0)(i:Int)(t:z8):(qE prog w).is (.inl i) (.int i t)=cL:=ig i t
theorem VP(prog:m4)(w:l0)(x:Str)(t:z8):(qE prog w).is (.inr x) (.str x t)=cL:=ic x t
inductive V where
 | i5 | bl (b:Bool) | int (i:Int) | str (x:Str) | Dg (b:Array UInt8) | Gv (b:UInt64) | ref (a:d8) | ty (n:String)
 deriving DecidableEq
def RelV:V->fm->Prop
 | .i5,u=>u=Oy
 | .bl b,u=>u=UB b
 | .int i,u=>∃t,u=TV i t
 | .str x,u=>∃t,u=TU x t
 | .Dg b,u=>∃t,u=Value.bytes b t
 | .Gv b,u=>∃t,u=Value.float b t
 | .ref a,u=>u=Of a
 | .ty n,u=>u=RB n
abbrev i8:List V->List fm->Prop:=Paired RelV
theorem i8.length(r:i8 xs us):xs.length=us.length:=Paired.length r
theorem i8.get : ∀{xs:List V} {us:List fm} {i:Nat} {x:V},i8 xs us->xs[i]? = cI x->∃u,us[i]? = cI u/\RelV x u
 | _,_,_,_,.nil,e=>by simp at e
 | _,_,0,_,.cons r _,e=>by simp at e;subst e;exact⟨_,rfl,r⟩
 | _,_,i+1,x,.cons _ t,e=>by obtain⟨u,h1,h2⟩:=i8.get (i:=i) (x:=x) t (by simpa using e);exact⟨u,by simpa using h1,h2⟩
theorem i8.set(r:RelV x u) : ∀{xs:List V} {us:List fm} (i:Nat),i8 xs us->i8 (xs.set i x) (us.set i u)
 | _,_,_,.nil=> .nil
 | _,_,0,.cons _ t=> .cons r t
 | _,_,i+1,.cons q t=> .cons q (i8.set r i t)
theorem i8.append : ∀{xs ys:List V} {us z:List fm},i8 xs us->i8 ys z->i8 (xs++ys) (us++z)
 | _,_,_,_,.nil,s=>s
 | _,_,_,_,.cons r t,s=> .cons r (i8.append t s)
theorem i8.take : ∀{xs:List V} {us:List fm} (n:Nat),i8 xs us->i8 (xs.take n) (us.take n)
 | _,_,0,_=> .nil
 | _,_,_+1,.nil=> .nil
 | _,_,n+1,.cons r t=> .cons r (i8.take n t)
theorem i8.drop : ∀{xs:List V} {us:List fm} (n:Nat),i8 xs us->i8 (xs.drop n) (us.drop n)
 | _,_,0,r=>r
 | _,_,_+1,.nil=> .nil
 | _,_,n+1,.cons _ t=>i8.drop n t
def A4:Option V->Option fm->Prop
 | some v,cI u=>RelV v u
 | none,cR=>True
 | _,_=>False
def KV{κ:Type}:List (κ×V)->List (κ×fm)->Prop:=Paired λ(p:κ×V) (q:κ×fm)=>p.1=q.1/\RelV p.2 q.2
def kV:Key->V
 | .inl i=> .int i
 | .inr x=> .str x
inductive HO where
 | lst (xs:List V)
 | tup (xs:List V)
 | dK (hJ:List (Key×V)) | dT (hJ:List (List Key×V))
 | set (S:Int->Bool) (n:Nat)
 | ins (C dx:d8) (fs:List (Str×V))
 | own (x:d8)
 | xd (fs:List (Str×V))
 | met (f x:d8)
 | o7 (lo hi:Int)
 | B3 (o:o8) (u:HO)
 | G3 (ps:Array fm)
 | ext (φ:je->Prop)
abbrev Hp:=d8->Option HO
def upd(H:Hp)(a:d8)(o:HO):Hp:=λb=>if b=a then cI o else H b
theorem zC:upd H a o a=cI o:=by unfold upd;rw[DZ rfl]
theorem zH(h:b≠a):upd H a o b=H b:=by unfold upd;rw[DJ h]
theorem ZK{H:Hp}{a:d8}{o u:HO}:upd (upd H a o) a u=upd H a u:=by funext b;unfold upd;split<;>rfl
theorem j1{H:Hp}{a b:d8}{o:HO}(h:H a=cI o)(h':H b=cR):a≠b:=by intro e;subst e;rw[h]at h';cases h'
def DC(h:je)(a:d8)(items:Array fm):Prop:=∃o,h.get? a=cI o/\(o.cls,o.dict)=(RB "tuple",cR)/\∃n,o.data = .seq items n
theorem DC.new(h:je)(items:Array fm):DC (h.push {cls:= .type "tuple",data:= .seq items}) h.objs.size items:=⟨_,NO _ rfl,rfl,_,rfl⟩
theorem DC.tup(x:DC h a items):IQ h a items:=let ⟨o,e,c,r⟩:=x;⟨o,e,(Prod.mk.inj c).1,r⟩
section
variable(P:m4)(w:l0)
def oi(H:Hp)(h:je)(a:d8):HO->Prop
 | .lst xs=>xs.length<=kv/\∃(z:List fm) (n:Nat),i8 xs z/\h.get? a=cI {cls:= .type "list",data:= .seq z.toArray n}
 | .tup xs=>xs.length<=kv/\∃z:List fm,i8 xs z/\DC h a z.toArray
 | .dK hJ=>hJ.length<=kv/\(a==C3)=d7/\∃vs,KV hJ vs/\h.DictOf (qE P w) a vs
 | .dT hJ=>hJ.length<=kv/\(a==C3)=d7/\∃xs:List (List Key×d8×fm),
  Paired (λ(p:List Key×V) (q:List Key×d8×fm)=>p.1=q.1/\H q.2.1=cI (.tup<|p.1.map kV)/\RelV p.2 q.2.2) hJ xs/\
  ∃o es ep,h.get? a=cI o/\o.ExactDict/\o.data = .dict es ep/\es.toList=xs.map (entryOfKey<|tupleKind<|qE P w)/\(xs.map (·.1)).Nodup
 | .set S n=>h.SetOf (X' P w) a S n
 | .ins C dx fs=>H dx=cI (.own a)/\fs.length<=1000/\dx≠a/\h.get? a=cI (RA C dx)/\
  ∃mA,h.Ns1 dx mA/\(∀f,A4 (fs.lookup f)<|mA f)/\UE mA (fs.map (·.1))
 | .own _=>∃o,h.get? a=cI o
 | .xd fs=>∃mA,h.Ns1 a mA/\∀f,A4 (fs.lookup f)<|mA f
 | .o7 lo hi=>∃t u v,h.get? a=cI {cls:= .type "range",data:= .fields #[.int lo t,.int hi u,.int 1 v]}
 | .B3 o u=>h.get? a=cI o/\oi H h a u
 | .G3 ps=>h.get? a=cI {cls:= .none,data:= .fields ps}
 | .met f x=>h.get? a=cI (Us (.ref f)<|.ref x)
 | .ext φ=>φ h/\(∃o,h.get? a=cI o)/\∀h1 h2:je,φ h1->(∀o,h1.get? a=cI o->h2.get? a=cI o)->φ h2
def p6(H:Hp)(h:je):Prop:=∀a o,H a=cI o->oi P w H h a o
end
section
variable{P:m4}{w:l0}{H H':Hp}{h h':je}{a:d8}{o:HO}
theorem oi.lt(x:oi P w H h a o):a<h.objs.size:=by
 cases o with
 | lst xs=>obtain⟨_,_,_,_,e⟩:=x;exact NR e
 | tup xs=>obtain⟨_,_,_,p⟩:=x;exact p.tup.lt
 | dK hJ=>obtain⟨_,_,_,_,o,_,_,e,_⟩:=x;exact NR e
 | dT hJ=>obtain⟨_,_,_,_,o,_,_,e,_⟩:=x;exact NR e
 | set S n=>obtain⟨o,_,_,_,e,_⟩:=x;exact NR e
 | ins C dx fs=>obtain⟨_,_,_,e,_⟩:=x;exact NR e
 | own y=>obtain⟨_,e⟩:=x;exact NR e
 | xd fs=>obtain⟨_,⟨_,_,_,e,_⟩,_⟩:=x;exact NR e
 | o7 lo hi=>obtain⟨_,_,_,e⟩:=x;exact NR e
 | B3 z u=>obtain⟨e,_⟩:=x;exact NR e
 | G3 ps=>exact NR (show h.get? a=cI _ from x)
 | met f y=>exact NR (show h.get? a=cI _ from x)
 | ext φ=>obtain⟨_,⟨_,e⟩,_⟩:=x;exact NR e
theorem Paired._d : ∀{z:List α} {I:List β},Paired F z I->(∀a b,F a b->G a b)->Paired G z I
 | _,_,.nil,_=> .nil
 | _,_,.cons r t,f=> .cons (f _ _ r) (Paired._d t f)
theorem oi.GF(x:oi P w H h a o)(k : ∀b u,(b=a\/H b=cI (.own a))->h.get? b=cI u->h'.get? b=cI u)
 (Y : ∀b,H b=cI (.own a)->H' b=cI (.own a)) (ht : ∀b xs,H b=cI (.tup xs)->H' b=cI (.tup xs)):oi P w H' h' a o:=by
 induction o with
 | lst xs=>obtain⟨z,O,n,r,e⟩:=x;exact⟨z,O,n,r,k _ _ (.inl rfl) e⟩
 | tup xs=>obtain⟨z,O,r,I,e,c⟩:=x;exact⟨z,O,r,I,k _ _ (.inl rfl) e,c⟩
 | dK hJ=>obtain⟨z,y,vs,r,I,es,ep,e,c⟩:=x;exact⟨z,y,vs,r,I,es,ep,k _ _ (.inl rfl) e,c⟩
 | dT hJ=>
  obtain⟨z,y,xs,r,I,es,ep,e,c⟩:=x;exact⟨z,y,xs,Paired._d r λp q z=>⟨z.1,ht _ _ z.2.1,z.2.2⟩,I,es,ep,k _ _ (.inl rfl) e,c⟩
 | set S n=>obtain⟨I,es,ep,t,e,c⟩:=x;exact⟨I,es,ep,t,k _ _ (.inl rfl) e,c⟩
 | ins C dx fs=>
  obtain⟨d,z,ne,e,mA,⟨od,es,ep,e2,c⟩,r⟩:=x;exact⟨Y _ d,z,ne,k _ _ (.inl rfl) e,mA,⟨od,es,ep,k _ _ (.inr d) e2,c⟩,r⟩
 | own y=>obtain⟨I,e⟩:=x;exact⟨I,k _ _ (.inl rfl) e⟩
 | xd fs=>obtain⟨mA,⟨od,es,ep,e,c⟩,r⟩:=x;exact⟨mA,⟨od,es,ep,k _ _ (.inl rfl) e,c⟩,r⟩
 | o7 lo hi=>obtain⟨t,u,v,e⟩:=x;exact⟨t,u,v,k _ _ (.inl rfl) e⟩
 | B3 I u ih=>obtain⟨e,q⟩:=x;exact⟨k _ _ (.inl rfl) e,ih q⟩
 | G3 ps=>
  have e:h.get? a=cI {cls:= .none,data:= .fields ps}:=x;show h'.get? a=cI {cls:= .none,data:= .fields ps};exact k a _ (.inl rfl) e
 | met f y=>
  have e:h.get? a=cI (Us (.ref f)<|.ref y):=x;show h'.get? a=cI (Us (.ref f)<|.ref y);exact k a _ (.inl rfl) e
 | ext φ=>obtain⟨p,⟨o,e⟩,st⟩:=x;exact⟨st _ _ p λo q=>k _ _ (.inl rfl) q,⟨o,k _ _ (.inl rfl) e⟩,st⟩
theorem p6.lt(x:p6 P w H h)(e:H a=cI o):a<h.objs.size:=(x a o e).lt
theorem p6.fresh(x:p6 P w H h)(e:h.objs.size<=a):H a=cR:=by
 cases q:H a with
 | none=>rfl
 | some u=>exact absurd (NX (x.lt q) e)<|Bc _
theorem p6.kept(x:p6 P w H h)(k : ∀b u,h.get? b=cI u->h'.get? b=cI u):p6 P w H h':=λa o e=>
 (x a o e).GF (λb u _ q=>k b u q) (λ_ q=>q) λ_ _ q=>q
theorem p6.laid(x:p6 P w H h)(k : ∀b u,h.get? b=cI u->h'.get? b=cI u)(z:h.objs.size<=a)(new:oi P w (upd H a o) h' a o):p6 P w (upd H a o) h':=λb u e=>by
 have hn:=x.fresh z;by_cases hb:b=a
 ·subst hb;rw[zC]at e;cases e;exact new
 ·rw[zH hb]at e
  exact(x b u e).GF (λc v _ q=>k c v q) (λc q=>by rw[zH (j1 q hn)];exact q) λc xs q=>by rw[zH (j1 q hn)];exact q
end
def Rd(H:Hp)(a:d8)(u:HO):Prop:=H a=cI u\/∃o,H a=cI (.B3 o u)
theorem Rd.ok(r:Rd H a u)(x:p6 P w H h):oi P w H h a u:=by
 rcases r with r | ⟨o,r⟩
 ·exact x a u r
 ·obtain⟨_,q⟩:=x a _ r
  exact q
def IU:Option HO->Prop
 | some (.lst _)=>True
 | some (.dK _)=>True
 | some (.dT _)=>True
 | some (.set _ _)=>True
 | some (.ins _ _ _)=>True
 | some (.ext _)=>True
 | _=>False
section
variable{P:m4}{w:l0}{H:Hp}{h h':je}{x e:d8}{o':HO}
theorem p6.write(ok:p6 P w H h)(I:IU (H x))(he:e=x\/H e=cI (.own x))(k : ∀b u,b≠e->h.get? b=cI u->h'.get? b=cI u)(a3 : ∃u,h'.get? e=cI u)
 (new:oi P w (upd H x o') h' x o'):p6 P w (upd H x o') h':=λb u q=>by
 have a1 : ∀c y,H c=cI (.own y)->c≠x:=λc y r z=>by subst z;rw[r]at I;exact I
 have a4 : ∀c xs,H c=cI (.tup xs)->c≠x:=λc xs r z=>by subst z;rw[r]at I;exact I
 by_cases hb:b=x
 ·subst hb;rw[zC]at q;cases q;exact new
 ·rw[zH hb]at q
  by_cases O:b=e
  ·have q':H b=cI (.own x):=by
    rcases he with z | z
    ·exact absurd (O.trans z) hb
    ·rw[O];exact z
   rw[q]at q';cases q';obtain⟨v,hv⟩:=a3;exact⟨v,by rw[O];exact hv⟩
  ·refine(ok b u q).GF (λc v Y r=>k c v ?_ r) (λc r=>by rw[zH (a1 c b r)];exact r) λc xs r=>by rw[zH (a4 c xs r)];exact r
   rcases Y with rfl | Y
   ·exact O
   ·rintro rfl
    rcases he with z | z
    ·exact a1 c b Y z
    ·rw[Y]at z;cases z;exact hb rfl
end
structure Un(fs ex:List d8)(H H':Hp)(h h':je):Prop where
 keep : ∀b o,h.get? b=cI o->H b=cR->b∉fs->b∉ex->h'.get? b=cI o
 slot : ∀b o,h.get? b=cI o->H b=cR->b∈fs->b∉ex->∃sl,h'.get? b=cI {o with slots:=sl}
 free : ∀b o,h.get? b=cI o->H b=cR->b∉ex->H' b=cR
 there : ∀b o,h.get? b=cI o->b∉ex->∃o',h'.get? b=cI o'
 F7 : ∀b xs,H b=cI (.tup xs)->H' b=cI (.tup xs)
 El : ∀b o u,H b=cI (.B3 o u)->H' b=cI (.B3 o u)
 F5 : ∀b ps,H b=cI (.G3 ps)->∃more,H' b=cI (.G3<|ps++more)
section
variable{fs La ex ex':List d8}{H H1 H2:Hp}{h h1 h2 h':je}{a x e:d8}{o:HO}
theorem Un.any(u:Un fs ex H H1 h h1)(q:h.get? b=cI ob)(n:H b=cR)(hx:b∉ex) : ∃sl,h1.get? b=cI {ob with slots:=sl}:=by
 by_cases hb:b∈fs
 ·exact u.slot b ob q n hb hx
 ·exact⟨ob.slots,u.keep b ob q n hb hx⟩
theorem Un.kept(k : ∀b u,h.get? b=cI u->h'.get? b=cI u):Un fs ex H H h h':=
 ⟨λb z q _ _ _=>k b z q,λb z q _ _ _=>⟨z.slots,k b z q⟩,λ_ _ _ n _=>n,λb z q _=>⟨z,k b z q⟩,λ_ _ q=>q,λ_ _ _ q=>q,λ_ ps q=>⟨#[],by rw[q];simp⟩⟩
theorem Un.refl:Un fs ex H H h h:=Un.kept λ_ _ q=>q
theorem Un.laid(k : ∀b u,h.get? b=cI u->h'.get? b=cI u)(z:h.objs.size<=a)(hn:H a=cR):Un fs ex H (upd H a o) h h' where
 keep:=λb u q _ _ _=>k b u q
 slot:=λb u q _ _ _=>⟨u.slots,k b u q⟩
 free:=λb u q n _=>by rw[zH (Oa<|NX (NR q) z)];exact n
 there:=λb u q _=>⟨u,k b u q⟩
 F7:=λb xs q=>by rw[zH (j1 q hn)];exact q
 El:=λb u xs q=>by rw[zH (j1 q hn)];exact q
 F5:=λb ps q=>⟨#[],by rw[zH (j1 q hn),q];simp⟩
theorem Un.write(I:IU (H x))(Y:e=x\/H e=cI (.own x))(k : ∀b u,b≠e->h.get? b=cI u->h'.get? b=cI u)(a0 : ∃u,h'.get? e=cI u):Un fs ex H (upd H x o) h h':=by
 have hx : ∀b,H b=cR->b≠x:=λb n z=>by subst z;rw[n]at I;exact I
 have hb : ∀b,H b=cR->b≠e:=λb n z=>by
  subst z;rcases Y with r | r
  ·exact hx b n r
  ·rw[n]at r;cases r
 have hm : ∀b u,H b=cI u->¬IU (cI u)->b≠x:=λb u q nm z=>by subst z;rw[q]at I;exact nm I
 refine⟨λb u q n _ _=>k b u (hb b n) q,λb u q n _ _=>⟨u.slots,k b u (hb b n) q⟩,λb u q n _=>by rw[zH (hx b n)];exact n,λb u q _=>?_,
  λb xs q=>by rw[zH (hm b _ q λz=>z)];exact q,λb u xs q=>by rw[zH (hm b _ q λz=>z)];exact q,λb ps q=>⟨#[],by rw[zH (hm b _ q λz=>z),q];simp⟩⟩
 by_cases O:b=e
 ·subst O;exact a0
 ·exact⟨u,k b u O q⟩
end
def OS(h:je)(H:Hp):List d8:=(Nu h.objs.size).filter λa=>(H a).isSome
def ph(h:je)(H:Hp):je:=PySem.W.hideAll h<|OS h H
theorem iC(h:je)(H:Hp):(ph h H).objs.size=h.objs.size:=PySem.W.hideAll_size _ _
theorem pf(e:h.get? b=cI o)(n:H b=cR):(ph h H).get? b=cI o:=
 PySem.W.hideAll_get _ e λhm=>by have q:(H b).isSome=cL:=(OC.mp hm).2;rw[n]at q;simp at q
theorem uY(e:(ph h H).get? b=cI o):h.get? b=cI o/\H b=cR:=by
 have I:h.get? b=cI o:=PySem.W.of_hideAll (OS h H) e;refine⟨I,?_⟩;cases q:H b with
 | none=>rfl
 | some x=>
  have hm:b∈OS h H:=OC.mpr ⟨NA.mpr<|NR I,by simp[q]⟩;have z:(ph h H).get? b=cR:=PySem.W.hideAll_none (OS h H) hm;rw[z]at e;cases e
def Bi(g h:je)(L:d8):List (d8×o8):=(Nu h.objs.size).filterMap λa=>if a=L\/(g.get? a).isSome=cL then cR else (h.get? a).map λo=>(a,o)
def xD(g h:je)(L d:d8):List (d8×o8):=(Bi g h L).filter λp=>decide<|p.1≠d
structure Mod(K:Nr)(mg:DX)(base:je):Prop where
 LM:K.In base
 glob:base.Ns A7 mg
 blt : ∃mb,base.Ns P_ mb/\∀x:Str,x ≠ "__name__"->mb x=D5 x
 nolimit:base.NoLimit
structure Cx where
 prog:m4
 w:l0
 K:Nr
 mg:Str->Option fm
 base:je
 A:p4
 N:List Str
 t9:gx
 IP:Hp
 env:u5
 outer:List u5
 stack:List u5
 ex:List d8
 fn:Str->Bool
 calm:Bool
 pn:List (d8×o8)
 xe:fm->gx->Prop
def Dx(l:List u5):List d8:=l.filterMap (·.frame)
abbrev Cx.fs(X:Cx):List d8:=Dx X.outer
def R0(sc:mu)(x:Str):Prop:=sc.names.lookup x=cI .local\/sc.names.lookup x=cI .cell\/sc.names.lookup x=cI .free
def Loc(sc:mu)(x:Str):Prop:=sc.names.lookup x=cI .local\/sc.names.lookup x=cI .cell
def Nc(env:u5)(h:je)(m:DX)(x:Str)(u:fm):Prop:=
 (env.kindOf x=cI .local/\m x=cI u)\/((env.kindOf x=cI .cell\/env.kindOf x=cI .free)/\∃c,env.cells.lookup x=cI c/\h.IsCell c (cI u))
structure Cx.Ok(X:Cx):Prop where
 mod:Mod X.K X.mg X.base
 kind:X.env.scope.kind = .function
 glob:X.env.globals=A7
 blt:X.env.builtins=P_
 above:X.t9.heap.objs.size<=X.env.locals
 inj : ∀x y c,X.env.cells.lookup x=cI c->X.env.cells.lookup y=cI c->x=y
 has : ∀x,(X.env.kindOf x=cI .cell\/X.env.kindOf x=cI .free)->∃c,X.env.cells.lookup x=cI c
 IY : ∀x c,X.fn x=cL->X.env.cells.lookup x=cI c->X.t9.heap.objs.size<=c
 hd:X.calm=cL->X.A.handled=cR
 frames:X.A.frames=cI X.stack
 Nq:X.stack=X.outer\/(X.stack=X.env::X.outer/\X.env.frame=cI X.env.locals)
 Me : ∀b∈X.ex,b≠X.env.locals/\∀x c,X.env.cells.lookup x=cI c->c≠b
 bs : ∀b o,X.base.get? b=cI o->X.t9.heap.get? b=cI o/\X.IP b=cR
 D6:X.base.objs.size<=X.t9.heap.objs.size
 LS : ∀b o,X.base.get? b=cI o->b∉X.ex
 IZ : ∀b∈X.ex,b∉X.fs
 Dj:X.t9.heap.FunFrames X.base X.outer
 Gw : ∀b∈X.fs,X.IP b=cR
structure Inv(X:Cx)(pins:TW)(σ:List (Option V))(H:Hp)(s:gx):Prop where
 ok:X.Ok
 os:s.os=X.t9.os
 bare:FC s.gens
 base:Un X.fs X.ex X.IP H X.t9.heap s.heap
 loc : ∃m,s.heap.Ns X.env.locals m/\∀(i:Nat) (x:Str) (v:V),X.N[i]? = cI x->σ[i]? = cI (cI v)->R0 X.env.scope x->∃u,RelV v u/\Nc X.env s.heap m x u
 cell : ∀x c,X.env.cells.lookup x=cI c->∃v,s.heap.IsCell c v
 free:H X.env.locals=cR
 DI : ∀x c,X.env.cells.lookup x=cI c->H c=cR
 pin : ∀p∈X.pn++pins,s.heap.get? p.1=cI p.2/\H p.1=cR/\p.1≠X.env.locals/\p.1∉X.fs/\∀v,p.2.data ≠ .cell v
 i7:p6 X.prog X.w H s.heap
 len:σ.length=X.N.length
section
variable{X:Cx}{pins:TW}{σ:List (Option V)}{H H':Hp}{s:gx}{h':je}
theorem Cx.Ok.D?(ok:X.Ok)(e:X.base.get? b=cI o):b∉X.fs:=λhb=>by have:=(ok.Dj.mem hb).1;rw[e]at this;cases this
theorem Inv.bs(I:Inv X pins σ H s) : ∀b o,X.base.get? b=cI o->s.heap.get? b=cI o/\H b=cR:=λb o e=>
 ⟨I.base.keep b o (I.ok.bs b o e).1 (I.ok.bs b o e).2 (I.ok.D? e) (I.ok.LS b o e),I.base.free b o (I.ok.bs b o e).1 (I.ok.bs b o e).2 (I.ok.LS b o e)⟩
theorem Inv.bk(I:Inv X pins σ H s) : ∀b o,X.base.get? b=cI o->s.heap.get? b=cI o:=λb o e=>(I.bs b o e).1
theorem Inv.mod(I:Inv X pins σ H s):Mod X.K X.mg X.base:=I.ok.mod
theorem Inv.pK(I:Inv X pins σ H s):X.K.In s.heap:=I.ok.mod.LM.keeps I.bk
theorem Inv.lt(I:Inv X pins σ H s):X.env.locals<s.heap.objs.size:=let ⟨_,hn,_⟩:=I.loc;hn.lt
theorem Inv.sz(I:Inv X pins σ H s):X.t9.heap.objs.size<=s.heap.objs.size:=OH I.ok.above<|Uc I.lt
theorem Inv.F?(I:Inv X pins σ H s)(h:s.heap.objs.size<=a):a∉X.fs:=λhb=>by obtain⟨_,o,z,_⟩:=I.ok.Dj.mem hb;exact absurd (NX (NR z)<|OH I.sz h)<|Bc _
theorem Inv.Gs(I:Inv X pins σ H s) : ∀x c,X.env.cells.lookup x=cI c->c≠X.env.locals:=λx c e z=>by obtain⟨v,o,O,hd⟩:=I.cell x c e;obtain⟨m,⟨o',es,ep,Y,a0,_⟩,_⟩:=I.loc;rw[z,Y]at O;cases O;rw[a0]at hd;cases hd
theorem Inv.Dj(I:Inv X pins σ H s):s.heap.FunFrames X.base X.outer:=by
 have all : ∀(l:List u5),(∀b∈Dx l,b∈X.fs)->X.t9.heap.FunFrames X.base l->s.heap.FunFrames X.base l:=by
  intro l
  induction l with
  | nil=>intro _ _;trivial
  | cons env r ih=>
   intro hs hl;obtain⟨hk,⟨L,o,O,hn,ho,hd⟩,hr⟩:=hl;have Y:L∈X.fs:=hs L (by unfold Dx;rw[Uk,O];exact NL);obtain⟨sl,e⟩:=I.base.slot L o ho (I.ok.Gw L Y) Y λz=>I.ok.IZ L z Y;exact⟨hk,⟨L,_,O,hn,e,hd⟩,ih (λb hb=>hs b<|by unfold Dx;rw[Uk,O];exact NN _ hb) hr⟩
 exact all X.outer (λ_ hb=>hb) I.ok.Dj
theorem Inv.stack(I:Inv X pins σ H s):s.heap.FunFrames X.base X.stack:=by
 rcases I.ok.Nq with e | ⟨e,z⟩
 ·rw[e];exact I.Dj
 ·rw[e]
  obtain⟨m,hn,_⟩:=I.loc;refine .cons (by rw[I.ok.kind];decide) z hn ?_ I.Dj;exact Heap.get?_none_of_le<|OH I.ok.D6 I.ok.above
theorem Inv.f_(I:Inv X pins σ H s) : ∀b∈Dx X.stack,b∈X.env.locals::X.fs:=λb hb=>by
 rcases I.ok.Nq with e | ⟨e,z⟩
 ·rw[e]at hb;exact NN _ hb
 ·rw[e]at hb
  unfold Dx at hb;rw[Uk,z]at hb;exact hb
theorem Inv._r(I:Inv X pins σ H s) : ∀b∈Dx X.stack,H b=cR:=λb hb=>by
 rcases NP.mp (I.f_ b hb)with e | hb
 ·rw[e];exact I.free
 ·obtain⟨_,o,O,_⟩:=I.ok.Dj.mem hb
  exact I.base.free b o O (I.ok.Gw b hb) λz=>I.ok.IZ b z hb
theorem Inv.step{g':Array GenState}{t':Nat}{d':Drawn}{ch:List d8}(I:Inv X pins σ H s)
 (Y : ∀b∈ch,(b∈X.ex\/X.t9.heap.objs.size<=b)/\b≠X.env.locals/\(∀x c,X.env.cells.lookup x=cI c->c≠b)/\∀p∈X.pn++pins,p.1≠b)
 (keep : ∀b o,b≠X.env.locals->b∉X.fs->b∉ch->s.heap.get? b=cI o->H b=cR->h'.get? b=cI o)
 (slot : ∀b o,b≠X.env.locals->b∈X.fs->b∉ch->s.heap.get? b=cI o->H b=cR->∃sl,h'.get? b=cI {o with slots:=sl}) (free : ∀b o,b∉ch->s.heap.get? b=cI o->H b=cR->H' b=cR)
 (there : ∀b o,b∉ch->s.heap.get? b=cI o->∃o',h'.get? b=cI o')
 (F7 : ∀b xs,H b=cI (.tup xs)->H' b=cI (.tup xs)) (El : ∀b o u,H b=cI (.B3 o u)->H' b=cI (.B3 o u)) (F5 : ∀b ps,H b=cI (.G3 ps)->∃more,H' b=cI (.G3<|ps++more))
 (ns : ∀m,s.heap.Ns X.env.locals m->h'.Ns X.env.locals m) (i7:p6 X.prog X.w H' h') (hg:FC g') :
 Inv X pins σ H' {s with heap:=h',gens:=g',drawn:=d',toks:=t'}:=by
 have a2 : ∀b o,X.t9.heap.get? b=cI o->b≠X.env.locals:=λb o e=>Oa<|NX (NR e) I.ok.above;have a1 : ∀b o,X.t9.heap.get? b=cI o->b∉X.ex->b∉ch:=λb o e hx hb=>by
  rcases (Y b hb).1 with z | z
  ·exact hx z
  ·exact absurd (NX (NR e) z)<|Bc _
 have a3 : ∀x c,X.env.cells.lookup x=cI c->∀v,s.heap.IsCell c v->h'.IsCell c v:=λx c e v hZ=>by
  obtain⟨o,O,hd⟩:=hZ;have a0:c∉ch:=λz=>(Y c z).2.2.1 x c e rfl;by_cases hc:c∈X.fs
  ·obtain⟨sl,q⟩:=slot c o (I.Gs x c e) hc a0 O (I.DI x c e)
   exact⟨_,q,hd⟩
  ·exact⟨o,keep c o (I.Gs x c e) hc a0 O<|I.DI x c e,hd⟩
 refine⟨I.ok,I.os,hg,⟨λb o e n hb hx=>?_,λb o e n hb hx=>?_,λb o e n hx=>?_,λb o e hx=>?_,λb xs e=>F7 b xs<|I.base.F7 b xs e,λb o xs e=>El b o xs<|I.base.El b o xs e,λb ps e=>?_⟩,?_,λx c e=>?_,?_,λx c e=>?_,λp hp=>?_,i7,I.len⟩
 ·exact keep b o (a2 b o e) hb (a1 b o e hx) (I.base.keep b o e n hb hx)<|I.base.free b o e n hx
 ·obtain⟨sl,e1⟩:=I.base.slot b o e n hb hx
  obtain⟨a9,e2⟩:=slot b _ (a2 b o e) hb (a1 b o e hx) e1<|I.base.free b o e n hx;exact⟨a9,e2⟩
 ·obtain⟨o',e1⟩:=I.base.there b o e hx
  exact free b o' (a1 b o e hx) e1<|I.base.free b o e n hx
 ·obtain⟨o',e1⟩:=I.base.there b o e hx
  exact there b o' (a1 b o e hx) e1
 ·obtain⟨m1,e1⟩:=I.base.F5 b ps e
  obtain⟨m2,e2⟩:=F5 b _ e1;exact⟨m1++m2,by rw[e2,Array.append_assoc]⟩
 ·obtain⟨m,hn,hl⟩:=I.loc
  refine⟨m,ns m hn,λi x v e1 e2 e3=>?_⟩;obtain⟨u,r,l⟩:=hl i x v e1 e2 e3;refine⟨u,r,?_⟩;rcases l with l | ⟨k,c,e,z⟩
  ·exact .inl l
  ·exact .inr ⟨k,c,e,a3 x c e _ z⟩
 ·obtain⟨v,z⟩:=I.cell x c e
  exact⟨v,a3 x c e v z⟩
 ·obtain⟨m,⟨o,_,_,O,_⟩,_⟩:=I.loc
  exact free _ o (λz=>(Y _ z).2.1 rfl) O I.free
 ·obtain⟨v,o,O,hd⟩:=I.cell x c e
  exact free c o (λz=>(Y c z).2.2.1 x c e rfl) O<|I.DI x c e
 ·obtain⟨e,n,ne,nf,d⟩:=I.pin p hp
  have a0:p.1∉ch:=λz=>(Y p.1 z).2.2.2 p hp rfl;exact⟨keep p.1 p.2 ne nf a0 e n,free p.1 p.2 a0 e n,ne,nf,d⟩
theorem Inv.un{t':Nat}(I:Inv X pins σ H s)(u:Un X.fs [] H H' s.heap h')(i7:p6 X.prog X.w H' h'):Inv X pins σ H' {s with heap:=h',toks:=t'}:=by
 obtain⟨m,⟨o,es,ep,O,r⟩,_⟩:=id I.loc;obtain⟨sl,hL⟩:=u.any O I.free ⋯;exact I.step (g':=s.gens) (d':=s.drawn) (ch:=[]) (λ_ z=>nomatch z) (λb o _ hb _ e n=>u.keep b o e n hb ⋯) (λb o _ hb _ e n=>u.slot b o e n hb ⋯) (λb o _ e n=>u.free b o e n ⋯) (λb o _ e=>u.there b o e ⋯) u.F7 u.El u.F5 (λm' hm=>by obtain⟨o',a1,a2,Y,r'⟩:=hm;rw[O]at Y;cases Y;exact⟨_,a1,a2,hL,r'⟩) i7 I.bare
theorem Inv.call{g':Array GenState}{t':Nat}{d':Drawn}{ch:List d8}(I:Inv X pins σ H s)(u:Un (Dx X.stack) ch H H' s.heap h')(i7:p6 X.prog X.w H' h')(hg:FC g')
 (a0 : ∀b∈ch,(b∈X.ex\/X.t9.heap.objs.size<=b)/\b≠X.env.locals/\(∀x c,X.env.cells.lookup x=cI c->c≠b)/\∀p∈X.pn++pins,p.1≠b) :
 Inv X pins σ H' {s with heap:=h',gens:=g',drawn:=d',toks:=t'}:=by
 obtain⟨m,⟨o,es,ep,ho,r⟩,_⟩:=id I.loc;obtain⟨sl,Y⟩:=u.any ho I.free λz=>(a0 _ z).2.1 rfl;exact I.step (ch:=ch) a0 (λb o Y hb O e n=>u.keep b o e n (λz=>(NP.mp<|I.f_ b z).elim Y hb) O) (λb o _ _ O e n=>u.any e n O) (λb o O e n=>u.free b o e n O) (λb o O e=>u.there b o e O) u.F7 u.El u.F5 (λm' hm=>by obtain⟨o',a4,a5,a2,r'⟩:=hm;rw[ho]at a2;cases a2;exact⟨_,a4,a5,Y,r'⟩) i7 hg
theorem Inv.turned{t':Nat}{it:d8}(I:Inv X pins σ H s)(k : ∀b o,b≠it->s.heap.get? b=cI o->h'.get? b=cI o)(hn:H it=cR)(Y:it≠X.env.locals)
 (h1:it∈X.ex\/X.t9.heap.objs.size<=it) (h2 : ∀x c,X.env.cells.lookup x=cI c->c≠it) (h3 : ∀p∈X.pn++pins,p.1≠it):Inv X pins σ H {s with heap:=h',toks:=t'}:=by
 have a0 : ∀b u,H b=cI u->b≠it:=λb u e z=>by rw[z,hn]at e;cases e
 refine I.step (g':=s.gens) (d':=s.drawn) (ch:=[it]) (λb hb=>?_) (λb o _ _ O e _=>k b o (λz=>O<|by simp[z]) e) (λb o _ _ O e _=>⟨o.slots,k b o (λz=>O<|by simp[z]) e⟩) (λ_ _ _ _ n=>n)
  (λb o O e=>⟨o,k b o (λz=>O<|by simp[z]) e⟩) (λ_ _ e=>e) (λ_ _ _ e=>e) (λb ps e=>⟨#[],by rw[e];simp⟩) (λm hm=>?_) (λb u e=>?_) I.bare
 ·have e:b=it:=by simpa using hb
  subst e;exact⟨h1,Y,h2,h3⟩
 ·obtain⟨o,es,ep,ho,r⟩:=hm
  exact⟨o,es,ep,k _ o (OQ Y) ho,r⟩
 ·refine(I.i7 b u e).GF (λc v O q=>k c v ?_ q) (λ_ q=>q) λ_ _ q=>q
  rcases O with z | z
  ·rw[z];exact a0 b u e
  ·exact a0 c _ z
theorem Inv.tok(I:Inv X pins σ H s)(t:Nat):Inv X pins σ H {s with toks:=t}:=I.un (h':=s.heap) (t':=t) Un.refl I.i7
theorem Inv.kept(I:Inv X pins σ H s)(k : ∀b u,s.heap.get? b=cI u->h'.get? b=cI u):Inv X pins σ H {s with heap:=h',toks:=t'}:=I.un (Un.kept k)<|I.i7.kept k
theorem Inv.laid(I:Inv X pins σ H s)(k : ∀b u,s.heap.get? b=cI u->h'.get? b=cI u)(z:s.heap.objs.size<=a)(new:oi X.prog X.w (upd H a o) h' a o) :
 Inv X pins σ (upd H a o) {s with heap:=h',toks:=t'}:=I.un (Un.laid k z<|I.i7.fresh z)<|I.i7.laid k z new
theorem Inv.write(I:Inv X pins σ H s)(z:IU (H x))(O:e=x\/H e=cI (.own x))(k : ∀b u,b≠e->s.heap.get? b=cI u->h'.get? b=cI u)(Y : ∃u,h'.get? e=cI u)
 (new:oi X.prog X.w (upd H x o) h' x o):Inv X pins σ (upd H x o) {s with heap:=h',toks:=t'}:=I.un (Un.write z O k Y)<|I.i7.write z O k Y new
theorem Inv._i(I:Inv X pins σ H s)(h : ∀p∈O,s.heap.get? p.1=cI p.2/\H p.1=cR/\p.1≠X.env.locals/\p.1∉X.fs/\∀v,p.2.data ≠ .cell v):Inv X O σ H s:=
 ⟨I.ok,I.os,I.bare,I.base,I.loc,I.cell,I.free,I.DI,λp Y=>(Sz.mp Y).elim (λz=>I.pin p<|List.mem_append_left _ z) (h p),I.i7,I.len⟩
theorem aA{N:List Str}(z:N.Nodup){i j:Nat}{x:Str}(a:N[i]? = cI x)(b:N[j]? = cI x):i=j:=by obtain⟨h1,e1⟩:=NC.mp a;obtain⟨h2,e2⟩:=NC.mp b;exact(List.getElem_inj z).mp (e1.trans e2.symm)
theorem K9{M:Model}{A:p4}{E:EQ}{i:Nat}{x:Str}{v:V}{u:fm}{Q:Unit->gx->Prop}(I:Inv X pins σ H s)(hN:X.N.Nodup)(hi:X.N[i]? = cI x)(hx:Loc X.env.scope x)(r:RelV v u)
 (h : ∀s',Inv X pins (σ.set i<|some v) H s'->(∃a,PM a s.heap s'.heap/\(a=X.env.locals\/X.env.cells.lookup x=cI a))->Q () s') (hf:X.fn x=cL\/X.env.scope.names.lookup x=cI .local:=by first | exact .inl rfl | exact .inr rfl | assumption):wpAny M A (storeName X.env x u) Q E s:=by
 obtain⟨m,hn,hl⟩:=id I.loc;have ak:(X.env.scope.kind == .class || (X.env.scope.kind == .module && X.env.locals != X.env.globals))=d7:=by rw[I.ok.kind];rfl
 have a8:i<σ.length:=by rw[I.len];exact(NC.mp hi).1
 have Gs:=I.Gs;have a9 : ∀{a:d8} {h':je},(∃o,s.heap.get? a=cI o/\H a=cR)->PM a s.heap h'->p6 X.prog X.w H h':=λ{a h'} ha hs b ob e=>by
  obtain⟨_,_,aa⟩:=ha;refine(I.i7 b ob e).GF (λc w' O q=>(hs.2 c ?_).trans q) (λ_ q=>q) λ_ _ q=>q;rintro rfl;rcases O with rfl | O
  ·rw[aa]at e;cases e
  ·rw[aa]at O;cases O
 rcases hx with hk | hk
 ·refine wpAny_storeName_local hk hn (λh' an hs=>?_) ak
  obtain⟨oL,_,_,ar,_⟩:=id hn;refine h _ ⟨I.ok,I.os,I.bare,⟨λb o e n hb hx=>?_,λb o e n hb hx=>?_,I.base.free,λb o e hx=>?_,I.base.F7,I.base.El,I.base.F5⟩,⟨_,an,λj y v' e1 e2 e3=>?_⟩,λy c e=>?_,I.free,I.DI,λp hp=>?_,a9 ⟨oL,ar,I.free⟩ hs,by simpa using I.len⟩ ⟨_,hs,.inl rfl⟩
  ·exact(hs.2 b<|Oa<|NX (NR e) I.ok.above).trans (I.base.keep b o e n hb hx)
  ·obtain⟨sl,e1⟩:=I.base.slot b o e n hb hx
   exact⟨sl,(hs.2 b<|Oa<|NX (NR e) I.ok.above).trans e1⟩
  ·obtain⟨o',e1⟩:=I.base.there b o e hx
   exact⟨o',(hs.2 b<|Oa<|NX (NR e) I.ok.above).trans e1⟩
  ·by_cases Y:j=i
   ·subst Y
    rw[hi]at e1;cases e1;rw[Oz a8]at e2;cases e2;exact⟨u,r,.inl ⟨hk,by simp⟩⟩
   ·rw[NH (OQ Y)]at e2
    obtain⟨u',r',q⟩:=hl j y v' e1 e2 e3;refine⟨u',r',?_⟩;rcases q with⟨k,e⟩ | ⟨k,c,e,z⟩
    ·refine .inl ⟨k,?_⟩
     have:y≠x:=λe=>Y<|aA hN e1<|e ▸ hi;simp[this,e]
    ·exact .inr ⟨k,c,e,z.sameBut hs<|Gs y c e⟩
  ·obtain⟨w',z⟩:=I.cell y c e
   exact⟨w',z.sameBut hs<|Gs y c e⟩
  ·obtain⟨e,n,ne,nf,d⟩:=I.pin p hp
   exact⟨(hs.2 p.1 ne).trans e,n,ne,nf,d⟩
 ·have a5:X.fn x=cL:=by
   rcases hf with z | z
   ·exact z
   ·rw[z]at hk;cases hk
  obtain⟨c,O⟩:=I.ok.has x<|.inl hk;obtain⟨w',z⟩:=I.cell x c O;refine wpAny_storeName_cell I.ok.kind hk O z<|λh' ab hs=>?_;obtain⟨oc,ac,as⟩:=id z;refine h {s with heap:=h'} ⟨I.ok,I.os,I.bare,⟨λb o e n hb hx=>?_,λb o e n hb hx=>?_,I.base.free,λb o e hx=>?_,I.base.F7,I.base.El,I.base.F5⟩,⟨m,hn.sameBut hs<|OQ<|Gs x c O,λj y v' e1 e2 e3=>?_⟩,λy c' e=>?_,I.free,I.DI,λp hp=>?_,a9 ⟨oc,ac,I.DI x c O⟩ hs,by simpa using I.len⟩ ⟨c,hs,.inr O⟩
  ·exact(hs.2 b<|Oa<|NX (NR e)<|I.ok.IY x c a5 O).trans (I.base.keep b o e n hb hx)
  ·obtain⟨sl,e1⟩:=I.base.slot b o e n hb hx
   exact⟨sl,(hs.2 b<|Oa<|NX (NR e)<|I.ok.IY x c a5 O).trans e1⟩
  ·obtain⟨o',e1⟩:=I.base.there b o e hx
   exact⟨o',(hs.2 b<|Oa<|NX (NR e)<|I.ok.IY x c a5 O).trans e1⟩
  ·by_cases Y:j=i
   ·subst Y
    rw[hi]at e1;cases e1;rw[Oz a8]at e2;cases e2;exact⟨u,r,.inr ⟨.inl hk,c,O,ab⟩⟩
   ·rw[NH (OQ Y)]at e2
    obtain⟨u',r',q⟩:=hl j y v' e1 e2 e3;refine⟨u',r',?_⟩;rcases q with q | ⟨k,c',e,z'⟩
    ·exact .inl q
    ·refine .inr ⟨k,c',e,z'.sameBut hs ?_⟩
     rintro rfl;exact Y<|aA hN e1<|I.ok.inj _ _ _ e O ▸ hi
  ·by_cases ae:c'=c
   ·subst ae;exact⟨_,ab⟩
   ·obtain⟨w2,z2⟩:=I.cell y c' e
    exact⟨w2,z2.sameBut hs ae⟩
  ·obtain⟨e,n,ne,nf,d⟩:=I.pin p hp
   refine⟨(hs.2 p.1 ?_).trans e,n,ne,nf,d⟩;intro q;rw[q,ac]at e;have q':oc=p.2:=Oj e;exact d w' (by rw[<- q'];exact as)
theorem WR(I:Inv X pins σ H s)(z:X.N.Nodup)(hi:X.N[i]? = cI x)(hx:Loc X.env.scope x)(r:RelV v u)
 (h : ∀s',Inv X pins (σ.set i<|some v) H s'->Q () s') (O:X.fn x=cL\/X.env.scope.names.lookup x=cI .local:=by first | exact .inl rfl | exact .inr rfl | assumption):wpAny M A (storeName X.env x u) Q E s:=
 K9 I z hi hx r (λs' Y _=>h s' Y) O
theorem Inv.f?(I:Inv X pins σ H s)(z:s'.os=s.os)(u:Un (Dx X.stack) ch H H' s.heap s'.heap)(i7:p6 X.prog X.w H' s'.heap)(O:FC s'.gens)
 (Y : ∀b∈ch,(b∈X.ex\/X.t9.heap.objs.size<=b)/\b≠X.env.locals/\(∀x c,X.env.cells.lookup x=cI c->c≠b)/\∀p∈X.pn++pins,p.1≠b):Inv X pins σ H' s':=by
 obtain⟨h',g',d',t',o'⟩:=s';have e:o'=s.os:=z;subst e;exact I.call (g':=g') (t':=t') (d':=d') u i7 O Y
end
abbrev XK:=fm->Option d8->Hp->Prop
abbrev St:=List (Option V)
abbrev VK:=V->Hp->Prop
abbrev TE:=St->Hp->VK->Prop
abbrev TT:=St->Hp->(Bool->Hp->Prop)->Prop
abbrev TA:=St->Hp->(List V->Hp->Prop)->Prop
structure Ends where
 nx:St->Hp->Prop
 rt:VK
 bk:St->Hp->Prop:=λ_ _=>False
 ct:St->Hp->Prop:=λ_ _=>False
abbrev TS:=Ends->St->Hp->Prop
def EP(X:Cx)(pins:TW)(σ:St)(Q:VK)(u:fm)(s':gx):Prop:=∃v H',Inv X pins σ H' s'/\RelV v u/\Q v H'
def TP(X:Cx)(pins:TW)(σ:St)(Q:Bool->Hp->Prop)(b:Bool)(s':gx):Prop:=∃H',Inv X pins σ H' s'/\Q b H'
def AP(X:Cx)(pins:TW)(σ:St)(Q:List V->Hp->Prop)(us:List fm)(s':gx):Prop:=∃vs H',Inv X pins σ H' s'/\i8 vs us/\Q vs H'
def SP(X:Cx)(pins:TW)(D:Ends)(f:Flow)(s':gx):Prop:=
 match f with
 | .next=>∃i9 H',Inv X pins i9 H' s'/\D.nx i9 H'
 | .brk=>∃i9 H',Inv X pins i9 H' s'/\D.bk i9 H'
 | .cont=>∃i9 H',Inv X pins i9 H' s'/\D.ct i9 H'
 | .ret u=>∃v i9 H',Inv X pins i9 H' s'/\RelV v u/\D.rt v H'
def PE(X:Cx)(e:f7)(t:TE):Prop:=
 ∀(pins:TW) (s:gx) (σ:St) (H:Hp) (Q:VK),Inv X pins σ H s->t σ H Q->wpAny (gv X.prog X.w) X.A (f9 e X.env) (EP X pins σ Q) X.xe s
def PT(X:Cx)(e:f7)(t:TT):Prop:=
 ∀(pins:TW) (s:gx) (σ:St) (H:Hp) (Q:Bool->Hp->Prop),Inv X pins σ H s->t σ H Q->wpAny (gv X.prog X.w) X.A (Gz e X.env<|eval e X.env) (TP X pins σ Q) X.xe s
def PW(X:Cx)(e:f7)(t:TT):Prop:=
 ∀(z:Sem fm) (pins:TW) (s:gx) (σ:St) (H:Hp) (Q:Bool->Hp->Prop),Inv X pins σ H s->t σ H Q->wpAny (gv X.prog X.w) X.A (Gz e X.env z) (TP X pins σ Q) X.xe s
theorem PW.pt(h:PW X e t):PT X e t:=h _
def PA(X:Cx)(es:List f7)(t:TA):Prop:=
 ∀(pos:kr) (pins:TW) (s:gx) (σ:St) (H:Hp) (Q:List V->Hp->Prop),Inv X pins σ H s->t σ H Q->wpAny (gv X.prog X.w) X.A (LW<|backTo pos<|starEach es X.env) (AP X pins σ Q) X.xe s
def PS(X:Cx)(st:m5)(t:TS):Prop:=
 ∀(pins:TW) (s:gx) (σ:St) (H:Hp) (D:Ends),Inv X pins σ H s->t D σ H->wpAny (gv X.prog X.w) X.A (exec st X.env) (SP X pins D) X.xe s
def n5(X:Cx)(st:List m5)(t:TS):Prop:=
 ∀(pins:TW) (s:gx) (σ:St) (H:Hp) (D:Ends),Inv X pins σ H s->t D σ H->wpAny (gv X.prog X.w) X.A (execs st X.env) (SP X pins D) X.xe s
theorem ip(h:wpAny M A t Q E s)(z : ∀a s,Q a s->Q' a s):wpAny M A t Q' E s:=RK h z λ_ _ x=>x
section
variable{X:Cx}
def wC(i:Nat):TE:=λσ H Q=>∃v,σ[i]? = cI (cI v)/\Q v H
def tC(v:V):TE:=λ_ H Q=>Q v H
theorem CK(hN:X.N[i]? = cI x)(hv:R0 X.env.scope x)(hd:(x==("__debug__" : Str))=d7:=by decide)(a2:(x==("__classdict__" : Str))=d7:=by decide):PE X (.Name x pos) (wC i):=by
 intro pins s σ H Q I h;obtain⟨v,e,h⟩:=h;obtain⟨m,hn,hl⟩:=I.loc;obtain⟨u,r,l⟩:=hl i x v hN e hv;have z:EP X pins σ Q u s:=⟨v,H,I,r,h⟩;rcases l with⟨hk,hm⟩ | ⟨hk,c,O,Y⟩
 ·exact _A (wpAny_loadName_local I.ok.kind hk hn hm z) hd
 ·rcases hk with hk | hk
  ·exact _A (wpAny_loadName_cell I.ok.kind hk O Y z) hd
  ·exact _A (wpAny_loadName_free I.ok.kind hk O Y z a2) hd
theorem CP:PE X (.Constant (.int i) j pos) (tC<|.int i):=λ_ _ _ H _ I h=>wpAny_Constant_int ⟨.int i,H,I.tok _,⟨_,rfl⟩,h⟩
theorem HI:PE X (.Constant (.bool b) j pos) (tC<|.bl b):=λ_ _ _ H _ I h=>Constant_bool ⟨.bl b,H,I,rfl,h⟩
theorem rR:PE X (.Constant (.str x) j pos) (tC<|.str x):=λ_ _ _ H _ I h=>Calls.Constant_str ⟨.str x,H,I.tok _,⟨_,rfl⟩,h⟩
def Gl(X:Cx)(x:Str):Prop:=X.env.kindOf x=cI .globalImplicit
theorem VX(I:Inv X pins σ H s)(z:Gl X x)(hm:X.mg x=cI u)(h:Q u s)
 (hd:(x==("__debug__" : Str))=d7:=by decide):wpAny (gv X.prog X.w) X.A (f9 (.Name x pos) X.env) Q E s:=
 Calls.Name_function_global I.ok.kind z (Calls.loadGlobal_global (by rw[I.ok.glob];exact I.mod.glob.keeps I.bk) hm h) hd
theorem yq(I:Inv X pins σ H s)(z:Gl X x)(hm:X.mg x=cR)(O:D5 x=cI u)(h:Q u s)
 (hn:x ≠ "__name__":=by decide) (hd:(x==("__debug__" : Str))=d7:=by decide):wpAny (gv X.prog X.w) X.A (f9 (.Name x pos) X.env) Q E s:=by
 obtain⟨mb,h1,h2⟩:=I.mod.blt;exact Calls.Name_function_global I.ok.kind z (Calls.loadGlobal_builtin (by rw[I.ok.glob];exact I.mod.glob.keeps I.bk) hm (by rw[I.ok.blt];exact h1.keeps I.bk) ((h2 x hn).trans O) h) hd
variable{a b:f7}{ta tb:TE}{pos:kr}
def PC(X:Cx)(z:CmpOp)(a b:f7)(t:TE):Prop:=
 ∀(pins:TW) (s:gx) (σ:St) (H:Hp) (Q:VK),Inv X pins σ H s->t σ H Q->
  wpAny (gv X.prog X.w) X.A (f9 a X.env) (λv I=>wpAny (gv X.prog X.w) X.A (f9 b X.env) (λu O=>wpAny (gv X.prog X.w) X.A (wW z v u) (EP X pins σ Q) X.xe O) X.xe I) X.xe s
theorem ot(b:f7)(h:op ≠ .In)(h2:op ≠ .NotIn):DG op b=d7:=by
 have e1:(op==CmpOp.In)=d7:=by cases op<;>first | rfl | exact absurd rfl h
 have e2:(op==CmpOp.NotIn)=d7:=by cases op<;>first | rfl | exact absurd rfl h2
 cases b<;>simp[DG,e1,e2]
def tB(t:TE):TT:=λσ H Q=>t σ H λx H1=>∃c,x = .bl c/\Q c H1
theorem Cz(h:PC X op a b t)(h1:DG op b=d7:=by first | exact ot _ ⋯ ⋯ | rfl):PT X (.Compare a [op] [b] pos) (tB t):=by intro pins s σ H Q I hw;refine zak (ip (h pins s σ H _ I hw) λv s1 h1=>ip h1 λu s2 h2=>ip h2 λc s3 z=>?_) h1;obtain⟨x,H1,O,Y,q1⟩:=z;obtain⟨d,rfl,q⟩:=q1;cases Y;exact Py ⟨H1,O,q⟩
theorem Cw(h:PE X e t)(O : ∀z,Gz e X.env z=(do let v <- z;GD e.pos;Dk [v] (LY v)):=by intro _;rfl):PT X e (tB t):=by intro pins s σ H Q I hw;refine isTrue_plain (ip (h pins s σ H _ I hw) λv s1 Y=>?_)<|O _;obtain⟨x,H1,I1,r1,q1⟩:=Y;obtain⟨d,rfl,q⟩:=q1;cases r1;exact Py ⟨H1,I1,q⟩
variable{tA N7:TT}{xD:List f7}
def Mv(t u:TT):TT:=λσ H Q=>t σ H λc H1=>if c=cL then u σ H1 Q else Q d7 H1
def U?(t u:TT):TT:=λσ H Q=>t σ H λc H1=>if c=cL then Q cL H1 else u σ H1 Q
def Mr(t:TT):TT:=λσ H Q=>t σ H λc H1=>Q (!c) H1
theorem uk(ha:PT X a tA):PW X (.BoolOp .And [a] pos) tA:=by
 intro z pins s σ H Q I h;refine isTrue_and<|ip (ha pins s σ H Q I h) λc s1 e=>?_;cases c with
 | true=>exact isTrue_and_nil e
 | false=>exact e
theorem Ck(ha:PT X a tA):PW X (.BoolOp .Or [a] pos) tA:=by
 intro z pins s σ H Q I h;refine isTrue_or<|ip (ha pins s σ H Q I h) λc s1 e=>?_;cases c with
 | false=>exact isTrue_or_nil e
 | true=>exact e
theorem Cm(ha:PT X a tA)(hb:PW X (.BoolOp .And (b::xD) pos) N7):PW X (.BoolOp .And (a::b::xD) pos) (Mv tA N7):=by
 intro Y pins s σ H Q I h;refine isTrue_and<|ip (ha pins s σ H _ I h) λc s1 hZ=>?_;obtain⟨H1,z,O⟩:=hZ;cases c with
 | true=>exact hb Y pins s1 σ H1 Q z O
 | false=>exact⟨H1,z,O⟩
theorem HB(ha:PT X a tA)(hb:PW X (.BoolOp .Or (b::xD) pos) N7):PW X (.BoolOp .Or (a::b::xD) pos) (U? tA N7):=by
 intro Y pins s σ H Q I h;refine isTrue_or<|ip (ha pins s σ H _ I h) λc s1 hZ=>?_;obtain⟨H1,z,O⟩:=hZ;cases c with
 | true=>exact⟨H1,z,O⟩
 | false=>exact hb Y pins s1 σ H1 Q z O
theorem Cy(ha:PT X a tA):PT X (.UnaryOp .Not a pos) (Mr tA):=by intro pins s σ H Q I h;exact isTrue_not<|ha pins s σ H (λc H1=>Q (!c) H1) I h
def Hh(ta tb:TE):TE:=λσ H Q=>ta σ H λx H1=>∃c,x = .bl c/\if c=cL then tb σ H1 Q else Q (.bl d7) H1
def GY(ta:TE):TE:=λσ H Q=>ta σ H λx H1=>∃c,x = .bl c/\Q (.bl<|!c) H1
theorem CM(h:PE X a t):PE X (.BoolOp op [a] pos) t:=λpins s σ H Q I hw=>BoolOp_one<|h pins s σ H Q I hw
theorem CQ(ha:PE X a ta)(hb:PE X (.BoolOp .And (b::xD) pos) tb):PE X (.BoolOp .And (a::b::xD) pos) (Hh ta tb):=by
 intro pins s σ H Q I h;refine BoolOp_and<|ip (ha pins s σ H _ I h) λv s1 Y=>?_;obtain⟨x,H1,O,r1,z⟩:=Y;obtain⟨c,rfl,z⟩:=z;cases r1;refine Py ?_;cases c with
 | true=>exact hb pins s1 σ H1 Q O z
 | false=>exact⟨.bl d7,H1,O,rfl,z⟩
theorem CN(ha:PE X a ta):PE X (.UnaryOp .Not a pos) (GY ta):=by intro pins s σ H Q I h;refine UnaryOp_<|ip (ha pins s σ H _ I h) λv s1 O=>?_;obtain⟨x,H1,Y,r1,z⟩:=O;obtain⟨c,rfl,z⟩:=z;cases r1;exact not_of<|Py ⟨.bl<|!c,H1,Y,rfl,z⟩
def N8(t:TT)(ta tb:TE):TE:=λσ H Q=>t σ H λc H1=>if c=cL then ta σ H1 Q else tb σ H1 Q
theorem nX(Y:PT X c tA)(ha:PE X a ta)(hb:PE X b tb):PE X (.IfExp c a b pos) (N8 tA ta tb):=by
 intro pins s σ H Q I h;refine wpAny_IfExp<|ip (Y pins s σ H _ I h) λd s1 hZ=>?_;obtain⟨H1,z,O⟩:=hZ;cases d with
 | true=>exact ha pins s1 σ H1 Q z O
 | false=>exact hb pins s1 σ H1 Q z O
end
def lK(K:Nr)(H:Hp)(a:d8)(xs:List V):Prop:=
 Rd H a (.lst xs)\/
  ∃(o:o8) (z:Array fm) (n:Nat),K.lookup a=cI o/\o.cls = .type "list"/\o.dict=cR/\o.data = .seq z n/\z.size<=kv/\i8 xs z.toList
def k0(K:Nr)(H:Hp)(a:d8)(xs:List V):Prop:=
 Rd H a (.tup xs)\/
  ∃(o:o8) (z:Array fm) (n:Nat),K.lookup a=cI o/\(o.cls,o.dict)=(RB "tuple",cR)/\o.data = .seq z n/\z.size<=kv/\i8 xs z.toList
def MZ:fm->Option V
 | .none=>cI .i5
 | .bool b=>cI (.bl b)
 | .int i _=>cI (.int i)
 | .str x _=>cI (.str x)
 | .bytes b _=>cI (.Dg b)
 | .float b _=>cI (.Gv b)
 | .ref a=>cI (.ref a)
 | .type n=>cI (.ty n)
 | _=>cR
theorem RelV.abs(r:RelV x u):MZ u=cI x:=by
 cases x with
 | i5=>cases r;rfl
 | bl _=>cases r;rfl
 | int _=>obtain⟨t,rfl⟩:=r;rfl
 | str _=>obtain⟨t,rfl⟩:=r;rfl
 | Dg _=>obtain⟨t,rfl⟩:=r;rfl
 | Gv _=>obtain⟨t,rfl⟩:=r;rfl
 | ref _=>cases r;rfl
 | ty _=>cases r;rfl
theorem RelV.inj(r:RelV x u)(q:RelV y u):x=y:=Oj<|r.abs.symm.trans q.abs
theorem i8.inj : ∀{xs ys:List V} {us:List fm},i8 xs us->i8 ys us->xs=ys
 | _,_,_,.nil,.nil=>rfl
 | _,_,_,.cons r t,.cons r' t'=>by rw[r.inj r',i8.inj t t']
section
variable{X:Cx}{pins:TW}{σ:St}{H:Hp}{s:gx}{a:d8}{xs ys:List V}
theorem lK.of{K:Nr}(h:H a=cI (.lst xs)):lK K H a xs:= .inl (.inl h)
theorem k0.of{K:Nr}(h:H a=cI (.tup xs)):k0 K H a xs:= .inl (.inl h)
theorem Inv.list(I:Inv X pins σ H s)(h:lK X.K H a xs) : ∃O:List fm,i8 xs O/\PlainL s.heap a O.toArray/\xs.length<=kv:=by
 rcases h with h | ⟨o,O,n,hk,Y,hd,hs,hz,r⟩
 ·obtain⟨z,O,n,r,e⟩:=h.ok I.i7
  exact⟨O,r,⟨_,n,e,rfl,rfl,rfl⟩,z⟩
 ·refine⟨O.toList,r,⟨o,n,I.pK a o hk,Y,hd,by simpa using hs⟩,?_⟩
  have e:=r.length;simp only[Pc]at e;omega
theorem Inv.tuple(I:Inv X pins σ H s)(h:k0 X.K H a xs) : ∃O:List fm,i8 xs O/\IQ s.heap a O.toArray/\xs.length<=kv:=by
 rcases h with h | ⟨o,O,n,hk,Y,hs,hz,r⟩
 ·obtain⟨z,O,r,p⟩:=h.ok I.i7
  exact⟨O,r,p.tup,z⟩
 ·refine⟨O.toList,r,⟨o,I.pK a o hk,(Prod.mk.inj Y).1,n,by simpa using hs⟩,?_⟩
  have e:=r.length;simp only[Pc]at e;omega
theorem Inv.T9(I:Inv X pins σ H s)(h:lK X.K H a xs)(h':lK X.K H a ys):xs=ys:=by
 obtain⟨O,r,⟨o,n,e,_,_,d⟩,_⟩:=I.list h;obtain⟨its',r',⟨o',n',z,_,_,d'⟩,_⟩:=I.list h';rw[e]at z;cases z;rw[d]at d';injection d' with Y _;have:O=its':=by simpa using congrArg Array.toList Y
 subst this;exact r.inj r'
theorem Inv._w(I:Inv X pins σ H s)(h:k0 X.K H a xs)(h':k0 X.K H a ys):xs=ys:=by
 obtain⟨O,r,⟨o,e,_,n,d⟩,_⟩:=I.tuple h;obtain⟨its',r',⟨o',z,_,n',d'⟩,_⟩:=I.tuple h';rw[e]at z;cases z;rw[d]at d';injection d' with Y _;have:O=its':=by simpa using congrArg Array.toList Y
 subst this;exact r.inj r'
end
abbrev Cx.DO(X:Cx)(E:EQ):Cx:={X with xe:=E}
abbrev Cx.LU(X:Cx):Cx:=X.DO λ_ _=>False
theorem Cx.Ok.DO{X:Cx}(ok:X.Ok)(E:EQ):(X.DO E).Ok:=
 ⟨ok.mod,ok.kind,ok.glob,ok.blt,ok.above,ok.inj,ok.has,ok.IY,ok.hd,ok.frames,ok.Nq,ok.Me,ok.bs,ok.D6,ok.LS,ok.IZ,ok.Dj,ok.Gw⟩
theorem Cx.Ok.F9{X:Cx}{E:EQ}(ok:(X.DO E).Ok):X.Ok:=
 ⟨ok.mod,ok.kind,ok.glob,ok.blt,ok.above,ok.inj,ok.has,ok.IY,ok.hd,ok.frames,ok.Nq,ok.Me,ok.bs,ok.D6,ok.LS,ok.IZ,ok.Dj,ok.Gw⟩
section
variable{X:Cx}{pins:TW}{σ:St}{H:Hp}{s:gx}{E:EQ}
theorem Inv.DO(I:Inv X pins σ H s)(E:EQ):Inv (X.DO E) pins σ H s:=⟨I.ok.DO E,I.os,I.bare,I.base,I.loc,I.cell,I.free,I.DI,I.pin,I.i7,I.len⟩
theorem Inv.F9(I:Inv (X.DO E) pins σ H s):Inv X pins σ H s:=⟨I.ok.F9,I.os,I.bare,I.base,I.loc,I.cell,I.free,I.DI,I.pin,I.i7,I.len⟩
theorem SP.F9(h:SP (X.DO E) pins D f s'):SP X pins D f s':=by
 cases f with
 | next=>obtain⟨i9,H',I,q⟩:=h;exact⟨i9,H',I.F9,q⟩
 | brk=>obtain⟨i9,H',I,q⟩:=h;exact⟨i9,H',I.F9,q⟩
 | cont=>obtain⟨i9,H',I,q⟩:=h;exact⟨i9,H',I.F9,q⟩
 | ret u=>obtain⟨v,i9,H',I,r,q⟩:=h;exact⟨v,i9,H',I.F9,r,q⟩
theorem n5.LU{st:List m5}{t:TS}(h:n5 X.LU st t):n5 X st t:=λpins s σ H D I hw=>
 RK (h pins s σ H D (I.DO _) hw) (λ_ _ q=>q.F9) λ_ _ z=>RD z
end
section
variable{X:Cx}{st:m5}{xD:List m5}{t u:TS}{e:f7}{te:TE}{pos:kr}
def Ha:TS:=λD σ H=>D.nx σ H
def Ll(t u:TS):TS:=λD σ H=>t {D with nx:=u D} σ H
theorem gc:n5 X [] Ha:=λ_ _ σ H _ I h=>Uo ⟨σ,H,I,h⟩
theorem xK(h1:PS X st t)(h2:n5 X xD u):n5 X (st::xD) (Ll t u):=by
 intro pins s σ H D I h;refine wpAny_execs_cons<|ip (h1 pins s σ H {D with nx:=u D} I h) λf s1 q=>?_;cases f with
 | next=>
  obtain⟨i9,H',z,q⟩:=q;exact h2 pins s1 i9 H' D z q
 | ret v=>exact q
 | brk=>exact q
 | cont=>exact q
theorem vw(h1:PS X st t):n5 X [st] t:=by
 intro pins s σ H D I h;refine wpAny_execs_cons<|ip (h1 pins s σ H D I h) λf s1 q=>?_;cases f with
 | next=>exact Uo q
 | ret v=>exact q
 | brk=>exact q
 | cont=>exact q
def Hg:TS:=λD σ H=>D.ct σ H
theorem VE:PS X (.Continue pos) Hg:=λ_ _ σ H _ I h=>wpAny_Continue ⟨σ,H,I,h⟩
theorem Inv.quiet(I:Inv X pins σ H s):interactive X.env=d7:=by simp[interactive,I.ok.kind]
def Hd(te:TE):TS:=λD σ H=>te σ H λ_ H1=>D.nx σ H1
theorem wL(z:PE X e te)(hs:A8 e cR pos.line X.env=pure d7:=by rfl):PS X (.Expr e pos) (Hd te):=by intro pins s σ H D I h;exact wpAny_Expr_any (ip (z pins s σ H _ I h) λv s1 ⟨x,H1,O,r1,Y⟩=>⟨σ,H1,O,Y⟩) I.quiet hs
def GW(te:TE):TS:=λD σ H=>te σ H D.rt
theorem ZY(z:PE X e te):PS X (.Return (cI e) pos) (GW te):=by intro pins s σ H D I h;exact wpAny_Return_some<|ip (z pins s σ H _ I h) λv s1 ⟨x,H1,O,Y,q1⟩=>⟨x,σ,H1,O,Y,q1⟩
def Ms(c:TT)(t u:TS):TS:=λD σ H=>c σ H λb H1=>if b=cL then t D σ H1 else u D σ H1
theorem CB(Y:PT X c tc)(ha:n5 X a t)(hb:n5 X b u):PS X (.If c a b pos) (Ms tc t u):=by
 intro pins s σ H D I h;refine wpAny_If<|ip (Y pins s σ H _ I h) λd s1 hZ=>?_;obtain⟨H1,z,O⟩:=hZ;cases d with
 | true=>exact ha pins s1 σ H1 D z O
 | false=>exact hb pins s1 σ H1 D z O
def BL:TS:=λ_ _ _=>False
theorem nN:PS X st BL:=λ_ _ _ _ _ _ h=>h.elim
end
abbrev TG:=V->St->Hp->(St->Hp->Prop)->Prop
abbrev Im:=List V->St->Hp->(St->Hp->Prop)->Prop
def PG(X:Cx)(z:f7)(t:TG):Prop:=
 ∀(pins:TW) (s:gx) (σ:St) (H:Hp) (v:V) (u:fm) (Q:St->Hp->Prop),Inv X pins σ H s->RelV v u->t v σ H Q->
  wpAny (gv X.prog X.w) X.A (Du z X.env u) (λ_ s'=>∃i9 H',Inv X pins i9 H' s'/\Q i9 H') X.xe s
def IV(X:Cx)(z:List f7)(t:Im):Prop:=
 ∀(pins:TW) (s:gx) (σ:St) (H:Hp) (vs:List V) (us:List fm) (Q:St->Hp->Prop),Inv X pins σ H s->i8 vs us->t vs σ H Q->
  wpAny (gv X.prog X.w) X.A (assignInOrder ((DE z X.env).map (·.2)) us) (λ_ s'=>∃i9 H',Inv X pins i9 H' s'/\Q i9 H') X.xe s
abbrev Mh:=V->V->V->Hp->(Hp->Prop)->Prop
def Ml(X:Cx)(t:Mh):Prop:=
 ∀(pins:TW) (s:gx) (σ:St) (H:Hp) (o i v:V) (ov z u:fm) (Q:Hp->Prop),Inv X pins σ H s->RelV o ov->RelV i z->RelV v u->t o i v H Q->
  wpAny (gv X.prog X.w) X.A (_n ov z u) (λ_ s'=>∃H',Inv X pins σ H' s'/\Q H') X.xe s
section
variable{X:Cx}{pos:kr}
def ye(i:Nat):TG:=λv σ H Q=>Q (σ.set i<|some v) H
theorem gw(z:X.N.Nodup)(hi:X.N[i]? = cI x)(hx:Loc X.env.scope x)(O:X.fn x=cL\/X.env.scope.names.lookup x=cI .local:=by first | exact .inl rfl | exact .inr rfl | assumption):PG X (.Name x pos) (ye i):=by intro pins s σ H v u Q I r h;exact zai<|WR I z hi hx r (λs' Y=>⟨_,H,Y,h⟩) O
def LH:Im:=λvs σ H Q=>vs=[]/\Q σ H
def EY(t:TG)(u:Im):Im:=λvs σ H Q=>∃v r,vs=v::r/\t v σ H λi9 H'=>u r i9 H' Q
theorem yI:IV X [] LH:=by intro pins s σ H vs us Q I r h;obtain⟨e,h⟩:=h;subst e;cases r;exact assignInOrder_nil ⟨σ,H,I,h⟩
theorem jP(h1:PG X e t)(h2:IV X es u)
 (hs:(DE (e::es) X.env).map (·.2)=Du e X.env::(DE es X.env).map (·.2):=by rfl):IV X (e::es) (EY t u):=by
 intro pins s σ H vs us Q I r h;obtain⟨v,vr,e1,h⟩:=h;subst e1;cases r with
 | cons r z=>
  rw[hs];refine assignInOrder_cons<|ip (h1 pins s σ H _ _ _ I r h) λ_ s1 O=>?_;obtain⟨Y,H1,I1,q1⟩:=O;exact h2 pins s1 Y H1 _ _ Q I1 z q1
def LG(K:Nr)(n:Nat)(t:Im):TG:=λv σ H Q=>∃a xs,v = .ref a/\k0 K H a xs/\xs.length=n/\t xs σ H Q
theorem CI(O:X.calm=cL)(h:IV X es t)
 (hn:(DE es X.env).length=n:=by rfl) (Y:(DE es X.env).findIdx? (·.1)=cR:=by rfl):PG X (.Tuple es k pos) (LG X.K n t):=by
 intro pins s σ H v u Q I r hw;obtain⟨a,xs,e1,hq,hl,hw⟩:=hw;subst e1;cases r;obtain⟨a4,z,ht,hz⟩:=I.tuple hq;refine assign_Tuple_tuple (I.ok.hd O) ht (by simp[hn,<- hl,z.length]) Y λh' hx=>?_;have I1:Inv X pins σ H {s with heap:=h'}:=I.kept (t':=s.toks) λb o e=>hx b o (Oa<|NR e) e;exact h pins _ σ H xs _ Q I1 (by simpa using z) hw
def Gp(to z:TE)(t:Mh):TG:=λv σ H Q=>to σ H λo H1=>z σ H1 λi H2=>t o i v H2 λI=>Q σ I
theorem CJ(Y:PE X o to)(hi:PE X i ti)(hs:Ml X t)
 (ha : ∀v,Du (.Subscript o i pos) X.env v=(do
   let ov <- Dk [v] (f9 o X.env);let z <- Dk [v,ov] (f9 i X.env)
   GD pos
   Dk [v,ov,z] (_n ov z v)
   release [v,ov,z] []):=by intro _;rfl):PG X (.Subscript o i pos) (Gp to ti t):=by
 intro pins s σ H v u Q I r h;rw[ha];refine Nt<|Rm<|ip (Y pins s σ H _ I h) λov s1 O=>?_;obtain⟨x,H1,I1,r1,q1⟩:=O;refine Nt<|Rm<|ip (hi pins s1 σ H1 _ I1 q1) λz s2 O=>?_;obtain⟨y,H2,I2,r2,q2⟩:=O;refine Nt<|wpAny_standAt<|Nt<|Rm<|ip (hs pins s2 σ H2 x y v ov z u _ I2 r1 r2 r q2) λ_ s3 O=>?_;obtain⟨H3,I3,q3⟩:=O;exact wpAny_release ⟨σ,H3,I3,q3⟩
def XQ(te:TE)(g:TG):TS:=λD σ H=>te σ H λx H1=>g x σ H1 D.nx
theorem Xa(z:PE X e te)(O:PG X tg g)(hs:N2 [tg] e pos.line X.env=pure d7:=by rfl)(hw:h_ [tg] e X.env=pure cR:=by rfl)
 (h1:(DE [tg] X.env).map (·.2)=[Du tg X.env]:=by rfl):PS X (.Assign [tg] e pos) (XQ te g):=by
 intro pins s σ H D I h;refine wpAny_Assign_stores (ip (z pins s σ H _ I h) λv s1 Y=>?_) hs hw;obtain⟨x,H1,I1,r1,q1⟩:=Y;rw[h1];exact ip (O pins s1 σ H1 x v _ I1 r1 q1) λ_ s2 q=>q
theorem CA(z:X.N.Nodup)(hi:X.N[i]? = cI x)(hx:Loc X.env.scope x)(O:PE X e te)(hs:A8 e (cI (.Name x pos')) pos.line X.env=pure d7:=by rfl)(Y:X.fn x=cL\/X.env.scope.names.lookup x=cI .local:=by first | exact .inl rfl | exact .inr rfl | assumption) :
 PS X (.Assign [.Name x pos'] e pos) (XQ te<|ye i):=by
 intro pins s σ H D I h;refine wpAny_Assign_Name (ip (O pins s σ H _ I h) λv s1 hZ=>?_) hs;obtain⟨y,H1,I1,r1,q1⟩:=hZ;exact WR I1 z hi hx r1 (λs2 I2=>⟨_,H1,I2,q1⟩) Y
end
section
variable{X:Cx}{pos:kr}
def BK(c:TT)(tb:TS):TS:=λD σ H=>∃W:Nat->St->Hp->Prop,(∃m,W m σ H)/\∀m σ H,W m σ H->
 c σ H λb H1=>if b=cL then ∃N:St->Hp->Prop,(∀i9 H',N i9 H'->∃m',m'<m/\W m' i9 H')/\tb {D with nx:=N,ct:=N,bk:=D.nx} σ H1 else D.nx σ H1
theorem nM{c:f7}{body:List m5}{tc:TT}{tb:TS}(hp:G9 (gv X.prog X.w) X.A X.env X.xe)(hc:PT X c tc)(hb:n5 X body tb):PS X (.While c body [] pos) (BK tc tb):=by
 intro pins s σ H D I h;obtain⟨W,⟨m0,w0⟩,a9⟩:=h;refine wpAny_While<|codeAny_whileLoop (λn s'=>∃i9 H',Inv X pins i9 H' s'/\W n i9 H') ?_ m0 ⟨σ,H,I,w0⟩;rintro n s1 ⟨Y,H1,I1,w1⟩;refine Si hp<|ip (hc pins s1 Y H1 _ I1<|a9 n Y H1 w1) λb s2 hZ=>?_;obtain⟨H2,I2,q2⟩:=hZ;cases b with
 | true=>
  obtain⟨N,hN,q2⟩:=q2;rw[DZ rfl];refine Si hp<|ip (hb pins s2 Y H2 _ I2 q2) λf s3 q3=>?_;cases f with
  | next=>
   obtain⟨z,O,I3,n3⟩:=q3;obtain⟨m',hm,w3⟩:=hN z O n3;exact⟨m',hm,z,O,I3,w3⟩
  | cont=>
   obtain⟨z,O,I3,n3⟩:=q3;obtain⟨m',hm,w3⟩:=hN z O n3;exact⟨m',hm,z,O,I3,w3⟩
  | brk=>exact q3
  | ret v=>exact q3
 | false=>
  rw[DJ NM];exact Uo ⟨Y,H2,I2,q2⟩
end
structure It where
 go:Nat->Hp->Prop
 DP:Nat->Hp->V->Hp->Prop
 stop:Nat->Hp->Prop
def bC(X:Cx)(pins:TW)(H:Hp)(b:d8):Prop:=
 H b=cR/\b≠X.env.locals/\b∉X.fs/\(b∈X.ex\/X.t9.heap.objs.size<=b)/\(∀x c,X.env.cells.lookup x=cI c->c≠b)/\∀p∈X.pn++pins,p.1≠b
theorem Inv.FZ(I:Inv X pins σ H s)(hb:s.heap.objs.size<=b)(hn:H' b=cR):bC X pins H' b:=by
 refine⟨hn,PZ<|NX I.lt hb,I.F? hb,.inr<|OH I.sz hb,λx c e z=>?_,λp O z=>?_⟩
 ·obtain⟨v,q⟩:=I.cell x c e
  exact absurd (NX q.lt<|by rw[z];exact hb)<|Bc _
 ·exact absurd (NX (NR (I.pin p O).1)<|by rw[z];exact hb)<|Bc _
structure Turn(P:m4)(w:l0)(K:Nr)(tg:f7)(J:It)(fp:List d8)(it:d8)(tn:Nat->je->Prop):Prop where
 mem:it∈fp
 obj : ∀i h,tn i h->∀b∈fp,∃o,h.get? b=cI o/\∀v,o.data ≠ .cell v
 keep : ∀i h h',tn i h->(∀b∈fp,∀o,h.get? b=cI o->h'.get? b=cI o)->tn i h'
 item : ∀(X:Cx),X.prog=P->X.w=w->X.K=K->X.calm=cL->∀(i:Nat) (pins:TW) (s:gx) (σ:St) (H:Hp) (E:EQ),Inv X pins σ H s->(∀b∈fp,bC X pins H b)->tn i s.heap->J.go i H->
  wpAny (gv P w) X.A (B4<|.ref it) (λr s1=>∃u,r=cI u/\
   wpAny (gv P w) X.A (M3 tg (.ref it) u) (λ_ s2=>∃x H',Inv X pins σ H' s2/\RelV x u/\J.DP i H x H'/\tn (i+1) s2.heap/\∀b∈fp,H' b=cR) E s1) E s
 done : ∀(X:Cx),X.prog=P->X.w=w->X.K=K->X.calm=cL->∀(i:Nat) (pins:TW) (s:gx) (σ:St) (H:Hp) (E:EQ),Inv X pins σ H s->(∀b∈fp,bC X pins H b)->tn i s.heap->J.stop i H->
  wpAny (gv P w) X.A (B4<|.ref it) (λr s1=>r=cR/\Inv X pins σ H s1) E s
 self : ∀(A:p4) (i:Nat) (s:gx) (Q:EQ) (E:EQ),tn i s.heap->Q (.ref it) s->wpAny (gv P w) A (IE<|.ref it) Q E s
abbrev TI:=St->Hp->(It->Hp->Prop)->Prop
def J'(X:Cx)(pins:TW)(σ:St)(tg:f7)(R:It->Hp->Prop)(z:fm)(s2:gx):Prop:=
 ∃(it:d8) (fp:List d8) (tn:Nat->je->Prop) (J:It) (H':Hp),z = .ref it/\Inv X pins σ H' s2/\Turn X.prog X.w X.K tg J fp it tn/\tn 0 s2.heap/\(∀b∈fp,bC X pins H' b)/\R J H'
def PI(X:Cx)(tg iter:f7)(wi:TI):Prop:=
 ∀(pins:TW) (s:gx) (σ:St) (H:Hp) (R:It->Hp->Prop),Inv X pins σ H s->wi σ H R->
  wpAny (gv X.prog X.w) X.A (f9 iter X.env) (λv s1=>wpAny (gv X.prog X.w) X.A (IE v) (J' X pins σ tg R) X.xe s1) X.xe s
theorem pj(I:s.heap.get? it=cI o)(O:o.cls = .type n)(hd:o.data = .fields vs)
 (hn:["enumerate","zip","dict_itemiterator","dict_reverseitemiterator","odict_iterator","itertools.zip_longest","itertools.pairwise"].contains n=d7) (z:Q () s):wpAny M A (M3 tg (.ref it) u) Q E s:=by
 unfold M3;cases tg<;>first
  | exact Nz z
  | (cases u<;>first
      | exact Nz z
      | (refine Nt (wpAny_load I ?_)
         rw[O,hd];show wpAny M A (if (["enumerate","zip","dict_itemiterator","dict_reverseitemiterator","odict_iterator","itertools.zip_longest","itertools.pairwise"].contains n && vs[0]? == cI (zt _))=cL then _ else _) Q E s;rw[DJ (by intro h;rw[hn,Ui]at h;cases h)];exact Nz z))
def G_(K:Nr)(a:d8):It:=
 ⟨λi H=>∃xs x,lK K H a xs/\xs[i]? = cI x,λi H x H'=>H'=H/\∀xs,lK K H a xs->xs[i]? = cI x,λi H=>∃xs,lK K H a xs/\xs.length<=i⟩
def H_(K:Nr)(a:d8):It:=
 ⟨λi H=>∃xs x,k0 K H a xs/\xs[i]? = cI x,λi H x H'=>H'=H/\∀xs,k0 K H a xs->xs[i]? = cI x,λi H=>∃xs,k0 K H a xs/\xs.length<=i⟩
def IS(lo:Int)(n:Nat):It:=⟨λi _=>i<n,λi H x H'=>H'=H/\x = .int (lo+i),λi _=>n<=i⟩
theorem eP{P:m4}{w:l0}{K:Nr}{tg:f7}(a it:d8):Turn P w K tg (G_ K a) [it] it (λi h=>h.IsListIter it a i) where
 mem:=by simp
 obj:=λi h st b hb=>by
  have e:b=it:=by simpa using hb
  subst e;obtain⟨o,e,c,d⟩:=st;exact⟨o,e,λv z=>by rw[d]at z;cases z⟩
 keep:=λi h h' st k=>st.at λo e=>k it ⋯ o e
 item:=by intro X hP hw hK hc i pins s σ H E I O st hg;subst hP hw hK;obtain⟨xs,x,Y,hx⟩:=hg;obtain⟨ab,rv,p,hz⟩:=I.list Y;obtain⟨u,hu,ru⟩:=rv.get hx;obtain⟨f0,f1,f2,f3,f4,f5⟩:=O it ⋯;refine wpAny_pyNext_list_item st p.isList (x:=u) (by simpa using hu) λh' aa sb=>?_;have I1:Inv X pins σ H {s with heap:=h'}:=I.turned (t':=s.toks) (λb o hb e=>(sb.2 b hb).trans e) f0 f1 f3 f4 f5;obtain⟨o,e,c,d⟩:=id aa;exact⟨u,rfl,pj (s:={s with heap:=h'}) e c d ⋯ ⟨x,H,I1,ru,⟨rfl,λys hy=>by rw[I.T9 hy Y];exact hx⟩,aa,λb hb=>(O b hb).1⟩⟩
 done:=by intro X hP hw hK hc i pins s σ H E I O st hg;subst hP hw hK;obtain⟨xs,Y,hx⟩:=hg;obtain⟨ab,rv,p,hz⟩:=I.list Y;obtain⟨f0,f1,f2,f3,f4,f5⟩:=O it ⋯;have hl:=rv.length;exact wpAny_pyNext_list_end (I.ok.hd hc) st p.isList (by simp;omega) λh' eb=>⟨rfl,I.turned (t':=s.toks) (λb o hb e=>eb b o hb e) f0 f1 f3 f4 f5⟩
 self:=λ_ _ _ _ _ st h=>wpAny_pyIter_listiter st h
theorem bJ{P:m4}{w:l0}{K:Nr}{tg:f7}(a it:d8):Turn P w K tg (H_ K a) [it] it (λi h=>h.IsTupleIter it a i) where
 mem:=by simp
 obj:=λi h st b hb=>by
  have e:b=it:=by simpa using hb
  subst e;obtain⟨o,e,c,d⟩:=st;exact⟨o,e,λv z=>by rw[d]at z;cases z⟩
 keep:=λi h h' st k=>st.at λo e=>k it ⋯ o e
 item:=by intro X hP hw hK hc i pins s σ H E I O st hg;subst hP hw hK;obtain⟨xs,x,Y,hx⟩:=hg;obtain⟨a3,rv,p,hz⟩:=I.tuple Y;obtain⟨u,hu,ru⟩:=rv.get hx;obtain⟨f0,f1,f2,f3,f4,f5⟩:=O it ⋯;refine wpAny_pyNext_tuple_item st (show s.heap.IsTuple a a3.toArray from p) (x:=u) (by simpa using hu) λh' ab sb=>?_;have I1:Inv X pins σ H {s with heap:=h'}:=I.turned (t':=s.toks) (λb o hb e=>(sb.2 b hb).trans e) f0 f1 f3 f4 f5;obtain⟨o,e,c,d⟩:=id ab;exact⟨u,rfl,pj (s:={s with heap:=h'}) e c d ⋯ ⟨x,H,I1,ru,⟨rfl,λys hy=>by rw[I._w hy Y];exact hx⟩,ab,λb hb=>(O b hb).1⟩⟩
 done:=by intro X hP hw hK hc i pins s σ H E I O st hg;subst hP hw hK;obtain⟨xs,Y,hx⟩:=hg;obtain⟨a3,rv,p,hz⟩:=I.tuple Y;obtain⟨f0,f1,f2,f3,f4,f5⟩:=O it ⋯;have hl:=rv.length;exact wpAny_pyNext_tuple_end (I.ok.hd hc) st (show s.heap.IsTuple a a3.toArray from p) (by simp;omega) λh' eb=>⟨rfl,I.turned (t':=s.toks) (λb o hb e=>eb b o hb e) f0 f1 f3 f4 f5⟩
 self:=λ_ _ _ _ _ st h=>wpAny_pyIter_tupleiter st h
theorem bK{P:m4}{w:l0}{K:Nr}{tg:f7}(it:d8)(lo:Int)(n:Nat):Turn P w K tg (IS lo n) [it] it (λi h=>IsRangeIter h it (lo+(i:Nat)*1) ((n:Int) - (i:Nat)) 1) where
 mem:=by simp
 obj:=λi h st b hb=>by
  have e:b=it:=by simpa using hb
  subst e;exact⟨_,st,λv z=>by have z':Data.fields _=Data.cell v:=z;cases z'⟩
 keep:=λi h h' st k=>k it ⋯ _ st
 item:=by intro X Y hw hK hc i pins s σ H E I O st hg;subst Y hw hK;obtain⟨f0,f1,f2,f3,f4,f5⟩:=O it ⋯;have W:=Walks.range (prog:=X.prog) (w:=X.w) (I.ok.hd hc) it lo 1 n;refine W.item i s _ _ hg st λv h' tk hv a9 kk=>?_;obtain⟨t,rfl⟩:=hv;have I1:Inv X pins σ H {s with heap:=h',toks:=tk}:=I.turned (λb o hb e=>kk b o (by simpa using hb) e) f0 f1 f3 f4 f5;refine⟨_,rfl,pj (s:={s with heap:=h',toks:=tk}) (n:="range_iterator") a9 rfl rfl ⋯ ⟨.int (lo+i),H,I1,⟨t,?_⟩,⟨rfl,rfl⟩,a9,λb hb=>(O b hb).1⟩⟩;rw[PJ]
 done:=by intro X Y hw hK hc i pins s σ H E I O st hg;subst Y hw hK;obtain⟨f0,f1,f2,f3,f4,f5⟩:=O it ⋯;exact wpAny_pyNext_range_end (I.ok.hd hc) st (by have:n<=i:=hg;omega) λh' eb=>⟨rfl,I.turned (t':=s.toks) (λb o hb e=>eb b o hb e) f0 f1 f3 f4 f5⟩
 self:=λ_ _ _ _ _ st h=>wpAny_pyIter_rangeiter st h
section
variable{X:Cx}{tg:f7}
theorem W4{pins:TW}{σ:St}{H:Hp}{s:gx}{R:It->Hp->Prop}{E:EQ}{lo hi:Int}{t u v:z8}{z:Nat}(I:Inv X pins σ H s)(h1 : -(2 ^ 62)<=lo)(h2:lo<2 ^ 62)(Y : -(2 ^ 62)<=hi)(h4:hi<2 ^ 62)
 (q:R (IS lo (hi - lo).toNat) H):wpAny (gv X.prog X.w) X.A (IE (.ref s.heap.objs.size)) (J' X pins σ tg R) E {s with heap:=s.heap.push {cls:= .type "range",data:= .fields #[.int lo t,.int hi u,.int 1 v]},toks:=z}:=by
 refine wpAny_pyIter_range (IsRange.new ..) (small_one h1 h2 Y h4) ?_;have O:Inv X pins σ H {s with heap:=s.heap.push {cls:= .type "range",data:= .fields #[.int lo t,.int hi u,.int 1 v]},toks:=z}:=I.kept λb o e=>Nv _ e;refine⟨(s.heap.push {cls:= .type "range",data:= .fields #[.int lo t,.int hi u,.int 1 v]}).objs.size,[(s.heap.push {cls:= .type "range",data:= .fields #[.int lo t,.int hi u,.int 1 v]}).objs.size],_,_,H,rfl,
  O.kept (t':=z) λb o e=>Nv _ e,bK _ lo (hi - lo).toNat,?_,λb hb=>?_,q⟩
 ·have e1:lo+((0:Nat):Int)*1=lo:=by simp
  have e2:(((hi - lo).toNat:Nat):Int) - ((0:Nat):Int)=Builtin.Range.rangeSize lo hi 1:=by rw[rangeSize_one];split<;>omega
  show IsRangeIter _ _ (lo+((0:Nat):Int)*1) ((((hi - lo).toNat:Nat):Int) - ((0:Nat):Int)) 1;rw[e1,e2];exact NO _ rfl
 ·have e:b=(s.heap.push {cls:= .type "range",data:= .fields #[.int lo t,.int hi u,.int 1 v]}).objs.size:=by simpa using hb
  subst e;exact O.FZ (NJ _)<|O.i7.fresh<|NJ _
def Ib(ta:TA):TI:=λσ H R=>ta σ H λvs H1=>∃j:Int,vs=[.int j]/\ -(2 ^ 62)<=j/\j<2 ^ 62/\R (IS 0 j.toNat) H1
def Ia(ta:TA):TI:=λσ H R=>ta σ H λvs H1=>∃i j:Int,vs=[.int i,.int j]/\(-(2 ^ 62)<=i/\i<2 ^ 62/\ -(2 ^ 62)<=j/\j<2 ^ 62)/\R (IS i (j - i).toNat) H1
theorem gu{a:f7}{ta:TA}{p pos:kr}(O:Gl X "range")(hm:X.mg "range" = cR)(ha:PA X [a] ta)(hs:i6 [a] X.env=[(d7,f9 a X.env)]:=by rfl):PI X tg (.Call (.Name "range" p) [a] [] pos) (Ib ta):=by
 intro pins s σ H R I h;refine G7<|yq I O hm boot_range<|OT (ip (ha pos pins s σ H _ I h) λus s1 Y=>?_) hs rfl;obtain⟨vs,H1,I1,r1,z⟩:=Y;obtain⟨j,e,z,q2,q⟩:=z;subst e;cases r1 with
 | cons r rr=>
  cases rr;obtain⟨t,rfl⟩:=r;exact call_range_1 (W4 I1 ⋯ ⋯ z q2<|by simpa using q)
theorem gr(hg:Gl X "range")(hm:X.mg "range" = cR)(ha:PA X [a,b] ta)(hs:i6 [a,b] X.env=[(d7,f9 a X.env),(d7,f9 b X.env)]:=by rfl)(Y:i6 [b] X.env=[(d7,f9 b X.env)]:=by rfl) :
 PI X tg (.Call (.Name "range" p) [a,b] [] pos) (Ia ta):=by
 intro pins s σ H R I h;refine G7 (yq I hg hm boot_range<|OT (ip (ha pos pins s σ H _ I h) λus s1 hZ=>?_) (by rw[hs,Y])<|by rw[Y];rfl);obtain⟨vs,H1,I1,r1,z⟩:=hZ;obtain⟨i,j,e,⟨z,q2,q3,q4⟩,q⟩:=z;subst e;cases r1 with
 | cons r O=>
  cases O with
  | cons r' O=>
   cases O;obtain⟨t,rfl⟩:=r;obtain⟨t',rfl⟩:=r';exact call_range_2<|W4 I1 z q2 q3 q4 q
def Mt(wi:TI)(g:TG)(tb:TS):TS:=λD σ H=>wi σ H λJ H1=>∃W:Nat->Nat->St->Hp->Prop,(∃m,W 0 m σ H1)/\∀i m σ H,W i m σ H->
 (J.stop i H/\D.nx σ H)\/(J.go i H/\∃N:St->Hp->Prop,(∀i9 H',N i9 H'->∃m',m'<m/\W (i+1) m' i9 H')/\∀x H',J.DP i H x H'->g x σ H' λz H2=>tb {D with nx:=N,ct:=N,bk:=D.nx} z H2)
def Yq(fp:List d8)(h:je):List (d8×o8):=fp.filterMap λb=>(h.get? b).map λo=>(b,o)
theorem yX(hb:b∈fp)(e:h.get? b=cI o):(b,o)∈Yq fp h:=List.mem_filterMap.mpr ⟨b,hb,by rw[e];rfl⟩
theorem gF(z:p∈Yq fp h):p.1∈fp/\h.get? p.1=cI p.2:=by
 obtain⟨b,hb,e⟩:=List.mem_filterMap.mp z;cases q:h.get? b with
 | none=>rw[q]at e;cases e
 | some o=>
  rw[q]at e;have I:(b,o)=p:=Oj e;subst I;exact⟨hb,q⟩
theorem Inv.pinned(I:Inv X pins σ H s)(Y : ∀b∈fp,bC X pins H b)(ho : ∀b∈fp,∃o,s.heap.get? b=cI o/\∀v,o.data ≠ .cell v):Inv X (pins++Yq fp s.heap) σ H s:=
 I._i λp hp=>(Sz.mp hp).elim (λz=>I.pin p<|Pb _ z) λz=>by obtain⟨hb,e⟩:=gF z;obtain⟨f0,f1,f2,_⟩:=Y p.1 hb;obtain⟨o,O,d⟩:=ho p.1 hb;rw[e]at O;cases O;exact⟨e,f0,f1,f2,d⟩
theorem Inv.LZ(I:Inv X (pins++pl) σ H s):Inv X pins σ H s:=I._i λp z=>I.pin p<|Pb _<|List.mem_append_left _ z
theorem gf(hp:G9 (gv X.prog X.w) X.A X.env X.xe)(hc:X.calm=cL)(hi:PI X tg iter wi)(hg:PG X tg g)(hb:n5 X body tb)
 (hs : ∀x,zl iter X.env x=pure x:=by intro _;rfl):PS X (.For tg iter body [] pos) (Mt wi g tb):=by
 intro pins s σ H D I h;refine wpAny_For (ip (hi pins s σ H _ I h) λv s1 h1=>ip h1 λc5 s2 h2=>?_) hs;obtain⟨it,fp,tn,J,H2,e,I2,T,ar,f2,W,⟨m0,w0⟩,b0⟩:=h2;subst e;have a6 : ∀{H':Hp},(∀b∈fp,H' b=cR)->∀b∈fp,bC X pins H' b:=λhn b hb=>⟨hn b hb,(f2 b hb).2⟩;refine codeAny_forLoop_any (λn s'=>∃i i9 H',Inv X pins i9 H' s'/\tn i s'.heap/\(∀b∈fp,H' b=cR)/\W i n i9 H') ?_ m0 ⟨0,σ,H2,I2,ar,λb hb=>(f2 b hb).1,w0⟩;rintro n s3 ⟨i,C4,H3,I3,II,ag,w3⟩;rcases b0 i n C4 H3 w3 with⟨stop,qn⟩ | ⟨go,N,hN,step⟩
 ·refine Si hp (ip (T.done X rfl rfl rfl hc i pins s3 C4 H3 X.xe I3 (a6 ag) II stop) λr s4 hZ=>?_)
  obtain⟨hr,I4⟩:=hZ;subst hr;exact Uo ⟨C4,H3,I4,qn⟩
 ·refine Si hp (ip (T.item X rfl rfl rfl hc i pins s3 C4 H3 X.xe I3 (a6 ag) II go) λr s4 hZ=>?_)
  obtain⟨u,hr,h4⟩:=hZ;subst hr;refine Si hp<|ip h4 λ_ s5 hZ=>?_;obtain⟨x,H5,I5,r5,y5,a8,bm⟩:=hZ;have bn:=I5.pinned (a6 bm)<|T.obj _ _ a8;refine Si hp<|ip (hg _ s5 C4 H5 x u _ bn r5<|step x H5 y5) λ_ s6 hZ=>?_;obtain⟨IL,H6,I6,q6⟩:=hZ;refine Si hp<|ip (hb _ s6 IL H6 _ I6 q6) λf s7 q7=>?_;have again : ∀{z:St} {O:Hp},Inv X (pins++Yq fp s5.heap) z O s7->N z O->∃m,m<n/\∃i i9 H',Inv X pins i9 H' s7/\tn i s7.heap/\(∀b∈fp,H' b=cR)/\W i m i9 H':=λ{z O} Y n7=>by obtain⟨m',hm,w7⟩:=hN z O n7;refine⟨m',hm,i+1,z,O,Y.LZ,T.keep _ _ _ a8 λb hb o e=>(Y.pin (b,o)<|Pb _<|Pb _<|yX hb e).1,λb hb=>?_,w7⟩;obtain⟨o,e,d⟩:=T.obj _ _ a8 b hb;exact(Y.pin (b,o)<|Pb _<|Pb _<|yX hb e).2.1
  cases f with
  | next=>obtain⟨z,O,Y,n7⟩:=q7;exact again Y n7
  | cont=>obtain⟨z,O,Y,n7⟩:=q7;exact again Y n7
  | brk=>obtain⟨z,O,Y,q7⟩:=q7;exact⟨z,O,Y.LZ,q7⟩
  | ret v=>obtain⟨x7,z,O,Y,r7,q7⟩:=q7;exact⟨x7,z,O,Y.LZ,r7,q7⟩
end
abbrev R2:=V->V->Hp->VK->Prop
def n4(X:Cx)(f:fm->fm->Sem fm)(r:R2):Prop:=
 ∀(pins:TW) (s:gx) (σ:St) (H:Hp) (x y:V) (v u:fm) (Q:VK),Inv X pins σ H s->RelV x v->RelV y u->r x y H Q->
  wpAny (gv X.prog X.w) X.A (f v u) (EP X pins σ Q) X.xe s
def P9(X:Cx)(f:fm->Sem fm)(r:V->Hp->VK->Prop):Prop:=
 ∀(pins:TW) (s:gx) (σ:St) (H:Hp) (x:V) (v:fm) (Q:VK),Inv X pins σ H s->RelV x v->r x H Q->
  wpAny (gv X.prog X.w) X.A (f v) (EP X pins σ Q) X.xe s
def Zv(X:Cx)(f:fm)(r:List V->Hp->VK->Prop):Prop:=
 ∀(pins:TW) (s:gx) (σ:St) (H:Hp) (xs:List V) (us:List fm) (Q:VK),Inv X pins σ H s->i8 xs us->r xs H Q->
  wpAny (gv X.prog X.w) X.A (call f us) (EP X pins σ Q) X.xe s
def Nb(X:Cx)(r:V->Hp->(Bool->Hp->Prop)->Prop):Prop:=
 ∀(pins:TW) (s:gx) (σ:St) (H:Hp) (x:V) (v:fm) (Q:Bool->Hp->Prop),Inv X pins σ H s->RelV x v->r x H Q->
  wpAny (gv X.prog X.w) X.A (LY v) (TP X pins σ Q) X.xe s
def GH(r:R2)(ta tb:TE):TE:=λσ H Q=>ta σ H λx H1=>tb σ H1 λy H2=>r x y H2 Q
def W?(r:V->Hp->VK->Prop)(ta:TE):TE:=λσ H Q=>ta σ H λx H1=>r x H1 Q
def rI(C:Int->Int->Prop)(g:Int->Int->V):R2:=λx y H Q=>∃i j,x = .int i/\y = .int j/\C i j/\Q (g i j) H
def C2(g:Int->Int->V):R2:=λx y H Q=>∃i j,x = .int i/\y = .int j/\Q (g i j) H
def rU(g:Int->V):V->Hp->VK->Prop:=λx H Q=>∃i,x = .int i/\Q (g i) H
section
variable{X:Cx}{a b c:f7}{ta tb tc:TE}{pos:kr}
theorem IC(ha:PE X a ta)(hb:PE X b tb){pins:TW}{s:gx}{σ:St}{H:Hp}{R:V->V->Hp->Prop}(I:Inv X pins σ H s)
 (h:ta σ H λx H1=>tb σ H1 λy H2=>R x y H2) {Q:EQ} {f:fm->fm->Sem fm}
 (O : ∀v u s2 x y H2,Inv X pins σ H2 s2->RelV x v->RelV y u->R x y H2->wpAny (gv X.prog X.w) X.A (f v u) Q X.xe s2) :
 wpAny (gv X.prog X.w) X.A (f9 a X.env) (λv Y=>wpAny (gv X.prog X.w) X.A (f9 b X.env) (λu T?=>wpAny (gv X.prog X.w) X.A (f v u) Q X.xe T?) X.xe Y) X.xe s:=by
 refine ip (ha pins s σ H _ I h) λv s1 z=>?_;obtain⟨x,H1,I1,r1,q1⟩:=z;refine ip (hb pins s1 σ H1 _ I1 q1) λu s2 z=>?_;obtain⟨y,H2,I2,r2,q2⟩:=z;exact O v u s2 x y H2 I2 r1 r2 q2
theorem uJ{z:Operator}{r:R2}(O:n4 X (Df z) r)(ha:PE X a ta)(hb:PE X b tb):PE X (.BinOp a z b pos) (GH r ta tb):=by intro pins s σ H Q I h;exact wpAny_BinOp<|IC ha hb I h λv u s2 x y H2 Y rx ry q=>O pins s2 σ H2 x y v u Q Y rx ry q
theorem HH(z:P9 X (unaryOp op) r)(ha:PE X a ta):PE X (.UnaryOp op a pos) (W? r ta):=by intro pins s σ H Q I h;exact UnaryOp_<|ip (ha pins s σ H _ I h) λv s1 ⟨x,H1,O,Y,q1⟩=>z pins s1 σ H1 x v Q O Y q1
theorem M9{f:fm->fm->Sem fm}{C:Int->Int->Prop}{g:Int->Int->Int}
 (rule : ∀(i j:Int) (t u:z8) (s:gx) (Q:EQ) (E:EQ),C i j->Q (.int (g i j) s.toks) {s with toks:=s.toks+1}->wpAny (gv X.prog X.w) X.A (f (.int i t)<|.int j u) Q E s) :
 n4 X f (rI C λi j=> .int (g i j)):=by
 intro pins s σ H x y v u Q I rx z h;obtain⟨i,j,rfl,rfl,O,q⟩:=h;obtain⟨t,rfl⟩:=rx;obtain⟨t',rfl⟩:=z;exact rule i j t t' s _ _ O ⟨.int<|g i j,H,I.tok _,⟨_,rfl⟩,q⟩
theorem LA{f:fm->fm->Sem fm}{g:Int->Int->Int}
 (rule : ∀(i j:Int) (t u:z8) (s:gx) (Q:EQ) (E:EQ),Q (.int (g i j) s.toks) {s with toks:=s.toks+1}->wpAny (gv X.prog X.w) X.A (f (.int i t)<|.int j u) Q E s) :
 n4 X f (C2 λi j=> .int (g i j)):=by
 intro pins s σ H x y v u Q I rx z h;obtain⟨i,j,rfl,rfl,q⟩:=h;obtain⟨t,rfl⟩:=rx;obtain⟨t',rfl⟩:=z;exact rule i j t t' s _ _ ⟨.int<|g i j,H,I.tok _,⟨_,rfl⟩,q⟩
theorem HK{f:fm->fm->Sem fm}{g:Int->Int->Bool}
 (rule : ∀(i j:Int) (t u:z8) (s:gx) (Q:EQ) (E:EQ),Q (.bool<|g i j) s->wpAny (gv X.prog X.w) X.A (f (.int i t)<|.int j u) Q E s) :
 n4 X f (C2 λi j=> .bl (g i j)):=by
 intro pins s σ H x y v u Q I rx z h;obtain⟨i,j,rfl,rfl,q⟩:=h;obtain⟨t,rfl⟩:=rx;obtain⟨t',rfl⟩:=z;exact rule i j t t' s _ _ ⟨.bl<|g i j,H,I,rfl,q⟩
def Mo(i j:Int):Prop:=0<j/\j<1073741824
def Mn(i j:Int):Prop:=0<=j/\j<=1000000/\i.natAbs<2 ^ 64
def G6(i j:Int):Prop:=(-(2 ^ 64)<i/\i<2 ^ 64)\/(-(2 ^ 64)<j/\j<2 ^ 64)
theorem G6.ok(h:G6 i j):IntMulOk i j:=by
 rcases h with⟨h1,h2⟩ | ⟨h1,h2⟩
 ·exact .of_left<|intBits_le_64 h1 h2
 ·exact .of_right<|intBits_le_64 h1 h2
theorem G?:n4 X (Df .Add) (C2 λi j=> .int (i+j)):=LA λ_ _ _ _ _ _ _ q=>add_int q
theorem CV:n4 X (Df .Sub) (C2 λi j=> .int (i - j)):=LA λ_ _ _ _ _ _ _ q=>sub_int q
theorem H?:n4 X (Df .Mult) (rI G6 λi j=> .int (i*j)):=M9 λ_ _ _ _ _ _ _ z q=>mul_int q z.ok
theorem uV:n4 X (Df .FloorDiv) (rI Mo λi j=> .int (i/j)):=M9 λi j _ _ _ _ _ z q=>by have h1:(0:Int)<j:=z.1;have h2:j<1073741824:=z.2;exact floordiv_int ⋯ (by rw[Int.fdiv_eq_ediv_of_nonneg i ⋯];exact q)<|.inl<|PyProof.noPylong_small ⋯
theorem Ea:n4 X (Df .Mod) (rI (λ_ j=>0<j) λi j=> .int (i%j)):=M9 λi j _ _ _ _ _ z q=>by have h1:(0:Int)<j:=z;exact mod_int' ⋯ (by rw[Int.fmod_eq_emod_of_nonneg i ⋯];exact q)
theorem CY:n4 X (Df .Pow) (rI Mn λi j=> .int (i ^ j.toNat)):=M9 λ_ _ _ _ _ _ _ z q=>pow_int_small z.1 z.2.1 z.2.2 q
theorem Z?{f:fm->Sem fm}{g:Int->Int}
 (rule : ∀(i:Int) (t:z8) (s:gx) (Q:EQ) (E:EQ),Q (.int (g i) s.toks) {s with toks:=s.toks+1}->wpAny (gv X.prog X.w) X.A (f<|.int i t) Q E s) :
 P9 X f (rU λi=> .int (g i)):=by
 intro pins s σ H x v Q I rx h;obtain⟨i,rfl,q⟩:=h;obtain⟨t,rfl⟩:=rx;exact rule i t s _ _ ⟨.int<|g i,H,I.tok _,⟨_,rfl⟩,q⟩
theorem BF:P9 X (unaryOp .USub) (rU λi=> .int (-i)):=Z? λ_ _ _ _ _ q=>neg_int q
end
def Mw:V->V->Bool
 | .i5,.i5=>cL | .i5,.int _=>cL | .int _,.i5=>cL | .i5,.bl _=>cL | .bl _,.i5=>cL | .i5,.str _=>cL | .str _,.i5=>cL
 | .int _,.int _=>cL | .bl _,.bl _=>cL | .str _,.str _=>cL | .Dg _,.Dg _=>cL
 | .int _,.str _=>cL | .str _,.int _=>cL | .bl _,.str _=>cL | .str _,.bl _=>cL
 | _,_=>d7
def _j:R2:=λx y H Q=>Mw x y=cL/\Q (.bl<|decide<|x=y) H
theorem AE:decide (V.int i=V.int j)=(i==j):=by rw[Pn];simp
theorem Fj:decide (V.bl i=V.bl j)=(i==j):=by rw[Pn];simp
theorem AD:decide (V.str i=V.str j)=(i==j):=by rw[Pn];simp
theorem AF:decide (V.Dg i=V.Dg j)=(i.toList==j.toList):=by rw[Pn];cases i;cases j;simp
section
variable{X:Cx}{a b c:f7}{ta tb tc:TE}{pos:kr}
theorem xZ(I:Inv X pins σ H s)(q:Q (.bl k) H)(e:k=k'):EP X pins σ Q (.bool k') s:=by subst e;exact⟨.bl k,H,I,rfl,q⟩
theorem HJ:n4 X (wW .Eq) _j:=by
 intro pins s σ H x y v u Q I rx z h;obtain⟨hs,q⟩:=h;cases x with
 | i5=>
  cases rx;cases y with
  | i5=>cases z;exact PySem.EqNone.eq_none_none<|xZ I q ⋯
  | bl j=>cases z;exact PySem.EqNone.eq_none_bool<|xZ I q ⋯
  | int j=>obtain⟨t',rfl⟩:=z;exact PySem.EqNone.eq_none_int<|xZ I q ⋯
  | str j=>obtain⟨t',rfl⟩:=z;exact PySem.EqNone.eq_none_str<|xZ I q ⋯
  | _=>exact absurd (show d7=cL from hs) NM
 | bl i=>
  cases rx;cases y with
  | i5=>cases z;exact PySem.EqNone.eq_bool_none<|xZ I q ⋯
  | bl j=>cases z;exact eq_bool<|xZ I q Fj
  | str j=>obtain⟨t',rfl⟩:=z;exact PySem.EqMixed.eq_bool_str<|xZ I q ⋯
  | _=>exact absurd (show d7=cL from hs) NM
 | int i=>
  obtain⟨t,rfl⟩:=rx;cases y with
  | i5=>cases z;exact PySem.EqNone.eq_int_none<|xZ I q ⋯
  | int j=>obtain⟨t',rfl⟩:=z;exact eq_int<|xZ I q AE
  | str j=>obtain⟨t',rfl⟩:=z;exact PySem.EqMixed.eq_int_str<|xZ I q ⋯
  | _=>exact absurd (show d7=cL from hs) NM
 | str i=>
  obtain⟨t,rfl⟩:=rx;cases y with
  | i5=>cases z;exact PySem.EqNone.eq_str_none<|xZ I q ⋯
  | bl j=>cases z;exact PySem.EqMixed.eq_str_bool<|xZ I q ⋯
  | int j=>obtain⟨t',rfl⟩:=z;exact PySem.EqMixed.eq_str_int<|xZ I q ⋯
  | str j=>obtain⟨t',rfl⟩:=z;exact eq_str<|xZ I q AD
  | _=>exact absurd (show d7=cL from hs) NM
 | Dg i=>
  obtain⟨t,rfl⟩:=rx;cases y with
  | Dg j=>obtain⟨t',rfl⟩:=z;exact PySem.W.eq_bytes<|xZ I q AF
  | _=>exact absurd (show d7=cL from hs) NM
 | _=>cases y<;>exact absurd (show d7=cL from hs) NM
theorem uU:n4 X (wW .Lt) (C2 λi j=> .bl (decide<|i<j)):=HK λ_ _ _ _ _ _ _ q=>lt_int q
theorem cK:n4 X (wW .LtE) (C2 λi j=> .bl (decide<|i<=j)):=HK λ_ _ _ _ _ _ _ q=>le_int q
theorem Eb:n4 X (wW .Gt) (C2 λi j=> .bl (decide<|j<i)):=HK λ_ _ _ _ _ _ _ q=>gt_int q
theorem n4.or(h:n4 X f r)(h':n4 X f r'):n4 X f (λx y H Q=>r x y H Q\/r' x y H Q):=by
 intro pins s σ H x y v u Q I rx z q;rcases q with q | q
 ·exact h pins s σ H x y v u Q I rx z q
 ·exact h' pins s σ H x y v u Q I rx z q
theorem Xg(b:f7)(h:op ≠ .In:=by decide)(h2:op ≠ .NotIn:=by decide):DG op b=d7:=by
 have e1:(op==CmpOp.In)=d7:=by cases op<;>first | rfl | exact absurd rfl h
 have e2:(op==CmpOp.NotIn)=d7:=by cases op<;>first | rfl | exact absurd rfl h2
 cases b<;>simp[DG,e1,e2]
theorem uP{z:CmpOp}{r:R2}(O:n4 X (wW z) r)(ha:PE X a ta)(hb:PE X b tb)(hm:DG z b=d7):PE X (.Compare a [z] [b] pos) (GH r ta tb):=by intro pins s σ H Q I h;exact wpAny_Compare1 (IC ha hb I h λv u s2 x y H2 Y rx ry q=>O pins s2 σ H2 x y v u Q Y rx ry q) hm
def tG(t:TE):TT:=λσ H Q=>t σ H λx H'=>∃k,x = .bl k/\Q k H'
theorem VC(O:n4 X (wW op) r)(ha:PE X a ta)(hb:PE X b tb)(hm:DG op b=d7):PT X (.Compare a [op] [b] pos) (tG<|GH r ta tb):=by
 intro pins s σ H Q I h;refine zak (ip (ha pins s σ H _ I h) λv s1 ⟨x,H1,Y,r1,q1⟩=>ip (hb pins s1 σ H1 _ Y q1) λu s2 ⟨y,H2,I2,r2,q2⟩=>
  ip (O pins s2 σ H2 x y v u _ I2 r1 r2 q2) λc s3 ⟨z,H3,I3,r3,k,e,q3⟩=>?_) hm
 subst e;cases r3;exact Py ⟨H3,I3,q3⟩
def rl(r r':R2)(ta tb tc:TE):TE:=λσ H Q=>ta σ H λx H1=>tb σ H1 λy H2=>r x y H2 λz I=>∃k,z = .bl k/\
 (if k=cL then tc σ I λw' O=>r' y w' O Q else Q (.bl d7) I)
theorem nY(ho:n4 X (wW op) r)(a2:n4 X (wW LV) r')(ha:PE X a ta)(hb:PE X b tb)(hc:PE X c tc)
 (hm:T7 [op,LV] [b,c]=d7:=by with_unfolding_all rfl):PE X (.Compare a [op,LV] [b,c] pos) (rl r r' ta tb tc):=by
 intro pins s σ H Q I h;refine Compare_chain (ip (ha pins s σ H _ I h) λv s1 ⟨x,H1,I1,r1,q1⟩=>chain_link (ip (hb pins s1 σ H1 _ I1 q1) λu s2 ⟨y,H2,I2,r2,q2⟩=>
  ip (ho pins s2 σ H2 x y v u _ I2 r1 r2 q2) λd s3 ⟨z,O,Y,r3,k,e,q3⟩=>?_)) hm
 subst e;cases r3;refine Py ?_;cases k with
 | false=>exact ite_ff ⟨.bl d7,O,Y,rfl,q3⟩
 | true=>exact ite_tt<|chain_last<|ip (hc pins s3 σ O _ Y q3) λw' s4 ⟨z',H4,I4,r4,q4⟩=>a2 pins s4 σ H4 y z' u w' Q I4 r2 r4 q4
theorem nJ{O Y:CmpOp}{r r':R2}(ho:n4 X (wW O) r)(a4:n4 X (wW Y) r')(ha:PE X a ta)(hb:PE X b tb)(hc:PE X c tc)
 (hm:T7 [O,Y] [b,c]=d7:=by with_unfolding_all rfl):PT X (.Compare a [O,Y] [b,c] pos) (tG<|rl r r' ta tb tc):=by
 intro pins s σ H Q I h;refine isTrue_chain (ip (ha pins s σ H _ I h) λv s1 ⟨x,H1,I1,r1,q1⟩=>test_link (ip (hb pins s1 σ H1 _ I1 q1) λu s2 ⟨y,H2,I2,r2,q2⟩=>
  ip (ho pins s2 σ H2 x y v u _ I2 r1 r2 q2) λd s3 ⟨z,H3,I3,r3,k,e,q3⟩=>?_)) hm
 subst e;cases r3;refine Py ?_;cases k with
 | false=>
  obtain⟨k',e',q'⟩:=q3;cases e';exact ite_ff ⟨H3,I3,q'⟩
 | true=>
  refine ite_tt<|test_last<|ip (hc pins s3 σ H3 _ I3 q3) λw' s4 ⟨z',H4,I4,r4,q4⟩=>ip (a4 pins s4 σ H4 y z' u w' _ I4 r2 r4 q4) λd' s5 ⟨z2,H5,I5,r5,k2,e2,q5⟩=>?_;subst e2;cases r5;exact Py ⟨H5,I5,q5⟩
def Mg(K:Nr)(x:V)(H:Hp)(k:Bool):Prop:=
 match x with
 | .i5=>k=d7
 | .bl b=>k=b
 | .int i=>k=(i != 0)
 | .str y=>y.length<=kv/\k=((y.length:Int) != 0)
 | .Dg y=>y.size<=kv/\k=((y.size:Int) != 0)
 | .ref p=>(∃xs,lK K H p xs/\k = !xs.isEmpty)\/(∃xs,k0 K H p xs/\k = !xs.isEmpty)\/∃hJ,H p=cI (.dK hJ)/\k = !hJ.isEmpty
 | _=>False
theorem dg(r:KV hJ vs):(!vs.isEmpty) = !hJ.isEmpty:=by cases r<;>rfl
theorem Xp(r:i8 xs y?):(!y?.toArray.isEmpty) = !xs.isEmpty:=by cases r<;>simp
theorem Jv:(kv:Nat)<2 ^ 63:=by rw[To];decide
theorem BH:Nb X (λx H Q=>∃k,Mg X.K x H k/\Q k H):=by
 intro pins s σ H x v Q I rx h;obtain⟨k,e,q⟩:=h;have hl:=Jv;have hs:kv=16777216:=To;cases x with
 | i5=>
  cases rx;have z:k=d7:=e;subst z;exact truthy_none ⟨H,I,q⟩
 | bl b=>
  cases rx;have z:k=b:=e;subst z;exact Py ⟨H,I,q⟩
 | int i=>
  obtain⟨t,rfl⟩:=rx;have z:k=(i != 0):=e;subst z;exact PySem.P.truthy_int ⟨H,I,q⟩
 | str y=>
  obtain⟨t,rfl⟩:=rx;obtain⟨Y,z⟩:y.length<=kv/\k=((y.length:Int) != 0):=e;subst z;exact PySem.P.truthy_str ⋯ ⟨H,I.tok _,q⟩
 | Dg y=>
  obtain⟨t,rfl⟩:=rx;obtain⟨Y,z⟩:y.size<=kv/\k=((y.size:Int) != 0):=e;subst z;exact PySem.W.truthy_bytes ⋯ ⟨H,I.tok _,q⟩
 | ref p=>
  cases rx;have z:(∃xs,lK X.K H p xs/\k = !xs.isEmpty)\/(∃xs,k0 X.K H p xs/\k = !xs.isEmpty)\/∃hJ,H p=cI (.dK hJ)/\k = !hJ.isEmpty:=e;rcases z with⟨xs,hx,z⟩ | ⟨xs,hx,z⟩ | ⟨hJ,hx,z⟩
  ·subst z
   obtain⟨a0,r,pl,hz⟩:=I.list hx;have O:=r.length;exact wpAny_truthy_list pl.isList (by simp only[NK];omega) ⟨H,I.tok _,by rw[Xp r];exact q⟩
  ·subst z
   obtain⟨a0,r,pl,hz⟩:=I.tuple hx;have O:=r.length;exact truthy_tuple pl (by simp only[NK];omega) ⟨H,I.tok _,by rw[Xp r];exact q⟩
  ·subst z
   obtain⟨hz,hS,vs,r,m⟩:hJ.length<=kv/\(p==C3)=d7/\∃vs,KV hJ vs/\s.heap.DictOf (qE X.prog X.w) p vs:=I.i7 p _ hx;have O:hJ.length=vs.length:=Paired.length r;exact wpAny_truthy_dict hS m ⋯ ⟨H,I.tok _,by rw[dg r];exact q⟩
 | _=>exact(show False from e).elim
theorem nI(ha:PE X a ta)(O : ∀z,Gz a X.env z=(do let v <- z;GD a.pos;Dk [v] (LY v))) :
 PT X a (λσ H Q=>ta σ H λx H'=>∃k,Mg X.K x H' k/\Q k H'):=by
 intro pins s σ H Q I h;exact isTrue_plain (ip (ha pins s σ H _ I h) λv s1 ⟨x,H1,Y,r1,q1⟩=>BH pins s1 σ H1 x v Q Y r1 q1)<|O _
theorem cM:n4 X (Df .Add) (λx y H Q=>∃i j,x = .str i/\y = .str j/\i.length+j.length<=kv/\Q (.str<|i++j) H):=by intro pins s σ H x y v u Q I rx z h;obtain⟨i,j,rfl,rfl,hz,q⟩:=h;obtain⟨t,rfl⟩:=rx;obtain⟨t',rfl⟩:=z;exact add_str (λt' O=>⟨.str<|i++j,H,I.tok _,⟨_,rfl⟩,q⟩) hz
theorem yw(r:i8 [x] us) : ∃u,us=[u]/\RelV x u:=by
 cases r with
 | cons z r2=>cases r2;exact⟨_,rfl,z⟩
theorem BD(r:i8 [x,y] us) : ∃u w',us=[u,w']/\RelV x u/\RelV y w':=by
 cases r with
 | cons z r2=>
  cases r2 with
  | cons I O=>cases O;exact⟨_,_,rfl,z,I⟩
theorem lx(O:X.calm=cL):Zv X (.builtin "min") (λxs H Q=>∃i j,xs=[.int i,.int j]/\Q (.int (if j<i then j else i)) H):=by
 intro pins s σ H xs us Q I r h;obtain⟨i,j,rfl,q⟩:=h;obtain⟨u,w',rfl,⟨t,rfl⟩,⟨t',rfl⟩⟩:=BD r;refine min_two_ints (I.ok.hd O) λh' Y k=>⟨_,H,I.kept k,?_,q⟩;by_cases z:j<i
 ·rw[DZ z,DZ z];exact⟨_,rfl⟩
 ·rw[DJ z,DJ z];exact⟨_,rfl⟩
theorem ly:Zv X (.type "int") (λxs H Q=>(∃i,xs=[.int i]/\Q (.int i) H)\/∃k,xs=[.bl k]/\Q (.int (if k then 1 else 0)) H):=by
 intro pins s σ H xs us Q I r h;rcases h with⟨i,rfl,q⟩ | ⟨k,rfl,q⟩
 ·obtain⟨u,rfl,t,rfl⟩:=yw r
  exact call_int_int ⟨.int i,H,I,⟨_,rfl⟩,q⟩
 ·obtain⟨u,rfl,z⟩:=yw r
  cases z;exact call_int_bool ⟨.int<|if k then 1 else 0,H,I.tok _,⟨_,rfl⟩,q⟩
end
structure Gh(h:je)(x dx C:d8)(mA:DX):Prop where
 obj:h.get? x=cI (RA C dx)
 ns:h.Ns1 dx mA
 ne:dx≠x
theorem gT{h:je}{dx:d8}{mA:DX}(n:h.Ns1 dx mA) : ∃od,h.get? dx=cI od/\∀name,TZ name od=cI (mA name):=by
 obtain⟨o,es,ep,I,hd,hk,_,hm⟩:=n;refine⟨o,I,λname=>?_⟩;have e:=hm name;unfold nsFind findBy at e;rw[<- Array.find?_toList]at e;unfold TZ;rw[hd];dsimp only;split
 ·rename_i y q
  rw[q]at e;exact congrArg cI e
 ·rename_i q
  rw[q]at e;have a:es.toList.any (·.refKey)=d7:=by rw[List.any_eq_false];intro y O;obtain⟨z,t,Y⟩:=hk y<|Array.mem_toList_iff.mp O;simp[DictEntry.refKey,Y]
  have a' : ¬es.toList.any (·.refKey)=cL:=by rw[a];exact NM
  rw[DJ a'];exact congrArg cI e
theorem Gh.look(I:Gh h x dx C mA) : ∃od,PySem.W.InstAt h x (RA C dx) C (cI od)/\∀name,TZ name od=cI (mA name):=
 let ⟨od,z,O⟩:=gT I.ns
 ⟨od,⟨I.obj,rfl,rfl,z⟩,O⟩
section
variable{prog:m4}{w:l0}{A:p4}{E:EQ}{s:gx}{K:Nr}{x dx C f:d8}{mA:DX}{name:Str}{v:fm}
theorem Au(X:K.In s.heap)(I:Gh s.heap x dx C mA)(z:L7 K C name=cL)(O:Ta K C=cL)
 (ha:OE K (.ref C) name=cI cR) (Y:mA name=cI v) (a0:PySem.W.handedIn v=cL) (h:Q v {s with toks:=s.toks+1}) :
 wpAny (gv prog w) A (getAttr (.ref x) name expr) Q E s:=by
 obtain⟨od,J,hl⟩:=I.look;exact PySem.W.get_value X J (Ub z).1 (PySem.W.findObj_own O ha rfl<|by rw[hl,Y]) a0 h
theorem pk(X:K.In s.heap)(I:Gh s.heap x dx C mA)(z:L7 K C name=cL)
 (O:OE K (.ref C) name=cI (cI (.ref f))) (Y:SW K (.ref f)=cL) (hv:mA name=cR) (h:Q (.ref f,[.ref x]) s) :
 wpAny (gv prog w) A (S8 (.ref x) name pl) Q E s:=by
 obtain⟨od,J,hl⟩:=I.look;exact PySem.W.method_fn X J (Ub z).1 (Ub z).2 O (beq_iff_eq.mp Y) (by show(TZ name od).map (·.isSome)=cI d7;rw[hl,hv];rfl) h
theorem uc(X:K.In s.heap)(I:Gh s.heap x dx C mA)
 (hs:OE K (.ref C) "__setattr__" = cI (cI (.builtin "object.__setattr__"))) (Y:Ur K C=cL) (ht:PySem.W.takerIn K C name=cI cR) (hh:Ta K C=cL)
 (hw:UE mA ns) (hsz:ns.length<=kv)
 (h : ∀h',Gh h' x dx C (λy=>if y=name then cI v else mA y)->PM dx s.heap h'->Q () {s with heap:=h',toks:=s.toks+2}) :
 wpAny (gv prog w) A (setAttr (.ref x) name v) Q E s:=by
 obtain⟨od,J,hl⟩:=I.look;refine PySem.W.set_plain X J hs<|PySem.W.osa_open (s:={s with toks:=s.toks+1}) (r:=cR) X J Y ht λb=>?_;obtain⟨cd,hc,a3⟩:=PySem.W.any_some hh;have hx:s.heap.get? x=cI ⟨.ref C,cI dx,.plain,#[]⟩:=I.obj;refine Nt<|Nz<|Nt<|Nt<|wpAny_loadPart hx<|Nt<|PySem.W.Looks.here (s:={s with toks:=s.toks+1}) (PySem.W.looks_clsIn X hc) ?_;rw[a3];refine Nz (a:=cI dx)<|Nt<|Nz<|Nt ?_;refine wpAny_nsSet1 (s:={s with toks:=s.toks+1}) I.ns λh' z O=>?_;obtain⟨oD,a9,aa,a4,a5,a6⟩:=z.count<|UE.cons name v hw;refine Nt<|wpAny_lookBehind a4 (by rw[a5];exact pastItsLine_dict<|OH a6<|by rw[Od];omega) ?_;exact Nz<|h _ ⟨(O.2 _<|OQ I.ne).trans I.obj,z,I.ne⟩ O
theorem oE(X:K.In s.heap)(hm:TF K C=cL)
 (hi:OE K (.ref C) "__init__" = cI (cI (.ref f))) (z:PySem.W.typeIn K (.ref f)=cI (.type "function"))
 (h:codeAny (gv prog w) (A.under (.builtin "type.__call__" ⟨.ref C::vs,kw⟩)) (.call (.ref f) ⟨.ref (s.heap.objs.size+1)::vs,kw⟩) (PySem.W.InitBack (s.heap.objs.size+1) R)
   {s with heap:=(s.heap.push PN).push (RA C s.heap.objs.size)}) :
 codeAny (gv prog w) A (.call (.ref C) ⟨vs,kw⟩) R s:=by
 obtain⟨I,g,d,t,os⟩:=s;exact PySem.W.make_core (PySem.W.makes_of X hm) (PySem.W.looks_findIn X hi) (λself=>PySem.W.bind_fn X self z) (.inl rfl) h
end
def X3(f:Str)(v:V):List (Str×V)->List (Str×V)
 | []=>[(f,v)]
 | (g,x)::r=>if g=f then (g,v)::r else (g,x)::X3 f v r
theorem qF(f g:Str)(v:V) : ∀fs:List (Str×V),(X3 f v fs).lookup g=if g=f then cI v else fs.lookup g
 | []=>by
  show Su g [(f,v)]=_;by_cases h:g=f
  ·have hb:(g==f)=cL:=beq_iff_eq.mpr h
   simp only[Su,hb,DZ h]
  ·have hb:(g==f)=d7:=beq_eq_false_iff_ne.mpr h
   simp only[Su,hb,DJ h]
 | (k,x)::r=>by
  have z:=qF f g v r;rw[show X3 f v ((k,x)::r)=(if k=f then (k,v)::r else (k,x)::X3 f v r)from rfl];by_cases hk:k=f
  ·rw[DZ hk]
   by_cases h:g=k
   ·have hb:(g==k)=cL:=beq_iff_eq.mpr h
    simp only[Su,hb,DZ (h.trans hk)]
   ·have hb:(g==k)=d7:=beq_eq_false_iff_ne.mpr h
    simp only[Su,hb,DJ (λe:g=f=>h<|e.trans hk.symm)]
  ·rw[DJ hk]
   by_cases h:g=k
   ·have hb:(g==k)=cL:=beq_iff_eq.mpr h
    simp only[Su,hb,DJ (λe:g=f=>hk<|h.symm.trans e)]
   ·have hb:(g==k)=d7:=beq_eq_false_iff_ne.mpr h
    simp only[Su,hb];exact z
theorem Jx(f:Str)(v:V) : ∀fs:List (Str×V),f∈(X3 f v fs).map (·.1)/\∀g,g∈fs.map (·.1)->g∈(X3 f v fs).map (·.1)
 | []=>⟨by simp[X3],λg h=>by simp at h⟩
 | (k,x)::r=>by
  obtain⟨z,I⟩:=Jx f v r;rw[show X3 f v ((k,x)::r)=(if k=f then (k,v)::r else (k,x)::X3 f v r)from rfl];by_cases hk:k=f
  ·rw[DZ hk]
   subst hk;exact⟨by simp,λg h=>by simpa using h⟩
  ·rw[DJ hk]
   refine⟨?_,λg h=>?_⟩
   ·rw[NY]
    exact NN _ z
   ·rw[NY]at h ⊢
    rcases NP.mp h with e | e
    ·exact NP.mpr<|.inl e
    ·exact NN _<|I g e
theorem Jw(f:Str)(v:V) : ∀fs:List (Str×V),(X3 f v fs).length<=fs.length+1
 | []=>by simp[X3]
 | (k,x)::r=>by
  have z:=Jw f v r;rw[show X3 f v ((k,x)::r)=(if k=f then (k,v)::r else (k,x)::X3 f v r)from rfl];by_cases hk:k=f
  ·rw[DZ hk,Od,Od];omega
  ·rw[DJ hk,Od,Od];omega
theorem A4.some_of(r:A4 (cI v) o) : ∃u,o=cI u/\RelV v u:=by
 cases o with
 | none=>exact(show False from r).elim
 | some u=>exact⟨u,rfl,r⟩
theorem A4.none_of(r:A4 cR o):o=cR:=by
 cases o with
 | none=>rfl
 | some u=>exact(show False from r).elim
theorem iD(r:RelV v u):PySem.W.handedIn u=cL:=by
 cases v with
 | i5=>cases (show u=Oy from r);rfl
 | bl b=>cases (show u=UB b from r);rfl
 | int i=>obtain⟨t,e⟩:=(show ∃t,u=TV i t from r);cases e;rfl
 | str x=>obtain⟨t,e⟩:=(show ∃t,u=TU x t from r);cases e;rfl
 | Dg b=>obtain⟨t,e⟩:=(show ∃t,u=Value.bytes b t from r);cases e;rfl
 | Gv b=>obtain⟨t,e⟩:=(show ∃t,u=Value.float b t from r);cases e;rfl
 | ref a=>cases (show u=Of a from r);rfl
 | ty n=>cases (show u=RB n from r);rfl
section
variable{P:m4}{w:l0}{H H':Hp}{h h':je}{a C dx:d8}{fs La:List (Str×V)}
theorem Km(i7:p6 P w H h)(e:H a=cI (.ins C dx fs)) : ∃mA,Gh h a dx C mA/\(∀f,A4 (fs.lookup f)<|mA f)/\UE mA (fs.map (·.1))/\fs.length<=1000/\H dx=cI (.own a):=by obtain⟨d,z,ne,I,mA,n,r,q⟩:=(show oi P w H h a (.ins C dx fs)from i7 a _ e);exact⟨mA,⟨I,n,ne⟩,r,q,z,d⟩
end
structure DB(K:Nr)(C:d8):Prop where
 pg:L7 K C Str.empty=cL
 hd:Ta K C=cL
 po:Ur K C=cL
 sa:OE K (.ref C) "__setattr__" = cI (cI (.builtin "object.__setattr__"))
theorem DB.get{K:Nr}{C:d8}(c:DB K C)(f:Str):L7 K C f=cL:=c.pg
def FW(K:Nr)(C:d8)(f:Str):Prop:=OE K (.ref C) f=cI cR
theorem FW.X?{K:Nr}{C:d8}{f:Str}(n:FW K C f):PySem.W.takerIn K C f=cI cR:=by unfold PySem.W.takerIn;rw[show OE K (.ref C) f=cI cR from n];rfl
structure IT(K:Nr)(C:d8)(m:Str)(f:d8):Prop where
 at_:OE K (.ref C) m=cI (cI (.ref f))
 fn:SW K (.ref f)=cL
 kp:Pd K (.ref f)=cL
section
variable{X:Cx}{pins:TW}{σ:St}{H:Hp}{s:gx}{a C dx:d8}{fs:List (Str×V)}{f:Str}{v:V}{A:p4}{E:EQ}
theorem dm(I:Inv X pins σ H s)(e:H a=cI (.ins C dx fs))(c:DB X.K C)(n:FW X.K C f)(l:fs.lookup f=cI v)
 (h : ∀u s',Inv X pins σ H s'->RelV v u->Q u s'):wpAny (gv X.prog X.w) A (getAttr (.ref a) f b) Q E s:=by
 obtain⟨mA,O,r,_,_,_⟩:=Km I.i7 e;obtain⟨u,Y,z⟩:=A4.some_of (v:=v) (o:=mA f) (by rw[<- l];exact r f);exact Au I.pK O (c.get f) c.hd n Y (iD z)<|h u _ (I.tok _) z
theorem dk(I:Inv X pins σ H s)(e:H a=cI (.ins C dx fs))(c:DB X.K C)(k:IT X.K C m g)(l:fs.lookup m=cR)
 (h:Q (.ref g,[.ref a]) s):wpAny (gv X.prog X.w) A (S8 (.ref a) m pl) Q E s:=by
 obtain⟨mA,O,r,_,_,_⟩:=Km I.i7 e;have hn:mA m=cR:=A4.none_of (by rw[<- l];exact r m);exact pk I.pK O (c.get m) k.at_ k.fn hn h
theorem cc(I:Inv X pins σ H s)(e:H a=cI (.ins C dx fs))(c:DB X.K C)(n:FW X.K C f)(hl:fs.length<1000)(ry:RelV y u)
 (h : ∀s',Inv X pins σ (upd H a<|.ins C dx<|X3 f y fs) s'->Q () s'):wpAny (gv X.prog X.w) A (setAttr (.ref a) f u) Q E s:=by
 obtain⟨mA,O,r,wi,_,ho⟩:=Km I.i7 e;have hz:(fs.map (·.1)).length<=kv:=by rw[NV,To];omega
 refine uc I.pK O c.sa c.po n.X? c.hd wi hz λh' Y sb=>h _ ?_;have hd : ∃o,h'.get? dx=cI o:=let ⟨o,_,_,e',_⟩:=Y.ns;⟨o,e'⟩;refine I.write (x:=a) (e:=dx) (by rw[e];exact OR) (.inr ho) (λb q hb z=>(sb.2 b hb).trans z) hd ?_;refine⟨by rw[zH O.ne];exact ho,?_,O.ne,Y.obj,_,Y.ns,λg=>?_,λg hg=>?_⟩
 ·have:=Jw f y fs;omega
 ·show A4 ((X3 f y fs).lookup g) (if g=f then cI u else mA g)
  rw[qF];by_cases q:g=f
  ·rw[DZ q,DZ q];exact ry
  ·rw[DJ q,DJ q];exact r g
 ·by_cases q:g=f
  ·rw[q];exact(Jx f y fs).1
  ·refine(Jx f y fs).2 g (wi g λz=>hg ?_)
   show(if g=f then cI u else mA g)=cR;rw[DJ q];exact z
theorem Inv.made(I:Inv X pins σ H s):Inv X pins σ (upd (upd H s.heap.objs.size<|.own<|s.heap.objs.size+1) (s.heap.objs.size+1)<|.ins C s.heap.objs.size [])
 {s with heap:=(s.heap.push PN).push (RA C s.heap.objs.size)}:=by
 have e1:(s.heap.push PN).get? s.heap.objs.size=cI PN:=NO s.heap rfl;have e2:((s.heap.push PN).push (RA C s.heap.objs.size)).get? (s.heap.objs.size+1)=cI (RA C s.heap.objs.size):=by
  have:=NO (s.heap.push PN) (o:=RA C s.heap.objs.size) rfl
  rwa [OB]at this
 have z:(s.heap.push PN).Ns s.heap.objs.size (λ_=>cR):=⟨PN,#[],_,e1,rfl,(λe O=>absurd O ⋯),λ_=>rfl⟩;have Y:=I.laid (a:=s.heap.objs.size) (o:= .own (s.heap.objs.size+1)) (h':=s.heap.push PN) (t':=s.toks) (λb u q=>Nv _ q) (NJ _) ⟨_,e1⟩;refine Y.laid (a:=s.heap.objs.size+1) (o:= .ins C s.heap.objs.size []) (t':=s.toks) (λb u q=>Nv _ q) (Nat.le_of_eq<|OB _ _) ?_;have ne:s.heap.objs.size≠s.heap.objs.size+1:=Oa<|OW _;refine⟨by rw[zH ne,zC],Pf _,ne,e2,λ_=>cR,(Heap.Ns1.of_empty z).at λo q=>Nv _ q,λ_=>OR,λy hy=>absurd rfl hy⟩
theorem AV(hb:DF e f env (f9 e env)=f9 e env)
 (h:wpAny (gv prog w) A (f9 e env) (λo z=>wpAny (gv prog w) A (getAttr o f cL) Q E z) E s):wpAny (gv prog w) A (f9 (.Attribute e f pos) env) Q E s:=
 Attribute_any_ h (by rw[arm_eval_Attribute,hb])
end
def Hc(K:Nr)(ta:TE)(f:Str):TE:=λσ H Q=>ta σ H λx H1=>∃a C dx fs v,x = .ref a/\H1 a=cI (.ins C dx fs)/\DB K C/\FW K C f/\fs.lookup f=cI v/\Q v H1
def Hu(K:Nr)(ta tv:TE)(f:Str):TS:=λD σ H=>tv σ H λy H1=>ta σ H1 λx H2=>∃a C dx fs,x = .ref a/\H2 a=cI (.ins C dx fs)/\DB K C/\FW K C f/\fs.length<1000/\
 D.nx σ (upd H2 a<|.ins C dx<|X3 f y fs)
section
variable{X:Cx}{o e value:f7}{f:Str}{pos pos' sX:kr}{ta tv:TE}
theorem aq(z:PE X e ta)(hb:DF e f X.env (f9 e X.env)=f9 e X.env):PE X (.Attribute e f pos) (Hc X.K ta f):=by intro pins s σ H Q I h;refine AV hb<|ip (z pins s σ H _ I h) λu s1 O=>?_;obtain⟨x,H1,Y,rx,a,C,dx,fs,v,ex,ea,c,n,l,q⟩:=O;subst ex;obtain rfl:u=Of a:=rx;exact dm Y ea c n l λu' s2 I2 ru=>⟨v,H1,I2,ru,q⟩
theorem rO(ha:PE X o ta)(z:PE X value tv)(hs:A8 value (cI (.Attribute o f pos')) pos.line X.env=pure d7):PS X (.Assign [.Attribute o f pos'] value pos) (Hu X.K ta tv f):=by intro pins s σ H D I h;refine plainObj_wpAny_Assign_Attribute (ip (z pins s σ H _ I h) λu s1 ⟨y,H1,O,Y,q⟩=>ip (ha pins s1 σ H1 _ O q) λov s2 ⟨x,H2,I2,rx,a,C,dx,fs,ex,ea,c,n,l,q2⟩=>?_) hs;subst ex;obtain rfl:ov=Of a:=rx;exact cc I2 ea c n l Y λs3 I3=>⟨σ,_,I3,q2⟩
end
section
variable{X:Cx}{pins:TW}{σ:St}{H:Hp}{s:gx}{A:p4}{E:EQ}{Q:EQ}{c:fm}{b:Bool}
inductive C9(K:Nr)(H:Hp):V->fm->Prop where
 | i5:C9 K H .i5 (.type "NoneType")
 | bl (x:Bool):C9 K H (.bl x) (.type "bool")
 | int (i:Int):C9 K H (.int i) (.type "int")
 | str (x:Str):C9 K H (.str x) (.type "str")
 | Gv (x:UInt64):C9 K H (.Gv x) (.type "float")
 | lst {a:d8} {xs:List V} (e:H a=cI (.lst xs)):C9 K H (.ref a) (.type "list")
 | B3 {a:d8} {o:o8} {xs:List V} (e:H a=cI (.B3 o (.lst xs))):C9 K H (.ref a) (.type "list")
 | tup {a:d8} {xs:List V} (e:H a=cI (.tup xs)):C9 K H (.ref a) (.type "tuple")
 | dK {a:d8} {hJ:List (Key×V)} (e:H a=cI (.dK hJ)):C9 K H (.ref a) (.type "dict")
 | dT {a:d8} {hJ:List (List Key×V)} (e:H a=cI (.dT hJ)):C9 K H (.ref a) (.type "dict")
 | ins {a C dx:d8} {fs:List (Str×V)} (e:H a=cI (.ins C dx fs)) (cl:DB K C) (ha:OE K (.ref C) "__class__" = cI (cI (.builtin "object.__class__")))
  (hn:PySem.W.specialIn K (.builtin "object.__class__") "__get__" = cI (cI (.builtin "getset_descriptor.__get__"))) (V_:PySem.W.takesIn K (.builtin "object.__class__")=cI cL)
  (hm:PySem.W.mroIn K C (.type "object")=cI cL):C9 K H (.ref a) (.ref C)
theorem iu(I:Inv X pins σ H s)(rx:RelV x u)(ty:C9 X.K H x t)(e:Se X.K t c=cI b)(h : ∀tk,Q (.bool b) {s with toks:=tk}) :
 wpAny (gv X.prog X.w) A (call (.builtin "isinstance") [u,c]) Q E s:=by
 cases ty with
 | i5=>cases (show u=Oy from rx);exact OG PySem.W.kitx_none I.pK OR e (λz=>nomatch z) h
 | bl y=>cases (show u=UB y from rx);exact OG PySem.W.kitx_bool I.pK OR e (λz=>nomatch z) h
 | int i=>obtain⟨t,q⟩:=(show ∃t,u=TV i t from rx);cases q;exact OG PySem.W.kitx_int I.pK OR e (λz=>nomatch z) h
 | str y=>obtain⟨t,q⟩:=(show ∃t,u=TU y t from rx);cases q;exact OG PySem.W.kitx_str I.pK OR e (λz=>nomatch z) h
 | Gv y=>obtain⟨t,q⟩:=(show ∃t,u=Value.float y t from rx);cases q;exact OG PySem.W.kitx_float I.pK OR e (λz=>nomatch z) h
 | @lst a xs Y=>
  cases (show u=Of a from rx);obtain⟨_,_,n,_,h1⟩:=(show oi X.prog X.w H s.heap a (.lst xs)from I.i7 a _ Y);exact OG Ut I.pK ⟨_,h1,rfl⟩ e (λz=>nomatch z) h
 | @B3 a ob xs Y=>
  cases (show u=Of a from rx);obtain⟨_,_,_,n,_,h1⟩:=(show oi X.prog X.w H s.heap a (.B3 ob<|.lst xs)from I.i7 a _ Y);exact OG Ut I.pK ⟨_,h1,rfl⟩ e (λz=>nomatch z) h
 | @tup a xs Y=>
  cases (show u=Of a from rx);obtain⟨_,_,_,p⟩:=(show oi X.prog X.w H s.heap a (.tup xs)from I.i7 a _ Y);obtain⟨o,h1,h2,_⟩:=p;exact OG PySem.W.kitx_tuple I.pK ⟨o,h1,(Prod.mk.inj h2).1⟩ e (λz=>nomatch z) h
 | @dK a hJ Y=>
  cases (show u=Of a from rx);obtain⟨_,_,vs,_,p⟩:=(show oi X.prog X.w H s.heap a (.dK hJ)from I.i7 a _ Y);obtain⟨o,es,ep,h1,h2,_⟩:=p;exact OG Uu I.pK ⟨o,h1,h2.1⟩ e (λz=>nomatch z) h
 | @dT a hJ Y=>
  cases (show u=Of a from rx);obtain⟨_,_,xs,_,o,es,ep,h1,h2,_⟩:=(show oi X.prog X.w H s.heap a (.dT hJ)from I.i7 a _ Y);exact OG Uu I.pK ⟨o,h1,h2.1⟩ e (λz=>nomatch z) h
 | @ins a C dx fs Y cl ha hn V_ hm=>
  cases (show u=Of a from rx);obtain⟨mA,O,_⟩:=Km I.i7 Y;obtain⟨od,J,_⟩:=O.look;exact OG (PySem.W.kitx_own (cl.get _) cl.hd ha hn V_ hm) I.pK J e (λz=>nomatch z) h
end
structure t6(k:Nat)(A:p4):Prop where
 hd:A.handled=cR
 dp:A.depth+3*k+5<recursionLimit
 un:A.units+16*k+200<B7
theorem t6.mono(r:t6 k A)(h:j<=k):t6 j A:=⟨r.hd,by have:=r.dp;omega,by have:=r.un;omega⟩
theorem t6.deeper(r:t6 (k+1) A)(env:u5):t6 k (A.deeper env):=
 ⟨r.hd,by have:=r.dp;show A.depth+1+3*k+5<_;omega,by have:=r.un;show A.units+3+16*k+200<_;omega⟩
theorem da{A:p4}{C:d8}{us:List fm}{z:List (Str×fm)}:(A.under (.builtin "type.__call__" ⟨.ref C::us,z⟩)).depth=A.depth+1:=by first | rfl | simp[Around.under,Code.weight,Code.isCreation,Code.isGuard,Code.isCaller,Code.frames,Code.isFrame,guardIds]
theorem cZ{A:p4}{C:d8}{us:List fm}{z:List (Str×fm)}:(A.under (.builtin "type.__call__" ⟨.ref C::us,z⟩)).units=A.units+1:=by first | rfl | simp[Around.under,Code.cUnits,Code.frames,Code.isFrame]
theorem t6.make(r:t6 (k+1) A)(C:d8)(us:List fm)(z:List (Str×fm)):t6 k (A.under (.builtin "type.__call__" ⟨.ref C::us,z⟩)):=
 ⟨r.hd,by have:=r.dp;rw[da];omega,by have:=r.un;rw[cZ];omega⟩
theorem t6.depth(r:t6 k A):A.depth<recursionLimit:=by have:=r.dp;omega
def rj:TA:=λ_ H Q=>Q [] H
def Zl(ta:TE)(z:TA):TA:=λσ H Q=>ta σ H λx H1=>z σ H1 λxs H2=>Q (x::xs) H2
section
variable{X:Cx}{e:f7}{es:List f7}{te:TE}{t:TA}{pos:kr}
theorem jJ:PA X [] rj:=λ_ _ _ _ H Q I h=>SF ⟨[],H,I,.nil,h⟩
theorem zP(ha:PE X e te)(z:PA X es t)(hs:i6 (e::es) X.env=(d7,f9 e X.env)::i6 es X.env:=by rfl):PA X (e::es) (Zl te t):=by intro pos pins s σ H Q I h;rw[hs];show wpAny _ _ (LW ((d7,f9 e X.env)::r9 pos (i6 es X.env))) _ _ s;refine Ru<|ip (ha pins s σ H _ I h) λu s1 O=>?_;obtain⟨x,H1,Y,r1,q1⟩:=O;exact ip (z pos pins s1 σ H1 _ Y q1) λus s2 ⟨xs,H2,I2,r2,q2⟩=>⟨x::xs,H2,I2,.cons r1 r2,q2⟩
def Mq(t:TA):TE:=λσ H Q=>t σ H λxs H1=>xs.length<=kv/\∀p,H1 p=cR->Q (.ref p) (upd H1 p<|.tup xs)
def Lm(t:TA):TE:=λσ H Q=>t σ H λxs H1=>xs.length<=kv/\∀p,H1 p=cR->Q (.ref p) (upd H1 p<|.lst xs)
theorem rQ(h:PA X es t):PE X (.Tuple es x1 pos) (Mq t):=by intro pins s σ H Q I Y;refine wpAny_Tuple_spliced<|ip (h pos pins s σ H _ I Y) λus s1 ⟨xs,H1,O,r,z,q⟩=>⟨by rw[<- r.length];exact z,?_⟩;have hf:H1 s1.heap.objs.size=cR:=O.i7.fresh<|NJ _;refine⟨.ref s1.heap.objs.size,upd H1 s1.heap.objs.size<|.tup xs,O.laid (t':=s1.toks) (λb u e=>Nv _ e) (NJ _) ?_,rfl,q _ hf⟩;exact⟨z,us,r,⟨_,NO _ rfl,rfl,_,rfl⟩⟩
theorem rS(h:PA X es t):PE X (.List es pos) (Lm t):=by intro pins s σ H Q I Y;refine wpAny_List_spliced<|ip (h pos pins s σ H _ I Y) λus s1 ⟨xs,H1,O,r,z,q⟩=>⟨by rw[<- r.length];exact z,?_⟩;have hf:H1 s1.heap.objs.size=cR:=O.i7.fresh<|NJ _;refine⟨.ref s1.heap.objs.size,upd H1 s1.heap.objs.size<|.lst xs,O.laid (t':=s1.toks) (λb u e=>Nv _ e) (NJ _) ?_,rfl,q _ hf⟩;exact⟨z,us,0,r,NO _ rfl⟩
end
abbrev Sp:=List V->Hp->VK->XK->Prop
abbrev Dp:=List u5->Hp->gx->XK->fm->gx->Prop
structure Gg(P:m4)(w:l0)(K:Nr)(mg:DX)(base:je)(A:p4)(outer:List u5)(s:gx)(H:Hp):Prop where
 frames:A.frames=cI outer
 mod:Mod K mg base
 bs : ∀b o,base.get? b=cI o->s.heap.get? b=cI o/\H b=cR
 D6:base.objs.size<=s.heap.objs.size
 Dj:s.heap.FunFrames base outer
 Gw : ∀b∈Dx outer,H b=cR
 i7:p6 P w H s.heap
 bare:FC s.gens
def CE(outer:List u5)(P:m4)(w:l0)(H:Hp)(s:gx)(Q:VK)(u:fm)(s':gx):Prop:=
 ∃v H',s'.os=s.os/\FC s'.gens/\Un (Dx outer) [] H H' s.heap s'.heap/\p6 P w H' s'.heap/\RelV v u/\Q v H'
def CR(CX:Dp)(outer:List u5)(P:m4)(w:l0)(H:Hp)(s:gx)(Q:VK)(E:XK)(r:Result)(s':gx):Prop:=
 match r with
 | .ok (.ret u)=>CE outer P w H s Q u s'
 | .ok _=>False
 | .error e=>CX outer H s E e s'
structure p5(P:m4)(w:l0)(K:Nr)(mg:DX)(base:je)(CX:Dp)(k:Nat)(f:d8)(fd:u6)(ps:List Str)(sp:Sp):Prop where
 len : ∀vs H Q E,sp vs H Q E->vs.length=ps.length
 run : ∀(A:p4) (outer:List u5) (s:gx) (H:Hp) (args:Args) (us:List fm) (vs:List V) (Q:VK) (E:XK),t6 k A->Gg P w K mg base A outer s H->L0 s fd args (ps.zip us)->i8 vs us->sp vs H Q E->
  codeAny (gv P w) A (.call (.ref f) args) (CR CX outer P w H s Q E) s
theorem Gg.make{P:m4}{w:l0}{K:Nr}{mg:DX}{base:je}{A:p4}{outer:List u5}{s:gx}{H:Hp}(e:Gg P w K mg base A outer s H)(C:d8)(us:List fm)(z:List (Str×fm)) :
 Gg P w K mg base (A.under (.builtin "type.__call__" ⟨.ref C::us,z⟩)) outer s H:=⟨by first | exact e.frames | (simpa[Around.under,Code.envs,Code.isFrame,pushEnvs]using e.frames),e.mod,e.bs,e.D6,e.Dj,e.Gw,e.i7,e.bare⟩
section
variable{X:Cx}{pins:TW}{σ:St}{H:Hp}{s s':gx}
theorem Inv.S_(I:Inv X pins σ H s):Gg X.prog X.w X.K X.mg X.base X.A X.stack s H:=
 ⟨I.ok.frames,I.ok.mod,I.bs,OH I.ok.D6 I.sz,I.stack,I._r,I.i7,I.bare⟩
theorem Inv.after(I:Inv X pins σ H s)(h:CE X.stack X.prog X.w H s Q u s'):EP X pins σ Q u s':=by obtain⟨v,H',os,bare,un,i7,r,q⟩:=h;obtain⟨O,g,d,t,Y⟩:=s';obtain rfl:Y=s.os:=os;exact⟨v,H',I.call (h':=O) (g':=g) (d':=d) (t':=t) (ch:=[]) un i7 bare<|λb z=>absurd z ⋯,r,q⟩
end
def mU(sp:Sp)(y7:List V)(E:XK)(t:TA):TE:=λσ H Q=>t σ H λvs H1=>sp (vs++y7) H1 Q E
def Hb(C:d8)(m:Str)(sp:Sp)(y7:List V)(E:XK)(ta:TE)(t:TA):TE:=λσ H Q=>ta σ H λx H1=>∃a dx fs,x = .ref a/\H1 a=cI (.ins C dx fs)/\fs.lookup m=cR/\
 t σ H1 λvs H2=>sp (x::(vs++y7)) H2 Q E
def mT(C:d8)(sp:Sp)(y7:List V)(E:XK)(t:TA):TE:=λσ H Q=>t σ H λvs H1=>∀x dx,H1 x=cR->H1 dx=cR->dx≠x->
 sp (.ref x::(vs++y7)) (upd (upd H1 dx<|.own x) x<|.ins C dx []) (λv H2=>v = .i5/\Q (.ref x) H2) E
def Binds(K:Nr)(fd:u6)(ps:List Str)(ds:List fm):Prop:=
 ∀(s:gx) (us:List fm),K.In s.heap->(us++ds).length=ps.length->L0 s fd ⟨us,[]⟩ (ps.zip<|us++ds)
theorem Binds.all{K:Nr}{fd:u6}{ps:List Str}(h : ∀us:List fm,us.length=ps.length->Ir fd ⟨us,[]⟩=pure (ps.zip us)):Binds K fd ps []:=λs us _ z=>by rw[PH]at z ⊢;exact .of_eq<|h us z
def Xz(CX:Dp)(X:Cx)(E:XK):Prop:=∀(pins:TW) (σ:St) (H:Hp) (s:gx) (e:fm) (s':gx),Inv X pins σ H s->CX X.stack H s E e s'->X.xe e s'
section
variable{X:Cx}{CX:Dp}{k:Nat}{f C:d8}{fd:u6}{ps:List Str}{sp:Sp}{y7:List V}{ds:List fm}{E:XK}{x m:Str}{p pos apos:kr}{e o:f7}{es:List f7}{ta:TE}{t:TA}
theorem rF(F:p5 X.prog X.w X.K X.mg X.base CX k f fd ps sp)(O:t6 k X.A)(hb:Binds X.K fd ps ds)(hd:i8 y7 ds)(hx:Xz CX X E)
 (I:Inv X pins σ H s) (r:i8 vs us) (h:sp (vs++y7) H Q E):wpAny (gv X.prog X.w) X.A (call (.ref f) us) (EP X pins σ Q) X.xe s:=by
 have r2:i8 (vs++y7) (us++ds):=r.append hd;have Y:(us++ds).length=ps.length:=by rw[<- r2.length];exact F.len _ _ _ _ h
 refine wpAny_call<|Uq (F.run X.A X.stack s H ⟨us,[]⟩ (us++ds) (vs++y7) Q E O I.S_ (hb s us I.pK Y) r2 h) λr s' z=>?_;cases r with
 | error e=>exact hx pins σ H s e s' I z
 | ok fl=>
  cases fl with
  | ret u=>exact I.after z
  | next=>exact RD z
  | brk=>exact RD z
  | cont=>exact RD z
theorem vy(F:p5 X.prog X.w X.K X.mg X.base CX k f fd ps sp)(O:t6 k X.A)(Y:Gl X x)(hm:X.mg x=cI (.ref f))(hk:Pd X.K (.ref f)=cL)(hb:Binds X.K fd ps ds)(hd:i8 y7 ds)(hx:Xz CX X E)
 (ha:PA X (e::es) t) (a0:(x==("__debug__" : Str))=d7:=by decide) (he:i6 (e::es) X.env=(d7,f9 e X.env)::i6 es X.env:=by rfl) (a2:(r9 pos (i6 es X.env)).any (·.1)=d7:=by rfl) :
 PE X (.Call (.Name x p) (e::es) [] pos) (mU sp y7 E t):=by
 intro pins s σ H Q I h;refine Sb<|VX I Y hm ?_ a0;refine Ug (h₀:=X.base) I.ok.mod.LM hk (ip (ha pos pins s σ H _ I h) λus s1 ⟨vs,H1,z,r,q⟩=>⟨z.pK,?_⟩) he a2;exact rF F O hb hd hx z r q
theorem uK(Y:PE X o ta)(c:DB X.K C)(hm:IT X.K C m f)(F:p5 X.prog X.w X.K X.mg X.base CX k f fd ps sp)(hr:t6 k X.A)(hb:Binds X.K fd ps ds)(hd:i8 y7 ds)(hx:Xz CX X E)(ha:PA X (e::es) t)
 (a1:i6 (e::es) X.env=(d7,f9 e X.env)::i6 es X.env:=by rfl) (a2:(r9 pos<|starEach es X.env).any (·.1)=d7:=by rfl)
 (ht:f9 (.Call (.Attribute o m apos) (e::es) [] pos) X.env=(do
   let ov <- f9 o X.env
   GD apos.atName
   let (f,first) <- Dk [ov] (S8 ov m pl)
   callWith pos f first (r9 pos<|starEach (e::es) X.env) (D4 pos<|keywordEach [] X.env)):=by rfl) :
 PE X (.Call (.Attribute o m apos) (e::es) [] pos) (Hb C m sp y7 E ta t):=by
 intro pins s σ H Q I h;refine PySem.W.methodCall_KW (pl:=pl) (ip (Y pins s σ H _ I h) λu s1 hZ=>?_) ht;obtain⟨x,H1,z,rx,a,dx,fs,ex,ea,l,q⟩:=hZ;subst ex;obtain rfl:u=Of a:=rx;refine dk z ea c hm l ?_;refine Ug (first:=[.ref a]) (h₀:=X.base) I.ok.mod.LM hm.kp (ip (ha pos pins s1 σ H1 _ z q) λus s2 ⟨vs,H2,O,r,q2⟩=>⟨O.pK,?_⟩) a1 a2;exact rF (us:= .ref a::us) (vs:= .ref a::vs) F hr hb hd hx O (.cons rfl r) q2
structure Mk(K:Nr)(C f:d8):Prop where
 makes:TF K C=cL
 init:OE K (.ref C) "__init__" = cI (cI (.ref f))
 fn:SW K (.ref f)=cL
 kp:Pd K (.ref C)=cL
theorem nz(M:Mk X.K C f)(F:p5 X.prog X.w X.K X.mg X.base CX k f fd ps sp)(hr:t6 (k+1) X.A)(hb:Binds X.K fd ps ds)(hd:i8 y7 ds)
 (hx:Xz CX X E) (I:Inv X pins σ H s) (r:i8 vs us)
 (h : ∀x dx,H x=cR->H dx=cR->dx≠x->sp (.ref x::(vs++y7)) (upd (upd H dx<|.own x) x<|.ins C dx []) (λv H2=>v = .i5/\Q (.ref x) H2) E) :
 wpAny (gv X.prog X.w) X.A (call (.ref C) us) (EP X pins σ Q) X.xe s:=by
 have Y:=h (s.heap.objs.size+1) s.heap.objs.size (I.i7.fresh<|Uv _) (I.i7.fresh<|NJ _)<|Oa<|OW _;have O:=Inv.made (C:=C) I;have r2:i8 (V.ref (s.heap.objs.size+1)::(vs++y7)) (Of (s.heap.objs.size+1)::(us++ds)):= .cons rfl (r.append hd);have hl:(Of (s.heap.objs.size+1)::us++ds).length=ps.length:=by have e:=r2.length;rw[F.len _ _ _ _ Y]at e;exact e.symm
 refine wpAny_call (oE (f:=f) I.pK M.makes M.init (beq_iff_eq.mp M.fn) (Uq (F.run _ X.stack _ _ ⟨Of (s.heap.objs.size+1)::us,[]⟩ (Of (s.heap.objs.size+1)::(us++ds)) _ _ E (hr.make C us [])
  (O.S_.make C us []) (hb _ (Of (s.heap.objs.size+1)::us) O.pK hl) r2 Y) λr s' z=>?_))
 cases r with
 | error e=>exact hx pins σ _ _ e s' O z
 | ok fl=>
  cases fl with
  | ret u=>
   obtain⟨v,H',I3,rv,ev,q3⟩:=O.after z;subst ev;exact⟨rv,⟨V.ref<|s.heap.objs.size+1,H',I3,rfl,q3⟩⟩
  | next=>exact RD z
  | brk=>exact RD z
  | cont=>exact RD z
theorem gy(M:Mk X.K C f)(F:p5 X.prog X.w X.K X.mg X.base CX k f fd ps sp)(O:t6 (k+1) X.A)(Y:Gl X x)(hm:X.mg x=cI (.ref C))(hb:Binds X.K fd ps ds)(hd:i8 y7 ds)(hx:Xz CX X E)
 (ha:PA X (e::es) t) (a0:(x==("__debug__" : Str))=d7:=by decide) (he:i6 (e::es) X.env=(d7,f9 e X.env)::i6 es X.env:=by rfl) (a2:(r9 pos (i6 es X.env)).any (·.1)=d7:=by rfl) :
 PE X (.Call (.Name x p) (e::es) [] pos) (mT C sp y7 E t):=by
 intro pins s σ H Q I h;refine Sb<|VX I Y hm ?_ a0;refine Ug (h₀:=X.base) I.ok.mod.LM M.kp (ip (ha pos pins s σ H _ I h) λus s1 ⟨vs,H1,z,r,q⟩=>⟨z.pK,?_⟩) he a2;exact nz M F O hb hd hx z r q
end
structure IM(N P:List Str)(sc:mu):Prop where
 kind:sc.kind = .function
 co:sc.isCoroutine=d7
 gen:sc.isGenerator=d7
 nd:N.Nodup
 pre:N.take P.length=P
 par : ∀x∈P,sc.names.lookup x=cI .local\/sc.names.lookup x=cI .cell
 E? : ∀y∈sc.names,y.2 ≠ .free
theorem Y8{kindOf:Str->Option Ds}{x:Str} : ∀{binds:List (Str×fm)} {m:DX},(∀v,(x,v)∉binds)->Gq kindOf binds m x=m x
 | [],_,_=>rfl
 | (n,v)::r,m,h=>by
  unfold Gq;rw[Y8 λw hw=>h w (NN _ hw)];split
  ·have:x≠n:=by rintro rfl;exact h v NL
   simp[this]
  ·rfl
theorem Vb{kindOf:Str->Option Ds}{x:Str} : ∀{binds:List (Str×fm)} {m:DX},(∀v,(x,v)∉binds)->Gk kindOf binds m x=m x
 | [],_,_=>rfl
 | (n,v)::r,m,h=>by
  unfold Gk;rw[Vb λw hw=>h w (NN _ hw)];split
  ·rfl
  ·have:x≠n:=by rintro rfl;exact h v NL
   simp[this]
theorem Y9{kindOf:Str->Option Ds}{x:Str}{v:fm} : ∀{P:List Str} {vs:List fm} {i:Nat} {m:DX},P.Nodup->P[i]? = cI x->vs[i]? = cI v->kindOf x=cI .local->
 Gq kindOf (P.zip vs) m x=cI v
 | [],_,_,_,_,h,_,_=>by simp at h
 | _::_,[],_,_,_,_,h,_=>by simp at h
 | p::P,w::vs,0,m,nd,h1,h2,hk=>by simp at h1 h2;subst h1;subst h2;show Gq kindOf ((p,w)::P.zip vs) m p=_;unfold Gq;rw[Y8 λv z=>(PF.mp nd).1 (List.of_mem_zip z).1,DZ hk];simp
 | p::P,w::vs,i+1,m,nd,h1,h2,hk=>by show Gq kindOf ((p,w)::P.zip vs) m x=_;unfold Gq;exact Y9 (i:=i) (PF.mp nd).2 (by simpa using h1) (by simpa using h2) hk
theorem Vd{kindOf:Str->Option Ds}{x:Str}{v:fm} : ∀{P:List Str} {vs:List fm} {i:Nat} {m:DX},P.Nodup->P[i]? = cI x->vs[i]? = cI v->kindOf x≠cI .local->
 Gk kindOf (P.zip vs) m x=cI v
 | [],_,_,_,_,h,_,_=>by simp at h
 | _::_,[],_,_,_,_,h,_=>by simp at h
 | p::P,w::vs,0,m,nd,h1,h2,hk=>by simp at h1 h2;subst h1;subst h2;show Gk kindOf ((p,w)::P.zip vs) m p=_;unfold Gk;rw[Vb λv z=>(PF.mp nd).1 (List.of_mem_zip z).1,DJ hk];simp
 | p::P,w::vs,i+1,m,nd,h1,h2,hk=>by show Gk kindOf ((p,w)::P.zip vs) m x=_;unfold Gk;exact Vd (i:=i) (PF.mp nd).2 (by simpa using h1) (by simpa using h2) hk
def wD(N:List Str)(vs:List V):St:=vs.map cI++NB (N.length - vs.length) cR
def AJ(CX:Dp)(P:m4)(w:l0)(K:Nr)(mg:DX)(base:je)(N:List Str)(qual:Str)(scope:mu)(f:d8)(z:fm)(A:p4)(outer:List u5)(s:gx)(H:Hp)(E:XK):Cx where
 prog:=P
 w:=w
 K:=K
 mg:=mg
 base:=base
 A:=A.deeper<|envOfC qual scope s.heap.objs.size f z
 N:=N
 t9:=s
 IP:=H
 env:=Mc qual scope s.heap.objs.size f z
 outer:=outer
 stack:=Mc qual scope s.heap.objs.size f z::outer
 ex:=[]
 calm:=cL
 fn:=λ_=>cL
 pn:=[]
 xe:=λe s'=>wpAny (gv P w) (A.deeper<|envOfC qual scope s.heap.objs.size f z) (leaving (Mc qual scope s.heap.objs.size f z) e) (λ_ I=>CX outer H s E e I) (λO I=>CX outer H s E O I) s'
theorem br{sc:mu}{n:Nat}{x:Str}(h:sc.names.lookup x=cI .cell) : ∃c,(BR n sc.names []).lookup x=cI c:=by have q:=Sy sc.names n [] (.inl h);exact Th.mp q
theorem iw{CX:Dp}{P:m4}{w:l0}{K:Nr}{mg:DX}{base:je}{N ps:List Str}{qual:Str}{scope:mu}{f:d8}{cd:fm}{A:p4}{outer:List u5}{s s1:gx}{H:Hp}{E:XK}{us:List fm}{vs:List V}
 (S:IM N ps scope) (hd:A.handled=cR) (I:Gg P w K mg base A outer s H) (hl:vs.length=ps.length) (r:i8 vs us)
 (x:InCallC s s.heap.objs.size (Gq (Mc qual scope s.heap.objs.size f cd).kindOf (ps.zip us) λ_=>cR) (BR (s.heap.objs.size+1) scope.names []) (Gk (Mc qual scope s.heap.objs.size f cd).kindOf (ps.zip us) λ_=>cR) s1) :
 Inv (AJ CX P w K mg base N qual scope f cd A outer s H E) [] (wD N vs) H s1:=by
 have a6:ps.length<=N.length:=by have:=congrArg RU S.pre;rw[Rr]at this;omega
 obtain⟨h1,tk,rfl,hk⟩:=x.done;have a1 : ∀b:d8,b∉(AJ CX P w K mg base N qual scope f cd A outer s H E).ex:=λb z=>absurd (show b∈([]:List d8)from z) ⋯;refine⟨⟨I.mod,S.kind,rfl,rfl,NJ _,λy z c h1 h2=>?_,λy O=>?_,λy c _ h=>?_,λ_=>hd,Around.frames_deeper I.frames,.inr ⟨rfl,rfl⟩,λb z=>absurd z<|a1 b,I.bs,I.D6,λb _ _=>a1 b,λb z=>absurd z<|a1 b,I.Dj,I.Gw⟩,
  rfl,I.bare,Un.kept hk,⟨_,x.toInCall.ns,λi y v h1 h2 h3=>?_⟩,λy c h=>⟨_,x.cell y c h⟩,I.i7.fresh<|NJ _,λy c h=>?_,λp Y=>absurd (show p∈([]:TW)from Y) ⋯,I.i7.kept hk,?_⟩
 ·exact name_of_addr x.apart (Sq h1)<|Sq h2
 ·have O:scope.names.lookup y=cI .cell\/scope.names.lookup y=cI .free:=O
  rcases O with O | O
  ·exact br O
  ·exact absurd rfl<|S.E? _<|Sq O
 ·exact Uc<|x.above y c<|Sq h
 ·have hi:i<vs.length:=by
   unfold wD at h2;by_cases hi:i<vs.length
   ·exact hi
   ·rw[Dt (by simpa using hi)]at h2
    rw[P6]at h2;split at h2<;>cases h2
  have ha:vs[i]? = cI v:=by
   unfold wD at h2;rw[Oi (by simpa using hi),NT]at h2;cases e:vs[i]? with
   | none=>rw[e]at h2;cases h2
   | some a=>rw[e]at h2;cases h2;rfl
  obtain⟨u,hu,rv⟩:=r.get ha;have Y:ps[i]? = cI y:=by rw[<- S.pre,List.getElem?_take_of_lt ⋯];exact h1
  have a3:ps.Nodup:=by rw[<- S.pre];exact S.nd.sublist<|List.take_sublist _ _
  refine⟨u,rv,?_⟩;rcases S.par y (Og Y)with k | k
  ·exact .inl ⟨k,Y9 a3 Y hu k⟩
  ·obtain⟨c,e⟩:=br (n:=s.heap.objs.size+1) k
   refine .inr ⟨.inl k,c,e,?_⟩;have q:=x.cell y c e;rw[Vd a3 Y hu (by show scope.names.lookup y≠_;rw[k];decide)]at q;exact q
 ·exact I.i7.fresh<|Uc<|x.above y c<|Sq h
 ·unfold wD
  show _=N.length;rw[Ol,NV,List.length_replicate];omega
theorem Ii{CX:Dp}{P:m4}{w:l0}{K:Nr}{mg:DX}{base:je}{k:Nat}{f:d8}{name qual:Str}{a0:Arguments}{body:List m5}{scope:mu}{dV kV doc pm m7 ct oc:fm}{an od:Option d8}
 {Dl:Array (Option fm)} {N ps:List Str} {sp:Sp} (lk:K.lookup f=cI ⟨oc,od,.func<|PB name qual a0 body scope dV kV doc pm an m7 ct,Dl⟩) (a5:Sf K m7 qual=cL) (S:IM N ps scope)
 (len : ∀vs H Q E,sp vs H Q E->vs.length=ps.length)
 (a6 : ∀(A:p4) (outer:List u5) (s:gx) (H:Hp) (vs:List V) (Q:VK) (E:XK),t6 k (A.deeper<|envOfC qual scope s.heap.objs.size f m7)->sp vs H Q E->
   ∃t,n5 (AJ CX P w K mg base N qual scope f m7 A outer s H E) body t/\t {nx:=λ_ H'=>Q .i5 H',rt:=Q} (wD N vs) H) :
 p5 P w K mg base CX (k+1) f (PB name qual a0 body scope dV kV doc pm an m7 ct) ps sp:=by
 refine⟨len,λA outer s H args us vs Q E O z hb r a2=>?_⟩;have hl:=len _ _ _ _ a2;have KX:K.In s.heap:=z.mod.LM.keeps λb o e=>(z.bs b o e).1;have lim:s.heap.NoLimit:=z.mod.nolimit.keeps λb o e=>(z.bs b o e).1;have a8 : ∀y∈ps.zip us,scope.names.lookup y.1=cI .local\/(scope.names.lookup y.1=cI .cell/\((BR (s.heap.objs.size+1) scope.names []).lookup y.1).isSome=cL):=λ⟨n,v⟩ hy=>by
  rcases S.par n (List.of_mem_zip hy).1 with q | q
  ·exact .inl q
  ·exact .inr ⟨q,Sy _ _ _<|.inl q⟩
 refine codeAny_call_function O.depth (KX _ _ lk) rfl S.co S.gen rfl (PySem.W.codeRec_of KX a5)<|hb _ _ _ _ ?_;refine wpAny_newFunctionEnv_cells S.kind a8 λenv he s1 x=>?_;subst he;refine⟨lim.keeps x.toInCall.keep,codeAny_func ?_⟩;obtain⟨t,ht,hq⟩:=a6 A outer s H vs Q E (O.deeper _) a2;have I:Inv (AJ CX P w K mg base N qual scope f m7 A outer s H E) [] (wD N vs) H s1:=iw S O.hd z hl r x;refine RK (ht [] s1 (wD N vs) H _ I hq) (λfl s' hs=>?_) λe s' hs=>hs;have a4 : ∀{i9:St} {H':Hp} {v:V} {u:fm},Inv (AJ CX P w K mg base N qual scope f m7 A outer s H E) [] i9 H' s'->RelV v u->Q v H'->CE outer P w H s Q u s':=
  λ{i9 H' v u} J Y q=>⟨v,H',J.os,J.bare,J.base,J.i7,Y,q⟩
 cases fl with
 | ret u=>
  obtain⟨v,i9,H',J,Y,q⟩:=hs;exact a4 J Y q
 | next=>
  obtain⟨i9,H',J,q⟩:=hs;exact a4 (v:=V.i5) (u:=Oy) J rfl q
 | brk=>
  obtain⟨_,_,_,q⟩:=hs;exact RD q
 | cont=>
  obtain⟨_,_,_,q⟩:=hs;exact RD q
section
variable{X:Cx}{x:Str}{p pos:kr}{e:f7}{es:List f7}{t:TA}{id T:String}{r:List V->Hp->VK->Prop}
def _u(r:List V->Hp->VK->Prop)(t:TA):TE:=λσ H Q=>t σ H λvs H1=>r vs H1 Q
theorem ya(z:Zv X (.builtin id) r)(O:Gl X x)(hm:X.mg x=cR)(Y:D5 x=cI (.builtin id))(ha:PA X (e::es) t)(hn:x ≠ "__name__":=by decide)(a0:(x==("__debug__" : Str))=d7:=by decide)
 (he:i6 (e::es) X.env=(d7,f9 e X.env)::i6 es X.env:=by rfl) (a2:(r9 pos<|starEach es X.env).any (·.1)=d7:=by rfl):PE X (.Call (.Name x p) (e::es) [] pos) (_u r t):=by
 intro pins s σ H Q I h;refine Sb<|yq I O hm Y ?_ hn a0;exact Sw (ip (ha pos pins s σ H _ I h) λus s1 ⟨vs,H1,I1,r1,q1⟩=>z pins s1 σ H1 vs us Q I1 r1 q1) he a2
theorem Ja(z:Zv X (.type T) r)(O:Gl X x)(hm:X.mg x=cR)(Y:D5 x=cI (.type T))(ha:PA X (e::es) t)(hn:x ≠ "__name__":=by decide)(a0:(x==("__debug__" : Str))=d7:=by decide)
 (he:i6 (e::es) X.env=(d7,f9 e X.env)::i6 es X.env:=by rfl) (a2:(r9 pos<|starEach es X.env).any (·.1)=d7:=by rfl):PE X (.Call (.Name x p) (e::es) [] pos) (_u r t):=by
 intro pins s σ H Q I h;refine Sb<|yq I O hm Y ?_ hn a0;exact OT (ip (ha pos pins s σ H _ I h) λus s1 ⟨vs,H1,I1,r1,q1⟩=>z pins s1 σ H1 vs us Q I1 r1 q1) he a2
end
end L2
namespace HT
open PySem PyProof.Rows
section
variable{prog:m4}{w:l0}{A:p4}{E:EQ}{s:gx}
theorem IB(ht:IQ s.heap t vs.toArray)(hb:IQ s.heap b z.toArray)(Y:vs ≠ [])
 (h1:z=[]->Q (.ref t) s) (h2:z ≠ []->Q (.ref s.heap.objs.size) {s with heap:=s.heap.push {cls:= .type "tuple",data:= .seq (vs++z).toArray}})
 (hsz:vs.length+z.length<=kv):wpAny (gv prog w) A (Df .Add (.ref t)<|.ref b) Q E s:=by
 obtain⟨⟨cls,dd,data,sl⟩,I,hc,n,hd⟩:=id ht;obtain⟨⟨a7,a2,data2,a3⟩,O,a4,n2,a5⟩:=id hb;simp only at hc hd a4 a5;subst hc hd a4 a5;have e:vs.toArray++z.toArray=(vs++z).toArray:=by simp
 by_cases hw:z=[]
 ·exact D' ⟨_,I,rfl⟩ ⟨_,O,rfl⟩ _C _m Tt Tq (Tb _ _)
   (tuple_addW1 t b vs.toArray z.toArray n n2 dd a2 sl a3 (by simpa using Y)<|by simp[hw]) ⟨I,O,h1 hw⟩
 ·refine D' ⟨_,I,rfl⟩ ⟨_,O,rfl⟩ _C _m Tt Tq (Tb _ _)
   (tuple_addW2 t b vs.toArray z.toArray n n2 dd a2 sl a3 (by simpa using Y) (by simpa using hw)<|by rw[NK,NK];exact hsz) ⟨I,O,?_⟩
  rw[e];exact h2 hw
def fy(n d:Nat):Option Int->Nat
 | none=>d
 | some v=>if v<0 then (v+(n:Int)).toNat else min v.toNat n
theorem BZ(n d:Nat)(hd:d<=n)(o:Option Int):fy n d o<=n:=by
 cases o with
 | none=>exact hd
 | some v=>
  show(if v<0 then (v+(n:Int)).toNat else min v.toNat n)<=n;by_cases z:v<0
  ·rw[DZ z];omega
  ·rw[DJ z];exact Nat.min_le_right _ _
theorem lj(v:Int)(n d:Nat):(if v<0 then max (v+(n:Int)) 0 else min v (n:Int))=((fy n d (cI v):Nat):Int):=by
 show(if v<0 then max (v+(n:Int)) 0 else min v (n:Int))=(((if v<0 then (v+(n:Int)).toNat else min v.toNat n):Nat):Int);by_cases z:v<0
 ·simp only[DZ z];omega
 ·simp only[DJ z];omega
theorem dO(lo hi:Option Int)(n:Nat):SO lo hi 1 (n:Int)=(((fy n 0 lo:Nat):Int),((fy n n hi:Nat):Int)):=by
 have h1 : ¬((1:Int)<0):=by omega
 unfold SO;simp only[h1,if_false];refine Prod.ext ?_ ?_
 ·cases lo with
  | none=>rfl
  | some v=>exact lj v n 0
 ·cases hi with
  | none=>rfl
  | some v=>exact lj v n n
theorem cF(i j:Nat):RP (i:Int) (j:Int) 1=j - i:=by
 unfold RP;have h1:(1:Int)>0:=by omega
 simp only[h1,if_true,Int.ediv_one];split<;>omega
theorem QQ(p:DY v o)(h:Q o s):wpAny (gv prog w) A (Builtin.Slice.slicePartIndex v) Q E s:=by
 cases p with
 | none=>exact slicePart_none h
 | int i t=>exact slicePart_int h
theorem Zm{sl:d8}{z I:fm}{lo hi:Option Int}{n:Nat}{Q:Int×Int×Nat->gx->Prop}(hs:s.heap.IsSliceOf sl z I .none)(pl:DY z lo)(pu:DY I hi)
 (h:Q (((fy n 0 lo:Nat):Int),1,fy n n hi - fy n 0 lo) s):wpAny (gv prog w) A (Builtin.Slice.sliceApplied (.ref sl)<|pure (n:Int)) Q E s:=by
 obtain⟨os,O,a1,Y⟩:=id hs;unfold Builtin.Slice.sliceApplied Builtin.Slice.sliceFields;refine Nt<|Nt<|Pa O Y (x:=z) rfl<|Nt<|Pa O Y (x:=I) rfl<|Nt<|Pa O Y (x:= .none) rfl<|Nz ?_;refine Nt<|slicePart_none ?_;show wpAny _ _ (if ((1:Int)==0)=cL then _ else _) _ _ s;rw[DJ ⋯];refine Nt<|QQ pl<|Nt<|QQ pu<|Nt<|Nz ?_;show wpAny _ _ (match SO lo hi 1 (n:Int)with | (lo,hi)=>pure (lo,(1:Int),RP lo hi 1)) _ _ s;rw[dO lo hi n];show wpAny _ _ (pure (((fy n 0 lo:Nat):Int),(1:Int),RP ((fy n 0 lo:Nat):Int) ((fy n n hi:Nat):Int) 1)) _ _ s;rw[cF];exact Nz h
theorem nU(xs:Array fm)(i k:Nat):((Nu k).filterMap λ(m:Nat)=>xs[((i:Int)+(m:Int)*1).toNat]?).toArray=((xs.toList.drop i).take k).toArray:=by
 have e:(λ(m:Nat)=>xs[((i:Int)+(m:Int)*1).toNat]?)=λm=>xs[i+m]? :=by
  funext m;have:((i:Int)+(m:Int)*1).toNat=i+m:=by omega
  rw[this]
 rw[e];have:=pick_run xs i k;rw[List.filterMap_map]at this;have e2:((λx=>xs[x]?)∘λx=>i+x)=λm=>xs[i+m]? :=rfl;rw[e2]at this;rw[this]
theorem du{t sl:d8}{items:Array fm}{O Y:fm}{lo hi:Option Int}{Q:EQ}(z:IQ s.heap t items)(hs:s.heap.IsSliceOf sl O Y .none)(pl:DY O lo)(pu:DY Y hi)
 (hw : ¬(fy items.size 0 lo=0/\fy items.size items.size hi=items.size))
 (h:Q (.ref s.heap.objs.size) {s with heap:=s.heap.push {cls:= .type "tuple",data:= .seq ((items.toList.drop (fy items.size 0 lo)).take (fy items.size items.size hi - fy items.size 0 lo)).toArray}})
 (hsz:items.size<=kv):wpAny (gv prog w) A (Em (.ref t)<|.ref sl) Q E s:=by
 have I:sizeOk (.seq ((items.toList.drop<|fy items.size 0 lo).take (fy items.size items.size hi - fy items.size 0 lo)).toArray):=by show((items.toList.drop<|fy items.size 0 lo).take (fy items.size items.size hi - fy items.size 0 lo)).toArray.size<=kv;rw[NK,Rr,UN,Pc];omega
 have hj:fy items.size items.size hi<=items.size:=BZ _ _ (NJ _) hi;obtain⟨os,a1,a2,a6⟩:=id hs;have a3:s.TypeIs (.ref sl) "slice":=⟨os,a1,a2⟩;unfold Em
 try with_reducible refine Rm ?_
 first | refine Nt (Nz ?_) | skip
 refine Nt (zao z.typeIs ⋯ ?_);refine Nt (OD (name:=OJ "__getitem__") z.typeIs Pk
  (OI Pk z.typeIs entry_tuple_getitem ?_ (_Y _ _)))
 show wpAny _ _ (Builtin.Tuple.tupleItemsOf (.ref t) >>= _) _ _ s;refine Nt<|Ua z ?_;refine Nt<|SU a3 ?_;rw[DZ ⋯];refine Nt<|Zm hs pl pu ?_;have a4 : ¬((((fy items.size 0 lo:Nat):Int)==0 && (1:Int)==1 && (fy items.size items.size hi - fy items.size 0 lo)==items.size)=cL):=by intro q;rw[NI,NI]at q;have q1:((fy items.size 0 lo:Nat):Int)=0:=eq_of_beq q.1.1;have q2:fy items.size items.size hi - fy items.size 0 lo=items.size:=eq_of_beq q.2;exact hw ⟨by omega,by omega⟩
 show wpAny _ _ (if (((fy items.size 0 lo:Nat):Int)==0 && (1:Int)==1 && (fy items.size items.size hi - fy items.size 0 lo)==items.size)=cL then _ else _) _ _ s;rw[DJ a4,nU]
 first
  | exact Nt (m:=IW _)<|Ox (Nz ⟨_,rfl,Nz h⟩) I
  | exact Nt (m:=IW _)<|Ox (Nt<|Nz<|Nz ⟨_,rfl,Nz h⟩) I
  | exact Nt<|Nt (m:=IW _)<|Ox (Nz<|Nz ⟨_,rfl,Nz h⟩) I
  | exact Nt<|Nt (m:=IW _)<|Ox (Nz ⟨_,rfl,Nz h⟩) I
end
end HT
namespace L2
open PySem PySem.Spec PyProof.Rows
abbrev TO:=St->Hp->(Option Int->Hp->Prop)->Prop
def PO(X:Cx)(e:Option f7)(t:TO):Prop:=
 ∀(pins:TW) (s:gx) (σ:St) (H:Hp) (Q:Option Int->Hp->Prop),Inv X pins σ H s->t σ H Q->
  wpAny (gv X.prog X.w) X.A (evalPart e X.env) (λu s'=>∃o H',Inv X pins σ H' s'/\DY u o/\Q o H') X.xe s
def tH:TO:=λ_ H Q=>Q cR H
def GX(t:TE):TO:=λσ H Q=>t σ H λx H1=>∃i,x = .int i/\Q (cI i) H1
section
variable{X:Cx}{e:f7}{te:TE}{lo hi:Option f7}{tl th:TO}{pos p2:kr}
theorem uB:PO X cR tH:=by intro pins s σ H Q I h;rw[evalPart_none];exact Nz ⟨cR,H,I,.none,h⟩
theorem uA(h:PE X e te):PO X (cI e) (GX te):=by intro pins s σ H Q I hw;rw[evalPart_some];refine ip (h pins s σ H _ I hw) λu s1 z=>?_;obtain⟨x,H1,O,Y,q1⟩:=z;obtain⟨i,rfl,q⟩:=q1;obtain⟨t,rfl⟩:=Y;exact⟨cI i,H1,O,.int i t,q⟩
def L8(X:Cx)(r:V->Option Int->Option Int->Hp->VK->Prop):Prop:=
 ∀(pins:TW) (s:gx) (σ:St) (H:Hp) (x:V) (v z I:fm) (lo hi:Option Int) (sl:d8) (Q:VK),Inv X pins σ H s->RelV x v->s.heap.IsSliceOf sl z I .none->DY z lo->DY I hi->r x lo hi H Q->
  ∃T id,O1 (.type T) "__getitem__" = pure (cI (.builtin id))/\s.TypeIs v T/\wpAny (gv X.prog X.w) X.A (Em v (.ref sl)) (EP X pins σ Q) X.xe s
def V?(r:V->Option Int->Option Int->Hp->VK->Prop)(te:TE)(tl th:TO):TE:=λσ H Q=>te σ H λx H1=>tl σ H1 λl H2=>th σ H2 λu z=>r x l u z Q
theorem ao(hr:L8 X r)(he:PE X e te)(hl:PO X lo tl)(hu:PO X hi th):PE X (.Subscript e (.Slice lo hi cR p2) pos) (V? r te tl th):=by intro pins s σ H Q I h;refine J_ (ip (he pins s σ H _ I h) λv s1 hZ=>?_);obtain⟨x,H1,I1,r1,q1⟩:=hZ;refine wpAny_Slice (ip (hl pins s1 σ H1 _ I1 q1) λO s2 ⟨l,H2,I2,pl,q2⟩=>ip (hu pins s2 σ H2 _ I2 q2) λY z ⟨u,H3,I3,pu,q3⟩=>?_);rw[evalPart_none];refine Nz ?_;have I4:Inv X pins σ H3 {z with heap:=z.heap.push {cls:= .type "slice",data:= .fields #[O,Y,.none]}}:=I3.kept (t':=z.toks) λb ob q=>Nv _ q;obtain⟨T,id,hT,ht,hg⟩:=hr pins {z with heap:=z.heap.push {cls:= .type "slice",data:= .fields #[O,Y,.none]}} σ H3 x v O Y l u z.heap.objs.size Q I4 r1 (Heap.IsSliceOf.new ..) pl pu q3;show wpAny (gv X.prog X.w) X.A (_s e (.Slice lo hi cR p2) v (.ref z.heap.objs.size)) (EP X pins σ Q) X.xe {z with heap:=z.heap.push {cls:= .type "slice",data:= .fields #[O,Y,.none]}};exact tail_any (ops:=[.ref z.heap.objs.size,v]) ht hT hg (by with_unfolding_all rfl)
def AK(xs:List V)(lo hi:Option Int):List V:=(xs.drop<|HT.fy xs.length 0 lo).take (HT.fy xs.length xs.length hi - HT.fy xs.length 0 lo)
theorem Wb(xs:List V)(lo hi:Option Int):(AK xs lo hi).length<=xs.length:=by unfold AK;rw[Rr,UN];omega
def ME(K:Nr):V->Option Int->Option Int->Hp->VK->Prop:=λx lo hi H Q=>∃a xs,x = .ref a/\k0 K H a xs/\
 ¬(HT.fy xs.length 0 lo=0/\HT.fy xs.length xs.length hi=xs.length)/\∀p,H p=cR->Q (.ref p) (upd H p<|.tup<|AK xs lo hi)
theorem BP:L8 X (ME X.K):=by
 intro pins s σ H x v zad vu lo hi sl Q I rx hs pl Y h;obtain⟨a,xs,rfl,hx,hw,q⟩:=h;cases rx;obtain⟨a0,r,O,hz⟩:=I.tuple hx;have z:a0.toArray.size=xs.length:=by rw[NK];exact r.length.symm
 refine⟨"tuple",_,Pk.lookup,O.typeIs,?_⟩;refine HT.du O hs pl Y (by rw[z];exact hw) ?_ (by rw[z];exact hz);rw[z];refine⟨.ref s.heap.objs.size,_,I.laid (t':=s.toks) (o:= .tup (AK xs lo hi)) (λb ob q=>Nv _ q) (NJ _) ?_,rfl,q _ (I.i7.fresh (NJ _))⟩;exact⟨OH (Wb xs lo hi) hz,_,(r.drop (HT.fy xs.length 0 lo)).take (HT.fy xs.length xs.length hi - HT.fy xs.length 0 lo),DC.new _ _⟩
theorem i8.M8(r:i8 xs us):us=[]↔xs=[]:=by
 cases r with
 | nil=>simp
 | cons _ _=>simp
end
def GA(n:Nat)(i:Int):Option Nat:=if 0<=i then (if i<n then cI i.toNat else cR)else if -(n:Int)<=i then cI (i+n).toNat else cR
def D3{α:Type}(xs:List α)(i:Int):Option α:=(GA xs.length i).bind λj=>xs[j]?
theorem V0(h:GA n i=cI j):seqIndex? i n=cI j/\j<n/\ -(n:Int)<=i/\i<n:=by
 unfold GA at h;by_cases h0:0<=i
 ·rw[DZ h0]at h
  by_cases h1:i<n
  ·rw[DZ h1]at h
   have e:i.toNat=j:=Oj h;exact⟨by rw[_l h0 h1,e],by omega,by omega,h1⟩
  ·rw[DJ h1]at h;cases h
 ·rw[DJ h0]at h
  by_cases h1 : -(n:Int)<=i
  ·rw[DZ h1]at h
   have e:(i+n).toNat=j:=Oj h;exact⟨by rw[_k ⋯ h1,e],by omega,h1,by omega⟩
  ·rw[DJ h1]at h;cases h
theorem Wi(h:D3 xs i=cI v) : ∃j,seqIndex? i xs.length=cI j/\xs[j]? = cI v/\j<xs.length/\ -(xs.length:Int)<=i/\i<xs.length:=by
 unfold D3 at h;cases e:GA xs.length i with
 | none=>rw[e]at h;cases h
 | some j=>
  rw[e]at h;obtain⟨h1,h2,z,I⟩:=V0 e;exact⟨j,h1,h,h2,z,I⟩
def KI(b:f7):Prop:=∀o i,g_ b d7 o i=operate [o,i] (Em o i)
def FG(X:Cx)(r:R2):Prop:=
 ∀(value z:f7) (pins:TW) (s:gx) (σ:St) (H:Hp) (x y:V) (v u:fm) (Q:VK),Inv X pins σ H s->RelV x v->RelV y u->r x y H Q->
  g_ z d7 v u=operate [v,u] (Em v u)->wpAny (gv X.prog X.w) X.A (_s value z v u) (EP X pins σ Q) X.xe s
def P5(X:Cx)(id:String)(r:V->List V->Hp->VK->Prop):Prop:=
 ∀(pins:TW) (s:gx) (σ:St) (H:Hp) (x:V) (xs:List V) (v:fm) (us:List fm) (Q:VK),Inv X pins σ H s->RelV x v->i8 xs us->r x xs H Q->
  wpAny (gv X.prog X.w) X.A (call (.builtin id) (v::us)) (EP X pins σ Q) X.xe s
section
variable{X:Cx}{a b:f7}{ta tb:TE}{pos:kr}
theorem FG.or(h:FG X r)(h':FG X r'):FG X (λx y H Q=>r x y H Q\/r' x y H Q):=by
 intro value z pins s σ H x y v u Q I rx O q hs;rcases q with q | q
 ·exact h value z pins s σ H x y v u Q I rx O q hs
 ·exact h' value z pins s σ H x y v u Q I rx O q hs
theorem uM(z:FG X r)(ha:PE X a ta)(hb:PE X b tb)(hs:KI b):PE X (.Subscript a b pos) (GH r ta tb):=by intro pins s σ H Q I h;exact J_<|IC ha hb I h λv u s2 x y H2 O rx Y q=>z a b pins s2 σ H2 x y v u Q O rx Y q<|hs _ _
def Lx(K:Nr):R2:=λx y H Q=>∃p xs i v,x = .ref p/\y = .int i/\lK K H p xs/\D3 xs i=cI v/\Q v H
def MF(K:Nr):R2:=λx y H Q=>∃p xs i v,x = .ref p/\y = .int i/\k0 K H p xs/\D3 xs i=cI v/\Q v H
def MG:R2:=λx y H Q=>∃z i c,x = .str z/\y = .int i/\z.length<=kv/\D3 z.cps.toList i=cI c/\Q (.str ⟨#[c]⟩) H
theorem Z_:FG X (Lx X.K):=by
 intro value a9 pins s σ H x y v u Q I rx ry h hs;obtain⟨p,xs,i,z,rfl,rfl,hq,he,q⟩:=h;cases rx;obtain⟨t,rfl⟩:=ry;obtain⟨a4,r,pl,hz⟩:=I.list hq;obtain⟨j,h1,h2,h3,h4,h5⟩:=Wi he;obtain⟨w,Y,a7⟩:=r.get h2;have hl:=r.length;have hn:=Jv;have a0:EP X pins σ Q w s:=⟨z,H,I,a7,q⟩;by_cases h0:0<=i
 ·have O:i.toNat=j:=by
   rw[_l h0 h5]at h1;exact Oj h1
  exact item_listR pl.isList h0 ⋯ (by rw[O];simpa using Y) a0 hs
 ·have O:(i+(a4.toArray.size:Int)).toNat=j:=by
   rw[_k ⋯ h4]at h1;rw[NK,<- hl];exact Oj h1
  exact S? (x:=w) pl.isList.typeIs slot_list_getitem.lookup
   (wpAny_getItem_list_neg (Q:=λr s'=>r=w/\EP X pins σ Q r s') pl.isList ⋯ (by rw[NK]<;>omega) ⋯ (by rw[O];simpa using Y) ⟨rfl,a0⟩) hs
theorem EO:FG X (MF X.K):=by
 intro value a5 pins s σ H x y v u Q I rx O h hs;obtain⟨p,xs,i,z,rfl,rfl,Y,he,q⟩:=h;cases rx;obtain⟨t,rfl⟩:=O;obtain⟨a6,r,pl,hz⟩:=I.tuple Y;obtain⟨j,h1,h2,h3,h4,h5⟩:=Wi he;obtain⟨w,ew,a2⟩:=r.get h2;have hl:=r.length;have hn:=Jv;have a4:EP X pins σ Q w s:=⟨z,H,I,a2,q⟩;exact S? (x:=w) pl.typeIs slot_tuple_getitem.lookup
  (getItem_tuple (j:=j) (Q:=λr s'=>r=w/\EP X pins σ Q r s') pl ⋯ ⋯ (by rw[NK,<- hl];exact h1) (by simpa using ew) ⟨rfl,a4⟩) hs
theorem ER:FG X MG:=by
 intro value a3 pins s σ H x y v u Q I rx O h hs;obtain⟨z,i,c,rfl,rfl,hz,Y,q⟩:=h;obtain⟨t,rfl⟩:=rx;obtain⟨t',rfl⟩:=O;obtain⟨j,h1,h2,h3,h4,h5⟩:=Wi Y;have hl:z.cps.toList.length=z.length:=by simp[Str.length]
 rw[hl]at h1 h4 h5;have hn:=Jv;exact tail_any (y_ s z t) slot_str_getitem.lookup (getItem_str (c:=c) (by
  have e1:decide (i < -(2 ^ 63:Int))=d7:=decide_eq_false ⋯;have e2:decide (i>=2 ^ 63)=d7:=decide_eq_false ⋯;rw[e1,e2,Bool.or_false]) (by rw[h1];simpa using h2) ⟨.str ⟨#[c]⟩,H,I.tok _,⟨_,rfl⟩,q⟩) hs
theorem cY(z:List fm)(n j:Nat)(u:fm):PL (·.setIfInBounds j u) {cls:= .type "list",data:= .seq z.toArray n} = {cls:= .type "list",data:= .seq (z.set j u).toArray n}:=by simp[PL]
theorem Inv.lst(I:Inv X pins σ H s)(h:H p=cI (.lst xs)) :
 ∃(O:List fm) (n:Nat),i8 xs O/\s.heap.get? p=cI {cls:= .type "list",data:= .seq O.toArray n}/\xs.length<=kv:=by
 obtain⟨z,O,n,r,e⟩:=I.i7 p _ h;exact⟨O,n,r,e,z⟩
theorem Inv.C?{pins:TW}{σ:St}{H:Hp}{s:gx}{p:d8}{xs ys:List V}{z its':List fm}{n n':Nat}{f:o8->o8}(I:Inv X pins σ H s)(h:H p=cI (.lst xs))
 (Y:s.heap.get? p=cI {cls:= .type "list",data:= .seq z.toArray n}) (O:f {cls:= .type "list",data:= .seq z.toArray n} = {cls:= .type "list",data:= .seq its'.toArray n'}) (r:i8 ys its') (hz:ys.length<=kv) (t:Nat) :
 Inv X pins σ (upd H p<|.lst ys) {s with heap:=s.heap.update p f,toks:=t}:=by
 have e:(s.heap.update p f).get? p=cI {cls:= .type "list",data:= .seq its'.toArray n'}:=by rw[RW f Y (by rw[O]<;>rfl),O]
 refine I.write (x:=p) (e:=p) (by rw[h];trivial) (.inl rfl) (λb u hb q=>(TQ _ _<|OQ hb).trans q) ⟨_,e⟩ ?_;exact⟨hz,its',n',r,e⟩
def nC:V->V->V->Hp->(Hp->Prop)->Prop:=λo i v H Q=>∃p xs k j,o = .ref p/\i = .int k/\H p=cI (.lst xs)/\GA xs.length k=cI j/\Q (upd H p<|.lst<|xs.set j v)
theorem nc:Ml X nC:=by
 intro pins s σ H o i v ov iv u Q I ro ri rv h;obtain⟨p,xs,k,j,rfl,rfl,Y,hj,q⟩:=h;cases ro;obtain⟨t,rfl⟩:=ri;obtain⟨a0,n,r,z,hz⟩:=I.lst Y;obtain⟨h1,h2,h3,h4⟩:=V0 hj;have O:=r.length;have hn:=Jv;have I':Inv X pins σ (upd H p<|.lst<|xs.set j v) {s with heap:=s.heap.update p (PL (·.setIfInBounds j u))}:=
  I.C? Y z (cY a0 n j u) (r.set rv j) (by rw[Rj];exact hz) s.toks
 by_cases h0:0<=k
 ·have hk:k.toNat=j:=by
   rw[_l h0 h4]at h1;exact Oj h1
  exact PySem.W.ki_setAt z h0 ⋯ (by rw[NK,<- O];exact h4) (by rw[hk];exact⟨_,I',q⟩)
 ·have hk:(k+(a0.toArray.size:Int)).toNat=j:=by
   rw[_k ⋯ h3]at h1;rw[NK,<- O];exact Oj h1
  exact PySem.W.ki_setBack z ⋯ (by rw[NK,<- O];exact h3) ⋯ (by rw[hk];exact⟨_,I',q⟩)
def Ku:V->Bool
 | .i5=>cL
 | .bl _=>cL
 | .int _=>cL
 | .str _=>cL
 | _=>d7
def D9:V->V->Bool
 | .i5,.i5=>cL
 | .bl a,.bl b=>a==b
 | .bl a,.int b=>(if a then 1 else 0)==b
 | .int a,.bl b=>a==(if b then 1 else 0)
 | .int a,.int b=>a==b
 | .str a,.str b=>a==b
 | _,_=>d7
theorem Fb(z:RelV y u)(rx:RelV x v)(I:Ku y=cL)(fx:Ku x=cL):Pj A s u v (D9 y x):=by
 cases y with
 | i5=>
  cases z;cases x with
  | i5=>cases rx;exact Pj.same _
  | bl b=>cases rx;exact Pj.none_bool b
  | int b=>obtain⟨t,rfl⟩:=rx;exact Pj.none_int b t
  | str b=>obtain⟨t,rfl⟩:=rx;exact Pj.none_str b t
  | _=>exact absurd (show d7=cL from fx) NM
 | bl a=>
  cases z;cases x with
  | i5=>cases rx;exact Pj.bool_none a
  | bl b=>cases rx;exact Pj.bool_bool a b
  | int b=>obtain⟨t,rfl⟩:=rx;exact Pj.bool_int a b t
  | str b=>obtain⟨t,rfl⟩:=rx;exact Pj.bool_str a b t
  | _=>exact absurd (show d7=cL from fx) NM
 | int a=>
  obtain⟨t',rfl⟩:=z;cases x with
  | i5=>cases rx;exact Pj.int_none a t'
  | bl b=>cases rx;exact Pj.int_bool a t' b
  | int b=>obtain⟨t,rfl⟩:=rx;exact TY a t' b t
  | str b=>obtain⟨t,rfl⟩:=rx;exact Pj.int_str a t' b t
  | _=>exact absurd (show d7=cL from fx) NM
 | str a=>
  obtain⟨t',rfl⟩:=z;cases x with
  | i5=>cases rx;exact Pj.str_none a t'
  | bl b=>cases rx;exact Pj.str_bool a t' b
  | int b=>obtain⟨t,rfl⟩:=rx;exact Pj.str_int a t' b t
  | str b=>obtain⟨t,rfl⟩:=rx;exact Pj.str_str a t' b t
  | _=>exact absurd (show d7=cL from fx) NM
 | _=>exact absurd (show d7=cL from I) NM
def D8(x:V)(u:fm):Bool:=match u with
 | .none=>D9 .i5 x
 | .bool b=>D9 (.bl b) x
 | .int i _=>D9 (.int i) x
 | .str z _=>D9 (.str z) x
 | _=>d7
theorem su(r:RelV y u)(f:Ku y=cL):D8 x u=D9 y x:=by
 cases y with
 | i5=>cases r;rfl
 | bl b=>cases r;rfl
 | int i=>obtain⟨t,rfl⟩:=r;rfl
 | str z=>obtain⟨t,rfl⟩:=r;rfl
 | _=>exact absurd (show d7=cL from f) NM
theorem Wo : ∀{xs:List V} {us:List fm},i8 xs us->xs.all Ku=cL->us.any (D8 x)=xs.any λy=>D9 y x
 | _,_,.nil,_=>rfl
 | y::xs,u::us,.cons r t,f=>by rw[List.all_cons,NI]at f;rw[Tz,Tz,su r f.1,Wo t f.2]
theorem Kh(rx:RelV x v)(fx:Ku x=cL) : ∀{xs:List V} {us:List fm},i8 xs us->xs.all Ku=cL->∀u∈us,Pj A s u v (D8 x u)
 | _,_,.nil,_=>λu z=>by cases z
 | y::xs,u::us,.cons r t,f=>λI z=>by
  rw[List.all_cons,NI]at f;rcases NP.mp z with rfl | z
  ·rw[su r f.1];exact Fb r rx f.1 fx
  ·exact Kh rx fx t f.2 I z
def MR(x:V)(xs:List V):Bool:=xs.any λy=>D9 y x
def L?(K:Nr)(z:Bool):R2:=λx y H Q=>∃p xs,y = .ref p/\(lK K H p xs\/k0 K H p xs)/\Ku x=cL/\xs.all Ku=cL/\Q (.bl<|if z then !MR x xs else MR x xs) H
theorem Yu:n4 X (wW .NotIn) (L? X.K cL):=by
 intro pins s σ H x y v u Q I rx Y h;obtain⟨p,xs,rfl,z,fx,fs,q⟩:=h;cases Y;rcases z with z | z
 ·obtain⟨O,r,pl,hz⟩:=I.list z
  refine SeqAt.notIn_listAt (D8 x) pl.isList (λw hw=>Kh rx fx r fs w<|by simpa using hw) ⟨.bl _,H,I,rfl,?_⟩;rw[show O.toArray.any (D8 x)=O.any (D8 x)by simp,Wo r fs];exact q
 ·obtain⟨O,r,pl,hz⟩:=I.tuple z
  refine SeqAt.notIn_tupleAt (D8 x) pl (λw hw=>Kh rx fx r fs w<|by simpa using hw) ⟨.bl _,H,I,rfl,?_⟩;rw[show O.toArray.any (D8 x)=O.any (D8 x)by simp,Wo r fs];exact q
theorem Y7:Zv X (.builtin "len") (λxs H Q=>∃p ys,xs=[.ref p]/\(lK X.K H p ys\/k0 X.K H p ys)/\Q (.int ys.length) H):=by
 intro pins s σ H xs us Q I r h;obtain⟨p,ys,rfl,z,q⟩:=h;obtain⟨u,rfl,rx⟩:=yw r;cases rx;have hn:=Jv;rcases z with z | z
 ·obtain⟨Y,r',pl,hz⟩:=I.list z
  have O:=r'.length;exact Calls.call_len_list pl.isList (by simp only[NK]<;>omega) ⟨.int ys.length,H,I.tok _,⟨s.toks+1,by rw[NK,O]⟩,q⟩
 ·obtain⟨Y,r',pl,hz⟩:=I.tuple z
  have O:=r'.length;exact len_tuple pl (by simp only[NK]<;>omega) ⟨.int ys.length,H,I.tok _,⟨s.toks+1,by rw[NK,O]⟩,q⟩
theorem Y6:Zv X (.builtin "len") (λxs H Q=>∃z,xs=[.str z]/\z.length<=kv/\Q (.int z.length) H):=by intro pins s σ H xs us Q I r h;obtain⟨z,rfl,hz,q⟩:=h;obtain⟨u,rfl,t,rfl⟩:=yw r;have hn:=Jv;exact len_str ⋯ ⟨.int z.length,H,I.tok _,⟨_,rfl⟩,q⟩
theorem Y5:Zv X (.type "list") (λxs H Q=>∃p ys,xs=[.ref p]/\(lK X.K H p ys\/k0 X.K H p ys)/\∀l,H l=cR->Q (.ref l) (upd H l (.lst ys))):=by
 intro pins s σ H xs us Q I r h;obtain⟨p,ys,rfl,O,q⟩:=h;obtain⟨u,rfl,rx⟩:=yw r;cases rx;have a1 : ∀(z:List fm),i8 ys z->ys.length<=kv->∀(h':je) (c':Nat),(∀b o',s.heap.get? b=cI o'->h'.get? b=cI o')->
  h'.get? s.heap.objs.size=cI {cls:= .type "list",dict:=cR,data:= .seq z.toArray c',slots:=#[]}->EP X pins σ Q (.ref s.heap.objs.size) {s with heap:=h'}:=λz r' hz h' c' kp e=>
  ⟨.ref s.heap.objs.size,_,I.laid (t':=s.toks) kp (NJ _) (show oi X.prog X.w _ h' _ (.lst ys)from⟨hz,z,c',r',e⟩),rfl,q _<|I.i7.fresh<|NJ _⟩
 rcases O with O | O
 ·obtain⟨z,r',pl,hz⟩:=I.list O
  have a2:=r'.length;obtain⟨o,Y,hc,n,hd⟩:=pl.isList;exact call_list_seq p (.inl rfl) Y hc hd (λh' c' kp e=>a1 z r' hz h' c' kp e) (by simp only[NK]<;>omega)
 ·obtain⟨z,r',pl,hz⟩:=I.tuple O
  have a2:=r'.length;obtain⟨o,Y,hc,n,hd⟩:=pl;exact call_list_seq p (.inr rfl) Y hc hd (λh' c' kp e=>a1 z r' hz h' c' kp e) (by simp only[NK]<;>omega)
theorem KF:Zv X (.type "tuple") (λxs H Q=>∃p ys,xs=[.ref p]/\((lK X.K H p ys/\∀l,H l=cR->Q (.ref l) (upd H l (.tup ys)))\/(k0 X.K H p ys/\Q (.ref p) H))):=by
 intro pins s σ H xs us Q I r h;obtain⟨p,ys,rfl,h⟩:=h;obtain⟨u,rfl,rx⟩:=yw r;cases rx;rcases h with⟨z,q⟩ | ⟨z,q⟩
 ·obtain⟨O,r',pl,hz⟩:=I.list z
  have a1:=r'.length;refine call_tuple_list pl.isList (λh' kp=>?_) (by simp only[NK]<;>omega);have Y:Inv X pins σ H {s with heap:=h'}:=I.kept (t':=s.toks) kp;have I2:Inv X pins σ (upd H h'.objs.size (.tup ys)) {s with heap:=h'.push {cls:= .type "tuple",data:= .seq O.toArray}}:=
   Y.laid (t':=s.toks) (λb o e=>Nv _ e) (NJ _) (show oi X.prog X.w _ _ _ (.tup ys)from⟨hz,O,r',DC.new _ _⟩)
  exact⟨.ref h'.objs.size,_,I2,rfl,q _<|Y.i7.fresh<|NJ _⟩
 ·obtain⟨O,r',pl,hz⟩:=I.tuple z
  exact call_tuple_same pl ⟨.ref p,H,I,rfl,q⟩
def _x(K:Nr)(T:String)(x:V)(H:Hp):Prop:=match x with
 | .str _=>T = "str"
 | .int _=>T = "int"
 | .ref p=>(T = "list"/\∃xs,lK K H p xs)\/(T = "tuple"/\∃o,K.lookup p=cI o/\o.cls = .type "tuple"/\o.dict=cR)\/
  (T = "dict"/\((∃hJ,H p=cI (.dK hJ))\/∃hJ,H p=cI (.dT hJ)))\/(T = "set"/\∃S n,H p=cI (.set S n))
 | _=>False
theorem BG(I:Inv X pins σ H s)(r:RelV x v)(ty:_x X.K T x H) :
 s.TypeIs v T/\∀a,v = .ref a->∃O,s.heap.get? a=cI O/\O.dict=cR:=by
 cases x with
 | str z=>
  obtain⟨t,rfl⟩:=r;cases (show T = "str" from ty);exact⟨y_ s z t,λ_ e=>nomatch e⟩
 | int i=>
  obtain⟨t,rfl⟩:=r;cases (show T = "int" from ty);exact⟨_y s i t,λ_ e=>nomatch e⟩
 | ref p=>
  cases r;rcases ty with⟨rfl,xs,Y⟩ | ⟨rfl,o,hk,hc,hd⟩ | ⟨rfl,hk⟩ | ⟨rfl,S,n,hk⟩
  ·obtain⟨a1,_,pl,_⟩:=I.list Y
   refine⟨pl.isList.typeIs,λa e=>?_⟩;cases e;obtain⟨o,n,e,c,hd,_⟩:=pl;exact⟨o,e,hd⟩
  ·refine⟨⟨o,I.pK p o hk,hc⟩,λa e=>?_⟩
   cases e;exact⟨o,I.pK _ o hk,hd⟩
  ·have z : ∃o,s.heap.get? p=cI o/\o.ExactDict:=by
    rcases hk with⟨hJ,hk⟩ | ⟨hJ,hk⟩
    ·obtain⟨_,_,_,_,o,_,_,e,ex,_⟩:=I.i7 p _ hk
     exact⟨o,e,ex⟩
    ·obtain⟨_,_,_,_,o,_,_,e,ex,_⟩:=I.i7 p _ hk
     exact⟨o,e,ex⟩
   obtain⟨o,e,ex⟩:=z;refine⟨⟨o,e,ex.1⟩,λa e2=>?_⟩;cases e2;exact⟨o,e,ex.2.1⟩
  ·obtain⟨o,_,_,_,e,ex,_⟩:=I.i7 p _ hk
   refine⟨⟨o,e,ex.1⟩,λa e2=>?_⟩;cases e2;exact⟨o,e,ex.2.1⟩
 | _=>exact RD ty
def k_(K:Nr)(T:String)(r:V->List V->Hp->VK->Prop)(to:TE)(t:TA):TE:=λσ H Q=>to σ H λx H1=>_x K T x H1/\t σ H1 λxs H2=>r x xs H2 Q
variable{o e:f7}{es:List f7}{to:TE}{t:TA}{name:Str}{apos cpos:kr}{T id:String}{r:V->List V->Hp->VK->Prop}
theorem cJ(pa:PlainAttrs T)(slot:Slot T name id)(a1:typeOf (.builtin id)=pure (.type "method_descriptor"))(hm:P5 X id r)(ho:PE X o to)(ha:PA X (e::es) t)
 (a3:DF o name X.env (f9 o X.env)=f9 o X.env:=by rfl)
 (a4:((r9 cpos<|starEach (e::es) X.env).all (λx=> !x.1) && (D4 cpos<|keywordEach [] X.env).all (λx=>x.1.isSome)
   && decide ((e::es).length+([]:List A9).length+(if ([]:List A9).isEmpty then 0 else 1)<30))=cL:=by rfl)
 (a5:(apos.endLine==cpos.line)=cL:=by rfl) (hs:i6 (e::es) X.env=(d7,f9 e X.env)::i6 es X.env:=by rfl) (a6:(r9 cpos<|starEach es X.env).any (·.1)=d7:=by rfl) :
 PE X (.Call (.Attribute o name apos) (e::es) [] cpos) (k_ X.K T r to t):=by
 intro pins s σ H Q I h;refine wpAny_Call_method_late a3 a4 a5 rfl<|ip (ho pins s σ H _ I h) λv s1 hZ=>?_;obtain⟨x,H1,z,O,ty,q1⟩:=hZ;obtain⟨h1,h2⟩:=BG z O ty;refine⟨T,id,pa,slot,a1,h1,h2,?_⟩;have Y:=ha cpos pins s1 σ H1 _ z q1;rw[hs]at Y ⊢;refine TM (by show(d7 || (r9 cpos<|starEach es X.env).any (·.1))=d7;rw[a6]<;>rfl)<|Calls.evalArgs_plain ?_;exact ip Y λus s2 ⟨vs,H2,I2,r2,q2⟩=>hm pins s2 σ H2 x vs v us Q I2 O r2 q2
end
def P4(X:Cx)(id:String)(r:V->List V->Hp->VK->Prop):Prop:=
 ∀(pins:TW) (s:gx) (σ:St) (H:Hp) (x:V) (xs:List V) (v:fm) (us:List fm) (Q:VK),Inv X pins σ H s->RelV x v->i8 xs us->r x xs H Q->
  wpAny (gv X.prog X.w) X.A (call (.builtin id) (v::us)) (EP X pins σ Q) X.xe s
theorem i8.one : ∀{x:V} {us:List fm},i8 [x] us->∃u,us=[u]/\RelV x u
 | _,_,.cons r .nil=>⟨_,rfl,r⟩
theorem i8.dropLast(h:i8 xs us):i8 xs.dropLast us.dropLast:=by
 induction h with
 | nil=>exact .nil
 | cons r t z=>
  cases t with
  | nil=>exact .nil
  | cons q t'=>exact .cons r z
theorem i8.rep(h:i8 xs us) : ∀k:Nat,i8 (NB k xs).flatten (NB k us).flatten
 | 0=> .nil
 | k+1=>by rw[PX,PX,RF,RF];exact i8.append h<|i8.rep h k
theorem YX(z:List fm) : ∀(k:Nat) (acc:List fm),
 List.foldl (λx1 I=>x1++I) acc.toArray (NB k z.toArray)=(acc++(NB k z).flatten).toArray
 | 0,acc=>by simp
 | k+1,acc=>by
  have e:acc.toArray++z.toArray=(acc++z).toArray:=by simp
  have e2:(acc++z)++(NB k z).flatten=acc++(NB (k+1) z).flatten:=by rw[PX,RF,Sd]
  rw[<- e2,<- YX z k (acc++z),<- e,PX,List.foldl_cons]
section
variable{X:Cx}{pins:TW}{σ:St}{H:Hp}{s:gx}{l b:d8}{xs ys zs:List V}
theorem Inv.M5{z its':List fm}{n:Nat}{f:Array fm->Array fm}{t':Nat}(I:Inv X pins σ H s)(O:H l=cI (.lst xs))
 (e:s.heap.get? l=cI {cls:= .type "list",data:= .seq z.toArray n}) (Y:f z.toArray=its'.toArray) (hv:i8 ys its') (hz:ys.length<=kv) :
 Inv X pins σ (upd H l<|.lst ys) {s with heap:=s.heap.update l<|PL f,toks:=t'}:=by
 have q:=PySem.IsL.update e f;rw[Y]at q;refine I.write (x:=l) (e:=l) (by rw[O];exact trivial) (.inl rfl) (λb' u hb hu=>(TQ s.heap (PL f)<|OQ hb).trans hu) ⟨_,q⟩ ?_;exact⟨hz,its',_,hv,q⟩
theorem Inv.B?(I:Inv X pins σ H s)(O:i8 ys z)(hz:ys.length<=kv) :
 Inv X pins σ (upd H s.heap.objs.size (.lst ys)) {s with heap:=s.heap.push {cls:= .type "list",data:= .seq z.toArray},toks:=t'}:=
 I.laid (λ_ _ q=>Nv _ q) (NJ _) ⟨hz,z,0,O,NO _ rfl⟩
theorem Inv.fresh(I:Inv X pins σ H s):H s.heap.objs.size=cR:=I.i7.fresh<|NJ _
theorem Inv.F1(I:Inv X pins σ H s)(Y:H l=cI (.lst xs)):xs.length<=kv/\∃(O:List fm) (n:Nat),i8 xs O/\xs.length=O.length/\s.heap.get? l=cI {cls:= .type "list",data:= .seq O.toArray n}:=by obtain⟨z,O,n,r,e⟩:=I.i7 l _ Y;exact⟨z,O,n,r,r.length,e⟩
theorem ay(h:n<=kv):Rp n=d7:=by unfold Rp;exact decide_eq_false ⋯
end
section
variable{X:Cx}
def Vz:V->List V->Hp->VK->Prop:=λx vs H Q=>∃l xs y,x = .ref l/\vs=[y]/\H l=cI (.lst xs)/\xs.length<kv/\Q .i5 (upd H l<|.lst<|xs++[y])
theorem YH:P4 X "list.append" Vz:=by intro pins s σ H x vs v us Q I rx rv h;obtain⟨l,xs,y,rfl,rfl,O,hz,q⟩:=h;cases rx;obtain⟨u,rfl,ru⟩:=rv.one;obtain⟨z,Y,n,r,hl,e⟩:=I.F1 O;refine SD F.slot_list_append ⟨_,e,rfl⟩ F.entry_list_append (F.args_list_append_2 _ _) (PySem.list_append l Y.toArray n u (by rw[NK];omega)) ⟨e,?_⟩;refine⟨.i5,_,I.M5 (its':=Y++[u]) O e ⋯ (r.append (.cons ru .nil)) ?_,rfl,q⟩;rw[Ol,Rv];omega
def ui:V->List V->Hp->VK->Prop:=λx vs H Q=>∃l b xs zs,x = .ref l/\vs=[.ref b]/\H l=cI (.lst xs)/\H b=cI (.lst zs)/\xs.length+zs.length<=kv/\Q .i5 (upd H l<|.lst<|xs++zs)
theorem gK:P4 X "list.extend" ui:=by
 intro pins s σ H x vs v us Q I rx rv h;obtain⟨l,b,xs,zs,rfl,rfl,hH,hB,hz,q⟩:=h;cases rx;obtain⟨u,rfl,ru⟩:=rv.one;cases ru;obtain⟨z,O,n,r,hl,e⟩:=I.F1 hH;obtain⟨z2,Y,n2,r2,a6,e2⟩:=I.F1 hB;have hsz:O.toArray.size+Y.toArray.size<=kv:=by rw[NK,NK];omega
 have a4 : ¬(!O.toArray.isEmpty && Rp (O.toArray.size+Y.toArray.size))=cL:=by rw[ay hsz,Bool.and_false];exact NM
 refine SD F.slot_list_extend ⟨_,e,rfl⟩ F.entry_list_extend (F.args_list_extend_2 _ _)
  (AutoSeq1.list_extend_list_list_0 l O.toArray n b Y.toArray n2 a4 (by rw[NK];omega) ⋯) ⟨e,e2,?_⟩
 refine⟨.i5,_,I.M5 (its':=O++Y) hH e ⋯ (r.append r2) ?_,rfl,q⟩;rw[Ol];omega
theorem gY(xs:List α)(k:Nat):(NB k xs).flatten.length=k*xs.length:=by
 induction k with
 | zero=>simp
 | succ k z=>rw[PX,RF,Ol,z,Nat.succ_mul,Nat.add_comm]
end
end L2
namespace Att
open PySem PySem.W PySem.Calls PyProof.Rows
theorem Jy : ∀(ns:List Int) (vs:List fm),WellAll P h vs (ns.map WData.int)->L4 vs ns:=by
 intro ns
 induction ns with
 | nil=>
  intro vs w;rw[UI]at w;cases w;exact .nil
 | cons n ns z=>
  intro vs w;rw[NY]at w;cases w with
  | cons a b=>
   cases a;exact .cons _ _<|z _ b
theorem fD{l:OpenLaw}{n:Nat}(hn:l.most=cI n){P:Params}{h:je}{args:List WData}{O:List fm}
 (Y:l.row.toRowW.claim.pre args=cL) (a1:WellAll P h O args) :
 ∃a vs ns,O=[Of a]/\args=[WData.list (ns.map WData.int)]/\h.get? a=cI {cls:= .type "list",data:= .seq vs.toArray}/\L4 vs ns/\ns.length<=n:=by
 have a2:WShape.hasAll [] args [.list .int]=cL:=(pre_splitW Y).1;have hc:l.pre.holds [] {args:=args}=cL:=(pre_splitW Y).2;obtain⟨d,r,rfl,h1,h2⟩:=hasAllW_cons a2;obtain rfl:=hasAllW_nil h2;obtain⟨xs,rfl,h3⟩:=hasW_list h1;obtain⟨ns,rfl⟩:=items_int h3;have a4:ns.length<=n:=by
  unfold OpenLaw.pre at hc;have z:(WTm.not<|.lt (.lit<|.int (n:Int))<|.len<|.arg 0).holds [] {args:=[.list (ns.map .int)]}=cL:=by have z:=(holds_andW hc).1;rw[hn]at z;exact z
  have I:=condW_of z<|w_not<|w_lt w_lit<|w_len_list<|w_arg rfl;rw[NV]at I;refine Nat.le_of_not_lt λq=>?_;have q':(n:Int)<((ns.length:Nat):Int):=by omega
  first
   | (rw[decide_eq_true q']at I;exact absurd I ⋯)
   | (simp at I;omega)
 cases a1 with
 | cons w1 w2=>
  cases w2;cases w1 with
  | list ho a7=>exact⟨_,_,ns,rfl,rfl,ho,Jy ns _ a7,a4⟩
theorem gg(l:OpenLaw)(args:List WData):l.row.toRowW.claim.post args (.bool cL) args=cL:=
 postW_of (r:=l.row.toRowW) (X:=(cL==cL))
  (show WShape.has [] (.bool cL) .bool=cL by first | rfl | decide | simp[WShape.has,WShape.arms,WShape.armsAll])
  (show(WTm.eq .res<|.lit<|.bool cL).value [] {args:=args,res:=cI (.bool cL),after:=args}=cI (.bool<|true==cL)from w_eq_bool (w_res rfl) w_lit) rfl
theorem AW{l:OpenLaw}{n:Nat}{q:m4}{O:List Str}{XP:(Str->Option fm)->je->Prop}{YP:l0->je->Prop}{d:DefRec}
 (hn:l.most=cI n) (a3:d.params.defaults=[])
 (call : ∀(w:l0) (t9 z:gx) (mg mb:DX) (fa:d8) (o:o8) (pm I doc:fm) (a:d8) (vs:List fm) (ns:List Int),
   Ground q O [] XP w t9 mg mb z.heap->YP w z.heap->
   z.heap.get? fa=cI o->o.data = .func (docDef d.name d.params d.body d.scope pm I doc)->z.heap.CodeRec I d.name->mg d.name=cI (.ref fa)->
   z.heap.get? a=cI {cls:= .type "list",data:= .seq vs.toArray}->L4 vs ns->ns.length<=n->z.gens = #[]->
   codeAny (gv l.prog w) Gr (.call (.ref fa) ⟨[.ref a],[]⟩) (λr s'=>r = .ok (.ret<|.bool cL)/\OldK z.heap s'.heap/\s'.os=z.os/\FC s'.gens) z) :
 WalkO q O XP YP l.row.toRowW d [] (λf vs=>PySem.call f vs):=by
 intro w t9 z mg mb G Y fa o pm I doc dV kV ho hd a6 hD a7 hg args an as a9 ar ax aa b0;obtain rfl:dV = .none:=Dflts.none hD a3;obtain rfl:kV = .none:=Dflts.noKw hD;obtain⟨a,vs,ns,rfl,rfl,ab,ac,ae⟩:=fD hn a9 aa;refine enter_call<|Uq (call w t9 z mg mb fa o pm I doc a vs ns G Y ho (fd_plain hd) a6 a7 ab ac ae hg) λr s' hq=>?_;obtain⟨rfl,h2,h3,h4⟩:=hq;exact⟨.inl ⟨.bool cL,.bool cL,[],rfl,λ_=>rfl,.bool cL,gg l _,λ_=>⟨List.Pairwise.nil,λ_ hm=>(nomatch hm)⟩⟩,h2,h3,h4⟩
end Att
namespace L2
open PySem PySem.Spec PyProof.Rows
theorem vC : ∀{vs:List fm} {ns:List Int},L4 vs ns->i8 (ns.map V.int) vs
 | _,_,.nil=> .nil
 | _,_,.cons n t h=> .cons ⟨t,rfl⟩ (vC h)
def GJ(H:Hp):Prop:=∀b,H b=cR\/∃o xs,H b=cI (.B3 o<|.lst xs)
theorem oT{P:m4}{w:l0}{K:Nr}{mg mb:DX}{CX:Dp}{k:Nat}{fa a:d8}{fd:u6}{x:Str}{sp:Sp}{I:gx}{vs:List fm}{ns:List Int}
 (KX:K.In I.heap) (a2:I.heap.Ns A7 mg) (hb:I.heap.Ns P_ mb) (a9 : ∀x:Str,x ≠ "__name__"->mb x=D5 x) (aa:I.heap.NoLimit) (hg:I.gens = #[])
 (ha:I.heap.get? a=cI {cls:= .type "list",data:= .seq vs.toArray}) (hi:L4 vs ns) (hl:ns.length<=kv) (hr:t6 k Gr)
 (F : ∀base:je,K.In base->base.Ns A7 mg->p5 P w K mg base CX k fa fd [x] sp) (ae : ∀(s:gx) (u:fm),L0 s fd ⟨[u],[]⟩ [(x,u)])
 (ag : ∀H:Hp,GJ H->lK K H a (ns.map V.int)->sp [.ref a] H (λv _=>v = .bl cL) λ_ _ _=>False)
 (ak : ∀H e s',CX [] H I (λ_ _ _=>False) e s'->False) :
 codeAny (gv P w) Gr (.call (.ref fa) ⟨[.ref a],[]⟩) (λr s'=>r = .ok (.ret<|.bool cL)/\OldK I.heap s'.heap/\s'.os=I.os/\FC s'.gens) I:=by
 have rv:=vC hi;have am:=hi.length;have a5 : ∀H:Hp,GJ H->lK K H a (ns.map V.int)->p6 P w H I.heap->(∀b,H b≠cR->b=a)->(H a≠cR->K.lookup a=cR)->
  codeAny (gv P w) Gr (.call (.ref fa) ⟨[.ref a],[]⟩) (λr s'=>r = .ok (.ret<|.bool cL)/\OldK I.heap s'.heap/\s'.os=I.os/\FC s'.gens) I:=by
  intro H hO hS i7 hA hK;have N_ : ∀{b:d8} {o:o8},I.heap.get? b=cI o->H b=cR->(ph I.heap H).get? b=cI o:=λe n=>pf e n;have ar : ∀{b:d8} {o:o8} {es:Array L3} {ep:Nat},I.heap.get? b=cI o->o.data = .dict es ep->H b=cR:=λ{b o es ep} e d=>by
   cases q:H b with
   | none=>rfl
   | some u=>
    have e':b=a:=hA b (by rw[q];simp);subst e';rw[ha]at e;cases e;have d':Data.seq vs.toArray _=Data.dict es ep:=d;cases d'
  have Y : ∀{b:d8} {m:DX},I.heap.Ns b m->(ph I.heap H).Ns b m:=λ{b m} ⟨o,es,ep,e,d,r⟩=>⟨o,es,ep,N_ e<|ar e d,d,r⟩;have a8:K.In (ph I.heap H):=λb o e=>N_ (KX b o e) (by
   cases q:H b with
   | none=>rfl
   | some u=>
    have e':b=a:=hA b (by rw[q];simp);subst e';rw[hK (by rw[q];simp)]at e;cases e)
  have hM:Mod K mg (ph I.heap H):=⟨a8,Y a2,⟨mb,Y hb,a9⟩,let ⟨mc,h1,h2⟩:=aa;⟨mc,Y h1,h2⟩⟩;have e0:Gg P w K mg (ph I.heap H) Gr [] I H:=⟨rfl,hM,λb o e=>uY e,Nat.le_of_eq<|iC _ _,trivial,λb hb=>absurd (show b∈([]:List d8)from hb) ⋯,i7,.of_eq hg⟩;refine Uq ((F _ a8<|Y a2).run Gr [] I H ⟨[.ref a],[]⟩ [.ref a] [.ref a] _ _ hr e0 (ae I<|.ref a) (.cons rfl .nil) (ag H hO hS)) λr s' h=>?_;cases r with
  | error e=>exact(ak H e s' h).elim
  | ok fl=>
   cases fl with
   | next=>exact RD h
   | brk=>exact RD h
   | cont=>exact RD h
   | ret u=>
    obtain⟨v,H',os,bare,un,ba,r',q⟩:=h;have q':v = .bl cL:=q;subst q';obtain rfl:u=UB cL:=r';refine⟨rfl,OldK.of_keep λb o e=>?_,os,bare⟩;cases q:H b with
    | none=>exact un.keep b o e q (by intro z;exact absurd (show b∈([]:List d8)from z) ⋯) ⋯
    | some u=>
     rcases hO b with z | ⟨ob,xs,z⟩
     ·rw[q]at z;cases z
     ·have z2:=un.El b ob _ z
      obtain⟨e1,_⟩:=i7 b _ z;obtain⟨e2,_⟩:=ba b _ z2;rw[e]at e1;cases e1;exact e2
 cases hk:K.lookup a with
 | some o=>
  have e:=KX a o hk;rw[ha]at e;cases e;refine a5 (λ_=>cR) (λ_=> .inl rfl) (.inr ⟨_,vs.toArray,_,hk,rfl,rfl,rfl,by rw[NK,am];exact hl,by simpa using rv⟩) (λb u z=>by have O:(cR:Option HO)=cI u:=z;cases O) (λb z=>absurd rfl z) λz=>absurd rfl z
 | none=>
  refine a5 (λb=>if b=a then cI (.B3 {cls:= .type "list",data:= .seq vs.toArray} (.lst (ns.map V.int)))else cR) (λb=>?_) (.inl (.inr ⟨{cls:= .type "list",data:= .seq vs.toArray},DZ rfl⟩)) (λb u z=>?_) (λb z=>?_) λ_=>hk
  ·by_cases hb:b=a
   ·exact .inr ⟨_,_,DZ hb⟩
   ·exact .inl<|DJ hb
  ·by_cases hb:b=a
   ·have O:=(DZ hb).symm.trans z
    cases O;subst hb;exact⟨ha,by rw[NV];exact hl,vs,_,rv,ha⟩
   ·have O:=(DJ hb).symm.trans z
    cases O
  ·by_cases hb:b=a
   ·exact hb
   ·exact absurd (DJ hb) z
abbrev C7{K:Nr}{h:je}(_:K.In h):Nr:=K
theorem sO{l:PySem.W.OpenLaw}{n k:Nat}{q:m4}{a0:List Str}{XP:(Str->Option fm)->je->Prop}{z:l0->je->Prop}{d:DefRec}{K:Params->Nr}{CX:l0->Dp}{sp:l0->Sp}{x:Str}
 (hn:l.most=cI n) (a2:n<=kv) (a3:d.params.defaults=[]) (hr:t6 k Gr)
 (hY : ∀(w:l0) (h:je),z w h->(K w.params).In h)
 (F : ∀(w:l0) (mg:DX) (fa:d8) (h:je),(K w.params).In h->h.Ns A7 mg->mg d.name=cI (.ref fa)->
   ∃fd:u6,(∀(s:gx) (u:fm),L0 s fd ⟨[u],[]⟩ [(x,u)])/\
    ∀base:je,(K w.params).In base->base.Ns A7 mg->p5 l.prog w (K w.params) mg base (CX w) k fa fd [x] (sp w))
 (a6 : ∀(w:l0) (H:Hp) (a:d8) (ns:List Int),ns.length<=n->GJ H->lK (K w.params) H a (ns.map V.int)->sp w [.ref a] H (λv _=>v = .bl cL) λ_ _ _=>False)
 (a7 : ∀(w:l0) (H:Hp) (s:gx) (e:fm) (s':gx),CX w [] H s (λ_ _ _=>False) e s'->False) :
 PySem.W.WalkO q a0 XP z l.row.toRowW d [] (λf vs=>PySem.call f vs):=by
 refine Att.AW hn a3 λw t9 GG mg mb fa o pm cd doc a vs ns G Y ho hd ap a9 aa ab I hg=>?_;have O:=hY w _ Y;obtain⟨fd,hb,hF⟩:=F w mg fa _ O G.T.g a9;exact oT O G.T.g G.T.b G.T.builtins G.T.nolimit hg aa ab (OH I a2) hr hF hb (λH hO hS=>a6 w H a ns I hO hS) λH e s'=>a7 w H GG e s'
theorem FP{l:PySem.W.OpenLaw}{n k:Nat}{q:m4}{I:List Str}{O:(Str->Option fm)->je->Prop}{z:l0->je->Prop}{d:DefRec}{K:Params->Nr}{CX:Dp}{sp:Nr->Sp}{x:Str}
 (hn:l.most=cI n) (Y:n<=kv) (a0:d.params.defaults=[]) (hr:t6 k Gr)
 (hY : ∀(w:l0) (h:je),z w h->(K w.params).In h)
 (F : ∀(w:l0) (mg:DX) (fa:d8) (h:je),(K w.params).In h->h.Ns A7 mg->mg d.name=cI (.ref fa)->
   ∃fd:u6,(∀(s:gx) (u:fm),L0 s fd ⟨[u],[]⟩ [(x,u)])/\
    ∀base:je,(K w.params).In base->base.Ns A7 mg->p5 l.prog w (K w.params) mg base CX k fa fd [x] (sp<|K w.params))
 (a3 : ∀(K:Nr) (H:Hp) (a:d8) (ns:List Int),ns.length<=n->GJ H->lK K H a (ns.map V.int)->sp K [.ref a] H (λv _=>v = .bl cL) λ_ _ _=>False)
 (a4 : ∀(H:Hp) (s:gx) (e:fm) (s':gx),CX [] H s (λ_ _ _=>False) e s'->False) :
 PySem.W.WalkO q I O z l.row.toRowW d [] (λf vs=>PySem.call f vs):=
 sO (K:=K) (CX:=λ_=>CX) (sp:=λw=>sp<|K w.params) hn Y a0 hr hY F (λw H a ns h1 h2 h3=>a3 (K w.params) H a ns h1 h2 h3) λ_ H s e s'=>a4 H s e s'
def xG(s:m5):Arguments:=match s with
 | .FunctionDef _ a _ _ _ _ _ _ _ _=>a
 | _=>{posonlyargs:=[],args:=[],vararg:=cR,kwonlyargs:=[],kw_defaults:=[],kwarg:=cR,defaults:=[]}
def jV(s:m5):List m5:=match s with
 | .FunctionDef _ _ b _ _ _ _ _ _ _=>b
 | _=>[]
def zU(s:m5):mu:=match s with
 | .FunctionDef _ _ _ _ _ _ sc _ _ _=>sc
 | _=>{kind:= .function,names:=[],isGenerator:=d7,isCoroutine:=d7}
abbrev t5:Dp:=λ_ _ _ _ _ _=>False
abbrev E0:XK:=λ_ _ _=>False
theorem J4:Xz t5 X E0:=λ_ _ _ _ _ _ _ h=>h.elim
structure yg(K:Nr)(x qual:Str)(st:m5)(f:d8)(fd:u6):Prop where
 ex : ∃(oc:fm) (od:Option d8) (kV doc pm:fm) (an:Option d8) (m7 ct:fm) (Dl:Array (Option fm)),
  fd=PB x qual (xG st) (jV st) (zU st) .none kV doc pm an m7 ct/\K.lookup f=cI ⟨oc,od,.func fd,Dl⟩/\Sf K m7 qual=cL
 kp:Pd K (.ref f)=cL
section
variable{P:m4}{w:l0}{K:Nr}{mg:DX}{base:je}
theorem yg.ok{x qual:Str}{st:m5}{f:d8}{fd:u6}{N ps:List Str}{k:Nat}{sp:Sp}(F:yg K x qual st f fd)(S:IM N ps (zU st))(len : ∀vs H Q E,sp vs H Q E->vs.length=ps.length)
 (z : ∀(m7:fm) (A:p4) (outer:List u5) (s:gx) (H:Hp) (vs:List V) (Q:VK) (E:XK),t6 k (A.deeper<|envOfC qual (zU st) s.heap.objs.size f m7)->sp vs H Q E->
   ∃t,n5 (AJ t5 P w K mg base N qual (zU st) f m7 A outer s H E).LU (jV st) t/\t {nx:=λ_ H'=>Q .i5 H',rt:=Q} (wD N vs) H):p5 P w K mg base t5 (k+1) f fd ps sp:=by
 obtain⟨oc,od,kV,doc,pm,an,m7,ct,Dl,rfl,lk,I⟩:=F.ex;refine Ii lk I S len λA outer s H vs Q E O Y=>?_;obtain⟨t,h,q⟩:=z m7 A outer s H vs Q E O Y;exact⟨t,h.LU,q⟩
theorem yg.binds{x qual:Str}{st:m5}{f:d8}{fd:u6}{ps:List Str}(F:yg K x qual st f fd)
 (h : ∀(kV doc pm:fm) (an:Option d8) (m7 ct:fm) (us:List fm),us.length=ps.length->Ir (PB x qual (xG st) (jV st) (zU st) .none kV doc pm an m7 ct) ⟨us,[]⟩=pure (ps.zip us)):Binds K fd ps []:=by
 obtain⟨oc,od,kV,doc,pm,an,m7,ct,Dl,rfl,lk,z⟩:=F.ex;exact .all<|h kV doc pm an m7 ct
theorem aQ{x qual:Str}{st:m5}{f:d8}{oc:fm}{od an:Option d8}{Dl:Array (Option fm)}{kV doc pm m7 ct:fm}(l:K.lookup f=cI ⟨oc,od,.func<|PB x qual (xG st) (jV st) (zU st) .none kV doc pm an m7 ct,Dl⟩)
 (c:Sf K m7 qual=cL) (k:Pd K (.ref f)=cL):yg K x qual st f (PB x qual (xG st) (jV st) (zU st) .none kV doc pm an m7 ct):=⟨⟨oc,od,kV,doc,pm,an,m7,ct,Dl,rfl,l,c⟩,k⟩
end
def js(H H':Hp):Prop:=∀b o,H b=cI o->H' b=cI o
theorem js.refl(H:Hp):js H H:=λ_ _ h=>h
theorem js.trans(a:js H H1)(b:js H1 H2):js H H2:=λc o h=>b c o<|a c o h
theorem js.free(e:js H H')(h:H' l=Option.none):H l=Option.none:=by
 cases q:H l with
 | none=>rfl
 | some o=>
  rw[e l o q]at h;cases h
theorem js.seq{K:Nr}{H H':Hp}{a:d8}{xs:List V}(e:js H H')(h:lK K H a xs):lK K H' a xs:=by
 rcases h with(h | ⟨o,h⟩) | h
 ·exact .inl<|.inl<|e _ _ h
 ·exact .inl<|.inr ⟨o,e _ _ h⟩
 ·exact .inr h
def KW(cells:List (Str×d8)):List (Str×Ds)->List (Str×d8)->List (Str×d8)
 | [],acc=>acc
 | (n,k)::r,acc=>KW cells r<|if k==Om then (match cells.lookup n with | some c=>(n,c)::acc | none=>acc)else acc
theorem yO(f:Str×Ds->List (Str×d8)->Sem (ForInStep<|List<|Str×d8))
 (z : ∀name kind I,f (name,kind) I=if kind==Om then (do let a <- cellOf env name;pure (.yield ((name,a)::I)))else pure (.yield I)) :
 ∀(names:List (Str×Ds)) (acc:List (Str×d8)),(∀n,(n,Om)∈names->∃c,env.cells.lookup n=cI c)->
  forIn names acc f=(pure (KW env.cells names acc):Sem _)
 | [],acc,_=>by rw[List.forIn_nil];rfl
 | (n,k)::r,acc,h=>by
  rw[List.forIn_cons,z];have O : ∀n,(n,Om)∈r->∃c,env.cells.lookup n=cI c:=λm hm=>h m<|NN _ hm;unfold KW;by_cases hk:(k==Om)=cL
  ·rw[DZ hk,DZ hk]
   have a0:k=Om:=by simpa using hk
   subst a0;obtain⟨c,Y⟩:=h n NL;have e:cellOf env n=pure c:=by unfold cellOf;rw[Y]
   rw[e,Y];exact yO f z r _ O
  ·rw[DJ hk,DJ hk]
   exact yO f z r acc O
theorem KC(h : ∀n,(n,Om)∈scope.names->∃c,env.cells.lookup n=cI c) :
 closureFor scope env=pure (KW env.cells scope.names []):=by
 simp only[closureFor];rw[yO (env:=env) _ (λname kind z=>by cases hk:kind==Om<;>simp[hk]) scope.names [] h];rfl
theorem ku
 (z:Q {scope:=scope,locals:=s.heap.objs.size,globals:=globals,cells:=BR (s.heap.objs.size+1) scope.names cl,qual:=qual,func:=cR,code:=env.code,frame:=env.frame,builtins:=env.builtins}
   {s with heap:=F4 (s.heap.push {cls:= .type "dict",data:= .dict #[]}) scope.names}) :
 wpAny M A (_g scope globals cl [] qual cR .none (cI env)) Q E s:=by
 simp only[_g,Option.isSome_some,if_true];refine Nt (wpAny_alloc ?_);refine Nt (wpAny_layCells _ (λname kind cells=>by cases r?:kind==RE<;>simp[r?]) _ _ _ _ ?_);rw[show({s with heap:=s.heap.push {cls:= .type "dict",data:= .dict #[]}}:gx).heap.objs.size=s.heap.objs.size+1 from OB ..];exact Nt (Nz (Nz z))
theorem aC : ∀{names:List (Str×Ds)} {acc:List (Str×d8)},(n,c)∈KW cells names acc->(n,c)∈acc\/((n,Om)∈names/\cells.lookup n=cI c)
 | [],acc,h=> .inl h
 | (m,k)::r,acc,h=>by
  unfold KW at h;rcases aC h with g | ⟨h1,h2⟩
  ·clear h
   by_cases hk:(k==Om)=cL
   ·rw[DZ hk]at g
    have z:k=Om:=by simpa using hk
    subst z;cases e:cells.lookup m with
    | none=>rw[e]at g;exact .inl g
    | some c'=>
     rw[e]at g;rcases NP.mp g with g | g
     ·cases g;exact .inr ⟨NL,e⟩
     ·exact .inl g
   ·rw[DJ hk]at g;exact .inl g
  ·exact .inr ⟨NN _ h1,h2⟩
theorem Js : ∀{names:List (Str×Ds)} {acc:List (Str×d8)},((acc.lookup n).isSome=cL\/((n,Om)∈names/\(cells.lookup n).isSome=cL))->((KW cells names acc).lookup n).isSome=cL
 | [],acc,h=>by
  rcases h with h | ⟨h,_⟩
  ·exact h
  ·cases h
 | (m,k)::r,acc,h=>by
  unfold KW;apply Js;by_cases hk:(k==Om)=cL
  ·rw[DZ hk]
   have I:k=Om:=by simpa using hk
   subst I;cases e:cells.lookup m with
   | none=>
    rcases h with h | ⟨h1,h2⟩
    ·exact .inl h
    ·rcases NP.mp h1 with h1 | h1
     ·cases h1;rw[e]at h2;cases h2
     ·exact .inr ⟨h1,h2⟩
   | some c'=>
    dsimp only;by_cases z:n=m
    ·subst z;left;simp
    ·rcases h with h | ⟨h1,h2⟩
     ·left;rw[OV];split<;>simp_all
     ·rcases NP.mp h1 with h1 | h1
      ·cases h1;exact absurd rfl z
      ·exact .inr ⟨h1,h2⟩
  ·rw[DJ hk]
   rcases h with h | ⟨h1,h2⟩
   ·exact .inl h
   ·rcases NP.mp h1 with h1 | h1
    ·cases h1;exact absurd rfl hk
    ·exact .inr ⟨h1,h2⟩
theorem xP : ∀{names:List (Str×Ds)} {k:Nat} {acc:List (Str×d8)},(n,c)∈BR k names acc->(n,c)∈acc\/(k<=c/\(n,RE)∈names)
 | [],_,_,h=> .inl h
 | (m,kd)::r,k,acc,h=>by
  unfold BR at h;split at h
  ·rename_i hk
   have z:kd=RE:=by simpa using hk
   subst z;rcases xP h with h | ⟨h1,h2⟩
   ·rcases NP.mp h with h | h
    ·cases h;exact .inr ⟨NJ _,NL⟩
    ·exact .inl h
   ·exact .inr ⟨by omega,NN _ h2⟩
  ·rcases xP h with h | ⟨h1,h2⟩
   ·exact .inl h
   ·exact .inr ⟨h1,NN _ h2⟩
theorem yd : ∀{names:List (Str×Ds)} {k:Nat} {acc:List (Str×d8)},(∀p∈acc,∀q∈acc,p.2=q.2->p.1=q.1)->(∀p∈acc,p.2<k)->
 ∀p∈BR k names acc,∀q∈BR k names acc,p.2=q.2->p.1=q.1
 | [],_,_,h,_=>h
 | (m,kd)::r,k,acc,h,hl=>by
  unfold BR;split
  ·refine yd (λp z q I e=>?_) (λp z=>?_)
   ·rcases NP.mp z with rfl | z<;>rcases NP.mp I with rfl | I
    ·rfl
    ·have O:k=q.2:=e
     exact absurd (O ▸ hl q I)<|Bc _
    ·have O:p.2=k:=e
     exact absurd (O ▸ hl p z)<|Bc _
    ·exact h p z q I e
   ·rcases NP.mp z with rfl | z
    ·exact OW _
    ·exact OK<|hl p z
  ·exact yd h hl
theorem JF : ∀{names:List (Str×Ds)} {h:je} {acc:List (Str×d8)} {n:Str} {c:d8},(n,c)∈BR h.objs.size names acc->(n,c)∈acc\/(F4 h names).IsCell c cR
 | [],_,_,_,_,hm=> .inl hm
 | (m,kd)::r,h,acc,n,c,hm=>by
  unfold BR at hm;unfold F4;split at hm
  ·rename_i hk
   rw[DZ hk];have e:h.objs.size+1=(h.push {cls:= .type "cell",data:= .cell cR}).objs.size:=(OB ..).symm;rw[e]at hm;rcases JF hm with hm | hm
   ·rcases NP.mp hm with hm | hm
    ·cases hm
     have z:(h.push {cls:= .type "cell",data:= .cell cR}).IsCell h.objs.size cR:=⟨{cls:= .type "cell",data:= .cell cR},NO _ rfl,rfl⟩;exact .inr (z.keeps λb o q=>Tp _ _ b o q)
    ·exact .inl hm
   ·exact .inr hm
  ·rename_i hk
   rw[DJ hk];exact JF hm
theorem yY{α:Type}{l:List (Str×α)}(nd:(l.map (·.1)).Nodup) : ∀{n:Str} {a:α},(n,a)∈l->l.lookup n=cI a:=by
 induction l with
 | nil=>intro n a h;cases h
 | cons p r z=>
  intro n a h;obtain⟨m,b⟩:=p;rw[NY,PF]at nd;rw[OV];rcases NP.mp h with h | h
  ·cases h;simp
  ·have I:(n==m)=d7:=by
    have:n≠m:=λe=>nd.1 (by rw[<- e];exact Rf.mpr ⟨(n,a),h,rfl⟩);simpa using this
   rw[I];exact z nd.2 h
theorem vh(scope:mu)(env:u5)(x:Str):(Dy scope env).names.lookup x =
 (scope.names.lookup x).map λk=>if (k==Om && env.scope.kind == .function && env.kindOf x==cI .cell)then RE else k:=by
 unfold Dy;dsimp only;generalize scope.names=l
 induction l with
 | nil=>rfl
 | cons p r I=>
  obtain⟨n,k⟩:=p;rw[NY];cases hx:x==n with
  | true=>
   have e:x=n:=by simpa using hx
   subst e;rw[OV,OV];dsimp only;by_cases z:(k==Om && env.scope.kind == .function && env.kindOf x==cI .cell)=cL
   ·rw[DZ z,beq_self_eq_true];dsimp only[SQ];rw[DZ z]
   ·rw[DJ z,beq_self_eq_true];dsimp only[SQ];rw[DJ z]
  | false=>
   have : ∀O,Su x ((n,O)::(r.map λx=>match x with | (n,k)=>if (k==Om && env.scope.kind == .function && env.kindOf n==cI .cell)=cL then (n,RE)else (n,k)))=Su x (r.map λx=>match x with | (n,k)=>if (k==Om && env.scope.kind == .function && env.kindOf n==cI .cell)=cL then (n,RE)else (n,k)):=λO=>by rw[OV,hx]
   rw[OV (k:=n),hx];dsimp only;split
   ·rw[this];exact I
   ·rw[this];exact I
def wc(scope:mu)(env:u5)(L:d8):u5:=
 {scope:=Dy scope env,locals:=L,globals:=env.globals,cells:=BR (L+1) scope.names<|KW env.cells scope.names [],qual:=env.qual,func:=cR,code:=env.code,frame:=env.frame,builtins:=env.builtins}
def ju(X:Cx)(scope:mu)(N':List Str)(fp:List d8)(s2:gx)(H2:Hp):Cx:=
 {X with N:=N',t9:=s2,IP:=H2,env:=wc scope X.env<|s2.heap.objs.size+1,outer:=X.stack,stack:=X.stack,ex:=fp,fn:=λx=>scope.names.lookup x==cI .cell,pn:=[],xe:=λ_ _=>False}
structure Br(X:Cx)(scope:mu)(fr:List (Str×Nat)):Prop where
 kind:scope.kind = .function
 nd:(scope.names.map (·.1)).Nodup
 free : ∀p∈scope.names,p.2=Om->X.env.kindOf p.1=cI .cell\/X.env.kindOf p.1=cI .free
 fr : ∀p∈fr,scope.names.lookup p.1=cI .free/\X.N[p.2]? = cI p.1
def nG(own:List Str)(fr:List (Str×Nat))(σ:St):St:=own.map (λ_=>cR)++fr.map λp=>(σ[p.2]?).join
abbrev VR:o8:={cls:= .type "list",data:= .seq #[]}
abbrev sy:o8:={cls:= .type "dict",data:= .dict #[]}
theorem pb{X:Cx}{pins:TW}{σ:St}{H2:Hp}{s2:gx}{scope:mu}{own:List Str}{fr:List (Str×Nat)}{fp:List d8}(I:Inv X pins σ H2 s2)(ok:Br X scope fr)
 (a3 : ∀b∈fp,bC X pins H2 b) (ak : ∀b∈fp,∃o,s2.heap.get? b=cI o) :
 Inv (ju X scope (own++fr.map (·.1)) fp s2 H2) [] (nG own fr σ) (upd H2 s2.heap.objs.size<|.lst []) {s2 with heap:=F4 ((s2.heap.push VR).push sy) scope.names}:=by
 have z1:(s2.heap.push VR).objs.size=s2.heap.objs.size+1:=OB ..;have z2:((s2.heap.push VR).push sy).objs.size=s2.heap.objs.size+2:=by rw[OB,z1]
 have Y : ∀n c,(n,c)∈KW X.env.cells scope.names []->(n,Om)∈scope.names/\X.env.cells.lookup n=cI c:=λn c h=>(aC h).resolve_left ⋯;have a9 : ∀n c,X.env.cells.lookup n=cI c->c<s2.heap.objs.size:=λn c h=>by obtain⟨v,q⟩:=I.cell n c h;exact q.lt
 have am : ∀p∈KW X.env.cells scope.names [],p.2<s2.heap.objs.size+1+1:=λp O=>by exact OK<|OK<|a9 p.1 p.2 (Y p.1 p.2 O).2
 have hC:(wc scope X.env<|s2.heap.objs.size+1).cells=BR (s2.heap.objs.size+2) scope.names (KW X.env.cells scope.names []):=rfl;have cells : ∀x c,(wc scope X.env<|s2.heap.objs.size+1).cells.lookup x=cI c->((x,Om)∈scope.names/\X.env.cells.lookup x=cI c)\/(s2.heap.objs.size+2<=c/\(x,RE)∈scope.names):=λx c h=>by
  rcases xP (mem_of_lookup h)with h | h
  ·exact .inl<|Y x c h
  ·exact .inr h
 have aa : ∀x,(x,Om)∈scope.names->∃c,X.env.cells.lookup x=cI c/\(wc scope X.env<|s2.heap.objs.size+1).cells.lookup x=cI c:=λx hx=>by
  obtain⟨c,hc⟩:=I.ok.has x<|ok.free (x,.free) hx rfl;have h1:((KW X.env.cells scope.names []).lookup x).isSome=cL:=Js<|.inr ⟨hx,by rw[hc];rfl⟩;have h2:=Sy scope.names (s2.heap.objs.size+2) (KW X.env.cells scope.names [])<|.inr h1;obtain⟨c',ab⟩:=Th.mp h2;refine⟨c,hc,?_⟩;rcases cells x c' ab with⟨_,q⟩ | ⟨_,q⟩
  ·rw[hc]at q;cases q;exact ab
  ·exact absurd ((yY ok.nd q).symm.trans (yY ok.nd hx)) ⋯
 have keep : ∀b o,s2.heap.get? b=cI o->(F4 ((s2.heap.push VR).push sy) scope.names).get? b=cI o:=λb o e=>
  Tp _ _ b o (Nv _<|Nv _ e)
 have ac : ∀b∈fp,b<s2.heap.objs.size:=λb hb=>by obtain⟨o,e⟩:=ak b hb;exact NR e
 have fresh:H2 s2.heap.objs.size=cR:=I.i7.fresh<|NJ _;have ae : ∀c,s2.heap.objs.size<c->(upd H2 s2.heap.objs.size<|.lst []) c=cR:=λc hc=>by rw[zH (PZ hc)];exact I.i7.fresh<|Uc hc
 obtain⟨m0,ap⟩ : ∃m,(F4 ((s2.heap.push VR).push sy) scope.names).Ns (s2.heap.objs.size+1) m:=by have q:=(Heap.Ns.new (s2.heap.push VR) (.type "dict")).keeps (λb o e=>Tp scope.names _ b o e);rw[z1]at q;exact⟨_,q⟩
 refine⟨⟨I.ok.mod,ok.kind,I.ok.glob,I.ok.blt,Uv _,λx y c h1 h2=>?_,λx hx=>?_,λx c hf h=>?_,I.ok.hd,I.ok.frames,.inl rfl,λb hb=>⟨?_,λx c h z=>?_⟩,λb o e=>I.bs b o e,?_,λb o e hb=>?_,λb hb hs=>?_,I.stack,I._r⟩,
  rfl,I.bare,Un.laid keep (NJ _) fresh,⟨m0,ap,λi x v e1 e2 e3=>?_⟩,λx c h=>?_,?_,λx c h=>?_,λp O=>?_,?_,?_⟩
 ·have q:=yd (names:=scope.names) (k:=s2.heap.objs.size+2) (acc:=KW X.env.cells scope.names []) (λp O q hq e=>I.ok.inj p.1 q.1 p.2 (Y _ _ O).2 (by rw[e];exact(Y _ _ hq).2)) am
  exact q (x,c) (mem_of_lookup h1) (y,c) (mem_of_lookup h2) rfl
 ·have a1:(Dy scope X.env).names.lookup x=cI .cell\/(Dy scope X.env).names.lookup x=cI .free:=hx
  have:scope.names.lookup x=cI .cell\/scope.names.lookup x=cI .free:=by
   rw[vh]at a1;cases e:scope.names.lookup x with
   | none=>rw[e]at a1;simp at a1
   | some k=>
    rw[e]at a1;cases k<;>simp at a1 ⊢
  rcases this with h | h
  ·exact Th.mp<|Sy scope.names _ _<|.inl h
  ·obtain⟨c,_,h2⟩:=aa x<|mem_of_lookup h;exact⟨c,h2⟩
 ·have ax:(scope.names.lookup x==cI .cell)=cL:=hf
  have b0:scope.names.lookup x=cI .cell:=by simpa using ax
  rcases cells x c h with⟨q,_⟩ | ⟨q,_⟩
  ·exact absurd ((yY ok.nd q).symm.trans b0) ⋯
  ·exact OH (OX _ 2) q
 ·exact Oa<|OK<|ac b hb
 ·rcases cells x c h with⟨_,q⟩ | ⟨q,_⟩
  ·exact(a3 b hb).2.2.2.2.1 x c q z
  ·exact absurd (NX (ac b hb)<|OH (OX _ 2)<|z ▸ q)<|Bc _
 ·exact OH I.ok.D6 I.sz
 ·rcases (a3 b hb).2.2.2.1 with q | q
  ·exact I.ok.LS b o e q
  ·exact absurd (NX (NR e)<|OH I.ok.D6 q)<|Bc _
 ·rcases NP.mp (I.f_ b hs)with q | q
  ·exact(a3 b hb).2.1 q
  ·exact(a3 b hb).2.2.1 q
 ·have hi:i<(own++fr.map (·.1)).length:=(NC.mp e1).1
  by_cases a6:i<own.length
  ·unfold nG at e2
   rw[Oi (by simpa using a6)]at e2;simp[NT,a6]at e2
  ·have hj : ∃p,fr[i - own.length]? = cI p/\p.1=x/\(σ[p.2]?).join=cI v:=by
    unfold nG at e2;have a2:(own++fr.map (·.1))[i]? = cI x:=e1;rw[Dt ⋯,NT]at a2;rw[Dt (by simpa using a6),NT,NV]at e2;cases q:fr[i - own.length]? with
    | none=>rw[q]at a2;cases a2
    | some p=>
     rw[q]at a2 e2;exact⟨p,rfl,by simpa using a2,by simpa using e2⟩
   obtain⟨p,O,ba,a4⟩:=hj;obtain⟨g1,g2⟩:=ok.fr p<|Og O;rw[ba]at g1 g2;have Lc:σ[p.2]? = cI (cI v):=by
    cases q:σ[p.2]? with
    | none=>rw[q]at a4;cases a4
    | some o=>rw[q]at a4;simpa using a4
   have ag:=ok.free (x,.free) (mem_of_lookup g1) rfl;obtain⟨m,hn,hl⟩:=I.loc;obtain⟨u,ru,lk⟩:=hl p.2 x v g2 Lc (by rcases ag with k | k;exact .inr<|.inl k;exact .inr<|.inr k);refine⟨u,ru,.inr ?_⟩;obtain⟨c,bg,bi⟩:=aa x<|mem_of_lookup g1;have bl:s2.heap.IsCell c (cI u):=by
    rcases lk with⟨k,_⟩ | ⟨_,c',e,z⟩
    ·rcases ag with k' | k'<;>rw[k]at k'<;>cases k'
    ·rw[bg]at e;cases e;exact z
   refine⟨?_,c,bi,bl.keeps keep⟩;show(Dy scope X.env).names.lookup x=cI .cell\/(Dy scope X.env).names.lookup x=cI .free;rw[vh,g1];dsimp only[SQ];split
   ·exact .inl rfl
   ·exact .inr rfl
 ·rcases xP (mem_of_lookup h)with q | q
  ·obtain⟨v,w'⟩:=I.cell x c (Y x c q).2
   exact⟨v,w'.keeps keep⟩
  ·have q2:=mem_of_lookup h
   have q3:(x,c)∈BR ((s2.heap.push VR).push sy).objs.size scope.names (KW X.env.cells scope.names []):=by rw[z2];exact q2
   rcases JF q3 with q4 | q4
   ·obtain⟨v,w'⟩:=I.cell x c (Y x c q4).2
    exact⟨v,w'.keeps keep⟩
   ·exact⟨cR,q4⟩
 ·exact ae _<|OW _
 ·rcases cells x c h with⟨_,q⟩ | ⟨q,_⟩
  ·rw[zH (Oa<|a9 x c q)];exact I.DI x c q
  ·exact ae c<|NX (OK<|OW _) q
 ·exact absurd (show p∈([]:TW)from O) ⋯
 ·refine I.i7.laid keep (NJ _) ⟨Pf _,[],0,.nil,?_⟩
  exact Tp _ _ _ _<|Nv _<|NO _ rfl
 ·show(nG own fr σ).length=(own++fr.map (·.1)).length
  simp[nG]
theorem vd(I:Nat->gx->Prop)
 (a4 : ∀n s,I n s->wpAny (gv prog w) A (B4 it) (λr z=>match r with
   | none=>R (.ok .next) z
   | some v=>wpAny (gv prog w) A (M3 target it v) (λ_ z=>wpAny (gv prog w) A (Du target env v) (λ_ Y=>
    wpAny (gv prog w) A (forIn ifs cL λc r=>if r=cL then do let ok <- Gz c env (f9 c env);pure (Tv ok)else pure (Tv r)) (λok O=>
     if ok=cL then wpAny (gv prog w) A (f9 elt env) (λx N5=>
      wpAny (gv prog w) A (call (.builtin "list.append") [acc,x]) (λ_ _t=>∃m,m<n/\I m _t) (λ_ _=>False) N5) (λ_ _=>False) O
     else ∃m,m<n/\I m O) (λ_ _=>False) Y) (λ_ _=>False) z) (λ_ _=>False) z) (λ_ _=>False) s)
 (n:Nat) (h:I n s) :
 codeAny (gv prog w) A (.compLoop (.ListComp elt [⟨target,iter,ifs,0⟩] scope pos) 0 it acc env) R s:=by
 refine codeAny_loop rfl I (λn s hI=>?_) n h;show wpAny _ A ((compTurn (.ListComp elt [⟨target,iter,ifs,0⟩] scope pos) 0 it acc env).onRaise (λx=>do noteFrame x env;theTreesLotGoes x)) _ _ s;refine wpAny_noted ?_;rw[compTurn_list];refine Nt<|wpAny_standAt<|Nt<|RK (a4 n s hI) (λr z Mf=>?_) λ_ _ h'=>h'.elim;cases r with
 | none=>exact Nz Mf
 | some v=>
  refine Nt<|RK Mf (λ_ aa a6=>?_) λ_ _ h'=>h'.elim;refine Nt<|RK a6 (λ_ Y t?=>Nt<|RK t? (λok O ML=>?_) λ_ _ h'=>h'.elim) λ_ _ h'=>h'.elim;cases ok with
  | false=>exact Nz ⟨rfl,ML⟩
  | true=>
   exact Nt<|Nt<|RK ML (λx N5 u?=>Nt<|RK u? (λ_ _t v?=>Nz<|Nz ⟨rfl,v?⟩) λ_ _ h'=>h'.elim) λ_ _ h'=>h'.elim
def Bu(X:Cx)(ifs:List f7)(t:TT):Prop:=
 ∀(pins:TW) (s:gx) (σ:St) (H:Hp) (Q:Bool->Hp->Prop),Inv X pins σ H s->t σ H Q->
  wpAny (gv X.prog X.w) X.A (forIn ifs cL λc r=>if r=cL then do let ok <- Gz c X.env (f9 c X.env);pure (Tv ok)else pure (Tv r)) (TP X pins σ Q) X.xe s
def GZ:TT:=λ_ H Q=>Q cL H
theorem X8:Bu X [] GZ:=λ_ _ _ H _ I h=>wpAny_tests_nil ⟨H,I,h⟩
theorem ah(h:PT X c t):Bu X [c] t:=λpins s σ H Q I z=>wpAny_tests_one<|h pins s σ H Q I z
def CW(J:It)(g:TG)(tt:TT)(te:TE)(D:d8)(Q:VK)(W:Nat->Nat->List V->St->Hp->Prop):Prop:=
 ∀i m ys σ H,W i m ys σ H->H D=cI (.lst ys)/\((J.stop i H/\Q (.ref D) H)\/(J.go i H/\ys.length<kv/\∀x H',J.DP i H x H'->g x σ H' λz H2=>tt z H2 λb I=>
  if b=cL then te z I λv O=>O D=cI (.lst ys)/\∃m',m'<m/\W (i+1) m' (ys++[v]) z (upd O D<|.lst<|ys++[v])else ∃m',m'<m/\W (i+1) m' ys z I))
def pY(X:Cx)(pins:TW)(H:Hp)(L:d8):Prop:=
 H L=cR/\L≠X.env.locals/\X.t9.heap.objs.size<=L/\(∀x c,X.env.cells.lookup x=cI c->c≠L)/\∀p∈X.pn++pins,p.1≠L
theorem pH
 (hc:X.calm=cL) (I:Inv X pins σ H2 s2) (ok:Br X scope fr) (T:Turn X.prog X.w X.K tg J fp it tn) (st:tn 0 s2.heap) (Y : ∀b∈fp,bC X pins H2 b)
 (hg:PG (ju X scope (own++fr.map (·.1)) fp s2 H2) tg g) (ht:Bu (ju X scope (own++fr.map (·.1)) fp s2 H2) ifs tt) (he:PE (ju X scope (own++fr.map (·.1)) fp s2 H2) elt te)
 (hW : ∀D,H2 D=cR->∃W:Nat->Nat->List V->St->Hp->Prop,(∃m,W 0 m [] (nG own fr σ) (upd H2 D<|.lst []))/\CW J g tt te D Q W) :
 wpAny (gv X.prog X.w) X.A (newList []) (λacc N4=>wpAny (gv X.prog X.w) X.A (_g scope X.env.globals (KW X.env.cells scope.names []) [] X.env.qual cR .none (cI X.env)) (λaa N5=>
  codeAny (gv X.prog X.w) X.A (.compStart (.ListComp elt [⟨tg,iter,ifs,0⟩] scope pos) 0 (.ref it) acc {aa with scope:=Dy scope X.env})
   (λr s'=>(∃f,r = .ok f)/\∃D H',acc = .ref D/\Inv X pins σ H' s'/\Q (.ref D) H'/\(∃m,s'.heap.Ns aa.locals m)/\pY X pins H' aa.locals) N5) E N4) E s2:=by
 have ar : ∀b∈fp,∃o,s2.heap.get? b=cI o:=λb hb=>by obtain⟨o,e,_⟩:=T.obj 0 _ st b hb;exact⟨o,e⟩
 have I0:=pb (own:=own) I ok Y ar;obtain⟨W,⟨m0,w0⟩,cw⟩:=hW _ I.fresh;refine Ox<|ku ?_;have z1:(s2.heap.push VR).objs.size=s2.heap.objs.size+1:=OB ..;show codeAny _ _ (.compStart _ 0 (.ref it) (.ref s2.heap.objs.size) {scope:=Dy scope X.env,locals:=(s2.heap.push VR).objs.size,globals:=X.env.globals,cells:=BR ((s2.heap.push VR).objs.size+1) scope.names<|KW X.env.cells scope.names [],qual:=X.env.qual,func:=cR,code:=X.env.code,frame:=X.env.frame,builtins:=X.env.builtins})
  (λr s'=>(∃f,r = .ok f)/\∃D H',Of s2.heap.objs.size = .ref D/\Inv X pins σ H' s'/\Q (.ref D) H'/\(∃m,s'.heap.Ns (s2.heap.push VR).objs.size m)/\pY X pins H' (s2.heap.push VR).objs.size) {s2 with heap:=F4 ((s2.heap.push VR).push sy) scope.names}
 rw[z1];have as:tn 0 (F4 ((s2.heap.push VR).push sy) scope.names):=T.keep 0 _ _ st λb _ o e=>Tp _ _ b o<|Nv _<|Nv _ e;have c5 : ∀b∈fp,b<s2.heap.objs.size:=λb hb=>by obtain⟨o,e⟩:=ar b hb;exact NR e
 have ab : ∀{H':Hp},(∀b∈fp,H' b=cR)->∀b∈fp,bC (ju X scope (own++fr.map (·.1)) fp s2 H2) [] H' b:=λhn b hb=>
  ⟨hn b hb,(I0.ok.Me b hb).1,I0.ok.IZ b hb,.inl hb,(I0.ok.Me b hb).2,λp hp=>absurd (show p∈([]:TW)from hp) ⋯⟩
 have ax:codeAny (gv X.prog X.w) X.A (.compLoop (.ListComp elt [⟨tg,iter,ifs,0⟩] scope pos) 0 (.ref it) (.ref s2.heap.objs.size)<|wc scope X.env<|s2.heap.objs.size+1)
  (λr s'=>(∃f,r = .ok f)/\∃D H',Of s2.heap.objs.size = .ref D/\Inv X pins σ H' s'/\Q (.ref D) H'/\(∃m,s'.heap.Ns (s2.heap.objs.size+1) m)/\pY X pins H' (s2.heap.objs.size+1)) {s2 with heap:=F4 ((s2.heap.push VR).push sy) scope.names}:=by
  refine vd (λn s'=>∃i ys i9 H',Inv (ju X scope (own++fr.map (·.1)) fp s2 H2) [] i9 H' s'/\tn i s'.heap/\(∀b∈fp,H' b=cR)/\W i n ys i9 H') ?_ m0
   ⟨0,[],_,_,I0,as,λb hb=>by rw[zH (Oa<|c5 b hb)];exact(Y b hb).1,w0⟩
  rintro n s3 ⟨i,ys,C4,H3,I3,II,ba,w3⟩;obtain⟨hD,c6⟩:=cw i n ys C4 H3 w3;rcases c6 with⟨stop,qn⟩ | ⟨go,hz,step⟩
  ·refine ip (T.done (ju X scope (own++fr.map (·.1)) fp s2 H2) rfl rfl rfl hc i [] s3 C4 H3 _ I3 (ab ba) II stop) λr s4 O=>?_
   obtain⟨hr,I4⟩:=O;subst hr;refine⟨⟨_,rfl⟩,_,H3,rfl,I.f? (ch:=fp) I4.os I4.base I4.i7 I4.bare<|λb hb=>⟨(Y b hb).2.2.2.1,(Y b hb).2.1,(Y b hb).2.2.2.2.1,(Y b hb).2.2.2.2.2⟩,qn,?_,I4.free,?_,?_,?_,?_⟩
   ·obtain⟨m,hn,_⟩:=I4.loc
    exact⟨m,hn⟩
   ·exact PZ<|OK I.lt
   ·exact UG I.sz
   ·intro x c e z
    obtain⟨v,q⟩:=I.cell x c e;exact absurd (OK q.lt) (by rw[z];exact Bc _)
   ·intro p hp z
    exact absurd (OK<|NR (I.pin p hp).1) (by rw[z];exact Bc _)
  ·refine ip (T.item (ju X scope (own++fr.map (·.1)) fp s2 H2) rfl rfl rfl hc i [] s3 C4 H3 _ I3 (ab ba) II go) λr s4 O=>?_
   obtain⟨u,hr,h4⟩:=O;subst hr;refine ip h4 λ_ s5 O=>?_;obtain⟨x,H5,I5,r5,y5,ag,ci⟩:=O;have cl:=I5.pinned (ab ci)<|T.obj _ _ ag;refine ip (hg _ s5 C4 H5 x u _ cl r5<|step x H5 y5) λ_ s6 O=>?_;obtain⟨IL,H6,I6,q6⟩:=O;refine ip (ht _ s6 IL H6 _ I6 q6) λb s7 O=>?_;obtain⟨H7,I7,q7⟩:=O;have after : ∀{_D:St} {H8:Hp} {s8:gx},Inv (ju X scope (own++fr.map (·.1)) fp s2 H2) ([]++Yq fp s5.heap) _D H8 s8->tn (i+1) s8.heap/\∀b∈fp,H8 b=cR:=λ{_D H8 s8} I8=>by refine⟨T.keep _ _ _ ag λb hb o e=>(I8.pin (b,o)<|Pb _<|Pb _<|yX hb e).1,λb hb=>?_⟩;obtain⟨o,e,d⟩:=T.obj _ _ ag b hb;exact(I8.pin (b,o)<|Pb _<|Pb _<|yX hb e).2.1
   cases b with
   | false=>
    rw[DJ NM]at q7 ⊢;obtain⟨m',hm,w7⟩:=q7;exact⟨m',hm,i+1,ys,IL,H7,I7.LZ,(after I7).1,(after I7).2,w7⟩
   | true=>
    rw[DZ rfl]at q7 ⊢;refine ip (he _ s7 IL H7 _ I7 q7) λv8 s8 O=>?_;obtain⟨zas,H8,I8,r8,bi,m',hm,zaf⟩:=O;obtain⟨zcw,bl,n8,rv,d4,e8⟩:=I8.F1 bi;refine SD F.slot_list_append ⟨_,e8,rfl⟩ F.entry_list_append (F.args_list_append_2 _ _) (PySem.list_append _ bl.toArray n8 v8<|by rw[NK];omega) ⟨e8,?_⟩;have I9:=I8.M5 (its':=bl++[v8]) (f:=(·.push v8)) (t':=s8.toks) bi e8 ⋯ (rv.append<|.cons r8 .nil) (by rw[Ol,Rv];omega);exact⟨m',hm,i+1,ys++[zas],IL,_,I9.LZ,(after I9).1,(after I9).2,zaf⟩
 exact codeAny_compStart_list ax<|T.self _ 0 _ _ _ as ax
def eZ(wi:TI)(own:List Str)(fr:List (Str×Nat))(g:TG)(tt:TT)(te:TE):TE:=λσ H Q=>wi σ H λJ H1=>∀D,H1 D=cR->
 ∃W:Nat->Nat->List V->St->Hp->Prop,(∃m,W 0 m [] (nG own fr σ) (upd H1 D<|.lst []))/\CW J g tt te D Q W
section
variable{X:Cx}{scope:mu}{own:List Str}{fr:List (Str×Nat)}{elt tg iter:f7}{ifs:List f7}{pos:kr}{wi:TI}{g:TG}{tt:TT}{te:TE}
theorem bq
 (z:X.calm=cL) (ok:Br X scope fr) (hi:PI X tg iter wi) (O : ∀fp s2 H2,PG (ju X scope (own++fr.map (·.1)) fp s2 H2) tg g)
 (Y : ∀fp s2 H2,Bu (ju X scope (own++fr.map (·.1)) fp s2 H2) ifs tt) (he : ∀fp s2 H2,PE (ju X scope (own++fr.map (·.1)) fp s2 H2) elt te)
 (I:Inv X pins σ H s) (h:eZ wi own fr g tt te σ H Q)
 (hR : ∀D H' s' L,Inv X pins σ H' s'->Q (.ref D) H'->(∃m,s'.heap.Ns L m)->pY X pins H' L->
   compPost (gv X.prog X.w) X.A X.xe use R (.ref D) L (.ok .next) s')
 (hs : ∀x,zl iter X.env x=pure x:=by intro _;rfl) :
 wpAny (gv X.prog X.w) X.A (comprehension (.ListComp elt [⟨tg,iter,ifs,0⟩] scope pos) scope X.env (firstIterPos [⟨tg,iter,ifs,0⟩] pos) (newList []) d7 (f9 iter X.env) use) R X.xe s:=by
 refine wpAny_comprehension_free rfl hs (KC λn hn=>I.ok.has n<|ok.free (n,.free) hn rfl) ok.kind (λx hx e=>by rw[<- e];exact yY ok.nd<|show(x.1,x.2)∈scope.names from hx) ?_;refine ip (hi pins s σ H _ I h) λv s1 h1=>ip h1 λag s2 h2=>?_;obtain⟨it,fp,tn,J,H2,e,I2,T,a3,f2,hW⟩:=h2;subst e;refine ip (pH (own:=own) (Q:=Q) (E:=X.xe) z I2 ok T a3 f2 (O fp s2 H2) (Y fp s2 H2) (he fp s2 H2) hW) λacc s3 h3=>ip h3 λa7 s4 h4=>Uq h4 λr s' h5=>?_;obtain⟨⟨f,hr⟩,D,H',ea,I',q,hn,y⟩:=h5;subst hr;subst ea;have q2:=hR D H' s' a7.locals I' q hn y;cases use<;>exact q2
theorem Kb(z:X.calm=cL)(ok:Br X scope fr)(hi:PI X tg iter wi)(O : ∀fp s2 H2,PG (ju X scope (own++fr.map (·.1)) fp s2 H2) tg g)
 (Y : ∀fp s2 H2,Bu (ju X scope (own++fr.map (·.1)) fp s2 H2) ifs tt) (he : ∀fp s2 H2,PE (ju X scope (own++fr.map (·.1)) fp s2 H2) elt te)
 (hs : ∀x,zl iter X.env x=pure x:=by intro _;rfl) :
 PE X (.ListComp elt [⟨tg,iter,ifs,0⟩] scope pos) (eZ wi own fr g tt te):=by
 intro pins s σ H Q I h;rw[eval_ListComp];refine bq (use:=cR) z ok hi O Y he I h (λD H' s' L I' q hn y=>?_) hs;obtain⟨m,hm⟩:=hn;obtain⟨y1,y2,y3,y4,y5⟩:=y;refine⟨m,hm,λh' sb=>⟨.ref D,H',I'.turned (t':=s'.toks) (it:=L) (λb o hb e=>sb.extBut b o hb e) y1 y2 (.inr y3) y4 y5,rfl,q⟩⟩
theorem QZ(z:X.N.Nodup)(O:X.N[i]? = cI y)(Y:Loc X.env.scope y)(hf:X.fn y=cL\/X.env.scope.names.lookup y=cI .local)
 (hc:X.calm=cL) (ok:Br X scope fr) (hi:PI X tg iter wi) (hg : ∀fp s2 H2,PG (ju X scope (own++fr.map (·.1)) fp s2 H2) tg g)
 (ht : ∀fp s2 H2,Bu (ju X scope (own++fr.map (·.1)) fp s2 H2) ifs tt) (he : ∀fp s2 H2,PE (ju X scope (own++fr.map (·.1)) fp s2 H2) elt te)
 (hs : ∀x,zl iter X.env x=pure x:=by intro _;rfl) :
 PS X (.Assign [.Name y py] (.ListComp elt [⟨tg,iter,ifs,0⟩] scope pos) spos) (XQ (eZ wi own fr g tt te)<|ye i):=by
 have hb : ∃b:Bool,A8 (.ListComp elt [⟨tg,iter,ifs,0⟩] scope pos) (cI (.Name y py)) spos.line X.env=pure b:=⟨_,rfl⟩;obtain⟨b,hb⟩:=hb;cases b with
 | false=>
  have e1:N2 [.Name y py] (.ListComp elt [⟨tg,iter,ifs,0⟩] scope pos) spos.line X.env=A8 (.ListComp elt [⟨tg,iter,ifs,0⟩] scope pos) (cI (.Name y py)) spos.line X.env:=rfl;exact Xa (Kb hc ok hi hg ht he hs) (gw z O Y hf) (by rw[e1];exact hb)
 | true=>
  intro pins s σ H D I h;rw[exec_Assign_Name_used _ _ _ _ hb];refine Nt<|wpAny_standAt<|Nt ?_;show wpAny _ X.A (do let _ <- comprehension (.ListComp elt [⟨tg,iter,ifs,0⟩] scope pos) scope X.env _ (newList []) d7 (f9 iter X.env) (cI (Du (.Name y py) X.env))) _ _ s;refine Nt<|ip (bq (R:=λ_ s'=>SP X pins D .next s') (use:=cI (Du (.Name y py) X.env)) hc ok hi hg ht he I h (λDa H' s' L I' q hn zaw=>?_) hs) λ_ s' q=>Nz<|Nz q;obtain⟨y1,y2,y3,y4,y5⟩:=zaw;obtain⟨m,hm⟩:=hn;show wpAny _ _ (Du (.Name y py) X.env<|.ref Da) _ _ _;refine zai<|K9 I' z O Y (v:= .ref Da) rfl (λae ag ak=>?_) hf;obtain⟨a,sb,ha⟩:=ak;have an:L≠a:=by
   rcases ha with e | e
   ·rw[e];exact y2
   ·exact OQ<|y4 _ _ e
  refine⟨m,hm.sameBut sb an,λh' ap=>⟨_,_,ag.turned (t':=ae.toks) (it:=L) (λb o hb e=>ap.extBut b o hb e) y1 y2 (.inr y3) y4 y5,q⟩⟩
end
inductive Sk where
 | L | T
 deriving DecidableEq
end L2
namespace DL
open PySem L2
inductive D where
 | i5 | bl (b:Bool) | int (i:Int) | str (x:Str) | tup (xs:List D) | lst (xs:List D)
 | sh (ks vs:List D)
 | n0 (ks:List (List Int)) (vs:List D)
inductive Cell where
 | no | val (d:D) | own (ds:List D) | nest (rows:List (List D))
abbrev Ctx:=List Cell
abbrev CO (a : Type) := Ctx -> Option a
def lim:Nat:=2500
def jg:D->Option (Sk×List D)
 | .tup ds=>cI (.T,ds)
 | .lst ds=>cI (.L,ds)
 | _=>cR
def zM(f:CO D)(γ:Ctx):Option (Sk×List D):=(f γ).bind jg
def xB(f:CO (List D))(γ:Ctx):Option D:=(f γ).map D.lst
def qf(f:CO (List D))(γ:Ctx):Option (Sk×List D):=(f γ).map λds=>(Sk.L,ds)
def lr:Option Cell->Option D
 | some (.val d)=>cI d
 | _=>cR
def w4:Option Cell->Option (Sk×List D)
 | some (.val d)=>jg d
 | some (.own ds)=>cI (.L,ds)
 | _=>cR
def ze(i:Nat)(γ:Ctx):Option D:=lr γ[i]?
def zq(i:Nat)(γ:Ctx):Option (Sk×List D):=w4 γ[i]?
noncomputable def zx(d:D):CO D:=λ_=>cI d
def zw(F:D->D->Option D)(fa fb:CO D)(γ:Ctx):Option D:=(fa γ).bind λx=>(fb γ).bind λy=>F x y
def De:D->Option Bool
 | .bl b=>cI b
 | _=>cR
def p7:D->Option Int
 | .int i=>cI i
 | _=>cR
def sB(f:CO D)(γ:Ctx):Option Bool:=(f γ).bind De
def qX(f g:CO Bool)(γ:Ctx):Option Bool:=(f γ).bind λb=>if b=cL then g γ else cI d7
def fG(f g:CO Bool)(γ:Ctx):Option Bool:=(f γ).bind λb=>if b=cL then cI cL else g γ
def kz(f:CO Bool)(γ:Ctx):Option Bool:=(f γ).map λb=> !b
def Bl(f g:CO D)(γ:Ctx):Option D:=((f γ).bind De).bind λb=>if b=cL then g γ else cI (.bl d7)
def O?(f g:CO D)(γ:Ctx):Option D:=((f γ).bind De).bind λb=>if b=cL then cI (.bl cL)else g γ
def Ho(f:CO D)(γ:Ctx):Option D:=((f γ).bind De).map λb=> .bl (!b)
def WV(c:CO Bool)(f g:CO D)(γ:Ctx):Option D:=(c γ).bind λb=>if b=cL then f γ else g γ
def zG:CO (List D):=λ_=>cI []
def zc(f:CO D)(g:CO (List D))(γ:Ctx):Option (List D):=(f γ).bind λx=>(g γ).map λr=>x::r
def qe(f:CO (List D))(γ:Ctx):Option D:=(f γ).bind λds=>if ds.length<=lim then cI (.tup ds)else cR
def yu(f:CO (List D))(γ:Ctx):Option (List D):=(f γ).bind λds=>if ds.length<=lim then cI ds else cR
inductive Res where
 | val (d:D) | own (ds:List D)
inductive Fl where
 | next (γ:Ctx) | brk (γ:Ctx) | cont (γ:Ctx) | ret (r:Res)
def xw(γ:Ctx):Option Fl:=cI (.next γ)
def zS(F G:CO Fl):CO Fl:=λγ=>(F γ).bind λz=>match z with
 | .next γ'=>G γ'
 | f=>cI f
def xh(f:CO D)(γ:Ctx):Option Fl:=(f γ).map λd=> .ret (.val d)
def Zn(f:CO (List D))(γ:Ctx):Option Fl:=(f γ).map λd=> .ret (.own d)
def Wg:Option Cell->Option Fl
 | some (.val d)=>cI (.ret<|.val d)
 | some (.own ds)=>cI (.ret<|.own ds)
 | _=>cR
def ZV(i:Nat)(γ:Ctx):Option Fl:=Wg γ[i]?
def Nh(γ:Ctx):Option Fl:=cI (.brk γ)
def uf(γ:Ctx):Option Fl:=cI (.cont γ)
def w9:CO Fl:=λ_=>cR
def oy(k:CO Bool)(F G:CO Fl)(γ:Ctx):Option Fl:=(k γ).bind λb=>if b=cL then F γ else G γ
def jT(i:Nat)(f:CO D)(γ:Ctx):Option Fl:=(f γ).map λd=> .next (γ.set i<|.val d)
def yt(i:Nat)(f:CO (List D))(γ:Ctx):Option Fl:=(f γ).map λds=> .next (γ.set i<|.own ds)
def nq(f:CO D)(γ:Ctx):Option Fl:=(f γ).map λ_=> .next γ
def qT:Option Cell->Option (List D)
 | some (.own ds)=>cI ds
 | _=>cR
def jZ(i:Nat)(f:CO D)(γ:Ctx):Option Fl:=(qT γ[i]?).bind λds=>(f γ).bind λd=>if ds.length<lim then cI (.next<|γ.set i<|.own<|ds++[d])else cR
def jt(n:Nat)(ds:List D):Ctx:=ds.map Cell.val++NB (n - ds.length) Cell.no
noncomputable def jo(n:Nat)(F:CO Fl)(ds:List D):Option Res:=(F<|jt n ds).bind λz=>match z with
 | .ret r=>cI r
 | .next _=>cI (.val .i5)
 | _=>cR
def Ce:Res->D
 | .val d=>d
 | .own ds=> .lst ds
def zJ(F:List D->Option Res)(g:CO (List D))(γ:Ctx):Option D:=(g γ).bind λds=>(F ds).map Ce
def FT:Res->Option (List D)
 | .own ds=>cI ds
 | _=>cR
def qj(F:List D->Option Res)(g:CO (List D))(γ:Ctx):Option (List D):=(g γ).bind λds=>(F ds).bind FT
def vJ(lo:Int)(n:Nat):List D:=(Nu n).map λ(i:Nat)=>D.int<|lo+(i:Int)
def KZ(ds es:List D):List D:=(ds.zip es).map λp=>D.tup [p.1,p.2]
def zQ(f:CO (Sk×List D))(γ:Ctx):Option (List D):=(f γ).map (·.2)
def inR(i:Int):Bool:=decide<|i.natAbs<2 ^ 62
def jH(f:CO D)(γ:Ctx):Option (List D):=((f γ).bind p7).bind λn=>if inR n=cL then cI (vJ 0 n.toNat)else cR
def XU(f g:CO D)(γ:Ctx):Option (List D):=((f γ).bind p7).bind λm=>((g γ).bind p7).bind λn=>if inR m=cL/\inR n=cL then cI (vJ m (n - m).toNat)else cR
def rC(f g:CO D)(γ:Ctx):Option (List D):=((f γ).bind jg).bind λm=>((g γ).bind jg).map λn=>KZ m.2 n.2
inductive Tg where
 | nm (i:Nat) | tp (is:List Nat)
def qi:List Nat->List D->Ctx->Ctx
 | i::is,d::ds,γ=>qi is ds<|γ.set i<|.val d
 | _,_,γ=>γ
def qm:Tg->D->CO Ctx
 | .nm i,d,γ=>cI (γ.set i<|.val d)
 | .tp is,.tup ds,γ=>if ds.length=is.length then cI (qi is ds γ)else cR
 | _,_,_=>cR
def xl(T:Tg)(F:CO Fl):List D->CO Fl
 | [],γ=>cI (.next γ)
 | d::ds,γ=>(qm T d γ).bind λγ1=>(F γ1).bind λI=>match I with
  | .next z=>xl T F ds z
  | .cont z=>xl T F ds z
  | .brk z=>cI (.next z)
  | .ret r=>cI (.ret r)
def J3(src:CO (List D))(T:Tg)(F:CO Fl)(γ:Ctx):Option Fl:=(src γ).bind λds=>xl T F ds γ
def qM:Cell->Cell
 | .own _=> .no
 | .nest _=> .no
 | c=>c
def jA(n:Nat)(fr:List Nat)(γ:Ctx):Ctx:=NB n Cell.no++fr.map λj=>qM<|γ[j]?.getD .no
def z7(T:Tg)(k:CO Bool)(f:CO D)(γ:Ctx):List D->Option (List D)
 | []=>cI []
 | d::ds=>(qm T d γ).bind λγ1=>(k γ1).bind λb=>if b=cL then (f γ1).bind λe=>(z7 T k f γ ds).map λr=>e::r else z7 T k f γ ds
def zT(src:CO (List D))(T:Tg)(n:Nat)(fr:List Nat)(k:CO Bool)(f:CO D)(γ:Ctx):Option (List D):=(src γ).bind λds=>if ds.length<=lim then z7 T k f (jA n fr γ) ds else cR
def jS:CO Bool:=λ_=>cI cL
def Tg.idx:Tg->List Nat
 | .nm i=>[i]
 | .tp is=>is
def dI(g:Int->Int->D):D->D->Option D
 | .int i,.int j=>cI (g i j)
 | _,_=>cR
def Iv(c:Int->Int->Bool)(g:Int->Int->D):D->D->Option D
 | .int i,.int j=>if c i j=cL then cI (g i j)else cR
 | _,_=>cR
def yN:D->D->Option D:=dI λi j=> .int (i - j)
def JV(i j:Int):Bool:=decide (i.natAbs<2 ^ 64) || decide (j.natAbs<2 ^ 64)
def pN(_ j:Int):Bool:=decide (0<j) && decide (j.natAbs<1073741824)
def KU:D->D->Option D:=Iv pN λi j=> .int (i/j)
def me(_ j:Int):Bool:=decide<|0<j
def x6:D->D->Option D:=Iv me λi j=> .int (i%j)
def Fv(i j:Int):Bool:=decide (0<=j) && decide (j.natAbs<=1000000) && decide (i.natAbs<2 ^ 64)
def AH:D->D->Option D:=Iv Fv λi j=> .int (i ^ j.toNat)
def B8:D->D->Option D:=dI λi j=> .bl (decide<|i<j)
def A6:D->D->Option D:=dI λi j=> .bl (decide<|i<=j)
def yJ:D->D->Option D:=dI λi j=> .bl (decide<|j<i)
def R_:D->D->Option D:=dI λi j=> .bl (decide<|j<=i)
def qb:D->D->Option D
 | .int i,.int j=>cI (.int<|i+j)
 | .tup xs,.tup ys=>if xs.length+ys.length<=lim then cI (.tup<|xs++ys)else cR
 | _,_=>cR
def kQ:D->D->Option D
 | .int i,.int j=>if JV i j=cL then cI (.int<|i*j)else cR
 | .tup xs,.int j=>if xs.length*j.toNat<=lim/\inR j=cL then cI (.tup (NB j.toNat xs).flatten)else cR
 | _,_=>cR
def fM(f g:CO (Sk×List D))(γ:Ctx):Option (List D):=(f γ).bind λa=>(g γ).bind λb=>
 match a.1,b.1 with
 | .L,.L=>if a.2.length+b.2.length<=lim then cI (a.2++b.2)else cR
 | _,_=>cR
def Hn(f:CO (Sk×List D))(g:CO D)(γ:Ctx):Option (List D):=(f γ).bind λa=>((g γ).bind p7).bind λj=>
 match a.1 with
 | .L=>if a.2.length*j.toNat<=lim/\inR j=cL then cI (NB j.toNat a.2).flatten else cR
 | _=>cR
def p8(n:Nat)(i:Int):Option Nat:=if 0<=i/\i<n then cI i.toNat else if i<0/\0<=i+n then cI (i+n).toNat else cR
def fy(f:CO (Sk×List D))(g:CO D)(γ:Ctx):Option D:=(f γ).bind λa=>((g γ).bind p7).bind λi=>(p8 a.2.length i).bind λk=>a.2[k]?
def Lo(i:Nat)(g f:CO D)(γ:Ctx):Option Fl:=(f γ).bind λd=>(qT γ[i]?).bind λds=>((g γ).bind p7).bind λk=>(p8 ds.length k).map λj=> .next (γ.set i<|.own<|ds.set j d)
def QE(n dflt:Nat):Option Int->Nat
 | none=>dflt
 | some i=>if i<0 then (i+n).toNat else min i.toNat n
def Zs(xs:List D)(lo hi:Option Int):List D:=(xs.drop<|QE xs.length 0 lo).take (QE xs.length xs.length hi - QE xs.length 0 lo)
def KQ:CO (Option Int):=λ_=>cI cR
def vl(f:CO D)(γ:Ctx):Option (Option Int):=((f γ).bind p7).map cI
def Vt(f:CO D)(l h:CO (Option Int))(γ:Ctx):Option D:=(f γ).bind λd=>(l γ).bind λlo=>(h γ).bind λhi=>match d with
 | .tup xs=>cI (.tup<|Zs xs lo hi)
 | _=>cR
def vB(f:CO (Sk×List D))(γ:Ctx):Option D:=(f γ).map λa=> .int a.2.length
inductive Ty where
 | int | bool | str | tuple | list
 deriving DecidableEq
@[simp] def sg:D->Bool
 | .int _=>cL
 | .bl _=>cL
 | _=>d7
@[simp] def ES:D->Bool
 | .bl _=>cL
 | _=>d7
@[simp] def sd:D->Bool
 | .str _=>cL
 | _=>d7
@[simp] def rZ:D->Bool
 | .tup _=>cL
 | _=>d7
@[simp] def sf:D->Bool
 | .lst _=>cL
 | _=>d7
def Bo:Ty->D->Bool
 | .int=>sg
 | .bool=>ES
 | .str=>sd
 | .tuple=>rZ
 | .list=>sf
def GC(T:Ty)(f:CO D)(γ:Ctx):Option D:=(f γ).map λd=> .bl (Bo T d)
def HZ:Ty->Sk->Bool
 | .tuple,.T=>cL
 | .list,.L=>cL
 | _,_=>d7
def Nd(T:Ty)(f:CO (Sk×List D))(γ:Ctx):Option D:=(f γ).map λa=> .bl (HZ T a.1)
@[simp] def l?:D->Bool
 | .i5=>cL
 | _=>d7
@[simp] def eqB(a:Bool):D->Bool
 | .bl b=>a==b
 | .int b=>(if a then 1 else 0)==b
 | _=>d7
@[simp] def T_(a:Int):D->Bool
 | .bl b=>a==(if b then 1 else 0)
 | .int b=>a==b
 | _=>d7
@[simp] def m?(a:Str):D->Bool
 | .str b=>a==b
 | _=>d7
@[simp] def eqX(a:Str)(i:Option Int):D->Bool
 | _=>d7
mutual
def n6:D->D->Bool
 | .i5,y=>l? y
 | .bl a,y=>eqB a y
 | .int a,y=>T_ a y
 | .str a,y=>m? a y
 | .tup xs,y=>match y with
  | .tup ys=>B9 xs ys
  | _=>d7
 | .lst xs,y=>match y with
  | .lst ys=>B9 xs ys
  | _=>d7
 | .sh a b,y=>match y with
  | .sh c d=>B9 a c && B9 b d
  | _=>d7
 | .n0 a b,y=>match y with
  | .n0 c d=>a==c && B9 b d
  | _=>d7
def B9:List D->List D->Bool
 | [],[]=>cL
 | x::xs,y::ys=>n6 x y && B9 xs ys
 | _,_=>d7
end
mutual
def deep:D->Nat
 | .tup xs=>DH xs+1
 | .lst xs=>DH xs+1
 | _=>0
def DH:List D->Nat
 | []=>0
 | x::xs=>max (deep x)<|DH xs
end
mutual
def vb:D->Bool
 | .str x=>x.cps.all (· < 0x110000)
 | .sh _ _=>d7
 | .n0 _ _=>d7
 | .tup xs=>ve xs
 | .lst xs=>ve xs
 | _=>cL
def ve:List D->Bool
 | []=>cL
 | x::xs=>vb x && ve xs
end
def tu(d:D):Bool:=decide (deep d<=20) && vb d
def kC(x y:D):Option D:=if tu x=cL/\tu y=cL then cI (.bl<|n6 x y)else cR
def ow(x y:D):Option D:=if tu x=cL/\tu y=cL then cI (.bl<|!n6 x y)else cR
def jj(f:CO (Sk×List D))(γ:Ctx):Option D:=(f γ).map λa=> .tup a.2
def fH(f:CO (Sk×List D))(γ:Ctx):Option (List D):=(f γ).map λa=>a.2
def bY:List D->Option Int
 | []=>cI 0
 | .int i::r=>(bY r).map λs=>i+s
 | _::_=>cR
def BU(f:CO (Sk×List D))(γ:Ctx):Option D:=(f γ).bind λa=>(bY a.2).map D.int
def FQ:D->Option Bool
 | .i5=>cI d7
 | .bl b=>cI b
 | .int i=>cI (i != 0)
 | _=>cR
def XO:List D->Option (List Bool)
 | []=>cI []
 | d::r=>(FQ d).bind λb=>(XO r).map λs=>b::s
def fN(f:CO (Sk×List D))(γ:Ctx):Option D:=(f γ).bind λa=>(XO a.2).map λs=> .bl (s.all id)
def Hw(f:CO (Sk×List D))(γ:Ctx):Option D:=(f γ).bind λa=>(XO a.2).map λs=> .bl (s.any id)
def ng(f:CO D)(γ:Ctx):Option D:=(f γ).bind λd=>match d with
 | .int i=>cI (.int i)
 | .bl b=>cI (.int<|if b then 1 else 0)
 | _=>cR
def My(f g:CO D)(γ:Ctx):Option D:=((f γ).bind p7).bind λi=>((g γ).bind p7).map λj=> .int (if j>i then j else i)
def ud(f:CO (Sk×List D))(γ:Ctx):Option Bool:=(f γ).map λa=> !a.2.isEmpty
def Lq(f:CO D):CO D:=λγ=>((f γ).bind p7).map λi=> .int (-i)
def yC(F G:D->D->Option D)(fa fb fc:CO D):CO D:=λγ=>(fa γ).bind λx=>(fb γ).bind λy=>((F x y).bind De).bind λb=>if b=cL then (fc γ).bind λz=>G y z else cI (.bl d7)
def Vu(T:Tg)(f:CO D)(γ:Ctx):Option Fl:=(f γ).bind λd=>(qm T d γ).map .next
def MN:D->Option Int
 | .tup (.int k::_)=>cI k
 | _=>cR
def EG:List D->Option (List Int)
 | []=>cI []
 | d::r=>(MN d).bind λk=>(EG r).map λl=>k::l
def LL:List Int->Bool
 | a::b::r=>decide (a<b) && LL (b::r)
 | _=>cL
def MH(ks:List Int):Nat:=(ks.dropLast.filter λk=>decide<|k<ks.getLast?.getD 0).length
def MO(q:Nat)(ds:List D):List D:=ds.dropLast.take q++(ds.drop (ds.length - 1)++ds.dropLast.drop q)
def Hl(ds:List D):Option (List D):=(EG ds).bind λks=>if (1<=ds.length/\ds.length<=8)/\LL ks.dropLast=cL/\decide (ks.getLast?.getD 0∈ks.dropLast)=d7 then cI (MO (MH ks) ds)else cR
def Hm(f:CO (Sk×List D))(γ:Ctx):Option (List D):=(f γ).bind λa=>match a.1 with
 | .L=>Hl a.2
 | _=>cR
def Il:D->Bool
 | .tup _=>d7
 | .lst _=>d7
 | .sh _ _=>d7
 | .n0 _ _=>d7
 | _=>cL
end DL
namespace L2
open PySem PySem.Spec PyProof.Rows
def rq(k:Sk)(h:je)(i l:d8)(n:Nat):Prop:=match k with
 | .L=>h.IsListIter i l n
 | .T=>h.IsTupleIter i l n
def wa(k:Sk)(h:je)(l:d8)(xs:Array fm):Prop:=match k with
 | .L=>h.IsList l xs
 | .T=>h.IsTuple l xs
def u4(k:Sk)(l:d8):o8:=match k with
 | .L=>{cls:= .type "list_iterator",data:= .fields #[.ref l,.int 0 0]}
 | .T=>{cls:= .type "tuple_iterator",data:= .fields #[.ref l,.int 0 0]}
theorem rq.at(x:rq k h i l n)(e : ∀o,h.get? i=cI o->h'.get? i=cI o):rq k h' i l n:=by cases k<;>exact let ⟨o,z,r⟩:=x;⟨o,e _ z,r⟩
theorem wa.at(x:wa k h l xs)(e : ∀o,h.get? l=cI o->h'.get? l=cI o):wa k h' l xs:=by cases k<;>exact let ⟨o,z,r⟩:=x;⟨o,e _ z,r⟩
theorem rq.obj(x:rq k h i l n) : ∃o,h.get? i=cI o/\∀v,o.data ≠ .cell v:=by cases k<;>exact let ⟨o,I,_,d⟩:=x;⟨o,I,λv z=>by rw[d]at z;cases z⟩
theorem wa.lt(x:wa k h l xs):l<h.objs.size:=by cases k<;>exact let ⟨o,z,_⟩:=x;NR z
theorem Xo(k:Sk)(h:je)(l:d8):rq k (h.push<|u4 k l) h.objs.size l 0:=by cases k<;>exact⟨_,NO _ rfl,rfl,rfl⟩
section
variable{prog:m4}{w:l0}{A:p4}{E:EQ}{s:gx}
theorem YL(z:wa k s.heap l xs)(I:Q (.ref s.heap.objs.size) {s with heap:=s.heap.push (u4 k l)}):wpAny (gv prog w) A (IE<|.ref l) Q E s:=by
 cases k
 ·exact UY z I
 ·exact Tw z I
theorem vT(O:rq k s.heap it l i)(Y:wa k s.heap l items)(hx:items[i]? = cI x)
 (hQ : ∀h',rq k h' it l (i+1)->PM it s.heap h'->Q x {s with heap:=h'}):wpAny (gv prog w) A (Ow<|.ref it) Q E s:=by
 cases k with
 | L=>exact wpAny_nextOf_list_item O Y hx hQ
 | T=>
  have I:s.heap.IsTupleIter it l i:=O;obtain⟨o,z,hc,hd⟩:=id I;obtain⟨ol,a2,_,nl,a3⟩:=(show s.heap.IsTuple l items from Y);unfold Ow;refine Nt (OD (name:=OJ "__next__") I.typeIs Tn (OI Tn I.typeIs k? ?_ (_Z _)));refine Nt (m:=field (.ref it) 0) (Pa z hd (x:= .ref l) rfl ?_);show wpAny _ _ (if (Of l==Oy)=cL then _ else _) _ _ s;rw[DJ (show ¬((Of l==Oy)=cL)from NM)];refine Nt (m:=field (.ref it) 1) (Pa z hd (x:= .int i 0) rfl ?_);refine Nt (m:=d_ (.ref l)) (Ra a2 a3 ?_);simp only[OF,hx];refine Nt (SS z hd ⋯ (Nz ⟨x,rfl,Nz (hQ _ ?_ (Rz ..))⟩));show Heap.IsTupleIter _ it l (i+1);exact⟨_,RW _ z (SN (Rx hd _)),(Tu ..).trans hc,by rw[Rx hd];simp[zt]⟩
theorem Ke(z:A.handled=cR)(Y:rq k s.heap it l i)(hl:wa k s.heap l items)(hx:items[i]? = cR)
 (hE : ∀h' e,Heap.ExtBut it s.heap h'->(∃o,h'.get? e=cI o/\o.cls = .type "StopIteration")->E (.ref e) {s with heap:=h'}):wpAny (gv prog w) A (Ow (.ref it)) Q E s:=by
 cases k with
 | L=>exact wpAny_nextOf_list_end z Y hl hx hE
 | T=>
  have I:s.heap.IsTupleIter it l i:=Y;obtain⟨o,O,hc,hd⟩:=id I;obtain⟨ol,a2,_,nl,a3⟩:=(show s.heap.IsTuple l items from hl);unfold Ow;refine Nt (OD (name:=OJ "__next__") I.typeIs Tn (OI Tn I.typeIs k? ?_ (_Z _)));refine Nt (m:=field (.ref it) 0) (Pa O hd (x:= .ref l) rfl ?_);show wpAny _ _ (if (Of l==Oy)=cL then _ else _) _ _ s;rw[DJ (show ¬((Of l==Oy)=cL)from NM)];refine Nt (m:=field (.ref it) 1) (Pa O hd (x:= .int i 0) rfl ?_);refine Nt (m:=d_ (.ref l)) (Ra a2 a3 ?_);simp only[OF,hx];refine Nt (TR (Nt (SS O hd ⋯ ?_)));refine Nt (m:=Iz (.type "StopIteration") []) ?_;simp only[Iz,M7];refine Nt (Ox ?_ (by size_fits));refine Nt (m:=Gu _ _) (Tj (a:=Oy) (by first | rfl | (simp only[Gu];rfl)) ?_);refine Ox ?_ (by size_fits);simp only[raiseNew];refine Nt (_B ?_)
  first | rw[show A.in1.handled=cR from z] | rw[z]
  exact Nt<|Nz<|wpAny_throw<|hE _ _ (((Rz ..).extBut.push _).push _) ⟨_,NO _ rfl,rfl⟩
theorem dX{k1 k2:Sk}{z TI TO O Y l1 l2:d8}{n1 n2:Nat}{xs ys:Array fm}{x y a b:fm}{Q:EQ}(D:R3 z TI TO O Y l1 l2)
 (hz:Dq s.heap z TI TO .none) (be:vt s.heap TI (.ref O) (.ref Y)) (bg:vt s.heap TO a b)
 (h1:rq k1 s.heap O l1 n1) (h2:rq k2 s.heap Y l2 n2) (bi:wa k1 s.heap l1 xs) (bl:wa k2 s.heap l2 ys) (hx:xs[n1]? = cI x) (hy:ys[n2]? = cI y)
 (hQ : ∀h',Dq h' z TI TO (zt s.heap.objs.size)->vt h' TO x y->rq k1 h' O l1 (n1+1)->rq k2 h' Y l2 (n2+1)->vt h' s.heap.objs.size x y->h'.objs.size=s.heap.objs.size+1->
   (∀c o,c≠z->c≠TO->c≠O->c≠Y->s.heap.get? c=cI o->h'.get? c=cI o)->Q (.ref s.heap.objs.size) {s with heap:=h'}) :
 wpAny (gv prog w) A (wy.«zip.__next__» ⟨[.ref z],[]⟩) (λbv s'=>∃v,bv = .done (.ret v)/\Q v s') E s:=by
 refine Nt (m:=field (.ref z) 2)<|Pa hz rfl (x:= .bool d7) rfl ?_;refine Nt (m:=field (.ref z) 3)<|Pa hz rfl (x:= .ref TI) rfl ?_;refine Nt<|Ra be rfl ?_;refine Nt (m:=OU<|.ref z) ?_;unfold OU;refine Nt<|Pa hz rfl (x:= .none) rfl<|Nz ?_;simp only[if_true];refine Nt<|TR<|Nt<|Pa hz rfl (x:= .ref TO) rfl ?_;refine Nt<|D2 hz ⋯ λg1 ag a0=>?_;replace ag:Dq g1 z TI TO .ellipsis:=ag;refine Nt ?_;simp only[List.zipIdx_cons,List.zipIdx_nil,List.forIn_cons,List.forIn_nil];refine Nt<|Nt<|US ?_;refine Nt (m:=Ow<|.ref O)<|vT (h1.at λo e=>a0.extBut _ _ D.i1z e) (bi.at λo e=>a0.extBut _ _ D.l1z e) hx λg2 c0 a2=>Nz ?_;have ax:vt g2 TO a b:=a2.extBut _ _ D.TOi1<|a0.extBut _ _ D.TOz bg;refine Nt<|Ra ax rfl<|Nt<|UA ax λg3 ak a3=>?_;replace ak:vt g3 TO x b:=ak;refine Nt<|wpAny_letGo<|Nz<|Nt<|Nt<|US ?_;refine Nt (m:=Ow<|.ref Y)<|vT (h2.at λo e=>a3.extBut _ _ D.TOi2.symm<|a2.extBut _ _ D.i12.symm<|a0.extBut _ _ D.i2z e) (bl.at λo e=>a3.extBut _ _ D.l2TO<|a2.extBut _ _ D.l2i1<|a0.extBut _ _ D.l2z e) hy λg4 c7 a5=>Nz ?_;have b0:vt g4 TO x b:=a5.extBut _ _ D.TOi2 ak;refine Nt<|Ra b0 rfl<|Nt<|UA b0 λI aa a6=>?_;replace aa:vt I TO x y:=aa;refine Nt<|wpAny_letGo<|Nz<|Nz<|Nt<|Ra aa rfl<|Nt<|wpAny_newTuple ?_;have hsz:I.objs.size=s.heap.objs.size:=by rw[a6.1,a5.1,a3.1,a2.1,a0.1]
 have b9:Dq I z TI TO .ellipsis:=a6.extBut _ _ D.TOz.symm (a5.extBut _ _ D.i2z.symm (a3.extBut _ _ D.TOz.symm (a2.extBut _ _ D.i1z.symm ag)));have ca : ∀c o,c≠z->c≠TO->c≠O->c≠Y->s.heap.get? c=cI o->I.get? c=cI o:=λc o c1 c2 c3 c4 e=>a6.extBut _ _ c2 (a5.extBut _ _ c4 (a3.extBut _ _ c2 (a2.extBut _ _ c3 (a0.extBut _ _ c1 e))));have cb:rq k1 I O l1 (n1+1):=c0.at λo e=>a6.extBut _ _ D.TOi1.symm (a5.extBut _ _ D.i12 (a3.extBut _ _ D.TOi1.symm e));have cd:rq k2 I Y l2 (n2+1):=c7.at λo e=>a6.extBut _ _ D.TOi2.symm e;have ba:z<I.objs.size:=NR b9;refine Nt (m:=PU (.ref z) (.ref I.objs.size)) ?_;unfold PU;have ce:Dq (I.push {cls:= .type "tuple",data:= .seq #[x,y]}) z TI TO .ellipsis:=Nv _ b9;refine Nt (D2 ce ⋯ λg7 ap ar=>?_);replace ap:Dq g7 z TI TO (zt I.objs.size):=ap;refine D2 ap ⋯ λg8 ac as=>?_;replace ac:Dq g8 z TI TO (zt I.objs.size):=ac;have up : ∀c o,c≠z->I.get? c=cI o->g8.get? c=cI o:=λc o c1 e=>as.extBut _ _ c1 (ar.extBut _ _ c1 (Nv _ e));have bb:vt g8 I.objs.size x y:=as.extBut _ _ (PZ ba) (ar.extBut _ _ (PZ ba) (NO _ rfl));have bd:g8.objs.size=I.objs.size+1:=by rw[as.1,ar.1,OB]
 rw[hsz]at ac bb bd;refine Nz ⟨_,rfl,?_⟩;show Q (.ref I.objs.size) _;rw[hsz];exact hQ g8 ac (up _ _ D.TOz aa) (cb.at λo e=>up _ o D.i1z e) (cd.at λo e=>up _ o D.i2z e) bb bd λc o c1 c2 c3 c4 e=>up c o c1<|ca c o c1 c2 c3 c4 e
theorem mn{k1 k2:Sk}{z TI TO Y i2 l1 l2:d8}{n1 n2:Nat}{xs ys:Array fm}{a b:fm}{Q:Fin->gx->Prop}(hh:A.handled=cR)(D:R3 z TI TO Y i2 l1 l2)
 (hz:Dq s.heap z TI TO .none) (ax:vt s.heap TI (.ref Y) (.ref i2)) (b0:vt s.heap TO a b)
 (h1:rq k1 s.heap Y l1 n1) (h2:rq k2 s.heap i2 l2 n2) (ak:wa k1 s.heap l1 xs) (b9:wa k2 s.heap l2 ys) (ba:xs[n1]? = cR\/ys[n2]? = cR)
 (hE : ∀h' e,(∀c o,c≠z->c≠TO->c≠Y->c≠i2->s.heap.get? c=cI o->h'.get? c=cI o)->(∃o,h'.get? e=cI o/\o.cls = .type "StopIteration")->E (.ref e) {s with heap:=h'}) :
 wpAny (gv prog w) A (wy.«zip.__next__» ⟨[.ref z],[]⟩) Q E s:=by
 refine Nt (m:=field (.ref z) 2) (Pa hz rfl (x:= .bool d7) rfl ?_);refine Nt (m:=field (.ref z) 3) (Pa hz rfl (x:= .ref TI) rfl ?_);refine Nt (Ra ax rfl ?_);refine Nt (m:=OU (.ref z)) ?_;unfold OU;refine Nt (Pa hz rfl (x:= .none) rfl (Nz ?_));simp only[if_true];refine Nt (TR (Nt (Pa hz rfl (x:= .ref TO) rfl ?_)));refine Nt (D2 hz ⋯ λg1 a7 I=>?_);replace a7:Dq g1 z TI TO .ellipsis:=a7;refine Nt ?_;simp only[List.zipIdx_cons,List.zipIdx_nil,List.forIn_cons,List.forIn_nil];refine Nt (Nt (US ?_));have am : ∀{g e:_} {oe:o8},Dq g z TI TO .ellipsis->(∀c o,c≠z->c≠TO->c≠Y->c≠i2->s.heap.get? c=cI o->g.get? c=cI o)->g.get? e=cI oe->oe.cls = .type "StopIteration"->
  wpAny (gv prog w) A (IH (.ref z) 0 .none) (λ_ s'=>E (.ref e) s') E {s with heap:=g}:=λ{g e oe} an hk a0 a4=>by
  have be:e≠z:=λq=>by subst q;rw[an]at a0;cases a0;simp at a4
  exact D2 an ⋯ λg3 _ a1=>hE g3 e (λc o c1 c2 c3 c4 q=>a1.extBut _ _ c1<|hk c o c1 c2 c3 c4 q) ⟨oe,a1.extBut _ _ be a0,a4⟩
 cases hx:xs[n1]? with
 | none=>
  refine Nt (m:=Ow<|.ref Y)<|Ke hh (h1.at λo e=>I.extBut _ _ D.i1z e) (ak.at λo e=>I.extBut _ _ D.l1z e) hx λg2 e O he=>?_;obtain⟨oe,a0,a4⟩:=he;exact am (O _ _ D.i1z.symm a7) (λc o c1 _ c3 _ q=>O _ _ c3<|I.extBut _ _ c1 q) a0 a4
 | some x=>
  have hy:ys[n2]? = cR:=by rcases ba with h | h;rw[hx]at h;cases h;exact h
  refine Nt (m:=Ow<|.ref Y)<|vT (h1.at λo e=>I.extBut _ _ D.i1z e) (ak.at λo e=>I.extBut _ _ D.l1z e) hx λg2 bi O=>Nz ?_;have ar:vt g2 TO a b:=O.extBut _ _ D.TOi1<|I.extBut _ _ D.TOz b0;refine Nt<|Ra ar rfl<|Nt<|UA ar λg3 bl a1=>?_;refine Nt<|wpAny_letGo<|Nz<|Nt<|Nt<|US ?_;refine Nt (m:=Ow<|.ref i2)<|Ke hh (h2.at λo e=>a1.extBut _ _ D.TOi2.symm<|O.extBut _ _ D.i12.symm<|I.extBut _ _ D.i2z e) (b9.at λo e=>a1.extBut _ _ D.l2TO<|O.extBut _ _ D.l2i1<|I.extBut _ _ D.l2z e) hy λg4 e as he=>?_;obtain⟨oe,a0,a4⟩:=he;exact am (as _ _ D.i2z.symm<|a1.extBut _ _ D.TOz.symm<|O.extBut _ _ D.i1z.symm a7) (λc o c1 c2 c3 c4 q=>as _ _ c4<|a1.extBut _ _ c2<|O.extBut _ _ c3<|I.extBut _ _ c1 q) a0 a4
end
def wM(a b:fm):o8:={cls:= .type "tuple",data:= .seq #[a,b]}
def GM(TI TO:d8):o8:={cls:= .type "zip",data:= .fields #[.none,.bool d7,.bool d7,.ref TI,.ref TO]}
def JW(z I:Sk)(h:je)(O l2:d8):je:=
 OY (OY (OY (OY (OY h<|u4 z O)<|u4 I l2)<|wM (.ref h.objs.size)<|.ref<|h.objs.size+1)<|wM .none .none) (GM (h.objs.size+2)<|h.objs.size+3)
theorem ml(I O:Sk)(z l2:d8)(xs ys:Array fm) :
 G8 (wy.«zip.__new__» ⟨[.type "zip",.ref z,.ref l2],[]⟩) (λ_ R s=>wa I s.heap z xs/\wa O s.heap l2 ys/\
  R (.ok<|.ret<|.ref<|s.heap.objs.size+4) {s with heap:=JW I O s.heap z l2}):=
 .of_wp λprog w A R s h=>by
  obtain⟨Y,g,d,tk,os⟩:=s;obtain⟨a1,a2,h⟩:=h;have a5:=sub_zip;have a3:wa I (Shared.heap ⟨Y,g,d,tk,os⟩) z xs:=a1;have a4:wa O (Shared.heap ⟨Y.push<|u4 I z,g,d,tk,os⟩) l2 ys:=a2.at λo e=>Nv _ e
  wp_walk using YL a3,YL a4
  refine⟨_,rfl,?_⟩;simp only[JW,wM,GM,OB]at h ⊢;exact h
section
variable{X:Cx}{pins:TW}{σ:St}{H:Hp}{s:gx}{h':je}
theorem Inv.x_{t':Nat}{fp:List d8}{a:d8}{o:HO}(I:Inv X pins σ H s)(k : ∀b u,b∉fp->s.heap.get? b=cI u->h'.get? b=cI u)(Y : ∀b∈fp,bC X pins H b)
 (hp:s.heap.objs.size<=a) (new:oi X.prog X.w (upd H a o) h' a o):Inv X pins σ (upd H a o) {s with heap:=h',toks:=t'}:=by
 have ha:H a=cR:=I.i7.fresh hp;have a2 : ∀b u,H b=cI u->b∉fp:=λb u e z=>by rw[(Y b z).1]at e;cases e
 have a3 : ∀b u,s.heap.get? b=cI u->b≠a:=λb u e=>Oa<|NX (NR e) hp;refine I.step (g':=s.gens) (d':=s.drawn) (ch:=fp) (λb hb=>⟨(Y b hb).2.2.2.1,(Y b hb).2.1,(Y b hb).2.2.2.2.1,(Y b hb).2.2.2.2.2⟩) (λb u _ _ O e _=>k b u O e) (λb u _ _ O e _=>⟨u.slots,k b u O e⟩)
  (λb u _ e n=>by rw[zH (a3 b u e)];exact n) (λb u O e=>⟨u,k b u O e⟩) (λb xs e=>by rw[zH (j1 e ha)];exact e) (λb ob xs e=>by rw[zH (j1 e ha)];exact e)
  (λb ps e=>⟨#[],by rw[zH (j1 e ha),e];simp⟩) (λm hm=>?_) (λb u e=>?_) I.bare
 ·obtain⟨ob,es,ep,ho,r⟩:=hm
  refine⟨ob,es,ep,k _ ob (λz=>(Y _ z).2.1 rfl) ho,r⟩
 ·by_cases hb:b=a
  ·subst hb;rw[zC]at e;cases e;exact new
  ·rw[zH hb]at e
   refine(I.i7 b u e).GF (λc v O q=>k c v ?_ q) (λc q=>by rw[zH (j1 q ha)];exact q) λc xs q=>by rw[zH (j1 q ha)];exact q
   rcases O with z | z
   ·rw[z];exact a2 b u e
   ·exact a2 c _ z
theorem Inv.IJ{t':Nat}{fp:List d8}(I:Inv X pins σ H s)(k : ∀b u,b∉fp->s.heap.get? b=cI u->h'.get? b=cI u)(Y : ∀b∈fp,bC X pins H b):Inv X pins σ H {s with heap:=h',toks:=t'}:=by
 have a1 : ∀b u,H b=cI u->b∉fp:=λb u e z=>by rw[(Y b z).1]at e;cases e
 refine I.step (g':=s.gens) (d':=s.drawn) (ch:=fp) (λb hb=>⟨(Y b hb).2.2.2.1,(Y b hb).2.1,(Y b hb).2.2.2.2.1,(Y b hb).2.2.2.2.2⟩) (λb u _ _ O e _=>k b u O e) (λb u _ _ O e _=>⟨u.slots,k b u O e⟩)
  (λb u _ e n=>n) (λb u O e=>⟨u,k b u O e⟩) (λb xs e=>e) (λb ob xs e=>e)
  (λb ps e=>⟨#[],by rw[e];simp⟩) (λm hm=>?_) (λb u e=>?_) I.bare
 ·obtain⟨ob,es,ep,ho,r⟩:=hm
  refine⟨ob,es,ep,k _ ob (λz=>(Y _ z).2.1 rfl) ho,r⟩
 ·refine(I.i7 b u e).GF (λc v O q=>k c v ?_ q) (λc q=>q) λc xs q=>q
  rcases O with z | z
  ·rw[z];exact a1 b u e
  ·exact a1 c _ z
end
def r6(k:Sk)(K:Nr)(H:Hp)(a:d8)(xs:List V):Prop:=match k with
 | .L=>lK K H a xs
 | .T=>k0 K H a xs
theorem Inv.sq(I:Inv X pins σ H s)(h:r6 k X.K H a xs) :
 ∃O:List fm,i8 xs O/\wa k s.heap a O.toArray/\xs.length<=kv:=by
 cases k with
 | L=>obtain⟨O,r,p,z⟩:=I.list h;exact⟨O,r,p.isList,z⟩
 | T=>obtain⟨O,r,p,z⟩:=I.tuple h;exact⟨O,r,p,z⟩
theorem Inv.f'(I:Inv X pins σ H s)(h:r6 k X.K H a xs)(h':r6 k X.K H a ys):xs=ys:=by
 cases k with
 | L=>exact I.T9 h h'
 | T=>exact I._w h h'
def P0(z I:Sk)(K:Nr)(a b:d8):It:=
 ⟨λi H=>∃xs ys,r6 z K H a xs/\r6 I K H b ys/\i<xs.length/\i<ys.length,
  λi H x H'=>∃p u v,x = .ref p/\H p=cR/\H'=upd H p (.tup [u,v])/\(∀xs,r6 z K H a xs->xs[i]? = cI u)/\(∀ys,r6 I K H b ys->ys[i]? = cI v),
  λi H=>∃xs ys,r6 z K H a xs/\r6 I K H b ys/\(xs.length<=i\/ys.length<=i)⟩
theorem mI{P:m4}{w:l0}{K:Nr}{elts:List f7}{x1:Nat}{sX:kr}(k1 k2:Sk){z TI TO i1 i2 a b:d8}(D:R3 z TI TO i1 i2 a b) :
 Turn P w K (.Tuple elts x1 sX) (P0 k1 k2 K a b) [z,TI,TO,i1,i2] z (λi h=>Dq h z TI TO .none/\vt h TI (.ref i1) (.ref i2)/\(∃c d,vt h TO c d)/\rq k1 h i1 a i/\rq k2 h i2 b i) where
 mem:=by simp
 obj:=λi h ⟨hz,Y,⟨c,d,a9⟩,h1,h2⟩ y hy=>by
  simp only[NP,Oc,or_false]at hy;rcases hy with rfl | rfl | rfl | rfl | rfl
  ·exact⟨_,hz,λv q=>by cases q⟩
  ·exact⟨_,Y,λv q=>by cases q⟩
  ·exact⟨_,a9,λv q=>by cases q⟩
  ·exact h1.obj
  ·exact h2.obj
 keep:=λi h h' ⟨hz,Y,⟨c,d,a9⟩,h1,h2⟩ k=>
  ⟨k z ⋯ _ hz,k TI ⋯ _ Y,⟨c,d,k TO ⋯ _ a9⟩,h1.at λo e=>k i1 ⋯ o e,h2.at λo e=>k i2 ⋯ o e⟩
 item:=by
  rintro X hP hw hK hc i pins s σ H E I hf ⟨hz,Y,⟨c,d,a9⟩,h1,h2⟩ ⟨xs,ys,ag,ak,bd,be⟩;subst hP hw hK;obtain⟨bg,ap,p1,z1⟩:=I.sq ag;obtain⟨bi,as,p2,z2⟩:=I.sq ak;have hx:xs[i]? = cI xs[i]:=Nw bd;have hy:ys[i]? = cI ys[i]:=Nw be;obtain⟨u1,bl,bm⟩:=ap.get hx;obtain⟨u2,bn,bv⟩:=as.get hy;have hT:s.TypeIs (.ref z) "zip":=⟨_,hz,rfl⟩;unfold B4;refine Nt (So (OD (name:=OJ "__next__") hT Uh (OI Uh hT F.entry_zip_next
   (dX D hz Y a9 h1 h2 p1 p2 (x:=u1) (y:=u2) (by simpa using bl) (by simpa using bn) λg a1 a2 a3 a4 a5 a6 a7=>Nz ⟨_,rfl,?_⟩) (F.args_zip_next_1 _))))
  refine wpAny_letOwnedTupleGo_zip a1 λg2 c4 aa=>?_;have lt : ∀{c o},s.heap.get? c=cI o->s.heap.objs.size≠c:=λe=>PZ<|NR e;have c5:vt g2 s.heap.objs.size u1 u2:=aa.extBut _ _ (lt hz) a5;have kk : ∀O u,O ∉ [z,TI,TO,i1,i2]->s.heap.get? O=cI u->g2.get? O=cI u:=λO u hb e=>by simp only[NP,Oc,or_false,not_or]at hb;exact aa.extBut _ _ hb.1<|a7 O u hb.1 hb.2.2.1 hb.2.2.2.1 hb.2.2.2.2 e
  have I1:Inv X pins σ (upd H s.heap.objs.size<|.tup [xs[i],ys[i]]) {s with heap:=g2,toks:=s.toks}:=
   I.x_ (fp:=[z,TI,TO,i1,i2]) kk hf (NJ _) ⟨by show 2<=kv;decide,[u1,u2],.cons bm<|.cons bv .nil,⟨_,c5,rfl,_,rfl⟩⟩
  have c7:H s.heap.objs.size=cR:=I.fresh;refine⟨.ref s.heap.objs.size,_,I1,rfl,⟨_,_,_,rfl,c7,rfl,λch ax=>by rw[I.f' ax ag];exact hx,λci ax=>by rw[I.f' ax ak];exact hy⟩,?_,λO hb=>?_⟩
  ·exact⟨c4,aa.extBut _ _ D.TIz<|a7 _ _ D.TIz D.TITO D.TIi1 D.TIi2 Y,⟨_,_,aa.extBut _ _ D.TOz a2⟩,a3.at λo e=>aa.extBut _ _ D.i1z e,a4.at λo e=>aa.extBut _ _ D.i2z e⟩
  ·have ca:O≠s.heap.objs.size:=by
    simp only[NP,Oc,or_false]at hb;rcases hb with rfl | rfl | rfl | rfl | rfl
    ·exact(lt hz).symm
    ·exact(lt Y).symm
    ·exact(lt a9).symm
    ·obtain⟨o,e,_⟩:=h1.obj;exact(lt e).symm
    ·obtain⟨o,e,_⟩:=h2.obj;exact(lt e).symm
   rw[zH ca];exact(hf O hb).1
 done:=by
  rintro X hP hw hK hc i pins s σ H E I hf ⟨hz,Y,⟨c,d,a9⟩,h1,h2⟩ ⟨xs,ys,ag,ak,hi⟩;subst hP hw hK;obtain⟨bg,ap,p1,z1⟩:=I.sq ag;obtain⟨bi,as,p2,z2⟩:=I.sq ak;have hT:s.TypeIs (.ref z) "zip":=⟨_,hz,rfl⟩;have l1:=ap.length;have l2:=as.length;unfold B4;refine Nt (So (OD (name:=OJ "__next__") hT Uh (OI Uh hT F.entry_zip_next
   (mn (show X.A.handled=cR from I.ok.hd hc) D hz Y a9 h1 h2 p1 p2 (by rcases hi with q | q;left;simp;omega;right;simp;omega) λg e hk he=>?_) (F.args_zip_next_1 _))))
  obtain⟨o,ho,ce⟩:=he;refine Nt (Ud (T:="StopIteration") (b:=cL) ⟨o,ho,ce⟩ UD (Nz ⟨rfl,?_⟩));refine I.IJ (t':=s.toks) (fp:=[z,TI,TO,i1,i2]) (λO u hb e=>?_) hf;simp only[NP,Oc,or_false,not_or]at hb;exact hk O u hb.1 hb.2.2.1 hb.2.2.2.1 hb.2.2.2.2 e
 self:=λ_ _ _ _ _ st h=>wpAny_pyIter_zip st.1 h
def MP(K:Nr)(ta:TA):TI:=λσ H R=>ta σ H λvs H1=>∃z I a b,vs=[.ref a,.ref b]/\(∃xs,r6 z K H1 a xs)/\(∃ys,r6 I K H1 b ys)/\R (P0 z I K a b) H1
theorem CH{X:Cx}{e1 e2:f7}{ta:TA}{p pos:kr}{elts:List f7}{x1:Nat}{sX:kr}(hg:Gl X "zip")(hm:X.mg "zip" = cR)(ha:PA X [e1,e2] ta)
 (hv:D5 "zip" = cI (.type "zip")) (hs:i6 [e1,e2] X.env=[(d7,f9 e1 X.env),(d7,f9 e2 X.env)]:=by rfl) (a3:i6 [e2] X.env=[(d7,f9 e2 X.env)]:=by rfl) :
 PI X (.Tuple elts x1 sX) (.Call (.Name "zip" p) [e1,e2] [] pos) (MP X.K ta):=by
 intro pins s σ H R I h;refine G7 (yq I hg hm hv<|OT (ip (ha pos pins s σ H _ I h) λus s1 hZ=>?_) (by rw[hs,a3])<|by rw[a3];rfl);obtain⟨vs,H1,Y,r1,q1⟩:=hZ;obtain⟨z,O,a,b,e,⟨xs,ak⟩,⟨ys,am⟩,q⟩:=q1;subst e;obtain⟨w1,w2,eu,ap,ar⟩:=BD r1;subst eu;cases ap;cases ar;obtain⟨as,be,p1,z1⟩:=Y.sq ak;obtain⟨ax,bg,p2,z2⟩:=Y.sq am;have la:=p1.lt;have lb:=p2.lt;refine g? F.called_zip ⋯ (F.typeCall_zip_2 _ _) (F.newCall_zip_2 _ _) (λobj=>F.args_object_init_3 obj _ _) F.entry_zip_new (ml z O a b as.toArray ax.toArray) ⟨p1,p2,?_⟩;have keep : ∀c o,s1.heap.get? c=cI o->(JW z O s1.heap a b).get? c=cI o:=λc o e=>
  Nv _ (Nv _<|Nv _<|Nv _<|Nv _ e)
 have y1:(OY s1.heap<|u4 z a).objs.size=s1.heap.objs.size+1:=OB ..;have y2:(OY (OY s1.heap<|u4 z a)<|u4 O b).objs.size=s1.heap.objs.size+2:=by rw[OB,y1]
 have y3:(OY (OY (OY s1.heap<|u4 z a)<|u4 O b)<|wM (.ref s1.heap.objs.size)<|.ref<|s1.heap.objs.size+1).objs.size=s1.heap.objs.size+3:=by rw[OB,y2]
 have y4:(OY (OY (OY (OY s1.heap<|u4 z a)<|u4 O b)<|wM (.ref s1.heap.objs.size)<|.ref<|s1.heap.objs.size+1)<|wM .none .none).objs.size=s1.heap.objs.size+4:=by rw[OB,y3]
 have g0:rq z (JW z O s1.heap a b) s1.heap.objs.size a 0:=(Xo z s1.heap a).at λo e=>Nv _<|Nv _<|Nv _<|Nv _ e;have g1:rq O (JW z O s1.heap a b) (s1.heap.objs.size+1) b 0:=by have q:=Xo O (OY s1.heap<|u4 z a) b;rw[y1]at q;exact q.at λo e=>Nv _<|Nv _<|Nv _ e
 have g2:vt (JW z O s1.heap a b) (s1.heap.objs.size+2) (.ref s1.heap.objs.size) (.ref<|s1.heap.objs.size+1):=by have q:_=cI (wM (.ref s1.heap.objs.size)<|.ref<|s1.heap.objs.size+1):=NO (OY (OY s1.heap<|u4 z a)<|u4 O b) (o:=wM (.ref s1.heap.objs.size)<|.ref<|s1.heap.objs.size+1) rfl;rw[y2]at q;exact Nv _<|Nv _ q
 have g3:vt (JW z O s1.heap a b) (s1.heap.objs.size+3) .none .none:=by have q:_=cI (wM .none .none):=NO (OY (OY (OY s1.heap<|u4 z a)<|u4 O b)<|wM (.ref s1.heap.objs.size)<|.ref<|s1.heap.objs.size+1) (o:=wM .none .none) rfl;rw[y3]at q;exact Nv _ q
 have g4:Dq (JW z O s1.heap a b) (s1.heap.objs.size+4) (s1.heap.objs.size+2) (s1.heap.objs.size+3) .none:=by have q:=NO (OY (OY (OY (OY s1.heap<|u4 z a)<|u4 O b)<|wM (.ref s1.heap.objs.size)<|.ref<|s1.heap.objs.size+1)<|wM .none .none) (o:=GM (s1.heap.objs.size+2)<|s1.heap.objs.size+3) rfl;rw[y4]at q;exact q
 refine⟨⟨_,g4,rfl⟩,wpAny_pyIter_zip (s:={s1 with heap:=JW z O s1.heap a b}) g4 ?_⟩;have I2:Inv X pins σ H1 {s1 with heap:=JW z O s1.heap a b,toks:=s1.toks}:=Y.kept keep;have nn : ∀m:Nat,s1.heap.objs.size≠s1.heap.objs.size+m+1:=λm=>by omega
 have a0 : ∀m:Nat,a≠s1.heap.objs.size+m:=λm=>Oa<|NX la<|OX _ m;have a1 : ∀m:Nat,b≠s1.heap.objs.size+m:=λm=>Oa<|NX lb<|OX _ m;have ne : ∀m n:Nat,m≠n->(s1.heap.objs.size+m:Nat)≠s1.heap.objs.size+n:=λm n h=>by omega
 have D:R3 (s1.heap.objs.size+4) (s1.heap.objs.size+2) (s1.heap.objs.size+3) s1.heap.objs.size (s1.heap.objs.size+1) a b:=
  ⟨ne 2 4 ⋯,ne 3 4 ⋯,ne 0 4 ⋯,ne 1 4 ⋯,ne 2 3 ⋯,ne 2 0 ⋯,ne 2 1 ⋯,ne 3 0 ⋯,ne 3 1 ⋯,ne 0 1 ⋯,
   a0 4,a0 3,a0 0,a0 1,a1 4,a1 3,a1 0,a1 1⟩
 refine⟨_,[s1.heap.objs.size+4,s1.heap.objs.size+2,s1.heap.objs.size+3,s1.heap.objs.size,s1.heap.objs.size+1],_,_,H1,rfl,I2,mI z O D,⟨g4,g2,⟨_,_,g3⟩,g0,g1⟩,λc hc=>?_,q⟩;have a9:s1.heap.objs.size<=c:=by
  simp only[NP,Oc,or_false]at hc;rcases hc with rfl | rfl | rfl | rfl | rfl
  ·exact OX _ _
  ·exact OX _ _
  ·exact OX _ _
  ·exact NJ _
  ·exact OX _ _
 exact Y.FZ a9<|Y.i7.fresh a9
def F_(k:Sk)(K:Nr)(a:d8):It:=match k with
 | .L=>G_ K a
 | .T=>H_ K a
def MQ(K:Nr)(tl:TE):TI:=λσ H R=>tl σ H λx H1=>∃a k,x = .ref a/\(∃xs,r6 k K H1 a xs)/\R (F_ k K a) H1
theorem gp(Y:PE X l tl):PI X tg l (MQ X.K tl):=by
 intro pins s σ H R I h;refine ip (Y pins s σ H _ I h) λv s1 hZ=>?_;obtain⟨x,H1,z,r1,q1⟩:=hZ;obtain⟨a,k,e,⟨xs,hq⟩,q⟩:=q1;subst e;cases r1;have O : ∀b ∈ [s1.heap.objs.size],bC X pins H1 b:=λb hb=>by
  have e:b=s1.heap.objs.size:=by simpa using hb
  subst e;exact z.FZ (NJ _)<|z.i7.fresh<|NJ _
 obtain⟨a4,rv,p,hz⟩:=z.sq hq;cases k with
 | L=>exact UY p ⟨s1.heap.objs.size,[s1.heap.objs.size],_,_,H1,rfl,z.kept (t':=s1.toks) λb o e=>Nv _ e,eP a _,⟨_,NO _ rfl,rfl,rfl⟩,O,q⟩
 | T=>exact Tw p ⟨s1.heap.objs.size,[s1.heap.objs.size],_,_,H1,rfl,z.kept (t':=s1.toks) λb o e=>Nv _ e,bJ a _,⟨_,NO _ rfl,rfl,rfl⟩,O,q⟩
section
variable{κ:Type} [DecidableEq κ]
def WC(hJ:List (κ×V))(k:κ):Option V:=(hJ.find? λz=>decide<|z.1=k).map (·.2)
def nF(hJ:List (κ×V))(k:κ)(v:V):List (κ×V):=
 if (hJ.any λz=>decide<|z.1=k)=cL then hJ.map (λz=>if z.1=k then (z.1,v)else z)else hJ++[(k,v)]
theorem XI{p:κ×V}{r:List (κ×V)}{k:κ}(e:p.1=k):WC (p::r) k=cI p.2:=by simp[WC,RV,e]
theorem WA{p:κ×V}{r:List (κ×V)}{k:κ}(e : ¬p.1=k):WC (p::r) k=WC r k:=by simp[WC,RV,e]
theorem VU(hJ:List (κ×V))(k:κ)(v:V):(nF hJ k v).length<=hJ.length+1:=by
 unfold nF;split
 ·rw[NV];omega
 ·rw[Ol,Od,PY];omega
theorem A4.X_(r:A4 o u):o.isSome=u.isSome:=by
 cases o with
 | none=>cases u with
  | none=>rfl
  | some _=>exact(show False from r).elim
 | some _=>cases u with
  | none=>exact(show False from r).elim
  | some _=>rfl
theorem KV.val{hJ:List (κ×V)}{vs:List (κ×fm)}(r:KV hJ vs)(k:κ):A4 (WC hJ k) (IK vs k):=by
 unfold KV at r
 induction r with
 | nil=>exact OR
 | @cons p q ps I h t Y=>
  obtain⟨h1,h2⟩:=h;by_cases e:p.1=k
  ·have O:q.1=k:=h1.symm.trans e
   have b:IK (q::I) k=cI q.2:=by simp[IK,RV,O]
   rw[XI e,b];exact h2
  ·have O : ¬q.1=k:=λz=>e (h1.trans z)
   have b:IK (q::I) k=IK I k:=by simp[IK,RV,O]
   rw[WA e,b];exact Y
theorem KV.any(r:KV hJ vs)(k:κ):(hJ.any λz=>decide<|z.1=k)=vs.any λz=>decide (z.1=k):=by
 unfold KV at r
 induction r with
 | nil=>rfl
 | cons h t I=>rw[Tz,Tz,I,h.1]
theorem KV.M?(r:KV hJ vs)(k:κ)(O:RelV y u) :
 KV (hJ.map λI=>if I.1=k then (I.1,y)else I) (vs.map λI=>if I.1=k then (I.1,u)else I):=by
 unfold KV at r ⊢
 induction r with
 | nil=>exact .nil
 | @cons p q ps qs h t Y=>
  rw[NY,NY];refine .cons ?_ Y;obtain⟨h1,h2⟩:=h;by_cases e:p.1=k
  ·rw[DZ e,DZ (h1.symm.trans e)];exact⟨h1,O⟩
  ·rw[DJ e,DJ (λz=>e<|h1.trans z)];exact⟨h1,h2⟩
theorem KV.put(r:KV hJ vs)(k:κ)(z:RelV y u):KV (nF hJ k y) (stored vs k u):=by
 unfold nF stored;rw[r.any k];by_cases e:(vs.any λI=>decide<|I.1=k)=cL
 ·rw[DZ e,DZ e];exact r.M? k z
 ·rw[DJ e,DJ e];exact Paired.snoc r ⟨rfl,z⟩
end
theorem oX(r:RelV (kV k) u):(qE P w).is k u=cL:=by
 cases k with
 | inl i=>obtain⟨t,e⟩:=(show ∃t,u=TV i t from r);subst e;exact VQ P w i t
 | inr x=>obtain⟨t,e⟩:=(show ∃t,u=TU x t from r);subst e;exact VP P w x t
theorem YM : ∀{ks:List Key} {us:List fm},i8 (ks.map kV) us->ItemsAre (qE P w) ks us
 | [],_,r=>by rw[UI]at r;cases r;exact .nil
 | k::ks,_,r=>by
  rw[NY]at r;cases r with
  | cons h t=>exact .cons (oX h)<|YM t
abbrev KT(H:Hp):List (List Key×V)->List (List Key×d8×fm)->Prop:=Paired λp q=>p.1=q.1/\H q.2.1=cI (.tup (p.1.map kV))/\RelV p.2 q.2.2
theorem KT.val{H:Hp}{hJ:List (List Key×V)}{xs:List (List Key×d8×fm)}(r:KT H hJ xs)(k:List Key):A4 (WC hJ k) ((Bm xs k).map (·.2)):=by
 induction r with
 | nil=>exact OR
 | @cons p q ps I h t Y=>
  obtain⟨h1,_,h2⟩:=h;by_cases e:p.1=k
  ·have O:q.1=k:=h1.symm.trans e
   have b:Bm (q::I) k=cI q.2:=by simp[Bm,RV,O]
   rw[XI e,b];exact h2
  ·have O : ¬q.1=k:=λz=>e (h1.trans z)
   have b:Bm (q::I) k=Bm I k:=by simp[Bm,RV,O]
   rw[WA e,b];exact Y
section
variable{P:m4}{w:l0}{H:Hp}{h:je}{a:d8}
theorem Cf(ok:p6 P w H h)(e:Rd H a u):oi P w H h a u:=e.ok ok
theorem pB(ok:p6 P w H h)(e:Rd H a (.dK hJ)):hJ.length<=kv/\(a==C3)=d7/\∃vs,KV hJ vs/\h.DictOf (qE P w) a vs:=
 show oi P w H h a (.dK hJ)from Cf ok e
theorem Ip(ok:p6 P w H h)(e:H a=cI (.dK hJ)):hJ.length<=kv/\(a==C3)=d7/\∃vs,KV hJ vs/\h.DictOf (qE P w) a vs:=pB ok<|.inl e
theorem ib(ok:p6 P w H h)(e:H a=cI (.tup<|ks.map kV)):(G4<|qE P w).is h ks a:=by obtain⟨_,z,r,o,h1,h2,n,I⟩:=(show oi P w H h a (.tup<|ks.map kV)from ok a _ e);exact⟨o,z.toArray,n,h1,(Prod.mk.inj h2).1,I,by simpa using YM r⟩
theorem AA(ok:p6 P w H h)(e:Rd H a (.dT hJ)):hJ.length<=kv/\(a==C3)=d7/\
 ∃xs,KT H hJ xs/\h.DictOfH (G4<|qE P w) a xs:=by
 obtain⟨z,y,xs,r,o,es,ep,h1,h2,O,Y,h5⟩:=(show oi P w H h a (.dT hJ)from Cf ok e);refine⟨z,y,xs,r,o,es,ep,h1,h2,O,Y,λx hx=>?_,h5⟩;have all : ∀{l:List (List Key×V)} {m:List (List Key×d8×fm)},KT H l m->∀x∈m,(G4<|qE P w).is h x.1 x.2.1:=by
  intro l m q
  induction q with
  | nil=>intro x hx;exact nomatch hx
  | @cons p q ps qs I t ih=>
   intro x hx;rcases NP.mp hx with e | hx
   ·subst e
    exact ib ok (by rw[<- I.1];exact I.2.1)
   ·exact ih x hx
 exact all r x hx
end
def FM(H:Hp)(a:d8)(y:V)(r:Option V):Prop:=
 (∃hJ k,Rd H a (.dK hJ)/\y=kV k/\r=WC hJ k)\/∃hJ k b,Rd H a (.dT hJ)/\y = .ref b/\H b=cI (.tup<|k.map kV)/\r=WC hJ k
section
variable{X:Cx}{pins:TW}{σ:St}{H:Hp}{s:gx}{a:d8}{y v:V}{u r:fm}{o:Option V}{A:p4}{E:EQ}
theorem Inv.big(I:Inv X pins σ H s):C3<s.heap.objs.size:=by have h:A7<s.heap.objs.size:=(I.mod.glob.keeps I.bk).lt;exact Nat.lt_trans ⋯ h
theorem iV(hu:A.units+1<B7)(I:Inv X pins σ H s)(g:FM H a y (cI v))(ry:RelV y u)(h : ∀w' s',Inv X pins σ H s'->RelV v w'->Q w' s') :
 wpAny (gv X.prog X.w) A (Em (.ref a) u) Q E s:=by
 rcases g with⟨hJ,k,e,O,l⟩ | ⟨hJ,k,b,e,O,eb,l⟩
 ·subst O
  obtain⟨z,hd,vs,Y,dd⟩:=pB I.i7 e;obtain⟨w',hw,a1⟩:=A4.some_of (v:=v) (o:=IK vs k) (by rw[l];exact Y.val k);exact wpAny_getItem_of (oX ry) dd.mapOf hw<|h w' _ (I.tok _) a1
 ·subst O
  cases (show u=Of b from ry);obtain⟨z,hd,xs,Y,dd⟩:=AA I.i7 e;obtain⟨w',hw,a1⟩:=A4.some_of (v:=v) (o:=(Bm xs k).map (·.2)) (by rw[l];exact Y.val k);obtain⟨p,hp,a6⟩:=RM.mp hw;refine zaj (Tx hu) (ib I.i7 eb) dd hp ?_;rw[a6];exact h w' _ (I.tok _) a1
theorem MV(hu:A.units+1<B7)(I:Inv X pins σ H s)(g:FM H a y o)(ry:RelV y u)(h : ∀s',Inv X pins σ H s'->Q (.bool o.isSome) s') :
 wpAny (gv X.prog X.w) A (wW .In u<|.ref a) Q E s:=by
 rcases g with⟨hJ,k,e,O,l⟩ | ⟨hJ,k,b,e,O,eb,l⟩
 ·subst O
  obtain⟨z,hd,vs,Y,dd⟩:=pB I.i7 e;refine wpAny_in_of (oX ry) hd dd.mapOf ?_;rw[<- (Y.val k).X_,<- l];exact h _<|I.tok _
 ·subst O
  cases (show u=Of b from ry);obtain⟨z,hd,xs,Y,dd⟩:=AA I.i7 e;refine wpAny_in_heap (Tx hu) (ib I.i7 eb) hd dd ?_;have q:=(Y.val k).X_;rw[Option.isSome_map]at q;rw[<- q,<- l];exact h _<|I.tok _
theorem AG(I:Inv X pins σ H s)(O:IU (H a))(hs:PM a s.heap h')(Y : ∃q,h'.get? a=cI q)(new:oi X.prog X.w (upd H a ob) h' a ob) :
 Inv X pins σ (upd H a ob) {s with heap:=h',toks:=t'}:=
 I.write (x:=a) (e:=a) O (.inl rfl) (λb q hb z=>(hs.2 b hb).trans z) Y new
theorem Fh(z:hJ.length<=kv)(hd:(a==C3)=d7)(I:KV hJ vs)(O:h'.DictOf (qE P w) a vs) :
 oi P w H' h' a (.dK hJ):=⟨z,hd,vs,I,O⟩
end
def GK(i:f7):Prop:=∀ov z,g_ i d7 ov z=operate [ov,z] (Em ov z)
theorem ff{prog:m4}{w:l0}{A:p4}{E:EQ}{s:gx}{env:u5}{value z:f7}{pos:kr}{T id:String}{Q:EQ}
 (hl:O1 (.type T) "__getitem__" = pure (cI (.builtin id))) (hs:GK z)
 (h:wpAny (gv prog w) A (f9 value env) (λo GG=>wpAny (gv prog w) A (f9 z env) (λi I=>I.TypeIs o T/\wpAny (gv prog w) A (Em o i) Q E I) E GG) E s) :
 wpAny (gv prog w) A (f9 (.Subscript value z pos) env) Q E s:=by
 refine J_<|RK h (λo GG Mf=>RK Mf (λi I O=>?_) λ_ _ x=>x) λ_ _ x=>x;obtain⟨hT,O⟩:=O;unfold _s;refine Nt ?_;rw[getitemInPython_of_ne hT.not_modules];refine Nt<|wpAny_specialOf hT hl ?_;have Y:wpAny (gv prog w) A (g_ z d7 o i) (λr N4=>wpAny (gv prog w) A (letTemporaryGo value o r >>= λ_=>pure r) Q E N4) E I:=by rw[hs o i];exact wpAny_operating<|RK O (λr N4 ML=>Nt<|wpAny_letTemporaryGo<|Nz ML) λ_ _ x=>x
 first
  | exact Nz<|Nt Y
  | exact Nt<|Nz<|Nt Y
  | exact Nt Y
theorem Wa(I:Inv X pins σ H s)(g:FM H a y o):s.TypeIs (.ref a) "dict":=by
 rcases g with⟨hJ,k,e,_,_⟩ | ⟨hJ,k,b,e,_,_,_⟩
 ·obtain⟨_,_,vs,_,z⟩:=pB I.i7 e
  exact z.typeIs
 ·obtain⟨_,_,xs,_,z⟩:=AA I.i7 e
  exact z.typeIs
def Hf(td ty:TE):TE:=λσ H Q=>td σ H λx H1=>ty σ H1 λy H2=>∃a v,x = .ref a/\FM H2 a y (cI v)/\Q v H2
def Mu(ty td:TE):TE:=λσ H Q=>ty σ H λy H1=>td σ H1 λx H2=>∃a o,x = .ref a/\FM H2 a y o/\Q (.bl o.isSome) H2
section
variable{X:Cx}{o i e value:f7}{pos pos' sX:kr}{td ty tv:TE}
theorem uO(O:X.A.units+1<B7)(Y:PE X o td)(hi:PE X i ty)(hs:GK i):PE X (.Subscript o i pos) (Hf td ty):=by intro pins s σ H Q I h;refine ff PySem.F.slot_dict_getitem.lookup hs<|ip (Y pins s σ H _ I h) λu s1 ⟨x,H1,I1,rx,q1⟩=>ip (hi pins s1 σ H1 _ I1 q1) λiv s2 ⟨y,H2,z,ry,a,v,ex,g,q2⟩=>?_;subst ex;obtain rfl:u=Of a:=rx;exact⟨Wa z g,iV O z g ry λw' s3 I3 a5=>⟨v,H2,I3,a5,q2⟩⟩
theorem CS(z:X.A.units+1<B7)(hi:PE X i ty)(O:PE X o td):PC X .In i o (Mu ty td):=by intro pins s σ H Q I h;refine ip (hi pins s σ H _ I h) λiv s1 ⟨y,H1,Y,ry,q1⟩=>ip (O pins s1 σ H1 _ Y q1) λu s2 ⟨x,H2,I2,rx,a,ov,ex,g,q2⟩=>?_;subst ex;obtain rfl:u=Of a:=rx;exact MV z I2 g ry λs3 I3=>⟨.bl ov.isSome,H2,I3,rfl,q2⟩
end
theorem pC(h:je)(hb:C3<h.objs.size):oi P w H (h.push {cls:= .type "dict",data:= .dict #[]}) h.objs.size (.dK []):=
 ⟨Pf _,beq_eq_false_iff_ne.mpr<|OQ<|Oa hb,[],.nil,Heap.DictOf.new h⟩
def eW:List (TE×TE)->St->Hp->(List (V×V)->Hp->Prop)->Prop
 | [],_,H,Q=>Q [] H
 | (tk,tv)::r,σ,H,Q=>tk σ H λx H1=>tv σ H1 λy H2=>eW r σ H2 λps z=>Q ((x,y)::ps) z
abbrev VV:List (V×V)->List (fm×fm)->Prop:=Paired λp q=>RelV p.1 q.1/\RelV p.2 q.2
def L5(X:Cx)(pos:kr)(z:List (Option f7))(I:List f7)(O:List (TE×TE)):Prop:=
 ∀(pins:TW) (s:gx) (σ:St) (H:Hp) (Q:List (V×V)->Hp->Prop),Inv X pins σ H s->eW O σ H Q->
  wpAny (gv X.prog X.w) X.A (evalPairs<|pairTrees z I X.env pos) (λvs s'=>∃ps H',Inv X pins σ H' s'/\VV ps vs/\Q ps H') X.xe s
theorem uz{X:Cx}{pos:kr}:L5 X pos [] [] []:=λpins s σ H Q I h=>pairTrees_nil_walk ⟨[],H,I,.nil,h⟩
theorem af{X:Cx}{pos:kr}{k v:f7}{ks:List (Option f7)}{vs:List f7}{z tv:TE}{O:List (TE×TE)}(hk:PE X k z)(Y:PE X v tv)(hr:L5 X pos ks vs O) :
 L5 X pos (cI k::ks) (v::vs) ((z,tv)::O):=λpins s σ H Q I h=>
 pairTrees_cons_walk (ip (hk pins s σ H _ I h) λu s1 ⟨x,H1,I1,rx,q1⟩=>ip (Y pins s1 σ H1 _ I1 q1) λw2 s2 ⟨y,H2,I2,ry,q2⟩=>
  ip (hr pins s2 σ H2 _ I2 q2) λws s3 ⟨ps,H3,I3,a8,q3⟩=>⟨(x,y)::ps,H3,I3,.cons ⟨rx,ry⟩ a8,q3⟩)
def Jp(hJ more:List (Key×V)):List (Key×V):=more.foldl (λacc z=>nF acc z.1 z.2) hJ
theorem KV.merge : ∀{more:List (Key×V)} {rs:List (Key×fm)} {hJ:List (Key×V)} {vs:List (Key×fm)},KV more rs->KV hJ vs->KV (Jp hJ more) (merged vs rs):=by
 intro more rs hJ vs r;unfold KV at r
 induction r generalizing hJ vs with
 | nil=>intro q;exact q
 | @cons p q ps O h t z=>
  intro I;have e:KV (nF hJ p.1 p.2) (stored vs q.1 q.2):=by have:=I.put p.1 h.2;rw[<- h.1];exact this
  exact z e
theorem vU : ∀(more hJ:List (Key×V)),(Jp hJ more).length<=hJ.length+more.length
 | [],hJ=>by show hJ.length<=hJ.length+0;omega
 | p::r,hJ=>by have h1:=vU r<|nF hJ p.1 p.2;have h2:=VU hJ p.1 p.2;show(Jp (nF hJ p.1 p.2) r).length<=_;rw[Od];omega
theorem Xw{P:m4}{w:l0} : ∀{hJ:List (Key×V)} {z:List (fm×fm)},VV (hJ.map λI=>(kV I.1,I.2)) z->∃rs,Carries (qE P w) z rs/\KV hJ rs
 | [],_,r=>by rw[UI]at r;cases r;exact⟨[],OR,.nil⟩
 | p::hJ,_,r=>by
  rw[NY]at r;cases r with
  | @cons a b O bs h t=>
   obtain⟨rs,c,q⟩:=Xw (P:=P) (w:=w) t;obtain⟨b1,b2⟩:=b;exact⟨(p.1,b2)::rs,⟨oX h.1,rfl,c⟩,.cons ⟨rfl,h.2⟩ q⟩
def He(I:List (TE×TE)):TE:=λσ H Q=>∀p,H p=cR->eW I σ (upd H p<|.dK []) λps H2=>H2 p=cI (.dK [])/\∃hJ:List (Key×V),ps=hJ.map (λz=>(kV z.1,z.2))/\hJ.length<=15/\Q (.ref p) (upd H2 p<|.dK<|Jp [] hJ)
theorem uN{X:Cx}{pos:kr}{O:List (Option f7)}{Y:List f7}{a0:List (TE×TE)}(h:L5 X pos O Y a0)(a3:O.all (·.isSome)=cL)(hl:O.length=Y.length)(h0:O ≠ [])
 (a5:O.length<=15):PE X (.Dict O Y pos) (He a0):=by
 intro pins s σ H Q I q;have hn:=I.i7.fresh (NJ s.heap.objs.size);have I1:=I.laid (a:=s.heap.objs.size) (o:= .dK []) (h':=s.heap.push {cls:= .type "dict",data:= .dict #[]}) (t':=s.toks) (λ_ _ q=>Nv _ q) (NJ _) (pC s.heap I.big);refine wpAny_Dict_walk (knd:=qE X.prog X.w) a3 hl h0 a5 (ip (h pins _ σ _ _ I1 (q _ hn)) λws s2 ⟨ps,H2,I2,a7,e,hJ,ep,lk,q2⟩=>?_);subst ep;obtain⟨rs,c,rk⟩:=Xw (P:=X.prog) (w:=X.w) a7;obtain⟨z,hd,ak,r0,dd⟩:=Ip I2.i7 e;cases r0;refine⟨rs,c,dd,λh' a2 hs=>⟨.ref s.heap.objs.size,_,?_,rfl,q2⟩⟩;have hz:(Jp [] hJ).length<=kv:=by have h1:=vU hJ [];rw[PY]at h1;rw[To];omega
 have he : ∃q,h'.get? s.heap.objs.size=cI q:=let ⟨q,_,_,hq,_⟩:=a2;⟨q,hq⟩;exact AG I2 (by rw[e];exact OR) hs he<|Fh hz hd (rk.merge .nil) a2
end L2
namespace DL
open PySem PySem.Spec PyProof.Rows L2
def O3:List Str:=["NoPrime","Nought","NoTable","NoWidths","NoRow","Unlike","TooMany","NoTurn","NoLine","Nothing","NoArrow","NoText","NoRoom"]
def BA(K:Nr)(c:Str):Option d8:=match TC K A7 c with
 | some (cI (.ref C))=>cI C
 | _=>cR
def Mp(K:Nr)(C:d8):Bool:=
 ["int","bool","str","tuple","list"].all (λt=>Se K (.ref C) (.type t)==cI d7) && Se K (.ref C) (.type "ValueError")==cI cL &&
 OE K (.ref C) "__getattribute__" == cI (cI (.builtin "BaseException.__getattribute__")) && OE K (.ref C) "__getattr__" == cI cR &&
 OE K (.ref C) "__class__" == cI (cI (.builtin "object.__class__")) && PySem.W.mroIn K C (.type "object")==cI cL && PySem.W.mroIn K C (.type "BaseException")==cI cL &&
 PySem.W.specialIn K (.builtin "object.__class__") "__get__" == cI (cI (.builtin "getset_descriptor.__get__")) && PySem.W.takesIn K (.builtin "object.__class__")==cI cL &&
 (PySem.W.clsIn K C).any (λz=> !z.hasDel) && PySem.W.typeIn K (.ref C)==cI (.type "type")
def Li(K:Nr):Bool:=match BA K "SplitError" with
 | some S=>O3.all λc=>match BA K c with
  | some C=>Mp K C && Se K (.ref C) (.ref S)==cI cL && O3.all λc'=>match BA K c' with
   | some z=>Se K (.ref C) (.ref z)==cI (c==c')
   | none=>d7
  | none=>d7
 | none=>d7
def Na(h:je)(a:d8)(C:d8):Prop:=∃o vs,h.get? a=cI o/\o.cls = .ref C/\o.data = .fields vs
structure R1(K:Nr)(H:Hp)(c:Str)(n:Option Int)(a:d8):Prop where
 all:Li K=cL
 mem:c∈O3
 ex : ∃C φ,BA K c=cI C/\H a=cI (.ext φ)/\(∀h,φ h->Na h a C)/\
  match n with
  | none=>True
  | some i=>∃d,(∀h,φ h->∃o,h.get? a=cI o/\o.dict=cI d)/\H d=cI (.xd [(if c==("NoRoom" : Str)then "room" else "at",.int i)])
theorem R1.mono{K:Nr}{H H':Hp}{c:Str}{n:Option Int}{a:d8}(e : ∀b o,H b=cI o->H' b=cI o)(h:R1 K H c n a):R1 K H' c n a:=by
 obtain⟨h1,h2,C,φ,I,g2,O,z⟩:=h;refine⟨h1,h2,C,φ,I,e _ _ g2,O,?_⟩;cases n with
 | none=>exact z
 | some i=>obtain⟨d,Y,f2⟩:=z;exact⟨d,Y,e _ _ f2⟩
abbrev St:=L2.St
def HX:D->Option Key
 | .int i=>cI (.inl i)
 | .str x=>cI (.inr x)
 | _=>cR
def ia:List D->Option (List Key)
 | []=>cI []
 | d::ds=>(HX d).bind λk=>(ia ds).map λr=>k::r
def Ge(H:Hp)(a:d8)(ks:List D)(xs:List V):Prop:=∃kk,ia ks=cI kk/\kk.length=xs.length/\H a=cI (.dK<|kk.zip xs)
def mN(k:List Int):Int:=reduceHash<|Builtin.Tuple.tupleHashOf<|k.map hashInt
def Bv(o:o8)(xs:List (List Int×d8×fm)):Prop:=o.ExactDict/\∃es ep,o.data = .dict es ep/\es.toList=xs.map (λx=>⟨mN x.1,.ref x.2.1,x.2.2⟩)/\(xs.map (·.1)).Nodup
def u7(a:d8)(o:o8):HO:= .ext λh=>h.get? a=cI o
def DU(K:Nr)(H:Hp)(a:d8)(ks:List (List Int))(ys:List V):Prop:=
 (a==C3)=d7/\∃o xs,H a=cI (u7 a o)/\Bv o xs/\xs.map (·.1)=ks/\xs.length<=kv/\(∀x∈xs,k0 K H x.2.1<|x.1.map V.int)/\i8 ys (xs.map (·.2.2))
def Di(z I:V):List (Str×V):=X3 "table" I (X3 "p" z [])
theorem Ig(z I:V):(Di z I).lookup ("p" : Str)=cI z:=by unfold Di;rw[qF,qF,DJ ⋯,DZ rfl]
theorem Ie(I z:V):(Di I z).lookup ("table" : Str)=cI z:=by unfold Di;rw[qF,DZ rfl]
theorem Ih(z I:V):(Di z I).lookup ("forth" : Str)=cR:=by unfold Di;rw[qF,qF,DJ ⋯,DJ ⋯];rfl
mutual
def Rep(K:Nr)(H:Hp):D->V->Prop
 | .i5,v=>v = .i5
 | .bl b,v=>v = .bl b
 | .int i,v=>v = .int i
 | .str x,v=>v = .str x
 | .tup ds,v=>∃a xs,v = .ref a/\k0 K H a xs/\f6 K H ds xs
 | .lst ds,v=>∃a xs,v = .ref a/\lK K H a xs/\f6 K H ds xs
 | .sh ks vs,v=>∃a xs,v = .ref a/\Ge H a ks xs/\f6 K H vs xs
 | .n0 ks vs,v=>∃a xs,v = .ref a/\DU K H a ks xs/\f6 K H vs xs
def f6(K:Nr)(H:Hp):List D->List V->Prop
 | [],xs=>xs=[]
 | d::ds,xs=>∃x r,xs=x::r/\Rep K H d x/\f6 K H ds r
end
theorem o5{K:Nr}{H H':Hp}{a:d8}{xs:List V}(e:js H H')(h:k0 K H a xs):k0 K H' a xs:=by
 rcases h with(h | ⟨o,h⟩) | h
 ·exact .inl<|.inl<|e _ _ h
 ·exact .inl<|.inr ⟨o,e _ _ h⟩
 ·exact .inr h
theorem Ye{k:Sk}{K:Nr}{H H':Hp}{a:d8}{xs:List V}(e:js H H')(h:r6 k K H a xs):r6 k K H' a xs:=by
 cases k
 ·exact e.seq h
 ·exact o5 e h
mutual
theorem Rep.mono{K:Nr}{H H':Hp}(e:js H H') : ∀{d:D} {v:V},Rep K H d v->Rep K H' d v
 | .i5,_,h=>h
 | .bl _,_,h=>h
 | .int _,_,h=>h
 | .str _,_,h=>h
 | .tup ds,v,h=>by obtain⟨a,xs,e1,h1,h2⟩:=(show ∃a xs,v = .ref a/\k0 K H a xs/\f6 K H ds xs from h);exact(show ∃a xs,v = .ref a/\k0 K H' a xs/\f6 K H' ds xs from⟨a,xs,e1,o5 e h1,f6.mono e h2⟩)
 | .lst ds,v,h=>by obtain⟨a,xs,e1,h1,h2⟩:=(show ∃a xs,v = .ref a/\lK K H a xs/\f6 K H ds xs from h);exact(show ∃a xs,v = .ref a/\lK K H' a xs/\f6 K H' ds xs from⟨a,xs,e1,e.seq h1,f6.mono e h2⟩)
 | .sh ks vs,v,h=>by obtain⟨a,xs,e1,⟨kk,z,g2,I⟩,h2⟩:=(show ∃a xs,v = .ref a/\Ge H a ks xs/\f6 K H vs xs from h);exact(show ∃a xs,v = .ref a/\Ge H' a ks xs/\f6 K H' vs xs from⟨a,xs,e1,⟨kk,z,g2,e _ _ I⟩,f6.mono e h2⟩)
 | .n0 ks vs,v,h=>by obtain⟨a,xs,e1,⟨z,o,zs,g2,I,O,Y,g6,g7⟩,h2⟩:=(show ∃a xs,v = .ref a/\DU K H a ks xs/\f6 K H vs xs from h);exact(show ∃a xs,v = .ref a/\DU K H' a ks xs/\f6 K H' vs xs from⟨a,xs,e1,⟨z,o,zs,e _ _ g2,I,O,Y,λx hx=>o5 e<|g6 x hx,g7⟩,f6.mono e h2⟩)
theorem f6.mono{K:Nr}{H H':Hp}(e:js H H') : ∀{ds:List D} {xs:List V},f6 K H ds xs->f6 K H' ds xs
 | [],_,h=>h
 | d::ds,xs,h=>by obtain⟨x,r,e1,h1,h2⟩:=(show ∃x r,xs=x::r/\Rep K H d x/\f6 K H ds r from h);exact(show ∃x r,xs=x::r/\Rep K H' d x/\f6 K H' ds r from⟨x,r,e1,Rep.mono e h1,f6.mono e h2⟩)
end
section
variable{K:Nr}{H:Hp}
theorem f6.nil:f6 K H [] []:=(show([]:List V)=[]from rfl)
theorem f6.cons(h:Rep K H d x)(t:f6 K H ds xs):f6 K H (d::ds) (x::xs):=⟨x,xs,rfl,h,t⟩
theorem f6.zr(h:f6 K H [] xs):xs=[]:=h
theorem f6.u0(h:f6 K H (d::ds) xs) : ∃x r,xs=x::r/\Rep K H d x/\f6 K H ds r:=h
theorem f6.length : ∀{ds:List D} {xs:List V},f6 K H ds xs->xs.length=ds.length
 | [],xs,h=>by rw[h.zr];rfl
 | d::ds,xs,h=>by obtain⟨x,r,e,_,t⟩:=h.u0;rw[e,Od,Od,f6.length t]
theorem f6.get : ∀{ds:List D} {xs:List V} {i:Nat} {d:D},f6 K H ds xs->ds[i]? = cI d->∃x,xs[i]? = cI x/\Rep K H d x
 | [],_,_,_,_,e=>by simp at e
 | c::ds,xs,0,d,h,e=>by obtain⟨x,r,e1,h1,_⟩:=h.u0;simp at e;subst e;exact⟨x,by rw[e1];rfl,h1⟩
 | c::ds,xs,i+1,d,h,e=>by obtain⟨x,r,e1,_,t⟩:=h.u0;obtain⟨y,z,g2⟩:=f6.get (i:=i) (d:=d) t (by simpa using e);exact⟨y,by rw[e1];simpa using z,g2⟩
theorem f6.Gx{ds:List D}{xs:List V}{i:Nat}{x:V}(h:f6 K H ds xs)(e:xs[i]? = cI x) : ∃d,ds[i]? = cI d/\Rep K H d x:=by
 have hi:i<ds.length:=by rw[<- h.length];exact(NC.mp e).1
 obtain⟨y,e1,r⟩:=h.get<|Nw hi;rw[e]at e1;cases e1;exact⟨_,Nw hi,r⟩
theorem f6.append : ∀{ds es:List D} {xs ys:List V},f6 K H ds xs->f6 K H es ys->f6 K H (ds++es) (xs++ys)
 | [],_,xs,_,h,g=>by rw[h.zr];exact g
 | d::ds,es,xs,ys,h,g=>by obtain⟨x,r,e,h1,t⟩:=h.u0;rw[e];exact f6.cons h1<|f6.append t g
theorem f6.drop : ∀{ds:List D} {xs:List V} (n:Nat),f6 K H ds xs->f6 K H (ds.drop n) (xs.drop n)
 | _,_,0,h=>h
 | [],xs,n+1,h=>by rw[h.zr];exact f6.nil
 | d::ds,xs,n+1,h=>by obtain⟨x,r,e,_,t⟩:=h.u0;rw[e];exact f6.drop n t
theorem f6.take : ∀{ds:List D} {xs:List V} (n:Nat),f6 K H ds xs->f6 K H (ds.take n) (xs.take n)
 | _,_,0,h=>by simp;exact f6.nil
 | [],xs,n+1,h=>by rw[h.zr];exact f6.nil
 | d::ds,xs,n+1,h=>by obtain⟨x,r,e,h1,t⟩:=h.u0;rw[e];exact f6.cons h1<|f6.take n t
end
structure Ext(H0 H eg H':Hp):Prop where
 s0:js H0 eg
 s1:js H H'
 sub:js eg H'
 new : ∀a,H0 a=cR->H a≠cR->eg a=cR
theorem Ext.refl(s:js H0 H):Ext H0 H H0 H:=⟨js.refl _,js.refl _,s,λ_ h _=>h⟩
theorem Ext.trans(a:Ext H0 H H1 G1)(b:Ext H1 G1 H2 G2):Ext H0 H H2 G2:=
 ⟨a.s0.trans b.s0,a.s1.trans b.s1,b.sub,λc h1 h2=>b.new c (a.new c h1 h2) (by
  cases q:H c with
  | none=>exact absurd q h2
  | some o=>rw[a.s1 c o q];simp)⟩
theorem zX(h:H p=cR)(o:HO):js H (upd H p o):=λb u q=>by rw[zH (j1 q h)];exact q
theorem jq(s:js H0 H)(h:H p=cR):H0 p=cR:=s.free h
theorem Yd(s:js H0 H):js (upd H0 p o) (upd H p o):=λb u q=>by
 by_cases e:b=p
 ·subst e;rw[zC]at q ⊢;exact q
 ·rw[zH e]at q ⊢;exact s b u q
theorem Ext.alloc(s:js H0 H)(h:H p=cR)(o:HO):Ext H0 H (upd H0 p o) (upd H p o):=
 ⟨zX (jq s h) o,zX h o,Yd s,λa h1 h2=>by rw[zH (λe=>h2<|by rw[e];exact h)];exact h1⟩
theorem Ext.hide(s:js H0 H)(h:H p=cR)(o:HO):Ext H0 H H0 (upd H p o):=
 ⟨js.refl _,zX h o,s.trans<|zX h o,λa h1 _=>h1⟩
theorem Ext.show(e:Ext H0 H eg H')(h1:H a=cR)(h2:eg a=cR)(O:H' a=cI o)(s:js H0 H):Ext H0 H (upd eg a o) H':=
 ⟨e.s0.trans<|zX h2 o,e.s1,λb u q=>by
  by_cases z:b=a
  ·subst z;rw[zC]at q;rw[O];exact q
  ·rw[zH z]at q;exact e.sub b u q,λb Y I=>by
  rw[zH (λz=>I<|by rw[z];exact h1)];exact e.new b Y I⟩
structure FU(K:Nr)(H0 H:Hp)(rows:List (List D))(a:d8)(bs:List d8):Prop where
 a0:H0 a=cR
 ha:H a=cI (.lst<|bs.map V.ref)
 nd:(a::bs).Nodup
 len:bs.length=rows.length
 row : ∀(k:Nat) b row,bs[k]? = cI b->rows[k]? = cI row->H0 b=cR/\∃xs,H b=cI (.lst xs)/\f6 K H0 row xs
theorem FU.at{K:Nr}{H0 H:Hp}{rows:List (List D)}{a:d8}{bs:List d8}(n:FU K H0 H rows a bs){b:d8}(hb:b∈a::bs):H0 b=cR/\∃xs,H b=cI (.lst xs):=by
 rcases NP.mp hb with rfl | hb
 ·exact⟨n.a0,_,n.ha⟩
 ·obtain⟨k,hk⟩:=SR hb
  have z:=(NC.mp hk).1;rw[n.len]at z;obtain⟨h1,xs,h2,_⟩:=n.row k b _ hk<|Nw z;exact⟨h1,xs,h2⟩
theorem FU.move{K:Nr}{H0 H eg H':Hp}{rows:List (List D)}{a:d8}{bs:List d8}(n:FU K H0 H rows a bs)(s:js H0 eg)(h0 : ∀b∈a::bs,eg b=cR)(h : ∀b∈a::bs,H' b=H b):FU K eg H' rows a bs:=
 ⟨h0 a NL,by rw[h a NL];exact n.ha,n.nd,n.len,λk b row hk z=>by obtain⟨_,xs,h2,I⟩:=n.row k b row hk z;have hb:b∈a::bs:=NN _<|Og hk;exact⟨h0 b hb,xs,by rw[h b hb];exact h2,I.mono s⟩⟩
def z0(K:Nr)(H0 H:Hp)(σ:St)(γ:Ctx):Prop:=
 (∀(i:Nat) rows,γ[i]? = cI (.nest rows)->∃a bs,σ[i]? = cI (cI (.ref a))/\FU K H0 H rows a bs/\∀(j:Nat) ds c,γ[j]? = cI (.own ds)->σ[j]? = cI (cI (.ref c))->c∉a::bs)/\
 ∀(i j:Nat) z r2,γ[i]? = cI (.nest z)->γ[j]? = cI (.nest r2)->i=j
theorem z0.LQ{K:Nr}{H0 H:Hp}{σ:St}{γ:Ctx}(h : ∀(i:Nat) rows,γ[i]? ≠ cI (.nest rows)):z0 K H0 H σ γ:=⟨λi rows e=>absurd e<|h i rows,λi j z r2 e=>absurd e<|h i z⟩
theorem z0.move{K:Nr}{H0 H eg H':Hp}{σ:St}{γ:Ctx}(n:z0 K H0 H σ γ)(s:js H0 eg)(h : ∀(i:Nat) rows a bs,γ[i]? = cI (.nest rows)->σ[i]? = cI (cI (.ref a))->FU K H0 H rows a bs->(∀(j:Nat) ds c,γ[j]? = cI (.own ds)->σ[j]? = cI (cI (.ref c))->c∉a::bs)->∀b∈a::bs,eg b=cR/\H' b=H b):z0 K eg H' σ γ:=
 ⟨λi rows e=>by obtain⟨a,bs,h1,h2,z⟩:=n.1 i rows e;exact⟨a,bs,h1,h2.move s (λb hb=>(h i rows a bs e h1 h2 z b hb).1)<|λb hb=>(h i rows a bs e h1 h2 z b hb).2,z⟩,n.2⟩
theorem z0.ext{K:Nr}{H0 H eg H':Hp}{σ:St}{γ:Ctx}(n:z0 K H0 H σ γ)(e:Ext H0 H eg H'):z0 K eg H' σ γ:=
 n.move e.s0 λi rows a bs _ _ h2 _ b hb=>by obtain⟨z,xs,g2⟩:=h2.at hb;exact⟨e.new b z (by rw[g2];simp),by rw[e.s1 b _ g2,g2]⟩
structure RC(K:Nr)(H0 H:Hp)(σ:St)(γ:Ctx):Prop where
 sub:js H0 H
 len:σ.length=γ.length
 val : ∀(i:Nat) d,γ[i]? = cI (.val d)->∃v,σ[i]? = cI (cI v)/\Rep K H0 d v
 own : ∀(i:Nat) ds,γ[i]? = cI (.own ds)->∃a xs,σ[i]? = cI (cI (.ref a))/\H0 a=cR/\H a=cI (.lst xs)/\f6 K H0 ds xs
 ne : ∀(i j:Nat) a ds es,γ[i]? = cI (.own ds)->γ[j]? = cI (.own es)->σ[i]? = cI (cI (.ref a))->σ[j]? = cI (cI (.ref a))->i=j
 wq:z0 K H0 H σ γ
theorem RC.ext{K:Nr}{H0 H eg H':Hp}{σ:St}{γ:Ctx}(r:RC K H0 H σ γ)(e:Ext H0 H eg H'):RC K eg H' σ γ:=
 ⟨e.sub,r.len,λi d h=>let ⟨v,h1,h2⟩:=r.val i d h;⟨v,h1,h2.mono e.s0⟩,
  λi ds h=>let ⟨a,xs,h1,h2,z,I⟩:=r.own i ds h;⟨a,xs,h1,e.new a h2 (by rw[z];simp),e.s1 _ _ z,I.mono e.s0⟩,r.ne,r.wq.ext e⟩
def tV(K:Nr)(f:CO D):TE:=λσ H Q=>∃H0 γ d,RC K H0 H σ γ/\f γ=cI d/\∀v H' eg,Ext H0 H eg H'->Rep K eg d v->Q v H'
def tQ(K:Nr)(f:CO (Sk×List D)):TE:=λσ H Q=>∃H0 γ k ds,RC K H0 H σ γ/\f γ=cI (k,ds)/\∀a xs H' eg,Ext H0 H eg H'->r6 k K H' a xs->(k = .T->k0 K eg a xs)->f6 K eg ds xs->Q (.ref a) H'
def tO(K:Nr)(f:CO (List D)):TE:=λσ H Q=>∃H0 γ ds,RC K H0 H σ γ/\f γ=cI ds/\
 ∀a xs H' eg,Ext H0 H eg H'->H a=cR->eg a=cR->H' a=cI (.lst xs)->f6 K eg ds xs->Q (.ref a) H'
def tT(K:Nr)(f:CO Bool):TT:=λσ H Q=>∃H0 γ b,RC K H0 H σ γ/\f γ=cI b/\∀H' eg,Ext H0 H eg H'->Q b H'
def tA(K:Nr)(f:CO (List D)):TA:=λσ H Q=>∃H0 γ ds,RC K H0 H σ γ/\f γ=cI ds/\∀vs H' eg,Ext H0 H eg H'->f6 K eg ds vs->Q vs H'
abbrev PV(X:Cx)(e:f7)(f:CO D):Prop:=PE X e (tV X.K f)
abbrev PQ(X:Cx)(e:f7)(f:CO (Sk×List D)):Prop:=PE X e (tQ X.K f)
abbrev PO(X:Cx)(e:f7)(f:CO (List D)):Prop:=PE X e (tO X.K f)
abbrev s9(X:Cx)(e:f7)(f:CO Bool):Prop:=PT X e (tT X.K f)
abbrev Gi(X:Cx)(e:f7)(f:CO Bool):Prop:=PW X e (tT X.K f)
abbrev DD(X:Cx)(es:List f7)(f:CO (List D)):Prop:=PA X es (tA X.K f)
theorem j4(h:PE X e t)(i : ∀σ H Q,t' σ H Q->t σ H Q):PE X e t':=λpins s σ H Q I q=>h pins s σ H Q I<|i σ H Q q
theorem VD(h:PT X e t)(i : ∀σ H Q,t' σ H Q->t σ H Q):PT X e t':=λpins s σ H Q I q=>h pins s σ H Q I<|i σ H Q q
theorem Cn(h:PW X e t)(i : ∀σ H Q,t' σ H Q->t σ H Q):PW X e t':=λz pins s σ H Q I q=>h z pins s σ H Q I<|i σ H Q q
theorem oh(h:PA X es t)(i : ∀σ H Q,t' σ H Q->t σ H Q):PA X es t':=λpos pins s σ H Q I q=>h pos pins s σ H Q I<|i σ H Q q
theorem xi{X:Cx}{st:m5}{t t':TS}(h:PS X st t)(i : ∀D σ H,t' D σ H->t D σ H):PS X st t':=λpins s σ H D I q=>h pins s σ H D I<|i D σ H q
theorem rN{X:Cx}{st:List m5}{t t':TS}(h:n5 X st t)(i : ∀D σ H,t' D σ H->t D σ H):n5 X st t':=λpins s σ H D I q=>h pins s σ H D I<|i D σ H q
theorem Ka(h:PI X tg e t)(i : ∀σ H R,t' σ H R->t σ H R):PI X tg e t':=λpins s σ H R I q=>h pins s σ H R I<|i σ H R q
theorem yc(h:n<=lim):n<=kv:=OH h ⋯
section
variable{X:Cx}{e a b c:f7}{pos:kr}
theorem PV.q(h:PV X e f):PQ X e (zM f):=j4 h λσ H Q Y=>by
 obtain⟨H0,γ,k,ds,rc,I,q⟩:=Y;unfold zM at I;cases e1:f γ with
 | none=>rw[e1]at I;cases I
 | some d=>
  rw[e1]at I;refine⟨H0,γ,d,rc,e1,λv H' eg ext r=>?_⟩;cases d with
  | tup es=>
   obtain⟨e2,O⟩:k = .T/\ds=es:=by simp[jg]at I;exact⟨I.1.symm,I.2.symm⟩
   subst e2 O;obtain⟨a,xs,rfl,h1,h2⟩:=(show ∃a xs,v = .ref a/\k0 X.K eg a xs/\f6 X.K eg ds xs from r);exact q a xs H' eg ext (o5 ext.sub h1) (λ_=>h1) h2
  | lst es=>
   obtain⟨e2,O⟩:k = .L/\ds=es:=by simp[jg]at I;exact⟨I.1.symm,I.2.symm⟩
   subst e2 O;obtain⟨a,xs,rfl,h1,h2⟩:=(show ∃a xs,v = .ref a/\lK X.K eg a xs/\f6 X.K eg ds xs from r);exact q a xs H' eg ext (ext.sub.seq h1) (λz=>nomatch z) h2
  | _=>simp[jg]at I
theorem PO.v(h:PO X e f):PV X e (xB f):=j4 h λσ H Q Y=>by
 obtain⟨H0,γ,d,rc,z,q⟩:=Y;unfold xB at z;cases e1:f γ with
 | none=>rw[e1]at z;cases z
 | some ds=>
  rw[e1]at z;cases z;refine⟨H0,γ,ds,rc,e1,λa xs H' eg ext h1 h2 h3 r=>?_⟩;exact q _ _ _ (ext.show h1 h2 h3 rc.sub) (show ∃I O,V.ref a = .ref I/\lK X.K _ I O/\f6 X.K _ ds O from⟨a,xs,rfl,lK.of zC,r.mono<|zX h2 _⟩)
theorem PO.q(h:PO X e f):PQ X e (qf f):=j4 h λσ H Q O=>by
 obtain⟨H0,γ,k,ds,rc,I,q⟩:=O;unfold qf at I;cases e1:f γ with
 | none=>rw[e1]at I;cases I
 | some es=>
  rw[e1]at I;cases I;exact⟨H0,γ,_,rc,e1,λa xs H' eg ext h1 h2 Y r=>q a xs H' eg ext (lK.of Y) (λz=>nomatch z) r⟩
theorem Co(i:Nat)(h:PE X e (wC i)):PV X e (ze i):=j4 h λσ H Q I=>by
 obtain⟨H0,γ,d,rc,z,q⟩:=I;unfold ze at z;cases e1:γ[i]? with
 | none=>rw[e1]at z;cases z
 | some c=>
  rw[e1]at z;cases c with
  | val d'=>
   cases z;obtain⟨v,h1,h2⟩:=rc.val i d e1;exact⟨v,h1,q v H H0 (Ext.refl rc.sub) h2⟩
  | no=>cases z
  | own ds=>cases z
  | nest rows=>cases z
theorem CF(i:Nat)(h:PE X e (wC i)):PQ X e (zq i):=j4 h λσ H Q hZ=>by
 obtain⟨H0,γ,k,ds,rc,I,q⟩:=hZ;unfold zq at I;cases e1:γ[i]? with
 | none=>rw[e1]at I;cases I
 | some c=>
  rw[e1]at I;cases c with
  | no=>cases I
  | nest rows=>cases I
  | own es=>
   cases I;obtain⟨a,xs,h1,h2,h3,h4⟩:=rc.own i ds e1;exact⟨_,h1,q a xs H H0 (Ext.refl rc.sub) (lK.of h3) (λz=>nomatch z) h4⟩
  | val d=>
   obtain⟨v,h1,h2⟩:=rc.val i d e1;refine⟨v,h1,?_⟩;cases d with
   | tup es=>
    obtain⟨e2,Y⟩:k = .T/\ds=es:=by simp[w4,jg]at I;exact⟨I.1.symm,I.2.symm⟩
    subst e2 Y;obtain⟨a,xs,rfl,O,g2⟩:=(show ∃a xs,v = .ref a/\k0 X.K H0 a xs/\f6 X.K H0 ds xs from h2);exact q a xs H H0 (Ext.refl rc.sub) (o5 rc.sub O) (λ_=>O) g2
   | lst es=>
    obtain⟨e2,Y⟩:k = .L/\ds=es:=by simp[w4,jg]at I;exact⟨I.1.symm,I.2.symm⟩
    subst e2 Y;obtain⟨a,xs,rfl,O,g2⟩:=(show ∃a xs,v = .ref a/\lK X.K H0 a xs/\f6 X.K H0 ds xs from h2);exact q a xs H H0 (Ext.refl rc.sub) (rc.sub.seq O) (λz=>nomatch z) g2
   | _=>simp[w4,jg]at I
theorem X0(h:PE X e (tC v))(r : ∀H,Rep X.K H d v):PV X e (zx d):=j4 h λσ H Q z=>by obtain⟨H0,γ,d',rc,I,q⟩:=z;cases I;exact q v H H0 (Ext.refl rc.sub)<|r H0
theorem zm:PV X (.Constant (.int i) j pos) (zx<|.int i):=X0 CP λ_=>(show V.int i = .int i from rfl)
theorem nE:PV X (.Constant (.bool x) j pos) (zx<|.bl x):=X0 HI λ_=>(show V.bl x = .bl x from rfl)
theorem kj:PV X (.Constant (.str x) j pos) (zx<|.str x):=X0 rR λ_=>(show V.str x = .str x from rfl)
def vv(K:Nr)(r:R2)(F:D->D->Option D):Prop:=∀H0 H x y dx z d Q,js H0 H->Rep K H0 dx x->Rep K H0 z y->F dx z=cI d->(∀v H' eg,Ext H0 H eg H'->Rep K eg d v->Q v H')->r x y H Q
theorem zb(h:o.bind f=cI y) : ∃x,o=cI x/\f x=cI y:=by
 cases o with
 | none=>cases h
 | some x=>exact⟨x,rfl,h⟩
theorem VG{K:Nr}{r:R2}{F:D->D->Option D}{fa fb:CO D}(hs:vv K r F) : ∀σ H Q,tV K (zw F fa fb) σ H Q->GH r (tV K fa) (tV K fb) σ H Q:=λσ H Q O=>by obtain⟨H0,γ,d,rc,z,q⟩:=O;obtain⟨x,e1,z⟩:=zb z;obtain⟨y,e2,z⟩:=zb z;refine⟨H0,γ,x,rc,e1,λY H1 a0 x1 r1=>⟨a0,γ,y,rc.ext x1,e2,λv2 H2 a3 I r2=>?_⟩⟩;exact hs a3 H2 Y v2 x y d Q I.sub (r1.mono I.s0) r2 z λv H' eg x3 r3=>q v H' eg (x1.trans<|I.trans x3) r3
theorem QX(z:n4 X (Df op) r)(hs:vv X.K r F)(ha:PV X a fa)(hb:PV X b fb):PV X (.BinOp a op b pos) (zw F fa fb):=
 j4 (uJ z ha hb) (VG hs)
theorem rL(z:n4 X (wW op) r)(hs:vv X.K r F)(ha:PV X a fa)(hb:PV X b fb)(hm:DG op b=d7):PV X (.Compare a [op] [b] pos) (zw F fa fb):=
 j4 (uP z ha hb hm) (VG hs)
theorem ZE{d:D}{b:Bool}(h:De d=cI b):d = .bl b:=by cases d<;>simp[De]at h;rw[h]
theorem X4(I:n4 X (wW op) r)(hs:vv X.K r F)(ha:PV X a fa)(hb:PV X b fb)(hm:DG op b=d7):s9 X (.Compare a [op] [b] pos) (sB<|zw F fa fb):=
 VD (VC I ha hb hm) λσ H Q O=>by obtain⟨H0,γ,k,rc,z,q⟩:=O;obtain⟨d,e1,z⟩:=zb z;refine VG hs σ H _ ⟨H0,γ,d,rc,e1,λv H' eg x r=>?_⟩;rw[ZE z]at r;exact⟨k,r,q H' eg x⟩
theorem k8{f:CO D}(h:PV X e f)(O : ∀I,Gz e X.env I=(do let v <- I;GD e.pos;Dk [v] (LY v)):=by intro _;rfl):s9 X e (sB f):=
 VD (Cw h O) λσ H Q Y=>by obtain⟨H0,γ,k,rc,z,q⟩:=Y;obtain⟨d,e1,z⟩:=zb z;refine⟨H0,γ,d,rc,e1,λv H' eg x r=>?_⟩;rw[ZE z]at r;exact⟨k,r,q H' eg x⟩
theorem qQ(h:s9 X a f):Gi X (.BoolOp .And [a] pos) f:=uk h
theorem VA(h:s9 X a f):Gi X (.BoolOp .Or [a] pos) f:=Ck h
theorem xV{f g:CO Bool}{xD:List f7}(ha:s9 X a f)(hb:Gi X (.BoolOp .And (b::xD) pos) g):Gi X (.BoolOp .And (a::b::xD) pos) (qX f g):=
 Cn (Cm ha hb) λσ H Q I=>by
  obtain⟨H0,γ,k,rc,z,q⟩:=I;obtain⟨c,e1,z⟩:=zb z;refine⟨H0,γ,c,rc,e1,λH' eg x=>?_⟩;cases c with
  | true=>rw[DZ rfl]at z ⊢;exact⟨eg,γ,k,rc.ext x,z,λH2 O Y=>q H2 O<|x.trans Y⟩
  | false=>rw[DJ NM]at z ⊢;cases z;exact q H' eg x
theorem W5{f g:CO Bool}{xD:List f7}(ha:s9 X a f)(hb:Gi X (.BoolOp .Or (b::xD) pos) g):Gi X (.BoolOp .Or (a::b::xD) pos) (fG f g):=
 Cn (HB ha hb) λσ H Q I=>by
  obtain⟨H0,γ,k,rc,z,q⟩:=I;obtain⟨c,e1,z⟩:=zb z;refine⟨H0,γ,c,rc,e1,λH' eg x=>?_⟩;cases c with
  | true=>rw[DZ rfl]at z ⊢;cases z;exact q H' eg x
  | false=>rw[DJ NM]at z ⊢;exact⟨eg,γ,k,rc.ext x,z,λH2 O Y=>q H2 O<|x.trans Y⟩
theorem yG(ha:s9 X a f):s9 X (.UnaryOp .Not a pos) (kz f):=
 VD (Cy ha) λσ H Q I=>by
  obtain⟨H0,γ,k,rc,z,q⟩:=I;unfold kz at z;cases e1:f γ with
  | none=>rw[e1]at z;cases z
  | some c=>rw[e1]at z;cases z;exact⟨H0,γ,c,rc,e1,λH' eg x=>q H' eg x⟩
theorem vM(h:Gi X e f):s9 X e f:=h.pt
theorem fT(h:PV X a f):PV X (.BoolOp op [a] pos) f:=CM h
theorem fY{f g:CO D}{xD:List f7}(ha:PV X a f)(hb:PV X (.BoolOp .And (b::xD) pos) g):PV X (.BoolOp .And (a::b::xD) pos) (Bl f g):=
 j4 (CQ ha hb) λσ H Q I=>by
  obtain⟨H0,γ,d,rc,z,q⟩:=I;obtain⟨c,e1,z⟩:=zb z;obtain⟨O,Y,e1⟩:=zb e1;refine⟨H0,γ,O,rc,Y,λv H' eg x r=>?_⟩;rw[ZE e1]at r;refine⟨c,r,?_⟩;cases c with
  | true=>rw[DZ rfl]at z ⊢;exact⟨eg,γ,d,rc.ext x,z,λv2 H2 a1 x2 r2=>q v2 H2 a1 (x.trans x2) r2⟩
  | false=>rw[DJ NM]at z ⊢;cases z;exact q _ H' eg x (show V.bl d7 = .bl d7 from rfl)
theorem Cp(ha:PV X a f):PV X (.UnaryOp .Not a pos) (Ho f):=
 j4 (CN ha) λσ H Q O=>by
  obtain⟨H0,γ,d,rc,z,q⟩:=O;unfold Ho at z;cases e1:f γ with
  | none=>rw[e1]at z;cases z
  | some I=>
   rw[e1]at z;refine⟨H0,γ,I,rc,e1,λv H' eg x r=>?_⟩;cases I with
   | bl c=>cases z;exact⟨c,r,q _ H' eg x<|show V.bl (!c) = .bl (!c)from rfl⟩
   | _=>cases z
theorem xn(hc:s9 X c k)(ha:PV X a f)(hb:PV X b g):PV X (.IfExp c a b pos) (WV k f g):=
 j4 (nX hc ha hb) λσ H Q hZ=>by
  obtain⟨H0,γ,d,rc,z,q⟩:=hZ;obtain⟨t,e1,z⟩:=zb z;refine⟨H0,γ,t,rc,e1,λH' eg x=>?_⟩;cases t with
  | true=>rw[DZ rfl]at z ⊢;exact⟨eg,γ,d,rc.ext x,z,λI H2 O Y r2=>q I H2 O (x.trans Y) r2⟩
  | false=>rw[DJ NM]at z ⊢;exact⟨eg,γ,d,rc.ext x,z,λI H2 O Y r2=>q I H2 O (x.trans Y) r2⟩
theorem gA:DD X [] zG:=oh jJ λσ H Q z=>by obtain⟨H0,γ,ds,rc,I,q⟩:=z;cases I;exact q [] H H0 (Ext.refl rc.sub) f6.nil
theorem vP(ha:PV X e f)(O:DD X es g)(hs:i6 (e::es) X.env=(d7,f9 e X.env)::i6 es X.env:=by rfl):DD X (e::es) (zc f g):=
 oh (zP ha O hs) λσ H Q Y=>by
  obtain⟨H0,γ,ds,rc,z,q⟩:=Y;obtain⟨x,e1,z⟩:=zb z;cases e2:g γ with
  | none=>rw[e2]at z;cases z
  | some r=>
   rw[e2]at z;cases z;exact⟨H0,γ,x,rc,e1,λv H1 a0 x1 r1=>⟨a0,γ,r,rc.ext x1,e2,λvs H2 a2 I r2=>q (v::vs) H2 a2 (x1.trans I)<|f6.cons (r1.mono I.s0) r2⟩⟩
theorem jk(h:DD X es f):PV X (.Tuple es x1 pos) (qe f):=
 j4 (rQ h) λσ H Q hZ=>by
  obtain⟨H0,γ,d,rc,z,q⟩:=hZ;obtain⟨ds,e1,z⟩:=zb z;by_cases I:ds.length<=lim
  ·rw[DZ I]at z;cases z
   refine⟨H0,γ,ds,rc,e1,λvs H1 a1 x1 O=>⟨yc (by rw[O.length];exact I),λp Y=>?_⟩⟩;exact q _ _ _ (x1.trans<|Ext.alloc x1.sub Y _) (show ∃a xs,V.ref p = .ref a/\k0 X.K _ a xs/\f6 X.K _ ds xs from⟨p,vs,rfl,k0.of zC,O.mono<|zX (jq x1.sub Y) _⟩)
  ·rw[DJ I]at z;cases z
theorem vg(h:DD X es f):PO X (.List es pos) (yu f):=
 j4 (rS h) λσ H Q hZ=>by
  obtain⟨H0,γ,d,rc,I,q⟩:=hZ;obtain⟨ds,e1,I⟩:=zb I;by_cases Y:ds.length<=lim
  ·rw[DZ Y]at I;cases I
   refine⟨H0,γ,_,rc,e1,λvs H1 a2 x1 r1=>⟨yc (by rw[r1.length];exact Y),λp O=>?_⟩⟩;exact q p vs _ a2 (x1.trans<|Ext.hide x1.sub O _) (by
    cases z:H p with
    | none=>rfl
    | some o=>rw[x1.s1 p o z]at O;cases O) (jq x1.sub O) zC r1
  ·rw[DJ Y]at I;cases I
end
theorem yM:entryFor table "dict.update.loop" = cI wy.«dict.update.loop» :=entryFor_of_tree (by kernel_rfl)
theorem yF(args:Args):(Code.builtin "dict.update.loop" args).quiet=cL:=Code.quiet_builtin _ ⋯
end DL
namespace L2
open PySem PySem.Spec PyProof.Rows
structure M2(X:Cx)(o:f7)(m:Str)(apos:kr)(e f:f7)(cpos:kr):Prop where
 base:DF o m X.env (f9 o X.env)=f9 o X.env
 n?:((r9 cpos<|starEach [e,f] X.env).all (λx=> !x.1) && (D4 cpos<|keywordEach [] X.env).all (λx=>x.1.isSome)
  && decide (([e,f]:List f7).length+([]:List A9).length+(if ([]:List A9).isEmpty then 0 else 1)<30))=cL
 line:(apos.endLine==cpos.line)=cL
 trees:r9 cpos (i6 [e,f] X.env)=[(d7,f9 e X.env),(d7,f9 f X.env)]
end L2
namespace DL
open PySem L2
def Ni(i:Nat)(f:CO D)(γ:Ctx):Option D:=(qT γ[i]?).bind λds=>(f<|γ.set i<|.val<|.lst ds).bind λd=>if Il d=cL then cI d else cR
def MD(i:Nat)(f:CO Bool)(γ:Ctx):Option Bool:=(qT γ[i]?).bind λds=>f<|γ.set i<|.val<|.lst ds
def Lv(i:Nat)(γ:Ctx):Option Fl:=(qT γ[i]?).map λ_=> .next (γ.set i<|.own [])
def xF(ds:List D):List D:=(Nu ds.length).map λ(i:Nat)=>D.tup [.int i,ds[i]?.getD .i5]
def Vw(f:CO D)(γ:Ctx):Option (List D):=(f γ).bind λd=>match d with
 | .tup ds=>cI (xF ds)
 | _=>cR
def Kl:List D->Option (List Int)
 | []=>cI []
 | .int i::r=>(Kl r).map λl=>i::l
 | _::_=>cR
def Nf(f:CO D)(g:CO (Sk×List D))(γ:Ctx):Option D:=(f γ).bind λd=>(g γ).bind λa=>(p7 d).bind λi=>(Kl a.2).map λl=> .bl (decide<|i∈l)
def iI(k:Int):List Int->Option Nat
 | []=>cR
 | i::r=>if i=k then cI 0 else (iI k r).map (· + 1)
def Ng(f g:CO D)(γ:Ctx):Option D:=(f γ).bind λd=>((g γ).bind p7).bind λk=>match d with
 | .tup ds=>(Kl ds).bind λl=>(iI k l).map λ(j:Nat)=>D.int (j:Int)
 | _=>cR
def wZ(T:Tg)(f:CO (List D))(γ:Ctx):List D->Option (List<|List D)
 | []=>cI []
 | d::ds=>(qm T d γ).bind λγ1=>(f γ1).bind λe=>(wZ T f γ ds).map λr=>e::r
def WW(src:CO (List D))(T:Tg)(n:Nat)(fr:List Nat)(f:CO (List D))(γ:Ctx):Option (List<|List D):=(src γ).bind λds=>if ds.length<=lim then wZ T f (jA n fr γ) ds else cR
def KD:Option Cell->Option (List<|List D)
 | some (.nest rows)=>cI rows
 | _=>cR
def rG(γ:Ctx)(j i:Nat)(r:List D):Ctx:=(γ.set j .no).set i (.own r)
def aS(j i:Nat)(g f:CO D)(γ:Ctx):List (List D)->Option (List<|List D)
 | []=>cI []
 | r::rs=>(f<|rG γ j i r).bind λd=>((g<|rG γ j i r).bind p7).bind λk=>(p8 r.length k).bind λm=>(aS j i g f γ rs).map λt=>r.set m d::t
def Hr(j i:Nat)(g f:CO D)(γ:Ctx):Option Fl:=(KD γ[j]?).bind λrows=>if i=j\/γ.length<=i then cR else (aS j i g f γ rows).map λz=> .next ((γ.set j<|.nest z).set i .no)
def Ls(i:Nat)(F:CO Fl)(γ:Ctx):Option Fl:=(qT γ[i]?).bind λds=>F<|γ.set i<|.val<|.lst ds
def MB(i:Nat)(F:CO Fl)(γ:Ctx):Option Fl:=(KD γ[i]?).bind λrows=>F<|γ.set i<|.val<|.lst<|rows.map D.lst
def Ln(is:List Nat)(f:CO D)(γ:Ctx):Option Fl:=(f γ).bind λd=>match d with
 | .lst ds=>if ds.length=is.length then cI (.next<|qi is ds γ)else cR
 | _=>cR
def K8:List D->Option (List Str)
 | []=>cI []
 | .str x::r=>(K8 r).map λl=>x::l
 | _::_=>cR
def jm(x:Str):Bool:=decide<|x.length<=1000
def BY(f:CO D)(g:CO (Sk×List D))(γ:Ctx):Option D:=(f γ).bind λd=>(g γ).bind λa=>match d,a.1 with
 | .str sep,.L=>(K8 a.2).bind λl=>if l.length<=lim/\l.all jm=cL/\jm sep=cL then cI (.str<|IX sep l)else cR
 | _,_=>cR
def QT(f g:CO D)(γ:Ctx):Option D:=(f γ).bind λd=>((g γ).bind p7).bind λi=>match d with
 | .str z=>if jm z=cL then (p8 z.cps.toList.length i).bind λk=>z.cps.toList[k]?.map λc=> .str ⟨#[c]⟩else cR
 | _=>cR
def Yf(f:CO D)(γ:Ctx):Option D:=(f γ).bind λd=>match d with
 | .str z=>if jm z=cL then cI (.int z.length)else cR
 | _=>cR
def MC(z O I Y:Str)(f:CO D)(γ:Ctx):Option D:=(f γ).bind λd=>match d with
 | .str x=>if z=I then cR else if x=z then cI (.str O)else if x=I then cI (.str Y)else cR
 | _=>cR
def BX(f g:CO D)(γ:Ctx):Option D:=((f γ).bind p7).bind λi=>((g γ).bind p7).map λj=> .int (if j<i then j else i)
abbrev Xn:=Str×Option Int
def C_:CO Xn:=λ_=>cR
def GQ(c:Str):CO Xn:=λ_=>cI (c,cR)
def C'(k:CO Bool)(G H:CO Xn):CO Xn:=λγ=>(k γ).bind λb=>if b=cL then G γ else H γ
def MW(c:Str):Str:=if c==("NoRoom" : Str)then "room" else "at"
def Vv(f:CO D)(g:CO (Sk×List D)):CO D:=λγ=>(f γ).bind λd=>(g γ).bind λa=>(p7 d).bind λi=>(Kl a.2).map λl=> .bl (!decide (i∈l))
end DL
namespace DL
open PySem L2
open PySem.W (KasT kas_sort)
def kh(z:Str):List D:=z.cps.toList.map λc=>D.str ⟨#[c]⟩
def BV(f:CO D)(γ:Ctx):Option (List D):=(f γ).bind λd=>match d with
 | .str z=>if jm z=cL then cI (kh z)else cR
 | _=>cR
def ki(f:CO D)(γ:Ctx):Option (List D):=(f γ).bind λd=>match d with
 | .str z=>if jm z=cL then cI (xF<|kh z)else cR
 | _=>cR
def QV(f:CO D)(γ:Ctx):Option (List D):=(f γ).bind λd=>match d with
 | .lst ds=>cI (xF ds)
 | _=>cR
def MA(f:CO D)(g:CO (Sk×List D))(γ:Ctx):Option D:=(f γ).bind λd=>(g γ).bind λa=>match d with
 | .str x=>(K8 a.2).map λl=> .bl (l.any λy=>y==x)
 | _=>cR
def ny(f g:CO D):CO D:=λγ=>(f γ).bind λd=>(g γ).bind λe=>match d,e with
 | .str x,.str y=>if jm x=cL/\jm y=cL then cI (.str<|x++y)else cR
 | _,_=>cR
def BW(f:CO D)(l h:CO (Option Int)):CO D:=λγ=>(f γ).bind λd=>(l γ).bind λlo=>(h γ).bind λhi=>match d with
 | .str z=>if jm z=cL then cI (.str<|Txt.slice z lo hi)else cR
 | _=>cR
def og:D->Option (Int×Int)
 | .tup [.int a,.int b]=>cI (a,b)
 | _=>cR
def Zg:List D->Option (List<|Int×Int)
 | []=>cI []
 | d::r=>(og d).bind λp=>(Zg r).map λl=>p::l
def Ga(x y:Int×Int):Bool:=if x.1=y.1 then decide (x.2<y.2)else decide (x.1<y.1)
def Cb{α:Type}(lt:Nat->Nat->Bool):KasT α->α
 | .ret a=>a
 | .ask i j k=>Cb lt<|k<|lt i j
def ke(ps:List (Int×Int)):List Nat:=if ps.length<2 then Nu ps.length else (Cb (λi j=>Ga (ps.getD i (0,0))<|ps.getD j (0,0))<|kas_sort ps.length).toList
def fw(ds:List D):Option (List D):=(Zg ds).bind λps=>if ds.length<64 then cI ((ke ps).map λi=>ds.getD i .i5)else cR
def QU(f:CO (Sk×List D))(γ:Ctx):Option (List D):=(f γ).bind λa=>match a.1 with
 | .L=>fw a.2
 | _=>cR
end DL
namespace DL
open PySem L2
def fJ(i:Nat)(f:CO (List D))(γ:Ctx):Option Fl:=(qT γ[i]?).bind λds=>(f γ).bind λes=>if ds.length+es.length<=lim then cI (.next<|γ.set i<|.own<|ds++es)else cR
def rE(F G:List D->Option Res)(g:CO (List D))(γ:Ctx):Option (List D):=(g γ).bind λl=>match l with
 | [p,.str z,t,b]=>((if z=("r" : Str)then F else G) [p,t,b]).bind FT
 | _=>cR
def vY:List D->Option (List Int)
 | []=>cI []
 | .int i::r=>(vY r).map λl=>i::l
 | _::_=>cR
def Iq(ds es:List D):Option D:=match vY ds with
 | some ns=>if ds.length=es.length/\ns.Nodup/\ds.length<=lim then cI (.sh ds es)else cR
 | none=>cR
def aP:List D->List D->Int->Option D
 | k::ks,v::vs,i=>match k with
  | .int j=>if j=i then cI v else aP ks vs i
  | _=>aP ks vs i
 | _,_,_=>cR
open PySem.Spec PyProof.Rows
structure RS(K:Nr)(E0 E H0 H:Hp)(σ:St)(γ:Ctx):Prop where
 rc:RC K H0 H σ γ
 ext:Ext E0 E H0 H
 fresh : ∀(i:Nat) ds a,γ[i]? = cI (.own ds)->σ[i]? = cI (cI (.ref a))->E a=cR
 Dh : ∀(i:Nat) rows a xs,γ[i]? = cI (.nest rows)->σ[i]? = cI (cI (.ref a))->H a=cI (.lst xs)->E a=cR/\∀b,V.ref b∈xs->E b=cR
def Sat(K:Nr)(E0 E:Hp)(D:Ends):Fl->Prop
 | .next γ=>∀σ H H0,RS K E0 E H0 H σ γ->D.nx σ H
 | .brk γ=>∀σ H H0,RS K E0 E H0 H σ γ->D.bk σ H
 | .cont γ=>∀σ H H0,RS K E0 E H0 H σ γ->D.ct σ H
 | .ret (.val d)=>∀v H H0,Ext E0 E H0 H->Rep K H0 d v->D.rt v H
 | .ret (.own es)=>∀a xs H H0,Ext E0 E H0 H->E a=cR->H0 a=cR->H a=cI (.lst xs)->f6 K H0 es xs->D.rt (.ref a) H
def tS(K:Nr)(F:CO Fl):TS:=λD σ H=>∃E0 E H0 γ z,RS K E0 E H0 H σ γ/\F γ=cI z/\Sat K E0 E D z
abbrev tr(X:Cx)(st:m5)(F:CO Fl):Prop:=PS X st (tS X.K F)
abbrev bB(X:Cx)(R?:List m5)(F:CO Fl):Prop:=n5 X R? (tS X.K F)
section
variable{K:Nr}{E0 E H0 H eg H':Hp}{σ:St}{γ:Ctx}
theorem RS.step(r:RS K E0 E H0 H σ γ)(e:Ext H0 H eg H'):RS K E0 E eg H' σ γ:=⟨r.rc.ext e,r.ext.trans e,r.fresh,λi rows a xs h1 h2 I=>by obtain⟨O,bs,z,g2,_⟩:=r.rc.wq.1 i rows h1;rw[h2]at z;cases z;have:=e.s1 a _ g2.ha;rw[I]at this;cases this;exact r.Dh i rows a _ h1 h2 g2.ha⟩
theorem zN{α:Type}{l:List α}{i j:Nat}{x y:α}(h:(l.set i x)[j]? = cI y):(j=i/\y=x/\i<l.length)\/(j≠i/\l[j]? = cI y):=by
 by_cases e:i=j
 ·subst e
  by_cases z:i<l.length
  ·rw[Oz z]at h;cases h;exact .inl ⟨rfl,rfl,z⟩
  ·rw[List.set_eq_of_length_le ⋯]at h
   exact absurd (NC.mp h).1 z
 ·rw[NH e]at h;exact .inr ⟨OQ e,h⟩
theorem z0.Dm{i:Nat}{d:D}{v:V}(n:z0 K H0 H σ γ):z0 K H0 H (σ.set i<|some v) (γ.set i<|.val d):=
 ⟨λj rows e=>by
  rcases zN e with⟨_,z,_⟩ | ⟨I,z⟩
  ·cases z
  ·obtain⟨a,bs,h1,h2,O⟩:=n.1 j rows z
   refine⟨a,bs,by rw[NH (OQ I)];exact h1,h2,λk ds c e1 e2=>?_⟩;rcases zN e1 with⟨_,z,_⟩ | ⟨hk,z1⟩
   ·cases z
   ·rw[NH (OQ hk)]at e2;exact O k ds c z1 e2,
 λj k Y r2 e1 e2=>by
  rcases zN e1 with⟨_,z,_⟩ | ⟨_,z1⟩
  ·cases z
  ·rcases zN e2 with⟨_,z,_⟩ | ⟨_,z2⟩
   ·cases z
   ·exact n.2 j k Y r2 z1 z2⟩
theorem RC.Dm{i:Nat}{d:D}{v:V}(r:RC K H0 H σ γ)(h:Rep K H0 d v):RC K H0 H (σ.set i<|some v) (γ.set i<|.val d):=by
 refine⟨r.sub,by simp[r.len],λj d' e=>?_,λj ds e=>?_,λj k a ds es e1 e2 Y e4=>?_,r.wq.Dm⟩
 ·rcases zN e with⟨rfl,z,hl⟩ | ⟨I,z⟩
  ·cases z;exact⟨v,Oz (by rw[r.len];exact hl),h⟩
  ·obtain⟨v',O,g2⟩:=r.val j d' z
   exact⟨v',by rw[NH (OQ I)];exact O,g2⟩
 ·rcases zN e with⟨rfl,z,hl⟩ | ⟨I,z⟩
  ·cases z
  ·obtain⟨a,xs,O,g2⟩:=r.own j ds z
   exact⟨a,xs,by rw[NH (OQ I)];exact O,g2⟩
 ·rcases zN e1 with⟨_,z,_⟩ | ⟨I,z1⟩
  ·cases z
  ·rcases zN e2 with⟨_,z,_⟩ | ⟨hk,z2⟩
   ·cases z
   ·rw[NH (OQ I)]at Y
    rw[NH (OQ hk)]at e4;exact r.ne j k a ds es z1 z2 Y e4
theorem RS.Dm{i:Nat}{d:D}{v:V}(r:RS K E0 E H0 H σ γ)(h:Rep K H0 d v):RS K E0 E H0 H (σ.set i<|some v) (γ.set i<|.val d):=
 ⟨r.rc.Dm h,r.ext,λj ds a e1 e2=>by
  rcases zN e1 with⟨_,z,_⟩ | ⟨I,z⟩
  ·cases z
  ·rw[NH (OQ I)]at e2;exact r.fresh j ds a z e2,
 λj rows a xs e1 e2 O=>by
  rcases zN e1 with⟨_,z,_⟩ | ⟨I,z⟩
  ·cases z
  ·rw[NH (OQ I)]at e2;exact r.Dh j rows a xs z e2 O⟩
theorem Jq : ∀{z bs:List d8},z.map V.ref=bs.map V.ref->z=bs
 | [],[],_=>rfl
 | [],_::_,h=>by cases h
 | _::_,[],h=>by cases h
 | a::z,b::bs,h=>by rw[NY,NY]at h;injection h with h1 h2;injection h1 with h1;rw[h1,Jq h2]
theorem RS.P?{i:Nat}{es:List D}{a:d8}{xs:List V}{G0 G:Hp}(r:RS K E0 E G0 G σ γ)(e:Ext G0 G H0 H)(h1:G a=cR)(h2:H0 a=cR)(h3:H a=cI (.lst xs))(h4:f6 K H0 es xs) :
 RS K E0 E H0 H (σ.set i<|some (.ref a)) (γ.set i<|.own es):=by
 have rc:=r.rc.ext e;have no : ∀(j:Nat) ds,γ[j]? = cI (.own ds)->¬σ[j]? = cI (cI (.ref a)):=λj ds g z=>by obtain⟨b,ys,I,g2,g3,_⟩:=r.rc.own j ds g;rw[z]at I;cases I;rw[h1]at g3;cases g3
 refine⟨⟨rc.sub,by simp[rc.len],λj d' g=>?_,λj ds g=>?_,λj k b ds fs e1 e2 e3 e4=>?_,⟨λj rows g=>?_,λj k r1 r2 I g2=>?_⟩⟩,r.ext.trans e,λj ds b I g2=>?_,λj rows b xs I g2 g3=>?_⟩
 ·rcases zN g with⟨_,z,_⟩ | ⟨O,z⟩
  ·cases z
  ·obtain⟨v',I,g2⟩:=rc.val j d' z
   exact⟨v',by rw[NH (OQ O)];exact I,g2⟩
 ·rcases zN g with⟨rfl,z,Y⟩ | ⟨O,z⟩
  ·cases z;exact⟨a,xs,Oz (by rw[rc.len];exact Y),h2,h3,h4⟩
  ·obtain⟨b,ys,I,g2⟩:=rc.own j ds z
   exact⟨b,ys,by rw[NH (OQ O)];exact I,g2⟩
 ·rcases zN e1 with⟨rfl,z,Y⟩ | ⟨O,z1⟩
  ·rcases zN e2 with⟨rfl,_,_⟩ | ⟨hk,z2⟩
   ·rfl
   ·rw[Oz (by rw[rc.len];exact Y)]at e3
    rw[NH (OQ hk)]at e4;cases e3;exact absurd e4<|no k fs z2
  ·rcases zN e2 with⟨rfl,z,Y⟩ | ⟨hk,z2⟩
   ·rw[Oz (by rw[rc.len];exact Y)]at e4
    rw[NH (OQ O)]at e3;cases e4;exact absurd e3<|no j ds z1
   ·rw[NH (OQ O)]at e3
    rw[NH (OQ hk)]at e4;exact rc.ne j k b ds fs z1 z2 e3 e4
 ·rcases zN g with⟨_,z,_⟩ | ⟨O,z⟩
  ·cases z
  ·obtain⟨b,bs,I,g2,g3⟩:=r.rc.wq.1 j rows z
   obtain⟨b',a3,f1,f2,f3⟩:=rc.wq.1 j rows z;rw[I]at f1;cases f1;have eb:a3.map V.ref=bs.map V.ref:=by have:=e.s1 b _ g2.ha;rw[f2.ha]at this;injection this with this;injection this
   have ac:a3=bs:=Jq eb;subst ac;refine⟨b,a3,by rw[NH (OQ O)];exact I,f2,λk ds c e1 e2=>?_⟩;rcases zN e1 with⟨rfl,_,Y⟩ | ⟨hk,z1⟩
   ·rw[Oz (by rw[rc.len];exact Y)]at e2;cases e2
    intro hm;obtain⟨_,ag,q⟩:=g2.at hm;rw[h1]at q;cases q
   ·rw[NH (OQ hk)]at e2;exact f3 k ds c z1 e2
 ·rcases zN I with⟨_,z,_⟩ | ⟨_,z1⟩
  ·cases z
  ·rcases zN g2 with⟨_,z,_⟩ | ⟨_,z2⟩
   ·cases z
   ·exact rc.wq.2 j k r1 r2 z1 z2
 ·rcases zN I with⟨rfl,z,Y⟩ | ⟨O,z⟩
  ·rw[Oz (by rw[rc.len];exact Y)]at g2;cases g2
   cases q:E a with
   | none=>rfl
   | some o=>rw[r.ext.s1 a o q]at h1;cases h1
  ·rw[NH (OQ O)]at g2;exact r.fresh j ds b z g2
 ·rcases zN I with⟨_,z,_⟩ | ⟨O,z⟩
  ·cases z
  ·rw[NH (OQ O)]at g2;exact(r.step e).Dh j rows b xs z g2 g3
theorem RS.rewrite{i:Nat}{ds es:List D}{a:d8}{xs ys:List V}(r:RS K E0 E H0 H σ γ)(hi:γ[i]? = cI (.own ds))(hs:σ[i]? = cI (cI (.ref a)))(h4:f6 K H0 es ys) :
 RS K E0 E H0 (upd H a<|.lst ys) σ (γ.set i<|.own es):=by
 obtain⟨a',ac,g1,g2,g3,g4⟩:=r.rc.own i ds hi;rw[hs]at g1;cases g1;have ak:i<γ.length:=(NC.mp hi).1;refine⟨⟨λb o q=>?_,by simp[r.rc.len],λj d' g=>?_,λj fs g=>?_,λj k b fs gs e1 e2 e3 e4=>?_,⟨λj rows g=>?_,λj k r1 r2 e1 e2=>?_⟩⟩,⟨r.ext.s0,λb o q=>?_,λb o q=>?_,r.ext.new⟩,λj fs b e1 e2=>?_,λj rows b zs e1 e2 e3=>?_⟩
 ·rw[zH (λz=>by rw[z,g2]at q;cases q)];exact r.rc.sub b o q
 ·rcases zN g with⟨_,z,_⟩ | ⟨hj,z⟩
  ·cases z
  ·exact r.rc.val j d' z
 ·rcases zN g with⟨rfl,z,hl⟩ | ⟨hj,z⟩
  ·cases z;exact⟨a,ys,hs,g2,zC,h4⟩
  ·obtain⟨b,zs,I,O,Y,f4⟩:=r.rc.own j fs z
   refine⟨b,zs,I,O,?_,f4⟩;rw[zH (λq=>hj<|r.rc.ne j i a fs ds z hi (by rw[I,q]) hs)];exact Y
 ·have c1 : ∃La,γ[j]? = cI (.own La):=by
   rcases zN e1 with⟨q,_,_⟩ | ⟨_,z⟩
   ·exact⟨ds,by rw[q];exact hi⟩
   ·exact⟨fs,z⟩
  have c2 : ∃La,γ[k]? = cI (.own La):=by
   rcases zN e2 with⟨q,_,_⟩ | ⟨_,z⟩
   ·exact⟨ds,by rw[q];exact hi⟩
   ·exact⟨gs,z⟩
  obtain⟨I,z1⟩:=c1;obtain⟨O,z2⟩:=c2;exact r.rc.ne j k b I O z1 z2 e3 e4
 ·rcases zN g with⟨_,z,_⟩ | ⟨hj,z⟩
  ·cases z
  ·obtain⟨b,bs,I,O,Y⟩:=r.rc.wq.1 j rows z
   have a4:=Y i ds a hi hs;refine⟨b,bs,I,O.move (js.refl _) (λc hc=>(O.at hc).1)<|λc hc=>zH λq=>a4<|q ▸ hc,λk fs c e1 e2=>?_⟩;rcases zN e1 with⟨q,_,_⟩ | ⟨_,z1⟩
   ·rw[q,hs]at e2;cases e2;exact a4
   ·exact Y k fs c z1 e2
 ·rcases zN e1 with⟨_,z,_⟩ | ⟨_,z1⟩
  ·cases z
  ·rcases zN e2 with⟨_,z,_⟩ | ⟨_,z2⟩
   ·cases z
   ·exact r.rc.wq.2 j k r1 r2 z1 z2
 ·rw[zH (λz=>by rw[z,r.fresh i ds a hi hs]at q;cases q)];exact r.ext.s1 b o q
 ·rw[zH (λz=>by rw[z,g2]at q;cases q)];exact r.ext.sub b o q
 ·rcases zN e1 with⟨q,_,_⟩ | ⟨_,z⟩
  ·rw[q]at e2;exact r.fresh i ds b hi e2
  ·exact r.fresh j fs b z e2
 ·rcases zN e1 with⟨_,z,_⟩ | ⟨hj,z⟩
  ·cases z
  ·obtain⟨b',bs,I,O,Y⟩:=r.rc.wq.1 j rows z
   rw[e2]at I;cases I;rw[zH (show b≠a from λq=>Y i ds a hi hs<|by rw[q];exact NL)]at e3;exact r.Dh j rows b zs z e2 e3
end
section
variable{X:Cx}{e a b c:f7}{pos:kr}{st:m5}{xD:List m5}
theorem jX:bB X [] xw:=rN gc λD σ H z=>by obtain⟨E0,E,H0,γ,Y,rs,I,O⟩:=z;cases I;exact O σ H H0 rs
theorem zg{F G:CO Fl}(h1:tr X st F)(h2:bB X xD G):bB X (st::xD) (zS F G):=rN (xK h1 h2) λD σ H Y=>by
 obtain⟨E0,E,H0,γ,fl,rs,z,I⟩:=Y;obtain⟨O,e1,z⟩:=zb z;refine⟨E0,E,H0,γ,O,rs,e1,?_⟩;cases O with
 | next γ'=>exact λi9 H' eg a1=>⟨E0,E,eg,γ',fl,a1,z,I⟩
 | brk γ'=>cases z;exact I
 | cont γ'=>cases z;exact I
 | ret r=>cases z;cases r<;>exact I
theorem zo(h1:tr X st F):bB X [st] F:=vw h1
theorem zv(h:o.map f=cI y) : ∃x,o=cI x/\f x=y:=by
 cases o with
 | none=>cases h
 | some x=>exact⟨x,rfl,by simpa using h⟩
theorem zO{f:CO D}(h:PV X e f):tr X (.Return (cI e) pos) (xh f):=xi (ZY h) λD σ H I=>by obtain⟨E0,E,H0,γ,Y,rs,z,O⟩:=I;obtain⟨d,e1,z⟩:=zv z;subst z;exact⟨H0,γ,d,rs.rc,e1,λv H' eg x r=>O v H' eg (rs.ext.trans x) r⟩
theorem xM{f:CO (List D)}(h:PO X e f):tr X (.Return (cI e) pos) (Zn f):=xi (ZY h) λD σ H I=>by
 obtain⟨E0,E,H0,γ,fl,rs,z,O⟩:=I;obtain⟨ds,e1,z⟩:=zv z;subst z;refine⟨H0,γ,ds,rs.rc,e1,λa xs H' eg x h1 h2 Y r=>O a xs H' eg (rs.ext.trans x) ?_ h2 Y r⟩;cases q:E a with
 | none=>rfl
 | some o=>rw[rs.ext.s1 a o q]at h1;cases h1
theorem k9(i:Nat)(h:PE X e (wC i)):tr X (.Return (cI e) pos) (ZV i):=xi (ZY h) λD σ H O=>by
 obtain⟨E0,E,H0,γ,fl,rs,z,I⟩:=O;unfold ZV at z;cases e1:γ[i]? with
 | none=>rw[e1]at z;cases z
 | some c=>
  rw[e1]at z;cases c with
  | no=>cases z
  | val d=>
   cases z;obtain⟨v,h1,h2⟩:=rs.rc.val i d e1;exact⟨v,h1,I v H H0 rs.ext h2⟩
  | nest rows=>cases z
  | own ds=>
   cases z;obtain⟨a,xs,h1,h2,Y,h4⟩:=rs.rc.own i ds e1;exact⟨_,h1,I a xs H H0 rs.ext (rs.fresh i ds a e1 h1) h2 Y h4⟩
theorem Yo:tr X (.Continue pos) uf:=xi VE λD σ H ⟨E0,E,H0,γ,O,rs,z,I⟩=>by cases z;exact I σ H H0 rs
theorem vN:tr X st w9:=xi nN λD σ H ⟨E0,E,H0,γ,I,rs,z,O⟩=>by cases z
theorem qJ{k:CO Bool}{F G:CO Fl}{x y:List m5}(Y:s9 X c k)(ha:bB X x F)(hb:bB X y G):tr X (.If c x y pos) (oy k F G):=xi (CB Y ha hb) λD σ H hZ=>by
 obtain⟨E0,E,H0,γ,I,rs,z,O⟩:=hZ;obtain⟨t,e1,z⟩:=zb z;refine⟨H0,γ,t,rs.rc,e1,λH' eg x=>?_⟩;cases t with
 | true=>rw[DZ rfl]at z ⊢;exact⟨E0,E,eg,γ,I,rs.step x,z,O⟩
 | false=>rw[DJ NM]at z ⊢;exact⟨E0,E,eg,γ,I,rs.step x,z,O⟩
theorem uv(i:Nat){f:CO D}(h:PS X st (XQ (tV X.K f)<|ye i)):tr X st (jT i f):=xi h λD σ H I=>by obtain⟨E0,E,H0,γ,Y,rs,z,O⟩:=I;obtain⟨d,e1,z⟩:=zv z;subst z;exact⟨H0,γ,d,rs.rc,e1,λv H' eg x r=>O _ _ eg<|(rs.step x).Dm r⟩
theorem W9(i:Nat){f:CO (List D)}(h:PS X st (XQ (tO X.K f)<|ye i)):tr X st (yt i f):=xi h λD σ H I=>by obtain⟨E0,E,H0,γ,fl,rs,z,O⟩:=I;obtain⟨ds,e1,z⟩:=zv z;subst z;exact⟨H0,γ,ds,rs.rc,e1,λa xs H' eg x h1 h2 Y r=>O _ _ eg<|rs.P? x h1 h2 Y r⟩
theorem kl(h:qT o=cI ds):o=cI (.own ds):=by
 cases o with
 | none=>cases h
 | some c=>cases c<;>simp[qT]at h;rw[h]
theorem cC(i:Nat){f:CO D}(h:PE X e (k_ X.K "list" Vz (wC i) (Zl (tV X.K f) rj)))(hs:A8 e cR pos.line X.env=pure d7:=by rfl):tr X (.Expr e pos) (jZ i f):=
 xi (wL h hs) λD σ H hZ=>by
  obtain⟨E0,E,H0,γ,fl,rs,z,a1⟩:=hZ;obtain⟨ds,e1,z⟩:=zb z;obtain⟨d,e2,z⟩:=zb z;have e1:=kl e1;by_cases I:ds.length<lim
  ·rw[DZ I]at z;cases z
   obtain⟨a,xs,h1,h2,O,Y⟩:=rs.rc.own i ds e1;refine⟨_,h1,.inl ⟨rfl,_,lK.of O⟩,H0,γ,d,rs.rc,e2,λv H' eg x r=>?_⟩;have a2:=rs.step x;have a3:=x.s1 _ _ O;refine⟨a,xs,v,rfl,rfl,a3,?_,?_⟩
   ·exact NX (by rw[Y.length];exact I)<|yc<|NJ _
   ·exact a1 _ _ eg<|a2.rewrite (xs:=xs) e1 h1<|(Y.mono x.s0).append (f6.cons r f6.nil)
  ·rw[DJ I]at z;cases z
end
def Mi(K:Nr)(H0 H:Hp)(Q:VK):Res->Prop
 | .val d=>∀v H' eg,Ext H0 H eg H'->Rep K eg d v->Q v H'
 | .own es=>∀a xs H' eg,Ext H0 H eg H'->H a=cR->eg a=cR->H' a=cI (.lst xs)->f6 K eg es xs->Q (.ref a) H'
def B5(K:Nr)(n:Nat)(F:List D->Option Res):Sp:=λvs H Q _=>∃H0 ds r,js H0 H/\f6 K H0 ds vs/\ds.length=n/\F ds=cI r/\Mi K H0 H Q r
theorem B5.len{K:Nr}{n:Nat}{F:List D->Option Res}{ps:List Str}(hn:ps.length=n) : ∀vs H Q E,B5 K n F vs H Q E->vs.length=ps.length:=λvs H Q E h=>by obtain⟨H0,ds,r,_,h1,h2,_⟩:=h;rw[h1.length,h2,hn]
section
variable{P:m4}{w:l0}{K:Nr}{mg:DX}{base:je}
theorem XW(s:js H0 H)(h:f6 K H0 ds vs)(hn:ds.length<=N.length):RS K H0 H H0 H (wD N vs) (jt N.length ds):=by
 have z:=h.length;refine⟨⟨s,by simp[L2.wD,jt,z],λi d e=>?_,λi es e=>?_,λi j a es fs e _ _ _=>?_,z0.LQ λi rows e=>?_⟩,Ext.refl s,λi es a e _=>?_,λi rows a xs e _ _=>?_⟩
 all_goals unfold jt at e
 ·by_cases hi:i<ds.length
  ·rw[Oi (by simpa using hi),NT]at e
   cases e1:ds[i]? with
   | none=>rw[e1]at e;cases e
   | some d'=>
    rw[e1]at e;cases e;obtain⟨x,I,g2⟩:=h.get e1;refine⟨x,?_,g2⟩;unfold L2.wD;rw[Oi (by simp;omega),NT,I];rfl
  ·rw[Dt (by simpa using hi),P6]at e
   split at e<;>cases e
 all_goals
  by_cases hi:i<ds.length
  ·rw[Oi (by simpa using hi),NT]at e
   cases e1:ds[i]? with
   | none=>rw[e1]at e;cases e
   | some d'=>rw[e1]at e;cases e
  ·rw[Dt (by simpa using hi),P6]at e
   split at e<;>cases e
theorem EZ{x qual:Str}{st:m5}{f:d8}{fd:u6}{N ps:List Str}{k:Nat}{F:CO Fl}(O:L2.yg K x qual st f fd)(S:IM N ps (zU st))
 (Y : ∀(m7:fm) (A:p4) (outer:List u5) (s:gx) (H:Hp) (E:XK),t6 k (A.deeper<|envOfC qual (zU st) s.heap.objs.size f m7)->bB (AJ t5 P w K mg base N qual (zU st) f m7 A outer s H E).LU (jV st) F) :
 p5 P w K mg base t5 (k+1) f fd ps (B5 K ps.length<|jo N.length F):=by
 refine O.ok S (B5.len rfl)<|λm7 A outer s H vs Q E hr h=>⟨_,Y m7 A outer s H E hr,?_⟩;obtain⟨H0,ds,r,s0,h1,h2,h3,z⟩:=h;obtain⟨I,e1,e2⟩:=zb h3;have a2:ps.length<=N.length:=by have:=congrArg RU S.pre;rw[Rr]at this;omega
 refine⟨H0,H,H0,jt N.length ds,I,XW s0 h1 ⋯,e1,?_⟩;cases I with
 | ret r'=>cases e2;cases r<;>exact z
 | next γ=>cases e2;exact λi9 H' eg rs=>z .i5 H' eg rs.ext (show V.i5 = .i5 from rfl)
 | brk γ=>cases e2
 | cont γ=>cases e2
end
section
variable{X:Cx}{es:List f7}{pos p:kr}{k:Nat}{f:d8}{fd:u6}{ps:List Str}{x:Str}{F:List D->Option Res}{g:CO (List D)}
theorem ur{A0:List f7}(G:p5 X.prog X.w X.K X.mg X.base t5 k f fd ps (B5 X.K ps.length F))(ha:DD X es g)(hl : ∀γ ds,g γ=cI ds->ds.length=ps.length)
 (hc : ∀{t:TA},PA X es t->PE X (.Call (.Name x p) es [] pos) (mU (B5 X.K ps.length F) [] E0 t)):PV X (.Call (.Name x p) es [] pos) (zJ F g):=
 j4 (hc ha) λσ H Q hZ=>by
  obtain⟨H0,γ,d,rc,z,q⟩:=hZ;obtain⟨ds,e1,z⟩:=zb z;obtain⟨r,e2,z⟩:=zv z;refine⟨H0,γ,ds,rc,e1,λvs H1 a3 x1 r1=>⟨a3,ds,r,x1.sub,by simpa using r1,hl γ ds e1,e2,?_⟩⟩;subst z;cases r with
  | val d=>exact λv H' eg I r2=>q v H' eg (x1.trans I) r2
  | own fs=>
   refine λa xs H' eg I h1 h2 h3 r2=>q _ H' _ (x1.trans<|I.show h1 h2 h3 x1.sub) ?_;exact(show ∃O Y,V.ref a = .ref O/\lK X.K _ O Y/\f6 X.K _ fs Y from⟨a,xs,rfl,lK.of zC,r2.mono<|zX h2 _⟩)
theorem uE(G:p5 X.prog X.w X.K X.mg X.base t5 k f fd ps (B5 X.K ps.length F))(ha:DD X es g)(O : ∀γ ds,g γ=cI ds->ds.length=ps.length)
 (Y : ∀{t:TA},PA X es t->PE X (.Call (.Name x p) es [] pos) (mU (B5 X.K ps.length F) [] E0 t)):PO X (.Call (.Name x p) es [] pos) (qj F g):=
 j4 (Y ha) λσ H Q hZ=>by
  obtain⟨H0,γ,fs,rc,I,q⟩:=hZ;obtain⟨ds,e1,I⟩:=zb I;obtain⟨r,e2,I⟩:=zb I;refine⟨H0,γ,ds,rc,e1,λvs H1 a1 x1 r1=>⟨a1,ds,r,x1.sub,by simpa using r1,O γ ds e1,e2,?_⟩⟩;cases r with
  | val d=>cases I
  | own gs=>
   cases I;exact λa xs H' eg x2 h1 h2 h3 r2=>q a xs H' eg (x1.trans x2) (by
    cases z:H a with
    | none=>rfl
    | some o=>rw[x1.s1 a o z]at h1;cases h1) h2 h3 r2
end
structure Walk(K:Nr)(H0 Hs:Hp)(J:It)(ds:List D):Prop where
 go : ∀i H1,js Hs H1->i<ds.length->J.go i H1
 stop : ∀H1,js Hs H1->J.stop ds.length H1
 DP : ∀i H1 x C5,js Hs H1->i<ds.length->J.DP i H1 x C5->∃d,ds[i]? = cI d/\∀G0,js H0 G0->js G0 H1->∃E_,Ext G0 H1 E_ C5/\Rep K E_ d x
theorem Walk.weak{K:Nr}{H0 Hs z:Hp}{J:It}{ds:List D}(w:Walk K H0 Hs J ds)(s:js Hs z):Walk K H0 z J ds:=
 ⟨λi H1 h=>w.go i H1<|s.trans h,λH1 h=>w.stop H1<|s.trans h,λi H1 x C5 h=>w.DP i H1 x C5<|s.trans h⟩
theorem XG{k:Sk}{K:Nr}{H0 Hs:Hp}{a:d8}{xs:List V}{ds:List D}(h:r6 k K Hs a xs)(r:f6 K H0 ds xs):Walk K H0 Hs (F_ k K a) ds:=by
 have I:=r.length;refine⟨λi H1 s hi=>?_,λH1 s=>?_,λi H1 x C5 s hi y=>?_⟩
 ·have hx:i<xs.length:=by omega
  cases k with
  | L=>exact⟨xs,xs[i],s.seq h,Nw hx⟩
  | T=>exact⟨xs,xs[i],o5 s h,Nw hx⟩
 ·cases k with
  | L=>exact⟨xs,s.seq h,by omega⟩
  | T=>exact⟨xs,o5 s h,by omega⟩
 ·have e:C5=H1/\xs[i]? = cI x:=by
   cases k with
   | L=>exact⟨y.1,y.2 xs<|s.seq h⟩
   | T=>exact⟨y.1,y.2 xs<|o5 s h⟩
  obtain⟨e1,e2⟩:=e;subst e1;obtain⟨d,hd,z⟩:=r.Gx e2;exact⟨d,hd,λG0 s1 s2=>⟨G0,Ext.refl s2,z.mono s1⟩⟩
theorem wK(lo:Int)(n:Nat):(vJ lo n).length=n:=by simp[vJ]
theorem QK{K:Nr}{H0 Hs:Hp}(lo:Int)(n:Nat):Walk K H0 Hs (IS lo n) (vJ lo n):=by
 refine⟨λi H1 s hi=>?_,λH1 s=>?_,λi H1 x C5 s hi y=>?_⟩
 ·rw[wK]at hi;exact hi
 ·rw[wK];exact NJ _
 ·rw[wK]at hi
  obtain⟨e1,e2⟩:=y;subst e1 e2;exact⟨.int<|lo+i,by simp[vJ,hi],λG0 s1 s2=>⟨G0,Ext.refl s2,(show V.int (lo+i) = .int (lo+i)from rfl)⟩⟩
theorem mC{I O:Sk}{K:Nr}{H0 Hs:Hp}{a b:d8}{xs ys:List V}{ds es:List D}(h1:r6 I K Hs a xs)(Y:f6 K H0 ds xs)(h2:r6 O K Hs b ys)(r2:f6 K H0 es ys) :
 Walk K H0 Hs (P0 I O K a b) (KZ ds es):=by
 have l1:=Y.length;have l2:=r2.length;have hz:(KZ ds es).length=min ds.length es.length:=by simp[KZ]
 refine⟨λi H1 s hi=>?_,λH1 s=>?_,λi H1 x C5 s hi y=>?_⟩
 ·exact⟨xs,ys,Ye s h1,Ye s h2,by omega,by omega⟩
 ·refine⟨xs,ys,Ye s h1,Ye s h2,?_⟩
  rw[hz];omega
 ·obtain⟨p,u,v,e1,z,e2,g1,g2⟩:=y
  obtain⟨d,hd,hr⟩:=Y.Gx<|g1 xs<|Ye s h1;obtain⟨c,hc,a5⟩:=r2.Gx<|g2 ys<|Ye s h2;refine⟨.tup [d,c],?_,λG0 s1 s2=>⟨upd G0 p<|.tup [u,v],?_,?_⟩⟩
  ·have a6:(ds.zip es)[i]? = cI (d,c):=List.getElem?_zip_eq_some.mpr ⟨hd,hc⟩
   simp[KZ,a6]
  ·rw[e2];exact Ext.alloc s2 z _
  ·rw[e1]
   exact(show ∃a' a1,V.ref p = .ref a'/\k0 K _ a' a1/\f6 K _ [d,c] a1 from⟨p,[u,v],rfl,k0.of zC,f6.cons ((hr.mono s1).mono (zX (jq s2 z) _))<|f6.cons ((a5.mono s1).mono (zX (jq s2 z) _)) f6.nil⟩)
def n_(K:Nr)(src:CO (List D)):TI:=λσ H R=>∃H0 γ ds,RC K H0 H σ γ/\src γ=cI ds/\∀J H' eg,Ext H0 H eg H'->Walk K eg H' J ds->R J H'
def N8(K:Nr)(src:CO (List D)):TI:=λσ H R=>∃H0 γ ds,RC K H0 H σ γ/\src γ=cI ds/\∀J H' eg,Ext H0 H eg H'->Walk K eg eg J ds->R J H'
abbrev B6(X:Cx)(tg e:f7)(src:CO (List D)):Prop:=PI X tg e (n_ X.K src)
abbrev o9(X:Cx)(tg e:f7)(src:CO (List D)):Prop:=PI X tg e (N8 X.K src)
section
variable{X:Cx}{tg e a b:f7}{pos p:kr}
theorem o9.c(h:o9 X tg e src):B6 X tg e src:=Ka h λσ H R ⟨H0,γ,ds,rc,z,q⟩=>⟨H0,γ,ds,rc,z,λJ H' eg x w=>q J H' eg x<|w.weak x.sub⟩
theorem jh(h:PQ X e f):B6 X tg e (zQ f):=Ka (gp h) λσ H R z=>by obtain⟨H0,γ,ds,rc,I,q⟩:=z;obtain⟨⟨k,es⟩,e1,e2⟩:=zv I;subst e2;exact⟨H0,γ,k,es,rc,e1,λa xs H' eg x h1 _ r=>⟨a,k,rfl,⟨xs,h1⟩,q _ H' eg x<|XG h1 r⟩⟩
theorem X9(h:PV X e f):o9 X tg e (zQ<|zM f):=Ka (gp h) λσ H R I=>by
 obtain⟨H0,γ,ds,rc,O,q⟩:=I;obtain⟨⟨k,es⟩,e1,e2⟩:=zv O;subst e2;obtain⟨d,Y,e1⟩:=zb e1;refine⟨H0,γ,d,rc,Y,λv H' eg x r=>?_⟩;cases d with
 | tup fs=>
  obtain⟨e2,z⟩:k = .T/\es=fs:=by simp[jg]at e1;exact⟨e1.1.symm,e1.2.symm⟩
  subst e2 z;obtain⟨a,xs,rfl,h1,h2⟩:=(show ∃a xs,v = .ref a/\k0 X.K eg a xs/\f6 X.K eg es xs from r);exact⟨a,.T,rfl,⟨xs,o5 x.sub h1⟩,q _ H' eg x<|XG (k:= .T) h1 h2⟩
 | lst fs=>
  obtain⟨e2,z⟩:k = .L/\es=fs:=by simp[jg]at e1;exact⟨e1.1.symm,e1.2.symm⟩
  subst e2 z;obtain⟨a,xs,rfl,h1,h2⟩:=(show ∃a xs,v = .ref a/\lK X.K eg a xs/\f6 X.K eg es xs from r);exact⟨a,.L,rfl,⟨xs,x.sub.seq h1⟩,q _ H' eg x<|XG (k:= .L) h1 h2⟩
 | _=>simp[jg]at e1
theorem jK(h:p7 d=cI i):d = .int i:=by cases d<;>simp[p7]at h;rw[h]
theorem Kn(h:inR i=cL) : -(2 ^ 62)<=i/\i<2 ^ 62:=by unfold inR at h;have h:=of_decide_eq_true h;omega
theorem cH(I:Gl X "range")(hm:X.mg "range" = cR)(ha:PV X a f)(hs:i6 [a] X.env=[(d7,f9 a X.env)]:=by rfl):o9 X tg (.Call (.Name "range" p) [a] [] pos) (jH f):=
 Ka (gu I hm (zP ha jJ hs) hs) λσ H R O=>by
  obtain⟨H0,γ,ds,rc,z,q⟩:=O;obtain⟨n,e1,z⟩:=zb z;obtain⟨d,Y,e1⟩:=zb e1;by_cases hn:inR n=cL
  ·rw[DZ hn]at z;cases z
   refine⟨H0,γ,d,rc,Y,λv H' eg x r=>?_⟩;rw[jK e1]at r;obtain⟨h1,h2⟩:=Kn hn;exact⟨n,by rw[show v = .int n from r],h1,h2,q _ H' eg x<|QK 0 n.toNat⟩
  ·rw[DJ hn]at z;cases z
theorem cG(Y:Gl X "range")(hm:X.mg "range" = cR)(ha:PV X a f)(hb:PV X b g)(hs:i6 [a,b] X.env=[(d7,f9 a X.env),(d7,f9 b X.env)]:=by rfl)(I:i6 [b] X.env=[(d7,f9 b X.env)]:=by rfl) :
 o9 X tg (.Call (.Name "range" p) [a,b] [] pos) (XU f g):=
 Ka (gr Y hm (zP ha (zP hb jJ I)<|by rw[hs,I]) hs I) λσ H R hZ=>by
  obtain⟨H0,γ,ds,rc,z,q⟩:=hZ;obtain⟨m,e1,z⟩:=zb z;obtain⟨d,e0,e1⟩:=zb e1;obtain⟨n,O,z⟩:=zb z;obtain⟨c,e2,O⟩:=zb O;by_cases hn:inR m=cL/\inR n=cL
  ·rw[DZ hn]at z;cases z
   refine⟨H0,γ,d,rc,e0,λv H' eg x r=>⟨eg,γ,c,rc.ext x,e2,λv2 H2 a3 x2 r2=>?_⟩⟩;rw[jK e1]at r;rw[jK O]at r2;obtain⟨h1,h2⟩:=Kn hn.1;obtain⟨h3,h4⟩:=Kn hn.2;exact⟨m,n,by rw[show v = .int m from r,show v2 = .int n from r2],⟨h1,h2,h3,h4⟩,q _ H2 a3 (x.trans x2)<|QK m (n - m).toNat⟩
  ·rw[DJ hn]at z;cases z
theorem fC{K:Nr}{H:Hp}{d:D}{v:V}{k:Sk}{ds:List D}(r:Rep K H d v)(e:jg d=cI (k,ds)) : ∃a xs,v = .ref a/\r6 k K H a xs/\f6 K H ds xs:=by
 cases d with
 | tup fs=>simp[jg]at e;obtain⟨e1,e2⟩:=e;subst e1 e2;exact r
 | lst fs=>simp[jg]at e;obtain⟨e1,e2⟩:=e;subst e1 e2;exact r
 | _=>simp[jg]at e
theorem uF{f g:CO D}{elts:List f7}{x1:Nat}{sX:kr}(hg:Gl X "zip")(hm:X.mg "zip" = cR)(ha:PV X a f)(hb:PV X b g)(hs:i6 [a,b] X.env=[(d7,f9 a X.env),(d7,f9 b X.env)]:=by rfl)(O:i6 [b] X.env=[(d7,f9 b X.env)]:=by rfl) :
 o9 X (.Tuple elts x1 sX) (.Call (.Name "zip" p) [a,b] [] pos) (rC f g):=
 Ka (CH hg hm (zP ha (zP hb jJ O)<|by rw[hs,O]) PyProof.Rows.boot_zip hs O) λσ H R hZ=>by obtain⟨H0,γ,ds,rc,z,q⟩:=hZ;obtain⟨⟨k1,m⟩,e1,z⟩:=zb z;obtain⟨d,e0,e1⟩:=zb e1;obtain⟨⟨k2,n⟩,Y,z⟩:=zv z;obtain⟨c,e2,Y⟩:=zb Y;subst z;refine⟨H0,γ,d,rc,e0,λv H' eg x r=>⟨eg,γ,c,rc.ext x,e2,λv2 H2 a9 I r2=>?_⟩⟩;obtain⟨a1,xs,rfl,g1,g2⟩:=fC (r.mono I.s0) e1;obtain⟨a2,ys,rfl,g3,g4⟩:=fC r2 Y;exact⟨k1,k2,a1,a2,rfl,⟨xs,Ye I.sub g1⟩,⟨ys,Ye I.sub g3⟩,q _ H2 a9 (x.trans I)<|mC g1 g2 g3 g4⟩
end
def QS:List Nat->List V->St->St
 | i::is,v::vs,σ=>QS is vs<|σ.set i<|some v
 | _,_,σ=>σ
def gs:List Nat->Im
 | []=>LH
 | i::is=>EY (ye i)<|gs is
def xk(K:Nr):Tg->TG
 | .nm i=>ye i
 | .tp is=>LG K is.length<|gs is
theorem V3 : ∀{is:List Nat} {vs:List V} {σ:St} {H:Hp} {Q:St->Hp->Prop},vs.length=is.length->Q (QS is vs σ) H->gs is vs σ H Q
 | [],[],_,_,_,_,q=>⟨rfl,q⟩
 | i::is,v::vs,σ,H,Q,hl,q=>⟨v,vs,rfl,V3 (by simpa using hl) q⟩
 | [],_::_,_,_,_,hl,_=>by simp at hl
 | _::_,[],_,_,_,hl,_=>by simp at hl
theorem RS.IG{K:Nr}{E0 E H0 H:Hp} : ∀{is:List Nat} {ds:List D} {vs:List V} {σ:St} {γ:Ctx},RS K E0 E H0 H σ γ->f6 K H0 ds vs->RS K E0 E H0 H (QS is vs σ) (qi is ds γ)
 | [],ds,vs,σ,γ,r,h=>by cases ds<;>cases vs<;>exact r
 | i::is,[],vs,σ,γ,r,h=>by rw[h.zr];exact r
 | i::is,d::ds,vs,σ,γ,r,h=>by obtain⟨x,t,e,h1,h2⟩:=h.u0;subst e;show RS K E0 E H0 H (DL.QS is t<|σ.set i<|some x) (qi is ds<|γ.set i<|.val d);exact RS.IG (r.Dm h1) h2
theorem RC.IG{K:Nr}{H0 H:Hp} : ∀{is:List Nat} {ds:List D} {vs:List V} {σ:St} {γ:Ctx},RC K H0 H σ γ->f6 K H0 ds vs->RC K H0 H (QS is vs σ) (qi is ds γ)
 | [],ds,vs,σ,γ,r,h=>by cases ds<;>cases vs<;>exact r
 | i::is,[],vs,σ,γ,r,h=>by rw[h.zr];exact r
 | i::is,d::ds,vs,σ,γ,r,h=>by obtain⟨x,t,e,h1,h2⟩:=h.u0;subst e;show RC K H0 H (DL.QS is t<|σ.set i<|some x) (qi is ds<|γ.set i<|.val d);exact RC.IG (r.Dm h1) h2
theorem we{K:Nr}{H0 H:Hp}{T:Tg}{d:D}{v:V}{σ:St}{γ γ1:Ctx}{Q:St->Hp->Prop}(s:js H0 H)(h:Rep K H0 d v)(e:qm T d γ=cI γ1)
 (q : ∀z,(RC K H0 H σ γ->RC K H0 H z γ1)->(∀E0 E,RS K E0 E H0 H σ γ->RS K E0 E H0 H z γ1)->Q z H):xk K T v σ H Q:=by
 cases T with
 | nm i=>cases e;exact q _ (λr=>r.Dm h) λE0 E r=>r.Dm h
 | tp is=>
  cases d with
  | tup ds=>
   simp only[qm]at e;by_cases I:ds.length=is.length
   ·rw[DZ I]at e;cases e
    obtain⟨a,xs,rfl,h1,h2⟩:=(show ∃a xs,v = .ref a/\k0 K H0 a xs/\f6 K H0 ds xs from h);have hx:xs.length=is.length:=by rw[h2.length,I]
    exact⟨a,xs,rfl,o5 s h1,hx,V3 hx<|q _ (λr=>r.IG h2) λE0 E r=>r.IG h2⟩
   ·rw[DJ I]at e;cases e
  | _=>simp[qm]at e
theorem Ext.rebase{E0 E z H0 H B:Hp}(e:Ext E0 E z B)(x:Ext z E H0 H):Ext E0 E H0 H:=
 ⟨e.s0.trans x.s0,x.s1,x.sub,λa h1 h2=>x.new a (e.new a h1 h2) h2⟩
theorem Ext.base{E0 E z B:Hp}(e:Ext E0 E z B):Ext z E z B:=⟨js.refl _,e.s1,e.sub,λa h _=>h⟩
theorem Sat.rebase{K:Nr}{E0 E I B:Hp}{D:Ends}{z:Fl}(e:Ext E0 E I B)(h:Sat K E0 E D z):Sat K I E D z:=by
 cases z with
 | next γ=>exact λσ H H0 r=>h σ H H0 ⟨r.rc,e.rebase r.ext,r.fresh,r.Dh⟩
 | brk γ=>exact λσ H H0 r=>h σ H H0 ⟨r.rc,e.rebase r.ext,r.fresh,r.Dh⟩
 | cont γ=>exact λσ H H0 r=>h σ H H0 ⟨r.rc,e.rebase r.ext,r.fresh,r.Dh⟩
 | ret r=>
  cases r with
  | val d=>exact λv H H0 x q=>h v H H0 (e.rebase x) q
  | own es=>exact λa xs H H0 x h1 h2 O q=>h a xs H H0 (e.rebase x) h1 h2 O q
section
variable{X:Cx}{tg iter:f7}{body:List m5}{pos:kr}
theorem ux{src:CO (List D)}{T:Tg}{F:CO Fl}(hp:G9 (gv X.prog X.w) X.A X.env X.xe)(hc:X.calm=cL)(hi:o9 X tg iter src)(hg:PG X tg (xk X.K T))(hb:bB X body F)
 (hs : ∀x,zl iter X.env x=pure x:=by intro _;rfl):tr X (.For tg iter body [] pos) (J3 src T F):=
 xi (gf hp hc hi hg hb hs) λD σ H hZ=>by
  obtain⟨E0,E,H0,γ,I,rs,z,Y⟩:=hZ;obtain⟨ds,e1,z⟩:=zb z;refine⟨H0,γ,ds,rs.rc,e1,λJ H1 O x1 wk=>?_⟩;have E9:=rs.step x1;have ex:=E9.ext;refine⟨λi m σ H=>m=ds.length - i/\i<=ds.length/\∃H0 γ I,RS X.K O E H0 H σ γ/\xl T F (ds.drop i) γ=cI I/\Sat X.K O E D I,⟨_,rfl,Pf _,O,γ,I,⟨E9.rc,ex.base,E9.fresh,E9.Dh⟩,z,Y.rebase ex⟩,?_⟩;rintro i m σ H ⟨rfl,hi,H0,γ,I,rs,z,Y⟩;have a2:js O H:=rs.ext.s0.trans rs.ext.sub;by_cases a0:i<ds.length
  ·refine .inr ⟨wk.go i H a2 a0,λσ H=>i+1<=ds.length/\∃H0 γ I,RS X.K O E H0 H σ γ/\xl T F (ds.drop<|i+1) γ=cI I/\Sat X.K O E D I,λi9 H' n=>⟨ds.length - (i+1),by omega,rfl,n.1,n.2⟩,λx H' y=>?_⟩
   obtain⟨d,hd,hx⟩:=wk.DP i H x H' a2 a0 y;obtain⟨G0,xg,rg⟩:=hx H0 rs.ext.s0 rs.rc.sub;have ab:ds.drop i=d::ds.drop (i+1):=by
    have ac:d=ds[i]:=by rw[Nw a0]at hd;exact(Oj hd).symm
    rw[ac];exact Sm a0
   rw[ab]at z;simp only[xl]at z;obtain⟨γ1,eb,z⟩:=zb z;obtain⟨f1,eF,z⟩:=zb z;refine we xg.sub rg eb λFA _ ak=>⟨O,E,G0,γ1,f1,ak O E<|rs.step xg,eF,?_⟩;cases f1 with
   | next O4=>exact λDR H2 a3 r2=>⟨a0,a3,O4,I,r2,z,Y⟩
   | cont O4=>exact λDR H2 a3 r2=>⟨a0,a3,O4,I,r2,z,Y⟩
   | brk O4=>cases z;exact Y
   | ret r=>cases z;cases r<;>exact Y
  ·have e:i=ds.length:=by omega
   subst e;rw[TK]at z;cases z;exact .inl ⟨wk.stop H a2,Y σ H H0 rs⟩
end
theorem qw(h:(jA n fr γ)[i]? = cI c):c = .no\/(∃d j,c = .val d/\n<=i/\fr[i - n]? = cI j/\γ[j]? = cI (.val d)):=by
 unfold jA at h;by_cases hi:i<n
 ·rw[Oi (by simpa using hi),P6,DZ hi]at h
  exact .inl (Oj h).symm
 ·rw[Dt (by simpa using hi),NT,List.length_replicate]at h
  cases e:fr[i - n]? with
  | none=>rw[e]at h;cases h
  | some j=>
   rw[e]at h;have h':qM (γ[j]?.getD .no)=c:=by simpa using h
   cases e2:γ[j]? with
   | none=>rw[e2]at h';exact .inl h'.symm
   | some c'=>
    rw[e2]at h';cases c' with
    | no=>exact .inl h'.symm
    | own ds=>exact .inl h'.symm
    | nest rows=>exact .inl h'.symm
    | val d=>exact .inr ⟨d,j,h'.symm,by omega,rfl,e2⟩
theorem RC.pull{K:Nr}{H0 H:Hp}{σ:St}{γ:Ctx}{own:List Str}{fr:List (Str×Nat)}(r:RC K H0 H σ γ):RC K H0 H (L2.nG own fr σ) (jA own.length (fr.map (·.2)) γ):=by
 refine⟨r.sub,by simp[L2.nG,jA],λi d h=>?_,λi ds h=>?_,λi j a ds es h _ _ _=>?_,z0.LQ λi rows h=>?_⟩
 ·rcases qw h with z | ⟨d',j,z,hi,I,O⟩
  ·cases z
  ·cases z
   obtain⟨v,h1,h2⟩:=r.val j d O;refine⟨v,?_,h2⟩;rw[NT]at I;cases q:fr[i - own.length]? with
   | none=>rw[q]at I;cases I
   | some p=>
    rw[q]at I;have Y:p.2=j:=by simpa using I
    unfold L2.nG;rw[Dt (by simpa using hi),NT,NV,q];simp[Y,h1]
 ·rcases qw h with z | ⟨d',j,z,_⟩<;>cases z
 ·rcases qw h with z | ⟨d',j,z,_⟩<;>cases z
 ·rcases qw h with z | ⟨d',j,z,_⟩<;>cases z
theorem RC.weak{K:Nr}{H0 H:Hp}{σ:St}{γ γ':Ctx}(r:RC K H0 H σ γ)(I:γ'.length=γ.length)(O : ∀(i:Nat) d,γ'[i]? = cI (.val d)->γ[i]? = cI (.val d))(z : ∀(i:Nat) ds,γ'[i]? ≠ cI (.own ds))(Y : ∀(i:Nat) rows,γ'[i]? ≠ cI (.nest rows)):RC K H0 H σ γ':=
 ⟨r.sub,by rw[I];exact r.len,λi d h=>r.val i d<|O i d h,λi ds h=>absurd h<|z i ds,λi j a ds es h _ _ _=>absurd h<|z i ds,z0.LQ Y⟩
theorem RC.upd{K:Nr}{H0 H:Hp}{σ:St}{γ:Ctx}{D:d8}{o:HO}(r:RC K H0 H σ γ)(h0:H0 D=cR)(I : ∀(i:Nat) ds,γ[i]? ≠ cI (.own ds))(O : ∀(i:Nat) rows,γ[i]? ≠ cI (.nest rows)):RC K H0 (upd H D o) σ γ:=
 ⟨λb u q=>by rw[zH (λz=>by rw[z,h0]at q;cases q)];exact r.sub b u q,r.len,r.val,λi ds h=>absurd h<|I i ds,λi j a ds es h _ _ _=>absurd h<|I i ds,z0.LQ O⟩
theorem ZT : ∀{is:List Nat} {ds:List D} {γ:Ctx},(qi is ds γ).length=γ.length
 | [],ds,γ=>by cases ds<;>rfl
 | i::is,[],γ=>rfl
 | i::is,d::ds,γ=>by show(qi is ds<|γ.set i<|.val d).length=_;rw[ZT];simp
theorem ZU : ∀{is:List Nat} {ds:List D} {γ:Ctx} {i:Nat},i∉is->(qi is ds γ)[i]? = γ[i]?
 | [],ds,γ,i,_=>by cases ds<;>rfl
 | j::is,[],γ,i,_=>rfl
 | j::is,d::ds,γ,i,h=>by show(qi is ds<|γ.set j<|.val d)[i]? = _;rw[ZU (λz=>h<|NN _ z),NH (λz=>h<|by rw[<- z];exact NL)]
theorem Va(h:qm T d γ=cI γ1):γ1.length=γ.length/\∀i,i∉T.idx->γ1[i]? = γ[i]? :=by
 cases T with
 | nm j=>cases h;exact⟨by simp,λi hi=>NH<|λz=>hi<|by simp[Tg.idx,z]⟩
 | tp is=>
  cases d with
  | tup ds=>
   simp only[qm]at h;by_cases I:ds.length=is.length
   ·rw[DZ I]at h;cases h;exact⟨ZT,λi hi=>ZU hi⟩
   ·rw[DJ I]at h;cases h
  | _=>simp[qm]at h
section
variable{K:Nr}{own:List Str}{fr:List (Str×Nat)}{src:CO (List D)}{T:Tg}{k:CO Bool}{f:CO D}
theorem v9(hT : ∀i∈T.idx,i<own.length)(bv : ∀σ H Q,tT K k σ H Q->tt σ H Q) : ∀σ H Q,tO K (zT src T own.length (fr.map (·.2)) k f) σ H Q->eZ (n_ K src) own fr (xk K T) tt (tV K f) σ H Q:=λσ H Q hZ=>by
 obtain⟨H0,γ,ds,rc,Y,q⟩:=hZ;obtain⟨items,e1,Y⟩:=zb Y;by_cases hl:items.length<=lim
 ·rw[DZ hl]at Y
  refine⟨H0,γ,items,rc,e1,λJ H1 a8 x1 wk D hD=>?_⟩;have a9 : ∀(i:Nat) es,(jA own.length (fr.map (·.2)) γ)[i]? ≠ cI (.own es):=λi es h=>by rcases qw h with z | ⟨d',j,z,_⟩<;>cases z
  have aa : ∀(i:Nat) rows,(jA own.length (fr.map (·.2)) γ)[i]? ≠ cI (.nest rows):=λi es h=>by rcases qw h with z | ⟨d',j,z,_⟩<;>cases z
  have ap:a8 D=cR:=jq x1.sub hD;have c0:H D=cR:=by
   cases z:H D with
   | none=>rfl
   | some o=>rw[x1.s1 D o z]at hD;cases hD
  refine⟨λi m ys i9 H'=>m=items.length - i/\i<=items.length/\ys.length<=i/\H' D=cI (.lst ys)/\∃eg a3 a5,RC K eg H' i9 (jA own.length (fr.map (·.2)) γ)/\eg D=cR/\Ext a8 H1 eg H'/\f6 K eg a3 ys/\z7 T k f (jA own.length (fr.map (·.2)) γ) (items.drop i)=cI a5/\ds=a3++a5,
   ⟨_,rfl,Pf _,NJ _,zC,a8,[],ds,((rc.ext x1).pull).upd ap a9 aa,ap,Ext.hide x1.sub hD _,f6.nil,Y,rfl⟩,?_⟩
  rintro i m ys i9 H' ⟨rfl,hi,hy,a6,eg,a3,a5,ab,ar,x',r',I,rfl⟩;refine⟨a6,?_⟩;by_cases a1:i<items.length
  ·refine .inr ⟨wk.go i H' x'.s1 a1,?_,λx ac y=>?_⟩
   ·have:=yc<|NJ lim;omega
   obtain⟨d,hd,hx⟩:=wk.DP i H' x ac x'.s1 a1 y;obtain⟨G0,O,rg⟩:=hx eg x'.s0 ab.sub;have c2:items.drop i=d::items.drop (i+1):=by
    have c3:d=items[i]:=by rw[Nw a1]at hd;exact(Oj hd).symm
    rw[c3];exact Sm a1
   rw[c2]at I;simp only[z7]at I;obtain⟨γ1,eb,I⟩:=zb I;obtain⟨b,ek,I⟩:=zb I;have c5:G0 D=cR:=O.new D ar (by rw[a6];simp);have ax:ac D=cI (.lst ys):=O.s1 _ _ a6;obtain⟨bl,bg⟩:=Va eb;have b0 : ∀{DR:St} {G2 H2:Hp},RC K G2 H2 DR γ1->RC K G2 H2 DR (jA own.length (fr.map (·.2)) γ):=λr=>r.weak bl.symm (λj d' hj=>by
    by_cases hm:j∈T.idx
    ·rcases qw hj with z | ⟨d2,j2,_,hn,_⟩
     ·cases z
     ·exact absurd (hT j hm) ⋯
    ·rw[bg j hm];exact hj) a9 aa
   refine we O.sub rg eb λFA bd _=>bv FA ac _ ⟨G0,γ1,b,bd<|ab.ext O,ek,λH3 ae x3=>?_⟩;have ag:=(bd<|ab.ext O).ext x3;have xa:=x'.trans<|O.trans x3;have bi:ae D=cR:=x3.new D c5 (by rw[ax];simp);have ak:H3 D=cI (.lst ys):=x3.s1 _ _ ax;cases b with
   | true=>
    dsimp only;rw[DZ rfl]at I ⊢;obtain⟨e,ee,I⟩:=zb I;obtain⟨xD,er,I⟩:=zv I;refine⟨ae,γ1,e,ag,ee,λv H4 bm x4 r4=>?_⟩;have am:bm D=cR:=x4.new D bi (by rw[ak];simp);have cf:H4 D=cI (.lst ys):=x4.s1 _ _ ak;have xb:=xa.trans x4;refine⟨cf,items.length - (i+1),by omega,rfl,a1,by rw[Ol,Rv];omega,zC,bm,a3++[e],xD,(b0<|ag.ext x4).upd am a9 aa,am,?_,(r'.mono<|(O.trans<|x3.trans x4).s0).append (f6.cons r4 f6.nil),er,?_⟩
    ·exact⟨xb.s0,λc o z=>by rw[zH (λw=>by rw[w,hD]at z;cases z)];exact xb.s1 c o z,λc o z=>by rw[zH (λw=>by rw[w,am]at z;cases z)];exact xb.sub c o z,xb.new⟩
    ·rw[<- I];simp
   | false=>
    dsimp only;rw[DJ NM]at I ⊢;exact⟨items.length - (i+1),by omega,rfl,a1,by omega,ak,ae,a3,a5,b0 ag,bi,xa,r'.mono<|(O.trans x3).s0,I,rfl⟩
  ·have e:i=items.length:=by omega
   subst e;rw[TK]at I;cases I;rw[PH]at q;exact .inl ⟨wk.stop H' x'.s1,q D ys H' eg (x1.trans x') c0 ar a6 r'⟩
 ·rw[DJ hl]at Y;cases Y
end
section
variable{X:Cx}{scope:mu}{own:List Str}{fr:List (Str×Nat)}{elt tg iter c:f7}{pos:kr}{src:CO (List D)}{T:Tg}{k:CO Bool}{f:CO D}
theorem uD(z:X.calm=cL)(ok:Br X scope fr)(I : ∀i∈T.idx,i<own.length)(hi:B6 X tg iter src)(O : ∀fp s2 H2,PG (ju X scope (own++fr.map (·.1)) fp s2 H2) tg<|xk X.K T)
 (Y : ∀fp s2 H2,PV (ju X scope (own++fr.map (·.1)) fp s2 H2) elt f) (hs : ∀x,zl iter X.env x=pure x:=by intro _;rfl) :
 PO X (.ListComp elt [⟨tg,iter,[],0⟩] scope pos) (zT src T own.length (fr.map (·.2)) jS f):=
 j4 (Kb z ok hi O (λ_ _ _=>X8) Y hs) (v9 I λσ H Q ⟨H0,γ,b,rc,ef,q⟩=>by cases ef;exact q H H0<|Ext.refl rc.sub)
theorem gh(z:X.calm=cL)(ok:Br X scope fr)(I : ∀i∈T.idx,i<own.length)(hi:B6 X tg iter src)(O : ∀fp s2 H2,PG (ju X scope (own++fr.map (·.1)) fp s2 H2) tg<|xk X.K T)
 (hk : ∀fp s2 H2,s9 (ju X scope (own++fr.map (·.1)) fp s2 H2) c k) (Y : ∀fp s2 H2,PV (ju X scope (own++fr.map (·.1)) fp s2 H2) elt f) (hs : ∀x,zl iter X.env x=pure x:=by intro _;rfl) :
 PO X (.ListComp elt [⟨tg,iter,[c],0⟩] scope pos) (zT src T own.length (fr.map (·.2)) k f):=
 j4 (Kb z ok hi O (λfp s2 H2=>ah<|hk fp s2 H2) Y hs) (v9 I λσ H Q h=>h)
theorem nO(z:X.N.Nodup)(I:X.N[i]? = cI y)(O:Loc X.env.scope y)(Y:X.fn y=cL\/X.env.scope.names.lookup y=cI .local)
 (hc:X.calm=cL) (ok:Br X scope fr) (hT : ∀i∈T.idx,i<own.length) (hi:B6 X tg iter src) (hg : ∀fp s2 H2,PG (ju X scope (own++fr.map (·.1)) fp s2 H2) tg<|xk X.K T)
 (he : ∀fp s2 H2,PV (ju X scope (own++fr.map (·.1)) fp s2 H2) elt f) (hs : ∀x,zl iter X.env x=pure x:=by intro _;rfl) :
 PS X (.Assign [.Name y py] (.ListComp elt [⟨tg,iter,[],0⟩] scope pos) spos) (XQ (tO X.K<|zT src T own.length (fr.map (·.2)) jS f)<|ye i):=
 xi (QZ z I O Y hc ok hi hg (λ_ _ _=>X8) he hs) λD σ H h=>v9 hT (λσ H Q hZ=>by obtain⟨H0,γ,b,rc,ef,q⟩:=hZ;cases ef;exact q H H0<|Ext.refl rc.sub) σ H _ h
theorem cD(z:X.N.Nodup)(I:X.N[i]? = cI y)(O:Loc X.env.scope y)(Y:X.fn y=cL\/X.env.scope.names.lookup y=cI .local)
 (hc:X.calm=cL) (ok:Br X scope fr) (hT : ∀i∈T.idx,i<own.length) (hi:B6 X tg iter src) (hg : ∀fp s2 H2,PG (ju X scope (own++fr.map (·.1)) fp s2 H2) tg<|xk X.K T)
 (hk : ∀fp s2 H2,s9 (ju X scope (own++fr.map (·.1)) fp s2 H2) c k) (he : ∀fp s2 H2,PV (ju X scope (own++fr.map (·.1)) fp s2 H2) elt f) (hs : ∀x,zl iter X.env x=pure x:=by intro _;rfl) :
 PS X (.Assign [.Name y py] (.ListComp elt [⟨tg,iter,[c],0⟩] scope pos) spos) (XQ (tO X.K<|zT src T own.length (fr.map (·.2)) k f)<|ye i):=
 xi (QZ z I O Y hc ok hi hg (λfp s2 H2=>ah<|hk fp s2 H2) he hs) λD σ H h=>v9 hT (λσ H Q h=>h) σ H _ h
end
theorem jI{K:Nr}{H:Hp}{i:Int}{v:V}(h:Rep K H (.int i) v):v = .int i:=h
theorem mY{K:Nr}{g:Int->Int->D}{z:Int->Int->V}(O : ∀H i j,Rep K H (g i j)<|z i j):vv K (C2 z) (dI g):=λH0 H x y dx Y d Q s rx ry I q=>by cases dx<;>cases Y<;>simp[dI]at I;subst I;exact⟨_,_,jI rx,jI ry,q _ H H0 (Ext.refl s)<|O H0 _ _⟩
theorem fA{K:Nr}{C:Int->Int->Prop}{c:Int->Int->Bool}{g:Int->Int->D}{z:Int->Int->V}(O : ∀i j,c i j=cL->C i j)(Y : ∀H i j,Rep K H (g i j)<|z i j):vv K (rI C z) (Iv c g):=λH0 H x y dx dy d Q s rx ry I q=>by cases dx<;>cases dy<;>simp[Iv]at I;obtain⟨e1,e2⟩:=I;subst e2;exact⟨_,_,jI rx,jI ry,O _ _ e1,q _ H H0 (Ext.refl s)<|Y H0 _ _⟩
theorem tM{K:Nr}:vv K (C2 λi j=> .int (i - j)) yN:=mY λ_ _ _=>rfl
theorem pM(h:JV i j=cL):G6 i j:=by unfold JV at h;rw[OZ,decide_eq_true_eq,decide_eq_true_eq]at h;unfold G6;omega
theorem tZ{K:Nr}:vv K (rI Mo λi j=> .int (i/j)) KU:=fA (λi j h=>by unfold pN at h;rw[NI,decide_eq_true_eq,decide_eq_true_eq]at h;exact⟨h.1,by omega⟩) λ_ _ _=>rfl
theorem tX{K:Nr}:vv K (rI (λ_ j=>0<j) λi j=> .int (i%j)) x6:=fA (λi j h=>by unfold me at h;exact of_decide_eq_true h) λ_ _ _=>rfl
theorem tP{K:Nr}:vv K (rI Mn λi j=> .int (i ^ j.toNat)) AH:=fA (λi j h=>by unfold Fv at h;rw[NI,NI,decide_eq_true_eq,decide_eq_true_eq,decide_eq_true_eq]at h;exact⟨h.1.1,by omega,h.2⟩) λ_ _ _=>rfl
theorem fz{K:Nr}:vv K (C2 λi j=> .bl (decide<|i<j)) B8:=mY λ_ _ _=>rfl
theorem QP{K:Nr}:vv K (C2 λi j=> .bl (decide<|i<=j)) A6:=mY λ_ _ _=>rfl
theorem rA{K:Nr}:vv K (C2 λi j=> .bl (decide<|j<i)) yJ:=mY λ_ _ _=>rfl
section
variable{X:Cx}
def rJ(K:Nr):R2:=λx y H Q=>∃a b xs ys,x = .ref a/\y = .ref b/\k0 K H a xs/\k0 K H b ys/\xs.length+ys.length<=kv/\
 (xs=[]->Q (.ref b) H)/\(ys=[]->Q (.ref a) H)/\∀p,H p=cR->Q (.ref p) (upd H p<|.tup<|xs++ys)
theorem oj:n4 X (Df .Add) (rJ X.K):=by
 intro pins s σ H x y v u Q I rx ry h;obtain⟨a,b,xs,ys,rfl,rfl,ha,hb,hz,q0,q1,q2⟩:=h;cases rx;cases ry;obtain⟨O,r,ht,z1⟩:=I.tuple ha;obtain⟨ab,r2,a1,z2⟩:=I.tuple hb;by_cases Y:xs=[]
 ·have e1:O=[]:=(r.M8).mpr Y
  obtain⟨⟨cls,dd,data,sl⟩,ho,hc,n,hd⟩:=id ht;obtain⟨⟨ak,ae,data2,ag⟩,a4,a5,n2,a6⟩:=id a1;simp only at hc hd a5 a6;subst hc hd a5 a6;exact D' ⟨_,ho,rfl⟩ ⟨_,a4,rfl⟩ _C _m Tt Tq (Tb _ _)
   (tuple_addW0 a b O.toArray ab.toArray n n2 dd ae sl ag<|by simp[e1]) ⟨ho,a4,⟨.ref b,H,I,rfl,q0 Y⟩⟩
 ·have e1:O ≠ []:=λz=>Y ((r.M8).mp z)
  refine HT.IB ht a1 e1 (λz=>⟨.ref a,H,I,rfl,q1<|(r2.M8).mp z⟩) (λ_=>?_) (by rw[<- r.length,<- r2.length];exact hz);refine⟨.ref s.heap.objs.size,_,I.laid (t':=s.toks) (o:= .tup (xs++ys)) (λc ob q=>Nv _ q) (NJ _) ?_,rfl,q2 _<|I.i7.fresh<|NJ _⟩;exact⟨by rw[Ol];exact hz,_,r.append r2,DC.new _ _⟩
def Cj(K:Nr):R2:=λx y H Q=>∃l b xs zs,x = .ref l/\y = .ref b/\lK K H l xs/\lK K H b zs/\xs.length+zs.length<=kv/\∀p,H p=cR->Q (.ref p) (upd H p<|.lst<|xs++zs)
theorem om:n4 X (Df .Add) (Cj X.K):=by
 intro pins s σ H x y v u Q I rx ry h;obtain⟨l,b,xs,zs,rfl,rfl,hH,hB,hz,q⟩:=h;cases rx;cases ry;obtain⟨z,r,⟨o,n,e,Y,c2,c3⟩,z1⟩:=I.list hH;obtain⟨O,r2,⟨o2,n2,e2,d1,d2,d3⟩,z2⟩:=I.list hB;have l1:=r.length;have l2:=r2.length;obtain⟨cls,n0,dt,sl⟩:=o;obtain⟨ag,ak,am,a9⟩:=o2;simp only at Y c2 c3 d1 d2 d3;subst Y c2 c3 d1 d2 d3;have aa:EP X pins σ Q (.ref s.heap.objs.size) {s with heap:=s.heap.push {cls:= .type "list",data:= .seq (z++O).toArray}}:=
  ⟨.ref _,_,I.B? (t':=s.toks) (r.append r2) (by rw[Ol];omega),rfl,q _ I.fresh⟩
 have ea:z.toArray++O.toArray=(z++O).toArray:=by simp
 refine D' ⟨_,e,rfl⟩ ⟨_,e2,rfl⟩ noFill_list_add seq_list_add PySem.F.slot_list_add PySem.F.entry_list_add (PySem.F.args_list_add_2 _ _)
  (list_addW l b z.toArray O.toArray n n2 cR cR sl a9<|by rw[NK,NK];omega) ⟨e,e2,?_⟩
 rw[ea];exact aa
end
def k7(scope sc:mu):mu:={scope with names:=scope.names.map λp=>if p.2==Om && sc.kind == .function && sc.names.lookup p.1==cI .cell then (p.1,RE)else (p.1,p.2)}
theorem ck(scope:mu)(env:u5):Dy scope env=k7 scope env.scope:=by unfold Dy k7;rfl
structure SX(X:Cx)(sc:mu)(N T:List Str)(k:Nat):Prop where
 Iy:X.env.scope=sc
 eN:X.N=N
 nd:N.Nodup
 calm:X.calm=cL
 room:t6 k X.A
 fn : ∀x∈T,X.fn x=cL\/sc.names.lookup x=cI .local
def JZ(sc:mu)(N:List Str)(i:Nat)(x:Str):Bool:=
 decide (N[i]? = cI x) && (decide (sc.names.lookup x=cI .local) || decide (sc.names.lookup x=cI .cell) || decide (sc.names.lookup x=cI .free)) && !(x==("__debug__" : Str)) && !(x==("__classdict__" : Str))
def yx(sc:mu)(N T:List Str)(i:Nat)(x:Str):Bool:=decide (x∈T) && decide (N[i]? = cI x) && (decide (sc.names.lookup x=cI .local) || decide (sc.names.lookup x=cI .cell))
def yZ(sc:mu)(x:Str):Bool:=decide (sc.names.lookup x=cI .globalImplicit) && !(x==("__name__" : Str)) && !(x==("__debug__" : Str))
section
variable{X:Cx}{sc:mu}{N T:List Str}{k:Nat}{i:Nat}{x:Str}{pos:kr}
theorem SX.var(h:SX X sc N T k)(c:JZ sc N i x=cL):PE X (.Name x pos) (wC i):=by
 unfold JZ at c;simp only[NI,OZ,decide_eq_true_eq,SI]at c;obtain⟨⟨⟨h1,h2⟩,z⟩,I⟩:=c;refine CK (by rw[h.eN];exact h1) ?_ z I;unfold R0;rw[h.Iy];rcases h2 with(h2 | h2) | h2
 ·exact .inl h2
 ·exact .inr<|.inl h2
 ·exact .inr<|.inr h2
theorem SX.loc(h:SX X sc N T k)(c:yx sc N T i x=cL):X.N[i]? = cI x/\L2.Loc X.env.scope x/\(X.fn x=cL\/X.env.scope.names.lookup x=cI .local):=by
 unfold yx at c;simp only[NI,OZ,decide_eq_true_eq]at c;refine⟨by rw[h.eN];exact c.1.2,?_,?_⟩
 ·unfold L2.Loc;rw[h.Iy];exact c.2
 ·rw[h.Iy];exact h.fn x c.1.1
theorem SX.M6(h:SX X sc N T k):X.N.Nodup:=by rw[h.eN];exact h.nd
theorem SX.wx(h:SX X sc N T k)(i:Nat)(c:yx sc N T i x=cL):PG X (.Name x pos) (ye i):=by obtain⟨h1,h2,z⟩:=h.loc c;exact gw h.M6 h1 h2 z
theorem SX.F6(h:SX X sc N T k)(g:IV X es (gs is))(hn:(DE es X.env).length=is.length:=by rfl)(z:(DE es X.env).findIdx? (·.1)=cR:=by rfl):PG X (.Tuple es j pos) (xk X.K<|.tp is):=
 CI h.calm g hn z
theorem SX.set(h:SX X sc N T k)(i:Nat)(c:yx sc N T i x=cL)(z:PE X e te)(hs:A8 e (cI (.Name x pos')) pos.line X.env=pure d7:=by rfl):PS X (.Assign [.Name x pos'] e pos) (XQ te<|ye i):=by obtain⟨h1,h2,I⟩:=h.loc c;exact CA h.M6 h1 h2 z hs I
theorem SX.gl(h:SX X sc N T k)(c:yZ sc x=cL):Gl X x/\x ≠ "__name__"/\(x==("__debug__" : Str))=d7:=by
 unfold yZ at c;simp only[NI,decide_eq_true_eq,SI]at c;refine⟨?_,?_,c.2⟩
 ·show X.env.scope.names.lookup x=_
  rw[h.Iy];exact c.1.1
 ·intro e;rw[e]at c;simp at c
def Wf(sc scope:mu)(N:List Str)(fr:List (Str×Nat)):Bool:=
 decide (scope.kind = .function) && decide ((scope.names.map (·.1)).Nodup) && scope.names.all (λp=> !(p.2==Om) || decide (sc.names.lookup p.1=cI .cell) || decide (sc.names.lookup p.1=cI .free)) &&
 fr.all λp=>decide (scope.names.lookup p.1=cI .free) && decide (N[p.2]? = cI p.1)
def Hi(own:List Str)(scope:mu)(fr:List (Str×Nat)):Bool:=decide ((own++fr.map (·.1)).Nodup) && own.all (λx=>decide (scope.names.lookup x=cI .local) || decide (scope.names.lookup x=cI .cell))
theorem SX.Q_(h:SX X sc N T k)(c:Wf sc scope N fr=cL):Br X scope fr:=by
 unfold Wf at c;simp only[NI,decide_eq_true_eq,OA,OZ,SI]at c;obtain⟨⟨⟨O,Y⟩,c3⟩,I⟩:=c;refine⟨O,Y,λp z hk=>?_,λp z=>⟨(I p z).1,by rw[h.eN];exact(I p z).2⟩⟩;have e:X.env.kindOf p.1=sc.names.lookup p.1:=by show X.env.scope.names.lookup p.1=_;rw[h.Iy]
 rw[e];rcases c3 p z with(q | q) | q
 ·rw[hk]at q;exact absurd q ⋯
 ·exact .inl q
 ·exact .inr q
theorem Jr(scope sc:mu)(x:Str):(k7 scope sc).names.lookup x=(scope.names.lookup x).map λk=>if (k==Om && sc.kind == .function && sc.names.lookup x==cI .cell)then RE else k:=by
 unfold k7;dsimp only;generalize scope.names=l
 induction l with
 | nil=>rfl
 | cons p r I=>
  obtain⟨n,O⟩:=p;rw[NY];cases hx:x==n with
  | true=>
   have e:x=n:=by simpa using hx
   subst e;dsimp only;split
   ·rename_i z;rw[OV,OV,beq_self_eq_true];dsimp only[SQ];rw[DZ z]
   ·rename_i z;rw[OV,OV,beq_self_eq_true];dsimp only[SQ];rw[DJ z]
  | false=>
   dsimp only;split
   ·rw[OV,OV,hx];exact I
   ·rw[OV,OV,hx];exact I
theorem SX.comp(h:SX X sc N T k)(c:Hi own scope fr=cL) :
 SX (ju X scope (own++fr.map (·.1)) fp s2 H2) (k7 scope sc) (own++fr.map (·.1)) own k:=by
 unfold Hi at c;simp only[NI,decide_eq_true_eq,OA,OZ]at c;refine⟨?_,rfl,c.1,h.calm,h.room,λx hx=>?_⟩
 ·show Dy scope X.env=_
  rw[ck,h.Iy]
 ·rcases c.2 x hx with q | q
  ·right;rw[Jr,q];rfl
  ·left
   show(scope.names.lookup x==cI .cell)=cL;rw[q];rfl
theorem SX.cq(h:SX X sc N T k)(own:List Str)(fr:List (Str×Nat))(fp:List d8)(s2:gx)(H2:Hp)(c:Hi own scope fr=cL) :
 SX (ju X scope (own++fr.map (·.1)) fp s2 H2) (k7 scope sc) (own++fr.map (·.1)) own k:=h.comp c
end
mutual
def o6:D->PyData
 | .i5=> .none
 | .bl b=> .bool b
 | .int i=> .int i
 | .str x=> .str x
 | .tup ds=> .tuple (x8 ds)
 | .lst ds=> .list (x8 ds)
 | .sh _ _=> .none
 | .n0 _ _=> .none
def x8:List D->List PyData
 | []=>[]
 | d::ds=>o6 d::x8 ds
end
theorem E8(h:vb (.sh ks vs)=cL):False:=by simp[vb]at h
theorem E7(h:vb (.n0 ks vs)=cL):False:=by simp[vb]at h
mutual
theorem Md : ∀x y:D,vb x=cL->vb y=cL->RL (o6 x) (o6 y)=n6 x y
 | .i5,y,_,h=>by cases y<;>first | exact(E8 h).elim | exact(E7 h).elim | simp[o6,RL,n6]
 | .bl a,y,_,h=>by cases y<;>first | exact(E8 h).elim | exact(E7 h).elim | simp[o6,RL,n6]
 | .int a,y,_,h=>by cases y<;>first | exact(E8 h).elim | exact(E7 h).elim | simp[o6,RL,n6]
 | .str a,y,_,h=>by cases y<;>first | exact(E8 h).elim | exact(E7 h).elim | simp[o6,RL,n6]
 | .sh c n,y,h,_=>(E8 h).elim
 | .n0 c n,y,h,_=>(E7 h).elim
 | .tup xs,y,h1,h2=>by
  cases y with
  | tup ys=>simp only[vb]at h1 h2;simp only[o6,RL,n6];exact S7 xs ys h1 h2
  | sh c n=>exact(E8 h2).elim
  | n0 c n=>exact(E7 h2).elim
  | _=>simp[o6,RL,n6]
 | .lst xs,y,h1,h2=>by
  cases y with
  | lst ys=>simp only[vb]at h1 h2;simp only[o6,RL,n6];exact S7 xs ys h1 h2
  | sh c n=>exact(E8 h2).elim
  | n0 c n=>exact(E7 h2).elim
  | _=>simp[o6,RL,n6]
theorem S7 : ∀xs ys:List D,ve xs=cL->ve ys=cL->Uj (x8 xs) (x8 ys)=B9 xs ys
 | [],ys,_,_=>by cases ys<;>simp[x8,Uj,B9]
 | x::xs,ys,h1,h2=>by
  cases ys with
  | nil=>simp[x8,Uj,B9]
  | cons y ys=>
   simp only[ve,NI]at h1 h2;simp only[x8,Uj,B9];rw[Md x y h1.1 h2.1,S7 xs ys h1.2 h2.2]
end
mutual
theorem T8 : ∀x:D,vb x=cL->(o6 x).canLay0=cL
 | .i5,_=>by simp[o6,SE]
 | .bl a,_=>by simp[o6,SE]
 | .int a,_=>by simp[o6,SE]
 | .str a,h=>by simpa[o6,SE,vb,PyData.strOk]using h
 | .tup xs,h=>by simp only[vb]at h;simp only[o6,SE];exact MX xs h
 | .lst xs,h=>by simp only[vb]at h;simp only[o6,SE];exact MX xs h
 | .sh c n,h=>(E8 h).elim
 | .n0 c n,h=>(E7 h).elim
theorem MX : ∀xs:List D,ve xs=cL->Ux (x8 xs)=cL
 | [],_=>by simp[x8,Ux]
 | x::xs,h=>by simp only[ve,NI]at h;simp only[x8,Ux];rw[T8 x h.1,MX xs h.2];rfl
end
mutual
theorem S' : ∀x:D,(o6 x).depth=deep x
 | .i5=>by simp[o6,Sr,deep]
 | .bl a=>by simp[o6,Sr,deep]
 | .int a=>by simp[o6,Sr,deep]
 | .str a=>by simp[o6,Sr,deep]
 | .sh c n=>by simp[o6,Sr,deep]
 | .n0 c n=>by simp[o6,Sr,deep]
 | .tup xs=>by simp only[o6,Sr,deep];rw[S3 xs]
 | .lst xs=>by simp only[o6,Sr,deep];rw[S3 xs]
theorem S3 : ∀xs:List D,TN (x8 xs)=DH xs
 | []=>by simp[x8,TN,DH]
 | x::xs=>by simp only[x8,TN,DH];rw[S' x,S3 xs]
end
theorem xX(h:tu d=cL):vb d=cL:=by unfold tu at h;rw[NI]at h;exact h.2
theorem yB(h:tu d=cL):SeqAt.shaped (o6 d)=cL:=by unfold tu at h;rw[NI,decide_eq_true_eq]at h;unfold SeqAt.shaped;rw[T8 d h.2,Bool.true_and,S'];exact decide_eq_true ⋯
section
variable{X:Cx}{pins:TW}{σ:St}{H0 H:Hp}{s:gx}
mutual
theorem IF(I:Inv X pins σ H s)(sub:js H0 H) : ∀{d:D} {v:V} {u:fm},vb d=cL->Rep X.K H0 d v->RelV v u->∃z,Reads s.heap u (o6 d) z
 | .i5,v,u,_,h,r=>by cases (show v = .i5 from h);cases r;exact⟨_,.none⟩
 | .bl b,v,u,_,h,r=>by cases (show v = .bl b from h);cases r;exact⟨_,.bool b⟩
 | .int i,v,u,_,h,r=>by cases (show v = .int i from h);obtain⟨t,rfl⟩:=r;exact⟨_,.int i t⟩
 | .str x,v,u,_,h,r=>by cases (show v = .str x from h);obtain⟨t,rfl⟩:=r;exact⟨_,.str x t⟩
 | .sh c n,v,u,o,_,_=>(E8 o).elim
 | .n0 c n,v,u,o,_,_=>(E7 o).elim
 | .tup ds,v,u,o,h,r=>by obtain⟨a,xs,rfl,h1,h2⟩:=(show ∃a xs,v = .ref a/\k0 X.K H0 a xs/\f6 X.K H0 ds xs from h);cases r;simp only[vb]at o;obtain⟨a1,O,⟨ob,Y,hc,n,hd⟩,hz⟩:=I.tuple<|o5 sub h1;obtain⟨z,ra⟩:=Np I sub o h2 O;exact⟨z,.tuple Y hc hd<|by simpa using ra⟩
 | .lst ds,v,u,o,h,r=>by obtain⟨a,xs,rfl,h1,h2⟩:=(show ∃a xs,v = .ref a/\lK X.K H0 a xs/\f6 X.K H0 ds xs from h);cases r;simp only[vb]at o;obtain⟨a1,O,p,hz⟩:=I.list<|sub.seq h1;obtain⟨ob,Y,hc,n,hd⟩:=p.isList;obtain⟨z,ra⟩:=Np I sub o h2 O;exact⟨_,.list Y hc hd<|by simpa using ra⟩
theorem Np(I:Inv X pins σ H s)(sub:js H0 H) : ∀{ds:List D} {xs:List V} {us:List fm},ve ds=cL->f6 X.K H0 ds xs->i8 xs us->∃z,ReadsAll s.heap us (x8 ds) z
 | [],xs,us,_,h,r=>by rw[h.zr]at r;cases r;exact⟨_,.nil⟩
 | d::ds,xs,us,o,h,r=>by
  obtain⟨x,t,e,h1,h2⟩:=h.u0;subst e;simp only[ve,NI]at o;cases r with
  | cons O r2=>
   obtain⟨z,ra⟩:=IF I sub o.1 h1 O;obtain⟨bs,Y⟩:=Np I sub o.2 h2 r2;exact⟨_,.cons ra Y⟩
end
end
def Ly(K:Nr):R2:=λx y H Q=>∃H0 dx z,js H0 H/\Rep K H0 dx x/\Rep K H0 z y/\tu dx=cL/\tu z=cL/\Q (.bl<|n6 dx z) H
def Lw(K:Nr):R2:=λx y H Q=>∃H0 dx z,js H0 H/\Rep K H0 dx x/\Rep K H0 z y/\tu dx=cL/\tu z=cL/\Q (.bl<|!n6 dx z) H
theorem rT(Y:X.A.units+64<B7):n4 X (wW .Eq) (Ly X.K):=by intro pins s σ H x y v u Q I rx ry h;obtain⟨H0,dx,dy,sub,r1,r2,z,O,q⟩:=h;obtain⟨as,ra⟩:=IF I sub (xX z) r1 rx;obtain⟨bs,rb⟩:=IF I sub (xX O) r2 ry;exact eq_dataH ra rb (yB z) (yB O) Y ⟨.bl _,H,I,by rw[Md _ _ (xX z) (xX O)];rfl,q⟩
theorem CZ(Y:X.A.units+64<B7):n4 X (wW .NotEq) (Lw X.K):=by intro pins s σ H x y v u Q I rx ry h;obtain⟨H0,dx,dy,sub,r1,r2,z,O,q⟩:=h;obtain⟨as,ra⟩:=IF I sub (xX z) r1 rx;obtain⟨bs,rb⟩:=IF I sub (xX O) r2 ry;exact ne_dataH ra rb (yB z) (yB O) Y ⟨.bl _,H,I,by rw[Md _ _ (xX z) (xX O)];rfl,q⟩
theorem fB{K:Nr}:vv K (Ly K) kC:=λH0 H x y dx I d Q s rx O z q=>by
 unfold kC at z;split at z
 ·rename_i h;cases z;exact⟨H0,dx,I,s,rx,O,h.1,h.2,q _ H H0 (Ext.refl s) rfl⟩
 ·cases z
theorem tU{K:Nr}:vv K (Lw K) ow:=λH0 H x y dx I d Q s rx O z q=>by
 unfold ow at z;split at z
 ·rename_i h;cases z;exact⟨H0,dx,I,s,rx,O,h.1,h.2,q _ H H0 (Ext.refl s) rfl⟩
 ·cases z
theorem SX.F8(h:SX X sc N T k):X.A.units+64<B7:=by have:=h.room.un;omega
section
variable{X:Cx}{sc:mu}{N T:List Str}{k:Nat}{a b c:f7}{pos p:kr}{fa fb fc:CO D}
theorem qI(ha:PV X a fa)(hb:PV X b fb):PV X (.BinOp a .Sub b pos) (zw yN fa fb):=QX CV tM ha hb
theorem Zf(ha:PV X a fa)(hb:PV X b fb):PV X (.BinOp a .FloorDiv b pos) (zw KU fa fb):=QX uV tZ ha hb
theorem j8(ha:PV X a fa)(hb:PV X b fb):PV X (.BinOp a .Mod b pos) (zw x6 fa fb):=QX Ea tX ha hb
theorem fS(ha:PV X a fa)(hb:PV X b fb):PV X (.BinOp a .Pow b pos) (zw AH fa fb):=QX CY tP ha hb
theorem HC(ha:PV X a fa)(hb:PV X b fb):PV X (.Compare a [.Gt] [b] pos) (zw yJ fa fb):=rL Eb rA ha hb<|Xg b
theorem cv(h:SX X sc N T k)(ha:PV X a fa)(hb:PV X b fb):PV X (.Compare a [.Eq] [b] pos) (zw kC fa fb):=rL (rT h.F8) fB ha hb<|Xg b
theorem rM(ha:PV X a fa)(hb:PV X b fb):s9 X (.Compare a [.Lt] [b] pos) (sB<|zw B8 fa fb):=X4 uU fz ha hb<|Xg b
theorem QY(ha:PV X a fa)(hb:PV X b fb):s9 X (.Compare a [.Gt] [b] pos) (sB<|zw yJ fa fb):=X4 Eb rA ha hb<|Xg b
theorem qt(h:SX X sc N T k)(ha:PV X a fa)(hb:PV X b fb):s9 X (.Compare a [.Eq] [b] pos) (sB<|zw kC fa fb):=X4 (rT h.F8) fB ha hb<|Xg b
theorem kJ(h:SX X sc N T k)(ha:PV X a fa)(hb:PV X b fb):s9 X (.Compare a [.NotEq] [b] pos) (sB<|zw ow fa fb):=X4 (CZ h.F8) tU ha hb<|Xg b
theorem kZ{K:Nr}{H:Hp}{ds:List D}{v:V}(h:Rep K H (.tup ds) v) : ∃a xs,v = .ref a/\k0 K H a xs/\f6 K H ds xs:=h
theorem gS{K:Nr}{H:Hp}{ds:List D}{v:V}(h:Rep K H (.lst ds) v) : ∃a xs,v = .ref a/\lK K H a xs/\f6 K H ds xs:=h
theorem qO{K:Nr}{H:Hp}{ds:List D}{a:d8}{xs:List V}(h1:k0 K H a xs)(h2:f6 K H ds xs):Rep K H (.tup ds) (.ref a):=⟨a,xs,rfl,h1,h2⟩
theorem wI{K:Nr}{H:Hp}{ds:List D}{a:d8}{xs:List V}(h1:lK K H a xs)(h2:f6 K H ds xs):Rep K H (.lst ds) (.ref a):=⟨a,xs,rfl,h1,h2⟩
theorem ua{K:Nr}:vv K (λx y H Q=>C2 (λi j=> .int (i+j)) x y H Q\/rJ K x y H Q) qb:=λH0 H x y dx dy d Q s rx O I q=>by
 cases dx<;>cases dy<;>simp[qb]at I
 ·subst I;exact .inl ⟨_,_,jI rx,jI O,q _ H H0 (Ext.refl s) rfl⟩
 ·rename_i ds es
  obtain⟨hl,rfl⟩:=I;obtain⟨a,xs,rfl,h1,h2⟩:=kZ rx;obtain⟨b,ys,rfl,Y,z⟩:=kZ O;refine .inr ⟨a,b,xs,ys,rfl,rfl,o5 s h1,o5 s Y,yc (by rw[h2.length,z.length];exact hl),λe=>?_,λe=>?_,λp hp=>?_⟩
  ·have e2:ds=[]:=by
    have:=h2.length;rw[e]at this;exact Ov this.symm
   subst e2;exact q _ H H0 (Ext.refl s)<|qO Y z
  ·have e2:es=[]:=by
    have:=z.length;rw[e]at this;exact Ov this.symm
   subst e2;exact q _ H H0 (Ext.refl s) (by rw[PH];exact qO h1 h2)
  ·exact q _ _ _ (Ext.alloc s hp _)<|qO (k0.of zC)<|(h2.append z).mono (zX (jq s hp) _)
theorem jn(ha:PV X a fa)(hb:PV X b fb):PV X (.BinOp a .Add b pos) (zw qb fa fb):=QX (G?.or oj) ua ha hb
end
theorem XF(O:A.handled=cR)(k:Sk)(I z:d8)(Y:z≠I)(items:Array fm) :
 Walks P w A I [I,z] [I] items.size (λi v=>items[i]? = cI v) (λi h=>rq k h I z i/\wa k h z items):=by
 cases k
 ·exact Walks.list O I z Y items
 ·exact Walks.tuple O I z Y items
theorem vx(zs:List Int) : ∀n,Nn (λi=>zs.getD i 0) n=(zs.take n).sum
 | 0=>by simp[Nn]
 | n+1=>by
  have z:=vx zs n;simp only[Nn,z];by_cases h:n<zs.length
  ·rw[List.take_succ_eq_append_getElem h,List.sum_append]
   simp[h]
  ·rw[Pu ⋯,Pu ⋯]
   simp[h]
section
variable{X:Cx}{pins:TW}{σ:St}{H:Hp}{s:gx}
theorem lu(hc:X.calm=cL):Zv X (.builtin "sum") (λxs H Q=>∃p k ys zs,xs=[.ref p]/\r6 k X.K H p ys/\ys=(zs:List Int).map V.int/\Q (.int zs.sum) H):=by
 intro pins s σ H vs us Q I rv h;obtain⟨p,k,ys,zs,rfl,hq,rfl,q⟩:=h;obtain⟨u,rfl,O⟩:=yw rv;cases O;obtain⟨z,r,hs,hz⟩:=I.sq hq;have lt:=hs.lt;have Y:=r.length;rw[NV]at Y;refine call_sum_walkG<|YL hs ⟨_,[_,p],[_],z.toArray.size,_,_,λi=>zs.getD i 0,rfl,XF (A:=X.A.in1) (I.ok.hd hc) k _ p (Oa lt) z.toArray,⟨Xo k _ p,hs.at λo e=>Nv _ e⟩,?_,?_,?_⟩
 ·intro b hb
  rw[OB];simp only[NP,Oc,or_false]at hb;rcases hb with rfl | rfl
  ·exact OW _
  ·exact OK lt
 ·intro i v hv
  have a0:z[i]? = cI v:=by simpa using hv
  have hi:i<zs.length:=by rw[Y];exact(NC.mp a0).1
  obtain⟨u,e1,O⟩:=r.get (i:=i) (x:= .int zs[i]) (by simp[hi]);rw[a0]at e1;cases e1;obtain⟨t,rfl⟩:=O;exact⟨t,by simp[hi]⟩
 ·intro h' tk t' hk
  have e:Nn (λi=>zs.getD i 0) z.toArray.size=zs.sum:=by rw[vx,Pu (by rw[NK,Y];exact NJ _)]
  refine⟨.int zs.sum,H,I.kept (t':=tk)<|λb u e=>hk b u ?_ (Nv _ e),⟨t',by rw[e]⟩,q⟩;simp only[NP,Oc,or_false];exact Oa<|NR e
def BI:V->Option Bool
 | .i5=>cI d7
 | .bl b=>cI b
 | .int i=>cI (i != 0)
 | _=>cR
theorem WH(r:RelV x u)(e:BI x=cI b)(q:Q b s):wpAny (gv P w) A (LY u) Q E s:=by
 cases x with
 | i5=>cases r;cases e;exact λ_ _ _=>q
 | bl c=>cases r;cases e;exact Py q
 | int i=>obtain⟨t,rfl⟩:=r;cases e;exact PyProof.Rows.truthy_int q
 | _=>cases e
def bO:List V->Option (List Bool)
 | []=>cI []
 | x::r=>(BI x).bind λb=>(bO r).map λl=>b::l
theorem ZM : ∀{xs:List V} {bs:List Bool},bO xs=cI bs->bs.length=xs.length/\∀(i:Nat) x,xs[i]? = cI x->BI x=cI (bs.getD i d7)
 | [],bs,h=>by cases h;exact⟨rfl,λi x e=>by simp at e⟩
 | y::xs,bs,h=>by
  obtain⟨b,e1,h⟩:=zb h;obtain⟨l,e2,h⟩:=zv h;subst h;obtain⟨h1,h2⟩:=ZM e2;refine⟨by simp[h1],λi x e=>?_⟩;cases i with
  | zero=>simp at e;subst e;simpa using e1
  | succ i=>simpa using h2 i x (by simpa using e)
theorem lS(bs:List Bool):(Nu bs.length).all (λi=>bs.getD i d7)=bs.all id:=by
 rw[Pn];simp only[OA,NA,id_eq];constructor
 ·intro h b hb
  obtain⟨i,hi,e⟩:=List.mem_iff_getElem.mp hb;have:=h i hi;rw[Ny,Nw hi]at this;rw[<- e];exact this
 ·intro h i hi
  rw[Ny,Nw hi];exact h _<|Rt hi
theorem lQ(bs:List Bool):(Nu bs.length).any (λi=>bs.getD i d7)=bs.any id:=by
 rw[Pn];simp only[List.any_eq_true,NA,id_eq];constructor
 ·rintro⟨i,hi,h⟩
  rw[Ny,Nw hi]at h;exact⟨_,Rt hi,h⟩
 ·rintro⟨b,hb,h⟩
  obtain⟨i,hi,e⟩:=List.mem_iff_getElem.mp hb;refine⟨i,hi,?_⟩;rw[Ny,Nw hi,Rn,e];exact h
theorem lA(hc:X.calm=cL):Zv X (.builtin "all") (λxs H Q=>∃p k ys bs,xs=[.ref p]/\r6 k X.K H p ys/\bO ys=cI bs/\Q (.bl (bs.all id)) H):=by
 intro pins s σ H vs us Q I rv h;obtain⟨p,k,ys,bs,rfl,hq,ht,q⟩:=h;obtain⟨u,rfl,O⟩:=yw rv;cases O;obtain⟨z,r,hs,hz⟩:=I.sq hq;have lt:=hs.lt;have Y:=r.length;obtain⟨a5,a6⟩:=ZM ht;refine call_all_walk<|YL hs ⟨_,[_,p],[_],z.toArray.size,_,_,λi=>bs.getD i d7,rfl,XF (A:=X.A.in1) (I.ok.hd hc) k _ p (Oa lt) z.toArray,⟨Xo k _ p,hs.at λo e=>Nv _ e⟩,?_,?_⟩
 ·intro i v s' Q' E' hv hQ
  have a0:z[i]? = cI v:=by simpa using hv
  have hi:i<ys.length:=by rw[Y];exact(NC.mp a0).1
  obtain⟨u,e1,O⟩:=r.get (i:=i) (x:=ys[i]) (by simp[hi]);rw[a0]at e1;cases e1;exact WH O (a6 i ys[i] (by simp[hi])) hQ
 ·intro h' tk hk
  have e:(Nu z.toArray.size).all (λi=>bs.getD i d7)=bs.all id:=by rw[NK,<- Y,<- a5];exact lS bs
  refine⟨.bl<|bs.all id,H,I.kept (t':=tk)<|λb u e=>hk b u ?_ (Nv _ e),by rw[e];rfl,q⟩;simp only[NP,Oc,or_false];exact Oa<|NR e
theorem lz(hc:X.calm=cL):Zv X (.builtin "any") (λxs H Q=>∃p k ys bs,xs=[.ref p]/\r6 k X.K H p ys/\bO ys=cI bs/\Q (.bl (bs.any id)) H):=by
 intro pins s σ H vs us Q I rv h;obtain⟨p,k,ys,bs,rfl,hq,ht,q⟩:=h;obtain⟨u,rfl,O⟩:=yw rv;cases O;obtain⟨z,r,hs,hz⟩:=I.sq hq;have lt:=hs.lt;have Y:=r.length;obtain⟨a5,a6⟩:=ZM ht;refine call_any_walk<|YL hs ⟨_,[_,p],[_],z.toArray.size,_,_,λi=>bs.getD i d7,rfl,XF (A:=X.A.in1) (I.ok.hd hc) k _ p (Oa lt) z.toArray,⟨Xo k _ p,hs.at λo e=>Nv _ e⟩,?_,?_⟩
 ·intro i v s' Q' E' hv hQ
  have a0:z[i]? = cI v:=by simpa using hv
  have hi:i<ys.length:=by rw[Y];exact(NC.mp a0).1
  obtain⟨u,e1,O⟩:=r.get (i:=i) (x:=ys[i]) (by simp[hi]);rw[a0]at e1;cases e1;exact WH O (a6 i ys[i] (by simp[hi])) hQ
 ·intro h' tk hk
  have e:(Nu z.toArray.size).any (λi=>bs.getD i d7)=bs.any id:=by rw[NK,<- Y,<- a5];exact lQ bs
  refine⟨.bl<|bs.any id,H,I.kept (t':=tk)<|λb u e=>hk b u ?_ (Nv _ e),by rw[e];rfl,q⟩;simp only[NP,Oc,or_false];exact Oa<|NR e
end
section
variable{X:Cx}{sc:mu}{N T:List Str}{k:Nat}{e a b c:f7}{pos p p2:kr}{f g:CO D}{fq:CO (Sk×List D)}
theorem BM{K:Nr}{H:Hp}{k:Sk}{a:d8}{xs:List V}(h:r6 k K H a xs):lK K H a xs\/k0 K H a xs:=by
 cases k
 ·exact .inl h
 ·exact .inr h
theorem qZ(h:SX X sc N T k)(c:yZ sc "len" = cL)(z:X.mg "len" = cR)(I:PQ X e fq)(hs:i6 [e] X.env=[(d7,f9 e X.env)]:=by rfl):PV X (.Call (.Name "len" p) [e] [] pos) (vB fq):=
 j4 (ya Y7 (h.gl c).1 z PySem.boot_len (zP I jJ hs) ⋯ ⋯ hs rfl) λσ H Q O=>by obtain⟨H0,γ,d,rc,Y,q⟩:=O;obtain⟨⟨kk,ds⟩,e1,e2⟩:=zv Y;subst e2;refine⟨H0,γ,kk,ds,rc,e1,λa xs H' eg ext h1 h2 r=>⟨a,xs,rfl,BM h1,?_⟩⟩;exact q _ H' eg ext (show V.int xs.length = .int ds.length by rw[r.length])
theorem j6(h:SX X sc N T k)(c:yZ sc "tuple" = cL)(z:X.mg "tuple" = cR)(O:PQ X e fq)(hs:i6 [e] X.env=[(d7,f9 e X.env)]:=by rfl):PV X (.Call (.Name "tuple" p) [e] [] pos) (jj fq):=
 j4 (Ja KF (h.gl c).1 z PyProof.Rows.boot_tuple (zP O jJ hs) ⋯ ⋯ hs rfl) λσ H Q Y=>by
  obtain⟨H0,γ,d,rc,ef,q⟩:=Y;obtain⟨⟨kk,ds⟩,e1,e2⟩:=zv ef;subst e2;refine⟨H0,γ,kk,ds,rc,e1,λa xs H' eg ext h1 h2 r=>⟨a,xs,rfl,?_⟩⟩;cases kk with
  | L=>exact .inl ⟨h1,λl I=>q _ _ _ (ext.trans<|Ext.alloc ext.sub I _)<|qO (k0.of zC)<|r.mono<|zX (jq ext.sub I) _⟩
  | T=>exact .inr ⟨h1,q _ H' eg ext (qO (h2 rfl) r)⟩
theorem yL{H H':Hp}(s:js H H'){a:d8}(h:H' a=cR):H a=cR:=by
 cases z:H a with
 | none=>rfl
 | some o=>rw[s a o z]at h;cases h
theorem uC(h:SX X sc N T k)(c:yZ sc "list" = cL)(z:X.mg "list" = cR)(O:PQ X e fq)(hs:i6 [e] X.env=[(d7,f9 e X.env)]:=by rfl):PO X (.Call (.Name "list" p) [e] [] pos) (fH fq):=
 j4 (Ja Y5 (h.gl c).1 z PyProof.Rows.boot_list (zP O jJ hs) ⋯ ⋯ hs rfl) λσ H Q Y=>by obtain⟨H0,γ,d,rc,ef,q⟩:=Y;obtain⟨⟨kk,ds⟩,e1,e2⟩:=zv ef;subst e2;refine⟨H0,γ,kk,ds,rc,e1,λa xs H' eg ext h1 h2 r=>⟨a,xs,rfl,BM h1,λl I=>?_⟩⟩;exact q l xs _ eg (ext.trans<|Ext.hide ext.sub I _) (yL ext.s1 I) (jq ext.sub I) zC r
theorem ZN : ∀{ds:List D} {n:Int},bY ds=cI n->∃zs:List Int,ds=zs.map D.int/\n=zs.sum
 | [],n,h=>by cases h;exact⟨[],rfl,rfl⟩
 | d::ds,n,h=>by
  cases d with
  | int i=>
   obtain⟨s,e,h⟩:=zv h;obtain⟨zs,rfl,rfl⟩:=ZN e;exact⟨i::zs,rfl,by rw[<- h];simp⟩
  | _=>cases h
theorem Yk{K:Nr}{H:Hp} : ∀{zs:List Int} {xs:List V},f6 K H (zs.map D.int) xs->xs=zs.map V.int
 | [],xs,h=>h.zr
 | z::zs,xs,h=>by obtain⟨x,r,e,h1,h2⟩:=f6.u0 h;rw[e,jI h1,Yk h2];rfl
theorem rK(h:SX X sc N T k)(c:yZ sc "sum" = cL)(z:X.mg "sum" = cR)(Y:PQ X e fq)(hs:i6 [e] X.env=[(d7,f9 e X.env)]:=by rfl):PV X (.Call (.Name "sum" p) [e] [] pos) (BU fq):=
 j4 (ya (lu h.calm) (h.gl c).1 z PyProof.Rows.boot_sum (zP Y jJ hs) ⋯ ⋯ hs rfl) λσ H Q hZ=>by obtain⟨H0,γ,d,rc,I,q⟩:=hZ;obtain⟨⟨kk,ds⟩,e1,I⟩:=zb I;obtain⟨n,e2,e3⟩:=zv I;subst e3;obtain⟨zs,O,rfl⟩:=ZN e2;have O:ds=zs.map D.int:=O;subst O;exact⟨H0,γ,kk,_,rc,e1,λa xs H' eg ext h1 h2 r=>⟨a,kk,xs,zs,rfl,h1,Yk r,q _ H' eg ext rfl⟩⟩
theorem tq{K:Nr}{H:Hp}{d:D}{x:V}{b:Bool}(h:Rep K H d x)(e:FQ d=cI b):BI x=cI b:=by
 cases d with
 | i5=>cases (show x = .i5 from h);exact e
 | bl c=>cases (show x = .bl c from h);exact e
 | int i=>cases (show x = .int i from h);exact e
 | _=>cases e
theorem XN{K:Nr}{H:Hp} : ∀{ds:List D} {xs:List V} {bs:List Bool},f6 K H ds xs->XO ds=cI bs->bO xs=cI bs
 | [],xs,bs,h,e=>by rw[h.zr];exact e
 | d::ds,xs,bs,h,e=>by obtain⟨x,r,z,h1,h2⟩:=h.u0;obtain⟨b,e1,e⟩:=zb e;obtain⟨l,e2,e⟩:=zv e;subst z e;show(BI x).bind _=_;rw[tq h1 e1];show((bO r).map λl=>b::l)=_;rw[XN h2 e2];rfl
theorem W8(h:SX X sc N T k)(c:yZ sc "all" = cL)(z:X.mg "all" = cR)(O:PQ X e fq)(hs:i6 [e] X.env=[(d7,f9 e X.env)]:=by rfl):PV X (.Call (.Name "all" p) [e] [] pos) (fN fq):=
 j4 (ya (lA h.calm) (h.gl c).1 z PyProof.Rows.boot_all (zP O jJ hs) ⋯ ⋯ hs rfl) λσ H Q Y=>by obtain⟨H0,γ,d,rc,I,q⟩:=Y;obtain⟨⟨kk,ds⟩,e1,I⟩:=zb I;obtain⟨bs,e2,e3⟩:=zv I;subst e3;exact⟨H0,γ,kk,_,rc,e1,λa xs H' eg ext h1 h2 r=>⟨a,kk,xs,bs,rfl,h1,XN r e2,q _ H' eg ext rfl⟩⟩
theorem Cv(h:SX X sc N T k)(c:yZ sc "any" = cL)(z:X.mg "any" = cR)(O:PQ X e fq)(hs:i6 [e] X.env=[(d7,f9 e X.env)]:=by rfl):PV X (.Call (.Name "any" p) [e] [] pos) (Hw fq):=
 j4 (ya (lz h.calm) (h.gl c).1 z PyProof.Rows.boot_any (zP O jJ hs) ⋯ ⋯ hs rfl) λσ H Q Y=>by obtain⟨H0,γ,d,rc,I,q⟩:=Y;obtain⟨⟨kk,ds⟩,e1,I⟩:=zb I;obtain⟨bs,e2,e3⟩:=zv I;subst e3;exact⟨H0,γ,kk,_,rc,e1,λa xs H' eg ext h1 h2 r=>⟨a,kk,xs,bs,rfl,h1,XN r e2,q _ H' eg ext rfl⟩⟩
theorem fV(h:SX X sc N T k)(c:yZ sc "int" = cL)(z:X.mg "int" = cR)(Y:PV X e f)(hs:i6 [e] X.env=[(d7,f9 e X.env)]:=by rfl):PV X (.Call (.Name "int" p) [e] [] pos) (ng f):=
 j4 (Ja ly (h.gl c).1 z PyProof.Rows.boot_int (zP Y jJ hs) ⋯ ⋯ hs rfl) λσ H Q hZ=>by
  obtain⟨H0,γ,d,rc,I,q⟩:=hZ;obtain⟨O,e1,I⟩:=zb I;refine⟨H0,γ,O,rc,e1,λv H' eg ext r=>?_⟩;cases O with
  | int i=>cases I;exact .inl ⟨i,by rw[jI r],q _ H' eg ext rfl⟩
  | bl b=>cases I;exact .inr ⟨b,by rw[show v = .bl b from r],q _ H' eg ext rfl⟩
  | _=>cases I
end
section
variable{X:Cx}{sc:mu}{N T:List Str}{k:Nat}{e a b c:f7}{pos p p2:kr}{f g:CO D}{fq:CO (Sk×List D)}
theorem Xl(h:p8 n i=cI j):GA n i=cI j:=by
 unfold p8 at h;unfold GA;split at h
 ·rename_i h1;rw[DZ h1.1,DZ h1.2];exact h
 ·split at h
  ·rename_i h1 h2;rw[DJ ⋯,DZ ⋯];exact h
  ·cases h
theorem zL(ha:PQ X a fq)(hb:PV X b g)(hs:KI b:=by intro _ _;rfl):PV X (.Subscript a b pos) (fy fq g):=
 j4 (uM (Z_.or EO) ha hb hs) λσ H Q hZ=>by
  obtain⟨H0,γ,d,rc,z,q⟩:=hZ;obtain⟨⟨kk,ds⟩,e1,z⟩:=zb z;obtain⟨i,e2,z⟩:=zb z;obtain⟨di,e3,e2⟩:=zb e2;obtain⟨j,e4,z⟩:=zb z;refine⟨H0,γ,kk,ds,rc,e1,λp xs H' eg ext h1 h2 r=>⟨eg,γ,di,rc.ext ext,e3,λv2 H2 a4 I r2=>?_⟩⟩;rw[jK e2]at r2;obtain⟨x,hx,rx⟩:=r.get z;have O:D3 xs i=cI x:=by unfold D3;rw[r.length,Xl e4];exact hx
  have Y:=q x H2 a4 (ext.trans I)<|rx.mono I.s0;cases kk with
  | L=>exact .inl ⟨p,xs,i,x,rfl,jI r2,I.s1.seq h1,O,Y⟩
  | T=>exact .inr ⟨p,xs,i,x,rfl,jI r2,o5 I.s1 h1,O,Y⟩
theorem zag{P:m4}{w:l0}{A:p4}{E:EQ}{s:gx}{t sl:d8}{items:Array fm}{I O:fm}{lo hi:Option Int}{Q:EQ}(z:IQ s.heap t items)(hs:s.heap.IsSliceOf sl I O .none)(pl:DY I lo)(Y:DY O hi)
 (hw:HT.fy items.size 0 lo=0/\HT.fy items.size items.size hi=items.size) (h:Q (.ref t) s):wpAny (gv P w) A (Em (.ref t)<|.ref sl) Q E s:=by
 obtain⟨os,a0,a1,a4⟩:=id hs;have a2:s.TypeIs (.ref sl) "slice":=⟨os,a0,a1⟩;unfold Em
 try with_reducible refine Rm ?_
 first | refine Nt (Nz ?_) | skip
 refine Nt (zao z.typeIs ⋯ ?_);refine Nt (OD (name:=OJ "__getitem__") z.typeIs Pk
  (OI Pk z.typeIs entry_tuple_getitem ?_ (_Y _ _)))
 show wpAny _ _ (Builtin.Tuple.tupleItemsOf (.ref t) >>= _) _ _ s;refine Nt<|Ua z ?_;refine Nt<|SU a2 ?_;rw[DZ ⋯];refine Nt<|HT.Zm hs pl Y ?_;have a3:(((HT.fy items.size 0 lo:Nat):Int)==0 && (1:Int)==1 && (HT.fy items.size items.size hi - HT.fy items.size 0 lo)==items.size)=cL:=by rw[hw.1,hw.2];simp
 show wpAny _ _ (if (((HT.fy items.size 0 lo:Nat):Int)==0 && (1:Int)==1 && (HT.fy items.size items.size hi - HT.fy items.size 0 lo)==items.size)=cL then _ else _) _ _ s;rw[DZ a3];refine Nt (m:=RO _) ?_;unfold RO;refine Nt<|SU z.typeIs<|Nz ?_;rw[DZ ⋯];exact Nt<|TR<|Nz ⟨_,rfl,Nz h⟩
def Hy(K:Nr):V->Option Int->Option Int->Hp->VK->Prop:=λx lo hi H Q=>∃a xs,x = .ref a/\k0 K H a xs/\(HT.fy xs.length 0 lo=0/\HT.fy xs.length xs.length hi=xs.length->Q (.ref a) H)/\∀p,H p=cR->Q (.ref p) (upd H p<|.tup<|AK xs lo hi)
theorem ub:L8 X (Hy X.K):=by
 intro pins s σ H x v Y vu lo hi sl Q I rx hs pl z h;obtain⟨a,xs,rfl,hx,q1,q2⟩:=h;by_cases hw:HT.fy xs.length 0 lo=0/\HT.fy xs.length xs.length hi=xs.length
 ·cases rx
  obtain⟨a3,r,O,hz⟩:=I.tuple hx;have a4:a3.toArray.size=xs.length:=by rw[NK];exact r.length.symm
  refine⟨"tuple",_,Pk.lookup,O.typeIs,?_⟩;exact zag O hs pl z (by rw[a4];exact hw) ⟨.ref a,H,I,rfl,q1 hw⟩
 ·exact BP pins s σ H (.ref a) v Y vu lo hi sl Q I rx hs pl z ⟨a,xs,rfl,hx,hw,q2⟩
theorem Zz(n d:Nat)(o:Option Int):QE n d o=HT.fy n d o:=by cases o<;>rfl
theorem nA{K:Nr}{H:Hp}{ds:List D}{xs:List V}(r:f6 K H ds xs)(lo hi:Option Int):f6 K H (Zs ds lo hi) (AK xs lo hi):=by unfold Zs AK;rw[<- Zz,<- Zz,r.length];exact(r.drop _).take _
theorem iY{ds:List D}{lo hi:Option Int}(h:HT.fy ds.length 0 lo=0/\HT.fy ds.length ds.length hi=ds.length):Zs ds lo hi=ds:=by unfold Zs;rw[Zz,Zz,h.1,h.2];simp
def tB(K:Nr)(f:CO (Option Int)):TO:=λσ H Q=>∃H0 γ o,RC K H0 H σ γ/\f γ=cI o/\∀H' eg,Ext H0 H eg H'->Q o H'
theorem xE:L2.PO X cR (tB X.K KQ):=λpins s σ H Q I ⟨H0,γ,o,rc,z,q⟩=>uB pins s σ H Q I (by cases z;exact q H H0<|Ext.refl rc.sub)
theorem qR(h:PV X e f):L2.PO X (cI e) (tB X.K<|vl f):=λpins s σ H Q I ⟨H0,γ,o,rc,z,q⟩=>uA h pins s σ H Q I (by
 obtain⟨i,e1,e2⟩:=zv z;obtain⟨d,O,e1⟩:=zb e1;subst e2;refine⟨H0,γ,d,rc,O,λv H' eg x r=>?_⟩;rw[jK e1]at r;exact⟨i,jI r,q H' eg x⟩)
theorem vK{lo hi:Option f7}{O Y:CO (Option Int)}(ha:PV X a f)(hl:L2.PO X lo (tB X.K O))(hh:L2.PO X hi (tB X.K Y)):PV X (.Subscript a (.Slice lo hi cR p2) pos) (Vt f O Y):=
 j4 (ao ub ha hl hh) λσ H Q hZ=>by
  obtain⟨H0,γ,d,rc,z,q⟩:=hZ;obtain⟨d1,e1,z⟩:=zb z;obtain⟨l,e2,z⟩:=zb z;obtain⟨u,e3,z⟩:=zb z;refine⟨H0,γ,d1,rc,e1,λv H' eg x r=>⟨eg,γ,l,rc.ext x,e2,λH2 a8 I=>⟨a8,γ,u,(rc.ext x).ext I,e3,λH3 aa x3=>?_⟩⟩⟩;have xa:=x.trans<|I.trans x3;cases d1 with
  | tup ds=>
   cases z;obtain⟨a1,xs,rfl,h1,h2⟩:=kZ<|r.mono (I.trans x3).s0;have ac:=h2.length;refine⟨a1,xs,rfl,o5 x3.sub h1,λhw=>?_,λp hp=>?_⟩
   ·rw[ac]at hw
    exact q _ H3 aa xa (by rw[iY hw];exact qO h1 h2)
   ·exact q _ _ _ (xa.trans<|Ext.alloc x3.sub hp _)<|qO (k0.of zC)<|(nA h2 _ _).mono (zX (jq x3.sub hp) _)
  | _=>cases z
theorem W0{K:Nr}{H:Hp}{ds:List D}{xs:List V}(r:f6 K H ds xs) : ∀n:Nat,f6 K H (NB n ds).flatten (NB n xs).flatten
 | 0=>f6.nil
 | n+1=>by rw[PX,PX,RF,RF];exact r.append<|W0 r n
theorem gj(ha:PQ X a fq)(hb:PQ X b gq):PO X (.BinOp a .Add b pos) (fM fq gq):=
 j4 (uJ om ha hb) λσ H Q hZ=>by
  obtain⟨H0,γ,ds,rc,z,q⟩:=hZ;obtain⟨⟨k1,d1⟩,e1,z⟩:=zb z;obtain⟨⟨k2,d2⟩,e2,z⟩:=zb z;cases k1<;>cases k2<;>try (simp at z;done)
  dsimp only at z;by_cases O:d1.length+d2.length<=lim
  ·rw[DZ O]at z;cases z
   refine⟨H0,γ,.L,d1,rc,e1,λa1 xs H1 a9 x1 h1 h2 r1=>⟨a9,γ,.L,d2,rc.ext x1,e2,λa2 ys H2 ab I h3 h4 r2=>⟨a1,a2,xs,ys,rfl,rfl,I.s1.seq h1,h3,yc (by rw[r1.length,r2.length];exact O),λp Y=>?_⟩⟩⟩;exact q p (xs++ys) _ ab (x1.trans<|I.trans<|Ext.hide I.sub Y _) (yL (x1.trans I).s1 Y) (jq I.sub Y) zC<|(r1.mono I.s0).append r2
  ·rw[DJ O]at z;cases z
theorem EE{K:Nr}{t c:String}{b:Bool}(h:(if ((RB t) == .type c)=cL then cI cL else if PySem.W.kitMeta c=cL then (fastBuiltinMro t).map (·.contains (.type c))else cR)=cI b):Se K (.type t) (.type c)=cI b:=h
def O0:Ty->String
 | .int=>"int"
 | .bool=>"bool"
 | .str=>"str"
 | .tuple=>"tuple"
 | .list=>"list"
def EF:D->String
 | .i5=>"NoneType"
 | .bl _=>"bool"
 | .int _=>"int"
 | .str _=>"str"
 | .tup _=>"tuple"
 | .lst _=>"list"
 | .sh _ _=>"dict"
 | .n0 _ _=>"dict"
theorem YK{K:Nr}(T:Ty)(d:D):Se K (.type<|EF d) (.type<|O0 T)=cI (Bo T d):=by cases d<;>cases T<;>(dsimp only[EF,O0,Bo,sg,ES,sd,rZ,sf];exact EE ⋯)
theorem oZ{pins:TW}{σ:St}{H0 H:Hp}{s:gx}{A:p4}{E:EQ}{Q:EQ}{d:D}{x:V}{u:fm}(I:Inv X pins σ H s)(sub:js H0 H)(rx:RelV x u)(r:Rep X.K H0 d x)(T:Ty)
 (h : ∀tk,Q (.bool (Bo T d)) {s with toks:=tk}):wpAny (gv X.prog X.w) A (call (.builtin "isinstance") [u,.type (O0 T)]) Q E s:=by
 cases d with
 | i5=>have e:=YK (K:=X.K) T .i5;cases (show x = .i5 from r);cases (show u=Oy from rx);exact OG PySem.W.kitx_none I.pK OR e (λz=>nomatch z) h
 | bl y=>have e:=YK (K:=X.K) T<|.bl y;cases (show x = .bl y from r);cases (show u=UB y from rx);exact OG PySem.W.kitx_bool I.pK OR e (λz=>nomatch z) h
 | int i=>have e:=YK (K:=X.K) T<|.int i;cases (show x = .int i from r);obtain⟨t,q⟩:=(show ∃t,u=TV i t from rx);cases q;exact OG PySem.W.kitx_int I.pK OR e (λz=>nomatch z) h
 | str y=>have e:=YK (K:=X.K) T<|.str y;cases (show x = .str y from r);obtain⟨t,q⟩:=(show ∃t,u=TU y t from rx);cases q;exact OG PySem.W.kitx_str I.pK OR e (λz=>nomatch z) h
 | tup ds=>
  have e:=YK (K:=X.K) T<|.tup ds;obtain⟨a,xs,rfl,h1,h2⟩:=kZ r;cases (show u=Of a from rx);obtain⟨a1,rv,⟨o,O,Y,_⟩,hz⟩:=I.tuple<|o5 sub h1;exact OG PySem.W.kitx_tuple I.pK ⟨o,O,Y⟩ e (λz=>nomatch z) h
 | lst ds=>
  have e:=YK (K:=X.K) T<|.lst ds;obtain⟨a,xs,rfl,h1,h2⟩:=gS r;cases (show u=Of a from rx);obtain⟨a1,rv,p,hz⟩:=I.list<|sub.seq h1;obtain⟨o,O,Y,_⟩:=p.isList;exact OG Ut I.pK ⟨o,O,Y⟩ e (λz=>nomatch z) h
 | sh ks vs=>
  have e:=YK (K:=X.K) T<|.sh ks vs;obtain⟨a,xs,rfl,⟨kk,_,_,h1⟩,_⟩:=(show ∃a xs,x = .ref a/\Ge H0 a ks xs/\f6 X.K H0 vs xs from r);exact iu I rx (.dK<|sub _ _ h1) e h
 | n0 ks vs=>
  have e:=YK (K:=X.K) T<|.n0 ks vs;obtain⟨a,xs,rfl,⟨_,o,zs,h1,h2,_⟩,_⟩:=(show ∃a xs,x = .ref a/\DU X.K H0 a ks xs/\f6 X.K H0 vs xs from r);cases (show u=Of a from rx);obtain⟨O,_⟩:=(show oi X.prog X.w H s.heap a (u7 a o)from I.i7 a _<|sub _ _ h1);exact OG Uu I.pK ⟨o,O,h2.1.1⟩ e (λz=>nomatch z) h
theorem Cs(T:Ty)(h:SX X sc N L k)(c:yZ sc "isinstance" = cL)(z:X.mg "isinstance" = cR)(O:yZ sc ty=cL)(z2:X.mg ty=cR)(hb:D5 ty=cI (.type (O0 T)))(ha:PV X a f)
 (hs:i6 [a,.Name ty p2] X.env=[(d7,f9 a X.env),(d7,f9 (.Name ty p2) X.env)]:=by rfl):PV X (.Call (.Name "isinstance" p) [a,.Name ty p2] [] pos) (GC T f):=by
 intro pins s σ H Q I ⟨H0,γ,d,rc,ef,q⟩;obtain⟨d1,e1,e2⟩:=zv ef;subst e2;refine Sb<|yq I (h.gl c).1 z PyProof.Rows.boot_isinstance ?_ ⋯ ⋯;refine Sw ?_ (by rw[hs];rfl) rfl;rw[hs];show wpAny _ _ (LW ((d7,f9 a X.env)::r9 pos [(d7,f9 (.Name ty p2) X.env)])) _ _ s;refine Ru<|ip (ha pins s σ H _ I ⟨H0,γ,d1,rc,e1,λv H' eg x r=>(show(λv H'=>∃eg,Ext H0 H eg H'/\Rep X.K eg d1 v) v H' from⟨eg,x,r⟩)⟩) λu s1 hZ=>?_;obtain⟨x,H1,Y,r1,a4,x1,rr⟩:=hZ;show wpAny _ _ (LW ((d7,f9 (.Name ty p2) X.env)::[])) _ _ s1;refine Ru<|yq Y (h.gl O).1 z2 hb ?_ (h.gl O).2.1 (h.gl O).2.2;refine SF ?_;exact oZ Y x1.sub r1 rr T λtk=>⟨.bl _,H1,Y.tok tk,rfl,q _ H1 a4 x1 rfl⟩
end
section
variable{X:Cx}{sc:mu}{N L:List Str}{k:Nat}{e a b c:f7}{pos p p2:kr}{f g:CO D}{fq:CO (Sk×List D)}
theorem qC(h:SX X sc N L k)(c:yZ sc "range" = cL)(z:X.mg "range" = cR)(ha:PV X a f)(hs:i6 [a] X.env=[(d7,f9 a X.env)]:=by rfl):o9 X tg (.Call (.Name "range" p) [a] [] pos) (jH f):=cH (h.gl c).1 z ha hs
theorem ai(h:SX X sc N L k)(c:yZ sc "range" = cL)(z:X.mg "range" = cR)(ha:PV X a f)(hb:PV X b g)(hs:i6 [a,b] X.env=[(d7,f9 a X.env),(d7,f9 b X.env)]:=by rfl)(I:i6 [b] X.env=[(d7,f9 b X.env)]:=by rfl) :
 o9 X tg (.Call (.Name "range" p) [a,b] [] pos) (XU f g):=cG (h.gl c).1 z ha hb hs I
theorem Yr(h:SX X sc N L k)(c:yZ sc "zip" = cL)(z:X.mg "zip" = cR)(ha:PV X a f)(hb:PV X b g)(hs:i6 [a,b] X.env=[(d7,f9 a X.env),(d7,f9 b X.env)]:=by rfl)(I:i6 [b] X.env=[(d7,f9 b X.env)]:=by rfl) :
 o9 X (.Tuple elts x1 sX) (.Call (.Name "zip" p) [a,b] [] pos) (rC f g):=uF (h.gl c).1 z ha hb hs I
theorem fU(h:SX X sc N L k)(c:yZ sc "isinstance" = cL)(z:X.mg "isinstance" = cR)(I:yZ sc "int" = cL)(z2:X.mg "int" = cR)(ha:PV X a f)
 (hs:i6 [a,.Name "int" p2] X.env=[(d7,f9 a X.env),(d7,f9 (.Name "int" p2) X.env)]:=by rfl):PV X (.Call (.Name "isinstance" p) [a,.Name "int" p2] [] pos) (GC .int f):=Cs .int h c z I z2 PyProof.Rows.boot_int ha hs
theorem cu(h:SX X sc N L k)(c:yZ sc "isinstance" = cL)(z:X.mg "isinstance" = cR)(I:yZ sc "bool" = cL)(z2:X.mg "bool" = cR)(ha:PV X a f)
 (hs:i6 [a,.Name "bool" p2] X.env=[(d7,f9 a X.env),(d7,f9 (.Name "bool" p2) X.env)]:=by rfl):PV X (.Call (.Name "isinstance" p) [a,.Name "bool" p2] [] pos) (GC .bool f):=Cs .bool h c z I z2 PyProof.Rows.boot_bool ha hs
theorem nH(ha:PQ X a fq)(I : ∀z,Gz a X.env z=(do let v <- z;GD a.pos;Dk [v] (LY v)):=by intro _;rfl):s9 X a (ud fq):=
 VD (nI ha I) λσ H Q O=>by
  obtain⟨H0,γ,t,rc,Y,q⟩:=O;obtain⟨⟨kk,ds⟩,e1,e2⟩:=zv Y;subst e2;refine⟨H0,γ,kk,ds,rc,e1,λp xs H' eg ext h1 h2 r=>⟨!ds.isEmpty,?_,q H' eg ext⟩⟩;have e:xs.isEmpty=ds.isEmpty:=by have:=r.length;cases xs<;>cases ds<;>simp_all
  rw[<- e];cases kk with
  | L=>exact .inl ⟨xs,h1,rfl⟩
  | T=>exact .inr<|.inl ⟨xs,h1,rfl⟩
theorem Cq(ha:PV X a f):PV X (.UnaryOp .USub a pos) (Lq f):=
 j4 (HH BF ha) λσ H Q z=>by obtain⟨H0,γ,d,rc,I,q⟩:=z;obtain⟨i,e1,e2⟩:=zv I;obtain⟨O,Y,e1⟩:=zb e1;subst e2;refine⟨H0,γ,O,rc,Y,λv H' eg x r=>?_⟩;rw[jK e1]at r;exact⟨i,jI r,q _ H' eg x rfl⟩
theorem yH(i:Nat)(h:SX X sc N L k)(c:JZ sc N i x=cL)(ha:PV X a f)(hs:i6 [a] X.env=[(d7,f9 a X.env)]:=by rfl)
 (z:DF (.Name x np) "append" X.env (f9 (.Name x np) X.env)=f9 (.Name x np) X.env:=by rfl)
 (I:((r9 cpos<|starEach [a] X.env).all (λx=> !x.1) && (D4 cpos<|keywordEach [] X.env).all (λx=>x.1.isSome)
   && decide ([a].length+([]:List A9).length+(if ([]:List A9).isEmpty then 0 else 1)<30))=cL:=by rfl)
 (O:(apos.endLine==cpos.line)=cL:=by rfl) (Y:A8 (.Call (.Attribute (.Name x np) "append" apos) [a] [] cpos) cR pos.line X.env=pure d7:=by rfl) :
 tr X (.Expr (.Call (.Attribute (.Name x np) "append" apos) [a] [] cpos) pos) (jZ i f):=
 cC i (cJ RH PySem.F.slot_list_append PySem.F.type_list_append YH (h.var c) (zP ha jJ hs) z I O hs rfl) Y
theorem ql(i:Nat){st:m5}{f:CO (List D)}(h:PS X st (XQ (tO X.K f)<|ye i)):tr X st (jT i<|xB f):=xi h λD σ H I=>by obtain⟨E0,E,H0,γ,fl,rs,z,O⟩:=I;obtain⟨d,e1,z⟩:=zv z;obtain⟨ds,Y,e1⟩:=zv e1;subst z e1;exact⟨H0,γ,ds,rs.rc,Y,λa xs H' eg x h1 h2 h3 r=>O _ _ _<|(rs.step<|x.show h1 h2 h3 rs.rc.sub).Dm (wI (lK.of zC)<|r.mono<|zX h2 _)⟩
theorem I?(i:Nat)(h:SX X sc N L k)(c:yx sc N L i y=cL)
 (z:X.calm=cL) (ok:Br X scope fr) (I : ∀i∈T.idx,i<own.length) (hi:B6 X tg iter src) (O : ∀fp s2 H2,PG (ju X scope (own++fr.map (·.1)) fp s2 H2) tg<|xk X.K T)
 (Y : ∀fp s2 H2,PV (ju X scope (own++fr.map (·.1)) fp s2 H2) elt f) (hs : ∀x,zl iter X.env x=pure x:=by intro _;rfl) :
 PS X (.Assign [.Name y py] (.ListComp elt [⟨tg,iter,[],0⟩] scope cpos) spos) (XQ (tO X.K<|zT src T own.length (fr.map (·.2)) jS f)<|ye i):=by
 obtain⟨h1,h2,h3⟩:=h.loc c;exact nO h.M6 h1 h2 h3 z ok I hi O Y hs
theorem HF(i:Nat)(h:SX X sc N L k)(c:yx sc N L i y=cL)
 (z:X.calm=cL) (ok:Br X scope fr) (I : ∀i∈T.idx,i<own.length) (hi:B6 X tg iter src) (O : ∀fp s2 H2,PG (ju X scope (own++fr.map (·.1)) fp s2 H2) tg<|xk X.K T)
 (hk : ∀fp s2 H2,s9 (ju X scope (own++fr.map (·.1)) fp s2 H2) Iu kk) (Y : ∀fp s2 H2,PV (ju X scope (own++fr.map (·.1)) fp s2 H2) elt f) (hs : ∀x,zl iter X.env x=pure x:=by intro _;rfl) :
 PS X (.Assign [.Name y py] (.ListComp elt [⟨tg,iter,[Iu],0⟩] scope cpos) spos) (XQ (tO X.K<|zT src T own.length (fr.map (·.2)) kk f)<|ye i):=by
 obtain⟨h1,h2,h3⟩:=h.loc c;exact cD h.M6 h1 h2 h3 z ok I hi O hk Y hs
theorem X5(I:PG X tg (xk X.K T))(O:PV X e f)(hs:N2 [tg] e pos.line X.env=pure d7:=by rfl)(hw:h_ [tg] e X.env=pure cR:=by rfl)
 (h1:(DE [tg] X.env).map (·.2)=[Du tg X.env]:=by rfl):tr X (.Assign [tg] e pos) (Vu T f):=
 xi (Xa O I hs hw h1) λD σ H Y=>by obtain⟨E0,E,H0,γ,fl,rs,z,a0⟩:=Y;obtain⟨d,e1,z⟩:=zb z;obtain⟨γ1,e2,z⟩:=zv z;subst z;refine⟨H0,γ,d,rs.rc,e1,λv H' eg x r=>?_⟩;exact we x.sub r e2 λFA _ a2=>a0 FA H' eg<|a2 E0 E<|rs.step x
end
structure l9(P:m4)(w:l0)(K:Nr)(mg:DX)(base:je)(k:Nat)(x:Str)(n:Nat)(F:List D->Option Res):Prop where
 ex : ∃(f:d8) (fd:u6) (ps:List Str),ps.length=n/\p5 P w K mg base t5 k f fd ps (B5 K ps.length F)/\mg x=cI (.ref f)/\Pd K (.ref f)=cL/\Binds K fd ps []
structure l8(K:Nr)(mg:DX)(x:Str)(st:m5)(ps:List Str):Prop where
 ex : ∃(f:d8) (fd:u6),L2.yg K x x st f fd/\(∀us:List fm,us.length=ps.length->Ir fd ⟨us,[]⟩=pure (ps.zip us))/\mg x=cI (.ref f)
def D0(X:Cx)(es:List f7)(n:Nat)(g:CO (List D)):Prop:=DD X es g/\∀γ ds,g γ=cI ds->ds.length=n
section
variable{X:Cx}{sc:mu}{N L:List Str}{k:Nat}{e:f7}{es:List f7}{f:CO D}{g:CO (List D)}{n:Nat}{pos p:kr}{x:Str}
theorem zh:D0 X [] 0 zG:=⟨gA,λγ ds h=>by cases h;rfl⟩
theorem za(ha:PV X e f)(z:D0 X es n g)(hs:i6 (e::es) X.env=(d7,f9 e X.env)::i6 es X.env:=by rfl):D0 X (e::es) (n+1) (zc f g):=
 ⟨vP ha z.1 hs,λγ ds h=>by obtain⟨y,e1,h⟩:=zb h;obtain⟨r,e2,h⟩:=zv h;subst h;rw[Od,z.2 γ r e2]⟩
variable{j:Nat}{F:List D->Option Res}
theorem HE(z:l9 X.prog X.w X.K X.mg X.base j x n F)(I:j<=k)(h:SX X sc N L k)(c:yZ sc x=cL)(ha:D0 X (e::es) n g)
 (O:i6 (e::es) X.env=(d7,f9 e X.env)::i6 es X.env:=by rfl) (Y:(r9 pos<|starEach es X.env).any (·.1)=d7:=by rfl):PV X (.Call (.Name x p) (e::es) [] pos) (zJ F g):=by
 obtain⟨fa,fd,ps,hn,G,hm,hk,hb⟩:=z.ex;subst hn;exact ur (A0:=[]) G ha.1 ha.2 λ{t} a0=>vy G (h.room.mono I) (h.gl c).1 hm hk hb .nil J4 a0 (h.gl c).2.2 O Y
theorem HG(z:l9 X.prog X.w X.K X.mg X.base j x n F)(I:j<=k)(h:SX X sc N L k)(c:yZ sc x=cL)(ha:D0 X (e::es) n g)
 (O:i6 (e::es) X.env=(d7,f9 e X.env)::i6 es X.env:=by rfl) (Y:(r9 pos<|starEach es X.env).any (·.1)=d7:=by rfl):PO X (.Call (.Name x p) (e::es) [] pos) (qj F g):=by
 obtain⟨fa,fd,ps,hn,G,hm,hk,hb⟩:=z.ex;subst hn;exact uE G ha.1 ha.2 λ{t} a0=>vy G (h.room.mono I) (h.gl c).1 hm hk hb .nil J4 a0 (h.gl c).2.2 O Y
end
section
variable{P:m4}{w:l0}{K:Nr}{mg:DX}{base:je}
def Kx(N ps:List Str)(st:m5):Bool:=
 decide ((zU st).kind = .function) && decide ((zU st).isCoroutine=d7) && decide ((zU st).isGenerator=d7) && decide N.Nodup && decide (N.take ps.length=ps) &&
 ps.all (λx=>decide ((zU st).names.lookup x=cI .local) || decide ((zU st).names.lookup x=cI .cell)) && (zU st).names.all (λy=> !(y.2==Om))
theorem k5{N ps:List Str}{st:m5}(h:Kx N ps st=cL):IM N ps (zU st):=by unfold Kx at h;simp only[NI,decide_eq_true_eq,OA,OZ,SI]at h;obtain⟨⟨⟨⟨⟨⟨h1,h2⟩,z⟩,I⟩,O⟩,Y⟩,h7⟩:=h;exact⟨h1,h2,z,I,O,Y,λy hy e=>by have:=h7 y hy;rw[e]at this;exact absurd this ⋯⟩
theorem Jb{X:Cx}(hx:X.xe=λ_ _=>False):G9 (gv X.prog X.w) X.A X.env X.xe:=by rw[hx];exact PassesOwn.never
theorem xC{x:Str}{st:m5}{N ps:List Str}{k:Nat}{F:CO Fl}(A:l8 K mg x st ps)(hd:Kx N ps st=cL)
 (I : ∀X:Cx,X.prog=P->X.w=w->X.K=K->X.mg=mg->X.base=base->SX X (zU st) N N k->X.xe=(λ_ _=>False)->bB X (jV st) F) :
 l9 P w K mg base (k+1) x ps.length (jo N.length F):=by
 obtain⟨f,fd,z,hb,hm⟩:=A.ex;have S:=k5 hd;refine⟨f,fd,ps,rfl,EZ z S λm7 A outer s H E O=>?_,hm,z.kp,.all hb⟩;exact I _ rfl rfl rfl rfl rfl ⟨rfl,rfl,S.nd,rfl,O,λ_ _=> .inl rfl⟩ rfl
theorem LJ{h:je}{x:Str}{st:m5}{ps:List Str}{f:d8}{oc:fm}{od an:Option d8}{Dl:Array (Option fm)}{kV doc pm m7 ct:fm}(z:K.In h)(G:h.Ns A7 mg)
 (a:TC K A7 x=cI (cI (.ref f))) (l:K.lookup f=cI ⟨oc,od,.func<|PB x x (xG st) (jV st) (zU st) .none kV doc pm an m7 ct,Dl⟩)
 (c:Sf K m7 x=cL) (kp:Pd K (.ref f)=cL)
 (b : ∀(kV doc pm:fm) (an:Option d8) (m7 ct:fm) (us:List fm),us.length=ps.length->Ir (PB x x (xG st) (jV st) (zU st) .none kV doc pm an m7 ct) ⟨us,[]⟩=pure (ps.zip us)):l8 K mg x st ps:=
 ⟨f,_,aQ l c kp,b kV doc pm an m7 ct,Ue z G a⟩
theorem Ik{x:Str}{st:m5}{f:d8}{fd:u6}{N ps:List Str}{k:Nat}{F:CO Fl}(z:L2.yg K x x st f fd)(hd:Kx N ps st=cL)
 (I : ∀X:Cx,X.prog=P->X.w=w->X.K=K->X.mg=mg->X.base=base->SX X (zU st) N N k->X.xe=(λ_ _=>False)->bB X (jV st) F) :
 p5 P w K mg base t5 (k+1) f fd ps (B5 K ps.length<|jo N.length F):=by
 have S:=k5 hd;exact EZ z S λm7 A outer s H E O=>I _ rfl rfl rfl rfl rfl ⟨rfl,rfl,S.nd,rfl,O,λ_ _=> .inl rfl⟩ rfl
theorem Gn{F:List D->Option Res}{H:Hp}{a:d8}{ns:List Int}(z:lK K H a (ns.map V.int))(I:F [.lst (ns.map D.int)]=cI (.val<|.bl cL)) :
 B5 K 1 F [.ref a] H (λv _=>v = .bl cL) λ_ _ _=>False:=by
 refine⟨H,[.lst (ns.map D.int)],.val<|.bl cL,js.refl _,f6.cons (wI z ?_) f6.nil,rfl,I,λv H' eg _ r=>r⟩;clear I z
 induction ns with
 | nil=>exact f6.nil
 | cons n ns O=>exact f6.cons rfl O
end
end DL
namespace DL
open PySem PySem.Spec PyProof.Rows L2
open PySem.W (KasT kas_sort kas_ask kat_run kat_snds kat_lt kat_cons kat_no kat_kind KatTups KatGo)
def FJ(h:je)(v:fm)(k:Int):Prop:=∃x o xs m t,v = .ref x/\h.get? x=cI o/\o.cls = .type "tuple"/\o.data = .seq xs m/\xs[0]? = cI (.int k t)
theorem rX : ∀{vs:List fm} {ks:Nat->Int},(∀i (hi:i<vs.length),FJ h vs[i] (ks i))->∃fs,KatTups h vs fs/\fs.length=vs.length/\∀f∈fs,∃k t,f=TV k t
 | [],ks,_=>⟨[],KatTups.nil,rfl,λf z=>by cases z⟩
 | v::vs,ks,H=>by
  obtain⟨fs,h1,h2,I⟩:=rX (vs:=vs) (ks:=λi=>ks<|i+1) λi hi=>H (i+1) (by simpa using hi);obtain⟨x,o,xs,m,t,e1,e2,O,Y,e5⟩:=H 0 ⋯;have e1:v = .ref x:=e1;subst e1;exact⟨.int (ks 0) t::fs,KatTups.cons e2 O Y e5 h1,by simp[h2],λf z=>by
   rcases NP.mp z with rfl | z
   ·exact⟨_,_,rfl⟩
   ·exact I f z⟩
end DL
namespace DL
open PySem PySem.Spec PyProof.Rows L2
open AutoSeq1 (wpAny_loadPart')
theorem Zq:fillsNumberSlot (.type "tuple") "mul" = pure d7:=
 PySem.fillsNumberSlot_seq (id:="tuple.__mul__") (r:=cI (.builtin "tuple.__rmul__")) SV.lookup ⋯ F.slot_tuple_rmul.lookup ⋯
theorem Yl:seqRepeat? (.type "tuple")=pure (cI (.builtin "tuple.__mul__")):=by unfold seqRepeat?;rw[PySem.seqSlot_of (T:="tuple") (name:="__mul__") (id:="tuple.__mul__") SV.lookup ⋯,PySem.seqSlot_of (T:="tuple") (name:="__rmul__") (id:="tuple.__rmul__") F.slot_tuple_rmul.lookup ⋯];rfl
theorem QB(a:Int)(t:z8)(l:d8)(items:Array fm)(n:Nat)(z:Option d8)(sl:Array (Option fm)) :
 G8 (wy.«int.__rmul__» ⟨[.int a t,.ref l],[]⟩) (λ_ R s=>s.heap.get? l=cI {cls:= .type "tuple",dict:=z,data:= .seq items n,slots:=sl}/\R (.ok (.ret Value.notImplemented)) s):=
 .of_wp λprog w A R s h=>by obtain⟨I,g,d,O,os⟩:=s;obtain⟨Y,h⟩:=h;wp_walk;exact⟨_,rfl,h⟩
theorem XM(a:Int)(t:z8)(l:d8)(items:Array fm)(n:Nat)(I:Option d8)(sl:Array (Option fm))(h1 : ¬(decide (a < -(2 ^ 63)) || decide (a>=2 ^ 63))=cL)(h2 : ¬(items.isEmpty || a==1)=cL)
 (O : ¬(decide (a<=0) || items.isEmpty)=cL) (Y : ¬((items.size:Int)*a>(2 ^ 63 - 1)/8)) (h5 : ¬Builtin.Tuple.tupleTooMany ((items.size:Int)*a)=cL) (hz:((NB a.toNat items).foldl (· ++ ·) #[]).size<=kv) :
 G8 (wy.«tuple.__mul__» ⟨[.ref l,.int a t],[]⟩) (λ_ R s=>s.heap.get? l=cI {cls:= .type "tuple",dict:=I,data:= .seq items n,slots:=sl}/\
  R (.ok (.ret (.ref s.heap.objs.size))) {s with heap:=s.heap.push {cls:= .type "tuple",data:= .seq ((NB a.toNat items).foldl (· ++ ·) #[])}}):=
 .of_wp λprog w A R s h=>by
  obtain⟨hp,g,d,tk,os⟩:=s;obtain⟨z,h⟩:=h
  wp_walk using Rq z
  rw[DJ h1];refine Nt<|Ua (s:=⟨hp,g,d,tk,os⟩) ⟨_,z,rfl,n,rfl⟩ ?_;dsimp only;rw[DJ h2,DJ O,DJ Y,DJ h5];refine Nt (m:=IW _)<|Ox ?_ hz;exact Nz ⟨_,rfl,h⟩
theorem J1(a:Int)(t:z8)(l:d8)(items:Array fm)(n:Nat)(I:Option d8)(sl:Array (Option fm))(h1 : ¬(decide (a < -(2 ^ 63)) || decide (a>=2 ^ 63))=cL)(h2 : ¬(items.isEmpty || a==1)=cL)
 (O:(decide (a<=0) || items.isEmpty)=cL) :
 G8 (wy.«tuple.__mul__» ⟨[.ref l,.int a t],[]⟩) (λ_ R s=>s.heap.get? l=cI {cls:= .type "tuple",dict:=I,data:= .seq items n,slots:=sl}/\
  R (.ok (.ret (.ref s.heap.objs.size))) {s with heap:=s.heap.push {cls:= .type "tuple",data:= .seq #[]}}):=
 .of_wp λprog w A R s h=>by
  obtain⟨Y,g,d,tk,os⟩:=s;obtain⟨z,h⟩:=h
  wp_walk using Rq z
  rw[DJ h1];refine Nt<|Ua (s:=⟨Y,g,d,tk,os⟩) ⟨_,z,rfl,n,rfl⟩ ?_;dsimp only;rw[DJ h2,DZ O];refine Nt (m:=IW _)<|Ox ?_ (Pf _);exact Nz ⟨_,rfl,h⟩
theorem J0(a:Int)(t:z8)(l:d8)(items:Array fm)(n:Nat)(I:Option d8)(sl:Array (Option fm))(h1 : ¬(decide (a < -(2 ^ 63)) || decide (a>=2 ^ 63))=cL)(h2:(items.isEmpty || a==1)=cL) :
 G8 (wy.«tuple.__mul__» ⟨[.ref l,.int a t],[]⟩) (λ_ R s=>s.heap.get? l=cI {cls:= .type "tuple",dict:=I,data:= .seq items n,slots:=sl}/\R (.ok (.ret (.ref l))) s):=
 .of_wp λprog w A R s h=>by
  obtain⟨O,g,d,Y,os⟩:=s;obtain⟨z,h⟩:=h
  wp_walk using Rq z
  rw[DJ h1];refine Nt (Ua (s:=⟨O,g,d,Y,os⟩) ⟨_,z,rfl,n,rfl⟩ ?_);dsimp only;rw[DZ h2];refine Nt (m:=RO _) ?_;unfold RO;refine Nt (SU (T:="tuple") ⟨_,z,rfl⟩ (Nz ?_));rw[DZ ⋯];exact Nt (TR (Nz ⟨_,rfl,h⟩))
section
variable{X:Cx}
def Ci(K:Nr):R2:=λx y H Q=>∃l k xs,x = .ref l/\y = .int k/\k0 K H l xs/\ -(2 ^ 62)<=k/\k<2 ^ 62/\xs.length*k.toNat<=kv/\(xs=[]\/k=1->Q (.ref l) H)/\
 ∀p,H p=cR->Q (.ref p) (upd H p<|.tup (NB k.toNat xs).flatten)
theorem uT:n4 X (Df .Mult) (Ci X.K):=by
 intro pins s σ H x y v u Q I rx ry h;obtain⟨l,k,xs,rfl,rfl,hq,h1,h2,hz,q1,q2⟩:=h;cases rx;obtain⟨t,rfl⟩:=ry;obtain⟨z,r,ht,z1⟩:=I.tuple hq;obtain⟨⟨cls,dd,data,sl⟩,O,hc,n,hd⟩:=id ht;simp only at hc hd;subst hc hd;have ab:=r.length;have g1 : ¬(decide (k < -(2 ^ 63)) || decide (k>=2 ^ 63))=cL:=by simp;omega
 refine wpAny_binaryOp_repeat_ref (T:="tuple") (U:="int") ⋯ ⟨_,O,rfl⟩ (λs'=>_y s' k t) Zq F.fills_int_mul F.slot_int_rmul Yl F.slot_int_index.lookup
  (SD F.slot_int_rmul (_y s k t) F.entry_int_rmul (F.args_int_rmul_2 _ _) (QB k t l z.toArray n dd sl) ⟨O,rfl,⟨_,O,rfl⟩,?_⟩)
 have f0 : ∀m:Nat,List.foldl (λx1 x2=>x1++x2) #[] (NB m z.toArray)=(NB m z).flatten.toArray:=λm=>by have:=YX z m [];rw[List.nil_append]at this;exact this
 by_cases g2:(z.toArray.isEmpty || k==1)=cL
 ·refine SD SV ⟨_,O,rfl⟩ UT (UJ _ _) (J0 k t l z.toArray n dd sl g1 g2) ⟨O,⟨.ref l,H,I,rfl,q1 ?_⟩⟩
  rw[OZ]at g2;rcases g2 with g | g
  ·left
   have:z=[]:=by simpa using g
   exact(r.M8).mp this
  ·right;simpa using g
 ·have a3:=g2
  simp only[OZ,not_or]at a3;have ac:z ≠ []:=by intro e;exact a3.1 (by rw[e];rfl)
  have ak:0<z.length:=List.length_pos_iff.mpr ac;by_cases Y:(decide (k<=0) || z.toArray.isEmpty)=cL
  ·have hk:k.toNat=0:=by
    rw[OZ]at Y;rcases Y with g | g
    ·have:=of_decide_eq_true g;omega
    ·exact absurd g a3.1
   refine SD SV ⟨_,O,rfl⟩ UT (UJ _ _) (J1 k t l z.toArray n dd sl g1 g2 Y) ⟨O,?_⟩;refine⟨.ref s.heap.objs.size,_,I.laid (t':=s.toks) (o:= .tup (NB k.toNat xs).flatten) (λc ob q=>Nv _ q) (NJ _) ?_,rfl,q2 _<|I.i7.fresh<|NJ _⟩;rw[hk];exact⟨Pf _,[],.nil,DC.new _ _⟩
  ·have hk : ¬k<=0:=by intro g;exact Y (by rw[OZ];exact .inl<|decide_eq_true g)
   have hsz:z.length*k.toNat<=kv:=by rw[<- ab];exact hz
   have am:((z.toArray.size:Nat):Int)*k<=(kv:Int):=by
    rw[NK];have e:((z.length*k.toNat:Nat):Int)=(z.length:Int)*k:=by rw[Int.natCast_mul,Uw ⋯]
    omega
   have an:kv=16777216:=To;have ag:(List.foldl (λx1 x2=>x1++x2) #[] (NB k.toNat z.toArray)).size<=kv:=by rw[f0,NK,gY,UL];exact hsz
   refine SD SV ⟨_,O,rfl⟩ UT (UJ _ _) (XM k t l z.toArray n dd sl g1 g2 Y ⋯ (by unfold Builtin.Tuple.tupleTooMany;simp only[decide_eq_true_eq];omega) ag) ⟨O,?_⟩;rw[f0];refine⟨.ref s.heap.objs.size,_,I.laid (t':=s.toks) (o:= .tup (NB k.toNat xs).flatten) (λc ob q=>Nv _ q) (NJ _) ?_,rfl,q2 _<|I.i7.fresh<|NJ _⟩;exact⟨by rw[gY,UL];exact hz,_,r.rep k.toNat,DC.new _ _⟩
theorem tW{K:Nr}:vv K (λx y H Q=>rI G6 (λi j=> .int (i*j)) x y H Q\/Ci K x y H Q) kQ:=λH0 H x y dx Y d Q s rx I z q=>by
 cases dx<;>cases Y<;>simp[kQ]at z
 ·obtain⟨e1,e2⟩:=z
  subst e2;exact .inl ⟨_,_,jI rx,jI I,pM e1,q _ H H0 (Ext.refl s) rfl⟩
 ·rename_i ds j
  obtain⟨⟨hl,hj⟩,rfl⟩:=z;obtain⟨a,xs,rfl,h1,h2⟩:=kZ rx;obtain⟨q1,q2⟩:=Kn hj;refine .inr ⟨a,j,xs,rfl,jI I,o5 s h1,q1,q2,yc (by rw[h2.length];exact hl),λe=>?_,λp O=>?_⟩
  ·refine q _ H H0 (Ext.refl s) ?_
   rcases e with e | e
   ·have e2:ds=[]:=by
     have:=h2.length;rw[e]at this;exact Ov this.symm
    subst e2;rw[show(NB j.toNat ([]:List D)).flatten=[]by simp];exact qO h1 h2
   ·subst e
    rw[show(NB (1:Int).toNat ds).flatten=ds by simp];exact qO h1 h2
  ·exact q _ _ _ (Ext.alloc s O _)<|qO (k0.of zC)<|(W0 h2 _).mono (zX (jq s O) _)
theorem qv(ha:PV X a fa)(hb:PV X b fb):PV X (.BinOp a .Mult b pos) (zw kQ fa fb):=QX (H?.or uT) tW ha hb
end
end DL
namespace DL
open PySem PySem.Spec PyProof.Rows L2
theorem RC.z?{K:Nr}{H0 H:Hp}{σ:St}{γ:Ctx}{i:Nat}{ds:List D}{a:d8}{xs:List V}(r:RC K H0 H σ γ)(e:γ[i]? = cI (.own ds))(h1:σ[i]? = cI (cI (.ref a)))(h2:H0 a=cR)(h3:H a=cI (.lst xs))(h4:f6 K H0 ds xs):RC K (L2.upd H0 a<|.lst xs) H σ (γ.set i<|.val<|.lst ds):=by
 refine⟨λb o q=>?_,by simp[r.len],λj d g=>?_,λj es g=>?_,λj k b es fs e1 e2 e3 e4=>?_,⟨λj rows g=>?_,λj k r1 r2 e1 e2=>?_⟩⟩
 ·by_cases z:b=a
  ·subst z;rw[zC]at q;rw[h3];exact q
  ·rw[zH z]at q;exact r.sub b o q
 ·rcases zN g with⟨rfl,z,hl⟩ | ⟨I,z⟩
  ·cases z;exact⟨_,h1,wI (lK.of zC)<|h4.mono<|zX h2 _⟩
  ·obtain⟨v,O,g2⟩:=r.val j d z
   exact⟨v,O,g2.mono<|zX h2 _⟩
 ·rcases zN g with⟨_,z,_⟩ | ⟨I,z⟩
  ·cases z
  ·obtain⟨b,ys,O,g2,g3,g4⟩:=r.own j es z
   refine⟨b,ys,O,?_,g3,g4.mono<|zX h2 _⟩;rw[zH (λq=>I<|r.ne j i a es ds z e (by rw[O,q]) h1)];exact g2
 ·rcases zN e1 with⟨_,z,_⟩ | ⟨I,z1⟩
  ·cases z
  ·rcases zN e2 with⟨_,z,_⟩ | ⟨hk,z2⟩
   ·cases z
   ·exact r.ne j k b es fs z1 z2 e3 e4
 ·rcases zN g with⟨_,z,_⟩ | ⟨I,z⟩
  ·cases z
  ·obtain⟨b,bs,f1,f2,f3⟩:=r.wq.1 j rows z
   have aa:=f3 i ds a e h1;refine⟨b,bs,f1,f2.move (zX h2 _) (λc Y=>by rw[zH (λq=>aa<|by rw[<- q];exact Y)];exact(f2.at Y).1)<|λc Y=>rfl,λk fs c e1 e2=>?_⟩;rcases zN e1 with⟨_,z,_⟩ | ⟨_,z1⟩
   ·cases z
   ·exact f3 k fs c z1 e2
 ·rcases zN e1 with⟨_,z,_⟩ | ⟨_,z1⟩
  ·cases z
  ·rcases zN e2 with⟨_,z,_⟩ | ⟨_,z2⟩
   ·cases z
   ·exact r.wq.2 j k r1 r2 z1 z2
end DL
namespace L2
open PySem PySem.Spec PyProof.Rows
open AutoSeq1 (wpAny_loadPart')
section
variable{prog:m4}{w:l0}{A:p4}{E:EQ}{s:gx}
theorem dA{z it l:d8}{n:Nat}{xs:Array fm}{x Y:fm}{Q:EQ}(hz:C6 s.heap z it n Y)(h1:rq .T s.heap it l n)(hl:wa .T s.heap l xs)(hx:xs[n]? = cI x)(a2:z≠it)
 (hQ : ∀g,O8 g z it ((n:Int)+1) x s.heap.objs.size->rq .T g it l (n+1)->vt g s.heap.objs.size (.int n s.toks) x->g.objs.size=s.heap.objs.size+1->
   (∀c o,c≠z->c≠it->s.heap.get? c=cI o->g.get? c=cI o)->Q (.ref s.heap.objs.size) {s with heap:=g,toks:=s.toks+1}) :
 wpAny (gv prog w) A (wy.«enumerate.__next__» ⟨[.ref z],[]⟩) (λb9 s'=>∃v,b9 = .done (.ret v)/\Q v s') E s:=by
 refine Nt (m:=field (.ref z) 2) (Pa hz rfl (x:= .ref it) rfl ?_);refine Nt (m:=Ow (.ref it)) (vT h1 hl hx λg1 ba a6=>?_);have a7:C6 g1 z it n Y:=a6.extBut _ _ a2 hz;refine Nt (m:=field (.ref z) 3) (Pa a7 rfl (x:=zt n) rfl ?_);refine Nt (m:=field (.ref z) 4) (Pa a7 rfl (x:= .none) rfl ?_);refine Nt (m:=mkInt n) (wpAny_mkInt ?_);refine Nt (m:=IH (.ref z) 3 (zt ((n:Int)+1))) (D2 a7 ⋯ λg2 a8 a9=>?_);replace a8:C6 g2 z it ((n:Int)+1) Y:=a8;refine Nt (m:=IH (.ref z) 4 .none) (D2 a8 ⋯ λg3 aa ab=>?_);replace aa:C6 g3 z it ((n:Int)+1) Y:=aa;refine Nt (m:=M7 [.int n s.toks,x]) (wpAny_newTuple ?_);have a3:C6 (g3.push {cls:= .type "tuple",data:= .seq #[.int n s.toks,x]}) z it ((n:Int)+1) Y:=Nv _ aa;generalize a4:g3.push {cls:= .type "tuple",data:= .seq #[.int n s.toks,x]}=O at a3;have y1:g1.objs.size=s.heap.objs.size:=a6.1;have y2:g2.objs.size=g1.objs.size:=a9.1;have y3:g3.objs.size=g2.objs.size:=ab.1;have hsz:g3.objs.size=s.heap.objs.size:=by rw[y3,y2,y1]
 have bg:z<s.heap.objs.size:=NR hz;have bi:vt O s.heap.objs.size (.int n s.toks) x:=by show O.get? _=_;rw[<- a4,<- hsz];exact NO _ rfl
 have y4:O.objs.size=s.heap.objs.size+1:=by rw[<- a4,OB,hsz]
 have bm : ∀c o,c≠z->c≠it->s.heap.get? c=cI o->O.get? c=cI o:=λc o I c2 e=>by rw[<- a4];exact Nv _<|ab.extBut _ _ I<|a9.extBut _ _ I<|a6.extBut _ _ c2 e
 have bn:rq .T O it l (n+1):=ba.at λo e=>by rw[<- a4];exact Nv _<|ab.extBut _ _ a2.symm<|a9.extBut _ _ a2.symm e
 refine Nt (m:=OU<|.ref z) ?_;unfold OU;refine Nt<|Pa a3 rfl (x:= .none) rfl<|Nz ?_;simp only[if_true];refine Nt<|TR<|Nt<|Pa a3 rfl (x:=Y) rfl ?_;refine Nt<|D2 a3 ⋯ λg5 ag ap=>?_;replace ag:C6 g5 z it ((n:Int)+1) x:=ag;rw[hsz];refine Nt (m:=PU (.ref z)<|.ref s.heap.objs.size) ?_;unfold PU;refine Nt<|D2 ag ⋯ λg6 ak ar=>?_;replace ak:O8 g6 z it ((n:Int)+1) x s.heap.objs.size:=ak;refine D2 ak ⋯ λg7 am as=>?_;replace am:O8 g7 z it ((n:Int)+1) x s.heap.objs.size:=am;have up : ∀c o,c≠z->O.get? c=cI o->g7.get? c=cI o:=λc o I e=>as.extBut _ _ I<|ar.extBut _ _ I<|ap.extBut _ _ I e;have zau:g7.objs.size=s.heap.objs.size+1:=by have q5:g5.objs.size=O.objs.size:=ap.1;have q6:g6.objs.size=g5.objs.size:=ar.1;have q7:g7.objs.size=g6.objs.size:=as.1;rw[q7,q6,q5,y4]
 exact Nt<|wpAny_letGo<|Nz ⟨_,rfl,hQ g7 am (bn.at λo e=>up _ o a2.symm e) (up _ _ (PZ bg) bi) zau λc o I c2 e=>up c o I<|bm c o I c2 e⟩
theorem iN{z it l:d8}{n:Nat}{xs:Array fm}{I:fm}{Q:Fin->gx->Prop}(O:A.handled=cR)(hz:C6 s.heap z it n I)(h1:rq .T s.heap it l n)(Y:wa .T s.heap l xs)(hx:xs[n]? = cR)
 (hE : ∀g e,Heap.ExtBut it s.heap g->(∃o,g.get? e=cI o/\o.cls = .type "StopIteration")->E (.ref e) {s with heap:=g}) :
 wpAny (gv prog w) A (wy.«enumerate.__next__» ⟨[.ref z],[]⟩) Q E s:=
 Nt (m:=field (.ref z) 2) (Pa hz rfl (x:= .ref it) rfl<|Nt (m:=Ow<|.ref it)<|Ke O h1 Y hx hE)
end
def Az(i:d8):o8:={cls:= .type "enumerate",data:= .fields #[.none,.bool d7,.ref i,zt 0,.none,.none]}
def JB(h:je)(l:d8):je:=OY (OY h<|u4 .T l)<|Az h.objs.size
theorem iM(l:d8)(xs:Array fm) :
 G8 (wy.«enumerate.__new__» ⟨[.type "enumerate",.ref l],[]⟩) (λ_ R s=>wa .T s.heap l xs/\R (.ok (.ret (.ref (s.heap.objs.size+1)))) {s with heap:=JB s.heap l}):=
 .of_wp λprog w A R s h=>by
  obtain⟨Y,g,d,tk,os⟩:=s;obtain⟨hl,h⟩:=h;have a2:=sub_enumerate;have z:Heap.IsTuple (Shared.heap ⟨Y,g,d,tk,os⟩) l xs:=hl;obtain⟨o,I,O,m,hd⟩:=id z;obtain⟨cls,n0,a3,sl⟩:=o;simp only at O hd;subst O hd;simp only[JB,Az,u4,OB]at h
  wp_walk using Rq I
  refine wpAny_stack_any λst=>Nz ?_;split
  ·rename_i c _ _ _ _ _
   cases (c==RB "enumerate")<;>(wp_walk using Rq I,Tw z;exact⟨_,rfl,by simpa[OB,_X]using h⟩)
  ·wp_walk using Rq I,Tw z
   exact⟨_,rfl,by simpa[OB,_X]using h⟩
def O9(K:Nr)(a:d8):It:=
 ⟨λi H=>∃xs,r6 .T K H a xs/\i<xs.length,
  λi H x H'=>∃p u,x = .ref p/\H p=cR/\H'=upd H p (.tup [.int i,u])/\(∀xs,r6 .T K H a xs->xs[i]? = cI u),
  λi H=>∃xs,r6 .T K H a xs/\xs.length<=i⟩
theorem kO(hz:C6 s.heap z it n old)(h:Q (.ref z) s):wpAny (gv prog w) A (IE (.ref z)) Q E s:=by have I:s.TypeIs (.ref z) "enumerate":=⟨_,hz,rfl⟩;refine UX I F.slot_enumerate_iter (OI F.slot_enumerate_iter I F.entry_enumerate_iter ?_ (F.args_enumerate_iter_1 _));have O:wpAny (gv prog w) A.in1 (ret (.ref z)) (λO s'=>∃v,O = .done (.ret v)/\∃T m,s'.TypeIs v T/\O1 (.type T) "__next__" = pure (cI m)/\Q v s') E s:=Nz ⟨_,rfl,"enumerate",_,I,Sh.lookup,h⟩;exact O
theorem eS{P:m4}{w:l0}{K:Nr}{elts:List f7}{x1:Nat}{sX:kr}{z it a:d8}(ae:z≠it) :
 Turn P w K (.Tuple elts x1 sX) (O9 K a) [z,it] z (λi h=>(∃Y,C6 h z it i Y)/\rq .T h it a i) where
 mem:=by simp
 obj:=λi h ⟨⟨Y,hz⟩,h1⟩ y hy=>by
  simp only[NP,Oc,or_false]at hy;rcases hy with rfl | rfl
  ·exact⟨_,hz,λv q=>by cases q⟩
  ·exact h1.obj
 keep:=λi h h' ⟨⟨Y,hz⟩,h1⟩ k=>⟨⟨Y,k z ⋯ _ hz⟩,h1.at λo e=>k it ⋯ o e⟩
 item:=by
  rintro X hP hw hK hc i pins s σ H E I hf ⟨⟨Y,hz⟩,h1⟩ ⟨xs,a7,am⟩;subst hP hw hK;obtain⟨an,aa,p1,z1⟩:=I.sq a7;have hx:xs[i]? = cI xs[i]:=Nw am;obtain⟨u1,ap,ar⟩:=aa.get hx;have hT:s.TypeIs (.ref z) "enumerate":=⟨_,hz,rfl⟩;unfold B4;refine Nt (So (OD (name:=OJ "__next__") hT Sh (OI Sh hT F.entry_enumerate_next
   (dA hz h1 p1 (x:=u1) (by simpa using ap) ae λg a1 a2 a3 a4 a5=>Nz ⟨_,rfl,?_⟩) (F.args_enumerate_next_1 _))))
  refine zal a1 λg2 ba ac=>?_;have lt : ∀{c o},s.heap.get? c=cI o->s.heap.objs.size≠c:=λe=>PZ<|NR e;have bb:vt g2 s.heap.objs.size (.int i s.toks) u1:=ac.extBut _ _ (lt hz) a3;have kk : ∀O u,O ∉ [z,it]->s.heap.get? O=cI u->g2.get? O=cI u:=λO u hb e=>by simp only[NP,Oc,or_false,not_or]at hb;exact ac.extBut _ _ hb.1<|a5 O u hb.1 hb.2 e
  have I1:Inv X pins σ (upd H s.heap.objs.size<|.tup [.int i,xs[i]]) {s with heap:=g2,toks:=s.toks+1}:=
   I.x_ (fp:=[z,it]) kk hf (NJ _) ⟨by show 2<=kv;decide,[.int i s.toks,u1],.cons ⟨_,rfl⟩<|.cons ar .nil,⟨_,bb,rfl,_,rfl⟩⟩
  have be:H s.heap.objs.size=cR:=I.fresh;refine⟨.ref s.heap.objs.size,_,I1,rfl,⟨_,_,rfl,be,rfl,λbx bg=>by rw[I.f' bg a7];exact hx⟩,?_,λO hb=>?_⟩
  ·exact⟨⟨_,by have:=ba;rwa [show((i:Int)+1)=((i+1:Nat):Int)by omega]at this⟩,a2.at λo e=>ac.extBut _ _ ae.symm e⟩
  ·have bi:O≠s.heap.objs.size:=by
    simp only[NP,Oc,or_false]at hb;rcases hb with rfl | rfl
    ·exact(lt hz).symm
    ·obtain⟨o,e,_⟩:=h1.obj;exact(lt e).symm
   rw[zH bi];exact(hf O hb).1
 done:=by
  rintro X hP hw hK hc i pins s σ H E I hf ⟨⟨Y,hz⟩,h1⟩ ⟨xs,a7,hi⟩;subst hP hw hK;obtain⟨an,aa,p1,z1⟩:=I.sq a7;have hT:s.TypeIs (.ref z) "enumerate":=⟨_,hz,rfl⟩;have l1:=aa.length;unfold B4;refine Nt (So (OD (name:=OJ "__next__") hT Sh (OI Sh hT F.entry_enumerate_next
   (iN (show X.A.handled=cR from I.ok.hd hc) hz h1 p1 (by simp;omega) λg e hk he=>?_) (F.args_enumerate_next_1 _))))
  obtain⟨o,ho,bn⟩:=he;refine Nt (Ud (T:="StopIteration") (b:=cL) ⟨o,ho,bn⟩ UD (Nz ⟨rfl,?_⟩));refine I.IJ (t':=s.toks) (fp:=[z,it]) (λO u hb e=>?_) hf;simp only[NP,Oc,or_false,not_or]at hb;exact hk O u hb.2 e
 self:=λ_ _ _ _ _ st h=>kO st.1.choose_spec h
def Ic(K:Nr)(ta:TA):TI:=λσ H R=>ta σ H λvs H1=>∃a,vs=[.ref a]/\(∃xs,r6 .T K H1 a xs)/\R (O9 K a) H1
theorem uH{X:Cx}{e1:f7}{ta:TA}{p pos:kr}{elts:List f7}{x1:Nat}{sX:kr}(hg:Gl X "enumerate")(hm:X.mg "enumerate" = cR)(ha:PA X [e1] ta)
 (hv:D5 "enumerate" = cI (.type "enumerate")) (hs:i6 [e1] X.env=[(d7,f9 e1 X.env)]:=by rfl) :
 PI X (.Tuple elts x1 sX) (.Call (.Name "enumerate" p) [e1] [] pos) (Ic X.K ta):=by
 intro pins s σ H R I h;refine G7<|yq I hg hm hv<|OT (ip (ha pos pins s σ H _ I h) λus s1 hZ=>?_) (by rw[hs];rfl) rfl;obtain⟨vs,H1,z,r1,q1⟩:=hZ;obtain⟨a,e,⟨xs,a7⟩,q⟩:=q1;subst e;obtain⟨w1,eu,a9⟩:=yw r1;subst eu;cases a9;obtain⟨aa,ae,Y,z1⟩:=z.sq a7;have la:=Y.lt;refine g? F.called_enumerate ⋯ (F.typeCall_enumerate_1 _) (F.newCall_enumerate_1 _) (λobj=>F.args_object_init_2 obj _) F.entry_enumerate_new (iM a aa.toArray) ⟨Y,?_⟩;have keep : ∀c o,s1.heap.get? c=cI o->(JB s1.heap a).get? c=cI o:=λc o e=>Nv _<|Nv _ e;have y1:(OY s1.heap<|u4 .T a).objs.size=s1.heap.objs.size+1:=OB ..;have g0:rq .T (JB s1.heap a) s1.heap.objs.size a 0:=(Xo .T s1.heap a).at λo e=>Nv _ e;have O:C6 (JB s1.heap a) (s1.heap.objs.size+1) s1.heap.objs.size 0 .none:=by have q:=NO (OY s1.heap<|u4 .T a) (o:=Az s1.heap.objs.size) rfl;rw[y1]at q;exact q
 refine⟨⟨_,O,rfl⟩,kO (s:={s1 with heap:=JB s1.heap a}) O ?_⟩;have I2:Inv X pins σ H1 {s1 with heap:=JB s1.heap a,toks:=s1.toks}:=z.kept keep;refine⟨_,[s1.heap.objs.size+1,s1.heap.objs.size],_,_,H1,rfl,I2,eS<|PZ<|OW _,⟨⟨_,O⟩,g0⟩,λc hc=>?_,q⟩;have a1:s1.heap.objs.size<=c:=by
  simp only[NP,Oc,or_false]at hc;rcases hc with rfl | rfl
  ·exact OX _ _
  ·exact NJ _
 exact z.FZ a1<|z.i7.fresh a1
end L2
namespace DL
open PySem PySem.Spec PyProof.Rows L2
theorem YN{K:Nr}{H:Hp} : ∀{ds:List D} {xs:List V} {l:List Int},f6 K H ds xs->Kl ds=cI l->xs=l.map V.int
 | [],xs,l,r,e=>by cases e;rw[show xs=[]from r];rfl
 | d::ds,xs,l,r,e=>by
  obtain⟨x,r',rfl,z,r2⟩:=(show ∃x r,xs=x::r/\Rep K H d x/\f6 K H ds r from r);cases d with
  | int i=>
   obtain⟨l',e1,rfl⟩:=zv (show(Kl ds).map (λl=>i::l)=cI l from e);rw[YN r2 e1,show x = .int i from z];rfl
  | _=>cases e
theorem YY : ∀l:List Int,(l.map V.int).all Ku=cL
 | []=>rfl
 | i::l=>by simp only[NY,List.all_cons,YY l,Bool.and_true];rfl
theorem iB(i:Int) : ∀l:List Int,MR (.int i) (l.map V.int)=decide (i∈l)
 | []=>rfl
 | j::l=>by
  have z:=iB i l;unfold MR at z ⊢;rw[NY,Tz,z];have e:D9 (.int j) (.int i)=(j==i):=rfl;rw[e];by_cases h:i=j
  ·subst h
   rw[beq_self_eq_true,Bool.true_or];exact(decide_eq_true NL).symm
  ·rw[beq_false_of_ne (OQ h),Bool.false_or]
   exact decide_eq_decide.mpr ⟨λq=>NN _ q,λq=>(NP.mp q).resolve_left h⟩
theorem eC{K:Nr}{H0 Hs:Hp}{a:d8}{xs:List V}{ds:List D}(h:k0 K Hs a xs)(r:f6 K H0 ds xs):Walk K H0 Hs (O9 K a) (xF ds):=by
 have hl:=r.length;have hz:(xF ds).length=ds.length:=by simp[xF]
 refine⟨λi H1 s hi=>?_,λH1 s=>?_,λi H1 x C5 s hi y=>?_⟩
 ·exact⟨xs,o5 s h,by omega⟩
 ·exact⟨xs,o5 s h,by omega⟩
 ·obtain⟨p,u,e1,z,e2,I⟩:=y
  obtain⟨d,hd,O⟩:=r.Gx<|I xs<|o5 s h;refine⟨.tup [.int i,d],?_,λG0 s1 s2=>⟨upd G0 p<|.tup [.int i,u],?_,?_⟩⟩
  ·have Y:i<ds.length:=by omega
   unfold xF;rw[NT,ON Y,NZ,hd];rfl
  ·rw[e2];exact Ext.alloc s2 z _
  ·rw[e1]
   exact qO (k0.of zC)<|f6.cons (show V.int i = .int i from rfl)<|f6.cons ((O.mono s1).mono (zX (jq s2 z) _)) f6.nil
section
variable{X:Cx}{sc:mu}{N L:List Str}{k:Nat}{a b c:f7}{pos p:kr}{f fa fb fc:CO D}
theorem aj(h:SX X sc N L k)(c:yZ sc "enumerate" = cL)(z:X.mg "enumerate" = cR)(ha:PV X a f)(hs:i6 [a] X.env=[(d7,f9 a X.env)]:=by rfl) :
 o9 X (.Tuple elts x1 sX) (.Call (.Name "enumerate" p) [a] [] pos) (Vw f):=
 Ka (uH (h.gl c).1 z (zP ha jJ hs) O' hs) λσ H R Y=>by
  obtain⟨H0,γ,ds,rc,I,q⟩:=Y;obtain⟨d,e0,I⟩:=zb I;cases d with
  | tup es=>
   cases I;refine⟨H0,γ,_,rc,e0,λv H' eg x r=>?_⟩;obtain⟨a1,xs,rfl,O,g2⟩:=kZ r;exact⟨a1,rfl,⟨xs,o5 x.sub O⟩,q _ H' eg x<|eC O g2⟩
  | _=>cases I
theorem nD(ho:n4 X (wW op) r)(a5:n4 X (wW LV) r')(s1:vv X.K r F)(s2:vv X.K r' G)(ha:PV X a fa)(hb:PV X b fb)(hc:PV X c fc)
 (hm:T7 [op,LV] [b,c]=d7:=by with_unfolding_all rfl):PV X (.Compare a [op,LV] [b,c] pos) (yC F G fa fb fc):=
 j4 (nY ho a5 ha hb hc hm) λσ H Q hZ=>by
  obtain⟨H0,γ,d,rc,I,q⟩:=hZ;obtain⟨x,e1,I⟩:=zb I;obtain⟨y,e2,I⟩:=zb I;obtain⟨k,e3,I⟩:=zb I;obtain⟨bb,e4,e5⟩:=zb e3;refine⟨H0,γ,x,rc,e1,λv1 H1 ab x1 r1=>⟨ab,γ,y,rc.ext x1,e2,λv2 H2 ae O r2=>s1 ae H2 v1 v2 x y bb _ O.sub (r1.mono O.s0) r2 e4 λv3 H3 a3 x3 r3=>?_⟩⟩;cases bb with
  | bl k'=>
   cases e5;refine⟨k,show v3 = .bl k from r3,?_⟩;cases k with
   | true=>
    rw[DZ rfl];rw[DZ rfl]at I;obtain⟨z,e6,e7⟩:=zb I;exact⟨a3,γ,z,((rc.ext x1).ext O).ext x3,e6,λv4 H4 ax Y r4=>s2 ax H4 v2 v4 y z d _ Y.sub ((r2.mono x3.s0).mono Y.s0) r4 e7 λv5 H5 bd x5 r5=>q v5 H5 bd (((x1.trans O).trans x3).trans (Y.trans x5)) r5⟩
   | false=>
    rw[DJ ⋯];rw[DJ ⋯]at I;cases I;exact q _ H3 a3 ((x1.trans O).trans x3) rfl
  | _=>cases e5
end
theorem vC : ∀{l:List Int} {us:List fm},i8 (l.map V.int) us->∀i,i<us.toArray.size->∃z u,us.toArray[i]? = cI (.int z u)/\l[i]? = cI z
 | [],us,r,i,hi=>by cases r;exact absurd hi<|Ob _
 | z::l,u::us,.cons r t,i,hi=>by
  cases i with
  | zero=>
   obtain⟨I,rfl⟩:=r;exact⟨z,I,by simp,by simp⟩
  | succ i=>
   obtain⟨O,Y,e1,e2⟩:=vC t i (by simpa using hi);exact⟨O,Y,by simpa using e1,by simpa using e2⟩
def tN(K:Nr)(f:CO (List<|List D)):TE:=λσ H Q=>∃H0 γ rows,RC K H0 H σ γ/\f γ=cI rows/\
 ∀a bs H' eg,Ext H0 H eg H'->(∀b∈a::bs,H b=cR)->FU K eg H' rows a bs->Q (.ref a) H'
def C8(K:Nr)(H0 H:Hp)(rows:List (List D))(bs:List d8):Prop:=bs.length=rows.length/\∀(k:Nat) b row,bs[k]? = cI b->rows[k]? = cI row->H0 b=cR/\∃xs,H b=cI (.lst xs)/\f6 K H0 row xs
theorem C8.at{K:Nr}{H0 H:Hp}{rows:List (List D)}{bs:List d8}(n:C8 K H0 H rows bs){b:d8}(hb:b∈bs):H0 b=cR/\∃xs,H b=cI (.lst xs):=by obtain⟨k,hk⟩:=SR hb;have z:=(NC.mp hk).1;rw[n.1]at z;obtain⟨h1,xs,h2,_⟩:=n.2 k b _ hk<|Nw z;exact⟨h1,xs,h2⟩
theorem C8.ext{K:Nr}{H0 H eg H':Hp}{rows:List (List D)}{bs:List d8}(n:C8 K H0 H rows bs)(e:Ext H0 H eg H'):C8 K eg H' rows bs:=
 ⟨n.1,λk b row h1 h2=>by obtain⟨z,xs,g2,I⟩:=n.2 k b row h1 h2;exact⟨e.new b z (by rw[g2];simp),xs,e.s1 _ _ g2,I.mono e.s0⟩⟩
theorem C8.add{K:Nr}{H0 H:Hp}{rows:List (List D)}{bs:List d8}{b:d8}{row:List D}{xs:List V}(n:C8 K H0 H rows bs)(h1:H0 b=cR)(h2:H b=cI (.lst xs))(I:f6 K H0 row xs):C8 K H0 H (rows++[row]) (bs++[b]):=
 ⟨by simp[n.1],λk c r e1 e2=>by
  rcases NU k bs.length with z | z
  ·rw[Oi z]at e1
   rw[Oi (by rw[<- n.1];exact z)]at e2;exact n.2 k c r e1 e2
  ·rw[Dt z]at e1
   rw[Dt (by rw[<- n.1];exact z)]at e2;have hk:k - bs.length=0:=by have:=(NC.mp e1).1;simp at this;omega
   rw[hk]at e1;rw[<- n.1,hk]at e2;cases e1;cases e2;exact⟨h1,xs,h2,I⟩⟩
theorem C8.hide{K:Nr}{H0 H:Hp}{rows:List (List D)}{bs:List d8}{z:d8}{o:HO}(n:C8 K H0 H rows bs)(h:z∉bs):C8 K H0 (upd H z o) rows bs:=
 ⟨n.1,λk b row h1 h2=>by obtain⟨I,xs,g2,O⟩:=n.2 k b row h1 h2;exact⟨I,xs,by rw[zH (λq=>h<|by rw[<- q];exact Og h1)];exact g2,O⟩⟩
section
variable{K:Nr}{own:List Str}{fr:List (Str×Nat)}{src:CO (List D)}{T:Tg}{f:CO (List D)}
theorem dC(hT : ∀i∈T.idx,i<own.length){tt:TT}(c4 : ∀σ H Q,tT K jS σ H Q->tt σ H Q) : ∀σ H Q,tN K (WW src T own.length (fr.map (·.2)) f) σ H Q->eZ (n_ K src) own fr (xk K T) tt (tO K f) σ H Q:=λσ H Q hZ=>by
 obtain⟨H0,γ,rows,rc,ef,q⟩:=hZ;obtain⟨items,e1,ef⟩:=zb ef;by_cases hl:items.length<=lim
 ·rw[DZ hl]at ef
  refine⟨H0,γ,items,rc,e1,λJ H1 ac x1 wk D hD=>?_⟩;have ae : ∀(i:Nat) es,(jA own.length (fr.map (·.2)) γ)[i]? ≠ cI (.own es):=λi es h=>by rcases qw h with z | ⟨d',j,z,_⟩<;>cases z
  have ag : ∀(i:Nat) es,(jA own.length (fr.map (·.2)) γ)[i]? ≠ cI (.nest es):=λi es h=>by rcases qw h with z | ⟨d',j,z,_⟩<;>cases z
  have as:ac D=cR:=jq x1.sub hD;have ax : ∀c,H1 c=cR->H c=cR:=λc hc=>by
   cases z:H c with
   | none=>rfl
   | some o=>rw[x1.s1 c o z]at hc;cases hc
  refine⟨λi m ys i9 H'=>m=items.length - i/\i<=items.length/\ys.length<=i/\H' D=cI (.lst ys)/\∃eg bs r1 r2,ys=bs.map V.ref/\RC K eg H' i9 (jA own.length (fr.map (·.2)) γ)/\eg D=cR/\Ext ac H1 eg H'/\C8 K eg H' r1 bs/\(D::bs).Nodup/\(∀b∈bs,H1 b=cR)/\wZ T f (jA own.length (fr.map (·.2)) γ) (items.drop i)=cI r2/\rows=r1++r2,
   ⟨_,rfl,Pf _,NJ _,zC,ac,[],[],rows,rfl,((rc.ext x1).pull).upd as ae ag,as,Ext.hide x1.sub hD _,⟨rfl,λk b row h=>by simp at h⟩,by simp,λb hb=>by simp at hb,ef,rfl⟩,?_⟩
  rintro i m ys i9 H' ⟨rfl,hi,hy,a9,eg,bs,r1,r2,c6,ak,b0,x',aa,nd,b9,I,rfl⟩;subst c6;refine⟨a9,?_⟩;by_cases a2:i<items.length
  ·refine .inr ⟨wk.go i H' x'.s1 a2,?_,λx am y=>?_⟩
   ·have:=yc<|NJ lim;omega
   obtain⟨d,hd,hx⟩:=wk.DP i H' x am x'.s1 a2 y;obtain⟨G0,O,rg⟩:=hx eg x'.s0 ak.sub;have ca:items.drop i=d::items.drop (i+1):=by
    have cb:d=items[i]:=by rw[Nw a2]at hd;exact(Oj hd).symm
    rw[cb];exact Sm a2
   rw[ca]at I;simp only[wZ]at I;obtain⟨γ1,eb,I⟩:=zb I;obtain⟨e,ee,I⟩:=zb I;obtain⟨xD,er,I⟩:=zv I;have ce:G0 D=cR:=O.new D b0 (by rw[a9];simp);have bb:am D=cI (.lst<|bs.map V.ref):=O.s1 _ _ a9;obtain⟨bl,bg⟩:=Va eb;have ch : ∀{DR:St} {G2 H2:Hp},RC K G2 H2 DR γ1->RC K G2 H2 DR (jA own.length (fr.map (·.2)) γ):=λr=>r.weak bl.symm (λj d' hj=>by
    by_cases hm:j∈T.idx
    ·rcases qw hj with z | ⟨d2,j2,_,hn,_⟩
     ·cases z
     ·exact absurd (hT j hm) ⋯
    ·rw[bg j hm];exact hj) ae ag
   refine we O.sub rg eb λFA bm _=>c4 FA am _ ⟨G0,γ1,cL,bm<|ak.ext O,rfl,λH3 bn x3=>?_⟩;have bv:=(bm<|ak.ext O).ext x3;have xa:=x'.trans<|O.trans x3;have cm:bn D=cR:=x3.new D ce (by rw[bb];simp);have an:H3 D=cI (.lst<|bs.map V.ref):=x3.s1 _ _ bb;dsimp only;rw[DZ rfl];refine⟨bn,γ1,e,bv,ee,λY d4 H4 c0 x4 g1 g2 g3 g4=>?_⟩;have ap:c0 D=cR:=x4.new D cm (by rw[an];simp);have cr:H4 D=cI (.lst<|bs.map V.ref):=x4.s1 _ _ an;have xb:=xa.trans x4;have cs:=((aa.ext O).ext x3).ext x4;have ct:=(aa.ext O).ext x3;have c1:D∉bs:=(PF.mp nd).1;have c2:D≠Y:=λz=>by rw[<- z,an]at g1;cases g1
   have cw:Y∉bs:=λhm=>by obtain⟨_,d5,z⟩:=ct.at hm;rw[g1]at z;cases z
   have cx:H1 Y=cR:=by
    cases z:H1 Y with
    | none=>rfl
    | some o=>rw[xa.s1 _ _ z]at g1;cases g1
   refine⟨cr,items.length - (i+1),by omega,rfl,a2,by rw[Ol,Rv];omega,zC,c0,bs++[Y],r1++[e],xD,by simp,(ch<|bv.ext x4).upd ap ae ag,ap,?_,?_,?_,?_,er,?_⟩
   ·exact⟨xb.s0,λc o z=>by rw[zH (λw=>by rw[w,hD]at z;cases z)];exact xb.s1 c o z,λc o z=>by rw[zH (λw=>by rw[w,ap]at z;cases z)];exact xb.sub c o z,xb.new⟩
   ·exact(cs.add g2 g3 g4).hide (by simp[c1,c2])
   ·refine PF.mpr ⟨by simp[c1,c2],List.nodup_append.mpr ⟨(PF.mp nd).2,by simp,λc hc c' cy=>?_⟩⟩
    have:c'=Y:=by simpa using cy
    subst this;exact λz=>cw (by rw[<- z];exact hc)
   ·intro b hb
    rcases Sz.mp hb with z | z
    ·exact b9 b z
    ·have:b=Y:=by simpa using z
     subst this;exact cx
   ·rw[<- I];simp
  ·have e:i=items.length:=by omega
   subst e;rw[TK]at I;cases I;rw[PH]at q;refine .inl ⟨wk.stop H' x'.s1,q D bs H' eg (x1.trans x') (λb hb=>?_) ⟨b0,a9,nd,aa.1,aa.2⟩⟩;rcases NP.mp hb with rfl | hb
   ·exact ax _ hD
   ·exact ax b<|b9 b hb
 ·rw[DJ hl]at ef;cases ef
end
section
variable{K:Nr}{E0 E H0 H:Hp}{σ:St}{γ:Ctx}
theorem RS.forget(r:RS K E0 E H0 H σ γ):RS K E0 E H0 H (σ.set i v) (γ.set i .no):=by
 have O : ∀{j:Nat} {ds:List D} {b:d8},(γ.set i .no)[j]? = cI (.own ds)->γ[j]? = cI (.own ds)/\(σ.set i v)[j]? = σ[j]? :=λ{j ds b} g=>by
  rcases zN g with⟨_,z,_⟩ | ⟨Y,z⟩
  ·cases z
  ·exact⟨z,NH<|OQ Y⟩
 have nw : ∀{j:Nat} {rows:List (List D)},(γ.set i .no)[j]? = cI (.nest rows)->γ[j]? = cI (.nest rows)/\(σ.set i v)[j]? = σ[j]? :=λ{j rows} g=>by
  rcases zN g with⟨_,z,_⟩ | ⟨Y,z⟩
  ·cases z
  ·exact⟨z,NH<|OQ Y⟩
 refine⟨⟨r.rc.sub,by simp[r.rc.len],λj d' g=>?_,λj ds g=>?_,λj k b ds fs e1 e2 e3 e4=>?_,⟨λj rows g=>?_,λj k r1 r2 I g2=>r.rc.wq.2 j k r1 r2 (nw I).1 (nw g2).1⟩⟩,r.ext,λj ds b I g2=>?_,λj rows b xs I g2 g3=>?_⟩
 ·rcases zN g with⟨_,z,_⟩ | ⟨Y,z⟩
  ·cases z
  ·obtain⟨v',I,g2⟩:=r.rc.val j d' z
   exact⟨v',by rw[NH (OQ Y)];exact I,g2⟩
 ·obtain⟨z1,z2⟩:=O (b:=0) g
  rw[z2];exact r.rc.own j ds z1
 ·obtain⟨z1,z2⟩:=O (b:=0) e1
  obtain⟨z3,z4⟩:=O (b:=0) e2;rw[z2]at e3;rw[z4]at e4;exact r.rc.ne j k b ds fs z1 z3 e3 e4
 ·obtain⟨z1,z2⟩:=nw g
  obtain⟨a,bs,h1,h2,h3⟩:=r.rc.wq.1 j rows z1;refine⟨a,bs,by rw[z2];exact h1,h2,λk ds c e1 e2=>?_⟩;obtain⟨z3,z4⟩:=O (b:=0) e1;rw[z4]at e2;exact h3 k ds c z3 e2
 ·obtain⟨z1,z2⟩:=O (b:=0) I
  rw[z2]at g2;exact r.fresh j ds b z1 g2
 ·obtain⟨z1,z2⟩:=nw I
  rw[z2]at g2;exact r.Dh j rows b xs z1 g2 g3
theorem YC : ∀{l:List d8} {m t:Nat} {b:d8},l.Nodup->l[m]? = cI b->l[t]? = cI b->m=t
 | [],m,t,b,_,h,_=>by simp at h
 | c::l,m,t,b,nd,h1,h2=>by
  obtain⟨n1,n2⟩:=PF.mp nd;cases m with
  | zero=>
   cases t with
   | zero=>rfl
   | succ t=>
    have e1:c=b:=by simpa using h1
    have e2:l[t]? = cI b:=by simpa using h2
    exact absurd (Og e2)<|e1 ▸ n1
  | succ m=>
   cases t with
   | zero=>
    have e1:c=b:=by simpa using h2
    have e2:l[m]? = cI b:=by simpa using h1
    exact absurd (Og e2)<|e1 ▸ n1
   | succ t=>exact congrArg (· + 1) (YC (b:=b) n2 (by simpa using h1)<|by simpa using h2)
end
section
variable{K:Nr}{E0 E H0 H:Hp}{σ:St}{γ:Ctx}
theorem RS.freeze(r:RS K E0 E H0 H σ γ)(e:γ[i]? = cI (.own ds)) : ∃eg,RS K E0 E eg H σ (γ.set i<|.val<|.lst ds):=by
 obtain⟨a,xs,h1,h2,h3,h4⟩:=r.rc.own i ds e;have ea:=r.fresh i ds a e h1;obtain⟨eg,s0,Y⟩ : ∃eg,eg=upd H0 a (.lst xs)/\RC K eg H σ (γ.set i<|.val<|.lst ds):=by refine⟨_,rfl,?_⟩;exact RC.z? r.rc e h1 h2 h3 h4
 subst s0;refine⟨_,Y,⟨r.ext.s0.trans<|zX h2 _,r.ext.s1,Y.sub,λc q1 I=>?_⟩,λj es b O g2=>?_,λj rows b ys O g2 g3=>?_⟩
 ·rw[zH (λz=>by rw[z,ea]at I;exact I rfl)];exact r.ext.new c q1 I
 ·rcases zN O with⟨_,z,_⟩ | ⟨_,z⟩
  ·cases z
  ·exact r.fresh j es b z g2
 ·rcases zN O with⟨_,z,_⟩ | ⟨_,z⟩
  ·cases z
  ·exact r.Dh j rows b ys z g2 g3
open Classical in
end
section
variable{X:Cx}{st:m5}{F:CO Fl}
theorem uw(i:Nat)(h:tr X st F):tr X st (Ls i F):=xi h λD σ H I=>by obtain⟨E0,E,H0,γ,O,rs,z,Y⟩:=I;obtain⟨ds,e1,z⟩:=zb z;obtain⟨eg,a0⟩:=rs.freeze<|kl e1;exact⟨E0,E,eg,_,O,a0,z,Y⟩
end
end DL
namespace L2
open PySem PySem.Spec PyProof.Rows
def Hz(K:Nr):V->List V->Hp->VK->Prop:=λx vs H Q=>∃z p zs,x = .str z/\vs=[.ref p]/\lK K H p (zs.map V.str)/\Builtin.Str.tooLong (zs.toArray.foldl (λa p=>a+p.length+z.length) 0)=d7/\Q (.str<|IX z zs) H
theorem K2 : ∀{zs:List Str} {us:List fm},i8 (zs.map V.str) us->∃l:List (Str×z8),strValues l=us/\l.map (·.1)=zs
 | [],us,r=>by cases r;exact⟨[],rfl,rfl⟩
 | z::zs,u::us,.cons r t=>by obtain⟨I,rfl⟩:=r;obtain⟨l,rfl,h⟩:=K2 t;exact⟨(z,I)::l,rfl,by simp[h]⟩
theorem Ad{X:Cx}:P5 X "str.join" (Hz X.K):=by intro pins s σ H x vs v us Q I rx Y h;obtain⟨z,p,zs,rfl,rfl,hq,O,q⟩:=h;obtain⟨t,rfl⟩:=rx;obtain⟨w1,rfl,rw⟩:=yw Y;cases rw;obtain⟨a1,r,pl,hz⟩:=I.list hq;obtain⟨l,rfl,e⟩:=K2 r;subst e;refine SD F.slot_str_join (y_ _ _ _) F.entry_str_join (F.args_str_join_2 _ _) (meets_str_join_list z t p l O) ⟨pl.isList,post_join l ⟨joinFit_length O,λt' k=>?_⟩⟩;refine⟨.str (IX z (l.map (·.1))),H,(I.kept (h':=s.heap) (t':=k) λb o e=>e),⟨t',?_⟩,q⟩;show TU (Builtin.Str.glued z (l.map (·.1))) t'=_;rw[StrLaws.glued_eq_join]
end L2
namespace DL
open PySem PySem.Spec PyProof.Rows L2
theorem K7{K:Nr}{H:Hp} : ∀{ds:List D} {xs:List V} {l:List Str},f6 K H ds xs->K8 ds=cI l->xs=l.map V.str
 | [],xs,l,r,e=>by cases e;rw[show xs=[]from r];rfl
 | d::ds,xs,l,r,e=>by
  obtain⟨x,r',rfl,z,r2⟩:=(show ∃x r,xs=x::r/\Rep K H d x/\f6 K H ds r from r);cases d with
  | str i=>
   obtain⟨l',e1,rfl⟩:=zv (show(K8 ds).map (λl=>i::l)=cI l from e);rw[K7 r2 e1,show x = .str i from z];rfl
  | _=>cases e
section
variable{X:Cx}{sc:mu}{N L:List Str}{k:Nat}{o e a b:f7}{apos cpos pos p:kr}{f g:CO D}{q:CO (Sk×List D)}
theorem vF(h:jm x=cL):x.length<=1000:=of_decide_eq_true h
theorem wG(h:jm x=cL):x.length<=kv:=OH (vF h) ⋯
theorem uo(Y:PV X o f)(he:PQ X e q)(a1:DF o "join" X.env (f9 o X.env)=f9 o X.env:=by rfl)
 (a2:((r9 cpos<|starEach [e] X.env).all (λx=> !x.1) && (D4 cpos<|keywordEach [] X.env).all (λx=>x.1.isSome) && decide ([e].length+([]:List A9).length+(if ([]:List A9).isEmpty then 0 else 1)<30))=cL:=by rfl)
 (a3:(apos.endLine==cpos.line)=cL:=by rfl) (hs:i6 [e] X.env=[(d7,f9 e X.env)]:=by rfl):PV X (.Call (.Attribute o "join" apos) [e] [] cpos) (BY f q):=
 j4 (cJ PySem.F.plainAttrs_str PySem.F.slot_str_join PySem.F.type_str_join Ad Y (zP he jJ hs) a1 a2 a3 hs rfl) λσ H Q hZ=>by
  obtain⟨H0,γ,d,rc,z,qq⟩:=hZ;obtain⟨d1,e1,z⟩:=zb z;obtain⟨⟨kk,ds⟩,e2,z⟩:=zb z;cases d1 with
  | str O=>
   cases kk with
   | L=>
    obtain⟨l,e3,z⟩:=zb z;by_cases I:l.length<=lim/\l.all jm=cL/\jm O=cL
    ·rw[DZ I]at z;cases z
     refine⟨H0,γ,_,rc,e1,λv H' eg x r=>?_⟩;rw[show v = .str O from r];refine⟨rfl,eg,γ,.L,ds,rc.ext x,e2,λa xs H2 a8 x2 h1 h2 r2=>?_⟩;have ex:=K7 r2 e3;subst ex;refine⟨O,a,l,rfl,rfl,h1,StrLaws.joinFits (B:=1000) (λy hy=>vF<|OA.mp I.2.1 y hy) ?_,qq _ H2 a8 (x.trans x2) rfl⟩;have hl:=I.1;have:lim=2500:=rfl;have h3:=vF I.2.2;have:l.length*O.length<=2500*1000:=Nat.mul_le_mul ⋯ h3;omega
    ·rw[DJ I]at z;cases z
   | T=>cases z
  | _=>cases z
theorem XY(ha:PV X a f)(hb:PV X b g)(hs:KI b:=by intro _ _;rfl):PV X (.Subscript a b pos) (QT f g):=
 j4 (uM ER ha hb hs) λσ H Q Y=>by
  obtain⟨H0,γ,d,rc,I,q⟩:=Y;obtain⟨d1,e1,I⟩:=zb I;obtain⟨i,e2,I⟩:=zb I;obtain⟨di,e3,e2⟩:=zb e2;cases d1 with
  | str z=>
   by_cases O:jm z=cL
   ·have I:(if jm z=cL then (p8 z.cps.toList.length i).bind λk=>z.cps.toList[k]?.map λc=>D.str ⟨#[c]⟩else cR)=cI d:=I
    rw[DZ O]at I;obtain⟨j,e4,I⟩:=zb I;obtain⟨c,e5,rfl⟩:=zv I;refine⟨H0,γ,_,rc,e1,λv H' eg x r=>⟨eg,γ,di,rc.ext x,e3,λv2 H2 a5 x2 r2=>?_⟩⟩;rw[jK e2]at r2;refine⟨z,i,c,r,jI r2,wG O,?_,q _ H2 a5 (x.trans x2) rfl⟩;unfold D3;rw[Xl e4];exact e5
   ·have I:(if jm z=cL then (p8 z.cps.toList.length i).bind λk=>z.cps.toList[k]?.map λc=>D.str ⟨#[c]⟩else cR)=cI d:=I
    rw[DJ O]at I;cases I
  | _=>cases I
theorem XZ(h:SX X sc N L k)(c:yZ sc "len" = cL)(z:X.mg "len" = cR)(ha:PV X e f)(hs:i6 [e] X.env=[(d7,f9 e X.env)]:=by rfl):PV X (.Call (.Name "len" p) [e] [] pos) (Yf f):=
 j4 (ya Y6 (h.gl c).1 z PySem.boot_len (zP ha jJ hs) ⋯ ⋯ hs rfl) λσ H Q Y=>by
  obtain⟨H0,γ,d,rc,I,q⟩:=Y;obtain⟨d1,e1,I⟩:=zb I;cases d1 with
  | str z=>
   by_cases O:jm z=cL
   ·have I:(if jm z=cL then cI (D.int z.length)else cR)=cI d:=I
    rw[DZ O]at I;cases I;refine⟨H0,γ,_,rc,e1,λv H' eg x r=>⟨z,by rw[show v = .str z from r],wG O,q _ H' eg x rfl⟩⟩
   ·have I:(if jm z=cL then cI (D.int z.length)else cR)=cI d:=I
    rw[DJ O]at I;cases I
  | _=>cases I
end
section
variable{X:Cx}{sc:mu}{N L:List Str}{k:Nat}{b:f7}{f:CO D}
theorem Cr(h:SX X sc N L k)(c:yZ sc "min" = cL)(z:X.mg "min" = cR)(ha:PV X a f)(hb:PV X b g)(hs:i6 [a,b] X.env=[(d7,f9 a X.env),(d7,f9 b X.env)]:=by rfl)(O:i6 [b] X.env=[(d7,f9 b X.env)]:=by rfl) :
 PV X (.Call (.Name "min" p) [a,b] [] pos) (BX f g):=
 j4 (ya (lx h.calm) (h.gl c).1 z PyProof.Rows.boot_min (zP ha (zP hb jJ O)<|by rw[hs,O]) ⋯ ⋯ (by rw[hs,O]) (by rw[O];rfl)) λσ H Q hZ=>by obtain⟨H0,γ,d,rc,I,q⟩:=hZ;obtain⟨i,e1,I⟩:=zb I;obtain⟨d1,e0,e1⟩:=zb e1;obtain⟨j,Y,I⟩:=zv I;obtain⟨d2,e2,Y⟩:=zb Y;subst I;refine⟨H0,γ,d1,rc,e0,λv H' eg x r=>⟨eg,γ,d2,rc.ext x,e2,λv2 H2 a4 x2 r2=>⟨i,j,?_,q _ H2 a4 (x.trans x2) rfl⟩⟩⟩;rw[jK e1]at r;rw[jK Y]at r2;rw[jI r,jI r2]
end
def HM(c:Xn)(od:Option d8)(H0:Hp):Prop:=match c.2 with
 | none=>od=cR
 | some i=>∃d,od=cI d/\H0 d=cI (.xd [(MW c.1,.int i)])
def _o(K:Nr)(n:Nat)(G:List D->Option Xn):Sp:=λvs H _ E=>∃H0 ds c,js H0 H/\f6 K H0 ds vs/\ds.length=n/\G ds=cI c/\
 ∀C H' eg od,Li K=cL->c.1∈O3->BA K c.1=cI C->HM c od eg->Ext H0 H eg H'->E (.ref C) od H'
section ap
variable(γ:Ctx)
@[simp] def xp:=@zM.eq_1
@[simp] def lP:=@xB.eq_1
@[simp] def Wn:=@qf.eq_1
@[simp] def jW:=@ze.eq_1
@[simp] def qu:=@zq.eq_1
@[simp] theorem kU(d):zx d γ=cI d:=rfl
@[simp] def bw:=@zw.eq_1
@[simp] def zcb:=@sB.eq_1
@[simp] def zbZ:=@qX.eq_1
@[simp] def zbR:=@fG.eq_1
@[simp] def zbq:=@kz.eq_1
@[simp] def zb7:=@Bl.eq_1
@[simp] def zb1:=@O?.eq_1
@[simp] def zbS:=@Ho.eq_1
@[simp] def zbX:=@WV.eq_1
@[simp] theorem Zi:zG γ=cI []:=rfl
@[simp] def yQ:=@zc.eq_1
@[simp] def Fz:=@qe.eq_1
@[simp] def zbu:=@yu.eq_1
@[simp] def zbr:=@xw.eq_1
@[simp] def sC:=@xh.eq_1
@[simp] def zbo:=@Zn.eq_1
@[simp] def zbn:=@ZV.eq_1
@[simp] def zb4:=@Nh.eq_1
@[simp] def zbD:=@uf.eq_1
@[simp] def QF:=@oy.eq_1
@[simp] def lO:=@jT.eq_1
@[simp] def Wm:=@yt.eq_1
@[simp] def zbA:=@nq.eq_1
@[simp] def Vi:=@jZ.eq_1
@[simp] def yR:=@zJ.eq_1
@[simp] def za3:=@qj.eq_1
@[simp] def kn:=@zQ.eq_1
@[simp] def wj:=@jH.eq_1
@[simp] def zaN:=@XU.eq_1
@[simp] def Fy:=@rC.eq_1
@[simp] def JM:=@J3.eq_1
@[simp] def kA:=@zT.eq_1
@[simp] theorem zbP:jS γ=cI cL:=rfl
@[simp] def zbE:=@fM.eq_1
@[simp] def zbp:=@Hn.eq_1
@[simp] def vA:=@fy.eq_1
@[simp] def zbj:=@Lo.eq_1
@[simp] theorem zbT:KQ γ=cI cR:=rfl
@[simp] def Lb:=@vl.eq_1
@[simp] def FB:=@Vt.eq_1
@[simp] def FE:=@vB.eq_1
@[simp] def zb2:=@GC.eq_1
@[simp] def zbU:=@Nd.eq_1
@[simp] def dN:=@jj.eq_1
@[simp] def zaO:=@fH.eq_1
@[simp] def zbQ:=@BU.eq_1
@[simp] def zb8:=@fN.eq_1
@[simp] def zb6:=@Hw.eq_1
@[simp] def IR:=@ng.eq_1
@[simp] def zbt:=@My.eq_1
@[simp] def zbm:=@ud.eq_1
theorem jC(F G):zS F G γ=(F γ).bind λz=>match z with
 | .next γ'=>G γ'
 | f=>cI f:=rfl
end ap
@[simp] theorem bt(ds):jg (.tup ds)=cI (.T,ds):=rfl
@[simp] theorem vi(ds):jg (.lst ds)=cI (.L,ds):=rfl
@[simp] theorem zF(d):lr (cI (.val d))=cI d:=rfl
@[simp] theorem zY(d):w4 (cI (.val d))=jg d:=rfl
@[simp] theorem zaD(d):w4 (cI (.own d))=cI (.L,d):=rfl
@[simp] theorem vz(d):qT (cI (.own d))=cI d:=rfl
@[simp] theorem zaE(d):Wg (cI (.val d))=cI (.ret<|.val d):=rfl
@[simp] theorem zaF(d):Wg (cI (.own d))=cI (.ret<|.own d):=rfl
@[simp] theorem zbO(b):De (.bl b)=cI b:=rfl
@[simp] theorem jM(b):p7 (.int b)=cI b:=rfl
@[simp] theorem k6(d):Ce (.val d)=d:=rfl
@[simp] theorem zaR(d):Ce (.own d) = .lst d:=rfl
@[simp] theorem WZ(d):FT (.own d)=cI d:=rfl
@[simp] theorem zbd(i j):yN (.int i) (.int j)=cI (.int<|i - j):=rfl
@[simp] theorem bj(i j):qb (.int i) (.int j)=cI (.int<|i+j):=rfl
@[simp] theorem zbf(i j):x6 (.int i) (.int j)=if 0<j then cI (.int<|i%j)else cR:=by show(if me i j=cL then _ else _)=_;simp[me]
@[simp] theorem pE(i j):KU (.int i) (.int j)=if 0<j/\j<1073741824 then cI (.int<|i/j)else cR:=by
 show(if pN i j=cL then _ else _)=_;have e:(pN i j=cL)=(0<j/\j<1073741824):=by unfold pN;rw[NI,decide_eq_true_eq,decide_eq_true_eq];apply propext;constructor<;>intro h<;>exact⟨h.1,by omega⟩
 simp only[e]
@[simp] theorem bh(i j):kQ (.int i) (.int j)=if JV i j=cL then cI (.int<|i*j)else cR:=rfl
@[simp] theorem zbe(i j):AH (.int i) (.int j)=if Fv i j=cL then cI (.int<|i ^ j.toNat)else cR:=rfl
@[simp] theorem zbI(i j):B8 (.int i) (.int j)=cI (.bl<|decide<|i<j):=rfl
@[simp] theorem zbJ(i j):A6 (.int i) (.int j)=cI (.bl<|decide<|i<=j):=rfl
@[simp] theorem zbK(i j):yJ (.int i) (.int j)=cI (.bl<|decide<|j<i):=rfl
@[simp] theorem zbL(i j):R_ (.int i) (.int j)=cI (.bl<|decide<|j<=i):=rfl
@[simp] theorem zbM(i j):kC (.int i) (.int j)=cI (.bl<|decide<|i=j):=by unfold kC;rw[DZ ⟨rfl,rfl⟩];exact congrArg (λb=>cI (D.bl b)) (by rw[Pn];simp[n6])
@[simp] theorem zbH(i j):ow (.int i) (.int j)=cI (.bl<|!decide (i=j)):=by unfold ow;rw[DZ ⟨rfl,rfl⟩];exact congrArg (λb=>cI (D.bl !b)) (by rw[Pn];simp[n6])
@[simp] theorem zaH(i is d ds γ):qi (i::is) (d::ds) γ=qi is ds (γ.set i<|.val d):=rfl
@[simp] theorem zaG(ds γ):qi [] ds γ=γ:=by cases ds<;>rfl
@[simp] theorem ZD(i d γ):qm (.nm i) d γ=cI (γ.set i<|.val d):=rfl
@[simp] theorem JH(i j a b γ):qm (.tp [i,j]) (.tup [a,b]) γ=cI ((γ.set i<|.val a).set j (.val b)):=rfl
@[simp] theorem vG(γ:Ctx)(G:CO Fl):(cI (Fl.next γ)).bind (λz=>match z with
 | .next γ'=>G γ'
 | f=>cI f)=G γ:=rfl
theorem lB(i j:Int)(h1 : -(2 ^ 64)<j)(h2:j<2 ^ 64):JV i j=cL:=by unfold JV;rw[OZ];right;exact decide_eq_true ⋯
theorem kS(i j:Int)(h1 : -(2 ^ 64)<i)(h2:i<2 ^ 64):JV i j=cL:=by unfold JV;rw[OZ];left;exact decide_eq_true ⋯
theorem sj(h1 : -(2 ^ 62)<i)(h2:i<2 ^ 62):inR i=cL:=by unfold inR;exact decide_eq_true ⋯
@[simp] theorem jB(n k:Nat):p8 n (k:Int)=if k<n then cI k else cR:=by
 unfold p8;by_cases h:k<n
 ·rw[DZ ⟨Int.natCast_nonneg k,by omega⟩,DZ h];simp
 ·rw[DJ ⋯,DJ ⋯,DJ h]
theorem jy:lim=2500:=rfl
@[simp] theorem zbc:0<=lim:=Pf _
@[simp] theorem zbb:1<=lim:=by decide
@[simp] theorem zba:2<=lim:=by decide
@[simp] theorem za9:3<=lim:=by decide
@[simp] theorem za8:4<=lim:=by decide
@[simp] theorem za7:5<=lim:=by decide
@[simp] theorem za6:6<=lim:=by decide
@[simp] theorem za5:7<=lim:=by decide
@[simp] theorem za4:8<=lim:=by decide
@[simp] theorem zaU:0<lim:=by decide
@[simp] theorem wU(h:n<=lim):inR (n:Int)=cL:=sj ⋯ (by have:=jy;omega)
@[simp] theorem Y_(n:Nat):p8 (n+1) 0=cI 0:=jB (n+1) 0 ▸ rfl
@[simp] theorem S9(n:Nat):p8 (n+2) 1=cI 1:=by have:=jB (n+2) 1;simpa using this
@[simp] theorem TB(n:Nat):p8 (n+3) 2=cI 2:=by have:=jB (n+3) 2;simpa using this
theorem zA(r:α->D) : ∀(l:List α),(∀x∈l,z7 T k f γ [g x]=cI [r x])->z7 T k f γ (l.map g)=cI (l.map r)
 | [],_=>rfl
 | x::l,h=>by
  have h1:=h x NL;have h2:=zA r l λy z=>h y<|NN _ z;simp only[NY,z7]at h1 ⊢;cases e1:qm T (g x) γ with
  | none=>rw[e1]at h1;simp at h1
  | some γ1=>
   rw[e1]at h1;simp only[Nx]at h1 ⊢;cases e2:k γ1 with
   | none=>rw[e2]at h1;simp at h1
   | some b=>
    rw[e2]at h1;simp only[Nx]at h1 ⊢;cases b with
    | false=>simp at h1
    | true=>
     simp only[DZ]at h1 ⊢;cases e3:f γ1 with
     | none=>rw[e3]at h1;simp at h1
     | some e=>
      rw[e3]at h1;simp at h1;rw[h2];simp[h1]
theorem zE(h1:qm T d γ=cI γ1)(h2:k γ1=cI cL)(z:f γ1=cI e):z7 T k f γ [d]=cI [e]:=by simp[z7,h1,h2,z]
theorem jN(T F d ds γ):xl T F (d::ds) γ=(qm T d γ).bind λγ1=>(F γ1).bind λI=>match I with
 | .next z=>xl T F ds z
 | .cont z=>xl T F ds z
 | .brk z=>cI (.next z)
 | .ret r=>cI (.ret r):=rfl
theorem YW(P:Nat->Ctx->Prop) : ∀(ds:List D) (k:Nat) (γ:Ctx),P k γ->(∀i d γ,ds[i]? = cI d->P (k+i) γ->∃γ',((qm T d γ).bind F=cI (.next γ')\/(qm T d γ).bind F=cI (.cont γ'))/\P (k+i+1) γ')->
 ∃γ',xl T F ds γ=cI (.next γ')/\P (k+ds.length) γ'
 | [],k,γ,h,_=>⟨γ,rfl,h⟩
 | d::ds,k,γ,h,step=>by
  obtain⟨γ1,e,h1⟩:=step 0 d γ rfl h;obtain⟨γ',e2,h2⟩:=YW P ds (k+1) γ1 (by simpa using h1) (λi d' z hd I=>by have:=step (i+1) d' z (by simpa using hd) (by rw[show k+(i+1)=k+1+i by omega];exact I);rw[show k+(i+1)+1=k+1+i+1 by omega]at this;exact this)
  refine⟨γ',?_,by rw[show k+(d::ds).length=k+1+ds.length by simp;omega];exact h2⟩;rw[jN];cases eb:qm T d γ with
  | none=>rw[eb]at e;simp at e
  | some O=>
   rw[eb]at e;simp only[Nx]at e ⊢;rcases e with e | e<;>rw[e]<;>exact e2
def zR(n:Nat)(f:Nat->Int):List D:=(Nu n).map λi=>D.int<|f i
theorem jw(n f):zR n f=(Nu n).map λi=>D.int (f i):=rfl
def zV(h w:Nat)(f:DW):List D:=(Nu h).map λi=>D.tup<|zR w<|f i
def jU(h w:Nat)(f:DW):D:= .tup [.int h,.int w,.tup (zV h w f)]
@[simp] theorem yf(n f):(zR n f).length=n:=by simp[zR]
@[simp] theorem Kw(h w f):(zV h w f).length=h:=by simp[zV]
@[simp] theorem zbF(f)(h:i<(zR n f).length):(zR n f)[i] = .int (f i):=by simp[zR]
theorem xQ(f)(h:i<n):(zR n f)[i]? = cI (.int<|f i):=by simp[zR,h]
@[simp] theorem zbG(f)(hi:i<(zV h w f).length):(zV h w f)[i] = .tup (zR w<|f i):=by simp[zV]
theorem y8(h : ∀i,i<n->f i=g i):zR n f=zR n g:=by unfold zR;apply NQ;intro i hi;rw[h i (NA.mp hi)]
theorem y9(e : ∀i j,i<h->j<w->f i j=g i j):zV h w f=zV h w g:=by unfold zV;apply NQ;intro i hi;rw[y8 λj z=>e i j (NA.mp hi) z]
theorem pA{h w:Nat}{f g:DW}(e : ∀i j,i<h->j<w->f i j=g i j):jU h w f=jU h w g:=by unfold jU;rw[y9 e]
theorem qP(n:Nat):vJ 0 n=zR n λi=>(i:Int):=by simp[vJ,zR]
theorem XD(n:Nat)(f g:Nat->Int):KZ (zR n f) (zR n g)=(Nu n).map λi=>D.tup [.int (f i),.int (g i)]:=by unfold KZ zR;rw[Uy];simp
def zf(f:Nat->Int):Nat->Int
 | 0=>0
 | n+1=>zf f n+f n
theorem ZP : ∀(xs:List Int) (y:Int),bY (xs.map D.int++[.int y])=(bY<|xs.map D.int).map λs=>s+y
 | [],y=>by simp[bY]
 | x::xs,y=>by simp only[NY,List.cons_append,bY];rw[ZP xs y];cases e:bY (xs.map D.int)<;>simp[Int.add_assoc]
theorem ZO(f:Nat->Int) : ∀n,bY (zR n f)=cI (zf f n)
 | 0=>rfl
 | n+1=>by
  have z:=ZO f n;have e : ∀m,zR m f=((Nu m).map f).map D.int:=λm=>by simp[zR]
  rw[e]at z ⊢;rw[PD,OM,OM,List.map_singleton,List.map_singleton,ZP,z];simp[zf]
def xI:=jo 2<|xh<|jj<|qf<|zT (zQ<|zq 1) (.nm 0) 1 [0] jS (zw x6 (ze 0)<|ze 1)
def lX:=jo 3<|xh<|zJ xI<|zc (ze 0)<|zc (xB<|zT (zQ<|zM<|fy (zq 1)<|zx<|.int 2) (.nm 0) 1 [2] jS (BU<|qf<|zT (rC (ze 0)<|ze 1) (.tp [0,1]) 2 [] jS (zw kQ (ze 0)<|ze 1))) zG
def jx:=jo 2<|zS (jT 1<|xB<|zT (jH<|fy (zq 0)<|zx<|.int 1) (.nm 0) 1 [0] jS (jj<|qf<|zT (zQ<|zM<|fy (zq 1)<|zx<|.int 2) (.nm 0) 1 [0] jS (fy (zq 0)<|ze 1)))<|xh<|qe<|zc (fy (zq 0)<|zx<|.int 1)<|zc (fy (zq 0)<|zx<|.int 0)<|zc (jj<|zq 1) zG
def j5:=jo 2<|zS (jT 1<|xB<|zT (jH<|ze 0) (.nm 0) 1 [0] jS (jj<|qf<|zT (jH<|ze 1) (.nm 0) 1 [0] jS (WV (sB<|zw kC (ze 1)<|ze 0) (zx<|.int 1)<|zx<|.int 0)))<|xh<|qe<|zc (ze 0)<|zc (ze 0)<|zc (jj<|zq 1) zG
def xq:=jo 2<|xh<|qe<|zc (ze 0)<|zc (ze 1)<|zc (zw kQ (qe<|zc (zw kQ (qe<|zc (zx<|.int 0) zG)<|ze 1) zG)<|ze 0) zG
def wA:=jo 3<|zS (J3 (XU (zx<|.int 1)<|ze 0) (.nm 2)<|oy (sB<|zw kC (zw x6 (zw kQ (ze 1)<|ze 2)<|ze 0)<|zx<|.int 1) (ZV 2) xw) w9
def j3:=jo 5<|zS (jT 4<|fy (zq 1)<|ze 3)<|zS (oy (sB<|zw kC (ze 4)<|zx<|.int 0) (ZV 1) xw)<|xh<|zJ xI<|zc (ze 0)<|zc (xB<|zT (rC (ze 1)<|ze 2) (.tp [0,1]) 2 [4] jS (zw yN (ze 0)<|zw kQ (ze 2)<|ze 1)) zG
def kc:=jo 9<|zS (jT 3<|xB<|zT (zQ<|zq 2) (.nm 0) 1 [0] jS (zJ xI<|zc (ze 1)<|zc (ze 0) zG))<|zS (yt 4<|yu zG)<|zS (J3 (jH<|ze 1) (.nm 5)<|zS (jT 6<|xB<|zT (zQ<|zq 3) (.nm 0) 1 [5] (sB<|zw ow (fy (zq 0)<|ze 1)<|zx<|.int 0) (ze 0))<|zS (oy (kz<|ud<|zq 6) uf xw)<|zS (jT 7<|zJ wA<|zc (ze 0)<|zc (fy (zM<|fy (zq 6)<|zx<|.int 0)<|ze 5) zG)<|zS (jT 8<|zJ xI<|zc (ze 0)<|zc (xB<|zT (zQ<|zM<|fy (zq 6)<|zx<|.int 0) (.nm 0) 1 [7] jS (zw kQ (ze 1)<|ze 0)) zG)<|zS (jT 3<|xB<|zT (zQ<|zq 3) (.nm 0) 1 [0,5,8] jS (zJ j3<|zc (ze 1)<|zc (ze 0)<|zc (ze 3)<|zc (ze 2) zG))<|yt 4<|fM (qf<|zT (zQ<|zq 4) (.nm 0) 1 [0,5,8] jS (zJ j3<|zc (ze 1)<|zc (ze 0)<|zc (ze 3)<|zc (ze 2) zG))<|qf<|yu<|zc (ze 8) zG)<|ZV 4
def jO:=jo 2<|Zn<|zT (zQ<|zq 1) (.nm 0) 1 [0] (kz<|sB<|Hw<|zM<|Vt (ze 0) KQ<|vl<|ze 1) (Vt (ze 0) (vl<|ze 1) KQ)
def qp:=jo 5<|zS (jT 3<|xB<|zT (rC (fy (zM<|zJ jx<|zc (ze 1) zG)<|zx<|.int 2)<|fy (zM<|zJ j5<|zc (fy (zq 1)<|zx<|.int 1) zG)<|zx<|.int 2) (.tp [0,1]) 2 [] jS (zw qb (ze 0)<|ze 1))<|zS (jT 4<|xB<|zT (zQ<|zq 2) (.nm 0) 1 [1] jS (zw qb (ze 0)<|zw kQ (qe<|zc (zx<|.int 0) zG)<|fy (zq 1)<|zx<|.int 1))<|Zn<|qj jO<|zc (fy (zq 1)<|zx<|.int 0)<|zc (xB<|qj kc<|zc (ze 0)<|zc (zw qb (fy (zq 1)<|zx<|.int 0)<|fy (zq 1)<|zx<|.int 1)<|zc (xB<|fM (zq 3)<|zq 4) zG) zG
def ZG:=jo 2<|Zn<|qj qp<|zc (ze 0)<|zc (ze 1)<|zc (xB<|yu zG) zG
def KN:=jo 2<|Zn<|qj kc<|zc (ze 0)<|zc (fy (zq 1)<|zx<|.int 0)<|zc (fy (zM<|zJ jx<|zc (ze 1) zG)<|zx<|.int 2) zG
section
variable(γ:Ctx)
@[simp] def zb5:=@Ni.eq_1
@[simp] def zbY:=@MD.eq_1
@[simp] def za1:=@Lv.eq_1
end
def xy:=jo 1<|xh<|fy (qf<|zT (Vw<|ze 0) (.tp [0,1]) 2 [] (sB<|zw ow (ze 1)<|zx<|.int 0) (ze 0))<|zx<|.int 0
section
variable(γ:Ctx)
@[simp] def zbz:=@Vw.eq_1
@[simp] def zbW:=@Nf.eq_1
@[simp] def zb3:=@Ng.eq_1
@[simp] theorem za2(F G a b c):yC F G a b c γ=(a γ).bind λx=>(b γ).bind λy=>((F x y).bind De).bind λk=>if k=cL then (c γ).bind λz=>G y z else cI (.bl d7):=rfl
@[simp] def Be:=@Vu.eq_1
end
section
variable(γ:Ctx)
@[simp] def GE:=@WW.eq_1
@[simp] def zaP:=@Hr.eq_1
@[simp] def sD:=@Ls.eq_1
@[simp] def zby:=@MB.eq_1
@[simp] def zbi:=@Ln.eq_1
end
@[simp] theorem zco(r):KD (cI (.nest r))=cI r:=rfl
section
variable(γ:Ctx)
@[simp] def pW:=@QT.eq_1
@[simp] def Bf:=@Yf.eq_1
@[simp] def zbC:=@MC.eq_1
@[simp] def Bg:=@BY.eq_1
end
def kE:=jo 2 (xh (WV (sB (zw kC (ze 1) (zx (.str "r")))) (ze 0) (zw qb (ze 0) (zx (.int 1)))))
def KO:=jo 2 (xh (WV (sB (zw kC (ze 1) (zx (.str "r")))) (zw qb (ze 0) (zx (.int 1))) (ze 0)))
def yj:=jo 1 (xh (WV (sB (zw kC (ze 0) (zx (.str "r")))) (zx (.str "l")) (zx (.str "r"))))
def Hq(f:CO D):CO D:=λγ=>(f γ).map λd=> .bl (Bo .list d || Bo .tuple d)
def XB:=jo 1<|xh<|Bl (GC .int<|ze 0)<|Ho<|GC .bool<|ze 0
def wu:=jo 2<|xh<|Bl (zJ XB<|zc (ze 1) zG)<|yC A6 B8 (zx<|.int 0) (ze 1)<|ze 0
def Ws:=jo 2<|xh<|Bl (Hq<|ze 0)<|zw kC (vB<|zq 0)<|ze 1
def kW:=jo 1 (xh (BY (zx (.str "")) (qf (zT (zQ (zM (fy (zq 0) (zx (.int 2))))) (.nm 0) 1 [] jS (fy (zq 0) (zx (.int 0)))))))
section
variable{X:Cx}{sc:mu}{N L:List Str}{k:Nat}{a e:f7}{es:List f7}{f:CO D}{g:CO (List D)}{pos p p2:kr}
theorem X6(I:PV X e f)(hs:A8 e cR pos.line X.env=pure d7:=by rfl):tr X (.Expr e pos) (nq f):=xi (wL I hs) λD σ H O=>by obtain⟨E0,E,H0,γ,fl,rs,z,Y⟩:=O;obtain⟨d,e1,z⟩:=zv z;subst z;exact⟨H0,γ,d,rs.rc,e1,λv H' eg x r=>Y σ H' eg<|rs.step x⟩
structure GL(K:Nr)(mg:DX)(x:Str)(d:D):Prop where
 ex : ∃u v,mg x=cI u/\RelV v u/\∀H,Rep K H d v
theorem HD{x:Str}{d:D}(h:SX X sc N L k)(c:yZ sc x=cL)(z:GL X.K X.mg x d):PV X (.Name x pos) (zx d):=by intro pins s σ H Q I ⟨H0,γ,d',rc,O,q⟩;cases O;obtain⟨u,v,h1,h2,Y⟩:=z.ex;exact VX I (h.gl c).1 h1 ⟨v,H,I,h2,q v H H0 (Ext.refl rc.sub)<|Y H0⟩ (h.gl c).2.2
end
section
variable{K:Nr}{mg:DX}{h:je}
theorem LC{x:Str}{n:Int}{t:z8}(z:K.In h)(G:h.Ns A7 mg)(a:TC K A7 x=cI (cI (.int n t))):GL K mg x (.int n):=
 ⟨_,.int n,Ue z G a,⟨t,rfl⟩,λ_=>(show V.int n = .int n from rfl)⟩
end
theorem xO(h:D0 X es n g):DD X es g:=h.1
section
variable{K:Nr}{E0 E H0 H:Hp}{σ:St}{γ:Ctx}
theorem f6.dropLast : ∀{ds:List D} {xs:List V},f6 K H ds xs->f6 K H ds.dropLast xs.dropLast
 | [],xs,r=>by rw[r.zr];exact f6.nil
 | [d],xs,r=>by obtain⟨x,r',e,_,r2⟩:=r.u0;rw[e,r2.zr];exact f6.nil
 | d::d2::ds,xs,r=>by obtain⟨x,r',e,z,r2⟩:=r.u0;obtain⟨I,O,e2,_,_⟩:=r2.u0;subst e e2;exact f6.cons z<|f6.dropLast r2
end
section
variable{X:Cx}{sc:mu}{N L:List Str}{k:Nat}{a b e:f7}{pos p p2:kr}{f g:CO D}
theorem cz{c:f7}{fa:CO D}(ha:PV X a fa){O:CO (Sk×List D)}(hb:PQ X c O)(hm:DG .NotIn c=d7:=by with_unfolding_all rfl):s9 X (.Compare a [.NotIn] [c] pos) (sB<|Vv fa O):=
 VD (VC Yu ha hb hm) λσ H Q hZ=>by
  obtain⟨H0,γ,d,rc,z,q⟩:=hZ;obtain⟨db,e0,eb⟩:=zb z;obtain⟨x,e1,z⟩:=zb e0;obtain⟨⟨kk,ds⟩,e2,z⟩:=zb z;obtain⟨i,e3,z⟩:=zb z;obtain⟨l,e4,rfl⟩:=zv z;cases eb;refine⟨H0,γ,x,rc,e1,λY H1 a5 x1 I=>⟨a5,γ,kk,ds,rc.ext x1,e2,λp xs H2 a6 x2 h1 h2 r=>?_⟩⟩;rw[jK e3]at I;have ex:=YN r e4;subst ex;have hq:lK X.K H2 p (l.map V.int)\/k0 X.K H2 p (l.map V.int):=by
   cases kk with
   | L=>exact .inl h1
   | T=>exact .inr h1
  refine⟨p,_,rfl,hq,by rw[show Y = .int i from I];rfl,YY l,?_⟩;rw[show Y = .int i from I,iB];exact⟨_,rfl,q H2 a6<|x1.trans x2⟩
end
end DL
namespace L2
open PySem PySem.Spec PyProof.Rows
theorem HY(z:Str):N0 z = "str_ascii_iterator"\/N0 z = "str_iterator":=by unfold N0;split<;>simp
theorem aW{X:Cx}{pins:TW}{σ:St}{H:Hp}{s:gx}{E:EQ}{z it:d8}{i Y:Nat}{x:fm}{v:V}{g:je}{elts:List f7}{x1:Nat}{sX:kr}{Q:Unit->gx->Prop}
 (I:Inv X pins σ H s) (hf : ∀b ∈ [z,it],bC X pins H b) (hz:z<s.heap.objs.size) (hi:it<s.heap.objs.size) (a1:O8 g z it ((i:Int)+1) x s.heap.objs.size)
 (a3:vt g s.heap.objs.size (.int i Y) x) (a5 : ∀b o,b≠z->b≠it->s.heap.get? b=cI o->g.get? b=cI o) (rx:RelV v x)
 (a8 : ∀g2,C6 g2 z it ((i+1:Nat):Int) x->PM z g g2->Inv X pins σ (upd H s.heap.objs.size<|.tup [.int i,v]) {s with heap:=g2,toks:=Y+1}->H s.heap.objs.size=cR->
   (∀b ∈ [z,it],upd H s.heap.objs.size (.tup [.int i,v]) b=cR)->Q () {s with heap:=g2,toks:=Y+1}) :
 wpAny (gv X.prog X.w) X.A (M3 (.Tuple elts x1 sX) (.ref z)<|.ref s.heap.objs.size) Q E {s with heap:=g,toks:=Y+1}:=by
 refine zal a1 λg2 a9 a0=>?_;have aa:vt g2 s.heap.objs.size (.int i Y) x:=a0.extBut _ _ (PZ hz) a3;have kk : ∀O u,O ∉ [z,it]->s.heap.get? O=cI u->g2.get? O=cI u:=λO u hb e=>by simp only[NP,Oc,or_false,not_or]at hb;exact a0.extBut _ _ hb.1<|a5 O u hb.1 hb.2 e
 refine a8 g2 (by have:=a9;rwa [show((i:Int)+1)=((i+1:Nat):Int)by omega]at this) a0 (I.x_ (fp:=[z,it]) kk hf (NJ _) ⟨by show 2<=kv;decide,[.int i Y,x],.cons ⟨_,rfl⟩<|.cons rx .nil,⟨_,aa,rfl,_,rfl⟩⟩) I.fresh λO hb=>?_;have ab:O≠s.heap.objs.size:=by
  simp only[NP,Oc,or_false]at hb;rcases hb with rfl | rfl
  ·exact Oa hz
  ·exact Oa hi
 rw[zH ab];exact(hf O hb).1
def Lh(K:Nr)(a:d8):It:=
 ⟨λi H=>∃xs,lK K H a xs/\i<xs.length,
  λi H x H'=>∃p u,x = .ref p/\H p=cR/\H'=upd H p (.tup [.int i,u])/\(∀xs,lK K H a xs->xs[i]? = cI u),
  λi H=>∃xs,lK K H a xs/\xs.length=i⟩
theorem bN{P:m4}{w:l0}{K:Nr}{elts:List f7}{x1:Nat}{sX:kr}{z it a:d8}(aa:z≠it) :
 Turn P w K (.Tuple elts x1 sX) (Lh K a) [z,it] z (λi h=>(∃Y,C6 h z it i Y)/\h.IsListIter it a i) where
 mem:=by simp
 obj:=λi h ⟨⟨Y,hz⟩,h1⟩ y hy=>by
  simp only[NP,Oc,or_false]at hy;rcases hy with rfl | rfl
  ·exact⟨_,hz,λv q=>by cases q⟩
  ·obtain⟨o,e,c,d⟩:=h1
   exact⟨o,e,λv q=>by rw[d]at q;cases q⟩
 keep:=λi h h' ⟨⟨Y,hz⟩,h1⟩ k=>⟨⟨Y,k z ⋯ _ hz⟩,h1.at λo e=>k it ⋯ o e⟩
 item:=by
  rintro X rfl rfl rfl hc i pins s σ H E I hf ⟨⟨Y,hz⟩,h1⟩ ⟨xs,a6,ar⟩;obtain⟨a7,a8,p1,z1⟩:=I.list a6;have hl:=p1.isList;have hx:xs[i]? = cI xs[i]:=Nw ar;have l1:=a8.length;have ag:a≠it:=λe=>by obtain⟨o,e1,O,_⟩:=hl;obtain⟨o2,e2,c2,_⟩:=h1;rw[e,e2]at e1;cases e1;rw[c2]at O;exact absurd O ⋯
  have ax:z≠a:=λe=>by obtain⟨o,e1,O,_⟩:=hl;have ap:s.heap.get? z=cI _:=hz;rw[e,e1]at ap;cases ap;exact absurd O ⋯
  have b0:it<s.heap.objs.size:=by obtain⟨o2,e2,_⟩:=h1;exact NR e2
  have Dr:=Draws.list (prog:=X.prog) (w:=X.w) (A:=X.A.in1) (show X.A.in1.handled=cR from I.ok.hd hc) it a ag a7.toArray;refine zan Dr hz ⟨h1,hl⟩ (by simp;omega) aa (by simp;exact⟨aa,ax⟩) λx g tk hP a1 a2 a3 a4 a5=>⟨_,rfl,?_⟩;obtain⟨u1,bg,bi⟩:=a8.get hx;obtain rfl:u1=x:=by have:=hP;simp[bg]at this;exact this
  refine aW I hf (NR hz) b0 a1 a3 a5 bi λg2 b1 b2 I1 bm hn=>⟨.ref s.heap.objs.size,_,I1,rfl,⟨_,_,rfl,bm,rfl,λc4 bn=>by rw[I.T9 bn a6];exact hx⟩,⟨⟨_,b1⟩,a2.1.at λo e=>b2.extBut _ _ aa.symm e⟩,hn⟩
 done:=by
  rintro X rfl rfl rfl hc i pins s σ H E I hf ⟨⟨Y,hz⟩,h1⟩ ⟨xs,a6,hi⟩;obtain⟨a7,a8,p1,z1⟩:=I.list a6;have hl:=p1.isList;have l1:=a8.length;have ag:a≠it:=λe=>by obtain⟨o,e1,O,_⟩:=hl;obtain⟨o2,e2,c2,_⟩:=h1;rw[e,e2]at e1;cases e1;rw[c2]at O;exact absurd O ⋯
  have Dr:=Draws.list (prog:=X.prog) (w:=X.w) (A:=X.A.in1) (show X.A.in1.handled=cR from I.ok.hd hc) it a ag a7.toArray;have en:a7.toArray.size=i:=by simp;omega
  rw[en]at Dr;refine zam Dr hz ⟨h1,hl⟩ λg hk=>⟨rfl,?_⟩;refine I.IJ (t':=s.toks) (fp:=[z,it]) (λb' u hb e=>?_) hf;simp only[NP,Oc,or_false,not_or]at hb;exact hk b' u hb.2 e
 self:=λ_ _ _ _ _ st h=>kO st.1.choose_spec h
def Lg(z:Str):It:=
 ⟨λi _=>i<z.cps.size,λi H x H'=>∃p c,x = .ref p/\H p=cR/\H'=upd H p (.tup [.int i,.str ⟨#[c]⟩])/\z.cps[i]? = cI c,λi _=>i=z.cps.size⟩
theorem Y1{prog:m4}{w:l0}{A:p4}(z:A.handled=cR)(it:d8)(x:Str)(t:z8) :
 Draws prog w A it [it] x.cps.size (λi v=>∃c u,x.cps[i]? = cI c/\v = .str ⟨#[c]⟩ u) (λi h=>h.IsStrIter it (N0 x) x t i):=by
 rcases HY x with q | q
 ·rw[q];exact Draws.strAscii z it x t
 ·rw[q];exact Draws.strWide z it x t
theorem bM{P:m4}{w:l0}{K:Nr}{elts:List f7}{x1:Nat}{sX:kr}{z it:d8}(x:Str)(t:z8)(Y:z≠it) :
 Turn P w K (.Tuple elts x1 sX) (Lg x) [z,it] z (λi h=>(∃O,C6 h z it i O)/\h.IsStrIter it (N0 x) x t i) where
 mem:=by simp
 obj:=λi h ⟨⟨O,hz⟩,h1⟩ y hy=>by
  simp only[NP,Oc,or_false]at hy;rcases hy with rfl | rfl
  ·exact⟨_,hz,λv q=>by cases q⟩
  ·obtain⟨o,e,c,d⟩:=h1
   exact⟨o,e,λv q=>by rw[d]at q;cases q⟩
 keep:=λi h h' ⟨⟨O,hz⟩,h1⟩ k=>⟨⟨O,k z ⋯ _ hz⟩,by obtain⟨o,e,r⟩:=h1;exact⟨o,k it ⋯ o e,r⟩⟩
 item:=by
  rintro X rfl rfl rfl hc i pins s σ H E I hf ⟨⟨O,hz⟩,h1⟩ a9;have aa:it<s.heap.objs.size:=by obtain⟨o2,e2,_⟩:=h1;exact NR e2
  have Dr:=Y1 (prog:=X.prog) (w:=X.w) (A:=X.A.in1) (show X.A.in1.handled=cR from I.ok.hd hc) it x t;refine zan Dr hz h1 a9 Y (by simp;exact Y) λu g tk hP a1 a2 a3 a4 a5=>⟨_,rfl,?_⟩;obtain⟨c,zcu,am,rfl⟩:=hP;refine aW (v:= .str ⟨#[c]⟩) I hf (NR hz) aa a1 a3 a5 ⟨_,rfl⟩ λg2 b1 b2 I1 ap hn=>⟨.ref s.heap.objs.size,_,I1,rfl,⟨_,_,rfl,ap,rfl,am⟩,⟨⟨_,b1⟩,?_⟩,hn⟩;obtain⟨o,e,r⟩:=a2;exact⟨o,b2.extBut _ _ Y.symm e,r⟩
 done:=by rintro X rfl rfl rfl hc i pins s σ H E I hf ⟨⟨O,hz⟩,h1⟩ hi;have hi:i=x.cps.size:=hi;subst hi;have Dr:=Y1 (prog:=X.prog) (w:=X.w) (A:=X.A.in1) (show X.A.in1.handled=cR from I.ok.hd hc) it x t;refine zam Dr hz h1 λg hk=>⟨rfl,?_⟩;refine I.IJ (t':=s.toks) (fp:=[z,it]) (λb' u hb e=>?_) hf;simp only[NP,Oc,or_false,not_or]at hb;exact hk b' u hb.2 e
 self:=λ_ _ _ _ _ st h=>kO st.1.choose_spec h
def EU(K:Nr)(ta:TA):TI:=λσ H R=>ta σ H λvs H1=>∃a,vs=[.ref a]/\(∃xs,lK K H1 a xs)/\R (Lh K a) H1
def ET(ta:TA):TI:=λσ H R=>ta σ H λvs H1=>∃z,vs=[.str z]/\R (Lg z) H1
section
variable{X:Cx}{e1:f7}{ta:TA}{p pos:kr}{elts:List f7}{x1:Nat}{sX:kr}
theorem nW(hg:Gl X "enumerate")(hm:X.mg "enumerate" = cR)(ha:PA X [e1] ta)
 (hv:D5 "enumerate" = cI (.type "enumerate")) (hs:i6 [e1] X.env=[(d7,f9 e1 X.env)]:=by rfl) :
 PI X (.Tuple elts x1 sX) (.Call (.Name "enumerate" p) [e1] [] pos) (EU X.K ta):=by
 intro pins s σ H R I h;refine G7<|yq I hg hm hv<|OT (ip (ha pos pins s σ H _ I h) λus s1 hZ=>?_) (by rw[hs];rfl) rfl;obtain⟨vs,H1,z,r1,q1⟩:=hZ;obtain⟨a,rfl,⟨xs,a5⟩,q⟩:=q1;obtain⟨w1,rfl,a6⟩:=yw r1;cases a6;obtain⟨a8,a9,p1,z1⟩:=z.list a5;refine call_enumerate_list p1.isList λg b1 b2 b3 b4=>kO (s:={s1 with heap:=g}) b1 ?_;refine⟨_,[s1.heap.objs.size+1,s1.heap.objs.size],_,_,H1,rfl,z.kept (t':=s1.toks) b4,bN<|PZ<|OW _,⟨⟨_,b1⟩,b2⟩,λc O=>?_,q⟩;have Y:s1.heap.objs.size<=c:=by
  simp only[NP,Oc,or_false]at O;rcases O with rfl | rfl
  ·exact OX _ _
  ·exact NJ _
 exact z.FZ Y<|z.i7.fresh Y
theorem nV(hg:Gl X "enumerate")(hm:X.mg "enumerate" = cR)(ha:PA X [e1] ta)
 (hv:D5 "enumerate" = cI (.type "enumerate")) (hs:i6 [e1] X.env=[(d7,f9 e1 X.env)]:=by rfl) :
 PI X (.Tuple elts x1 sX) (.Call (.Name "enumerate" p) [e1] [] pos) (ET ta):=by
 intro pins s σ H R I h;refine G7<|yq I hg hm hv<|OT (ip (ha pos pins s σ H _ I h) λus s1 hZ=>?_) (by rw[hs];rfl) rfl;obtain⟨vs,H1,O,r1,q1⟩:=hZ;obtain⟨z,rfl,q⟩:=q1;obtain⟨w1,rfl,a6⟩:=yw r1;obtain⟨t,rfl⟩:=a6;refine call_enumerate_str λg b1 b2 b3 b4=>kO (s:={s1 with heap:=g}) b1 ?_;refine⟨_,[s1.heap.objs.size+1,s1.heap.objs.size],_,_,H1,rfl,O.kept (t':=s1.toks) b4,bM z t<|PZ<|OW _,⟨⟨_,b1⟩,b2⟩,λc Y=>?_,q⟩;have a0:s1.heap.objs.size<=c:=by
  simp only[NP,Oc,or_false]at Y;rcases Y with rfl | rfl
  ·exact OX _ _
  ·exact NJ _
 exact O.FZ a0<|O.i7.fresh a0
end
theorem BQ{X:Cx}:L8 X (λx lo hi H Q=>∃z,x = .str z/\z.length<=kv/\Q (.str<|Txt.slice z lo hi) H):=by
 rintro pins s σ H x v zad vu lo hi sl Q I rx ⟨o,O,Y,hd⟩ pl pu ⟨z,rfl,hz,q⟩;obtain⟨t,rfl⟩:=rx;have a0 : ∀t' k,EP X pins σ Q (.str (Txt.slice z lo hi) t') {s with toks:=k}:=λt' k=>⟨.str _,H,I.tok k,⟨_,rfl⟩,q⟩;refine⟨"str",_,F.slot_str_getitem.lookup,y_ _ _ _,?_⟩;cases pl<;>cases pu
 ·exact SJ (l:=cR) (u:=cR) (st:=cR) ⟨o,O,Y,hd⟩ rfl<|Up ⟨OH (UK z _ _) hz,a0⟩
 ·exact SJ (l:=cR) (u:=cI (_,_)) (st:=cR) ⟨o,O,Y,hd⟩ rfl<|Up ⟨OH (UK z _ _) hz,a0⟩
 ·exact SJ (l:=cI (_,_)) (u:=cR) (st:=cR) ⟨o,O,Y,hd⟩ rfl<|Up ⟨OH (UK z _ _) hz,a0⟩
 ·exact SJ (l:=cI (_,_)) (u:=cI (_,_)) (st:=cR) ⟨o,O,Y,hd⟩ rfl<|Up ⟨OH (UK z _ _) hz,a0⟩
end L2
namespace DL
open PySem PySem.Spec PyProof.Rows L2
theorem Yc(z:Str):(kh z).length=z.cps.size:=by simp[kh]
theorem mZ(z:Str){i c:Nat}(h:z.cps[i]? = cI c):(kh z)[i]? = cI (.str ⟨#[c]⟩):=by simp[kh,h]
theorem bH{K:Nr}{H0 Hs:Hp}(z:Str):Walk K H0 Hs (Lg z) (xF<|kh z):=by
 have hz:(xF<|kh z).length=z.cps.size:=by simp[xF,Yc]
 refine⟨λi H1 s hi=>?_,λH1 s=>?_,λi H1 x C5 s hi y=>?_⟩
 ·rw[hz]at hi;exact hi
 ·rw[hz];exact rfl
 ·obtain⟨p,c,rfl,I,rfl,O⟩:=y
  refine⟨.tup [.int i,.str ⟨#[c]⟩],?_,λG0 s1 s2=>⟨upd G0 p<|.tup [.int i,.str ⟨#[c]⟩],Ext.alloc s2 I _,?_⟩⟩
  ·rw[hz]at hi
   unfold xF;rw[NT,ON (by rw[Yc];exact hi),NZ,mZ z O];rfl
  ·exact qO (k0.of zC)<|f6.cons (show V.int i = .int i from rfl)<|f6.cons (show V.str ⟨#[c]⟩ = .str ⟨#[c]⟩from rfl) f6.nil
theorem bI{K:Nr}{H0 Hs:Hp}{a:d8}{xs:List V}{ds:List D}(h:lK K Hs a xs)(r:f6 K H0 ds xs):Walk K H0 Hs (Lh K a) (xF ds):=by
 have Y:=r.length;have hz:(xF ds).length=ds.length:=by simp[xF]
 refine⟨λi H1 s hi=>?_,λH1 s=>?_,λi H1 x C5 s hi y=>?_⟩
 ·exact⟨xs,s.seq h,by omega⟩
 ·exact⟨xs,s.seq h,by omega⟩
 ·obtain⟨p,u,rfl,z,rfl,I⟩:=y
  obtain⟨d,hd,O⟩:=r.Gx<|I xs<|s.seq h;refine⟨.tup [.int i,d],?_,λG0 s1 s2=>⟨upd G0 p<|.tup [.int i,u],Ext.alloc s2 z _,?_⟩⟩
  ·unfold xF
   rw[NT,ON ⋯,NZ,hd];rfl
  ·exact qO (k0.of zC)<|f6.cons (show V.int i = .int i from rfl)<|f6.cons ((O.mono s1).mono (zX (jq s2 z) _)) f6.nil
section
variable{X:Cx}{sc:mu}{N L:List Str}{k:Nat}{a b e:f7}{pos p p2:kr}{f fa fb:CO D}
theorem VF{elts:List f7}{x1:Nat}{sX:kr}(h:SX X sc N L k)(c:yZ sc "enumerate" = cL)(z:X.mg "enumerate" = cR)(ha:PV X a f)(hs:i6 [a] X.env=[(d7,f9 a X.env)]:=by rfl) :
 o9 X (.Tuple elts x1 sX) (.Call (.Name "enumerate" p) [a] [] pos) (ki f):=
 Ka (nV (h.gl c).1 z (zP ha jJ hs) O' hs) λσ H R Y=>by
  obtain⟨H0,γ,ds,rc,I,q⟩:=Y;obtain⟨d,e0,I⟩:=zb I;cases d with
  | str z=>
   by_cases O:jm z=cL
   ·have I:(if jm z=cL then cI (xF<|kh z)else cR)=cI ds:=I
    rw[DZ O]at I;cases I;exact⟨H0,γ,_,rc,e0,λv H' eg x r=>⟨z,by rw[show v = .str z from r],q _ H' eg x<|bH z⟩⟩
   ·have I:(if jm z=cL then cI (xF<|kh z)else cR)=cI ds:=I
    rw[DJ O]at I;cases I
  | _=>cases I
theorem uG(h:SX X sc N L k)(c:yZ sc "enumerate" = cL)(z:X.mg "enumerate" = cR)(ha:PV X a f)(hs:i6 [a] X.env=[(d7,f9 a X.env)]:=by rfl) :
 o9 X (.Tuple elts x1 sX) (.Call (.Name "enumerate" p) [a] [] pos) (QV f):=
 Ka (nW (h.gl c).1 z (zP ha jJ hs) O' hs) λσ H R Y=>by
  obtain⟨H0,γ,ds,rc,I,q⟩:=Y;obtain⟨d,e0,I⟩:=zb I;cases d with
  | lst es=>
   cases I;refine⟨H0,γ,_,rc,e0,λv H' eg x r=>?_⟩;obtain⟨a1,xs,rfl,O,g2⟩:=gS r;exact⟨a1,rfl,⟨xs,x.sub.seq O⟩,q _ H' eg x<|bI O g2⟩
  | _=>cases I
theorem uq(ha:PV X a fa)(hb:PV X b fb):PV X (.BinOp a .Add b pos) (ny fa fb):=
 j4 (uJ cM ha hb) λσ H Q O=>by
  obtain⟨H0,γ,d,rc,z,q⟩:=O;obtain⟨x,e1,z⟩:=zb z;obtain⟨y,e2,z⟩:=zb z;cases x with
  | str u=>
   cases y with
   | str w=>
    by_cases I:jm u=cL/\jm w=cL
    ·have z:(if jm u=cL/\jm w=cL then cI (D.str<|u++w)else cR)=cI d:=z
     rw[DZ I]at z;cases z;refine⟨H0,γ,_,rc,e1,λv1 H1 Y x1 r1=>⟨Y,γ,_,rc.ext x1,e2,λv2 H2 a1 x2 r2=>⟨u,w,r1,r2,?_,q _ H2 a1 (x1.trans x2) rfl⟩⟩⟩;have h1:=vF I.1;have h2:=vF I.2;have:2000<=kv:=by decide
     omega
    ·have z:(if jm u=cL/\jm w=cL then cI (D.str<|u++w)else cR)=cI d:=z
     rw[DJ I]at z;cases z
   | _=>cases z
  | _=>cases z
theorem W6{lo hi:Option f7}{Y fh:CO (Option Int)}(ha:PV X a f)(hl:L2.PO X lo (tB X.K Y))(hh:L2.PO X hi (tB X.K fh)):PV X (.Subscript a (.Slice lo hi cR p2) pos) (BW f Y fh):=
 j4 (ao BQ ha hl hh) λσ H Q hZ=>by
  obtain⟨H0,γ,d,rc,I,q⟩:=hZ;obtain⟨d1,e1,I⟩:=zb I;obtain⟨l,e2,I⟩:=zb I;obtain⟨u,e3,I⟩:=zb I;refine⟨H0,γ,d1,rc,e1,λv H' eg x r=>⟨eg,γ,l,rc.ext x,e2,λH2 a7 x2=>⟨a7,γ,u,(rc.ext x).ext x2,e3,λH3 a9 x3=>?_⟩⟩⟩;have xa:=x.trans<|x2.trans x3;cases d1 with
  | str z=>
   by_cases O:jm z=cL
   ·have I:(if jm z=cL then cI (D.str<|Txt.slice z l u)else cR)=cI d:=I
    rw[DZ O]at I;cases I;exact⟨z,r,wG O,q _ H3 a9 xa rfl⟩
   ·have I:(if jm z=cL then cI (D.str<|Txt.slice z l u)else cR)=cI d:=I
    rw[DJ O]at I;cases I
  | _=>cases I
end
end DL
namespace DL
open PySem L2 PyProof.Rows
open PySem.W (KasT kas_sort kas_asc kas_desc kas_tail3 kas_descPart kas_count kas_place kas_bin kas_rev)
def Good{α:Type}(n:Nat)(P:α->Prop):KasT α->Prop
 | .ret a=>P a
 | .ask i j k=>i<n/\j<n/\∀b,Good n P<|k b
theorem Good.mono{α:Type}{n:Nat}{P z:α->Prop}(h : ∀a,P a->z a) : ∀{t:KasT α},Good n P t->Good n z t
 | .ret a,g=>h a g
 | .ask i j k,g=>⟨g.1,g.2.1,λb=>(g.2.2 b).mono h⟩
theorem Good.bind{α β:Type}{n:Nat}{P:α->Prop}{z:β->Prop}{f:α->KasT β}(I : ∀a,P a->Good n z (f a)) : ∀{t:KasT α},Good n P t->Good n z (t.bind f)
 | .ret a,g=>I a g
 | .ask i j k,g=>⟨g.1,g.2.1,λb=>(g.2.2 b).bind I⟩
theorem Good.run : ∀{t:KasT α},Good n P t->P (Cb lt t)
 | .ret a,g=>g
 | .ask i j k,g=>(g.2.2 _).run
def Pm(n:Nat)(p:Array Nat):Prop:=p.toList.Perm<|Nu n
theorem Pm.lt(h:Pm n p)(hn:0<n)(i:Nat):p.getD i 0<n:=by
 by_cases hi:i<p.size
 ·have e:p.getD i 0=p[i]:=by simp[Array.getD,hi]
  rw[e];exact NA.mp<|h.mem_iff.mp ⋯
 ·have e:p.getD i 0=0:=by simp[Array.getD,hi]
  rw[e];exact hn
theorem Pm.rev(h:Pm n p)(i j:Nat):Pm n (kas_rev p i j):=(Array.perm_iff_toList_perm.mp<|mirror_perm p i j _).trans h
theorem Pm.b?(h:Pm n p)(i j:Nat):Pm n (bubble p i j):=(Array.perm_iff_toList_perm.mp<|bubble_perm p i j).trans h
theorem Ko(h:Pm n p)(hn:0<n) : ∀f m,Good n (λ_=>True) (kas_asc p f m)
 | 0,m=>trivial
 | f+1,m=>⟨h.lt hn _,h.lt hn _,λb=>by
  cases b with
  | true=>exact trivial
  | false=>exact Ko h hn f<|m+1⟩
theorem vZ(hn:0<n) : ∀f p m q,Pm n p->Good n (λr=>Pm n r.1) (kas_desc f p m q)
 | 0,p,m,q,h=>h
 | f+1,p,m,q,h=>⟨h.lt hn _,h.lt hn _,λb=>by
  cases b with
  | true=>
   show Good n _ (if q>0 then _ else _);split
   ·exact vZ hn f _ _ _<|h.rev _ _
   ·exact vZ hn f _ _ _ h
  | false=>exact⟨h.lt hn _,h.lt hn _,λd=>by
   cases d with
   | true=>exact h
   | false=>exact vZ hn f _ _ _ h⟩⟩
theorem YS{n:Nat}(hn:0<n)(m r:Nat){p:Array Nat}(h:Pm n p):Good n (λr=>Pm n r.2) (kas_tail3 m r p):=by unfold kas_tail3;refine Good.bind (P:=λ_=>True) (λa _=>?_)<|Ko (h.rev _ _) hn _ _;exact(show Pm n (kas_rev p 0 m)from h.rev _ _)
theorem YU{n:Nat}(hn:0<n)(m r:Nat){p:Array Nat}(h:Pm n p):Good n (λr=>Pm n r.2) (kas_descPart m r p):=
 (vZ hn _ _ _ _ h).bind λa ha=>by
   show Good n _ (if a.2.2>0 then _ else _);split
   ·exact YS hn _ _<|Pm.rev ha _ _
   ·exact YS hn _ _ ha
theorem dj{n:Nat}(hn:0<n)(r:Nat){p:Array Nat}(h:Pm n p):Good n (λr=>Pm n r.2) (kas_count r p):=
 (Ko h hn _ _).bind λm _=>by
   show Good n _ (if (m==r)=cL then _ else if m>1 then _ else _);split
   ·exact h
   ·split
    ·exact⟨h.lt hn _,h.lt hn _,λc=>by
      cases c with
      | true=>exact h
      | false=>exact YU hn _ _<|h.rev _ _⟩
    ·exact YU hn _ _ h
theorem wV(hn:0<n)(h:Pm n p)(k:Nat) : ∀f l r,Good n (λ_=>True) (kas_place p k f l r)
 | 0,l,r=>trivial
 | f+1,l,r=>by
  show Good n _ (if l>=r then _ else _);split
  ·exact trivial
  ·exact⟨h.lt hn _,h.lt hn _,λc=>by
    cases c with
    | true=>exact wV hn h k f _ _
    | false=>exact wV hn h k f _ _⟩
theorem aO{n:Nat}(hn:0<n) : ∀f p k,Pm n p->Good n (Pm n) (kas_bin f p k)
 | 0,p,k,h=>h
 | f+1,p,k,h=>(wV hn h k k 0 k).bind λl _=>aO hn f _ _<|h.b? _ _
theorem YT{n:Nat}(hn:0<n):Good n (Pm n) (kas_sort n):=
 (dj hn n<|show Pm n (UH<|Nu n)from List.Perm.refl _).bind λr z=>by
   show Good n _ (if r.1<n then _ else _);split
   ·exact aO hn _ _ _ z
   ·exact z
theorem xS(ps:List (Int×Int)):(ke ps).Perm (Nu ps.length):=by
 unfold ke;split
 ·exact List.Perm.refl _
 ·exact(YT ⋯).run
theorem Yt : ∀{ds:List D} {ps:List (Int×Int)},Zg ds=cI ps->ps.length=ds.length
 | [],ps,h=>by cases h;rfl
 | d::ds,ps,h=>by
  unfold Zg at h;cases e1:og d with
  | none=>rw[e1]at h;cases h
  | some x=>
   cases e2:Zg ds with
   | none=>rw[e1,e2]at h;cases h
   | some l=>rw[e1,e2]at h;cases h;simp[Yt e2]
theorem qy(d:α) : ∀ds:List α,(Nu ds.length).map (λi=>ds.getD i d)=ds:=λds=>by
 apply RG;intro i;by_cases hi:i<ds.length
 ·simp[hi]
 ·simp[hi,Nat.not_lt.mp hi]
end DL
namespace DL
open PySem PySem.Spec PyProof.Rows L2
open PySem.W (KasT kas_sort kas_ask kat_run kat_snds kat_lt kat_cons kat_no kat_yes kat_nil kat_go kat_one kat_kind KatTups KatGo)
theorem iE(z : ∀i j C,i<n->j<n->C (lt i j) s->cmp i j C s) :
 ∀{t:KasT α},Good n P t->Q (Cb lt t) s->t.kasWp cmp Q s
 | .ret _,_,q=>q
 | .ask i j k,g,q=>z i j _ g.1 g.2.1<|iE z (g.2.2 _) q
def FX(h:je)(v:fm)(k l:Int):Prop:=∃x o xs m t u,v = .ref x/\h.get? x=cI o/\o.cls = .type "tuple"/\o.data = .seq xs m/\xs.toList=[.int k t,.int l u]
theorem FX.keep{h h':je}{v:fm}{k l:Int}(a:FX h v k l)(e : ∀b o,h.get? b=cI o->o.cls = .type "tuple"->h'.get? b=cI o):FX h' v k l:=by obtain⟨x,o,xs,m,t,u,h1,h2,z,I,O⟩:=a;exact⟨x,o,xs,m,t,u,h1,e x o h2 z,z,I,O⟩
theorem FX.one(a:FX h v k l):FJ h v k:=by obtain⟨x,o,xs,m,t,u,h1,h2,z,I,O⟩:=a;exact⟨x,o,xs,m,t,h1,h2,z,I,by rw[<- TX,O];rfl⟩
section
variable{prog:m4}{w:l0}{A:p4}{E:EQ}{s:gx}
theorem Jt{a:d8}{vs:List fm}{ps:List (Int×Int)}{n:Nat}{P:PySem.Fin->gx->Prop}(ho:s.heap.get? a=cI (vp "list" vs.toArray n))(a7:ps.length=vs.length)(ak:vs.length<64)
 (hT : ∀i (hi:i<vs.length),FX s.heap vs[i] (ps.getD i (0,0)).1 (ps.getD i (0,0)).2)
 (h:P (.done<|.ret .none) {s with heap:=sortedHeap s.heap a vs (UH<|(ke ps).map λi=>vs.getD i Oy)}) :
 wpAny (gv prog w) A (wy.«list.sort» ⟨[.ref a],[]⟩) P E s:=by
 rw[list_sort_plain];have ha:a<s.heap.objs.size:=NR ho;have hz:vs.length<=kv:=by rw[To];omega
 refine Nt (listItems_at ho rfl ?_);refine Nt (A? ho rfl ?_ (by rw[NK];exact hz) (Pf _));obtain⟨e1,a9⟩ : ∃e1,(s.heap.update a (PL λ_=>#[])).get? a=cI (vp "list" #[] e1):=⟨_,get?_update_seq ho (λ_=>#[])⟩;refine Nt (seqEpoch_at a9 rfl ?_);refine Nt (wpAny_newTuple ?_ (by show vs.length<=_;exact hz));refine Nt (wpAny_newList ?_ (Pf _));refine Rm ?_;have a5:(((s.heap.update a (PL λ_=>#[])).push (vp "tuple" vs.toArray 0)).push (vp "list" #[] 0)).get? a=cI (vp "list" #[] e1):=by rw[Ts _ _ _ (by rw[size_push',UQ];exact Oa (OK ha)),Ts _ _ _ (by rw[UQ];exact Oa ha)];exact a9
 show wpAny (gv prog w) A _ P E {s with heap:=((s.heap.update a (PL λ_=>#[])).push (vp "tuple" vs.toArray 0)).push (vp "list" #[] 0)};dsimp only;have hsz:vs.toArray.size=vs.length:=by simp
 by_cases h2:vs.toArray.size<2
 ·rw[DZ h2,DZ h2]
  refine Nt<|Nz ?_;rw[StateT.run_pure];refine Nt<|Nz ?_;dsimp only;refine Nt<|seqEpoch_at a5 rfl ?_;have e7:Array.map (λx=>x.snd) (arrOf<|SortSt.mk' general' (vs.toArray.zip vs.toArray) #[] 7 cR)=vs.toArray:=by show Array.map (λx=>x.snd) (vs.toArray.zip vs.toArray)=_;apply Array.ext';simp[Array.toList_map,Array.toList_zip];rw[List.map_snd_zip (NJ _)]
  have ev:(ke ps).map (λi=>vs.getD i Oy)=vs:=by unfold ke;rw[DZ ⋯,a7];exact qy _ _
  rw[ev]at h;refine Nt (A? a5 rfl ?_ (Pf _) (by rw[e7,hsz];exact UG hz));simp only[bne_self_eq_false,A3,if_false];have e8:({s with heap:=(((s.heap.update a (PL λx=>#[])).push (vp "tuple" vs.toArray 0)).push (vp "list" #[] 0)).update a (PL λx=>Array.map (λx=>x.snd) (arrOf (SortSt.mk' general' (vs.toArray.zip vs.toArray) #[] 7 cR)))}:gx) = {s with heap:=sortedHeap s.heap a vs vs.toArray}:=by rw[e7];rfl
  refine Nz ?_;rw[<- e8]at h;exact h
 ·rw[DJ h2,DJ h2]
  have n2:2<=vs.length:=by rw[<- hsz];omega
  have keep : ∀b o,s.heap.get? b=cI o->o.cls = .type "tuple"->(((s.heap.update a (PL λ_=>#[])).push (vp "tuple" vs.toArray 0)).push (vp "list" #[] 0)).get? b=cI o:=λb o e hc=>by
   have as:b≠a:=λz=>by rw[z,ho]at e;cases e;exact absurd hc (by show ¬(RB "list" = RB "tuple");decide)
   exact Nv _<|Nv _<|(Heap.get?_update_ne _ _ _ _ as).trans e
  generalize hg:((s.heap.update a (PL λ_=>#[])).push (vp "tuple" vs.toArray 0)).push (vp "list" #[] 0)=g at a5 keep ⊢;have a8 : ∀i (hi:i<vs.length),FX g vs[i] (ps.getD i (0,0)).1 (ps.getD i (0,0)).2:=λi hi=>(hT i hi).keep keep;obtain⟨fs,f1,f2,f3⟩:=rX (ks:=λi=>(ps.getD i (0,0)).1) λi hi=>(a8 i hi).one;refine Nt (kat_kind (T:=RB "int") (s:={s with heap:=g}) f1 ⋯ (λv hv=>?_) ⋯ ?_)
  ·obtain⟨k,t,rfl⟩:=f3 v hv
   exact PySem.W.Looks.of_pure rfl
  have ep:(Cb (λi j=>Ga (ps.getD i (0,0))<|ps.getD j (0,0))<|kas_sort vs.length).toList=ke ps:=by unfold ke;rw[DJ ⋯,a7]
  refine Nt (RK (kat_run (E:=E) (ks:=vs) (Q:=λa6 s'=>∃p:Array Nat,arrOf a6=p.map (PySem.W.kas_item<|vs.toArray.zip vs.toArray)/\failedOf a6=cR/\p.toList=ke ps/\s' = {s with heap:=g})
   (G:=λp s'=>p.toList=ke ps/\s' = {s with heap:=g})
   rfl n2 ak (λp a6 s' a1 a2 a3 a4=>⟨p,a2,a3,a4.1,a4.2⟩) (iE (lt:=λi j=>Ga (ps.getD i (0,0))<|ps.getD j (0,0)) (λi j C hi hj I=>?_) (YT ⋯) ⟨ep,rfl⟩)) ?_ λ_ _ e=>e)
  ·show wpAny _ _ (keyLt' _ (vs.getD i Oy)<|vs.getD j Oy) C _ _
   rw[show vs.getD i Oy=vs[i]by simp[hi],show vs.getD j Oy=vs[j]by simp[hj]];obtain⟨x,zcm,xs,m,t,u,e1,e2,e3,e4,e5⟩:=a8 i hi;obtain⟨y,zcn,ys,m',t',u',d1,d2,d3,d4,d5⟩:=a8 j hj;rw[e1,d1];refine kat_lt e2 e4 d2 d4 ?_;have bn:xs.size=2:=by rw[<- Pc,e5];rfl
   have bv:ys.size=2:=by rw[<- Pc,d5];rfl
   rw[e5,d5,bn,bv,Tc,Tc];unfold Ga at I;generalize ps.getD i (0,0)=O at I ⊢;generalize ps.getD j (0,0)=Y at I ⊢;refine kat_cons<|TY O.1 t Y.1 t' _ _ _ _ ?_;refine kat_go (λhb=>?_) λhb=>?_
   ·have hb:O.1=Y.1:=by simpa using hb
    rw[DZ hb]at I;refine kat_yes<|kat_cons<|TY O.2 u Y.2 u' _ _ _ _<|kat_go (λhd=>?_) λhd=>?_
    ·have hd:O.2=Y.2:=by simpa using hd
     refine kat_yes<|kat_nil ?_;rw[show decide (O.2<Y.2)=d7 by rw[hd];simp]at I;exact I
    ·exact kat_no<|kat_one _ _<|lt_int I
   ·have hb:O.1≠Y.1:=by simpa using hb
    rw[DJ hb]at I;exact kat_no<|oneLt_int I
  rintro⟨⟨⟩,a6⟩ s' ⟨p,bx,hf,hp,rfl⟩;dsimp only;have c2:=kat_snds rfl bx;have c3:((ke ps).map λi=>vs.getD i Oy).length=vs.length:=by rw[NV,(xS ps).length_eq,Oo,a7]
  rw[c2,hp];refine Nt<|seqEpoch_at a5 rfl ?_;refine Nt<|listUpdate_at a5 rfl ?_ (Pf _) (by rw[NK];show((ke ps).map λi=>vs.getD i Oy).length<=_;rw[c3];exact UG hz);rw[hf];simp only[bne_self_eq_false,A3,if_false];subst hg;exact Nz h
theorem Yb{l:d8}{vs:List fm}{ps:List (Int×Int)}{Q:EQ}(O:s.heap.IsList l vs.toArray)(Y:ps.length=vs.length)(a0:vs.length<64)
 (hT : ∀i (hi:i<vs.length),FX s.heap vs[i] (ps.getD i (0,0)).1 (ps.getD i (0,0)).2)
 (h:Q (.ref<|s.heap.objs.size+1) {s with heap:=sortedAll s.heap vs (UH<|(ke ps).map λi=>vs.getD i Oy)}) :
 wpAny (gv prog w) A (call (.builtin "sorted") [.ref l]) Q E s:=by
 have hz:vs.length<=kv:=by rw[To];omega
 refine Calls.call_function_entry kind_sorted plain_sorted entry_sorted (args_sorted1 _) ?_;unfold wy.«sorted»;refine Nt (m:=checkCount "sorted" 1 1 _) (Nz ?_);refine Nt (collect_list O ?_ hz);refine Nt (wpAny_newList ?_ hz);have hsz:((s.heap.push (vp "list" #[] 0)).update s.heap.objs.size (PL (· ++ vs.toArray))).objs.size=s.heap.objs.size+1:=by rw[UQ,size_push']
 have I:(((s.heap.push (vp "list" #[] 0)).update s.heap.objs.size (PL (· ++ vs.toArray))).push (vp "list" vs.toArray 0)).get? (s.heap.objs.size+1)=cI (vp "list" vs.toArray 0):=by rw[<- hsz];exact NO _ rfl
 have keep : ∀b o,s.heap.get? b=cI o->(((s.heap.push (vp "list" #[] 0)).update s.heap.objs.size (PL (· ++ vs.toArray))).push (vp "list" vs.toArray 0)).get? b=cI o:=λb o q=>by have z:b<s.heap.objs.size:=NR q;rw[Ts _ _ _ (by rw[hsz];exact Oa (OK z)),Heap.get?_update_ne _ _ _ _ (Oa z),Ts _ _ _ (Oa z)];exact q
 show wpAny _ _ _ _ _ {s with heap:=((s.heap.push (vp "list" #[] 0)).update s.heap.objs.size (PL (· ++ vs.toArray))).push (vp "list" vs.toArray 0)};rw[hsz];refine Nt (Rm (OI slot_list_sort ⟨_,I,rfl⟩ entry_list_sort (Jt (s:={s with heap:=((s.heap.push (vp "list" #[] 0)).update s.heap.objs.size (PL (· ++ vs.toArray))).push (vp "list" vs.toArray 0)}) I Y a0 (λi hi=>(hT i hi).keep λb o e _=>keep b o e) ⟨_,rfl,?_⟩) (args_list_sort _)));exact Nz ⟨_,rfl,h⟩
end
section
variable{X:Cx}
def Cg(K:Nr):List V->Hp->VK->Prop:=λxs H Q=>∃l ys ps,xs=[.ref l]/\lK K H l ys/\ps.length=ys.length/\ys.length<64/\
 (∀i (hi:i<ys.length),∃a,ys[i]=V.ref a/\k0 K H a [.int ((ps:List (Int×Int)).getD i (0,0)).1,.int (ps.getD i (0,0)).2])/\∀p,H p=cR->Q (.ref p) (upd H p<|.lst<|(ke ps).map λi=>ys.getD i .i5)
theorem Y4:Zv X (.builtin "sorted") (Cg X.K):=by
 intro pins s σ H vs us Q I rv h;obtain⟨l,ys,ps,rfl,hq,a4,ar,hT,aa⟩:=h;obtain⟨u,rfl,ru⟩:=yw rv;cases ru;obtain⟨z,r,pl,hz⟩:=I.list hq;have as:=r.length;refine Yb (ps:=ps) pl.isList ⋯ ⋯ (λi hi=>?_) ?_
 ·obtain⟨a,e1,e2⟩:=hT i ⋯
  obtain⟨v,O,g2⟩:=r.get (i:=i) (x:=V.ref a) (by rw[Nw ⋯,e1]);have hv:z[i]=v:=by rw[Nw hi]at O;exact Oj O
  rw[hv];cases g2;obtain⟨ae,r2,⟨o,ho,hc,n,hd⟩,_⟩:=I.tuple e2;obtain⟨Y,r3,rfl,q1,q2⟩ : ∃Y r3,ae=Y::r3/\RelV (.int (ps.getD i (0,0)).1) Y/\i8 [.int (ps.getD i (0,0)).2] r3:=by
   cases r2 with
   | cons q1 q2=>exact⟨_,_,rfl,q1,q2⟩
  obtain⟨v2,rfl,q3⟩:=yw q2;obtain⟨t,rfl⟩:=q1;obtain⟨u,rfl⟩:=q3;exact⟨a,o,_,n,t,u,rfl,ho,hc,hd,rfl⟩
 ·obtain⟨e,he⟩:=sortedAll_at s.heap z (UH<|(ke ps).map λi=>z.getD i Oy)
  have a6:((ke ps).map λi=>ys.getD i V.i5).length=ys.length:=by rw[NV,(xS ps).length_eq,Oo,a4]
  refine⟨.ref<|s.heap.objs.size+1,_,I.laid (t':=s.toks) (o:= .lst ((ke ps).map λi=>ys.getD i .i5)) (λb o q=>sortedAll_old q) (Uv _) ?_,rfl,aa _<|I.i7.fresh<|Uv _⟩;refine⟨by rw[a6];exact hz,(ke ps).map λi=>z.getD i Oy,e,?_,he⟩;have a3 : ∀i∈ke ps,i<ys.length:=λi hi=>by have:=(xS ps).mem_iff.mp hi;rw[a4]at this;exact NA.mp this
  generalize ke ps=o at a3;clear a6 he
  induction o with
  | nil=>exact .nil
  | cons i o ih=>
   have hi:=a3 i NL;refine .cons ?_ (ih λj hj=>a3 j<|NN _ hj);obtain⟨v,O,g2⟩:=r.get (i:=i) (x:=ys[i])<|Nw hi;show RelV (ys.getD i V.i5) (z.getD i Oy);rw[Ny,Ny,Nw hi,O];exact g2
theorem av : ∀{ds:List D} {ps:List (Int×Int)},Zg ds=cI ps->∀(i:Nat) d,ds[i]? = cI d->d = .tup [.int (ps.getD i (0,0)).1,.int (ps.getD i (0,0)).2]
 | [],ps,h,i,d,hd=>by simp at hd
 | c::ds,ps,h,i,d,hd=>by
  obtain⟨k,e1,h⟩:=zb h;obtain⟨l,e2,h⟩:=zv h;subst h;cases i with
  | zero=>
   simp at hd;subst hd;unfold og at e1;split at e1
   ·cases e1;rfl
   ·cases e1
  | succ i=>simpa using av e2 i d (by simpa using hd)
theorem Yh{K:Nr}{H:Hp}{ds:List D}{xs:List V}(r:f6 K H ds xs) : ∀(o:List Nat),(∀i∈o,i<xs.length)->f6 K H (o.map λi=>ds.getD i .i5) (o.map λi=>xs.getD i .i5)
 | [],_=>f6.nil
 | i::o,h=>by have hi:=h i NL;obtain⟨d,hd,z⟩:=r.Gx<|Nw hi;refine f6.cons ?_ (Yh r o λj I=>h j<|NN _ I);show Rep K H (ds.getD i .i5) (xs.getD i .i5);rw[Ny,Ny,Nw hi,hd];exact z
theorem X7{sc:mu}{N L:List Str}{k:Nat}{e:f7}{pos p:kr}{fq:CO (Sk×List D)}(h:SX X sc N L k)(c:yZ sc "sorted" = cL)(z:X.mg "sorted" = cR)(hq:PQ X e fq)(hs:i6 [e] X.env=[(d7,f9 e X.env)]:=by rfl) :
 PO X (.Call (.Name "sorted" p) [e] [] pos) (QU fq):=
 j4 (ya Y4 (h.gl c).1 z ⋯ (zP hq jJ hs) ⋯ ⋯ hs rfl) λσ H Q hZ=>by
  obtain⟨H0,γ,ds,rc,I,q⟩:=hZ;obtain⟨⟨kk,es⟩,e1,I⟩:=zb I;cases kk with
  | T=>cases I
  | L=>
   have I:fw es=cI ds:=I;unfold fw at I;obtain⟨ps,e2,I⟩:=zb I;by_cases Y:es.length<64
   ·rw[DZ Y]at I
    cases I;have ae:=Yt e2;refine⟨H0,γ,.L,es,rc,e1,λa xs H' eg ext h1 h2 r=>?_⟩;have ag:=r.length;refine⟨a,xs,ps,rfl,h1,by omega,by omega,λi hi=>?_,λl O=>?_⟩
    ·obtain⟨d,hd,rd⟩:=r.Gx (Nw hi)
     have ed:=av e2 i d hd;subst ed;obtain⟨b,zs,eb,h3,h4⟩:=kZ rd;refine⟨b,eb,?_⟩;obtain⟨y,yr,e5,h5,h6⟩:=h4.u0;obtain⟨y2,an,e6,h7,h8⟩:=h6.u0;rw[h8.zr]at e6;rw[e5,e6,jI h5,jI h7]at h3;exact o5 ext.sub h3
    ·refine q l _ _ eg (ext.trans<|Ext.hide ext.sub O _) (yL ext.s1 O) (jq ext.sub O) zC ?_
     refine Yh r _ λi hi=>?_;have:=(xS ps).mem_iff.mp hi;have:=NA.mp this;omega
   ·rw[DJ Y]at I;cases I
end
section
variable{X:Cx}{a b c:f7}{pos:kr}{fa fb fc:CO D}
theorem ZX{Y a0:CmpOp}{r r':R2}{F G:D->D->Option D}(ho:n4 X (wW Y) r)(a8:n4 X (wW a0) r')(s1:vv X.K r F)(s2:vv X.K r' G)(ha:PV X a fa)(hb:PV X b fb)(hc:PV X c fc)
 (hm:T7 [Y,a0] [b,c]=d7:=by with_unfolding_all rfl):s9 X (.Compare a [Y,a0] [b,c] pos) (sB<|yC F G fa fb fc):=
 VD (nJ ho a8 ha hb hc hm) λσ H Q hZ=>by
  obtain⟨H0,γ,kq,rc,ac,q0⟩:=hZ;obtain⟨d,I,e9⟩:=zb ac;have q : ∀v H' eg,Ext H0 H eg H'->Rep X.K eg d v->∃k,v = .bl k/\Q k H':=λv H' eg x rr=>by rw[ZE e9]at rr;exact⟨kq,rr,q0 H' eg x⟩
  obtain⟨x,e1,I⟩:=zb I;obtain⟨y,e2,I⟩:=zb I;obtain⟨k,e3,I⟩:=zb I;obtain⟨bb,e4,e5⟩:=zb e3;refine⟨H0,γ,x,rc,e1,λv1 H1 ap x1 r1=>⟨ap,γ,y,rc.ext x1,e2,λv2 H2 as O r2=>s1 as H2 v1 v2 x y bb _ O.sub (r1.mono O.s0) r2 e4 λv3 H3 a6 x3 r3=>?_⟩⟩;cases bb with
  | bl k'=>
   cases e5;refine⟨k,show v3 = .bl k from r3,?_⟩;cases k with
   | true=>
    rw[DZ rfl];rw[DZ rfl]at I;obtain⟨z,e6,e7⟩:=zb I;exact⟨a6,γ,z,((rc.ext x1).ext O).ext x3,e6,λv4 H4 bi x4 r4=>s2 bi H4 v2 v4 y z d _ x4.sub ((r2.mono x3.s0).mono x4.s0) r4 e7 λv5 H5 bx x5 r5=>q v5 H5 bx (((x1.trans O).trans x3).trans (x4.trans x5)) r5⟩
   | false=>
    rw[DJ ⋯];rw[DJ ⋯]at I;cases I;exact q _ H3 a6 ((x1.trans O).trans x3) rfl
  | _=>cases e5
end
end DL
namespace DL
open PySem PySem.Spec PyProof.Rows L2
theorem ZK{H:Hp}{x:d8}{o o':HO}:upd (upd H x o) x o'=upd H x o':=by
 funext b;by_cases h:b=x
 ·subst h;rw[zC,zC]
 ·rw[zH h,zH h,zH h]
structure DT(K:Nr)(C:d8):Prop where
 cls:DB K C
 np:FW K C "p"
 nt:FW K C "table"
def ZR(C:d8):Sp:=λvs H Q _=>∃x dx z I,vs=[.ref x,z,I]/\H x=cI (.ins C dx [])/\Q .i5 (upd H x<|.ins C dx<|Di z I)
def XT(K:Nr)(C:d8)(F:List D->Option Res):Sp:=λvs H Q _=>∃x dx z I O H0 p t b ds,vs=[.ref x,O]/\H x=cI (.ins C dx<|Di z I)/\js H0 H/\Rep K H0 p z/\Rep K H0 t I/\Rep K H0 b O/\F [p,t,b]=cI (.own ds)/\Mi K H0 H Q (.own ds)
section
variable{P:m4}{w:l0}{K:Nr}{mg:DX}{base:je}{k:Nat}
theorem Ax{q:Str}{st:m5}{f C:d8}{fd:u6}(O:L2.yg K "__init__" q st f fd)(hd:Kx ["self","p","table"] ["self","p","table"] st=cL)(c:DT K C)
 (Y : ∀X:Cx,X.prog=P->X.w=w->X.K=K->X.mg=mg->X.base=base->SX X (zU st) ["self","p","table"] ["self","p","table"] k->n5 X (jV st) (Ll (Hu X.K (wC 0) (wC 1) "p") (Hu X.K (wC 0) (wC 2) "table"))) :
 p5 P w K mg base t5 (k+1) f fd ["self","p","table"] (ZR C):=by
 have S:=k5 hd;refine O.ok S (λvs H Q E h=>by obtain⟨x,dx,z,I,rfl,_⟩:=h;rfl) λm7 A outer s H vs Q E hr a1=>⟨_,Y _ rfl rfl rfl rfl rfl ⟨rfl,rfl,S.nd,rfl,hr,λ_ _=> .inl rfl⟩,?_⟩;obtain⟨x,dx,z,I,rfl,hx,q⟩:=a1;refine⟨z,rfl,.ref x,rfl,x,C,dx,[],rfl,hx,c.cls,c.np,by decide,?_⟩;refine⟨I,rfl,.ref x,rfl,x,C,dx,X3 "p" z [],rfl,zC,c.cls,c.nt,by show 1<1000;decide,?_⟩;rw[ZK];exact q
theorem aT{Y q:Str}{st:m5}{f C:d8}{fd:u6}{F:List D->Option Res}(Fu:L2.yg K Y q st f fd)(hd:Kx ["self","base"] ["self","base"] st=cL)(c:DT K C)
 (a1 : ∀X:Cx,X.prog=P->X.w=w->X.K=K->X.mg=mg->X.base=base->SX X (zU st) ["self","base"] ["self","base"] k->
   n5 X (jV st) (GW (mU (B5 X.K 3 F) [] E0 (Zl (Hc X.K (wC 0) "p") (Zl (Hc X.K (wC 0) "table") (Zl (wC 1) rj)))))) :
 p5 P w K mg base t5 (k+1) f fd ["self","base"] (XT K C F):=by
 have S:=k5 hd;refine Fu.ok S (λvs H Q E h=>by obtain⟨x,dx,z,I,O,H0,p,t,b,ds,rfl,_⟩:=h;rfl) λm7 A outer s H vs Q E hr a3=>⟨_,a1 _ rfl rfl rfl rfl rfl ⟨rfl,rfl,S.nd,rfl,hr,λ_ _=> .inl rfl⟩,?_⟩;obtain⟨x,dx,z,I,O,H0,p,t,b,ds,rfl,hx,h0,r1,r2,r3,hF,a7⟩:=a3;refine⟨.ref x,rfl,x,C,dx,_,z,rfl,hx,c.cls,c.np,Ig z I,.ref x,rfl,x,C,dx,_,I,rfl,hx,c.cls,c.nt,Ie z I,O,rfl,?_⟩;exact⟨H0,[p,t,b],.own ds,h0,f6.cons r1<|f6.cons r2<|f6.cons r3 f6.nil,rfl,hF,a7⟩
def Hk(CR CL:d8):Sp:=λvs H Q _=>∃z s I,vs=[z,.str s,I]/\∀x dx,H x=cR->H dx=cR->dx≠x->Q (.ref x) (upd (upd H dx (.own x)) x (.ins (if s=("r" : Str)then CR else CL) dx (Di z I)))
theorem Ij{x:Str}{st:m5}{f CR CL:d8}{fd:u6}(Y:L2.yg K x x st f fd)(hd:Kx ["p","way","table"] ["p","way","table"] st=cL)
 (a0 : ∀X:Cx,X.prog=P->X.w=w->X.K=K->X.mg=mg->X.base=base->SX X (zU st) ["p","way","table"] ["p","way","table"] k->
   n5 X (jV st) (GW (L2.N8 (tG (GH _j (wC 1) (tC (.str "r")))) (mT CR (ZR CR) [] E0 (Zl (wC 0) (Zl (wC 2) rj))) (mT CL (ZR CL) [] E0 (Zl (wC 0) (Zl (wC 2) rj)))))) :
 p5 P w K mg base t5 (k+1) f fd ["p","way","table"] (Hk CR CL):=by
 have S:=k5 hd;refine Y.ok S (λvs H Q E h=>by obtain⟨I,s,O,rfl,_⟩:=h;rfl) λm7 A outer s H vs Q E hr a2=>⟨_,a0 _ rfl rfl rfl rfl rfl ⟨rfl,rfl,S.nd,rfl,hr,λ_ _=> .inl rfl⟩,?_⟩;obtain⟨I,z,O,rfl,q⟩:=a2;have go : ∀C,(∀x dx,H x=cR->H dx=cR->dx≠x->Q (.ref x) (upd (upd H dx (.own x)) x (.ins C dx (Di I O))))->mT C (ZR C) [] E0 (Zl (wC 0) (Zl (wC 2) rj)) (wD ["p","way","table"] [I,.str z,O]) H Q:=λC q=>by refine⟨I,rfl,O,rfl,λx dx hx a3 a4=>⟨x,dx,I,O,rfl,zC,rfl,?_⟩⟩;rw[ZK];exact q x dx hx a3 a4
 refine⟨.str z,rfl,rfl,_,rfl,?_⟩;show(if decide (V.str z=V.str "r")=cL then _ else _);by_cases h:z=("r" : Str)
 ·rw[DZ (decide_eq_true<|by rw[h])]
  refine go CR λx dx a b c=>?_;have:=q x dx a b c
  rwa [DZ h]at this
 ·rw[DJ (by simpa using h)]
  refine go CL λx dx a b c=>?_;have:=q x dx a b c
  rwa [DJ h]at this
end
section
variable{X:Cx}{sc:mu}{N L:List Str}{k j jr jl:Nat}{a b c d:f7}{p ID apos C1:kr}{fa fb fc fd:CO D}{F G:List D->Option Res}{x:Str}{CR CL:d8}
structure O5(P:m4)(w:l0)(K:Nr)(mg:DX)(base:je)(j:Nat)(x:Str)(CR CL:d8):Prop where
 ex : ∃(f:d8) (fd:u6),p5 P w K mg base t5 j f fd ["p","way","table"] (Hk CR CL)/\mg x=cI (.ref f)/\Pd K (.ref f)=cL/\Binds K fd ["p","way","table"] []
structure MethAt(P:m4)(w:l0)(K:Nr)(mg:DX)(base:je)(j:Nat)(C:d8)(F:List D->Option Res):Prop where
 cls:DT K C
 ex : ∃(f:d8) (fd:u6),IT K C "forth" f/\p5 P w K mg base t5 j f fd ["self","base"] (XT K C F)/\Binds K fd ["self","base"] []
theorem nP(ax:O5 X.prog X.w X.K X.mg X.base j x CR CL)(hR:MethAt X.prog X.w X.K X.mg X.base jr CR F)(hL:MethAt X.prog X.w X.K X.mg X.base jl CL G)(h1:j<=k)(h2:jr<=k)(h3:jl<=k)(h:SX X sc N L k)(cx:yZ sc x=cL)
 (ha:PV X a fa) (hb:PV X b fb) (hc:PV X c fc) (hd:PV X d fd)
 (he:i6 [a,b,c] X.env=(d7,f9 a X.env)::i6 [b,c] X.env:=by rfl) (bd:(r9 ID<|starEach [b,c] X.env).any (·.1)=d7:=by rfl)
 (be:i6 [b,c] X.env=(d7,f9 b X.env)::i6 [c] X.env:=by rfl) (bg:i6 [c] X.env=(d7,f9 c X.env)::i6 [] X.env:=by rfl)
 (am:i6 [d] X.env=(d7,f9 d X.env)::i6 [] X.env:=by rfl) (bi:(r9 C1<|starEach [] X.env).any (·.1)=d7:=by rfl)
 (ht:f9 (.Call (.Attribute (.Call (.Name x p) [a,b,c] [] ID) "forth" apos) [d] [] C1) X.env=(do
   let ov <- f9 (.Call (.Name x p) [a,b,c] [] ID) X.env
   GD apos.atName
   let (f,first) <- Dk [ov] (S8 ov "forth" pl)
   callWith C1 f first (r9 C1<|starEach [d] X.env) (D4 C1<|keywordEach [] X.env)):=by rfl) :
   PO X (.Call (.Attribute (.Call (.Name x p) [a,b,c] [] ID) "forth" apos) [d] [] C1) (rE F G (zc fa (zc fb (zc fc (zc fd zG))))):=by
  intro pins s σ H Q I ⟨H0,γ,ds,rc,O,q⟩;obtain⟨l,e0,O⟩:=zb O;obtain⟨dp,e1,e0⟩:=zb e0;obtain⟨l1,e2,rfl⟩:=zv e0;obtain⟨dw,e3,e2⟩:=zb e2;obtain⟨l2,e4,rfl⟩:=zv e2;obtain⟨dt,e5,e4⟩:=zb e4;obtain⟨l3,e6,rfl⟩:=zv e4;obtain⟨db,e7,e6⟩:=zb e6;obtain⟨l4,e8,rfl⟩:=zv e6;cases e8;cases dw with
  | str z=>
   have O:((if z=("r" : Str)then F else G) [dp,dt,db]).bind FT=cI ds:=O;obtain⟨r,e9,an⟩:=zb O;cases r with
   | val _=>cases an
   | own d3=>
    cases an;obtain⟨d4,d5,Gy,my,ky,c5⟩:=ax.ex;have call:=vy (p:=p) (pos:=ID) Gy (h.room.mono h1) (h.gl cx).1 my ky c5 .nil J4 (zP ha (zP hb (zP hc jJ bg) be) he) (h.gl cx).2.2 he bd;have go : ∀(C:d8) (jc:Nat) (Fc:List D->Option Res),(if z=("r" : Str)then CR else CL)=C->MethAt X.prog X.w X.K X.mg X.base jc C Fc->jc<=k->Fc [dp,dt,db]=cI (.own ds)->
     wpAny (gv X.prog X.w) X.A (f9 (.Call (.Attribute (.Call (.Name x p) [a,b,c] [] ID) "forth" apos) [d] [] C1) X.env) (EP X pins σ Q) X.xe s:=λC jc Fc hC M hj hF=>by
     obtain⟨zch,zcg,Mm,Gm,bm⟩:=M.ex;refine uK (pl:=pl) (E:=E0) call M.cls.cls Mm Gm (h.room.mono hj) bm .nil J4 (zP hd jJ am) am bi ht pins s σ H Q I ?_;refine⟨H0,γ,dp,rc,e1,λY H1 cf x1 r1=>⟨cf,γ,_,rc.ext x1,e3,λv2 H2 cl x2 r2=>⟨cl,γ,dt,(rc.ext x1).ext x2,e5,λv3 H3 a5 x3 r3=>?_⟩⟩⟩;refine⟨Y,z,v3,by rw[show v2 = .str z from r2];rfl,λo a6 n1 n2 cn=>?_⟩;rw[hC];have xe:Ext a5 H3 a5 (upd (upd H3 a6<|.own o) o<|.ins C a6<|Di Y v3):=(Ext.hide x3.sub n2<|.own o).trans (Ext.hide (x3.sub.trans<|zX n2 _) (by rw[zH (OQ cn)];exact n1) _);have xa:=(x1.trans<|x2.trans x3).trans xe;refine⟨o,a6,Di Y v3,rfl,zC,Ih Y v3,a5,γ,db,rc.ext xa,e7,λv4 H4 ar x4 r4=>?_⟩;have as:js a5 ar:=x4.s0;refine⟨o,a6,Y,v3,v4,ar,dp,dt,db,ds,rfl,x4.s1 _ _ zC,x4.sub,((r1.mono x2.s0).mono x3.s0).mono as,r3.mono as,r4,hF,?_⟩;exact λa' xs H' eg x5 g1 g2 g3 g4=>q a' xs H' eg (xa.trans<|x4.trans x5) (yL (xa.trans x4).s1 g1) g2 g3 g4
    by_cases hz:z=("r" : Str)
    ·rw[DZ hz]at e9
     exact go CR jr F (DZ hz) hR h2 e9
    ·rw[DJ hz]at e9
     exact go CL jl G (DJ hz) hL h3 e9
  | _=>cases O
end
section
variable{X:Cx}{sc:mu}{N L:List Str}{k:Nat}{a:f7}{pos:kr}{f:CO (List D)}
theorem uy(i:Nat)(h:SX X sc N L k)(c:JZ sc N i x=cL)(ha:PO X a f)(hs:i6 [a] X.env=[(d7,f9 a X.env)]:=by rfl)
 (a1:DF (.Name x np) "extend" X.env (f9 (.Name x np) X.env)=f9 (.Name x np) X.env:=by rfl)
 (a2:((r9 cpos<|starEach [a] X.env).all (λx=> !x.1) && (D4 cpos<|keywordEach [] X.env).all (λx=>x.1.isSome)
   && decide ([a].length+([]:List A9).length+(if ([]:List A9).isEmpty then 0 else 1)<30))=cL:=by rfl)
 (a3:(apos.endLine==cpos.line)=cL:=by rfl) (a4:A8 (.Call (.Attribute (.Name x np) "extend" apos) [a] [] cpos) cR pos.line X.env=pure d7:=by rfl) :
 tr X (.Expr (.Call (.Attribute (.Name x np) "extend" apos) [a] [] cpos) pos) (fJ i f):=
 xi (wL (cJ RH PySem.F.slot_list_extend PySem.F.type_list_extend gK (h.var c) (zP ha jJ hs) a1 a2 a3 hs rfl) a4) λD σ H hZ=>by
  obtain⟨E0,E,H0,γ,fl,rs,z,a6⟩:=hZ;obtain⟨ds,e1,z⟩:=zb z;obtain⟨es,e2,z⟩:=zb z;have e1:=kl e1;by_cases I:ds.length+es.length<=lim
  ·rw[DZ I]at z;cases z
   obtain⟨l,xs,h1,h2,O,Y⟩:=rs.rc.own i ds e1;refine⟨_,h1,.inl ⟨rfl,_,lK.of O⟩,H0,γ,es,rs.rc,e2,λb zs H' eg x g1 g2 g3 g4=>?_⟩;have hl:xs.length+zs.length<=kv:=by
    rw[Y.length,g4.length];have:lim<=kv:=by decide
    omega
   refine⟨l,b,xs,zs,rfl,rfl,x.s1 _ _ O,g3,hl,?_⟩;have a9:=rs.step x;exact a6 _ _ _<|a9.rewrite (xs:=xs) e1 h1<|(Y.mono x.s0).append g4
  ·rw[DJ I]at z;cases z
end
def pJ(K:Nr)(C:d8):Bool:=TF K C && Pd K (.ref C) && L7 K C Str.empty && Ta K C && Ur K C &&
 OE K (.ref C) "__setattr__" == cI (cI (.builtin "object.__setattr__")) && OE K (.ref C) "p" == cI cR && OE K (.ref C) "table" == cI cR
structure D_(K:Nr)(mg:DX)(sI sR sL:m5):Prop where
 ex : ∃(CR CL fI fR fL:d8) (dI dR dL:u6),mg "Right" = cI (.ref CR)/\mg "Left" = cI (.ref CL)/\Mk K CR fI/\Mk K CL fI/\DT K CR/\DT K CL/\IT K CR "forth" fR/\IT K CL "forth" fL/\
  L2.yg K "__init__" "Arrow.__init__" sI fI dI/\L2.yg K "forth" "Right.forth" sR fR dR/\L2.yg K "forth" "Left.forth" sL fL dL/\
  Binds K dI ["self","p","table"] []/\Binds K dR ["self","base"] []/\Binds K dL ["self","base"] []
section
variable{K:Nr}{mg:DX}{h:je}
theorem lh(b:pJ K C=cL):DT K C/\TF K C=cL/\Pd K (.ref C)=cL:=by unfold pJ at b;simp only[NI,beq_iff_eq]at b;obtain⟨⟨⟨⟨⟨⟨⟨b1,b2⟩,b3⟩,b4⟩,b5⟩,b6⟩,b7⟩,b8⟩:=b;exact⟨⟨⟨b3,b4,b5,b6⟩,b7,b8⟩,b1,b2⟩
theorem LP{sI sR sL:m5}{CR CL fI fR fL:d8}{oI oR oL:fm}{eI eR eL aI aR aL:Option d8}{lI lR lL:Array (Option fm)}{kI dI pI z tI kR dR pR I tR kL dL pL O tL:fm}(Y:K.In h)(G:h.Ns A7 mg)
 (nR:TC K A7 "Right" = cI (cI (.ref CR))) (nL:TC K A7 "Left" = cI (cI (.ref CL)))
 (iR:OE K (.ref CR) "__init__" = cI (cI (.ref fI))) (iL:OE K (.ref CL) "__init__" = cI (cI (.ref fI)))
 (mR:OE K (.ref CR) "forth" = cI (cI (.ref fR))) (mL:OE K (.ref CL) "forth" = cI (cI (.ref fL)))
 (uI:K.lookup fI=cI ⟨oI,eI,.func (PB "__init__" "Arrow.__init__" (xG sI) (jV sI) (zU sI) .none kI dI pI aI z tI),lI⟩)
 (uR:K.lookup fR=cI ⟨oR,eR,.func (PB "forth" "Right.forth" (xG sR) (jV sR) (zU sR) .none kR dR pR aR I tR),lR⟩)
 (uL:K.lookup fL=cI ⟨oL,eL,.func (PB "forth" "Left.forth" (xG sL) (jV sL) (zU sL) .none kL dL pL aL O tL),lL⟩)
 (vI:Sf K z "Arrow.__init__" = cL) (vR:Sf K I "Right.forth" = cL) (vL:Sf K O "Left.forth" = cL)
 (w1:Pd K (.ref fI)=cL) (w2:Pd K (.ref fR)=cL) (w3:Pd K (.ref fL)=cL)
 (z1:SW K (.ref fI)=cL) (z2:SW K (.ref fR)=cL) (z3:SW K (.ref fL)=cL)
 (bR:pJ K CR=cL) (bL:pJ K CL=cL)
 (gI : ∀(kV doc pm:fm) (an:Option d8) (m7 ct:fm) (us:List fm),us.length=3->Ir (PB "__init__" "Arrow.__init__" (xG sI) (jV sI) (zU sI) .none kV doc pm an m7 ct) ⟨us,[]⟩=pure ((["self","p","table"]:List Str).zip us))
 (gR : ∀(kV doc pm:fm) (an:Option d8) (m7 ct:fm) (us:List fm),us.length=2->Ir (PB "forth" "Right.forth" (xG sR) (jV sR) (zU sR) .none kV doc pm an m7 ct) ⟨us,[]⟩=pure ((["self","base"]:List Str).zip us))
 (gL : ∀(kV doc pm:fm) (an:Option d8) (m7 ct:fm) (us:List fm),us.length=2->Ir (PB "forth" "Left.forth" (xG sL) (jV sL) (zU sL) .none kV doc pm an m7 ct) ⟨us,[]⟩=pure ((["self","base"]:List Str).zip us)):D_ K mg sI sR sL:=by
 obtain⟨c1,c2,c3⟩:=lh bR;obtain⟨d1,d2,d3⟩:=lh bL;have FI:=aQ uI vI w1;have FR:=aQ uR vR w2;have FL:=aQ uL vL w3;exact⟨CR,CL,fI,fR,fL,_,_,_,Ue Y G nR,Ue Y G nL,⟨c2,iR,z1,c3⟩,⟨d2,iL,z1,d3⟩,c1,d1,⟨mR,z2,w2⟩,⟨mL,z3,w3⟩,FI,FR,FL,FI.binds gI,FR.binds gR,FL.binds gL⟩
end
def AL:m5->List m5
 | .ClassDef _ _ _ b _ _ _ _ _ _ _=>b
 | _=>[]
def As(st:m5)(j:Nat):m5:=(AL st).getD j (.Pass ⟨0,0,0,0⟩)
theorem wQ{K:Nr}{H:Hp} : ∀{ds:List D} {ns:List Int} {xs:List V},vY ds=cI ns->f6 K H ds xs->xs=(ns.map Pw).map kV
 | [],ns,xs,e,r=>by cases e;exact r.zr
 | d::ds,ns,xs,e,r=>by
  cases d with
  | int i=>
   obtain⟨l,e1,e2⟩:=zv e;subst e2;obtain⟨x,t,rfl,h1,h2⟩:=r.u0;rw[wQ e1 h2,show x = .int i from h1];rfl
  | _=>cases e
theorem Kr{K:Nr}{H:Hp}{i:Int} : ∀{ks vs:List D} {kk:List Key} {xs:List V},ia ks=cI kk->kk.length=xs.length->f6 K H vs xs->
 (∀d,aP ks vs i=cI d->∃v,WC (kk.zip xs) (Pw i)=cI v/\Rep K H d v)/\(aP ks vs i=cR->WC (kk.zip xs) (Pw i)=cR)
 | [],vs,kk,xs,e,l,r=>by cases e;exact⟨(λd q=>by cases q),λ_=>rfl⟩
 | k::ks,[],kk,xs,e,l,r=>by rw[r.zr]at l ⊢;rw[List.length_eq_zero_iff.mp l];exact⟨(λd q=>by cases q),λ_=>rfl⟩
 | k::ks,v::vs,kk,xs,e,l,r=>by
  obtain⟨I,e1,e2⟩:=zb e;obtain⟨O,e3,e4⟩:=zv e2;subst e4;obtain⟨x,Y,rfl,h1,h2⟩:=r.u0;have ih:=Kr (i:=i) e3 (by simpa using l) h2;have step:I≠Pw i->WC ((I::O).zip (x::Y)) (Pw i)=WC (O.zip Y) (Pw i):=λhn=>by rw[Tc];simp[WC,RV,hn]
  cases k with
  | int j=>
   cases e1;by_cases z:j=i
   ·subst z
    refine⟨λd q=>⟨x,?_,?_⟩,λq=>?_⟩
    ·rw[Tc];exact XI rfl
    ·have:v=d:=by simpa[aP]using q
     exact this ▸ h1
    ·simp[aP]at q
   ·have hn:(Pw j:Key)≠Pw i:=λq=>z (Pw.inj q)
    rw[step hn];have e5:aP (.int j::ks) (v::vs) i=aP ks vs i:=by simp[aP,z]
    rw[e5];exact ih
  | str y=>
   cases e1;rw[step (λq=>by cases q)];exact ih
  | _=>cases e1
def ZI(k:CO Bool)(F:CO Fl):Nat->CO Fl
 | 0,_=>cR
 | n+1,γ=>(k γ).bind λb=>if b=cL then (F γ).bind λz=>match z with
  | .next γ'=>ZI k F n γ'
  | .cont γ'=>ZI k F n γ'
  | .brk γ'=>cI (.next γ')
  | .ret r=>cI (.ret r)
  else cI (.next γ)
def rD(n:Nat)(k:CO Bool)(F:CO Fl):CO Fl:=λγ=>ZI k F n γ
section
variable{X:Cx}{c:f7}{body:List m5}{pos:kr}{k:CO Bool}{F:CO Fl}
theorem gd(n:Nat)(hp:G9 (gv X.prog X.w) X.A X.env X.xe)(hc:s9 X c k)(hb:bB X body F):tr X (.While c body [] pos) (rD n k F):=
 xi (nM hp hc hb) λD σ H hZ=>by
  obtain⟨E0,E,H0,γ,Y,rs,ef,a0⟩:=hZ;refine⟨λm σ H=>∃H0 γ,RS X.K E0 E H0 H σ γ/\ZI k F m γ=cI Y,⟨n,H0,γ,rs,ef⟩,λm FA H1 w1=>?_⟩;obtain⟨a9,γ1,E9,e1⟩:=w1;cases m with
  | zero=>cases e1
  | succ m=>
   obtain⟨b,e2,I⟩:=zb (show(k γ1).bind _=cI Y from e1);refine⟨a9,γ1,b,E9.rc,e2,λH2 a1 x2=>?_⟩;cases b with
   | true=>
    rw[DZ rfl]at I ⊢;obtain⟨f1,e4,O⟩:=zb I;refine⟨λi9 H'=>∃H0 γ',RS X.K E0 E H0 H' i9 γ'/\ZI k F m γ'=cI Y,λi9 H' z=>⟨m,OW m,z⟩,E0,E,a1,γ1,f1,E9.step x2,e4,?_⟩;cases f1 with
    | next γ'=>exact λi9 H' eg r=>⟨eg,γ',r,O⟩
    | cont γ'=>exact λi9 H' eg r=>⟨eg,γ',r,O⟩
    | brk γ'=>cases O;exact a0
    | ret r=>
     cases O;cases r<;>exact a0
   | false=>
    rw[DJ NM]at I ⊢;cases I;exact a0 FA H2 a1<|E9.step x2
end
def wH(g:CO (Sk×List D))(fa:CO D):CO D:=λγ=>(g γ).bind λks=>(fa γ).bind λx=>match ks.1 with
 | .L=>if tu x=cL/\ve ks.2=cL then cI (.int (ks.2.countP λd=>n6 d x:Nat))else cR
 | .T=>cR
theorem cp(I:Inv X pins σ H s)(sub:js H0 H)(O:lK X.K H p xs)(r:f6 X.K H0 ds xs)(o:ve ds=cL) : ∃z,Reads s.heap (.ref p) (.list<|x8 ds) z:=by obtain⟨a2,Y,q,hz⟩:=I.list O;obtain⟨ob,ho,hc,n,hd⟩:=q.isList;obtain⟨z,ra⟩:=Np I sub o r Y;exact⟨_,.list ho hc hd<|by simpa using ra⟩
section
variable{X:Cx}{sc:mu}{N L:List Str}{k:Nat}{a b:f7}{pos:kr}{fa:CO D}{g:CO (Sk×List D)}
theorem SX.Y?(h:SX X sc N L k):X.A.units+66<B7:=by have:=h.room.un;omega
end
def uj(K:Nr):V->List V->Hp->VK->Prop:=λx vs H Q=>∃H0 dx v p xs ds,js H0 H/\x = .ref p/\vs=[v]/\Rep K H0 dx v/\lK K H p xs/\f6 K H0 ds xs/\tu dx=cL/\ve ds=cL/\Q (.int (ds.countP λd=>n6 d dx:Nat)) H
theorem Xv(hx:vb x=cL) : ∀ds:List D,ve ds=cL->(x8 ds).countP (λy=>RL y<|o6 x)=ds.countP λd=>n6 d x
 | [],_=>by simp[x8]
 | d::ds,h=>by simp only[ve,NI]at h;simp only[x8,UO];rw[Md d x h.1 hx,Xv hx ds h.2]
theorem gM(hu:X.A.units+66<B7):P5 X "list.count" (uj X.K):=by
 intro pins s σ H x vs v us Q I rx rv h;obtain⟨H0,dx,y,p,xs,ds,sub,rfl,rfl,r1,hq,r2,z,O,q⟩:=h;cases rx;obtain⟨w1,rfl,rw⟩:=yw rv;obtain⟨as,ra⟩:=IF I sub (xX z) r1 rw;obtain⟨bs,rb⟩:=cp I sub hq r2 O;have hs:=PySem.SeqAt.depth_of_shaped<|yB z;have Y:=MX ds O;cases rb with
 | list h1 h2 h3 h4=>
  rename_i ob a1 n aa
  obtain⟨oc,od,ab,Dl⟩:=ob;subst h2 h3;refine SD F.slot_list_count ⟨_,h1,rfl⟩ F.entry_list_count (F.args_list_count_2 _ _) (PySem.SeqAt.list_countAt p a1 n od Dl w1<|λy=>RL (PySem.SeqAt.readOf s.heap y)<|o6 dx) ⟨h1,PySem.SeqAt.items_eqAt h4 ra Y (T8 dx<|xX z) ?_,?_⟩
  ·have:min (TN<|x8 ds) (o6 dx).depth<=(o6 dx).depth:=Nat.min_le_right _ _
   omega
  ·have e:a1.toList.countP (λy=>RL (PySem.SeqAt.readOf s.heap y)<|o6 dx)=ds.countP λd=>n6 d dx:=by
    rw[<- Xv (xX z) ds O,<- PySem.SeqAt.readsAll_map _ _ _ Y h4,SY];rfl
   rw[e];exact⟨.int _,H,I.tok _,⟨_,rfl⟩,q⟩
section
variable{X:Cx}{sc:mu}{N L:List Str}{k:Nat}{o e:f7}{apos cpos:kr}{fa:CO D}{g:CO (Sk×List D)}
theorem fX(h:SX X sc N L k)(ho:PQ X o g)(he:PV X e fa)(a2:DF o "count" X.env (f9 o X.env)=f9 o X.env:=by rfl)
 (a3:((r9 cpos<|starEach [e] X.env).all (λx=> !x.1) && (D4 cpos<|keywordEach [] X.env).all (λx=>x.1.isSome) && decide ([e].length+([]:List A9).length+(if ([]:List A9).isEmpty then 0 else 1)<30))=cL:=by rfl)
 (a4:(apos.endLine==cpos.line)=cL:=by rfl) (hs:i6 [e] X.env=[(d7,f9 e X.env)]:=by rfl):PV X (.Call (.Attribute o "count" apos) [e] [] cpos) (wH g fa):=
 j4 (cJ RH PySem.F.slot_list_count PySem.F.type_list_count (gM h.Y?) ho (zP he jJ hs) a2 a3 a4 hs rfl) λσ H Q hZ=>by
  obtain⟨H0,γ,d,rc,z,q⟩:=hZ;obtain⟨⟨kk,ds⟩,e2,z⟩:=zb z;obtain⟨x,e1,z⟩:=zb z;cases kk with
  | T=>cases z
  | L=>
   have z:(if tu x=cL/\ve ds=cL then cI (D.int (ds.countP λd=>n6 d x:Nat))else cR)=cI d:=z;by_cases I:tu x=cL/\ve ds=cL
   ·rw[DZ I]at z;cases z
    refine⟨H0,γ,.L,ds,rc,e2,λp xs H1 a6 x1 h1 h2 r=>⟨.inl ⟨rfl,xs,h1⟩,a6,γ,x,rc.ext x1,e1,λv2 H2 Y O r2=>?_⟩⟩;exact⟨Y,x,v2,p,xs,ds,O.sub,rfl,rfl,r2,O.s1.seq h1,r.mono O.s0,I.1,I.2,q _ H2 Y (x1.trans O) rfl⟩
   ·rw[DJ I]at z;cases z
end
def FS(f:CO D)(γ:Ctx):Option (List D):=((f γ).bind p7).bind λn=>if inR n=cL/\n.toNat<=lim then cI (vJ 0 n.toNat)else cR
@[simp] def zaJ:=@FS.eq_1
def GN(ds es fs:List D):List D:=(ds.zip<|es.zip fs).map λp=>D.tup [p.1,p.2.1,p.2.2]
def Mx(f g h:CO D)(γ:Ctx):Option (List D):=((f γ).bind jg).bind λm=>((g γ).bind jg).bind λn=>((h γ).bind jg).map λo=>GN m.2 n.2 o.2
@[simp] def zbl:=@Mx.eq_1
def ni(i:Nat)(g:CO (Sk×List D)):CO Fl:=λγ=>(qT γ[i]?).bind λds=>(g γ).bind λa=>match a.1 with
 | .T=>if ds.length+a.2.length<=lim then cI (.next<|γ.set i<|.own<|ds++a.2)else cR
 | .L=>cR
end DL
namespace L2
open PySem PySem.Spec PyProof.Rows
theorem dz(l b:d8)(z:Array fm)(n:Nat)(I:Array fm)(n2:Nat)(o:o8)(Y : ¬(!z.isEmpty && Rp (z.size+I.size))=cL)(a0:z.size<=kv)(a1:z.size+I.size<=kv+1) :
 G8 (wy.«list.extend» ⟨[.ref l,.ref b],[]⟩) (λ_ R s=>s.heap.get? l=cI {cls:= .type "list",dict:=cR,data:= .seq z n,slots:=#[]}/\s.heap.get? b=cI o/\o.cls = .type "tuple"/\o.data = .seq I n2/\R (.ok (.ret Oy)) {s with heap:=s.heap.update l (PL λx=>x++I)}):=
 .of_wp λprog w A R s h=>by
  obtain⟨O,hb,hc,hd,h⟩:=h;have a3:(z++I).size<=kv+1:=by rw[Array.size_append];exact a1
  refine Nt (m:=PySem.selfAndOne "list.extend" ⟨[.ref l,.ref b],[]⟩) (Nz ?_);show wpAny _ _ (Builtin.List.listExtendWith (.ref l) (.ref b) .none) _ _ s;unfold Builtin.List.listExtendWith;refine Nt (m:=typeOf (.ref b)) (SU ⟨o,hb,hc⟩ ?_);have e1:(Builtin.List.listSameRef (.ref l) (.ref b) || RB "tuple" == RB "list" || RB "tuple" == RB "tuple")=cL:=by simp
  rw[DZ e1];refine Nt (m:=Builtin.List.listItems<|.ref b) ?_;unfold Builtin.List.listItems;refine Nt (m:=d_<|.ref b)<|Ra hb hd<|Nz ?_;refine Nt ?_;refine Nt (m:=d_<|.ref l)<|Ra O rfl<|Nz ?_;rw[DJ Y];exact Nt (m:=updateSeq l λx=>x++I)<|wpAny_updateSeq O rfl (hz:=a0) (_hz':=a3)<|Nz ⟨_,rfl,h⟩
def HA(K:Nr):V->List V->Hp->VK->Prop:=λx vs H Q=>∃l b xs zs,x = .ref l/\vs=[.ref b]/\H l=cI (.lst xs)/\k0 K H b zs/\xs.length+zs.length<=kv/\Q .i5 (upd H l<|.lst<|xs++zs)
theorem Ae{X:Cx}:P4 X "list.extend" (HA X.K):=by
 intro pins s σ H x vs v us Q I rx rv h;obtain⟨l,b,xs,zs,rfl,rfl,hH,hB,hz,q⟩:=h;cases rx;obtain⟨u,rfl,ru⟩:=rv.one;cases ru;obtain⟨z,O,n,r,hl,e⟩:=I.F1 hH;obtain⟨Y,r2,⟨o,ho,hc,n2,hd⟩,a8⟩:=I.tuple hB;have MK:=r.length;have MJ:=r2.length;have hsz:O.toArray.size+Y.toArray.size<=kv:=by rw[NK,NK];omega
 have a6 : ¬(!O.toArray.isEmpty && Rp (O.toArray.size+Y.toArray.size))=cL:=by rw[ay hsz,Bool.and_false];exact NM
 refine SD F.slot_list_extend ⟨_,e,rfl⟩ F.entry_list_extend (F.args_list_extend_2 _ _) (dz l b O.toArray n Y.toArray n2 o a6 (by rw[NK];omega) ⋯) ⟨e,ho,hc,hd,?_⟩;exact⟨.i5,_,I.M5 (its':=O++Y) hH e ⋯ (r.append r2) (by rw[Ol];omega),rfl,q⟩
end L2
namespace DL
open PySem PySem.Spec PyProof.Rows L2
section
variable{X:Cx}{sc:mu}{N L:List Str}{k:Nat}{a:f7}{g:CO (Sk×List D)}{pos:kr}
theorem nK(i:Nat){x:Str}{apos cpos np:kr}(h:SX X sc N L k)(c:JZ sc N i x=cL)(ha:PQ X a g)(hs:i6 [a] X.env=[(d7,f9 a X.env)]:=by rfl)
 (a1:DF (.Name x np) "extend" X.env (f9 (.Name x np) X.env)=f9 (.Name x np) X.env:=by rfl)
 (a2:((r9 cpos<|starEach [a] X.env).all (λx=> !x.1) && (D4 cpos<|keywordEach [] X.env).all (λx=>x.1.isSome)
   && decide ([a].length+([]:List A9).length+(if ([]:List A9).isEmpty then 0 else 1)<30))=cL:=by rfl)
 (a3:(apos.endLine==cpos.line)=cL:=by rfl) (a4:A8 (.Call (.Attribute (.Name x np) "extend" apos) [a] [] cpos) cR pos.line X.env=pure d7:=by rfl) :
 tr X (.Expr (.Call (.Attribute (.Name x np) "extend" apos) [a] [] cpos) pos) (ni i g):=
 xi (wL (cJ RH PySem.F.slot_list_extend PySem.F.type_list_extend Ae (h.var c) (zP ha jJ hs) a1 a2 a3 hs rfl) a4) λD σ H hZ=>by
  obtain⟨E0,E,H0,γ,fl,rs,z,a7⟩:=hZ;obtain⟨ds,e1,z⟩:=zb z;obtain⟨⟨kk,es⟩,e2,z⟩:=zb z;have e1:=kl e1;cases kk with
  | L=>cases z
  | T=>
   have z:(if ds.length+es.length<=lim then cI (Fl.next<|γ.set i<|.own<|ds++es)else cR)=cI fl:=z;by_cases I:ds.length+es.length<=lim
   ·rw[DZ I]at z;cases z
    obtain⟨l,xs,h1,h2,O,Y⟩:=rs.rc.own i ds e1;refine⟨_,h1,.inl ⟨rfl,_,lK.of O⟩,H0,γ,.T,es,rs.rc,e2,λb zs H' eg x g1 g2 g3=>?_⟩;have hl:xs.length+zs.length<=kv:=by
     rw[Y.length,g3.length];have:lim<=kv:=by decide
     omega
    refine⟨l,b,xs,zs,rfl,rfl,x.s1 _ _ O,g1,hl,?_⟩;have aa:=rs.step x;exact a7 _ _ _<|aa.rewrite (xs:=xs) e1 h1<|(Y.mono x.s0).append g3
   ·rw[DJ I]at z;cases z
end
def Lr(f g:CO D)(γ:Ctx):Option (List D):=((f γ).bind jg).bind λm=>((g γ).bind jg).bind λn=>if m.2.length<=lim then cI (KZ m.2 n.2)else cR
@[simp] def zbk:=@Lr.eq_1
theorem YJ:O1 (.type "list") "keys" = pure cR:=by rw[typeLookup_type,d?];kernel_rfl
theorem QC:entryFor table "list.__getattribute__" = cI wy.«object.__getattribute__» :=
 entryFor_alias (id':="object.__getattribute__") (by kernel_rfl) (by first | rfl | decide +kernel) ⋯ (by kernel_rfl)
section
variable{prog:m4}{w:l0}{A:p4}{E:EQ}{h:je}{g:Array GenState}{d:Drawn}{t:Nat}{os:OsState}{a:d8}{o:o8}
theorem Ju(hx:h.get? a=cI ⟨.type "list",cR,.seq vs nk,sl⟩)(Y:A.handled=cR)
 (hE : ∀h' e t',(∀b u,h.get? b=cI u->h'.get? b=cI u)->(∃O,h'.get? e=cI O/\O.cls = .type "AttributeError")->E (.ref e) ⟨h',g,d,t',os⟩) :
 wpAny (gv prog w) A (wy.«object.__getattribute__» ⟨[.ref a,.str "keys" tk],[]⟩) Q E ⟨h,g,d,t,os⟩:=by
 have hT:(⟨h,g,d,t,os⟩:gx).TypeIs (.ref a) "list":=⟨_,hx,rfl⟩;have f4:=YJ
 repeat (any_goals (first | assumption | wp_step))
 unfold raiseAttrError;have hm:((OJ (toString "'" ++ toString ((Manifest.find? "list").elim "list" λx=>x.tpName)++toString "' object has no attribute '")++OJ "keys" ++ OJ "'"):Str).length<=kv:=by decide +kernel
 generalize (OJ (toString "'" ++ toString ((Manifest.find? "list").elim "list" λx=>x.tpName)++toString "' object has no attribute '")++OJ "keys" ++ OJ "'")=z at hm ⊢;refine Nt (wpAny_mkStr (hx:=hm) ?_);refine Nt ?_;unfold Iz M7;refine Nt (Ox ?_ (by size_fits));refine Nt (m:=Gu _ _) (Tj (a:=Oy) (by first | rfl | (simp only[Gu];rfl)) ?_);refine Ox ?_ (by size_fits);simp only[OB];have I:((h.push {cls:= .type "tuple",data:= .seq #[.str z t]}).push {cls:= .type "AttributeError",data:= .fields (#[.ref h.objs.size,.none,.none,.none,.bool d7,.none]++b_ (.type "AttributeError") [.str z t])}).get? (h.objs.size+1) =
  cI {cls:= .type "AttributeError",data:= .fields (#[.ref h.objs.size,.none,.none,.none,.bool d7,.none]++b_ (.type "AttributeError") [.str z t])}:=by heap_get
 have hk : ∀b u,h.get? b=cI u->((h.push {cls:= .type "tuple",data:= .seq #[.str z t]}).push {cls:= .type "AttributeError",data:= .fields (#[.ref h.objs.size,.none,.none,.none,.bool d7,.none]++b_ (.type "AttributeError") [.str z t])}).get? b=cI u:=λb u e=>Nv _ (Nv _ e);have hn:h.get? (h.objs.size+1)=cR:=Heap.get?_none_of_le (Uv _);generalize ((h.push {cls:= .type "tuple",data:= .seq #[.str z t]}).push {cls:= .type "AttributeError",data:= .fields (#[.ref h.objs.size,.none,.none,.none,.bool d7,.none]++b_ (.type "AttributeError") [.str z t])})=h2 at I hk ⊢;refine Nt (wpAny_mkText ?_);unfold noteAttr lacksNameAndObj;have a3:(⟨h2,g,d,t+1+1,os⟩:gx).TypeIs (.ref (h.objs.size+1)) "AttributeError":=⟨_,I,rfl⟩;have ft:isSubtype (.type "AttributeError") (.type "AttributeError")=pure cL:=by rw[isSubtype_type];kernel_rfl
 repeat (any_goals (first | assumption | with_reducible refine wpAny_loadPart_at I ?_ | with_reducible refine wpAny_load I ?_ | wp_step))
 refine wpAny_raiseNew_none Y<|hE _ _ _ (λb u e=>?_) ⟨_,RW _ I<|SN<|Rx rfl _,Tu ..⟩;rw[TQ _ _ (λq=>by rw[<- q]at e;rw[hn]at e;cases e)];exact hk b u e
theorem J9(hx:h.get? a=cI ⟨.type "list",cR,.seq vs nk,sl⟩)(I:A.handled=cR)
 (O : ∀h' e t',(∀b u,h.get? b=cI u->h'.get? b=cI u)->(∃z,h'.get? e=cI z/\z.cls = .type "AttributeError")->R (.error (.ref e)) ⟨h',g,d,t',os⟩) :
 codeAny (gv prog w) A (.call (.builtin "list.__getattribute__") ⟨[.ref a,.str "keys" tk],[]⟩) R ⟨h,g,d,t,os⟩:=
 codeAny_call_builtin P7.plain QC (P7.check _ _ _ _ _ _ _ _ (show(⟨h,g,d,t,os⟩:gx).TypeIs (.ref a) "list" from⟨_,hx,rfl⟩) (F.args_list_getattribute_2 _ _) (Ju hx I O))
theorem dc:O1 (.type "list") "__getattr__" = pure cR:=by rw[typeLookup_type,d?];kernel_rfl
theorem gU(hx:h.get? a=cI ⟨.type "list",cR,.seq vs nk,sl⟩)(I:A.handled=cR)
 (O : ∀h' t',(∀b u,h.get? b=cI u->h'.get? b=cI u)->Q cR ⟨h',g,d,t',os⟩):wpAny (gv prog w) A (getAttr? (.ref a) "keys") Q E ⟨h,g,d,t,os⟩:=by
 have hT:(⟨h,g,d,t+1,os⟩:gx).TypeIs (.ref a) "list":=⟨_,hx,rfl⟩;have f2:=P7.lookup;have f3:=P7.bind (.ref a);have f5:=dc;have ft:isSubtype (.type "AttributeError") (.type "AttributeError")=pure cL:=by rw[isSubtype_type];kernel_rfl
 unfold getAttr? getAttrBy? getAttrBy
 repeat (any_goals (first | assumption | wp_step))
 refine J9 (g:=g) (d:=d) (os:=os) hx I λh' e t' hk z=>?_;obtain⟨Y,z,hc⟩:=z;have a6:(⟨h',g,d,t',os⟩:gx).TypeIs (.ref e) "AttributeError":=⟨Y,z,hc⟩;have a7:=O h' t' hk;show wpAny _ _ (o? _ _ _ _ _ _ _) _ _ _;unfold o? hookOrError attributeErrorLeaves
 repeat (any_goals (first | assumption | wp_step))
end
def ZL:List D->Option (List D×List D)
 | []=>cI ([],[])
 | d::r=>match d with
  | .tup ds=>match ds with
   | [k,v]=>(ZL r).map λp=>(k::p.1,v::p.2)
   | _=>cR
  | _=>cR
def Lu(f:CO (List D))(γ:Ctx):Option D:=(f γ).bind λps=>(ZL ps).bind λp=>Iq p.1 p.2
@[simp] def za0:=@Lu.eq_1
def Ca(fd fk:CO D):CO D:=λγ=>(fd γ).bind λd=>(fk γ).bind λk=>match d with
 | .sh ks vs=>(p7 k).bind λi=>aP ks vs i
 | _=>cR
def Bk(fk fd:CO D):CO D:=λγ=>(fk γ).bind λk=>(fd γ).bind λd=>match d with
 | .sh ks vs=>(p7 k).map λi=> .bl (aP ks vs i).isSome
 | _=>cR
section
variable{X:Cx}{sc:mu}{N L:List Str}{k:Nat}{a o i:f7}{f:CO (List D)}{fd fk:CO D}{p pos:kr}
theorem Ct(h:SX X sc N L k)(ho:PV X o fd)(hi:PV X i fk)(hs:GK i:=by intro _ _;rfl):PV X (.Subscript o i pos) (Ca fd fk):=
 j4 (uO (by have:=h.F8;omega) ho hi hs) λσ H Q hZ=>by
  obtain⟨H0,γ,d,rc,z,q⟩:=hZ;obtain⟨d1,e1,z⟩:=zb z;obtain⟨k1,e2,z⟩:=zb z;cases d1 with
  | sh ks vs=>
   obtain⟨j,e3,e4⟩:=zb z;refine⟨H0,γ,_,rc,e1,λv H1 I x r=>⟨I,γ,_,rc.ext x,e2,λy H2 a5 O r2=>?_⟩⟩;obtain⟨ad,xs,rfl,⟨kk,g1,g2,g3⟩,g4⟩:=(show ∃a xs,v = .ref a/\Ge I a ks xs/\f6 X.K I vs xs from r);rw[jK e3]at r2;have hy:y = .int j:=r2;obtain⟨Y,c3,c4⟩:=(Kr (i:=j) g1 g2<|g4.mono O.s0).1 d e4;refine⟨ad,Y,rfl,?_,q Y H2 a5 (x.trans O) c4⟩;rw[hy,<- c3];exact .inl ⟨_,Pw j,.inl<|O.s1 _ _<|x.sub _ _ g3,rfl,rfl⟩
  | _=>cases z
theorem uu(h:SX X sc N L k)(hi:PV X i fk)(ho:PV X o fd)(hm:DG .In o=d7:=by with_unfolding_all rfl):s9 X (.Compare i [.In] [o] pos) (sB<|Bk fk fd):=
 VD (Cz (CS (by have:=h.F8;omega) hi ho) hm) λσ H Q hZ=>by
  obtain⟨H0,γ,b,rc,z,q⟩:=hZ;obtain⟨db,e0,eb⟩:=zb z;obtain⟨k1,e1,z⟩:=zb e0;obtain⟨d1,e2,z⟩:=zb z;cases d1 with
  | sh ks vs=>
   obtain⟨j,e3,e4⟩:=zv z;subst e4;cases eb;refine⟨H0,γ,_,rc,e1,λy H1 a9 x Y=>⟨a9,γ,_,rc.ext x,e2,λv H2 I O r=>?_⟩⟩;obtain⟨ad,xs,rfl,⟨kk,g1,g2,g3⟩,g4⟩:=(show ∃a xs,v = .ref a/\Ge I a ks xs/\f6 X.K I vs xs from r);rw[jK e3]at Y;have hy:y = .int j:=Y;obtain⟨c1,c2⟩:=Kr (i:=j) g1 g2 g4;cases hv:aP ks vs j with
   | none=>
    refine⟨ad,cR,rfl,?_,_,rfl,?_⟩
    ·rw[hy,<- c2 hv]
     exact .inl ⟨_,Pw j,.inl<|O.sub _ _ g3,rfl,rfl⟩
    ·rw[hv]at q;exact q H2 I<|x.trans O
   | some dv=>
    obtain⟨zae,c3,c4⟩:=c1 dv hv;refine⟨ad,cI zae,rfl,?_,_,rfl,?_⟩
    ·rw[hy,<- c3]
     exact .inl ⟨_,Pw j,.inl<|O.sub _ _ g3,rfl,rfl⟩
    ·rw[hv]at q;exact q H2 I<|x.trans O
  | _=>cases z
end
def Am:D->Option (List Int)
 | .tup ds=>vY ds
 | _=>cR
def hV:List D->Option (List<|List Int)
 | []=>cI []
 | d::ds=>(Am d).bind λk=>(hV ds).map λr=>k::r
def fK(f:CO (List D))(γ:Ctx):Option D:=(f γ).bind λps=>(ZL ps).bind λp=>(hV p.1).bind λks=>if ks.Nodup/\ks.length<=lim then cI (.n0 ks p.2)else cR
def dS:List (List Int)->List D->List Int->Option D
 | k::ks,v::vs,i=>if k=i then cI v else dS ks vs i
 | _,_,_=>cR
def Vx(fd fk:CO D)(γ:Ctx):Option D:=(fd γ).bind λd=>(fk γ).bind λk=>match d with
 | .n0 ks vs=>(Am k).bind λi=>dS ks vs i
 | _=>cR
def Av(d k x:D):Option D:=match d with
 | .n0 ks vs=>(Am k).map λi=>(dS ks vs i).getD x
 | _=>cR
def nh(fd fk fx:CO D)(γ:Ctx):Option D:=(fd γ).bind λd=>(fk γ).bind λk=>(fx γ).bind λx=>Av d k x
def ue(f:CO D)(γ:Ctx):Option (List D):=(f γ).bind λd=>match d with
 | .n0 ks _=>cI (ks.map λk=> .tup (k.map .int))
 | _=>cR
section
variable(γ:Ctx)
@[simp] def zaZ:=@fK.eq_1
@[simp] def zbB:=@Vx.eq_1
@[simp] def zbx:=@nh.eq_1
@[simp] def zbw:=@ue.eq_1
end
theorem Xm : ∀{k:List Int} {us:List fm},i8 (k.map V.int) us->PySem.ItemsAre (X' P w) k us
 | [],us,h=>by cases h;exact .nil
 | i::k,us,h=>by
  cases h with
  | cons h1 h2=>
   obtain⟨t,rfl⟩:=h1;exact .cons (by show Value.isInt i (.int i t)=cL;simp[Value.isInt])<|Xm h2
section
variable{X:Cx}{pins:TW}{σ:St}{H:Hp}{s:gx}
theorem Kj(I:Inv X pins σ H s)(h:k0 X.K H b (k.map V.int)):(G4<|intKind X.prog X.w).is s.heap k b:=by obtain⟨z,O,⟨o,Y,hc,n,hd⟩,_⟩:=I.tuple h;exact⟨o,z.toArray,n,Y,hc,hd,Xm O⟩
theorem JD(I:Inv X pins σ H s)(e:H a=cI (u7 a o))(d:Bv o xs)(hk : ∀x∈xs,k0 X.K H x.2.1<|x.1.map V.int):s.heap.DictOfH (G4<|intKind X.prog X.w) a xs:=by obtain⟨z,_⟩:=(show oi X.prog X.w H s.heap a (u7 a o)from I.i7 a _ e);obtain⟨O,es,ep,Y,d3,d4⟩:=d;exact⟨o,es,ep,z,O,Y,d3,λx hx=>Kj I<|hk x hx,d4⟩
theorem Ei{h:je}{P:m4}{w:l0}{a:d8}{xs:List (List Int×d8×fm)}(d:h.DictOfH (G4<|intKind P w) a xs) : ∃o,h.get? a=cI o/\Bv o xs:=by obtain⟨o,es,ep,h1,h2,z,I,_,O⟩:=d;exact⟨o,h1,h2,es,ep,z,I,O⟩
end
theorem sA(e:h.get? a=cI o):oi P w H h a (u7 a o):=⟨e,⟨o,e⟩,λh1 h2 p q=>q o p⟩
theorem pU{K:Type} [DecidableEq K]{k:K} : ∀{xs:List (K×d8×fm)},k∉xs.map (·.1)->Bm xs k=cR
 | xs,h=>by unfold Bm;rw[Option.map_eq_none_iff,Uz];intro x hx z;exact h<|Rf.mpr ⟨x,hx,by simpa using z⟩
section
variable{X:Cx}{pins:TW}{σ:St}{A:p4}{R:Result->gx->Prop}{H0:Hp}{l it d:d8}{ks:List (List Int)}{ys xs:List V}
theorem dB(hh:A.handled=cR)(hu:A.units+8<B7)(hx:xs.length=ks.length)(hy:ys.length=ks.length)(nd:ks.Nodup)(hz:ks.length<=kv)
 (hp : ∀(n:Nat) (h1:n<xs.length) (h2:n<ks.length) (h3:n<ys.length),∃p b,xs[n] = .ref p/\k0 X.K H0 p [.ref b,ys[n]]/\k0 X.K H0 b (ks[n].map V.int)) (bb:H0 d=cR) (bd:l≠d) : ∀(m n:Nat) (s:gx) (H:Hp) (o:o8) (es:List (List Int×d8×fm)) (i:Int) (t:z8),n+m=ks.length->
 Inv X pins σ H s->js H0 H->H l=cI (.lst xs)->s.heap.IsListIter it l n->bC X pins H it->H d=cI (u7 d o)->Bv o es->es.map (·.1)=ks.take n->(∀x∈es,k0 X.K H0 x.2.1<|x.1.map V.int)->i8 (ys.take n) (es.map (·.2.2))->
 (∀s' o' a0,Bv o' a0->a0.map (·.1)=ks->(∀x∈a0,k0 X.K H0 x.2.1<|x.1.map V.int)->i8 ys (a0.map (·.2.2))->Inv X pins σ (upd H d<|u7 d o') s'->R (.ok<|.ret .none) s')->
 codeAny (gv X.prog X.w) A (.builtin "dict.update.loop" ⟨[.ref d,.ref it,.int i t,.none],[]⟩) R s:=by
 intro m
 induction m with
 | zero=>
  intro n s H o es i t hn I sub hl st O hd od Y a6 a7 hR;obtain⟨z1,aa,c,rv,ll,el⟩:=I.F1 hl;refine codeAny_builtin yM ?_;unfold wy.«dict.update.loop»;have il:s.heap.IsList l aa.toArray:=⟨_,el,rfl,_,rfl⟩;refine Nt<|wpAny_pyNext_list_end (s:=s) hh st il (by simp;omega) λh' eb=>?_;refine Nt<|Nz ?_;have e0:upd H d (u7 d o)=H:=by
   funext c;by_cases q:c=d
   ·rw[q,zC,hd]
   ·rw[zH q]
  have I':Inv X pins σ H {s with heap:=h'}:=I.IJ (t':=s.toks) (fp:=[it]) (λb o hb e=>eb b o (by simpa using hb) e) (λb hb=>by rw[Pp.mp hb];exact O);have:=hR {s with heap:=h'} o es od (by rw[Y,Pu ⋯]) a6 (by rw[Pu ⋯]at a7;exact a7);rw[e0]at this;exact Nz<|this I'
 | succ m ih=>
  intro n s H o es i t hn I sub hl st O hd od Y a6 a7 hR;obtain⟨z1,aa,c,rv,ll,el⟩:=I.F1 hl;have il:s.heap.IsList l aa.toArray:=⟨_,el,rfl,_,rfl⟩;have ac:n<ks.length:=by omega
  obtain⟨p,b,ep,bn,am⟩:=hp n ⋯ ac ⋯;obtain⟨u,bv,ru⟩:=rv.get (Nw<|show n<xs.length by omega);rw[ep]at ru;have eu:u = .ref p:=ru;subst eu;refine codeAny_builtin yM ?_;unfold wy.«dict.update.loop»;refine Nt<|wpAny_pyNext_list_item (s:=s) st il (x:= .ref p) (by simpa using bv) λh' c0 sb=>?_;have I1:=I.IJ (h':=h') (t':=s.toks) (fp:=[it]) (λb o hb e=>(sb.2 b<|by simpa using hb).trans e) (λb hb=>by rw[Pp.mp hb];exact O);obtain⟨ts,rt,⟨o1,eo,co,nn,c3⟩,zcy⟩:=I1.tuple<|o5 sub bn;obtain⟨u1,r3,rfl,c4,q2⟩ : ∃u1 r3,ts=u1::r3/\RelV (.ref b) u1/\i8 [ys[n]] r3:=by
   cases rt with
   | cons q1 q2=>exact⟨_,_,rfl,q1,q2⟩
  obtain⟨u2,rfl,c6⟩:=yw q2;have c7:u1 = .ref b:=c4;subst c7;have ca:({s with heap:=h'}:gx).TypeIs (.ref p) "tuple":=⟨_,eo,co⟩;refine Nt (Rm (Nt (wpAny_tryCatch ?_)));unfold Builtin.Dict.pairItems;refine Nt (SU ca ?_);rw[DZ ⋯];refine Nt (Ra eo c3 (Nz ?_));show wpAny _ _ (Dk [.ref b,u2] (dictSet d (.ref b) u2)) _ _ _;have dH:=JD I1 hd od λx hx=>o5 sub (a6 x hx);have cd:=Kj I1 (o5 sub am);have d4:es.length=n:=by have:=congrArg RU Y;rw[NV,Rr]at this;omega
  have ce:ks[n]∉es.map (·.1):=by rw[Y];intro z;obtain⟨j,hj,e⟩:=List.getElem_of_mem z;rw[List.getElem_take]at e;rw[Rr]at hj;exact List.pairwise_iff_getElem.mp nd j n ⋯ ac ⋯ e
  refine Rm (wpAny_dictSet_heap (hsz:=by omega) (show(A.under _).units<B7 from by rw[show(A.under (Code.builtin "dict.update.loop" _)).units=A.units+1 from rfl];omega) cd dH λch ar hs=>?_);rw[storedH_new (pU ce)]at ar;obtain⟨o',as,ci⟩:=Ei ar;have I2:=I1.write (x:=d) (e:=d) (o:=u7 d o') (t':=s.toks+(G4 (X' X.prog X.w)).draws ks[n]) (h':=ch) (by rw[hd];exact OR) (.inl rfl) (λb q hb z=>(hs.2 b hb).trans z) ⟨_,as⟩ (sA as);have ax:it≠d:=λq=>by have:=O.1;rw[q,hd]at this;cases this
  have tk:ks.take (n+1)=ks.take n++[ks[n]]:=by rw[List.take_succ,Nw ac];rfl
  have ty:ys.take (n+1)=ys.take n++[ys[n]]:=by rw[List.take_succ,Nw ⋯];rfl
  refine Nz ⟨yF _,ih (n+1) _ _ o' _ (i+1) 0 ⋯ I2 (λc o e=>?_) (by rw[zH bd];exact hl) (c0.at λo q=>(hs.2 it ax).trans q) ⟨by rw[zH ax];exact O.1,O.2⟩ zC ci ?_ ?_ ?_ λs' o3 cq a1 a2 a3 a4 I3=>hR s' o3 cq a1 a2 a3 a4 ?_⟩
  ·rw[zH (λq=>by rw[q,bb]at e;cases e)];exact sub _ _ e
  ·rw[OM,Y,tk];rfl
  ·intro x hx
   rcases Sz.mp hx with z | z
   ·exact a6 x z
   ·rw[Pp.mp z];exact am
  ·rw[OM,ty]
   exact a7.append<|.cons c6 .nil
  ·rw[ZK]at I3;exact I3
theorem dE(I:Inv X pins σ H s)(hh:X.A.handled=cR)(hu:X.A.units+64<B7)(sub:js H0 H)(z:H l=cI (.lst xs))(hx:xs.length=ks.length)(hy:ys.length=ks.length)(nd:ks.Nodup)
 (hp : ∀(n:Nat) (h1:n<xs.length) (h2:n<ks.length) (h3:n<ys.length),∃p b,xs[n] = .ref p/\k0 X.K H0 p [.ref b,ys[n]]/\k0 X.K H0 b (ks[n].map V.int)) (hz:ks.length<=kv)
 (hQ : ∀s' p o es,H p=cR->(p==C3)=d7->Bv o es->es.map (·.1)=ks->(∀x∈es,k0 X.K H0 x.2.1 (x.1.map V.int))->i8 ys (es.map (·.2.2))->Inv X pins σ (upd H p (u7 p o)) s'->Q (.ref p) s'):wpAny (gv X.prog X.w) X.A (call (.type "dict") [.ref l]) Q X.xe s:=by
 have O:H s.heap.objs.size=cR:=I.fresh;have ag:H0 s.heap.objs.size=cR:=jq sub O;have a6:l≠s.heap.objs.size:=λq=>by rw[q,O]at z;cases z
 have ak:(s.heap.objs.size==C3)=d7:=beq_eq_false_iff_ne.mpr (PZ I.big);refine callType_codes (Q₁:=λobj GG=>obj = .ref s.heap.objs.size/\GG = {s with heap:=s.heap.push {cls:= .type "dict",data:= .dict #[]}}) F.kt_called_dict (F.kt_typeCall_dict_1 _) F.entry_dict_init (kt_code_dict_new _ ⟨rfl,rfl⟩) ?_;rintro obj GG ⟨rfl,rfl⟩;have I1:=I.laid (a:=s.heap.objs.size) (o:=u7 s.heap.objs.size {cls:= .type "dict",data:= .dict #[]}) (t':=s.toks) (λ_ _ q=>Nv {cls:= .type "dict",data:= .dict #[]} q) (NJ _) (sA (NO _ rfl));have a8:({s with heap:=s.heap.push {cls:= .type "dict",data:= .dict #[]}}:gx).TypeIs (.ref s.heap.objs.size) "dict":=⟨_,NO _ rfl,rfl⟩;obtain⟨z1,a9,c,rv,ll,el⟩:=I.F1 z;have Y:(s.heap.push {cls:= .type "dict",data:= .dict #[]}).get? l=cI {cls:= .type "list",data:= .seq a9.toArray c}:=Nv _ el;refine⟨a8,F.args_dict_init_2 _ _,?_⟩;unfold wy.«dict.__init__»;refine Nt ?_;unfold Builtin.Dict.selfAndRest;refine Nt (Ul a8 ?_);show wpAny _ _ (pure (s.heap.objs.size,[Of l])) _ _ _;refine Nz ?_;show wpAny _ _ (Builtin.Dict.updateFrom "dict.__init__" s.heap.objs.size (.ref l) [] .none) _ _ _;unfold Builtin.Dict.updateFrom;refine Nt (SU (T:="list") ⟨_,Y,rfl⟩ ?_);rw[DZ ⋯];refine Nt (gU (g:=s.gens) (d:=s.drawn) (t:=s.toks) (os:=s.os) Y (show X.A.in1.in1.handled=cR from hh) λh' t' k=>?_);have I2:Inv X pins σ (upd H s.heap.objs.size (u7 s.heap.objs.size {cls:= .type "dict",data:= .dict #[]})) {s with heap:=h',toks:=t'}:=I1.kept k;have an:=k _ _ Y;simp only[Option.isNone_none,if_true];refine Nt (TR (Nt (UY (items:=a9.toArray) ⟨_,an,rfl,_,rfl⟩ ?_)));refine Nz ⟨yF _,?_⟩;have I3:=I2.kept (h':=h'.push {cls:= .type "list_iterator",data:= .fields #[.ref l,.int 0 0]}) (t':=t') λb o e=>Nv _ e;have fp:=I2.FZ (b:=h'.objs.size) (H':=upd H s.heap.objs.size (u7 s.heap.objs.size {cls:= .type "dict",data:= .dict #[]})) (NJ _) I2.fresh;refine dB (H0:=H0) (l:=l) (it:=h'.objs.size) (ks:=ks) (ys:=ys) (xs:=xs) (show X.A.in1.handled=cR from hh) (by show X.A.in1.units+8<B7;rw[units_in1];omega) hx hy nd hz hp ag a6 ks.length 0 _ (upd H s.heap.objs.size (u7 s.heap.objs.size {cls:= .type "dict",data:= .dict #[]})) {cls:= .type "dict",data:= .dict #[]} [] 0 0 (RX _) I3 (sub.trans (zX O _)) (by rw[zH a6];exact z) ⟨_,NO _ rfl,rfl,rfl⟩ fp zC ⟨⟨rfl,rfl,rfl⟩,#[],0,rfl,rfl,List.nodup_nil⟩ rfl (λx hx=>nomatch hx) .nil λs' o' ar a1 a2 a3 a4 I4=>?_;rw[ZK]at I4;exact⟨rfl,hQ s' _ o' ar O ak a1 a2 a3 a4 I4⟩
end
theorem Kk{K:Nr}{H:Hp}{d:D}{k:List Int}{v:V}(e:Am d=cI k)(r:Rep K H d v) : ∃b,v = .ref b/\k0 K H b (k.map V.int):=by
 cases d with
 | tup ds=>
  obtain⟨b,zs,rfl,z,I⟩:=kZ r;have:=wQ e I;refine⟨b,rfl,?_⟩;rw[this]at z;simpa[kV,OO,RQ]using z
 | _=>cases e
theorem QM{K:Nr}{H:Hp} : ∀{ps ks vs:List D} {xs:List V} {ns:List (List Int)},ZL ps=cI (ks,vs)->f6 K H ps xs->hV ks=cI ns->
 ∃ys,f6 K H vs ys/\ys.length=ns.length/\xs.length=ns.length/\∀(n:Nat) (h1:n<xs.length) (h2:n<ns.length) (z:n<ys.length),∃p b,xs[n] = .ref p/\k0 K H p [.ref b,ys[n]]/\k0 K H b (ns[n].map V.int)
 | [],ks,vs,xs,ns,h,r,hi=>by cases h;cases hi;rw[r.zr];exact⟨[],f6.nil,rfl,rfl,λn h1=>by cases h1⟩
 | d::ps,ks,vs,xs,ns,h,r,hi=>by
  unfold ZL at h;split at h
  ·split at h
   ·rename_i k v
    obtain⟨⟨a,b⟩,e1,e2⟩:=zv h;cases e2;obtain⟨x,zcv,rfl,h1,h2⟩:=r.u0;obtain⟨j,I,O⟩:=zb hi;obtain⟨zck,Y,e4⟩:=zv O;subst e4;obtain⟨ys,i1,i2,i3,i4⟩:=QM e1 h2 Y;obtain⟨q,zs,rfl,z,h4⟩:=kZ h1;obtain⟨y1,yr,rfl,h5,h6⟩:=h4.u0;obtain⟨y2,ar,rfl,h7,h8⟩:=h6.u0;obtain⟨kb,rfl,ac⟩:=Kk I h5;rw[h8.zr]at z;refine⟨y2::ys,f6.cons h7 i1,by simp[i2],by simp[i3],λn g1 g2 g3=>?_⟩;cases n with
    | zero=>exact⟨q,kb,rfl,z,ac⟩
    | succ n=>exact i4 n (by simpa using g1) (by simpa using g2) (by simpa using g3)
   ·cases h
  ·cases h
section
variable{X:Cx}{sc:mu}{N L:List Str}{k:Nat}{a o i:f7}{f:CO (List D)}{fd fk:CO D}{p pos:kr}
theorem W7(h:SX X sc N L k)(cd:yZ sc "dict" = cL)(zay:X.mg "dict" = cR)(ha:PO X a f)(hs:i6 [a] X.env=[(d7,f9 a X.env)]:=by rfl) :
 PV X (.Call (.Name "dict" p) [a] [] pos) (fK f):=by
 intro pins s σ H Q I hZ;obtain⟨H0,γ,d,rc,O,q⟩:=hZ;obtain⟨ps,e1,O⟩:=zb O;obtain⟨⟨ds,es⟩,e2,O⟩:=zb O;obtain⟨ks,e3,O⟩:=zb O;have hh:X.A.handled=cR:=I.ok.hd h.calm;by_cases hc:ks.Nodup/\ks.length<=lim
 ·rw[DZ hc]at O
  cases O;refine G7<|yq I (h.gl cd).1 zay PyProof.Rows.boot_dict (OT ?_ (by rw[hs];rfl) rfl);rw[hs];show wpAny _ _ (LW ((d7,f9 a X.env)::[])) _ _ s;refine Ru<|ip (ha pins s σ H (λv H1=>∃l xs z,v = .ref l/\Ext H0 H z H1/\z l=cR/\H1 l=cI (.lst xs)/\f6 X.K z ps xs) I ⟨H0,γ,ps,rc,e1,λl xs H1 z x1 g1 g2 g3 g4=>⟨l,xs,z,rfl,x1,g2,g3,g4⟩⟩) λv s1 hZ=>?_;obtain⟨y,H1,I1,ry,l,xs,z,rfl,x1,g2,g3,g4⟩:=hZ;cases ry;refine SF ?_;obtain⟨ys,r1,r2,r3,r4⟩:=QM e2 g4 e3;have:lim<=kv:=by decide
  refine dE (H0:=z) (ks:=ks) (ys:=ys) (xs:=xs) I1 hh h.F8 x1.sub g3 r3 r2 hc.1 r4 ⋯ λs' p ob zs Y as a1 a2 a3 a4 I3=>?_;have aa:js z (upd z p<|u7 p ob):=zX (jq x1.sub Y) _;exact⟨.ref p,_,I3,rfl,q (.ref p) _ _ ((x1.trans<|Ext.hide x1.sub Y _).show (yL x1.s1 Y) (jq x1.sub Y) zC rc.sub)
   (show ∃a xs,V.ref p = .ref a/\DU X.K (upd z p _) a ks xs/\f6 X.K (upd z p _) es xs from⟨p,ys,rfl,⟨as,ob,zs,zC,a1,a2,by have:=congrArg RU a2;rw[NV]at this;omega,λx hx=>o5 aa<|a3 x hx,a4⟩,r1.mono aa⟩)⟩
 ·rw[DJ hc]at O;cases O
end
theorem V5{K:Nr}{H:Hp}{i:List Int} : ∀{xs:List (List Int×d8×fm)} {vs:List D} {ys:List V},f6 K H vs ys->i8 ys (xs.map (·.2.2))->
 (∀d,dS (xs.map (·.1)) vs i=cI d->∃y p,Bm xs i=cI p/\Rep K H d y/\RelV y p.2)/\(dS (xs.map (·.1)) vs i=cR->Bm xs i=cR)
 | [],vs,ys,r,v=>⟨(λd q=>by cases q),λ_=>rfl⟩
 | x::xs,vs,ys,r,v=>by
  cases v with
  | cons z I=>
   cases vs with
   | nil=>have:=r.zr;cases this
   | cons d vs=>
    obtain⟨y,Y,e,h1,h2⟩:=r.u0;cases e;have O:=V5 (i:=i) h2 I;by_cases hx:x.1=i
    ·have e1:Bm (x::xs) i=cI x.2:=by unfold Bm;rw[List.find?_cons_of_pos (by simpa using hx)];rfl
     have e2:dS ((x::xs).map (·.1)) (d::vs) i=cI d:=by show(if x.1=i then _ else _)=_;rw[DZ hx]
     rw[e1,e2];exact⟨λd' q=>by cases q;exact⟨_,x.2,rfl,h1,z⟩,λq=>by cases q⟩
    ·have e1:Bm (x::xs) i=Bm xs i:=by unfold Bm;rw[List.find?_cons_of_neg (by simpa using hx)]
     have e2:dS ((x::xs).map (·.1)) (d::vs) i=dS (xs.map (·.1)) vs i:=by show(if x.1=i then _ else _)=_;rw[DJ hx]
     rw[e1,e2];exact O
section
variable{X:Cx}{sc:mu}{N L:List Str}{k:Nat}{a b o i:f7}{fd fk fx:CO D}{p pos apos cpos:kr}
theorem fW(h:SX X sc N L k)(ho:PV X o fd)(hi:PV X i fk)(hs:GK i:=by intro _ _;rfl):PV X (.Subscript o i pos) (Vx fd fk):=by
 intro pins s σ H Q I hZ;obtain⟨H0,γ,d,rc,O,q⟩:=hZ;obtain⟨d1,e1,O⟩:=zb O;obtain⟨k1,e2,O⟩:=zb O;cases d1 with
 | n0 ks vs=>
  obtain⟨j,e3,e4⟩:=zb O;refine ff PySem.F.slot_dict_getitem.lookup hs<|ip (ho pins s σ H (λv H1=>∃z,Ext H0 H z H1/\Rep X.K z (.n0 ks vs) v) I ⟨H0,γ,_,rc,e1,λv H1 z x r=>⟨z,x,r⟩⟩) λu s1 hZ=>?_;obtain⟨v,H1,I1,r1,z,x1,rp⟩:=hZ;refine ip (hi pins s1 σ H1 (λv H2=>∃Y,Ext z H1 Y H2/\Rep X.K Y k1 v) I1 ⟨z,γ,_,rc.ext x1,e2,λv H2 Y x r=>⟨Y,x,r⟩⟩) λu2 s2 hZ=>?_;obtain⟨v2,H2,I2,r2,Y,x2,ae⟩:=hZ;obtain⟨ad,ys,rfl,⟨g0,ob,zs,g1,g2,g3,g4,g5,g6⟩,g7⟩:=(show ∃a xs,v = .ref a/\DU X.K z a ks xs/\f6 X.K z vs xs from rp);subst g3;cases (show u=Of ad from r1);obtain⟨b,rfl,hb⟩:=Kk e3 ae;cases (show u2=Of b from r2);have a3:js z H2:=x2.s0.trans x2.sub;have dH:=JD I2 (a3 _ _ g1) g2 λx hx=>o5 a3<|g5 x hx;obtain⟨y,p,c1,c2,c3⟩:=(V5 (g7.mono x2.s0) g6).1 d e4;exact⟨dH.typeIs,zaj (Tx (by have:=h.F8;omega)) (Kj I2<|o5 x2.sub hb) dH c1 ⟨y,H2,I2.tok _,c3,q y H2 Y (x1.trans x2) c2⟩⟩
 | _=>cases O
theorem VB(h:SX X sc N L k)(ho:PV X o fd)(ha:PV X a fk)(hb:PV X b fx)(m:M2 X o "get" apos a b cpos:=by exact⟨by rfl,by rfl,by rfl,by rfl⟩):PV X (.Call (.Attribute o "get" apos) [a,b] [] cpos) (nh fd fk fx):=by
 intro pins s σ H Q I hZ;obtain⟨H0,γ,d,rc,O,q⟩:=hZ;obtain⟨d1,e1,O⟩:=zb O;obtain⟨k1,e2,O⟩:=zb O;obtain⟨w1,e5,O⟩:=zb O;cases d1 with
 | n0 ks vs=>
  obtain⟨j,e3,e4⟩:=zv O;subst e4;refine wpAny_Call_method m.base m.n? m.line PySem.F.plainAttrs_dict PySem.F.slot_dict_get PySem.F.type_dict_get<|ip (ho pins s σ H (λv H1=>∃z,Ext H0 H z H1/\Rep X.K z (.n0 ks vs) v) I ⟨H0,γ,_,rc,e1,λv H1 z x r=>⟨z,x,r⟩⟩) λu s1 hZ=>?_;obtain⟨v,H1,I1,r1,z,x1,rp⟩:=hZ;obtain⟨ad,ys,rfl,⟨g0,ob,zs,g1,g2,g3,g4,g5,g6⟩,g7⟩:=(show ∃a xs,v = .ref a/\DU X.K z a ks xs/\f6 X.K z vs xs from rp);subst g3;cases (show u=Of ad from r1);have a8:=JD I1 (x1.sub _ _ g1) g2 λx hx=>o5 x1.sub<|g5 x hx;refine⟨a8.typeIs,dictOfH_noDict a8,?_⟩;rw[m.trees];refine TM rfl<|Calls.evalArgs_plain<|Ru<|ip (ha pins s1 σ H1 (λv H2=>∃a1,Ext z H1 a1 H2/\Rep X.K a1 k1 v) I1 ⟨z,γ,_,rc.ext x1,e2,λv H2 a1 x r=>⟨a1,x,r⟩⟩) λu2 s2 hZ=>?_;obtain⟨v2,H2,I2,r2,a1,x2,bb⟩:=hZ;refine Ru<|ip (hb pins s2 σ H2 (λv Y=>∃a2,Ext a1 H2 a2 Y/\Rep X.K a2 w1 v) I2 ⟨a1,γ,_,(rc.ext x1).ext x2,e5,λv Y a2 x r=>⟨a2,x,r⟩⟩) λu3 s3 hZ=>SF ?_;obtain⟨v3,Y,I3,r3,a2,x3,be⟩:=hZ;obtain⟨kb,rfl,bg⟩:=Kk e3 bb;cases (show u2=Of kb from r2);have xx:=x2.trans x3;have ac:js z Y:=xx.s0.trans xx.sub;have dH:=JD I3 (ac _ _ g1) g2 λx hx=>o5 ac<|g5 x hx;refine call_meetsIn PySem.F.slot_dict_get dH.typeIs PySem.F.entry_dict_get (PySem.F.args_dict_get_3 _ _ _) (meetsH_dict_get_default (G4<|intKind X.prog X.w) ad kb g0 u3) ⟨Tx (by have:=h.F8;omega),j,zs,Kj I3<|o5 (x3.s0.trans x3.sub) bg,dH,?_⟩;obtain⟨c1,c2⟩:=V5 (i:=j) (g7.mono xx.s0) g6;cases hv:dS (zs.map (·.1)) vs j with
  | none=>
   rw[hv]at q;rw[c2 hv];exact⟨v3,Y,I3.tok _,r3,q v3 Y a2 (x1.trans xx) be⟩
  | some dv=>
   rw[hv]at q;obtain⟨y,p,f1,f2,f3⟩:=c1 dv hv;rw[f1];exact⟨y,Y,I3.tok _,f3,q y Y a2 (x1.trans xx) f2⟩
 | _=>cases O
end
section
variable{prog:m4}{w:l0}{A:p4}{E:EQ}{s:gx}{d it:d8}{o:o8}{es:Array L3}{i n ep:Nat}
theorem ir{Q:EQ}(hd:(d==C3)=d7)(z:s.heap.get? d=cI o)(hx:o.ExactDict)(O:o.data = .dict es ep)(hn:es.size=n)
 (Y:Q (.ref s.heap.objs.size) {s with heap:=s.heap.push {cls:= .type "dict_keyiterator",data:= .fields #[.ref d,.int 0 0,.int n 0,.int ep 0]}}):wpAny (gv prog w) A (IE (.ref d)) Q E s:=by
 have I:s.TypeIs (.ref d) "dict":=⟨o,z,hx.1⟩;refine UX I F.slot_dict_iter (OI F.slot_dict_iter I F.entry_dict_iter ?_ (F.args_dict_iter_1 _));unfold wy.«dict.__iter__»;refine Nt ?_;unfold Builtin.Dict.dictSlotNone;refine Nt (Ul I ?_);show wpAny _ _ (pure (Of d)) _ _ s;refine Nz ?_;show wpAny _ _ (RJ d >>= _) _ _ s;unfold RJ;rw[DJ (by rw[hd];exact NM)];refine Nt (Nz ?_);refine Nt (Sn z O ?_);refine Nt (SK z O ?_);refine Nt (Ox (Nz ⟨_,rfl,"dict_keyiterator",_,⟨_,NO _ rfl,rfl⟩,Ri.lookup,?_⟩));simpa[zt,hn]using Y
theorem oz{Q:Option fm->gx->Prop}(z:s.heap.IsKeyIter it d i n ep)(O:s.heap.get? d=cI o)(Y:o.data = .dict es ep)(hsz:es.size=n)(a1:i<es.size)
 (hQ : ∀h',h'.IsKeyIter it d (i+1) n ep->PM it s.heap h'->Q (cI es[i].key) {s with heap:=h'}):wpAny (gv prog w) A (B4<|.ref it) Q E s:=by
 obtain⟨o,I,hc,hd⟩:=id z;unfold B4;refine Nt (So (OD (name:=OJ "__next__") z.typeIs Ri
  (OI Ri z.typeIs UZ ?_ (UW _))))
 refine Nt (Nz ?_);refine Nt ?_;refine Nt ?_;refine Nt (RT z.typeIs (Nz ?_));refine Nt (UC I hd ?_);have a4:PR "dict_keyiterator" = d7:=by decide
 simp only[a4,A3,if_false];show wpAny _ _ (if (Of d==Oy)=cL then _ else _) _ _ s;rw[DJ (show ¬((Of d==Oy)=cL)from NM)];refine Nt<|Nz ?_;refine Nt<|Sn O Y ?_;rw[DJ (by rw[hsz];simp)];refine Nt<|Nz ?_;refine Nt<|SK O Y ?_;rw[DJ ⋯];refine Nz ?_;simp only[show ¬((i:Int)<0)from by omega,if_false,OF,Sj a1];refine Nt ?_;refine Nt<|RT z.typeIs<|Nz ?_;refine Nt<|wpAny_isOneOf_keyiter z.typeIs ?_;show wpAny _ _ (IH (.ref it) 1 (zt<|(i:Int)+1) >>= _) _ _ s;refine Nt<|SS I hd ⋯ ?_;have a0:(s.heap.update it<|TH (·.setIfInBounds 1 (zt<|(i:Int)+1))).IsKeyIter it d (i+1) n ep:=
  ⟨_,RW _ I<|SN<|Rx hd _,(Tu ..).trans hc,by rw[Rx hd];simp[zt]⟩
 refine Nt<|Rm ?_;refine Nt<|wpAny_isOneOf_keyiter (s:={s with heap:=s.heap.update it (TH (·.setIfInBounds 1 (zt<|(i:Int)+1)))}) a0.typeIs ?_;show wpAny _ _ (pure es[i].key) _ _ _;exact Nz<|Nz ⟨_,rfl,Nz<|hQ _ a0<|Rz ..⟩
theorem YG{Q:Option fm->gx->Prop}(hh:A.handled=cR)(z:s.heap.IsKeyIter it d i n ep)(I:s.heap.get? d=cI o)(O:o.data = .dict es ep)(hsz:es.size=n)(a1:es.size<=i)
 (hQ : ∀h',Heap.ExtBut it s.heap h'->Q cR {s with heap:=h'}):wpAny (gv prog w) A (B4<|.ref it) Q E s:=by
 obtain⟨o,Y,hc,hd⟩:=id z;unfold B4;refine Nt (So (OD (name:=OJ "__next__") z.typeIs Ri
  (OI Ri z.typeIs UZ ?_ (UW _))))
 refine Nt (Nz ?_);refine Nt ?_;refine Nt ?_;refine Nt (RT z.typeIs (Nz ?_));refine Nt (UC Y hd ?_);have a3:PR "dict_keyiterator" = d7:=by decide
 simp only[a3,A3,if_false];show wpAny _ _ (if (Of d==Oy)=cL then _ else _) _ _ s;rw[DJ (show ¬((Of d==Oy)=cL)from NM)];refine Nt (Nz ?_);refine Nt (Sn I O ?_);rw[DJ (by rw[hsz];simp)];refine Nt (Nz ?_);refine Nt (SK I O ?_);rw[DJ ⋯];refine Nz ?_;simp only[show ¬((i:Int)<0)from by omega,if_false,OF,Array.getElem?_eq_none a1];refine Nt ?_;refine Nt (RT z.typeIs (Nz ?_));show wpAny _ _ (IH (.ref it) 0 .none >>= _) _ _ s;refine Nt (SS Y hd ⋯ ?_);show wpAny _ _ (Iz (.type "StopIteration") [] >>= _) _ _ _;refine Nt ?_;simp only[Iz,M7];refine Nt (Ox ?_ (by size_fits));refine Nt (m:=Gu _ _) (Tj (a:=Oy) (by first | rfl | (simp only[Gu];rfl)) ?_);refine Ox ?_ (by size_fits);simp only[raiseNew];refine Nt (_B ?_);rw[show A.in1.handled=cR from hh];refine Nt (Nz (wpAny_throw ?_));refine Nt (Ud (T:="StopIteration") (b:=cL) ⟨_,NO _ rfl,rfl⟩ UD ?_);exact Nz (hQ _ (((Rz ..).extBut.push _).push _))
end
def F'(a:d8)(o:o8)(xs:List (List Int×d8×fm)):It:=⟨λi H=>H a=cI (u7 a o)/\i<xs.length,λi H x H'=>H'=H/\∃e,xs[i]? = cI e/\x = .ref e.2.1,λi H=>H a=cI (u7 a o)/\xs.length<=i⟩
theorem eQ{P:m4}{w:l0}{K:Nr}{tg:f7}{a:d8}{o:o8}{xs:List (List Int×d8×fm)}{es:Array L3}{ep:Nat}(hd:o.data = .dict es ep)(O:es.toList=xs.map (λx=>⟨mN x.1,.ref x.2.1,x.2.2⟩))(it:d8) :
 Turn P w K tg (F' a o xs) [it] it (λi h=>h.IsKeyIter it a i xs.length ep) where
 mem:=by simp
 obj:=λi h st b hb=>by
  have e:b=it:=by simpa using hb
  subst e;obtain⟨o,e,c,d⟩:=st;exact⟨o,e,λv q=>by rw[d]at q;cases q⟩
 keep:=λi h h' st k=>by obtain⟨o,e,r⟩:=st;exact⟨o,k it ⋯ o e,r⟩
 item:=by
  rintro X rfl rfl rfl hc i pins s σ H E I z st Y;obtain⟨f0,f1,f2,f3,f4,f5⟩:=z it ⋯;obtain⟨ha,hi⟩:=Y;obtain⟨ho,_⟩:=(show oi X.prog X.w H s.heap a (u7 a o)from I.i7 a _ ha);have hsz:es.size=xs.length:=by rw[<- Pc,O,NV]
  have a7:i<es.size:=by omega
  have ek:es[i].key = .ref (xs[i]).2.1:=by
   have:es[i]? = cI ⟨mN xs[i].1,.ref xs[i].2.1,xs[i].2.2⟩:=by rw[<- TX,O,NT,Nw hi];rfl
   rw[Sj a7]at this;rw[Oj this]
  refine oz st ho hd hsz a7 λh' a8 sb=>⟨_,rfl,?_⟩;rw[ek];have I1:Inv X pins σ H {s with heap:=h'}:=I.turned (t':=s.toks) (λb o hb e=>(sb.2 b hb).trans e) f0 f1 f3 f4 f5;obtain⟨zcl,e,c,d⟩:=id a8;exact pj (s:={s with heap:=h'}) e c d ⋯ ⟨.ref xs[i].2.1,H,I1,rfl,⟨rfl,xs[i],Nw hi,rfl⟩,a8,λb hb=>(z b hb).1⟩
 done:=by
  rintro X rfl rfl rfl hc i pins s σ H E I z st Y;obtain⟨f0,f1,f2,f3,f4,f5⟩:=z it ⋯;obtain⟨ha,hi⟩:=Y;obtain⟨ho,_⟩:=(show oi X.prog X.w H s.heap a (u7 a o)from I.i7 a _ ha);have hsz:es.size=xs.length:=by rw[<- Pc,O,NV]
  exact YG (I.ok.hd hc) st ho hd hsz ⋯ λh' eb=>⟨rfl,I.turned (t':=s.toks) (λb o hb e=>eb b o hb e) f0 f1 f3 f4 f5⟩
 self:=λA i s Q E st h=>wpAny_pyIter_keyiter st h
theorem vX{K:Nr}{H:Hp} : ∀zs:List Int,f6 K H (zs.map D.int) (zs.map V.int)
 | []=>f6.nil
 | z::zs=>f6.cons (show V.int z = .int z from rfl)<|vX zs
theorem eB{K:Nr}{H0 Hs:Hp}{a:d8}{o:o8}{xs:List (List Int×d8×fm)}(h:Hs a=cI (u7 a o))(hk : ∀x∈xs,k0 K H0 x.2.1<|x.1.map V.int):Walk K H0 Hs (F' a o xs) ((xs.map (·.1)).map λk=> .tup (k.map .int)):=by
 have z:((xs.map (·.1)).map λk=>D.tup<|k.map .int).length=xs.length:=by simp
 refine⟨λi H1 s hi=>?_,λH1 s=>?_,λi H1 x C5 s hi y=>?_⟩
 ·rw[z]at hi;exact⟨s _ _ h,hi⟩
 ·rw[z];exact⟨s _ _ h,NJ _⟩
 ·obtain⟨rfl,e,I,rfl⟩:=y
  refine⟨.tup<|e.1.map .int,by simp[I],λG0 s1 s2=>⟨G0,Ext.refl s2,?_⟩⟩;exact qO (o5 s1<|hk e<|Og I)<|vX _
section
variable{X:Cx}{tg a:f7}{f:CO D}
theorem nT(ha:PV X a f):o9 X tg a (ue f):=by
 intro pins s σ H R I hZ;obtain⟨H0,γ,ds,rc,O,q⟩:=hZ;obtain⟨d,e0,O⟩:=zb O;cases d with
 | n0 ks vs=>
  cases O;refine ip (ha pins s σ H (λv H1=>∃z,Ext H0 H z H1/\Rep X.K z (.n0 ks vs) v) I ⟨H0,γ,_,rc,e0,λv H1 z x r=>⟨z,x,r⟩⟩) λu s1 hZ=>?_;obtain⟨v,H1,Y,r1,z,x1,rp⟩:=hZ;obtain⟨ad,ys,rfl,⟨g0,ob,zs,g1,⟨g2,es,ep,g8,g9,_⟩,g3,g4,g5,g6⟩,g7⟩:=(show ∃a xs,v = .ref a/\DU X.K z a ks xs/\f6 X.K z vs xs from rp);subst g3;cases (show u=Of ad from r1);obtain⟨ho,_⟩:=(show oi X.prog X.w H1 s1.heap ad (u7 ad ob)from Y.i7 ad _<|x1.sub _ _ g1);refine ir g0 ho g2 g8 (by rw[<- Pc,g9,NV]) ?_;refine⟨s1.heap.objs.size,[s1.heap.objs.size],_,_,H1,rfl,Y.kept (t':=s1.toks) λb o e=>Nv _ e,eQ g8 g9 _,⟨_,NO _ rfl,rfl,rfl⟩,λb hb=>?_,q _ H1 z x1<|eB g1 g5⟩;have e:b=s1.heap.objs.size:=by simpa using hb
  subst e;exact Y.FZ (NJ _)<|Y.i7.fresh<|NJ _
 | _=>cases O
end
def LD:List (List Int)->List Int->List Int->Option Int
 | k::ks,n::ns,i=>if k=i then cI n else LD ks ns i
 | _,_,_=>cR
def eqT(ks:List (List Int))(ns:List Int)(z:List (List Int))(I:List Int):Bool:=decide (ks.length=z.length) && (ks.zip ns).all λx=>decide<|LD z I x.1=cI x.2
def LI(d e:D):Option Bool:=match d with
 | .n0 ks vs=>match e with
  | .n0 z I=>(vY vs).bind λns=>(vY I).map λO=>eqT ks ns z O
  | _=>cR
 | _=>cR
@[simp] def zca(d e:D):Option D:=(LI d e).map D.bl
@[simp] def zb9(d e:D):Option D:=(LI d e).map λb=>D.bl<|!b
def eU(i:Nat):Tg->Bool
 | .nm j=>decide<|j≠i
 | .tp z=>decide<|i∉z
theorem QR{i:Nat} : ∀{is:List Nat} {vs:List V} {σ:St},i∉is->(QS is vs σ)[i]? = σ[i]?
 | [],vs,σ,_=>by cases vs<;>rfl
 | j::is,[],σ,_=>rfl
 | j::is,v::vs,σ,h=>by show(QS is vs<|σ.set j<|some v)[i]? = _;rw[QR (λz=>h<|NN _ z),NH (λz=>h<|by rw[z];exact NL)]
def Mz(f:CO D)(γ:Ctx):Option D:=(f γ).bind λd=>match d with
 | .n0 ks _=>cI (.int ks.length)
 | _=>cR
@[simp] def zbv:=@Mz.eq_1
abbrev TT:=List (List (List Int))
abbrev YF:=Ctx->TT->Option (Ctx×TT)
def Bq(r:List Int):D:= .lst (r.map D.int)
def Bp(R:List (List Int)):D:= .lst (R.map Bq)
def AI(Z:TT):D:= .lst (Z.map Bp)
def KR:Cell->Bool
 | .no=>cL
 | .val _=>cL
 | _=>d7
def fO:List (List D)->Option (List<|List Int)
 | []=>cI []
 | r::rs=>(vY r).bind λa=>(fO rs).map λb=>a::b
def FO:YF:=λγ Z=>cI (γ,Z)
def JS(F G:YF):YF:=λγ Z=>(F γ Z).bind λr=>G r.1 r.2
def DA(t:CO Bool)(F:YF):YF:=λγ Z=>(t γ).bind λb=>if b=cL then F γ Z else cI (γ,Z)
def Vm(z:List Nat)(T:Tg)(f:CO D):YF:=λγ Z=>if z.all (eU · T)=cL then (f γ).bind λd=>(qm T d γ).map λγ1=>(γ1,Z)else cR
def K0(T:Tg)(F:YF):List D->YF
 | [],γ,Z=>cI (γ,Z)
 | d::ds,γ,Z=>(qm T d γ).bind λγ1=>(F γ1 Z).bind λr=>K0 T F ds r.1 r.2
def KP(z:List Nat)(src:CO (List D))(T:Tg)(F:YF):YF:=λγ Z=>if z.all (eU · T)=cL then (src γ).bind λds=>K0 T F ds γ Z else cR
def Bj(z:List Nat)(j:Nat)(I:CO D)(F:Nat->YF):YF:=λγ Z=>if j∈z\/γ.length<=j then cR else ((I γ).bind p7).bind λn=>(p8 Z.length n).bind λk=>F k (γ.set j .no) Z
def vm(j:Nat)(z:CO D)(f:CO (List D))(k:Nat):YF:=λγ Z=>(Z[k]?).bind λR=>((f<|γ.set j<|.val<|Bp R).bind vY).bind λr=>((z γ).bind p7).bind λn=>(p8 R.length n).map λm=>(γ,Z.set k<|R.set m r)
def vn(j:Nat)(z e:CO D)(k m:Nat):YF:=λγ Z=>(Z[k]?).bind λR=>(R[m]?).bind λrow=>((e<|γ.set j<|.val<|Bq row).bind p7).bind λv=>((z γ).bind p7).bind λn=>(p8 row.length n).map λl=>(γ,Z.set k<|R.set m<|row.set l v)
def ZH(j:Nat)(F:Nat->YF)(k N:Nat):Nat->YF
 | 0,γ,Z=>cI (γ,Z)
 | n+1,γ,Z=>if γ.length<=j then cR else (F (N - (n+1)) (γ.set j .no) Z).bind λs=>if (s.2[k]?).map RU=cI N then ZH j F k N n s.1 s.2 else cR
def vo(z:List Nat)(j:Nat)(F:Nat->YF)(k:Nat):YF:=λγ Z=>if j∈z then cR else (Z[k]?).bind λR=>ZH j F k R.length R.length γ Z
def mB(F:List D->List D->TT->Option TT)(ga gb:CO (List D)):YF:=λγ Z=>(ga γ).bind λds=>(gb γ).bind λes=>(F ds es Z).map λZ'=>(γ,Z')
def Bz(f:CO (List<|List D)):YF:=λγ Z=>((f γ).bind fO).bind λR=>if Z.length<lim then cI (γ,Z++[R])else cR
def Hx(n i:Nat)(F:YF)(ds es:List D)(Z:TT):Option TT:=(F ((jt n (ds ++ .i5::es)).set i .no) Z).map (·.2)
abbrev LF:=CO (D×TT)
def HW(F:CO Fl)(G:LF):LF:=λγ=>(F γ).bind λz=>match z with
 | .next γ'=>G γ'
 | _=>cR
def Bn(i:Nat)(F:YF)(g:CO D):LF:=λγ=>if (γ.set i .no).all KR=cL/\i<γ.length then (F (γ.set i .no) []).bind λs=>(g s.1).map λd=>(d,s.2)else cR
def ug(n:Nat)(G:LF)(ds:List D):Option (D×TT):=G<|jt n ds
def cg(w i:Nat)(L:List D->Option (D×TT))(g:CO (List D))(F:YF):CO Fl:=λγ=>if ((γ.set w .no).set i .no).all KR=cL/\i<γ.length/\w≠i then
 (g γ).bind λds=>(L ds).bind λr=>(F ((γ.set w<|.val r.1).set i .no) r.2).map λs=> .next (s.1.set i<|.val<|AI s.2)else cR
inductive Pl where
 | out | tab (k:Nat) | row (k m:Nat)
deriving DecidableEq
def kF(Z:TT):Pl->Prop
 | .out=>True
 | .tab k=>k<Z.length
 | .row k m=>k<Z.length/\m<(Z.getD k []).length
def qz(Z:TT)(ad:Pl->d8):Pl->List V
 | .out=>(Nu Z.length).map λk=>V.ref<|ad<|.tab k
 | .tab k=>(Nu (Z.getD k []).length).map λm=>V.ref<|ad<|.row k m
 | .row k m=>((Z.getD k []).getD m []).map V.int
structure N3(H:Hp)(Z:TT)(ad:Pl->d8):Prop where
 cont : ∀pl,kF Z pl->H (ad pl)=cI (.lst<|qz Z ad pl)
 inj : ∀pl c_,kF Z pl->kF Z c_->ad pl=ad c_->pl=c_
structure Y3(K:Nr)(al:List (Nat×Pl))(E0 E H0 H:Hp)(σ:St)(γ:Ctx)(Z:TT)(ad:Pl->d8):Prop where
 rs:RS K E0 E H0 H σ γ
 pn:γ.all KR=cL
 sl : ∀x∈al,kF Z x.2/\σ[x.1]? = cI (cI (.ref<|ad x.2))
 n3:N3 H Z ad
 h0 : ∀pl,kF Z pl->H0 (ad pl)=cR/\E (ad pl)=cR
theorem gk{γ:Ctx}(h:γ.all KR=cL) : ∀(i:Nat) ds,γ[i]? ≠ cI (.own ds):=λi ds e=>by have:=OA.mp h _<|Og e;cases this
theorem gm{γ:Ctx}(h:γ.all KR=cL) : ∀(i:Nat) rows,γ[i]? ≠ cI (.nest rows):=λi ds e=>by have:=OA.mp h _<|Og e;cases this
theorem ZZ{γ:Ctx}(h:γ.all KR=cL)(j:Nat){c:Cell}(I:KR c=cL):(γ.set j c).all KR=cL:=by
 refine OA.mpr λc' O=>?_;rcases List.mem_or_eq_of_mem_set O with z | z
 ·exact OA.mp h c' z
 ·rw[z];exact I
theorem Yp : ∀(is:List Nat) (ds:List D) {γ:Ctx},γ.all KR=cL->(qi is ds γ).all KR=cL
 | [],ds,γ,h=>by cases ds<;>exact h
 | i::is,[],γ,h=>h
 | i::is,d::ds,γ,h=>Yp is ds<|ZZ h i rfl
theorem gn{T:Tg}{d:D}{γ γ1:Ctx}(e:qm T d γ=cI γ1)(h:γ.all KR=cL):γ1.all KR=cL:=by
 cases T with
 | nm j=>cases e;exact ZZ h j rfl
 | tp is=>
  cases d with
  | tup ds=>
   simp only[qm]at e;split at e
   ·cases e;exact Yp is ds h
   ·cases e
  | _=>simp[qm]at e
section
variable{K:Nr}{al:List (Nat×Pl)}{E0 E H0 H eg H':Hp}{σ i9:St}{γ γ':Ctx}{Z:TT}{ad:Pl->d8}
theorem RC.pl(sub:js H0 H)(len:σ.length=γ.length)(val : ∀(i:Nat) d,γ[i]? = cI (.val d)->∃v,σ[i]? = cI (cI v)/\Rep K H0 d v)(pn:γ.all KR=cL):RC K H0 H σ γ:=
 ⟨sub,len,val,λi ds e=>absurd e<|gk pn i ds,λi j a ds es e=>absurd e<|gk pn i ds,z0.LQ<|gm pn⟩
theorem RS.pl(rc:RC K H0 H σ γ)(x:Ext E0 E H0 H)(pn:γ.all KR=cL):RS K E0 E H0 H σ γ:=
 ⟨rc,x,λi ds a e=>absurd e<|gk pn i ds,λi rows a xs e=>absurd e<|gm pn i rows⟩
theorem RS.swap(r:RS K E0 E H0 H σ γ)(pn:γ.all KR=cL)(sub:js H0 H')(s1:js E H'):RS K E0 E H0 H' σ γ:=
 RS.pl (RC.pl sub r.rc.len r.rc.val pn) ⟨r.ext.s0,s1,sub,r.ext.new⟩ pn
theorem Ext.keep(s:js H0 H)(e:js H H'):Ext H0 H H0 H':=⟨js.refl _,e,s.trans e,λ_ h _=>h⟩
theorem N3.step(n:N3 H Z ad)(e:js H H'):N3 H' Z ad:=⟨λpl o=>e _ _<|n.cont pl o,n.inj⟩
theorem Y3.step(y:Y3 K al E0 E H0 H σ γ Z ad)(e:Ext H0 H eg H'):Y3 K al E0 E eg H' σ γ Z ad:=
 ⟨y.rs.step e,y.pn,y.sl,y.n3.step e.s1,λpl o=>⟨e.new _ (y.h0 pl o).1 (by rw[y.n3.cont pl o];simp),(y.h0 pl o).2⟩⟩
theorem Y3.names(y:Y3 K al E0 E H0 H σ γ Z ad)(r:RS K E0 E H0 H i9 γ')(pn:γ'.all KR=cL)(s : ∀x∈al,i9[x.1]? = σ[x.1]?):Y3 K al E0 E H0 H i9 γ' Z ad:=
 ⟨r,pn,λx hx=>⟨(y.sl x hx).1,by rw[s x hx];exact(y.sl x hx).2⟩,y.n3,y.h0⟩
theorem Y3.weak{z:List (Nat×Pl)}(y:Y3 K al E0 E H0 H σ γ Z ad)(s : ∀x∈z,x∈al):Y3 K z E0 E H0 H σ γ Z ad:=⟨y.rs,y.pn,λx hx=>y.sl x<|s x hx,y.n3,y.h0⟩
open Classical in
def K1(H0 H:Hp)(Z:TT)(ad:Pl->d8):Hp:=λc=>if ∃pl,kF Z pl/\ad pl=c then H c else H0 c
theorem sQ{pl:Pl}(h:kF Z pl):K1 H0 H Z ad (ad pl)=H (ad pl):=by unfold K1;rw[DZ ⟨pl,h,rfl⟩]
theorem eD(h0 : ∀pl,kF Z pl->H0 (ad pl)=cR):js H0 (K1 H0 H Z ad):=λc o q=>by
 unfold K1;rw[DJ]
 ·exact q
 ·rintro⟨pl,h1,h2⟩
  rw[<- h2,h0 pl h1]at q;cases q
theorem XH(s:js H0 H):js (K1 H0 H Z ad) H:=λc o q=>by
 unfold K1 at q;split at q
 ·exact q
 ·exact s c o q
def Dv(Z:TT):Pl->D
 | .out=>AI Z
 | .tab k=>Bp<|Z.getD k []
 | .row k m=>Bq<|(Z.getD k []).getD m []
theorem Yi{G:Hp} : ∀(r:List Int),f6 K G (r.map D.int) (r.map V.int)
 | []=>f6.nil
 | i::r=>f6.cons (show V.int i = .int i from rfl)<|Yi r
theorem W1{G:Hp}{α:Type}{f:α->D}{g:Nat->V} : ∀{l:List α} {n:Nat},(∀(k:Nat) x,l[k]? = cI x->Rep K G (f x) (g<|n+k))->f6 K G (l.map f) ((SG n l.length).map g)
 | [],n,_=>f6.nil
 | x::l,n,h=>by
  rw[NY,Od,RN,NY];refine f6.cons (h 0 x rfl)<|W1 λk y z=>?_;have:=h (k+1) y (by simpa using z)
  rwa [show n+(k+1)=n+1+k by omega]at this
theorem Yj{G:Hp}{α:Type}{f:α->D}{g:Nat->V}{l:List α}(h : ∀(k:Nat) x,l[k]? = cI x->Rep K G (f x) (g k)):f6 K G (l.map f) ((Nu l.length).map g):=by rw[Po];exact W1 λk x hx=>by rw[RX];exact h k x hx
theorem jv{α:Type}{l:List α}{k:Nat}{x d:α}(h:l[k]? = cI x):l.getD k d=x:=by simp[List.getD,h]
theorem W3{G:Hp}{k m:Nat}(n:N3 G Z ad)(h:kF Z (.row k m)):Rep K G (Dv Z<|.row k m) (.ref<|ad<|.row k m):=
 wI (lK.of<|n.cont _ h) (Yi _)
theorem W2{G:Hp}{k:Nat}(n:N3 G Z ad)(h:kF Z (.tab k)):Rep K G (Dv Z<|.tab k) (.ref<|ad<|.tab k):=by refine wI (lK.of<|n.cont _ h)<|Yj λm x hx=>?_;have hm:=(NC.mp hx).1;have:=W3 (K:=K) n (k:=k) (m:=m) ⟨h,hm⟩;simp only[Dv,jv hx]at this;exact this
theorem nB{G:Hp}(n:N3 G Z ad):Rep K G (Dv Z .out) (.ref<|ad .out):=by refine wI (lK.of<|n.cont .out OR)<|Yj λk x hx=>?_;have hk:=(NC.mp hx).1;have:=W2 (K:=K) n (k:=k) hk;simp only[Dv,jv hx]at this;exact this
theorem fQ{G:Hp}(n:N3 G Z ad){pl:Pl}(h:kF Z pl):Rep K G (Dv Z pl) (.ref<|ad pl):=by
 cases pl with
 | out=>exact nB n
 | tab k=>exact W2 n h
 | row k m=>exact W3 n h
theorem eE(n:N3 H Z ad):N3 (K1 H0 H Z ad) Z ad:=⟨λpl o=>by rw[sQ o];exact n.cont pl o,n.inj⟩
theorem Y3.view(y:Y3 K al E0 E H0 H σ γ Z ad){i:Nat}{pl:Pl}(hi:(i,pl)∈al) : ∃G0,js H0 G0/\RC K G0 H σ (γ.set i<|.val<|Dv Z pl):=by
 have s0:=eD (H:=H)<|λpl o=>(y.h0 pl o).1;obtain⟨o,hs⟩:=y.sl _ hi;refine⟨_,s0,RC.pl (XH y.rs.rc.sub) (by simp[y.rs.rc.len]) (λj d e=>?_)<|ZZ y.pn i rfl⟩;rcases zN e with⟨rfl,z,_⟩ | ⟨I,z⟩
 ·cases z
  exact⟨_,hs,fQ (eE y.n3) o⟩
 ·obtain⟨v,h1,h2⟩:=y.rs.rc.val j d z
  exact⟨v,h1,h2.mono s0⟩
theorem Y3.shown(y:Y3 K al E0 E H0 H σ γ Z ad){i:Nat}(hi:(i,Pl.out)∈al) : ∃G0,RS K E0 E G0 H σ (γ.set i<|.val<|AI Z):=by
 have s0:=eD (H:=H)<|λpl o=>(y.h0 pl o).1;obtain⟨o,hs⟩:=y.sl _ hi;refine⟨_,RS.pl (RC.pl (XH y.rs.rc.sub) (by simp[y.rs.rc.len]) (λj d e=>?_)<|ZZ y.pn i rfl) ⟨y.rs.ext.s0.trans s0,y.rs.ext.s1,XH y.rs.rc.sub,λc O I=>?_⟩<|ZZ y.pn i rfl⟩
 ·rcases zN e with⟨rfl,z,_⟩ | ⟨Y,z⟩
  ·cases z
   exact⟨_,hs,fQ (eE y.n3) o⟩
  ·obtain⟨v,h1,h2⟩:=y.rs.rc.val j d z
   exact⟨v,h1,h2.mono s0⟩
 ·unfold K1
  rw[DJ]
  ·exact y.rs.ext.new c O I
  ·rintro⟨pl,h1,h2⟩
   rw[<- h2]at I;exact I (y.h0 pl h1).2
end
section
variable{K:Nr}{al:List (Nat×Pl)}{q:d8}{E0 E H0 H eg H':Hp}{σ i9:St}{γ γ':Ctx}{Z:TT}{ad:Pl->d8}{k m:Nat}{R R':List (List Int)}{row r:List Int}
theorem j9{α:Type}{l:List α}{k z:Nat}{x d:α}(hk:k<l.length):(l.set k x).getD z d=if z=k then x else l.getD z d:=by
 by_cases h:z=k
 ·subst h;rw[DZ rfl,Ny,Oz hk];rfl
 ·rw[DJ h,Ny,NH<|OQ h,Ny]
theorem xo(hk:Z[k]? = cI R)(z:R'.length=R.length){pl:Pl}:kF (Z.set k R') pl↔kF Z pl:=by
 have I:=(NC.mp hk).1;cases pl with
 | out=>exact Iff.rfl
 | tab j=>show j<_↔j<_;rw[Rj]
 | row j i=>
  show(j<_/\i<_)↔(j<_/\i<_);rw[Rj,j9 I];by_cases h:j=k
  ·subst h;rw[DZ rfl,jv hk,z]
  ·rw[DJ h]
theorem N3.J?(n:N3 H Z ad)(hk:Z[k]? = cI R)(hm:R[m]? = cI row):N3 (upd H (ad<|.row k m)<|.lst<|r.map V.int) (Z.set k<|R.set m r) ad:=by
 have I:=(NC.mp hk).1;have Y:=(NC.mp hm).1;have O:(R.set m r).length=R.length:=Rj;have ho:kF Z (.row k m):=⟨I,by rw[jv hk];exact Y⟩;refine⟨λpl o=>?_,λa b h1 h2 e=>n.inj a b ((xo hk O).mp h1) ((xo hk O).mp h2) e⟩;have o:=(xo hk O).mp o;by_cases e:pl = .row k m
 ·subst e
  rw[zC];congr 2;show _=(((Z.set k<|R.set m r).getD k []).getD m []).map V.int;rw[j9 I,DZ rfl,j9 Y,DZ rfl]
 ·rw[zH (λz=>e<|n.inj _ _ o ho z),n.cont pl o]
  congr 2;cases pl with
  | out=>show Pq _ _=Pq _ _;rw[Rj]
  | tab j=>
   show Pq _ _=Pq _ _;rw[j9 I];by_cases h:j=k
   ·subst h;rw[DZ rfl,jv hk,O]
   ·rw[DJ h]
  | row j i=>
   show Pq _ _=Pq _ _;rw[j9 I];by_cases h:j=k
   ·subst h
    rw[DZ rfl,jv hk,j9 Y,DJ (λz=>e<|by rw[z])]
   ·rw[DJ h]
def FV(ad:Pl->d8)(k m:Nat)(q:d8):Pl->d8:=λpl=>if pl = .row k m then q else ad pl
theorem yE:FV ad k m q (.row k m)=q:=DZ rfl
theorem xU{pl:Pl}(h:pl ≠ .row k m):FV ad k m q pl=ad pl:=DJ h
theorem N3.K?(n:N3 H Z ad)(hk:Z[k]? = cI R)(hm:m<R.length)(hq:H q=cI (.lst<|r.map V.int))(hf : ∀pl,kF Z pl->ad pl≠q) :
 N3 (upd H (ad<|.tab k)<|.lst<|(qz Z ad<|.tab k).set m (.ref q)) (Z.set k<|R.set m r) (FV ad k m q):=by
 have I:=(NC.mp hk).1;have Y:(R.set m r).length=R.length:=Rj;have ht:kF Z (.tab k):=I;refine⟨λpl o=>?_,λa b h1 h2 e=>?_⟩
 ·have o:=(xo hk Y).mp o
  by_cases e:pl = .row k m
  ·subst e
   rw[yE,zH<|λz=>hf _ ht z.symm,hq];congr 2;show _=(((Z.set k<|R.set m r).getD k []).getD m []).map V.int;rw[j9 I,DZ rfl,j9 hm,DZ rfl]
  ·rw[xU e]
   by_cases e2:pl = .tab k
   ·subst e2
    rw[zC];congr 2;show List.set (Pq _ _) _ _=Pq _ _;rw[j9 I,DZ rfl,Y,jv hk];apply RG;intro i;rw[List.getElem?_set];by_cases hi:m=i
    ·subst hi
     rw[DZ rfl,DZ (by simpa using hm)];simp[hm,yE]
    ·rw[DJ hi]
     by_cases a3:i<R.length
     ·simp[a3,xU (show Pl.row k i ≠ .row k m by simp;omega)]
     ·simp[a3]
   ·rw[zH (λz=>e2<|n.inj _ _ o ht z),n.cont pl o]
    congr 2;cases pl with
    | out=>show Pq _ _=Pq _ _;rw[Rj];exact NQ λj _=>by rw[xU ⋯]
    | tab j=>
     have hj:j≠k:=λz=>e2 (by rw[z]);show Pq _ _=Pq _ _;rw[j9 I,DJ hj];exact NQ λi _=>by rw[xU (by simp;omega)]
    | row j i=>
     show Pq _ _=Pq _ _;rw[j9 I];by_cases h:j=k
     ·subst h
      rw[DZ rfl,jv hk,j9 hm,DJ (λz=>e<|by rw[z])]
     ·rw[DJ h]
 ·have h1:=(xo hk Y).mp h1
  have h2:=(xo hk Y).mp h2;by_cases ea:a = .row k m
  ·by_cases O:b = .row k m
   ·rw[ea,O]
   ·rw[ea,yE,xU O]at e
    exact absurd e.symm<|hf b h2
  ·by_cases O:b = .row k m
   ·rw[O,yE,xU ea]at e
    exact absurd e<|hf a h1
   ·rw[xU ea,xU O]at e
    exact n.inj a b h1 h2 e
theorem aw{pl:Pl}(h:kF (Z++[R]) pl):kF Z pl\/pl = .tab Z.length\/∃i,pl = .row Z.length i/\i<R.length:=by
 cases pl with
 | out=>exact .inl h
 | tab j=>
  have:j<(Z++[R]).length:=h;by_cases e:j=Z.length
  ·exact .inr (.inl<|by rw[e])
  ·exact .inl (show j<Z.length by simp at this;omega)
 | row j i=>
  obtain⟨h1,h2⟩:=(show j<(Z++[R]).length/\i<((Z++[R]).getD j []).length from h);by_cases e:j=Z.length
  ·subst e
   refine .inr<|.inr ⟨i,rfl,?_⟩;simpa[Ny]using h2
  ·have z:j<Z.length:=by simp at h1;omega
   refine .inl (show j<Z.length/\i<(Z.getD j []).length from⟨z,?_⟩);rw[Ny,Oi z,<- Ny]at h2;exact h2
def sF(ad:Pl->d8)(n:Nat)(a:d8)(bs:List d8):Pl->d8
 | .out=>ad .out
 | .tab j=>if j=n then a else ad (.tab j)
 | .row j i=>if j=n then bs.getD i a else ad (.row j i)
theorem wm{pl:Pl}{a:d8}{bs:List d8}(h:kF Z pl):sF ad Z.length a bs pl=ad pl:=by
 cases pl with
 | out=>rfl
 | tab j=>show(if j=_ then _ else _)=_;rw[DJ (Oa<|show j<Z.length from h)]
 | row j i=>show(if j=_ then _ else _)=_;rw[DJ (Oa (show j<Z.length/\_ from h).1)]
theorem N3.app{a:d8}{bs:List d8}(n:N3 H Z ad)(ha:H a=cI (.lst<|bs.map V.ref))(hb : ∀(i:Nat) b r,bs[i]? = cI b->R[i]? = cI r->H b=cI (.lst<|r.map V.int))(hl:bs.length=R.length)(nd:(a::bs).Nodup)
 (O : ∀pl,kF Z pl->ad pl∉a::bs):N3 (upd H (ad .out)<|.lst<|qz Z ad .out++[.ref a]) (Z++[R]) (sF ad Z.length a bs):=by
 have a1:kF Z .out:=OR;have a7 : ∀i,i<R.length->∃b,bs[i]? = cI b/\bs.getD i a=b:=λi hi=>⟨bs[i]'⋯,Nw ⋯,jv<|Nw ⋯⟩;have a2 : ∀{pl},kF (Z++[R]) pl->(kF Z pl/\sF ad Z.length a bs pl=ad pl)\/(pl = .tab Z.length/\sF ad Z.length a bs pl=a)\/∃i b,pl = .row Z.length i/\i<R.length/\bs[i]? = cI b/\sF ad Z.length a bs pl=b:=λ{pl} o=>by
  rcases aw o with o | e | ⟨i,e,hi⟩
  ·exact .inl ⟨o,wm o⟩
  ·subst e;exact .inr<|.inl ⟨rfl,DZ rfl⟩
  ·subst e
   obtain⟨b,h1,h2⟩:=a7 i hi;exact .inr<|.inr ⟨i,b,rfl,hi,h1,by show(if Z.length=Z.length then _ else _)=_;rw[DZ rfl];exact h2⟩
 refine⟨λpl o=>?_,λx y h1 h2 e=>?_⟩
 ·rcases a2 o with⟨o',e⟩ | ⟨e1,e⟩ | ⟨i,b,e1,hi,Y,e⟩
  ·rw[e]
   by_cases eo:pl = .out
   ·subst eo
    rw[zC];congr 2;show Pq _ _++_=Pq _ _;rw[Ol,Rv,PD,OM];congr 1
    ·exact NQ λj hj=>by rw[wm (show kF Z (.tab j)from NA.mp hj)]
    ·show [_]=[_];congr 2;exact(DZ rfl).symm
   ·rw[zH (λz=>eo<|n.inj _ _ o' a1 z),n.cont pl o']
    congr 2;cases pl with
    | out=>exact absurd rfl eo
    | tab j=>
     have hj:j<Z.length:=o';have I:(Z++[R]).getD j []=Z.getD j []:=by rw[Ny,Oi hj,<- Ny]
     show Pq _ _=Pq _ _;rw[I];exact NQ λi hi=>by rw[wm (show kF Z (.row j i)from⟨hj,NA.mp hi⟩)]
    | row j i=>
     have hj:j<Z.length:=o'.1;have I:(Z++[R]).getD j []=Z.getD j []:=by rw[Ny,Oi hj,<- Ny]
     show Pq _ _=Pq _ _;rw[I]
  ·subst e1
   rw[e,zH (λz=>O _ a1<|by rw[<- z];exact NL),ha];congr 2;have I:(Z++[R]).getD Z.length []=R:=by simp[Ny]
   show _=Pq _ _;rw[I];apply RG;intro i;by_cases hi:i<R.length
   ·obtain⟨b,h1,h2⟩:=a7 i hi
    rw[NT,h1,NT,ON hi];show cI (V.ref b)=cI (V.ref<|if Z.length=Z.length then _ else _);rw[DZ rfl,h2]
   ·rw[Px (by simp;omega),Px (by simp;omega)]
  ·subst e1
   have a8:b∈bs:=Og Y;rw[e,zH (λz=>O _ a1<|by rw[<- z];exact NN _ a8),hb i b _ Y (Nw hi)];congr 2;have I:(Z++[R]).getD Z.length []=R:=by simp[Ny]
   show _=Pq _ _;rw[I,jv (Nw hi)]
 ·obtain⟨n1,n2⟩:=PF.mp nd
  rcases a2 h1 with⟨o1,e1⟩ | ⟨rfl,e1⟩ | ⟨i,b,rfl,hi,Y,e1⟩<;>rcases a2 h2 with⟨o2,e2⟩ | ⟨rfl,e2⟩ | ⟨i',b',rfl,ac,a6,e2⟩
  ·rw[e1,e2]at e;exact n.inj x y o1 o2 e
  ·rw[e1,e2]at e;exact absurd (by rw[e];exact NL)<|O x o1
  ·rw[e1,e2]at e;exact absurd (by rw[e];exact NN _<|Og a6)<|O x o1
  ·rw[e1,e2]at e;exact absurd (by rw[<- e];exact NL)<|O y o2
  ·rfl
  ·rw[e1,e2]at e;exact absurd (by rw[e];exact Og a6) n1
  ·rw[e1,e2]at e;exact absurd (by rw[<- e];exact NN _<|Og Y)<|O y o2
  ·rw[e1,e2]at e;exact absurd (by rw[<- e];exact Og Y) n1
  ·rw[e1,e2]at e;subst e
   rw[YC n2 Y a6]
end
def vS:Pl->Bool
 | .row _ _=>d7
 | _=>cL
structure Kp(Z:TT)(ad:Pl->d8)(Z':TT)(m9:Pl->d8):Prop where
 len:Z.length<=Z'.length
 adr : ∀pl,vS pl=cL->kF Z pl->m9 pl=ad pl
section
variable{Z Z' K':TT}{ad m9 L_:Pl->d8}
theorem Kp.refl:Kp Z ad Z ad:=⟨NJ _,λ_ _ _=>rfl⟩
theorem Kp.ok(h:Kp Z ad Z' m9){pl:Pl}(n:vS pl=cL)(o:kF Z pl):kF Z' pl:=by
 cases pl with
 | out=>exact OR
 | tab k=>exact NX (show k<Z.length from o) h.len
 | row k m=>cases n
theorem Kp.trans(h:Kp Z ad Z' m9)(g:Kp Z' m9 K' L_):Kp Z ad K' L_:=
 ⟨OH h.len g.len,λpl n o=>by rw[g.adr pl n (h.ok n o),h.adr pl n o]⟩
end
def tY(K:Nr)(al:List (Nat×Pl))(F:YF):TS:=λD σ H=>∃E0 E H0 γ Z ad r,Y3 K al E0 E H0 H σ γ Z ad/\F γ Z=cI r/\∀i9 H' eg m9,Y3 K al E0 E eg H' i9 r.1 r.2 m9->Kp Z ad r.2 m9->D.nx i9 H'
section
variable{X:Cx}{al:List (Nat×Pl)}{st:m5}{xD:List m5}{pos:kr}
theorem Vq{F G:YF}(h1:PS X st (tY X.K al F))(h2:n5 X xD (tY X.K al G)):n5 X (st::xD) (tY X.K al<|JS F G):=by intro pins s σ H D I O;refine(xK h1 h2) pins s σ H D I ?_;obtain⟨E0,E,H0,γ,Z,ad,r,y,z,Y⟩:=O;obtain⟨r1,e1,z⟩:=zb z;exact⟨E0,E,H0,γ,Z,ad,r1,y,e1,λi9 H' eg m9 y' k=>⟨E0,E,eg,_,_,m9,r,y',z,λDR H2 a3 a4 y2 k2=>Y DR H2 a3 a4 y2<|k.trans k2⟩⟩
theorem JX{F:YF}(h:PS X st (tY X.K al F)):n5 X [st] (tY X.K al F):=vw h
theorem FN{c:f7}{body:List m5}{t:CO Bool}{F:YF}(O:s9 X c t)(hb:n5 X body (tY X.K al F)):PS X (.If c body [] pos) (tY X.K al<|DA t F):=xi (CB O hb gc) λD σ H Y=>by
 obtain⟨E0,E,H0,γ,Z,ad,r,y,z,I⟩:=Y;obtain⟨b,e1,z⟩:=zb z;refine⟨H0,γ,b,y.rs.rc,e1,λH' eg x=>?_⟩;cases b with
 | true=>rw[DZ rfl]at z ⊢;exact⟨E0,E,eg,γ,Z,ad,r,y.step x,z,I⟩
 | false=>rw[DJ NM]at z ⊢;cases z;exact I _ _ eg ad (y.step x) Kp.refl
theorem gC{T:Tg}{x:Nat×Pl}(h:(al.map (·.1)).all (eU · T)=cL)(hx:x∈al):eU x.1 T=cL:=OA.mp h _<|Rf.mpr ⟨x,hx,rfl⟩
theorem Xx{K:Nr}{H0 H:Hp}{T:Tg}{d:D}{v:V}{σ:St}{γ γ1:Ctx}{Q:St->Hp->Prop}(s:js H0 H)(h:Rep K H0 d v)(e:qm T d γ=cI γ1)(O:(al.map (·.1)).all (eU · T)=cL)
 (q : ∀z,(∀x∈al,z[x.1]? = σ[x.1]?)->(∀E0 E,RS K E0 E H0 H σ γ->RS K E0 E H0 H z γ1)->Q z H):xk K T v σ H Q:=by
 cases T with
 | nm j=>cases e;exact q _ (λx hx=>NH<|of_decide_eq_true<|gC O hx) λE0 E r=>r.Dm h
 | tp is=>
  cases d with
  | tup ds=>
   simp only[qm]at e;by_cases I:ds.length=is.length
   ·rw[DZ I]at e;cases e
    obtain⟨a,xs,rfl,h1,h2⟩:=(show ∃a xs,v = .ref a/\k0 K H0 a xs/\f6 K H0 ds xs from h);have hx:xs.length=is.length:=by rw[h2.length,I]
    exact⟨a,xs,rfl,o5 s h1,hx,V3 hx<|q _ (λx hx=>QR<|of_decide_eq_true<|gC O hx) λE0 E r=>r.IG h2⟩
   ·rw[DJ I]at e;cases e
  | _=>simp[qm]at e
theorem mq{T:Tg}{f:CO D}(h:PS X st (XQ (tV X.K f)<|xk X.K T)):PS X st (tY X.K al<|Vm (al.map (·.1)) T f):=xi h λD σ H Y=>by
 obtain⟨E0,E,H0,γ,Z,ad,r,y,z,a0⟩:=Y;unfold Vm at z;split at z
 ·next ho=>
  obtain⟨d,e1,z⟩:=zb z;obtain⟨γ1,O,z⟩:=zv z;subst z;refine⟨H0,γ,d,y.rs.rc,e1,λv H1 a2 x1 r1=>?_⟩;have I:=y.step x1;exact Xx x1.sub r1 O ho λFA Lc a5=>a0 _ _ a2 ad (I.names (a5 _ _ I.rs) (gn O I.pn) Lc) Kp.refl
 ·cases z
theorem mw{tg iter:f7}{body:List m5}{src:CO (List D)}{T:Tg}{F:YF}(hp:G9 (gv X.prog X.w) X.A X.env X.xe)(hc:X.calm=cL)(hi:o9 X tg iter src)(hg:PG X tg (xk X.K T))(hb:n5 X body (tY X.K al F))
 (hs : ∀x,zl iter X.env x=pure x:=by intro _;rfl):PS X (.For tg iter body [] pos) (tY X.K al<|KP (al.map (·.1)) src T F):=xi (gf hp hc hi hg hb hs) λD σ H hZ=>by
 obtain⟨E0,E,H0,γ,Z,ad,r,y0,O,ac⟩:=hZ;unfold KP at O;split at O
 ·next ae=>
  obtain⟨ds,e1,O⟩:=zb O;refine⟨H0,γ,ds,y0.rs.rc,e1,λJ H1 Y x1 wk=>?_⟩;have y:=y0.step x1;have hx:=y.rs.ext;refine⟨λn m σ H=>m=ds.length - n/\n<=ds.length/\∃H0 γ Z' m9,Y3 X.K al Y E H0 H σ γ Z' m9/\Kp Z ad Z' m9/\K0 T F (ds.drop n) γ Z'=cI r,⟨_,rfl,Pf _,Y,γ,Z,ad,⟨⟨y.rs.rc,hx.base,y.rs.fresh,y.rs.Dh⟩,y.pn,y.sl,y.n3,y.h0⟩,Kp.refl,O⟩,?_⟩;rintro n m C4 H3 ⟨rfl,bg,a4,zcz,Z3,a5,z,kp,I⟩;have a2:js Y H3:=z.rs.ext.s0.trans z.rs.ext.sub;by_cases a1:n<ds.length
  ·refine .inr ⟨wk.go n H3 a2 a1,λσ H=>n+1<=ds.length/\∃H0 γ Z' m9,Y3 X.K al Y E H0 H σ γ Z' m9/\Kp Z ad Z' m9/\K0 T F (ds.drop<|n+1) γ Z'=cI r,λi9 H' q=>⟨ds.length - (n+1),by omega,rfl,q.1,q.2⟩,λx H' yy=>?_⟩
   obtain⟨d,hd,am⟩:=wk.DP n H3 x H' a2 a1 yy;obtain⟨G0,xg,rg⟩:=am a4 z.rs.ext.s0 z.rs.rc.sub;have ap:ds.drop n=d::ds.drop (n+1):=by
    have ar:d=ds[n]:=by rw[Nw a1]at hd;exact(Oj hd).symm
    rw[ar];exact Sm a1
   rw[ap]at I;obtain⟨zaC,eb,I⟩:=zb I;obtain⟨r4,eF,I⟩:=zb I;refine Xx xg.sub rg eb ae λzcA Lc ba=>?_;have z1:=z.step xg;exact⟨Y,E,G0,zaC,Z3,a5,r4,z1.names (ba Y E z1.rs) (gn eb z1.pn) Lc,eF,λzcB H5 bb bd q kq=>⟨a1,bb,_,_,bd,q,kp.trans kq,I⟩⟩
  ·have e:n=ds.length:=by omega
   subst e;rw[TK]at I;cases I;exact .inl ⟨wk.stop H3 a2,ac C4 H3 a4 a5 ⟨⟨z.rs.rc,hx.rebase z.rs.ext,z.rs.fresh,z.rs.Dh⟩,z.pn,z.sl,z.n3,z.h0⟩ kp⟩
 ·cases O
theorem We{Z:TT}{ad:Pl->d8}{k:Nat}(h:k<Z.length):(qz Z ad .out)[k]? = cI (.ref<|ad<|.tab k):=by show(Pq _ _)[k]? = _;rw[NT,ON h];rfl
theorem Wd{Z:TT}{ad:Pl->d8}{k m:Nat}{R:List (List Int)}(hk:Z[k]? = cI R)(h:m<R.length):(qz Z ad<|.tab k)[m]? = cI (.ref<|ad<|.row k m):=by show(Pq _ _)[m]? = _;rw[jv hk,NT,ON h];rfl
theorem JE{Z:TT}{ad:Pl->d8}{k:Nat}{R:List (List Int)}(hk:Z[k]? = cI R):(qz Z ad<|.tab k).length=R.length:=by show(Pq _ _).length=_;rw[jv hk];simp
theorem rY{n:Nat}{i:Int}{j:Nat}(h:p8 n i=cI j):j<n:=(V0<|Xl h).2.1
theorem Y3.alias{K:Nr}{E0 E H0 H:Hp}{σ:St}{γ:Ctx}{Z:TT}{ad:Pl->d8}{j:Nat}{pl:Pl}(y:Y3 K al E0 E H0 H σ γ Z ad)(o:kF Z pl)(I:j∉al.map (·.1))(O:j<γ.length) :
 Y3 K ((j,pl)::al) E0 E H0 H (σ.set j<|some (.ref<|ad pl)) (γ.set j .no) Z ad:=
 ⟨y.rs.forget,ZZ y.pn j rfl,λx hx=>by
  rcases NP.mp hx with rfl | hx
  ·exact⟨o,Oz<|by rw[y.rs.rc.len];exact O⟩
  ·exact⟨(y.sl x hx).1,by rw[NH (λz=>I<|by rw[z];exact Rf.mpr ⟨x,hx,rfl⟩)];exact(y.sl x hx).2⟩,y.n3,y.h0⟩
theorem GO{i j:Nat}{Y:CO D}{F:Nat->YF}(hi:(i,Pl.out)∈al)(h1:PS X st (XQ (GH (Lx X.K) (wC i)<|tV X.K Y)<|ye j))(h2 : ∀k,n5 X xD<|tY X.K ((j,.tab k)::al)<|F k) :
 n5 X (st::xD) (tY X.K al<|Bj (al.map (·.1)) j Y F):=by
 intro pins s σ H D I hZ;refine(xK h1 (u:=λD σ H=>∃k,tY X.K ((j,.tab k)::al) (F k) D σ H)<|λpins s σ H D I ⟨k,h⟩=>h2 k pins s σ H D I h) pins s σ H D I ?_;obtain⟨E0,E,H0,γ,Z,ad,r,y,O,a4⟩:=hZ;unfold Bj at O;split at O
 ·cases O
 ·next hj=>
  obtain⟨n,e1,O⟩:=zb O;obtain⟨dn,e2,e3⟩:=zb e1;obtain⟨k,e4,O⟩:=zb O;rw[jK e3]at e2;refine⟨_,(y.sl _ hi).2,H0,γ,_,y.rs.rc,e2,λv H1 a6 x1 r1=>?_⟩;have y1:=y.step x1;have hk:k<Z.length:=rY e4;refine⟨_,qz Z ad .out,n,.ref<|ad<|.tab k,rfl,jI r1,lK.of<|y1.n3.cont .out OR,?_,?_⟩
  ·unfold D3
   rw[show(qz Z ad .out).length=Z.length by simp[qz],Xl e4];exact We hk
  ·refine⟨k,E0,E,a6,_,Z,ad,r,y1.alias (pl:= .tab k) hk (λz=>hj<|.inl z) (by rcases NU j γ.length with z | z;exact z;exact absurd (.inr z) hj),O,λi9 H' eg m9 y' kp=>a4 i9 H' eg m9 (y'.weak λx hx=>NN _ hx) kp⟩
theorem iy{K:Nr}{H:Hp}{ds:List D}{r:List Int}{xs:List V}(e:vY ds=cI r)(h:f6 K H ds xs):xs=r.map V.int:=by rw[wQ e h];simp[kV,OO,RQ]
theorem Wx{j k:Nat}{bx:CO D}{f:CO (List D)}(hj:(j,Pl.tab k)∈al)(hn:(al.all λx=>vS x.2)=cL)(h:PS X st (XQ (tO X.K f)<|Gp (wC j) (tV X.K bx) nC)) :
 PS X st (tY X.K al<|vm j bx f k):=xi h λD σ H hZ=>by
 obtain⟨E0,E,H0,γ,Z,ad,r0,y,O,ab⟩:=hZ;obtain⟨R,hk,O⟩:=zb O;obtain⟨r,e1,O⟩:=zb O;obtain⟨ds,e2,e3⟩:=zb e1;obtain⟨n,e4,O⟩:=zb O;obtain⟨dn,e5,e6⟩:=zb e4;obtain⟨m,e7,O⟩:=zv O;subst O;rw[jK e6]at e5;obtain⟨G0,s0,rc⟩:=y.view hj;rw[show Dv Z (.tab k)=Bp R by simp only[Dv,jv hk]]at rc;refine⟨G0,_,ds,rc,e2,λa xs H1 G1 x1 Y f2 f3 rp=>?_⟩;have ex:=iy e3 rp;subst ex;have zat:Ext H0 H H0 H1:=Ext.keep y.rs.rc.sub x1.s1;have y1:=y.step zat;refine⟨_,(y1.sl _ hj).2,H0,γ,_,y1.rs.rc,e5,λv H2 a8 x2 r2=>?_⟩;have I:=y1.step x2;have ht:kF Z (.tab k):=(NC.mp hk).1;have hm:m<R.length:=rY e7;refine⟨_,qz Z ad<|.tab k,n,m,rfl,jI r2,I.n3.cont _ ht,by rw[JE hk];exact Xl e7,?_⟩;have an:H0 a=cR:=jq y.rs.rc.sub Y;have hl:(R.set m r).length=R.length:=Rj;have ap:a8 a=cR:=x2.new a an (by rw[f3];simp);have hE:E a=cR:=by
  cases q:E a with
  | none=>rfl
  | some o=>rw[y.rs.ext.s1 a o q]at Y;cases Y
 refine ab σ _ a8 (FV ad k m a) ⟨I.rs.swap I.pn (λc o q=>?_)<|λc o q=>?_,I.pn,λx hx=>?_,I.n3.K? hk hm (x2.s1 _ _ f3)<|λpl o z=>?_,λpl o=>?_⟩ ⟨by simp,λpl np o=>xU<|λz=>by rw[z]at np;cases np⟩
 ·rw[zH (λz=>by rw[z,(I.h0 _ ht).1]at q;cases q)];exact I.rs.rc.sub c o q
 ·rw[zH (λz=>by rw[z,(I.h0 _ ht).2]at q;cases q)];exact I.rs.ext.s1 c o q
 ·have np:vS x.2=cL:=OA.mp hn x hx
  exact⟨(xo hk hl).mpr (I.sl x hx).1,by rw[xU (λz=>by rw[z]at np;cases np)];exact(I.sl x hx).2⟩
 ·have:=y.n3.cont pl o
  rw[z,Y]at this;cases this
 ·have o:=(xo hk hl).mp o
  by_cases e:pl = .row k m
  ·rw[e,yE];exact⟨ap,hE⟩
  ·rw[xU e];exact I.h0 pl o
theorem Wy{j k m:Nat}{bx e:CO D}(Y:(j,Pl.row k m)∈al)(h:PS X st (XQ (tV X.K e)<|Gp (wC j) (tV X.K bx) nC)) :
 PS X st (tY X.K al<|vn j bx e k m):=xi h λD σ H hZ=>by
 obtain⟨E0,E,H0,γ,Z,ad,r0,y,O,a6⟩:=hZ;obtain⟨R,hk,O⟩:=zb O;obtain⟨row,hm,O⟩:=zb O;obtain⟨v,e1,O⟩:=zb O;obtain⟨dv,e2,e3⟩:=zb e1;obtain⟨n,e4,O⟩:=zb O;obtain⟨dn,e5,e6⟩:=zb e4;obtain⟨l,e7,O⟩:=zv O;subst O;rw[jK e3]at e2;rw[jK e6]at e5;obtain⟨G0,s0,rc⟩:=y.view Y;rw[show Dv Z (.row k m)=Bq row by simp only[Dv,jv hk,jv hm]]at rc;refine⟨G0,_,_,rc,e2,λu H1 G1 x1 rp=>?_⟩;have y1:=y.step<|Ext.keep y.rs.rc.sub x1.s1;refine⟨_,(y1.sl _ Y).2,H0,γ,_,y1.rs.rc,e5,λw H2 ac x2 r2=>?_⟩;have I:=y1.step x2;have ho:kF Z (.row k m):=(y.sl _ Y).1;have hl:(R.set m<|row.set l v).length=R.length:=Rj;refine⟨_,qz Z ad<|.row k m,n,l,rfl,jI r2,I.n3.cont _ ho,?_,?_⟩
 ·rw[show(qz Z ad<|.row k m).length=row.length by simp only[qz,jv hk,jv hm,NV]];exact Xl e7
 ·have ec:(qz Z ad<|.row k m).set l u=(row.set l v).map V.int:=by
   rw[show qz Z ad (.row k m)=row.map V.int by simp only[qz,jv hk,jv hm],show u=V.int v from rp,List.map_set]
  rw[ec];refine a6 σ _ ac ad ⟨I.rs.swap I.pn (λc o q=>?_)<|λc o q=>?_,I.pn,λx hx=>⟨(xo hk hl).mpr (I.sl x hx).1,(I.sl x hx).2⟩,I.n3.J? hk hm,λpl o=>I.h0 pl<|(xo hk hl).mp o⟩ ⟨by simp,λpl np o=>rfl⟩
  ·rw[zH (λz=>by rw[z,(I.h0 _ ho).1]at q;cases q)];exact I.rs.rc.sub c o q
  ·rw[zH (λz=>by rw[z,(I.h0 _ ho).2]at q;cases q)];exact I.rs.ext.s1 c o q
theorem mr{i j k:Nat}{x y:Str}{a8 a2 ab:kr}{body:List m5}{F:Nat->YF}(hp:G9 (gv X.prog X.w) X.A X.env X.xe)(hc:X.calm=cL)(hi:(i,Pl.tab k)∈al)(hx:PE X (.Name x a2) (wC i))(hg:PG X (.Name y a8) (ye j))
 (hb : ∀m,n5 X body<|tY X.K ((j,.row k m)::al)<|F m) (hf : ∀z,zl (.Name x a2) X.env z=pure z:=by intro _;rfl) :
 PS X (.For (.Name y a8) (.Name x a2) body [] ab) (tY X.K al<|vo (al.map (·.1)) j F k):=
 xi (gf hp hc (gp hx) hg (tb:=λD σ H=>∃m,tY X.K ((j,.row k m)::al) (F m) D σ H) (λpins s σ H D I ⟨m,h⟩=>hb m pins s σ H D I h) hf) λD σ H hZ=>by
  obtain⟨E0,E,H0,γ,Z,ad,r,y,Y,am⟩:=hZ;unfold vo at Y;split at Y
  ·cases Y
  ·next hj=>
   obtain⟨R,hk,Y⟩:=zb Y;have ht:kF Z (.tab k):=(NC.mp hk).1;refine⟨_,(y.sl _ hi).2,_,.L,rfl,⟨_,lK.of<|y.n3.cont _ ht⟩,?_⟩;refine⟨λt n i9 H'=>n=R.length - t/\t<=R.length/\∃eg γ' Z' m9,Y3 X.K al E0 E eg H' i9 γ' Z' m9/\Kp Z ad Z' m9/\(Z'[k]?).map RU=cI R.length/\ZH j F k R.length (R.length - t) γ' Z'=cI r,
    ⟨_,rfl,Pf _,H0,γ,Z,ad,y,Kp.refl,by rw[hk];rfl,Y⟩,?_⟩
   rintro t n i9 H' ⟨rfl,bd,eg,γ',Z',m9,y',kp,ap,O⟩;obtain⟨R',a1,a5⟩:=zv ap;have ar:kF Z' (.tab k):=kp.ok rfl ht;have a9:=y'.n3.cont _ ar;rw[kp.adr (.tab k) rfl ht]at a9;have hq:lK X.K H' (ad<|.tab k) (qz Z' m9<|.tab k):=lK.of a9;have be:(qz Z' m9<|.tab k).length=R.length:=by rw[JE a1,a5]
   by_cases a7:t<R.length
   ·have hg:(qz Z' m9<|.tab k)[t]? = cI (.ref<|m9<|.row k t):=Wd a1 (by rw[a5];exact a7)
    refine .inr ⟨⟨_,_,hq,hg⟩,λi9 H'=>t+1<=R.length/\∃eg γ' Z' m9,Y3 X.K al E0 E eg H' i9 γ' Z' m9/\Kp Z ad Z' m9/\(Z'[k]?).map RU=cI R.length/\ZH j F k R.length (R.length - (t+1)) γ' Z'=cI r,λDR H2 q=>⟨R.length - (t+1),by omega,rfl,q.1,q.2⟩,λv H2 yy=>?_⟩;obtain⟨e1,e2⟩:H2=H'/\_:=yy;have e2:=e2 _ hq;rw[hg]at e2;cases e2;subst e1;rw[show R.length - t=R.length - (t+1)+1 by omega]at O;simp only[ZH]at O;split at O
    ·cases O
    ·next bi=>
     obtain⟨s,eF,O⟩:=zb O;split at O
     ·next ax=>
      rw[show R.length - (R.length - (t+1)+1)=t by omega]at eF;have o:kF Z' (.row k t):=⟨(NC.mp a1).1,by rw[jv a1,a5];exact a7⟩;exact⟨t,E0,E,eg,_,Z',m9,s,y'.alias o hj ⋯,eF,λC4 H3 b0 b9 y3 k3=>⟨a7,b0,_,_,b9,y3.weak λx hx=>NN _ hx,kp.trans k3,ax,O⟩⟩
     ·cases O
   ·have e:t=R.length:=by omega
    subst e;rw[Nat.sub_self]at O;cases O;exact .inl ⟨⟨_,hq,by omega⟩,am i9 H' eg m9 y' kp⟩
end
open Classical in
def QA(H:Hp)(Z:TT)(ad:Pl->d8):Hp:=λc=>if ∃pl,kF Z pl/\ad pl=c then cR else H c
section
variable{H:Hp}{Z:TT}{ad:Pl->d8}
theorem Ak{pl:Pl}(h:kF Z pl):QA H Z ad (ad pl)=cR:=by unfold QA;rw[DZ ⟨pl,h,rfl⟩]
theorem oM:js (QA H Z ad) H:=λc o q=>by
 unfold QA at q;split at q
 ·cases q
 ·exact q
theorem Aj{c:d8}{o:HO}(h:H c=cI o)(hn : ∀pl,kF Z pl->ad pl≠c):QA H Z ad c=cI o:=by
 unfold QA;rw[DJ]
 ·exact h
 ·rintro⟨pl,h1,h2⟩;exact hn pl h1 h2
end
def _p(K:Nr)(n1 n2:Nat)(F:List D->List D->TT->Option TT):Sp:=λvs H Q _=>∃H0 ds es us z Z Z' ad,vs=us++V.ref (ad .out)::z/\js H0 H/\f6 K H0 ds us/\f6 K H0 es z/\ds.length=n1/\es.length=n2/\N3 H Z ad/\(∀pl,kF Z pl->H0 (ad pl)=cR)/\F ds es Z=cI Z'/\
 ∀H' eg m9,Ext H0 (QA H Z ad) eg H'->N3 H' Z' m9->(∀pl,kF Z' pl->eg (m9 pl)=cR/\QA H Z ad (m9 pl)=cR)->Kp Z ad Z' m9->Q .i5 H'
structure O7(P:m4)(w:l0)(K:Nr)(mg:DX)(base:je)(k:Nat)(x:Str)(n1 n2:Nat)(F:List D->List D->TT->Option TT):Prop where
 ex : ∃(f:d8) (fd:u6) (ps:List Str),ps.length=n1+1+n2/\p5 P w K mg base t5 k f fd ps (_p K n1 n2 F)/\mg x=cI (.ref f)/\Pd K (.ref f)=cL/\Binds K fd ps []
theorem fj{N:List Str}{us z:List V}{a b:V}:(wD N (us++a::z)).set us.length (cI b)=wD N (us++b::z):=by unfold L2.wD;simp only[OM,NY,Sd,List.cons_append,Ol,Od];rw[List.set_append_right _ _ ⋯];simp
theorem nS(n:Nat)(ds:List D):(jt n ds).all KR=cL:=by
 refine OA.mpr λc I=>?_;unfold jt at I;rcases Sz.mp I with z | z
 ·obtain⟨d,_,rfl⟩:=Rf.mp z;rfl
 ·rw[(List.mem_replicate.mp z).2];rfl
section
variable{P:m4}{w:l0}{K:Nr}{mg:DX}{base:je}
theorem MT{x:Str}{st:m5}{N ps:List Str}{k n1 n2:Nat}{F:YF}(A:l8 K mg x st ps)(hd:Kx N ps st=cL)(a0:ps.length=n1+1+n2)
 (a3 : ∀X:Cx,X.prog=P->X.w=w->X.K=K->X.mg=mg->X.base=base->SX X (zU st) N N k->X.xe=(λ_ _=>False)->n5 X (jV st) (tY X.K [(n1,.out)] F)) :
 O7 P w K mg base (k+1) x n1 n2 (Hx N.length n1 F):=by
 obtain⟨f,fd,Fu,hb,hm⟩:=A.ex;have S:=k5 hd;refine⟨f,fd,ps,a0,?_,hm,Fu.kp,.all hb⟩;refine Fu.ok S (λvs H Q E h=>?_)<|λm7 A outer s H vs Q E hr h=>⟨_,a3 _ rfl rfl rfl rfl rfl ⟨rfl,rfl,S.nd,rfl,hr,λ_ _=> .inl rfl⟩ rfl,?_⟩
 ·obtain⟨H0,ds,es,us,ws,Z,Z',ad,e,_,z,r2,I,l2,_⟩:=h
  rw[e,Ol,Od,z.length,r2.length,I,l2,a0];omega
 obtain⟨H0,ds,es,us,ws,Z,Z',ad,e,s0,z,r2,I,l2,n3,h0,ef,q⟩:=h;subst e;obtain⟨r,e1,e2⟩:=zv ef;subst e2;have a8:ps.length<=N.length:=by have:=congrArg RU S.pre;rw[Rr]at this;omega
 have a6:(ds++D.i5::es).length<=N.length:=by rw[Ol,Od,I,l2];omega
 have O:=(XW s0 (z.append<|f6.cons (d:=D.i5) (x:=V.i5) (show V.i5 = .i5 from rfl) r2) a6).forget (i:=n1) (v:=cI (.ref<|ad .out));have Y:us.length=n1:=by rw[z.length,I]
 rw[<- Y,fj]at O;rw[Y]at O;have pn:=ZZ (nS N.length (ds++D.i5::es)) n1 (c:= .no) rfl;refine⟨H0,QA H Z ad,H0,_,Z,ad,r,⟨RS.pl O.rc ⟨js.refl _,oM,s0,λ_ h _=>h⟩ pn,pn,λy hy=>?_,n3,λpl o=>⟨h0 pl o,Ak o⟩⟩,e1,λi9 H' eg m9 y kp=>q H' eg m9 y.rs.ext y.n3 y.h0 kp⟩;rw[Pp.mp hy];refine⟨OR,?_⟩;show(wD N (us++V.ref (ad .out)::ws))[n1]? = _;unfold L2.wD;rw[<- Y,OM,NY,Sd,Dt ⋯];simp
end
def N6(K:Nr)(ga:CO (List D))(i:Nat)(gb:CO (List D)):TA:=λσ H Q=>∃H0 γ ds es v,RC K H0 H σ γ/\ga γ=cI ds/\gb γ=cI es/\σ[i]? = cI (cI v)/\
 ∀us z H' eg,Ext H0 H eg H'->f6 K eg ds us->f6 K eg es z->Q (us++v::z) H'
section
variable{X:Cx}{sc:mu}{N L:List Str}{k j n1 n2 i:Nat}{e:f7}{es:List f7}{f:CO D}{ga gb:CO (List D)}{pos p:kr}{x:Str}{F:List D->List D->TT->Option TT}{al:List (Nat×Pl)}
theorem uQ(z:PE X e (wC i))(I:DD X es gb)(hs:i6 (e::es) X.env=(d7,f9 e X.env)::i6 es X.env:=by rfl):PA X (e::es) (N6 X.K zG i gb):=
 oh (zP z I hs) λσ H Q O=>by obtain⟨H0,γ,ds,fs,v,rc,e1,e2,Y,q⟩:=O;cases e1;exact⟨v,Y,H0,γ,fs,rc,e2,λws H' eg x r=>q [] ws H' eg x f6.nil r⟩
theorem au(ha:PV X e f)(I:PA X es (N6 X.K ga i gb))(hs:i6 (e::es) X.env=(d7,f9 e X.env)::i6 es X.env:=by rfl):PA X (e::es) (N6 X.K (zc f ga) i gb):=
 oh (zP ha I hs) λσ H Q O=>by obtain⟨H0,γ,ds,fs,v,rc,e1,e2,Y,q⟩:=O;obtain⟨d,e4,e1⟩:=zb e1;obtain⟨dr,e5,e1⟩:=zv e1;subst e1;exact⟨H0,γ,d,rc,e4,λu H1 a3 x1 r1=>⟨a3,γ,dr,fs,v,rc.ext x1,e5,e2,Y,λus ws H2 a6 z r2 r3=>q (u::us) ws H2 a6 (x1.trans z) (f6.cons (r1.mono z.s0) r2) r3⟩⟩
theorem By(hf:O7 X.prog X.w X.K X.mg X.base j x n1 n2 F)(hj:j<=k)(h:SX X sc N L k)(c:yZ sc x=cL)(hi:(i,Pl.out)∈al)(hn:(al.all λx=>vS x.2)=cL)(ha:PA X (e::es) (N6 X.K ga i gb))
 (l1 : ∀γ ds,ga γ=cI ds->ds.length=n1) (l2 : ∀γ ds,gb γ=cI ds->ds.length=n2) {C1:kr}
 (he:i6 (e::es) X.env=(d7,f9 e X.env)::i6 es X.env:=by rfl) (a7:(r9 pos<|starEach es X.env).any (·.1)=d7:=by rfl)
 (hs:A8 (.Call (.Name x p) (e::es) [] pos) cR C1.line X.env=pure d7:=by rfl) :
 PS X (.Expr (.Call (.Name x p) (e::es) [] pos) C1) (tY X.K al<|mB F ga gb):=by
 obtain⟨fa,fd,ps,am,G,hm,hk,hb⟩:=hf.ex;refine xi (wL (vy (E:=E0) G (h.room.mono hj) (h.gl c).1 hm hk hb .nil J4 ha (h.gl c).2.2 he a7) hs) λD σ H hZ=>?_;obtain⟨E0,E,H0,γ,Z,ad,r,y,O,a9⟩:=hZ;obtain⟨ds,e1,O⟩:=zb O;obtain⟨fs,e2,O⟩:=zb O;obtain⟨Z',e3,O⟩:=zv O;subst O;refine⟨H0,γ,ds,fs,_,y.rs.rc,e1,e2,(y.sl _ hi).2,λus ws H1 ab x1 r1 r2=>?_⟩;have I:=y.step x1;show _p X.K n1 n2 F ((us++V.ref (ad .out)::ws)++[]) H1 _ _;rw[PH];refine⟨ab,ds,fs,us,ws,Z,Z',ad,rfl,I.rs.rc.sub,r1,r2,l1 γ ds e1,l2 γ fs e2,I.n3,λpl o=>(I.h0 pl o).1,e3,λH' eg m9 Y n3 h0 kp=>a9 σ H' eg m9 ?_ kp⟩;have sE : ∀c o,E c=cI o->QA H1 Z ad c=cI o:=λc o q=>Aj (I.rs.ext.s1 c o q) λpl ho z=>by rw[<- z,(I.h0 pl ho).2]at q;cases q
 refine⟨RS.pl (RC.pl Y.sub I.rs.rc.len (λi d g=>?_) I.pn) ⟨I.rs.ext.s0.trans Y.s0,λc o q=>Y.s1 c o<|sE c o q,Y.sub,λc q1 q2=>?_⟩ I.pn,I.pn,λx hx=>?_,n3,λpl o=>⟨(h0 pl o).1,?_⟩⟩
 ·obtain⟨v,g1,g2⟩:=I.rs.rc.val i d g
  exact⟨v,g1,g2.mono Y.s0⟩
 ·refine Y.new c (I.rs.ext.new c q1 q2) ?_
  cases q:E c with
  | none=>exact absurd q q2
  | some o=>rw[sE c o q];simp
 ·have np:vS x.2=cL:=OA.mp hn x hx
  obtain⟨o,g⟩:=I.sl x hx;exact⟨kp.ok np o,by rw[kp.adr _ np o];exact g⟩
 ·cases q:E (m9 pl)with
  | none=>rfl
  | some o'=>have:=(h0 pl o).2;rw[sE _ o' q]at this;cases this
end
def Mj(K:Nr)(E0 E:Hp)(Q:VK)(d:D)(Z:TT):Prop:=∀t v ad H' eg,Ext E0 E eg H'->Rep K eg d v->H' t=cI (.tup [v,.ref (ad .out)])->N3 H' Z ad->(∀pl,kF Z pl->eg (ad pl)=cR/\E (ad pl)=cR)->Q (.ref t) H'
def tL(K:Nr)(G:LF):TS:=λD σ H=>∃E0 E H0 γ r,RS K E0 E H0 H σ γ/\G γ=cI r/\Mj K E0 E D.rt r.1 r.2
def e_(K:Nr)(n:Nat)(F:List D->Option (D×TT)):Sp:=λvs H Q _=>∃H0 ds r,js H0 H/\f6 K H0 ds vs/\ds.length=n/\F ds=cI r/\Mj K H0 H Q r.1 r.2
structure O6(P:m4)(w:l0)(K:Nr)(mg:DX)(base:je)(k:Nat)(x:Str)(n:Nat)(F:List D->Option (D×TT)):Prop where
 ex : ∃(f:d8) (fd:u6) (ps:List Str),ps.length=n/\p5 P w K mg base t5 k f fd ps (e_ K ps.length F)/\mg x=cI (.ref f)/\Pd K (.ref f)=cL/\Binds K fd ps []
section
variable{P:m4}{w:l0}{K:Nr}{mg:DX}{base:je}
theorem MU{x:Str}{st:m5}{N ps:List Str}{k:Nat}{G:LF}(A:l8 K mg x st ps)(hd:Kx N ps st=cL)
 (Y : ∀X:Cx,X.prog=P->X.w=w->X.K=K->X.mg=mg->X.base=base->SX X (zU st) N N k->X.xe=(λ_ _=>False)->n5 X (jV st) (tL X.K G)) :
 O6 P w K mg base (k+1) x ps.length (ug N.length G):=by
 obtain⟨f,fd,I,hb,hm⟩:=A.ex;have S:=k5 hd;refine⟨f,fd,ps,rfl,?_,hm,I.kp,.all hb⟩;refine I.ok S (λvs H Q E h=>?_)<|λm7 A outer s H vs Q E hr h=>⟨_,Y _ rfl rfl rfl rfl rfl ⟨rfl,rfl,S.nd,rfl,hr,λ_ _=> .inl rfl⟩ rfl,?_⟩
 ·obtain⟨H0,ds,r,_,z,O,_⟩:=h
  rw[z.length,O]
 obtain⟨H0,ds,r,s0,z,O,ef,q⟩:=h;have a2:ps.length<=N.length:=by have:=congrArg RU S.pre;rw[Rr]at this;omega
 exact⟨H0,H,H0,_,r,XW s0 z ⋯,ef,q⟩
end
section
variable{X:Cx}{sc:mu}{N L:List Str}{k j i n w:Nat}{st:m5}{xD:List m5}{e e2:f7}{es:List f7}{f:CO D}{g:CO (List D)}{pos p:kr}{x:Str}{al:List (Nat×Pl)}
theorem EC{F:CO Fl}{G:LF}(h1:tr X st F)(h2:n5 X xD (tL X.K G)):n5 X (st::xD) (tL X.K<|HW F G):=by
 intro pins s σ H D I Y;refine(xK h1 h2) pins s σ H D I ?_;obtain⟨E0,E,H0,γ,r,rs,z,a0⟩:=Y;obtain⟨O,e1,z⟩:=zb z;refine⟨E0,E,H0,γ,O,rs,e1,?_⟩;cases O with
 | next γ'=>exact λi9 H' eg a1=>⟨E0,E,eg,γ',r,a1,z,a0⟩
 | brk γ'=>cases z
 | cont γ'=>cases z
 | ret r=>cases z
theorem az{E H:Hp}{c:d8}(s:js E H)(h:H c=cR):E c=cR:=by
 cases q:E c with
 | none=>rfl
 | some o=>rw[s c o q]at h;cases h
theorem HV{a1 a2:m5}{F:YF}{kx:Nat}{sX:kr}(h1:PS X a1 (XQ (Lm rj)<|ye i))(h2:PS X a2 (tY X.K [(i,.out)] F))(he:PV X e f)(hv:PE X e2 (wC i))
 (hs:i6 [e,e2] X.env=(d7,f9 e X.env)::i6 [e2] X.env:=by rfl) (a6:i6 [e2] X.env=(d7,f9 e2 X.env)::i6 [] X.env:=by rfl) :
 n5 X [a1,a2,.Return (cI (.Tuple [e,e2] kx sX)) pos] (tL X.K<|Bn i F f):=by
 intro pins s σ H D I hZ;refine(xK h1<|xK h2<|vw<|ZY<|rQ<|zP he (zP hv jJ a6) hs) pins s σ H D I ?_;obtain⟨E0,E,H0,γ,r,rs,z,a8⟩:=hZ;unfold Bn at z;split at z
 ·next hc=>
  obtain⟨aa,ab⟩:=hc;obtain⟨s2,e1,z⟩:=zb z;obtain⟨d,e3,z⟩:=zv z;subst z;refine⟨Pf _,λq Y=>?_⟩;have ae:H0 q=cR:=jq rs.rc.sub Y;have hE:E q=cR:=az rs.ext.s1 Y;have r1:RS X.K E0 E H0 (upd H q<|.lst []) (σ.set i<|some (.ref q)) (γ.set i .no):=(rs.forget (v:=cI (.ref q))).step (Ext.hide rs.rc.sub Y _);have a0 : ∀pl,kF ([]:TT) pl->pl = .out:=λpl o=>by
   cases pl with
   | out=>rfl
   | tab k=>exact absurd (show k<0 from o)<|Ob _
   | row k m=>exact absurd (show k<0/\_ from o).1 (Ob _)
  refine⟨E0,E,H0,γ.set i .no,[],λ_=>q,s2,⟨r1,aa,λy hy=>?_,⟨λpl o=>?_,λa b o1 o2 _=>by rw[a0 a o1,a0 b o2]⟩,λpl o=>⟨ae,hE⟩⟩,e1,λi9 H' eg m9 y kp=>?_⟩
  ·rw[Pp.mp hy]
   exact⟨OR,Oz<|by rw[rs.rc.len];exact ab⟩
  ·rw[a0 pl o,zC];rfl
  ·refine⟨eg,_,d,y.rs.rc,e3,λv H2 ar x2 r2=>⟨_,(y.sl _<|Pp.mpr rfl).2,(show 2<=kv by decide),λt ht=>?_⟩⟩
   have O:=y.step x2;have x3:=Ext.hide O.rs.rc.sub ht<|.tup [v,.ref (m9 .out)];exact a8 t v m9 _ ar (O.rs.ext.trans x3) r2 zC (O.n3.step x3.s1) O.h0
 ·cases z
def N9(K:Nr)(i:Nat)(F:YF)(G:CO Fl):TS:=λD σ H=>∃E0 E H0 γ Z ad r z,Y3 K [(i,.out)] E0 E H0 H σ γ Z ad/\F γ Z=cI r/\G (r.1.set i<|.val<|AI r.2)=cI z/\Sat K E0 E D z
theorem Bw{G:CO Fl}(h:bB X xD G):n5 X xD (N9 X.K i FO G):=by intro pins s σ H D I z;refine h pins s σ H D I ?_;obtain⟨E0,E,H0,γ,Z,ad,r,O,y,Y,eG,a1⟩:=z;cases Y;obtain⟨G0,rs⟩:=y.shown<|Pp.mpr rfl;exact⟨E0,E,G0,_,O,rs,eG,a1⟩
theorem sM{F O:YF}{G:CO Fl}(h1:PS X st (tY X.K [(i,.out)] F))(h2:n5 X xD (N9 X.K i O G)):n5 X (st::xD) (N9 X.K i (JS F O) G):=by intro pins s σ H D I Y;refine(xK h1 h2) pins s σ H D I ?_;obtain⟨E0,E,H0,γ,Z,ad,r,fl,y,z,eG,a2⟩:=Y;obtain⟨r1,e1,z⟩:=zb z;exact⟨E0,E,H0,γ,Z,ad,r1,y,e1,λi9 H' eg m9 y' _=>⟨E0,E,eg,_,_,m9,r,fl,y',z,eG,a2⟩⟩
theorem fZ(w i:Nat){F:YF}{G:CO Fl}{Lf:List D->Option (D×TT)}{tg:f7}(hf:O6 X.prog X.w X.K X.mg X.base j x n Lf)(hj:j<=k)(h:SX X sc N L k)(c:yZ sc x=cL)(ha:D0 X (e::es) n g)(hg:PG X tg (xk X.K<|.tp [w,i]))
 (h2:n5 X xD (N9 X.K i F G)) {C1:kr}
 (he:i6 (e::es) X.env=(d7,f9 e X.env)::i6 es X.env:=by rfl) (a6:(r9 pos<|starEach es X.env).any (·.1)=d7:=by rfl)
 (hs:N2 [tg] (.Call (.Name x p) (e::es) [] pos) C1.line X.env=pure d7:=by rfl) (hw:h_ [tg] (.Call (.Name x p) (e::es) [] pos) X.env=pure cR:=by rfl)
 (hh:(DE [tg] X.env).map (·.2)=[Du tg X.env]:=by rfl) :
 bB X (.Assign [tg] (.Call (.Name x p) (e::es) [] pos) C1::xD) (zS (cg w i Lf g F) G):=by
 obtain⟨fa,fd,ps,a8,Gf,hm,hk,hb⟩:=hf.ex;subst a8;intro pins s σ H D I hZ;refine(xK (Xa (vy (E:=E0) Gf (h.room.mono hj) (h.gl c).1 hm hk hb .nil J4 ha.1 (h.gl c).2.2 he a6) hg hs hw hh) h2) pins s σ H D I ?_;obtain⟨E0,E,H0,γ,fl,rs,Y,ac⟩:=hZ;obtain⟨f1,O,Y⟩:=zb Y;unfold cg at O;split at O
 ·next hc=>
  obtain⟨ae,ag,bi⟩:=hc;obtain⟨ds,e1,O⟩:=zb O;obtain⟨r,e2,O⟩:=zb O;obtain⟨s2,e3,O⟩:=zv O;subst O;refine⟨H0,γ,ds,rs.rc,e1,λvs H1 am x1 r1=>⟨am,ds,r,x1.sub,by simpa using r1,ha.2 γ ds e1,e2,?_⟩⟩;intro t v ad H2 ap x2 rv ht n3 h0;refine⟨t,_,rfl,k0.of ht,rfl,v,_,rfl,_,_,rfl,rfl,?_⟩;have b0:=(rs.step x1).step x2;have b9:js E H1:=(rs.step x1).ext.s1;have ba:=(b0.Dm (i:=w) rv).forget (i:=i) (v:=cI (.ref<|ad .out));have pn:((γ.set w<|.val r.1).set i .no).all KR=cL:=by
   refine OA.mpr λc hc=>?_;obtain⟨m,hm⟩:=SR hc;rcases zN hm with⟨_,z,_⟩ | ⟨bb,z⟩
   ·rw[z];rfl
   ·rcases zN z with⟨_,z,_⟩ | ⟨bd,z⟩
    ·rw[z];rfl
    ·refine OA.mp ae c (Og (i:=m) ?_)
     rw[NH (OQ bb),NH (OQ bd)];exact z
  refine⟨E0,E,ap,_,r.2,ad,s2,fl,⟨ba,pn,λy hy=>?_,n3,λpl o=>⟨(h0 pl o).1,az b9 (h0 pl o).2⟩⟩,e3,Y,ac⟩;rw[Pp.mp hy];exact⟨OR,Oz<|by simp[rs.rc.len];exact ag⟩
 ·cases O
theorem XX : ∀{rows:List (List D)} {R:List (List Int)} {m:Nat},fO rows=cI R->rows.length=R.length/\∀row,rows[m]? = cI row->∃r,R[m]? = cI r/\vY row=cI r
 | [],R,m,h=>by cases h;exact⟨rfl,λrow e=>by simp at e⟩
 | row::rows,R,m,h=>by
  obtain⟨a,e1,h⟩:=zb h;obtain⟨b,e2,h⟩:=zv h;subst h;refine⟨by simp[(XX (m:=0) e2).1],λz e=>?_⟩;cases m with
  | zero=>cases e;exact⟨a,rfl,e1⟩
  | succ m=>exact(XX (m:=m) e2).2 z (by simpa using e)
theorem aG : ∀γ ds,zG γ=cI ds->ds.length=0:=λγ ds h=>by cases h;rfl
theorem kN{n:Nat}{f:CO D}{g:CO (List D)}(z : ∀γ ds,g γ=cI ds->ds.length=n) : ∀γ ds,zc f g γ=cI ds->ds.length=n+1:=λγ ds h=>by obtain⟨d,_,h⟩:=zb h;obtain⟨I,e,h⟩:=zv h;subst h;rw[Od,z γ I e]
theorem mx{f:CO (List (List D))}(hi:(i,Pl.out)∈al)(hn:(al.all λx=>vS x.2)=cL)(h:PE X e (k_ X.K "list" Vz (wC i) (Zl (tN X.K f) rj)))(hs:A8 e cR pos.line X.env=pure d7:=by rfl) :
 PS X (.Expr e pos) (tY X.K al<|Bz f):=xi (wL h hs) λD σ H hZ=>by
 obtain⟨E0,E,H0,γ,Z,ad,r,y,O,a6⟩:=hZ;obtain⟨R,e1,O⟩:=zb O;obtain⟨rows,e2,e3⟩:=zb e1;split at O
 ·next hl=>
  cases O;refine⟨_,(y.sl _ hi).2,.inl ⟨rfl,_,lK.of<|y.n3.cont .out OR⟩,H0,γ,rows,y.rs.rc,e2,λa bs H1 a8 x1 Y wq=>?_⟩;have I:=y.step x1;refine⟨_,_,_,rfl,rfl,I.n3.cont .out OR,?_,?_⟩
  ·rw[show(qz Z ad .out).length=Z.length by simp[qz]]
   exact NX hl<|yc<|NJ _
  ·have a9 : ∀pl,kF Z pl->ad pl∉a::bs:=λpl o hm=>by
    have:=Y _ hm;rw[y.n3.cont pl o]at this;cases this
   have aa:bs.length=R.length:=by rw[wq.len,(XX (m:=0) e3).1]
   have n3:=I.n3.app (R:=R) wq.ha (λm b r hb hr=>by
    have hm:m<rows.length:=by rw[<- wq.len];exact(NC.mp hb).1
    obtain⟨r',g1,g2⟩:=(XX (m:=m) e3).2 _ (Nw hm);rw[hr]at g1;cases g1;obtain⟨_,xs,q1,q2⟩:=wq.row m b _ hb<|Nw hm;rw[q1,iy g2 q2]) aa wq.nd a9
   have kp:Kp Z ad (Z++[R]) (sF ad Z.length a bs):=⟨by simp,λpl np o=>wm o⟩;refine a6 σ _ a8 _ ⟨I.rs.swap I.pn (λc o q=>?_)<|λc o q=>?_,I.pn,λx hx=>?_,n3,λpl o=>?_⟩ kp
   ·rw[zH (λz=>by rw[z,(I.h0 .out OR).1]at q;cases q)];exact I.rs.rc.sub c o q
   ·rw[zH (λz=>by rw[z,(I.h0 .out OR).2]at q;cases q)];exact I.rs.ext.s1 c o q
   ·have np:vS x.2=cL:=OA.mp hn x hx
    obtain⟨o,g⟩:=I.sl x hx;exact⟨kp.ok np o,by rw[kp.adr _ np o];exact g⟩
   ·rcases aw o with o | e | ⟨m,e,hm⟩
    ·rw[wm o];exact I.h0 pl o
    ·subst e
     rw[show sF ad Z.length a bs (.tab Z.length)=a from DZ rfl];exact⟨wq.a0,az y.rs.ext.s1<|Y a NL⟩
    ·subst e
     have a3:bs[m]? = cI (bs[m]'⋯):=Nw ⋯;have a4:bs[m]'⋯∈a::bs:=NN _<|Og a3;rw[show sF ad Z.length a bs (.row Z.length m)=bs[m]'⋯by show(if Z.length=Z.length then _ else _)=_;rw[DZ rfl];exact jv a3];exact⟨(wq.at a4).1,az y.rs.ext.s1<|Y _ a4⟩
 ·cases O
theorem nQ{scope:mu}{own:List Str}{fr:List (Str×Nat)}{elt tg iter:f7}{src:CO (List D)}{T:Tg}{f:CO (List D)}
 (z:X.calm=cL) (ok:Br X scope fr) (I : ∀i∈T.idx,i<own.length) (hi:B6 X tg iter src) (O : ∀fp s2 H2,PG (ju X scope (own++fr.map (·.1)) fp s2 H2) tg<|xk X.K T)
 (Y : ∀fp s2 H2,PO (ju X scope (own++fr.map (·.1)) fp s2 H2) elt f) (hs : ∀x,zl iter X.env x=pure x:=by intro _;rfl) :
 PE X (.ListComp elt [⟨tg,iter,[],0⟩] scope pos) (tN X.K<|WW src T own.length (fr.map (·.2)) f):=
 j4 (Kb z ok hi O (λ_ _ _=>X8) Y hs) (dC I λσ H Q hZ=>by obtain⟨H0,γ,b,rc,ef,q⟩:=hZ;cases ef;exact q H H0<|Ext.refl rc.sub)
theorem GP{a:f7}{f:CO (List<|List D)}(i:Nat){apos cpos np:kr}(hi:(i,Pl.out)∈al)(hn:(al.all λx=>vS x.2)=cL)(h:SX X sc N L k)(c:JZ sc N i x=cL)(ha:PE X a (tN X.K f))(hs:i6 [a] X.env=[(d7,f9 a X.env)]:=by rfl)
 (z:DF (.Name x np) "append" X.env (f9 (.Name x np) X.env)=f9 (.Name x np) X.env:=by rfl)
 (I:((r9 cpos<|starEach [a] X.env).all (λx=> !x.1) && (D4 cpos<|keywordEach [] X.env).all (λx=>x.1.isSome)
   && decide ([a].length+([]:List A9).length+(if ([]:List A9).isEmpty then 0 else 1)<30))=cL:=by rfl)
 (O:(apos.endLine==cpos.line)=cL:=by rfl) (Y:A8 (.Call (.Attribute (.Name x np) "append" apos) [a] [] cpos) cR pos.line X.env=pure d7:=by rfl) :
 PS X (.Expr (.Call (.Attribute (.Name x np) "append" apos) [a] [] cpos) pos) (tY X.K al (Bz f)):=
 mx hi hn (cJ RH PySem.F.slot_list_append PySem.F.type_list_append YH (h.var c) (zP ha jJ hs) z I O hs rfl) Y
theorem Bx{I:CO D}{F:Nat->YF}{y:Str}{z:f7}{np O:kr}(i j:Nat)(hi:(i,Pl.out)∈al)(h:SX X sc N L k)(c:JZ sc N i x=cL)(ct:yx sc N L j y=cL)(hb:PV X z I)(h2 : ∀k,n5 X xD<|tY X.K ((j,.tab k)::al)<|F k){pos':kr}
 (hx:KI z:=by intro _ _;rfl) (hs:A8 (.Subscript (.Name x np) z O) (cI (.Name y pos')) pos.line X.env=pure d7:=by rfl) :
 n5 X (.Assign [.Name y pos'] (.Subscript (.Name x np) z O) pos::xD) (tY X.K al<|Bj (al.map (·.1)) j I F):=
 GO hi (h.set j ct (uM Z_ (h.var c) hb hx) hs) h2
theorem Zw{tv:TE}{z:f7}{np I:kr}{Y:CO D}(i:Nat)(h:SX X sc N L k)(c:JZ sc N i x=cL)(he:PE X e tv)(hb:PV X z Y)
 (ha : ∀v,Du (.Subscript (.Name x np) z I) X.env v=(do
   let ov <- Dk [v] (f9 (.Name x np) X.env);let O <- Dk [v,ov] (f9 z X.env)
   GD I
   Dk [v,ov,O] (_n ov O v)
   release [v,ov,O] []):=by intro _;rfl)
 (hs:N2 [.Subscript (.Name x np) z I] e pos.line X.env=pure d7:=by rfl) (hw:h_ [.Subscript (.Name x np) z I] e X.env=pure cR:=by rfl)
 (h1:(DE [.Subscript (.Name x np) z I] X.env).map (·.2)=[Du (.Subscript (.Name x np) z I) X.env]:=by rfl):PS X (.Assign [.Subscript (.Name x np) z I] e pos) (XQ tv<|Gp (wC i) (tV X.K Y) nC):=
 Xa he (CJ (h.var c) hb nc ha) hs hw h1
end
section
variable{X:Cx}{sc:mu}{N L:List Str}{k j n i:Nat}{a b c e:f7}{es:List f7}{f:CO D}{g:CO (List D)}{p pos:kr}{x:Str}{st II st4:m5}{xD:List m5}{F:List D->Option Res}
open Classical in
def E3(H:Hp)(p:d8):Hp:=λc=>if c=p then cR else H c
theorem M1{H:Hp}{p c:d8}(h:c≠p):E3 H p c=H c:=DJ h
end
def Hv(fa ga fb gb:CO D):CO D:=λγ=>((fa γ).bind p7).bind λi=>(ga γ).bind λx=>((fb γ).bind p7).bind λj=>(gb γ).bind λy=>if i=j then cR else cI (.sh [.int i,.int j] [x,y])
mutual
def a_:D->Bool
 | .tup xs=>LR xs
 | .lst xs=>LR xs
 | .sh _ _=>d7
 | .n0 _ _=>d7
 | _=>cL
def LR:List D->Bool
 | []=>cL
 | x::xs=>a_ x && LR xs
end
theorem Ext.put{H0 H eg H':Hp}{p:d8}{o:HO}(x:Ext H0 H eg H')(z:H p=cR)(h0:eg p=cR):Ext H0 H (upd eg p o) (upd H' p o):=
 ⟨x.s0.trans<|zX h0 o,λb u q=>by rw[zH (λe=>by rw[e,z]at q;cases q)];exact x.s1 b u q,Yd x.sub,λa h1 h2=>by rw[zH (λe=>h2<|by rw[e];exact z)];exact x.new a h1 h2⟩
section
variable{X:Cx}{a b c e:f7}{fa ga fb gb:CO D}{pos:kr}
theorem Cu(h1:PV X a fa)(h2:PV X b ga)(h3:PV X c fb)(h4:PV X e gb):PV X (.Dict [cI a,cI c] [b,e] pos) (Hv fa ga fb gb):=
 j4 (uN (af h1 h2<|af h3 h4 uz) rfl rfl ⋯ ⋯) λσ H Q hZ=>by
  obtain⟨H0,γ,d,rc,I,q⟩:=hZ;obtain⟨i,e1,I⟩:=zb I;obtain⟨d1,e0,e1⟩:=zb e1;obtain⟨dx,e2,I⟩:=zb I;obtain⟨j,e3,I⟩:=zb I;obtain⟨d3,e4,e3⟩:=zb e3;obtain⟨dy,e5,I⟩:=zb I;by_cases a3:i=j
  ·rw[DZ a3]at I;cases I
  rw[DJ a3]at I;cases I;intro p hp;have Y:=Ext.hide rc.sub hp<|.dK [];refine⟨H0,γ,d1,rc.ext Y,e0,λv1 H1 b9 x1 r1=>⟨b9,γ,dx,(rc.ext Y).ext x1,e2,λv2 H2 ba x2 r2=>⟨ba,γ,d3,((rc.ext Y).ext x1).ext x2,e4,λv3 H3 bd x3 r3=>⟨bd,γ,dy,(((rc.ext Y).ext x1).ext x2).ext x3,e5,λv4 H4 O x4 r4=>?_⟩⟩⟩⟩;have xx:=x1.trans<|x2.trans<|x3.trans x4;rw[jK e1]at r1;rw[jK e3]at r3;have bg:H4 p=cI (.dK []):=xx.s1 _ _ zC;have bi:H0 p=cR:=jq rc.sub hp;have ac:O p=cR:=xx.new p bi (by rw[zC];simp);have xa:Ext H0 H O H4:=Y.trans xx;refine⟨bg,[(Pw i,v2),(Pw j,v4)],?_,by simp,?_⟩
  ·rw[show v1=V.int i from r1,show v3=V.int j from r3];rfl
  have bm : ¬((Pw i:Key)=Pw j):=λz=>a3<|Pw.inj z;have em:Jp [] [((Pw i:Key),v2),(Pw j,v4)]=[((Pw i:Key),v2),(Pw j,v4)]:=by simp[Jp,nF,bm]
  rw[em];have ae:js O (upd O p<|.dK [((Pw i:Key),v2),(Pw j,v4)]):=zX ac _;refine q (.ref p) _ _ (xa.put hp ac) (show ∃a xs,V.ref p = .ref a/\Ge (upd O p _) a [.int i,.int j] xs/\f6 X.K (upd O p _) [dx,dy] xs from⟨p,[v2,v4],rfl,⟨[Pw i,Pw j],rfl,rfl,zC⟩,?_⟩);exact f6.cons ((r2.mono<|x3.s0.trans x4.s0).mono ae)<|f6.cons (r4.mono ae) f6.nil
end
mutual
theorem Rep.less{K:Nr}{H:Hp}{p:d8}{φ:je->Prop}(I:H p=cI (.ext φ)) : ∀{d:D} {v:V},a_ d=cL->Rep K H d v->Rep K (E3 H p) d v
 | .i5,_,_,h=>h
 | .bl _,_,_,h=>h
 | .int _,_,_,h=>h
 | .str _,_,_,h=>h
 | .tup ds,v,n,h=>by
  obtain⟨a,xs,e1,h1,h2⟩:=(show ∃a xs,v = .ref a/\k0 K H a xs/\f6 K H ds xs from h);refine(show ∃a xs,v = .ref a/\k0 K (E3 H p) a xs/\f6 K (E3 H p) ds xs from⟨a,xs,e1,?_,f6.less I n h2⟩);have z : ∀{u:HO},(∀φ,u ≠ .ext φ)->H a=cI u->a≠p:=λO q e=>by rw[e,I]at q;exact O _ (Oj q).symm
  rcases h1 with(hq | ⟨o',hq⟩) | hq
  ·exact .inl (.inl<|by rw[M1 (z (λ_=>by simp) hq)];exact hq)
  ·exact .inl<|.inr ⟨o',by rw[M1 (z (λ_=>by simp) hq)];exact hq⟩
  ·exact .inr hq
 | .lst ds,v,n,h=>by
  obtain⟨a,xs,e1,h1,h2⟩:=(show ∃a xs,v = .ref a/\lK K H a xs/\f6 K H ds xs from h);refine(show ∃a xs,v = .ref a/\lK K (E3 H p) a xs/\f6 K (E3 H p) ds xs from⟨a,xs,e1,?_,f6.less I n h2⟩);have z : ∀{u:HO},(∀φ,u ≠ .ext φ)->H a=cI u->a≠p:=λO q e=>by rw[e,I]at q;exact O _ (Oj q).symm
  rcases h1 with(hq | ⟨o',hq⟩) | hq
  ·exact .inl (.inl<|by rw[M1 (z (λ_=>by simp) hq)];exact hq)
  ·exact .inl<|.inr ⟨o',by rw[M1 (z (λ_=>by simp) hq)];exact hq⟩
  ·exact .inr hq
 | .sh _ _,_,n,_=>nomatch n
 | .n0 _ _,_,n,_=>nomatch n
theorem f6.less{K:Nr}{H:Hp}{p:d8}{φ:je->Prop}(z:H p=cI (.ext φ)) : ∀{ds:List D} {xs:List V},LR ds=cL->f6 K H ds xs->f6 K (E3 H p) ds xs
 | [],_,_,h=>h
 | d::ds,xs,n,h=>by obtain⟨x,r,e1,h1,h2⟩:=(show ∃x r,xs=x::r/\Rep K H d x/\f6 K H ds r from h);have n:(a_ d && LR ds)=cL:=n;rw[NI]at n;exact(show ∃x r,xs=x::r/\Rep K (E3 H p) d x/\f6 K (E3 H p) ds r from⟨x,r,e1,Rep.less z n.1 h1,f6.less z n.2 h2⟩)
end
def fF(f:CO D):CO D:=λγ=>(f γ).bind λd=>match d with
 | .n0 _ vs=>(bY vs).map D.int
 | _=>cR
section
variable{prog:m4}{w:l0}{A:p4}{E:EQ}{s:gx}{d it:d8}{o:o8}{es:Array L3}{i n ep:Nat}
def Vr(d:d8):o8:={cls:= .type "dict_values",data:= .fields #[.ref d]}
theorem Wh{Q:EQ}(z:s.TypeIs (.ref d) "dict")(hd:(d==C3)=d7)(I:Q (.ref s.heap.objs.size) {s with heap:=s.heap.push (Vr d)}):wpAny (gv prog w) A (call (.builtin "dict.values") [.ref d]) Q E s:=by refine OI F.slot_dict_values z F.entry_dict_values ?_ (F.args_dict_values_1 _);show wpAny _ _ (do let d <- Builtin.Dict.noArgs "values" ⟨[Of d],[]⟩;RJ d;let v <- newFields "dict_values" [Of d];ret v) _ _ s;unfold Builtin.Dict.noArgs;refine Nt (Nt (Ul z ?_));refine Nt (m:=Builtin.Dict.nameIsSure _ _ _) (Tj (a:=()) (by rfl) ?_);refine Nt (m:=selfOnly _ _) (Tj (a:=Of d) (by rfl) ?_);refine Nz ?_;show wpAny _ _ (RJ d >>= _) _ _ s;unfold RJ;rw[DJ (by rw[hd];exact NM)];refine Nt (Nz ?_);unfold newFields;refine Nt (Ox (Nz ⟨_,rfl,?_⟩));exact I
theorem iq{v:d8}{ov:o8}{Q:EQ}(z:s.heap.get? v=cI (Vr d))(I:s.heap.get? d=cI o)(O:o.data = .dict es ep)(hn:es.size=n)
 (hQ:Q (.ref s.heap.objs.size) {s with heap:=s.heap.push {cls:= .type "dict_valueiterator",data:= .fields #[.ref d,.int 0 0,.int n 0,.int ep 0]}}):wpAny (gv prog w) A (IE (.ref v)) Q E s:=by
 have Y:s.TypeIs (.ref v) "dict_values":=⟨_,z,rfl⟩;refine UX Y F.slot_dict_values_iter (OI F.slot_dict_values_iter Y F.entry_dict_values_iter ?_ (F.args_dict_values_iter_1 _));unfold wy.«dict_values.__iter__»;refine Nt (m:=Builtin.Dict_items.slot0 _ _) (Tj (a:=Of v) (by rfl) ?_);unfold Builtin.Dict_items.dictOf;refine Nt (Nt (Pa z rfl (x:= .ref d) rfl ?_));refine Nz ?_;unfold Builtin.Dict_items.newIterator;refine Nt (Nt (Sn I O ?_));refine Nt (SK I O ?_);have a1:PR "dict_valueiterator" = d7:=by decide
 simp only[a1,A3,if_false];unfold newFields;refine Ox (Nz ⟨_,rfl,"dict_valueiterator",_,⟨_,NO _ rfl,rfl⟩,Rb.lookup,?_⟩);simpa[zt,hn]using hQ
theorem ou{Q:Option fm->gx->Prop}(z:s.heap.IsValIter it d i n ep)(Y:s.heap.get? d=cI o)(a0:o.data = .dict es ep)(hsz:es.size=n)(a1:i<es.size)
 (hQ : ∀h',h'.IsValIter it d (i+1) n ep->PM it s.heap h'->Q (cI es[i].val) {s with heap:=h'}):wpAny (gv prog w) A (B4<|.ref it) Q E s:=by
 obtain⟨o,I,hc,hd⟩:=id z;unfold B4;refine Nt (So (OD (name:=OJ "__next__") z.typeIs Rb
  (OI Rb z.typeIs UU ?_ (UR _))))
 refine Nt (Nz ?_);refine Nt ?_;refine Nt ?_;refine Nt (RR z.typeIs (Nz ?_));refine Nt (UC I hd ?_);have a4:PR "dict_valueiterator" = d7:=by decide
 simp only[a4,A3,if_false];show wpAny _ _ (if (Of d==Oy)=cL then _ else _) _ _ s;rw[DJ (show ¬((Of d==Oy)=cL)from NM)];refine Nt<|Nz ?_;refine Nt<|Sn Y a0 ?_;rw[DJ (by rw[hsz];simp)];refine Nt<|Nz ?_;refine Nt<|SK Y a0 ?_;rw[DJ ⋯];refine Nz ?_;simp only[show ¬((i:Int)<0)from by omega,if_false,OF,Sj a1];refine Nt ?_;refine Nt<|RR z.typeIs<|Nz ?_;refine Nt<|Um z.typeIs ?_;show wpAny _ _ (IH (.ref it) 1 (zt<|(i:Int)+1) >>= _) _ _ s;refine Nt<|SS I hd ⋯ ?_;have O:(s.heap.update it<|TH (·.setIfInBounds 1 (zt<|(i:Int)+1))).IsValIter it d (i+1) n ep:=
  ⟨_,RW _ I<|SN<|Rx hd _,(Tu ..).trans hc,by rw[Rx hd];simp[zt]⟩
 refine Nt<|Rm ?_;refine Nt<|Um (s:={s with heap:=s.heap.update it (TH (·.setIfInBounds 1 (zt<|(i:Int)+1)))}) O.typeIs ?_;rw[DJ ⋯];refine Nt<|Um (s:={s with heap:=s.heap.update it (TH (·.setIfInBounds 1 (zt<|(i:Int)+1)))}) O.typeIs ?_;rw[DZ ⋯];exact Nz<|Nz ⟨_,rfl,Nz<|hQ _ O<|Rz ..⟩
theorem YE{Q:Option fm->gx->Prop}(hh:A.handled=cR)(z:s.heap.IsValIter it d i n ep)(I:s.heap.get? d=cI o)(O:o.data = .dict es ep)(hsz:es.size=n)(a1:es.size<=i)
 (hQ : ∀h',Heap.ExtBut it s.heap h'->Q cR {s with heap:=h'}):wpAny (gv prog w) A (B4<|.ref it) Q E s:=by
 obtain⟨o,Y,hc,hd⟩:=id z;unfold B4;refine Nt (So (OD (name:=OJ "__next__") z.typeIs Rb
  (OI Rb z.typeIs UU ?_ (UR _))))
 refine Nt (Nz ?_);refine Nt ?_;refine Nt ?_;refine Nt (RR z.typeIs (Nz ?_));refine Nt (UC Y hd ?_);have a3:PR "dict_valueiterator" = d7:=by decide
 simp only[a3,A3,if_false];show wpAny _ _ (if (Of d==Oy)=cL then _ else _) _ _ s;rw[DJ (show ¬((Of d==Oy)=cL)from NM)];refine Nt (Nz ?_);refine Nt (Sn I O ?_);rw[DJ (by rw[hsz];simp)];refine Nt (Nz ?_);refine Nt (SK I O ?_);rw[DJ ⋯];refine Nz ?_;simp only[show ¬((i:Int)<0)from by omega,if_false,OF,Array.getElem?_eq_none a1];refine Nt ?_;refine Nt (RR z.typeIs (Nz ?_));show wpAny _ _ (IH (.ref it) 0 .none >>= _) _ _ s;refine Nt (SS Y hd ⋯ ?_);show wpAny _ _ (Iz (.type "StopIteration") [] >>= _) _ _ _;refine Nt ?_;simp only[Iz,M7];refine Nt (Ox ?_ (by size_fits));refine Nt (m:=Gu _ _) (Tj (a:=Oy) (by first | rfl | (simp only[Gu];rfl)) ?_);refine Ox ?_ (by size_fits);simp only[raiseNew];refine Nt (_B ?_);rw[show A.in1.handled=cR from hh];refine Nt (Nz (wpAny_throw ?_));refine Nt (Ud (T:="StopIteration") (b:=cL) ⟨_,NO _ rfl,rfl⟩ UD ?_);exact Nz (hQ _ (((Rz ..).extBut.push _).push _))
end
theorem bG{prog:m4}{w:l0}{A:p4}{d I:d8}{o:o8}{es:Array L3}{ep:Nat}{xs:List (List Int×d8×fm)}(hh:A.handled=cR)(O:o.data = .dict es ep)(Y:es.toList=xs.map (λx=>⟨mN x.1,.ref x.2.1,x.2.2⟩))(a3:d≠I) :
 Walks prog w A I [I,d] [I] xs.length (λi v=>∃e,xs[i]? = cI e/\v=e.2.2) (λi h=>h.IsValIter I d i xs.length ep/\h.get? d=cI o):=
 have hsz:es.size=xs.length:=by rw[<- Pc,Y,NV]
 {sub:=λb hb=>by simp at hb;simp[hb]
  frame:=λ_ _ _ st hk=>⟨st.1.at λo e=>hk _ ⋯ o e,hk d ⋯ o st.2⟩
  item:=λi s Q E hi st z=>by
   have a0:i<es.size:=by omega
   have hx:xs[i]? = cI xs[i]:=Nw hi;have ek:es[i].val=xs[i].2.2:=by
    have:es.toList[i]? = cI es[i]:=by rw[TX,Sj a0]
    rw[Y,NT,hx]at this;rw[<- Oj this]
   refine ou st.1 st.2 O hsz a0 λh' a5 a1=>?_;exact z _ h' s.toks ⟨_,hx,ek⟩ ⟨a5,a1.extBut d o a3 st.2⟩ λb o hb e=>a1.extBut b o (λh=>hb<|by simp[h]) e
  done:=λs Q E st z=>YE hh st.1 st.2 O hsz ⋯ λh' a6=>z h' s.toks λb o hb e=>a6 b o (λh=>hb<|by simp[h]) e
  self:=λ_ _ _ _ st z=>wpAny_pyIter_valiter st.1 z}
section
variable{X:Cx}{sc:mu}{N L:List Str}{k:Nat}{o:f7}{f:CO D}{p pos apos cpos:kr}
theorem um(h:SX X sc N L k)(c:yZ sc "sum" = cL)(z:X.mg "sum" = cR)(ho:PV X o f)(ab:DF o "values" X.env (f9 o X.env)=f9 o X.env:=by rfl)(ac:(apos.endLine==cpos.line)=cL:=by rfl)
 (hs:i6 [.Call (.Attribute o "values" apos) [] [] cpos] X.env=[(d7,f9 (.Call (.Attribute o "values" apos) [] [] cpos) X.env)]:=by rfl) :
 PV X (.Call (.Name "sum" p) [.Call (.Attribute o "values" apos) [] [] cpos] [] pos) (fF f):=by
 intro pins s σ H Q I hZ;obtain⟨H0,γ,dd,rc,Y,q⟩:=hZ;obtain⟨d1,e1,Y⟩:=zb Y;cases d1 with
 | n0 ks vs=>
  obtain⟨nn,e3,e4⟩:=zv Y;subst e4;obtain⟨zs,rfl,rfl⟩:=ZN e3;have hh:X.A.handled=cR:=I.ok.hd h.calm;refine Sb (yq I (h.gl c).1 z PyProof.Rows.boot_sum (Sw ?_ (by rw[hs];rfl) rfl) ⋯ ⋯);rw[hs];show wpAny _ _ (LW ((d7,f9 (.Call (.Attribute o "values" apos) [] [] cpos) X.env)::[])) _ _ s;refine Ru (wpAny_Call_method0_late ab ac (ip (ho pins s σ H (λv H1=>∃O,Ext H0 H O H1/\Rep X.K O (.n0 ks (zs.map D.int)) v) I ⟨H0,γ,_,rc,e1,λv H1 O x r=>⟨O,x,r⟩⟩) λu s1 hZ=>?_));obtain⟨v,H1,I1,r1,O,x1,rp⟩:=hZ;obtain⟨ad,ys,rfl,⟨g0,ob,es,g1,g2,g3,g4,g5,g6⟩,g7⟩:=(show ∃a xs,v = .ref a/\DU X.K O a ks xs/\f6 X.K O (zs.map D.int) xs from rp);cases (show u=Of ad from r1);have a5:=JD I1 (x1.sub _ _ g1) g2 λx hx=>o5 x1.sub (g5 x hx);obtain⟨ax,_⟩:=(show oi X.prog X.w H1 s1.heap ad (u7 ad ob)from I1.i7 ad _ (x1.sub _ _ g1));obtain⟨c4,eA,ep,a9,he,nd⟩:=g2;refine⟨"dict","dict.values",PySem.F.plainAttrs_dict,PySem.F.slot_dict_values,PySem.F.type_dict_values,a5.typeIs,dictOfH_noDict a5,TM rfl (PySem.evalArgs_none (Wh a5.typeIs g0 ?_))⟩;refine SF ?_;have I2:=I1.kept (h':=s1.heap.push (Vr ad)) (t':=s1.toks) λb o e=>Nv _ e;have a6:(s1.heap.push (Vr ad)).get? ad=cI ob:=Nv _ ax;have ba:(s1.heap.push (Vr ad)).get? s1.heap.objs.size=cI (Vr ad):=NO _ rfl;have hsz:eA.size=es.length:=by rw[<- Pc,he,NV]
  have lt:=NR a6;have nm : ∀{zs:List Int} {ys:List V} {es:List (List Int×d8×fm)},f6 X.K O (zs.map D.int) ys->i8 ys (es.map (·.2.2))->es.length=zs.length/\∀(i:Nat) e,es[i]? = cI e->∃t,e.2.2 = .int (zs.getD i 0) t:=λ{zs}=>by
   induction zs with
   | nil=>
    intro ys es a b;rw[a.zr]at b;have:es=[]:=by
     cases es with
     | nil=>rfl
     | cons x r=>cases b
    subst this;exact⟨rfl,λi e q=>by simp at q⟩
   | cons n zs ih=>
    intro ys es a b;obtain⟨y,yr,rfl,a1,a2⟩:=a.u0;cases es with
    | nil=>cases b
    | cons x r=>
     have b':i8 (y::yr) (x.2.2::r.map (·.2.2)):=b;cases b' with
     | cons b1 b2=>
      obtain⟨i1,i2⟩:=ih a2 b2;refine⟨by simp[i1],λi e q=>?_⟩;cases i with
      | zero=>
       cases q;rw[show y=V.int n from a1]at b1;obtain⟨t,ht⟩:=b1;exact⟨t,ht⟩
      | succ i=>exact i2 i e (by simpa using q)
  obtain⟨nl,nv⟩:=nm g7 g6;refine call_sum_walkG<|iq (ov:=Vr ad) ba a6 a9 hsz ⟨_,[_,ad],[_],es.length,_,_,λi=>zs.getD i 0,rfl,bG (A:=X.A.in1) hh a9 he<|Oa lt,⟨⟨_,NO _ rfl,rfl,rfl⟩,Nv _ a6⟩,?_,?_,?_⟩
  ·intro b hb
   rw[OB];simp only[NP,Oc,or_false]at hb;rcases hb with rfl | rfl
   ·exact OW _
   ·exact OK lt
  ·rintro i v ⟨e,he,rfl⟩
   exact nv i e he
  ·intro h' tk t' hk
   have e:Nn (λi=>zs.getD i 0) es.length=zs.sum:=by rw[vx,Pu ⋯]
   refine⟨.int zs.sum,H1,I2.kept (t':=tk)<|λb u e=>hk b u ?_ (Nv _ e),⟨t',by rw[e]⟩,q _ H1 O x1 rfl⟩;simp only[NP,Oc,or_false];exact Oa<|NR e
 | _=>cases Y
end
def E6(e:f7):Str:=match e with | .Name x _=>x | _=>""
def DM(e:f7):List Str:=match e with | .Tuple es _ _=>es.map E6 | e=>[E6 e]
def F0(N:List Str)(fs:List Nat):List (Str×Nat):=fs.map λi=>(N.getD i "",i)
theorem Ks(N:List Str)(fs:List Nat):(F0 N fs).map (·.2)=fs:=by unfold F0;rw[OO];exact List.map_id fs
def se(e:f7):Bool:=match e with | .Name _ _=>cL | _=>d7
theorem cW{e:f7}(h:se e=cL) : ∃p,e = .Name (E6 e) p:=by
 unfold se at h;split at h
 ·exact⟨_,rfl⟩
 ·cases h
def Lj(sc:mu)(N L:List Str)(is:List Nat)(es:List f7):Bool:=match is with
 | [i,j]=>(match es with | [a,b]=>se a && (yx sc N L i (E6 a) && (se b && yx sc N L j (E6 b))) | _=>d7)
 | [i,j,l]=>(match es with | [a,b,c]=>se a && (yx sc N L i (E6 a) && (se b && (yx sc N L j (E6 b) && (se c && yx sc N L l (E6 c))))) | _=>d7)
 | _=>d7
def LX(sc:mu)(N L:List Str)(e:f7)(T:Tg):Bool:=match T with
 | .nm i=>se e && yx sc N L i (E6 e)
 | .tp is=>(match e with | .Tuple es _ _=>Lj sc N L is es | _=>d7)
theorem tF{X:Cx}{sc:mu}{N L:List Str}{k:Nat}(h:SX X sc N L k){e:f7}{T:Tg}(c:LX sc N L e T=cL):PG X e (xk X.K T):=by
 cases T with
 | nm i=>
  have c:=Bool.and_eq_true_iff.mp c;obtain⟨p,q⟩:=cW c.1;rw[q];exact h.wx _ c.2
 | tp is=>
  unfold LX at c;dsimp only at c;split at c
  ·next es j pos=>
   unfold Lj at c;split at c
   ·split at c
    ·simp only[NI]at c
     obtain⟨z,I,b1,b2⟩:=c;obtain⟨p,q⟩:=cW z;obtain⟨p',O⟩:=cW b1;rw[q,O];exact h.F6<|jP (h.wx _ I)<|jP (h.wx _ b2) yI
    ·cases c
   ·split at c
    ·simp only[NI]at c
     obtain⟨z,I,b1,b2,Y,c2⟩:=c;obtain⟨p,q⟩:=cW z;obtain⟨p',O⟩:=cW b1;obtain⟨p2,q2⟩:=cW Y;rw[q,O,q2];exact h.F6<|jP (h.wx _ I)<|jP (h.wx _ b2)<|jP (h.wx _ c2) yI
    ·cases c
   ·cases c
  ·cases c
def cB(sc scope:mu)(N:List Str)(tg:f7)(T:Tg)(n:Nat)(fs:List Nat):Bool:=
 Wf sc scope N (F0 N fs) && (Hi (DM tg) scope (F0 N fs) && (decide (∀i∈T.idx,i<(DM tg).length) && (decide ((DM tg).length=n) && LX (k7 scope sc) (DM tg++(F0 N fs).map (·.1)) (DM tg) tg T)))
abbrev FY(X:Cx)(scope:mu)(N:List Str)(tg:f7)(fs:List Nat):=ju X scope (DM tg++(F0 N fs).map (·.1))
abbrev SA(X:Cx)(sc scope:mu)(N:List Str)(tg:f7)(fs:List Nat)(k:Nat)(fp:List d8)(s2:gx)(H2:Hp):Prop:=SX (FY X scope N tg fs fp s2 H2) (k7 scope sc) (DM tg++(F0 N fs).map (·.1)) (DM tg) k
section
variable{X:Cx}{sc scope:mu}{N L:List Str}{k n i:Nat}{fs:List Nat}{T:Tg}{e elt tg iter Iu:f7}{es:List f7}{pos p py spos cpos:kr}{x y:Str}{f g:CO D}{fo:CO (List D)}{src gl:CO (List D)}{kk:CO Bool}
theorem cA(h:SX X sc N L k)(c:cB sc scope N tg T n fs=cL):Br X scope (F0 N fs)/\(∀i∈T.idx,i<(DM tg).length)/\(DM tg).length=n/\(∀fp s2 H2,SA X sc scope N tg fs k fp s2 H2)/\∀fp s2 H2,PG (FY X scope N tg fs fp s2 H2) tg (xk X.K T):=by unfold cB at c;simp only[NI,decide_eq_true_eq]at c;obtain⟨z,I,O,Y,c5⟩:=c;have s : ∀fp s2 H2,SA X sc scope N tg fs k fp s2 H2:=λfp s2 H2=>h.comp I;exact⟨h.Q_ z,O,Y,s,λfp s2 H2=>tF (s fp s2 H2) c5⟩
theorem xN(h:SX X sc N L k)(hi:B6 X tg iter src)(z : ∀fp s2 H2,SA X sc scope N tg fs k fp s2 H2->PV (FY X scope N tg fs fp s2 H2) elt f)(c:cB sc scope N tg T n fs=cL:=by decide +kernel)(hs : ∀x,zl iter X.env x=pure x:=by intro _;rfl) :
 PO X (.ListComp elt [⟨tg,iter,[],0⟩] scope pos) (zT src T n fs jS f):=by
 obtain⟨a,b,d,s,q⟩:=cA h c;have r:=uD (pos:=pos) h.calm a b hi q (λfp s2 H2=>z fp s2 H2<|s fp s2 H2) hs;rw[d,Ks]at r;exact r
theorem cE(h:SX X sc N L k)(hi:B6 X tg iter src)(hk : ∀fp s2 H2,SA X sc scope N tg fs k fp s2 H2->s9 (FY X scope N tg fs fp s2 H2) Iu kk)(z : ∀fp s2 H2,SA X sc scope N tg fs k fp s2 H2->PV (FY X scope N tg fs fp s2 H2) elt f)(c:cB sc scope N tg T n fs=cL:=by decide +kernel)(hs : ∀x,zl iter X.env x=pure x:=by intro _;rfl) :
 PO X (.ListComp elt [⟨tg,iter,[Iu],0⟩] scope pos) (zT src T n fs kk f):=by
 obtain⟨a,b,d,s,q⟩:=cA h c;have r:=gh (pos:=pos) h.calm a b hi q (λfp s2 H2=>hk fp s2 H2<|s fp s2 H2) (λfp s2 H2=>z fp s2 H2<|s fp s2 H2) hs;rw[d,Ks]at r;exact r
theorem Zo(h:SX X sc N L k)(hi:B6 X tg iter src)(z : ∀fp s2 H2,SA X sc scope N tg fs k fp s2 H2->PV (FY X scope N tg fs fp s2 H2) elt f)(ct:yx sc N L i y=cL:=by decide +kernel)(c:cB sc scope N tg T n fs=cL:=by decide +kernel)(hs : ∀x,zl iter X.env x=pure x:=by intro _;rfl) :
 PS X (.Assign [.Name y py] (.ListComp elt [⟨tg,iter,[],0⟩] scope cpos) spos) (XQ (tO X.K<|zT src T n fs jS f)<|ye i):=by
 obtain⟨a,b,d,s,q⟩:=cA h c;have r:=I? (cpos:=cpos) (spos:=spos) (py:=py) i h ct h.calm a b hi q (λfp s2 H2=>z fp s2 H2<|s fp s2 H2) hs;rw[d,Ks]at r;exact r
theorem CD(h:SX X sc N L k)(hi:B6 X tg iter src)(hk : ∀fp s2 H2,SA X sc scope N tg fs k fp s2 H2->s9 (FY X scope N tg fs fp s2 H2) Iu kk)(z : ∀fp s2 H2,SA X sc scope N tg fs k fp s2 H2->PV (FY X scope N tg fs fp s2 H2) elt f)(ct:yx sc N L i y=cL:=by decide +kernel)(c:cB sc scope N tg T n fs=cL:=by decide +kernel)(hs : ∀x,zl iter X.env x=pure x:=by intro _;rfl) :
 PS X (.Assign [.Name y py] (.ListComp elt [⟨tg,iter,[Iu],0⟩] scope cpos) spos) (XQ (tO X.K<|zT src T n fs kk f)<|ye i):=by
 obtain⟨a,b,d,s,q⟩:=cA h c;have r:=HF (cpos:=cpos) (spos:=spos) (py:=py) i h ct h.calm a b hi q (λfp s2 H2=>hk fp s2 H2<|s fp s2 H2) (λfp s2 H2=>z fp s2 H2<|s fp s2 H2) hs;rw[d,Ks]at r;exact r
theorem zu(h:SX X sc N L k)(c:JZ sc N i x=cL:=by decide +kernel):PV X (.Name x pos) (ze i):=Co i<|h.var c
theorem z5(h:SX X sc N L k)(c:JZ sc N i x=cL:=by decide +kernel):PQ X (.Name x pos) (zq i):=CF i<|h.var c
theorem GU(h:SX X sc N L k)(c:LX sc N L e T=cL:=by decide +kernel):PG X e (xk X.K T):=tF h c
theorem jL(h:SX X sc N L k)(z:PV X e f)(c:yx sc N L i x=cL:=by decide +kernel)(hs:A8 e (cI (.Name x py)) pos.line X.env=pure d7:=by rfl):tr X (.Assign [.Name x py] e pos) (jT i f):=uv i<|h.set i c z hs
theorem vO(h:SX X sc N L k)(z:PO X e fo)(c:yx sc N L i x=cL:=by decide +kernel)(hs:A8 e (cI (.Name x py)) pos.line X.env=pure d7:=by rfl):tr X (.Assign [.Name x py] e pos) (yt i fo):=W9 i<|h.set i c z hs
theorem kK{body:List m5}{F:CO Fl}(hx:X.xe=λ_ _=>False)(h:SX X sc N L k)(hi:o9 X tg iter src)(hb:bB X body F)(c:LX sc N L tg T=cL:=by decide +kernel)(hs : ∀x,zl iter X.env x=pure x:=by intro _;rfl):tr X (.For tg iter body [] pos) (J3 src T F):=ux (Jb hx) h.calm hi (tF h c) hb hs
variable{j:Nat}{F:List D->Option Res}
theorem ja(z:l9 X.prog X.w X.K X.mg X.base j x n F)(h:SX X sc N L k)(ha:D0 X (e::es) n gl)(I:j<=k:=by decide)(c:yZ sc x=cL:=by decide +kernel)
 (O:i6 (e::es) X.env=(d7,f9 e X.env)::i6 es X.env:=by rfl) (Y:(r9 pos<|starEach es X.env).any (·.1)=d7:=by rfl):PV X (.Call (.Name x p) (e::es) [] pos) (zJ F gl):=HE z I h c ha O Y
theorem yv(z:l9 X.prog X.w X.K X.mg X.base j x n F)(h:SX X sc N L k)(ha:D0 X (e::es) n gl)(I:j<=k:=by decide)(c:yZ sc x=cL:=by decide +kernel)
 (O:i6 (e::es) X.env=(d7,f9 e X.env)::i6 es X.env:=by rfl) (Y:(r9 pos<|starEach es X.env).any (·.1)=d7:=by rfl):PO X (.Call (.Name x p) (e::es) [] pos) (qj F gl):=HG z I h c ha O Y
end
def XC:=jo 1 (zS (oy (fG (kz (sB (GC .str (ze 0)))) (sB (zw R_ (Yf (ze 0)) (zx (.int 6))))) (xh (zx (.bl d7))) xw) (xh (fN (qf (zT (BV (ze 0)) (.nm 0) 1 [] jS (MA (ze 0) (zM (zx (.tup [.str "r",.str "l"])))))))))
def Zk:=jo 2<|zS (oy (fG (kz<|sB<|zJ Ws<|zc (ze 1)<|zc (zx<|.int 2) zG)<|fG (kz<|sB<|zJ wu<|zc (ze 0)<|zc (fy (zq 1)<|zx<|.int 0) zG)<|kz<|sB<|zJ wu<|zc (ze 0)<|zc (fy (zq 1)<|zx<|.int 1) zG) (xh<|zx<|.bl d7) xw)<|xh<|zw A6 (fy (zq 1)<|zx<|.int 0)<|fy (zq 1)<|zx<|.int 1
def lZ:=jo 2<|Zn<|zT (QV<|ze 0) (.tp [0,1]) 2 [1] (sB<|yC A6 A6 (fy (zq 1)<|zx<|.int 0) (ze 2)<|fy (zq 1)<|zx<|.int 1) (ze 0)
def Wu:=jo 3<|zS (jT 2<|xB<|zT (zQ<|zq 0) (.nm 0) 1 [1] jS (jj<|qf<|zT (zQ<|zq 1) (.nm 0) 1 [0] jS (WV (sB<|zw kC (ze 1)<|ze 0) (zx<|.int 1)<|zx<|.int 0)))<|xh<|qe<|zc (vB<|zq 0)<|zc (vB<|zq 1)<|zc (jj<|zq 2) zG
def z6:=jo 5<|zS (oy (qX (sB<|zw yJ (vB<|zq 0)<|zx<|.int 1)<|sB<|zw kC (zw x6 (fy (zq 0)<|zx<|.int 0)<|zx<|.int 2)<|zx<|.int 1) (zS (jT 2<|fy (zq 0)<|zw qb (zx<|.int 1)<|zw x6 (ze 1)<|zw yN (vB<|zq 0)<|zx<|.int 1)<|zS (J3 (jH<|BX (zx<|.int 60)<|zw KU (ze 1)<|zw yN (vB<|zq 0)<|zx<|.int 1) (.nm 3)<|jT 2<|zw KU (ze 2)<|zw AH (zx<|.int 10)<|zx<|.int 9)<|xh<|zw x6 (ze 2)<|zw AH (zx<|.int 10)<|zx<|.int 9) xw)<|zS (jT 4<|ze 1)<|zS (oy (sB<|zw yJ (vB<|zq 0)<|zx<|.int 0) (jT 4<|fy (zq 0)<|zw x6 (ze 1)<|vB<|zq 0) xw)<|xh<|zw x6 (zw kQ (zw x6 (zw qb (zw qb (zw qb (zw kQ (zw x6 (ze 4)<|zw AH (zx<|.int 10)<|zx<|.int 30)<|zx<|.int 48271)<|zw kQ (zw kQ (zx<|.int 7)<|ze 1)<|ze 1)<|zw kQ (zx<|.int 13)<|ze 1)<|zx<|.int 5)<|zx<|.int 2147483647)<|zx<|.int 69621)<|zx<|.int 1000000007
def qU:=jo 5<|zS (jT 3<|xB<|zT (rC (fy (zq 0)<|zx<|.int 2)<|fy (zq 2)<|zx<|.int 2) (.tp [0,1]) 2 [] jS (zw qb (ze 0)<|ze 1))<|zS (jT 4<|xB<|zT (zQ<|zM<|fy (zq 1)<|zx<|.int 2) (.nm 0) 1 [0] jS (zw qb (zw kQ (qe<|zc (zx<|.int 0) zG)<|fy (zq 1)<|zx<|.int 1)<|ze 0))<|xh<|qe<|zc (zw qb (fy (zq 0)<|zx<|.int 0)<|fy (zq 1)<|zx<|.int 0)<|zc (zw qb (fy (zq 0)<|zx<|.int 1)<|fy (zq 1)<|zx<|.int 1)<|zc (jj<|zM<|xB<|fM (zq 3)<|zq 4) zG
def wt:=jo 2<|xh<|zJ xq<|zc (fy (zq 0)<|zx<|.int 0)<|zc (fy (zq 1)<|zx<|.int 1) zG
def qo:=jo 2<|xh<|zJ qU<|zc (ze 0)<|zc (ze 1)<|zc (zJ wt<|zc (ze 0)<|zc (ze 1) zG) zG
def yl:=jo 3<|Zn<|qj kc<|zc (ze 0)<|zc (fy (zq 1)<|zx<|.int 0)<|zc (xB<|zT (zQ<|zq 2) (.nm 0) 1 [0,1] jS (zJ lX<|zc (ze 1)<|zc (ze 2)<|zc (ze 0) zG)) zG
def VS:=(Ls 4<|yt 4<|rE yl qp<|zc (fy (zq 0)<|zx<|.int 0)<|zc (fy (zq 5)<|zx<|.int 0)<|zc (zJ qo<|zc (ze 3)<|zc (fy (zq 5)<|zx<|.int 1) zG)<|zc (ze 4) zG)
def bD:=jo 6<|zS (jT 3<|zJ j5<|zc (fy (zM<|fy (zq 0)<|zx<|.int 1)<|ze 1) zG)<|zS (yt 4<|zT (zQ<|zM<|fy (zq 3)<|zx<|.int 2) (.nm 0) 1 [] jS (zw qb (ze 0)<|ze 0))<|zS (J3 (zQ<|zM<|Vt (fy (zq 0)<|zx<|.int 2) (vl<|ze 1)<|vl<|ze 2) (.nm 5) VS)<|ZV 4
def z9:=jo 2 (zS (oy (sB (zw kC (ze 1) (zx (.str "r")))) (xh (qe (zc (ze 0) (zc (zw qb (ze 0) (zx (.int 1))) zG)))) xw) (xh (qe (zc (zw qb (ze 0) (zx (.int 1))) (zc (ze 0) zG)))))
def QW:=(zS (Vu (.tp [7,8])<|zJ z9<|zc (ze 5)<|zc (ze 6) zG)<|jZ 4<|qe<|zc (ze 6)<|zc (qe<|zc (fy (zq 2)<|ze 8)<|zc (fy (zq 2)<|ze 7)<|zc (jj<|qf<|zT (zQ<|zM<|fy (zq 3)<|ze 5) (.nm 0) 1 [] jS (jj<|zq 0)) zG) zG)
def qr:=jo 9<|zS (yt 4<|yu zG)<|zS (J3 (ki<|ze 1) (.tp [5,6]) QW)<|xh<|qe<|zc (ze 0)<|zc (jj<|zq 2)<|zc (jj<|zq 4) zG
def xt:=jo 4 (zS (jT 2 (zx (.str ""))) (zS (J3 (jH (zw yN (ze 1) (zx (.int 1)))) (.nm 3) (zS (jT 2 (ny (ze 2) (QT (zx (.str "rl")) (zw x6 (ze 0) (zx (.int 2)))))) (jT 0 (zw KU (ze 0) (zx (.int 2)))))) (ZV 2)))
abbrev BS(k:Sk)(xs:List D):D:=match k with | .T=>D.tup xs | .L=>D.lst xs
@[simp] theorem zbN(k xs):jg (BS k xs)=cI (k,xs):=by cases k<;>rfl
theorem XA(k:Sk)(f:Nat->Int)(z:0<p)(hn:n<=lim) :
 xI [.int p,BS k (zR n f)]=cI (.val<|.tup<|zR n λi=>f i%p):=by
 simp[xI,jo,jt,jA,hn,qM];unfold zR;rw[zA (r:=λi=>D.int<|f i%p)]
 ·simp
 ·intro i hi
  refine zE rfl rfl ?_;simp[z]
theorem lV(f:Nat->Int)(z:0<p)(hn:n<=lim) :
 xI [.int p,.tup (zR n f)]=cI (.val<|.tup<|zR n λi=>f i%p):=XA .T f z hn
theorem JO(f:Nat->Int)(z:0<p)(hn:n<=lim) :
 xI [.int p,.lst (zR n f)]=cI (.val<|.tup<|zR n λi=>f i%p):=XA .L f z hn
theorem rf(k:Sk)(f:DW)(g:Nat->Int)(I:0<p)(z:h<=lim)(hw:w<=lim)(O : ∀i j,i<h->j<w->0<=f i j/\f i j<100) :
 lX [.int p,jU h w f,BS k (zR w g)]=cI (.val<|.tup<|zR h λi=>zf (λj=>f i j*g j) w%p):=by
 simp[lX,jo,jt,jA,z,qM,jU,NB];unfold zV;rw[zA (r:=λi=>D.int<|zf (λj=>f i j*g j) w)]
 ·simp
  rw[show(Pq (λi=>D.int<|zf (λj=>f i j*g j) w)<|Nu h)=zR h λi=>zf (λj=>f i j*g j) w from rfl,JO _ I z];rfl
 ·intro i hi
  refine zE rfl rfl ?_;simp[jA,XD,hw];rw[zA (r:=λj=>D.int<|f i j*g j)]
  ·simp
   rw[show(Pq (λj=>D.int<|f i j*g j)<|Nu w)=zR w λj=>f i j*g j from rfl,ZO]
  ·intro j Y
   refine zE rfl rfl ?_;have:=O i j (NA.mp hi)<|NA.mp Y;simp[kS (f i j) (g j) ⋯ ⋯]
theorem x9(f:DW)(z:h<=lim)(hw:w<=lim):jx [jU h w f]=cI (.val<|jU w h λi j=>f j i):=by
 simp[jx,jo,jt,jA,z,hw,qM,jU,NB,jC,qP];rw[jw w λi=>(i:Int)];rw[zA (r:=λj=>D.tup<|zR h λi=>f i j)]
 ·simp
  rfl
 ·intro j I
  refine zE rfl rfl ?_;simp[jA,z,qM];unfold zV;rw[zA (r:=λi=>D.int<|f i j)]
  ·simp
   rfl
  ·intro i hi
   refine zE rfl rfl ?_;have h1:=NA.mp I;simp[h1,xQ _ h1]
theorem wo(hn:n<=lim):j5 [.int n]=cI (.val<|jU n n λi j=>if i=j then 1 else 0):=by
 simp[j5,jo,jt,jC,hn,jA,qM,NB,qP];rw[jw n λi=>(i:Int)];rw[zA (r:=λi=>D.tup<|zR n λj=>if i=j then 1 else 0)]
 ·simp
  rfl
 ·intro i hi
  refine zE rfl rfl ?_;simp[hn,jA,NB,qP,qM];rw[jw n λi=>(i:Int)];rw[zA (r:=λj=>D.int<|if i=j then 1 else 0)]
  ·simp
   rfl
  ·intro j z
   refine zE rfl rfl ?_;simp;by_cases e:i=j
   ·simp[e]
   ·rw[DJ ⋯,DJ e]
theorem vH(d:D)(w:Nat):NB w d=(Nu w).map λ_=>d:=by
 induction w with
 | zero=>rfl
 | succ n z=>rw[List.replicate_succ',z,PD,OM];simp
theorem Wq(z:h<=lim)(hw:w<=lim):xq [.int h,.int w]=cI (.val<|jU h w λ_ _=>0):=by simp[xq,jo,jt,jC,kQ,z,hw];rw[vH,vH];rfl
def V9(ns:List Int):D:= .lst (ns.map D.int)
mutual
theorem S6 : ∀d:D,n6 d d=cL
 | .i5=>rfl
 | .bl b=>by simp[n6]
 | .int i=>by simp[n6]
 | .str x=>by simp[n6]
 | .tup xs=>by simp only[n6];exact Iw xs
 | .lst xs=>by simp only[n6];exact Iw xs
 | .sh a b=>by simp only[n6];rw[Iw a,Iw b];rfl
 | .n0 a b=>by simp only[n6];rw[Iw b];simp
theorem Iw : ∀ds:List D,B9 ds ds=cL
 | []=>rfl
 | d::ds=>by simp only[B9,S6 d,Iw ds,Bool.and_self]
end
theorem aY : ∀{l:List D} {n:Nat},(∀d∈l,deep d<=n)->DH l<=n
 | [],n,_=>Pf n
 | d::ds,n,h=>by simp only[DH];exact Nat.max_le.mpr ⟨h d NL,aY λe z=>h e<|NN _ z⟩
theorem Eh(h:deep d<=n)(hn:n<=20)(h2:vb d=cL):tu d=cL:=by unfold tu;rw[h2,Bool.and_true];exact decide_eq_true<|OH h hn
theorem Kz(h:tu d=cL):kC d d=cI (.bl cL):=by unfold kC;rw[DZ ⟨h,h⟩,S6]
theorem Ky{d:D}(h:tu d=cL):ow d d=cI (.bl d7):=by unfold ow;rw[DZ ⟨h,h⟩,S6];rfl
theorem K4{α:Type}(l:List α):XO (l.map λ_=>D.bl cL)=cI (l.map λ_=>cL):=by
 induction l with
 | nil=>rfl
 | cons a l z=>simp[XO,FQ,z]
theorem LK(a b c:D):Zs [a,b,c] cR (cI 2)=[a,b]:=by simp[Zs,QE]
def mm(b:Bool):Nat:=if b then 108 else 114
def xc(c:Nat):Str:=⟨#[c]⟩
theorem Xk : ∀(l:List Nat),(IX "" (l.map xc)).cps.toList=l
 | []=>rfl
 | [c]=>rfl
 | c::d::l=>by
  have z:=Xk (d::l);show((xc c++("" : Str))++IX "" ((d::l).map xc)).cps.toList=_;have e : ∀a b:Str,(a++b).cps.toList=a.cps.toList++b.cps.toList:=λa b=>by show(a.cps++b.cps).toList=_;simp
  rw[e,e,z];rfl
def xm(m:Nat)(w:DV):Str:=IX "" ((Nu m).map λk=>xc (mm (w k)))
theorem kH(m w):(xm m w).cps.toList=(Nu m).map λk=>mm (w k):=by have:=Xk<|(Nu m).map λk=>mm<|w k;rw[OO]at this;exact this
theorem Wz(m w):(xm m w).length=m:=by show(xm m w).cps.size=m;rw[<- Pc,kH];simp
theorem yV{m:Nat}(w)(hm:m<=1000):jm (xm m w)=cL:=decide_eq_true (by rw[Wz];exact hm)
theorem WQ{α:Type}(g:α->Str) : ∀l:List α,K8 (l.map λx=>D.str<|g x)=cI (l.map g)
 | []=>rfl
 | a::l=>by simp[K8,WQ g l]
def l7(w:DV)(wd:DK)(k:Nat):Nat:=if w k then wd k else wd (k+1)
def l5(w:DV)(wd:DK)(k:Nat):Nat:=if w k then wd (k+1)else wd k
def yP(w:DV)(wd:DK)(T:DQ)(k:Nat):D:= .tup [.str (xc<|mm<|w k),jU (l7 w wd k) (l5 w wd k) (T k)]
def qG(m:Nat)(w:DV)(wd:DK)(T:DQ):List D:=(Nu m).map (yP w wd T)
def qN(p:Int)(m:Nat)(w:DV)(wd:DK)(T:DQ):D:= .tup [.int p,.tup<|zR (m+1) λk=>(wd k:Int),.tup (qG m w wd T)]
@[simp] theorem lM(m w wd T):(qG m w wd T).length=m:=by simp[qG]
theorem Ec(b:Bool):tu (.str<|xc<|mm b)=cL:=by cases b<;>decide +kernel
theorem iK(b:Bool):kC (.str (xc (mm b))) (.str "r")=cI (.bl (!b)):=by
 have e : ∀b:Bool,(xc (mm b)==(OJ "r")) = !b:=by decide +kernel
 have z:tu (.str (OJ "r"))=cL:=by decide +kernel
 unfold kC;rw[DZ ⟨Ec b,z⟩];show cI (D.bl (xc (mm b)==OJ "r"))=_;rw[e]
theorem GS:OJ "r" = xc (mm d7):=by decide +kernel
theorem GT:OJ "l" = xc (mm cL):=by decide +kernel
theorem QG(b:Bool):yj [.str (xc<|mm b)]=cI (.val<|.str<|xc<|mm !b):=by have e1:=GS;have e2:=GT;have q:=iK b;rw[e1]at q;cases b<;>simp[yj,jo,jt,e1,e2]at q ⊢ <;> simp[q]
theorem iZ(f:Nat->D)(h1:i<=j)(h2:j<=n):Zs ((Nu n).map f) (cI (i:Int)) (cI (j:Int))=(Nu<|j - i).map λk=>f (i+k):=by
 have c : ∀(d k:Nat),k<=n->QE n d (cI (k:Int))=k:=λd k hk=>by show(if (k:Int)<0 then ((k:Int)+n).toNat else min (k:Int).toNat n)=k;rw[DJ ⋯];simp only[OF];omega
 have z:((Nu n).map f).length=n:=by simp
 unfold Zs;rw[z,c 0 i ⋯,c n j h2];apply List.ext_getElem
 ·simp;omega
 ·intro k I g2
  simp
section
variable{p:Int}{m:Nat}{w:DV}{wd:DK}{T:DQ}
theorem Fp(h1:i<=j)(h2:j<=m):Zs (qG m w wd T) (cI (i:Int)) (cI (j:Int))=qG (j - i) (λk=>w<|i+k) (λk=>wd<|i+k) (λk=>T<|i+k):=by unfold qG;rw[iZ _ h1 h2];apply NQ;intro k hk;unfold yP l7 l5;rfl
end
section
variable{p:Int}
def yi(h w:Nat)(f:DW):List D:=(Nu h).map λi=>D.lst<|zR w<|f i
@[simp] theorem zaW(h w f):(yi h w f).length=h:=by simp[yi]
end
theorem zk : ∀{n:Nat},(∀k,k<n->f k=g k)->zf f n=zf g n
 | 0,_=>rfl
 | n+1,h=>by simp only[zf];rw[zk (n:=n) λk hk=>h k ⋯,h n ⋯]
theorem zz(n:Nat):zf (λ_=>0) n=0:=by
 induction n with
 | zero=>rfl
 | succ n z=>simp[zf,z]
theorem zK(hi:i<n)(h : ∀k,k<n->k≠i->f k=0):zf f n=f i:=by
 induction n with
 | zero=>omega
 | succ n z=>
  simp only[zf];by_cases e:i=n
  ·subst e
   rw[zk (g:=λ_=>0) (λk hk=>h k ⋯ ⋯),zz];omega
  ·rw[z ⋯ λk hk=>h k ⋯,h n ⋯ ⋯]
   omega
theorem jf(f g:Nat->Int)(n:Nat):zf (λk=>f k+g k) n=zf f n+zf g n:=by
 induction n with
 | zero=>rfl
 | succ n z=>simp only[zf,z];omega
theorem jE(f:Nat->Int)(c:Int)(n:Nat):zf (λk=>f k*c) n=zf f n*c:=by
 induction n with
 | zero=>simp[zf]
 | succ n z=>simp only[zf,z,SM]
theorem zZ(f:Nat->Int)(c:Int)(n:Nat):zf (λk=>c*f k) n=c*zf f n:=by
 induction n with
 | zero=>simp[zf]
 | succ n z=>simp only[zf,z,Sv]
theorem jY(f:DW)(n m:Nat):zf (λi=>zf (λj=>f i j) m) n=zf (λj=>zf (λi=>f i j) n) m:=by
 induction n with
 | zero=>simp[zf,zz]
 | succ n z=>simp only[zf];rw[z,<- jf]
theorem zy : ∀{n:Nat},(∀k,k<n->f k%p=g k%p)->zf f n%p=zf g n%p
 | 0,_=>rfl
 | n+1,h=>by simp only[zf];rw[NS,zy (n:=n)<|λk hk=>h k ⋯,h n ⋯,<- NS]
theorem gN(p x y:Int):(x%p*y)%p=(x*y)%p:=by rw[ND,Ou,<- ND]
theorem qx(p x y:Int):(x*(y%p))%p=(x*y)%p:=by rw[ND,Ou,<- ND]
abbrev Vc:=Nat->Int
def Pr(p:Int):Prop:=p=2\/p=3\/p=5\/p=7
theorem Pr.pos(h:Pr p):0<p:=by unfold Pr at h;omega
theorem Pr.two(h:Pr p):2<=p:=by unfold Pr at h;omega
theorem Pr.le(h:Pr p):p<=7:=by unfold Pr at h;omega
theorem Pr.one(h:Pr p):(1:Int)%p=1:=Rh ⋯ (by have:=h.two;omega)
inductive Span(p:Int)(n:Nat)(G:Vc->Prop):Vc->Prop where
 | zero {v:Vc}:(∀i,i<n->v i%p=0)->Span p n G v
 | step {v w g:Vc} {c:Int}:G g->Span p n G w->(∀i,i<n->v i%p=(w i+c*g i)%p)->Span p n G v
section
variable{p:Int}{n:Nat}{G G':Vc->Prop}
theorem Span.congr(h:Span p n G v)(e : ∀i,i<n->v' i%p=v i%p):Span p n G v':=by
 cases h with
 | zero h=>exact .zero λi hi=>by rw[e i hi,h i hi]
 | step z hw h=>exact .step z hw λi hi=>by rw[e i hi,h i hi]
theorem Span.gen(h:G g):Span p n G g:= .step (c:=1) h (.zero (v:=λ_=>0) λi _=>by simp) λi _=>by simp
theorem Span.add(z:Span p n G v)(hw:Span p n G w) : ∀c:Int,Span p n G λi=>w i+c*v i:=by
 induction z with
 | zero h=>
  intro c;refine hw.congr λi hi=>?_;rw[NS,ND,h i hi];simp
 | @step v w' g c' I Y h O=>
  intro c;refine .step (c:=c*c') I (O c) λi hi=>?_;have e:(c*v i)%p=(c*(w' i+c'*g i))%p:=by rw[ND,h i hi,<- ND]
  rw[NS,e,<- NS];congr 1;rw[Sv,<- OP,Int.add_assoc]
theorem Span.smul(z:Span p n G v)(c:Int):Span p n G λi=>c*v i:=
 (z.add (w:=λ_=>0) (.zero λi _=>by simp) c).congr λi _=>by simp
theorem Span.le(h:Span p n G v)(z : ∀g,G g->Span p n G' g):Span p n G' v:=by
 induction h with
 | zero h=>exact .zero h
 | step I hw h O=>exact((z _ I).add O _).congr h
end
structure nr(p:Int)(n r:Nat)(B:Nat->Vc)(l:DK):Prop where
 lt : ∀k,k<r->l k<n
 mono : ∀k m,k<m->m<r->l k<l m
 one : ∀k,k<r->B k (l k)=1
 u9 : ∀k j,k<r->j<l k->B k j=0
 p9 : ∀k m,k<r->m<r->m≠k->B k (l m)=0
 o7 : ∀k i,k<r->i<n->0<=B k i/\B k i<p
def h9(r:Nat)(B:Nat->Vc):Vc->Prop:=λv=>∃k,k<r/\v=B k
section
variable{p:Int}{n r r':Nat}{B B':Nat->Vc}{l l':DK}
theorem Wc(hb:nr p n r B l)(h:Span p n (h9 r B) v) : ∀i,i<n->v i%p=zf (λk=>v (l k)*B k i) r%p:=by
 induction h with
 | @zero v h=>
  intro i hi;rw[h i hi];have:zf (λk=>v (l k)*B k i) r%p=zf (λ_=>0) r%p:=zy λk hk=>by rw[ND,h _ (hb.lt k hk)];simp
  rw[this,zz];rfl
 | @step v w g c z hw h I=>
  intro i hi;obtain⟨m,hm,rfl⟩:=z;rw[h i hi];have e1:zf (λk=>v (l k)*B k i) r%p=zf (λk=>w (l k)*B k i+c*B m (l k)*B k i) r%p:=zy λk hk=>by rw[ND,h _<|hb.lt k hk,<- ND,SM]
  have e2:zf (λk=>c*B m (l k)*B k i) r=c*B m i:=by rw[zK (i:=m) hm λk hk O=>by rw[hb.p9 m k hm hk O];simp,hb.one m hm];simp
  rw[e1,jf,e2,NS,I i hi,<- NS]
theorem VW(hb:nr p n r B l)(h:Span p n (h9 r B) v)(z:j<n)(h0:v j%p≠0)(hz : ∀i,i<j->v i%p=0) : ∃k,k<r/\l k=j:=by
 apply Sa;intro I;apply h0;rw[Wc hb h j z];have:zf (λk=>v (l k)*B k j) r%p=zf (λ_=>0) r%p:=zy λk hk=>by
  have O:l k≠j:=λe=>I ⟨k,hk,e⟩;rcases NU (l k) j with q | q
  ·rw[ND,hz _ q];simp
  ·rw[hb.u9 k j hk ⋯];simp
 rw[this,zz];rfl
theorem aH(O : ∀k m,k<m->m<r->l k<l m)(Y : ∀k m,k<m->m<r'->l' k<l' m)(s1 : ∀k,k<r->∃m,m<r'/\l' m=l k)(s2 : ∀k,k<r'->∃m,m<r/\l m=l' k) :
 ∀k,k<r->k<r'/\l k=l' k:=by
 intro k
 induction k using Nat.strongRecOn with
 | ind k ih=>
  intro hk;obtain⟨m,hm,em⟩:=s1 k hk;have a3:k<=m:=by
   rcases NU m k with q | q
   ·have:=(ih m q ⋯).2
    have:=O m k q hk;omega
   ·exact q
  have I:k<r':=by omega
  refine⟨I,?_⟩;obtain⟨q,hq,eq⟩:=s2 k I;have a5:k<=q:=by
   rcases NU q k with z | z
   ·have:=(ih q z ⋯).2
    have:=Y q k z I;omega
   ·exact z
  rcases NU k m with z | z
  ·have h1:=Y k m z hm
   have h2:l k<=l q:=by
    rcases NU k q with y | y
    ·exact Uc<|O k q y hq
    ·have:k=q:=by omega
     subst this;exact NJ _
   omega
  ·have:m=k:=by omega
   subst this;exact em.symm
theorem lE(Y:Pr p)(hb:nr p n r B l)(z:nr p n r' B' l')(h1 : ∀v,Span p n (h9 r B) v->Span p n (h9 r' B') v)(h2 : ∀v,Span p n (h9 r' B') v->Span p n (h9 r B) v) :
 r=r'/\(∀k,k<r->l k=l' k)/\∀k i,k<r->i<n->B k i=B' k i:=by
 have one:=Y.one;have s1 : ∀k,k<r->∃m,m<r'/\l' m=l k:=λk hk=>VW z (h1 _<|.gen ⟨k,hk,rfl⟩) (hb.lt k hk) (by rw[hb.one k hk,one];decide) λi hi=>by rw[hb.u9 k i hk hi];simp
 have s2 : ∀k,k<r'->∃m,m<r/\l m=l' k:=λk hk=>VW hb (h2 _<|.gen ⟨k,hk,rfl⟩) (z.lt k hk) (by rw[z.one k hk,one];decide) λi hi=>by rw[z.u9 k i hk hi];simp
 have e1:=aH hb.mono z.mono s1 s2;have e2:=aH z.mono hb.mono s2 s1;have er:r=r':=by
  rcases Sg r r' with q | q | q
  ·exact absurd (e2 r q).1 (Bc _)
  ·exact q
  ·exact absurd (e1 r' q).1 (Bc _)
 subst er;refine⟨rfl,λk hk=>(e1 k hk).2,λk i hk hi=>?_⟩;have c:=Wc z (h1 _<|.gen ⟨k,hk,rfl⟩) i hi;rw[zK (i:=k) hk λm hm a0=>by rw[<- (e1 m hm).2,hb.p9 k m hk hm a0];simp,<- (e1 k hk).2,hb.one k hk,TL]at c;have I:=hb.o7 k i hk hi;have O:=z.o7 k i hk hi;rw[Rh I.1 I.2,Rh O.1 O.2]at c;exact c
end
theorem jR(q:α->Bool)(r:α->D) : ∀(l:List α),(∀x∈l,∃γ1,qm T (g x) γ=cI γ1/\k γ1=cI (q x)/\(q x=cL->f γ1=cI (r x)))->
 z7 T k f γ (l.map g)=cI ((l.filter q).map r)
 | [],_=>rfl
 | x::l,h=>by
  obtain⟨γ1,h1,h2,I⟩:=h x NL;have z:=jR q r l λy O=>h y<|NN _ O;simp only[NY,z7,h1,h2,Nx];cases e:q x with
  | true=>simp[I e,z,e]
  | false=>simp[z,e]
theorem si(z:Pr p)(h0:0<x)(h1:x<p) : ∃y:Nat,1<=y/\(y:Int)<p/\(y:Int)*x%p=1:=by
 rcases z with rfl | rfl | rfl | rfl
 ·obtain rfl:x=1:=by omega
  exact⟨1,by decide,by decide,by decide⟩
 ·rcases (show x=1\/x=2 by omega)with rfl | rfl
  ·exact⟨1,by decide,by decide,by decide⟩
  ·exact⟨2,by decide,by decide,by decide⟩
 ·rcases (show x=1\/x=2\/x=3\/x=4 by omega)with rfl | rfl | rfl | rfl
  ·exact⟨1,by decide,by decide,by decide⟩
  ·exact⟨3,by decide,by decide,by decide⟩
  ·exact⟨2,by decide,by decide,by decide⟩
  ·exact⟨4,by decide,by decide,by decide⟩
 ·rcases (show x=1\/x=2\/x=3\/x=4\/x=5\/x=6 by omega)with rfl | rfl | rfl | rfl | rfl | rfl
  ·exact⟨1,by decide,by decide,by decide⟩
  ·exact⟨4,by decide,by decide,by decide⟩
  ·exact⟨5,by decide,by decide,by decide⟩
  ·exact⟨2,by decide,by decide,by decide⟩
  ·exact⟨3,by decide,by decide,by decide⟩
  ·exact⟨6,by decide,by decide,by decide⟩
theorem Zh{q:DV}{n a:Nat}{xD:List Nat}(h:(Nu n).filter q=a::xD):a<n/\q a=cL/\∀i,i<a->q i=d7:=by
 have hm:a∈(Nu n).filter q:=by rw[h];exact NL
 refine⟨NA.mp (OC.mp hm).1,(OC.mp hm).2,λi hi=>?_⟩;apply Sa;intro z;have I:q i=cL:=by simpa using z
 have O:i∈a::xD:=by rw[<- h];exact OC.mpr ⟨NA.mpr (by have:=NA.mp (OC.mp hm).1;omega),I⟩
 have hs:(a::xD).Pairwise (· < ·):=by rw[<- h];exact List.Pairwise.filter _ List.pairwise_lt_range
 rcases NP.mp O with e | e
 ·omega
 ·have:=(List.pairwise_cons.mp hs).1 i e;omega
theorem YD(h:(Nu n).filter q=[]) : ∀i,i<n->q i=d7:=λi hi=>by apply Sa;intro z;have:i∈(Nu n).filter q:=OC.mpr ⟨NA.mpr hi,by simpa using z⟩;rw[h]at this;simp at this
theorem Vl(z:Pr p)(h0:0<x)(h1:x<p) : ∃y,wA [.int p,.int x]=cI (.val<|.int y)/\1<=y/\y<p/\x*y%p=1:=by
 rcases z with rfl | rfl | rfl | rfl
 ·have:x=1:=by omega
  subst this;exact⟨1,rfl,by decide,by decide,by decide⟩
 ·have:x=1\/x=2:=by omega
  rcases this with rfl | rfl
  ·exact⟨1,rfl,by decide,by decide,by decide⟩
  ·exact⟨2,rfl,by decide,by decide,by decide⟩
 ·have:x=1\/x=2\/x=3\/x=4:=by omega
  rcases this with rfl | rfl | rfl | rfl
  ·exact⟨1,rfl,by decide,by decide,by decide⟩
  ·exact⟨3,rfl,by decide,by decide,by decide⟩
  ·exact⟨2,rfl,by decide,by decide,by decide⟩
  ·exact⟨4,rfl,by decide,by decide,by decide⟩
 ·have:x=1\/x=2\/x=3\/x=4\/x=5\/x=6:=by omega
  rcases this with rfl | rfl | rfl | rfl | rfl | rfl
  ·exact⟨1,rfl,by decide,by decide,by decide⟩
  ·exact⟨4,rfl,by decide,by decide,by decide⟩
  ·exact⟨5,rfl,by decide,by decide,by decide⟩
  ·exact⟨2,rfl,by decide,by decide,by decide⟩
  ·exact⟨3,rfl,by decide,by decide,by decide⟩
  ·exact⟨6,rfl,by decide,by decide,by decide⟩
theorem yU(I:Pr p)(hn:n<=lim)(z:t<n)(w P:Nat->Int)(hw : ∀i,i<n->0<=w i/\w i<p) :
 j3 [.int p,.tup<|zR n w,.tup<|zR n P,.int t]=cI (.val<|.tup<|zR n λi=>(w i - w t*P i)%p):=by
 have Y:=hw t z;have a0:=I.le;have O : ∀x,JV (w t) x=cL:=λx=>kS _ _ ⋯ ⋯;by_cases h0:w t=0
 ·simp[j3,jo,jt,jC,z,h0]
  apply y8;intro i hi;rw[Rh (hw i hi).1 (hw i hi).2]
 ·simp[j3,jo,jt,jC,z,h0,XD,hn,jA,qM,NB]
  rw[zA (r:=λi=>D.int<|w i - w t*P i)]
  ·rw[<- jw]
   simp[JO _ I.pos hn]
  ·intro i hi
   refine zE rfl rfl ?_;simp[O]
theorem VN{l:DK}{r t:Nat}(hm : ∀k m,k<m->m<r->l k<l m)(z : ∀k,k<r->l k<t):r<=t:=by
 have I : ∀k,k<r->k<=l k:=by
  intro k
  induction k with
  | zero=>intro _;exact Pf _
  | succ k O=>
   intro hk;have h1:=O ⋯;have h2:=hm k (k+1) ⋯ hk;omega
 cases r with
 | zero=>exact Pf _
 | succ r=>
  have h1:=I r ⋯;have h2:=z r ⋯;omega
def ZC:=(zS (jT 6<|xB<|zT (zQ<|zq 3) (.nm 0) 1 [5] (sB<|zw ow (fy (zq 0)<|ze 1)<|zx<|.int 0) (ze 0))<|zS (oy (kz<|ud<|zq 6) uf xw)<|zS (jT 7<|zJ wA<|zc (ze 0)<|zc (fy (zM<|fy (zq 6)<|zx<|.int 0)<|ze 5) zG)<|zS (jT 8<|zJ xI<|zc (ze 0)<|zc (xB<|zT (zQ<|zM<|fy (zq 6)<|zx<|.int 0) (.nm 0) 1 [7] jS (zw kQ (ze 1)<|ze 0)) zG)<|zS (jT 3<|xB<|zT (zQ<|zq 3) (.nm 0) 1 [0,5,8] jS (zJ j3<|zc (ze 1)<|zc (ze 0)<|zc (ze 3)<|zc (ze 2) zG))<|yt 4<|fM (qf<|zT (zQ<|zq 4) (.nm 0) 1 [0,5,8] jS (zJ j3<|zc (ze 1)<|zc (ze 0)<|zc (ze 3)<|zc (ze 2) zG))<|qf<|yu<|zc (ze 8) zG)
def Un(r:Nat)(B:Nat->Vc)(m:Nat)(W:Nat->Vc):Vc->Prop:=λv=>h9 r B v\/h9 m W v
structure DS(p:Int)(n m:Nat)(W:Nat->Vc)(t r:Nat)(B:Nat->Vc)(l:DK)(Wt:Nat->Vc):Prop where
 o7 : ∀j i,j<m->i<n->0<=Wt j i/\Wt j i<p
 Gd : ∀j i,j<m->i<t->Wt j i=0
 E2:nr p n r B l
 lt : ∀k,k<r->l k<t
 span : ∀v,Span p n (Un r B m Wt) v↔Span p n (h9 m W) v
section
variable{p:Int}{n m:Nat}{W:Nat->Vc}{t r:Nat}{B:Nat->Vc}{l:DK}{Wt:Nat->Vc}
theorem DS.skip(h:DS p n m W t r B l Wt)(hz : ∀j,j<m->Wt j t=0):DS p n m W (t+1) r B l Wt:=
 ⟨h.o7,λj i z hi=>by
  rcases NU i t with q | q
  ·exact h.Gd j i z q
  ·have:i=t:=by omega
   subst this;exact hz j z,h.E2,λk hk=>OK<|h.lt k hk,h.span⟩
def n9(p:Int)(P:Vc)(t:Nat)(w:Vc):Vc:=λi=>(w i - w t*P i)%p
def cX(p:Int)(P:Vc)(t r:Nat)(B:Nat->Vc):Nat->Vc:=λk=>if k<r then n9 p P t (B k)else P
def rW(t r:Nat)(l:DK):Nat->Nat:=λk=>if k<r then l k else t
theorem ZA(z:Span p n G P)(hw:Span p n G w):Span p n G (n9 p P t w):=
 (z.add hw (-(w t))).congr λi _=>by unfold n9;rw[Ou];congr 1;rw[Int.neg_mul];omega
theorem WG(z:Span p n G P)(hw:Span p n G (n9 p P t w)):Span p n G w:=
 (z.add hw<|w t).congr λi _=>by unfold n9;rw[NS,Ou,<- NS];congr 1;omega
theorem DS.next(hp:Pr p)(h:DS p n m W t r B l Wt)(ht:t<n)(a7:j0<m)(hy:Wt j0 t*y%p=1)(O : ∀i,i<n->P i=y*Wt j0 i%p) :
 DS p n m W (t+1) (r+1) (cX p P t r B) (rW t r l) (λj=>n9 p P t<|Wt j):=by
 have p0:=hp.pos;have one:=hp.one;have Pt:P t=1:=by rw[O t ht,Pe];exact hy
 have Pz : ∀i,i<t->P i=0:=λi hi=>by rw[O i ⋯,h.Gd j0 i a7 hi];simp
 have ae : ∀i,i<n->0<=P i/\P i<p:=λi hi=>by rw[O i hi];exact⟨Ot _ ⋯,Oe _ p0⟩
 have cr : ∀(w:Vc) i,0<=n9 p P t w i/\n9 p P t w i<p:=λw i=>⟨Ot _ ⋯,Oe _ p0⟩;have Y : ∀(w:Vc) i,i<t->0<=w i->w i<p->n9 p P t w i=w i:=λw i hi h1 h2=>by unfold n9;rw[Pz i hi,Ry,UP];exact Rh h1 h2
 have ct : ∀w:Vc,n9 p P t w t=0:=λw=>by unfold n9;rw[Pt,PJ,Int.sub_self];simp
 refine⟨λj i I hi=>cr _ _,λj i I hi=>?_,⟨λk hk=>?_,λk q ag hq=>?_,λk hk=>?_,λk j hk I=>?_,λk q hk hq am=>?_,λk i hk hi=>?_⟩,λk hk=>?_,λv=>?_⟩
 ·rcases NU i t with q | q
  ·have e:=h.Gd j i I q
   rw[Y _ i q ⋯ ⋯];exact e
  ·have:i=t:=by omega
   subst this;exact ct _
 ·unfold rW;split
  ·rename_i q;exact h.E2.lt k q
  ·exact ht
 ·unfold rW
  have hk:k<r:=by omega
  rw[DZ hk];split
  ·rename_i z;exact h.E2.mono k q ag z
  ·exact h.lt k hk
 ·unfold rW cX;split
  ·rename_i q
   have e:=h.E2.one k q;have hl:=h.lt k q;rw[Y _ _ hl ⋯ (by have:=hp.two;omega)];exact e
  ·exact Pt
 ·unfold cX;unfold rW at I;split at I
  ·rename_i q
   have e:=h.E2.u9 k j q I;have hl:=h.lt k q;rw[DZ q,Y _ _ ⋯ ⋯ ⋯];exact e
  ·rename_i q
   rw[DJ q];exact Pz j I
 ·unfold cX rW
  by_cases z1:k<r
  ·rw[DZ z1]
   by_cases z2:q<r
   ·rw[DZ z2]
    have e:=h.E2.p9 k q z1 z2 am;have hl:=h.lt q z2;rw[Y _ _ hl ⋯ ⋯];exact e
   ·rw[DJ z2];exact ct _
  ·rw[DJ z1]
   have z2:q<r:=by omega
   rw[DZ z2];exact Pz _<|h.lt q z2
 ·unfold cX;split
  ·exact cr _ _
  ·exact ae i hi
 ·unfold rW;split
  ·rename_i q;exact OK<|h.lt k q
  ·exact OW _
 ·rw[<- h.span v]
  have a3:Span p n (Un r B m Wt) P:=((Span.gen (p:=p) (n:=n) (G:=Un r B m Wt) (g:=Wt j0)<|.inr ⟨j0,a7,rfl⟩).smul y).congr λi hi=>by rw[O i hi,Ou]
  have ab:Span p n (Un (r+1) (cX p P t r B) m λj=>n9 p P t<|Wt j) P:= .gen (.inl ⟨r,OW r,by unfold cX;rw[DJ (Bc r)]⟩);constructor
  ·refine λhv=>hv.le λg hg=>?_
   rcases hg with⟨k,hk,rfl⟩ | ⟨j,I,rfl⟩
   ·unfold cX;split
    ·rename_i q;exact ZA a3<|.gen<|.inl ⟨k,q,rfl⟩
    ·exact a3
   ·exact ZA a3<|.gen<|.inr ⟨j,I,rfl⟩
  ·refine λhv=>hv.le λg hg=>?_
   rcases hg with⟨k,hk,rfl⟩ | ⟨j,I,rfl⟩
   ·refine WG (t:=t) ab (.gen<|.inl ⟨k,OK hk,?_⟩)
    unfold cX;rw[DZ hk]
   ·exact WG (t:=t) ab<|.gen<|.inr ⟨j,I,rfl⟩
theorem DS.done(h:DS p n m W n r B l Wt)(v:Vc):Span p n (h9 r B) v↔Span p n (h9 m W) v:=by
 rw[<- h.span v];constructor
 ·exact λI=>I.le λg z=> .gen (.inl z)
 ·refine λI=>I.le λg z=>?_
  rcases z with z | ⟨j,O,rfl⟩
  ·exact .gen z
  ·exact .zero λi hi=>by rw[h.Gd j i O hi];simp
theorem iT(z:True)(P:Vc):zV (r+1) n (cX p P t r B)=zV r n (λk=>n9 p P t<|B k)++[.tup (zR n P)]:=by
 unfold zV;rw[PD,OM];congr 1
 ·apply NQ
  intro k hk;have:=NA.mp hk;simp[cX,this]
 ·simp[cX]
end
theorem xA{p:Int}(hp:Pr p){n m:Nat}(hn:n<=100)(hm:m<=lim)(kk:Sk)(W:Nat->Vc) :
 ∃r B l,kc [.int p,.int n,BS kk (zV m n W)]=cI (.own<|zV r n B)/\nr p n r B l/\∀v,Span p n (h9 r B) v↔Span p n (h9 m W) v:=by
 have hl:=jy;have a1:n<=lim:=by omega
 have p0:=hp.pos;have a9:=YW (T:= .nm 5) (F:=ZC)
  (λt γ=>∃r B l Wt c5 c6 c7 c8,γ=[.val (.int p),.val<|.int n,.val<|BS kk<|zV m n W,.val<|.lst<|zV m n Wt,.own<|zV r n B,c5,c6,c7,c8]/\DS p n m W t r B l Wt)
  ((Nu n).map λ(i:Nat)=>D.int i) 0 [.val (.int p),.val<|.int n,.val<|BS kk<|zV m n W,.val<|.lst<|zV m n λj i=>W j i%p,.own [],.no,.no,.no,.no]
  ⟨0,λ_ _=>0,λ_=>0,λj i=>W j i%p,.no,.no,.no,.no,rfl,λj i _ _=>⟨Ot _ ⋯,Oe _ p0⟩,λj i _ hi=>absurd hi<|Ob _,
   ⟨λk hk=>absurd hk<|Ob _,λk q _ hk=>absurd hk<|Ob _,λk hk=>absurd hk<|Ob _,λk j hk=>absurd hk<|Ob _,λk q hk=>absurd hk<|Ob _,λk i hk=>absurd hk<|Ob _⟩,
   λk hk=>absurd hk<|Ob _,λv=>⟨λhv=>hv.le λg hg=>by
    rcases hg with⟨k,hk,_⟩ | ⟨j,O,rfl⟩
    ·exact absurd hk<|Ob _
    ·exact(Span.gen (p:=p) (n:=n) (G:=h9 m W) (g:=W j) ⟨j,O,rfl⟩).congr λi _=>Ou _ _,λhv=>hv.le λg hg=>by
    obtain⟨j,O,rfl⟩:=hg;exact(Span.gen (p:=p) (n:=n) (G:=Un 0 (λ_ _=>0) m λj i=>W j i%p) (g:=λi=>W j i%p)<|.inr ⟨j,O,rfl⟩).congr λi _=>(Ou _ _).symm⟩⟩ (by
   rintro t d γ hd ⟨r,B,l,Wt,c5,c6,c7,c8,rfl,I⟩;rw[RX]at I ⊢;have Y:t<n:=by have:=(NC.mp hd).1;simpa using this
   have aa:d = .int t:=by simp[Y]at hd;exact hd.symm
   subst aa;have a2:z7 (.nm 0) (sB<|zw ow (fy (zq 0)<|ze 1)<|zx<|.int 0) (ze 0) [Cell.no,Cell.val (.int t)] (zV m n Wt)=cI (((Nu m).filter λj=> !decide (Wt j t=0)).map λj=>D.tup<|zR n<|Wt j):=by unfold zV;refine jR _ _ _ λj O=>⟨_,rfl,?_,λ_=>rfl⟩;simp[Y]
   have hr:r<=t:=VN I.E2.mono I.lt;have ab:r<=lim:=by omega
   cases hf:(Nu m).filter λj=> !decide (Wt j t=0)with
   | nil=>
    have hz : ∀j,j<m->Wt j t=0:=λj O=>by apply Sa;intro a6;have:j∈(Nu m).filter λj=> !decide (Wt j t=0):=OC.mpr ⟨NA.mpr O,by simp[a6]⟩;rw[hf]at this;simp at this
    rw[hf]at a2;refine⟨_,.inr ?_,r,B,l,Wt,.val<|.int t,.val<|.lst [],c7,c8,rfl,I.skip hz⟩;simp only[ZD,Nx,Ph,Pg,ZC];rw[jC];simp[jC,jA,qM,NB,a2,hm]
   | cons z xD=>
    have a7:z∈(Nu m).filter λj=> !decide (Wt j t=0):=by rw[hf];exact NL
    have a8:z<m:=NA.mp (OC.mp a7).1;have a6:Wt z t≠0:=by simpa using (OC.mp a7).2
    have ac:=I.o7 z t a8 Y;obtain⟨y,ey,y1,y2,yy⟩:=Vl hp (x:=Wt z t) ⋯ ac.2;rw[hf]at a2;have nx:=I.next hp Y a8 yy (P:=λi=>y*Wt z i%p) λi _=>rfl;refine⟨_,.inl ?_,r+1,cX p (λi=>y*Wt z i%p) t r B,rW t r l,λj=>n9 p (λi=>y*Wt z i%p) t<|Wt j,.val<|.int t,.val<|.lst<|(z::xD).map λj=>D.tup<|zR n<|Wt j,.val<|.int y,.val<|.tup<|zR n λi=>y*Wt z i%p,rfl,nx⟩;have bd:=hp.le;have cy : ∀x,JV y x=cL:=λx=>kS _ _ ⋯ ⋯;have am:z7 (.nm 0) jS (zw kQ (ze 1)<|ze 0) [Cell.no,Cell.val (.int y)] (zR n<|Wt z)=cI (zR n λi=>y*Wt z i):=by rw[jw,jw];refine zA _ _ λi hi=>zE rfl rfl ?_;simp[cy]
    have an:z7 (.nm 0) jS (zJ j3<|zc (ze 1)<|zc (ze 0)<|zc (ze 3)<|zc (ze 2) zG) [Cell.no,Cell.val<|.int p,Cell.val<|.int t,Cell.val (.tup<|zR n λi=>y*Wt z i%p)] (zV m n Wt)=cI (zV m n λj=>n9 p (λi=>y*Wt z i%p) t<|Wt j):=by unfold zV;refine zA _ _ λj O=>zE rfl rfl ?_;simp[yU hp a1 Y (Wt j) (λi=>y*Wt z i%p) λi hi=>I.o7 j i (NA.mp O) hi];rfl
    have ap:z7 (.nm 0) jS (zJ j3<|zc (ze 1)<|zc (ze 0)<|zc (ze 3)<|zc (ze 2) zG) [Cell.no,Cell.val<|.int p,Cell.val<|.int t,Cell.val (.tup<|zR n λi=>y*Wt z i%p)] (zV r n B)=cI (zV r n λj=>n9 p (λi=>y*Wt z i%p) t<|B j):=by unfold zV;refine zA _ _ λj O=>zE rfl rfl ?_;simp[yU hp a1 Y (B j) (λi=>y*Wt z i%p) λi hi=>I.E2.o7 j i (NA.mp O) hi];rfl
    have ar:r+1<=lim:=by omega
    rw[iT trivial];simp only[ZD,Nx,Ph,Pg,ZC];rw[jC];simp[jC,jA,qM,NB,a2,hm,a1,Y,ey,am,JO _ p0 a1,an,ap,ab,ar])
 obtain⟨γ',e1,r,B,l,Wt,c5,c6,c7,c8,rfl,I⟩:=a9;simp only[NV,Oo,RX]at I;refine⟨r,B,l,?_,I.E2,I.done⟩;have as:z7 (.nm 0) jS (zJ xI<|zc (ze 1)<|zc (ze 0) zG) [Cell.no,Cell.val (.int p)] (zV m n W)=cI (zV m n λj i=>W j i%p):=by unfold zV;refine zA _ _ λj O=>zE rfl rfl ?_;simp[lV _ p0 a1]
 have e0:kc [.int p,.int n,BS kk (zV m n W)]=jo 9 (zS (jT 3<|xB<|zT (zQ<|zq 2) (.nm 0) 1 [0] jS (zJ xI<|zc (ze 1)<|zc (ze 0) zG))<|zS (yt 4<|yu zG)<|zS (J3 (jH<|ze 1) (.nm 5) ZC)<|ZV 4) [.int p,.int n,BS kk (zV m n W)]:=rfl;rw[e0];simp[jo,jt,jC,hm,jA,qM,NB,as,a1,qP];rw[jw n λi=>(i:Int),e1];simp
@[simp] def zaM:=@Hm.eq_1
def Jz{α:Type}(q:Nat)(x:α)(f:Nat->α):Nat->α:=λk=>if k<q then f k else if k=q then x else f (k - 1)
def Zt(l:DK)(r x:Nat):Nat:=((Nu r).filter λk=>decide<|l k<x).length
theorem KB : ∀{r:Nat},(∀k m,k<m->m<r->l k<l m)->(∀k,k<r->l k≠x)->Zt l r x<=r/\(∀k,k<Zt l r x->l k<x)/\∀k,Zt l r x<=k->k<r->x<l k
 | 0,_,_=>⟨NJ _,λk hk=>absurd hk (by simp[Zt]),λk _ hk=>absurd hk<|Ob _⟩
 | r+1,hm,V'=>by
  obtain⟨h1,h2,I⟩:=KB (r:=r) (x:=x) (λk m a b=>hm k m a ⋯) λk hk=>V' k ⋯;have e:Zt l (r+1) x=Zt l r x+if l r<x then 1 else 0:=by unfold Zt;rw[PD,Te,Ol];by_cases q:l r<x<;>simp[q]
  by_cases q:l r<x
  ·rw[e,DZ q]
   have O:Zt l r x=r:=by
    rcases NU (Zt l r x) r with z | z
    ·have Y:=I (Zt l r x) (NJ _) z
     have a2:=hm (Zt l r x) r z<|OW r;omega
    ·omega
   rw[O];refine⟨NJ _,λk hk=>?_,λk a b=>absurd b ⋯⟩;rcases NU k r with z | z
   ·exact h2 k ⋯
   ·have:k=r:=by omega
    subst this;exact q
  ·rw[e,DJ q,UM]
   refine⟨by omega,h2,λk a b=>?_⟩;rcases NU k r with z | z
   ·exact I k a z
   ·have:k=r:=by omega
    subst this;have:=V' k b;omega
section
variable{p:Int}{n r:Nat}{B:Nat->Vc}{l:DK}{w:Vc}
structure Ht(p:Int)(n r:Nat)(B:Nat->Vc)(l:DK)(w:Vc)(k:Nat)(R:Vc):Prop where
 o7 : ∀i,i<n->0<=R i/\R i<p
 Gd : ∀q,q<k->R (l q)=0
 eqv : ∀G,(∀k,k<r->Span p n G (B k))->(Span p n G w↔Span p n G R)
theorem Ht.next(Y:Pr p)(hb:nr p n r B l)(h:Ht p n r B l w k R)(hk:k<r):Ht p n r B l w (k+1) (n9 p (B k) (l k) R):=by
 have p0:=Y.pos;refine⟨λi _=>⟨Ot _ ⋯,Oe _ p0⟩,λq hq=>?_,λG I=>?_⟩
 ·unfold n9
  rcases NU q k with z | z
  ·rw[h.Gd q z,hb.p9 k q hk ⋯ ⋯];simp
  ·have:q=k:=by omega
   subst this;rw[hb.one q hk];simp
 ·rw[h.eqv G I]
  exact⟨λO=>ZA (I k hk) O,λO=>WG (I k hk) O⟩
theorem YO(O:q<=r)(hk:k<r+1):(k=q/\Jz q x f k=x)\/∃I,I<r/\Jz q x f k=f I/\((k<q/\I=k)\/(q<k/\I+1=k)):=by
 unfold Jz;rcases Sg k q with z | z | z
 ·right;exact⟨k,by omega,by rw[DZ z],.inl ⟨z,rfl⟩⟩
 ·left;subst z;exact⟨rfl,by rw[DJ (Bc _),DZ rfl]⟩
 ·right;exact⟨k - 1,by omega,by rw[DJ ⋯,DJ ⋯],.inr ⟨z,by omega⟩⟩
theorem W_:Jz q x f q=x:=by unfold Jz;rw[DJ (Bc _),DZ rfl]
theorem Ap : ∃I,(I<q/\I=k\/q<I/\I=k+1)/\Jz q x f I=f k:=by
 rcases NU k q with z | z
 ·exact⟨k,.inl ⟨z,rfl⟩,by unfold Jz;rw[DZ z]⟩
 ·exact⟨k+1,.inr ⟨by omega,rfl⟩,by unfold Jz;rw[DJ ⋯,DJ ⋯];rfl⟩
theorem Aq(hp:Pr p)(hb:nr p n r B l)(ha:a<n)(h1:R a=1)(hz : ∀i,i<a->R i=0)(hl : ∀k,k<r->R (l k)=0)(hR : ∀i,i<n->0<=R i/\R i<p) :
 nr p n (r+1) (Jz (Zt l r a) R λk=>n9 p R a<|B k) (Jz (Zt l r a) a l):=by
 have p0:=hp.pos;have a8 : ∀k,k<r->l k≠a:=λk hk e=>by have:=hl k hk;rw[e,h1]at this;omega
 obtain⟨hq,q1,q2⟩:=KB hb.mono a8;have cr : ∀(w:Vc) i,0<=n9 p R a w i/\n9 p R a w i<p:=λw i=>⟨Ot _ ⋯,Oe _ p0⟩;have ca : ∀w:Vc,n9 p R a w a=0:=λw=>by unfold n9;rw[h1,PJ,Int.sub_self];simp
 have cl : ∀(w:Vc) k,k<r->0<=w (l k)->w (l k)<p->n9 p R a w (l k)=w (l k):=λw k hk h1 h2=>by unfold n9;rw[hl k hk,Ry,UP];exact Rh h1 h2
 have cb : ∀k j,k<r->j<l k->n9 p R a (B k) j=0:=λk j hk hj=>by
  unfold n9;rw[hb.u9 k j hk hj];rcases NU a (l k)with z | z
  ·rw[hb.u9 k a hk z];simp
  ·rw[hz j ⋯];simp
 have two:=hp.two;have Y : ∀k,k<r+1->(k=Zt l r a/\Jz (Zt l r a) R (λk=>n9 p R a<|B k) k=R/\Jz (Zt l r a) a l k=a)\/
  ∃I,I<r/\Jz (Zt l r a) R (λk=>n9 p R a<|B k) k=n9 p R a (B I)/\Jz (Zt l r a) a l k=l I/\((k<Zt l r a/\I=k)\/(Zt l r a<k/\I+1=k)):=by
  intro k hk;rcases YO (x:=R) (f:=λk=>n9 p R a<|B k) hq hk with⟨e1,e2⟩ | ⟨I,O,e1,e2⟩
  ·left;refine⟨e1,e2,?_⟩;subst e1;exact W_
  ·right
   refine⟨I,O,e1,?_,e2⟩;rcases e2 with⟨z1,z2⟩ | ⟨z1,z2⟩
   ·unfold Jz;rw[DZ z1,z2]
   ·unfold Jz;rw[DJ ⋯,DJ ⋯];congr 1;omega
 refine⟨λk hk=>?_,λk m ak hm=>?_,λk hk=>?_,λk j hk hj=>?_,λk m hk hm am=>?_,λk i hk hi=>?_⟩
 ·rcases Y k hk with⟨_,_,e⟩ | ⟨I,O,_,e,_⟩
  ·rw[e];exact ha
  ·rw[e];exact hb.lt I O
 ·rcases Y k ⋯with⟨z,_,e⟩ | ⟨I,O,_,e,z⟩<;>rcases Y m hm with⟨z',_,e'⟩ | ⟨m',a0,_,e',z'⟩<;>rw[e,e']
  ·omega
  ·exact q2 m' ⋯ a0
  ·exact q1 I ⋯
  ·exact hb.mono I m' ⋯ a0
 ·rcases Y k hk with⟨_,e1,e⟩ | ⟨I,O,e1,e,_⟩<;>rw[e1,e]
  ·exact h1
  ·have o:=hb.one I O
   rw[cl _ I O ⋯ ⋯];exact o
 ·rcases Y k hk with⟨_,e1,e⟩ | ⟨I,O,e1,e,_⟩<;>rw[e1]<;>rw[e]at hj
  ·exact hz j hj
  ·exact cb I j O hj
 ·rcases Y k hk with⟨z,e1,_⟩ | ⟨I,O,e1,_,z⟩<;>rcases Y m hm with⟨z',_,e'⟩ | ⟨m',a0,_,e',z'⟩<;>rw[e1,e']
  ·omega
  ·exact hl m' a0
  ·exact ca _
  ·have o:=hb.p9 I m' O a0 ⋯
   rw[cl _ m' a0 ⋯ ⋯];exact o
 ·rcases Y k hk with⟨_,e1,_⟩ | ⟨I,O,e1,_,_⟩<;>rw[e1]
  ·exact hR i hi
  ·exact cr _ _
theorem Ar(z:q<=r)(I:Span p n G R)(O : ∀k,k<r->Span p n G (F k)) : ∀g,h9 (r+1) (Jz q R F) g->Span p n G g:=by
 rintro g ⟨k,hk,rfl⟩;rcases YO (x:=R) (f:=F) z hk with⟨_,e⟩ | ⟨Y,a0,e,_⟩<;>rw[e]
 ·exact I
 ·exact O Y a0
theorem Ag(I:q<=r):h9 (r+1) (Jz q R F) R/\∀k,k<r->h9 (r+1) (Jz q R F) (F k):=by refine⟨⟨q,by omega,W_.symm⟩,λk hk=>?_⟩;obtain⟨z,h,e⟩:=Ap (q:=q) (x:=R) (f:=F) (k:=k);exact⟨z,by omega,e.symm⟩
theorem pe(hp:Pr p)(hb:nr p n r B l)(ha:a<n)(hs : ∀v,Span p n (h9 r B) v↔Span p n (h9 j W) v)(O:Ht p n r B l (W j) r R)(hy:y*R a%p=1)(Y : ∀i,i<n->R' i=y*R i%p)(hq:Zt l r a<=r)(v:Vc) :
 Span p n (h9 (r+1)<|Jz (Zt l r a) R' λk=>n9 p R' a<|B k) v↔Span p n (h9 (j+1) W) v:=by
 have up : ∀v,Span p n (h9 j W) v->Span p n (h9 (j+1) W) v:=λv I=>I.le λg ⟨i,hi,e⟩=> .gen ⟨i,by omega,e⟩;have a1 : ∀k,k<r->Span p n (h9 (j+1) W) (B k):=λk hk=>up _<|(hs _).mp (.gen ⟨k,hk,rfl⟩);have a7:Span p n (h9 (j+1) W) R:=(O.eqv _ a1).mp (.gen ⟨j,by omega,rfl⟩);have a2:Span p n (h9 (j+1) W) R':=(a7.smul y).congr λi hi=>by rw[Y i hi,Ou]
 obtain⟨m1,m2⟩:=Ag (R:=R') (F:=λk=>n9 p R' a<|B k) hq;have a3:Span p n (h9 (r+1)<|Jz (Zt l r a) R' λk=>n9 p R' a<|B k) R':= .gen m1;have gB : ∀k,k<r->Span p n (h9 (r+1)<|Jz (Zt l r a) R' λk=>n9 p R' a<|B k) (B k):=λk hk=>WG (t:=a) a3<|.gen<|m2 k hk;have gR:Span p n (h9 (r+1)<|Jz (Zt l r a) R' λk=>n9 p R' a<|B k) R:=(a3.smul<|R a).congr λi hi=>by rw[Y i hi,qx,<- OP,Pe (R a) y,ND,hy,TL,Ou]
 constructor
 ·exact λI=>I.le<|Ar hq a2 λk hk=>ZA a2<|a1 k hk
 ·refine λI=>I.le ?_
  rintro g ⟨i,hi,rfl⟩;rcases NU i j with z | z
  ·exact((hs _).mpr (.gen ⟨i,z,rfl⟩)).le λg hZ=>by obtain⟨k,hk,e⟩:=hZ;rw[e];exact gB k hk
  ·have:i=j:=by omega
   subst this;exact(O.eqv _ gB).mpr gR
theorem fE(hs : ∀v,Span p n (h9 r B) v↔Span p n (h9 j W) v)(O:Ht p n r B l (W j) r R)(h0 : ∀i,i<n->R i=0)(v:Vc):Span p n (h9 r B) v↔Span p n (h9 (j+1) W) v:=by
 constructor
 ·exact λI=>((hs v).mp I).le λg ⟨i,hi,e⟩=> .gen ⟨i,by omega,e⟩
 ·refine λI=>I.le ?_
  rintro g ⟨i,hi,rfl⟩;rcases NU i j with z | z
  ·exact(hs _).mpr (.gen ⟨i,z,rfl⟩)
  ·have:i=j:=by omega
   subst this;exact(O.eqv _ λk hk=> .gen ⟨k,hk,rfl⟩).mpr (.zero λi hi=>by rw[h0 i hi];simp)
end
@[simp] theorem wY(h w f):(yi h w f).length=h:=by simp[yi]
section
variable{p:Int}{n m r:Nat}{G:Vc->Prop}
theorem Span.sum{u:Nat->Vc}(c:Nat->Int) : ∀{m:Nat},(∀k,k<m->Span p n G (u k))->Span p n G λi=>zf (λk=>c k*u k i) m
 | 0,_=> .zero λi _=>by simp[zf]
 | m+1,h=>(((h m ⋯).add (Span.sum c (m:=m) λk hk=>h k ⋯) (c m))).congr λi _=>by simp[zf]
def Rk(p:Int)(n m:Nat)(W:Nat->Vc)(r:Nat):Prop:=∃B l,nr p n r B l/\∀v,Span p n (h9 r B) v↔Span p n (h9 m W) v
theorem Vy(O:Pr p)(h:Rk p n m W r)(h':Rk p n m W r'):r=r':=by obtain⟨B,l,hb,hs⟩:=h;obtain⟨B',l',Y,I⟩:=h';exact(lE O hb Y (λv z=>(I v).mpr ((hs v).mp z))<|λv z=>(hs v).mpr ((I v).mp z)).1
theorem WY(z:Pr p)(hb:nr p n r B l)(hw : ∀i,i<n->0<=w i/\w i<p) : ∀k,k<=r->∃R,Ht p n r B l w k R
 | 0,_=>⟨w,hw,λq I=>absurd I<|Ob _,λG _=>Iff.rfl⟩
 | k+1,h=>by obtain⟨R,O⟩:=WY z hb hw k ⋯;exact⟨_,O.next z hb ⋯⟩
theorem aU : ∀(n:Nat) (R:Vc),(∀i,i<n->R i=0)\/∃a,a<n/\R a≠0/\∀i,i<a->R i=0
 | 0,R=> .inl λi hi=>absurd hi<|Ob _
 | n+1,R=>by
  rcases aU n R with h | ⟨a,h1,h2,I⟩
  ·by_cases e:R n=0
   ·exact .inl λi hi=>by rcases NU i n with z | z;exact h i z;rw[show i=n by omega];exact e
   ·exact .inr ⟨n,by omega,e,h⟩
  ·exact .inr ⟨a,by omega,h2,I⟩
theorem rH(z:Pr p)(W:Nat->Vc)(Y : ∀j i,0<=W j i/\W j i<p) : ∀m,∃r,r<=m/\Rk p n m W r
 | 0=>⟨0,NJ _,λ_ _=>0,λ_=>0,⟨λk hk=>absurd hk<|Ob _,λk q _ hk=>absurd hk<|Ob _,λk hk=>absurd hk<|Ob _,λk j hk=>absurd hk<|Ob _,λk q hk=>absurd hk<|Ob _,λk i hk=>absurd hk<|Ob _⟩,
  λv=>⟨λO=>O.le λg ⟨k,hk,_⟩=>absurd hk<|Ob _,λO=>O.le λg ⟨k,hk,_⟩=>absurd hk<|Ob _⟩⟩
 | m+1=>by
  obtain⟨r,hr,B,l,hb,hs⟩:=rH z W Y m;have p0:=z.pos;obtain⟨R,I⟩:=WY z hb (w:=W m) (λi _=>Y m i) r<|NJ _;rcases aU n R with h0 | ⟨a,ha,a2,a3⟩
  ·exact⟨r,by omega,B,l,hb,fE hs I h0⟩
  ·have a4:=I.o7 a ha
   obtain⟨y,_,_,hy⟩:=si z (x:=R a) ⋯ a4.2;have a5 : ∀k,k<r->l k≠a:=λk hk e=>by have:=I.Gd k hk;rw[e]at this;exact a2 this
   exact⟨r+1,by omega,_,_,Aq z hb (R:=λi=>(y:Int)*R i%p) ha hy (λi hi=>by rw[a3 i hi];simp) (λk hk=>by rw[I.Gd k hk];simp) λi _=>⟨Ot _ ⋯,Oe _ p0⟩,
    pe z (R':=λi=>(y:Int)*R i%p) hb ha hs I hy (λi _=>rfl) (KB hb.mono a5).1⟩
theorem WX(z:Pr p)(m:Nat)(W:Nat->Vc) : ∃r,r<=m/\Rk p n m W r:=by
 obtain⟨r,I,B,l,hb,hs⟩:=rH (n:=n) z (λj i=>W j i%p) (λj i=>⟨Ot _ (by have:=z.pos;omega),Oe _ z.pos⟩) m;refine⟨r,I,B,l,hb,λv=>(hs v).trans ⟨λh=>h.le λg ⟨k,hk,e⟩=>?_,λh=>h.le λg ⟨k,hk,e⟩=>?_⟩⟩
 ·subst e;exact(Span.gen (g:=W k) ⟨k,hk,rfl⟩).congr λi _=>by rw[Ou]
 ·subst e;exact(Span.gen (g:=λi=>W k i%p) ⟨k,hk,rfl⟩).congr λi _=>by rw[Ou]
theorem Cd(hp:Pr p)(h:Rk p n m W r)(h':Rk p n m' W' r')(hw : ∀j,j<m->Span p n (h9 m' W') (W j)):r<=r':=by
 obtain⟨B,l,hb,hs⟩:=h;obtain⟨B',l',O,a2⟩:=h';have s1 : ∀k,k<r->∃q,q<r'/\l' q=l k:=λk hk=>VW O ((a2 _).mpr (((hs _).mp (.gen ⟨k,hk,rfl⟩)).le λg ⟨j,hj,e⟩=>e ▸ hw j hj)) (hb.lt k hk) (by rw[hb.one k hk,hp.one];decide) λi hi=>by rw[hb.u9 k i hk hi];simp
 have a4 : ∀k,k<r->∀q,q<r'->l' q=l k->k<=q:=by
  intro k
  induction k with
  | zero=>intro _ q _ _;exact Pf _
  | succ k ih=>
   intro hk q Y e;obtain⟨I,a0,e0⟩:=s1 k ⋯;have h1:=ih ⋯ I a0 e0;have h2:=hb.mono k (k+1) ⋯ hk;rcases NU I q with z | z
   ·omega
   ·rcases NU q I with y | y
    ·have:=O.mono q I y a0
     omega
    ·have:q=I:=by omega
     subst this;omega
 rcases Nat.eq_zero_or_pos r with z | z
 ·omega
 ·obtain⟨q,Y,e⟩:=s1 (r - 1) ⋯
  have:=a4 (r - 1) ⋯ q Y e;omega
end
section
variable{p:Int}{n m r h w:Nat}
theorem vE{l:DK}(h:Nat) : ∀{r:Nat},(∀k m,k<m->m<r->l k<l m)->∃s,s<=r/\(∀k,k<s->l k<h)/\∀k,s<=k->k<r->h<=l k
 | 0,_=>⟨0,NJ _,λk hk=>absurd hk<|Ob _,λk _ hk=>absurd hk<|Ob _⟩
 | r+1,hm=>by
  obtain⟨s,h1,h2,I⟩:=vE h (r:=r) λk m hk O=>hm k m hk ⋯;by_cases e:l r<h
  ·refine⟨r+1,NJ _,λk hk=>?_,λk h1 h2=>by omega⟩
   rcases NU k r with z | z
   ·have:=hm k r z ⋯;omega
   ·have:k=r:=by omega
    subst this;exact e
  ·refine⟨s,by omega,h2,λk hk Y=>?_⟩
   rcases NU k r with z | z
   ·exact I k hk z
   ·have:k=r:=by omega
    subst this;omega
theorem V7(hs:s<=r)(h1 : ∀k,k<s->q k=d7)(h2 : ∀k,s<=k->k<r->q k=cL):(Nu r).filter q=(Nu<|r - s).map (s + ·):=by
 obtain⟨d,rfl⟩ : ∃d,r=s+d:=⟨r - s,by omega⟩;rw[Ti,Te];have e1:(Nu s).filter q=[]:=List.filter_eq_nil_iff.mpr λk hk=>by rw[h1 k (NA.mp hk)];decide
 have e2:((Nu d).map (s + ·)).filter q=(Nu d).map (s + ·):=List.filter_eq_self.mpr λk hk=>by obtain⟨i,hi,rfl⟩:=Rf.mp hk;exact h2 _ ⋯ (by have:=NA.mp hi;omega)
 rw[e1,e2,Oh];rfl
def qg(h:Nat)(u v:Vc):Vc:=λi=>if i<h then u i else v (i - h)
def jF(j:Nat):Vc:=λk=>if j=k then 1 else 0
theorem zW(hi:i<h):qg h u v i=u i:=DZ hi
theorem jd(i:Nat):qg h u v (h+i)=v i:=by unfold qg;rw[DJ ⋯,Oh]
theorem yh(h w:Nat)(u v:Vc):zR h u++zR w v=zR (h+w) (qg h u v):=by
 unfold zR;rw[Ti,OM];congr 1
 ·exact NQ λi hi=>by rw[zW (NA.mp hi)]
 ·rw[OO]
  exact NQ λi _=>by simp only[Function.comp];rw[jd]
theorem iP(h w:Nat)(v:Vc):(zR (h+w) v).take h=zR h v:=by unfold zR;rw[<- List.map_take,List.take_range,RY (OX h w)]
theorem iQ(h w:Nat)(v:Vc):(zR (h+w) v).drop h=zR w λj=>v (h+j):=by unfold zR;rw[Ti,OM,List.drop_append_of_le_length ⋯,List.drop_eq_nil_of_le ⋯,OO];rfl
theorem bp(h w:Nat)(v:Vc):Zs (zR (h+w) v) cR (cI (h:Int))=zR h v:=by
 have c : ¬((h:Int)<0):=by omega
 have e:min h (h+w)=h:=RY<|OX h w;simp[Zs,QE,c,e,iP]
theorem bo(h w:Nat)(v:Vc):Zs (zR (h+w) v) (cI (h:Int)) cR=zR w λj=>v (h+j):=by
 have c : ¬((h:Int)<0):=by omega
 have e:min h (h+w)=h:=RY<|OX h w;have t : ∀g:Vc,(zR w g).take w=zR w g:=λg=>Pu ⋯;simp[Zs,QE,c,e,iQ,t]
theorem mJ(v:Vc) : ∀n,XO (zR n v)=cI ((Nu n).map λi=>v i != 0)
 | 0=>rfl
 | n+1=>by
  have z : ∀l:List Nat,XO (l.map λi=>D.int<|v i)=cI (l.map λi=>v i != 0):=by
   intro l
   induction l with
   | nil=>rfl
   | cons a l I=>simp[XO,FQ,I]
  exact z _
theorem yp(hb:nr p (h+w) r B l)(I:r<=lim)(hs:s<=r)(h1 : ∀k,k<s->l k<h)(h2 : ∀k,s<=k->k<r->h<=l k) :
 jO [.int h,.lst (zV r (h+w) B)]=cI (.own<|zV (r - s) w λk j=>B (s+k)<|h+j):=by
 have z:z7 (.nm 0) (kz<|sB<|Hw<|zM<|Vt (ze 0) KQ<|vl<|ze 1) (Vt (ze 0) (vl<|ze 1) KQ) [Cell.no,Cell.val (.int h)] (zV r (h+w) B)=cI (((Nu r).filter λk=>decide<|h<=l k).map λk=>D.tup<|zR w λj=>B k<|h+j):=by
  unfold zV;refine jR (λk=>decide<|h<=l k) _ _ λk hk=>⟨_,rfl,?_,λO=>?_⟩
  ·have hk:=NA.mp hk
   simp[bp,mJ];by_cases e:h<=l k
   ·simp[e]
    intro i hi;have:=hb.u9 k i hk ⋯;simp[this]
   ·simp[e]
    exact⟨l k,by omega,by rw[hb.one k hk];decide⟩
  ·simp[bo]
 rw[V7 hs (λk hk=>decide_eq_false (by have:=h1 k hk;omega)) (λk a b=>decide_eq_true<|h2 k a b)]at z;simp[jO,jo,jt,I,jA,qM,NB,z];unfold zV;rfl
def I_(p:Int)(h w:Nat)(f:DW)(v:Vc):Prop:=∀i,i<h->zf (λj=>f i j*v j) w%p=0
theorem nZ{f:DW}{v:Vc}(I:Span p (h+w) (h9 w λj=>qg h (λi=>f i j)<|jF j) v) : ∀i,i<h->v i%p=zf (λj=>f i j*v (h+j)) w%p:=by
 induction I with
 | @zero v hz=>
  intro i hi;rw[hz i ⋯];have:zf (λj=>f i j*v (h+j)) w%p=zf (λ_=>0) w%p:=zy λj O=>by rw[ND,hz (h+j) ⋯];simp
  rw[this,zz];rfl
 | @step v u g c Y hu z ih=>
  intro i hi;obtain⟨m,hm,rfl⟩:=Y;rw[z i ⋯,NS,ih i hi,<- NS];have e1:zf (λj=>f i j*v (h+j)) w%p=zf (λj=>f i j*u (h+j)+c*(f i j*jF m j)) w%p:=zy λj O=>by rw[ND,z (h+j) ⋯,<- ND];simp only[jd];rw[Sv,Rg]
  rw[e1,jf,zZ,zK (f:=λj=>f i j*jF m j) hm λj _ a1=>by simp[jF,OQ a1]];simp[jF,zW hi]
theorem WE(z:Pr p)(w:Nat):nr p w w jF id where
 lt:=λk hk=>hk
 mono:=λk m hk _=>hk
 one:=λk _=>DZ rfl
 u9:=λk j _ I=>DJ (by simp only[id]at I;omega)
 p9:=λk m _ _ O=>DJ (by simp only[id];omega)
 o7:=λk i _ _=>by have:=z.two;unfold jF;split<;>omega
theorem Span.map(t:DK)(z : ∀i,i<n'->t i<n)(I : ∀g,G g->Span p n' G' λi=>g<|t i)(O:Span p n G v):Span p n' G' λi=>v (t i):=by
 induction O with
 | @zero v hz=>exact .zero λi hi=>hz _<|z i hi
 | @step v u g c Y hu he ih=>exact((I _ Y).add ih c).congr λi hi=>he _<|z i hi
theorem JQ(hp:Pr p)(hh:h<=20)(hw:w<=20)(f:DW) :
 ∃q K l s,ZG [.int p,jU h w f]=cI (.own<|zV q w K)/\nr p w q K l/\(∀v,Span p w (h9 q K) v↔I_ p h w f v)/\Rk p h w (λj i=>f i j) s/\q+s=w:=by
 have hl:=jy;have a6:h<=lim:=by omega
 have a2:w<=lim:=by omega
 have a7:h+w<=lim:=by omega
 obtain⟨r,B,l,e,hb,a1⟩:=xA hp (show h+w<=100 by omega) a2 .L λj=>qg h (λi=>f i j)<|jF j;have a8 : ∀v,Span p (h+w) (h9 r B) v->∀i,i<h->v i%p=zf (λj=>f i j*v (h+j)) w%p:=λv O=>nZ<|(a1 v).mp O;have a9:r<=w:=by obtain⟨r',h1,h2⟩:=WX hp (n:=h+w) w λj=>qg h (λi=>f i j)<|jF j;rw[Vy hp ⟨B,l,hb,a1⟩ h2];exact h1
 have aa:w<=r:=by obtain⟨r',h1,h2⟩:=WX hp (n:=w) r λk j=>B k<|h+j;refine OH (Cd hp (m:=w) (W:=jF) ⟨jF,id,WE hp w,λv=>Iff.rfl⟩ h2 λj I=>?_) h1;have:=Span.map (n':=w) (G':=h9 r λk j=>B k<|h+j) (λi=>h+i) (λi hi=>by omega) (λg ⟨k,hk,Y⟩=> .gen ⟨k,hk,by rw[Y]⟩)<|(a1<|qg h (λi=>f i j)<|jF j).mpr (.gen ⟨j,I,rfl⟩);exact this.congr λi _=>by rw[jd]
 have er:r=w:=Nat.le_antisymm a9 aa;subst er;obtain⟨s,hs,s1,s2⟩:=vE h hb.mono;have eb:=yp hb a2 hs s1 s2;have ac:nr p r (r - s) (λk j=>B (s+k)<|h+j) (λk=>l (s+k) - h):={
  lt:=λk hk=>by have:=hb.lt (s+k) ⋯;have:=s2 (s+k) ⋯ ⋯;omega
  mono:=λk m hk hm=>by have:=hb.mono (s+k) (s+m) ⋯ ⋯;have:=s2 (s+k) ⋯ ⋯;omega
  one:=λk hk=>by have:=s2 (s+k) ⋯ ⋯;rw[show h+(l (s+k) - h)=l (s+k)by omega];exact hb.one _ ⋯
  u9:=λk j hk I=>hb.u9 _ _ ⋯ ⋯
  p9:=λk m hk hm a3=>by have:=s2 (s+m) ⋯ ⋯;rw[show h+(l (s+m) - h)=l (s+m)by omega];exact hb.p9 _ _ ⋯ ⋯ ⋯
  o7:=λk i hk hi=>hb.o7 _ _ ⋯ ⋯}
 refine⟨r - s,_,_,s,?_,ac,λv=>⟨λO=>?_,λO=>?_⟩,?_,by omega⟩
 ·have ov:=x9 f a6 a2
  have sm:=wo (n:=r) a2;have ae:z7 (.tp [0,1]) jS (zw qb (ze 0)<|ze 1) [Cell.no,Cell.no] ((Nu r).map λj=>D.tup [.tup (zR h λi=>f i j),.tup (zR r λk=>if j=k then 1 else 0)])=cI (zV r (h+r) λj=>qg h (λi=>f i j)<|jF j):=by unfold zV;refine zA _ _ λj I=>zE rfl rfl ?_;simp[qb,a7,yh];rfl
  have zp:KZ (zV r h λi j=>f j i) (zV r r λi j=>if i=j then 1 else 0)=(Nu r).map λj=>D.tup [.tup (zR h λi=>f i j),.tup (zR r λk=>if j=k then 1 else 0)]:=by unfold KZ zV;rw[Uy];simp
  have c1:((h:Int)+(r:Int))=((h+r:Nat):Int):=by omega
  simp only[BS]at e;rw[<- c1]at e;unfold jU at ov sm ⊢;have nl : ∀T t f γ,z7 T t f γ []=cI []:=λ_ _ _ _=>rfl;simp[ZG,qp,jo,jt,jC,ov,sm,zp,a2,jA,NB,ae,nl,e,eb]
 ·intro i hi
  induction O with
  | @zero v hz=>
   have:zf (λj=>f i j*v j) r%p=zf (λ_=>0) r%p:=zy λj I=>by rw[ND,hz j I];simp
   rw[this,zz];rfl
  | @step v u g c hg hu he ih=>
   obtain⟨k,hk,rfl⟩:=hg;have e1:zf (λj=>f i j*v j) r%p=zf (λj=>f i j*u j+c*(f i j*B (s+k) (h+j))) r%p:=zy λj I=>by rw[ND,he j I,<- ND,Sv,Rg]
   have e2:=a8 (B<|s+k) (.gen ⟨s+k,by omega,rfl⟩) i hi;have e3:B (s+k) i=0:=hb.u9 _ _ ⋯ (by have:=s2 (s+k) ⋯ ⋯;omega);rw[e3]at e2;rw[e1,jf,zZ,NS,ih,ND,<- e2];simp
 ·
  have as:Span p (h+r) (h9 r B) (qg h (λ_=>0) v):=by
   refine(a1 _).mpr ((Span.sum (u:=λj=>qg h (λi=>f i j)<|jF j) v (m:=r) λj I=> .gen ⟨j,I,rfl⟩).congr λi hi=>?_);rcases NU i h with z | z
   ·simp only[zW z]
    rw[zk (g:=λj=>f i j*v j) λj _=>Pe _ _,O i z];simp
   ·obtain⟨k,rfl⟩ : ∃k,i=h+k:=⟨i - h,by omega⟩
    simp only[jd];rw[zK (f:=λj=>v j*jF j k) (i:=k) ⋯ λj _ a3=>by simp[jF,a3]];simp[jF]
  have co:=Wc hb as;refine(Span.sum (u:=λk j=>B (s+k)<|h+j) (λk=>qg h (λ_=>0) v<|l<|s+k) (m:=r - s) λk hk=> .gen ⟨k,hk,rfl⟩).congr λj I=>?_;have:=co (h+j) ⋯;rw[jd]at this;rw[this];obtain⟨d,rfl⟩ : ∃d,r=s+d:=⟨r - s,by omega⟩;rw[Oh];have sp : ∀(F:Nat->Int) (d:Nat),(∀k,k<s->F k=0)->zf F (s+d)=zf (λk=>F<|s+k) d:=by
   intro F d hF
   induction d with
   | zero=>
    show zf F s=0;rw[zk (g:=λ_=>0) hF,zz]
   | succ d ih=>rw[<- Nat.add_assoc];simp only[zf];rw[ih]
  rw[sp _ d λk hk=>by rw[zW (s1 k hk)];simp]
 ·
  refine⟨λk i=>B k i,l,⟨λk hk=>s1 k hk,λk m hk hm=>hb.mono k m hk ⋯,λk hk=>hb.one k ⋯,λk j hk I=>hb.u9 k j ⋯ I,λk m hk hm a3=>hb.p9 k m ⋯ ⋯ a3,λk i hk hi=>hb.o7 k i ⋯ ⋯⟩,λv=>⟨λO=>O.le λg ⟨k,hk,Y⟩=>?_,λO=>O.le λg ⟨j,I,Y⟩=>?_⟩⟩
  ·subst Y
   exact Span.map (n':=h) (G':=h9 r λj i=>f i j) (λi=>i) (λi hi=>by omega) (λg ⟨j,I,Y⟩=>(Span.gen (g:=λi=>f i j) ⟨j,I,rfl⟩).congr λi hi=>by rw[Y];simp only[zW hi])<|(a1<|B k).mp (.gen ⟨k,by omega,rfl⟩)
  ·subst Y
   have:=Span.map (n':=h) (G':=h9 s λk i=>B k i) (λi=>i) (λi hi=>by omega) (λg hZ=>by
    obtain⟨k,hk,Y⟩:=hZ;subst Y;rcases NU k s with z | z
    ·exact .gen ⟨k,z,rfl⟩
    ·exact .zero λi hi=>by rw[hb.u9 k i hk (by have:=s2 k z hk;omega)];simp) ((a1<|qg h (λi=>f i j)<|jF j).mpr (.gen ⟨j,I,rfl⟩))
   exact this.congr λi hi=>by rw[zW hi]
end
section
variable{p:Int}{h w q r:Nat}
def app(f:DW)(w:Nat)(v:Vc):Vc:=λi=>zf (λj=>f i j*v j) w
theorem JL(z : ∀j,j<w->v j%p=(u j+c*g j)%p)(i:Nat):app f w v i%p=(app f w u i+c*app f w g i)%p:=by
 unfold app;have e:zf (λj=>f i j*v j) w%p=zf (λj=>f i j*u j+c*(f i j*g j)) w%p:=zy λj I=>by rw[ND,z j I,<- ND,Sv,Rg]
 rw[e,jf,zZ]
theorem ZF(hz : ∀j,j<w->v j%p=0)(i:Nat):app f w v i%p=0:=by
 unfold app;have:zf (λj=>f i j*v j) w%p=zf (λ_=>0) w%p:=zy λj z=>by rw[ND,hz j z];simp
 rw[this,zz];rfl
theorem kT(z : ∀j,j<w->v j%p=u j%p)(i:Nat):app f w v i%p=app f w u i%p:=by unfold app;exact zy λj I=>by rw[ND,z j I,<- ND]
theorem Wr(hp:Pr p)(hh:h<=100)(hw:w<=lim)(hq:q<=lim)(f:DW)(hf : ∀i j,i<h->j<w->0<=f i j/\f i j<100)(K:Nat->Vc) :
 ∃r B l,yl [.int p,jU h w f,.lst (zV q w K)]=cI (.own<|zV r h B)/\nr p h r B l/\∀v,Span p h (h9 r B) v ↔ ∃y,Span p w (h9 q K) y/\∀i,i<h->v i%p=app f w y i%p:=by
 have hl:=jy;obtain⟨r,B,l,e,hb,a6⟩:=xA hp hh hq .L λk i=>app f w (K k) i%p;refine⟨r,B,l,?_,hb,λv=>(a6 v).trans ⟨λz=>?_,λ⟨y,I,z⟩=>?_⟩⟩
 ·have a7:z7 (.nm 0) jS (zJ lX<|zc (ze 1)<|zc (ze 2)<|zc (ze 0) zG) [Cell.no,Cell.val<|.int p,Cell.val (jU h w f)] (zV q w K)=cI (zV q h λk i=>app f w (K k) i%p):=by
   unfold zV;refine zA _ _ λk hk=>zE rfl rfl ?_;have:=rf (p:=p) .T f (K k) hp.pos (show h<=lim by omega) hw hf;simp only[BS]at this;simp[this];rfl
  simp only[BS]at e;have sq:jg (jU h w f)=cI (.T,[.int h,.int w,.tup (zV h w f)]):=rfl;simp[yl,jo,jt,hq,jA,qM,NB,a7,sq,e]
 ·induction z with
  | @zero v hz=>exact⟨λ_=>0,.zero λi _=>by simp,λi hi=>by rw[hz i hi,ZF (p:=p) (λ_ _=>by simp)]⟩
  | @step v u g c O hu Y ih=>
   obtain⟨y,I,a8⟩:=ih;obtain⟨k,hk,rfl⟩:=O;refine⟨λj=>y j+c*K k j,(Span.gen (g:=K k) ⟨k,hk,rfl⟩).add I c,λi hi=>?_⟩;rw[JL (p:=p) (u:=y) (g:=K k) (c:=c) (λ_ _=>rfl) i,Y i hi,NS,a8 i hi,ND,Ou,<- ND,<- NS]
 ·induction I generalizing v with
  | @zero y hz=>exact .zero λi hi=>by rw[z i hi];exact ZF hz i
  | @step y u g c O hu Y ih=>
   obtain⟨k,hk,rfl⟩:=O;have h1:=ih (app f w u) ⟨u,hu,λ_ _=>rfl⟩ λi hi=>rfl;refine((Span.gen (g:=λi=>app f w (K k) i%p) ⟨k,hk,rfl⟩).add h1 c).congr λi hi=>?_;rw[z i hi,JL (p:=p) Y i,NS,ND,<- Ou (app f w (K k) i),<- ND,<- NS,Ou]
theorem QO(hb:nr p (h+w) r B l)(hs:s<=r)(s1 : ∀k,k<s->l k<h)(s2 : ∀k,s<=k->k<r->h<=l k) :
 nr p w (r - s) (λk j=>B (s+k)<|h+j) (λk=>l (s+k) - h)/\∀v,Span p w (h9 (r - s) λk j=>B (s+k)<|h+j) v↔Span p (h+w) (h9 r B) (qg h (λ_=>0) v):=by
 refine⟨{
  lt:=λk hk=>by have:=hb.lt (s+k) ⋯;have:=s2 (s+k) ⋯ ⋯;omega
  mono:=λk m hk hm=>by have:=hb.mono (s+k) (s+m) ⋯ ⋯;have:=s2 (s+k) ⋯ ⋯;omega
  one:=λk hk=>by have:=s2 (s+k) ⋯ ⋯;rw[show h+(l (s+k) - h)=l (s+k)by omega];exact hb.one _ ⋯
  u9:=λk j hk Y=>hb.u9 _ _ ⋯ ⋯
  p9:=λk m hk hm a3=>by have:=s2 (s+m) ⋯ ⋯;rw[show h+(l (s+m) - h)=l (s+m)by omega];exact hb.p9 _ _ ⋯ ⋯ ⋯
  o7:=λk i hk hi=>hb.o7 _ _ ⋯ ⋯},λv=>⟨λI=>?_,λI=>?_⟩⟩
 ·induction I with
  | @zero v hz=>
   refine .zero λi hi=>?_;rcases NU i h with z | z
   ·rw[zW z];simp
   ·obtain⟨k,rfl⟩ : ∃k,i=h+k:=⟨i - h,by omega⟩
    rw[jd];exact hz k ⋯
  | @step v u g c hg hu he O=>
   obtain⟨k,hk,rfl⟩:=hg;refine .step (g:=B<|s+k) (c:=c) ⟨s+k,by omega,rfl⟩ O λi hi=>?_;rcases NU i h with z | z
   ·rw[zW z,zW z,hb.u9 (s+k) i ⋯ (by have:=s2 (s+k) ⋯ ⋯;omega)];simp
   ·obtain⟨j,rfl⟩ : ∃k,i=h+k:=⟨i - h,by omega⟩
    rw[jd,jd];exact he j ⋯
 ·have co:=Wc hb I
  refine(Span.sum (u:=λk j=>B (s+k)<|h+j) (λk=>qg h (λ_=>0) v<|l<|s+k) (m:=r - s) λk hk=> .gen ⟨k,hk,rfl⟩).congr λj Y=>?_;have:=co (h+j) ⋯;rw[jd]at this;rw[this];obtain⟨d,rfl⟩ : ∃d,r=s+d:=⟨r - s,by omega⟩;rw[Oh];have sp : ∀(F:Nat->Int) (d:Nat),(∀k,k<s->F k=0)->zf F (s+d)=zf (λk=>F<|s+k) d:=by
   intro F d hF
   induction d with
   | zero=>
    show zf F s=0;rw[zk (g:=λ_=>0) hF,zz]
   | succ d O=>rw[<- Nat.add_assoc];simp only[zf];rw[O]
  rw[sp _ d λk hk=>by rw[zW (s1 k hk)];simp]
end
section
variable{p:Int}{h w q:Nat}
def qL(h w:Nat)(f:DW)(g:Nat->Vc):Nat->Vc:=λm=>if m<w then qg h (λi=>f i m) (jF m)else qg h (g<|m - w) (λ_=>0)
theorem iS(f:DW)(g:Nat->Vc):zV w (h+w) (λj=>qg h (λi=>f i j)<|jF j)++zV q (h+w) (λk=>qg h (g k) λ_=>0)=zV (w+q) (h+w) (qL h w f g):=by
 unfold zV;rw[Ti,OM,OO];congr 1
 ·refine NQ λm hm=>?_
  unfold qL;rw[DZ (NA.mp hm)]
 ·refine NQ λm hm=>?_
  simp only[Function.comp];unfold qL;rw[DJ ⋯,Oh]
theorem bu(f:DW)(z:j<w)(i:Nat):app f w (jF j) i=f i j:=by unfold app;rw[zK (f:=λk=>f i k*jF j k) z λk _ I=>by simp[jF,OQ I]];simp[jF]
theorem gz(hz:Span p (h+w) (h9 (w+q)<|qL h w f g) z):Span p h (h9 q g) λi=>z i - app f w (λj=>z<|h+j) i:=by
 induction hz with
 | @zero z hz=>
  refine .zero λi hi=>?_;rw[RI,hz i ⋯,ZF (p:=p) (λj hj=>hz (h+j) ⋯) i];simp
 | @step z u g' c hg hu Y ih=>
  obtain⟨m,hm,rfl⟩:=hg;have e2:=λi=>JL (p:=p) (w:=w) (f:=f) (u:=λj=>u<|h+j) (g:=λj=>qL h w f g m<|h+j) (v:=λj=>z<|h+j) (c:=c) (λj hj=>Y (h+j) ⋯) i;have a1 : ∀i,i<h->(z i - app f w (λj=>z<|h+j) i)%p=((u i - app f w (λj=>u<|h+j) i)+c*(qL h w f g m i - app f w (λj=>qL h w f g m<|h+j) i))%p:=λi hi=>by rw[RI,Y i ⋯,e2 i,<- RI];congr 1;rw[Int.mul_sub];omega
  rcases NU m w with I | I
  ·refine ih.congr λi hi=>?_
   rw[a1 i hi];have t:app f w (λj=>qL h w f g m<|h+j) i=f i m:=by
    have:(λj=>qL h w f g m<|h+j)=jF m:=by funext j;unfold qL;rw[DZ I,jd]
    rw[this,bu f I]
   have O:qL h w f g m i=f i m:=by unfold qL;rw[DZ I,zW hi]
   rw[t,O];simp
  ·refine .step (g:=g<|m - w) (c:=c) ⟨m - w,by omega,rfl⟩ ih λi hi=>?_
   rw[a1 i hi];have t:app f w (λj=>qL h w f g m<|h+j) i=0:=by
    have:(λj=>qL h w f g m<|h+j)=λ_=>0:=by funext j;unfold qL;rw[DJ ⋯,jd]
    rw[this];unfold app;simp[zz]
   have O:qL h w f g m i=g (m - w) i:=by unfold qL;rw[DJ ⋯,zW hi]
   rw[t,O];simp
theorem Aw(I:Span p h (h9 q g) y):Span p (h+w) (h9 (w+q)<|qL h w f g) (qg h y λ_=>0):=by
 induction I with
 | @zero y hz=>
  refine .zero λi hi=>?_;rcases NU i h with z | z
  ·rw[zW z];exact hz i z
  ·obtain⟨k,rfl⟩ : ∃k,i=h+k:=⟨i - h,by omega⟩
   rw[jd];simp
 | @step y u g' c O hu Y ih=>
  obtain⟨k,hk,rfl⟩:=O;refine .step (g:=qL h w f g<|w+k) (c:=c) ⟨w+k,by omega,rfl⟩ ih λi hi=>?_;have e:qL h w f g (w+k)=qg h (g k) λ_=>0:=by unfold qL;rw[DJ ⋯,Oh]
  rw[e];rcases NU i h with z | z
  ·rw[zW z,zW z,zW z];exact Y i z
  ·obtain⟨j,rfl⟩ : ∃k,i=h+k:=⟨i - h,by omega⟩
   rw[jd,jd,jd];simp
theorem KJ(hp:Pr p)(hh:h<=20)(hw:w<=20)(hq:q<=100)(f:DW)(g:Nat->Vc) :
 ∃r B l,qp [.int p,jU h w f,.lst (zV q h g)]=cI (.own<|zV r w B)/\nr p w r B l/\∀v,Span p w (h9 r B) v↔Span p h (h9 q g) (app f w v):=by
 have hl:=jy;have ab:h<=lim:=by omega
 have I:w<=lim:=by omega
 have O:h+w<=lim:=by omega
 have ac:q<=lim:=by omega
 have Y:w+q<=lim:=by omega
 obtain⟨r,B,l,e,hb,a3⟩:=xA hp (show h+w<=100 by omega) Y .L<|qL h w f g;have ae:r<=h+w:=VN hb.mono hb.lt;obtain⟨s,hs,s1,s2⟩:=vE h hb.mono;have eb:=yp hb ⋯ hs s1 s2;obtain⟨a5,tl⟩:=QO hb hs s1 s2;refine⟨r - s,_,_,?_,a5,λv=>(tl v).trans ((a3 _).trans ⟨λhv=>?_,λhv=>?_⟩)⟩
 ·have ov:=x9 f ab I
  have sm:=wo (n:=w) I;have a6:z7 (.tp [0,1]) jS (zw qb (ze 0)<|ze 1) [Cell.no,Cell.no] ((Nu w).map λj=>D.tup [.tup (zR h λi=>f i j),.tup (zR w λk=>if j=k then 1 else 0)])=cI (zV w (h+w) λj=>qg h (λi=>f i j)<|jF j):=by unfold zV;refine zA _ _ λj hj=>zE rfl rfl ?_;simp[qb,O,yh];rfl
  have zp:KZ (zV w h λi j=>f j i) (zV w w λi j=>if i=j then 1 else 0)=(Nu w).map λj=>D.tup [.tup (zR h λi=>f i j),.tup (zR w λk=>if j=k then 1 else 0)]:=by unfold KZ zV;rw[Uy];simp
  have a8:inR (w:Int)=cL:=wU I;have zaB:kQ (.tup [.int 0]) (.int w)=cI (.tup<|zR w λ_=>0):=by
   show(if [D.int 0].length*(w:Int).toNat<=lim/\inR (w:Int)=cL then cI (D.tup (NB (w:Int).toNat [D.int 0]).flatten)else cR)=_;rw[DZ ⟨by simpa using I,a8⟩];congr 2;rw[OF];clear a6 zp sm ov eb a5 tl a3 hb e a8 Y O I hw hq s1 s2 hs ae
   induction w with
   | zero=>rfl
   | succ w ih=>rw[List.replicate_succ',List.flatten_append,ih];unfold zR;rw[PD,OM];rfl
  have fr:z7 (.nm 0) jS (zw qb (ze 0)<|zw kQ (qe<|zc (zx<|.int 0) zG)<|fy (zq 1)<|zx<|.int 1) [Cell.no,Cell.val (jU h w f)] (zV q h g)=cI (zV q (h+w) λk=>qg h (g k) λ_=>0):=by unfold zV;refine zA _ _ λk hk=>zE rfl rfl ?_;have sq:jg (jU h w f)=cI (.T,[.int h,.int w,.tup (zV h w f)]):=rfl;simp[sq,zaB,qb,O,yh]
  have c1:((h:Int)+(w:Int))=((h+w:Nat):Int):=by omega
  simp only[BS]at e;rw[<- c1,<- iS]at e;have sq:jg (jU h w f)=cI (.T,[.int h,.int w,.tup (zV h w f)]):=rfl;unfold jU at ov sm fr ⊢;simp[qp,jo,jt,jC,ov,sm,zp,I,ac,Y,jA,qM,NB,a6,fr,e,eb]
 ·have:=gz hv
  refine(this.smul (-1)).congr λi hi=>?_;congr 1;show app f w v i = -1*(qg h (λ_=>0) v i - app f w (λj=>qg h (λ_=>0) v<|h+j) i);rw[zW hi,show(λj=>qg h (λ_=>0) v<|h+j)=v from funext λj=>jd j];omega
 ·have a:=Span.sum (p:=p) (n:=h+w) (G:=h9 (w+q)<|qL h w f g) (u:=λj=>qL h w f g j) v (m:=w) λj hj=> .gen ⟨j,by omega,rfl⟩
  have b:=Aw (w:=w) (f:=f) hv;refine(b.add a (-1)).congr λi hi=>?_;congr 1;rcases NU i h with z | z
  ·rw[zW z,zW z]
   have:zf (λk=>v k*qL h w f g k i) w=app f w v i:=by unfold app;exact zk λk hk=>by unfold qL;rw[DZ hk,zW z,Pe]
   rw[this];omega
  ·obtain⟨k,rfl⟩ : ∃k,i=h+k:=⟨i - h,by omega⟩
   rw[jd,jd];have:zf (λj=>v j*qL h w f g j (h+k)) w=v k:=by rw[zK (f:=λj=>v j*qL h w f g j (h+k)) (i:=k) ⋯ λj hj an=>by unfold qL;rw[DZ hj,jd];simp[jF,an]];unfold qL;rw[DZ (show k<w by omega),jd];simp[jF]
   rw[this];simp
end
def Dw(i j:Nat):Int:=if i=j then 1 else 0
def GI(p:Int)(n:Nat)(f g:DW):Prop:=∀i j,i<n->j<n->zf (λk=>f i k*g k j) n%p=Dw i j%p
theorem xY{p x y X Y:Int}(h1:x%p=X%p)(h2:y%p=Y%p):(x*y)%p=(X*Y)%p:=by rw[ND,h1,h2,<- ND]
@[simp] theorem zaI(r):qM (.nest r) = .no:=rfl
@[simp] theorem zaL(r):qM (.own r) = .no:=rfl
@[simp] theorem zaK(d):qM (.val d) = .val d:=rfl
@[simp] theorem zaS:qM .no = .no:=rfl
theorem Y2 : ∀(l:List Nat),(∀k∈l,∃γ1,qm T (g k) γ=cI γ1/\f γ1=cI (R k))->wZ T f γ (l.map g)=cI (l.map R)
 | [],_=>rfl
 | k::l,h=>by obtain⟨γ1,h1,h2⟩:=h k NL;have z:=Y2 l λx hx=>h x<|NN _ hx;simp[wZ,h1,h2,z]
def jG(w:DV)(k:Nat):Nat:=if w k then k+1 else k
def jQ(w:DV)(k:Nat):Nat:=if w k then k else k+1
theorem Xr(w:DV)(wd:DK)(k):l7 w wd k=wd (jQ w k):=by unfold l7 jQ;split<;>rfl
theorem QJ(w:DV)(wd:DK)(k):l5 w wd k=wd (jG w k):=by unfold l5 jG;split<;>rfl
theorem lD(w:DV)(h:k<m):jG w k<m+1:=by unfold jG;split<;>omega
theorem iO(w:DV)(h:k<m):jQ w k<m+1:=by unfold jQ;split<;>omega
section
variable{p:Int}{m:Nat}{w:DV}{wd:DK}{f g T:DQ}
theorem y6(m:Nat)(F:Nat->D):xF ((Nu m).map F)=(Nu m).map λ(k:Nat)=>D.tup [.int k,F k]:=by unfold xF;rw[NV,Oo];apply NQ;intro k hk;have hk:=NA.mp hk;simp[hk]
end
structure m6 where
 s:Nat
 n:Nat
 v:Nat->Vc
def m6.has(b:m6)(r:Nat):Bool:=decide (b.s<=r) && decide (r<b.s+b.n)
theorem t8{b:m6}{r:Nat}:b.has r=cL↔b.s<=r/\r<b.s+b.n:=by simp[m6.has]
structure FD(p:Int)(w:DV)(wd:DK)(T:DQ)(k:Nat)(b:m6):Prop where
 n1:1<=b.n
 le:b.s+b.n<=k+1
 o7 : ∀r i,b.has r=cL->i<wd r->0<=b.v r i/\b.v r i<p
 arr : ∀j,j<k->b.has (jG w j)=cL->∀i,i<wd (jQ w j)->app (T j) (wd<|jG w j) (b.v<|jG w j) i%p=(if b.has (jQ w j)=cL then b.v (jQ w j) i else 0)%p
def F3(p:Int)(A:Nat->m6)(N:Nat)(t:Vc)(r:Nat):Vc:=λc=>zf (λj=>if (A j).has r=cL then t j*(A j).v r c else 0) N%p
section
variable{p:Int}{w:DV}{wd:DK}{T:DQ}{k N:Nat}{A:Nat->m6}
theorem Wl(f:DW)(h:Nat)(t:Vc)(u:Nat->Vc)(n:Nat)(i:Nat):app f h (λc=>zf (λj=>t j*u j c) n) i=zf (λj=>t j*app f h (u j) i) n:=by
 unfold app;have e:zf (λj=>f i j*zf (λk=>t k*u k j) n) h=zf (λj=>zf (λk=>t k*(f i j*u k j)) n) h:=zk λj _=>by rw[<- zZ];exact zk λk _=>by rw[<- OP,<- OP,Pe (f i j)]
 rw[e,jY];exact zk λj _=>zZ ..
theorem Ao(c:Prop) [Decidable c](x y:Int):(if c then x*y else 0)=x*(if c then y else 0):=by split<;>simp
theorem Ba(f:DW)(h r:Nat)(t:Vc)(i:Nat):app f h (F3 p A N t r) i%p=zf (λj=>t j*(if (A j).has r=cL then app f h ((A j).v r) i else 0)) N%p:=by
 have e:app f h (F3 p A N t r) i%p=app f h (λc=>zf (λj=>t j*(if (A j).has r=cL then (A j).v r c else 0)) N) i%p:=kT (λc _=>by unfold F3;rw[Ou];congr 1;exact zk λj _=>Ao ..) i
 rw[e,Wl];congr 1;refine zk λj _=>?_;congr 1;by_cases z:(A j).has r=cL
 ·simp only[DZ z]
 ·simp only[DJ z]
  unfold app;simp[zz]
end
section
variable{p:Int}{n m N h r r2 q:Nat}{B B2 K:Nat->Vc}{l l2 zcj:DK}{M f:DW}
theorem yA(z:Span p n (h9 m U) v) : ∃t:Vc,∀i,i<n->v i%p=zf (λj=>t j*U j i) m%p:=by
 induction z with
 | zero h=>exact⟨λ_=>0,λi hi=>by rw[h i hi];simp[zz]⟩
 | @step v w g c I hw O Y=>
  obtain⟨t,ht⟩:=Y;obtain⟨k,hk,rfl⟩:=I;refine⟨λj=>t j+if j=k then c else 0,λi hi=>?_⟩;rw[O i hi,NS,ht i hi,<- NS];congr 1;have e:zf (λj=>(t j+if j=k then c else 0)*U j i) m=zf (λj=>t j*U j i) m+zf (λj=>(if j=k then c else 0)*U j i) m:=by rw[<- jf];exact zk λj _=>SM ..
  rw[e,zK (f:=λj=>(if j=k then c else 0)*U j i) hk λj _ hj=>by simp[hj]];simp
theorem xR(a b:Nat->Int)(n:Nat):zf (λj=>a j*b j) n=zf (λj=>b j*a j) n:=zk λj _=>Pe ..
theorem i?:Span p h (h9 N λj i=>M i j) u ↔ ∃x:Vc,∀i,i<h->u i%p=app M N x i%p:=by
 constructor
 ·intro q
  obtain⟨t,z⟩:=yA q;exact⟨t,λi hi=>by rw[z i hi];unfold app;rw[xR]⟩
 ·rintro⟨x,hx⟩
  refine(Span.sum (u:=λj i=>M i j) x (m:=N) λj I=> .gen ⟨j,I,rfl⟩).congr λi hi=>?_;rw[hx i hi];unfold app;rw[xR]
theorem iG(n:Nat)(v:Vc):Span p n (h9 n jF) v:=by refine(Span.sum (u:=jF) v (m:=n) λj z=> .gen ⟨j,z,rfl⟩).congr λi hi=>?_;rw[zK (f:=λk=>v k*jF k i) hi λk _ hk=>by simp[jF,hk]];simp[jF]
theorem JA(z:Pr p)(hN:N<=8)(hs : ∀v:Vc,∃t,∀i,i<N->v i%p=app f N t i%p)(I : ∀i,i<N->app f N t i%p=0) : ∀j,j<N->t j%p=0:=by
 obtain⟨q,K,l,s,_,hb,hk,O,a3⟩:=JQ z (h:=N) (w:=N) ⋯ ⋯ f;have Y:Rk p N N (λj i=>f i j) N:=⟨jF,id,WE z N,λv=>⟨λ_=>i?.mpr<|hs v,λ_=>iG N v⟩⟩;have:=Vy z O Y;have hq:q=0:=by omega
 subst hq;have:=(hk t).mpr λi hi=>by have:=I i hi;unfold app at this;exact this
 cases this with
 | zero h=>exact h
 | step hg _ _=>obtain⟨k,hk,_⟩:=hg;omega
theorem AZ(g:DW)(w:Nat)(u v:Vc)(i:Nat):app g w (λj=>u j - v j) i=app g w u i - app g w v i:=by
 have e:app g w u i=app g w (λj=>u j - v j) i+app g w v i:=by unfold app;rw[<- jf];exact zk λj _=>by dsimp only;rw[<- Sv];congr 1;omega
 omega
end
def yT:=jo 8<|zS (yt 4<|yu zG)<|zS (J3 (jH<|ze 2) (.nm 5)<|zS (jT 6<|zJ z6<|zc (ze 0)<|zc (zw qb (ze 1)<|ze 5) zG)<|zS (jT 7<|zw x6 (ze 6)<|ze 3)<|jZ 4<|qe<|zc (ze 7)<|zc (zw qb (ze 7)<|zw x6 (zw KU (ze 6)<|ze 3)<|zw yN (ze 3)<|ze 7) zG)<|Zn<|QU<|zq 4
def xu:=jo 1<|oy (sB<|zw yJ (BU<|zq 0)<|zx<|.int 30) w9 xw
def wB:=jo 2<|xh<|zJ jx<|zc (qe<|zc (vB<|zq 1)<|zc (ze 0)<|zc (jj<|zq 1) zG) zG
theorem zD(h:F γ=cI (.next γ'))(g:G γ'=r):zS F G γ=r:=by rw[jC,h];exact g
theorem qD(h:F (jt n ds)=cI (.ret r)):jo n F ds=cI r:=by show(F<|jt n ds).bind _=_;rw[h];rfl
@[simp] def zbs:=@BX.eq_1
def Le(m m':Nat)(w w':DV):Prop:=m=m'/\∀k,k<m->w k=w' k
instance (m m':Nat) (w w':DV):Decidable (Le m m' w w'):=inferInstanceAs (Decidable (m=m'/\∀k,k<m->w k=w' k))
section
variable{p p':Int}{m m':Nat}{w w':DV}{wd p3:DK}{T T':DQ}
theorem uh:jg (qN p m w wd T)=cI (.T,[.int p,.tup<|zR (m+1) λk=>(wd k:Int),.tup (qG m w wd T)]):=rfl
theorem AY(k):jg (yP w wd T k)=cI (.T,[.str (xc<|mm<|w k),jU (l7 w wd k) (l5 w wd k) (T k)]):=rfl
theorem dZ:z7 (.nm 0) jS (fy (zq 0)<|zx<|.int 0) [Cell.no] (qG m w wd T)=cI ((Nu m).map λk=>D.str<|xc<|mm<|w k):=by unfold qG;refine zA _ _ λk hk=>zE rfl rfl ?_;simp[AY]
theorem Zj(hm:m<=900):kW [qN p m w wd T]=cI (.val<|.str<|xm m w):=by
 have O:=jy;have z:m<=lim:=by omega
 have st:K8 ((Nu m).map λk=>D.str<|xc<|mm<|w k)=cI ((Nu m).map λk=>xc<|mm<|w k):=WQ _ _;have I:((Nu m).map λk=>xc<|mm<|w k).all jm=cL:=by simp only[OA];intro x hx;obtain⟨k,_,rfl⟩:=Rf.mp hx;unfold mm;split<;>decide
 have s0:jm "" = cL:=by decide +kernel
 simp only[kW,jo,jt];simp only[sC,Bg,kU,Wn,kA,kn,xp,vA,qu,NY,UI,Od,PY,NB,PH,NF,zY,uh,Nx,NZ,jM,TB,NG,bt,Nat.sub_self,RX];rw[lM,DZ z,show jA 1 [] [Cell.val (qN p m w wd T)]=[Cell.no]from rfl,dZ];simp only[NZ,Nx,st];rw[DZ ⟨by simpa using z,I,s0⟩];rfl
end
theorem lq(xs:List D)(n:Nat)(hn:xs.length=n)(a7 : ∀i (h:i<n),∃z,xs[i]'(hn ▸ h) = .int z)(bg:n<=63)(k:Int)(hk:0<=k)(bi:k<100000) :
 ∃m,z6 [.lst xs,.int k]=cI (.val<|.int m)/\0<=m/\m<1000000007:=by
 have O : ∀x:Int,JV x 48271=cL:=λx=>lB _ _ ⋯ ⋯;have Y : ∀x:Int,JV 7 x=cL:=λx=>kS _ _ ⋯ ⋯;have c3 : ∀x:Int,JV 13 x=cL:=λx=>kS _ _ ⋯ ⋯;have c4 : ∀x:Int,JV x 69621=cL:=λx=>lB _ _ ⋯ ⋯;have c5:JV (7*k) k=cL:=lB _ _ ⋯ ⋯;have I:Fv 10 9=cL:=by decide
 have a2:Fv 10 30=cL:=by decide
 have hl:lim=2500:=rfl;by_cases ag:n=0
 ·subst ag
  have e0:xs=[]:=Ov hn;subst e0;simp[z6,jo,jt,jC,O,Y,c3,c4,c5,I,a2];omega
 ·have hp:0<n:=by omega
  obtain⟨i,hi⟩:=PK (Ot k<|show(n:Int)≠0 by omega);have a8:i<n:=by have:=Oe k (show(0:Int)<n by omega);omega
  obtain⟨zcx,ei⟩:=a7 i a8;have ii:p8 n (i:Int)=cI i:=by rw[jB,DZ a8]
  by_cases h1:n=1
  ·subst h1
   have i0:i=0:=by omega
   subst i0;have k1:k%1=0:=by omega
   simp[z6,jo,jt,jC,O,Y,c3,c4,c5,I,a2,hn,ei];omega
  ·obtain⟨zax,e0⟩:=a7 0 hp
   have i0:p8 n 0=cI 0:=by have:=jB n 0;rw[DZ hp]at this;exact this
   have q1:(0:Int)<(n:Int) - 1:=by omega
   have q2:(1:Int)<(n:Int):=by omega
   have ae:1<n:=by omega
   have q3:(n:Int) - 1<1073741824:=by omega
   have q4:(0:Int)<(n:Int):=by omega
   obtain⟨j,hj⟩:=PK (Ot k<|show(n:Int) - 1≠0 by omega);have a9:1+j<n:=by have:=Oe k q1;omega
   obtain⟨zaz,ej⟩:=a7 (1+j) a9;have ij:p8 n (1+(j:Int))=cI (1+j):=by have:=jB n<|1+j;rw[DZ a9]at this;rw[<- this];congr 1
   have hd:0<=k/((n:Int) - 1)/\k/((n:Int) - 1)<=k:=⟨Int.ediv_nonneg hk ⋯,Int.ediv_le_self _ hk⟩;obtain⟨t,ht⟩:=PK hd.1;by_cases ha:zax%2=1
   ·obtain⟨t',ba,bv⟩ : ∃t':Nat,(if (t:Int)<60 then (t:Int)else 60)=t'/\t'<=60:=by
     split
     ·exact⟨t,rfl,by omega⟩
     ·exact⟨60,rfl,by omega⟩
    have bb:inR (t':Int)=cL:=sj ⋯ ⋯;simp[z6,jo,jt,jC,O,Y,c3,c4,c5,hn,hp,a9,q2,ae,e0,i0,q1,q3,ha,hj,ij,ej,ht,I,a2];rw[ba,DZ bb];simp only[Nx,qP,OF];rw[jw t' λi=>(i:Int)];have bd : ∀(m s:Nat) (v:Int) (c:Cell),∃v' c',xl (.nm 3) (jT 2<|zw KU (ze 2)<|zw AH (zx<|D.int 10)<|zx<|D.int 9) ((SG s m).map λ(i:Nat)=>D.int i) [.val (.lst xs),.val<|.int k,.val<|.int v,c,.no] =
     cI (.next [.val (.lst xs),.val<|.int k,.val<|.int v',c',.no]):=by
     intro m
     induction m with
     | zero=>intro s v c;exact⟨v,c,rfl⟩
     | succ m ih=>
      intro s v c;rw[RN,NY,jN];obtain⟨v',c',h⟩:=ih (s+1) (v/10 ^ 9)<|.val<|.int s;refine⟨v',c',?_⟩;rw[<- h];simp[I]
    obtain⟨v',c',h⟩:=bd t' 0 zaz .no;rw[<- Po]at h;rw[h];simp[I];omega
   ·simp[z6,jo,jt,jC,O,Y,c3,c4,c5,hn,q2,ae,q4,hp,e0,i0,ha,hi,ei,a8,ii,I,a2]
    omega
theorem AM(ns:List Int)(hn:ns.length<=63)(k:Int)(hk:0<=k)(z:k<100000) : ∃m,z6 [V9 ns,.int k]=cI (.val<|.int m)/\0<=m/\m<1000000007:=
 lq (ns.map D.int) ns.length ⋯ (λi hi=>⟨ns[i],by simp⟩) hn k hk z
def kg(ns:List Int)(k:Int):Int:=match z6 [V9 ns,.int k]with
 | some (.val<|.int m)=>m
 | _=>0
theorem JG(hn:ns.length<=63)(hk:0<=k)(z:k<100000):z6 [V9 ns,.int k]=cI (.val<|.int<|kg ns k)/\0<=kg ns k/\kg ns k<1000000007:=by
 obtain⟨m,h,h1,h2⟩:=AM ns hn k hk z;have e:kg ns k=m:=by unfold kg;rw[h]
 rw[e];exact⟨h,h1,h2⟩
def zB(bs:List (Int×Int)):List D:=bs.map λb=>D.tup [.int b.1,.int b.2]
@[simp] theorem wg(bs):(zB bs).length=bs.length:=by simp[zB]
theorem Xb : ∀bs,Zg (zB bs)=cI bs
 | []=>rfl
 | b::bs=>by have z:=Xb bs;unfold zB at z;simp[zB,Zg,og,z]
def vq(bs:List (Int×Int)):List (Int×Int):=(ke bs).map λi=>bs.getD i (0,0)
theorem wF(bs):(vq bs).Perm bs:=by have:=(xS bs).map λi=>bs.getD i (0,0);rw[qy]at this;exact this
theorem ZS{bs:List (Int×Int)}(h:bs.length<64):fw (zB bs)=cI (zB<|vq bs):=by unfold fw;rw[Xb];show(if (zB bs).length<64 then cI ((ke bs).map λi=>(zB bs).getD i .i5)else cR)=_;rw[wg,DZ h];unfold vq;congr 1;unfold zB;rw[OO];refine NQ λi hi=>?_;have hi:i<bs.length:=NA.mp<|(xS bs).mem_iff.mp hi;simp[hi]
def mh(n:Int)(b:Int×Int):Prop:=0<=b.1/\b.1<=b.2/\b.2<n
@[simp] def zbh:=@QU.eq_1
section ap
variable(γ:Ctx)
@[simp] def zbg:=@BV.eq_1
@[simp] def zaX:=@ki.eq_1
@[simp] def zaY:=@QV.eq_1
@[simp] def zbV:=@MA.eq_1
end ap
def MS(b:Int×Int)(r:Int):Bool:=decide (b.1<=r) && decide (r<=b.2)
def rP(bs:List (Int×Int))(r:Int):List Nat:=(Nu bs.length).filter λi=>MS (bs.getD i (0,0)) r
def HP(l:List Nat):List D:=l.map λ(i:Nat)=>D.int i
@[simp] theorem zaT(l):(HP l).length=l.length:=by simp[HP]
theorem dQ(z:Pr p)(I:h<=100)(hw:w<=lim)(f:DW) :
 ∃r B l,KN [.int p,jU h w f]=cI (.own<|zV r h B)/\nr p h r B l/\∀v,Span p h (h9 r B) v↔Span p h (h9 w λj i=>f i j) v:=by
 obtain⟨r,B,l,e,hb,hs⟩:=xA z I hw .T λj i=>f i j;have O:=jy;refine⟨r,B,l,?_,hb,hs⟩;simp only[BS]at e;have o:=x9 f (show h<=lim by omega) hw;unfold jU at o ⊢;simp[KN,jo,jt,o,e]
theorem pv(n:Nat)(v:Vc):xF (zR n v)=(Nu n).map λ(i:Nat)=>D.tup [.int i,.int (v i)]:=by unfold xF;rw[yf];refine NQ λi hi=>?_;have:=NA.mp hi;simp[zR,this]
theorem lY(hn:n<=lim)(v:Vc)(ha:a<n)(h0 : ∀i,i<a->v i=0)(h1:v a≠0):xy [.tup (zR n v)]=cI (.val<|.int a):=by
 have I:z7 (.tp [0,1]) (sB<|zw ow (ze 1)<|zx<|.int 0) (ze 0) [Cell.no,Cell.no] ((Nu n).map λ(i:Nat)=>D.tup [.int i,.int (v i)])=cI (((Nu n).filter λi=> !decide (v i=0)).map λ(i:Nat)=>D.int i):=by refine jR _ _ _ λi hi=>⟨_,rfl,?_,λ_=>rfl⟩;simp
 cases hf:(Nu n).filter λi=> !decide (v i=0)with
 | nil=>exact absurd (by have:=YD hf a ha;simpa using this) h1
 | cons b xD=>
  obtain⟨hb,O,Y⟩:=Zh hf;have e:b=a:=by
   rcases Sg a b with z | z | z
   ·exact absurd (by have:=Y a z;simpa using this) h1
   ·exact z.symm
   ·exact absurd (h0 b z) (by simpa using O)
  subst e;rw[hf]at I;simp[xy,jo,jt,pv,hn,jA,NB,I]
def JI(h w:Nat)(f g:DW)(i:Nat):Vc:=if i<h then qg w (f i) (λ_=>0)else qg w (λ_=>0) (g<|i - h)
theorem aX(h h' w:Nat)(f g F:DW)(h1 : ∀i j,i<h->j<w->F i j=f i j)(h2 : ∀i j,i<h'->j<w->F (h+i) j=g i j):zV h w f++zV h' w g=zV (h+h') w F:=by
 unfold zV;rw[Ti,OM,OO];congr 1
 ·exact NQ λi hi=>by rw[y8 λj z=>(h1 i j (NA.mp hi) z).symm]
 ·exact NQ λi hi=>by simp only[Function.comp];rw[y8 λj z=>(h2 i j (NA.mp hi) z).symm]
theorem Aa(n:Nat):(NB n [D.int 0]).flatten=zR n λ_=>0:=by
 induction n with
 | zero=>rfl
 | succ n z=>
  rw[PX,RF,z];unfold zR;rw[<- vH,<- vH];rfl
theorem pQ(f g:DW):zV h (w+w') (λi=>qg w (f i) λ_=>0)++zV h' (w+w') (λi=>qg w (λ_=>0)<|g i)=zV (h+h') (w+w') (JI h w f g):=
 aX h h' _ _ _ _ (λi j hi _=>by unfold JI;rw[DZ hi]) λi j hi _=>by unfold JI;rw[DJ ⋯,Oh]
theorem zac(f g:DW)(hh:h<=400)(hw:w<=400)(a8:h'<=400)(a9:w'<=400) :
 qo [jU h w f,jU h' w' g]=cI (.val<|jU (h+h') (w+w')<|JI h w f g):=by
 have hl:=jy;have I:h<=lim:=by omega
 have l2:w<=lim:=by omega
 have l3:h'<=lim:=by omega
 have l4:w'<=lim:=by omega
 have Y:w+w'<=lim:=by omega
 have l6:h+h'<=lim:=by omega
 have O : ∀(h w:Nat) (f:DW),jg (jU h w f)=cI (.T,[.int h,.int w,.tup (zV h w f)]):=λ_ _ _=>rfl;have n2:kQ (.tup [.int 0]) (.int w)=cI (.tup<|zR w λ_=>0):=by show(if ([D.int 0]).length*(w:Int).toNat<=lim/\inR (w:Int)=cL then _ else _)=_;rw[DZ ⟨by simpa using l2,wU l2⟩,OF,Aa]
 have g1:z7 (.tp [0,1]) jS (zw qb (ze 0)<|ze 1) [Cell.no,Cell.no] (KZ (zV h w f)<|zV h w' λ_ _=>0)=cI (zV h (w+w') λi=>qg w (f i) λ_=>0):=by
  have z:KZ (zV h w f) (zV h w' λ_ _=>0)=(Nu h).map λi=>D.tup [.tup (zR w<|f i),.tup (zR w' λ_=>0)]:=by unfold KZ zV;rw[Uy];simp
  rw[z];unfold zV;refine zA _ _ λi hi=>zE rfl rfl ?_;have e:qb (.tup<|zR w<|f i) (.tup<|zR w' λ_=>0)=cI (.tup<|zR (w+w')<|qg w (f i) λ_=>0):=by show(if (zR w<|f i).length+(zR w' λ_=>0).length<=lim then _ else _)=_;rw[DZ (by simpa using Y),yh]
  show zw _ _ _ [Cell.val (.tup<|zR w<|f i),Cell.val (.tup<|zR w' λ_=>0)]=_;simp[e]
 have g2:z7 (.nm 0) jS (zw qb (zw kQ (qe<|zc (zx<|.int 0) zG)<|fy (zq 1)<|zx<|.int 1)<|ze 0) [Cell.no,Cell.val (jU h w f)] (zV h' w' g)=cI (zV h' (w+w') λi=>qg w (λ_=>0)<|g i):=by
  unfold zV;refine zA _ _ λi hi=>zE rfl rfl ?_;have e:qb (.tup<|zR w λ_=>0) (.tup<|zR w'<|g i)=cI (.tup<|zR (w+w')<|qg w (λ_=>0)<|g i):=by show(if (zR w λ_=>0).length+(zR w'<|g i).length<=lim then _ else _)=_;rw[DZ (by simpa using Y),yh]
  simp[O,n2,e]
 have zaA:(KZ (zV h w f)<|zV h w' λ_ _=>0).length<=lim:=by unfold KZ zV;simp;exact I
 have nj:wt [jU h w f,jU h' w' g]=cI (.val<|jU h w' λ_ _=>0):=by simp[wt,jo,jt,O,Wq I l4]
 have tj:qU [jU h w f,jU h' w' g,jU h w' λ_ _=>0]=cI (.val<|jU (h+h') (w+w')<|JI h w f g):=by simp[qU,jo,jt,jC,O,I,l3,l6,zaA,jA,qM,NB,g1,g2];rw[pQ];simp[jU]
 simp[qo,jo,jt,nj,tj]
@[simp] def bz:=@rE.eq_1
section
variable{p:Int}{m:Nat}{w:DV}{wd:DK}{T:DQ}{a:Nat}
def H9(p:Int)(w:DV)(wd:DK)(T:DQ)(k:Nat)(u v:Vc):Prop:=
 if w k then ∀x,x<wd k->u x%p=app (T k) (wd<|k+1) v x%p else ∀x,x<wd (k+1)->v x%p=app (T k) (wd k) u x%p
def bA(p:Int)(w:DV)(wd:DK)(T:DQ)(i a:Nat):Nat->Vc->Prop
 | 0,z=>∀x,x<a->z x%p=z (a+x)%p
 | t+1,z=>∃u:Vc,bA p w wd T i a t (qg a z u)/\H9 p w wd T (i+t) u λx=>z<|a+x
theorem vD(F:Nat->Int)(s:Nat) : ∀d,zf F (s+d)=zf F s+zf (λk=>F<|s+k) d
 | 0=>by simp[zf]
 | d+1=>by rw[<- Nat.add_assoc];simp only[zf];rw[vD F s d];omega
theorem JK(y:Vc)(x:Nat):app (JI a a (λi j=>if i=j then 1 else 0) f) (a+c) y x=if x<a then y x else app f c (λj=>y<|a+j) (x - a):=by
 unfold app;rw[vD];by_cases h:x<a
 ·rw[DZ h]
  have e1:zf (λj=>JI a a (λi j=>if i=j then 1 else 0) f x j*y j) a=y x:=by
   rw[zK (f:=λj=>JI a a (λi j=>if i=j then 1 else 0) f x j*y j) (i:=x) h λj z I=>by unfold JI;rw[DZ h,zW z];simp[OQ I]]
   unfold JI;rw[DZ h,zW h];simp
  have e2:zf (λk=>JI a a (λi j=>if i=j then 1 else 0) f x (a+k)*y (a+k)) c=0:=by rw[zk (g:=λ_=>0) λj _=>by unfold JI;rw[DZ h,jd];simp,zz]
  rw[e1,e2];simp
 ·rw[DJ h]
  have e1:zf (λj=>JI a a (λi j=>if i=j then 1 else 0) f x j*y j) a=0:=by rw[zk (g:=λ_=>0) λj z=>by unfold JI;rw[DJ h,zW z];simp,zz]
  have e2:zf (λk=>JI a a (λi j=>if i=j then 1 else 0) f x (a+k)*y (a+k)) c=zf (λj=>f (x - a) j*y (a+j)) c:=
   zk λj _=>by unfold JI;rw[DJ h,jd]
  rw[e1,e2];simp
theorem CT(hw:w (i+t)=d7)(I : ∀z,Span p (a+wd (i+t)) (h9 q B) z↔bA p w wd T i a t z)
 (Y : ∀v,Span p (a+wd (i+t+1)) (h9 q' B') v ↔ ∃y,Span p (a+wd (i+t)) (h9 q B) y/\∀x,x<a+wd (i+t+1)->v x%p=app (JI a a (λi j=>if i=j then 1 else 0)<|T<|i+t) (a+wd (i+t)) y x%p) (v:Vc) :
 Span p (a+wd (i+t+1)) (h9 q' B') v↔bA p w wd T i a (t+1) v:=by
 rw[Y v];constructor
 ·rintro⟨y,hy,O⟩
  refine⟨λx=>y<|a+x,(I _).mp (hy.congr λx hx=>?_),?_⟩
  ·rcases NU x a with z | z
   ·rw[zW z]
    have:=O x ⋯;rw[JK,DZ z]at this;exact this
   ·obtain⟨k,rfl⟩ : ∃k,x=a+k:=⟨x - a,by omega⟩
    rw[jd]
  ·unfold H9
   rw[hw,DJ NM];intro x hx;have:=O (a+x) ⋯;rw[JK,DJ ⋯,Oh]at this;exact this
 ·rintro⟨u,h1,h2⟩
  unfold H9 at h2;rw[hw,DJ NM]at h2;refine⟨qg a v u,(I _).mpr h1,λx hx=>?_⟩;rw[JK];rcases NU x a with z | z
  ·rw[DZ z,zW z]
  ·rw[DJ ⋯]
   obtain⟨k,rfl⟩ : ∃k,x=a+k:=⟨x - a,by omega⟩;rw[Oh,show(λj=>qg a v u<|a+j)=u from funext λj=>jd j];exact h2 k ⋯
theorem CU(hw:w (i+t)=cL)(I : ∀z,Span p (a+wd (i+t)) (h9 q B) z↔bA p w wd T i a t z)
 (O : ∀v,Span p (a+wd (i+t+1)) (h9 q' B') v↔Span p (a+wd (i+t)) (h9 q B) (app (JI a a (λi j=>if i=j then 1 else 0)<|T<|i+t) (a+wd (i+t+1)) v)) (v:Vc) :
 Span p (a+wd (i+t+1)) (h9 q' B') v↔bA p w wd T i a (t+1) v:=by
 rw[O v];constructor
 ·intro Y
  refine⟨λx=>app (T<|i+t) (wd<|i+t+1) (λj=>v<|a+j) x,(I _).mp (Y.congr λx hx=>?_),?_⟩
  ·rw[JK]
   rcases NU x a with z | z
   ·rw[zW z,DZ z]
   ·obtain⟨k,rfl⟩ : ∃k,x=a+k:=⟨x - a,by omega⟩
    rw[jd,DJ ⋯,Oh]
  ·unfold H9
   rw[hw,DZ rfl];exact λx _=>rfl
 ·rintro⟨u,h1,h2⟩
  unfold H9 at h2;rw[hw,DZ rfl]at h2;refine((I _).mpr h1).congr λx hx=>?_;rw[JK];rcases NU x a with z | z
  ·rw[zW z,DZ z]
  ·obtain⟨k,rfl⟩ : ∃k,x=a+k:=⟨x - a,by omega⟩
   rw[jd,DJ ⋯,Oh];exact(h2 k ⋯).symm
theorem oF:bD=jo 6 (zS (jT 3<|zJ j5<|zc (fy (zM<|fy (zq 0)<|zx<|.int 1)<|ze 1) zG)<|zS (yt 4<|zT (zQ<|zM<|fy (zq 3)<|zx<|.int 2) (.nm 0) 1 [] jS (zw qb (ze 0)<|ze 0))<|zS (J3 (zQ<|zM<|Vt (fy (zq 0)<|zx<|.int 2) (vl<|ze 1)<|vl<|ze 2) (.nm 5) VS)<|ZV 4):=rfl
theorem _h:(xc (mm b)=("r" : Str))↔b=d7:=by cases b<;>decide
abbrev lk(p:Int)(m:Nat)(w:DV)(wd:DK)(T:DQ)(i j:Int)(a:Nat)(ds:List D)(c:Cell):Ctx:=[.val (qN p m w wd T),.val (.int i),.val (.int j),.val (jU a a λi j=>if i=j then 1 else 0),.own ds,c]
theorem gW(Y:Pr p)(a1 : ∀k,wd k<=7)(ha:a<=7)(hT : ∀k x y,0<=T k x y/\T k x y<p)(i' j':Int)(hq:q<=20)(hB : ∀z,Span p (a+wd (i+t)) (h9 q B) z↔bA p w wd T i a t z) :
 ∃I B' l',VS (lk p m w wd T i' j' a (zV q (a+wd (i+t)) B)<|.val<|yP w wd T<|i+t)=cI (.next<|lk p m w wd T i' j' a (zV I (a+wd (i+t+1)) B')<|.val<|yP w wd T<|i+t)/\nr p (a+wd (i+t+1)) I B' l'/\
  ∀z,Span p (a+wd (i+t+1)) (h9 I B') z↔bA p w wd T i a (t+1) z:=by
 have hl:=jy;have a9:=Y.le;have h1:=a1<|i+t;have h2:=a1<|i+t+1;have tb:=zac (h:=a) (w:=a) (h':=l7 w wd<|i+t) (w':=l5 w wd<|i+t) (λi j=>if i=j then 1 else 0) (T<|i+t) ⋯ ⋯ (by unfold l7;split<;>omega) (by unfold l5;split<;>omega);have rs:jg (qN p m w wd T)=cI (.T,[.int p,.tup<|zR (m+1) λk=>(wd k:Int),.tup (qG m w wd T)]):=rfl;have O:jg (yP w wd T<|i+t)=cI (.T,[.str (xc<|mm<|w<|i+t),jU (l7 w wd<|i+t) (l5 w wd<|i+t) (T<|i+t)]):=rfl;have bd : ∀x y,0<=JI a a (λi j=>if i=j then 1 else 0) (T<|i+t) x y/\JI a a (λi j=>if i=j then 1 else 0) (T<|i+t) x y<100:=λx y=>by
  have:=hT (i+t) (x - a)<|y - a;unfold JI qg;split
  ·dsimp only
   split
   ·split<;>omega
   ·omega
  ·dsimp only
   split
   ·omega
   ·omega
 cases hw:w (i+t)with
 | false=>
  have hi:l7 w wd (i+t)=wd (i+t+1):=by unfold l7;rw[hw];rfl
  have wi:l5 w wd (i+t)=wd (i+t):=by unfold l5;rw[hw];rfl
  rw[hi,wi]at tb O;obtain⟨I,B',l',e,hb,a0⟩:=Wr Y (h:=a+wd (i+t+1)) (w:=a+wd (i+t)) (q:=q) ⋯ ⋯ ⋯ (JI a a (λi j=>if i=j then 1 else 0) (T (i+t))) (λx y _ _=>bd x y) B;refine⟨I,B',l',?_,hb,CT hw hB a0⟩;have z:xc (mm (w (i+t)))=("r" : Str):=_h.mpr hw;unfold VS;simp only[lk,sD,Wm,bz,yQ,Zi,vA,qu,jW,kU,yR,NF,NG,vz,Ph,Pg,zF,zY,rs,O,Nx,NZ,jM,Od,PY,Y_,S9,tb,k6,z,if_true,e,WZ]
 | true=>
  have hi:l7 w wd (i+t)=wd (i+t):=by unfold l7;rw[hw];rfl
  have wi:l5 w wd (i+t)=wd (i+t+1):=by unfold l5;rw[hw];rfl
  rw[hi,wi]at tb O;obtain⟨I,B',l',e,hb,a0⟩:=KJ Y (h:=a+wd (i+t)) (w:=a+wd (i+t+1)) (q:=q) ⋯ ⋯ ⋯ (JI a a (λi j=>if i=j then 1 else 0) (T (i+t))) B;refine⟨I,B',l',?_,hb,CU hw hB a0⟩;have z : ¬(xc (mm (w (i+t)))=("r" : Str)):=λq=>by have:=_h.mp q;rw[hw]at this;cases this
  unfold VS;simp only[lk,sD,Wm,bz,yQ,Zi,vA,qu,jW,kU,yR,NF,NG,vz,Ph,Pg,zF,zY,rs,O,Nx,NZ,jM,Od,PY,Y_,S9,tb,k6,z,if_false,e,WZ]
end
section
variable{p:Int}{m:Nat}{w:DV}{wd:DK}{T:DQ}
theorem mH(z:Pr p)(a:Nat):nr p (a+a) a (λx=>qg a (jF x)<|jF x) id where
 lt:=λk hk=>by simp only[id];omega
 mono:=λk m hk _=>hk
 one:=λk hk=>by simp only[id];rw[zW hk];exact DZ rfl
 u9:=λk j hk I=>by simp only[id]at I;rw[zW ⋯];exact DJ ⋯
 p9:=λk m hk hm O=>by simp only[id];rw[zW hm];exact DJ ⋯
 o7:=λk i _ _=>by have:=z.two;unfold qg jF;split<;>split<;>omega
theorem eO(hp:Pr p)(i:Nat)(z:Vc):Span p (wd i+wd i) (h9 (wd i) λx=>qg (wd i) (jF x)<|jF x) z↔bA p w wd T i (wd i) 0 z:=by
 constructor
 ·intro hz
  induction hz with
  | @zero z hz=>intro x hx;rw[hz x ⋯,hz (wd i+x) ⋯]
  | @step z u g c O hu I Y=>
   obtain⟨k,hk,rfl⟩:=O;intro x hx;dsimp only at I;rw[I x ⋯,I (wd i+x) ⋯,zW hx,jd,NS,Y x hx,<- NS]
 ·intro hz
  refine(Span.sum (u:=λx=>qg (wd i) (jF x)<|jF x) z (m:=wd i) λk hk=> .gen ⟨k,hk,rfl⟩).congr λx hx=>?_;have one : ∀y,y<wd i->zf (λk=>z k*jF k y) (wd i)=z y:=λy hy=>by rw[zK (f:=λk=>z k*jF k y) hy λj _ a1=>by simp[jF,a1]];simp[jF]
  rcases NU x (wd i)with q | q
  ·have:zf (λk=>z k*qg (wd i) (jF k) (jF k) x) (wd i)=z x:=by
    rw[<- one x q];exact zk λk _=>by rw[zW q]
   rw[this]
  ·obtain⟨k,rfl⟩ : ∃k,x=wd i+k:=⟨x - wd i,by omega⟩
   have:zf (λj=>z j*qg (wd i) (jF j) (jF j) (wd i+k)) (wd i)=z k:=by rw[<- one k ⋯];exact zk λj _=>by rw[jd]
   rw[this];exact(hz k ⋯).symm
theorem lW(O:Pr p)(Y : ∀k,wd k<=7)(hT : ∀k x y,0<=T k x y/\T k x y<p)(a2:i<=j)(hj:j<=m) :
 ∃q B l,bD [qN p m w wd T,.int i,.int j]=cI (.own<|zV q (wd i+wd j) B)/\nr p (wd i+wd j) q B l/\∀z,Span p (wd i+wd j) (h9 q B) z↔bA p w wd T i (wd i) (j - i) z:=by
 have hl:=jy;have ha:=Y i;have a0:wd i<=lim:=by omega
 have a4:wd i+wd i<=lim:=by omega
 have a5 : ∀(k t:Nat) (q:Nat) (B:Nat->Vc) (l:DK) (c:Cell),t+k=j - i->nr p (wd i+wd (i+t)) q B l->(∀z,Span p (wd i+wd (i+t)) (h9 q B) z↔bA p w wd T i (wd i) t z)->
  ∃I B' l' c',xl (.nm 5) VS ((SG t k).map λk=>yP w wd T<|i+k) (lk p m w wd T i j (wd i) (zV q (wd i+wd (i+t)) B) c)=cI (.next<|lk p m w wd T i j (wd i) (zV I (wd i+wd j) B') c')/\nr p (wd i+wd j) I B' l'/\
   ∀z,Span p (wd i+wd j) (h9 I B') z↔bA p w wd T i (wd i) (j - i) z:=by
  intro k
  induction k with
  | zero=>
   intro t q B l c h hb hs;have e1:t=j - i:=by omega
   have e2:i+t=j:=by omega
   rw[e2]at hb hs ⊢;rw[<- e1];exact⟨q,B,l,c,rfl,hb,hs⟩
  | succ k ih=>
   intro t q B l c h hb hs;have hq:q<=wd i+wd (i+t):=VN hb.mono hb.lt;have:=Y<|i+t;obtain⟨q1,B1,l1,e,aa,ab⟩:=gW (m:=m) O Y ha hT i j ⋯ hs;obtain⟨I,B',l',c',e',ae,ag⟩:=ih (t+1) q1 B1 l1 (.val<|yP w wd T<|i+t) ⋯ aa ab;refine⟨I,B',l',c',?_,ae,ag⟩;rw[RN,NY,jN];show((VS<|lk p m w wd T i j (wd i) (zV q (wd i+wd (i+t)) B)<|.val<|yP w wd T<|i+t).bind _)=_;rw[e];exact e'
 obtain⟨q,B,l,c,e,hb,hs⟩:=a5 (j - i) 0 (wd i) (λx=>qg (wd i) (jF x)<|jF x) id .no ⋯ (mH O<|wd i)<|eO O i;refine⟨q,B,l,?_,hb,hs⟩;have sm:=wo (n:=wd i) a0;have wi:i<m+1:=by omega
 have tw:z7 (.nm 0) jS (zw qb (ze 0)<|ze 0) [Cell.no] (zV (wd i) (wd i) λi j=>if i=j then 1 else 0)=cI (zV (wd i) (wd i+wd i) λx=>qg (wd i) (jF x)<|jF x):=by unfold zV;refine zA _ _ λx hx=>zE rfl rfl ?_;simp[qb,a4,yh];rfl
 have rs:jg (qN p m w wd T)=cI (.T,[.int p,.tup<|zR (m+1) λk=>(wd k:Int),.tup (qG m w wd T)]):=rfl;have dq:jg (jU (wd i) (wd i) λi j=>if i=j then 1 else 0)=cI (.T,[.int (wd i),.int<|wd i,.tup (zV (wd i) (wd i) λi j=>if i=j then 1 else 0)]):=rfl;have ix:p8 (m+1) (i:Int)=cI i:=by rw[jB,DZ wi]
 have zaq:(zR (m+1) λk=>(wd k:Int))[i]? = cI (.int<|wd i):=xQ _ wi;have ca:Zs (qG m w wd T) (cI (i:Int)) (cI (j:Int))=(Nu<|j - i).map λk=>yP w wd T (i+k):=by rw[Fp a2 hj];rfl
 rw[<- Po]at e;rw[oF];unfold jo;have e0:jt 6 [qN p m w wd T,.int i,.int j]=[.val (qN p m w wd T),.val<|.int i,.val<|.int j,.no,.no,.no]:=rfl;have s1:(jT 3<|zJ j5<|zc (fy (zM<|fy (zq 0)<|zx<|.int 1)<|ze 1) zG) [.val (qN p m w wd T),.val<|.int i,.val<|.int j,.no,.no,.no]=cI (.next [.val (qN p m w wd T),.val<|.int i,.val<|.int j,.val<|jU (wd i) (wd i) λi j=>if i=j then 1 else 0,.no,.no]):=by simp only[lO,yR,yQ,Zi,vA,xp,qu,jW,kU,NF,NG,zF,zY,rs,bt,Nx,NZ,jM,Od,PY,S9,yf,ix,zaq,sm,k6];rfl
 have s2:(yt 4<|zT (zQ<|zM<|fy (zq 3)<|zx<|.int 2) (.nm 0) 1 [] jS (zw qb (ze 0)<|ze 0)) [.val (qN p m w wd T),.val<|.int i,.val<|.int j,.val<|jU (wd i) (wd i) λi j=>if i=j then 1 else 0,.no,.no]=cI (.next<|lk p m w wd T i j (wd i) (zV (wd i) (wd i+wd i) λx=>qg (wd i) (jF x)<|jF x) .no):=by simp only[Wm,kA,kn,xp,vA,qu,kU,NF,NG,zY,dq,bt,Nx,NZ,jM,Od,PY,TB,Kw,a0,if_true];rw[show jA 1 [] [Cell.val (qN p m w wd T),Cell.val<|D.int (i:Int),Cell.val<|D.int (j:Int),Cell.val<|jU (wd i) (wd i) λi j=>if i=j then 1 else 0,Cell.no,Cell.no]=[Cell.no]from rfl,tw];rfl
 rw[e0,jC,s1,vG,jC,s2,vG,jC,JM];simp only[lk,kn,xp,FB,vA,qu,jW,kU,Lb,NF,NG,zY,zF,rs,bt,Nx,NZ,jM,Od,PY,TB,ca];simp only[lk,UM]at e;rw[e];simp
end
@[simp] def zaQ:=@fJ.eq_1
section
variable{p:Int}{m:Nat}{w:DV}{wd:DK}{T:DQ}
theorem yD:jg (qN p m w wd T)=cI (.T,[.int p,.tup<|zR (m+1) λk=>(wd k:Int),.tup (qG m w wd T)]):=rfl
end
@[simp] theorem JN(γ:Ctx)(f):ki f γ=(f γ).bind λd=>match d with
 | .str z=>if jm z=cL then cI (xF<|kh z)else cR
 | _=>cR:=rfl
@[simp] theorem pX(γ:Ctx)(f g):ny f g γ=(f γ).bind λd=>(g γ).bind λe=>match d,e with
 | .str x,.str y=>if jm x=cL/\jm y=cL then cI (.str<|x++y)else cR
 | _,_=>cR:=rfl
theorem wX(m:Nat)(w:DV):xF (kh<|xm m w)=(Nu m).map λ(k:Nat)=>D.tup [.int k,.str (xc<|mm<|w k)]:=by
 have e:kh (xm m w)=(Nu m).map λk=>D.str (xc<|mm<|w k):=by unfold kh;rw[kH,OO];rfl
 unfold xF;rw[e];simp only[NV,Oo];refine NQ λk hk=>?_;simp[NA.mp hk]
theorem Kv(w:DV)(k:Nat):z9 [.int k,.str (xc<|mm<|w k)]=cI (.val<|.tup [.int ((jG w k:Nat):Int),.int ((jQ w k:Nat):Int)]):=by have q:=iK<|w k;cases h:w k<;>rw[h]at q<;>simp[z9,jo,jt,jC,q,jG,jQ,h]
theorem ez(s:Nat)(w:DV):xm s w++xc (mm<|w s)=xm (s+1) w:=by
 have h:(xm s w++xc (mm<|w s)).cps.toList=(xm (s+1) w).cps.toList:=by show((xm s w).cps++(xc<|mm<|w s).cps).toList=_;rw[Array.toList_append,kH,kH,PD,OM];rfl
 have h2:=Array.toList_inj.mp h;generalize xm s w++xc (mm<|w s)=a at h2;generalize xm (s+1) w=b at h2;cases a;cases b;exact congrArg Str.mk h2
theorem BC{c:Int}(hc:0<=c){m:Nat}(hm:m<=5) : ∃w,xt [.int c,.int (1+(m:Int))]=cI (.val<|.str<|xm m w):=by
 have hl:=jy;have Y:m<=lim:=by omega
 refine⟨λk=>decide (c/2 ^ k%2=1),?_⟩;generalize hw:(λk:Nat=>decide (c/2 ^ k%2=1))=w;have a0 : ∀(k s:Nat) (z:Cell),s+k=m->∃I O,xl (.nm 3) (zS (jT 2 (ny (ze 2) (QT (zx (.str "rl")) (zw x6 (ze 0) (zx (.int 2)))))) (jT 0 (zw KU (ze 0) (zx (.int 2))))) ((SG s k).map λ(i:Nat)=>D.int i) [.val (.int (c/2 ^ s)),.val (.int (1+(m:Int))),.val (.str (xm s w)),z] =
  cI (.next [I,.val<|.int<|1+(m:Int),.val<|.str<|xm m w,O]):=by
  intro k
  induction k with
  | zero=>
   intro s z h;obtain rfl:s=m:=by omega
   exact⟨_,z,rfl⟩
  | succ k ih=>
   intro s z h;obtain⟨I,O,e⟩:=ih (s+1) (.val (.int s)) ⋯;refine⟨I,O,?_⟩;rw[RN,NY,jN];have sx:QT (zx (.str "rl")) (zw x6 (ze 0) (zx (.int 2))) [.val (.int (c/2 ^ s)),.val (.int (1+(m:Int))),.val (.str (xm s w)),.val (.int s)]=cI (.str (xc (mm (w s)))):=by
    have ev:zw x6 (ze 0) (zx<|.int 2) [.val (.int<|c/2 ^ s),.val<|.int<|1+(m:Int),.val<|.str<|xm s w,.val (.int s)]=cI (.int<|c/2 ^ s%2):=by simp
    rw[pW,ev];have q:c/2 ^ s%2=0\/c/2 ^ s%2=1:=by omega
    have ws:w s=decide (c/2 ^ s%2=1):=by rw[<- hw]
    rw[ws];rcases q with q | q
    ·rw[q];rfl
    ·rw[q];rfl
   have s1:=yV w (show s<=1000 by omega);have s2:jm (xc<|mm<|w s)=cL:=rfl;have dv:c/2 ^ s/2=c/2 ^ (s+1):=by rw[Int.pow_succ,Int.ediv_ediv_of_nonneg (Int.pow_nonneg ⋯)]
   simp only[ZD,Nx,Ph,Pg];rw[jC];simp only[lO,pX,jW,NF,NG,zF,Nx,sx,s1,s2,and_self,if_true,ez,NZ,Ph,Pg];simp only[bw,jW,kU,NF,zF,Nx,pE];rw[DZ ⟨by omega,by omega⟩,dv];exact e
 obtain⟨c0,z,e⟩:=a0 m 0 .no ⋯;rw[<- Po]at e;have c1:c/2 ^ 0=c:=by simp
 have e1:(1:Int)+(m:Int) - 1=(m:Int):=by omega
 have w0:xm 0 w=("" : Str):=rfl;rw[c1,w0]at e;simp[xt,jo,jt,jC,e1,Y,qP,NB];rw[jw m λi=>(i:Int),e];simp
def pr(a b:Nat):D:= .tup [.int a,.int b]
@[simp] theorem zb0(a b):jg (pr a b)=cI (.T,[.int (a:Int),.int (b:Int)]):=rfl
def mk(lo:Nat)(ch:List Int)(r:Nat):Int:=if lo<=r then ch.getD (r - lo) 0 else 0
theorem Vs{ns:List Int}(hn:ns.length<=63){r n:Nat}{t:Int}(ht:0<=t)(ab:t<1000)(hr:0<r)(ac:r<=6)(ae:n<=60) : ∃bs,yT [V9 ns,.int t,.int n,.int r]=cI (.own<|zB bs)/\(∀b∈bs,mh r b)/\bs.length=n:=by
 have hl:=jy;have a2:n<=lim:=by omega
 have a3 : ∀(k s:Nat) (acc:List (Int×Int)) (c5 c6 c7:Cell),s+k=n->acc.length=s->(∀b∈acc,mh r b)->∃bs z I O,
  xl (.nm 5) (zS (jT 6<|zJ z6<|zc (ze 0)<|zc (zw qb (ze 1)<|ze 5) zG)<|zS (jT 7<|zw x6 (ze 6)<|ze 3)<|jZ 4<|qe<|zc (ze 7)<|zc (zw qb (ze 7)<|zw x6 (zw KU (ze 6)<|ze 3)<|zw yN (ze 3)<|ze 7) zG) ((SG s k).map λ(i:Nat)=>D.int i)
   [.val (V9 ns),.val<|.int t,.val<|.int n,.val<|.int r,.own<|zB acc,c5,c6,c7]=cI (.next [.val (V9 ns),.val<|.int t,.val<|.int n,.val<|.int r,.own<|zB bs,z,I,O])/\(∀b∈bs,mh r b)/\bs.length=n:=by
  intro k
  induction k with
  | zero=>intro s acc c5 c6 c7 h1 h2 Y;exact⟨acc,c5,c6,c7,rfl,Y,by omega⟩
  | succ k ih=>
   intro s acc c5 c6 c7 h1 h2 Y;obtain⟨e1,e2,e3⟩:=JG hn (k:=t+(s:Int)) ⋯ ⋯;have a5:=Ot (kg ns<|t+(s:Int)) (show(r:Int)≠0 by omega);have a6:=Oe (kg ns<|t+(s:Int)) (show(0:Int)<r by omega);have am:=Ot (kg ns (t+(s:Int))/r) (show(r:Int) - kg ns (t+(s:Int))%r≠0 by omega);have an:=Oe (kg ns (t+(s:Int))/r) (show(0:Int)<(r:Int) - kg ns (t+(s:Int))%r by omega);obtain⟨bs,z,I,O,h,g1,g2⟩:=ih (s+1) (acc++[(kg ns (t+(s:Int))%r,kg ns (t+(s:Int))%r+kg ns (t+(s:Int))/r%((r:Int) - kg ns (t+(s:Int))%r))]) (.val<|.int s) (.val<|.int<|kg ns<|t+(s:Int)) (.val<|.int<|kg ns (t+(s:Int))%r) ⋯ (by simp[h2]) (λb hb=>by
    rcases Sz.mp hb with hb | hb
    ·exact Y b hb
    ·have e:b=_:=Pp.mp hb
     subst e;exact⟨a5,by show _<=_+_;omega,by show _+_<_;omega⟩)
   refine⟨bs,z,I,O,?_,g1,g2⟩;rw[<- h,RN,NY,jN];have al:acc.length<lim:=by omega
   have rp:(0:Int)<r:=by omega
   have zcr:(0:Int)<(r:Int) - kg ns (t+(s:Int))%r:=by omega
   have rb:(r:Int)<1073741824:=by omega
   simp[jC,e1,rp,hr,a6,al,rb];simp[zB]
 obtain⟨bs,z,I,O,h,g1,g2⟩:=a3 n 0 [] .no .no .no ⋯ rfl ⋯;refine⟨vq bs,?_,λb hb=>g1 b<|(wF bs).mem_iff.mp hb,by rw[(wF bs).length_eq,g2]⟩;rw[<- Po]at h;simp[yT,jo,jt,jC,a2,qP,NB];rw[jw n λi=>(i:Int)];have e0:(zB []:List D)=[]:=rfl;rw[e0]at h;rw[h];simp[ZS (show bs.length<64 by omega)]
def HQ(h w:Nat)(f:DW):List D:=(Nu h).map λi=>D.lst<|zR w<|f i
@[simp] theorem zaV(h w f):(HQ h w f).length=h:=by simp[HQ]
def GV(m:Nat)(w:DV)(wd:DK)(T:DQ):List D:=(Nu m).map λk=>D.lst<|HQ (l7 w wd k) (l5 w wd k)<|T k
def oa(m:Nat)(w:DV)(wd:DK)(T:DQ):D:= .tup [.lst (zR (m+1) λk=>(wd k:Int)),.lst (GV m w wd T)]
def EN(m:Nat)(w:DV)(wd p3:DK)(J:DQ):List D:=(Nu m).map λk=>jU (l7 w wd k) (l5 w p3 k)<|J k
def kB:=jo 3<|zS (yt 1<|yu zG)<|zS (J3 (jH<|ze 0) (.nm 2)<|fJ 1<|zT (XU (ze 2)<|ze 0) (.nm 0) 1 [2] jS (qe<|zc (ze 1)<|zc (ze 0) zG))<|ZV 1
def qH:=jo 2<|Zn<|zT (zQ<|zM<|qe<|zc (zw yN (ze 1)<|zx<|.int 1)<|zc (ze 1) zG) (.nm 0) 1 [0] (sB<|yC A6 B8 (zx<|.int 0) (ze 0)<|Yf<|ze 1) (ze 0)
def wz:=jo 2<|xh<|fN<|qf<|zT (zQ<|qf<|qj qH<|zc (ze 0)<|zc (ze 1) zG) (.nm 0) 1 [0,1] jS (zw kC (zJ KO<|zc (ze 0)<|zc (QT (ze 1)<|ze 0) zG)<|ze 2)
def vk:=jo 2<|xh<|fN<|qf<|zT (zQ<|qf<|qj qH<|zc (ze 0)<|zc (ze 1) zG) (.nm 0) 1 [0,1] jS (zw kC (zJ kE<|zc (ze 0)<|zc (QT (ze 1)<|ze 0) zG)<|ze 2)
def kY:=jo 2<|zS (oy (kz<|sB<|zJ wu<|zc (zw qb (Yf<|ze 0)<|zx<|.int 1)<|zc (ze 1) zG) w9 xw)<|oy (qX (kz<|sB<|zJ wz<|zc (ze 0)<|zc (ze 1) zG)<|kz<|sB<|zJ vk<|zc (ze 0)<|zc (ze 1) zG) w9 xw
def Vk:=jo 4 (zS (oy (kz (sB (yC A6 A6 (zx (.int 0)) (ze 1) (Yf (ze 0))))) (xh (zx (.str "room"))) xw) (zS (jT 2 (BW (BW (ze 0) KQ (vl (ze 1))) (vl (Lq (zx (.int 1)))) KQ)) (zS (jT 3 (BW (BW (ze 0) (vl (ze 1)) KQ) KQ (vl (zx (.int 1))))) (zS (oy (qX (sB (zw kC (ze 2) (ze 3))) (sB (zw ow (ze 2) (zx (.str ""))))) (xh (zx (.str "turn"))) xw) (xh (zx (.str "told")))))))
def qV:=jo 3<|zS (oy (sB<|zw kC (ze 0)<|ze 1) (ZV 2) xw)<|xh<|WV (sB<|zw kC (ze 0)<|ze 2) (ze 1)<|ze 0
def mS:=(nq<|zJ kY<|zc (ze 0)<|zc (ze 1) zG)
def mQ:=(jT 3<|xB<|zT (zQ<|zq 2) (.nm 0) 1 [1] (fG (sB<|zw ow (fy (zq 0)<|zx<|.int 0)<|ze 1)<|sB<|zw ow (fy (zq 0)<|zx<|.int 1)<|ze 1) (ze 0))
def mP:=(Zn<|QU<|qf<|zT (zQ<|zq 3) (.tp [0,1]) 2 [1] jS (qe<|zc (zJ qV<|zc (ze 0)<|zc (ze 2)<|zc (zw qb (ze 2)<|zx<|.int 1) zG)<|zc (zJ qV<|zc (ze 1)<|zc (zw yN (ze 2)<|zx<|.int 1)<|zc (ze 2) zG) zG))
def ko:=jo 4<|zS mS<|zS mQ mP
def tE:=(yt 2<|yu zG)
def tD:=(J3 (zQ<|zM<|ze 1) (.tp [3,4])<|oy (qX (sB<|zw B8 (ze 3)<|ze 0)<|sB<|zw kC (ze 4)<|ze 0) (jZ 2<|qe<|zc (ze 3)<|zc (zw yN (ze 0)<|zx<|.int 1) zG)<|oy (qX (sB<|zw B8 (ze 3)<|ze 0)<|sB<|zw kC (ze 4)<|zw yN (ze 0)<|zx<|.int 1) (jZ 2<|qe<|zc (ze 3)<|zc (ze 0) zG)<|oy (qX (sB<|zw kC (ze 3)<|ze 0)<|sB<|zw yJ (ze 4)<|ze 0) (jZ 2<|qe<|zc (zw qb (ze 0)<|zx<|.int 1)<|zc (ze 4) zG)<|oy (qX (sB<|zw kC (ze 3)<|zw qb (ze 0)<|zx<|.int 1)<|sB<|zw yJ (ze 4)<|ze 0) (jZ 2<|qe<|zc (ze 0)<|zc (ze 4) zG)<|oy (sB<|zw ow (qe<|zc (ze 3)<|zc (ze 4) zG)<|qe<|zc (ze 0)<|zc (ze 0) zG) (jZ 2<|qe<|zc (ze 3)<|zc (ze 4) zG) xw)
def mM:=(Zn<|QU<|zq 2)
def ym:=jo 5<|zS tE<|zS tD mM
def wl(l:List Bool):Str:=⟨⟨l.map mm⟩⟩
theorem ZJ(m w):xm m w=wl ((Nu m).map w):=by have h:=kH m w;rw[show(Nu m).map (λk=>mm<|w k)=((Nu m).map w).map mm by rw[OO];rfl]at h;unfold wl;generalize xm m w=a at h;obtain⟨⟨l⟩⟩:=a;exact congrArg (λx=>Str.mk ⟨x⟩) h
theorem aE{α β:Type}{f g:α->β}{xs:List α}(h:xs.map f=xs.map g){a:α}(ha:a∈xs):f a=g a:=List.map_inj_left.mp h a ha
def dY:Nat->List (List Bool)
 | 0=>[[]]
 | n+1=>(dY n).flatMap λl=>[d7::l,cL::l]
def words:List (List Bool):=(Nu 6).flatMap dY
theorem Xi : ∀l:List Bool,l∈dY l.length
 | []=>Pp.mpr rfl
 | b::l=>TJ.mpr ⟨l,Xi l,by cases b<;>simp⟩
theorem gQ{l:List Bool}(h:l.length<=5):l∈words:=TJ.mpr ⟨l.length,NA.mpr ⋯,Xi l⟩
def Fg:List (List Bool×Nat):=words.flatMap λl=>(Nu<|l.length+1).map λk=>(l,k)
theorem kM{l:List Bool}{k:Nat}(h:l.length<=5)(hk:k<=l.length):(l,k)∈Fg:=
 TJ.mpr ⟨l,gQ h,Rf.mpr ⟨k,NA.mpr ⋯,rfl⟩⟩
def J2(l:List Bool)(k:Nat):Bool:=k==0 || k==l.length || l[k - 1]? != l[k]?
def B_:List (List Bool×Nat):=Fg.filter λa=>J2 a.1 a.2
theorem gP{l:List Bool}{k:Nat}(h:l.length<=5)(hk:k<=l.length)(z:J2 l k=cL):(l,k)∈B_:=
 OC.mpr ⟨kM h hk,z⟩
def Eo(l:List Bool):Nat->Nat->Nat
 | 0,k=>k
 | n+1,k=>if J2 l k then k else Eo l n ((k+1)%(l.length+1))
def QN(l:List Bool)(k:Nat):Nat:=Eo l 7 k
theorem bP:Fg.all (λa=>J2 a.1 (QN a.1 a.2) && decide (QN a.1 a.2<=a.1.length))=cL:=by kernel_rfl
theorem eT{l:List Bool}{k:Nat}(h:l.length<=5)(hk:k<=l.length):J2 l (QN l k)=cL/\QN l k<=l.length:=by have:=OA.mp bP _<|kM h hk;simpa using this
theorem Vf:B_.map (λa=>kY [.str (wl a.1),.int (a.2:Int)])=B_.map λ_=>cI (.val .i5):=by kernel_rfl
theorem JJ{l:List Bool}{k:Nat}(h:l.length<=5)(hk:k<=l.length)(z:J2 l k=cL):kY [.str (wl l),.int (k:Int)]=cI (.val .i5):=by have q:=aE Vf<|gP h hk z;dsimp only at q;exact q
def HN(n k:Nat)(u:Nat->Int):Int:=if 0<k then (if k+1<n then u (k - 1)+(u (k+1)+0)else u (k - 1)+0)else if k+1<n then u (k+1)+0 else 0
def mv(n k:Nat)(u:Nat->Int)(i:Nat):Int:=if i=k then HN n k u - u k else u i
theorem Bh(γ:Ctx)(i g):ni i g γ=(qT γ[i]?).bind λds=>(g γ).bind λa=>match a.1 with
 | .T=>if ds.length+a.2.length<=lim then cI (.next<|γ.set i<|.own<|ds++a.2)else cR
 | .L=>cR:=rfl
def _v(n:Nat)(hs z:DK)(T:DQ):List D:=(Nu n).map λk=>jU (hs k) (z k)<|T k
section
variable{wd:DK}{b:m6}{zcf:List m6}
theorem dD(g:Nat->Vc)(z:q<=lim)(I:h<=lim):wB [.int h,.lst (zV q h g)]=cI (.val<|jU h q λi j=>g j i):=by have e:=x9 (h:=q) (w:=h) g z I;unfold jU at e;simp[wB,jo,jt,NB,z,e];rfl
theorem oC(u:Nat->Int)(L:List Nat):(L.map λj=>D.int<|u j)=zR L.length λi=>u (L.getD i 0):=by
 unfold zR
 conv=>lhs;rw[<- qy 0 L]
 rw[OO];rfl
theorem xf(P:DV)(g:Nat->Int) : ∀N,zf (λi=>g<|((Nu N).filter P).getD i 0) ((Nu N).filter P).length=zf (λj=>if P j=cL then g j else 0) N
 | 0=>rfl
 | N+1=>by
  have z:=xf P g N;rw[PD,Te];show _=zf _ N+_;rw[<- z];cases hP:P N with
  | false=>simp[hP]
  | true=>
   have e:([N].filter P)=[N]:=by simp[hP]
   rw[e,Ol,Rv];show zf _ _+_=_;simp only[if_true];congr 1
   ·refine zk λi hi=>?_
    simp[Ny,Oi hi]
   ·simp[Ny,hP]
end
def b1:=(oy (kz<|sB<|zJ XC<|zc (ze 1) zG) w9 xw)
def b2:=(jT 3<|zw qb (Yf<|ze 1)<|zx<|.int 1)
def b3:=(oy (kz<|sB<|fN<|qf<|zT (zQ<|zq 2) (.nm 0) 1 [3] jS (zJ Zk<|zc (ze 1)<|zc (ze 0) zG)) w9 xw)
def b4:=(jT 4<|xB<|QU<|zq 2)
def b5:=(jT 5<|xB<|zT (jH<|ze 3) (.nm 0) 1 [4] jS (xB<|qj lZ<|zc (ze 1)<|zc (ze 0) zG))
def b6:=(jT 6<|jj<|qf<|zT (zQ<|zq 5) (.nm 0) 1 [] jS (vB<|zq 0))
def b7:=(oy (sB<|zw yJ (BU<|zq 6)<|zx<|.int 30) w9 xw)
def b8:=(jT 7<|xB<|zT (ki<|ze 1) (.tp [0,1]) 2 [5] jS (qe<|zc (ze 1)<|zc (zJ Wu<|zc (fy (zq 2)<|zJ KO<|zc (ze 0)<|zc (ze 1) zG)<|zc (fy (zq 2)<|zJ kE<|zc (ze 0)<|zc (ze 1) zG) zG) zG))
def x1:CO Xn:=(C' (kz (sB (zJ XC (zc (ze 1) zG)))) (GQ "NoRow") C_)
def x3:CO Xn:=(C' (kz (sB (fN (qf (zT (zQ (zq 2)) (.nm 0) 1 [3] jS (zJ Zk (zc (ze 1) (zc (ze 0) zG)))))))) (GQ "NoRow") C_)
def x7:CO Xn:=(C' (sB (zw yJ (BU (zq 6)) (zx (.int 30)))) (GQ "TooMany") C_)
def Cc(m:Nat)(bs:List (Int×Int)):List D:=(Nu<|m+1).map λ(r:Nat)=>D.lst<|HP<|rP bs r
def sN(m:Nat)(bs:List (Int×Int)):List D:=zR (m+1) λr=>((rP bs r).length:Int)
section
variable{p:Int}{m:Nat}{w:DV}{bs:List (Int×Int)}
abbrev g0(p:Int)(z:Str)(bs:List (Int×Int)):Ctx:=[.val (.int p),.val (.str z),.val (.lst (zB bs)),.no,.no,.no,.no,.no]
abbrev g2(p:Int)(z:Str)(m:Nat)(bs:List (Int×Int)):Ctx:=[.val (.int p),.val (.str z),.val (.lst (zB bs)),.val (.int ((m+1:Nat):Int)),.no,.no,.no,.no]
abbrev g6(p:Int)(z:Str)(m:Nat)(bs:List (Int×Int)):Ctx:=[.val (.int p),.val (.str z),.val (.lst (zB bs)),.val (.int ((m+1:Nat):Int)),.val (.lst (zB (vq bs))),.val (.lst (Cc m (vq bs))),.val (.tup (sN m (vq bs))),.no]
end
def N?(n:Nat)(ks:List Nat)(u:Nat->Int):Nat->Int:=ks.foldl (λu k=>mv n k u) u
def sw(k i:Nat):Nat:=if i=k then k+1 else if i=k+1 then k else i
def Y'(n:Nat)(ks:List Nat)(u:Nat->Int):Nat->Nat->Int
 | 0=>u
 | j+1=>N? n ks<|Y' n ks u j
def acc(n:Nat)(ks:List Nat)(u:Nat->Int):Nat->Nat->Int
 | 0=>λ_=>0
 | j+1=>λi=>acc n ks u j i+Y' n ks u j i
section
variable{wd:DK}{N m k r:Nat}{A:Nat->m6}{p:Int}{w:DV}{T:DQ}{B:Nat->Vc}{l:DK}
theorem pV(h:k<m):(qG m w wd T)[k]? = cI (yP w wd T k):=by simp[qG,h]
theorem lJ(h:k<(qG m w wd T).length):(qG m w wd T)[k]=yP w wd T k:=by simp[qG]
theorem Vg(w wd T k):jg (yP w wd T k)=cI (.T,[.str (xc<|mm<|w k),jU (l7 w wd k) (l5 w wd k) (T k)]):=rfl
end
def oD(n:Nat):Option Vc->D
 | none=> .i5
 | some y=> .tup (zR n y)
section
variable{wd:DK}{m k:Nat}{p:Int}{w:DV}{T:DQ}
theorem Xq(l:DK) : ∀L:List Nat,Kl (L.map λj=>D.int ((l j:Nat):Int))=cI (L.map λj=>((l j:Nat):Int))
 | []=>rfl
 | j::L=>by simp[Kl,Xq l L]
theorem wJ(hb:nr p n r B l):r<=n:=by
 have mono : ∀k,k<r->k<=l k:=by
  intro k
  induction k with
  | zero=>intro _;omega
  | succ k I=>intro hk;have:=I ⋯;have:=hb.mono k (k+1) ⋯ hk;omega
 cases r with
 | zero=>omega
 | succ z=>have:=mono z ⋯;have:=hb.lt z ⋯;omega
end
abbrev zcd:=Nat×Nat×(Nat->Nat->Int)
section
variable{wd:DK}{m k N:Nat}{p:Int}{w:DV}{T:DQ}{A:Nat->m6}
def m3(A:Nat->m6)(N r:Nat):List Nat:=(Nu N).filter λj=>(A j).has r
def xH(A:Nat->m6)(N r:Nat):Nat->Nat->Int:=λi j=>(A<|(m3 A N r).getD j 0).v r i
theorem ik{r j:Nat}(h:j<(m3 A N r).length):(m3 A N r).getD j 0<N/\(A<|(m3 A N r).getD j 0).has r=cL:=by
 have hm:(m3 A N r).getD j 0∈m3 A N r:=by rw[Ny,Nw h];exact Rt _
 obtain⟨h1,h2⟩:=OC.mp hm;exact⟨NA.mp h1,by simpa using h2⟩
theorem K3(I:Pr p)(hn:n<=8)(hs : ∀v:Vc,∃t,∀i,i<n->v i%p=app f n t i%p) : ∃g:DW,GI p n f g/\GI p n g f/\∀i j,0<=g i j/\g i j<p:=by
 have p0:=I.pos;obtain⟨t,O⟩:=Tf λj=>hs<|jF j;refine⟨λi j=>t j i%p,?_,?_,λi j=>⟨Ot _ ⋯,Oe _ p0⟩⟩
 ·intro i j hi Y
  have e:zf (λk=>f i k*(t j k%p)) n%p=app f n (t j) i%p:=zy λk _=>qx p _ _;rw[e,<- O j i hi];unfold jF Dw;simp only[eq_comm]
 ·intro i j hi Y
  have z : ∀a,a<n->app f n (λb=>zf (λk=>(t k b%p)*f k j) n - jF j b) a%p=0:=λa ha=>by
   rw[AZ,bu f Y,RI];have e:app f n (λb=>zf (λk=>(t k b%p)*f k j) n) a%p=f a j%p:=by
    have e1:app f n (λb=>zf (λk=>(t k b%p)*f k j) n) a=zf (λk=>f k j*app f n (λb=>t k b%p) a) n:=by rw[<- Wl];congr 1;funext b;exact xR ..
    rw[e1];have e2:zf (λk=>f k j*app f n (λb=>t k b%p) a) n%p=zf (λk=>f k j*jF k a) n%p:=zy λk _=>by rw[ND,kT (u:=t k) (λb _=>Ou _ _) a,<- O k a ha,<- ND]
    rw[e2,zK (f:=λk=>f k j*jF k a) ha λk _ hk=>by simp[jF,hk]];simp[jF]
   rw[e];simp
  have:=JA I hn hs z i hi;have e3:(zf (λk=>(t k i%p)*f k j) n)%p=jF j i%p:=Rc.mpr this;show zf (λk=>(t k i%p)*f k j) n%p=Dw i j%p;rw[e3];unfold jF Dw;simp only[eq_comm]
end
section
variable{wd:DK}{m k N:Nat}{p:Int}{w:DV}{T:DQ}{A:Nat->m6}{g:DQ}
theorem vW(A N r):(m3 A N r).Nodup:=Ss.sublist Rl
theorem wO{L:List Nat}(h:L.Nodup){a b:Nat}(ha:a<L.length)(hb:b<L.length)(e:L.getD a 0=L.getD b 0):a=b:=by rw[Ny,Ny,Nw ha,Nw hb]at e;exact(List.getElem_inj h).mp e
end
structure rn(p:Int)(w:DV)(wd:DK)(T:DQ)(m N:Nat)(A:Nat->m6):Prop where
 ok : ∀j,j<N->FD p w wd T m (A j)
 sp : ∀r,r<=m->∀v:Vc,∃t:Vc,∀i,i<wd r->v i%p=zf (λj=>if (A j).has r=cL then t j*(A j).v r i else 0) N%p
 inj : ∀r,r<=m->∀t:Vc,(∀i,i<wd r->zf (λj=>if (A j).has r=cL then t j*(A j).v r i else 0) N%p=0)->∀j,j<N->(A j).has r=cL->t j%p=0
 cnt : ∀r,r<=m->(m3 A N r).length=wd r
def Lk(p:Int)(w:DV)(wd:DK)(T:DQ)(k:Nat)(y z:Vc):Prop:=
 if w k=cL then ∀i,i<wd k->y i%p=app (T k) (wd<|k+1) z i%p else ∀i,i<wd (k+1)->z i%p=app (T k) (wd k) y i%p
def Wk(p:Int)(w:DV)(wd:DK)(T:DQ)(d:Nat):Nat->Vc->Vc->Prop
 | 0,u,z=>∀i,i<wd d->u i%p=z i%p
 | n+1,u,z=>∃y,Wk p w wd T d n u y/\Lk p w wd T (d+n) y z
section
variable{p:Int}{w:DV}{wd:DK}{T:DQ}{m N N':Nat}{A A':Nat->m6}{d:Nat}
theorem VO(h1:a%p=b%p)(h2:a'%p=b'%p):(a+c*a')%p=(b+c*b')%p:=by rw[NS,h1,ND,h2,<- ND,<- NS]
theorem FK(c:Int)(h:Lk p w wd T k y z)(h':Lk p w wd T k y' z'):Lk p w wd T k (λi=>y i+c*y' i) λi=>z i+c*z' i:=by
 unfold Lk at *;split
 ·next hw=>
  rw[DZ hw]at h h';intro i hi;rw[VO (h i hi) (h' i hi)];exact(JL (λ_ _=>rfl) i).symm
 ·next hw=>
  rw[DJ hw]at h h';intro i hi;rw[VO (h i hi) (h' i hi)];exact(JL (λ_ _=>rfl) i).symm
theorem sH : ∀(n:Nat) {u z I O:Vc} (c:Int),Wk p w wd T d n u z->Wk p w wd T d n I O->Wk p w wd T d n (λi=>u i+c*I i) λi=>z i+c*O i
 | 0,u,z,I,O,c,h,h'=>λi hi=>VO (h i hi)<|h' i hi
 | n+1,u,z,I,O,c,⟨y,h1,h2⟩,⟨y',p?,q?⟩=>⟨_,sH n c h1 p?,FK c h2 q?⟩
theorem lU(k:Nat):Lk p w wd T k (λ_=>0) λ_=>0:=by unfold Lk;split<;>exact λi _=>by rw[ZF (λ_ _=>by simp) i];simp
theorem Wp : ∀n,Wk p w wd T d n (λ_=>0) λ_=>0
 | 0=>λ_ _=>rfl
 | n+1=>⟨_,Wp n,lU _⟩
theorem pZ(h:Lk p w wd T k y z)(hz : ∀i,i<wd (k+1)->z' i%p=z i%p):Lk p w wd T k y z':=by
 unfold Lk at *;split
 ·next hw=>rw[DZ hw]at h;intro i hi;rw[h i hi];exact(kT hz i).symm
 ·next hw=>rw[DJ hw]at h;intro i hi;rw[hz i hi,h i hi]
theorem Ld : ∀{n:Nat} {u z I:Vc},Wk p w wd T d n u z->(∀i,i<wd (d+n)->I i%p=z i%p)->Wk p w wd T d n u I
 | 0,u,z,I,h,hz=>λi hi=>by rw[h i hi,hz i hi]
 | n+1,u,z,I,⟨y,h1,h2⟩,hz=>⟨y,h1,pZ h2 hz⟩
theorem Vj : ∀{n:Nat} {u I z:Vc},Wk p w wd T d n u z->(∀i,i<wd d->I i%p=u i%p)->Wk p w wd T d n I z
 | 0,u,I,z,h,hu=>λi hi=>by rw[hu i hi,h i hi]
 | n+1,u,I,z,⟨y,h1,h2⟩,hu=>⟨y,Vj h1 hu,h2⟩
theorem sG(t:Vc)(u z:Nat->Vc) : ∀K,(∀j,j<K->Wk p w wd T d n (u j) (z j))->Wk p w wd T d n (λi=>zf (λj=>t j*u j i) K) λi=>zf (λj=>t j*z j i) K
 | 0,_=>Wp n
 | K+1,h=>sH n (t K) (sG t u z K λj I=>h j ⋯)<|h K ⋯
theorem pS(hb:FD p w wd T m b)(hk:k<m)(h1:b.has k=cL)(h2:b.has (k+1)=cL):Lk p w wd T k (b.v k) (b.v<|k+1):=by
 unfold Lk;cases hw:w k with
 | true=>
  have z:jG w k=k+1:=by unfold jG;rw[hw];rfl
  have I:jQ w k=k:=by unfold jQ;rw[hw];rfl
  rw[DZ rfl];intro i hi;have:=hb.arr k hk (by rw[z];exact h2) i (by rw[I];exact hi);rw[z,I,h1,DZ rfl]at this;exact this.symm
 | false=>
  have z:jG w k=k:=by unfold jG;rw[hw];rfl
  have I:jQ w k=k+1:=by unfold jQ;rw[hw];rfl
  rw[DJ ⋯];intro i hi;have:=hb.arr k hk (by rw[z];exact h1) i (by rw[I];exact hi);rw[z,I,h2,DZ rfl]at this;exact this.symm
theorem KH(hb:FD p w wd T m b)(h1:b.has d=cL) : ∀n,d+n<=m->b.has (d+n)=cL->Wk p w wd T d n (b.v d) (b.v<|d+n)
 | 0,_,_=>λ_ _=>rfl
 | n+1,hn,h2=>by have z:b.has (d+n)=cL:=t8.mpr (by have:=t8.mp h1;have:=t8.mp h2;omega);exact⟨_,KH hb h1 n ⋯ z,pS hb ⋯ z h2⟩
theorem lH(hb:FD p w wd T m b)(h1:b.has d=cL)(hw:w (b.s+b.n - 1)=d7) : ∀n,d+n<=m->b.has (d+n)=d7->Wk p w wd T d n (b.v d) λ_=>0
 | 0,_,h2=>by rw[UM,h1]at h2;cases h2
 | n+1,hn,h2=>by
  cases h3:b.has (d+n)with
  | false=>exact⟨_,lH hb h1 hw n ⋯ h3,lU _⟩
  | true=>
   refine⟨_,KH hb h1 n ⋯ h3,?_⟩;have q3:=t8.mp h3;have q2 : ¬(d+n+1<b.s+b.n):=λz=>by have:b.has (d+(n+1))=cL:=t8.mpr ⋯;rw[this]at h2;cases h2
   have I:b.s+b.n - 1=d+n:=by omega
   rw[I]at hw;have O:jG w (d+n)=d+n:=by unfold jG;rw[hw];rfl
   have Y:jQ w (d+n)=d+n+1:=by unfold jQ;rw[hw];rfl
   have:=hb.arr (d+n) ⋯;rw[O,Y]at this;unfold Lk;rw[hw,DJ ⋯];intro i hi;rw[this h3 i hi,show b.has (d+n+1)=d7 from h2];simp
theorem QL(D:rn p w wd T m N A) : ∀n,d+n<=m->∀{u z:Vc},Wk p w wd T d n u z->∀{a b:Vc},(∀i,i<wd d->u i%p=zf (λj=>if (A j).has d=cL then a j*(A j).v d i else 0) N%p)->(∀i,i<wd (d+n)->z i%p=zf (λj=>if (A j).has (d+n)=cL then b j*(A j).v (d+n) i else 0) N%p)->
 ∀j,j<N->(A j).has d=cL->((A j).has (d+n)=cL->a j%p=b j%p)/\((A j).has (d+n)=d7->w ((A j).s+(A j).n - 1)=cL->a j%p=0):=by
 have a2 : ∀r,r<=m->∀{v:Vc} {a b:Vc},(∀i,i<wd r->v i%p=zf (λj=>if (A j).has r=cL then a j*(A j).v r i else 0) N%p)->(∀i,i<wd r->v i%p=zf (λj=>if (A j).has r=cL then b j*(A j).v r i else 0) N%p)->∀j,j<N->(A j).has r=cL->a j%p=b j%p:=λr hr v a b h1 h2 j O Y=>by
  have:=D.inj r hr (λj=>a j - b j) (λi hi=>by
   have e:zf (λj=>if (A j).has r=cL then (a j - b j)*(A j).v r i else 0) N=zf (λj=>if (A j).has r=cL then a j*(A j).v r i else 0) N+zf (λj=>(if (A j).has r=cL then b j*(A j).v r i else 0)*(-1)) N:=by
    rw[<- jf];refine zk λj _=>?_;split
    ·rw[Int.sub_mul];omega
    ·simp
   rw[e,jE,NS,<- h1 i hi,ND,<- h2 i hi,<- ND,<- NS,show v i+v i * -1=0 by omega];simp) j O Y
  exact Rc.mpr this
 have a8 : ∀k,k<m->∀(c:Vc) (r r':Nat),r=jG w k->r'=jQ w k->∀i,i<wd r'->app (T k) (wd r) (F3 p A N c r) i%p=zf (λj=>if (A j).has r'=cL then (if (A j).has r=cL then c j else 0)*(A j).v r' i else 0) N%p:=λk hk c r r' e1 e2 i hi=>by
  rw[Ba];refine zy λj O=>?_;cases hx:(A j).has r with
  | false=>simp
  | true=>
   have q:=(D.ok j O).arr k hk (by rw[<- e1];exact hx) i (by rw[<- e2];exact hi);rw[<- e1,<- e2]at q;simp only[if_true];rw[ND,q,<- ND];cases hy:(A j).has r'<;>simp
 intro n
 induction n with
 | zero=>
  intro hn u z a3 a b ha hb j O Y;refine⟨λ_=>a2 d ⋯ ha (λi hi=>by rw[a3 i hi];exact hb i hi) j O Y,λh=>?_⟩;rw[UM,Y]at h;cases h
 | succ n ih=>
  intro hn u z a3 a b ha hb j O Y;obtain⟨y,h1,h2⟩:=a3;obtain⟨c,hc⟩:=D.sp (d+n) ⋯ y;obtain⟨i1,i2⟩:=ih ⋯ h1 ha hc j O Y;have ac : ∀i,i<wd (d+n)->y i%p=F3 p A N c (d+n) i%p:=λi hi=>by rw[hc i hi];unfold F3;rw[Ou]
  have ae : ∀i,i<wd (d+n+1)->z i%p=F3 p A N b (d+n+1) i%p:=λi hi=>by rw[hb i hi];unfold F3;rw[Ou];rfl
  have zcp:=t8.mp Y;cases hw:w (d+n)with
  | false=>
   have eb:jG w (d+n)=d+n:=by unfold jG;rw[hw];rfl
   have ee:jQ w (d+n)=d+n+1:=by unfold jQ;rw[hw];rfl
   unfold Lk at h2;rw[hw,DJ ⋯]at h2;have a1:=a2 (d+n+1) ⋯ (v:=z) hb (b:=λj=>if (A j).has (d+n)=cL then c j else 0) λi hi=>by rw[h2 i hi,kT ac i];exact a8 (d+n) ⋯ c (d+n) (d+n+1) eb.symm ee.symm i hi
   refine⟨λh=>?_,λh a0=>?_⟩
   ·have I:(A j).has (d+n)=cL:=t8.mpr (by have:=t8.mp h;omega)
    have:=a1 j O h;rw[I,DZ rfl]at this;rw[i1 I,this]
   ·cases I:(A j).has (d+n)with
    | false=>exact i2 I a0
    | true=>
     have q3:=t8.mp I;have q2 : ¬(d+n+1<(A j).s+(A j).n):=λz=>by have:(A j).has (d+(n+1))=cL:=t8.mpr ⋯;rw[this]at h;cases h
     rw[show(A j).s+(A j).n - 1=d+n by omega,hw]at a0;cases a0
  | true=>
   have eb:jG w (d+n)=d+n+1:=by unfold jG;rw[hw];rfl
   have ee:jQ w (d+n)=d+n:=by unfold jQ;rw[hw];rfl
   unfold Lk at h2;rw[hw,DZ rfl]at h2;have a1:=a2 (d+n) ⋯ (v:=y) hc (b:=λj=>if (A j).has (d+n+1)=cL then b j else 0) λi hi=>by rw[h2 i hi,kT ae i];exact a8 (d+n) ⋯ b (d+n+1) (d+n) eb.symm ee.symm i hi
   refine⟨λh=>?_,λh a0=>?_⟩
   ·have I:(A j).has (d+n)=cL:=t8.mpr (by have:=t8.mp h;omega)
    have:=a1 j O I;rw[show(A j).has (d+n+1)=cL from h,DZ rfl]at this;rw[i1 I,this]
   ·cases I:(A j).has (d+n)with
    | false=>exact i2 I a0
    | true=>
     have:=a1 j O I;rw[show(A j).has (d+n+1)=d7 from h,DJ ⋯]at this;rw[i1 I,this];simp
end
section
variable{p:Int}{n:Nat}
theorem sk{l:DK} : ∀{r:Nat},(∀k m,k<m->m<r->l k<l m)->∃j,j<=r/\∀k,k<r->l k≠j
 | 0,_=>⟨0,NJ _,λk hk=>absurd hk<|Ob _⟩
 | r+1,h=>by
  obtain⟨j,h1,h2⟩:=sk (r:=r) λk m a b=>h k m a ⋯;by_cases e:l r=j
  ·refine⟨r+1,NJ _,λk hk=>?_⟩
   rcases NU k r with z | z
   ·have:=h k r z ⋯;omega
   ·rw[show k=r by omega];omega
  ·refine⟨j,by omega,λk hk=>?_⟩
   rcases NU k r with z | z
   ·exact h2 k z
   ·rw[show k=r by omega];exact e
theorem iA(hp:Pr p){h N:Nat}{f:DW}(inj : ∀t:Vc,(∀i,i<h->app f N t i%p=0)->∀j,j<N->t j%p=0):N<=h:=by
 rcases NU h N with a8 | a6
 ·exfalso
  obtain⟨r,hr,B,l,hb,hs⟩:=WX (n:=N) hp h f;obtain⟨O,aa,a2⟩:=sk hb.mono;have a3:O<N:=by omega
  let t:Vc:=λj=>if j=O then 1 else zf (λk=>if l k=j then B k O*(-1)else 0) r;have t0:t O=1:=DZ rfl;have tl : ∀k,k<r->t (l k)=B k O*(-1):=λk hk=>by
   show(if l k=O then _ else _)=_;rw[DJ (a2 k hk),zK (f:=λI=>if l I=l k then B I O*(-1)else 0) hk λI Y a0=>by
    rw[DJ λe=>a0 (by
     rcases Sg I k with z | z | z
     ·have:=hb.mono I k z hk;omega
     ·exact z
     ·have:=hb.mono k I z Y;omega)]]
   rw[DZ rfl]
  have a7 : ∀k,k<r->zf (λj=>B k j*t j) N=0:=λk hk=>by
   have e:zf (λj=>B k j*t j) N=zf (λj=>(if j=O then B k O else 0)+zf (λI=>if l I=j then B k (l I)*(B I O*(-1))else 0) r) N:=zk λj hj=>by
    by_cases z:j=O
    ·subst z
     rw[t0,DZ rfl,zk (g:=λ_=>0) λI Y=>DJ<|a2 I Y,zz];simp
    ·show B k j*(if j=O then _ else _)=_
     rw[DJ z,DJ z,Int.zero_add,Pe,<- jE];refine zk λI Y=>?_;by_cases e:l I=j
     ·rw[DZ e,DZ e,<- e,Pe]
     ·rw[DJ e,DJ e];simp
   rw[e,jf,zK (f:=λj=>if j=O then B k O else 0) a3<|λj _ a0=>DJ a0,DZ rfl,jY];have e2:zf (λI=>zf (λj=>if l I=j then B k (l I)*(B I O*(-1))else 0) N) r=zf (λI=>B k (l I)*(B I O*(-1))) r:=zk λI Y=>by rw[zK (f:=λj=>if l I=j then B k (l I)*(B I O*(-1))else 0) (hb.lt I Y) λj _ a0=>DJ<|OQ a0,DZ rfl]
   rw[e2,zK (f:=λI=>B k (l I)*(B I O*(-1))) hk λI Y a0=>by rw[hb.p9 k I hk Y a0];simp];rw[hb.one k hk];omega
  have:=inj t (λi hi=>by
   have c:=Wc hb<|(hs<|f i).mpr (.gen ⟨i,hi,rfl⟩);unfold app;have e:zf (λj=>f i j*t j) N%p=zf (λj=>zf (λk=>f i (l k)*B k j) r*t j) N%p:=zy λj hj=>by rw[ND,c j hj,<- ND]
   rw[e];have e2:zf (λj=>zf (λk=>f i (l k)*B k j) r*t j) N=zf (λk=>f i (l k)*zf (λj=>B k j*t j) N) r:=by rw[zk (g:=λj=>zf (λk=>f i (l k)*B k j*t j) r) λj _=>(jE _ _ _).symm,jY];refine zk λk _=>?_;rw[<- zZ];exact zk λj _=>OP _ _ _
   rw[e2,zk (g:=λ_=>0) λk hk=>by rw[a7 k hk,Ry],zz];simp) O a3
  rw[t0,hp.one]at this;cases this
 ·exact a6
theorem k4(W:Nat->Vc)(t:Vc):Span p n (h9 m W) λi=>zf (λj=>t j*W j i) m:=Span.sum (u:=W) t λj z=> .gen ⟨j,z,rfl⟩
theorem Fi(z:Pr p)(hb:nr p n s B l)(sp : ∀v,Span p n (h9 s B) v↔Span p n (h9 m W) v)(I : ∀t:Vc,(∀i,i<n->zf (λj=>t j*W j i) m%p=0)->∀j,j<m->t j%p=0):m=s:=by
 have h1:s<=m:=by obtain⟨r,hr,O⟩:=WX (n:=n) z m W;have:=Vy z (m:=m) (W:=W) ⟨B,l,hb,sp⟩ O;omega
 have hs:s<=n:=wJ hb;have h2:m<=s:=iA z (f:=λi j=>W j<|l i) λt Y=>I t λi hi=>by
  have c:=Wc hb ((sp _).mpr (k4 (n:=n) W t)) i hi;rw[c];have:zf (λk=>zf (λj=>t j*W j (l k)) m*B k i) s%p=zf (λ_=>0) s%p:=zy λk hk=>by have:=Y k hk;unfold app at this;rw[xR]at this;rw[ND,this];simp
  rw[this,zz];simp
 omega
theorem pD(hp:Pr p){s q c:Nat}{B B2 V:Nat->Vc}{l l2:DK}(hX:nr p n s B l)(O:nr p n q B2 l2)(a5 : ∀j,j<c->Span p n (h9 s B) (V j))(KX : ∀v,Span p n (h9 q B2) v->Span p n (h9 s B) v)
 (_o : ∀v,Span p n (h9 s B) v->∃t:Vc,Span p n (h9 q B2) λi=>v i - zf (λj=>t j*V j i) c) (a7 : ∀t:Vc,Span p n (h9 q B2) (λi=>zf (λj=>t j*V j i) c)->∀j,j<c->t j%p=0):q+c=s:=by
 let W:Nat->Vc:=λj=>if j<q then B2 j else V (j - q);have w1 : ∀j,j<q->W j=B2 j:=λj I=>DZ I;have w2 : ∀j,W (q+j)=V j:=λj=>by show(if q+j<q then _ else _)=_;rw[DJ ⋯,Oh]
 have sm : ∀t:Vc,∀i,zf (λj=>t j*W j i) (q+c)=zf (λj=>t j*B2 j i) q+zf (λj=>t (q+j)*V j i) c:=λt i=>by
  rw[vD];congr 1
  ·exact zk λj I=>by rw[w1 j I]
  ·exact zk λj I=>by rw[w2 j]
 refine Fi hp hX (W:=W) (λv=>⟨λY=>?_,λY=>Y.le λg hg=>?_⟩) λt ht=>?_
 ·obtain⟨t,h⟩:=_o v Y
  have h1:Span p n (h9 (q+c) W) λi=>v i - zf (λj=>t j*V j i) c:=h.le λg hg=>by obtain⟨k,hk,rfl⟩:=hg;rw[<- w1 k hk];exact .gen ⟨k,by omega,rfl⟩
  have h2:Span p n (h9 (q+c) W) λi=>zf (λj=>t j*V j i) c:=Span.sum t λj I=>by rw[<- w2 j];exact .gen ⟨q+j,by omega,rfl⟩
  exact(h2.add h1 1).congr λi _=>by rw[TL,Int.sub_add_cancel]
 ·obtain⟨k,hk,rfl⟩:=hg
  rcases NU k q with z | z
  ·rw[w1 k z];exact KX _<|.gen ⟨k,z,rfl⟩
  ·obtain⟨j,rfl⟩ : ∃j,k=q+j:=⟨k - q,by omega⟩
   rw[w2 j];exact a5 j ⋯
 ·have hz : ∀j,j<c->t (q+j)%p=0:=a7 (λj=>t<|q+j) ((k4 (n:=n) B2 λj=> -1*t j).congr λi hi=>by
   have:=ht i hi;rw[sm]at this;have e:zf (λj=> -1*t j*B2 j i) q=zf (λj=>t j*B2 j i) q * -1:=by rw[<- jE];exact zk λj _=>by rw[Pe (-1),OP,Pe (-1),OP]
   rw[e];refine Rc.mpr ?_;rw[<- this];congr 1;omega)
  intro j I;rcases NU j q with z | z
  ·have h0 : ∀i,i<n->zf (λj=>t j*B2 j i) q%p=0:=λi hi=>by
    have:=ht i hi;rw[sm,NS]at this;have e:zf (λj=>t (q+j)*V j i) c%p=zf (λ_=>0) c%p:=zy λj I=>by rw[ND,hz j I];simp
    rw[e,zz]at this;simpa using this
   have h1:=h0 (l2 j)<|O.lt j z;rw[zK (f:=λk=>t k*B2 k (l2 j)) z λk hk a8=>by rw[O.p9 k j hk z (OQ a8)];simp]at h1;rw[O.one j z,PJ]at h1;exact h1
  ·obtain⟨k,rfl⟩ : ∃k,j=q+k:=⟨j - q,by omega⟩
   exact hz k ⋯
end
def w8(A:Nat->m6)(N d e:Nat):List Nat:=(Nu N).filter λj=>(A j).has d && (A j).has e
section
variable{p:Int}{w:DV}{wd:DK}{T:DQ}{m N n:Nat}{A:Nat->m6}{d:Nat}
theorem iX(hk:k<(w8 A N d e).length):(w8 A N d e).getD k 0<N/\(A<|(w8 A N d e).getD k 0).has d=cL/\(A<|(w8 A N d e).getD k 0).has e=cL:=by
 have hm:(w8 A N d e).getD k 0∈w8 A N d e:=by rw[Ny,Nw hk];exact Rt _
 obtain⟨h1,h2⟩:=OC.mp hm;simp only[NI]at h2;exact⟨NA.mp h1,h2.1,h2.2⟩
theorem Fo(D:rn p w wd T m N A)(hd:d<=m)(e:Nat):(w8 A N d e).length<=wd d:=by rw[<- D.cnt d hd];unfold w8 m3;rw[<- L6,<- L6];exact List.countP_mono_left λj _ h=>by simp only[NI]at h;exact h.1
theorem pG(d e:Nat)(t:Vc) : ∃a:Vc,∀k,k<(w8 A N d e).length->a ((w8 A N d e).getD k 0)=t k:=by refine⟨λj=>t<|(w8 A N d e).idxOf j,λk hk=>?_⟩;have nd:(w8 A N d e).Nodup:=Ss.sublist Rl;show t _=_;rw[Ny,Nw hk,Rn,nd.idxOf_getElem _ hk]
theorem iW(d e:Nat)(a:Vc)(i:Nat):zf (λk=>a ((w8 A N d e).getD k 0)*(A<|(w8 A N d e).getD k 0).v d i) (w8 A N d e).length=zf (λj=>if (A j).has d=cL then (if (A j).has e=cL then a j else 0)*(A j).v d i else 0) N:=by have:=xf (λj=>(A j).has d && (A j).has e) (λj=>a j*(A j).v d i) N;refine this.trans<|zk λj _=>?_;cases (A j).has d<;>cases (A j).has e<;>simp
theorem oW(hp:Pr p)(D:rn p w wd T m N A)(hd:d+n<=m){s q:Nat}{B B2:Nat->Vc}{l l2:DK}(hX:nr p (wd d) s B l)(O : ∀u,Span p (wd d) (h9 s B) u ↔ ∃z,Wk p w wd T d n u z)
 (hK:nr p (wd d) q B2 l2) (Y : ∀u,Span p (wd d) (h9 q B2) u↔Wk p w wd T d n u λ_=>0):q+(w8 A N d<|d+n).length=s:=by
 have hc:=Fo D (show d<=m by omega)<|d+n;have hq:=wJ hK;refine pD hp hX hK (V:=λk=>(A<|(w8 A N d<|d+n).getD k 0).v d) (λk hk=>?_) (λv hv=>(O v).mpr ⟨_,(Y v).mp hv⟩) (λv hv=>?_) λt ht=>?_
 ·obtain⟨h1,h2,I⟩:=iX hk
  exact(O _).mpr ⟨_,KH (D.ok _ h1) h2 n hd I⟩
 ·obtain⟨z,hz⟩:=(O v).mp hv
  obtain⟨a,ha⟩:=D.sp d ⋯ v;obtain⟨b,hb⟩:=D.sp (d+n) hd z;have a1:=QL D n hd hz ha hb;refine⟨λk=>a<|(w8 A N d<|d+n).getD k 0,(Y _).mpr ?_⟩;let u:Nat->Vc:=λj=>if (A j).has d=cL/\(A j).has (d+n)=d7/\w ((A j).s+(A j).n - 1)=d7 then (A j).v d else λ_=>0;have hu : ∀j,j<N->Wk p w wd T d n (u j) λ_=>0:=λj hj=>by
   show Wk p w wd T d n (if _ then _ else _) _;split
   ·next h=>exact lH (D.ok j hj) h.1 h.2.2 n hd h.2.1
   ·exact Wp n
  have hs:=sG a u (λ_ _=>0) N hu;refine Ld (Vj hs λi hi=>?_) λi _=>by simp[zz]
  rw[iW d (d+n) a i];rw[RI,ha i hi,<- RI];have e:zf (λj=>if (A j).has d=cL then a j*(A j).v d i else 0) N - zf (λj=>if (A j).has d=cL then (if (A j).has (d+n)=cL then a j else 0)*(A j).v d i else 0) N=zf (λj=>(if (A j).has d=cL then a j*(A j).v d i else 0)+(if (A j).has d=cL then (if (A j).has (d+n)=cL then a j else 0)*(A j).v d i else 0) * -1) N:=by rw[jf,jE];omega
  rw[e];refine zy λj hj=>?_;show _=a j*(if _ then (A j).v d else λ_=>0) i%p;cases h1:(A j).has d with
  | false=>simp
  | true=>
   cases h2:(A j).has (d+n)with
   | true=>
    have e0:a j*(A j).v d i+a j*(A j).v d i * -1=0:=by omega
    simp only[if_true,e0,Bool.true_eq_false,false_and,and_false,if_false,Ry]
   | false=>
    cases I:w ((A j).s+(A j).n - 1)with
    | false=>simp
    | true=>
     have:=(a1 j hj h1).2 h2 I;simp only[if_true,A3,if_false,Int.zero_mul,RZ,Ry,Bool.true_eq_false,and_false];rw[ND,this];simp
 ·obtain⟨a,ha⟩:=pG (A:=A) (N:=N) d (d+n) t
  have hz:=(Y _).mp ht;have a1:=QL D n hd hz (a:=λj=>if (A j).has (d+n)=cL then a j else 0) (b:=λ_=>0) (λi hi=>by
   rw[<- iW d (d+n) a i];congr 1;exact zk λk hk=>by rw[ha k hk]) (λi _=>by
   have:zf (λj=>if (A j).has (d+n)=cL then 0*(A j).v (d+n) i else 0) N=zf (λ_=>0) N:=zk λj _=>by simp
   rw[this,zz])
  intro k hk;obtain⟨h1,h2,I⟩:=iX hk;have:=(a1 _ h1 h2).1 I;rw[I,DZ rfl,ha k hk]at this;simpa using this
theorem Kc : ∀(t:Nat) (z:Vc),bA p w wd T d (wd d) t z↔Wk p w wd T d t z λx=>z (wd d+x)
 | 0,z=>Iff.rfl
 | t+1,z=>by
  have e : ∀u:Vc,bA p w wd T d (wd d) t (qg (wd d) z u)↔Wk p w wd T d t z u:=λu=>by rw[Kc t];have e1:(λx=>qg (wd d) z u<|wd d+x)=u:=funext λx=>jd x;rw[e1];exact⟨λh=>Vj h λi hi=>by rw[zW hi],λh=>Vj h λi hi=>by rw[zW hi]⟩
  show(∃u:Vc,bA p w wd T d (wd d) t (qg (wd d) z u)/\H9 p w wd T (d+t) u λx=>z<|wd d+x) ↔ ∃y,Wk p w wd T d t z y/\Lk p w wd T (d+t) y λx=>z<|wd d+x;exact exists_congr λu=>and_congr (e u) Iff.rfl
end
section
variable{p:Int}{w:DV}{wd:DK}{T:DQ}{m N:Nat}{A:Nat->m6}
theorem oY(r:Nat)(t:Vc) : ∃a:Vc,∀k,k<(m3 A N r).length->a ((m3 A N r).getD k 0)=t k:=by refine⟨λj=>t<|(m3 A N r).idxOf j,λk hk=>?_⟩;show t _=_;rw[Ny,Nw hk,Rn,(vW A N r).idxOf_getElem _ hk]
theorem VZ(r:Nat)(a:Vc)(i:Nat):zf (λj=>if (A j).has r=cL then a j*(A j).v r i else 0) N=app (xH A N r) (m3 A N r).length (λk=>a<|(m3 A N r).getD k 0) i:=by have:=xf (λj=>(A j).has r) (λj=>a j*(A j).v r i) N;rw[<- this];unfold app;rw[xR];rfl
theorem aJ(z:j<N)(I:(A j).has r=cL) : ∃k,k<(m3 A N r).length/\(m3 A N r).getD k 0=j:=by have O:j∈m3 A N r:=OC.mpr ⟨NA.mpr z,by simpa using I⟩;obtain⟨i,hi,e⟩:=List.getElem_of_mem O;exact⟨i,hi,by rw[Ny,Nw hi];simpa using e⟩
theorem AC(Y:Pr p)(a0 : ∀k,wd k<=8)(ok : ∀j,j<N->FD p w wd T m (A j))(cnt : ∀r,r<=m->(m3 A N r).length=wd r)(O : ∀r,r<=m->∀v:Vc,∃t,∀i,i<wd r->v i%p=app (xH A N r) (wd r) t i%p):rn p w wd T m N A where
 ok:=ok
 cnt:=cnt
 sp:=λr z v=>by obtain⟨t,I⟩:=O r z v;obtain⟨a,ha⟩:=oY (A:=A) (N:=N) r t;refine⟨a,λi hi=>?_⟩;rw[I i hi,VZ,cnt r z];unfold app;congr 1;exact zk λk hk=>by show _=_*a _;rw[ha k (by rw[cnt r z];exact hk)]
 inj:=λr z t I j hj hh=>by
  obtain⟨k,hk,e⟩:=aJ hj hh;have:=JA Y (a0 r) (O r z) (t:=λk=>t<|(m3 A N r).getD k 0) (λi hi=>by have:=I i hi;rw[VZ,cnt r z]at this;exact this) k (by rw[<- cnt r z];exact hk)
  rw[e]at this;exact this
end
section
variable{p:Int}{m:Nat}{w:DV}{wd p3:DK}{T T' X J:DQ}
abbrev fx(p:Int)(m:Nat)(w:DV)(wd p3:DK)(T T' X J:DQ)(c6 c7 c8 c9 c10 c11 c12 c13 e?:Cell):Ctx:=
 [.val (.int p),.val<|.str<|xm m w,.val<|oa m w wd T,.val<|oa m w p3 T',.val<|.lst<|EN m w wd p3 J,.val<|.lst<|_v (m+1) wd p3 X,c6,c7,c8,c9,c10,c11,c12,c13,e?]
end
theorem K5(f:Nat->Int)(a:Nat) : ∀b,zf f (a+b)=zf f a+zf (λx=>f<|a+x) b
 | 0=>by show zf f a=zf f a+0;omega
 | b+1=>by show zf f (a+b)+f (a+b)=zf f a+(zf (λx=>f<|a+x) b+f (a+b));rw[K5 f a b];omega
structure WB(n r:Nat)(B:Nat->Vc)(l:DK):Prop where
 lt : ∀k,k<r->l k<n
 one : ∀k,k<r->B k (l k)=1
 p9 : ∀k m,k<r->m<r->m≠k->B k (l m)=0
theorem nr.wb{p:Int}{n r:Nat}{B:Nat->Vc}{l:DK}(h:nr p n r B l):WB n r B l:=⟨h.lt,h.one,h.p9⟩
section
variable{p:Int}{n r:Nat}{B:Nat->Vc}{l:DK}
theorem lg(hb:WB n r B l){v:Vc}(h:Span p n (h9 r B) v) : ∀i,i<n->v i%p=zf (λk=>v (l k)*B k i) r%p:=by
 obtain⟨t,z⟩:=yA h;intro i hi;rw[z i hi];refine zy λk hk=>?_;have e:v (l k)%p=t k%p:=by rw[z _ (hb.lt k hk),zK (i:=k) hk λj I O=>by rw[hb.p9 j k I hk (OQ O)];simp,hb.one k hk,PJ]
 exact(xY e rfl).symm
theorem AB(hp:Pr p){s m:Nat}{B:Nat->Vc}{l:DK}(hb:WB n s B l){W:Nat->Vc}(sp : ∀v,Span p n (h9 s B) v↔Span p n (h9 m W) v)(a1 : ∀t:Vc,(∀i,i<n->zf (λj=>t j*W j i) m%p=0)->∀j,j<m->t j%p=0):m=s:=by
 have h1:s<=m:=by
  have ex : ∀j,∃c:Vc,j<s->∀i,i<n->B j i%p=zf (λe=>c e*W e i) m%p:=λj=>by
   by_cases I:j<s
   ·obtain⟨t,O⟩:=yA ((sp _).mp (.gen ⟨j,I,rfl⟩))
    exact⟨t,λ_=>O⟩
   ·exact⟨λ_=>0,λz=>absurd z I⟩
  obtain⟨C,hC⟩:=Tf ex;refine iA hp (f:=λe j=>C j e) λt O j I=>?_;have e1:t j%p=zf (λc=>t c*B c (l j)) s%p:=by rw[zK (i:=j) I λc Y a3=>by rw[hb.p9 c j Y I (OQ a3)];simp,hb.one j I,PJ]
  have e2:zf (λc=>t c*B c (l j)) s%p=zf (λc=>t c*zf (λe=>C c e*W e (l j)) m) s%p:=zy λc Y=>xY rfl<|hC c Y _<|hb.lt j I;have e3:zf (λc=>t c*zf (λe=>C c e*W e (l j)) m) s=zf (λe=>zf (λc=>C c e*t c) s*W e (l j)) m:=by
   rw[zk (g:=λc=>zf (λe=>C c e*t c*W e (l j)) m) λc _=>by rw[<- zZ];exact zk λe _=>by rw[<- OP,Pe (t c)],jY]
   exact zk λe _=>jE _ _ _
  rw[e1,e2,e3,zy (g:=λ_=>0) λe he=>by have:=O e he;unfold app at this;rw[ND,this];simp,zz]
  simp
 have h2:m<=s:=iA hp (f:=λi j=>W j<|l i) λt O=>a1 t λi hi=>by
  have c:=lg hb ((sp _).mpr (k4 (n:=n) W t)) i hi;rw[c];have:zf (λk=>zf (λj=>t j*W j (l k)) m*B k i) s%p=zf (λ_=>0) s%p:=zy λk hk=>by have:=O k hk;unfold app at this;rw[xR]at this;rw[ND,this];simp
  rw[this,zz];simp
 omega
end
structure Loc(p:Int)(wl wr wk N:Nat)(la ra hk:DV)(x y u:Nat->Vc)(Tl Tr:DW):Prop where
 e_ : ∀z:Vc,∃a:Vc,∀i,i<wl->z i%p=zf (λj=>if la j=cL then a j*x j i else 0) N%p
 Q? : ∀z:Vc,∃a:Vc,∀i,i<wr->z i%p=zf (λj=>if ra j=cL then a j*y j i else 0) N%p
 x? : ∀t:Vc,(∀i,i<wl->zf (λj=>if la j=cL then t j*x j i else 0) N%p=0)->∀j,j<N->la j=cL->t j%p=0
 inR : ∀t:Vc,(∀i,i<wr->zf (λj=>if ra j=cL then t j*y j i else 0) N%p=0)->∀j,j<N->ra j=cL->t j%p=0
 w? : ∀t:Vc,(∀i,i<wk->zf (λj=>if hk j=cL then t j*u j i else 0) N%p=0)->∀j,j<N->hk j=cL->t j%p=0
 M' : ∀j,j<N->la j=cL->∀i,i<wk->app Tl wl (x j) i%p=(if hk j=cL then u j i else 0)%p
 M_ : ∀j,j<N->ra j=cL->∀i,i<wk->app Tr wr (y j) i%p=(if hk j=cL then u j i else 0)%p
 both : ∀j,la j=cL->ra j=cL->hk j=cL
def o4(la ra hk:DV)(j:Nat):Bool:=(la j && !hk j) || (ra j && !hk j) || (la j && ra j)
def Dn(la:DV)(j:Nat):Int:=if la j=cL then -1 else 1
def zj(wl:Nat)(la ra:DV)(x y:Nat->Vc)(j:Nat):Vc:=qg wl (λi=>if la j=cL then x j i else 0) λi=>if ra j=cL then Dn la j*y j i else 0
theorem aK(c:Bool)(a x:Int):(if c=cL then a*x else 0)=(if c=cL then a else 0)*x:=by cases c<;>simp
theorem lN{p:Int}{w N:Nat}{F:DW}{z a:Vc}{x:Nat->Vc}(h : ∀c,c<w->z c%p=zf (λj=>a j*x j c) N%p)(i:Nat):app F w z i%p=zf (λj=>a j*app F w (x j) i) N%p:=by rw[<- Wl F w a x N i];exact kT h i
theorem Kg{p a b:Int}(h:a%p=0):a*b%p=0:=by rw[ND,h];simp
section
variable{p:Int}{wl wr wk N q:Nat}{la ra hk:DV}{x y u:Nat->Vc}{Tl Tr:DW}{B:Nat->Vc}{l:DK}
def sJ(p:Int)(wl wr wk:Nat)(Tl Tr:DW)(z:Vc):Prop:=∀i,i<wk->(app Tl wl z i+app Tr wr (λc=>z<|wl+c) i)%p=0
theorem dW(L:Loc p wl wr wk N la ra hk x y u Tl Tr){j:Nat}(z:j<N)(hn:o4 la ra hk j=cL):sJ p wl wr wk Tl Tr (zj wl la ra x y j):=λi hi=>by
 have e1:app Tl wl (zj wl la ra x y j) i%p=(if la j=cL/\hk j=cL then u j i else 0)%p:=by
  have:app Tl wl (zj wl la ra x y j) i=app Tl wl (λi=>if la j=cL then x j i else 0) i:=zk λc I=>by show _*qg _ _ _ _=_;rw[zW I]
  rw[this];cases h:la j with
  | false=>simp[app,zz]
  | true=>
   simp only[if_true,true_and];exact L.M' j z h i hi
 have e2:app Tr wr (λc=>zj wl la ra x y j<|wl+c) i%p=(if ra j=cL/\hk j=cL then Dn la j*u j i else 0)%p:=by
  have:app Tr wr (λc=>zj wl la ra x y j<|wl+c) i=app Tr wr (λi=>if ra j=cL then Dn la j*y j i else 0) i:=zk λc I=>by show _*qg _ _ _ _=_;rw[jd]
  rw[this];cases h:ra j with
  | false=>simp[app,zz]
  | true=>
   simp only[if_true,true_and];have O:app Tr wr (λi=>Dn la j*y j i) i=Dn la j*app Tr wr (y j) i:=by unfold app;rw[<- zZ];exact zk λc _=>by rw[Rg]
   rw[O,xY rfl (L.M_ j z h i hi)];cases hk j<;>simp
 rw[NS,e1,e2,<- NS];unfold o4 at hn;unfold Dn;cases h1:la j<;>cases h2:ra j<;>cases h3:hk j<;>simp[h1,h2,h3]at hn ⊢
 all_goals first
  | (rw[show u j i + -u j i=0 by omega];rfl)
  | (have:=L.both j h1 h2;rw[h3]at this;cases this)
theorem dU(L:Loc p wl wr wk N la ra hk x y u Tl Tr){z:Vc}(hz:sJ p wl wr wk Tl Tr z) : ∃t:Vc,∀i,i<wl+wr->z i%p=zf (λj=>if o4 la ra hk j=cL then t j*zj wl la ra x y j i else 0) N%p:=by
 obtain⟨a,ha⟩:=L.e_ z;obtain⟨b,hb⟩:=L.Q? λc=>z<|wl+c;let α:Vc:=λj=>if la j=cL then a j else 0;let β:Vc:=λj=>if ra j=cL then b j else 0;have ha : ∀i,i<wl->z i%p=zf (λj=>α j*x j i) N%p:=λi hi=>by rw[ha i hi];congr 1;exact zk λj _=>aK _ _ _
 have hb : ∀i,i<wr->z (wl+i)%p=zf (λj=>β j*y j i) N%p:=λi hi=>by rw[hb i hi];congr 1;exact zk λj _=>aK _ _ _
 have Y : ∀j,j<N->hk j=cL->(α j+β j)%p=0:=L.w? (λj=>α j+β j) λi hi=>by
  have h1:=lN (F:=Tl) ha i;have h2:=lN (F:=Tr) (z:=λc=>z<|wl+c) hb i;have I:=hz i hi;rw[NS,h1,h2,<- NS,<- jf]at I;refine Ro (zy λj O=>?_) I;have a1:α j*app Tl wl (x j) i%p=α j*(if hk j=cL then u j i else 0)%p:=by
   cases h:la j with
   | false=>simp[α,h]
   | true=>exact xY rfl<|L.M' j O h i hi
  have a2:β j*app Tr wr (y j) i%p=β j*(if hk j=cL then u j i else 0)%p:=by
   cases h:ra j with
   | false=>simp[β,h]
   | true=>exact xY rfl<|L.M_ j O h i hi
  rw[NS (α j*_),a1,a2,<- NS,<- SM];cases hk j<;>simp
 refine⟨λj=>if la j=cL then α j else β j,λi hi=>?_⟩;rcases NU i wl with c | c
 ·rw[ha i c]
  refine zy λj O=>?_;show _=(if _ then _*qg _ _ _ _ else 0)%p;rw[zW c];have:=Y j O;unfold o4;cases h1:la j<;>cases h2:ra j<;>cases I:hk j<;>simp[h1,h2,I,α,β]at this ⊢;exact Int.emod_eq_zero_of_dvd<|Int.dvd_mul_of_dvd_left<|Int.dvd_of_emod_eq_zero this
 ·obtain⟨d,rfl⟩ : ∃d,i=wl+d:=⟨i - wl,by omega⟩
  rw[hb d ⋯];refine zy λj O=>?_;show _=(if _ then _*qg _ _ _ _ else 0)%p;rw[jd];have:=Y j O;unfold o4 Dn;cases h1:la j<;>cases h2:ra j<;>cases I:hk j<;>simp[h1,h2,I,α,β]at this ⊢
  ·exact Int.emod_eq_zero_of_dvd<|Int.dvd_mul_of_dvd_left<|Int.dvd_of_emod_eq_zero this
  ·have:=L.both j h1 h2;rw[I]at this;cases this
  ·have e:b j*y j d - a j * -y j d=(a j+b j)*y j d:=by rw[Int.mul_neg,SM];omega
   refine Rc.mpr ?_;rw[e];exact Kg this
theorem rh(L:Loc p wl wr wk N la ra hk x y u Tl Tr){t:Vc}(z : ∀i,i<wl+wr->zf (λj=>if o4 la ra hk j=cL then t j*zj wl la ra x y j i else 0) N%p=0) : ∀j,j<N->o4 la ra hk j=cL->t j%p=0:=by
 have h1:=L.x? (λj=>if o4 la ra hk j=cL then t j else 0) λi hi=>by refine Ro (congrArg (· % p)<|zk λj _=>?_)<|z i ⋯;show _=if _ then _*qg _ _ _ _ else 0;rw[zW hi];cases la j<;>cases o4 la ra hk j<;>simp
 have h2:=L.inR (λj=>if o4 la ra hk j=cL then Dn la j*t j else 0) λi hi=>by refine Ro (congrArg (· % p)<|zk λj _=>?_)<|z (wl+i) ⋯;show _=if _ then _*qg _ _ _ _ else 0;rw[jd];cases ra j<;>cases o4 la ra hk j<;>simp;rw[<- OP,Pe (t j)]
 intro j I hn;cases h:la j with
 | true=>have:=h1 j I h;rw[DZ hn]at this;exact this
 | false=>
  have O:ra j=cL:=by unfold o4 at hn;rw[h]at hn;cases h2:ra j<;>simp[h2]at hn ⊢
  have:=h2 j I O;rw[DZ hn]at this;unfold Dn at this;rw[h]at this;simpa using this
def D7(p:Int)(wl:Nat)(la ra:DV)(x y:Nat->Vc)(l:DK)(j:Nat):Vc:=λc=>zj wl la ra x y j (l c)%p
theorem Fk(L:Loc p wl wr wk N la ra hk x y u Tl Tr)(hb:WB (wl+wr) q B l)(hs : ∀z,Span p (wl+wr) (h9 q B) z↔sJ p wl wr wk Tl Tr z){j:Nat}(I:j<N)(hn:o4 la ra hk j=cL){i:Nat}(hi:i<wl+wr) :
 zf (λc=>B c i*D7 p wl la ra x y l j c) q%p=zj wl la ra x y j i%p:=by
 rw[lg hb ((hs _).mpr (dW L I hn)) i hi];refine zy λc _=>?_;show _*(_%p)%p=_;rw[qx,Pe]
theorem IA(L:Loc p wl wr wk N la ra hk x y u Tl Tr)(hb:WB (wl+wr) q B l)(hs : ∀z,Span p (wl+wr) (h9 q B) z↔sJ p wl wr wk Tl Tr z)(v:Vc) :
 ∃t:Vc,∀i,i<q->v i%p=zf (λj=>if o4 la ra hk j=cL then t j*D7 p wl la ra x y l j i else 0) N%p:=by
 obtain⟨t,I⟩:=dU L<|(hs _).mp (k4 (p:=p) (n:=wl+wr) (m:=q) B v);refine⟨t,λi hi=>?_⟩;have e:zf (λj=>v j*B j (l i)) q=v i:=by rw[zK (i:=i) hi λk hk O=>by rw[hb.p9 k i hk hi (OQ O)];simp,hb.one i hi,PJ]
 have:=I (l i)<|hb.lt i hi;rw[e]at this;rw[this];refine zy λj _=>?_;split
 ·show _=_*(_%p)%p
  rw[qx]
 ·rfl
theorem Fm(L:Loc p wl wr wk N la ra hk x y u Tl Tr)(hb:WB (wl+wr) q B l)(hs : ∀z,Span p (wl+wr) (h9 q B) z↔sJ p wl wr wk Tl Tr z){t:Vc}(I : ∀i,i<q->zf (λj=>if o4 la ra hk j=cL then t j*D7 p wl la ra x y l j i else 0) N%p=0) : ∀j,j<N->o4 la ra hk j=cL->t j%p=0:=by
 refine rh L λi hi=>?_;have O:Span p (wl+wr) (h9 q B) λi=>zf (λj=>t j*(if o4 la ra hk j=cL then zj wl la ra x y j i else 0)) N:=Span.sum (u:=λj i=>if o4 la ra hk j=cL then zj wl la ra x y j i else 0) t λj Y=>by
  cases hn:o4 la ra hk j with
  | true=>simpa using (hs _).mpr (dW L Y hn)
  | false=>exact .zero λi _=>by simp
 have e0 : ∀i,zf (λj=>t j*(if o4 la ra hk j=cL then zj wl la ra x y j i else 0)) N=zf (λj=>if o4 la ra hk j=cL then t j*zj wl la ra x y j i else 0) N:=λi=>zk λj _=>by split<;>simp
 rw[<- e0,lg hb O i hi];have:zf (λk=>zf (λj=>t j*(if o4 la ra hk j=cL then zj wl la ra x y j (l k)else 0)) N*B k i) q%p=zf (λ_=>0) q%p:=zy λk a1=>by
  have h1:=I k a1;have:zf (λj=>t j*(if o4 la ra hk j=cL then zj wl la ra x y j (l k)else 0)) N%p=0:=by
   refine Ro (zy λj _=>?_) h1;split
   ·show _=_*(_%p)%p
    rw[qx]
   ·simp
  rw[Kg this];simp
 rw[this,zz];simp
theorem Fn(hp:Pr p)(L:Loc p wl wr wk N la ra hk x y u Tl Tr)(hb:WB (wl+wr) q B l)(hs : ∀z,Span p (wl+wr) (h9 q B) z↔sJ p wl wr wk Tl Tr z):((Nu N).filter (o4 la ra hk)).length=q:=by
 have nd:((Nu N).filter (o4 la ra hk)).Nodup:=Ss.sublist Rl;have O:=λg=>xf (o4 la ra hk) g N;have mem : ∀{e:Nat},e<((Nu N).filter (o4 la ra hk)).length->((Nu N).filter (o4 la ra hk)).getD e 0<N/\o4 la ra hk (((Nu N).filter (o4 la ra hk)).getD e 0)=cL:=λ{e} I=>by
  have hm:((Nu N).filter (o4 la ra hk)).getD e 0∈(Nu N).filter (o4 la ra hk):=by rw[Ny,Nw I];exact Rt _
  obtain⟨h1,h2⟩:=OC.mp hm;exact⟨NA.mp h1,h2⟩
 generalize (Nu N).filter (o4 la ra hk)=J at nd O mem;refine AB hp hb (W:=λe=>zj wl la ra x y<|J.getD e 0) (λv=>⟨λY=>?_,λY=>Y.le λg hg=>?_⟩) λt ht=>?_
 ·obtain⟨t,ht⟩:=dU L ((hs v).mp Y)
  refine(k4 (p:=p) (n:=wl+wr) (m:=J.length) (λe=>zj wl la ra x y<|J.getD e 0) λe=>t<|J.getD e 0).congr λi hi=>?_;rw[ht i hi,<- O λj=>t j*zj wl la ra x y j i]
 ·obtain⟨e,I,rfl⟩:=hg
  obtain⟨h1,h2⟩:=mem I;exact(hs _).mpr (dW L h1 h2)
 ·have a3:=rh L (t:=λj=>t<|J.idxOf j) λi hi=>by
   rw[<- O λj=>t (J.idxOf j)*zj wl la ra x y j i];refine Ro (congrArg (· % p)<|zk λe I=>?_)<|ht i hi;show t (J.idxOf<|J.getD e 0)*_=_;rw[Ny,Nw I,Rn,nd.idxOf_getElem _ I]
  intro e I;obtain⟨h1,h2⟩:=mem I;have:=a3 _ h1 h2;rw[Ny,Nw I,Rn,nd.idxOf_getElem _ I]at this;exact this
end
def T2:=jT 3<|xB<|qj bD<|zc (ze 0)<|zc (ze 1)<|zc (ze 2) zG
def T3:=jT 4<|fy (zM<|fy (zq 0)<|zx<|.int 1)<|ze 1
def T4:=jT 5<|fy (zM<|fy (zq 0)<|zx<|.int 1)<|ze 2
def T5:=jT 6<|xB<|qj kc<|zc (fy (zq 0)<|zx<|.int 0)<|zc (zw qb (ze 5)<|ze 4)<|zc (xB<|zT (zQ<|zq 3) (.nm 0) 1 [4] jS (zw qb (Vt (ze 0) (vl<|ze 1) KQ)<|Vt (ze 0) KQ<|vl<|ze 1)) zG
def T6:=xh<|zw yN (zw yN (vB<|zq 3)<|vB<|qf<|qj jO<|zc (ze 5)<|zc (ze 6) zG)<|vB<|qf<|qj jO<|zc (ze 4)<|zc (ze 3) zG
def JR:=jo 7<|zS T2<|zS T3<|zS T4<|zS T5 T6
def X1:=jT 3<|zw qb (nh (ze 0) (qe<|zc (zw yN (ze 1)<|zx<|.int 1)<|zc (ze 2) zG)<|zx<|.int 0)<|nh (ze 0) (qe<|zc (ze 1)<|zc (zw qb (ze 2)<|zx<|.int 1) zG)<|zx<|.int 0
def X2:=xh<|zw qb (zw yN (Vx (ze 0)<|qe<|zc (ze 1)<|zc (ze 2) zG)<|ze 3)<|nh (ze 0) (qe<|zc (zw yN (ze 1)<|zx<|.int 1)<|zc (zw qb (ze 2)<|zx<|.int 1) zG)<|zx<|.int 0
def ka:=jo 4<|zS X1 X2
def U7:=jT 1<|xB<|qj kB<|zc (vB<|zM<|fy (zq 0)<|zx<|.int 1) zG
def U8:=jT 2<|fK<|zT (zQ<|zq 1) (.tp [0,1]) 2 [0] jS (qe<|zc (qe<|zc (ze 0)<|zc (ze 1) zG)<|zc (zJ JR<|zc (ze 2)<|zc (ze 0)<|zc (ze 1) zG) zG)
def U9:=xh<|fK<|zT (zQ<|zq 1) (.tp [0,1]) 2 [2] jS (qe<|zc (qe<|zc (ze 0)<|zc (ze 1) zG)<|zc (zJ ka<|zc (ze 2)<|zc (ze 0)<|zc (ze 1) zG) zG)
def yS:=jo 3<|zS U7<|zS U8 U9
theorem ED:JR=jo 7 (zS T2<|zS T3<|zS T4<|zS T5 T6):=rfl
section
variable{p:Int}{w:DV}{wd:DK}{T:DQ}{m:Nat}
theorem dh(hb:nr p (a+b) q B l)(hs:s<=q)(s1 : ∀k,k<s->l k<a)(s2 : ∀k,s<=k->k<q->a<=l k) :
 nr p a s B l/\∀u,Span p a (h9 s B) u ↔ ∃z,Span p (a+b) (h9 q B) (qg a u z):=by
 refine⟨{
  lt:=s1
  mono:=λk m h1 h2=>hb.mono k m h1 ⋯
  one:=λk hk=>hb.one k ⋯
  u9:=λk j hk O=>hb.u9 k j ⋯ O
  p9:=λk m hk hm Y=>hb.p9 k m ⋯ ⋯ Y
  o7:=λk i hk hi=>hb.o7 k i ⋯ ⋯},λu=>⟨λI=>?_,λI=>?_⟩⟩
 ·obtain⟨t,ht⟩:=yA I
  refine⟨λj=>zf (λk=>t k*B k (a+j)) s,(Span.sum (u:=B) t (m:=s) λk hk=> .gen ⟨k,by omega,rfl⟩).congr λi hi=>?_⟩;rcases NU i a with z | z
  ·rw[zW z,ht i z]
  ·obtain⟨j,rfl⟩ : ∃j,i=a+j:=⟨i - a,by omega⟩
   rw[jd]
 ·obtain⟨z,hz⟩:=I
  have c:=Wc hb hz;refine(k4 (n:=a) B λk=>qg a u z<|l k).congr λi hi=>?_;have:=c i ⋯;rw[zW hi]at this;rw[this];obtain⟨e,rfl⟩ : ∃e,q=s+e:=⟨q - s,by omega⟩;rw[vD];have e0:zf (λk=>qg a u z (l<|s+k)*B (s+k) i) e=zf (λ_=>0) e:=zk λk hk=>by rw[hb.u9 (s+k) i ⋯ (by have:=s2 (s+k) ⋯ ⋯;omega)];simp
  rw[e0,zz,RZ]
theorem bU(v:Vc):Span p (b+a) (h9 q λk=>qg b (λj=>B k<|a+j)<|B k) (qg b (λ_=>0) v)↔Span p (a+b) (h9 q B) (qg a v λ_=>0):=by
 constructor
 ·intro h
  refine(h.map (n':=a+b) (G':=h9 q B) (λi=>if i<a then b+i else i - a) (λi hi=>by split<;>omega) λg I=>?_).congr λi hi=>?_
  ·obtain⟨k,hk,rfl⟩:=I
   refine(Span.gen (g:=B k) ⟨k,hk,rfl⟩).congr λi hi=>?_;show qg b (λj=>B k<|a+j) (B k) (if i<a then b+i else i - a)%p=_;split
   ·rw[jd]
   ·rw[zW ⋯];congr 2;omega
  ·split
   ·next z=>rw[jd,zW z]
   ·next z=>
    obtain⟨j,rfl⟩ : ∃j,i=a+j:=⟨i - a,by omega⟩;rw[jd,zW ⋯]
 ·intro h
  refine(h.map (n':=b+a) (G':=h9 q λk=>qg b (λj=>B k<|a+j)<|B k) (λi=>if i<b then a+i else i - b) (λi hi=>by split<;>omega) λg I=>?_).congr λi hi=>?_
  ·obtain⟨k,hk,rfl⟩:=I
   refine(Span.gen (g:=qg b (λj=>B k<|a+j)<|B k) ⟨k,hk,rfl⟩).congr λi hi=>?_;split
   ·next z=>rw[zW z]
   ·next z=>
    obtain⟨j,rfl⟩ : ∃j,i=b+j:=⟨i - b,by omega⟩;rw[jd];congr 2;omega
  ·split
   ·next z=>rw[jd,zW z]
   ·next z=>
    obtain⟨j,rfl⟩ : ∃j,i=b+j:=⟨i - b,by omega⟩;rw[jd,zW ⋯];congr 2;omega
theorem An(hp:Pr p)(a0 : ∀k,wd k<=7)(hT : ∀k x y,0<=T k x y/\T k x y<p)(hm:m<=20)(a8:i<=j)(hj:j<=m) :
 ∃(s q:Nat) (B B2:Nat->Vc) (l l2:DK),JR [qN p m w wd T,.int i,.int j]=cI (.val<|.int<|(s:Int) - (q:Int))/\nr p (wd i) s B l/\(∀u,Span p (wd i) (h9 s B) u ↔ ∃z,Wk p w wd T i (j - i) u z)/\nr p (wd i) q B2 l2/\∀u,Span p (wd i) (h9 q B2) u↔Wk p w wd T i (j - i) u λ_=>0:=by
 have hl:=jy;have ha:=a0 i;have ar:=a0 j;obtain⟨q,B,l,e1,hb,hP⟩:=lW (m:=m) (w:=w) hp a0 hT a8 hj;have hq:=wJ hb;have O:q<=lim:=by omega
 obtain⟨r,B',l',e2,Y,hS⟩:=xA hp (show wd j+wd i<=100 by omega) O .L λk=>qg (wd j) (λx=>B k<|wd i+x)<|B k;have hr:=wJ Y;obtain⟨s,hs,s1,s2⟩:=vE (l:=l) (wd i) hb.mono;obtain⟨s',a3,a4,a5⟩:=vE (l:=l') (wd j) Y.mono;have b1:=yp hb O hs s1 s2;have b2:=yp Y ⋯ a3 a4 a5;obtain⟨h1,h2⟩:=dh hb hs s1 s2;obtain⟨h3,h4⟩:=QO Y a3 a4 a5;refine⟨s,r - s',B,_,l,_,?_,h1,λu=>?_,h3,λu=>?_⟩
 ·have ae:i<m+1:=by omega
  have ag:j<m+1:=by omega
  have sw:z7 (.nm 0) jS (zw qb (Vt (ze 0) (vl<|ze 1) KQ)<|Vt (ze 0) KQ<|vl<|ze 1) [.no,.val (.int<|wd i)] (zV q (wd i+wd j) B)=cI (zV q (wd j+wd i) λk=>qg (wd j) (λx=>B k<|wd i+x)<|B k):=by
   unfold zV;refine zA _ _ λk hk=>zE rfl rfl ?_;have a6:wd j+wd i<=lim:=by omega
   simp[bp,bo,qb,a6,yh]
  let R:=qN p m w wd T;let I:D:= .lst (zV q (wd i+wd j) B);let L2:D:= .lst (zV r (wd j+wd i) B');rw[ED];refine qD (zD (γ':=[.val R,.val<|.int i,.val<|.int j,.val I,.no,.no,.no]) ?_
   (zD (γ':=[.val R,.val<|.int i,.val<|.int j,.val I,.val<|.int<|wd i,.no,.no]) ?_
   (zD (γ':=[.val R,.val<|.int i,.val<|.int j,.val I,.val<|.int<|wd i,.val<|.int<|wd j,.no]) ?_
   (zD (γ':=[.val R,.val<|.int i,.val<|.int j,.val I,.val<|.int<|wd i,.val<|.int<|wd j,.val L2]) ?_ ?_))))
  ·simp[T2,jt,NB,R,I,e1]
  ·simp[T3,R,yD,ae]
  ·simp[T4,R,yD,ag]
  ·have c1:((wd j:Int)+(wd i:Int))=((wd j+wd i:Nat):Int):=by omega
   have a6:wd j+wd i<=lim:=by omega
   simp only[BS]at e2;simp[T5,jA,R,yD,I,O,sw];rw[c1,e2];simp[L2]
  ·have r1:q - s<=lim:=by omega
   have r2:r - s'<=lim:=by omega
   have f1:(q:Int) - ((r - s':Nat):Int) - ((q - s:Nat):Int)=(s:Int) - ((r - s':Nat):Int):=by omega
   simp[T6,I,L2,b1,b2,O,r1,r2,f1]
 ·rw[h2 u]
  constructor
  ·rintro⟨z,hz⟩
   have:=(Kc (j - i) _).mp ((hP _).mp hz);exact⟨_,Vj this λx hx=>by rw[zW hx]⟩
  ·rintro⟨z,hz⟩
   refine⟨z,(hP _).mpr ((Kc (j - i) _).mpr ?_)⟩;rw[show(λx=>qg (wd i) u z<|wd i+x)=z from funext λx=>jd x];exact Vj hz λx hx=>by rw[zW hx]
 ·rw[h4 u,hS,bU,hP,Kc,show(λx=>qg (wd i) u (λ_=>0)<|wd i+x)=λ_=>0 from funext λx=>jd x]
  exact⟨λh=>Vj h λx hx=>by rw[zW hx],λh=>Vj h λx hx=>by rw[zW hx]⟩
end
def stN(M:Nat):List (Nat×Nat):=(Nu M).flatMap λi=>(SG i<|M - i).map λj=>(i,j)
def kI(s:Nat×Nat):List Int:=[(s.1:Int),(s.2:Int)]
def kD(s:Nat×Nat):D:= .tup [.int s.1,.int s.2]
theorem E5:s∈stN M↔s.1<=s.2/\s.2<M:=by
 unfold stN;simp only[TJ,NA,Rf,List.mem_range'_1];constructor
 ·rintro⟨i,hi,j,z,rfl⟩
  exact⟨z.1,by show j<M;omega⟩
 ·intro h
  exact⟨s.1,by omega,s.2,⟨h.1,by omega⟩,rfl⟩
theorem WU : ∀M:Fin 7,(stN M.val).Nodup/\((stN M.val).map kI).Nodup/\(stN M.val).length<=21:=by decide +kernel
theorem Hj : ∀M:Fin 7,kB [.int (M.val:Int)]=cI (.own<|(stN M.val).map kD)
 | ⟨0,_⟩=>by kernel_rfl
 | ⟨1,_⟩=>by kernel_rfl
 | ⟨2,_⟩=>by kernel_rfl
 | ⟨3,_⟩=>by kernel_rfl
 | ⟨4,_⟩=>by kernel_rfl
 | ⟨5,_⟩=>by kernel_rfl
 | ⟨6,_⟩=>by kernel_rfl
theorem EM(h:kI s=kI t):s=t:=by unfold kI at h;simp only[List.cons.injEq,and_true]at h;obtain⟨a,b⟩:=s;obtain⟨c,d⟩:=t;simp only[Prod.mk.injEq];have h1:=h.1;have h2:=h.2;dsimp only at h1 h2;omega
theorem V4(f:Nat×Nat->D)(k:List Int) : ∀L:List (Nat×Nat),dS (L.map kI) (L.map f) k=(L.find? λs=>decide<|kI s=k).map f
 | []=>rfl
 | s::L=>by
  show(if kI s=k then _ else _)=_;by_cases h:kI s=k
  ·rw[DZ h,List.find?_cons_of_pos (by simpa using h)];rfl
  ·rw[DJ h,List.find?_cons_of_neg (by simpa using h)];exact V4 f k L
theorem iJ{L:List (Nat×Nat)}{s:Nat×Nat}(h:s∈L):(L.find? λt=>decide<|kI t=kI s)=cI s:=by
 cases e:L.find? λt=>decide (kI t=kI s)with
 | none=>
  have:=Uz.mp e s h;simp at this
 | some t=>
  have:=List.find?_some e;rw[EM (of_decide_eq_true this)]
def atS(f:Nat×Nat->Int)(M:Nat)(a b:Int):Int:=if 0<=a/\a<=b/\b<M then f (a.toNat,b.toNat)else 0
theorem Kq(f:Nat×Nat->Int)(M:Nat)(a b:Int):(dS ((stN M).map kI) ((stN M).map λs=> .int (f s)) [a,b]).getD (.int 0) = .int (atS f M a b):=by
 rw[V4 (λs=> .int (f s))];unfold atS;split
 ·next h=>
  have e:[a,b]=kI (a.toNat,b.toNat):=by unfold kI;simp;omega
  rw[e,iJ (E5.mpr<|by show a.toNat<=b.toNat/\b.toNat<M;omega)];rfl
 ·next h=>
  rw[Uz.mpr λs hs z=>h ?_]
  ·rfl
  ·have hm:=E5.mp hs
   have z:=of_decide_eq_true z;unfold kI at z;simp only[List.cons.injEq,and_true]at z;omega
theorem iF(f:Nat×Nat->Int){M:Nat}{s:Nat×Nat}(h:s∈stN M):dS ((stN M).map kI) ((stN M).map λs=>D.int<|f s) [(s.1:Int),(s.2:Int)]=cI (.int<|f s):=by rw[V4 (λs=> .int (f s))];rw[show [(s.1:Int),(s.2:Int)]=kI s from rfl,iJ h];rfl
def uZ(f:Nat×Nat->Int)(M:Nat)(s:Nat×Nat):Int:=f s - (atS f M ((s.1:Int) - 1) s.2+atS f M s.1 ((s.2:Int)+1))+atS f M ((s.1:Int) - 1) ((s.2:Int)+1)
def KS(f:Nat×Nat->Int)(M:Nat):D:= .n0 ((stN M).map kI) ((stN M).map λs=> .int (f s))
theorem EL(a b:Int):Am (.tup [.int a,.int b])=cI [a,b]:=rfl
theorem Ek:ka=jo 4 (zS X1 X2):=rfl
theorem gG(f:Nat×Nat->Int)(h:s∈stN M):ka [KS f M,.int s.1,.int s.2]=cI (.val<|.int<|uZ f M s):=by
 have h1:=Kq f M ((s.1:Int) - 1) s.2;have h2:=Kq f M s.1<|(s.2:Int)+1;have z:=Kq f M ((s.1:Int) - 1)<|(s.2:Int)+1;have I:=iF f h;rw[Ek];refine qD<|zD (γ':=[.val (KS f M),.val<|.int s.1,.val<|.int s.2,.val (.int<|atS f M ((s.1:Int) - 1) s.2+atS f M s.1 ((s.2:Int)+1))]) ?_ ?_
 ·simp[X1,jt,NB,KS,Av,EL,h1,h2]
 ·simp[X2,KS,Av,EL,z,I,uZ]
theorem XJ(f:Nat×Nat->Int) : ∀L:List (Nat×Nat),ZL (L.map λs=>D.tup [kD s,.int (f s)])=cI (L.map kD,L.map λs=> .int (f s))
 | []=>rfl
 | s::L=>by show(ZL<|L.map λs=>D.tup [kD s,.int (f s)]).map _=_;rw[XJ f L];rfl
theorem hU : ∀L:List (Nat×Nat),hV (L.map kD)=cI (L.map kI)
 | []=>rfl
 | s::L=>by show(Am<|kD s).bind _=_;rw[show Am (kD s)=cI (kI s)from rfl];show(hV<|L.map kD).map _=_;rw[hU L];rfl
theorem En:yS=jo 3 (zS U7<|zS U8 U9):=rfl
section
variable{p:Int}{w:DV}{wd:DK}{T:DQ}{m:Nat}
theorem cV(hm:m<=5)(f:Nat×Nat->Int)(hk : ∀s,s∈stN (m+1)->JR [qN p m w wd T,.int s.1,.int s.2]=cI (.val<|.int<|f s)):yS [qN p m w wd T]=cI (.val<|KS (uZ f<|m+1)<|m+1):=by
 have hl:=jy;obtain⟨n1,n2,n3⟩:=WU ⟨m+1,by omega⟩;have z:=Hj ⟨m+1,by omega⟩;dsimp only at n1 n2 n3 z;have I:(stN<|m+1).length<=lim:=by omega
 let S:D:= .lst ((stN<|m+1).map kD);have Y:z7 (.tp [0,1]) jS (qe<|zc (qe<|zc (ze 0)<|zc (ze 1) zG)<|zc (zJ JR<|zc (ze 2)<|zc (ze 0)<|zc (ze 1) zG) zG) [.no,.no,.val (qN p m w wd T)] ((stN<|m+1).map kD)=cI ((stN<|m+1).map λs=>D.tup [kD s,.int (f s)]):=by refine zA _ _ λs hs=>zE (γ1:=[.val (.int s.1),.val<|.int s.2,.val (qN p m w wd T)]) rfl rfl ?_;have:=hk s hs;simp[this,kD]
 have c2:z7 (.tp [0,1]) jS (qe<|zc (qe<|zc (ze 0)<|zc (ze 1) zG)<|zc (zJ ka<|zc (ze 2)<|zc (ze 0)<|zc (ze 1) zG) zG) [.no,.no,.val (KS f<|m+1)] ((stN<|m+1).map kD)=cI ((stN<|m+1).map λs=>D.tup [kD s,.int (uZ f (m+1) s)]):=by refine zA _ _ λs hs=>zE (γ1:=[.val (.int s.1),.val<|.int s.2,.val (KS f<|m+1)]) rfl rfl ?_;have:=gG f hs;simp[this,kD]
 have u1:=XJ f<|stN<|m+1;have u2:=XJ (uZ f<|m+1)<|stN<|m+1;have O:=hU<|stN<|m+1;have em:((m:Int)+1)=((m+1:Nat):Int):=by omega
 rw[En];refine qD<|zD (γ':=[.val (qN p m w wd T),.val S,.no]) ?_ (zD (γ':=[.val (qN p m w wd T),.val S,.val (KS f<|m+1)]) ?_ ?_)
 ·simp[U7,jt,NB,yD]
  rw[em,z];simp[S]
 ·simp[U8,jA,S,I,Y,u1,O,n2,KS]
 ·simp[U9,jA,S,I,c2,u2,O,n2]
  rfl
end
def bX:List Int->Int
 | []=>0
 | x::r=>x+bX r
theorem K6 : ∀L:List Int,bY (L.map D.int)=cI (bX L)
 | []=>rfl
 | x::L=>by show(bY<|L.map D.int).map _=_;rw[K6 L];rfl
def YR(i j:Nat)(s:Nat×Nat):Bool:=decide (s.1<=i) && decide (j<=s.2)
def t7(K:List (Nat×Nat))(a b:Int):Nat:=K.countP λx=>decide ((x.1:Int)<=a) && decide (b<=(x.2:Int))
def AQ(K:List (Nat×Nat))(s:Nat×Nat):Nat:=K.countP λx=>decide<|x=s
theorem v7(x:Nat×Nat)(K:List (Nat×Nat))(a b:Int):(t7 (x::K) a b:Int)=(t7 K a b:Int)+if (x.1:Int)<=a/\b<=(x.2:Int)then 1 else 0:=by
 unfold t7;rw[UO];by_cases h1:(x.1:Int)<=a
 ·by_cases h2:b<=(x.2:Int)
  ·rw[DZ (show(decide ((x.1:Int)<=a) && decide (b<=(x.2:Int)))=cL by simp only[decide_eq_true h1,decide_eq_true h2];rfl),DZ ⟨h1,h2⟩];rfl
  ·rw[DJ (show ¬(decide ((x.1:Int)<=a) && decide (b<=(x.2:Int)))=cL by simp only[decide_eq_false h2,Bool.and_false];decide),DJ λz=>h2 z.2];rfl
 ·rw[DJ (show ¬(decide ((x.1:Int)<=a) && decide (b<=(x.2:Int)))=cL by simp only[decide_eq_false h1,Ui];decide),DJ λz=>h1 z.1];rfl
theorem aB(x s:Nat×Nat)(K:List (Nat×Nat)):(AQ (x::K) s:Int)=(AQ K s:Int)+if (x.1=s.1/\x.2=s.2)then 1 else 0:=by
 unfold AQ;rw[UO];by_cases h:x=s
 ·rw[DZ (decide_eq_true h),DZ (by rw[h];exact⟨rfl,rfl⟩)];rfl
 ·rw[DJ (by simpa using h),DJ λz=>h (Prod.ext z.1 z.2)];rfl
theorem YQ(s:Nat×Nat) : ∀K:List (Nat×Nat),(t7 K s.1 s.2:Int) - ((t7 K ((s.1:Int) - 1) s.2:Int)+(t7 K s.1 ((s.2:Int)+1):Int))+(t7 K ((s.1:Int) - 1) ((s.2:Int)+1):Int)=(AQ K s:Int)
 | []=>rfl
 | x::K=>by
  have z:=YQ s K;rw[v7,v7,v7,v7,aB];generalize (t7 K s.1 s.2:Int)=I at *;generalize (t7 K ((s.1:Int) - 1) s.2:Int)=O at *;generalize (t7 K s.1 ((s.2:Int)+1):Int)=Y at *;generalize (t7 K ((s.1:Int) - 1) ((s.2:Int)+1):Int)=c4 at *;generalize (AQ K s:Int)=c5 at *
  repeat' split
  all_goals omega
theorem rV(x:Nat×Nat) : ∀{L:List (Nat×Nat)},L.Nodup->bX (L.map λs=>if x=s then (1:Int)else 0)=if x∈L then 1 else 0
 | [],_=>rfl
 | s::L,h=>by
  have h':=PF.mp h;show(if x=s then (1:Int)else 0)+bX (L.map λs=>if x=s then (1:Int)else 0)=_;rw[rV x h'.2];by_cases e:x=s
  ·subst e
   simp[h'.1]
  ·simp[e]
theorem WO(f g:Nat×Nat->Int) : ∀L:List (Nat×Nat),bX (L.map λs=>f s+g s)=bX (L.map f)+bX (L.map g)
 | []=>rfl
 | s::L=>by show f s+g s+bX (L.map λs=>f s+g s)=f s+bX (L.map f)+(g s+bX (L.map g));rw[WO f g L];omega
theorem rz{M:Nat}(i j:Nat)(hn:(stN M).Nodup) : ∀{K:List (Nat×Nat)},(∀x,x∈K->x∈stN M)->bX (((stN M).filter (YR i j)).map λs=>(AQ K s:Int))=(t7 K i j:Int)
 | [],_=>by
  have e : ∀L:List (Nat×Nat),bX (L.map λs=>(AQ [] s:Int))=0:=λL=>by
   induction L with
   | nil=>rfl
   | cons s L I=>show(AQ [] s:Int)+_=0;rw[I];rfl
  rw[e];rfl
 | x::K,h=>by
  have I:=rz i j hn (K:=K) λy Y=>h y<|NN _ Y;have e:(λs=>(AQ (x::K) s:Int))=λs=>(if x=s then (1:Int)else 0)+(AQ K s:Int):=funext λs=>by
   rw[aB];by_cases z:x=s
   ·rw[DZ z,DZ (by rw[z];exact⟨rfl,rfl⟩)];omega
   ·rw[DJ z,DJ λq=>z (Prod.ext q.1 q.2)];omega
  rw[e,WO,I,rV x<|hn.sublist Rl,v7];have hx:=h x NL;have O:x∈(stN M).filter (YR i j)↔YR i j x=cL:=by simp[hx]
  by_cases c:YR i j x=cL
  ·rw[DZ (O.mpr c)]
   unfold YR at c;simp only[NI,decide_eq_true_eq]at c;rw[DZ ⋯];omega
  ·rw[DJ λz=>c (O.mp z)]
   unfold YR at c;simp only[NI,decide_eq_true_eq]at c;rw[DJ λz=>c ⟨by omega,by omega⟩];omega
section
variable{p:Int}{w:DV}{wd:DK}{T:DQ}{m N:Nat}{A:Nat->m6}
def vV(A:Nat->m6)(N:Nat):List (Nat×Nat):=(Nu N).map λj=>((A j).s,(A j).s+(A j).n - 1)
theorem VY(D:rn p w wd T m N A) : ∀x,x∈vV A N->x∈stN (m+1):=λx hx=>by obtain⟨j,z,rfl⟩:=Rf.mp hx;have h1:=(D.ok j<|NA.mp z).n1;have h2:=(D.ok j<|NA.mp z).le;exact E5.mpr (by show(A j).s<=(A j).s+(A j).n - 1/\(A j).s+(A j).n - 1<m+1;omega)
theorem Ft(D:rn p w wd T m N A)(z:i<=j):(w8 A N i j).length=t7 (vV A N) i j:=by unfold w8 t7 vV;rw[<- L6,SY];refine List.countP_congr λk hk=>?_;have h1:=(D.ok k<|NA.mp hk).n1;simp only[NI,RQ,decide_eq_true_eq];rw[t8,t8];omega
theorem AX(D:rn p w wd T m N A)(I:a<=b):atS (λs=>(t7 (vV A N) s.1 s.2:Int)) (m+1) a b=(t7 (vV A N) a b:Int):=by
 unfold atS;split
 ·next h=>
  show((t7 (vV A N) (a.toNat:Int) (b.toNat:Int):Nat):Int)=_;rw[Uw h.1,Uw ⋯]
 ·next h=>
  have:t7 (vV A N) a b=0:=by unfold t7;rw[List.countP_eq_zero];intro x hx z;have:=E5.mp<|VY D x hx;simp only[NI,decide_eq_true_eq]at z;omega
  rw[this];rfl
theorem Ej(D:rn p w wd T m N A)(hs:s.1<=s.2):uZ (λs=>(t7 (vV A N) s.1 s.2:Int)) (m+1) s=(AQ (vV A N) s:Int):=by unfold uZ;rw[AX D ⋯,AX D ⋯,AX D ⋯];exact YQ s _
theorem oV(z:Pr p)(O : ∀k,wd k<=7)(Y : ∀k x y,0<=T k x y/\T k x y<p)(hm:m<=20)(D:rn p w wd T m N A)(I:i<=j)(hj:j<=m):JR [qN p m w wd T,.int i,.int j]=cI (.val<|.int ((t7 (vV A N) i j:Nat):Int)):=by obtain⟨s,q,B,B2,l,l2,e,h1,h2,h3,h4⟩:=An (w:=w) z O Y hm I hj;have:=oW z D (n:=j - i) ⋯ h1 h2 h3 h4;rw[show i+(j - i)=j by omega]at this;rw[e,<- Ft D I];congr 3;omega
end
def m8(k x:Nat):Nat:=if x=k then k+1 else if x=k+1 then k else x
def kf(k:Nat)(b:m6):Bool:=decide (b.s<k) && decide (k<=b.s+b.n)
def Zr(k:Nat)(b:m6):Bool:=decide (b.s<=k+1) && decide (k+1<b.s+b.n)
def Ac(k:Nat)(b:m6)(v:Nat->Vc):m6:=⟨m8 k b.s,m8 k (b.s+b.n) - m8 k b.s,v⟩
theorem rm{k:Nat}{b:m6}(h1:1<=b.n)(h : ¬(b.s=k/\b.n=1)):m8 k b.s<m8 k (b.s+b.n):=by unfold m8;split<;>split<;>(try split)<;>(try split)<;>omega
theorem gJ{k:Nat}{b:m6}{v:Nat->Vc}(h1:1<=b.n){r:Nat}(z:r≠k):(Ac k b v).has r=b.has r:=by rw[Pn,t8,t8];show m8 k b.s<=r/\r<m8 k b.s+(m8 k (b.s+b.n) - m8 k b.s)↔_;unfold m8;split<;>split<;>(try split)<;>(try split)<;>omega
theorem Ab{k:Nat}{b:m6}{v:Nat->Vc}(h1:1<=b.n):(Ac k b v).has k=((kf k b && !b.has k) || (Zr k b && !b.has k) || (kf k b && Zr k b)):=by have e : ∀{x y:Bool},(x=cL↔y=cL)->x=y:=λh=>Pn.mpr h;refine e ?_;simp only[OZ,NI,SI,<- Bool.not_eq_true,t8,kf,Zr,decide_eq_true_eq];show m8 k b.s<=k/\k<m8 k b.s+(m8 k (b.s+b.n) - m8 k b.s)↔_;unfold m8;split<;>split<;>(try split)<;>(try split)<;>omega
def zi(k:Nat)(b:m6)(r:Nat):Int:=if b.s<k/\k<r then -1 else 1
theorem rB(k:Nat)(b:m6)(r:Nat):zi k b r*zi k b r=1:=by unfold zi;split<;>rfl
section
variable{p:Int}{w w':DV}{wd p3:DK}{T T':DQ}{m N k q:Nat}{A:Nat->m6}{B:Nat->Vc}{l:DK}
theorem iU{z:Nat->m6}(keep:DV)(ok : ∀j,j<N->keep j=cL->FD p w wd T m (z j))(no : ∀j,j<N->keep j=d7->∀r,(z j).has r=d7)
 (sp : ∀r,r<=m->∀v:Vc,∃t:Vc,∀i,i<wd r->v i%p=zf (λj=>if (z j).has r=cL then t j*(z j).v r i else 0) N%p)
 (inj : ∀r,r<=m->∀t:Vc,(∀i,i<wd r->zf (λj=>if (z j).has r=cL then t j*(z j).v r i else 0) N%p=0)->∀j,j<N->(z j).has r=cL->t j%p=0)
 (cnt : ∀r,r<=m->((Nu N).filter λj=>(z j).has r).length=wd r) :
 rn p w wd T m ((Nu N).filter keep).length λe=>z (((Nu N).filter keep).getD e 0):=by
 have nd:((Nu N).filter keep).Nodup:=Ss.sublist Rl;have sm:=λg=>xf keep g N;have mem : ∀{e:Nat},e<((Nu N).filter keep).length->((Nu N).filter keep).getD e 0<N/\keep (((Nu N).filter keep).getD e 0)=cL:=λ{e} I=>by
  have hm:((Nu N).filter keep).getD e 0∈(Nu N).filter keep:=by rw[Ny,Nw I];exact Rt _
  obtain⟨h1,h2⟩:=OC.mp hm;exact⟨NA.mp h1,h2⟩
 have cn : ∀r,((Nu N).filter keep).filter (λj=>(z j).has r)=(Nu N).filter λj=>(z j).has r:=λr=>by
  rw[List.filter_filter];refine SH λj Y=>?_;cases h:keep j with
  | true=>simp
  | false=>simp[no j (NA.mp Y) h r]
 have eJ:((Nu N).filter keep)=(Nu ((Nu N).filter keep).length).map λe=>((Nu N).filter keep).getD e 0:=(qy 0 _).symm;generalize zci:(Nu N).filter keep=J at nd sm mem cn eJ;have s2 : ∀r (t:Vc) (i:Nat),zf (λe=>if (z<|J.getD e 0).has r=cL then t (J.getD e 0)*(z<|J.getD e 0).v r i else 0) J.length=zf (λj=>if (z j).has r=cL then t j*(z j).v r i else 0) N:=λr t i=>by
  rw[sm λj=>if (z j).has r=cL then t j*(z j).v r i else 0];refine zk λj Y=>?_;cases h:keep j with
  | true=>simp
  | false=>simp[no j Y h r]
 have a4 : ∀(t:Vc) e,e<J.length->t (J.idxOf<|J.getD e 0)=t e:=λt e I=>by rw[Ny,Nw I,Rn,nd.idxOf_getElem _ I]
 refine⟨λe I=>ok _ (mem I).1 (mem I).2,λr O v=>?_,λr O t ht e I hh=>?_,λr O=>?_⟩
 ·obtain⟨t,ht⟩:=sp r O v
  exact⟨λe=>t<|J.getD e 0,λi hi=>by rw[ht i hi,<- s2 r t i]⟩
 ·have:=inj r O (λj=>t<|J.idxOf j) (λi hi=>by
   rw[<- s2 r (λj=>t<|J.idxOf j) i];refine Ro (congrArg (· % p)<|zk λe I=>?_)<|ht i hi;show(if _ then t (J.idxOf<|J.getD e 0)*_ else 0)=_;rw[a4 t e I]) _ (mem I).1 hh
  rw[a4 t e I]at this;exact this
 ·rw[<- cnt r O,<- cn r,<- L6]
  unfold m3;rw[<- L6]
  conv=>rhs;rw[eJ,SY]
  rfl
end
section
variable{p:Int}{w w':DV}{wd p3:DK}{T T':DQ}{m N k q wl wr:Nat}{A:Nat->m6}{B:Nat->Vc}{l:DK}
structure L9(p:Int)(w w':DV)(wd p3:DK)(T T':DQ)(m k q wl wr:Nat)(B:Nat->Vc)(l:DK):Prop where
 km:k<=m
 Gb:wl=if 0<k then wd (k - 1)else 0
 Gc:wr=if k<m then wd (k+1)else 0
 el:0<k->w (k - 1)=d7/\w' (k - 1)=cL/\∀i c,i<wl->c<q->T' (k - 1) i c=B c i
 er:k<m->w k=cL/\w' k=d7/\∀i c,i<wr->c<q->T' k i c=B c (wl+i)
 p9 : ∀j,j<m->j≠k->j+1≠k->w' j=w j/\∀i c,T' j i c=T j i c
 DN:p3 k=q
 Dz : ∀r,r≠k->p3 r=wd r
 hb:WB (wl+wr) q B l
 hs : ∀z,Span p (wl+wr) (h9 q B) z↔sJ p wl wr (wd k) (T<|k - 1) (T k) z
theorem aN{b:m6}(h1:1<=b.n)(h0:0<k):kf k b=b.has (k - 1):=by rw[Pn,t8];simp only[kf,NI,decide_eq_true_eq];omega
theorem Eu(D:rn p w wd T m N A)(E:L9 p w w' wd p3 T T' m k q wl wr B l):Loc p wl wr (wd k) N (λj=>kf k<|A j) (λj=>Zr k<|A j) (λj=>(A j).has k) (λj=>(A j).v (k - 1)) (λj=>(A j).v (k+1)) (λj=>(A j).v k) (T<|k - 1) (T k):=by
 have km:=E.km;have fL : ∀j,j<N->0<k->kf k (A j)=(A j).has (k - 1):=λj I h0=>aN (D.ok j I).n1 h0;have a2:0<k->∀t:Vc,∀i,zf (λj=>if kf k (A j)=cL then t j*(A j).v (k - 1) i else 0) N=zf (λj=>if (A j).has (k - 1)=cL then t j*(A j).v (k - 1) i else 0) N:=λh0 t i=>zk λj I=>by rw[fL j I h0]
 refine⟨λz=>?_,λz=>?_,λt Y j I O=>?_,λt Y j I O=>?_,λt Y=>D.inj k km t Y,λj I O i hi=>?_,λj I O i hi=>?_,λj h1 h2=>?_⟩
 ·by_cases h0:0<k
  ·obtain⟨t,Y⟩:=D.sp (k - 1) ⋯ z
   refine⟨t,λi hi=>?_⟩;rw[E.Gb,DZ h0]at hi;rw[Y i hi,a2 h0]
  ·exact⟨λ_=>0,λi hi=>by rw[E.Gb,DJ h0]at hi;omega⟩
 ·by_cases h0:k<m
  ·obtain⟨t,Y⟩:=D.sp (k+1) ⋯ z
   refine⟨t,λi hi=>?_⟩;rw[E.Gc,DZ h0]at hi;exact Y i hi
  ·exact⟨λ_=>0,λi hi=>by rw[E.Gc,DJ h0]at hi;omega⟩
 ·have h0:0<k:=by simp only[kf,NI,decide_eq_true_eq]at O;omega
  refine D.inj (k - 1) ⋯ t (λi hi=>?_) j I (by rw[<- fL j I h0];exact O);rw[<- a2 h0];exact Y i (by rw[E.Gb,DZ h0];exact hi)
 ·have O:(A j).has (k+1)=cL:=O
  have h0:k<m:=by have:=(t8.mp O).2;have:=(D.ok j I).le;omega
  exact D.inj (k+1) ⋯ t (λi hi=>Y i<|by rw[E.Gc,DZ h0];exact hi) j I O
 ·have h0:0<k:=by simp only[kf,NI,decide_eq_true_eq]at O;omega
  have hw:=(E.el h0).1;have eb:jG w (k - 1)=k - 1:=by unfold jG;rw[hw];rfl
  have ee:jQ w (k - 1)=k:=by unfold jQ;rw[hw];simp;omega
  have:=(D.ok j I).arr (k - 1) ⋯ (by rw[eb,<- fL j I h0];exact O) i (by rw[ee];exact hi);rw[eb,ee]at this;rw[E.Gb,DZ h0];exact this
 ·have O:(A j).has (k+1)=cL:=O
  have h0:k<m:=by have:=(t8.mp O).2;have:=(D.ok j I).le;omega
  have hw:=(E.er h0).1;have eb:jG w k=k+1:=by unfold jG;rw[hw];rfl
  have ee:jQ w k=k:=by unfold jQ;rw[hw];rfl
  have:=(D.ok j I).arr k h0 (by rw[eb];exact O) i (by rw[ee];exact hi);rw[eb,ee]at this;rw[E.Gc,DZ h0];exact this
 ·simp only[kf,Zr,NI,decide_eq_true_eq]at h1 h2
  rw[t8];omega
def vwB(p:Int)(k wl:Nat)(A:Nat->m6)(l:DK)(j r:Nat):Vc:=
 if r=k then D7 p wl (λj=>kf k<|A j) (λj=>Zr k<|A j) (λj=>(A j).v (k - 1)) (λj=>(A j).v (k+1)) l j else λi=>zi k (A j) r*(A j).v r i%p
def Bt(p:Int)(k wl:Nat)(A:Nat->m6)(l:DK)(j:Nat):m6:=Ac k (A j)<|vwB p k wl A l j
def vc(k:Nat)(A:Nat->m6)(j:Nat):Bool:= !(decide ((A j).s=k) && decide ((A j).n=1))
theorem px(hp:Pr p)(D:rn p w wd T m N A)(E:L9 p w w' wd p3 T T' m k q wl wr B l) :
 rn p w' p3 T' m ((Nu N).filter (vc k A)).length λe=>Bt p k wl A l (((Nu N).filter (vc k A)).getD e 0):=by
 have L:=Eu D E;have km:=E.km;have p0:=hp.pos;have hv : ∀{j r:Nat},r≠k->(Bt p k wl A l j).v r=λi=>zi k (A j) r*(A j).v r i%p:=λ{j r} h=>DJ h;have a9 : ∀{j:Nat},(Bt p k wl A l j).v k=D7 p wl (λj=>kf k<|A j) (λj=>Zr k<|A j) (λj=>(A j).v (k - 1)) (λj=>(A j).v (k+1)) l j:=λ{j}=>DZ rfl;have Y : ∀{j r:Nat},j<N->r≠k->(Bt p k wl A l j).has r=(A j).has r:=λ{j r} I h=>gJ (D.ok j I).n1 h;have a7 : ∀{j:Nat},j<N->(Bt p k wl A l j).has k=o4 (λj=>kf k<|A j) (λj=>Zr k<|A j) (λj=>(A j).has k) j:=λ{j} I=>Ab (D.ok j I).n1;refine iU (vc k A) (λj I hk=>?_) (λj I hk r=>?_) (λr O v=>?_) (λr O t ht j I ab=>?_) λr O=>?_
 ·have o:=D.ok j I
  have as:m8 k (A j).s<m8 k ((A j).s+(A j).n):=rm o.n1 λz=>by simp[vc,z.1,z.2]at hk
  refine⟨?_,?_,λr i O hi=>?_,λa ha hb i hi=>?_⟩
  ·show 1<=m8 k ((A j).s+(A j).n) - m8 k (A j).s
   omega
  ·show m8 k (A j).s+(m8 k ((A j).s+(A j).n) - m8 k (A j).s)<=m+1
   have:=o.le;have e1:m8 k (A j).s+(m8 k ((A j).s+(A j).n) - m8 k (A j).s)=m8 k ((A j).s+(A j).n):=by omega
   rw[e1];unfold m8;split
   ·omega
   ·split<;>omega
  ·by_cases z:r=k
   ·subst z
    rw[a9];exact⟨Ot _ ⋯,Oe _ p0⟩
   ·rw[hv z]
    exact⟨Ot _ ⋯,Oe _ p0⟩
  ·by_cases a1:a+1=k
   ·
    have h0:0<k:=by omega
    obtain⟨_,q1,q2⟩:=E.el h0;have ea:a=k - 1:=by omega
    subst ea;have eb:jG w' (k - 1)=k:=by unfold jG;rw[q1];simp;omega
    have ee:jQ w' (k - 1)=k - 1:=by unfold jQ;rw[q1];rfl
    rw[eb,a7 I]at hb;rw[ee,E.Dz _ ⋯]at hi;have ak:i<wl:=by rw[E.Gb,DZ h0];exact hi
    rw[eb,ee,a9,E.DN,Y I ⋯,hv ⋯];have e1:=Fk L E.hb E.hs I hb (i:=i) ⋯;have e2:app (T'<|k - 1) q (D7 p wl (λj=>kf k<|A j) (λj=>Zr k<|A j) (λj=>(A j).v (k - 1)) (λj=>(A j).v (k+1)) l j) i=zf (λc=>B c i*D7 p wl (λj=>kf k<|A j) (λj=>Zr k<|A j) (λj=>(A j).v (k - 1)) (λj=>(A j).v (k+1)) l j c) q:=zk λc hc=>by rw[q2 i c ak hc]
    rw[e2,e1];show qg _ _ _ _%p=_;rw[zW ak];show(if kf k (A j)=cL then (A j).v (k - 1) i else 0)%p=(if (A j).has (k - 1)=cL then zi k (A j) (k - 1)*(A j).v (k - 1) i%p else 0)%p;rw[aN o.n1 h0];have:zi k (A j) (k - 1)=1:=DJ ⋯;rw[this,TL];split
    ·exact(Ou _ _).symm
    ·rfl
   ·by_cases a2:a=k
    ·subst a2
     obtain⟨_,q1,q2⟩:=E.er ha;have eb:jG w' a=a:=by unfold jG;rw[q1];rfl
     have ee:jQ w' a=a+1:=by unfold jQ;rw[q1];rfl
     rw[eb,a7 I]at hb;rw[ee,E.Dz _ ⋯]at hi;have ar:i<wr:=by rw[E.Gc,DZ ha];exact hi
     rw[eb,ee,a9,E.DN,Y I ⋯,hv ⋯];have e1:=Fk L E.hb E.hs I hb (i:=wl+i) ⋯;have e2:app (T' a) q (D7 p wl (λj=>kf a<|A j) (λj=>Zr a<|A j) (λj=>(A j).v (a - 1)) (λj=>(A j).v (a+1)) l j) i=zf (λc=>B c (wl+i)*D7 p wl (λj=>kf a<|A j) (λj=>Zr a<|A j) (λj=>(A j).v (a - 1)) (λj=>(A j).v (a+1)) l j c) q:=zk λc hc=>by rw[q2 i c ar hc]
     rw[e2,e1];show qg _ _ _ _%p=_;rw[jd];show(if (A j).has (a+1)=cL then Dn (λj=>kf a<|A j) j*(A j).v (a+1) i else 0)%p=(if (A j).has (a+1)=cL then zi a (A j) (a+1)*(A j).v (a+1) i%p else 0)%p;cases O:(A j).has (a+1)with
     | false=>simp
     | true=>
      simp only[if_true];rw[Ou];have O:=t8.mp O;have:Dn (λj=>kf a<|A j) j=zi a (A j) (a+1):=by
       unfold Dn zi kf;simp only[NI,decide_eq_true_eq];by_cases z:(A j).s<a
       ·rw[DZ ⟨z,by omega⟩,DZ ⟨z,by omega⟩]
       ·rw[DJ (λh=>z h.1),DJ (λh=>z h.1)]
      rw[this]
    ·
     obtain⟨q1,q2⟩:=E.p9 a ha a2 a1;have eb:jG w' a=jG w a:=by unfold jG;rw[q1]
     have ee:jQ w' a=jQ w a:=by unfold jQ;rw[q1]
     have nb:jG w a≠k/\jQ w a≠k/\(k<jG w a↔k<jQ w a):=by unfold jG jQ;cases w a<;>simp<;>omega
     rw[eb,Y I nb.1]at hb;rw[ee,E.Dz _ nb.2.1]at hi;rw[eb,ee,E.Dz _ nb.1,Y I nb.2.1,hv nb.1,hv nb.2.1];have e1:app (T' a) (wd<|jG w a) (λi=>zi k (A j) (jG w a)*(A j).v (jG w a) i%p) i%p=zi k (A j) (jG w a)*app (T a) (wd<|jG w a) ((A j).v (jG w a)) i%p:=by unfold app;rw[<- zZ];refine zy λc _=>?_;rw[q2,qx,Rg]
     have e2:zi k (A j) (jG w a)=zi k (A j) (jQ w a):=by
      unfold zi;by_cases z:(A j).s<k/\k<jG w a
      ·rw[DZ z,DZ ⟨z.1,nb.2.2.mp z.2⟩]
      ·rw[DJ z,DJ λy=>z ⟨y.1,nb.2.2.mpr y.2⟩]
     rw[e1,xY rfl<|o.arr a ha hb i hi,e2];split
     ·rw[Ou]
     ·simp
 ·have:(A j).s=k/\(A j).n=1:=by simpa[vc]using hk
  rw[<- Bool.not_eq_true,t8];show ¬(m8 k (A j).s<=r/\r<m8 k (A j).s+(m8 k ((A j).s+(A j).n) - m8 k (A j).s));rw[this.1,this.2];unfold m8;simp
 ·by_cases z:r=k
  ·subst z
   obtain⟨t,ht⟩:=IA L E.hb E.hs v;refine⟨t,λi hi=>?_⟩;rw[E.DN]at hi;rw[ht i hi];congr 1;exact zk λj I=>by rw[a7 I,a9]
  ·obtain⟨t,ht⟩:=D.sp r O v
   refine⟨λj=>t j*zi k (A j) r,λi hi=>?_⟩;rw[E.Dz _ z]at hi;rw[ht i hi];refine zy λj I=>?_;rw[Y I z,hv z];split
   ·rw[qx,<- OP,OP<|t j,rB,PJ]
   ·rfl
 ·by_cases z:r=k
  ·subst z
   rw[a7 I]at ab;refine Fm L E.hb E.hs (t:=t) (λi hi=>?_) j I ab;refine Ro (congrArg (· % p)<|zk λj I=>?_) (ht i<|by rw[E.DN];exact hi);rw[a7 I,a9]
  ·rw[Y I z]at ab
   have:=D.inj r O (λj=>t j*zi k (A j) r) (λi hi=>by
    refine Ro (zy λj I=>?_) (ht i<|by rw[E.Dz _ z];exact hi);rw[Y I z,hv z];split
    ·rw[qx,OP]
    ·rfl) j I ab
   have e:t j=t j*zi k (A j) r*zi k (A j) r:=by rw[OP,rB,PJ]
   rw[e];exact Kg this
 ·by_cases z:r=k
  ·subst z
   rw[E.DN,<- Fn hp L E.hb E.hs];congr 1;exact SH λj I=>a7<|NA.mp I
  ·rw[E.Dz _ z,<- D.cnt r O]
   unfold m3;congr 1;exact SH λj I=>by rw[Y (NA.mp I) z]
def _e(k:Nat)(s:Nat×Nat):Nat×Nat:=(m8 k s.1,m8 k (s.2+1) - 1)
def C0(k:Nat)(K:List (Nat×Nat)):List (Nat×Nat):=(K.filter λs=> !(decide (s.1=k) && decide (s.2=k))).map (_e k)
theorem pw(D:rn p w wd T m N A):vV (λe=>Bt p k wl A l<|((Nu N).filter (vc k A)).getD e 0) ((Nu N).filter (vc k A)).length=C0 k (vV A N):=by
 have O:((Nu N).filter (vc k A))=(Nu ((Nu N).filter (vc k A)).length).map λe=>((Nu N).filter (vc k A)).getD e 0:=(qy 0 _).symm;unfold C0 vV;rw[List.filter_map,OO];have e1:(Nu N).filter ((λs:Nat×Nat=> !(decide (s.1=k) && decide (s.2=k)))∘λj=>((A j).s,(A j).s+(A j).n - 1))=(Nu N).filter (vc k A):=SH λj Y=>by
  have:=(D.ok j<|NA.mp Y).n1;show(!(decide ((A j).s=k) && decide ((A j).s+(A j).n - 1=k))) = !(decide ((A j).s=k) && decide ((A j).n=1));congr 1;by_cases z:(A j).s=k
  ·rw[decide_eq_true z,Bool.true_and,Bool.true_and]
   exact decide_eq_decide.mpr ⋯
  ·rw[decide_eq_false z,Ui,Ui]
 rw[e1]
 conv=>rhs;rw[O]
 rw[OO];refine NQ λe I=>?_;have I:=NA.mp I;have hm:((Nu N).filter (vc k A)).getD e 0∈(Nu N).filter (vc k A):=by rw[Ny,Nw I];exact Rt _
 obtain⟨h1,h2⟩:=OC.mp hm;simp only[RQ];generalize ((Nu N).filter (vc k A)).getD e 0=j at h1 h2;have o:=D.ok j<|NA.mp h1;have a0:m8 k (A j).s<m8 k ((A j).s+(A j).n):=rm o.n1 λz=>by simp[vc,z.1,z.2]at h2
 have:=o.n1;show(m8 k (A j).s,m8 k (A j).s+(m8 k ((A j).s+(A j).n) - m8 k (A j).s) - 1)=(m8 k (A j).s,m8 k ((A j).s+(A j).n - 1+1) - 1);rw[show(A j).s+(A j).n - 1+1=(A j).s+(A j).n by omega,show m8 k (A j).s+(m8 k ((A j).s+(A j).n) - m8 k (A j).s) - 1=m8 k ((A j).s+(A j).n) - 1 by omega]
end
theorem fP:qr=jo 9 (zS (yt 4<|yu zG)<|zS (J3 (ki<|ze 1) (.tp [5,6]) QW)<|xh<|qe<|zc (ze 0)<|zc (jj<|zq 2)<|zc (jj<|zq 4) zG):=rfl
section
variable{p:Int}{m:Nat}{w:DV}{wd:DK}{T:DQ}
def yz(w:DV)(wd:DK)(T:DQ)(m:Nat):List D:=(Nu m).map λk=>D.lst<|yi (l7 w wd k) (l5 w wd k)<|T k
@[simp] theorem eV(m):(yz w wd T m).length=m:=by simp[yz]
theorem dJ(k):qG (k+1) w wd T=qG k w wd T++[yP w wd T k]:=by simp[qG,PD]
theorem oB(h v:Nat)(f:DW):z7 (.nm 0) jS (jj<|zq 0) [Cell.no] (yi h v f)=cI (zV h v f):=by unfold yi zV;refine zA _ _ λy z=>zE rfl rfl ?_;simp
abbrev rc(p:Int)(m:Nat)(w:DV)(wd:DK)(T:DQ)(acc:List D)(c5 c6 c7 c8:Cell):Ctx:=[.val (.int p),.val (.str (xm m w)),.val (.lst (zR (m+1) λk=>(wd k:Int))),.val (.lst (yz w wd T m)),.own acc,c5,c6,c7,c8]
theorem cj(hm:m<=5)(z : ∀k,wd k<=7){k:Nat}(hk:k<m)(acc:List D)(ha:acc.length<lim)(c7 c8:Cell) : ∃I O,QW (rc p m w wd T acc (.val<|.int k) (.val<|.str<|xc<|mm<|w k) c7 c8)=cI (.next<|rc p m w wd T (acc++[yP w wd T k]) (.val<|.int k) (.val<|.str<|xc<|mm<|w k) I O):=by
 have hl:=jy;have h1:=iO w hk;have h2:=lD w hk;have Y:l7 w wd k<=lim:=by rw[Xr];have:=z<|jQ w k;omega
 have i1:p8 (m+1) ((jQ w k:Nat):Int)=cI (jQ w k):=by rw[jB,DZ h1]
 have i2:p8 (m+1) ((jG w k:Nat):Int)=cI (jG w k):=by rw[jB,DZ h2]
 have i3:p8 m (k:Int)=cI k:=by rw[jB,DZ hk]
 have w1:(zR (m+1) λk=>(wd k:Int))[jQ w k]? = cI (.int (wd (jQ w k):Int)):=xQ (n:=m+1) (λk=>(wd k:Int)) h1;have w2:(zR (m+1) λk=>(wd k:Int))[jG w k]? = cI (.int (wd (jG w k):Int)):=xQ (n:=m+1) (λk=>(wd k:Int)) h2;have tx:(yz w wd T m)[k]? = cI (D.lst<|yi (l7 w wd k) (l5 w wd k)<|T k):=by simp[yz,hk]
 refine⟨.val<|.int ((jG w k:Nat):Int),.val<|.int ((jQ w k:Nat):Int),?_⟩;unfold QW;rw[jC,Be,yR];simp only[rc,yQ,Zi,jW,NF,NG,zF,Nx,NZ,Kv,k6,JH,Ph,Pg];have cm:(zT (zQ<|zM<|fy (zq 3)<|ze 5) (.nm 0) 1 [] jS (jj<|zq 0)) [.val (.int p),.val<|.str<|xm m w,.val<|.lst<|zR (m+1) λk=>(wd k:Int),.val<|.lst<|yz w wd T m,.own acc,.val<|.int k,.val<|.str<|xc<|mm<|w k,.val<|.int ((jG w k:Nat):Int),.val (.int ((jQ w k:Nat):Int))]=cI (zV (l7 w wd k) (l5 w wd k)<|T k):=by simp only[kA,kn,xp,vA,qu,jW,NF,NG,zF,zY,vi,Nx,NZ,jM,eV,i3,tx,wY,Y,if_true];exact oB _ _ _
 simp only[Vi,Fz,yQ,Zi,jW,vA,qu,dN,Wn,cm,NF,NG,zF,zY,vz,vi,Nx,NZ,jM,yf,i1,i2,w1,w2,Od,PY,ha,if_true];rw[<- Xr w wd k,<- QJ w wd k];rfl
theorem QH(hm:m<=5)(Y : ∀k,wd k<=7):qr [.int p,.str<|xm m w,.lst<|zR (m+1) λk=>(wd k:Int),.lst (yz w wd T m)]=cI (.val<|qN p m w wd T):=by
 have hl:=jy;have hs:=yV w (show m<=1000 by omega);have a0 : ∀(k s:Nat) (c5 c6 c7 c8:Cell),s+k=m->∃a1 a2 a3 a4,xl (.tp [5,6]) QW ((SG s k).map λ(k:Nat)=>D.tup [.int k,.str (xc<|mm<|w k)]) (rc p m w wd T (qG s w wd T) c5 c6 c7 c8)=cI (.next<|rc p m w wd T (qG m w wd T) a1 a2 a3 a4):=by
  intro k
  induction k with
  | zero=>
   intro s c5 c6 c7 c8 h;obtain rfl:s=m:=by omega
   exact⟨c5,c6,c7,c8,rfl⟩
  | succ k ih=>
   intro s c5 c6 c7 c8 h;obtain⟨z,I,e⟩:=cj (p:=p) (w:=w) (T:=T) hm Y (show s<m by omega) (qG s w wd T) (by simp;omega) c7 c8;obtain⟨a6,a7,a8,a9,O⟩:=ih (s+1) (.val<|.int s) (.val<|.str<|xc<|mm<|w s) z I ⋯;refine⟨a6,a7,a8,a9,?_⟩;rw[RN,NY,jN];show((QW<|rc p m w wd T _ (.val<|.int s) (.val<|.str<|xc<|mm<|w s) c7 c8).bind _)=_;rw[e];rw[dJ]at O;exact O
 obtain⟨d5,d6,z,I,e⟩:=a0 m 0 .no .no .no .no ⋯;rw[<- Po]at e;rw[fP];unfold jo;rw[jC];show(zS _ _<|rc p m w wd T [] .no .no .no .no).bind _=_;rw[jC,JM,JN];simp only[rc,jW,NF,NG,zF,Nx,hs,if_true,wX];have e0:qG 0 w wd T=[]:=rfl;simp only[rc,e0]at e;rw[e];simp;rfl
end
def u1:=(jT 1<|zJ z6<|zc (ze 0)<|zc (zx<|.int 0) zG)
def u2:=(jT 2<|fy (qf<|yu<|zc (zx<|.int 2)<|zc (zx<|.int 3)<|zc (zx<|.int 5)<|zc (zx<|.int 7) zG)<|zw x6 (ze 1)<|zx<|.int 4)
def u3:=(Vu (.tp [3,4])<|fy (qf<|yu<|zc (qe<|zc (zx<|.int 4)<|zc (zx<|.int 2) zG)<|zc (qe<|zc (zx<|.int 3)<|zc (zx<|.int 2) zG)<|zc (qe<|zc (zx<|.int 2)<|zc (zx<|.int 2) zG)<|zc (qe<|zc (zx<|.int 2)<|zc (zx<|.int 2) zG)<|zc (qe<|zc (zx<|.int 6)<|zc (zx<|.int 1) zG)<|zc (qe<|zc (zx<|.int 5)<|zc (zx<|.int 1) zG)<|zc (qe<|zc (zx<|.int 4)<|zc (zx<|.int 1) zG)<|zc (qe<|zc (zx<|.int 3)<|zc (zx<|.int 1) zG) zG)<|zw x6 (ze 1)<|zx<|.int 8)
theorem Jo{c:Int}{n:Nat}(hn:0<n) : ∃a:Nat,c%(n:Int)=a/\a<n:=by obtain⟨a,ha⟩:=PK (Ot c<|show(n:Int)≠0 by omega);have:=Oe c (show(0:Int)<n by omega);exact⟨a,ha,by omega⟩
theorem CG{c:Int}(h:0<=c) : ∃q:Nat,Pr (q:Int)/\([D.int 2,.int 3,.int 5,.int 7])[(c%4).toNat]? = cI (.int q)/\p8 4 (c%4)=cI (c%4).toNat:=by
 have h1:=Ot c (show(4:Int)≠0 by decide);have h2:=Oe c (show(0:Int)<4 by decide);obtain⟨r,z⟩:=PK h1;rw[z];have I:r<4:=by omega
 rw[jB,DZ I,OF];rcases (by omega:r=0\/r=1\/r=2\/r=3)with e | e | e | e<;>subst e
 ·exact⟨2,.inl rfl,rfl,rfl⟩
 ·exact⟨3,.inr<|.inl rfl,rfl,rfl⟩
 ·exact⟨5,.inr<|.inr<|.inl rfl,rfl,rfl⟩
 ·exact⟨7,.inr<|.inr<|.inr rfl,rfl,rfl⟩
section
variable{p:Int}{w:DV}{wd:DK}{T:DQ}{m N:Nat}{A:Nat->m6}
theorem cU(z:Pr p)(I : ∀k,wd k<=7)(O : ∀k x y,0<=T k x y/\T k x y<p)(hm:m<=5)(D:rn p w wd T m N A):yS [qN p m w wd T]=cI (.val<|KS (λs=>(AQ (vV A N) s:Int))<|m+1):=by
 rw[cV hm (λs=>(t7 (vV A N) s.1 s.2:Int)) λs hs=>by have:=E5.mp hs;exact oV z I O ⋯ D this.1 ⋯]
 congr 2;unfold KS;congr 1;exact NQ λs hs=>by rw[Ej D (E5.mp hs).1]
end
section
variable{p:Int}{w:DV}{wd:DK}{T:DQ}{m N:Nat}{A:Nat->m6}
def V8(A:Nat->m6)(N:Nat)(g:DQ)(j:Nat):m6:=⟨(A j).s,(A j).n,λr i=>g r ((m3 A N r).idxOf j) i⟩
theorem pz(g:DQ)(r:Nat):m3 (V8 A N g) N r=m3 A N r:=rfl
theorem YZ(g:DQ):vV (V8 A N g) N=vV A N:=rfl
theorem BN(D:rn p w wd T m N A){r:Nat}(z:r<=m)(v:Vc) : ∃t,∀i,i<wd r->v i%p=app (xH A N r) (wd r) t i%p:=by obtain⟨t,I⟩:=D.sp r z v;refine⟨λk=>t<|(m3 A N r).getD k 0,λi hi=>?_⟩;rw[I i hi,VZ,D.cnt r z]
theorem Y0(hp:Pr p)(ac : ∀k,wd k<=8)(D:rn p w wd T m N A) : ∃g,rn p (λk=> !w k) wd (λk i j=>T k j i) m N (V8 A N g):=by
 have p0:=hp.pos;have as : ∀r,∃g:DW,r<=m->GI p (wd r) (xH A N r) g/\GI p (wd r) g (xH A N r)/\∀i j,0<=g i j/\g i j<p:=λr=>by
  by_cases Y:r<=m
  ·obtain⟨g,h⟩:=K3 hp (ac r) (BN D Y)
   exact⟨g,λ_=>h⟩
  ·exact⟨λ_ _=>0,λz=>absurd z Y⟩
 obtain⟨g,hg⟩:=Tf as;have pos : ∀{r l:Nat},l<(m3 A N r).length->(m3 A N r).idxOf ((m3 A N r).getD l 0)=l:=λ{r l} O=>by rw[Ny,Nw O,Rn,(vW A N r).idxOf_getElem _ O]
 have bF : ∀{r:Nat},r<=m->∀i l,l<wd r->xH (V8 A N g) N r i l=g r l i:=λ{r} Y i l O=>by show g r ((m3 A N r).idxOf ((m3 A N r).getD l 0)) i=_;rw[pos (by rw[D.cnt r Y];exact O)]
 refine⟨g,AC hp ac (λj hj=>?_) (λr Y=>by rw[pz];exact D.cnt r Y) λr Y v=>?_⟩
 ·have o:=D.ok j hj
  refine⟨o.n1,o.le,λr i Y hi=>?_,λk hk hb x hx=>?_⟩
  ·have b0:r<=m:=by have:=(t8.mp Y).2;have:r<(A j).s+(A j).n:=this;have:=o.le;omega
   exact(hg r b0).2.2 _ _
  ·have eb:jG (λk=> !w k) k=jQ w k:=by unfold jG jQ;cases h:w k<;>simp[h]
   have ee:jQ (λk=> !w k) k=jG w k:=by unfold jG jQ;cases h:w k<;>simp[h]
   have a0:jG w k<=m:=by unfold jG;split<;>omega
   have a5:jQ w k<=m:=by unfold jQ;split<;>omega
   rw[eb]at hb;rw[ee]at hx;rw[eb,ee];have hb:(A j).has (jQ w k)=cL:=hb;generalize ak:jG w k=b at *;generalize am:jQ w k=e at *;show zf (λi=>T k i x*g e ((m3 A N e).idxOf j) i) (wd e)%p=(if (A j).has b=cL then g b ((m3 A N b).idxOf j) x else 0)%p;obtain⟨I,a6,a7⟩:=aJ hj hb;have b9:(m3 A N e).idxOf j=I:=by rw[<- a7];exact pos a6
   rw[b9];have ba:I<wd e:=by rw[<- D.cnt e a5];exact a6
   have on : ∀l,l<wd b->zf (λy=>zf (λi=>T k i y*g e I i) (wd e)*xH A N b y l) (wd b)%p=(if (m3 A N b).getD l 0=j then 1 else 0)%p:=λl O=>by
    have bd:l<(m3 A N b).length:=by rw[D.cnt b a0];exact O
    obtain⟨h1,h2⟩:=ik bd;have e1:zf (λy=>zf (λi=>T k i y*g e I i) (wd e)*xH A N b y l) (wd b)=zf (λi=>g e I i*app (T k) (wd b) ((A<|(m3 A N b).getD l 0).v b) i) (wd e):=by
     have:zf (λy=>zf (λi=>T k i y*g e I i) (wd e)*xH A N b y l) (wd b)=zf (λy=>zf (λi=>g e I i*(T k i y*xH A N b y l))<|wd e) (wd b):=zk λy _=>by rw[<- jE];exact zk λi _=>by rw[Pe (T k i y),OP]
     rw[this,jY];exact zk λi _=>by rw[zZ];rfl
    rw[e1];have ar : ∀i,i<wd e->app (T k) (wd b) ((A<|(m3 A N b).getD l 0).v b) i%p=(if (A<|(m3 A N b).getD l 0).has e=cL then (A<|(m3 A N b).getD l 0).v e i else 0)%p:=λi hi=>by have:=(D.ok _ h1).arr k hk (by rw[ak];exact h2) i (by rw[am];exact hi);rw[ak,am]at this;exact this
    have e2:zf (λi=>g e I i*app (T k) (wd b) ((A<|(m3 A N b).getD l 0).v b) i) (wd e)%p=zf (λi=>g e I i*(if (A<|(m3 A N b).getD l 0).has e=cL then (A<|(m3 A N b).getD l 0).v e i else 0)) (wd e)%p:=zy λi hi=>xY rfl<|ar i hi;rw[e2];cases hh:(A<|(m3 A N b).getD l 0).has e with
    | false=>
     have:(m3 A N b).getD l 0≠j:=λz=>by rw[z,hb]at hh;cases hh
     rw[DJ this];simp[zz]
    | true=>
     obtain⟨le,an,a8⟩:=aJ h1 hh;have u:=(hg e a5).2.1 I le ba (by rw[<- D.cnt e a5];exact an);have e3:zf (λi=>g e I i*xH A N e i le) (wd e)=zf (λi=>g e I i*(if cL=cL then (A<|(m3 A N b).getD l 0).v e i else 0)) (wd e):=zk λi _=>by rw[DZ rfl];show _*(A<|(m3 A N e).getD le 0).v e i=_;rw[a8]
     rw[<- e3,u];unfold Dw;by_cases q:I=le
     ·rw[DZ q,DZ (by rw[<- a8,<- q,a7])]
     ·rw[DJ q,DJ λz=>q (by
       have:(m3 A N e).getD le 0=(m3 A N e).getD I 0:=by rw[a8,a7,z]
       exact(wO (vW A N e) an a6 this).symm)]
   have e4:zf (λi=>T k i x*g e I i) (wd e)%p=zf (λl=>(if (m3 A N b).getD l 0=j then 1 else 0)*g b l x) (wd b)%p:=by
    have s1:zf (λl=>(if (m3 A N b).getD l 0=j then 1 else 0)*g b l x) (wd b)%p=zf (λl=>zf (λy=>zf (λi=>T k i y*g e I i) (wd e)*xH A N b y l) (wd b)*g b l x) (wd b)%p:=zy λl O=>xY (on l O).symm rfl;rw[s1];have s2:zf (λl=>zf (λy=>zf (λi=>T k i y*g e I i) (wd e)*xH A N b y l) (wd b)*g b l x) (wd b)=zf (λy=>zf (λi=>T k i y*g e I i) (wd e)*zf (λl=>xH A N b y l*g b l x) (wd b)) (wd b):=by
     have:zf (λl=>zf (λy=>zf (λi=>T k i y*g e I i) (wd e)*xH A N b y l) (wd b)*g b l x) (wd b)=zf (λl=>zf (λy=>zf (λi=>T k i y*g e I i) (wd e)*(xH A N b y l*g b l x))<|wd b) (wd b):=zk λl _=>by rw[<- jE];exact zk λy _=>by rw[OP]
     rw[this,jY];exact zk λy _=>zZ ..
    rw[s2];have s3:zf (λy=>zf (λi=>T k i y*g e I i) (wd e)*zf (λl=>xH A N b y l*g b l x) (wd b)) (wd b)%p=zf (λy=>zf (λi=>T k i y*g e I i) (wd e)*Dw y x) (wd b)%p:=zy λy hy=>xY rfl<|(hg b a0).1 y x hy hx;rw[s3,zK (i:=x) hx λy _ a1=>by unfold Dw;rw[DJ a1];simp];unfold Dw;rw[DZ rfl,PJ]
   rw[e4];cases hh:(A j).has b with
   | false=>
    have:zf (λl=>(if (m3 A N b).getD l 0=j then 1 else 0)*g b l x) (wd b)=zf (λ_=>0) (wd b):=zk λl O=>by
     rw[DJ λz=>by have:=(ik (A:=A) (N:=N) (r:=b) (j:=l)<|by rw[D.cnt b a0];exact O).2;rw[z,hh]at this;cases this]
     simp
    rw[this,zz];rfl
   | true=>
    obtain⟨jb,aa,ab⟩:=aJ hj hh;have bm:(m3 A N b).idxOf j=jb:=by rw[<- ab];exact pos aa
    rw[DZ rfl,bm,zK (i:=jb) (by rw[<- D.cnt b a0];exact aa) λl O a1=>by rw[DJ λz=>a1 (wO (vW A N b) (by rw[D.cnt b a0];exact O) aa<|by rw[z,ab])];simp,DZ ab,TL]
 ·refine⟨λl=>zf (λy=>v y*xH A N r y l)<|wd r,λi hi=>?_⟩
  unfold app;have e1:zf (λl=>xH (V8 A N g) N r i l*zf (λy=>v y*xH A N r y l) (wd r)) (wd r)=zf (λy=>v y*zf (λl=>xH A N r y l*g r l i) (wd r)) (wd r):=by
   have:zf (λl=>xH (V8 A N g) N r i l*zf (λy=>v y*xH A N r y l) (wd r)) (wd r)=zf (λl=>zf (λy=>v y*(xH A N r y l*g r l i))<|wd r) (wd r):=zk λl O=>by rw[bF Y i l O,Pe,<- jE];exact zk λy _=>by rw[OP]
   rw[this,jY];exact zk λy _=>zZ ..
  rw[e1];have e2:zf (λy=>v y*zf (λl=>xH A N r y l*g r l i) (wd r)) (wd r)%p=zf (λy=>v y*Dw y i) (wd r)%p:=zy λy hy=>xY rfl<|(hg r Y).1 y i hy hi;rw[e2,zK (i:=i) hi λy _ a1=>by unfold Dw;rw[DJ a1];simp];unfold Dw;rw[DZ rfl,PJ]
end
section
variable{p:Int}{n r q:Nat}{Bs:Nat->Vc}{ls:DK}
def JT(r:Nat)(Bs:Nat->Vc)(ls:DK)(v:Vc):Vc:=λx=>v x - zf (λj=>v (ls j)*Bs j x) r
def aM(r:Nat)(ls:DK)(i:Nat):Bool:=(Nu r).any λj=>ls j==i
theorem Lz{i:Nat}:aM r ls i=cL ↔ ∃j,j<r/\ls j=i:=by simp[aM]
def ox(n r:Nat)(ls:DK):List Nat:=(Nu n).filter λi=> !aM r ls i
def E4(p:Int)(n r:Nat)(Bs:Nat->Vc)(ls:DK)(c:Nat):Vc:=λi=>JT r Bs ls (jF i) ((ox n r ls).getD c 0)%p
theorem Kt{c:Nat}(h:c<(ox n r ls).length):(ox n r ls).getD c 0<n/\aM r ls ((ox n r ls).getD c 0)=d7:=by
 have hm:(ox n r ls).getD c 0∈ox n r ls:=by rw[Ny,Nw h];exact Rt _
 obtain⟨h1,h2⟩:=OC.mp hm;exact⟨NA.mp h1,by simpa using h2⟩
theorem aF{i x:Nat}(h:aM r ls i=d7):JT r Bs ls (jF i) x=jF i x:=by
 unfold JT;rw[zk (g:=λ_=>0) λj I=>by
  have:i≠ls j:=λz=>by rw[Lz.mpr ⟨j,I,z.symm⟩]at h;cases h
  show(if i=ls j then (1:Int)else 0)*_=0;rw[DJ this];simp,zz]
 omega
theorem Ez(O:Pr p):WB n (ox n r ls).length (E4 p n r Bs ls) λc=>(ox n r ls).getD c 0:=by
 have nd:(ox n r ls).Nodup:=Ss.sublist Rl;refine⟨λc I=>(Kt I).1,λc I=>?_,λc d I hd Y=>?_⟩
 ·show JT r Bs ls (jF _) _%p=1
  rw[aF (Kt I).2];show(if _=_ then (1:Int)else 0)%p=1;rw[DZ rfl,O.one]
 ·show JT r Bs ls (jF _) _%p=0
  rw[aF (Kt hd).2];show(if _=_ then (1:Int)else 0)%p=0;rw[DJ λz=>Y (wO nd hd I z)];simp
theorem Ai(v:Vc){x:Nat}(hx:x<n)(I : ∀j,j<r->ls j<n):zf (λi=>v i*JT r Bs ls (jF i) x) n=JT r Bs ls v x:=by
 unfold JT;have e1:zf (λi=>v i*(jF i x - zf (λj=>jF i (ls j)*Bs j x) r)) n=zf (λi=>v i*jF i x+zf (λj=>v i*(jF i (ls j)*Bs j x)) r * -1) n:=zk λi _=>by rw[zZ,Int.mul_sub];omega
 rw[e1,jf,jE,jY];have e2:zf (λi=>v i*jF i x) n=v x:=by rw[zK (i:=x) hx λi _ z=>by show _*(if _=_ then (1:Int)else 0)=0;rw[DJ z];simp];show _*(if _=_ then (1:Int)else 0)=_;rw[DZ rfl,PJ]
 have O:zf (λj=>zf (λi=>v i*(jF i (ls j)*Bs j x)) n) r=zf (λj=>v (ls j)*Bs j x) r:=zk λj Y=>by rw[zK (i:=ls j) (I j Y) λi _ z=>by show _*((if _=_ then (1:Int)else 0)*_)=0;rw[DJ z];simp];show _*((if _=_ then (1:Int)else 0)*_)=_;rw[DZ rfl,TL]
 rw[e2,O];omega
theorem oJ(hb:WB n r Bs ls){j:Nat}(z:j<r)(x:Nat):JT r Bs ls (Bs j) x=0:=by unfold JT;rw[zK (i:=j) z λi hi I=>by rw[hb.p9 j i z hi I];simp,hb.one j z];omega
theorem oH(hb:WB n r Bs ls){v:Vc}{j:Nat}(z:j<r):JT r Bs ls v (ls j)=0:=by unfold JT;rw[zK (i:=j) z λi hi I=>by rw[hb.p9 i j hi z (OQ I)];simp,hb.one j z];omega
theorem oK(hb:WB n r Bs ls)(z:Vc):Span p n (h9 (ox n r ls).length (E4 p n r Bs ls)) z ↔ ∀j,j<r->zf (λi=>z i*Bs j i) n%p=0:=by
 constructor
 ·intro h j I
  obtain⟨t,O⟩:=yA h;have e1:zf (λi=>z i*Bs j i) n%p=zf (λi=>zf (λc=>t c*(Bs j i*JT r Bs ls (jF i) ((ox n r ls).getD c 0))) (ox n r ls).length) n%p:=zy λi hi=>by rw[ND,O i hi,<- ND,<- jE];refine zy λc _=>?_;show t c*(_%p)*_%p=_;rw[OP,Pe<|_%p,<- OP,qx,OP]
  rw[e1,jY];have e2:zf (λc=>zf (λi=>t c*(Bs j i*JT r Bs ls (jF i) ((ox n r ls).getD c 0))) n) (ox n r ls).length=zf (λ_=>0) (ox n r ls).length:=zk λc Y=>by rw[zZ,Ai (Bs j) (Kt Y).1 hb.lt,oJ hb I,Ry]
  rw[e2,zz];simp
 ·intro h
  have sm:=λg=>xf (λi=> !aM r ls i) g n;refine(k4 (p:=p) (n:=n) (m:=(ox n r ls).length) (E4 p n r Bs ls) λc=>z<|(ox n r ls).getD c 0).congr λi hi=>?_;have e0:zf (λc=>z ((ox n r ls).getD c 0)*E4 p n r Bs ls c i) (ox n r ls).length%p=zf (λc=>z ((ox n r ls).getD c 0)*JT r Bs ls (jF i) ((ox n r ls).getD c 0)) (ox n r ls).length%p:=zy λc _=>by show _*(_%p)%p=_;rw[qx]
  have e1:zf (λc=>z ((ox n r ls).getD c 0)*JT r Bs ls (jF i) ((ox n r ls).getD c 0)) (ox n r ls).length=zf (λx=>if (!aM r ls x)=cL then z x*JT r Bs ls (jF i) x else 0) n:=sm λx=>z x*JT r Bs ls (jF i) x;have e2:zf (λx=>if (!aM r ls x)=cL then z x*JT r Bs ls (jF i) x else 0) n=zf (λx=>z x*JT r Bs ls (jF i) x) n:=zk λx _=>by
   cases hx:aM r ls x with
   | false=>simp
   | true=>
    obtain⟨j,I,rfl⟩:=Lz.mp hx;rw[oH hb I];simp
  have e3:zf (λx=>z x*JT r Bs ls (jF i) x) n=z i+zf (λj=>jF i (ls j)*zf (λx=>z x*Bs j x) n) r * -1:=by
   unfold JT;have:zf (λx=>z x*(jF i x - zf (λj=>jF i (ls j)*Bs j x) r)) n=zf (λx=>z x*jF i x+zf (λj=>jF i (ls j)*(z x*Bs j x)) r * -1) n:=zk λx _=>by
    have:zf (λj=>jF i (ls j)*(z x*Bs j x)) r=z x*zf (λj=>jF i (ls j)*Bs j x) r:=by rw[<- zZ];exact zk λj _=>by rw[Rg]
    rw[this,Int.mul_sub];omega
   rw[this,jf,jE,jY];congr 1
   ·rw[zK (i:=i) hi λx _ a3=>by show _*(if _=_ then (1:Int)else 0)=0;rw[DJ (OQ a3)];simp]
    show _*(if _=_ then (1:Int)else 0)=_;rw[DZ rfl,PJ]
   ·congr 1
    exact zk λj _=>zZ _ _ _
  rw[e0,e1,e2,e3];have e4:zf (λj=>jF i (ls j)*zf (λx=>z x*Bs j x) n) r%p=0:=by rw[zy (g:=λ_=>0) λj I=>by rw[ND,h j I];simp,zz];simp
  rw[NS,ND,e4];simp
end
section
variable{p:Int}{w w':DV}{wd p3:DK}{T T':DQ}{m N k q wl wr:Nat}{A:Nat->m6}{B:Nat->Vc}{l:DK}
structure P8(p:Int)(w w':DV)(wd p3:DK)(T T':DQ)(m k q wl wr:Nat)(B:Nat->Vc)(l:DK):Prop where
 km:k<=m
 Gb:wl=if 0<k then wd (k - 1)else 0
 Gc:wr=if k<m then wd (k+1)else 0
 el:0<k->w (k - 1)=cL/\w' (k - 1)=d7/\∀c i,c<q->i<wl->T' (k - 1) c i=B c i
 er:k<m->w k=d7/\w' k=cL/\∀c i,c<q->i<wr->T' k c i=B c (wl+i)
 p9 : ∀j,j<m->j≠k->j+1≠k->w' j=w j/\∀i c,T' j i c=T j i c
 DN:p3 k=q
 Dz : ∀r,r≠k->p3 r=wd r
 hb:WB (wl+wr) q B l
 hs : ∀z,Span p (wl+wr) (h9 q B) z↔sJ p wl wr (wd k) (λi c=>T (k - 1) c i) (λi c=>T k c i) z
theorem P8.j?(E:P8 p w w' wd p3 T T' m k q wl wr B l):L9 p (λk=> !w k) (λk=> !w' k) wd p3 (λk i j=>T k j i) (λk i j=>T' k j i) m k q wl wr B l where
 km:=E.km
 Gb:=E.Gb
 Gc:=E.Gc
 el:=λh=>by obtain⟨h1,h2,z⟩:=E.el h;exact⟨by simp[h1],by simp[h2],λi c hi I=>z c i I hi⟩
 er:=λh=>by obtain⟨h1,h2,z⟩:=E.er h;exact⟨by simp[h1],by simp[h2],λi c hi I=>z c i I hi⟩
 p9:=λj h1 h2 z=>by obtain⟨O,g2⟩:=E.p9 j h1 h2 z;exact⟨by simp[O],λi c=>g2 c i⟩
 DN:=E.DN
 Dz:=E.Dz
 hb:=E.hb
 hs:=E.hs
end
def _b:=(yt 3<|yu zG)
def U0:=(J3 (zQ<|zM<|xB<|qj qH<|zc (zJ kW<|zc (ze 0) zG)<|zc (ze 1) zG) (.nm 4)<|zS (jT 5<|fy (zM<|fy (zM<|fy (zq 0)<|zx<|.int 2)<|ze 4)<|zx<|.int 1)<|ni 3<|zM<|WV (sB<|ze 2) (fy (zM<|zJ jx<|zc (ze 5) zG)<|zx<|.int 2)<|fy (zq 5)<|zx<|.int 2)
def _c:=(xh<|jj<|zq 3)
def yk:=jo 6<|zS _b<|zS U0 _c
def U6:=(xh<|zJ wB<|zc (fy (zq 1)<|zx<|.int 0)<|zc (xB<|qj ZG<|zc (ze 0)<|zc (zJ jx<|zc (ze 1) zG) zG) zG)
def qB:=jo 2 U6
def _z:=(jT 3<|ze 2)
def O2:=(J3 (zQ<|zM<|ze 1) (.nm 4)<|jT 3<|zJ j3<|zc (ze 0)<|zc (ze 3)<|zc (ze 4)<|zc (zJ xy<|zc (ze 4) zG) zG)
def z_:=(jT 5<|xB<|zT (zQ<|zq 1) (.nm 0) 1 [] jS (zJ xy<|zc (ze 0) zG))
def A_:=(xh<|jj<|qf<|zT (Vw<|ze 3) (.tp [0,1]) 2 [5] (sB<|Vv (ze 0)<|zq 2) (ze 1))
def qc:=jo 6<|zS _z<|zS O2<|zS z_ A_
def U3:=(jT 2<|xB<|qj KN<|zc (ze 0)<|zc (ze 1) zG)
def U4:=(jT 3<|xB<|zT (zQ<|zM<|fy (zM<|zJ j5<|zc (fy (zq 1)<|zx<|.int 0) zG)<|zx<|.int 2) (.nm 0) 1 [0,2] jS (zJ qc<|zc (ze 1)<|zc (ze 2)<|zc (ze 0) zG))
def U5:=(xh<|qe<|zc (fy (zq 1)<|zx<|.int 0)<|zc (zw yN (fy (zq 1)<|zx<|.int 0)<|vB<|zq 2)<|zc (jj<|zq 3) zG)
def jz:=jo 4<|zS U3<|zS U4 U5
def R7:=(jT 4<|qe<|zc (vB<|zq 2)<|zc (ze 1)<|zc (ze 2) zG)
def R8:=(xh<|qe<|zc (zJ yj<|zc (ze 0) zG)<|zc (WV (sB<|ze 3) (ze 4)<|zJ jx<|zc (ze 4) zG) zG)
def qW:=jo 5<|zS R7 R8
def Ma:=(jT 4<|WV (sB<|zw yJ (ze 1)<|zx<|.int 0) (fy (zM<|fy (zq 0)<|zx<|.int 1)<|zw yN (ze 1)<|zx<|.int 1)<|zx<|.int 0)
def R5:=(jT 5<|Hv (zw yN (ze 1)<|zx<|.int 1) (Vt (fy (zq 2)<|zx<|.int 2) KQ<|vl<|ze 4) (ze 1)<|Vt (fy (zq 2)<|zx<|.int 2) (vl<|ze 4) KQ)
def K_:=(yt 6<|yu zG)
def R6:=(J3 (Vw<|fy (zq 0)<|zx<|.int 2) (.tp [7,8])<|jZ 6<|WV (sB<|Bk (ze 7)<|ze 5) (zJ qW<|zc (fy (zq 8)<|zx<|.int 0)<|zc (fy (zq 2)<|zx<|.int 1)<|zc (Ca (ze 5)<|ze 7)<|zc (ze 3) zG)<|ze 8)
def L':=(xh<|jj<|zq 6)
def xv:=jo 9<|zS Ma<|zS R5<|zS K_<|zS R6 L'
def o_:=(jT 2<|zJ kW<|zc (ze 0) zG)
def p_:=(nq<|zJ kY<|zc (ze 2)<|zc (ze 1) zG)
def q_:=(jT 3<|zJ wz<|zc (ze 2)<|zc (ze 1) zG)
def r_:=(jT 4<|zJ yk<|zc (ze 0)<|zc (ze 1)<|zc (ze 3) zG)
def s_:=(jT 5<|qe<|zc (vB<|zq 4)<|zc (fy (zM<|fy (zq 0)<|zx<|.int 1)<|ze 1)<|zc (ze 4) zG)
def t_:=(jT 6<|WV (sB<|ze 3) (zJ qB<|zc (fy (zq 0)<|zx<|.int 0)<|zc (ze 5) zG)<|zJ jz<|zc (fy (zq 0)<|zx<|.int 0)<|zc (ze 5) zG)
def u_:=(jT 7<|zw qb (zw qb (Vt (fy (zq 0)<|zx<|.int 1) KQ<|vl<|ze 1)<|qe<|zc (fy (zq 6)<|zx<|.int 1) zG)<|Vt (fy (zq 0)<|zx<|.int 1) (vl<|zw qb (ze 1)<|zx<|.int 1) KQ)
def v_:=(nq<|zJ xu<|zc (ze 7) zG)
def w_:=(xh<|qe<|zc (fy (zq 0)<|zx<|.int 0)<|zc (ze 7)<|zc (zJ xv<|zc (ze 0)<|zc (ze 1)<|zc (ze 6)<|zc (ze 3) zG) zG)
def qA:=jo 8<|zS o_<|zS p_<|zS q_<|zS r_<|zS s_<|zS t_<|zS u_<|zS v_ w_
theorem V6{T:Tg}{F:CO Fl}{g:Nat->D}(P:Nat->Ctx->Prop)(n:Nat){γ:Ctx}(h0:P 0 γ)(step : ∀s,s<n->∀γ,P s γ->∃γ1 z,qm T (g s) γ=cI γ1/\F γ1=cI (.next z)/\P (s+1) z) :
 ∃γ',xl T F ((Nu n).map g) γ=cI (.next γ')/\P n γ':=by
 have O : ∀(k s:Nat) (γ:Ctx),s+k=n->P s γ->∃γ',xl T F ((SG s k).map g) γ=cI (.next γ')/\P n γ':=by
  intro k
  induction k with
  | zero=>
   intro s γ e I;obtain rfl:s=n:=by omega
   exact⟨γ,rfl,I⟩
  | succ k Y=>
   intro s γ e I;obtain⟨γ1,z,e1,e2,e3⟩:=step s ⋯ γ I;obtain⟨γ',q1,q2⟩:=Y (s+1) z ⋯ e3;refine⟨γ',?_,q2⟩;rw[RN,NY,jN,e1];simp only[Nx,e2];exact q1
 have:=O n 0 γ ⋯ h0;rw[<- Po]at this;exact this
section
variable{p:Int}{m:Nat}{w:DV}{wd p3:DK}{T T' S J X:DQ}
abbrev rx(p:Int)(m:Nat)(w:DV)(wd p3:DK)(T T' X:DQ)(r:Nat)(c6 c7 c8 c9 c10:Cell):Ctx:=
 [.val (.int p),.val<|.str<|xm m w,.val<|oa m w wd T,.val<|oa m w p3 T',.val<|.lst<|_v m (l5 w p3) (l7 w wd) λk i j=>X k j i,.val<|.int (r:Int),c6,c7,c8,c9,c10]
def E9:=(jT 6<|xB<|zT (jH<|fy (zM<|fy (zq 3)<|zx<|.int 0)<|ze 5) (.nm 0) 1 [2,5] jS (xB<|Hn (qf<|yu<|zc (zx<|.int 0) zG)<|fy (zM<|fy (zq 1)<|zx<|.int 0)<|ze 2))
end
theorem Ex:yk=jo 6 (zS _b<|zS U0 _c):=rfl
theorem BB:qc=jo 6 (zS _z<|zS O2<|zS z_ A_):=rfl
theorem Es:qB=jo 2 U6:=rfl
theorem Et:jz=jo 4 (zS U3<|zS U4 U5):=rfl
theorem Fx:qW=jo 5 (zS R7 R8):=rfl
theorem FH:xv=jo 9 (zS Ma<|zS R5<|zS K_<|zS R6 L'):=rfl
theorem BJ:qA=jo 8 (zS o_<|zS p_<|zS q_<|zS r_<|zS s_<|zS t_<|zS u_<|zS v_ w_):=rfl
def mf(m k:Nat):List Nat:=(if 0<k then [k - 1]else [])++if k<m then [k]else []
theorem dM:Fg.map (λa=>qH [.str (wl a.1),.int (a.2:Int)])=Fg.map λa=>cI (.own<|(mf a.1.length a.2).map λ(i:Nat)=>D.int (i:Int)):=by kernel_rfl
def JC(l:List Bool)(k:Nat):Bool:=(k==0 || l[k - 1]? == cI d7) && (k==l.length || l[k]? == cI cL)
theorem df:Fg.map (λa=>wz [.str (wl a.1),.int (a.2:Int)])=Fg.map λa=>cI (.val<|.bl<|JC a.1 a.2):=by kernel_rfl
section
variable{p:Int}{w:DV}{wd:DK}{T:DQ}{m k:Nat}
theorem Wj(hm:m<=5)(hk:k<=m):qH [.str (xm m w),.int (k:Int)]=cI (.own<|(mf m k).map λ(i:Nat)=>D.int (i:Int)):=by have q:=aE dM (kM (l:=(Nu m).map w) (k:=k) (by simpa using hm)<|by simpa using hk);dsimp only at q;rw[NV,Oo]at q;rw[ZJ];exact q
theorem V1(hm:m<=5)(hk:k<=m):wz [.str (xm m w),.int (k:Int)]=cI (.val<|.bl<|JC ((Nu m).map w) k):=by have q:=aE df (kM (l:=(Nu m).map w) (k:=k) (by simpa using hm)<|by simpa using hk);rw[ZJ];exact q
theorem Xt(hk:k<=m):JC ((Nu m).map w) k=cL↔(0<k->w (k - 1)=d7)/\(k<m->w k=cL):=by
 unfold JC;simp only[NV,Oo,NI,OZ,beq_iff_eq,NT];constructor
 ·rintro⟨h1,h2⟩
  refine⟨λh0=>?_,λh0=>?_⟩
  ·rcases h1 with z | z
   ·omega
   ·rw[ON ⋯]at z;simpa using z
  ·rcases h2 with z | z
   ·omega
   ·rw[ON h0]at z;simpa using z
 ·rintro⟨h1,h2⟩
  refine⟨?_,?_⟩
  ·by_cases h0:0<k
   ·right;rw[ON ⋯];simp[h1 h0]
   ·left;omega
  ·by_cases h0:k<m
   ·right;rw[ON h0];simp[h2 h0]
   ·left;omega
theorem AS(hk:k<=m)(I:J2 ((Nu m).map w) k=cL)(O:JC ((Nu m).map w) k=d7):(0<k->w (k - 1)=cL)/\(k<m->w k=d7):=by
 have h2 : ¬((0<k->w (k - 1)=d7)/\(k<m->w k=cL)):=λz=>by rw[(Xt hk).mpr z]at O;cases O
 have Y:0<k->k<m->w (k - 1)≠w k:=λh0 h1=>by
  unfold J2 at I;simp only[NV,Oo,OZ,beq_iff_eq,bne_iff_ne,NT]at I;rcases I with(z | z) | z
  ·omega
  ·omega
  ·rw[ON ⋯,ON h1]at z
   intro e;apply z;simp[e]
 refine⟨λh0=>?_,λh1=>?_⟩
 ·cases e:w (k - 1)with
  | true=>rfl
  | false=>
   exfalso;apply h2;refine⟨λ_=>e,λh1=>?_⟩;have:=Y h0 h1;rw[e]at this;cases e2:w k with
   | true=>rfl
   | false=>rw[e2]at this;exact absurd rfl this
 ·cases e:w k with
  | false=>rfl
  | true=>
   exfalso;apply h2;refine⟨λh0=>?_,λ_=>e⟩;have:=Y h0 h1;rw[e]at this;cases e2:w (k - 1)with
   | false=>rfl
   | true=>rw[e2]at this;exact absurd rfl this
def zd(e:Bool)(w:DV)(wd:DK)(T:DQ)(a:Nat):List D:=if e=cL then zV (l5 w wd a) (l7 w wd a) (λi j=>T a j i)else zV (l7 w wd a) (l5 w wd a) (T a)
theorem V2{n:Nat}(z : ∀k,wd k<=n)(a:Nat):l7 w wd a<=n/\l5 w wd a<=n:=by unfold l7 l5;constructor<;>(split<;>exact z _)
theorem Ah{n:Nat}(z : ∀k,wd k<=n)(e:Bool)(a:Nat):(zd e w wd T a).length<=n:=by
 unfold zd;cases e
 ·rw[DJ ⋯,Kw];exact(V2 z a).1
 ·rw[DZ rfl,Kw];exact(V2 z a).2
def GB:=(zS (jT 5<|fy (zM<|fy (zM<|fy (zq 0)<|zx<|.int 2)<|ze 4)<|zx<|.int 1)<|ni 3<|zM<|WV (sB<|ze 2) (fy (zM<|zJ jx<|zc (ze 5) zG)<|zx<|.int 2)<|fy (zq 5)<|zx<|.int 2)
theorem Ki(z : ∀k,wd k<=100)(e:Bool){a:Nat}(ha:a<m){acc:List D}(O:acc.length<=100)(c5:Cell)(k:Int) :
 GB [.val (qN p m w wd T),.val<|.int k,.val<|.bl e,.own acc,.val<|.int (a:Int),c5]=cI (.next [.val (qN p m w wd T),.val<|.int k,.val<|.bl e,.own<|acc++zd e w wd T a,.val<|.int (a:Int),.val (jU (l7 w wd a) (l5 w wd a)<|T a)]):=by
 have Y:=jy;obtain⟨h1,h2⟩:=V2 (w:=w) z a;have ov:=x9 (T a) (show l7 w wd a<=lim by omega) (show l5 w wd a<=lim by omega);have ag:=pV (w:=w) (wd:=wd) (T:=T) ha;have I:(qG m w wd T).length=m:=by simp[qG]
 unfold GB;refine zD (γ':=[.val (qN p m w wd T),.val<|.int k,.val<|.bl e,.own acc,.val<|.int (a:Int),.val (jU (l7 w wd a) (l5 w wd a)<|T a)]) ?_ ?_
 ·simp[yD,Vg,jB,I,ha,lJ]
 ·rw[Bh]
  cases e with
  | true=>
   have b1:acc.length+l5 w wd a<=lim:=by omega
   simp[ov,jU,jg,zd,qT,b1];simp[jU]at ov;simp[ov,jg,b1]
  | false=>
   have b1:acc.length+l7 w wd a<=lim:=by omega
   simp[jU,jg,zd,qT,b1]
theorem oG(z : ∀k,wd k<=100)(hm:m<=5)(hk:k<=m)(e:Bool):yk [qN p m w wd T,.int (k:Int),.bl e]=cI (.val<|.tup<|(mf m k).flatMap λa=>zd e w wd T a):=by
 have hl:=jy;have O:=Zj (p:=p) (w:=w) (wd:=wd) (T:=T) (show m<=900 by omega);have Y:=Wj (w:=w) hm hk;have go : ∃I c5,xl (.nm 4) GB ((mf m k).map λ(i:Nat)=>D.int (i:Int)) [.val (qN p m w wd T),.val<|.int k,.val<|.bl e,.own [],.no,.no]=cI (.next [.val (qN p m w wd T),.val<|.int k,.val<|.bl e,.own<|(mf m k).flatMap λa=>zd e w wd T a,I,c5]):=by
  unfold mf;by_cases h0:0<k
  ·by_cases h1:k<m
   ·have s1:=Ki (p:=p) (w:=w) (T:=T) z e (a:=k - 1) (m:=m) ⋯ (acc:=[]) ⋯ .no (k:Int)
    have s2:=Ki (p:=p) (w:=w) (T:=T) z e (a:=k) h1 (acc:=[]++zd e w wd T (k - 1)) (by simpa using Ah z e (k - 1)) (.val<|jU (l7 w wd<|k - 1) (l5 w wd<|k - 1)<|T<|k - 1) (k:Int);refine⟨.val<|.int (k:Int),.val<|jU (l7 w wd k) (l5 w wd k)<|T k,?_⟩;rw[DZ h0,DZ h1];show xl _ _ [.int ((k - 1:Nat):Int),.int (k:Int)] _=_;rw[jN];show(GB [.val (qN p m w wd T),.val<|.int k,.val<|.bl e,.own [],.val<|.int ((k - 1:Nat):Int),.no]).bind _=_;rw[s1,Nx];show xl _ _ [.int (k:Int)] _=_;rw[jN];show(GB [.val (qN p m w wd T),.val<|.int k,.val<|.bl e,.own<|[]++zd e w wd T (k - 1),.val<|.int (k:Int),_]).bind _=_;rw[s2,Nx];simp[xl]
   ·have s1:=Ki (p:=p) (w:=w) (T:=T) z e (a:=k - 1) (m:=m) ⋯ (acc:=[]) ⋯ .no (k:Int)
    refine⟨.val<|.int ((k - 1:Nat):Int),.val<|jU (l7 w wd<|k - 1) (l5 w wd<|k - 1)<|T<|k - 1,?_⟩;rw[DZ h0,DJ h1];show xl _ _ [.int ((k - 1:Nat):Int)] _=_;rw[jN];show(GB [.val (qN p m w wd T),.val<|.int k,.val<|.bl e,.own [],.val<|.int ((k - 1:Nat):Int),.no]).bind _=_;rw[s1,Nx];simp[xl]
  ·by_cases h1:k<m
   ·have s1:=Ki (p:=p) (w:=w) (T:=T) z e (a:=k) h1 (acc:=[]) ⋯ .no (k:Int)
    refine⟨.val<|.int (k:Int),.val<|jU (l7 w wd k) (l5 w wd k)<|T k,?_⟩;rw[DJ h0,DZ h1];show xl _ _ [.int (k:Int)] _=_;rw[jN];show(GB [.val (qN p m w wd T),.val<|.int k,.val<|.bl e,.own [],.val<|.int (k:Int),.no]).bind _=_;rw[s1,Nx];simp[xl]
   ·refine⟨.no,.no,?_⟩
    rw[DJ h0,DJ h1];rfl
 obtain⟨I,c5,go⟩:=go;rw[Ex];refine qD<|zD (γ':=[.val (qN p m w wd T),.val<|.int k,.val<|.bl e,.own [],.no,.no]) rfl<|zD (γ':=[.val (qN p m w wd T),.val<|.int k,.val<|.bl e,.own<|(mf m k).flatMap λa=>zd e w wd T a,I,c5]) ?_ rfl;unfold U0;rw[JM];have src:zQ (zM<|xB<|qj qH<|zc (zJ kW<|zc (ze 0) zG)<|zc (ze 1) zG) [.val (qN p m w wd T),.val<|.int k,.val<|.bl e,.own [],.no,.no]=cI ((mf m k).map λ(i:Nat)=>D.int (i:Int)):=by simp[O,Y,jg]
 rw[src];exact go
end
section
variable{p:Int}{n r:Nat}{Bs:Nat->Vc}{ls:DK}
def VT(p:Int)(Bs:Nat->Vc)(ls:DK)(v:Vc)(s:Nat):Vc:=λx=>(v x - zf (λj=>v (ls j)*Bs j x) s)%p
theorem iH(hb:nr p n r Bs ls):(ox n r ls).length+r=n:=by
 have h1:((ox n r ls).length:Int)=zf (λi=>if (!aM r ls i)=cL then 1 else 0) n:=by
  have:=xf (λi=> !aM r ls i) (λ_=>1) n;rw[<- this];have : ∀k:Nat,zf (λ_=>1) k=(k:Int):=λk=>by
   induction k with
   | zero=>rfl
   | succ k O=>show zf _ k+1=_;rw[O];omega
  rw[this];rfl
 have inj : ∀{a b:Nat},a<r->b<r->ls a=ls b->a=b:=λ{a b} ha a1 e=>by
  rcases Sg a b with z | z | z
  ·have:=hb.mono a b z a1;omega
  ·exact z
  ·have:=hb.mono b a z ha;omega
 have h2 : ∀i,(if (!aM r ls i)=cL then (1:Int)else 0)+zf (λj=>if ls j=i then 1 else 0) r=1:=λi=>by
  cases h:aM r ls i with
  | false=>
   rw[zk (g:=λ_=>0) λj I=>DJ λz=>by(rw[Lz.mpr ⟨j,I,z⟩]at h;cases h),zz];rfl
  | true=>
   obtain⟨j,I,e⟩:=Lz.mp h;rw[zK (i:=j) I λc hc Y=>DJ λz=>Y (inj hc I<|by rw[z,e]),DZ e];rfl
 have h3:zf (λi=>(if (!aM r ls i)=cL then (1:Int)else 0)+zf (λj=>if ls j=i then 1 else 0) r) n=n:=by
  rw[zk (g:=λ_=>1) λi _=>h2 i];generalize n=k
  induction k with
  | zero=>rfl
  | succ k O=>show zf _ k+1=_;rw[O];omega
 rw[jf,<- h1,jY]at h3;have h4:zf (λj=>zf (λi=>if ls j=i then (1:Int)else 0) n) r=r:=by
  have:zf (λj=>zf (λi=>if ls j=i then (1:Int)else 0) n) r=zf (λ_=>1) r:=zk λj I=>by rw[zK (i:=ls j) (hb.lt j I) λc _ Y=>DJ<|OQ Y,DZ rfl]
  rw[this];generalize r=k
  induction k with
  | zero=>rfl
  | succ k O=>show zf _ k+1=_;rw[O];omega
 rw[h4]at h3;omega
theorem gZ(Y:Pr p)(hn:n<=100)(hb:nr p n r Bs ls){i:Nat}:qc [.int p,.lst<|zV r n Bs,.tup (zR n<|jF i)]=cI (.val<|.tup<|zR (ox n r ls).length λc=>E4 p n r Bs ls c i):=by
 have hl:=jy;have p0:=Y.pos;have O:n<=lim:=by omega
 have zcq:=wJ hb;have a2:r<=lim:=by omega
 have ld : ∀j,j<r->xy [.tup (zR n<|Bs j)]=cI (.val<|.int<|ls j):=λj z=>lY O (Bs j) (hb.lt j z) (λi hi=>hb.u9 j i z hi) (by rw[hb.one j z];decide);let v:Vc:=jF i;have vr : ∀x,0<=v x/\v x<p:=λx=>by have:=Y.two;show 0<=(if _ then (1:Int)else 0)/\(if _ then (1:Int)else 0)<p;split<;>omega
 have e0:zR n v=zR n (VT p Bs ls v 0):=y8 λx _=>by show v x=(v x - 0)%p;rw[UP,Rh (vr x).1 (vr x).2]
 have a4 : ∀j,j<r->j3 [.int p,.tup<|zR n<|VT p Bs ls v j,.tup<|zR n<|Bs j,.int (ls j)]=cI (.val<|.tup<|zR n<|VT p Bs ls v<|j+1):=λj z=>by
  rw[yU Y O (hb.lt j z) (VT p Bs ls v j) (Bs j) λx _=>⟨Ot _ ⋯,Oe _ p0⟩];congr 3;refine y8 λx _=>?_;have el:VT p Bs ls v j (ls j)=v (ls j)%p:=by show(v (ls j) - _)%p=_;rw[zk (g:=λ_=>0) λc hc=>by rw[hb.p9 c j ⋯ z ⋯];simp,zz,UP]
  show((v x - zf (λj=>v (ls j)*Bs j x) j)%p - VT p Bs ls v j (ls j)*Bs j x)%p=(v x - (zf (λj=>v (ls j)*Bs j x) j+v (ls j)*Bs j x))%p;rw[el,RI,Ou,gN,<- RI];congr 1;omega
 have L : ∃I,O2 [.val (.int p),.val<|.lst<|zV r n Bs,.val<|.tup<|zR n v,.val<|.tup<|zR n v,.no,.no]=cI (.next [.val (.int p),.val<|.lst<|zV r n Bs,.val<|.tup<|zR n v,.val<|.tup<|zR n<|VT p Bs ls v r,I,.no]):=by
  unfold O2;rw[JM];show ∃I,Sl (cI (zV r n Bs)) _=_;rw[Nx];obtain⟨γ',e,I,rfl⟩:=V6 (T:= .nm 4) (g:=λj=>D.tup<|zR n<|Bs j) (F:=(jT 3<|zJ j3<|zc (ze 0)<|zc (ze 3)<|zc (ze 4)<|zc (zJ xy<|zc (ze 4) zG) zG))
   (λs γ=>∃I,γ=[.val (.int p),.val<|.lst<|zV r n Bs,.val<|.tup<|zR n v,.val<|.tup<|zR n<|VT p Bs ls v s,I,.no]) r (γ:=[.val (.int p),.val<|.lst<|zV r n Bs,.val<|.tup<|zR n v,.val<|.tup<|zR n v,.no,.no]) ⟨.no,by rw[<- e0]⟩ (by
   rintro s hs γ ⟨I,rfl⟩;refine⟨[.val (.int p),.val<|.lst<|zV r n Bs,.val<|.tup<|zR n v,.val<|.tup<|zR n<|VT p Bs ls v s,.val<|.tup<|zR n<|Bs s,.no],_,rfl,?_,.val<|.tup<|zR n<|Bs s,rfl⟩;simp[ld s hs,a4 s hs])
  exact⟨I,e⟩
 obtain⟨I,L⟩:=L;have e4:z7 (.nm 0) jS (zJ xy<|zc (ze 0) zG) [.no] (zV r n Bs)=cI ((Nu r).map λj=>D.int ((ls j:Nat):Int)):=by unfold zV;refine zA _ _ λj z=>zE rfl rfl ?_;simp[ld j (NA.mp z)]
 have e5:z7 (.tp [0,1]) (sB<|Vv (ze 0)<|zq 2) (ze 1) [.no,.no,.val (.lst<|(Nu r).map λj=>D.int ((ls j:Nat):Int))] ((Nu n).map λ(x:Nat)=>D.tup [.int x,.int (VT p Bs ls v r x)]) =
  cI (((Nu n).filter λ(c:Nat)=> !decide ((c:Int)∈(Nu r).map λj=>((ls j:Nat):Int))).map λ(x:Nat)=>D.int<|VT p Bs ls v r x):=by
  refine jR (λ(c:Nat)=> !decide ((c:Int)∈(Nu r).map λj=>((ls j:Nat):Int))) (λ(x:Nat)=>D.int<|VT p Bs ls v r x) _ λi hi=>⟨_,rfl,?_,λ_=>rfl⟩;have im:=Xq ls<|Nu r;show((Kl<|(Nu r).map λj=>D.int ((ls j:Nat):Int)).map λl=>D.bl<|!decide ((i:Int)∈l)).bind De=_;rw[im];rfl
 have e6:((Nu n).filter λ(c:Nat)=> !decide ((c:Int)∈(Nu r).map λj=>((ls j:Nat):Int)))=ox n r ls:=SH λc _=>by
  congr 1;rw[Pn,Lz,decide_eq_true_eq,Rf];constructor
  ·rintro⟨j,z,e⟩;exact⟨j,NA.mp z,by omega⟩
  ·rintro⟨j,z,e⟩;exact⟨j,NA.mpr z,by omega⟩
 rw[BB];refine qD<|zD (γ':=[.val (.int p),.val<|.lst<|zV r n Bs,.val<|.tup<|zR n v,.val<|.tup<|zR n v,.no,.no]) rfl<|zD L<|zD (γ':=[.val (.int p),.val<|.lst<|zV r n Bs,.val<|.tup<|zR n v,.val<|.tup<|zR n<|VT p Bs ls v r,I,.val (.lst<|(Nu r).map λj=>D.int ((ls j:Nat):Int))]) ?_ ?_
 ·simp[z_,jA,jg,a2,e4]
 ·have en:xF (zR n<|VT p Bs ls v r)=(Nu n).map λ(x:Nat)=>D.tup [.int x,.int (VT p Bs ls v r x)]:=by rw[jw,y6]
  have ae:(Nu n).length<=lim:=by simpa using O
  simp[A_,jA,en,O,qM];rw[e5,e6];simp only[NZ,zcc.injEq];rw[oC];rfl
end
theorem KA(xs:List D){a:Nat}(h:a<=xs.length):Zs xs cR (cI (a:Int))=xs.take a:=by
 have n1 : ¬((a:Int)<0):=by omega
 simp[Zs,QE,n1,RY h]
theorem Xu(xs:List D){a:Nat}(h:a<=xs.length):Zs xs (cI (a:Int)) cR=xs.drop a:=by
 have n1 : ¬((a:Int)<0):=by omega
 simp only[Zs,QE,n1,if_false,OF,RY h];rw[Pu (by rw[UN];omega)]
section
variable{p:Int}
theorem Ep(z:Pr p){n wk:Nat}(hn:n<=16)(hk:wk<=20)(M:DW) : ∃q K l,qB [.int p,jU n wk M]=cI (.val<|jU n q λi c=>K c i)/\nr p n q K l/\(∀v,Span p n (h9 q K) v↔I_ p wk n (λi j=>M j i) v):=by have I:=jy;obtain⟨q,K,l,s,e,hb,hs,O,Y⟩:=JQ z hk (show n<=20 by omega) λi j=>M j i;have ov:=x9 M (show n<=lim by omega) (show wk<=lim by omega);have co:=dD (q:=q) (h:=n) K ⋯ ⋯;refine⟨q,K,l,?_,hb,hs⟩;rw[Es];refine qD ?_;simp only[jU]at ov e co ⊢;simp[U6,jt,NB,jg,ov,e,co]
theorem Er(z:Pr p){n wk:Nat}(hn:n<=100)(hk:wk<=lim)(M:DW) : ∃r Bs ls,jz [.int p,jU n wk M]=cI (.val<|jU n (ox n r ls).length λi c=>E4 p n r Bs ls c i)/\nr p n r Bs ls/\(∀v,Span p n (h9 r Bs) v↔Span p n (h9 wk λj i=>M i j) v):=by
 have Y:=jy;obtain⟨r,Bs,ls,e,hb,hs⟩:=dQ z hn hk M;have I:n<=lim:=by omega
 have sa:=wo I;have fl:=iH hb;refine⟨r,Bs,ls,?_,hb,hs⟩;have O:z7 (.nm 0) jS (zJ qc<|zc (ze 1)<|zc (ze 2)<|zc (ze 0) zG) [.no,.val<|.int p,.val (.lst<|zV r n Bs)] (zV n n λi j=>if i=j then 1 else 0)=cI (zV n (ox n r ls).length λi c=>E4 p n r Bs ls c i):=by unfold zV;refine zA _ _ λi hi=>zE rfl rfl ?_;have:=gZ z hn hb (i:=i);show(qc [.int p,.lst<|zV r n Bs,.tup (zR n<|jF i)]).map Ce=_;rw[this];rfl
 rw[Et];refine qD<|zD (γ':=[.val (.int p),.val<|jU n wk M,.val<|.lst<|zV r n Bs,.no]) ?_ (zD (γ':=[.val (.int p),.val<|jU n wk M,.val<|.lst<|zV r n Bs,.val (.lst<|zV n (ox n r ls).length λi c=>E4 p n r Bs ls c i)]) ?_ ?_)
 ·simp[U3,jt,NB,e]
 ·simp only[jU]at sa ⊢
  simp[U4,jg,sa,jA,qM,I];rw[O]
 ·have e1:(n:Int) - (r:Int)=((ox n r ls).length:Int):=by omega
  simp[U5,jU,jg,e1]
theorem vj{h q:Nat}(z:h<=lim)(I:q<=lim)(b e:Bool)(f:DW):qW [.str (xc<|mm b),.int q,.tup<|zV h q f,.bl e]=cI (.val<|.tup [.str (xc<|mm !b),if e=cL then jU h q f else jU q h λi j=>f j i]):=by
 have ov:=x9 f z I;have O:=QG b;rw[Fx];refine qD<|zD (γ':=[.val (.str<|xc<|mm b),.val<|.int q,.val<|.tup<|zV h q f,.val<|.bl e,.val (jU h q f)]) ?_ ?_
 ·simp[R7,jt,NB,jg,jU]
 ·cases e<;>simp[R8,O,ov]
variable{w:DV}{wd:DK}{T:DQ}{m k n q:Nat}
def AO(k:Nat)(w:DV)(a:Nat):Bool:=if a+1=k\/a=k then !w a else w a
def qd(k q:Nat)(wd:DK)(r:Nat):Nat:=if r=k then q else wd r
theorem pq(i j:Int)(x y:D)(a:Int):aP [.int i,.int j] [x,y] a=if i=a then cI x else if j=a then cI y else cR:=by simp[aP]
end
section
variable{p:Int}{w:DV}{wd:DK}{T:DQ}{m k n q wl wr:Nat}
def YI(e:Bool)(k wl:Nat)(T:DQ)(i c:Nat):Int:=if i<wl then (if e=cL then T (k - 1) c i else T (k - 1) i c)else (if e=cL then T k c (i - wl)else T k (i - wl) c)
theorem gX(Y:wl=if 0<k then wd (k - 1)else 0)(I:wr=if k<m then wd (k+1)else 0)(hk:k<=m)(e:Bool)(hE:(0<k->w (k - 1) = !e)/\(k<m->w k=e)) :
 ((mf m k).flatMap λa=>zd e w wd T a)=zV (wl+wr) (wd k) (YI e k wl T):=by
 have L1:0<k->zd e w wd T (k - 1)=zV wl (wd k) (YI e k wl T):=λh0=>by
  have O:=hE.1 h0;have ek:k - 1+1=k:=by omega
  have el:wl=wd (k - 1):=by rw[Y,DZ h0]
  unfold zd l7 l5;rw[O,ek];cases e
  ·simp only[Bool.not_false,A3,if_false,if_true]
   rw[<- el];refine y9 λi j hi _=>?_;show _=if i<wl then _ else _;rw[DZ hi,DJ ⋯]
  ·simp only[Bool.not_true,A3,if_false,if_true]
   rw[<- el];refine y9 λi j hi _=>?_;show _=if i<wl then _ else _;rw[DZ hi,DZ rfl]
 have L2:k<m->zd e w wd T k=zV wr (wd k) λi=>YI e k wl T (wl+i):=λh0=>by
  have O:=hE.2 h0;have el:wr=wd (k+1):=by rw[I,DZ h0]
  unfold zd l7 l5;rw[O];cases e
  ·simp only[A3,if_false,if_true]
   rw[<- el];refine y9 λi j hi _=>?_;show _=if wl+i<wl then _ else _;rw[DJ ⋯,DJ ⋯,Oh]
  ·simp only[A3,if_false,if_true]
   rw[<- el];refine y9 λi j hi _=>?_;show _=if wl+i<wl then _ else _;rw[DJ ⋯,DZ rfl,Oh]
 unfold mf;by_cases h0:0<k
 ·by_cases h1:k<m
  ·rw[DZ h0,DZ h1]
   show zd e w wd T (k - 1)++(zd e w wd T k++[])=_;rw[PH,L1 h0,L2 h1];exact aX _ _ _ _ _ _ (λ_ _ _ _=>rfl) λ_ _ _ _=>rfl
  ·rw[DZ h0,DJ h1]
   show zd e w wd T (k - 1)++[]=_;rw[PH,L1 h0,I,DJ h1];rfl
 ·have z:wl=0:=by rw[Y,DJ h0]
  by_cases h1:k<m
  ·rw[DJ h0,DZ h1]
   show zd e w wd T k++[]=_;rw[PH,L2 h1,z,RX];refine y9 λi j _ _=>?_;rw[RX]
  ·rw[DJ h0,DJ h1,z,I,DJ h1]
   rfl
theorem JY(hk:k<=m)(hm:m<=5):qb (.tup<|Zs (zR (m+1) λr=>(wd r:Int)) cR (cI (k:Int))++[D.int (q:Int)]) (.tup<|Zs (zR (m+1) λr=>(wd r:Int)) (cI ((k:Int)+1)) cR)=cI (.tup<|zR (m+1) λr=>(qd k q wd r:Int)):=by
 have I:=jy;have e:((k:Int)+1)=((k+1:Nat):Int):=by omega
 rw[e,KA _ (by simp;omega),Xu _ (by simp;omega)];have e2:(zR (m+1) λr=>(wd r:Int)).take k++[D.int (q:Int)]++(zR (m+1) λr=>(wd r:Int)).drop (k+1)=zR (m+1) λr=>(qd k q wd r:Int):=by
  refine RG λi=>?_;rcases Sg i k with h | h | h
  ·rw[Sd,Oi (by simp;omega),List.getElem?_take_of_lt h,xQ _ ⋯,xQ _ ⋯]
   simp[qd,show i≠k by omega]
  ·subst h
   rw[Sd,Dt (by simp;omega),xQ _ ⋯];simp[qd,RY (show i<=m+1 by omega)]
  ·rw[Dt (by simp;omega)]
   have el:((zR (m+1) λr=>(wd r:Int)).take k++[D.int (q:Int)]).length=k+1:=by simp;omega
   rw[el,List.getElem?_drop,show k+1+(i - (k+1))=i by omega];by_cases h2:i<m+1
   ·rw[xQ _ h2,xQ _ h2];simp[qd,show i≠k by omega]
   ·rw[Px (by simp;omega),Px (by simp;omega)]
 have z:((zR (m+1) λr=>(wd r:Int)).take k++[D.int (q:Int)]).length+((zR (m+1) λr=>(wd r:Int)).drop (k+1)).length<=lim:=by simp;omega
 show(if _<=lim then cI (D.tup<|_++_)else cR)=_;rw[DZ z,e2]
theorem Ys{n:Nat}{G:Vc->Prop}{z v:Vc}(h:Span p n G v)(I : ∀g,G g->zf (λi=>z i*g i) n%p=0):zf (λi=>z i*v i) n%p=0:=by
 induction h with
 | @zero v h=>
  rw[zy (g:=λ_=>0) λi hi=>by rw[ND,h i hi];simp,zz];simp
 | @step v w g c O hw h Y=>
  have e:zf (λi=>z i*v i) n%p=(zf (λi=>z i*w i) n+zf (λi=>z i*g i) n*c)%p:=by rw[<- jE,<- jf];refine zy λi hi=>?_;rw[xY rfl (h i hi),Sv,Rg,Pe c]
  rw[e,NS,Y,ND,I g O];simp
theorem gO(e:Bool)(z:Vc)(y:Nat):zf (λi=>YI e k wl T i y*z i) (wl+wr)=app (λi c=>if e=cL then T (k - 1) i c else T (k - 1) c i) wl z y+app (λi c=>if e=cL then T k i c else T k c i) wr (λc=>z<|wl+c) y:=by
 rw[K5];unfold app;congr 1
 ·exact zk λi hi=>by unfold YI;rw[DZ hi]
 ·exact zk λi hi=>by unfold YI;rw[DJ ⋯,Oh]
end
section
variable{p:Int}{w:DV}{wd:DK}{T:DQ}{m k n q wl wr:Nat}
def G5(e:Bool)(G:DW):Nat->Nat->Int:=if e=cL then G else λi c=>G c i
def AN(e:Bool)(k wl:Nat)(G:DW)(T:DQ)(a:Nat):Nat->Nat->Int:=if a+1=k then G5 e G else if a=k then G5 e λi=>G (wl+i)else T a
def Io:CO D:=WV (sB<|Bk (ze 7)<|ze 5) (zJ qW<|zc (fy (zq 8)<|zx<|.int 0)<|zc (fy (zq 2)<|zx<|.int 1)<|zc (Ca (ze 5)<|ze 7)<|zc (ze 3) zG)<|ze 8
theorem Zu(hn:n=wl+wr)(Y:wl=if 0<k then wd (k - 1)else 0)(a3:wr=if k<m then wd (k+1)else 0)(hm:m<=5)(hk:k<=m)(a9 : ∀k,wd k<=100)(hq:q<=100)(e:Bool)(hE:(0<k->w (k - 1) = !e)/\(k<m->w k=e))(G:DW) :
 xv [qN p m w wd T,.int (k:Int),jU n q G,.bl e]=cI (.val<|.tup<|qG m (AO k w) (qd k q wd)<|AN e k wl G T):=by
 have hl:=jy;have ar:wl<=100:=by rw[Y];split;exact a9 _;omega
 have as:wr<=100:=by rw[a3];split;exact a9 _;omega
 let P1:D:= .tup (zV wl q G);let P2:D:= .tup (zV wr q λi=>G<|wl+i);let O:D:= .sh [.int ((k:Int) - 1),.int (k:Int)] [P1,P2];have ac:Zs (zV n q G) cR (cI (wl:Int))=zV wl q G:=by rw[KA _ (by simp;omega),hn];unfold zV;rw[<- List.map_take,List.take_range,RY ⋯]
 have LK:Zs (zV n q G) (cI (wl:Int)) cR=zV wr q λi=>G (wl+i):=by rw[Xu _ (by simp;omega),hn];unfold zV;rw[<- List.map_drop,Po,List.drop_range',Po];exact List.ext_getElem ⋯ λi h1 h2=>by simp
 have pd:jg (jU n q G)=cI (.T,[.int n,.int q,.tup (zV n q G)]):=rfl;let z:List D->Cell->Cell->Ctx:=λL c7 c8=>[.val (qN p m w wd T),.val<|.int k,.val<|jU n q G,.val<|.bl e,.val<|.int wl,.val O,.own L,c7,c8];let A:=λs=>qG s (AO k w) (qd k q wd)<|AN e k wl G T;have gi:=pq ((k:Int) - 1) k P1 P2;have one : ∀a,a<m->∀L,Io (z L (.val<|.int (a:Int))<|.val<|yP w wd T a)=cI (yP (AO k w) (qd k q wd) (AN e k wl G T) a):=λa ha L=>by
  by_cases h1:a+1=k
  ·have ew:=hE.1 ⋯
   have ea:k - 1=a:=by omega
   rw[DZ ⋯,ea]at Y;rw[ea]at ew;have ae:=vj (h:=wl) (q:=q) ⋯ ⋯ (w a) e G;have er:(.tup [.str (xc<|mm !w a),if e=cL then jU wl q G else jU q wl λi j=>G j i]:D)=yP (AO k w) (qd k q wd) (AN e k wl G T) a:=by
    have u1:a≠k:=by omega
    cases e<;>simp[yP,l7,l5,AO,qd,AN,G5,h1,ew,u1,Y]
   have I:=gi a;rw[DZ ⋯]at I;rw[<- er];simp[Io,z,Bk,Ca,O,I,Vg,pd,P1,ae]
  ·by_cases h2:a=k
   ·subst h2
    have ew:=hE.2 ha;rw[DZ ha]at a3;have ae:=vj (h:=wr) (q:=q) ⋯ ⋯ (w a) e λi=>G<|wl+i;have er:(.tup [.str (xc<|mm !w a),if e=cL then jU wr q (λi=>G<|wl+i)else jU q wr λi j=>G (wl+j) i]:D)=yP (AO a w) (qd a q wd) (AN e a wl G T) a:=by cases e<;>simp[yP,l7,l5,AO,qd,AN,G5,ew,a3]
    have I:=gi a;rw[DJ ⋯,DZ rfl]at I;rw[<- er];simp[Io,z,Bk,Ca,O,I,Vg,pd,P2,ae]
   ·have er:yP (AO k w) (qd k q wd) (AN e k wl G T) a=yP w wd T a:=by
     simp[yP,l7,l5,AO,qd,AN,h1,h2]
    have I:=gi a;rw[DJ ⋯,DJ ⋯]at I;rw[er];simp[Io,z,Bk,O,I]
 have Lp : ∃c7 c8,R6 (z [] .no .no)=cI (.next<|z (A m) c7 c8):=by
  show ∃c7 c8,J3 _ _ (jZ 6 Io) _=_;rw[JM];have src:Vw (fy (zq 0)<|zx<|.int 2) (z [] .no .no)=cI ((Nu m).map λ(k:Nat)=>D.tup [.int k,yP w wd T k]):=by rw[<- y6];rfl
  rw[src,Nx];obtain⟨γ',eq,c7,c8,rfl⟩:=V6 (T:= .tp [7,8]) (F:=jZ 6 Io) (g:=λ(a:Nat)=>D.tup [.int a,yP w wd T a]) (λs γ=>∃c7 c8,γ=z (A s) c7 c8) m ⟨.no,.no,rfl⟩ (by
   rintro s hs γ ⟨c7,c8,rfl⟩;refine⟨z (A s) (.val<|.int (s:Int))<|.val<|yP w wd T s,z (A<|s+1) (.val<|.int (s:Int))<|.val<|yP w wd T s,rfl,?_,_,_,rfl⟩;have ak:(A s).length<lim:=by simp[A,qG];omega
   rw[Vi,one s hs];show(if (A s).length<lim then cI (Fl.next<|z (A s++[_]) _ _)else cR)=_;rw[DZ ak];simp[A,qG,PD])
  exact⟨c7,c8,eq⟩
 obtain⟨c7,c8,Lp⟩:=Lp;rw[FH];refine qD<|zD (γ':=[.val (qN p m w wd T),.val<|.int k,.val<|jU n q G,.val<|.bl e,.val<|.int wl,.no,.no,.no,.no]) ?_ (zD (γ':=[.val (qN p m w wd T),.val<|.int k,.val<|jU n q G,.val<|.bl e,.val<|.int wl,.val O,.no,.no,.no]) ?_ (zD (γ':=z [] .no .no) rfl<|zD Lp rfl))
 ·rw[Y]
  by_cases h0:0<k
  ·have a8:(0:Int)<(k:Int):=by omega
   have e1:(k:Int) - 1=((k - 1:Nat):Int):=by omega
   have h2:k - 1<m+1:=by omega
   simp[Ma,jt,NB,yD,h0,a8,e1,jB,h2]
  ·have a8 : ¬(0:Int)<(k:Int):=by omega
   simp[Ma,jt,NB,h0,a8]
 ·have h3 : ¬(k:Int) - 1=(k:Int):=by omega
  simp[R5,Hv,pd,ac,LK,h3,O,P1,P2]
end
section
variable{p:Int}{w w':DV}{wd p3:DK}{T T':DQ}{m N k q n wl wr:Nat}{A:Nat->m6}{B:Nat->Vc}{l:DK}
theorem Xs(z:Pr p)(D:rn p w wd T m N A)(E:L9 p w w' wd p3 T T' m k q wl wr B l) : ∃N' A',rn p w' p3 T' m N' A'/\vV A' N'=C0 k (vV A N)/\N'<=N:=⟨_,_,px z D E,pw D,by
 have:=Rw (vc k A)<|Nu N;rw[Oo]at this;exact this⟩
theorem dF(z:Pr p)(I : ∀k,wd k<=8)(hN:N<=8)(D:rn p w wd T m N A)(E:P8 p w w' wd p3 T T' m k q wl wr B l) : ∃N' A',rn p w' p3 T' m N' A'/\vV A' N'=C0 k (vV A N)/\N'<=N:=by
 obtain⟨g,Dd⟩:=Y0 z I D;obtain⟨N',A',O,e',a2⟩:=Xs z Dd E.j?;have hq:q<=N':=by rw[<- E.DN,<- O.cnt k E.km];have:=Rw (λj=>(A' j).has k)<|Nu N';rw[Oo]at this;exact this
 obtain⟨g',Y⟩:=Y0 z (wd:=p3) (λr=>by
  by_cases h:r=k
  ·rw[h,E.DN];omega
  ·rw[E.Dz r h];exact I r) O
 refine⟨N',V8 A' N' g',?_,?_,a2⟩
 ·have e:(λk=> !(λk=> !w' k) k)=w':=funext λk=>by simp
  rw[e]at Y;exact Y
 ·rw[YZ,e',YZ]
theorem lT(hp:Pr p)(hm:m<=5)(hk:k<=m)(ag : ∀k,wd k<=8)(hT : ∀a x y,0<=T a x y/\T a x y<p)(a9:wl=if 0<k then wd (k - 1)else 0)(ab:wr=if k<m then wd (k+1)else 0)(hn:wl+wr<=16)(ht:J2 ((Nu m).map w) k=cL)
 (bm : ∀q,q<=wl+wr->zf (λr=>(qd k q wd r:Int)) (m+1)<=30) :
 ∃q T',qA [qN p m w wd T,.int (k:Int)]=cI (.val<|qN p m (AO k w) (qd k q wd) T')/\(∀a x y,0<=T' a x y/\T' a x y<p)/\q<=wl+wr/\∀{N:Nat} {A:Nat->m6},rn p w wd T m N A->N<=8->∃N' A',rn p (AO k w) (qd k q wd) T' m N' A'/\vV A' N'=C0 k (vV A N)/\N'<=N:=by
 have hl:=jy;have p0:=hp.pos;have zar:=Zj (p:=p) (w:=w) (wd:=wd) (T:=T) (show m<=900 by omega);have an:=JJ (l:=(Nu m).map w) (k:=k) (by simpa using hm) (by simpa using hk) ht;rw[<- ZJ]at an;have ie:=V1 (w:=w) hm hk;have c7:=ag k;have ar : ∀k,wd k<=100:=λk=>by have:=ag k;omega
 have as : ∀(e:Bool) (G:DW) (q:Nat),q<=wl+wr->JC ((Nu m).map w) k=e->((0<k->w (k - 1) = !e)/\(k<m->w k=e))->
  (if e=cL then qB [.int p,jU (wl+wr) (wd k) (YI e k wl T)]else jz [.int p,jU (wl+wr) (wd k) (YI e k wl T)])=cI (.val<|jU (wl+wr) q G)->
  qA [qN p m w wd T,.int (k:Int)]=cI (.val<|qN p m (AO k w) (qd k q wd)<|AN e k wl G T):=λe G q O he hE hF=>by
  have li:=oG (p:=p) (w:=w) (T:=T) ar hm hk e;rw[gX a9 ab hk e hE]at li;have aa:=Zu (T:=T) (p:=p) (q:=q) rfl a9 ab hm hk ar ⋯ e hE G;rw[he]at ie;let I:Cell->Cell->Cell->Cell->Cell->Cell->Ctx:=λa b c d f g=>[.val (qN p m w wd T),.val<|.int k,a,b,c,d,f,g];let W:Cell:= .val (.str<|xm m w);let E:Cell:= .val (.bl e);let Y:Cell:= .val (.tup<|zV (wl+wr) (wd k)<|YI e k wl T);let OL:Cell:= .val (jU (wl+wr) (wd k)<|YI e k wl T);let NW:Cell:= .val (jU (wl+wr) q G);let WD:D:= .tup (zR (m+1) λr=>(qd k q wd r:Int));rw[BJ];refine qD<|zD (γ':=I W .no .no .no .no .no) ?_ (zD (γ':=I W .no .no .no .no .no) ?_ (zD (γ':=I W E .no .no .no .no) ?_ (zD (γ':=I W E Y .no .no .no) ?_ (zD (γ':=I W E Y OL .no .no) ?_ (zD (γ':=I W E Y OL NW .no) ?_ (zD (γ':=I W E Y OL NW<|.val WD) ?_ (zD (γ':=I W E Y OL NW<|.val WD) ?_ ?_)))))))
  ·simp[o_,jt,NB,zar,I,W]
  ·simp[p_,I,W,an]
  ·simp[q_,I,W,ie,E]
  ·simp[r_,I,E,li,Y]
  ·have h2:k<m+1:=by omega
   have pl:jg (.tup<|zV (wl+wr) (wd k)<|YI e k wl T)=cI (.T,zV (wl+wr) (wd k)<|YI e k wl T):=rfl;simp[s_,I,yD,jB,h2,Y,pl,OL,jU]
  ·cases e<;>simp at hF<;>simp[t_,I,E,yD,OL,NW,hF]
  ·have pd:jg (jU (wl+wr) q G)=cI (.T,[.int (wl+wr:Nat),.int q,.tup (zV (wl+wr) q G)]):=rfl
   have zah:=JY (wd:=wd) (q:=q) hk hm;have c2:qb (.tup<|Zs (zR (m+1) λr=>(wd r:Int)) cR<|some (k:Int)) (.tup [D.int (q:Int)])=cI (.tup<|Zs (zR (m+1) λr=>(wd r:Int)) cR (cI (k:Int))++[D.int (q:Int)]):=by show(if _<=lim then _ else cR)=_;rw[KA _ (by simp;omega),DZ (by simp;omega)]
   simp[u_,I,yD,NW,pd,c2,zah,WD]
  ·have c3 : ¬30<zf (λr=>(qd k q wd r:Int)) (m+1):=by have:=bm q O;omega
   have c4:xu [WD]=cI (.val .i5):=by simp[xu,jo,jt,NB,jg,WD,ZO,c3]
   simp[v_,I,c4]
  ·simp[w_,I,E,yD,NW,aa,WD]
   rfl
 have md : ∀x:Int,0<=x%p/\x%p<p:=λx=>⟨Ot _ ⋯,Oe _ p0⟩;have o7 : ∀(e:Bool) (G:DW),(∀i c,0<=G i c/\G i c<p)->∀a x y,0<=AN e k wl G T a x y/\AN e k wl G T a x y<p:=λe G hG a x y=>by
  unfold AN G5;cases e<;>simp only[A3,if_false,if_true]<;>repeat' split
  all_goals first | exact hG _ _ | exact hT a x y
 have f0:0<k->AO k w (k - 1) = !w (k - 1):=λh0=>DZ<|.inl ⋯;have f1:AO k w k = !w k:=DZ<|.inr rfl;have fo : ∀{e G} j,j≠k->j+1≠k->AO k w j=w j/\∀i c,AN e k wl G T j i c=T j i c:=λj h1 h2=>⟨DJ λz=>z.elim h2 h1,λi c=>by simp[AN,h1,h2]⟩;have g0 : ∀{e G},0<k->AN e k wl G T (k - 1)=G5 e G:=λh=>DZ ⋯;have g1 : ∀{e G},AN e k wl G T k=G5 e λi=>G (wl+i):=(DJ ⋯).trans (DZ rfl);cases he:JC ((Nu m).map w) k with
 | true=>
  obtain⟨a0,a1⟩:=(Xt hk).mp he;obtain⟨q,K,l,eF,hb,hs⟩:=Ep hp hn (show wd k<=20 by omega)<|YI cL k wl T;have O:=wJ hb;have hc : ∀{c i},c<q->i<wl+wr->K c i%p=K c i:=λh1 h2=>Rh (hb.o7 _ _ h1 h2).1 (hb.o7 _ _ h1 h2).2;rw[pA (g:=λi c=>K c i%p) λi c h1 h2=>(hc h2 h1).symm]at eF;refine⟨q,_,as cL _ q O he ⟨a0,a1⟩ eF,o7 cL _ λ_ _=>md _,O,λ{N A} D hN=>Xs hp D (B:=K) (l:=l) (q:=q) (wl:=wl) (wr:=wr) ⟨hk,a9,ab,λh0=>⟨a0 h0,by rw[f0 h0,a0 h0];rfl,λi c hi h2=>by rw[g0 h0];exact hc h2 ⋯⟩,λh1=>⟨a1 h1,by rw[f1,a1 h1];rfl,λi c hi h2=>by rw[g1];exact hc h2 ⋯⟩,λj hj=>fo j,DZ rfl,λr hr=>DJ hr,hb.wb,λz=>(hs z).trans (forall_congr' λy=>imp_congr_right λhy=>by rw[gO];rfl)⟩⟩
 | false=>
  obtain⟨a0,a1⟩:=AS hk ht he;obtain⟨r,Bs,ls,eF,hb,hs⟩:=Er hp (n:=wl+wr) ⋯ (show wd k<=lim by omega)<|YI d7 k wl T;have fl:=iH hb;have O:(ox (wl+wr) r ls).length<=wl+wr:=by omega
  refine⟨_,_,as d7 _ _ O he ⟨a0,a1⟩ eF,o7 d7 _ λ_ _=>md _,O,λ{N A} D hN=>dF hp ag hN D (B:=E4 p (wl+wr) r Bs ls) (l:=λc=>(ox (wl+wr) r ls).getD c 0) (wl:=wl) (wr:=wr) ⟨hk,a9,ab,λh0=>⟨a0 h0,by rw[f0 h0,a0 h0];rfl,λc i hc hi=>by rw[g0 h0];rfl⟩,λh1=>⟨a1 h1,by rw[f1,a1 h1];rfl,λc i hc hi=>by rw[g1];rfl⟩,λj hj=>fo j,DZ rfl,λr hr=>DJ hr,Ez hp,λz=>?_⟩⟩;rw[oK hb.wb];have mk : ∀y,zf (λi=>z i*YI d7 k wl T i y) (wl+wr)=app (λi c=>T (k - 1) c i) wl z y+app (λi c=>T k c i) wr (λc=>z<|wl+c) y:=λy=>by rw[zk (g:=λi=>YI d7 k wl T i y*z i) λi _=>Pe _ _,gO];rfl
  constructor
  ·intro h y hy
   rw[<- mk];exact Ys (v:=λi=>YI d7 k wl T i y) ((hs _).mpr (.gen ⟨y,hy,rfl⟩)) λg ⟨j,hj,e⟩=>by rw[e];exact h j hj
  ·intro h j hj
   exact Ys (v:=Bs j) ((hs _).mp (.gen ⟨j,hj,rfl⟩)) λg ⟨y,hy,e⟩=>by rw[e,mk];exact h y hy
end
theorem mO:ko=jo 4 (zS mS<|zS mQ mP):=rfl
def xr(a b c:Int):Int:=if a=b then c else if a=c then b else a
theorem bQ(a b c:Int):qV [.int a,.int b,.int c]=cI (.val<|.int<|xr a b c):=by
 unfold xr;by_cases h1:a=b
 ·simp[qV,jo,jt,jC,h1]
 ·by_cases h2:a=c
  ·subst h2
   have z : ¬a=b:=h1;simp[qV,jo,jt,jC,z]
  ·simp[qV,jo,jt,jC,h1,h2]
def J8(k:Int)(b:Int×Int):Bool:= !(b.1==k && b.2==k)
def F2(k:Int)(b:Int×Int):Int×Int:=(xr b.1 k<|k+1,xr b.2 (k - 1) k)
def jD(k:Int)(bs:List (Int×Int)):List (Int×Int):=(bs.filter<|J8 k).map (F2 k)
theorem w6(k bs):(jD k bs).length<=bs.length:=by unfold jD;rw[NV];exact Rw _ _
theorem KG{l:List Bool}{k:Nat}(h:l.length<=5)(hk:k<=l.length)(I:J2 l k=cL)(bs:List (Int×Int))(hb:bs.length<=60) :
 ko [.str (wl l),.int (k:Int),.lst (zB bs)]=cI (.own<|zB<|vq<|jD k bs):=by
 have hl:=jy;have e1:=JJ h hk I;have O:bs.length<=lim:=by omega
 have Y:z7 (.nm 0) (fG (sB<|zw ow (fy (zq 0)<|zx<|.int 0)<|ze 1)<|sB<|zw ow (fy (zq 0)<|zx<|.int 1)<|ze 1) (ze 0) [Cell.no,Cell.val (.int (k:Int))] (bs.map λb=>D.tup [.int b.1,.int b.2])=cI ((bs.filter<|J8 k).map λb=>D.tup [.int b.1,.int b.2]):=by
  refine jR _ _ _ λb _=>⟨[Cell.val (.tup [.int b.1,.int b.2]),Cell.val (.int (k:Int))],rfl,?_,λ_=>rfl⟩;unfold J8;by_cases h1:b.1=(k:Int)
  ·by_cases h2:b.2=(k:Int)
   ·simp[jg,p8,h1,h2]
   ·simp[jg,p8,h1,h2]
  ·simp[jg,p8,h1]
 have z:z7 (.tp [0,1]) jS (qe<|zc (zJ qV<|zc (ze 0)<|zc (ze 2)<|zc (zw qb (ze 2)<|zx<|.int 1) zG)<|zc (zJ qV<|zc (ze 1)<|zc (zw yN (ze 2)<|zx<|.int 1)<|zc (ze 2) zG) zG) [Cell.no,Cell.no,Cell.val (.int (k:Int))] ((bs.filter<|J8 k).map λb=>D.tup [.int b.1,.int b.2])=cI ((bs.filter<|J8 k).map λb=>D.tup [.int (F2 k b).1,.int (F2 k b).2]):=by refine zA _ _ λb _=>zE rfl rfl ?_;show qe _ [Cell.val (.int b.1),Cell.val<|.int b.2,Cell.val (.int (k:Int))]=_;simp[bQ,F2]
 have k3:(bs.filter<|J8 k).map (λb=>D.tup [.int (F2 k b).1,.int (F2 k b).2])=zB (jD k bs):=by unfold zB jD;rw[OO];rfl
 rw[k3]at z;have fl:=Rw (J8 k) bs;have a1:(bs.filter<|J8 k).length<=lim:=by omega
 have al:=w6 k bs;have so:=ZS (bs:=jD k bs) ⋯;have s1:mS (jt 4 [.str (wl l),.int (k:Int),.lst (zB bs)])=cI (.next [.val (.str<|wl l),.val<|.int (k:Int),.val<|.lst<|zB bs,.no]):=by unfold mS;simp[jt,NB,e1]
 have s2:mQ [.val (.str<|wl l),.val<|.int (k:Int),.val<|.lst<|zB bs,.no]=cI (.next [.val (.str<|wl l),.val<|.int (k:Int),.val<|.lst<|zB bs,.val (.lst<|zB<|bs.filter<|J8 k)]):=by unfold mQ;simp[jg,jA,qM,NB,O];unfold zB;rw[Y]
 have s3:mP [.val (.str<|wl l),.val<|.int (k:Int),.val<|.lst<|zB bs,.val (.lst<|zB<|bs.filter<|J8 k)]=cI (.ret<|.own<|zB<|vq<|jD k bs):=by unfold mP;simp[jg,jA,qM,NB,a1];rw[show zB (bs.filter<|J8 k)=(bs.filter<|J8 k).map λb=>D.tup [.int b.1,.int b.2]from rfl,z];simp[so]
 rw[mO];exact qD<|zD s1<|zD s2 s3
theorem dP(k:Int)(b bs):jD k (b::bs)=jD k [b]++jD k bs:=by unfold jD;rw[show b::bs=[b]++bs from rfl,Te,OM]
theorem aV(a b c d:Int):n6 (.tup [.int a,.int b]) (.tup [.int c,.int d])=(a==c && b==d):=by simp[n6,B9,T_]
theorem YB : ∀bs:List (Int×Int),ve (zB bs)=cL
 | []=>rfl
 | b::bs=>by have z:=YB bs;unfold zB at z ⊢;rw[NY];show(vb _ && ve _)=cL;rw[z];rfl
theorem mK:ym=jo 5 (zS tE<|zS tD mM):=rfl
def LO:=(oy (qX (sB<|zw B8 (ze 3)<|ze 0)<|sB<|zw kC (ze 4)<|ze 0) (jZ 2<|qe<|zc (ze 3)<|zc (zw yN (ze 0)<|zx<|.int 1) zG)<|oy (qX (sB<|zw B8 (ze 3)<|ze 0)<|sB<|zw kC (ze 4)<|zw yN (ze 0)<|zx<|.int 1) (jZ 2<|qe<|zc (ze 3)<|zc (ze 0) zG)<|oy (qX (sB<|zw kC (ze 3)<|ze 0)<|sB<|zw yJ (ze 4)<|ze 0) (jZ 2<|qe<|zc (zw qb (ze 0)<|zx<|.int 1)<|zc (ze 4) zG)<|oy (qX (sB<|zw kC (ze 3)<|zw qb (ze 0)<|zx<|.int 1)<|sB<|zw yJ (ze 4)<|ze 0) (jZ 2<|qe<|zc (ze 0)<|zc (ze 4) zG)<|oy (sB<|zw ow (qe<|zc (ze 3)<|zc (ze 4) zG)<|qe<|zc (ze 0)<|zc (ze 0) zG) (jZ 2<|qe<|zc (ze 3)<|zc (ze 4) zG) xw)
theorem bf(a b c d:Int):ow (.tup [.int a,.int b]) (.tup [.int c,.int d])=cI (.bl<|!(a==c && b==d)):=by have o : ∀a b:Int,tu (.tup [.int a,.int b])=cL:=λa b=>rfl;unfold ow;rw[DZ ⟨o a b,o c d⟩,aV]
theorem Ve(a b):zB (a++b)=zB a++zB b:=by unfold zB;rw[OM]
theorem lG(i j:Int):zB [(i,j)]=[.tup [.int i,.int j]]:=rfl
theorem Ew{k i j:Int}(bd:i<=j)(z:Cell)(acc:List (Int×Int))(ha:acc.length<60):LO [.val (.int k),z,.own<|zB acc,.val<|.int i,.val (.int j)]=cI (.next [.val (.int k),z,.own<|zB<|acc++jD k [(i,j)],.val<|.int i,.val (.int j)]):=by
 have hl:=jy;have aa:acc.length<lim:=by omega
 have Y : ∀(f:CO D) (x y:Int),f [.val (.int k),z,.own<|zB acc,.val<|.int i,.val (.int j)]=cI (.tup [.int x,.int y])->jZ 2 f [.val (.int k),z,.own<|zB acc,.val<|.int i,.val (.int j)]=cI (.next [.val (.int k),z,.own<|zB<|acc++[(x,y)],.val<|.int i,.val (.int j)]):=λf x y h=>by rw[Ve,lG];simp[h,aa]
 have ab : ∀x y,J8 k (i,j)=cL->F2 k (i,j)=(x,y)->jD k [(i,j)]=[(x,y)]:=λx y h1 h2=>by unfold jD;simp[h1,h2]
 have a5 : ¬(i=k/\j=k)->J8 k (i,j)=cL:=λh=>by
  unfold J8;by_cases a:i=k
  ·have b : ¬j=k:=λe=>h ⟨a,e⟩
   simp[a,b]
  ·simp[a]
 unfold LO;by_cases h1:i<k/\j=k
 ·obtain⟨h1,a8⟩:=h1
  rw[ab i (k - 1) (a5 ⋯) (by show(xr i k<|k+1,xr j (k - 1) k)=_;unfold xr;rw[DJ ⋯,DJ ⋯,DJ ⋯,DZ a8])];rw[<- Y (qe<|zc (ze 3)<|zc (zw yN (ze 0)<|zx<|.int 1) zG) i (k - 1) ⋯,QF];have t:qX (sB<|zw B8 (ze 3)<|ze 0) (sB<|zw kC (ze 4)<|ze 0) [.val (.int k),z,.own<|zB acc,.val<|.int i,.val (.int j)]=cI cL:=by simp[h1,a8]
  rw[t];simp only[Nx,if_true]
 ·rw[QF]
  have t1:qX (sB<|zw B8 (ze 3)<|ze 0) (sB<|zw kC (ze 4)<|ze 0) [.val (.int k),z,.own<|zB acc,.val<|.int i,.val (.int j)]=cI d7:=by
   by_cases a:i<k
   ·have b : ¬j=k:=λe=>h1 ⟨a,e⟩
    simp[a,b]
   ·simp[a]
  rw[t1];simp only[Nx,A3,if_false];by_cases h2:i<k/\j=k - 1
  ·obtain⟨h2,a9⟩:=h2
   rw[ab i k (a5 ⋯) (by show(xr i k<|k+1,xr j (k - 1) k)=_;unfold xr;rw[DJ ⋯,DJ ⋯,DZ a9])];rw[<- Y (qe<|zc (ze 3)<|zc (ze 0) zG) i k ⋯,QF];have t:qX (sB<|zw B8 (ze 3)<|ze 0) (sB<|zw kC (ze 4)<|zw yN (ze 0)<|zx<|.int 1) [.val (.int k),z,.own<|zB acc,.val<|.int i,.val (.int j)]=cI cL:=by simp[h2,a9]
   rw[t];simp only[Nx,if_true]
  ·rw[QF]
   have t2:qX (sB<|zw B8 (ze 3)<|ze 0) (sB<|zw kC (ze 4)<|zw yN (ze 0)<|zx<|.int 1) [.val (.int k),z,.own<|zB acc,.val<|.int i,.val (.int j)]=cI d7:=by
    by_cases a:i<k
    ·have b : ¬j=k - 1:=λe=>h2 ⟨a,e⟩
     simp[a,b]
    ·simp[a]
   rw[t2];simp only[Nx,A3,if_false];by_cases I:i=k/\j>k
   ·obtain⟨I,ag⟩:=I
    have ak:k<j:=ag;rw[ab (k+1) j (a5 ⋯) (by show(xr i k<|k+1,xr j (k - 1) k)=_;unfold xr;rw[DZ I,DJ ⋯,DJ ⋯])];rw[<- Y (qe<|zc (zw qb (ze 0)<|zx<|.int 1)<|zc (ze 4) zG) (k+1) j ⋯,QF];have t:qX (sB<|zw kC (ze 3)<|ze 0) (sB<|zw yJ (ze 4)<|ze 0) [.val (.int k),z,.own<|zB acc,.val<|.int i,.val (.int j)]=cI cL:=by simp[I,ak]
    rw[t];simp only[Nx,if_true]
   ·rw[QF]
    have t3:qX (sB<|zw kC (ze 3)<|ze 0) (sB<|zw yJ (ze 4)<|ze 0) [.val (.int k),z,.own<|zB acc,.val<|.int i,.val (.int j)]=cI d7:=by
     by_cases a:i=k
     ·have b : ¬k<j:=λe=>I ⟨a,e⟩
      simp[a,b]
     ·simp[a]
    rw[t3];simp only[Nx,A3,if_false];by_cases O:i=k+1/\j>k
    ·obtain⟨O,an⟩:=O
     have ar:k<j:=an;rw[ab k j (a5 ⋯) (by show(xr i k<|k+1,xr j (k - 1) k)=_;unfold xr;rw[DJ ⋯,DZ O,DJ ⋯,DJ ⋯])];rw[<- Y (qe<|zc (ze 0)<|zc (ze 4) zG) k j ⋯,QF];have t:qX (sB<|zw kC (ze 3)<|zw qb (ze 0)<|zx<|.int 1) (sB<|zw yJ (ze 4)<|ze 0) [.val (.int k),z,.own<|zB acc,.val<|.int i,.val (.int j)]=cI cL:=by simp[O,ar]
     rw[t];simp only[Nx,if_true]
    ·rw[QF]
     have t4:qX (sB<|zw kC (ze 3)<|zw qb (ze 0)<|zx<|.int 1) (sB<|zw yJ (ze 4)<|ze 0) [.val (.int k),z,.own<|zB acc,.val<|.int i,.val (.int j)]=cI d7:=by
      by_cases a:i=k+1
      ·have b : ¬k<j:=λe=>O ⟨a,e⟩
       simp[a,b]
      ·simp[a]
     rw[t4];simp only[Nx,A3,if_false];by_cases h5:i=k/\j=k
     ·obtain⟨rfl,rfl⟩:=h5
      have e:jD j [(j,j)]=[]:=by unfold jD J8;simp
      rw[e,PH,QF];simp[bf]
     ·have nk:J8 k (i,j)=cL:=by
       unfold J8;by_cases a:i=k
       ·have b : ¬j=k:=λe=>h5 ⟨a,e⟩
        simp[a,b]
       ·simp[a]
      rw[ab i j nk (by
       show(xr i k<|k+1,xr j (k - 1) k)=_;unfold xr;have a1 : ¬i=k:=λe=>by
        by_cases g:k<j
        ·exact I ⟨e,g⟩
        ·exact h5 ⟨e,by omega⟩
       have a2 : ¬i=k+1:=λe=>O ⟨e,by omega⟩;have a3 : ¬j=k - 1:=λe=>h2 ⟨by omega,e⟩;have a4 : ¬j=k:=λe=>h1 ⟨by omega,e⟩;rw[DJ a1,DJ a2,DJ a3,DJ a4])]
      rw[<- Y (qe<|zc (ze 3)<|zc (ze 4) zG) i j ⋯,QF];unfold J8 at nk;simp only at nk;have:sB (zw ow (qe<|zc (ze 3)<|zc (ze 4) zG)<|qe<|zc (ze 0)<|zc (ze 0) zG) [.val (.int k),z,.own<|zB acc,.val<|.int i,.val (.int j)]=cI cL:=by
       have l2:2<=lim:=by omega
       have dn:ow (.tup [.int i,.int j]) (.tup [.int k,.int k])=cI (.bl cL):=by rw[bf,nk]
       simp[l2,dn]
      rw[this];simp
theorem Xh{k:Int}(z:Cell) : ∀(bs acc:List (Int×Int)) (I O:Cell),(∀b∈bs,b.1<=b.2)->acc.length+bs.length<=60->∃Y a0,xl (.tp [3,4]) LO (zB bs) [.val (.int k),z,.own<|zB acc,I,O]=cI (.next [.val (.int k),z,.own<|zB<|acc++jD k bs,Y,a0])
 | [],acc,I,O,_,_=>⟨I,O,by rw[show jD k []=[]from rfl,PH];rfl⟩
 | (i,j)::bs,acc,I,O,h,hl=>by have al:=w6 k [(i,j)];simp only[Od,PY]at hl al;obtain⟨Y,a0,q⟩:=Xh (k:=k) z bs (acc++jD k [(i,j)]) (.val<|.int i) (.val<|.int j) (λx hx=>h x<|NN _ hx) (by rw[Ol];omega);refine⟨Y,a0,?_⟩;rw[dP,<- Sd,<- q];have a1:qm (.tp [3,4]) (.tup [.int i,.int j]) [.val (.int k),z,.own<|zB acc,I,O]=cI [.val (.int k),z,.own<|zB acc,.val<|.int i,.val (.int j)]:=rfl;show xl (.tp [3,4]) LO (.tup [.int i,.int j]::zB bs) _=_;rw[jN,a1];simp only[Nx];rw[Ew (h (i,j) NL) z acc ⋯];rfl
theorem Af{k:Int}(bs:List (Int×Int))(h : ∀b∈bs,b.1<=b.2)(O:bs.length<=60):ym [.int k,.lst (zB bs)]=cI (.own<|zB<|vq<|jD k bs):=by
 have al:=w6 k bs;have Y:=ZS (bs:=jD k bs) ⋯;obtain⟨z,I,q⟩:=Xh (k:=k) (.val<|.lst<|zB bs) bs [] .no .no h (by simpa using O);rw[List.nil_append]at q;have s1:tE (jt 5 [.int k,.lst (zB bs)])=cI (.next [.val (.int k),.val<|.lst<|zB bs,.own<|zB [],.no,.no]):=rfl;have s2:tD [.val (.int k),.val<|.lst<|zB bs,.own<|zB [],.no,.no]=cI (.next [.val (.int k),.val<|.lst<|zB bs,.own<|zB<|jD k bs,z,I]):=by show J3 _ _ LO _=_;rw[JM];exact q
 have s3:mM [.val (.int k),.val<|.lst<|zB bs,.own<|zB<|jD k bs,z,I]=cI (.ret<|.own<|zB<|vq<|jD k bs):=by unfold mM;simp[jg,Y]
 rw[mK];exact qD<|zD s1<|zD s2 s3
theorem oq(bs):tu (.lst<|zB bs)=cL:=Eh (n:=2) (by
 simp only[deep];have:DH (zB bs)<=1:=aY λd hd=>by simp only[zB,Rf]at hd;obtain⟨b,_,rfl⟩:=hd;simp[deep,DH]
 omega) ⋯ (by simp only[vb];exact YB bs)
def gV(p:Int)(a b:Nat)(c:Int)(v:Vc):Vc:=λi=>if i=b then (v b+c*v a)%p else v i
def qK(p:Int)(w:DV)(r a b:Nat)(c c':Int)(T:DQ):Nat->Nat->Nat->Int:=λk i j=>
 if jQ w k=r then (if i=b then (T k b j+c*T k a j)%p else T k i j)else if jG w k=r then (if j=a then (T k i a+c'*T k i b)%p else T k i j)else T k i j
def tK(p:Int)(r a b:Nat)(c:Int)(x:m6):m6:=⟨x.s,x.n,λr'=>if r'=r then gV p a b c (x.v r')else x.v r'⟩
theorem WS(p:Int)(r a b:Nat)(c:Int)(x:m6)(r':Nat):(tK p r a b c x).has r'=x.has r':=rfl
theorem w5(w:DV)(k:Nat):jG w k≠jQ w k:=by unfold jG jQ;split<;>omega
section
variable{p:Int}{w:DV}{wd:DK}{T:DQ}{m N:Nat}{A:Nat->m6}{r a b:Nat}{c c':Int}
theorem kP(v:Vc)(i:Nat):gV p a b c v i%p=(v i+(if i=b then c*v a else 0))%p:=by
 unfold gV;by_cases h:i=b
 ·rw[DZ h,DZ h,Ou,h]
 ·rw[DJ h,DJ h,RZ]
theorem EW(z:0<p){v:Vc}{n:Nat}(h : ∀i,i<n->0<=v i/\v i<p) : ∀i,i<n->0<=gV p a b c v i/\gV p a b c v i<p:=λi hi=>by
 unfold gV;split
 ·exact⟨Ot _ ⋯,Oe _ z⟩
 ·exact h i hi
theorem Bb(ha:jQ w k=r)(n:Nat)(v:Vc)(i:Nat):app (qK p w r a b c c' T k) n v i%p=gV p a b c (app (T k) n v) i%p:=by
 rw[kP];unfold app;by_cases h:i=b
 ·subst h
  rw[DZ rfl];have e:zf (λj=>qK p w r a i c c' T k i j*v j) n%p=zf (λj=>T k i j*v j+c*(T k a j*v j)) n%p:=zy λj _=>by unfold qK;rw[DZ ha,DZ rfl,ND,Ou,<- ND,SM,OP]
  rw[e,jf,zZ]
 ·rw[DJ h,RZ]
  congr 1;exact zk λj _=>by unfold qK;rw[DZ ha,DJ h]
theorem WM{n x:Nat}(hx:x<n)(f:Nat->Int):zf (λj=>if j=x then f j else 0) n=f x:=by rw[zK (f:=λj=>if j=x then f j else 0) hx λj _ z=>DJ z,DZ rfl]
theorem Bd(hb:jG w k=r)(I:(c+c'+(if a=b then c*c' else 0))%p=0){n:Nat}(ha:a<n)(O:b<n)(v:Vc)(i:Nat):app (qK p w r a b c c' T k) n (gV p a b c v) i%p=app (T k) n v i%p:=by
 have Y:jQ w k≠r:=λz=>w5 w k (by rw[hb,z]);unfold app;have e:zf (λj=>qK p w r a b c c' T k i j*gV p a b c v j) n%p=zf (λj=>T k i j*v j+((if j=b then T k i j*(c*v a)else 0)+(if j=a then (c'*T k i b)*(v j+(if j=b then c*v a else 0))else 0))) n%p:=zy λj _=>by
  rw[ND,kP];have e1:qK p w r a b c c' T k i j%p=(T k i j+(if j=a then c'*T k i b else 0))%p:=by
   unfold qK;rw[DJ Y,DZ hb];by_cases h:j=a
   ·rw[DZ h,DZ h,Ou,h]
   ·rw[DJ h,DJ h,RZ]
  rw[e1,<- ND];congr 1;by_cases h1:j=b<;>by_cases h2:j=a<;>simp only[h1,h2,if_true,if_false,SM,Sv,RZ,Ry,Int.zero_add,Int.zero_mul]<;>(try split)<;>omega
 rw[e,jf,jf,WM O<|λj=>T k i j*(c*v a),WM ha (λj=>(c'*T k i b)*(v j+(if j=b then c*v a else 0)))];have e3:T k i b*(c*v a)+c'*T k i b*(v a+if a=b then c*v a else 0)=T k i b*v a*(c+c'+(if a=b then c*c' else 0)):=by
  by_cases h:a=b
  ·simp only[h,if_true]
   grind
  ·simp only[h,if_false]
   grind
 rw[e3,NS,ND<|T k i b*v a,I];simp
theorem Vh(h1:jQ w k≠r)(h2:jG w k≠r):qK p w r a b c c' T k=T k:=by funext i j;unfold qK;rw[DJ h1,DJ h2]
theorem bZ(hp:0<p)(hc:(c+c'+(if a=b then c*c' else 0))%p=0)(ha:a<wd r)(hb:b<wd r){x:m6}(h:FD p w wd T m x):FD p w wd (qK p w r a b c c' T) m (tK p r a b c x):=by
 refine⟨h.n1,h.le,λr' i hh hi=>?_,λk hk hh i hi=>?_⟩
 ·show 0<=(if r'=r then gV p a b c (x.v r')else x.v r') i/\(if r'=r then gV p a b c (x.v r')else x.v r') i<p
  by_cases e:r'=r
  ·rw[DZ e];exact EW hp (λi hi=>h.o7 r' i hh hi) i hi
  ·rw[DJ e];exact h.o7 r' i hh hi
 ·rw[WS]at hh ⊢
  have a1:=h.arr k hk hh;show app _ _ (if jG w k=r then gV p a b c (x.v<|jG w k)else x.v (jG w k)) i%p=(if x.has (jQ w k)=cL then (if jQ w k=r then gV p a b c (x.v<|jQ w k)else x.v (jQ w k)) i else 0)%p;by_cases Y:jQ w k=r
  ·have I:jG w k≠r:=λz=>w5 w k (by rw[Y,z])
   rw[DJ I,DZ Y,Bb Y,kP];have a6:i<wd (jQ w k):=hi;have a7:a<wd (jQ w k):=by rw[Y];exact ha
   have o1:=a1 i a6;have o2:=a1 a a7;by_cases hx:x.has (jQ w k)=cL
   ·rw[DZ hx]at o1 o2 ⊢
    rw[kP,NS,o1];by_cases O:i=b
    ·rw[DZ O,DZ O,ND,o2,<- ND,<- NS]
    ·rw[DJ O,DJ O,<- NS]
   ·rw[DJ hx]at o1 o2 ⊢
    rw[NS,o1];by_cases O:i=b
    ·rw[DZ O,ND,o2];simp
    ·rw[DJ O];simp
  ·rw[DJ Y]
   by_cases I:jG w k=r
   ·rw[DZ I,Bd I hc (by rw[I];exact ha) (by rw[I];exact hb)]
    exact a1 i hi
   ·rw[DJ I,Vh Y I]
    exact a1 i hi
theorem sr(t:Vc)(q:DV)(u:Nat->Vc)(i:Nat):zf (λj=>if q j=cL then t j*gV p a b c (u j) i else 0) N%p=gV p a b c (λi=>zf (λj=>if q j=cL then t j*u j i else 0) N) i%p:=by
 rw[kP];have e:zf (λj=>if q j=cL then t j*gV p a b c (u j) i else 0) N%p=zf (λj=>(if q j=cL then t j*u j i else 0)+(if i=b then c*(if q j=cL then t j*u j a else 0)else 0)) N%p:=zy λj _=>by
  by_cases h:q j=cL
  ·rw[DZ h,DZ h,DZ h,ND,kP,<- ND,Sv]
   by_cases hi:i=b
   ·rw[DZ hi,DZ hi];congr 2;exact Rg _ _ _
   ·rw[DJ hi,DJ hi,Ry]
  ·rw[DJ h,DJ h,DJ h];split<;>simp
 rw[e,jf];by_cases hi:i=b
 ·rw[DZ hi,zk (g:=λj=>c*(if q j=cL then t j*u j a else 0)) λj _=>DZ hi,zZ]
 ·rw[DJ hi,zk (g:=λ_=>0) λj _=>DJ hi,zz]
theorem EX(I:(c+c'+(if a=b then c*c' else 0))%p=0){n:Nat}(ha:a<n)(hb:b<n){v:Vc}(h : ∀i,i<n->gV p a b c v i%p=0) : ∀i,i<n->v i%p=0:=λi hi=>by
 have h1:=h i hi;rw[kP]at h1;by_cases z:i=b
 ·rw[DZ z]at h1
  subst z;have h2:=h a ha;rw[kP]at h2;by_cases O:a=i
  ·subst O
   rw[DZ rfl]at h2 I;have e:v a=(v a+c*v a)*(1+c') - v a*(c+c'+c*c'):=by grind
   rw[e,RI,ND,h2,ND<|v a,I];simp
  ·rw[DJ O,RZ]at h2
   rw[NS,ND,h2]at h1;simpa using h1
 ·rw[DJ z,RZ]at h1
  exact h1
theorem EV(I:(c+c'+(if a=b then c*c' else 0))%p=0)(v:Vc)(i:Nat):gV p a b c (gV p a b c' v) i%p=v i%p:=by
 rw[kP,NS,kP];by_cases z:i=b
 ·subst z
  rw[DZ rfl,DZ rfl,ND c,kP,<- ND,<- NS];have e:v i+c'*v a+c*(v a+if a=i then c'*v a else 0)=v i+v a*(c+c'+if a=i then c*c' else 0):=by
   by_cases h:a=i
   ·simp only[h,if_true];grind
   ·simp only[h,if_false];grind
  rw[e,NS,ND,I];simp
 ·rw[DJ z,DJ z]
  simp
theorem fg(hp:0<p)(O:(c+c'+(if a=b then c*c' else 0))%p=0)(ha:a<wd r)(hb:b<wd r)(D:rn p w wd T m N A):rn p w wd (qK p w r a b c c' T) m N λj=>tK p r a b c (A j):=by
 refine⟨λj Y=>bZ hp O ha hb<|D.ok j Y,λr' z v=>?_,λr' z t ht j Y hh=>?_,D.cnt⟩
 ·by_cases e:r'=r
  ·subst e
   obtain⟨t,h⟩:=D.sp r' z<|gV p a b c' v;refine⟨t,λi hi=>?_⟩;show v i%p=zf (λj=>if (A j).has r'=cL then t j*(if r'=r' then gV p a b c ((A j).v r')else (A j).v r') i else 0) N%p;simp only[if_true];rw[sr,kP,<- EV O v i,kP,NS,h i hi];by_cases I:i=b
   ·rw[DZ I,DZ I,ND,h a ha,<- ND,<- NS]
   ·rw[DJ I,DJ I,<- NS]
  ·obtain⟨t,h⟩:=D.sp r' z v
   refine⟨t,λi hi=>?_⟩;show v i%p=zf (λj=>if (A j).has r'=cL then t j*(if r'=r then gV p a b c ((A j).v r')else (A j).v r') i else 0) N%p;simp only[DJ e];exact h i hi
 ·rw[WS]at hh
  refine D.inj r' z t (λi hi=>?_) j Y hh;by_cases e:r'=r
  ·subst e
   refine EX (v:=λi=>zf (λj=>if (A j).has r'=cL then t j*(A j).v r' i else 0) N) O ha hb (λi hi=>?_) i hi;rw[<- sr];have:=ht i hi;refine Ro ?_ this;congr 1;exact zk λj _=>by show _=if (A j).has r'=cL then t j*(if r'=r' then gV p a b c ((A j).v r')else (A j).v r') i else 0;rw[DZ rfl]
  ·refine Ro ?_ (ht i hi)
   congr 1;exact zk λj _=>by show _=if (A j).has r'=cL then t j*(if r'=r then gV p a b c ((A j).v r')else (A j).v r') i else 0;rw[DJ e]
theorem mV(Y:0<p)(I : ∀k x y,0<=T k x y/\T k x y<p) : ∀k x y,0<=qK p w r a b c c' T k x y/\qK p w r a b c c' T k x y<p:=λk x y=>by
 have O : ∀z:Int,0<=z%p/\z%p<p:=λz=>⟨Ot _ ⋯,Oe _ Y⟩;unfold qK;split
 ·split
  ·exact O _
  ·exact I k x y
 ·split
  ·split
   ·exact O _
   ·exact I k x y
  ·exact I k x y
end
def HS(S E:DK)(j:Nat):m6:=⟨S j,E j - S j+1,λ_ _=>0⟩
def qh(S E:DK)(N r:Nat):List Nat:=m3 (HS S E) N r
def Vo(S E:DK)(N j:Nat):m6:=⟨S j,E j - S j+1,λr i=>if (qh S E N r).getD i N=j then 1 else 0⟩
def ma(S E:DK)(N r:Nat):Nat:=(qh S E N r).length
def oS(w:DV)(S E:DK)(N k i j:Nat):Int:=if (qh S E N<|jQ w k).getD i N=(qh S E N<|jG w k).getD j (N+1)then 1 else 0
section
variable{S E:DK}{N r:Nat}{w:DV}{p:Int}{m:Nat}
theorem mX:(qh S E N r).Nodup:=List.Nodup.sublist Rl Ss
theorem _q{j:Nat}:j∈qh S E N r↔j<N/\(Vo S E N j).has r=cL:=by unfold qh m3;rw[OC,NA];rfl
theorem WT{j:Nat}(h:j<N)(I:(Vo S E N j).has r=cL) : ∃c,c<ma S E N r/\(qh S E N r)[c]? = cI j:=by obtain⟨c,z⟩:=SR<|_q.mpr ⟨h,I⟩;exact⟨c,(NC.mp z).1,z⟩
theorem ZQ{c d:Nat}(h:c<ma S E N r) : ∃j,(qh S E N r)[c]? = cI j/\(qh S E N r).getD c d=j/\j<N/\(Vo S E N j).has r=cL:=by have e:=Nw (l:=qh S E N r) h;obtain⟨h1,h2⟩:=_q.mp<|Og e;exact⟨_,e,by rw[Ny,e];rfl,h1,h2⟩
theorem Ya{c c' j:Nat}(h1:(qh S E N r)[c]? = cI j)(h2:(qh S E N r)[c']? = cI j):c=c':=by exact(List.getElem?_inj (NC.mp h1).1 mX).mp (h1.trans h2.symm)
theorem Xj{c j:Nat}(h:c<ma S E N r):(Vo S E N j).v r c=if (qh S E N r)[c]? = cI j then 1 else 0:=by
 obtain⟨I,e1,e2,_⟩:=ZQ (d:=N) h;show(if (qh S E N r).getD c N=j then (1:Int)else 0)=_;rw[e1,e2];by_cases z:I=j
 ·rw[DZ z,DZ (by rw[z])]
 ·rw[DJ z,DJ (λq=>z<|Oj q)]
theorem oP(hp:Pr p)(hE : ∀j,j<N->S j<=E j/\E j<=m):rn p w (ma S E N) (oS w S E N) m N (Vo S E N):=by
 have two:=hp.two;refine⟨λj O=>⟨by show 1<=_+1;omega,by show S j+(E j - S j+1)<=m+1;have:=hE j O;omega,λr i _ _=>?_,λk hk hh i hi=>?_⟩,λr hr v=>?_,λr hr t ht j O hh=>?_,λr hr=>rfl⟩
 ·show 0<=(if _ then (1:Int)else 0)/\(if _ then (1:Int)else 0)<p
  split<;>omega
 ·obtain⟨Y,a0,e0⟩:=WT O hh
  obtain⟨ji,i1,i2,i3,i4⟩:=ZQ (d:=N) hi;have e:app (oS w S E N k) (ma S E N<|jG w k) ((Vo S E N j).v (jG w k)) i=oS w S E N k i Y:=by
   unfold app;rw[zK (f:=λc=>oS w S E N k i c*(Vo S E N j).v (jG w k) c) a0 λc hc I=>by rw[Xj hc,DJ<|λq=>I<|Ya q e0,Ry]]
   rw[Xj a0,DZ e0,PJ]
  rw[e];congr 1;unfold oS;rw[show(qh S E N<|jG w k).getD Y (N+1)=j by rw[Ny,e0];rfl];by_cases hx:(Vo S E N j).has (jQ w k)=cL
  ·rw[DZ hx];rfl
  ·rw[DJ hx,i2,DJ (λz=>hx<|by rw[<- z];exact i4)]
 ·refine⟨λj=>zf (λc=>if (qh S E N r)[c]? = cI j then v c else 0)<|ma S E N r,λi hi=>?_⟩
  obtain⟨ji,i1,i2,i3,i4⟩:=ZQ (d:=N) hi;rw[zK (f:=λj=>if (Vo S E N j).has r=cL then zf (λc=>if (qh S E N r)[c]? = cI j then v c else 0) (ma S E N r)*(Vo S E N j).v r i else 0) i3 λj O I=>by rw[Xj hi,show(if (qh S E N r)[i]? = cI j then (1:Int)else 0)=0 from DJ<|λq=>I<|Oj<|q.symm.trans i1,Ry,ite_self]]
  rw[DZ i4,Xj hi,DZ i1,PJ,zK (f:=λc=>if (qh S E N r)[c]? = cI ji then v c else 0) hi λc hc I=>DJ λq=>I<|Ya q i1,DZ i1]
 ·obtain⟨Y,a0,e0⟩:=WT O hh
  have:=ht Y a0;rw[zK (f:=λj=>if (Vo S E N j).has r=cL then t j*(Vo S E N j).v r Y else 0) O λj' ag I=>by rw[Xj a0,show(if (qh S E N r)[Y]? = cI j' then (1:Int)else 0)=0 from DJ<|λq=>I<|Oj<|q.symm.trans e0,Ry,ite_self]]at this
  rw[DZ hh,Xj a0,DZ e0,PJ]at this;exact this
theorem oQ(z:Pr p) : ∀k x y,0<=oS w S E N k x y/\oS w S E N k x y<p:=λk x y=>by have:=z.two;unfold oS;split<;>omega
end
def yo:=jo 8<|zS (yt 4<|yu zG)<|zS (J3 (jH<|ze 2) (.nm 5)<|zS (jT 6<|zJ z6<|zc (ze 0)<|zc (zw qb (ze 1)<|ze 5) zG)<|zS (jT 7<|zw x6 (ze 6)<|ze 3)<|jZ 4<|qe<|zc (ze 7)<|zc (zw qb (ze 7)<|zw x6 (zw KU (ze 6)<|ze 3)<|zw yN (ze 3)<|ze 7) zG)<|Zn<|QU<|zq 4
def xT:List D->Option (D×TT):=ug 8<|HW (jT 2<|xB<|zT (jH<|zw qb (Yf<|ze 0)<|zx<|.int 1) (.nm 0) 1 [1] jS (xB<|zT (jH<|vB<|zq 1) (.nm 0) 1 [0,1] (sB<|yC A6 A6 (fy (zM<|fy (zq 2)<|ze 0)<|zx<|.int 0) (ze 1)<|fy (zM<|fy (zq 2)<|ze 0)<|zx<|.int 1) (ze 0)))<|Bn 3 (KP [3] (ki<|ze 0) (.tp [4,5]) (JS (Vm [3] (.tp [6,7]) (zJ z9<|zc (ze 4)<|zc (ze 5) zG))<|Bz<|WW (zQ<|zM<|fy (zq 2)<|ze 7) (.nm 0) 1 [2,6] (zT (zQ<|zM<|fy (zq 1)<|ze 2) (.nm 0) 1 [0] jS (ng<|zw kC (ze 1)<|ze 0))))<|xB<|zT (zQ<|zq 2) (.nm 0) 1 [] jS (vB<|zq 0)
def kX:List D->List D->TT->Option TT:=Hx 14 2<|JS (Vm [2] (.nm 7) (fy (qf<|zT (jH<|ze 0) (.nm 0) 1 [0,6] (sB<|zw kC (zw x6 (zw kQ (ze 0)<|ze 2)<|ze 1)<|zx<|.int 1) (ze 0))<|zx<|.int 0))<|KP [2] (ki<|ze 1) (.tp [8,9]) (JS (Vm [2] (.tp [10,11]) (zJ z9<|zc (ze 8)<|zc (ze 9) zG))<|Bj [2] 12 (ze 8) (λk=>JS (DA (qX (sB<|zw kC (ze 11)<|ze 3)<|sB<|zw kC (ze 4)<|ze 5)<|vm 12 (ze 5) (zT (zQ<|zM<|fy (zq 12)<|ze 5) (.nm 0) 1 [0,6] jS (zw x6 (zw kQ (ze 2)<|ze 0)<|ze 1)) k)<|JS (DA (qX (sB<|zw kC (ze 11)<|ze 3)<|sB<|zw ow (ze 4)<|ze 5)<|vm 12 (ze 5) (zT (rC (fy (zq 12)<|ze 4)<|fy (zq 12)<|ze 5) (.tp [0,1]) 2 [0,6] jS (zw x6 (zw qb (ze 1)<|zw kQ (ze 3)<|ze 0)<|ze 2)) k)<|vo [12,2] 13 (λm=>JS (DA (qX (sB<|zw kC (ze 10)<|ze 3)<|sB<|zw kC (ze 4)<|ze 5)<|vn 13 (ze 5) (zw x6 (zw kQ (ze 7)<|fy (zq 13)<|ze 5)<|ze 0) k m)<|DA (qX (sB<|zw kC (ze 10)<|ze 3)<|sB<|zw ow (ze 4)<|ze 5)<|vn 13 (ze 4) (zw x6 (zw yN (fy (zq 13)<|ze 4)<|zw kQ (ze 6)<|fy (zq 13)<|ze 5)<|ze 0) k m) k))
def yn:=jo 11<|zS (cg 5 6 xT (zc (ze 3)<|zc (ze 4) zG)<|JS (KP [6] (QV<|ze 5) (.tp [7,8]) (KP [6] (jH<|zw kQ (zx<|.int 2)<|ze 8) (.nm 9) (JS (Vm [6] (.nm 10) (zJ z6<|zc (ze 0)<|zc (zw qb (zw qb (ze 1)<|zw kQ (zx<|.int 14)<|ze 7)<|ze 9) zG))<|mB kX (zc (ze 2)<|zc (ze 3) zG)<|zc (ze 7)<|zc (zw x6 (ze 10)<|ze 8)<|zc (zw x6 (zw KU (ze 10)<|zx<|.int 7)<|ze 8)<|zc (zw qb (zx<|.int 1)<|zw x6 (zw KU (ze 10)<|zx<|.int 49)<|zw yN (ze 2)<|zx<|.int 1) zG))) FO)<|xh<|zJ qr<|zc (ze 2)<|zc (ze 3)<|zc (ze 5)<|zc (ze 6) zG
def Vn(n:Nat)(v:Vc):List Int:=(Nu n).map v
def KY(h v:Nat)(f:DW):List (List Int):=(Nu h).map λi=>Vn v<|f i
def xJ(w:DV)(wd:DK)(T:DQ)(m:Nat):TT:=(Nu m).map λk=>KY (l7 w wd k) (l5 w wd k)<|T k
@[simp] theorem mE(n v):(Vn n v).length=n:=by simp[Vn]
@[simp] theorem Ww(h v f):(KY h v f).length=h:=by simp[KY]
@[simp] theorem WJ(w wd T m):(xJ w wd T m).length=m:=by simp[xJ]
theorem bc(n v):Bq (Vn n v) = .lst (zR n v):=by simp[Bq,Vn,jw,OO,RQ]
theorem aZ(h v f):Bp (KY h v f) = .lst (yi h v f):=by unfold Bp KY yi;rw[OO];congr 1;exact NQ λi _=>bc v<|f i
theorem pF(w wd T m):AI (xJ w wd T m) = .lst (yz w wd T m):=by unfold AI xJ yz;rw[OO];congr 1;exact NQ λk _=>aZ _ _ _
theorem wR : ∀(l:List Int),vY (l.map D.int)=cI l
 | []=>rfl
 | i::l=>by show(vY<|l.map D.int).map _=_;rw[wR l];rfl
theorem iz(n v):vY (zR n v)=cI (Vn n v):=by
 have:zR n v=(Vn n v).map D.int:=by simp[Vn,jw,OO,RQ]
 rw[this,wR]
theorem mF{n:Nat}{u v:Vc}(h : ∀i,i<n->u i=v i):Vn n u=Vn n v:=NQ λi hi=>h i<|NA.mp hi
theorem mj{h v:Nat}{f g:DW}(e : ∀i,i<h->∀j,j<v->f i j=g i j):KY h v f=KY h v g:=NQ λi hi=>mF<|e i<|NA.mp hi
theorem qk{w:DV}{wd:DK}{T U:DQ}{m:Nat}(e : ∀k,k<m->∀i,i<l7 w wd k->∀j,j<l5 w wd k->T k i j=U k i j):xJ w wd T m=xJ w wd U m:=NQ λk hk=>mj<|e k<|NA.mp hk
theorem ZW{α:Type}{n b:Nat}{f:Nat->α}{x:α}(hb:b<n):((Nu n).map f).set b x=(Nu n).map λi=>if i=b then x else f i:=by
 apply RG;intro i;rw[List.getElem?_set];by_cases h:b=i
 ·subst h;simp[hb]
 ·by_cases hi:i<n
  ·simp[h,hi,OQ h]
  ·simp[h,hi]
theorem mD{n b:Nat}{v:Vc}{x:Int}(hb:b<n):(Vn n v).set b x=Vn n λj=>if j=b then x else v j:=ZW hb
theorem Wv{h v b:Nat}{f:DW}{g:Vc}(hb:b<h):(KY h v f).set b (Vn v g)=KY h v λi=>if i=b then g else f i:=by
 unfold KY;rw[ZW hb];refine NQ λi _=>?_;by_cases e:i=b
 ·rw[DZ e];exact congrArg (Vn v) (DZ e).symm
 ·rw[DJ e];exact congrArg (Vn v) (DJ e).symm
theorem WI{w:DV}{wd:DK}{T:DQ}{m k:Nat}{f:DW}(hk:k<m):(xJ w wd T m).set k (KY (l7 w wd k) (l5 w wd k) f)=xJ w wd (λz=>if z=k then f else T z) m:=by
 unfold xJ;rw[ZW hk];refine NQ λz _=>?_;by_cases e:z=k
 ·subst e;rw[DZ rfl];exact congrArg (KY _ _) (DZ rfl).symm
 ·rw[DJ e];exact congrArg (KY _ _) (DJ e).symm
theorem Zx{w:DV}{wd:DK}{T:DQ}{m k:Nat}(hk:k<m):(xJ w wd T m)[k]? = cI (KY (l7 w wd k) (l5 w wd k)<|T k):=by simp[xJ,hk]
theorem mi{h v i:Nat}{f:DW}(hi:i<h):(KY h v f)[i]? = cI (Vn v<|f i):=by simp[KY,hi]
theorem kG{T:Tg}{F:YF}(P:Nat->Ctx->TT->Prop) : ∀(ds:List D) (k:Nat) (γ:Ctx) (Z:TT),P k γ Z->(∀i d γ Z,ds[i]? = cI d->P (k+i) γ Z->∃γ1 r,qm T d γ=cI γ1/\F γ1 Z=cI r/\P (k+i+1) r.1 r.2)->∃r,K0 T F ds γ Z=cI r/\P (k+ds.length) r.1 r.2
 | [],k,γ,Z,h,_=>⟨(γ,Z),rfl,h⟩
 | d::ds,k,γ,Z,h,step=>by
  obtain⟨γ1,r,e1,e2,h2⟩:=step 0 d γ Z rfl h;obtain⟨r',z,I⟩:=kG P ds (k+1) r.1 r.2 h2 λi d' γ' Z' hd O=>by have:=step (i+1) d' γ' Z' (by simpa using hd) (by rw[show k+(i+1)=k+1+i by omega];exact O);rw[show k+(i+1)+1=k+1+i+1 by omega]at this;exact this
  refine⟨r',?_,by rw[Od,show k+(ds.length+1)=k+1+ds.length by omega];exact I⟩;show(qm T d γ).bind _=_;rw[e1,Nx,e2,Nx];exact z
theorem mz{j k N:Nat}{F:Nat->YF}(P:Nat->Ctx->TT->Prop){γ:Ctx}{Z:TT}(h0:P 0 γ Z)(step : ∀m γ Z,m<N->P m γ Z->j<γ.length/\∃r,F m (γ.set j .no) Z=cI r/\(r.2[k]?).map RU=cI N/\P (m+1) r.1 r.2) : ∃r,ZH j F k N N γ Z=cI r/\P N r.1 r.2:=by
 have z : ∀n γ Z,n<=N->P (N - n) γ Z->∃r,ZH j F k N n γ Z=cI r/\P N r.1 r.2:=by
  intro n
  induction n with
  | zero=>exact λγ Z _ h=>⟨(γ,Z),rfl,h⟩
  | succ n I=>
   intro γ Z hn h;obtain⟨hj,r,e1,e2,h2⟩:=step (N - (n+1)) γ Z ⋯ h;rw[show N - (n+1)+1=N - n by omega]at h2;obtain⟨r',O,Y⟩:=I r.1 r.2 ⋯ h2;refine⟨r',?_,Y⟩;show(if γ.length<=j then cR else _)=_;rw[DJ ⋯,e1,Nx,DZ e2];exact O
 exact z N γ Z (NJ _) (by rw[Nat.sub_self];exact h0)
theorem Vp{F G:YF}{γ γ':Ctx}{Z Z':TT}{r:Option (Ctx×TT)}(h:F γ Z=cI (γ',Z'))(g:G γ' Z'=r):JS F G γ Z=r:=by show(F γ Z).bind _=_;rw[h];exact g
theorem vf{t:CO Bool}{F:YF}{γ:Ctx}{Z:TT}(h:t γ=cI d7):DA t F γ Z=cI (γ,Z):=by show(t γ).bind _=_;rw[h];rfl
theorem XE{t:CO Bool}{F:YF}{γ:Ctx}{Z:TT}(h:t γ=cI cL):DA t F γ Z=F γ Z:=by show(t γ).bind _=_;rw[h];rfl
def XS:CO D:=fy (qf<|zT (jH<|ze 0) (.nm 0) 1 [0,6] (sB<|zw kC (zw x6 (zw kQ (ze 0)<|ze 2)<|ze 1)<|zx<|.int 1) (ze 0))<|zx<|.int 0
def l_:CO Bool:=qX (sB<|zw kC (ze 11)<|ze 3)<|sB<|zw kC (ze 4)<|ze 5
def m_:CO Bool:=qX (sB<|zw kC (ze 11)<|ze 3)<|sB<|zw ow (ze 4)<|ze 5
def i_:CO Bool:=qX (sB<|zw kC (ze 10)<|ze 3)<|sB<|zw kC (ze 4)<|ze 5
def j_:CO Bool:=qX (sB<|zw kC (ze 10)<|ze 3)<|sB<|zw ow (ze 4)<|ze 5
def S1:CO (List D):=zT (zQ<|zM<|fy (zq 12)<|ze 5) (.nm 0) 1 [0,6] jS (zw x6 (zw kQ (ze 2)<|ze 0)<|ze 1)
def S2:CO (List D):=zT (rC (fy (zq 12)<|ze 4)<|fy (zq 12)<|ze 5) (.tp [0,1]) 2 [0,6] jS (zw x6 (zw qb (ze 1)<|zw kQ (ze 3)<|ze 0)<|ze 2)
def S4:CO D:=zw x6 (zw kQ (ze 7)<|fy (zq 13)<|ze 5)<|ze 0
def S5:CO D:=zw x6 (zw yN (fy (zq 13)<|ze 4)<|zw kQ (ze 6)<|fy (zq 13)<|ze 5)<|ze 0
def fu(k m:Nat):YF:=JS (DA i_<|vn 13 (ze 5) S4 k m)<|DA j_<|vn 13 (ze 4) S5 k m
def BO(k:Nat):YF:=JS (DA l_<|vm 12 (ze 5) S1 k)<|JS (DA m_<|vm 12 (ze 5) S2 k)<|vo [12,2] 13 (fu k) k
def fv:YF:=JS (Vm [2] (.tp [10,11]) (zJ z9<|zc (ze 8)<|zc (ze 9) zG))<|Bj [2] 12 (ze 8) BO
theorem mW:kX=Hx 14 2 (JS (Vm [2] (.nm 7) XS)<|KP [2] (ki<|ze 1) (.tp [8,9]) fv):=rfl
abbrev cst(p:Int)(m:Nat)(w:DV)(r a b:Nat)(t:Int)(o c8 c9 c10 c11 c12 c13:Cell):Ctx:=[.val (.int p),.val (.str (xm m w)),.no,.val (.int r),.val (.int a),.val (.int b),.val (.int t),o,c8,c9,c10,c11,c12,c13]
section
variable{p:Int}{m:Nat}{w:DV}{wd:DK}{U:DQ}{r a b k:Nat}{t o c c':Int}{c8 c9 c10 c11 c12 c13:Cell}
theorem eY(e:Nat):l_ (cst p m w r a b t c8 c9 c10 c11 (.val<|.int e) c12 c13)=cI (decide<|e=r/\a=b):=by by_cases h1:e=r<;>by_cases h2:a=b<;>simp[l_,h1,h2]<;>omega
theorem eX(e:Nat):m_ (cst p m w r a b t c8 c9 c10 c11 (.val<|.int e) c12 c13)=cI (decide<|e=r/\a≠b):=by by_cases h1:e=r<;>by_cases h2:a=b<;>simp[m_,h1,h2]<;>omega
theorem WL(e:Nat):i_ (cst p m w r a b t c8 c9 c10 (.val<|.int e) c11 c12 c13)=cI (decide<|e=r/\a=b):=by by_cases h1:e=r<;>by_cases h2:a=b<;>simp[i_,h1,h2]<;>omega
theorem WK(e:Nat):j_ (cst p m w r a b t c8 c9 c10 (.val<|.int e) c11 c12 c13)=cI (decide<|e=r/\a≠b):=by by_cases h1:e=r<;>by_cases h2:a=b<;>simp[j_,h1,h2]<;>omega
theorem Fs(z:0<p)(Y:0<=t/\t<=7){h v:Nat}(I:v<=lim)(f:DW)(hb:b<h):S1 (cst p m w r a b t c8 c9 c10 c11 c12 (.val<|.lst<|yi h v f) c13)=cI (zR v λj=>t*f b j%p):=by
 have e:(yi h v f)[b]? = cI (.lst<|zR v<|f b):=by simp[yi,hb]
 have O : ∀x,JV t x=cL:=λx=>kS _ _ ⋯ ⋯;unfold S1;simp only[kA,kn,xp,vA,qu,jW,NF,NG,zF,zY,vi,Nx,NZ,jM,wY,jB,hb,if_true,e,yf,I];rw[jw,jw];refine zA _ _ λj hj=>zE rfl rfl ?_;simp[jA,qM,O,z]
theorem Fq(I:0<p)(ht:0<=t/\t<=7){h v:Nat}(O:v<=lim)(f:DW)(ha:a<h)(hb:b<h):S2 (cst p m w r a b t c8 c9 c10 c11 c12 (.val<|.lst<|yi h v f) c13)=cI (zR v λj=>(f b j+t*f a j)%p):=by
 have e1:(yi h v f)[b]? = cI (.lst<|zR v<|f b):=by simp[yi,hb]
 have e2:(yi h v f)[a]? = cI (.lst<|zR v<|f a):=by simp[yi,ha]
 have Y : ∀x,JV t x=cL:=λx=>kS _ _ ⋯ ⋯;have z:=XD v (f a)<|f b;unfold S2;simp only[kA,Fy,vA,qu,jW,NF,NG,zF,zY,vi,Nx,NZ,jM,wY,jB,hb,ha,if_true,e1,e2,z,NV,Oo,O];rw[jw];refine zA _ _ λj hj=>zE rfl rfl ?_;simp[jA,qM,Y,I]
theorem Ff(z:0<p)(O:0<=o/\o<=7){v:Nat}(f:Vc)(hb:b<v):S4 (cst p m w r a b t (.val<|.int o) c8 c9 c10 c11 c12<|.val<|.lst<|zR v f)=cI (.int<|o*f b%p):=by have I : ∀x,JV o x=cL:=λx=>kS _ _ ⋯ ⋯;unfold S4;simp[hb,I,z]
theorem Fe(z:0<p)(O:0<=t/\t<=7){v:Nat}(f:Vc)(ha:a<v)(hb:b<v):S5 (cst p m w r a b t c8 c9 c10 c11 c12 c13<|.val<|.lst<|zR v f)=cI (.int<|(f a - t*f b)%p):=by have I : ∀x,JV t x=cL:=λx=>kS _ _ ⋯ ⋯;unfold S5;simp[ha,hb,I,z,yN,dI]
end
section
variable{p:Int}{m:Nat}{w:DV}{wd:DK}{U:DQ}{r a b k:Nat}{t o c c':Int}{c8 c9 c10 c11 c12 c13:Cell}
theorem Ym{γ:Ctx}{f:CO (List D)}{g:Vc}(hk:k<m)(hb:b<l7 w wd k)(I:γ[5]? = cI (.val<|.int b))(O:f (γ.set 12<|.val<|.lst<|yi (l7 w wd k) (l5 w wd k)<|U k)=cI (zR (l5 w wd k) g)) :
 vm 12 (ze 5) f k γ (xJ w wd U m)=cI (γ,xJ w wd (λz=>if z=k then (λi=>if i=b then g else U k i)else U z) m):=by
 unfold vm;rw[Zx hk,Nx,aZ,O,Nx,iz,Nx,jW,I];simp only[zF,Nx,jM,Ww,jB,hb,if_true,NZ,Wv hb,WI hk]
theorem Yn{γ:Ctx}{s i q:Nat}{e:CO D}{x:Int}(hk:k<m)(hi:i<l7 w wd k)(z:q<l5 w wd k)(Y:γ[s]? = cI (.val<|.int q))(he:e (γ.set 13<|.val<|.lst<|zR (l5 w wd k)<|U k i)=cI (.int x)) :
 vn 13 (ze s) e k i γ (xJ w wd U m)=cI (γ,xJ w wd (λI=>if I=k then (λO=>if O=i then (λj=>if j=q then x else U k i j)else U k O)else U I) m):=by
 unfold vn;rw[Zx hk,Nx,mi hi,Nx,bc,he,Nx,jM,Nx,jW,Y];simp only[zF,Nx,jM,mE,jB,z,if_true,NZ,mD z,Wv hi,WI hk]
theorem YV{γ:Ctx}(s?:(γ.set 13 .no)=γ)(hl:13<γ.length)(hk:k<m){F:Nat->YF}{V:Nat->Vc}
 (h : ∀i O,i<l7 w wd k->O k i=U k i->F i γ (xJ w wd O m)=cI (γ,xJ w wd (λz=>if z=k then (λI=>if I=i then V i else O k I)else O z) m)) :
 vo [12,2] 13 F k γ (xJ w wd U m)=cI (γ,xJ w wd (λz=>if z=k then V else U z) m):=by
 unfold vo;rw[DJ ⋯,Zx hk,Nx,Ww];obtain⟨r,e,h1,h2⟩:=mz (j:=13) (k:=k) (N:=l7 w wd k) (F:=F) (λi γ' Z=>γ'=γ/\Z=xJ w wd (λz=>if z=k then (λI=>if I<i then V I else U k I)else U z) m) (γ:=γ) (Z:=xJ w wd U m)
  ⟨rfl,qk λz _ I _ j _=>by
   by_cases e:z=k
   ·subst e;simp
   ·simp[e]⟩ (by
  rintro i γ' Z hi ⟨rfl,rfl⟩;refine⟨hl,_,by rw[s?];exact h i _ hi ⋯,?_,rfl,?_⟩
  ·simp[Zx hk]
  ·refine qk λz _ I _ j _=>?_
   by_cases e:z=k
   ·subst e
    simp only[if_true];by_cases e2:I=i
    ·subst e2;simp
    ·simp only[DJ e2]
     by_cases Y:I<i
     ·rw[DZ Y,DZ ⋯]
     ·rw[DJ Y,DJ ⋯]
   ·simp[e])
 rw[e];obtain⟨r1,r2⟩:=r;dsimp only at h1 h2;rw[h1,h2];congr 2;refine qk λz _ I a2 j _=>?_;by_cases e:z=k
 ·subst e;simp[a2]
 ·simp[e]
def CC(a b:Nat)(t o c c':Int):Prop:=(a=b/\c=t - 1/\c'=o - 1)\/(a≠b/\c=t/\c' = -t)
theorem tJ(hp:0<p)(ht:0<=t/\t<=7)(ho:0<=o/\o<=7)(a7:CC a b t o c c')(ae : ∀k,wd k<=7)(ha:a<wd r)(hb:b<wd r)(hk:k<m) :
 BO k (cst p m w r a b t (.val<|.int o) c8 c9 (.val<|.int ((jG w k:Nat):Int)) (.val<|.int ((jQ w k:Nat):Int)) .no .no) (xJ w wd U m)=cI (cst p m w r a b t (.val<|.int o) c8 c9 (.val<|.int ((jG w k:Nat):Int)) (.val<|.int ((jQ w k:Nat):Int)) .no .no,xJ w wd (λI=>if I=k then qK p w r a b c c' U k else U I) m):=by
 have hl:=jy;have a8:l5 w wd k<=lim:=by rw[QJ];have:=ae<|jG w k;omega
 by_cases Y:jQ w k=r
 ·have a9:jG w k≠r:=λz=>w5 w k (by rw[Y,z])
  have ag:a<l7 w wd k:=by rw[Xr,Y];exact ha
  have a4:b<l7 w wd k:=by rw[Xr,Y];exact hb
  have aa : ∀U',vo [12,2] 13 (fu k) k (cst p m w r a b t (.val<|.int o) c8 c9 (.val<|.int ((jG w k:Nat):Int)) (.val<|.int ((jQ w k:Nat):Int)) .no .no) (xJ w wd U' m)=cI (cst p m w r a b t (.val<|.int o) c8 c9 (.val<|.int ((jG w k:Nat):Int)) (.val<|.int ((jQ w k:Nat):Int)) .no .no,xJ w wd U' m):=λU'=>by
   rw[YV (U:=U') (V:=U' k) rfl (by show 13<14;decide) hk (F:=fu k) λi zce hi e=>?_]
   ·congr 2
    refine qk λI _ i _ j _=>?_;by_cases z:I=k
    ·subst z;simp
    ·simp[z]
   ·refine Vp (vf<|by rw[WL,decide_eq_false (λz=>a9 z.1)]) (Ro (vf<|by rw[WK,decide_eq_false (λz=>a9 z.1)]) ?_)
    congr 2;refine qk λI _ i' _ j _=>?_;by_cases z:I=k
    ·subst z
     by_cases z2:i'=i
     ·subst z2;simp[e]
     ·simp[z2]
    ·simp[z]
  rcases a7 with⟨O,rfl,rfl⟩ | ⟨O,rfl,rfl⟩
  ·refine Vp (Ro (XE<|by rw[eY,decide_eq_true ⟨Y,O⟩])<|Ym hk a4 rfl<|Fs hp ht a8 (U k) a4) (Vp (vf<|by rw[eX,decide_eq_false (λz=>z.2 O)])<|Ro (aa _) ?_)
   congr 2;refine qk λI _ i _ j _=>?_;by_cases z:I=k
   ·subst z
    simp only[if_true];unfold qK;rw[DZ Y];by_cases z2:i=b
    ·rw[DZ z2,DZ z2,<- O]
     congr 1
     grind
    ·rw[DJ z2,DJ z2]
   ·simp[z]
  ·refine Vp (vf<|by rw[eY,decide_eq_false (λz=>O z.2)]) (Vp (Ro (XE<|by rw[eX,decide_eq_true ⟨Y,O⟩])<|Ym hk a4 rfl<|Fq hp ht a8 (U k) ag a4)<|Ro (aa _) ?_)
   congr 2;refine qk λI _ i _ j _=>?_;by_cases z:I=k
   ·subst z
    simp only[if_true];unfold qK;rw[DZ Y];by_cases z2:i=b
    ·rw[DZ z2,DZ z2]
    ·rw[DJ z2,DJ z2]
   ·simp[z]
 ·refine Vp (vf<|by rw[eY,decide_eq_false (λz=>Y z.1)]) (Vp (vf<|by rw[eX,decide_eq_false (λz=>Y z.1)]) ?_)
  refine YV (V:=qK p w r a b c c' U k) rfl (by show 13<14;decide) hk λi U' hi e=>?_;by_cases a0:jG w k=r
  ·have ab:a<l5 w wd k:=by rw[QJ,a0];exact ha
   have a6:b<l5 w wd k:=by rw[QJ,a0];exact hb
   rcases a7 with⟨O,rfl,rfl⟩ | ⟨O,rfl,rfl⟩
   ·refine Vp (Ro (XE<|by rw[WL,decide_eq_true ⟨a0,O⟩])<|Yn (s:=5) (q:=b) hk hi a6 rfl<|Ff hp ho (U' k i) a6) (Ro (vf<|by rw[WK,decide_eq_false (λz=>z.2 O)]) ?_)
    congr 2;refine qk λI _ i' _ j _=>?_;by_cases z:I=k
    ·subst z
     simp only[if_true];by_cases z2:i'=i
     ·subst z2
      simp only[if_true];unfold qK;rw[DJ Y,DZ a0,e,O];by_cases z3:j=b
      ·rw[DZ z3,DZ z3]
       congr 1
       grind
      ·rw[DJ z3,DJ z3]
     ·simp[z2]
    ·simp[z]
   ·refine Vp (vf<|by rw[WL,decide_eq_false (λz=>O z.2)]) (Ro (Ro (XE<|by rw[WK,decide_eq_true ⟨a0,O⟩])<|Yn (s:=4) (q:=a) hk hi ab rfl<|Fe hp ht (U' k i) ab a6) ?_)
    congr 2;refine qk λI _ i' _ j _=>?_;by_cases z:I=k
    ·subst z
     simp only[if_true];by_cases z2:i'=i
     ·subst z2
      simp only[if_true];unfold qK;rw[DJ Y,DZ a0,e];by_cases z3:j=a
      ·rw[DZ z3,DZ z3]
       congr 1
       grind
      ·rw[DJ z3,DJ z3]
     ·simp[z2]
    ·simp[z]
  ·refine Vp (vf<|by rw[WL,decide_eq_false (λz=>a0 z.1)]) (Ro (vf<|by rw[WK,decide_eq_false (λz=>a0 z.1)]) ?_)
   congr 2;refine qk λI _ i' _ j _=>?_;by_cases z:I=k
   ·subst z
    simp only[if_true];by_cases z2:i'=i
    ·subst z2
     simp only[if_true];rw[Vh Y a0,e]
    ·simp[z2]
   ·simp[z]
theorem uS(z:Pr p)(Y:1<=t/\t<p) : ∃o:Int,0<=o/\o<p/\o*t%p=1/\XS (cst p m w r a b t .no c8 c9 c10 c11 c12 c13)=cI (.int o):=by
 have hl:=jy;have h7:=z.le;obtain⟨y,y1,y2,y3⟩:=si z (x:=t) ⋯ Y.2;obtain⟨q,hq⟩:=PK (show 0<=p by omega);subst hq;have I:z7 (.nm 0) (sB<|zw kC (zw x6 (zw kQ (ze 0)<|ze 2)<|ze 1)<|zx<|.int 1) (ze 0) [Cell.no,Cell.val<|.int q,Cell.val (.int t)] ((Nu q).map λ(i:Nat)=>D.int i)=cI (((Nu q).filter λ(i:Nat)=>decide<|(i:Int)*t%q=1).map λ(i:Nat)=>D.int i):=by refine jR _ _ _ λi hi=>⟨_,rfl,?_,λ_=>rfl⟩;have a6:=NA.mp hi;simp[kS (i:Int) t ⋯ ⋯,show 0<q by omega]
 cases hg:(Nu q).filter λ(i:Nat)=>decide ((i:Int)*t%q=1)with
 | nil=>
  have:=YD hg y ⋯;simp[y3]at this
 | cons x xD=>
  obtain⟨h1,h2,_⟩:=Zh hg;refine⟨x,by omega,by omega,by simpa using h2,?_⟩;rw[hg]at I;unfold XS;have O:q<=lim:=by omega
  simp only[vA,Wn,kA,wj,jW,kU,NF,NG,zF,Nx,jM,wU O,if_true,OF,qP,yf,O];rw[jw q λi=>(i:Int)];show((z7 _ _ _ [Cell.no,Cell.val<|.int q,Cell.val (.int t)] _).map _).bind _=_;rw[I];simp[p8]
theorem KL(O:Pr p)(ht:1<=t/\t<p)(a3 : ∀k,wd k<=7)(hm:m<=20)(ha:a<wd r)(hb:b<wd r) :
 ∃c c':Int,(c+c'+(if a=b then c*c' else 0))%p=0/\∀U,kX [.int p,.str (xm m w)] [.int r,.int a,.int b,.int t] (xJ w wd U m)=cI (xJ w wd (qK p w r a b c c' U) m):=by
 have h7:=O.le;have two:=O.two;have hs:=yV w (show m<=1000 by omega);obtain⟨o,o1,o2,o3,oe⟩:=uS (m:=m) (w:=w) (r:=r) (a:=a) (b:=b) (c8:= .no) (c9:= .no) (c10:= .no) (c11:= .no) (c12:= .no) (c13:= .no) O ht;obtain⟨c,c',a6,hc⟩ : ∃c c':Int,CC a b t o c c'/\(c+c'+(if a=b then c*c' else 0))%p=0:=by
  by_cases Y:a=b
  ·refine⟨t - 1,o - 1,.inl ⟨Y,rfl,rfl⟩,?_⟩
   rw[DZ Y,show t - 1+(o - 1)+(t - 1)*(o - 1)=o*t - 1 by grind,RI,o3,O.one];simp
  ·refine⟨t,-t,.inr ⟨Y,rfl,rfl⟩,?_⟩
   rw[DJ Y,RZ,Int.add_right_neg];rfl
 refine⟨c,c',hc,λU=>?_⟩;rw[mW];show(JS _ _ (cst p m w r a b t .no .no .no .no .no .no .no)<|xJ w wd U m).map _=_;obtain⟨x,e,h1⟩:=kG (T:= .tp [8,9]) (F:=fv) (λk γ Z=>(∃c8 c9 c10 c11,γ=cst p m w r a b t (.val<|.int o) c8 c9 c10 c11 .no .no)/\Z=xJ w wd (λI=>if I<k then qK p w r a b c c' U I else U I) m)
  ((Nu m).map λ(k:Nat)=>D.tup [.int k,.str (xc<|mm<|w k)]) 0 (cst p m w r a b t (.val<|.int o) .no .no .no .no .no .no) (xJ w wd U m) ⟨⟨.no,.no,.no,.no,rfl⟩,qk λI _ i _ j _=>by simp⟩ (by
  rintro k d γ Z hd ⟨⟨c8,c9,c10,c11,rfl⟩,rfl⟩;rw[RX]at *;obtain⟨hk,rfl⟩:k<m/\d=D.tup [.int k,.str (xc<|mm<|w k)]:=by rw[NT]at hd;obtain⟨I,q1,q2⟩:=RM.mp hd;obtain⟨q3,q4⟩:=NC.mp q1;rw[Oo]at q3;rw[Td]at q4;subst q4;exact⟨q3,q2.symm⟩
  have e1:Vm [2] (.tp [10,11]) (zJ z9<|zc (ze 8)<|zc (ze 9) zG) (cst p m w r a b t (.val<|.int o) (.val<|.int k) (.val<|.str<|xc<|mm<|w k) c10 c11 .no .no) (xJ w wd (λI=>if I<k then qK p w r a b c c' U I else U I) m)=cI (cst p m w r a b t (.val<|.int o) (.val<|.int k) (.val<|.str<|xc<|mm<|w k) (.val<|.int ((jG w k:Nat):Int)) (.val<|.int ((jQ w k:Nat):Int)) .no .no,xJ w wd (λI=>if I<k then qK p w r a b c c' U I else U I) m):=by unfold Vm;rw[DZ (by rfl),yR];simp only[yQ,Zi,jW,NF,NG,zF,Nx,NZ,Kv,k6,JH,Ph,Pg]
  refine⟨cst p m w r a b t (.val<|.int o) (.val<|.int k) (.val<|.str<|xc<|mm<|w k) c10 c11 .no .no,(cst p m w r a b t (.val<|.int o) (.val<|.int k) (.val<|.str<|xc<|mm<|w k) (.val<|.int ((jG w k:Nat):Int)) (.val<|.int ((jQ w k:Nat):Int)) .no .no,xJ w wd (λI=>if I=k then qK p w r a b c c' (λI=>if I<k then qK p w r a b c c' U I else U I) k else (λI=>if I<k then qK p w r a b c c' U I else U I) I) m),rfl,Vp e1 ?_,⟨_,_,_,_,rfl⟩,?_⟩
  ·unfold Bj
   rw[DJ ⋯,jW];simp only[NF,NG,zF,Nx,jM,WJ,jB,hk,if_true,Ph,Pg];exact tJ ⋯ ⋯ ⋯ a6 a3 ha hb hk
  ·refine qk λI _ i _ j _=>?_
   by_cases z:I=k
   ·subst z
    rw[DZ rfl,DZ ⋯];unfold qK;simp
   ·rw[DJ z]
    by_cases z2:I<k
    ·simp only[DZ z2,DZ (show I<k+1 by omega)]
    ·simp only[DJ z2,DJ (show ¬I<k+1 by omega)])
 obtain⟨⟨c8,c9,c10,c11,h1⟩,h2⟩:=h1;have e0:Vm [2] (.nm 7) XS (cst p m w r a b t .no .no .no .no .no .no .no) (xJ w wd U m)=cI (cst p m w r a b t (.val<|.int o) .no .no .no .no .no .no,xJ w wd U m):=by unfold Vm;rw[DZ (by rfl),oe];rfl
 rw[Vp e0 (r:=cI x) ?_]
 ·rw[NZ,h2]
  congr 1;refine qk λI ab i _ j _=>?_;rw[DZ (by simpa using ab)]
 ·unfold KP
  rw[DZ (by rfl)];have src:ki (ze 1) (cst p m w r a b t (.val<|.int o) .no .no .no .no .no .no)=cI ((Nu m).map λ(k:Nat)=>D.tup [.int k,.str (xc<|mm<|w k)]):=by simp only[JN,jW,NF,NG,zF,Nx,hs,if_true,wX]
  rw[src];exact e
end
def HR:CO (List D):=zT (jH<|vB<|zq 1) (.nm 0) 1 [0,1] (sB<|yC A6 A6 (fy (zM<|fy (zq 2)<|ze 0)<|zx<|.int 0) (ze 1)<|fy (zM<|fy (zq 2)<|ze 0)<|zx<|.int 1) (ze 0)
def MY:=jT 2<|xB<|zT (jH<|zw qb (Yf<|ze 0)<|zx<|.int 1) (.nm 0) 1 [1] jS (xB HR)
def EB:CO (List D):=zT (zQ<|zM<|fy (zq 1)<|ze 2) (.nm 0) 1 [0] jS (ng<|zw kC (ze 1)<|ze 0)
def oO:CO (List<|List D):=WW (zQ<|zM<|fy (zq 2)<|ze 7) (.nm 0) 1 [2,6] EB
def LN:YF:=JS (Vm [3] (.tp [6,7]) (zJ z9<|zc (ze 4)<|zc (ze 5) zG))<|Bz oO
def M0:CO D:=xB<|zT (zQ<|zq 2) (.nm 0) 1 [] jS (vB<|zq 0)
theorem oU:xT=ug 8 (HW MY<|Bn 3 (KP [3] (ki<|ze 0) (.tp [4,5]) LN) M0):=rfl
def bS(bs:List (Int×Int))(j:Nat):Nat:=(bs.getD j (0,0)).1.toNat
def bE(bs:List (Int×Int))(j:Nat):Nat:=(bs.getD j (0,0)).2.toNat
abbrev bW(bs:List (Int×Int)):Nat->Nat:=ma (bS bs) (bE bs) bs.length
abbrev bT(w:DV)(bs:List (Int×Int)):Nat->Nat->Nat->Int:=oS w (bS bs) (bE bs) bs.length
abbrev bL(bs:List (Int×Int))(r:Nat):List Nat:=qh (bS bs) (bE bs) bs.length r
def Kf(l:List Nat):List D:=l.map λ(j:Nat)=>D.int j
def qY(bs:List (Int×Int))(m:Nat):D:= .lst ((Nu<|m+1).map λr=>D.lst<|Kf<|bL bs r)
section
variable{bs:List (Int×Int)}{m:Nat}{w:DV}
theorem pT(h : ∀b∈bs,mh ((m+1:Nat):Int) b){j:Nat}(z:j<bs.length):bs[j]? = cI ((bS bs j:Int),(bE bs j:Int))/\bS bs j<=bE bs j/\bE bs j<=m:=by have e:=Nw z;have hb:=h _<|Og e;obtain⟨h1,h2,I⟩:=hb;unfold bS bE;rw[Ny,e,Rn];refine⟨?_,by omega,by omega⟩;congr 1;exact Prod.ext (by dsimp only;omega) (by dsimp only;omega)
theorem Al(h : ∀b∈bs,mh ((m+1:Nat):Int) b)(hb:bs.length<=60)(r:Nat):HR [.val (.int r),.val (.lst<|zB bs)]=cI (Kf<|bL bs r):=by
 have hl:=jy;have O:bs.length<=lim:=by omega
 unfold HR;simp only[kA,wj,FE,qu,NF,NG,zY,vi,Nx,NZ,jM,wg,wU O,if_true,OF,qP,yf,O];rw[jw bs.length λi=>(i:Int)];show z7 _ _ _ [Cell.no,Cell.val<|.int r,Cell.val (.lst<|zB bs)] _=_;rw[jR (λj=>(HS (bS bs) (bE bs) j).has r) (λ(j:Nat)=>D.int j) _ λj I=>⟨[Cell.val (.int j),Cell.val<|.int r,Cell.val (.lst<|zB bs)],rfl,?_,λ_=>rfl⟩]
 ·rfl
 ·have I:=NA.mp I
  obtain⟨e,h1,h2⟩:=pT h I;have e2:(zB bs)[j]? = cI (.tup [.int (bS bs j),.int (bE bs j)]):=by unfold zB;rw[NT,e];rfl
  have Y:(HS (bS bs) (bE bs) j).has r=(decide (bS bs j<=r) && decide (r<=bE bs j)):=by show(decide (bS bs j<=r) && decide (r<bS bs j+(bE bs j - bS bs j+1)))=_;congr 1;exact decide_eq_decide.mpr ⋯
  rw[Y];have x0:fy (zM<|fy (zq 2)<|ze 0) (zx<|.int 0) [Cell.val (.int j),Cell.val<|.int r,Cell.val (.lst<|zB bs)]=cI (.int<|bS bs j):=by simp only[vA,xp,qu,jW,kU,NF,NG,zF,zY,vi,Nx,jM,wg,jB,I,if_true,e2];rfl
  have x1:fy (zM<|fy (zq 2)<|ze 0) (zx<|.int 1) [Cell.val (.int j),Cell.val<|.int r,Cell.val (.lst<|zB bs)]=cI (.int<|bE bs j):=by simp only[vA,xp,qu,jW,kU,NF,NG,zF,zY,vi,Nx,jM,wg,jB,I,if_true,e2];rfl
  show(yC A6 A6 _ _ _ _).bind De=_;unfold yC;simp only[x0,x1,jW,NF,NG,zF,Nx];by_cases z:bS bs j<=r<;>by_cases z2:r<=bE bs j<;>simp[A6,dI,z,z2]
theorem Jn(l:List Nat):(Kf l).length=l.length:=by simp[Kf]
theorem XR{S E:DK}{N r:Nat}:ma S E N r<=N:=by unfold ma qh m3;exact OH (Rw _ _) ⋯
theorem aD{α β:Type}(d:α)(f:α->β)(l:List α):l.map f=(Nu l.length).map λi=>f (l.getD i d):=by
 apply RG;intro i;by_cases hi:i<l.length
 ·rw[NT,Nw hi,NT,ON hi]
  simp[Ny,hi]
 ·rw[Px (by simpa using hi),Px (by simpa using hi)]
theorem Yg{f:Nat->List Int} : ∀(l:List Nat),fO (l.map λx=>(f x).map D.int)=cI (l.map f)
 | []=>rfl
 | x::l=>by show(vY<|(f x).map D.int).bind _=_;rw[wR,Nx,Yg l];rfl
theorem oN(hb:bs.length<=60){k:Nat}(hk:k<m)(I O Y c4 c5:Cell):(oO [I,O,.val<|qY bs m,Y,c4,c5,.val<|.int ((jG w k:Nat):Int),.val (.int ((jQ w k:Nat):Int))]).bind fO=cI (KY (l7 w (bW bs) k) (l5 w (bW bs) k)<|bT w bs k):=by
 have hl:=jy;have h1:=iO w hk;have h2:=lD w hk;have g : ∀r,r<m+1->((Nu<|m+1).map λr=>D.lst<|Kf<|bL bs r)[r]? = cI (D.lst<|Kf<|bL bs r):=λr hr=>by simp[hr]
 have l1 : ∀r,(bL bs r).length<=lim:=λr=>OH (XR (S:=bS bs) (E:=bE bs) (N:=bs.length)) ⋯;have e:oO [I,O,.val<|qY bs m,Y,c4,c5,.val<|.int ((jG w k:Nat):Int),.val (.int ((jQ w k:Nat):Int))]=cI ((bL bs<|jQ w k).map λx=>((bL bs<|jG w k).map λy=>if x=y then (1:Int)else 0).map D.int):=by
  unfold oO qY;show(Sl _ _)=_;simp only[kn,xp,vA,qu,jW,NF,NG,zF,zY,vi,Nx,NZ,jM,NV,Oo,jB,h1,if_true,g _ h1,Jn,l1];refine Y2 _ λx _=>⟨[.val (.int x),.val<|qY bs m,.val (.int ((jG w k:Nat):Int))],rfl,?_⟩;unfold EB qY;simp only[kA,kn,xp,vA,qu,jW,NF,NG,zF,zY,vi,Nx,NZ,jM,NV,Oo,jB,h2,if_true,g _ h2,Jn,l1];rw[OO];refine zA _ _ λy _=>zE rfl rfl ?_;by_cases z:x=y
  ·subst z;simp[jA,qM]
  ·have z' : ¬((x:Int)=(y:Int)):=λq=>z ⋯
   simp[jA,qM,z,z']
 rw[e,Nx,Yg,Xr,QJ];congr 1;rw[aD bs.length];refine NQ λi _=>?_;rw[aD (bs.length+1)];rfl
theorem KM(h : ∀b∈bs,mh ((m+1:Nat):Int) b)(hb:bs.length<=60)(hm:m<=20):xT [.str (xm m w),.lst (zB bs)]=cI (.lst<|zR (m+1) λr=>(bW bs r:Int),xJ w (bW bs) (bT w bs) m):=by
 have hl:=jy;have I:m+1<=lim:=by omega
 have hs:=yV w (show m<=1000 by omega);have s1:MY [.val (.str<|xm m w),.val<|.lst<|zB bs,.no,.no,.no,.no,.no,.no]=cI (.next [.val (.str<|xm m w),.val<|.lst<|zB bs,.val<|qY bs m,.no,.no,.no,.no,.no]):=by unfold MY;rw[lO,lP,kA,wj];simp only[bw,Bf,jW,kU,NF,NG,zF,Nx,hs,if_true,Wz,bj,jM];rw[show((m:Int)+1)=((m+1:Nat):Int)by omega];simp only[wU I,if_true,OF,Nx,qP,yf,I];show(((z7 _ _ _ [Cell.no,Cell.val (.lst<|zB bs)] (zR (m+1) λi=>(i:Int))).map _).map _)=_;rw[jw,zA (λr=>D.lst<|Kf<|bL bs r) _ λr _=>zE (γ1:=[.val (.int r),.val (.lst<|zB bs)]) rfl rfl (by rw[lP,Al h hb];rfl)];rfl
 obtain⟨x,e,h1⟩:=kG (T:= .tp [4,5]) (F:=LN) (λk γ Z=>(∃z c5 c6 c7,γ=[.val (.str<|xm m w),.val<|.lst<|zB bs,.val<|qY bs m,.no,z,c5,c6,c7])/\Z=xJ w (bW bs) (bT w bs) k)
  ((Nu m).map λ(k:Nat)=>D.tup [.int k,.str (xc<|mm<|w k)]) 0 [.val (.str<|xm m w),.val<|.lst<|zB bs,.val<|qY bs m,.no,.no,.no,.no,.no] [] ⟨⟨.no,.no,.no,.no,rfl⟩,rfl⟩ (by
  rintro k d γ Z hd ⟨⟨z,c5,c6,c7,rfl⟩,rfl⟩;rw[RX]at *;obtain⟨hk,rfl⟩:k<m/\d=D.tup [.int k,.str (xc<|mm<|w k)]:=by rw[NT]at hd;obtain⟨k',q1,q2⟩:=RM.mp hd;obtain⟨O,Y⟩:=NC.mp q1;rw[Oo]at O;rw[Td]at Y;subst Y;exact⟨O,q2.symm⟩
  refine⟨[.val (.str<|xm m w),.val<|.lst<|zB bs,.val<|qY bs m,.no,.val<|.int k,.val<|.str<|xc<|mm<|w k,c6,c7],([.val (.str<|xm m w),.val<|.lst<|zB bs,.val<|qY bs m,.no,.val<|.int k,.val<|.str<|xc<|mm<|w k,.val<|.int ((jG w k:Nat):Int),.val (.int ((jQ w k:Nat):Int))],xJ w (bW bs) (bT w bs)<|k+1),rfl,
   Vp (γ':=[.val (.str<|xm m w),.val<|.lst<|zB bs,.val<|qY bs m,.no,.val<|.int k,.val<|.str<|xc<|mm<|w k,.val<|.int ((jG w k:Nat):Int),.val (.int ((jQ w k:Nat):Int))]) (Z':=xJ w (bW bs) (bT w bs) k) ?_ ?_,⟨_,_,_,_,rfl⟩,rfl⟩
  ·unfold Vm
   rw[DZ (by rfl),yR];simp only[yQ,Zi,jW,NF,NG,zF,Nx,NZ,Kv,k6,JH,Ph,Pg]
  ·unfold Bz
   rw[oN hb hk,Nx,WJ,DZ ⋯];congr 2;simp[xJ,PD])
 obtain⟨x1,x2⟩:=x;obtain⟨⟨z,c5,c6,c7,h1⟩,h2⟩:=h1;dsimp only at h1 h2;subst h1 h2;rw[oU];show(MY [.val (.str<|xm m w),.val<|.lst<|zB bs,.no,.no,.no,.no,.no,.no]).bind _=_;rw[s1];show Bn 3 (KP [3] (ki<|ze 0) (.tp [4,5]) LN) M0 [.val (.str<|xm m w),.val<|.lst<|zB bs,.val<|qY bs m,.no,.no,.no,.no,.no]=_;unfold Bn;rw[DZ ⟨rfl,by show 3<8;decide⟩];have src:ki (ze 0) [.val (.str<|xm m w),.val<|.lst<|zB bs,.val<|qY bs m,.no,.no,.no,.no,.no]=cI ((Nu m).map λ(k:Nat)=>D.tup [.int k,.str (xc<|mm<|w k)]):=by simp only[JN,jW,NF,NG,zF,Nx,hs,if_true,wX]
 have lp:KP [3] (ki<|ze 0) (.tp [4,5]) LN [.val (.str<|xm m w),.val<|.lst<|zB bs,.val<|qY bs m,.no,.no,.no,.no,.no] []=cI ([.val (.str<|xm m w),.val<|.lst<|zB bs,.val<|qY bs m,.no,z,c5,c6,c7],xJ w (bW bs) (bT w bs) m):=by unfold KP;rw[DZ (by rfl),src,Nx,e];simp
 show(KP [3] (ki<|ze 0) (.tp [4,5]) LN [.val (.str<|xm m w),.val<|.lst<|zB bs,.val<|qY bs m,.no,.no,.no,.no,.no] []).bind _=_;rw[lp,Nx];have zap:M0 [.val (.str<|xm m w),.val<|.lst<|zB bs,.val<|qY bs m,.no,z,c5,c6,c7]=cI (.lst<|zR (m+1) λr=>(bW bs r:Int)):=by unfold M0 qY;simp only[lP,kA,kn,qu,NF,NG,zY,vi,Nx,NZ,NV,Oo,I,if_true];rw[jw,zA (λr=>D.int (bW bs r:Int)) _ λr _=>zE (γ1:=[.val (.lst<|Kf<|bL bs r)]) rfl rfl (by show cI (D.int ((Kf<|bL bs r).length:Int))=_;rw[Jn];rfl)];rfl
 rw[zap];rfl
end
def O_:CO (List D):=zc (ze 2)<|zc (ze 3) zG
def S0:CO (List D):=zc (ze 7)<|zc (zw x6 (ze 10)<|ze 8)<|zc (zw x6 (zw KU (ze 10)<|zx<|.int 7)<|ze 8)<|zc (zw qb (zx<|.int 1)<|zw x6 (zw KU (ze 10)<|zx<|.int 49)<|zw yN (ze 2)<|zx<|.int 1) zG
def P':CO D:=zJ z6<|zc (ze 0)<|zc (zw qb (zw qb (ze 1)<|zw kQ (zx<|.int 14)<|ze 7)<|ze 9) zG
def R9:YF:=JS (Vm [6] (.nm 10) P')<|mB kX O_ S0
def Mb:YF:=KP [6] (jH<|zw kQ (zx<|.int 2)<|ze 8) (.nm 9) R9
theorem lC:yn=jo 11 (zS (cg 5 6 xT (zc (ze 3)<|zc (ze 4) zG)<|JS (KP [6] (QV<|ze 5) (.tp [7,8]) Mb) FO)<|xh<|zJ qr<|zc (ze 2)<|zc (ze 3)<|zc (ze 5)<|zc (ze 6) zG):=rfl
abbrev A5(ns:List Int)(at_ p:Int)(m:Nat)(w:DV)(bs:List (Int×Int))(c6 c7 c8 c9 c10:Cell):Ctx:=[.val (V9 ns),.val (.int at_),.val (.int p),.val (.str (xm m w)),.val (.lst (zB bs)),.val (.lst (zR (m+1) λr=>(bW bs r:Int))),c6,c7,c8,c9,c10]
structure FF(p:Int)(m:Nat)(w:DV)(bs:List (Int×Int))(T:DQ):Prop where
 o7 : ∀k x y,0<=T k x y/\T k x y<p
 dec : ∃A,rn p w (bW bs) T m bs.length A/\vV A bs.length=vV (Vo (bS bs) (bE bs) bs.length) bs.length
section
variable{ns:List Int}{at_ p:Int}{m:Nat}{w:DV}{bs:List (Int×Int)}
theorem pP(z:Pr p){T:DQ}(B:FF p m w bs T){r a b:Nat}{c c':Int}(I:(c+c'+(if a=b then c*c' else 0))%p=0)(ha:a<bW bs r)(hb:b<bW bs r):FF p m w bs (qK p w r a b c c' T):=by obtain⟨A,D,e⟩:=B.dec;exact⟨mV z.pos B.o7,_,fg z.pos I ha hb D,e⟩
theorem gH{x n:Int}(hx:0<=x)(hn:0<n) : ∃a:Nat,x%n=(a:Int)/\(a:Int)<n:=by obtain⟨a,ha⟩:=PK (Ot x<|show n≠0 by omega);exact⟨a,ha,by rw[<- ha];exact Oe _ hn⟩
theorem pO(a0:ns.length<=63)(z:Pr p)(h0:0<=at_)(h2:at_<=1000)(hm:m<=5)(I : ∀k,bW bs k<=7){r q:Nat}(hr:r<=m)(hq:q<2*bW bs r){T:DQ}(B:FF p m w bs T)(c10:Cell) :
 ∃a1 T',R9 (A5 ns at_ p m w bs .no (.val<|.int r) (.val<|.int (bW bs r:Int)) (.val<|.int q) c10) (xJ w (bW bs) T m)=cI (A5 ns at_ p m w bs .no (.val<|.int r) (.val<|.int (bW bs r:Int)) (.val<|.int q) a1,xJ w (bW bs) T' m)/\FF p m w bs T':=by
 have two:=z.two;have h7:=z.le;have an:=I r;have a2:JV 14 (r:Int)=cL:=kS _ _ ⋯ ⋯;obtain⟨O,Y,y3⟩:=JG a0 (k:=at_+14*(r:Int)+(q:Int)) ⋯ ⋯;generalize kg ns (at_+14*(r:Int)+(q:Int))=x at O Y y3;obtain⟨a,ea,ha⟩:=gH (x:=x) (n:=(bW bs r:Int)) Y ⋯;obtain⟨b,eb,hb⟩:=gH (x:=x/7) (n:=(bW bs r:Int)) ⋯ ⋯;obtain⟨t,et,ht⟩:=gH (x:=x/49) (n:=p - 1) ⋯ ⋯;have ha:a<bW bs r:=by omega
 have hb:b<bW bs r:=by omega
 obtain⟨c,c',hc,st⟩:=KL (m:=m) (w:=w) (wd:=bW bs) (r:=r) (a:=a) (b:=b) (t:=1+(t:Int)) z ⋯ I ⋯ ha hb;have ar:(0:Int)<(bW bs r:Int):=by omega
 refine⟨.val<|.int x,_,Vp (γ':=A5 ns at_ p m w bs .no (.val<|.int r) (.val<|.int (bW bs r:Int)) (.val<|.int q)<|.val<|.int x) (Z':=xJ w (bW bs) T m) ?_ ?_,pP z B hc ha hb⟩
 ·unfold Vm
  rw[DZ (by rfl)];unfold P';simp only[yR,yQ,Zi,bw,jW,kU,NF,NG,zF,Nx,NZ,bh,a2,if_true,bj,O,k6,ZD,Ph,Pg]
 ·unfold mB
  have A1:O_ (A5 ns at_ p m w bs .no (.val<|.int r) (.val<|.int (bW bs r:Int)) (.val<|.int q)<|.val<|.int x)=cI [.int p,.str (xm m w)]:=rfl;have A2:S0 (A5 ns at_ p m w bs .no (.val<|.int r) (.val<|.int (bW bs r:Int)) (.val<|.int q)<|.val<|.int x)=cI [.int r,.int a,.int b,.int (1+(t:Int))]:=by
   unfold S0;have c1:me x (bW bs r:Int)=cL:=by simp[me];omega
   have c2:me (x/7) (bW bs r:Int)=cL:=by simp[me];omega
   have c3:me (x/49) (p - 1)=cL:=by simp[me];omega
   have c4:pN x 7=cL:=by simp[pN]
   have c5:pN x 49=cL:=by simp[pN]
   simp[x6,KU,yN,Iv,dI,c1,c2,c3,c4,c5,ea,eb,et]
  rw[A1,Nx,A2,Nx,st T];rfl
theorem QI(a3:ns.length<=63)(Y:Pr p)(h0:0<=at_)(h2:at_<=1000)(hm:m<=5)(h : ∀b∈bs,mh ((m+1:Nat):Int) b)(hb:bs.length<=7) :
 ∃T,yn [V9 ns,.int at_,.int p,.str<|xm m w,.lst (zB bs)]=cI (.val<|qN p m w (bW bs) T)/\FF p m w bs T:=by
 have hl:=jy;have a0 : ∀k,bW bs k<=7:=λk=>OH (XR (S:=bS bs) (E:=bE bs) (N:=bs.length)) hb;have B0:FF p m w bs (bT w bs):=⟨oQ Y,_,oP Y λj hj=>(pT h hj).2,rfl⟩;obtain⟨x,e,h1⟩:=kG (T:= .tp [7,8]) (F:=Mb) (λ_ γ Z=>(∃c7 c8 c9 c10,γ=A5 ns at_ p m w bs .no c7 c8 c9 c10)/\∃T,Z=xJ w (bW bs) T m/\FF p m w bs T)
  ((Nu<|m+1).map λ(r:Nat)=>D.tup [.int r,.int (bW bs r:Int)]) 0 (A5 ns at_ p m w bs .no .no .no .no .no) (xJ w (bW bs) (bT w bs) m) ⟨⟨.no,.no,.no,.no,rfl⟩,_,rfl,B0⟩ (by
  rintro r d γ Z hd ⟨⟨c7,c8,c9,c10,rfl⟩,T,rfl,B⟩;obtain⟨hr,rfl⟩:r<m+1/\d=D.tup [.int r,.int (bW bs r:Int)]:=by rw[NT]at hd;obtain⟨k',q1,q2⟩:=RM.mp hd;obtain⟨I,O⟩:=NC.mp q1;rw[Oo]at I;rw[Td]at O;subst O;exact⟨I,q2.symm⟩
  have ak:=a0 r;obtain⟨y,e2,z⟩:=kG (T:= .nm 9) (F:=R9) (λ_ γ Z=>(∃c9 c10,γ=A5 ns at_ p m w bs .no (.val<|.int r) (.val<|.int (bW bs r:Int)) c9 c10)/\∃T,Z=xJ w (bW bs) T m/\FF p m w bs T)
   ((Nu<|2*bW bs r).map λ(q:Nat)=>D.int q) 0 (A5 ns at_ p m w bs .no (.val<|.int r) (.val<|.int (bW bs r:Int)) c9 c10) (xJ w (bW bs) T m) ⟨⟨c9,c10,rfl⟩,T,rfl,B⟩ (by
   rintro q d γ Z hd ⟨⟨c9,c10,rfl⟩,T,rfl,B⟩;obtain⟨hq,rfl⟩:q<2*bW bs r/\d=D.int q:=by rw[NT]at hd;obtain⟨k',q1,q2⟩:=RM.mp hd;obtain⟨I,O⟩:=NC.mp q1;rw[Oo]at I;rw[Td]at O;subst O;exact⟨I,q2.symm⟩
   obtain⟨a8,T',e3,B'⟩:=pO (at_:=at_) a3 Y h0 h2 hm a0 (show r<=m by omega) hq B c10;exact⟨_,_,rfl,e3,⟨_,_,rfl⟩,T',rfl,B'⟩)
  obtain⟨⟨am,a8,z⟩,T',h4,B'⟩:=z;refine⟨A5 ns at_ p m w bs .no (.val<|.int r) (.val<|.int (bW bs r:Int)) c9 c10,y,rfl,?_,⟨_,_,_,_,z⟩,T',h4,B'⟩;unfold Mb KP;rw[DZ (by rfl)];have hn:2*bW bs r<=lim:=by omega
  have c2:JV 2 (bW bs r:Int)=cL:=kS _ _ ⋯ ⋯;have src:jH (zw kQ (zx<|.int 2)<|ze 8) (A5 ns at_ p m w bs .no (.val<|.int r) (.val<|.int (bW bs r:Int)) c9 c10)=cI ((Nu<|2*bW bs r).map λ(q:Nat)=>D.int q):=by simp only[wj,bw,jW,kU,NF,NG,zF,Nx,bh,c2,if_true,jM];rw[show(2:Int)*(bW bs r:Int)=((2*bW bs r:Nat):Int)by omega];simp only[wU hn,if_true,OF,qP];rw[jw]
  rw[src];exact e2)
 obtain⟨x1,x2⟩:=x;obtain⟨⟨c7,c8,c9,c10,h1⟩,T,z,B⟩:=h1;dsimp only at h1 z;subst h1 z;refine⟨T,?_,B⟩;rw[lC];have ac:cg 5 6 xT (zc (ze 3)<|zc (ze 4) zG) (JS (KP [6] (QV<|ze 5) (.tp [7,8]) Mb) FO) [.val (V9 ns),.val<|.int at_,.val<|.int p,.val<|.str<|xm m w,.val<|.lst<|zB bs,.no,.no,.no,.no,.no,.no]=cI (.next<|A5 ns at_ p m w bs (.val<|.lst<|yz w (bW bs) T m) c7 c8 c9 c10):=by
  unfold cg;rw[DZ ⟨rfl,by show 6<11;decide,by decide⟩];show(Sl (cI [D.str (xm m w),.lst (zB bs)]) _)=_;rw[Nx,KM h ⋯ ⋯,Nx];show(JS _ _ (A5 ns at_ p m w bs .no .no .no .no .no) _).map _=_;rw[Vp (γ':=A5 ns at_ p m w bs .no c7 c8 c9 c10) (Z':=xJ w (bW bs) T m) ?_ rfl]
  ·show cI (Fl.next<|A5 ns at_ p m w bs (.val<|AI<|xJ w (bW bs) T m) c7 c8 c9 c10)=_
   rw[pF]
  ·unfold KP
   rw[DZ (by rfl)];have src:QV (ze 5) (A5 ns at_ p m w bs .no .no .no .no .no)=cI ((Nu<|m+1).map λ(r:Nat)=>D.tup [.int r,.int (bW bs r:Int)]):=by rw[<- y6 (m+1) λr=>D.int (bW bs r:Int)];rfl
   rw[src];exact e
 have R:=QH (p:=p) (w:=w) (T:=T) hm a0;refine qD<|zD ac ?_;rw[sC,yR];show((qr [.int p,.str<|xm m w,.lst<|zR (m+1) λr=>(bW bs r:Int),.lst (yz w (bW bs) T m)]).map Ce).map _=_;rw[R];rfl
end
section
variable{bs:List (Int×Int)}{m:Nat}
theorem AU(h : ∀b∈bs,mh ((m+1:Nat):Int) b):bs=(Nu bs.length).map λj=>((bS bs j:Int),(bE bs j:Int)):=by
 apply RG;intro j;by_cases z:j<bs.length
 ·rw[(pT h z).1];simp[z]
 ·rw[Px ⋯,Px (by simpa using z)]
end
theorem Fw{ns:List Int}(hn:ns.length<=63){m n:Nat}(hm:m<=5)(z:n<=60) : ∃bs,yo [V9 ns,.int 2,.int (n:Int),.int (1+(m:Int))]=cI (.own<|zB bs)/\(∀b∈bs,mh ((m+1:Nat):Int) b)/\bs.length=n:=by obtain⟨bs,h1,h2,I⟩:=Vs hn (r:=m+1) (n:=n) (t:=2) ⋯ ⋯ ⋯ ⋯ z;rw[show((m+1:Nat):Int)=1+(m:Int)by omega]at h1;exact⟨bs,h1,h2,I⟩
def M4:=(J3 (Vw<|fy (zq 0)<|zx<|.int 2) (.tp [1,2])<|zS (Vu (.tp [3,4])<|zJ z9<|zc (ze 1)<|zc (fy (zq 2)<|zx<|.int 0) zG)<|zS (Vu (.tp [5,6,7])<|fy (zq 2)<|zx<|.int 1)<|zS (oy (fG (sB<|zw ow (ze 5)<|fy (zM<|fy (zq 0)<|zx<|.int 1)<|ze 4)<|fG (sB<|zw ow (ze 6)<|fy (zM<|fy (zq 0)<|zx<|.int 1)<|ze 3)<|sB<|zw ow (vB<|zq 7)<|ze 5) (xh<|zx<|.bl d7) xw)<|oy (kz<|sB<|fN<|qf<|zT (zQ<|zq 7) (.nm 0) 1 [6] jS (zw kC (vB<|zq 0)<|ze 1)) (xh<|zx<|.bl d7) xw)
def _a:=(xh<|zx<|.bl cL)
def va:=jo 8<|zS M4 _a
def tm:=(jT 1<|zJ z6<|zc (ze 0)<|zc (zx<|.int 0) zG)
def tf:=(jT 2<|fy (qf<|yu<|zc (zx<|.int 2)<|zc (zx<|.int 3)<|zc (zx<|.int 5)<|zc (zx<|.int 7) zG)<|zw x6 (ze 1)<|zx<|.int 4)
def sZ:=(jT 3<|zw qb (zx<|.int 1)<|zw x6 (zw KU (ze 1)<|zx<|.int 4)<|zx<|.int 6)
def sY:=(jT 4<|zJ xt<|zc (zw KU (ze 1)<|zx<|.int 24)<|zc (ze 3) zG)
def sW:=(jT 5<|zw x6 (zJ z6<|zc (ze 0)<|zc (zx<|.int 1) zG)<|ze 3)
def sV:=(rD 100 (sB (zw ow (zJ Vk (zc (ze 4) (zc (ze 5) zG))) (zx (.str "told")))) (jT 5 (zw x6 (zw qb (ze 5) (zx (.int 1))) (ze 3))))
def sU:=(jT 6<|xB<|qj yo<|zc (ze 0)<|zc (zx<|.int 2)<|zc (zw x6 (zJ z6<|zc (ze 0)<|zc (zx<|.int 9) zG)<|zw yN (zx<|.int 6)<|zw kQ (zx<|.int 2)<|ng<|zw yJ (ze 3)<|zx<|.int 4)<|zc (ze 3) zG)
def sT:=(jT 7<|zJ qA<|zc (zJ yn<|zc (ze 0)<|zc (zx<|.int 10)<|zc (ze 2)<|zc (ze 4)<|zc (ze 6) zG)<|zc (ze 5) zG)
def sS:=(jT 8<|xB<|qj ym<|zc (ze 5)<|zc (ze 6) zG)
def eM:=(oy (fG (kz<|sB<|zJ va<|zc (ze 7) zG)<|sB<|zw ow (xB<|qj ko<|zc (ze 4)<|zc (ze 5)<|zc (xB<|fH<|zq 6) zG)<|ze 8) (xh<|zx<|.bl d7) xw)
def eK:=(jT 9<|zJ yS<|zc (ze 7) zG)
def eH:=(xh<|Bl (fN<|qf<|zT (ue<|ze 9) (.nm 0) 1 [8,9] jS (zw kC (Vx (ze 2)<|ze 0)<|wH (zq 1)<|ze 0))<|zw kC (fF<|ze 9)<|vB<|zq 8)
def JP:=jo 10<|zS tm<|zS tf<|zS sZ<|zS sY<|zS sW<|zS sV<|zS sU<|zS sT<|zS sS<|zS eM<|zS eK eH
def zI(s:Nat×Nat):Int×Int:=((s.1:Int),(s.2:Int))
theorem Xy(k:Nat) : ∀{K:List (Nat×Nat)},(∀s∈K,s.1<=s.2)->jD (k:Int) (K.map zI)=(C0 k K).map zI
 | [],_=>rfl
 | s::K,h=>by
  have I:=Xy k (K:=K) λx hx=>h x<|NN _ hx;have hs:=h s NL;unfold jD C0 at I ⊢;rw[NY,List.filter_cons,List.filter_cons];have e:J8 (k:Int) (zI s) = !(decide (s.1=k) && decide (s.2=k)):=by unfold J8 zI;congr 1;rw[Pn];simp only[NI,beq_iff_eq,decide_eq_true_eq];omega
  rw[e];split
  ·next O=>
   have Y : ¬(s.1=k/\s.2=k):=λz=>by simp[z.1,z.2]at O
   rw[NY,NY,NY,I];congr 1;unfold F2 zI _e xr m8;rw[Prod.mk.injEq];dsimp only;constructor
   ·repeat' split
    all_goals omega
   ·repeat' split
    all_goals omega
  ·exact I
theorem oA(K:List (Nat×Nat))(s:Nat×Nat):((zB<|K.map zI).countP λd=>n6 d<|.tup [.int s.1,.int s.2])=AQ K s:=by unfold AQ zB;rw[SY,SY];refine List.countP_congr λt _=>?_;show n6 (.tup [.int (t.1:Int),.int (t.2:Int)]) (.tup [.int s.1,.int s.2])=cL↔_;rw[aV];obtain⟨a,b⟩:=s;obtain⟨c,d⟩:=t;simp only[NI,beq_iff_eq,decide_eq_true_eq,Prod.mk.injEq];omega
theorem dG{a b:List (Int×Int)}(h:a.Perm b)(x:D):((zB a).countP λd=>n6 d x)=(zB b).countP λd=>n6 d x:=(h.map _).countP_eq _
theorem lF{bs:List (Int×Int)}{m:Nat}(h : ∀b∈bs,mh ((m+1:Nat):Int) b):bs=(vV (Vo (bS bs) (bE bs) bs.length) bs.length).map zI:=by
 conv=>lhs;rw[AU h]
 unfold vV;rw[OO];refine NQ λj z=>?_;have:=(pT h<|NA.mp z).2.1;show _=(((bS bs j:Nat):Int),((bS bs j+(bE bs j - bS bs j+1) - 1:Nat):Int));rw[show bS bs j+(bE bs j - bS bs j+1) - 1=bE bs j by omega]
theorem bV{M:Nat}(hn:(stN M).Nodup){K:List (Nat×Nat)}(h : ∀s∈K,s∈stN M):bX ((stN M).map λs=>(AQ K s:Int))=K.length:=by
 have:=rz (M:=M) M 0 hn h;have e1:(stN M).filter (YR M 0)=stN M:=List.filter_eq_self.mpr λs hs=>by have:=E5.mp hs;simp[YR];omega
 have e2:t7 K (M:Int) ((0:Nat):Int)=K.length:=by unfold t7;rw[List.countP_eq_length];intro s hs;have:=E5.mp<|h s hs;simp;omega
 rw[e1,e2]at this;exact this
section
variable{p:Int}{w:DV}{wd:DK}{T:DQ}{m:Nat}
theorem Ey:va=jo 8 (zS M4 _a):=rfl
def EA:=(zS (Vu (.tp [3,4])<|zJ z9<|zc (ze 1)<|zc (fy (zq 2)<|zx<|.int 0) zG)<|zS (Vu (.tp [5,6,7])<|fy (zq 2)<|zx<|.int 1)<|zS (oy (fG (sB<|zw ow (ze 5)<|fy (zM<|fy (zq 0)<|zx<|.int 1)<|ze 4)<|fG (sB<|zw ow (ze 6)<|fy (zM<|fy (zq 0)<|zx<|.int 1)<|ze 3)<|sB<|zw ow (vB<|zq 7)<|ze 5) (xh<|zx<|.bl d7) xw)<|oy (kz<|sB<|fN<|qf<|zT (zQ<|zq 7) (.nm 0) 1 [6] jS (zw kC (vB<|zq 0)<|ze 1)) (xh<|zx<|.bl d7) xw)
theorem Ay(hm:m<=5)(a2 : ∀k,k<=m->wd k<=100):va [qN p m w wd T]=cI (.val<|.bl cL):=by
 have hl:=jy;have L : ∃z Y I O c5 c6 c7,M4 [.val (qN p m w wd T),.no,.no,.no,.no,.no,.no,.no]=cI (.next [.val (qN p m w wd T),z,Y,I,O,c5,c6,c7]):=by
  unfold M4;rw[JM];have src:Vw (fy (zq 0)<|zx<|.int 2) [.val (qN p m w wd T),.no,.no,.no,.no,.no,.no,.no]=cI ((Nu m).map λ(k:Nat)=>D.tup [.int k,yP w wd T k]):=by rw[<- y6];rfl
  rw[src,Nx];obtain⟨γ',eq,z,Y,I,O,c5,c6,c7,rfl⟩:=V6 (T:= .tp [1,2]) (g:=λ(a:Nat)=>D.tup [.int a,yP w wd T a]) (F:=EA) (λ_ γ=>∃z Y I O c5 c6 c7,γ=[.val (qN p m w wd T),z,Y,I,O,c5,c6,c7]) m (γ:=[.val (qN p m w wd T),.no,.no,.no,.no,.no,.no,.no]) ⟨_,_,_,_,_,_,_,rfl⟩ (by
   rintro s hs γ ⟨z,Y,I,O,c5,c6,c7,rfl⟩;have hb:jG w s<=m:=by unfold jG;split<;>omega
   have he:jQ w s<=m:=by unfold jQ;split<;>omega
   have eh:l7 w wd s=wd (jQ w s):=Xr ..;have ew:l5 w wd s=wd (jG w s):=QJ ..;have h1:=a2 _ he;refine⟨[.val (qN p m w wd T),.val<|.int (s:Int),.val<|yP w wd T s,I,O,c5,c6,c7],[.val (qN p m w wd T),.val<|.int (s:Int),.val<|yP w wd T s,.val<|.int (jG w s:Nat),.val<|.int (jQ w s:Nat),.val<|.int (l7 w wd s:Nat),.val<|.int (l5 w wd s:Nat),.val (.tup<|zV (l7 w wd s) (l5 w wd s)<|T s)],rfl,?_,_,_,_,_,_,_,_,rfl⟩;have en:=Kv w s;unfold EA;refine zD (γ':=[.val (qN p m w wd T),.val<|.int (s:Int),.val<|yP w wd T s,.val<|.int (jG w s:Nat),.val<|.int (jQ w s:Nat),c5,c6,c7]) ?_ (zD (γ':=[.val (qN p m w wd T),.val<|.int (s:Int),.val<|yP w wd T s,.val<|.int (jG w s:Nat),.val<|.int (jQ w s:Nat),.val<|.int (l7 w wd s:Nat),.val<|.int (l5 w wd s:Nat),.val (.tup<|zV (l7 w wd s) (l5 w wd s)<|T s)]) ?_ (zD (γ':=[.val (qN p m w wd T),.val<|.int (s:Int),.val<|yP w wd T s,.val<|.int (jG w s:Nat),.val<|.int (jQ w s:Nat),.val<|.int (l7 w wd s:Nat),.val<|.int (l5 w wd s:Nat),.val (.tup<|zV (l7 w wd s) (l5 w wd s)<|T s)]) ?_ ?_))
   ·simp[Vg,en,qm,qi]
   ·simp[Vg,jU,qm,qi]
   ·have a7:jG w s<m+1:=by omega
    have a8:jQ w s<m+1:=by omega
    have n1:=Ky (d:= .int ((wd (jQ w s):Nat):Int)) rfl;have n2:=Ky (d:= .int ((wd (jG w s):Nat):Int)) rfl;have as:jg (.tup<|zV (wd<|jQ w s) (wd<|jG w s)<|T s)=cI (.T,zV (wd<|jQ w s) (wd<|jG w s)<|T s):=rfl;simp[yD,jB,a7,a8,eh,ew,n1,n2,as]
   ·have a9:l7 w wd s<=lim:=by rw[eh];omega
    have as:jg (.tup<|zV (l7 w wd s) (l5 w wd s)<|T s)=cI (.T,zV (l7 w wd s) (l5 w wd s)<|T s):=rfl;have z:z7 (.nm 0) jS (zw kC (vB<|zq 0)<|ze 1) [.no,.val (.int (l5 w wd s:Nat))] (zV (l7 w wd s) (l5 w wd s)<|T s)=cI ((Nu<|l7 w wd s).map λ_=>D.bl cL):=by unfold zV;refine zA _ _ λi hi=>zE (γ1:=[.val (.tup<|zR (l5 w wd s)<|T s i),.val (.int (l5 w wd s:Nat))]) rfl rfl ?_;have e1:=Kz (d:= .int ((l5 w wd s:Nat):Int)) rfl;have aa:jg (.tup<|zR (l5 w wd s)<|T s i)=cI (.T,zR (l5 w wd s)<|T s i):=rfl;simp[aa,e1]
    simp[as,a9,jA,qM];rw[z];simp[K4])
  exact⟨z,Y,I,O,c5,c6,c7,eq⟩
 obtain⟨z,Y,I,O,c5,c6,c7,L⟩:=L;rw[Ey];exact qD<|zD L rfl
end
theorem mG:JP=jo 10 (zS tm<|zS tf<|zS sZ<|zS sY<|zS sW<|zS sV<|zS sU<|zS sT<|zS sS<|zS eM<|zS eK eH):=rfl
theorem sP(z I O c6 c7 c8 c9:Cell):Fg.map (λa=>sV [z,I,O,.val<|.int<|1+(a.1.length:Int),.val<|.str<|wl a.1,.val<|.int (a.2:Int),c6,c7,c8,c9])=Fg.map λa=>cI (.next [z,I,O,.val<|.int<|1+(a.1.length:Int),.val<|.str<|wl a.1,.val<|.int (QN a.1 a.2:Int),c6,c7,c8,c9]):=by kernel_rfl
theorem WN{f g:Nat->Int} : ∀n:Nat,(∀r,f r<=g r)->zf f n<=zf g n
 | 0,_=>Int.le_refl _
 | n+1,h=>by have:=WN n h;have:=h n;show zf f n+f n<=zf g n+g n;omega
theorem fe(c:Int) : ∀n:Nat,zf (λ_=>c) n=n*c
 | 0=>by show(0:Int)=_;simp
 | n+1=>by show zf _ n+c=_;rw[fe c n,Int.natCast_add,SM];simp
theorem BE{m k n q:Nat}{wd:DK}(hk:k<=m)(h : ∀r,wd r<=n):zf (λr=>(qd k q wd r:Int)) (m+1)<=(m+1)*n+q:=by
 have h1:=WN (f:=λr=>(qd k q wd r:Int)) (g:=λr=>(n:Int)+if r=k then (q:Int)else 0) (m+1) λr=>by have:=h r;show((qd k q wd r:Nat):Int)<=_;unfold qd;split<;>omega
 rw[jf,fe,zK (f:=λr=>if r=k then (q:Int)else 0) (i:=k) ⋯<|λr _ z=>DJ z,DZ rfl]at h1;have e:((m+1:Nat):Int)*(n:Int)=((m:Int)+1)*n:=by rw[Int.natCast_add];rfl
 omega
theorem Xf : ∀bs:List (Int×Int),ve (zB bs)=cL
 | []=>rfl
 | b::bs=>by show(cL && ve (zB bs))=cL;rw[Xf bs];rfl
def QD(ns:List Int)(c:Int)(q m:Nat)(W K B R z F:Cell):Ctx:=[.val (V9 ns),.val<|.int c,.val<|.int q,.val<|.int<|1+(m:Int),W,K,B,R,z,F]
theorem HU(ns:List Int)(a5:ns.length<=63):JP [V9 ns]=cI (.val<|.bl cL):=by
 have hl:=jy;obtain⟨a1,a2,a3⟩:=JG a5 (k:=0) ⋯ ⋯;obtain⟨y1,y2,y3⟩:=JG a5 (k:=1) ⋯ ⋯;obtain⟨z1,z2,z3⟩:=JG a5 (k:=9) ⋯ ⋯;generalize kg ns 0=c at a1 a2 a3;generalize kg ns 1=d at y1 y2 y3;generalize kg ns 9=d9 at z1 z2 z3;obtain⟨q,hp,ep,cb⟩:=CG a2;obtain⟨m,em,dt⟩:=Jo (c:=c/4) (n:=6) ⋯;have hm:m<=5:=by omega
 obtain⟨w,hw⟩:=BC (c:=c/24) ⋯ hm;obtain⟨i,ei,hi⟩:=Jo (c:=d) (n:=m+1) ⋯;have bb:((Nu m).map w).length=m:=by simp
 obtain⟨ht,a6⟩:=eT (l:=(Nu m).map w) (k:=i) ⋯ ⋯;have wh:=aE (sP (.val<|V9 ns) (.val<|.int c) (.val<|.int q) .no .no .no .no)<|kM (l:=(Nu m).map w) (k:=i) ⋯ ⋯;dsimp only at wh;rw[bb,<- ZJ]at wh;rw[bb]at a6;generalize QN ((Nu m).map w) i=k at ht a6 wh;have hL : ∃L:Nat,(L:Int)=6 - 2*(if (4:Int)<1+(m:Int)then 1 else 0)/\0<L/\L<=6/\(m+1)*(L - 1)+2*(L - 1)<=30:=by
  by_cases z:(4:Int)<1+(m:Int)
  ·exact⟨4,by rw[DZ z];rfl,by omega,by omega,by omega⟩
  ·exact⟨6,by rw[DJ z];rfl,by omega,by omega,by omega⟩
 obtain⟨L,eL,ci,dv,dw⟩:=hL;obtain⟨n,en,hn⟩:=Jo (c:=d9) (n:=L) ci;obtain⟨bs,co,ac,cq⟩:=Fw a5 hm (n:=n) ⋯;obtain⟨T,cr,B⟩:=QI (at_:=10) (w:=w) a5 hp ⋯ ⋯ hm ac ⋯;obtain⟨A,Dc,ek⟩:=B.dec;have a7 : ∀k,bW bs k<=n:=λk=>by rw[<- cq];exact XR (S:=bS bs) (E:=bE bs) (N:=bs.length)
 obtain⟨wl,bg⟩ : ∃wl,wl=if 0<k then bW bs (k - 1)else 0:=⟨_,rfl⟩;obtain⟨wr,bi⟩ : ∃wr,wr=if k<m then bW bs (k+1)else 0:=⟨_,rfl⟩;have dy:wl<=n:=by rw[bg];split;exact a7 _;omega
 have e0:wr<=n:=by rw[bi];split;exact a7 _;omega
 obtain⟨q1,T1,f1,ct,e4,ab⟩:=lT (w:=w) (wd:=bW bs) (T:=T) hp hm a6 (λr=>by have:=a7 r;omega) B.o7 bg bi ⋯ ht λq' e5=>by
  have h1:=BE (k:=k) (q:=q') a6 a7;have h2:(m+1)*n<=(m+1)*(L - 1):=Nat.mul_le_mul_left _ ⋯;have h3:(((m:Int)+1)*(n:Int))=(((m+1)*n:Nat):Int):=by rw[Int.natCast_mul];rfl
  omega
 obtain⟨N1,A1,D1,k1,e7⟩:=ab Dc ⋯;have e8:q1<=7:=by have h1:=D1.cnt k a6;rw[show qd k q1 (bW bs) k=q1 from DZ rfl]at h1;have:=Rw (λj=>(A1 j).has k)<|Nu N1;rw[Oo]at this;have:(m3 A1 N1 k).length<=N1:=this;omega
 have bv : ∀r,qd k q1 (bW bs) r<=7:=λr=>by have:=a7 r;unfold qd;split<;>omega
 have nu:=cU hp bv ct hm D1;have an:=VY D1;rw[k1,ek]at nu an;have hK:=lF ac;have c0 : ∀s∈vV (Vo (bS bs) (bE bs) bs.length) bs.length,s.1<=s.2:=λs hs=>by rw[<- ek]at hs;exact(E5.mp<|VY Dc s hs).1
 generalize vV (Vo (bS bs) (bE bs) bs.length) bs.length=K at nu an hK c0;have d0 : ∀b∈bs,b.1<=b.2:=λb hb=>(ac b hb).2.1;have mo:=Af (k:=(k:Int)) bs d0 ⋯;have ba:=KG (l:=(Nu m).map w) (k:=k) ⋯ ⋯ ht bs ⋯;rw[<- ZJ]at ba;have pm:=wF<|jD (k:Int) bs;have ak:jD (k:Int) bs=(C0 k K).map zI:=by rw[hK];exact Xy k c0
 have cn : ∀s:Nat×Nat,((zB<|vq<|jD (k:Int) bs).countP λd=>n6 d<|.tup [.int s.1,.int s.2])=AQ (C0 k K) s:=λs=>by rw[dG pm,ak,oA]
 have le:(zB<|vq<|jD (k:Int) bs).length=(C0 k K).length:=by have:=pm.length_eq;rw[ak,NV]at this;unfold zB;rw[NV,<- this,ak]
 have c4:=Xf<|vq<|jD (k:Int) bs;generalize vq (jD (k:Int) bs)=ds at mo ba cn le c4;obtain⟨s1,s2,s3⟩:=WU ⟨m+1,by omega⟩;dsimp only at s1 s2 s3;have d2:=bV s1 an;let g:Nat×Nat->Int:=λs=>(AQ (C0 k K) s:Int);let R:=qN q m (AO k w) (qd k q1<|bW bs) T1;let Fd:=KS g<|m+1;let W:Cell:= .val (.str<|xm m w);let I:Cell:= .val (.int (k:Int));let O:Cell:= .val (.lst<|zB bs);let Y:Cell:= .val (.lst<|zB ds);have d3:c/4%6=(m:Int):=em;have rp:(0:Int)<1+(m:Int):=by omega
 have d5:d%(1+(m:Int))=(i:Int):=by rw[<- ei];congr 1;omega
 have d6:d9%(L:Int)=(n:Int):=en;rw[mG];refine qD (zD (γ':=[.val (V9 ns),.val<|.int c,.no,.no,.no,.no,.no,.no,.no,.no]) ?_
  (zD (γ':=[.val (V9 ns),.val<|.int c,.val<|.int q,.no,.no,.no,.no,.no,.no,.no]) ?_
  (zD (γ':=QD ns c q m .no .no .no .no .no .no) ?_
  (zD (γ':=QD ns c q m W .no .no .no .no .no) ?_
  (zD (γ':=QD ns c q m W (.val<|.int (i:Int)) .no .no .no .no) ?_
  (zD (γ':=QD ns c q m W I .no .no .no .no) wh
  (zD (γ':=QD ns c q m W I O .no .no .no) ?_
  (zD (γ':=QD ns c q m W I O (.val R) .no .no) ?_
  (zD (γ':=QD ns c q m W I O (.val R) Y .no) ?_
  (zD (γ':=QD ns c q m W I O (.val R) Y .no) ?_
  (zD (γ':=QD ns c q m W I O (.val R) Y<|.val Fd) ?_ ?_)))))))))))
 ·simp[tm,jt,NB,a1]
 ·simp[tf,cb,ep]
 ·simp[sZ,d3,QD]
 ·simp[sY,QD,hw,W]
 ·simp[sW,QD,y1,rp,d5]
 ·have e3:(6:Int) - 2*(if (4:Int)<1+(m:Int)then 1 else 0)=(L:Int):=eL.symm
  have e9:(0:Int)<(L:Int):=by omega
  have cm:JV 2 (if (4:Int)<1+(m:Int)then 1 else 0)=cL:=kS _ _ ⋯ ⋯;simp[sU,QD,I,z1,cm];have lt:(2*if (4:Int)<1+(m:Int)then 1 else 0)<(6:Int):=by omega
  rw[DZ lt,e3,d6];simp[co,O]
 ·simp[sT,QD,W,I,O,cr,f1,R]
 ·simp[sS,QD,I,O,mo,Y]
 ·have fi:=Ay (p:=(q:Int)) (w:=AO k w) (wd:=qd k q1<|bW bs) (T:=T1) hm λr _=>by have:=bv r;omega
  have ne:=Ky<|oq ds;simp[eM,QD,W,I,O,Y,R,fi,jg,ba,ne]
 ·simp[eK,QD,R,nu,Fd,g]
 ·have dd:(stN<|m+1).length<=lim:=by omega
  have di:((λk=>D.tup<|Pq D.int k)∘kI)=kD:=rfl;have c1:z7 (.nm 0) jS (zw kC (Vx (ze 2)<|ze 0)<|wH (zq 1)<|ze 0) [.no,.val<|.lst<|zB ds,.val (KS g<|m+1)] ((stN<|m+1).map kD)=cI ((stN<|m+1).map λ_=>D.bl cL):=by
   refine zA _ _ λs hs=>zE (γ1:=[.val (kD s),.val<|.lst<|zB ds,.val (KS g<|m+1)]) rfl rfl ?_;have t1:Vx (ze 2) (ze 0) [.val (kD s),.val<|.lst<|zB ds,.val (KS g<|m+1)]=cI (.int<|g s):=iF g hs;have t2:wH (zq 1) (ze 0) [.val (kD s),.val<|.lst<|zB ds,.val (KS g<|m+1)]=cI (.int<|g s):=by show(if tu (kD s)=cL/\ve (zB ds)=cL then cI (D.int ((zB ds).countP λd=>n6 d (kD s):Nat))else cR)=_;rw[DZ ⟨rfl,c4⟩];show cI (D.int (((zB ds).countP λd=>n6 d (.tup [.int s.1,.int s.2]):Nat):Int))=_;rw[cn]
   show Sl (Vx (ze 2) (ze 0) _) (λx=>Sl (wH (zq 1) (ze 0) _) λy=>kC x y)=_;rw[t1,t2];exact Kz (d:= .int (g s)) rfl
  have sv:fF (ze 9) (QD ns c q m W I O (.val R) Y<|.val Fd)=cI (.int ((C0 k K).length:Int)):=by
   show(bY<|(stN<|m+1).map λs=>D.int<|g s).map D.int=_;have:((stN<|m+1).map λs=>D.int<|g s)=((stN<|m+1).map g).map D.int:=by rw[OO];rfl
   rw[this,K6,d2];rfl
  have e2:=Kz (d:= .int ((C0 k K).length:Int)) rfl;unfold eH;show SQ _ (Bl _ _ _)=_;have l1:fN (qf<|zT (ue<|ze 9) (.nm 0) 1 [8,9] jS (zw kC (Vx (ze 2)<|ze 0)<|wH (zq 1)<|ze 0)) (QD ns c q m W I O (.val R) Y<|.val Fd)=cI (.bl cL):=by unfold KS at c1;simp[QD,Fd,Y,KS,jA,qM,dd];rw[di,c1];simp[K4]
  have l2:zw kC (fF<|ze 9) (vB<|zq 8) (QD ns c q m W I O (.val R) Y<|.val Fd)=cI (.bl cL):=by show Sl (fF (ze 9) _) (λx=>Sl (vB (zq 8) _) λy=>kC x y)=_;rw[sv,Nx];show kC _ (.int ((zB ds).length:Int))=_;rw[le];exact e2
  show SQ _ (Sl (Sl (fN _ _) De) λb=>if b=cL then zw kC _ _ _ else _)=_;rw[l1];show SQ _ (zw kC _ _ _)=_;rw[l2];rfl
def top(i:Nat):PySem.Stmt:=PySem.Challenge.pw_barsplit_k53_whole_bars_go_over.main.body.getD i<|.Pass ⟨0,0,0,0⟩
section
variable{CR CL:PySem.Addr}{P:PySem.Program}{w:PySem.World}{K:Nr}{mg:PySem.Str->Option PySem.Value}{base:PySem.Heap}
theorem JU(h:us.length=n+1) : ∃a t,us=a::t/\t.length=n:=by
 cases us with
 | nil=>exact absurd h<|Nat.zero_ne_add_one n
 | cons a t=>exact⟨a,t,rfl,Nat.succ.inj h⟩
theorem MK(h:us.length=1) : ∃a,us=[a]:=by obtain⟨a,z,rfl,h0⟩:=JU h;rw[Ov h0];exact⟨a,rfl⟩
theorem MJ(h:us.length=2) : ∃a b,us=[a,b]:=by obtain⟨a,z,rfl,h0⟩:=JU h;obtain⟨b,I,rfl,h1⟩:=JU h0;rw[Ov h1];exact⟨a,b,rfl⟩
theorem Nm(h:us.length=3) : ∃a b c,us=[a,b,c]:=by obtain⟨a,z,rfl,h0⟩:=JU h;obtain⟨b,I,rfl,h1⟩:=JU h0;obtain⟨c,O,rfl,h2⟩:=JU h1;rw[Ov h2];exact⟨a,b,c,rfl⟩
theorem Nl(h:us.length=4) : ∃a b c d,us=[a,b,c,d]:=by obtain⟨a,I,rfl,h0⟩:=JU h;obtain⟨b,O,rfl,h1⟩:=JU h0;obtain⟨c,Y,rfl,h2⟩:=JU h1;obtain⟨d,t3,rfl,z⟩:=JU h2;rw[Ov z];exact⟨a,b,c,d,rfl⟩
theorem Nk{α:Type}{us:List α}(h:us.length=5) : ∃a b c d e,us=[a,b,c,d,e]:=by obtain⟨a,O,rfl,h0⟩:=JU h;obtain⟨b,Y,rfl,h1⟩:=JU h0;obtain⟨c,t2,rfl,h2⟩:=JU h1;obtain⟨d,t3,rfl,z⟩:=JU h2;obtain⟨e,t4,rfl,I⟩:=JU z;rw[Ov I];exact⟨a,b,c,d,e,rfl⟩
theorem Nj{α:Type}{us:List α}(h:us.length=7) : ∃a b c d e f g,us=[a,b,c,d,e,f,g]:=by obtain⟨a,t0,rfl,h0⟩:=JU h;obtain⟨b,t1,rfl,h1⟩:=JU h0;obtain⟨c,t2,rfl,h2⟩:=JU h1;obtain⟨d,t3,rfl,z⟩:=JU h2;obtain⟨e,t4,rfl,I⟩:=JU z;obtain⟨f,zcs,rfl,O⟩:=JU I;obtain⟨g,zct,rfl,Y⟩:=JU O;rw[Ov Y];exact⟨a,b,c,d,e,f,g,rfl⟩
structure E0(K:Nr)(mg:PySem.Str->Option PySem.Value):Prop where
 Q0:l8 K mg "_law_cell" (top 63) ["_law_script","_law_k"]
 Q1:l8 K mg "_law_ways" (top 66) ["_law_cell_here","_law_rooms"]
 Q2:l8 K mg "_law_bars" (top 67) ["_law_script","_law_at","_law_many","_law_rooms"]
 Q3:l8 K mg "ways_of" (top 31) ["row"]
 Q4:l8 K mg "is_whole" (top 7) ["x"]
 Q5:l8 K mg "is_room" (top 30) ["many","k"]
 Q6:l8 K mg "end_of" (top 28) ["k","way"]
 Q7:l8 K mg "arrows_of" (top 34) ["ways","k"]
 Q8:l8 K mg "is_end" (top 35) ["ways","k"]
 Q9:l8 K mg "beginning_of" (top 27) ["k","way"]
 Qa:l8 K mg "is_beginning" (top 36) ["ways","k"]
 Qb:l8 K mg "ask_turn" (top 37) ["ways","k"]
 Qc:l8 K mg "turned_over" (top 11) ["table"]
 Qd:l8 K mg "lines_met" (top 38) ["row","k","ends"]
 Qe:l8 K mg "ask_together" (top 32) ["widths"]
 Qf:l8 K mg "columns" (top 24) ["high","loads"]
 Qg:l8 K mg "behind_noughts" (top 18) ["many","base"]
 Qh:l8 K mg "rests" (top 8) ["p","numbers"]
 Qi:l8 K mg "inverse" (top 9) ["p","x"]
 Qj:l8 K mg "cleared" (top 16) ["p","load","pivot","place"]
 Qk:l8 K mg "base_of" (top 17) ["p","long","loads"]
 Ql:l8 K mg "same_table" (top 12) ["many"]
 Qm:l8 K mg "led_into" (top 20) ["p","table","base"]
 Qn:l8 K mg "kernel" (top 21) ["p","table"]
 Qo:l8 K mg "met_from_end" (top 39) ["p","met"]
 Qp:l8 K mg "image" (top 22) ["p","table"]
 Qq:l8 K mg "lead_of" (top 15) ["load"]
 Qr:l8 K mg "what_is_left" (top 40) ["p","base","load"]
 Qs:l8 K mg "met_from_beginning" (top 41) ["p","met"]
 Qt:l8 K mg "other_way" (top 29) ["way"]
 Qu:l8 K mg "arrow_about" (top 42) ["way","wide","lines","ends"]
 Qv:l8 K mg "arrows_about" (top 43) ["row","k","met","ends"]
 Qw:l8 K mg "turned_about" (top 44) ["row","k"]
 Qx:l8 K mg "_law_moved" (top 72) ["_law_k","_law_some"]
 Qy:l8 K mg "stretches_of" (top 59) ["many"]
 Qz:l8 K mg "led" (top 10) ["p","table","load"]
 _E:l8 K mg "led_on" (top 19) ["p","table","base"]
 _F:l8 K mg "tables_joined" (top 53) ["one","other","join"]
 _G:l8 K mg "nought_table" (top 13) ["high","wide"]
 _H:l8 K mg "no_join" (top 54) ["one","other"]
 _I:l8 K mg "tables_beside" (top 55) ["one","other"]
 _J:l8 K mg "link" (top 57) ["row","i","j"]
 _K:l8 K mg "kept" (top 58) ["row","i","j"]
 _L:l8 K mg "number_of" (top 60) ["much","i","j"]
 _M:l8 K mg "numbers" (top 61) ["row"]
 _N:l8 K mg "_law_can" (top 71) ["_law_ways_here","_law_k"]
 _O:l8 K mg "_law_ends" (top 64) ["_law_k","_law_way"]
 _P:l8 K mg "_law_laid" (top 68) ["_law_ways_here","_law_some"]
 _Q:l8 K mg "_law_row" (top 65) ["_law_p","_law_ways_here","_law_widths","_law_tables"]
 _R:l8 K mg "_law_step" (top 69) ["_law_p","_law_ways_here","_law_tables","_law_room","_law_a","_law_b","_law_times"]
 _S:l8 K mg "_law_built" (top 70) ["_law_script","_law_at","_law_p","_law_ways_here","_law_some"]
 _T:l8 K mg "_law_fits" (top 73) ["_law_row_here"]
 _U:l8 K mg "swapped" (top 45) ["room","one","other"]
 _V:l8 K mg "bars_about" (top 46) ["ways","k","bars"]
 _W:l8 K mg "law" (top 74) ["_law_script"]
 Z0:mg "len" = cR
 Z1:mg "min" = cR
 Z2:mg "range" = cR
 Z3:mg "sorted" = cR
 Z4:mg "bool" = cR
 Z5:mg "int" = cR
 Z6:mg "isinstance" = cR
 Z7:mg "all" = cR
 Z8:mg "tuple" = cR
 Z9:mg "sum" = cR
 Za:mg "any" = cR
 Zb:mg "zip" = cR
 Zc:mg "enumerate" = cR
 Zd:mg "dict" = cR
 Ze:mg "list" = cR
 G0:GL K mg "MOST_TOGETHER" (.int 30)
structure E1(P:PySem.Program)(w:PySem.World)(K:Nr)(mg:PySem.Str->Option PySem.Value)(base:PySem.Heap)(CR CL:PySem.Addr):Prop where
 R4:O5 P w K mg base 3 "arrow_by" CR CL
 U2:MethAt P w K mg base 5 CR yl
 U1:MethAt P w K mg base 5 CL qp
theorem xW(E:E0 K mg):l9 P w K mg base 1 "_law_cell" 2 z6:=
 xC (N:=["_law_script","_law_k","_law_cell_here","_law_turn","_law_given"]) E.Q0 ⋯ λX z hw I hm hb h0 hx=>by subst z hw I hm hb;exact by refine zg (qJ (vM (xV (QY (qZ h0 ⋯ E.Z0 (z5 h0)) zm) (qQ (qt h0 (j8 (zL (z5 h0) zm) zm) zm)))) (by refine zg (jL h0 (zL (z5 h0) (jn zm (j8 (zu h0) (qI (qZ h0 ⋯ E.Z0 (z5 h0)) zm))))) ?_;refine zg (kK hx h0 (qC h0 ⋯ E.Z2 (Cr h0 ⋯ E.Z1 zm (Zf (zu h0) (qI (qZ h0 ⋯ E.Z0 (z5 h0)) zm)))) (zo (jL h0 (Zf (zu h0) (fS zm zm))))) ?_;exact(zo (zO (j8 (zu h0) (fS zm zm))))) jX) ?_;refine zg (jL h0 (zu h0)) ?_;refine zg (qJ (QY (qZ h0 ⋯ E.Z0 (z5 h0)) zm) (zo (jL h0 (zL (z5 h0) (j8 (zu h0) (qZ h0 ⋯ E.Z0 (z5 h0)))))) jX) ?_;exact(zo (zO (j8 (qv (j8 (jn (jn (jn (qv (j8 (zu h0) (fS zm zm)) zm) (qv (qv zm (zu h0)) (zu h0))) (qv zm (zu h0))) zm) zm) zm) zm)))
theorem Jh(E:E0 K mg):l9 P w K mg base 1 "_law_ways" 2 xt:=
 xC (N:=["_law_cell_here","_law_rooms","_law_ways_here","_law_k"]) E.Q1 ⋯ λX z hw I hm hb h0 hx=>by subst z hw I hm hb;exact by refine zg (jL h0 kj) ?_;refine zg (kK hx h0 (qC h0 ⋯ E.Z2 (qI (zu h0) zm)) (by refine zg (jL h0 (uq (zu h0) (XY kj (j8 (zu h0) zm)))) ?_;exact(zo (jL h0 (Zf (zu h0) zm))))) ?_;exact(zo (k9 2 (h0.var ⋯)))
theorem J6(E:E0 K mg):l9 P w K mg base 2 "_law_bars" 4 yo:=
 xC (N:=["_law_script","_law_at","_law_many","_law_rooms","_law_some","_law_k","_law_cell_here","_law_i"]) E.Q2 ⋯ λX z hw I hm hb h0 hx=>by subst z hw I hm hb;exact by refine zg (vO h0 (vg (xO zh))) ?_;refine zg (kK hx h0 (qC h0 ⋯ E.Z2 (zu h0)) (by refine zg (jL h0 (ja (xW E) h0 (za (zu h0) (za (jn (zu h0) (zu h0)) zh)))) ?_;refine zg (jL h0 (j8 (zu h0) (zu h0))) ?_;exact(zo (yH 4 h0 ⋯ (jk (xO (za (zu h0) (za (jn (zu h0) (j8 (Zf (zu h0) (zu h0)) (qI (zu h0) (zu h0)))) zh)))))))) ?_;exact(zo (xM (X7 h0 ⋯ E.Z3 (z5 h0))))
theorem Xc(E:E0 K mg):l9 P w K mg base 1 "ways_of" 1 kW:=
 xC (N:=["row"]) E.Q3 ⋯ λX z hw I hm hb h0 hx=>by subst z hw I hm hb;exact zo (zO (uo kj (PO.q (xN h0 (jh (PV.q (zL (z5 h0) zm))) (λ_ _ _ h1=>zL (z5 h1) zm)))))
theorem VM(E:E0 K mg):l9 P w K mg base 1 "is_whole" 1 XB:=
 xC (N:=["x"]) E.Q4 ⋯ λX z hw I hm hb h0 hx=>by subst z hw I hm hb;exact zo (zO (fY (fU h0 ⋯ E.Z6 ⋯ E.Z5 (zu h0)) (fT (Cp (cu h0 ⋯ E.Z6 ⋯ E.Z4 (zu h0))))))
theorem cQ(E:E0 K mg):l9 P w K mg base 2 "is_room" 2 wu:=
 xC (N:=["many","k"]) E.Q5 ⋯ λX z hw I hm hb h0 hx=>by subst z hw I hm hb;exact zo (zO (fY (ja (VM E) h0 (za (zu h0) zh)) (fT (nD cK uU QP fz zm (zu h0) (zu h0)))))
theorem gE(E:E0 K mg):l9 P w K mg base 1 "end_of" 2 KO:=
 xC (N:=["k","way"]) E.Q6 ⋯ λX z hw I hm hb h0 hx=>by subst z hw I hm hb;exact zo (zO (xn (qt h0 (zu h0) kj) (jn (zu h0) zm) (zu h0)))
theorem yK(E:E0 K mg):l9 P w K mg base 1 "arrows_of" 2 qH:=
 xC (N:=["ways","k"]) E.Q7 ⋯ λX z hw I hm hb h0 hx=>by subst z hw I hm hb;exact zo (xM (cE h0 (jh (PV.q (jk (xO (za (qI (zu h0) zm) (za (zu h0) zh)))))) (λ_ _ _ h1=>ZX cK uU QP fz zm (zu h1) (XZ h1 ⋯ E.Z0 (zu h1))) (λ_ _ _ h1=>zu h1)))
theorem YA(E:E0 K mg):l9 P w K mg base 2 "is_end" 2 wz:=
 xC (N:=["ways","k"]) E.Q8 ⋯ λX z hw I hm hb h0 hx=>by subst z hw I hm hb;exact zo (zO (W8 h0 ⋯ E.Z7 (PO.q (xN h0 (jh (PO.q (yv (yK E) h0 (za (zu h0) (za (zu h0) zh))))) (λ_ _ _ h1=>cv h1 (ja (gE E) h1 (za (zu h1) (za (XY (zu h1) (zu h1)) zh))) (zu h1))))))
theorem Jj(E:E0 K mg):l9 P w K mg base 1 "beginning_of" 2 kE:=
 xC (N:=["k","way"]) E.Q9 ⋯ λX z hw I hm hb h0 hx=>by subst z hw I hm hb;exact zo (zO (xn (qt h0 (zu h0) kj) (zu h0) (jn (zu h0) zm)))
theorem Ji(E:E0 K mg):l9 P w K mg base 2 "is_beginning" 2 vk:=
 xC (N:=["ways","k"]) E.Qa ⋯ λX z hw I hm hb h0 hx=>by subst z hw I hm hb;exact zo (zO (W8 h0 ⋯ E.Z7 (PO.q (xN h0 (jh (PO.q (yv (yK E) h0 (za (zu h0) (za (zu h0) zh))))) (λ_ _ _ h1=>cv h1 (ja (Jj E) h1 (za (zu h1) (za (XY (zu h1) (zu h1)) zh))) (zu h1))))))
theorem Jk(E:E0 K mg):l9 P w K mg base 3 "ask_turn" 2 kY:=
 xC (N:=["ways","k"]) E.Qb ⋯ λX z hw I hm hb h0 hx=>by subst z hw I hm hb;exact by refine zg (qJ (yG (k8 (ja (cQ E) h0 (za (jn (XZ h0 ⋯ E.Z0 (zu h0)) zm) (za (zu h0) zh))))) (zo vN) jX) ?_;exact(zo (qJ (vM (xV (yG (k8 (ja (YA E) h0 (za (zu h0) (za (zu h0) zh))))) (qQ (yG (k8 (ja (Ji E) h0 (za (zu h0) (za (zu h0) zh)))))))) (zo vN) jX))
theorem qa(E:E0 K mg):l9 P w K mg base 1 "turned_over" 1 jx:=
 xC (N:=["table","columns"]) E.Qc ⋯ λX z hw I hm hb h0 hx=>by subst z hw I hm hb;exact by refine zg (ql 1 (Zo h0 (o9.c (qC h0 ⋯ E.Z2 (zL (z5 h0) zm))) (λ_ _ _ h1=>j6 h1 ⋯ E.Z8 (PO.q (xN h1 (jh (PV.q (zL (z5 h1) zm))) (λ_ _ _ h2=>zL (z5 h2) (zu h2))))))) ?_;exact(zo (zO (jk (xO (za (zL (z5 h0) zm) (za (zL (z5 h0) zm) (za (j6 h0 ⋯ E.Z8 (z5 h0)) zh)))))))
theorem Yx(E:E0 K mg):l9 P w K mg base 2 "lines_met" 3 yk:=
 xC (N:=["row","k","ends","lines","at","table"]) E.Qd ⋯ λX z hw I hm hb h0 hx=>by subst z hw I hm hb;exact by refine zg (vO h0 (vg (xO zh))) ?_;refine zg (kK hx h0 (X9 (PO.v (yv (yK E) h0 (za (ja (Xc E) h0 (za (zu h0) zh)) (za (zu h0) zh))))) (by refine zg (jL h0 (zL (PV.q (zL (PV.q (zL (z5 h0) zm)) (zu h0))) zm)) ?_;exact(zo (nK 3 h0 ⋯ (PV.q (xn (k8 (zu h0)) (zL (PV.q (ja (qa E) h0 (za (zu h0) zh))) zm) (zL (z5 h0) zm))))))) ?_;exact(zo (zO (j6 h0 ⋯ E.Z8 (z5 h0))))
theorem Jl(E:E0 K mg):l9 P w K mg base 1 "ask_together" 1 xu:=
 xC (N:=["widths"]) E.Qe ⋯ λX z hw I hm hb h0 hx=>by subst z hw I hm hb;exact zo (qJ (QY (rK h0 ⋯ E.Z9 (z5 h0)) (HD h0 ⋯ E.G0)) (zo vN) jX)
theorem cT(E:E0 K mg):l9 P w K mg base 2 "columns" 2 wB:=
 xC (N:=["high","loads"]) E.Qf ⋯ λX z hw I hm hb h0 hx=>by subst z hw I hm hb;exact zo (zO (ja (qa E) h0 (za (jk (xO (za (qZ h0 ⋯ E.Z0 (z5 h0)) (za (zu h0) (za (j6 h0 ⋯ E.Z8 (z5 h0)) zh))))) zh)))
theorem xj(E:E0 K mg):l9 P w K mg base 1 "behind_noughts" 2 jO:=
 xC (N:=["many","base"]) E.Qg ⋯ λX z hw I hm hb h0 hx=>by subst z hw I hm hb;exact zo (xM (cE h0 (jh (z5 h0)) (λ_ _ _ h1=>yG (k8 (Cv h1 ⋯ E.Za (PV.q (vK (zu h1) xE (qR (zu h1))))))) (λ_ _ _ h1=>vK (zu h1) (qR (zu h1)) xE)))
theorem Zy(E:E0 K mg):l9 P w K mg base 1 "rests" 2 xI:=
 xC (N:=["p","numbers"]) E.Qh ⋯ λX z hw I hm hb h0 hx=>by subst z hw I hm hb;exact zo (zO (j6 h0 ⋯ E.Z8 (PO.q (xN h0 (jh (z5 h0)) (λ_ _ _ h1=>j8 (zu h1) (zu h1))))))
theorem cS(E:E0 K mg):l9 P w K mg base 1 "inverse" 2 wA:=
 xC (N:=["p","x","y"]) E.Qi ⋯ λX z hw I hm hb h0 hx=>by subst z hw I hm hb;exact by refine zg (kK hx h0 (ai h0 ⋯ E.Z2 zm (zu h0)) (zo (qJ (qt h0 (j8 (qv (zu h0) (zu h0)) (zu h0)) zm) (zo (k9 2 (h0.var ⋯))) jX))) ?_;exact(zo vN)
theorem wN(E:E0 K mg):l9 P w K mg base 2 "cleared" 4 j3:=
 xC (N:=["p","load","pivot","place","much"]) E.Qj ⋯ λX z hw I hm hb h0 hx=>by subst z hw I hm hb;exact by refine zg (jL h0 (zL (z5 h0) (zu h0))) ?_;refine zg (qJ (qt h0 (zu h0) zm) (zo (k9 1 (h0.var ⋯))) jX) ?_;exact(zo (zO (ja (Zy E) h0 (za (zu h0) (za (PO.v (xN h0 (o9.c (Yr h0 ⋯ E.Zb (zu h0) (zu h0))) (λ_ _ _ h1=>qI (zu h1) (qv (zu h1) (zu h1))))) zh)))))
theorem yW(E:E0 K mg):l9 P w K mg base 3 "base_of" 3 kc:=
 xC (N:=["p","long","loads","left","base","place","leading","times","pivot"]) E.Qk ⋯ λX z hw I hm hb h0 hx=>by subst z hw I hm hb;exact by refine zg (ql 3 (Zo h0 (jh (z5 h0)) (λ_ _ _ h1=>ja (Zy E) h1 (za (zu h1) (za (zu h1) zh))))) ?_;refine zg (vO h0 (vg (xO zh))) ?_;refine zg (kK hx h0 (qC h0 ⋯ E.Z2 (zu h0)) (by refine zg (ql 6 (CD h0 (jh (z5 h0)) (λ_ _ _ h1=>kJ h1 (zL (z5 h1) (zu h1)) zm) (λ_ _ _ h1=>zu h1))) ?_;refine zg (qJ (yG (nH (z5 h0))) (zo Yo) jX) ?_;refine zg (jL h0 (ja (cS E) h0 (za (zu h0) (za (zL (PV.q (zL (z5 h0) zm)) (zu h0)) zh)))) ?_;refine zg (jL h0 (ja (Zy E) h0 (za (zu h0) (za (PO.v (xN h0 (jh (PV.q (zL (z5 h0) zm))) (λ_ _ _ h1=>qv (zu h1) (zu h1)))) zh)))) ?_;refine zg (ql 3 (Zo h0 (jh (z5 h0)) (λ_ _ _ h1=>ja (wN E) h1 (za (zu h1) (za (zu h1) (za (zu h1) (za (zu h1) zh))))))) ?_;exact(zo (vO h0 (gj (PO.q (xN h0 (jh (z5 h0)) (λ_ _ _ h1=>ja (wN E) h1 (za (zu h1) (za (zu h1) (za (zu h1) (za (zu h1) zh))))))) (PO.q (vg (xO (za (zu h0) zh))))))))) ?_;exact(zo (k9 4 (h0.var ⋯)))
theorem yb(E:E0 K mg):l9 P w K mg base 1 "same_table" 1 j5:=
 xC (N:=["many","rows"]) E.Ql ⋯ λX z hw I hm hb h0 hx=>by subst z hw I hm hb;exact by refine zg (ql 1 (Zo h0 (o9.c (qC h0 ⋯ E.Z2 (zu h0))) (λ_ _ _ h1=>j6 h1 ⋯ E.Z8 (PO.q (xN h1 (o9.c (qC h1 ⋯ E.Z2 (zu h1))) (λ_ _ _ h2=>xn (qt h2 (zu h2) (zu h2)) zm zm)))))) ?_;exact(zo (zO (jk (xO (za (zu h0) (za (zu h0) (za (j6 h0 ⋯ E.Z8 (z5 h0)) zh)))))))
theorem VH(E:E0 K mg):l9 P w K mg base 4 "led_into" 3 qp:=
 xC (N:=["p","table","base","pairs","free"]) E.Qm ⋯ λX z hw I hm hb h0 hx=>by subst z hw I hm hb;exact by refine zg (ql 3 (Zo h0 (o9.c (Yr h0 ⋯ E.Zb (zL (PV.q (ja (qa E) h0 (za (zu h0) zh))) zm) (zL (PV.q (ja (yb E) h0 (za (zL (z5 h0) zm) zh))) zm))) (λ_ _ _ h1=>jn (zu h1) (zu h1)))) ?_;refine zg (ql 4 (Zo h0 (jh (z5 h0)) (λ_ _ _ h1=>jn (zu h1) (qv (jk (xO (za zm zh))) (zL (z5 h1) zm))))) ?_;exact(zo (xM (yv (xj E) h0 (za (zL (z5 h0) zm) (za (PO.v (yv (yW E) h0 (za (zu h0) (za (jn (zL (z5 h0) zm) (zL (z5 h0) zm)) (za (PO.v (gj (z5 h0) (z5 h0))) zh))))) zh)))))
theorem gD(E:E0 K mg):l9 P w K mg base 5 "kernel" 2 ZG:=
 xC (N:=["p","table"]) E.Qn ⋯ λX z hw I hm hb h0 hx=>by subst z hw I hm hb;exact zo (xM (yv (VH E) h0 (za (zu h0) (za (zu h0) (za (PO.v (vg (xO zh))) zh)))))
theorem Jg(E:E0 K mg):l9 P w K mg base 6 "met_from_end" 2 qB:=
 xC (N:=["p","met"]) E.Qo ⋯ λX z hw I hm hb h0 hx=>by subst z hw I hm hb;exact zo (zO (ja (cT E) h0 (za (zL (z5 h0) zm) (za (PO.v (yv (gD E) h0 (za (zu h0) (za (ja (qa E) h0 (za (zu h0) zh)) zh)))) zh))))
theorem oo(E:E0 K mg):l9 P w K mg base 4 "image" 2 KN:=
 xC (N:=["p","table"]) E.Qp ⋯ λX z hw I hm hb h0 hx=>by subst z hw I hm hb;exact zo (xM (yv (yW E) h0 (za (zu h0) (za (zL (z5 h0) zm) (za (zL (PV.q (ja (qa E) h0 (za (zu h0) zh))) zm) zh)))))
theorem Xe(E:E0 K mg):l9 P w K mg base 1 "lead_of" 1 xy:=
 xC (N:=["load"]) E.Qq ⋯ λX z hw I hm hb h0 hx=>by subst z hw I hm hb;exact zo (zO (zL (PO.q (cE h0 (o9.c (aj h0 ⋯ E.Zc (zu h0))) (λ_ _ _ h1=>kJ h1 (zu h1) zm) (λ_ _ _ h1=>zu h1))) zm))
theorem Jc(E:E0 K mg):l9 P w K mg base 3 "what_is_left" 3 qc:=
 xC (N:=["p","base","load","left","pivot","leads"]) E.Qr ⋯ λX z hw I hm hb h0 hx=>by subst z hw I hm hb;exact by refine zg (jL h0 (zu h0)) ?_;refine zg (kK hx h0 (X9 (zu h0)) (zo (jL h0 (ja (wN E) h0 (za (zu h0) (za (zu h0) (za (zu h0) (za (ja (Xe E) h0 (za (zu h0) zh)) zh)))))))) ?_;refine zg (ql 5 (Zo h0 (jh (z5 h0)) (λ_ _ _ h1=>ja (Xe E) h1 (za (zu h1) zh)))) ?_;exact(zo (zO (j6 h0 ⋯ E.Z8 (PO.q (cE h0 (o9.c (aj h0 ⋯ E.Zc (zu h0))) (λ_ _ _ h1=>cz (zu h1) (z5 h1)) (λ_ _ _ h1=>zu h1))))))
theorem zav(E:E0 K mg):l9 P w K mg base 5 "met_from_beginning" 2 jz:=
 xC (N:=["p","met","base","lines"]) E.Qs ⋯ λX z hw I hm hb h0 hx=>by subst z hw I hm hb;exact by refine zg (jL h0 (PO.v (yv (oo E) h0 (za (zu h0) (za (zu h0) zh))))) ?_;refine zg (ql 3 (Zo h0 (jh (PV.q (zL (PV.q (ja (yb E) h0 (za (zL (z5 h0) zm) zh))) zm))) (λ_ _ _ h1=>ja (Jc E) h1 (za (zu h1) (za (zu h1) (za (zu h1) zh)))))) ?_;exact(zo (zO (jk (xO (za (zL (z5 h0) zm) (za (qI (zL (z5 h0) zm) (qZ h0 ⋯ E.Z0 (z5 h0))) (za (j6 h0 ⋯ E.Z8 (z5 h0)) zh)))))))
theorem Yv(E:E0 K mg):l9 P w K mg base 1 "other_way" 1 yj:=
 xC (N:=["way"]) E.Qt ⋯ λX z hw I hm hb h0 hx=>by subst z hw I hm hb;exact zo (zO (xn (qt h0 (zu h0) kj) kj kj))
theorem J7(E:E0 K mg):l9 P w K mg base 2 "arrow_about" 4 qW:=
 xC (N:=["way","wide","lines","ends","table"]) E.Qu ⋯ λX z hw I hm hb h0 hx=>by subst z hw I hm hb;exact by refine zg (jL h0 (jk (xO (za (qZ h0 ⋯ E.Z0 (z5 h0)) (za (zu h0) (za (zu h0) zh)))))) ?_;exact(zo (zO (jk (xO (za (ja (Yv E) h0 (za (zu h0) zh)) (za (xn (k8 (zu h0)) (zu h0) (ja (qa E) h0 (za (zu h0) zh))) zh))))))
theorem Jm(E:E0 K mg):l9 P w K mg base 3 "arrows_about" 4 xv:=
 xC (N:=["row","k","met","ends","split","parts","made","at","arrow"]) E.Qv ⋯ λX z hw I hm hb h0 hx=>by subst z hw I hm hb;exact by refine zg (jL h0 (xn (QY (zu h0) zm) (zL (PV.q (zL (z5 h0) zm)) (qI (zu h0) zm)) zm)) ?_;refine zg (jL h0 (Cu (qI (zu h0) zm) (vK (zL (z5 h0) zm) xE (qR (zu h0))) (zu h0) (vK (zL (z5 h0) zm) (qR (zu h0)) xE))) ?_;refine zg (vO h0 (vg (xO zh))) ?_;refine zg (kK hx h0 (aj h0 ⋯ E.Zc (zL (z5 h0) zm)) (zo (yH 6 h0 ⋯ (xn (uu h0 (zu h0) (zu h0)) (ja (J7 E) h0 (za (zL (z5 h0) zm) (za (zL (z5 h0) zm) (za (Ct h0 (zu h0) (zu h0)) (za (zu h0) zh))))) (zu h0))))) ?_;exact(zo (zO (j6 h0 ⋯ E.Z8 (z5 h0))))
theorem Jd(E:E0 K mg):l9 P w K mg base 7 "turned_about" 2 qA:=
 xC (N:=["row","k","ways","ends","lines","old","new","widths"]) E.Qw ⋯ λX z hw I hm hb h0 hx=>by subst z hw I hm hb;exact by refine zg (jL h0 (ja (Xc E) h0 (za (zu h0) zh))) ?_;refine zg (X6 (ja (Jk E) h0 (za (zu h0) (za (zu h0) zh)))) ?_;refine zg (jL h0 (ja (YA E) h0 (za (zu h0) (za (zu h0) zh)))) ?_;refine zg (jL h0 (ja (Yx E) h0 (za (zu h0) (za (zu h0) (za (zu h0) zh))))) ?_;refine zg (jL h0 (jk (xO (za (qZ h0 ⋯ E.Z0 (z5 h0)) (za (zL (PV.q (zL (z5 h0) zm)) (zu h0)) (za (zu h0) zh)))))) ?_;refine zg (jL h0 (xn (k8 (zu h0)) (ja (Jg E) h0 (za (zL (z5 h0) zm) (za (zu h0) zh))) (ja (zav E) h0 (za (zL (z5 h0) zm) (za (zu h0) zh))))) ?_;refine zg (jL h0 (jn (jn (vK (zL (z5 h0) zm) xE (qR (zu h0))) (jk (xO (za (zL (z5 h0) zm) zh)))) (vK (zL (z5 h0) zm) (qR (jn (zu h0) zm)) xE))) ?_;refine zg (X6 (ja (Jl E) h0 (za (zu h0) zh))) ?_;exact(zo (zO (jk (xO (za (zL (z5 h0) zm) (za (zu h0) (za (ja (Jm E) h0 (za (zu h0) (za (zu h0) (za (zu h0) (za (zu h0) zh))))) zh)))))))
theorem Yy(E:E0 K mg):l9 P w K mg base 1 "_law_moved" 2 ym:=
 xC (N:=["_law_k","_law_some","_law_made","_law_i","_law_j"]) E.Qx ⋯ λX z hw I hm hb h0 hx=>by subst z hw I hm hb;exact by refine zg (vO h0 (vg (xO zh))) ?_;refine zg (kK hx h0 (X9 (zu h0)) (zo (qJ (vM (xV (rM (zu h0) (zu h0)) (qQ (qt h0 (zu h0) (zu h0))))) (zo (yH 2 h0 ⋯ (jk (xO (za (zu h0) (za (qI (zu h0) zm) zh)))))) (zo (qJ (vM (xV (rM (zu h0) (zu h0)) (qQ (qt h0 (zu h0) (qI (zu h0) zm))))) (zo (yH 2 h0 ⋯ (jk (xO (za (zu h0) (za (zu h0) zh)))))) (zo (qJ (vM (xV (qt h0 (zu h0) (zu h0)) (qQ (QY (zu h0) (zu h0))))) (zo (yH 2 h0 ⋯ (jk (xO (za (jn (zu h0) zm) (za (zu h0) zh)))))) (zo (qJ (vM (xV (qt h0 (zu h0) (jn (zu h0) zm)) (qQ (QY (zu h0) (zu h0))))) (zo (yH 2 h0 ⋯ (jk (xO (za (zu h0) (za (zu h0) zh)))))) (zo (qJ (kJ h0 (jk (xO (za (zu h0) (za (zu h0) zh)))) (jk (xO (za (zu h0) (za (zu h0) zh))))) (zo (yH 2 h0 ⋯ (jk (xO (za (zu h0) (za (zu h0) zh)))))) jX))))))))))) ?_;exact(zo (xM (X7 h0 ⋯ E.Z3 (z5 h0))))
theorem Je(E:E0 K mg):l9 P w K mg base 1 "stretches_of" 1 kB:=
 xC (N:=["many","found","i"]) E.Qy ⋯ λX z hw I hm hb h0 hx=>by subst z hw I hm hb;exact by refine zg (vO h0 (vg (xO zh))) ?_;refine zg (kK hx h0 (qC h0 ⋯ E.Z2 (zu h0)) (zo (uy 1 h0 ⋯ (xN h0 (o9.c (ai h0 ⋯ E.Z2 (zu h0) (zu h0))) (λ_ _ _ h1=>jk (xO (za (zu h1) (za (zu h1) zh)))))))) ?_;exact(zo (k9 1 (h0.var ⋯)))
theorem Ee(E:E0 K mg):l9 P w K mg base 2 "led" 3 lX:=
 xC (N:=["p","table","load"]) E.Qz ⋯ λX z hw I hm hb h0 hx=>by subst z hw I hm hb;exact zo (zO (ja (Zy E) h0 (za (zu h0) (za (PO.v (xN h0 (jh (PV.q (zL (z5 h0) zm))) (λ_ _ _ h1=>rK h1 ⋯ E.Z9 (PO.q (xN h1 (o9.c (Yr h1 ⋯ E.Zb (zu h1) (zu h1))) (λ_ _ _ h2=>qv (zu h2) (zu h2))))))) zh))))
theorem Ed(E:E0 K mg):l9 P w K mg base 4 "led_on" 3 yl:=
 xC (N:=["p","table","base"]) E._E ⋯ λX z hw I hm hb h0 hx=>by subst z hw I hm hb;exact zo (xM (yv (yW E) h0 (za (zu h0) (za (zL (z5 h0) zm) (za (PO.v (xN h0 (jh (z5 h0)) (λ_ _ _ h1=>ja (Ee E) h1 (za (zu h1) (za (zu h1) (za (zu h1) zh)))))) zh)))))
theorem Zp(E:E0 K mg):l9 P w K mg base 1 "tables_joined" 3 qU:=
 xC (N:=["one","other","join","first","second"]) E._F ⋯ λX z hw I hm hb h0 hx=>by subst z hw I hm hb;exact by refine zg (ql 3 (Zo h0 (o9.c (Yr h0 ⋯ E.Zb (zL (z5 h0) zm) (zL (z5 h0) zm))) (λ_ _ _ h1=>jn (zu h1) (zu h1)))) ?_;refine zg (ql 4 (Zo h0 (jh (PV.q (zL (z5 h0) zm))) (λ_ _ _ h1=>jn (qv (jk (xO (za zm zh))) (zL (z5 h1) zm)) (zu h1)))) ?_;exact(zo (zO (jk (xO (za (jn (zL (z5 h0) zm) (zL (z5 h0) zm)) (za (jn (zL (z5 h0) zm) (zL (z5 h0) zm)) (za (j6 h0 ⋯ E.Z8 (PV.q (PO.v (gj (z5 h0) (z5 h0))))) zh)))))))
theorem Jf(E:E0 K mg):l9 P w K mg base 1 "nought_table" 2 xq:=
 xC (N:=["high","wide"]) E._G ⋯ λX z hw I hm hb h0 hx=>by subst z hw I hm hb;exact zo (zO (jk (xO (za (zu h0) (za (zu h0) (za (qv (jk (xO (za (qv (jk (xO (za zm zh))) (zu h0)) zh))) (zu h0)) zh))))))
theorem cO(E:E0 K mg):l9 P w K mg base 2 "no_join" 2 wt:=
 xC (N:=["one","other"]) E._H ⋯ λX z hw I hm hb h0 hx=>by subst z hw I hm hb;exact zo (zO (ja (Jf E) h0 (za (zL (z5 h0) zm) (za (zL (z5 h0) zm) zh))))
theorem vQ(E:E0 K mg):l9 P w K mg base 3 "tables_beside" 2 qo:=
 xC (N:=["one","other"]) E._I ⋯ λX z hw I hm hb h0 hx=>by subst z hw I hm hb;exact zo (zO (ja (Zp E) h0 (za (zu h0) (za (zu h0) (za (ja (cO E) h0 (za (zu h0) (za (zu h0) zh))) zh)))))
theorem uW(E:E0 K mg)(A:E1 P w K mg base CR CL):l9 P w K mg base 6 "link" 3 bD:=
 xC (N:=["row","i","j","same","base","arrow"]) E._J ⋯ λX z hw I hm hb h0 hx=>by subst z hw I hm hb;exact by refine zg (jL h0 (ja (yb E) h0 (za (zL (PV.q (zL (z5 h0) zm)) (zu h0)) zh))) ?_;refine zg (W9 4 (Zo h0 (jh (PV.q (zL (z5 h0) zm))) (λ_ _ _ h1=>jn (zu h1) (zu h1)))) ?_;refine zg (kK hx h0 (X9 (vK (zL (z5 h0) zm) (qR (zu h0)) (qR (zu h0)))) (zo (uw 4 (vO h0 (nP A.R4 A.U2 A.U1 ⋯ ⋯ ⋯ h0 ⋯ (zL (z5 h0) zm) (zL (z5 h0) zm) (ja (vQ E) h0 (za (zu h0) (za (zL (z5 h0) zm) zh))) (zu h0)))))) ?_;exact(zo (k9 4 (h0.var ⋯)))
theorem uX(E:E0 K mg)(A:E1 P w K mg base CR CL):l9 P w K mg base 7 "kept" 3 JR:=
 xC (N:=["row","i","j","base","first","second","swapped"]) E._K ⋯ λX z hw I hm hb h0 hx=>by subst z hw I hm hb;exact by refine zg (jL h0 (PO.v (yv (uW E A) h0 (za (zu h0) (za (zu h0) (za (zu h0) zh)))))) ?_;refine zg (jL h0 (zL (PV.q (zL (z5 h0) zm)) (zu h0))) ?_;refine zg (jL h0 (zL (PV.q (zL (z5 h0) zm)) (zu h0))) ?_;refine zg (jL h0 (PO.v (yv (yW E) h0 (za (zL (z5 h0) zm) (za (jn (zu h0) (zu h0)) (za (PO.v (xN h0 (jh (z5 h0)) (λ_ _ _ h1=>jn (vK (zu h1) (qR (zu h1)) xE) (vK (zu h1) xE (qR (zu h1)))))) zh)))))) ?_;exact(zo (zO (qI (qI (qZ h0 ⋯ E.Z0 (z5 h0)) (qZ h0 ⋯ E.Z0 (PO.q (yv (xj E) h0 (za (zu h0) (za (zu h0) zh)))))) (qZ h0 ⋯ E.Z0 (PO.q (yv (xj E) h0 (za (zu h0) (za (zu h0) zh))))))))
theorem Yw(E:E0 K mg):l9 P w K mg base 1 "number_of" 3 ka:=
 xC (N:=["much","i","j","longer"]) E._L ⋯ λX z hw I hm hb h0 hx=>by subst z hw I hm hb;exact by refine zg (jL h0 (jn (VB h0 (zu h0) (jk (xO (za (qI (zu h0) zm) (za (zu h0) zh)))) zm) (VB h0 (zu h0) (jk (xO (za (zu h0) (za (jn (zu h0) zm) zh)))) zm))) ?_;exact(zo (zO (jn (qI (fW h0 (zu h0) (jk (xO (za (zu h0) (za (zu h0) zh))))) (zu h0)) (VB h0 (zu h0) (jk (xO (za (qI (zu h0) zm) (za (jn (zu h0) zm) zh)))) zm))))
theorem cN(E:E0 K mg)(A:E1 P w K mg base CR CL):l9 P w K mg base 8 "numbers" 1 yS:=
 xC (N:=["row","stretches","much"]) E._M ⋯ λX z hw I hm hb h0 hx=>by subst z hw I hm hb;exact by refine zg (jL h0 (PO.v (yv (Je E) h0 (za (qZ h0 ⋯ E.Z0 (PV.q (zL (z5 h0) zm))) zh)))) ?_;refine zg (jL h0 (W7 h0 ⋯ E.Zd (xN h0 (jh (z5 h0)) (λ_ _ _ h1=>jk (xO (za (jk (xO (za (zu h1) (za (zu h1) zh)))) (za (ja (uX E A) h1 (za (zu h1) (za (zu h1) (za (zu h1) zh)))) zh))))))) ?_;exact(zo (zO (W7 h0 ⋯ E.Zd (xN h0 (jh (z5 h0)) (λ_ _ _ h1=>jk (xO (za (jk (xO (za (zu h1) (za (zu h1) zh)))) (za (ja (Yw E) h1 (za (zu h1) (za (zu h1) (za (zu h1) zh)))) zh))))))))
theorem cP(E:E0 K mg):l9 P w K mg base 1 "_law_can" 2 Vk:=
 xC (N:=["_law_ways_here","_law_k","_law_left","_law_right"]) E._N ⋯ λX z hw I hm hb h0 hx=>by subst z hw I hm hb;exact by refine zg (qJ (yG (ZX cK cK QP QP zm (zu h0) (XZ h0 ⋯ E.Z0 (zu h0)))) (zo (zO kj)) jX) ?_;refine zg (jL h0 (W6 (W6 (zu h0) xE (qR (zu h0))) (qR (Cq zm)) xE)) ?_;refine zg (jL h0 (W6 (W6 (zu h0) (qR (zu h0)) xE) xE (qR zm))) ?_;refine zg (qJ (vM (xV (qt h0 (zu h0) (zu h0)) (qQ (kJ h0 (zu h0) kj)))) (zo (zO kj)) jX) ?_;exact(zo (zO kj))
theorem qS(E:E0 K mg):l9 P w K mg base 1 "_law_ends" 2 z9:=
 xC (N:=["_law_k","_law_way"]) E._O ⋯ λX z hw I hm hb h0 hx=>by subst z hw I hm hb;exact by refine zg (qJ (qt h0 (zu h0) kj) (zo (zO (jk (xO (za (zu h0) (za (jn (zu h0) zm) zh)))))) jX) ?_;exact(zo (zO (jk (xO (za (jn (zu h0) zm) (za (zu h0) zh))))))
theorem VJ(E:E0 K mg):O6 P w K mg base 2 "_law_laid" 2 xT:=
 MU (N:=["_law_ways_here","_law_some","_law_stand","_law_tables","_law_k","_law_way","_law_begin","_law_end"]) E._P ⋯ λX z hw I hm hb h0 hx=>by subst z hw I hm hb;exact EC (ql 2 (Zo h0 (o9.c (qC h0 ⋯ E.Z2 (jn (XZ h0 ⋯ E.Z0 (zu h0)) zm))) (λ_ _ _ h1=>PO.v (cE h1 (o9.c (qC h1 ⋯ E.Z2 (qZ h1 ⋯ E.Z0 (z5 h1)))) (λ_ _ _ h2=>ZX cK cK QP QP (zL (PV.q (zL (z5 h2) (zu h2))) zm) (zu h2) (zL (PV.q (zL (z5 h2) (zu h2))) zm)) (λ_ _ _ h2=>zu h2))))) (HV (h0.set 3 ⋯ (rS jJ)) (mw (T:= .tp [4,5]) (Jb hx) h0.calm (VF h0 ⋯ E.Zc (zu h0)) (h0.F6 (jP (h0.wx 4 ⋯) (jP (h0.wx 5 ⋯) yI))) (Vq (mq (T:= .tp [6,7]) (Xa (ja (qS E) h0 (za (zu h0) (za (zu h0) zh))) (h0.F6 (jP (h0.wx 6 ⋯) (jP (h0.wx 7 ⋯) yI))))) (JX (GP 3 NL (by rfl) h0 ⋯ (nQ (own:=["_law_x"]) (fr:=[("_law_stand",2),("_law_begin",6)]) (T:= .nm 0) h0.calm (h0.Q_ (fr:=[("_law_stand",2),("_law_begin",6)]) ⋯) ⋯ (jh (PV.q (zL (z5 h0) (zu h0)))) (λfp s2 H2=>have h1:=h0.cq ["_law_x"] [("_law_stand",2),("_law_begin",6)] fp s2 H2 ⋯;h1.wx 0 ⋯) (λfp s2 H2=>have h1:=h0.cq ["_law_x"] [("_law_stand",2),("_law_begin",6)] fp s2 H2 ⋯;xN h1 (jh (PV.q (zL (z5 h1) (zu h1)))) (λ_ _ _ h2=>fV h2 ⋯ E.Z5 (cv h2 (zu h2) (zu h2))))))))) (PO.v (xN h0 (jh (z5 h0)) (λ_ _ _ h1=>qZ h1 ⋯ E.Z0 (z5 h1)))) (h0.var ⋯))
theorem J5(E:E0 K mg):l9 P w K mg base 2 "_law_row" 4 qr:=
 xC (N:=["_law_p","_law_ways_here","_law_widths","_law_tables","_law_arrows","_law_k","_law_way","_law_begin","_law_end"]) E._Q ⋯ λX z hw I hm hb h0 hx=>by subst z hw I hm hb;exact by refine zg (vO h0 (vg (xO zh))) ?_;refine zg (kK hx h0 (VF h0 ⋯ E.Zc (zu h0)) (by refine zg (X5 (GU h0) (ja (qS E) h0 (za (zu h0) (za (zu h0) zh)))) ?_;exact(zo (yH 4 h0 ⋯ (jk (xO (za (zu h0) (za (jk (xO (za (zL (z5 h0) (zu h0)) (za (zL (z5 h0) (zu h0)) (za (j6 h0 ⋯ E.Z8 (PO.q (xN h0 (jh (PV.q (zL (z5 h0) (zu h0)))) (λ_ _ _ h1=>j6 h1 ⋯ E.Z8 (z5 h1))))) zh))))) zh)))))))) ?_;exact(zo (zO (jk (xO (za (zu h0) (za (j6 h0 ⋯ E.Z8 (z5 h0)) (za (j6 h0 ⋯ E.Z8 (z5 h0)) zh)))))))
theorem VI(E:E0 K mg):O7 P w K mg base 2 "_law_step" 2 4 kX:=
 MT (N:=["_law_p","_law_ways_here","_law_tables","_law_room","_law_a","_law_b","_law_times","_law_over","_law_k","_law_way","_law_begin","_law_end","_law_rows","_law_row_here"]) E._R ⋯ (by rfl) λX z hw I hm hb h0 hx=>by subst z hw I hm hb;exact Vq (mq (T:= .nm 7) (h0.set 7 ⋯ (zL (PO.q (cE h0 (o9.c (qC h0 ⋯ E.Z2 (zu h0))) (λ_ _ _ h1=>qt h1 (j8 (qv (zu h1) (zu h1)) (zu h1)) zm) (λ_ _ _ h1=>zu h1))) zm))) (JX (mw (T:= .tp [8,9]) (Jb hx) h0.calm (VF h0 ⋯ E.Zc (zu h0)) (h0.F6 (jP (h0.wx 8 ⋯) (jP (h0.wx 9 ⋯) yI))) (Vq (mq (T:= .tp [10,11]) (Xa (ja (qS E) h0 (za (zu h0) (za (zu h0) zh))) (h0.F6 (jP (h0.wx 10 ⋯) (jP (h0.wx 11 ⋯) yI))))) (Bx 2 12 NL h0 ⋯ ⋯ (zu h0) (λk=>Vq (FN (vM (xV (qt h0 (zu h0) (zu h0)) (qQ (qt h0 (zu h0) (zu h0))))) (JX (Wx NL (by rfl) (Zw 12 h0 ⋯ (xN h0 (jh (PV.q (zL (z5 h0) (zu h0)))) (λ_ _ _ h1=>j8 (qv (zu h1) (zu h1)) (zu h1))) (zu h0))))) (Vq (FN (vM (xV (qt h0 (zu h0) (zu h0)) (qQ (kJ h0 (zu h0) (zu h0))))) (JX (Wx NL (by rfl) (Zw 12 h0 ⋯ (xN h0 (o9.c (Yr h0 ⋯ E.Zb (zL (z5 h0) (zu h0)) (zL (z5 h0) (zu h0)))) (λ_ _ _ h1=>j8 (jn (zu h1) (qv (zu h1) (zu h1))) (zu h1))) (zu h0))))) (JX (mr (Jb hx) h0.calm NL (h0.var ⋯) (h0.wx 13 ⋯) (λm=>Vq (FN (vM (xV (qt h0 (zu h0) (zu h0)) (qQ (qt h0 (zu h0) (zu h0))))) (JX (Wy NL (Zw 13 h0 ⋯ (j8 (qv (zu h0) (zL (z5 h0) (zu h0))) (zu h0)) (zu h0))))) (JX (FN (vM (xV (qt h0 (zu h0) (zu h0)) (qQ (kJ h0 (zu h0) (zu h0))))) (JX (Wy NL (Zw 13 h0 ⋯ (j8 (qI (zL (z5 h0) (zu h0)) (qv (zu h0) (zL (z5 h0) (zu h0)))) (zu h0)) (zu h0)))))))))))))))
theorem Yz(E:E0 K mg):l9 P w K mg base 3 "_law_built" 5 yn:=
 xC (N:=["_law_script","_law_at","_law_p","_law_ways_here","_law_some","_law_widths","_law_tables","_law_room","_law_width","_law_k","_law_cell_here"]) E._S ⋯ λX z hw I hm hb h0 hx=>by subst z hw I hm hb;exact fZ 5 6 (VJ E) ⋯ h0 ⋯ (za (zu h0) (za (zu h0) zh)) (h0.F6 (jP (h0.wx 5 ⋯) (jP (h0.wx 6 ⋯) yI))) (sM (mw (T:= .tp [7,8]) (Jb hx) h0.calm (uG h0 ⋯ E.Zc (zu h0)) (h0.F6 (jP (h0.wx 7 ⋯) (jP (h0.wx 8 ⋯) yI))) (JX (mw (T:= .nm 9) (Jb hx) h0.calm (qC h0 ⋯ E.Z2 (qv zm (zu h0))) (h0.wx 9 ⋯) (Vq (mq (T:= .nm 10) (h0.set 10 ⋯ (ja (xW E) h0 (za (zu h0) (za (jn (jn (zu h0) (qv zm (zu h0))) (zu h0)) zh))))) (JX (By (VI E) ⋯ h0 ⋯ NL (by rfl) (au (zu h0) (au (zu h0) (uQ (h0.var ⋯) (vP (zu h0) (vP (j8 (zu h0) (zu h0)) (vP (j8 (Zf (zu h0) zm) (zu h0)) (vP (jn zm (j8 (Zf (zu h0) zm) (qI (zu h0) zm))) gA))))))) (kN (kN aG)) (kN (kN (kN (kN aG)))))))))) (Bw (zo (zO (ja (J5 E) h0 (za (zu h0) (za (zu h0) (za (zu h0) (za (zu h0) zh)))))))))
theorem VL(E:E0 K mg):l9 P w K mg base 2 "_law_fits" 1 va:=
 xC (N:=["_law_row_here","_law_k","_law_arrow","_law_begin","_law_end","_law_high","_law_wide","_law_rows"]) E._T ⋯ λX z hw I hm hb h0 hx=>by subst z hw I hm hb;exact by refine zg (kK hx h0 (aj h0 ⋯ E.Zc (zL (z5 h0) zm)) (by refine zg (X5 (GU h0) (ja (qS E) h0 (za (zu h0) (za (zL (z5 h0) zm) zh)))) ?_;refine zg (X5 (GU h0) (zL (z5 h0) zm)) ?_;refine zg (qJ (vM (W5 (kJ h0 (zu h0) (zL (PV.q (zL (z5 h0) zm)) (zu h0))) (W5 (kJ h0 (zu h0) (zL (PV.q (zL (z5 h0) zm)) (zu h0))) (VA (kJ h0 (qZ h0 ⋯ E.Z0 (z5 h0)) (zu h0)))))) (zo (zO nE)) jX) ?_;exact(zo (qJ (yG (k8 (W8 h0 ⋯ E.Z7 (PO.q (xN h0 (jh (z5 h0)) (λ_ _ _ h1=>cv h1 (qZ h1 ⋯ E.Z0 (z5 h1)) (zu h1))))))) (zo (zO nE)) jX)))) ?_;exact(zo (zO nE))
theorem Xd(E:E0 K mg):l9 P w K mg base 1 "swapped" 3 qV:=
 xC (N:=["room","one","other"]) E._U ⋯ λX z hw I hm hb h0 hx=>by subst z hw I hm hb;exact by refine zg (qJ (qt h0 (zu h0) (zu h0)) (zo (k9 2 (h0.var ⋯))) jX) ?_;exact(zo (zO (xn (qt h0 (zu h0) (zu h0)) (zu h0) (zu h0))))
theorem Kd(E:E0 K mg):l9 P w K mg base 4 "bars_about" 3 ko:=
 xC (N:=["ways","k","bars","left"]) E._V ⋯ λX z hw I hm hb h0 hx=>by subst z hw I hm hb;exact by refine zg (X6 (ja (Jk E) h0 (za (zu h0) (za (zu h0) zh)))) ?_;refine zg (ql 3 (CD h0 (jh (z5 h0)) (λ_ _ _ h1=>vM (W5 (kJ h1 (zL (z5 h1) zm) (zu h1)) (VA (kJ h1 (zL (z5 h1) zm) (zu h1))))) (λ_ _ _ h1=>zu h1))) ?_;exact(zo (xM (X7 h0 ⋯ E.Z3 (PO.q (xN h0 (jh (z5 h0)) (λ_ _ _ h1=>jk (xO (za (ja (Xd E) h1 (za (zu h1) (za (zu h1) (za (jn (zu h1) zm) zh)))) (za (ja (Xd E) h1 (za (zu h1) (za (qI (zu h1) zm) (za (zu h1) zh)))) zh)))))))))
theorem LB(D:L2.yg K "law" "law" (top 74) f fd)(E:E0 K mg)(A:E1 P w K mg base CR CL):p5 P w K mg base t5 9 f fd ["_law_script"] (B5 K 1 JP):=
 Ik (N:=["_law_script","_law_cell_here","_law_p","_law_rooms","_law_ways_here","_law_k","_law_some","_law_row_here","_law_due","_law_found"]) D ⋯ λX z hw I hm hb h0 hx=>by subst z hw I hm hb;exact by refine zg (jL h0 (ja (xW E) h0 (za (zu h0) (za zm zh)))) ?_;refine zg (jL h0 (zL (PO.q (vg (xO (za zm (za zm (za zm (za zm zh))))))) (j8 (zu h0) zm))) ?_;refine zg (jL h0 (jn zm (j8 (Zf (zu h0) zm) zm))) ?_;refine zg (jL h0 (ja (Jh E) h0 (za (Zf (zu h0) zm) (za (zu h0) zh)))) ?_;refine zg (jL h0 (j8 (ja (xW E) h0 (za (zu h0) (za zm zh))) (zu h0))) ?_;refine zg (gd 100 (Jb hx) (kJ h0 (ja (cP E) h0 (za (zu h0) (za (zu h0) zh))) kj) (zo (jL h0 (j8 (jn (zu h0) zm) (zu h0))))) ?_;refine zg (jL h0 (PO.v (yv (J6 E) h0 (za (zu h0) (za zm (za (j8 (ja (xW E) h0 (za (zu h0) (za zm zh))) (qI zm (qv zm (fV h0 ⋯ E.Z5 (HC (zu h0) zm))))) (za (zu h0) zh))))))) ?_;refine zg (jL h0 (ja (Jd E) h0 (za (ja (Yz E) h0 (za (zu h0) (za zm (za (zu h0) (za (zu h0) (za (zu h0) zh)))))) (za (zu h0) zh)))) ?_;refine zg (jL h0 (PO.v (yv (Yy E) h0 (za (zu h0) (za (zu h0) zh))))) ?_;refine zg (qJ (vM (W5 (yG (k8 (ja (VL E) h0 (za (zu h0) zh)))) (VA (kJ h0 (PO.v (yv (Kd E) h0 (za (zu h0) (za (zu h0) (za (PO.v (uC h0 ⋯ E.Ze (z5 h0))) zh))))) (zu h0))))) (zo (zO nE)) jX) ?_;refine zg (jL h0 (ja (cN E A) h0 (za (zu h0) zh))) ?_;exact(zo (zO (fY (W8 h0 ⋯ E.Z7 (PO.q (xN h0 (o9.c (nT (zu h0))) (λ_ _ _ h1=>cv h1 (fW h1 (zu h1) (zu h1)) (fX h1 (z5 h1) (zu h1)))))) (fT (cv h0 (um h0 ⋯ E.Z9 (zu h0)) (qZ h0 ⋯ E.Z0 (z5 h0)))))))
theorem HL(z:L2.yg K "__init__" "Arrow.__init__" (As (top 48) 0) f fd)(c:DT K C):p5 P w K mg base t5 1 f fd ["self","p","table"] (ZR C):=
 Ax (k:=0) z ⋯ c λX I hw O hm hb h0=>by subst I hw O hm hb;exact xK (rO (h0.var ⋯) (h0.var ⋯) rfl)<|vw<|rO (h0.var ⋯) (h0.var ⋯) rfl
theorem Ef(z:L2.yg K "forth" "Right.forth" (As (top 49) 0) f fd)(c:DT K C)(I:l9 P w K mg base 4 "led_on" 3 yl):p5 P w K mg base t5 5 f fd ["self","base"] (XT K C yl):=
 aT (k:=4) z ⋯ c λX O hw Y hm hb h0=>by subst O hw Y hm hb;obtain⟨fa,fd,ps,hn,G,hm,hk,hb⟩:=I.ex;rw[hn]at G;exact vw (ZY (vy G (h0.room.mono ⋯) (h0.gl (x:="led_on") ⋯).1 hm hk hb .nil J4 (zP (aq (h0.var ⋯) rfl) (zP (aq (h0.var ⋯) rfl) (zP (h0.var ⋯) jJ)))))
theorem Eg(z:L2.yg K "forth" "Left.forth" (As (top 50) 0) f fd)(c:DT K C)(I:l9 P w K mg base 4 "led_into" 3 qp):p5 P w K mg base t5 5 f fd ["self","base"] (XT K C qp):=
 aT (k:=4) z ⋯ c λX O hw Y hm hb h0=>by subst O hw Y hm hb;obtain⟨fa,fd,ps,hn,G,hm,hk,hb⟩:=I.ex;rw[hn]at G;exact vw (ZY (vy G (h0.room.mono ⋯) (h0.gl (x:="led_into") ⋯).1 hm hk hb .nil J4 (zP (aq (h0.var ⋯) rfl) (zP (aq (h0.var ⋯) rfl) (zP (h0.var ⋯) jJ)))))
theorem MI(I:L2.yg K "arrow_by" "arrow_by" (top 51) f fd)(O:Mk K CR fI)(Y:Mk K CL fI)(GR:p5 P w K mg base t5 1 fI U_ ["self","p","table"] (ZR CR))(GL:p5 P w K mg base t5 1 fI U_ ["self","p","table"] (ZR CL))(z:Binds K U_ ["self","p","table"] [])(mR:mg "Right" = cI (.ref CR))(mL:mg "Left" = cI (.ref CL)):p5 P w K mg base t5 3 f fd ["p","way","table"] (Hk CR CL):=
 Ij (k:=2) I ⋯ λX hP hw hK hm hb h0=>by subst hP hw hK hm hb;exact vw (ZY (L2.nX (VC HJ (h0.var ⋯) rR (by with_unfolding_all rfl)) (gy O GR (h0.room.mono ⋯) (h0.gl (x:="Right") ⋯).1 mR z .nil J4 (zP (h0.var ⋯) (zP (h0.var ⋯) jJ))) (gy Y GL (h0.room.mono ⋯) (h0.gl (x:="Left") ⋯).1 mL z .nil J4 (zP (h0.var ⋯) (zP (h0.var ⋯) jJ)))))
end
end DL
namespace PySem.W.Fast
def tw7077321810979328825:=0
def tw17861668367715605660:=0
def tw15960744423893131475:=0
def tw3173021719998253899:=0
def tw16818836653196952609:=0
def tw16823664660755741230:=0
def tw11474125285077587519:=0
def tw3828987257211954179:=0
def tw1085603533354395558:=0
def tw5453142543781582018:=0
def tw15025724682241880264:=0
def tw14372691129820186968:=0
def tw14375558494356145167:=0
def tw16888701604358153060:=0
def tw14413236307596829819:=0
def tw3076344776234618153:=0
def tw15500820183929489532:=0
def tw14487149405178449071:=0
def tw2240710641098752146:=0
def tw6763663620863086358:=0
def tw17841139370575956714:=0
def tw833224417594333599:=0
def tw7287550685604576414:=0
def tw5925643367097537942:=0
def tw7929132961601493453:=0
def tw2306775275357249526:=0
def tw11606992872730759320:=0
def tw1589590951944733259:=0
def tw12915698518331132873:=0
def tw16353904675686975387:=0
def tw7681662484797260968:=0
def tw11230028627649002523:=0
def tw10130109586062557258:=0
def tw9196292470585344967:=0
def tw13292366757238502192:=0
def tw549348598796882665:=0
def tw16215559368150602438:=0
def tw2472512034034742854:=0
def tw8516154371084062890:=0
def tw1075198635187874706:=0
def tw5720482686395339871:=0
def tw353160679959674945:=0
def tw15402157768492317659:=0
def tw114266328494187653:=0
def tw10299258502727926028:=0
def tw15805948761419767349:=0
def tw7186308634166610548:=0
def tw13405675484546061975:=0
def tw16411632249299390027:=0
def tw14307842290081587510:=0
def tw4027938332256245640:=0
def tw17791162588986769878:=0
def tw1609679434329640421:=0
def tw57609324154927:=0
def tw12274576647621990599:=0
def tw8530228271946958250:=0
def tw5478619101119199685:=0
def tw13927612934891543594:=0
def tw14997062192182542654:=0
def tw15643872330809196090:=0
def tw11011370109523940991:=0
def tw4669203687343636529:=0
def tw11199029595351372639:=0
def tw10431139015564231800:=0
def tw17854317997290017319:=0
def tw11336823810912167097:=0
def tw4033520843030898394:=0
def tw15840717535431188578:=0
def tw8243933261112318993:=0
def tw7683560757643229502:=0
def tw13060887791410488980:=0
def tw6989039669978591927:=0
def tw7501913962447138315:=0
def tw10199611905270102973:=0
def tw12408602736222928712:=0
def tw7446281078946877735:=0
def tw12105749862688631831:=0
def tw11771763899401702254:=0
def tw17342117662907247036:=0
def tw881466759067330545:=0
def tw14377781424674920726:=0
def tw6187482201088516710:=0
def tw5816059630777337784:=0
def tw15998833554909821859:=0
def tw18201045580629522386:=0
def tw10570433990154941603:=0
def tw18176096604885731986:=0
def tw1033721422608314623:=0
def tw9582032903384952784:=0
def tw716528366928898380:=0
def tw4762067832723216507:=0
def tw11549514537749266204:=0
def tw3126361302136107283:=0
def tw10192558590135079048:=0
def tw12144312789474273888:=0
def tw15708979607594636368:=0
def tw14890151033049058580:=0
def tw7316809408519343816:=0
def tw605519529720357744:=0
def tw15910588434285962066:=0
def tw5494735948792050772:=0
def tw9534117824696361654:=0
def tw4539944543388036398:=0
def tw12620732343927192143:=0
def tw276928816315896051:=0
def tw18012978447586723624:=0
def tw3078521720400714763:=0
def tw11102113054031128081:=0
def tw5294221753992347182:=0
def tw14346197659407078872:=0
def tw6529160380873734933:=0
def tw5199914956066374635:=0
def tw9274090952546114238:=0
def tw4493999533962325553:=0
def tw7220427352947889387:=0
def tw5974872649695822603:=0
def tw149437708077510147:=0
def tw1148568238026337119:=0
def tw13319371750552401914:=0
def tw56647220244678071:=0
def tw3828932482724807878:=0
def tw9797186405155635009:=0
def tw17768503515995454766:=0
def tw8938300471800316982:=0
def tw13426470308657838624:=0
def tw1443277606434734736:=0
def tw16509145348346655174:=0
def tw10494625299155860996:=0
def tw7528199766511029181:=0
def tw15338661984056470233:=0
def tw10251275732595981962:=0
def tw4602653881648074674:=0
def tw26911954532201296:=0
def tw6375600036406945301:=0
def tw71278890159986229:=0
def tw12228407264947838651:=0
def tw708128473261781575:=0
def tw10652114447601801320:=0
def tw10735707404345959353:=0
def tw5465662442297066426:=0
def tw9377118428991265467:=0
def tw8383744987106151916:=0
def tw15281364110040371651:=0
def tw13324096060279074867:=0
def tw3237748165293866017:=0
def tw4483661949909844613:=0
def tw6357537346363437738:=0
def tw11355309668118047743:=0
def tw8490516645681317403:=0
def tw13659182650769490701:=0
def tw6862618760159645886:=0
def tw10459559056047886943:=0
def tw12505503675739803917:=0
def tw11201823814587548513:=0
def tw11284458935953514668:=0
def tw17353085058966084545:=0
def tw15371548320624187278:=0
def tw17183149596326506368:=0
def tw12282656505921520966:=0
def tw6528935277710666165:=0
def tw16668442685879966442:=0
def tw12790638050341080705:=0
def tw8021652576088096095:=0
def tw11887920103423474310:=0
def tw215300269018596685:=0
def tw2060911589943434063:=0
def tw2488903440498903217:=0
def tw10428577214565339450:=0
def tw6588979568450510959:=0
def tw10095121206466890221:=0
def tw15150820658595510200:=0
def tw8389169736201655655:=0
def tw347040199720669347:=0
def tw10827918754138552392:=0
def tw4065368079747301119:=0
def tw7767388942606858509:=0
def tw18386129127577687974:=0
def tw15901032896867525410:=0
def tw8279536736466910775:=0
def tw10621592359585997955:=0
def tw5989508396289028902:=0
def tw17173423308845860672:=0
def tw7986928762723600146:=0
def tw3891320003923836066:=0
def tw3863215556578909557:=0
def tw12800136536552587406:=0
def tw7439728110299733671:=0
def tw15725307637446157008:=0
def tw1135613468916972432:=0
def tw586901565483346658:=0
def tw14061070021754566489:=0
def tw18065404183381876451:=0
def tw16687317254052103509:=0
def tw5786591930678357339:=0
def tw10911605284823110923:=0
def tw3481069127718957334:=0
def tw8888966631484293492:=0
def tw9458314033515673643:=0
def tw11815723937115884427:=0
def tw4368780565499083242:=0
end PySem.W.Fast
open PySem PySem.W PyProof.Rows
set_option maxRecDepth 100000 in
set_option maxHeartbeats 0 in
theorem PySem.Challenge.cw_barsplit_k53_whole_bars_go_over_holds : PySem.Challenge.rw_barsplit_k53_whole_bars_go_over.Holds := by
 w_on;o_law;k_head;(case hw=>w_witness2)
 k_fill
 refine L2.FP (l:=Oq) (n:=63) (k:=9) (x:="_law_script") (CX:=L2.t5) (sp:=λK=>DL.B5 K 1 DL.JP) rfl ⋯ rfl ⟨rfl,by decide,by decide⟩ (λw h Y=>PySem.W.kIn_of Y) ?F ?S ?C
 case S=>exact λK H a ns I hO hS=>DL.Gn hS (DL.HU ns I)
 case C=>exact λ_ _ _ _ z=>z
 case F=>
  intro w mg fa h O G a5;have bd:DL.GL (L2.C7 O) mg "MOST_TOGETHER" (.int 30):=by
   dsimp only[L2.C7];refine' DL.LC O G ?a
   (case a=>k_is)
  have E:DL.E0 (L2.C7 O) mg:=by
   constructor
   all_goals first
    | assumption
    | exact PySem.W.mg_none_of O G (by k_is)
    | (dsimp only[L2.C7];refine' DL.LJ O G ?a ?l ?c ?k ?b;(case a=>k_is);(case l=>k_is);(case c=>k_is);(case k=>k_is);(case b=>intro _ _ _ _ _ _ us I;first | (obtain⟨_,rfl⟩:=DL.MK I;rfl) | (obtain⟨_,_,rfl⟩:=DL.MJ I;rfl) | (obtain⟨_,_,_,rfl⟩:=DL.Nm I;rfl) | (obtain⟨_,_,_,_,rfl⟩:=DL.Nl I;rfl) | (obtain⟨_,_,_,_,_,rfl⟩:=DL.Nk I;rfl) | (obtain⟨_,_,_,_,_,_,_,rfl⟩:=DL.Nj I;rfl)))
  have AR:DL.D_ (L2.C7 O) mg (DL.As (DL.top 48) 0) (DL.As (DL.top 49) 0) (DL.As (DL.top 50) 0):=by
   dsimp only[L2.C7];refine' DL.LP O G ?nR ?nL ?iR ?iL ?mR ?mL ?uI ?uR ?uL ?vI ?vR ?vL ?w1 ?w2 ?w3 ?z1 ?z2 ?z3 ?bR ?bL ?gI ?gR ?gL
   (case nR=>k_is)
   (case nL=>k_is)
   (case iR=>k_is)
   (case iL=>k_is)
   (case mR=>k_is)
   (case mL=>k_is)
   (case uI=>k_is)
   (case uR=>k_is)
   (case uL=>k_is)
   (case vI=>k_is)
   (case vR=>k_is)
   (case vL=>k_is)
   (case w1=>k_is)
   (case w2=>k_is)
   (case w3=>k_is)
   (case z1=>k_is)
   (case z2=>k_is)
   (case z3=>k_is)
   (case bR=>kernel_rfl)
   (case bL=>kernel_rfl)
   (case gI=>intro _ _ _ _ _ _ us I;obtain⟨_,_,_,rfl⟩:=DL.Nm I;rfl)
   (case gR=>intro _ _ _ _ _ _ us I;obtain⟨_,_,rfl⟩:=DL.MJ I;rfl)
   (case gL=>intro _ _ _ _ _ _ us I;obtain⟨_,_,rfl⟩:=DL.MJ I;rfl)
  have a7:DL.l8 (L2.C7 O) mg "arrow_by" (DL.top 51) ["p","way","table"]:=by
   dsimp only[L2.C7];refine' DL.LJ O G ?a ?l ?c ?k ?b
   (case a=>k_is);(case l=>k_is);(case c=>k_is);(case k=>k_is)
   (case b=>intro _ _ _ _ _ _ us I;obtain⟨_,_,_,rfl⟩:=DL.Nm I;rfl)
  obtain⟨f,fd,Fu,hb,hm⟩:=E._W.ex;have e0:=a5.symm.trans hm;cases e0;refine⟨fd,λs u=> .of_eq (hb [u] rfl),λbase kb nb=>?_⟩;obtain⟨CR,CL,fI,fR,fL,dI,dR,dL,q1,q2,q3,q4,q5,q6,q7,q8,q9,am,an,ap,ar,as⟩:=AR.ex;obtain⟨ax,b0,a3,b9,ba⟩:=a7.ex;have R4:DL.O5 (Oq).prog w (L2.C7 O) mg base 3 "arrow_by" CR CL:=⟨ax,b0,DL.MI a3 q3 q4 (DL.HL q9 q5) (DL.HL q9 q6) ap q1 q2,ba,a3.kp,.all b9⟩;have U2:DL.MethAt (Oq).prog w (L2.C7 O) mg base 5 CR DL.yl:=⟨q5,fR,dR,q7,DL.Ef am q5 (DL.Ed E),ar⟩;have U1:DL.MethAt (Oq).prog w (L2.C7 O) mg base 5 CL DL.qp:=⟨q6,fL,dL,q8,DL.Eg an q6 (DL.VH E),as⟩;have A:DL.E1 (Oq).prog w (L2.C7 O) mg base CR CL:=⟨R4,U2,U1⟩;exact DL.LB Fu E A
