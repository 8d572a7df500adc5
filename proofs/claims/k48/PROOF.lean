import PyProof.Rows.All
import Wide.All
import OpenK.AllK
import Wide.FinOn
import Lean
import PyProof.EqAt
import PyProof.EqKinds
import PyProof.TupleCall
import PySem.Str
import PyProof.ZipIter
import PyProof.IsiBase
import KE.KItemsList
import KE.KIsAll
import OpenK.KOwn
import KE.KSortAsk
import PyProof.StrBlockI
import PyProof.Rows.EqDataRows
import PyProof.Rows.InDataRows
import PyProof.SumWalkG
import PyProof.ConsumeWalk
import PyProof.WalksMore
import KE.KSortTup
import PyProof.ListMulRoad
import PyProof.EnumFor
import PyProof.Rows.EnumRows
import PyProof.StrBlockL
import PyProof.JoinWalk
import PyProof.NsDelKeeps
import KE.KTryDeep
import PyProof.InstStoreFacts
import PyProof.NsCount
import PyProof.ExcClass2
import PyProof.Rows.FStr
import PyProof.StationsW
import PyProof.Rows.Catch
import KE.KRevIter
import PyProof.CollectIter
import PyProof.TupleOfGen
import PyProof.Rows.Tup
import PyProof.Draws
import PyProof.EnumMake
import PyProof.StrWalks
import PyProof.SliceStr2
import PyProof.ListNew
import KE.KDictOf
import PyProof.ListRange
import PyProof.Rows.GenSrcRange
import PyProof.ListCopy
import PyProof.AttrMissHeap
import PyProof.DictWalks
import PyProof.FactsDict
import KE.KSortKey
import PyProof.TableCode
import PyProof.Rows.KernelRfl
import PySem.Challenge.RW_barsplit_k48_layings_counted
open PySem renaming wpAny_bind → LV,wpAny_pure → Mg,wpAny_callSpecial?_slot → Nc,wpAny_field → Ni,wpAny_call_entry → Ny,wpAny_setField_rec → NF,wpAny_newObj_type → NO,wpAny_holding → NT,wpAny_truthy_bool → NW,wpAny_seqItems → NX,wpAny_loadPart' → Oj,wpAny_mono → Ot,wpAny_attempt → OP,wpAny_Call_Name_kw → OY,sizeLine_eq → Pf,call_meets → z4,mem_of_lookup → Pj,Builtin → Pw,wpAny_rule → Rg,wpAny_typeOf → Rj,builtinLookup_eq_fast → Rl,wpAny_passesOwn → RA,pushCells_keeps → RD,wpAny_pyIter_tuple → RM,wpAny_newTuple → RQ,wpAny_letGo → Sa,wpAny_isInstance → Sl,wpAny_updateSeq → Su,typeLookup_type → Sv,codeAny_mono → Sx,codeAny_builtin → Sy,wpAny_updateSeq_pair → SK,isSubtype_stop → SN,wpAny_standAt → Tf,wpAny_onRaise → Th,wpAny_newList → Ti,wpAny_pyIter_list → Tq,typeIs_int → Tr,concat_meets → Tt,wpAny_pyIter_zip → Tu,noFill_tuple_add → Tv,Addr → dv,Value → dy,Shared → d7,model → eg,Expr → eh,eval → ej,Heap → e9,sizeLine → fh,starEach → ft,Pos → gB,World → g8,Scope → g9,Program → h6,Stmt → i3,Around → j1,IsPair → k0,Obj → l6,Env → m6,Builtin → m8,compareOp → nf,foldedSetIterable → n7,FuncData → o5,IsZip → p5,backTo → p8,cellsFrom → rn,holding → sm,IsEnum → s8,assign → t7,binaryOp → t8,pyNext → u6,NameKind → vk,ZipApart → wa,mainGlobals → xg,relabel → xr,swapsWith → y6,assignEach → A4,behindInMarks → A5,IsPart → B9,Keyword → C0,bootBuiltins → C3,getItem → C9,rawInt → Di,sysModules → Dl,pushCells → Dz,bindC → DM,bindL → DN,cLine → DO,callerA → DP,isTrue → DS,standAt → DU,atKey → D2,typeLookup → E6,valueAt → E7,Meets → F3,spliced → I7,truthy → L0,BindsTo → L6,attributeBase → M1,backToKw → M3,letOwnedTupleGo → N1,pyIter → N8,swapsWithSole → O0,IsEnumOut → Pz,PassesOwn → P6,firstArgMember → S6,lastMarks → Tz,ownMembersOf → TN,setItem → TZ,subscripted → T5,swappedStores → T6,builtinsNs → Us,newFunctionEnv → UG,seqIndex_neg → UL,seqIndex_of → UM,seq_tuple_add → UN,tupleKind → U3,typeIs_str → U6,wpAny_Name → Vs,wpAny_execs_nil → Xk,getattributeRaised → F',tupleKind_room_in1 → W_,wpAny_assign_Name → X_,wpAny_binaryOp_repeat_ref → Y',wpAny_isTrue_Compare1 → Y_,wpAny_letOwnedTupleGo_enum → Z_,wpAny_sequenceKey → _a
open List renaming range → LW,getElem?_eq_getElem → LZ,mem_range → Ma,replicate → Mb,getD_eq_getElem?_getD → Mc,getElem?_set_ne → Md,size_toArray → Mi,mem_cons → Mj,mem_cons_of_mem → Mm,mem_cons_self → Mn,getElem?_eq_some_iff → Mo,length_map → Mq,not_mem_nil → Ms,mem_filter → Mu,mem_append_right → Mw,getElem?_set_self → Mx,map_congr_left → My,getElem?_map → MC,map_cons → MI,map_map → MJ,mem_map → MM,length_range → MQ,length_append → MW,eq_nil_of_length_eq_zero → MX,getElem?_append_right → MY,map_append → Nb,getElem?_cons_zero → Nj,getElem?_append_left → Nk,length_cons → Nm,mem_of_getElem? → Nq,lookup_cons → Nv,range_succ → Nx,getElem?_cons_succ → NB,range' → NH,nodup_cons → NI,ext_getElem? → NK,getElem_mem → NQ,countP_eq_length_filter → NU,getElem?_set → Ob,getElem?_range → Oc,drop_eq_getElem_cons → Od,length_singleton → Oe,length_nil → Of,all_eq_true → Oi,replicate_succ → Oq,length_take → Ou,mem_singleton → Ov,getElem?_eq_none → Ow,pairwise_iff_getElem → Oz,range_eq_range' → OB,find?_cons → OE,countP_congr → OF,append_nil → OG,take_of_length_le → OO,zip_cons_cons → OQ,toArray → OT,mem_append → OU,length_filter_le → OV,zip_map' → OZ,flatten_cons → Pa,Pairwise → Pb,range'_succ → Pn,set_cons_zero → PB,set_cons_succ → PD,nil_append → PF,getElem?_replicate → PH,filter_append → PJ,pairwise_lt_range → P5,pairwise_map → PR,mem_range'_1 → PU,drop_length → Rf,idxOf_lt_length_of_mem → Rn,getElem_of_mem → Ro,forIn_cons → Rp,range_add → Ry,forIn_nil → Rz,any_cons → RO,nodup_range → RT,length_drop → RU,drop_eq_nil_of_le → RV,map_nil → RY,mem_append_left → Sm,getElem?_of_mem → Sn,filterMap_cons → Sr,getElem_idxOf → SH,forIn_toArray → SI,all_cons → SJ,length_eq_countP_add_countP → SM,foldl → SQ,filter_congr → SR,append_assoc → SS,any_eq_false → SU,cons_append → Tc,any_eq_true → Td
open PySem.W renaming Frag → LX,kia_one → Ng,kitOne → Pd,cellsFrom_some → Py,fnOf → PM,keepIn → Rq,findIn → Rr,codeIn → RX,methodObj → Um,kitx_list → Uo,kitx_dict → SD
open PySem.Heap renaming get?_push_of_some → LY,lt_size → Mk,get?_push_size → Ml,push → MG,get?_update_other → MH,size_push → MV,get?_update_self → Og,size_update → OL,get?_push_ne → Pc,SameBut → Pp,get?_update_ne → Ss
open Option renaming bind_some → Me,map_some → Nt,some → NN,isSome_iff_exists → Oh,map_eq_some_iff → RN,map → SG,getD_some → SO,some → bX
open Nat renaming le_refl → Mf,ne_of_lt → Mr,lt_or_ge → Mz,lt_of_lt_of_le → MA,not_lt_zero → MK,le_add_right → ML,zero_le → Nh,lt_succ_of_lt → Nl,lt_irrefl → Nn,le_trans → Np,zero_add → NJ,add_sub_cancel_left → NL,lt_succ_self → NY,ne_of_gt → Oo,mul_comm → Ox,lt_trichotomy → Ra,le_succ → Rb,le_succ_of_le → RK,add_assoc → RR,succ_mul → Sf,min_eq_left → Sg,le_of_lt → Sh,add_zero → Si,add_left_cancel → SE,add_comm → P7,mod_eq_of_lt → Tj,div_eq_of_lt → Tn
open Int renaming mul_emod → Mh,emod_lt_of_pos → Mp,emod_nonneg → MF,emod_eq_of_lt → MR,add_emod → MU,emod_emod → MZ,mul_comm → Nu,emod_emod_of_dvd → Nw,mul_zero → NA,toNat_natCast → NM,mul_assoc → NR,mul_left_comm → NV,emod_eq_emod_iff_emod_sub_eq_zero → Om,mul_one → tr,sub_emod → Oy,zero_mul → OI,dvd_refl → OJ,eq_ofNat_of_zero_le → OK,natCast_mul → OW,mul_add → OX,add_zero → Pq,add_mul → Rc,toNat_of_nonneg → Rt,neg_mul → Ru,natCast_add → Sj,sub_self → Te
open Bool renaming and_eq_true → Mt,false_ne_true → MO,false_eq_true → Nf,or_eq_true → NP,not_eq_true' → OH,false_or → RP,eq_iff_iff → RZ,true → cz,false → dn
open PySem.Builtin.SmallTypes renaming nextOf → Mv,ownedTupleIsFree → ME,ownedTupleHandOut → Oa,ownedTupleFields → Rv
open Ne renaming symm → MD
open PySem.Obj renaming mapSeq → MN,data_mapFields → Up
open PySem.NameKind renaming free → MP,cell → OD
open PySem.Value renaming none → MS,ref → Nr,type → OA,int → RW,str → Sz
open PySem.Str renaming ofString → MT,join → Tp
open PyProof.Rows renaming callWith_type1 → Na,slot_tuple_getitem → ND,listUpdate_at → PY,slot_tupleiter_next → RB,tupleItemsOf_ → Sb,callWith_builtin1 → Sd,get?_update_seq → Sw,seqEpoch_at → SV,size_push' → Ts,seqObj → gv,cnt → ro,AllBare → Dm,Call_ → DF,IsTup → F0,arrOf → F7,IntsAre → L9,envOfC → M5,Subscript_ → Uq,subscriptTail → UP,args_tuple_getitem → v_,args_tupleiter_next → w_,entry_tupleiter_next → C_,listItems_at → I_,subscriptTail_builtinR → T_
open Option.some renaming inj → Nd
open PySem.SeqAt renaming EqAt → Nz
open Classical renaming byContradiction → NC,axiomOfChoice → Po
open Array renaming length_toList → NG,getD_eq_getD_getElem? → OS
open PySem.F renaming slot_zip_next → NS,slot_enumerate_next → Pe,args_zip_next_1 → Pg,entry_zip_next → Pu,slot_list_getattribute → PK,slot_tuple_mul → Rm,args_tuple_add_2 → Rw,plain_extend_loop → Rx,plainAttrs_list → RE,entry_tuple_add → RF,slot_tuple_add → RJ,slot_int_rmul → So,args_tuple_mul_2 → SY,entry_tuple_mul → To
open PySem.Builtin.Tuple renaming tupleExact → NZ,tupleIsExact → OM
open Sum renaming inl → ml,inr → SW
open False renaming elim → OC
open True renaming intro → ON
open PySem.Builtin.Slice renaming slicePlaces → OR,sliceAdjust → Ul
open PySem.SeqAt.EqAt renaming int_int → Ph
open PySem.PyData renaming depth → Pk,eqv → PL,canLay0 → PN,eqvAll → Sq,canLayAll0 → SF
open PySem.Calls renaming spliced_cons → Px,spliced_nil → RH
open PySem.Builtin.List renaming listExtendWith → PX,listTooLong → Ri
open PySem.Challenge renaming rw_barsplit_k48_layings_counted → PZ
open List.Pairwise renaming imp_of_mem → Rh,filter → RG
open ForInStep renaming yield → RL
local macro_rules | `(⋯) => `(by first | decide +kernel | omega | simp)
set_option autoImplicit true
noncomputable section
set_option Elab.async false
set_option linter.all false
set_option maxRecDepth 100000
set_option maxHeartbeats 4000000
abbrev EQ:=PySem.Value->PySem.Shared->Prop
abbrev UQ:=List (PySem.Addr×PySem.Obj)
abbrev UW:=Nat->Nat->Nat->Int
abbrev UV:=Nat->Nat->Int
abbrev UK:=Nat->Bool
abbrev UX:=Nat->Nat
abbrev UZ:=PySem.Str->Option PySem.Value
theorem UJ{c:Prop}{h:Decidable c}(z:c){α}{a b:α}:ite c a b=a:=if_pos z
theorem UY{c:Prop}{h:Decidable c}(z:¬c){α}{a b:α}:ite c a b=b:=if_neg z
namespace L2
open PySem PySem.Spec PyProof.Rows
abbrev Key:=Sum Int Str
def bC:Key->dy->Bool
 | .inl k,v=>Value.isInt k v
 | .inr x,v=>Value.isStrOf x v
def Lo(w:g8):Key->Int
 | .inl k=>hashInt k
 | .inr x=>hashStr w x
theorem qf : ∀{k:Key} {v:dy},bC k v=cz->(∃i t,k=ml i/\v=RW i t)\/(∃x t,k=SW x/\v=Sz x t)
 | .inl i,v,h=>by obtain⟨t,e⟩:=Value.isInt_shape (k:=i) (v:=v) h;exact .inl ⟨i,t,rfl,e⟩
 | .inr x,v,h=>by obtain⟨t,e⟩:=Value.isStrOf_shape (x:=x) (v:=v) h;exact .inr ⟨x,t,rfl,e⟩
theorem fO(i:Int)(t:Tok):bC (.inl i) (.int i t)=cz:=by simp[bC,Value.isInt]
theorem fN(x:Str)(t:Tok):bC (.inr x) (.str x t)=cz:=by simp[bC,Value.isStrOf]
theorem Cc(a b:Int):decide ((ml a:Key)=ml b)=(a==b):=by
 by_cases e:a=b
 ·subst e;simp
 ·have h : ¬(ml a:Key)=ml b:=λq=>e (ml.inj q)
  rw[decide_eq_false h];exact(beq_eq_false_iff_ne.mpr e).symm
theorem BZ(a b:Str):decide ((SW a:Key)=SW b)=decide (a=b):=by
 by_cases e:a=b
 ·subst e;simp
 ·have h : ¬(SW a:Key)=SW b:=λq=>e (SW.inj q)
  rw[decide_eq_false h,decide_eq_false e]
theorem Cb(a:Int)(b:Str):decide ((ml a:Key)=SW b)=dn:=decide_eq_false<|λq=>nomatch q
theorem Ca(a:Str)(b:Int):decide ((SW a:Key)=ml b)=dn:=decide_eq_false<|λq=>nomatch q
noncomputable def xC(prog:h6)(w:g8):PySem.KeyKind prog w Key where
 is:=bC
 hash:=Lo w
 inj:=λv a b ha O=>by
  rcases qf ha with⟨i,t,rfl,rfl⟩ | ⟨x,t,rfl,rfl⟩
  ·rcases qf O with⟨j,u,rfl,e⟩ | ⟨y,u,rfl,e⟩
   ·injection e with e1 _;rw[e1]
   ·exact nomatch e
  ·rcases qf O with⟨j,u,rfl,e⟩ | ⟨y,u,rfl,e⟩
   ·exact nomatch e
   ·injection e with e1 _;rw[e1]
 byValue:=λk v h=>by rcases qf h with⟨i,t,rfl,rfl⟩ | ⟨x,t,rfl,rfl⟩<;>rfl
 pyHash:=λI h=>by
  rcases qf I with⟨i,t,rfl,rfl⟩ | ⟨x,t,rfl,rfl⟩
  ·exact wpAny_pyHash_int h
  ·exact wpAny_pyHash_str h
 eqBool:=λU I h=>by
  rcases qf U with⟨i,t,rfl,rfl⟩ | ⟨x,t,rfl,rfl⟩
  ·rcases qf I with⟨j,u,rfl,rfl⟩ | ⟨y,u,rfl,rfl⟩
   ·rw[Cc]at h;exact wpAny_eqBool_int h
   ·rw[Cb]at h;exact Nz.int_str i t y u _ _ _ _ h
  ·rcases qf I with⟨j,u,rfl,rfl⟩ | ⟨y,u,rfl,rfl⟩
   ·rw[Ca]at h;exact Nz.str_int x t j u _ _ _ _ h
   ·rw[BZ]at h;exact wpAny_eqBool_str h
 «strs» :=λk x t v h=>by
  rcases qf h with⟨i,u,rfl,e⟩ | ⟨y,u,rfl,e⟩
  ·exact nomatch e
  ·injection e with e1 _
   subst e1;cases v<;>rfl
theorem VF(prog:h6)(w:g8)(i:Int)(t:Tok):(xC prog w).is (.inl i) (.int i t)=cz:=fO i t
theorem VE(prog:h6)(w:g8)(x:Str)(t:Tok):(xC prog w).is (.inr x) (.str x t)=cz:=fN x t
inductive V where
 | el | bl (b:Bool) | int (i:Int) | str (x:Str) | F8 (b:Array UInt8) | D9 (b:UInt64) | ref (a:dv) | ty (n:String)
 deriving DecidableEq
noncomputable def RelV:V->dy->Prop
 | .el,u=>u=MS
 | .bl b,u=>u=Value.bool b
 | .int i,u=>∃t,u=RW i t
 | .str x,u=>∃t,u=Sz x t
 | .F8 b,u=>∃t,u=Value.bytes b t
 | .D9 b,u=>∃t,u=Value.float b t
 | .ref a,u=>u=Nr a
 | .ty n,u=>u=OA n
abbrev eF:List V->List dy->Prop:=Paired RelV
theorem eF.length(r:eF xs us):xs.length=us.length:=Paired.length r
theorem eF.get : ∀{xs:List V} {us:List dy} {i:Nat} {x:V},eF xs us->xs[i]? = bX x->∃u,us[i]? = bX u/\RelV x u
 | _,_,_,_,.nil,e=>by simp at e
 | _,_,0,_,.cons r _,e=>by simp at e;subst e;exact⟨_,rfl,r⟩
 | _,_,i+1,x,.cons _ t,e=>by obtain⟨u,a,b⟩:=eF.get (i:=i) (x:=x) t (by simpa using e);exact⟨u,by simpa using a,b⟩
theorem eF.set(r:RelV x u) : ∀{xs:List V} {us:List dy} (i:Nat),eF xs us->eF (xs.set i x) (us.set i u)
 | _,_,_,.nil=> .nil
 | _,_,0,.cons _ t=> .cons r t
 | _,_,i+1,.cons q t=> .cons q (eF.set r i t)
theorem eF.append : ∀{xs ys:List V} {us ws:List dy},eF xs us->eF ys ws->eF (xs++ys) (us++ws)
 | _,_,_,_,.nil,s=>s
 | _,_,_,_,.cons r t,s=> .cons r (eF.append t s)
theorem eF.take : ∀{xs:List V} {us:List dy} (n:Nat),eF xs us->eF (xs.take n) (us.take n)
 | _,_,0,_=> .nil
 | _,_,_+1,.nil=> .nil
 | _,_,n+1,.cons r t=> .cons r (eF.take n t)
theorem eF.drop : ∀{xs:List V} {us:List dy} (n:Nat),eF xs us->eF (xs.drop n) (us.drop n)
 | _,_,0,r=>r
 | _,_,_+1,.nil=> .nil
 | _,_,n+1,.cons _ t=>eF.drop n t
noncomputable def vu:Option V->Option dy->Prop
 | some v,bX u=>RelV v u
 | none,none=>True
 | _,_=>False
noncomputable def KV{z:Type}:List (z×V)->List (z×dy)->Prop:=Paired λ(p:z×V) (q:z×dy)=>p.1=q.1/\RelV p.2 q.2
def kV:Key->V
 | .inl i=> .int i
 | .inr x=> .str x
inductive HO where
 | lst (xs:List V)
 | tup (xs:List V)
 | dK (l0:List (Key×V)) | dT (l0:List (List Key×V))
 | set (S:Int->Bool) (n:Nat)
 | ins (C dx:dv) (fs:List (Str×V))
 | own (x:dv)
 | xd (fs:List (Str×V))
 | met (f x:dv)
 | iW (lo hi:Int)
 | rq (o:l6) (u:HO)
 | DV (ps:Array dy)
 | ext (φ:e9->Prop)
abbrev Hp:=dv->Option HO
def upd(H:Hp)(a:dv)(o:HO):Hp:=λb=>if b=a then bX o else H b
theorem zN:upd H a o a=bX o:=by unfold upd;rw[UJ rfl]
theorem zL(h:b≠a):upd H a o b=H b:=by unfold upd;rw[UY h]
theorem Jk{H:Hp}{a:dv}{o u:HO}:upd (upd H a o) a u=upd H a u:=by funext b;unfold upd;split<;>rfl
theorem j8{H:Hp}{a b:dv}{o:HO}(h:H a=bX o)(h':H b=none):a≠b:=by intro e;subst e;rw[h]at h';cases h'
noncomputable def u9(h:e9)(a:dv)(items:Array dy):Prop:=∃o,h.get? a=bX o/\(o.cls,o.dict)=(OA "tuple",none)/\∃n,o.data = .seq items n
theorem u9.new(h:e9)(items:Array dy):u9 (h.push {cls:= .type "tuple",data:= .seq items}) h.objs.size items:=⟨_,Ml _ rfl,rfl,_,rfl⟩
theorem u9.tup(x:u9 h a items):F0 h a items:=let ⟨o,e,c,r⟩:=x;⟨o,e,(Prod.mk.inj c).1,r⟩
section
variable(P:h6)(w:g8)
noncomputable def i7(H:Hp)(h:e9)(a:dv):HO->Prop
 | .lst e=>e.length<=fh/\∃(b:List dy) (n:Nat),eF e b/\h.get? a=bX {cls:= .type "list",data:= .seq b.toArray n}
 | .tup e=>e.length<=fh/\∃b:List dy,eF e b/\u9 h a b.toArray
 | .dK d=>d.length<=fh/\(a==Dl)=dn/\∃m,KV d m/\h.DictOf (xC P w) a m
 | .dT d=>d.length<=fh/\(a==Dl)=dn/\∃e:List (List Key×dv×dy),
  Paired (λ(p:List Key×V) (q:List Key×dv×dy)=>p.1=q.1/\H q.2.1=bX (.tup<|p.1.map kV)/\RelV p.2 q.2.2) d e/\
  ∃o j I,h.get? a=bX o/\o.ExactDict/\o.data = .dict j I/\j.toList=e.map (entryOfKey<|tupleKind<|xC P w)/\(e.map (·.1)).Nodup
 | .set S n=>h.SetOf (intKind P w) a S n
 | .ins C g fs=>H g=bX (.own a)/\fs.length<=1000/\g≠a/\h.get? a=bX (PySem.W.instObj C g)/\
  ∃mA,h.Ns1 g mA/\(∀f,vu (fs.lookup f)<|mA f)/\PySem.Within mA (fs.map (·.1))
 | .own _=>∃o,h.get? a=bX o
 | .xd fs=>∃mA,h.Ns1 a mA/\∀f,vu (fs.lookup f)<|mA f
 | .iW lo r=>∃t u v,h.get? a=bX {cls:= .type "range",data:= .fields #[.int lo t,.int r u,.int 1 v]}
 | .rq o u=>h.get? a=bX o/\i7 H h a u
 | .DV s=>h.get? a=bX {cls:= .none,data:= .fields s}
 | .met f x=>h.get? a=bX (Um (.ref f)<|.ref x)
 | .ext i=>i h/\(∃o,h.get? a=bX o)/\∀k l:e9,i k->(∀o,k.get? a=bX o->l.get? a=bX o)->i l
def kA(H:Hp)(h:e9):Prop:=∀a o,H a=bX o->i7 P w H h a o
end
section
variable{P:h6}{w:g8}{H H':Hp}{h h':e9}{a:dv}{o:HO}
theorem i7.lt(x:i7 P w H h a o):a<h.objs.size:=by
 cases o with
 | lst d=>obtain⟨_,_,_,_,e⟩:=x;exact Mk e
 | tup d=>obtain⟨_,_,_,p⟩:=x;exact p.tup.lt
 | dK b=>obtain⟨_,_,_,_,o,_,_,e,_⟩:=x;exact Mk e
 | dT b=>obtain⟨_,_,_,_,o,_,_,e,_⟩:=x;exact Mk e
 | set S n=>obtain⟨o,_,_,_,e,_⟩:=x;exact Mk e
 | ins C g fs=>obtain⟨_,_,_,e,_⟩:=x;exact Mk e
 | own y=>obtain⟨_,e⟩:=x;exact Mk e
 | xd fs=>obtain⟨_,⟨_,_,_,e,_⟩,_⟩:=x;exact Mk e
 | iW lo i=>obtain⟨_,_,_,e⟩:=x;exact Mk e
 | rq I u=>obtain⟨e,_⟩:=x;exact Mk e
 | DV j=>exact Mk (show h.get? a=bX _ from x)
 | met f y=>exact Mk (show h.get? a=bX _ from x)
 | ext k=>obtain⟨_,⟨_,e⟩,_⟩:=x;exact Mk e
theorem Paired.UE : ∀{I:List α} {O:List β},Paired F I O->(∀a b,F a b->G a b)->Paired G I O
 | _,_,.nil,_=> .nil
 | _,_,.cons r t,f=> .cons (f _ _ r) (Paired.UE t f)
theorem i7.DC(x:i7 P w H h a o)(k : ∀b u,(b=a\/H b=bX (.own a))->h.get? b=bX u->h'.get? b=bX u)
 (U : ∀b,H b=bX (.own a)->H' b=bX (.own a)) (Y : ∀b xs,H b=bX (.tup xs)->H' b=bX (.tup xs)):i7 P w H' h' a o:=by
 induction o with
 | lst xs=>obtain⟨z,i,n,r,e⟩:=x;exact⟨z,i,n,r,k _ _ (.inl rfl) e⟩
 | tup xs=>obtain⟨z,i,r,I,e,c⟩:=x;exact⟨z,i,r,I,k _ _ (.inl rfl) e,c⟩
 | dK j=>obtain⟨z,y,F,r,I,g,O,e,c⟩:=x;exact⟨z,y,F,r,I,g,O,k _ _ (.inl rfl) e,c⟩
 | dT j=>
  obtain⟨z,y,xs,r,I,g,O,e,c⟩:=x;exact⟨z,y,xs,Paired.UE r λp q z=>⟨z.1,Y _ _ z.2.1,z.2.2⟩,I,g,O,k _ _ (.inl rfl) e,c⟩
 | set S n=>obtain⟨I,g,O,t,e,c⟩:=x;exact⟨I,g,O,t,k _ _ (.inl rfl) e,c⟩
 | ins C G fs=>
  obtain⟨d,z,E,e,l,⟨m,g,O,A,c⟩,r⟩:=x;exact⟨U _ d,z,E,k _ _ (.inl rfl) e,l,⟨m,g,O,k _ _ (.inr d) A,c⟩,r⟩
 | own y=>obtain⟨I,e⟩:=x;exact⟨I,k _ _ (.inl rfl) e⟩
 | xd fs=>obtain⟨l,⟨m,g,O,e,c⟩,r⟩:=x;exact⟨l,⟨m,g,O,k _ _ (.inl rfl) e,c⟩,r⟩
 | iW lo J=>obtain⟨t,u,v,e⟩:=x;exact⟨t,u,v,k _ _ (.inl rfl) e⟩
 | rq I u B=>obtain⟨e,q⟩:=x;exact⟨k _ _ (.inl rfl) e,B q⟩
 | DV s=>
  have e:h.get? a=bX {cls:= .none,data:= .fields s}:=x;show h'.get? a=bX {cls:= .none,data:= .fields s};exact k a _ (.inl rfl) e
 | met f y=>
  have e:h.get? a=bX (Um (.ref f)<|.ref y):=x;show h'.get? a=bX (Um (.ref f)<|.ref y);exact k a _ (.inl rfl) e
 | ext K=>obtain⟨p,⟨o,e⟩,st⟩:=x;exact⟨st _ _ p λo q=>k _ _ (.inl rfl) q,⟨o,k _ _ (.inl rfl) e⟩,st⟩
theorem kA.lt(x:kA P w H h)(e:H a=bX o):a<h.objs.size:=(x a o e).lt
theorem kA.fresh(x:kA P w H h)(e:h.objs.size<=a):H a=none:=by
 cases q:H a with
 | none=>rfl
 | some u=>exact absurd (MA (x.lt q) e)<|Nn _
theorem kA.kept(x:kA P w H h)(k : ∀b u,h.get? b=bX u->h'.get? b=bX u):kA P w H h':=λa o e=>
 (x a o e).DC (λb u _ q=>k b u q) (λ_ q=>q) λ_ _ q=>q
theorem kA.laid(x:kA P w H h)(k : ∀b u,h.get? b=bX u->h'.get? b=bX u)(O:h.objs.size<=a)(new:i7 P w (upd H a o) h' a o):kA P w (upd H a o) h':=λb u e=>by
 have d:=x.fresh O;by_cases I:b=a
 ·subst I;rw[zN]at e;cases e;exact new
 ·rw[zL I]at e
  exact(x b u e).DC (λc v _ q=>k c v q) (λc q=>by rw[zL (j8 q d)];exact q) λc f q=>by rw[zL (j8 q d)];exact q
end
def Rd(H:Hp)(a:dv)(u:HO):Prop:=H a=bX u\/∃o,H a=bX (.rq o u)
theorem Rd.ok(r:Rd H a u)(x:kA P w H h):i7 P w H h a u:=by
 rcases r with r | ⟨o,r⟩
 ·exact x a u r
 ·obtain⟨_,q⟩:=x a _ r
  exact q
noncomputable def F4:Option HO->Prop
 | some (.lst _)=>True
 | some (.dK _)=>True
 | some (.dT _)=>True
 | some (.set _ _)=>True
 | some (.ins _ _ _)=>True
 | some (.ext _)=>True
 | _=>False
section
variable{P:h6}{w:g8}{H:Hp}{h h':e9}{x e:dv}{o':HO}
theorem kA.write(ok:kA P w H h)(I:F4 (H x))(C:e=x\/H e=bX (.own x))(k : ∀b u,b≠e->h.get? b=bX u->h'.get? b=bX u)(J : ∃u,h'.get? e=bX u)
 (new:i7 P w (upd H x o') h' x o'):kA P w (upd H x o') h':=λb u q=>by
 have d : ∀c y,H c=bX (.own y)->c≠x:=λc y r z=>by subst z;rw[r]at I;exact I
 have g : ∀c a,H c=bX (.tup a)->c≠x:=λc a r z=>by subst z;rw[r]at I;exact I
 by_cases O:b=x
 ·subst O;rw[zN]at q;cases q;exact new
 ·rw[zL O]at q
  by_cases U:b=e
  ·have f:H b=bX (.own x):=by
    rcases C with z | z
    ·exact absurd (U.trans z) O
    ·rw[U];exact z
   rw[q]at f;cases f;obtain⟨v,i⟩:=J;exact⟨v,by rw[U];exact i⟩
  ·refine(ok b u q).DC (λc v Y r=>k c v ?_ r) (λc r=>by rw[zL (d c b r)];exact r) λc a r=>by rw[zL (g c a r)];exact r
   rcases Y with rfl | Y
   ·exact U
   ·rintro rfl
    rcases C with z | z
    ·exact d c b Y z
    ·rw[Y]at z;cases z;exact O rfl
end
structure Un(fs ex:List dv)(H H':Hp)(h h':e9):Prop where
 keep : ∀b o,h.get? b=bX o->H b=none->b∉fs->b∉ex->h'.get? b=bX o
 slot : ∀b o,h.get? b=bX o->H b=none->b∈fs->b∉ex->∃sl,h'.get? b=bX {o with slots:=sl}
 free : ∀b o,h.get? b=bX o->H b=none->b∉ex->H' b=none
 there : ∀b o,h.get? b=bX o->b∉ex->∃o',h'.get? b=bX o'
 DY : ∀b xs,H b=bX (.tup xs)->H' b=bX (.tup xs)
 Dw : ∀b o u,H b=bX (.rq o u)->H' b=bX (.rq o u)
 DW : ∀b ps,H b=bX (.DV ps)->∃more,H' b=bX (.DV<|ps++more)
section
variable{fs E_ ex _e:List dv}{H H1 H2:Hp}{h h1 h2 h':e9}{a x e:dv}{o:HO}
theorem Un.any(u:Un fs ex H H1 h h1)(q:h.get? b=bX ob)(n:H b=none)(hx:b∉ex) : ∃z,h1.get? b=bX {ob with slots:=z}:=by
 by_cases I:b∈fs
 ·exact u.slot b ob q n I hx
 ·exact⟨ob.slots,u.keep b ob q n I hx⟩
theorem Un.kept(k : ∀b u,h.get? b=bX u->h'.get? b=bX u):Un fs ex H H h h':=
 ⟨λb I q _ _ _=>k b I q,λb I q _ _ _=>⟨I.slots,k b I q⟩,λ_ _ _ n _=>n,λb I q _=>⟨I,k b I q⟩,λ_ _ q=>q,λ_ _ _ q=>q,λ_ a q=>⟨#[],by rw[q];simp⟩⟩
theorem Un.refl:Un fs ex H H h h:=Un.kept λ_ _ q=>q
theorem Un.laid(k : ∀b u,h.get? b=bX u->h'.get? b=bX u)(I:h.objs.size<=a)(hn:H a=none):Un fs ex H (upd H a o) h h' where
 keep:=λb u q _ _ _=>k b u q
 slot:=λb u q _ _ _=>⟨u.slots,k b u q⟩
 free:=λb u q n _=>by rw[zL (Mr<|MA (Mk q) I)];exact n
 there:=λb u q _=>⟨u,k b u q⟩
 DY:=λb xs q=>by rw[zL (j8 q hn)];exact q
 Dw:=λb u xs q=>by rw[zL (j8 q hn)];exact q
 DW:=λb ps q=>⟨#[],by rw[zL (j8 q hn),q];simp⟩
theorem Un.write(I:F4 (H x))(Y:e=x\/H e=bX (.own x))(k : ∀b u,b≠e->h.get? b=bX u->h'.get? b=bX u)(C : ∃u,h'.get? e=bX u):Un fs ex H (upd H x o) h h':=by
 have d : ∀b,H b=none->b≠x:=λb n z=>by subst z;rw[n]at I;exact I
 have O : ∀b,H b=none->b≠e:=λb n z=>by
  subst z;rcases Y with r | r
  ·exact d b n r
  ·rw[n]at r;cases r
 have a : ∀b u,H b=bX u->¬F4 (bX u)->b≠x:=λb u q nm z=>by subst z;rw[q]at I;exact nm I
 refine⟨λb u q n _ _=>k b u (O b n) q,λb u q n _ _=>⟨u.slots,k b u (O b n) q⟩,λb u q n _=>by rw[zL (d b n)];exact n,λb u q _=>?_,
  λb f q=>by rw[zL (a b _ q λz=>z)];exact q,λb u f q=>by rw[zL (a b _ q λz=>z)];exact q,λb g q=>⟨#[],by rw[zL (a b _ q λz=>z),q];simp⟩⟩
 by_cases U:b=e
 ·subst U;exact C
 ·exact⟨u,k b u U q⟩
end
def O5(h:e9)(H:Hp):List dv:=(LW h.objs.size).filter λa=>(H a).isSome
def ni(h:e9)(H:Hp):e9:=PySem.W.hideAll h<|O5 h H
theorem gb(h:e9)(H:Hp):(ni h H).objs.size=h.objs.size:=PySem.W.hideAll_size _ _
theorem nh(e:h.get? b=bX o)(n:H b=none):(ni h H).get? b=bX o:=
 PySem.W.hideAll_get _ e λa=>by have q:(H b).isSome=cz:=(Mu.mp a).2;rw[n]at q;simp at q
theorem tj(e:(ni h H).get? b=bX o):h.get? b=bX o/\H b=none:=by
 have I:h.get? b=bX o:=PySem.W.of_hideAll (O5 h H) e;refine⟨I,?_⟩;cases q:H b with
 | none=>rfl
 | some x=>
  have a:b∈O5 h H:=Mu.mpr ⟨Ma.mpr<|Mk I,by simp[q]⟩;have z:(ni h H).get? b=none:=PySem.W.hideAll_none (O5 h H) a;rw[z]at e;cases e
noncomputable def uG(g h:e9)(L:dv):List (dv×l6):=(LW h.objs.size).filterMap λa=>if a=L\/(g.get? a).isSome=cz then none else (h.get? a).map λo=>(a,o)
def yb(g h:e9)(L d:dv):List (dv×l6):=(uG g h L).filter λp=>decide<|p.1≠d
structure Mod(K:LX)(mg:UZ)(base:e9):Prop where
 Tx:K.In base
 glob:base.Ns xg mg
 blt : ∃mb,base.Ns Us mb/\∀x:Str,x ≠ "__name__"->mb x=C3 x
 nolimit:base.NoLimit
structure Cx where
 prog:h6
 w:g8
 K:LX
 mg:Str->Option dy
 base:e9
 A:j1
 N:List Str
 m5:d7
 FG:Hp
 env:m6
 outer:List m6
 stack:List m6
 ex:List dv
 fn:Str->Bool
 calm:Bool
 pn:List (dv×l6)
 xe:dy->d7->Prop
def xb(l:List m6):List dv:=l.filterMap (·.frame)
abbrev Cx.fs(X:Cx):List dv:=xb X.outer
noncomputable def R0(z:g9)(x:Str):Prop:=z.names.lookup x=bX .local\/z.names.lookup x=bX .cell\/z.names.lookup x=bX .free
noncomputable def Loc(z:g9)(x:Str):Prop:=z.names.lookup x=bX .local\/z.names.lookup x=bX .cell
noncomputable def LD(env:m6)(h:e9)(m:UZ)(x:Str)(u:dy):Prop:=
 (env.kindOf x=bX .local/\m x=bX u)\/((env.kindOf x=bX .cell\/env.kindOf x=bX .free)/\∃c,env.cells.lookup x=bX c/\h.IsCell c (bX u))
structure Cx.Ok(X:Cx):Prop where
 mod:Mod X.K X.mg X.base
 kind:X.env.scope.kind = .function
 glob:X.env.globals=xg
 blt:X.env.builtins=Us
 above:X.m5.heap.objs.size<=X.env.locals
 inj : ∀x y c,X.env.cells.lookup x=bX c->X.env.cells.lookup y=bX c->x=y
 has : ∀x,(X.env.kindOf x=bX .cell\/X.env.kindOf x=bX .free)->∃c,X.env.cells.lookup x=bX c
 G4 : ∀x c,X.fn x=cz->X.env.cells.lookup x=bX c->X.m5.heap.objs.size<=c
 hd:X.calm=cz->X.A.handled=none
 frames:X.A.frames=bX X.stack
 Ol:X.stack=X.outer\/(X.stack=X.env::X.outer/\X.env.frame=bX X.env.locals)
 M6 : ∀b∈X.ex,b≠X.env.locals/\∀x c,X.env.cells.lookup x=bX c->c≠b
 bs : ∀b o,X.base.get? b=bX o->X.m5.heap.get? b=bX o/\X.FG b=none
 A6:X.base.objs.size<=X.m5.heap.objs.size
 Ht : ∀b o,X.base.get? b=bX o->b∉X.ex
 G6 : ∀b∈X.ex,b∉X.fs
 sh:X.m5.heap.FunFrames X.base X.outer
 Dv : ∀b∈X.fs,X.FG b=none
structure Inv(X:Cx)(pins:UQ)(σ:List (Option V))(H:Hp)(s:d7):Prop where
 ok:X.Ok
 os:s.os=X.m5.os
 bare:Dm s.gens
 base:Un X.fs X.ex X.FG H X.m5.heap s.heap
 loc : ∃m,s.heap.Ns X.env.locals m/\∀(i:Nat) (x:Str) (v:V),X.N[i]? = bX x->σ[i]? = bX (bX v)->R0 X.env.scope x->∃u,RelV v u/\LD X.env s.heap m x u
 cell : ∀x c,X.env.cells.lookup x=bX c->∃v,s.heap.IsCell c v
 free:H X.env.locals=none
 wo : ∀x c,X.env.cells.lookup x=bX c->H c=none
 pin : ∀p∈X.pn++pins,s.heap.get? p.1=bX p.2/\H p.1=none/\p.1≠X.env.locals/\p.1∉X.fs/\∀v,p.2.data ≠ .cell v
 fy:kA X.prog X.w H s.heap
 len:σ.length=X.N.length
section
variable{X:Cx}{pins:UQ}{σ:List (Option V)}{H H':Hp}{s:d7}{h':e9}
theorem Cx.Ok.K_(ok:X.Ok)(e:X.base.get? b=bX o):b∉X.fs:=λI=>by have:=(ok.sh.mem I).1;rw[e]at this;cases this
theorem Inv.bs(I:Inv X pins σ H s) : ∀b o,X.base.get? b=bX o->s.heap.get? b=bX o/\H b=none:=λb o e=>
 ⟨I.base.keep b o (I.ok.bs b o e).1 (I.ok.bs b o e).2 (I.ok.K_ e) (I.ok.Ht b o e),I.base.free b o (I.ok.bs b o e).1 (I.ok.bs b o e).2 (I.ok.Ht b o e)⟩
theorem Inv.bk(I:Inv X pins σ H s) : ∀b o,X.base.get? b=bX o->s.heap.get? b=bX o:=λb o e=>(I.bs b o e).1
theorem Inv.mod(I:Inv X pins σ H s):Mod X.K X.mg X.base:=I.ok.mod
theorem Inv.mu(I:Inv X pins σ H s):X.K.In s.heap:=I.ok.mod.Tx.keeps I.bk
theorem Inv.lt(I:Inv X pins σ H s):X.env.locals<s.heap.objs.size:=let ⟨_,a,_⟩:=I.loc;a.lt
theorem Inv.sz(I:Inv X pins σ H s):X.m5.heap.objs.size<=s.heap.objs.size:=Np I.ok.above<|Sh I.lt
theorem Inv.L_(I:Inv X pins σ H s)(h:s.heap.objs.size<=a):a∉X.fs:=λO=>by obtain⟨_,o,U,_⟩:=I.ok.sh.mem O;exact absurd (MA (Mk U)<|Np I.sz h)<|Nn _
theorem Inv.DQ(I:Inv X pins σ H s) : ∀x c,X.env.cells.lookup x=bX c->c≠X.env.locals:=λx c e z=>by obtain⟨v,o,O,a⟩:=I.cell x c e;obtain⟨m,⟨f,d,b,U,Y,_⟩,_⟩:=I.loc;rw[z,U]at O;cases O;rw[Y]at a;cases a
theorem Inv.sh(I:Inv X pins σ H s):s.heap.FunFrames X.base X.outer:=by
 have all : ∀(l:List m6),(∀b∈xb l,b∈X.fs)->X.m5.heap.FunFrames X.base l->s.heap.FunFrames X.base l:=by
  intro l
  induction l with
  | nil=>intro _ _;trivial
  | cons d r m=>
   intro a h;obtain⟨g,⟨L,o,O,i,j,f⟩,k⟩:=h;have U:L∈X.fs:=a L (by unfold xb;rw[Sr,O];exact Mn);obtain⟨n,e⟩:=I.base.slot L o j (I.ok.Dv L U) U λz=>I.ok.G6 L z U;exact⟨g,⟨L,_,O,i,e,f⟩,m (λb Y=>a b<|by unfold xb;rw[Sr,O];exact Mm _ Y) k⟩
 exact all X.outer (λ_ Y=>Y) I.ok.sh
theorem Inv.stack(I:Inv X pins σ H s):s.heap.FunFrames X.base X.stack:=by
 rcases I.ok.Ol with e | ⟨e,O⟩
 ·rw[e];exact I.sh
 ·rw[e]
  obtain⟨m,a,_⟩:=I.loc;refine .cons (by rw[I.ok.kind];decide) O a ?_ I.sh;exact Heap.get?_none_of_le<|Np I.ok.A6 I.ok.above
theorem Inv.T4(I:Inv X pins σ H s) : ∀b∈xb X.stack,b∈X.env.locals::X.fs:=λb O=>by
 rcases I.ok.Ol with e | ⟨e,U⟩
 ·rw[e]at O;exact Mm _ O
 ·rw[e]at O
  unfold xb at O;rw[Sr,U]at O;exact O
theorem Inv.UO(I:Inv X pins σ H s) : ∀b∈xb X.stack,H b=none:=λb O=>by
 rcases Mj.mp (I.T4 b O)with e | O
 ·rw[e];exact I.free
 ·obtain⟨_,o,U,_⟩:=I.ok.sh.mem O
  exact I.base.free b o U (I.ok.Dv b O) λz=>I.ok.G6 b z O
theorem Inv.step{g':Array GenState}{t':Nat}{d':Drawn}{ch:List dv}(I:Inv X pins σ H s)
 (Y : ∀b∈ch,(b∈X.ex\/X.m5.heap.objs.size<=b)/\b≠X.env.locals/\(∀x c,X.env.cells.lookup x=bX c->c≠b)/\∀p∈X.pn++pins,p.1≠b)
 (keep : ∀b o,b≠X.env.locals->b∉X.fs->b∉ch->s.heap.get? b=bX o->H b=none->h'.get? b=bX o)
 (C : ∀b o,b≠X.env.locals->b∈X.fs->b∉ch->s.heap.get? b=bX o->H b=none->∃sl,h'.get? b=bX {o with slots:=sl}) (free : ∀b o,b∉ch->s.heap.get? b=bX o->H b=none->H' b=none)
 (J : ∀b o,b∉ch->s.heap.get? b=bX o->∃M,h'.get? b=bX M)
 (Z : ∀b xs,H b=bX (.tup xs)->H' b=bX (.tup xs)) (L : ∀b o u,H b=bX (.rq o u)->H' b=bX (.rq o u)) (S : ∀b ps,H b=bX (.DV ps)->∃more,H' b=bX (.DV<|ps++more))
 (ns : ∀m,s.heap.Ns X.env.locals m->h'.Ns X.env.locals m) (fy:kA X.prog X.w H' h') (hg:Dm g') :
 Inv X pins σ H' {s with heap:=h',gens:=g',drawn:=d',toks:=t'}:=by
 have y : ∀b o,X.m5.heap.get? b=bX o->b≠X.env.locals:=λb o e=>Mr<|MA (Mk e) I.ok.above;have j : ∀b o,X.m5.heap.get? b=bX o->b∉X.ex->b∉ch:=λb o e a O=>by
  rcases (Y b O).1 with z | z
  ·exact a z
  ·exact absurd (MA (Mk e) z)<|Nn _
 have A : ∀x c,X.env.cells.lookup x=bX c->∀v,s.heap.IsCell c v->h'.IsCell c v:=λx c e v P=>by
  obtain⟨o,U,t⟩:=P;have g:c∉ch:=λz=>(Y c z).2.2.1 x c e rfl;by_cases B:c∈X.fs
  ·obtain⟨sl,q⟩:=C c o (I.DQ x c e) B g U (I.wo x c e)
   exact⟨_,q,t⟩
  ·exact⟨o,keep c o (I.DQ x c e) B g U<|I.wo x c e,t⟩
 refine⟨I.ok,I.os,hg,⟨λb o e n O a=>?_,λb o e n O a=>?_,λb o e n a=>?_,λb o e a=>?_,λb xs e=>Z b xs<|I.base.DY b xs e,λb o xs e=>L b o xs<|I.base.Dw b o xs e,λb ps e=>?_⟩,?_,λx c e=>?_,?_,λx c e=>?_,λp E=>?_,fy,I.len⟩
 ·exact keep b o (y b o e) O (j b o e a) (I.base.keep b o e n O a)<|I.base.free b o e n a
 ·obtain⟨sl,f⟩:=I.base.slot b o e n O a
  obtain⟨K,h⟩:=C b _ (y b o e) O (j b o e a) f<|I.base.free b o e n a;exact⟨K,h⟩
 ·obtain⟨M,f⟩:=I.base.there b o e a
  exact free b M (j b o e a) f<|I.base.free b o e n a
 ·obtain⟨M,f⟩:=I.base.there b o e a
  exact J b M (j b o e a) f
 ·obtain⟨T,f⟩:=I.base.DW b ps e
  obtain⟨W,h⟩:=S b _ f;exact⟨T++W,by rw[h,Array.append_assoc]⟩
 ·obtain⟨m,R,Q⟩:=I.loc
  refine⟨m,ns m R,λi x v f h N=>?_⟩;obtain⟨u,r,l⟩:=Q i x v f h N;refine⟨u,r,?_⟩;rcases l with l | ⟨k,c,e,z⟩
  ·exact .inl l
  ·exact .inr ⟨k,c,e,A x c e _ z⟩
 ·obtain⟨v,z⟩:=I.cell x c e
  exact⟨v,A x c e v z⟩
 ·obtain⟨m,⟨o,_,_,U,_⟩,_⟩:=I.loc
  exact free _ o (λz=>(Y _ z).2.1 rfl) U I.free
 ·obtain⟨v,o,U,t⟩:=I.cell x c e
  exact free c o (λz=>(Y c z).2.2.1 x c e rfl) U<|I.wo x c e
 ·obtain⟨e,n,F,G,d⟩:=I.pin p E
  have g:p.1∉ch:=λz=>(Y p.1 z).2.2.2 p E rfl;exact⟨keep p.1 p.2 F G g e n,free p.1 p.2 g e n,F,G,d⟩
theorem Inv.un{t':Nat}(I:Inv X pins σ H s)(u:Un X.fs [] H H' s.heap h')(C:kA X.prog X.w H' h'):Inv X pins σ H' {s with heap:=h',toks:=t'}:=by
 obtain⟨m,⟨o,j,i,U,r⟩,_⟩:=id I.loc;obtain⟨p,f⟩:=u.any U I.free ⋯;exact I.step (g':=s.gens) (d':=s.drawn) (ch:=[]) (λ_ z=>nomatch z) (λb o _ O _ e n=>u.keep b o e n O ⋯) (λb o _ O _ e n=>u.slot b o e n O ⋯) (λb o _ e n=>u.free b o e n ⋯) (λb o _ e=>u.there b o e ⋯) u.DY u.Dw u.DW (λk g=>by obtain⟨l,a,d,Y,h⟩:=g;rw[U]at Y;cases Y;exact⟨_,a,d,f,h⟩) C I.bare
theorem Inv.call{g':Array GenState}{t':Nat}{d':Drawn}{ch:List dv}(I:Inv X pins σ H s)(u:Un (xb X.stack) ch H H' s.heap h')(C:kA X.prog X.w H' h')(J:Dm g')
 (Y : ∀b∈ch,(b∈X.ex\/X.m5.heap.objs.size<=b)/\b≠X.env.locals/\(∀x c,X.env.cells.lookup x=bX c->c≠b)/\∀p∈X.pn++pins,p.1≠b) :
 Inv X pins σ H' {s with heap:=h',gens:=g',drawn:=d',toks:=t'}:=by
 obtain⟨m,⟨o,l,k,d,r⟩,_⟩:=id I.loc;obtain⟨A,U⟩:=u.any d I.free λz=>(Y _ z).2.1 rfl;exact I.step (ch:=ch) Y (λb o U h O e n=>u.keep b o e n (λz=>(Mj.mp<|I.T4 b z).elim U h) O) (λb o _ _ O e n=>u.any e n O) (λb o O e n=>u.free b o e n O) (λb o O e=>u.there b o e O) u.DY u.Dw u.DW (λt i=>by obtain⟨y,f,g,a,j⟩:=i;rw[d]at a;cases a;exact⟨_,f,g,U,j⟩) C J
theorem Inv.turned{t':Nat}{it:dv}(I:Inv X pins σ H s)(k : ∀b o,b≠it->s.heap.get? b=bX o->h'.get? b=bX o)(M:H it=none)(U:it≠X.env.locals)
 (C:it∈X.ex\/X.m5.heap.objs.size<=it) (J : ∀x c,X.env.cells.lookup x=bX c->c≠it) (L : ∀p∈X.pn++pins,p.1≠it):Inv X pins σ H {s with heap:=h',toks:=t'}:=by
 have Y : ∀b u,H b=bX u->b≠it:=λb u e z=>by rw[z,M]at e;cases e
 refine I.step (g':=s.gens) (d':=s.drawn) (ch:=[it]) (λb f=>?_) (λb o _ _ O e _=>k b o (λz=>O<|by simp[z]) e) (λb o _ _ O e _=>⟨o.slots,k b o (λz=>O<|by simp[z]) e⟩) (λ_ _ _ _ n=>n)
  (λb o O e=>⟨o,k b o (λz=>O<|by simp[z]) e⟩) (λ_ _ e=>e) (λ_ _ _ e=>e) (λb i e=>⟨#[],by rw[e];simp⟩) (λm g=>?_) (λb u e=>?_) I.bare
 ·have e:b=it:=by simpa using f
  subst e;exact⟨C,U,J,L⟩
 ·obtain⟨o,d,a,h,r⟩:=g
  exact⟨o,d,a,k _ o (MD U) h,r⟩
 ·refine(I.fy b u e).DC (λc v O q=>k c v ?_ q) (λ_ q=>q) λ_ _ q=>q
  rcases O with z | z
  ·rw[z];exact Y b u e
  ·exact Y c _ z
theorem Inv.tok(I:Inv X pins σ H s)(t:Nat):Inv X pins σ H {s with toks:=t}:=I.un (h':=s.heap) (t':=t) Un.refl I.fy
theorem Inv.kept(I:Inv X pins σ H s)(k : ∀b u,s.heap.get? b=bX u->h'.get? b=bX u):Inv X pins σ H {s with heap:=h',toks:=t'}:=I.un (Un.kept k)<|I.fy.kept k
theorem Inv.laid(I:Inv X pins σ H s)(k : ∀b u,s.heap.get? b=bX u->h'.get? b=bX u)(O:s.heap.objs.size<=a)(new:i7 X.prog X.w (upd H a o) h' a o) :
 Inv X pins σ (upd H a o) {s with heap:=h',toks:=t'}:=I.un (Un.laid k O<|I.fy.fresh O)<|I.fy.laid k O new
theorem Inv.write(I:Inv X pins σ H s)(O:F4 (H x))(U:e=x\/H e=bX (.own x))(k : ∀b u,b≠e->s.heap.get? b=bX u->h'.get? b=bX u)(Y : ∃u,h'.get? e=bX u)
 (new:i7 X.prog X.w (upd H x o) h' x o):Inv X pins σ (upd H x o) {s with heap:=h',toks:=t'}:=I.un (Un.write O U k Y)<|I.fy.write O U k Y new
theorem Inv.N6(I:Inv X pins σ H s)(h : ∀p∈O,s.heap.get? p.1=bX p.2/\H p.1=none/\p.1≠X.env.locals/\p.1∉X.fs/\∀v,p.2.data ≠ .cell v):Inv X O σ H s:=
 ⟨I.ok,I.os,I.bare,I.base,I.loc,I.cell,I.free,I.wo,λp U=>(OU.mp U).elim (λz=>I.pin p<|Sm _ z) (h p),I.fy,I.len⟩
theorem WN{N:List Str}(I:N.Nodup){i j:Nat}{x:Str}(a:N[i]? = bX x)(b:N[j]? = bX x):i=j:=by obtain⟨e,d⟩:=Mo.mp a;obtain⟨f,O⟩:=Mo.mp b;exact(List.getElem_inj I).mp (d.trans O.symm)
theorem K5{M:Model}{A:j1}{E:EQ}{i:Nat}{x:Str}{v:V}{u:dy}{Q:Unit->d7->Prop}(I:Inv X pins σ H s)(hN:X.N.Nodup)(C:X.N[i]? = bX x)(hx:Loc X.env.scope x)(r:RelV v u)
 (h : ∀Z,Inv X pins (σ.set i<|some v) H Z->(∃a,Pp a s.heap Z.heap/\(a=X.env.locals\/X.env.cells.lookup x=bX a))->Q () Z) (hf:X.fn x=cz\/X.env.scope.names.lookup x=bX .local:=by first | exact .inl rfl | exact .inr rfl | assumption):wpAny M A (storeName X.env x u) Q E s:=by
 obtain⟨m,L,hl⟩:=id I.loc;have ax:(X.env.scope.kind == .class || (X.env.scope.kind == .module && X.env.locals != X.env.globals))=dn:=by rw[I.ok.kind];rfl
 have ac:i<σ.length:=by rw[I.len];exact(Mo.mp C).1
 have DQ:=I.DQ;have ae : ∀{a:dv} {h':e9},(∃o,s.heap.get? a=bX o/\H a=none)->Pp a s.heap h'->kA X.prog X.w H h':=λ{a h'} ha f b ob e=>by
  obtain⟨_,_,ak⟩:=ha;refine(I.fy b ob e).DC (λc G O q=>(f.2 c ?_).trans q) (λ_ q=>q) λ_ _ q=>q;rintro rfl;rcases O with rfl | O
  ·rw[ak]at e;cases e
  ·rw[ak]at O;cases O
 rcases hx with Y | Y
 ·refine wpAny_storeName_local Y L (λh' b5 f=>?_) ax
  obtain⟨oL,_,_,b7,_⟩:=id L;refine h _ ⟨I.ok,I.os,I.bare,⟨λb o e n l hx=>?_,λb o e n l hx=>?_,I.base.free,λb o e hx=>?_,I.base.DY,I.base.Dw,I.base.DW⟩,⟨_,b5,λj y v' g U K=>?_⟩,λy c e=>?_,I.free,I.wo,λp P=>?_,ae ⟨oL,b7,I.free⟩ f,by simpa using I.len⟩ ⟨_,f,.inl rfl⟩
  ·exact(f.2 b<|Mr<|MA (Mk e) I.ok.above).trans (I.base.keep b o e n l hx)
  ·obtain⟨W,g⟩:=I.base.slot b o e n l hx
   exact⟨W,(f.2 b<|Mr<|MA (Mk e) I.ok.above).trans g⟩
  ·obtain⟨S,g⟩:=I.base.there b o e hx
   exact⟨S,(f.2 b<|Mr<|MA (Mk e) I.ok.above).trans g⟩
  ·by_cases t:j=i
   ·subst t
    rw[C]at g;cases g;rw[Mx ac]at U;cases U;exact⟨u,r,.inl ⟨Y,by simp⟩⟩
   ·rw[Md (MD t)]at U
    obtain⟨u',T,q⟩:=hl j y v' g U K;refine⟨u',T,?_⟩;rcases q with⟨k,e⟩ | ⟨k,c,e,z⟩
    ·refine .inl ⟨k,?_⟩
     have:y≠x:=λe=>t<|WN hN g<|e ▸ C;simp[this,e]
    ·exact .inr ⟨k,c,e,z.sameBut f<|DQ y c e⟩
  ·obtain⟨G,z⟩:=I.cell y c e
   exact⟨G,z.sameBut f<|DQ y c e⟩
  ·obtain⟨e,n,F,R,d⟩:=I.pin p P
   exact⟨(f.2 p.1 F).trans e,n,F,R,d⟩
 ·have J:X.fn x=cz:=by
   rcases hf with z | z
   ·exact z
   ·rw[z]at Y;cases Y
  obtain⟨c,O⟩:=I.ok.has x<|.inl Y;obtain⟨G,z⟩:=I.cell x c O;refine wpAny_storeName_cell I.ok.kind Y O z<|λh' am f=>?_;obtain⟨oc,an,b8⟩:=id z;refine h {s with heap:=h'} ⟨I.ok,I.os,I.bare,⟨λb o e n l hx=>?_,λb o e n l hx=>?_,I.base.free,λb o e hx=>?_,I.base.DY,I.base.Dw,I.base.DW⟩,⟨m,L.sameBut f<|MD<|DQ x c O,λj y v' g U K=>?_⟩,λy B e=>?_,I.free,I.wo,λp P=>?_,ae ⟨oc,an,I.wo x c O⟩ f,by simpa using I.len⟩ ⟨c,f,.inr O⟩
  ·exact(f.2 b<|Mr<|MA (Mk e)<|I.ok.G4 x c J O).trans (I.base.keep b o e n l hx)
  ·obtain⟨W,g⟩:=I.base.slot b o e n l hx
   exact⟨W,(f.2 b<|Mr<|MA (Mk e)<|I.ok.G4 x c J O).trans g⟩
  ·obtain⟨S,g⟩:=I.base.there b o e hx
   exact⟨S,(f.2 b<|Mr<|MA (Mk e)<|I.ok.G4 x c J O).trans g⟩
  ·by_cases t:j=i
   ·subst t
    rw[C]at g;cases g;rw[Mx ac]at U;cases U;exact⟨u,r,.inr ⟨.inl Y,c,O,am⟩⟩
   ·rw[Md (MD t)]at U
    obtain⟨u',T,q⟩:=hl j y v' g U K;refine⟨u',T,?_⟩;rcases q with q | ⟨k,B,e,z'⟩
    ·exact .inl q
    ·refine .inr ⟨k,B,e,z'.sameBut f ?_⟩
     rintro rfl;exact t<|WN hN g<|I.ok.inj _ _ _ e O ▸ C
  ·by_cases ap:B=c
   ·subst ap;exact⟨_,am⟩
   ·obtain⟨w2,z2⟩:=I.cell y B e
    exact⟨w2,z2.sameBut f ap⟩
  ·obtain⟨e,n,F,R,d⟩:=I.pin p P
   refine⟨(f.2 p.1 ?_).trans e,n,F,R,d⟩;intro q;rw[q,an]at e;have q':oc=p.2:=Nd e;exact d G (by rw[<- q'];exact b8)
theorem Wr(I:Inv X pins σ H s)(O:X.N.Nodup)(C:X.N[i]? = bX x)(hx:Loc X.env.scope x)(r:RelV v u)
 (h : ∀z,Inv X pins (σ.set i<|some v) H z->Q () z) (U:X.fn x=cz\/X.env.scope.names.lookup x=bX .local:=by first | exact .inl rfl | exact .inr rfl | assumption):wpAny M A (storeName X.env x u) Q E s:=
 K5 I O C hx r (λz Y _=>h z Y) U
theorem Inv.z_(I:Inv X pins σ H s)(O:s'.os=s.os)(u:Un (xb X.stack) ch H H' s.heap s'.heap)(z:kA X.prog X.w H' s'.heap)(U:Dm s'.gens)
 (Y : ∀b∈ch,(b∈X.ex\/X.m5.heap.objs.size<=b)/\b≠X.env.locals/\(∀x c,X.env.cells.lookup x=bX c->c≠b)/\∀p∈X.pn++pins,p.1≠b):Inv X pins σ H' s':=by
 obtain⟨h',g',d',t',a⟩:=s';have e:a=s.os:=O;subst e;exact I.call (g':=g') (t':=t') (d':=d') u z U Y
end
abbrev XK:=dy->Option dv->Hp->Prop
abbrev St:=List (Option V)
abbrev VK:=V->Hp->Prop
abbrev TE:=St->Hp->VK->Prop
abbrev TT:=St->Hp->(Bool->Hp->Prop)->Prop
abbrev TA:=St->Hp->(List V->Hp->Prop)->Prop
structure Ends where
 nx:St->Hp->Prop
 rt:VK
 bk:St->Hp->Prop:=λ_ _=>False
 ct:St->Hp->Prop:=λ_ _=>False
abbrev TS:=Ends->St->Hp->Prop
noncomputable def EP(X:Cx)(z:UQ)(I:St)(Q:VK)(u:dy)(C:d7):Prop:=∃v a,Inv X z I a C/\RelV v u/\Q v a
noncomputable def TP(X:Cx)(z:UQ)(I:St)(Q:Bool->Hp->Prop)(b:Bool)(C:d7):Prop:=∃a,Inv X z I a C/\Q b a
noncomputable def AP(X:Cx)(z:UQ)(I:St)(Q:List V->Hp->Prop)(us:List dy)(C:d7):Prop:=∃b a,Inv X z I a C/\eF b us/\Q b a
noncomputable def SP(X:Cx)(z:UQ)(D:Ends)(f:Flow)(C:d7):Prop:=
 match f with
 | .next=>∃a b,Inv X z a b C/\D.nx a b
 | .brk=>∃a b,Inv X z a b C/\D.bk a b
 | .cont=>∃a b,Inv X z a b C/\D.ct a b
 | .ret u=>∃v a b,Inv X z a b C/\RelV v u/\D.rt v b
noncomputable def PE(X:Cx)(e:eh)(t:TE):Prop:=
 ∀(a:UQ) (s:d7) (b:St) (H:Hp) (Q:VK),Inv X a b H s->t b H Q->wpAny (eg X.prog X.w) X.A (ej e X.env) (EP X a b Q) X.xe s
noncomputable def PT(X:Cx)(e:eh)(t:TT):Prop:=
 ∀(a:UQ) (s:d7) (b:St) (H:Hp) (Q:Bool->Hp->Prop),Inv X a b H s->t b H Q->wpAny (eg X.prog X.w) X.A (DS e X.env<|eval e X.env) (TP X a b Q) X.xe s
noncomputable def PW(X:Cx)(e:eh)(t:TT):Prop:=
 ∀(I:Sem dy) (a:UQ) (s:d7) (b:St) (H:Hp) (Q:Bool->Hp->Prop),Inv X a b H s->t b H Q->wpAny (eg X.prog X.w) X.A (DS e X.env I) (TP X a b Q) X.xe s
theorem PW.pt(h:PW X e t):PT X e t:=h _
noncomputable def PA(X:Cx)(es:List eh)(t:TA):Prop:=
 ∀(pos:gB) (a:UQ) (s:d7) (b:St) (H:Hp) (Q:List V->Hp->Prop),Inv X a b H s->t b H Q->wpAny (eg X.prog X.w) X.A (I7<|backTo pos<|starEach es X.env) (AP X a b Q) X.xe s
noncomputable def PS(X:Cx)(st:i3)(t:TS):Prop:=
 ∀(a:UQ) (s:d7) (b:St) (H:Hp) (D:Ends),Inv X a b H s->t D b H->wpAny (eg X.prog X.w) X.A (exec st X.env) (SP X a D) X.xe s
noncomputable def p6(X:Cx)(st:List i3)(t:TS):Prop:=
 ∀(a:UQ) (s:d7) (b:St) (H:Hp) (D:Ends),Inv X a b H s->t D b H->wpAny (eg X.prog X.w) X.A (execs st X.env) (SP X a D) X.xe s
theorem eM(h:wpAny M A t Q E s)(I : ∀a s,Q a s->Q' a s):wpAny M A t Q' E s:=Ot h I λ_ _ x=>x
section
variable{X:Cx}
def uI(i:Nat):TE:=λa H Q=>∃v,a[i]? = bX (bX v)/\Q v H
def tC(v:V):TE:=λ_ H Q=>Q v H
theorem Bq(J:X.N[i]? = bX x)(L:R0 X.env.scope x)(z:(x==("__debug__" : Str))=dn:=by decide)(C:(x==("__classdict__" : Str))=dn:=by decide):PE X (.Name x pos) (uI i):=by
 intro a s j H Q I h;obtain⟨v,e,h⟩:=h;obtain⟨m,g,d⟩:=I.loc;obtain⟨u,r,l⟩:=d i x v J e L;have U:EP X a j Q u s:=⟨v,H,I,r,h⟩;rcases l with⟨O,f⟩ | ⟨O,c,Y,b⟩
 ·exact Vs (wpAny_loadName_local I.ok.kind O g f U) z
 ·rcases O with O | O
  ·exact Vs (wpAny_loadName_cell I.ok.kind O Y b U) z
  ·exact Vs (wpAny_loadName_free I.ok.kind O Y b U C) z
theorem By:PE X (.Constant (.int i) j pos) (tC<|.int i):=λ_ _ _ H _ I h=>wpAny_Constant_int ⟨.int i,H,I.tok _,⟨_,rfl⟩,h⟩
theorem Gd:PE X (.Constant (.bool b) j pos) (tC<|.bl b):=λ_ _ _ H _ I h=>Constant_bool ⟨.bl b,H,I,rfl,h⟩
theorem Bv:PE X (.Constant .none j pos) (tC .el):=λ_ _ _ H _ I h=>Constant_none ⟨.el,H,I,rfl,h⟩
theorem Bs:PE X (.Constant (.str x) j pos) (tC<|.str x):=λ_ _ _ H _ I h=>Calls.Constant_str ⟨.str x,H,I.tok _,⟨_,rfl⟩,h⟩
def Gl(X:Cx)(x:Str):Prop:=X.env.kindOf x=bX .globalImplicit
theorem fJ(I:Inv X pins σ H s)(O:Gl X x)(C:X.mg x=bX u)(h:Q u s)
 (z:(x==("__debug__" : Str))=dn:=by decide):wpAny (eg X.prog X.w) X.A (ej (.Name x pos) X.env) Q E s:=
 Calls.Name_function_global I.ok.kind O (Calls.loadGlobal_global (by rw[I.ok.glob];exact I.mod.glob.keeps I.bk) C h) z
theorem kO(I:Inv X pins σ H s)(O:Gl X x)(C:X.mg x=none)(U:C3 x=bX u)(h:Q u s)
 (J:x ≠ "__name__":=by decide) (z:(x==("__debug__" : Str))=dn:=by decide):wpAny (eg X.prog X.w) X.A (ej (.Name x pos) X.env) Q E s:=by
 obtain⟨d,a,b⟩:=I.mod.blt;exact Calls.Name_function_global I.ok.kind O (Calls.loadGlobal_builtin (by rw[I.ok.glob];exact I.mod.glob.keeps I.bk) C (by rw[I.ok.blt];exact a.keeps I.bk) ((b x J).trans U) h) z
variable{a b:eh}{ta tb:TE}{pos:gB}
noncomputable def PC(X:Cx)(I:CmpOp)(a b:eh)(t:TE):Prop:=
 ∀(d:UQ) (s:d7) (e:St) (H:Hp) (Q:VK),Inv X d e H s->t e H Q->
  wpAny (eg X.prog X.w) X.A (ej a X.env) (λv O=>wpAny (eg X.prog X.w) X.A (ej b X.env) (λu U=>wpAny (eg X.prog X.w) X.A (nf I v u) (EP X d e Q) X.xe U) X.xe O) X.xe s
theorem mK(b:eh)(h:op ≠ .In)(z:op ≠ .NotIn):A5 op b=dn:=by
 have a:(op==CmpOp.In)=dn:=by cases op<;>first | rfl | exact absurd rfl h
 have I:(op==CmpOp.NotIn)=dn:=by cases op<;>first | rfl | exact absurd rfl z
 cases b<;>simp[A5,a,I]
def tB(t:TE):TT:=λb H Q=>t b H λx a=>∃c,x = .bl c/\Q c a
theorem Bh(h:PC X op a b t)(z:A5 op b=dn:=by first | exact mK _ ⋯ ⋯ | rfl):PT X (.Compare a [op] [b] pos) (tB t):=by intro e s k H Q I i;refine Y_ (eM (h e s k H _ I i) λv l z=>eM z λu m g=>eM g λc n O=>?_) z;obtain⟨x,f,U,Y,j⟩:=O;obtain⟨d,rfl,q⟩:=j;cases Y;exact NW ⟨f,U,q⟩
theorem Bf(h:PE X e t)(U : ∀O,DS e X.env O=(do let v <- O;DU e.pos;sm [v] (L0 v)):=by intro _;rfl):PT X e (tB t):=by intro a s k H Q I g;refine isTrue_plain (eM (h a s k H _ I g) λv l Y=>?_)<|U _;obtain⟨x,b,f,j,i⟩:=Y;obtain⟨d,rfl,q⟩:=i;cases j;exact NW ⟨b,f,q⟩
variable{tA O1:TT}{yb:List eh}
def IX(t u:TT):TT:=λb H Q=>t b H λc a=>if c=cz then u b a Q else Q dn a
def U'(t u:TT):TT:=λb H Q=>t b H λc a=>if c=cz then Q cz a else u b a Q
def IS(t:TT):TT:=λb H Q=>t b H λc a=>Q (!c) a
theorem sk(z:PT X a tA):PW X (.BoolOp .And [a] pos) tA:=by
 intro O b s d H Q I h;refine isTrue_and<|eM (z b s d H Q I h) λc f e=>?_;cases c with
 | true=>exact isTrue_and_nil e
 | false=>exact e
theorem AW(z:PT X a tA):PW X (.BoolOp .Or [a] pos) tA:=by
 intro O b s d H Q I h;refine isTrue_or<|eM (z b s d H Q I h) λc f e=>?_;cases c with
 | false=>exact isTrue_or_nil e
 | true=>exact e
theorem AX(z:PT X a tA)(Y:PW X (.BoolOp .And (b::yb) pos) O1):PW X (.BoolOp .And (a::b::yb) pos) (IX tA O1):=by
 intro j d s f H Q I h;refine isTrue_and<|eM (z d s f H _ I h) λc i g=>?_;obtain⟨e,O,U⟩:=g;cases c with
 | true=>exact Y j d i f e Q O U
 | false=>exact⟨e,O,U⟩
theorem FV(z:PT X a tA)(Y:PW X (.BoolOp .Or (b::yb) pos) O1):PW X (.BoolOp .Or (a::b::yb) pos) (U' tA O1):=by
 intro j d s f H Q I h;refine isTrue_or<|eM (z d s f H _ I h) λc i g=>?_;obtain⟨e,O,U⟩:=g;cases c with
 | true=>exact⟨e,O,U⟩
 | false=>exact Y j d i f e Q O U
theorem Bg(ha:PT X a tA):PT X (.UnaryOp .Not a pos) (IS tA):=by intro b s e H Q I h;exact isTrue_not<|ha b s e H (λc d=>Q (!c) d) I h
noncomputable def Fn(ta tb:TE):TE:=λb H Q=>ta b H λx a=>∃c,x = .bl c/\if c=cz then tb b a Q else Q (.bl dn) a
def Fg(ta:TE):TE:=λb H Q=>ta b H λx a=>∃c,x = .bl c/\Q (.bl<|!c) a
theorem Bt(h:PE X a t):PE X (.BoolOp op [a] pos) t:=λb s e H Q I d=>BoolOp_one<|h b s e H Q I d
theorem Bz(z:PE X a ta)(Y:PE X (.BoolOp .And (b::yb) pos) tb):PE X (.BoolOp .And (a::b::yb) pos) (Fn ta tb):=by
 intro d s f H Q I h;refine BoolOp_and<|eM (z d s f H _ I h) λv j g=>?_;obtain⟨x,e,U,i,O⟩:=g;obtain⟨c,rfl,O⟩:=O;cases i;refine NW ?_;cases c with
 | true=>exact Y d j f e Q U O
 | false=>exact⟨.bl dn,e,U,rfl,O⟩
theorem Bu(z:PE X a ta):PE X (.UnaryOp .Not a pos) (Fg ta):=by intro b s f H Q I h;refine UnaryOp_<|eM (z b s f H _ I h) λv g U=>?_;obtain⟨x,d,Y,e,O⟩:=U;obtain⟨c,rfl,O⟩:=O;cases e;exact not_of<|NW ⟨.bl<|!c,d,Y,rfl,O⟩
noncomputable def T8(t:TT)(ta tb:TE):TE:=λa H Q=>t a H λc b=>if c=cz then ta a b Q else tb a b Q
theorem mj(Y:PT X c tA)(z:PE X a ta)(C:PE X b tb):PE X (.IfExp c a b pos) (T8 tA ta tb):=by
 intro e s f H Q I h;refine wpAny_IfExp<|eM (Y e s f H _ I h) λd i j=>?_;obtain⟨g,O,U⟩:=j;cases d with
 | true=>exact z e i f g Q O U
 | false=>exact C e i f g Q O U
end
noncomputable def fA(K:LX)(H:Hp)(a:dv)(xs:List V):Prop:=
 Rd H a (.lst xs)\/
  ∃(o:l6) (b:Array dy) (n:Nat),K.lookup a=bX o/\o.cls = .type "list"/\o.dict=none/\o.data = .seq b n/\b.size<=fh/\eF xs b.toList
noncomputable def g5(K:LX)(H:Hp)(a:dv)(xs:List V):Prop:=
 Rd H a (.tup xs)\/
  ∃(o:l6) (b:Array dy) (n:Nat),K.lookup a=bX o/\(o.cls,o.dict)=(OA "tuple",none)/\o.data = .seq b n/\b.size<=fh/\eF xs b.toList
noncomputable def Lz:dy->Option V
 | .none=>bX .el
 | .bool b=>bX (.bl b)
 | .int i _=>bX (.int i)
 | .str x _=>bX (.str x)
 | .bytes b _=>bX (.F8 b)
 | .float b _=>bX (.D9 b)
 | .ref a=>bX (.ref a)
 | .type n=>bX (.ty n)
 | _=>none
theorem RelV.abs(r:RelV x u):Lz u=bX x:=by
 cases x with
 | el=>cases r;rfl
 | bl _=>cases r;rfl
 | int _=>obtain⟨t,rfl⟩:=r;rfl
 | str _=>obtain⟨t,rfl⟩:=r;rfl
 | F8 _=>obtain⟨t,rfl⟩:=r;rfl
 | D9 _=>obtain⟨t,rfl⟩:=r;rfl
 | ref _=>cases r;rfl
 | ty _=>cases r;rfl
theorem RelV.inj(r:RelV x u)(q:RelV y u):x=y:=Nd<|r.abs.symm.trans q.abs
theorem eF.inj : ∀{xs ys:List V} {us:List dy},eF xs us->eF ys us->xs=ys
 | _,_,_,.nil,.nil=>rfl
 | _,_,_,.cons r t,.cons r' t'=>by rw[r.inj r',eF.inj t t']
section
variable{X:Cx}{pins:UQ}{σ:St}{H:Hp}{s:d7}{a:dv}{xs ys:List V}
theorem fA.of{K:LX}(h:H a=bX (.lst xs)):fA K H a xs:= .inl (.inl h)
theorem g5.of{K:LX}(h:H a=bX (.tup xs)):g5 K H a xs:= .inl (.inl h)
theorem Inv.list(I:Inv X pins σ H s)(h:fA X.K H a xs) : ∃its:List dy,eF xs its/\PlainL s.heap a its.toArray/\xs.length<=fh:=by
 rcases h with h | ⟨o,its,n,O,U,hd,hs,hz,r⟩
 ·obtain⟨z,its,n,r,e⟩:=h.ok I.fy
  exact⟨its,r,⟨_,n,e,rfl,rfl,rfl⟩,z⟩
 ·refine⟨its.toList,r,⟨o,n,I.mu a o O,U,hd,by simpa using hs⟩,?_⟩
  have e:=r.length;simp only[NG]at e;omega
theorem Inv.tuple(I:Inv X pins σ H s)(h:g5 X.K H a xs) : ∃its:List dy,eF xs its/\F0 s.heap a its.toArray/\xs.length<=fh:=by
 rcases h with h | ⟨o,its,n,O,U,hs,hz,r⟩
 ·obtain⟨z,its,r,p⟩:=h.ok I.fy
  exact⟨its,r,p.tup,z⟩
 ·refine⟨its.toList,r,⟨o,I.mu a o O,(Prod.mk.inj U).1,n,by simpa using hs⟩,?_⟩
  have e:=r.length;simp only[NG]at e;omega
theorem Inv.TF(I:Inv X pins σ H s)(h:fA X.K H a xs)(h':fA X.K H a ys):xs=ys:=by
 obtain⟨f,r,⟨o,n,e,_,_,d⟩,_⟩:=I.list h;obtain⟨b,i,⟨k,j,O,_,_,g⟩,_⟩:=I.list h';rw[e]at O;cases O;rw[d]at g;injection g with U _;have:f=b:=by simpa using congrArg Array.toList U
 subst this;exact r.inj i
theorem Inv.U4(I:Inv X pins σ H s)(h:g5 X.K H a xs)(h':g5 X.K H a ys):xs=ys:=by
 obtain⟨f,r,⟨o,e,_,n,d⟩,_⟩:=I.tuple h;obtain⟨b,i,⟨k,O,_,j,g⟩,_⟩:=I.tuple h';rw[e]at O;cases O;rw[d]at g;injection g with U _;have:f=b:=by simpa using congrArg Array.toList U
 subst this;exact r.inj i
end
abbrev Cx.B3(X:Cx)(E:EQ):Cx:={X with xe:=E}
abbrev Cx.H8(X:Cx):Cx:=X.B3 λ_ _=>False
theorem Cx.Ok.B3{X:Cx}(ok:X.Ok)(E:EQ):(X.B3 E).Ok:=
 ⟨ok.mod,ok.kind,ok.glob,ok.blt,ok.above,ok.inj,ok.has,ok.G4,ok.hd,ok.frames,ok.Ol,ok.M6,ok.bs,ok.A6,ok.Ht,ok.G6,ok.sh,ok.Dv⟩
theorem Cx.Ok.DD{X:Cx}{E:EQ}(ok:(X.B3 E).Ok):X.Ok:=
 ⟨ok.mod,ok.kind,ok.glob,ok.blt,ok.above,ok.inj,ok.has,ok.G4,ok.hd,ok.frames,ok.Ol,ok.M6,ok.bs,ok.A6,ok.Ht,ok.G6,ok.sh,ok.Dv⟩
section
variable{X:Cx}{pins:UQ}{σ:St}{H:Hp}{s:d7}{E:EQ}
theorem Inv.B3(I:Inv X pins σ H s)(E:EQ):Inv (X.B3 E) pins σ H s:=⟨I.ok.B3 E,I.os,I.bare,I.base,I.loc,I.cell,I.free,I.wo,I.pin,I.fy,I.len⟩
theorem Inv.DD(I:Inv (X.B3 E) pins σ H s):Inv X pins σ H s:=⟨I.ok.DD,I.os,I.bare,I.base,I.loc,I.cell,I.free,I.wo,I.pin,I.fy,I.len⟩
theorem SP.DD(h:SP (X.B3 E) pins D f s'):SP X pins D f s':=by
 cases f with
 | next=>obtain⟨a,b,I,q⟩:=h;exact⟨a,b,I.DD,q⟩
 | brk=>obtain⟨a,b,I,q⟩:=h;exact⟨a,b,I.DD,q⟩
 | cont=>obtain⟨a,b,I,q⟩:=h;exact⟨a,b,I.DD,q⟩
 | ret u=>obtain⟨v,a,b,I,r,q⟩:=h;exact⟨v,a,b,I.DD,r,q⟩
theorem p6.H8{st:List i3}{t:TS}(h:p6 X.H8 st t):p6 X st t:=λpins s σ H D I a=>
 Ot (h pins s σ H D (I.B3 _) a) (λ_ _ q=>q.DD) λ_ _ z=>OC z
end
section
variable{X:Cx}{st:i3}{yb:List i3}{t u:TS}{e:eh}{te:TE}{pos:gB}
def Fi:TS:=λD a H=>D.nx a H
def IQ(t u:TS):TS:=λD a H=>t {D with nx:=u D} a H
theorem sA:p6 X [] Fi:=λ_ _ a H _ I h=>Xk ⟨a,H,I,h⟩
theorem lL(z:PS X st t)(C:p6 X yb u):p6 X (st::yb) (IQ t u):=by
 intro a s g H D I h;refine wpAny_execs_cons<|eM (z a s g H {D with nx:=u D} I h) λf e q=>?_;cases f with
 | next=>
  obtain⟨b,d,O,q⟩:=q;exact C a e b d D O q
 | ret v=>exact q
 | brk=>exact q
 | cont=>exact q
theorem dZ(z:PS X st t):p6 X [st] t:=by
 intro a s b H D I h;refine wpAny_execs_cons<|eM (z a s b H D I h) λf d q=>?_;cases f with
 | next=>exact Xk q
 | ret v=>exact q
 | brk=>exact q
 | cont=>exact q
def Fm:TS:=λD a H=>D.ct a H
theorem Vp:PS X (.Continue pos) Fm:=λ_ _ a H _ I h=>wpAny_Continue ⟨a,H,I,h⟩
theorem Inv.quiet(I:Inv X pins σ H s):interactive X.env=dn:=by simp[interactive,I.ok.kind]
def Fj(te:TE):TS:=λD a H=>te a H λ_ b=>D.nx a b
theorem Vo(O:PE X e te)(hs:y6 e none pos.line X.env=pure dn:=by rfl):PS X (.Expr e pos) (Fj te):=by intro a s b H D I h;exact wpAny_Expr_any (eM (O a s b H _ I h) λv g ⟨x,d,U,f,Y⟩=>⟨b,d,U,Y⟩) I.quiet hs
def IR(te:TE):TS:=λD a H=>te a H D.rt
theorem eC(O:PE X e te):PS X (.Return (bX e) pos) (IR te):=by intro a s b H D I h;exact wpAny_Return_some<|eM (O a s b H _ I h) λv g ⟨x,d,U,Y,f⟩=>⟨x,b,d,U,Y,f⟩
def IU(c:TT)(t u:TS):TS:=λD a H=>c a H λb d=>if b=cz then t D a d else u D a d
theorem FZ(Y:PT X c tc)(z:p6 X a t)(C:p6 X b u):PS X (.If c a b pos) (IU tc t u):=by
 intro e s f H D I h;refine wpAny_If<|eM (Y e s f H _ I h) λd i j=>?_;obtain⟨g,O,U⟩:=j;cases d with
 | true=>exact z e i f g D O U
 | false=>exact C e i f g D O U
def Ag:TS:=λ_ _ _=>False
theorem lP:PS X st Ag:=λ_ _ _ _ _ _ h=>h.elim
end
abbrev TG:=V->St->Hp->(St->Hp->Prop)->Prop
abbrev D1:=List V->St->Hp->(St->Hp->Prop)->Prop
noncomputable def PG(X:Cx)(I:eh)(t:TG):Prop:=
 ∀(a:UQ) (s:d7) (e:St) (H:Hp) (v:V) (u:dy) (Q:St->Hp->Prop),Inv X a e H s->RelV v u->t v e H Q->
  wpAny (eg X.prog X.w) X.A (t7 I X.env u) (λ_ f=>∃b d,Inv X a b d f/\Q b d) X.xe s
noncomputable def F5(X:Cx)(I:List eh)(t:D1):Prop:=
 ∀(a:UQ) (s:d7) (g:St) (H:Hp) (f:List V) (e:List dy) (Q:St->Hp->Prop),Inv X a g H s->eF f e->t f g H Q->
  wpAny (eg X.prog X.w) X.A (assignInOrder ((A4 I X.env).map (·.2)) e) (λ_ h=>∃b d,Inv X a b d h/\Q b d) X.xe s
abbrev IF:=V->V->V->Hp->(Hp->Prop)->Prop
noncomputable def IG(X:Cx)(t:IF):Prop:=
 ∀(a:UQ) (s:d7) (d:St) (H:Hp) (o i v:V) (I O u:dy) (Q:Hp->Prop),Inv X a d H s->RelV o I->RelV i O->RelV v u->t o i v H Q->
  wpAny (eg X.prog X.w) X.A (TZ I O u) (λ_ e=>∃b,Inv X a d b e/\Q b) X.xe s
section
variable{X:Cx}{pos:gB}
def yP(i:Nat):TG:=λv a H Q=>Q (a.set i<|some v) H
theorem eU(O:X.N.Nodup)(z:X.N[i]? = bX x)(hx:Loc X.env.scope x)(U:X.fn x=cz\/X.env.scope.names.lookup x=bX .local:=by first | exact .inl rfl | exact .inr rfl | assumption):PG X (.Name x pos) (yP i):=by intro a s d H v u Q I r h;exact X_<|Wr I O z hx r (λb Y=>⟨_,H,Y,h⟩) U
def HX:D1:=λa b H Q=>a=[]/\Q b H
def Cp(t:TG)(u:D1):D1:=λd e H Q=>∃v r,d=v::r/\t v e H λa b=>u r a b Q
theorem eT:F5 X [] HX:=by intro a s b H f d Q I r h;obtain⟨e,h⟩:=h;subst e;cases r;exact assignInOrder_nil ⟨b,H,I,h⟩
theorem wz(z:PG X e t)(C:F5 X es u)
 (hs:(A4 (e::es) X.env).map (·.2)=t7 e X.env::(A4 es X.env).map (·.2):=by rfl):F5 X (e::es) (Cp t u):=by
 intro a s j H m k Q I r h;obtain⟨v,l,f,h⟩:=h;subst f;cases r with
 | cons r O=>
  rw[hs];refine assignInOrder_cons<|eM (z a s j H _ _ _ I r h) λ_ i U=>?_;obtain⟨Y,b,d,g⟩:=U;exact C a i Y b _ _ Q d O g
noncomputable def HW(K:LX)(n:Nat)(t:D1):TG:=λv d H Q=>∃a b,v = .ref a/\g5 K H a b/\b.length=n/\t b d H Q
theorem Bp(U:X.calm=cz)(h:F5 X es t)
 (z:(A4 es X.env).length=n:=by rfl) (Y:(A4 es X.env).findIdx? (·.1)=none:=by rfl):PG X (.Tuple es k pos) (HW X.K n t):=by
 intro d s g H v u Q I r f;obtain⟨a,A,j,p,m,f⟩:=f;subst j;cases r;obtain⟨y,O,w,B⟩:=I.tuple p;refine assign_Tuple_tuple (I.ok.hd U) w (by simp[z,<- m,O.length]) Y λl x=>?_;have i:Inv X d g H {s with heap:=l}:=I.kept (t':=s.toks) λb o e=>x b o (Mr<|Mk e) e;exact h d _ g H A _ Q i (by simpa using O) f
noncomputable def Lu(to I:TE)(t:IF):TG:=λv a H Q=>to a H λo b=>I a b λi d=>t o i v d λO=>Q a O
theorem oG(J:PE X o to)(C:PE X i ti)(hs:IG X t)
 (z : ∀v,t7 (.Subscript o i pos) X.env v=(do
   let O <- sm [v] (ej o X.env);let U <- sm [v,O] (ej i X.env)
   DU pos
   sm [v,O,U] (TZ O U v)
   release [v,O,U] []):=by intro _;rfl):PG X (.Subscript o i pos) (Lu to ti t):=by
 intro a s b H v u Q I r h;rw[z];refine LV<|NT<|eM (J a s b H _ I h) λO A Y=>?_;obtain⟨x,d,g,p,l⟩:=Y;refine LV<|NT<|eM (C a A b d _ g l) λU B Y=>?_;obtain⟨y,e,j,w,m⟩:=Y;refine LV<|Tf<|LV<|NT<|eM (hs a B b e x y v O U u _ j p w r m) λ_ E Y=>?_;obtain⟨f,k,n⟩:=Y;exact wpAny_release ⟨b,f,k,n⟩
def Wn(te:TE)(g:TG):TS:=λD a H=>te a H λx b=>g x a b D.nx
theorem WH(O:PE X e te)(U:PG X tg g)(hs:O0 [tg] e pos.line X.env=pure dn:=by rfl)(C:T6 [tg] e X.env=pure none:=by rfl)
 (z:(A4 [tg] X.env).map (·.2)=[t7 tg X.env]:=by rfl):PS X (.Assign [tg] e pos) (Wn te g):=by
 intro a s b H D I h;refine wpAny_Assign_stores (eM (O a s b H _ I h) λv k Y=>?_) hs C;obtain⟨x,d,f,j,i⟩:=Y;rw[z];exact eM (U a k b d x v _ f j i) λ_ l q=>q
theorem Bj(O:X.N.Nodup)(z:X.N[i]? = bX x)(hx:Loc X.env.scope x)(U:PE X e te)(hs:y6 e (bX (.Name x pos')) pos.line X.env=pure dn:=by rfl)(Y:X.fn x=cz\/X.env.scope.names.lookup x=bX .local:=by first | exact .inl rfl | exact .inr rfl | assumption) :
 PS X (.Assign [.Name x pos'] e pos) (Wn te<|yP i):=by
 intro a s l H D I h;refine wpAny_Assign_Name (eM (U a s l H _ I h) λv m g=>?_) hs;obtain⟨y,b,d,k,j⟩:=g;exact Wr d O z hx k (λn f=>⟨_,b,f,j⟩) Y
end
structure It where
 go:Nat->Hp->Prop
 B4:Nat->Hp->V->Hp->Prop
 stop:Nat->Hp->Prop
noncomputable def vV(X:Cx)(z:UQ)(H:Hp)(b:dv):Prop:=
 H b=none/\b≠X.env.locals/\b∉X.fs/\(b∈X.ex\/X.m5.heap.objs.size<=b)/\(∀x c,X.env.cells.lookup x=bX c->c≠b)/\∀p∈X.pn++z,p.1≠b
theorem Inv.A8(I:Inv X pins σ H s)(O:s.heap.objs.size<=b)(C:H' b=none):vV X pins H' b:=by
 refine⟨C,Oo<|MA I.lt O,I.L_ O,.inr<|Np I.sz O,λx c e z=>?_,λp U z=>?_⟩
 ·obtain⟨v,q⟩:=I.cell x c e
  exact absurd (MA q.lt<|by rw[z];exact O)<|Nn _
 ·exact absurd (MA (Mk (I.pin p U).1)<|by rw[z];exact O)<|Nn _
structure Turn(P:h6)(w:g8)(K:LX)(tg:eh)(J:It)(fp:List dv)(it:dv)(tn:Nat->e9->Prop):Prop where
 mem:it∈fp
 obj : ∀i h,tn i h->∀b∈fp,∃o,h.get? b=bX o/\∀v,o.data ≠ .cell v
 keep : ∀i h h',tn i h->(∀b∈fp,∀o,h.get? b=bX o->h'.get? b=bX o)->tn i h'
 item : ∀(X:Cx),X.prog=P->X.w=w->X.K=K->X.calm=cz->∀(i:Nat) (pins:UQ) (s:d7) (σ:St) (H:Hp) (E:EQ),Inv X pins σ H s->(∀b∈fp,vV X pins H b)->tn i s.heap->J.go i H->
  wpAny (eg P w) X.A (u6<|.ref it) (λr s1=>∃u,r=bX u/\
   wpAny (eg P w) X.A (N1 tg (.ref it) u) (λ_ s2=>∃x H',Inv X pins σ H' s2/\RelV x u/\J.B4 i H x H'/\tn (i+1) s2.heap/\∀b∈fp,H' b=none) E s1) E s
 done : ∀(X:Cx),X.prog=P->X.w=w->X.K=K->X.calm=cz->∀(i:Nat) (pins:UQ) (s:d7) (σ:St) (H:Hp) (E:EQ),Inv X pins σ H s->(∀b∈fp,vV X pins H b)->tn i s.heap->J.stop i H->
  wpAny (eg P w) X.A (u6<|.ref it) (λr s1=>r=none/\Inv X pins σ H s1) E s
 self : ∀(A:j1) (i:Nat) (s:d7) (Q:EQ) (E:EQ),tn i s.heap->Q (.ref it) s->wpAny (eg P w) A (N8<|.ref it) Q E s
abbrev TI:=St->Hp->(It->Hp->Prop)->Prop
noncomputable def Uk(X:Cx)(z:UQ)(M:St)(L:eh)(R:It->Hp->Prop)(I:dy)(C:d7):Prop:=
 ∃(e:dv) (d:List dv) (f:Nat->e9->Prop) (J:It) (a:Hp),I = .ref e/\Inv X z M a C/\Turn X.prog X.w X.K L J d e f/\f 0 C.heap/\(∀b∈d,vV X z a b)/\R J a
noncomputable def PI(X:Cx)(C z:eh)(I:TI):Prop:=
 ∀(a:UQ) (s:d7) (b:St) (H:Hp) (R:It->Hp->Prop),Inv X a b H s->I b H R->
  wpAny (eg X.prog X.w) X.A (ej z X.env) (λv d=>wpAny (eg X.prog X.w) X.A (N8 v) (Uk X a b C R) X.xe d) X.xe s
theorem tY(O:s.heap.get? it=bX o)(U:o.cls = .type n)(z:o.data = .fields vs)
 (C:["enumerate","zip","dict_itemiterator","dict_reverseitemiterator","odict_iterator","itertools.zip_longest","itertools.pairwise"].contains n=dn) (I:Q () s):wpAny M A (N1 tg (.ref it) u) Q E s:=by
 unfold N1;cases tg<;>first
  | exact Mg I
  | (cases u<;>first
      | exact Mg I
      | (refine LV (wpAny_load O ?_)
         rw[U,z];show wpAny M A (if (["enumerate","zip","dict_itemiterator","dict_reverseitemiterator","odict_iterator","itertools.zip_longest","itertools.pairwise"].contains n && vs[0]? == bX (Di _))=cz then _ else _) Q E s;rw[UY (by intro h;rw[C,Bool.false_and]at h;cases h)];exact Mg I))
noncomputable def Ug(K:LX)(a:dv):It:=
 ⟨λi H=>∃b x,fA K H a b/\b[i]? = bX x,λi H x d=>d=H/\∀b,fA K H a b->b[i]? = bX x,λi H=>∃b,fA K H a b/\b.length<=i⟩
noncomputable def Uh(K:LX)(a:dv):It:=
 ⟨λi H=>∃b x,g5 K H a b/\b[i]? = bX x,λi H x d=>d=H/\∀b,g5 K H a b->b[i]? = bX x,λi H=>∃b,g5 K H a b/\b.length<=i⟩
def Dn(lo:Int)(n:Nat):It:=⟨λi _=>i<n,λi H x a=>a=H/\x = .int (lo+i),λi _=>n<=i⟩
theorem cJ{P:h6}{w:g8}{K:LX}{tg:eh}(a it:dv):Turn P w K tg (Ug K a) [it] it (λi h=>h.IsListIter it a i) where
 mem:=by simp
 obj:=λi h st b O=>by
  have e:b=it:=by simpa using O
  subst e;obtain⟨o,e,c,d⟩:=st;exact⟨o,e,λv z=>by rw[d]at z;cases z⟩
 keep:=λi h h' st k=>st.at λo e=>k it ⋯ o e
 item:=by intro X hP hw hK hc i pins s σ H E I U st hg;subst hP hw hK;obtain⟨xs,x,Y,hx⟩:=hg;obtain⟨its,rv,p,hz⟩:=I.list Y;obtain⟨u,hu,ru⟩:=rv.get hx;obtain⟨f0,f1,f2,f3,f4,f5⟩:=U it ⋯;refine wpAny_pyNext_list_item st p.isList (x:=u) (by simpa using hu) λh' ab sb=>?_;have I1:Inv X pins σ H {s with heap:=h'}:=I.turned (t':=s.toks) (λb o O e=>(sb.2 b O).trans e) f0 f1 f3 f4 f5;obtain⟨o,e,c,d⟩:=id ab;exact⟨u,rfl,tY (s:={s with heap:=h'}) e c d ⋯ ⟨x,H,I1,ru,⟨rfl,λys hy=>by rw[I.TF hy Y];exact hx⟩,ab,λb O=>(U b O).1⟩⟩
 done:=by intro X hP hw hK hc i pins s σ H E I U st hg;subst hP hw hK;obtain⟨xs,Y,hx⟩:=hg;obtain⟨its,rv,p,hz⟩:=I.list Y;obtain⟨f0,f1,f2,f3,f4,f5⟩:=U it ⋯;have hl:=rv.length;exact wpAny_pyNext_list_end (I.ok.hd hc) st p.isList (by simp;omega) λh' eb=>⟨rfl,I.turned (t':=s.toks) (λb o O e=>eb b o O e) f0 f1 f3 f4 f5⟩
 self:=λ_ _ _ _ _ st h=>wpAny_pyIter_listiter st h
theorem aB{P:h6}{w:g8}{K:LX}{tg:eh}(a it:dv):Turn P w K tg (Uh K a) [it] it (λi h=>h.IsTupleIter it a i) where
 mem:=by simp
 obj:=λi h st b O=>by
  have e:b=it:=by simpa using O
  subst e;obtain⟨o,e,c,d⟩:=st;exact⟨o,e,λv z=>by rw[d]at z;cases z⟩
 keep:=λi h h' st k=>st.at λo e=>k it ⋯ o e
 item:=by intro X hP hw hK hc i pins s σ H E I U st hg;subst hP hw hK;obtain⟨xs,x,Y,hx⟩:=hg;obtain⟨its,rv,p,hz⟩:=I.tuple Y;obtain⟨u,hu,ru⟩:=rv.get hx;obtain⟨f0,f1,f2,f3,f4,f5⟩:=U it ⋯;refine wpAny_pyNext_tuple_item st (show s.heap.IsTuple a its.toArray from p) (x:=u) (by simpa using hu) λh' ab sb=>?_;have I1:Inv X pins σ H {s with heap:=h'}:=I.turned (t':=s.toks) (λb o O e=>(sb.2 b O).trans e) f0 f1 f3 f4 f5;obtain⟨o,e,c,d⟩:=id ab;exact⟨u,rfl,tY (s:={s with heap:=h'}) e c d ⋯ ⟨x,H,I1,ru,⟨rfl,λys hy=>by rw[I.U4 hy Y];exact hx⟩,ab,λb O=>(U b O).1⟩⟩
 done:=by intro X hP hw hK hc i pins s σ H E I U st hg;subst hP hw hK;obtain⟨xs,Y,hx⟩:=hg;obtain⟨its,rv,p,hz⟩:=I.tuple Y;obtain⟨f0,f1,f2,f3,f4,f5⟩:=U it ⋯;have hl:=rv.length;exact wpAny_pyNext_tuple_end (I.ok.hd hc) st (show s.heap.IsTuple a its.toArray from p) (by simp;omega) λh' eb=>⟨rfl,I.turned (t':=s.toks) (λb o O e=>eb b o O e) f0 f1 f3 f4 f5⟩
 self:=λ_ _ _ _ _ st h=>wpAny_pyIter_tupleiter st h
theorem aC{P:h6}{w:g8}{K:LX}{tg:eh}(it:dv)(lo:Int)(n:Nat):Turn P w K tg (Dn lo n) [it] it (λi h=>IsRangeIter h it (lo+(i:Nat)*1) ((n:Int) - (i:Nat)) 1) where
 mem:=by simp
 obj:=λi h st b O=>by
  have e:b=it:=by simpa using O
  subst e;exact⟨_,st,λv z=>by have z':Data.fields _=Data.cell v:=z;cases z'⟩
 keep:=λi h h' st k=>k it ⋯ _ st
 item:=by intro X Y hw hK hc i pins s σ H E I U st hg;subst Y hw hK;obtain⟨f0,f1,f2,f3,f4,f5⟩:=U it ⋯;have W:=Walks.range (prog:=X.prog) (w:=X.w) (I.ok.hd hc) it lo 1 n;refine W.item i s _ _ hg st λv h' tk hv a9 kk=>?_;obtain⟨t,rfl⟩:=hv;have I1:Inv X pins σ H {s with heap:=h',toks:=tk}:=I.turned (λb o O e=>kk b o (by simpa using O) e) f0 f1 f3 f4 f5;refine⟨_,rfl,tY (s:={s with heap:=h',toks:=tk}) (n:="range_iterator") a9 rfl rfl ⋯ ⟨.int (lo+i),H,I1,⟨t,?_⟩,⟨rfl,rfl⟩,a9,λb O=>(U b O).1⟩⟩;rw[tr]
 done:=by intro X Y hw hK hc i pins s σ H E I U st hg;subst Y hw hK;obtain⟨f0,f1,f2,f3,f4,f5⟩:=U it ⋯;exact wpAny_pyNext_range_end (I.ok.hd hc) st (by have:n<=i:=hg;omega) λh' eb=>⟨rfl,I.turned (t':=s.toks) (λb o O e=>eb b o O e) f0 f1 f3 f4 f5⟩
 self:=λ_ _ _ _ _ st h=>wpAny_pyIter_rangeiter st h
section
variable{X:Cx}{tg:eh}
theorem WA{C:UQ}{J:St}{H:Hp}{s:d7}{R:It->Hp->Prop}{E:EQ}{lo z:Int}{t u v:Tok}{O:Nat}(I:Inv X C J H s)(L : -(2 ^ 62)<=lo)(M:lo<2 ^ 62)(Y : -(2 ^ 62)<=z)(S:z<2 ^ 62)
 (q:R (Dn lo (z - lo).toNat) H):wpAny (eg X.prog X.w) X.A (N8 (.ref s.heap.objs.size)) (Uk X C J tg R) E {s with heap:=s.heap.push {cls:= .type "range",data:= .fields #[.int lo t,.int z u,.int 1 v]},toks:=O}:=by
 refine wpAny_pyIter_range (IsRange.new ..) (small_one L M Y S) ?_;have U:Inv X C J H {s with heap:=s.heap.push {cls:= .type "range",data:= .fields #[.int lo t,.int z u,.int 1 v]},toks:=O}:=I.kept λb o e=>LY _ e;refine⟨(s.heap.push {cls:= .type "range",data:= .fields #[.int lo t,.int z u,.int 1 v]}).objs.size,[(s.heap.push {cls:= .type "range",data:= .fields #[.int lo t,.int z u,.int 1 v]}).objs.size],_,_,H,rfl,
  U.kept (t':=O) λb o e=>LY _ e,aC _ lo (z - lo).toNat,?_,λb f=>?_,q⟩
 ·have a:lo+((0:Nat):Int)*1=lo:=by simp
  have d:(((z - lo).toNat:Nat):Int) - ((0:Nat):Int)=Builtin.Range.rangeSize lo z 1:=by rw[rangeSize_one];split<;>omega
  show IsRangeIter _ _ (lo+((0:Nat):Int)*1) ((((z - lo).toNat:Nat):Int) - ((0:Nat):Int)) 1;rw[a,d];exact Ml _ rfl
 ·have e:b=(s.heap.push {cls:= .type "range",data:= .fields #[.int lo t,.int z u,.int 1 v]}).objs.size:=by simpa using f
  subst e;exact U.A8 (Mf _)<|U.fy.fresh<|Mf _
noncomputable def Gy(z:TA):TI:=λd H R=>z d H λb a=>∃j:Int,b=[.int j]/\ -(2 ^ 62)<=j/\j<2 ^ 62/\R (Dn 0 j.toNat) a
noncomputable def Gw(z:TA):TI:=λd H R=>z d H λb a=>∃i j:Int,b=[.int i,.int j]/\(-(2 ^ 62)<=i/\i<2 ^ 62/\ -(2 ^ 62)<=j/\j<2 ^ 62)/\R (Dn i (j - i).toNat) a
theorem eQ{a:eh}{z:TA}{p pos:gB}(U:Gl X "range")(J:X.mg "range" = none)(C:PA X [a] z)(hs:ft [a] X.env=[(dn,ej a X.env)]:=by rfl):PI X tg (.Call (.Name "range" p) [a] [] pos) (Gy z):=by
 intro b s k H R I h;refine DF<|kO I U J boot_range<|Na (eM (C pos b s k H _ I h) λn m Y=>?_) hs rfl;obtain⟨o,l,d,g,O⟩:=Y;obtain⟨j,e,O,f,q⟩:=O;subst e;cases g with
 | cons r i=>
  cases i;obtain⟨t,rfl⟩:=r;exact call_range_1 (WA d ⋯ ⋯ O f<|by simpa using q)
theorem eP(C:Gl X "range")(J:X.mg "range" = none)(z:PA X [a,b] ta)(hs:ft [a,b] X.env=[(dn,ej a X.env),(dn,ej b X.env)]:=by rfl)(Y:ft [b] X.env=[(dn,ej b X.env)]:=by rfl) :
 PI X tg (.Call (.Name "range" p) [a,b] [] pos) (Gw ta):=by
 intro d s u H R I h;refine DF (kO I C J boot_range<|Na (eM (z pos d s u H _ I h) λA x g=>?_) (by rw[hs,Y])<|by rw[Y];rfl);obtain⟨B,w,f,o,O⟩:=g;obtain⟨i,j,e,⟨O,k,l,m⟩,q⟩:=O;subst e;cases o with
 | cons r U=>
  cases U with
  | cons n U=>
   cases U;obtain⟨t,rfl⟩:=r;obtain⟨y,rfl⟩:=n;exact call_range_2<|WA f O k l m q
noncomputable def IV(C:TI)(g:TG)(z:TS):TS:=λD a H=>C a H λJ f=>∃W:Nat->Nat->St->Hp->Prop,(∃m,W 0 m a f)/\∀i m a H,W i m a H->
 (J.stop i H/\D.nx a H)\/(J.go i H/\∃N:St->Hp->Prop,(∀d b,N d b->∃e,e<m/\W (i+1) e d b)/\∀x b,J.B4 i H x b->g x a b λI h=>z {D with nx:=N,ct:=N,bk:=D.nx} I h)
noncomputable def Yl(fp:List dv)(h:e9):List (dv×l6):=fp.filterMap λb=>(h.get? b).map λo=>(b,o)
theorem vB(I:b∈fp)(e:h.get? b=bX o):(b,o)∈Yl fp h:=List.mem_filterMap.mpr ⟨b,I,by rw[e];rfl⟩
theorem fu(I:p∈Yl fp h):p.1∈fp/\h.get? p.1=bX p.2:=by
 obtain⟨b,O,e⟩:=List.mem_filterMap.mp I;cases q:h.get? b with
 | none=>rw[q]at e;cases e
 | some o=>
  rw[q]at e;have U:(b,o)=p:=Nd e;subst U;exact⟨O,q⟩
theorem Inv.pinned(I:Inv X pins σ H s)(Y : ∀b∈fp,vV X pins H b)(C : ∀b∈fp,∃o,s.heap.get? b=bX o/\∀v,o.data ≠ .cell v):Inv X (pins++Yl fp s.heap) σ H s:=
 I.N6 λp f=>(OU.mp f).elim (λz=>I.pin p<|Mw _ z) λz=>by obtain⟨O,e⟩:=fu z;obtain⟨a,f1,f2,_⟩:=Y p.1 O;obtain⟨o,U,d⟩:=C p.1 O;rw[e]at U;cases U;exact⟨e,a,f1,f2,d⟩
theorem Inv.L3(I:Inv X (pins++pl) σ H s):Inv X pins σ H s:=I.N6 λp O=>I.pin p<|Mw _<|Sm _ O
theorem oE(C:P6 (eg X.prog X.w) X.A X.env X.xe)(hc:X.calm=cz)(hi:PI X tg iter wi)(hg:PG X tg g)(O:p6 X body tb)
 (hs : ∀x,n7 iter X.env x=pure x:=by intro _;rfl):PS X (.For tg iter body [] pos) (IV wi g tb):=by
 intro a s σ H D I h;refine wpAny_For (eM (hi a s σ H _ I h) λv s1 h1=>eM h1 λc3 s2 h2=>?_) hs;obtain⟨it,z,tn,J,H2,e,I2,T,b5,f2,W,⟨m0,w0⟩,b8⟩:=h2;subst e;have K : ∀{p:Hp},(∀b∈z,p b=none)->∀b∈z,vV X a p b:=λhn b O=>⟨hn b O,(f2 b O).2⟩;refine codeAny_forLoop_any (λn s'=>∃i k p,Inv X a k p s'/\tn i s'.heap/\(∀b∈z,p b=none)/\W i n k p) ?_ m0 ⟨0,σ,H2,I2,b5,λb O=>(f2 b O).1,w0⟩;rintro n s3 ⟨i,l,G,S,E,Z,w3⟩;rcases b8 i n l G w3 with⟨F,qn⟩ | ⟨go,N,hN,step⟩
 ·refine RA C (eM (T.done X rfl rfl rfl hc i a s3 l G X.xe S (K Z) E F) λr s4 y=>?_)
  obtain⟨M,I4⟩:=y;subst M;exact Xk ⟨l,G,I4,qn⟩
 ·refine RA C (eM (T.item X rfl rfl rfl hc i a s3 l G X.xe S (K Z) E go) λr s4 y=>?_)
  obtain⟨u,M,h4⟩:=y;subst M;refine RA C<|eM h4 λ_ s5 y=>?_;obtain⟨x,R,I5,r5,y5,L,bm⟩:=y;have bn:=I5.pinned (K bm)<|T.obj _ _ L;refine RA C<|eM (hg _ s5 l R x u _ bn r5<|step x R y5) λ_ s6 y=>?_;obtain⟨Q,H6,I6,q6⟩:=y;refine RA C<|eM (O _ s6 Q H6 _ I6 q6) λf P t=>?_;have again : ∀{U:St} {Y:Hp},Inv X (a++Yl z s5.heap) U Y P->N U Y->∃m,m<n/\∃i k p,Inv X a k p P/\tn i P.heap/\(∀b∈z,p b=none)/\W i m k p:=λ{U Y} j B=>by obtain⟨m',hm,w7⟩:=hN U Y B;refine⟨m',hm,i+1,U,Y,j.L3,T.keep _ _ _ L λb O o e=>(j.pin (b,o)<|Mw _<|Mw _<|vB O e).1,λb O=>?_,w7⟩;obtain⟨o,e,d⟩:=T.obj _ _ L b O;exact(j.pin (b,o)<|Mw _<|Mw _<|vB O e).2.1
  cases f with
  | next=>obtain⟨U,Y,j,B⟩:=t;exact again j B
  | cont=>obtain⟨U,Y,j,B⟩:=t;exact again j B
  | brk=>obtain⟨U,Y,j,t⟩:=t;exact⟨U,Y,j.L3,t⟩
  | ret v=>obtain⟨x7,U,Y,j,r7,t⟩:=t;exact⟨x7,U,Y,j.L3,r7,t⟩
end
theorem YO{lo:Int}{n:Nat}{g:TG}{M:TS}{D:Ends}{z:St}{H:Hp}(I:Nat->St->Hp->Prop)(Y:I 0 z H)
 (hs : ∀i z H,i<n->I i z H->g (.int<|lo+i) z H λO J=>M {D with nx:=I<|i+1,ct:=I<|i+1,bk:=D.nx} O J) (S : ∀z H,I n z H->D.nx z H) :
 ∃W:Nat->Nat->St->Hp->Prop,(∃m,W 0 m z H)/\∀i m z H,W i m z H->
  ((Dn lo n).stop i H/\D.nx z H)\/((Dn lo n).go i H/\∃N:St->Hp->Prop,(∀C H',N C H'->∃L,L<m/\W (i+1) L C H')/\∀x H',(Dn lo n).B4 i H x H'->g x z H' λO J=>M {D with nx:=N,ct:=N,bk:=D.nx} O J):=by
 refine⟨λi m z H=>m=n - i/\i<=n/\I i z H,⟨n,by simp,Nh _,Y⟩,?_⟩;rintro i m z H ⟨rfl,b,p⟩;by_cases U:i<n
 ·refine .inr ⟨U,I<|i+1,λC H' a=>⟨n - (i+1),by omega,rfl,U,a⟩,λx H' y=>?_⟩
  obtain⟨e,y⟩:=y;subst e y;exact hs i z _ U p
 ·have e:i=n:=by omega
  subst e;exact .inl ⟨Mf _,S z H p⟩
abbrev R2:=V->V->Hp->VK->Prop
noncomputable def ij(X:Cx)(f:dy->dy->Sem dy)(r:R2):Prop:=
 ∀(a:UQ) (s:d7) (b:St) (H:Hp) (x y:V) (v u:dy) (Q:VK),Inv X a b H s->RelV x v->RelV y u->r x y H Q->
  wpAny (eg X.prog X.w) X.A (f v u) (EP X a b Q) X.xe s
noncomputable def P9(X:Cx)(f:dy->Sem dy)(r:V->Hp->VK->Prop):Prop:=
 ∀(a:UQ) (s:d7) (b:St) (H:Hp) (x:V) (v:dy) (Q:VK),Inv X a b H s->RelV x v->r x H Q->
  wpAny (eg X.prog X.w) X.A (f v) (EP X a b Q) X.xe s
noncomputable def Zz(X:Cx)(f:dy)(r:List V->Hp->VK->Prop):Prop:=
 ∀(a:UQ) (s:d7) (e:St) (H:Hp) (d:List V) (b:List dy) (Q:VK),Inv X a e H s->eF d b->r d H Q->
  wpAny (eg X.prog X.w) X.A (call f b) (EP X a e Q) X.xe s
noncomputable def LB(X:Cx)(r:V->Hp->(Bool->Hp->Prop)->Prop):Prop:=
 ∀(a:UQ) (s:d7) (b:St) (H:Hp) (x:V) (v:dy) (Q:Bool->Hp->Prop),Inv X a b H s->RelV x v->r x H Q->
  wpAny (eg X.prog X.w) X.A (L0 v) (TP X a b Q) X.xe s
def I8(r:R2)(z C:TE):TE:=λa H Q=>z a H λx b=>C a b λy d=>r x y d Q
def V'(r:V->Hp->VK->Prop)(z:TE):TE:=λb H Q=>z b H λx a=>r x a Q
noncomputable def rI(C:Int->Int->Prop)(g:Int->Int->V):R2:=λx y H Q=>∃i j,x = .int i/\y = .int j/\C i j/\Q (g i j) H
def qq(g:Int->Int->V):R2:=λx y H Q=>∃i j,x = .int i/\y = .int j/\Q (g i j) H
def rU(g:Int->V):V->Hp->VK->Prop:=λx H Q=>∃i,x = .int i/\Q (g i) H
section
variable{X:Cx}{a b c:eh}{ta tb tc:TE}{pos:gB}
theorem GQ(ha:PE X a ta)(U:PE X b tb){z:UQ}{s:d7}{J:St}{H:Hp}{R:V->V->Hp->Prop}(I:Inv X z J H s)
 (h:ta J H λx Z=>tb J Z λy C=>R x y C) {Q:EQ} {f:dy->dy->Sem dy}
 (Y : ∀v u S x y C,Inv X z J C S->RelV x v->RelV y u->R x y C->wpAny (eg X.prog X.w) X.A (f v u) Q X.xe S) :
 wpAny (eg X.prog X.w) X.A (ej a X.env) (λv L=>wpAny (eg X.prog X.w) X.A (ej b X.env) (λu M=>wpAny (eg X.prog X.w) X.A (f v u) Q X.xe M) X.xe L) X.xe s:=by
 refine eM (ha z s J H _ I h) λv l O=>?_;obtain⟨x,Z,d,j,g⟩:=O;refine eM (U z l J Z _ d g) λu S O=>?_;obtain⟨y,C,e,k,i⟩:=O;exact Y v u S x y C e j k i
theorem sR{O:Operator}{r:R2}(U:ij X (t8 O) r)(z:PE X a ta)(Y:PE X b tb):PE X (.BinOp a O b pos) (I8 r ta tb):=by intro d s k H Q I h;exact wpAny_BinOp<|GQ z Y I h λv u j x y e f g i q=>U d j k e x y v u Q f g i q
theorem Gc(O:P9 X (unaryOp op) r)(z:PE X a ta):PE X (.UnaryOp op a pos) (V' r ta):=by intro b s d H Q I h;exact UnaryOp_<|eM (z b s d H _ I h) λv g ⟨x,e,U,Y,f⟩=>O b g d e x v Q U Y f
theorem N5{f:dy->dy->Sem dy}{C:Int->Int->Prop}{g:Int->Int->Int}
 (rule : ∀(i j:Int) (t u:Tok) (s:d7) (Q:EQ) (E:EQ),C i j->Q (.int (g i j) s.toks) {s with toks:=s.toks+1}->wpAny (eg X.prog X.w) X.A (f (.int i t)<|.int j u) Q E s) :
 ij X f (rI C λi j=> .int (g i j)):=by
 intro a s d H x y v u Q I O U h;obtain⟨i,j,rfl,rfl,Y,q⟩:=h;obtain⟨t,rfl⟩:=O;obtain⟨b,rfl⟩:=U;exact rule i j t b s _ _ Y ⟨.int<|g i j,H,I.tok _,⟨_,rfl⟩,q⟩
theorem HS{f:dy->dy->Sem dy}{g:Int->Int->Int}
 (rule : ∀(i j:Int) (t u:Tok) (s:d7) (Q:EQ) (E:EQ),Q (.int (g i j) s.toks) {s with toks:=s.toks+1}->wpAny (eg X.prog X.w) X.A (f (.int i t)<|.int j u) Q E s) :
 ij X f (qq λi j=> .int (g i j)):=by
 intro a s d H x y v u Q I O U h;obtain⟨i,j,rfl,rfl,q⟩:=h;obtain⟨t,rfl⟩:=O;obtain⟨b,rfl⟩:=U;exact rule i j t b s _ _ ⟨.int<|g i j,H,I.tok _,⟨_,rfl⟩,q⟩
theorem Et{f:dy->dy->Sem dy}{g:Int->Int->Bool}
 (rule : ∀(i j:Int) (t u:Tok) (s:d7) (Q:EQ) (E:EQ),Q (.bool<|g i j) s->wpAny (eg X.prog X.w) X.A (f (.int i t)<|.int j u) Q E s) :
 ij X f (qq λi j=> .bl (g i j)):=by
 intro a s d H x y v u Q I O U h;obtain⟨i,j,rfl,rfl,q⟩:=h;obtain⟨t,rfl⟩:=O;obtain⟨b,rfl⟩:=U;exact rule i j t b s _ _ ⟨.bl<|g i j,H,I,rfl,q⟩
def IJ(i j:Int):Prop:=0<j/\j<1073741824
def II(i j:Int):Prop:=0<=j/\j<=1000000/\i.natAbs<2 ^ 64
def DZ(i j:Int):Prop:=(-(2 ^ 64)<i/\i<2 ^ 64)\/(-(2 ^ 64)<j/\j<2 ^ 64)
theorem DZ.ok(h:DZ i j):IntMulOk i j:=by
 rcases h with⟨a,b⟩ | ⟨a,b⟩
 ·exact .of_left<|intBits_le_64 a b
 ·exact .of_right<|intBits_le_64 a b
theorem M':ij X (t8 .Add) (qq λi j=> .int (i+j)):=HS λ_ _ _ _ _ _ _ q=>add_int q
theorem BE:ij X (t8 .Sub) (qq λi j=> .int (i - j)):=HS λ_ _ _ _ _ _ _ q=>sub_int q
theorem M_:ij X (t8 .Mult) (rI DZ λi j=> .int (i*j)):=N5 λ_ _ _ _ _ _ _ I q=>mul_int q I.ok
theorem sZ:ij X (t8 .FloorDiv) (rI IJ λi j=> .int (i/j)):=N5 λi j _ _ _ _ _ I q=>by have a:(0:Int)<j:=I.1;have b:j<1073741824:=I.2;exact floordiv_int ⋯ (by rw[Int.fdiv_eq_ediv_of_nonneg i ⋯];exact q)<|.inl<|PyProof.noPylong_small ⋯
theorem BI:ij X (t8 .Mod) (rI (λ_ j=>0<j) λi j=> .int (i%j)):=N5 λi j _ _ _ _ _ I q=>by have a:(0:Int)<j:=I;exact mod_int' ⋯ (by rw[Int.fmod_eq_emod_of_nonneg i ⋯];exact q)
theorem BG:ij X (t8 .Pow) (rI II λi j=> .int (i ^ j.toNat)):=N5 λ_ _ _ _ _ _ _ I q=>pow_int_small I.1 I.2.1 I.2.2 q
theorem X'{f:dy->Sem dy}{g:Int->Int}
 (rule : ∀(i:Int) (t:Tok) (s:d7) (Q:EQ) (E:EQ),Q (.int (g i) s.toks) {s with toks:=s.toks+1}->wpAny (eg X.prog X.w) X.A (f<|.int i t) Q E s) :
 P9 X f (rU λi=> .int (g i)):=by
 intro a s b H x v Q I O h;obtain⟨i,rfl,q⟩:=h;obtain⟨t,rfl⟩:=O;exact rule i t s _ _ ⟨.int<|g i,H,I.tok _,⟨_,rfl⟩,q⟩
theorem uX:P9 X (unaryOp .USub) (rU λi=> .int (-i)):=X' λ_ _ _ _ _ q=>neg_int q
end
section
variable{X:Cx}{a b c:eh}{ta tb tc:TE}{pos:gB}
theorem Ct(I:Inv X pins σ H s)(q:Q (.bl k) H)(e:k=k'):EP X pins σ Q (.bool k') s:=by subst e;exact⟨.bl k,H,I,rfl,q⟩
theorem BJ:ij X (nf .Lt) (qq λi j=> .bl (decide<|i<j)):=Et λ_ _ _ _ _ _ _ q=>lt_int q
theorem sY:ij X (nf .LtE) (qq λi j=> .bl (decide<|i<=j)):=Et λ_ _ _ _ _ _ _ q=>le_int q
theorem Ge:ij X (nf .Gt) (qq λi j=> .bl (decide<|j<i)):=Et λ_ _ _ _ _ _ _ q=>gt_int q
theorem Gf:ij X (nf .GtE) (qq λi j=> .bl (decide<|j<=i)):=Et λ_ _ _ _ _ _ _ q=>ge_int q
theorem BK:ij X (nf .Is) (λx y H Q=>y = .el/\Q (.bl<|decide<|x = .el) H):=by
 intro a s b H x y v u Q I O U h;obtain⟨rfl,q⟩:=h;cases U;refine is_none_gen<|Ct I q ?_;cases x<;>first
  | (cases O;rfl)
  | (obtain⟨t,rfl⟩:=O;rfl)
theorem ij.or(h:ij X f r)(h':ij X f r'):ij X f (λx y H Q=>r x y H Q\/r' x y H Q):=by
 intro a s b H x y v u Q I O U q;rcases q with q | q
 ·exact h a s b H x y v u Q I O U q
 ·exact h' a s b H x y v u Q I O U q
theorem JG(b:eh)(h:op ≠ .In:=by decide)(z:op ≠ .NotIn:=by decide):A5 op b=dn:=by
 have a:(op==CmpOp.In)=dn:=by cases op<;>first | rfl | exact absurd rfl h
 have I:(op==CmpOp.NotIn)=dn:=by cases op<;>first | rfl | exact absurd rfl z
 cases b<;>simp[A5,a,I]
theorem sT{O:CmpOp}{r:R2}(U:ij X (nf O) r)(z:PE X a ta)(Y:PE X b tb)(C:A5 O b=dn):PE X (.Compare a [O] [b] pos) (I8 r ta tb):=by intro d s k H Q I h;exact wpAny_Compare1 (GQ z Y I h λv u j x y e f g i q=>U d j k e x y v u Q f g i q) C
def Af(t:TE):TT:=λb H Q=>t b H λx a=>∃k,x = .bl k/\Q k a
theorem dY(O:ij X (nf op) r)(C:PE X a ta)(U:PE X b tb)(J:A5 op b=dn):PT X (.Compare a [op] [b] pos) (Af<|I8 r ta tb):=by
 intro d s f H Q I h;refine Y_ (eM (C d s f H _ I h) λv B ⟨x,g,Y,t,n⟩=>eM (U d B f g _ Y n) λu E ⟨y,i,l,w,o⟩=>
  eM (O d E f i x y v u _ l t w o) λc F ⟨z,j,m,A,k,e,p⟩=>?_) J
 subst e;cases A;exact NW ⟨j,m,p⟩
noncomputable def og(r C:R2)(ta tb tc:TE):TE:=λa H Q=>ta a H λx b=>tb a b λy d=>r x y d λz I=>∃k,z = .bl k/\
 (if k=cz then tc a I λe O=>C y e O Q else Q (.bl dn) I)
theorem mn(Z:ij X (nf op) r)(C:ij X (nf Ic) r')(J:PE X a ta)(L:PE X b tb)(M:PE X c tc)
 (S:Tz [op,Ic] [b,c]=dn:=by with_unfolding_all rfl):PE X (.Compare a [op,Ic] [b,c] pos) (og r r' ta tb tc):=by
 intro f s g H Q I h;refine Compare_chain (eM (J f s g H _ I h) λv G ⟨x,j,n,B,t⟩=>chain_link (eM (L f G g j _ n t) λu K ⟨y,l,o,i,w⟩=>
  eM (Z f K g l x y v u _ o B i w) λd N ⟨z,O,U,E,k,e,Y⟩=>?_)) S
 subst e;cases E;refine NW ?_;cases k with
 | false=>exact ite_ff ⟨.bl dn,O,U,rfl,Y⟩
 | true=>exact ite_tt<|chain_last<|eM (M f N g O _ U Y) λR P ⟨T,m,p,F,A⟩=>C f P g m y T u R Q p i F A
theorem lJ{O U:CmpOp}{r C:R2}(ho:ij X (nf O) r)(J:ij X (nf U) C)(L:PE X a ta)(M:PE X b tb)(S:PE X c tc)
 (Z:Tz [O,U] [b,c]=dn:=by with_unfolding_all rfl):PT X (.Compare a [O,U] [b,c] pos) (Af<|og r C ta tb tc):=by
 intro f s g H Q I h;refine isTrue_chain (eM (L f s g H _ I h) λv s1 ⟨x,m,t,T,K⟩=>test_link (eM (M f s1 g m _ t K) λu s2 ⟨y,n,w,l,N⟩=>
  eM (ho f s2 g n x y v u _ w T l N) λd s3 ⟨z,Y,i,W,k,e,j⟩=>?_)) Z
 subst e;cases W;refine NW ?_;cases k with
 | false=>
  obtain⟨k',E,G⟩:=j;cases E;exact ite_ff ⟨Y,i,G⟩
 | true=>
  refine ite_tt<|test_last<|eM (S f s3 g Y _ i j) λw' s4 ⟨z',o,A,r4,P⟩=>eM (J f s4 g o y z' u w' _ A l r4 P) λd' s5 ⟨z2,p,B,r5,k2,F,R⟩=>?_;subst F;cases r5;exact NW ⟨p,B,R⟩
noncomputable def IE(K:LX)(x:V)(H:Hp)(k:Bool):Prop:=
 match x with
 | .el=>k=dn
 | .bl b=>k=b
 | .int i=>k=(i != 0)
 | .str y=>y.length<=fh/\k=((y.length:Int) != 0)
 | .F8 y=>y.size<=fh/\k=((y.size:Int) != 0)
 | .ref p=>(∃d,fA K H p d/\k = !d.isEmpty)\/(∃d,g5 K H p d/\k = !d.isEmpty)\/∃a,H p=bX (.dK a)/\k = !a.isEmpty
 | _=>False
theorem bD(r:KV l0 vs):(!vs.isEmpty) = !l0.isEmpty:=by cases r<;>rfl
theorem Xr(r:eF xs its):(!its.toArray.isEmpty) = !xs.isEmpty:=by cases r<;>simp
theorem JL:(fh:Nat)<2 ^ 63:=by rw[Pf];decide
theorem Ab:LB X (λx H Q=>∃k,IE X.K x H k/\Q k H):=by
 intro o s C H x v Q I U h;obtain⟨k,e,q⟩:=h;have A:=JL;have B:fh=16777216:=Pf;cases x with
 | el=>
  cases U;have O:k=dn:=e;subst O;exact truthy_none ⟨H,I,q⟩
 | bl b=>
  cases U;have O:k=b:=e;subst O;exact NW ⟨H,I,q⟩
 | int i=>
  obtain⟨t,rfl⟩:=U;have O:k=(i != 0):=e;subst O;exact PySem.P.truthy_int ⟨H,I,q⟩
 | str y=>
  obtain⟨t,rfl⟩:=U;obtain⟨z,O⟩:y.length<=fh/\k=((y.length:Int) != 0):=e;subst O;exact PySem.P.truthy_str ⋯ ⟨H,I.tok _,q⟩
 | F8 y=>
  obtain⟨t,rfl⟩:=U;obtain⟨z,O⟩:y.size<=fh/\k=((y.size:Int) != 0):=e;subst O;exact PySem.W.truthy_bytes ⋯ ⟨H,I.tok _,q⟩
 | ref p=>
  cases U;have O:(∃d,fA X.K H p d/\k = !d.isEmpty)\/(∃d,g5 X.K H p d/\k = !d.isEmpty)\/∃a,H p=bX (.dK a)/\k = !a.isEmpty:=e;rcases O with⟨d,f,O⟩ | ⟨d,f,O⟩ | ⟨a,f,O⟩
  ·subst O
   obtain⟨j,r,Y,n⟩:=I.list f;have l:=r.length;exact wpAny_truthy_list Y.isList (by simp only[Mi];omega) ⟨H,I.tok _,by rw[Xr r];exact q⟩
  ·subst O
   obtain⟨j,r,Y,n⟩:=I.tuple f;have l:=r.length;exact truthy_tuple Y (by simp only[Mi];omega) ⟨H,I.tok _,by rw[Xr r];exact q⟩
  ·subst O
   obtain⟨n,u,g,r,m⟩:a.length<=fh/\(p==Dl)=dn/\∃g,KV a g/\s.heap.DictOf (xC X.prog X.w) p g:=I.fy p _ f;have l:a.length=g.length:=Paired.length r;exact wpAny_truthy_dict u m ⋯ ⟨H,I.tok _,by rw[bD r];exact q⟩
 | _=>exact(show False from e).elim
theorem lI(C:PE X a ta)(U : ∀O,DS a X.env O=(do let v <- O;DU a.pos;sm [v] (L0 v))) :
 PT X a (λz H Q=>ta z H λx H'=>∃k,IE X.K x H' k/\Q k H'):=by
 intro b s z H Q I h;exact isTrue_plain (eM (C b s z H _ I h) λv g ⟨x,d,Y,f,e⟩=>Ab b g z d x v Q Y f e)<|U _
theorem yN(r:eF [x] us) : ∃u,us=[u]/\RelV x u:=by
 cases r with
 | cons I a=>cases a;exact⟨_,rfl,I⟩
theorem iw(r:eF [x,y] us) : ∃u w',us=[u,w']/\RelV x u/\RelV y w':=by
 cases r with
 | cons I a=>
  cases a with
  | cons O U=>cases U;exact⟨_,_,rfl,I,O⟩
theorem gM(U:X.calm=cz):Zz X (.builtin "max") (λxs H Q=>∃i j,xs=[.int i,.int j]/\Q (.int (if j>i then j else i)) H):=by
 intro a s g H xs e Q I r h;obtain⟨i,j,rfl,q⟩:=h;obtain⟨u,f,rfl,⟨t,rfl⟩,⟨d,rfl⟩⟩:=iw r;refine max_two_ints (I.ok.hd U) λb Y k=>⟨_,H,I.kept k,?_,q⟩;by_cases O:j>i
 ·rw[UJ O,UJ O];exact⟨_,rfl⟩
 ·rw[UY O,UY O];exact⟨_,rfl⟩
theorem gK(U:X.calm=cz):Zz X (.builtin "min") (λxs H Q=>∃i j,xs=[.int i,.int j]/\Q (.int (if j<i then j else i)) H):=by
 intro a s g H xs e Q I r h;obtain⟨i,j,rfl,q⟩:=h;obtain⟨u,f,rfl,⟨t,rfl⟩,⟨d,rfl⟩⟩:=iw r;refine min_two_ints (I.ok.hd U) λb Y k=>⟨_,H,I.kept k,?_,q⟩;by_cases O:j<i
 ·rw[UJ O,UJ O];exact⟨_,rfl⟩
 ·rw[UY O,UY O];exact⟨_,rfl⟩
theorem gN:Zz X (.type "int") (λxs H Q=>(∃i,xs=[.int i]/\Q (.int i) H)\/∃k,xs=[.bl k]/\Q (.int (if k then 1 else 0)) H):=by
 intro a s d H xs b Q I r h;rcases h with⟨i,rfl,q⟩ | ⟨k,rfl,q⟩
 ·obtain⟨u,rfl,t,rfl⟩:=yN r
  exact call_int_int ⟨.int i,H,I,⟨_,rfl⟩,q⟩
 ·obtain⟨u,rfl,O⟩:=yN r
  cases O;exact call_int_bool ⟨.int<|if k then 1 else 0,H,I.tok _,⟨_,rfl⟩,q⟩
end
structure P4(h:e9)(x dx C:dv)(mA:UZ):Prop where
 obj:h.get? x=bX (PySem.W.instObj C dx)
 ns:h.Ns1 dx mA
 ne:dx≠x
theorem fE{h:e9}{C:dv}{J:UZ}(n:h.Ns1 C J) : ∃L,h.get? C=bX L/\∀name,PySem.W.lookIn name L=bX (J name):=by
 obtain⟨o,b,i,I,f,O,_,g⟩:=n;refine⟨o,I,λname=>?_⟩;have e:=g name;unfold nsFind findBy at e;rw[<- Array.find?_toList]at e;unfold PySem.W.lookIn;rw[f];dsimp only;split
 ·rename_i y q
  rw[q]at e;exact congrArg bX e
 ·rename_i q
  rw[q]at e;have a:b.toList.any (·.refKey)=dn:=by rw[SU];intro y U;obtain⟨z,t,Y⟩:=O y<|Array.mem_toList_iff.mp U;simp[DictEntry.refKey,Y]
  have d : ¬b.toList.any (·.refKey)=cz:=by rw[a];exact MO
  rw[UY d];exact congrArg bX e
theorem P4.look(I:P4 h x dx C mA) : ∃z,PySem.W.InstAt h x (PySem.W.instObj C dx) C (bX z)/\∀name,PySem.W.lookIn name z=bX (mA name):=
 let ⟨z,O,U⟩:=fE I.ns
 ⟨z,⟨I.obj,rfl,rfl,O⟩,U⟩
theorem vu.some_of(r:vu (bX v) o) : ∃u,o=bX u/\RelV v u:=by
 cases o with
 | none=>exact(show False from r).elim
 | some u=>exact⟨u,rfl,r⟩
section
variable{P:h6}{w:g8}{H H':Hp}{h h':e9}{a C dx:dv}{fs E_:List (Str×V)}
theorem tP(J:kA P w H h)(e:H a=bX (.ins C dx fs)) : ∃mA,P4 h a dx C mA/\(∀f,vu (fs.lookup f)<|mA f)/\PySem.Within mA (fs.map (·.1))/\fs.length<=1000/\H dx=bX (.own a):=by obtain⟨d,z,b,I,mA,n,r,q⟩:=(show i7 P w H h a (.ins C dx fs)from J a _ e);exact⟨mA,⟨I,n,b⟩,r,q,z,d⟩
end
structure Pt(K:LX)(C:dv):Prop where
 pg:PySem.W.plainGet K C Str.empty=cz
 hd:PySem.W.hasDictIn K C=cz
 po:PySem.W.plainOver K C=cz
 sa:Rr K (.ref C) "__setattr__" = bX (bX (.builtin "object.__setattr__"))
theorem Pt.get{K:LX}{C:dv}(c:Pt K C)(f:Str):PySem.W.plainGet K C f=cz:=c.pg
section
variable{X:Cx}{pins:UQ}{σ:St}{H:Hp}{s:d7}{A:j1}{E:EQ}{Q:EQ}{c:dy}{b:Bool}
inductive t6(K:LX)(H:Hp):V->dy->Prop where
 | el:t6 K H .el (.type "NoneType")
 | bl (x:Bool):t6 K H (.bl x) (.type "bool")
 | int (i:Int):t6 K H (.int i) (.type "int")
 | str (x:Str):t6 K H (.str x) (.type "str")
 | D9 (x:UInt64):t6 K H (.D9 x) (.type "float")
 | lst {a:dv} {xs:List V} (e:H a=bX (.lst xs)):t6 K H (.ref a) (.type "list")
 | rq {a:dv} {o:l6} {xs:List V} (e:H a=bX (.rq o (.lst xs))):t6 K H (.ref a) (.type "list")
 | tup {a:dv} {xs:List V} (e:H a=bX (.tup xs)):t6 K H (.ref a) (.type "tuple")
 | dK {a:dv} {l0:List (Key×V)} (e:H a=bX (.dK l0)):t6 K H (.ref a) (.type "dict")
 | dT {a:dv} {l0:List (List Key×V)} (e:H a=bX (.dT l0)):t6 K H (.ref a) (.type "dict")
 | ins {a C dx:dv} {fs:List (Str×V)} (e:H a=bX (.ins C dx fs)) (cl:Pt K C) (ha:Rr K (.ref C) "__class__" = bX (bX (.builtin "object.__class__")))
  (hn:PySem.W.specialIn K (.builtin "object.__class__") "__get__" = bX (bX (.builtin "getset_descriptor.__get__"))) (_g:PySem.W.takesIn K (.builtin "object.__class__")=bX cz)
  (hm:PySem.W.mroIn K C (.type "object")=bX cz):t6 K H (.ref a) (.ref C)
theorem fT(I:Inv X pins σ H s)(U:RelV x u)(ty:t6 X.K H x t)(e:Pd X.K t c=bX b)(h : ∀M,Q (.bool b) {s with toks:=M}) :
 wpAny (eg X.prog X.w) A (call (.builtin "isinstance") [u,c]) Q E s:=by
 cases ty with
 | el=>cases (show u=MS from U);exact Ng PySem.W.kitx_none I.mu ON e (λz=>nomatch z) h
 | bl y=>cases (show u=Value.bool y from U);exact Ng PySem.W.kitx_bool I.mu ON e (λz=>nomatch z) h
 | int i=>obtain⟨t,q⟩:=(show ∃t,u=RW i t from U);cases q;exact Ng PySem.W.kitx_int I.mu ON e (λz=>nomatch z) h
 | str y=>obtain⟨t,q⟩:=(show ∃t,u=Sz y t from U);cases q;exact Ng PySem.W.kitx_str I.mu ON e (λz=>nomatch z) h
 | D9 y=>obtain⟨t,q⟩:=(show ∃t,u=Value.float y t from U);cases q;exact Ng PySem.W.kitx_float I.mu ON e (λz=>nomatch z) h
 | @lst a g Y=>
  cases (show u=Nr a from U);obtain⟨_,_,n,_,d⟩:=(show i7 X.prog X.w H s.heap a (.lst g)from I.fy a _ Y);exact Ng Uo I.mu ⟨_,d,rfl⟩ e (λz=>nomatch z) h
 | @rq a L g Y=>
  cases (show u=Nr a from U);obtain⟨_,_,_,n,_,d⟩:=(show i7 X.prog X.w H s.heap a (.rq L<|.lst g)from I.fy a _ Y);exact Ng Uo I.mu ⟨_,d,rfl⟩ e (λz=>nomatch z) h
 | @tup a g Y=>
  cases (show u=Nr a from U);obtain⟨_,_,_,p⟩:=(show i7 X.prog X.w H s.heap a (.tup g)from I.fy a _ Y);obtain⟨o,d,j,_⟩:=p;exact Ng PySem.W.kitx_tuple I.mu ⟨o,d,(Prod.mk.inj j).1⟩ e (λz=>nomatch z) h
 | @dK a f Y=>
  cases (show u=Nr a from U);obtain⟨_,_,S,_,p⟩:=(show i7 X.prog X.w H s.heap a (.dK f)from I.fy a _ Y);obtain⟨o,r,m,d,j,_⟩:=p;exact Ng SD I.mu ⟨o,d,j.1⟩ e (λz=>nomatch z) h
 | @dT a f Y=>
  cases (show u=Nr a from U);obtain⟨_,_,g,_,o,r,m,d,j,_⟩:=(show i7 X.prog X.w H s.heap a (.dT f)from I.fy a _ Y);exact Ng SD I.mu ⟨o,d,j.1⟩ e (λz=>nomatch z) h
 | @ins a C N fs Y l B G k F=>
  cases (show u=Nr a from U);obtain⟨P,O,_⟩:=tP I.fy Y;obtain⟨R,J,_⟩:=O.look;exact Ng (PySem.W.kitx_own (l.get _) l.hd B G k F) I.mu J e (λz=>nomatch z) h
end
structure my(k:Nat)(A:j1):Prop where
 hd:A.handled=none
 dp:A.depth+3*k+5<recursionLimit
 un:A.units+16*k+200<DO
theorem my.mono(r:my k A)(h:j<=k):my j A:=⟨r.hd,by have:=r.dp;omega,by have:=r.un;omega⟩
theorem my.deeper(r:my (k+1) A)(env:m6):my k (A.deeper env):=
 ⟨r.hd,by have:=r.dp;show A.depth+1+3*k+5<_;omega,by have:=r.un;show A.units+3+16*k+200<_;omega⟩
theorem my.in1(r:my (k+1) A):my k A.in1:=
 ⟨r.hd,by have:=r.dp;show A.depth+3*k+5<_;omega,by have:=r.un;show A.units+1+16*k+200<_;omega⟩
theorem my.depth(r:my k A):A.depth<recursionLimit:=by have:=r.dp;omega
def HE:TA:=λ_ H Q=>Q [] H
def Ah(z:TE)(I:TA):TA:=λa H Q=>z a H λx b=>I a b λe d=>Q (x::e) d
section
variable{X:Cx}{e:eh}{es:List eh}{te:TE}{t:TA}{pos:gB}
theorem qu:PA X [] HE:=λ_ _ _ _ H Q I h=>RH ⟨[],H,I,.nil,h⟩
theorem jr(z:PE X e te)(O:PA X es t)(hs:ft (e::es) X.env=(dn,ej e X.env)::ft es X.env:=by rfl):PA X (e::es) (Ah te t):=by intro pos a s b H Q I h;rw[hs];show wpAny _ _ (I7 ((dn,ej e X.env)::p8 pos (ft es X.env))) _ _ s;refine Px<|eM (z a s b H _ I h) λu m U=>?_;obtain⟨x,d,Y,k,i⟩:=U;exact eM (O pos a m b d _ Y i) λp o ⟨n,f,g,l,j⟩=>⟨x::n,f,g,.cons k l,j⟩
noncomputable def IP(t:TA):TE:=λd H Q=>t d H λb a=>b.length<=fh/\∀p,a p=none->Q (.ref p) (upd a p<|.tup b)
noncomputable def IT(t:TA):TE:=λd H Q=>t d H λb a=>b.length<=fh/\∀p,a p=none->Q (.ref p) (upd a p<|.lst b)
theorem Br(h:PA X es t):PE X (.Tuple es x1 pos) (IP t):=by intro a s j H Q I U;refine wpAny_Tuple_spliced<|eM (h pos a s j H _ I U) λg d ⟨i,f,O,r,z,q⟩=>⟨by rw[<- r.length];exact z,?_⟩;have Y:f d.heap.objs.size=none:=O.fy.fresh<|Mf _;refine⟨.ref d.heap.objs.size,upd f d.heap.objs.size<|.tup i,O.laid (t':=d.toks) (λb u e=>LY _ e) (Mf _) ?_,rfl,q _ Y⟩;exact⟨z,g,r,⟨_,Ml _ rfl,rfl,_,rfl⟩⟩
theorem Bw(h:PA X es t):PE X (.List es pos) (IT t):=by intro a s j H Q I U;refine wpAny_List_spliced<|eM (h pos a s j H _ I U) λg d ⟨i,f,O,r,z,q⟩=>⟨by rw[<- r.length];exact z,?_⟩;have Y:f d.heap.objs.size=none:=O.fy.fresh<|Mf _;refine⟨.ref d.heap.objs.size,upd f d.heap.objs.size<|.lst i,O.laid (t':=d.toks) (λb u e=>LY _ e) (Mf _) ?_,rfl,q _ Y⟩;exact⟨z,g,0,r,Ml _ rfl⟩
end
abbrev Sp:=List V->Hp->VK->XK->Prop
abbrev sG:=List m6->Hp->d7->XK->dy->d7->Prop
structure B7(P:h6)(w:g8)(K:LX)(mg:UZ)(base:e9)(A:j1)(outer:List m6)(s:d7)(H:Hp):Prop where
 frames:A.frames=bX outer
 mod:Mod K mg base
 bs : ∀b o,base.get? b=bX o->s.heap.get? b=bX o/\H b=none
 A6:base.objs.size<=s.heap.objs.size
 sh:s.heap.FunFrames base outer
 Dv : ∀b∈xb outer,H b=none
 fy:kA P w H s.heap
 bare:Dm s.gens
noncomputable def CE(outer:List m6)(P:h6)(w:g8)(H:Hp)(s:d7)(Q:VK)(u:dy)(z:d7):Prop:=
 ∃v a,z.os=s.os/\Dm z.gens/\Un (xb outer) [] H a s.heap z.heap/\kA P w a z.heap/\RelV v u/\Q v a
noncomputable def CR(CX:sG)(outer:List m6)(P:h6)(w:g8)(H:Hp)(s:d7)(Q:VK)(E:XK)(r:Result)(z:d7):Prop:=
 match r with
 | .ok (.ret u)=>CE outer P w H s Q u z
 | .ok _=>False
 | .error e=>CX outer H s E e z
structure o4(P:h6)(w:g8)(K:LX)(mg:UZ)(base:e9)(CX:sG)(k:Nat)(f:dv)(fd:o5)(ps:List Str)(sp:Sp):Prop where
 len : ∀vs H Q E,sp vs H Q E->vs.length=ps.length
 run : ∀(A:j1) (outer:List m6) (s:d7) (H:Hp) (args:Args) (us:List dy) (vs:List V) (Q:VK) (E:XK),my k A->B7 P w K mg base A outer s H->L6 s fd args (ps.zip us)->eF vs us->sp vs H Q E->
  codeAny (eg P w) A (.call (.ref f) args) (CR CX outer P w H s Q E) s
theorem B7.in1{P:h6}{w:g8}{K:LX}{z:UZ}{base:e9}{A:j1}{outer:List m6}{s:d7}{H:Hp}(e:B7 P w K z base A outer s H) :
 B7 P w K z base A.in1 outer s H:=⟨e.frames,e.mod,e.bs,e.A6,e.sh,e.Dv,e.fy,e.bare⟩
section
variable{X:Cx}{pins:UQ}{σ:St}{H:Hp}{s s':d7}
theorem Inv.C6(I:Inv X pins σ H s):B7 X.prog X.w X.K X.mg X.base X.A X.stack s H:=
 ⟨I.ok.frames,I.ok.mod,I.bs,Np I.ok.A6 I.sz,I.stack,I.UO,I.fy,I.bare⟩
theorem Inv.after(I:Inv X pins σ H s)(h:CE X.stack X.prog X.w H s Q u s'):EP X pins σ Q u s':=by obtain⟨v,f,os,a,un,e,r,q⟩:=h;obtain⟨O,g,d,t,U⟩:=s';obtain rfl:U=s.os:=os;exact⟨v,f,I.call (h':=O) (g':=g) (d':=d) (t':=t) (ch:=[]) un e a<|λb z=>absurd z ⋯,r,q⟩
end
def pS(sp:Sp)(z:List V)(E:XK)(t:TA):TE:=λd H Q=>t d H λb a=>sp (b++z) a Q E
noncomputable def Binds(K:LX)(z:o5)(ps:List Str)(ds:List dy):Prop:=
 ∀(s:d7) (a:List dy),K.In s.heap->(a++ds).length=ps.length->L6 s z ⟨a,[]⟩ (ps.zip<|a++ds)
theorem Binds.all{K:LX}{z:o5}{ps:List Str}(h : ∀us:List dy,us.length=ps.length->bindArgs z ⟨us,[]⟩=pure (ps.zip us)):Binds K z ps []:=λs us _ I=>by rw[OG]at I ⊢;exact .of_eq<|h us I
noncomputable def gY(CX:sG)(X:Cx)(E:XK):Prop:=∀(a:UQ) (d:St) (H:Hp) (s:d7) (e:dy) (b:d7),Inv X a d H s->CX X.stack H s E e b->X.xe e b
section
variable{X:Cx}{CX:sG}{k:Nat}{f C:dv}{fd:o5}{ps:List Str}{sp:Sp}{D6:List V}{ds:List dy}{E:XK}{x m:Str}{p pos apos:gB}{e o:eh}{es:List eh}{ta:TE}{t:TA}
theorem AE(F:o4 X.prog X.w X.K X.mg X.base CX k f fd ps sp)(U:my k X.A)(Y:Binds X.K fd ps ds)(z:eF D6 ds)(hx:gY CX X E)
 (I:Inv X pins σ H s) (r:eF vs us) (h:sp (vs++D6) H Q E):wpAny (eg X.prog X.w) X.A (call (.ref f) us) (EP X pins σ Q) X.xe s:=by
 have a:eF (vs++D6) (us++ds):=r.append z;have d:(us++ds).length=ps.length:=by rw[<- a.length];exact F.len _ _ _ _ h
 refine wpAny_call<|Sx (F.run X.A X.stack s H ⟨us,[]⟩ (us++ds) (vs++D6) Q E U I.C6 (Y s us I.mu d) a h) λr g O=>?_;cases r with
 | error e=>exact hx pins σ H s e g I O
 | ok b=>
  cases b with
  | ret u=>exact I.after O
  | next=>exact OC O
  | brk=>exact OC O
  | cont=>exact OC O
theorem eV(F:o4 X.prog X.w X.K X.mg X.base CX k f fd ps sp)(U:my k X.A)(Y:Gl X x)(hm:X.mg x=bX (.ref f))(hk:Rq X.K (.ref f)=cz)(M:Binds X.K fd ps ds)(S:eF D6 ds)(hx:gY CX X E)
 (L:PA X (e::es) t) (z:(x==("__debug__" : Str))=dn:=by decide) (Z:ft (e::es) X.env=(dn,ej e X.env)::ft es X.env:=by rfl) (J:(p8 pos (ft es X.env)).any (·.1)=dn:=by rfl) :
 PE X (.Call (.Name x p) (e::es) [] pos) (pS sp D6 E t):=by
 intro a s b H Q I h;refine OY<|fJ I Y hm ?_ z;refine PySem.W.callWith_K (h₀:=X.base) I.ok.mod.Tx hk (eM (L pos a s b H _ I h) λi g ⟨j,d,O,r,q⟩=>⟨O.mu,?_⟩) Z J;exact AE F U M S hx O r q
end
structure E9(N P:List Str)(sc:g9):Prop where
 kind:sc.kind = .function
 co:sc.isCoroutine=dn
 gen:sc.isGenerator=dn
 nd:N.Nodup
 pre:N.take P.length=P
 par : ∀x∈P,sc.names.lookup x=bX .local\/sc.names.lookup x=bX .cell
 L' : ∀y∈sc.names,y.2 ≠ .free
theorem Y0{kindOf:Str->Option vk}{x:Str} : ∀{I:List (Str×dy)} {m:UZ},(∀v,(x,v)∉I)->DN kindOf I m x=m x
 | [],_,_=>rfl
 | (n,v)::r,m,h=>by
  unfold DN;rw[Y0 λw a=>h w (Mm _ a)];split
  ·have:x≠n:=by rintro rfl;exact h v Mn
   simp[this]
  ·rfl
theorem Y3{kindOf:Str->Option vk}{x:Str} : ∀{I:List (Str×dy)} {m:UZ},(∀v,(x,v)∉I)->DM kindOf I m x=m x
 | [],_,_=>rfl
 | (n,v)::r,m,h=>by
  unfold DM;rw[Y3 λw a=>h w (Mm _ a)];split
  ·rfl
  ·have:x≠n:=by rintro rfl;exact h v Mn
   simp[this]
theorem Y1{kindOf:Str->Option vk}{x:Str}{v:dy} : ∀{P:List Str} {vs:List dy} {i:Nat} {m:UZ},P.Nodup->P[i]? = bX x->vs[i]? = bX v->kindOf x=bX .local->
 DN kindOf (P.zip vs) m x=bX v
 | [],_,_,_,_,h,_,_=>by simp at h
 | _::_,[],_,_,_,_,h,_=>by simp at h
 | p::P,w::vs,0,m,nd,h1,h2,hk=>by simp at h1 h2;subst h1;subst h2;show DN kindOf ((p,w)::P.zip vs) m p=_;unfold DN;rw[Y0 λv I=>(NI.mp nd).1 (List.of_mem_zip I).1,UJ hk];simp
 | p::P,w::vs,i+1,m,nd,h1,h2,hk=>by show DN kindOf ((p,w)::P.zip vs) m x=_;unfold DN;exact Y1 (i:=i) (NI.mp nd).2 (by simpa using h1) (by simpa using h2) hk
theorem Y4{kindOf:Str->Option vk}{x:Str}{v:dy} : ∀{P:List Str} {vs:List dy} {i:Nat} {m:UZ},P.Nodup->P[i]? = bX x->vs[i]? = bX v->kindOf x≠bX .local->
 DM kindOf (P.zip vs) m x=bX v
 | [],_,_,_,_,h,_,_=>by simp at h
 | _::_,[],_,_,_,_,h,_=>by simp at h
 | p::P,w::vs,0,m,nd,h1,h2,hk=>by simp at h1 h2;subst h1;subst h2;show DM kindOf ((p,w)::P.zip vs) m p=_;unfold DM;rw[Y3 λv I=>(NI.mp nd).1 (List.of_mem_zip I).1,UY hk];simp
 | p::P,w::vs,i+1,m,nd,h1,h2,hk=>by show DM kindOf ((p,w)::P.zip vs) m x=_;unfold DM;exact Y4 (i:=i) (NI.mp nd).2 (by simpa using h1) (by simpa using h2) hk
def ZM(N:List Str)(vs:List V):St:=vs.map bX++Mb (N.length - vs.length) none
noncomputable def ug(CX:sG)(P:h6)(w:g8)(K:LX)(mg:UZ)(base:e9)(N:List Str)(qual:Str)(scope:g9)(f:dv)(I:dy)(A:j1)(outer:List m6)(s:d7)(H:Hp)(E:XK):Cx where
 prog:=P
 w:=w
 K:=K
 mg:=mg
 base:=base
 A:=A.deeper<|envOfC qual scope s.heap.objs.size f I
 N:=N
 m5:=s
 FG:=H
 env:=M5 qual scope s.heap.objs.size f I
 outer:=outer
 stack:=M5 qual scope s.heap.objs.size f I::outer
 ex:=[]
 calm:=cz
 fn:=λ_=>cz
 pn:=[]
 xe:=λe s'=>wpAny (eg P w) (A.deeper<|envOfC qual scope s.heap.objs.size f I) (leaving (M5 qual scope s.heap.objs.size f I) e) (λ_ O=>CX outer H s E e O) (λU O=>CX outer H s E U O) s'
theorem ao{z:g9}{n:Nat}{x:Str}(h:z.names.lookup x=bX .cell) : ∃c,(rn n z.names []).lookup x=bX c:=by have q:=Py z.names n [] (.inl h);exact Oh.mp q
theorem fV{CX:sG}{P:h6}{w:g8}{K:LX}{C:UZ}{base:e9}{N ps:List Str}{qual:Str}{scope:g9}{f:dv}{Y:dy}{A:j1}{outer:List m6}{s J:d7}{H:Hp}{E:XK}{us:List dy}{vs:List V}
 (S:E9 N ps scope) (L:A.handled=none) (I:B7 P w K C base A outer s H) (M:vs.length=ps.length) (r:eF vs us)
 (x:InCallC s s.heap.objs.size (DN (M5 qual scope s.heap.objs.size f Y).kindOf (ps.zip us) λ_=>none) (rn (s.heap.objs.size+1) scope.names []) (DM (M5 qual scope s.heap.objs.size f Y).kindOf (ps.zip us) λ_=>none) J) :
 Inv (ug CX P w K C base N qual scope f Y A outer s H E) [] (ZM N vs) H J:=by
 have F:ps.length<=N.length:=by have:=congrArg List.length S.pre;rw[Ou]at this;omega
 obtain⟨g,Q,rfl,m⟩:=x.done;have a0 : ∀b:dv,b∉(ug CX P w K C base N qual scope f Y A outer s H E).ex:=λb z=>absurd (show b∈([]:List dv)from z) ⋯;refine⟨⟨I.mod,S.kind,rfl,rfl,Mf _,λy z c g d=>?_,λy O=>?_,λy c _ h=>?_,λ_=>L,Around.frames_deeper I.frames,.inr ⟨rfl,rfl⟩,λb z=>absurd z<|a0 b,I.bs,I.A6,λb _ _=>a0 b,λb z=>absurd z<|a0 b,I.sh,I.Dv⟩,
  rfl,I.bare,Un.kept m,⟨_,x.toInCall.ns,λi y v g d G=>?_⟩,λy c h=>⟨_,x.cell y c h⟩,I.fy.fresh<|Mf _,λy c h=>?_,λp U=>absurd (show p∈([]:UQ)from U) ⋯,I.fy.kept m,?_⟩
 ·exact name_of_addr x.apart (Pj g)<|Pj d
 ·have O:scope.names.lookup y=bX .cell\/scope.names.lookup y=bX .free:=O
  rcases O with O | O
  ·exact ao O
  ·exact absurd rfl<|S.L' _<|Pj O
 ·exact Sh<|x.above y c<|Pj h
 ·have j:i<vs.length:=by
   unfold ZM at d;by_cases j:i<vs.length
   ·exact j
   ·rw[MY (by simpa using j)]at d
    rw[PH]at d;split at d<;>cases d
  have t:vs[i]? = bX v:=by
   unfold ZM at d;rw[Nk (by simpa using j),MC]at d;cases e:vs[i]? with
   | none=>rw[e]at d;cases d
   | some a=>rw[e]at d;cases d;rfl
  obtain⟨u,o,B⟩:=r.get t;have U:ps[i]? = bX y:=by rw[<- S.pre,List.getElem?_take_of_lt ⋯];exact g
  have l:ps.Nodup:=by rw[<- S.pre];exact S.nd.sublist<|List.take_sublist _ _
  refine⟨u,B,?_⟩;rcases S.par y (Nq U)with k | k
  ·exact .inl ⟨k,Y1 l U o k⟩
  ·obtain⟨c,e⟩:=ao (n:=s.heap.objs.size+1) k
   refine .inr ⟨.inl k,c,e,?_⟩;have q:=x.cell y c e;rw[Y4 l U o (by show scope.names.lookup y≠_;rw[k];decide)]at q;exact q
 ·exact I.fy.fresh<|Sh<|x.above y c<|Pj h
 ·unfold ZM
  show _=N.length;rw[MW,Mq,List.length_replicate];omega
theorem GD{CX:sG}{P:h6}{w:g8}{K:LX}{M:UZ}{base:e9}{k:Nat}{f:dv}{name qual:Str}{a0:Arguments}{C:List i3}{scope:g9}{dV kV L pm z ct oc:dy}{an od:Option dv}
 {Z:Array (Option dy)} {N ps:List Str} {sp:Sp} (lk:K.lookup f=bX ⟨oc,od,.func<|PM name qual a0 C scope dV kV L pm an z ct,Z⟩) (a5:RX K z qual=cz) (S:E9 N ps scope)
 (len : ∀vs H Q E,sp vs H Q E->vs.length=ps.length)
 (a6 : ∀(A:j1) (outer:List m6) (s:d7) (H:Hp) (vs:List V) (Q:VK) (E:XK),my k (A.deeper<|envOfC qual scope s.heap.objs.size f z)->sp vs H Q E->
   ∃t,p6 (ug CX P w K M base N qual scope f z A outer s H E) C t/\t {nx:=λ_ H'=>Q .el H',rt:=Q} (ZM N vs) H) :
 o4 P w K M base CX (k+1) f (PM name qual a0 C scope dV kV L pm an z ct) ps sp:=by
 refine⟨len,λA outer s H l us vs Q E U O hb r i=>?_⟩;have R:=len _ _ _ _ i;have h:K.In s.heap:=O.mod.Tx.keeps λb o e=>(O.bs b o e).1;have lim:s.heap.NoLimit:=O.mod.nolimit.keeps λb o e=>(O.bs b o e).1;have p : ∀y∈ps.zip us,scope.names.lookup y.1=bX .local\/(scope.names.lookup y.1=bX .cell/\((rn (s.heap.objs.size+1) scope.names []).lookup y.1).isSome=cz):=λ⟨n,v⟩ hy=>by
  rcases S.par n (List.of_mem_zip hy).1 with q | q
  ·exact .inl q
  ·exact .inr ⟨q,Py _ _ _<|.inl q⟩
 refine codeAny_call_function U.depth (h _ _ lk) rfl S.co S.gen rfl (PySem.W.codeRec_of h a5)<|hb _ _ _ _ ?_;refine wpAny_newFunctionEnv_cells S.kind p λB G m x=>?_;subst G;refine⟨lim.keeps x.toInCall.keep,codeAny_func ?_⟩;obtain⟨t,X,T⟩:=a6 A outer s H vs Q E (U.deeper _) i;have I:Inv (ug CX P w K M base N qual scope f z A outer s H E) [] (ZM N vs) H m:=fV S U.hd O R r x;refine Ot (X [] m (ZM N vs) H _ I T) (λF g d=>?_) λe g d=>d;have j : ∀{a:St} {H':Hp} {v:V} {u:dy},Inv (ug CX P w K M base N qual scope f z A outer s H E) [] a H' g->RelV v u->Q v H'->CE outer P w H s Q u g:=
  λ{a H' v u} J Y q=>⟨v,H',J.os,J.bare,J.base,J.fy,Y,q⟩
 cases F with
 | ret u=>
  obtain⟨v,a,H',J,Y,q⟩:=d;exact j J Y q
 | next=>
  obtain⟨a,H',J,q⟩:=d;exact j (v:=V.el) (u:=MS) J rfl q
 | brk=>
  obtain⟨_,_,_,q⟩:=d;exact OC q
 | cont=>
  obtain⟨_,_,_,q⟩:=d;exact OC q
section
variable{X:Cx}{x:Str}{p pos:gB}{e:eh}{es:List eh}{t:TA}{id T:String}{r:List V->Hp->VK->Prop}
def US(r:List V->Hp->VK->Prop)(t:TA):TE:=λd H Q=>t d H λb a=>r b a Q
theorem kM(O:Zz X (.builtin id) r)(U:Gl X x)(M:X.mg x=none)(Y:C3 x=bX (.builtin id))(J:PA X (e::es) t)(S:x ≠ "__name__":=by decide)(z:(x==("__debug__" : Str))=dn:=by decide)
 (L:ft (e::es) X.env=(dn,ej e X.env)::ft es X.env:=by rfl) (C:(p8 pos<|starEach es X.env).any (·.1)=dn:=by rfl):PE X (.Call (.Name x p) (e::es) [] pos) (US r t):=by
 intro a s b H Q I h;refine OY<|kO I U M Y ?_ S z;exact Sd (eM (J pos a s b H _ I h) λk j ⟨l,d,f,i,g⟩=>O a j b d l k Q f i g) L C
theorem JA(O:Zz X (.type T) r)(U:Gl X x)(M:X.mg x=none)(Y:C3 x=bX (.type T))(J:PA X (e::es) t)(S:x ≠ "__name__":=by decide)(z:(x==("__debug__" : Str))=dn:=by decide)
 (L:ft (e::es) X.env=(dn,ej e X.env)::ft es X.env:=by rfl) (C:(p8 pos<|starEach es X.env).any (·.1)=dn:=by rfl):PE X (.Call (.Name x p) (e::es) [] pos) (US r t):=by
 intro a s b H Q I h;refine OY<|kO I U M Y ?_ S z;exact Na (eM (J pos a s b H _ I h) λk j ⟨l,d,f,i,g⟩=>O a j b d l k Q f i g) L C
end
end L2
namespace HT
open PySem PyProof.Rows
section
variable{prog:h6}{w:g8}{A:j1}{E:EQ}{s:d7}
theorem GP(L:F0 s.heap t vs.toArray)(J:F0 s.heap b ws.toArray)(U:vs ≠ [])
 (z:ws=[]->Q (.ref t) s) (C:ws ≠ []->Q (.ref s.heap.objs.size) {s with heap:=s.heap.push {cls:= .type "tuple",data:= .seq (vs++ws).toArray}})
 (hsz:vs.length+ws.length<=fh):wpAny (eg prog w) A (t8 .Add (.ref t)<|.ref b) Q E s:=by
 obtain⟨⟨cls,Y,data,l⟩,I,i,n,j⟩:=id L;obtain⟨⟨m,d,data2,f⟩,O,g,k,h⟩:=id J;simp only at i j g h;subst i j g h;have e:vs.toArray++ws.toArray=(vs++ws).toArray:=by simp
 by_cases a:ws=[]
 ·exact Tt ⟨_,I,rfl⟩ ⟨_,O,rfl⟩ Tv UN RJ RF (Rw _ _)
   (tuple_addW1 t b vs.toArray ws.toArray n k Y d l f (by simpa using U)<|by simp[a]) ⟨I,O,z a⟩
 ·refine Tt ⟨_,I,rfl⟩ ⟨_,O,rfl⟩ Tv UN RJ RF (Rw _ _)
   (tuple_addW2 t b vs.toArray ws.toArray n k Y d l f (by simpa using U) (by simpa using a)<|by rw[Mi,Mi];exact hsz) ⟨I,O,?_⟩
  rw[e];exact C a
noncomputable def cE(n d:Nat):Option Int->Nat
 | none=>d
 | some v=>if v<0 then (v+(n:Int)).toNat else min v.toNat n
theorem Ay(n d:Nat)(z:d<=n)(o:Option Int):cE n d o<=n:=by
 cases o with
 | none=>exact z
 | some v=>
  show(if v<0 then (v+(n:Int)).toNat else min v.toNat n)<=n;by_cases I:v<0
  ·rw[UJ I];omega
  ·rw[UY I];exact Nat.min_le_right _ _
theorem gG(v:Int)(n d:Nat):(if v<0 then max (v+(n:Int)) 0 else min v (n:Int))=((cE n d (bX v):Nat):Int):=by
 show(if v<0 then max (v+(n:Int)) 0 else min v (n:Int))=(((if v<0 then (v+(n:Int)).toNat else min v.toNat n):Nat):Int);by_cases I:v<0
 ·simp only[UJ I];omega
 ·simp only[UY I];omega
theorem bV(lo z:Option Int)(n:Nat):Ul lo z 1 (n:Int)=(((cE n 0 lo:Nat):Int),((cE n n z:Nat):Int)):=by
 have a : ¬((1:Int)<0):=by omega
 unfold Ul;simp only[a,if_false];refine Prod.ext ?_ ?_
 ·cases lo with
  | none=>rfl
  | some v=>exact gG v n 0
 ·cases z with
  | none=>rfl
  | some v=>exact gG v n n
theorem aV(i j:Nat):OR (i:Int) (j:Int) 1=j - i:=by
 unfold OR;have a:(1:Int)>0:=by omega
 simp only[a,if_true,Int.ediv_one];split<;>omega
theorem Xb(p:B9 v o)(h:Q o s):wpAny (eg prog w) A (Builtin.Slice.slicePartIndex v) Q E s:=by
 cases p with
 | none=>exact slicePart_none h
 | int i t=>exact slicePart_int h
theorem ZN{C:dv}{I O:dy}{lo z:Option Int}{n:Nat}{Q:Int×Int×Nat->d7->Prop}(hs:s.heap.IsSliceOf C I O .none)(J:B9 I lo)(L:B9 O z)
 (h:Q (((cE n 0 lo:Nat):Int),1,cE n n z - cE n 0 lo) s):wpAny (eg prog w) A (Builtin.Slice.sliceApplied (.ref C)<|pure (n:Int)) Q E s:=by
 obtain⟨os,U,a,Y⟩:=id hs;unfold Builtin.Slice.sliceApplied Builtin.Slice.sliceFields;refine LV<|LV<|Ni U Y (x:=I) rfl<|LV<|Ni U Y (x:=O) rfl<|LV<|Ni U Y (x:= .none) rfl<|Mg ?_;refine LV<|slicePart_none ?_;show wpAny _ _ (if ((1:Int)==0)=cz then _ else _) _ _ s;rw[UY ⋯];refine LV<|Xb J<|LV<|Xb L<|LV<|Mg ?_;show wpAny _ _ (match Ul lo z 1 (n:Int)with | (lo,z)=>pure (lo,(1:Int),OR lo z 1)) _ _ s;rw[bV lo z n];show wpAny _ _ (pure (((cE n 0 lo:Nat):Int),(1:Int),OR ((cE n 0 lo:Nat):Int) ((cE n n z:Nat):Int) 1)) _ _ s;rw[aV];exact Mg h
theorem ma(xs:Array dy)(i k:Nat):((LW k).filterMap λ(m:Nat)=>xs[((i:Int)+(m:Int)*1).toNat]?).toArray=((xs.toList.drop i).take k).toArray:=by
 have e:(λ(m:Nat)=>xs[((i:Int)+(m:Int)*1).toNat]?)=λm=>xs[i+m]? :=by
  funext m;have:((i:Int)+(m:Int)*1).toNat=i+m:=by omega
  rw[this]
 rw[e];have:=pick_run xs i k;rw[List.filterMap_map]at this;have I:((λx=>xs[x]?)∘λx=>i+x)=λm=>xs[i+m]? :=rfl;rw[I]at this;rw[this]
theorem bH{t C:dv}{items:Array dy}{U Y:dy}{lo z:Option Int}{Q:EQ}(I:F0 s.heap t items)(hs:s.heap.IsSliceOf C U Y .none)(L:B9 U lo)(M:B9 Y z)
 (J : ¬(cE items.size 0 lo=0/\cE items.size items.size z=items.size))
 (h:Q (.ref s.heap.objs.size) {s with heap:=s.heap.push {cls:= .type "tuple",data:= .seq ((items.toList.drop (cE items.size 0 lo)).take (cE items.size items.size z - cE items.size 0 lo)).toArray}})
 (hsz:items.size<=fh):wpAny (eg prog w) A (C9 (.ref t)<|.ref C) Q E s:=by
 have O:sizeOk (.seq ((items.toList.drop<|cE items.size 0 lo).take (cE items.size items.size z - cE items.size 0 lo)).toArray):=by show((items.toList.drop<|cE items.size 0 lo).take (cE items.size items.size z - cE items.size 0 lo)).toArray.size<=fh;rw[Mi,Ou,RU,NG];omega
 have g:cE items.size items.size z<=items.size:=Ay _ _ (Mf _) z;obtain⟨os,a,b,f⟩:=id hs;have d:s.TypeIs (.ref C) "slice":=⟨os,a,b⟩;unfold C9
 try with_reducible refine NT ?_
 first | refine LV (Mg ?_) | skip
 refine LV (_a I.typeIs ⋯ ?_);refine LV (Nc (name:=MT "__getitem__") I.typeIs ND
  (Ny ND I.typeIs entry_tuple_getitem ?_ (v_ _ _)))
 show wpAny _ _ (Builtin.Tuple.tupleItemsOf (.ref t) >>= _) _ _ s;refine LV<|Sb I ?_;refine LV<|Rj d ?_;rw[UJ ⋯];refine LV<|ZN hs L M ?_;have e : ¬((((cE items.size 0 lo:Nat):Int)==0 && (1:Int)==1 && (cE items.size items.size z - cE items.size 0 lo)==items.size)=cz):=by intro q;rw[Mt,Mt]at q;have i:((cE items.size 0 lo:Nat):Int)=0:=eq_of_beq q.1.1;have j:cE items.size items.size z - cE items.size 0 lo=items.size:=eq_of_beq q.2;exact J ⟨by omega,by omega⟩
 show wpAny _ _ (if (((cE items.size 0 lo:Nat):Int)==0 && (1:Int)==1 && (cE items.size items.size z - cE items.size 0 lo)==items.size)=cz then _ else _) _ _ s;rw[UY e,ma]
 first
  | exact LV (m:=NZ _)<|NO (Mg ⟨_,rfl,Mg h⟩) O
  | exact LV (m:=NZ _)<|NO (LV<|Mg<|Mg ⟨_,rfl,Mg h⟩) O
  | exact LV<|LV (m:=NZ _)<|NO (Mg<|Mg ⟨_,rfl,Mg h⟩) O
  | exact LV<|LV (m:=NZ _)<|NO (Mg ⟨_,rfl,Mg h⟩) O
end
end HT
namespace L2
open PySem PySem.Spec PyProof.Rows
abbrev TO:=St->Hp->(Option Int->Hp->Prop)->Prop
noncomputable def PO(X:Cx)(e:Option eh)(t:TO):Prop:=
 ∀(a:UQ) (s:d7) (b:St) (H:Hp) (Q:Option Int->Hp->Prop),Inv X a b H s->t b H Q->
  wpAny (eg X.prog X.w) X.A (evalPart e X.env) (λu f=>∃o d,Inv X a b d f/\B9 u o/\Q o d) X.xe s
def pR:TO:=λ_ H Q=>Q none H
def Ff(t:TE):TO:=λb H Q=>t b H λx a=>∃i,x = .int i/\Q (bX i) a
section
variable{X:Cx}{e:eh}{te:TE}{lo hi:Option eh}{tl th:TO}{pos p2:gB}
theorem sI:PO X none pR:=by intro a s b H Q I h;rw[evalPart_none];exact Mg ⟨none,H,I,.none,h⟩
theorem sH(h:PE X e te):PO X (bX e) (Ff te):=by intro a s g H Q I d;rw[evalPart_some];refine eM (h a s g H _ I d) λu j O=>?_;obtain⟨x,b,U,Y,f⟩:=O;obtain⟨i,rfl,q⟩:=f;obtain⟨t,rfl⟩:=Y;exact⟨bX i,b,U,.int i t,q⟩
noncomputable def P8(X:Cx)(r:V->Option Int->Option Int->Hp->VK->Prop):Prop:=
 ∀(a:UQ) (s:d7) (d:St) (H:Hp) (x:V) (v I O:dy) (lo hi:Option Int) (b:dv) (Q:VK),Inv X a d H s->RelV x v->s.heap.IsSliceOf b I O .none->B9 I lo->B9 O hi->r x lo hi H Q->
  ∃T id,E6 (.type T) "__getitem__" = pure (bX (.builtin id))/\s.TypeIs v T/\wpAny (eg X.prog X.w) X.A (C9 v (.ref b)) (EP X a d Q) X.xe s
noncomputable def U_(r:V->Option Int->Option Int->Hp->VK->Prop)(te:TE)(tl th:TO):TE:=λa H Q=>te a H λx b=>tl a b λl d=>th a d λu I=>r x l u I Q
theorem mi(J:P8 X r)(z:PE X e te)(C:PO X lo tl)(L:PO X hi th):PE X (.Subscript e (.Slice lo hi none p2) pos) (U_ r te tl th):=by intro a s d H Q I h;refine Uq (eM (z a s d H _ I h) λv N p=>?_);obtain⟨x,g,j,M,F⟩:=p;refine wpAny_Slice (eM (C a N d g _ j F) λU P ⟨l,i,k,B,G⟩=>eM (L a P d i _ k G) λY O ⟨u,f,m,E,K⟩=>?_);rw[evalPart_none];refine Mg ?_;have n:Inv X a d f {O with heap:=O.heap.push {cls:= .type "slice",data:= .fields #[U,Y,.none]}}:=m.kept (t':=O.toks) λb R q=>LY _ q;obtain⟨T,id,o,y,t⟩:=J a {O with heap:=O.heap.push {cls:= .type "slice",data:= .fields #[U,Y,.none]}} d f x v U Y l u O.heap.objs.size Q n M (Heap.IsSliceOf.new ..) B E K;show wpAny (eg X.prog X.w) X.A (UP e (.Slice lo hi none p2) v (.ref O.heap.objs.size)) (EP X a d Q) X.xe {O with heap:=O.heap.push {cls:= .type "slice",data:= .fields #[U,Y,.none]}};exact tail_any (ops:=[.ref O.heap.objs.size,v]) y o t (by with_unfolding_all rfl)
noncomputable def uh(xs:List V)(lo hi:Option Int):List V:=(xs.drop<|HT.cE xs.length 0 lo).take (HT.cE xs.length xs.length hi - HT.cE xs.length 0 lo)
theorem VZ(xs:List V)(lo hi:Option Int):(uh xs lo hi).length<=xs.length:=by unfold uh;rw[Ou,RU];omega
noncomputable def Lg(K:LX):V->Option Int->Option Int->Hp->VK->Prop:=λx lo hi H Q=>∃a b,x = .ref a/\g5 K H a b/\
 ¬(HT.cE b.length 0 lo=0/\HT.cE b.length b.length hi=b.length)/\∀p,H p=none->Q (.ref p) (upd H p<|.tup<|uh b lo hi)
theorem Au:P8 X (Lg X.K):=by
 intro g s w H x v t u lo hi p Q I Y i l m h;obtain⟨a,d,rfl,k,j,q⟩:=h;cases Y;obtain⟨e,r,U,f⟩:=I.tuple k;have O:e.toArray.size=d.length:=by rw[Mi];exact r.length.symm
 refine⟨"tuple",_,ND.lookup,U.typeIs,?_⟩;refine HT.bH U i l m (by rw[O];exact j) ?_ (by rw[O];exact f);rw[O];refine⟨.ref s.heap.objs.size,_,I.laid (t':=s.toks) (o:= .tup (uh d lo hi)) (λb n q=>LY _ q) (Mf _) ?_,rfl,q _ (I.fy.fresh (Mf _))⟩;exact⟨Np (VZ d lo hi) f,_,(r.drop (HT.cE d.length 0 lo)).take (HT.cE d.length d.length hi - HT.cE d.length 0 lo),u9.new _ _⟩
theorem eF.N2(r:eF xs us):us=[]↔xs=[]:=by
 cases r with
 | nil=>simp
 | cons _ _=>simp
end
noncomputable def DT(n:Nat)(i:Int):Option Nat:=if 0<=i then (if i<n then bX i.toNat else none)else if -(n:Int)<=i then bX (i+n).toNat else none
def Ds{z:Type}(xs:List z)(i:Int):Option z:=(DT xs.length i).bind λj=>xs[j]?
theorem fS(h:DT n i=bX j):seqIndex? i n=bX j/\j<n/\ -(n:Int)<=i/\i<n:=by
 unfold DT at h;by_cases I:0<=i
 ·rw[UJ I]at h
  by_cases a:i<n
  ·rw[UJ a]at h
   have e:i.toNat=j:=Nd h;exact⟨by rw[UM I a,e],by omega,by omega,a⟩
  ·rw[UY a]at h;cases h
 ·rw[UY I]at h
  by_cases a : -(n:Int)<=i
  ·rw[UJ a]at h
   have e:(i+n).toNat=j:=Nd h;exact⟨by rw[UL ⋯ a,e],by omega,a,by omega⟩
  ·rw[UY a]at h;cases h
theorem V4(h:Ds xs i=bX v) : ∃j,seqIndex? i xs.length=bX j/\xs[j]? = bX v/\j<xs.length/\ -(xs.length:Int)<=i/\i<xs.length:=by
 unfold Ds at h;cases e:DT xs.length i with
 | none=>rw[e]at h;cases h
 | some j=>
  rw[e]at h;obtain⟨a,b,I,O⟩:=fS e;exact⟨j,a,h,b,I,O⟩
def V8(b:eh):Prop:=∀o i,T5 b dn o i=operate [o,i] (C9 o i)
noncomputable def Dp(X:Cx)(r:R2):Prop:=
 ∀(b I:eh) (a:UQ) (s:d7) (d:St) (H:Hp) (x y:V) (v u:dy) (Q:VK),Inv X a d H s->RelV x v->RelV y u->r x y H Q->
  T5 I dn v u=operate [v,u] (C9 v u)->wpAny (eg X.prog X.w) X.A (UP b I v u) (EP X a d Q) X.xe s
noncomputable def Uj(X:Cx)(id:String)(r:V->List V->Hp->VK->Prop):Prop:=
 ∀(a:UQ) (s:d7) (e:St) (H:Hp) (x:V) (d:List V) (v:dy) (b:List dy) (Q:VK),Inv X a e H s->RelV x v->eF d b->r x d H Q->
  wpAny (eg X.prog X.w) X.A (call (.builtin id) (v::b)) (EP X a e Q) X.xe s
section
variable{X:Cx}{a b:eh}{ta tb:TE}{pos:gB}
theorem Dp.or(h:Dp X r)(h':Dp X r'):Dp X (λx y H Q=>r x y H Q\/r' x y H Q):=by
 intro a O b s e H x y v u Q I U Y q d;rcases q with q | q
 ·exact h a O b s e H x y v u Q I U Y q d
 ·exact h' a O b s e H x y v u Q I U Y q d
theorem Bx(O:Dp X r)(z:PE X a ta)(U:PE X b tb)(hs:V8 b):PE X (.Subscript a b pos) (I8 r ta tb):=by intro d s j H Q I h;exact Uq<|GQ z U I h λv u i x y e Y f g q=>O a b d i j e x y v u Q Y f g q<|hs _ _
noncomputable def Lk(K:LX):R2:=λx y H Q=>∃p a i v,x = .ref p/\y = .int i/\fA K H p a/\Ds a i=bX v/\Q v H
noncomputable def Li(K:LX):R2:=λx y H Q=>∃p a i v,x = .ref p/\y = .int i/\g5 K H p a/\Ds a i=bX v/\Q v H
noncomputable def Lj:R2:=λx y H Q=>∃z i c,x = .str z/\y = .int i/\z.length<=fh/\Ds z.cps.toList i=bX c/\Q (.str ⟨#[c]⟩) H
theorem H_:Dp X (Lk X.K):=by
 intro e L a s l H x y v u Q I F G h k;obtain⟨p,R,i,z,rfl,rfl,E,B,q⟩:=h;cases F;obtain⟨t,rfl⟩:=G;obtain⟨d,r,O,P⟩:=I.list E;obtain⟨j,b,n,M,o,A⟩:=V4 B;obtain⟨w,Y,m⟩:=r.get n;have C:=r.length;have N:=JL;have f:EP X a l Q w s:=⟨z,H,I,m,q⟩;by_cases g:0<=i
 ·have U:i.toNat=j:=by
   rw[UM g A]at b;exact Nd b
  exact item_listR O.isList g ⋯ (by rw[U];simpa using Y) f k
 ·have U:(i+(d.toArray.size:Int)).toNat=j:=by
   rw[UL ⋯ o]at b;rw[Mi,<- C];exact Nd b
  exact T_ (x:=w) O.isList.typeIs slot_list_getitem.lookup
   (wpAny_getItem_list_neg (Q:=λr J=>r=w/\EP X a l Q r J) O.isList ⋯ (by rw[Mi]<;>omega) ⋯ (by rw[U];simpa using Y) ⟨rfl,f⟩) k
theorem Cf:Dp X (Li X.K):=by
 intro b E a s d H x y v u Q I U Y h A;obtain⟨p,N,i,z,rfl,rfl,o,m,q⟩:=h;cases U;obtain⟨t,rfl⟩:=Y;obtain⟨B,r,O,M⟩:=I.tuple o;obtain⟨j,k,l,F,G,J⟩:=V4 m;obtain⟨w,g,e⟩:=r.get l;have n:=r.length;have L:=JL;have f:EP X a d Q w s:=⟨z,H,I,e,q⟩;exact T_ (x:=w) O.typeIs slot_tuple_getitem.lookup
  (getItem_tuple (j:=j) (Q:=λr C=>r=w/\EP X a d Q r C) O ⋯ ⋯ (by rw[Mi,<- n];exact k) (by simpa using g) ⟨rfl,f⟩) A
theorem Cg:Dp X Lj:=by
 intro a o d s B H x y v u Q I O U h n;obtain⟨z,i,c,rfl,rfl,w,Y,q⟩:=h;obtain⟨t,rfl⟩:=O;obtain⟨A,rfl⟩:=U;obtain⟨j,b,g,p,k,l⟩:=V4 Y;have m:z.cps.toList.length=z.length:=by simp[Str.length]
 rw[m]at b k l;have r:=JL;exact tail_any (U6 s z t) slot_str_getitem.lookup (getItem_str (c:=c) (by
  have e:decide (i < -(2 ^ 63:Int))=dn:=decide_eq_false ⋯;have f:decide (i>=2 ^ 63)=dn:=decide_eq_false ⋯;rw[e,f,Bool.or_false]) (by rw[b];simpa using g) ⟨.str ⟨#[c]⟩,H,I.tok _,⟨_,rfl⟩,q⟩) n
theorem bu(its:List dy)(n j:Nat)(u:dy):MN (·.setIfInBounds j u) {cls:= .type "list",data:= .seq its.toArray n} = {cls:= .type "list",data:= .seq (its.set j u).toArray n}:=by simp[MN]
theorem Inv.lst(I:Inv X pins σ H s)(h:H p=bX (.lst xs)) :
 ∃(its:List dy) (n:Nat),eF xs its/\s.heap.get? p=bX {cls:= .type "list",data:= .seq its.toArray n}/\xs.length<=fh:=by
 obtain⟨z,its,n,r,e⟩:=I.fy p _ h;exact⟨its,n,r,e,z⟩
theorem Inv.J'{z:UQ}{C:St}{H:Hp}{s:d7}{p:dv}{xs ys:List V}{its its':List dy}{n n':Nat}{f:l6->l6}(I:Inv X z C H s)(h:H p=bX (.lst xs))
 (U:s.heap.get? p=bX {cls:= .type "list",data:= .seq its.toArray n}) (O:f {cls:= .type "list",data:= .seq its.toArray n} = {cls:= .type "list",data:= .seq its'.toArray n'}) (r:eF ys its') (hz:ys.length<=fh) (t:Nat) :
 Inv X z C (upd H p<|.lst ys) {s with heap:=s.heap.update p f,toks:=t}:=by
 have e:(s.heap.update p f).get? p=bX {cls:= .type "list",data:= .seq its'.toArray n'}:=by rw[Og f U (by rw[O]<;>rfl),O]
 refine I.write (x:=p) (e:=p) (by rw[h];trivial) (.inl rfl) (λb u Y q=>(MH _ _<|MD Y).trans q) ⟨_,e⟩ ?_;exact⟨hz,its',n',r,e⟩
noncomputable def FT:V->V->V->Hp->(Hp->Prop)->Prop:=λo i v H Q=>∃p a k j,o = .ref p/\i = .int k/\H p=bX (.lst a)/\DT a.length k=bX j/\Q (upd H p<|.lst<|a.set j v)
theorem Wu:IG X FT:=by
 intro b s C H o i v J G u Q I z y A h;obtain⟨p,B,k,j,rfl,rfl,m,w,q⟩:=h;cases z;obtain⟨t,rfl⟩:=y;obtain⟨a,n,r,O,x⟩:=I.lst m;obtain⟨d,E,g,l⟩:=fS w;have U:=r.length;have F:=JL;have e:Inv X b C (upd H p<|.lst<|B.set j v) {s with heap:=s.heap.update p (MN (·.setIfInBounds j u))}:=
  I.J' m O (bu a n j u) (r.set A j) (by rw[List.length_set];exact x) s.toks
 by_cases f:0<=k
 ·have Y:k.toNat=j:=by
   rw[UM f l]at d;exact Nd d
  exact PySem.W.ki_setAt O f ⋯ (by rw[Mi,<- U];exact l) (by rw[Y];exact⟨_,e,q⟩)
 ·have Y:(k+(a.toArray.size:Int)).toNat=j:=by
   rw[UL ⋯ g]at d;rw[Mi,<- U];exact Nd d
  exact PySem.W.ki_setBack O ⋯ (by rw[Mi,<- U];exact g) ⋯ (by rw[Y];exact⟨_,e,q⟩)
def Kl:V->Bool
 | .el=>cz
 | .bl _=>cz
 | .int _=>cz
 | .str _=>cz
 | _=>dn
noncomputable def C8:V->V->Bool
 | .el,.el=>cz
 | .bl a,.bl b=>a==b
 | .bl a,.int b=>(if a then 1 else 0)==b
 | .int a,.bl b=>a==(if b then 1 else 0)
 | .int a,.int b=>a==b
 | .str a,.str b=>a==b
 | _,_=>dn
theorem Cv(O:RelV y u)(I:RelV x v)(U:Kl y=cz)(fx:Kl x=cz):Nz A s u v (C8 y x):=by
 cases y with
 | el=>
  cases O;cases x with
  | el=>cases I;exact Nz.same _
  | bl b=>cases I;exact Nz.none_bool b
  | int b=>obtain⟨t,rfl⟩:=I;exact Nz.none_int b t
  | str b=>obtain⟨t,rfl⟩:=I;exact Nz.none_str b t
  | _=>exact absurd (show dn=cz from fx) MO
 | bl a=>
  cases O;cases x with
  | el=>cases I;exact Nz.bool_none a
  | bl b=>cases I;exact Nz.bool_bool a b
  | int b=>obtain⟨t,rfl⟩:=I;exact Nz.bool_int a b t
  | str b=>obtain⟨t,rfl⟩:=I;exact Nz.bool_str a b t
  | _=>exact absurd (show dn=cz from fx) MO
 | int a=>
  obtain⟨d,rfl⟩:=O;cases x with
  | el=>cases I;exact Nz.int_none a d
  | bl b=>cases I;exact Nz.int_bool a d b
  | int b=>obtain⟨t,rfl⟩:=I;exact Ph a d b t
  | str b=>obtain⟨t,rfl⟩:=I;exact Nz.int_str a d b t
  | _=>exact absurd (show dn=cz from fx) MO
 | str a=>
  obtain⟨d,rfl⟩:=O;cases x with
  | el=>cases I;exact Nz.str_none a d
  | bl b=>cases I;exact Nz.str_bool a d b
  | int b=>obtain⟨t,rfl⟩:=I;exact Nz.str_int a d b t
  | str b=>obtain⟨t,rfl⟩:=I;exact Nz.str_str a d b t
  | _=>exact absurd (show dn=cz from fx) MO
 | _=>exact absurd (show dn=cz from U) MO
noncomputable def C7(x:V)(u:dy):Bool:=match u with
 | .none=>C8 .el x
 | .bool b=>C8 (.bl b) x
 | .int i _=>C8 (.int i) x
 | .str z _=>C8 (.str z) x
 | _=>dn
theorem oZ(r:RelV y u)(f:Kl y=cz):C7 x u=C8 y x:=by
 cases y with
 | el=>cases r;rfl
 | bl b=>cases r;rfl
 | int i=>obtain⟨t,rfl⟩:=r;rfl
 | str z=>obtain⟨t,rfl⟩:=r;rfl
 | _=>exact absurd (show dn=cz from f) MO
theorem V6 : ∀{xs:List V} {us:List dy},eF xs us->xs.all Kl=cz->us.any (C7 x)=xs.any λy=>C8 y x
 | _,_,.nil,_=>rfl
 | y::xs,u::us,.cons r t,f=>by rw[SJ,Mt]at f;rw[RO,RO,oZ r f.1,V6 t f.2]
theorem Kd(O:RelV x v)(fx:Kl x=cz) : ∀{xs:List V} {us:List dy},eF xs us->xs.all Kl=cz->∀u∈us,Nz A s u v (C7 x u)
 | _,_,.nil,_=>λu I=>by cases I
 | y::xs,u::us,.cons r t,f=>λU I=>by
  rw[SJ,Mt]at f;rcases Mj.mp I with rfl | I
  ·rw[oZ r f.1];exact Cv r O f.1 fx
  ·exact Kd O fx t f.2 U I
def M9(x:V)(xs:List V):Bool:=xs.any λy=>C8 y x
noncomputable def O_(K:LX)(I:Bool):R2:=λx y H Q=>∃p a,y = .ref p/\(fA K H p a\/g5 K H p a)/\Kl x=cz/\a.all Kl=cz/\Q (.bl<|if I then !M9 x a else M9 x a) H
theorem Yo:ij X (nf .NotIn) (O_ X.K cz):=by
 intro d s i H x y v u Q I Y f h;obtain⟨p,g,rfl,O,fx,fs,q⟩:=h;cases f;rcases O with O | O
 ·obtain⟨a,r,U,e⟩:=I.list O
  refine SeqAt.notIn_listAt (C7 x) U.isList (λw b=>Kd Y fx r fs w<|by simpa using b) ⟨.bl _,H,I,rfl,?_⟩;rw[show a.toArray.any (C7 x)=a.any (C7 x)by simp,V6 r fs];exact q
 ·obtain⟨a,r,U,e⟩:=I.tuple O
  refine SeqAt.notIn_tupleAt (C7 x) U (λw b=>Kd Y fx r fs w<|by simpa using b) ⟨.bl _,H,I,rfl,?_⟩;rw[show a.toArray.any (C7 x)=a.any (C7 x)by simp,V6 r fs];exact q
theorem YZ:Zz X (.builtin "len") (λxs H Q=>∃p ys,xs=[.ref p]/\(fA X.K H p ys\/g5 X.K H p ys)/\Q (.int ys.length) H):=by
 intro d s j H xs i Q I r h;obtain⟨p,ys,rfl,O,q⟩:=h;obtain⟨u,rfl,f⟩:=yN r;cases f;have g:=JL;rcases O with O | O
 ·obtain⟨a,b,U,e⟩:=I.list O
  have Y:=b.length;exact Calls.call_len_list U.isList (by simp only[Mi]<;>omega) ⟨.int ys.length,H,I.tok _,⟨s.toks+1,by rw[Mi,Y]⟩,q⟩
 ·obtain⟨a,b,U,e⟩:=I.tuple O
  have Y:=b.length;exact len_tuple U (by simp only[Mi]<;>omega) ⟨.int ys.length,H,I.tok _,⟨s.toks+1,by rw[Mi,Y]⟩,q⟩
theorem YY:Zz X (.builtin "len") (λxs H Q=>∃z,xs=[.str z]/\z.length<=fh/\Q (.int z.length) H):=by intro a s f H xs e Q I r h;obtain⟨z,rfl,d,q⟩:=h;obtain⟨u,rfl,t,rfl⟩:=yN r;have b:=JL;exact len_str ⋯ ⟨.int z.length,H,I.tok _,⟨_,rfl⟩,q⟩
theorem YX:Zz X (.type "list") (λxs H Q=>∃p ys,xs=[.ref p]/\(fA X.K H p ys\/g5 X.K H p ys)/\∀l,H l=none->Q (.ref l) (upd H l (.lst ys))):=by
 intro j s B H xs C Q I r h;obtain⟨p,ys,rfl,U,q⟩:=h;obtain⟨u,rfl,A⟩:=yN r;cases A;have x : ∀(a:List dy),eF ys a->ys.length<=fh->∀(d:e9) (O:Nat),(∀b y,s.heap.get? b=bX y->d.get? b=bX y)->
  d.get? s.heap.objs.size=bX {cls:= .type "list",dict:=none,data:= .seq a.toArray O,slots:=#[]}->EP X j B Q (.ref s.heap.objs.size) {s with heap:=d}:=λa f g d O i e=>
  ⟨.ref s.heap.objs.size,_,I.laid (t':=s.toks) i (Mf _) (show i7 X.prog X.w _ d _ (.lst ys)from⟨g,a,O,f,e⟩),rfl,q _<|I.fy.fresh<|Mf _⟩
 rcases U with U | U
 ·obtain⟨a,f,Y,g⟩:=I.list U
  have z:=f.length;obtain⟨o,t,k,n,m⟩:=Y.isList;exact call_list_seq p (.inl rfl) t k m (λd O i e=>x a f g d O i e) (by simp only[Mi]<;>omega)
 ·obtain⟨a,f,Y,g⟩:=I.tuple U
  have z:=f.length;obtain⟨o,t,k,n,m⟩:=Y;exact call_list_seq p (.inr rfl) t k m (λd O i e=>x a f g d O i e) (by simp only[Mi]<;>omega)
theorem Kv:Zz X (.type "tuple") (λxs H Q=>∃p ys,xs=[.ref p]/\((fA X.K H p ys/\∀l,H l=none->Q (.ref l) (upd H l (.tup ys)))\/(g5 X.K H p ys/\Q (.ref p) H))):=by
 intro a s j H xs x Q I r h;obtain⟨p,ys,rfl,h⟩:=h;obtain⟨u,rfl,n⟩:=yN r;cases n;rcases h with⟨O,q⟩ | ⟨O,q⟩
 ·obtain⟨d,g,U,i⟩:=I.list O
  have t:=g.length;refine call_tuple_list U.isList (λf m=>?_) (by simp only[Mi]<;>omega);have Y:Inv X a j H {s with heap:=f}:=I.kept (t':=s.toks) m;have k:Inv X a j (upd H f.objs.size (.tup ys)) {s with heap:=f.push {cls:= .type "tuple",data:= .seq d.toArray}}:=
   Y.laid (t':=s.toks) (λb o e=>LY _ e) (Mf _) (show i7 X.prog X.w _ _ _ (.tup ys)from⟨i,d,g,u9.new _ _⟩)
  exact⟨.ref f.objs.size,_,k,rfl,q _<|Y.fy.fresh<|Mf _⟩
 ·obtain⟨d,g,U,i⟩:=I.tuple O
  exact call_tuple_same U ⟨.ref p,H,I,rfl,q⟩
noncomputable def U5(K:LX)(T:String)(x:V)(H:Hp):Prop:=match x with
 | .str _=>T = "str"
 | .int _=>T = "int"
 | .ref p=>(T = "list"/\∃b,fA K H p b)\/(T = "tuple"/\∃o,K.lookup p=bX o/\o.cls = .type "tuple"/\o.dict=none)\/
  (T = "dict"/\((∃a,H p=bX (.dK a))\/∃a,H p=bX (.dT a)))\/(T = "set"/\∃S n,H p=bX (.set S n))
 | _=>False
theorem uY(I:Inv X pins σ H s)(r:RelV x v)(ty:U5 X.K T x H) :
 s.TypeIs v T/\∀a,v = .ref a->∃Y,s.heap.get? a=bX Y/\Y.dict=none:=by
 cases x with
 | str z=>
  obtain⟨t,rfl⟩:=r;cases (show T = "str" from ty);exact⟨U6 s z t,λ_ e=>nomatch e⟩
 | int i=>
  obtain⟨t,rfl⟩:=r;cases (show T = "int" from ty);exact⟨Tr s i t,λ_ e=>nomatch e⟩
 | ref p=>
  cases r;rcases ty with⟨rfl,l,j⟩ | ⟨rfl,o,O,h,d⟩ | ⟨rfl,O⟩ | ⟨rfl,S,n,O⟩
  ·obtain⟨k,_,g,_⟩:=I.list j
   refine⟨g.isList.typeIs,λa e=>?_⟩;cases e;obtain⟨o,n,e,c,d,_⟩:=g;exact⟨o,e,d⟩
  ·refine⟨⟨o,I.mu p o O,h⟩,λa e=>?_⟩
   cases e;exact⟨o,I.mu _ o O,d⟩
  ·have z : ∃o,s.heap.get? p=bX o/\o.ExactDict:=by
    rcases O with⟨f,O⟩ | ⟨f,O⟩
    ·obtain⟨_,_,_,_,o,_,_,e,b,_⟩:=I.fy p _ O
     exact⟨o,e,b⟩
    ·obtain⟨_,_,_,_,o,_,_,e,b,_⟩:=I.fy p _ O
     exact⟨o,e,b⟩
   obtain⟨o,e,b⟩:=z;refine⟨⟨o,e,b.1⟩,λa U=>?_⟩;cases U;exact⟨o,e,b.2.1⟩
  ·obtain⟨o,_,_,_,e,b,_⟩:=I.fy p _ O
   refine⟨⟨o,e,b.1⟩,λa U=>?_⟩;cases U;exact⟨o,e,b.2.1⟩
 | _=>exact OC ty
noncomputable def UR(K:LX)(T:String)(r:V->List V->Hp->VK->Prop)(to:TE)(t:TA):TE:=λb H Q=>to b H λx a=>U5 K T x a/\t b a λe d=>r x e d Q
variable{o e:eh}{es:List eh}{to:TE}{t:TA}{name:Str}{apos cpos:gB}{T id:String}{r:V->List V->Hp->VK->Prop}
theorem mq(pa:PlainAttrs T)(z:Slot T name id)(C:typeOf (.builtin id)=pure (.type "method_descriptor"))(hm:Uj X id r)(ho:PE X o to)(Z:PA X (e::es) t)
 (J:M1 o name X.env (ej o X.env)=ej o X.env:=by rfl)
 (L:((p8 cpos<|starEach (e::es) X.env).all (λx=> !x.1) && (M3 cpos<|keywordEach [] X.env).all (λx=>x.1.isSome)
   && decide ((e::es).length+([]:List C0).length+(if ([]:List C0).isEmpty then 0 else 1)<30))=cz:=by rfl)
 (M:(apos.endLine==cpos.line)=cz:=by rfl) (hs:ft (e::es) X.env=(dn,ej e X.env)::ft es X.env:=by rfl) (S:(p8 cpos<|starEach es X.env).any (·.1)=dn:=by rfl) :
 PE X (.Call (.Attribute o name apos) (e::es) [] cpos) (UR X.K T r to t):=by
 intro a s b H Q I h;refine wpAny_Call_method_late J L M rfl<|eM (ho a s b H _ I h) λv p k=>?_;obtain⟨x,d,O,U,ty,l⟩:=k;obtain⟨i,j⟩:=uY O U ty;refine⟨T,id,pa,z,C,i,j,?_⟩;have Y:=Z cpos a p b d _ O l;rw[hs]at Y ⊢;refine Calls.callWith_builtin (by show(dn || (p8 cpos<|starEach es X.env).any (·.1))=dn;rw[S]<;>rfl)<|Calls.evalArgs_plain ?_;exact eM Y λw u ⟨y,f,g,n,m⟩=>hm a u b f x y v w Q g U n m
end
noncomputable def P2(X:Cx)(id:String)(r:V->List V->Hp->VK->Prop):Prop:=
 ∀(a:UQ) (s:d7) (e:St) (H:Hp) (x:V) (d:List V) (v:dy) (b:List dy) (Q:VK),Inv X a e H s->RelV x v->eF d b->r x d H Q->
  wpAny (eg X.prog X.w) X.A (call (.builtin id) (v::b)) (EP X a e Q) X.xe s
theorem eF.one : ∀{x:V} {us:List dy},eF [x] us->∃u,us=[u]/\RelV x u
 | _,_,.cons r .nil=>⟨_,rfl,r⟩
theorem eF.two : ∀{x y:V} {us:List dy},eF [x,y] us->∃u v,us=[u,v]/\RelV x u/\RelV y v
 | _,_,_,.cons r (.cons q .nil)=>⟨_,_,rfl,r,q⟩
theorem eF.dropLast(h:eF xs us):eF xs.dropLast us.dropLast:=by
 induction h with
 | nil=>exact .nil
 | cons r t I=>
  cases t with
  | nil=>exact .nil
  | cons q a=>exact .cons r I
theorem eF.eraseIdx : ∀{xs:List V} {us:List dy} (i:Nat),eF xs us->eF (xs.eraseIdx i) (us.eraseIdx i)
 | _,_,_,.nil=> .nil
 | _,_,0,.cons _ t=>t
 | _,_,i+1,.cons r t=> .cons r (eF.eraseIdx i t)
theorem eF.rep(h:eF xs us) : ∀k:Nat,eF (Mb k xs).flatten (Mb k us).flatten
 | 0=> .nil
 | k+1=>by rw[Oq,Oq,Pa,Pa];exact eF.append h<|eF.rep h k
theorem YC{z:Type} : ∀(l:List z) (i:Nat),(l.eraseIdx i).length<=l.length
 | [],_=>Mf _
 | _::_,0=>Rb _
 | _::r,i+1=>Nat.succ_le_succ<|YC r i
theorem JW(its:List dy) : ∀(k:Nat) (acc:List dy),
 SQ (λx1 I=>x1++I) acc.toArray (Mb k its.toArray)=(acc++(Mb k its).flatten).toArray
 | 0,acc=>by simp
 | k+1,acc=>by
  have e:acc.toArray++its.toArray=(acc++its).toArray:=by simp
  have O:(acc++its)++(Mb k its).flatten=acc++(Mb (k+1) its).flatten:=by rw[Oq,Pa,SS]
  rw[<- O,<- JW its k (acc++its),<- e,Oq,List.foldl_cons]
section
variable{X:Cx}{pins:UQ}{σ:St}{H:Hp}{s:d7}{l b:dv}{xs ys zs:List V}
theorem Inv.Dy{its its':List dy}{n:Nat}{f:Array dy->Array dy}{t':Nat}(I:Inv X pins σ H s)(O:H l=bX (.lst xs))
 (e:s.heap.get? l=bX {cls:= .type "list",data:= .seq its.toArray n}) (U:f its.toArray=its'.toArray) (Y:eF ys its') (hz:ys.length<=fh) :
 Inv X pins σ (upd H l<|.lst ys) {s with heap:=s.heap.update l<|MN f,toks:=t'}:=by
 have q:=PySem.IsL.update e f;rw[U]at q;refine I.write (x:=l) (e:=l) (by rw[O];exact trivial) (.inl rfl) (λd u a b=>(MH s.heap (MN f)<|MD a).trans b) ⟨_,q⟩ ?_;exact⟨hz,its',_,Y,q⟩
theorem Inv.TH(I:Inv X pins σ H s)(O:eF ys its)(hz:ys.length<=fh) :
 Inv X pins σ (upd H s.heap.objs.size (.lst ys)) {s with heap:=s.heap.push {cls:= .type "list",data:= .seq its.toArray},toks:=t'}:=
 I.laid (λ_ _ q=>LY _ q) (Mf _) ⟨hz,its,0,O,Ml _ rfl⟩
theorem Inv.fresh(I:Inv X pins σ H s):H s.heap.objs.size=none:=I.fy.fresh<|Mf _
theorem Inv.De(I:Inv X pins σ H s)(O:H l=bX (.lst xs)):xs.length<=fh/\∃(its:List dy) (n:Nat),eF xs its/\xs.length=its.length/\s.heap.get? l=bX {cls:= .type "list",data:= .seq its.toArray n}:=by obtain⟨z,its,n,r,e⟩:=I.fy l _ O;exact⟨z,its,n,r,r.length,e⟩
theorem mJ(h:n<=fh):Ri n=dn:=by unfold Ri;exact decide_eq_false ⋯
end
section
variable{X:Cx}
noncomputable def dJ:V->List V->Hp->VK->Prop:=λx b H Q=>∃l a y,x = .ref l/\b=[y]/\H l=bX (.lst a)/\a.length<fh/\Q .el (upd H l<|.lst<|a++[y])
theorem fw:P2 X "list.append" dJ:=by intro b s m H x j v i Q I U Y h;obtain⟨l,k,y,rfl,rfl,O,g,q⟩:=h;cases U;obtain⟨u,rfl,d⟩:=Y.one;obtain⟨z,a,n,r,f,e⟩:=I.De O;refine z4 F.slot_list_append ⟨_,e,rfl⟩ F.entry_list_append (F.args_list_append_2 _ _) (PySem.list_append l a.toArray n u (by rw[Mi];omega)) ⟨e,?_⟩;refine⟨.el,_,I.Dy (its':=a++[u]) O e ⋯ (r.append (.cons d .nil)) ?_,rfl,q⟩;rw[MW,Oe];omega
noncomputable def AU:V->List V->Hp->VK->Prop:=λx b H Q=>∃l a i k y,x = .ref l/\b=[.int i]/\H l=bX (.lst a)/\ -(2 ^ 63)<=i/\i<2 ^ 63/\seqIndex? i a.length=bX k/\a[k]? = bX y/\Q y (upd H l<|.lst<|a.eraseIdx k)
theorem mN:P2 X "list.pop" AU:=by
 intro b s G H x E v C Q I U Y h;obtain⟨l,B,i,k,y,rfl,rfl,O,f,g,j,p,q⟩:=h;cases U;obtain⟨u,rfl,A⟩:=Y.one;obtain⟨t,rfl⟩:=A;obtain⟨z,a,n,r,m,e⟩:=I.De O;obtain⟨w,o,d⟩:=r.get p;refine z4 F.slot_list_pop ⟨_,e,rfl⟩ F.entry_list_pop (F.args_list_pop_2 _ _)
  (MeetsSeq.list_pop_at l a.toArray n i t k w (fitsIndex_both f g) (by rw[Mi,<- m];exact j) (by rw[<- Array.getElem?_toList];exact o)<|by rw[Mi];omega) ⟨e,?_⟩
 refine⟨y,_,I.Dy (its':=a.eraseIdx k) O e ?_ (r.eraseIdx k) ?_,d,q⟩
 ·show a.toArray.eraseIdxIfInBounds k=(a.eraseIdx k).toArray
  rw[List.eraseIdxIfInBounds_toArray]
 ·have:=YC B k
  omega
noncomputable def Lh:R2:=λx y H Q=>∃l k a,x = .ref l/\y = .int k/\H l=bX (.lst a)/\ -(2 ^ 63)<=k/\k<2 ^ 63/\a.length*k.toNat<=fh/\
 ∀p,H p=none->Q (.ref p) (upd H p<|.lst (Mb k.toNat a).flatten)
theorem VL(xs:List α)(k:Nat):(Mb k xs).flatten.length=k*xs.length:=by
 induction k with
 | zero=>simp
 | succ k I=>rw[Oq,Pa,MW,I,Sf,P7]
theorem BF:ij X (t8 .Mult) Lh:=by
 intro f s M H x y v u Q I Y G h;obtain⟨l,k,L,rfl,rfl,C,A,B,d,q⟩:=h;cases Y;obtain⟨t,rfl⟩:=G;obtain⟨z,b,n,r,E,e⟩:=I.De C;have g:b.toArray.size*k.toNat<=fh:=by rw[Mi,<- E];exact d
 have i : ¬b.toArray.size*k.toNat>(2 ^ 63 - 1)/8:=by
  have:(fh:Nat)<=(2 ^ 63 - 1)/8:=by decide
  omega
 have j : ¬(!Builtin.List.listFitsIndex k)=cz:=by rw[fitsIndex_both A B];exact MO
 have o : ¬Ri (b.toArray.size*k.toNat)=cz:=by rw[mJ g];exact MO
 have p:SQ (λx1 O=>x1++O) #[] (Mb (if b.toArray.isEmpty=cz then 0 else k.toNat) b.toArray)=(Mb k.toNat b).flatten.toArray:=by
  have w : ∀m:Nat,SQ (λx1 O=>x1++O) #[] (Mb m b.toArray)=(Mb m b).flatten.toArray:=λm=>by have:=JW b m [];rw[PF]at this;exact this
  rw[w];cases b with
  | nil=>simp
  | cons a K=>rw[UY ⋯]
 refine Y' (T:="list") (U:="int") ⋯ ⟨_,e,rfl⟩ (λJ=>Tr J k t) noFill_list_mul F.fills_int_mul So repeat_list F.slot_int_index.lookup
  (z4 So (Tr s k t) F.entry_int_rmul (F.args_int_rmul_2 _ _) (int___rmul___int_list k t l b.toArray n)
    ⟨e,rfl,⟨_,e,rfl⟩,z4 F.slot_list_mul ⟨_,e,rfl⟩ F.entry_list_mul (F.args_list_mul_2 _ _) (AutoListH.list___mul___list_int_3 l b.toArray n k t j i o) ⟨e,?_⟩⟩)
 rw[p];exact⟨.ref _,_,I.TH (t':=s.toks) (r.rep k.toNat) (by rw[VL,Ox];exact d),rfl,q _ I.fresh⟩
end
end L2
namespace Att
open PySem PySem.W PySem.Calls PyProof.Rows
theorem JP : ∀(z:List Int) (vs:List dy),WellAll P h vs (z.map WData.int)->L9 vs z:=by
 intro z
 induction z with
 | nil=>
  intro vs w;rw[RY]at w;cases w;exact .nil
 | cons n z I=>
  intro vs w;rw[MI]at w;cases w with
  | cons a b=>
   cases a;exact .cons _ _<|I _ b
theorem df{l:OpenLaw}{n:Nat}(J:l.most=bX n){P:Params}{h:e9}{args:List WData}{U:List dy}
 (Y:l.row.toRowW.claim.pre args=cz) (C:WellAll P h U args) :
 ∃a vs z,U=[Nr a]/\args=[WData.list (z.map WData.int)]/\h.get? a=bX {cls:= .type "list",data:= .seq vs.toArray}/\L9 vs z/\z.length<=n:=by
 have e:WShape.hasAll [] args [.list .int]=cz:=(pre_splitW Y).1;have b:l.pre.holds [] {args:=args}=cz:=(pre_splitW Y).2;obtain⟨d,r,rfl,i,j⟩:=hasAllW_cons e;obtain rfl:=hasAllW_nil j;obtain⟨t,rfl,k⟩:=hasW_list i;obtain⟨z,rfl⟩:=items_int k;have f:z.length<=n:=by
  unfold OpenLaw.pre at b;have I:(WTm.not<|.lt (.lit<|.int (n:Int))<|.len<|.arg 0).holds [] {args:=[.list (z.map .int)]}=cz:=by have I:=(holds_andW b).1;rw[J]at I;exact I
  have O:=condW_of I<|w_not<|w_lt w_lit<|w_len_list<|w_arg rfl;rw[Mq]at O;refine Nat.le_of_not_lt λq=>?_;have o:(n:Int)<((z.length:Nat):Int):=by omega
  first
   | (rw[decide_eq_true o]at O;exact absurd O ⋯)
   | (simp at O;omega)
 cases C with
 | cons p s=>
  cases s;cases p with
  | list m g=>exact⟨_,_,z,rfl,rfl,m,JP z _ g,f⟩
theorem eD(l:OpenLaw)(args:List WData):l.row.toRowW.claim.post args (.bool cz) args=cz:=
 postW_of (r:=l.row.toRowW) (X:=(cz==cz))
  (show WShape.has [] (.bool cz) .bool=cz by first | rfl | decide | simp[WShape.has,WShape.arms,WShape.armsAll])
  (show(WTm.eq .res<|.lit<|.bool cz).value [] {args:=args,res:=bX (.bool cz),after:=args}=bX (.bool<|true==cz)from w_eq_bool (w_res rfl) w_lit) rfl
theorem uw{l:OpenLaw}{n:Nat}{q:h6}{U:List Str}{XP:(Str->Option dy)->e9->Prop}{YP:g8->e9->Prop}{d:DefRec}
 (hn:l.most=bX n) (a3:d.params.defaults=[])
 (call : ∀(w:g8) (m5 I:d7) (J S:UZ) (C:dv) (o:l6) (Z O z:dy) (a:dv) (vs:List dy) (L:List Int),
   Ground q U [] XP w m5 J S I.heap->YP w I.heap->
   I.heap.get? C=bX o->o.data = .func (docDef d.name d.params d.body d.scope Z O z)->I.heap.CodeRec O d.name->J d.name=bX (.ref C)->
   I.heap.get? a=bX {cls:= .type "list",data:= .seq vs.toArray}->L9 vs L->L.length<=n->I.gens = #[]->
   codeAny (eg l.prog w) DP (.call (.ref C) ⟨[.ref a],[]⟩) (λr M=>r = .ok (.ret<|.bool cz)/\OldK I.heap M.heap/\M.os=I.os/\Dm M.gens) I) :
 WalkO q U XP YP l.row.toRowW d [] (λf vs=>PySem.call f vs):=by
 intro w m5 I J S G Y C o Z O z s kV E y g e h A b H as i K N j P;obtain rfl:s = .none:=Dflts.none e a3;obtain rfl:kV = .none:=Dflts.noKw e;obtain⟨a,vs,L,rfl,rfl,k,m,p⟩:=df hn i j;refine enter_call<|Sx (call w m5 I J S C o Z O z a vs L G Y E (fd_plain y) g h k m p A) λr M F=>?_;obtain⟨rfl,t,u,x⟩:=F;exact⟨.inl ⟨.bool cz,.bool cz,[],rfl,λ_=>rfl,.bool cz,eD l _,λ_=>⟨Pb.nil,λ_ B=>(nomatch B)⟩⟩,t,u,x⟩
end Att
namespace L2
open PySem PySem.Spec PyProof.Rows
theorem wg : ∀{vs:List dy} {z:List Int},L9 vs z->eF (z.map V.int) vs
 | _,_,.nil=> .nil
 | _,_,.cons n t h=> .cons ⟨t,rfl⟩ (wg h)
def EZ(H:Hp):Prop:=∀b,H b=none\/∃o a,H b=bX (.rq o<|.lst a)
theorem mU{P:h6}{w:g8}{K:LX}{J Z:UZ}{CX:sG}{k:Nat}{S a:dv}{fd:o5}{x:Str}{sp:Sp}{I:d7}{vs:List dy}{L:List Int}
 (KX:K.In I.heap) (a3:I.heap.Ns xg J) (O:I.heap.Ns Us Z) (ab : ∀x:Str,x ≠ "__name__"->Z x=C3 x) (ac:I.heap.NoLimit) (hg:I.gens = #[])
 (M:I.heap.get? a=bX {cls:= .type "list",data:= .seq vs.toArray}) (hi:L9 vs L) (hl:L.length<=fh) (hr:my k DP)
 (F : ∀base:e9,K.In base->base.Ns xg J->o4 P w K J base CX k S fd [x] sp) (am : ∀(s:d7) (u:dy),L6 s fd ⟨[u],[]⟩ [(x,u)])
 (an : ∀H:Hp,EZ H->fA K H a (L.map V.int)->sp [.ref a] H (λv _=>v = .bl cz) λ_ _ _=>False)
 (ap : ∀H e C,CX [] H I (λ_ _ _=>False) e C->False) :
 codeAny (eg P w) DP (.call (.ref S) ⟨[.ref a],[]⟩) (λr C=>r = .ok (.ret<|.bool cz)/\OldK I.heap C.heap/\C.os=I.os/\Dm C.gens) I:=by
 have E:=wg hi;have as:=hi.length;have p : ∀H:Hp,EZ H->fA K H a (L.map V.int)->kA P w H I.heap->(∀b,H b≠none->b=a)->(H a≠none->K.lookup a=none)->
  codeAny (eg P w) DP (.call (.ref S) ⟨[.ref a],[]⟩) (λr C=>r = .ok (.ret<|.bool cz)/\OldK I.heap C.heap/\C.os=I.os/\Dm C.gens) I:=by
  intro H B hS j A hK;have f : ∀{b:dv} {o:l6},I.heap.get? b=bX o->H b=none->(ni I.heap H).get? b=bX o:=λe n=>nh e n;have b5 : ∀{b:dv} {o:l6} {i:Array DictEntry} {U:Nat},I.heap.get? b=bX o->o.data = .dict i U->H b=none:=λ{b o i U} e d=>by
   cases q:H b with
   | none=>rfl
   | some u=>
    have l:b=a:=A b (by rw[q];simp);subst l;rw[M]at e;cases e;have N:Data.seq vs.toArray _=Data.dict i U:=d;cases N
  have a0 : ∀{b:dv} {m:UZ},I.heap.Ns b m->(ni I.heap H).Ns b m:=λ{b m} ⟨o,i,U,e,d,r⟩=>⟨o,i,U,f e<|b5 e d,d,r⟩;have t:K.In (ni I.heap H):=λb o e=>f (KX b o e) (by
   cases q:H b with
   | none=>rfl
   | some u=>
    have l:b=a:=A b (by rw[q];simp);subst l;rw[hK (by rw[q];simp)]at e;cases e)
  have hM:Mod K J (ni I.heap H):=⟨t,a0 a3,⟨Z,a0 O,ab⟩,let ⟨mc,W,X⟩:=ac;⟨mc,a0 W,X⟩⟩;have Q:B7 P w K J (ni I.heap H) DP [] I H:=⟨rfl,hM,λb o e=>tj e,Nat.le_of_eq<|gb _ _,trivial,λb O=>absurd (show b∈([]:List dv)from O) ⋯,j,.of_eq hg⟩;refine Sx ((F _ t<|a0 a3).run DP [] I H ⟨[.ref a],[]⟩ [.ref a] [.ref a] _ _ hr Q (am I<|.ref a) (.cons rfl .nil) (an H B hS)) λr C h=>?_;cases r with
  | error e=>exact(ap H e C h).elim
  | ok T=>
   cases T with
   | next=>exact OC h
   | brk=>exact OC h
   | cont=>exact OC h
   | ret u=>
    obtain⟨v,H',os,g,un,G,r',q⟩:=h;have q':v = .bl cz:=q;subst q';obtain rfl:u=Value.bool cz:=r';refine⟨rfl,OldK.of_keep λb o e=>?_,os,g⟩;cases q:H b with
    | none=>exact un.keep b o e q (by intro z;exact absurd (show b∈([]:List dv)from z) ⋯) ⋯
    | some u=>
     rcases B b with z | ⟨ob,xs,z⟩
     ·rw[q]at z;cases z
     ·have z2:=un.Dw b ob _ z
      obtain⟨y,_⟩:=j b _ z;obtain⟨R,_⟩:=G b _ z2;rw[e]at y;cases y;exact R
 cases hk:K.lookup a with
 | some o=>
  have e:=KX a o hk;rw[M]at e;cases e;refine p (λ_=>none) (λ_=> .inl rfl) (.inr ⟨_,vs.toArray,_,hk,rfl,rfl,rfl,by rw[Mi,as];exact hl,by simpa using E⟩) (λb u z=>by have Y:(none:Option HO)=bX u:=z;cases Y) (λb z=>absurd rfl z) λz=>absurd rfl z
 | none=>
  refine p (λb=>if b=a then bX (.rq {cls:= .type "list",data:= .seq vs.toArray} (.lst (L.map V.int)))else none) (λb=>?_) (.inl (.inr ⟨{cls:= .type "list",data:= .seq vs.toArray},UJ rfl⟩)) (λb u z=>?_) (λb z=>?_) λ_=>hk
  ·by_cases O:b=a
   ·exact .inr ⟨_,_,UJ O⟩
   ·exact .inl<|UY O
  ·by_cases O:b=a
   ·have Y:=(UJ O).symm.trans z
    cases Y;subst O;exact⟨M,by rw[Mq];exact hl,vs,_,E,M⟩
   ·have Y:=(UY O).symm.trans z
    cases Y
  ·by_cases O:b=a
   ·exact O
   ·exact absurd (UY O) z
abbrev Ui{K:LX}{h:e9}(_:K.In h):LX:=K
theorem pw{l:PySem.W.OpenLaw}{n k:Nat}{q:h6}{Z:List Str}{S:(Str->Option dy)->e9->Prop}{I:g8->e9->Prop}{d:DefRec}{K:Params->LX}{CX:g8->sG}{sp:g8->Sp}{x:Str}
 (hn:l.most=bX n) (a2:n<=fh) (a3:d.params.defaults=[]) (hr:my k DP)
 (hY : ∀(w:g8) (h:e9),I w h->(K w.params).In h)
 (F : ∀(w:g8) (z:UZ) (C:dv) (h:e9),(K w.params).In h->h.Ns xg z->z d.name=bX (.ref C)->
   ∃L:o5,(∀(s:d7) (u:dy),L6 s L ⟨[u],[]⟩ [(x,u)])/\
    ∀base:e9,(K w.params).In base->base.Ns xg z->o4 l.prog w (K w.params) z base (CX w) k C L [x] (sp w))
 (a6 : ∀(w:g8) (H:Hp) (a:dv) (J:List Int),J.length<=n->EZ H->fA (K w.params) H a (J.map V.int)->sp w [.ref a] H (λv _=>v = .bl cz) λ_ _ _=>False)
 (a7 : ∀(w:g8) (H:Hp) (s:d7) (e:dy) (M:d7),CX w [] H s (λ_ _ _=>False) e M->False) :
 PySem.W.WalkO q Z S I l.row.toRowW d [] (λf vs=>PySem.call f vs):=by
 refine Att.uw hn a3 λw j i z mb C o pm Q t a vs J G Y X R P m p r O N=>?_;have U:=hY w _ Y;obtain⟨L,E,y⟩:=F w z C _ U G.T.g m;exact mU U G.T.g G.T.b G.T.builtins G.T.nolimit N p r (Np O a2) hr y E (λH A B=>a6 w H a J O A B) λH e M=>a7 w H i e M
theorem Ec{l:PySem.W.OpenLaw}{n k:Nat}{q:h6}{O:List Str}{U:(Str->Option dy)->e9->Prop}{I:g8->e9->Prop}{d:DefRec}{K:Params->LX}{CX:sG}{sp:LX->Sp}{x:Str}
 (hn:l.most=bX n) (Y:n<=fh) (S:d.params.defaults=[]) (hr:my k DP)
 (hY : ∀(w:g8) (h:e9),I w h->(K w.params).In h)
 (F : ∀(w:g8) (z:UZ) (L:dv) (h:e9),(K w.params).In h->h.Ns xg z->z d.name=bX (.ref L)->
   ∃M:o5,(∀(s:d7) (u:dy),L6 s M ⟨[u],[]⟩ [(x,u)])/\
    ∀base:e9,(K w.params).In base->base.Ns xg z->o4 l.prog w (K w.params) z base CX k L M [x] (sp<|K w.params))
 (Z : ∀(K:LX) (H:Hp) (a:dv) (C:List Int),C.length<=n->EZ H->fA K H a (C.map V.int)->sp K [.ref a] H (λv _=>v = .bl cz) λ_ _ _=>False)
 (a4 : ∀(H:Hp) (s:d7) (e:dy) (J:d7),CX [] H s (λ_ _ _=>False) e J->False) :
 PySem.W.WalkO q O U I l.row.toRowW d [] (λf vs=>PySem.call f vs):=
 pw (K:=K) (CX:=λ_=>CX) (sp:=λw=>sp<|K w.params) hn Y S hr hY F (λw H a C b g i=>Z (K w.params) H a C b g i) λ_ H s e J=>a4 H s e J
noncomputable def JZ(s:i3):Arguments:=match s with
 | .FunctionDef _ a _ _ _ _ _ _ _ _=>a
 | _=>{posonlyargs:=[],args:=[],vararg:=none,kwonlyargs:=[],kw_defaults:=[],kwarg:=none,defaults:=[]}
noncomputable def yE(s:i3):List i3:=match s with
 | .FunctionDef _ _ b _ _ _ _ _ _ _=>b
 | _=>[]
noncomputable def jH(s:i3):g9:=match s with
 | .FunctionDef _ _ _ _ _ _ a _ _ _=>a
 | _=>{kind:= .function,names:=[],isGenerator:=dn,isCoroutine:=dn}
abbrev o9:sG:=λ_ _ _ _ _ _=>False
abbrev E0:XK:=λ_ _ _=>False
theorem BB:gY o9 X E0:=λ_ _ _ _ _ _ _ h=>h.elim
structure DI(K:LX)(x qual:Str)(st:i3)(f:dv)(fd:o5):Prop where
 ex : ∃(oc:dy) (od:Option dv) (kV doc pm:dy) (an:Option dv) (Ut ct:dy) (N_:Array (Option dy)),
  fd=PM x qual (JZ st) (yE st) (jH st) .none kV doc pm an Ut ct/\K.lookup f=bX ⟨oc,od,.func fd,N_⟩/\RX K Ut qual=cz
 kp:Rq K (.ref f)=cz
section
variable{P:h6}{w:g8}{K:LX}{mg:UZ}{base:e9}
theorem DI.ok{x qual:Str}{st:i3}{f:dv}{C:o5}{N ps:List Str}{k:Nat}{sp:Sp}(F:DI K x qual st f C)(S:E9 N ps (jH st))(len : ∀vs H Q E,sp vs H Q E->vs.length=ps.length)
 (I : ∀(z:dy) (A:j1) (outer:List m6) (s:d7) (H:Hp) (vs:List V) (Q:VK) (E:XK),my k (A.deeper<|envOfC qual (jH st) s.heap.objs.size f z)->sp vs H Q E->
   ∃t,p6 (ug o9 P w K mg base N qual (jH st) f z A outer s H E).H8 (yE st) t/\t {nx:=λ_ H'=>Q .el H',rt:=Q} (ZM N vs) H):o4 P w K mg base o9 (k+1) f C ps sp:=by
 obtain⟨g,i,kV,a,j,d,z,e,b,rfl,lk,O⟩:=F.ex;refine GD lk O S len λA outer s H vs Q E U Y=>?_;obtain⟨t,h,q⟩:=I z A outer s H vs Q E U Y;exact⟨t,h.H8,q⟩
theorem Cq{x qual:Str}{st:i3}{f:dv}{M:dy}{O J:Option dv}{I:Array (Option dy)}{kV C L z ct:dy}(l:K.lookup f=bX ⟨M,O,.func<|PM x qual (JZ st) (yE st) (jH st) .none kV C L J z ct,I⟩)
 (c:RX K z qual=cz) (k:Rq K (.ref f)=cz):DI K x qual st f (PM x qual (JZ st) (yE st) (jH st) .none kV C L J z ct):=⟨⟨M,O,kV,C,L,J,z,ct,I,rfl,l,c⟩,k⟩
end
def gh(H H':Hp):Prop:=∀b o,H b=bX o->H' b=bX o
theorem gh.refl(H:Hp):gh H H:=λ_ _ h=>h
theorem gh.trans(a:gh H H1)(b:gh H1 H2):gh H H2:=λc o h=>b c o<|a c o h
theorem gh.free(e:gh H H')(h:H' l=Option.none):H l=Option.none:=by
 cases q:H l with
 | none=>rfl
 | some o=>
  rw[e l o q]at h;cases h
theorem gh.seq{K:LX}{H H':Hp}{a:dv}{xs:List V}(e:gh H H')(h:fA K H a xs):fA K H' a xs:=by
 rcases h with(h | ⟨o,h⟩) | h
 ·exact .inl<|.inl<|e _ _ h
 ·exact .inl<|.inr ⟨o,e _ _ h⟩
 ·exact .inr h
noncomputable def KH(cells:List (Str×dv)):List (Str×vk)->List (Str×dv)->List (Str×dv)
 | [],acc=>acc
 | (n,k)::r,acc=>KH cells r<|if k==MP then (match cells.lookup n with | some c=>(n,c)::acc | none=>acc)else acc
theorem vi(f:Str×vk->List (Str×dv)->Sem (ForInStep<|List<|Str×dv))
 (O : ∀name kind U,f (name,kind) U=if kind==MP then (do let a <- cellOf env name;pure (.yield ((name,a)::U)))else pure (.yield U)) :
 ∀(names:List (Str×vk)) (acc:List (Str×dv)),(∀n,(n,MP)∈names->∃c,env.cells.lookup n=bX c)->
  forIn names acc f=(pure (KH env.cells names acc):Sem _)
 | [],acc,_=>by rw[Rz];rfl
 | (n,k)::r,acc,h=>by
  rw[Rp,O];have Y : ∀n,(n,MP)∈r->∃c,env.cells.lookup n=bX c:=λm g=>h m<|Mm _ g;unfold KH;by_cases I:(k==MP)=cz
  ·rw[UJ I,UJ I]
   have d:k=MP:=by simpa using I
   subst d;obtain⟨c,b⟩:=h n Mn;have e:cellOf env n=pure c:=by unfold cellOf;rw[b]
   rw[e,b];exact vi f O r _ Y
  ·rw[UY I,UY I]
   exact vi f O r acc Y
theorem Kt(h : ∀n,(n,MP)∈scope.names->∃c,env.cells.lookup n=bX c) :
 closureFor scope env=pure (KH env.cells scope.names []):=by
 simp only[closureFor];rw[vi (env:=env) _ (λb a I=>by cases hk:a==MP<;>simp[hk]) scope.names [] h];rfl
theorem kZ
 (I:Q {scope:=scope,locals:=s.heap.objs.size,globals:=globals,cells:=rn (s.heap.objs.size+1) scope.names cl,qual:=qual,func:=none,code:=env.code,frame:=env.frame,builtins:=env.builtins}
   {s with heap:=Dz (s.heap.push {cls:= .type "dict",data:= .dict #[]}) scope.names}) :
 wpAny M A (UG scope globals cl [] qual none .none (bX env)) Q E s:=by
 simp only[UG,Option.isSome_some,if_true];refine LV (wpAny_alloc ?_);refine LV (wpAny_layCells _ (λb a cells=>by cases F_:a==OD<;>simp[F_]) _ _ _ _ ?_);rw[show({s with heap:=s.heap.push {cls:= .type "dict",data:= .dict #[]}}:d7).heap.objs.size=s.heap.objs.size+1 from MV ..];exact LV (Mg (Mg I))
theorem WQ : ∀{names:List (Str×vk)} {acc:List (Str×dv)},(n,c)∈KH cells names acc->(n,c)∈acc\/((n,MP)∈names/\cells.lookup n=bX c)
 | [],acc,h=> .inl h
 | (m,k)::r,acc,h=>by
  unfold KH at h;rcases WQ h with g | ⟨h1,h2⟩
  ·clear h
   by_cases I:(k==MP)=cz
   ·rw[UJ I]at g
    have O:k=MP:=by simpa using I
    subst O;cases e:cells.lookup m with
    | none=>rw[e]at g;exact .inl g
    | some U=>
     rw[e]at g;rcases Mj.mp g with g | g
     ·cases g;exact .inr ⟨Mn,e⟩
     ·exact .inl g
   ·rw[UY I]at g;exact .inl g
  ·exact .inr ⟨Mm _ h1,h2⟩
theorem JI : ∀{names:List (Str×vk)} {acc:List (Str×dv)},((acc.lookup n).isSome=cz\/((n,MP)∈names/\(cells.lookup n).isSome=cz))->((KH cells names acc).lookup n).isSome=cz
 | [],acc,h=>by
  rcases h with h | ⟨h,_⟩
  ·exact h
  ·cases h
 | (m,k)::r,acc,h=>by
  unfold KH;apply JI;by_cases I:(k==MP)=cz
  ·rw[UJ I]
   have U:k=MP:=by simpa using I
   subst U;cases e:cells.lookup m with
   | none=>
    rcases h with h | ⟨h1,h2⟩
    ·exact .inl h
    ·rcases Mj.mp h1 with h1 | h1
     ·cases h1;rw[e]at h2;cases h2
     ·exact .inr ⟨h1,h2⟩
   | some Y=>
    dsimp only;by_cases O:n=m
    ·subst O;left;simp
    ·rcases h with h | ⟨h1,h2⟩
     ·left;rw[Nv];split<;>simp_all
     ·rcases Mj.mp h1 with h1 | h1
      ·cases h1;exact absurd rfl O
      ·exact .inr ⟨h1,h2⟩
  ·rw[UY I]
   rcases h with h | ⟨h1,h2⟩
   ·exact .inl h
   ·rcases Mj.mp h1 with h1 | h1
    ·cases h1;exact absurd rfl I
    ·exact .inr ⟨h1,h2⟩
theorem kh : ∀{names:List (Str×vk)} {k:Nat} {acc:List (Str×dv)},(n,c)∈rn k names acc->(n,c)∈acc\/(k<=c/\(n,OD)∈names)
 | [],_,_,h=> .inl h
 | (m,kd)::r,k,acc,h=>by
  unfold rn at h;split at h
  ·rename_i I
   have O:kd=OD:=by simpa using I
   subst O;rcases kh h with h | ⟨h1,h2⟩
   ·rcases Mj.mp h with h | h
    ·cases h;exact .inr ⟨Mf _,Mn⟩
    ·exact .inl h
   ·exact .inr ⟨by omega,Mm _ h2⟩
  ·rcases kh h with h | ⟨h1,h2⟩
   ·exact .inl h
   ·exact .inr ⟨h1,Mm _ h2⟩
theorem yA : ∀{names:List (Str×vk)} {k:Nat} {acc:List (Str×dv)},(∀p∈acc,∀q∈acc,p.2=q.2->p.1=q.1)->(∀p∈acc,p.2<k)->
 ∀p∈rn k names acc,∀q∈rn k names acc,p.2=q.2->p.1=q.1
 | [],_,_,h,_=>h
 | (m,kd)::r,k,acc,h,hl=>by
  unfold rn;split
  ·refine yA (λp I q O e=>?_) (λp I=>?_)
   ·rcases Mj.mp I with rfl | I<;>rcases Mj.mp O with rfl | O
    ·rfl
    ·have U:k=q.2:=e
     exact absurd (U ▸ hl q O)<|Nn _
    ·have U:p.2=k:=e
     exact absurd (U ▸ hl p I)<|Nn _
    ·exact h p I q O e
   ·rcases Mj.mp I with rfl | I
    ·exact NY _
    ·exact Nl<|hl p I
  ·exact yA h hl
theorem J0 : ∀{names:List (Str×vk)} {h:e9} {acc:List (Str×dv)} {n:Str} {c:dv},(n,c)∈rn h.objs.size names acc->(n,c)∈acc\/(Dz h names).IsCell c none
 | [],_,_,_,_,hm=> .inl hm
 | (m,kd)::r,h,acc,n,c,hm=>by
  unfold rn at hm;unfold Dz;split at hm
  ·rename_i I
   rw[UJ I];have e:h.objs.size+1=(h.push {cls:= .type "cell",data:= .cell none}).objs.size:=(MV ..).symm;rw[e]at hm;rcases J0 hm with hm | hm
   ·rcases Mj.mp hm with hm | hm
    ·cases hm
     have O:(h.push {cls:= .type "cell",data:= .cell none}).IsCell h.objs.size none:=⟨{cls:= .type "cell",data:= .cell none},Ml _ rfl,rfl⟩;exact .inr (O.keeps λb o q=>RD _ _ b o q)
    ·exact .inl hm
   ·exact .inr hm
  ·rename_i I
   rw[UY I];exact J0 hm
theorem vC{C:Type}{l:List (Str×C)}(z:(l.map (·.1)).Nodup) : ∀{n:Str} {a:C},(n,a)∈l->l.lookup n=bX a:=by
 induction l with
 | nil=>intro n a h;cases h
 | cons p r I=>
  intro n a h;obtain⟨m,b⟩:=p;rw[MI,NI]at z;rw[Nv];rcases Mj.mp h with h | h
  ·cases h;simp
  ·have O:(n==m)=dn:=by
    have:n≠m:=λe=>z.1 (by rw[<- e];exact MM.mpr ⟨(n,a),h,rfl⟩);simpa using this
   rw[O];exact I z.2 h
theorem vP(scope:g9)(env:m6)(x:Str):(xr scope env).names.lookup x =
 (scope.names.lookup x).map λk=>if (k==MP && env.scope.kind == .function && env.kindOf x==bX .cell)then OD else k:=by
 unfold xr;dsimp only;generalize scope.names=l
 induction l with
 | nil=>rfl
 | cons p r O=>
  obtain⟨n,k⟩:=p;rw[MI];cases hx:x==n with
  | true=>
   have e:x=n:=by simpa using hx
   subst e;rw[Nv,Nv];dsimp only;by_cases I:(k==MP && env.scope.kind == .function && env.kindOf x==bX .cell)=cz
   ·rw[UJ I,beq_self_eq_true];dsimp only[SG];rw[UJ I]
   ·rw[UY I,beq_self_eq_true];dsimp only[SG];rw[UY I]
  | false=>
   have : ∀a,List.lookup x ((n,a)::(r.map λx=>match x with | (n,k)=>if (k==MP && env.scope.kind == .function && env.kindOf n==bX .cell)=cz then (n,OD)else (n,k)))=List.lookup x (r.map λx=>match x with | (n,k)=>if (k==MP && env.scope.kind == .function && env.kindOf n==bX .cell)=cz then (n,OD)else (n,k)):=λa=>by rw[Nv,hx]
   rw[Nv (k:=n),hx];dsimp only;split
   ·rw[this];exact O
   ·rw[this];exact O
noncomputable def wV(scope:g9)(env:m6)(L:dv):m6:=
 {scope:=xr scope env,locals:=L,globals:=env.globals,cells:=rn (L+1) scope.names<|KH env.cells scope.names [],qual:=env.qual,func:=none,code:=env.code,frame:=env.frame,builtins:=env.builtins}
noncomputable def jz(X:Cx)(scope:g9)(I:List Str)(fp:List dv)(z:d7)(C:Hp):Cx:=
 {X with N:=I,m5:=z,FG:=C,env:=wV scope X.env<|z.heap.objs.size+1,outer:=X.stack,stack:=X.stack,ex:=fp,fn:=λx=>scope.names.lookup x==bX .cell,pn:=[],xe:=λ_ _=>False}
structure rb(X:Cx)(scope:g9)(fr:List (Str×Nat)):Prop where
 kind:scope.kind = .function
 nd:(scope.names.map (·.1)).Nodup
 free : ∀p∈scope.names,p.2=MP->X.env.kindOf p.1=bX .cell\/X.env.kindOf p.1=bX .free
 fr : ∀p∈fr,scope.names.lookup p.1=bX .free/\X.N[p.2]? = bX p.1
noncomputable def lF(own:List Str)(z:List (Str×Nat))(C:St):St:=own.map (λ_=>none)++z.map λp=>(C[p.2]?).join
abbrev VI:l6:={cls:= .type "list",data:= .seq #[]}
abbrev pe:l6:={cls:= .type "dict",data:= .dict #[]}
theorem mZ{X:Cx}{L:UQ}{S:St}{M:Hp}{C:d7}{scope:g9}{own:List Str}{J:List (Str×Nat)}{fp:List dv}(I:Inv X L S M C)(ok:rb X scope J)
 (Z : ∀b∈fp,vV X L M b) (as : ∀b∈fp,∃o,C.heap.get? b=bX o) :
 Inv (jz X scope (own++J.map (·.1)) fp C M) [] (lF own J S) (upd M C.heap.objs.size<|.lst []) {C with heap:=Dz ((C.heap.push VI).push pe) scope.names}:=by
 have N:(C.heap.push VI).objs.size=C.heap.objs.size+1:=MV ..;have z2:((C.heap.push VI).push pe).objs.size=C.heap.objs.size+2:=by rw[MV,N]
 have a0 : ∀n c,(n,c)∈KH X.env.cells scope.names []->(n,MP)∈scope.names/\X.env.cells.lookup n=bX c:=λn c h=>(WQ h).resolve_left ⋯;have ab : ∀n c,X.env.cells.lookup n=bX c->c<C.heap.objs.size:=λn c h=>by obtain⟨v,q⟩:=I.cell n c h;exact q.lt
 have P : ∀p∈KH X.env.cells scope.names [],p.2<C.heap.objs.size+1+1:=λp U=>by exact Nl<|Nl<|ab p.1 p.2 (a0 p.1 p.2 U).2
 have hC:(wV scope X.env<|C.heap.objs.size+1).cells=rn (C.heap.objs.size+2) scope.names (KH X.env.cells scope.names []):=rfl;have a : ∀x c,(wV scope X.env<|C.heap.objs.size+1).cells.lookup x=bX c->((x,MP)∈scope.names/\X.env.cells.lookup x=bX c)\/(C.heap.objs.size+2<=c/\(x,OD)∈scope.names):=λx c h=>by
  rcases kh (mem_of_lookup h)with h | h
  ·exact .inl<|a0 x c h
  ·exact .inr h
 have B : ∀x,(x,MP)∈scope.names->∃c,X.env.cells.lookup x=bX c/\(wV scope X.env<|C.heap.objs.size+1).cells.lookup x=bX c:=λx l=>by
  obtain⟨c,d⟩:=I.ok.has x<|ok.free (x,.free) l rfl;have t:((KH X.env.cells scope.names []).lookup x).isSome=cz:=JI<|.inr ⟨l,by rw[d];rfl⟩;have j:=Py scope.names (C.heap.objs.size+2) (KH X.env.cells scope.names [])<|.inr t;obtain⟨H,E⟩:=Oh.mp j;refine⟨c,d,?_⟩;rcases a x H E with⟨_,q⟩ | ⟨_,q⟩
  ·rw[d]at q;cases q;exact E
  ·exact absurd ((vC ok.nd q).symm.trans (vC ok.nd l)) ⋯
 have keep : ∀b o,C.heap.get? b=bX o->(Dz ((C.heap.push VI).push pe) scope.names).get? b=bX o:=λb o e=>
  RD _ _ b o (LY _<|LY _ e)
 have am : ∀b∈fp,b<C.heap.objs.size:=λb O=>by obtain⟨o,e⟩:=as b O;exact Mk e
 have fresh:M C.heap.objs.size=none:=I.fy.fresh<|Mf _;have F : ∀c,C.heap.objs.size<c->(upd M C.heap.objs.size<|.lst []) c=none:=λc d=>by rw[zL (Oo d)];exact I.fy.fresh<|Sh d
 obtain⟨m0,Q⟩ : ∃m,(Dz ((C.heap.push VI).push pe) scope.names).Ns (C.heap.objs.size+1) m:=by have q:=(Heap.Ns.new (C.heap.push VI) (.type "dict")).keeps (λb o e=>RD scope.names _ b o e);rw[N]at q;exact⟨_,q⟩
 refine⟨⟨I.ok.mod,ok.kind,I.ok.glob,I.ok.blt,Rb _,λx y c t j=>?_,λx l=>?_,λx c hf h=>?_,I.ok.hd,I.ok.frames,.inl rfl,λb O=>⟨?_,λx c h z=>?_⟩,λb o e=>I.bs b o e,?_,λb o e O=>?_,λb O hs=>?_,I.stack,I.UO⟩,
  rfl,I.bare,Un.laid keep (Mf _) fresh,⟨m0,Q,λi x v K Y e3=>?_⟩,λx c h=>?_,?_,λx c h=>?_,λp U=>?_,?_,?_⟩
 ·have q:=yA (names:=scope.names) (k:=C.heap.objs.size+2) (acc:=KH X.env.cells scope.names []) (λp U q hq e=>I.ok.inj p.1 q.1 p.2 (a0 _ _ U).2 (by rw[e];exact(a0 _ _ hq).2)) P
  exact q (x,c) (mem_of_lookup t) (y,c) (mem_of_lookup j) rfl
 ·have f:(xr scope X.env).names.lookup x=bX .cell\/(xr scope X.env).names.lookup x=bX .free:=l
  have:scope.names.lookup x=bX .cell\/scope.names.lookup x=bX .free:=by
   rw[vP]at f;cases e:scope.names.lookup x with
   | none=>rw[e]at f;simp at f
   | some k=>
    rw[e]at f;cases k<;>simp at f ⊢
  rcases this with h | h
  ·exact Oh.mp<|Py scope.names _ _<|.inl h
  ·obtain⟨c,_,j⟩:=B x<|mem_of_lookup h;exact⟨c,j⟩
 ·have R:(scope.names.lookup x==bX .cell)=cz:=hf
  have T:scope.names.lookup x=bX .cell:=by simpa using R
  rcases a x c h with⟨q,_⟩ | ⟨q,_⟩
  ·exact absurd ((vC ok.nd q).symm.trans T) ⋯
  ·exact Np (ML _ 2) q
 ·exact Mr<|Nl<|am b O
 ·rcases a x c h with⟨_,q⟩ | ⟨q,_⟩
  ·exact(Z b O).2.2.2.2.1 x c q z
  ·exact absurd (MA (am b O)<|Np (ML _ 2)<|z ▸ q)<|Nn _
 ·exact Np I.ok.A6 I.sz
 ·rcases (Z b O).2.2.2.1 with q | q
  ·exact I.ok.Ht b o e q
  ·exact absurd (MA (Mk e)<|Np I.ok.A6 q)<|Nn _
 ·rcases Mj.mp (I.T4 b hs)with q | q
  ·exact(Z b O).2.1 q
  ·exact(Z b O).2.2.1 q
 ·have hi:i<(own++J.map (·.1)).length:=(Mo.mp K).1
  by_cases s:i<own.length
  ·unfold lF at Y
   rw[Nk (by simpa using s)]at Y;simp[MC,s]at Y
  ·have hj : ∃p,J[i - own.length]? = bX p/\p.1=x/\(S[p.2]?).join=bX v:=by
    unfold lF at Y;have g:(own++J.map (·.1))[i]? = bX x:=K;rw[MY ⋯,MC]at g;rw[MY (by simpa using s),MC,Mq]at Y;cases q:J[i - own.length]? with
    | none=>rw[q]at g;cases g
    | some p=>
     rw[q]at g Y;exact⟨p,rfl,by simpa using g,by simpa using Y⟩
   obtain⟨p,U,W,r⟩:=hj;obtain⟨g1,g2⟩:=ok.fr p<|Nq U;rw[W]at g1 g2;have w:S[p.2]? = bX (bX v):=by
    cases q:S[p.2]? with
    | none=>rw[q]at r;cases r
    | some o=>rw[q]at r;simpa using r
   have G:=ok.free (x,.free) (mem_of_lookup g1) rfl;obtain⟨m,hn,hl⟩:=I.loc;obtain⟨u,ru,lk⟩:=hl p.2 x v g2 w (by rcases G with k | k;exact .inr<|.inl k;exact .inr<|.inr k);refine⟨u,ru,.inr ?_⟩;obtain⟨c,bi,bl⟩:=B x<|mem_of_lookup g1;have bm:C.heap.IsCell c (bX u):=by
    rcases lk with⟨k,_⟩ | ⟨_,H,e,z⟩
    ·rcases G with k' | k'<;>rw[k]at k'<;>cases k'
    ·rw[bi]at e;cases e;exact z
   refine⟨?_,c,bl,bm.keeps keep⟩;show(xr scope X.env).names.lookup x=bX .cell\/(xr scope X.env).names.lookup x=bX .free;rw[vP,g1];dsimp only[SG];split
   ·exact .inl rfl
   ·exact .inr rfl
 ·rcases kh (mem_of_lookup h)with q | q
  ·obtain⟨v,A⟩:=I.cell x c (a0 x c q).2
   exact⟨v,A.keeps keep⟩
  ·have q2:=mem_of_lookup h
   have q3:(x,c)∈rn ((C.heap.push VI).push pe).objs.size scope.names (KH X.env.cells scope.names []):=by rw[z2];exact q2
   rcases J0 q3 with q4 | q4
   ·obtain⟨v,A⟩:=I.cell x c (a0 x c q4).2
    exact⟨v,A.keeps keep⟩
   ·exact⟨none,q4⟩
 ·exact F _<|NY _
 ·rcases a x c h with⟨_,q⟩ | ⟨q,_⟩
  ·rw[zL (Mr<|ab x c q)];exact I.wo x c q
  ·exact F c<|MA (Nl<|NY _) q
 ·exact absurd (show p∈([]:UQ)from U) ⋯
 ·refine I.fy.laid keep (Mf _) ⟨Nh _,[],0,.nil,?_⟩
  exact RD _ _ _ _<|LY _<|Ml _ rfl
 ·show(lF own J S).length=(own++J.map (·.1)).length
  simp[lF]
theorem vM(I:Nat->d7->Prop)
 (J : ∀n s,I n s->wpAny (eg prog w) A (u6 it) (λr O=>match r with
   | none=>R (.ok .next) O
   | some v=>wpAny (eg prog w) A (N1 target it v) (λ_ O=>wpAny (eg prog w) A (t7 target env v) (λ_ Y=>
    wpAny (eg prog w) A (forIn ifs cz λc r=>if r=cz then do let ok <- DS c env (ej c env);pure (RL ok)else pure (RL r)) (λok U=>
     if ok=cz then wpAny (eg prog w) A (ej elt env) (λx z=>
      wpAny (eg prog w) A (call (.builtin "list.append") [acc,x]) (λ_ C=>∃m,m<n/\I m C) (λ_ _=>False) z) (λ_ _=>False) U
     else ∃m,m<n/\I m U) (λ_ _=>False) Y) (λ_ _=>False) O) (λ_ _=>False) O) (λ_ _=>False) s)
 (n:Nat) (h:I n s) :
 codeAny (eg prog w) A (.compLoop (.ListComp elt [⟨target,iter,ifs,0⟩] scope pos) 0 it acc env) R s:=by
 refine codeAny_loop rfl I (λn s j=>?_) n h;show wpAny _ A ((compTurn (.ListComp elt [⟨target,iter,ifs,0⟩] scope pos) 0 it acc env).onRaise (λx=>do noteFrame x env;theTreesLotGoes x)) _ _ s;refine wpAny_noted ?_;rw[compTurn_list];refine LV<|Tf<|LV<|Ot (J n s j) (λr O b=>?_) λ_ _ a=>a.elim;cases r with
 | none=>exact Mg b
 | some v=>
  refine LV<|Ot b (λ_ k i=>?_) λ_ _ a=>a.elim;refine LV<|Ot i (λ_ Y e=>LV<|Ot e (λok U d=>?_) λ_ _ a=>a.elim) λ_ _ a=>a.elim;cases ok with
  | false=>exact Mg ⟨rfl,d⟩
  | true=>
   exact LV<|LV<|Ot d (λx z f=>LV<|Ot f (λ_ C g=>Mg<|Mg ⟨rfl,g⟩) λ_ _ a=>a.elim) λ_ _ a=>a.elim
noncomputable def uS(X:Cx)(z:List eh)(t:TT):Prop:=
 ∀(a:UQ) (s:d7) (b:St) (H:Hp) (Q:Bool->Hp->Prop),Inv X a b H s->t b H Q->
  wpAny (eg X.prog X.w) X.A (forIn z cz λc r=>if r=cz then do let ok <- DS c X.env (ej c X.env);pure (RL ok)else pure (RL r)) (TP X a b Q) X.xe s
def Fh:TT:=λ_ H Q=>Q cz H
theorem XZ:uS X [] Fh:=λ_ _ _ H _ I h=>wpAny_tests_nil ⟨H,I,h⟩
theorem WI(h:PT X c t):uS X [c] t:=λa s b H Q I O=>wpAny_tests_one<|h a s b H Q I O
noncomputable def CW(J:It)(g:TG)(z:TT)(te:TE)(D:dv)(Q:VK)(W:Nat->Nat->List V->St->Hp->Prop):Prop:=
 ∀i m a f H,W i m a f H->H D=bX (.lst a)/\((J.stop i H/\Q (.ref D) H)\/(J.go i H/\a.length<fh/\∀x e,J.B4 i H x e->g x f e λI h=>z I h λb O=>
  if b=cz then te I O λv U=>U D=bX (.lst a)/\∃d,d<m/\W (i+1) d (a++[v]) I (upd U D<|.lst<|a++[v])else ∃d,d<m/\W (i+1) d a I O))
noncomputable def nQ(X:Cx)(z:UQ)(H:Hp)(L:dv):Prop:=
 H L=none/\L≠X.env.locals/\X.m5.heap.objs.size<=L/\(∀x c,X.env.cells.lookup x=bX c->c≠L)/\∀p∈X.pn++z,p.1≠L
theorem nJ
 (hc:X.calm=cz) (I:Inv X pins σ H2 s2) (ok:rb X scope fr) (T:Turn X.prog X.w X.K tg J fp it tn) (st:tn 0 s2.heap) (Y : ∀b∈fp,vV X pins H2 b)
 (hg:PG (jz X scope (own++fr.map (·.1)) fp s2 H2) tg g) (ht:uS (jz X scope (own++fr.map (·.1)) fp s2 H2) ifs tt) (he:PE (jz X scope (own++fr.map (·.1)) fp s2 H2) elt te)
 (hW : ∀D,H2 D=none->∃W:Nat->Nat->List V->St->Hp->Prop,(∃m,W 0 m [] (lF own fr σ) (upd H2 D<|.lst []))/\CW J g tt te D Q W) :
 wpAny (eg X.prog X.w) X.A (newList []) (λacc L=>wpAny (eg X.prog X.w) X.A (UG scope X.env.globals (KH X.env.cells scope.names []) [] X.env.qual none .none (bX X.env)) (λab M=>
  codeAny (eg X.prog X.w) X.A (.compStart (.ListComp elt [⟨tg,iter,ifs,0⟩] scope pos) 0 (.ref it) acc {ab with scope:=xr scope X.env})
   (λr C=>(∃f,r = .ok f)/\∃D H',acc = .ref D/\Inv X pins σ H' C/\Q (.ref D) H'/\(∃m,C.heap.Ns ab.locals m)/\nQ X pins H' ab.locals) M) E L) E s2:=by
 have b0 : ∀b∈fp,∃o,s2.heap.get? b=bX o:=λb O=>by obtain⟨o,e,_⟩:=T.obj 0 _ st b O;exact⟨o,e⟩
 have R:=mZ (own:=own) I ok Y b0;obtain⟨W,⟨m0,w0⟩,cw⟩:=hW _ I.fresh;refine NO<|kZ ?_;have z1:(s2.heap.push VI).objs.size=s2.heap.objs.size+1:=MV ..;show codeAny _ _ (.compStart _ 0 (.ref it) (.ref s2.heap.objs.size) {scope:=xr scope X.env,locals:=(s2.heap.push VI).objs.size,globals:=X.env.globals,cells:=rn ((s2.heap.push VI).objs.size+1) scope.names<|KH X.env.cells scope.names [],qual:=X.env.qual,func:=none,code:=X.env.code,frame:=X.env.frame,builtins:=X.env.builtins})
  (λr C=>(∃f,r = .ok f)/\∃D H',Nr s2.heap.objs.size = .ref D/\Inv X pins σ H' C/\Q (.ref D) H'/\(∃m,C.heap.Ns (s2.heap.push VI).objs.size m)/\nQ X pins H' (s2.heap.push VI).objs.size) {s2 with heap:=Dz ((s2.heap.push VI).push pe) scope.names}
 rw[z1];have b5:tn 0 (Dz ((s2.heap.push VI).push pe) scope.names):=T.keep 0 _ _ st λb _ o e=>RD _ _ b o<|LY _<|LY _ e;have c1 : ∀b∈fp,b<s2.heap.objs.size:=λb O=>by obtain⟨o,e⟩:=b0 b O;exact Mk e
 have ac : ∀{H':Hp},(∀b∈fp,H' b=none)->∀b∈fp,vV (jz X scope (own++fr.map (·.1)) fp s2 H2) [] H' b:=λhn b O=>
  ⟨hn b O,(R.ok.M6 b O).1,R.ok.G6 b O,.inl O,(R.ok.M6 b O).2,λp hp=>absurd (show p∈([]:UQ)from hp) ⋯⟩
 have b6:codeAny (eg X.prog X.w) X.A (.compLoop (.ListComp elt [⟨tg,iter,ifs,0⟩] scope pos) 0 (.ref it) (.ref s2.heap.objs.size)<|wV scope X.env<|s2.heap.objs.size+1)
  (λr C=>(∃f,r = .ok f)/\∃D H',Nr s2.heap.objs.size = .ref D/\Inv X pins σ H' C/\Q (.ref D) H'/\(∃m,C.heap.Ns (s2.heap.objs.size+1) m)/\nQ X pins H' (s2.heap.objs.size+1)) {s2 with heap:=Dz ((s2.heap.push VI).push pe) scope.names}:=by
  refine vM (λn C=>∃i B G H',Inv (jz X scope (own++fr.map (·.1)) fp s2 H2) [] G H' C/\tn i C.heap/\(∀b∈fp,H' b=none)/\W i n B G H') ?_ m0
   ⟨0,[],_,_,R,b5,λb O=>by rw[zL (Mr<|c1 b O)];exact(Y b O).1,w0⟩
  rintro n s3 ⟨i,B,a,N,I3,t,b9,w3⟩;obtain⟨hD,c3⟩:=cw i n B a N w3;rcases c3 with⟨y,qn⟩ | ⟨go,hz,step⟩
  ·refine eM (T.done (jz X scope (own++fr.map (·.1)) fp s2 H2) rfl rfl rfl hc i [] s3 a N _ I3 (ac b9) t y) λr s4 U=>?_
   obtain⟨hr,j⟩:=U;subst hr;refine⟨⟨_,rfl⟩,_,N,rfl,I.z_ (ch:=fp) j.os j.base j.fy j.bare<|λb O=>⟨(Y b O).2.2.2.1,(Y b O).2.1,(Y b O).2.2.2.2.1,(Y b O).2.2.2.2.2⟩,qn,?_,j.free,?_,?_,?_,?_⟩
   ·obtain⟨m,hn,_⟩:=j.loc
    exact⟨m,hn⟩
   ·exact Oo<|Nl I.lt
   ·exact RK I.sz
   ·intro x c e z
    obtain⟨v,q⟩:=I.cell x c e;exact absurd (Nl q.lt) (by rw[z];exact Nn _)
   ·intro p hp z
    exact absurd (Nl<|Mk (I.pin p hp).1) (by rw[z];exact Nn _)
  ·refine eM (T.item (jz X scope (own++fr.map (·.1)) fp s2 H2) rfl rfl rfl hc i [] s3 a N _ I3 (ac b9) t go) λr s4 U=>?_
   obtain⟨u,hr,h4⟩:=U;subst hr;refine eM h4 λ_ s5 U=>?_;obtain⟨x,H5,I5,r5,y5,am,ca⟩:=U;have cb:=I5.pinned (ac ca)<|T.obj _ _ am;refine eM (hg _ s5 a H5 x u _ cb r5<|step x H5 y5) λ_ s6 U=>?_;obtain⟨h,H6,I6,q6⟩:=U;refine eM (ht _ s6 h H6 _ I6 q6) λb s7 U=>?_;obtain⟨H7,S,Z⟩:=U;have after : ∀{H:St} {P:Hp} {s:d7},Inv (jz X scope (own++fr.map (·.1)) fp s2 H2) ([]++Yl fp s5.heap) H P s->tn (i+1) s.heap/\∀b∈fp,P b=none:=λ{H P s} k=>by refine⟨T.keep _ _ _ am λb O o e=>(k.pin (b,o)<|Mw _<|Mw _<|vB O e).1,λb O=>?_⟩;obtain⟨o,e,d⟩:=T.obj _ _ am b O;exact(k.pin (b,o)<|Mw _<|Mw _<|vB O e).2.1
   cases b with
   | false=>
    rw[UY MO]at Z ⊢;obtain⟨m',hm,w7⟩:=Z;exact⟨m',hm,i+1,B,h,H7,S.L3,(after S).1,(after S).2,w7⟩
   | true=>
    rw[UJ rfl]at Z ⊢;refine eM (he _ s7 h H7 _ S Z) λv8 s U=>?_;obtain⟨x8,P,k,r8,bf,m',hm,w8⟩:=U;obtain⟨z8,l,n8,rv,cy,e8⟩:=k.De bf;refine z4 F.slot_list_append ⟨_,e8,rfl⟩ F.entry_list_append (F.args_list_append_2 _ _) (PySem.list_append _ l.toArray n8 v8<|by rw[Mi];omega) ⟨e8,?_⟩;have I9:=k.Dy (its':=l++[v8]) (f:=(·.push v8)) (t':=s.toks) bf e8 ⋯ (rv.append<|.cons r8 .nil) (by rw[MW,Oe];omega);exact⟨m',hm,i+1,B++[x8],h,_,I9.L3,(after I9).1,(after I9).2,w8⟩
 exact codeAny_compStart_list b6<|T.self _ 0 _ _ _ b5 b6
noncomputable def cQ(I:TI)(own:List Str)(z:List (Str×Nat))(g:TG)(C:TT)(te:TE):TE:=λb H Q=>I b H λJ a=>∀D,a D=none->
 ∃W:Nat->Nat->List V->St->Hp->Prop,(∃m,W 0 m [] (lF own z b) (upd a D<|.lst []))/\CW J g C te D Q W
section
variable{X:Cx}{scope:g9}{own:List Str}{fr:List (Str×Nat)}{elt tg iter:eh}{ifs:List eh}{pos:gB}{wi:TI}{g:TG}{tt:TT}{te:TE}
theorem aj
 (O:X.calm=cz) (ok:rb X scope fr) (Z:PI X tg iter wi) (U : ∀fp C z,PG (jz X scope (own++fr.map (·.1)) fp C z) tg g)
 (Y : ∀fp C z,uS (jz X scope (own++fr.map (·.1)) fp C z) ifs tt) (S : ∀fp C z,PE (jz X scope (own++fr.map (·.1)) fp C z) elt te)
 (I:Inv X pins σ H s) (h:cQ wi own fr g tt te σ H Q)
 (hR : ∀D H' M L,Inv X pins σ H' M->Q (.ref D) H'->(∃m,M.heap.Ns L m)->nQ X pins H' L->
   compPost (eg X.prog X.w) X.A X.xe use R (.ref D) L (.ok .next) M)
 (hs : ∀x,n7 iter X.env x=pure x:=by intro _;rfl) :
 wpAny (eg X.prog X.w) X.A (comprehension (.ListComp elt [⟨tg,iter,ifs,0⟩] scope pos) scope X.env (firstIterPos [⟨tg,iter,ifs,0⟩] pos) (newList []) dn (ej iter X.env) use) R X.xe s:=by
 refine wpAny_comprehension_free rfl hs (Kt λn a=>I.ok.has n<|ok.free (n,.free) a rfl) ok.kind (λx G e=>by rw[<- e];exact vC ok.nd<|show(x.1,x.2)∈scope.names from G) ?_;refine eM (Z pins s σ H _ I h) λv W l=>eM l λN C o=>?_;obtain⟨P,fp,tn,J,z,e,d,T,i,f2,B⟩:=o;subst e;refine eM (nJ (own:=own) (Q:=Q) (E:=X.xe) O d ok T i f2 (U fp C z) (Y fp C z) (S fp C z) B) λacc s3 p=>eM p λj s4 t=>Sx t λr M u=>?_;obtain⟨⟨f,F⟩,D,H',k,b,q,a,y⟩:=u;subst F;subst k;have K:=hR D H' M j.locals b q a y;cases use<;>exact K
theorem Vt(O:X.calm=cz)(ok:rb X scope fr)(M:PI X tg iter wi)(U : ∀fp C z,PG (jz X scope (own++fr.map (·.1)) fp C z) tg g)
 (Y : ∀fp C z,uS (jz X scope (own++fr.map (·.1)) fp C z) ifs tt) (J : ∀fp C z,PE (jz X scope (own++fr.map (·.1)) fp C z) elt te)
 (hs : ∀x,n7 iter X.env x=pure x:=by intro _;rfl) :
 PE X (.ListComp elt [⟨tg,iter,ifs,0⟩] scope pos) (cQ wi own fr g tt te):=by
 intro a s B H Q I h;rw[eval_ListComp];refine aj (use:=none) O ok M U Y J I h (λD d l L f q k y=>?_) hs;obtain⟨m,j⟩:=k;obtain⟨p,r,t,u,w⟩:=y;refine⟨m,j,λA n=>⟨.ref D,d,f.turned (t':=l.toks) (it:=L) (λb o i e=>n.extBut b o i e) p r (.inr t) u w,rfl,q⟩⟩
theorem Zn(U:X.N.Nodup)(Y:X.N[i]? = bX y)(hy:Loc X.env.scope y)(S:X.fn y=cz\/X.env.scope.names.lookup y=bX .local)
 (J:X.calm=cz) (ok:rb X scope fr) (hi:PI X tg iter wi) (Z : ∀fp C z,PG (jz X scope (own++fr.map (·.1)) fp C z) tg g)
 (ht : ∀fp C z,uS (jz X scope (own++fr.map (·.1)) fp C z) ifs tt) (M : ∀fp C z,PE (jz X scope (own++fr.map (·.1)) fp C z) elt te)
 (hs : ∀x,n7 iter X.env x=pure x:=by intro _;rfl) :
 PS X (.Assign [.Name y py] (.ListComp elt [⟨tg,iter,ifs,0⟩] scope pos) spos) (Wn (cQ wi own fr g tt te)<|yP i):=by
 have O : ∃b:Bool,y6 (.ListComp elt [⟨tg,iter,ifs,0⟩] scope pos) (bX (.Name y py)) spos.line X.env=pure b:=⟨_,rfl⟩;obtain⟨b,O⟩:=O;cases b with
 | false=>
  have w:O0 [.Name y py] (.ListComp elt [⟨tg,iter,ifs,0⟩] scope pos) spos.line X.env=y6 (.ListComp elt [⟨tg,iter,ifs,0⟩] scope pos) (bX (.Name y py)) spos.line X.env:=rfl;exact WH (Vt J ok hi Z ht M hs) (eU U Y hy S) (by rw[w];exact O)
 | true=>
  intro d s σ H D I h;rw[exec_Assign_Name_used _ _ _ _ O];refine LV<|Tf<|LV ?_;show wpAny _ X.A (do let _ <- comprehension (.ListComp elt [⟨tg,iter,ifs,0⟩] scope pos) scope X.env _ (newList []) dn (ej iter X.env) (bX (t7 (.Name y py) X.env))) _ _ s;refine LV<|eM (aj (R:=λ_ f=>SP X d D .next f) (use:=bX (t7 (.Name y py) X.env)) J ok hi Z ht M I h (λj W f L l q F T=>?_) hs) λ_ f q=>Mg<|Mg q;obtain⟨K,k,P,y4,Q⟩:=T;obtain⟨m,E⟩:=F;show wpAny _ _ (t7 (.Name y py) X.env<|.ref j) _ _ _;refine X_<|K5 l U Y hy (v:= .ref j) rfl (λn p r=>?_) S;obtain⟨a,G,B⟩:=r;have t:L≠a:=by
   rcases B with e | e
   ·rw[e];exact k
   ·exact MD<|y4 _ _ e
  refine⟨m,E.sameBut G t,λh' u=>⟨_,_,p.turned (t':=n.toks) (it:=L) (λb o O e=>u.extBut b o O e) K k (.inr P) y4 Q,q⟩⟩
end
inductive Sk where
 | L | T
 deriving DecidableEq
end L2
namespace DL
open PySem L2
inductive D where
 | el | bl (b:Bool) | int (i:Int) | str (x:Str) | tup (xs:List D) | lst (xs:List D)
 | lN (ks vs:List D)
 | i8 (ks:List (List Int)) (vs:List D)
inductive Cell where
 | no | val (d:D) | own (ds:List D) | nest (rows:List (List D))
abbrev Ctx:=List Cell
abbrev CO (a : Type) := Ctx -> Option a
def lim:Nat:=2500
def jx:D->Option (Sk×List D)
 | .tup a=>bX (.T,a)
 | .lst a=>bX (.L,a)
 | _=>none
def zF(f:CO D)(γ:Ctx):Option (Sk×List D):=(f γ).bind jx
def jU(f:CO (List D))(γ:Ctx):Option D:=(f γ).map D.lst
def jS(f:CO (List D))(γ:Ctx):Option (Sk×List D):=(f γ).map λa=>(Sk.L,a)
def gI:Option Cell->Option D
 | some (.val d)=>bX d
 | _=>none
noncomputable def we:Option Cell->Option (Sk×List D)
 | some (.val d)=>jx d
 | some (.own ds)=>bX (.L,ds)
 | _=>none
def ze(i:Nat)(γ:Ctx):Option D:=gI γ[i]?
def zm(i:Nat)(γ:Ctx):Option (Sk×List D):=we γ[i]?
noncomputable def zy(d:D):CO D:=λ_=>bX d
noncomputable def zE(F:D->D->Option D)(z C:CO D)(γ:Ctx):Option D:=(z γ).bind λx=>(C γ).bind λy=>F x y
def wb:D->Option Bool
 | .bl b=>bX b
 | _=>none
def i0:D->Option Int
 | .int i=>bX i
 | _=>none
def sB(f:CO D)(γ:Ctx):Option Bool:=(f γ).bind wb
noncomputable def rR(f g:CO Bool)(γ:Ctx):Option Bool:=(f γ).bind λb=>if b=cz then g γ else bX dn
noncomputable def uK(f g:CO Bool)(γ:Ctx):Option Bool:=(f γ).bind λb=>if b=cz then bX cz else g γ
def k9(f:CO Bool)(γ:Ctx):Option Bool:=(f γ).map λb=> !b
noncomputable def rS(f g:CO D)(γ:Ctx):Option D:=((f γ).bind wb).bind λb=>if b=cz then g γ else bX (.bl dn)
noncomputable def Q_(f g:CO D)(γ:Ctx):Option D:=((f γ).bind wb).bind λb=>if b=cz then bX (.bl cz)else g γ
def Eg(f:CO D)(γ:Ctx):Option D:=((f γ).bind wb).map λb=> .bl (!b)
noncomputable def aN(c:CO Bool)(f g:CO D)(γ:Ctx):Option D:=(c γ).bind λb=>if b=cz then f γ else g γ
def zI:CO (List D):=λ_=>bX []
noncomputable def zb(f:CO D)(g:CO (List D))(γ:Ctx):Option (List D):=(f γ).bind λx=>(g γ).map λr=>x::r
noncomputable def qF(f:CO (List D))(γ:Ctx):Option D:=(f γ).bind λa=>if a.length<=lim then bX (.tup a)else none
noncomputable def j4(f:CO (List D))(γ:Ctx):Option (List D):=(f γ).bind λa=>if a.length<=lim then bX a else none
inductive Res where
 | val (d:D) | own (ds:List D)
inductive Fl where
 | next (γ:Ctx) | brk (γ:Ctx) | cont (γ:Ctx) | ret (r:Res)
def xM(γ:Ctx):Option Fl:=bX (.next γ)
noncomputable def zQ(F G:CO Fl):CO Fl:=λb=>(F b).bind λI=>match I with
 | .next a=>G a
 | f=>bX f
def qp(f:CO D)(γ:Ctx):Option Fl:=(f γ).map λd=> .ret (.val d)
def vX(f:CO (List D))(γ:Ctx):Option Fl:=(f γ).map λd=> .ret (.own d)
noncomputable def V1:Option Cell->Option Fl
 | some (.val d)=>bX (.ret<|.val d)
 | some (.own ds)=>bX (.ret<|.own ds)
 | _=>none
def vK(i:Nat)(γ:Ctx):Option Fl:=V1 γ[i]?
def LK(γ:Ctx):Option Fl:=bX (.brk γ)
def rP(γ:Ctx):Option Fl:=bX (.cont γ)
def Yb:CO Fl:=λ_=>none
noncomputable def l9(k:CO Bool)(F G:CO Fl)(γ:Ctx):Option Fl:=(k γ).bind λb=>if b=cz then F γ else G γ
def jy(i:Nat)(f:CO D)(γ:Ctx):Option Fl:=(f γ).map λd=> .next (γ.set i<|.val d)
noncomputable def qw(i:Nat)(f:CO (List D))(γ:Ctx):Option Fl:=(f γ).map λa=> .next (γ.set i<|.own a)
def rO(f:CO D)(γ:Ctx):Option Fl:=(f γ).map λ_=> .next γ
def jZ:Option Cell->Option (List D)
 | some (.own ds)=>bX ds
 | _=>none
noncomputable def jI(i:Nat)(f:CO D)(γ:Ctx):Option Fl:=(jZ γ[i]?).bind λa=>(f γ).bind λd=>if a.length<lim then bX (.next<|γ.set i<|.own<|a++[d])else none
def z6(n:Nat)(ds:List D):Ctx:=ds.map Cell.val++Mb (n - ds.length) Cell.no
noncomputable def jj(n:Nat)(F:CO Fl)(ds:List D):Option Res:=(F<|z6 n ds).bind λI=>match I with
 | .ret r=>bX r
 | .next _=>bX (.val .el)
 | _=>none
def AM:Res->D
 | .val d=>d
 | .own a=> .lst a
noncomputable def zH(F:List D->Option Res)(g:CO (List D))(γ:Ctx):Option D:=(g γ).bind λa=>(F a).map AM
def uN:Res->Option (List D)
 | .own a=>bX a
 | _=>none
noncomputable def jF(F:List D->Option Res)(g:CO (List D))(γ:Ctx):Option (List D):=(g γ).bind λa=>(F a).bind uN
def xf(lo:Int)(n:Nat):List D:=(LW n).map λ(i:Nat)=>D.int<|lo+(i:Int)
def vI(ds es:List D):List D:=(ds.zip es).map λp=>D.tup [p.1,p.2]
def zV(f:CO (Sk×List D))(γ:Ctx):Option (List D):=(f γ).map (·.2)
def inR(i:Int):Bool:=decide<|i.natAbs<2 ^ 62
noncomputable def zS(f:CO D)(γ:Ctx):Option (List D):=((f γ).bind i0).bind λn=>if inR n=cz then bX (xf 0 n.toNat)else none
noncomputable def ku(f g:CO D)(γ:Ctx):Option (List D):=((f γ).bind i0).bind λm=>((g γ).bind i0).bind λn=>if inR m=cz/\inR n=cz then bX (xf m (n - m).toNat)else none
noncomputable def KF(f g:CO D)(γ:Ctx):Option (List D):=((f γ).bind jx).bind λm=>((g γ).bind jx).map λn=>vI m.2 n.2
inductive Tg where
 | nm (i:Nat) | tp (is:List Nat)
noncomputable def q9:List Nat->List D->Ctx->Ctx
 | i::is,d::ds,γ=>q9 is ds<|γ.set i<|.val d
 | _,_,γ=>γ
noncomputable def qZ:Tg->D->CO Ctx
 | .nm i,d,γ=>bX (γ.set i<|.val d)
 | .tp is,.tup ds,γ=>if ds.length=is.length then bX (q9 is ds γ)else none
 | _,_,_=>none
noncomputable def kD(T:Tg)(F:CO Fl):List D->CO Fl
 | [],a=>bX (.next a)
 | d::e,a=>(qZ T d a).bind λb=>(F b).bind λO=>match O with
  | .next I=>kD T F e I
  | .cont I=>kD T F e I
  | .brk I=>bX (.next I)
  | .ret r=>bX (.ret r)
noncomputable def k3(z:CO (List D))(T:Tg)(F:CO Fl)(γ:Ctx):Option Fl:=(z γ).bind λa=>kD T F a γ
def kK:Cell->Cell
 | .own _=> .no
 | .nest _=> .no
 | c=>c
noncomputable def je(n:Nat)(z:List Nat)(γ:Ctx):Ctx:=Mb n Cell.no++z.map λj=>kK<|γ[j]?.getD .no
noncomputable def zW(T:Tg)(k:CO Bool)(f:CO D)(γ:Ctx):List D->Option (List D)
 | []=>bX []
 | d::ds=>(qZ T d γ).bind λa=>(k a).bind λb=>if b=cz then (f a).bind λe=>(zW T k f γ ds).map λr=>e::r else zW T k f γ ds
noncomputable def zU(z:CO (List D))(T:Tg)(n:Nat)(C:List Nat)(k:CO Bool)(f:CO D)(γ:Ctx):Option (List D):=(z γ).bind λa=>if a.length<=lim then zW T k f (je n C γ) a else none
def js:CO Bool:=λ_=>bX cz
def Tg.idx:Tg->List Nat
 | .nm i=>[i]
 | .tp is=>is
def dI(g:Int->Int->D):D->D->Option D
 | .int i,.int j=>bX (g i j)
 | _,_=>none
noncomputable def G5(c:Int->Int->Bool)(g:Int->Int->D):D->D->Option D
 | .int i,.int j=>if c i j=cz then bX (g i j)else none
 | _,_=>none
def yR:D->D->Option D:=dI λi j=> .int (i - j)
def vT(i j:Int):Bool:=decide (i.natAbs<2 ^ 64) || decide (j.natAbs<2 ^ 64)
def CB(_ j:Int):Bool:=decide (0<j) && decide (j.natAbs<1073741824)
def v9:D->D->Option D:=G5 CB λi j=> .int (i/j)
def EK(_ j:Int):Bool:=decide<|0<j
def q8:D->D->Option D:=G5 EK λi j=> .int (i%j)
noncomputable def CA(i j:Int):Bool:=decide (0<=j) && decide (j.natAbs<=1000000) && decide (i.natAbs<2 ^ 64)
def uf:D->D->Option D:=G5 CA λi j=> .int (i ^ j.toNat)
def D5:D->D->Option D:=dI λi j=> .bl (decide<|i<j)
def wh:D->D->Option D:=dI λi j=> .bl (decide<|i<=j)
def Dt:D->D->Option D:=dI λi j=> .bl (decide<|j<i)
def D4:D->D->Option D:=dI λi j=> .bl (decide<|j<=i)
noncomputable def jJ:D->D->Option D
 | .int i,.int j=>bX (.int<|i+j)
 | .tup xs,.tup ys=>if xs.length+ys.length<=lim then bX (.tup<|xs++ys)else none
 | _,_=>none
noncomputable def xu:D->D->Option D
 | .int i,.int j=>if vT i j=cz then bX (.int<|i*j)else none
 | .tup xs,.int j=>if xs.length*j.toNat<=lim/\inR j=cz then bX (.tup (Mb j.toNat xs).flatten)else none
 | _,_=>none
noncomputable def QI(f g:CO (Sk×List D))(γ:Ctx):Option (List D):=(f γ).bind λa=>(g γ).bind λb=>
 match a.1,b.1 with
 | .L,.L=>if a.2.length+b.2.length<=lim then bX (a.2++b.2)else none
 | _,_=>none
noncomputable def iR(f:CO (Sk×List D))(g:CO D)(γ:Ctx):Option (List D):=(f γ).bind λa=>((g γ).bind i0).bind λj=>
 match a.1 with
 | .L=>if a.2.length*j.toNat<=lim/\inR j=cz then bX (Mb j.toNat a.2).flatten else none
 | _=>none
noncomputable def f6(n:Nat)(i:Int):Option Nat:=if 0<=i/\i<n then bX i.toNat else if i<0/\0<=i+n then bX (i+n).toNat else none
noncomputable def cE(f:CO (Sk×List D))(g:CO D)(γ:Ctx):Option D:=(f γ).bind λa=>((g γ).bind i0).bind λi=>(f6 a.2.length i).bind λk=>a.2[k]?
noncomputable def Jw(i:Nat)(g f:CO D)(γ:Ctx):Option Fl:=(f γ).bind λd=>(jZ γ[i]?).bind λa=>((g γ).bind i0).bind λk=>(f6 a.length k).map λj=> .next (γ.set i<|.own<|a.set j d)
noncomputable def bN(n dflt:Nat):Option Int->Nat
 | none=>dflt
 | some i=>if i<0 then (i+n).toNat else min i.toNat n
noncomputable def nG(xs:List D)(lo z:Option Int):List D:=(xs.drop<|bN xs.length 0 lo).take (bN xs.length xs.length z - bN xs.length 0 lo)
def cg:CO (Option Int):=λ_=>bX none
def rr(f:CO D)(γ:Ctx):Option (Option Int):=((f γ).bind i0).map bX
noncomputable def cf(f:CO D)(l h:CO (Option Int))(γ:Ctx):Option D:=(f γ).bind λd=>(l γ).bind λlo=>(h γ).bind λa=>match d with
 | .tup b=>bX (.tup<|nG b lo a)
 | _=>none
def yO(f:CO (Sk×List D))(γ:Ctx):Option D:=(f γ).map λa=> .int a.2.length
inductive Ty where
 | int | bool | str | tuple | list
 deriving DecidableEq
@[simp] def oW:D->Bool
 | .int _=>cz
 | .bl _=>cz
 | _=>dn
@[simp] def Ci:D->Bool
 | .bl _=>cz
 | _=>dn
@[simp] def oT:D->Bool
 | .str _=>cz
 | _=>dn
@[simp] def oS:D->Bool
 | .tup _=>cz
 | _=>dn
@[simp] def oV:D->Bool
 | .lst _=>cz
 | _=>dn
def tH:Ty->D->Bool
 | .int=>oW
 | .bool=>Ci
 | .str=>oT
 | .tuple=>oS
 | .list=>oV
def Dk(T:Ty)(f:CO D)(γ:Ctx):Option D:=(f γ).map λd=> .bl (tH T d)
def Gv:Ty->Sk->Bool
 | .tuple,.T=>cz
 | .list,.L=>cz
 | _,_=>dn
def LH(T:Ty)(f:CO (Sk×List D))(γ:Ctx):Option D:=(f γ).map λa=> .bl (Gv T a.1)
@[simp] def D_:D->Bool
 | .el=>cz
 | _=>dn
@[simp] noncomputable def eqB(a:Bool):D->Bool
 | .bl b=>a==b
 | .int b=>(if a then 1 else 0)==b
 | _=>dn
@[simp] noncomputable def D'(a:Int):D->Bool
 | .bl b=>a==(if b then 1 else 0)
 | .int b=>a==b
 | _=>dn
@[simp] def Uw(a:Str):D->Bool
 | .str b=>a==b
 | _=>dn
@[simp] def _d(a:Str)(i:Option Int):D->Bool
 | _=>dn
mutual
def lU:D->D->Bool
 | .el,y=>D_ y
 | .bl a,y=>eqB a y
 | .int a,y=>D' a y
 | .str a,y=>Uw a y
 | .tup xs,y=>match y with
  | .tup e=>u0 xs e
  | _=>dn
 | .lst xs,y=>match y with
  | .lst e=>u0 xs e
  | _=>dn
 | .lN a b,y=>match y with
  | .lN c d=>u0 a c && u0 b d
  | _=>dn
 | .i8 a b,y=>match y with
  | .i8 c d=>a==c && u0 b d
  | _=>dn
def u0:List D->List D->Bool
 | [],[]=>cz
 | x::xs,y::ys=>lU x y && u0 xs ys
 | _,_=>dn
end
mutual
def deep:D->Nat
 | .tup a=>A7 a+1
 | .lst a=>A7 a+1
 | _=>0
def A7:List D->Nat
 | []=>0
 | x::xs=>max (deep x)<|A7 xs
end
mutual
def i6:D->Bool
 | .str x=>x.cps.all (· < 0x110000)
 | .lN _ _=>dn
 | .i8 _ _=>dn
 | .tup a=>u5 a
 | .lst a=>u5 a
 | _=>cz
def u5:List D->Bool
 | []=>cz
 | x::xs=>i6 x && u5 xs
end
def m7(d:D):Bool:=decide (deep d<=20) && i6 d
def hG(x y:D):Option D:=if m7 x=cz/\m7 y=cz then bX (.bl<|lU x y)else none
def nr(x y:D):Option D:=if m7 x=cz/\m7 y=cz then bX (.bl<|!lU x y)else none
noncomputable def Cz:D->D->Option D
 | x,.el=>bX (.bl<|match x with | .el=>cz | _=>dn)
 | _,_=>none
def jv(f:CO (Sk×List D))(γ:Ctx):Option D:=(f γ).map λa=> .tup a.2
def XR(f:CO (Sk×List D))(γ:Ctx):Option (List D):=(f γ).map λa=>a.2
noncomputable def Wq:List D->Option Int
 | []=>bX 0
 | .int i::r=>(Wq r).map λs=>i+s
 | _::_=>none
def iP(f:CO (Sk×List D))(γ:Ctx):Option D:=(f γ).bind λa=>(Wq a.2).map D.int
noncomputable def Fd:D->Option Bool
 | .el=>bX dn
 | .bl b=>bX b
 | .int i=>bX (i != 0)
 | _=>none
noncomputable def XG:List D->Option (List Bool)
 | []=>bX []
 | d::r=>(Fd d).bind λb=>(XG r).map λs=>b::s
noncomputable def FJ(f:CO (Sk×List D))(γ:Ctx):Option D:=(f γ).bind λa=>(XG a.2).map λs=> .bl (s.all id)
noncomputable def uL(f:CO (Sk×List D))(γ:Ctx):Option D:=(f γ).bind λa=>(XG a.2).map λs=> .bl (s.any id)
noncomputable def QH(f:CO D)(γ:Ctx):Option D:=(f γ).bind λd=>match d with
 | .int i=>bX (.int i)
 | .bl b=>bX (.int<|if b then 1 else 0)
 | _=>none
noncomputable def iV(f g:CO D)(γ:Ctx):Option D:=((f γ).bind i0).bind λi=>((g γ).bind i0).map λj=> .int (if j>i then j else i)
def rJ(f:CO (Sk×List D))(γ:Ctx):Option Bool:=(f γ).map λa=> !a.2.isEmpty
def iT(f:CO D):CO D:=λa=>((f a).bind i0).map λi=> .int (-i)
noncomputable def ZC(F G:D->D->Option D)(C I J:CO D):CO D:=λa=>(C a).bind λx=>(I a).bind λy=>((F x y).bind wb).bind λb=>if b=cz then (J a).bind λz=>G y z else bX (.bl dn)
def yW(T:Tg)(f:CO D)(γ:Ctx):Option Fl:=(f γ).bind λd=>(qZ T d γ).map .next
def Lp:D->Option Int
 | .tup (.int k::_)=>bX k
 | _=>none
noncomputable def BY:List D->Option (List Int)
 | []=>bX []
 | d::r=>(Lp d).bind λk=>(BY r).map λl=>k::l
def Ia:List Int->Bool
 | a::b::r=>decide (a<b) && Ia (b::r)
 | _=>cz
noncomputable def Lm(ks:List Int):Nat:=(ks.dropLast.filter λk=>decide<|k<ks.getLast?.getD 0).length
noncomputable def Lq(q:Nat)(ds:List D):List D:=ds.dropLast.take q++(ds.drop (ds.length - 1)++ds.dropLast.drop q)
noncomputable def FA(ds:List D):Option (List D):=(BY ds).bind λa=>if (1<=ds.length/\ds.length<=8)/\Ia a.dropLast=cz/\decide (a.getLast?.getD 0∈a.dropLast)=dn then bX (Lq (Lm a) ds)else none
noncomputable def FB(f:CO (Sk×List D))(γ:Ctx):Option (List D):=(f γ).bind λa=>match a.1 with
 | .L=>FA a.2
 | _=>none
def VS:D->Bool
 | .tup _=>dn
 | .lst _=>dn
 | .lN _ _=>dn
 | .i8 _ _=>dn
 | _=>cz
end DL
namespace L2
open PySem PySem.Spec PyProof.Rows
noncomputable def ix(k:Sk)(h:e9)(i l:dv)(n:Nat):Prop:=match k with
 | .L=>h.IsListIter i l n
 | .T=>h.IsTupleIter i l n
noncomputable def lr(k:Sk)(h:e9)(l:dv)(xs:Array dy):Prop:=match k with
 | .L=>h.IsList l xs
 | .T=>h.IsTuple l xs
noncomputable def iS(k:Sk)(l:dv):l6:=match k with
 | .L=>{cls:= .type "list_iterator",data:= .fields #[.ref l,.int 0 0]}
 | .T=>{cls:= .type "tuple_iterator",data:= .fields #[.ref l,.int 0 0]}
theorem ix.at(x:ix k h i l n)(e : ∀o,h.get? i=bX o->h'.get? i=bX o):ix k h' i l n:=by cases k<;>exact let ⟨o,I,r⟩:=x;⟨o,e _ I,r⟩
theorem lr.at(x:lr k h l xs)(e : ∀o,h.get? l=bX o->h'.get? l=bX o):lr k h' l xs:=by cases k<;>exact let ⟨o,I,r⟩:=x;⟨o,e _ I,r⟩
theorem ix.obj(x:ix k h i l n) : ∃o,h.get? i=bX o/\∀v,o.data ≠ .cell v:=by cases k<;>exact let ⟨o,I,_,d⟩:=x;⟨o,I,λv z=>by rw[d]at z;cases z⟩
theorem lr.lt(x:lr k h l xs):l<h.objs.size:=by cases k<;>exact let ⟨o,I,_⟩:=x;Mk I
theorem JN(k:Sk)(h:e9)(l:dv):ix k (h.push<|iS k l) h.objs.size l 0:=by cases k<;>exact⟨_,Ml _ rfl,rfl,rfl⟩
section
variable{prog:h6}{w:g8}{A:j1}{E:EQ}{s:d7}
theorem WZ(I:lr k s.heap l xs)(O:Q (.ref s.heap.objs.size) {s with heap:=s.heap.push (iS k l)}):wpAny (eg prog w) A (N8<|.ref l) Q E s:=by
 cases k
 ·exact Tq I O
 ·exact RM I O
theorem kC(U:ix k s.heap it l i)(Y:lr k s.heap l items)(hx:items[i]? = bX x)
 (z : ∀h',ix k h' it l (i+1)->Pp it s.heap h'->Q x {s with heap:=h'}):wpAny (eg prog w) A (Mv<|.ref it) Q E s:=by
 cases k with
 | L=>exact wpAny_nextOf_list_item U Y hx z
 | T=>
  have O:s.heap.IsTupleIter it l i:=U;obtain⟨o,I,e,a⟩:=id O;obtain⟨g,b,_,f,d⟩:=(show s.heap.IsTuple l items from Y);unfold Mv;refine LV (Nc (name:=MT "__next__") O.typeIs RB (Ny RB O.typeIs C_ ?_ (w_ _)));refine LV (m:=field (.ref it) 0) (Ni I a (x:= .ref l) rfl ?_);show wpAny _ _ (if (Nr l==MS)=cz then _ else _) _ _ s;rw[UY (show ¬((Nr l==MS)=cz)from MO)];refine LV (m:=field (.ref it) 1) (Ni I a (x:= .int i 0) rfl ?_);refine LV (m:=seqItems? (.ref l)) (NX b d ?_);simp only[NM,hx];refine LV (wpAny_setField I a ⋯ (Mg ⟨x,rfl,Mg (z _ ?_ (Pp.update ..))⟩));show Heap.IsTupleIter _ it l (i+1);exact⟨_,Og _ I (Obj.isFreed_of_fields (Up a _)),(Obj.cls_mapFields ..).trans e,by rw[Up a];simp[Di]⟩
theorem wI(I:A.handled=none)(Y:ix k s.heap it l i)(z:lr k s.heap l items)(hx:items[i]? = none)
 (hE : ∀h' e,Heap.ExtBut it s.heap h'->(∃o,h'.get? e=bX o/\o.cls = .type "StopIteration")->E (.ref e) {s with heap:=h'}):wpAny (eg prog w) A (Mv (.ref it)) Q E s:=by
 cases k with
 | L=>exact wpAny_nextOf_list_end I Y z hx hE
 | T=>
  have O:s.heap.IsTupleIter it l i:=Y;obtain⟨o,U,g,b⟩:=id O;obtain⟨j,d,_,h,f⟩:=(show s.heap.IsTuple l items from z);unfold Mv;refine LV (Nc (name:=MT "__next__") O.typeIs RB (Ny RB O.typeIs C_ ?_ (w_ _)));refine LV (m:=field (.ref it) 0) (Ni U b (x:= .ref l) rfl ?_);show wpAny _ _ (if (Nr l==MS)=cz then _ else _) _ _ s;rw[UY (show ¬((Nr l==MS)=cz)from MO)];refine LV (m:=field (.ref it) 1) (Ni U b (x:= .int i 0) rfl ?_);refine LV (m:=seqItems? (.ref l)) (NX d f ?_);simp only[NM,hx];refine LV (Rg (LV (wpAny_setField U b ⋯ ?_)));refine LV (m:=newExc (.type "StopIteration") []) ?_;simp only[newExc,newTuple];refine LV (NO ?_ (by size_fits));refine LV (m:=S6 _ _) (wpAny_of_eq (a:=MS) (by first | rfl | (simp only[S6];rfl)) ?_);refine NO ?_ (by size_fits);simp only[raiseNew];refine LV (wpAny_handled ?_)
  first | rw[show A.in1.handled=none from I] | rw[I]
  exact LV<|Mg<|wpAny_throw<|hE _ _ (((Pp.update ..).extBut.push _).push _) ⟨_,Ml _ rfl,rfl⟩
theorem KI{k1 k2:Sk}{z TI TO C J L M:dv}{n1 n2:Nat}{xs ys:Array dy}{x y a b:dy}{Q:EQ}(D:wa z TI TO C J L M)
 (hz:p5 s.heap z TI TO .none) (S:k0 s.heap TI (.ref C) (.ref J)) (Z:k0 s.heap TO a b)
 (h1:ix k1 s.heap C L n1) (h2:ix k2 s.heap J M n2) (b7:lr k1 s.heap L xs) (b8:lr k2 s.heap M ys) (hx:xs[n1]? = bX x) (hy:ys[n2]? = bX y)
 (hQ : ∀h',p5 h' z TI TO (Di s.heap.objs.size)->k0 h' TO x y->ix k1 h' C L (n1+1)->ix k2 h' J M (n2+1)->k0 h' s.heap.objs.size x y->h'.objs.size=s.heap.objs.size+1->
   (∀c o,c≠z->c≠TO->c≠C->c≠J->s.heap.get? c=bX o->h'.get? c=bX o)->Q (.ref s.heap.objs.size) {s with heap:=h'}) :
 wpAny (eg prog w) A (m8.«zip.__next__» ⟨[.ref z],[]⟩) (λbc s'=>∃v,bc = .done (.ret v)/\Q v s') E s:=by
 refine LV (m:=field (.ref z) 2)<|Ni hz rfl (x:= .bool dn) rfl ?_;refine LV (m:=field (.ref z) 3)<|Ni hz rfl (x:= .ref TI) rfl ?_;refine LV<|NX S rfl ?_;refine LV (m:=ME<|.ref z) ?_;unfold ME;refine LV<|Ni hz rfl (x:= .none) rfl<|Mg ?_;simp only[if_true];refine LV<|Rg<|LV<|Ni hz rfl (x:= .ref TO) rfl ?_;refine LV<|NF hz ⋯ λg1 p O=>?_;replace p:p5 g1 z TI TO .ellipsis:=p;refine LV ?_;simp only[List.zipIdx_cons,List.zipIdx_nil,Rp,Rz];refine LV<|LV<|Th ?_;refine LV (m:=Mv<|.ref C)<|kC (h1.at λo e=>O.extBut _ _ D.i1z e) (b7.at λo e=>O.extBut _ _ D.l1z e) hx λg2 T Y=>Mg ?_;have H:k0 g2 TO a b:=Y.extBut _ _ D.TOi1<|O.extBut _ _ D.TOz Z;refine LV<|NX H rfl<|LV<|SK H λg3 r d=>?_;replace r:k0 g3 TO x b:=r;refine LV<|Sa<|Mg<|LV<|LV<|Th ?_;refine LV (m:=Mv<|.ref J)<|kC (h2.at λo e=>d.extBut _ _ D.TOi2.symm<|Y.extBut _ _ D.i12.symm<|O.extBut _ _ D.i2z e) (b8.at λo e=>d.extBut _ _ D.l2TO<|Y.extBut _ _ D.l2i1<|O.extBut _ _ D.l2z e) hy λg4 W f=>Mg ?_;have K:k0 g4 TO x b:=f.extBut _ _ D.TOi2 r;refine LV<|NX K rfl<|LV<|SK K λI j g=>?_;replace j:k0 I TO x y:=j;refine LV<|Sa<|Mg<|Mg<|LV<|NX j rfl<|LV<|RQ ?_;have i:I.objs.size=s.heap.objs.size:=by rw[g.1,f.1,d.1,Y.1,O.1]
 have N:p5 I z TI TO .ellipsis:=g.extBut _ _ D.TOz.symm (f.extBut _ _ D.i2z.symm (d.extBut _ _ D.TOz.symm (Y.extBut _ _ D.i1z.symm p)));have bl : ∀c o,c≠z->c≠TO->c≠C->c≠J->s.heap.get? c=bX o->I.get? c=bX o:=λc o U l F G e=>g.extBut _ _ l (f.extBut _ _ G (d.extBut _ _ l (Y.extBut _ _ F (O.extBut _ _ U e))));have X:ix k1 I C L (n1+1):=T.at λo e=>g.extBut _ _ D.TOi1.symm (f.extBut _ _ D.i12 (d.extBut _ _ D.TOi1.symm e));have bn:ix k2 I J M (n2+1):=W.at λo e=>g.extBut _ _ D.TOi2.symm e;have as:z<I.objs.size:=Mk N;refine LV (m:=Oa (.ref z) (.ref I.objs.size)) ?_;unfold Oa;have br:p5 (I.push {cls:= .type "tuple",data:= .seq #[x,y]}) z TI TO .ellipsis:=LY _ N;refine LV (NF br ⋯ λg7 t u=>?_);replace t:p5 g7 z TI TO (Di I.objs.size):=t;refine NF t ⋯ λh k B=>?_;replace k:p5 h z TI TO (Di I.objs.size):=k;have n : ∀c o,c≠z->I.get? c=bX o->h.get? c=bX o:=λc o U e=>B.extBut _ _ U (u.extBut _ _ U (LY _ e));have P:k0 h I.objs.size x y:=B.extBut _ _ (Oo as) (u.extBut _ _ (Oo as) (Ml _ rfl));have R:h.objs.size=I.objs.size+1:=by rw[B.1,u.1,MV]
 rw[i]at k P R;refine Mg ⟨_,rfl,?_⟩;show Q (.ref I.objs.size) _;rw[i];exact hQ h k (n _ _ D.TOz j) (X.at λo e=>n _ o D.i1z e) (bn.at λo e=>n _ o D.i2z e) P R λc o U l F G e=>n c o U<|bl c o U l F G e
theorem Wc{k1 k2:Sk}{z TI TO C J L M:dv}{n1 n2:Nat}{xs ys:Array dy}{a b:dy}{Q:Fin->d7->Prop}(hh:A.handled=none)(D:wa z TI TO C J L M)
 (hz:p5 s.heap z TI TO .none) (ak:k0 s.heap TI (.ref C) (.ref J)) (am:k0 s.heap TO a b)
 (Z:ix k1 s.heap C L n1) (h2:ix k2 s.heap J M n2) (S:lr k1 s.heap L xs) (an:lr k2 s.heap M ys) (ap:xs[n1]? = none\/ys[n2]? = none)
 (hE : ∀h' e,(∀c o,c≠z->c≠TO->c≠C->c≠J->s.heap.get? c=bX o->h'.get? c=bX o)->(∃o,h'.get? e=bX o/\o.cls = .type "StopIteration")->E (.ref e) {s with heap:=h'}) :
 wpAny (eg prog w) A (m8.«zip.__next__» ⟨[.ref z],[]⟩) Q E s:=by
 refine LV (m:=field (.ref z) 2) (Ni hz rfl (x:= .bool dn) rfl ?_);refine LV (m:=field (.ref z) 3) (Ni hz rfl (x:= .ref TI) rfl ?_);refine LV (NX ak rfl ?_);refine LV (m:=ME (.ref z)) ?_;unfold ME;refine LV (Ni hz rfl (x:= .none) rfl (Mg ?_));simp only[if_true];refine LV (Rg (LV (Ni hz rfl (x:= .ref TO) rfl ?_)));refine LV (NF hz ⋯ λg1 k I=>?_);replace k:p5 g1 z TI TO .ellipsis:=k;refine LV ?_;simp only[List.zipIdx_cons,List.zipIdx_nil,Rp,Rz];refine LV (LV (Th ?_));have r : ∀{g e:_} {i:l6},p5 g z TI TO .ellipsis->(∀c o,c≠z->c≠TO->c≠C->c≠J->s.heap.get? c=bX o->g.get? c=bX o)->g.get? e=bX i->i.cls = .type "StopIteration"->
  wpAny (eg prog w) A (setField (.ref z) 0 .none) (λ_ F=>E (.ref e) F) E {s with heap:=g}:=λ{g e i} n9 hk U d=>by
  have y:e≠z:=λq=>by subst q;rw[n9]at U;cases U;simp at d
  exact NF n9 ⋯ λg3 _ Y=>hE g3 e (λc o f l j n q=>Y.extBut _ _ f<|hk c o f l j n q) ⟨i,Y.extBut _ _ y U,d⟩
 cases hx:xs[n1]? with
 | none=>
  refine LV (m:=Mv<|.ref C)<|wI hh (Z.at λo e=>I.extBut _ _ D.i1z e) (S.at λo e=>I.extBut _ _ D.l1z e) hx λg2 e O p=>?_;obtain⟨i,U,d⟩:=p;exact r (O _ _ D.i1z.symm k) (λc o f _ j _ q=>O _ _ j<|I.extBut _ _ f q) U d
 | some x=>
  have B:ys[n2]? = none:=by rcases ap with h | h;rw[hx]at h;cases h;exact h
  refine LV (m:=Mv<|.ref C)<|kC (Z.at λo e=>I.extBut _ _ D.i1z e) (S.at λo e=>I.extBut _ _ D.l1z e) hx λg2 G O=>Mg ?_;have t:k0 g2 TO a b:=O.extBut _ _ D.TOi1<|I.extBut _ _ D.TOz am;refine LV<|NX t rfl<|LV<|SK t λg3 H Y=>?_;refine LV<|Sa<|Mg<|LV<|LV<|Th ?_;refine LV (m:=Mv<|.ref J)<|wI hh (h2.at λo e=>Y.extBut _ _ D.TOi2.symm<|O.extBut _ _ D.i12.symm<|I.extBut _ _ D.i2z e) (an.at λo e=>Y.extBut _ _ D.l2TO<|O.extBut _ _ D.l2i1<|I.extBut _ _ D.l2z e) B λK e u p=>?_;obtain⟨i,U,d⟩:=p;exact r (u _ _ D.i2z.symm<|Y.extBut _ _ D.TOz.symm<|O.extBut _ _ D.i1z.symm k) (λc o f l j n q=>u _ _ n<|Y.extBut _ _ l<|O.extBut _ _ j<|I.extBut _ _ f q) U d
end
def kz(a b:dy):l6:={cls:= .type "tuple",data:= .seq #[a,b]}
noncomputable def Ea(TI TO:dv):l6:={cls:= .type "zip",data:= .fields #[.none,.bool dn,.bool dn,.ref TI,.ref TO]}
noncomputable def yT(k1 k2:Sk)(h:e9)(I z:dv):e9:=
 MG (MG (MG (MG (MG h<|iS k1 I)<|iS k2 z)<|kz (.ref h.objs.size)<|.ref<|h.objs.size+1)<|kz .none .none) (Ea (h.objs.size+2)<|h.objs.size+3)
theorem Wb(k1 k2:Sk)(I z:dv)(xs ys:Array dy) :
 F3 (m8.«zip.__new__» ⟨[.type "zip",.ref I,.ref z],[]⟩) (λ_ R s=>lr k1 s.heap I xs/\lr k2 s.heap z ys/\
  R (.ok<|.ret<|.ref<|s.heap.objs.size+4) {s with heap:=yT k1 k2 s.heap I z}):=
 .of_wp λa w A R s h=>by
  obtain⟨O,g,d,U,os⟩:=s;obtain⟨Y,b,h⟩:=h;have j:=sub_zip;have f:lr k1 (Shared.heap ⟨O,g,d,U,os⟩) I xs:=Y;have i:lr k2 (Shared.heap ⟨O.push<|iS k1 I,g,d,U,os⟩) z ys:=b.at λo e=>LY _ e
  wp_walk using WZ f,WZ i
  refine⟨_,rfl,?_⟩;simp only[yT,kz,Ea,MV]at h ⊢;exact h
section
variable{X:Cx}{pins:UQ}{σ:St}{H:Hp}{s:d7}{h':e9}
theorem Inv.Ua{t':Nat}{fp:List dv}{a:dv}{o:HO}(I:Inv X pins σ H s)(k : ∀b u,b∉fp->s.heap.get? b=bX u->h'.get? b=bX u)(Y : ∀b∈fp,vV X pins H b)
 (C:s.heap.objs.size<=a) (new:i7 X.prog X.w (upd H a o) h' a o):Inv X pins σ (upd H a o) {s with heap:=h',toks:=t'}:=by
 have d:H a=none:=I.fy.fresh C;have g : ∀b u,H b=bX u->b∉fp:=λb u e z=>by rw[(Y b z).1]at e;cases e
 have i : ∀b u,s.heap.get? b=bX u->b≠a:=λb u e=>Mr<|MA (Mk e) C;refine I.step (g':=s.gens) (d':=s.drawn) (ch:=fp) (λb O=>⟨(Y b O).2.2.2.1,(Y b O).2.1,(Y b O).2.2.2.2.1,(Y b O).2.2.2.2.2⟩) (λb u _ _ U e _=>k b u U e) (λb u _ _ U e _=>⟨u.slots,k b u U e⟩)
  (λb u _ e n=>by rw[zL (i b u e)];exact n) (λb u U e=>⟨u,k b u U e⟩) (λb h e=>by rw[zL (j8 e d)];exact e) (λb f h e=>by rw[zL (j8 e d)];exact e)
  (λb x e=>⟨#[],by rw[zL (j8 e d),e];simp⟩) (λm p=>?_) (λb u e=>?_) I.bare
 ·obtain⟨f,l,j,t,r⟩:=p
  refine⟨f,l,j,k _ f (λz=>(Y _ z).2.1 rfl) t,r⟩
 ·by_cases O:b=a
  ·subst O;rw[zN]at e;cases e;exact new
  ·rw[zL O]at e
   refine(I.fy b u e).DC (λc v U q=>k c v ?_ q) (λc q=>by rw[zL (j8 q d)];exact q) λc h q=>by rw[zL (j8 q d)];exact q
   rcases U with z | z
   ·rw[z];exact g b u e
   ·exact g c _ z
theorem Inv.zc{t':Nat}{fp:List dv}(I:Inv X pins σ H s)(k : ∀b u,b∉fp->s.heap.get? b=bX u->h'.get? b=bX u)(U : ∀b∈fp,vV X pins H b):Inv X pins σ H {s with heap:=h',toks:=t'}:=by
 have d : ∀b u,H b=bX u->b∉fp:=λb u e z=>by rw[(U b z).1]at e;cases e
 refine I.step (g':=s.gens) (d':=s.drawn) (ch:=fp) (λb Y=>⟨(U b Y).2.2.2.1,(U b Y).2.1,(U b Y).2.2.2.2.1,(U b Y).2.2.2.2.2⟩) (λb u _ _ O e _=>k b u O e) (λb u _ _ O e _=>⟨u.slots,k b u O e⟩)
  (λb u _ e n=>n) (λb u O e=>⟨u,k b u O e⟩) (λb f e=>e) (λb a f e=>e)
  (λb l e=>⟨#[],by rw[e];simp⟩) (λm i=>?_) (λb u e=>?_) I.bare
 ·obtain⟨a,h,g,j,r⟩:=i
  refine⟨a,h,g,k _ a (λz=>(U _ z).2.1 rfl) j,r⟩
 ·refine(I.fy b u e).DC (λc v O q=>k c v ?_ q) (λc q=>q) λc f q=>q
  rcases O with z | z
  ·rw[z];exact d b u e
  ·exact d c _ z
end
noncomputable def i5(k:Sk)(K:LX)(H:Hp)(a:dv)(xs:List V):Prop:=match k with
 | .L=>fA K H a xs
 | .T=>g5 K H a xs
theorem Inv.sq(I:Inv X pins σ H s)(h:i5 k X.K H a xs) :
 ∃its:List dy,eF xs its/\lr k s.heap a its.toArray/\xs.length<=fh:=by
 cases k with
 | L=>obtain⟨its,r,p,z⟩:=I.list h;exact⟨its,r,p.isList,z⟩
 | T=>obtain⟨its,r,p,z⟩:=I.tuple h;exact⟨its,r,p,z⟩
theorem Inv.T3(I:Inv X pins σ H s)(h:i5 k X.K H a xs)(h':i5 k X.K H a ys):xs=ys:=by
 cases k with
 | L=>exact I.TF h h'
 | T=>exact I.U4 h h'
noncomputable def P1(k1 k2:Sk)(K:LX)(a b:dv):It:=
 ⟨λi H=>∃d e,i5 k1 K H a d/\i5 k2 K H b e/\i<d.length/\i<e.length,
  λi H x f=>∃p u v,x = .ref p/\H p=none/\f=upd H p (.tup [u,v])/\(∀d,i5 k1 K H a d->d[i]? = bX u)/\(∀e,i5 k2 K H b e->e[i]? = bX v),
  λi H=>∃d e,i5 k1 K H a d/\i5 k2 K H b e/\(d.length<=i\/e.length<=i)⟩
theorem iz{P:h6}{w:g8}{K:LX}{elts:List eh}{x1:Nat}{r6:gB}(k1 k2:Sk){z TI TO i1 i2 a b:dv}(D:wa z TI TO i1 i2 a b) :
 Turn P w K (.Tuple elts x1 r6) (P1 k1 k2 K a b) [z,TI,TO,i1,i2] z (λi h=>p5 h z TI TO .none/\k0 h TI (.ref i1) (.ref i2)/\(∃c d,k0 h TO c d)/\ix k1 h i1 a i/\ix k2 h i2 b i) where
 mem:=by simp
 obj:=λi h ⟨hz,Y,⟨c,d,a0⟩,h1,h2⟩ y hy=>by
  simp only[Mj,Ms,or_false]at hy;rcases hy with rfl | rfl | rfl | rfl | rfl
  ·exact⟨_,hz,λv q=>by cases q⟩
  ·exact⟨_,Y,λv q=>by cases q⟩
  ·exact⟨_,a0,λv q=>by cases q⟩
  ·exact h1.obj
  ·exact h2.obj
 keep:=λi h h' ⟨hz,Y,⟨c,d,a0⟩,h1,h2⟩ k=>
  ⟨k z ⋯ _ hz,k TI ⋯ _ Y,⟨c,d,k TO ⋯ _ a0⟩,h1.at λo e=>k i1 ⋯ o e,h2.at λo e=>k i2 ⋯ o e⟩
 item:=by
  rintro X hP hw hK hc i pins s σ H E I hf ⟨hz,Y,⟨c,d,a0⟩,h1,h2⟩ ⟨xs,ys,ae,ak,b7,b8⟩;subst hP hw hK;obtain⟨b9,ap,p1,z1⟩:=I.sq ae;obtain⟨bc,ax,p2,z2⟩:=I.sq ak;have hx:xs[i]? = bX xs[i]:=LZ b7;have hy:ys[i]? = bX ys[i]:=LZ b8;obtain⟨u1,be,bf⟩:=ap.get hx;obtain⟨u2,bg,bi⟩:=ax.get hy;have hT:s.TypeIs (.ref z) "zip":=⟨_,hz,rfl⟩;unfold u6;refine LV (OP (Nc (name:=MT "__next__") hT NS (Ny NS hT Pu
   (KI D hz Y a0 h1 h2 p1 p2 (x:=u1) (y:=u2) (by simpa using be) (by simpa using bg) λg a1 a2 a3 a4 a5 a6 a7=>Mg ⟨_,rfl,?_⟩) (Pg _))))
  refine wpAny_letOwnedTupleGo_zip a1 λg2 n9 a8=>?_;have lt : ∀{c o},s.heap.get? c=bX o->s.heap.objs.size≠c:=λe=>Oo<|Mk e;have bv:k0 g2 s.heap.objs.size u1 u2:=a8.extBut _ _ (lt hz) a5;have kk : ∀U u,U ∉ [z,TI,TO,i1,i2]->s.heap.get? U=bX u->g2.get? U=bX u:=λU u O e=>by simp only[Mj,Ms,or_false,not_or]at O;exact a8.extBut _ _ O.1<|a7 U u O.1 O.2.2.1 O.2.2.2.1 O.2.2.2.2 e
  have I1:Inv X pins σ (upd H s.heap.objs.size<|.tup [xs[i],ys[i]]) {s with heap:=g2,toks:=s.toks}:=
   I.Ua (fp:=[z,TI,TO,i1,i2]) kk hf (Mf _) ⟨by show 2<=fh;decide,[u1,u2],.cons bf<|.cons bi .nil,⟨_,bv,rfl,_,rfl⟩⟩
  have c0:H s.heap.objs.size=none:=I.fresh;refine⟨.ref s.heap.objs.size,_,I1,rfl,⟨_,_,_,rfl,c0,rfl,λc7 b0=>by rw[I.T3 b0 ae];exact hx,λc8 b0=>by rw[I.T3 b0 ak];exact hy⟩,?_,λU O=>?_⟩
  ·exact⟨n9,a8.extBut _ _ D.TIz<|a7 _ _ D.TIz D.TITO D.TIi1 D.TIi2 Y,⟨_,_,a8.extBut _ _ D.TOz a2⟩,a3.at λo e=>a8.extBut _ _ D.i1z e,a4.at λo e=>a8.extBut _ _ D.i2z e⟩
  ·have c1:U≠s.heap.objs.size:=by
    simp only[Mj,Ms,or_false]at O;rcases O with rfl | rfl | rfl | rfl | rfl
    ·exact(lt hz).symm
    ·exact(lt Y).symm
    ·exact(lt a0).symm
    ·obtain⟨o,e,_⟩:=h1.obj;exact(lt e).symm
    ·obtain⟨o,e,_⟩:=h2.obj;exact(lt e).symm
   rw[zL c1];exact(hf U O).1
 done:=by
  rintro X hP hw hK hc i pins s σ H E I hf ⟨hz,Y,⟨c,d,a0⟩,h1,h2⟩ ⟨xs,ys,ae,ak,hi⟩;subst hP hw hK;obtain⟨b9,ap,p1,z1⟩:=I.sq ae;obtain⟨bc,ax,p2,z2⟩:=I.sq ak;have hT:s.TypeIs (.ref z) "zip":=⟨_,hz,rfl⟩;have l1:=ap.length;have l2:=ax.length;unfold u6;refine LV (OP (Nc (name:=MT "__next__") hT NS (Ny NS hT Pu
   (Wc (show X.A.handled=none from I.ok.hd hc) D hz Y a0 h1 h2 p1 p2 (by rcases hi with q | q;left;simp;omega;right;simp;omega) λg e hk he=>?_) (Pg _))))
  obtain⟨o,ho,c5⟩:=he;refine LV (Sl (T:="StopIteration") (b:=cz) ⟨o,ho,c5⟩ SN (Mg ⟨rfl,?_⟩));refine I.zc (t':=s.toks) (fp:=[z,TI,TO,i1,i2]) (λU u O e=>?_) hf;simp only[Mj,Ms,or_false,not_or]at O;exact hk U u O.1 O.2.2.1 O.2.2.2.1 O.2.2.2.2 e
 self:=λ_ _ _ _ _ st h=>Tu st.1 h
noncomputable def Lr(K:LX)(z:TA):TI:=λj H R=>z j H λg d=>∃e f a b,g=[.ref a,.ref b]/\(∃h,i5 e K d a h)/\(∃i,i5 f K d b i)/\R (P1 e f K a b) d
theorem Bo{X:Cx}{J O:eh}{M:TA}{p pos:gB}{z:List eh}{x1:Nat}{C:gB}(hg:Gl X "zip")(hm:X.mg "zip" = none)(ha:PA X [J,O] M)
 (hv:C3 "zip" = bX (.type "zip")) (hs:ft [J,O] X.env=[(dn,ej J X.env),(dn,ej O X.env)]:=by rfl) (L:ft [O] X.env=[(dn,ej O X.env)]:=by rfl) :
 PI X (.Tuple z x1 C) (.Call (.Name "zip" p) [J,O] [] pos) (Lr X.K M):=by
 intro j s E H R I h;refine DF (kO I hg hm hv<|Na (eM (ha pos j s E H _ I h) λus d Z=>?_) (by rw[hs,L])<|by rw[L];rfl);obtain⟨vs,r,U,r1,q1⟩:=Z;obtain⟨f,g,a,b,e,⟨xs,N⟩,⟨ys,P⟩,q⟩:=q1;subst e;obtain⟨w1,w2,W,as,Q⟩:=iw r1;subst W;cases as;cases Q;obtain⟨S,bf,w,z1⟩:=U.sq N;obtain⟨T,bi,x,z2⟩:=U.sq P;have la:=w.lt;have lb:=x.lt;refine callType_new F.called_zip ⋯ (F.typeCall_zip_2 _ _) (F.newCall_zip_2 _ _) (λobj=>F.args_object_init_3 obj _ _) F.entry_zip_new (Wb f g a b S.toArray T.toArray) ⟨w,x,?_⟩;have keep : ∀c o,d.heap.get? c=bX o->(yT f g d.heap a b).get? c=bX o:=λc o e=>
  LY _ (LY _<|LY _<|LY _<|LY _ e)
 have y:(MG d.heap<|iS f a).objs.size=d.heap.objs.size+1:=MV ..;have A:(MG (MG d.heap<|iS f a)<|iS g b).objs.size=d.heap.objs.size+2:=by rw[MV,y]
 have B:(MG (MG (MG d.heap<|iS f a)<|iS g b)<|kz (.ref d.heap.objs.size)<|.ref<|d.heap.objs.size+1).objs.size=d.heap.objs.size+3:=by rw[MV,A]
 have y4:(MG (MG (MG (MG d.heap<|iS f a)<|iS g b)<|kz (.ref d.heap.objs.size)<|.ref<|d.heap.objs.size+1)<|kz .none .none).objs.size=d.heap.objs.size+4:=by rw[MV,B]
 have g0:ix f (yT f g d.heap a b) d.heap.objs.size a 0:=(JN f d.heap a).at λo e=>LY _<|LY _<|LY _<|LY _ e;have g1:ix g (yT f g d.heap a b) (d.heap.objs.size+1) b 0:=by have q:=JN g (MG d.heap<|iS f a) b;rw[y]at q;exact q.at λo e=>LY _<|LY _<|LY _ e
 have g2:k0 (yT f g d.heap a b) (d.heap.objs.size+2) (.ref d.heap.objs.size) (.ref<|d.heap.objs.size+1):=by have q:_=bX (kz (.ref d.heap.objs.size)<|.ref<|d.heap.objs.size+1):=Ml (MG (MG d.heap<|iS f a)<|iS g b) (o:=kz (.ref d.heap.objs.size)<|.ref<|d.heap.objs.size+1) rfl;rw[A]at q;exact LY _<|LY _ q
 have g3:k0 (yT f g d.heap a b) (d.heap.objs.size+3) .none .none:=by have q:_=bX (kz .none .none):=Ml (MG (MG (MG d.heap<|iS f a)<|iS g b)<|kz (.ref d.heap.objs.size)<|.ref<|d.heap.objs.size+1) (o:=kz .none .none) rfl;rw[B]at q;exact LY _ q
 have l:p5 (yT f g d.heap a b) (d.heap.objs.size+4) (d.heap.objs.size+2) (d.heap.objs.size+3) .none:=by have q:=Ml (MG (MG (MG (MG d.heap<|iS f a)<|iS g b)<|kz (.ref d.heap.objs.size)<|.ref<|d.heap.objs.size+1)<|kz .none .none) (o:=Ea (d.heap.objs.size+2)<|d.heap.objs.size+3) rfl;rw[y4]at q;exact q
 refine⟨⟨_,l,rfl⟩,Tu (s:={d with heap:=yT f g d.heap a b}) l ?_⟩;have G:Inv X j E r {d with heap:=yT f g d.heap a b,toks:=d.toks}:=U.kept keep;have nn : ∀m:Nat,d.heap.objs.size≠d.heap.objs.size+m+1:=λm=>by omega
 have Y : ∀m:Nat,a≠d.heap.objs.size+m:=λm=>Mr<|MA la<|ML _ m;have k : ∀m:Nat,b≠d.heap.objs.size+m:=λm=>Mr<|MA lb<|ML _ m;have i : ∀m n:Nat,m≠n->(d.heap.objs.size+m:Nat)≠d.heap.objs.size+n:=λm n h=>by omega
 have D:wa (d.heap.objs.size+4) (d.heap.objs.size+2) (d.heap.objs.size+3) d.heap.objs.size (d.heap.objs.size+1) a b:=
  ⟨i 2 4 ⋯,i 3 4 ⋯,i 0 4 ⋯,i 1 4 ⋯,i 2 3 ⋯,i 2 0 ⋯,i 2 1 ⋯,i 3 0 ⋯,i 3 1 ⋯,i 0 1 ⋯,
   Y 4,Y 3,Y 0,Y 1,k 4,k 3,k 0,k 1⟩
 refine⟨_,[d.heap.objs.size+4,d.heap.objs.size+2,d.heap.objs.size+3,d.heap.objs.size,d.heap.objs.size+1],_,_,r,rfl,G,iz f g D,⟨l,g2,⟨_,_,g3⟩,g0,g1⟩,λc u=>?_,q⟩;have t:d.heap.objs.size<=c:=by
  simp only[Mj,Ms,or_false]at u;rcases u with rfl | rfl | rfl | rfl | rfl
  ·exact ML _ _
  ·exact ML _ _
  ·exact ML _ _
  ·exact Mf _
  ·exact ML _ _
 exact U.A8 t<|U.fy.fresh t
def Ue(k:Sk)(K:LX)(a:dv):It:=match k with
 | .L=>Ug K a
 | .T=>Uh K a
noncomputable def Ls(K:LX)(z:TE):TI:=λe H R=>z e H λx b=>∃a k,x = .ref a/\(∃d,i5 k K b a d)/\R (Ue k K a) b
theorem eO(Y:PE X l tl):PI X tg l (Ls X.K tl):=by
 intro d s u H R I h;refine eM (Y d s u H _ I h) λv f i=>?_;obtain⟨x,g,O,t,r⟩:=i;obtain⟨a,k,e,⟨z,m⟩,q⟩:=r;subst e;cases t;have U : ∀b ∈ [f.heap.objs.size],vV X d g b:=λb j=>by
  have e:b=f.heap.objs.size:=by simpa using j
  subst e;exact O.A8 (Mf _)<|O.fy.fresh<|Mf _
 obtain⟨n,y,p,w⟩:=O.sq m;cases k with
 | L=>exact Tq p ⟨f.heap.objs.size,[f.heap.objs.size],_,_,g,rfl,O.kept (t':=f.toks) λb o e=>LY _ e,cJ a _,⟨_,Ml _ rfl,rfl,rfl⟩,U,q⟩
 | T=>exact RM p ⟨f.heap.objs.size,[f.heap.objs.size],_,_,g,rfl,O.kept (t':=f.toks) λb o e=>LY _ e,aB a _,⟨_,Ml _ rfl,rfl,rfl⟩,U,q⟩
end L2
namespace DL
open PySem PySem.Spec PyProof.Rows L2
noncomputable def Vg(z:dv)(b:Bool)(TI TO:dv):l6:={cls:= .type "zip",dict:=none,data:= .fields #[Di z,.bool b,.bool dn,.ref TI,.ref TO],slots:=#[]}
section
variable{prog:h6}{w:g8}{A:j1}{E:EQ}{s:d7}
theorem KJ{z C TI TO:dv}{b:Bool}{O:l6}{Q:Bool->d7->Prop}(hz:s.heap.get? z=bX (Vg C b TI TO))(J:s.heap.get? C=bX O)
 (I : ∀h',h'.get? z=bX (Vg C cz TI TO)->Pp z s.heap h'->Q dn {s with heap:=h'}):wpAny (eg prog w) A (ME<|.ref z) Q E s:=by
 unfold ME;refine LV<|Ni hz rfl (x:=Di C) rfl ?_;show wpAny _ _ (loadIfAlive ((C:Int).toNat) >>= _) _ _ _;rw[NM];refine LV<|PySem.W.kdx_alive J ?_;simp only[Option.isNone_some,Nf,if_false];refine LV<|Ni hz rfl (x:= .bool b) rfl ?_;cases b with
 | true=>
  rw[UY ⋯];exact Mg<|I _ hz ⟨rfl,λ_ _=>rfl⟩
 | false=>
  rw[UJ ⋯];refine LV<|NF hz ⋯ λg U a=>?_;exact Mg<|I g U a
theorem cv{k1 k2:Sk}{z TI TO C J Y M L:dv}{b:Bool}{oa:l6}{n1 n2:Nat}{xs ys:Array dy}{x y:dy}{Q:EQ}(D:wa z TI TO C J Y M)
 (hz:s.heap.get? z=bX (Vg L b TI TO)) (ha:s.heap.get? L=bX oa) (S:k0 s.heap TI (.ref C) (.ref J))
 (h1:ix k1 s.heap C Y n1) (h2:ix k2 s.heap J M n2) (Z:lr k1 s.heap Y xs) (a5:lr k2 s.heap M ys) (hx:xs[n1]? = bX x) (hy:ys[n2]? = bX y)
 (hQ : ∀h',h'.get? z=bX (Vg L cz TI TO)->ix k1 h' C Y (n1+1)->ix k2 h' J M (n2+1)->k0 h' s.heap.objs.size x y->h'.objs.size=s.heap.objs.size+1->
   (∀c o,c≠z->c≠C->c≠J->s.heap.get? c=bX o->h'.get? c=bX o)->Q (.ref s.heap.objs.size) {s with heap:=h'}) :
 wpAny (eg prog w) A (m8.«zip.__next__» ⟨[.ref z],[]⟩) (λa8 s'=>∃v,a8 = .done (.ret v)/\Q v s') E s:=by
 refine LV (m:=field (.ref z) 2)<|Ni hz rfl (x:= .bool dn) rfl ?_;refine LV (m:=field (.ref z) 3)<|Ni hz rfl (x:= .ref TI) rfl ?_;refine LV<|NX S rfl ?_;refine LV (m:=ME<|.ref z)<|KJ hz ha λg1 f I=>?_;simp only[Nf,if_false];rw[show(#[Nr C,Nr J]:Array dy)=[Nr C,Nr J].toArray from rfl,SI];simp only[Rp,Rz];refine LV<|LV<|LV ?_;refine LV (m:=Mv<|.ref C)<|kC (h1.at λo e=>I.extBut _ _ D.i1z e) (Z.at λo e=>I.extBut _ _ D.l1z e) hx λg2 g U=>Mg ?_;refine Mg<|LV<|LV<|NT ?_;refine LV (m:=Mv<|.ref J)<|kC (h2.at λo e=>U.extBut _ _ D.i12.symm<|I.extBut _ _ D.i2z e) (a5.at λo e=>U.extBut _ _ D.l2i1<|I.extBut _ _ D.l2z e) hy λO h a=>Mg ?_;refine Mg<|Mg ?_;have hsz:O.objs.size=s.heap.objs.size:=by rw[a.1,U.1,I.1]
 refine LV (RQ (hsz:=by show 2<=fh;decide) ?_);refine Mg ⟨_,rfl,?_⟩;show Q (.ref O.objs.size) _;rw[hsz];have d : ∀c o,O.get? c=bX o->(O.push {cls:= .type "tuple",data:= .seq #[x,y]}).get? c=bX o:=λc o e=>LY _ e;have i:O.get? z=bX (Vg L cz TI TO):=a.extBut _ _ D.i2z.symm (U.extBut _ _ D.i1z.symm f);refine hQ _ (d _ _ i) ((g.at λo e=>d _ o (a.extBut _ _ D.i12 e))) (h.at λo e=>d _ o e) ?_ ?_ λc o j k l e=>d c o (a.extBut _ _ l (U.extBut _ _ k (I.extBut _ _ j e)))
 ·have:=Ml O (o:={cls:= .type "tuple",data:= .seq #[x,y]}) rfl
  rw[hsz]at this;exact this
 ·rw[MV,hsz]
theorem iq{k1 k2:Sk}{z TI TO C J U L S:dv}{b:Bool}{oa:l6}{n1 n2:Nat}{xs ys:Array dy}{Q:Fin->d7->Prop}(hh:A.handled=none)(D:wa z TI TO C J U L)
 (hz:s.heap.get? z=bX (Vg S b TI TO)) (ha:s.heap.get? S=bX oa) (a6:k0 s.heap TI (.ref C) (.ref J))
 (Z:ix k1 s.heap C U n1) (h2:ix k2 s.heap J L n2) (M:lr k1 s.heap U xs) (a7:lr k2 s.heap L ys) (a8:xs[n1]? = none\/ys[n2]? = none)
 (hE : ∀h' e,(∀c o,c≠z->c≠C->c≠J->s.heap.get? c=bX o->h'.get? c=bX o)->(∃o,h'.get? e=bX o/\o.cls = .type "StopIteration")->E (.ref e) {s with heap:=h'}) :
 wpAny (eg prog w) A (m8.«zip.__next__» ⟨[.ref z],[]⟩) Q E s:=by
 refine LV (m:=field (.ref z) 2)<|Ni hz rfl (x:= .bool dn) rfl ?_;refine LV (m:=field (.ref z) 3)<|Ni hz rfl (x:= .ref TI) rfl ?_;refine LV<|NX a6 rfl ?_;refine LV (m:=ME<|.ref z)<|KJ hz ha λg1 j I=>?_;simp only[Nf,if_false];rw[show(#[Nr C,Nr J]:Array dy)=[Nr C,Nr J].toArray from rfl,SI];simp only[Rp,Rz];refine LV<|LV<|LV ?_;cases hx:xs[n1]? with
 | none=>
  refine LV (m:=Mv<|.ref C)<|wI hh (Z.at λo e=>I.extBut _ _ D.i1z e) (M.at λo e=>I.extBut _ _ D.l1z e) hx λg2 e O Y=>?_;exact hE g2 e (λc o a d _ q=>O _ _ d<|I.extBut _ _ a q) Y
 | some x=>
  have i:ys[n2]? = none:=by rcases a8 with h | h;rw[hx]at h;cases h;exact h
  refine LV (m:=Mv<|.ref C)<|kC (Z.at λo e=>I.extBut _ _ D.i1z e) (M.at λo e=>I.extBut _ _ D.l1z e) hx λg2 k O=>Mg ?_;refine Mg<|LV<|LV<|NT ?_;refine LV (m:=Mv<|.ref J)<|wI hh (h2.at λo e=>O.extBut _ _ D.i12.symm<|I.extBut _ _ D.i2z e) (a7.at λo e=>O.extBut _ _ D.l2i1<|I.extBut _ _ D.l2z e) i λg3 e f Y=>?_;exact hE g3 e (λc o a d g q=>f _ _ g<|O.extBut _ _ d<|I.extBut _ _ a q) Y
end
end DL
namespace L2
open PySem PySem.Spec PyProof.Rows
section
variable{κ:Type} [DecidableEq κ]
def Wf(z:List (κ×V))(k:κ):Option V:=(z.find? λI=>decide<|I.1=k).map (·.2)
noncomputable def ck(z:List (κ×V))(k:κ)(v:V):List (κ×V):=
 if (z.any λI=>decide<|I.1=k)=cz then z.map (λI=>if I.1=k then (I.1,v)else I)else z++[(k,v)]
theorem XD{p:κ×V}{r:List (κ×V)}{k:κ}(e:p.1=k):Wf (p::r) k=bX p.2:=by simp[Wf,OE,e]
theorem We{p:κ×V}{r:List (κ×V)}{k:κ}(e : ¬p.1=k):Wf (p::r) k=Wf r k:=by simp[Wf,OE,e]
theorem JM(z:List (κ×V))(k:κ)(v:V):(ck z k v).length<=z.length+1:=by
 unfold ck;split
 ·rw[Mq];omega
 ·rw[MW,Nm,Of];omega
theorem vu.UA(r:vu o u):o.isSome=u.isSome:=by
 cases o with
 | none=>cases u with
  | none=>rfl
  | some _=>exact(show False from r).elim
 | some _=>cases u with
  | none=>exact(show False from r).elim
  | some _=>rfl
theorem KV.val{C:List (κ×V)}{vs:List (κ×dy)}(r:KV C vs)(k:κ):vu (Wf C k) (E7 vs k):=by
 unfold KV at r
 induction r with
 | nil=>exact ON
 | @cons p q f I h t U=>
  obtain⟨a,d⟩:=h;by_cases e:p.1=k
  ·have O:q.1=k:=a.symm.trans e
   have b:E7 (q::I) k=bX q.2:=by simp[E7,OE,O]
   rw[XD e,b];exact d
  ·have O : ¬q.1=k:=λz=>e (a.trans z)
   have b:E7 (q::I) k=E7 I k:=by simp[E7,OE,O]
   rw[We e,b];exact U
theorem KV.any(r:KV l0 vs)(k:κ):(l0.any λI=>decide<|I.1=k)=vs.any λI=>decide (I.1=k):=by
 unfold KV at r
 induction r with
 | nil=>rfl
 | cons h t O=>rw[RO,RO,O,h.1]
theorem KV.P'(r:KV l0 vs)(k:κ)(O:RelV y u) :
 KV (l0.map λI=>if I.1=k then (I.1,y)else I) (vs.map λI=>if I.1=k then (I.1,u)else I):=by
 unfold KV at r ⊢
 induction r with
 | nil=>exact .nil
 | @cons p q d Y h t U=>
  rw[MI,MI];refine .cons ?_ U;obtain⟨a,b⟩:=h;by_cases e:p.1=k
  ·rw[UJ e,UJ (a.symm.trans e)];exact⟨a,O⟩
  ·rw[UY e,UY (λz=>e<|a.trans z)];exact⟨a,b⟩
theorem KV.put(r:KV l0 vs)(k:κ)(I:RelV y u):KV (ck l0 k y) (stored vs k u):=by
 unfold ck stored;rw[r.any k];by_cases e:(vs.any λO=>decide<|O.1=k)=cz
 ·rw[UJ e,UJ e];exact r.P' k I
 ·rw[UY e,UY e];exact Paired.snoc r ⟨rfl,I⟩
theorem KV.length(r:KV l0 vs):l0.length=vs.length:=Paired.length r
end
theorem mW(r:RelV (kV k) u):(xC P w).is k u=cz:=by
 cases k with
 | inl i=>obtain⟨t,e⟩:=(show ∃t,u=RW i t from r);subst e;exact VF P w i t
 | inr x=>obtain⟨t,e⟩:=(show ∃t,u=Sz x t from r);subst e;exact VE P w x t
theorem YI : ∀{ks:List Key} {us:List dy},eF (ks.map kV) us->ItemsAre (xC P w) ks us
 | [],_,r=>by rw[RY]at r;cases r;exact .nil
 | k::ks,_,r=>by
  rw[MI]at r;cases r with
  | cons h t=>exact .cons (mW h)<|YI t
abbrev KT(H:Hp):List (List Key×V)->List (List Key×dv×dy)->Prop:=Paired λp q=>p.1=q.1/\H q.2.1=bX (.tup (p.1.map kV))/\RelV p.2 q.2.2
theorem KT.val{H:Hp}{C:List (List Key×V)}{xs:List (List Key×dv×dy)}(r:KT H C xs)(k:List Key):vu (Wf C k) ((D2 xs k).map (·.2)):=by
 induction r with
 | nil=>exact ON
 | @cons p q f I h t U=>
  obtain⟨a,_,d⟩:=h;by_cases e:p.1=k
  ·have O:q.1=k:=a.symm.trans e
   have b:D2 (q::I) k=bX q.2:=by simp[D2,OE,O]
   rw[XD e,b];exact d
  ·have O : ¬q.1=k:=λz=>e (a.trans z)
   have b:D2 (q::I) k=D2 I k:=by simp[D2,OE,O]
   rw[We e,b];exact U
section
variable{P:h6}{w:g8}{H:Hp}{h:e9}{a:dv}
theorem AO(ok:kA P w H h)(e:Rd H a u):i7 P w H h a u:=e.ok ok
theorem nA(ok:kA P w H h)(e:Rd H a (.dK l0)):l0.length<=fh/\(a==Dl)=dn/\∃vs,KV l0 vs/\h.DictOf (xC P w) a vs:=
 show i7 P w H h a (.dK l0)from AO ok e
theorem GH(ok:kA P w H h)(e:H a=bX (.dK l0)):l0.length<=fh/\(a==Dl)=dn/\∃vs,KV l0 vs/\h.DictOf (xC P w) a vs:=nA ok<|.inl e
theorem fM(ok:kA P w H h)(e:H a=bX (.tup<|ks.map kV)):(U3<|xC P w).is h ks a:=by obtain⟨_,b,r,o,d,f,n,I⟩:=(show i7 P w H h a (.tup<|ks.map kV)from ok a _ e);exact⟨o,b.toArray,n,d,(Prod.mk.inj f).1,I,by simpa using YI r⟩
theorem ud(ok:kA P w H h)(e:Rd H a (.dT l0)):l0.length<=fh/\(a==Dl)=dn/\
 ∃xs,KT H l0 xs/\h.DictOfH (U3<|xC P w) a xs:=by
 obtain⟨z,y,xs,r,o,b,O,d,f,U,Y,g⟩:=(show i7 P w H h a (.dT l0)from AO ok e);refine⟨z,y,xs,r,o,b,O,d,f,U,Y,λx hx=>?_,g⟩;have all : ∀{l:List (List Key×V)} {m:List (List Key×dv×dy)},KT H l m->∀x∈m,(U3<|xC P w).is h x.1 x.2.1:=by
  intro l m q
  induction q with
  | nil=>intro x hx;exact nomatch hx
  | @cons p q j k I t i=>
   intro x hx;rcases Mj.mp hx with e | hx
   ·subst e
    exact fM ok (by rw[<- I.1];exact I.2.1)
   ·exact i x hx
 exact all r x hx
end
noncomputable def CZ(H:Hp)(a:dv)(y:V)(r:Option V):Prop:=
 (∃d k,Rd H a (.dK d)/\y=kV k/\r=Wf d k)\/∃d k b,Rd H a (.dT d)/\y = .ref b/\H b=bX (.tup<|k.map kV)/\r=Wf d k
section
variable{X:Cx}{pins:UQ}{σ:St}{H:Hp}{s:d7}{a:dv}{y v:V}{u r:dy}{o:Option V}{A:j1}{E:EQ}
theorem Inv.big(I:Inv X pins σ H s):Dl<s.heap.objs.size:=by have h:xg<s.heap.objs.size:=(I.mod.glob.keeps I.bk).lt;exact Nat.lt_trans ⋯ h
theorem gD(L:A.units+1<DO)(I:Inv X pins σ H s)(g:CZ H a y (bX v))(C:RelV y u)(h : ∀w' J,Inv X pins σ H J->RelV v w'->Q w' J) :
 wpAny (eg X.prog X.w) A (C9 (.ref a) u) Q E s:=by
 rcases g with⟨i,k,e,O,l⟩ | ⟨i,k,b,e,O,m,l⟩
 ·subst O
  obtain⟨z,n,t,U,Y⟩:=nA I.fy e;obtain⟨w',f,d⟩:=vu.some_of (v:=v) (o:=E7 t k) (by rw[l];exact U.val k);exact wpAny_getItem_of (mW C) Y.mapOf f<|h w' _ (I.tok _) d
 ·subst O
  cases (show u=Nr b from C);obtain⟨z,n,x,U,Y⟩:=ud I.fy e;obtain⟨w',f,d⟩:=vu.some_of (v:=v) (o:=(D2 x k).map (·.2)) (by rw[l];exact U.val k);obtain⟨p,r,j⟩:=RN.mp f;refine wpAny_getItem_heap (W_ L) (fM I.fy m) Y r ?_;rw[j];exact h w' _ (I.tok _) d
theorem Lv(L:A.units+1<DO)(I:Inv X pins σ H s)(g:CZ H a y o)(C:RelV y u)(h : ∀J,Inv X pins σ H J->Q (.bool o.isSome) J) :
 wpAny (eg X.prog X.w) A (nf .In u<|.ref a) Q E s:=by
 rcases g with⟨f,k,e,O,l⟩ | ⟨f,k,b,e,O,i,l⟩
 ·subst O
  obtain⟨z,d,j,U,Y⟩:=nA I.fy e;refine wpAny_in_of (mW C) d Y.mapOf ?_;rw[<- (U.val k).UA,<- l];exact h _<|I.tok _
 ·subst O
  cases (show u=Nr b from C);obtain⟨z,d,m,U,Y⟩:=ud I.fy e;refine wpAny_in_heap (W_ L) (fM I.fy i) d Y ?_;have q:=(U.val k).UA;rw[Option.isSome_map]at q;rw[<- q,<- l];exact h _<|I.tok _
theorem ue(I:Inv X pins σ H s)(O:F4 (H a))(hs:Pp a s.heap h')(U : ∃q,h'.get? a=bX q)(new:i7 X.prog X.w (upd H a ob) h' a ob) :
 Inv X pins σ (upd H a ob) {s with heap:=h',toks:=t'}:=
 I.write (x:=a) (e:=a) O (.inl rfl) (λb q Y z=>(hs.2 b Y).trans z) U new
theorem Cy(z:l0.length<=fh)(C:(a==Dl)=dn)(I:KV l0 vs)(O:h'.DictOf (xC P w) a vs) :
 i7 P w H' h' a (.dK l0):=⟨z,C,vs,I,O⟩
end
def Hz(i:eh):Prop:=∀I O,T5 i dn I O=operate [I,O] (C9 I O)
theorem pV{prog:h6}{w:g8}{A:j1}{E:EQ}{s:d7}{env:m6}{z I:eh}{pos:gB}{T id:String}{Q:EQ}
 (J:E6 (.type T) "__getitem__" = pure (bX (.builtin id))) (hs:Hz I)
 (h:wpAny (eg prog w) A (ej z env) (λo C=>wpAny (eg prog w) A (ej I env) (λi O=>O.TypeIs o T/\wpAny (eg prog w) A (C9 o i) Q E O) E C) E s) :
 wpAny (eg prog w) A (ej (.Subscript z I pos) env) Q E s:=by
 refine Uq<|Ot h (λo C b=>Ot b (λi O U=>?_) λ_ _ x=>x) λ_ _ x=>x;obtain⟨e,U⟩:=U;unfold UP;refine LV ?_;rw[getitemInPython_of_ne e.not_modules];refine LV<|wpAny_specialOf e J ?_;have Y:wpAny (eg prog w) A (T5 I dn o i) (λr a=>wpAny (eg prog w) A (letTemporaryGo z o r >>= λ_=>pure r) Q E a) E O:=by rw[hs o i];exact wpAny_operating<|Ot U (λr a d=>LV<|wpAny_letTemporaryGo<|Mg d) λ_ _ x=>x
 first
  | exact Mg<|LV Y
  | exact LV<|Mg<|LV Y
  | exact LV Y
theorem VY(I:Inv X pins σ H s)(g:CZ H a y o):s.TypeIs (.ref a) "dict":=by
 rcases g with⟨d,k,e,_,_⟩ | ⟨d,k,b,e,_,_,_⟩
 ·obtain⟨_,_,f,_,O⟩:=nA I.fy e
  exact O.typeIs
 ·obtain⟨_,_,h,_,O⟩:=ud I.fy e
  exact O.typeIs
noncomputable def Fk(z ty:TE):TE:=λd H Q=>z d H λx e=>ty d e λy b=>∃a v,x = .ref a/\CZ b a y (bX v)/\Q v b
noncomputable def IW(ty z:TE):TE:=λd H Q=>ty d H λy e=>z d e λx b=>∃a o,x = .ref a/\CZ b a y o/\Q (.bl o.isSome) b
section
variable{X:Cx}{o i e value:eh}{pos pos' r6:gB}{td ty tv:TE}
theorem sS(U:X.A.units+1<DO)(Y:PE X o td)(z:PE X i ty)(hs:Hz i):PE X (.Subscript o i pos) (Fk td ty):=by intro b s d H Q I h;refine pV PySem.F.slot_dict_getitem.lookup hs<|eM (Y b s d H _ I h) λu w ⟨x,e,j,r,n⟩=>eM (z b w d e _ j n) λB C ⟨y,f,O,t,a,v,m,g,p⟩=>?_;subst m;obtain rfl:u=Nr a:=r;exact⟨VY O g,gD U O g t λG E k l=>⟨v,f,k,l,p⟩⟩
theorem BA(O:X.A.units+1<DO)(z:PE X i ty)(U:PE X o td):PC X .In i o (IW ty td):=by intro b s d H Q I h;refine eM (z b s d H _ I h) λB w ⟨y,e,Y,t,n⟩=>eM (U b w d e _ Y n) λu C ⟨x,f,j,r,a,m,l,g,p⟩=>?_;subst l;obtain rfl:u=Nr a:=r;exact Lv O j g t λE k=>⟨.bl m.isSome,f,k,rfl,p⟩
end
theorem nB(h:e9)(I:Dl<h.objs.size):i7 P w H (h.push {cls:= .type "dict",data:= .dict #[]}) h.objs.size (.dK []):=
 ⟨Nh _,beq_eq_false_iff_ne.mpr<|MD<|Mr I,[],.nil,Heap.DictOf.new h⟩
end L2
namespace DL
open PySem PySem.Spec PyProof.Rows L2
noncomputable def Ub:List Str:=["NoPrime","Nought","NoTable","NoWidths","NoRow","Unlike","TooMany","NoTurn","NoLine","Nothing","NoArrow","NoText","NoRoom"]
noncomputable def Eb(K:LX)(c:Str):Option dv:=match PySem.W.nsIn K xg c with
 | some (bX (.ref C))=>bX C
 | _=>none
noncomputable def IL(K:LX)(C:dv):Bool:=
 ["int","bool","str","tuple","list"].all (λt=>Pd K (.ref C) (.type t)==bX dn) && Pd K (.ref C) (.type "ValueError")==bX cz &&
 Rr K (.ref C) "__getattribute__" == bX (bX (.builtin "BaseException.__getattribute__")) && Rr K (.ref C) "__getattr__" == bX none &&
 Rr K (.ref C) "__class__" == bX (bX (.builtin "object.__class__")) && PySem.W.mroIn K C (.type "object")==bX cz && PySem.W.mroIn K C (.type "BaseException")==bX cz &&
 PySem.W.specialIn K (.builtin "object.__class__") "__get__" == bX (bX (.builtin "getset_descriptor.__get__")) && PySem.W.takesIn K (.builtin "object.__class__")==bX cz &&
 (PySem.W.clsIn K C).any (λI=> !I.hasDel) && PySem.W.typeIn K (.ref C)==bX (.type "type")
noncomputable def IM(K:LX):Bool:=match Eb K "SplitError" with
 | some S=>Ub.all λc=>match Eb K c with
  | some C=>IL K C && Pd K (.ref C) (.ref S)==bX cz && Ub.all λI=>match Eb K I with
   | some O=>Pd K (.ref C) (.ref O)==bX (c==I)
   | none=>dn
  | none=>dn
 | none=>dn
noncomputable def LA(h:e9)(a:dv)(C:dv):Prop:=∃o b,h.get? a=bX o/\o.cls = .ref C/\o.data = .fields b
structure R3(K:LX)(H:Hp)(c:Str)(n:Option Int)(a:dv):Prop where
 all:IM K=cz
 mem:c∈Ub
 ex : ∃C φ,Eb K c=bX C/\H a=bX (.ext φ)/\(∀h,φ h->LA h a C)/\
  match n with
  | none=>True
  | some i=>∃d,(∀h,φ h->∃o,h.get? a=bX o/\o.dict=bX d)/\H d=bX (.xd [(if c==("NoRoom" : Str)then "room" else "at",.int i)])
theorem R3.mono{K:LX}{H H':Hp}{c:Str}{n:Option Int}{a:dv}(e : ∀b o,H b=bX o->H' b=bX o)(h:R3 K H c n a):R3 K H' c n a:=by
 obtain⟨f,g,C,j,O,g2,U,I⟩:=h;refine⟨f,g,C,j,O,e _ _ g2,U,?_⟩;cases n with
 | none=>exact I
 | some i=>obtain⟨d,Y,f2⟩:=I;exact⟨d,Y,e _ _ f2⟩
abbrev St:=L2.St
def Cd:D->Option Key
 | .int i=>bX (.inl i)
 | .str x=>bX (.inr x)
 | _=>none
noncomputable def YE:List D->Option (List Key)
 | []=>bX []
 | d::ds=>(Cd d).bind λk=>(YE ds).map λr=>k::r
noncomputable def DG(H:Hp)(a:dv)(ks:List D)(xs:List V):Prop:=∃b,YE ks=bX b/\b.length=xs.length/\H a=bX (.dK<|b.zip xs)
def Fe(k:List Int):Int:=reduceHash<|Builtin.Tuple.tupleHashOf<|k.map hashInt
noncomputable def LF(o:l6)(xs:List (List Int×dv×dy)):Prop:=o.ExactDict/\∃a I,o.data = .dict a I/\a.toList=xs.map (λx=>⟨Fe x.1,.ref x.2.1,x.2.2⟩)/\(xs.map (·.1)).Nodup
def Ur(a:dv)(o:l6):HO:= .ext λh=>h.get? a=bX o
noncomputable def L8(K:LX)(H:Hp)(a:dv)(ks:List (List Int))(ys:List V):Prop:=
 (a==Dl)=dn/\∃o b,H a=bX (Ur a o)/\LF o b/\b.map (·.1)=ks/\b.length<=fh/\(∀x∈b,g5 K H x.2.1<|x.1.map V.int)/\eF ys (b.map (·.2.2))
mutual
def Rep(K:LX)(H:Hp):D->V->Prop
 | .el,v=>v = .el
 | .bl b,v=>v = .bl b
 | .int i,v=>v = .int i
 | .str x,v=>v = .str x
 | .tup ds,v=>∃a d,v = .ref a/\g5 K H a d/\d5 K H ds d
 | .lst ds,v=>∃a d,v = .ref a/\fA K H a d/\d5 K H ds d
 | .lN ks vs,v=>∃a d,v = .ref a/\DG H a ks d/\d5 K H vs d
 | .i8 ks vs,v=>∃a d,v = .ref a/\L8 K H a ks d/\d5 K H vs d
def d5(K:LX)(H:Hp):List D->List V->Prop
 | [],xs=>xs=[]
 | d::ds,xs=>∃x r,xs=x::r/\Rep K H d x/\d5 K H ds r
end
theorem m1{K:LX}{H H':Hp}{a:dv}{xs:List V}(e:gh H H')(h:g5 K H a xs):g5 K H' a xs:=by
 rcases h with(h | ⟨o,h⟩) | h
 ·exact .inl<|.inl<|e _ _ h
 ·exact .inl<|.inr ⟨o,e _ _ h⟩
 ·exact .inr h
theorem vJ{k:Sk}{K:LX}{H H':Hp}{a:dv}{xs:List V}(e:gh H H')(h:i5 k K H a xs):i5 k K H' a xs:=by
 cases k
 ·exact e.seq h
 ·exact m1 e h
mutual
theorem Rep.mono{K:LX}{H H':Hp}(e:gh H H') : ∀{d:D} {v:V},Rep K H d v->Rep K H' d v
 | .el,_,h=>h
 | .bl _,_,h=>h
 | .int _,_,h=>h
 | .str _,_,h=>h
 | .tup ds,v,h=>by obtain⟨a,b,f,i,g⟩:=(show ∃a b,v = .ref a/\g5 K H a b/\d5 K H ds b from h);exact(show ∃a b,v = .ref a/\g5 K H' a b/\d5 K H' ds b from⟨a,b,f,m1 e i,d5.mono e g⟩)
 | .lst ds,v,h=>by obtain⟨a,b,f,i,g⟩:=(show ∃a b,v = .ref a/\fA K H a b/\d5 K H ds b from h);exact(show ∃a b,v = .ref a/\fA K H' a b/\d5 K H' ds b from⟨a,b,f,e.seq i,d5.mono e g⟩)
 | .lN ks vs,v,h=>by obtain⟨a,b,f,⟨l,I,g2,O⟩,g⟩:=(show ∃a b,v = .ref a/\DG H a ks b/\d5 K H vs b from h);exact(show ∃a b,v = .ref a/\DG H' a ks b/\d5 K H' vs b from⟨a,b,f,⟨l,I,g2,e _ _ O⟩,d5.mono e g⟩)
 | .i8 ks vs,v,h=>by obtain⟨a,b,f,⟨I,o,m,g2,O,U,Y,g6,j⟩,g⟩:=(show ∃a b,v = .ref a/\L8 K H a ks b/\d5 K H vs b from h);exact(show ∃a b,v = .ref a/\L8 K H' a ks b/\d5 K H' vs b from⟨a,b,f,⟨I,o,m,e _ _ g2,O,U,Y,λx k=>m1 e<|g6 x k,j⟩,d5.mono e g⟩)
theorem d5.mono{K:LX}{H H':Hp}(e:gh H H') : ∀{ds:List D} {xs:List V},d5 K H ds xs->d5 K H' ds xs
 | [],_,h=>h
 | d::ds,xs,h=>by obtain⟨x,r,a,b,f⟩:=(show ∃x r,xs=x::r/\Rep K H d x/\d5 K H ds r from h);exact(show ∃x r,xs=x::r/\Rep K H' d x/\d5 K H' ds r from⟨x,r,a,Rep.mono e b,d5.mono e f⟩)
end
section
variable{K:LX}{H:Hp}
theorem d5.nil:d5 K H [] []:=(show([]:List V)=[]from rfl)
theorem d5.cons(h:Rep K H d x)(t:d5 K H ds xs):d5 K H (d::ds) (x::xs):=⟨x,xs,rfl,h,t⟩
theorem d5.n5(h:d5 K H [] xs):xs=[]:=h
theorem d5.l7(h:d5 K H (d::ds) xs) : ∃x r,xs=x::r/\Rep K H d x/\d5 K H ds r:=h
theorem d5.length : ∀{ds:List D} {xs:List V},d5 K H ds xs->xs.length=ds.length
 | [],xs,h=>by rw[h.n5];rfl
 | d::ds,xs,h=>by obtain⟨x,r,e,_,t⟩:=h.l7;rw[e,Nm,Nm,d5.length t]
theorem d5.get : ∀{ds:List D} {xs:List V} {i:Nat} {d:D},d5 K H ds xs->ds[i]? = bX d->∃x,xs[i]? = bX x/\Rep K H d x
 | [],_,_,_,_,e=>by simp at e
 | c::ds,xs,0,d,h,e=>by obtain⟨x,r,a,b,_⟩:=h.l7;simp at e;subst e;exact⟨x,by rw[a];rfl,b⟩
 | c::ds,xs,i+1,d,h,e=>by obtain⟨x,r,a,_,t⟩:=h.l7;obtain⟨y,I,g2⟩:=d5.get (i:=i) (d:=d) t (by simpa using e);exact⟨y,by rw[a];simpa using I,g2⟩
theorem d5.DR{ds:List D}{xs:List V}{i:Nat}{x:V}(h:d5 K H ds xs)(e:xs[i]? = bX x) : ∃d,ds[i]? = bX d/\Rep K H d x:=by
 have b:i<ds.length:=by rw[<- h.length];exact(Mo.mp e).1
 obtain⟨y,a,r⟩:=h.get<|LZ b;rw[e]at a;cases a;exact⟨_,LZ b,r⟩
theorem d5.append : ∀{ds es:List D} {xs ys:List V},d5 K H ds xs->d5 K H es ys->d5 K H (ds++es) (xs++ys)
 | [],_,xs,_,h,g=>by rw[h.n5];exact g
 | d::ds,es,xs,ys,h,g=>by obtain⟨x,r,e,a,t⟩:=h.l7;rw[e];exact d5.cons a<|d5.append t g
theorem d5.drop : ∀{ds:List D} {xs:List V} (n:Nat),d5 K H ds xs->d5 K H (ds.drop n) (xs.drop n)
 | _,_,0,h=>h
 | [],xs,n+1,h=>by rw[h.n5];exact d5.nil
 | d::ds,xs,n+1,h=>by obtain⟨x,r,e,_,t⟩:=h.l7;rw[e];exact d5.drop n t
theorem d5.take : ∀{ds:List D} {xs:List V} (n:Nat),d5 K H ds xs->d5 K H (ds.take n) (xs.take n)
 | _,_,0,h=>by simp;exact d5.nil
 | [],xs,n+1,h=>by rw[h.n5];exact d5.nil
 | d::ds,xs,n+1,h=>by obtain⟨x,r,e,a,t⟩:=h.l7;rw[e];exact d5.cons a<|d5.take n t
theorem d5.set : ∀{ds:List D} {xs:List V} {d:D} {x:V} (i:Nat),d5 K H ds xs->Rep K H d x->d5 K H (ds.set i d) (xs.set i x)
 | [],xs,_,_,_,h,_=>by rw[h.n5];exact d5.nil
 | c::ds,xs,d,x,0,h,g=>by obtain⟨y,r,e,_,t⟩:=h.l7;rw[e];exact d5.cons g t
 | c::ds,xs,d,x,i+1,h,g=>by obtain⟨y,r,e,a,t⟩:=h.l7;rw[e];exact d5.cons a<|d5.set i t g
end
structure Ext(H0 H z3 H':Hp):Prop where
 s0:gh H0 z3
 s1:gh H H'
 sub:gh z3 H'
 new : ∀a,H0 a=none->H a≠none->z3 a=none
theorem Ext.refl(s:gh H0 H):Ext H0 H H0 H:=⟨gh.refl _,gh.refl _,s,λ_ h _=>h⟩
theorem Ext.trans(a:Ext H0 H H1 G1)(b:Ext H1 G1 H2 G2):Ext H0 H H2 G2:=
 ⟨a.s0.trans b.s0,a.s1.trans b.s1,b.sub,λc e d=>b.new c (a.new c e d) (by
  cases q:H c with
  | none=>exact absurd q d
  | some o=>rw[a.s1 c o q];simp)⟩
theorem jc(h:H p=none)(o:HO):gh H (upd H p o):=λb u q=>by rw[zL (j8 q h)];exact q
theorem jo(s:gh H0 H)(h:H p=none):H0 p=none:=s.free h
theorem dh(s:gh H0 H):gh (upd H0 p o) (upd H p o):=λb u q=>by
 by_cases e:b=p
 ·subst e;rw[zN]at q ⊢;exact q
 ·rw[zL e]at q ⊢;exact s b u q
theorem Ext.alloc(s:gh H0 H)(h:H p=none)(o:HO):Ext H0 H (upd H0 p o) (upd H p o):=
 ⟨jc (jo s h) o,jc h o,dh s,λa b d=>by rw[zL (λe=>d<|by rw[e];exact h)];exact b⟩
theorem Ext.hide(s:gh H0 H)(h:H p=none)(o:HO):Ext H0 H H0 (upd H p o):=
 ⟨gh.refl _,jc h o,s.trans<|jc h o,λa b _=>b⟩
theorem Ext.show(e:Ext H0 H z3 H')(C:H a=none)(J:z3 a=none)(O:H' a=bX o)(s:gh H0 H):Ext H0 H (upd z3 a o) H':=
 ⟨e.s0.trans<|jc J o,e.s1,λb u q=>by
  by_cases z:b=a
  ·subst z;rw[zN]at q;rw[O];exact q
  ·rw[zL z]at q;exact e.sub b u q,λb U I=>by
  rw[zL (λz=>I<|by rw[z];exact C)];exact e.new b U I⟩
structure vr(K:LX)(H0 H:Hp)(rows:List (List D))(a:dv)(bs:List dv):Prop where
 a0:H0 a=none
 ha:H a=bX (.lst<|bs.map V.ref)
 nd:(a::bs).Nodup
 len:bs.length=rows.length
 row : ∀(k:Nat) b row,bs[k]? = bX b->rows[k]? = bX row->H0 b=none/\∃xs,H b=bX (.lst xs)/\d5 K H0 row xs
theorem vr.at{K:LX}{H0 H:Hp}{z:List (List D)}{a:dv}{bs:List dv}(n:vr K H0 H z a bs){b:dv}(I:b∈a::bs):H0 b=none/\∃xs,H b=bX (.lst xs):=by
 rcases Mj.mp I with rfl | I
 ·exact⟨n.a0,_,n.ha⟩
 ·obtain⟨k,O⟩:=Sn I
  have U:=(Mo.mp O).1;rw[n.len]at U;obtain⟨d,xs,e,_⟩:=n.row k b _ O<|LZ U;exact⟨d,xs,e⟩
theorem vr.move{K:LX}{H0 H C H':Hp}{z:List (List D)}{a:dv}{bs:List dv}(n:vr K H0 H z a bs)(s:gh H0 C)(I : ∀b∈a::bs,C b=none)(h : ∀b∈a::bs,H' b=H b):vr K C H' z a bs:=
 ⟨I a Mn,by rw[h a Mn];exact n.ha,n.nd,n.len,λk b row O Y=>by obtain⟨_,f,d,e⟩:=n.row k b row O Y;have U:b∈a::bs:=Mm _<|Nq O;exact⟨I b U,f,by rw[h b U];exact d,e.mono s⟩⟩
noncomputable def n6(K:LX)(H0 H:Hp)(z:St)(γ:Ctx):Prop:=
 (∀(i:Nat) b,γ[i]? = bX (.nest b)->∃a bs,z[i]? = bX (bX (.ref a))/\vr K H0 H b a bs/\∀(j:Nat) d c,γ[j]? = bX (.own d)->z[j]? = bX (bX (.ref c))->c∉a::bs)/\
 ∀(i j:Nat) I e,γ[i]? = bX (.nest I)->γ[j]? = bX (.nest e)->i=j
theorem n6.E1{K:LX}{H0 H:Hp}{C:St}{γ:Ctx}(h : ∀(i:Nat) z,γ[i]? ≠ bX (.nest z)):n6 K H0 H C γ:=⟨λi z e=>absurd e<|h i z,λi j I a e=>absurd e<|h i I⟩
theorem n6.move{K:LX}{H0 H C H':Hp}{J:St}{γ:Ctx}(n:n6 K H0 H J γ)(s:gh H0 C)(h : ∀(i:Nat) z a bs,γ[i]? = bX (.nest z)->J[i]? = bX (bX (.ref a))->vr K H0 H z a bs->(∀(j:Nat) ds c,γ[j]? = bX (.own ds)->J[j]? = bX (bX (.ref c))->c∉a::bs)->∀b∈a::bs,C b=none/\H' b=H b):n6 K C H' J γ:=
 ⟨λi z e=>by obtain⟨a,bs,d,f,I⟩:=n.1 i z e;exact⟨a,bs,d,f.move s (λb O=>(h i z a bs e d f I b O).1)<|λb O=>(h i z a bs e d f I b O).2,I⟩,n.2⟩
theorem n6.ext{K:LX}{H0 H z H':Hp}{C:St}{γ:Ctx}(n:n6 K H0 H C γ)(e:Ext H0 H z H'):n6 K z H' C γ:=
 n.move e.s0 λi d a bs _ _ f _ b I=>by obtain⟨O,g,g2⟩:=f.at I;exact⟨e.new b O (by rw[g2];simp),by rw[e.s1 b _ g2,g2]⟩
structure RC(K:LX)(H0 H:Hp)(σ:St)(γ:Ctx):Prop where
 sub:gh H0 H
 len:σ.length=γ.length
 val : ∀(i:Nat) d,γ[i]? = bX (.val d)->∃v,σ[i]? = bX (bX v)/\Rep K H0 d v
 own : ∀(i:Nat) ds,γ[i]? = bX (.own ds)->∃a xs,σ[i]? = bX (bX (.ref a))/\H0 a=none/\H a=bX (.lst xs)/\d5 K H0 ds xs
 ne : ∀(i j:Nat) a ds es,γ[i]? = bX (.own ds)->γ[j]? = bX (.own es)->σ[i]? = bX (bX (.ref a))->σ[j]? = bX (bX (.ref a))->i=j
 m4:n6 K H0 H σ γ
theorem RC.ext{K:LX}{H0 H z H':Hp}{C:St}{γ:Ctx}(r:RC K H0 H C γ)(e:Ext H0 H z H'):RC K z H' C γ:=
 ⟨e.sub,r.len,λi d h=>let ⟨v,b,f⟩:=r.val i d h;⟨v,b,f.mono e.s0⟩,
  λi g h=>let ⟨a,j,b,f,I,O⟩:=r.own i g h;⟨a,j,b,e.new a f (by rw[I];simp),e.s1 _ _ I,O.mono e.s0⟩,r.ne,r.m4.ext e⟩
noncomputable def tV(K:LX)(f:CO D):TE:=λh H Q=>∃e g d,RC K e H h g/\f g=bX d/\∀v b a,Ext e H a b->Rep K a d v->Q v b
noncomputable def tQ(K:LX)(f:CO (Sk×List D)):TE:=λj H Q=>∃g i k h,RC K g H j i/\f i=bX (k,h)/\∀a e d b,Ext g H b d->i5 k K d a e->(k = .T->g5 K b a e)->d5 K b h e->Q (.ref a) d
noncomputable def tO(K:LX)(f:CO (List D)):TE:=λj H Q=>∃e i g,RC K e H j i/\f i=bX g/\
 ∀a h d b,Ext e H b d->H a=none->b a=none->d a=bX (.lst h)->d5 K b g h->Q (.ref a) d
noncomputable def tT(K:LX)(f:CO Bool):TT:=λh H Q=>∃e g b,RC K e H h g/\f g=bX b/\∀d a,Ext e H a d->Q b d
noncomputable def tA(K:LX)(f:CO (List D)):TA:=λi H Q=>∃d h e,RC K d H i h/\f h=bX e/\∀g b a,Ext d H a b->d5 K a e g->Q g b
abbrev PV(X:Cx)(e:eh)(f:CO D):Prop:=PE X e (tV X.K f)
abbrev PQ(X:Cx)(e:eh)(f:CO (Sk×List D)):Prop:=PE X e (tQ X.K f)
abbrev PO(X:Cx)(e:eh)(f:CO (List D)):Prop:=PE X e (tO X.K f)
abbrev mm(X:Cx)(e:eh)(f:CO Bool):Prop:=PT X e (tT X.K f)
abbrev DK(X:Cx)(e:eh)(f:CO Bool):Prop:=PW X e (tT X.K f)
abbrev C1(X:Cx)(es:List eh)(f:CO (List D)):Prop:=PA X es (tA X.K f)
theorem qr(h:PE X e t)(i : ∀z H Q,t' z H Q->t z H Q):PE X e t':=λa s z H Q I q=>h a s z H Q I<|i z H Q q
theorem Vn(h:PT X e t)(i : ∀z H Q,t' z H Q->t z H Q):PT X e t':=λa s z H Q I q=>h a s z H Q I<|i z H Q q
theorem AY(h:PW X e t)(i : ∀z H Q,t' z H Q->t z H Q):PW X e t':=λO a s z H Q I q=>h O a s z H Q I<|i z H Q q
theorem BC(h:PA X es t)(i : ∀z H Q,t' z H Q->t z H Q):PA X es t':=λpos a s z H Q I q=>h pos a s z H Q I<|i z H Q q
theorem ky{X:Cx}{st:i3}{t t':TS}(h:PS X st t)(i : ∀D z H,t' D z H->t D z H):PS X st t':=λa s z H D I q=>h a s z H D I<|i D z H q
theorem oC{X:Cx}{st:List i3}{t t':TS}(h:p6 X st t)(i : ∀D z H,t' D z H->t D z H):p6 X st t':=λa s z H D I q=>h a s z H D I<|i D z H q
theorem X0(h:PI X tg e t)(i : ∀z H R,t' z H R->t z H R):PI X tg e t':=λa s z H R I q=>h a s z H R I<|i z H R q
theorem k5(h:n<=lim):n<=fh:=Np h ⋯
section
variable{X:Cx}{e a b c:eh}{pos:gB}
theorem PV.q(h:PV X e f):PQ X e (zF f):=qr h λs H Q Y=>by
 obtain⟨p,o,k,i,rc,I,q⟩:=Y;unfold zF at I;cases e1:f o with
 | none=>rw[e1]at I;cases I
 | some d=>
  rw[e1]at I;refine⟨p,o,d,rc,e1,λv n b ext r=>?_⟩;cases d with
  | tup l=>
   obtain⟨O,U⟩:k = .T/\i=l:=by simp[jx]at I;exact⟨I.1.symm,I.2.symm⟩
   subst O U;obtain⟨a,g,rfl,j,m⟩:=(show ∃a g,v = .ref a/\g5 X.K b a g/\d5 X.K b i g from r);exact q a g n b ext (m1 ext.sub j) (λ_=>j) m
  | lst l=>
   obtain⟨O,U⟩:k = .L/\i=l:=by simp[jx]at I;exact⟨I.1.symm,I.2.symm⟩
   subst O U;obtain⟨a,g,rfl,j,m⟩:=(show ∃a g,v = .ref a/\fA X.K b a g/\d5 X.K b i g from r);exact q a g n b ext (ext.sub.seq j) (λz=>nomatch z) m
  | _=>simp[jx]at I
theorem PO.v(h:PO X e f):PV X e (jU f):=qr h λp H Q Y=>by
 obtain⟨j,i,d,rc,I,q⟩:=Y;unfold jU at I;cases e1:f i with
 | none=>rw[e1]at I;cases I
 | some b=>
  rw[e1]at I;cases I;refine⟨j,i,b,rc,e1,λa n o k ext l g m r=>?_⟩;exact q _ _ _ (ext.show l g m rc.sub) (show ∃O U,V.ref a = .ref O/\fA X.K _ O U/\d5 X.K _ b U from⟨a,n,rfl,fA.of zN,r.mono<|jc g _⟩)
theorem PO.q(h:PO X e f):PQ X e (jS f):=qr h λp H Q O=>by
 obtain⟨i,d,k,l,rc,I,q⟩:=O;unfold jS at I;cases e1:f d with
 | none=>rw[e1]at I;cases I
 | some m=>
  rw[e1]at I;cases I;exact⟨i,d,_,rc,e1,λa j g b ext n o U r=>q a j g b ext (fA.of U) (λz=>nomatch z) r⟩
theorem AZ(i:Nat)(h:PE X e (uI i)):PV X e (ze i):=qr h λm H Q O=>by
 obtain⟨b,j,d,rc,I,q⟩:=O;unfold ze at I;cases e1:j[i]? with
 | none=>rw[e1]at I;cases I
 | some c=>
  rw[e1]at I;cases c with
  | val k=>
   cases I;obtain⟨v,f,g⟩:=rc.val i d e1;exact⟨v,f,q v H b (Ext.refl rc.sub) g⟩
  | no=>cases I
  | own l=>cases I
  | nest a=>cases I
theorem Bl(i:Nat)(h:PE X e (uI i)):PQ X e (zm i):=qr h λt H Q r=>by
 obtain⟨f,s,k,g,rc,I,q⟩:=r;unfold zm at I;cases e1:s[i]? with
 | none=>rw[e1]at I;cases I
 | some c=>
  rw[e1]at I;cases c with
  | no=>cases I
  | nest n=>cases I
  | own j=>
   cases I;obtain⟨a,b,l,m,o,p⟩:=rc.own i g e1;exact⟨_,l,q a b H f (Ext.refl rc.sub) (fA.of o) (λz=>nomatch z) p⟩
  | val d=>
   obtain⟨v,l,m⟩:=rc.val i d e1;refine⟨v,l,?_⟩;cases d with
   | tup j=>
    obtain⟨U,Y⟩:k = .T/\g=j:=by simp[we,jx]at I;exact⟨I.1.symm,I.2.symm⟩
    subst U Y;obtain⟨a,b,rfl,O,g2⟩:=(show ∃a b,v = .ref a/\g5 X.K f a b/\d5 X.K f g b from m);exact q a b H f (Ext.refl rc.sub) (m1 rc.sub O) (λ_=>O) g2
   | lst j=>
    obtain⟨U,Y⟩:k = .L/\g=j:=by simp[we,jx]at I;exact⟨I.1.symm,I.2.symm⟩
    subst U Y;obtain⟨a,b,rfl,O,g2⟩:=(show ∃a b,v = .ref a/\fA X.K f a b/\d5 X.K f g b from m);exact q a b H f (Ext.refl rc.sub) (rc.sub.seq O) (λz=>nomatch z) g2
   | _=>simp[we,jx]at I
theorem ZT(h:PE X e (tC v))(r : ∀H,Rep X.K H d v):PV X e (zy d):=qr h λg H Q I=>by obtain⟨a,f,b,rc,O,q⟩:=I;cases O;exact q v H a (Ext.refl rc.sub)<|r a
theorem zk:PV X (.Constant (.int i) j pos) (zy<|.int i):=ZT By λ_=>(show V.int i = .int i from rfl)
theorem lD:PV X (.Constant (.bool x) j pos) (zy<|.bl x):=ZT Gd λ_=>(show V.bl x = .bl x from rfl)
theorem Yg:PV X (.Constant .none j pos) (zy .el):=ZT Bv λ_=>(show V.el = .el from rfl)
theorem kL:PV X (.Constant (.str x) j pos) (zy<|.str x):=ZT Bs λ_=>(show V.str x = .str x from rfl)
noncomputable def m3(K:LX)(r:R2)(F:D->D->Option D):Prop:=∀b H x y f I d Q,gh b H->Rep K b f x->Rep K b I y->F f I=bX d->(∀v e a,Ext b H a e->Rep K a d v->Q v e)->r x y H Q
theorem zg(h:o.bind f=bX y) : ∃x,o=bX x/\f x=bX y:=by
 cases o with
 | none=>cases h
 | some x=>exact⟨x,rfl,h⟩
theorem Vu{K:LX}{r:R2}{F:D->D->Option D}{C J:CO D}(hs:m3 K r F) : ∀z H Q,tV K (zE F C J) z H Q->I8 r (tV K C) (tV K J) z H Q:=λz H Q U=>by obtain⟨f,b,d,rc,I,q⟩:=U;obtain⟨x,j,I⟩:=zg I;obtain⟨y,Y,I⟩:=zg I;refine⟨f,b,x,rc,j,λn p h x1 k=>⟨h,b,y,rc.ext x1,Y,λo g i O l=>?_⟩⟩;exact hs i g n o x y d Q O.sub (k.mono O.s0) l I λv e a x3 m=>q v e a (x1.trans<|O.trans x3) m
theorem Xf(I:ij X (t8 op) r)(hs:m3 X.K r F)(z:PV X a fa)(O:PV X b fb):PV X (.BinOp a op b pos) (zE F fa fb):=
 qr (sR I z O) (Vu hs)
theorem oA(I:ij X (nf op) r)(hs:m3 X.K r F)(z:PV X a fa)(O:PV X b fb)(C:A5 op b=dn):PV X (.Compare a [op] [b] pos) (zE F fa fb):=
 qr (sT I z O C) (Vu hs)
theorem Jf{d:D}{b:Bool}(h:wb d=bX b):d = .bl b:=by cases d<;>simp[wb]at h;rw[h]
theorem Jy(O:ij X (nf op) r)(hs:m3 X.K r F)(z:PV X a fa)(U:PV X b fb)(C:A5 op b=dn):mm X (.Compare a [op] [b] pos) (sB<|zE F fa fb):=
 Vn (dY O z U C) λj H Q Y=>by obtain⟨g,i,k,rc,I,q⟩:=Y;obtain⟨d,h,I⟩:=zg I;refine Vu hs j H _ ⟨g,i,d,rc,h,λv f e x r=>?_⟩;rw[Jf I]at r;exact⟨k,r,q f e x⟩
theorem kx{f:CO D}(h:PV X e f)(U : ∀O,DS e X.env O=(do let v <- O;DU e.pos;sm [v] (L0 v)):=by intro _;rfl):mm X e (sB f):=
 Vn (Bf h U) λl H Q Y=>by obtain⟨g,j,k,rc,I,q⟩:=Y;obtain⟨d,i,I⟩:=zg I;refine⟨g,j,d,rc,i,λv b a x r=>?_⟩;rw[Jf I]at r;exact⟨k,r,q b a x⟩
theorem WB(h:mm X a f):DK X (.BoolOp .And [a] pos) f:=sk h
theorem dM(h:mm X a f):DK X (.BoolOp .Or [a] pos) f:=AW h
theorem dN{f g:CO Bool}{yb:List eh}(z:mm X a f)(O:DK X (.BoolOp .And (b::yb) pos) g):DK X (.BoolOp .And (a::b::yb) pos) (rR f g):=
 AY (AX z O) λn H Q U=>by
  obtain⟨i,e,k,rc,I,q⟩:=U;obtain⟨c,l,I⟩:=zg I;refine⟨i,e,c,rc,l,λh d x=>?_⟩;cases c with
  | true=>rw[UJ rfl]at I ⊢;exact⟨d,e,k,rc.ext x,I,λj Y m=>q j Y<|x.trans m⟩
  | false=>rw[UY MO]at I ⊢;cases I;exact q h d x
theorem ot{f g:CO Bool}{yb:List eh}(z:mm X a f)(O:DK X (.BoolOp .Or (b::yb) pos) g):DK X (.BoolOp .Or (a::b::yb) pos) (uK f g):=
 AY (FV z O) λn H Q U=>by
  obtain⟨i,e,k,rc,I,q⟩:=U;obtain⟨c,l,I⟩:=zg I;refine⟨i,e,c,rc,l,λh d x=>?_⟩;cases c with
  | true=>rw[UJ rfl]at I ⊢;cases I;exact q h d x
  | false=>rw[UY MO]at I ⊢;exact⟨d,e,k,rc.ext x,I,λj Y m=>q j Y<|x.trans m⟩
theorem Zm(z:mm X a f):mm X (.UnaryOp .Not a pos) (k9 f):=
 Vn (Bg z) λh H Q O=>by
  obtain⟨g,d,k,rc,I,q⟩:=O;unfold k9 at I;cases e1:f d with
  | none=>rw[e1]at I;cases I
  | some c=>rw[e1]at I;cases I;exact⟨g,d,c,rc,e1,λe b x=>q e b x⟩
theorem lG(h:DK X e f):mm X e f:=h.pt
theorem dP(h:PV X a f):PV X (.BoolOp op [a] pos) f:=Bt h
theorem dU{f g:CO D}{yb:List eh}(z:PV X a f)(O:PV X (.BoolOp .And (b::yb) pos) g):PV X (.BoolOp .And (a::b::yb) pos) (rS f g):=
 qr (Bz z O) λt H Q U=>by
  obtain⟨k,i,d,rc,I,q⟩:=U;obtain⟨c,h,I⟩:=zg I;obtain⟨Y,n,h⟩:=zg h;refine⟨k,i,Y,rc,n,λv j e x r=>?_⟩;rw[Jf h]at r;refine⟨c,r,?_⟩;cases c with
  | true=>rw[UJ rfl]at I ⊢;exact⟨e,i,d,rc.ext x,I,λp l m s o=>q p l m (x.trans s) o⟩
  | false=>rw[UY MO]at I ⊢;cases I;exact q _ j e x (show V.bl dn = .bl dn from rfl)
theorem Ba(z:PV X a f):PV X (.UnaryOp .Not a pos) (Eg f):=
 qr (Bu z) λi H Q U=>by
  obtain⟨h,e,d,rc,I,q⟩:=U;unfold Eg at I;cases e1:f e with
  | none=>rw[e1]at I;cases I
  | some O=>
   rw[e1]at I;refine⟨h,e,O,rc,e1,λv g b x r=>?_⟩;cases O with
   | bl c=>cases I;exact⟨c,r,q _ g b x<|show V.bl (!c) = .bl (!c)from rfl⟩
   | _=>cases I
theorem xh(J:mm X c k)(z:PV X a f)(C:PV X b g):PV X (.IfExp c a b pos) (aN k f g):=
 qr (mj J z C) λp H Q n=>by
  obtain⟨l,j,d,rc,I,q⟩:=n;obtain⟨t,m,I⟩:=zg I;refine⟨l,j,t,rc,m,λo e x=>?_⟩;cases t with
  | true=>rw[UJ rfl]at I ⊢;exact⟨e,j,d,rc.ext x,I,λO h U Y i=>q O h U (x.trans Y) i⟩
  | false=>rw[UY MO]at I ⊢;exact⟨e,j,d,rc.ext x,I,λO h U Y i=>q O h U (x.trans Y) i⟩
theorem sW:C1 X [] zI:=BC qu λe H Q I=>by obtain⟨a,d,b,rc,O,q⟩:=I;cases O;exact q [] H a (Ext.refl rc.sub) d5.nil
theorem mB(z:PV X e f)(Y:C1 X es g)(hs:ft (e::es) X.env=(dn,ej e X.env)::ft es X.env:=by rfl):C1 X (e::es) (zb f g):=
 BC (jr z Y hs) λs H Q k=>by
  obtain⟨b,a,p,rc,I,q⟩:=k;obtain⟨x,j,I⟩:=zg I;cases O:g a with
  | none=>rw[O]at I;cases I
  | some r=>
   rw[O]at I;cases I;exact⟨b,a,x,rc,j,λv o h x1 l=>⟨h,a,r,rc.ext x1,O,λn d i U m=>q (v::n) d i (x1.trans U)<|d5.cons (l.mono U.s0) m⟩⟩
theorem j3(h:C1 X es f):PV X (.Tuple es x1 pos) (qF f):=
 qr (Br h) λo H Q j=>by
  obtain⟨g,l,d,rc,I,q⟩:=j;obtain⟨b,i,I⟩:=zg I;by_cases O:b.length<=lim
  ·rw[UJ O]at I;cases I
   refine⟨g,l,b,rc,i,λk m n x1 U=>⟨k5 (by rw[U.length];exact O),λp Y=>?_⟩⟩;exact q _ _ _ (x1.trans<|Ext.alloc x1.sub Y _) (show ∃a e,V.ref p = .ref a/\g5 X.K _ a e/\d5 X.K _ b e from⟨p,k,rfl,g5.of zN,U.mono<|jc (jo x1.sub Y) _⟩)
  ·rw[UY O]at I;cases I
theorem qJ(h:C1 X es f):PO X (.List es pos) (j4 f):=
 qr (Bw h) λm H Q i=>by
  obtain⟨a,k,d,rc,I,q⟩:=i;obtain⟨e,g,I⟩:=zg I;by_cases U:e.length<=lim
  ·rw[UJ U]at I;cases I
   refine⟨a,k,_,rc,g,λj l b x1 Y=>⟨k5 (by rw[Y.length];exact U),λp O=>?_⟩⟩;exact q p j _ b (x1.trans<|Ext.hide x1.sub O _) (by
    cases z:H p with
    | none=>rfl
    | some o=>rw[x1.s1 p o z]at O;cases O) (jo x1.sub O) zN Y
  ·rw[UY U]at I;cases I
end
noncomputable def C2(k1 k2:Sk)(z TI TO C J I L:dv)(n:Nat)(h:e9):Prop:=
 (p5 h z TI TO .none\/∃a b O,h.get? z=bX (Vg a b TI TO)/\h.get? a=bX O)/\k0 h TI (.ref C) (.ref J)/\(∃c e,k0 h TO c e)/\ix k1 h C I n/\ix k2 h J L n
section
variable{prog:h6}{w:g8}{A:j1}{E:EQ}{s:d7}
theorem uT{k1 k2:Sk}{z TI TO C J U L:dv}{n:Nat}{xs ys:Array dy}{Q:Option dy->d7->Prop}(hh:A.handled=none)(D:wa z TI TO C J U L)
 (Z:C2 k1 k2 z TI TO C J U L n s.heap) (M:lr k1 s.heap U xs) (S:lr k2 s.heap L ys) (a6:xs[n]? = none\/ys[n]? = none)
 (hQ : ∀h',(∀c o,c ∉ [z,TI,TO,C,J]->s.heap.get? c=bX o->h'.get? c=bX o)->Q none {s with heap:=h'}):wpAny (eg prog w) A (u6<|.ref z) Q E s:=by
 obtain⟨a,i,⟨c,e,l⟩,j,k⟩:=Z;unfold u6;rcases a with a | ⟨al,b,oa,a,ha⟩
 ·have O:s.TypeIs (.ref z) "zip":=⟨_,a,rfl⟩
  refine LV (OP (Nc (name:=MT "__next__") O NS (Ny NS O Pu
   (Wc (show A.in1.handled=none from hh) D a i l j k M S a6 λg e Y f=>?_) (Pg _))))
  obtain⟨o,h,d⟩:=f;refine LV (Sl (T:="StopIteration") (b:=cz) ⟨o,h,d⟩ SN (Mg ?_));refine hQ g λc o I q=>?_;simp only[Mj,Ms,or_false,not_or]at I;exact Y c o I.1 I.2.2.1 I.2.2.2.1 I.2.2.2.2 q
 ·have O:s.TypeIs (.ref z) "zip":=⟨_,a,rfl⟩
  refine LV (OP (Nc (name:=MT "__next__") O NS (Ny NS O Pu
   (iq (show A.in1.handled=none from hh) D a ha i j k M S a6 λg e Y f=>?_) (Pg _))))
  obtain⟨o,h,d⟩:=f;refine LV (Sl (T:="StopIteration") (b:=cz) ⟨o,h,d⟩ SN (Mg ?_));refine hQ g λc o I q=>?_;simp only[Mj,Ms,or_false,not_or]at I;exact Y c o I.1 I.2.2.2.1 I.2.2.2.2 q
end
noncomputable def lE(z:List (Key×V))(ps:List (Key×V)):List (Key×V):=ps.foldl (λacc I=>ck acc I.1 I.2) z
theorem vg:entryFor table "dict.update.loop" = bX m8.«dict.update.loop» :=entryFor_of_tree (by kernel_rfl)
theorem yZ(args:Args):(Code.builtin "dict.update.loop" args).quiet=cz:=Code.quiet_builtin _ ⋯
noncomputable def LL(i:Nat)(f:CO D)(γ:Ctx):Option D:=(jZ γ[i]?).bind λa=>(f<|γ.set i<|.val<|.lst a).bind λd=>if VS d=cz then bX d else none
noncomputable def Lf(i:Nat)(f:CO Bool)(γ:Ctx):Option Bool:=(jZ γ[i]?).bind λa=>f<|γ.set i<|.val<|.lst a
def HK(i:Nat)(γ:Ctx):Option Fl:=(jZ γ[i]?).map λ_=> .next (γ.set i<|.own [])
noncomputable def xl(ds:List D):List D:=(LW ds.length).map λ(i:Nat)=>D.tup [.int i,ds[i]?.getD .el]
noncomputable def iY(f:CO D)(γ:Ctx):Option (List D):=(f γ).bind λd=>match d with
 | .tup a=>bX (xl a)
 | _=>none
noncomputable def vL:List D->Option (List Int)
 | []=>bX []
 | .int i::r=>(vL r).map λl=>i::l
 | _::_=>none
noncomputable def LI(f:CO D)(g:CO (Sk×List D))(γ:Ctx):Option D:=(f γ).bind λd=>(g γ).bind λa=>(i0 d).bind λi=>(vL a.2).map λl=> .bl (decide<|i∈l)
noncomputable def gj(k:Int):List Int->Option Nat
 | []=>none
 | i::r=>if i=k then bX 0 else (gj k r).map (· + 1)
noncomputable def LJ(f g:CO D)(γ:Ctx):Option D:=(f γ).bind λd=>((g γ).bind i0).bind λk=>match d with
 | .tup a=>(vL a).bind λl=>(gj k l).map λ(j:Nat)=>D.int (j:Int)
 | _=>none
noncomputable def wc(T:Tg)(f:CO (List D))(γ:Ctx):List D->Option (List<|List D)
 | []=>bX []
 | d::ds=>(qZ T d γ).bind λa=>(f a).bind λe=>(wc T f γ ds).map λr=>e::r
noncomputable def Wx(z:CO (List D))(T:Tg)(n:Nat)(C:List Nat)(f:CO (List D))(γ:Ctx):Option (List<|List D):=(z γ).bind λa=>if a.length<=lim then wc T f (je n C γ) a else none
def Xq:Cell->Bool
 | .nest _=>cz
 | _=>dn
noncomputable def iQ(i:Nat)(f:CO (List<|List D)):CO Fl:=λb=>(f b).bind λa=>if b.any Xq=dn then bX (.next<|b.set i<|.nest a)else none
noncomputable def wX:Option Cell->Option (List<|List D)
 | some (.nest rows)=>bX rows
 | _=>none
def yY(γ:Ctx)(j i:Nat)(r:List D):Ctx:=(γ.set j .no).set i (.own r)
noncomputable def kP(j i:Nat)(g f:CO D)(γ:Ctx):List (List D)->Option (List<|List D)
 | []=>bX []
 | r::rs=>(f<|yY γ j i r).bind λd=>((g<|yY γ j i r).bind i0).bind λk=>(f6 r.length k).bind λm=>(kP j i g f γ rs).map λt=>r.set m d::t
noncomputable def dw(j i:Nat)(g f:CO D)(γ:Ctx):Option Fl:=(wX γ[j]?).bind λa=>if i=j\/γ.length<=i then none else (kP j i g f γ a).map λI=> .next ((γ.set j<|.nest I).set i .no)
noncomputable def KG(i:Nat)(F:CO Fl)(γ:Ctx):Option Fl:=(jZ γ[i]?).bind λa=>F<|γ.set i<|.val<|.lst a
noncomputable def iX(i:Nat)(F:CO Fl)(γ:Ctx):Option Fl:=(wX γ[i]?).bind λa=>F<|γ.set i<|.val<|.lst<|a.map D.lst
noncomputable def HJ(is:List Nat)(f:CO D)(γ:Ctx):Option Fl:=(f γ).bind λd=>match d with
 | .lst a=>if a.length=is.length then bX (.next<|q9 is a γ)else none
 | _=>none
noncomputable def K3:List D->Option (List Str)
 | []=>bX []
 | .str x::r=>(K3 r).map λl=>x::l
 | _::_=>none
def jO(x:Str):Bool:=decide<|x.length<=1000
noncomputable def rL(f:CO D)(g:CO (Sk×List D))(γ:Ctx):Option D:=(f γ).bind λd=>(g γ).bind λa=>match d,a.1 with
 | .str sep,.L=>(K3 a.2).bind λl=>if l.length<=lim/\l.all jO=cz/\jO sep=cz then bX (.str<|Tp sep l)else none
 | _,_=>none
noncomputable def k8(f g:CO D)(γ:Ctx):Option D:=(f γ).bind λd=>((g γ).bind i0).bind λi=>match d with
 | .str z=>if jO z=cz then (f6 z.cps.toList.length i).bind λk=>z.cps.toList[k]?.map λc=> .str ⟨#[c]⟩else none
 | _=>none
noncomputable def x9(f:CO D)(γ:Ctx):Option D:=(f γ).bind λd=>match d with
 | .str z=>if jO z=cz then bX (.int z.length)else none
 | _=>none
noncomputable def Le(k1 I k2 O:Str)(f:CO D)(γ:Ctx):Option D:=(f γ).bind λd=>match d with
 | .str x=>if k1=k2 then none else if x=k1 then bX (.str I)else if x=k2 then bX (.str O)else none
 | _=>none
noncomputable def dr(f g:CO D)(γ:Ctx):Option D:=((f γ).bind i0).bind λi=>((g γ).bind i0).map λj=> .int (if j<i then j else i)
abbrev Xn:=Str×Option Int
def L5:CO Xn:=λ_=>none
def uU(c:Str):CO Xn:=λ_=>bX (c,none)
noncomputable def L4(k:CO Bool)(G H:CO Xn):CO Xn:=λa=>(k a).bind λb=>if b=cz then G a else H a
noncomputable def IK(G:CO Xn)(F:CO Fl)(H:CO Xn):CO Xn:=λb=>match G b with
 | some c=>bX c
 | none=>(F b).bind λI=>match I with
  | .next a=>H a
  | _=>none
def HL(n:Nat)(G:CO Xn)(ds:List D):Option Xn:=G<|z6 n ds
noncomputable def XQ(f:CO D)(g:CO (Sk×List D)):CO D:=λb=>(f b).bind λd=>(g b).bind λa=>(i0 d).bind λi=>(vL a.2).map λl=> .bl (!decide (i∈l))
end DL
namespace DL
open PySem L2
open PySem.W (KasT kas_sort)
def xX(z:Str):List D:=z.cps.toList.map λc=>D.str ⟨#[c]⟩
noncomputable def Ax(f:CO D)(γ:Ctx):Option (List D):=(f γ).bind λd=>match d with
 | .str z=>if jO z=cz then bX (xX z)else none
 | _=>none
noncomputable def Yc(f:CO D)(γ:Ctx):Option (List D):=(f γ).bind λd=>match d with
 | .str z=>if jO z=cz then bX (xl<|xX z)else none
 | _=>none
noncomputable def oj(f:CO D)(γ:Ctx):Option (List D):=(f γ).bind λd=>match d with
 | .lst a=>bX (xl a)
 | _=>none
noncomputable def Ld(f:CO D)(g:CO (Sk×List D))(γ:Ctx):Option D:=(f γ).bind λd=>(g γ).bind λa=>match d with
 | .str x=>(K3 a.2).map λl=> .bl (l.any λy=>y==x)
 | _=>none
noncomputable def FI(f g:CO D)(γ:Ctx):Option D:=(f γ).bind λd=>(g γ).bind λe=>match d,e with
 | .str x,.str y=>if jO x=cz/\jO y=cz then bX (.str<|x++y)else none
 | _,_=>none
noncomputable def LG(f:CO D)(l h:CO (Option Int))(γ:Ctx):Option D:=(f γ).bind λd=>(l γ).bind λlo=>(h γ).bind λa=>match d with
 | .str z=>if jO z=cz then bX (.str<|Txt.slice z lo a)else none
 | _=>none
noncomputable def Ei(f:CO (Sk×List D))(γ:Ctx):Option (List D):=(f γ).bind λa=>match a.1 with
 | .L=>if a.2.length<=lim then bX a.2.reverse else none
 | _=>none
def mz:D->Option (Int×Int)
 | .tup [.int a,.int b]=>bX (a,b)
 | _=>none
noncomputable def ZE:List D->Option (List<|Int×Int)
 | []=>bX []
 | d::r=>(mz d).bind λp=>(ZE r).map λl=>p::l
def vQ(x y:Int×Int):Bool:=if x.1=y.1 then decide (x.2<y.2)else decide (x.1<y.1)
noncomputable def ka{z:Type}(lt:Nat->Nat->Bool):KasT z->z
 | .ret a=>a
 | .ask i j k=>ka lt<|k<|lt i j
noncomputable def j7(ps:List (Int×Int)):List Nat:=if ps.length<2 then LW ps.length else (ka (λi j=>vQ (ps.getD i (0,0))<|ps.getD j (0,0))<|kas_sort ps.length).toList
noncomputable def cY(ds:List D):Option (List D):=(ZE ds).bind λa=>if ds.length<64 then bX ((j7 a).map λi=>ds.getD i .el)else none
noncomputable def dm(f:CO (Sk×List D))(γ:Ctx):Option (List D):=(f γ).bind λa=>match a.1 with
 | .L=>cY a.2
 | _=>none
end DL
namespace DL
open PySem L2
noncomputable def FF(i:Nat)(f:CO (List D))(γ:Ctx):Option Fl:=(jZ γ[i]?).bind λa=>(f γ).bind λb=>if a.length+b.length<=lim then bX (.next<|γ.set i<|.own<|a++b)else none
noncomputable def AB(F G:List D->Option Res)(g:CO (List D))(γ:Ctx):Option (List D):=(g γ).bind λl=>match l with
 | [p,.str z,t,b]=>((if z=("r" : Str)then F else G) [p,t,b]).bind uN
 | _=>none
noncomputable def QR:List D->Option (List Int)
 | []=>bX []
 | .int i::r=>(QR r).map λl=>i::l
 | _::_=>none
noncomputable def nC(ds es:List D):Option D:=match QR ds with
 | some a=>if ds.length=es.length/\a.Nodup/\ds.length<=lim then bX (.lN ds es)else none
 | none=>none
noncomputable def W3:List D->List D->Int->Option D
 | k::ks,v::vs,i=>match k with
  | .int j=>if j=i then bX v else W3 ks vs i
  | _=>W3 ks vs i
 | _,_,_=>none
open PySem.Spec PyProof.Rows
structure RS(K:LX)(E0 E H0 H:Hp)(σ:St)(γ:Ctx):Prop where
 rc:RC K H0 H σ γ
 ext:Ext E0 E H0 H
 fresh : ∀(i:Nat) ds a,γ[i]? = bX (.own ds)->σ[i]? = bX (bX (.ref a))->E a=none
 u4 : ∀(i:Nat) rows a xs,γ[i]? = bX (.nest rows)->σ[i]? = bX (bX (.ref a))->H a=bX (.lst xs)->E a=none/\∀b,V.ref b∈xs->E b=none
noncomputable def Sat(K:LX)(E0 E:Hp)(D:Ends):Fl->Prop
 | .next f=>∀e H b,RS K E0 E b H e f->D.nx e H
 | .brk f=>∀e H b,RS K E0 E b H e f->D.bk e H
 | .cont f=>∀e H b,RS K E0 E b H e f->D.ct e H
 | .ret (.val d)=>∀v H b,Ext E0 E b H->Rep K b d v->D.rt v H
 | .ret (.own es)=>∀a g H b,Ext E0 E b H->E a=none->b a=none->H a=bX (.lst g)->d5 K b es g->D.rt (.ref a) H
noncomputable def tS(K:LX)(F:CO Fl):TS:=λD d H=>∃E0 E b a I,RS K E0 E b H d a/\F a=bX I/\Sat K E0 E D I
abbrev kr(X:Cx)(st:i3)(F:CO Fl):Prop:=PS X st (tS X.K F)
abbrev gZ(X:Cx)(S_:List i3)(F:CO Fl):Prop:=p6 X S_ (tS X.K F)
section
variable{K:LX}{E0 E H0 H z3 H':Hp}{σ:St}{γ:Ctx}
theorem RS.step(r:RS K E0 E H0 H σ γ)(e:Ext H0 H z3 H'):RS K E0 E z3 H' σ γ:=⟨r.rc.ext e,r.ext.trans e,r.fresh,λi b a g d f O=>by obtain⟨U,bs,I,g2,_⟩:=r.rc.m4.1 i b d;rw[f]at I;cases I;have:=e.s1 a _ g2.ha;rw[O]at this;cases this;exact r.u4 i b a _ d f g2.ha⟩
theorem zJ{z:Type}{l:List z}{i j:Nat}{x y:z}(h:(l.set i x)[j]? = bX y):(j=i/\y=x/\i<l.length)\/(j≠i/\l[j]? = bX y):=by
 by_cases e:i=j
 ·subst e
  by_cases I:i<l.length
  ·rw[Mx I]at h;cases h;exact .inl ⟨rfl,rfl,I⟩
  ·rw[List.set_eq_of_length_le ⋯]at h
   exact absurd (Mo.mp h).1 I
 ·rw[Md e]at h;exact .inr ⟨MD e,h⟩
theorem n6.u7{i:Nat}{d:D}{v:V}(n:n6 K H0 H σ γ):n6 K H0 H (σ.set i<|some v) (γ.set i<|.val d):=
 ⟨λj b e=>by
  rcases zJ e with⟨_,z,_⟩ | ⟨U,z⟩
  ·cases z
  ·obtain⟨a,bs,h,l,Y⟩:=n.1 j b z
   refine⟨a,bs,by rw[Md (MD U)];exact h,l,λk g c f I=>?_⟩;rcases zJ f with⟨_,z,_⟩ | ⟨m,O⟩
   ·cases z
   ·rw[Md (MD m)]at I;exact Y k g c O I,
 λj k o p f I=>by
  rcases zJ f with⟨_,z,_⟩ | ⟨_,O⟩
  ·cases z
  ·rcases zJ I with⟨_,z,_⟩ | ⟨_,r⟩
   ·cases z
   ·exact n.2 j k o p O r⟩
theorem RC.u7{i:Nat}{d:D}{v:V}(r:RC K H0 H σ γ)(h:Rep K H0 d v):RC K H0 H (σ.set i<|some v) (γ.set i<|.val d):=by
 refine⟨r.sub,by simp[r.len],λj g e=>?_,λj b e=>?_,λj k a b n l m U Y=>?_,r.m4.u7⟩
 ·rcases zJ e with⟨rfl,z,f⟩ | ⟨I,z⟩
  ·cases z;exact⟨v,Mx (by rw[r.len];exact f),h⟩
  ·obtain⟨p,O,g2⟩:=r.val j g z
   exact⟨p,by rw[Md (MD I)];exact O,g2⟩
 ·rcases zJ e with⟨rfl,z,f⟩ | ⟨I,z⟩
  ·cases z
  ·obtain⟨a,s,O,g2⟩:=r.own j b z
   exact⟨a,s,by rw[Md (MD I)];exact O,g2⟩
 ·rcases zJ l with⟨_,z,_⟩ | ⟨I,t⟩
  ·cases z
  ·rcases zJ m with⟨_,z,_⟩ | ⟨o,u⟩
   ·cases z
   ·rw[Md (MD I)]at U
    rw[Md (MD o)]at Y;exact r.ne j k a b n t u U Y
theorem RS.u7{i:Nat}{d:D}{v:V}(r:RS K E0 E H0 H σ γ)(h:Rep K H0 d v):RS K E0 E H0 H (σ.set i<|some v) (γ.set i<|.val d):=
 ⟨r.rc.u7 h,r.ext,λj f a e I=>by
  rcases zJ e with⟨_,z,_⟩ | ⟨O,z⟩
  ·cases z
  ·rw[Md (MD O)]at I;exact r.fresh j f a z I,
 λj b a g e I U=>by
  rcases zJ e with⟨_,z,_⟩ | ⟨O,z⟩
  ·cases z
  ·rw[Md (MD O)]at I;exact r.u4 j b a g z I U⟩
theorem yx : ∀{I bs:List dv},I.map V.ref=bs.map V.ref->I=bs
 | [],[],_=>rfl
 | [],_::_,h=>by cases h
 | _::_,[],h=>by cases h
 | a::I,b::bs,h=>by rw[MI,MI]at h;injection h with h1 h2;injection h1 with h1;rw[h1,yx h2]
theorem RS.S'{i:Nat}{es:List D}{a:dv}{xs:List V}{J G:Hp}(r:RS K E0 E J G σ γ)(e:Ext J G H0 H)(C:G a=none)(L:H0 a=none)(M:H a=bX (.lst xs))(S:d5 K H0 es xs) :
 RS K E0 E H0 H (σ.set i<|some (.ref a)) (γ.set i<|.own es):=by
 have rc:=r.rc.ext e;have no : ∀(j:Nat) f,γ[j]? = bX (.own f)->¬σ[j]? = bX (bX (.ref a)):=λj f g z=>by obtain⟨b,u,I,g2,g3,_⟩:=r.rc.own j f g;rw[z]at I;cases I;rw[C]at g3;cases g3
 refine⟨⟨rc.sub,by simp[rc.len],λj x g=>?_,λj f g=>?_,λj k b f fs t Y h l=>?_,⟨λj d g=>?_,λj k F N I g2=>?_⟩⟩,r.ext.trans e,λj f b I g2=>?_,λj d b xs I g2 g3=>?_⟩
 ·rcases zJ g with⟨_,z,_⟩ | ⟨O,z⟩
  ·cases z
  ·obtain⟨P,I,g2⟩:=rc.val j x z
   exact⟨P,by rw[Md (MD O)];exact I,g2⟩
 ·rcases zJ g with⟨rfl,z,U⟩ | ⟨O,z⟩
  ·cases z;exact⟨a,xs,Mx (by rw[rc.len];exact U),L,M,S⟩
  ·obtain⟨b,u,I,g2⟩:=rc.own j f z
   exact⟨b,u,by rw[Md (MD O)];exact I,g2⟩
 ·rcases zJ t with⟨rfl,z,U⟩ | ⟨O,m⟩
  ·rcases zJ Y with⟨rfl,_,_⟩ | ⟨n,p⟩
   ·rfl
   ·rw[Mx (by rw[rc.len];exact U)]at h
    rw[Md (MD n)]at l;cases h;exact absurd l<|no k fs p
  ·rcases zJ Y with⟨rfl,z,U⟩ | ⟨n,p⟩
   ·rw[Mx (by rw[rc.len];exact U)]at l
    rw[Md (MD O)]at h;cases l;exact absurd h<|no j f m
   ·rw[Md (MD O)]at h
    rw[Md (MD n)]at l;exact rc.ne j k b f fs m p h l
 ·rcases zJ g with⟨_,z,_⟩ | ⟨O,z⟩
  ·cases z
  ·obtain⟨b,bs,I,g2,g3⟩:=r.rc.m4.1 j d z
   obtain⟨R,s,f1,f2,A⟩:=rc.m4.1 j d z;rw[I]at f1;cases f1;have y:s.map V.ref=bs.map V.ref:=by have:=e.s1 b _ g2.ha;rw[f2.ha]at this;injection this with this;injection this
   have w:s=bs:=yx y;subst w;refine⟨b,s,by rw[Md (MD O)];exact I,f2,λk f c t Y=>?_⟩;rcases zJ t with⟨rfl,_,U⟩ | ⟨n,m⟩
   ·rw[Mx (by rw[rc.len];exact U)]at Y;cases Y
    intro B;obtain⟨_,Q,q⟩:=g2.at B;rw[C]at q;cases q
   ·rw[Md (MD n)]at Y;exact A k f c m Y
 ·rcases zJ I with⟨_,z,_⟩ | ⟨_,m⟩
  ·cases z
  ·rcases zJ g2 with⟨_,z,_⟩ | ⟨_,p⟩
   ·cases z
   ·exact rc.m4.2 j k F N m p
 ·rcases zJ I with⟨rfl,z,U⟩ | ⟨O,z⟩
  ·rw[Mx (by rw[rc.len];exact U)]at g2;cases g2
   cases q:E a with
   | none=>rfl
   | some o=>rw[r.ext.s1 a o q]at C;cases C
  ·rw[Md (MD O)]at g2;exact r.fresh j f b z g2
 ·rcases zJ I with⟨_,z,_⟩ | ⟨O,z⟩
  ·cases z
  ·rw[Md (MD O)]at g2;exact(r.step e).u4 j d b xs z g2 g3
theorem RS.rewrite{i:Nat}{ds es:List D}{a:dv}{xs ys:List V}(r:RS K E0 E H0 H σ γ)(C:γ[i]? = bX (.own ds))(hs:σ[i]? = bX (bX (.ref a)))(J:d5 K H0 es ys) :
 RS K E0 E H0 (upd H a<|.lst ys) σ (γ.set i<|.own es):=by
 obtain⟨G,L,g1,g2,g3,N⟩:=r.rc.own i ds C;rw[hs]at g1;cases g1;have as:i<γ.length:=(Mo.mp C).1;refine⟨⟨λb o q=>?_,by simp[r.rc.len],λj x g=>?_,λj fs g=>?_,λj k b fs gs e I l y=>?_,⟨λj d g=>?_,λj k B F e I=>?_⟩⟩,⟨r.ext.s0,λb o q=>?_,λb o q=>?_,r.ext.new⟩,λj fs b e I=>?_,λj d b s e I l=>?_⟩
 ·rw[zL (λz=>by rw[z,g2]at q;cases q)];exact r.rc.sub b o q
 ·rcases zJ g with⟨_,z,_⟩ | ⟨m,z⟩
  ·cases z
  ·exact r.rc.val j x z
 ·rcases zJ g with⟨rfl,z,P⟩ | ⟨m,z⟩
  ·cases z;exact⟨a,ys,hs,g2,zN,J⟩
  ·obtain⟨b,s,O,U,Y,A⟩:=r.rc.own j fs z
   refine⟨b,s,O,U,?_,A⟩;rw[zL (λq=>m<|r.rc.ne j i a fs ds z C (by rw[O,q]) hs)];exact Y
 ·have u : ∃f,γ[j]? = bX (.own f):=by
   rcases zJ e with⟨q,_,_⟩ | ⟨_,z⟩
   ·exact⟨ds,by rw[q];exact C⟩
   ·exact⟨fs,z⟩
  have w : ∃f,γ[k]? = bX (.own f):=by
   rcases zJ I with⟨q,_,_⟩ | ⟨_,z⟩
   ·exact⟨ds,by rw[q];exact C⟩
   ·exact⟨gs,z⟩
  obtain⟨O,h⟩:=u;obtain⟨U,p⟩:=w;exact r.rc.ne j k b O U h p l y
 ·rcases zJ g with⟨_,z,_⟩ | ⟨m,z⟩
  ·cases z
  ·obtain⟨b,bs,O,U,Y⟩:=r.rc.m4.1 j d z
   have t:=Y i ds a C hs;refine⟨b,bs,O,U.move (gh.refl _) (λc n=>(U.at n).1)<|λc n=>zL λq=>t<|q ▸ n,λk fs c e I=>?_⟩;rcases zJ e with⟨q,_,_⟩ | ⟨_,h⟩
   ·rw[q,hs]at I;cases I;exact t
   ·exact Y k fs c h I
 ·rcases zJ e with⟨_,z,_⟩ | ⟨_,h⟩
  ·cases z
  ·rcases zJ I with⟨_,z,_⟩ | ⟨_,p⟩
   ·cases z
   ·exact r.rc.m4.2 j k B F h p
 ·rw[zL (λz=>by rw[z,r.fresh i ds a C hs]at q;cases q)];exact r.ext.s1 b o q
 ·rw[zL (λz=>by rw[z,g2]at q;cases q)];exact r.ext.sub b o q
 ·rcases zJ e with⟨q,_,_⟩ | ⟨_,z⟩
  ·rw[q]at I;exact r.fresh i ds b C I
  ·exact r.fresh j fs b z I
 ·rcases zJ e with⟨_,z,_⟩ | ⟨m,z⟩
  ·cases z
  ·obtain⟨M,bs,O,U,Y⟩:=r.rc.m4.1 j d z
   rw[I]at O;cases O;rw[zL (show b≠a from λq=>Y i ds a C hs<|by rw[q];exact Mn)]at l;exact r.u4 j d b s z I l
end
section
variable{X:Cx}{e a b c:eh}{pos:gB}{st:i3}{yb:List i3}
theorem jM:gZ X [] xM:=oC sA λD b H I=>by obtain⟨E0,E,a,e,d,O,U,Y⟩:=I;cases U;exact Y b H a O
theorem zf{F G:CO Fl}(z:kr X st F)(C:gZ X yb G):gZ X (st::yb) (zQ F G):=oC (lL z C) λD l H Y=>by
 obtain⟨E0,E,d,i,g,h,I,O⟩:=Y;obtain⟨U,f,I⟩:=zg I;refine⟨E0,E,d,i,U,h,f,?_⟩;cases U with
 | next a=>exact λj k b e=>⟨E0,E,b,a,g,e,I,O⟩
 | brk a=>cases I;exact O
 | cont a=>cases I;exact O
 | ret r=>cases I;cases r<;>exact O
theorem zu(z:kr X st F):gZ X [st] F:=dZ z
theorem zG(h:o.map f=bX y) : ∃x,o=bX x/\f x=y:=by
 cases o with
 | none=>cases h
 | some x=>exact⟨x,rfl,by simpa using h⟩
theorem zT{f:CO D}(h:PV X e f):kr X (.Return (bX e) pos) (qp f):=ky (eC h) λD l H U=>by obtain⟨E0,E,g,j,k,O,I,Y⟩:=U;obtain⟨d,i,I⟩:=zG I;subst I;exact⟨g,j,d,O.rc,i,λv b a x r=>Y v b a (O.ext.trans x) r⟩
theorem qP{f:CO (List D)}(h:PO X e f):kr X (.Return (bX e) pos) (vX f):=ky (eC h) λD t H U=>by
 obtain⟨E0,E,i,p,s,I,O,Y⟩:=U;obtain⟨j,k,O⟩:=zG O;subst O;refine⟨i,p,j,I.rc,k,λa n g b x d l m r=>Y a n g b (I.ext.trans x) ?_ l m r⟩;cases q:E a with
 | none=>rfl
 | some o=>rw[I.ext.s1 a o q]at d;cases d
theorem yv(i:Nat)(h:PE X e (uI i)):kr X (.Return (bX e) pos) (vK i):=ky (eC h) λD s H Y=>by
 obtain⟨E0,E,j,p,r,O,I,U⟩:=Y;unfold vK at I;cases b:p[i]? with
 | none=>rw[b]at I;cases I
 | some c=>
  rw[b]at I;cases c with
  | no=>cases I
  | val d=>
   cases I;obtain⟨v,f,g⟩:=O.rc.val i d b;exact⟨v,f,U v H j O.ext g⟩
  | nest l=>cases I
  | own k=>
   cases I;obtain⟨a,o,f,g,m,n⟩:=O.rc.own i k b;exact⟨_,f,U a o H j O.ext (O.fresh i k a b f) g m n⟩
theorem Yk:kr X (.Continue pos) rP:=ky Vp λD b H ⟨E0,E,a,d,Y,I,O,U⟩=>by cases O;exact U b H a I
theorem Yj:kr X st Yb:=ky lP λD d H ⟨E0,E,a,b,O,U,I,Y⟩=>by cases I
theorem xi{k:CO Bool}{F G:CO Fl}{x y:List i3}(J:mm X c k)(z:gZ X x F)(C:gZ X y G):kr X (.If c x y pos) (l9 k F G):=ky (FZ J z C) λD h H f=>by
 obtain⟨E0,E,d,b,U,O,I,Y⟩:=f;obtain⟨t,e,I⟩:=zg I;refine⟨d,b,t,O.rc,e,λg a x=>?_⟩;cases t with
 | true=>rw[UJ rfl]at I ⊢;exact⟨E0,E,a,b,U,O.step x,I,Y⟩
 | false=>rw[UY MO]at I ⊢;exact⟨E0,E,a,b,U,O.step x,I,Y⟩
theorem sC(i:Nat){f:CO D}(h:PS X st (Wn (tV X.K f)<|yP i)):kr X st (jy i f):=ky h λD l H U=>by obtain⟨E0,E,b,g,k,O,I,Y⟩:=U;obtain⟨d,e,I⟩:=zG I;subst I;exact⟨b,g,d,O.rc,e,λv j a x r=>Y _ _ a<|(O.step x).u7 r⟩
theorem XW(i:Nat){f:CO (List D)}(h:PS X st (Wn (tO X.K f)<|yP i)):kr X st (qw i f):=ky h λD s H U=>by obtain⟨E0,E,d,m,o,O,I,Y⟩:=U;obtain⟨e,g,I⟩:=zG I;subst I;exact⟨d,m,e,O.rc,g,λa p n b x j k l r=>Y _ _ b<|O.S' x j k l r⟩
theorem qW(h:jZ o=bX ds):o=bX (.own ds):=by
 cases o with
 | none=>cases h
 | some c=>cases c<;>simp[jZ]at h;rw[h]
theorem aS(i:Nat){f:CO D}(h:PE X e (UR X.K "list" dJ (uI i) (Ah (tV X.K f) HE)))(hs:y6 e none pos.line X.env=pure dn:=by rfl):kr X (.Expr e pos) (jI i f):=
 ky (Vo h hs) λD A H t=>by
  obtain⟨E0,E,m,u,y,O,I,n⟩:=t;obtain⟨j,b,I⟩:=zg I;obtain⟨d,s,I⟩:=zg I;have b:=qW b;by_cases U:j.length<lim
  ·rw[UJ U]at I;cases I
   obtain⟨a,xs,k,z,Y,l⟩:=O.rc.own i j b;refine⟨_,k,.inl ⟨rfl,_,fA.of Y⟩,m,u,d,O.rc,s,λv w g x r=>?_⟩;have o:=O.step x;have p:=x.s1 _ _ Y;refine⟨a,xs,v,rfl,rfl,p,?_,?_⟩
   ·exact MA (by rw[l.length];exact U)<|k5<|Mf _
   ·exact n _ _ g<|o.rewrite (xs:=xs) b k<|(l.mono x.s0).append (d5.cons r d5.nil)
  ·rw[UY U]at I;cases I
end
noncomputable def LC(K:LX)(H0 H:Hp)(Q:VK):Res->Prop
 | .val d=>∀v e b,Ext H0 H b e->Rep K b d v->Q v e
 | .own g=>∀a f e b,Ext H0 H b e->H a=none->b a=none->e a=bX (.lst f)->d5 K b g f->Q (.ref a) e
noncomputable def qs(K:LX)(n:Nat)(F:List D->Option Res):Sp:=λd H Q _=>∃a b r,gh a H/\d5 K a b d/\b.length=n/\F b=bX r/\LC K a H Q r
theorem qs.len{K:LX}{n:Nat}{F:List D->Option Res}{ps:List Str}(z:ps.length=n) : ∀vs H Q E,qs K n F vs H Q E->vs.length=ps.length:=λvs H Q E h=>by obtain⟨d,e,r,_,a,b,_⟩:=h;rw[a.length,b,z]
section
variable{P:h6}{w:g8}{K:LX}{mg:UZ}{base:e9}
theorem lj(s:gh H0 H)(h:d5 K H0 ds vs)(z:ds.length<=N.length):RS K H0 H H0 H (ZM N vs) (z6 N.length ds):=by
 have I:=h.length;refine⟨⟨s,by simp[L2.ZM,z6,I],λi d e=>?_,λi g e=>?_,λi j a g fs e _ _ _=>?_,n6.E1 λi f e=>?_⟩,Ext.refl s,λi g a e _=>?_,λi f a l e _ _=>?_⟩
 all_goals unfold z6 at e
 ·by_cases b:i<ds.length
  ·rw[Nk (by simpa using b),MC]at e
   cases e1:ds[i]? with
   | none=>rw[e1]at e;cases e
   | some k=>
    rw[e1]at e;cases e;obtain⟨x,O,g2⟩:=h.get e1;refine⟨x,?_,g2⟩;unfold L2.ZM;rw[Nk (by simp;omega),MC,O];rfl
  ·rw[MY (by simpa using b),PH]at e
   split at e<;>cases e
 all_goals
  by_cases b:i<ds.length
  ·rw[Nk (by simpa using b),MC]at e
   cases e1:ds[i]? with
   | none=>rw[e1]at e;cases e
   | some k=>rw[e1]at e;cases e
  ·rw[MY (by simpa using b),PH]at e
   split at e<;>cases e
theorem Cs{x qual:Str}{st:i3}{f:dv}{C:o5}{N ps:List Str}{k:Nat}{F:CO Fl}(Y:L2.DI K x qual st f C)(S:E9 N ps (jH st))
 (J : ∀(z:dy) (A:j1) (outer:List m6) (s:d7) (H:Hp) (E:XK),my k (A.deeper<|envOfC qual (jH st) s.heap.objs.size f z)->gZ (ug o9 P w K mg base N qual (jH st) f z A outer s H E).H8 (yE st) F) :
 o4 P w K mg base o9 (k+1) f C ps (qs K ps.length<|jj N.length F):=by
 refine Y.ok S (qs.len rfl)<|λz A outer s H B Q E m h=>⟨_,J z A outer s H E m,?_⟩;obtain⟨b,g,r,o,j,u,l,O⟩:=h;obtain⟨U,i,I⟩:=zg l;have t:ps.length<=N.length:=by have:=congrArg List.length S.pre;rw[Ou]at this;omega
 refine⟨b,H,b,z6 N.length g,U,lj o j ⋯,i,?_⟩;cases U with
 | ret y=>cases I;cases r<;>exact O
 | next d=>cases I;exact λp e a n=>O .el e a n.ext (show V.el = .el from rfl)
 | brk d=>cases I
 | cont d=>cases I
end
section
variable{X:Cx}{es:List eh}{pos p:gB}{k:Nat}{f:dv}{fd:o5}{ps:List Str}{x:Str}{F:List D->Option Res}{g:CO (List D)}
theorem su{A0:List eh}(G:o4 X.prog X.w X.K X.mg X.base o9 k f fd ps (qs X.K ps.length F))(z:C1 X es g)(J : ∀γ ds,g γ=bX ds->ds.length=ps.length)
 (C : ∀{t:TA},PA X es t->PE X (.Call (.Name x p) es [] pos) (pS (qs X.K ps.length F) [] E0 t)):PV X (.Call (.Name x p) es [] pos) (zH F g):=
 qr (C z) λL H Q u=>by
  obtain⟨l,γ,d,rc,I,q⟩:=u;obtain⟨ds,i,I⟩:=zg I;obtain⟨r,n,I⟩:=zG I;refine⟨l,γ,ds,rc,i,λE B m x1 y=>⟨m,ds,r,x1.sub,by simpa using y,J γ ds i,n,?_⟩⟩;subst I;cases r with
  | val d=>exact λv e b O h=>q v e b (x1.trans O) h
  | own fs=>
   refine λa A e b O o j s h=>q _ e _ (x1.trans<|O.show o j s x1.sub) ?_;exact(show ∃U Y,V.ref a = .ref U/\fA X.K _ U Y/\d5 X.K _ fs Y from⟨a,A,rfl,fA.of zN,h.mono<|jc j _⟩)
theorem sL(G:o4 X.prog X.w X.K X.mg X.base o9 k f fd ps (qs X.K ps.length F))(C:C1 X es g)(O : ∀γ ds,g γ=bX ds->ds.length=ps.length)
 (U : ∀{t:TA},PA X es t->PE X (.Call (.Name x p) es [] pos) (pS (qs X.K ps.length F) [] E0 t)):PO X (.Call (.Name x p) es [] pos) (jF F g):=
 qr (U C) λL H Q Y=>by
  obtain⟨j,γ,fs,rc,I,q⟩:=Y;obtain⟨ds,e,I⟩:=zg I;obtain⟨r,m,I⟩:=zg I;refine⟨j,γ,ds,rc,e,λJ E l x1 u=>⟨l,ds,r,x1.sub,by simpa using u,O γ ds e,m,?_⟩⟩;cases r with
  | val d=>cases I
  | own gs=>
   cases I;exact λa B i b A h n s y=>q a B i b (x1.trans A) (by
    cases z:H a with
    | none=>rfl
    | some o=>rw[x1.s1 a o z]at h;cases h) n s y
end
structure Walk(K:LX)(H0 Hs:Hp)(J:It)(ds:List D):Prop where
 go : ∀i H1,gh Hs H1->i<ds.length->J.go i H1
 stop : ∀H1,gh Hs H1->J.stop ds.length H1
 B4 : ∀i H1 x Ud,gh Hs H1->i<ds.length->J.B4 i H1 x Ud->∃d,ds[i]? = bX d/\∀G0,gh H0 G0->gh G0 H1->∃Uc,Ext G0 H1 Uc Ud/\Rep K Uc d x
theorem Walk.weak{K:LX}{H0 z I:Hp}{J:It}{ds:List D}(w:Walk K H0 z J ds)(s:gh z I):Walk K H0 I J ds:=
 ⟨λi a h=>w.go i a<|s.trans h,λa h=>w.stop a<|s.trans h,λi a x b h=>w.B4 i a x b<|s.trans h⟩
theorem XC{k:Sk}{K:LX}{H0 z:Hp}{a:dv}{xs:List V}{ds:List D}(h:i5 k K z a xs)(r:d5 K H0 ds xs):Walk K H0 z (Ue k K a) ds:=by
 have U:=r.length;refine⟨λi b s n=>?_,λb s=>?_,λi b x f s n y=>?_⟩
 ·have g:i<xs.length:=by omega
  cases k with
  | L=>exact⟨xs,xs[i],s.seq h,LZ g⟩
  | T=>exact⟨xs,xs[i],m1 s h,LZ g⟩
 ·cases k with
  | L=>exact⟨xs,s.seq h,by omega⟩
  | T=>exact⟨xs,m1 s h,by omega⟩
 ·have e:f=b/\xs[i]? = bX x:=by
   cases k with
   | L=>exact⟨y.1,y.2 xs<|s.seq h⟩
   | T=>exact⟨y.1,y.2 xs<|m1 s h⟩
  obtain⟨l,I⟩:=e;subst l;obtain⟨d,m,O⟩:=r.DR I;exact⟨d,m,λj o p=>⟨j,Ext.refl p,O.mono o⟩⟩
theorem Zl(lo:Int)(n:Nat):(xf lo n).length=n:=by simp[xf]
theorem QV{K:LX}{H0 z:Hp}(lo:Int)(n:Nat):Walk K H0 z (Dn lo n) (xf lo n):=by
 refine⟨λi b s a=>?_,λb s=>?_,λi b x e s a y=>?_⟩
 ·rw[Zl]at a;exact a
 ·rw[Zl];exact Mf _
 ·rw[Zl]at a
  obtain⟨f,I⟩:=y;subst f I;exact⟨.int<|lo+i,by simp[xf,a],λd h g=>⟨d,Ext.refl g,(show V.int (lo+i) = .int (lo+i)from rfl)⟩⟩
theorem iu{k1 k2:Sk}{K:LX}{H0 z:Hp}{a b:dv}{xs ys:List V}{ds es:List D}(C:i5 k1 K z a xs)(O:d5 K H0 ds xs)(J:i5 k2 K z b ys)(L:d5 K H0 es ys) :
 Walk K H0 z (P1 k1 k2 K a b) (vI ds es):=by
 have B:=O.length;have E:=L.length;have A:(vI ds es).length=min ds.length es.length:=by simp[vI]
 refine⟨λi f s t=>?_,λf s=>?_,λi f x j s t y=>?_⟩
 ·exact⟨xs,ys,vJ s C,vJ s J,by omega,by omega⟩
 ·refine⟨xs,ys,vJ s C,vJ s J,?_⟩
  rw[A];omega
 ·obtain⟨p,u,v,m,I,n,g1,g2⟩:=y
  obtain⟨d,r,w⟩:=O.DR<|g1 xs<|vJ s C;obtain⟨c,o,k⟩:=L.DR<|g2 ys<|vJ s J;refine⟨.tup [d,c],?_,λh g e=>⟨upd h p<|.tup [u,v],?_,?_⟩⟩
  ·have l:(ds.zip es)[i]? = bX (d,c):=List.getElem?_zip_eq_some.mpr ⟨r,o⟩
   simp[vI,l]
  ·rw[n];exact Ext.alloc e I _
  ·rw[m]
   exact(show ∃U Y,V.ref p = .ref U/\g5 K _ U Y/\d5 K _ [d,c] Y from⟨p,[u,v],rfl,g5.of zN,d5.cons ((w.mono g).mono (jc (jo e I) _))<|d5.cons ((k.mono g).mono (jc (jo e I) _)) d5.nil⟩)
noncomputable def T7(K:LX)(z:CO (List D)):TI:=λg H R=>∃d f e,RC K d H g f/\z f=bX e/\∀J b a,Ext d H a b->Walk K a b J e->R J b
noncomputable def T8(K:LX)(z:CO (List D)):TI:=λg H R=>∃d f e,RC K d H g f/\z f=bX e/\∀J b a,Ext d H a b->Walk K a a J e->R J b
abbrev rf(X:Cx)(tg e:eh)(src:CO (List D)):Prop:=PI X tg e (T7 X.K src)
abbrev h7(X:Cx)(tg e:eh)(src:CO (List D)):Prop:=PI X tg e (T8 X.K src)
section
variable{X:Cx}{tg e a b:eh}{pos p:gB}
theorem h7.c(h:h7 X tg e src):rf X tg e src:=X0 h λi H R ⟨d,g,f,rc,I,q⟩=>⟨d,g,f,rc,I,λJ b a x w=>q J b a x<|w.weak x.sub⟩
theorem jh(h:PQ X e f):rf X tg e (zV f):=X0 (eO h) λp H R I=>by obtain⟨i,n,o,rc,O,q⟩:=I;obtain⟨⟨k,l⟩,j,U⟩:=zG O;subst U;exact⟨i,n,k,l,rc,j,λa m g b x d _ r=>⟨a,k,rfl,⟨m,d⟩,q _ g b x<|XC d r⟩⟩
theorem eI(h:PV X e f):h7 X tg e (zV<|zF f):=X0 (eO h) λu H R U=>by
 obtain⟨o,s,t,rc,Y,q⟩:=U;obtain⟨⟨k,l⟩,g,I⟩:=zG Y;subst I;obtain⟨d,p,g⟩:=zg g;refine⟨o,s,d,rc,p,λv n b x r=>?_⟩;cases d with
 | tup fs=>
  obtain⟨I,O⟩:k = .T/\l=fs:=by simp[jx]at g;exact⟨g.1.symm,g.2.symm⟩
  subst I O;obtain⟨a,i,rfl,j,m⟩:=(show ∃a i,v = .ref a/\g5 X.K b a i/\d5 X.K b l i from r);exact⟨a,.T,rfl,⟨i,m1 x.sub j⟩,q _ n b x<|XC (k:= .T) j m⟩
 | lst fs=>
  obtain⟨I,O⟩:k = .L/\l=fs:=by simp[jx]at g;exact⟨g.1.symm,g.2.symm⟩
  subst I O;obtain⟨a,i,rfl,j,m⟩:=(show ∃a i,v = .ref a/\fA X.K b a i/\d5 X.K b l i from r);exact⟨a,.L,rfl,⟨i,x.sub.seq j⟩,q _ n b x<|XC (k:= .L) j m⟩
 | _=>simp[jx]at g
theorem jD(h:i0 d=bX i):d = .int i:=by cases d<;>simp[i0]at h;rw[h]
theorem JS(h:inR i=cz) : -(2 ^ 62)<=i/\i<2 ^ 62:=by unfold inR at h;have h:=of_decide_eq_true h;omega
theorem aX(O:Gl X "range")(C:X.mg "range" = none)(z:PV X a f)(hs:ft [a] X.env=[(dn,ej a X.env)]:=by rfl):h7 X tg (.Call (.Name "range" p) [a] [] pos) (zS f):=
 X0 (eQ O C (jr z qu hs) hs) λo H R U=>by
  obtain⟨i,l,m,rc,I,q⟩:=U;obtain⟨n,e,I⟩:=zg I;obtain⟨d,Y,e⟩:=zg e;by_cases g:inR n=cz
  ·rw[UJ g]at I;cases I
   refine⟨i,l,d,rc,Y,λv h b x r=>?_⟩;rw[jD e]at r;obtain⟨j,k⟩:=JS g;exact⟨n,by rw[show v = .int n from r],j,k,q _ h b x<|QV 0 n.toNat⟩
  ·rw[UY g]at I;cases I
theorem aW(Y:Gl X "range")(L:X.mg "range" = none)(C:PV X a f)(J:PV X b g)(hs:ft [a,b] X.env=[(dn,ej a X.env),(dn,ej b X.env)]:=by rfl)(O:ft [b] X.env=[(dn,ej b X.env)]:=by rfl) :
 h7 X tg (.Call (.Name "range" p) [a,b] [] pos) (ku f g):=
 X0 (eP Y L (jr C (jr J qu O)<|by rw[hs,O]) hs O) λM H R B=>by
  obtain⟨l,k,K,rc,I,q⟩:=B;obtain⟨m,i,I⟩:=zg I;obtain⟨d,t,i⟩:=zg i;obtain⟨n,U,I⟩:=zg I;obtain⟨c,u,U⟩:=zg U;by_cases e:inR m=cz/\inR n=cz
  ·rw[UJ e]at I;cases I
   refine⟨l,k,d,rc,t,λv G h x r=>⟨h,k,c,rc.ext x,u,λE o s F j=>?_⟩⟩;rw[jD i]at r;rw[jD U]at j;obtain⟨w,y⟩:=JS e.1;obtain⟨z,A⟩:=JS e.2;exact⟨m,n,by rw[show v = .int m from r,show E = .int n from j],⟨w,y,z,A⟩,q _ o s (x.trans F)<|QV m (n - m).toNat⟩
  ·rw[UY e]at I;cases I
theorem XO{K:LX}{H:Hp}{d:D}{v:V}{k:Sk}{ds:List D}(r:Rep K H d v)(e:jx d=bX (k,ds)) : ∃a xs,v = .ref a/\i5 k K H a xs/\d5 K H ds xs:=by
 cases d with
 | tup fs=>simp[jx]at e;obtain⟨b,I⟩:=e;subst b I;exact r
 | lst fs=>simp[jx]at e;obtain⟨b,I⟩:=e;subst b I;exact r
 | _=>simp[jx]at e
theorem sN{f g:CO D}{z:List eh}{x1:Nat}{C:gB}(M:Gl X "zip")(S:X.mg "zip" = none)(J:PV X a f)(L:PV X b g)(hs:ft [a,b] X.env=[(dn,ej a X.env),(dn,ej b X.env)]:=by rfl)(U:ft [b] X.env=[(dn,ej b X.env)]:=by rfl) :
 h7 X (.Tuple z x1 C) (.Call (.Name "zip" p) [a,b] [] pos) (KF f g):=
 X0 (Bo M S (jr J (jr L qu U)<|by rw[hs,U]) PyProof.Rows.boot_zip hs U) λQ H R y=>by obtain⟨j,i,N,rc,I,q⟩:=y;obtain⟨⟨A,m⟩,h,I⟩:=zg I;obtain⟨d,t,h⟩:=zg h;obtain⟨⟨B,n⟩,Y,I⟩:=zG I;obtain⟨c,u,Y⟩:=zg Y;subst I;refine⟨j,i,d,rc,t,λv K e x r=>⟨e,i,c,rc.ext x,u,λP k s O E=>?_⟩⟩;obtain⟨l,F,rfl,g1,g2⟩:=XO (r.mono O.s0) h;obtain⟨o,G,rfl,g3,w⟩:=XO E Y;exact⟨A,B,l,o,rfl,⟨F,vJ O.sub g1⟩,⟨G,vJ O.sub g3⟩,q _ k s (x.trans O)<|iu g1 g2 g3 w⟩
end
noncomputable def Wv:List Nat->List V->St->St
 | i::is,v::vs,σ=>Wv is vs<|σ.set i<|some v
 | _,_,σ=>σ
def gs:List Nat->D1
 | []=>HX
 | i::is=>Cp (yP i)<|gs is
def o7(K:LX):Tg->TG
 | .nm i=>yP i
 | .tp is=>HW K is.length<|gs is
theorem gc : ∀{is:List Nat} {vs:List V} {z:St} {H:Hp} {Q:St->Hp->Prop},vs.length=is.length->Q (Wv is vs z) H->gs is vs z H Q
 | [],[],_,_,_,_,q=>⟨rfl,q⟩
 | i::is,v::vs,z,H,Q,hl,q=>⟨v,vs,rfl,gc (by simpa using hl) q⟩
 | [],_::_,_,_,_,hl,_=>by simp at hl
 | _::_,[],_,_,_,hl,_=>by simp at hl
theorem RS.I0{K:LX}{E0 E H0 H:Hp} : ∀{is:List Nat} {ds:List D} {vs:List V} {z:St} {γ:Ctx},RS K E0 E H0 H z γ->d5 K H0 ds vs->RS K E0 E H0 H (Wv is vs z) (q9 is ds γ)
 | [],ds,vs,z,γ,r,h=>by cases ds<;>cases vs<;>exact r
 | i::is,[],vs,z,γ,r,h=>by rw[h.n5];exact r
 | i::is,d::ds,vs,z,γ,r,h=>by obtain⟨x,t,e,a,b⟩:=h.l7;subst e;show RS K E0 E H0 H (DL.Wv is t<|z.set i<|some x) (q9 is ds<|γ.set i<|.val d);exact RS.I0 (r.u7 a) b
theorem RC.I0{K:LX}{H0 H:Hp} : ∀{is:List Nat} {ds:List D} {vs:List V} {z:St} {γ:Ctx},RC K H0 H z γ->d5 K H0 ds vs->RC K H0 H (Wv is vs z) (q9 is ds γ)
 | [],ds,vs,z,γ,r,h=>by cases ds<;>cases vs<;>exact r
 | i::is,[],vs,z,γ,r,h=>by rw[h.n5];exact r
 | i::is,d::ds,vs,z,γ,r,h=>by obtain⟨x,t,e,a,b⟩:=h.l7;subst e;show RC K H0 H (DL.Wv is t<|z.set i<|some x) (q9 is ds<|γ.set i<|.val d);exact RC.I0 (r.u7 a) b
theorem wY{K:LX}{H0 H:Hp}{T:Tg}{d:D}{v:V}{z:St}{γ γ1:Ctx}{Q:St->Hp->Prop}(s:gh H0 H)(h:Rep K H0 d v)(e:qZ T d γ=bX γ1)
 (q : ∀I,(RC K H0 H z γ->RC K H0 H I γ1)->(∀E0 E,RS K E0 E H0 H z γ->RS K E0 E H0 H I γ1)->Q I H):o7 K T v z H Q:=by
 cases T with
 | nm i=>cases e;exact q _ (λr=>r.u7 h) λE0 E r=>r.u7 h
 | tp is=>
  cases d with
  | tup g=>
   simp only[qZ]at e;by_cases O:g.length=is.length
   ·rw[UJ O]at e;cases e
    obtain⟨a,b,rfl,k,f⟩:=(show ∃a b,v = .ref a/\g5 K H0 a b/\d5 K H0 g b from h);have j:b.length=is.length:=by rw[f.length,O]
    exact⟨a,b,rfl,m1 s k,j,gc j<|q _ (λr=>r.I0 f) λE0 E r=>r.I0 f⟩
   ·rw[UY O]at e;cases e
  | _=>simp[qZ]at e
theorem Ext.rebase{E0 E I H0 H B:Hp}(e:Ext E0 E I B)(x:Ext I E H0 H):Ext E0 E H0 H:=
 ⟨e.s0.trans x.s0,x.s1,x.sub,λa d b=>x.new a (e.new a d b) b⟩
theorem Ext.base{E0 E I B:Hp}(e:Ext E0 E I B):Ext I E I B:=⟨gh.refl _,e.s1,e.sub,λa h _=>h⟩
theorem Sat.rebase{K:LX}{E0 E O B:Hp}{D:Ends}{I:Fl}(e:Ext E0 E O B)(h:Sat K E0 E D I):Sat K O E D I:=by
 cases I with
 | next g=>exact λf H b r=>h f H b ⟨r.rc,e.rebase r.ext,r.fresh,r.u4⟩
 | brk g=>exact λf H b r=>h f H b ⟨r.rc,e.rebase r.ext,r.fresh,r.u4⟩
 | cont g=>exact λf H b r=>h f H b ⟨r.rc,e.rebase r.ext,r.fresh,r.u4⟩
 | ret r=>
  cases r with
  | val d=>exact λv H b x q=>h v H b (e.rebase x) q
  | own l=>exact λa k H b x i j U q=>h a k H b (e.rebase x) i j U q
section
variable{X:Cx}{tg iter:eh}{body:List i3}{pos:gB}
theorem sF{z:CO (List D)}{T:Tg}{F:CO Fl}(hp:P6 (eg X.prog X.w) X.A X.env X.xe)(hc:X.calm=cz)(M:h7 X tg iter z)(hg:PG X tg (o7 X.K T))(hb:gZ X body F)
 (hs : ∀x,n7 iter X.env x=pure x:=by intro _;rfl):kr X (.For tg iter body [] pos) (k3 z T F):=
 ky (oE hp hc M hg hb hs) λD k H hZ=>by
  obtain⟨E0,E,g,b,O,U,I,h⟩:=hZ;obtain⟨a,W,I⟩:=zg I;refine⟨g,b,a,U.rc,W,λJ H1 Y x1 t=>?_⟩;have l:=U.step x1;have G:=l.ext;refine⟨λi m k H=>m=a.length - i/\i<=a.length/\∃g b O,RS X.K Y E g H k b/\kD T F (a.drop i) b=bX O/\Sat X.K Y E D O,⟨_,rfl,Nh _,Y,b,O,⟨l.rc,G.base,l.fresh,l.u4⟩,I,h.rebase G⟩,?_⟩;rintro i m k H ⟨rfl,M,g,b,O,U,I,h⟩;have o:gh Y H:=U.ext.s0.trans U.ext.sub;by_cases j:i<a.length
  ·refine .inr ⟨t.go i H o j,λk H=>i+1<=a.length/\∃g b O,RS X.K Y E g H k b/\kD T F (a.drop<|i+1) b=bX O/\Sat X.K Y E D O,λ_c C n=>⟨a.length - (i+1),by omega,rfl,n.1,n.2⟩,λx C y=>?_⟩
   obtain⟨d,L,hx⟩:=t.B4 i H x C o j y;obtain⟨P,N,rg⟩:=hx g U.ext.s0 U.rc.sub;have R:a.drop i=d::a.drop (i+1):=by
    have S:d=a[i]:=by rw[LZ j]at L;exact(Nd L).symm
    rw[S];exact Od j
   rw[R]at I;simp only[kD]at I;obtain⟨u,eb,I⟩:=zg I;obtain⟨f1,Z,I⟩:=zg I;refine wY N.sub rg eb λO9 _ as=>⟨Y,E,P,u,f1,as Y E<|U.step N,Z,?_⟩;cases f1 with
   | next f=>exact λB Q p s=>⟨j,p,f,O,s,I,h⟩
   | cont f=>exact λB Q p s=>⟨j,p,f,O,s,I,h⟩
   | brk f=>cases I;exact h
   | ret r=>cases I;cases r<;>exact h
  ·have e:i=a.length:=by omega
   subst e;rw[Rf]at I;cases I;exact .inl ⟨t.stop H o,h k H g U⟩
end
theorem qI(h:(je n fr γ)[i]? = bX c):c = .no\/(∃d j,c = .val d/\n<=i/\fr[i - n]? = bX j/\γ[j]? = bX (.val d)):=by
 unfold je at h;by_cases b:i<n
 ·rw[Nk (by simpa using b),PH,UJ b]at h
  exact .inl (Nd h).symm
 ·rw[MY (by simpa using b),MC,List.length_replicate]at h
  cases e:fr[i - n]? with
  | none=>rw[e]at h;cases h
  | some j=>
   rw[e]at h;have a:kK (γ[j]?.getD .no)=c:=by simpa using h
   cases e2:γ[j]? with
   | none=>rw[e2]at a;exact .inl a.symm
   | some I=>
    rw[e2]at a;cases I with
    | no=>exact .inl a.symm
    | own g=>exact .inl a.symm
    | nest f=>exact .inl a.symm
    | val d=>exact .inr ⟨d,j,a.symm,by omega,rfl,e2⟩
theorem RC.pull{K:LX}{H0 H:Hp}{J:St}{γ:Ctx}{own:List Str}{C:List (Str×Nat)}(r:RC K H0 H J γ):RC K H0 H (L2.lF own C J) (je own.length (C.map (·.2)) γ):=by
 refine⟨r.sub,by simp[L2.lF,je],λi d h=>?_,λi e h=>?_,λi j a e k h _ _ _=>?_,n6.E1 λi b h=>?_⟩
 ·rcases qI h with z | ⟨d',j,z,hi,I,O⟩
  ·cases z
  ·cases z
   obtain⟨v,f,g⟩:=r.val j d O;refine⟨v,?_,g⟩;rw[MC]at I;cases q:C[i - own.length]? with
   | none=>rw[q]at I;cases I
   | some p=>
    rw[q]at I;have U:p.2=j:=by simpa using I
    unfold L2.lF;rw[MY (by simpa using hi),MC,Mq,q];simp[U,f]
 ·rcases qI h with z | ⟨d',j,z,_⟩<;>cases z
 ·rcases qI h with z | ⟨d',j,z,_⟩<;>cases z
 ·rcases qI h with z | ⟨d',j,z,_⟩<;>cases z
theorem RC.weak{K:LX}{H0 H:Hp}{C:St}{γ γ':Ctx}(r:RC K H0 H C γ)(O:γ'.length=γ.length)(U : ∀(i:Nat) d,γ'[i]? = bX (.val d)->γ[i]? = bX (.val d))(I : ∀(i:Nat) ds,γ'[i]? ≠ bX (.own ds))(Y : ∀(i:Nat) z,γ'[i]? ≠ bX (.nest z)):RC K H0 H C γ':=
 ⟨r.sub,by rw[O];exact r.len,λi d h=>r.val i d<|U i d h,λi ds h=>absurd h<|I i ds,λi j a ds b h _ _ _=>absurd h<|I i ds,n6.E1 Y⟩
theorem RC.upd{K:LX}{H0 H:Hp}{J:St}{γ:Ctx}{D:dv}{o:HO}(r:RC K H0 H J γ)(O:H0 D=none)(I : ∀(i:Nat) ds,γ[i]? ≠ bX (.own ds))(U : ∀(i:Nat) C,γ[i]? ≠ bX (.nest C)):RC K H0 (upd H D o) J γ:=
 ⟨λb u q=>by rw[zL (λz=>by rw[z,O]at q;cases q)];exact r.sub b u q,r.len,r.val,λi ds h=>absurd h<|I i ds,λi j a ds d h _ _ _=>absurd h<|I i ds,n6.E1 U⟩
theorem Jt : ∀{is:List Nat} {ds:List D} {γ:Ctx},(q9 is ds γ).length=γ.length
 | [],ds,γ=>by cases ds<;>rfl
 | i::is,[],γ=>rfl
 | i::is,d::ds,γ=>by show(q9 is ds<|γ.set i<|.val d).length=_;rw[Jt];simp
theorem Ju : ∀{is:List Nat} {ds:List D} {γ:Ctx} {i:Nat},i∉is->(q9 is ds γ)[i]? = γ[i]?
 | [],ds,γ,i,_=>by cases ds<;>rfl
 | j::is,[],γ,i,_=>rfl
 | j::is,d::ds,γ,i,h=>by show(q9 is ds<|γ.set j<|.val d)[i]? = _;rw[Ju (λz=>h<|Mm _ z),Md (λz=>h<|by rw[<- z];exact Mn)]
theorem Y2(h:qZ T d γ=bX γ1):γ1.length=γ.length/\∀i,i∉T.idx->γ1[i]? = γ[i]? :=by
 cases T with
 | nm j=>cases h;exact⟨by simp,λi a=>Md<|λz=>a<|by simp[Tg.idx,z]⟩
 | tp is=>
  cases d with
  | tup b=>
   simp only[qZ]at h;by_cases I:b.length=is.length
   ·rw[UJ I]at h;cases h;exact⟨Jt,λi a=>Ju a⟩
   ·rw[UY I]at h;cases h
  | _=>simp[qZ]at h
section
variable{K:LX}{own:List Str}{fr:List (Str×Nat)}{src:CO (List D)}{T:Tg}{k:CO Bool}{f:CO D}
theorem wU(hT : ∀i∈T.idx,i<own.length)(bf : ∀C H Q,tT K k C H Q->tt C H Q) : ∀C H Q,tO K (zU src T own.length (fr.map (·.2)) k f) C H Q->cQ (T7 K src) own fr (o7 K T) tt (tV K f) C H Q:=λC H Q hZ=>by
 obtain⟨H0,t,ds,rc,U,q⟩:=hZ;obtain⟨a,e1,U⟩:=zg U;by_cases hl:a.length<=lim
 ·rw[UJ hl]at U
  refine⟨H0,t,a,rc,e1,λJ H1 P x1 wk D A=>?_⟩;have R : ∀(i:Nat) es,(je own.length (fr.map (·.2)) t)[i]? ≠ bX (.own es):=λi es h=>by rcases qI h with z | ⟨d',j,z,_⟩<;>cases z
  have S : ∀(i:Nat) B,(je own.length (fr.map (·.2)) t)[i]? ≠ bX (.nest B):=λi es h=>by rcases qI h with z | ⟨d',j,z,_⟩<;>cases z
  have ax:P D=none:=jo x1.sub A;have bm:H D=none:=by
   cases z:H D with
   | none=>rfl
   | some o=>rw[x1.s1 D o z]at A;cases A
  refine⟨λi m n F l=>m=a.length - i/\i<=a.length/\n.length<=i/\l D=bX (.lst n)/\∃g u L,RC K g l F (je own.length (fr.map (·.2)) t)/\g D=none/\Ext P H1 g l/\d5 K g u n/\zW T k f (je own.length (fr.map (·.2)) t) (a.drop i)=bX L/\ds=u++L,
   ⟨_,rfl,Nh _,Mf _,zN,P,[],ds,((rc.ext x1).pull).upd ax R S,ax,Ext.hide x1.sub A _,d5.nil,U,rfl⟩,?_⟩
  rintro i m n F l ⟨rfl,hi,hy,M,g,u,L,W,b0,Y,r',I,rfl⟩;refine⟨M,?_⟩;by_cases s:i<a.length
  ·refine .inr ⟨wk.go i l Y.s1 s,?_,λx X y=>?_⟩
   ·have:=k5<|Mf lim;omega
   obtain⟨d,hd,hx⟩:=wk.B4 i l x X Y.s1 s y;obtain⟨G0,O,rg⟩:=hx g Y.s0 W.sub;have bn:a.drop i=d::a.drop (i+1):=by
    have br:d=a[i]:=by rw[LZ s]at hd;exact(Nd hd).symm
    rw[br];exact Od s
   rw[bn]at I;simp only[zW]at I;obtain⟨p,eb,I⟩:=zg I;obtain⟨b,ek,I⟩:=zg I;have bv:G0 D=none:=O.new D b0 (by rw[M];simp);have b5:X D=bX (.lst n):=O.s1 _ _ M;obtain⟨bl,bg⟩:=Y2 eb;have b6 : ∀{G:St} {G2 H2:Hp},RC K G2 H2 G p->RC K G2 H2 G (je own.length (fr.map (·.2)) t):=λr=>r.weak bl.symm (λj d' hj=>by
    by_cases hm:j∈T.idx
    ·rcases qI hj with z | ⟨d2,j2,_,hn,_⟩
     ·cases z
     ·exact absurd (hT j hm) ⋯
    ·rw[bg j hm];exact hj) R S
   refine wY O.sub rg eb λO9 b9 _=>bf O9 X _ ⟨G0,p,b,b9<|W.ext O,ek,λH3 Z x3=>?_⟩;have am:=(b9<|W.ext O).ext x3;have xa:=Y.trans<|O.trans x3;have bc:Z D=none:=x3.new D bv (by rw[b5];simp);have an:H3 D=bX (.lst n):=x3.s1 _ _ b5;cases b with
   | true=>
    dsimp only;rw[UJ rfl]at I ⊢;obtain⟨e,ee,I⟩:=zg I;obtain⟨yb,er,I⟩:=zG I;refine⟨Z,p,e,am,ee,λv H4 bd E r4=>?_⟩;have ap:bd D=none:=E.new D bc (by rw[an];simp);have c5:H4 D=bX (.lst n):=E.s1 _ _ an;have N:=xa.trans E;refine⟨c5,a.length - (i+1),by omega,rfl,s,by rw[MW,Oe];omega,zN,bd,u++[e],yb,(b6<|am.ext E).upd ap R S,ap,?_,(r'.mono<|(O.trans<|x3.trans E).s0).append (d5.cons r4 d5.nil),er,?_⟩
    ·exact⟨N.s0,λc o z=>by rw[zL (λw=>by rw[w,A]at z;cases z)];exact N.s1 c o z,λc o z=>by rw[zL (λw=>by rw[w,ap]at z;cases z)];exact N.sub c o z,N.new⟩
    ·rw[<- I];simp
   | false=>
    dsimp only;rw[UY MO]at I ⊢;exact⟨a.length - (i+1),by omega,rfl,s,by omega,an,Z,u,L,b6 am,bc,xa,r'.mono<|(O.trans x3).s0,I,rfl⟩
  ·have e:i=a.length:=by omega
   subst e;rw[Rf]at I;cases I;rw[OG]at q;exact .inl ⟨wk.stop l Y.s1,q D n l g (x1.trans Y) bm b0 M r'⟩
 ·rw[UY hl]at U;cases U
end
section
variable{X:Cx}{scope:g9}{own:List Str}{fr:List (Str×Nat)}{elt tg iter c:eh}{pos:gB}{src:CO (List D)}{T:Tg}{k:CO Bool}{f:CO D}
theorem sJ(I:X.calm=cz)(ok:rb X scope fr)(O : ∀i∈T.idx,i<own.length)(J:rf X tg iter src)(U : ∀fp C z,PG (jz X scope (own++fr.map (·.1)) fp C z) tg<|o7 X.K T)
 (Y : ∀fp C z,PV (jz X scope (own++fr.map (·.1)) fp C z) elt f) (hs : ∀x,n7 iter X.env x=pure x:=by intro _;rfl) :
 PO X (.ListComp elt [⟨tg,iter,[],0⟩] scope pos) (zU src T own.length (fr.map (·.2)) js f):=
 qr (Vt I ok J U (λ_ _ _=>XZ) Y hs) (wU O λg H Q ⟨a,e,b,rc,d,q⟩=>by cases d;exact q H a<|Ext.refl rc.sub)
theorem eG(I:X.calm=cz)(ok:rb X scope fr)(O : ∀i∈T.idx,i<own.length)(L:rf X tg iter src)(U : ∀fp C z,PG (jz X scope (own++fr.map (·.1)) fp C z) tg<|o7 X.K T)
 (Y : ∀fp C z,mm (jz X scope (own++fr.map (·.1)) fp C z) c k) (J : ∀fp C z,PV (jz X scope (own++fr.map (·.1)) fp C z) elt f) (hs : ∀x,n7 iter X.env x=pure x:=by intro _;rfl) :
 PO X (.ListComp elt [⟨tg,iter,[c],0⟩] scope pos) (zU src T own.length (fr.map (·.2)) k f):=
 qr (Vt I ok L U (λfp C z=>WI<|Y fp C z) J hs) (wU O λa H Q h=>h)
theorem lR(I:X.N.Nodup)(O:X.N[i]? = bX y)(U:Loc X.env.scope y)(Y:X.fn y=cz\/X.env.scope.names.lookup y=bX .local)
 (L:X.calm=cz) (ok:rb X scope fr) (J : ∀i∈T.idx,i<own.length) (Z:rf X tg iter src) (S : ∀fp C z,PG (jz X scope (own++fr.map (·.1)) fp C z) tg<|o7 X.K T)
 (M : ∀fp C z,PV (jz X scope (own++fr.map (·.1)) fp C z) elt f) (hs : ∀x,n7 iter X.env x=pure x:=by intro _;rfl) :
 PS X (.Assign [.Name y py] (.ListComp elt [⟨tg,iter,[],0⟩] scope pos) spos) (Wn (tO X.K<|zU src T own.length (fr.map (·.2)) js f)<|yP i):=
 ky (Zn I O U Y L ok Z S (λ_ _ _=>XZ) M hs) λD a H h=>wU J (λa H Q g=>by obtain⟨d,j,b,rc,e,q⟩:=g;cases e;exact q H d<|Ext.refl rc.sub) a H _ h
theorem aU(I:X.N.Nodup)(O:X.N[i]? = bX y)(U:Loc X.env.scope y)(Y:X.fn y=cz\/X.env.scope.names.lookup y=bX .local)
 (L:X.calm=cz) (ok:rb X scope fr) (J : ∀i∈T.idx,i<own.length) (Z:rf X tg iter src) (S : ∀fp C z,PG (jz X scope (own++fr.map (·.1)) fp C z) tg<|o7 X.K T)
 (hk : ∀fp C z,mm (jz X scope (own++fr.map (·.1)) fp C z) c k) (M : ∀fp C z,PV (jz X scope (own++fr.map (·.1)) fp C z) elt f) (hs : ∀x,n7 iter X.env x=pure x:=by intro _;rfl) :
 PS X (.Assign [.Name y py] (.ListComp elt [⟨tg,iter,[c],0⟩] scope pos) spos) (Wn (tO X.K<|zU src T own.length (fr.map (·.2)) k f)<|yP i):=
 ky (Zn I O U Y L ok Z S (λfp C z=>WI<|hk fp C z) M hs) λD a H h=>wU J (λa H Q h=>h) a H _ h
end
theorem jq{K:LX}{H:Hp}{i:Int}{v:V}(h:Rep K H (.int i) v):v = .int i:=h
theorem dc{K:LX}{g:Int->Int->D}{I:Int->Int->V}(U : ∀H i j,Rep K H (g i j)<|I i j):m3 K (qq I) (dI g):=λa H x y b Y d Q s e f O q=>by cases b<;>cases Y<;>simp[dI]at O;subst O;exact⟨_,_,jq e,jq f,q _ H a (Ext.refl s)<|U a _ _⟩
theorem da{K:LX}{C:Int->Int->Prop}{c:Int->Int->Bool}{g:Int->Int->D}{I:Int->Int->V}(U : ∀i j,c i j=cz->C i j)(Y : ∀H i j,Rep K H (g i j)<|I i j):m3 K (rI C I) (G5 c g):=λa H x y b e d Q s k l O q=>by cases b<;>cases e<;>simp[G5]at O;obtain⟨f,h⟩:=O;subst h;exact⟨_,_,jq k,jq l,U _ _ f,q _ H a (Ext.refl s)<|Y a _ _⟩
theorem rk{K:LX}:m3 K (qq λi j=> .int (i - j)) yR:=dc λ_ _ _=>rfl
theorem nL(h:vT i j=cz):DZ i j:=by unfold vT at h;rw[NP,decide_eq_true_eq,decide_eq_true_eq]at h;unfold DZ;omega
theorem rE{K:LX}:m3 K (rI IJ λi j=> .int (i/j)) v9:=da (λi j h=>by unfold CB at h;rw[Mt,decide_eq_true_eq,decide_eq_true_eq]at h;exact⟨h.1,by omega⟩) λ_ _ _=>rfl
theorem rC{K:LX}:m3 K (rI (λ_ j=>0<j) λi j=> .int (i%j)) q8:=da (λi j h=>by unfold EK at h;exact of_decide_eq_true h) λ_ _ _=>rfl
theorem rz{K:LX}:m3 K (rI II λi j=> .int (i ^ j.toNat)) uf:=da (λi j h=>by unfold CA at h;rw[Mt,Mt,decide_eq_true_eq,decide_eq_true_eq,decide_eq_true_eq]at h;exact⟨h.1.1,by omega,h.2⟩) λ_ _ _=>rfl
theorem oi{K:LX}:m3 K (qq λi j=> .bl (decide<|i<j)) D5:=dc λ_ _ _=>rfl
theorem cZ{K:LX}:m3 K (qq λi j=> .bl (decide<|i<=j)) wh:=dc λ_ _ _=>rfl
theorem Ar{K:LX}:m3 K (qq λi j=> .bl (decide<|j<i)) Dt:=dc λ_ _ _=>rfl
theorem As{K:LX}:m3 K (qq λi j=> .bl (decide<|j<=i)) D4:=dc λ_ _ _=>rfl
section
variable{X:Cx}
noncomputable def oq(K:LX):R2:=λx y H Q=>∃a b d e,x = .ref a/\y = .ref b/\g5 K H a d/\g5 K H b e/\d.length+e.length<=fh/\
 (d=[]->Q (.ref b) H)/\(e=[]->Q (.ref a) H)/\∀p,H p=none->Q (.ref p) (upd H p<|.tup<|d++e)
theorem mD:ij X (t8 .Add) (oq X.K):=by
 intro w s σ H x y v u Q I S T h;obtain⟨a,b,A,Z,rfl,rfl,J,L,t,N,P,R⟩:=h;cases S;cases T;obtain⟨d,r,U,z1⟩:=I.tuple J;obtain⟨B,f,Y,z2⟩:=I.tuple L;by_cases O:A=[]
 ·have e:d=[]:=(r.N2).mpr O
  obtain⟨⟨F,G,k,W⟩,p,l,n,m⟩:=id U;obtain⟨⟨as,C,data2,E⟩,g,i,M,j⟩:=id Y;simp only at l m i j;subst l m i j;exact Tt ⟨_,p,rfl⟩ ⟨_,g,rfl⟩ Tv UN RJ RF (Rw _ _)
   (tuple_addW0 a b d.toArray B.toArray n M G C W E<|by simp[e]) ⟨p,g,⟨.ref b,H,I,rfl,N O⟩⟩
 ·have e:d ≠ []:=λz=>O ((r.N2).mp z)
  refine HT.GP U Y e (λz=>⟨.ref a,H,I,rfl,P<|(f.N2).mp z⟩) (λ_=>?_) (by rw[<- r.length,<- f.length];exact t);refine⟨.ref s.heap.objs.size,_,I.laid (t':=s.toks) (o:= .tup (A++Z)) (λc ob q=>LY _ q) (Mf _) ?_,rfl,R _<|I.fy.fresh<|Mf _⟩;exact⟨by rw[MW];exact t,_,r.append f,u9.new _ _⟩
noncomputable def AV(K:LX):R2:=λx y H Q=>∃l b a d,x = .ref l/\y = .ref b/\fA K H l a/\fA K H b d/\a.length+d.length<=fh/\∀p,H p=none->Q (.ref p) (upd H p<|.lst<|a++d)
theorem mE:ij X (t8 .Add) (AV X.K):=by
 intro d s L H x y v u Q I E G h;obtain⟨l,b,W,zs,rfl,rfl,A,z,R,q⟩:=h;cases E;cases G;obtain⟨a,r,⟨o,n,e,U,Y,f⟩,Z⟩:=I.list A;obtain⟨O,m,⟨C,B,k,g,i,j⟩,z2⟩:=I.list z;have S:=r.length;have T:=m.length;obtain⟨cls,i8,P,J⟩:=o;obtain⟨M,as,N,p⟩:=C;simp only at U Y f g i j;subst U Y f g i j;have t:EP X d L Q (.ref s.heap.objs.size) {s with heap:=s.heap.push {cls:= .type "list",data:= .seq (a++O).toArray}}:=
  ⟨.ref _,_,I.TH (t':=s.toks) (r.append m) (by rw[MW];omega),rfl,q _ I.fresh⟩
 have w:a.toArray++O.toArray=(a++O).toArray:=by simp
 refine Tt ⟨_,e,rfl⟩ ⟨_,k,rfl⟩ noFill_list_add seq_list_add PySem.F.slot_list_add PySem.F.entry_list_add (PySem.F.args_list_add_2 _ _)
  (list_addW l b a.toArray O.toArray n B none none J p<|by rw[Mi,Mi];omega) ⟨e,k,?_⟩
 rw[w];exact t
end
noncomputable def yu(scope z:g9):g9:={scope with names:=scope.names.map λp=>if p.2==MP && z.kind == .function && z.names.lookup p.1==bX .cell then (p.1,OD)else (p.1,p.2)}
theorem aO(scope:g9)(env:m6):xr scope env=yu scope env.scope:=by unfold xr yu;rfl
structure SX(X:Cx)(sc:g9)(N T:List Str)(k:Nat):Prop where
 D8:X.env.scope=sc
 eN:X.N=N
 nd:N.Nodup
 calm:X.calm=cz
 room:my k X.A
 fn : ∀x∈T,X.fn x=cz\/sc.names.lookup x=bX .local
noncomputable def QE(z:g9)(N:List Str)(i:Nat)(x:Str):Bool:=
 decide (N[i]? = bX x) && (decide (z.names.lookup x=bX .local) || decide (z.names.lookup x=bX .cell) || decide (z.names.lookup x=bX .free)) && !(x==("__debug__" : Str)) && !(x==("__classdict__" : Str))
noncomputable def yo(z:g9)(N T:List Str)(i:Nat)(x:Str):Bool:=decide (x∈T) && decide (N[i]? = bX x) && (decide (z.names.lookup x=bX .local) || decide (z.names.lookup x=bX .cell))
noncomputable def vD(z:g9)(x:Str):Bool:=decide (z.names.lookup x=bX .globalImplicit) && !(x==("__name__" : Str)) && !(x==("__debug__" : Str))
section
variable{X:Cx}{sc:g9}{N T:List Str}{k:Nat}{i:Nat}{x:Str}{pos:gB}
theorem SX.var(h:SX X sc N T k)(c:QE sc N i x=cz):PE X (.Name x pos) (uI i):=by
 unfold QE at c;simp only[Mt,NP,decide_eq_true_eq,OH]at c;obtain⟨⟨⟨a,h2⟩,I⟩,O⟩:=c;refine Bq (by rw[h.eN];exact a) ?_ I O;unfold R0;rw[h.D8];rcases h2 with(h2 | h2) | h2
 ·exact .inl h2
 ·exact .inr<|.inl h2
 ·exact .inr<|.inr h2
theorem SX.loc(h:SX X sc N T k)(c:yo sc N T i x=cz):X.N[i]? = bX x/\L2.Loc X.env.scope x/\(X.fn x=cz\/X.env.scope.names.lookup x=bX .local):=by
 unfold yo at c;simp only[Mt,NP,decide_eq_true_eq]at c;refine⟨by rw[h.eN];exact c.1.2,?_,?_⟩
 ·unfold L2.Loc;rw[h.D8];exact c.2
 ·rw[h.D8];exact h.fn x c.1.1
theorem SX.G8(h:SX X sc N T k):X.N.Nodup:=by rw[h.eN];exact h.nd
theorem SX.DX(h:SX X sc N T k)(i:Nat)(c:yo sc N T i x=cz):PG X (.Name x pos) (yP i):=by obtain⟨a,b,I⟩:=h.loc c;exact eU h.G8 a b I
theorem SX.UT(h:SX X sc N T k)(g:F5 X es (gs is))(z:(A4 es X.env).length=is.length:=by rfl)(I:(A4 es X.env).findIdx? (·.1)=none:=by rfl):PG X (.Tuple es j pos) (o7 X.K<|.tp is):=
 Bp h.calm g z I
theorem SX.set(h:SX X sc N T k)(i:Nat)(c:yo sc N T i x=cz)(I:PE X e te)(hs:y6 e (bX (.Name x pos')) pos.line X.env=pure dn:=by rfl):PS X (.Assign [.Name x pos'] e pos) (Wn te<|yP i):=by obtain⟨a,b,O⟩:=h.loc c;exact Bj h.G8 a b I hs O
theorem SX.gl(h:SX X sc N T k)(c:vD sc x=cz):Gl X x/\x ≠ "__name__"/\(x==("__debug__" : Str))=dn:=by
 unfold vD at c;simp only[Mt,decide_eq_true_eq,OH]at c;refine⟨?_,?_,c.2⟩
 ·show X.env.scope.names.lookup x=_
  rw[h.D8];exact c.1.1
 ·intro e;rw[e]at c;simp at c
noncomputable def V0(sc scope:g9)(N:List Str)(z:List (Str×Nat)):Bool:=
 decide (scope.kind = .function) && decide ((scope.names.map (·.1)).Nodup) && scope.names.all (λp=> !(p.2==MP) || decide (sc.names.lookup p.1=bX .cell) || decide (sc.names.lookup p.1=bX .free)) &&
 z.all λp=>decide (scope.names.lookup p.1=bX .free) && decide (N[p.2]? = bX p.1)
noncomputable def Fp(own:List Str)(scope:g9)(z:List (Str×Nat)):Bool:=decide ((own++z.map (·.1)).Nodup) && own.all (λx=>decide (scope.names.lookup x=bX .local) || decide (scope.names.lookup x=bX .cell))
theorem SX.A_(h:SX X sc N T k)(c:V0 sc scope N fr=cz):rb X scope fr:=by
 unfold V0 at c;simp only[Mt,decide_eq_true_eq,Oi,NP,OH]at c;obtain⟨⟨⟨O,U⟩,b⟩,a⟩:=c;refine⟨O,U,λp I Y=>?_,λp I=>⟨(a p I).1,by rw[h.eN];exact(a p I).2⟩⟩;have e:X.env.kindOf p.1=sc.names.lookup p.1:=by show X.env.scope.names.lookup p.1=_;rw[h.D8]
 rw[e];rcases b p I with(q | q) | q
 ·rw[Y]at q;exact absurd q ⋯
 ·exact .inl q
 ·exact .inr q
theorem JH(scope sc:g9)(x:Str):(yu scope sc).names.lookup x=(scope.names.lookup x).map λk=>if (k==MP && sc.kind == .function && sc.names.lookup x==bX .cell)then OD else k:=by
 unfold yu;dsimp only;generalize scope.names=l
 induction l with
 | nil=>rfl
 | cons p r O=>
  obtain⟨n,U⟩:=p;rw[MI];cases hx:x==n with
  | true=>
   have e:x=n:=by simpa using hx
   subst e;dsimp only;split
   ·rename_i I;rw[Nv,Nv,beq_self_eq_true];dsimp only[SG];rw[UJ I]
   ·rename_i I;rw[Nv,Nv,beq_self_eq_true];dsimp only[SG];rw[UY I]
  | false=>
   dsimp only;split
   ·rw[Nv,Nv,hx];exact O
   ·rw[Nv,Nv,hx];exact O
theorem SX.comp(h:SX X sc N T k)(c:Fp own scope fr=cz) :
 SX (jz X scope (own++fr.map (·.1)) fp s2 H2) (yu scope sc) (own++fr.map (·.1)) own k:=by
 unfold Fp at c;simp only[Mt,decide_eq_true_eq,Oi,NP]at c;refine⟨?_,rfl,c.1,h.calm,h.room,λx a=>?_⟩
 ·show xr scope X.env=_
  rw[aO,h.D8]
 ·rcases c.2 x a with q | q
  ·right;rw[JH,q];rfl
  ·left
   show(scope.names.lookup x==bX .cell)=cz;rw[q];rfl
end
mutual
def l5:D->PyData
 | .el=> .none
 | .bl b=> .bool b
 | .int i=> .int i
 | .str x=> .str x
 | .tup a=> .tuple (q7 a)
 | .lst a=> .list (q7 a)
 | .lN _ _=> .none
 | .i8 _ _=> .none
def q7:List D->List PyData
 | []=>[]
 | d::ds=>l5 d::q7 ds
end
theorem Dh(h:i6 (.lN ks vs)=cz):False:=by simp[i6]at h
theorem Dg(h:i6 (.i8 ks vs)=cz):False:=by simp[i6]at h
mutual
theorem S4 : ∀x y:D,i6 x=cz->i6 y=cz->PL (l5 x) (l5 y)=lU x y
 | .el,y,_,h=>by cases y<;>first | exact(Dh h).elim | exact(Dg h).elim | simp[l5,PL,lU]
 | .bl a,y,_,h=>by cases y<;>first | exact(Dh h).elim | exact(Dg h).elim | simp[l5,PL,lU]
 | .int a,y,_,h=>by cases y<;>first | exact(Dh h).elim | exact(Dg h).elim | simp[l5,PL,lU]
 | .str a,y,_,h=>by cases y<;>first | exact(Dh h).elim | exact(Dg h).elim | simp[l5,PL,lU]
 | .lN c n,y,h,_=>(Dh h).elim
 | .i8 c n,y,h,_=>(Dg h).elim
 | .tup xs,y,h1,h2=>by
  cases y with
  | tup b=>simp only[i6]at h1 h2;simp only[l5,PL,lU];exact S5 xs b h1 h2
  | lN c n=>exact(Dh h2).elim
  | i8 c n=>exact(Dg h2).elim
  | _=>simp[l5,PL,lU]
 | .lst xs,y,h1,h2=>by
  cases y with
  | lst b=>simp only[i6]at h1 h2;simp only[l5,PL,lU];exact S5 xs b h1 h2
  | lN c n=>exact(Dh h2).elim
  | i8 c n=>exact(Dg h2).elim
  | _=>simp[l5,PL,lU]
theorem S5 : ∀xs ys:List D,u5 xs=cz->u5 ys=cz->Sq (q7 xs) (q7 ys)=u0 xs ys
 | [],ys,_,_=>by cases ys<;>simp[q7,Sq,u0]
 | x::xs,ys,h1,h2=>by
  cases ys with
  | nil=>simp[q7,Sq,u0]
  | cons y ys=>
   simp only[u5,Mt]at h1 h2;simp only[q7,Sq,u0];rw[S4 x y h1.1 h2.1,S5 xs ys h1.2 h2.2]
end
mutual
theorem UC : ∀x:D,i6 x=cz->(l5 x).canLay0=cz
 | .el,_=>by simp[l5,PN]
 | .bl a,_=>by simp[l5,PN]
 | .int a,_=>by simp[l5,PN]
 | .str a,h=>by simpa[l5,PN,i6,PyData.strOk]using h
 | .tup xs,h=>by simp only[i6]at h;simp only[l5,PN];exact TC xs h
 | .lst xs,h=>by simp only[i6]at h;simp only[l5,PN];exact TC xs h
 | .lN c n,h=>(Dh h).elim
 | .i8 c n,h=>(Dg h).elim
theorem TC : ∀xs:List D,u5 xs=cz->SF (q7 xs)=cz
 | [],_=>by simp[q7,SF]
 | x::xs,h=>by simp only[u5,Mt]at h;simp only[q7,SF];rw[UC x h.1,TC xs h.2];rfl
end
mutual
theorem Uu : ∀x:D,(l5 x).depth=deep x
 | .el=>by simp[l5,Pk,deep]
 | .bl a=>by simp[l5,Pk,deep]
 | .int a=>by simp[l5,Pk,deep]
 | .str a=>by simp[l5,Pk,deep]
 | .lN c n=>by simp[l5,Pk,deep]
 | .i8 c n=>by simp[l5,Pk,deep]
 | .tup b=>by simp only[l5,Pk,deep];rw[S3 b]
 | .lst b=>by simp only[l5,Pk,deep];rw[S3 b]
theorem S3 : ∀xs:List D,PyData.depthAll (q7 xs)=A7 xs
 | []=>by simp[q7,PyData.depthAll,A7]
 | x::xs=>by simp only[q7,PyData.depthAll,A7];rw[Uu x,S3 xs]
end
theorem vf(h:m7 d=cz):i6 d=cz:=by unfold m7 at h;rw[Mt]at h;exact h.2
theorem wt(h:m7 d=cz):SeqAt.shaped (l5 d)=cz:=by unfold m7 at h;rw[Mt,decide_eq_true_eq]at h;unfold SeqAt.shaped;rw[UC d h.2,Bool.true_and,Uu];exact decide_eq_true ⋯
section
variable{X:Cx}{pins:UQ}{σ:St}{H0 H:Hp}{s:d7}
mutual
theorem Ig(I:Inv X pins σ H s)(sub:gh H0 H) : ∀{d:D} {v:V} {u:dy},i6 d=cz->Rep X.K H0 d v->RelV v u->∃O,Reads s.heap u (l5 d) O
 | .el,v,u,_,h,r=>by cases (show v = .el from h);cases r;exact⟨_,.none⟩
 | .bl b,v,u,_,h,r=>by cases (show v = .bl b from h);cases r;exact⟨_,.bool b⟩
 | .int i,v,u,_,h,r=>by cases (show v = .int i from h);obtain⟨t,rfl⟩:=r;exact⟨_,.int i t⟩
 | .str x,v,u,_,h,r=>by cases (show v = .str x from h);obtain⟨t,rfl⟩:=r;exact⟨_,.str x t⟩
 | .lN c n,v,u,o,_,_=>(Dh o).elim
 | .i8 c n,v,u,o,_,_=>(Dg o).elim
 | .tup ds,v,u,o,h,r=>by obtain⟨a,e,rfl,f,g⟩:=(show ∃a e,v = .ref a/\g5 X.K H0 a e/\d5 X.K H0 ds e from h);cases r;simp only[i6]at o;obtain⟨l,U,⟨y,Y,j,n,k⟩,w⟩:=I.tuple<|m1 sub f;obtain⟨O,m⟩:=TQ I sub o g U;exact⟨O,.tuple Y j k<|by simpa using m⟩
 | .lst ds,v,u,o,h,r=>by obtain⟨a,e,rfl,f,g⟩:=(show ∃a e,v = .ref a/\fA X.K H0 a e/\d5 X.K H0 ds e from h);cases r;simp only[i6]at o;obtain⟨l,U,p,w⟩:=I.list<|sub.seq f;obtain⟨y,Y,j,n,k⟩:=p.isList;obtain⟨O,m⟩:=TQ I sub o g U;exact⟨_,.list Y j k<|by simpa using m⟩
theorem TQ(I:Inv X pins σ H s)(sub:gh H0 H) : ∀{ds:List D} {xs:List V} {us:List dy},u5 ds=cz->d5 X.K H0 ds xs->eF xs us->∃O,ReadsAll s.heap us (q7 ds) O
 | [],xs,us,_,h,r=>by rw[h.n5]at r;cases r;exact⟨_,.nil⟩
 | d::ds,xs,us,o,h,r=>by
  obtain⟨x,t,e,a,b⟩:=h.l7;subst e;simp only[u5,Mt]at o;cases r with
  | cons U f=>
   obtain⟨O,Y⟩:=Ig I sub o.1 a U;obtain⟨bs,g⟩:=TQ I sub o.2 b f;exact⟨_,.cons Y g⟩
end
end
noncomputable def HQ(K:LX):R2:=λx y H Q=>∃a b I,gh a H/\Rep K a b x/\Rep K a I y/\m7 b=cz/\m7 I=cz/\Q (.bl<|lU b I) H
noncomputable def HP(K:LX):R2:=λx y H Q=>∃a b I,gh a H/\Rep K a b x/\Rep K a I y/\m7 b=cz/\m7 I=cz/\Q (.bl<|!lU b I) H
theorem oI(Y:X.A.units+64<DO):ij X (nf .Eq) (HQ X.K):=by intro a s m H x y v u Q I g i h;obtain⟨j,k,l,sub,b,d,O,U,q⟩:=h;obtain⟨as,e⟩:=Ig I sub (vf O) b g;obtain⟨bs,f⟩:=Ig I sub (vf U) d i;exact eq_dataH e f (wt O) (wt U) Y ⟨.bl _,H,I,by rw[S4 _ _ (vf O) (vf U)];rfl,q⟩
theorem BH(Y:X.A.units+64<DO):ij X (nf .NotEq) (HP X.K):=by intro a s m H x y v u Q I g i h;obtain⟨j,k,l,sub,b,d,O,U,q⟩:=h;obtain⟨as,e⟩:=Ig I sub (vf O) b g;obtain⟨bs,f⟩:=Ig I sub (vf U) d i;exact ne_dataH e f (wt O) (wt U) Y ⟨.bl _,H,I,by rw[S4 _ _ (vf O) (vf U)];rfl,q⟩
theorem de{K:LX}:m3 K (HQ K) hG:=λa H x y b O d Q s U Y I q=>by
 unfold hG at I;split at I
 ·rename_i h;cases I;exact⟨a,b,O,s,U,Y,h.1,h.2,q _ H a (Ext.refl s) rfl⟩
 ·cases I
theorem rA{K:LX}:m3 K (HP K) nr:=λa H x y b O d Q s U Y I q=>by
 unfold nr at I;split at I
 ·rename_i h;cases I;exact⟨a,b,O,s,U,Y,h.1,h.2,q _ H a (Ext.refl s) rfl⟩
 ·cases I
theorem SX.L1(h:SX X sc N T k):X.A.units+64<DO:=by have:=h.room.un;omega
section
variable{X:Cx}{sc:g9}{N T:List Str}{k:Nat}{a b c:eh}{pos p:gB}{fa fb fc:CO D}
theorem xN(z:PV X a fa)(I:PV X b fb):PV X (.BinOp a .Sub b pos) (zE yR fa fb):=Xf BE rk z I
theorem xY(z:PV X a fa)(I:PV X b fb):PV X (.BinOp a .FloorDiv b pos) (zE v9 fa fb):=Xf sZ rE z I
theorem jG(z:PV X a fa)(I:PV X b fb):PV X (.BinOp a .Mod b pos) (zE q8 fa fb):=Xf BI rC z I
theorem dO(z:PV X a fa)(I:PV X b fb):PV X (.BinOp a .Pow b pos) (zE uf fa fb):=Xf BG rz z I
theorem FW(z:PV X a fa)(I:PV X b fb):PV X (.Compare a [.GtE] [b] pos) (zE D4 fa fb):=oA Gf As z I<|JG b
theorem Yi(h:SX X sc N T k)(z:PV X a fa)(I:PV X b fb):PV X (.Compare a [.Eq] [b] pos) (zE hG fa fb):=oA (oI h.L1) de z I<|JG b
theorem Be(z:PV X a fa)(I:PV X b fb):mm X (.Compare a [.Lt] [b] pos) (sB<|zE D5 fa fb):=Jy BJ oi z I<|JG b
theorem WE(z:PV X a fa)(I:PV X b fb):mm X (.Compare a [.Gt] [b] pos) (sB<|zE Dt fa fb):=Jy Ge Ar z I<|JG b
theorem xZ(h:SX X sc N T k)(z:PV X a fa)(I:PV X b fb):mm X (.Compare a [.Eq] [b] pos) (sB<|zE hG fa fb):=Jy (oI h.L1) de z I<|JG b
theorem ZD(h:SX X sc N T k)(z:PV X a fa)(I:PV X b fb):mm X (.Compare a [.NotEq] [b] pos) (sB<|zE nr fa fb):=Jy (BH h.L1) rA z I<|JG b
theorem Vm{K:LX}{H:Hp}{d:D}(h:Rep K H d .el):d = .el:=by
 cases d with
 | el=>rfl
 | bl b=>exact V.noConfusion (show V.el = .bl b from h)
 | int b=>exact V.noConfusion (show V.el = .int b from h)
 | str b=>exact V.noConfusion (show V.el = .str b from h)
 | tup b=>obtain⟨a,f,e,_⟩:=h;cases e
 | lst b=>obtain⟨a,f,e,_⟩:=h;cases e
 | lN c n=>obtain⟨a,f,e,_⟩:=h;cases e
 | i8 c n=>obtain⟨a,f,e,_⟩:=h;cases e
theorem rD{K:LX}:m3 K (λx y H Q=>y = .el/\Q (.bl<|decide<|x = .el) H) Cz:=λa H x y b U d Q s I Y O q=>by
 cases U with
 | el=>
  refine⟨Y,?_⟩;cases b with
  | el=>cases O;rw[show x=V.el from I];exact q _ H a (Ext.refl s) (by simp;rfl)
  | _=>
   cases O;refine q _ H a (Ext.refl s) ?_;have : ¬x=V.el:=λe=>by rw[e]at I;exact D.noConfusion<|Vm I
   rw[decide_eq_false this];rfl
 | _=>cases b<;>cases O
theorem sv(z:PV X a fa)(I:PV X b fb):mm X (.Compare a [.Is] [b] pos) (sB<|zE Cz fa fb):=Jy BK rD z I<|JG b
theorem yn{K:LX}{H:Hp}{ds:List D}{v:V}(h:Rep K H (.tup ds) v) : ∃a xs,v = .ref a/\g5 K H a xs/\d5 K H ds xs:=h
theorem fD{K:LX}{H:Hp}{ds:List D}{v:V}(h:Rep K H (.lst ds) v) : ∃a xs,v = .ref a/\fA K H a xs/\d5 K H ds xs:=h
theorem xA{K:LX}{H:Hp}{ds:List D}{a:dv}{xs:List V}(z:g5 K H a xs)(C:d5 K H ds xs):Rep K H (.tup ds) (.ref a):=⟨a,xs,rfl,z,C⟩
theorem Zk{K:LX}{H:Hp}{ds:List D}{a:dv}{xs:List V}(z:fA K H a xs)(C:d5 K H ds xs):Rep K H (.lst ds) (.ref a):=⟨a,xs,rfl,z,C⟩
theorem rF{K:LX}:m3 K (λx y H Q=>qq (λi j=> .int (i+j)) x y H Q\/oq K x y H Q) jJ:=λg H x y o r d Q s Y m O q=>by
 cases o<;>cases r<;>simp[jJ]at O
 ·subst O;exact .inl ⟨_,_,jq Y,jq m,q _ H g (Ext.refl s) rfl⟩
 ·rename_i n t
  obtain⟨u,rfl⟩:=O;obtain⟨a,w,rfl,h,f⟩:=yn Y;obtain⟨b,z,rfl,k,I⟩:=yn m;refine .inr ⟨a,b,w,z,rfl,rfl,m1 s h,m1 s k,k5 (by rw[f.length,I.length];exact u),λe=>?_,λe=>?_,λp l=>?_⟩
  ·have U:n=[]:=by
    have:=f.length;rw[e]at this;exact MX this.symm
   subst U;exact q _ H g (Ext.refl s)<|xA k I
  ·have U:t=[]:=by
    have:=I.length;rw[e]at this;exact MX this.symm
   subst U;exact q _ H g (Ext.refl s) (by rw[OG];exact xA h f)
  ·exact q _ _ _ (Ext.alloc s l _)<|xA (g5.of zN)<|(f.append I).mono (jc (jo s l) _)
theorem ji(z:PV X a fa)(I:PV X b fb):PV X (.BinOp a .Add b pos) (zE jJ fa fb):=Xf (M'.or mD) rF z I
end
theorem Wd(U:A.handled=none)(k:Sk)(I O:dv)(Y:O≠I)(items:Array dy) :
 Walks P w A I [I,O] [I] items.size (λi v=>items[i]? = bX v) (λi h=>ix k h I O i/\lr k h O items):=by
 cases k
 ·exact Walks.list U I O Y items
 ·exact Walks.tuple U I O Y items
theorem Jz(z:List Int) : ∀n,preSum (λi=>z.getD i 0) n=(z.take n).sum
 | 0=>by simp[preSum]
 | n+1=>by
  have I:=Jz z n;simp only[preSum,I];by_cases h:n<z.length
  ·rw[List.take_succ_eq_append_getElem h,List.sum_append]
   simp[h]
  ·rw[OO ⋯,OO ⋯]
   simp[h]
section
variable{X:Cx}{pins:UQ}{σ:St}{H:Hp}{s:d7}
theorem gJ(C:X.calm=cz):Zz X (.builtin "sum") (λxs H Q=>∃p k ys z,xs=[.ref p]/\i5 k X.K H p ys/\ys=(z:List Int).map V.int/\Q (.int z.sum) H):=by
 intro pins s σ H G F Q I w h;obtain⟨p,k,ys,z,rfl,m,rfl,q⟩:=h;obtain⟨u,rfl,O⟩:=yN w;cases O;obtain⟨a,r,d,E⟩:=I.sq m;have lt:=d.lt;have U:=r.length;rw[Mq]at U;refine call_sum_walkG<|WZ d ⟨_,[_,p],[_],a.toArray.size,_,_,λi=>z.getD i 0,rfl,Wd (A:=X.A.in1) (I.ok.hd C) k _ p (Mr lt) a.toArray,⟨JN k _ p,d.at λo e=>LY _ e⟩,?_,?_,?_⟩
 ·intro b Y
  rw[MV];simp only[Mj,Ms,or_false]at Y;rcases Y with rfl | rfl
  ·exact NY _
  ·exact Nl lt
 ·intro i v n
  have f:a[i]? = bX v:=by simpa using n
  have j:i<z.length:=by rw[U];exact(Mo.mp f).1
  obtain⟨u,g,O⟩:=r.get (i:=i) (x:= .int z[i]) (by simp[j]);rw[f]at g;cases g;obtain⟨t,rfl⟩:=O;exact⟨t,by simp[j]⟩
 ·intro B y t' l
  have e:preSum (λi=>z.getD i 0) a.toArray.size=z.sum:=by rw[Jz,OO (by rw[Mi,U];exact Mf _)]
  refine⟨.int z.sum,H,I.kept (t':=y)<|λb u e=>l b u ?_ (LY _ e),⟨t',by rw[e]⟩,q⟩;simp only[Mj,Ms,or_false];exact Mr<|Mk e
noncomputable def Ac:V->Option Bool
 | .el=>bX dn
 | .bl b=>bX b
 | .int i=>bX (i != 0)
 | _=>none
theorem iC(r:RelV x u)(e:Ac x=bX b)(q:Q b s):wpAny (eg P w) A (L0 u) Q E s:=by
 cases x with
 | el=>cases r;cases e;exact λ_ _ _=>q
 | bl c=>cases r;cases e;exact NW q
 | int i=>obtain⟨t,rfl⟩:=r;cases e;exact PyProof.Rows.truthy_int q
 | _=>cases e
noncomputable def cL:List V->Option (List Bool)
 | []=>bX []
 | x::r=>(Ac x).bind λb=>(cL r).map λl=>b::l
theorem KR : ∀{xs:List V} {bs:List Bool},cL xs=bX bs->bs.length=xs.length/\∀(i:Nat) x,xs[i]? = bX x->Ac x=bX (bs.getD i dn)
 | [],bs,h=>by cases h;exact⟨rfl,λi x e=>by simp at e⟩
 | y::xs,bs,h=>by
  obtain⟨b,a,h⟩:=zg h;obtain⟨l,I,h⟩:=zG h;subst h;obtain⟨d,f⟩:=KR I;refine⟨by simp[d],λi x e=>?_⟩;cases i with
  | zero=>simp at e;subst e;simpa using a
  | succ i=>simpa using f i x (by simpa using e)
theorem gX(bs:List Bool):(LW bs.length).any (λi=>bs.getD i dn)=bs.any id:=by
 rw[RZ];simp only[Td,Ma,id_eq];constructor
 ·rintro⟨i,a,h⟩
  rw[Mc,LZ a]at h;exact⟨_,NQ a,h⟩
 ·rintro⟨b,I,h⟩
  obtain⟨i,a,e⟩:=List.mem_iff_getElem.mp I;refine⟨i,a,?_⟩;rw[Mc,LZ a,SO,e];exact h
theorem gO(z:X.calm=cz):Zz X (.builtin "any") (λxs H Q=>∃p k ys bs,xs=[.ref p]/\i5 k X.K H p ys/\cL ys=bX bs/\Q (.bl (bs.any id)) H):=by
 intro pins s σ H N M Q I B h;obtain⟨p,k,ys,bs,rfl,t,w,q⟩:=h;obtain⟨u,rfl,O⟩:=yN B;cases O;obtain⟨a,r,d,J⟩:=I.sq t;have lt:=d.lt;have U:=r.length;obtain⟨j,l⟩:=KR w;refine call_any_walk<|WZ d ⟨_,[_,p],[_],a.toArray.size,_,_,λi=>bs.getD i dn,rfl,Wd (A:=X.A.in1) (I.ok.hd z) k _ p (Mr lt) a.toArray,⟨JN k _ p,d.at λo e=>LY _ e⟩,?_,?_⟩
 ·intro i v L F E y m
  have Y:a[i]? = bX v:=by simpa using y
  have g:i<ys.length:=by rw[U];exact(Mo.mp Y).1
  obtain⟨u,f,O⟩:=r.get (i:=i) (x:=ys[i]) (by simp[g]);rw[Y]at f;cases f;exact iC O (l i ys[i] (by simp[g])) m
 ·intro G C n
  have e:(LW a.toArray.size).any (λi=>bs.getD i dn)=bs.any id:=by rw[Mi,<- U,<- j];exact gX bs
  refine⟨.bl<|bs.any id,H,I.kept (t':=C)<|λb u e=>n b u ?_ (LY _ e),by rw[e];rfl,q⟩;simp only[Mj,Ms,or_false];exact Mr<|Mk e
end
section
variable{X:Cx}{sc:g9}{N T:List Str}{k:Nat}{e a b c:eh}{pos p p2:gB}{f g:CO D}{fq:CO (Sk×List D)}
theorem Am{K:LX}{H:Hp}{k:Sk}{a:dv}{xs:List V}(h:i5 k K H a xs):fA K H a xs\/g5 K H a xs:=by
 cases k
 ·exact .inl h
 ·exact .inr h
theorem xw(h:SX X sc N T k)(c:vD sc "len" = cz)(z:X.mg "len" = none)(I:PQ X e fq)(hs:ft [e] X.env=[(dn,ej e X.env)]:=by rfl):PV X (.Call (.Name "len" p) [e] [] pos) (yO fq):=
 qr (kM YZ (h.gl c).1 z PySem.boot_len (jr I qu hs) ⋯ ⋯ hs rfl) λt H Q O=>by obtain⟨j,o,d,rc,U,q⟩:=O;obtain⟨⟨n,f⟩,l,Y⟩:=zG U;subst Y;refine⟨j,o,n,f,rc,l,λa g i b ext m s r=>⟨a,g,rfl,Am m,?_⟩⟩;exact q _ i b ext (show V.int g.length = .int f.length by rw[r.length])
theorem qC(h:SX X sc N T k)(c:vD sc "tuple" = cz)(z:X.mg "tuple" = none)(O:PQ X e fq)(hs:ft [e] X.env=[(dn,ej e X.env)]:=by rfl):PV X (.Call (.Name "tuple" p) [e] [] pos) (jv fq):=
 qr (JA Kv (h.gl c).1 z PyProof.Rows.boot_tuple (jr O qu hs) ⋯ ⋯ hs rfl) λw H Q U=>by
  obtain⟨j,u,d,rc,Y,q⟩:=U;obtain⟨⟨g,m⟩,n,o⟩:=zG Y;subst o;refine⟨j,u,g,m,rc,n,λa t i b ext f s r=>⟨a,t,rfl,?_⟩⟩;cases g with
  | L=>exact .inl ⟨f,λl I=>q _ _ _ (ext.trans<|Ext.alloc ext.sub I _)<|xA (g5.of zN)<|r.mono<|jc (jo ext.sub I) _⟩
  | T=>exact .inr ⟨f,q _ i b ext (xA (s rfl) r)⟩
theorem xj{H H':Hp}(s:gh H H'){a:dv}(h:H' a=none):H a=none:=by
 cases z:H a with
 | none=>rfl
 | some o=>rw[s a o z]at h;cases h
theorem eE(h:SX X sc N T k)(c:vD sc "list" = cz)(z:X.mg "list" = none)(O:PQ X e fq)(hs:ft [e] X.env=[(dn,ej e X.env)]:=by rfl):PO X (.Call (.Name "list" p) [e] [] pos) (XR fq):=
 qr (JA YX (h.gl c).1 z PyProof.Rows.boot_list (jr O qu hs) ⋯ ⋯ hs rfl) λw H Q U=>by obtain⟨g,s,d,rc,Y,q⟩:=U;obtain⟨⟨o,i⟩,j,m⟩:=zG Y;subst m;refine⟨g,s,o,i,rc,j,λa f t b ext n u r=>⟨a,f,rfl,Am n,λl I=>?_⟩⟩;exact q l f _ b (ext.trans<|Ext.hide ext.sub I _) (xj ext.s1 I) (jo ext.sub I) zN r
theorem KZ : ∀{ds:List D} {n:Int},Wq ds=bX n->∃z:List Int,ds=z.map D.int/\n=z.sum
 | [],n,h=>by cases h;exact⟨[],rfl,rfl⟩
 | d::ds,n,h=>by
  cases d with
  | int i=>
   obtain⟨s,e,h⟩:=zG h;obtain⟨z,rfl,rfl⟩:=KZ e;exact⟨i::z,rfl,by rw[<- h];simp⟩
  | _=>cases h
theorem Ye{K:LX}{H:Hp} : ∀{C:List Int} {xs:List V},d5 K H (C.map D.int) xs->xs=C.map V.int
 | [],xs,h=>h.n5
 | z::C,xs,h=>by obtain⟨x,r,e,a,b⟩:=d5.l7 h;rw[e,jq a,Ye b];rfl
theorem Xe(h:SX X sc N T k)(c:vD sc "sum" = cz)(z:X.mg "sum" = none)(U:PQ X e fq)(hs:ft [e] X.env=[(dn,ej e X.env)]:=by rfl):PV X (.Call (.Name "sum" p) [e] [] pos) (iP fq):=
 qr (kM (gJ h.calm) (h.gl c).1 z PyProof.Rows.boot_sum (jr U qu hs) ⋯ ⋯ hs rfl) λy H Q Y=>by obtain⟨j,w,d,rc,I,q⟩:=Y;obtain⟨⟨f,l⟩,m,I⟩:=zg I;obtain⟨n,o,s⟩:=zG I;subst s;obtain⟨g,O,rfl⟩:=KZ o;have O:l=g.map D.int:=O;subst O;exact⟨j,w,f,_,rc,m,λa u i b ext t x r=>⟨a,f,u,g,rfl,t,Ye r,q _ i b ext rfl⟩⟩
theorem pJ{K:LX}{H:Hp}{d:D}{x:V}{b:Bool}(h:Rep K H d x)(e:Fd d=bX b):Ac x=bX b:=by
 cases d with
 | el=>cases (show x = .el from h);exact e
 | bl c=>cases (show x = .bl c from h);exact e
 | int i=>cases (show x = .int i from h);exact e
 | _=>cases e
theorem Wl{K:LX}{H:Hp} : ∀{ds:List D} {xs:List V} {bs:List Bool},d5 K H ds xs->XG ds=bX bs->cL xs=bX bs
 | [],xs,bs,h,e=>by rw[h.n5];exact e
 | d::ds,xs,bs,h,e=>by obtain⟨x,r,I,f,g⟩:=h.l7;obtain⟨b,a,e⟩:=zg e;obtain⟨l,O,e⟩:=zG e;subst I e;show(Ac x).bind _=_;rw[pJ f a];show((cL r).map λl=>b::l)=_;rw[Wl g O];rfl
theorem oB(h:SX X sc N T k)(c:vD sc "any" = cz)(z:X.mg "any" = none)(O:PQ X e fq)(hs:ft [e] X.env=[(dn,ej e X.env)]:=by rfl):PV X (.Call (.Name "any" p) [e] [] pos) (uL fq):=
 qr (kM (gO h.calm) (h.gl c).1 z PyProof.Rows.boot_any (jr O qu hs) ⋯ ⋯ hs rfl) λu H Q U=>by obtain⟨i,o,d,rc,I,q⟩:=U;obtain⟨⟨f,s⟩,j,I⟩:=zg I;obtain⟨bs,Y,l⟩:=zG I;subst l;exact⟨i,o,f,_,rc,j,λa n g b ext m t r=>⟨a,f,n,bs,rfl,m,Wl r Y,q _ g b ext rfl⟩⟩
theorem XU(h:SX X sc N T k)(c:vD sc "int" = cz)(z:X.mg "int" = none)(U:PV X e f)(hs:ft [e] X.env=[(dn,ej e X.env)]:=by rfl):PV X (.Call (.Name "int" p) [e] [] pos) (QH f):=
 qr (JA gN (h.gl c).1 z PyProof.Rows.boot_int (jr U qu hs) ⋯ ⋯ hs rfl) λn H Q Y=>by
  obtain⟨j,m,d,rc,I,q⟩:=Y;obtain⟨O,l,I⟩:=zg I;refine⟨j,m,O,rc,l,λv g a ext r=>?_⟩;cases O with
  | int i=>cases I;exact .inl ⟨i,by rw[jq r],q _ g a ext rfl⟩
  | bl b=>cases I;exact .inr ⟨b,by rw[show v = .bl b from r],q _ g a ext rfl⟩
  | _=>cases I
theorem ou(h:SX X sc N T k)(c:vD sc "max" = cz)(z:X.mg "max" = none)(C:PV X a f)(Y:PV X b g)(hs:ft [a,b] X.env=[(dn,ej a X.env),(dn,ej b X.env)]:=by rfl)(O:ft [b] X.env=[(dn,ej b X.env)]:=by rfl) :
 PV X (.Call (.Name "max" p) [a,b] [] pos) (iV f g):=
 qr (kM (gM h.calm) (h.gl c).1 z PyProof.Rows.boot_max (jr C (jr Y qu O)<|by rw[hs,O]) ⋯ ⋯ (by rw[hs,O]) (by rw[O];rfl)) λJ H Q B=>by obtain⟨o,n,d,rc,I,q⟩:=B;obtain⟨i,l,I⟩:=zg I;obtain⟨u,y,l⟩:=zg l;obtain⟨j,U,I⟩:=zG I;obtain⟨w,A,U⟩:=zg U;subst I;refine⟨o,n,u,rc,y,λv F e x r=>⟨e,n,w,rc.ext x,A,λG s t E m=>⟨i,j,?_,q _ s t (x.trans E) rfl⟩⟩⟩;rw[jD l]at r;rw[jD U]at m;rw[jq r,jq m]
end
section
variable{X:Cx}{sc:g9}{N T:List Str}{k:Nat}{e a b c:eh}{pos p p2:gB}{f g:CO D}{fq:CO (Sk×List D)}
theorem WY(h:f6 n i=bX j):DT n i=bX j:=by
 unfold f6 at h;unfold DT;split at h
 ·rename_i a;rw[UJ a.1,UJ a.2];exact h
 ·split at h
  ·rename_i a b;rw[UY ⋯,UJ ⋯];exact h
  ·cases h
theorem zC(C:PQ X a fq)(J:PV X b g)(hs:V8 b:=by intro _ _;rfl):PV X (.Subscript a b pos) (cE fq g):=
 qr (Bx (H_.or Cf) C J hs) λN H Q B=>by
  obtain⟨o,n,d,rc,I,q⟩:=B;obtain⟨⟨m,w⟩,y,I⟩:=zg I;obtain⟨i,U,I⟩:=zg I;obtain⟨u,z,U⟩:=zg U;obtain⟨j,A,I⟩:=zg I;refine⟨o,n,m,w,rc,y,λp h G e ext l K r=>⟨e,n,u,rc.ext ext,z,λM s t O f=>?_⟩⟩;rw[jD U]at f;obtain⟨x,E,F⟩:=r.get I;have Y:Ds h i=bX x:=by unfold Ds;rw[r.length,WY A];exact E
  have k:=q x s t (ext.trans O)<|F.mono O.s0;cases m with
  | L=>exact .inl ⟨p,h,i,x,rfl,jq f,O.s1.seq l,Y,k⟩
  | T=>exact .inr ⟨p,h,i,x,rfl,jq f,m1 O.s1 l,Y,k⟩
theorem Zv{P:h6}{w:g8}{A:j1}{E:EQ}{s:d7}{t C:dv}{items:Array dy}{O U:dy}{lo z:Option Int}{Q:EQ}(I:F0 s.heap t items)(hs:s.heap.IsSliceOf C O U .none)(Y:B9 O lo)(L:B9 U z)
 (J:HT.cE items.size 0 lo=0/\HT.cE items.size items.size z=items.size) (h:Q (.ref t) s):wpAny (eg P w) A (C9 (.ref t)<|.ref C) Q E s:=by
 obtain⟨os,a,b,f⟩:=id hs;have d:s.TypeIs (.ref C) "slice":=⟨os,a,b⟩;unfold C9
 try with_reducible refine NT ?_
 first | refine LV (Mg ?_) | skip
 refine LV (_a I.typeIs ⋯ ?_);refine LV (Nc (name:=MT "__getitem__") I.typeIs ND
  (Ny ND I.typeIs entry_tuple_getitem ?_ (v_ _ _)))
 show wpAny _ _ (Builtin.Tuple.tupleItemsOf (.ref t) >>= _) _ _ s;refine LV<|Sb I ?_;refine LV<|Rj d ?_;rw[UJ ⋯];refine LV<|HT.ZN hs Y L ?_;have e:(((HT.cE items.size 0 lo:Nat):Int)==0 && (1:Int)==1 && (HT.cE items.size items.size z - HT.cE items.size 0 lo)==items.size)=cz:=by rw[J.1,J.2];simp
 show wpAny _ _ (if (((HT.cE items.size 0 lo:Nat):Int)==0 && (1:Int)==1 && (HT.cE items.size items.size z - HT.cE items.size 0 lo)==items.size)=cz then _ else _) _ _ s;rw[UJ e];refine LV (m:=OM _) ?_;unfold OM;refine LV<|Rj I.typeIs<|Mg ?_;rw[UJ ⋯];exact LV<|Rg<|Mg ⟨_,rfl,Mg h⟩
noncomputable def FS(K:LX):V->Option Int->Option Int->Hp->VK->Prop:=λx lo d H Q=>∃a b,x = .ref a/\g5 K H a b/\(HT.cE b.length 0 lo=0/\HT.cE b.length b.length d=b.length->Q (.ref a) H)/\∀p,H p=none->Q (.ref p) (upd H p<|.tup<|uh b lo d)
theorem rG:P8 X (FS X.K):=by
 intro d s u H x v p t lo g o Q I O i U Y h;obtain⟨a,b,rfl,k,m,n⟩:=h;by_cases e:HT.cE b.length 0 lo=0/\HT.cE b.length b.length g=b.length
 ·cases O
  obtain⟨f,r,j,w⟩:=I.tuple k;have l:f.toArray.size=b.length:=by rw[Mi];exact r.length.symm
  refine⟨"tuple",_,ND.lookup,j.typeIs,?_⟩;exact Zv j i U Y (by rw[l];exact e) ⟨.ref a,H,I,rfl,m e⟩
 ·exact Au d s u H (.ref a) v p t lo g o Q I O i U Y ⟨a,b,rfl,k,e,n⟩
theorem Jc(n d:Nat)(o:Option Int):bN n d o=HT.cE n d o:=by cases o<;>rfl
theorem lq{K:LX}{H:Hp}{ds:List D}{xs:List V}(r:d5 K H ds xs)(lo z:Option Int):d5 K H (nG ds lo z) (uh xs lo z):=by unfold nG uh;rw[<- Jc,<- Jc,r.length];exact(r.drop _).take _
theorem gE{ds:List D}{lo z:Option Int}(h:HT.cE ds.length 0 lo=0/\HT.cE ds.length ds.length z=ds.length):nG ds lo z=ds:=by unfold nG;rw[Jc,Jc,h.1,h.2];simp
noncomputable def tB(K:LX)(f:CO (Option Int)):TO:=λg H Q=>∃d e o,RC K d H g e/\f e=bX o/\∀b a,Ext d H a b->Q o b
theorem X4:L2.PO X none (tB X.K cg):=λa s d H Q I ⟨b,e,o,rc,O,q⟩=>sI a s d H Q I (by cases O;exact q H b<|Ext.refl rc.sub)
theorem X3(h:PV X e f):L2.PO X (bX e) (tB X.K<|rr f):=λa s m H Q I ⟨k,l,o,rc,O,q⟩=>sH h a s m H Q I (by
 obtain⟨i,g,U⟩:=zG O;obtain⟨d,Y,g⟩:=zg g;subst U;refine⟨k,l,d,rc,Y,λv j b x r=>?_⟩;rw[jD g]at r;exact⟨i,jq r,q j b x⟩)
theorem WC{lo z:Option eh}{U Y:CO (Option Int)}(J:PV X a f)(M:L2.PO X lo (tB X.K U))(L:L2.PO X z (tB X.K Y)):PV X (.Subscript a (.Slice lo z none p2) pos) (cf f U Y):=
 qr (mi rG J M L) λR H Q E=>by
  obtain⟨n,g,d,rc,I,q⟩:=E;obtain⟨h,A,I⟩:=zg I;obtain⟨l,B,I⟩:=zg I;obtain⟨u,C,I⟩:=zg I;refine⟨n,g,h,rc,A,λv G b x r=>⟨b,g,l,rc.ext x,B,λN t O=>⟨t,g,u,(rc.ext x).ext O,C,λo w x3=>?_⟩⟩⟩;have m:=x.trans<|O.trans x3;cases h with
  | tup P=>
   cases I;obtain⟨s,F,rfl,i,e⟩:=yn<|r.mono (O.trans x3).s0;have y:=e.length;refine⟨s,F,rfl,m1 x3.sub i,λk=>?_,λp j=>?_⟩
   ·rw[y]at k
    exact q _ o w m (by rw[gE k];exact xA i e)
   ·exact q _ _ _ (m.trans<|Ext.alloc x3.sub j _)<|xA (g5.of zN)<|(lq e _ _).mono (jc (jo x3.sub j) _)
  | _=>cases I
theorem XT{K:LX}{H:Hp}{ds:List D}{xs:List V}(r:d5 K H ds xs) : ∀n:Nat,d5 K H (Mb n ds).flatten (Mb n xs).flatten
 | 0=>d5.nil
 | n+1=>by rw[Oq,Oq,Pa,Pa];exact r.append<|XT r n
theorem Xh(z:PQ X a fq)(C:PQ X b gq):PO X (.BinOp a .Add b pos) (QI fq gq):=
 qr (sR mE z C) λJ H Q w=>by
  obtain⟨k,j,E,rc,I,q⟩:=w;obtain⟨⟨x,d⟩,r,I⟩:=zg I;obtain⟨⟨y,e⟩,s,I⟩:=zg I;cases x<;>cases y<;>try (simp at I;done)
  dsimp only at I;by_cases U:d.length+e.length<=lim
  ·rw[UJ U]at I;cases I
   refine⟨k,j,.L,d,rc,r,λl h A n x1 t F f=>⟨n,j,.L,e,rc.ext x1,s,λm i B o O u G g=>⟨l,m,h,i,rfl,rfl,O.s1.seq t,u,k5 (by rw[f.length,g.length];exact U),λp Y=>?_⟩⟩⟩;exact q p (h++i) _ o (x1.trans<|O.trans<|Ext.hide O.sub Y _) (xj (x1.trans O).s1 Y) (jo O.sub Y) zN<|(f.mono O.s0).append g
  ·rw[UY U]at I;cases I
theorem oF(z:PO X a gn)(C:PV X b g):PO X (.BinOp a .Mult b pos) (iR (jS gn) g):=
 qr (sR BF z C) λM H Q w=>by
  obtain⟨l,k,E,rc,I,q⟩:=w;obtain⟨⟨J,f⟩,d,I⟩:=zg I;obtain⟨B,s,d⟩:=zG d;cases d;obtain⟨j,Y,I⟩:=zg I;obtain⟨r,t,Y⟩:=zg Y;dsimp only at I;by_cases U:f.length*j.toNat<=lim/\inR j=cz
  ·rw[UJ U]at I;cases I
   refine⟨l,k,f,rc,s,λm x y n x1 F G u h=>⟨n,k,r,rc.ext x1,t,λv A o O i=>?_⟩⟩;rw[jD Y]at i;obtain⟨K,L⟩:=JS U.2;refine⟨m,j,x,rfl,jq i,O.s1 _ _ u,by omega,by omega,k5 (by rw[h.length];exact U.1),λp e=>?_⟩;exact q p _ _ o (x1.trans<|O.trans<|Ext.hide O.sub e _) (xj (x1.trans O).s1 e) (jo O.sub e) zN<|(XT h _).mono O.s0
  ·rw[UY U]at I;cases I
theorem BV{K:LX}{t c:String}{b:Bool}(h:(if ((OA t) == .type c)=cz then bX cz else if PySem.W.kitMeta c=cz then (fastBuiltinMro t).map (·.contains (.type c))else none)=bX b):Pd K (.type t) (.type c)=bX b:=h
noncomputable def O6:Ty->String
 | .int=>"int"
 | .bool=>"bool"
 | .str=>"str"
 | .tuple=>"tuple"
 | .list=>"list"
noncomputable def BW:D->String
 | .el=>"NoneType"
 | .bl _=>"bool"
 | .int _=>"int"
 | .str _=>"str"
 | .tup _=>"tuple"
 | .lst _=>"list"
 | .lN _ _=>"dict"
 | .i8 _ _=>"dict"
theorem YD{K:LX}(T:Ty)(d:D):Pd K (.type<|BW d) (.type<|O6 T)=bX (tH T d):=by cases d<;>cases T<;>(dsimp only[BW,O6,tH,oW,Ci,oT,oS,oV];exact BV ⋯)
theorem mY{C:UQ}{L:St}{H0 H:Hp}{s:d7}{A:j1}{E:EQ}{Q:EQ}{d:D}{x:V}{u:dy}(I:Inv X C L H s)(sub:gh H0 H)(O:RelV x u)(r:Rep X.K H0 d x)(T:Ty)
 (h : ∀J,Q (.bool (tH T d)) {s with toks:=J}):wpAny (eg X.prog X.w) A (call (.builtin "isinstance") [u,.type (O6 T)]) Q E s:=by
 cases d with
 | el=>have e:=YD (K:=X.K) T .el;cases (show x = .el from r);cases (show u=MS from O);exact Ng PySem.W.kitx_none I.mu ON e (λz=>nomatch z) h
 | bl y=>have e:=YD (K:=X.K) T<|.bl y;cases (show x = .bl y from r);cases (show u=Value.bool y from O);exact Ng PySem.W.kitx_bool I.mu ON e (λz=>nomatch z) h
 | int i=>have e:=YD (K:=X.K) T<|.int i;cases (show x = .int i from r);obtain⟨t,q⟩:=(show ∃t,u=RW i t from O);cases q;exact Ng PySem.W.kitx_int I.mu ON e (λz=>nomatch z) h
 | str y=>have e:=YD (K:=X.K) T<|.str y;cases (show x = .str y from r);obtain⟨t,q⟩:=(show ∃t,u=Sz y t from O);cases q;exact Ng PySem.W.kitx_str I.mu ON e (λz=>nomatch z) h
 | tup k=>
  have e:=YD (K:=X.K) T<|.tup k;obtain⟨a,b,rfl,f,l⟩:=yn r;cases (show u=Nr a from O);obtain⟨m,B,⟨o,U,Y,_⟩,n⟩:=I.tuple<|m1 sub f;exact Ng PySem.W.kitx_tuple I.mu ⟨o,U,Y⟩ e (λz=>nomatch z) h
 | lst k=>
  have e:=YD (K:=X.K) T<|.lst k;obtain⟨a,b,rfl,f,l⟩:=fD r;cases (show u=Nr a from O);obtain⟨m,B,p,n⟩:=I.list<|sub.seq f;obtain⟨o,U,Y,_⟩:=p.isList;exact Ng Uo I.mu ⟨o,U,Y⟩ e (λz=>nomatch z) h
 | lN g j=>
  have e:=YD (K:=X.K) T<|.lN g j;obtain⟨a,b,rfl,⟨F,_,_,f⟩,_⟩:=(show ∃a b,x = .ref a/\DG H0 a g b/\d5 X.K H0 j b from r);exact fT I O (.dK<|sub _ _ f) e h
 | i8 g j=>
  have e:=YD (K:=X.K) T<|.i8 g j;obtain⟨a,b,rfl,⟨_,o,G,f,l,_⟩,_⟩:=(show ∃a b,x = .ref a/\L8 X.K H0 a g b/\d5 X.K H0 j b from r);cases (show u=Nr a from O);obtain⟨U,_⟩:=(show i7 X.prog X.w H s.heap a (Ur a o)from I.fy a _<|sub _ _ f);exact Ng SD I.mu ⟨o,U,l.1.1⟩ e (λz=>nomatch z) h
theorem Bb(T:Ty)(h:SX X sc N L k)(c:vD sc "isinstance" = cz)(z:X.mg "isinstance" = none)(O:vD sc ty=cz)(M:X.mg ty=none)(J:C3 ty=bX (.type (O6 T)))(C:PV X a f)
 (hs:ft [a,.Name ty p2] X.env=[(dn,ej a X.env),(dn,ej (.Name ty p2) X.env)]:=by rfl):PV X (.Call (.Name "isinstance" p) [a,.Name ty p2] [] pos) (Dk T f):=by
 intro e s F H Q I ⟨i,E,d,rc,o,q⟩;obtain⟨Y,m,n⟩:=zG o;subst n;refine OY<|kO I (h.gl c).1 z PyProof.Rows.boot_isinstance ?_ ⋯ ⋯;refine Sd ?_ (by rw[hs];rfl) rfl;rw[hs];show wpAny _ _ (I7 ((dn,ej a X.env)::p8 pos [(dn,ej (.Name ty p2) X.env)])) _ _ s;refine Px<|eM (C e s F H _ I ⟨i,E,Y,rc,m,λv g b x r=>(show(λv g=>∃b,Ext i H b g/\Rep X.K b Y v) v g from⟨b,x,r⟩)⟩) λu A t=>?_;obtain⟨x,j,U,w,l,x1,y⟩:=t;show wpAny _ _ (I7 ((dn,ej (.Name ty p2) X.env)::[])) _ _ A;refine Px<|kO U (h.gl O).1 M J ?_ (h.gl O).2.1 (h.gl O).2.2;refine RH ?_;exact mY U x1.sub w y T λB=>⟨.bl _,j,U.tok B,rfl,q _ j l x1 rfl⟩
end
section
variable{X:Cx}{sc:g9}{N L:List Str}{k:Nat}{e a b c:eh}{pos p p2:gB}{f g:CO D}{fq:CO (Sk×List D)}
theorem z5(h:SX X sc N L k)(c:vD sc "range" = cz)(z:X.mg "range" = none)(C:PV X a f)(hs:ft [a] X.env=[(dn,ej a X.env)]:=by rfl):h7 X tg (.Call (.Name "range" p) [a] [] pos) (zS f):=aX (h.gl c).1 z C hs
theorem ZU(h:SX X sc N L k)(c:vD sc "range" = cz)(z:X.mg "range" = none)(C:PV X a f)(I:PV X b g)(hs:ft [a,b] X.env=[(dn,ej a X.env),(dn,ej b X.env)]:=by rfl)(O:ft [b] X.env=[(dn,ej b X.env)]:=by rfl) :
 h7 X tg (.Call (.Name "range" p) [a,b] [] pos) (ku f g):=aW (h.gl c).1 z C I hs O
theorem vO(h:SX X sc N L k)(c:vD sc "zip" = cz)(z:X.mg "zip" = none)(C:PV X a f)(I:PV X b g)(hs:ft [a,b] X.env=[(dn,ej a X.env),(dn,ej b X.env)]:=by rfl)(O:ft [b] X.env=[(dn,ej b X.env)]:=by rfl) :
 h7 X (.Tuple elts x1 r6) (.Call (.Name "zip" p) [a,b] [] pos) (KF f g):=sN (h.gl c).1 z C I hs O
theorem dS(h:SX X sc N L k)(c:vD sc "isinstance" = cz)(z:X.mg "isinstance" = none)(I:vD sc "int" = cz)(O:X.mg "int" = none)(C:PV X a f)
 (hs:ft [a,.Name "int" p2] X.env=[(dn,ej a X.env),(dn,ej (.Name "int" p2) X.env)]:=by rfl):PV X (.Call (.Name "isinstance" p) [a,.Name "int" p2] [] pos) (Dk .int f):=Bb .int h c z I O PyProof.Rows.boot_int C hs
theorem aP(h:SX X sc N L k)(c:vD sc "isinstance" = cz)(z:X.mg "isinstance" = none)(I:vD sc "bool" = cz)(O:X.mg "bool" = none)(C:PV X a f)
 (hs:ft [a,.Name "bool" p2] X.env=[(dn,ej a X.env),(dn,ej (.Name "bool" p2) X.env)]:=by rfl):PV X (.Call (.Name "isinstance" p) [a,.Name "bool" p2] [] pos) (Dk .bool f):=Bb .bool h c z I O PyProof.Rows.boot_bool C hs
theorem lH(z:PQ X a fq)(O : ∀I,DS a X.env I=(do let v <- I;DU a.pos;sm [v] (L0 v)):=by intro _;rfl):mm X a (rJ fq):=
 Vn (lI z O) λo H Q U=>by
  obtain⟨j,m,t,rc,Y,q⟩:=U;obtain⟨⟨h,b⟩,k,l⟩:=zG Y;subst l;refine⟨j,m,h,b,rc,k,λp d i f ext g n r=>⟨!b.isEmpty,?_,q i f ext⟩⟩;have e:d.isEmpty=b.isEmpty:=by have:=r.length;cases d<;>cases b<;>simp_all
  rw[<- e];cases h with
  | L=>exact .inl ⟨d,g,rfl⟩
  | T=>exact .inr<|.inl ⟨d,g,rfl⟩
theorem WD(z:PV X a f):PV X (.UnaryOp .USub a pos) (iT f):=
 qr (Gc uX z) λl H Q I=>by obtain⟨h,k,d,rc,O,q⟩:=I;obtain⟨i,e,U⟩:=zG O;obtain⟨Y,j,e⟩:=zg e;subst U;refine⟨h,k,Y,rc,j,λv g b x r=>?_⟩;rw[jD e]at r;exact⟨i,jq r,q _ g b x rfl⟩
theorem xS(i:Nat)(h:SX X sc N L k)(c:QE sc N i x=cz)(z:PV X a f)(hs:ft [a] X.env=[(dn,ej a X.env)]:=by rfl)
 (I:M1 (.Name x np) "append" X.env (ej (.Name x np) X.env)=ej (.Name x np) X.env:=by rfl)
 (O:((p8 cpos<|starEach [a] X.env).all (λx=> !x.1) && (M3 cpos<|keywordEach [] X.env).all (λx=>x.1.isSome)
   && decide ([a].length+([]:List C0).length+(if ([]:List C0).isEmpty then 0 else 1)<30))=cz:=by rfl)
 (U:(apos.endLine==cpos.line)=cz:=by rfl) (Y:y6 (.Call (.Attribute (.Name x np) "append" apos) [a] [] cpos) none pos.line X.env=pure dn:=by rfl) :
 kr X (.Expr (.Call (.Attribute (.Name x np) "append" apos) [a] [] cpos) pos) (jI i f):=
 aS i (mq RE PySem.F.slot_list_append PySem.F.type_list_append fw (h.var c) (jr z qu hs) I O U hs rfl) Y
theorem jR(i:Nat){st:i3}{f:CO (List D)}(h:PS X st (Wn (tO X.K f)<|yP i)):kr X st (jy i<|jU f):=ky h λD u H U=>by obtain⟨E0,E,g,o,s,I,O,Y⟩:=U;obtain⟨d,b,O⟩:=zG O;obtain⟨k,l,b⟩:=zG b;subst O b;exact⟨g,o,k,I.rc,l,λa t p j x m e n r=>Y _ _ _<|(I.step<|x.show m e n I.rc.sub).u7 (Zk (fA.of zN)<|r.mono<|jc e _)⟩
theorem O'(i:Nat)(h:SX X sc N L k)(c:yo sc N L i y=cz)
 (I:X.calm=cz) (ok:rb X scope fr) (O : ∀i∈T.idx,i<own.length) (J:rf X tg iter src) (U : ∀fp C z,PG (jz X scope (own++fr.map (·.1)) fp C z) tg<|o7 X.K T)
 (Y : ∀fp C z,PV (jz X scope (own++fr.map (·.1)) fp C z) elt f) (hs : ∀x,n7 iter X.env x=pure x:=by intro _;rfl) :
 PS X (.Assign [.Name y py] (.ListComp elt [⟨tg,iter,[],0⟩] scope cpos) spos) (Wn (tO X.K<|zU src T own.length (fr.map (·.2)) js f)<|yP i):=by
 obtain⟨a,b,d⟩:=h.loc c;exact lR h.G8 a b d I ok O J U Y hs
theorem FY(i:Nat)(h:SX X sc N L k)(c:yo sc N L i y=cz)
 (I:X.calm=cz) (ok:rb X scope fr) (O : ∀i∈T.idx,i<own.length) (M:rf X tg iter src) (U : ∀fp C z,PG (jz X scope (own++fr.map (·.1)) fp C z) tg<|o7 X.K T)
 (Y : ∀fp C z,mm (jz X scope (own++fr.map (·.1)) fp C z) D3 kk) (J : ∀fp C z,PV (jz X scope (own++fr.map (·.1)) fp C z) elt f) (hs : ∀x,n7 iter X.env x=pure x:=by intro _;rfl) :
 PS X (.Assign [.Name y py] (.ListComp elt [⟨tg,iter,[D3],0⟩] scope cpos) spos) (Wn (tO X.K<|zU src T own.length (fr.map (·.2)) kk f)<|yP i):=by
 obtain⟨a,b,d⟩:=h.loc c;exact aU h.G8 a b d I ok O M U Y J hs
theorem y9(i:Nat)(h:SX X sc N L k)(c:QE sc N i x=cz)(hi:PV X b g)(Z:PV X e f)
 (S : ∀v,t7 (.Subscript (.Name x np) b p) X.env v=(do
   let O <- sm [v] (ej (.Name x np) X.env);let iv <- sm [v,O] (ej b X.env)
   DU p
   sm [v,O,iv] (TZ O iv v)
   release [v,O,iv] []):=by intro _;rfl)
 (hs:O0 [.Subscript (.Name x np) b p] e pos.line X.env=pure dn:=by rfl) (hw:T6 [.Subscript (.Name x np) b p] e X.env=pure none:=by rfl)
 (z:(A4 [.Subscript (.Name x np) b p] X.env).map (·.2)=[t7 (.Subscript (.Name x np) b p) X.env]:=by rfl) :
 kr X (.Assign [.Subscript (.Name x np) b p] e pos) (Jw i g f):=
 ky (WH Z (oG (h.var c) hi Wu S) hs hw z) λD σ H P=>by obtain⟨E0,E,w,u,W,t,I,y⟩:=P;obtain⟨d,G,I⟩:=zg I;obtain⟨F,U,I⟩:=zg I;obtain⟨Q,n,I⟩:=zg I;obtain⟨C,J,n⟩:=zg n;obtain⟨j,K,I⟩:=zG I;subst I;have U:=qW U;refine⟨w,u,d,t.rc,G,λv R l x r=>?_⟩;have m:=t.step x;obtain⟨a,xs,z,h2,M,o⟩:=m.rc.own i F U;refine⟨_,z,l,u,C,m.rc,J,λv2 T A Y s=>?_⟩;rw[jD n]at s;have B:=m.step Y;refine⟨a,xs,Q,j,rfl,jq s,Y.s1 _ _ M,by rw[o.length];exact WY K,?_⟩;exact y _ _ A<|B.rewrite (xs:=xs) U z<|(o.mono Y.s0).set j (r.mono Y.s0)
theorem kc(U:PG X tg (o7 X.K T))(Y:PV X e f)(hs:O0 [tg] e pos.line X.env=pure dn:=by rfl)(C:T6 [tg] e X.env=pure none:=by rfl)
 (z:(A4 [tg] X.env).map (·.2)=[t7 tg X.env]:=by rfl):kr X (.Assign [tg] e pos) (yW T f):=
 ky (WH Y U hs C z) λD p H l=>by obtain⟨E0,E,h,m,o,O,I,i⟩:=l;obtain⟨d,j,I⟩:=zg I;obtain⟨n,k,I⟩:=zG I;subst I;refine⟨h,m,d,O.rc,j,λv g a x r=>?_⟩;exact wY x.sub r k λb _ a4=>i b g a<|a4 E0 E<|O.step x
end
structure f7(P:h6)(w:g8)(K:LX)(mg:UZ)(base:e9)(k:Nat)(x:Str)(n:Nat)(F:List D->Option Res):Prop where
 ex : ∃(f:dv) (fd:o5) (ps:List Str),ps.length=n/\o4 P w K mg base o9 k f fd ps (qs K ps.length F)/\mg x=bX (.ref f)/\Rq K (.ref f)=cz/\Binds K fd ps []
structure gm(K:LX)(mg:UZ)(x:Str)(st:i3)(ps:List Str):Prop where
 ex : ∃(f:dv) (fd:o5),L2.DI K x x st f fd/\(∀us:List dy,us.length=ps.length->bindArgs fd ⟨us,[]⟩=pure (ps.zip us))/\mg x=bX (.ref f)
noncomputable def Dq(X:Cx)(es:List eh)(n:Nat)(g:CO (List D)):Prop:=C1 X es g/\∀b a,g b=bX a->a.length=n
section
variable{X:Cx}{sc:g9}{N L:List Str}{k:Nat}{e:eh}{es:List eh}{f:CO D}{g:CO (List D)}{n:Nat}{pos p:gB}{x:Str}
theorem zo:Dq X [] 0 zI:=⟨sW,λb a h=>by cases h;rfl⟩
theorem za(z:PV X e f)(I:Dq X es n g)(hs:ft (e::es) X.env=(dn,ej e X.env)::ft es X.env:=by rfl):Dq X (e::es) (n+1) (zb f g):=
 ⟨mB z I.1 hs,λa b h=>by obtain⟨y,d,h⟩:=zg h;obtain⟨r,O,h⟩:=zG h;subst h;rw[Nm,I.2 a r O]⟩
variable{j:Nat}{F:List D->Option Res}
theorem FX(I:f7 X.prog X.w X.K X.mg X.base j x n F)(O:j<=k)(h:SX X sc N L k)(c:vD sc x=cz)(z:Dq X (e::es) n g)
 (U:ft (e::es) X.env=(dn,ej e X.env)::ft es X.env:=by rfl) (Y:(p8 pos<|starEach es X.env).any (·.1)=dn:=by rfl):PV X (.Call (.Name x p) (e::es) [] pos) (zH F g):=by
 obtain⟨l,m,o,i,G,f,d,b⟩:=I.ex;subst i;exact su (A0:=[]) G z.1 z.2 λ{t} a=>eV G (h.room.mono O) (h.gl c).1 f d b .nil BB a (h.gl c).2.2 U Y
theorem Ga(I:f7 X.prog X.w X.K X.mg X.base j x n F)(O:j<=k)(h:SX X sc N L k)(c:vD sc x=cz)(z:Dq X (e::es) n g)
 (U:ft (e::es) X.env=(dn,ej e X.env)::ft es X.env:=by rfl) (Y:(p8 pos<|starEach es X.env).any (·.1)=dn:=by rfl):PO X (.Call (.Name x p) (e::es) [] pos) (jF F g):=by
 obtain⟨l,m,o,i,G,f,d,b⟩:=I.ex;subst i;exact sL G z.1 z.2 λ{t} a=>eV G (h.room.mono O) (h.gl c).1 f d b .nil BB a (h.gl c).2.2 U Y
end
section
variable{P:h6}{w:g8}{K:LX}{mg:UZ}{base:e9}
noncomputable def nD(N ps:List Str)(st:i3):Bool:=
 decide ((jH st).kind = .function) && decide ((jH st).isCoroutine=dn) && decide ((jH st).isGenerator=dn) && decide N.Nodup && decide (N.take ps.length=ps) &&
 ps.all (λx=>decide ((jH st).names.lookup x=bX .local) || decide ((jH st).names.lookup x=bX .cell)) && (jH st).names.all (λy=> !(y.2==MP))
theorem Ww{N ps:List Str}{st:i3}(h:nD N ps st=cz):E9 N ps (jH st):=by unfold nD at h;simp only[Mt,decide_eq_true_eq,Oi,NP,OH]at h;obtain⟨⟨⟨⟨⟨⟨a,b⟩,I⟩,O⟩,U⟩,Y⟩,d⟩:=h;exact⟨a,b,I,O,U,Y,λy f e=>by have:=d y f;rw[e]at this;exact absurd this ⋯⟩
theorem oH{X:Cx}(hx:X.xe=λ_ _=>False):P6 (eg X.prog X.w) X.A X.env X.xe:=by rw[hx];exact PassesOwn.never
theorem xt{x:Str}{st:i3}{N ps:List Str}{k:Nat}{F:CO Fl}(A:gm K mg x st ps)(z:nD N ps st=cz)
 (O : ∀X:Cx,X.prog=P->X.w=w->X.K=K->X.mg=mg->X.base=base->SX X (jH st) N N k->X.xe=(λ_ _=>False)->gZ X (yE st) F) :
 f7 P w K mg base (k+1) x ps.length (jj N.length F):=by
 obtain⟨f,d,I,U,e⟩:=A.ex;have S:=Ww z;refine⟨f,d,ps,rfl,Cs I S λb A a s H E Y=>?_,e,I.kp,.all U⟩;exact O _ rfl rfl rfl rfl rfl ⟨rfl,rfl,S.nd,rfl,Y,λ_ _=> .inl rfl⟩ rfl
theorem HZ{h:e9}{x:Str}{st:i3}{ps:List Str}{f:dv}{S:dy}{Y J:Option dv}{M:Array (Option dy)}{kV C L z ct:dy}(I:K.In h)(G:h.Ns xg mg)
 (a:PySem.W.nsIn K xg x=bX (bX (.ref f))) (l:K.lookup f=bX ⟨S,Y,.func<|PM x x (JZ st) (yE st) (jH st) .none kV C L J z ct,M⟩)
 (c:RX K z x=cz) (O:Rq K (.ref f)=cz)
 (b : ∀(kV C L:dy) (J:Option dv) (z ct:dy) (us:List dy),us.length=ps.length->bindArgs (PM x x (JZ st) (yE st) (jH st) .none kV C L J z ct) ⟨us,[]⟩=pure (ps.zip us)):gm K mg x st ps:=
 ⟨f,_,Cq l c O,b kV C L J z ct,PySem.W.mg_of I G a⟩
theorem GE{x:Str}{st:i3}{f:dv}{z:o5}{N ps:List Str}{k:Nat}{F:CO Fl}(I:L2.DI K x x st f z)(C:nD N ps st=cz)
 (O : ∀X:Cx,X.prog=P->X.w=w->X.K=K->X.mg=mg->X.base=base->SX X (jH st) N N k->X.xe=(λ_ _=>False)->gZ X (yE st) F) :
 o4 P w K mg base o9 (k+1) f z ps (qs K ps.length<|jj N.length F):=by
 have S:=Ww C;exact Cs I S λb A a s H E U=>O _ rfl rfl rfl rfl rfl ⟨rfl,rfl,S.nd,rfl,U,λ_ _=> .inl rfl⟩ rfl
theorem EH{F:List D->Option Res}{H:Hp}{a:dv}{z:List Int}(I:fA K H a (z.map V.int))(O:F [.lst (z.map D.int)]=bX (.val<|.bl cz)) :
 qs K 1 F [.ref a] H (λv _=>v = .bl cz) λ_ _ _=>False:=by
 refine⟨H,[.lst (z.map D.int)],.val<|.bl cz,gh.refl _,d5.cons (Zk I ?_) d5.nil,rfl,O,λv d b _ r=>r⟩;clear O I
 induction z with
 | nil=>exact d5.nil
 | cons n z U=>exact d5.cons rfl U
end
end DL
namespace DL
open PySem PySem.Spec PyProof.Rows L2
open PySem.W (KasT kas_sort kas_ask kat_run kat_snds kat_lt kat_cons kat_no kat_kind KatTups KatGo)
noncomputable def CU(h:e9)(v:dy)(k:Int):Prop:=∃x o a m t,v = .ref x/\h.get? x=bX o/\o.cls = .type "tuple"/\o.data = .seq a m/\a[0]? = bX (.int k t)
theorem fQ : ∀{vs:List dy} {ks:Nat->Int},(∀i (z:i<vs.length),CU h vs[i] (ks i))->∃fs,KatTups h vs fs/\fs.length=vs.length/\∀f∈fs,∃k t,f=RW k t
 | [],ks,_=>⟨[],KatTups.nil,rfl,λf I=>by cases I⟩
 | v::vs,ks,H=>by
  obtain⟨fs,e,g,O⟩:=fQ (vs:=vs) (ks:=λi=>ks<|i+1) λi z=>H (i+1) (by simpa using z);obtain⟨x,o,j,m,t,a,U,Y,b,d⟩:=H 0 ⋯;have a:v = .ref x:=a;subst a;exact⟨.int (ks 0) t::fs,KatTups.cons U Y b d e,by simp[g],λf I=>by
   rcases Mj.mp I with rfl | I
   ·exact⟨_,_,rfl⟩
   ·exact O f I⟩
end DL
namespace DL
open PySem PySem.Spec PyProof.Rows L2
open AutoSeq1 (wpAny_loadPart')
theorem ZO:fillsNumberSlot (.type "tuple") "mul" = pure dn:=
 PySem.fillsNumberSlot_seq (id:="tuple.__mul__") (r:=bX (.builtin "tuple.__rmul__")) Rm.lookup ⋯ F.slot_tuple_rmul.lookup ⋯
theorem Yf:seqRepeat? (.type "tuple")=pure (bX (.builtin "tuple.__mul__")):=by unfold seqRepeat?;rw[PySem.seqSlot_of (T:="tuple") (name:="__mul__") (id:="tuple.__mul__") Rm.lookup ⋯,PySem.seqSlot_of (T:="tuple") (name:="__rmul__") (id:="tuple.__rmul__") F.slot_tuple_rmul.lookup ⋯];rfl
theorem QQ(a:Int)(t:Tok)(l:dv)(items:Array dy)(n:Nat)(I:Option dv)(z:Array (Option dy)) :
 F3 (m8.«int.__rmul__» ⟨[.int a t,.ref l],[]⟩) (λ_ R s=>s.heap.get? l=bX {cls:= .type "tuple",dict:=I,data:= .seq items n,slots:=z}/\R (.ok (.ret Value.notImplemented)) s):=
 .of_wp λb w A R s h=>by obtain⟨O,g,d,U,os⟩:=s;obtain⟨Y,h⟩:=h;wp_walk;exact⟨_,rfl,h⟩
theorem XF(a:Int)(t:Tok)(l:dv)(items:Array dy)(n:Nat)(O:Option dv)(L:Array (Option dy))(z : ¬(decide (a < -(2 ^ 63)) || decide (a>=2 ^ 63))=cz)(C : ¬(items.isEmpty || a==1)=cz)
 (U : ¬(decide (a<=0) || items.isEmpty)=cz) (Y : ¬((items.size:Int)*a>(2 ^ 63 - 1)/8)) (J : ¬Builtin.Tuple.tupleTooMany ((items.size:Int)*a)=cz) (hz:((Mb a.toNat items).foldl (· ++ ·) #[]).size<=fh) :
 F3 (m8.«tuple.__mul__» ⟨[.ref l,.int a t],[]⟩) (λ_ R s=>s.heap.get? l=bX {cls:= .type "tuple",dict:=O,data:= .seq items n,slots:=L}/\
  R (.ok (.ret (.ref s.heap.objs.size))) {s with heap:=s.heap.push {cls:= .type "tuple",data:= .seq ((Mb a.toNat items).foldl (· ++ ·) #[])}}):=
 .of_wp λb w A R s h=>by
  obtain⟨e,g,d,f,os⟩:=s;obtain⟨I,h⟩:=h
  wp_walk using Oj I
  rw[UY z];refine LV<|Sb (s:=⟨e,g,d,f,os⟩) ⟨_,I,rfl,n,rfl⟩ ?_;dsimp only;rw[UY C,UY U,UY Y,UY J];refine LV (m:=NZ _)<|NO ?_ hz;exact Mg ⟨_,rfl,h⟩
theorem QG(a:Int)(t:Tok)(l:dv)(items:Array dy)(n:Nat)(O:Option dv)(J:Array (Option dy))(z : ¬(decide (a < -(2 ^ 63)) || decide (a>=2 ^ 63))=cz)(C : ¬(items.isEmpty || a==1)=cz)
 (U:(decide (a<=0) || items.isEmpty)=cz) :
 F3 (m8.«tuple.__mul__» ⟨[.ref l,.int a t],[]⟩) (λ_ R s=>s.heap.get? l=bX {cls:= .type "tuple",dict:=O,data:= .seq items n,slots:=J}/\
  R (.ok (.ret (.ref s.heap.objs.size))) {s with heap:=s.heap.push {cls:= .type "tuple",data:= .seq #[]}}):=
 .of_wp λb w A R s h=>by
  obtain⟨Y,g,d,e,os⟩:=s;obtain⟨I,h⟩:=h
  wp_walk using Oj I
  rw[UY z];refine LV<|Sb (s:=⟨Y,g,d,e,os⟩) ⟨_,I,rfl,n,rfl⟩ ?_;dsimp only;rw[UY C,UJ U];refine LV (m:=NZ _)<|NO ?_ (Nh _);exact Mg ⟨_,rfl,h⟩
theorem QF(a:Int)(t:Tok)(l:dv)(items:Array dy)(n:Nat)(O:Option dv)(J:Array (Option dy))(z : ¬(decide (a < -(2 ^ 63)) || decide (a>=2 ^ 63))=cz)(C:(items.isEmpty || a==1)=cz) :
 F3 (m8.«tuple.__mul__» ⟨[.ref l,.int a t],[]⟩) (λ_ R s=>s.heap.get? l=bX {cls:= .type "tuple",dict:=O,data:= .seq items n,slots:=J}/\R (.ok (.ret (.ref l))) s):=
 .of_wp λb w A R s h=>by
  obtain⟨U,g,d,Y,os⟩:=s;obtain⟨I,h⟩:=h
  wp_walk using Oj I
  rw[UY z];refine LV (Sb (s:=⟨U,g,d,Y,os⟩) ⟨_,I,rfl,n,rfl⟩ ?_);dsimp only;rw[UJ C];refine LV (m:=OM _) ?_;unfold OM;refine LV (Rj (T:="tuple") ⟨_,I,rfl⟩ (Mg ?_));rw[UJ ⋯];exact LV (Rg (Mg ⟨_,rfl,h⟩))
section
variable{X:Cx}
noncomputable def AS(K:LX):R2:=λx y H Q=>∃l k a,x = .ref l/\y = .int k/\g5 K H l a/\ -(2 ^ 62)<=k/\k<2 ^ 62/\a.length*k.toNat<=fh/\(a=[]\/k=1->Q (.ref l) H)/\
 ∀p,H p=none->Q (.ref p) (upd H p<|.tup (Mb k.toNat a).flatten)
theorem sX:ij X (t8 .Mult) (AS X.K):=by
 intro E s σ H x y v u Q I rx ry h;obtain⟨l,k,J,rfl,rfl,R,h1,h2,C,Z,G⟩:=h;cases rx;obtain⟨t,rfl⟩:=ry;obtain⟨a,r,S,z1⟩:=I.tuple R;obtain⟨⟨P,b,p,d⟩,O,z,n,A⟩:=id S;simp only at z A;subst z A;have L:=r.length;have g1 : ¬(decide (k < -(2 ^ 63)) || decide (k>=2 ^ 63))=cz:=by simp;omega
 refine Y' (T:="tuple") (U:="int") ⋯ ⟨_,O,rfl⟩ (λs'=>Tr s' k t) ZO F.fills_int_mul So Yf F.slot_int_index.lookup
  (z4 So (Tr s k t) F.entry_int_rmul (F.args_int_rmul_2 _ _) (QQ k t l a.toArray n b d) ⟨O,rfl,⟨_,O,rfl⟩,?_⟩)
 have w : ∀m:Nat,SQ (λx1 j=>x1++j) #[] (Mb m a.toArray)=(Mb m a).flatten.toArray:=λm=>by have:=JW a m [];rw[PF]at this;exact this
 by_cases g2:(a.toArray.isEmpty || k==1)=cz
 ·refine z4 Rm ⟨_,O,rfl⟩ To (SY _ _) (QF k t l a.toArray n b d g1 g2) ⟨O,⟨.ref l,H,I,rfl,Z ?_⟩⟩
  rw[NP]at g2;rcases g2 with g | g
  ·left
   have:a=[]:=by simpa using g
   exact(r.N2).mp this
  ·right;simpa using g
 ·have f:=g2
  simp only[NP,not_or]at f;have M:a ≠ []:=by intro e;exact f.1 (by rw[e];rfl)
  have ax:0<a.length:=List.length_pos_iff.mpr M;by_cases Y:(decide (k<=0) || a.toArray.isEmpty)=cz
  ·have B:k.toNat=0:=by
    rw[NP]at Y;rcases Y with g | g
    ·have:=of_decide_eq_true g;omega
    ·exact absurd g f.1
   refine z4 Rm ⟨_,O,rfl⟩ To (SY _ _) (QG k t l a.toArray n b d g1 g2 Y) ⟨O,?_⟩;refine⟨.ref s.heap.objs.size,_,I.laid (t':=s.toks) (o:= .tup (Mb k.toNat J).flatten) (λc W q=>LY _ q) (Mf _) ?_,rfl,G _<|I.fy.fresh<|Mf _⟩;rw[B];exact⟨Nh _,[],.nil,u9.new _ _⟩
  ·have B : ¬k<=0:=by intro g;exact Y (by rw[NP];exact .inl<|decide_eq_true g)
   have i:a.length*k.toNat<=fh:=by rw[<- L];exact C
   have b0:((a.toArray.size:Nat):Int)*k<=(fh:Int):=by
    rw[Mi];have e:((a.length*k.toNat:Nat):Int)=(a.length:Int)*k:=by rw[OW,Rt ⋯]
    omega
   have b5:fh=16777216:=Pf;have N:(SQ (λx1 j=>x1++j) #[] (Mb k.toNat a.toArray)).size<=fh:=by rw[w,Mi,VL,Ox];exact i
   refine z4 Rm ⟨_,O,rfl⟩ To (SY _ _) (XF k t l a.toArray n b d g1 g2 Y ⋯ (by unfold Builtin.Tuple.tupleTooMany;simp only[decide_eq_true_eq];omega) N) ⟨O,?_⟩;rw[w];refine⟨.ref s.heap.objs.size,_,I.laid (t':=s.toks) (o:= .tup (Mb k.toNat J).flatten) (λc W q=>LY _ q) (Mf _) ?_,rfl,G _<|I.fy.fresh<|Mf _⟩;exact⟨by rw[VL,Ox];exact C,_,r.rep k.toNat,u9.new _ _⟩
theorem rB{K:LX}:m3 K (λx y H Q=>rI DZ (λi j=> .int (i*j)) x y H Q\/AS K x y H Q) xu:=λh H x y l m d Q s U Y I q=>by
 cases l<;>cases m<;>simp[xu]at I
 ·obtain⟨n,O⟩:=I
  subst O;exact .inl ⟨_,_,jq U,jq Y,nL n,q _ H h (Ext.refl s) rfl⟩
 ·rename_i f j
  obtain⟨⟨r,o⟩,rfl⟩:=I;obtain⟨a,w,rfl,g,b⟩:=yn U;obtain⟨t,u⟩:=JS o;refine .inr ⟨a,j,w,rfl,jq Y,m1 s g,t,u,k5 (by rw[b.length];exact r),λe=>?_,λp k=>?_⟩
  ·refine q _ H h (Ext.refl s) ?_
   rcases e with e | e
   ·have O:f=[]:=by
     have:=b.length;rw[e]at this;exact MX this.symm
    subst O;rw[show(Mb j.toNat ([]:List D)).flatten=[]by simp];exact xA g b
   ·subst e
    rw[show(Mb (1:Int).toNat f).flatten=f by simp];exact xA g b
  ·exact q _ _ _ (Ext.alloc s k _)<|xA (g5.of zN)<|(XT b _).mono (jc (jo s k) _)
theorem j6(z:PV X a fa)(I:PV X b fb):PV X (.BinOp a .Mult b pos) (zE xu fa fb):=Xf (M_.or sX) rB z I
end
end DL
namespace DL
open PySem PySem.Spec PyProof.Rows L2
theorem RC.UD{K:LX}{H0 H:Hp}{L:St}{γ:Ctx}{i:Nat}{ds:List D}{a:dv}{xs:List V}(r:RC K H0 H L γ)(e:γ[i]? = bX (.own ds))(J:L[i]? = bX (bX (.ref a)))(C:H0 a=none)(M:H a=bX (.lst xs))(S:d5 K H0 ds xs):RC K (L2.upd H0 a<|.lst xs) H L (γ.set i<|.val<|.lst ds):=by
 refine⟨λb o q=>?_,by simp[r.len],λj d g=>?_,λj l g=>?_,λj k b l fs f I t u=>?_,⟨λj h g=>?_,λj k x y f I=>?_⟩⟩
 ·by_cases z:b=a
  ·subst z;rw[zN]at q;rw[M];exact q
  ·rw[zL z]at q;exact r.sub b o q
 ·rcases zJ g with⟨rfl,z,E⟩ | ⟨U,z⟩
  ·cases z;exact⟨_,J,Zk (fA.of zN)<|S.mono<|jc C _⟩
  ·obtain⟨v,Y,g2⟩:=r.val j d z
   exact⟨v,Y,g2.mono<|jc C _⟩
 ·rcases zJ g with⟨_,z,_⟩ | ⟨U,z⟩
  ·cases z
  ·obtain⟨b,A,Y,g2,g3,w⟩:=r.own j l z
   refine⟨b,A,Y,?_,g3,w.mono<|jc C _⟩;rw[zL (λq=>U<|r.ne j i a l ds z e (by rw[Y,q]) J)];exact g2
 ·rcases zJ f with⟨_,z,_⟩ | ⟨U,O⟩
  ·cases z
  ·rcases zJ I with⟨_,z,_⟩ | ⟨B,n⟩
   ·cases z
   ·exact r.ne j k b l fs O n t u
 ·rcases zJ g with⟨_,z,_⟩ | ⟨U,z⟩
  ·cases z
  ·obtain⟨b,bs,f1,f2,p⟩:=r.m4.1 j h z
   have s:=p i ds a e J;refine⟨b,bs,f1,f2.move (jc C _) (λc m=>by rw[zL (λq=>s<|by rw[<- q];exact m)];exact(f2.at m).1)<|λc m=>rfl,λk fs c f I=>?_⟩;rcases zJ f with⟨_,z,_⟩ | ⟨_,O⟩
   ·cases z
   ·exact p k fs c O I
 ·rcases zJ f with⟨_,z,_⟩ | ⟨_,O⟩
  ·cases z
  ·rcases zJ I with⟨_,z,_⟩ | ⟨_,n⟩
   ·cases z
   ·exact r.m4.2 j k x y O n
theorem RC.lend{K:LX}{H0 H:Hp}{C:St}{γ:Ctx}{i:Nat}{ds:List D}(r:RC K H0 H C γ)(e:γ[i]? = bX (.own ds)) : ∃z,gh H0 z/\RC K z H C (γ.set i<|.val<|.lst ds):=by obtain⟨a,f,d,b,I,O⟩:=r.own i ds e;exact⟨_,jc b _,r.UD e d b I O⟩
theorem nt{K:LX}{H H':Hp}{d:D}{v:V}(h:Rep K H d v)(f:VS d=cz):Rep K H' d v:=by
 cases d with
 | tup a=>cases f
 | lst a=>cases f
 | lN c n=>cases f
 | i8 c n=>cases f
 | el=>exact h
 | bl b=>exact h
 | int b=>exact h
 | str b=>exact h
theorem nv{H0 H z I H':Hp}(s:gh H0 z)(x:Ext z H I H'):Ext H0 H H0 H':=⟨gh.refl _,x.s1,s.trans<|x.s0.trans x.sub,λ_ h _=>h⟩
end DL
namespace L2
open PySem PySem.Spec PyProof.Rows
open AutoSeq1 (wpAny_loadPart')
section
variable{prog:h6}{w:g8}{A:j1}{E:EQ}{s:d7}
theorem bI{z it l:dv}{n:Nat}{xs:Array dy}{x U:dy}{Q:EQ}(hz:s8 s.heap z it n U)(S:ix .T s.heap it l n)(hl:lr .T s.heap l xs)(hx:xs[n]? = bX x)(C:z≠it)
 (Z : ∀g,Pz g z it ((n:Int)+1) x s.heap.objs.size->ix .T g it l (n+1)->k0 g s.heap.objs.size (.int n s.toks) x->g.objs.size=s.heap.objs.size+1->
   (∀c o,c≠z->c≠it->s.heap.get? c=bX o->g.get? c=bX o)->Q (.ref s.heap.objs.size) {s with heap:=g,toks:=s.toks+1}) :
 wpAny (eg prog w) A (m8.«enumerate.__next__» ⟨[.ref z],[]⟩) (λJ s'=>∃v,J = .done (.ret v)/\Q v s') E s:=by
 refine LV (m:=field (.ref z) 2) (Ni hz rfl (x:= .ref it) rfl ?_);refine LV (m:=Mv (.ref it)) (kC S hl hx λg1 H f=>?_);have h:s8 g1 z it n U:=f.extBut _ _ C hz;refine LV (m:=field (.ref z) 3) (Ni h rfl (x:=Di n) rfl ?_);refine LV (m:=field (.ref z) 4) (Ni h rfl (x:= .none) rfl ?_);refine LV (m:=mkInt n) (wpAny_mkInt ?_);refine LV (m:=setField (.ref z) 3 (Di ((n:Int)+1))) (NF h ⋯ λg2 n9 i=>?_);replace n9:s8 g2 z it ((n:Int)+1) U:=n9;refine LV (m:=setField (.ref z) 4 .none) (NF n9 ⋯ λY j k=>?_);replace j:s8 Y z it ((n:Int)+1) U:=j;refine LV (m:=newTuple [.int n s.toks,x]) (RQ ?_);have d:s8 (Y.push {cls:= .type "tuple",data:= .seq #[.int n s.toks,x]}) z it ((n:Int)+1) U:=LY _ j;generalize a3:Y.push {cls:= .type "tuple",data:= .seq #[.int n s.toks,x]}=O at d;have W:g1.objs.size=s.heap.objs.size:=f.1;have X:g2.objs.size=g1.objs.size:=i.1;have y3:Y.objs.size=g2.objs.size:=k.1;have a:Y.objs.size=s.heap.objs.size:=by rw[y3,X,W]
 have K:z<s.heap.objs.size:=Mk hz;have L:k0 O s.heap.objs.size (.int n s.toks) x:=by show O.get? _=_;rw[<- a3,<- a];exact Ml _ rfl
 have y4:O.objs.size=s.heap.objs.size+1:=by rw[<- a3,MV,a]
 have bf : ∀c o,c≠z->c≠it->s.heap.get? c=bX o->O.get? c=bX o:=λc o I u e=>by rw[<- a3];exact LY _<|k.extBut _ _ I<|i.extBut _ _ I<|f.extBut _ _ u e
 have M:ix .T O it l (n+1):=H.at λo e=>by rw[<- a3];exact LY _<|k.extBut _ _ C.symm<|i.extBut _ _ C.symm e
 refine LV (m:=ME<|.ref z) ?_;unfold ME;refine LV<|Ni d rfl (x:= .none) rfl<|Mg ?_;simp only[if_true];refine LV<|Rg<|LV<|Ni d rfl (x:=U) rfl ?_;refine LV<|NF d ⋯ λy p F=>?_;replace p:s8 y z it ((n:Int)+1) x:=p;rw[a];refine LV (m:=Oa (.ref z)<|.ref s.heap.objs.size) ?_;unfold Oa;refine LV<|NF p ⋯ λg6 r as=>?_;replace r:Pz g6 z it ((n:Int)+1) x s.heap.objs.size:=r;refine NF r ⋯ λb t G=>?_;replace t:Pz b z it ((n:Int)+1) x s.heap.objs.size:=t;have B : ∀c o,c≠z->O.get? c=bX o->b.get? c=bX o:=λc o I e=>G.extBut _ _ I<|as.extBut _ _ I<|F.extBut _ _ I e;have y7:b.objs.size=s.heap.objs.size+1:=by have N:y.objs.size=O.objs.size:=F.1;have P:g6.objs.size=y.objs.size:=as.1;have R:b.objs.size=g6.objs.size:=G.1;rw[R,P,N,y4]
 exact LV<|Sa<|Mg ⟨_,rfl,Z b t (M.at λo e=>B _ o C.symm e) (B _ _ (Oo K) L) y7 λc o I u e=>B c o I<|bf c o I u e⟩
theorem gr{z it l:dv}{n:Nat}{xs:Array dy}{I:dy}{Q:Fin->d7->Prop}(O:A.handled=none)(hz:s8 s.heap z it n I)(C:ix .T s.heap it l n)(U:lr .T s.heap l xs)(hx:xs[n]? = none)
 (Y : ∀g e,Heap.ExtBut it s.heap g->(∃o,g.get? e=bX o/\o.cls = .type "StopIteration")->E (.ref e) {s with heap:=g}) :
 wpAny (eg prog w) A (m8.«enumerate.__next__» ⟨[.ref z],[]⟩) Q E s:=
 LV (m:=field (.ref z) 2) (Ni hz rfl (x:= .ref it) rfl<|LV (m:=Mv<|.ref it)<|wI O C U hx Y)
end
noncomputable def uc(i:dv):l6:={cls:= .type "enumerate",data:= .fields #[.none,.bool dn,.ref i,Di 0,.none,.none]}
def JY(h:e9)(l:dv):e9:=MG (MG h<|iS .T l)<|uc h.objs.size
theorem gp(l:dv)(xs:Array dy) :
 F3 (m8.«enumerate.__new__» ⟨[.type "enumerate",.ref l],[]⟩) (λ_ R s=>lr .T s.heap l xs/\R (.ok (.ret (.ref (s.heap.objs.size+1)))) {s with heap:=JY s.heap l}):=
 .of_wp λb w A R s h=>by
  obtain⟨Y,g,d,i,os⟩:=s;obtain⟨f,h⟩:=h;have j:=sub_enumerate;have I:Heap.IsTuple (Shared.heap ⟨Y,g,d,i,os⟩) l xs:=f;obtain⟨o,O,U,m,a⟩:=id I;obtain⟨e,i8,k,n⟩:=o;simp only at U a;subst U a;simp only[JY,uc,iS,MV]at h
  wp_walk using Oj O
  refine wpAny_stack_any λst=>Mg ?_;split
  ·rename_i c _ _ _ _ _
   cases (c==OA "enumerate")<;>(wp_walk using Oj O,RM I;exact⟨_,rfl,by simpa[MV,Rv]using h⟩)
  ·wp_walk using Oj O,RM I
   exact⟨_,rfl,by simpa[MV,Rv]using h⟩
noncomputable def P0(K:LX)(a:dv):It:=
 ⟨λi H=>∃b,i5 .T K H a b/\i<b.length,
  λi H x d=>∃p u,x = .ref p/\H p=none/\d=upd H p (.tup [.int i,u])/\(∀b,i5 .T K H a b->b[i]? = bX u),
  λi H=>∃b,i5 .T K H a b/\b.length<=i⟩
theorem yd(hz:s8 s.heap z it n old)(h:Q (.ref z) s):wpAny (eg prog w) A (N8 (.ref z)) Q E s:=by have I:s.TypeIs (.ref z) "enumerate":=⟨_,hz,rfl⟩;refine wpAny_pyIter_slot I F.slot_enumerate_iter (Ny F.slot_enumerate_iter I F.entry_enumerate_iter ?_ (F.args_enumerate_iter_1 _));have O:wpAny (eg prog w) A.in1 (ret (.ref z)) (λO a=>∃v,O = .done (.ret v)/\∃T m,a.TypeIs v T/\E6 (.type T) "__next__" = pure (bX m)/\Q v a) E s:=Mg ⟨_,rfl,"enumerate",_,I,Pe.lookup,h⟩;exact O
theorem cK{P:h6}{w:g8}{K:LX}{elts:List eh}{x1:Nat}{r6:gB}{z it a:dv}(ak:z≠it) :
 Turn P w K (.Tuple elts x1 r6) (P0 K a) [z,it] z (λi h=>(∃Y,s8 h z it i Y)/\ix .T h it a i) where
 mem:=by simp
 obj:=λi h ⟨⟨Y,hz⟩,h1⟩ y hy=>by
  simp only[Mj,Ms,or_false]at hy;rcases hy with rfl | rfl
  ·exact⟨_,hz,λv q=>by cases q⟩
  ·exact h1.obj
 keep:=λi h h' ⟨⟨Y,hz⟩,h1⟩ k=>⟨⟨Y,k z ⋯ _ hz⟩,h1.at λo e=>k it ⋯ o e⟩
 item:=by
  rintro X hP hw hK hc i pins s σ H E I hf ⟨⟨Y,hz⟩,h1⟩ ⟨xs,a7,ap⟩;subst hP hw hK;obtain⟨as,ab,p1,z1⟩:=I.sq a7;have hx:xs[i]? = bX xs[i]:=LZ ap;obtain⟨u1,b0,b5⟩:=ab.get hx;have hT:s.TypeIs (.ref z) "enumerate":=⟨_,hz,rfl⟩;unfold u6;refine LV (OP (Nc (name:=MT "__next__") hT Pe (Ny Pe hT F.entry_enumerate_next
   (bI hz h1 p1 (x:=u1) (by simpa using b0) ak λg a1 a2 a3 a4 a5=>Mg ⟨_,rfl,?_⟩) (F.args_enumerate_next_1 _))))
  refine Z_ a1 λg2 n9 ae=>?_;have lt : ∀{c o},s.heap.get? c=bX o->s.heap.objs.size≠c:=λe=>Oo<|Mk e;have bb:k0 g2 s.heap.objs.size (.int i s.toks) u1:=ae.extBut _ _ (lt hz) a3;have kk : ∀U u,U ∉ [z,it]->s.heap.get? U=bX u->g2.get? U=bX u:=λU u O e=>by simp only[Mj,Ms,or_false,not_or]at O;exact ae.extBut _ _ O.1<|a5 U u O.1 O.2 e
  have I1:Inv X pins σ (upd H s.heap.objs.size<|.tup [.int i,xs[i]]) {s with heap:=g2,toks:=s.toks+1}:=
   I.Ua (fp:=[z,it]) kk hf (Mf _) ⟨by show 2<=fh;decide,[.int i s.toks,u1],.cons ⟨_,rfl⟩<|.cons b5 .nil,⟨_,bb,rfl,_,rfl⟩⟩
  have bd:H s.heap.objs.size=none:=I.fresh;refine⟨.ref s.heap.objs.size,_,I1,rfl,⟨_,_,rfl,bd,rfl,λbr be=>by rw[I.T3 be a7];exact hx⟩,?_,λU O=>?_⟩
  ·exact⟨⟨_,by have:=n9;rwa [show((i:Int)+1)=((i+1:Nat):Int)by omega]at this⟩,a2.at λo e=>ae.extBut _ _ ak.symm e⟩
  ·have bf:U≠s.heap.objs.size:=by
    simp only[Mj,Ms,or_false]at O;rcases O with rfl | rfl
    ·exact(lt hz).symm
    ·obtain⟨o,e,_⟩:=h1.obj;exact(lt e).symm
   rw[zL bf];exact(hf U O).1
 done:=by
  rintro X hP hw hK hc i pins s σ H E I hf ⟨⟨Y,hz⟩,h1⟩ ⟨xs,a7,hi⟩;subst hP hw hK;obtain⟨as,ab,p1,z1⟩:=I.sq a7;have hT:s.TypeIs (.ref z) "enumerate":=⟨_,hz,rfl⟩;have l1:=ab.length;unfold u6;refine LV (OP (Nc (name:=MT "__next__") hT Pe (Ny Pe hT F.entry_enumerate_next
   (gr (show X.A.handled=none from I.ok.hd hc) hz h1 p1 (by simp;omega) λg e hk he=>?_) (F.args_enumerate_next_1 _))))
  obtain⟨o,ho,bm⟩:=he;refine LV (Sl (T:="StopIteration") (b:=cz) ⟨o,ho,bm⟩ SN (Mg ⟨rfl,?_⟩));refine I.zc (t':=s.toks) (fp:=[z,it]) (λU u O e=>?_) hf;simp only[Mj,Ms,or_false,not_or]at O;exact hk U u O.2 e
 self:=λ_ _ _ _ _ st h=>yd st.1.choose_spec h
noncomputable def Gz(K:LX)(z:TA):TI:=λf H R=>z f H λd b=>∃a,d=[.ref a]/\(∃e,i5 .T K b a e)/\R (P0 K a) b
theorem sQ{X:Cx}{J:eh}{L:TA}{p pos:gB}{z:List eh}{x1:Nat}{C:gB}(S:Gl X "enumerate")(Z:X.mg "enumerate" = none)(M:PA X [J] L)
 (hv:C3 "enumerate" = bX (.type "enumerate")) (hs:ft [J] X.env=[(dn,ej J X.env)]:=by rfl) :
 PI X (.Tuple z x1 C) (.Call (.Name "enumerate" p) [J] [] pos) (Gz X.K L):=by
 intro d s j H R I h;refine DF<|kO I S Z hv<|Na (eM (M pos d s j H _ I h) λB b t=>?_) (by rw[hs];rfl) rfl;obtain⟨E,f,O,w,u⟩:=t;obtain⟨a,e,⟨N,l⟩,q⟩:=u;subst e;obtain⟨G,r,m⟩:=yN w;subst r;cases m;obtain⟨n,y,Y,P⟩:=O.sq l;have A:=Y.lt;refine callType_new F.called_enumerate ⋯ (F.typeCall_enumerate_1 _) (F.newCall_enumerate_1 _) (λobj=>F.args_object_init_2 obj _) F.entry_enumerate_new (gp a n.toArray) ⟨Y,?_⟩;have keep : ∀c o,b.heap.get? c=bX o->(JY b.heap a).get? c=bX o:=λc o e=>LY _<|LY _ e;have x:(MG b.heap<|iS .T a).objs.size=b.heap.objs.size+1:=MV ..;have g0:ix .T (JY b.heap a) b.heap.objs.size a 0:=(JN .T b.heap a).at λo e=>LY _ e;have U:s8 (JY b.heap a) (b.heap.objs.size+1) b.heap.objs.size 0 .none:=by have q:=Ml (MG b.heap<|iS .T a) (o:=uc b.heap.objs.size) rfl;rw[x]at q;exact q
 refine⟨⟨_,U,rfl⟩,yd (s:={b with heap:=JY b.heap a}) U ?_⟩;have k:Inv X d j f {b with heap:=JY b.heap a,toks:=b.toks}:=O.kept keep;refine⟨_,[b.heap.objs.size+1,b.heap.objs.size],_,_,f,rfl,k,cK<|Oo<|NY _,⟨⟨_,U⟩,g0⟩,λc i=>?_,q⟩;have g:b.heap.objs.size<=c:=by
  simp only[Mj,Ms,or_false]at i;rcases i with rfl | rfl
  ·exact ML _ _
  ·exact Mf _
 exact O.A8 g<|O.fy.fresh g
end L2
namespace DL
open PySem PySem.Spec PyProof.Rows L2
theorem JO{K:LX}{H:Hp} : ∀{ds:List D} {xs:List V} {l:List Int},d5 K H ds xs->vL ds=bX l->xs=l.map V.int
 | [],xs,l,r,e=>by cases e;rw[show xs=[]from r];rfl
 | d::ds,xs,l,r,e=>by
  obtain⟨x,g,rfl,I,b⟩:=(show ∃x r,xs=x::r/\Rep K H d x/\d5 K H ds r from r);cases d with
  | int i=>
   obtain⟨f,a,rfl⟩:=zG (show(vL ds).map (λl=>i::l)=bX l from e);rw[JO b a,show x = .int i from I];rfl
  | _=>cases e
theorem YS : ∀l:List Int,(l.map V.int).all Kl=cz
 | []=>rfl
 | i::l=>by simp only[MI,SJ,YS l,Bool.and_true];rfl
theorem fX(i:Int) : ∀l:List Int,M9 (.int i) (l.map V.int)=decide (i∈l)
 | []=>rfl
 | j::l=>by
  have I:=fX i l;unfold M9 at I ⊢;rw[MI,RO,I];have e:C8 (.int j) (.int i)=(j==i):=rfl;rw[e];by_cases h:i=j
  ·subst h
   rw[beq_self_eq_true,Bool.true_or];exact(decide_eq_true Mn).symm
  ·rw[beq_false_of_ne (MD h),RP]
   exact decide_eq_decide.mpr ⟨λq=>Mm _ q,λq=>(Mj.mp q).resolve_left h⟩
theorem cC{K:LX}{H0 z:Hp}{a:dv}{xs:List V}{ds:List D}(h:g5 K z a xs)(r:d5 K H0 ds xs):Walk K H0 z (P0 K a) (xl ds):=by
 have o:=r.length;have t:(xl ds).length=ds.length:=by simp[xl]
 refine⟨λi b s m=>?_,λb s=>?_,λi b x g s m y=>?_⟩
 ·exact⟨xs,m1 s h,by omega⟩
 ·exact⟨xs,m1 s h,by omega⟩
 ·obtain⟨p,u,k,I,O,U⟩:=y
  obtain⟨d,l,Y⟩:=r.DR<|U xs<|m1 s h;refine⟨.tup [.int i,d],?_,λf n e=>⟨upd f p<|.tup [.int i,u],?_,?_⟩⟩
  ·have j:i<ds.length:=by omega
   unfold xl;rw[MC,Oc j,Nt,l];rfl
  ·rw[O];exact Ext.alloc e I _
  ·rw[k]
   exact xA (g5.of zN)<|d5.cons (show V.int i = .int i from rfl)<|d5.cons ((Y.mono n).mono (jc (jo e I) _)) d5.nil
section
variable{X:Cx}{sc:g9}{N L:List Str}{k:Nat}{a b c:eh}{pos p:gB}{f fa fb fc:CO D}
theorem eJ(h:SX X sc N L k)(c:vD sc "enumerate" = cz)(z:X.mg "enumerate" = none)(C:PV X a f)(hs:ft [a] X.env=[(dn,ej a X.env)]:=by rfl) :
 h7 X (.Tuple elts x1 r6) (.Call (.Name "enumerate" p) [a] [] pos) (iY f):=
 X0 (sQ (h.gl c).1 z (jr C qu hs) boot_enumerate hs) λo H R U=>by
  obtain⟨g,l,m,rc,I,q⟩:=U;obtain⟨d,Y,I⟩:=zg I;cases d with
  | tup n=>
   cases I;refine⟨g,l,_,rc,Y,λv e b x r=>?_⟩;obtain⟨i,j,rfl,O,g2⟩:=yn r;exact⟨i,rfl,⟨j,m1 x.sub O⟩,q _ e b x<|cC O g2⟩
  | _=>cases I
theorem lB(ho:ij X (nf op) r)(C:ij X (nf Ic) r')(s1:m3 X.K r F)(s2:m3 X.K r' G)(S:PV X a fa)(Z:PV X b fb)(hc:PV X c fc)
 (hm:Tz [op,Ic] [b,c]=dn:=by with_unfolding_all rfl):PV X (.Compare a [op,Ic] [b,c] pos) (ZC F G fa fb fc):=
 qr (mn ho C S Z hc hm) λσ H Q M=>by
  obtain⟨j,e,d,rc,I,q⟩:=M;obtain⟨x,w,I⟩:=zg I;obtain⟨y,A,I⟩:=zg I;obtain⟨k,B,I⟩:=zg I;obtain⟨Y,E,g⟩:=zg B;refine⟨j,e,x,rc,w,λW H1 p x1 N=>⟨p,e,y,rc.ext x1,A,λi l s O h=>s1 s l W i x y Y _ O.sub (N.mono O.s0) h E λv3 m f x3 P=>?_⟩⟩;cases Y with
  | bl k'=>
   cases g;refine⟨k,show v3 = .bl k from P,?_⟩;cases k with
   | true=>
    rw[UJ rfl];rw[UJ rfl]at I;obtain⟨z,J,L⟩:=zg I;exact⟨f,e,z,((rc.ext x1).ext O).ext x3,J,λv4 n t U R=>s2 t n i v4 y z d _ U.sub ((h.mono x3.s0).mono U.s0) R L λv5 o u x5 T=>q v5 o u (((x1.trans O).trans x3).trans (U.trans x5)) T⟩
   | false=>
    rw[UY ⋯];rw[UY ⋯]at I;cases I;exact q _ m f ((x1.trans O).trans x3) rfl
  | _=>cases g
end
theorem wg : ∀{l:List Int} {us:List dy},eF (l.map V.int) us->∀i,i<us.toArray.size->∃z u,us.toArray[i]? = bX (.int z u)/\l[i]? = bX z
 | [],us,r,i,hi=>by cases r;exact absurd hi<|MK _
 | z::l,u::us,.cons r t,i,hi=>by
  cases i with
  | zero=>
   obtain⟨I,rfl⟩:=r;exact⟨z,I,by simp,by simp⟩
  | succ i=>
   obtain⟨O,U,a,Y⟩:=wg t i (by simpa using hi);exact⟨O,U,by simpa using a,by simpa using Y⟩
theorem wW(h:wX o=bX rows):o=bX (.nest rows):=by
 cases o with
 | none=>cases h
 | some c=>cases c<;>first | cases h;rfl | cases h
noncomputable def tN(K:LX)(f:CO (List<|List D)):TE:=λj H Q=>∃h i d,RC K h H j i/\f i=bX d/\
 ∀a bs g e,Ext h H e g->(∀b∈a::bs,H b=none)->vr K e g d a bs->Q (.ref a) g
noncomputable def t5(K:LX)(H0 H:Hp)(z:List (List D))(bs:List dv):Prop:=bs.length=z.length/\∀(k:Nat) b row,bs[k]? = bX b->z[k]? = bX row->H0 b=none/\∃a,H b=bX (.lst a)/\d5 K H0 row a
theorem t5.at{K:LX}{H0 H:Hp}{z:List (List D)}{bs:List dv}(n:t5 K H0 H z bs){b:dv}(U:b∈bs):H0 b=none/\∃xs,H b=bX (.lst xs):=by obtain⟨k,I⟩:=Sn U;have O:=(Mo.mp I).1;rw[n.1]at O;obtain⟨a,xs,d,_⟩:=n.2 k b _ I<|LZ O;exact⟨a,xs,d⟩
theorem t5.ext{K:LX}{H0 H C H':Hp}{z:List (List D)}{bs:List dv}(n:t5 K H0 H z bs)(e:Ext H0 H C H'):t5 K C H' z bs:=
 ⟨n.1,λk b row a d=>by obtain⟨I,f,g2,O⟩:=n.2 k b row a d;exact⟨e.new b I (by rw[g2];simp),f,e.s1 _ _ g2,O.mono e.s0⟩⟩
theorem t5.add{K:LX}{H0 H:Hp}{C:List (List D)}{bs:List dv}{b:dv}{row:List D}{xs:List V}(n:t5 K H0 H C bs)(J:H0 b=none)(L:H b=bX (.lst xs))(U:d5 K H0 row xs):t5 K H0 H (C++[row]) (bs++[b]):=
 ⟨by simp[n.1],λk c r a I=>by
  rcases Mz k bs.length with z | z
  ·rw[Nk z]at a
   rw[Nk (by rw[<- n.1];exact z)]at I;exact n.2 k c r a I
  ·rw[MY z]at a
   rw[MY (by rw[<- n.1];exact z)]at I;have O:k - bs.length=0:=by have:=(Mo.mp a).1;simp at this;omega
   rw[O]at a;rw[<- n.1,O]at I;cases a;cases I;exact⟨J,xs,L,U⟩⟩
theorem t5.hide{K:LX}{H0 H:Hp}{z:List (List D)}{bs:List dv}{I:dv}{o:HO}(n:t5 K H0 H z bs)(h:I∉bs):t5 K H0 (upd H I o) z bs:=
 ⟨n.1,λk b row a d=>by obtain⟨O,e,g2,U⟩:=n.2 k b row a d;exact⟨O,e,by rw[zL (λq=>h<|by rw[<- q];exact Nq a)];exact g2,U⟩⟩
section
variable{K:LX}{own:List Str}{fr:List (Str×Nat)}{src:CO (List D)}{T:Tg}{f:CO (List D)}
theorem bO(hT : ∀i∈T.idx,i<own.length){tt:TT}(bx : ∀C H Q,tT K js C H Q->tt C H Q) : ∀C H Q,tN K (Wx src T own.length (fr.map (·.2)) f) C H Q->cQ (T7 K src) own fr (o7 K T) tt (tO K f) C H Q:=λC H Q hZ=>by
 obtain⟨H0,u,n,rc,s,q⟩:=hZ;obtain⟨a,e1,s⟩:=zg s;by_cases hl:a.length<=lim
 ·rw[UJ hl]at s
  refine⟨H0,u,a,rc,e1,λJ A ae x1 wk D P=>?_⟩;have am : ∀(i:Nat) E,(je own.length (fr.map (·.2)) u)[i]? ≠ bX (.own E):=λi E h=>by rcases qI h with z | ⟨d',j,z,_⟩<;>cases z
  have an : ∀(i:Nat) E,(je own.length (fr.map (·.2)) u)[i]? ≠ bX (.nest E):=λi E h=>by rcases qI h with z | ⟨d',j,z,_⟩<;>cases z
  have b6:ae D=none:=jo x1.sub P;have b7 : ∀c,A c=none->H c=none:=λc R=>by
   cases z:H c with
   | none=>rfl
   | some o=>rw[x1.s1 c o z]at R;cases R
  refine⟨λi m Z G l=>m=a.length - i/\i<=a.length/\Z.length<=i/\l D=bX (.lst Z)/\∃g bs W r2,Z=bs.map V.ref/\RC K g l G (je own.length (fr.map (·.2)) u)/\g D=none/\Ext ae A g l/\t5 K g l W bs/\(D::bs).Nodup/\(∀b∈bs,A b=none)/\wc T f (je own.length (fr.map (·.2)) u) (a.drop i)=bX r2/\n=W++r2,
   ⟨_,rfl,Nh _,Mf _,zN,ae,[],[],n,rfl,((rc.ext x1).pull).upd b6 am an,b6,Ext.hide x1.sub P _,⟨rfl,λk b row h=>by simp at h⟩,by simp,λb U=>by simp at U,s,rfl⟩,?_⟩
  rintro i m Z G l ⟨rfl,hi,hy,M,g,bs,W,r2,c1,ap,b8,t,N,nd,b9,I,rfl⟩;subst c1;refine⟨M,?_⟩;by_cases B:i<a.length
  ·refine .inr ⟨wk.go i l t.s1 B,?_,λx as y=>?_⟩
   ·have:=k5<|Mf lim;omega
   obtain⟨d,hd,hx⟩:=wk.B4 i l x as t.s1 B y;obtain⟨G0,O,rg⟩:=hx g t.s0 ap.sub;have c2:a.drop i=d::a.drop (i+1):=by
    have c3:d=a[i]:=by rw[LZ B]at hd;exact(Nd hd).symm
    rw[c3];exact Od B
   rw[c2]at I;simp only[wc]at I;obtain⟨p,eb,I⟩:=zg I;obtain⟨e,ee,I⟩:=zg I;obtain⟨yb,er,I⟩:=zG I;have c6:G0 D=none:=O.new D b8 (by rw[M];simp);have bb:as D=bX (.lst<|bs.map V.ref):=O.s1 _ _ M;obtain⟨bl,bg⟩:=Y2 eb;have c7 : ∀{L:St} {G2 H2:Hp},RC K G2 H2 L p->RC K G2 H2 L (je own.length (fr.map (·.2)) u):=λr=>r.weak bl.symm (λj d' hj=>by
    by_cases S:j∈T.idx
    ·rcases qI hj with z | ⟨d2,j2,_,hn,_⟩
     ·cases z
     ·exact absurd (hT j S) ⋯
    ·rw[bg j S];exact hj) am an
   refine wY O.sub rg eb λO9 be _=>bx O9 as _ ⟨G0,p,cz,be<|ap.ext O,rfl,λH3 bf x3=>?_⟩;have bi:=(be<|ap.ext O).ext x3;have xa:=t.trans<|O.trans x3;have ca:bf D=none:=x3.new D c6 (by rw[bb];simp);have ax:H3 D=bX (.lst<|bs.map V.ref):=x3.s1 _ _ bb;dsimp only;rw[UJ rfl];refine⟨bf,p,e,bi,ee,λY ct H4 bn F g1 g2 g3 g4=>?_⟩;have b0:bn D=none:=F.new D ca (by rw[ax];simp);have ch:H4 D=bX (.lst<|bs.map V.ref):=F.s1 _ _ ax;have X:=xa.trans F;have ci:=((N.ext O).ext x3).ext F;have cj:=(N.ext O).ext x3;have br:D∉bs:=(NI.mp nd).1;have bt:D≠Y:=λz=>by rw[<- z,ax]at g1;cases g1
   have cl:Y∉bs:=λS=>by obtain⟨_,cu,z⟩:=cj.at S;rw[g1]at z;cases z
   have cm:A Y=none:=by
    cases z:A Y with
    | none=>rfl
    | some o=>rw[xa.s1 _ _ z]at g1;cases g1
   refine⟨ch,a.length - (i+1),by omega,rfl,B,by rw[MW,Oe];omega,zN,bn,bs++[Y],W++[e],yb,by simp,(c7<|bi.ext F).upd b0 am an,b0,?_,?_,?_,?_,er,?_⟩
   ·exact⟨X.s0,λc o z=>by rw[zL (λw=>by rw[w,P]at z;cases z)];exact X.s1 c o z,λc o z=>by rw[zL (λw=>by rw[w,b0]at z;cases z)];exact X.sub c o z,X.new⟩
   ·exact(ci.add g2 g3 g4).hide (by simp[br,bt])
   ·refine NI.mpr ⟨by simp[br,bt],List.nodup_append.mpr ⟨(NI.mp nd).2,by simp,λc R c' cp=>?_⟩⟩
    have:c'=Y:=by simpa using cp
    subst this;exact λz=>cl (by rw[<- z];exact R)
   ·intro b U
    rcases OU.mp U with z | z
    ·exact b9 b z
    ·have:b=Y:=by simpa using z
     subst this;exact cm
   ·rw[<- I];simp
  ·have e:i=a.length:=by omega
   subst e;rw[Rf]at I;cases I;rw[OG]at q;refine .inl ⟨wk.stop l t.s1,q D bs l g (x1.trans t) (λb U=>?_) ⟨b8,M,nd,N.1,N.2⟩⟩;rcases Mj.mp U with rfl | U
   ·exact b7 _ P
   ·exact b7 b<|b9 b U
 ·rw[UY hl]at s;cases s
end
section
variable{K:LX}{E0 E H0 H:Hp}{σ:St}{γ:Ctx}
theorem Ji(h:γ.any Xq=dn)(i:Nat)(z:List (List D)):γ[i]? ≠ bX (.nest z):=λe=>by have a:Cell.nest z∈γ:=Nq e;have:=SU.mp h _ a;exact this rfl
theorem RS.R_(r:RS K E0 E G0 G σ γ)(e:Ext G0 G H0 H)(J : ∀b∈a::bs,G b=none)(n:vr K H0 H rows a bs)(C:γ.any Xq=dn) :
 RS K E0 E H0 H (σ.set i<|some (.ref a)) (γ.set i<|.nest rows):=by
 have rc:=r.rc.ext e;have x : ∀b∈a::bs,E b=none:=λb m=>by
  cases q:E b with
  | none=>rfl
  | some o=>have:=J b m;rw[r.ext.s1 b o q]at this;cases this
 refine⟨⟨rc.sub,by simp[rc.len],λj A g=>?_,λj d g=>?_,λj k b d fs l f u w=>?_,⟨λj h g=>?_,λj k L M I g2=>?_⟩⟩,r.ext.trans e,λj d b I g2=>?_,λj h b Q I g2 O=>?_⟩
 ·rcases zJ g with⟨_,z,_⟩ | ⟨U,z⟩
  ·cases z
  ·obtain⟨N,I,g2⟩:=rc.val j A z
   exact⟨N,by rw[Md (MD U)];exact I,g2⟩
 ·rcases zJ g with⟨_,z,_⟩ | ⟨U,z⟩
  ·cases z
  ·obtain⟨b,y,I,g2⟩:=rc.own j d z
   exact⟨b,y,by rw[Md (MD U)];exact I,g2⟩
 ·rcases zJ l with⟨_,z,_⟩ | ⟨U,Y⟩
  ·cases z
  ·rcases zJ f with⟨_,z,_⟩ | ⟨p,t⟩
   ·cases z
   ·rw[Md (MD U)]at u
    rw[Md (MD p)]at w;exact rc.ne j k b d fs Y t u w
 ·rcases zJ g with⟨rfl,z,s⟩ | ⟨U,z⟩
  ·cases z
   refine⟨a,bs,Mx (by rw[rc.len];exact s),n,λk d c l f=>?_⟩;rcases zJ l with⟨_,z,_⟩ | ⟨p,Y⟩
   ·cases z
   ·rw[Md (MD p)]at f
    obtain⟨P,y,I,g2,O,_⟩:=r.rc.own k d Y;rw[f]at I;cases I;intro F;rw[J c F]at O;cases O
  ·exact absurd z<|Ji C j h
 ·rcases zJ I with⟨rfl,_,_⟩ | ⟨_,Y⟩
  ·rcases zJ g2 with⟨rfl,_,_⟩ | ⟨_,t⟩
   ·rfl
   ·exact absurd t<|Ji C k M
  ·exact absurd Y<|Ji C j L
 ·rcases zJ I with⟨_,z,_⟩ | ⟨U,z⟩
  ·cases z
  ·rw[Md (MD U)]at g2;exact r.fresh j d b z g2
 ·rcases zJ I with⟨rfl,z,s⟩ | ⟨U,z⟩
  ·rw[Mx (by rw[rc.len];exact s)]at g2;cases g2
   rw[n.ha]at O;injection O with O;injection O with O;subst O;refine⟨x a Mn,λb m=>?_⟩;obtain⟨c,B,q⟩:=MM.mp m;cases q;exact x b<|Mm _ B
  ·exact absurd z<|Ji C j h
theorem RS.forget(r:RS K E0 E H0 H σ γ):RS K E0 E H0 H (σ.set i v) (γ.set i .no):=by
 have Y : ∀{j:Nat} {e:List D} {b:dv},(γ.set i .no)[j]? = bX (.own e)->γ[j]? = bX (.own e)/\(σ.set i v)[j]? = σ[j]? :=λ{j e b} g=>by
  rcases zJ g with⟨_,z,_⟩ | ⟨f,z⟩
  ·cases z
  ·exact⟨z,Md<|MD f⟩
 have l : ∀{j:Nat} {d:List (List D)},(γ.set i .no)[j]? = bX (.nest d)->γ[j]? = bX (.nest d)/\(σ.set i v)[j]? = σ[j]? :=λ{j d} g=>by
  rcases zJ g with⟨_,z,_⟩ | ⟨f,z⟩
  ·cases z
  ·exact⟨z,Md<|MD f⟩
 refine⟨⟨r.rc.sub,by simp[r.rc.len],λj t g=>?_,λj e g=>?_,λj k b e fs m h p s=>?_,⟨λj d g=>?_,λj k y A U g2=>r.rc.m4.2 j k y A (l U).1 (l g2).1⟩⟩,r.ext,λj e b U g2=>?_,λj d b C U g2 g3=>?_⟩
 ·rcases zJ g with⟨_,z,_⟩ | ⟨f,z⟩
  ·cases z
  ·obtain⟨B,U,g2⟩:=r.rc.val j t z
   exact⟨B,by rw[Md (MD f)];exact U,g2⟩
 ·obtain⟨I,O⟩:=Y (b:=0) g
  rw[O];exact r.rc.own j e I
 ·obtain⟨I,O⟩:=Y (b:=0) m
  obtain⟨n,o⟩:=Y (b:=0) h;rw[O]at p;rw[o]at s;exact r.rc.ne j k b e fs I n p s
 ·obtain⟨I,O⟩:=l g
  obtain⟨a,bs,u,w,x⟩:=r.rc.m4.1 j d I;refine⟨a,bs,by rw[O];exact u,w,λk e c m h=>?_⟩;obtain⟨n,o⟩:=Y (b:=0) m;rw[o]at h;exact x k e c n h
 ·obtain⟨I,O⟩:=Y (b:=0) U
  rw[O]at g2;exact r.fresh j e b I g2
 ·obtain⟨I,O⟩:=l U
  rw[O]at g2;exact r.u4 j d b C I g2 g3
theorem Yw : ∀{l:List dv} {m t:Nat} {b:dv},l.Nodup->l[m]? = bX b->l[t]? = bX b->m=t
 | [],m,t,b,_,h,_=>by simp at h
 | c::l,m,t,b,nd,h1,h2=>by
  obtain⟨a,d⟩:=NI.mp nd;cases m with
  | zero=>
   cases t with
   | zero=>rfl
   | succ t=>
    have e1:c=b:=by simpa using h1
    have I:l[t]? = bX b:=by simpa using h2
    exact absurd (Nq I)<|e1 ▸ a
  | succ m=>
   cases t with
   | zero=>
    have e1:c=b:=by simpa using h2
    have I:l[m]? = bX b:=by simpa using h1
    exact absurd (Nq I)<|e1 ▸ a
   | succ t=>exact congrArg (· + 1) (Yw (b:=b) d (by simpa using h1)<|by simpa using h2)
theorem RC.row{j i t:Nat}{R:List (List D)}{a b:dv}{bs:List dv}{row:List D}(r:RC K H0 H σ γ)(L:γ[j]? = bX (.nest R))(hs:σ[j]? = bX (bX (.ref a)))(M:vr K H0 H R a bs)
 (a2 : ∀(k:Nat) ds c,γ[k]? = bX (.own ds)->σ[k]? = bX (bX (.ref c))->c∉a::bs) (J:bs[t]? = bX b) (S:R[t]? = bX row) (C:i<γ.length) :
 RC K H0 H (σ.set i<|some (.ref b)) ((γ.set j .no).set i (.own row)):=by
 obtain⟨s,x,b1,b2⟩:=M.row t b row J S;have n:b∈a::bs:=Mm _<|Nq J;have Y : ∀{k:Nat} {c:Cell},c ≠ .no->(γ.set j .no)[k]? = bX c->γ[k]? = bX c/\k≠j:=λ{k c} w g=>by
  rcases zJ g with⟨_,z,_⟩ | ⟨O,z⟩
  ·exact absurd z w
  ·exact⟨z,O⟩
 refine⟨r.sub,by simp[r.len],λk d g=>?_,λk ds g=>?_,λk m c ds p u o e f=>?_,n6.E1 λk h g=>?_⟩
 ·rcases zJ g with⟨_,z,_⟩ | ⟨O,z⟩
  ·cases z
  ·obtain⟨I,_⟩:=Y ⋯ z
   rw[Md (MD O)];exact r.val k d I
 ·rcases zJ g with⟨rfl,z,y⟩ | ⟨O,z⟩
  ·cases z
   exact⟨b,x,Mx (by rw[r.len];exact C),s,b1,b2⟩
  ·obtain⟨I,_⟩:=Y ⋯ z
   rw[Md (MD O)];exact r.own k ds I
 ·rcases zJ u with⟨rfl,_,_⟩ | ⟨O,I⟩
  ·rcases zJ o with⟨rfl,_,_⟩ | ⟨l,U⟩
   ·rfl
   ·obtain⟨U,_⟩:=Y ⋯ U
    rw[Mx (by rw[r.len];exact C)]at e;rw[Md (MD l)]at f;cases e;exact absurd n<|a2 m p b U f
  ·obtain⟨I,_⟩:=Y ⋯ I
   rcases zJ o with⟨rfl,_,_⟩ | ⟨l,U⟩
   ·rw[Mx (by rw[r.len];exact C)]at f
    rw[Md (MD O)]at e;cases f;exact absurd n<|a2 k ds b I e
   ·obtain⟨U,_⟩:=Y ⋯ U
    rw[Md (MD O)]at e;rw[Md (MD l)]at f;exact r.ne k m c ds p I U e f
 ·rcases zJ g with⟨_,z,_⟩ | ⟨O,z⟩
  ·cases z
  ·obtain⟨I,U⟩:=Y ⋯ z
   exact U<|r.m4.2 k j h R I L
theorem RS.J_(r:RS K E0 E H0 H σ γ)(O:γ[j]? = bX (.nest R))(hs:σ[j]? = bX (bX (.ref a)))(C:vr K H0 H R a bs)
 (L : ∀(k:Nat) ds c,γ[k]? = bX (.own ds)->σ[k]? = bX (bX (.ref c))->c∉a::bs) (J:bs[t]? = bX b) (Z:d5 K H0 row' ys) :
 RS K E0 E H0 (upd H b<|.lst ys) σ (γ.set j<|.nest<|R.set t row'):=by
 have A:j<γ.length:=(Mo.mp O).1;have i:b∈bs:=Nq J;have x:b≠a:=λq=>(NI.mp C.nd).1 (by rw[<- q];exact i);obtain⟨s,_⟩:=C.at<|Mm a i;obtain⟨P,y⟩:=r.u4 j R a _ O hs C.ha;have Q:E b=none:=y b<|MM.mpr ⟨b,i,rfl⟩;have U : ∀{k:Nat} {c:Cell},(∀e,c ≠ .nest e)->(γ.set j<|.nest<|R.set t row')[k]? = bX c->γ[k]? = bX c:=λ{k c} Y g=>by
  rcases zJ g with⟨_,z,_⟩ | ⟨l,z⟩
  ·exact absurd z<|Y _
  ·exact z
 refine⟨⟨λc o q=>?_,by simp[r.rc.len],λk d g=>r.rc.val k d<|U ⋯ g,λk ds g=>?_,λk m c ds S F G M N=>r.rc.ne k m c ds S (U ⋯ F) (U ⋯ G) M N,⟨λk e g=>?_,λk m X r2 I g2=>?_⟩⟩,⟨r.ext.s0,λc o q=>?_,λc o q=>?_,r.ext.new⟩,λk ds c I g2=>r.fresh k ds c (U ⋯ I) g2,λk e c p I g2 g3=>?_⟩
 ·rw[zL (λz=>by rw[z,s]at q;cases q)];exact r.rc.sub c o q
 ·have z:=U ⋯ g
  obtain⟨c,p,f,h,u,T⟩:=r.rc.own k ds z;refine⟨c,p,f,h,?_,T⟩;rw[zL (λq=>L k ds c z f<|by rw[q];exact Mm _ i)];exact u
 ·have l:k=j:=by
   rcases zJ g with⟨z,_,_⟩ | ⟨_,z⟩
   ·exact z
   ·exact r.rc.m4.2 k j e R z O
  subst l;rw[Mx A]at g;cases g;refine⟨a,bs,hs,⟨C.a0,by rw[zL (MD x)];exact C.ha,C.nd,by simp[C.len],λm c row Y n=>?_⟩,λm ds c I g2=>L m ds c (U ⋯ I) g2⟩;by_cases w:m=t
  ·subst w
   rw[J]at Y;cases Y;have:m<R.length:=by rw[<- C.len];exact(Mo.mp J).1
   rw[Mx this]at n;cases n;exact⟨s,ys,zN,Z⟩
  ·rw[Md (MD w)]at n
   obtain⟨f,p,h,u⟩:=C.row m c row Y n;have B:c≠b:=λq=>by subst q;have W:=(NI.mp C.nd).2;exact w<|Yw W Y J
   exact⟨f,p,by rw[zL B];exact h,u⟩
 ·have f:k=j:=by
   rcases zJ I with⟨z,_,_⟩ | ⟨_,z⟩
   ·exact z
   ·exact r.rc.m4.2 k j X R z O
  have h:m=j:=by
   rcases zJ g2 with⟨z,_,_⟩ | ⟨_,z⟩
   ·exact z
   ·exact r.rc.m4.2 m j r2 R z O
  rw[f,h]
 ·rw[zL (λz=>by rw[z,Q]at q;cases q)];exact r.ext.s1 c o q
 ·rw[zL (λz=>by rw[z,s]at q;cases q)];exact r.ext.sub c o q
 ·have l:k=j:=by
   rcases zJ I with⟨z,_,_⟩ | ⟨_,z⟩
   ·exact z
   ·exact r.rc.m4.2 k j e R z O
  subst l;rw[hs]at g2;cases g2;rw[zL (MD x),C.ha]at g3;injection g3 with g3;injection g3 with g3;subst g3;exact⟨P,y⟩
end
section
variable{K:LX}{E0 E H0 H:Hp}{σ:St}{γ:Ctx}
theorem RS.freeze(r:RS K E0 E H0 H σ γ)(e:γ[i]? = bX (.own ds)) : ∃C,RS K E0 E C H σ (γ.set i<|.val<|.lst ds):=by
 obtain⟨a,o,f,g,Y,l⟩:=r.rc.own i ds e;have h:=r.fresh i ds a e f;obtain⟨C,n,U⟩ : ∃C,C=upd H0 a (.lst o)/\RC K C H σ (γ.set i<|.val<|.lst ds):=by refine⟨_,rfl,?_⟩;exact RC.UD r.rc e f g Y l
 subst n;refine⟨_,U,⟨r.ext.s0.trans<|jc g _,r.ext.s1,U.sub,λc m I=>?_⟩,λj k b O g2=>?_,λj d b p O g2 g3=>?_⟩
 ·rw[zL (λz=>by rw[z,h]at I;exact I rfl)];exact r.ext.new c m I
 ·rcases zJ O with⟨_,z,_⟩ | ⟨_,z⟩
  ·cases z
  ·exact r.fresh j k b z g2
 ·rcases zJ O with⟨_,z,_⟩ | ⟨_,z⟩
  ·cases z
  ·exact r.u4 j d b p z g2 g3
open Classical in
def VO(H0 H:Hp)(L:List dv):Hp:=λc=>if c∈L then H c else H0 c
theorem Kh(h:c∈L):VO H0 H L c=H c:=by unfold VO;rw[UJ h]
theorem wN(h:c∉L):VO H0 H L c=H0 c:=by unfold VO;rw[UY h]
theorem Yd : ∀{z:List (List D)} {bs:List dv},bs.length=z.length->(∀(k:Nat) b row,bs[k]? = bX b->z[k]? = bX row->∃xs,G b=bX (.lst xs)/\d5 K G row xs)->d5 K G (z.map D.lst) (bs.map V.ref)
 | [],[],_,_=>d5.nil
 | [],_::_,h,_=>by simp at h
 | _::_,[],h,_=>by simp at h
 | row::z,b::bs,h,f=>by obtain⟨xs,I,g2⟩:=f 0 b row rfl rfl;exact d5.cons (Zk (fA.of I) g2) (Yd (by simpa using h) λk c r a O=>f (k+1) c r (by simpa using a)<|by simpa using O)
theorem RS.E'(r:RS K E0 E H0 H σ γ)(e:γ[i]? = bX (.nest rows)) : ∃C,RS K E0 E C H σ (γ.set i<|.val<|.lst<|rows.map D.lst):=by
 obtain⟨a,bs,s,l,w⟩:=r.rc.m4.1 i rows e;obtain⟨F,G⟩:=r.u4 i rows a _ e s l.ha;have ef : ∀b∈a::bs,E b=none:=λb hb=>by
  rcases Mj.mp hb with rfl | hb
  ·exact F
  ·exact G b<|MM.mpr ⟨b,hb,rfl⟩
 have m:gh H0 (VO H0 H (a::bs)):=λc o q=>by rw[wN (λh=>by rw[(l.at h).1]at q;cases q)];exact q
 have sub:gh (VO H0 H (a::bs)) H:=λc o q=>by
  by_cases h:c∈a::bs
  ·rw[Kh h]at q;exact q
  ·rw[wN h]at q;exact r.rc.sub c o q
 have M:Rep K (VO H0 H (a::bs)) (.lst<|rows.map D.lst) (.ref a):=Zk (fA.of<|by rw[Kh Mn];exact l.ha) (Yd l.len λk b row I g2=>by obtain⟨_,N,p,Y⟩:=l.row k b row I g2;exact⟨N,by rw[Kh (Mm _<|Nq I)];exact p,Y.mono m⟩)
 have t : ∀{j:Nat} {O:List (List D)},(γ.set i<|.val<|.lst<|rows.map D.lst)[j]? ≠ bX (.nest O):=λ{j O} g=>by
  rcases zJ g with⟨_,z,_⟩ | ⟨n,z⟩
  ·cases z
  ·exact n<|r.rc.m4.2 j i O rows z e
 have U : ∀{j:Nat} {f:List D},(γ.set i<|.val<|.lst<|rows.map D.lst)[j]? = bX (.own f)->γ[j]? = bX (.own f):=λ{j f} g=>by
  rcases zJ g with⟨_,z,_⟩ | ⟨n,z⟩
  ·cases z
  ·exact z
 refine⟨_,⟨sub,by simp[r.rc.len],λj d g=>?_,λj f g=>?_,λj k c f J x y A B=>r.rc.ne j k c f J (U x) (U y) A B,n6.E1 λj O=>t⟩,⟨r.ext.s0.trans m,r.ext.s1,sub,λc p Y=>?_⟩,λj f b I g2=>r.fresh j f b (U I) g2,λj O b u I=>absurd I t⟩
 ·rcases zJ g with⟨rfl,z,P⟩ | ⟨n,z⟩
  ·cases z;exact⟨_,s,M⟩
  ·obtain⟨v,I,g2⟩:=r.rc.val j d z
   exact⟨v,I,g2.mono m⟩
 ·obtain⟨b,u,I,g2,g3,L⟩:=r.rc.own j f (U g)
  exact⟨b,u,I,by rw[wN (w j f b (U g) I)];exact g2,g3,L.mono m⟩
 ·rw[wN (λh=>Y<|ef c h)];exact r.ext.new c p Y
end
section
variable{X:Cx}{st:i3}{F:CO Fl}
theorem va(i:Nat)(h:kr X st F):kr X st (KG i F):=ky h λD k H O=>by obtain⟨E0,E,f,j,U,Y,I,b⟩:=O;obtain⟨g,e,I⟩:=zg I;obtain⟨a,d⟩:=Y.freeze<|qW e;exact⟨E0,E,a,_,U,d,I,b⟩
theorem lO(i:Nat)(h:kr X st F):kr X st (iX i F):=ky h λD k H O=>by obtain⟨E0,E,g,j,U,Y,I,d⟩:=O;obtain⟨b,f,I⟩:=zg I;obtain⟨a,e⟩:=Y.E'<|wW f;exact⟨E0,E,a,_,U,e,I,d⟩
end
section
variable{X:Cx}{sc:g9}{N L:List Str}{k:Nat}
theorem lM(i:Nat)(h:SX X sc N L k)(c:yo sc N L i y=cz)
 (M:X.calm=cz) (ok:rb X scope fr) (J : ∀i∈T.idx,i<own.length) (hi:rf X tg iter src) (Z : ∀fp C z,PG (jz X scope (own++fr.map (·.1)) fp C z) tg<|o7 X.K T)
 (S : ∀fp C z,PO (jz X scope (own++fr.map (·.1)) fp C z) elt f) (hs : ∀x,n7 iter X.env x=pure x:=by intro _;rfl) :
 kr X (.Assign [.Name y py] (.ListComp elt [⟨tg,iter,[],0⟩] scope cpos) spos) (iQ i<|Wx src T own.length (fr.map (·.2)) f):=by
 obtain⟨p,r,s⟩:=h.loc c;refine ky (Zn (te:=tO X.K f) h.G8 p r s M ok hi Z (λ_ _ _=>XZ) S hs) λD l H O=>?_;obtain⟨E0,E,e,j,w,Y,I,m⟩:=O;obtain⟨d,o,I⟩:=zg I;by_cases U:j.any Xq=dn
 ·rw[UJ U]at I;cases I
  exact bO J (λl H Q O=>by obtain⟨e,j,b,rc,I,q⟩:=O;cases I;exact q H e<|Ext.refl rc.sub) l H _ ⟨e,j,d,Y.rc,o,λa bs u g x t n=>m _ _ g<|Y.R_ x t n U⟩
 ·rw[UY U]at I;cases I
theorem dB(I:i≠j)(c:Cell)(r:List D):((((γ.set j c).set i .no).set j .no).set i (.own r))=yY γ j i r:=by
 unfold yY;apply NK;intro m;simp only[Ob,List.length_set];by_cases a:i=m
 ·subst a;simp
 ·by_cases b:j=m
  ·subst b;simp[a]
  ·simp[a,b]
theorem VB{γ:Ctx}{j i:Nat}(I:i≠j)(c O:Cell):(((γ.set j c).set i .no).set j O)=(γ.set j O).set i .no:=by rw[List.set_comm _ _ (MD I),List.set_set,List.set_comm _ _ I]
theorem aR(j i:Nat){x y:Str}{bf C bg:gB}{Y e:eh}{g f:CO D}{p pos c6:gB}(hp:P6 (eg X.prog X.w) X.A X.env X.xe)(hc:X.calm=cz)(h:SX X sc N L k)(cj:QE sc N j x=cz)(ci:QE sc N i y=cz)
 (hg:PG X (.Name y bf) (yP i)) (hi:PV X Y g) (he:PV X e f)
 (ha : ∀v,t7 (.Subscript (.Name y C) Y p) X.env v=(do
   let ov <- sm [v] (ej (.Name y C) X.env);let iv <- sm [v,ov] (ej Y X.env)
   DU p
   sm [v,ov,iv] (TZ ov iv v)
   release [v,ov,iv] []):=by intro _;rfl)
 (hs:O0 [.Subscript (.Name y C) Y p] e pos.line X.env=pure dn:=by rfl) (hw:T6 [.Subscript (.Name y C) Y p] e X.env=pure none:=by rfl)
 (h1:(A4 [.Subscript (.Name y C) Y p] X.env).map (·.2)=[t7 (.Subscript (.Name y C) Y p) X.env]:=by rfl)
 (hf : ∀z,n7 (.Name x bg) X.env z=pure z:=by intro _;rfl) :
 kr X (.For (.Name y bf) (.Name x bg) [.Assign [.Subscript (.Name y C) Y p] e pos] [] c6) (dw j i g f):=
 ky (oE hp hc (eO<|h.var cj) hg (dZ<|WH he (oG (h.var ci) hi Wu ha) hs hw h1) hf) λD B H hZ=>by
  obtain⟨E0,E,H0,o,fl,rs,u,bi⟩:=hZ;obtain⟨l,e1,u⟩:=zg u;have e1:=wW e1;by_cases ap:i=j\/o.length<=i
  ·rw[UJ ap]at u;cases u
  rw[UY ap]at u;have F:i≠j:=λz=>ap<|.inl z;have R:i<o.length:=by
   rcases Mz i o.length with z | z
   ·exact z
   ·exact absurd (.inr z) ap
  have bl:j<o.length:=(Mo.mp e1).1;obtain⟨b5,e2,u⟩:=zG u;subst u;obtain⟨a,bs,g1,hn,dt⟩:=rs.rc.m4.1 j l e1;refine⟨_,g1,a,.L,rfl,⟨_,fA.of hn.ha⟩,?_⟩;refine⟨λt m M H'=>m=l.length - t/\t<=l.length/\∃(r:Hp) (I yb:List (List DL.D)) (U:L2.St),I.length=t/\U[j]? = bX (bX (V.ref a))/\(∃v,M=U.set i v)/\H' a=bX (.lst<|bs.map V.ref)/\RS X.K E0 E r H' M ((o.set j<|.nest<|I++l.drop t).set i .no)/\kP j i g f o (l.drop t)=bX yb/\b5=I++yb,
   ⟨_,rfl,Nh _,H0,[],b5,B,rfl,g1,⟨B[i]?.getD none,?_⟩,hn.ha,?_,e2,rfl⟩,?_⟩
  ·apply NK
   intro m;rw[Ob];by_cases z:i=m
   ·subst z
    have:i<B.length:=by rw[rs.rc.len];exact R
    simp[this]
   ·simp[z]
  ·have:=rs.forget (i:=i) (v:=B[i]?.getD none)
   have es:B.set i (B[i]?.getD none)=B:=by
    apply NK;intro m;rw[Ob];by_cases z:i=m
    ·subst z
     have:i<B.length:=by rw[rs.rc.len];exact R
     simp[this]
    ·simp[z]
   rw[es]at this;have ec:o.set j (.nest l)=o:=by
    apply NK;intro m;rw[Ob];by_cases z:j=m
    ·subst z;rw[UJ rfl,UJ bl,e1]
    ·simp[z]
   simpa[ec]using this
  rintro t m M H' ⟨rfl,ht,r,I,yb,U,bn,S,⟨v0,rfl⟩,T,W,O,er⟩;have as:((o.set j<|.nest<|I++l.drop t).set i .no)[j]? = bX (.nest<|I++l.drop t):=by rw[Md F,Mx bl]
  obtain⟨a',s,q1,b6,cp⟩:=W.rc.m4.1 j _ as;rw[Md F,S]at q1;cases q1;have cq:s=bs:=by have:=b6.ha;rw[T]at this;injection this with this;injection this with this;exact(yx this).symm
  subst cq;have cr:s.length=l.length:=by rw[b6.len];simp;omega
  by_cases bv:t<l.length
  ·have Q:s[t]? = bX (s[t]'⋯):=LZ ⋯
   generalize s[t]'⋯=b at Q;have b7:l.drop t=l[t]::l.drop (t+1):=Od bv;refine .inr ⟨⟨_,.ref b,fA.of T,by rw[MC,Q];rfl⟩,λP H2=>t+1<=l.length/\∃(r:Hp) (I yb:List (List DL.D)) (U:L2.St),I.length=t+1/\U[j]? = bX (bX (V.ref a))/\(∃v,P=U.set i v)/\H2 a=bX (.lst<|s.map V.ref)/\RS X.K E0 E r H2 P ((o.set j<|.nest<|I++l.drop (t+1)).set i .no)/\kP j i g f o (l.drop<|t+1)=bX yb/\b5=I++yb,λP H2 n=>⟨l.length - (t+1),by omega,rfl,n.1,n.2⟩,λxv H2 yl=>?_⟩;obtain⟨rfl,yl⟩:=yl;have ct:xv = .ref b:=by have:=yl _<|fA.of T;rw[MC,Q]at this;exact(Nd this).symm
   subst ct;rw[b7]at O;simp only[kP]at O;obtain⟨d,f1,O⟩:=zg O;obtain⟨kk,f2,O⟩:=zg O;obtain⟨dk,f3,f2⟩:=zg f2;obtain⟨J,f4,O⟩:=zg O;obtain⟨d0,f5,O⟩:=zG O;have d2:(I++l.drop t)[t]? = bX l[t]:=by rw[b7,MY ⋯,bn];simp
   have G:(U.set i v0).set i (bX (.ref b))=U.set i (bX (.ref b)):=List.set_set ..;have ax:=W.rc.row (i:=i) as (by rw[Md F];exact S) b6 cp Q d2 (by simp;exact R);rw[dB F,G]at ax;show ∃_,_;refine⟨r,yY o j i l[t],d,?_,f1,λv H3 d3 x3 r3=>?_⟩
   ·rw[G];exact ax
   have c0:=ax.ext x3;obtain⟨Z,xs,p1,p2,p3,p4⟩:=c0.own i l[t] (by unfold yY;rw[Mx (by simpa using R)]);have d6:Z=b:=by
    rw[Mx (by
     have:=ax.len;simp[yY]at this;rw[this];exact R)]at p1
    cases p1;rfl
   subst d6;refine⟨_,by rw[G];exact p1,d3,yY o j i l[t],dk,by rw[G];exact c0,f3,λv2 H4 d8 x4 r4=>?_⟩;rw[jD f2]at r4;refine⟨Z,xs,kk,J,rfl,jq r4,x4.s1 _ _ p3,by rw[p4.length];exact WY f4,?_⟩;have d9:=(W.step x3).step x4;have bd:=d9.forget (i:=i) (v:=bX (.ref Z));have db:(((o.set j<|.nest<|I++l.drop t).set i .no).set i .no)=((o.set j<|.nest<|I++l.drop t).set i .no):=List.set_set ..;rw[db,G]at bd;obtain⟨a2,r9,w1,be,dd⟩:=bd.rc.m4.1 j _ as;rw[Md F,S]at w1;cases w1;have c4:H4 a=bX (.lst<|s.map V.ref):=x4.s1 _ _<|x3.s1 _ _ T;have di:r9=s:=by have:=be.ha;rw[c4]at this;injection this with this;injection this with this;exact(yx this).symm
   subst di;have c5:=bd.J_ (t:=t) (row':=l[t].set J d) (ys:=xs.set J v) as (by rw[Md F];exact S) be dd Q<|(p4.mono x4.s0).set J (r3.mono x4.s0);have dj:a≠Z:=λq=>(NI.mp be.nd).1 (by rw[q];exact Nq Q);refine⟨bv,d8,I++[l[t].set J d],d0,U,by simp[bn],S,⟨bX (.ref Z),G⟩,by rw[zL dj];exact c4,?_,f5,by rw[er,<- O];simp⟩;rw[G];have eR:(I++l.drop t).set t (l[t].set J d)=(I++[l[t].set J d])++l.drop (t+1):=by rw[b7,List.set_append_right _ _ ⋯,show t - I.length=0 by omega,SS];rfl
   rw[eR,VB F]at c5;exact c5
  ·have et:t=l.length:=by omega
   subst et;rw[Rf]at O;cases O;rw[Rf]at W;refine .inl ⟨⟨_,fA.of T,by simp[cr]⟩,?_⟩;rw[er]at bi;exact bi _ _ r W
end
end DL
namespace L2
open PySem PySem.Spec PyProof.Rows
noncomputable def FU(K:LX):V->List V->Hp->VK->Prop:=λx d H Q=>∃I p b,x = .str I/\d=[.ref p]/\fA K H p (b.map V.str)/\Builtin.Str.tooLong (b.toArray.foldl (λa p=>a+p.length+I.length) 0)=dn/\Q (.str<|Tp I b) H
theorem KM : ∀{C:List Str} {us:List dy},eF (C.map V.str) us->∃l:List (Str×Tok),strValues l=us/\l.map (·.1)=C
 | [],us,r=>by cases r;exact⟨[],rfl,rfl⟩
 | z::C,u::us,.cons r t=>by obtain⟨I,rfl⟩:=r;obtain⟨l,rfl,h⟩:=KM t;exact⟨(z,I)::l,rfl,by simp[h]⟩
theorem tx{X:Cx}:Uj X "str.join" (FU X.K):=by intro a s y H x n v m Q I Y i h;obtain⟨O,p,w,rfl,rfl,d,U,q⟩:=h;obtain⟨t,rfl⟩:=Y;obtain⟨u,rfl,rw⟩:=yN i;cases rw;obtain⟨f,r,g,j⟩:=I.list d;obtain⟨l,rfl,e⟩:=KM r;subst e;refine z4 F.slot_str_join (U6 _ _ _) F.entry_str_join (F.args_str_join_2 _ _) (meets_str_join_list O t p l U) ⟨g.isList,post_join l ⟨joinFit_length U,λt' k=>?_⟩⟩;refine⟨.str (Tp O (l.map (·.1))),H,(I.kept (h':=s.heap) (t':=k) λb o e=>e),⟨t',?_⟩,q⟩;show Sz (Builtin.Str.glued O (l.map (·.1))) t'=_;rw[StrLaws.glued_eq_join]
end L2
namespace DL
open PySem PySem.Spec PyProof.Rows L2
theorem K0{K:LX}{H:Hp} : ∀{ds:List D} {xs:List V} {l:List Str},d5 K H ds xs->K3 ds=bX l->xs=l.map V.str
 | [],xs,l,r,e=>by cases e;rw[show xs=[]from r];rfl
 | d::ds,xs,l,r,e=>by
  obtain⟨x,g,rfl,I,b⟩:=(show ∃x r,xs=x::r/\Rep K H d x/\d5 K H ds r from r);cases d with
  | str i=>
   obtain⟨f,a,rfl⟩:=zG (show(K3 ds).map (λl=>i::l)=bX l from e);rw[K0 b a,show x = .str i from I];rfl
  | _=>cases e
section
variable{X:Cx}{sc:g9}{N L:List Str}{k:Nat}{o e a b:eh}{apos cpos pos p:gB}{f g:CO D}{q:CO (Sk×List D)}
theorem XN(h:jO x=cz):x.length<=1000:=of_decide_eq_true h
theorem Xc(h:jO x=cz):x.length<=fh:=Np (XN h) ⋯
theorem dR(Y:PV X o f)(M:PQ X e q)(z:M1 o "join" X.env (ej o X.env)=ej o X.env:=by rfl)
 (C:((p8 cpos<|starEach [e] X.env).all (λx=> !x.1) && (M3 cpos<|keywordEach [] X.env).all (λx=>x.1.isSome) && decide ([e].length+([]:List C0).length+(if ([]:List C0).isEmpty then 0 else 1)<30))=cz:=by rfl)
 (J:(apos.endLine==cpos.line)=cz:=by rfl) (hs:ft [e] X.env=[(dn,ej e X.env)]:=by rfl):PV X (.Call (.Attribute o "join" apos) [e] [] cpos) (rL f q):=
 qr (mq PySem.F.plainAttrs_str PySem.F.slot_str_join PySem.F.type_str_join tx Y (jr M qu hs) z C J hs rfl) λσ H Q A=>by
  obtain⟨h,g,d,rc,I,K⟩:=A;obtain⟨k,n,I⟩:=zg I;obtain⟨⟨G,m⟩,p,I⟩:=zg I;cases k with
  | str U=>
   cases G with
   | L=>
    obtain⟨l,s,I⟩:=zg I;by_cases O:l.length<=lim/\l.all jO=cz/\jO U=cz
    ·rw[UJ O]at I;cases I
     refine⟨h,g,_,rc,n,λv R b x r=>?_⟩;rw[show v = .str U from r];refine⟨rfl,b,g,.L,m,rc.ext x,p,λa Z i j P u S N=>?_⟩;have t:=K0 N s;subst t;refine⟨U,a,l,rfl,rfl,u,StrLaws.joinFits (B:=1000) (λy E=>XN<|Oi.mp O.2.1 y E) ?_,K _ i j (x.trans P) rfl⟩;have W:=O.1;have:lim=2500:=rfl;have w:=XN O.2.2;have:l.length*U.length<=2500*1000:=Nat.mul_le_mul ⋯ w;omega
    ·rw[UY O]at I;cases I
   | T=>cases I
  | _=>cases I
theorem wy(C:PV X a f)(Y:PV X b g)(hs:V8 b:=by intro _ _;rfl):PV X (.Subscript a b pos) (k8 f g):=
 qr (Bx Cg C Y hs) λG H Q A=>by
  obtain⟨m,l,d,rc,I,q⟩:=A;obtain⟨p,t,I⟩:=zg I;obtain⟨i,O,I⟩:=zg I;obtain⟨s,u,O⟩:=zg O;cases p with
  | str z=>
   by_cases U:jO z=cz
   ·have I:(if jO z=cz then (f6 z.cps.toList.length i).bind λk=>z.cps.toList[k]?.map λc=>D.str ⟨#[c]⟩else none)=bX d:=I
    rw[UJ U]at I;obtain⟨j,w,I⟩:=zg I;obtain⟨c,y,rfl⟩:=zG I;refine⟨m,l,_,rc,t,λv E e x r=>⟨e,l,s,rc.ext x,u,λF n o B h=>?_⟩⟩;rw[jD O]at h;refine⟨z,i,c,r,jq h,Xc U,?_,q _ n o (x.trans B) rfl⟩;unfold Ds;rw[WY w];exact y
   ·have I:(if jO z=cz then (f6 z.cps.toList.length i).bind λk=>z.cps.toList[k]?.map λc=>D.str ⟨#[c]⟩else none)=bX d:=I
    rw[UY U]at I;cases I
  | _=>cases I
theorem y8(h:SX X sc N L k)(c:vD sc "len" = cz)(z:X.mg "len" = none)(C:PV X e f)(hs:ft [e] X.env=[(dn,ej e X.env)]:=by rfl):PV X (.Call (.Name "len" p) [e] [] pos) (x9 f):=
 qr (kM YY (h.gl c).1 z PySem.boot_len (jr C qu hs) ⋯ ⋯ hs rfl) λl H Q U=>by
  obtain⟨g,j,d,rc,I,q⟩:=U;obtain⟨Y,i,I⟩:=zg I;cases Y with
  | str z=>
   by_cases O:jO z=cz
   ·have I:(if jO z=cz then bX (D.int z.length)else none)=bX d:=I
    rw[UJ O]at I;cases I;refine⟨g,j,_,rc,i,λv b a x r=>⟨z,by rw[show v = .str z from r],Xc O,q _ b a x rfl⟩⟩
   ·have I:(if jO z=cz then bX (D.int z.length)else none)=bX d:=I
    rw[UY O]at I;cases I
  | _=>cases I
end
section
variable{X:Cx}{sc:g9}{N L:List Str}{k:Nat}{b:eh}{f:CO D}
theorem dQ(h:SX X sc N L k)(c:vD sc "min" = cz)(z:X.mg "min" = none)(C:PV X a f)(Y:PV X b g)(hs:ft [a,b] X.env=[(dn,ej a X.env),(dn,ej b X.env)]:=by rfl)(O:ft [b] X.env=[(dn,ej b X.env)]:=by rfl) :
 PV X (.Call (.Name "min" p) [a,b] [] pos) (dr f g):=
 qr (kM (gK h.calm) (h.gl c).1 z PyProof.Rows.boot_min (jr C (jr Y qu O)<|by rw[hs,O]) ⋯ ⋯ (by rw[hs,O]) (by rw[O];rfl)) λJ H Q B=>by obtain⟨o,n,d,rc,I,q⟩:=B;obtain⟨i,l,I⟩:=zg I;obtain⟨u,y,l⟩:=zg l;obtain⟨j,U,I⟩:=zG I;obtain⟨w,A,U⟩:=zg U;subst I;refine⟨o,n,u,rc,y,λv F e x r=>⟨e,n,w,rc.ext x,A,λG s t E m=>⟨i,j,?_,q _ s t (x.trans E) rfl⟩⟩⟩;rw[jD l]at r;rw[jD U]at m;rw[jq r,jq m]
end
section ap
variable(γ:Ctx)
@[simp] def Kx:=@zF.eq_1
@[simp] def vo:=@jU.eq_1
@[simp] def kF:=@jS.eq_1
@[simp] def vm:=@ze.eq_1
@[simp] def xV:=@zm.eq_1
@[simp] theorem av(d):zy d γ=bX d:=rfl
@[simp] def yi:=@zE.eq_1
@[simp] def Hx:=@sB.eq_1
@[simp] def Hw:=@rR.eq_1
@[simp] def Im:=@uK.eq_1
@[simp] def GZ:=@k9.eq_1
@[simp] def IC:=@rS.eq_1
@[simp] def Lw:=@Q_.eq_1
@[simp] def Io:=@Eg.eq_1
@[simp] def ph:=@aN.eq_1
@[simp] theorem au:zI γ=bX []:=rfl
@[simp] def qg:=@zb.eq_1
@[simp] def Y9:=@qF.eq_1
@[simp] def Hf:=@j4.eq_1
@[simp] def Ha:=@xM.eq_1
@[simp] def J5:=@qp.eq_1
@[simp] def gW:=@vX.eq_1
@[simp] def GY:=@vK.eq_1
@[simp] def Iz:=@LK.eq_1
@[simp] def Hr:=@rP.eq_1
@[simp] def uD:=@l9.eq_1
@[simp] def vn:=@jy.eq_1
@[simp] def gU:=@qw.eq_1
@[simp] def Hn:=@rO.eq_1
@[simp] def xO:=@jI.eq_1
@[simp] def V5:=@zH.eq_1
@[simp] def Ky:=@jF.eq_1
@[simp] def Jh:=@zV.eq_1
@[simp] def w6:=@zS.eq_1
@[simp] def J6:=@ku.eq_1
@[simp] def Ii:=@KF.eq_1
@[simp] def ZH:=@k3.eq_1
@[simp] def qb:=@zU.eq_1
@[simp] theorem Ij:js γ=bX cz:=rfl
@[simp] def uE:=@QI.eq_1
@[simp] def uA:=@iR.eq_1
@[simp] def yh:=@cE.eq_1
@[simp] def Kw:=@Jw.eq_1
@[simp] theorem Ip:cg γ=bX none:=rfl
@[simp] def Ly:=@rr.eq_1
@[simp] def Ik:=@cf.eq_1
@[simp] def Iq:=@yO.eq_1
@[simp] def Lx:=@Dk.eq_1
@[simp] def Ir:=@LH.eq_1
@[simp] def bU:=@jv.eq_1
@[simp] def CJ:=@XR.eq_1
@[simp] def Va:=@iP.eq_1
@[simp] def ID:=@FJ.eq_1
@[simp] def IB:=@uL.eq_1
@[simp] def Hj:=@QH.eq_1
@[simp] def He:=@iV.eq_1
@[simp] def GV:=@rJ.eq_1
theorem jC(F G):zQ F G γ=(F γ).bind λI=>match I with
 | .next a=>G a
 | f=>bX f:=rfl
end ap
@[simp] theorem CG(ds):jx (.tup ds)=bX (.T,ds):=rfl
@[simp] theorem Ib(ds):jx (.lst ds)=bX (.L,ds):=rfl
@[simp] theorem xD(d):gI (bX (.val d))=bX d:=rfl
@[simp] theorem qT(d):we (bX (.val d))=jx d:=rfl
@[simp] theorem uj(d):we (bX (.own d))=bX (.L,d):=rfl
@[simp] theorem uo(d):jZ (bX (.own d))=bX d:=rfl
@[simp] theorem uk(d):V1 (bX (.val d))=bX (.ret<|.val d):=rfl
@[simp] theorem um(d):V1 (bX (.own d))=bX (.ret<|.own d):=rfl
@[simp] theorem Ih(b):wb (.bl b)=bX b:=rfl
@[simp] theorem k6(b):i0 (.int b)=bX b:=rfl
@[simp] theorem Ep(d):AM (.val d)=d:=rfl
@[simp] theorem Er(d):AM (.own d) = .lst d:=rfl
@[simp] theorem Eo(d):uN (.own d)=bX d:=rfl
@[simp] theorem af(i j):yR (.int i) (.int j)=bX (.int<|i - j):=rfl
@[simp] theorem Jb(i j):jJ (.int i) (.int j)=bX (.int<|i+j):=rfl
@[simp] theorem nF(i j):q8 (.int i) (.int j)=if 0<j then bX (.int<|i%j)else none:=by show(if EK i j=cz then _ else _)=_;simp[EK]
@[simp] theorem EJ(i j):v9 (.int i) (.int j)=if 0<j/\j<1073741824 then bX (.int<|i/j)else none:=by
 show(if CB i j=cz then _ else _)=_;have e:(CB i j=cz)=(0<j/\j<1073741824):=by unfold CB;rw[Mt,decide_eq_true_eq,decide_eq_true_eq];apply propext;constructor<;>intro h<;>exact⟨h.1,by omega⟩
 simp only[e]
@[simp] theorem wR(i j):xu (.int i) (.int j)=if vT i j=cz then bX (.int<|i*j)else none:=rfl
@[simp] theorem EI(i j):uf (.int i) (.int j)=if CA i j=cz then bX (.int<|i ^ j.toNat)else none:=rfl
@[simp] theorem GJ(i j):D5 (.int i) (.int j)=bX (.bl<|decide<|i<j):=rfl
@[simp] theorem GK(i j):wh (.int i) (.int j)=bX (.bl<|decide<|i<=j):=rfl
@[simp] theorem GL(i j):Dt (.int i) (.int j)=bX (.bl<|decide<|j<i):=rfl
@[simp] theorem GM(i j):D4 (.int i) (.int j)=bX (.bl<|decide<|j<=i):=rfl
@[simp] theorem GN(i j):hG (.int i) (.int j)=bX (.bl<|decide<|i=j):=by unfold hG;rw[UJ ⟨rfl,rfl⟩];exact congrArg (λb=>bX (D.bl b)) (by rw[RZ];simp[lU])
@[simp] theorem GI(i j):nr (.int i) (.int j)=bX (.bl<|!decide (i=j)):=by unfold nr;rw[UJ ⟨rfl,rfl⟩];exact congrArg (λb=>bX (D.bl !b)) (by rw[RZ];simp[lU])
@[simp] theorem Aw(i is d ds γ):q9 (i::is) (d::ds) γ=q9 is ds (γ.set i<|.val d):=rfl
@[simp] theorem Av(ds γ):q9 [] ds γ=γ:=by cases ds<;>rfl
@[simp] theorem aq(i d γ):qZ (.nm i) d γ=bX (γ.set i<|.val d):=rfl
@[simp] theorem CD(i j a b γ):qZ (.tp [i,j]) (.tup [a,b]) γ=bX ((γ.set i<|.val a).set j (.val b)):=rfl
@[simp] theorem iO(γ:Ctx)(G:CO Fl):(bX (Fl.next γ)).bind (λI=>match I with
 | .next γ'=>G γ'
 | f=>bX f)=G γ:=rfl
theorem vS(i j:Int)(z : -(2 ^ 64)<j)(C:j<2 ^ 64):vT i j=cz:=by unfold vT;rw[NP];right;exact decide_eq_true ⋯
theorem kE(i j:Int)(z : -(2 ^ 64)<i)(C:i<2 ^ 64):vT i j=cz:=by unfold vT;rw[NP];left;exact decide_eq_true ⋯
theorem yM(z : -(2 ^ 62)<i)(C:i<2 ^ 62):inR i=cz:=by unfold inR;exact decide_eq_true ⋯
@[simp] theorem j9(n k:Nat):f6 n (k:Int)=if k<n then bX k else none:=by
 unfold f6;by_cases h:k<n
 ·rw[UJ ⟨Int.natCast_nonneg k,by omega⟩,UJ h];simp
 ·rw[UY ⋯,UY ⋯,UY h]
theorem jm:lim=2500:=rfl
@[simp] theorem EF:0<=lim:=Nh _
@[simp] theorem EE:1<=lim:=by decide
@[simp] theorem ED:2<=lim:=by decide
@[simp] theorem EC:3<=lim:=by decide
@[simp] theorem EB:4<=lim:=by decide
@[simp] theorem EA:5<=lim:=by decide
@[simp] theorem Ez:6<=lim:=by decide
@[simp] theorem Ey:7<=lim:=by decide
@[simp] theorem Ex:8<=lim:=by decide
@[simp] theorem Ew:0<lim:=by decide
@[simp] theorem Ki(h:n<=lim):inR (n:Int)=cz:=yM ⋯ (by have:=jm;omega)
@[simp] theorem _h(n:Nat):f6 (n+1) 0=bX 0:=j9 (n+1) 0 ▸ rfl
@[simp] theorem _i(n:Nat):f6 (n+2) 1=bX 1:=by have:=j9 (n+2) 1;simpa using this
@[simp] theorem G_(n:Nat):f6 (n+3) 2=bX 2:=by have:=j9 (n+3) 2;simpa using this
theorem zB(r:α->D) : ∀(l:List α),(∀x∈l,zW T k f γ [g x]=bX [r x])->zW T k f γ (l.map g)=bX (l.map r)
 | [],_=>rfl
 | x::l,h=>by
  have a:=h x Mn;have i:=zB r l λy I=>h y<|Mm _ I;simp only[MI,zW]at a ⊢;cases e1:qZ T (g x) γ with
  | none=>rw[e1]at a;simp at a
  | some d=>
   rw[e1]at a;simp only[Me]at a ⊢;cases e2:k d with
   | none=>rw[e2]at a;simp at a
   | some b=>
    rw[e2]at a;simp only[Me]at a ⊢;cases b with
    | false=>simp at a
    | true=>
     simp only[UJ]at a ⊢;cases e3:f d with
     | none=>rw[e3]at a;simp at a
     | some e=>
      rw[e3]at a;simp at a;rw[i];simp[a]
theorem zD(z:qZ T d γ=bX γ1)(C:k γ1=bX cz)(I:f γ1=bX e):zW T k f γ [d]=bX [e]:=by simp[zW,z,C,I]
theorem qD(T F d ds γ):kD T F (d::ds) γ=(qZ T d γ).bind λγ1=>(F γ1).bind λO=>match O with
 | .next I=>kD T F ds I
 | .cont I=>kD T F ds I
 | .brk I=>bX (.next I)
 | .ret r=>bX (.ret r):=rfl
theorem VR{T:Tg}{F:CO Fl}{n:Nat}{g:Nat->D}(c:Nat->Ctx)(h : ∀i,i<n->(qZ T (g i)<|c i).bind F=bX (.next<|c<|i+1)):kD T F ((LW n).map g) (c 0)=bX (.next<|c n):=by
 have f : ∀m a,a+m=n->kD T F ((NH a m).map g) (c a)=bX (.next<|c n):=by
  intro m
  induction m with
  | zero=>intro a d;simp at d;subst d;rfl
  | succ m I=>
   intro a d;rw[Pn,MI,qD];have b:=h a ⋯;cases e:qZ T (g a) (c a)with
   | none=>rw[e]at b;cases b
   | some j=>
    rw[e]at b;simp only[Me]at b ⊢;rw[b];exact I (a+1) ⋯
 rw[OB];exact f n 0 ⋯
theorem wQ(P:Nat->Ctx->Prop) : ∀(ds:List D) (k:Nat) (γ:Ctx),P k γ->(∀i d γ,ds[i]? = bX d->P (k+i) γ->∃γ',((qZ T d γ).bind F=bX (.next γ')\/(qZ T d γ).bind F=bX (.cont γ'))/\P (k+i+1) γ')->
 ∃γ',kD T F ds γ=bX (.next γ')/\P (k+ds.length) γ'
 | [],k,γ,h,_=>⟨γ,rfl,h⟩
 | d::ds,k,γ,h,step=>by
  obtain⟨a,e,f⟩:=step 0 d γ rfl h;obtain⟨γ',I,g⟩:=wQ P ds (k+1) a (by simpa using f) (λi b O j U=>by have:=step (i+1) b O (by simpa using j) (by rw[show k+(i+1)=k+1+i by omega];exact U);rw[show k+(i+1)+1=k+1+i+1 by omega]at this;exact this)
  refine⟨γ',?_,by rw[show k+(d::ds).length=k+1+ds.length by simp;omega];exact g⟩;rw[qD];cases eb:qZ T d γ with
  | none=>rw[eb]at e;simp at e
  | some Y=>
   rw[eb]at e;simp only[Me]at e ⊢;rcases e with e | e<;>rw[e]<;>exact I
def zA(n:Nat)(f:Nat->Int):List D:=(LW n).map λi=>D.int<|f i
theorem jd(n f):zA n f=(LW n).map λi=>D.int (f i):=rfl
def jg(h w:Nat)(f:UV):List D:=(LW h).map λi=>D.tup<|zA w<|f i
def kQ(h w:Nat)(f:UV):D:= .tup [.int h,.int w,.tup (jg h w f)]
@[simp] theorem Ko(n f):(zA n f).length=n:=by simp[zA]
@[simp] theorem nz(h w f):(jg h w f).length=h:=by simp[jg]
@[simp] theorem GF(f)(h:i<(zA n f).length):(zA n f)[i] = .int (f i):=by simp[zA]
theorem ZY(f)(h:i<n):(zA n f)[i]? = bX (.int<|f i):=by simp[zA,h]
@[simp] theorem GG(f)(z:i<(jg h w f).length):(jg h w f)[i] = .tup (zA w<|f i):=by simp[jg]
theorem yD(h : ∀i,i<n->f i=g i):zA n f=zA n g:=by unfold zA;apply My;intro i a;rw[h i (Ma.mp a)]
theorem W9(e : ∀i j,i<h->j<w->f i j=g i j):jg h w f=jg h w g:=by unfold jg;apply My;intro i a;rw[yD λj I=>e i j (Ma.mp a) I]
theorem jL(n:Nat):xf 0 n=zA n λi=>(i:Int):=by simp[xf,zA]
theorem ZR(n:Nat)(f g:Nat->Int):vI (zA n f) (zA n g)=(LW n).map λi=>D.tup [.int (f i),.int (g i)]:=by unfold vI zA;rw[OZ];simp
theorem ik(n w:Nat)(f g:UV):vI (jg n w f) (jg n w g)=(LW n).map λi=>D.tup [.tup (zA w<|f i),.tup (zA w<|g i)]:=by unfold vI jg;rw[OZ];simp
def zh(f:Nat->Int):Nat->Int
 | 0=>0
 | n+1=>zh f n+f n
theorem Jo : ∀(xs:List Int) (y:Int),Wq (xs.map D.int++[.int y])=(Wq<|xs.map D.int).map λs=>s+y
 | [],y=>by simp[Wq]
 | x::xs,y=>by simp only[MI,Tc,Wq];rw[Jo xs y];cases e:Wq (xs.map D.int)<;>simp[Int.add_assoc]
theorem yV(f:Nat->Int) : ∀n,Wq (zA n f)=bX (zh f n)
 | 0=>rfl
 | n+1=>by
  have I:=yV f n;have e : ∀m,zA m f=((LW m).map f).map D.int:=λm=>by simp[zA]
  rw[e]at I ⊢;rw[Nx,Nb,Nb,List.map_singleton,List.map_singleton,Jo,I];simp[zh]
def xW:=jj 2<|qp<|jv<|jS<|zU (zV<|zm 1) (.nm 0) 1 [0] js (zE q8 (ze 0)<|ze 1)
noncomputable def bZ:=jj 3<|qp<|zH xW<|zb (ze 0)<|zb (jU<|zU (zV<|zF<|cE (zm 1)<|zy<|.int 2) (.nm 0) 1 [2] js (iP<|jS<|zU (KF (ze 0)<|ze 1) (.tp [0,1]) 2 [] js (zE xu (ze 0)<|ze 1))) zI
noncomputable def qE:=jj 2<|zQ (jy 1<|jU<|zU (zS<|cE (zm 0)<|zy<|.int 1) (.nm 0) 1 [0] js (jv<|jS<|zU (zV<|zF<|cE (zm 1)<|zy<|.int 2) (.nm 0) 1 [0] js (cE (zm 0)<|ze 1)))<|qp<|qF<|zb (cE (zm 0)<|zy<|.int 1)<|zb (cE (zm 0)<|zy<|.int 0)<|zb (jv<|zm 1) zI
noncomputable def qd:=jj 2<|zQ (jy 1<|jU<|zU (zS<|ze 0) (.nm 0) 1 [0] js (jv<|jS<|zU (zS<|ze 1) (.nm 0) 1 [0] js (aN (sB<|zE hG (ze 1)<|ze 0) (zy<|.int 1)<|zy<|.int 0)))<|qp<|qF<|zb (ze 0)<|zb (ze 0)<|zb (jv<|zm 1) zI
noncomputable def QT:=jj 2<|qp<|qF<|zb (ze 0)<|zb (ze 1)<|zb (zE xu (qF<|zb (zE xu (qF<|zb (zy<|.int 0) zI)<|ze 1) zI)<|ze 0) zI
def kH:=jj 1<|qp<|rS (Dk .int<|ze 0)<|Eg<|Dk .bool<|ze 0
noncomputable def Zg:=jj 3<|zQ (k3 (ku (zy<|.int 1)<|ze 0) (.nm 2)<|l9 (sB<|zE hG (zE q8 (zE xu (ze 1)<|ze 2)<|ze 0)<|zy<|.int 1) (vK 2) xM) Yb
noncomputable def qN:=jj 5<|zQ (jy 4<|cE (zm 1)<|ze 3)<|zQ (l9 (sB<|zE hG (ze 4)<|zy<|.int 0) (vK 1) xM)<|qp<|zH xW<|zb (ze 0)<|zb (jU<|zU (KF (ze 1)<|ze 2) (.tp [0,1]) 2 [4] js (zE yR (ze 0)<|zE xu (ze 2)<|ze 1)) zI
noncomputable def qO:=jj 9<|zQ (jy 3<|jU<|zU (zV<|zm 2) (.nm 0) 1 [0] js (zH xW<|zb (ze 1)<|zb (ze 0) zI))<|zQ (qw 4<|j4 zI)<|zQ (k3 (zS<|ze 1) (.nm 5)<|zQ (jy 6<|jU<|zU (zV<|zm 3) (.nm 0) 1 [5] (sB<|zE nr (cE (zm 0)<|ze 1)<|zy<|.int 0) (ze 0))<|zQ (l9 (k9<|rJ<|zm 6) rP xM)<|zQ (jy 7<|zH Zg<|zb (ze 0)<|zb (cE (zF<|cE (zm 6)<|zy<|.int 0)<|ze 5) zI)<|zQ (jy 8<|zH xW<|zb (ze 0)<|zb (jU<|zU (zV<|zF<|cE (zm 6)<|zy<|.int 0) (.nm 0) 1 [7] js (zE xu (ze 1)<|ze 0)) zI)<|zQ (jy 3<|jU<|zU (zV<|zm 3) (.nm 0) 1 [0,5,8] js (zH qN<|zb (ze 1)<|zb (ze 0)<|zb (ze 3)<|zb (ze 2) zI))<|qw 4<|QI (jS<|zU (zV<|zm 4) (.nm 0) 1 [0,5,8] js (zH qN<|zb (ze 1)<|zb (ze 0)<|zb (ze 3)<|zb (ze 2) zI))<|jS<|j4<|zb (ze 8) zI)<|vK 4
noncomputable def jW:=jj 2<|vX<|zU (zV<|zm 1) (.nm 0) 1 [0] (k9<|sB<|uL<|zF<|cf (ze 0) cg<|rr<|ze 1) (cf (ze 0) (rr<|ze 1) cg)
noncomputable def xG:=jj 5<|zQ (jy 3<|jU<|zU (KF (cE (zF<|zH qE<|zb (ze 1) zI)<|zy<|.int 2)<|cE (zF<|zH qd<|zb (cE (zm 1)<|zy<|.int 1) zI)<|zy<|.int 2) (.tp [0,1]) 2 [] js (zE jJ (ze 0)<|ze 1))<|zQ (jy 4<|jU<|zU (zV<|zm 2) (.nm 0) 1 [1] js (zE jJ (ze 0)<|zE xu (qF<|zb (zy<|.int 0) zI)<|cE (zm 1)<|zy<|.int 1))<|vX<|jF jW<|zb (cE (zm 1)<|zy<|.int 0)<|zb (jU<|jF qO<|zb (ze 0)<|zb (zE jJ (cE (zm 1)<|zy<|.int 0)<|cE (zm 1)<|zy<|.int 1)<|zb (jU<|QI (zm 3)<|zm 4) zI) zI
def vG:=jj 2<|vX<|jF xG<|zb (ze 0)<|zb (ze 1)<|zb (jU<|j4 zI) zI
noncomputable def Zy:=jj 2<|vX<|jF qO<|zb (ze 0)<|zb (cE (zm 1)<|zy<|.int 0)<|zb (cE (zF<|zH qE<|zb (ze 1) zI)<|zy<|.int 2) zI
section
variable(γ:Ctx)
@[simp] def IA:=@LL.eq_1
@[simp] def Hv:=@Lf.eq_1
@[simp] def EV:=@HK.eq_1
end
noncomputable def qK:=jj 1<|qp<|cE (jS<|zU (iY<|ze 0) (.tp [0,1]) 2 [] (sB<|zE nr (ze 1)<|zy<|.int 0) (ze 0))<|zy<|.int 0
noncomputable def vE:=jj 7<|zQ (jy 3<|cE (zm 1)<|zy<|.int 1)<|zQ (qw 4<|iR (jS<|j4<|zb (zy<|.int 0) zI)<|ze 3)<|zQ (k3 (zV<|zF<|jU<|jF qO<|zb (ze 0)<|zb (zE jJ (ze 3)<|zy<|.int 1)<|zb (jU<|zU (KF (cE (zm 1)<|zy<|.int 2)<|ze 2) (.tp [0,1]) 2 [] js (zE jJ (ze 0)<|qF<|zb (ze 1) zI)) zI) (.nm 5)<|zQ (jy 6<|zH qK<|zb (ze 5) zI)<|zQ (l9 (sB<|zE hG (ze 6)<|ze 3) (qp<|zy .el) xM)<|Jw 4 (ze 6)<|cE (zm 5)<|ze 3)<|qp<|jv<|zm 4
section
variable(γ:Ctx)
@[simp] def Hm:=@iY.eq_1
@[simp] def Iv:=@LI.eq_1
@[simp] def Iw:=@LJ.eq_1
@[simp] theorem EW(F G a b c):ZC F G a b c γ=(a γ).bind λx=>(b γ).bind λy=>((F x y).bind wb).bind λk=>if k=cz then (c γ).bind λz=>G y z else bX (.bl dn):=rfl
@[simp] def GW:=@yW.eq_1
end
noncomputable def kJ:=jj 5<|zQ (jy 2<|cE (zm 1)<|zy<|.int 0)<|zQ (l9 (sB<|zE nr (cE (zm 1)<|zy<|.int 1)<|ze 2) (qp<|zy .el) xM)<|zQ (jy 3<|cE (zF<|zH qd<|zb (ze 2) zI)<|zy<|.int 2)<|zQ (jy 4<|jU<|jF qO<|zb (ze 0)<|zb (zE jJ (ze 2)<|ze 2)<|zb (jU<|zU (KF (cE (zm 1)<|zy<|.int 2)<|ze 3) (.tp [0,1]) 2 [] js (zE jJ (ze 0)<|ze 1)) zI)<|zQ (l9 (sB<|zE nr (jU<|zU (zV<|zm 4) (.nm 0) 1 [2] js (cf (ze 0) cg<|rr<|ze 1))<|jU<|XR<|zm 3) (qp<|zy .el) xM)<|qp<|qF<|zb (ze 2)<|zb (ze 2)<|zb (jv<|jS<|zU (zV<|zm 4) (.nm 0) 1 [2] js (cf (ze 0) (rr<|ze 1) cg)) zI
section
variable(γ:Ctx)
@[simp] theorem GX(i f):iQ i f γ=(f γ).bind λz=>if γ.any Xq=dn then bX (.next<|γ.set i<|.nest z)else none:=rfl
@[simp] def EU:=@Wx.eq_1
@[simp] def CM:=@dw.eq_1
@[simp] def Iy:=@KG.eq_1
@[simp] def Hl:=@iX.eq_1
@[simp] def EN:=@HJ.eq_1
end
@[simp] theorem nK(r):wX (bX (.nest r))=bX r:=rfl
section
variable(γ:Ctx)
@[simp] def w5:=@k8.eq_1
@[simp] def Hh:=@x9.eq_1
@[simp] def Hq:=@Le.eq_1
@[simp] def uC:=@rL.eq_1
end
noncomputable def qm:=jj 2 (qp (aN (sB (zE hG (ze 1) (zy (.str "r")))) (ze 0) (zE jJ (ze 0) (zy (.int 1)))))
noncomputable def vH:=jj 2 (qp (aN (sB (zE hG (ze 1) (zy (.str "r")))) (zE jJ (ze 0) (zy (.int 1))) (ze 0)))
def FD(f:CO D):CO D:=λa=>(f a).map λd=> .bl (tH .list d || tH .tuple d)
def cc:=jj 1<|qp<|rS (Dk .int<|ze 0)<|Eg<|Dk .bool<|ze 0
def Vd:=jj 2<|qp<|rS (zH cc<|zb (ze 1) zI)<|ZC wh D5 (zy<|.int 0) (ze 1)<|ze 0
def V9:=jj 2<|qp<|rS (FD<|ze 0)<|zE hG (yO<|zm 0)<|ze 1
noncomputable def xn:=jj 1 (qp (rL (zy (.str "")) (jS (zU (zV (zF (cE (zm 0) (zy (.int 2))))) (.nm 0) 1 [] js (cE (zm 0) (zy (.int 0)))))))
noncomputable def km:=jj 2<|qp<|rS (zE hG (cE (zm 0)<|zy<|.int 0)<|cE (zm 1)<|zy<|.int 0)<|zE hG (zH xn<|zb (ze 0) zI)<|zH xn<|zb (ze 1) zI
def qo:=jj 2<|l9 (k9<|sB<|zH km<|zb (ze 0)<|zb (ze 1) zI) Yb xM
noncomputable def vU:List D->Option Xn:=HL 2 (L4 (k9 (sB (zH km (zb (ze 0) (zb (ze 1) zI))))) (uU "Unlike") L5)
section
variable{X:Cx}{sc:g9}{N L:List Str}{k:Nat}{a e:eh}{es:List eh}{f:CO D}{g:CO (List D)}{pos p p2:gB}
theorem WG(U:PV X e f)(hs:y6 e none pos.line X.env=pure dn:=by rfl):kr X (.Expr e pos) (rO f):=ky (Vo U hs) λD k H Y=>by obtain⟨E0,E,g,j,l,O,I,h⟩:=Y;obtain⟨d,i,I⟩:=zG I;subst I;exact⟨g,j,d,O.rc,i,λv b a x r=>h k b a<|O.step x⟩
end
theorem kf(h:Dq X es n g):C1 X es g:=h.1
section
variable{K:LX}{E0 E H0 H:Hp}{σ:St}{γ:Ctx}
theorem d5.dropLast : ∀{ds:List D} {xs:List V},d5 K H ds xs->d5 K H ds.dropLast xs.dropLast
 | [],xs,r=>by rw[r.n5];exact d5.nil
 | [d],xs,r=>by obtain⟨x,b,e,_,a⟩:=r.l7;rw[e,a.n5];exact d5.nil
 | d::d2::ds,xs,r=>by obtain⟨x,b,e,I,a⟩:=r.l7;obtain⟨U,Y,O,_,_⟩:=a.l7;subst e O;exact d5.cons I<|d5.dropLast a
end
section
variable{X:Cx}{sc:g9}{N L:List Str}{k:Nat}{a b e:eh}{pos p p2:gB}{f g:CO D}
theorem aQ{c:eh}{z:CO D}(C:PV X a z){U:CO (Sk×List D)}(J:PQ X c U)(M:A5 .NotIn c=dn:=by with_unfolding_all rfl):mm X (.Compare a [.NotIn] [c] pos) (sB<|XQ z U):=
 Vn (dY Yo C J M) λR H Q A=>by
  obtain⟨h,g,d,rc,I,q⟩:=A;obtain⟨G,n,w⟩:=zg I;obtain⟨x,o,I⟩:=zg n;obtain⟨⟨f,m⟩,s,I⟩:=zg I;obtain⟨i,t,I⟩:=zg I;obtain⟨l,u,rfl⟩:=zG I;cases w;refine⟨h,g,x,rc,o,λY F j x1 O=>⟨j,g,f,m,rc.ext x1,s,λp P b k E e N r=>?_⟩⟩;rw[jD t]at O;have y:=JO r u;subst y;have B:fA X.K b p (l.map V.int)\/g5 X.K b p (l.map V.int):=by
   cases f with
   | L=>exact .inl e
   | T=>exact .inr e
  refine⟨p,_,rfl,B,by rw[show Y = .int i from O];rfl,YS l,?_⟩;rw[show Y = .int i from O,fX];exact⟨_,rfl,q b k<|x1.trans E⟩
end
end DL
namespace L2
open PySem PySem.Spec PyProof.Rows
theorem Gu(z:Str):strIterType z = "str_ascii_iterator"\/strIterType z = "str_iterator":=by unfold strIterType;split<;>simp
theorem W6{X:Cx}{C:UQ}{S:St}{H:Hp}{s:d7}{E:EQ}{z it:dv}{i Y:Nat}{x:dy}{v:V}{g:e9}{J:List eh}{x1:Nat}{L:gB}{Q:Unit->d7->Prop}
 (I:Inv X C S H s) (M : ∀b ∈ [z,it],vV X C H b) (hz:z<s.heap.objs.size) (hi:it<s.heap.objs.size) (Z:Pz g z it ((i:Int)+1) x s.heap.objs.size)
 (a3:k0 g s.heap.objs.size (.int i Y) x) (a5 : ∀b o,b≠z->b≠it->s.heap.get? b=bX o->g.get? b=bX o) (rx:RelV v x)
 (a9 : ∀g2,s8 g2 z it ((i+1:Nat):Int) x->Pp z g g2->Inv X C S (upd H s.heap.objs.size<|.tup [.int i,v]) {s with heap:=g2,toks:=Y+1}->H s.heap.objs.size=none->
   (∀b ∈ [z,it],upd H s.heap.objs.size (.tup [.int i,v]) b=none)->Q () {s with heap:=g2,toks:=Y+1}) :
 wpAny (eg X.prog X.w) X.A (N1 (.Tuple J x1 L) (.ref z)<|.ref s.heap.objs.size) Q E {s with heap:=g,toks:=Y+1}:=by
 refine Z_ Z λg2 n9 a=>?_;have d:k0 g2 s.heap.objs.size (.int i Y) x:=a.extBut _ _ (Oo hz) a3;have h : ∀O u,O ∉ [z,it]->s.heap.get? O=bX u->g2.get? O=bX u:=λO u U e=>by simp only[Mj,Ms,or_false,not_or]at U;exact a.extBut _ _ U.1<|a5 O u U.1 U.2 e
 refine a9 g2 (by have:=n9;rwa [show((i:Int)+1)=((i+1:Nat):Int)by omega]at this) a (I.Ua (fp:=[z,it]) h M (Mf _) ⟨by show 2<=fh;decide,[.int i Y,x],.cons ⟨_,rfl⟩<|.cons rx .nil,⟨_,d,rfl,_,rfl⟩⟩) I.fresh λO U=>?_;have f:O≠s.heap.objs.size:=by
  simp only[Mj,Ms,or_false]at U;rcases U with rfl | rfl
  ·exact Mr hz
  ·exact Mr hi
 rw[zL f];exact(M O U).1
noncomputable def HB(K:LX)(a:dv):It:=
 ⟨λi H=>∃b,fA K H a b/\i<b.length,
  λi H x d=>∃p u,x = .ref p/\H p=none/\d=upd H p (.tup [.int i,u])/\(∀b,fA K H a b->b[i]? = bX u),
  λi H=>∃b,fA K H a b/\b.length=i⟩
theorem aE{P:h6}{w:g8}{K:LX}{elts:List eh}{x1:Nat}{r6:gB}{z it a:dv}(ab:z≠it) :
 Turn P w K (.Tuple elts x1 r6) (HB K a) [z,it] z (λi h=>(∃U,s8 h z it i U)/\h.IsListIter it a i) where
 mem:=by simp
 obj:=λi h ⟨⟨U,hz⟩,h1⟩ y hy=>by
  simp only[Mj,Ms,or_false]at hy;rcases hy with rfl | rfl
  ·exact⟨_,hz,λv q=>by cases q⟩
  ·obtain⟨o,e,c,d⟩:=h1
   exact⟨o,e,λv q=>by rw[d]at q;cases q⟩
 keep:=λi h h' ⟨⟨U,hz⟩,h1⟩ k=>⟨⟨U,k z ⋯ _ hz⟩,h1.at λo e=>k it ⋯ o e⟩
 item:=by
  rintro X rfl rfl rfl hc i pins s σ H E I hf ⟨⟨U,hz⟩,h1⟩ ⟨xs,a6,b5⟩;obtain⟨a7,a8,p1,z1⟩:=I.list a6;have Y:=p1.isList;have hx:xs[i]? = bX xs[i]:=LZ b5;have l1:=a8.length;have am:a≠it:=λe=>by obtain⟨o,e1,O,_⟩:=Y;obtain⟨o2,e2,c2,_⟩:=h1;rw[e,e2]at e1;cases e1;rw[c2]at O;exact absurd O ⋯
  have b8:z≠a:=λe=>by obtain⟨o,e1,O,_⟩:=Y;have ax:s.heap.get? z=bX _:=hz;rw[e,e1]at ax;cases ax;exact absurd O ⋯
  have b9:it<s.heap.objs.size:=by obtain⟨o2,e2,_⟩:=h1;exact Mk e2
  have Dr:=Draws.list (prog:=X.prog) (w:=X.w) (A:=X.A.in1) (show X.A.in1.handled=none from I.ok.hd hc) it a am a7.toArray;refine wpAny_pyNext_enum_itemD Dr hz ⟨h1,Y⟩ (by simp;omega) ab (by simp;exact⟨ab,b8⟩) λx g tk hP a1 a2 a3 a4 a5=>⟨_,rfl,?_⟩;obtain⟨u1,bg,bi⟩:=a8.get hx;obtain rfl:u1=x:=by have:=hP;simp[bg]at this;exact this
  refine W6 I hf (Mk hz) b9 a1 a3 a5 bi λg2 b1 b2 I1 bm hn=>⟨.ref s.heap.objs.size,_,I1,rfl,⟨_,_,rfl,bm,rfl,λc3 bn=>by rw[I.TF bn a6];exact hx⟩,⟨⟨_,b1⟩,a2.1.at λo e=>b2.extBut _ _ ab.symm e⟩,hn⟩
 done:=by
  rintro X rfl rfl rfl hc i pins s σ H E I hf ⟨⟨U,hz⟩,h1⟩ ⟨xs,a6,hi⟩;obtain⟨a7,a8,p1,z1⟩:=I.list a6;have Y:=p1.isList;have l1:=a8.length;have am:a≠it:=λe=>by obtain⟨o,e1,O,_⟩:=Y;obtain⟨o2,e2,c2,_⟩:=h1;rw[e,e2]at e1;cases e1;rw[c2]at O;exact absurd O ⋯
  have Dr:=Draws.list (prog:=X.prog) (w:=X.w) (A:=X.A.in1) (show X.A.in1.handled=none from I.ok.hd hc) it a am a7.toArray;have en:a7.toArray.size=i:=by simp;omega
  rw[en]at Dr;refine wpAny_pyNext_enum_endD Dr hz ⟨h1,Y⟩ λg hk=>⟨rfl,?_⟩;refine I.zc (t':=s.toks) (fp:=[z,it]) (λb' u hb e=>?_) hf;simp only[Mj,Ms,or_false,not_or]at hb;exact hk b' u hb.2 e
 self:=λ_ _ _ _ _ st h=>yd st.1.choose_spec h
noncomputable def HA(z:Str):It:=
 ⟨λi _=>i<z.cps.size,λi H x a=>∃p c,x = .ref p/\H p=none/\a=upd H p (.tup [.int i,.str ⟨#[c]⟩])/\z.cps[i]? = bX c,λi _=>i=z.cps.size⟩
theorem YU{prog:h6}{w:g8}{A:j1}(I:A.handled=none)(it:dv)(x:Str)(t:Tok) :
 Draws prog w A it [it] x.cps.size (λi v=>∃c u,x.cps[i]? = bX c/\v = .str ⟨#[c]⟩ u) (λi h=>h.IsStrIter it (strIterType x) x t i):=by
 rcases Gu x with q | q
 ·rw[q];exact Draws.strAscii I it x t
 ·rw[q];exact Draws.strWide I it x t
theorem aD{P:h6}{w:g8}{K:LX}{elts:List eh}{x1:Nat}{r6:gB}{z it:dv}(x:Str)(t:Tok)(U:z≠it) :
 Turn P w K (.Tuple elts x1 r6) (HA x) [z,it] z (λi h=>(∃O,s8 h z it i O)/\h.IsStrIter it (strIterType x) x t i) where
 mem:=by simp
 obj:=λi h ⟨⟨O,hz⟩,h1⟩ y hy=>by
  simp only[Mj,Ms,or_false]at hy;rcases hy with rfl | rfl
  ·exact⟨_,hz,λv q=>by cases q⟩
  ·obtain⟨o,e,c,d⟩:=h1
   exact⟨o,e,λv q=>by rw[d]at q;cases q⟩
 keep:=λi h h' ⟨⟨O,hz⟩,h1⟩ k=>⟨⟨O,k z ⋯ _ hz⟩,by obtain⟨o,e,r⟩:=h1;exact⟨o,k it ⋯ o e,r⟩⟩
 item:=by
  rintro X rfl rfl rfl Y i pins s σ H E I hf ⟨⟨O,hz⟩,h1⟩ a9;have ab:it<s.heap.objs.size:=by obtain⟨o2,e2,_⟩:=h1;exact Mk e2
  have Dr:=YU (prog:=X.prog) (w:=X.w) (A:=X.A.in1) (show X.A.in1.handled=none from I.ok.hd Y) it x t;refine wpAny_pyNext_enum_itemD Dr hz h1 a9 U (by simp;exact U) λu g tk hP a1 a2 a3 a4 a5=>⟨_,rfl,?_⟩;obtain⟨c,tu,as,rfl⟩:=hP;refine W6 (v:= .str ⟨#[c]⟩) I hf (Mk hz) ab a1 a3 a5 ⟨_,rfl⟩ λg2 b1 b2 I1 b0 hn=>⟨.ref s.heap.objs.size,_,I1,rfl,⟨_,_,rfl,b0,rfl,as⟩,⟨⟨_,b1⟩,?_⟩,hn⟩;obtain⟨o,e,r⟩:=a2;exact⟨o,b2.extBut _ _ U.symm e,r⟩
 done:=by rintro X rfl rfl rfl Y i pins s σ H E I hf ⟨⟨O,hz⟩,h1⟩ hi;have hi:i=x.cps.size:=hi;subst hi;have Dr:=YU (prog:=X.prog) (w:=X.w) (A:=X.A.in1) (show X.A.in1.handled=none from I.ok.hd Y) it x t;refine wpAny_pyNext_enum_endD Dr hz h1 λg hk=>⟨rfl,?_⟩;refine I.zc (t':=s.toks) (fp:=[z,it]) (λb' u hb e=>?_) hf;simp only[Mj,Ms,or_false,not_or]at hb;exact hk b' u hb.2 e
 self:=λ_ _ _ _ _ st h=>yd st.1.choose_spec h
noncomputable def Co(K:LX)(z:TA):TI:=λf H R=>z f H λd b=>∃a,d=[.ref a]/\(∃e,fA K b a e)/\R (HB K a) b
def Cn(C:TA):TI:=λd H R=>C d H λb a=>∃z,b=[.str z]/\R (HA z) a
section
variable{X:Cx}{e1:eh}{ta:TA}{p pos:gB}{elts:List eh}{x1:Nat}{r6:gB}
theorem mh(C:Gl X "enumerate")(J:X.mg "enumerate" = none)(z:PA X [e1] ta)
 (L:C3 "enumerate" = bX (.type "enumerate")) (hs:ft [e1] X.env=[(dn,ej e1 X.env)]:=by rfl) :
 PI X (.Tuple elts x1 r6) (.Call (.Name "enumerate" p) [e1] [] pos) (Co X.K ta):=by
 intro b s n H R I h;refine DF<|kO I C J L<|Na (eM (z pos b s n H _ I h) λt d j=>?_) (by rw[hs];rfl) rfl;obtain⟨u,e,O,m,l⟩:=j;obtain⟨a,rfl,⟨x,f⟩,q⟩:=l;obtain⟨w,rfl,i⟩:=yN m;cases i;obtain⟨o,r,k,y⟩:=O.list f;refine call_enumerate_list k.isList λg b1 b2 b3 b4=>yd (s:={d with heap:=g}) b1 ?_;refine⟨_,[d.heap.objs.size+1,d.heap.objs.size],_,_,e,rfl,O.kept (t':=d.toks) b4,aE<|Oo<|NY _,⟨⟨_,b1⟩,b2⟩,λc U=>?_,q⟩;have Y:d.heap.objs.size<=c:=by
  simp only[Mj,Ms,or_false]at U;rcases U with rfl | rfl
  ·exact ML _ _
  ·exact Mf _
 exact O.A8 Y<|O.fy.fresh Y
theorem mf(J:Gl X "enumerate")(L:X.mg "enumerate" = none)(C:PA X [e1] ta)
 (M:C3 "enumerate" = bX (.type "enumerate")) (hs:ft [e1] X.env=[(dn,ej e1 X.env)]:=by rfl) :
 PI X (.Tuple elts x1 r6) (.Call (.Name "enumerate" p) [e1] [] pos) (Cn ta):=by
 intro a s k H R I h;refine DF<|kO I J L M<|Na (eM (C pos a s k H _ I h) λl b f=>?_) (by rw[hs];rfl) rfl;obtain⟨m,d,O,j,i⟩:=f;obtain⟨z,rfl,q⟩:=i;obtain⟨n,rfl,e⟩:=yN j;obtain⟨t,rfl⟩:=e;refine call_enumerate_str λg b1 b2 b3 b4=>yd (s:={b with heap:=g}) b1 ?_;refine⟨_,[b.heap.objs.size+1,b.heap.objs.size],_,_,d,rfl,O.kept (t':=b.toks) b4,aD z t<|Oo<|NY _,⟨⟨_,b1⟩,b2⟩,λc U=>?_,q⟩;have Y:b.heap.objs.size<=c:=by
  simp only[Mj,Ms,or_false]at U;rcases U with rfl | rfl
  ·exact ML _ _
  ·exact Mf _
 exact O.A8 Y<|O.fy.fresh Y
end
end L2
namespace DL
open PySem PySem.Spec PyProof.Rows L2
theorem Ya(z:Str):(xX z).length=z.cps.size:=by simp[xX]
theorem iM(z:Str){i c:Nat}(h:z.cps[i]? = bX c):(xX z)[i]? = bX (.str ⟨#[c]⟩):=by simp[xX,h]
theorem az{K:LX}{H0 C:Hp}(z:Str):Walk K H0 C (HA z) (xl<|xX z):=by
 have b:(xl<|xX z).length=z.cps.size:=by simp[xl,Ya]
 refine⟨λi d s a=>?_,λd s=>?_,λi d x f s a y=>?_⟩
 ·rw[b]at a;exact a
 ·rw[b];exact rfl
 ·obtain⟨p,c,rfl,I,rfl,O⟩:=y
  refine⟨.tup [.int i,.str ⟨#[c]⟩],?_,λe h g=>⟨upd e p<|.tup [.int i,.str ⟨#[c]⟩],Ext.alloc g I _,?_⟩⟩
  ·rw[b]at a
   unfold xl;rw[MC,Oc (by rw[Ya];exact a),Nt,iM z O];rfl
  ·exact xA (g5.of zN)<|d5.cons (show V.int i = .int i from rfl)<|d5.cons (show V.str ⟨#[c]⟩ = .str ⟨#[c]⟩from rfl) d5.nil
theorem aA{K:LX}{H0 z:Hp}{a:dv}{xs:List V}{ds:List D}(h:fA K z a xs)(r:d5 K H0 ds xs):Walk K H0 z (HB K a) (xl ds):=by
 have Y:=r.length;have m:(xl ds).length=ds.length:=by simp[xl]
 refine⟨λi b s k=>?_,λb s=>?_,λi b x g s k y=>?_⟩
 ·exact⟨xs,s.seq h,by omega⟩
 ·exact⟨xs,s.seq h,by omega⟩
 ·obtain⟨p,u,rfl,I,rfl,O⟩:=y
  obtain⟨d,j,U⟩:=r.DR<|O xs<|s.seq h;refine⟨.tup [.int i,d],?_,λf l e=>⟨upd f p<|.tup [.int i,u],Ext.alloc e I _,?_⟩⟩
  ·unfold xl
   rw[MC,Oc ⋯,Nt,j];rfl
  ·exact xA (g5.of zN)<|d5.cons (show V.int i = .int i from rfl)<|d5.cons ((U.mono l).mono (jc (jo e I) _)) d5.nil
section
variable{X:Cx}{sc:g9}{N L:List Str}{k:Nat}{a b e:eh}{pos p p2:gB}{f fa fb:CO D}
theorem sO{C:List eh}{x1:Nat}{J:gB}(h:SX X sc N L k)(c:vD sc "enumerate" = cz)(z:X.mg "enumerate" = none)(M:PV X a f)(hs:ft [a] X.env=[(dn,ej a X.env)]:=by rfl) :
 h7 X (.Tuple C x1 J) (.Call (.Name "enumerate" p) [a] [] pos) (Yc f):=
 X0 (mf (h.gl c).1 z (jr M qu hs) boot_enumerate hs) λl H R U=>by
  obtain⟨i,j,e,rc,I,q⟩:=U;obtain⟨d,Y,I⟩:=zg I;cases d with
  | str z=>
   by_cases O:jO z=cz
   ·have I:(if jO z=cz then bX (xl<|xX z)else none)=bX e:=I
    rw[UJ O]at I;cases I;exact⟨i,j,_,rc,Y,λv g b x r=>⟨z,by rw[show v = .str z from r],q _ g b x<|az z⟩⟩
   ·have I:(if jO z=cz then bX (xl<|xX z)else none)=bX e:=I
    rw[UY O]at I;cases I
  | _=>cases I
theorem sP(h:SX X sc N L k)(c:vD sc "enumerate" = cz)(z:X.mg "enumerate" = none)(C:PV X a f)(hs:ft [a] X.env=[(dn,ej a X.env)]:=by rfl) :
 h7 X (.Tuple elts x1 r6) (.Call (.Name "enumerate" p) [a] [] pos) (oj f):=
 X0 (mh (h.gl c).1 z (jr C qu hs) boot_enumerate hs) λo H R U=>by
  obtain⟨g,l,m,rc,I,q⟩:=U;obtain⟨d,Y,I⟩:=zg I;cases d with
  | lst n=>
   cases I;refine⟨g,l,_,rc,Y,λv e b x r=>?_⟩;obtain⟨i,j,rfl,O,g2⟩:=fD r;exact⟨i,rfl,⟨j,x.sub.seq O⟩,q _ e b x<|aA O g2⟩
  | _=>cases I
end
end DL
namespace DL
open PySem L2 PyProof.Rows
open PySem.W (KasT kas_sort kas_asc kas_desc kas_tail3 kas_descPart kas_count kas_place kas_bin kas_rev)
noncomputable def Good{z:Type}(n:Nat)(P:z->Prop):KasT z->Prop
 | .ret a=>P a
 | .ask i j k=>i<n/\j<n/\∀b,Good n P<|k b
theorem Good.mono{z:Type}{n:Nat}{P I:z->Prop}(h : ∀a,P a->I a) : ∀{t:KasT z},Good n P t->Good n I t
 | .ret a,g=>h a g
 | .ask i j k,g=>⟨g.1,g.2.1,λb=>(g.2.2 b).mono h⟩
theorem Good.bind{z β:Type}{n:Nat}{P:z->Prop}{I:β->Prop}{f:z->KasT β}(O : ∀a,P a->Good n I (f a)) : ∀{t:KasT z},Good n P t->Good n I (t.bind f)
 | .ret a,g=>O a g
 | .ask i j k,g=>⟨g.1,g.2.1,λb=>(g.2.2 b).bind O⟩
theorem Good.run : ∀{t:KasT α},Good n P t->P (ka lt t)
 | .ret a,g=>g
 | .ask i j k,g=>(g.2.2 _).run
def Pm(n:Nat)(p:Array Nat):Prop:=p.toList.Perm<|LW n
theorem Pm.lt(h:Pm n p)(z:0<n)(i:Nat):p.getD i 0<n:=by
 by_cases a:i<p.size
 ·have e:p.getD i 0=p[i]:=by simp[Array.getD,a]
  rw[e];exact Ma.mp<|h.mem_iff.mp ⋯
 ·have e:p.getD i 0=0:=by simp[Array.getD,a]
  rw[e];exact z
theorem Pm.rev(h:Pm n p)(i j:Nat):Pm n (kas_rev p i j):=(Array.perm_iff_toList_perm.mp<|mirror_perm p i j _).trans h
theorem Pm.x_(h:Pm n p)(i j:Nat):Pm n (bubble p i j):=(Array.perm_iff_toList_perm.mp<|bubble_perm p i j).trans h
theorem Kj(h:Pm n p)(z:0<n) : ∀f m,Good n (λ_=>True) (kas_asc p f m)
 | 0,m=>trivial
 | f+1,m=>⟨h.lt z _,h.lt z _,λb=>by
  cases b with
  | true=>exact trivial
  | false=>exact Kj h z f<|m+1⟩
theorem wO(z:0<n) : ∀f p m q,Pm n p->Good n (λr=>Pm n r.1) (kas_desc f p m q)
 | 0,p,m,q,h=>h
 | f+1,p,m,q,h=>⟨h.lt z _,h.lt z _,λb=>by
  cases b with
  | true=>
   show Good n _ (if q>0 then _ else _);split
   ·exact wO z f _ _ _<|h.rev _ _
   ·exact wO z f _ _ _ h
  | false=>exact⟨h.lt z _,h.lt z _,λd=>by
   cases d with
   | true=>exact h
   | false=>exact wO z f _ _ _ h⟩⟩
theorem YL{n:Nat}(z:0<n)(m r:Nat){p:Array Nat}(h:Pm n p):Good n (λr=>Pm n r.2) (kas_tail3 m r p):=by unfold kas_tail3;refine Good.bind (P:=λ_=>True) (λa _=>?_)<|Kj (h.rev _ _) z _ _;exact(show Pm n (kas_rev p 0 m)from h.rev _ _)
theorem YM{n:Nat}(z:0<n)(m r:Nat){p:Array Nat}(h:Pm n p):Good n (λr=>Pm n r.2) (kas_descPart m r p):=
 (wO z _ _ _ _ h).bind λa b=>by
   show Good n _ (if a.2.2>0 then _ else _);split
   ·exact YL z _ _<|Pm.rev b _ _
   ·exact YL z _ _ b
theorem bG{n:Nat}(z:0<n)(r:Nat){p:Array Nat}(h:Pm n p):Good n (λr=>Pm n r.2) (kas_count r p):=
 (Kj h z _ _).bind λm _=>by
   show Good n _ (if (m==r)=cz then _ else if m>1 then _ else _);split
   ·exact h
   ·split
    ·exact⟨h.lt z _,h.lt z _,λc=>by
      cases c with
      | true=>exact h
      | false=>exact YM z _ _<|h.rev _ _⟩
    ·exact YM z _ _ h
theorem Zu(z:0<n)(h:Pm n p)(k:Nat) : ∀f l r,Good n (λ_=>True) (kas_place p k f l r)
 | 0,l,r=>trivial
 | f+1,l,r=>by
  show Good n _ (if l>=r then _ else _);split
  ·exact trivial
  ·exact⟨h.lt z _,h.lt z _,λc=>by
    cases c with
    | true=>exact Zu z h k f _ _
    | false=>exact Zu z h k f _ _⟩
theorem W1{n:Nat}(z:0<n) : ∀f p k,Pm n p->Good n (Pm n) (kas_bin f p k)
 | 0,p,k,h=>h
 | f+1,p,k,h=>(Zu z h k k 0 k).bind λl _=>W1 z f _ _<|h.x_ _ _
theorem JT{n:Nat}(z:0<n):Good n (Pm n) (kas_sort n):=
 (bG z n<|show Pm n (OT<|LW n)from List.Perm.refl _).bind λr I=>by
   show Good n _ (if r.1<n then _ else _);split
   ·exact W1 z _ _ _ I
   ·exact I
theorem jP(ps:List (Int×Int)):(j7 ps).Perm (LW ps.length):=by
 unfold j7;split
 ·exact List.Perm.refl _
 ·exact(JT ⋯).run
theorem Ym : ∀{ds:List D} {ps:List (Int×Int)},ZE ds=bX ps->ps.length=ds.length
 | [],ps,h=>by cases h;rfl
 | d::ds,ps,h=>by
  unfold ZE at h;cases e1:mz d with
  | none=>rw[e1]at h;cases h
  | some x=>
   cases e2:ZE ds with
   | none=>rw[e1,e2]at h;cases h
   | some l=>rw[e1,e2]at h;cases h;simp[Ym e2]
theorem ja(d:α) : ∀ds:List α,(LW ds.length).map (λi=>ds.getD i d)=ds:=λds=>by
 apply NK;intro i;by_cases a:i<ds.length
 ·simp[a]
 ·simp[a,Nat.not_lt.mp a]
end DL
namespace DL
open PySem PySem.Spec PyProof.Rows L2
open PySem.W (KasT kas_sort kas_ask kat_run kat_snds kat_lt kat_cons kat_no kat_yes kat_nil kat_go kat_one kat_kind KatTups KatGo)
theorem VQ(I : ∀i j C,i<n->j<n->C (lt i j) s->cmp i j C s) :
 ∀{t:KasT α},Good n P t->Q (ka lt t) s->t.kasWp cmp Q s
 | .ret _,_,q=>q
 | .ask i j k,g,q=>I i j _ g.1 g.2.1<|VQ I (g.2.2 _) q
noncomputable def A3(h:e9)(v:dy)(k l:Int):Prop:=∃x o a m t u,v = .ref x/\h.get? x=bX o/\o.cls = .type "tuple"/\o.data = .seq a m/\a.toList=[.int k t,.int l u]
theorem A3.keep{h h':e9}{v:dy}{k l:Int}(a:A3 h v k l)(e : ∀b o,h.get? b=bX o->o.cls = .type "tuple"->h'.get? b=bX o):A3 h' v k l:=by obtain⟨x,o,g,m,t,u,d,f,I,O,U⟩:=a;exact⟨x,o,g,m,t,u,d,e x o f I,I,O,U⟩
theorem A3.one(a:A3 h v k l):CU h v k:=by obtain⟨x,o,e,m,t,u,b,d,I,O,U⟩:=a;exact⟨x,o,e,m,t,b,d,I,O,by rw[<- Array.getElem?_toList,U];rfl⟩
section
variable{prog:h6}{w:g8}{A:j1}{E:EQ}{s:d7}
theorem JJ{a:dv}{vs:List dy}{ps:List (Int×Int)}{n:Nat}{P:PySem.Fin->d7->Prop}(L:s.heap.get? a=bX (gv "list" vs.toArray n))(M:ps.length=vs.length)(an:vs.length<64)
 (hT : ∀i (J:i<vs.length),A3 s.heap vs[i] (ps.getD i (0,0)).1 (ps.getD i (0,0)).2)
 (h:P (.done<|.ret .none) {s with heap:=sortedHeap s.heap a vs (OT<|(j7 ps).map λi=>vs.getD i MS)}) :
 wpAny (eg prog w) A (m8.«list.sort» ⟨[.ref a],[]⟩) P E s:=by
 rw[list_sort_plain];have ha:a<s.heap.objs.size:=Mk L;have K:vs.length<=fh:=by rw[Pf];omega
 refine LV (I_ L rfl ?_);refine LV (PY L rfl ?_ (by rw[Mi];exact K) (Nh _));obtain⟨f,S⟩ : ∃f,(s.heap.update a (MN λ_=>#[])).get? a=bX (gv "list" #[] f):=⟨_,Sw L (λ_=>#[])⟩;refine LV (SV S rfl ?_);refine LV (RQ ?_ (by show vs.length<=_;exact K));refine LV (Ti ?_ (Nh _));refine NT ?_;have d:(((s.heap.update a (MN λ_=>#[])).push (gv "tuple" vs.toArray 0)).push (gv "list" #[] 0)).get? a=bX (gv "list" #[] f):=by rw[Pc _ _ _ (by rw[Ts,OL];exact Mr (Nl ha)),Pc _ _ _ (by rw[OL];exact Mr ha)];exact S
 show wpAny (eg prog w) A _ P E {s with heap:=((s.heap.update a (MN λ_=>#[])).push (gv "tuple" vs.toArray 0)).push (gv "list" #[] 0)};dsimp only;have l:vs.toArray.size=vs.length:=by simp
 by_cases F:vs.toArray.size<2
 ·rw[UJ F,UJ F]
  refine LV<|Mg ?_;rw[StateT.run_pure];refine LV<|Mg ?_;dsimp only;refine LV<|SV d rfl ?_;have e7:Array.map (λx=>x.snd) (F7<|SortSt.mk' general' (vs.toArray.zip vs.toArray) #[] 7 none)=vs.toArray:=by show Array.map (λx=>x.snd) (vs.toArray.zip vs.toArray)=_;apply Array.ext';simp[Array.toList_map,Array.toList_zip];rw[List.map_snd_zip (Mf _)]
  have ev:(j7 ps).map (λi=>vs.getD i MS)=vs:=by unfold j7;rw[UJ ⋯,M];exact ja _ _
  rw[ev]at h;refine LV (PY d rfl ?_ (Nh _) (by rw[e7,l];exact RK K));simp only[bne_self_eq_false,Nf,if_false];have e8:({s with heap:=(((s.heap.update a (MN λx=>#[])).push (gv "tuple" vs.toArray 0)).push (gv "list" #[] 0)).update a (MN λx=>Array.map (λx=>x.snd) (F7 (SortSt.mk' general' (vs.toArray.zip vs.toArray) #[] 7 none)))}:d7) = {s with heap:=sortedHeap s.heap a vs vs.toArray}:=by rw[e7];rfl
  refine Mg ?_;rw[<- e8]at h;exact h
 ·rw[UY F,UY F]
  have n2:2<=vs.length:=by rw[<- l];omega
  have keep : ∀b o,s.heap.get? b=bX o->o.cls = .type "tuple"->(((s.heap.update a (MN λ_=>#[])).push (gv "tuple" vs.toArray 0)).push (gv "list" #[] 0)).get? b=bX o:=λb o e hc=>by
   have b5:b≠a:=λz=>by rw[z,L]at e;cases e;exact absurd hc (by show ¬(OA "list" = OA "tuple");decide)
   exact LY _<|LY _<|(Ss _ _ _ _ b5).trans e
  generalize hg:((s.heap.update a (MN λ_=>#[])).push (gv "tuple" vs.toArray 0)).push (gv "list" #[] 0)=g at d keep ⊢;have N : ∀i (J:i<vs.length),A3 g vs[i] (ps.getD i (0,0)).1 (ps.getD i (0,0)).2:=λi J=>(hT i J).keep keep;obtain⟨fs,f1,f2,f3⟩:=fQ (ks:=λi=>(ps.getD i (0,0)).1) λi J=>(N i J).one;refine LV (kat_kind (T:=OA "int") (s:={s with heap:=g}) f1 ⋯ (λv hv=>?_) ⋯ ?_)
  ·obtain⟨k,t,rfl⟩:=f3 v hv
   exact PySem.W.Looks.of_pure rfl
  have ep:(ka (λi j=>vQ (ps.getD i (0,0))<|ps.getD j (0,0))<|kas_sort vs.length).toList=j7 ps:=by unfold j7;rw[UY ⋯,M]
  refine LV (Ot (kat_run (E:=E) (ks:=vs) (Q:=λB r=>∃p:Array Nat,F7 B=p.map (PySem.W.kas_item<|vs.toArray.zip vs.toArray)/\failedOf B=none/\p.toList=j7 ps/\r = {s with heap:=g})
   (G:=λp r=>p.toList=j7 ps/\r = {s with heap:=g})
   rfl n2 an (λp B r a1 a2 a3 R=>⟨p,a2,a3,R.1,R.2⟩) (VQ (lt:=λi j=>vQ (ps.getD i (0,0))<|ps.getD j (0,0)) (λi j C J hj I=>?_) (JT ⋯) ⟨ep,rfl⟩)) ?_ λ_ _ e=>e)
  ·show wpAny _ _ (keyLt' _ (vs.getD i MS)<|vs.getD j MS) C _ _
   rw[show vs.getD i MS=vs[i]by simp[J],show vs.getD j MS=vs[j]by simp[hj]];obtain⟨x,ox,xs,m,t,u,f,e2,e3,e4,Z⟩:=N i J;obtain⟨y,oy,ys,m',t',u',d1,d2,d3,d4,X⟩:=N j hj;rw[f,d1];refine kat_lt e2 e4 d2 d4 ?_;have bn:xs.size=2:=by rw[<- NG,Z];rfl
   have br:ys.size=2:=by rw[<- NG,X];rfl
   rw[Z,X,bn,br,OQ,OQ];unfold vQ at I;generalize ps.getD i (0,0)=U at I ⊢;generalize ps.getD j (0,0)=Y at I ⊢;refine kat_cons<|Ph U.1 t Y.1 t' _ _ _ _ ?_;refine kat_go (λO=>?_) λO=>?_
   ·have O:U.1=Y.1:=by simpa using O
    rw[UJ O]at I;refine kat_yes<|kat_cons<|Ph U.2 u Y.2 u' _ _ _ _<|kat_go (λH=>?_) λH=>?_
    ·have H:U.2=Y.2:=by simpa using H
     refine kat_yes<|kat_nil ?_;rw[show decide (U.2<Y.2)=dn by rw[H];simp]at I;exact I
    ·exact kat_no<|kat_one _ _<|lt_int I
   ·have O:U.1≠Y.1:=by simpa using O
    rw[UY O]at I;exact kat_no<|oneLt_int I
  rintro⟨⟨⟩,B⟩ r ⟨p,bt,hf,hp,rfl⟩;dsimp only;have c0:=kat_snds rfl bt;have c1:((j7 ps).map λi=>vs.getD i MS).length=vs.length:=by rw[Mq,(jP ps).length_eq,MQ,M]
  rw[c0,hp];refine LV<|SV d rfl ?_;refine LV<|PY d rfl ?_ (Nh _) (by rw[Mi];show((j7 ps).map λi=>vs.getD i MS).length<=_;rw[c1];exact RK K);rw[hf];simp only[bne_self_eq_false,Nf,if_false];subst hg;exact Mg h
theorem K7{l:dv}{vs:List dy}{ps:List (Int×Int)}{Q:EQ}(U:s.heap.IsList l vs.toArray)(Y:ps.length=vs.length)(C:vs.length<64)
 (J : ∀i (z:i<vs.length),A3 s.heap vs[i] (ps.getD i (0,0)).1 (ps.getD i (0,0)).2)
 (h:Q (.ref<|s.heap.objs.size+1) {s with heap:=sortedAll s.heap vs (OT<|(j7 ps).map λi=>vs.getD i MS)}) :
 wpAny (eg prog w) A (call (.builtin "sorted") [.ref l]) Q E s:=by
 have d:vs.length<=fh:=by rw[Pf];omega
 refine Calls.call_function_entry kind_sorted plain_sorted entry_sorted (args_sorted1 _) ?_;unfold m8.«sorted»;refine LV (m:=checkCount "sorted" 1 1 _) (Mg ?_);refine LV (collect_list U ?_ d);refine LV (Ti ?_ d);have a:((s.heap.push (gv "list" #[] 0)).update s.heap.objs.size (MN (· ++ vs.toArray))).objs.size=s.heap.objs.size+1:=by rw[OL,Ts]
 have O:(((s.heap.push (gv "list" #[] 0)).update s.heap.objs.size (MN (· ++ vs.toArray))).push (gv "list" vs.toArray 0)).get? (s.heap.objs.size+1)=bX (gv "list" vs.toArray 0):=by rw[<- a];exact Ml _ rfl
 have keep : ∀b o,s.heap.get? b=bX o->(((s.heap.push (gv "list" #[] 0)).update s.heap.objs.size (MN (· ++ vs.toArray))).push (gv "list" vs.toArray 0)).get? b=bX o:=λb o q=>by have I:b<s.heap.objs.size:=Mk q;rw[Pc _ _ _ (by rw[a];exact Mr (Nl I)),Ss _ _ _ _ (Mr I),Pc _ _ _ (Mr I)];exact q
 show wpAny _ _ _ _ _ {s with heap:=((s.heap.push (gv "list" #[] 0)).update s.heap.objs.size (MN (· ++ vs.toArray))).push (gv "list" vs.toArray 0)};rw[a];refine LV (NT (Ny slot_list_sort ⟨_,O,rfl⟩ entry_list_sort (JJ (s:={s with heap:=((s.heap.push (gv "list" #[] 0)).update s.heap.objs.size (MN (· ++ vs.toArray))).push (gv "list" vs.toArray 0)}) O Y C (λi z=>(J i z).keep λb o e _=>keep b o e) ⟨_,rfl,?_⟩) (args_list_sort _)));exact Mg ⟨_,rfl,h⟩
end
section
variable{X:Cx}
noncomputable def AR(K:LX):List V->Hp->VK->Prop:=λe H Q=>∃l b d,e=[.ref l]/\fA K H l b/\d.length=b.length/\b.length<64/\
 (∀i (f:i<b.length),∃a,b[i]=V.ref a/\g5 K H a [.int ((d:List (Int×Int)).getD i (0,0)).1,.int (d.getD i (0,0)).2])/\∀p,H p=none->Q (.ref p) (upd H p<|.lst<|(j7 d).map λi=>b.getD i .el)
theorem YW:Zz X (.builtin "sorted") (AR X.K):=by
 intro A s σ H vs us Q I rv h;obtain⟨l,g,ps,rfl,P,w,b5,G,B⟩:=h;obtain⟨u,rfl,ru⟩:=yN rv;cases ru;obtain⟨d,r,W,S⟩:=I.list P;have b6:=r.length;refine K7 (ps:=ps) W.isList ⋯ ⋯ (λi f=>?_) ?_
 ·obtain⟨a,E,F⟩:=G i ⋯
  obtain⟨v,O,g2⟩:=r.get (i:=i) (x:=V.ref a) (by rw[LZ ⋯,E]);have R:d[i]=v:=by rw[LZ f]at O;exact Nd O
  rw[R];cases g2;obtain⟨C,r2,⟨o,N,J,n,L⟩,_⟩:=I.tuple F;obtain⟨U,Y,rfl,m,p⟩ : ∃U Y,C=U::Y/\RelV (.int (ps.getD i (0,0)).1) U/\eF [.int (ps.getD i (0,0)).2] Y:=by
   cases r2 with
   | cons m p=>exact⟨_,_,rfl,m,p⟩
  obtain⟨v2,rfl,Z⟩:=yN p;obtain⟨t,rfl⟩:=m;obtain⟨u,rfl⟩:=Z;exact⟨a,o,_,n,t,u,rfl,N,J,L,rfl⟩
 ·obtain⟨e,z⟩:=sortedAll_at s.heap d (OT<|(j7 ps).map λi=>d.getD i MS)
  have y:((j7 ps).map λi=>g.getD i V.el).length=g.length:=by rw[Mq,(jP ps).length_eq,MQ,w]
  refine⟨.ref<|s.heap.objs.size+1,_,I.laid (t':=s.toks) (o:= .lst ((j7 ps).map λi=>g.getD i .el)) (λb o q=>sortedAll_old q) (Rb _) ?_,rfl,B _<|I.fy.fresh<|Rb _⟩;refine⟨by rw[y];exact S,(j7 ps).map λi=>d.getD i MS,e,?_,z⟩;have k : ∀i∈j7 ps,i<g.length:=λi f=>by have:=(jP ps).mem_iff.mp f;rw[w]at this;exact Ma.mp this
  generalize j7 ps=o at k;clear y z
  induction o with
  | nil=>exact .nil
  | cons i o T=>
   have f:=k i Mn;refine .cons ?_ (T λj M=>k j<|Mm _ M);obtain⟨v,O,g2⟩:=r.get (i:=i) (x:=g[i])<|LZ f;show RelV (g.getD i V.el) (d.getD i MS);rw[Mc,Mc,LZ f,O];exact g2
theorem WJ : ∀{ds:List D} {ps:List (Int×Int)},ZE ds=bX ps->∀(i:Nat) d,ds[i]? = bX d->d = .tup [.int (ps.getD i (0,0)).1,.int (ps.getD i (0,0)).2]
 | [],ps,h,i,d,hd=>by simp at hd
 | c::ds,ps,h,i,d,hd=>by
  obtain⟨k,a,h⟩:=zg h;obtain⟨l,I,h⟩:=zG h;subst h;cases i with
  | zero=>
   simp at hd;subst hd;unfold mz at a;split at a
   ·cases a;rfl
   ·cases a
  | succ i=>simpa using WJ I i d (by simpa using hd)
theorem Jx{K:LX}{H:Hp}{ds:List D}{xs:List V}(r:d5 K H ds xs) : ∀(o:List Nat),(∀i∈o,i<xs.length)->d5 K H (o.map λi=>ds.getD i .el) (o.map λi=>xs.getD i .el)
 | [],_=>d5.nil
 | i::o,h=>by have a:=h i Mn;obtain⟨d,b,I⟩:=r.DR<|LZ a;refine d5.cons ?_ (Jx r o λj O=>h j<|Mm _ O);show Rep K H (ds.getD i .el) (xs.getD i .el);rw[Mc,Mc,LZ a,b];exact I
theorem lS{J:g9}{N L:List Str}{k:Nat}{e:eh}{pos p:gB}{C:CO (Sk×List D)}(h:SX X J N L k)(c:vD J "sorted" = cz)(z:X.mg "sorted" = none)(S:PQ X e C)(hs:ft [e] X.env=[(dn,ej e X.env)]:=by rfl) :
 PO X (.Call (.Name "sorted" p) [e] [] pos) (dm C):=
 qr (kM YW (h.gl c).1 z ⋯ (jr S qu hs) ⋯ ⋯ hs rfl) λσ H Q P=>by
  obtain⟨s,γ,t,rc,I,q⟩:=P;obtain⟨⟨W,g⟩,u,I⟩:=zg I;cases W with
  | T=>cases I
  | L=>
   have I:cY g=bX t:=I;unfold cY at I;obtain⟨o,U,I⟩:=zg I;by_cases Y:g.length<64
   ·rw[UJ Y]at I
    cases I;have ae:=Ym U;refine⟨s,γ,.L,g,rc,u,λa xs H' f ext B h2 r=>?_⟩;have ak:=r.length;refine⟨a,xs,o,rfl,B,by omega,by omega,λi j=>?_,λl O=>?_⟩
    ·obtain⟨d,R,Z⟩:=r.DR (LZ j)
     have A:=WJ U i d R;subst A;obtain⟨b,zs,x,n,E⟩:=yn Z;refine⟨b,x,?_⟩;obtain⟨y,yr,w,F,G⟩:=E.l7;obtain⟨y2,ap,m,K,M⟩:=G.l7;rw[M.n5]at m;rw[w,m,jq F,jq K]at n;exact m1 ext.sub n
    ·refine q l _ _ f (ext.trans<|Ext.hide ext.sub O _) (xj ext.s1 O) (jo ext.sub O) zN ?_
     refine Jx r _ λi j=>?_;have:=(jP o).mem_iff.mp j;have:=Ma.mp this;omega
   ·rw[UY Y]at I;cases I
end
section
variable{X:Cx}{a b c:eh}{pos:gB}{fa fb fc:CO D}
theorem dX{U Y:CmpOp}{r C:R2}{F G:D->D->Option D}(ho:ij X (nf U) r)(J:ij X (nf Y) C)(s1:m3 X.K r F)(s2:m3 X.K C G)(ha:PV X a fa)(hb:PV X b fb)(hc:PV X c fc)
 (hm:Tz [U,Y] [b,c]=dn:=by with_unfolding_all rfl):mm X (.Compare a [U,Y] [b,c] pos) (sB<|ZC F G fa fb fc):=
 Vn (lJ ho J ha hb hc hm) λσ H Q hZ=>by
  obtain⟨i,h,kq,rc,A,q0⟩:=hZ;obtain⟨d,I,Z⟩:=zg A;have q : ∀v f e,Ext i H e f->Rep X.K e d v->∃k,v = .bl k/\Q k f:=λv f e x o=>by rw[Jf Z]at o;exact⟨kq,o,q0 f e x⟩
  obtain⟨x,N,I⟩:=zg I;obtain⟨y,P,I⟩:=zg I;obtain⟨k,R,I⟩:=zg I;obtain⟨l,S,m⟩:=zg R;refine⟨i,h,x,rc,N,λv1 H1 B x1 r1=>⟨B,h,y,rc.ext x1,P,λp s E O n=>s1 E s v1 p x y l _ O.sub (r1.mono O.s0) n S λv3 t j x3 r3=>?_⟩⟩;cases l with
  | bl k'=>
   cases m;refine⟨k,show v3 = .bl k from r3,?_⟩;cases k with
   | true=>
    rw[UJ rfl];rw[UJ rfl]at I;obtain⟨z,T,W⟩:=zg I;exact⟨j,h,z,((rc.ext x1).ext O).ext x3,T,λv4 u L g r4=>s2 L u p v4 y z d _ g.sub ((n.mono x3.s0).mono g.s0) r4 W λv5 w M x5 r5=>q v5 w M (((x1.trans O).trans x3).trans (g.trans x5)) r5⟩
   | false=>
    rw[UY ⋯];rw[UY ⋯]at I;cases I;exact q _ t j ((x1.trans O).trans x3) rfl
  | _=>cases m
end
end DL
namespace DL
open PySem PySem.Spec PyProof.Rows L2
theorem Jk{H:Hp}{x:dv}{o z:HO}:upd (upd H x o) x z=upd H x z:=by
 funext b;by_cases h:b=x
 ·subst h;rw[zN,zN]
 ·rw[zL h,zL h,zL h]
section
variable{X:Cx}{pins:UQ}{σ:St}{H H0:Hp}{s:d7}
theorem ny{ta:TA}{J O:eh}{p pos:gB}{Q:EQ}{xs ys:List V}(I:Inv X pins σ H s)(hg:Gl X "zip")(hm:X.mg "zip" = none)(ha:PA X [J,O] ta)
 (h:ta σ H λvs C=>∃k1 k2 a b,vs=[.ref a,.ref b]/\(∃xs,i5 k1 X.K C a xs)/\(∃ys,i5 k2 X.K C b ys)/\
   ∀L z TI TO M S,Inv X pins σ C L->wa z TI TO M S a b->C2 k1 k2 z TI TO M S a b 0 L.heap->p5 L.heap z TI TO .none->(∀c ∈ [z,TI,TO,M,S],vV X pins C c)->Q (.ref z) L)
 (hs:ft [J,O] X.env=[(dn,ej J X.env),(dn,ej O X.env)]:=by rfl) (Z:ft [O] X.env=[(dn,ej O X.env)]:=by rfl) :
 wpAny (eg X.prog X.w) X.A (ej (.Call (.Name "zip" p) [J,O] [] pos) X.env) Q X.xe s:=by
 refine DF (kO I hg hm PyProof.Rows.boot_zip<|Na (eM (ha pos pins s σ H _ I h) λus d T=>?_) (by rw[hs,Z])<|by rw[Z];rfl);obtain⟨vs,C,U,r1,q1⟩:=T;obtain⟨k1,k2,a,b,e,⟨xs,B⟩,⟨ys,E⟩,q⟩:=q1;subst e;obtain⟨w1,w2,R,G,as⟩:=iw r1;subst R;cases G;cases as;obtain⟨N,be,l,z1⟩:=U.sq B;obtain⟨P,bg,r,z2⟩:=U.sq E;have W:=l.lt;have lb:=r.lt;refine callType_new F.called_zip ⋯ (F.typeCall_zip_2 _ _) (F.newCall_zip_2 _ _) (λobj=>F.args_object_init_3 obj _ _) F.entry_zip_new (Wb k1 k2 a b N.toArray P.toArray) ⟨l,r,?_⟩;have keep : ∀c o,d.heap.get? c=bX o->(yT k1 k2 d.heap a b).get? c=bX o:=λc o e=>
  LY _ (LY _<|LY _<|LY _<|LY _ e)
 have t:(MG d.heap<|iS k1 a).objs.size=d.heap.objs.size+1:=MV ..;have u:(MG (MG d.heap<|iS k1 a)<|iS k2 b).objs.size=d.heap.objs.size+2:=by rw[MV,t]
 have x:(MG (MG (MG d.heap<|iS k1 a)<|iS k2 b)<|kz (.ref d.heap.objs.size)<|.ref<|d.heap.objs.size+1).objs.size=d.heap.objs.size+3:=by rw[MV,u]
 have y4:(MG (MG (MG (MG d.heap<|iS k1 a)<|iS k2 b)<|kz (.ref d.heap.objs.size)<|.ref<|d.heap.objs.size+1)<|kz .none .none).objs.size=d.heap.objs.size+4:=by rw[MV,x]
 have g0:ix k1 (yT k1 k2 d.heap a b) d.heap.objs.size a 0:=(JN k1 d.heap a).at λo e=>LY _<|LY _<|LY _<|LY _ e;have g1:ix k2 (yT k1 k2 d.heap a b) (d.heap.objs.size+1) b 0:=by have q:=JN k2 (MG d.heap<|iS k1 a) b;rw[t]at q;exact q.at λo e=>LY _<|LY _<|LY _ e
 have g2:k0 (yT k1 k2 d.heap a b) (d.heap.objs.size+2) (.ref d.heap.objs.size) (.ref<|d.heap.objs.size+1):=by have q:_=bX (kz (.ref d.heap.objs.size)<|.ref<|d.heap.objs.size+1):=Ml (MG (MG d.heap<|iS k1 a)<|iS k2 b) (o:=kz (.ref d.heap.objs.size)<|.ref<|d.heap.objs.size+1) rfl;rw[u]at q;exact LY _<|LY _ q
 have g3:k0 (yT k1 k2 d.heap a b) (d.heap.objs.size+3) .none .none:=by have q:_=bX (kz .none .none):=Ml (MG (MG (MG d.heap<|iS k1 a)<|iS k2 b)<|kz (.ref d.heap.objs.size)<|.ref<|d.heap.objs.size+1) (o:=kz .none .none) rfl;rw[x]at q;exact LY _ q
 have i:p5 (yT k1 k2 d.heap a b) (d.heap.objs.size+4) (d.heap.objs.size+2) (d.heap.objs.size+3) .none:=by have q:=Ml (MG (MG (MG (MG d.heap<|iS k1 a)<|iS k2 b)<|kz (.ref d.heap.objs.size)<|.ref<|d.heap.objs.size+1)<|kz .none .none) (o:=Ea (d.heap.objs.size+2)<|d.heap.objs.size+3) rfl;rw[y4]at q;exact q
 refine⟨⟨_,i,rfl⟩,?_⟩;have y:Inv X pins σ C {d with heap:=yT k1 k2 d.heap a b,toks:=d.toks}:=U.kept keep;have Y : ∀m:Nat,a≠d.heap.objs.size+m:=λm=>Mr<|MA W<|ML _ m;have g : ∀m:Nat,b≠d.heap.objs.size+m:=λm=>Mr<|MA lb<|ML _ m;have f : ∀m n:Nat,m≠n->(d.heap.objs.size+m:Nat)≠d.heap.objs.size+n:=λm n h=>by omega
 have D:wa (d.heap.objs.size+4) (d.heap.objs.size+2) (d.heap.objs.size+3) d.heap.objs.size (d.heap.objs.size+1) a b:=
  ⟨f 2 4 ⋯,f 3 4 ⋯,f 0 4 ⋯,f 1 4 ⋯,f 2 3 ⋯,f 2 0 ⋯,f 2 1 ⋯,f 3 0 ⋯,f 3 1 ⋯,f 0 1 ⋯,
   Y 4,Y 3,Y 0,Y 1,g 4,g 3,g 0,g 1⟩
 refine q _ _ _ _ _ _ y D ⟨.inl i,g2,⟨_,_,g3⟩,g0,g1⟩ i λc k=>?_;have j:d.heap.objs.size<=c:=by
  simp only[Mj,Ms,or_false]at k;rcases k with rfl | rfl | rfl | rfl | rfl
  ·exact ML _ _
  ·exact ML _ _
  ·exact ML _ _
  ·exact Mf _
  ·exact ML _ _
 exact U.A8 j<|U.fy.fresh j
theorem JV{o:HO}{c p:dv}(h:vV X pins H c)(I:c≠p):vV X pins (upd H p o) c:=⟨by rw[zL I];exact h.1,h.2⟩
end
theorem Xt : ∀{ds:List D} {z:List Int},QR ds=bX z->YE ds=bX (z.map ml)
 | [],z,e=>by cases e;rfl
 | d::ds,z,e=>by
  cases d with
  | int i=>
   obtain⟨l,a,I⟩:=zG e;subst I;show((Cd<|.int i).bind λk=>(YE ds).map λr=>k::r)=_;rw[Xt a];rfl
  | _=>cases e
theorem Xg : ∀(ps acc:List (Key×V)),((acc++ps).map (·.1)).Nodup->lE acc ps=acc++ps
 | [],acc,_=>by simp[lE]
 | (k,v)::ps,acc,h=>by
  have d : ¬((acc.any λI=>decide<|I.1=k)=cz):=λq=>by obtain⟨I,a,b⟩:=Td.mp q;rw[Nb,MI]at h;have:=(List.nodup_append.mp h).2.2 I.1 (MM.mpr ⟨I,a,rfl⟩) k ⋯;exact this<|of_decide_eq_true b
  show lE (ck acc k v) ps=_;rw[show ck acc k v=acc++[(k,v)]by unfold ck;rw[UY d]];rw[Xg ps (acc++[(k,v)]) (by simpa using h)];simp
theorem Yv : ∀{z:List Int},z.Nodup->(z.map<|ml (β:=Str)).Nodup
 | [],_=>by simp
 | n::z,h=>by simp only[MI,NI,MM,ml.injEq,exists_eq_right]at h ⊢;exact⟨h.1,Yv h.2⟩
theorem Kk{K:LX}{H:Hp}{i:Int} : ∀{ks vs:List D} {z:List Key} {xs:List V},YE ks=bX z->z.length=xs.length->d5 K H vs xs->
 (∀d,W3 ks vs i=bX d->∃v,Wf (z.zip xs) (ml i)=bX v/\Rep K H d v)/\(W3 ks vs i=none->Wf (z.zip xs) (ml i)=none)
 | [],vs,z,xs,e,l,r=>by cases e;exact⟨(λd q=>by cases q),λ_=>rfl⟩
 | k::ks,[],z,xs,e,l,r=>by rw[r.n5]at l ⊢;rw[List.length_eq_zero_iff.mp l];exact⟨(λd q=>by cases q),λ_=>rfl⟩
 | k::ks,v::vs,z,xs,e,l,r=>by
  obtain⟨O,a,g⟩:=zg e;obtain⟨U,h,m⟩:=zG g;subst m;obtain⟨x,Y,rfl,o,p⟩:=r.l7;have f:=Kk (i:=i) h (by simpa using l) p;have step:O≠ml i->Wf ((O::U).zip (x::Y)) (ml i)=Wf (U.zip Y) (ml i):=λb=>by rw[OQ];simp[Wf,OE,b]
  cases k with
  | int j=>
   cases a;by_cases I:j=i
   ·subst I
    refine⟨λd q=>⟨x,?_,?_⟩,λq=>?_⟩
    ·rw[OQ];exact XD rfl
    ·have:v=d:=by simpa[W3]using q
     exact this ▸ o
    ·simp[W3]at q
   ·have b:(ml j:Key)≠ml i:=λq=>I (ml.inj q)
    rw[step b];have n:W3 (.int j::ks) (v::vs) i=W3 ks vs i:=by simp[W3,I]
    rw[n];exact f
  | str y=>
   cases a;rw[step (λq=>by cases q)];exact f
  | _=>cases a
noncomputable def Eh(f:CO D)(γ:Ctx):Option (List D):=((f γ).bind i0).bind λn=>if inR n=cz/\n.toNat<=lim then bX (xf 0 n.toNat)else none
@[simp] def uQ:=@Eh.eq_1
noncomputable def rQ(i:Nat)(f:CO (List D)):CO (List D):=λb=>(jZ b[i]?).bind λd=>(f<|b.set i<|.val<|.lst d).bind λa=>if a.all VS=cz then bX a else none
theorem wx{K:LX}{H:Hp} : ∀{ds:List D} {xs:List V} (j:Nat),d5 K H ds xs->d5 K H (ds.eraseIdx j) (xs.eraseIdx j)
 | [],xs,j,r=>by rw[r.n5];exact d5.nil
 | d::ds,xs,0,r=>by obtain⟨x,b,e,_,a⟩:=r.l7;subst e;exact a
 | d::ds,xs,j+1,r=>by obtain⟨x,b,e,I,a⟩:=r.l7;subst e;exact d5.cons I<|wx j a
end DL
namespace L2
open PySem PySem.Spec PyProof.Rows
theorem QW : ∀{ks:List Int} {its:List dy},eF (ks.map V.int) its->∀(i:Nat) (v:dy),its[i]? = bX v->∃k t,ks[i]? = bX k/\v = .int k t
 | [],_,.nil,i,v,h=>by cases h
 | k::ks,_,.cons h r,0,v,hv=>by obtain⟨t,e⟩:=h;cases hv;exact⟨k,t,rfl,e⟩
 | k::ks,_,.cons h r,i+1,v,hv=>QW r i v hv
end L2
namespace DL
open PySem PySem.Spec PyProof.Rows L2
section
variable{X:Cx}{sc:g9}{N L:List Str}{k:Nat}{a:eh}{f:CO D}
theorem YR{K:LX}{H H':Hp} : ∀{ds:List D} {xs:List V},d5 K H ds xs->ds.all VS=cz->d5 K H' ds xs
 | [],xs,r,_=>by rw[r.n5];exact d5.nil
 | d::ds,xs,r,h=>by obtain⟨x,b,e,I,a⟩:=r.l7;rw[SJ,Mt]at h;subst e;exact d5.cons (nt I h.1)<|YR a h.2
theorem eB(i j:Nat){st:i3}{f:CO (List D)}(h:PS X st (Wn (tO X.K f)<|yP i)):kr X st (jy i<|jU<|rQ j f):=ky h λD J H u=>by
 obtain⟨E0,E,y,G,C,O,U,l⟩:=u;obtain⟨d,e,U⟩:=zG U;obtain⟨A,I,e⟩:=zG e;subst U e;obtain⟨B,o,I⟩:=zg I;obtain⟨m,p,I⟩:=zg I;by_cases Y:m.all VS=cz
 ·rw[UJ Y]at I;cases I
  obtain⟨b,g,n⟩:=O.rc.lend<|qW o;exact⟨b,_,_,n,p,λa F w z x s k t r=>l _ _ _<|(O.step<|(nv g x).show s (xj (g.trans x.s0) k) t O.rc.sub).u7 (Zk (fA.of zN)<|(YR r Y).mono (jc (xj (g.trans x.s0) k) _))⟩
 ·rw[UY Y]at I;cases I
end
noncomputable def Fb(ds es fs:List D):List D:=(ds.zip<|es.zip fs).map λp=>D.tup [p.1,p.2.1,p.2.2]
noncomputable def La(f g h:CO D)(γ:Ctx):Option (List D):=((f γ).bind jx).bind λm=>((g γ).bind jx).bind λn=>((h γ).bind jx).map λo=>Fb m.2 n.2 o.2
@[simp] def GU:=@La.eq_1
noncomputable def du(f g:CO D)(γ:Ctx):Option (List D):=((f γ).bind jx).bind λm=>((g γ).bind jx).bind λn=>if m.2.length<=lim then bX (vI m.2 n.2)else none
@[simp] def nP:=@du.eq_1
section
variable{prog:h6}{w:g8}{A:j1}{E:EQ}{s:d7}
theorem pj{k1 k2:Sk}{z TI TO C J Y L:dv}{n:Nat}{xs ys:Array dy}{x y:dy}{Q:Option dy->d7->Prop}(D:wa z TI TO C J Y L)
 (Z:C2 k1 k2 z TI TO C J Y L n s.heap) (M:lr k1 s.heap Y xs) (S:lr k2 s.heap L ys) (hx:xs[n]? = bX x) (hy:ys[n]? = bX y)
 (hQ : ∀h',C2 k1 k2 z TI TO C J Y L (n+1) h'->k0 h' s.heap.objs.size x y->(∀c o,c ∉ [z,TI,TO,C,J]->s.heap.get? c=bX o->h'.get? c=bX o)->Q (bX (.ref s.heap.objs.size)) {s with heap:=h'}) :
 wpAny (eg prog w) A (u6<|.ref z) Q E s:=by
 obtain⟨a,d,⟨c,e,m⟩,p,r⟩:=Z;unfold u6;rcases a with a | ⟨al,b,oa,a,ha⟩
 ·have U:s.TypeIs (.ref z) "zip":=⟨_,a,rfl⟩
  refine LV (OP (Nc (name:=MT "__next__") U NS (Ny NS U Pu
   (KI D a d m p r M S hx hy λg f F h i j G O=>Mg ?_) (Pg _))))
  refine hQ g ⟨.inr ⟨s.heap.objs.size,dn,_,f,j⟩,O _ _ D.TIz D.TITO D.TIi1 D.TIi2 d,⟨_,_,F⟩,h,i⟩ j λc o I q=>?_;simp only[Mj,Ms,or_false,not_or]at I;exact O c o I.1 I.2.2.1 I.2.2.2.1 I.2.2.2.2 q
 ·have U:s.TypeIs (.ref z) "zip":=⟨_,a,rfl⟩
  refine LV (OP (Nc (name:=MT "__next__") U NS (Ny NS U Pu
   (cv D a ha d p r M S hx hy λg f h i j G O=>Mg ?_) (Pg _))))
  have k : ∃l,g.get? al=bX l:=by
   by_cases t:al=z
   ·exact⟨_,(congrArg g.get? t).trans f⟩
   ·by_cases u:al=C
    ·obtain⟨o,e,_⟩:=h.obj;exact⟨o,u ▸ e⟩
    ·by_cases B:al=J
     ·obtain⟨o,e,_⟩:=i.obj;exact⟨o,B ▸ e⟩
     ·exact⟨oa,O al oa t u B ha⟩
  obtain⟨l,k⟩:=k;refine hQ g ⟨.inr ⟨al,cz,l,f,k⟩,O _ _ D.TIz D.TIi1 D.TIi2 d,⟨_,_,O _ _ D.TOz D.TOi1 D.TOi2 m⟩,h,i⟩ j λc o I q=>?_;simp only[Mj,Ms,or_false,not_or]at I;exact O c o I.1 I.2.2.2.1 I.2.2.2.2 q
end
theorem C2.keep{k1 k2:Sk}{z TI TO C J a b:dv}{n:Nat}{h h':e9}(Z:C2 k1 k2 z TI TO C J a b n h)(k : ∀c ∈ [z,TI,TO,C,J],∀o,h.get? c=bX o->h'.get? c=bX o)(e : ∀c o,h.get? c=bX o->∃L,h'.get? c=bX L):C2 k1 k2 z TI TO C J a b n h':=by
 obtain⟨I,O,⟨c,d,U⟩,Y,g⟩:=Z;refine⟨?_,k TI ⋯ _ O,⟨c,d,k TO ⋯ _ U⟩,Y.at λo q=>k C ⋯ o q,g.at λo q=>k J ⋯ o q⟩;rcases I with I | ⟨al,bb,oa,I,a3⟩
 ·exact .inl<|k z ⋯ _ I
 ·obtain⟨f,i⟩:=e al oa a3
  exact .inr ⟨al,bb,f,k z ⋯ _ I,i⟩
theorem dW{h:e9}{o z:l6}{c:dv}(I:c≠h.objs.size)(q:(h.push o).get? c=bX z):h.get? c=bX z:=by unfold Heap.get? MG at q;unfold Heap.get?;simp only[Array.getElem?_push,UY I]at q;exact q
theorem nu{H00 Hb H0 H:Hp}{S p:dv}{o C:HO}(E:Ext H00 Hb H0 H)(O:Hb S=none)(U:H0 S=none)(I:H p=none)(Y:p≠S):Ext H00 Hb (upd H0 p o) (upd (upd H p o) S C):=by
 have e:H0 p=none:=jo E.sub I;refine⟨E.s0.trans<|jc e o,λb u q=>?_,λb u q=>?_,λb a d=>?_⟩
 ·have a:=E.s1 b u q
  rw[zL (λz=>by rw[z,O]at q;cases q),zL (λz=>by rw[z,I]at a;cases a)];exact a
 ·by_cases z:b=p
  ·subst z
   rw[zN]at q;rw[zL Y,zN];exact q
  ·rw[zL z]at q
   rw[zL (λy=>by rw[y,U]at q;cases q),zL z];exact E.sub b u q
 ·have:b≠p:=λz=>by
   cases q:Hb b with
   | none=>exact d q
   | some u=>have:=E.s1 b u q;rw[z,I]at this;cases this
  rw[zL this];exact E.new b a d
section
variable{X:Cx}{pins:UQ}{σ:St}{A:j1}{R:Result->d7->Prop}{H00 Hb:Hp}{k1 k2:Sk}{z TI TO i1 i2 a b S:dv}{xs ys:List V}{ds es:List D}{res:dy}
theorem dF{K:LX}{H:Hp}{d e:D}{x y:V}{p:dv}(C:Rep K H d x)(J:Rep K H e y)(I:H p=bX (.tup [x,y])):Rep K H (.tup [d,e]) (.ref p):=
 show ∃a xs,V.ref p = .ref a/\g5 K H a xs/\d5 K H [d,e] xs from⟨p,[x,y],rfl,.inl<|.inl I,.cons C<|.cons J .nil⟩
theorem fH(hh:A.handled=none)(DA:wa z TI TO i1 i2 a b)(hS:Hb S=none) : ∀(m n:Nat) (s:d7) (H H0:Hp) (acc:List D) (vs:List V),n+m=(ds.zip es).length->
 Inv X pins σ H s->Ext H00 Hb H0 H->H0 S=none->i5 k1 X.K H0 a xs->i5 k2 X.K H0 b ys->d5 X.K H0 ds xs->d5 X.K H0 es ys->d5 X.K H0 acc vs->(∀c ∈ [z,TI,TO,i1,i2],vV X pins H c)->C2 k1 k2 z TI TO i1 i2 a b n s.heap->H S=bX (.lst vs)->vs.length+m<=fh->
 (∀L H' C J,Inv X pins σ H' L->Ext H00 Hb C H'->C S=none->H' S=bX (.lst J)->d5 X.K C (acc++(vI ds es).drop n) J->R (.ok<|.ret res) L)->
 codeAny (eg X.prog X.w) A (.builtin "list.extend.loop" ⟨[.ref S,.ref z,res],[]⟩) R s:=by
 intro m
 induction m with
 | zero=>
  intro n s H H0 acc vs Q I E j t u Y i ra B Z g hz hR;obtain⟨b6,l,T,z1⟩:=I.sq<|vJ E.sub t;obtain⟨b8,p,W,z2⟩:=I.sq<|vJ E.sub u;have l1:=l.length;have l2:=p.length;have l3:=Y.length;have l4:=i.length;simp only[List.length_zip,Si]at Q;refine Sy F.entry_extend_loop ?_;rw[Around.under_plainId Rx _];show wpAny _ A.in1 (u6 (.ref z) >>= _) _ _ s;refine LV<|uT (s:=s) hh DA Z T W (by rw[Q];rcases Nat.le_total ds.length es.length with q | q;left;simp;omega;right;simp;omega) λh' k=>?_;refine Mg<|hR _ H H0 vs (I.zc (t':=s.toks) (fp:=[z,TI,TO,i1,i2]) k B) E j g ?_;rw[RV (by unfold vI;simp;omega),OG];exact ra
 | succ m ih=>
  intro n s H H0 acc vs Q I E j t u Y i ra B Z g hz hR;obtain⟨b6,l,T,z1⟩:=I.sq<|vJ E.sub t;obtain⟨b8,p,W,z2⟩:=I.sq<|vJ E.sub u;have l1:=l.length;have l2:=p.length;have l3:=Y.length;have l4:=i.length;have ak:n<(ds.zip es).length:=by omega
  have bf:=ak;simp only[List.length_zip]at bf;have hk:ds[n]? = bX ds[n]:=LZ ⋯;have hy:es[n]? = bX es[n]:=LZ ⋯;obtain⟨x,ex,rx⟩:=Y.get hk;obtain⟨y,ey,ry⟩:=i.get hy;obtain⟨u1,br,bt⟩:=l.get ex;obtain⟨u2,bv,bx⟩:=p.get ey;have r:H s.heap.objs.size=none:=I.fresh;have G:s.heap.objs.size≠S:=λq=>by rw[q,g]at r;cases r
  refine Sy F.entry_extend_loop ?_;rw[Around.under_plainId Rx _];show wpAny _ A.in1 (u6 (.ref z) >>= _) _ _ s;refine LV (pj (s:=s) DA Z T W (x:=u1) (y:=u2) (by simpa using br) (by simpa using bv) λh' Z' hP k=>?_);have I1:Inv X pins σ (upd H s.heap.objs.size (.tup [x,y])) {s with heap:=s.heap.push {cls:= .type "tuple",data:= .seq #[u1,u2]}}:=
   I.laid (t':=s.toks) (λb o e=>LY _ e) (Mf _) (show i7 X.prog X.w _ _ _ (.tup [x,y])from⟨(show 2<=fh by decide),[u1,u2],.cons bt<|.cons bx .nil,u9.new _ _⟩)
  have np : ∀c ∈ [z,TI,TO,i1,i2],c≠s.heap.objs.size:=λc O q=>by
   obtain⟨d,c5,⟨c',e',c6⟩,g1,g2⟩:=Z;obtain⟨o1,M,_⟩:=g1.obj;obtain⟨o2,e2,_⟩:=g2.obj;have P : ∃o,s.heap.get? z=bX o:=by
    rcases d with d | ⟨_,_,_,d,_⟩
    ·exact⟨_,d⟩
    ·exact⟨_,d⟩
   obtain⟨oz,P⟩:=P;simp only[Mj,Ms,or_false]at O;rcases O with rfl | rfl | rfl | rfl | rfl
   ·exact absurd q<|Mr<|Mk P
   ·exact absurd q<|Mr<|Mk c5
   ·exact absurd q<|Mr<|Mk c6
   ·exact absurd q<|Mr<|Mk M
   ·exact absurd q<|Mr<|Mk e2
  have am : ∀c ∈ [z,TI,TO,i1,i2],vV X pins (upd H s.heap.objs.size<|.tup [x,y]) c:=λc O=>JV (B c O)<|np c O;have I2:=I1.zc (h':=h') (t':=s.toks) (fp:=[z,TI,TO,i1,i2]) (λc o O q=>by
   by_cases e:c=s.heap.objs.size
   ·rw[e]at q ⊢
    rw[Ml _ rfl]at q;cases q;exact hP
   ·exact k c o O<|dW e q) am
  have ap:upd H s.heap.objs.size (.tup [x,y]) S=bX (.lst vs):=by rw[zL (MD G)];exact g
  obtain⟨zz,h,c0,rl,ll,N⟩:=I2.De ap;show wpAny _ A.in1 (updateSeq S (·.push (.ref s.heap.objs.size)) >>= _) _ _ _;refine LV ?_;refine Su N rfl (Mg ⟨plainId_quiet Rx _,?_⟩) (by rw[Mi];omega) (by show(h.toArray.push _).size<=fh+1;rw[Array.size_push,Mi];omega);have nS : ∀c ∈ [z,TI,TO,i1,i2],c≠S:=λc O q=>by have:=(B c O).1;rw[q,g]at this;cases this
  have I3:=I2.Dy (t':=s.toks) (f:=(·.push (.ref s.heap.objs.size))) (its':=h++[.ref s.heap.objs.size]) (ys:=vs++[.ref s.heap.objs.size]) ap N ⋯ (rl.append<|.cons (show L2.RelV (.ref s.heap.objs.size) (.ref s.heap.objs.size)from rfl) .nil) (by rw[MW,Oe];omega);have E3:Ext H00 Hb (upd H0 s.heap.objs.size<|.tup [x,y]) (upd (upd H s.heap.objs.size<|.tup [x,y]) S<|.lst<|vs++[.ref s.heap.objs.size]):=nu E hS j r G;have U:gh H0 (upd H0 s.heap.objs.size<|.tup [x,y]):=jc (jo E.sub r) _;refine ih (n+1) _ _ _ (acc++[.tup [ds[n],es[n]]]) (vs++[.ref s.heap.objs.size]) ⋯ I3 E3 (by rw[zL (MD G)];exact j) (vJ U t) (vJ U u) (Y.mono U) (i.mono U) ((ra.mono U).append (.cons (dF (rx.mono U) (ry.mono U) zN) .nil)) (λc O=>JV (am c O)<|nS c O) ?_ zN (by rw[MW,Oe];omega) λL H' C J I4 E4 y1 y2 y3=>hR L H' C J I4 E4 y1 y2 ?_
  ·refine Z'.keep (λc O o q=>(MH _ _<|MD<|nS c O).trans q) λc o q=>?_
   by_cases e:c=S
   ·exact⟨_,by rw[e];exact Og _ N rfl⟩
   ·exact⟨o,(MH _ _<|MD e).trans q⟩
  ·have M:(vI ds es).drop n = .tup [ds[n],es[n]]::(vI ds es).drop (n+1):=by
    have:n<(vI ds es).length:=by unfold vI;simpa using ak
    rw[Od this];congr 1;simp[vI]
   rw[M];rw[SS]at y3;exact y3
theorem ay:E6 (.type "zip") "__len__" = pure none:=by rw[Sv,Rl];kernel_rfl
theorem Vf:E6 (.type "zip") "__length_hint__" = pure none:=by rw[Sv,Rl];kernel_rfl
theorem bP{Q:EQ}{H0 H:Hp}{s:d7}(I:Inv X pins σ H s)(hh:X.A.handled=none)(E:Ext H00 Hb H0 H)(L:wa z TI TO i1 i2 a b)
 (h1:i5 k1 X.K H0 a xs) (h2:i5 k2 X.K H0 b ys) (r1:d5 X.K H0 ds xs) (r2:d5 X.K H0 es ys) (Z:C2 k1 k2 z TI TO i1 i2 a b 0 s.heap) (hz:p5 s.heap z TI TO .none) (hf : ∀c ∈ [z,TI,TO,i1,i2],vV X pins H c) (hl:(ds.zip es).length<=fh)
 (hQ : ∀J H' C S Y,Hb S=none->Inv X pins σ H' J->Ext H00 Hb C H'->C S=none->H' S=bX (.lst Y)->d5 X.K C (vI ds es) Y->Q (.ref S) J):wpAny (eg X.prog X.w) X.A (call (.type "list") [.ref z]) Q X.xe s:=by
 have l:H s.heap.objs.size=none:=I.fresh;have r:Hb s.heap.objs.size=none:=xj E.s1 l;have as:H0 s.heap.objs.size=none:=jo E.sub l;refine callType_codes (Q₁:=λobj d=>obj = .ref s.heap.objs.size/\d = {s with heap:=s.heap.push {cls:= .type "list",data:= .seq #[]}}) F.called_list (F.typeCall_list_1 _) F.entry_list_init (code_list_new _ ⟨rfl,rfl⟩) ?_;rintro obj d ⟨rfl,rfl⟩;have y:Inv X pins σ (upd H s.heap.objs.size (.lst [])) {s with heap:=s.heap.push {cls:= .type "list",data:= .seq #[]}}:=I.TH (its:=[]) (ys:=[]) (t':=s.toks) .nil (Nh _);have u:Ext H00 Hb H0 (upd H s.heap.objs.size (.lst [])):=E.trans (Ext.hide E.sub l _);have U:(s.heap.push {cls:= .type "list",data:= .seq #[]}).get? s.heap.objs.size=bX {cls:= .type "list",data:= .seq #[]}:=Ml _ rfl;have nd : ∀c ∈ [z,TI,TO,i1,i2],c≠s.heap.objs.size:=λc O q=>by
  obtain⟨bg,G,⟨c',e',M⟩,g1,g2⟩:=Z;obtain⟨o1,j,_⟩:=g1.obj;obtain⟨o2,k,_⟩:=g2.obj;simp only[Mj,Ms,or_false]at O;rcases O with rfl | rfl | rfl | rfl | rfl
  ·exact absurd q<|Mr<|Mk hz
  ·exact absurd q<|Mr<|Mk G
  ·exact absurd q<|Mr<|Mk M
  ·exact absurd q<|Mr<|Mk j
  ·exact absurd q<|Mr<|Mk k
 refine⟨⟨_,U,rfl⟩,F.args_list_init_2 _ _,?_⟩;show wpAny _ X.A.in1.in1 (do let b8 <- Builtin.List.listItems (.ref s.heap.objs.size);Builtin.List.listUpdate (.ref s.heap.objs.size) (λ_=>#[]);letGo b8.toList.reverse;PX (.ref s.heap.objs.size) (.ref z) .none) _ _ _;refine LV ?_;unfold Builtin.List.listItems;refine LV (NX U rfl (Mg ?_));show wpAny _ _ (updateSeq s.heap.objs.size (λ_=>#[]) >>= λ_=>letGo (#[]:Array dy).toList.reverse >>= λ_=>PX (.ref s.heap.objs.size) (.ref z) .none) _ _ _;refine LV (Su U rfl ?_);have m:=y.Dy (t':=s.toks) (f:=λ_=>#[]) (its:=[]) (its':=[]) (xs:=[]) (ys:=[]) zN U rfl .nil (Nh _);rw[Jk]at m;have g:=Og (MN (λ_=>(#[]:Array dy))) U rfl;refine LV (Sa ?_);unfold PX;have h : ∀c o,c≠s.heap.objs.size->s.heap.get? c=bX o->((s.heap.push {cls:= .type "list",data:= .seq #[]}).update s.heap.objs.size (MN (λ_=>(#[]:Array dy)))).get? c=bX o:=λc o O q=>(MH _ _ (MD O)).trans (LY _ q);have n9:=h z _ (nd z ⋯) hz;refine LV (Rj (T:="zip") ⟨_,n9,rfl⟩ ?_);have j:Builtin.List.listSameRef (.ref s.heap.objs.size) (.ref z)=dn:=by have:=nd z ⋯;simp[Builtin.List.listSameRef,MD this]
 have k:(OA "zip" == OA "list")=dn:=by decide
 have P:(OA "zip" == OA "tuple")=dn:=by decide
 simp only[j,k,P,Bool.or_false,Nf,if_false];refine LV (Tu n9 ?_);refine LV (NT ?_);unfold Builtin.List.listLengthHint;refine LV (wpAny_specialOf (T:="zip") ⟨_,n9,rfl⟩ ay ?_);show wpAny _ _ (specialOf (Nr z) (MT "__length_hint__") >>= _) _ _ _;refine LV (wpAny_specialOf (T:="zip") ⟨_,n9,rfl⟩ Vf ?_);refine Mg ?_;show wpAny _ _ (rule "list.extend.makes-room" >>= λ_=>Builtin.List.listTouch (.ref s.heap.objs.size) >>= λ_=>
  again (.builtin "list.extend.loop" ⟨[.ref s.heap.objs.size,.ref z,.none],[]⟩)) _ _ _
 refine LV<|Rg ?_;refine LV ?_;show wpAny _ _ (updateSeq s.heap.objs.size (·.push .none) >>= λ_=>updateSeq s.heap.objs.size (·.pop)) _ _ _;refine LV<|Su g rfl ?_;have i:=Og (MN (·.push MS)) g rfl;have n:=m.Dy (t':=s.toks) (f:=(·.push MS)) (its:=[]) (its':=[.none]) (xs:=[]) (ys:=[.el]) zN g rfl (.cons (show L2.RelV .el .none from rfl) .nil) ⋯;rw[Jk]at n;refine Su (hz:=by seq_fits) i rfl ?_;have N:=Og (MN (·.pop)) i rfl;have p:=n.Dy (t':=s.toks) (f:=(·.pop)) (its:=[.none]) (its':=[]) (xs:=[.el]) (ys:=[]) zN i rfl .nil ⋯;rw[Jk]at p;refine Mg ⟨plainId_quiet Rx _,?_⟩;refine fH (A:=X.A.in1) (ds:=ds) (es:=es) (xs:=xs) (ys:=ys) (k1:=k1) (k2:=k2) (show X.A.in1.handled=none from hh) L r (ds.zip es).length 0 _ (upd H s.heap.objs.size<|.lst []) H0 [] [] (NJ _) p u as h1 h2 r1 r2 .nil (λc O=>JV (hf c O)<|nd c O) ?_ zN (by simpa using hl) λJ H' C Y B x R W t=>?_
 ·refine Z.keep (λc O o q=>?_) λc o q=>?_
  ·exact(MH _ _<|MD<|nd c O).trans ((MH _ _<|MD<|nd c O).trans (h c o (nd c O) q))
  ·by_cases e:c=s.heap.objs.size
   ·exact⟨_,by rw[e];exact N⟩
   ·exact⟨o,(MH _ _<|MD e).trans ((MH _ _<|MD e).trans (h c o e q))⟩
 ·rw[PF,List.drop_zero]at t
  exact⟨rfl,hQ J H' C _ Y r B x R W t⟩
end
section
variable{X:Cx}{sc:g9}{N L:List Str}{k:Nat}{a b:eh}{f g:CO D}{p p2 pos N7:gB}
theorem lV(h:SX X sc N L k)(J:vD sc "list" = cz)(zd:X.mg "list" = none)(M:vD sc "zip" = cz)(zz:X.mg "zip" = none)(ha:PV X a f)(hb:PV X b g)
 (hs:ft [.Call (.Name "zip" p2) [a,b] [] N7] X.env=[(dn,ej (.Call (.Name "zip" p2) [a,b] [] N7) X.env)]:=by rfl)
 (C:ft [a,b] X.env=[(dn,ej a X.env),(dn,ej b X.env)]:=by rfl) (Y:ft [b] X.env=[(dn,ej b X.env)]:=by rfl) :
 PO X (.Call (.Name "list" p) [.Call (.Name "zip" p2) [a,b] [] N7] [] pos) (du f g):=by
 intro m s σ H Q I hZ;obtain⟨j,n,d,rc,O,q⟩:=hZ;obtain⟨⟨k1,K⟩,y,O⟩:=zg O;obtain⟨G,P,T⟩:=zg y;obtain⟨⟨k2,es⟩,B,O⟩:=zg O;obtain⟨F,R,W⟩:=zg B;have hh:X.A.handled=none:=I.ok.hd h.calm;dsimp only at O;by_cases l:K.length<=lim
 ·rw[UJ l]at O
  cases O;refine OY (kO I (h.gl J).1 zd PyProof.Rows.boot_list (Na ?_ (by rw[hs];rfl) rfl) ⋯ ⋯);rw[hs];show wpAny _ _ (I7 ((dn,ej (.Call (.Name "zip" p2) [a,b] [] N7) X.env)::[])) _ _ s;refine Px (ny (xs:=[]) (ys:=[]) I (h.gl M).1 zz (jr ha (jr hb qu Y) (by rw[C,Y])) ?_ C Y);refine⟨j,n,G,rc,P,λv i e x r=>⟨e,n,F,rc.ext x,R,λv2 H2 br U r2=>?_⟩⟩;obtain⟨u,xs,rfl,g1,g2⟩:=XO (r.mono U.s0) T;obtain⟨w,ys,rfl,g3,g4⟩:=XO r2 W;refine⟨k1,k2,u,w,rfl,⟨xs,vJ U.sub g1⟩,⟨ys,vJ U.sub g3⟩,λs2 z TI TO i1 i2 t o Z hz hf=>RH ?_⟩;have xa:=x.trans U;refine bP (H00:=j) (Hb:=H) t hh xa o g1 g3 g2 g4 Z hz hf ?_ λs' i e S E y0 y1 y2 y3 y4 y5=>?_
  ·have:lim<=fh:=by decide
   simp only[List.length_zip];omega
  ·exact⟨.ref S,i,y1,rfl,q S E i e y2 y0 y3 y4 y5⟩
 ·rw[UY l]at O;cases O
end
theorem YB:E6 (.type "list") "keys" = pure none:=by rw[Sv,Rl];kernel_rfl
theorem QS:entryFor table "list.__getattribute__" = bX m8.«object.__getattribute__» :=
 entryFor_alias (id':="object.__getattribute__") (by kernel_rfl) (by first | rfl | decide +kernel) ⋯ (by kernel_rfl)
section
variable{prog:h6}{w:g8}{A:j1}{E:EQ}{h:e9}{g:Array GenState}{d:Drawn}{t:Nat}{os:OsState}{a:dv}{o:l6}
theorem JK(hx:h.get? a=bX ⟨.type "list",none,.seq vs nk,sl⟩)(z:A.handled=none)
 (hE : ∀h' e t',(∀b u,h.get? b=bX u->h'.get? b=bX u)->(∃U,h'.get? e=bX U/\U.cls = .type "AttributeError")->E (.ref e) ⟨h',g,d,t',os⟩) :
 wpAny (eg prog w) A (m8.«object.__getattribute__» ⟨[.ref a,.str "keys" tk],[]⟩) Q E ⟨h,g,d,t,os⟩:=by
 have n:(⟨h,g,d,t,os⟩:d7).TypeIs (.ref a) "list":=⟨_,hx,rfl⟩;have k:=YB
 repeat (any_goals (first | assumption | wp_step))
 unfold raiseAttrError;have f:((MT (toString "'" ++ toString ((Manifest.find? "list").elim "list" λx=>x.tpName)++toString "' object has no attribute '")++MT "keys" ++ MT "'"):Str).length<=fh:=by decide +kernel
 generalize (MT (toString "'" ++ toString ((Manifest.find? "list").elim "list" λx=>x.tpName)++toString "' object has no attribute '")++MT "keys" ++ MT "'")=I at f ⊢;refine LV (wpAny_mkStr (hx:=f) ?_);refine LV ?_;unfold newExc newTuple;refine LV (NO ?_ (by size_fits));refine LV (m:=S6 _ _) (wpAny_of_eq (a:=MS) (by first | rfl | (simp only[S6];rfl)) ?_);refine NO ?_ (by size_fits);simp only[MV];have O:((h.push {cls:= .type "tuple",data:= .seq #[.str I t]}).push {cls:= .type "AttributeError",data:= .fields (#[.ref h.objs.size,.none,.none,.none,.bool dn,.none]++TN (.type "AttributeError") [.str I t])}).get? (h.objs.size+1) =
  bX {cls:= .type "AttributeError",data:= .fields (#[.ref h.objs.size,.none,.none,.none,.bool dn,.none]++TN (.type "AttributeError") [.str I t])}:=by heap_get
 have Y : ∀b u,h.get? b=bX u->((h.push {cls:= .type "tuple",data:= .seq #[.str I t]}).push {cls:= .type "AttributeError",data:= .fields (#[.ref h.objs.size,.none,.none,.none,.bool dn,.none]++TN (.type "AttributeError") [.str I t])}).get? b=bX u:=λb u e=>LY _ (LY _ e);have i:h.get? (h.objs.size+1)=none:=Heap.get?_none_of_le (Rb _);generalize ((h.push {cls:= .type "tuple",data:= .seq #[.str I t]}).push {cls:= .type "AttributeError",data:= .fields (#[.ref h.objs.size,.none,.none,.none,.bool dn,.none]++TN (.type "AttributeError") [.str I t])})=h2 at O Y ⊢;refine LV (wpAny_mkText ?_);unfold noteAttr lacksNameAndObj;have j:(⟨h2,g,d,t+1+1,os⟩:d7).TypeIs (.ref (h.objs.size+1)) "AttributeError":=⟨_,O,rfl⟩;have l:isSubtype (.type "AttributeError") (.type "AttributeError")=pure cz:=by rw[isSubtype_type];kernel_rfl
 repeat (any_goals (first | assumption | with_reducible refine wpAny_loadPart_at O ?_ | with_reducible refine wpAny_load O ?_ | wp_step))
 refine wpAny_raiseNew_none z<|hE _ _ _ (λb u e=>?_) ⟨_,Og _ O<|Obj.isFreed_of_fields<|Up rfl _,Obj.cls_mapFields ..⟩;rw[MH _ _ (λq=>by rw[<- q]at e;rw[i]at e;cases e)];exact Y b u e
theorem QN(hx:h.get? a=bX ⟨.type "list",none,.seq vs nk,sl⟩)(O:A.handled=none)
 (U : ∀h' e t',(∀b u,h.get? b=bX u->h'.get? b=bX u)->(∃I,h'.get? e=bX I/\I.cls = .type "AttributeError")->R (.error (.ref e)) ⟨h',g,d,t',os⟩) :
 codeAny (eg prog w) A (.call (.builtin "list.__getattribute__") ⟨[.ref a,.str "keys" tk],[]⟩) R ⟨h,g,d,t,os⟩:=
 codeAny_call_builtin PK.plain QS (PK.check _ _ _ _ _ _ _ _ (show(⟨h,g,d,t,os⟩:d7).TypeIs (.ref a) "list" from⟨_,hx,rfl⟩) (F.args_list_getattribute_2 _ _) (JK hx O U))
theorem bz:E6 (.type "list") "__getattr__" = pure none:=by rw[Sv,Rl];kernel_rfl
theorem fI(hx:h.get? a=bX ⟨.type "list",none,.seq vs nk,sl⟩)(O:A.handled=none)
 (U : ∀h' t',(∀b u,h.get? b=bX u->h'.get? b=bX u)->Q none ⟨h',g,d,t',os⟩):wpAny (eg prog w) A (getAttr? (.ref a) "keys") Q E ⟨h,g,d,t,os⟩:=by
 have o:(⟨h,g,d,t+1,os⟩:d7).TypeIs (.ref a) "list":=⟨_,hx,rfl⟩;have f2:=PK.lookup;have l:=PK.bind (.ref a);have m:=bz;have n:isSubtype (.type "AttributeError") (.type "AttributeError")=pure cz:=by rw[isSubtype_type];kernel_rfl
 unfold getAttr? getAttrBy? getAttrBy
 repeat (any_goals (first | assumption | wp_step))
 refine QN (g:=g) (d:=d) (os:=os) hx O λh' e t' Y I=>?_;obtain⟨i,I,f⟩:=I;have j:(⟨h',g,d,t',os⟩:d7).TypeIs (.ref e) "AttributeError":=⟨i,I,f⟩;have k:=U h' t' Y;show wpAny _ _ (F' _ _ _ _ _ _ _) _ _ _;unfold F' hookOrError attributeErrorLeaves
 repeat (any_goals (first | assumption | wp_step))
end
noncomputable def wj:List D->Option (List D×List D)
 | []=>bX ([],[])
 | d::r=>match d with
  | .tup a=>match a with
   | [k,v]=>(wj r).map λp=>(k::p.1,v::p.2)
   | _=>none
  | _=>none
noncomputable def om(f:CO (List D))(γ:Ctx):Option D:=(f γ).bind λa=>(wj a).bind λp=>nC p.1 p.2
@[simp] def ET:=@om.eq_1
noncomputable def Ej(z C:CO D):CO D:=λa=>(z a).bind λd=>(C a).bind λk=>match d with
 | .lN b e=>(i0 k).bind λi=>W3 b e i
 | _=>none
noncomputable def AA(C z:CO D):CO D:=λa=>(C a).bind λk=>(z a).bind λd=>match d with
 | .lN b e=>(i0 k).map λi=> .bl (W3 b e i).isSome
 | _=>none
section
variable{X:Cx}{pins:UQ}{σ:St}{A:j1}{R:Result->d7->Prop}{H0:Hp}{l it d:dv}{ks:List Key}{ys xs:List V}
theorem bM(hh:A.handled=none)(hx:xs.length=ks.length)(hy:ys.length=ks.length)(hp : ∀(n:Nat) (h1:n<xs.length) (h2:n<ks.length) (h3:n<ys.length),∃p,xs[n] = .ref p/\g5 X.K H0 p [kV ks[n],ys[n]])(S:H0 d=none)(Z:l≠d) : ∀(m n:Nat) (s:d7) (H:Hp) (z:List (Key×V)) (i:Int) (t:Tok),n+m=ks.length->
 Inv X pins σ H s->gh H0 H->H l=bX (.lst xs)->s.heap.IsListIter it l n->vV X pins H it->H d=bX (.dK z)->z.length+m<=fh->
 (∀C,Inv X pins σ (upd H d<|.dK<|lE z<|(ks.zip ys).drop n) C->R (.ok<|.ret .none) C)->
 codeAny (eg X.prog X.w) A (.builtin "dict.update.loop" ⟨[.ref d,.ref it,.int i t,.none],[]⟩) R s:=by
 intro m
 induction m with
 | zero=>
  intro n s H z i t hn I sub Y st U f hz hR;obtain⟨z1,a,c,L,ll,h⟩:=I.De Y;refine Sy vg ?_;unfold m8.«dict.update.loop»;have j:s.heap.IsList l a.toArray:=⟨_,h,rfl,_,rfl⟩;refine LV<|wpAny_pyNext_list_end (s:=s) hh st j (by simp;omega) λh' eb=>?_;refine LV<|Mg ?_;have e0:upd H d (.dK<|lE z<|(ks.zip ys).drop n)=H:=by
   rw[RV (by simp;omega)];funext c;by_cases q:c=d
   ·rw[q,zN,f];rfl
   ·rw[zL q]
  rw[e0]at hR;exact Mg (hR _<|I.zc (t':=s.toks) (fp:=[it]) (λb o O e=>eb b o (by simpa using O) e)<|λb O=>by rw[Ov.mp O];exact U)
 | succ m ih=>
  intro n s H z i t hn I sub Y st U f hz hR;obtain⟨z1,a,c,L,ll,h⟩:=I.De Y;have j:s.heap.IsList l a.toArray:=⟨_,h,rfl,_,rfl⟩;have P:n<ks.length:=by omega
  obtain⟨p,ep,Q⟩:=hp n ⋯ P ⋯;obtain⟨u,hu,J⟩:=L.get (LZ<|show n<xs.length by omega);rw[ep]at J;have eu:u = .ref p:=J;subst eu;refine Sy vg ?_;unfold m8.«dict.update.loop»;refine LV<|wpAny_pyNext_list_item (s:=s) st j (x:= .ref p) (by simpa using hu) λh' T sb=>?_;have g:=I.zc (h':=h') (t':=s.toks) (fp:=[it]) (λb o O e=>(sb.2 b<|by simpa using O).trans e) (λb O=>by rw[Ov.mp O];exact U);obtain⟨ts,rt,⟨o,E,co,nn,W⟩,zt⟩:=g.tuple<|m1 sub Q;obtain⟨u1,r,rfl,bd,k⟩ : ∃u1 r,ts=u1::r/\RelV (kV ks[n]) u1/\eF [ys[n]] r:=by
   cases rt with
   | cons q1 k=>exact⟨_,_,rfl,q1,k⟩
  obtain⟨u2,rfl,bf⟩:=yN k;have bg:({s with heap:=h'}:d7).TypeIs (.ref p) "tuple":=⟨_,E,co⟩;refine LV (NT (LV (wpAny_tryCatch ?_)));unfold Builtin.Dict.pairItems;refine LV (Rj bg ?_);rw[UJ ⋯];refine LV (NX E W (Mg ?_));show wpAny _ _ (sm [u1,u2] (dictSet d u1 u2)) _ _ _;obtain⟨zz,bl,vs,y,dd⟩:=GH g.fy f;have bn:vs.length<=fh:=by rw[<- y.length];exact zz
  have br:(ck z ks[n] ys[n]).length<=fh:=by have:=JM z ks[n] ys[n];omega
  refine NT<|wpAny_dictSet_pairs (hsz:=bn) (mW bd) dd λbt B F=>?_;have he : ∃q,bt.get? d=bX q:=let ⟨q,_,_,hq,_⟩:=B;⟨q,hq⟩;have M:=ue (t':=s.toks+1) g (by rw[f];exact ON) F he<|Cy br bl (y.put ks[n] bf) B;have G:it≠d:=λq=>by have:=U.1;rw[q,f]at this;cases this
  refine Mg ⟨yZ _,ih (n+1) _ _ (ck z ks[n] ys[n]) (i+1) 0 ⋯ M (λc o e=>?_) (by rw[zL Z];exact Y) (T.at λo q=>(F.2 it G).trans q) ⟨by rw[zL G];exact U.1,U.2⟩ zN (by have:=JM z ks[n] ys[n];omega) λC N=>hR C ?_⟩
  ·rw[zL (λq=>by rw[q,S]at e;cases e)];exact sub _ _ e
  ·have c2:n<(ks.zip ys).length:=by simp;omega
   have e1:(ks.zip ys).drop n=(ks[n],ys[n])::(ks.zip ys).drop (n+1):=by rw[Od c2];simp
   have e2:upd (upd H d<|.dK<|ck z ks[n] ys[n]) d (.dK<|lE (ck z ks[n] ys[n])<|(ks.zip ys).drop (n+1))=upd H d (.dK<|lE z<|(ks.zip ys).drop n):=by
    funext c;by_cases q:c=d
    ·rw[q,zN,zN,e1];rfl
    ·rw[zL q,zL q,zL q]
   rw[<- e2];exact N
theorem bQ(I:Inv X pins σ H s)(C:X.A.handled=none)(sub:gh H0 H)(O:H l=bX (.lst xs))(hx:xs.length=ks.length)(S:ys.length=ks.length)
 (L : ∀(n:Nat) (Z:n<xs.length) (h2:n<ks.length) (h3:n<ys.length),∃p,xs[n] = .ref p/\g5 X.K H0 p [kV ks[n],ys[n]]) (hz:ks.length<=fh)
 (J : ∀z p,H p=none->Inv X pins σ (upd H p (.dK (lE [] (ks.zip ys)))) z->Q (.ref p) z):wpAny (eg X.prog X.w) X.A (call (.type "dict") [.ref l]) Q X.xe s:=by
 have U:H s.heap.objs.size=none:=I.fresh;have y:H0 s.heap.objs.size=none:=jo sub U;have m:l≠s.heap.objs.size:=λq=>by rw[q,U]at O;cases O
 refine callType_codes (Q₁:=λobj f=>obj = .ref s.heap.objs.size/\f = {s with heap:=s.heap.push {cls:= .type "dict",data:= .dict #[]}}) F.kt_called_dict (F.kt_typeCall_dict_1 _) F.entry_dict_init (kt_code_dict_new _ ⟨rfl,rfl⟩) ?_;rintro obj f ⟨rfl,rfl⟩;have u:=I.laid (a:=s.heap.objs.size) (o:= .dK []) (t':=s.toks) (λ_ _ q=>LY {cls:= .type "dict",data:= .dict #[]} q) (Mf _) (nB s.heap I.big);have r:({s with heap:=s.heap.push {cls:= .type "dict",data:= .dict #[]}}:d7).TypeIs (.ref s.heap.objs.size) "dict":=⟨_,Ml _ rfl,rfl⟩;obtain⟨R,h,c,P,N,E⟩:=I.De O;have Y:(s.heap.push {cls:= .type "dict",data:= .dict #[]}).get? l=bX {cls:= .type "list",data:= .seq h.toArray c}:=LY _ E;refine⟨r,F.args_dict_init_2 _ _,?_⟩;unfold m8.«dict.__init__»;refine LV ?_;unfold Builtin.Dict.selfAndRest;refine LV (wpAny_notOrdered_dict r ?_);show wpAny _ _ (pure (s.heap.objs.size,[Nr l])) _ _ _;refine Mg ?_;show wpAny _ _ (Builtin.Dict.updateFrom "dict.__init__" s.heap.objs.size (.ref l) [] .none) _ _ _;unfold Builtin.Dict.updateFrom;refine LV (Rj (T:="list") ⟨_,Y,rfl⟩ ?_);rw[UJ ⋯];refine LV (fI (g:=s.gens) (d:=s.drawn) (t:=s.toks) (os:=s.os) Y (show X.A.in1.in1.handled=none from C) λh' t' k=>?_);have i:Inv X pins σ (upd H s.heap.objs.size (.dK [])) {s with heap:=h',toks:=t'}:=u.kept k;have B:=k _ _ Y;simp only[Option.isNone_none,if_true];refine LV (Rg (LV (Tq (items:=h.toArray) ⟨_,B,rfl,_,rfl⟩ ?_)));refine Mg ⟨yZ _,?_⟩;have x:=i.kept (h':=h'.push {cls:= .type "list_iterator",data:= .fields #[.ref l,.int 0 0]}) (t':=t') λb o e=>LY _ e;have M:s.heap.objs.size<h'.objs.size:=by have:=Mk (k _ _ (Ml s.heap (o:={cls:= .type "dict",data:= .dict #[]}) rfl));exact this
 have G:=i.A8 (b:=h'.objs.size) (H':=upd H s.heap.objs.size<|.dK []) (Mf _) i.fresh;refine bM (H0:=H0) (l:=l) (it:=h'.objs.size) (ks:=ks) (ys:=ys) (xs:=xs) (show X.A.in1.handled=none from C) hx S L y m ks.length 0 _ (upd H s.heap.objs.size<|.dK []) [] 0 0 (NJ _) x (sub.trans<|jc U _) (by rw[zL m];exact O) ⟨_,Ml _ rfl,rfl,rfl⟩ G zN (by simpa using hz) λz j=>?_;rw[Jk,List.drop_zero]at j;exact⟨rfl,J z _ U j⟩
end
theorem KP : ∀{ps ks vs:List D},wj ps=bX (ks,vs)->ks.length=ps.length/\vs.length=ps.length
 | [],ks,vs,h=>by cases h;exact⟨rfl,rfl⟩
 | d::r,ks,vs,h=>by
  unfold wj at h;split at h
  ·split at h
   ·obtain⟨⟨a,b⟩,e,I⟩:=zG h
    cases I;obtain⟨f,g⟩:=KP e;exact⟨by simp[f],by simp[g]⟩
   ·cases h
  ·cases h
theorem QX{K:LX}{H:Hp} : ∀{ps ks vs:List D} {xs:List V} {z:List Int},wj ps=bX (ks,vs)->d5 K H ps xs->QR ks=bX z->
 ∃ys,d5 K H vs ys/\ys.length=z.length/\xs.length=z.length/\∀(n:Nat) (C:n<xs.length) (J:n<z.length) (I:n<ys.length),∃p,xs[n] = .ref p/\g5 K H p [.int z[n],ys[n]]
 | [],ks,vs,xs,z,h,r,hi=>by cases h;cases hi;rw[r.n5];exact⟨[],d5.nil,rfl,rfl,λn C=>by cases C⟩
 | d::ps,ks,vs,xs,z,h,r,hi=>by
  unfold wj at h;split at h
  ·split at h
   ·rename_i k v
    obtain⟨⟨a,b⟩,e,O⟩:=zG h;cases O;obtain⟨x,B,rfl,C,J⟩:=r.l7;cases k with
    | int j=>
     obtain⟨A,U,Y⟩:=zG hi;subst Y;obtain⟨ys,o,s,t,u⟩:=QX e J U;obtain⟨q,G,rfl,I,f⟩:=yn C;obtain⟨E,F,rfl,g,i⟩:=f.l7;obtain⟨w,y,rfl,l,m⟩:=i.l7;rw[m.n5,jq g]at I;refine⟨w::ys,d5.cons l o,by simp[s],by simp[t],λn g1 g2 g3=>?_⟩;cases n with
     | zero=>exact⟨q,rfl,I⟩
     | succ n=>exact u n (by simpa using g1) (by simpa using g2) (by simpa using g3)
    | _=>cases hi
   ·cases h
  ·cases h
section
variable{X:Cx}{sc:g9}{N L:List Str}{k:Nat}{a o i:eh}{f:CO (List D)}{fd fk:CO D}{p pos:gB}
theorem lA(h:SX X sc N L k)(J:vD sc "dict" = cz)(zd:X.mg "dict" = none)(S:PO X a f)(hs:ft [a] X.env=[(dn,ej a X.env)]:=by rfl) :
 PV X (.Call (.Name "dict" p) [a] [] pos) (om f):=by
 intro g s σ H Q I o;obtain⟨H0,γ,d,rc,O,q⟩:=o;obtain⟨z,E,O⟩:=zg O;obtain⟨⟨b,j⟩,x,O⟩:=zg O;have P:X.A.handled=none:=I.ok.hd h.calm;unfold nC at O;cases hi:QR b with
 | none=>rw[show(b,j).1=b from rfl,hi]at O;cases O
 | some e=>
  rw[show(b,j).1=b from rfl,hi]at O;dsimp only at O;by_cases r:b.length=j.length/\e.Nodup/\b.length<=lim
  ·rw[UJ r]at O
   cases O;refine DF<|kO I (h.gl J).1 zd PyProof.Rows.boot_dict (Na ?_ (by rw[hs];rfl) rfl);rw[hs];show wpAny _ _ (I7 ((dn,ej a X.env)::[])) _ _ s;refine Px<|eM (S g s σ H (λv i=>∃l xs U,v = .ref l/\Ext H0 H U i/\U l=none/\i l=bX (.lst xs)/\d5 X.K U z xs) I ⟨H0,γ,z,rc,E,λl xs i U x1 g1 g2 g3 Y=>⟨l,xs,U,rfl,x1,g2,g3,Y⟩⟩) λv s1 o=>?_;obtain⟨y,i,B,ry,l,xs,U,rfl,x1,g2,g3,Y⟩:=o;cases ry;refine RH ?_;obtain⟨ys,R,T,W,Z⟩:=QX x Y hi;have u:(e.map<|ml (β:=Str)).length=e.length:=by simp
   have nl:e.length=b.length:=by have:=(KP x).1;have:=Y.length;omega
   refine bQ (H0:=U) (ks:=e.map ml) (ys:=ys) (xs:=xs) B P x1.sub g3 (by rw[u];exact W) (by rw[u];exact T) (λn F G M=>?_) ?_ λs' p m w=>?_
   ·obtain⟨t,t1,t2⟩:=Z n F (by simpa using G) M
    refine⟨t,t1,?_⟩;simpa[kV]using t2
   ·have:lim<=fh:=by decide
    rw[u];omega
   ·have C:lE [] ((e.map<|ml (β:=Str)).zip ys)=(e.map ml).zip ys:=by
     rw[Xg _ []]
     ·simp
     ·rw[PF,List.map_fst_zip ⋯]
      exact Yv r.2.1
    rw[C]at w;exact⟨.ref p,_,w,rfl,q (.ref p) _ _ ((x1.trans<|Ext.hide x1.sub m _).show (xj x1.s1 m) (jo x1.sub m) zN rc.sub)
     (show ∃a xs,V.ref p = .ref a/\DG (upd U p _) a b xs/\d5 X.K (upd U p _) j xs from⟨p,ys,rfl,⟨_,Xt hi,by omega,zN⟩,R.mono<|jc (jo x1.sub m) _⟩)⟩
  ·rw[UY r]at O;cases O
theorem Bc(h:SX X sc N L k)(J:PV X o fd)(C:PV X i fk)(hs:Hz i:=by intro _ _;rfl):PV X (.Subscript o i pos) (Ej fd fk):=
 qr (sS (by have:=h.L1;omega) J C hs) λS H Q B=>by
  obtain⟨g,f,d,rc,I,q⟩:=B;obtain⟨s,t,I⟩:=zg I;obtain⟨P,u,I⟩:=zg I;cases s with
  | lN F G=>
   obtain⟨j,w,z⟩:=zg I;refine⟨g,f,_,rc,t,λv M O x r=>⟨O,f,_,rc.ext x,u,λy l m U e=>?_⟩⟩;obtain⟨ad,b,rfl,⟨R,g1,g2,g3⟩,A⟩:=(show ∃a b,v = .ref a/\DG O a F b/\d5 X.K O G b from r);rw[jD w]at e;have E:y = .int j:=e;obtain⟨Y,n,p⟩:=(Kk (i:=j) g1 g2<|A.mono U.s0).1 d z;refine⟨ad,Y,rfl,?_,q Y l m (x.trans U) p⟩;rw[E,<- n];exact .inl ⟨_,ml j,.inl<|U.s1 _ _<|x.sub _ _ g3,rfl,rfl⟩
  | _=>cases I
theorem sy(h:SX X sc N L k)(S:PV X i fk)(ho:PV X o fd)(Z:A5 .In o=dn:=by with_unfolding_all rfl):mm X (.Compare i [.In] [o] pos) (sB<|AA fk fd):=
 Vn (Bh (BA (by have:=h.L1;omega) S ho) Z) λσ H Q M=>by
  obtain⟨n,m,b,rc,I,q⟩:=M;obtain⟨W,A,G⟩:=zg I;obtain⟨k1,B,I⟩:=zg A;obtain⟨w,C,I⟩:=zg I;cases w with
  | lN g l=>
   obtain⟨j,E,F⟩:=zG I;subst F;cases G;refine⟨n,m,_,rc,B,λy R p x Y=>⟨p,m,_,rc.ext x,C,λv e O U r=>?_⟩⟩;obtain⟨ad,d,rfl,⟨kk,g1,g2,g3⟩,J⟩:=(show ∃a d,v = .ref a/\DG O a g d/\d5 X.K O l d from r);rw[jD E]at Y;have f:y = .int j:=Y;obtain⟨s,t⟩:=Kk (i:=j) g1 g2 J;cases hv:W3 g l j with
   | none=>
    refine⟨ad,none,rfl,?_,_,rfl,?_⟩
    ·rw[f,<- t hv]
     exact .inl ⟨_,ml j,.inl<|U.sub _ _ g3,rfl,rfl⟩
    ·rw[hv]at q;exact q e O<|x.trans U
   | some z=>
    obtain⟨P,u,T⟩:=s z hv;refine⟨ad,bX P,rfl,?_,_,rfl,?_⟩
    ·rw[f,<- u]
     exact .inl ⟨_,ml j,.inl<|U.sub _ _ g3,rfl,rfl⟩
    ·rw[hv]at q;exact q e O<|x.trans U
  | _=>cases I
end
def Gr:D->Option (List Int)
 | .tup a=>QR a
 | _=>none
noncomputable def BX:List D->Option (List<|List Int)
 | []=>bX []
 | d::ds=>(Gr d).bind λk=>(BX ds).map λr=>k::r
noncomputable def Az(f:CO (List D))(γ:Ctx):Option D:=(f γ).bind λb=>(wj b).bind λp=>(BX p.1).bind λa=>if a.Nodup/\a.length<=lim then bX (.i8 a p.2)else none
noncomputable def GC:List (List Int)->List D->List Int->Option D
 | k::ks,v::vs,i=>if k=i then bX v else GC ks vs i
 | _,_,_=>none
noncomputable def FH(z C:CO D)(γ:Ctx):Option D:=(z γ).bind λd=>(C γ).bind λk=>match d with
 | .i8 a b=>(Gr k).bind λi=>GC a b i
 | _=>none
noncomputable def GB(d k x:D):Option D:=match d with
 | .i8 a b=>(Gr k).map λi=>(GC a b i).getD x
 | _=>none
noncomputable def rM(z C fx:CO D)(γ:Ctx):Option D:=(z γ).bind λd=>(C γ).bind λk=>(fx γ).bind λx=>GB d k x
noncomputable def Lc(f:CO D)(γ:Ctx):Option (List D):=(f γ).bind λd=>match d with
 | .i8 a _=>bX (a.map λk=> .tup (k.map .int))
 | _=>none
section
variable(γ:Ctx)
@[simp] def ES:=@Az.eq_1
@[simp] def Ho:=@FH.eq_1
@[simp] def Hk:=@rM.eq_1
@[simp] def Hi:=@Lc.eq_1
end
noncomputable def HV:List (List Int)->List Int->List Int->Option Int
 | k::ks,n::ns,i=>if k=i then bX n else HV ks ns i
 | _,_,_=>none
noncomputable def eqT(ks:List (List Int))(z:List Int)(I:List (List Int))(O:List Int):Bool:=decide (ks.length=I.length) && (ks.zip z).all λx=>decide<|HV I O x.1=bX x.2
noncomputable def HY(d e:D):Option Bool:=match d with
 | .i8 a f=>match e with
  | .i8 I O=>(QR f).bind λb=>(QR O).map λU=>eqT a b I U
  | _=>none
 | _=>none
@[simp] def LU(d e:D):Option D:=(HY d e).map D.bl
@[simp] def LS(d e:D):Option D:=(HY d e).map λb=>D.bl<|!b
noncomputable def Lb(f:CO D)(γ:Ctx):Option D:=(f γ).bind λd=>match d with
 | .i8 a _=>bX (.int a.length)
 | _=>none
@[simp] def Hg:=@Lb.eq_1
abbrev TT:=List (List (List Int))
inductive Pl where
 | out | tab (k:Nat) | row (k m:Nat)
deriving DecidableEq
section
variable{K:LX}{al:List (Nat×Pl)}{E0 E H0 H z3 H':Hp}{σ _c:St}{γ γ':Ctx}{Z:TT}{ad:Pl->dv}
open Classical in
end
open Classical in
section
variable{H:Hp}{Z:TT}{ad:Pl->dv}
end
end DL
namespace DL
open PySem PySem.Spec PyProof.Rows L2
open PySem.W (KasT kas_sort kas_ask kat_run kat_snds kat_lt kat_cons kat_no kat_yes kat_nil kat_go kat_one kat_kind KatTups KatGo)
section
variable{prog:h6}{w:g8}{A:j1}{E:EQ}{s:d7}
theorem WX{a kS:dv}{O:List dy}{out:List dy}{e z:Nat}{P:PySem.Fin->d7->Prop}{st:SortSt}(U:s.heap.get? kS=bX (gv "list" O.toArray e))(L:s.heap.get? a=bX (gv "list" #[] z))(Y:kS≠a)(C:O.length<=fh)(J:out.length<=fh)
 (S:(F7 st).map (·.2)=out.toArray) (M:failedOf st=none)
 (h : ∀h' c,h'.objs.size=s.heap.objs.size->(∀b o,b≠a->b≠kS->s.heap.get? b=bX o->h'.get? b=bX o)->h'.get? a=bX (gv "list" out.toArray c)->P (.done (.ret .none)) {s with heap:=h'}) :
 wpAny (eg prog w) A (ksk_tail a dn z (.ref kS) st) P E s:=by
 unfold ksk_tail;refine LV (PY U rfl ?_ (by rw[Mi];exact C) (Nh _));refine LV (Sa ?_);have I:(s.heap.update kS (MN λ_=>(#[]:Array dy))).get? a=bX (gv "list" #[] z):=(MH _ _ Y).trans L;refine LV (SV I rfl ?_);simp only[Nf,if_false];rw[S];refine LV (PY I rfl ?_ (Nh _) (by show out.toArray.size<=_;rw[Mi];exact RK J));rw[M];simp only[bne_self_eq_false,Nf,if_false];obtain⟨c,g⟩ : ∃c,((s.heap.update kS (MN λ_=>(#[]:Array dy))).update a (MN λ_=>out.toArray)).get? a=bX (gv "list" out.toArray c):=⟨_,Sw I λ_=>out.toArray⟩;refine Mg (h _ c (by rw[OL,OL]) (λb o d f q=>?_) g);exact(MH _ _ (MD d)).trans ((MH _ _ (MD f)).trans q)
theorem tF{a kS:dv}{vs I:List dy}{ps:List (Int×Int)}{e z:Nat}{P:PySem.Fin->d7->Prop}(hk:s.heap.get? kS=bX (gv "list" I.toArray e))(ha:s.heap.get? a=bX (gv "list" #[] z))(S:kS≠a)(Z:I.length=vs.length)(J:ps.length=vs.length)(as:vs.length<64)
 (L : ∀i (M:i<I.length),A3 s.heap I[i] (ps.getD i (0,0)).1 (ps.getD i (0,0)).2)
 (h : ∀h' c,h'.objs.size=s.heap.objs.size->(∀b o,b≠a->b≠kS->s.heap.get? b=bX o->h'.get? b=bX o)->h'.get? a=bX (gv "list" (OT ((j7 ps).map λi=>vs.getD i MS)) c)->P (.done (.ret .none)) {s with heap:=h'}) :
 wpAny (eg prog w) A (ksk_end a dn vs.toArray z (.ref kS) I.toArray) P E s:=by
 have hz:vs.length<=fh:=by rw[Pf];omega
 have n:vs.toArray.size=vs.length:=by simp
 have bx:((j7 ps).map λi=>vs.getD i MS).length=vs.length:=by rw[Mq,(jP ps).length_eq,MQ,J]
 have step : ∀t:Sem PySem.Fin,wpAny (eg prog w) A t P E s->wpAny (eg prog w) A (if dn=cz then (do let _ <- rule "list.sort.reverse";t)else t) P E s:=λt ht=>ht;unfold ksk_end
 try dsimp only
 refine step _ ?_;by_cases g:vs.toArray.size<2
 ·rw[UJ g,UJ g]
  refine LV<|Mg ?_;rw[StateT.run_pure];refine LV<|Mg ?_;dsimp only;have ev:(j7 ps).map (λi=>vs.getD i MS)=vs:=by unfold j7;rw[UJ ⋯,J];exact ja _ _
  have e7:Array.map (λx=>x.snd) (F7<|SortSt.mk' general' (I.toArray.zip vs.toArray) #[] 7 none)=((j7 ps).map (λi=>vs.getD i MS)).toArray:=by show Array.map (λx=>x.snd) (I.toArray.zip vs.toArray)=_;rw[ev];apply Array.ext';simp[Array.toList_map,Array.toList_zip];rw[List.map_snd_zip ⋯]
  exact WX hk ha S ⋯ ⋯ e7 rfl h
 ·rw[UY g,UY g]
  have n2:2<=vs.length:=by rw[<- n];omega
  obtain⟨fs,f1,f2,f3⟩:=fQ (ks:=λi=>(ps.getD i (0,0)).1) λi M=>(L i M).one;refine LV (kat_kind (T:=OA "int") f1 ⋯ (λv hv=>?_) ⋯ ?_)
  ·obtain⟨k,t,rfl⟩:=f3 v hv
   exact PySem.W.Looks.of_pure rfl
  have ep:(ka (λi j=>vQ (ps.getD i (0,0))<|ps.getD j (0,0))<|kas_sort vs.length).toList=j7 ps:=by unfold j7;rw[UY ⋯,J]
  refine LV (Ot (kat_run (E:=E) (ks:=I) (Q:=λf d=>∃p:Array Nat,F7 f=p.map (PySem.W.kas_item<|I.toArray.zip vs.toArray)/\failedOf f=none/\p.toList=j7 ps/\d=s)
   (G:=λp d=>p.toList=j7 ps/\d=s)
   Z n2 as (λp f d a1 R X r=>⟨p,R,X,r.1,r.2⟩) (VQ (lt:=λi j=>vQ (ps.getD i (0,0))<|ps.getD j (0,0)) (λi j C M hj O=>?_) (JT ⋯) ⟨ep,rfl⟩)) ?_ λ_ _ e=>e)
  ·show wpAny _ _ (keyLt' _ (I.getD i MS)<|I.getD j MS) C _ _
   have B:i<I.length:=by omega
   have F:j<I.length:=by omega
   rw[show I.getD i MS=I[i]by simp[B],show I.getD j MS=I[j]by simp[F]];obtain⟨x,ox,xs,m,t,u,z,e2,e3,e4,N⟩:=L i B;obtain⟨y,oy,ys,m',t',u',d1,d2,d3,d4,K⟩:=L j F;rw[z,d1];refine kat_lt e2 e4 d2 d4 ?_;have bm:xs.size=2:=by rw[<- NG,N];rfl
   have bn:ys.size=2:=by rw[<- NG,K];rfl
   rw[N,K,bm,bn,OQ,OQ];unfold vQ at O;generalize ps.getD i (0,0)=Y at O ⊢;generalize ps.getD j (0,0)=X2 at O ⊢;refine kat_cons<|Ph Y.1 t X2.1 t' _ _ _ _ ?_;refine kat_go (λU=>?_) λU=>?_
   ·have U:Y.1=X2.1:=by simpa using U
    rw[UJ U]at O;refine kat_yes<|kat_cons<|Ph Y.2 u X2.2 u' _ _ _ _<|kat_go (λl=>?_) λl=>?_
    ·have l:Y.2=X2.2:=by simpa using l
     refine kat_yes<|kat_nil ?_;rw[show decide (Y.2<X2.2)=dn by rw[l];simp]at O;exact O
    ·exact kat_no<|kat_one _ _<|lt_int O
   ·have U:Y.1≠X2.1:=by simpa using U
    rw[UY U]at O;exact kat_no<|oneLt_int O
  rintro⟨⟨⟩,f⟩ d ⟨p,br,hf,hp,rfl⟩;dsimp only;have H:=kat_snds Z br;rw[hp]at H;exact WX hk ha S ⋯ ⋯ H hf h
end
end DL
namespace DL
open PySem PySem.Spec PyProof.Rows L2
section
variable{X:Cx}{pins:UQ}{σ:St}{H:Hp}{s:d7}{a:dv}{o:HO}
theorem fU(I:Inv X pins σ H s)(f:vV X pins H a)(new:i7 X.prog X.w (upd H a o) s.heap a o):Inv X pins σ (upd H a o) s:=by
 obtain⟨f1,f2,y,j,k,l⟩:=f;have d : ∀b u,H b=bX u->b≠a:=λb u q z=>by rw[z,f1]at q;cases q
 refine⟨I.ok,I.os,I.bare,⟨I.base.keep,I.base.slot,λb U q n h=>?_,I.base.there,λb i q=>?_,λb U u q=>?_,λb t q=>?_⟩,I.loc,I.cell,?_,λx c e=>?_,λp g=>?_,λb u e=>?_,I.len⟩
 ·have O:b≠a:=λz=>by
   rcases j with Y | Y
   ·exact h<|z ▸ Y
   ·have:=Mk q
    rw[z]at this;exact absurd this<|Nat.not_lt_of_le Y
  rw[zL O];exact I.base.free b U q n h
 ·have:=I.base.DY b i q
  rw[zL (d b _ this)];exact this
 ·have:=I.base.Dw b U u q
  rw[zL (d b _ this)];exact this
 ·obtain⟨m,this⟩:=I.base.DW b t q
  exact⟨m,by rw[zL (d b _ this)];exact this⟩
 ·rw[zL (MD f2)];exact I.free
 ·rw[zL (k x c e)];exact I.wo x c e
 ·obtain⟨e,n,r⟩:=I.pin p g
  exact⟨e,by rw[zL (l p g)];exact n,r⟩
 ·by_cases O:b=a
  ·subst O;rw[zN]at e;cases e;exact new
  ·rw[zL O]at e
   exact(I.fy b u e).DC (λ_ _ _ q=>q) (λc q=>by rw[zL (d c _ q)];exact q) λc i q=>by rw[zL (d c _ q)];exact q
theorem rT{A:j1}{Q:VK}{us:List dy}{vs:List V}{CX:sG}{k:Nat}{f:dv}{z:o5}{ps:List Str}{sp:Sp}(F:o4 X.prog X.w X.K X.mg X.base o9 k f z ps sp)(U:my k A)(Y:B7 X.prog X.w X.K X.mg X.base A X.stack s H)(C:Binds X.K z ps [])
 (I:Inv X pins σ H s) (r:eF vs us) (h:sp vs H Q E0):wpAny (eg X.prog X.w) A (call (.ref f) us) (EP X pins σ Q) (λ_ _=>False) s:=by
 have b:us.length=ps.length:=by rw[<- r.length];exact F.len _ _ _ _ h
 refine wpAny_call<|Sx (F.run A X.stack s H ⟨us,[]⟩ us vs Q E0 U Y (by simpa using C s us I.mu (by simpa using b)) r h) λr d O=>?_;cases r with
 | error e=>exact O.elim
 | ok a=>
  cases a with
  | ret u=>exact I.after O
  | next=>exact OC O
  | brk=>exact OC O
  | cont=>exact OC O
theorem AN(I:Inv X pins σ H s)(C:vV X pins H kS)(z:vV X pins H a)(U:s.heap.get? kS=bX ok)(J:s.heap.get? a=bX oa)(Y : ∀v,ok.data ≠ .cell v)(L : ∀v,oa.data ≠ .cell v):Inv X (pins++[(kS,ok),(a,oa)]) σ H s:=
 I.N6 λp O=>by
  rcases OU.mp O with O | O
  ·exact I.pin p<|Mw _ O
  ·rcases Mj.mp O with rfl | O
   ·exact⟨U,C.1,C.2.1,C.2.2.1,Y⟩
   ·rw[Ov.mp O];exact⟨J,z.1,z.2.1,z.2.2.1,L⟩
theorem uW(I:Inv X (pins++more) σ H s):Inv X pins σ H s:=I.N6 λp O=>I.pin p<|Mw _<|Sm _ O
end
def Yn(ps:List (Int×Int)):List D:=ps.map λp=>D.tup [.int p.1,.int p.2]
section
variable{X:Cx}{pins:UQ}{σ:St}{F:List D->Option Res}{k:Nat}{f:dv}{fd:o5}{pr:List Str}{A:j1}{E:EQ}
theorem pI(I:Inv X pins σ H s)(sub:gh H0 H)(r:Rep X.K H0 (.tup [.int i,.int j]) v)(C:RelV v u):A3 s.heap u i j:=by
 obtain⟨b,L,rfl,e,h⟩:=yn r;obtain⟨y,J,g,k,l⟩:=h.l7;obtain⟨G,E,d,m,p⟩:=l.l7;rw[p.n5]at d;rw[g,d,jq k,jq m]at e;cases C;obtain⟨f,B,⟨o,z,w,n,x⟩,_⟩:=I.tuple<|m1 sub e;obtain⟨O,U,rfl,Y,a⟩ : ∃O U,f=O::U/\RelV (.int i) O/\eF [.int j] U:=by
  cases B with
  | cons Y a=>exact⟨_,_,rfl,Y,a⟩
 obtain⟨F,rfl,A⟩:=yN a;obtain⟨t,rfl⟩:=Y;obtain⟨u,rfl⟩:=A;exact⟨b,o,_,n,t,u,rfl,z,w,x,rfl⟩
theorem mV{a kS:dv}{vs:List dy}{xs:List V}{ds:List D}{ps:List (Int×Int)}{L:Nat}{P:PySem.Fin->d7->Prop}{H0 H:Hp}{s:d7}
 (G:o4 X.prog X.w X.K X.mg X.base o9 k f fd pr (qs X.K pr.length F)) (h1:pr.length=1) (hr:my k A) (bd:A.frames=bX X.stack) (O:Binds X.K fd pr [])
 (I:Inv X pins σ H s) (sub:gh H0 H) (rv:eF xs vs) (rd:d5 X.K H0 ds xs) (as:ps.length=vs.length) (be:vs.length<64)
 (hF : ∀(i:Nat) d p,ds[i]? = bX d->ps[i]? = bX p->F [d]=bX (.val<|.tup [.int p.1,.int p.2]))
 (hk:s.heap.get? kS=bX (gv "list" #[] 0)) (ha:s.heap.get? a=bX (gv "list" #[] L)) (ax:kS≠a) (fk:vV X pins H kS) (fa:vV X pins H a)
 (h : ∀J H' C c,Inv X pins σ H' J->Ext H0 H C H'->J.heap.get? a=bX (gv "list" (OT ((j7 ps).map λi=>vs.getD i MS)) c)->vV X pins H' a->P (.done (.ret .none)) J) :
 wpAny (eg X.prog X.w) A (ksk_rest a (.ref f) dn vs.toArray L<|.ref kS) P E s:=by
 have c7:=rv.length;have c8:=rd.length;have hz:vs.length<=fh:=by rw[Pf];omega
 unfold ksk_rest;refine LV (Rg ?_);rw[SI];refine LV (ksk_fold (λj J=>∃l n U e,Inv X (pins++[(kS,gv "list" U e),(a,gv "list" #[] L)]) σ l J/\Ext H0 H n l/\∃g:List V,eF g U.toList/\d5 X.K n (Yn (ps.take j)) g) vs 0 s
  ⟨H,H0,#[],0,AN I fk fa hk ha (λv z=>by cases z) (λv z=>by cases z),Ext.refl sub,[],.nil,d5.nil⟩ ?step ?done)
 case step=>
  rintro j x J hx ⟨l,n,U,e,Y,x1,g,B,m⟩;simp only[NJ]at m ⊢;have hj:j<vs.length:=(Mo.mp hx).1;have hp:ps[j]? = bX ps[j]:=LZ ⋯;have hd:ds[j]? = bX ds[j]:=LZ ⋯;have b5:xs[j]? = bX xs[j]:=LZ ⋯;obtain⟨u',b6,bg⟩:=rv.get b5;rw[hx]at b6;cases b6;obtain⟨x',b7,bi⟩:=rd.get hd;rw[b5]at b7;cases b7;have env:B7 X.prog X.w X.K X.mg X.base A X.stack J l:=⟨bd,Y.C6.mod,Y.C6.bs,Y.C6.A6,Y.C6.sh,Y.C6.Dv,Y.C6.fy,Y.C6.bare⟩;refine LV (OP (Ot (rT (CX:=o9) (Q:=λv H'=>∃C,Ext n l C H'/\Rep X.K C (.tup [.int ps[j].1,.int ps[j].2]) v) G hr env O Y (vs:=[xs[j]]) (us:=[x]) (.cons bg .nil)
   ⟨n,[ds[j]],_,x1.sub,d5.cons (bi.mono x1.s0) d5.nil,by rw[h1];rfl,hF j _ _ hd hp,λv H' C S r2=>⟨C,S,r2⟩⟩) (λv M he=>?_) λ_ _ hF=>hF.elim))
  obtain⟨vv,T,t,bn,br,S,r2⟩:=he
  try dsimp only
  obtain⟨r,W,_⟩:=t.pin (kS,gv "list" U e) (Mw _ (Mw _ (.head _)));obtain⟨na,Z,_⟩:=t.pin (a,gv "list" #[] L) (Mw _ (Mw _ (.tail _ (.head _))));have bt:=uW t;have N:vV X pins T kS:=⟨W,fk.2⟩;have R:vV X pins T a:=⟨Z,fa.2⟩;have kl:U.size=j:=by have:=B.length;have:=m.length;simp only[Yn,Mq,Ou,NG]at *;omega
  refine LV (PY r rfl ?_ (by rw[kl,Pf];omega) (Np (Nat.le_of_eq (Array.size_push ..)) (by rw[kl,Pf];omega)));obtain⟨c2,bv⟩ : ∃c2,(M.heap.update kS (MN (·.push v))).get? kS=bX (gv "list" (U.push v) c2):=⟨_,Sw r (·.push v)⟩;have I3:=bt.zc (h':=M.heap.update kS (MN (·.push v))) (t':=M.toks) (fp:=[kS]) (λb o O q=>(MH _ _ (λz=>O (by rw[z];exact List.mem_singleton_self _))).trans q) (λb O=>by rw[Ov.mp O];exact N);have c0:(M.heap.update kS (MN (·.push v))).get? a=bX (gv "list" #[] L):=(MH _ _ ax).trans na;refine Mg ⟨rfl,T,br,U.push v,c2,AN I3 N R bv c0 (λv z=>by cases z) (λv z=>by cases z),x1.trans S,g++[vv],?_,?_⟩
  ·rw[Array.toList_push];exact B.append<|.cons bn .nil
  ·have ek:ps.take (j+1)=ps.take j++[ps[j]]:=by rw[List.take_add_one,hp];simp
   rw[ek];unfold Yn at m ⊢;rw[Nb];exact(m.mono S.s0).append (d5.cons r2 d5.nil)
 case done=>
  rintro J ⟨l,n,U,e,Y,x1,g,B,m⟩;rw[NJ,<- as,List.take_length]at m;obtain⟨r,W,_⟩:=Y.pin (kS,gv "list" U e) (Mw _ (Mw _ (.head _)));obtain⟨na,Z,_⟩:=Y.pin (a,gv "list" #[] L) (Mw _ (Mw _ (.tail _ (.head _))));have b9:=uW Y;have N:vV X pins l kS:=⟨W,fk.2⟩;have R:vV X pins l a:=⟨Z,fa.2⟩
  try dsimp only
  refine LV<|listItems_at r rfl ?_;have l1:=B.length;have l2:=m.length;simp only[Yn,Mq]at l2;have ek:U=U.toList.toArray:=by simp
  rw[ek]at r ⊢;refine tF r na ax ⋯ as be (λi hi=>?_) λh' c hsz kp hA=>?_
  ·have c3:i<ps.length:=by omega
   obtain⟨y,ey,ry⟩:=m.get (i:=i) (d:= .tup [.int (ps.getD i (0,0)).1,.int (ps.getD i (0,0)).2]) (by unfold Yn;simp[c3]);obtain⟨u,hu,ru⟩:=B.get ey;have:U.toList[i]=u:=by rw[LZ hi]at hu;exact Nd hu
   rw[this];exact pI b9 x1.sub ry ru
  ·have t:=b9.zc (h':=h') (t':=J.toks) (fp:=[a,kS]) (λb o O q=>kp b o (λz=>O<|by rw[z];simp) (λz=>O<|by rw[z];simp) q) (λb O=>by
    rcases Mj.mp O with rfl | O
    ·exact R
    ·rw[Ov.mp O];exact N)
   exact h _ l n c t x1 hA R
end
noncomputable def sV:Res->Option (Int×Int)
 | .val d=>match d with
  | .tup a=>match a with
   | [x,y]=>(i0 x).bind λi=>(i0 y).map λj=>(i,j)
   | _=>none
  | _=>none
 | .own _=>none
noncomputable def YG(F:List D->Option Res):List D->Option (List<|Int×Int)
 | []=>bX []
 | d::r=>((F [d]).bind sV).bind λp=>(YG F r).map λl=>p::l
noncomputable def dq(F:List D->Option Res)(f:CO (Sk×List D)):CO (List D):=λd=>(f d).bind λa=>match a.1 with
 | .L=>(YG F a.2).bind λb=>if a.2.length<64 then bX ((j7 b).map λi=>a.2.getD i .el)else none
 | _=>none
theorem KN(I:eF xs vs) : ∀(o:List Nat),(∀i∈o,i<xs.length)->eF (o.map λi=>xs.getD i .el) (o.map λi=>vs.getD i MS)
 | [],_=> .nil
 | i::o,h=>by have a:=h i Mn;refine .cons ?_ (KN I o λj O=>h j<|Mm _ O);obtain⟨v,U,g2⟩:=I.get (i:=i) (x:=xs[i])<|LZ a;show RelV (xs.getD i V.el) (vs.getD i MS);rw[Mc,Mc,LZ a,U];exact g2
section
variable{X:Cx}{pins:UQ}{σ:St}{F:List D->Option Res}{k:Nat}{f:dv}{fd:o5}{pr:List Str}
theorem bB
 (G:o4 X.prog X.w X.K X.mg X.base o9 k f fd pr (qs X.K pr.length F)) (Z:pr.length=1) (hr:my (k+1+1) X.A) (O:Binds X.K fd pr [])
 (I:Inv X pins σ H s) (sub:gh H0 H) (hl:s.heap.IsList l vs.toArray) (Y:eF xs vs) (rd:d5 X.K H0 ds xs) (L:ps.length=vs.length) (S:vs.length<64)
 (hF : ∀(i:Nat) d p,ds[i]? = bX d->ps[i]? = bX p->F [d]=bX (.val<|.tup [.int p.1,.int p.2]))
 (h : ∀J H' C D,H D=none->H' D=none->Ext H0 H C H'->Inv X pins σ (upd H' D<|.lst<|(j7 ps).map λi=>xs.getD i .el) J->Q (.ref D) J) :
 wpAny (eg X.prog X.w) X.A (call (.builtin "sorted") [.ref l] [(MT "key",.ref f)]) Q E s:=by
 have as:=Y.length;have e:vs.length<=fh:=by rw[Pf];omega
 refine call_function_entry_kw kind_sorted plain_sorted entry_sorted (ksk_s1 _ _) ?_;unfold m8.«sorted»;refine LV (m:=checkCount "sorted" 1 1 _) (Mg ?_);refine LV (collect_list hl ?_ e);refine LV (Ti ?_ e);have a:((s.heap.push (gv "list" #[] 0)).update s.heap.objs.size (MN (· ++ vs.toArray))).objs.size=s.heap.objs.size+1:=by rw[OL,Ts]
 have U:(((s.heap.push (gv "list" #[] 0)).update s.heap.objs.size (MN (· ++ vs.toArray))).push (gv "list" vs.toArray 0)).get? (s.heap.objs.size+1)=bX (gv "list" vs.toArray 0):=by rw[<- a];exact Ml _ rfl
 have keep : ∀b o,s.heap.get? b=bX o->(((s.heap.push (gv "list" #[] 0)).update s.heap.objs.size (MN (· ++ vs.toArray))).push (gv "list" vs.toArray 0)).get? b=bX o:=λb o q=>by have j:b<s.heap.objs.size:=Mk q;rw[Pc _ _ _ (by rw[a];exact Mr (Nl j)),Ss _ _ _ _ (Mr j),Pc _ _ _ (Mr j)];exact q
 have n:(((s.heap.push (gv "list" #[] 0)).update s.heap.objs.size (MN (· ++ vs.toArray))).push (gv "list" vs.toArray 0)).objs.size=s.heap.objs.size+2:=by rw[Ts,a]
 show wpAny _ _ _ _ _ {s with heap:=((s.heap.push (gv "list" #[] 0)).update s.heap.objs.size (MN (· ++ vs.toArray))).push (gv "list" vs.toArray 0)};rw[a];generalize ((s.heap.push (gv "list" #[] 0)).update s.heap.objs.size (MN (· ++ vs.toArray))).push (gv "list" vs.toArray 0)=g at U keep n ⊢;have P:Inv X pins σ H {s with heap:=g}:=I.kept (t':=s.toks) keep;have x:vV X pins H (s.heap.objs.size+1):=I.A8 (Rb _) (I.fy.fresh (Rb _));refine LV (NT (wpAny_call_entry_kw slot_list_sort ⟨_,U,rfl⟩ entry_list_sort ?body (ksk_l1 _ _)))
 case body=>
  show wpAny (eg X.prog X.w) X.A.in1.in1 (m8.«list.sort» ⟨[.ref (s.heap.objs.size+1)],[(MT "key",.ref f)]⟩) _ _ _;rw[ksk_t1];unfold ksk_tree;refine LV (I_ U rfl ?_);refine LV (PY U rfl ?_ (by rw[Mi];exact e) (Nh _));obtain⟨t,r⟩ : ∃t,(g.update (s.heap.objs.size+1) (MN λ_=>(#[]:Array dy))).get? (s.heap.objs.size+1)=bX (gv "list" #[] t):=⟨_,Sw U λ_=>#[]⟩;refine LV (SV r rfl ?_);refine LV (RQ ?_ (by show vs.length<=_;exact e));refine LV (Ti ?_ (Nh _));refine NT ?_;have B:=P.zc (h':=g.update (s.heap.objs.size+1) (MN λ_=>(#[]:Array dy))) (t':=s.toks) (fp:=[s.heap.objs.size+1]) (λb o O q=>(MH _ _ (λz=>O (by rw[z];exact List.mem_singleton_self _))).trans q) (λb O=>by rw[Ov.mp O];exact x);have M:=B.kept (h':=((g.update (s.heap.objs.size+1) (MN λ_=>(#[]:Array dy))).push (gv "tuple" vs.toArray 0)).push (gv "list" #[] 0)) (t':=s.toks) (λb o q=>LY _ (LY _ q));have y:((g.update (s.heap.objs.size+1) (MN λ_=>(#[]:Array dy))).push (gv "tuple" vs.toArray 0)).objs.size=s.heap.objs.size+3:=by rw[Ts,OL,n]
  have W:vV X pins H (s.heap.objs.size+3):=I.A8 (ML _ _) (I.fy.fresh (ML _ _));refine mV (A:=X.A.in1.in1) (ps:=ps) (xs:=xs) (ds:=ds) (H0:=H0) (H:=H) (s:={s with heap:=((g.update (s.heap.objs.size+1) (MN λ_=>(#[]:Array dy))).push (gv "tuple" vs.toArray 0)).push (gv "list" #[] 0)}) (kS:=((g.update (s.heap.objs.size+1) (MN λ_=>(#[]:Array dy))).push (gv "tuple" vs.toArray 0)).objs.size)
   G Z hr.in1.in1 I.C6.in1.in1.frames O M sub Y rd L S hF (Ml _ rfl) (LY _<|LY _ r) (by rw[y];exact λz=>absurd (SE z) ⋯) (by rw[y];exact W) x λJ H' C c N x3 hA u=>⟨_,rfl,?_⟩
  refine Mg ⟨_,rfl,h J H' C _ (I.fy.fresh<|Rb _) u.1 x3<|fU N u ?_⟩;have R : ∀i∈j7 ps,i<xs.length:=λi hi=>by have:=(jP ps).mem_iff.mp hi;have:=Ma.mp this;omega
  have T:((j7 ps).map λi=>xs.getD i V.el).length=vs.length:=by rw[Mq,(jP ps).length_eq,MQ,L]
  exact⟨by rw[T];exact e,(j7 ps).map λi=>vs.getD i MS,c,KN Y _ R,hA⟩
end
theorem YF : ∀{ds:List D} {ps:List (Int×Int)},YG F ds=bX ps->ps.length=ds.length
 | [],ps,h=>by cases h;rfl
 | d::r,ps,h=>by obtain⟨p,_,a⟩:=zg h;obtain⟨l,I,O⟩:=zG a;subst O;simp[YF I]
theorem aZ(h:sV r=bX p):r = .val (.tup [.int p.1,.int p.2]):=by
 unfold sV at h;split at h
 ·split at h
  ·split at h
   ·obtain⟨i,a,b⟩:=zg h
    obtain⟨j,I,O⟩:=zG b;subst O;rw[jD a,jD I]
   ·cases h
  ·cases h
 ·cases h
theorem WW : ∀{ds:List D} {ps:List (Int×Int)},YG F ds=bX ps->∀(i:Nat) d p,ds[i]? = bX d->ps[i]? = bX p->F [d]=bX (.val<|.tup [.int p.1,.int p.2])
 | [],ps,h,i,d,p,hd,hp=>by simp at hd
 | c::r,ps,h,i,d,p,hd,hp=>by
  obtain⟨q,b,e⟩:=zg h;obtain⟨l,I,O⟩:=zG e;subst O;cases i with
  | zero=>
   simp at hd hp;subst hd hp;obtain⟨Y,a,U⟩:=zg b;rw[a,aZ U]
  | succ i=>exact WW I i d p (by simpa using hd) (by simpa using hp)
section
variable{X:Cx}{sc:g9}{N L:List Str}{k j:Nat}{e:eh}{fq:CO (Sk×List D)}{F:List D->Option Res}{x:Str}{p p2 pos I':gB}
theorem lT(S:f7 X.prog X.w X.K X.mg X.base j x 1 F)(h:SX X sc N L k)(Z:j+1+1<=k)(c:vD sc "sorted" = cz)(z:X.mg "sorted" = none)(C:vD sc x=cz)(hq:PQ X e fq)
 (hs:ft [e] X.env=[(dn,ej e X.env)]:=by rfl) :
 PO X (.Call (.Name "sorted" p) [e] [⟨bX "key",.Name x p2,I'⟩] pos) (dq F fq):=by
 intro b s σ H Q I m;obtain⟨H0,γ,out,rc,O,q⟩:=m;obtain⟨⟨kk,ds⟩,E,O⟩:=zg O;obtain⟨J,fd,pr,hn,G,W,hk,P⟩:=S.ex;cases kk with
 | T=>cases O
 | L=>
  have O:((YG F ds).bind λps=>if ds.length<64 then bX ((j7 ps).map λi=>ds.getD i .el)else none)=bX out:=O;obtain⟨ps,t,O⟩:=zg O;by_cases y:ds.length<64
  ·rw[UJ y]at O
   cases O;refine OY (kO (u:= .builtin "sorted") I (h.gl c).1 z ⋯ (callWith_kw ?_ (by rw[hs];rfl) (by rw[hs];rfl)) ⋯ ⋯);refine eM ((jr hq qu hs) pos b s σ H (λvs d=>∃a xs U,vs=[.ref a]/\Ext H0 H U d/\fA X.K d a xs/\d5 X.K U ds xs) I ⟨H0,γ,.L,ds,rc,E,λa xs d U x1 g1 g2 Y=>⟨a,xs,U,rfl,x1,g1,Y⟩⟩) λus A m=>?_;obtain⟨vs,d,l,rv,a,xs,U,rfl,x1,g1,Y⟩:=m;obtain⟨u,rfl,ru⟩:=yN rv;cases ru;show wpAny _ _ (evalAll ((do let v <- ej (.Name x p2) X.env;DU pos;pure v)::[])) _ _ A;refine wpAny_evalAll_cons (LV (fJ l (h.gl C).1 W (LV (Tf (Mg ?_))) (h.gl C).2.2));refine wpAny_evalAll_nil ?_;obtain⟨n,r,pl,hz⟩:=l.list g1;have l1:=r.length;have l2:=Y.length;have l3:=YF t;show wpAny _ _ (call (.builtin "sorted") [.ref a] [(MT "key",.ref J)]) _ _ A;refine bB (H0:=U) (ps:=ps) (xs:=xs) (ds:=ds) (vs:=n) (F:=F) G hn (h.room.mono Z) P l x1.sub pl.isList r Y ⋯ ⋯ (WW t) λs' H' g D M o f B=>?_;refine⟨.ref D,_,B,rfl,q D _ _ g (x1.trans (f.trans (Ext.hide f.sub o _))) (xj x1.s1 M) (jo f.sub o) zN ?_⟩;refine Jx (Y.mono f.s0) _ λi R=>?_;have:=(jP ps).mem_iff.mp R;have:=Ma.mp this;omega
  ·rw[UY y]at O;cases O
end
section
variable{X:Cx}{sc:g9}{N L:List Str}{k j n i:Nat}{a b c e:eh}{es:List eh}{f:CO D}{g:CO (List D)}{p pos:gB}{x:Str}{st _j _k:i3}{yb:List i3}{F:List D->Option Res}
open Classical in
def Dd(H:Hp)(p:dv):Hp:=λc=>if c=p then none else H c
theorem N0{H:Hp}{p c:dv}(h:c≠p):Dd H p c=H c:=UY h
end
mutual
def TK:D->Bool
 | .tup a=>G9 a
 | .lst a=>G9 a
 | .lN _ _=>dn
 | .i8 _ _=>dn
 | _=>cz
def G9:List D->Bool
 | []=>cz
 | x::xs=>TK x && G9 xs
end
mutual
theorem Rep.less{K:LX}{H:Hp}{p:dv}{z:e9->Prop}(O:H p=bX (.ext z)) : ∀{d:D} {v:V},TK d=cz->Rep K H d v->Rep K (Dd H p) d v
 | .el,_,_,h=>h
 | .bl _,_,_,h=>h
 | .int _,_,_,h=>h
 | .str _,_,_,h=>h
 | .tup ds,v,n,h=>by
  obtain⟨a,b,f,g,i⟩:=(show ∃a b,v = .ref a/\g5 K H a b/\d5 K H ds b from h);refine(show ∃a b,v = .ref a/\g5 K (Dd H p) a b/\d5 K (Dd H p) ds b from⟨a,b,f,?_,d5.less O n i⟩);have I : ∀{u:HO},(∀z,u ≠ .ext z)->H a=bX u->a≠p:=λU q e=>by rw[e,O]at q;exact U _ (Nd q).symm
  rcases g with(hq | ⟨o',hq⟩) | hq
  ·exact .inl (.inl<|by rw[N0 (I (λ_=>by simp) hq)];exact hq)
  ·exact .inl<|.inr ⟨o',by rw[N0 (I (λ_=>by simp) hq)];exact hq⟩
  ·exact .inr hq
 | .lst ds,v,n,h=>by
  obtain⟨a,b,f,g,i⟩:=(show ∃a b,v = .ref a/\fA K H a b/\d5 K H ds b from h);refine(show ∃a b,v = .ref a/\fA K (Dd H p) a b/\d5 K (Dd H p) ds b from⟨a,b,f,?_,d5.less O n i⟩);have I : ∀{u:HO},(∀z,u ≠ .ext z)->H a=bX u->a≠p:=λU q e=>by rw[e,O]at q;exact U _ (Nd q).symm
  rcases g with(hq | ⟨o',hq⟩) | hq
  ·exact .inl (.inl<|by rw[N0 (I (λ_=>by simp) hq)];exact hq)
  ·exact .inl<|.inr ⟨o',by rw[N0 (I (λ_=>by simp) hq)];exact hq⟩
  ·exact .inr hq
 | .lN _ _,_,n,_=>nomatch n
 | .i8 _ _,_,n,_=>nomatch n
theorem d5.less{K:LX}{H:Hp}{p:dv}{z:e9->Prop}(I:H p=bX (.ext z)) : ∀{ds:List D} {xs:List V},G9 ds=cz->d5 K H ds xs->d5 K (Dd H p) ds xs
 | [],_,_,h=>h
 | d::ds,xs,n,h=>by obtain⟨x,r,a,b,e⟩:=(show ∃x r,xs=x::r/\Rep K H d x/\d5 K H ds r from h);have n:(TK d && G9 ds)=cz:=n;rw[Mt]at n;exact(show ∃x r,xs=x::r/\Rep K (Dd H p) d x/\d5 K (Dd H p) ds r from⟨x,r,a,Rep.less I n.1 b,d5.less I n.2 e⟩)
end
noncomputable def FC(j i:Nat)(f:CO D):CO Fl:=λb=>(jZ b[i]?).bind λa=>((f b).bind i0).bind λk=>if (0<=k/\k<a.length)/\a.length<=lim then (a[k.toNat]?).map λd=> .next ((b.set i<|.own<|a.eraseIdx k.toNat).set j (.val d))else none
noncomputable def FE(i:Nat)(f g:CO D):CO Fl:=λb=>(jZ b[i]?).bind λa=>((f b).bind i0).bind λk=>(g b).bind λd=>if (0<=k/\k<=a.length)/\a.length<lim then bX (.next<|b.set i<|.own (a.take k.toNat++d::a.drop k.toNat))else none
theorem CI(j i:Nat)(f:CO D)(γ:Ctx):FC j i f γ=(jZ γ[i]?).bind λds=>((f γ).bind i0).bind λk=>if (0<=k/\k<ds.length)/\ds.length<=lim then (ds[k.toNat]?).map λd=> .next ((γ.set i<|.own<|ds.eraseIdx k.toNat).set j (.val d))else none:=rfl
theorem CK(i:Nat)(f g:CO D)(γ:Ctx):FE i f g γ=(jZ γ[i]?).bind λds=>((f γ).bind i0).bind λk=>(g γ).bind λd=>if (0<=k/\k<=ds.length)/\ds.length<lim then bX (.next<|γ.set i<|.own (ds.take k.toNat++d::ds.drop k.toNat))else none:=rfl
noncomputable def rK(g:CO (Sk×List D)):CO D:=λd=>(g d).bind λa=>match a.1 with
 | .L=>(vL a.2).bind λb=>b.max?.map D.int
 | .T=>none
theorem uB(g:CO (Sk×List D))(γ:Ctx):rK g γ=(g γ).bind λks=>match ks.1 with
 | .L=>(vL ks.2).bind λa=>a.max?.map D.int
 | .T=>none:=rfl
def XM(i g:Nat):CO D:=cE (zF<|cE (zm i)<|zy<|.int 0)<|ze g
noncomputable def uJ(i a b:Nat):CO D:=cE (zF<|cE (zF<|cE (zF<|cE (zm i)<|zy<|.int 1)<|ze 8)<|ze a)<|ze b
def pX:CO D:=cE (zm 4)<|iT<|zy<|.int 1
end DL
namespace L2
open PySem PySem.Spec PyProof.Rows
noncomputable def Ll:V->List V->Hp->VK->Prop:=λx b H Q=>∃l a,∃i:Int,∃y,x = .ref l/\b=[.int i,y]/\H l=bX (.lst a)/\0<=i/\i.toNat<=a.length/\a.length<fh/\i<2 ^ 63/\Q .el (upd H l<|.lst (a.take i.toNat++y::a.drop i.toNat))
theorem BR{X:Cx}:P2 X "list.insert" Ll:=by
 intro d s G H x C v B Q I U Y h;obtain⟨l,E,i,y,rfl,rfl,O,m,o,A,g,q⟩:=h;cases U;obtain⟨u,w,rfl,k,f⟩:=Y.two;obtain⟨t,rfl⟩:=k;obtain⟨z,a,n,r,p,e⟩:=I.De O;have j : ¬(!Builtin.List.listFitsIndex i)=cz:=by rw[fitsIndex_both ⋯ g];decide
 refine z4 F.slot_list_insert ⟨_,e,rfl⟩ F.entry_list_insert (F.args_list_insert_3 _ _ _) (PySem.AutoSeq1.list_insert_list_int_val_1 l a.toArray n i t w j<|by rw[Mi];omega) ⟨e,?_⟩;refine⟨.el,_,I.Dy (its':=a.take i.toNat++w::a.drop i.toNat) O e ?_ ((r.take _).append (.cons f<|r.drop _)) ?_,rfl,q⟩
 ·show(let b:=if i<0 then (i+((a.toArray.size:Nat):Int)).toNat else min i.toNat a.toArray.size;(a.toArray.extract 0 b).push w++a.toArray.extract b)=_
  rw[UY ⋯,Mi,show min i.toNat a.length=i.toNat by omega];apply Array.ext';simp;exact OO ⋯
 ·rw[MW,Nm,Ou,RU]
  omega
end L2
namespace DL
open PySem PySem.Spec PyProof.Rows L2
section
variable{X:Cx}{sc:g9}{N L:List Str}{k:Nat}{a b:eh}{f g:CO D}
theorem sD(j i:Nat){x y:Str}{z cpos O pos pos':gB}(h:SX X sc N L k)(Z:yo sc N L j y=cz)(c:QE sc N i x=cz)(ha:PV X a f)(hs:ft [a] X.env=[(dn,ej a X.env)]:=by rfl)
 (C:M1 (.Name x O) "pop" X.env (ej (.Name x O) X.env)=ej (.Name x O) X.env:=by rfl)
 (J:((p8 cpos<|starEach [a] X.env).all (λx=> !x.1) && (M3 cpos<|keywordEach [] X.env).all (λx=>x.1.isSome)
   && decide ([a].length+([]:List C0).length+(if ([]:List C0).isEmpty then 0 else 1)<30))=cz:=by rfl)
 (M:(z.endLine==cpos.line)=cz:=by rfl) (S:y6 (.Call (.Attribute (.Name x O) "pop" z) [a] [] cpos) (bX (.Name y pos')) pos.line X.env=pure dn:=by rfl) :
 kr X (.Assign [.Name y pos'] (.Call (.Attribute (.Name x O) "pop" z) [a] [] cpos) pos) (FC j i f):=
 ky (h.set j Z (mq RE PySem.F.slot_list_pop PySem.F.type_list_pop mN (h.var c) (jr ha qu hs) C J M hs rfl) S) λD σ H G=>by
  obtain⟨E0,E,s,R,fl,U,I,t⟩:=G;obtain⟨g,b,I⟩:=zg I;obtain⟨n,Y,I⟩:=zg I;obtain⟨d,Y,A⟩:=zg Y;have b:=qW b;by_cases p:(0<=n/\n<g.length)/\g.length<=lim
  ·rw[UJ p]at I
   obtain⟨dk,B,I⟩:=zG I;subst I;obtain⟨a,xs,m,h2,o,l⟩:=U.rc.own i g b;refine⟨_,m,.inl ⟨rfl,_,fA.of o⟩,s,R,d,U.rc,Y,λv T e x r=>?_⟩;rw[jD A]at r;have u:=U.step x;have w:=x.s1 _ _ o;obtain⟨Q,K,P⟩:=l.get B;have as:=l.length;have W:lim<2 ^ 62:=by decide +kernel
   refine⟨a,xs,n,n.toNat,Q,rfl,by rw[jq r],w,by omega,by omega,?_,K,?_⟩
   ·unfold seqIndex?
    rw[as];simp;omega
   ·exact t _ _ e<|(u.rewrite (xs:=xs) b m<|wx _<|l.mono x.s0).u7 (P.mono x.s0)
  ·rw[UY p]at I;cases I
theorem sE(i:Nat){x:Str}{z cpos O pos:gB}(h:SX X sc N L k)(c:QE sc N i x=cz)(ha:PV X a f)(hb:PV X b g)(hs:ft [a,b] X.env=(dn,ej a X.env)::ft [b] X.env:=by rfl)(C:ft [b] X.env=[(dn,ej b X.env)]:=by rfl)
 (J:M1 (.Name x O) "insert" X.env (ej (.Name x O) X.env)=ej (.Name x O) X.env:=by rfl)
 (M:((p8 cpos<|starEach [a,b] X.env).all (λx=> !x.1) && (M3 cpos<|keywordEach [] X.env).all (λx=>x.1.isSome)
   && decide ([a,b].length+([]:List C0).length+(if ([]:List C0).isEmpty then 0 else 1)<30))=cz:=by rfl)
 (S:(z.endLine==cpos.line)=cz:=by rfl) (Z:y6 (.Call (.Attribute (.Name x O) "insert" z) [a,b] [] cpos) none pos.line X.env=pure dn:=by rfl) :
 kr X (.Expr (.Call (.Attribute (.Name x O) "insert" z) [a,b] [] cpos) pos) (FE i f g):=
 ky (Vo (mq RE PySem.F.slot_list_insert PySem.F.type_list_insert BR (h.var c) (jr ha (jr hb qu C) hs) J M S hs<|by rw[C];rfl) Z) λD σ H Q=>by
  obtain⟨E0,E,w,u,fl,U,I,y⟩:=Q;obtain⟨l,e,I⟩:=zg I;obtain⟨n,m,I⟩:=zg I;obtain⟨G,P,I⟩:=zg I;obtain⟨d,m,K⟩:=zg m;have e:=qW e;by_cases p:(0<=n/\n<=l.length)/\l.length<lim
  ·rw[UJ p]at I;cases I
   obtain⟨a,xs,s,h2,t,o⟩:=U.rc.own i l e;refine⟨_,s,.inl ⟨rfl,_,fA.of t⟩,w,u,d,U.rc,m,λv W j x r=>⟨j,u,G,U.rc.ext x,P,λT H2 A Y R=>?_⟩⟩;rw[jD K]at r;have as:=U.step<|x.trans Y;have B:=(x.trans Y).s1 _ _ t;have b5:=o.length;have b6:=k5<|Mf lim;have b7:lim<2 ^ 62:=by decide +kernel
   refine⟨a,xs,n,T,rfl,by rw[jq r],B,p.1.1,by omega,by omega,by omega,?_⟩;exact y _ _ A<|as.rewrite (xs:=xs) e s<|((o.mono (x.trans Y).s0).take _).append (d5.cons R<|(o.mono (x.trans Y).s0).drop _)
  ·rw[UY p]at I;cases I
end
theorem gL{X:Cx}(J:X.calm=cz):Zz X (.builtin "max") (λxs H Q=>∃p z,∃M:Int,xs=[.ref p]/\fA X.K H p ((z:List Int).map V.int)/\M∈z/\(∀a,a∈z->a<=M)/\Q (.int M) H):=by
 intro y s σ H vs us Q I T h;obtain⟨p,z,M,rfl,N,w,G,q⟩:=h;obtain⟨u,rfl,S⟩:=yN T;cases S;obtain⟨b,r,P,g⟩:=I.list N;have Y:=λi v=>QW r i v;have A:AllInts b.toArray:=λv O=>by rw[List.mem_toArray]at O;obtain⟨i,d⟩:=Sn O;obtain⟨k,t,_,e⟩:=Y i v d;exact⟨k,t,e⟩
 obtain⟨xs,f⟩:=A.items;have B:=r.length;rw[Mq]at B;have R:xs.size=b.length:=by have:=congrArg Array.size f;simpa[intItems]using this.symm
 have C:0<xs.size:=by have:=List.length_pos_of_mem w;omega
 have x:=P.isList;rw[f]at x;have l : ∀i,i<xs.size->∃d:i<z.length,numAt xs i=z[i]:=λi d=>by
  have m:i<b.length:=by omega
  obtain⟨k,t,n,U⟩:=Y i b[i] (LZ m);have g:i<z.length:=by omega
  rw[LZ g]at n;cases n;refine⟨g,?_⟩;have E:(intItems xs)[i]? = bX b[i]:=by rw[<- f];simp[m]
  obtain⟨t',o⟩:=intItems_at E;rw[U]at o;exact(RW.inj o).1.symm
 refine max_intList (I.ok.hd J) x C λv Z tk O L=>?_;obtain⟨t,rfl⟩:=intItems_at O;obtain⟨b1,b2⟩:=argBest_gt (numAt xs)<|xs.size - 1;obtain⟨d,e⟩:=l (argBest (λi j=>decide<|numAt xs i>numAt xs j)<|xs.size - 1) ⋯;have F:numAt xs (argBest (λi j=>decide<|numAt xs i>numAt xs j)<|xs.size - 1)=M:=by refine Int.le_antisymm (by rw[e];exact G _<|NQ d) ?_;obtain⟨j,hj,rfl⟩:=Ro w;obtain⟨W,U⟩:=l j ⋯;rw[<- U];exact b2 j ⋯
 rw[F];exact⟨.int M,H,I.kept L,⟨_,rfl⟩,q⟩
section
variable{X:Cx}{sc:g9}{N T:List Str}{k:Nat}{e:eh}{fq:CO (Sk×List D)}{p pos:gB}
theorem sr(h:SX X sc N T k)(c:vD sc "max" = cz)(z:X.mg "max" = none)(O:PQ X e fq)(hs:ft [e] X.env=[(dn,ej e X.env)]:=by rfl):PV X (.Call (.Name "max" p) [e] [] pos) (rK fq):=
 qr (kM (gL h.calm) (h.gl c).1 z PyProof.Rows.boot_max (jr O qu hs) ⋯ ⋯ hs rfl) λA H Q U=>by
  obtain⟨g,u,d,rc,I,q⟩:=U;obtain⟨⟨n,w⟩,i,I⟩:=zg I;cases n with
  | T=>cases I
  | L=>
   obtain⟨t,Y,I⟩:=zg I;obtain⟨M,j,rfl⟩:=zG I;obtain⟨o,s⟩:=List.max?_eq_some_iff.mp j;refine⟨g,u,.L,_,rc,i,λa y f b ext m x r=>?_⟩;have l:=JO r Y;subst l;exact⟨a,t,M,rfl,m,o,s,q _ f b ext rfl⟩
end
def Df(e:eh):Str:=match e with | .Name x _=>x | _=>""
def B0(e:eh):List Str:=match e with | .Tuple a _ _=>a.map Df | e=>[Df e]
def Du(N:List Str)(fs:List Nat):List (Str×Nat):=fs.map λi=>(N.getD i "",i)
theorem JU(N:List Str)(fs:List Nat):(Du N fs).map (·.2)=fs:=by unfold Du;rw[MJ];exact List.map_id fs
def oU(e:eh):Bool:=match e with | .Name _ _=>cz | _=>dn
theorem bp{e:eh}(h:oU e=cz) : ∃p,e = .Name (Df e) p:=by
 unfold oU at h;split at h
 ·exact⟨_,rfl⟩
 ·cases h
noncomputable def HC(z:g9)(N L:List Str)(is:List Nat)(es:List eh):Bool:=match is with
 | [i,j]=>(match es with | [a,b]=>oU a && (yo z N L i (Df a) && (oU b && yo z N L j (Df b))) | _=>dn)
 | [i,j,l]=>(match es with | [a,b,c]=>oU a && (yo z N L i (Df a) && (oU b && (yo z N L j (Df b) && (oU c && yo z N L l (Df c))))) | _=>dn)
 | _=>dn
noncomputable def Kc(z:g9)(N L:List Str)(e:eh)(T:Tg):Bool:=match T with
 | .nm i=>oU e && yo z N L i (Df e)
 | .tp is=>(match e with | .Tuple a _ _=>HC z N L is a | _=>dn)
theorem pL{X:Cx}{z:g9}{N L:List Str}{k:Nat}(h:SX X z N L k){e:eh}{T:Tg}(c:Kc z N L e T=cz):PG X e (o7 X.K T):=by
 cases T with
 | nm i=>
  have c:=Bool.and_eq_true_iff.mp c;obtain⟨p,q⟩:=bp c.1;rw[q];exact h.DX _ c.2
 | tp is=>
  unfold Kc at c;dsimp only at c;split at c
  ·next f j pos=>
   unfold HC at c;split at c
   ·split at c
    ·simp only[Mt]at c
     obtain⟨I,O,b1,b2⟩:=c;obtain⟨p,q⟩:=bp I;obtain⟨b,U⟩:=bp b1;rw[q,U];exact h.UT<|wz (h.DX _ O)<|wz (h.DX _ b2) eT
    ·cases c
   ·split at c
    ·simp only[Mt]at c
     obtain⟨I,O,b1,b2,Y,a⟩:=c;obtain⟨p,q⟩:=bp I;obtain⟨b,U⟩:=bp b1;obtain⟨g,d⟩:=bp Y;rw[q,U,d];exact h.UT<|wz (h.DX _ O)<|wz (h.DX _ b2)<|wz (h.DX _ a) eT
    ·cases c
   ·cases c
  ·cases c
noncomputable def cB(C scope:g9)(N:List Str)(z:eh)(T:Tg)(n:Nat)(fs:List Nat):Bool:=
 V0 C scope N (Du N fs) && (Fp (B0 z) scope (Du N fs) && (decide (∀i∈T.idx,i<(B0 z).length) && (decide ((B0 z).length=n) && Kc (yu scope C) (B0 z++(Du N fs).map (·.1)) (B0 z) z T)))
abbrev C5(X:Cx)(scope:g9)(N:List Str)(tg:eh)(fs:List Nat):=jz X scope (B0 tg++(Du N fs).map (·.1))
abbrev SA(X:Cx)(sc scope:g9)(N:List Str)(tg:eh)(fs:List Nat)(k:Nat)(fp:List dv)(s2:d7)(H2:Hp):Prop:=SX (C5 X scope N tg fs fp s2 H2) (yu scope sc) (B0 tg++(Du N fs).map (·.1)) (B0 tg) k
section
variable{X:Cx}{sc scope:g9}{N L:List Str}{k n i:Nat}{fs:List Nat}{T:Tg}{e elt tg iter D3:eh}{es:List eh}{pos p py spos cpos:gB}{x y:Str}{f g:CO D}{fo:CO (List D)}{src gl:CO (List D)}{kk:CO Bool}
theorem cA(h:SX X sc N L k)(c:cB sc scope N tg T n fs=cz):rb X scope (Du N fs)/\(∀i∈T.idx,i<(B0 tg).length)/\(B0 tg).length=n/\(∀fp C z,SA X sc scope N tg fs k fp C z)/\∀fp C z,PG (C5 X scope N tg fs fp C z) tg (o7 X.K T):=by unfold cB at c;simp only[Mt,decide_eq_true_eq]at c;obtain⟨I,O,a,b,d⟩:=c;have s : ∀fp C z,SA X sc scope N tg fs k fp C z:=λfp C z=>h.comp O;exact⟨h.A_ I,a,b,s,λfp C z=>pL (s fp C z) d⟩
theorem qG(h:SX X sc N L k)(J:rf X tg iter src)(I : ∀fp C z,SA X sc scope N tg fs k fp C z->PV (C5 X scope N tg fs fp C z) elt f)(c:cB sc scope N tg T n fs=cz:=by decide +kernel)(hs : ∀x,n7 iter X.env x=pure x:=by intro _;rfl) :
 PO X (.ListComp elt [⟨tg,iter,[],0⟩] scope pos) (zU src T n fs js f):=by
 obtain⟨a,b,d,s,q⟩:=cA h c;have r:=sJ (pos:=pos) h.calm a b J q (λfp C z=>I fp C z<|s fp C z) hs;rw[d,JU]at r;exact r
theorem Vr(h:SX X sc N L k)(J:rf X tg iter src)(I : ∀fp C z,SA X sc scope N tg fs k fp C z->mm (C5 X scope N tg fs fp C z) D3 kk)(O : ∀fp C z,SA X sc scope N tg fs k fp C z->PV (C5 X scope N tg fs fp C z) elt f)(c:cB sc scope N tg T n fs=cz:=by decide +kernel)(hs : ∀x,n7 iter X.env x=pure x:=by intro _;rfl) :
 PO X (.ListComp elt [⟨tg,iter,[D3],0⟩] scope pos) (zU src T n fs kk f):=by
 obtain⟨a,b,d,s,q⟩:=cA h c;have r:=eG (pos:=pos) h.calm a b J q (λfp C z=>I fp C z<|s fp C z) (λfp C z=>O fp C z<|s fp C z) hs;rw[d,JU]at r;exact r
theorem vb(h:SX X sc N L k)(J:rf X tg iter src)(I : ∀fp C z,SA X sc scope N tg fs k fp C z->PV (C5 X scope N tg fs fp C z) elt f)(ct:yo sc N L i y=cz:=by decide +kernel)(c:cB sc scope N tg T n fs=cz:=by decide +kernel)(hs : ∀x,n7 iter X.env x=pure x:=by intro _;rfl) :
 PS X (.Assign [.Name y py] (.ListComp elt [⟨tg,iter,[],0⟩] scope cpos) spos) (Wn (tO X.K<|zU src T n fs js f)<|yP i):=by
 obtain⟨a,b,d,s,q⟩:=cA h c;have r:=O' (cpos:=cpos) (spos:=spos) (py:=py) i h ct h.calm a b J q (λfp C z=>I fp C z<|s fp C z) hs;rw[d,JU]at r;exact r
theorem lQ(h:SX X sc N L k)(J:rf X tg iter src)(I : ∀fp C z,SA X sc scope N tg fs k fp C z->mm (C5 X scope N tg fs fp C z) D3 kk)(O : ∀fp C z,SA X sc scope N tg fs k fp C z->PV (C5 X scope N tg fs fp C z) elt f)(ct:yo sc N L i y=cz:=by decide +kernel)(c:cB sc scope N tg T n fs=cz:=by decide +kernel)(hs : ∀x,n7 iter X.env x=pure x:=by intro _;rfl) :
 PS X (.Assign [.Name y py] (.ListComp elt [⟨tg,iter,[D3],0⟩] scope cpos) spos) (Wn (tO X.K<|zU src T n fs kk f)<|yP i):=by
 obtain⟨a,b,d,s,q⟩:=cA h c;have r:=FY (cpos:=cpos) (spos:=spos) (py:=py) i h ct h.calm a b J q (λfp C z=>I fp C z<|s fp C z) (λfp C z=>O fp C z<|s fp C z) hs;rw[d,JU]at r;exact r
theorem Bi(h:SX X sc N L k)(J:rf X tg iter src)(I : ∀fp C z,SA X sc scope N tg fs k fp C z->PO (C5 X scope N tg fs fp C z) elt fo)(ct:yo sc N L i y=cz:=by decide +kernel)(c:cB sc scope N tg T n fs=cz:=by decide +kernel)(hs : ∀x,n7 iter X.env x=pure x:=by intro _;rfl) :
 kr X (.Assign [.Name y py] (.ListComp elt [⟨tg,iter,[],0⟩] scope cpos) spos) (iQ i<|Wx src T n fs fo):=by
 obtain⟨a,b,d,s,q⟩:=cA h c;have r:=lM (cpos:=cpos) (spos:=spos) (py:=py) i h ct h.calm a b J q (λfp C z=>I fp C z<|s fp C z) hs;rw[d,JU]at r;exact r
theorem zw(h:SX X sc N L k)(c:QE sc N i x=cz:=by decide +kernel):PV X (.Name x pos) (ze i):=AZ i<|h.var c
theorem zX(h:SX X sc N L k)(c:QE sc N i x=cz:=by decide +kernel):PQ X (.Name x pos) (zm i):=Bl i<|h.var c
theorem iE(h:SX X sc N L k)(c:Kc sc N L e T=cz:=by decide +kernel):PG X e (o7 X.K T):=pL h c
theorem jw(h:SX X sc N L k)(I:PV X e f)(c:yo sc N L i x=cz:=by decide +kernel)(hs:y6 e (bX (.Name x py)) pos.line X.env=pure dn:=by rfl):kr X (.Assign [.Name x py] e pos) (jy i f):=sC i<|h.set i c I hs
theorem x6(h:SX X sc N L k)(I:PO X e fo)(c:yo sc N L i x=cz:=by decide +kernel)(hs:y6 e (bX (.Name x py)) pos.line X.env=pure dn:=by rfl):kr X (.Assign [.Name x py] e pos) (qw i fo):=XW i<|h.set i c I hs
theorem qk{z:List i3}{F:CO Fl}(hx:X.xe=λ_ _=>False)(h:SX X sc N L k)(C:h7 X tg iter src)(I:gZ X z F)(c:Kc sc N L tg T=cz:=by decide +kernel)(hs : ∀x,n7 iter X.env x=pure x:=by intro _;rfl):kr X (.For tg iter z [] pos) (k3 src T F):=sF (oH hx) h.calm C (pL h c) I hs
variable{j:Nat}{F:List D->Option Res}
theorem zZ(I:f7 X.prog X.w X.K X.mg X.base j x n F)(h:SX X sc N L k)(z:Dq X (e::es) n gl)(O:j<=k:=by decide)(c:vD sc x=cz:=by decide +kernel)
 (U:ft (e::es) X.env=(dn,ej e X.env)::ft es X.env:=by rfl) (Y:(p8 pos<|starEach es X.env).any (·.1)=dn:=by rfl):PV X (.Call (.Name x p) (e::es) [] pos) (zH F gl):=FX I O h c z U Y
theorem ke(I:f7 X.prog X.w X.K X.mg X.base j x n F)(h:SX X sc N L k)(z:Dq X (e::es) n gl)(O:j<=k:=by decide)(c:vD sc x=cz:=by decide +kernel)
 (U:ft (e::es) X.env=(dn,ej e X.env)::ft es X.env:=by rfl) (Y:(p8 pos<|starEach es X.env).any (·.1)=dn:=by rfl):PO X (.Call (.Name x p) (e::es) [] pos) (jF F gl):=Ga I O h c z U Y
end
noncomputable def XB:=jj 1 (zQ (l9 (uK (k9 (sB (Dk .str (ze 0)))) (sB (zE D4 (x9 (ze 0)) (zy (.int 6))))) (qp (zy (.bl dn))) xM) (qp (FJ (jS (zU (Ax (ze 0)) (.nm 0) 1 [] js (Ld (ze 0) (zF (zy (.tup [.str "r",.str "l"])))))))))
noncomputable def ZK:=jj 2<|zQ (l9 (uK (k9<|sB<|zH V9<|zb (ze 1)<|zb (zy<|.int 2) zI)<|uK (k9<|sB<|zH Vd<|zb (ze 0)<|zb (cE (zm 1)<|zy<|.int 0) zI)<|k9<|sB<|zH Vd<|zb (ze 0)<|zb (cE (zm 1)<|zy<|.int 1) zI) (qp<|zy<|.bl dn) xM)<|qp<|zE wh (cE (zm 1)<|zy<|.int 0)<|cE (zm 1)<|zy<|.int 1
noncomputable def jb:=jj 5<|zQ (l9 (rR (sB<|zE Dt (yO<|zm 0)<|zy<|.int 1)<|sB<|zE hG (zE q8 (cE (zm 0)<|zy<|.int 0)<|zy<|.int 2)<|zy<|.int 1) (zQ (jy 2<|cE (zm 0)<|zE jJ (zy<|.int 1)<|zE q8 (ze 1)<|zE yR (yO<|zm 0)<|zy<|.int 1)<|zQ (k3 (zS<|dr (zy<|.int 60)<|zE v9 (ze 1)<|zE yR (yO<|zm 0)<|zy<|.int 1) (.nm 3)<|jy 2<|zE v9 (ze 2)<|zE uf (zy<|.int 10)<|zy<|.int 9)<|qp<|zE q8 (ze 2)<|zE uf (zy<|.int 10)<|zy<|.int 9) xM)<|zQ (jy 4<|ze 1)<|zQ (l9 (sB<|zE Dt (yO<|zm 0)<|zy<|.int 0) (jy 4<|cE (zm 0)<|zE q8 (ze 1)<|yO<|zm 0) xM)<|qp<|zE q8 (zE xu (zE q8 (zE jJ (zE jJ (zE jJ (zE xu (zE q8 (ze 4)<|zE uf (zy<|.int 10)<|zy<|.int 30)<|zy<|.int 48271)<|zE xu (zE xu (zy<|.int 7)<|ze 1)<|ze 1)<|zE xu (zy<|.int 13)<|ze 1)<|zy<|.int 5)<|zy<|.int 2147483647)<|zy<|.int 69621)<|zy<|.int 1000000007
noncomputable def J8:=jj 5<|zQ (jy 3<|jU<|zU (KF (cE (zm 0)<|zy<|.int 2)<|cE (zm 2)<|zy<|.int 2) (.tp [0,1]) 2 [] js (zE jJ (ze 0)<|ze 1))<|zQ (jy 4<|jU<|zU (zV<|zF<|cE (zm 1)<|zy<|.int 2) (.nm 0) 1 [0] js (zE jJ (zE xu (qF<|zb (zy<|.int 0) zI)<|cE (zm 1)<|zy<|.int 1)<|ze 0))<|qp<|qF<|zb (zE jJ (cE (zm 0)<|zy<|.int 0)<|cE (zm 1)<|zy<|.int 0)<|zb (zE jJ (cE (zm 0)<|zy<|.int 1)<|cE (zm 1)<|zy<|.int 1)<|zb (jv<|zF<|jU<|QI (zm 3)<|zm 4) zI
noncomputable def hV:=jj 2<|qp<|zH QT<|zb (cE (zm 0)<|zy<|.int 0)<|zb (cE (zm 1)<|zy<|.int 1) zI
noncomputable def Zx:=jj 2<|qp<|zH J8<|zb (ze 0)<|zb (ze 1)<|zb (zH hV<|zb (ze 0)<|zb (ze 1) zI) zI
noncomputable def nU:=jj 3<|vX<|jF qO<|zb (ze 0)<|zb (cE (zm 1)<|zy<|.int 0)<|zb (jU<|zU (zV<|zm 2) (.nm 0) 1 [0,1] js (zH bZ<|zb (ze 1)<|zb (ze 2)<|zb (ze 0) zI)) zI
noncomputable def CV:=jj 6<|zQ (jy 3<|zH qd<|zb (cE (zF<|cE (zm 0)<|zy<|.int 1)<|ze 1) zI)<|zQ (qw 4<|zU (zV<|zF<|cE (zm 3)<|zy<|.int 2) (.nm 0) 1 [] js (zE jJ (ze 0)<|ze 0))<|zQ (k3 (zV<|zF<|cf (cE (zm 0)<|zy<|.int 2) (rr<|ze 1)<|rr<|ze 2) (.nm 5)<|KG 4<|qw 4<|AB nU xG<|zb (cE (zm 0)<|zy<|.int 0)<|zb (cE (zm 5)<|zy<|.int 0)<|zb (zH Zx<|zb (ze 3)<|zb (cE (zm 5)<|zy<|.int 1) zI)<|zb (ze 4) zI)<|vK 4
noncomputable def xP:=jj 3 (zQ (l9 (sB (zE hG (cE (zm 1) (zy (.int 0))) (cE (zm 2) (zy (.int 0))))) (qp (zy (.bl cz))) xM) (qp (zE hG (k8 (ze 0) (zE yR (iV (cE (zm 1) (zy (.int 0))) (cE (zm 2) (zy (.int 0)))) (zy (.int 1)))) (aN (sB (zE D5 (cE (zm 1) (zy (.int 0))) (cE (zm 2) (zy (.int 0))))) (zy (.str "l")) (zy (.str "r"))))))
noncomputable def xo:=jj 3 (zQ (l9 (sB (zE hG (cE (zm 1) (zy (.int 1))) (cE (zm 2) (zy (.int 1))))) (qp (zy (.bl cz))) xM) (qp (zE hG (k8 (ze 0) (dr (cE (zm 1) (zy (.int 1))) (cE (zm 2) (zy (.int 1))))) (aN (sB (zE Dt (cE (zm 1) (zy (.int 1))) (cE (zm 2) (zy (.int 1))))) (zy (.str "r")) (zy (.str "l"))))))
noncomputable def kn:=jj 3<|zQ (l9 (sB<|zE Dt (iV (cE (zm 1)<|zy<|.int 0)<|cE (zm 2)<|zy<|.int 0)<|dr (cE (zm 1)<|zy<|.int 1)<|cE (zm 2)<|zy<|.int 1) (qp<|zy<|.int 0) xM)<|qp<|aN (rR (sB<|zH xP<|zb (ze 0)<|zb (ze 1)<|zb (ze 2) zI)<|sB<|zH xo<|zb (ze 0)<|zb (ze 1)<|zb (ze 2) zI) (zy<|.int 1)<|zy<|.int 0
noncomputable def jQ:=jj 2 (zQ (l9 (sB (zE hG (k8 (ze 0) (ze 1)) (zy (.str "r")))) (qp (qF (zb (ze 1) (zb (zE jJ (ze 1) (zy (.int 1))) zI)))) xM) (qp (qF (zb (zE jJ (ze 1) (zy (.int 1))) (zb (ze 1) zI)))))
noncomputable def qA:=jj 8<|zQ (qw 4<|j4 zI)<|zQ (k3 (zS<|ze 2) (.nm 5)<|zQ (jy 6<|zH jb<|zb (ze 0)<|zb (zE jJ (ze 1)<|ze 5) zI)<|zQ (jy 7<|zE q8 (ze 6)<|ze 3)<|jI 4<|qF<|zb (ze 7)<|zb (zE jJ (ze 7)<|zE q8 (zE v9 (ze 6)<|ze 3)<|zE yR (ze 3)<|ze 7) zI)<|vX<|dm<|zm 4
noncomputable def xJ:=jj 2 (qp (rL (zy (.str "")) (jS (zU (zS (zE yR (ze 1) (zy (.int 1)))) (.nm 0) 1 [0] js (k8 (zy (.str "rl")) (zE q8 (zE v9 (ze 1) (cE (jS (j4 (zb (zy (.int 1)) (zb (zy (.int 2)) (zb (zy (.int 4)) (zb (zy (.int 8)) (zb (zy (.int 16)) zI))))))) (ze 0))) (zy (.int 2))))))))
noncomputable def yI:=jj 3<|zQ (jy 2<|zH xn<|zb (ze 0) zI)<|vX<|zU (Yc<|ze 2) (.tp [0,1]) 2 [0,1] js (qF<|zb (cE (zF<|cE (zm 3)<|zy<|.int 1)<|zH vH<|zb (ze 0)<|zb (ze 1) zI)<|zb (cE (zF<|cE (zm 2)<|zy<|.int 1)<|zH qm<|zb (ze 0)<|zb (ze 1) zI) zI)
noncomputable def xp:=jj 10<|zQ (yW (.tp [3,4])<|ze 2)<|zQ (qw 5<|j4 zI)<|zQ (k3 (zS<|x9<|ze 1) (.nm 6)<|zQ (yW (.tp [7,8])<|zH jQ<|zb (ze 1)<|zb (ze 6) zI)<|zQ (jy 9<|jv<|jS<|zU (zV<|zF<|cE (zm 4)<|ze 6) (.nm 0) 1 [] js (jv<|zm 0))<|jI 5<|qF<|zb (k8 (ze 1)<|ze 6)<|zb (qF<|zb (cE (zm 3)<|ze 8)<|zb (cE (zm 3)<|ze 7)<|zb (ze 9) zI) zI)<|qp<|qF<|zb (ze 0)<|zb (jv<|zm 3)<|zb (jv<|zm 5) zI
def vq:=jj 2<|vX<|du (cE (zm 1)<|zy<|.int 1)<|cE (zm 0)<|zy<|.int 1
noncomputable def kU:=jj 1<|qp<|iP<|jS<|zU (zV<|zm 0) (.tp [0,1]) 2 [] js (zE xu (ze 0)<|ze 1)
noncomputable def jY:=jj 1<|qp<|qF<|zb (cE (zm 0)<|zy<|.int 0)<|zb (zE yR (zE jJ (cE (zm 0)<|zy<|.int 0)<|yO<|zF<|cE (zm 0)<|zy<|.int 1)<|zy<|.int 1) zI
noncomputable def jV:=jj 2<|qp<|ZC wh D5 (cE (zm 0)<|zy<|.int 0) (ze 1)<|zE jJ (cE (zm 0)<|zy<|.int 0)<|yO<|zF<|cE (zm 0)<|zy<|.int 1
noncomputable def qX:=jj 2<|vX<|zU (zV<|zm 0) (.nm 0) 1 [1] (sB<|zH jV<|zb (ze 0)<|zb (ze 1) zI) (cE (zF<|cE (zm 0)<|zy<|.int 1)<|zE yR (ze 1)<|cE (zm 0)<|zy<|.int 0)
def kI:=jj 2<|qp<|zH qE<|zb (qF<|zb (yO<|zm 1)<|zb (ze 0)<|zb (jv<|zm 1) zI) zI
noncomputable def kW:=jj 5<|zQ (jy 4<|jU<|zU (KF (ze 2)<|ze 1) (.tp [0,1]) 2 [3] (sB<|zH jV<|zb (ze 1)<|zb (ze 2) zI) (ze 0))<|qp<|zH bZ<|zb (cE (zm 0)<|zy<|.int 0)<|zb (zH kI<|zb (cE (zF<|cE (zm 0)<|zy<|.int 1)<|ze 3)<|zb (jU<|jF qX<|zb (ze 1)<|zb (ze 3) zI) zI)<|zb (ze 4) zI
noncomputable def KB:=jj 5<|zQ (jy 3<|cE (zm 1)<|zH qK<|zb (ze 2) zI)<|zQ (jy 4<|jU<|zU (zS<|yO<|zF<|cE (zm 3)<|zy<|.int 1) (.nm 0) 1 [0,1,2,3] js (zH kW<|zb (ze 1)<|zb (ze 2)<|zb (ze 3)<|zb (zE jJ (cE (zm 4)<|zy<|.int 0)<|ze 0) zI))<|qp<|qF<|zb (cE (zm 3)<|zy<|.int 0)<|zb (jv<|zm 4) zI
def TR:=(jy 3<|cE (zF<|cE (zF<|cE (zm 0)<|zy<|.int 2)<|ze 1)<|zy<|.int 0)
def TU:=(jy 4<|cE (zF<|cE (zF<|cE (zm 0)<|zy<|.int 2)<|ze 1)<|zy<|.int 1)
noncomputable def N9:=(jy 5 (aN (sB (zE hG (ze 3) (zy (.str "r")))) (jU (jF vG (zb (cE (zm 0) (zy (.int 0))) (zb (ze 4) zI)))) (jU (jF Zy (zb (cE (zm 0) (zy (.int 0))) (zb (ze 4) zI))))))
noncomputable def TV:=(jy 6<|jU<|jF xG<|zb (cE (zm 0)<|zy<|.int 0)<|zb (zH kI<|zb (cE (zF<|cE (zm 0)<|zy<|.int 1)<|ze 1)<|zb (jU<|jF qX<|zb (ze 2)<|zb (ze 1) zI) zI)<|zb (ze 5) zI)
noncomputable def TX:=(jy 7<|om<|zU (zV<|zm 6) (.nm 0) 1 [] js (qF<|zb (zH qK<|zb (ze 0) zI)<|zb (ze 0) zI))
noncomputable def TY:=(vX<|zU (oj<|ze 2) (.tp [0,1]) 2 [0,2,7] js (aN (sB<|AA (ze 0)<|ze 4) (zH KB<|zb (ze 2)<|zb (ze 3)<|zb (Ej (ze 4)<|ze 0) zI)<|ze 1))
def w9:=jj 8<|zQ TR<|zQ TU<|zQ N9<|zQ TV<|zQ TX TY
noncomputable def E2:=(l9 (sB (zE hG (cE (zm 1) (zy (.int 0))) (zy (.str "l")))) (qp (zH vE (zb (ze 0) (zb (cE (zm 1) (zy (.int 1))) (zb (ze 2) zI))))) xM)
def N3:=(jy 3<|zH bZ<|zb (ze 0)<|zb (cE (zm 1)<|zy<|.int 1)<|zb (ze 2) zI)
def N4:=(qp<|aN (sB<|uL<|zm 3) (ze 3)<|zy .el)
def xF:=jj 4<|zQ E2<|zQ N3 N4
noncomputable def T9:=(jy 3<|zH xF<|zb (ze 0)<|zb (ze 1)<|zb (cE (zF<|cE (zm 2)<|zy<|.int 1)<|iT<|zy<|.int 1) zI)
noncomputable def O2:=(qp<|aN (sB<|zE Cz (ze 3)<|zy .el) (ze 2)<|qF<|zb (cE (zm 2)<|zy<|.int 0)<|zb (zE jJ (cE (zm 2)<|zy<|.int 1)<|qF<|zb (ze 3) zI) zI)
def yj:=jj 4<|zQ T9 O2
noncomputable def H9:=(l9 (sB (zE hG (cE (zm 1) (zy (.int 0))) (zy (.str "l")))) (vX (jF vG (zb (ze 0) (zb (cE (zm 1) (zy (.int 1))) zI)))) xM)
noncomputable def TL:=(jy 2<|jU<|zU (zV<|jS<|jF Zy<|zb (ze 0)<|zb (cE (zm 1)<|zy<|.int 1) zI) (.nm 0) 1 [] js (zH qK<|zb (ze 0) zI))
noncomputable def TM:=(vX<|zU (iY<|cE (zF<|zH qd<|zb (cE (zF<|cE (zm 1)<|zy<|.int 1)<|zy<|.int 0) zI)<|zy<|.int 2) (.tp [0,1]) 2 [2] (sB<|XQ (ze 0)<|zm 2) (ze 1))
def yG:=jj 3<|zQ H9<|zQ TL TM
def S7:=(jy 3<|cE (zm 0)<|zy<|.int 0)
def S8:=(jy 4<|cE (zF<|cE (zm 0)<|zy<|.int 2)<|ze 1)
noncomputable def S9:=(jy 5<|jU<|zU (zV<|zm 2) (.nm 0) 1 [1] (k9<|sB<|zH jV<|zb (ze 0)<|zb (ze 1) zI) (ze 0))
noncomputable def Ta:=(jy 6<|jU<|jF w9<|zb (ze 0)<|zb (ze 1)<|zb (jU<|zU (zV<|zm 2) (.nm 0) 1 [1] (sB<|zH jV<|zb (ze 0)<|zb (ze 1) zI) (ze 0)) zI)
noncomputable def Tb:=(jy 7<|jU<|zU (zV<|zm 6) (.nm 0) 1 [3,4] js (zH yj<|zb (ze 1)<|zb (ze 2)<|zb (ze 0) zI))
noncomputable def Tw:=(jy 8<|jU<|zU (zV<|jS<|jF yG<|zb (ze 3)<|zb (ze 4) zI) (.nm 0) 1 [1] js (qF<|zb (zE jJ (ze 1)<|zy<|.int 1)<|zb (qF<|zb (ze 0) zI) zI))
noncomputable def M7:=(qp (jU (QI (zm 5) (zF (aN (sB (zE hG (cE (zm 4) (zy (.int 0))) (zy (.str "r")))) (jU (QI (zm 8) (zm 7))) (jU (QI (zm 7) (zm 8))))))))
def QC:=jj 9<|zQ S7<|zQ S8<|zQ S9<|zQ Ta<|zQ Tb<|zQ Tw M7
noncomputable def M0:=(jy 1<|jU<|zU (zV<|zF<|cE (zF<|zH qd<|zb (cE (zF<|cE (zm 0)<|zy<|.int 1)<|zy<|.int 0) zI)<|zy<|.int 2) (.nm 0) 1 [] js (qF<|zb (zy<|.int 0)<|zb (qF<|zb (ze 0) zI) zI))
noncomputable def R4:=(k3 (zS<|yO<|zF<|cE (zm 0)<|zy<|.int 2) (.nm 2)<|jy 1<|zH QC<|zb (ze 0)<|zb (ze 2)<|zb (ze 1) zI)
def R5:=(vX<|dq jY<|zm 1)
def yJ:=jj 3<|zQ M0<|zQ R4 R5
def R6:=(jy 1<|jU<|jF yJ<|zb (ze 0) zI)
noncomputable def R7:=(jy 2<|jU<|zU (iY<|cE (zm 0)<|zy<|.int 1) (.tp [0,1]) 2 [1] js (zH kI<|zb (ze 1)<|zb (jU<|jF qX<|zb (ze 2)<|zb (ze 0) zI) zI))
noncomputable def R8:=(jy 3<|jU<|zU (zV<|zm 2) (.nm 0) 1 [0] js (zH kJ<|zb (cE (zm 1)<|zy<|.int 0)<|zb (ze 0) zI))
noncomputable def R9:=(qp<|qF<|zb (jU<|zU (zV<|zm 1) (.nm 0) 1 [] js (zH jY<|zb (ze 0) zI))<|zb (ze 3)<|zb (ze 2) zI)
def xq:=jj 4<|zQ R6<|zQ R7<|zQ R8 R9
noncomputable def CY:=jj 7<|zQ (jy 3<|jU<|jF CV<|zb (ze 0)<|zb (ze 1)<|zb (ze 2) zI)<|zQ (jy 4<|cE (zF<|cE (zm 0)<|zy<|.int 1)<|ze 1)<|zQ (jy 5<|cE (zF<|cE (zm 0)<|zy<|.int 1)<|ze 2)<|zQ (jy 6<|jU<|jF qO<|zb (cE (zm 0)<|zy<|.int 0)<|zb (zE jJ (ze 5)<|ze 4)<|zb (jU<|zU (zV<|zm 3) (.nm 0) 1 [4] js (zE jJ (cf (ze 0) (rr<|ze 1) cg)<|cf (ze 0) cg<|rr<|ze 1)) zI)<|qp<|zE yR (zE yR (yO<|zm 3)<|yO<|jS<|jF jW<|zb (ze 5)<|zb (ze 6) zI)<|yO<|jS<|jF jW<|zb (ze 4)<|zb (ze 3) zI
noncomputable def kG:=jj 3<|qp<|iP<|jS<|zU (zV<|zm 1) (.nm 0) 1 [0,2] js (zH kn<|zb (ze 1)<|zb (ze 0)<|zb (ze 2) zI)
noncomputable def qB:=jj 3<|zQ (rO<|zH qo<|zb (ze 0)<|zb (ze 1) zI)<|zQ (jy 2<|cE (zF<|zH xq<|zb (ze 0) zI)<|zy<|.int 0)<|qp<|iP<|jS<|zU (zV<|zF<|cE (zF<|zH xq<|zb (ze 1) zI)<|zy<|.int 0) (.nm 0) 1 [0,2] js (zH kG<|zb (zH xn<|zb (ze 1) zI)<|zb (ze 2)<|zb (ze 0) zI)
noncomputable def xE:=jj 2<|zQ (rO<|zH qo<|zb (ze 0)<|zb (ze 1) zI)<|qp<|zE yR (zH kU<|zb (jU<|jF vq<|zb (ze 0)<|zb (ze 1) zI) zI)<|zH kU<|zb (jU<|jF yI<|zb (ze 0)<|zb (ze 1) zI) zI
noncomputable def kY:=jj 2<|qp<|zE yR (zH qB<|zb (ze 0)<|zb (ze 1) zI)<|zH xE<|zb (ze 0)<|zb (ze 1) zI
noncomputable def gP:CO (List D):=zU (zS<|yO<|zm 1) (.nm 0) 1 [1,3] (sB<|ZC wh wh (cE (zF<|cE (zm 1)<|ze 0)<|zy<|.int 0) (ze 2)<|cE (zF<|cE (zm 1)<|ze 0)<|zy<|.int 1) (ze 0)
noncomputable def uq:CO D:=jU<|zU (zV<|zF<|cE (zm 1)<|ze 2) (.nm 0) 1 [0] js (QH<|zE hG (ze 1)<|ze 0)
def ur:CO (List D):=zU (zV<|zF<|cE (zm 2)<|ze 7) (.nm 0) 1 [2,6] js uq
def nN:=zQ (yW (.tp [6,7])<|zH jQ<|zb (ze 0)<|zb (ze 5) zI)<|jI 4<|jU ur
noncomputable def uu:=KG 4<|qp<|qF<|zb (jU<|zU (zV<|zm 2) (.nm 0) 1 [] js (yO<|zm 0))<|zb (ze 4) zI
noncomputable def ql:=jj 8<|zQ (qw 2<|j4 zI)<|zQ (k3 (zS<|zE jJ (x9<|ze 0)<|zy<|.int 1) (.nm 3)<|jI 2<|jU gP)<|zQ (KG 2<|qw 4<|j4 zI)<|zQ (k3 (zS<|x9<|ze 0) (.nm 5) nN) uu
noncomputable def pK:CO (List D):=zU (zS<|yO<|zm 3) (.nm 0) 1 [0,2,3] js (zE xu (cE (zm 3)<|ze 0)<|cE (zF<|cE (zm 2)<|ze 0)<|ze 1)
noncomputable def aF:CO (List D):=zU (zS<|ze 3) (.nm 0) 1 [0,2,5] js (zE q8 (iP<|jS pK)<|ze 1)
noncomputable def jE:=jj 6<|zQ (qw 4<|j4 zI)<|zQ (k3 (zV<|zF<|ze 1) (.nm 5)<|jI 4<|jU aF)<|vK 4
noncomputable def O3:=(qw 4<|zU (zS<|ze 3) (.nm 0) 1 [3] js (jU<|zU (zS<|ze 1) (.nm 0) 1 [0] js (QH<|zE hG (ze 1)<|ze 0)))
noncomputable def O4:=(iQ 5<|Wx (zS<|ze 3) (.nm 0) 1 [3] (zU (zS<|ze 1) (.nm 0) 1 [0] js (QH<|zE hG (ze 1)<|ze 0)))
noncomputable def Fo:=zQ (Jw 4 (ze 8)<|jU<|zU (KF (cE (zm 4)<|ze 8)<|cE (zm 4)<|ze 9) (.tp [0,1]) 2 [2,10] js (zE q8 (zE jJ (ze 0)<|zE xu (ze 3)<|ze 1)<|ze 2))<|dw 5 11 (ze 9)<|zE q8 (zE yR (cE (zm 11)<|ze 9)<|zE xu (ze 10)<|cE (zm 11)<|ze 8)<|ze 2
noncomputable def HF:=zQ (jy 7<|zH jb<|zb (ze 0)<|zb (zE jJ (ze 1)<|ze 6) zI)<|zQ (jy 8<|zE q8 (ze 7)<|ze 3)<|zQ (jy 9<|zE q8 (zE jJ (zE jJ (ze 8)<|zy<|.int 1)<|zE q8 (zE v9 (ze 7)<|zy<|.int 8)<|zE yR (ze 3)<|zy<|.int 1)<|ze 3)<|zQ (jy 10<|zE q8 (zE v9 (ze 7)<|zy<|.int 64)<|ze 2) Fo
def iI:=k3 (zS<|zE yR (zE xu (zy<|.int 2)<|ze 3)<|zy<|.int 2) (.nm 6) HF
def Ai:=iX 5<|KG 4<|qp<|qF<|zb (ze 4)<|zb (ze 5) zI
def qh:=jj 12<|zQ O3<|zQ O4<|zQ iI Ai
noncomputable def iZ:=jI 7<|zH qh<|zb (ze 0)<|zb (zE jJ (ze 1)<|zE xu (zy<|.int 9)<|ze 8)<|zb (ze 2)<|zb (cE (zm 5)<|ze 8) zI
noncomputable def AD:=jy 12<|jU<|jF jE<|zb (ze 2)<|zb (cE (zm 6)<|ze 8)<|zb (cE (zF<|cE (zm 7)<|ze 10)<|zy<|.int 1)<|zb (cE (zm 5)<|ze 10) zI
noncomputable def AC:=jI 9<|jU<|jF jE<|zb (ze 2)<|zb (cE (zF<|cE (zm 7)<|ze 11)<|zy<|.int 0)<|zb (ze 12)<|zb (cE (zm 5)<|ze 10) zI
def lh:=zQ (yW (.tp [10,11])<|zH jQ<|zb (ze 3)<|zb (ze 8) zI)<|zQ AD AC
noncomputable def xQ:=jj 13<|zQ (yW (.tp [5,6])<|zH ql<|zb (ze 3)<|zb (ze 4) zI)<|zQ (qw 7<|j4 zI)<|zQ (k3 (zS<|yO<|zm 5) (.nm 8) iZ)<|zQ (qw 9<|j4 zI)<|zQ (k3 (zS<|x9<|ze 3) (.nm 8) lh)<|KG 9<|qp<|qF<|zb (ze 5)<|zb (ze 9) zI
noncomputable def qL:=jj 11<|zQ (qw 6<|j4 zI)<|zQ (k3 (zS<|ze 3) (.nm 7)<|zQ (qw 8<|j4 zI)<|zQ (k3 (zS<|ze 4) (.nm 9)<|zQ (jy 10<|zH jb<|zb (ze 0)<|zb (zE jJ (zE jJ (ze 1)<|zE xu (ze 4)<|ze 7)<|ze 9) zI)<|jI 8<|zE xu (zE q8 (zE v9 (ze 10)<|zy<|.int 7)<|ze 2)<|QH<|zE D4 (zE q8 (zE v9 (ze 10)<|zy<|.int 64)<|zy<|.int 3)<|ze 5)<|KG 8<|jI 6<|ze 8)<|vK 6
noncomputable def kX:=jj 11<|zQ (jy 6<|jU<|zU (zS<|zE jJ (x9<|ze 3)<|zy<|.int 1) (.nm 0) 1 [0,1,4] js (zE q8 (zE v9 (zH jb<|zb (ze 1)<|zb (zE jJ (ze 2)<|ze 0) zI)<|zy<|.int 3)<|zE jJ (ze 3)<|zy<|.int 1))<|zQ (qw 7<|j4 zI)<|zQ (k3 (zS<|x9<|ze 3) (.nm 8)<|zQ (yW (.tp [9,10])<|zH jQ<|zb (ze 3)<|zb (ze 8) zI)<|jI 7<|jU<|jF qL<|zb (ze 0)<|zb (zE jJ (zE jJ (ze 1)<|zy<|.int 5)<|zE xu (zy<|.int 9)<|ze 8)<|zb (ze 2)<|zb (cE (zm 6)<|ze 10)<|zb (cE (zm 6)<|ze 9)<|zb (ze 5) zI)<|KG 7<|qp<|qF<|zb (ze 6)<|zb (ze 7) zI
def Ef:=qw 4<|j4<|zb (zy<|.int 0) zI
noncomputable def Ee:=k3 (KF (cE (zm 2)<|zy<|.int 0)<|cE (zm 3)<|zy<|.int 0) (.tp [5,6])<|jI 4<|zE jJ (cE (zm 4)<|iT<|zy<|.int 1)<|zE xu (ze 5)<|ze 6
def Fw:=qw 7<|j4 zI
def Fz:=qw 13<|iR (jS<|j4<|zb (zy<|.int 0) zI) pX
def Fy:=jy 14<|zE jJ (cE (zm 4)<|ze 10)<|zE xu (ze 11)<|XM 2 10
def pZ:=Jw 13 (zE jJ (ze 14)<|ze 15)<|uJ 2 15 12
def IZ:=k3 (zS<|XM 2 10) (.nm 15) pZ
def Fx:=jy 14<|zE jJ (cE (zm 4)<|ze 9)<|ze 12
noncomputable def Aq:=zQ (jy 16<|uJ 3 11 15)<|Jw 13 (zE jJ (ze 14)<|zE xu (ze 15)<|XM 2 9)<|zE q8 (zE yR (zy<|.int 0)<|ze 16)<|ze 0
def IY:=k3 (zS<|XM 3 9) (.nm 15) Aq
def HI:=KG 13<|jI 7<|ze 13
def Fs:=zQ Fz<|zQ Fy<|zQ IZ<|zQ Fx<|zQ IY HI
def An:=k3 (zS<|XM 2 9) (.nm 12) Fs
def Ft:=k3 (zS<|XM 3 10) (.nm 11) An
def Fv:=yW (.tp [9,10])<|zH jQ<|zb (ze 1)<|zb (ze 8) zI
def Fq:=zQ Fv Ft
def HH:=KG 7<|qp<|qF<|zb pX<|zb (ze 7) zI
def qQ:=jj 17<|zQ Ef<|zQ Ee<|zQ Fw<|zQ (k3 (zS<|x9<|ze 1) (.nm 8) Fq) HH
noncomputable def Es:=jy 3<|iP<|jS<|zU (KF (cE (zm 1)<|zy<|.int 0)<|cE (zm 2)<|zy<|.int 0) (.tp [0,1]) 2 [] js (zE xu (ze 0)<|ze 1)
noncomputable def Gb:=zQ (yW (.tp [5,6])<|zH jQ<|zb (ze 0)<|zb (ze 4) zI)<|jy 3<|zE yR (ze 3)<|zE xu (XM 1 5)<|XM 2 6
def xK:=jj 7<|zQ Es<|zQ (k3 (zS<|x9<|ze 0) (.nm 4) Gb)<|vK 3
def El:=qw 1<|zU (zV<|zm 1) (.nm 0) 1 [] js (jU<|XR<|zm 0)
def FR:=jy 2<|zy<|.int 0
noncomputable def uM:CO D:=rK<|jS<|QI (jS<|j4<|zb (zy<|.int 0) zI)<|jS<|zU (zV<|zm 1) (.nm 0) 1 [] js (yO<|zm 0)
noncomputable def AL:CO Bool:=sB<|zE nr (zE q8 (cE (zF<|cE (zm 2)<|ze 0)<|ze 3)<|ze 1)<|zy<|.int 0
def FQ:=jy 4<|jU<|rQ 1<|zU (ku (ze 2)<|yO<|zm 1) (.nm 0) 1 [0,1,3] AL (ze 0)
def FP:=FC 5 1<|cE (zm 4)<|zy<|.int 0
noncomputable def rX:CO Bool:=sB<|zE hG (zE q8 (zE xu (ze 0)<|cE (zm 3)<|ze 2)<|ze 1)<|zy<|.int 1
noncomputable def FO:=jy 6<|cE (jS<|zU (ku (zy<|.int 1)<|ze 0) (.nm 0) 1 [0,3,5] rX (ze 0))<|zy<|.int 0
noncomputable def FN:=jy 5<|jU<|zU (zV<|zm 5) (.nm 0) 1 [0,6] js (zE q8 (zE xu (ze 0)<|ze 2)<|ze 1)
def FM:=FE 1 (ze 2)<|ze 5
def dD:=jy 8<|cE (zF<|cE (zm 1)<|ze 7)<|ze 3
noncomputable def dC:=Jw 1 (ze 7)<|jU<|zU (KF (cE (zm 1)<|ze 7)<|ze 5) (.tp [0,1]) 2 [0,8] js (zE q8 (zE yR (ze 0)<|zE xu (ze 3)<|ze 1)<|ze 2)
def FL:=k3 (ku (zE jJ (ze 2)<|zy<|.int 1)<|yO<|zm 1) (.nm 7)<|zQ dD dC
def FK:=jy 2<|zE jJ (ze 2)<|zy<|.int 1
def HN:=zQ FP<|zQ FO<|zQ FN<|zQ FM<|zQ FL FK
def Em:=zQ FQ<|l9 (sB<|zE nr (ze 4)<|jU<|j4 zI) HN xM
def vF:=jj 9<|zQ El<|zQ FR<|zQ (k3 (zS uM) (.nm 3) Em)<|vK 2
noncomputable def qM:=jj 10<|zQ (jy 4<|zH xp<|zb (ze 0)<|zb (ze 1)<|zb (ze 2) zI)<|zQ (jy 5<|zH xp<|zb (ze 0)<|zb (ze 1)<|zb (ze 3) zI)<|zQ (yW (.tp [6,7])<|zH qQ<|zb (ze 0)<|zb (ze 1)<|zb (ze 2)<|zb (ze 3) zI)<|zQ (jy 8<|zH xE<|zb (ze 4)<|zb (ze 5) zI)<|zQ (jy 9<|zH kY<|zb (ze 4)<|zb (ze 5) zI)<|zQ (l9 (uK (k9<|sB<|zH kH<|zb (ze 8) zI)<|sB<|zE nr (ze 8)<|zH xK<|zb (ze 1)<|zb (ze 2)<|zb (ze 3) zI) (qp<|zy<|.bl dn) xM)<|zQ (l9 (uK (k9<|sB<|zH kH<|zb (ze 9) zI)<|sB<|zE nr (ze 9)<|zE yR (yO<|zm 7)<|zH vF<|zb (ze 0)<|zb (ze 7) zI) (qp<|zy<|.bl dn) xM)<|qp<|zE hG (zH qB<|zb (ze 4)<|zb (ze 5) zI)<|zE jJ (ze 8)<|ze 9
def pG:=jy 1<|zH jb<|zb (ze 0)<|zb (zy<|.int 0) zI
noncomputable def pF:=jy 2<|cE (jS<|j4<|zb (zy<|.int 2)<|zb (zy<|.int 3)<|zb (zy<|.int 5)<|zb (zy<|.int 7) zI)<|zE q8 (ze 1)<|zy<|.int 4
def pE:=jy 3<|zE jJ (zy<|.int 1)<|zE q8 (zE v9 (ze 1)<|zy<|.int 4)<|zy<|.int 4
def pD:=jy 4<|zH xJ<|zb (zE v9 (ze 1)<|zy<|.int 16)<|zb (ze 3) zI
noncomputable def pC:=jy 5<|zH kX<|zb (ze 0)<|zb (zy<|.int 1)<|zb (ze 2)<|zb (ze 4)<|zb (zy<|.int 3)<|zb (zE q8 (zE v9 (ze 1)<|zy<|.int 512)<|zy<|.int 3) zI
noncomputable def pB:=jy 6<|zH kX<|zb (ze 0)<|zb (zy<|.int 60)<|zb (ze 2)<|zb (ze 4)<|zb (zy<|.int 3)<|zb (zE q8 (zE v9 (ze 1)<|zy<|.int 512)<|zy<|.int 3) zI
noncomputable def cF:=l9 (sB<|zE hG (zE q8 (zE v9 (ze 1)<|zy<|.int 1536)<|zy<|.int 2)<|zy<|.int 1) (zQ (jy 7<|jU<|jF qA<|zb (ze 0)<|zb (zy<|.int 1)<|zb (zE q8 (zE v9 (ze 1)<|zy<|.int 3072)<|zy<|.int 5)<|zb (ze 3) zI)<|zQ (jy 8<|jU<|jF qA<|zb (ze 0)<|zb (zy<|.int 6)<|zb (zE q8 (zE v9 (ze 1)<|zy<|.int 15360)<|zy<|.int 5)<|zb (ze 3) zI)<|zQ (jy 5<|zH xQ<|zb (ze 0)<|zb (zy<|.int 12)<|zb (ze 2)<|zb (ze 4)<|zb (ze 7) zI)<|jy 6<|zH xQ<|zb (ze 0)<|zb (zy<|.int 70)<|zb (ze 2)<|zb (ze 4)<|zb (ze 8) zI) xM
noncomputable def pA:=qp<|rS (zH qM<|zb (ze 2)<|zb (ze 4)<|zb (ze 5)<|zb (ze 6) zI)<|zH qM<|zb (ze 2)<|zb (ze 4)<|zb (ze 6)<|zb (ze 5) zI
def QB:=jj 9<|zQ pG<|zQ pF<|zQ pE<|zQ pD<|zQ pC<|zQ pB<|zQ cF pA
theorem zv(h:F γ=bX (.next γ'))(g:G γ'=r):zQ F G γ=r:=by rw[jC,h];exact g
theorem jk(h:F (z6 n ds)=bX (.ret r)):jj n F ds=bX r:=by show(F<|z6 n ds).bind _=_;rw[h];rfl
theorem YO{T:Tg}{F:CO Fl}(P:Nat->Ctx->Prop)(n:Nat){γ:Ctx}(U:P 0 γ)(step : ∀s,s<n->∀γ,P s γ->∃γ1 I,qZ T (.int (s:Int)) γ=bX γ1/\F γ1=bX (.next I)/\P (s+1) I) :
 ∃γ',kD T F ((LW n).map λ(i:Nat)=>D.int (i:Int)) γ=bX (.next γ')/\P n γ':=by
 have a : ∀(k s:Nat) (γ:Ctx),s+k=n->P s γ->∃γ',kD T F ((NH s k).map λ(i:Nat)=>D.int (i:Int)) γ=bX (.next γ')/\P n γ':=by
  intro k
  induction k with
  | zero=>
   intro s γ e O;obtain rfl:s=n:=by omega
   exact⟨γ,rfl,O⟩
  | succ k Y=>
   intro s γ e O;obtain⟨γ1,I,b,d,f⟩:=step s ⋯ γ O;obtain⟨γ',g,h⟩:=Y (s+1) I ⋯ f;refine⟨γ',?_,h⟩;rw[Pn,MI,qD,b];simp only[Me,d];exact g
 have:=a n 0 γ ⋯ U;rw[<- OB]at this;exact this
theorem jA(P:Nat->Ctx->Prop)(n:Nat)(z:n<=lim)(O:f γ=bX (.int (n:Int)))(U:P 0 γ)(step : ∀s,s<n->∀γ,P s γ->∃γ1 I,qZ T (.int (s:Int)) γ=bX γ1/\F γ1=bX (.next I)/\P (s+1) I) :
 ∃γ',k3 (zS f) T F γ=bX (.next γ')/\P n γ':=by
 obtain⟨γ',e,Y⟩:=YO P n U step;refine⟨γ',?_,Y⟩;have a:=jm;have r:inR (n:Int)=cz:=yM ⋯ ⋯;rw[ZH,w6,O];simp only[Me,k6,r,if_true,NM,jL];rw[jd n λi=>(i:Int)];exact e
abbrev p9(k:Sk)(xs:List D):D:=match k with | .T=>D.tup xs | .L=>D.lst xs
@[simp] theorem Ie(k xs):jx (p9 k xs)=bX (k,xs):=by cases k<;>rfl
theorem Xz(k:Sk)(f:Nat->Int)(I:0<p)(z:n<=lim) :
 xW [.int p,p9 k (zA n f)]=bX (.val<|.tup<|zA n λi=>f i%p):=by
 simp[xW,jj,z6,je,z,kK];unfold zA;rw[zB (r:=λi=>D.int<|f i%p)]
 ·simp
 ·intro i a
  refine zD rfl rfl ?_;simp[I]
theorem hU(f:Nat->Int)(I:0<p)(z:n<=lim) :
 xW [.int p,.tup (zA n f)]=bX (.val<|.tup<|zA n λi=>f i%p):=Xz .T f I z
theorem QA(f:Nat->Int)(I:0<p)(z:n<=lim) :
 xW [.int p,.lst (zA n f)]=bX (.val<|.tup<|zA n λi=>f i%p):=Xz .L f I z
theorem aw(k:Sk)(f:UV)(g:Nat->Int)(O:0<p)(I:h<=lim)(z:w<=lim)(U : ∀i j,i<h->j<w->0<=f i j/\f i j<100) :
 bZ [.int p,kQ h w f,p9 k (zA w g)]=bX (.val<|.tup<|zA h λi=>zh (λj=>f i j*g j) w%p):=by
 simp[bZ,jj,z6,je,I,kK,kQ,Mb];unfold jg;rw[zB (r:=λi=>D.int<|zh (λj=>f i j*g j) w)]
 ·simp
  rw[show(List.map (λi=>D.int<|zh (λj=>f i j*g j) w)<|LW h)=zA h λi=>zh (λj=>f i j*g j) w from rfl,QA _ O I];rfl
 ·intro i a
  refine zD rfl rfl ?_;simp[je,ZR,z];rw[zB (r:=λj=>D.int<|f i j*g j)]
  ·simp
   rw[show(List.map (λj=>D.int<|f i j*g j)<|LW w)=zA w λj=>f i j*g j from rfl,yV]
  ·intro j Y
   refine zD rfl rfl ?_;have:=U i j (Ma.mp a)<|Ma.mp Y;simp[kE (f i j) (g j) ⋯ ⋯]
theorem Zf(f:UV)(I:h<=lim)(z:w<=lim):qE [kQ h w f]=bX (.val<|kQ w h λi j=>f j i):=by
 simp[qE,jj,z6,je,I,z,kK,kQ,Mb,jC,jL];rw[jd w λi=>(i:Int)];rw[zB (r:=λj=>D.tup<|zA h λi=>f i j)]
 ·simp
  rfl
 ·intro j O
  refine zD rfl rfl ?_;simp[je,I,kK];unfold jg;rw[zB (r:=λi=>D.int<|f i j)]
  ·simp
   rfl
  ·intro i b
   refine zD rfl rfl ?_;have a:=Ma.mp O;simp[a,ZY _ a]
theorem vp(z:n<=lim):qd [.int n]=bX (.val<|kQ n n λi j=>if i=j then 1 else 0):=by
 simp[qd,jj,z6,jC,z,je,kK,Mb,jL];rw[jd n λi=>(i:Int)];rw[zB (r:=λi=>D.tup<|zA n λj=>if i=j then 1 else 0)]
 ·simp
  rfl
 ·intro i a
  refine zD rfl rfl ?_;simp[z,je,Mb,jL,kK];rw[jd n λi=>(i:Int)];rw[zB (r:=λj=>D.int<|if i=j then 1 else 0)]
  ·simp
   rfl
  ·intro j I
   refine zD rfl rfl ?_;simp;by_cases e:i=j
   ·simp[e]
   ·rw[UY ⋯,UY e]
theorem dG(d:D)(w:Nat):Mb w d=(LW w).map λ_=>d:=by
 induction w with
 | zero=>rfl
 | succ n I=>rw[List.replicate_succ',I,Nx,Nb];simp
def xT(z:List Int):D:= .lst (z.map D.int)
mutual
theorem Uv : ∀d:D,lU d d=cz
 | .el=>rfl
 | .bl b=>by simp[lU]
 | .int i=>by simp[lU]
 | .str x=>by simp[lU]
 | .tup e=>by simp only[lU];exact D7 e
 | .lst e=>by simp only[lU];exact D7 e
 | .lN a b=>by simp only[lU];rw[D7 a,D7 b];rfl
 | .i8 a b=>by simp only[lU];rw[D7 b];simp
theorem D7 : ∀ds:List D,u0 ds ds=cz
 | []=>rfl
 | d::ds=>by simp only[u0,Uv d,D7 ds,Bool.and_self]
end
theorem Kq : ∀{l:List D} {n:Nat},(∀d∈l,deep d<=n)->A7 l<=n
 | [],n,_=>Nh n
 | d::ds,n,h=>by simp only[A7];exact Nat.max_le.mpr ⟨h d Mn,Kq λe I=>h e<|Mm _ I⟩
theorem aa(n f):deep (.tup<|zA n f)<=1:=by
 simp only[deep];have:A7 (zA n f)<=0:=Kq λd a=>by simp[zA]at a;obtain⟨i,_,rfl⟩:=a;exact Mf _
 omega
theorem nE(h w f):deep (.tup<|jg h w f)<=2:=by
 simp only[deep];have:A7 (jg h w f)<=1:=Kq λd a=>by simp[jg]at a;obtain⟨i,_,rfl⟩:=a;exact aa _ _
 omega
theorem Vz : ∀{l:List D},(∀d∈l,i6 d=cz)->u5 l=cz
 | [],_=>rfl
 | d::ds,h=>by simp only[u5,h d Mn,Vz λe I=>h e<|Mm _ I,Bool.and_self]
theorem fj(h:deep d<=n)(C:n<=20)(z:i6 d=cz):m7 d=cz:=by unfold m7;rw[z,Bool.and_true];exact decide_eq_true<|Np h C
theorem fi(n f):i6 (.tup<|zA n f)=cz:=by
 simp only[i6];exact Vz λd a=>by simp[zA]at a;obtain⟨i,_,rfl⟩:=a;rfl
theorem tf(h w f):i6 (.tup<|jg h w f)=cz:=by
 simp only[i6];exact Vz λd a=>by simp[jg]at a;obtain⟨i,_,rfl⟩:=a;exact fi _ _
theorem J7(i:Int):kH [.int i]=bX (.val<|.bl cz):=by simp[kH,jj,z6,tH]
theorem Xl(k:Int)(I:0<k) : ∃n:Nat,m%k=n/\(n:Int)<k:=by have a:=MF m (show k≠0 by omega);have d:=Mp m I;obtain⟨n,b⟩:=OK a;exact⟨n,b,by omega⟩
def h9(b:Bool):Nat:=if b then 108 else 114
def yk(c:Nat):Str:=⟨#[c]⟩
theorem Xp : ∀(l:List Nat),(Tp "" (l.map yk)).cps.toList=l
 | []=>rfl
 | [c]=>rfl
 | c::d::l=>by
  have I:=Xp (d::l);show((yk c++("" : Str))++Tp "" ((d::l).map yk)).cps.toList=_;have e : ∀a b:Str,(a++b).cps.toList=a.cps.toList++b.cps.toList:=λa b=>by show(a.cps++b.cps).toList=_;simp
  rw[e,e,I];rfl
def qc(m:Nat)(w:UK):Str:=Tp "" ((LW m).map λk=>yk (h9 (w k)))
theorem ki(m w):(qc m w).cps.toList=(LW m).map λk=>h9 (w k):=by have:=Xp<|(LW m).map λk=>h9<|w k;rw[MJ]at this;exact this
theorem ym(m w):(qc m w).length=m:=by show(qc m w).cps.size=m;rw[<- NG,ki];simp
theorem qU{m:Nat}(w)(z:m<=1000):jO (qc m w)=cz:=decide_eq_true (by rw[ym];exact z)
theorem XI{z:Type}(g:z->Str) : ∀l:List z,K3 (l.map λx=>D.str<|g x)=bX (l.map g)
 | []=>rfl
 | a::l=>by simp[K3,XI g l]
def eK(w:UK)(wd:UX)(k:Nat):Nat:=if w k then wd k else wd (k+1)
def ed(w:UK)(wd:UX)(k:Nat):Nat:=if w k then wd (k+1)else wd k
noncomputable def Zh(w:UK)(wd:UX)(T:UW)(k:Nat):D:= .tup [.str (yk<|h9<|w k),kQ (eK w wd k) (ed w wd k) (T k)]
def k7(m:Nat)(w:UK)(wd:UX)(T:UW):List D:=(LW m).map (Zh w wd T)
noncomputable def j5(p:Int)(m:Nat)(w:UK)(wd:UX)(T:UW):D:= .tup [.int p,.tup<|zA (m+1) λk=>(wd k:Int),.tup (k7 m w wd T)]
@[simp] theorem Y8(m w wd T):(k7 m w wd T).length=m:=by simp[k7]
theorem wm{m k:Nat}(w)(z:m<=1000)(I:k<m)(γ:Ctx)(f g:CO D)(O:f γ=bX (.str<|qc m w))(U:g γ=bX (.int k)):k8 f g γ=bX (.str<|yk<|h9<|w k):=by rw[w5,O,U];simp only[Me,k6];rw[UJ (qU w z),ki];simp[I,yk]
theorem oY(b:Bool):hG (.str (yk (h9 b))) (.str "l")=bX (.bl b):=by
 have e : ∀b:Bool,(yk (h9 b)==(MT "l"))=b:=by decide +kernel
 have I : ∀b:Bool,m7 (.str<|yk<|h9 b)=cz:=by decide +kernel
 have O:m7 (.str (MT "l"))=cz:=by decide +kernel
 unfold hG;rw[UJ ⟨I b,O⟩];show bX (D.bl (yk (h9 b)==MT "l"))=_;rw[e]
theorem BN(b:Bool):m7 (.str<|yk<|h9 b)=cz:=by cases b<;>decide +kernel
theorem JX(b:Bool):hG (.str (yk (h9 b))) (.str "r")=bX (.bl (!b)):=by
 have e : ∀b:Bool,(yk (h9 b)==(MT "r")) = !b:=by decide +kernel
 have I:m7 (.str (MT "r"))=cz:=by decide +kernel
 unfold hG;rw[UJ ⟨BN b,I⟩];show bX (D.bl (yk (h9 b)==MT "r"))=_;rw[e]
theorem zx : ∀{n:Nat},(∀k,k<n->f k=g k)->zh f n=zh g n
 | 0,_=>rfl
 | n+1,h=>by simp only[zh];rw[zx (n:=n) λk I=>h k ⋯,h n ⋯]
theorem zM(n:Nat):zh (λ_=>0) n=0:=by
 induction n with
 | zero=>rfl
 | succ n I=>simp[zh,I]
theorem zR(z:i<n)(h : ∀k,k<n->k≠i->f k=0):zh f n=f i:=by
 induction n with
 | zero=>omega
 | succ n I=>
  simp only[zh];by_cases e:i=n
  ·subst e
   rw[zx (g:=λ_=>0) (λk O=>h k ⋯ ⋯),zM];omega
  ·rw[I ⋯ λk O=>h k ⋯,h n ⋯ ⋯]
   omega
theorem ju(f g:Nat->Int)(n:Nat):zh (λk=>f k+g k) n=zh f n+zh g n:=by
 induction n with
 | zero=>rfl
 | succ n I=>simp only[zh,I];omega
theorem kj(f:Nat->Int)(c:Int)(n:Nat):zh (λk=>f k*c) n=zh f n*c:=by
 induction n with
 | zero=>simp[zh]
 | succ n I=>simp only[zh,I,Rc]
theorem zY(f:Nat->Int)(c:Int)(n:Nat):zh (λk=>c*f k) n=c*zh f n:=by
 induction n with
 | zero=>simp[zh]
 | succ n I=>simp only[zh,I,OX]
theorem jT(f:UV)(n m:Nat):zh (λi=>zh (λj=>f i j) m) n=zh (λj=>zh (λi=>f i j) n) m:=by
 induction n with
 | zero=>simp[zh,zM]
 | succ n I=>simp only[zh];rw[I,<- ju]
theorem zO : ∀{n:Nat},(∀k,k<n->f k%p=g k%p)->zh f n%p=zh g n%p
 | 0,_=>rfl
 | n+1,h=>by simp only[zh];rw[MU,zO (n:=n)<|λk I=>h k ⋯,h n ⋯,<- MU]
theorem fz(p x y:Int):(x%p*y)%p=(x*y)%p:=by rw[Mh,MZ,<- Mh]
theorem wJ(p x y:Int):(x*(y%p))%p=(x*y)%p:=by rw[Mh,MZ,<- Mh]
theorem KU(p:Int)(a b c:UV)(m w i j:Nat) :
 zh (λk=>a i k*(zh (λl=>b k l*c l j) w%p)) m%p=zh (λl=>(zh (λk=>a i k*b k l) m%p)*c l j) w%p:=by
 rw[zO (g:=λk=>zh (λl=>a i k*(b k l*c l j)) w) (λk _=>by rw[wJ,zY]),
  zO (f:=λl=>(zh (λk=>a i k*b k l) m%p)*c l j) (g:=λl=>zh (λk=>a i k*(b k l*c l j)) m) (λl _=>by rw[fz,<- kj];exact congrArg (· % p)<|zx λk _=>NR _ _ _),jT]
abbrev Vc:=Nat->Int
def Pr(p:Int):Prop:=p=2\/p=3\/p=5\/p=7
theorem Pr.pos(h:Pr p):0<p:=by unfold Pr at h;omega
theorem Pr.two(h:Pr p):2<=p:=by unfold Pr at h;omega
theorem Pr.le(h:Pr p):p<=7:=by unfold Pr at h;omega
theorem Pr.one(h:Pr p):(1:Int)%p=1:=MR ⋯ (by have:=h.two;omega)
inductive Span(p:Int)(n:Nat)(G:Vc->Prop):Vc->Prop where
 | zero {v:Vc}:(∀i,i<n->v i%p=0)->Span p n G v
 | step {v w g:Vc} {c:Int}:G g->Span p n G w->(∀i,i<n->v i%p=(w i+c*g i)%p)->Span p n G v
section
variable{p:Int}{n:Nat}{G G':Vc->Prop}
theorem Span.congr(h:Span p n G v)(e : ∀i,i<n->v' i%p=v i%p):Span p n G v':=by
 cases h with
 | zero h=>exact .zero λi a=>by rw[e i a,h i a]
 | step I b h=>exact .step I b λi a=>by rw[e i a,h i a]
theorem Span.gen(h:G g):Span p n G g:= .step (c:=1) h (.zero (v:=λ_=>0) λi _=>by simp) λi _=>by simp
theorem Span.add(O:Span p n G v)(z:Span p n G w) : ∀c:Int,Span p n G λi=>w i+c*v i:=by
 induction O with
 | zero h=>
  intro c;refine z.congr λi a=>?_;rw[MU,Mh,h i a];simp
 | @step v b g I U d h Y=>
  intro c;refine .step (c:=c*I) U (Y c) λi a=>?_;have e:(c*v i)%p=(c*(b i+I*g i))%p:=by rw[Mh,h i a,<- Mh]
  rw[MU,e,<- MU];congr 1;rw[OX,<- NR,Int.add_assoc]
theorem Span.smul(I:Span p n G v)(c:Int):Span p n G λi=>c*v i:=
 (I.add (w:=λ_=>0) (.zero λi _=>by simp) c).congr λi _=>by simp
theorem Span.le(h:Span p n G v)(I : ∀g,G g->Span p n G' g):Span p n G' v:=by
 induction h with
 | zero h=>exact .zero h
 | step O a h U=>exact((I _ O).add U _).congr h
end
structure hL(p:Int)(n r:Nat)(B:Nat->Vc)(l:UX):Prop where
 lt : ∀k,k<r->l k<n
 mono : ∀k m,k<m->m<r->l k<l m
 one : ∀k,k<r->B k (l k)=1
 md : ∀k j,k<r->j<l k->B k j=0
 qi : ∀k m,k<r->m<r->m≠k->B k (l m)=0
 iW : ∀k i,k<r->i<n->0<=B k i/\B k i<p
def eA(r:Nat)(B:Nat->Vc):Vc->Prop:=λv=>∃k,k<r/\v=B k
section
variable{p:Int}{n r r':Nat}{B B':Nat->Vc}{l l':UX}
theorem ZP(O:hL p n r B l)(h:Span p n (eA r B) v) : ∀i,i<n->v i%p=zh (λk=>v (l k)*B k i) r%p:=by
 induction h with
 | @zero v h=>
  intro i a;rw[h i a];have:zh (λk=>v (l k)*B k i) r%p=zh (λ_=>0) r%p:=zO λk I=>by rw[Mh,h _ (O.lt k I)];simp
  rw[this,zM];rfl
 | @step v w g c U j h Y=>
  intro i a;obtain⟨m,b,rfl⟩:=U;rw[h i a];have e:zh (λk=>v (l k)*B k i) r%p=zh (λk=>w (l k)*B k i+c*B m (l k)*B k i) r%p:=zO λk I=>by rw[Mh,h _<|O.lt k I,<- Mh,Rc]
  have f:zh (λk=>c*B m (l k)*B k i) r=c*B m i:=by rw[zR (i:=m) b λk I d=>by rw[O.qi m k b I d];simp,O.one m b];simp
  rw[e,ju,f,MU,Y i a,<- MU]
theorem VN(I:hL p n r B l)(h:Span p n (eA r B) v)(U:j<n)(Y:v j%p≠0)(hz : ∀i,i<j->v i%p=0) : ∃k,k<r/\l k=j:=by
 apply NC;intro a;apply Y;rw[ZP I h j U];have:zh (λk=>v (l k)*B k j) r%p=zh (λ_=>0) r%p:=zO λk O=>by
  have b:l k≠j:=λe=>a ⟨k,O,e⟩;rcases Mz (l k) j with q | q
  ·rw[Mh,hz _ q];simp
  ·rw[I.md k j O ⋯];simp
 rw[this,zM];rfl
theorem WV(O : ∀k m,k<m->m<r->l k<l m)(U : ∀k m,k<m->m<r'->l' k<l' m)(C : ∀k,k<r->∃m,m<r'/\l' m=l k)(J : ∀k,k<r'->∃m,m<r/\l m=l' k) :
 ∀k,k<r->k<r'/\l k=l' k:=by
 intro k
 induction k using Nat.strongRecOn with
 | ind k Y=>
  intro a;obtain⟨m,b,em⟩:=C k a;have e:k<=m:=by
   rcases Mz m k with q | q
   ·have:=(Y m q ⋯).2
    have:=O m k q a;omega
   ·exact q
  have I:k<r':=by omega
  refine⟨I,?_⟩;obtain⟨q,d,eq⟩:=J k I;have f:k<=q:=by
   rcases Mz q k with z | z
   ·have:=(Y q z ⋯).2
    have:=U q k z I;omega
   ·exact z
  rcases Mz k m with z | z
  ·have g:=U k m z b
   have h:l k<=l q:=by
    rcases Mz k q with y | y
    ·exact Sh<|O k q y d
    ·have:k=q:=by omega
     subst this;exact Mf _
   omega
  ·have:m=k:=by omega
   subst this;exact em.symm
theorem J2(J:Pr p)(O:hL p n r B l)(U:hL p n r' B' l')(z : ∀v,Span p n (eA r B) v->Span p n (eA r' B') v)(C : ∀v,Span p n (eA r' B') v->Span p n (eA r B) v) :
 r=r'/\(∀k,k<r->l k=l' k)/\∀k i,k<r->i<n->B k i=B' k i:=by
 have one:=J.one;have f : ∀k,k<r->∃m,m<r'/\l' m=l k:=λk I=>VN U (z _<|.gen ⟨k,I,rfl⟩) (O.lt k I) (by rw[O.one k I,one];decide) λi a=>by rw[O.md k i I a];simp
 have g : ∀k,k<r'->∃m,m<r/\l m=l' k:=λk I=>VN O (C _<|.gen ⟨k,I,rfl⟩) (U.lt k I) (by rw[U.one k I,one];decide) λi a=>by rw[U.md k i I a];simp
 have b:=WV O.mono U.mono f g;have j:=WV U.mono O.mono g f;have o:r=r':=by
  rcases Ra r r' with q | q | q
  ·exact absurd (j r q).1 (Nn _)
  ·exact q
  ·exact absurd (b r' q).1 (Nn _)
 subst o;refine⟨rfl,λk I=>(b k I).2,λk i I a=>?_⟩;have c:=ZP U (z _<|.gen ⟨k,I,rfl⟩) i a;rw[zR (i:=k) I λm d h=>by rw[<- (b m d).2,O.qi k m I d h];simp,<- (b k I).2,O.one k I,Int.one_mul]at c;have Y:=O.iW k i I a;have e:=U.iW k i I a;rw[MR Y.1 Y.2,MR e.1 e.2]at c;exact c
end
theorem jl(q:α->Bool)(r:α->D) : ∀(l:List α),(∀x∈l,∃γ1,qZ T (g x) γ=bX γ1/\k γ1=bX (q x)/\(q x=cz->f γ1=bX (r x)))->
 zW T k f γ (l.map g)=bX ((l.filter q).map r)
 | [],_=>rfl
 | x::l,h=>by
  obtain⟨γ1,a,b,O⟩:=h x Mn;have I:=jl q r l λy U=>h y<|Mm _ U;simp only[MI,zW,a,b,Me];cases e:q x with
  | true=>simp[O e,I,e]
  | false=>simp[I,e]
theorem Cj(I:Pr p)(O:0<x)(z:x<p) : ∃y:Nat,1<=y/\(y:Int)<p/\(y:Int)*x%p=1:=by
 rcases I with rfl | rfl | rfl | rfl
 ·obtain rfl:x=1:=by omega
  exact⟨1,by decide,by decide,by decide⟩
 ·rcases (show x=1\/x=2 by omega)with rfl | rfl
  ·exact⟨1,by decide,by decide,by decide⟩
  ·exact⟨2,by decide,by decide,by decide⟩
 ·rcases (show x=1\/x=2\/x=3\/x=4 by omega)with rfl | rfl | rfl | rfl
  ·exact⟨1,by decide,by decide,by decide⟩
  ·exact⟨3,by decide,by decide,by decide⟩
  ·exact⟨2,by decide,by decide,by decide⟩
  ·exact⟨4,by decide,by decide,by decide⟩
 ·rcases (show x=1\/x=2\/x=3\/x=4\/x=5\/x=6 by omega)with rfl | rfl | rfl | rfl | rfl | rfl
  ·exact⟨1,by decide,by decide,by decide⟩
  ·exact⟨4,by decide,by decide,by decide⟩
  ·exact⟨5,by decide,by decide,by decide⟩
  ·exact⟨2,by decide,by decide,by decide⟩
  ·exact⟨3,by decide,by decide,by decide⟩
  ·exact⟨6,by decide,by decide,by decide⟩
theorem YT{q:UK}{n a:Nat}{yb:List Nat}(h:(LW n).filter q=a::yb):a<n/\q a=cz/\∀i,i<a->q i=dn:=by
 have b:a∈(LW n).filter q:=by rw[h];exact Mn
 refine⟨Ma.mp (Mu.mp b).1,(Mu.mp b).2,λi f=>?_⟩;apply NC;intro I;have O:q i=cz:=by simpa using I
 have U:i∈a::yb:=by rw[<- h];exact Mu.mpr ⟨Ma.mpr (by have:=Ma.mp (Mu.mp b).1;omega),O⟩
 have d:(a::yb).Pairwise (· < ·):=by rw[<- h];exact RG _ P5
 rcases Mj.mp U with e | e
 ·omega
 ·have:=(List.pairwise_cons.mp d).1 i e;omega
theorem fv(h:(LW n).filter q=[]) : ∀i,i<n->q i=dn:=λi a=>by apply NC;intro I;have:i∈(LW n).filter q:=Mu.mpr ⟨Ma.mpr a,by simpa using I⟩;rw[h]at this;simp at this
theorem Ve(I:Pr p)(O:0<x)(z:x<p) : ∃y,Zg [.int p,.int x]=bX (.val<|.int y)/\1<=y/\y<p/\x*y%p=1:=by
 rcases I with rfl | rfl | rfl | rfl
 ·have:x=1:=by omega
  subst this;exact⟨1,rfl,by decide,by decide,by decide⟩
 ·have:x=1\/x=2:=by omega
  rcases this with rfl | rfl
  ·exact⟨1,rfl,by decide,by decide,by decide⟩
  ·exact⟨2,rfl,by decide,by decide,by decide⟩
 ·have:x=1\/x=2\/x=3\/x=4:=by omega
  rcases this with rfl | rfl | rfl | rfl
  ·exact⟨1,rfl,by decide,by decide,by decide⟩
  ·exact⟨3,rfl,by decide,by decide,by decide⟩
  ·exact⟨2,rfl,by decide,by decide,by decide⟩
  ·exact⟨4,rfl,by decide,by decide,by decide⟩
 ·have:x=1\/x=2\/x=3\/x=4\/x=5\/x=6:=by omega
  rcases this with rfl | rfl | rfl | rfl | rfl | rfl
  ·exact⟨1,rfl,by decide,by decide,by decide⟩
  ·exact⟨4,rfl,by decide,by decide,by decide⟩
  ·exact⟨5,rfl,by decide,by decide,by decide⟩
  ·exact⟨2,rfl,by decide,by decide,by decide⟩
  ·exact⟨3,rfl,by decide,by decide,by decide⟩
  ·exact⟨6,rfl,by decide,by decide,by decide⟩
theorem ZL(O:Pr p)(C:n<=lim)(I:t<n)(w P:Nat->Int)(z : ∀i,i<n->0<=w i/\w i<p) :
 qN [.int p,.tup<|zA n w,.tup<|zA n P,.int t]=bX (.val<|.tup<|zA n λi=>(w i - w t*P i)%p):=by
 have b:=z t I;have d:=O.le;have Y : ∀x,vT (w t) x=cz:=λx=>kE _ _ ⋯ ⋯;by_cases U:w t=0
 ·simp[qN,jj,z6,jC,I,U]
  apply yD;intro i a;rw[MR (z i a).1 (z i a).2]
 ·simp[qN,jj,z6,jC,I,U,ZR,C,je,kK,Mb]
  rw[zB (r:=λi=>D.int<|w i - w t*P i)]
  ·rw[<- jd]
   simp[QA _ O.pos C]
  ·intro i a
   refine zD rfl rfl ?_;simp[Y]
theorem VD{l:UX}{r t:Nat}(z : ∀k m,k<m->m<r->l k<l m)(I : ∀k,k<r->l k<t):r<=t:=by
 have a : ∀k,k<r->k<=l k:=by
  intro k
  induction k with
  | zero=>intro _;exact Nh _
  | succ k O=>
   intro U;have b:=O ⋯;have d:=z k (k+1) ⋯ U;omega
 cases r with
 | zero=>exact Nh _
 | succ r=>
  have b:=a r ⋯;have d:=I r ⋯;omega
noncomputable def Je:=(zQ (jy 6<|jU<|zU (zV<|zm 3) (.nm 0) 1 [5] (sB<|zE nr (cE (zm 0)<|ze 1)<|zy<|.int 0) (ze 0))<|zQ (l9 (k9<|rJ<|zm 6) rP xM)<|zQ (jy 7<|zH Zg<|zb (ze 0)<|zb (cE (zF<|cE (zm 6)<|zy<|.int 0)<|ze 5) zI)<|zQ (jy 8<|zH xW<|zb (ze 0)<|zb (jU<|zU (zV<|zF<|cE (zm 6)<|zy<|.int 0) (.nm 0) 1 [7] js (zE xu (ze 1)<|ze 0)) zI)<|zQ (jy 3<|jU<|zU (zV<|zm 3) (.nm 0) 1 [0,5,8] js (zH qN<|zb (ze 1)<|zb (ze 0)<|zb (ze 3)<|zb (ze 2) zI))<|qw 4<|QI (jS<|zU (zV<|zm 4) (.nm 0) 1 [0,5,8] js (zH qN<|zb (ze 1)<|zb (ze 0)<|zb (ze 3)<|zb (ze 2) zI))<|jS<|j4<|zb (ze 8) zI)
def Un(r:Nat)(B:Nat->Vc)(m:Nat)(W:Nat->Vc):Vc->Prop:=λv=>eA r B v\/eA m W v
structure B5(p:Int)(n m:Nat)(W:Nat->Vc)(t r:Nat)(B:Nat->Vc)(l:UX)(Wt:Nat->Vc):Prop where
 iW : ∀j i,j<m->i<n->0<=Wt j i/\Wt j i<p
 DE : ∀j i,j<m->i<t->Wt j i=0
 Dc:hL p n r B l
 lt : ∀k,k<r->l k<t
 span : ∀v,Span p n (Un r B m Wt) v↔Span p n (eA m W) v
section
variable{p:Int}{n m:Nat}{W:Nat->Vc}{t r:Nat}{B:Nat->Vc}{l:UX}{Wt:Nat->Vc}
theorem B5.skip(h:B5 p n m W t r B l Wt)(hz : ∀j,j<m->Wt j t=0):B5 p n m W (t+1) r B l Wt:=
 ⟨h.iW,λj i I a=>by
  rcases Mz i t with q | q
  ·exact h.DE j i I q
  ·have:i=t:=by omega
   subst this;exact hz j I,h.Dc,λk O=>Nl<|h.lt k O,h.span⟩
def iN(p:Int)(P:Vc)(t:Nat)(w:Vc):Vc:=λi=>(w i - w t*P i)%p
noncomputable def bq(p:Int)(P:Vc)(t r:Nat)(B:Nat->Vc):Nat->Vc:=λk=>if k<r then iN p P t (B k)else P
def oK(t r:Nat)(l:UX):Nat->Nat:=λk=>if k<r then l k else t
theorem Jd(I:Span p n G P)(z:Span p n G w):Span p n G (iN p P t w):=
 (I.add z (-(w t))).congr λi _=>by unfold iN;rw[MZ];congr 1;rw[Ru];omega
theorem Wi(I:Span p n G P)(z:Span p n G (iN p P t w)):Span p n G w:=
 (I.add z<|w t).congr λi _=>by unfold iN;rw[MU,MZ,<- MU];congr 1;omega
theorem B5.next(C:Pr p)(h:B5 p n m W t r B l Wt)(L:t<n)(J:j0<m)(Z:Wt j0 t*y%p=1)(Y : ∀i,i<n->P i=y*Wt j0 i%p) :
 B5 p n m W (t+1) (r+1) (bq p P t r B) (oK t r l) (λj=>iN p P t<|Wt j):=by
 have K:=C.pos;have one:=C.one;have A:P t=1:=by rw[Y t L,Nu];exact Z
 have f : ∀i,i<t->P i=0:=λi a=>by rw[Y i ⋯,h.DE j0 i J a];simp
 have M : ∀i,i<n->0<=P i/\P i<p:=λi a=>by rw[Y i a];exact⟨MF _ ⋯,Mp _ K⟩
 have F : ∀(w:Vc) i,0<=iN p P t w i/\iN p P t w i<p:=λw i=>⟨MF _ ⋯,Mp _ K⟩;have b : ∀(w:Vc) i,i<t->0<=w i->w i<p->iN p P t w i=w i:=λw i a R S=>by unfold iN;rw[f i a,NA,Int.sub_zero];exact MR R S
 have H : ∀w:Vc,iN p P t w t=0:=λw=>by unfold iN;rw[A,tr,Te];simp
 refine⟨λj i O a=>F _ _,λj i O a=>?_,⟨λk I=>?_,λk q N T=>?_,λk I=>?_,λk j I O=>?_,λk q I T Q=>?_,λk i I a=>?_⟩,λk I=>?_,λv=>?_⟩
 ·rcases Mz i t with q | q
  ·have e:=h.DE j i O q
   rw[b _ i q ⋯ ⋯];exact e
  ·have:i=t:=by omega
   subst this;exact H _
 ·unfold oK;split
  ·rename_i q;exact h.Dc.lt k q
  ·exact L
 ·unfold oK
  have I:k<r:=by omega
  rw[UJ I];split
  ·rename_i z;exact h.Dc.mono k q N z
  ·exact h.lt k I
 ·unfold oK bq;split
  ·rename_i q
   have e:=h.Dc.one k q;have d:=h.lt k q;rw[b _ _ d ⋯ (by have:=C.two;omega)];exact e
  ·exact A
 ·unfold bq;unfold oK at O;split at O
  ·rename_i q
   have e:=h.Dc.md k j q O;have d:=h.lt k q;rw[UJ q,b _ _ ⋯ ⋯ ⋯];exact e
  ·rename_i q
   rw[UY q];exact f j O
 ·unfold bq oK
  by_cases x:k<r
  ·rw[UJ x]
   by_cases U:q<r
   ·rw[UJ U]
    have e:=h.Dc.qi k q x U Q;have d:=h.lt q U;rw[b _ _ d ⋯ ⋯];exact e
   ·rw[UY U];exact H _
  ·rw[UY x]
   have U:q<r:=by omega
   rw[UJ U];exact f _<|h.lt q U
 ·unfold bq;split
  ·exact F _ _
  ·exact M i a
 ·unfold oK;split
  ·rename_i q;exact Nl<|h.lt k q
  ·exact NY _
 ·rw[<- h.span v]
  have o:Span p n (Un r B m Wt) P:=((Span.gen (p:=p) (n:=n) (G:=Un r B m Wt) (g:=Wt j0)<|.inr ⟨j0,J,rfl⟩).smul y).congr λi a=>by rw[Y i a,MZ]
  have E:Span p n (Un (r+1) (bq p P t r B) m λj=>iN p P t<|Wt j) P:= .gen (.inl ⟨r,NY r,by unfold bq;rw[UY (Nn r)]⟩);constructor
  ·refine λu=>u.le λg s=>?_
   rcases s with⟨k,I,rfl⟩ | ⟨j,O,rfl⟩
   ·unfold bq;split
    ·rename_i q;exact Jd o<|.gen<|.inl ⟨k,q,rfl⟩
    ·exact o
   ·exact Jd o<|.gen<|.inr ⟨j,O,rfl⟩
  ·refine λu=>u.le λg s=>?_
   rcases s with⟨k,I,rfl⟩ | ⟨j,O,rfl⟩
   ·refine Wi (t:=t) E (.gen<|.inl ⟨k,Nl I,?_⟩)
    unfold bq;rw[UJ I]
   ·exact Wi (t:=t) E<|.gen<|.inr ⟨j,O,rfl⟩
theorem B5.done(h:B5 p n m W n r B l Wt)(v:Vc):Span p n (eA r B) v↔Span p n (eA m W) v:=by
 rw[<- h.span v];constructor
 ·exact λO=>O.le λg I=> .gen (.inl I)
 ·refine λO=>O.le λg I=>?_
  rcases I with I | ⟨j,U,rfl⟩
  ·exact .gen I
  ·exact .zero λi a=>by rw[h.DE j i U a];simp
theorem gz(O:True)(P:Vc):jg (r+1) n (bq p P t r B)=jg r n (λk=>iN p P t<|B k)++[.tup (zA n P)]:=by
 unfold jg;rw[Nx,Nb];congr 1
 ·apply My
  intro k I;have:=Ma.mp I;simp[bq,this]
 ·simp[bq]
end
theorem xR{p:Int}(z:Pr p){n m:Nat}(hn:n<=100)(J:m<=lim)(C:Sk)(W:Nat->Vc) :
 ∃r B l,qO [.int p,.int n,p9 C (jg m n W)]=bX (.own<|jg r n B)/\hL p n r B l/\∀v,Span p n (eA r B) v↔Span p n (eA m W) v:=by
 have hl:=jm;have b:n<=lim:=by omega
 have K:=z.pos;have H:=wQ (T:= .nm 5) (F:=Je)
  (λt Q=>∃r B l Wt s u h o,Q=[.val (.int p),.val<|.int n,.val<|p9 C<|jg m n W,.val<|.lst<|jg m n Wt,.own<|jg r n B,s,u,h,o]/\B5 p n m W t r B l Wt)
  ((LW n).map λ(i:Nat)=>D.int i) 0 [.val (.int p),.val<|.int n,.val<|p9 C<|jg m n W,.val<|.lst<|jg m n λj i=>W j i%p,.own [],.no,.no,.no,.no]
  ⟨0,λ_ _=>0,λ_=>0,λj i=>W j i%p,.no,.no,.no,.no,rfl,λj i _ _=>⟨MF _ ⋯,Mp _ K⟩,λj i _ e=>absurd e<|MK _,
   ⟨λk O=>absurd O<|MK _,λk q _ O=>absurd O<|MK _,λk O=>absurd O<|MK _,λk j O=>absurd O<|MK _,λk q O=>absurd O<|MK _,λk i O=>absurd O<|MK _⟩,
   λk O=>absurd O<|MK _,λv=>⟨λE=>E.le λg A=>by
    rcases A with⟨k,O,_⟩ | ⟨j,Y,rfl⟩
    ·exact absurd O<|MK _
    ·exact(Span.gen (p:=p) (n:=n) (G:=eA m W) (g:=W j) ⟨j,Y,rfl⟩).congr λi _=>MZ _ _,λE=>E.le λg A=>by
    obtain⟨j,Y,rfl⟩:=A;exact(Span.gen (p:=p) (n:=n) (G:=Un 0 (λ_ _=>0) m λj i=>W j i%p) (g:=λi=>W j i%p)<|.inr ⟨j,Y,rfl⟩).congr λi _=>(MZ _ _).symm⟩⟩ (by
   rintro t d Q w ⟨r,B,l,Wt,s,u,h,o,rfl,U⟩;rw[NJ]at U ⊢;have a:t<n:=by have:=(Mo.mp w).1;simpa using this
   have R:d = .int t:=by simp[a]at w;exact w.symm
   subst R;have f:zW (.nm 0) (sB<|zE nr (cE (zm 0)<|ze 1)<|zy<|.int 0) (ze 0) [Cell.no,Cell.val (.int t)] (jg m n Wt)=bX (((LW m).filter λj=> !decide (Wt j t=0)).map λj=>D.tup<|zA n<|Wt j):=by unfold jg;refine jl _ _ _ λj Y=>⟨_,rfl,?_,λ_=>rfl⟩;simp[a]
   have hr:r<=t:=VD U.Dc.mono U.lt;have S:r<=lim:=by omega
   cases hf:(LW m).filter λj=> !decide (Wt j t=0)with
   | nil=>
    have hz : ∀j,j<m->Wt j t=0:=λj Y=>by apply NC;intro L;have:j∈(LW m).filter λj=> !decide (Wt j t=0):=Mu.mpr ⟨Ma.mpr Y,by simp[L]⟩;rw[hf]at this;simp at this
    rw[hf]at f;refine⟨_,.inr ?_,r,B,l,Wt,.val<|.int t,.val<|.lst [],h,o,rfl,U.skip hz⟩;simp only[aq,Me,PD,PB,Je];rw[jC];simp[jC,je,kK,Mb,f,J]
   | cons I yb=>
    have M:I∈(LW m).filter λj=> !decide (Wt j t=0):=by rw[hf];exact Mn
    have N:I<m:=Ma.mp (Mu.mp M).1;have L:Wt I t≠0:=by simpa using (Mu.mp M).2
    have X:=U.iW I t N a;obtain⟨y,ey,y1,y2,yy⟩:=Ve z (x:=Wt I t) ⋯ X.2;rw[hf]at f;have nx:=U.next z a N yy (P:=λi=>y*Wt I i%p) λi _=>rfl;refine⟨_,.inl ?_,r+1,bq p (λi=>y*Wt I i%p) t r B,oK t r l,λj=>iN p (λi=>y*Wt I i%p) t<|Wt j,.val<|.int t,.val<|.lst<|(I::yb).map λj=>D.tup<|zA n<|Wt j,.val<|.int y,.val<|.tup<|zA n λi=>y*Wt I i%p,rfl,nx⟩;have bc:=z.le;have cy : ∀x,vT y x=cz:=λx=>kE _ _ ⋯ ⋯;have Z:zW (.nm 0) js (zE xu (ze 1)<|ze 0) [Cell.no,Cell.val (.int y)] (zA n<|Wt I)=bX (zA n λi=>y*Wt I i):=by rw[jd,jd];refine zB _ _ λi e=>zD rfl rfl ?_;simp[cy]
    have as:zW (.nm 0) js (zH qN<|zb (ze 1)<|zb (ze 0)<|zb (ze 3)<|zb (ze 2) zI) [Cell.no,Cell.val<|.int p,Cell.val<|.int t,Cell.val (.tup<|zA n λi=>y*Wt I i%p)] (jg m n Wt)=bX (jg m n λj=>iN p (λi=>y*Wt I i%p) t<|Wt j):=by unfold jg;refine zB _ _ λj Y=>zD rfl rfl ?_;simp[ZL z b a (Wt j) (λi=>y*Wt I i%p) λi e=>U.iW j i (Ma.mp Y) e];rfl
    have ax:zW (.nm 0) js (zH qN<|zb (ze 1)<|zb (ze 0)<|zb (ze 3)<|zb (ze 2) zI) [Cell.no,Cell.val<|.int p,Cell.val<|.int t,Cell.val (.tup<|zA n λi=>y*Wt I i%p)] (jg r n B)=bX (jg r n λj=>iN p (λi=>y*Wt I i%p) t<|B j):=by unfold jg;refine zB _ _ λj Y=>zD rfl rfl ?_;simp[ZL z b a (B j) (λi=>y*Wt I i%p) λi e=>U.Dc.iW j i (Ma.mp Y) e];rfl
    have b0:r+1<=lim:=by omega
    rw[gz trivial];simp only[aq,Me,PD,PB,Je];rw[jC];simp[jC,je,kK,Mb,f,J,b,a,ey,Z,QA _ K b,as,ax,S,b0])
 obtain⟨γ',e1,r,B,l,Wt,s,u,h,o,rfl,U⟩:=H;simp only[Mq,MQ,NJ]at U;refine⟨r,B,l,?_,U.Dc,U.done⟩;have b5:zW (.nm 0) js (zH xW<|zb (ze 1)<|zb (ze 0) zI) [Cell.no,Cell.val (.int p)] (jg m n W)=bX (jg m n λj i=>W j i%p):=by unfold jg;refine zB _ _ λj Y=>zD rfl rfl ?_;simp[hU _ K b]
 have e0:qO [.int p,.int n,p9 C (jg m n W)]=jj 9 (zQ (jy 3<|jU<|zU (zV<|zm 2) (.nm 0) 1 [0] js (zH xW<|zb (ze 1)<|zb (ze 0) zI))<|zQ (qw 4<|j4 zI)<|zQ (k3 (zS<|ze 1) (.nm 5) Je)<|vK 4) [.int p,.int n,p9 C (jg m n W)]:=rfl;rw[e0];simp[jj,z6,jC,J,je,kK,Mb,b5,b,jL];rw[jd n λi=>(i:Int),e1];simp
@[simp] def CH:=@FB.eq_1
noncomputable def JQ{z:Type}(q:Nat)(x:z)(f:Nat->z):Nat->z:=λk=>if k<q then f k else if k=q then x else f (k - 1)
def ZQ(l:UX)(r x:Nat):Nat:=((LW r).filter λk=>decide<|l k<x).length
theorem Kr : ∀{r:Nat},(∀k m,k<m->m<r->l k<l m)->(∀k,k<r->l k≠x)->ZQ l r x<=r/\(∀k,k<ZQ l r x->l k<x)/\∀k,ZQ l r x<=k->k<r->x<l k
 | 0,_,_=>⟨Mf _,λk I=>absurd I (by simp[ZQ]),λk _ I=>absurd I<|MK _⟩
 | r+1,hm,Uy=>by
  obtain⟨g,d,O⟩:=Kr (r:=r) (x:=x) (λk m a b=>hm k m a ⋯) λk I=>Uy k ⋯;have e:ZQ l (r+1) x=ZQ l r x+if l r<x then 1 else 0:=by unfold ZQ;rw[Nx,PJ,MW];by_cases q:l r<x<;>simp[q]
  by_cases q:l r<x
  ·rw[e,UJ q]
   have U:ZQ l r x=r:=by
    rcases Mz (ZQ l r x) r with z | z
    ·have Y:=O (ZQ l r x) (Mf _) z
     have f:=hm (ZQ l r x) r z<|NY r;omega
    ·omega
   rw[U];refine⟨Mf _,λk I=>?_,λk a b=>absurd b ⋯⟩;rcases Mz k r with z | z
   ·exact d k ⋯
   ·have:k=r:=by omega
    subst this;exact q
  ·rw[e,UY q,Si]
   refine⟨by omega,d,λk a b=>?_⟩;rcases Mz k r with z | z
   ·exact O k a z
   ·have:k=r:=by omega
    subst this;have:=Uy k b;omega
section
variable{p:Int}{n r:Nat}{B:Nat->Vc}{l:UX}{w:Vc}
structure D0(p:Int)(n r:Nat)(B:Nat->Vc)(l:UX)(w:Vc)(k:Nat)(R:Vc):Prop where
 iW : ∀i,i<n->0<=R i/\R i<p
 DE : ∀q,q<k->R (l q)=0
 eqv : ∀G,(∀k,k<r->Span p n G (B k))->(Span p n G w↔Span p n G R)
theorem D0.next(C:Pr p)(Y:hL p n r B l)(h:D0 p n r B l w k R)(I:k<r):D0 p n r B l w (k+1) (iN p (B k) (l k) R):=by
 have a:=C.pos;refine⟨λi _=>⟨MF _ ⋯,Mp _ a⟩,λq b=>?_,λG O=>?_⟩
 ·unfold iN
  rcases Mz q k with z | z
  ·rw[h.DE q z,Y.qi k q I ⋯ ⋯];simp
  ·have:q=k:=by omega
   subst this;rw[Y.one q I];simp
 ·rw[h.eqv G O]
  exact⟨λU=>Jd (O k I) U,λU=>Wi (O k I) U⟩
theorem YK(I:q<=r)(O:k<r+1):(k=q/\JQ q x f k=x)\/∃C,C<r/\JQ q x f k=f C/\((k<q/\C=k)\/(q<k/\C+1=k)):=by
 unfold JQ;rcases Ra k q with z | z | z
 ·right;exact⟨k,by omega,by rw[UJ z],.inl ⟨z,rfl⟩⟩
 ·left;subst z;exact⟨rfl,by rw[UY (Nn _),UJ rfl]⟩
 ·right;exact⟨k - 1,by omega,by rw[UY ⋯,UY ⋯],.inr ⟨z,by omega⟩⟩
theorem Uz:JQ q x f q=x:=by unfold JQ;rw[UY (Nn _),UJ rfl]
theorem tL : ∃C,(C<q/\C=k\/q<C/\C=k+1)/\JQ q x f C=f k:=by
 rcases Mz k q with z | z
 ·exact⟨k,.inl ⟨z,rfl⟩,by unfold JQ;rw[UJ z]⟩
 ·exact⟨k+1,.inr ⟨by omega,rfl⟩,by unfold JQ;rw[UY ⋯,UY ⋯];rfl⟩
theorem tM(L:Pr p)(Y:hL p n r B l)(S:a<n)(C:R a=1)(hz : ∀i,i<a->R i=0)(J : ∀k,k<r->R (l k)=0)(hR : ∀i,i<n->0<=R i/\R i<p) :
 hL p n (r+1) (JQ (ZQ l r a) R λk=>iN p R a<|B k) (JQ (ZQ l r a) a l):=by
 have W:=L.pos;have H : ∀k,k<r->l k≠a:=λk I e=>by have:=J k I;rw[e,C]at this;omega
 obtain⟨T,X,Z⟩:=Kr Y.mono H;have N : ∀(w:Vc) i,0<=iN p R a w i/\iN p R a w i<p:=λw i=>⟨MF _ ⋯,Mp _ W⟩;have K : ∀w:Vc,iN p R a w a=0:=λw=>by unfold iN;rw[C,tr,Te];simp
 have E : ∀(w:Vc) k,k<r->0<=w (l k)->w (l k)<p->iN p R a w (l k)=w (l k):=λw k I C P=>by unfold iN;rw[J k I,NA,Int.sub_zero];exact MR C P
 have M : ∀k j,k<r->j<l k->iN p R a (B k) j=0:=λk j I t=>by
  unfold iN;rw[Y.md k j I t];rcases Mz a (l k)with z | z
  ·rw[Y.md k a I z];simp
  ·rw[hz j ⋯];simp
 have two:=L.two;have U : ∀k,k<r+1->(k=ZQ l r a/\JQ (ZQ l r a) R (λk=>iN p R a<|B k) k=R/\JQ (ZQ l r a) a l k=a)\/
  ∃b,b<r/\JQ (ZQ l r a) R (λk=>iN p R a<|B k) k=iN p R a (B b)/\JQ (ZQ l r a) a l k=l b/\((k<ZQ l r a/\b=k)\/(ZQ l r a<k/\b+1=k)):=by
  intro k I;rcases YK (x:=R) (f:=λk=>iN p R a<|B k) T I with⟨d,u⟩ | ⟨b,O,d,u⟩
  ·left;refine⟨d,u,?_⟩;subst d;exact Uz
  ·right
   refine⟨b,O,d,?_,u⟩;rcases u with⟨F,G⟩ | ⟨F,G⟩
   ·unfold JQ;rw[UJ F,G]
   ·unfold JQ;rw[UY ⋯,UY ⋯];congr 1;omega
 refine⟨λk I=>?_,λk m as y=>?_,λk I=>?_,λk j I t=>?_,λk m I y ax=>?_,λk i I Q=>?_⟩
 ·rcases U k I with⟨_,_,e⟩ | ⟨b,O,_,e,_⟩
  ·rw[e];exact S
  ·rw[e];exact Y.lt b O
 ·rcases U k ⋯with⟨z,_,e⟩ | ⟨b,O,_,e,z⟩<;>rcases U m y with⟨A,_,s⟩ | ⟨h,g,_,s,A⟩<;>rw[e,s]
  ·omega
  ·exact Z h ⋯ g
  ·exact X b ⋯
  ·exact Y.mono b h ⋯ g
 ·rcases U k I with⟨_,d,e⟩ | ⟨b,O,d,e,_⟩<;>rw[d,e]
  ·exact C
  ·have o:=Y.one b O
   rw[E _ b O ⋯ ⋯];exact o
 ·rcases U k I with⟨_,d,e⟩ | ⟨b,O,d,e,_⟩<;>rw[d]<;>rw[e]at t
  ·exact hz j t
  ·exact M b j O t
 ·rcases U k I with⟨z,d,_⟩ | ⟨b,O,d,_,z⟩<;>rcases U m y with⟨A,_,s⟩ | ⟨h,g,_,s,A⟩<;>rw[d,s]
  ·omega
  ·exact J h g
  ·exact K _
  ·have o:=Y.qi b h O g ⋯
   rw[E _ h g ⋯ ⋯];exact o
 ·rcases U k I with⟨_,d,_⟩ | ⟨b,O,d,_,_⟩<;>rw[d]
  ·exact hR i Q
  ·exact N _ _
theorem tR(I:q<=r)(hR:Span p n G R)(O : ∀k,k<r->Span p n G (F k)) : ∀g,eA (r+1) (JQ q R F) g->Span p n G g:=by
 rintro g ⟨k,U,rfl⟩;rcases YK (x:=R) (f:=F) I U with⟨_,e⟩ | ⟨a,Y,e,_⟩<;>rw[e]
 ·exact hR
 ·exact O a Y
theorem tE(I:q<=r):eA (r+1) (JQ q R F) R/\∀k,k<r->eA (r+1) (JQ q R F) (F k):=by refine⟨⟨q,by omega,Uz.symm⟩,λk O=>?_⟩;obtain⟨a,h,e⟩:=tL (q:=q) (x:=R) (f:=F) (k:=k);exact⟨a,by omega,e.symm⟩
theorem nc(S:Pr p)(M:hL p n r B l)(L:a<n)(hs : ∀v,Span p n (eA r B) v↔Span p n (eA j W) v)(U:D0 p n r B l (W j) r R)(J:y*R a%p=1)(Y : ∀i,i<n->R' i=y*R i%p)(C:ZQ l r a<=r)(v:Vc) :
 Span p n (eA (r+1)<|JQ (ZQ l r a) R' λk=>iN p R' a<|B k) v↔Span p n (eA (j+1) W) v:=by
 have u : ∀v,Span p n (eA j W) v->Span p n (eA (j+1) W) v:=λv O=>O.le λg ⟨i,b,e⟩=> .gen ⟨i,by omega,e⟩;have a1 : ∀k,k<r->Span p n (eA (j+1) W) (B k):=λk I=>u _<|(hs _).mp (.gen ⟨k,I,rfl⟩);have m:Span p n (eA (j+1) W) R:=(U.eqv _ a1).mp (.gen ⟨j,by omega,rfl⟩);have d:Span p n (eA (j+1) W) R':=(m.smul y).congr λi b=>by rw[Y i b,MZ]
 obtain⟨s,m2⟩:=tE (R:=R') (F:=λk=>iN p R' a<|B k) C;have f:Span p n (eA (r+1)<|JQ (ZQ l r a) R' λk=>iN p R' a<|B k) R':= .gen s;have h : ∀k,k<r->Span p n (eA (r+1)<|JQ (ZQ l r a) R' λk=>iN p R' a<|B k) (B k):=λk I=>Wi (t:=a) f<|.gen<|m2 k I;have gR:Span p n (eA (r+1)<|JQ (ZQ l r a) R' λk=>iN p R' a<|B k) R:=(f.smul<|R a).congr λi b=>by rw[Y i b,wJ,<- NR,Nu (R a) y,Mh,J,Int.one_mul,MZ]
 constructor
 ·exact λO=>O.le<|tR C d λk I=>Jd d<|a1 k I
 ·refine λO=>O.le ?_
  rintro g ⟨i,b,rfl⟩;rcases Mz i j with z | z
  ·exact((hs _).mpr (.gen ⟨i,z,rfl⟩)).le λg o=>by obtain⟨k,I,e⟩:=o;rw[e];exact h k I
  ·have:i=j:=by omega
   subst this;exact(U.eqv _ h).mpr gR
theorem dg(hs : ∀v,Span p n (eA r B) v↔Span p n (eA j W) v)(O:D0 p n r B l (W j) r R)(U : ∀i,i<n->R i=0)(v:Vc):Span p n (eA r B) v↔Span p n (eA (j+1) W) v:=by
 constructor
 ·exact λI=>((hs v).mp I).le λg ⟨i,a,e⟩=> .gen ⟨i,by omega,e⟩
 ·refine λI=>I.le ?_
  rintro g ⟨i,a,rfl⟩;rcases Mz i j with z | z
  ·exact(hs _).mpr (.gen ⟨i,z,rfl⟩)
  ·have:i=j:=by omega
   subst this;exact(O.eqv _ λk Y=> .gen ⟨k,Y,rfl⟩).mpr (.zero λi a=>by rw[U i a];simp)
end
section
variable{p:Int}{n m r:Nat}{G:Vc->Prop}
theorem Span.sum{u:Nat->Vc}(c:Nat->Int) : ∀{m:Nat},(∀k,k<m->Span p n G (u k))->Span p n G λi=>zh (λk=>c k*u k i) m
 | 0,_=> .zero λi _=>by simp[zh]
 | m+1,h=>(((h m ⋯).add (Span.sum c (m:=m) λk I=>h k ⋯) (c m))).congr λi _=>by simp[zh]
noncomputable def Rk(p:Int)(n m:Nat)(W:Nat->Vc)(r:Nat):Prop:=∃B l,hL p n r B l/\∀v,Span p n (eA r B) v↔Span p n (eA m W) v
theorem vY(U:Pr p)(h:Rk p n m W r)(h':Rk p n m W r'):r=r':=by obtain⟨B,l,Y,a⟩:=h;obtain⟨d,e,b,O⟩:=h';exact(J2 U Y b (λv I=>(O v).mpr ((a v).mp I))<|λv I=>(a v).mpr ((O v).mp I)).1
theorem Wz(I:Pr p)(O:hL p n r B l)(z : ∀i,i<n->0<=w i/\w i<p) : ∀k,k<=r->∃R,D0 p n r B l w k R
 | 0,_=>⟨w,z,λq U=>absurd U<|MK _,λG _=>Iff.rfl⟩
 | k+1,h=>by obtain⟨R,hR⟩:=Wz I O z k ⋯;exact⟨_,hR.next I O ⋯⟩
theorem W4 : ∀(n:Nat) (R:Vc),(∀i,i<n->R i=0)\/∃a,a<n/\R a≠0/\∀i,i<a->R i=0
 | 0,R=> .inl λi b=>absurd b<|MK _
 | n+1,R=>by
  rcases W4 n R with h | ⟨a,h1,h2,I⟩
  ·by_cases e:R n=0
   ·exact .inl λi b=>by rcases Mz i n with z | z;exact h i z;rw[show i=n by omega];exact e
   ·exact .inr ⟨n,by omega,e,h⟩
  ·exact .inr ⟨a,by omega,h2,I⟩
theorem oo(O:Pr p)(W:Nat->Vc)(z : ∀j i,0<=W j i/\W j i<p) : ∀m,∃r,r<=m/\Rk p n m W r
 | 0=>⟨0,Mf _,λ_ _=>0,λ_=>0,⟨λk I=>absurd I<|MK _,λk q _ I=>absurd I<|MK _,λk I=>absurd I<|MK _,λk j I=>absurd I<|MK _,λk q I=>absurd I<|MK _,λk i I=>absurd I<|MK _⟩,
  λv=>⟨λb=>b.le λg ⟨k,I,_⟩=>absurd I<|MK _,λb=>b.le λg ⟨k,I,_⟩=>absurd I<|MK _⟩⟩
 | m+1=>by
  obtain⟨r,u,B,l,U,d⟩:=oo O W z m;have t:=O.pos;obtain⟨R,Y⟩:=Wz O U (w:=W m) (λi _=>z m i) r<|Mf _;rcases W4 n R with h0 | ⟨a,ha,a5,a6⟩
  ·exact⟨r,by omega,B,l,U,dg d Y h0⟩
  ·have h:=Y.iW a ha
   obtain⟨y,_,_,f⟩:=Cj O (x:=R a) ⋯ h.2;have o : ∀k,k<r->l k≠a:=λk I e=>by have:=Y.DE k I;rw[e]at this;exact a5 this
   exact⟨r+1,by omega,_,_,tM O U (R:=λi=>(y:Int)*R i%p) ha f (λi s=>by rw[a6 i s];simp) (λk I=>by rw[Y.DE k I];simp) λi _=>⟨MF _ ⋯,Mp _ t⟩,
    nc O (R':=λi=>(y:Int)*R i%p) U ha d Y f (λi _=>rfl) (Kr U.mono o).1⟩
theorem Xd(I:Pr p)(m:Nat)(W:Nat->Vc) : ∃r,r<=m/\Rk p n m W r:=by
 obtain⟨r,U,B,l,Y,a⟩:=oo (n:=n) I (λj i=>W j i%p) (λj i=>⟨MF _ (by have:=I.pos;omega),Mp _ I.pos⟩) m;refine⟨r,U,B,l,Y,λv=>(a v).trans ⟨λh=>h.le λg ⟨k,O,e⟩=>?_,λh=>h.le λg ⟨k,O,e⟩=>?_⟩⟩
 ·subst e;exact(Span.gen (g:=W k) ⟨k,O,rfl⟩).congr λi _=>by rw[MZ]
 ·subst e;exact(Span.gen (g:=λi=>W k i%p) ⟨k,O,rfl⟩).congr λi _=>by rw[MZ]
theorem rY(I:Pr p)(_:n<=100)(_:m<=8)(W:Nat->Vc) : ∃r,r<=m/\Rk p n m W r:=Xd I m W
theorem AJ(C:Pr p)(h:Rk p n m W r)(h':Rk p n m' W' r')(J : ∀j,j<m->Span p n (eA m' W') (W j)):r<=r':=by
 obtain⟨B,l,U,x⟩:=h;obtain⟨E,f,Y,s⟩:=h';have o : ∀k,k<r->∃q,q<r'/\f q=l k:=λk I=>VN Y ((s _).mpr (((x _).mp (.gen ⟨k,I,rfl⟩)).le λg ⟨j,w,e⟩=>e ▸ J j w)) (U.lt k I) (by rw[U.one k I,C.one];decide) λi u=>by rw[U.md k i I u];simp
 have a : ∀k,k<r->∀q,q<r'->f q=l k->k<=q:=by
  intro k
  induction k with
  | zero=>intro _ q _ _;exact Nh _
  | succ k A=>
   intro I q d e;obtain⟨O,b,t⟩:=o k ⋯;have F:=A ⋯ O b t;have G:=U.mono k (k+1) ⋯ I;rcases Mz O q with z | z
   ·omega
   ·rcases Mz q O with y | y
    ·have:=Y.mono q O y b
     omega
    ·have:q=O:=by omega
     subst this;omega
 rcases Nat.eq_zero_or_pos r with z | z
 ·omega
 ·obtain⟨q,d,e⟩:=o (r - 1) ⋯
  have:=a (r - 1) ⋯ q d e;omega
end
theorem gC(h w f):deep (.lst<|jg h w f)<=2:=nE h w f
theorem mH(h w f):i6 (.lst<|jg h w f)=cz:=tf h w f
theorem WM(h w f):m7 (.lst<|jg h w f)=cz:=fj (gC h w f) ⋯<|mH h w f
section
variable{p:Int}{n m r h w:Nat}
theorem ZS{l:UX}(h:Nat) : ∀{r:Nat},(∀k m,k<m->m<r->l k<l m)->∃s,s<=r/\(∀k,k<s->l k<h)/\∀k,s<=k->k<r->h<=l k
 | 0,_=>⟨0,Mf _,λk I=>absurd I<|MK _,λk _ I=>absurd I<|MK _⟩
 | r+1,hm=>by
  obtain⟨s,b,a,O⟩:=ZS h (r:=r) λk m I U=>hm k m I ⋯;by_cases e:l r<h
  ·refine⟨r+1,Mf _,λk I=>?_,λk b a=>by omega⟩
   rcases Mz k r with z | z
   ·have:=hm k r z ⋯;omega
   ·have:k=r:=by omega
    subst this;exact e
  ·refine⟨s,by omega,a,λk I Y=>?_⟩
   rcases Mz k r with z | z
   ·exact O k I z
   ·have:k=r:=by omega
    subst this;omega
theorem VT(hs:s<=r)(z : ∀k,k<s->q k=dn)(C : ∀k,s<=k->k<r->q k=cz):(LW r).filter q=(LW<|r - s).map (s + ·):=by
 obtain⟨d,rfl⟩ : ∃d,r=s+d:=⟨r - s,by omega⟩;rw[Ry,PJ];have a:(LW s).filter q=[]:=List.filter_eq_nil_iff.mpr λk I=>by rw[z k (Ma.mp I)];decide
 have O:((LW d).map (s + ·)).filter q=(LW d).map (s + ·):=List.filter_eq_self.mpr λk I=>by obtain⟨i,b,rfl⟩:=MM.mp I;exact C _ ⋯ (by have:=Ma.mp b;omega)
 rw[a,O,NL];rfl
def yS(h:Nat)(u v:Vc):Vc:=λi=>if i<h then u i else v (i - h)
def jB(j:Nat):Vc:=λk=>if j=k then 1 else 0
theorem qa(z:i<h):yS h u v i=u i:=UJ z
theorem qv(i:Nat):yS h u v (h+i)=v i:=by unfold yS;rw[UY ⋯,NL]
theorem ZZ(h w:Nat)(u v:Vc):zA h u++zA w v=zA (h+w) (yS h u v):=by
 unfold zA;rw[Ry,Nb];congr 1
 ·exact My λi a=>by rw[qa (Ma.mp a)]
 ·rw[MJ]
  exact My λi _=>by simp only[Function.comp];rw[qv]
theorem gu(h w:Nat)(v:Vc):(zA (h+w) v).take h=zA h v:=by unfold zA;rw[<- List.map_take,List.take_range,Sg (ML h w)]
theorem gw(h w:Nat)(v:Vc):(zA (h+w) v).drop h=zA w λj=>v (h+j):=by unfold zA;rw[Ry,Nb,List.drop_append_of_le_length ⋯,RV ⋯,MJ];rfl
theorem ah(h w:Nat)(v:Vc):nG (zA (h+w) v) none (bX (h:Int))=zA h v:=by
 have c : ¬((h:Int)<0):=by omega
 have e:min h (h+w)=h:=Sg<|ML h w;simp[nG,bN,c,e,gu]
theorem ag(h w:Nat)(v:Vc):nG (zA (h+w) v) (bX (h:Int)) none=zA w λj=>v (h+j):=by
 have c : ¬((h:Int)<0):=by omega
 have e:min h (h+w)=h:=Sg<|ML h w;have t : ∀g:Vc,(zA w g).take w=zA w g:=λg=>OO ⋯;simp[nG,bN,c,e,gw,t]
theorem Wk(v:Vc) : ∀n,XG (zA n v)=bX ((LW n).map λi=>v i != 0)
 | 0=>rfl
 | n+1=>by
  have b : ∀l:List Nat,XG (l.map λi=>D.int<|v i)=bX (l.map λi=>v i != 0):=by
   intro l
   induction l with
   | nil=>rfl
   | cons a l I=>simp[XG,Fd,I]
  exact b _
theorem QD(O:hL p (h+w) r B l)(U:r<=lim)(hs:s<=r)(z : ∀k,k<s->l k<h)(h2 : ∀k,s<=k->k<r->h<=l k) :
 jW [.int h,.lst (jg r (h+w) B)]=bX (.own<|jg (r - s) w λk j=>B (s+k)<|h+j):=by
 have d:zW (.nm 0) (k9<|sB<|uL<|zF<|cf (ze 0) cg<|rr<|ze 1) (cf (ze 0) (rr<|ze 1) cg) [Cell.no,Cell.val (.int h)] (jg r (h+w) B)=bX (((LW r).filter λk=>decide<|h<=l k).map λk=>D.tup<|zA w λj=>B k<|h+j):=by
  unfold jg;refine jl (λk=>decide<|h<=l k) _ _ λk I=>⟨_,rfl,?_,λY=>?_⟩
  ·have I:=Ma.mp I
   simp[ah,Wk];by_cases e:h<=l k
   ·simp[e]
    intro i f;have:=O.md k i I ⋯;simp[this]
   ·simp[e]
    exact⟨l k,by omega,by rw[O.one k I];decide⟩
  ·simp[ag]
 rw[VT hs (λk I=>decide_eq_false (by have:=z k I;omega)) (λk a b=>decide_eq_true<|h2 k a b)]at d;simp[jW,jj,z6,U,je,kK,Mb,d];unfold jg;rfl
def DJ(p:Int)(h w:Nat)(f:UV)(v:Vc):Prop:=∀i,i<h->zh (λj=>f i j*v j) w%p=0
theorem mw{f:UV}{v:Vc}(O:Span p (h+w) (eA w λj=>yS h (λi=>f i j)<|jB j) v) : ∀i,i<h->v i%p=zh (λj=>f i j*v (h+j)) w%p:=by
 induction O with
 | @zero v b=>
  intro i a;rw[b i ⋯];have:zh (λj=>f i j*v (h+j)) w%p=zh (λ_=>0) w%p:=zO λj U=>by rw[Mh,b (h+j) ⋯];simp
  rw[this,zM];rfl
 | @step v u g c Y n I l=>
  intro i a;obtain⟨m,k,rfl⟩:=Y;rw[I i ⋯,MU,l i a,<- MU];have e:zh (λj=>f i j*v (h+j)) w%p=zh (λj=>f i j*u (h+j)+c*(f i j*jB m j)) w%p:=zO λj U=>by rw[Mh,I (h+j) ⋯,<- Mh];simp only[qv];rw[OX,NV]
  rw[e,ju,zY,zR (f:=λj=>f i j*jB m j) k λj _ d=>by simp[jB,MD d]];simp[jB,qa a]
theorem XE(O:Pr p)(w:Nat):hL p w w jB id where
 lt:=λk I=>I
 mono:=λk m I _=>I
 one:=λk _=>UJ rfl
 md:=λk j _ U=>UY (by simp only[id]at U;omega)
 qi:=λk m _ _ Y=>UY (by simp only[id];omega)
 iW:=λk i _ _=>by have:=O.two;unfold jB;split<;>omega
theorem Span.map(t:UX)(I : ∀i,i<n'->t i<n)(O : ∀g,G g->Span p n' G' λi=>g<|t i)(U:Span p n G v):Span p n' G' λi=>v (t i):=by
 induction U with
 | @zero v d=>exact .zero λi a=>d _<|I i a
 | @step v u g c Y f b e=>exact((O _ Y).add e c).congr λi a=>b _<|I i a
theorem yH(C:Pr p)(hh:h<=20)(hw:w<=20)(f:UV) :
 ∃q K l s,vG [.int p,kQ h w f]=bX (.own<|jg q w K)/\hL p w q K l/\(∀v,Span p w (eA q K) v↔DJ p h w f v)/\Rk p h w (λj i=>f i j) s/\q+s=w:=by
 have hl:=jm;have S:h<=lim:=by omega
 have y:w<=lim:=by omega
 have X:h+w<=lim:=by omega
 obtain⟨r,B,l,e,O,x⟩:=xR C (show h+w<=100 by omega) y .L λj=>yS h (λi=>f i j)<|jB j;have Z : ∀v,Span p (h+w) (eA r B) v->∀i,i<h->v i%p=zh (λj=>f i j*v (h+j)) w%p:=λv Y=>mw<|(x v).mp Y;have ae:r<=w:=by obtain⟨r',E,G⟩:=Xd C (n:=h+w) w λj=>yS h (λi=>f i j)<|jB j;rw[vY C ⟨B,l,O,x⟩ G];exact E
 have ak:w<=r:=by obtain⟨r',E,G⟩:=Xd C (n:=w) r λk j=>B k<|h+j;refine Np (AJ C (m:=w) (W:=jB) ⟨jB,id,XE C w,λv=>Iff.rfl⟩ G λj U=>?_) E;have:=Span.map (n':=w) (G':=eA r λk j=>B k<|h+j) (λi=>h+i) (λi a=>by omega) (λg ⟨k,I,b⟩=> .gen ⟨k,I,by rw[b]⟩)<|(x<|yS h (λi=>f i j)<|jB j).mpr (.gen ⟨j,U,rfl⟩);exact this.congr λi _=>by rw[qv]
 have er:r=w:=Nat.le_antisymm ae ak;subst er;obtain⟨s,hs,N,o⟩:=ZS h O.mono;have eb:=QD O y hs N o;have an:hL p r (r - s) (λk j=>B (s+k)<|h+j) (λk=>l (s+k) - h):={
  lt:=λk I=>by have:=O.lt (s+k) ⋯;have:=o (s+k) ⋯ ⋯;omega
  mono:=λk m I H=>by have:=O.mono (s+k) (s+m) ⋯ ⋯;have:=o (s+k) ⋯ ⋯;omega
  one:=λk I=>by have:=o (s+k) ⋯ ⋯;rw[show h+(l (s+k) - h)=l (s+k)by omega];exact O.one _ ⋯
  md:=λk j I U=>O.md _ _ ⋯ ⋯
  qi:=λk m I H A=>by have:=o (s+m) ⋯ ⋯;rw[show h+(l (s+m) - h)=l (s+m)by omega];exact O.qi _ _ ⋯ ⋯ ⋯
  iW:=λk i I a=>O.iW _ _ ⋯ ⋯}
 refine⟨r - s,_,_,s,?_,an,λv=>⟨λY=>?_,λY=>?_⟩,?_,by omega⟩
 ·have Q:=Zf f S y
  have R:=vp (n:=r) y;have M:zW (.tp [0,1]) js (zE jJ (ze 0)<|ze 1) [Cell.no,Cell.no] ((LW r).map λj=>D.tup [.tup (zA h λi=>f i j),.tup (zA r λk=>if j=k then 1 else 0)])=bX (jg r (h+r) λj=>yS h (λi=>f i j)<|jB j):=by unfold jg;refine zB _ _ λj U=>zD rfl rfl ?_;simp[jJ,X,ZZ];rfl
  have zp:vI (jg r h λi j=>f j i) (jg r r λi j=>if i=j then 1 else 0)=(LW r).map λj=>D.tup [.tup (zA h λi=>f i j),.tup (zA r λk=>if j=k then 1 else 0)]:=by unfold vI jg;rw[OZ];simp
  have c1:((h:Int)+(r:Int))=((h+r:Nat):Int):=by omega
  simp only[p9]at e;rw[<- c1]at e;unfold kQ at Q R ⊢;have nl : ∀T t f γ,zW T t f γ []=bX []:=λ_ _ _ _=>rfl;simp[vG,xG,jj,z6,jC,Q,R,zp,y,je,Mb,M,nl,e,eb]
 ·intro i a
  induction Y with
  | @zero v hz=>
   have:zh (λj=>f i j*v j) r%p=zh (λ_=>0) r%p:=zO λj U=>by rw[Mh,hz j U];simp
   rw[this,zM];rfl
  | @step v u g c hg hu he J=>
   obtain⟨k,I,rfl⟩:=hg;have e1:zh (λj=>f i j*v j) r%p=zh (λj=>f i j*u j+c*(f i j*B (s+k) (h+j))) r%p:=zO λj U=>by rw[Mh,he j U,<- Mh,OX,NV]
   have P:=Z (B<|s+k) (.gen ⟨s+k,by omega,rfl⟩) i a;have e3:B (s+k) i=0:=O.md _ _ ⋯ (by have:=o (s+k) ⋯ ⋯;omega);rw[e3]at P;rw[e1,ju,zY,MU,J,Mh,<- P];simp
 ·
  have b7:Span p (h+r) (eA r B) (yS h (λ_=>0) v):=by
   refine(x _).mpr ((Span.sum (u:=λj=>yS h (λi=>f i j)<|jB j) v (m:=r) λj U=> .gen ⟨j,U,rfl⟩).congr λi a=>?_);rcases Mz i h with z | z
   ·simp only[qa z]
    rw[zx (g:=λj=>f i j*v j) λj _=>Nu _ _,Y i z];simp
   ·obtain⟨k,rfl⟩ : ∃k,i=h+k:=⟨i - h,by omega⟩
    simp only[qv];rw[zR (f:=λj=>v j*jB j k) (i:=k) ⋯ λj _ A=>by simp[jB,A]];simp[jB]
  have co:=ZP O b7;refine(Span.sum (u:=λk j=>B (s+k)<|h+j) (λk=>yS h (λ_=>0) v<|l<|s+k) (m:=r - s) λk I=> .gen ⟨k,I,rfl⟩).congr λj U=>?_;have:=co (h+j) ⋯;rw[qv]at this;rw[this];obtain⟨d,rfl⟩ : ∃d,r=s+d:=⟨r - s,by omega⟩;rw[NL];have sp : ∀(F:Nat->Int) (d:Nat),(∀k,k<s->F k=0)->zh F (s+d)=zh (λk=>F<|s+k) d:=by
   intro F d hF
   induction d with
   | zero=>
    show zh F s=0;rw[zx (g:=λ_=>0) hF,zM]
   | succ d J=>rw[<- RR];simp only[zh];rw[J]
  rw[sp _ d λk I=>by rw[qa (N k I)];simp]
 ·
  refine⟨λk i=>B k i,l,⟨λk I=>N k I,λk m I H=>O.mono k m I ⋯,λk I=>O.one k ⋯,λk j I U=>O.md k j ⋯ U,λk m I H A=>O.qi k m ⋯ ⋯ A,λk i I a=>O.iW k i ⋯ ⋯⟩,λv=>⟨λY=>Y.le λg ⟨k,I,b⟩=>?_,λY=>Y.le λg ⟨j,U,b⟩=>?_⟩⟩
  ·subst b
   exact Span.map (n':=h) (G':=eA r λj i=>f i j) (λi=>i) (λi a=>by omega) (λg ⟨j,U,b⟩=>(Span.gen (g:=λi=>f i j) ⟨j,U,rfl⟩).congr λi a=>by rw[b];simp only[qa a])<|(x<|B k).mp (.gen ⟨k,by omega,rfl⟩)
  ·subst b
   have:=Span.map (n':=h) (G':=eA s λk i=>B k i) (λi=>i) (λi a=>by omega) (λg hZ=>by
    obtain⟨k,I,b⟩:=hZ;subst b;rcases Mz k s with z | z
    ·exact .gen ⟨k,z,rfl⟩
    ·exact .zero λi a=>by rw[O.md k i I (by have:=o k z I;omega)];simp) ((x<|yS h (λi=>f i j)<|jB j).mpr (.gen ⟨j,U,rfl⟩))
   exact this.congr λi a=>by rw[qa a]
end
@[simp] def Hd:=@dr.eq_1
theorem pq{a b:Bool}(h:h9 a=h9 b):a=b:=by cases a<;>cases b<;>first | rfl | exact absurd h ⋯
def nT(m z:Nat)(w w':UK):Prop:=m=z/\∀k,k<m->w k=w' k
instance (m m':Nat) (w w':UK):Decidable (nT m m' w w'):=inferInstanceAs (Decidable (m=m'/\∀k,k<m->w k=w' k))
theorem pv{m z:Nat}{w w':UK}:qc m w=qc z w'↔nT m z w w':=by
 constructor
 ·intro h
  have a:=ki m w;rw[h,ki]at a;have O:m=z:=by have:=congrArg List.length a;simpa using this.symm
  subst O;refine⟨rfl,λk I=>?_⟩;have:=congrArg (λl=>l[k]?) a;simp[I]at this;exact(pq this).symm
 ·rintro⟨rfl,h⟩
  unfold qc;rw[My λk I=>by rw[h k (Ma.mp I)]]
theorem ff(m w):m7 (.str<|qc m w)=cz:=by refine fj (n:=0) (by simp[deep]) ⋯ ?_;show(qc m w).cps.all (· < 0x110000)=cz;rw[<- Array.all_toList,ki];simp only[Oi];intro c I;obtain⟨k,_,rfl⟩:=MM.mp I;unfold h9;split<;>decide
section
variable{p p':Int}{m m':Nat}{w w':UK}{wd wd':UX}{T T':UW}
theorem Vl:jx (j5 p m w wd T)=bX (.T,[.int p,.tup<|zA (m+1) λk=>(wd k:Int),.tup (k7 m w wd T)]):=rfl
theorem ux(k):jx (Zh w wd T k)=bX (.T,[.str (yk<|h9<|w k),kQ (eK w wd k) (ed w wd k) (T k)]):=rfl
theorem cx:zW (.nm 0) js (cE (zm 0)<|zy<|.int 0) [Cell.no] (k7 m w wd T)=bX ((LW m).map λk=>D.str<|yk<|h9<|w k):=by unfold k7;refine zB _ _ λk I=>zD rfl rfl ?_;simp[ux]
theorem kT(z:m<=900):xn [j5 p m w wd T]=bX (.val<|.str<|qc m w):=by
 have U:=jm;have I:m<=lim:=by omega
 have st:K3 ((LW m).map λk=>D.str<|yk<|h9<|w k)=bX ((LW m).map λk=>yk<|h9<|w k):=XI _ _;have O:((LW m).map λk=>yk<|h9<|w k).all jO=cz:=by simp only[Oi];intro x a;obtain⟨k,_,rfl⟩:=MM.mp a;unfold h9;split<;>decide
 have b:jO "" = cz:=by decide +kernel
 simp only[xn,jj,z6];simp only[J5,uC,av,kF,qb,Jh,Kx,yh,xV,MI,RY,Nm,Of,Mb,OG,Nj,qT,Vl,Me,Nt,k6,G_,NB,CG,Nat.sub_self,NJ];rw[Y8,UJ I,show je 1 [] [Cell.val (j5 p m w wd T)]=[Cell.no]from rfl,cx];simp only[Nt,Me,st];rw[UJ ⟨by simpa using I,O,b⟩];rfl
theorem KA(z:m<=900)(O:m'<=900):km [j5 p m w wd T,j5 p' m' w' wd' T']=bX (.val<|.bl<|decide<|p=p'/\nT m m' w w'):=by
 have I:=kT (p:=p) (wd:=wd) (T:=T) (w:=w) z;have U:=kT (p:=p') (wd:=wd') (T:=T') (w:=w') O;have d:hG (.str<|qc m w) (.str<|qc m' w')=bX (.bl<|decide<|nT m m' w w'):=by unfold hG;rw[UJ ⟨ff m w,ff m' w'⟩];congr 2;rw[RZ];simp only[lU,Uw,beq_iff_eq,decide_eq_true_eq];exact pv
 by_cases q:p=p'
 ·simp[km,jj,z6,Vl,q,I,U,d]
  subst q;simp[I,d]
 ·simp[km,jj,z6,Vl,q]
end
theorem gH(xs:List D)(n:Nat)(C:xs.length=n)(J : ∀i (h:i<n),∃z,xs[i]'(C ▸ h) = .int z)(bc:n<=63)(k:Int)(L:0<=k)(bd:k<100000) :
 ∃m,jb [.lst xs,.int k]=bX (.val<|.int m)/\0<=m/\m<1000000007:=by
 have O : ∀x:Int,vT x 48271=cz:=λx=>vS _ _ ⋯ ⋯;have U : ∀x:Int,vT 7 x=cz:=λx=>kE _ _ ⋯ ⋯;have d : ∀x:Int,vT 13 x=cz:=λx=>kE _ _ ⋯ ⋯;have e : ∀x:Int,vT x 69621=cz:=λx=>vS _ _ ⋯ ⋯;have f:vT (7*k) k=cz:=vS _ _ ⋯ ⋯;have I:CA 10 9=cz:=by decide
 have Y:CA 10 30=cz:=by decide
 have hl:lim=2500:=rfl;by_cases G:n=0
 ·subst G
  have g:xs=[]:=MX C;subst g;simp[jb,jj,z6,jC,O,U,d,e,f,I,Y];omega
 ·have l:0<n:=by omega
  obtain⟨i,Q⟩:=OK (MF k<|show(n:Int)≠0 by omega);have r:i<n:=by have:=Mp k (show(0:Int)<n by omega);omega
  obtain⟨zi,A⟩:=J i r;have W:f6 n (i:Int)=bX i:=by rw[j9,UJ r]
  by_cases N:n=1
  ·subst N
   have o:i=0:=by omega
   subst o;have k1:k%1=0:=by omega
   simp[jb,jj,z6,jC,O,U,d,e,f,I,Y,C,A];omega
  ·obtain⟨z0,g⟩:=J 0 l
   have o:f6 n 0=bX 0:=by have:=j9 n 0;rw[UJ l]at this;exact this
   have E:(0:Int)<(n:Int) - 1:=by omega
   have F:(1:Int)<(n:Int):=by omega
   have y:1<n:=by omega
   have Z:(n:Int) - 1<1073741824:=by omega
   have q4:(0:Int)<(n:Int):=by omega
   obtain⟨j,R⟩:=OK (MF k<|show(n:Int) - 1≠0 by omega);have u:1+j<n:=by have:=Mp k E;omega
   obtain⟨zj,M⟩:=J (1+j) u;have X:f6 n (1+(j:Int))=bX (1+j):=by have:=j9 n<|1+j;rw[UJ u]at this;rw[<- this];congr 1
   have P:0<=k/((n:Int) - 1)/\k/((n:Int) - 1)<=k:=⟨Int.ediv_nonneg L ⋯,Int.ediv_le_self _ L⟩;obtain⟨t,S⟩:=OK P.1;by_cases B:z0%2=1
   ·obtain⟨a,H,bg⟩ : ∃a:Nat,(if (t:Int)<60 then (t:Int)else 60)=a/\a<=60:=by
     split
     ·exact⟨t,rfl,by omega⟩
     ·exact⟨60,rfl,by omega⟩
    have K:inR (a:Int)=cz:=yM ⋯ ⋯;simp[jb,jj,z6,jC,O,U,d,e,f,C,l,u,F,y,g,o,E,Z,B,R,X,M,S,I,Y];rw[H,UJ K];simp only[Me,jL,NM];rw[jd a λi=>(i:Int)];have w : ∀(m s:Nat) (v:Int) (c:Cell),∃p b,kD (.nm 3) (jy 2<|zE v9 (ze 2)<|zE uf (zy<|D.int 10)<|zy<|D.int 9) ((NH s m).map λ(i:Nat)=>D.int i) [.val (.lst xs),.val<|.int k,.val<|.int v,c,.no] =
     bX (.next [.val (.lst xs),.val<|.int k,.val<|.int p,b,.no]):=by
     intro m
     induction m with
     | zero=>intro s v c;exact⟨v,c,rfl⟩
     | succ m T=>
      intro s v c;rw[Pn,MI,qD];obtain⟨p,b,h⟩:=T (s+1) (v/10 ^ 9)<|.val<|.int s;refine⟨p,b,?_⟩;rw[<- h];simp[I]
    obtain⟨p,b,h⟩:=w a 0 zj .no;rw[<- OB]at h;rw[h];simp[I];omega
   ·simp[jb,jj,z6,jC,O,U,d,e,f,C,F,y,q4,l,g,o,B,Q,A,r,W,I,Y]
    omega
theorem ui(z:List Int)(C:z.length<=63)(k:Int)(I:0<=k)(O:k<100000) : ∃m,jb [xT z,.int k]=bX (.val<|.int m)/\0<=m/\m<1000000007:=
 gH (z.map D.int) z.length ⋯ (λi a=>⟨z[i],by simp⟩) C k I O
noncomputable def qS(z:List Int)(k:Int):Int:=match jb [xT z,.int k]with
 | some (.val<|.int m)=>m
 | _=>0
theorem J1(z:ns.length<=63)(I:0<=k)(O:k<100000):jb [xT ns,.int k]=bX (.val<|.int<|qS ns k)/\0<=qS ns k/\qS ns k<1000000007:=by
 obtain⟨m,h,a,b⟩:=ui ns z k I O;have e:qS ns k=m:=by unfold qS;rw[h]
 rw[e];exact⟨h,a,b⟩
def jn(bs:List (Int×Int)):List D:=bs.map λb=>D.tup [.int b.1,.int b.2]
@[simp] theorem Y5(bs):(jn bs).length=bs.length:=by simp[jn]
theorem Xi : ∀bs,ZE (jn bs)=bX bs
 | []=>rfl
 | b::bs=>by have I:=Xi bs;unfold jn at I;simp[jn,ZE,mz,I]
def wq(bs:List (Int×Int)):List (Int×Int):=(j7 bs).map λi=>bs.getD i (0,0)
theorem vw(bs):(wq bs).Perm bs:=by have:=(jP bs).map λi=>bs.getD i (0,0);rw[ja]at this;exact this
theorem cX{bs:List (Int×Int)}(h:bs.length<64):cY (jn bs)=bX (jn<|wq bs):=by unfold cY;rw[Xi];show(if (jn bs).length<64 then bX ((j7 bs).map λi=>(jn bs).getD i .el)else none)=_;rw[Y5,UJ h];unfold wq;congr 1;unfold jn;rw[MJ];refine My λi a=>?_;have a:i<bs.length:=Ma.mp<|(jP bs).mem_iff.mp a;simp[a]
def ZJ(n:Int)(b:Int×Int):Prop:=0<=b.1/\b.1<=b.2/\b.2<n
@[simp] def EM:=@dm.eq_1
section ap
variable(γ:Ctx)
@[simp] def EL:=@Ax.eq_1
@[simp] def EO:=@Yc.eq_1
@[simp] def ER:=@oj.eq_1
@[simp] def Iu:=@Ld.eq_1
end ap
def nj(b:Int×Int)(r:Int):Bool:=decide (b.1<=r) && decide (r<=b.2)
noncomputable def jf(bs:List (Int×Int))(r:Int):List Nat:=(LW bs.length).filter λi=>nj (bs.getD i (0,0)) r
def Yz(l:List Nat):List D:=l.map λ(i:Nat)=>D.int i
@[simp] theorem Ka(l):(Yz l).length=l.length:=by simp[Yz]
theorem eH(bs r):(jf bs r).length<=bs.length:=by have:=OV (λi=>nj (bs.getD i (0,0)) r)<|LW bs.length;simpa[jf]using this
section
variable{p:Int}
def gA(h w:Nat)(f:UV):List D:=(LW h).map λi=>D.lst<|zA w<|f i
@[simp] theorem Cw(h w f):(gA h w f).length=h:=by simp[gA]
end
@[simp] theorem uP(h w f):(gA h w f).length=h:=by simp[gA]
section
variable{p:Int}{h w q r:Nat}
def app(f:UV)(w:Nat)(v:Vc):Vc:=λi=>zh (λj=>f i j*v j) w
theorem uz(I : ∀j,j<w->v j%p=(u j+c*g j)%p)(i:Nat):app f w v i%p=(app f w u i+c*app f w g i)%p:=by
 unfold app;have e:zh (λj=>f i j*v j) w%p=zh (λj=>f i j*u j+c*(f i j*g j)) w%p:=zO λj O=>by rw[Mh,I j O,<- Mh,OX,NV]
 rw[e,ju,zY]
theorem nO(hz : ∀j,j<w->v j%p=0)(i:Nat):app f w v i%p=0:=by
 unfold app;have:zh (λj=>f i j*v j) w%p=zh (λ_=>0) w%p:=zO λj I=>by rw[Mh,hz j I];simp
 rw[this,zM];rfl
theorem xm(I : ∀j,j<w->v j%p=u j%p)(i:Nat):app f w v i%p=app f w u i%p:=by unfold app;exact zO λj O=>by rw[Mh,I j O,<- Mh]
theorem aH(O:hL p (h+w) r B l)(hs:s<=r)(J : ∀k,k<s->l k<h)(C : ∀k,s<=k->k<r->h<=l k) :
 hL p w (r - s) (λk j=>B (s+k)<|h+j) (λk=>l (s+k) - h)/\∀v,Span p w (eA (r - s) λk j=>B (s+k)<|h+j) v↔Span p (h+w) (eA r B) (yS h (λ_=>0) v):=by
 refine⟨{
  lt:=λk I=>by have:=O.lt (s+k) ⋯;have:=C (s+k) ⋯ ⋯;omega
  mono:=λk m I t=>by have:=O.mono (s+k) (s+m) ⋯ ⋯;have:=C (s+k) ⋯ ⋯;omega
  one:=λk I=>by have:=C (s+k) ⋯ ⋯;rw[show h+(l (s+k) - h)=l (s+k)by omega];exact O.one _ ⋯
  md:=λk j I o=>O.md _ _ ⋯ ⋯
  qi:=λk m I t A=>by have:=C (s+m) ⋯ ⋯;rw[show h+(l (s+m) - h)=l (s+m)by omega];exact O.qi _ _ ⋯ ⋯ ⋯
  iW:=λk i I a=>O.iW _ _ ⋯ ⋯},λv=>⟨λU=>?_,λU=>?_⟩⟩
 ·induction U with
  | @zero v x=>
   refine .zero λi a=>?_;rcases Mz i h with z | z
   ·rw[qa z];simp
   ·obtain⟨k,rfl⟩ : ∃k,i=h+k:=⟨i - h,by omega⟩
    rw[qv];exact x k ⋯
  | @step v u g c n E f Y=>
   obtain⟨k,I,rfl⟩:=n;refine .step (g:=B<|s+k) (c:=c) ⟨s+k,by omega,rfl⟩ Y λi a=>?_;rcases Mz i h with z | z
   ·rw[qa z,qa z,O.md (s+k) i ⋯ (by have:=C (s+k) ⋯ ⋯;omega)];simp
   ·obtain⟨j,rfl⟩ : ∃k,i=h+k:=⟨i - h,by omega⟩
    rw[qv,qv];exact f j ⋯
 ·have b:=ZP O U
  refine(Span.sum (u:=λk j=>B (s+k)<|h+j) (λk=>yS h (λ_=>0) v<|l<|s+k) (m:=r - s) λk I=> .gen ⟨k,I,rfl⟩).congr λj o=>?_;have:=b (h+j) ⋯;rw[qv]at this;rw[this];obtain⟨d,rfl⟩ : ∃d,r=s+d:=⟨r - s,by omega⟩;rw[NL];have y : ∀(F:Nat->Int) (d:Nat),(∀k,k<s->F k=0)->zh F (s+d)=zh (λk=>F<|s+k) d:=by
   intro F d e
   induction d with
   | zero=>
    show zh F s=0;rw[zx (g:=λ_=>0) e,zM]
   | succ d Y=>rw[<- RR];simp only[zh];rw[Y]
  rw[y _ d λk I=>by rw[qa (J k I)];simp]
end
section
variable{p:Int}{h w q:Nat}
noncomputable def qY(h w:Nat)(f:UV)(g:Nat->Vc):Nat->Vc:=λm=>if m<w then yS h (λi=>f i m) (jB m)else yS h (g<|m - w) (λ_=>0)
theorem gy(f:UV)(g:Nat->Vc):jg w (h+w) (λj=>yS h (λi=>f i j)<|jB j)++jg q (h+w) (λk=>yS h (g k) λ_=>0)=jg (w+q) (h+w) (qY h w f g):=by
 unfold jg;rw[Ry,Nb,MJ];congr 1
 ·refine My λm a=>?_
  unfold qY;rw[UJ (Ma.mp a)]
 ·refine My λm a=>?_
  simp only[Function.comp];unfold qY;rw[UY ⋯,NL]
theorem w4(f:UV)(I:j<w)(i:Nat):app f w (jB j) i=f i j:=by unfold app;rw[zR (f:=λk=>f i k*jB j k) I λk _ O=>by simp[jB,MD O]];simp[jB]
theorem eY(hz:Span p (h+w) (eA (w+q)<|qY h w f g) z):Span p h (eA q g) λi=>z i - app f w (λj=>z<|h+j) i:=by
 induction hz with
 | @zero z hz=>
  refine .zero λi a=>?_;rw[Oy,hz i ⋯,nO (p:=p) (λj k=>hz (h+j) ⋯) i];simp
 | @step z u l c e o U Y=>
  obtain⟨m,n,rfl⟩:=e;have d:=λi=>uz (p:=p) (w:=w) (f:=f) (u:=λj=>u<|h+j) (g:=λj=>qY h w f g m<|h+j) (v:=λj=>z<|h+j) (c:=c) (λj k=>U (h+j) ⋯) i;have b : ∀i,i<h->(z i - app f w (λj=>z<|h+j) i)%p=((u i - app f w (λj=>u<|h+j) i)+c*(qY h w f g m i - app f w (λj=>qY h w f g m<|h+j) i))%p:=λi a=>by rw[Oy,U i ⋯,d i,<- Oy];congr 1;rw[Int.mul_sub];omega
  rcases Mz m w with I | I
  ·refine Y.congr λi a=>?_
   rw[b i a];have t:app f w (λj=>qY h w f g m<|h+j) i=f i m:=by
    have:(λj=>qY h w f g m<|h+j)=jB m:=by funext j;unfold qY;rw[UJ I,qv]
    rw[this,w4 f I]
   have O:qY h w f g m i=f i m:=by unfold qY;rw[UJ I,qa a]
   rw[t,O];simp
  ·refine .step (g:=g<|m - w) (c:=c) ⟨m - w,by omega,rfl⟩ Y λi a=>?_
   rw[b i a];have t:app f w (λj=>qY h w f g m<|h+j) i=0:=by
    have:(λj=>qY h w f g m<|h+j)=λ_=>0:=by funext j;unfold qY;rw[UY ⋯,qv]
    rw[this];unfold app;simp[zM]
   have O:qY h w f g m i=g (m - w) i:=by unfold qY;rw[UY ⋯,qa a]
   rw[t,O];simp
theorem ua(I:Span p h (eA q g) y):Span p (h+w) (eA (w+q)<|qY h w f g) (yS h y λ_=>0):=by
 induction I with
 | @zero y b=>
  refine .zero λi a=>?_;rcases Mz i h with z | z
  ·rw[qa z];exact b i z
  ·obtain⟨k,rfl⟩ : ∃k,i=h+k:=⟨i - h,by omega⟩
   rw[qv];simp
 | @step y u d c O m U Y=>
  obtain⟨k,l,rfl⟩:=O;refine .step (g:=qY h w f g<|w+k) (c:=c) ⟨w+k,by omega,rfl⟩ Y λi a=>?_;have e:qY h w f g (w+k)=yS h (g k) λ_=>0:=by unfold qY;rw[UY ⋯,NL]
  rw[e];rcases Mz i h with z | z
  ·rw[qa z,qa z,qa z];exact U i z
  ·obtain⟨j,rfl⟩ : ∃k,i=h+k:=⟨i - h,by omega⟩
   rw[qv,qv,qv];simp
theorem KC(hp:Pr p)(hh:h<=20)(hw:w<=20)(hq:q<=100)(f:UV)(g:Nat->Vc) :
 ∃r B l,xG [.int p,kQ h w f,.lst (jg q h g)]=bX (.own<|jg r w B)/\hL p w r B l/\∀v,Span p w (eA r B) v↔Span p h (eA q g) (app f w v):=by
 have hl:=jm;have S:h<=lim:=by omega
 have I:w<=lim:=by omega
 have U:h+w<=lim:=by omega
 have W:q<=lim:=by omega
 have Y:w+q<=lim:=by omega
 obtain⟨r,B,l,e,O,F⟩:=xR hp (show h+w<=100 by omega) Y .L<|qY h w f g;have X:r<=h+w:=VD O.mono O.lt;obtain⟨s,t,A,C⟩:=ZS h O.mono;have K:=QD O ⋯ t A C;obtain⟨H,Q⟩:=aH O t A C;refine⟨r - s,_,_,?_,H,λv=>(Q v).trans ((F _).trans ⟨λx=>?_,λx=>?_⟩)⟩
 ·have y:=Zf f S I
  have E:=vp (n:=w) I;have d:zW (.tp [0,1]) js (zE jJ (ze 0)<|ze 1) [Cell.no,Cell.no] ((LW w).map λj=>D.tup [.tup (zA h λi=>f i j),.tup (zA w λk=>if j=k then 1 else 0)])=bX (jg w (h+w) λj=>yS h (λi=>f i j)<|jB j):=by unfold jg;refine zB _ _ λj o=>zD rfl rfl ?_;simp[jJ,U,ZZ];rfl
  have R:vI (jg w h λi j=>f j i) (jg w w λi j=>if i=j then 1 else 0)=(LW w).map λj=>D.tup [.tup (zA h λi=>f i j),.tup (zA w λk=>if j=k then 1 else 0)]:=by unfold vI jg;rw[OZ];simp
  have J:inR (w:Int)=cz:=Ki I;have zr:xu (.tup [.int 0]) (.int w)=bX (.tup<|zA w λ_=>0):=by
   show(if [D.int 0].length*(w:Int).toNat<=lim/\inR (w:Int)=cz then bX (D.tup (Mb (w:Int).toNat [D.int 0]).flatten)else none)=_;rw[UJ ⟨by simpa using I,J⟩];congr 2;rw[NM];clear d R E y K H Q F O e J Y U I hw hq A C t X
   induction w with
   | zero=>rfl
   | succ w ih=>rw[List.replicate_succ',List.flatten_append,ih];unfold zA;rw[Nx,Nb];rfl
  have M:zW (.nm 0) js (zE jJ (ze 0)<|zE xu (qF<|zb (zy<|.int 0) zI)<|cE (zm 1)<|zy<|.int 1) [Cell.no,Cell.val (kQ h w f)] (jg q h g)=bX (jg q (h+w) λk=>yS h (g k) λ_=>0):=by unfold jg;refine zB _ _ λk P=>zD rfl rfl ?_;have sq:jx (kQ h w f)=bX (.T,[.int h,.int w,.tup (jg h w f)]):=rfl;simp[sq,zr,jJ,U,ZZ]
  have Z:((h:Int)+(w:Int))=((h+w:Nat):Int):=by omega
  simp only[p9]at e;rw[<- Z,<- gy]at e;have sq:jx (kQ h w f)=bX (.T,[.int h,.int w,.tup (jg h w f)]):=rfl;unfold kQ at y E M ⊢;simp[xG,jj,z6,jC,y,E,R,I,W,Y,je,kK,Mb,d,M,e,K]
 ·have:=eY x
  refine(this.smul (-1)).congr λi N=>?_;congr 1;show app f w v i = -1*(yS h (λ_=>0) v i - app f w (λj=>yS h (λ_=>0) v<|h+j) i);rw[qa N,show(λj=>yS h (λ_=>0) v<|h+j)=v from funext λj=>qv j];omega
 ·have a:=Span.sum (p:=p) (n:=h+w) (G:=eA (w+q)<|qY h w f g) (u:=λj=>qY h w f g j) v (m:=w) λj o=> .gen ⟨j,by omega,rfl⟩
  have b:=ua (w:=w) (f:=f) x;refine(b.add a (-1)).congr λi N=>?_;congr 1;rcases Mz i h with z | z
  ·rw[qa z,qa z]
   have:zh (λk=>v k*qY h w f g k i) w=app f w v i:=by unfold app;exact zx λk P=>by unfold qY;rw[UJ P,qa z,Nu]
   rw[this];omega
  ·obtain⟨k,rfl⟩ : ∃k,i=h+k:=⟨i - h,by omega⟩
   rw[qv,qv];have:zh (λj=>v j*qY h w f g j (h+k)) w=v k:=by rw[zR (f:=λj=>v j*qY h w f g j (h+k)) (i:=k) ⋯ λj o as=>by unfold qY;rw[UJ o,qv];simp[jB,as]];unfold qY;rw[UJ (show k<w by omega),qv];simp[jB]
   rw[this];simp
end
section
variable{p p':Int}{m m':Nat}{w w':UK}{wd wd':UX}{T T':UW}
theorem Y7(z:m<=900):vU [j5 p m w wd T,j5 p m w wd' T']=none/\qo [j5 p m w wd T,j5 p m w wd' T']=bX (.val .el):=by
 have a:=KA (p:=p) (p':=p) (w:=w) (w':=w) (wd:=wd) (wd':=wd') (T:=T) (T':=T') z z;rw[decide_eq_true ⟨rfl,rfl,λ_ _=>rfl⟩]at a;constructor
 ·simp[vU,HL,z6,IK,L4,uU,L5,a,Mb]
 ·simp[qo,jj,z6,a,Mb]
end
@[simp] def EY:=@AB.eq_1
section
variable{p:Int}{m:Nat}{w:UK}{wd:UX}{T:UW}{a:Nat}
abbrev lk(p:Int)(m:Nat)(w:UK)(wd:UX)(T:UW)(i j:Int)(a:Nat)(ds:List D)(c:Cell):Ctx:=[.val (j5 p m w wd T),.val (.int i),.val (.int j),.val (kQ a a λi j=>if i=j then 1 else 0),.own ds,c]
end
@[simp] def CN:=@FF.eq_1
section
variable{p:Int}{m:Nat}{w:UK}{wd:UX}{T:UW}
theorem yX:jx (j5 p m w wd T)=bX (.T,[.int p,.tup<|zA (m+1) λk=>(wd k:Int),.tup (k7 m w wd T)]):=rfl
end
def hH(i j:Nat):Int:=if i=j then 1 else 0
noncomputable def ZI(p:Int)(n:Nat)(f g:UV):Prop:=∀i j,i<n->j<n->zh (λk=>f i k*g k j) n%p=hH i j%p
theorem VC{p x y X Y:Int}(z:x%p=X%p)(C:y%p=Y%p):(x*y)%p=(X*Y)%p:=by rw[Mh,z,C,<- Mh]
section
variable{p:Int}{n:Nat}{f g f' g':UV}
theorem iy{t:Int}{u o:Nat}(M:u<n)(L:o<n)(C:u≠o)(z:ZI p n f g)(J : ∀i k,i<n->k<n->f' i k%p=(f i k+(if i=u then t else 0)*f o k)%p)(Z : ∀k j,k<n->j<n->g' k j%p=(g k j+(if j=o then -t else 0)*g k u)%p):ZI p n f' g':=by
 intro i j r O;generalize ea:(if i=u then t else 0)=a at J;have w : ∀k,k<n->f' i k%p=(f i k+(if i=u then t else 0)*f o k)%p:=λk I=>by have:=J i k r I;exact this
 rw[zO (g:=λk=>f i k*g k j+(if j=o then -t else 0)*(f i k*g k u)+((if i=u then t else 0)*(f o k*g k j)+((if i=u then t else 0)*(if j=o then -t else 0))*(f o k*g k u))) λk I=>by
  rw[VC (w k I) (Z k j I O)];congr 1;generalize (if i=u then t else 0)=a;generalize (if j=o then -t else 0)=b;rw[Rc,OX,OX];congr 1
  ·congr 1;rw[NV]
  ·congr 1
   ·rw[NR]
   ·rw[NR,NR];congr 1;rw[NV]]
 rw[ju,ju,ju,zY,zY,zY];have B:=z i j r O;have E:=z i u r M;have F:=z o j L O;have G:=z o u L M;have U : ∀c S d:Int,S%p=d%p->(c*S)%p=(c*d)%p:=λc S d h=>VC rfl h;have ad : ∀x y X Y:Int,x%p=X%p->y%p=Y%p->(x+y)%p=(X+Y)%p:=λx y X Y a b=>by rw[MU,a,b,<- MU]
 rw[ad _ _ _ _ (ad _ _ _ _ B<|U _ _ _ E) (ad _ _ _ _ (U _ _ _ F)<|U _ _ _ G)];congr 1;unfold hH;have s : ¬o=u:=λe=>C e.symm;by_cases l:i=u
 ·by_cases m:j=o
  ·subst l m;simp[C,s];omega
  ·have A : ¬o=j:=λe=>m e.symm
   simp[l,m,A,s]
 ·simp[l]
theorem cI{t:Int}{u o:Nat}(Y:u<n)(M:o<n)(z:u≠o)(C:ZI p n g f)(J : ∀i k,i<n->k<n->f' i k%p=(f i k+(if i=u then t else 0)*f o k)%p)(L : ∀k j,k<n->j<n->g' k j%p=(g k j+(if j=o then -t else 0)*g k u)%p):ZI p n g' f':=by
 intro i j b U;rw[<- C i j b U];rw[zO (g:=λk=>g i k*f k j+((if k=u then t*(g i u*f o j)else 0)+(if k=o then -t*(g i u*f o j)else 0))) λk I=>by
  rw[VC (L i k b I) (J k j I U)];congr 1;by_cases a:k=u
  ·subst a
   have O : ¬k=o:=z;simp only[UY O,if_true,OI,Pq,OX];rw[NV]
  ·by_cases O:k=o
   ·subst O
    simp only[UY a,if_true,OI,Pq,Int.zero_add,Rc];rw[NR]
   ·simp only[UY a,UY O,OI,Pq]]
 rw[ju,ju,zR (f:=λk=>if k=u then t*(g i u*f o j)else 0) Y λk _ I=>UY I,zR (f:=λk=>if k=o then -t*(g i u*f o j)else 0) M λk _ I=>UY I];simp only[if_true];congr 1;rw[Ru];omega
end
def jt(n:Nat)(f:UV):List D:=(LW n).map λi=>D.lst<|zA n<|f i
def xc(n:Nat)(f:UV):List (List D):=(LW n).map λi=>zA n<|f i
theorem dz(n f):(xc n f).map D.lst=jt n f:=by simp[xc,jt]
@[simp] theorem AG(n f):(jt n f).length=n:=by simp[jt]
@[simp] theorem Ek(f)(z:i<(jt n f).length):(jt n f)[i] = .lst (zA n<|f i):=by simp[jt]
@[simp] theorem uO(r):kK (.nest r) = .no:=rfl
@[simp] theorem BP(r):kK (.own r) = .no:=rfl
@[simp] theorem BO(d):kK (.val d) = .val d:=rfl
@[simp] theorem Eu:kK .no = .no:=rfl
theorem VW(J:a<n)(v I:Vc)(x:Int)(z:I a=x)(C : ∀i,i<n->i≠a->I i=v i):(zA n v).set a (.int x)=zA n I:=by
 apply NK;intro i;rw[Ob];by_cases b:i<n
 ·by_cases e:a=i
  ·subst e;simp[J,zA,z]
  ·have:=C i b (MD e)
   simp[e,zA,b,this]
 ·have O:(zA n v)[i]? = none:=by simp[zA];omega
  have d:(zA n I)[i]? = none:=by simp[zA];omega
  rw[O,d,UY ⋯]
theorem dA(O:u<n)(f f':UV)(v:Vc)(z : ∀j,j<n->f' u j=v j)(C : ∀i j,i<n->i≠u->j<n->f' i j=f i j):(jt n f).set u (.lst<|zA n v)=jt n f':=by
 apply NK;intro i;rw[Ob];by_cases a:i<n
 ·by_cases e:u=i
  ·subst e;simp[O,jt];exact yD λj I=>(z j I).symm
  ·simp[e,jt,a];exact yD λj I=>(C i j a (MD e) I).symm
 ·have U:(jt n f)[i]? = none:=by simp[jt];omega
  have b:(jt n f')[i]? = none:=by simp[jt];omega
  rw[U,b,UY ⋯]
theorem Xu : ∀(l:List Nat),(∀k∈l,∃d z m,fx (yY γ j i<|R k)=bX d/\gx (yY γ j i<|R k)=bX (.int z)/\f6 (R k).length z=bX m/\(R k).set m d=R' k)->kP j i gx fx γ (l.map R)=bX (l.map R')
 | [],_=>rfl
 | k::l,h=>by obtain⟨d,z,m,a,b,I,O⟩:=h k Mn;have U:=Xu l λx e=>h x<|Mm _ e;simp[kP,a,b,I,O,U]
theorem YV : ∀(l:List Nat),(∀k∈l,∃γ1,qZ T (g k) γ=bX γ1/\f γ1=bX (R k))->wc T f γ (l.map g)=bX (l.map R)
 | [],_=>rfl
 | k::l,h=>by obtain⟨γ1,a,b⟩:=h k Mn;have I:=YV l λx d=>h x<|Mm _ d;simp[wc,a,b,I]
section
variable{p:Int}{n:Nat}
structure Pair(p:Int)(n:Nat)(f g:UV):Prop where
 bf : ∀i j,i<n->j<n->0<=f i j/\f i j<p
 bg : ∀i j,i<n->j<n->0<=g i j/\g i j<p
 fg:ZI p n f g
 gf:ZI p n g f
end
@[simp] theorem AF(n f):(xc n f).length=n:=by simp[xc]
def zK(w:UK)(k:Nat):Nat:=if w k then k+1 else k
def zP(w:UK)(k:Nat):Nat:=if w k then k else k+1
theorem QU(w:UK)(k:Nat):qm [.int k,.str (yk<|h9<|w k)]=bX (.val<|.int (zK w k:Nat)):=by have q:=JX<|w k;cases h:w k<;>rw[h]at q<;>simp[qm,jj,z6,zK,q,h]
theorem nV(w:UK)(k:Nat):vH [.int k,.str (yk<|h9<|w k)]=bX (.val<|.int (zP w k:Nat)):=by have q:=JX<|w k;cases h:w k<;>rw[h]at q<;>simp[vH,jj,z6,zP,q,h]
def yU(m:Nat)(wd:UX)(f:UW):List D:=(LW m).map λk=>kQ (wd k) (wd k)<|f k
@[simp] theorem Ae(m wd f):(yU m wd f).length=m:=by simp[yU]
@[simp] theorem Ed(wd f)(h:k<(yU m wd f).length):(yU m wd f)[k]=kQ (wd k) (wd k) (f k):=by simp[yU]
noncomputable def vW(p:Int)(w:UK)(wd:UX)(f g T:UW)(k i j:Nat):Int:=
 zh (λb=>g (zK w k) b j*(zh (λa=>T k a b*f (zP w k) i a) (wd<|zP w k)%p)) (wd<|zK w k)%p
@[simp] theorem CP(γ:Ctx)(f):Yc f γ=(f γ).bind λd=>match d with
 | .str z=>if jO z=cz then bX (xl<|xX z)else none
 | _=>none:=rfl
@[simp] theorem EX(γ:Ctx)(f g):FI f g γ=(f γ).bind λd=>(g γ).bind λe=>match d,e with
 | .str x,.str y=>if jO x=cz/\jO y=cz then bX (.str<|x++y)else none
 | _,_=>none:=rfl
theorem Xw(m:Nat)(w:UK):xl (xX<|qc m w)=(LW m).map λ(k:Nat)=>D.tup [.int k,.str (yk<|h9<|w k)]:=by
 have e:xX (qc m w)=(LW m).map λk=>D.str (yk<|h9<|w k):=by unfold xX;rw[ki,MJ];rfl
 unfold xl;rw[e];simp only[Mq,MQ];refine My λk I=>?_;simp[Ma.mp I]
def pr(a b:Nat):D:= .tup [.int a,.int b]
@[simp] theorem HR(a b):jx (pr a b)=bX (.T,[.int (a:Int),.int (b:Int)]):=rfl
theorem VH(a c:Nat):(if a<c then (c:Int)else (a:Int))=((max a c:Nat):Int):=by
 by_cases h:c>a
 ·rw[UJ h,Nat.max_eq_right ⋯]
 ·rw[UY h,Nat.max_eq_left ⋯]
theorem VG(a c:Nat):(if c<a then (c:Int)else (a:Int))=((min a c:Nat):Int):=by
 by_cases h:c<a
 ·rw[UJ h,Nat.min_eq_right ⋯]
 ·rw[UY h,Sg ⋯]
def Dx(w:UK)(a c:Nat):Bool:=decide (a=c) || (w (max a c - 1)==decide (a<c))
def DB(w:UK)(b d:Nat):Bool:=decide (b=d) || (w (min b d)==decide (b<d))
section
variable{m a b c d:Nat}{w:UK}
theorem hX(J:m<=5)(z:a<=m)(C:c<=m):xP [.str (qc m w),pr a b,pr c d]=bX (.val<|.bl<|Dx w a c):=by
 by_cases q:a=c
 ·subst q
  simp[xP,jj,z6,jC,Dx]
 ·have I : ¬((a:Int)=(c:Int)):=by omega
  have e:k8 (ze 0) (zE yR (iV (cE (zm 1)<|zy<|.int 0)<|cE (zm 2)<|zy<|.int 0)<|zy<|.int 1) [Cell.val (.str<|qc m w),Cell.val<|pr a b,Cell.val (pr c d)]=bX (.str<|yk<|h9<|w<|max a c - 1):=by refine wm w ⋯ ⋯ _ _ _ rfl ?_;simp[VH];omega
  simp only[xP,jj,z6,jC,Mb,Nm,Of];simp[-w5,I,e];by_cases l:a<c
  ·have f:(a:Int)<c:=by omega
   simp[l,oY,Dx,q]
  ·simp[l,JX,Dx,q]
theorem bY(J:m<=5)(z:b<=m)(C:d<=m):xo [.str (qc m w),pr a b,pr c d]=bX (.val<|.bl<|DB w b d):=by
 by_cases q:b=d
 ·subst q
  simp[xo,jj,z6,jC,DB]
 ·have I : ¬((b:Int)=(d:Int)):=by omega
  have f:k8 (ze 0) (dr (cE (zm 1)<|zy<|.int 1)<|cE (zm 2)<|zy<|.int 1) [Cell.val (.str<|qc m w),Cell.val<|pr a b,Cell.val (pr c d)]=bX (.str<|yk<|h9<|w<|min b d):=by refine wm w ⋯ ⋯ _ _ _ rfl ?_;simp[VG]
  simp only[xo,jj,z6,jC,Mb,Nm,Of];simp[-w5,I,f];by_cases l:d<b
  ·have e : ¬b<d:=by omega
   simp[l,e,JX,DB,q]
  ·have e:b<d:=by omega
   simp[l,e,oY,DB,q]
noncomputable def t9(w:UK)(a b c d:Nat):Bool:=decide (max a c<=min b d) && (Dx w a c && DB w b d)
theorem KD(z:m<=5)(C:a<=m)(O:b<=m)(U:c<=m)(J:d<=m):kn [.str (qc m w),pr a b,pr c d]=bX (.val<|.int<|if t9 w a b c d=cz then 1 else 0):=by
 have e:=hX (b:=b) (d:=d) (w:=w) z C U;have Y:=bY (a:=a) (c:=c) (w:=w) z O J;simp only[kn,jj,z6,jC,Mb,Nm,Of];by_cases q:max a c<=min b d
 ·have I : ¬((min b d:Nat):Int)<((max a c:Nat):Int):=by omega
  simp[VH,VG,I,e,t9,q];cases h1:Dx w a c
  ·simp[h1]
  ·simp[h1,Y]
   cases h2:DB w b d<;>simp[h2]
 ·have I:((min b d:Nat):Int)<((max a c:Nat):Int):=by omega
  simp[VH,VG,I,t9,q]
theorem xH(z:m<=5){k:Nat}(I:k<m):jQ [.str (qc m w),.int k]=bX (.val<|.tup [.int ((zK w k:Nat):Int),.int ((zP w k:Nat):Int)]):=by have a:k8 (ze 0) (ze 1) [Cell.val (.str<|qc m w),Cell.val (.int k)]=bX (.str<|yk<|h9<|w k):=wm w ⋯ I _ _ _ rfl rfl;simp only[jQ,jj,z6,jC,Mb,Nm,Of];simp[-w5,a,JX];cases h:w k<;>simp[h,zK,zP]
end
def mk(lo:Nat)(ch:List Int)(r:Nat):Int:=if lo<=r then ch.getD (r - lo) 0 else 0
section
variable{m a b c d:Nat}{w:UK}
noncomputable def sg(m:Nat)(w:UK)(a b c d:Nat)(z C I J:Cell):Ctx:=[.val (.str<|qc m w),.val<|pr a b,.val<|pr c d,z,C,I,J]
end
theorem Jp{z:List Int}(C:z.length<=63){r n:Nat}{t:Int}(Z:0<=t)(L:t<1000)(J:0<r)(M:r<=6)(S:n<=60) : ∃bs,qA [xT z,.int t,.int n,.int r]=bX (.own<|jn bs)/\(∀b∈bs,ZJ r b)/\bs.length=n:=by
 have K:=jm;have m:n<=lim:=by omega
 have j : ∀(k s:Nat) (acc:List (Int×Int)) (a d f:Cell),s+k=n->acc.length=s->(∀b∈acc,ZJ r b)->∃bs O U Y,
  kD (.nm 5) (zQ (jy 6<|zH jb<|zb (ze 0)<|zb (zE jJ (ze 1)<|ze 5) zI)<|zQ (jy 7<|zE q8 (ze 6)<|ze 3)<|jI 4<|qF<|zb (ze 7)<|zb (zE jJ (ze 7)<|zE q8 (zE v9 (ze 6)<|ze 3)<|zE yR (ze 3)<|ze 7) zI) ((NH s k).map λ(i:Nat)=>D.int i)
   [.val (xT z),.val<|.int t,.val<|.int n,.val<|.int r,.own<|jn acc,a,d,f]=bX (.next [.val (xT z),.val<|.int t,.val<|.int n,.val<|.int r,.own<|jn bs,O,U,Y])/\(∀b∈bs,ZJ r b)/\bs.length=n:=by
  intro k
  induction k with
  | zero=>intro s acc a d f y l g;exact⟨acc,a,d,f,rfl,g,by omega⟩
  | succ k A=>
   intro s acc a d f y l g;obtain⟨x,G,H⟩:=J1 C (k:=t+(s:Int)) ⋯ ⋯;have o:=MF (qS z<|t+(s:Int)) (show(r:Int)≠0 by omega);have p:=Mp (qS z<|t+(s:Int)) (show(0:Int)<r by omega);have as:=MF (qS z (t+(s:Int))/r) (show(r:Int) - qS z (t+(s:Int))%r≠0 by omega);have F:=Mp (qS z (t+(s:Int))/r) (show(0:Int)<(r:Int) - qS z (t+(s:Int))%r by omega);obtain⟨bs,O,U,Y,h,g1,g2⟩:=A (s+1) (acc++[(qS z (t+(s:Int))%r,qS z (t+(s:Int))%r+qS z (t+(s:Int))/r%((r:Int) - qS z (t+(s:Int))%r))]) (.val<|.int s) (.val<|.int<|qS z<|t+(s:Int)) (.val<|.int<|qS z (t+(s:Int))%r) ⋯ (by simp[l]) (λb I=>by
    rcases OU.mp I with I | I
    ·exact g b I
    ·have e:b=_:=Ov.mp I
     subst e;exact⟨o,by show _<=_+_;omega,by show _+_<_;omega⟩)
   refine⟨bs,O,U,Y,?_,g1,g2⟩;rw[<- h,Pn,MI,qD];have u:acc.length<lim:=by omega
   have E:(0:Int)<r:=by omega
   have N:(0:Int)<(r:Int) - qS z (t+(s:Int))%r:=by omega
   have B:(r:Int)<1073741824:=by omega
   simp[jC,x,E,J,p,u,B];simp[jn]
 obtain⟨bs,O,U,Y,h,g1,g2⟩:=j n 0 [] .no .no .no ⋯ rfl ⋯;refine⟨wq bs,?_,λb I=>g1 b<|(vw bs).mem_iff.mp I,by rw[(vw bs).length_eq,g2]⟩;rw[<- OB]at h;simp[qA,jj,z6,jC,m,jL,Mb];rw[jd n λi=>(i:Int)];have w:(jn []:List D)=[]:=rfl;rw[w]at h;rw[h];simp[cX (show bs.length<64 by omega)]
theorem uV{c:Int}(z:0<=c){m:Nat}(C:m<=5) : ∃w,xJ [.int c,.int (1+(m:Int))]=bX (.val<|.str<|qc m w):=by
 have e:=jm;have I:m<=lim:=by omega
 refine⟨λk=>decide (c/2 ^ k%2=1),?_⟩;have a:zW (.nm 0) js (k8 (zy (.str "rl")) (zE q8 (zE v9 (ze 1) (cE (jS (j4 (zb (zy (.int 1)) (zb (zy (.int 2)) (zb (zy (.int 4)) (zb (zy (.int 8)) (zb (zy (.int 16)) zI))))))) (ze 0))) (zy (.int 2)))) [Cell.no,Cell.val (.int c)] ((LW m).map λi:Nat=>D.int (i:Int)) =
  bX ((LW m).map λ(k:Nat)=>D.str<|yk<|h9<|decide<|c/2 ^ k%2=1):=by
  refine zB _ _ λk O=>zD rfl rfl ?_;have O:=Ma.mp O;have U:zE q8 (zE v9 (ze 1)<|cE (jS<|j4<|zb (zy<|.int 1)<|zb (zy<|.int 2)<|zb (zy<|.int 4)<|zb (zy<|.int 8)<|zb (zy<|.int 16) zI)<|ze 0) (zy<|.int 2) [Cell.val (.int k),Cell.val (.int c)]=bX (.int<|c/2 ^ k%2):=by
   have Y:k=0\/k=1\/k=2\/k=3\/k=4:=by omega
   rcases Y with rfl | rfl | rfl | rfl | rfl<;>simp[jx,f6]
  show k8 _ _ [Cell.val (.int k),Cell.val (.int c)]=_;rw[w5,U];have q:c/2 ^ k%2=0\/c/2 ^ k%2=1:=by omega
  rcases q with q | q
  ·rw[q];rfl
  ·rw[q];rfl
 have all1:((LW m).map λ(k:Nat)=>yk<|h9<|decide<|c/2 ^ k%2=1).all jO=cz:=by
  rw[List.all_map];exact Oi.mpr λk _=>by show jO (yk _)=cz;rfl
 have d:jO ("" : Str)=cz:=rfl;have b:(1:Int)+(m:Int) - 1=(m:Int):=by omega
 simp[xJ,jj,z6,jC,b,I,jL,je,kK,Mb];rw[jd m λi=>(i:Int)];rw[a];simp only[Nt,Me,Function.comp];rw[XI];simp only[Me];rw[UJ ⟨by simpa using I,Oi.mp all1,d⟩];rfl
def z7(h w:Nat)(f:UV):List D:=(LW h).map λi=>D.lst<|zA w<|f i
@[simp] theorem jX(h w f):(z7 h w f).length=h:=by simp[z7]
theorem wZ(ds:List D):jx (.lst ds)=bX (.L,ds):=rfl
theorem Xy(ds:List D):jx (.tup ds)=bX (.T,ds):=rfl
theorem yp(s:Nat)(f:Nat->α):(LW<|s+1).map f=(LW s).map f++[f s]:=by rw[Nx,Nb];rfl
theorem qt(w:UK)(wd:UX)(k:Nat):wd (zP w k)=eK w wd k:=by unfold zP eK;split<;>rfl
theorem qz(w:UK)(wd:UX)(k:Nat):wd (zK w k)=ed w wd k:=by unfold zK ed;split<;>rfl
theorem yC{w:UK}{k m:Nat}(h:k<m):zP w k<m+1:=by unfold zP;split<;>omega
theorem yF{w:UK}{k m:Nat}(h:k<m):zK w k<m+1:=by unfold zK;split<;>omega
noncomputable def jK(m:Nat)(w:UK)(wd:UX)(T:UW):List D:=(LW m).map λk=>D.lst<|z7 (eK w wd k) (ed w wd k)<|T k
noncomputable def jN(m:Nat)(w:UK)(wd:UX)(T:UW):D:= .tup [.lst (zA (m+1) λk=>(wd k:Int)),.lst (jK m w wd T)]
noncomputable def Ce(m:Nat)(w:UK)(wd wd':UX)(J:UW):List D:=(LW m).map λk=>kQ (eK w wd k) (ed w wd' k)<|J k
theorem Aa(h w:Nat)(I:h<=lim)(f:UV)(γ:Ctx):zW (.nm 0) js (jv<|zm 0) [Cell.no] (z7 h w f)=bX (jg h w f):=by unfold z7 jg;exact zB _ _ λk O=>zD rfl rfl rfl
def b1:=(l9 (k9<|sB<|zH XB<|zb (ze 1) zI) Yb xM)
def b2:=(jy 3<|zE jJ (x9<|ze 1)<|zy<|.int 1)
noncomputable def b3:=(l9 (k9<|sB<|FJ<|jS<|zU (zV<|zm 2) (.nm 0) 1 [3] js (zH ZK<|zb (ze 1)<|zb (ze 0) zI)) Yb xM)
def b4:=(jy 4<|jU<|dm<|zm 2)
def x1:CO Xn:=(L4 (k9 (sB (zH XB (zb (ze 1) zI)))) (uU "NoRow") L5)
noncomputable def x3:CO Xn:=(L4 (k9 (sB (FJ (jS (zU (zV (zm 2)) (.nm 0) 1 [3] js (zH ZK (zb (ze 1) (zb (ze 0) zI)))))))) (uU "NoRow") L5)
def x7:CO Xn:=(L4 (sB (zE Dt (iP (zm 6)) (zy (.int 30)))) (uU "TooMany") L5)
noncomputable def AI(m:Nat)(bs:List (Int×Int)):List D:=(LW<|m+1).map λ(r:Nat)=>D.lst<|Yz<|jf bs r
def pk(m:Nat)(bs:List (Int×Int)):List D:=zA (m+1) λr=>((jf bs r).length:Int)
section
variable{p:Int}{m:Nat}{w:UK}{bs:List (Int×Int)}
abbrev g0(p:Int)(z:Str)(bs:List (Int×Int)):Ctx:=[.val (.int p),.val (.str z),.val (.lst (jn bs)),.no,.no,.no,.no,.no]
abbrev g2(p:Int)(z:Str)(m:Nat)(bs:List (Int×Int)):Ctx:=[.val (.int p),.val (.str z),.val (.lst (jn bs)),.val (.int ((m+1:Nat):Int)),.no,.no,.no,.no]
abbrev g6(p:Int)(z:Str)(m:Nat)(bs:List (Int×Int)):Ctx:=[.val (.int p),.val (.str z),.val (.lst (jn bs)),.val (.int ((m+1:Nat):Int)),.val (.lst (jn (wq bs))),.val (.lst (AI m (wq bs))),.val (.tup (pk m (wq bs))),.no]
end
section
variable{p:Int}{m:Nat}{w:UK}{bs:List (Int×Int)}
theorem tK{b:List Nat}(x:Nat):zW (.nm 0) js (QH<|zE hG (ze 1)<|ze 0) [Cell.no,Cell.val (.int x)] (Yz b)=bX (b.map λy=>D.int<|if x=y then 1 else 0):=by
 unfold Yz;refine zB _ _ λy I=>zD rfl rfl ?_;by_cases h:x=y
 ·simp[h]
 ·have a : ¬((x:Int)=(y:Int)):=by omega
  simp[h,a]
end
end DL
namespace DL
open PySem L2 PySem.W PyProof.Rows
def i9(x y:Int×Int):Prop:=vQ y x=dn
theorem wL(x):i9 x x:=by unfold i9 vQ;simp
theorem Kf:i9 x y↔x.1<y.1\/(x.1=y.1/\x.2<=y.2):=by
 unfold i9 vQ;by_cases h:y.1=x.1
 ·rw[UJ h,decide_eq_false_iff_not];omega
 ·rw[UY h,decide_eq_false_iff_not];omega
theorem fC:vQ x y=cz↔x.1<y.1\/(x.1=y.1/\x.2<y.2):=by
 unfold vQ;by_cases h:x.1=y.1
 ·rw[UJ h,decide_eq_true_iff];omega
 ·rw[UY h,decide_eq_true_iff];omega
theorem wK(a:i9 x y)(b:i9 y z):i9 x z:=by rw[Kf]at *;omega
theorem wM(a:vQ x y=cz):i9 x y:=by rw[fC]at a;rw[Kf];omega
theorem BU(a:vQ x y=cz)(b:i9 y z):vQ x z=cz:=by rw[fC]at *;rw[Kf]at b;omega
theorem Kg(a:i9 x y)(b:i9 y x):x=y:=by rw[Kf]at *;obtain⟨x1,I⟩:=x;obtain⟨O,U⟩:=y;simp only[Prod.mk.injEq]at *;omega
section
variable(key:Nat->Int×Int)
def vA(p:Array Nat)(i:Nat):Int×Int:=key<|p.getD i 0
def iU(i j:Nat):Bool:=vQ (key i)<|key j
def rh(p:Array Nat)(n:Nat):Prop:=∀i j,i<=j->j<n->i9 (vA key p i) (vA key p j)
def Dec(p:Array Nat)(n:Nat):Prop:=∀i j,i<=j->j<n->i9 (vA key p j) (vA key p i)
variable{key}
theorem ya(f:α->KasT β) : ∀t:KasT α,ka lt (t.bind f)=ka lt (f<|ka lt t)
 | .ret a=>rfl
 | .ask i j k=>ya f<|k<|lt i j
theorem yt(p:Array Nat)(i j):(kas_rev p i j).size=p.size:=mirror_size _ _ _ _
theorem Fc(p:Array Nat)(i:Nat):vA key p i=key (p[i]?.getD 0):=by unfold vA;rw[OS]
theorem cD(I:j<=p.size)(k:Nat):vA key (kas_rev p i j) k=if i<=k/\k<j then vA key p (i+j - 1 - k)else vA key p k:=by have:=getElem?_mirror_all (xs:=p) (i:=i) I k;unfold vA kas_rev;rw[OS,this];split<;>rw[OS]
theorem Jj(O:j<=p.size)(I : ∀k,i<=k->k<j->vA key p k=vA key p (j - 1))(k:Nat):vA key (kas_rev p i j) k=vA key p k:=by
 rw[cD O];split
 ·rename_i h
  rw[I _ ⋯ ⋯,I k h.1 h.2]
 ·rfl
theorem nY(I:k<p.size)(O:l<=k)(i:Nat):vA key (bubble p k<|k - l) i=if i=l then vA key p k else if l<i/\i<=k then vA key p (i - 1)else vA key p i:=by
 have:=getElem?_bubble (xs:=p) I (k - l) ⋯ i;rw[show k - (k - l)=l by omega]at this;simp only[Fc];rw[this];split
 ·rfl
 ·split<;>rfl
theorem iJ(z:1<=n)(hs:rh key p n)(h:i9 (vA key p<|n - 1) (vA key p n)):rh key p (n+1):=λi j I U=>by
 by_cases e:j=n
 ·subst e
  by_cases O:i=j
  ·subst O;exact wL _
  ·exact wK (hs i (j - 1) ⋯ ⋯) h
 ·exact hs i j I ⋯
theorem Ja(z:1<=n)(hs:Dec key p n)(h:i9 (vA key p n) (vA key p<|n - 1)):Dec key p (n+1):=λi j I U=>by
 by_cases e:j=n
 ·subst e
  by_cases O:i=j
  ·subst O;exact wL _
  ·exact wK h<|hs i (j - 1) ⋯ ⋯
 ·exact hs i j I ⋯
theorem gS(p:Array Nat) : ∀(f n:Nat),1<=n->rh key p n->n<=ka (iU key) (kas_asc p f n)/\ka (iU key) (kas_asc p f n)<=n+f/\rh key p (ka (iU key)<|kas_asc p f n)/\(ka (iU key) (kas_asc p f n)=n+f\/vQ (vA key p<|ka (iU key)<|kas_asc p f n) (vA key p<|ka (iU key) (kas_asc p f n) - 1)=cz)
 | 0,n,hn,hs=>⟨Mf _,Mf _,hs,.inl rfl⟩
 | f+1,n,hn,hs=>by
  have e:ka (iU key) (kas_asc p (f+1) n)=ka (iU key) (if vQ (vA key p n) (vA key p<|n - 1)=cz then .ret n else kas_asc p f (n+1)):=rfl;rw[e];by_cases c:vQ (vA key p n) (vA key p<|n - 1)=cz
  ·rw[UJ c]
   exact⟨Mf _,by show n<=n+(f+1);omega,hs,.inr c⟩
  ·rw[UY c]
   obtain⟨U,Y,I,O⟩:=gS p f (n+1) ⋯ (iJ hn hs<|by unfold i9;simpa using c);exact⟨by omega,by omega,I,O.imp (λh=>by omega) id⟩
noncomputable def L7(key:Nat->Int×Int)(p:Array Nat)(n q:Nat):Prop:=q+1<=n/\∀i,n - (q+1)<=i->i<n->vA key p i=vA key p (n - 1)
theorem V2(p:Array Nat)(z:1<=n):L7 key p n 0:=⟨z,λi a b=>by rw[show i=n - 1 by omega]⟩
theorem Kp : ∀(f:Nat) (p:Array Nat) (n q:Nat),Dec key p n->L7 key p n q->n+f<=p.size->
 ∃p' n' I,ka (iU key) (kas_desc f p n q)=(p',n',I)/\p'.size=p.size/\n<=n'/\n'<=n+f/\Dec key p' n'/\L7 key p' n' I
 | 0,p,n,q,hd,hb,_=>⟨p,n,q,rfl,rfl,Mf _,Mf _,hd,hb⟩
 | f+1,p,n,q,hd,hb,hs=>by
  have b:1<=n:=by have:=hb.1;omega
  have e:ka (iU key) (kas_desc (f+1) p n q)=ka (iU key) (if vQ (vA key p n) (vA key p<|n - 1)=cz then (if q>0 then kas_desc f (kas_rev p (n - (q+1)) n) (n+1) 0 else kas_desc f p (n+1) 0)
   else .ask (p.getD (n - 1) 0) (p.getD n 0) λd=>if d=cz then .ret (p,n,q)else kas_desc f p (n+1) (q+1)):=rfl
  rw[e];by_cases c:vQ (vA key p n) (vA key p<|n - 1)=cz
  ·rw[UJ c]
   by_cases l:q>0
   ·rw[UJ l]
    have k:=Jj (key:=key) (p:=p) (i:=n - (q+1)) (j:=n) ⋯ hb.2;have o:Dec key (kas_rev p (n - (q+1)) n) (n+1):=λi j r w=>by rw[k,k];exact Ja b hd (wM c) i j r w
    obtain⟨p',n',I,a,O,g,h,U,Y⟩:=Kp f (kas_rev p (n - (q+1)) n) (n+1) 0 o (V2 _ ⋯) (by rw[yt];omega);exact⟨p',n',I,a,by rw[O,yt],by omega,by omega,U,Y⟩
   ·rw[UY l]
    obtain⟨p',n',I,a,O,g,h,U,Y⟩:=Kp f p (n+1) 0 (Ja b hd<|wM c) (V2 _ ⋯) ⋯;exact⟨p',n',I,a,O,by omega,by omega,U,Y⟩
  ·rw[UY c]
   have t:ka (iU key) (.ask (p.getD (n - 1) 0) (p.getD n 0) λd=>if d=cz then .ret (p,n,q)else kas_desc f p (n+1) (q+1))=ka (iU key) (if vQ (vA key p<|n - 1) (vA key p n)=cz then .ret (p,n,q)else kas_desc f p (n+1) (q+1)):=rfl;rw[t];by_cases d:vQ (vA key p<|n - 1) (vA key p n)=cz
   ·rw[UJ d]
    exact⟨p,n,q,rfl,rfl,Mf _,by omega,hd,hb⟩
   ·rw[UY d]
    have x:i9 (vA key p<|n - 1) (vA key p n):=by unfold i9;simpa using c
    have m:i9 (vA key p n) (vA key p<|n - 1):=by unfold i9;simpa using d
    have eq:=Kg x m;have s:L7 key p (n+1) (q+1):=⟨by have:=hb.1;omega,λi y z=>by
     rw[Nat.add_sub_cancel];by_cases u:i=n
     ·rw[u]
     ·rw[hb.2 i ⋯ ⋯,eq]⟩
    obtain⟨p',n',I,a,O,g,h,U,Y⟩:=Kp f p (n+1) (q+1) (Ja b hd m) s ⋯;exact⟨p',n',I,a,O,by omega,by omega,U,Y⟩
noncomputable def ib(key:Nat->Int×Int)(z nrem:Nat)(r:Nat×Array Nat):Prop:=1<=r.1/\r.1<=nrem/\r.2.size=z/\rh key r.2 r.1
theorem Wm(C:1<=n)(U:n<=nrem)(hs:nrem<=p.size)(z:Dec key p n):ib key p.size nrem (ka (iU key)<|kas_tail3 n nrem p):=by
 have I:rh key (kas_rev p 0 n) n:=λi j Y d=>by rw[cD ⋯,cD ⋯,UJ ⟨by omega,by omega⟩,UJ ⟨by omega,by omega⟩];exact z _ _ ⋯ ⋯
 obtain⟨a,b,O,_⟩:=gS (kas_rev p 0 n) (nrem - n) n C I;unfold kas_tail3;rw[ya];exact⟨by show 1<=ka _ _;omega,by show ka _ _<=nrem;omega,yt _ _ _,O⟩
theorem eW(C:1<=n)(J:n<nrem)(hs:nrem<=p.size)(U : ∀i,i<n->vA key p i=vA key p (n - 1))(z:vQ (vA key p n) (vA key p<|n - 1)=cz):ib key p.size nrem (ka (iU key)<|kas_descPart n nrem p):=by
 have k:Dec key p n:=λi j Y O=>by rw[U i ⋯,U j O];exact wL _
 obtain⟨b,a,I,g,d,l,m,e,h⟩:=Kp (nrem - (n+1)) p (n+1) 0 (Ja C k<|wM z) (V2 _ ⋯) ⋯;unfold kas_descPart;rw[ya,g];show ib key p.size nrem (ka (iU key)<|if I>0 then kas_tail3 a nrem (kas_rev b (a - (I+1)) a)else kas_tail3 a nrem b);split
 ·have f:=Jj (key:=key) (p:=b) (i:=a - (I+1)) (j:=a) ⋯ h.2
  have:=Wm (p:=kas_rev b (a - (I+1)) a) (n:=a) (nrem:=nrem) ⋯ ⋯ (by rw[yt];omega) (λi j Y O=>by rw[f,f];exact e i j Y O);rw[yt,d]at this;exact this
 ·have:=Wm (p:=b) (n:=a) (nrem:=nrem) ⋯ ⋯ ⋯ e
  rw[d]at this;exact this
theorem nH(z:1<=nrem)(hs:nrem<=p.size):ib key p.size nrem (ka (iU key)<|kas_count nrem p):=by
 have g:rh key p 1:=λi j o s=>by rw[show i=j by omega];exact wL _
 obtain⟨I,f,O,Y⟩:=gS p (nrem - 1) 1 (Mf _) g;unfold kas_count;rw[ya];generalize ka (iU key) (kas_asc p (nrem - 1) 1)=n at I f O Y;show ib key p.size nrem (ka (iU key)<|if (n==nrem)=cz then .ret (n,p)else if n>1 then .ask (p.getD 0 0) (p.getD (n - 1) 0) λc=>if c=cz then .ret (n,p)else kas_descPart n nrem (kas_rev p 0 n)else kas_descPart n nrem p);split
 ·rename_i h
  have:=eq_of_beq h;exact⟨I,by show n<=nrem;omega,rfl,O⟩
 ·rename_i h
  have r:n≠nrem:=λe=>h (by rw[e];exact beq_self_eq_true _);have b:vQ (vA key p n) (vA key p<|n - 1)=cz:=Y.resolve_left ⋯;split
  ·have e:ka (iU key) (.ask (p.getD 0 0) (p.getD (n - 1) 0) λc=>if c=cz then .ret (n,p)else kas_descPart n nrem (kas_rev p 0 n))=ka (iU key) (if vQ (vA key p 0) (vA key p<|n - 1)=cz then .ret (n,p)else kas_descPart n nrem (kas_rev p 0 n)):=rfl
   rw[e];split
   ·exact⟨I,by show n<=nrem;omega,rfl,O⟩
   ·rename_i c
    have l:i9 (vA key p<|n - 1) (vA key p 0):=by unfold i9;simpa using c
    have d : ∀i,i<n->vA key p i=vA key p (n - 1):=λi a=>Kg (O i (n - 1) ⋯ ⋯)<|wK l<|O 0 i ⋯ a;have U:=Jj (key:=key) (p:=p) (i:=0) (j:=n) ⋯<|λk _ m=>d k m;have:=eW (key:=key) (p:=kas_rev p 0 n) (n:=n) (nrem:=nrem) I ⋯ (by rw[yt];omega) (λi a=>by rw[U,U];exact d i a) (by rw[U,U];exact b);rw[yt]at this;exact this
  ·exact eW I ⋯ hs (λi a=>by rw[show i=n - 1 by omega]) b
theorem XY(hs:rh key p k) : ∀(f l r:Nat),l<=r->r<=k->r - l<=f->(∀i,i<l->i9 (vA key p i) (vA key p k))->(∀i,r<=i->i<k->vQ (vA key p k) (vA key p i)=cz)->
 ka (iU key) (kas_place p k f l r)<=k/\(∀i,i<ka (iU key) (kas_place p k f l r)->i9 (vA key p i) (vA key p k))/\∀i,ka (iU key) (kas_place p k f l r)<=i->i<k->vQ (vA key p k) (vA key p i)=cz
 | 0,l,r,h1,h2,h3,h4,h5=>⟨by show l<=k;omega,h4,λi a I=>h5 i (by have:l<=i:=a;omega) I⟩
 | f+1,l,r,h1,h2,h3,h4,h5=>by
  have e:ka (iU key) (kas_place p k (f+1) l r)=ka (iU key) (if l>=r then .ret l else .ask (p.getD k 0) (p.getD ((l+r)/2) 0) λc=>if c=cz then kas_place p k f l ((l+r)/2)else kas_place p k f ((l+r)/2+1) r):=rfl;rw[e];by_cases O:l>=r
  ·rw[UJ O]
   exact⟨by show l<=k;omega,h4,λi a I=>h5 i (by have:l<=i:=a;omega) I⟩
  ·rw[UY O]
   have U:ka (iU key) (.ask (p.getD k 0) (p.getD ((l+r)/2) 0) λc=>if c=cz then kas_place p k f l ((l+r)/2)else kas_place p k f ((l+r)/2+1) r)=ka (iU key) (if vQ (vA key p k) (vA key p<|(l+r)/2)=cz then kas_place p k f l ((l+r)/2)else kas_place p k f ((l+r)/2+1) r):=rfl;rw[U];by_cases c:vQ (vA key p k) (vA key p<|(l+r)/2)=cz
   ·rw[UJ c]
    exact XY hs f l ((l+r)/2) ⋯ ⋯ ⋯ h4 λi a I=>BU c<|hs _ _ a I
   ·rw[UY c]
    have Y:i9 (vA key p<|(l+r)/2) (vA key p k):=by unfold i9;simpa using c
    exact XY hs f ((l+r)/2+1) r ⋯ h2 ⋯ (λi a=>wK (hs i ((l+r)/2) ⋯ ⋯) Y) h5
theorem Bd(O:k<p.size)(U:l<=k)(hs:rh key p k)(z : ∀i,i<l->i9 (vA key p i) (vA key p k))(h2 : ∀i,l<=i->i<k->vQ (vA key p k) (vA key p i)=cz):rh key (bubble p k<|k - l) (k+1):=λi j d e=>by
 rw[nY O U,nY O U];by_cases b:i=l
 ·subst b
  rw[UJ rfl];by_cases I:j=i
  ·rw[UJ I];exact wL _
  ·rw[UY I,UJ ⟨by omega,by omega⟩]
   exact wM<|h2 _ ⋯ ⋯
 ·rw[UY b]
  by_cases Y:l<i/\i<=k
  ·rw[UJ Y,UY (show ¬j=l by omega),UJ ⟨by omega,by omega⟩]
   exact hs _ _ ⋯ ⋯
  ·rw[UY Y]
   by_cases I:j=l
   ·rw[UJ I];exact z i ⋯
   ·rw[UY I]
    by_cases a:l<j/\j<=k
    ·rw[UJ a];exact hs _ _ ⋯ ⋯
    ·rw[UY a];exact hs _ _ d ⋯
theorem pf : ∀(f:Nat) (p:Array Nat) (k n:Nat),k+f=n->p.size=n->rh key p k->rh key (ka (iU key)<|kas_bin f p k) n/\(ka (iU key)<|kas_bin f p k).size=n
 | 0,p,k,n,h1,h2,hs=>by
  obtain rfl:k=n:=by omega
  exact⟨hs,h2⟩
 | f+1,p,k,n,h1,h2,hs=>by obtain⟨I,O,U⟩:=XY hs k 0 k ⋯ (Mf _) ⋯ (λi b=>by omega) (λi Y a=>by omega);unfold kas_bin;rw[ya];exact pf f _ (k+1) n ⋯ (by rw[bubble_size];exact h2)<|Bd ⋯ I hs O U
theorem rj(z:1<=n):rh key (ka (iU key)<|kas_sort n) n/\(ka (iU key)<|kas_sort n).size=n:=by
 have d:(OT<|LW n).size=n:=by simp
 obtain⟨I,O,b,a⟩:=nH (key:=key) (p:=OT<|LW n) (nrem:=n) z ⋯;unfold kas_sort;rw[ya];generalize ka (iU key) (kas_count n<|OT<|LW n)=r at I O b a;show rh key (ka (iU key)<|if r.1<n then kas_bin (n - max r.1 1) r.2 (max r.1 1)else .ret r.2) n/\(ka (iU key)<|if r.1<n then kas_bin (n - max r.1 1) r.2 (max r.1 1)else .ret r.2).size=n;rw[show max r.1 1=r.1 by omega];split
 ·exact pf (n - r.1) r.2 r.1 n ⋯ ⋯ a
 ·have:r.1=n:=by omega
  rw[this]at a;exact⟨a,by show r.2.size=n;omega⟩
end
theorem ZA(bs:List (Int×Int)):(wq bs).Pairwise i9:=by
 unfold wq j7;by_cases h:bs.length<2
 ·rw[UJ h]
  rcases bs with _ | ⟨a,_ | ⟨b,bs⟩⟩
  ·exact Pb.nil
  ·exact List.pairwise_singleton _ _
  ·simp only[Nm]at h;omega
 ·rw[UY h]
  obtain⟨f,g⟩:=rj (key:=λi=>bs.getD i (0,0)) (n:=bs.length) ⋯;have e:(ka (λi j=>vQ (bs.getD i (0,0))<|bs.getD j (0,0))<|kas_sort bs.length)=ka (iU λi=>bs.getD i (0,0)) (kas_sort bs.length):=rfl;rw[e];generalize ka (iU λi=>bs.getD i (0,0)) (kas_sort bs.length)=p at f g;rw[Oz];intro i j d I O;simp only[Mq,NG]at d I;have:=f i j ⋯ ⋯;unfold vA at this;simp only[OS,Array.getElem?_eq_getElem d,Array.getElem?_eq_getElem I,SO]at this;simpa using this
theorem Jr : ∀{a b:List (Int×Int)},a.Perm b->a.Pairwise i9->b.Pairwise i9->a=b
 | [],b,h,_,_=>by rw[h.nil_eq]
 | x::a,[],h,_,_=>by have:=h.length_eq;simp at this
 | x::a,y::b,h,ha,hb=>by
  have d:x∈y::b:=h.mem_iff.mp Mn;have O:y∈x::a:=h.mem_iff.mpr Mn;have e:x=y:=by
   rcases Mj.mp d with e | e
   ·exact e
   ·rcases Mj.mp O with I | I
    ·exact I.symm
    ·exact Kg (List.rel_of_pairwise_cons ha I)<|List.rel_of_pairwise_cons hb e
  subst e;rw[Jr (List.Perm.cons_inv h) ha.of_cons hb.of_cons]
theorem Vj(h:a.Perm b):wq a=wq b:=
 Jr ((vw a).trans (h.trans (vw b).symm)) (ZA a) (ZA b)
end DL
namespace DL
open PySem L2
theorem ir{m k:Nat}(h:k<m+1)(wd:UX):(zA (m+1) λk=>(wd k:Int))[k]? = bX (.int (wd k:Int)):=by unfold zA;simp[h]
theorem nW(m:Nat)(wd:UX):(zA (m+1) λk=>(wd k:Int)).length=m+1:=by simp[zA]
theorem iG(m w wd T):(jK m w wd T).length=m:=by simp[jK]
theorem pM{m k:Nat}(h:k<m)(w wd T):(jK m w wd T)[k]? = bX (.lst<|z7 (eK w wd k) (ed w wd k)<|T k):=by unfold jK;simp[h]
theorem yz{h i:Nat}(z:i<h)(w f):(z7 h w f)[i]? = bX (.lst<|zA w<|f i):=by unfold z7;simp[z]
theorem gT(s w wd T):k7 (s+1) w wd T=k7 s w wd T++[Zh w wd T s]:=yp _ _
noncomputable def GA:=(zQ (yW (.tp [7,8])<|zH jQ<|zb (ze 1)<|zb (ze 6) zI)<|zQ (jy 9<|jv<|jS<|zU (zV<|zF<|cE (zm 4)<|ze 6) (.nm 0) 1 [] js (jv<|zm 0))<|jI 5<|qF<|zb (k8 (ze 1)<|ze 6)<|zb (qF<|zb (cE (zm 3)<|ze 8)<|zb (cE (zm 3)<|ze 7)<|zb (ze 9) zI) zI)
theorem W0{p:Int}{m:Nat}(J:m<=4)(w:UK){wd:UX}(z : ∀k,wd k<=9)(T:UW) :
 xp [.int p,.str<|qc m w,jN m w wd T]=bX (.val<|j5 p m w wd T):=by
 have H:=jm;have M8 : ∀k,eK w wd k<=10:=λk=>by rw[<- qt];have:=z<|zP w k;omega
 have wl:=ym m w;have n:=qU w (show m<=1000 by omega);have x:(yW (.tp [3,4])<|ze 2) (z6 10 [.int p,.str<|qc m w,jN m w wd T])=bX (.next [.val (.int p),.val<|.str<|qc m w,.val<|jN m w wd T,.val<|.lst<|zA (m+1) λk=>(wd k:Int),.val<|.lst<|jK m w wd T,.no,.no,.no,.no,.no]):=rfl;have y:(qw 5<|j4 zI) [.val (.int p),.val<|.str<|qc m w,.val<|jN m w wd T,.val<|.lst<|zA (m+1) λk=>(wd k:Int),.val<|.lst<|jK m w wd T,.no,.no,.no,.no,.no]=bX (.next [.val (.int p),.val<|.str<|qc m w,.val<|jN m w wd T,.val<|.lst<|zA (m+1) λk=>(wd k:Int),.val<|.lst<|jK m w wd T,.own [],.no,.no,.no,.no]):=rfl;obtain⟨G,A,⟨g,d,e,a,rfl⟩⟩:=jA (T:= .nm 6) (F:=GA) (f:=x9<|ze 1) (γ:=[.val (.int p),.val<|.str<|qc m w,.val<|jN m w wd T,.val<|.lst<|zA (m+1) λk=>(wd k:Int),.val<|.lst<|jK m w wd T,.own [],.no,.no,.no,.no])
  (λs γ=>∃g d e a,γ=[.val (.int p),.val<|.str<|qc m w,.val<|jN m w wd T,.val<|.lst<|zA (m+1) λk=>(wd k:Int),.val<|.lst<|jK m w wd T,.own<|k7 s w wd T,g,d,e,a]) m ⋯ (by simp[wl,n]) ⟨_,_,_,_,rfl⟩ (by
    rintro s b γ ⟨g,d,e,a,rfl⟩;refine⟨_,[.val (.int p),.val<|.str<|qc m w,.val<|jN m w wd T,.val<|.lst<|zA (m+1) λk=>(wd k:Int),.val<|.lst<|jK m w wd T,.own<|k7 (s+1) w wd T,.val<|.int (s:Int),.val<|.int ((zK w s:Nat):Int),.val<|.int ((zP w s:Nat):Int),.val (.tup<|jg (eK w wd s) (ed w wd s)<|T s)],rfl,?_,⟨_,_,_,_,rfl⟩⟩;have t:=xH (w:=w) (show m<=5 by omega) b;have O:=yC (w:=w) b;have i:=yF (w:=w) b;have r:s<lim:=by omega
    have I:3<=lim:=by omega
    have o:2<=lim:=by omega
    have U:eK w wd s<=lim:=by have:=M8 s;omega
    have u:(z7 (eK w wd s) (ed w wd s)<|T s).length<=lim:=by rw[jX];exact U
    have tp:=Aa (eK w wd s) (ed w wd s) U (T s) [];have Y:=ir O wd;have h:=ir i wd;rw[qt w wd]at Y;rw[qz w wd]at h;have E:=pM b w wd T;have j:(yW (.tp [7,8])<|zH jQ<|zb (ze 1)<|zb (ze 6) zI) [.val (.int p),.val<|.str<|qc m w,.val<|jN m w wd T,.val<|.lst<|zA (m+1) λk=>(wd k:Int),.val<|.lst<|jK m w wd T,.own<|k7 s w wd T,.val<|.int (s:Int),d,e,a]=bX (.next [.val (.int p),.val<|.str<|qc m w,.val<|jN m w wd T,.val<|.lst<|zA (m+1) λk=>(wd k:Int),.val<|.lst<|jK m w wd T,.own<|k7 s w wd T,.val<|.int (s:Int),.val<|.int ((zK w s:Nat):Int),.val<|.int ((zP w s:Nat):Int),a]):=by simp[t]
    refine zv j ?_;have l:(jy 9<|jv<|jS<|zU (zV<|zF<|cE (zm 4)<|ze 6) (.nm 0) 1 [] js (jv<|zm 0)) [.val (.int p),.val<|.str<|qc m w,.val<|jN m w wd T,.val<|.lst<|zA (m+1) λk=>(wd k:Int),.val<|.lst<|jK m w wd T,.own<|k7 s w wd T,.val<|.int (s:Int),.val<|.int ((zK w s:Nat):Int),.val<|.int ((zP w s:Nat):Int),a]=bX (.next [.val (.int p),.val<|.str<|qc m w,.val<|jN m w wd T,.val<|.lst<|zA (m+1) λk=>(wd k:Int),.val<|.lst<|jK m w wd T,.own<|k7 s w wd T,.val<|.int (s:Int),.val<|.int ((zK w s:Nat):Int),.val<|.int ((zP w s:Nat):Int),.val (.tup<|jg (eK w wd s) (ed w wd s)<|T s)]):=by simp only[vn,bU,kF,qb,Jh,Kx,yh,xV,vm,Nj,NB,xD,qT,Me,Nt,wZ,k6,iG,j9,b,if_true,E,u,je,Mb,RY,OG,tp,PD,PB]
    refine zv l ?_;have C:=wm w (show m<=1000 by omega) b [.val (.int p),.val<|.str<|qc m w,.val<|jN m w wd T,.val<|.lst<|zA (m+1) λk=>(wd k:Int),.val<|.lst<|jK m w wd T,.own<|k7 s w wd T,.val<|.int (s:Int),.val<|.int ((zK w s:Nat):Int),.val<|.int ((zP w s:Nat):Int),.val (.tup<|jg (eK w wd s) (ed w wd s)<|T s)] (ze 1) (ze 6) rfl rfl;rw[gT,xO,Y9,qg,C];simp only[Y9,qg,au,vm,yh,xV,Nj,NB,Nm,Of,NJ,Nat.reduceAdd,xD,qT,jZ,Me,Nt,wZ,k6,nW,j9,O,i,Y,h,if_true,I,o,Y8,r,PD,PB];rfl)
 have B:(qp<|qF<|zb (ze 0)<|zb (jv<|zm 3)<|zb (jv<|zm 5) zI) [.val (.int p),.val<|.str<|qc m w,.val<|jN m w wd T,.val<|.lst<|zA (m+1) λk=>(wd k:Int),.val<|.lst<|jK m w wd T,.own<|k7 m w wd T,g,d,e,a]=bX (.ret<|.val<|j5 p m w wd T):=by
  have I:3<=lim:=by omega
  simp[wZ,I,j5]
 exact jk<|zv x<|zv y<|zv A B
section
variable{p:Int}{m:Nat}{w:UK}{wd wd':UX}{T T' J:UW}
theorem wu(p m w wd T):jx (j5 p m w wd T)=bX (.T,[.int p,.tup<|zA (m+1) λk=>(wd k:Int),.tup (k7 m w wd T)]):=rfl
noncomputable def K9(m:Nat)(w:UK)(wd wd':UX):List D:=(LW m).map λk=>D.tup [.int (eK w wd k:Nat),.int (ed w wd' k:Nat)]
theorem rH(z:m<=4):yI [j5 p m w wd' T',j5 p m w wd T]=bX (.own<|K9 m w wd wd'):=by
 have u:=jm;have e:m<=lim:=by omega
 have t:=wu p m w wd T;have x1:=wu p m w wd' T';have s:=kT (p:=p) (wd:=wd') (T:=T') (w:=w) (show m<=900 by omega);have f:=qU w (show m<=1000 by omega);have n:2<=lim:=by omega
 have a:zW (.tp [0,1]) js (qF<|zb (cE (zF<|cE (zm 3)<|zy<|.int 1)<|zH vH<|zb (ze 0)<|zb (ze 1) zI)<|zb (cE (zF<|cE (zm 2)<|zy<|.int 1)<|zH qm<|zb (ze 0)<|zb (ze 1) zI) zI) [Cell.no,Cell.no,Cell.val<|j5 p m w wd' T',Cell.val (j5 p m w wd T)] ((LW m).map λ(k:Nat)=>D.tup [.int k,.str (yk<|h9<|w k)])=bX (K9 m w wd wd'):=by unfold K9;refine zB _ _ λk I=>zD rfl rfl ?_;have I:=Ma.mp I;have O:=yC (w:=w) I;have U:=yF (w:=w) I;have Y:=ir O wd;have d:=ir U wd';rw[qt w wd]at Y;rw[qz w wd']at d;have h:=nV w k;have i:=QU w k;have l:f6 3 1=bX 1:=rfl;show qF _ [Cell.val (.int (k:Int)),Cell.val<|.str<|yk<|h9<|w k,Cell.val<|j5 p m w wd' T',Cell.val (j5 p m w wd T)]=_;simp only[Y9,qg,au,yh,Kx,xV,vm,av,V5,Nj,NB,Nm,Of,NJ,Nat.reduceAdd,xD,qT,Me,Nt,t,x1,k6,l,Xy,h,i,AM,nW,j9,O,U,if_true,Y,d,n]
 have j:(xl<|xX<|qc m w).length<=lim:=by rw[Xw];simpa using e
 have o:(jy 2<|zH xn<|zb (ze 0) zI) (z6 3 [j5 p m w wd' T',j5 p m w wd T])=bX (.next [.val (j5 p m w wd' T'),.val<|j5 p m w wd T,.val (.str<|qc m w)]):=by simp[z6,Mb,s]
 have r:(vX<|zU (Yc<|ze 2) (.tp [0,1]) 2 [0,1] js (qF<|zb (cE (zF<|cE (zm 3)<|zy<|.int 1)<|zH vH<|zb (ze 0)<|zb (ze 1) zI)<|zb (cE (zF<|cE (zm 2)<|zy<|.int 1)<|zH qm<|zb (ze 0)<|zb (ze 1) zI) zI)) [.val (j5 p m w wd' T'),.val<|j5 p m w wd T,.val (.str<|qc m w)]=bX (.ret<|.own<|K9 m w wd wd'):=by
  have b:Yc (ze 2) [.val (j5 p m w wd' T'),.val<|j5 p m w wd T,.val (.str<|qc m w)]=bX (xl<|xX<|qc m w):=by show(if jO (qc m w)=cz then _ else _)=_;rw[UJ f]
  have pc:je 2 [0,1] [.val (j5 p m w wd' T'),.val<|j5 p m w wd T,.val (.str<|qc m w)]=[Cell.no,Cell.no,Cell.val<|j5 p m w wd' T',Cell.val (j5 p m w wd T)]:=rfl;show((zU _ _ _ _ _ _ _).map λg=>Fl.ret<|.own g)=_;rw[qb,b];simp only[Me];rw[UJ j,Xw,pc,a];rfl
 exact jk<|zv o r
end
def wl(l:List Bool):Str:=⟨⟨l.map h9⟩⟩
noncomputable def Gh(n k:Nat)(u:Nat->Int):Int:=if 0<k then (if k+1<n then u (k - 1)+(u (k+1)+0)else u (k - 1)+0)else if k+1<n then u (k+1)+0 else 0
def mv(n k:Nat)(u:Nat->Int)(i:Nat):Int:=if i=k then Gh n k u - u k else u i
def P_(n:Nat)(ks:List Nat)(u:Nat->Int):Nat->Int:=ks.foldl (λu k=>mv n k u) u
noncomputable def UB(n:Nat)(ks:List Nat)(u:Nat->Int):Nat->Nat->Int
 | 0=>u
 | j+1=>P_ n ks<|UB n ks u j
noncomputable def acc(n:Nat)(ks:List Nat)(u:Nat->Int):Nat->Nat->Int
 | 0=>λ_=>0
 | j+1=>λi=>acc n ks u j i+UB n ks u j i
theorem mI(n f):m7 (.lst<|zA n f)=cz:=fj (by
 have:=aa n f;simp only[deep]at this ⊢;exact this) ⋯ (by
 have:=fi n f;simp only[i6]at this ⊢;exact this)
theorem Km(b:Bool):hG (.str (yk (h9 b))) (.str "r")=bX (.bl (!b)):=by cases b<;>kernel_rfl
abbrev TB:=Nat×Nat×(Nat->Nat->Int)
def tD(t:TB):D:=kQ t.1 t.2.1 t.2.2
noncomputable def wA(bs:List (Int×Int))(I us:List TB):D:= .tup [.lst (jn bs),.lst<|I.map tD,.lst (us.map tD)]
theorem pT:qh=jj 12 (zQ O3<|zQ O4<|zQ iI Ai):=rfl
section
variable{p:Int}{n:Nat}
theorem iH(hp:Pr p)(S:n<=60){f g:UV}(h:Pair p n f g){u o:Nat}{tm:Int}(I:u<n)(O:o<n)(hc : ¬u=o)(ht:0<=tm/\tm<p)(C Y J L Z:Cell) :
 ∃f' g' M,Pair p n f' g'/\Fo [C,Y,.val<|.int p,.val<|.int n,.own<|jt n f,.nest<|xc n g,J,L,.val<|.int o,.val<|.int u,.val<|.int tm,Z]=bX (.next [C,Y,.val<|.int p,.val<|.int n,.own<|jt n f',.nest<|xc n g',J,L,.val<|.int o,.val<|.int u,.val<|.int tm,M]):=by
 have B:=jm;have S:n<=lim:=by omega
 have l:=hp.pos;have E:=hp.le;have r : ∀z:Int,0<=z%p/\z%p<p:=λz=>⟨MF _ ⋯,Mp _ l⟩;have m : ∀x,vT tm x=cz:=λx=>kE _ _ ⋯ ⋯;refine⟨λi j=>if i=o then (f o j+tm*f u j)%p else f i j,λi j=>if j=u then (g i u - tm*g i o)%p else g i j,.no,⟨λi j d U=>?_,λi j d U=>?_,?_,?_⟩,?_⟩
 ·by_cases e:i=o
  ·simp only[UJ e];exact r _
  ·simp only[UY e];exact h.bf i j d U
 ·by_cases e:j=u
  ·simp only[UJ e];exact r _
  ·simp only[UY e];exact h.bg i j d U
 ·refine iy (t:=tm) (u:=o) (o:=u) O I (MD hc) h.fg (λi k _ _=>?_) (λk j _ _=>?_)
  ·by_cases e:i=o
   ·simp only[UJ e];rw[MZ,e]
   ·simp only[UY e,OI,Pq]
  ·by_cases e:j=u
   ·simp only[UJ e];rw[MZ,e,Ru];rfl
   ·simp only[UY e,OI,Pq]
 ·refine cI (t:=tm) (u:=o) (o:=u) O I (MD hc) h.gf (λi k _ _=>?_) (λk j _ _=>?_)
  ·by_cases e:i=o
   ·simp only[UJ e];rw[MZ,e]
   ·simp only[UY e,OI,Pq]
  ·by_cases e:j=u
   ·simp only[UJ e];rw[MZ,e,Ru];rfl
   ·simp only[UY e,OI,Pq]
 ·have s:zW (.tp [0,1]) js (zE q8 (zE jJ (ze 0)<|zE xu (ze 3)<|ze 1)<|ze 2) [Cell.no,Cell.no,Cell.val<|.int p,Cell.val (.int tm)] ((LW n).map λj=>D.tup [.int (f o j),.int (f u j)])=bX (zA n λj=>(f o j+tm*f u j)%p):=by
   rw[jd];refine zB _ _ λj U=>zD rfl rfl ?_;simp[m,l]
  have y:=dA O f (λi j=>if i=o then (f o j+tm*f u j)%p else f i j) (λj=>(f o j+tm*f u j)%p) (λj _=>by simp) (λi j _ b _=>by simp[b]);have w : ∀a:Cell,kP 5 11 (ze 9) (zE q8 (zE yR (cE (zm 11)<|ze 9)<|zE xu (ze 10)<|cE (zm 11)<|ze 8)<|ze 2) [C,Y,.val<|.int p,.val<|.int n,a,.nest<|xc n g,J,L,.val<|.int o,.val<|.int u,.val<|.int tm,Z] (xc n g)=bX (xc n λi j=>if j=u then (g i u - tm*g i o)%p else g i j):=λa=>by
   unfold xc;refine Xu _ λk A=>⟨.int<|(g k u - tm*g k o)%p,u,u,?_,rfl,?_,VW I _ _ _ ⋯ λi _ b=>by simp[b]⟩
   ·simp[yY,I,O,m,l]
   ·simp[I]
  simp[Fo,jC,I,O,S,je,Mb,ZR,s,y,w]
theorem uZ{z:List Int}(S:z.length<=63)(U:Pr p)(hn:n<=60){a:Int}(h0:0<=a)(h1:a<=10000) :
 ∃f g,Pair p n f g/\qh [xT z,.int a,.int p,.int n]=bX (.val<|.tup [.lst (jt n f),.lst (jt n g)]):=by
 have hl:=jm;have I:n<=lim:=by omega
 have L:=U.pos;have two:=U.two;have p7:=U.le;have C : ∀i:Nat,zW (.nm 0) js (QH<|zE hG (ze 1)<|ze 0) [Cell.no,Cell.val (.int i)] ((LW n).map λ(j:Nat)=>D.int j)=bX (zA n<|hH i):=λi=>by
  rw[jd];refine zB _ _ λj hj=>zD rfl rfl ?_;by_cases e:i=j
  ·subst e;simp[hH]
  ·have e' : ¬((i:Int)=(j:Int)):=by omega
   simp[hH,e,e']
 have R:zW (.nm 0) js (jU<|zU (zS<|ze 1) (.nm 0) 1 [0] js (QH<|zE hG (ze 1)<|ze 0)) [Cell.no,Cell.val (.int n)] ((LW n).map λ(j:Nat)=>D.int j)=bX (jt n hH):=by unfold jt;refine zB _ _ λi B=>zD rfl rfl ?_;simp[I,jL,je,Mb];rw[jd n λi=>(i:Int),C]
 have W:wc (.nm 0) (zU (zS<|ze 1) (.nm 0) 1 [0] js (QH<|zE hG (ze 1)<|ze 0)) [Cell.no,Cell.val (.int n)] ((LW n).map λ(j:Nat)=>D.int j)=bX (xc n hH):=by unfold xc;refine YV _ λi B=>⟨_,rfl,?_⟩;simp[I,jL,je,Mb];rw[jd n λi=>(i:Int),C]
 have ZM:Pair p n hH hH:=by
  have b : ∀i j:Nat,i<n->j<n->0<=hH i j/\hH i j<p:=λi j _ _=>by unfold hH;split<;>omega
  have u:ZI p n hH hH:=λi j B hj=>by rw[zR (i:=i) B λk _ X=>by unfold hH;rw[UY (MD X)];simp];simp[hH]
  exact⟨b,b,u,u⟩
 let γ:Cell->Cell->Cell->Cell->Cell->Cell->Cell->Cell->Ctx:=λc4 c5 x w s r h d=>[.val (xT z),.val<|.int a,.val<|.int p,.val<|.int n,c4,c5,x,w,s,r,h,d];have s1:O3 (γ .no .no .no .no .no .no .no .no)=bX (.next<|γ (.own<|jt n hH) .no .no .no .no .no .no .no):=by unfold O3;simp[γ,I,jL,je,Mb];rw[jd n λi=>(i:Int),R]
 have s2:O4 (γ (.own<|jt n hH) .no .no .no .no .no .no .no)=bX (.next<|γ (.own<|jt n hH) (.nest<|xc n hH) .no .no .no .no .no .no):=by unfold O4;simp[γ,I,jL,je,Mb];rw[jd n λi=>(i:Int),W];simp[Xq,I]
 obtain⟨f,g,x,w,s,r,h,d,O,Y⟩ : ∃f g x w s r h d,Pair p n f g/\iI (γ (.own<|jt n hH) (.nest<|xc n hH) .no .no .no .no .no .no)=bX (.next<|γ (.own<|jt n f) (.nest<|xc n g) x w s r h d):=by
  have cm:vT 2 (n:Int)=cz:=kE _ _ ⋯ ⋯;by_cases n0:n=0
  ·refine⟨hH,hH,.no,.no,.no,.no,.no,.no,ZM,?_⟩
   have e:zS (zE yR (zE xu (zy<|.int 2)<|ze 3)<|zy<|.int 2) (γ (.own<|jt n hH) (.nest<|xc n hH) .no .no .no .no .no .no)=bX []:=by subst n0;rfl
   unfold iI;rw[ZH,e];rfl
  obtain⟨γ',Y,f,g,x,w,s,r,h,d,O,rfl⟩:=jA (T:= .nm 6) (F:=HF) (f:=zE yR (zE xu (zy<|.int 2)<|ze 3)<|zy<|.int 2)
   (λt y=>∃f g x w s r h d,Pair p n f g/\y=γ (.own<|jt n f) (.nest<|xc n g) x w s r h d)
   (2*n - 2) ⋯ (γ:=γ (.own<|jt n hH) (.nest<|xc n hH) .no .no .no .no .no .no) (by
     have:((2*n - 2:Nat):Int)=2*(n:Int) - 2:=by omega
     rw[this];simp[γ,cm]) ⟨hH,hH,.no,.no,.no,.no,.no,.no,ZM,rfl⟩ (by
     rintro t ht y ⟨f,g,x,w,s,r,h,d,O,rfl⟩;have br:2<=n:=by omega
     obtain⟨G,M,b1⟩:=J1 S (k:=a+(t:Int)) ⋯ ⋯;generalize qS z (a+(t:Int))=cell at G M b1;obtain⟨o,eo,ho⟩:=Xl (m:=cell) (n:Int) ⋯;have x1:=MF (cell/8) (show(n:Int) - 1≠0 by omega);have x2:=Mp (cell/8) (show 0<(n:Int) - 1 by omega);obtain⟨u,A,hu⟩:=Xl (m:=(o:Int)+1+cell/8%((n:Int) - 1)) (n:Int) ⋯;have Z : ¬u=o:=λe=>by
      by_cases l:(o:Int)+1+cell/8%((n:Int) - 1)<n
      ·rw[MR ⋯ l]at A
       omega
      ·have e3:((o:Int)+1+cell/8%((n:Int) - 1))%n=((o:Int)+1+cell/8%((n:Int) - 1) - n)%n:=(Int.sub_emod_right _ _).symm
       rw[e3,MR ⋯ ⋯]at A;omega
     have t1:=MF (cell/64) (show p≠0 by omega);have t2:=Mp (cell/64) L;obtain⟨H,J,b9,bb,es⟩:=iH U hn O (u:=u) (o:=o) (tm:=cell/64%p) ⋯ ⋯ Z ⟨t1,t2⟩ (.val<|xT z) (.val<|.int a) (.val<|.int t) (.val<|.int cell) d;refine⟨γ (.own<|jt n f) (.nest<|xc n g) (.val<|.int t) w s r h d,γ (.own<|jt n H) (.nest<|xc n J) (.val<|.int t) (.val<|.int cell) (.val<|.int o) (.val<|.int u) (.val<|.int<|cell/64%p) b9,rfl,?_,H,J,_,_,_,_,_,_,bb,rfl⟩;have E:(0:Int)<(n:Int):=by omega
     have K:0<n:=by omega
     have nm:0<(n:Int) - 1:=by omega
     have bc:1<n:=by omega
     have N:(jy 7<|zH jb<|zb (ze 0)<|zb (zE jJ (ze 1)<|ze 6) zI) (γ (.own<|jt n f) (.nest<|xc n g) (.val<|.int t) w s r h d)=bX (.next<|γ (.own<|jt n f) (.nest<|xc n g) (.val<|.int t) (.val<|.int cell) s r h d):=by simp[γ,G]
     have P:(jy 8<|zE q8 (ze 7)<|ze 3) (γ (.own<|jt n f) (.nest<|xc n g) (.val<|.int t) (.val<|.int cell) s r h d)=bX (.next<|γ (.own<|jt n f) (.nest<|xc n g) (.val<|.int t) (.val<|.int cell) (.val<|.int o) r h d):=by simp[γ,E,K,eo]
     have Q:(jy 9<|zE q8 (zE jJ (zE jJ (ze 8)<|zy<|.int 1)<|zE q8 (zE v9 (ze 7)<|zy<|.int 8)<|zE yR (ze 3)<|zy<|.int 1)<|ze 3) (γ (.own<|jt n f) (.nest<|xc n g) (.val<|.int t) (.val<|.int cell) (.val<|.int o) r h d)=bX (.next<|γ (.own<|jt n f) (.nest<|xc n g) (.val<|.int t) (.val<|.int cell) (.val<|.int o) (.val<|.int u) h d):=by
      have UH:(1:Int)<(n:Int):=by omega
      simp[γ,E,K,nm,bc,UH,A]
     have bg:(jy 10<|zE q8 (zE v9 (ze 7)<|zy<|.int 64)<|ze 2) (γ (.own<|jt n f) (.nest<|xc n g) (.val<|.int t) (.val<|.int cell) (.val<|.int o) (.val<|.int u) h d)=bX (.next<|γ (.own<|jt n f) (.nest<|xc n g) (.val<|.int t) (.val<|.int cell) (.val<|.int o) (.val<|.int u) (.val<|.int<|cell/64%p) d):=by simp[γ,L]
     exact zv N<|zv P<|zv Q<|zv bg es)
  exact⟨f,g,x,w,s,r,h,d,O,Y⟩
 refine⟨f,g,O,?_⟩;rw[pT];refine jk<|zv s1<|zv s2<|zv Y ?_;show iX 5 _ (γ (.own<|jt n f) (.nest<|xc n g) x w s r h d)=_;have l2:2<=lim:=by omega
 rw[<- dz n g];simp[iX,KG,γ,wX,jZ,l2]
end
structure f9 where
 s:Nat
 n:Nat
 v:Nat->Vc
def f9.has(b:f9)(r:Nat):Bool:=decide (b.s<=r) && decide (r<b.s+b.n)
theorem n3{b:f9}{r:Nat}:b.has r=cz↔b.s<=r/\r<b.s+b.n:=by simp[f9.has]
def ic:f9:=⟨0,0,λ_ _=>0⟩
structure oR(p:Int)(w:UK)(wd:UX)(T:UW)(k:Nat)(b:f9):Prop where
 n1:1<=b.n
 le:b.s+b.n<=k+1
 iW : ∀r i,b.has r=cz->i<wd r->0<=b.v r i/\b.v r i<p
 arr : ∀j,j<k->b.has (zK w j)=cz->∀i,i<wd (zP w j)->app (T j) (wd<|zK w j) (b.v<|zK w j) i%p=(if b.has (zP w j)=cz then b.v (zP w j) i else 0)%p
noncomputable def Ord(w:UK)(a b:f9):Prop:=(a.s<b.s->w (b.s - 1)=cz)/\(b.s<a.s->w (a.s - 1)=dn)
def IH(z:List f9)(r:Nat):Vc->Prop:=λg=>∃b,b∈z/\b.has r=cz/\g=b.v r
noncomputable def o8(p:Int)(A:Nat->f9)(N:Nat)(t:Vc)(r:Nat):Vc:=λc=>zh (λj=>if (A j).has r=cz then t j*(A j).v r c else 0) N%p
def En(p:Int)(A:Nat->f9)(N:Nat)(t:Vc)(i:Nat):f9:=⟨(A i).s,(A i).n,o8 p A N t⟩
section
variable{p:Int}{w:UK}{wd:UX}{T:UW}{k N:Nat}{A:Nat->f9}
theorem vj(f:UV)(h:Nat)(t:Vc)(u:Nat->Vc)(n:Nat)(i:Nat):app f h (λc=>zh (λj=>t j*u j c) n) i=zh (λj=>t j*app f h (u j) i) n:=by
 unfold app;have e:zh (λj=>f i j*zh (λk=>t k*u k j) n) h=zh (λj=>zh (λk=>t k*(f i j*u k j)) n) h:=zx λj _=>by rw[<- zY];exact zx λk _=>by rw[<- NR,<- NR,Nu (f i j)]
 rw[e,jT];exact zx λj _=>zY ..
theorem tG(c:Prop) [Decidable c](x y:Int):(if c then x*y else 0)=x*(if c then y else 0):=by split<;>simp
theorem uy(f:UV)(h r:Nat)(t:Vc)(i:Nat):app f h (o8 p A N t r) i%p=zh (λj=>t j*(if (A j).has r=cz then app f h ((A j).v r) i else 0)) N%p:=by
 have e:app f h (o8 p A N t r) i%p=app f h (λc=>zh (λj=>t j*(if (A j).has r=cz then (A j).v r c else 0)) N) i%p:=xm (λc _=>by unfold o8;rw[MZ];congr 1;exact zx λj _=>tG ..) i
 rw[e,vj];congr 1;refine zx λj _=>?_;congr 1;by_cases I:(A j).has r=cz
 ·simp only[UJ I]
 ·simp only[UY I]
  unfold app;simp[zM]
theorem BS(M:0<p)(C : ∀j,j<N->oR p w wd T k (A j))(hk : ∀j,j<N->(A j).has k=cz){t:Vc}{i:Nat}(J:i<N)(L : ∀c,i<c->c<N->Ord w (A i) (A c))(tz : ∀c,c<i->t c=0) :
 oR p w wd T k (En p A N t i):=by
 refine⟨(C i J).n1,(C i J).le,λr c _ _=>⟨MF _ ⋯,Mp _ M⟩,λj l O c h=>?_⟩;have O:(A i).has (zK w j)=cz:=O;show app (T j) (wd<|zK w j) (o8 p A N t<|zK w j) c%p=(if (A i).has (zP w j)=cz then o8 p A N t (zP w j) c else 0)%p;rw[uy];have g : ∀I,I<N->t I≠0->((A i).has (zP w j)=cz->(A I).has (zP w j)=cz->(A I).has (zK w j)=cz)/\((A i).has (zP w j)=dn->(A I).has (zK w j)=cz->(A I).has (zP w j)=dn):=λI U d=>by
  have y:=n3.mp<|hk i J;have B:=n3.mp<|hk I U;have Y:i<=I:=Nat.not_lt.mp λz=>d<|tz I z;rcases Nat.lt_or_eq_of_le Y with Y | Y
  ·obtain⟨u,x⟩:=L I Y U
   have O:=n3.mp O;cases hw:w j with
   | false=>
    have b:zK w j=j:=by unfold zK;rw[hw];rfl
    have e:zP w j=j+1:=by unfold zP;rw[hw];rfl
    rw[b]at O;rw[b,e];refine⟨λ_ q=>n3.mpr ?_,λq _=>?_⟩
    ·have q:=n3.mp q
     refine⟨Nat.not_lt.mp λz=>?_,by omega⟩;have f:(A I).s=j+1:=by omega
     have:=u ⋯;rw[f]at this;simp[hw]at this
    ·exfalso
     have:(A i).has (j+1)=cz:=n3.mpr ⋯;rw[this]at q;cases q
   | true=>
    have b:zK w j=j+1:=by unfold zK;rw[hw];rfl
    have e:zP w j=j:=by unfold zP;rw[hw];rfl
    rw[b]at O;rw[b,e];refine⟨λ_ q=>n3.mpr ?_,λq _=>?_⟩
    ·have q:=n3.mp q
     omega
    ·cases a:(A I).has j with
     | false=>rfl
     | true=>
      exfalso;have a:=n3.mp a;have f:(A i).s=j+1:=by
       have : ¬((A i).s<=j):=λz=>by have:(A i).has j=cz:=n3.mpr ⋯;rw[this]at q;cases q
       omega
      have:=x ⋯;rw[f]at this;simp[hw]at this
  ·subst Y
   exact⟨λ_ _=>O,λq _=>q⟩
 have m:zh (λI=>t I*(if (A I).has (zK w j)=cz then app (T j) (wd<|zK w j) ((A I).v (zK w j)) c else 0)) N%p
  = zh (λI=>if (A i).has (zP w j)=cz then (if (A I).has (zP w j)=cz then t I*(A I).v (zP w j) c else 0)else 0) N%p:=zO λI U=>by
  by_cases d:t I=0
  ·simp[d]
  obtain⟨n,o⟩:=g I U d;cases a:(A i).has (zP w j)with
  | false=>
   cases hy:(A I).has (zK w j)with
   | false=>simp
   | true=>
    have q:=(C I U).arr j l hy c h;rw[o a hy]at q;simp only[if_true];rw[Mh,q];simp
  | true=>
   cases hy:(A I).has (zK w j)with
   | false=>
    cases hz:(A I).has (zP w j)with
    | false=>simp
    | true=>rw[n a hz]at hy;cases hy
   | true=>
    have q:=(C I U).arr j l hy c h;simp only[if_true];rw[Mh,q,<- Mh];congr 1;cases hz:(A I).has (zP w j)<;>simp
 rw[m];cases a:(A i).has (zP w j)with
 | false=>simp[zM]
 | true=>
  simp only[if_true];unfold o8;rw[MZ]
theorem mP{G':Vc->Prop}{r n:Nat}{A':Nat->f9}(t:Nat->Vc)(C : ∀i,i<N->t i i=1)(hz : ∀i c,i<N->c<i->t i c=0)
 (J : ∀i,i<N->(A i).has r=cz->Span p n G' ((A' i).v r)) (L : ∀i,i<N->(A i).has r=cz->∀c,c<n->(A' i).v r c%p=o8 p A N (t i) r c%p) :
 ∀i,i<N->(A i).has r=cz->Span p n G' ((A i).v r):=by
 have f : ∀d i,N - i<=d->i<N->(A i).has r=cz->Span p n G' ((A i).v r):=by
  intro d
  induction d with
  | zero=>intro i e a;omega
  | succ d w=>
   intro i e a O;have u:Span p n G' λc=>zh (λj=>(if j=i then 0 else if (A j).has r=cz then t i j else 0)*(A j).v r c) N:=by
    have gen : ∀M,M<=N->Span p n G' λc=>zh (λj=>(if j=i then 0 else if (A j).has r=cz then t i j else 0)*(A j).v r c) M:=by
     intro M
     induction M with
     | zero=>intro _;exact .zero λc _=>by simp[zh]
     | succ M g=>
      intro x;have q:=g ⋯;by_cases I:M=i\/¬((A M).has r=cz)\/M<i
      ·refine q.congr λc _=>?_
       show(zh _ M+_)%p=_;rcases I with I | I | I
       ·simp[I]
       ·simp[I]
       ·have z:=hz i M a I;simp only[z];simp
      ·have h:M≠i/\(A M).has r=cz/\¬M<i:=by
        refine⟨λz=>I<|.inl z,?_,λz=>I<|.inr<|.inr z⟩;cases b:(A M).has r with
        | true=>rfl
        | false=>exact absurd (.inr<|.inl<|by rw[b];decide) I
       exact((w M ⋯ ⋯ h.2.1).add q (if M=i then 0 else if (A M).has r=cz then t i M else 0)).congr λc _=>rfl
    exact gen N<|Mf _
   have o:=u.add (J i a O) (-1);refine o.congr λc I=>?_;have l:zh (λj=>if (A j).has r=cz then t i j*(A j).v r c else 0) N=(A i).v r c+zh (λj=>(if j=i then 0 else if (A j).has r=cz then t i j else 0)*(A j).v r c) N:=by
    have m:(A i).v r c=zh (λj=>if j=i then (A i).v r c else 0) N:=by rw[zR a λk _ s=>by simp[s]];simp
    rw[m,<- ju];refine zx λj y=>?_;by_cases Y:j=i
    ·subst Y;simp[O,C j a]
    ·simp only[UY Y]
     by_cases b:(A j).has r=cz
     ·simp[b]
     ·simp[b]
   have U:=L i a O c I;unfold o8 at U;rw[MZ,l]at U;rw[MU,U,<- MU];congr 1;omega
 exact λi e a=>f N i ⋯ e a
end
section
variable{p:Int}{n m N h r r2 q:Nat}{B B2 K:Nat->Vc}{l l2 lK:UX}{M f:UV}
theorem K6(I:Span p n (eA m U) v) : ∃t:Vc,∀i,i<n->v i%p=zh (λj=>t j*U j i) m%p:=by
 induction I with
 | zero h=>exact⟨λ_=>0,λi a=>by rw[h i a];simp[zM]⟩
 | @step v w g c O r Y o=>
  obtain⟨t,l⟩:=o;obtain⟨k,d,rfl⟩:=O;refine⟨λj=>t j+if j=k then c else 0,λi a=>?_⟩;rw[Y i a,MU,l i a,<- MU];congr 1;have e:zh (λj=>(t j+if j=k then c else 0)*U j i) m=zh (λj=>t j*U j i) m+zh (λj=>(if j=k then c else 0)*U j i) m:=by rw[<- ju];exact zx λj _=>Rc ..
  rw[e,zR (f:=λj=>(if j=k then c else 0)*U j i) d λj _ b=>by simp[b]];simp
theorem xy(a b:Nat->Int)(n:Nat):zh (λj=>a j*b j) n=zh (λj=>b j*a j) n:=zx λj _=>Nu ..
theorem C4:Span p h (eA N λj i=>M i j) u ↔ ∃x:Vc,∀i,i<h->u i%p=app M N x i%p:=by
 constructor
 ·intro q
  obtain⟨t,I⟩:=K6 q;exact⟨t,λi a=>by rw[I i a];unfold app;rw[xy]⟩
 ·rintro⟨x,b⟩
  refine(Span.sum (u:=λj i=>M i j) x (m:=N) λj O=> .gen ⟨j,O,rfl⟩).congr λi a=>?_;rw[b i a];unfold app;rw[xy]
theorem YN(n:Nat)(v:Vc):Span p n (eA n jB) v:=by refine(Span.sum (u:=jB) v (m:=n) λj I=> .gen ⟨j,I,rfl⟩).congr λi a=>?_;rw[zR (f:=λk=>v k*jB k i) a λk _ O=>by simp[jB,O]];simp[jB]
theorem JR(I:Pr p)(z:N<=8)(hs : ∀v:Vc,∃t,∀i,i<N->v i%p=app f N t i%p)(U : ∀i,i<N->app f N t i%p=0) : ∀j,j<N->t j%p=0:=by
 obtain⟨q,K,l,s,_,m,O,Y,g⟩:=yH I (h:=N) (w:=N) ⋯ ⋯ f;have a:Rk p N N (λj i=>f i j) N:=⟨jB,id,XE I N,λv=>⟨λ_=>C4.mpr<|hs v,λ_=>YN N v⟩⟩;have:=vY I Y a;have e:q=0:=by omega
 subst e;have:=(O t).mpr λi d=>by have:=U i d;unfold app at this;exact this
 cases this with
 | zero h=>exact h
 | step b _ _=>obtain⟨k,O,_⟩:=b;omega
def QO(r:Nat)(B:Nat->Vc)(l:UX)(t:Vc):Vc:=λi=>t i - zh (λj=>t (l j)*B j i) r
theorem Xm(O:hL p N r B l)(t:Vc)(I:j<r):QO r B l t (l j)=0:=by unfold QO;rw[zR (f:=λU=>t (l U)*B U (l j)) I λk Y a=>by rw[O.qi k j Y I (MD a)];simp];rw[O.one j I];omega
theorem WU(t:Vc):Span p N (eA r B) λi=>zh (λj=>t (l j)*B j i) r:=Span.sum (u:=B) (λj=>t<|l j) λj I=> .gen ⟨j,I,rfl⟩
theorem tU(I:hL p N r B l)(h:Span p N (eA r B) t)(hz : ∀j,j<r->t (l j)%p=0) : ∀i,i<N->t i%p=0:=λi a=>by
 rw[ZP I h i a];have e:zh (λk=>t (l k)*B k i) r%p=zh (λ_=>0) r%p:=zO λk O=>by rw[Mh,hz k O];simp
 rw[e,zM];simp
theorem Wh(I:Pr p)(O:hL p N r B l)(z:i<N)(hn : ∀j,j<r->l j≠i) : ¬Span p N (eA r B) (jB i):=λh=>by have:=tU O h (λj U=>by unfold jB;rw[UY (MD<|hn j U)];simp) i z;unfold jB at this;rw[UJ rfl,I.one]at this;omega
theorem J4(g:UV)(w:Nat)(u v:Vc)(i:Nat):app g w (λj=>u j - v j) i=app g w u i - app g w v i:=by
 have e:app g w u i=app g w (λj=>u j - v j) i+app g w v i:=by unfold app;rw[<- ju];exact zx λj _=>by dsimp only;rw[<- OX];congr 1;omega
 omega
def Vq(M f:UV)(N:Nat):Nat->Nat->Int:=λi j=>zh (λk=>M i k*f k j) N
theorem Jg(t:Vc)(i:Nat):app (Vq M f N) N t i=app M N (app f N t) i:=by
 unfold app Vq;have e:zh (λj=>zh (λk=>M i k*f k j) N*t j) N=zh (λj=>zh (λk=>M i k*(f k j*t j)) N) N:=zx λj _=>by rw[<- kj];exact zx λk _=>NR ..
 rw[e,jT];exact zx λk _=>zY ..
theorem Aj(C:Pr p)(hN:N<=8)(hh:h<=8)(hs : ∀v:Vc,∃t,∀i,i<N->v i%p=app f N t i%p)(J:hL p N r B l)(Y : ∀t,Span p N (eA r B) t↔DJ p h N M (app f N t))
 (L:hL p h r2 B2 l2) (S : ∀v,Span p h (eA r2 B2) v↔Span p h (eA N λj i=>M i j) v) :
 (∀j,j<r->∀i,i<h->app M N (app f N<|B j) i%p=0)/\(∀c,c<N->(∀j,j<r->l j≠c)->∃i,i<h/\app M N (λa=>f a c) i%p≠0)/\r+r2=N/\
   ∀U:Vc->Prop,(∀c,c<N->(∀j,j<r->l j≠c)->Span p h U (app M N λa=>f a c))->(∀c,c<h->(∀j,j<r2->l2 j≠c)->Span p h U (jB c))->∀v,Span p h U v:=by
 have k : ∀t:Vc,DJ p h N M (app f N t) ↔ ∀i,i<h->app M N (app f N t) i%p=0:=λt=>Iff.rfl;have s : ∀(c:Nat),c<N->∀i,app M N (λa=>f a c) i%p=app M N (app f N<|jB c) i%p:=λc I i=>xm (λa _=>by rw[w4 f I]) i;refine⟨λj O=>(k _).mp ((Y<|B j).mp (.gen ⟨j,O,rfl⟩)),λc I R=>?_,?_,λU H P v=>?_⟩
 ·refine NC λz=>Wh C J I R ((Y _).mpr ((k _).mpr λi b=>?_))
  rw[<- s c I i];exact NC λy=>z ⟨i,b,y⟩
 ·obtain⟨Z,K',l',s',_,A,o,E,b7⟩:=yH C (h:=h) (w:=N) ⋯ ⋯ (Vq M f N)
  have e1:Z=r:=(J2 C A J (λv m=>(Y v).mpr λi b=>by
   have:=(o v).mp m i b;rw[show zh (λj=>Vq M f N i j*v j) N=app (Vq M f N) N v i from rfl,Jg]at this;exact this) λv m=>(o v).mpr λi b=>by
   have:=(Y v).mp m i b;rw[show zh (λj=>Vq M f N i j*v j) N=app (Vq M f N) N v i from rfl,Jg];exact this).1
  have e2:s'=r2:=by
   refine vY C E ⟨B2,l2,L,λv=>(S v).trans ⟨λz=>?_,λz=>?_⟩⟩
   ·obtain⟨x,n⟩:=C4.mp z
    obtain⟨t,d⟩:=hs x;refine C4.mpr ⟨t,λi b=>?_⟩;rw[n i b,Jg];exact xm d i
   ·obtain⟨t,d⟩:=C4.mp z
    exact C4.mpr ⟨app f N t,λi b=>by rw[d i b,Jg]⟩
  omega
 ·
  have X : ∀t:Vc,Span p h U (app M N<|app f N t):=λt=>by
   have W:=(k _).mp ((Y _).mp (WU (p:=p) (N:=N) (B:=B) (r:=r) (l:=l) t));have e : ∀i,i<h->app M N (app f N t) i%p=app M N (app f N<|QO r B l t) i%p:=λi b=>by
    have F:app M N (app f N<|QO r B l t) i=app M N (app f N t) i - app M N (app f N λi=>zh (λj=>t (l j)*B j i) r) i:=by rw[<- J4];congr 1;funext a;exact J4 ..
    rw[F,Oy,W i b];simp
   refine Span.congr ?_ e;have G : ∀i,app M N (app f N<|QO r B l t) i=zh (λc=>QO r B l t c*app M N (λa=>f a c) i) N:=λi=>by rw[<- vj];congr 1;funext a;unfold app;exact xy ..
   have s1 : ∀K,K<=N->Span p h U λi=>zh (λc=>QO r B l t c*app M N (λa=>f a c) i) K:=by
    intro K
    induction K with
    | zero=>intro _;exact .zero λi _=>by simp[zh]
    | succ K g=>
     intro Q;by_cases I : ∃j,j<r/\l j=K
     ·obtain⟨j,O,rfl⟩:=I
      refine(g ⋯).congr λi _=>?_;show(zh _ (l j)+_)%p=_;have z:=Xm J t O;simp only[z];simp
     ·exact((H K ⋯ λj O z=>I ⟨j,O,z⟩).add (g ⋯) _).congr λi _=>rfl
   exact(s1 N<|Mf _).congr λi _=>by rw[G]
  have as : ∀u,Span p h (eA r2 B2) u->Span p h U u:=λu T=>by obtain⟨x,n⟩:=C4.mp<|(S u).mp T;obtain⟨t,d⟩:=hs x;exact(X t).congr λi b=>by rw[n i b];exact xm d i
  have s2 : ∀K,K<=h->Span p h U λi=>zh (λc=>QO r2 B2 l2 v c*jB c i) K:=by
   intro K
   induction K with
   | zero=>intro _;exact .zero λi _=>by simp[zh]
   | succ K g=>
    intro Q;by_cases I : ∃j,j<r2/\l2 j=K
    ·obtain⟨j,O,rfl⟩:=I
     refine(g ⋯).congr λi _=>?_;show(zh _ (l2 j)+_)%p=_;have z:=Xm L v O;simp only[z];simp
    ·exact((P K ⋯ λj O z=>I ⟨j,O,z⟩).add (g ⋯) _).congr λi _=>rfl
  refine((as _<|WU (B:=B2) (r:=r2) (l:=l2) v).add (s2 h<|Mf _) 1).congr λi b=>?_;congr 1;rw[zR (f:=λc=>QO r2 B2 l2 v c*jB c i) b λc _ I=>by simp[jB,I]];simp only[jB,if_true,QO];omega
theorem Ak(O:Pr p)(hN:N<=8)(hh:h<=8)(hs : ∀v:Vc,∃t,∀i,i<N->v i%p=app f N t i%p)(L:hL p N r B l)(S : ∀t,Span p N (eA r B) t↔Span p N (eA h λj i=>M i j) (app f N t))
 (Z : ∀v,Span p h (eA q K) v↔DJ p N h M v) (hr:Rk p N h (λj i=>M i j) s) (bf:q+s=h) :
 (∀j,j<r->∃y:Vc,∀i,i<N->app M h y i%p=app f N (B j) i%p)/\(∀c,c<N->(∀j,j<r->l j≠c)->¬∃y:Vc,∀i,i<N->app M h y i%p=f i c%p)/\r+q=h/\
   ∀(J:Vc->Prop) (x:Nat->Vc),(∀j,j<r->Span p h J (x j)/\∀i,i<N->app M h (x j) i%p=app f N (B j) i%p)->(∀j,j<q->Span p h J (K j))->∀v,Span p h J v:=by
 have o : ∀t,Span p N (eA r B) t ↔ ∃y:Vc,∀i,i<N->app f N t i%p=app M h y i%p:=λt=>(S t).trans C4;have inj : ∀{t:Vc},(∀i,i<N->app f N t i%p=0)->∀j,j<N->t j%p=0:=λY=>JR O hN hs Y;refine⟨λj I=>?_,λc X hn z=>?_,?_,λJ x R h2 v=>?_⟩
 ·obtain⟨y,d⟩:=(o<|B j).mp (.gen ⟨j,I,rfl⟩)
  exact⟨y,λi b=>(d i b).symm⟩
 ·obtain⟨y,d⟩:=z
  exact Wh O L X hn<|(o _).mpr ⟨y,λi b=>by rw[w4 f X,d i b]⟩
 ·have P:s<=8/\r<=8:=by
   obtain⟨E,bg,b0⟩:=rY O (n:=N) (m:=h) ⋯ hh λj i=>M i j;refine⟨by rw[vY O hr b0];omega,?_⟩;have : ∀A,A<=r->A<=N:=by
    intro A;have mono : ∀k,k<r->k<=l k:=by
     intro k
     induction k with
     | zero=>intro _;omega
     | succ k ih=>intro Z;have:=ih ⋯;have:=L.mono k (k+1) ⋯ Z;omega
    intro bi;cases A with
    | zero=>omega
    | succ Q=>have:=mono Q ⋯;have:=L.lt Q ⋯;omega
   have:=this r<|Mf _;omega
  have bl:s<=r:=by
   obtain⟨E,a1,F⟩:=rY O (n:=N) (m:=r) ⋯ P.2 λj=>app f N<|B j;have e:s=E:=by
    obtain⟨C,lC,H,w⟩:=hr;refine vY O (m:=h) (W:=λj i=>M i j) ⟨C,lC,H,w⟩ ?_;obtain⟨C',b8,b9,bb⟩:=F;refine⟨C',b8,b9,λv=>(bb v).trans ⟨λz=>?_,λz=>?_⟩⟩
    ·exact z.le λg U=>by obtain⟨j,I,rfl⟩:=U;exact(S<|B j).mp (.gen ⟨j,I,rfl⟩)
    ·obtain⟨y,d⟩:=C4.mp z
     obtain⟨t,Y⟩:=hs v;have G:Span p N (eA r B) t:=(o t).mpr ⟨y,λi b=>by rw[<- Y i b,d i b]⟩;refine(Span.sum (u:=λj=>app f N<|B j) (λj=>t<|l j) (m:=r) λj I=> .gen ⟨j,I,rfl⟩).congr λi b=>?_;rw[Y i b,<- vj];exact xm (λj I=>ZP L G j I) i
   omega
  have bm:r<=s:=by
   obtain⟨C,lC,H,w⟩:=hr;have ex : ∀j,∃t:Vc,∀i,i<N->C j i%p=app f N t i%p:=λj=>hs<|C j;have g:Nat->Vc:=λj=>Classical.choose<|ex j;have U : ∃g:Nat->Vc,∀j i,i<N->C j i%p=app f N (g j) i%p:=⟨λj=>Classical.choose<|ex j,λj=>Classical.choose_spec<|ex j⟩;obtain⟨g,U⟩:=U;obtain⟨E,a1,F⟩:=rY O (n:=N) (m:=s) ⋯ P.1 g;have e:r=E:=by
    refine vY O (m:=s) (W:=g) ⟨B,l,L,λv=>⟨λz=>?_,λz=>?_⟩⟩ F
    ·have hv:=(w _).mpr ((S v).mp z)
     refine(Span.sum (u:=g) (λj=>app f N v<|lC j) (m:=s) λj I=> .gen ⟨j,I,rfl⟩).congr λi b=>?_;have z0 : ∀a,a<N->app f N (λi=>v i - zh (λj=>app f N v (lC j)*g j i) s) a%p=0:=λa T=>by
      rw[J4,vj,Oy,ZP H hv a T];have e:zh (λk=>app f N v (lC k)*C k a) s%p=zh (λk=>app f N v (lC k)*app f N (g k) a) s%p:=zO λk _=>by rw[Mh,U k a T,<- Mh]
      rw[e];simp
     have:=inj z0 i b;have q2:=Nw;exact(Nw _<|OJ p).symm.trans (by
      rw[MZ];have:(v i - zh (λj=>app f N v (lC j)*g j i) s)%p=0:=this;exact Om.mpr this)
    ·refine z.le λu hu=>?_
     obtain⟨j,I,rfl⟩:=hu;refine(S _).mpr (((w<|C j).mp (.gen ⟨j,I,rfl⟩)).congr λi b=>(U j i b).symm)
   omega
  omega
 ·obtain⟨t,Y⟩:=hs (app M h v)
  have G:Span p N (eA r B) t:=(o t).mpr ⟨v,λi b=>(Y i b).symm⟩;have hx:Span p h J λc=>zh (λj=>t (l j)*x j c) r:=Span.sum (u:=x) (λj=>t<|l j) λj I=>(R j I).1;have hd:Span p h J λc=>v c - zh (λj=>t (l j)*x j c) r:=by
   refine((Z _).mpr λi b=>?_).le λg U=>by obtain⟨j,I,rfl⟩:=U;exact h2 j I
   show app M h (λc=>v c - zh (λj=>t (l j)*x j c) r) i%p=0;rw[J4,vj,Oy];have e:zh (λj=>t (l j)*app M h (x j) i) r%p=app M h v i%p:=by rw[Y i b,xm (λj I=>ZP L G j I) i,vj];exact zO λj I=>by rw[Mh,(R j I).2 i b,<- Mh]
   rw[e];simp
  refine(hx.add hd 1).congr λc _=>?_;congr 1;omega
end
structure B6(p:Int)(w:UK)(wd:UX)(T:UW)(k:Nat)(mr:List f9):Prop where
 ok : ∀b,b∈mr->oR p w wd T k b
 sp : ∀r,r<=k->∀v,Span p (wd r) (IH mr r) v
 ct : ∀r,r<=k->mr.countP (λb=>b.has r)=wd r
 od:(mr.filter λb=>b.has k).Pairwise (Ord w)
def l8(r:Nat)(l:UX)(i:Nat):Option Nat:=(LW r).find? λj=>l j==i
theorem xI(h:l8 r l i=bX j):j<r/\l j=i:=by have a:=List.find?_some h;have b:=List.mem_of_find?_eq_some h;exact⟨Ma.mp b,by simpa using a⟩
theorem ZX(h:l8 r l i=none) : ∀j,j<r->l j≠i:=λj I=>by have:=List.find?_eq_none.mp h j<|Ma.mpr I;simpa using this
noncomputable def hB(p:Int)(A:Nat->f9)(N r:Nat)(B:Nat->Vc)(l:UX)(i:Nat):f9:=match l8 r l i with
 | some j=>En p A N (B j) i
 | none=>A i
noncomputable def kv(k:Nat)(b:f9):Option Vc->f9
 | none=>b
 | some y=>⟨b.s,b.n+1,λr=>if r=k+1 then y else b.v r⟩
def oe(k:Nat)(y:Vc):f9:=⟨k+1,1,λ_=>y⟩
noncomputable def E5(r:Nat)(B:Nat->Vc)(l:UX)(i:Nat):Vc:=match l8 r l i with
 | some j=>B j
 | none=>jB i
theorem cU(p A N r B l i):(hB p A N r B l i).s=(A i).s:=by unfold hB;split<;>rfl
theorem Al(p A N r B l i):(hB p A N r B l i).n=(A i).n:=by unfold hB;split<;>rfl
theorem Vi(p A N r B l i rm):(hB p A N r B l i).has rm=(A i).has rm:=by unfold f9.has;rw[cU,Al]
theorem Zs:(oe k y).has r=decide (r=k+1):=by
 unfold oe f9.has;by_cases h:r=k+1
 ·simp[h]
 ·simp[h];intro;omega
section
variable{p:Int}{w:UK}{wd:UX}{T:UW}{k N r:Nat}{A:Nat->f9}{B:Nat->Vc}{l:UX}
theorem nZ(I:hL p N r B l)(z:i<N):E5 r B l i i=1/\∀c,c<i->E5 r B l i c=0:=by
 unfold E5;cases hj:l8 r l i with
 | some j=>
  obtain⟨a,b⟩:=xI hj;subst b;exact⟨I.one j a,λc O=>I.md j c a O⟩
 | none=>exact⟨by simp[jB],λc O=>by simp only[jB];rw[UY ⋯]⟩
theorem pW(z:i<N)(O:(A i).has rm=cz):(hB p A N r B l i).v rm c%p=o8 p A N (E5 r B l i) rm c%p:=by
 unfold hB E5;cases I:l8 r l i with
 | some j=>rfl
 | none=>
  show(A i).v rm c%p=_;unfold o8;rw[MZ];congr 1;rw[zR (f:=λj=>if (A j).has rm=cz then jB i j*(A j).v rm c else 0) z λj _ I=>by unfold jB;rw[UY (MD I)];simp];simp[jB,O]
theorem oh(O:0<p)(U:hL p N r B l)(I : ∀j,j<N->oR p w wd T k (A j))(Y : ∀j,j<N->(A j).has k=cz)(C : ∀i c,i<c->c<N->Ord w (A i) (A c))(z:i<N):oR p w wd T k (hB p A N r B l i):=by
 unfold hB;split
 ·next j e=>
  obtain⟨a,b⟩:=xI e;subst b;exact BS O I Y z (λc a b=>C _ c a b) λc d=>U.md j c a d
 ·exact I i z
theorem Xv(I:rm<=k)(O:b.s+b.n=k+1):(kv k b o).has rm=b.has rm/\(kv k b o).v rm=b.v rm:=by
 cases o with
 | none=>exact⟨rfl,rfl⟩
 | some y=>
  refine⟨?_,by simp only[kv];rw[UY ⋯]⟩;unfold kv f9.has;simp only;congr 1;exact decide_eq_decide.mpr ⋯
theorem VU(I:b.s+b.n=k+1):(kv k b o).has (k+1)=o.isSome:=by
 cases o with
 | none=>unfold kv f9.has;simp;omega
 | some y=>unfold kv f9.has;simp;omega
theorem ub(k b o):(kv k b o).s=b.s:=by cases o<;>rfl
theorem Cu(S:0<p)(U:b.s+b.n=k+1)(z:oR p w wd T k b)(M : ∀y,o=bX y->∀c,c<wd (k+1)->0<=y c/\y c<p)
 (C:o=none->w k=dn->∀c,c<wd (k+1)->app (T k) (wd k) (b.v k) c%p=0) (J : ∀y,o=bX y->w k=dn->∀c,c<wd (k+1)->app (T k) (wd k) (b.v k) c%p=y c%p)
 (L : ∀y,o=bX y->w k=cz->∀c,c<wd k->app (T k) (wd<|k+1) y c%p=b.v k c%p):oR p w wd T (k+1) (kv k b o):=by
 have A:=z.n1;refine⟨?_,?_,λY c i I=>?_,λj B f c I=>?_⟩
 ·cases o with
  | none=>exact z.n1
  | some y=>show 1<=b.n+1;omega
 ·cases o with
  | none=>show b.s+b.n<=k+1+1;omega
  | some y=>show b.s+(b.n+1)<=k+1+1;omega
 ·by_cases r:Y<=k
  ·obtain⟨a,O⟩:=Xv (o:=o) r U
   rw[a]at i;rw[O];exact z.iW Y c i I
  ·have l:=n3.mp i
   cases o with
   | none=>exact absurd l.2 (by show ¬(Y<b.s+b.n);omega)
   | some y=>
    have:Y=k+1:=by have:Y<b.s+(b.n+1):=l.2;omega
    subst this;have e:(kv k b<|some y).v (k+1)=y:=by simp[kv]
    rw[e];exact M y rfl c I
 ·by_cases h:j<k
  ·have g1:zK w j<=k:=by unfold zK;split<;>omega
   have g2:zP w j<=k:=by unfold zP;split<;>omega
   obtain⟨a,O⟩:=Xv (o:=o) g1 U;obtain⟨u,x⟩:=Xv (o:=o) g2 U;rw[a]at f;rw[O,u,x];exact z.arr j h f c I
  ·have h:j=k:=by omega
   subst h;obtain⟨a,O⟩:=Xv (o:=o) (Mf j) U;have m:=VU (k:=j) (o:=o) U;have t:b.has j=cz:=n3.mpr ⋯;cases hw:w j with
   | false=>
    have g:zK w j=j:=by unfold zK;rw[hw];rfl
    have d:zP w j=j+1:=by unfold zP;rw[hw];rfl
    rw[d]at I;rw[g,d,O,m];cases o with
    | none=>rw[C rfl hw c I];simp
    | some y=>rw[J y rfl hw c I];simp[kv]
   | true=>
    have g:zK w j=j+1:=by unfold zK;rw[hw];rfl
    have d:zP w j=j:=by unfold zP;rw[hw];rfl
    rw[d]at I;rw[g,m]at f;rw[g,d,a,O,t];cases o with
    | none=>cases f
    | some y=>
     have e:(kv j b<|some y).v (j+1)=y:=by simp[kv]
     rw[e,L y rfl hw c I];simp
theorem BQ(C : ∀c,c<wd (k+1)->0<=y c/\y c<p)(z:w k=cz->∀c,c<wd k->app (T k) (wd<|k+1) y c%p=0):oR p w wd T (k+1) (oe k y):=by
 refine⟨Mf _,by show k+1+1<=k+1+1;omega,λf c U I=>?_,λj e O c I=>?_⟩
 ·rw[Zs]at U
  have:=of_decide_eq_true U;subst this;exact C c I
 ·rw[Zs]at O
  have O:=of_decide_eq_true O;cases hw:w j with
  | false=>
   have a:zK w j=j:=by unfold zK;rw[hw];rfl
   omega
  | true=>
   have a:zK w j=j+1:=by unfold zK;rw[hw];rfl
   have Y:zP w j=j:=by unfold zP;rw[hw];rfl
   have b:j=k:=by omega
   subst b;rw[Y]at I;have d:(oe j y).has (zP w j)=dn:=by rw[Zs,Y];simp
   rw[d,a];show app (T j) (wd<|j+1) y c%p=_;rw[z hw c I];simp
noncomputable def vR(p:Int)(k:Nat)(w:UK)(z:List f9)(A:Nat->f9)(N r:Nat)(B:Nat->Vc)(l:UX)(nx:Nat->Option Vc)(I:List Vc):List f9:=
 (z.filter λb=> !b.has k)++(if w k then (LW N).map (λi=>kv k (hB p A N r B l i)<|nx i)++I.map (oe k)else I.map (oe k)++(LW N).map λi=>kv k (hB p A N r B l i)<|nx i)
theorem gd(p0:0<p)(I:B6 p w wd T k mr)(hN:(mr.filter λb=>b.has k).length=N)(Y : ∀j,A j=(mr.filter λb=>b.has k).getD j ic)(O:hL p N r B l)
 (c1 : ∀i y,i<N->nx i=bX y->∀c,c<wd (k+1)->0<=y c/\y c<p) (c2 : ∀y,y∈news->∀c,c<wd (k+1)->0<=y c/\y c<p)
   (d0 : ∀i,i<N->nx i=none->w k=dn->∀c,c<wd (k+1)->app (T k) (wd k) ((hB p A N r B l i).v k) c%p=0)
   (d1 : ∀i y,i<N->nx i=bX y->w k=dn->∀c,c<wd (k+1)->app (T k) (wd k) ((hB p A N r B l i).v k) c%p=y c%p)
   (d2 : ∀i y,i<N->nx i=bX y->w k=cz->∀c,c<wd k->app (T k) (wd<|k+1) y c%p=(hB p A N r B l i).v k c%p)
   (d3 : ∀y,y∈news->w k=cz->∀c,c<wd k->app (T k) (wd<|k+1) y c%p=0)
   (s1 : ∀v,Span p (wd<|k+1) (λg=>(∃i,i<N/\nx i=bX g)\/g∈news) v) (n1:(LW N).countP (λi=>(nx i).isSome)+news.length=wd (k+1)) :
   B6 p w wd T (k+1) (vR p k w mr A N r B l nx news):=by
  have G : ∀j,j<N->A j∈mr/\(A j).has k=cz:=λj E=>by
   have:A j∈mr.filter λb=>b.has k:=by rw[Y j,Mc,LZ ⋯];exact NQ _
   have:=Mu.mp this;exact⟨this.1,by simpa using this.2⟩
  have W : ∀j,j<N->oR p w wd T k (A j):=λj E=>I.ok _ (G j E).1;have Z : ∀i c,i<c->c<N->Ord w (A i) (A c):=λi c m u=>by have:=Oz.mp I.od i c ⋯ ⋯ m;rw[Y i,Y c,Mc,LZ ⋯,Mc,LZ ⋯];exact this
  have i6 : ∀i,i<N->oR p w wd T k (hB p A N r B l i):=λi d=>oh p0 O W (λj E=>(G j E).2) Z d;have a1 : ∀i,i<N->(hB p A N r B l i).s+(hB p A N r B l i).n=k+1:=λi d=>by rw[cU,Al];have m:=n3.mp (G i d).2;have u:=(W i d).le;omega
  have H : ∀b,b∈mr->b.has k=dn->b.s+b.n<=k:=λb O R=>by have m:=(I.ok b O).le;have u:=(I.ok b O).n1;refine Nat.not_lt.mp λz=>?_;have:b.has k=cz:=n3.mpr ⋯;rw[this]at R;cases R
  have x : ∀b,b∈vR p k w mr A N r B l nx news↔(b∈mr/\b.has k=dn)\/(∃i,i<N/\b=kv k (hB p A N r B l i) (nx i))\/∃y,y∈news/\b=oe k y:=λb=>by
   unfold vR;rw[OU,Mu];refine or_congr ⋯ ?_;cases w k<;>simp only[Nf,if_false,if_true,OU,MM,Ma]
   ·constructor
    ·rintro(⟨y,m,u⟩ | ⟨i,m,u⟩)
     ·exact .inr ⟨y,m,u.symm⟩
     ·exact .inl ⟨i,m,u.symm⟩
    ·rintro(⟨i,m,u⟩ | ⟨y,m,u⟩)
     ·exact .inr ⟨i,m,u.symm⟩
     ·exact .inl ⟨y,m,u.symm⟩
   ·constructor
    ·rintro(⟨i,m,u⟩ | ⟨y,m,u⟩)
     ·exact .inl ⟨i,m,u.symm⟩
     ·exact .inr ⟨y,m,u.symm⟩
    ·rintro(⟨i,m,u⟩ | ⟨y,m,u⟩)
     ·exact .inl ⟨i,m,u.symm⟩
     ·exact .inr ⟨y,m,u.symm⟩
  have ro : ∀P:f9->Bool,(vR p k w mr A N r B l nx news).countP P=(mr.filter λb=> !b.has k).countP P+(LW N).countP (λi=>P<|kv k (hB p A N r B l i)<|nx i)+(news.map<|oe k).countP P:=λP=>by
   unfold vR;rw[List.countP_append];cases w k<;>simp only[Nf,if_false,if_true,List.countP_append,List.countP_map (f:=λi=>kv k (hB p A N r B l i)<|nx i)]
   ·rw[RR,P7 (List.countP P<|List.map (oe k) news)];rfl
   ·rw[RR];rfl
  refine⟨λb bd=>?_,λU hr v=>?_,λU hr=>?_,?_⟩
  ·rcases (x b).mp bd with⟨m,u⟩ | ⟨i,d,rfl⟩ | ⟨y,hy,rfl⟩
   ·have R:=H b m u
    have S:=I.ok b m;refine⟨S.n1,by omega,S.iW,λj E X c M=>?_⟩;have bl:=n3.mp X;refine S.arr j ?_ X c M;have:zK w j>=j:=by unfold zK;split<;>omega
    omega
   ·exact Cu p0 (a1 i d) (i6 i d) (λy e=>c1 i y d e) (λe=>d0 i d e) (λy e=>d1 i y d e) λy e=>d2 i y d e
   ·exact BQ (c2 y hy)<|d3 y hy
  ·by_cases C:U<=k
   ·refine(I.sp U C v).le λg hg=>?_
    obtain⟨b,m,u,rfl⟩:=hg;cases Ux:b.has k with
    | false=>exact .gen ⟨b,(x b).mpr (.inl ⟨m,Ux⟩),u,rfl⟩
    | true=>
     have bf:b∈mr.filter λb=>b.has k:=Mu.mpr ⟨m,by simpa using Ux⟩;obtain⟨i,d,e⟩:=Ro bf;have ei:A i=b:=by rw[Y i,Mc,LZ d];exact e
     rw[<- ei]at u ⊢;refine mP (A:=A) (A':=λi=>hB p A N r B l i) (t:=λi=>E5 r B l i) (λi d=>(nZ O d).1) (λi c d M=>(nZ O d).2 c M) (λi d Q=>?_) (λi d Q c _=>pW d Q) i ⋯ u;obtain⟨x1,x2⟩:=Xv (o:=nx i) C<|a1 i d;exact .gen ⟨_,(x _).mpr (.inr<|.inl ⟨i,d,rfl⟩),by rw[x1,Vi];exact Q,by rw[x2]⟩
   ·have:U=k+1:=by omega
    subst this;refine(s1 v).le λg hg=>?_;rcases hg with⟨i,d,e⟩ | hg
    ·refine .gen ⟨_,(x _).mpr (.inr<|.inl ⟨i,d,rfl⟩),?_,?_⟩
     ·rw[VU (a1 i d),e];rfl
     ·rw[e];simp[kv]
    ·exact .gen ⟨_,(x _).mpr (.inr<|.inr ⟨g,hg,rfl⟩),by rw[Zs];simp,rfl⟩
  ·rw[ro]
   by_cases C:U<=k
   ·have K:(news.map<|oe k).countP (λb=>b.has U)=0:=List.countP_eq_zero.mpr λb O=>by
     obtain⟨y,_,rfl⟩:=MM.mp O;rw[Zs];simp;omega
    have L:(LW N).countP (λi=>(kv k (hB p A N r B l i)<|nx i).has U)=(mr.filter λb=>b.has k).countP λb=>b.has U:=by
     have:(mr.filter λb=>b.has k)=(LW N).map A:=by rw[<- ja ic (mr.filter λb=>b.has k),hN];exact My λj _=>(Y j).symm
     rw[this,List.countP_map];refine OF λi d=>?_;have d:=Ma.mp d;rw[(Xv (o:=nx i) C<|a1 i d).1,Vi];rfl
    rw[K,L,<- I.ct U C,List.countP_eq_countP_filter_add mr (λb=>b.has U) λb=>b.has k];omega
   ·have:U=k+1:=by omega
    subst this;have J:(mr.filter λb=> !b.has k).countP (λb=>b.has<|k+1)=0:=List.countP_eq_zero.mpr λb O=>by obtain⟨m,u⟩:=Mu.mp O;have:=H b m (by simpa using u);intro z;have:=n3.mp z;omega
    have K:(news.map<|oe k).countP (λb=>b.has<|k+1)=news.length:=by rw[List.countP_eq_length.mpr λb O=>?_,Mq];obtain⟨y,_,rfl⟩:=MM.mp O;rw[Zs];simp
    have L:(LW N).countP (λi=>(kv k (hB p A N r B l i)<|nx i).has (k+1))=(LW N).countP λi=>(nx i).isSome:=OF λi d=>by rw[VU (a1 i<|Ma.mp d)]
    rw[J,K,L];omega
  ·have J:((mr.filter λb=> !b.has k).filter λb=>b.has<|k+1)=[]:=List.filter_eq_nil_iff.mpr λb O=>by
    obtain⟨m,u⟩:=Mu.mp O;have:=H b m (by simpa using u);intro z;have:=n3.mp z;omega
   have pO:((LW N).map λi=>kv k (hB p A N r B l i)<|nx i).Pairwise (Ord w):=by rw[PR];refine Rh (λ{a b} F O h=>?_)<|P5 (n:=N);have:=Z a b h<|Ma.mp O;unfold Ord;rw[ub,ub,cU,cU];exact this
   have pN:(news.map<|oe k).Pairwise (Ord w):=by
    rw[PR];refine Oz.mpr λ_ _ _ _ _=>⟨λz=>?_,λz=>?_⟩
    ·exact absurd z<|Nn<|k+1
    ·exact absurd z<|Nn<|k+1
   have so : ∀b,b∈(LW N).map (λi=>kv k (hB p A N r B l i)<|nx i)->b.s<=k:=λb O=>by obtain⟨i,d,rfl⟩:=MM.mp O;have d:=Ma.mp d;rw[ub,cU];exact(n3.mp (G i d).2).1
   have sn : ∀b,b∈news.map (oe k)->b.s=k+1:=λb O=>by obtain⟨y,_,rfl⟩:=MM.mp O;rfl
   unfold vR;rw[PJ,J,PF];refine RG _ ?_;cases hw:w k with
   | false=>
    simp only[Nf,if_false];refine List.pairwise_append.mpr ⟨pN,pO,λa F b O=>?_⟩;have m:=sn a F;have u:=so b O;exact⟨λz=>by omega,λ_=>by rw[m];exact hw⟩
   | true=>
    simp only[if_true];refine List.pairwise_append.mpr ⟨pO,pN,λa F b O=>?_⟩;have m:=sn b O;have u:=so a F;exact⟨λ_=>by rw[m];exact hw,λz=>by omega⟩
end
theorem XA(I:Pr p)(O:h<=100)(z:w<=lim)(f:UV) :
 ∃r B l,Zy [.int p,kQ h w f]=bX (.own<|jg r h B)/\hL p h r B l/\∀v,Span p h (eA r B) v↔Span p h (eA w λj i=>f i j) v:=by
 obtain⟨r,B,l,e,U,a⟩:=xR I O z .T λj i=>f i j;have Y:=jm;refine⟨r,B,l,?_,U,a⟩;simp only[p9]at e;have o:=Zf f (show h<=lim by omega) z;unfold kQ at o ⊢;simp[Zy,jj,z6,o,e]
theorem YQ(P:Nat->Ctx->Prop) : ∀(ds es:List D) (k:Nat) (γ:Ctx),P k γ->(∀i d γ,ds[i]? = bX d->P (k+i) γ->∃γ',(qZ T d γ).bind F=bX (.next γ')/\P (k+i+1) γ')->
 ∃γ',P (k+ds.length) γ'/\kD T F (ds++es) γ=kD T F es γ'
 | [],es,k,γ,h,_=>⟨γ,h,rfl⟩
 | d::ds,es,k,γ,h,step=>by
  obtain⟨a,e,f⟩:=step 0 d γ rfl h;obtain⟨γ',g,I⟩:=YQ P ds es (k+1) a (by simpa using f) (λi b O j U=>by have:=step (i+1) b O (by simpa using j) (by rw[show k+(i+1)=k+1+i by omega];exact U);rw[show k+(i+1)+1=k+1+i+1 by omega]at this;exact this)
  refine⟨γ',by rw[show k+(d::ds).length=k+1+ds.length by simp;omega];exact g,?_⟩;rw[Tc,qD];cases eb:qZ T d γ with
  | none=>rw[eb]at e;simp at e
  | some Y=>
   rw[eb]at e;simp only[Me]at e ⊢;rw[e];exact I
theorem W5(n:Nat)(v:Vc):xl (zA n v)=(LW n).map λ(i:Nat)=>D.tup [.int i,.int (v i)]:=by unfold xl;rw[Ko];refine My λi a=>?_;have:=Ma.mp a;simp[zA,this]
theorem vt(L:n<=lim)(v:Vc)(J:a<n)(I : ∀i,i<a->v i=0)(C:v a≠0):qK [.tup (zA n v)]=bX (.val<|.int a):=by
 have d:zW (.tp [0,1]) (sB<|zE nr (ze 1)<|zy<|.int 0) (ze 0) [Cell.no,Cell.no] ((LW n).map λ(i:Nat)=>D.tup [.int i,.int (v i)])=bX (((LW n).filter λi=> !decide (v i=0)).map λ(i:Nat)=>D.int i):=by refine jl _ _ _ λi f=>⟨_,rfl,?_,λ_=>rfl⟩;simp
 cases hf:(LW n).filter λi=> !decide (v i=0)with
 | nil=>exact absurd (by have:=fv hf a J;simpa using this) C
 | cons b yb=>
  obtain⟨Y,O,U⟩:=YT hf;have e:b=a:=by
   rcases Ra a b with z | z | z
   ·exact absurd (by have:=U a z;simpa using this) C
   ·exact z.symm
   ·exact absurd (I b z) (by simpa using O)
  subst e;rw[hf]at d;simp[qK,jj,z6,W5,L,je,Mb,d]
theorem bJ(J:a<n)(v I:Vc)(x:Int)(z:I a=x)(C : ∀i,i<n->i≠a->I i=v i):(zA n v).set a (.int x)=zA n I:=by
 apply NK;intro i;rw[Ob];by_cases b:i<n
 ·by_cases e:a=i
  ·subst e;simp[J,zA,z]
  ·have:=C i b (MD e)
   simp[e,zA,b,this]
 ·have O:(zA n v)[i]? = none:=by simp[zA];omega
  have d:(zA n I)[i]? = none:=by simp[zA];omega
  rw[O,d,UY ⋯]
noncomputable def V7(w:Nat)(B:Nat->Vc)(l:UX)(r:Nat):Vc:=λj=>zh (λk=>if l k=j then B k w else 0) r
noncomputable def ye:=(zQ (jy 6<|zH qK<|zb (ze 5) zI)<|zQ (l9 (sB<|zE hG (ze 6)<|ze 3) (qp<|zy .el) xM)<|Jw 4 (ze 6)<|cE (zm 5)<|ze 3)
section
variable{p:Int}{h w r:Nat}
theorem WO{l:UX}(C : ∀k m,k<m->m<r->l k<l m){k m:Nat}(I:k<r)(O:m<r)(e:l k=l m):k=m:=by
 rcases Ra k m with z | z | z
 ·have:=C k m z O;omega
 ·exact z
 ·have:=C m k z I;omega
def aug(w:Nat)(f:UV)(b:Vc):Nat->Vc:=λi j=>if j<w then f i j else b i
theorem aK(L:w+1<=lim)(U:hL p (w+1) r B l)(hs:s<=r)(M : ∀k,k<s->l k<w)(es:List D)(J I O:Cell) :
 ∃z C,kD (.nm 5) ye (jg s (w+1) B++es) [J,I,O,.val<|.int w,.own<|zA w λ_=>0,.no,.no]=kD (.nm 5) ye es [J,I,O,.val<|.int w,.own<|zA w<|V7 w B l s,z,C]:=by
 obtain⟨G,⟨z,C,rfl⟩,e⟩:=YQ (T:= .nm 5) (F:=ye) (λt o=>∃z C,o=[J,I,O,.val<|.int w,.own<|zA w<|V7 w B l t,z,C]) (jg s (w+1) B) es 0 [J,I,O,.val<|.int w,.own<|zA w λ_=>0,.no,.no]
  ⟨.no,.no,by rw[yD (f:=V7 w B l 0) (g:=λ_=>0) λi _=>rfl]⟩ (by
   rintro k d o b ⟨z,C,rfl⟩;rw[NJ];have n:k<s:=by have:=(Mo.mp b).1;simpa using this
   have u:d = .tup (zA (w+1)<|B k):=by simp[n]at b;exact b.symm
   subst u;have Y:k<r:=by omega
   have h:=M k n;have le:=vt L (B k) (show l k<w+1 by omega) (λi j=>U.md k i Y j) (by rw[U.one k Y];decide);refine⟨_,?_,.val<|.tup<|zA (w+1)<|B k,.val<|.int<|l k,rfl⟩;have a : ¬((l k:Int)=(w:Int)):=by omega
   have x : ¬l k=w:=by omega
   have E:w<w+1:=by omega
   have y:=bJ h (V7 w B l k) (V7 w B l<|k+1) (B k w) (by
    unfold V7;simp only[zh,if_true];rw[zx (g:=λ_=>0) λm A=>by rw[UY λe=>by have:=U.mono m k A Y;omega],zM]
    omega) (λi j a=>by
    unfold V7;simp only[zh];rw[UY (MD a)];omega)
   simp[ye,jC,le,a,x,h,E,y])
 rw[nz]at e;refine⟨z,C,?_⟩;rw[e];rw[NJ]
theorem uv(w:Nat)(f:UV)(b:Vc)(i:Nat):zA w (f i)++[.int (b i)]=zA (w+1) (aug w f b i):=by
 unfold zA;rw[Nx,Nb];congr 1
 ·exact My λj I=>by simp[aug,Ma.mp I]
 ·simp[aug]
theorem J9(Y:Pr p)(S:h<=90)(Z:w<=90)(f:UV)(b:Vc) :
 ∃r B l s,hL p (w+1) r B l/\(∀v,Span p (w+1) (eA r B) v↔Span p (w+1) (eA h<|aug w f b) v)/\s<=r/\(∀k,k<s->l k<w)/\(∀k,s<=k->k<r->w<=l k)/\
  vE [.int p,kQ h w f,.tup (zA h b)]=bX (.val<|if s<r then .el else .tup (zA w<|V7 w B l s)):=by
 have W:=jm;have U:h<=lim:=by omega
 have n:w<=lim:=by omega
 have O:w+1<=lim:=by omega
 obtain⟨r,B,l,e,I,o⟩:=xR Y (show w+1<=100 by omega) U .L<|aug w f b;obtain⟨s,j,m,g⟩:=ZS w I.mono;refine⟨r,B,l,s,I,o,j,m,g,?_⟩;have a:zW (.tp [0,1]) js (zE jJ (ze 0)<|qF<|zb (ze 1) zI) [Cell.no,Cell.no] ((LW h).map λi=>D.tup [.tup (zA w<|f i),.int (b i)])=bX (jg h (w+1)<|aug w f b):=by unfold jg;refine zB _ _ λi F=>zD rfl rfl ?_;simp[jJ,O,uv]
 have K:vI (jg h w f) (zA h b)=(LW h).map λi=>D.tup [.tup (zA w<|f i),.int (b i)]:=by unfold vI jg zA;rw[OZ];simp
 have t:Mb w (D.int 0)=zA w λ_=>0:=by rw[dG];rfl
 have A:((w+1:Nat):Int)=(w:Int)+1:=by omega
 simp only[p9]at e;rw[A]at e;obtain⟨d,E⟩ : ∃d,r=s+d:=⟨r - s,by omega⟩;have H:jg r (w+1) B=jg s (w+1) B++jg d (w+1) λk=>B (s+k):=by unfold jg;rw[E,Ry,Nb,MJ];rfl
 obtain⟨M,N,G⟩:=aK O I j m (jg d (w+1) λk=>B<|s+k) (.val<|.int p) (.val<|kQ h w f)<|.val<|.tup<|zA h b;have J:jx (kQ h w f)=bX (.T,[.int h,.int w,.tup (jg h w f)]):=rfl;have C:vE=jj 7 (zQ (jy 3<|cE (zm 1)<|zy<|.int 1)<|zQ (qw 4<|iR (jS<|j4<|zb (zy<|.int 0) zI)<|ze 3)<|zQ (k3 (zV<|zF<|jU<|jF qO<|zb (ze 0)<|zb (zE jJ (ze 3)<|zy<|.int 1)<|zb (jU<|zU (KF (cE (zm 1)<|zy<|.int 2)<|ze 2) (.tp [0,1]) 2 [] js (zE jJ (ze 0)<|qF<|zb (ze 1) zI)) zI) (.nm 5) ye)<|qp<|jv<|zm 4):=rfl;rw[C];simp[jj,z6,jC,J,n,K,U,je,Mb,a,e];rw[t,H,G];by_cases z:s<r
 ·
  have u:d=1:=by
   rcases Mz 1 d with q | q
   ·have P:=I.mono s (s+1) ⋯ ⋯
    have Q:=g s (Mf _) z;have R:=I.lt (s+1) ⋯;omega
   ·omega
  subst u;have x:l s=w:=by have:=g s (Mf _) z;have:=I.lt s z;omega
  have le:=vt O (B s) (show w<w+1 by omega) (λi F=>I.md s i z ⋯) (by have:=I.one s z;rw[x]at this;rw[this];decide);have one:jg 1 (w+1) (λk=>B<|s+k)=[.tup (zA (w+1)<|B s)]:=rfl;rw[one,qD];simp[ye,jC,le,z]
 ·have y:d=0:=by omega
  subst y;have zero:jg 0 (w+1) (λk=>B<|s+k)=[]:=rfl;rw[zero];simp[kD,z]
end
def off(hs ws:UX):Nat->Nat
 | 0=>0
 | k+1=>off hs ws k+hs k*ws k
noncomputable def E8(hs ws:UX)(T:UW):Nat->Nat->Int
 | 0,_=>0
 | k+1,x=>if x<off hs ws k then E8 hs ws T k x else T k ((x - off hs ws k)/ws k) ((x - off hs ws k)%ws k)
def V_(n:Nat)(hs ws:UX)(T:UW):List D:=(LW n).map λk=>kQ (hs k) (ws k)<|T k
noncomputable def BM(n:Nat)(hs ws:UX):List D:=(LW n).map λk=>D.tup [.int (hs k:Nat),.int (ws k:Nat)]
section
variable{hs ws:UX}{T:UW}
theorem ZW{a b:Nat}(h:a<=b):off hs ws a<=off hs ws b:=by
 induction b with
 | zero=>
  obtain rfl:a=0:=by omega
  exact Mf _
 | succ b I=>
  by_cases e:a=b+1
  ·subst e;exact Mf _
  ·have:=I ⋯
   show _<=off hs ws b+hs b*ws b;omega
theorem Ku{h w i j:Nat}(z:i<h)(I:j<w):i*w+j<h*w:=by have:(i+1)*w<=h*w:=Nat.mul_le_mul_right w z;rw[Sf]at this;omega
theorem V3{n k i j:Nat}(O:k<n)(z:i<hs k)(I:j<ws k):off hs ws k+i*ws k+j<off hs ws n:=by have a:=ZW (hs:=hs) (ws:=ws) (show k+1<=n by omega);have b:=Ku z I;have:off hs ws (k+1)=off hs ws k+hs k*ws k:=rfl;omega
theorem pb{w i j:Nat}(I:j<w):(i*w+j)/w=i/\(i*w+j)%w=j:=by
 have a:0<w:=by omega
 constructor
 ·rw[P7,Nat.add_mul_div_right _ _ a,Tn I,NJ]
 ·rw[P7,Nat.add_mul_mod_self_right,Tj I]
theorem KL{k i j:Nat}(z:i<hs k)(I:j<ws k) : ∀n,k<n->E8 hs ws T n (off hs ws k+i*ws k+j)=T k i j
 | 0,h=>by omega
 | n+1,h=>by
  unfold E8;by_cases e:k=n
  ·subst e
   rw[UY ⋯];have:off hs ws k+i*ws k+j - off hs ws k=i*ws k+j:=by omega
   rw[this,(pb I).1,(pb I).2]
  ·have:=V3 (hs:=hs) (ws:=ws) (show k<n by omega) z I
   rw[UJ this];exact KL z I n ⋯
theorem lY : ∀(n x:Nat),x<off hs ws n->∃k i j,k<n/\i<hs k/\j<ws k/\x=off hs ws k+i*ws k+j
 | 0,x,h=>by simp[off]at h
 | n+1,x,h=>by
  by_cases e:x<off hs ws n
  ·obtain⟨k,i,j,d,a,I,O⟩:=lY n x e
   exact⟨k,i,j,by omega,a,I,O⟩
  ·have h:x<off hs ws n+hs n*ws n:=h
   have b:0<ws n:=by apply Nat.pos_of_ne_zero;intro z;rw[z,Nat.mul_zero]at h;omega
   refine⟨n,(x - off hs ws n)/ws n,(x - off hs ws n)%ws n,by omega,Nat.div_lt_of_lt_mul ?_,Nat.mod_lt _ b,?_⟩
   ·rw[Ox];omega
   ·have:=Nat.div_add_mod (x - off hs ws n) (ws n)
    rw[Ox]at this;omega
theorem bK(n f):(zA n f).length=n:=by simp[zA]
theorem pU(n hs ws):(BM n hs ws).length=n:=by simp[BM]
def cn(hs ws:UX)(u:Nat->Int)(k i j:Nat):Int:=u<|off hs ws k+i*ws k+j
theorem VA(hs ws:UX) : ∀n,zh (λk=>(hs k:Int)*(ws k:Int)) n=(off hs ws n:Nat)
 | 0=>rfl
 | n+1=>by show zh _ n+_=((off hs ws n+hs n*ws n:Nat):Int);rw[VA hs ws n,Sj,OW]
theorem wH{n:Nat}(C:n<=100)(z : ∀k,ws k<=100):kU [.lst (BM n hs ws)]=bX (.val<|.int (off hs ws n:Nat)):=by
 have d:=jm;have I:n<=lim:=by omega
 have a:zW (.tp [0,1]) js (zE xu (ze 0)<|ze 1) [Cell.no,Cell.no] (BM n hs ws)=bX (zA n λk=>(hs k:Int)*(ws k:Int)):=by unfold BM;rw[jd n λk=>(hs k:Int)*(ws k:Int)];refine zB _ _ λk b=>zD rfl rfl ?_;have O:vT (hs k:Int) (ws k:Int)=cz:=vS _ _ ⋯ (by have:=z k;omega);show zE _ _ _ [Cell.val (.int (hs k:Nat)),Cell.val (.int (ws k:Nat))]=_;simp[O]
 have U:=yV (λk=>(hs k:Int)*(ws k:Int)) n;have Y:=pU n hs ws;refine jk ?_;show((iP _) [.val (.lst<|BM n hs ws)]).map _=_;simp only[Va,kF,qb,Jh,xV,Nj,qT,wZ,Nt,Me,Y,I,if_true];rw[show je 2 [] [Cell.val (.lst<|BM n hs ws)]=[Cell.no,Cell.no]from rfl,a];simp only[Nt,Me,U,VA]
end
section
variable{p:Int}{m:Nat}{w:UK}{wd wd':UX}{T T' S:UW}
theorem XS(C:m<=4):vq [j5 p m w wd' T',j5 p m w wd T]=bX (.own<|BM (m+1) wd wd'):=by
 have U:=jm;have I:m+1<=lim:=by omega
 have O:=wu p m w wd T;have x1:=wu p m w wd' T';have a:f6 3 1=bX 1:=rfl;have z:vI (zA (m+1) λk=>(wd k:Int)) (zA (m+1) λk=>(wd' k:Int))=BM (m+1) wd wd':=ZR (m+1) (λk=>(wd k:Int)) λk=>(wd' k:Int);refine jk ?_;show((du _ _) [.val (j5 p m w wd' T'),.val (j5 p m w wd T)]).map _=_;simp only[nP,yh,xV,av,Nj,NB,Nm,Of,NJ,Nat.reduceAdd,qT,Me,Nt,O,x1,k6,a,Xy,bK,I,if_true,z]
def qR(c x:Nat):Int:=if c=x then 1 else 0
end
theorem uF(h : ∀k,k<r->l k≠j):V7 w B l r j=0:=by unfold V7;rw[zx (g:=λ_=>0) λk I=>UY<|h k I,zM]
theorem CT{p:Int}{w n r:Nat}{B:Nat->Vc}{l:UX}(O:hL p n r B l){k:Nat}(I:k<r):V7 w B l r (l k)=B k w:=by unfold V7;rw[zR I λm a U=>UY λe=>U<|WO O.mono a I e,UJ rfl]
theorem iK{p:Int}{h w:Nat}{f:UV}{b y:Vc}(Y : ∀i,i<h->zh (λj=>f i j*y j) w%p=b i%p){v:Vc}(z:Span p (w+1) (eA h<|aug w f b) v):(v w - zh (λj=>v j*y j) w)%p=0:=by
 induction z with
 | @zero v O=>
  have e:zh (λj=>v j*y j) w%p=zh (λ_=>0) w%p:=zO λj U=>by rw[Mh,O j ⋯];simp
  rw[Oy,e,O w ⋯,zM];simp
 | @step v I g c n s a r=>
  obtain⟨i,o,rfl⟩:=n;have d:zh (λj=>v j*y j) w%p=(zh (λj=>I j*y j) w+c*zh (λj=>f i j*y j) w)%p:=by
   rw[<- zY,<- ju];refine zO λj U=>?_;rw[Mh,a j ⋯,<- Mh];have:aug w f b i j=f i j:=by simp[aug,U]
   rw[this,Rc,NR]
  have k:v w%p=(I w+c*b i)%p:=by
   rw[a w ⋯];have:aug w f b i w=b i:=by simp[aug]
   rw[this]
  have l:(c*zh (λj=>f i j*y j) w)%p=(c*b i)%p:=by rw[Mh,Y i o,<- Mh]
  rw[Oy,d,k,<- Oy];have m:(I w+c*b i - (zh (λj=>I j*y j) w+c*zh (λj=>f i j*y j) w))=(I w - zh (λj=>I j*y j) w)+(c*b i - c*zh (λj=>f i j*y j) w):=by omega
  rw[m,MU,r,Oy,l];simp
theorem iL(Y:Pr p)(J:h<=90)(L:w<=90)(f:UV)(b y:Vc)(U : ∀i,i<h->0<=b i/\b i<p)(M : ∀i,i<h->zh (λj=>f i j*y j) w%p=b i) :
 ∃x:Vc,vE [.int p,kQ h w f,.tup (zA h b)]=bX (.val<|.tup<|zA w x)/\(∀j,0<=x j/\x j<p)/\∀i,i<h->zh (λj=>f i j*x j) w%p=b i:=by
 have N:=Y.pos;obtain⟨r,B,l,s,O,d,T,t,P,m⟩:=J9 Y J L f b;have u : ¬s<r:=λz=>by
  have R:=O.lt s z;have S:=P s (Mf _) z;have F:l s=w:=by omega
  have Q:=(d<|B s).mp (.gen ⟨s,z,rfl⟩);have q:=iK (y:=y) (λi a=>by rw[M i a,MR (U i a).1 (U i a).2]) Q;have o:=O.one s z;rw[F]at o;have H:zh (λj=>B s j*y j) w=0:=by rw[zx (g:=λ_=>0) λj K=>by rw[O.md s j z ⋯];simp];exact zM _
  rw[o,H,Int.sub_zero,Y.one]at q;omega
 rw[UY u]at m;have G:s=r:=by omega
 subst G;refine⟨_,m,λj=>?_,λi a=>?_⟩
 ·by_cases e : ∃k,k<s/\l k=j
  ·obtain⟨k,I,rfl⟩:=e
   rw[CT O I];exact O.iW k w I ⋯
  ·rw[uF λk I E=>e ⟨k,I,E⟩];exact⟨Int.le_refl _,N⟩
 ·have n:=ZP O ((d<|aug w f b i).mpr (.gen ⟨i,a,rfl⟩)) w ⋯
  have A:aug w f b i w=b i:=by simp[aug]
  rw[A,MR (U i a).1 (U i a).2]at n;rw[n];congr 1;unfold V7;rw[zx (g:=λj=>zh (λk=>f i j*(if l k=j then B k w else 0)) s) λj _=>(zY _ _ _).symm,jT];refine zx λk I=>?_;rw[zR (i:=l k) (t k I) λj K C=>by rw[UY (MD C)];simp,UJ rfl];simp only[aug,UJ (t k I)]
theorem Wg{n N:Nat}(a:Nat->Int)(idx:UX)(x:Nat->Int)(I : ∀t,t<n->idx t<N):zh (λc=>zh (λt=>a t*qR c (idx t)) n*x c) N=zh (λt=>a t*x (idx t)) n:=by rw[zx (g:=λc=>zh (λt=>a t*qR c (idx t)*x c) n) λc _=>(kj _ _ _).symm,jT];refine zx λt O=>?_;rw[zR (i:=idx t) (I t O) λc Y U=>by unfold qR;rw[UY U];simp];unfold qR;rw[UJ rfl,tr]
def kN(wd:UX)(b:f9):List D:=(LW b.n).map λi=>D.tup<|zA (wd<|b.s+i)<|b.v<|b.s+i
def qj(wd:UX)(b:f9):D:= .tup [.int b.s,.tup (kN wd b)]
@[simp] theorem bw(wd b):(kN wd b).length=b.n:=by simp[kN]
theorem WS(h:i<b.n):(kN wd b)[i]? = bX (.tup<|zA (wd<|b.s+i)<|b.v<|b.s+i):=by simp[kN,h]
@[simp] theorem GR(wd b):jx (qj wd b)=bX (.T,[.int b.s,.tup (kN wd b)]):=rfl
section
variable{wd:UX}{b:f9}{mr:List f9}
theorem Xa(z:1<=b.n)(C:b.s+b.n<=100):jY [qj wd b]=bX (.val<|.tup [.int b.s,.int ((b.s+b.n - 1:Nat):Int)]):=by
 have e:((b.s:Int)+(b.n:Int) - 1)=((b.s+b.n - 1:Nat):Int):=by omega
 simp[jY,jj,z6,qj,Mb];omega
theorem yB(z:b.s+b.n<=100)(r:Nat):jV [qj wd b,.int r]=bX (.val<|.bl<|b.has r):=by
 by_cases h:b.s<=r
 ·by_cases a:r<b.s+b.n
  ·have:(r:Int)<(b.s:Int)+b.n:=by omega
   simp[jV,jj,z6,qj,Mb,f9.has,h,a,this]
  ·have : ¬((r:Int)<(b.s:Int)+b.n):=by omega
   simp[jV,jj,z6,qj,Mb,f9.has,h,a,this]
 ·simp[jV,jj,z6,qj,Mb,f9.has,h]
theorem v7{N:Nat}{A:Nat->f9}(I : ∀j,j<N->(A j).s+(A j).n<=100)(O:N<=lim)(r:Nat) :
 qX [.lst ((LW N).map λj=>qj wd<|A j),.int r]=bX (.own<|((LW N).filter λj=>(A j).has r).map λj=>D.tup<|zA (wd r)<|(A j).v r):=by
 simp only[qX,jj,z6,gW,qb,Jh,xV,MI,RY,Nm,Of,Mb,OG,Tc,PF,Nj,we,jx,Nt,Me,Mq,MQ,O,if_true];rw[jl (λj=>(A j).has r) (λj=>D.tup<|zA (wd r)<|(A j).v r) (LW N) λj U=>⟨_,rfl,?_,λd=>?_⟩]
 ·rfl
 ·have e:=yB (wd:=wd) (I j<|Ma.mp U) r
  simp[je,e]
 ·obtain⟨b,h⟩:=n3.mp d
  obtain⟨i,rfl⟩:=Nat.exists_eq_add_of_le b;have a:i<(A j).n:=by omega
  have g:(((A j).s+i:Nat):Int) - ((A j).s:Int)=(i:Int):=by omega
  have Y:=WS (wd:=wd) a;have O:=jm;have f:=I j<|Ma.mp U;simp[je,qj,a,Y];rw[show((A j).s:Int)+(i:Int) - ((A j).s:Int)=(i:Int)by omega,j9,UJ a];exact Y
theorem Zw(g:Nat->Vc)(I:q<=lim)(O:h<=lim):kI [.int h,.lst (jg q h g)]=bX (.val<|kQ h q λi j=>g j i):=by have e:=Zf (h:=q) (w:=h) g I O;unfold kQ at e;simp[kI,jj,z6,Mb,I,e];rfl
theorem WR(h:Nat)(u:Nat->Vc)(L:List Nat):(L.map λj=>D.tup<|zA h<|u j)=jg L.length h λi=>u (L.getD i 0):=by
 unfold jg
 conv=>lhs;rw[<- ja 0 L]
 rw[MJ];rfl
theorem mQ(u:Nat->Int)(L:List Nat):(L.map λj=>D.int<|u j)=zA L.length λi=>u (L.getD i 0):=by
 unfold zA
 conv=>lhs;rw[<- ja 0 L]
 rw[MJ];rfl
theorem QY(P:UK)(g:Nat->Int) : ∀N,zh (λi=>g<|((LW N).filter P).getD i 0) ((LW N).filter P).length=zh (λj=>if P j=cz then g j else 0) N
 | 0=>rfl
 | N+1=>by
  have I:=QY P g N;rw[Nx,PJ];show _=zh _ N+_;rw[<- I];cases hP:P N with
  | false=>simp[hP]
  | true=>
   have e:([N].filter P)=[N]:=by simp[hP]
   rw[e,MW,Oe];show zh _ _+_=_;simp only[if_true];congr 1
   ·refine zx λi a=>?_
    simp[Mc,Nk a]
   ·simp[Mc,hP]
end
section
variable{wd:UX}{N m:Nat}{A:Nat->f9}{p:Int}{w:UK}{T:UW}{t:Vc}
theorem ip:vI (zA N t) ((LW N).map λj=>qj wd<|A j)=(LW N).map λj=>D.tup [.int (t j),qj wd (A j)]:=by
 unfold vI zA;rw[List.zip_map,MJ];have e:(LW N).zip (LW N)=(LW N).map λi=>(i,i):=by rw[List.zip_eq_zipWith,List.zipWith_self]
 rw[e,MJ];rfl
theorem Kb(U:Pr p)(Y : ∀j,j<N->(A j).s+(A j).n<=100)(M:N<=60)(S:m<=5)(C : ∀k,wd k<=60)(Z:r<=m)(J : ∀j i,j<N->(A j).has r=cz->i<wd r->0<=(A j).v r i/\(A j).v r i<p) :
 kW [j5 p m w wd T,.lst<|(LW N).map λj=>qj wd<|A j,.tup<|zA N t,.int r]=bX (.val<|.tup<|zA (wd r)<|o8 p A N t r):=by
 have E:=jm;have G:=U.le;have B:=C r;have a:=v7 (wd:=wd) Y (show N<=lim by omega) r;rw[WR (wd r) (λj=>(A j).v r)]at a;have F:((LW N).filter λj=>(A j).has r).length<=N:=by have:=OV (λj=>(A j).has r)<|LW N;simpa using this
 have g:=Zw (q:=((LW N).filter λj=>(A j).has r).length) (h:=wd r) (λi=>(A<|((LW N).filter λj=>(A j).has r).getD i 0).v r) ⋯ ⋯;have I:=aw (p:=p) (h:=wd r) (w:=((LW N).filter λj=>(A j).has r).length) .L (λi j=>(A<|((LW N).filter λj=>(A j).has r).getD j 0).v r i) (λi=>t<|((LW N).filter λj=>(A j).has r).getD i 0) U.pos ⋯ ⋯ (λi j y O=>by
  have b:((LW N).filter λj=>(A j).has r).getD j 0∈(LW N).filter λj=>(A j).has r:=by rw[Mc,LZ O];exact NQ _
  obtain⟨u,x⟩:=Mu.mp b;have:=J _ i (Ma.mp u) (by simpa using x) y;omega)
 have l:(zA (wd r) λi=>zh (λj=>(A<|((LW N).filter λj=>(A j).has r).getD j 0).v r i*t (((LW N).filter λj=>(A j).has r).getD j 0)) ((LW N).filter λj=>(A j).has r).length%p)=zA (wd r) (o8 p A N t r):=yD λi _=>by unfold o8;rw[QY (λj=>(A j).has r) (λj=>(A j).v r i*t j) N];congr 1;refine zx λj _=>?_;rw[Nu]
 rw[l]at I;have o:zW (.tp [0,1]) (sB<|zH jV<|zb (ze 1)<|zb (ze 2) zI) (ze 0) [.no,.no,.val (.int r)] ((LW N).map λj=>D.tup [.int (t j),qj wd (A j)])=bX (zA ((LW N).filter λj=>(A j).has r).length λi=>t<|((LW N).filter λj=>(A j).has r).getD i 0):=by rw[<- mQ];refine jl (λj=>(A j).has r) (λj=>D.int<|t j) _ λj O=>⟨_,rfl,?_,λ_=>rfl⟩;have e:=yB (wd:=wd) (Y j<|Ma.mp O) r;simp[e]
 have d:r<m+1:=by omega
 have z:=ip (N:=N) (wd:=wd) (t:=t) (A:=A);simp only[p9]at I;have f:N<=lim:=by omega
 refine jk<|zv (γ':=[.val (j5 p m w wd T),.val<|.lst<|(LW N).map λj=>qj wd<|A j,.val<|.tup<|zA N t,.val<|.int r,.val (.lst<|zA ((LW N).filter λj=>(A j).has r).length λi=>t<|((LW N).filter λj=>(A j).has r).getD i 0)]) ?_ ?_
 ·simp[-Mc,z6,je,Mb,z,o,f]
 ·simp[-Mc,j5,a,g,I,d]
theorem mO(Y:Pr p)(O : ∀j,j<N->(A j).s+(A j).n<=m+1)(J:N<=60)(L:m<=5)(C : ∀k,wd k<=60)(M : ∀j r i,j<N->(A j).has r=cz->i<wd r->0<=(A j).v r i/\(A j).v r i<p)(z:a<N)(S : ∀i,i<a->t i=0)(Z:t a≠0) :
 KB [j5 p m w wd T,.lst<|(LW N).map λj=>qj wd<|A j,.tup (zA N t)]=bX (.val<|qj wd<|En p A N t a):=by
 have E:=jm;have f:N<=lim:=by omega
 have h:=vt f t z S Z;have B:=O a z;have l:zW (.nm 0) js (zH kW<|zb (ze 1)<|zb (ze 2)<|zb (ze 3)<|zb (zE jJ (cE (zm 4)<|zy<|.int 0)<|ze 0) zI) [.no,.val<|j5 p m w wd T,.val<|.lst<|(LW N).map λj=>qj wd<|A j,.val<|.tup<|zA N t,.val (qj wd<|A a)] ((LW (A a).n).map λ(i:Nat)=>D.int i)=bX (kN wd<|En p A N t a):=by
  unfold kN;refine zB _ _ λi b=>zD rfl rfl ?_;have b:=Ma.mp b;have e:=Kb (T:=T) (w:=w) (t:=t) Y (λj I=>by have:=O j I;omega) J L C (r:=(A a).s+i) (by have:i<(A a).n:=b;omega) λj c I x u=>M j _ c I x u;have o:(((A a).s+i:Nat):Int)=((A a).s:Int)+(i:Int):=by omega
  rw[o]at e;have F:inR (((A a).s:Int)+(i:Int))=cz:=decide_eq_true (by have:i<(A a).n:=b;omega);simp[e];rfl
 have d:(A a).n<=lim:=by omega
 have y:inR ((A a).n:Int)=cz:=decide_eq_true ⋯;refine jk<|zv (γ':=[.val (j5 p m w wd T),.val<|.lst<|(LW N).map λj=>qj wd<|A j,.val<|.tup<|zA N t,.val<|qj wd<|A a,.no]) ?_ (zv (γ':=[.val (j5 p m w wd T),.val<|.lst<|(LW N).map λj=>qj wd<|A j,.val<|.tup<|zA N t,.val<|qj wd<|A a,.val (.lst<|kN wd<|En p A N t a)]) ?_ ?_)
 ·simp[z6,Mb,h,z]
 ·have U:=l
  rw[show((LW (A a).n).map λ(i:Nat)=>D.int i)=zA (A a).n λi=>(i:Int)from rfl]at U;simp[je,jL,y,d,U]
 ·have g:(En p A N t a).n<=lim:=d
  simp[bw,g];rfl
end
section
variable{wd:UX}{N m k r:Nat}{A:Nat->f9}{p:Int}{w:UK}{T:UW}{B:Nat->Vc}{l:UX}
theorem W2(l:UX)(g:Nat->D)(i:Nat) : ∀(L:List Nat),W3 (L.map λj=>D.int ((l j:Nat):Int)) (L.map g) (i:Int)=(L.find? λj=>l j==i).map g
 | []=>rfl
 | j::L=>by
  have I:=W2 l g i L;simp only[MI,W3,OE];by_cases h:l j=i
  ·simp[h]
  ·have a : ¬((l j:Nat):Int)=(i:Int):=by omega
   rw[UY a,I];have:(l j==i)=dn:=by simpa using h
   rw[this]
theorem YJ(l:UX) : ∀L:List Nat,QR (L.map λj=>D.int ((l j:Nat):Int))=bX (L.map λj=>((l j:Nat):Int))
 | []=>rfl
 | j::L=>by simp[QR,YJ l L]
theorem bA(I:hL p N r B l)(O:r<=lim):nC ((LW r).map λj=>D.int ((l j:Nat):Int)) ((LW r).map λj=>D.tup<|zA N<|B j)=bX (.lN ((LW r).map λj=>D.int ((l j:Nat):Int))<|(LW r).map λj=>D.tup<|zA N<|B j):=by unfold nC;rw[YJ];dsimp only;rw[UJ];refine⟨by simp,?_,by simpa using O⟩;rw[List.nodup_iff_pairwise_ne,PR];refine Rh (λ{a b} d U h=>?_)<|P5 (n:=r);have:=I.mono a b h<|Ma.mp U;omega
theorem KO(f g:Nat->D) : ∀L:List Nat,wj (L.map λj=>D.tup [f j,g j])=bX (L.map f,L.map g)
 | []=>rfl
 | j::L=>by simp[wj,KO f g L]
theorem J3(h:k<(k7 m w wd T).length):(k7 m w wd T)[k]=Zh w wd T k:=by simp[k7]
theorem yf(w wd T k):jx (Zh w wd T k)=bX (.T,[.str (yk<|h9<|w k),kQ (eK w wd k) (ed w wd k) (T k)]):=rfl
theorem VV:xl ((LW N).map λj=>qj wd<|A j)=(LW N).map λ(i:Nat)=>D.tup [.int i,qj wd (A i)]:=by unfold xl;simp only[Mq,MQ];refine My λi a=>?_;have a:=Ma.mp a;simp[a]
noncomputable def uH(p:Int)(w:UK)(wd:UX)(T:UW)(k:Nat)(u:Vc):Prop:=if w k=cz then Span p (wd k) (eA (wd<|k+1) λj i=>T k i j) u else DJ p (wd<|k+1) (wd k) (T k) u
theorem aJ(U:Pr p)(Y : ∀k,wd k<=8)(w)(T)(k:Nat) : ∃q g,q<=100/\(∀u,Span p (wd k) (eA q g) u↔uH p w wd T k u)/\
 (if w k=cz then Zy [.int p,kQ (eK w wd k) (ed w wd k) (T k)]=bX (.own<|jg q (wd k) g)else vG [.int p,kQ (eK w wd k) (ed w wd k) (T k)]=bX (.own<|jg q (wd k) g)):=by
 have o:=jm;have i:=Y k;have m:=Y<|k+1;have d : ∀{r n:Nat} {B:Nat->Vc} {l:UX},hL p n r B l->r<=n:=λ{r n B l} I=>by
  have mono : ∀k,k<r->k<=l k:=by
   intro k
   induction k with
   | zero=>intro _;omega
   | succ k j=>intro i;have:=j ⋯;have:=I.mono k (k+1) ⋯ i;omega
  cases r with
  | zero=>omega
  | succ f=>have:=mono f ⋯;have:=I.lt f ⋯;omega
 cases hw:w k with
 | true=>
  have a:eK w wd k=wd k:=by unfold eK;rw[hw];rfl
  have O:ed w wd k=wd (k+1):=by unfold ed;rw[hw];rfl
  obtain⟨r,B,l,e,I,b⟩:=XA U (h:=wd k) (w:=wd<|k+1) ⋯ ⋯<|T k;refine⟨r,B,by have:=d I;omega,λu=>by unfold uH;rw[hw,UJ rfl];exact b u,?_⟩;rw[UJ rfl,a,O];exact e
 | false=>
  have a:eK w wd k=wd (k+1):=by unfold eK;rw[hw];rfl
  have O:ed w wd k=wd k:=by unfold ed;rw[hw];rfl
  obtain⟨q,K,l,s,e,I,b,_⟩:=yH U (h:=wd<|k+1) (w:=wd k) ⋯ ⋯<|T k;refine⟨q,K,by have:=d I;omega,λu=>by unfold uH;rw[hw,UY ⋯];exact b u,?_⟩;rw[UY ⋯,a,O];exact e
theorem Vk:w9=jj 8 (zQ TR<|zQ TU<|zQ N9<|zQ TV<|zQ TX TY):=rfl
theorem aM(J:Pr p)(S : ∀j,j<N->(A j).s+(A j).n<=m+1)(C : ∀j,j<N->(A j).has k=cz)(M:k<m)(hN:N<=8)(hm:m<=5)(z : ∀k,wd k<=8)(hv : ∀j r i,j<N->(A j).has r=cz->i<wd r->0<=(A j).v r i/\(A j).v r i<p) :
 ∃r B l,hL p N r B l/\(∀t,Span p N (eA r B) t↔uH p w wd T k (app (λi j=>(A j).v k i) N t))/\
  w9 [j5 p m w wd T,.int k,.lst ((LW N).map λj=>qj wd<|A j)]=bX (.own<|(LW N).map λi=>qj wd<|hB p A N r B l i):=by
 have hl:=jm;obtain⟨q,g,hq,E,Y⟩:=aJ J z w T k;have bb:=z k;obtain⟨r,B,l,H,I,hs⟩:=KC J (h:=wd k) (w:=N) (q:=q) ⋯ ⋯ hq (λi j=>(A j).v k i) g;refine⟨r,B,l,I,λt=>(hs t).trans (E _),?_⟩;have d:N<=lim:=by omega
 have F:k<m+1:=by omega
 have rN:r<=N:=by
  have mono : ∀k,k<r->k<=l k:=by
   intro k
   induction k with
   | zero=>intro _;omega
   | succ k ih=>intro C;have:=ih ⋯;have:=I.mono k (k+1) ⋯ C;omega
  cases r with
  | zero=>omega
  | succ o=>have:=mono o ⋯;have:=I.lt o ⋯;omega
 have u:r<=lim:=by omega
 have x:=v7 (wd:=wd) (A:=A) (N:=N) (λj O=>by have:=S j O;omega) d k;have X:((LW N).filter λj=>(A j).has k)=LW N:=List.filter_eq_self.mpr λj O=>C j<|Ma.mp O;rw[X]at x;have K:=Zw (q:=N) (h:=wd k) (λj=>(A j).v k) d ⋯;have as:qX [.lst ((LW N).map λj=>qj wd<|A j),.int k]=bX (.own<|jg N (wd k) λj=>(A j).v k):=x;have P:zW (.nm 0) js (qF<|zb (zH qK<|zb (ze 0) zI)<|zb (ze 0) zI) [.no] (jg r N B)=bX ((LW r).map λj=>D.tup [.int ((l j:Nat):Int),.tup (zA N<|B j)]):=by unfold jg;refine zB _ _ λj O=>zD rfl rfl ?_;have O:=Ma.mp O;have e:=vt d (B j) (I.lt j O) (λi b=>I.md j i O b) (by rw[I.one j O];decide);simp[e]
 have Q:=bA I u;have R:=KO (λj=>D.int ((l j:Nat):Int)) (λj=>D.tup<|zA N<|B j)<|LW r;let f:D:= .lN ((LW r).map λj=>D.int ((l j:Nat):Int)) ((LW r).map λj=>D.tup<|zA N<|B j);let L:D:= .lst ((LW N).map λj=>qj wd<|A j);have W:zW (.tp [0,1]) js (aN (sB<|AA (ze 0)<|ze 4) (zH KB<|zb (ze 2)<|zb (ze 3)<|zb (Ej (ze 4)<|ze 0) zI)<|ze 1) [.no,.no,.val<|j5 p m w wd T,.val L,.val f] ((LW N).map λ(i:Nat)=>D.tup [.int i,qj wd (A i)])=bX ((LW N).map λi=>qj wd<|hB p A N r B l i):=by
  refine zB _ _ λi b=>zD rfl rfl ?_;have b:=Ma.mp b;have U:=W2 l (λj=>D.tup<|zA N<|B j) i<|LW r;have G:(LW r).find? (λj=>l j==i)=l8 r l i:=rfl;rw[G]at U;unfold hB;cases hx:l8 r l i with
  | none=>
   rw[hx]at U;simp[f,AA,U]
  | some j=>
   rw[hx]at U;obtain⟨y,Z⟩:=xI hx;have e:=mO (T:=T) (w:=w) (t:=B j) J S ⋯ hm (λk=>by have:=z k;omega) hv (a:=i) b (λc hc=>I.md j c y ⋯) (by rw[<- Z,I.one j y];decide);simp[f,AA,Ej,U,L,e]
 rw[Vk];refine jk (zv (γ':=[.val (j5 p m w wd T),.val<|.int k,.val L,.val<|.str<|yk<|h9<|w k,.no,.no,.no,.no]) ?_
  (zv (γ':=[.val (j5 p m w wd T),.val<|.int k,.val L,.val<|.str<|yk<|h9<|w k,.val<|kQ (eK w wd k) (ed w wd k)<|T k,.no,.no,.no]) ?_
  (zv (γ':=[.val (j5 p m w wd T),.val<|.int k,.val L,.val<|.str<|yk<|h9<|w k,.val<|kQ (eK w wd k) (ed w wd k)<|T k,.val<|.lst<|jg q (wd k) g,.no,.no]) ?_
  (zv (γ':=[.val (j5 p m w wd T),.val<|.int k,.val L,.val<|.str<|yk<|h9<|w k,.val<|kQ (eK w wd k) (ed w wd k)<|T k,.val<|.lst<|jg q (wd k) g,.val<|.lst<|jg r N B,.no]) ?_
  (zv (γ':=[.val (j5 p m w wd T),.val<|.int k,.val L,.val<|.str<|yk<|h9<|w k,.val<|kQ (eK w wd k) (ed w wd k)<|T k,.val<|.lst<|jg q (wd k) g,.val<|.lst<|jg r N B,.val f]) ?_ ?_)))))
 ·simp[TR,z6,Mb,yX,yf,J3,M];rfl
 ·simp[TU,yX,yf,J3,M]
 ·cases hw:w k with
  | true=>
   rw[hw,UJ rfl]at Y;have eq:=Km cz;simp[N9,yX,eq,Y]
  | false=>
   rw[hw,UY ⋯]at Y;have eq:=Km dn;simp[N9,yX,eq,Y]
 ·simp[TV,yX,F,L,as,K,H]
 ·simp[TX,je,P,u,R,Q];rfl
 ·simp[TY,je,L,VV,d,W]
end
def oD(n:Nat):Option Vc->D
 | none=> .el
 | some y=> .tup (zA n y)
theorem aL(U:Pr p)(Y:h<=90)(C:w<=90)(f:UV)(b:Vc)(O : ∀i,i<h->0<=b i/\b i<p) :
 ∃o:Option Vc,vE [.int p,kQ h w f,.tup (zA h b)]=bX (.val<|oD w o)/\(∀x,o=bX x->(∀j,0<=x j/\x j<p)/\∀i,i<h->app f w x i%p=b i%p)/\(o=none->¬∃y:Vc,∀i,i<h->app f w y i%p=b i%p):=by
 have n : ∀i,i<h->b i%p=b i:=λi a=>MR (O i a).1 (O i a).2;by_cases I : ∃y:Vc,∀i,i<h->app f w y i%p=b i%p
 ·obtain⟨y,I⟩:=I
  obtain⟨x,e,K,L⟩:=iL U Y C f b y O λi a=>by rw[<- n i a,<- I i a];rfl
  refine⟨bX x,e,λR H=>?_,λz=>by cases z⟩;cases H;exact⟨K,λi a=>by rw[n i a];exact L i a⟩
 ·obtain⟨r,B,l,s,M,E,P,A,Q,d⟩:=J9 U Y C f b
  have m:s<r:=by
   refine NC λm=>I ?_;have J:s=r:=by omega
   subst J;refine⟨V7 w B l s,λi a=>?_⟩;have t:=ZP M ((E<|aug w f b i).mpr (.gen ⟨i,a,rfl⟩)) w ⋯;have F:aug w f b i w=b i:=by simp[aug]
   rw[F]at t;rw[t];congr 1;unfold app V7;rw[zx (g:=λj=>zh (λk=>f i j*(if l k=j then B k w else 0)) s) λj _=>(zY _ _ _).symm,jT];refine zx λk u=>?_;rw[zR (i:=l k) (A k u) λj N G=>by rw[UY (MD G)];simp,UJ rfl];simp only[aug,UJ (A k u)]
  rw[UJ m]at d;exact⟨none,d,nofun,λ_=>I⟩
section
variable{wd:UX}{m k:Nat}{p:Int}{w:UK}{T:UW}
theorem mL:xF=jj 4 (zQ E2<|zQ N3 N4):=rfl
theorem Kn(b:Bool):hG (.str (yk (h9 b))) (.str "l")=bX (.bl b):=by cases b<;>kernel_rfl
theorem Yx(I:Pr p)(C : ∀k,wd k<=8)(J : ∀i j,i<eK w wd k->j<ed w wd k->0<=T k i j/\T k i j<p)(u:Vc)(L : ∀i,i<wd k->0<=u i/\u i<p) :
 ∃o:Option Vc,xF [.int p,Zh w wd T k,.tup (zA (wd k) u)]=bX (.val<|oD (wd<|k+1) o)/\(∀y,o=bX y->∀c,c<wd (k+1)->0<=y c/\y c<p)/\
  (w k=dn->(o=none->∀c,c<wd (k+1)->app (T k) (wd k) u c%p=0)/\∀y,o=bX y->(∀c,c<wd (k+1)->app (T k) (wd k) u c%p=y c%p)/\∃c,c<wd (k+1)/\y c%p≠0)/\
  (w k=cz->(o=none->¬∃y:Vc,∀c,c<wd k->app (T k) (wd<|k+1) y c%p=u c%p)/\∀y,o=bX y->∀c,c<wd k->app (T k) (wd<|k+1) y c%p=u c%p):=by
 have F:=jm;have G:=I.le;have E:=C k;have B:=C<|k+1;rw[mL];cases hw:w k with
 | true=>
  have b:eK w wd k=wd k:=by unfold eK;rw[hw];rfl
  have O:ed w wd k=wd (k+1):=by unfold ed;rw[hw];rfl
  obtain⟨o,r,a,d⟩:=aL I (h:=wd k) (w:=wd<|k+1) ⋯ ⋯ (T k) u L;refine⟨o,?_,λy e c _=>(a y e).1 c,nofun,λ_=>⟨d,λy e=>(a y e).2⟩⟩;refine jk ?_;have U:=Kn cz;have t:E2 (z6 4 [.int p,Zh w wd T k,.tup (zA (wd k) u)])=bX (.ret<|.val<|oD (wd<|k+1) o):=by simp[E2,z6,Mb,yf,hw,U,b,O,r]
  rw[jC,t];rfl
 | false=>
  have b:eK w wd k=wd (k+1):=by unfold eK;rw[hw];rfl
  have O:ed w wd k=wd k:=by unfold ed;rw[hw];rfl
  rw[b,O]at J;have Y:=aw (p:=p) (h:=wd<|k+1) (w:=wd k) .T (T k) u I.pos ⋯ ⋯ λi j x A=>by have:=J i j x A;omega
  simp only[p9]at Y;have U:=Kn dn;have n:=Wk (λi=>zh (λj=>T k i j*u j) (wd k)%p)<|wd<|k+1;by_cases f : ∃c,c<wd (k+1)/\zh (λj=>T k c j*u j) (wd k)%p≠0
  ·refine⟨bX λi=>zh (λj=>T k i j*u j) (wd k)%p,?_,(λy e c _=>by cases e;exact⟨MF _ (by have:=I.pos;omega),Mp _ I.pos⟩),λ_=>⟨nofun,(λy e=>by cases e;exact⟨(λc _=>by rw[MZ];rfl),(by obtain⟨c,a,d⟩:=f;exact⟨c,a,(by rw[MZ];exact d)⟩)⟩)⟩,nofun⟩
   refine jk<|zv (γ':=[.val (.int p),.val<|Zh w wd T k,.val<|.tup<|zA (wd k) u,.no]) ?_ (zv (γ':=[.val (.int p),.val<|Zh w wd T k,.val<|.tup<|zA (wd k) u,.val (.tup<|zA (wd<|k+1) λi=>zh (λj=>T k i j*u j) (wd k)%p)]) ?_ ?_)
   ·simp[E2,z6,Mb,yf,hw,U]
   ·simp[N3,yf,b,O,Y]
   ·have g:(LW<|wd<|k+1).any (λi=>(zh (λj=>T k i j*u j) (wd k)%p) != 0)=cz:=by
     obtain⟨c,a,d⟩:=f;exact Td.mpr ⟨c,Ma.mpr a,by simpa using d⟩
    have l:uL (zm 3) [.val (.int p),.val<|Zh w wd T k,.val<|.tup<|zA (wd k) u,.val (.tup<|zA (wd<|k+1) λi=>zh (λj=>T k i j*u j) (wd k)%p)]=bX (.bl cz):=by show((XG _).map λs=>D.bl<|s.any id)=_;rw[n];show bX (D.bl<|((LW<|wd<|k+1).map λi=>(zh (λj=>T k i j*u j) (wd k)%p) != 0).any id)=_;rw[List.any_map];rw[show(id∘λi=>(zh (λj=>T k i j*u j) (wd k)%p) != 0)=λi=>(zh (λj=>T k i j*u j) (wd k)%p) != 0 from rfl,g]
    unfold N4;simp only[J5,ph,Hx,l];rfl
  ·refine⟨none,?_,nofun,λ_=>⟨λ_ c m=>NC λz=>f ⟨c,m,z⟩,nofun⟩,nofun⟩
   refine jk<|zv (γ':=[.val (.int p),.val<|Zh w wd T k,.val<|.tup<|zA (wd k) u,.no]) ?_ (zv (γ':=[.val (.int p),.val<|Zh w wd T k,.val<|.tup<|zA (wd k) u,.val (.tup<|zA (wd<|k+1) λi=>zh (λj=>T k i j*u j) (wd k)%p)]) ?_ ?_)
   ·simp[E2,z6,Mb,yf,hw,U]
   ·simp[N3,yf,b,O,Y]
   ·have g:(LW<|wd<|k+1).any (λi=>(zh (λj=>T k i j*u j) (wd k)%p) != 0)=dn:=SU.mpr λc m z=>f ⟨c,Ma.mp m,by simpa using z⟩
    have l:uL (zm 3) [.val (.int p),.val<|Zh w wd T k,.val<|.tup<|zA (wd k) u,.val (.tup<|zA (wd<|k+1) λi=>zh (λj=>T k i j*u j) (wd k)%p)]=bX (.bl dn):=by show((XG _).map λs=>D.bl<|s.any id)=_;rw[n];show bX (D.bl<|((LW<|wd<|k+1).map λi=>(zh (λj=>T k i j*u j) (wd k)%p) != 0).any id)=_;rw[List.any_map];rw[show(id∘λi=>(zh (λj=>T k i j*u j) (wd k)%p) != 0)=λi=>(zh (λj=>T k i j*u j) (wd k)%p) != 0 from rfl,g]
    unfold N4;simp only[J5,ph,Hx,l];rfl
end
section
variable{wd:UX}{m k:Nat}{p:Int}{w:UK}{T:UW}
theorem mX(h:1<=n):f6 n (-1)=bX (n - 1):=by unfold f6;rw[UY ⋯,UJ ⋯];congr 1;omega
theorem fF(I:b.s+b.n=k+1)(y:Vc):kN wd (kv k b<|some y)=kN wd b++[D.tup (zA (wd<|k+1) y)]:=by
 unfold kN kv;dsimp only;rw[Nx,Nb];congr 1
 ·refine My λi a=>?_
  have a:=Ma.mp a;rw[UY ⋯]
 ·simp[I]
theorem cN:yj=jj 4 (zQ T9 O2):=rfl
theorem iF(z:1<=b.n)(O:b.s+b.n=k+1)(C:k<=20)(e:xF [.int p,Zh w wd T k,.tup (zA (wd k)<|b.v k)]=bX (.val<|oD (wd<|k+1) o)) :
 yj [.int p,Zh w wd T k,qj wd b]=bX (.val<|qj wd<|kv k b o):=by
 have j:=jm;have f:=mX z;have I:=WS (wd:=wd) (b:=b) (i:=b.n - 1) ⋯;rw[show b.s+(b.n - 1)=k by omega]at I;have h:b.n - 1<b.n:=by omega
 rw[cN];refine jk<|zv (γ':=[.val (.int p),.val<|Zh w wd T k,.val<|qj wd b,.val (oD (wd<|k+1) o)]) ?_ ?_
 ·unfold T9
  have a:cE (zF<|cE (zm 2)<|zy<|.int 1) (iT<|zy<|.int 1) (z6 4 [.int p,Zh w wd T k,qj wd b])=bX (.tup<|zA (wd k)<|b.v k):=by have U : ∀g:Ctx,iT (zy<|.int 1) g=bX (.int (-1)):=λ_=>rfl;simp[z6,Mb,f,U];exact I
  simp only[vn,V5,qg,au,a];simp[z6,Mb,e]
 ·cases o with
  | none=>simp[O2,oD,Cz,kv]
  | some y=>
   have d:b.n+1<=lim:=by omega
   have Y:=fF (wd:=wd) O y;simp[O2,oD,Cz,d,jJ];unfold qj;rw[Y];rfl
noncomputable def hJ(p:Int)(w:UK)(wd:UX)(T:UW)(k:Nat)(L:List Vc):Prop:=
 if w k=cz then ∃q K l s,L=(LW q).map K/\hL p (wd<|k+1) q K l/\(∀v,Span p (wd<|k+1) (eA q K) v↔DJ p (wd k) (wd<|k+1) (T k) v)/\Rk p (wd k) (wd<|k+1) (λj i=>T k i j) s/\q+s=wd (k+1)
 else ∃r B l,hL p (wd<|k+1) r B l/\(∀v,Span p (wd<|k+1) (eA r B) v↔Span p (wd<|k+1) (eA (wd k) λj i=>T k i j) v)/\L=((LW<|wd<|k+1).filter λ(c:Nat)=> !decide ((c:Int)∈(LW r).map λj=>((l j:Nat):Int))).map jB
theorem tw:yG=jj 3 (zQ H9<|zQ TL TM):=rfl
theorem Xs(l:UX) : ∀L:List Nat,vL (L.map λj=>D.int ((l j:Nat):Int))=bX (L.map λj=>((l j:Nat):Int))
 | []=>rfl
 | j::L=>by simp[vL,Xs l L]
theorem dH(I:hL p n r B l):r<=n:=by
 have mono : ∀k,k<r->k<=l k:=by
  intro k
  induction k with
  | zero=>intro _;omega
  | succ k U=>intro Y;have:=U ⋯;have:=I.mono k (k+1) ⋯ Y;omega
 cases r with
 | zero=>omega
 | succ O=>have:=mono O ⋯;have:=I.lt O ⋯;omega
theorem gk(n:Nat):xl (jg n n λi j=>if i=j then 1 else 0)=(LW n).map λ(i:Nat)=>D.tup [.int i,.tup (zA n<|jB i)]:=by unfold xl jg;simp only[Mq,MQ];refine My λi a=>?_;have a:=Ma.mp a;simp[a];rfl
theorem Yy(C:Pr p)(z : ∀k,wd k<=8) : ∃L:List Vc,hJ p w wd T k L/\yG [.int p,Zh w wd T k]=bX (.own<|L.map λy=>D.tup<|zA (wd<|k+1) y):=by
 have J:=jm;have H:=z k;have as:=z<|k+1;rw[tw];unfold hJ;cases hw:w k with
 | true=>
  have a:eK w wd k=wd k:=by unfold eK;rw[hw];rfl
  have U:ed w wd k=wd (k+1):=by unfold ed;rw[hw];rfl
  obtain⟨q,K,l,s,e,I,f,F,u⟩:=yH C (h:=wd k) (w:=wd<|k+1) ⋯ ⋯<|T k;refine⟨(LW q).map K,by rw[UJ rfl];exact⟨q,K,l,s,rfl,I,f,F,u⟩,jk ?_⟩;have Y:=Kn cz;have d:H9 (z6 3 [.int p,Zh w wd T k])=bX (.ret<|.own<|jg q (wd<|k+1) K):=by simp[H9,z6,Mb,yf,hw,Y,a,U,e]
  rw[jC,d,MJ];rfl
 | false=>
  have a:eK w wd k=wd (k+1):=by unfold eK;rw[hw];rfl
  have U:ed w wd k=wd k:=by unfold ed;rw[hw];rfl
  obtain⟨r,B,l,e,I,f⟩:=XA C (h:=wd<|k+1) (w:=wd k) ⋯ ⋯<|T k;have M:=dH I;have x:r<=lim:=by omega
  have b:wd (k+1)<=lim:=by omega
  refine⟨_,by rw[UY ⋯];exact⟨r,B,l,I,f,rfl⟩,?_⟩;have Y:=Kn dn;have A:zW (.nm 0) js (zH qK<|zb (ze 0) zI) [.no] (jg r (wd<|k+1) B)=bX ((LW r).map λj=>D.int ((l j:Nat):Int)):=by unfold jg;refine zB _ _ λj O=>zD rfl rfl ?_;have O:=Ma.mp O;have e:=vt b (B j) (I.lt j O) (λi g=>I.md j i O g) (by rw[I.one j O];decide);simp[e]
  have E:zW (.tp [0,1]) (sB<|XQ (ze 0)<|zm 2) (ze 1) [.no,.no,.val (.lst<|(LW r).map λj=>D.int ((l j:Nat):Int))] ((LW<|wd<|k+1).map λ(i:Nat)=>D.tup [.int i,.tup (zA (wd<|k+1)<|jB i)]) =
   bX (((LW<|wd<|k+1).filter λ(c:Nat)=> !decide ((c:Int)∈(LW r).map λj=>((l j:Nat):Int))).map λ(i:Nat)=>D.tup<|zA (wd<|k+1)<|jB i):=by
   refine jl (λ(c:Nat)=> !decide ((c:Int)∈(LW r).map λj=>((l j:Nat):Int))) (λ(i:Nat)=>D.tup<|zA (wd<|k+1)<|jB i) _ λi g=>⟨_,rfl,?_,λ_=>rfl⟩;have G:=Xs l<|LW r;show(XQ (ze 0) (zm 2) [.val (.int i),_,.val (.lst<|(LW r).map λj=>D.int ((l j:Nat):Int))]).bind wb=_;show((vL<|(LW r).map λj=>D.int ((l j:Nat):Int)).map λl=>D.bl<|!decide ((i:Int)∈l)).bind wb=_;rw[G];rfl
  have d:=vp (n:=wd<|k+1) b;refine jk<|zv (γ':=[.val (.int p),.val<|Zh w wd T k,.no]) ?_ (zv (γ':=[.val (.int p),.val<|Zh w wd T k,.val (.lst<|(LW r).map λj=>D.int ((l j:Nat):Int))]) ?_ ?_)
  ·simp[H9,z6,Mb,yf,hw,Y]
  ·simp[TL,je,yf,a,U,e,x,A]
  ·have m:jx (kQ (eK w wd k) (ed w wd k)<|T k)=bX (.T,[.int (wd (k+1):Nat),.int (wd k:Nat),.tup (jg (wd<|k+1) (wd k)<|T k)]):=by rw[a,U];rfl
   have o:jx (kQ (wd<|k+1) (wd<|k+1) λi j=>if i=j then 1 else 0)=bX (.T,[.int (wd (k+1):Nat),.int (wd (k+1):Nat),.tup (jg (wd<|k+1) (wd<|k+1) λi j=>if i=j then 1 else 0)]):=rfl;have t:=gk<|wd<|k+1;simp[TM,je,yf,m,d,o,t,b];rw[E];exact congrArg bX (congrArg (List.map _)<|SR λc _=>by simp)
end
section
variable{wd:UX}{m k r N:Nat}{p:Int}{w:UK}{T:UW}{B:Nat->Vc}{l:UX}{A:Nat->f9}
theorem oQ(O:hL p N r B l){j:Nat}(I:j<r):l8 r l (l j)=bX j:=by
 cases h:l8 r l (l j)with
 | none=>exact absurd rfl<|ZX h j I
 | some i=>
  obtain⟨a,b⟩:=xI h;rw[WO O.mono a I b]
theorem VM{a b:List Nat}(z:a.Nodup)(I:b.Nodup)(h : ∀x,x∈a↔x∈b):a.length=b.length:=((List.perm_ext_iff_of_nodup z I).mpr h).length_eq
theorem Ks(I:hL p N r B l):(LW N).countP (λi=>(l8 r l i).isSome)=r:=by
 rw[NU];have e:((LW N).filter λi=>(l8 r l i).isSome).length=((LW r).map l).length:=by
  refine VM (RT.sublist List.filter_sublist) ?_ λx=>?_
  ·rw[List.nodup_iff_pairwise_ne,PR]
   refine Rh (λ{a b} k O h=>?_)<|P5 (n:=r);have:=I.mono a b h<|Ma.mp O;omega
  ·rw[Mu,MM]
   constructor
   ·rintro⟨d,f⟩
    obtain⟨j,U⟩:=Oh.mp f;obtain⟨Y,g⟩:=xI U;exact⟨j,Ma.mpr Y,g⟩
   ·rintro⟨j,d,f⟩
    have d:=Ma.mp d;subst f;exact⟨Ma.mpr<|I.lt j d,by rw[oQ I d];rfl⟩
 rw[e];simp
theorem gF(q:UK)(N:Nat):(LW N).countP q+(LW N).countP (λi=> !q i)=N:=by
 have:=SM q (l:=LW N);rw[MQ]at this;rw[this];congr 1
 ·rw[<- this]
 ·rw[<- this]
  exact OF λi _=>by simp
theorem Gj(I : ∀j,j<N->(A j).has k=cz)(t:Vc)(c:Nat):o8 p A N t k c%p=app (λi j=>(A j).v k i) N t c%p:=by unfold o8 app;rw[MZ];congr 1;exact zx λj O=>by rw[UJ (I j O),Nu]
theorem Zi(I : ∀j,j<N->(A j).has k=cz)(h:l8 r l i=bX j)(c:Nat):(hB p A N r B l i).v k c%p=app (λi j=>(A j).v k i) N (B j) c%p:=by unfold hB;rw[h];exact Gj I (B j) c
theorem XJ(h:l8 r l i=none):hB p A N r B l i=A i:=by unfold hB;rw[h]
theorem bF(hp:Pr p)(M : ∀k,wd k<=8)(S : ∀j,j<wd k->(A j).has k=cz)(hs : ∀v:Vc,∃t,∀i,i<wd k->v i%p=app (λi j=>(A j).v k i) (wd k) t i%p)
 (L:hL p (wd k) r B l) (hW : ∀t,Span p (wd k) (eA r B) t↔uH p w wd T k (app (λi j=>(A j).v k i) (wd k) t)) {J:List Vc} (C:hJ p w wd T k J) {nx:Nat->Option Vc}
 (hr : ∀i,i<wd k->w k=dn->(nx i=none->∀c,c<wd (k+1)->app (T k) (wd k) ((hB p A (wd k) r B l i).v k) c%p=0)/\∀y,nx i=bX y->(∀c,c<wd (k+1)->app (T k) (wd k) ((hB p A (wd k) r B l i).v k) c%p=y c%p)/\∃c,c<wd (k+1)/\y c%p≠0)
 (Z : ∀i,i<wd k->w k=cz->(nx i=none->¬∃y:Vc,∀c,c<wd k->app (T k) (wd<|k+1) y c%p=(hB p A (wd k) r B l i).v k c%p)/\∀y,nx i=bX y->∀c,c<wd k->app (T k) (wd<|k+1) y c%p=(hB p A (wd k) r B l i).v k c%p) :
 (∀y,y∈J->∀c,c<wd (k+1)->0<=y c/\y c<p)/\(∀y,y∈J->w k=cz->∀c,c<wd k->app (T k) (wd<|k+1) y c%p=0)/\
   (∀v,Span p (wd<|k+1) (λg=>(∃i,i<wd k/\nx i=bX g)\/g∈J) v)/\(LW<|wd k).countP (λi=>(nx i).isSome)+J.length=wd (k+1):=by
 have two:=hp.two;cases hw:w k with
 | false=>
  have u : ∀t,Span p (wd k) (eA r B) t↔DJ p (wd<|k+1) (wd k) (T k) (app (λi j=>(A j).v k i) (wd k) t):=λt=>by have:=hW t;unfold uH at this;rw[hw,UY ⋯]at this;exact this
  unfold hJ at C;rw[hw,UY ⋯]at C;obtain⟨o,B2,n,H,hI,U⟩:=C;obtain⟨g1,g2,g3,G⟩:=Aj hp (M k) (M<|k+1) hs L u H hI;have b5 : ∀c,c<wd (k+1)->(∀j,j<o->n j≠c)->jB c∈J:=λc O C=>by rw[U];refine MM.mpr ⟨c,Mu.mpr ⟨Ma.mpr O,?_⟩,rfl⟩;simp only[OH,decide_eq_false_iff_not,MM,Ma];rintro⟨j,f,h⟩;exact C j f ⋯
  have on : ∀i,i<wd k->(nx i).isSome=(l8 r l i).isNone:=λi d=>by
   cases b:l8 r l i with
   | none=>
    obtain⟨c,f,h⟩:=g2 i d<|ZX b;cases I:nx i with
    | some y=>rfl
    | none=>
     have:=(hr i d hw).1 I c f;rw[XJ b]at this;exact absurd this h
   | some j=>
    obtain⟨f,h⟩:=xI b;cases I:nx i with
    | none=>rfl
    | some y=>
     obtain⟨e,c,N,h4⟩:=(hr i d hw).2 y I;have z:=g1 j f c N;rw[<- xm (λa _=>Zi (B:=B) (r:=r) (l:=l) S b a) c,e c N]at z;exact absurd z h4
  refine⟨λy I c O=>?_,(λy I z=>by cases z),λv=>G _ (λc O x=>?_) (λc O x=> .gen (.inr<|b5 c O x)) v,?_⟩
  ·rw[U]at I
   obtain⟨i,_,rfl⟩:=MM.mp I;unfold jB;split<;>omega
  ·have b:l8 r l c=none:=by
    cases b:l8 r l c with
    | none=>rfl
    | some j=>exact absurd (xI b).2 (x j (xI b).1)
   have m:=on c O;rw[b]at m;obtain⟨y,I⟩:=Oh.mp m;refine(Span.gen<|.inl ⟨c,O,I⟩).congr λi d=>?_;have:=((hr c O hw).2 y I).1 i d;rw[XJ b]at this;exact this
  ·have F:(LW<|wd k).countP (λi=>(nx i).isSome)=(LW<|wd k).countP λi=> !(l8 r l i).isSome:=OF λi d=>by
    rw[on i (Ma.mp d)];cases l8 r l i<;>simp
   have X:=gF (λi=>(l8 r l i).isSome)<|wd k;rw[Ks L]at X;have e3:=gF (λi=>(l8 o n i).isSome)<|wd<|k+1;rw[Ks H]at e3;have e4:J.length=(LW<|wd<|k+1).countP λi=> !(l8 o n i).isSome:=by
    rw[U,Mq,<- NU];refine OF λi d=>?_;cases b:l8 o n i with
    | none=>
     have:=ZX b;simp only[OH,decide_eq_false_iff_not,MM,Ma];constructor
     ·intro _;rfl
     ·rintro _ ⟨j,f,h⟩
      exact this j f ⋯
    | some j=>
     obtain⟨f,h⟩:=xI b;simp only[OH,decide_eq_false_iff_not,MM,Ma];constructor
     ·intro z;exact absurd ⟨j,f,by rw[h]⟩ z
     ·intro z;cases z
   rw[F,e4];omega
 | true=>
  have u : ∀t,Span p (wd k) (eA r B) t↔Span p (wd k) (eA (wd<|k+1) λj i=>T k i j) (app (λi j=>(A j).v k i) (wd k) t):=λt=>by have:=hW t;unfold uH at this;rw[hw,UJ rfl]at this;exact this
  unfold hJ at C;rw[hw,UJ rfl]at C;obtain⟨q,K,lK,s,U,P,as,Q,R⟩:=C;obtain⟨g1,g2,g3,G⟩:=Ak hp (M k) (M<|k+1) hs L u as Q R;have on : ∀i,i<wd k->(nx i).isSome=(l8 r l i).isSome:=λi d=>by
   cases b:l8 r l i with
   | none=>
    cases I:nx i with
    | none=>rfl
    | some y=>
     have:=(Z i d hw).2 y I;rw[XJ b]at this;exact absurd ⟨y,this⟩<|g2 i d<|ZX b
   | some j=>
    obtain⟨f,h⟩:=xI b;cases I:nx i with
    | some y=>rfl
    | none=>
     obtain⟨y,W⟩:=g1 j f;exact absurd ⟨y,λc O=>by rw[W c O,Zi S b c]⟩<|(Z i d hw).1 I
  refine⟨λy I c O=>?_,λy I _ c O=>?_,λv=>G _ (λj=>(nx<|l j).getD λ_=>0) (λj Y=>?_) (λj Y=>?_) v,?_⟩
  ·rw[U]at I
   obtain⟨j,Y,rfl⟩:=MM.mp I;exact P.iW j c (Ma.mp Y) O
  ·rw[U]at I
   obtain⟨j,Y,rfl⟩:=MM.mp I;exact(as<|K j).mp (.gen ⟨j,Ma.mp Y,rfl⟩) c O
  ·have b:=oQ L Y
   have E:=L.lt j Y;have m:=on (l j) E;rw[b]at m;obtain⟨y,I⟩:=Oh.mp m;rw[I];refine⟨.gen<|.inl ⟨l j,E,I⟩,λc O=>?_⟩;have:=(Z (l j) E hw).2 y I c O;rw[Zi S b c]at this;exact this
  ·refine .gen (.inr ?_)
   rw[U];exact MM.mpr ⟨j,Ma.mpr Y,rfl⟩
  ·have F:(LW<|wd k).countP (λi=>(nx i).isSome)=(LW<|wd k).countP λi=>(l8 r l i).isSome:=OF λi d=>by
    rw[on i (Ma.mp d)]
   rw[F,Ks L,U,Mq,MQ];omega
end
section
variable{wd:UX}{m k:Nat}{p:Int}{w:UK}{T:UW}
theorem gi:QC=jj 9 (zQ S7<|zQ S8<|zQ S9<|zQ Ta<|zQ Tb<|zQ Tw M7):=rfl
theorem Gg(y:Vc):qj wd (oe k y) = .tup [.int ((k:Int)+1),.tup [.tup (zA (wd<|k+1) y)]]:=by unfold qj oe kN;simp
theorem nq(J:Pr p)(O : ∀k,wd k<=8)(hm:m<=5)(S:k<m)(hT : ∀i j,i<eK w wd k->j<ed w wd k->0<=T k i j/\T k i j<p){C:List f9}(I:B6 p w wd T k C)(Z:C.length<=100) :
 ∃M,B6 p w wd T (k+1) M/\M.length<=C.length+8/\QC [j5 p m w wd T,.int k,.lst (C.map<|qj wd)]=bX (.val<|.lst<|M.map<|qj wd):=by
 have hl:=jm;have X:=J.pos;have Q:C.length<=lim:=by omega
 have G:(C.filter λb=>b.has k).length=wd k:=by rw[<- NU];exact I.ct k<|Mf _
 let A:Nat->f9:=λj=>(C.filter λb=>b.has k).getD j ic;have R:(C.filter λb=>b.has k)=(LW<|wd k).map A:=by rw[<- G];exact(ja ic _).symm
 have W : ∀j,j<wd k->A j∈C/\(A j).has k=cz:=λj U=>by
  have:A j∈C.filter λb=>b.has k:=by show(C.filter λb=>b.has k).getD j ic∈_;rw[Mc,LZ ⋯];exact NQ _
  have:=Mu.mp this;exact⟨this.1,by simpa using this.2⟩
 have H : ∀j,j<wd k->oR p w wd T k (A j):=λj U=>I.ok _ (W j U).1;have hO : ∀i c,i<c->c<wd k->Ord w (A i) (A c):=λi c d u=>by have:=Oz.mp I.od i c ⋯ ⋯ d;show Ord w ((C.filter λb=>b.has k).getD i ic) ((C.filter λb=>b.has k).getD c ic);rw[Mc,LZ ⋯,Mc,LZ ⋯];exact this
 have F : ∀j,j<wd k->(A j).has k=cz:=λj U=>(W j U).2;obtain⟨r,B,l,K,hW,eS⟩:=aM (T:=T) (w:=w) (A:=A) (N:=wd k) (k:=k) J (λj U=>by have:=(H j U).le;omega) F S (O k) hm O λj rm i U hh a=>(H j U).iW rm i hh a;have i6 : ∀i,i<wd k->oR p w wd T k (hB p A (wd k) r B l i):=λi a=>oh X K H F hO a;have ap : ∀i,i<wd k->(hB p A (wd k) r B l i).has k=cz:=λi a=>by rw[Vi];exact F i a
 have ex : ∀i,∃o:Option Vc,i<wd k->(xF [.int p,Zh w wd T k,.tup (zA (wd k)<|(hB p A (wd k) r B l i).v k)]=bX (.val<|oD (wd<|k+1) o)/\(∀y,o=bX y->∀c,c<wd (k+1)->0<=y c/\y c<p)/\
  (w k=dn->(o=none->∀c,c<wd (k+1)->app (T k) (wd k) ((hB p A (wd k) r B l i).v k) c%p=0)/\∀y,o=bX y->(∀c,c<wd (k+1)->app (T k) (wd k) ((hB p A (wd k) r B l i).v k) c%p=y c%p)/\∃c,c<wd (k+1)/\y c%p≠0)/\
  (w k=cz->(o=none->¬∃y:Vc,∀c,c<wd k->app (T k) (wd<|k+1) y c%p=(hB p A (wd k) r B l i).v k c%p)/\∀y,o=bX y->∀c,c<wd k->app (T k) (wd<|k+1) y c%p=(hB p A (wd k) r B l i).v k c%p)):=λi=>by
  by_cases a:i<wd k
  ·obtain⟨o,h⟩:=Yx (T:=T) (w:=w) (k:=k) J O hT ((hB p A (wd k) r B l i).v k) λc hc=>(i6 i a).iW k c (ap i a) hc
   exact⟨o,λ_=>h⟩
  ·exact⟨none,λz=>absurd z a⟩
 obtain⟨nx,s⟩:=Po ex;obtain⟨Y,hN,eN⟩:=Yy (T:=T) (w:=w) (k:=k) J O;have hs : ∀v:Vc,∃t,∀i,i<wd k->v i%p=app (λi j=>(A j).v k i) (wd k) t i%p:=λv=>by
  have hv:Span p (wd k) (eA (wd k) λj=>(A j).v k) v:=(I.sp k (Mf _) v).le λg hg=>by obtain⟨b,d,u,rfl⟩:=hg;have as:b∈C.filter λb=>b.has k:=Mu.mpr ⟨d,by simpa using u⟩;rw[R]at as;obtain⟨j,U,rfl⟩:=MM.mp as;exact .gen ⟨j,Ma.mp U,rfl⟩
  obtain⟨t,ht⟩:=K6 hv;exact⟨t,λi a=>by rw[ht i a];unfold app;rw[xy]⟩
 obtain⟨f1,f2,f3,f4⟩:=bF (T:=T) (w:=w) (A:=A) J O F hs K hW hN (nx:=nx) (λi a=>(s i a).2.2.1) λi a=>(s i a).2.2.2;refine⟨vR p k w C A (wd k) r B l nx Y,gd X I G (λ_=>rfl) K (λi y a e=>(s i a).2.1 y e) f1 (λi a e f=>((s i a).2.2.1 f).1 e) (λi y a e f=>(((s i a).2.2.1 f).2 y e).1) (λi y a e f=>((s i a).2.2.2 f).2 y e) f2 f3 f4,?_,?_⟩
 ·have d:(C.filter λb=> !b.has k).length+wd k=C.length:=by
   have:=SM (λb:f9=>b.has k) (l:=C);rw[<- G,<- NU,<- NU,this];have e:C.countP (λb=> !b.has k)=C.countP λb=>decide (¬b.has k=cz):=OF λb _=>by simp
   rw[e];omega
  have u:=O<|k+1;unfold vR;rw[MW];cases w k<;>simp<;>omega
 ·
  let L:D:= .lst (C.map<|qj wd);have e3:zW (.nm 0) (k9<|sB<|zH jV<|zb (ze 0)<|zb (ze 1) zI) (ze 0) [.no,.val (.int k)] (C.map<|qj wd)=bX ((C.filter λb=> !b.has k).map (qj wd)):=by refine jl (g:=qj wd) (λb=> !b.has k) (qj wd) C λb P=>⟨[.val (qj wd b),.val (.int k)],rfl,?_,λ_=>by rfl⟩;have e:=yB (wd:=wd) (b:=b) (by have:=(I.ok b P).le;omega) k;simp[e]
  have e4:zW (.nm 0) (sB<|zH jV<|zb (ze 0)<|zb (ze 1) zI) (ze 0) [.no,.val (.int k)] (C.map<|qj wd)=bX ((LW<|wd k).map λj=>qj wd<|A j):=by
   have:((C.filter λb=>b.has k).map (qj wd))=(LW<|wd k).map λj=>qj wd (A j):=by rw[R,MJ];rfl
   rw[<- this];refine jl (g:=qj wd) (λb=>b.has k) (qj wd) C λb P=>⟨[.val (qj wd b),.val (.int k)],rfl,?_,λ_=>by rfl⟩;have e:=yB (wd:=wd) (b:=b) (by have:=(I.ok b P).le;omega) k;simp[e]
  have e5:zW (.nm 0) js (zH yj<|zb (ze 1)<|zb (ze 2)<|zb (ze 0) zI) [.no,.val<|.int p,.val (Zh w wd T k)] ((LW<|wd k).map λi=>qj wd<|hB p A (wd k) r B l i)=bX ((LW<|wd k).map λi=>qj wd<|kv k (hB p A (wd k) r B l i)<|nx i):=by refine zB _ _ λi a=>zD rfl rfl ?_;have a:=Ma.mp a;have d:=n3.mp<|ap i a;have e:=iF (p:=p) (i6 i a).n1 (by have:=(i6 i a).le;omega) (show k<=20 by omega) (s i a).1;simp[e]
  have e6:zW (.nm 0) js (qF<|zb (zE jJ (ze 1)<|zy<|.int 1)<|zb (qF<|zb (ze 0) zI) zI) [.no,.val (.int k)] (Y.map λy=>D.tup<|zA (wd<|k+1) y)=bX ((Y.map<|oe k).map (qj wd)):=by rw[MJ];refine zB _ _ λy hy=>zD rfl rfl ?_;show _=bX (qj wd<|oe k y);rw[Gg];rfl
  have bx:Y.length<=lim:=by have:=O<|k+1;omega
  have c0:wd k<=lim:=by have:=O k;omega
  let n:D:= .lst ((C.filter λb=> !b.has k).map (qj wd));let E:D:= .lst ((LW<|wd k).map λi=>qj wd<|hB p A (wd k) r B l i);let x:D:= .lst ((LW<|wd k).map λi=>qj wd<|kv k (hB p A (wd k) r B l i)<|nx i);let Ne:D:= .lst ((Y.map<|oe k).map (qj wd));rw[gi];refine jk (zv (γ':=[.val (j5 p m w wd T),.val<|.int k,.val L,.val<|.int p,.no,.no,.no,.no,.no]) ?_
   (zv (γ':=[.val (j5 p m w wd T),.val<|.int k,.val L,.val<|.int p,.val<|Zh w wd T k,.no,.no,.no,.no]) ?_
   (zv (γ':=[.val (j5 p m w wd T),.val<|.int k,.val L,.val<|.int p,.val<|Zh w wd T k,.val n,.no,.no,.no]) ?_
   (zv (γ':=[.val (j5 p m w wd T),.val<|.int k,.val L,.val<|.int p,.val<|Zh w wd T k,.val n,.val E,.no,.no]) ?_
   (zv (γ':=[.val (j5 p m w wd T),.val<|.int k,.val L,.val<|.int p,.val<|Zh w wd T k,.val n,.val E,.val x,.no]) ?_
   (zv (γ':=[.val (j5 p m w wd T),.val<|.int k,.val L,.val<|.int p,.val<|Zh w wd T k,.val n,.val E,.val x,.val Ne]) ?_ ?_))))))
  ·simp[S7,z6,Mb,yX,L]
  ·simp[S8,yX,J3,S]
  ·simp[S9,je,L,Q,e3,n]
  ·simp[Ta,je,L,Q,e4,eS,E]
  ·simp[Tb,je,E,c0,e5,x]
  ·simp[Tw,je,eN,bx]
   rw[e6];simp[Ne]
  ·have c3:(C.filter λb=> !b.has k).length<=100:=Np (OV _ _) Z
   have q1:=O k;have q2:=O<|k+1;cases f:w k with
   | false=>
    have eq:=Km dn;have d:Y.length+wd k<=lim:=by omega
    have u:(C.filter λb=> !b.has k).length+(Y.length+wd k)<=lim:=by omega
    simp[M7,yf,f,eq,n,x,Ne,vR,d,u]
   | true=>
    have eq:=Km cz;have d:wd k+Y.length<=lim:=by omega
    have u:(C.filter λb=> !b.has k).length+(wd k+Y.length)<=lim:=by omega
    simp[M7,yf,f,eq,n,x,Ne,vR,d,u]
end
section
variable{wd:UX}{m k:Nat}{p:Int}{w:UK}{T:UW}
def ig(c:Nat):f9:=⟨0,1,λ_=>jB c⟩
theorem tZ(Y:Pr p):B6 p w wd T 0 ((LW<|wd 0).map ig):=by
 have two:=Y.two;have a : ∀b,b∈(LW<|wd 0).map ig ↔ ∃c,c<wd 0/\b=ig c:=λb=>by rw[MM];exact⟨λ⟨c,d,e⟩=>⟨c,Ma.mp d,e.symm⟩,λ⟨c,d,e⟩=>⟨c,Ma.mpr d,e.symm⟩⟩
 have U : ∀c,(ig c).has 0=cz:=λc=>n3.mpr ⟨Mf _,by show 0<0+1;omega⟩;refine⟨λb I=>?_,λr h v=>?_,λr h=>?_,?_⟩
 ·obtain⟨c,O,rfl⟩:=(a b).mp I
  exact⟨Mf _,by show 0+1<=0+1;omega,λr i _ _=>by show 0<=jB c i/\jB c i<p;unfold jB;split<;>omega,λj k=>by omega⟩
 ·have:r=0:=by omega
  subst this;refine(YN (wd 0) v).le λg f=>?_;obtain⟨c,O,rfl⟩:=f;exact .gen ⟨ig c,(a _).mpr ⟨c,O,rfl⟩,U c,rfl⟩
 ·have:r=0:=by omega
  subst this;rw[List.countP_eq_length.mpr λb I=>?_]
  ·simp
  ·obtain⟨c,O,rfl⟩:=(a b).mp I
   exact U c
 ·refine RG _ ?_
  rw[PR];exact Oz.mpr λ_ _ _ _ _=>⟨λz=>absurd z<|Nn 0,λz=>absurd z<|Nn 0⟩
theorem Kz:yJ=jj 3 (zQ M0<|zQ R4 R5):=rfl
def YH(b:f9):Int×Int:=((b.s:Int),((b.s+b.n - 1:Nat):Int))
theorem fL : ∀z:List f9,(∀b,b∈z->1<=b.n/\b.s+b.n<=100)->YG jY (z.map<|qj wd)=bX (z.map YH)
 | [],_=>rfl
 | b::z,h=>by have a:=h b Mn;have e:=Xa (wd:=wd) a.1 a.2;have I:=fL z λb O=>h b<|Mm _ O;simp only[MI,YG,e,I,Me];rfl
def ko(z:List f9):List f9:=(j7<|z.map YH).map λi=>z.getD i ic
theorem Js(z:List f9):(ko z).Perm z:=by have h:=jP<|z.map YH;rw[Mq]at h;have:=h.map λi=>z.getD i ic;rw[ja]at this;exact this
theorem K8(z:List f9):(ko z).map YH=wq (z.map YH):=by unfold ko wq;rw[MJ];refine My λi a=>?_;have h:=jP<|z.map YH;have a:=Ma.mp<|h.mem_iff.mp a;rw[Mq]at a;simp[a]
theorem Vb(O:Pr p)(U : ∀k,wd k<=8)(L:m<=5)(J : ∀k i j,k<m->i<eK w wd k->j<ed w wd k->0<=T k i j/\T k i j<p) :
 ∃z,B6 p w wd T m z/\z.length<=48/\yJ [j5 p m w wd T]=bX (.own<|(ko z).map (qj wd)):=by
 have N:=jm;have M:=U 0;have Y:wd 0<=lim:=by omega
 have C:=vp (n:=wd 0) Y;have t:jx (kQ (wd 0) (wd 0) λi j=>if i=j then 1 else 0)=bX (.T,[.int (wd 0:Nat),.int (wd 0:Nat),.tup (jg (wd 0) (wd 0) λi j=>if i=j then 1 else 0)]):=rfl;have y:zW (.nm 0) js (qF<|zb (zy<|.int 0)<|zb (qF<|zb (ze 0) zI) zI) [.no] (jg (wd 0) (wd 0) λi j=>if i=j then 1 else 0)=bX (((LW<|wd 0).map ig).map (qj wd)):=by rw[MJ];unfold jg;refine zB _ _ λi a=>zD rfl rfl ?_;show bX _=bX (qj wd<|ig i);unfold qj ig kN;simp;rfl
 have x1:M0 (z6 3 [j5 p m w wd T])=bX (.next [.val (j5 p m w wd T),.val<|.lst<|((LW<|wd 0).map ig).map (qj wd),.no]):=by simp[M0,z6,Mb,yX,C,t,je,Y];rw[y];simp
 obtain⟨H,G,z,c,I,u,rfl⟩:=jA (T:= .nm 2) (F:=jy 1<|zH QC<|zb (ze 0)<|zb (ze 2)<|zb (ze 1) zI) (f:=yO<|zF<|cE (zm 0)<|zy<|.int 2)
  (λj γ=>∃z c,B6 p w wd T j z/\z.length<=8*(j+1)/\γ=[.val (j5 p m w wd T),.val<|.lst<|z.map<|qj wd,c]) m ⋯ (γ:=[.val (j5 p m w wd T),.val<|.lst<|((LW<|wd 0).map ig).map (qj wd),.no])
  (by simp[yX]) ⟨_,_,tZ O,by simp;omega,rfl⟩ λs o γ d=>by obtain⟨z,c,I,u,rfl⟩:=d;obtain⟨g,r,K,e⟩:=nq (T:=T) (w:=w) (k:=s) O U L o (J s · · o) I ⋯;refine⟨_,[.val (j5 p m w wd T),.val<|.lst<|g.map<|qj wd,.val (.int s)],rfl,?_,g,_,r,by omega,rfl⟩;simp[e]
 refine⟨z,I,by omega,?_⟩;have B:=fL (wd:=wd) z λb l=>⟨(I.ok b l).n1,by have:=(I.ok b l).le;omega⟩;rw[Kz];refine jk<|zv x1<|zv (show R4 _=_ from G) ?_;have x:z.length<64:=by omega
 unfold R5;have A:dq jY (zm 1) [.val (j5 p m w wd T),.val<|.lst<|z.map<|qj wd,c]=bX ((ko z).map (qj wd)):=by show((YG jY<|z.map<|qj wd).bind λE=>if (z.map<|qj wd).length<64 then bX ((j7 E).map λi=>(z.map<|qj wd).getD i .el)else none)=_;rw[B];simp only[Me,Mq,x,if_true];congr 1;unfold ko;rw[MJ];refine My λi a=>?_;have h:=jP<|z.map YH;have a:=Ma.mp<|h.mem_iff.mp a;rw[Mq]at a;simp[a]
 rw[gW,A];rfl
theorem B6.perm(h:Se.Perm mr)(I:B6 p w wd T k mr):(∀b,b∈Se->oR p w wd T k b)/\(∀r,r<=k->∀v,Span p (wd r) (IH Se r) v)/\∀r,r<=k->Se.countP (λb=>b.has r)=wd r:=by
 refine⟨λb U=>I.ok b<|h.mem_iff.mp U,λr O v=>(I.sp r O v).le λg Y=>?_,λr O=>?_⟩
 ·obtain⟨b,a,d,e⟩:=Y
  exact .gen ⟨b,h.mem_iff.mpr a,d,e⟩
 ·rw[h.countP_eq];exact I.ct r O
end
def m9(bs:List (Int×Int))(k:Nat):Nat:=(jf bs k).length
noncomputable def o6(w:UK)(bs:List (Int×Int))(k i j:Nat):Int:=if (jf bs<|zP w k).getD i 0=(jf bs<|zK w k).getD j 0 then 1 else 0
theorem Wj(I:0<p)(w:UK)(wd:UX)(f g T:UW)(k i j:Nat):0<=vW p w wd f g T k i j/\vW p w wd f g T k i j<p:=
 ⟨MF _ ⋯,Mp _ I⟩
def aI(m:Nat)(wd:UX)(f:UW):List TB:=(LW<|m+1).map λk=>(wd k,wd k,f k)
theorem cO(m wd f):(aI m wd f).map tD=yU (m+1) wd f:=by unfold aI yU;rw[MJ];rfl
section
variable{p:Int}{n:Nat}
theorem ia(z:Pr p)(J:n<=20)(f:UV) : ∃r B l,hL p (n+n) r B l/\(∀v,Span p (n+n) (eA r B) v↔Span p (n+n) (eA n λi=>yS n (f i)<|jB i) v)/\
 kJ [.int p,kQ n n f]=bX (.val<|if lU (.lst<|jg r n B) (.lst<|jg n n jB)=cz then .tup [.int n,.int n,.tup (jg r n λk j=>B k<|n+j)]else .el):=by
 have C:=jm;have I:n<=lim:=by omega
 have o:n+n<=lim:=by omega
 obtain⟨r,B,l,e,O,s⟩:=xR z (show n+n<=100 by omega) I .L λi=>yS n (f i)<|jB i;refine⟨r,B,l,O,s,?_⟩;have U:r<=lim:=by have:r<=n+n:=VD O.mono O.lt;omega
 have Y:=vp (n:=n) I;have a:zW (.tp [0,1]) js (zE jJ (ze 0)<|ze 1) [Cell.no,Cell.no] ((LW n).map λi=>D.tup [.tup (zA n<|f i),.tup (zA n λk=>if i=k then 1 else 0)])=bX (jg n (n+n) λi=>yS n (f i)<|jB i):=by unfold jg;refine zB _ _ λj A=>zD rfl rfl ?_;simp[jJ,o,ZZ];rfl
 have m:=ik n n f λi j=>if i=j then 1 else 0;have u:((n:Int)+(n:Int))=((n+n:Nat):Int):=by omega
 simp only[p9]at e;rw[<- u]at e;have d:zW (.nm 0) js (cf (ze 0) cg<|rr<|ze 1) [Cell.no,Cell.val (.int n)] (jg r (n+n) B)=bX (jg r n B):=by unfold jg;refine zB _ _ λk x=>zD rfl rfl ?_;simp[ah]
 have t:zW (.nm 0) js (cf (ze 0) (rr<|ze 1) cg) [Cell.no,Cell.val (.int n)] (jg r (n+n) B)=bX (jg r n λk j=>B k<|n+j):=by unfold jg;refine zB _ _ λk x=>zD rfl rfl ?_;simp[ag]
 have b:nr (.lst<|jg r n B) (.lst<|jg n n λi j=>if i=j then 1 else 0)=bX (.bl<|!lU (.lst<|jg r n B) (.lst<|jg n n jB)):=by unfold nr;rw[UJ ⟨WM _ _ _,WM _ _ _⟩];rfl
 have g : ∀(h w:Nat) (f:UV),jx (kQ h w f)=bX (.T,[.int h,.int w,.tup (jg h w f)]):=λ_ _ _=>rfl;by_cases q:lU (.lst<|jg r n B) (.lst<|jg n n jB)=cz
 ·rw[q]at b
  rw[UJ q];simp[kJ,jj,z6,jC,g,Y,m,I,U,je,kK,Mb,a,e,d,t,b]
 ·have y:lU (.lst<|jg r n B) (.lst<|jg n n jB)=dn:=by simpa using q
  rw[y]at b;rw[UY q];simp[kJ,jj,z6,jC,g,Y,m,I,U,je,kK,Mb,a,e,d,b]
theorem Wa(U:Pr p)(M:n<=20)(J:ZI p n f g)(L:ZI p n g f)(C : ∀i j,i<n->j<n->0<=g i j/\g i j<p):kJ [.int p,kQ n n f]=bX (.val<|kQ n n g):=by
 obtain⟨r,B,l,E,o,e⟩:=ia U M f;have two:=U.two;have one:=U.one;have x:hL p (n+n) n (λk=>yS n (jB k)<|g k) id:={
  lt:=λk I=>by simp only[id];omega
  mono:=λk m I _=>I
  one:=λk I=>by simp only[id];rw[qa I];exact UJ rfl
  md:=λk j I Y=>by simp only[id]at Y;rw[qa ⋯];exact UY ⋯
  qi:=λk m I F b=>by simp only[id];rw[qa F];exact UY ⋯
  iW:=λk i I a=>by
   rcases Mz i n with z | z
   ·rw[qa z];unfold jB;split<;>omega
   ·obtain⟨j,rfl⟩ : ∃j,i=n+j:=⟨i - n,by omega⟩
    rw[qv];exact C k j I ⋯}
 have t : ∀v,Span p (n+n) (eA n λk=>yS n (jB k)<|g k) v->Span p (n+n) (eA n λi=>yS n (f i)<|jB i) v:=λv O=>O.le λs h=>by
  obtain⟨k,I,d⟩:=h;subst d;refine(Span.sum (u:=λi=>yS n (f i)<|jB i) (λi=>g k i) (m:=n) λi a=> .gen ⟨i,a,rfl⟩).congr λj Y=>?_;rcases Mz j n with z | z
  ·simp only[qa z]
   exact(L k j I z).symm
  ·obtain⟨m,rfl⟩ : ∃m,j=n+m:=⟨j - n,by omega⟩
   simp only[qv];rw[zR (i:=m) ⋯ λi _ b=>by simp[jB,b]];simp[jB]
 have w : ∀v,Span p (n+n) (eA n λi=>yS n (f i)<|jB i) v->Span p (n+n) (eA n λk=>yS n (jB k)<|g k) v:=λv O=>O.le λs h=>by
  obtain⟨i,a,d⟩:=h;subst d;refine(Span.sum (u:=λk=>yS n (jB k)<|g k) (λk=>f i k) (m:=n) λk I=> .gen ⟨k,I,rfl⟩).congr λj Y=>?_;rcases Mz j n with z | z
  ·simp only[qa z]
   rw[zR (i:=j) z λk _ b=>by simp[jB,b]];simp[jB]
  ·obtain⟨m,rfl⟩ : ∃m,j=n+m:=⟨j - n,by omega⟩
   simp only[qv];exact(J i m a ⋯).symm
 obtain⟨rfl,_,u⟩:=J2 U E x (λv O=>w v<|(o v).mp O)<|λv O=>(o v).mpr (t v O);have y:jg r r B=jg r r jB:=W9 λk i I a=>by rw[u k i I ⋯,qa a]
 have A:jg r r (λk j=>B k<|r+j)=jg r r g:=W9 λk j I Y=>by rw[u k (r+j) I ⋯,qv]
 rw[e,y,UJ<|Uv _,A];rfl
end
section
variable{wd:UX}{m k N:Nat}{p:Int}{w:UK}{T:UW}{A:Nat->f9}
def i4(A:Nat->f9)(N r:Nat):List Nat:=(LW N).filter λj=>(A j).has r
def xU(A:Nat->f9)(N r:Nat):Nat->Nat->Int:=λi j=>(A<|(i4 A N r).getD j 0).v r i
theorem VP{r j:Nat}(h:j<(i4 A N r).length):(i4 A N r).getD j 0<N/\(A<|(i4 A N r).getD j 0).has r=cz:=by
 have d:(i4 A N r).getD j 0∈i4 A N r:=by rw[Mc,LZ h];exact NQ _
 obtain⟨a,b⟩:=Mu.mp d;exact⟨Ma.mp a,by simpa using b⟩
theorem KQ(I:Pr p)(C:n<=8)(hs : ∀v:Vc,∃t,∀i,i<n->v i%p=app f n t i%p) : ∃g:UV,ZI p n f g/\ZI p n g f/\∀i j,0<=g i j/\g i j<p:=by
 have Y:=I.pos;obtain⟨t,O⟩:=Po λj=>hs<|jB j;refine⟨λi j=>t j i%p,?_,?_,λi j=>⟨MF _ ⋯,Mp _ Y⟩⟩
 ·intro i j d U
  have e:zh (λk=>f i k*(t j k%p)) n%p=app f n (t j) i%p:=zO λk _=>wJ p _ _;rw[e,<- O j i d];unfold jB hH;simp only[eq_comm]
 ·intro i j d U
  have z : ∀a,a<n->app f n (λb=>zh (λk=>(t k b%p)*f k j) n - jB j b) a%p=0:=λa h=>by
   rw[J4,w4 f U,Oy];have e:app f n (λb=>zh (λk=>(t k b%p)*f k j) n) a%p=f a j%p:=by
    have l:app f n (λb=>zh (λk=>(t k b%p)*f k j) n) a=zh (λk=>f k j*app f n (λb=>t k b%p) a) n:=by rw[<- vj];congr 1;funext b;exact xy ..
    rw[l];have m:zh (λk=>f k j*app f n (λb=>t k b%p) a) n%p=zh (λk=>f k j*jB k a) n%p:=zO λk _=>by rw[Mh,xm (u:=t k) (λb _=>MZ _ _) a,<- O k a h,<- Mh]
    rw[m,zR (f:=λk=>f k j*jB k a) h λk _ r=>by simp[jB,r]];simp[jB]
   rw[e];simp
  have:=JR I C hs z i d;have o:(zh (λk=>(t k i%p)*f k j) n)%p=jB j i%p:=Om.mpr this;show zh (λk=>(t k i%p)*f k j) n%p=hH i j%p;rw[o];unfold jB hH;simp only[eq_comm]
theorem bR:xq=jj 4 (zQ R6<|zQ R7<|zQ R8 R9):=rfl
theorem gQ(J:Pr p)(C : ∀k,wd k<=8)(hm:m<=5)(hT : ∀k i j,k<m->i<eK w wd k->j<ed w wd k->0<=T k i j/\T k i j<p) :
 ∃(N:Nat) (A:Nat->f9) (g:UW),N<=48/\(∀j,j<N->oR p w wd T m (A j))/\(∀r,r<=m->(i4 A N r).length=wd r)/\(∀r,r<=m->ZI p (wd r) (xU A N r) (g r)/\ZI p (wd r) (g r) (xU A N r)/\∀i j,0<=g r i j/\g r i j<p)/\
  wq ((LW N).map λj=>YH<|A j)=((LW N).map λj=>YH<|A j)/\
  xq [j5 p m w wd T]=bX (.val<|wA ((LW N).map λj=>YH<|A j) (aI m wd g)<|aI m wd λr=>xU A N r):=by
 have hl:=jm;obtain⟨a,I,H,F⟩:=Vb (T:=T) (w:=w) J C hm hT;obtain⟨ok,sp,S⟩:=I.perm<|Js a;have K:(ko a).length=a.length:=(Js a).length_eq;let A:Nat->f9:=λj=>(ko a).getD j ic;have Y:ko a=(LW a.length).map A:=by rw[<- K];exact(ja ic _).symm
 have l : ∀j,j<a.length->oR p w wd T m (A j):=λj U=>ok _ (by
  rw[Y];exact MM.mpr ⟨j,Ma.mpr U,rfl⟩)
 have ro : ∀r,r<=m->(i4 A a.length r).length=wd r:=λr O=>by have:=S r O;rw[Y,List.countP_map,NU]at this;exact this
 have M : ∀r,r<=m->∀v:Vc,∃t,∀i,i<wd r->v i%p=app (xU A a.length r) (wd r) t i%p:=λr O v=>by
  have hv:Span p (wd r) (eA (wd r) λj i=>xU A a.length r i j) v:=(sp r O v).le λgg f=>by obtain⟨b,d,u,rfl⟩:=f;rw[Y]at d;obtain⟨j,U,rfl⟩:=MM.mp d;have P:j∈i4 A a.length r:=Mu.mpr ⟨U,by simpa using u⟩;obtain⟨i,G,e⟩:=Ro P;refine .gen ⟨i,by rw[<- ro r O];exact G,?_⟩;funext c;show(A j).v r c=(A<|(i4 A a.length r).getD i 0).v r c;rw[Mc,LZ G];simp[e]
  exact C4.mp hv
 have Q : ∀r,∃g:UV,r<=m->ZI p (wd r) (xU A a.length r) g/\ZI p (wd r) g (xU A a.length r)/\∀i j,0<=g i j/\g i j<p:=λr=>by
  by_cases O:r<=m
  ·obtain⟨g,h⟩:=KQ J (C r) (M r O)
   exact⟨g,λ_=>h⟩
  ·exact⟨λ_ _=>0,λz=>absurd z O⟩
 obtain⟨g,f⟩:=Po Q;have Z:(ko a).map YH=(LW a.length).map λj=>YH (A j):=by
  conv=>lhs;rw[Y,MJ]
  rfl
 refine⟨a.length,A,g,H,l,ro,f,?_,?_⟩
 ·rw[<- Z,K8]
  refine Vj ?_;have:=(Js a).map YH;rw[K8]at this;exact this
 ·have x:a.length<=lim:=by omega
  have eL:((ko a).map (qj wd))=(LW a.length).map λj=>qj wd (A j):=by
   conv=>lhs;rw[Y,MJ]
   rfl
  rw[eL]at F;let L:D:= .lst ((LW a.length).map λj=>qj wd<|A j);have y : ∀j,j<a.length->(A j).s+(A j).n<=100:=λj U=>by have:=(l j U).le;omega
  have W:zW (.tp [0,1]) js (zH kI<|zb (ze 1)<|zb (jU<|jF qX<|zb (ze 2)<|zb (ze 0) zI) zI) [.no,.no,.val L] ((LW<|m+1).map λ(i:Nat)=>D.tup [.int i,.int (wd i:Nat)])=bX (yU (m+1) wd λr=>xU A a.length r):=by unfold yU;refine zB _ _ λr O=>zD rfl rfl ?_;have O:=Ma.mp O;have E:=v7 (wd:=wd) y x r;rw[WR (wd r) (λj=>(A j).v r),show((LW a.length).filter λj=>(A j).has r)=i4 A a.length r from rfl,ro r ⋯]at E;have bb:=C r;have o:=Zw (q:=wd r) (h:=wd r) (λi=>(A<|(i4 A a.length r).getD i 0).v r) ⋯ ⋯;simp[-Mc,L,E,o];rfl
  have o:zW (.nm 0) js (zH kJ<|zb (cE (zm 1)<|zy<|.int 0)<|zb (ze 0) zI) [.no,.val (j5 p m w wd T)] (yU (m+1) wd λr=>xU A a.length r)=bX (yU (m+1) wd g):=by unfold yU;refine zB _ _ λr O=>zD rfl rfl ?_;have O:=Ma.mp O;obtain⟨d,u,h3⟩:=f r ⋯;have e:=Wa J (n:=wd r) (by have:=C r;omega) d u λi j _ _=>h3 i j;simp[yX,e]
  have X:zW (.nm 0) js (zH jY<|zb (ze 0) zI) [.no] ((LW a.length).map λj=>qj wd<|A j)=bX (jn<|(LW a.length).map λj=>YH<|A j):=by unfold jn;rw[MJ];refine zB _ _ λj U=>zD rfl rfl ?_;have U:=Ma.mp U;have e:=Xa (wd:=wd) (l j U).n1 (y j U);simp[e];exact⟨rfl,rfl⟩
  have ew:xl (zA (m+1) λk=>(wd k:Int))=(LW<|m+1).map λ(i:Nat)=>D.tup [.int i,.int (wd i:Nat)]:=W5 _ _;have B:m+1<=lim:=by omega
  have R : ∀g:UW,(yU (m+1) wd g).length=m+1:=λg=>by simp[yU]
  rw[bR];refine jk<|zv (γ':=[.val (j5 p m w wd T),.val L,.no,.no]) ?_ (zv (γ':=[.val (j5 p m w wd T),.val L,.val<|.lst<|yU (m+1) wd λr=>xU A a.length r,.no]) ?_ (zv (γ':=[.val (j5 p m w wd T),.val L,.val<|.lst<|yU (m+1) wd λr=>xU A a.length r,.val (.lst<|yU (m+1) wd g)]) ?_ ?_))
  ·simp[R6,z6,Mb,F,L]
  ·simp[R7,je,yX,ew,B,W]
  ·simp[R8,je,R,B,o]
  ·unfold wA
   rw[cO,cO];simp[R9,je,L,x,X]
end
section
variable{wd:UX}{m k N:Nat}{p:Int}{w:UK}{T:UW}{A:Nat->f9}{g:UW}
def Zt(A:Nat->f9)(N:Nat):List (Int×Int):=(LW N).map λj=>YH<|A j
theorem tX{b:f9}(z:1<=b.n)(r:Nat):nj (YH b) (r:Int)=b.has r:=by
 unfold nj YH f9.has;dsimp only;congr 1
 ·exact decide_eq_decide.mpr ⋯
 ·exact decide_eq_decide.mpr ⋯
theorem yc(z : ∀j,j<N->1<=(A j).n)(r:Nat):jf (Zt A N) (r:Int)=i4 A N r:=by unfold jf i4 Zt;simp only[Mq,MQ];refine SR λj I=>?_;have I:=Ma.mp I;rw[Mc,MC,Oc I];exact tX (z j I) r
theorem fR(A N r):(i4 A N r).Nodup:=RT.sublist List.filter_sublist
theorem bo{L:List Nat}(h:L.Nodup){a b:Nat}(z:a<L.length)(I:b<L.length)(e:L.getD a 0=L.getD b 0):a=b:=by rw[Mc,Mc,LZ z,LZ I]at e;exact(List.getElem_inj h).mp e
theorem ng(O : ∀j,j<N->oR p w wd T m (A j))(U:k<m){i b:Nat}(C:i<wd (zP w k))(Y:b<(i4 A N<|zK w k).length) :
 zh (λa=>(if (i4 A N<|zP w k).getD a 0=(i4 A N<|zK w k).getD b 0 then (1:Int)else 0)*xU A N (zP w k) i a) (i4 A N<|zP w k).length%p=app (T k) (wd<|zK w k) (λc=>xU A N (zK w k) c b) i%p:=by
 obtain⟨h,s⟩:=VP Y;have q:=(O _ h).arr k U s i C;show _=app (T k) (wd<|zK w k) ((A<|(i4 A N<|zK w k).getD b 0).v (zK w k)) i%p;rw[q];congr 1;cases hx:(A<|(i4 A N<|zK w k).getD b 0).has (zP w k)with
 | true=>
  have n:(i4 A N<|zK w k).getD b 0∈i4 A N (zP w k):=Mu.mpr ⟨Ma.mpr h,by simpa using hx⟩;obtain⟨l,I,r⟩:=Ro n;have d:(i4 A N<|zP w k).getD l 0=(i4 A N<|zK w k).getD b 0:=by rw[<- r,Mc,LZ I];rfl
  rw[zR (f:=λa=>(if (i4 A N<|zP w k).getD a 0=(i4 A N<|zK w k).getD b 0 then (1:Int)else 0)*xU A N (zP w k) i a) I λa e o=>by rw[UY λz=>o (bo (fR A N _) e I<|z.trans d.symm)];simp]
  rw[UJ d,UJ rfl];unfold xU;rw[d];simp
 | false=>
  rw[UY ⋯];rw[zx (g:=λ_=>0) λa e=>by
   rw[UY λz=>by have:=(VP e).2;rw[z,hx]at this;cases this]
   simp]
  exact zM _
theorem nR(L:Pr p)(U : ∀j,j<N->oR p w wd T m (A j))(ro : ∀r,r<=m->(i4 A N r).length=wd r)(z : ∀r,r<=m->ZI p (wd r) (xU A N r) (g r))(C:k<m){i j:Nat}(J:i<wd (zP w k))(I:j<wd (zK w k))(Y:0<=T k i j/\T k i j<p) :
 T k i j=vW p w (m9<|Zt A N) (λr=>xU A N r) g (o6 w<|Zt A N) k i j:=by
 have d : ∀j,j<N->1<=(A j).n:=λj I=>(U j I).n1;have O:zK w k<=m:=by unfold zK;split<;>omega
 have e:zP w k<=m:=by unfold zP;split<;>omega
 unfold vW;have o:m9 (Zt A N) (zK w k)=wd (zK w k):=by unfold m9;rw[yc d,ro _ O]
 have s:m9 (Zt A N) (zP w k)=wd (zP w k):=by unfold m9;rw[yc d,ro _ e]
 rw[o,s];have f:zh (λb=>g (zK w k) b j*(zh (λa=>o6 w (Zt A N) k a b*xU A N (zP w k) i a) (wd<|zP w k)%p)) (wd<|zK w k)%p
  = zh (λb=>g (zK w k) b j*app (T k) (wd<|zK w k) (λc=>xU A N (zK w k) c b) i) (wd<|zK w k)%p:=zO λb t=>by
  have:=ng (T:=T) (k:=k) U C J (b:=b) (by rw[ro _ O];exact t);rw[ro _ e]at this;have h:zh (λa=>o6 w (Zt A N) k a b*xU A N (zP w k) i a) (wd<|zP w k)=zh (λa=>(if (i4 A N<|zP w k).getD a 0=(i4 A N<|zK w k).getD b 0 then (1:Int)else 0)*xU A N (zP w k) i a) (wd<|zP w k):=zx λa _=>by unfold o6;rw[yc d,yc d]
  rw[h,this,wJ]
 have l:zh (λb=>g (zK w k) b j*app (T k) (wd<|zK w k) (λc=>xU A N (zK w k) c b) i) (wd<|zK w k)=app (T k) (wd<|zK w k) (λc=>zh (λb=>xU A N (zK w k) c b*g (zK w k) b j)<|wd<|zK w k) i:=by rw[<- vj];congr 1;funext c;exact xy ..
 rw[show(zh (λb=>g (zK w k) b j*(zh (λa=>o6 w (Zt A N) k a b*(λr=>xU A N r) (zP w k) i a) (wd<|zP w k)%p)) (wd<|zK w k)%p)=_ from f,l,
  xm (u:=jB j) (λc x=>by rw[z _ O c j x I];unfold hH jB;simp only[eq_comm]) i,w4 (T k) I]
 exact(MR Y.1 Y.2).symm
end
section
variable{p:Int}{n:Nat}
theorem oX{l:UX} : ∀{r:Nat},(∀k m,k<m->m<r->l k<l m)->∃j,j<=r/\∀k,k<r->l k≠j
 | 0,_=>⟨0,Mf _,λk I=>absurd I<|MK _⟩
 | r+1,h=>by
  obtain⟨j,f,d⟩:=oX (r:=r) λk m a b=>h k m a ⋯;by_cases e:l r=j
  ·refine⟨r+1,Mf _,λk I=>?_⟩
   rcases Mz k r with z | z
   ·have:=h k r z ⋯;omega
   ·rw[show k=r by omega];omega
  ·refine⟨j,by omega,λk I=>?_⟩
   rcases Mz k r with z | z
   ·exact d k z
   ·rw[show k=r by omega];exact e
theorem Cm(C:Pr p){h N:Nat}{f:UV}(inj : ∀t:Vc,(∀i,i<h->app f N t i%p=0)->∀j,j<N->t j%p=0):N<=h:=by
 rcases Mz h N with a8 | a7
 ·exfalso
  obtain⟨r,A,B,l,Y,x⟩:=Xd (n:=N) C h f;obtain⟨I,y,a3⟩:=oX Y.mono;have o:I<N:=by omega
  let t:Vc:=λj=>if j=I then 1 else zh (λk=>if l k=j then B k I*(-1)else 0) r;have u:t I=1:=UJ rfl;have E : ∀k,k<r->t (l k)=B k I*(-1):=λk O=>by
   show(if l k=I then _ else _)=_;rw[UY (a3 k O),zR (f:=λa=>if l a=l k then B a I*(-1)else 0) O λa U b=>by
    rw[UY λe=>b (by
     rcases Ra a k with z | z | z
     ·have:=Y.mono a k z O;omega
     ·exact z
     ·have:=Y.mono k a z U;omega)]]
   rw[UJ rfl]
  have m : ∀k,k<r->zh (λj=>B k j*t j) N=0:=λk O=>by
   have e:zh (λj=>B k j*t j) N=zh (λj=>(if j=I then B k I else 0)+zh (λa=>if l a=j then B k (l a)*(B a I*(-1))else 0) r) N:=zx λj s=>by
    by_cases z:j=I
    ·subst z
     rw[u,UJ rfl,zx (g:=λ_=>0) λa U=>UY<|a3 a U,zM];simp
    ·show B k j*(if j=I then _ else _)=_
     rw[UY z,UY z,Int.zero_add,Nu,<- kj];refine zx λa U=>?_;by_cases e:l a=j
     ·rw[UJ e,UJ e,<- e,Nu]
     ·rw[UY e,UY e];simp
   rw[e,ju,zR (f:=λj=>if j=I then B k I else 0) o<|λj _ b=>UY b,UJ rfl,jT];have d:zh (λa=>zh (λj=>if l a=j then B k (l a)*(B a I*(-1))else 0) N) r=zh (λa=>B k (l a)*(B a I*(-1))) r:=zx λa U=>by rw[zR (f:=λj=>if l a=j then B k (l a)*(B a I*(-1))else 0) (Y.lt a U) λj _ b=>UY<|MD b,UJ rfl]
   rw[d,zR (f:=λa=>B k (l a)*(B a I*(-1))) O λa U b=>by rw[Y.qi k a O U b];simp];rw[Y.one k O];omega
  have:=inj t (λi w=>by
   have c:=ZP Y<|(x<|f i).mpr (.gen ⟨i,w,rfl⟩);unfold app;have e:zh (λj=>f i j*t j) N%p=zh (λj=>zh (λk=>f i (l k)*B k j) r*t j) N%p:=zO λj s=>by rw[Mh,c j s,<- Mh]
   rw[e];have d:zh (λj=>zh (λk=>f i (l k)*B k j) r*t j) N=zh (λk=>f i (l k)*zh (λj=>B k j*t j) N) r:=by rw[zx (g:=λj=>zh (λk=>f i (l k)*B k j*t j) r) λj _=>(kj _ _ _).symm,jT];refine zx λk _=>?_;rw[<- zY];exact zx λj _=>NR _ _ _
   rw[d,zx (g:=λ_=>0) λk O=>by rw[m k O,NA],zM];simp) I o
  rw[u,C.one]at this;cases this
 ·exact a7
theorem XH(W:Nat->Vc)(t:Vc):Span p n (eA m W) λi=>zh (λj=>t j*W j i) m:=Span.sum (u:=W) t λj I=> .gen ⟨j,I,rfl⟩
theorem pd(I:Pr p)(O:hL p n s B l)(sp : ∀v,Span p n (eA s B) v↔Span p n (eA m W) v)(ind : ∀t:Vc,(∀i,i<n->zh (λj=>t j*W j i) m%p=0)->∀j,j<m->t j%p=0):m=s:=by
 have b:s<=m:=by obtain⟨r,e,hR⟩:=Xd (n:=n) I m W;have:=vY I (m:=m) (W:=W) ⟨B,l,O,sp⟩ hR;omega
 have g:s<=n:=dH O;have d:m<=s:=Cm I (f:=λi j=>W j<|l i) λt U=>ind t λi a=>by
  have c:=ZP O ((sp _).mpr (XH (n:=n) W t)) i a;rw[c];have:zh (λk=>zh (λj=>t j*W j (l k)) m*B k i) s%p=zh (λ_=>0) s%p:=zO λk Y=>by have:=U k Y;unfold app at this;rw[xy]at this;rw[Mh,this];simp
  rw[this,zM];simp
 omega
end
def gV(p:Int)(a b:Nat)(c:Int)(v:Vc):Vc:=λi=>if i=b then (v b+c*v a)%p else v i
def Ln(S E:UX)(j:Nat):f9:=⟨S j,E j - S j+1,λ_ _=>0⟩
def Jq(S E:UX)(N r:Nat):List Nat:=i4 (Ln S E) N r
def Gp(S E:UX)(N r:Nat):Nat:=(Jq S E N r).length
noncomputable def EG(w:UK)(S E:UX)(N k i j:Nat):Int:=if (Jq S E N<|zP w k).getD i N=(Jq S E N<|zK w k).getD j (N+1)then 1 else 0
section
variable{S E:UX}{N r:Nat}{w:UK}{p:Int}{m:Nat}
theorem mT(I:Pr p) : ∀k x y,0<=EG w S E N k x y/\EG w S E N k x y<p:=λk x y=>by have:=I.two;unfold EG;split<;>omega
end
section
variable{p:Int}{m:Nat}{w:UK}{wd:UX}{T:UW}
noncomputable def cP(w:UK)(wd:UX)(T:UW)(m:Nat):List D:=(LW m).map λk=>D.lst<|gA (eK w wd k) (ed w wd k)<|T k
@[simp] theorem Ad(m):(cP w wd T m).length=m:=by simp[cP]
abbrev rc(p:Int)(m:Nat)(w:UK)(wd:UX)(T:UW)(acc:List D)(c5 c6 c7 c8:Cell):Ctx:=[.val (.int p),.val (.str (qc m w)),.val (.lst (zA (m+1) λk=>(wd k:Int))),.val (.lst (cP w wd T m)),.own acc,c5,c6,c7,c8]
end
noncomputable def UI:=jy 3<|zE jJ (rM (ze 0) (qF<|zb (zE yR (ze 1)<|zy<|.int 1)<|zb (ze 2) zI)<|zy<|.int 0)<|rM (ze 0) (qF<|zb (ze 1)<|zb (zE jJ (ze 2)<|zy<|.int 1) zI)<|zy<|.int 0
noncomputable def TJ:=qp<|zE jJ (zE yR (FH (ze 0)<|qF<|zb (ze 1)<|zb (ze 2) zI)<|ze 3)<|rM (ze 0) (qF<|zb (zE yR (ze 1)<|zy<|.int 1)<|zb (zE jJ (ze 2)<|zy<|.int 1) zI)<|zy<|.int 0
noncomputable def UH:=jy 2<|Az<|zU (zV<|zm 1) (.tp [0,1]) 2 [0] js (qF<|zb (qF<|zb (ze 0)<|zb (ze 1) zI)<|zb (zH CY<|zb (ze 2)<|zb (ze 0)<|zb (ze 1) zI) zI)
def yQ:List Int->Int
 | []=>0
 | x::r=>x+yQ r
theorem Jn : ∀L:List Int,Wq (L.map D.int)=bX (yQ L)
 | []=>rfl
 | x::L=>by show(Wq<|L.map D.int).map _=_;rw[Jn L];rfl
def u1:=(jy 1<|zH jb<|zb (ze 0)<|zb (zy<|.int 0) zI)
noncomputable def u2:=(jy 2<|cE (jS<|j4<|zb (zy<|.int 2)<|zb (zy<|.int 3)<|zb (zy<|.int 5)<|zb (zy<|.int 7) zI)<|zE q8 (ze 1)<|zy<|.int 4)
noncomputable def u3:=(yW (.tp [3,4])<|cE (jS<|j4<|zb (qF<|zb (zy<|.int 4)<|zb (zy<|.int 2) zI)<|zb (qF<|zb (zy<|.int 3)<|zb (zy<|.int 2) zI)<|zb (qF<|zb (zy<|.int 2)<|zb (zy<|.int 2) zI)<|zb (qF<|zb (zy<|.int 2)<|zb (zy<|.int 2) zI)<|zb (qF<|zb (zy<|.int 6)<|zb (zy<|.int 1) zI)<|zb (qF<|zb (zy<|.int 5)<|zb (zy<|.int 1) zI)<|zb (qF<|zb (zy<|.int 4)<|zb (zy<|.int 1) zI)<|zb (qF<|zb (zy<|.int 3)<|zb (zy<|.int 1) zI) zI)<|zE q8 (ze 1)<|zy<|.int 8)
theorem Bn{c:Int}(h:0<=c) : ∃q:Nat,Pr (q:Int)/\([D.int 2,.int 3,.int 5,.int 7])[(c%4).toNat]? = bX (.int q)/\f6 4 (c%4)=bX (c%4).toNat:=by
 have a:=MF c (show(4:Int)≠0 by decide);have b:=Mp c (show(0:Int)<4 by decide);obtain⟨r,I⟩:=OK a;rw[I];have O:r<4:=by omega
 rw[j9,UJ O,NM];rcases (by omega:r=0\/r=1\/r=2\/r=3)with e | e | e | e<;>subst e
 ·exact⟨2,.inl rfl,rfl,rfl⟩
 ·exact⟨3,.inr<|.inl rfl,rfl,rfl⟩
 ·exact⟨5,.inr<|.inr<|.inl rfl,rfl,rfl⟩
 ·exact⟨7,.inr<|.inr<|.inr rfl,rfl,rfl⟩
def bS(bs:List (Int×Int))(j:Nat):Nat:=(bs.getD j (0,0)).1.toNat
def bE(bs:List (Int×Int))(j:Nat):Nat:=(bs.getD j (0,0)).2.toNat
abbrev bW(bs:List (Int×Int)):Nat->Nat:=Gp (bS bs) (bE bs) bs.length
abbrev bT(w:UK)(bs:List (Int×Int)):Nat->Nat->Nat->Int:=EG w (bS bs) (bE bs) bs.length
abbrev bL(bs:List (Int×Int))(r:Nat):List Nat:=Jq (bS bs) (bE bs) bs.length r
section
variable{bs:List (Int×Int)}{m:Nat}{w:UK}
theorem GT(h : ∀b∈bs,ZJ ((m+1:Nat):Int) b){j:Nat}(I:j<bs.length):bs[j]? = bX ((bS bs j:Int),(bE bs j:Int))/\bS bs j<=bE bs j/\bE bs j<=m:=by have e:=LZ I;have O:=h _<|Nq e;obtain⟨a,d,U⟩:=O;unfold bS bE;rw[Mc,e,SO];refine⟨?_,by omega,by omega⟩;congr 1;exact Prod.ext (by dsimp only;omega) (by dsimp only;omega)
end
section
variable{p:Int}{w:UK}{wd:UX}{T:UW}{m N N':Nat}{A A':Nat->f9}{d n:Nat}
theorem XX{bs:List (Int×Int)}(h : ∀b∈bs,ZJ ((m+1:Nat):Int) b)(r:Nat):jf bs (r:Int)=bL bs r:=by
 unfold jf bL Jq i4;refine SR λj I=>?_;have I:=Ma.mp I;obtain⟨e,a,d⟩:=GT h I;have O:bs.getD j (0,0)=((bS bs j:Int),(bE bs j:Int)):=by rw[Mc,e];rfl
 rw[O];show nj _ _=(decide (bS bs j<=r) && decide (r<bS bs j+(bE bs j - bS bs j+1)));unfold nj;dsimp only;congr 1
 ·exact decide_eq_decide.mpr ⋯
 ·exact decide_eq_decide.mpr ⋯
end
theorem nM:ql=jj 8 (zQ (qw 2<|j4 zI)<|zQ (k3 (zS<|zE jJ (x9<|ze 0)<|zy<|.int 1) (.nm 3)<|jI 2<|jU gP)<|zQ (KG 2<|qw 4<|j4 zI)<|zQ (k3 (zS<|x9<|ze 0) (.nm 5) nN) uu):=rfl
section
variable{p:Int}{m:Nat}{w:UK}{bs:List (Int×Int)}
theorem pQ(h : ∀b∈bs,ZJ ((m+1:Nat):Int) b)(k:Nat):((jf bs<|zP w k).map λx=>D.lst<|(jf bs<|zK w k).map λy=>D.int<|if x=y then 1 else 0)=z7 (eK w (bW bs) k) (ed w (bW bs) k) (bT w bs k):=by
 rw[XX h,XX h];unfold z7;rw[<- qt,<- qz]
 conv=>lhs;rw[<- ja bs.length (bL bs<|zP w k),MJ]
 refine My λi a=>?_;show D.lst ((bL bs<|zK w k).map λy=>D.int<|if (bL bs<|zP w k).getD i bs.length=y then 1 else 0)=D.lst (zA _ _);congr 1;rw[jd]
 conv=>lhs;rw[<- ja (bs.length+1) (bL bs<|zK w k),MJ]
 rfl
theorem Y6(S:m<=5)(hb:bs.length<64)(h : ∀b∈bs,ZJ ((m+1:Nat):Int) b):ql [.str (qc m w),.lst (jn bs)]=bX (.val<|jN m w (bW bs)<|bT w bs):=by
 have hl:=jm;have G:m<=lim:=by omega
 have t:bs.length<=lim:=by omega
 have wl:=ym m w;have u:=qU w (show m<=1000 by omega);have E : ∀r:Int,(jf bs r).length<=lim:=λr=>by have:=eH bs r;omega
 let N:Nat->List D:=λs=>(LW s).map λ(r:Nat)=>D.lst<|Yz<|jf bs (r:Int);let γ:Cell->Cell->Cell->Cell->Cell->Cell->Ctx:=λI a K j d g=>[.val (.str<|qc m w),.val<|.lst<|jn bs,I,a,K,j,d,g];have one : ∀(s:Nat) I,gP (γ I (.val<|.int (s:Int)) .no .no .no .no)=bX (Yz<|jf bs (s:Int)):=λs I=>by
  have p:zW (.nm 0) (sB<|ZC wh wh (cE (zF<|cE (zm 1)<|ze 0)<|zy<|.int 0) (ze 2)<|cE (zF<|cE (zm 1)<|ze 0)<|zy<|.int 1) (ze 0) [Cell.no,.val<|.lst<|jn bs,.val (.int (s:Int))] ((LW bs.length).map λ(i:Nat)=>D.int i)=bX (((LW bs.length).filter λi=>nj (bs.getD i (0,0)) s).map λ(i:Nat)=>D.int i):=by
   refine jl _ _ _ λi n=>⟨_,rfl,?_,λ_=>rfl⟩;have n:=Ma.mp n;have e:(jn bs)[i]? = bX (D.tup [.int (bs.getD i (0,0)).1,.int (bs.getD i (0,0)).2]):=by unfold jn;rw[MC,Mc,LZ n];rfl
   have C:zF (cE (zm 1)<|ze 0) [Cell.val (D.int (i:Int)),.val<|.lst<|jn bs,.val (.int (s:Int))]=bX (.T,[.int (bs.getD i (0,0)).1,.int (bs.getD i (0,0)).2]):=by rw[show zF (cE (zm 1)<|ze 0) [Cell.val (D.int (i:Int)),.val<|.lst<|jn bs,.val (.int (s:Int))]=((f6 (jn bs).length (i:Int)).bind λk=>(jn bs)[k]?).bind jx from rfl,Y5,j9,UJ n];show((jn bs)[i]?).bind jx=_;rw[e];rfl
   show sB (ZC wh wh (cE (zF<|cE (zm 1)<|ze 0)<|zy<|.int 0) (ze 2)<|cE (zF<|cE (zm 1)<|ze 0)<|zy<|.int 1) [Cell.val (D.int (i:Int)),.val<|.lst<|jn bs,.val (.int (s:Int))]=_;have z:cE (zF<|cE (zm 1)<|ze 0) (zy<|.int 0) [Cell.val (D.int (i:Int)),.val<|.lst<|jn bs,.val (.int (s:Int))]=bX (.int (bs.getD i (0,0)).1):=by rw[yh,C];rfl
   have A:cE (zF<|cE (zm 1)<|ze 0) (zy<|.int 1) [Cell.val (D.int (i:Int)),.val<|.lst<|jn bs,.val (.int (s:Int))]=bX (.int (bs.getD i (0,0)).2):=by rw[yh,C];rfl
   generalize bs.getD i (0,0)=b at z A;simp[-yh,z,A,nj];by_cases q:b.1<=(s:Int)<;>simp[q]
  unfold gP;rw[qb,show zS (yO<|zm 1) (γ I (.val<|.int (s:Int)) .no .no .no .no)=bX ((LW bs.length).map λ(i:Nat)=>D.int i)by
   have r:inR (bs.length:Int)=cz:=Ki t;simp[γ,r,jL];rw[jd]]
  simp only[Me,Mq,MQ,t,if_true];exact p
 obtain⟨γ1,X,a,rfl⟩:=jA (T:= .nm 3) (F:=jI 2<|jU gP) (f:=zE jJ (x9<|ze 0)<|zy<|.int 1)
  (λs γ'=>∃a,γ'=γ (.own<|N s) a .no .no .no .no) (m+1) ⋯ (γ:=γ (.own []) .no .no .no .no .no) (by simp[γ,wl,u]) ⟨.no,rfl⟩ (by
    rintro s o γ' ⟨a,rfl⟩;refine⟨γ (.own<|N s) (.val<|.int (s:Int)) .no .no .no .no,γ (.own<|N<|s+1) (.val<|.int (s:Int)) .no .no .no .no,rfl,?_,_,rfl⟩;have U:(N s).length<lim:=by simp[N];omega
    rw[xO,vo,one];show(if (N s).length<lim then _ else none)=_;rw[UJ U];show bX (Fl.next<|γ (.own<|N s++[D.lst (Yz<|jf bs (s:Int))]) _ _ _ _ _)=_;rw[<- yp s λ(r:Nat)=>D.lst (Yz<|jf bs (r:Int))])
 have U:(N<|m+1).length=m+1:=by simp[N]
 have W : ∀{r:Nat},r<m+1->(N<|m+1)[r]? = bX (D.lst<|Yz<|jf bs (r:Int)):=λ{r} O=>by show((LW<|m+1).map _)[r]? = _;rw[MC,Oc O];rfl
 have B : ∀{r:Nat},r<m+1->((f6 (N<|m+1).length (r:Int)).bind λk=>(N<|m+1)[k]?).bind jx=bX (.L,Yz<|jf bs (r:Int)):=λ{r} O=>by rw[U,j9,UJ O];show((N<|m+1)[r]?).bind jx=_;rw[W O];rfl
 obtain⟨_b,Z,j,d,g,rfl⟩:=jA (T:= .nm 5) (F:=nN) (f:=x9<|ze 0)
  (λs γ'=>∃j d g,γ'=γ (.val<|.lst<|N<|m+1) a (.own<|jK s w (bW bs)<|bT w bs) j d g) m G (γ:=γ (.val<|.lst<|N<|m+1) a (.own []) .no .no .no) (by simp[γ,wl,u]) ⟨.no,.no,.no,rfl⟩ (by
    rintro s o γ' ⟨j,d,g,rfl⟩;have P:=xH (w:=w) S o;have Q:=yC (w:=w) o;have R:=yF (w:=w) o;let Y:=γ (.val<|.lst<|N<|m+1) a (.own<|jK s w (bW bs)<|bT w bs) (.val<|.int (s:Int)) (.val<|.int (zK w s:Nat))<|.val<|.int (zP w s:Nat);refine⟨γ (.val<|.lst<|N<|m+1) a (.own<|jK s w (bW bs)<|bT w bs) (.val<|.int (s:Int)) d g,γ (.val<|.lst<|N<|m+1) a (.own<|jK (s+1) w (bW bs)<|bT w bs) (.val<|.int (s:Int)) (.val<|.int (zK w s:Nat))<|.val<|.int (zP w s:Nat),rfl,?_,_,_,_,rfl⟩;unfold nN;refine zv (γ':=Y) (by simp[Y,γ,P]) ?_;have lt:(jK s w (bW bs)<|bT w bs).length<lim:=by simp[jK];omega
    have p:zW (.nm 0) js uq [Cell.no,.val<|.lst<|N<|m+1,.val (.int (zK w s:Nat))] (Yz<|jf bs (zP w s:Nat))=bX ((jf bs (zP w s:Nat)).map λx=>D.lst<|(jf bs (zK w s:Nat)).map λy=>D.int<|if x=y then 1 else 0):=by
     unfold Yz;refine zB _ _ λx hx=>zD (γ1:=[.val (.int (x:Int)),.val<|.lst<|N<|m+1,.val (.int (zK w s:Nat))]) rfl rfl ?_;unfold uq;have l:zV (zF<|cE (zm 1)<|ze 2) [Cell.val (.int (x:Int)),.val<|.lst<|N<|m+1,.val (.int (zK w s:Nat))]=bX (Yz<|jf bs (zK w s:Nat)):=by show(((f6 (N<|m+1).length ((zK w s:Nat):Int)).bind λk=>(N<|m+1)[k]?).bind jx).map (·.2)=_;rw[B R];rfl
     rw[vo,qb,l];simp only[Me,Ka,E,if_true];rw[show je 1 [0] [Cell.val (.int (x:Int)),.val<|.lst<|N<|m+1,.val (.int (zK w s:Nat))]=[Cell.no,.val (.int (x:Int))]from rfl,tK];rfl
    have M:ur Y=bX ((jf bs (zP w s:Nat)).map λx=>D.lst<|(jf bs (zK w s:Nat)).map λy=>D.int<|if x=y then 1 else 0):=by
     unfold ur;have l:zV (zF<|cE (zm 2)<|ze 7) Y=bX (Yz<|jf bs (zP w s:Nat)):=by show(((f6 (N<|m+1).length ((zP w s:Nat):Int)).bind λk=>(N<|m+1)[k]?).bind jx).map (·.2)=_;rw[B Q];rfl
     rw[qb,l];simp only[Me,Ka,E,if_true];exact p
    rw[xO,vo,M,pQ h];show(if (jK s w (bW bs)<|bT w bs).length<lim then _ else none)=_;rw[UJ lt];show bX (Fl.next<|γ _ _ (.own<|jK s w (bW bs) (bT w bs)++[D.lst (z7 (eK w (bW bs) s) (ed w (bW bs) s)<|bT w bs s)]) _ _ _)=_;unfold jK;rw[<- yp s λk=>D.lst (z7 (eK w (bW bs) k) (ed w (bW bs) k)<|bT w bs k)])
 rw[nM];refine jk<|zv (γ':=γ (.own []) .no .no .no .no .no) rfl<|zv X<|zv (γ':=γ (.val<|.lst<|N<|m+1) a (.own []) .no .no .no) rfl<|zv Z ?_;have H:zW (.nm 0) js (yO<|zm 0) [Cell.no] (N<|m+1)=bX (zA (m+1) λk=>(bW bs k:Int)):=by
  rw[jd];refine zB _ _ λr O=>zD (γ1:=[.val (D.lst<|Yz<|jf bs (r:Int))]) rfl rfl ?_;have e:(jf bs (r:Int)).length=bW bs r:=by rw[XX h];rfl
  show bX (D.int ((Yz<|jf bs (r:Int)).length:Int))=_;rw[Ka,e]
 have J:m+1<=lim:=by omega
 have l2:2<=lim:=by omega
 unfold uu;show qp _ (γ (.val<|.lst<|N<|m+1) a (.val<|.lst<|jK m w (bW bs)<|bT w bs) j d g)=_;have v:zU (zV<|zm 2) (.nm 0) 1 [] js (yO<|zm 0) (γ (.val<|.lst<|N<|m+1) a (.val<|.lst<|jK m w (bW bs)<|bT w bs) j d g)=bX (zA (m+1) λk=>(bW bs k:Int)):=by rw[qb,show zV (zm 2) (γ (.val<|.lst<|N<|m+1) a (.val<|.lst<|jK m w (bW bs)<|bT w bs) j d g)=bX (N<|m+1)from rfl];simp only[Me,U,J,if_true];exact H
 rw[J5,Y9,qg,vo,v];simp[γ,jN]
end
theorem iD:jE=jj 6 (zQ (qw 4<|j4 zI)<|zQ (k3 (zV<|zF<|ze 1) (.nm 5)<|jI 4<|jU aF)<|vK 4):=rfl
theorem mS{h w:Nat}{f g:UV}(e : ∀i j,i<h->j<w->f i j=g i j):z7 h w f=z7 h w g:=by unfold z7;refine My λi a=>?_;rw[yD λj I=>e i j (Ma.mp a) I]
section
variable{p:Int}{h n w:Nat}{f g:UV}
theorem cM(L:0<p)(p7:p<=7)(S:h<=60)(Z:n<=60)(hw:w<=60)(J : ∀i k,i<h->k<n->0<=f i k/\f i k<p):jE [.int p,.lst<|z7 h n f,.lst<|z7 n w g,.int (w:Int)]=bX (.own<|z7 h w λi j=>zh (λk=>f i k*g k j) n%p):=by
 have N:=jm;have U:n<=lim:=by omega
 have Y:w<=lim:=by omega
 have E : ∀i j:Nat,i<h->j<w->pK [.val (.int (j:Int)),.val<|.int p,.val<|.lst<|z7 n w g,.val (.lst<|zA n<|f i)]=bX (zA n λk=>f i k*g k j):=λi j y O=>by
  have l:zS (yO<|zm 3) [Cell.val (.int (j:Int)),.val<|.int p,.val<|.lst<|z7 n w g,.val (.lst<|zA n<|f i)]=bX ((LW n).map λ(k:Nat)=>D.int (k:Int)):=by have r:inR (n:Int)=cz:=Ki U;simp[r,jL];rw[jd]
  unfold pK;rw[qb,l];simp only[Me,Mq,MQ,U,if_true];rw[show je 1 [0,2,3] [Cell.val (.int (j:Int)),.val<|.int p,.val<|.lst<|z7 n w g,.val (.lst<|zA n<|f i)]=[Cell.no,.val<|.int (j:Int),.val<|.lst<|z7 n w g,.val (.lst<|zA n<|f i)]from rfl,jd];refine zB _ _ λk I=>zD (γ1:=[.val (.int (k:Int)),.val<|.int (j:Int),.val<|.lst<|z7 n w g,.val (.lst<|zA n<|f i)]) rfl rfl ?_;have I:=Ma.mp I;have B:cE (zm 3) (ze 0) [Cell.val (.int (k:Int)),.val<|.int (j:Int),.val<|.lst<|z7 n w g,.val (.lst<|zA n<|f i)]=bX (.int<|f i k):=by show((f6 (zA n<|f i).length (k:Int)).bind λx=>(zA n<|f i)[x]?)=_;rw[Ko,j9,UJ I];exact ZY _ I
  have C:cE (zF<|cE (zm 2)<|ze 0) (ze 1) [Cell.val (.int (k:Int)),.val<|.int (j:Int),.val<|.lst<|z7 n w g,.val (.lst<|zA n<|f i)]=bX (.int<|g k j):=by
   show((((f6 (z7 n w g).length (k:Int)).bind λx=>(z7 n w g)[x]?).bind jx).bind λa=>((bX (D.int (j:Int))).bind i0).bind λi=>(f6 a.2.length i).bind λx=>a.2[x]?)=_;have e:(z7 n w g)[k]? = bX (D.lst<|zA w<|g k):=by unfold z7;rw[MC,Oc I];rfl
   rw[jX,j9,UJ I];show((((z7 n w g)[k]?).bind jx).bind _)=_;rw[e];show((f6 (zA w<|g k).length (j:Int)).bind λx=>(zA w<|g k)[x]?)=_;rw[Ko,j9,UJ O];exact ZY _ O
  have b:=J i k y I;have c:vT (f i k) (g k j)=cz:=kE _ _ ⋯ ⋯;rw[yi,B,C];simp[c]
 have row : ∀i:Nat,i<h->∀o,aF [.val (.int p),.val<|.lst<|z7 h n f,.val<|.lst<|z7 n w g,.val<|.int (w:Int),o,.val (.lst<|zA n<|f i)]=bX (zA w λj=>zh (λk=>f i k*g k j) n%p):=λi y o=>by
  have l:zS (ze 3) [.val (.int p),.val<|.lst<|z7 h n f,.val<|.lst<|z7 n w g,.val<|.int (w:Int),o,.val (.lst<|zA n<|f i)]=bX ((LW w).map λ(k:Nat)=>D.int (k:Int)):=by have r:inR (w:Int)=cz:=Ki Y;simp[r,jL];rw[jd]
  unfold aF;rw[qb,l];simp only[Me,Mq,MQ,Y,if_true];rw[show je 1 [0,2,5] [Cell.val (.int p),.val<|.lst<|z7 h n f,.val<|.lst<|z7 n w g,.val<|.int (w:Int),o,.val (.lst<|zA n<|f i)]=[Cell.no,.val<|.int p,.val<|.lst<|z7 n w g,.val (.lst<|zA n<|f i)]from rfl,jd];refine zB _ _ λj O=>zD (γ1:=[.val (.int (j:Int)),.val<|.int p,.val<|.lst<|z7 n w g,.val (.lst<|zA n<|f i)]) rfl rfl ?_;have e:=E i j y<|Ma.mp O;rw[yi,Va,kF,e];simp[yV,L]
 let m:Cell->Cell->Ctx:=λo t=>[.val (.int p),.val<|.lst<|z7 h n f,.val<|.lst<|z7 n w g,.val<|.int (w:Int),o,t];obtain⟨γ1,e,t,rfl⟩:=wQ (T:= .nm 5) (F:=jI 4<|jU aF) (λs γ'=>∃t,γ'=m (.own<|(LW s).map λi=>D.lst<|zA w λj=>zh (λk=>f i k*g k j) n%p) t) (z7 h n f) 0 (m (.own []) .no) ⟨.no,rfl⟩ (by
  rintro s d γ' u ⟨t,rfl⟩;rw[NJ]at *;obtain⟨G,rfl⟩:s<h/\d=D.lst (zA n<|f s):=by unfold z7 at u;rw[MC]at u;obtain⟨P,K,M⟩:=RN.mp u;obtain⟨z,A⟩:=Mo.mp K;rw[MQ]at z;rw[List.getElem_range]at A;subst A;exact⟨z,M.symm⟩
  refine⟨m (.own<|(LW<|s+1).map λi=>D.lst<|zA w λj=>zh (λk=>f i k*g k j) n%p)<|.val<|.lst<|zA n<|f s,.inl ?_,_,rfl⟩;show jI 4 (jU aF) (m (.own<|(LW s).map λi=>D.lst<|zA w λj=>zh (λk=>f i k*g k j) n%p)<|.val<|.lst<|zA n<|f s)=_;have H:((LW s).map λi=>D.lst<|zA w λj=>zh (λk=>f i k*g k j) n%p).length<lim:=by simp;omega
  rw[xO,vo,row s G];show(if _<lim then _ else none)=_;rw[UJ H,yp s λi=>D.lst (zA w λj=>zh (λk=>f i k*g k j) n%p)];rfl)
 rw[iD];refine jk<|zv (γ':=m (.own []) .no) rfl<|zv (γ':=m (.own<|z7 h w λi j=>zh (λk=>f i k*g k j) n%p) t) ?_ rfl;rw[ZH,show zV (zF<|ze 1) (m (.own []) .no)=bX (z7 h n f)from rfl];rw[NJ,jX]at e;exact e
end
theorem lg:xQ=jj 13 (zQ (yW (.tp [5,6])<|zH ql<|zb (ze 3)<|zb (ze 4) zI)<|zQ (qw 7<|j4 zI)<|zQ (k3 (zS<|yO<|zm 5) (.nm 8) iZ)<|zQ (qw 9<|j4 zI)<|zQ (k3 (zS<|x9<|ze 3) (.nm 8) lh)<|KG 9<|qp<|qF<|zb (ze 5)<|zb (ze 9) zI):=rfl
section
variable{ns:List Int}{p:Int}{m:Nat}{w:UK}{bs:List (Int×Int)}
theorem AH(ab:ns.length<=63)(J:Pr p)(hm:m<=5)(hb:bs.length<=16)(h : ∀b∈bs,ZJ ((m+1:Nat):Int) b){a:Int}(h0:0<=a)(S:a<=1000) :
 ∃f g:UW,(∀k,k<m+1->Pair p (bW bs k) (f k) (g k))/\xQ [xT ns,.int a,.int p,.str<|qc m w,.lst (jn bs)]=bX (.val<|jN m w (bW bs)<|vW p w (bW bs) f g<|bT w bs):=by
 have hl:=jm;have ac:m+1<=lim:=by omega
 have X:=J.pos;have p7:=J.le;have K : ∀k,bW bs k<=16:=λk=>by
  have:bW bs k<=bs.length:=by unfold bW Gp Jq;exact Np (OV _ _) ⋯
  omega
 have hT : ∀k i j,0<=bT w bs k i j/\bT w bs k i j<p:=λk i j=>mT J k i j;have bt:=Y6 (w:=w) hm (show bs.length<64 by omega) h;generalize bW bs=wd at *;generalize bT w bs=T at *;have am : ∀k:Nat,∃C:(Nat->Nat->Int)×(Nat->Nat->Int),k<m+1->Pair p (wd k) C.1 C.2/\qh [xT ns,.int<|a+9*(k:Int),.int p,.int (wd k:Nat)]=bX (.val<|.tup [.lst (jt (wd k) C.1),.lst (jt (wd k) C.2)]):=λk=>by
  by_cases Y:k<m+1
  ·obtain⟨f,g,S,h2⟩:=uZ ab J (n:=wd k) (by have:=K k;omega) (show(0:Int)<=a+9*(k:Int)by omega) ⋯
   exact⟨(f,g),λ_=>⟨S,h2⟩⟩
  ·exact⟨(λ_ _=>0,λ_ _=>0),λh=>absurd h Y⟩
 obtain⟨I,E⟩:=Po am;refine⟨λk=>(I k).1,λk=>(I k).2,λk Y=>(E k Y).1,?_⟩;let W:List D:=zA (m+1) λk=>(wd k:Int);let A:List D:=jK m w wd T;let U:Nat->List D:=λs=>(LW s).map λk=>D.tup [.lst (jt (wd k) (I k).1),.lst (jt (wd k) (I k).2)];let Z:Nat->List D:=λs=>jK s w wd<|vW p w wd (λk=>(I k).1) (λk=>(I k).2) T;let γ:Cell->Cell->Cell->Cell->Cell->Cell->Ctx:=λc7 y G t u o=>[.val (xT ns),.val<|.int a,.val<|.int p,.val<|.str<|qc m w,.val<|.lst<|jn bs,.val<|.lst W,.val<|.lst A,c7,y,G,t,u,o];have wl:=ym m w;have an:=qU w (show m<=1000 by omega);have R:W.length=m+1:=by simp[W]
 have L : ∀{r:Nat},r<m+1->((f6 W.length (r:Int)).bind λk=>W[k]?)=bX (.int (wd r:Int)):=λ{r} B=>by rw[R,j9,UJ B];exact ZY _ B
 have Q : ∀s,(U s).length=s:=λs=>by simp[U]
 have P : ∀{r:Nat},r<m+1->((f6 (U<|m+1).length (r:Int)).bind λk=>(U<|m+1)[k]?).bind jx=bX (.T,[.lst (jt (wd r) (I r).1),.lst (jt (wd r) (I r).2)]):=λ{r} B=>by
  rw[Q,j9,UJ B];show((U<|m+1)[r]?).bind jx=_;rw[show(U<|m+1)[r]? = bX (D.tup [.lst (jt (wd r) (I r).1),.lst (jt (wd r) (I r).2)])by
   show((LW<|m+1).map _)[r]? = _;rw[MC,Oc B];rfl]
  rfl
 have iA : ∀{k:Nat},k<m->((f6 A.length (k:Int)).bind λx=>A[x]?)=bX (.lst<|z7 (wd<|zP w k) (wd<|zK w k)<|T k):=λ{k} Y=>by rw[show A.length=m by simp[A,jK],j9,UJ Y,qt w wd k,qz w wd k];show((LW m).map _)[k]? = _;rw[MC,Oc Y];rfl
 obtain⟨γ1,s3,y,rfl⟩:=jA (T:= .nm 8) (F:=iZ) (f:=yO<|zm 5) (λs γ'=>∃y,γ'=γ (.own<|U s) y .no .no .no .no) (m+1) ac (γ:=γ (.own []) .no .no .no .no .no) (by
  show bX (D.int (W.length:Int))=_;rw[R]) ⟨.no,rfl⟩ (by
  rintro s z γ' ⟨y,rfl⟩;refine⟨γ (.own<|U s) (.val<|.int (s:Int)) .no .no .no .no,γ (.own<|U<|s+1) (.val<|.int (s:Int)) .no .no .no .no,rfl,?_,_,rfl⟩;have e:=(E s z).2;have G:vT 9 (s:Int)=cz:=kE _ _ ⋯ ⋯;have lu:(U s).length<lim:=by rw[Q];omega
  have v:zH qh (zb (ze 0)<|zb (zE jJ (ze 1)<|zE xu (zy<|.int 9)<|ze 8)<|zb (ze 2)<|zb (cE (zm 5)<|ze 8) zI) (γ (.own<|U s) (.val<|.int (s:Int)) .no .no .no .no)=bX (.tup [.lst (jt (wd s) (I s).1),.lst (jt (wd s) (I s).2)]):=by
   have i:cE (zm 5) (ze 8) (γ (.own<|U s) (.val<|.int (s:Int)) .no .no .no .no)=bX (.int (wd s:Int)):=L z;have j:zE jJ (ze 1) (zE xu (zy<|.int 9)<|ze 8) (γ (.own<|U s) (.val<|.int (s:Int)) .no .no .no .no)=bX (.int<|a+9*(s:Int)):=by simp[γ,G]
   rw[V5,qg,qg,qg,qg,i,j];show(qh [xT ns,.int<|a+9*(s:Int),.int p,.int (wd s:Int)]).map AM=_;rw[e];rfl
  unfold iZ;rw[xO,v];show(if (U s).length<lim then _ else none)=_;rw[UJ lu];show bX (Fl.next<|γ (.own<|U s++[D.tup [.lst (jt (wd s) (I s).1),.lst (jt (wd s) (I s).2)]]) _ _ _ _ _)=_;rw[<- yp s λk=>D.tup [.lst (jt (wd k) (I k).1),.lst (jt (wd k) (I k).2)]])
 obtain⟨_b,s5,y,t,u,o,rfl⟩:=jA (T:= .nm 8) (F:=lh) (f:=x9<|ze 3) (λs γ'=>∃y t u o,γ'=γ (.own<|U<|m+1) y (.own<|Z s) t u o) m ⋯ (γ:=γ (.own<|U<|m+1) y (.own []) .no .no .no) (by simp[γ,wl,an]) ⟨y,.no,.no,.no,rfl⟩ (by
  rintro s z γ' ⟨y,t,u,o,rfl⟩;have en:=xH (w:=w) hm z;have r1:=yC (w:=w) z;have M:=yF (w:=w) z;let O:Cell->Ctx:=λo=>γ (.own<|U<|m+1) (.val<|.int (s:Int)) (.own<|Z s) (.val<|.int (zK w s:Nat)) (.val<|.int (zP w s:Nat)) o;let H:Nat->Nat->Int:=λi j=>zh (λk=>T s i k*(I<|zK w s).2 k j) (wd<|zK w s)%p;refine⟨γ (.own<|U<|m+1) (.val<|.int (s:Int)) (.own<|Z s) t u o,γ (.own<|U<|m+1) (.val<|.int (s:Int)) (.own<|Z<|s+1) (.val<|.int (zK w s:Nat)) (.val<|.int (zP w s:Nat))<|.val<|.lst<|z7 (wd<|zP w s) (wd<|zK w s) H,rfl,?_,_,_,_,_,rfl⟩;have q1:=K<|zP w s;have q2:=K<|zK w s;have b6:=cM (h:=wd<|zP w s) (n:=wd<|zK w s) (w:=wd<|zK w s) (f:=T s) (g:=(I<|zK w s).2) X p7 ⋯ ⋯ ⋯<|λi k _ _=>hT s i k;have b7:=cM (h:=wd<|zP w s) (n:=wd<|zP w s) (w:=wd<|zK w s) (f:=(I<|zP w s).1) (g:=H) X p7 ⋯ ⋯ ⋯<|λi k hi Y=>(E _ r1).1.bf i k hi Y;unfold lh;refine zv (γ':=O o) (by simp[O,γ,en])<|zv (γ':=O<|.val<|.lst<|z7 (wd<|zP w s) (wd<|zK w s) H) ?_ ?_
  ·have x1:cE (zm 6) (ze 8) (O o)=bX (.lst<|z7 (wd<|zP w s) (wd<|zK w s)<|T s):=iA z
   have x2:cE (zF<|cE (zm 7)<|ze 10) (zy<|.int 1) (O o)=bX (.lst<|jt (wd<|zK w s) (I<|zK w s).2):=by rw[yh,show zF (cE (zm 7)<|ze 10) (O o)=_ from P M];rfl
   have x3:cE (zm 5) (ze 10) (O o)=bX (.int (wd (zK w s):Int)):=L M;unfold AD;rw[vn,vo,Ky,qg,qg,qg,qg,x1,x2,x3];show((((jE [.int p,.lst<|z7 (wd<|zP w s) (wd<|zK w s)<|T s,.lst<|jt (wd<|zK w s) (I<|zK w s).2,.int (wd (zK w s):Int)]).bind uN).map D.lst).map λd=>Fl.next<|(O o).set 12 (.val d))=_;rw[show jE [.int p,.lst<|z7 (wd<|zP w s) (wd<|zK w s)<|T s,.lst<|jt (wd<|zK w s) (I<|zK w s).2,.int (wd (zK w s):Int)]=bX (.own<|z7 (wd<|zP w s) (wd<|zK w s) H)from b6];rfl
  ·have x1:cE (zF<|cE (zm 7)<|ze 11) (zy<|.int 0) (O<|.val<|.lst<|z7 (wd<|zP w s) (wd<|zK w s) H)=bX (.lst<|jt (wd<|zP w s) (I<|zP w s).1):=by
    rw[yh,show zF (cE (zm 7)<|ze 11) (O<|.val<|.lst<|z7 (wd<|zP w s) (wd<|zK w s) H)=_ from P r1];rfl
   have x3:cE (zm 5) (ze 10) (O<|.val<|.lst<|z7 (wd<|zP w s) (wd<|zK w s) H)=bX (.int (wd (zK w s):Int)):=L M;have lz:(Z s).length<lim:=by simp[Z,jK];omega
   have bb:(z7 (wd<|zP w s) (wd<|zK w s) λi j=>zh (λk=>(I<|zP w s).1 i k*H k j) (wd<|zP w s)%p)=z7 (eK w wd s) (ed w wd s) (vW p w wd (λk=>(I k).1) (λk=>(I k).2) T s):=by rw[<- qt w wd s,<- qz w wd s];refine mS λi j _ _=>?_;show zh (λk=>(I<|zP w s).1 i k*(zh (λl=>T s k l*(I<|zK w s).2 l j) (wd<|zK w s)%p)) (wd<|zP w s)%p=_;rw[KU p (I<|zP w s).1 (T s) (I<|zK w s).2 (wd<|zP w s) (wd<|zK w s) i j];unfold vW;congr 2;funext b;rw[Nu];congr 3;funext k;exact Nu _ _
   unfold AC;rw[xO,vo,Ky,qg,qg,qg,qg,x1,x3];show(jZ<|some (Cell.own<|Z s)).bind (λN=>(((jE [.int p,.lst<|jt (wd<|zP w s) (I<|zP w s).1,.lst<|z7 (wd<|zP w s) (wd<|zK w s) H,.int (wd (zK w s):Int)]).bind uN).map D.lst).bind λd=>if N.length<lim then bX (Fl.next<|(O<|.val<|.lst<|z7 (wd<|zP w s) (wd<|zK w s) H).set 9 (.own<|N++[d]))else none)=_;rw[show jE [.int p,.lst<|jt (wd<|zP w s) (I<|zP w s).1,.lst<|z7 (wd<|zP w s) (wd<|zK w s) H,.int (wd (zK w s):Int)]=_ from b7,bb];show(if (Z s).length<lim then bX (Fl.next<|γ _ _ (.own<|Z s++[D.lst (z7 (eK w wd s) (ed w wd s)<|vW p w wd (λk=>(I k).1) (λk=>(I k).2) T s)]) _ _ _)else none)=_;rw[UJ lz,show Z s++[D.lst (z7 (eK w wd s) (ed w wd s)<|vW p w wd (λk=>(I k).1) (λk=>(I k).2) T s)]=Z (s+1)from(yp s _).symm])
 rw[lg];refine jk<|zv (γ':=γ .no .no .no .no .no .no) (by simp[z6,bt,jN,γ,W,A])<|zv (γ':=γ (.own []) .no .no .no .no .no) rfl<|zv s3<|zv (γ':=γ (.own<|U<|m+1) _ (.own []) .no .no .no) rfl<|zv s5 ?_;have l2:2<=lim:=by omega
 show qp (qF<|zb (ze 5)<|zb (ze 9) zI) (γ (.own<|U<|m+1) y (.val<|.lst<|Z m) t u o)=_;simp[γ,W,Z,jN]
end
noncomputable def z9(z:List Int)(t p few:Int)(w i j:Nat):Int:=qS z (t+(w:Int)*(i:Int)+(j:Int))/7%p*(if few<=qS z (t+(w:Int)*(i:Int)+(j:Int))/64%3 then 1 else 0)
noncomputable def fW:=(zQ (jy 10<|zH jb<|zb (ze 0)<|zb (zE jJ (zE jJ (ze 1)<|zE xu (ze 4)<|ze 7)<|ze 9) zI)<|jI 8<|zE xu (zE q8 (zE v9 (ze 10)<|zy<|.int 7)<|ze 2)<|QH<|zE D4 (zE q8 (zE v9 (ze 10)<|zy<|.int 64)<|zy<|.int 3)<|ze 5)
def mC:=(zQ (qw 8<|j4 zI)<|zQ (k3 (zS<|ze 4) (.nm 9) fW)<|KG 8<|jI 6<|ze 8)
theorem pP{z:List Int}(S:z.length<=63){t p few:Int}(ht:0<=t)(an:t<1000)(J:0<p)(ap:p<10){h w:Nat}(hh:h<=10)(Z:w<=10) :
 qL [xT z,.int t,.int p,.int h,.int w,.int few]=bX (.own<|z7 h w<|z9 z t p few w):=by
 have W:=jm;have H : ∀(i:Nat),i<10->∀(k s:Nat) (acc:Cell) (b a:Cell),s+k=w->∃I O,kD (.nm 9) fW ((NH s k).map λ(i:Nat)=>D.int (i:Int)) [.val (xT z),.val<|.int t,.val<|.int p,.val<|.int h,.val<|.int w,.val<|.int few,acc,.val<|.int (i:Int),.own<|zA s<|z9 z t p few w i,b,a]=bX (.next [.val (xT z),.val<|.int t,.val<|.int p,.val<|.int h,.val<|.int w,.val<|.int few,acc,.val<|.int (i:Int),.own<|zA w<|z9 z t p few w i,I,O]):=by
  intro i T k
  induction k with
  | zero=>
   intro s acc b a e;obtain rfl:s=w:=by omega
   exact⟨b,a,rfl⟩
  | succ k u=>
   intro s acc b a e;have P:0<=(w:Int)*(i:Int)/\(w:Int)*(i:Int)<=100:=by
    have:w*i<=10*10:=Nat.mul_le_mul Z ⋯;constructor
    ·exact Int.mul_nonneg ⋯ ⋯
    ·have F:((w*i:Nat):Int)<=100:=by omega
     rw[OW]at F;exact F
   obtain⟨E,Q,R⟩:=J1 S (k:=t+(w:Int)*(i:Int)+(s:Int)) ⋯ ⋯;obtain⟨I,O,q⟩:=u (s+1) acc (.val<|.int (s:Int)) (.val<|.int<|qS z<|t+(w:Int)*(i:Int)+(s:Int)) ⋯;refine⟨I,O,?_⟩;rw[<- q,Pn,MI,qD];have C:vT (w:Int) (i:Int)=cz:=kE _ _ ⋯ ⋯;have l:s<lim:=by omega
   have r:zA (s+1) (z9 z t p few w i)=zA s (z9 z t p few w i)++[.int (z9 z t p few w i s)]:=by unfold zA;rw[Nx,Nb];rfl
   have m:qZ (.nm 9) (.int (s:Int)) [.val (xT z),.val<|.int t,.val<|.int p,.val<|.int h,.val<|.int w,.val<|.int few,acc,.val<|.int (i:Int),.own<|zA s<|z9 z t p few w i,b,a]=bX [.val (xT z),.val<|.int t,.val<|.int p,.val<|.int h,.val<|.int w,.val<|.int few,acc,.val<|.int (i:Int),.own<|zA s<|z9 z t p few w i,.val<|.int (s:Int),a]:=rfl;have st:fW [.val (xT z),.val<|.int t,.val<|.int p,.val<|.int h,.val<|.int w,.val<|.int few,acc,.val<|.int (i:Int),.own<|zA s<|z9 z t p few w i,.val<|.int (s:Int),a]=bX (.next [.val (xT z),.val<|.int t,.val<|.int p,.val<|.int h,.val<|.int w,.val<|.int few,acc,.val<|.int (i:Int),.own<|zA (s+1)<|z9 z t p few w i,.val<|.int (s:Int),.val (.int<|qS z<|t+(w:Int)*(i:Int)+(s:Int))]):=by
    have dl:(zA s<|z9 z t p few w i).length=s:=by simp[zA]
    unfold fW;rw[r];by_cases g:few<=qS z (t+(w:Int)*(i:Int)+(s:Int))/64%3
    ·have K : ∀x:Int,vT x 1=cz:=λx=>vS _ _ ⋯ ⋯
     simp[jC,E,C,J,g,l,dl,K,z9]
    ·have L : ∀x:Int,vT x 0=cz:=λx=>vS _ _ ⋯ ⋯
     simp[jC,E,C,J,g,l,dl,L,z9]
   rw[m];simp only[Me,st]
 have j : ∀(k s:Nat) (f d b a:Cell),s+k=h->∃n o I O,kD (.nm 7) mC ((NH s k).map λ(i:Nat)=>D.int (i:Int)) [.val (xT z),.val<|.int t,.val<|.int p,.val<|.int h,.val<|.int w,.val<|.int few,.own<|z7 s w<|z9 z t p few w,f,d,b,a]=bX (.next [.val (xT z),.val<|.int t,.val<|.int p,.val<|.int h,.val<|.int w,.val<|.int few,.own<|z7 h w<|z9 z t p few w,n,o,I,O]):=by
  intro k
  induction k with
  | zero=>
   intro s f d b a e;obtain rfl:s=h:=by omega
   exact⟨f,d,b,a,rfl⟩
  | succ k u=>
   intro s f d b a e;obtain⟨U,Y,G⟩:=H s ⋯ w 0 (.own<|z7 s w<|z9 z t p few w) b a ⋯;rw[<- OB]at G;obtain⟨n,o,I,O,q⟩:=u (s+1) (.val<|.int (s:Int)) (.val<|.lst<|zA w<|z9 z t p few w s) U Y ⋯;refine⟨n,o,I,O,?_⟩;rw[<- q,Pn,MI,qD];have l:s<lim:=by omega
   have M:inR (w:Int)=cz:=yM ⋯ ⋯;have r:z7 (s+1) w (z9 z t p few w)=z7 s w (z9 z t p few w)++[.lst (zA w<|z9 z t p few w s)]:=by unfold z7;rw[Nx,Nb];rfl
   have m:qZ (.nm 7) (.int (s:Int)) [.val (xT z),.val<|.int t,.val<|.int p,.val<|.int h,.val<|.int w,.val<|.int few,.own<|z7 s w<|z9 z t p few w,f,d,b,a]=bX [.val (xT z),.val<|.int t,.val<|.int p,.val<|.int h,.val<|.int w,.val<|.int few,.own<|z7 s w<|z9 z t p few w,.val<|.int (s:Int),d,b,a]:=rfl;have y:(qw 8<|j4 zI) [.val (xT z),.val<|.int t,.val<|.int p,.val<|.int h,.val<|.int w,.val<|.int few,.own<|z7 s w<|z9 z t p few w,.val<|.int (s:Int),d,b,a]=bX (.next [.val (xT z),.val<|.int t,.val<|.int p,.val<|.int h,.val<|.int w,.val<|.int few,.own<|z7 s w<|z9 z t p few w,.val<|.int (s:Int),.own<|zA 0<|z9 z t p few w s,b,a]):=rfl;have A:(k3 (zS<|ze 4) (.nm 9) fW) [.val (xT z),.val<|.int t,.val<|.int p,.val<|.int h,.val<|.int w,.val<|.int few,.own<|z7 s w<|z9 z t p few w,.val<|.int (s:Int),.own<|zA 0<|z9 z t p few w s,b,a]=bX (.next [.val (xT z),.val<|.int t,.val<|.int p,.val<|.int h,.val<|.int w,.val<|.int few,.own<|z7 s w<|z9 z t p few w,.val<|.int (s:Int),.own<|zA w<|z9 z t p few w s,U,Y]):=by rw[ZH];simp only[w6,vm,Nj,NB,xD,Me,k6,M,if_true,NM,jL];rw[jd w λi=>(i:Int)];exact G
   have B:(KG 8<|jI 6<|ze 8) [.val (xT z),.val<|.int t,.val<|.int p,.val<|.int h,.val<|.int w,.val<|.int few,.own<|z7 s w<|z9 z t p few w,.val<|.int (s:Int),.own<|zA w<|z9 z t p few w s,U,Y]=bX (.next [.val (xT z),.val<|.int t,.val<|.int p,.val<|.int h,.val<|.int w,.val<|.int few,.own<|z7 (s+1) w<|z9 z t p few w,.val<|.int (s:Int),.val<|.lst<|zA w<|z9 z t p few w s,U,Y]):=by rw[r];simp[KG,jZ,l]
   rw[m];simp only[Me];rw[show mC _=_ from zv y (zv A B)];rfl
 obtain⟨f,d,b,a,q⟩:=j h 0 .no .no .no .no ⋯;rw[<- OB]at q;have N:inR (h:Int)=cz:=yM ⋯ ⋯;have y:(qw 6<|j4 zI) (z6 11 [xT z,.int t,.int p,.int h,.int w,.int few])=bX (.next [.val (xT z),.val<|.int t,.val<|.int p,.val<|.int h,.val<|.int w,.val<|.int few,.own<|z7 0 w<|z9 z t p few w,.no,.no,.no,.no]):=rfl;have A:(k3 (zS<|ze 3) (.nm 7) mC) [.val (xT z),.val<|.int t,.val<|.int p,.val<|.int h,.val<|.int w,.val<|.int few,.own<|z7 0 w<|z9 z t p few w,.no,.no,.no,.no]=bX (.next [.val (xT z),.val<|.int t,.val<|.int p,.val<|.int h,.val<|.int w,.val<|.int few,.own<|z7 h w<|z9 z t p few w,f,d,b,a]):=by rw[ZH];simp only[w6,vm,Nj,NB,xD,Me,k6,N,if_true,NM,jL];rw[jd h λi=>(i:Int)];exact q
 have B:(vK 6) [.val (xT z),.val<|.int t,.val<|.int p,.val<|.int h,.val<|.int w,.val<|.int few,.own<|z7 h w<|z9 z t p few w,f,d,b,a]=bX (.ret<|.own<|z7 h w<|z9 z t p few w):=rfl;rw[show qL=jj 11 (zQ (qw 6<|j4 zI)<|zQ (k3 (zS<|ze 3) (.nm 7) mC)<|vK 6)from rfl];exact jk<|zv y<|zv A B
noncomputable def CQ:=(zQ (yW (.tp [9,10])<|zH jQ<|zb (ze 3)<|zb (ze 8) zI)<|jI 7<|jU<|jF qL<|zb (ze 0)<|zb (zE jJ (zE jJ (ze 1)<|zy<|.int 5)<|zE xu (zy<|.int 9)<|ze 8)<|zb (ze 2)<|zb (cE (zm 6)<|ze 10)<|zb (cE (zm 6)<|ze 9)<|zb (ze 5) zI)
theorem aG{z:List Int}{t p few:Int}(I:0<p){w i j:Nat}:0<=z9 z t p few w i j/\z9 z t p few w i j<p:=by unfold z9;have a:=MF (qS z (t+(w:Int)*(i:Int)+(j:Int))/7) (show p≠0 by omega);have b:=Mp (qS z (t+(w:Int)*(i:Int)+(j:Int))/7) I;split<;>omega
theorem CS{z:List Int}(C:z.length<=63){t p few:Int}(ht:0<=t)(S:t<100)(O:0<p)(J:p<10){m:Nat}(Z:m<=4)(w:UK) :
 ∃wd T,(∀k,wd k<=3)/\(∀k i j,0<=T k i j/\T k i j<p)/\kX [xT z,.int t,.int p,.str<|qc m w,.int 3,.int few]=bX (.val<|jN m w wd T):=by
 have W:=jm;have u:m+1<=lim:=by omega
 obtain⟨wd,U⟩ : ∃wd:UX,∀k:Nat,(wd k:Int)=qS z (t+(k:Int))/3%4:=⟨λk=>(qS z (t+(k:Int))/3%4).toNat,λk=>by have:=MF (qS z (t+(k:Int))/3) (show(4:Int)≠0 by decide);exact Rt this⟩
 have I : ∀k,wd k<=3:=λk=>by have:=Mp (qS z (t+(k:Int))/3) (show(0:Int)<4 by decide);have:=U k;omega
 have M8 : ∀k,eK w wd k<=10:=λk=>by rw[<- qt];have:=I<|zP w k;omega
 have U9 : ∀k,ed w wd k<=10:=λk=>by rw[<- qz];have:=I<|zK w k;omega
 refine⟨wd,λk=>z9 z (t+5+9*(k:Int)) p few<|ed w wd k,I,λk i j=>aG O,?_⟩;have H:zW (.nm 0) js (zE q8 (zE v9 (zH jb<|zb (ze 1)<|zb (zE jJ (ze 2)<|ze 0) zI)<|zy<|.int 3)<|zE jJ (ze 3)<|zy<|.int 1) [Cell.no,Cell.val<|xT z,Cell.val<|.int t,Cell.val (.int 3)] ((LW<|m+1).map λi:Nat=>D.int (i:Int))=bX ((LW<|m+1).map λk:Nat=>D.int (wd k:Int)):=by refine zB _ _ λk Y=>zD rfl rfl ?_;have Y:=Ma.mp Y;obtain⟨E,_,_⟩:=J1 C (k:=t+(k:Int)) ⋯ ⋯;show zE _ _ _ [Cell.val (.int (k:Int)),Cell.val<|xT z,Cell.val<|.int t,Cell.val (.int 3)]=_;simp[E,U]
 have wl:=ym m w;have l:=qU w (show m<=1000 by omega);have K:(jy 6<|jU<|zU (zS<|zE jJ (x9<|ze 3)<|zy<|.int 1) (.nm 0) 1 [0,1,4] js (zE q8 (zE v9 (zH jb<|zb (ze 1)<|zb (zE jJ (ze 2)<|ze 0) zI)<|zy<|.int 3)<|zE jJ (ze 3)<|zy<|.int 1)) (z6 11 [xT z,.int t,.int p,.str<|qc m w,.int 3,.int few])=bX (.next [.val (xT z),.val<|.int t,.val<|.int p,.val<|.str<|qc m w,.val<|.int 3,.val<|.int few,.val<|.lst<|zA (m+1) λk=>(wd k:Int),.no,.no,.no,.no]):=by
  have r:inR ((m:Int)+1)=cz:=yM ⋯ ⋯;have e:((m:Int)+1).toNat=m+1:=by omega
  simp[z6,Mb,wl,l,r,e,jL,je,kK,u];rw[jd (m+1) λi=>(i:Int),H];rfl
 have L:(qw 7<|j4 zI) [.val (xT z),.val<|.int t,.val<|.int p,.val<|.str<|qc m w,.val<|.int 3,.val<|.int few,.val<|.lst<|zA (m+1) λk=>(wd k:Int),.no,.no,.no,.no]=bX (.next [.val (xT z),.val<|.int t,.val<|.int p,.val<|.str<|qc m w,.val<|.int 3,.val<|.int few,.val<|.lst<|zA (m+1) λk=>(wd k:Int),.own [],.no,.no,.no]):=rfl;obtain⟨R,M,⟨d,b,a,rfl⟩⟩:=jA (T:= .nm 8) (F:=CQ) (f:=x9<|ze 3) (γ:=[.val (xT z),.val<|.int t,.val<|.int p,.val<|.str<|qc m w,.val<|.int 3,.val<|.int few,.val<|.lst<|zA (m+1) λk=>(wd k:Int),.own [],.no,.no,.no])
  (λs γ=>∃d b a,γ=[.val (xT z),.val<|.int t,.val<|.int p,.val<|.str<|qc m w,.val<|.int 3,.val<|.int few,.val<|.lst<|zA (m+1) λk=>(wd k:Int),.own<|jK s w wd λk=>z9 z (t+5+9*(k:Int)) p few<|ed w wd k,d,b,a]) m ⋯ (by simp[wl,l]) ⟨_,_,_,rfl⟩ (by
    rintro s h γ ⟨d,b,a,rfl⟩;refine⟨_,[.val (xT z),.val<|.int t,.val<|.int p,.val<|.str<|qc m w,.val<|.int 3,.val<|.int few,.val<|.lst<|zA (m+1) λk=>(wd k:Int),.own<|jK (s+1) w wd λk=>z9 z (t+5+9*(k:Int)) p few<|ed w wd k,.val<|.int (s:Int),.val<|.int ((zK w s:Nat):Int),.val (.int ((zP w s:Nat):Int))],rfl,?_,⟨_,_,_,rfl⟩⟩;have G:=xH (w:=w) (show m<=5 by omega) h;have P:=pP C (t:=t+5+9*(s:Int)) (p:=p) (few:=few) ⋯ ⋯ O J (M8 s)<|U9 s;have n:=yC (w:=w) h;have g:=yF (w:=w) h;have x:s<lim:=by omega
    have dl:(zA (m+1) λk=>(wd k:Int)).length=m+1:=by simp[zA]
    have Q:(jK s w wd λk=>z9 z (t+5+9*(k:Int)) p few<|ed w wd k).length=s:=by simp[jK]
    have o:(yW (.tp [9,10])<|zH jQ<|zb (ze 3)<|zb (ze 8) zI) [.val (xT z),.val<|.int t,.val<|.int p,.val<|.str<|qc m w,.val<|.int 3,.val<|.int few,.val<|.lst<|zA (m+1) λk=>(wd k:Int),.own<|jK s w wd λk=>z9 z (t+5+9*(k:Int)) p few<|ed w wd k,.val<|.int (s:Int),b,a]=bX (.next [.val (xT z),.val<|.int t,.val<|.int p,.val<|.str<|qc m w,.val<|.int 3,.val<|.int few,.val<|.lst<|zA (m+1) λk=>(wd k:Int),.own<|jK s w wd λk=>z9 z (t+5+9*(k:Int)) p few<|ed w wd k,.val<|.int (s:Int),.val<|.int ((zK w s:Nat):Int),.val (.int ((zP w s:Nat):Int))]):=by simp[G]
    refine zv o ?_;have y:vT 9 (s:Int)=cz:=kE _ _ ⋯ ⋯;have A:(zA (m+1) λk=>(wd k:Int))[zP w s]? = bX (.int (eK w wd s:Nat)):=by rw[<- qt];unfold zA;simp[n]
    have B:(zA (m+1) λk=>(wd k:Int))[zK w s]? = bX (.int (ed w wd s:Nat)):=by rw[<- qz];unfold zA;simp[g]
    rw[show jK (s+1) w wd (λk=>z9 z (t+5+9*(k:Int)) p few<|ed w wd k)=jK s w wd (λk=>z9 z (t+5+9*(k:Int)) p few<|ed w wd k)++[D.lst (z7 (eK w wd s) (ed w wd s)<|z9 z (t+5+9*(s:Int)) p few<|ed w wd s)]from yp _ _];simp only[xO,vo,Ky,qg,au,vm,yi,av,yh,xV,Nj,NB,xD,qT,jZ,Me,Nt,Jb,wR,y,if_true,jx,k6,dl,j9,n,g,A,B,P,uN,Q,x,PD,PB])
 have N:(KG 7<|qp<|qF<|zb (ze 6)<|zb (ze 7) zI) [.val (xT z),.val<|.int t,.val<|.int p,.val<|.str<|qc m w,.val<|.int 3,.val<|.int few,.val<|.lst<|zA (m+1) λk=>(wd k:Int),.own<|jK m w wd λk=>z9 z (t+5+9*(k:Int)) p few<|ed w wd k,d,b,a]=bX (.ret<|.val<|jN m w wd λk=>z9 z (t+5+9*(k:Int)) p few<|ed w wd k):=by
  have g:2<=lim:=by omega
  simp[KG,jZ,g,jN]
 exact jk<|zv K<|zv L<|zv M N
section
variable{p:Int}{m:Nat}{w:UK}{wd wd':UX}{T T' X J:UW}
abbrev fx(p:Int)(m:Nat)(w:UK)(wd wd':UX)(T T' X J:UW)(c6 c7 c8 c9 F9 Gs Gx G3 S0:Cell):Ctx:=
 [.val (.int p),.val<|.str<|qc m w,.val<|jN m w wd T,.val<|jN m w wd' T',.val<|.lst<|Ce m w wd wd' J,.val<|.lst<|V_ (m+1) wd wd' X,c6,c7,c8,c9,F9,Gs,Gx,G3,S0]
end
section
variable{p:Int}{m:Nat}{w:UK}{wd wd':UX}{T T' J:UW}
theorem M8(z : ∀k,wd k<=3)(k):eK w wd k<=3:=by rw[<- qt];exact z _
theorem U9(z : ∀k,wd k<=3)(k):ed w wd k<=3:=by rw[<- qz];exact z _
abbrev mx(ns:List Int)(p:Int)(m:Nat)(w:UK)(wd wd':UX)(T T':UW)(c5 c6 c7 c8 c9 F9 Gs Gx G3:Cell):Ctx:=
 [.val (xT ns),.val<|.int p,.val<|.str<|qc m w,.val<|jN m w wd T,.val<|jN m w wd' T',c5,c6,c7,c8,c9,F9,Gs,Gx,G3]
end
theorem Jm(f:Nat->Int)(a:Nat) : ∀b,zh f (a+b)=zh f a+zh (λx=>f<|a+x) b
 | 0=>by show zh f a=zh f a+0;omega
 | b+1=>by show zh f (a+b)+f (a+b)=zh f a+(zh (λx=>f<|a+x) b+f (a+b));rw[Jm f a b];omega
theorem Jl(f:Nat->Int)(w:Nat) : ∀h,zh f (h*w)=zh (λi=>zh (λj=>f<|i*w+j) w) h
 | 0=>by rw[Nat.zero_mul];rfl
 | h+1=>by rw[Sf,Jm,Jl f w h];rfl
theorem cT(f g:Nat->Int)(n:Nat):zh (λk=>f k - g k) n=zh f n - zh g n:=by rw[zx (g:=λk=>f k+(-1)*g k) λk _=>by omega,ju,zY];omega
section
variable{p:Int}{n R r c:Nat}{M W:Nat->Vc}
theorem W8{G:Vc->Prop}{v:Vc}(h : ∀g,G g->zh (λx=>g x*v x) n%p=0){u:Vc}(I:Span p n G u):zh (λx=>u x*v x) n%p=0:=by
 induction I with
 | @zero u b=>
  have:zh (λx=>u x*v x) n%p=zh (λ_=>0) n%p:=zO λx a=>by rw[Mh,b x a];simp
  rw[this,zM];rfl
 | @step u w g d O e U Y=>
  have:zh (λx=>u x*v x) n%p=zh (λx=>w x*v x+d*(g x*v x)) n%p:=zO λx a=>by rw[Mh,U x a,<- Mh,Rc,NR]
  rw[this,ju,zY,MU,Y,Mh,h g O];simp
theorem cH{x:Nat}(hx:x<n)(f:Vc):zh (λy=>f y*jB x y) n=f x:=by rw[zR hx λy _ I=>by unfold jB;rw[UY (MD I),NA]];unfold jB;rw[UJ rfl,tr]
theorem cG{x:Nat}(hx:x<n)(f:Vc):zh (λy=>f y*jB y x) n=f x:=by rw[zR hx λy _ I=>by unfold jB;rw[UY I,NA]];unfold jB;rw[UJ rfl,tr]
theorem tq(C:Pr p)(J:Rk p n R M r)(n4 : ∀j,j<c->∀i,i<R->zh (λx=>M i x*W j x) n%p=0)
 (sp : ∀v:Vc,(∀i,i<R->zh (λx=>M i x*v x) n%p=0)->∃t:Vc,∀x,x<n->v x%p=zh (λj=>t j*W j x) c%p)
 (ind : ∀t:Vc,(∀x,x<n->zh (λj=>t j*W j x) c%p=0)->∀j,j<c->t j%p=0):c+r=n:=by
 obtain⟨B,l,Y,s⟩:=J;have A : ∀v:Vc,(∀i,i<R->zh (λx=>M i x*v x) n%p=0)->∀k,k<r->zh (λx=>B k x*v x) n%p=0:=λv h k I=>by refine W8 (G:=eA R M) ?_ ((s _).mp (.gen ⟨k,I,rfl⟩));rintro g ⟨i,f,rfl⟩;exact h i f
 have MB : ∀v:Vc,(∀k,k<r->zh (λx=>B k x*v x) n%p=0)->∀i,i<R->zh (λx=>M i x*v x) n%p=0:=λv h i f=>by refine W8 (G:=eA r B) ?_ ((s _).mpr (.gen ⟨i,f,rfl⟩));rintro g ⟨k,I,rfl⟩;exact h k I
 let V:Nat->Vc:=λj=>if j<c then W j else jB (l<|j - c);have d : ∀(t:Vc) (x:Nat),zh (λj=>t j*V j x) (c+r)=zh (λj=>t j*W j x) c+zh (λk=>t (c+k)*jB (l k) x) r:=λt x=>by
  rw[Jm];congr 1
  ·exact zx λj O=>by show _*(if j<c then W j else _) x=_;rw[UJ O]
  ·exact zx λk I=>by show _*(if c+k<c then W (c+k)else jB (l<|c+k - c)) x=_;rw[UY ⋯,NL]
 have o : ∀(t:Vc) m,m<r->zh (λx=>B m x*zh (λk=>t k*jB (l k) x) r) n=t m:=λt m b=>by
  rw[zx (g:=λx=>zh (λk=>t k*(B m x*jB (l k) x)) r) λx _=>by rw[<- zY];exact zx λk _=>NV ..,jT,
   zx (g:=λk=>t k*B m (l k)) λk I=>by rw[zY,cH (Y.lt k I)],
   zR b λk I H=>by rw[Y.qi m k b I H,NA],Y.one m b,tr]
 refine pd C (XE C n) (W:=V) (λv=>⟨λ_=>?_,λ_=>?_⟩) λt U=>?_
 ·let u:Vc:=λx=>v x - zh (λk=>zh (λy=>B k y*v y) n*jB (l k) x) r
  have K : ∀k,k<r->zh (λx=>B k x*u x) n%p=0:=λk I=>by rw[zx (g:=λx=>B k x*v x - B k x*zh (λk=>zh (λy=>B k y*v y) n*jB (l k) x) r) λx _=>Int.mul_sub ..,cT,o _ k I,Te];rfl
  obtain⟨t,U⟩:=sp u<|MB u K;refine(XH (m:=c+r) V λj=>if j<c then t j else zh (λy=>B (j - c) y*v y) n).congr λx a=>?_;have E:zh (λj=>(if j<c then t j else zh (λy=>B (j - c) y*v y) n)*W j x) c=zh (λj=>t j*W j x) c:=zx λj O=>by rw[UJ O]
  have F:zh (λk=>(if c+k<c then t (c+k)else zh (λy=>B (c+k - c) y*v y) n)*jB (l k) x) r=zh (λk=>zh (λy=>B k y*v y) n*jB (l k) x) r:=zx λk _=>by rw[UY ⋯,NL]
  rw[d,E,F,MU,<- U x a,<- MU];congr 1;show v x=v x - _+_;omega
 ·exact(XH (m:=n) jB v).congr λx a=>by rw[cG a]
 ·have w : ∀m,m<r->t (c+m)%p=0:=λm b=>by
   have e:zh (λx=>B m x*zh (λj=>t j*V j x) (c+r)) n%p=0:=by
    have:zh (λx=>B m x*zh (λj=>t j*V j x) (c+r)) n%p=zh (λ_=>0) n%p:=zO λx a=>by rw[Mh,U x a];simp
    rw[this,zM];rfl
   rw[zx (g:=λx=>B m x*zh (λj=>t j*W j x) c+B m x*zh (λk=>t (c+k)*jB (l k) x) r) λx _=>by rw[d,OX],ju,o (λk=>t<|c+k) m b]at e;have z:zh (λx=>B m x*zh (λj=>t j*W j x) c) n%p=0:=by
    rw[zx (g:=λx=>zh (λj=>t j*(B m x*W j x)) c) λx _=>by rw[<- zY];exact zx λk _=>NV ..,jT];have:zh (λj=>zh (λx=>t j*(B m x*W j x)) n) c%p=zh (λ_=>0) c%p:=zO λj O=>by rw[zY,Mh,A (W j) (n4 j O) m b];simp
    rw[this,zM];rfl
   rw[MU,z]at e;simpa using e
  have L:=ind t λx a=>by
   have:=U x a;rw[d,MU]at this;have z:zh (λk=>t (c+k)*jB (l k) x) r%p=0:=by
    have:zh (λk=>t (c+k)*jB (l k) x) r%p=zh (λ_=>0) r%p:=zO λk I=>by rw[Mh,w k I];simp
    rw[this,zM];rfl
   rw[z]at this;simpa using this
  intro j O;by_cases q:j<c
  ·exact L j q
  ·have:=w (j - c) ⋯
   rwa [show c+(j - c)=j by omega]at this
end
structure RI(p:Int)(n R:Nat)(f:UV)(c r:Nat)(g:UV)(l:UX):Prop where
 iW : ∀k j,k<R->j<n->0<=g k j/\g k j<p
 sp : ∀v,Span p n (eA R g) v↔Span p n (eA R f) v
 le:r<=R
 ld : ∀k,k<r->l k<c/\l k<n/\g k (l k)=1
 M4 : ∀k k',k<k'->k'<r->g k' (l k)=0
 low : ∀k j,r<=k->k<R->j<c->j<n->g k j=0
def hR(g:UV)(s k:Nat):Nat->Int:=g<|if k<=s then k - 1 else k
noncomputable def gR(p:Int)(g:UV)(r s c:Nat)(y:Int)(k j:Nat):Int:=if k<r then g k j else if k=r then g s j*y%p else (hR g s k j - hR g s k c*(g s j*y%p))%p
section
variable{p:Int}{n R c r s:Nat}{f g:UV}{l:UX}{y:Int}
theorem RI.done(Y:Pr p)(h:RI p n R f c r g l)(C:n<=c):Rk p n R f r:=by
 obtain⟨A,_,B,y,b,i⟩:=Xd (n:=n) Y R f;have e:r=A:=pd Y b (W:=g) (m:=r) (λv=>?_) λt s=>?_
 ·subst e
  exact⟨B,y,b,i⟩
 ·rw[i,<- h.sp]
  constructor
  ·intro U
   refine U.le ?_;rintro _ ⟨k,O,rfl⟩;by_cases q:k<r
   ·exact .gen ⟨k,q,rfl⟩
   ·exact .zero λj I=>by rw[h.low k j ⋯ O ⋯ I];rfl
  ·intro U
   refine U.le ?_;rintro _ ⟨k,O,rfl⟩;exact .gen ⟨k,by have:=h.le;omega,rfl⟩
 ·have a : ∀m k,k<m->k<r->t k%p=0:=by
   intro m
   induction m with
   | zero=>intro k O;omega
   | succ m u=>
    intro k O d;obtain⟨_,w,x⟩:=h.ld k d;have:=s (l k) w;have e:zh (λj=>t j*g j (l k)) r%p=zh (λj=>if j=k then t k else 0) r%p:=zO λj I=>by
     by_cases q:j=k
     ·rw[UJ q,q,x,tr]
     ·rw[UY q]
      by_cases z:k<j
      ·rw[h.M4 k j z I,NA]
      ·rw[Mh,u j ⋯ I];simp
    rw[e,zR d λj _ o=>UY o,UJ rfl]at this;exact this
  exact λj I=>a (j+1) j ⋯ I
theorem RI.skip(h:RI p n R f c r g l)(hz : ∀k,r<=k->k<R->g k c%p=0):RI p n R f (c+1) r g l where
 iW:=h.iW
 sp:=h.sp
 le:=h.le
 ld:=λk O=>⟨by have:=(h.ld k O).1;omega,(h.ld k O).2⟩
 M4:=h.M4
 low:=λk j h1 h2 U I=>by
  by_cases q:j=c
  ·have:=hz k h1 h2
   rw[<- q]at this;rw[MR (h.iW k j h2 I).1 (h.iW k j h2 I).2]at this;exact this
  ·exact h.low k j h1 h2 ⋯ I
theorem RI.step(S:Pr p)(h:RI p n R f c r g l)(L:c<n)(J:r<=s)(z:s<R)(Z:y*g s c%p=1):RI p n R f (c+1) (r+1) (gR p g r s c y) λk=>if k<r then l k else c:=by
 have N:=S.pos;have F : ∀k,r<k->k<R->∃i,hR g s k=g i/\r<=i/\i<R/\(i=k\/i+1=k):=λk Y O=>by
  unfold hR;by_cases q:k<=s
  ·rw[UJ q];exact⟨k - 1,rfl,by omega,by omega,by omega⟩
  ·rw[UY q];exact⟨k,rfl,by omega,O,by omega⟩
 have gl : ∀k,k<r->gR p g r s c y k=g k:=λk I=>by funext j;unfold gR;rw[UJ I]
 have U:gR p g r s c y r=λj=>g s j*y%p:=by funext j;unfold gR;rw[UY ⋯,UJ rfl]
 have t : ∀k,r<k->gR p g r s c y k=λj=>(hR g s k j - hR g s k c*(g s j*y%p))%p:=λk I=>by funext j;unfold gR;rw[UY ⋯,UY ⋯]
 have one:g s c*y%p=1:=by rw[Nu];exact Z
 refine⟨λk j I M=>?_,λv=>?_,by omega,λk I=>?_,λk o I P=>?_,λk j Y O Q E=>?_⟩
 ·unfold gR
  split
  ·exact h.iW k j I M
  ·split<;>exact⟨MF _ ⋯,Mp _ N⟩
 ·rw[<- h.sp]
  have sg : ∀i,i<R->Span p n (eA R g) (g i):=λi m=> .gen ⟨i,m,rfl⟩;have A : ∀i,i<R->Span p n (eA R<|gR p g r s c y) (gR p g r s c y i):=λi m=> .gen ⟨i,m,rfl⟩;have B:Span p n (eA R g) λj=>g s j*y%p:=((sg s z).smul y).congr λj _=>by rw[Nw _ (OJ p),Nu]
  have C:Span p n (eA R<|gR p g r s c y) λj=>g s j*y%p:=by
   have:=A r ⋯
   rwa [U]at this
  constructor
  ·intro u
   refine u.le ?_;rintro _ ⟨k,I,rfl⟩;by_cases q:k<r
   ·rw[gl k q];exact sg k I
   ·by_cases x:k=r
    ·rw[x,U];exact B
    ·obtain⟨i,e,G,w,_⟩:=F k ⋯ I
     rw[t k ⋯];refine(B.add (sg i w) (-(hR g s k c))).congr λj _=>?_;rw[Nw _ (OJ p),e];congr 1;rw[Ru];omega
  ·intro u
   refine u.le ?_;rintro _ ⟨i,m,rfl⟩;have K:Span p n (eA R<|gR p g r s c y) (g s):=(C.smul<|g s c).congr λj _=>by rw[Mh,Nw _<|OJ p,<- Mh,show g s c*(g s j*y)=g s j*(g s c*y)by rw[NV],Mh,one];simp
   have H : ∀k,r<k->k<R->Span p n (eA R<|gR p g r s c y) (hR g s k):=λk Y O=>by have:=A k O;rw[t k Y]at this;refine(C.add this<|hR g s k c).congr λj _=>?_;rw[MU,Nw _<|OJ p,<- MU];congr 1;omega
   by_cases q:i<r
   ·have:=A i m
    rwa [gl i q]at this
   ·by_cases x:i=s
    ·rw[x];exact K
    ·by_cases T:i<s
     ·have:=H (i+1) ⋯ ⋯
      unfold hR at this;rw[UJ ⋯]at this;exact this
     ·have:=H i ⋯ m
      unfold hR at this;rw[UY ⋯]at this;exact this
 ·by_cases q:k<r
  ·rw[UJ q,gl k q]
   obtain⟨a,b,d⟩:=h.ld k q;exact⟨by omega,b,d⟩
  ·have e:k=r:=by omega
   rw[UY q,e,U];exact⟨by omega,L,one⟩
 ·rw[UJ ⋯]
  obtain⟨a,b,d⟩:=h.ld k ⋯;by_cases q:o<r
  ·rw[gl o q];exact h.M4 k o I q
  ·rw[show o=r by omega,U]
   dsimp only;rw[h.low s (l k) J z a b];simp
 ·obtain⟨i,e,G,w,_⟩:=F k ⋯ O
  rw[t k ⋯];dsimp only;rw[e];by_cases q:j=c
  ·rw[q,one,tr,Te];rfl
  ·rw[h.low i j G w ⋯ E,h.low s j J z ⋯ E]
   simp
end
theorem AK:vF=jj 9 (zQ El<|zQ FR<|zQ (k3 (zS uM) (.nm 3) Em)<|vK 2):=rfl
section
variable{p:Int}{n R:Nat}{f g:UV}
abbrev il(p:Int)(n R:Nat)(g:UV)(r:Nat)(c3 c4 c5 c6 c7 c8:Cell):Ctx:=[.val (.int p),.own (z7 R n g),.val (.int (r:Int)),c3,c4,c5,c6,c7,c8]
theorem vh{n j:Nat}(I:j<n)(u:Nat->Int):(zA n u)[j]? = bX (.int<|u j):=by unfold zA;simp[I]
theorem VJ{h w i:Nat}{f:UV}(z:i<(z7 h w f).length):(z7 h w f)[i] = .lst (zA w<|f i):=by simp[z7]
theorem VX{n j:Nat}{u:Nat->Int}(I:j<(zA n u).length):(zA n u)[j] = .int (u j):=by simp[zA]
theorem qH(n:Nat)(u:Nat->Int):(zA n u).length=n:=by simp[zA]
theorem HM(a b:Nat):xf (a:Int) b=(NH a b).map λ(j:Nat)=>D.int j:=by unfold xf;rw[List.range'_eq_map_range,MJ];exact My λj _=>rfl
noncomputable def Dj(p:Int)(R:Nat)(g:UV)(c r:Nat):List Nat:=(NH r<|R - r).filter λk=>decide<|g k c%p≠0
theorem rZ(U:0<p)(hR:R<=200)(S:n<=200){c r:Nat}(O:c<n)(Z:r<=R)(M z C J L:Cell):FQ (il p n R g r (.val<|.int (c:Int)) M z C J L)=bX (.next<|il p n R g r (.val<|.int (c:Int)) (.val<|.lst<|(Dj p R g c r).map λ(j:Nat)=>D.int j) z C J L):=by
 have s:=jm;have a:ku (ze 2) (yO<|zm 1) [.val (.int p),.val<|.lst<|z7 R n g,.val<|.int (r:Int),.val<|.int (c:Int),M,z,C,J,L]=bX ((NH r<|R - r).map λ(j:Nat)=>D.int j):=by have Y:inR (r:Int)=cz:=yM ⋯ ⋯;have m:inR (R:Int)=cz:=yM ⋯ ⋯;rw[J6];show(if inR (r:Int)=cz/\inR ((z7 R n g).length:Int)=cz then bX (xf r (((z7 R n g).length:Int) - (r:Int)).toNat)else none)=_;rw[jX,UJ ⟨Y,m⟩,show((R:Int) - (r:Int)).toNat=R - r by omega,HM]
 have i:zW (.nm 0) AL (ze 0) [Cell.no,.val<|.int p,.val<|.lst<|z7 R n g,.val (.int (c:Int))] ((NH r<|R - r).map λ(j:Nat)=>D.int j)=bX ((Dj p R g c r).map λ(j:Nat)=>D.int j):=by
  refine jl _ _ _ λk I=>⟨[.val (.int (k:Int)),.val<|.int p,.val<|.lst<|z7 R n g,.val (.int (c:Int))],rfl,?_,λ_=>rfl⟩;rw[PU]at I;have I:k<R:=by omega
  have e:=yz I n g;have o:=vh O<|g k;unfold AL;simp[I,VJ,VX,O,U,qH]
 have f:(((NH r<|R - r).map λ(j:Nat)=>D.int (j:Int)).length)<=lim:=by simp;omega
 have h:((Dj p R g c r).map λ(j:Nat)=>D.int (j:Int)).all VS=cz:=by rw[Oi];intro x l;obtain⟨j,_,rfl⟩:=MM.mp l;rfl
 unfold FQ;rw[vn,vo];have d:rQ 1 (zU (ku (ze 2)<|yO<|zm 1) (.nm 0) 1 [0,1,3] AL (ze 0)) (il p n R g r (.val<|.int (c:Int)) M z C J L)=bX ((Dj p R g c r).map λ(j:Nat)=>D.int j):=by show(zU (ku (ze 2)<|yO<|zm 1) (.nm 0) 1 [0,1,3] AL (ze 0) [.val (.int p),.val<|.lst<|z7 R n g,.val<|.int (r:Int),.val<|.int (c:Int),M,z,C,J,L]).bind (λb=>if b.all VS=cz then bX b else none)=_;rw[qb,a,Me,UJ f,show je 1 [0,1,3] [Cell.val (.int p),.val<|.lst<|z7 R n g,.val<|.int (r:Int),.val<|.int (c:Int),M,z,C,J,L]=[Cell.no,.val<|.int p,.val<|.lst<|z7 R n g,.val (.int (c:Int))]from rfl,i,Me,UJ h]
 rw[d];rfl
noncomputable def kR(p:Int)(g:UV)(r s:Nat)(y:Int)(k j:Nat):Int:=if k<r then g k j else if k=r then g s j*y%p else hR g s k j
theorem Gi{r s:Nat}(C:r<=s)(z:s<R)(y:Int):((z7 R n g).eraseIdx s).take r++D.lst (zA n λj=>g s j*y%p)::((z7 R n g).eraseIdx s).drop r=z7 R n (kR p g r s y):=by
 have le:((z7 R n g).eraseIdx s).length=R - 1:=by rw[List.length_eraseIdx,jX,UJ z]
 have I : ∀k,k<R - 1->((z7 R n g).eraseIdx s)[k]? = bX (.lst<|zA n<|g<|if k<s then k else k+1):=λk O=>by
  rw[List.getElem?_eraseIdx];by_cases q:k<s
  ·rw[UJ q,UJ q,yz ⋯]
  ·rw[UY q,UY q,yz ⋯]
 apply NK;intro k;by_cases O:k<R
 ·rw[yz O]
  have a:(((z7 R n g).eraseIdx s).take r).length=r:=by rw[Ou,le];omega
  by_cases q:k<r
  ·rw[Nk ⋯,List.getElem?_take,UJ q,I k ⋯,UJ ⋯]
   have:kR p g r s y k=g k:=by funext j;unfold kR;rw[UJ q]
   rw[this]
  ·rw[MY ⋯,a]
   by_cases U:k=r
   ·rw[U,Nat.sub_self,Nj]
    have:kR p g r s y r=λj=>g s j*y%p:=by funext j;unfold kR;rw[UY ⋯,UJ rfl]
    rw[this]
   ·rw[show k - r=(k - r - 1)+1 by omega,NB,List.getElem?_drop,show r+(k - r - 1)=k - 1 by omega,I (k - 1) ⋯]
    have:kR p g r s y k=hR g s k:=by funext j;unfold kR;rw[UY q,UY U]
    rw[this];unfold hR;by_cases Y:k<=s
    ·rw[UJ Y,UJ ⋯]
    ·rw[UY Y,UY ⋯,show k - 1+1=k by omega]
 ·rw[Ow (by rw[MW,Ou,Nm,RU,le];omega),Ow (by rw[jX];omega)]
noncomputable def cR(p:Int)(g:UV)(r s c:Nat)(y:Int)(t k j:Nat):Int:=if r<k/\k<t then gR p g r s c y k j else kR p g r s y k j
theorem rW(hp:Pr p)(b5:R<=200)(hn:n<=200){c r s:Nat}(hc:c<n)(h1:r<=s)(h2:s<R)(rg : ∀k j,k<R->j<n->0<=g k j/\g k j<p)(y:Int)(J L S M:Cell) : ∃Y Z,FL (il p n R (kR p g r s y) r (.val<|.int (c:Int)) J (.val<|.lst<|zA n λj=>g s j*y%p) L S M)=bX (.next<|il p n R (gR p g r s c y) r (.val<|.int (c:Int)) J (.val<|.lst<|zA n λj=>g s j*y%p) L Y Z):=by
 have hl:=jm;have l:=hp.pos;have p7:=hp.le;let I:Nat->Int:=λj=>g s j*y%p;have b2 : ∀j,0<=I j/\I j<p:=λj=>⟨MF _ ⋯,Mp _ l⟩;have d:ku (zE jJ (ze 2)<|zy<|.int 1) (yO<|zm 1) (il p n R (kR p g r s y) r (.val<|.int (c:Int)) J (.val<|.lst<|zA n I) L S M)=bX (xf ((r+1:Nat):Int)<|R - (r+1)):=by have Q:inR ((r:Int)+1)=cz:=yM ⋯ ⋯;have W:inR (R:Int)=cz:=yM ⋯ ⋯;rw[J6];show(if inR ((r:Int)+1)=cz/\inR ((z7 R n<|kR p g r s y).length:Int)=cz then bX (xf ((r:Int)+1) (((z7 R n<|kR p g r s y).length:Int) - ((r:Int)+1)).toNat)else none)=_;rw[jX,UJ ⟨Q,W⟩,show((R:Int) - ((r:Int)+1)).toNat=R - (r+1)by omega];rfl
 have A:cR p g r s c y (r+1)=kR p g r s y:=by funext k j;unfold cR;rw[UY ⋯]
 have B:z7 R n (cR p g r s c y R)=z7 R n (gR p g r s c y):=by
  unfold z7;refine My λk O=>?_;have O:=Ma.mp O;congr 2;funext j;unfold cR;by_cases q:r<k
  ·rw[UJ ⟨q,O⟩]
  ·rw[UY (λz=>q z.1)]
   unfold kR gR;by_cases U:k<r
   ·rw[UJ U,UJ U]
   ·rw[UY U,UY U,UJ ⋯,UJ ⋯]
 obtain⟨γ',e,Y,Z,rfl⟩:=wQ (T:= .nm 7) (F:=zQ dD dC) (λt w=>∃S M,w=il p n R (cR p g r s c y<|r+1+t) r (.val<|.int (c:Int)) J (.val<|.lst<|zA n I) L S M) (xf ((r+1:Nat):Int)<|R - (r+1)) 0 (il p n R (kR p g r s y) r (.val<|.int (c:Int)) J (.val<|.lst<|zA n I) L S M) ⟨S,M,by rw[Si,A]⟩ (by
  rintro t G w a ⟨S,M,rfl⟩;rw[NJ];obtain⟨ht,rfl⟩:t<R - (r+1)/\G=D.int ((r+1+t:Nat):Int):=by unfold xf at a;rw[MC]at a;obtain⟨k',U,P⟩:=RN.mp a;obtain⟨m,o⟩:=Mo.mp U;rw[MQ]at m;rw[List.getElem_range]at o;subst o;exact⟨m,by rw[<- P];congr 1⟩
  generalize ek:r+1+t=k at *;have O:k<R:=by omega
  let X:=cR p g r s c y k;have f:X k=hR g s k:=by funext j;show cR p g r s c y k k j=_;unfold cR kR;rw[UY ⋯,UY ⋯,UY ⋯]
  have x : ∀j,j<n->0<=X k j/\X k j<p:=λj b=>by
   rw[f];unfold hR;split
   ·exact rg _ j ⋯ b
   ·exact rg _ j O b
  have a1:=yz O n X;have a2:=vh hc<|X k;have bc:=x c hc;let K:=Cell.val<|.int ((k:Nat):Int);let C:=Cell.val<|.int<|X k c;have s1:dD (il p n R X r (.val<|.int (c:Int)) J (.val<|.lst<|zA n I) L K M)=bX (.next<|il p n R X r (.val<|.int (c:Int)) J (.val<|.lst<|zA n I) L K C):=by simp[dD,K,C,VJ,VX,O,hc,qH]
  have H:zW (.tp [0,1]) js (zE q8 (zE yR (ze 0)<|zE xu (ze 3)<|ze 1)<|ze 2) [Cell.no,.no,.val<|.int p,C] ((LW n).map λj=>D.tup [.int (X k j),.int (I j)])=bX (zA n λj=>(X k j - X k c*I j)%p):=by unfold zA;refine zB _ _ λj b=>zD (γ1:=[.val (.int<|X k j),.val<|.int<|I j,.val<|.int p,C]) rfl rfl ?_;have E:vT (X k c) (I j)=cz:=kE _ _ ⋯ ⋯;simp[C,E,l]
  have zp:vI (zA n<|X k) (zA n I)=(LW n).map λj=>D.tup [.int (X k j),.int (I j)]:=by unfold vI zA;rw[OZ,MJ];rfl
  have N:((LW n).map λj=>D.tup [.int (X k j),.int (I j)]).length<=lim:=by simp;omega
  have comp:zU (KF (cE (zm 1)<|ze 7)<|ze 5) (.tp [0,1]) 2 [0,8] js (zE q8 (zE yR (ze 0)<|zE xu (ze 3)<|ze 1)<|ze 2) (il p n R X r (.val<|.int (c:Int)) J (.val<|.lst<|zA n I) L K C)=bX (zA n λj=>(X k j - X k c*I j)%p):=by
   have z:KF (cE (zm 1)<|ze 7) (ze 5) (il p n R X r (.val<|.int (c:Int)) J (.val<|.lst<|zA n I) L K C)=bX ((LW n).map λj=>D.tup [.int (X k j),.int (I j)]):=by rw[<- zp];simp[K,VJ,O]
   rw[qb,z,Me,UJ N];exact H
  have st:(z7 R n X).set k (.lst<|zA n λj=>(X k j - X k c*I j)%p)=z7 R n (cR p g r s c y<|k+1):=by
   apply NK;intro i;by_cases h:i<R
   ·rw[yz h,Ob]
    by_cases q:k=i
    ·subst q
     rw[UJ rfl,UJ (by rw[jX];exact O)];congr 2;have:(λj=>(X k j - X k c*I j)%p)=cR p g r s c y (k+1) k:=by funext j;unfold cR gR;rw[UJ ⟨by omega,by omega⟩,UY ⋯,UY ⋯,f]
     rw[this]
    ·rw[UY q,yz h]
     congr 2;have:X i=cR p g r s c y (k+1) i:=by
      funext j;show cR p g r s c y k i j=_;unfold cR;by_cases z:r<i/\i<k
      ·rw[UJ z,UJ ⟨z.1,by omega⟩]
      ·rw[UY z,UY (λu=>z ⟨u.1,by omega⟩)]
     rw[this]
   ·rw[Ow (by rw[List.length_set,jX];omega),Ow (by rw[jX];omega)]
  have s2:dC (il p n R X r (.val<|.int (c:Int)) J (.val<|.lst<|zA n I) L K C)=bX (.next<|il p n R (cR p g r s c y<|k+1) r (.val<|.int (c:Int)) J (.val<|.lst<|zA n I) L K C):=by unfold dC;rw[Kw,vo,comp];show(f6 (z7 R n X).length (k:Int)).map (λj=>Fl.next<|((il p n R X r (.val<|.int (c:Int)) J (.val<|.lst<|zA n I) L K C)).set 1 (.own<|(z7 R n X).set j (.lst<|zA n λj=>(X k j - X k c*I j)%p)))=_;rw[jX,show f6 R (k:Int)=bX k by unfold f6;rw[UJ ⟨by omega,by omega⟩];rfl];show bX (Fl.next [.val (.int p),.own<|(z7 R n X).set k (.lst<|zA n λj=>(X k j - X k c*I j)%p),.val<|.int (r:Int),.val<|.int (c:Int),J,.val<|.lst<|zA n I,L,K,C])=_;rw[st]
  refine⟨_,.inl ?_,K,C,rfl⟩;show zQ dD dC (il p n R X r (.val<|.int (c:Int)) J (.val<|.lst<|zA n I) L K M)=_;rw[show r+1+(t+1)=k+1 by omega];exact zv s1 s2)
 refine⟨Y,Z,?_⟩;unfold FL;rw[ZH,d,Me,e,NJ,show(xf ((r+1:Nat):Int)<|R - (r+1)).length=R - (r+1)by simp[xf],show r+1+(R - (r+1))=R by omega];show bX (Fl.next [.val (.int p),.own<|z7 R n<|cR p g r s c y R,.val<|.int (r:Int),.val<|.int (c:Int),J,.val<|.lst<|zA n I,L,Y,Z])=_;rw[B]
end
theorem Ap:qQ=jj 17 (zQ Ef<|zQ Ee<|zQ Fw<|zQ (k3 (zS<|x9<|ze 1) (.nm 8) Fq) HH):=rfl
noncomputable def A9(p:Int)(w:UK)(wd1 wd2:UX)(T1 T2:UW)(k i j x:Nat):Int:=
 zh (λt=>T1 k t j*qR x (off wd2 wd1 (zP w k)+i*wd1 (zP w k)+t)) (wd1<|zP w k)+zh (λt=>((0 - T2 k i t)%p)*qR x (off wd2 wd1 (zK w k)+j+t*wd1 (zK w k))) (wd2<|zK w k)
noncomputable def yg(p:Int)(m:Nat)(w:UK)(wd1 wd2:UX)(T1 T2:UW)(e x:Nat):Int:=E8 (eK w wd2) (ed w wd1) (λk i j=>A9 p w wd1 wd2 T1 T2 k i j x) m e
theorem Xx{n x:Nat}(u:Nat->Int)(a:Int):(zA n u).set x (.int a)=zA n λy=>if y=x then a else u y:=by
 apply NK;intro y;rw[Ob];by_cases I:y<n
 ·rw[vh I (λy=>if y=x then a else u y),qH]
  by_cases q:x=y
  ·subst q;rw[UJ rfl,UJ I];simp
  ·rw[UY q,vh I u,UY (MD q)]
 ·have e:(zA n λy=>if y=x then a else u y)[y]? = none:=Ow (by rw[qH];omega)
  rw[e,qH];split
  ·rw[UY ⋯]
  ·exact Ow (by rw[qH];omega)
section
variable{p:Int}{m:Nat}{w:UK}{wd wd1 wd2:UX}{T T1 T2:UW}
theorem nX{γ:Ctx}{i g r:Nat}(h:γ[i]? = bX (.val<|jN m w wd T))(I:γ[g]? = bX (.val<|.int (r:Int)))(O:r<m+1):XM i g γ=bX (.int (wd r:Int)):=by
 unfold XM;rw[yh,vm,I];have e:zF (cE (zm i)<|zy<|.int 0) γ=bX (.L,zA (m+1) λk=>(wd k:Int)):=by show((cE (zm i) (zy<|.int 0) γ).bind jx)=_;rw[yh,xV,h];rfl
 rw[e];show((f6 (zA (m+1) λk=>(wd k:Int)).length (r:Int)).bind λk=>(zA (m+1) λk=>(wd k:Int))[k]?)=_;rw[qH,show f6 (m+1) (r:Int)=bX r by unfold f6;rw[UJ ⟨by omega,by omega⟩];rfl];exact vh O _
theorem HD{γ:Ctx}{i a b k t j:Nat}(h:γ[i]? = bX (.val<|jN m w wd T))(I:γ[8]? = bX (.val<|.int (k:Int)))(z:γ[a]? = bX (.val<|.int (t:Int)))(O:γ[b]? = bX (.val<|.int (j:Int)))(k1:k<m)(U:t<eK w wd k)(Y:j<ed w wd k):uJ i a b γ=bX (.int<|T k t j):=by
 have d:cE (zF<|cE (zm i)<|zy<|.int 1) (ze 8) γ=bX (.lst<|z7 (eK w wd k) (ed w wd k)<|T k):=by
  rw[yh,vm,I];have e:zF (cE (zm i)<|zy<|.int 1) γ=bX (.L,jK m w wd T):=by show((cE (zm i) (zy<|.int 1) γ).bind jx)=_;rw[yh,xV,h];rfl
  rw[e];have g:(jK m w wd T).length=m:=by simp[jK]
  show((f6 (jK m w wd T).length (k:Int)).bind λk=>(jK m w wd T)[k]?)=_;rw[g,show f6 m (k:Int)=bX k by unfold f6;rw[UJ ⟨by omega,by omega⟩];rfl];show(jK m w wd T)[k]? = _;unfold jK;simp[k1]
 have f:cE (zF<|cE (zF<|cE (zm i)<|zy<|.int 1)<|ze 8) (ze a) γ=bX (.lst<|zA (ed w wd k)<|T k t):=by rw[yh,vm,z];rw[show zF (cE (zF<|cE (zm i)<|zy<|.int 1)<|ze 8) γ=bX (.L,z7 (eK w wd k) (ed w wd k)<|T k)by show((cE (zF<|cE (zm i)<|zy<|.int 1) (ze 8) γ).bind jx)=_;rw[d];rfl];show((f6 (z7 (eK w wd k) (ed w wd k)<|T k).length (t:Int)).bind λx=>(z7 (eK w wd k) (ed w wd k)<|T k)[x]?)=_;rw[jX,show f6 (eK w wd k) (t:Int)=bX t by unfold f6;rw[UJ ⟨by omega,by omega⟩];rfl];exact yz U _ _
 unfold uJ;rw[yh,vm,O];rw[show zF (cE (zF<|cE (zF<|cE (zm i)<|zy<|.int 1)<|ze 8)<|ze a) γ=bX (.L,zA (ed w wd k)<|T k t)by show((cE (zF<|cE (zF<|cE (zm i)<|zy<|.int 1)<|ze 8) (ze a) γ).bind jx)=_;rw[f];rfl];show((f6 (zA (ed w wd k)<|T k t).length (j:Int)).bind λx=>(zA (ed w wd k)<|T k t)[x]?)=_;rw[qH,show f6 (ed w wd k) (j:Int)=bX j by unfold f6;rw[UJ ⟨by omega,by omega⟩];rfl];exact vh Y _
abbrev q5(wd1 wd2:UX)(n:Nat):List D:=zA (n+1) λk=>(off wd2 wd1 k:Int)
abbrev ow(p:Int)(m:Nat)(w:UK)(wd1 wd2:UX)(T1 T2:UW)(c5 c6 c7 c8 c9 F9 Gs Gx G3 S0 y' y_:Cell):Ctx:=[.val (.int p),.val (.str (qc m w)),.val (jN m w wd1 T1),.val (jN m w wd2 T2),.own (q5 wd1 wd2 (m+1)),c5,c6,c7,c8,c9,F9,Gs,Gx,G3,S0,y',y_]
theorem HG{γ:Ctx}{g r:Nat}(h:γ[4]? = bX (.own<|q5 wd1 wd2<|m+1))(I:γ[g]? = bX (.val<|.int (r:Int)))(O:r<m+2):cE (zm 4) (ze g) γ=bX (.int (off wd2 wd1 r:Int)):=by rw[yh,vm,I,xV,h];show((f6 (q5 wd1 wd2<|m+1).length (r:Int)).bind λk=>(q5 wd1 wd2<|m+1)[k]?)=_;rw[qH,show f6 (m+1+1) (r:Int)=bX r by unfold f6;rw[UJ ⟨by omega,by omega⟩];rfl];exact vh O _
theorem fK{γ:Ctx}{n:Nat}(h:γ[4]? = bX (.own<|q5 wd1 wd2 n)):pX γ=bX (.int (off wd2 wd1 n:Int)):=by unfold pX;rw[yh,xV,h];show((f6 (q5 wd1 wd2 n).length (-1)).bind λk=>(q5 wd1 wd2 n)[k]?)=_;rw[qH,show f6 (n+1) (-1)=bX n by unfold f6;rw[UY ⋯,UJ ⟨by omega,by omega⟩];congr 1;omega];exact vh ⋯ _
theorem Wy{e b i j t s:Nat}(C:e≠b)(z:i<wd2 e)(I:t<wd1 e)(hs:s<wd2 b)(O:j<wd1 b):off wd2 wd1 e+i*wd1 e+t≠off wd2 wd1 b+j+s*wd1 b:=by
 have U:=Ku z I;have Y:=Ku hs O;have a:off wd2 wd1 (e+1)=off wd2 wd1 e+wd2 e*wd1 e:=rfl;have d:off wd2 wd1 (b+1)=off wd2 wd1 b+wd2 b*wd1 b:=rfl;rcases Mz e b with h | h
 ·have:=ZW (hs:=wd2) (ws:=wd1) (show e+1<=b by omega)
  omega
 ·have:=ZW (hs:=wd2) (ws:=wd1) (show b+1<=e by omega)
  omega
theorem CF(w:UK)(k:Nat):zP w k≠zK w k:=by unfold zP zK;split<;>omega
end
section
variable{p:Int}{m:Nat}{w:UK}{wd1 wd2:UX}{T1 T2:UW}
theorem pY(hp:Pr p)(hm:m<=5)(h1 : ∀k,wd1 k<=9)(h2 : ∀k,wd2 k<=9)(hN:off wd2 wd1 (m+1)<=1000){k i j:Nat}(hk:k<m)(hi:i<wd2 (zP w k))(hj:j<wd1 (zK w k)){L:List D}(hr:L.length<=1000)(Z c6 S M J C:Cell) :
 ∃ab ac ae ak,Fs (ow p m w wd1 wd2 T1 T2 Z c6 (.own L) (.val<|.int (k:Int)) (.val<|.int (zK w k:Int)) (.val<|.int (zP w k:Int)) (.val<|.int (i:Int)) (.val<|.int (j:Int)) S M J C)=bX (.next<|ow p m w wd1 wd2 T1 T2 Z c6 (.own<|L++[.lst (zA (off wd2 wd1<|m+1)<|A9 p w wd1 wd2 T1 T2 k i j)]) (.val<|.int (k:Int)) (.val<|.int (zK w k:Int)) (.val<|.int (zP w k:Int)) (.val<|.int (i:Int)) (.val<|.int (j:Int)) ab ac ae ak):=by
 have hl:=jm;have p0:=hp.pos;have u:=yC (w:=w) hk;have l:=yF (w:=w) hk;have R:=CF w k;let N:=off wd2 wd1<|m+1;let e:=zP w k;let b:=zK w k;let Γ:Cell->Cell->Cell->Cell->Ctx:=λS M J C=>ow p m w wd1 wd2 T1 T2 Z c6 (.own L) (.val<|.int (k:Int)) (.val<|.int (b:Int)) (.val<|.int (e:Int)) (.val<|.int (i:Int)) (.val<|.int (j:Int)) S M J C;have X : ∀t,t<wd1 e->off wd2 wd1 e+i*wd1 e+t<N:=λt O=>V3 u hi O;have W : ∀t,t<wd2 b->off wd2 wd1 b+j+t*wd1 b<N:=λt O=>by
  have:=V3 (hs:=wd2) (ws:=wd1) l O hj;have z:off wd2 wd1 b+t*wd1 b+j=off wd2 wd1 b+j+t*wd1 b:=by omega
  rw[<- z];exact this
 have bn:(wd1 e:Int)<10:=by have:=h1 e;omega
 have s1:Fz (Γ S M J C)=bX (.next<|Γ (.own<|zA N λ_=>0) M J C):=by
  have P:pX (Γ S M J C)=bX (.int (N:Int)):=fK (n:=m+1) rfl;unfold Fz;rw[gU,uA,P];have r:inR (N:Int)=cz:=yM ⋯ ⋯;have rp:Mb N (D.int 0)=zA N λ_=>0:=by unfold zA;rw[List.map_const',MQ]
  have K:(1:Nat)<=lim:=by omega
  have Q:N<=lim:=by show off wd2 wd1 (m+1)<=lim;omega
  simp[r,K,Q];rw[rp];rfl
 let a:=off wd2 wd1 e+i*wd1 e;have s2:Fy (Γ (.own<|zA N λ_=>0) M J C)=bX (.next<|Γ (.own<|zA N λ_=>0) (.val<|.int (a:Int)) J C):=by have A:cE (zm 4) (ze 10) (Γ (.own<|zA N λ_=>0) M J C)=bX (.int (off wd2 wd1 e:Int)):=HG (m:=m) rfl rfl ⋯;have U:XM 2 10 (Γ (.own<|zA N λ_=>0) M J C)=bX (.int (wd1 e:Int)):=nX rfl rfl u;have o:vT (i:Int) (wd1 e:Int)=cz:=vS _ _ ⋯ ⋯;unfold Fy;rw[vn,yi,A,yi,U];show((xu (.int (i:Int))<|.int (wd1 e:Int)).bind λy=>jJ (.int (off wd2 wd1 e:Int)) y).map _=_;simp only[wR,o,if_true,Me,Jb];show bX (Fl.next<|Γ (.own<|zA N λ_=>0) (.val<|.int<|(off wd2 wd1 e:Int)+(i:Int)*(wd1 e:Int)) J C)=_;rw[show((off wd2 wd1 e:Int)+(i:Int)*(wd1 e:Int))=(a:Int)by show _=((off wd2 wd1 e+i*wd1 e:Nat):Int);rw[Sj,OW]]
 let u1:Nat->Nat->Int:=λs x=>zh (λt=>T1 k t j*qR x (a+t)) s;obtain⟨_l,s3,Y,rfl⟩:=jA (T:= .nm 15) (F:=pZ) (f:=XM 2 10) (λs γ=>∃J,γ=Γ (.own<|zA N<|u1 s) (.val<|.int (a:Int)) J C) (wd1 e) (by have:=h1 e;omega) (γ:=Γ (.own<|zA N λ_=>0) (.val<|.int (a:Int)) J C) (nX rfl rfl u) ⟨J,rfl⟩ (by
  rintro t O γ ⟨J,rfl⟩;refine⟨Γ (.own<|zA N<|u1 t) (.val<|.int (a:Int)) (.val<|.int (t:Int)) C,Γ (.own<|zA N<|u1<|t+1) (.val<|.int (a:Int)) (.val<|.int (t:Int)) C,rfl,?_,_,rfl⟩;have q:uJ 2 15 12 (Γ (.own<|zA N<|u1 t) (.val<|.int (a:Int)) (.val<|.int (t:Int)) C)=bX (.int<|T1 k t j):=HD rfl rfl rfl rfl hk (by rw[<- qt];exact O) (by rw[<- qz];exact hj);unfold pZ;rw[Kw,q];show(f6 (zA N<|u1 t).length ((a:Int)+(t:Int))).map (λx=>Fl.next<|Γ (.own<|(zA N<|u1 t).set x (.int<|T1 k t j)) (.val<|.int (a:Int)) (.val<|.int (t:Int)) C)=_;rw[qH,show f6 N ((a:Int)+(t:Int))=bX (a+t)by unfold f6;have:=X t O;rw[UJ ⟨by omega,by show(a:Int)+t<(N:Int);omega⟩];congr 1];show bX (Fl.next<|Γ (.own<|(zA N<|u1 t).set (a+t) (.int<|T1 k t j)) (.val<|.int (a:Int)) (.val<|.int (t:Int)) C)=_;rw[Xx];have:(λy=>if y=a+t then T1 k t j else u1 t y)=u1 (t+1):=by
   funext y;show _=u1 t y+T1 k t j*qR y (a+t);by_cases z:y=a+t
   ·rw[UJ z,z]
    have:u1 t (a+t)=0:=by show zh _ t=0;rw[zx (g:=λ_=>0) λd h=>by unfold qR;rw[UY ⋯,NA],zM]
    rw[this];unfold qR;rw[UJ rfl];omega
   ·rw[UY z]
    unfold qR;rw[UY z];omega
  rw[this])
 let I:=off wd2 wd1 b+j;have s4:Fx (Γ (.own<|zA N<|u1<|wd1 e) (.val<|.int (a:Int)) Y C)=bX (.next<|Γ (.own<|zA N<|u1<|wd1 e) (.val<|.int (I:Int)) Y C):=by have A:cE (zm 4) (ze 9) (Γ (.own<|zA N<|u1<|wd1 e) (.val<|.int (a:Int)) Y C)=bX (.int (off wd2 wd1 b:Int)):=HG (m:=m) rfl rfl ⋯;unfold Fx;rw[vn,yi,A];rfl
 let u2:Nat->Nat->Int:=λs x=>u1 (wd1 e) x+zh (λt=>((0 - T2 k i t)%p)*qR x (I+t*wd1 b)) s;obtain⟨_m,s5,B,E,rfl⟩:=jA (T:= .nm 15) (F:=Aq) (f:=XM 3 9) (λs γ=>∃J C,γ=Γ (.own<|zA N<|u2 s) (.val<|.int (I:Int)) J C) (wd2 b) (by have:=h2 b;omega) (γ:=Γ (.own<|zA N<|u1<|wd1 e) (.val<|.int (I:Int)) Y C) (nX rfl rfl l) ⟨Y,C,by
  have:u2 0=u1 (wd1 e):=by funext x;show u1 (wd1 e) x+0=_;omega
  rw[this]⟩ (by
  rintro t O γ ⟨J,C,rfl⟩;let V:=Cell.val<|.int<|T2 k i t;refine⟨Γ (.own<|zA N<|u2 t) (.val<|.int (I:Int)) (.val<|.int (t:Int)) C,Γ (.own<|zA N<|u2<|t+1) (.val<|.int (I:Int)) (.val<|.int (t:Int)) V,rfl,?_,_,_,rfl⟩;have q:uJ 3 11 15 (Γ (.own<|zA N<|u2 t) (.val<|.int (I:Int)) (.val<|.int (t:Int)) C)=bX (.int<|T2 k i t):=HD rfl rfl rfl rfl hk (by rw[<- qt];exact hi) (by rw[<- qz];exact O);refine zv (γ':=Γ (.own<|zA N<|u2 t) (.val<|.int (I:Int)) (.val<|.int (t:Int)) V) (by rw[vn,q];rfl) ?_;have U:XM 2 9 (Γ (.own<|zA N<|u2 t) (.val<|.int (I:Int)) (.val<|.int (t:Int)) V)=bX (.int (wd1 b:Int)):=nX rfl rfl l;have bv:(wd1 b:Int)<10:=by have:=h1 b;omega
  have o:vT (t:Int) (wd1 b:Int)=cz:=vS _ _ ⋯ ⋯;have H:zE jJ (ze 14) (zE xu (ze 15)<|XM 2 9) (Γ (.own<|zA N<|u2 t) (.val<|.int (I:Int)) (.val<|.int (t:Int)) V)=bX (.int ((I+t*wd1 b:Nat):Int)):=by rw[yi,yi,U];show((xu (.int (t:Int))<|.int (wd1 b:Int)).bind λy=>jJ (.int (I:Int)) y)=_;simp only[wR,o,if_true,Me,Jb];congr 2
  have vl:zE q8 (zE yR (zy<|.int 0)<|ze 16) (ze 0) (Γ (.own<|zA N<|u2 t) (.val<|.int (I:Int)) (.val<|.int (t:Int)) V)=bX (.int<|(0 - T2 k i t)%p):=by show((yR (.int 0)<|.int<|T2 k i t).bind λx=>q8 x<|.int p)=_;simp only[af,Me,nF];rw[UJ p0]
  rw[Kw,vl,H];show(f6 (zA N<|u2 t).length ((I+t*wd1 b:Nat):Int)).map (λx=>Fl.next<|Γ (.own<|(zA N<|u2 t).set x (.int<|(0 - T2 k i t)%p)) (.val<|.int (I:Int)) (.val<|.int (t:Int)) V)=_;rw[qH,show f6 N ((I+t*wd1 b:Nat):Int)=bX (I+t*wd1 b)by unfold f6;have:=W t O;rw[UJ ⟨by omega,by show((I+t*wd1 b:Nat):Int)<(N:Int);omega⟩];congr 1];show bX (Fl.next<|Γ (.own<|(zA N<|u2 t).set (I+t*wd1 b) (.int<|(0 - T2 k i t)%p)) (.val<|.int (I:Int)) (.val<|.int (t:Int)) V)=_;rw[Xx];have:(λy=>if y=I+t*wd1 b then (0 - T2 k i t)%p else u2 t y)=u2 (t+1):=by
   funext y;show _=u1 (wd1 e) y+(zh (λt=>((0 - T2 k i t)%p)*qR y (I+t*wd1 b)) t+((0 - T2 k i t)%p)*qR y (I+t*wd1 b));by_cases z:y=I+t*wd1 b
   ·rw[UJ z]
    have z1:u1 (wd1 e) y=0:=by
     show zh _ _=0;rw[zx (g:=λ_=>0) λd h=>by unfold qR;rw[UY,NA];intro q;exact Wy (wd1:=wd1) (wd2:=wd2) R hi h O hj (by rw[<- z];exact q.symm),zM]
    have z2:zh (λt=>((0 - T2 k i t)%p)*qR y (I+t*wd1 b)) t=0:=by
     rw[zx (g:=λ_=>0) λd h=>by unfold qR;rw[UY,NA];intro q;have U:t*wd1 b=d*wd1 b:=SE (show I+t*wd1 b=I+d*wd1 b by rw[<- z];exact q);have:=Nat.eq_of_mul_eq_mul_right (Nat.lt_of_le_of_lt (Nh _) hj) U;omega,zM]
    rw[z1,z2];unfold qR;rw[UJ z];omega
   ·rw[UY z]
    show u1 (wd1 e) y+zh _ t=_;unfold qR;rw[UY z];omega
  rw[this])
 have G:L.length<lim:=by omega
 have s6:HI (Γ (.own<|zA N<|u2<|wd2 b) (.val<|.int (I:Int)) B E)=bX (.next<|ow p m w wd1 wd2 T1 T2 Z c6 (.own<|L++[.lst (zA N<|u2<|wd2 b)]) (.val<|.int (k:Int)) (.val<|.int (b:Int)) (.val<|.int (e:Int)) (.val<|.int (i:Int)) (.val<|.int (j:Int)) (.val<|.lst<|zA N<|u2<|wd2 b) (.val<|.int (I:Int)) B E):=by show(if L.length<lim then _ else none)=_;rw[UJ G];rfl
 exact⟨_,_,_,_,zv s1<|zv s2<|zv s3<|zv s4<|zv s5 s6⟩
end
def GO(f:UX):Nat->Cell
 | 0=> .no
 | i+1=> .val (.int (f i:Int))
section
variable{p:Int}{m:Nat}{w:UK}{wd1 wd2:UX}{T1 T2:UW}
theorem fG(R N:Nat)(M:UV):z7 (R+1) N M=z7 R N M++[.lst (zA N<|M R)]:=by unfold z7;rw[Nx,Nb];rfl
theorem Ws{k i j:Nat}(I:k<m)(z:i<eK w wd2 k)(O:j<ed w wd1 k):yg p m w wd1 wd2 T1 T2 (off (eK w wd2) (ed w wd1) k+i*ed w wd1 k+j)=A9 p w wd1 wd2 T1 T2 k i j:=by funext x;unfold yg;exact KL (T:=λk i j=>A9 p w wd1 wd2 T1 T2 k i j x) z O m I
theorem cV(hp:Pr p)(hm:m<=5)(S : ∀k,wd1 k<=9)(h2 : ∀k,wd2 k<=9)(hN:off wd2 wd1 (m+1)<=1000)(hR:off (eK w wd2) (ed w wd1) m<=1000) :
 qQ [.int p,.str<|qc m w,jN m w wd1 T1,jN m w wd2 T2]=bX (.val<|.tup [.int (off wd2 wd1 (m+1):Int),.lst (z7 (off (eK w wd2) (ed w wd1) m) (off wd2 wd1<|m+1)<|yg p m w wd1 wd2 T1 T2)]):=by
 have hl:=jm;let N:=off wd2 wd1<|m+1;let M:=yg p m w wd1 wd2 T1 T2;let I:=off (eK w wd2)<|ed w wd1;let K:=jN m w wd1 T1;let L:=jN m w wd2 T2;let r:Nat->Cell:=GO wd1;let t:Nat->Cell:=GO wd2;let Z:Nat->Ctx:=λs=>[.val (.int p),.val<|.str<|qc m w,.val K,.val L,.own<|q5 wd1 wd2 s,r s,t s,.no,.no,.no,.no,.no,.no,.no,.no,.no,.no];have sa:Ef (z6 17 [.int p,.str<|qc m w,K,L])=bX (.next<|Z 0):=by
  have l1:1<=lim:=by omega
  unfold Ef;simp[l1,Z,z6,Mb,r,t,GO];rfl
 have sb:Ee (Z 0)=bX (.next<|Z<|m+1):=by
  have R:KF (cE (zm 2)<|zy<|.int 0) (cE (zm 3)<|zy<|.int 0) (Z 0)=bX ((LW<|m+1).map λk=>D.tup [.int (wd1 k:Int),.int (wd2 k:Int)]):=by show bX (vI (zA (m+1) λk=>(wd1 k:Int))<|zA (m+1) λk=>(wd2 k:Int))=_;unfold vI zA;rw[OZ,MJ];rfl
  unfold Ee;rw[ZH,R,Me];refine VR Z λs hs=>?_;let Y:Ctx:=[.val (.int p),.val<|.str<|qc m w,.val K,.val L,.own<|q5 wd1 wd2 s,.val<|.int (wd1 s:Int),.val<|.int (wd2 s:Int),.no,.no,.no,.no,.no,.no,.no,.no,.no,.no];have b:qZ (.tp [5,6]) (D.tup [.int (wd1 s:Int),.int (wd2 s:Int)]) (Z s)=bX Y:=rfl;rw[b,Me];have Q:cE (zm 4) (iT<|zy<|.int 1) Y=bX (.int (off wd2 wd1 s:Int)):=fK (n:=s) rfl;have b1:=S s;have cm:vT (wd1 s:Int) (wd2 s:Int)=cz:=kE _ _ ⋯ ⋯;have al:(q5 wd1 wd2 s).length<lim:=by rw[qH];omega
  have v:zE jJ (cE (zm 4)<|iT<|zy<|.int 1) (zE xu (ze 5)<|ze 6) Y=bX (.int (off wd2 wd1 (s+1):Int)):=by rw[yi,Q,yi];show((xu (.int (wd1 s:Int))<|.int (wd2 s:Int)).bind λy=>jJ (.int (off wd2 wd1 s:Int)) y)=_;simp only[wR,cm,if_true,Me,Jb];congr 2;show _=((off wd2 wd1 s+wd2 s*wd1 s:Nat):Int);rw[Sj,OW,Nu]
  rw[xO,v];show(if (q5 wd1 wd2 s).length<lim then bX (Fl.next<|Y.set 4<|.own<|q5 wd1 wd2 s++[.int (off wd2 wd1 (s+1):Int)])else none)=_;rw[UJ al];have e:q5 wd1 wd2 s++[.int (off wd2 wd1 (s+1):Int)]=q5 wd1 wd2 (s+1):=by unfold q5 zA;rw[Nx (n:=s+1),Nb];rfl
  rw[e];rfl
 have sc:Fw (Z<|m+1)=bX (.next<|ow p m w wd1 wd2 T1 T2 (r<|m+1) (t<|m+1) (.own<|z7 0 N M) .no .no .no .no .no .no .no .no .no):=rfl;have wl:=ym m w;have as:=qU w (show m<=1000 by omega);obtain⟨γ',sd,J,x,u,o,l,a,d,g,h,rfl⟩:=jA (T:= .nm 8) (F:=Fq) (f:=x9<|ze 1) (λk γ=>∃J x u o l a d g h,γ=ow p m w wd1 wd2 T1 T2 (r<|m+1) (t<|m+1) (.own<|z7 (I k) N M) J x u o l a d g h) m ⋯ (γ:=ow p m w wd1 wd2 T1 T2 (r<|m+1) (t<|m+1) (.own<|z7 0 N M) .no .no .no .no .no .no .no .no .no) (by simp[wl,as]) ⟨_,_,_,_,_,_,_,_,_,rfl⟩ (by
  rintro k U γ ⟨J,x,u,o,l,a,d,g,h,rfl⟩;have en:=yC (w:=w) U;have be:=yF (w:=w) U;have ee:=xH (w:=w) hm U;let B:=Cell.val<|.int (zK w k:Int);let E:=Cell.val<|.int (zP w k:Int);let O:=Cell.val<|.int (k:Int);have se:Fv (ow p m w wd1 wd2 T1 T2 (r<|m+1) (t<|m+1) (.own<|z7 (I k) N M) O x u o l a d g h)=bX (.next<|ow p m w wd1 wd2 T1 T2 (r<|m+1) (t<|m+1) (.own<|z7 (I k) N M) O B E o l a d g h):=by simp[Fv,ee,O,B,E]
  have o1:I (k+1)=I k+eK w wd2 k*ed w wd1 k:=rfl;have oM:I (k+1)<=1000:=Np (ZW<|show k+1<=m by omega) hR;obtain⟨_n,si,b9,P,A,C,G,H,rfl⟩:=jA (T:= .nm 11) (F:=An) (f:=XM 3 10) (λi γ=>∃o l a d g h,γ=ow p m w wd1 wd2 T1 T2 (r<|m+1) (t<|m+1) (.own<|z7 (I k+i*ed w wd1 k) N M) O B E o l a d g h) (wd2<|zP w k) (by have:=h2<|zP w k;omega) (γ:=ow p m w wd1 wd2 T1 T2 (r<|m+1) (t<|m+1) (.own<|z7 (I k) N M) O B E o l a d g h) (nX rfl rfl en) ⟨o,l,a,d,g,h,by rw[Nat.zero_mul];rfl⟩ (by
   rintro i hi γ ⟨o,l,a,d,g,h,rfl⟩;let z:=Cell.val<|.int (i:Int);have W:i<eK w wd2 k:=by rw[<- qt];exact hi
   obtain⟨_o,sj,P,A,C,G,H,rfl⟩:=jA (T:= .nm 12) (F:=Fs) (f:=XM 2 9) (λj γ=>∃l a d g h,γ=ow p m w wd1 wd2 T1 T2 (r<|m+1) (t<|m+1) (.own<|z7 (I k+i*ed w wd1 k+j) N M) O B E z l a d g h) (wd1<|zK w k) (by have:=S<|zK w k;omega) (γ:=ow p m w wd1 wd2 T1 T2 (r<|m+1) (t<|m+1) (.own<|z7 (I k+i*ed w wd1 k) N M) O B E z l a d g h) (nX rfl rfl be) ⟨_,_,_,_,_,rfl⟩ (by
    rintro j hj γ ⟨l,a,d,g,h,rfl⟩;have X:j<ed w wd1 k:=by rw[<- qz];exact hj
    have rl:(z7 (I k+i*ed w wd1 k+j) N M).length<=1000:=by rw[jX];have:=Ku W X;omega
    obtain⟨A,C,G,H,q⟩:=pY (T1:=T1) (T2:=T2) hp hm S h2 hN U hi hj rl (r<|m+1) (t<|m+1) a d g h;refine⟨ow p m w wd1 wd2 T1 T2 (r<|m+1) (t<|m+1) (.own<|z7 (I k+i*ed w wd1 k+j) N M) O B E z (.val<|.int (j:Int)) a d g h,_,rfl,q,.val<|.int (j:Int),A,C,G,H,?_⟩;have e:z7 (I k+i*ed w wd1 k+j) N M++[.lst (zA (off wd2 wd1<|m+1)<|A9 p w wd1 wd2 T1 T2 k i j)]=z7 (I k+i*ed w wd1 k+(j+1)) N M:=by rw[show I k+i*ed w wd1 k+(j+1)=I k+i*ed w wd1 k+j+1 from rfl,fG];congr 3;rw[show M (I k+i*ed w wd1 k+j)=A9 p w wd1 wd2 T1 T2 k i j from Ws U W X]
    rw[e])
   refine⟨ow p m w wd1 wd2 T1 T2 (r<|m+1) (t<|m+1) (.own<|z7 (I k+i*ed w wd1 k) N M) O B E z l a d g h,_,rfl,sj,z,P,A,C,G,H,?_⟩;rw[show I k+i*ed w wd1 k+wd1 (zK w k)=I k+(i+1)*ed w wd1 k by rw[qz w wd1 k,Sf,RR]])
  refine⟨ow p m w wd1 wd2 T1 T2 (r<|m+1) (t<|m+1) (.own<|z7 (I k) N M) O x u o l a d g h,_,rfl,zv se si,O,B,E,b9,P,A,C,G,H,?_⟩;rw[show I k+wd2 (zP w k)*ed w wd1 k=I (k+1)by rw[qt w wd2 k];rfl])
 rw[Ap];refine jk<|zv sa<|zv sb<|zv sc<|zv sd ?_;have Q:pX (ow p m w wd1 wd2 T1 T2 (r<|m+1) (t<|m+1) (.val<|.lst<|z7 (I m) N M) J x u o l a d g h)=bX (.int (N:Int)):=fK (n:=m+1) rfl;have l2:2<=lim:=by omega
 show qp (qF<|zb pX<|zb (ze 7) zI) (ow p m w wd1 wd2 T1 T2 (r<|m+1) (t<|m+1) (.val<|.lst<|z7 (I m) N M) J x u o l a d g h)=_;rw[J5,Y9,qg,Q];rfl
theorem Ao{k i j:Nat}(O:k<m)(z:i<wd2 (zP w k))(U:j<wd1 (zK w k))(v:Nat->Int):zh (λx=>A9 p w wd1 wd2 T1 T2 k i j x*v x) (off wd2 wd1<|m+1)=zh (λt=>T1 k t j*v (off wd2 wd1 (zP w k)+i*wd1 (zP w k)+t)) (wd1<|zP w k)+zh (λt=>((0 - T2 k i t)%p)*v (off wd2 wd1 (zK w k)+j+t*wd1 (zK w k))) (wd2<|zK w k):=by
 have Y:=yC (w:=w) O;have a:=yF (w:=w) O;unfold A9;rw[zx (g:=λx=>zh (λt=>T1 k t j*qR x (off wd2 wd1 (zP w k)+i*wd1 (zP w k)+t)) (wd1<|zP w k)*v x+zh (λt=>((0 - T2 k i t)%p)*qR x (off wd2 wd1 (zK w k)+j+t*wd1 (zK w k))) (wd2<|zK w k)*v x) λx _=>Rc ..,ju,Wg (N:=off wd2 wd1<|m+1) (λt=>T1 k t j) (λt=>off wd2 wd1 (zP w k)+i*wd1 (zP w k)+t) v<|λt I=>V3 Y z I,Wg (N:=off wd2 wd1<|m+1) (λt=>(0 - T2 k i t)%p) (λt=>off wd2 wd1 (zK w k)+j+t*wd1 (zK w k)) v λt I=>by have:=V3 (hs:=wd2) (ws:=wd1) a I U;rw[show off wd2 wd1 (zK w k)+j+t*wd1 (zK w k)=off wd2 wd1 (zK w k)+t*wd1 (zK w k)+j by omega];exact this]
end
theorem tI : ∀p ∈ [2,3,5,7],∀x:Fin 7,x.val≠0->x.val<p->∃y:Fin 7,1<=y.val/\y.val<p/\y.val*x.val%p=1:=by decide +kernel
theorem Ck{p x:Int}(I:Pr p)(C:0<=x)(J:x<p)(hx:x≠0) : ∃y:Nat,1<=y/\(y:Int)<p/\(y:Int)*x%p=1:=by
 have a:=I.le;have two:=I.two;obtain⟨q,rfl⟩ : ∃q:Nat,p=(q:Int):=⟨p.toNat,by omega⟩;obtain⟨z,rfl⟩ : ∃z:Nat,x=(z:Int):=⟨x.toNat,by omega⟩;have U:q ∈ [2,3,5,7]:=by unfold Pr at I;simp;omega
 obtain⟨y,Y,b,O⟩:=tI q U ⟨z,by omega⟩ (by dsimp only;omega) (by dsimp only;omega);refine⟨y.val,Y,by omega,?_⟩;dsimp only at O;have:((y.val*z%q:Nat):Int)=1:=by rw[O];rfl
 rw[Int.natCast_emod,OW]at this;exact this
section
variable{p:Int}{n R:Nat}{f g:UV}
theorem Jv{F G:CO Fl}{γ γ' I:Ctx}(h:F γ=bX (.next γ'))(g:G γ'=bX (.next I)):zQ F G γ=bX (.next I):=by rw[jC,h];exact g
theorem rV(Y:Pr p)(a5:R<=200)(hn:n<=200){c r s:Nat}(hc:c<n)(h1:r<=s)(h2:s<R)(rg : ∀k j,k<R->j<n->0<=g k j/\g k j<p)(hx:g s c%p≠0)(L:List Nat)(Z M z J:Cell) : ∃y a6 a7 a8 O U,y*g s c%p=1/\
 HN (il p n R g r (.val<|.int (c:Int)) (.val<|.lst<|(s::L).map λ(j:Nat)=>D.int j) Z M z J)=bX (.next<|il p n R (gR p g r s c y) (r+1) (.val<|.int (c:Int)) a6 a7 a8 O U):=by
 have hl:=jm;have x:=Y.pos;have p7:=Y.le;have b:=rg s c h2 hc;rw[MR b.1 b.2]at hx;obtain⟨X,y1,y2,y3⟩:=Ck Y b.1 b.2 hx;let C:=Cell.val<|.int (c:Int);let S:=Cell.val<|.lst<|(s::L).map λ(j:Nat)=>D.int j;let E:=(z7 R n g).eraseIdx s;have le:E.length=R - 1:=by show((z7 R n g).eraseIdx s).length=_;rw[List.length_eraseIdx,jX,UJ h2]
 have N:FP (il p n R g r C S Z M z J)=bX (.next [.val (.int p),.own E,.val<|.int (r:Int),C,S,.val<|.lst<|zA n<|g s,M,z,J]):=by
  unfold FP;rw[CI];show((bX (z7 R n g)).bind λf=>((cE (zm 4) (zy<|.int 0)<|il p n R g r C S Z M z J).bind i0).bind λk=>if (0<=k/\k<f.length)/\f.length<=lim then (f[k.toNat]?).map λd=>Fl.next (((il p n R g r C S Z M z J).set 1 (.own<|f.eraseIdx k.toNat)).set 5 (.val d))else none)=_;have F:cE (zm 4) (zy<|.int 0) (il p n R g r C S Z M z J)=bX (.int (s:Int)):=by simp[S,f6]
  rw[F];show(if (0<=(s:Int)/\(s:Int)<((z7 R n g).length:Int))/\(z7 R n g).length<=lim then ((z7 R n g)[(s:Int).toNat]?).map λd=>Fl.next (((il p n R g r C S Z M z J).set 1 (.own<|(z7 R n g).eraseIdx (s:Int).toNat)).set 5 (.val d))else none)=_;rw[jX,UJ ⟨⟨by omega,by omega⟩,by omega⟩,NM,yz h2];rfl
 let q:Nat->Bool:=λy=>decide<|(y:Int)*g s c%p=1;obtain⟨pn,bc⟩ : ∃pn:Nat,p=(pn:Int):=⟨p.toNat,by omega⟩;obtain⟨y,u,w⟩ : ∃y u,(NH 1<|pn - 1).filter q=y::u:=by
  have m:X∈(NH 1<|pn - 1).filter q:=Mu.mpr ⟨by rw[PU];omega,by simpa[q]using y3⟩;cases e:(NH 1<|pn - 1).filter q with
  | nil=>rw[e]at m;cases m
  | cons a t=>exact⟨a,t,rfl⟩
 have G:y∈(NH 1<|pn - 1).filter q:=by rw[w];exact Mn
 obtain⟨A,B⟩:=Mu.mp G;rw[PU]at A;have yq:(y:Int)*g s c%p=1:=by simpa[q]using B
 have P:FO [.val (.int p),.own E,.val<|.int (r:Int),C,S,.val<|.lst<|zA n<|g s,M,z,J]=bX (.next [.val (.int p),.own E,.val<|.int (r:Int),C,S,.val<|.lst<|zA n<|g s,.val<|.int (y:Int),z,J]):=by
  have o:ku (zy<|.int 1) (ze 0) [.val (.int p),.own E,.val<|.int (r:Int),C,S,.val<|.lst<|zA n<|g s,M,z,J]=bX ((NH 1<|pn - 1).map λ(j:Nat)=>D.int j):=by
   have H:inR 1=cz:=by decide
   have K:inR p=cz:=yM ⋯ ⋯;rw[J6];show(if inR 1=cz/\inR p=cz then bX (xf 1 (p - 1).toNat)else none)=_;rw[UJ ⟨H,K⟩,show(p - 1).toNat=pn - 1 by omega,show(1:Int)=((1:Nat):Int)from rfl,HM]
  have i:zW (.nm 0) rX (ze 0) [Cell.no,.val<|.int p,C,.val (.lst<|zA n<|g s)] ((NH 1<|pn - 1).map λ(j:Nat)=>D.int j)=bX (((NH 1<|pn - 1).filter q).map λ(j:Nat)=>D.int j):=by refine jl _ _ _ λk hk=>⟨[.val (.int (k:Int)),.val<|.int p,C,.val (.lst<|zA n<|g s)],rfl,?_,λ_=>rfl⟩;have h:vT (k:Int) (g s c)=cz:=vS _ _ ⋯ ⋯;simp[rX,C,VX,hc,qH,h,x,q]
  have l:((NH 1<|pn - 1).map λ(j:Nat)=>D.int (j:Int)).length<=lim:=by simp;omega
  unfold FO;rw[vn,yh,kF,qb,o,Me,UJ l,show je 1 [0,3,5] [Cell.val (.int p),.own E,.val<|.int (r:Int),C,S,.val<|.lst<|zA n<|g s,M,z,J]=[Cell.no,.val<|.int p,C,.val (.lst<|zA n<|g s)]from rfl,i,w];simp[f6]
 let I:Nat->Int:=λj=>g s j*(y:Int)%p;have sg:FN [.val (.int p),.own E,.val<|.int (r:Int),C,S,.val<|.lst<|zA n<|g s,.val<|.int (y:Int),z,J]=bX (.next [.val (.int p),.own E,.val<|.int (r:Int),C,S,.val<|.lst<|zA n I,.val<|.int (y:Int),z,J]):=by
  have i:zW (.nm 0) js (zE q8 (zE xu (ze 0)<|ze 2)<|ze 1) [Cell.no,.val<|.int p,.val (.int (y:Int))] (zA n<|g s)=bX (zA n I):=by unfold zA;refine zB _ _ λj hj=>zD (γ1:=[.val (.int<|g s j),.val<|.int p,.val (.int (y:Int))]) rfl rfl ?_;have h:vT (g s j) (y:Int)=cz:=vS _ _ ⋯ ⋯;simp[h,x,I]
  have l:(zA n<|g s).length<=lim:=by rw[qH];omega
  unfold FN;rw[vn,vo,qb,show zV (zm 5) [.val (.int p),.own E,.val<|.int (r:Int),C,S,.val<|.lst<|zA n<|g s,.val<|.int (y:Int),z,J]=bX (zA n<|g s)from rfl,Me,UJ l,show je 1 [0,6] [Cell.val (.int p),.own E,.val<|.int (r:Int),C,S,.val<|.lst<|zA n<|g s,.val<|.int (y:Int),z,J]=[Cell.no,.val<|.int p,.val (.int (y:Int))]from rfl,i];rfl
 have Q:FM [.val (.int p),.own E,.val<|.int (r:Int),C,S,.val<|.lst<|zA n I,.val<|.int (y:Int),z,J]=bX (.next<|il p n R (kR p g r s y) r C S (.val<|.lst<|zA n I) (.val<|.int (y:Int)) z J):=by unfold FM;rw[CK];show(if (0<=(r:Int)/\(r:Int)<=(E.length:Int))/\E.length<lim then bX (Fl.next [.val (.int p),.own (E.take (r:Int).toNat++D.lst (zA n I)::E.drop (r:Int).toNat),.val<|.int (r:Int),C,S,.val<|.lst<|zA n I,.val<|.int (y:Int),z,J])else none)=_;rw[le,UJ ⟨⟨by omega,by omega⟩,by omega⟩,NM];have:=Gi (p:=p) (n:=n) (g:=g) h1 h2 (y:Int);rw[show E.take r++D.lst (zA n I)::E.drop r=z7 R n (kR p g r s y)from this]
 obtain⟨O,U,T⟩:=rW (n:=n) Y a5 hn hc h1 h2 rg (y:Int) S (.val<|.int (y:Int)) z J;have W:FK (il p n R (gR p g r s c y) r C S (.val<|.lst<|zA n I) (.val<|.int (y:Int)) O U)=bX (.next<|il p n R (gR p g r s c y) (r+1) C S (.val<|.lst<|zA n I) (.val<|.int (y:Int)) O U):=by simp[FK]
 exact⟨y,S,.val<|.lst<|zA n I,.val<|.int (y:Int),O,U,yq,Jv N<|Jv P<|Jv sg<|Jv Q<|Jv T W⟩
theorem AQ(O:Pr p)(J:R<=200)(M:n<=200)(S : ∀k j,k<R->j<n->0<=f k j/\f k j<p) : ∃r,Rk p n R f r/\vF [.int p,.lst (z7 R n f)]=bX (.val<|.int (r:Int)):=by
 have hl:=jm;have p0:=O.pos;have two:=O.two;have H:(z7 R n f).length<=lim:=by rw[jX];omega
 have K:El (z6 9 [.int p,.lst (z7 R n f)])=bX (.next [.val (.int p),.own<|z7 R n f,.no,.no,.no,.no,.no,.no,.no]):=by
  have A:zW (.nm 0) js (jU<|XR<|zm 0) [Cell.no] (z7 R n f)=bX (z7 R n f):=by unfold z7;exact zB _ _ λk G=>zD (γ1:=[.val (.lst<|zA n<|f k)]) rfl rfl rfl
  unfold El;rw[gU,qb,show zV (zm 1) (z6 9 [.int p,.lst (z7 R n f)])=bX (z7 R n f)from rfl,Me,UJ H,show je 1 [] (z6 9 [.int p,.lst (z7 R n f)])=[Cell.no]from rfl,A];rfl
 have N:FR [.val (.int p),.own<|z7 R n f,.no,.no,.no,.no,.no,.no,.no]=bX (.next<|il p n R f 0 .no .no .no .no .no .no):=rfl;have u : ∀c,c<n->∀w,(∃r g l t o b d h m,RI p n R f c r g l/\w=il p n R g r t o b d h m)->∃γ1 x,qZ (.nm 3) (.int (c:Int)) w=bX γ1/\Em γ1=bX (.next x)/\∃r g l t o b d h m,RI p n R f (c+1) r g l/\x=il p n R g r t o b d h m:=by
  rintro c E w ⟨r,g,l,t,o,b,d,h,m,I,rfl⟩;have Y:=rZ (n:=n) (g:=g) p0 J M E I.le o b d h m;refine⟨il p n R g r (.val<|.int (c:Int)) o b d h m,?_⟩;cases eL:Dj p R g c r with
  | nil=>
   rw[eL]at Y;refine⟨_,rfl,Jv Y rfl,r,g,l,_,_,_,_,_,_,I.skip<|λk k1 k2=>?_,rfl⟩;have:k∉Dj p R g c r:=by rw[eL];exact Ms
   unfold Dj at this;rw[Mu,PU]at this;exact Decidable.byContradiction λz=>this ⟨by omega,by simpa using z⟩
  | cons s L=>
   rw[eL]at Y;have U:s∈Dj p R g c r:=by rw[eL];exact Mn
   unfold Dj at U;rw[Mu,PU]at U;have hx:g s c%p≠0:=by simpa using U.2
   obtain⟨y,Q,W,X,Z,ae,yq,st⟩:=rV (n:=n) (g:=g) O J M E U.1.1 ⋯ I.iW hx L b d h m;refine⟨il p n R (gR p g r s c y) (r+1) (.val<|.int (c:Int)) Q W X Z ae,rfl,Jv Y ?_,r+1,_,_,_,_,_,_,_,_,I.step O E U.1.1 ⋯ yq,rfl⟩;have ne:nr (.lst<|(s::L).map λ(j:Nat)=>D.int j) (.lst [])=bX (.bl cz):=by
    have ok:m7 (.lst<|(s::L).map λ(j:Nat)=>D.int j)=cz:=by
     have:=mI (s::L).length λi=>(((s::L).getD i 0:Nat):Int);unfold zA at this;have e:((LW (s::L).length).map λi=>D.int (((s::L).getD i 0:Nat):Int))=(s::L).map λ(j:Nat)=>D.int j:=by
      conv=>rhs;rw[<- ja 0 (s::L),MJ]
      rfl
     rwa [e]at this
    unfold nr;rw[UJ ⟨ok,rfl⟩];rfl
   rw[uD,Hx];have tt:zE nr (ze 4) (jU<|j4 zI) (il p n R g r (.val<|.int (c:Int)) (.val<|.lst<|(s::L).map λ(j:Nat)=>D.int j) b d h m)=bX (.bl cz):=by rw[yi];exact ne
   rw[tt];exact st
 have P:RI p n R f 0 0 f λ_=>0:=⟨S,λv=>Iff.rfl,by omega,λk G=>by omega,λk k' B C=>by omega,λk j B C h3 h4=>by omega⟩;rw[AK];by_cases r0:R=0
 ·subst r0
  refine⟨0,RI.done (c:=n) (g:=f) (l:=λ_=>0) O ⟨S,λv=>Iff.rfl,by omega,λk G=>by omega,λk k' B C=>by omega,λk j B C h3 h4=>by omega⟩<|Mf _,?_⟩;refine jk<|zv K<|zv N<|zv (γ':=il p n 0 f 0 .no .no .no .no .no .no) ?_ rfl;have mx:uM (il p n 0 f 0 .no .no .no .no .no .no)=bX (.int 0):=rfl;rw[ZH,w6,mx];rfl
 ·have mx:uM (il p n R f 0 .no .no .no .no .no .no)=bX (.int (n:Int)):=by
   have A:zW (.nm 0) js (yO<|zm 0) [Cell.no] (z7 R n f)=bX ((LW R).map λ_=>D.int (n:Int)):=by unfold z7;refine zB _ _ λk G=>zD (γ1:=[.val (.lst<|zA n<|f k)]) rfl rfl ?_;show bX (D.int ((zA n<|f k).length:Int))=_;rw[qH]
   have cp:zU (zV<|zm 1) (.nm 0) 1 [] js (yO<|zm 0) (il p n R f 0 .no .no .no .no .no .no)=bX ((LW R).map λ_=>D.int (n:Int)):=by rw[qb,show zV (zm 1) (il p n R f 0 .no .no .no .no .no .no)=bX (z7 R n f)from rfl,Me,UJ H];exact A
   have ct:QI (jS<|j4<|zb (zy<|.int 0) zI) (jS<|zU (zV<|zm 1) (.nm 0) 1 [] js (yO<|zm 0)) (il p n R f 0 .no .no .no .no .no .no)=bX (D.int 0::(LW R).map λ_=>D.int (n:Int)):=by
    have l1:1<=lim:=by omega
    rw[uE,kF,kF,cp];simp[l1];omega
   have ie:vL (D.int 0::(LW R).map λ_=>D.int (n:Int))=bX (0::(LW R).map λ_=>(n:Int)):=by
    have : ∀L:List Nat,vL (L.map λ_=>D.int (n:Int))=bX (L.map λ_=>(n:Int)):=λL=>by
     induction L with
     | nil=>rfl
     | cons a L ih=>show((i0<|.int (n:Int)).bind λi=>(vL _).map λl=>i::l)=_;rw[ih];rfl
    show((i0<|.int 0).bind λi=>(vL _).map λl=>i::l)=_;rw[this];rfl
   have me:(0::(LW R).map λ_=>(n:Int)).max? = bX (n:Int):=by
    rw[List.max?_eq_some_iff];refine⟨Mm _<|MM.mpr ⟨0,Ma.mpr ⋯,rfl⟩,λa ha=>?_⟩;rcases Mj.mp ha with rfl | ha
    ·omega
    ·obtain⟨_,_,rfl⟩:=MM.mp ha
     exact Int.le_refl _
   unfold uM;rw[uB,kF,ct];show(vL (D.int 0::(LW R).map λ_=>D.int (n:Int))).bind (λzs=>zs.max?.map D.int)=_;rw[ie,Me,me];rfl
  obtain⟨γ',e,r,g,l,t,o,b,d,h,m,I,rfl⟩:=jA (T:= .nm 3) (F:=Em) (f:=uM) (λc w=>∃r g l t o b d h m,RI p n R f c r g l/\w=il p n R g r t o b d h m) n ⋯ mx ⟨0,f,λ_=>0,_,_,_,_,_,_,P,rfl⟩ u;exact⟨r,I.done O<|Mf _,jk<|zv K<|zv N<|zv e rfl⟩
end
def mM(p:Int)(n:Nat)(f g:UV):Nat->Nat->Int:=λi j=>zh (λk=>f i k*g k j) n%p
section
variable{p:Int}{n:Nat}{f f' g g':UV}{i j:Nat}
theorem xk(p:Int)(n w:Nat)(a b c:UV)(i j:Nat):mM p n a (mM p w b c) i j=mM p w (mM p n a b) c i j:=KU p a b c n w i j
theorem qe(z : ∀k,k<n->f i k=f' i k)(O : ∀k,k<n->g k j=g' k j):mM p n f g i j=mM p n f' g' i j:=by unfold mM;rw[zx λk I=>by rw[z k I,O k I]]
theorem mR(I:0<p)(n:Nat)(f g:UV)(i j:Nat):0<=mM p n f g i j/\mM p n f g i j<p:=⟨MF _ ⋯,Mp _ I⟩
theorem fB(I:j<n)(f:UV)(i:Nat):mM p n f hH i j=f i j%p:=by unfold mM;rw[zR (i:=j) I λk _ O=>by unfold hH;rw[UY O];simp];simp[hH]
theorem BL(z:i<n)(g:UV)(j:Nat):mM p n hH g i j=g i j%p:=by unfold mM;rw[zR (i:=i) z λk _ I=>by unfold hH;rw[UY (MD I)];simp];simp[hH]
theorem Ke(two:2<=p)(u:ZI p n f g)(z:i<n)(I:j<n):mM p n f g i j=hH i j:=by have:=u i j z I;unfold mM;rw[this];unfold hH;split<;>first | exact MR ⋯ ⋯ | rfl
theorem iB(p:Int)(w:UK)(wd:UX)(f g T:UW)(k i j:Nat):vW p w wd f g T k i j=mM p (wd<|zK w k) (mM p (wd<|zP w k) (f<|zP w k)<|T k) (g<|zK w k) i j:=by unfold vW mM;congr 2;funext b;rw[Nu];congr 3;funext a;exact Nu _ _
end
section
variable{p:Int}{m:Nat}{w:UK}{bs:List (Int×Int)}
abbrev n9(p:Int)(z:Str)(m:Nat)(bs:List (Int×Int)):Ctx:=[.val (.int p),.val (.str z),.val (.lst (jn bs)),.val (.int ((m+1:Nat):Int))]
end
section
variable{α β:Type}
theorem KY(f g:α->Int) : ∀L:List α,yQ (L.map λx=>f x+g x)=yQ (L.map f)+yQ (L.map g)
 | []=>rfl
 | x::L=>by simp only[MI,yQ,KY f g L];omega
theorem Wo : ∀L:List α,yQ (L.map λ_=>(0:Int))=0
 | []=>rfl
 | x::L=>by simp only[MI,yQ,Wo L];omega
theorem KW(f:α->β->Int) : ∀(K:List α) (L:List β),yQ (K.map λa=>yQ<|L.map λb=>f a b)=yQ (L.map λb=>yQ<|K.map λa=>f a b)
 | [],L=>(Wo L).symm
 | a::K,L=>by simp only[MI,yQ];rw[KW f K L,KY]
theorem cS{K L:List Int}(h:K.Perm L):yQ K=yQ L:=by
 induction h with
 | nil=>rfl
 | cons x _ I=>simp only[yQ,I]
 | swap x y l=>simp only[yQ];omega
 | trans _ _ a b=>exact a.trans b
end
noncomputable def sf(w:UK)(b c:Int×Int):Int:=if t9 w b.1.toNat b.2.toNat c.1.toNat c.2.toNat=cz then 1 else 0
theorem Bk{n:Int}{b:Int×Int}(h:ZJ n b):D.tup [.int b.1,.int b.2]=pr b.1.toNat b.2.toNat:=by obtain⟨a,d,_⟩:=h;unfold pr;rw[Rt a,Rt ⋯]
section
variable{p:Int}{m:Nat}{w:UK}{wd1 wd2:UX}{T1 T2:UW}{bs ri r9:List (Int×Int)}{c:Int×Int}{UU U0 U7 U8:List TB}
theorem GS(z:m<=5){b:Int×Int}(I:ZJ ((m+1:Nat):Int) b)(O:ZJ ((m+1:Nat):Int) c):kn [.str (qc m w),.tup [.int b.1,.int b.2],.tup [.int c.1,.int c.2]]=bX (.val<|.int<|sf w b c):=by rw[Bk I,Bk O];obtain⟨a,d,U⟩:=I;obtain⟨Y,g2,g3⟩:=O;exact KD z ⋯ ⋯ ⋯ ⋯
theorem tJ(z:m<=5)(h : ∀b∈bs,ZJ ((m+1:Nat):Int) b)(I:bs.length<=lim)(O:ZJ ((m+1:Nat):Int) c):kG [.str (qc m w),.lst<|jn bs,.tup [.int c.1,.int c.2]]=bX (.val<|.int<|yQ<|bs.map λb=>sf w b c):=by
 have d:zW (.nm 0) js (zH kn<|zb (ze 1)<|zb (ze 0)<|zb (ze 2) zI) [Cell.no,.val<|.str<|qc m w,.val (.tup [.int c.1,.int c.2])] (jn bs)=bX (bs.map λb=>D.int<|sf w b c):=by unfold jn;exact zB _ _ λb U=>zD (γ1:=[.val (.tup [.int b.1,.int b.2]),.val<|.str<|qc m w,.val (.tup [.int c.1,.int c.2])]) rfl rfl (by simp[GS z (h b U) O])
 have Y:(jn bs).length<=lim:=by simpa using I
 have e:Wq (bs.map λb=>D.int<|sf w b c)=bX (yQ<|bs.map λb=>sf w b c):=by rw[<- Jn,MJ];rfl
 unfold kG;refine jk ?_;have a:zV (zm 1) [Cell.val (.str<|qc m w),.val<|.lst<|jn bs,.val (.tup [.int c.1,.int c.2])]=bX (jn bs):=rfl;show qp _ [Cell.val (.str<|qc m w),.val<|.lst<|jn bs,.val (.tup [.int c.1,.int c.2])]=_;rw[J5,Va,kF,qb,a];simp only[Me,Y,if_true];rw[show je 1 [0,2] [Cell.val (.str<|qc m w),.val<|.lst<|jn bs,.val (.tup [.int c.1,.int c.2])]=[Cell.no,.val<|.str<|qc m w,.val (.tup [.int c.1,.int c.2])]from rfl,d];simp[e]
theorem nI(L:m<=5)(C : ∀b∈ri,ZJ ((m+1:Nat):Int) b)(J : ∀b∈r9,ZJ ((m+1:Nat):Int) b)(O:ri.length<=lim)(M:r9.length<=lim)(z:xq [j5 p m w wd1 T1]=bX (.val<|wA ri UU U7))(U:xq [j5 p m w wd2 T2]=bX (.val<|wA r9 U0 U8)) :
 qB [j5 p m w wd1 T1,j5 p m w wd2 T2]=bX (.val<|.int<|yQ<|r9.map λc=>yQ<|ri.map λb=>sf w b c):=by
 have Y:=(Y7 (p:=p) (w:=w) (wd:=wd1) (T:=T1) (wd':=wd2) (T':=T2)<|show m<=900 by omega).2;have k:=kT (p:=p) (w:=w) (wd:=wd1) (T:=T1) (show m<=900 by omega);let I:=j5 p m w wd1 T1;let R2:=j5 p m w wd2 T2;have f:zW (.nm 0) js (zH kG<|zb (zH xn<|zb (ze 1) zI)<|zb (ze 2)<|zb (ze 0) zI) [Cell.no,.val I,.val (.lst<|jn ri)] (jn r9)=bX (r9.map λc=>D.int<|yQ<|ri.map λb=>sf w b c):=by
  conv=>lhs;unfold jn
  exact zB _ _ λc g=>zD (γ1:=[.val (.tup [.int c.1,.int c.2]),.val I,.val (.lst<|jn ri)]) rfl rfl (by simp[I,k,tJ L C O (J c g)])
 have d:(jn r9).length<=lim:=by simpa using M
 have j:Wq (r9.map λc=>D.int<|yQ<|ri.map λb=>sf w b c)=bX (yQ<|r9.map λc=>yQ<|ri.map λb=>sf w b c):=by rw[<- Jn,MJ];rfl
 have h:xq [I]=bX (.val<|wA ri UU U7):=z;have i:xq [R2]=bX (.val<|wA r9 U0 U8):=U;have e:qo [I,R2]=bX (.val .el):=Y;show qB [I,R2]=_
 clear_value I R2
 unfold qB;refine jk<|zv (γ':=[.val I,.val R2,.no]) (by simp[z6,e])<|zv (γ':=[.val I,.val R2,.val (.lst<|jn ri)]) (by simp[h,wA,f6]) ?_;have a:zV (zF<|cE (zF<|zH xq<|zb (ze 1) zI)<|zy<|.int 0) [Cell.val I,.val R2,.val (.lst<|jn ri)]=bX (jn r9):=by simp[i,wA,f6]
 rw[J5,Va,kF,qb,a];simp only[Me,d,if_true];rw[show je 1 [0,2] [Cell.val I,.val R2,.val (.lst<|jn ri)]=[Cell.no,.val I,.val (.lst<|jn ri)]from rfl,f];simp[j]
theorem lX(z:m<=4)(Y : ∀k,wd1 k<=100)(C : ∀k,wd2 k<=100):xE [j5 p m w wd1 T1,j5 p m w wd2 T2]=bX (.val<|.int<|(off wd2 wd1 (m+1):Int) - (off (eK w wd2) (ed w wd1) m:Int)):=by have O:=(Y7 (p:=p) (w:=w) (wd:=wd1) (T:=T1) (wd':=wd2) (T':=T2)<|show m<=900 by omega).2;have U:=XS (p:=p) (w:=w) (wd:=wd2) (T:=T2) (wd':=wd1) (T':=T1) z;have I:=rH (p:=p) (w:=w) (wd:=wd2) (T:=T2) (wd':=wd1) (T':=T1) z;have a:=wH (hs:=wd2) (ws:=wd1) (n:=m+1) ⋯ Y;have b:=wH (hs:=eK w wd2) (ws:=ed w wd1) (n:=m) ⋯ (λk=>by unfold ed;split<;>exact Y _);have e:K9 m w wd2 wd1=BM m (eK w wd2) (ed w wd1):=rfl;rw[e]at I;generalize j5 p m w wd1 T1=R1 at O U I;generalize j5 p m w wd2 T2=R2 at O U I;unfold xE;refine jk<|zv (γ':=[.val R1,.val R2]) (by simp[z6,O]) ?_;simp[U,I,a,b]
theorem pH(J:m<=4){x y:Int}{I R2:D}(z:qB [I,R2]=bX (.val<|.int x))(C:xE [I,R2]=bX (.val<|.int y)):kY [I,R2]=bX (.val<|.int<|x - y):=by unfold kY;refine jk ?_;simp[z6,z,C]
end
noncomputable def s9(p:Int)(m:Nat)(w:UK)(wd1 wd2:UX)(T1 T2 h:UW):Prop:=
 ∀k,k<m->∀i j,i<wd2 (zP w k)->j<wd1 (zK w k)->mM p (wd1<|zP w k) (h<|zP w k) (T1 k) i j=mM p (wd2<|zK w k) (T2 k) (h<|zK w k) i j
section
variable{p:Int}{m a b c d:Nat}{w:UK}{f:Nat->Int}
abbrev lW(a b r:Nat):Prop:=a<=r/\r<=b
structure t4(p:Int)(m:Nat)(w:UK)(a b c d:Nat)(f:Nat->Int):Prop where
 zero : ∀r,¬(lW a b r/\lW c d r)->f r=0
 pass : ∀k,k<m->lW c d (zP w k)->lW a b (zK w k)->f (zP w k)%p=f (zK w k)%p
theorem t4.next(h:t4 p m w a b c d f)(I:b<=m){r:Nat}(C:lW a b r/\lW c d r)(z:lW a b (r+1)/\lW c d (r+1)):f (r+1)%p=f r%p:=by
 have x:=h.pass r (by have:=z.1.2;omega);unfold zP zK at x;cases hw:w r with
 | true=>
  simp only[hw,if_true]at x;exact(x C.2 z.1).symm
 | false=>
  simp only[hw,Nf,if_false]at x;exact x z.2 C.1
theorem t4.const(h:t4 p m w a b c d f)(I:b<=m) : ∀s,lW a b (max a c+s)/\lW c d (max a c+s)->f (max a c+s)%p=f (max a c)%p
 | 0,_=>rfl
 | s+1,e=>by have g:lW a b (max a c+s)/\lW c d (max a c+s):=⟨⟨by omega,by have:=e.1.2;omega⟩,⟨by omega,by have:=e.2.2;omega⟩⟩;rw[<- t4.const h I s g];exact t4.next h I g e
theorem t4.all(h:t4 p m w a b c d f)(O:b<=m){r:Nat}(I:lW a b r/\lW c d r):f r%p=f (max a c)%p:=by obtain⟨s,rfl⟩ : ∃s,r=max a c+s:=⟨r - max a c,by have:=I.1.1;have:=I.2.1;omega⟩;exact h.const O s I
theorem t4.none(h:t4 p m w a b c d f)(U:a<=b)(Y:c<=d)(z:b<=m)(C:d<=m)(n:t9 w a b c d=dn)(r:Nat):f r%p=0:=by
 by_cases g:lW a b r/\lW c d r
 ·obtain⟨⟨o,s⟩,t,u⟩:=g
  have i:max a c<=min b d:=by omega
  have e:=h.all z (r:=r) ⟨⟨o,s⟩,t,u⟩;unfold t9 at n;rw[decide_eq_true i,Bool.true_and,Bool.and_eq_false_iff]at n;rcases n with n | n
  ·rw[e]
   unfold Dx at n;rw[Bool.or_eq_false_iff]at n;have k : ¬a=c:=by simpa using n.1
   have I:=n.2;by_cases l:a<c
   ·rw[show max a c=c by omega]at I ⊢
    rw[decide_eq_true l]at I;have O:w (c - 1)=dn:=by simpa using I
    have x:=h.pass (c - 1) ⋯;unfold zP zK at x;simp only[O,Nf,if_false]at x;rw[show c - 1+1=c by omega]at x;rw[x ⟨by omega,Y⟩ ⟨by omega,by omega⟩,h.zero (c - 1) (λq=>by have:=q.2.1;omega)];rfl
   ·rw[show max a c=a by omega]at I ⊢
    rw[decide_eq_false l]at I;have O:w (a - 1)=cz:=by simpa using I
    have x:=h.pass (a - 1) ⋯;unfold zP zK at x;simp only[O,if_true]at x;rw[show a - 1+1=a by omega]at x;rw[<- x ⟨by omega,by omega⟩ ⟨by omega,U⟩,h.zero (a - 1) (λq=>by have:=q.1.1;omega)];rfl
  ·have j:=h.all z (r:=min b d) ⟨⟨by omega,by omega⟩,by omega,by omega⟩
   rw[e,<- j];unfold DB at n;rw[Bool.or_eq_false_iff]at n;have k : ¬b=d:=by simpa using n.1
   have I:=n.2;by_cases l:b<d
   ·rw[show min b d=b by omega]at I ⊢
    rw[decide_eq_true l]at I;have O:w b=dn:=by simpa using I
    have x:=h.pass b ⋯;unfold zP zK at x;simp only[O,Nf,if_false]at x;rw[<- x ⟨by omega,by omega⟩ ⟨U,by omega⟩,h.zero (b+1) (λq=>by have:=q.1.2;omega)];rfl
   ·rw[show min b d=d by omega]at I ⊢
    rw[decide_eq_false l]at I;have O:w d=cz:=by simpa using I
    have x:=h.pass d ⋯;unfold zP zK at x;simp only[O,if_true]at x;rw[x ⟨Y,by omega⟩ ⟨by omega,by omega⟩,h.zero (d+1) (λq=>by have:=q.2.2;omega)];rfl
 ·rw[h.zero r g];rfl
theorem sU(y:t9 w a b c d=cz)(t:Int):t4 p m w a b c d λr=>if lW a b r/\lW c d r then t else 0 where
 zero:=λr h=>UY h
 pass:=λk hk U Y=>by
  unfold t9 at y;simp only[Mt]at y;obtain⟨y1,I,O⟩:=y;have y1:=of_decide_eq_true y1;have key:(lW a b (zP w k)/\lW c d (zP w k))↔(lW a b (zK w k)/\lW c d (zK w k)):=by
   unfold Dx at I;unfold DB at O;unfold lW at U Y ⊢;unfold zP at U ⊢;unfold zK at Y ⊢;cases hw:w k with
   | true=>
    simp only[hw,if_true]at U Y ⊢;constructor
    ·rintro⟨q1,q2⟩
     refine⟨Y,?_⟩;have : ¬(k=d):=λe=>by
      have z:min b d=d:=by omega
      have ne : ¬b=d:=by omega
      rw[z,<- e,hw]at O;simp only[decide_eq_false_iff_not.mpr (show ¬b=k by omega),RP]at O;simp at O;omega
     omega
    ·rintro⟨q1,q2⟩
     refine⟨?_,U⟩;have : ¬(k+1=a):=λe=>by
      have z:max a c - 1=k:=by omega
      rw[z,hw]at I;simp only[decide_eq_false_iff_not.mpr (show ¬a=c by omega),RP]at I;simp at I;omega
     omega
   | false=>
    simp only[hw,Nf,if_false]at U Y ⊢;constructor
    ·rintro⟨q1,q2⟩
     refine⟨Y,?_⟩;have : ¬(k+1=c):=λe=>by
      have z:max a c - 1=k:=by omega
      rw[z,hw]at I;simp only[decide_eq_false_iff_not.mpr (show ¬a=c by omega),RP]at I;simp at I;omega
     omega
    ·rintro⟨q1,q2⟩
     refine⟨?_,U⟩;have : ¬(k=b):=λe=>by
      have z:min b d=b:=by omega
      rw[z,<- e,hw]at O;simp only[decide_eq_false_iff_not.mpr (show ¬k=d by omega),RP]at O;simp at O;omega
     omega
  by_cases q:lW a b (zP w k)/\lW c d (zP w k)
  ·rw[UJ q,UJ (key.mp q)]
  ·rw[UY q,UY (λz=>q<|key.mpr z)]
end
section
variable{p:Int}{m:Nat}{w:UK}{K K1 K2:List (Int×Int)}{h:UW}
abbrev stK(K:List (Int×Int))(x:Nat):Nat:=(K.getD x (0,0)).1.toNat
abbrev o3(K:List (Int×Int))(x:Nat):Nat:=(K.getD x (0,0)).2.toNat
abbrev h8(K:List (Int×Int))(r a:Nat):Nat:=(jf K r).getD a 0
abbrev sx(K:List (Int×Int))(r x:Nat):Nat:=(jf K r).idxOf x
abbrev n4(K:List (Int×Int))(x r:Nat):Prop:=lW (stK K x) (o3 K x) r
theorem K4(I : ∀b∈K,ZJ ((m+1:Nat):Int) b){x:Nat}(hx:x<K.length):stK K x<=o3 K x/\o3 K x<=m/\((stK K x:Int),(o3 K x:Int))=K.getD x (0,0):=by
 have e:K.getD x (0,0)=K[x]:=by simp[hx]
 obtain⟨a,d,O⟩:=I K[x] (NQ hx);unfold stK o3;rw[e];refine⟨by omega,by omega,Prod.ext ?_ ?_⟩
 ·show((K[x].1.toNat:Nat):Int)=_;omega
 ·show((K[x].2.toNat:Nat):Int)=_;omega
theorem qV(O : ∀b∈K,ZJ ((m+1:Nat):Int) b){x r:Nat}:x∈jf K r↔x<K.length/\n4 K x r:=by unfold jf;rw[Mu,Ma];refine and_congr_right λd=>?_;obtain⟨_,_,I⟩:=K4 O d;have a:=congrArg Prod.fst I;have U:=congrArg Prod.snd I;dsimp only at a U;unfold nj;simp only[Mt,decide_eq_true_eq];unfold n4 lW;omega
theorem vN{r a:Nat}(z:a<m9 K r):h8 K r a∈jf K r:=by unfold h8;rw[Mc,LZ z];exact NQ z
theorem lZ(K:List (Int×Int))(r:Int):(jf K r).Nodup:=RT.filter _
theorem QJ{r x:Nat}(hx:x∈jf K r):sx K r x<m9 K r/\h8 K r (sx K r x)=x:=by have l:(jf K r).idxOf x<(jf K r).length:=Rn hx;refine⟨l,?_⟩;unfold h8 sx;rw[Mc,LZ l];exact SH l
theorem aT{r a:Nat}(z:a<m9 K r):sx K r (h8 K r a)=a:=by unfold h8 sx;rw[Mc,LZ z];exact(lZ K r).idxOf_getElem a z
noncomputable def Yh(K1 K2:List (Int×Int))(h:UW)(x y r:Nat):Int:=if n4 K1 x r/\n4 K2 y r then h r (sx K2 r y) (sx K1 r x)else 0
theorem Hy(C : ∀b∈K1,ZJ ((m+1:Nat):Int) b)(J : ∀b∈K2,ZJ ((m+1:Nat):Int) b){r a b:Nat}(z:a<m9 K2 r)(I:b<m9 K1 r):Yh K1 K2 h (h8 K1 r b) (h8 K2 r a) r=h r a b:=by unfold Yh;rw[UJ ⟨((qV C).mp (vN I)).2,((qV J).mp (vN z)).2⟩,aT z,aT I]
theorem oO(z : ∀b∈K1,ZJ ((m+1:Nat):Int) b){f:UV}{k a b:Nat}(U:b<m9 K1 (zK w k)):mM p (m9 K1<|zP w k) f (o6 w K1 k) a b=(if n4 K1 (h8 K1 (zK w k) b) (zP w k)then f a (sx K1 (zP w k)<|h8 K1 (zK w k) b)else 0)%p:=by
 have d:=(qV z).mp (vN U);generalize ex:h8 K1 (zK w k) b=x at d;unfold mM o6;have e:(jf K1<|zK w k).getD b 0=x:=ex;rw[e];by_cases q:n4 K1 x (zP w k)
 ·have i:x∈jf K1 (zP w k):=(qV z).mpr ⟨d.1,q⟩
  obtain⟨l,Y⟩:=QJ i;rw[UJ q,zR l λc I h=>by rw[UY,NA];intro O;have:=aT (K:=K1) (r:=zP w k) I;rw[show h8 K1 (zP w k) c=x from O]at this;exact h this.symm]
  rw[show(jf K1<|zP w k).getD (sx K1 (zP w k) x) 0=x from Y,UJ rfl,tr]
 ·rw[UY q,zx (g:=λ_=>0) λc I=>by rw[UY,NA];intro O;have:=(qV z).mp (vN (K:=K1) I);rw[show h8 K1 (zP w k) c=x from O]at this;exact q this.2,zM]
theorem oP(z : ∀b∈K2,ZJ ((m+1:Nat):Int) b){f:UV}{k a b:Nat}(C:a<m9 K2 (zP w k)):mM p (m9 K2<|zK w k) (o6 w K2 k) f a b=(if n4 K2 (h8 K2 (zP w k) a) (zK w k)then f (sx K2 (zK w k)<|h8 K2 (zP w k) a) b else 0)%p:=by
 have d:=(qV z).mp (vN C);generalize ex:h8 K2 (zP w k) a=x at d;unfold mM o6;have e:(jf K2<|zP w k).getD a 0=x:=ex;rw[e];by_cases q:n4 K2 x (zK w k)
 ·have h:x∈jf K2 (zK w k):=(qV z).mpr ⟨d.1,q⟩
  obtain⟨l,U⟩:=QJ h;rw[UJ q,zR l λc I Y=>by rw[UY,OI];intro O;have:=aT (K:=K2) (r:=zK w k) I;rw[show h8 K2 (zK w k) c=x from O.symm]at this;exact Y this.symm]
  rw[show(jf K2<|zK w k).getD (sx K2 (zK w k) x) 0=x from U,UJ rfl,Int.one_mul]
 ·rw[UY q,zx (g:=λ_=>0) λc I=>by rw[UY,OI];intro O;have:=(qV z).mp (vN (K:=K2) I);rw[show h8 K2 (zK w k) c=x from O.symm]at this;exact q this.2,zM]
theorem fY(C : ∀b∈K1,ZJ ((m+1:Nat):Int) b)(J : ∀b∈K2,ZJ ((m+1:Nat):Int) b):s9 p m w (m9 K1) (m9 K2) (o6 w K1) (o6 w K2) h ↔ ∀x y,x<K1.length->y<K2.length->t4 p m w (stK K1 x) (o3 K1 x) (stK K2 y) (o3 K2 y) (Yh K1 K2 h x y):=by
 constructor
 ·intro H x y t u
  refine⟨λr s=>UY s,λk Y d a=>?_⟩;have mx:x∈jf K1 (zK w k):=(qV C).mpr ⟨t,a⟩;have U:y∈jf K2 (zP w k):=(qV J).mpr ⟨u,d⟩;obtain⟨g,n⟩:=QJ mx;obtain⟨l,o⟩:=QJ U;have:=H k Y (sx K2 (zP w k) y) (sx K1 (zK w k) x) l g;rw[oO C g,oP J l,n,o]at this;unfold Yh;by_cases I:n4 K1 x (zP w k)<;>by_cases O:n4 K2 y (zK w k)
  ·rw[UJ ⟨I,d⟩,UJ ⟨a,O⟩];rw[UJ I,UJ O]at this;exact this
  ·rw[UJ ⟨I,d⟩,UY (λz=>O z.2)];rw[UJ I,UY O]at this;exact this
  ·rw[UY (λz=>I z.1),UJ ⟨a,O⟩];rw[UY I,UJ O]at this;exact this
  ·rw[UY (λz=>I z.1),UY (λz=>O z.2)]
 ·intro H k Y i j e f
  rw[oO C f,oP J e];have mx:=(qV C).mp (vN f);have U:=(qV J).mp (vN e);have:=(H _ _ mx.1 U.1).pass k Y U.2 mx.2;unfold Yh at this;rw[aT e,aT f]at this;by_cases I:n4 K1 (h8 K1 (zK w k) j) (zP w k)<;>by_cases O:n4 K2 (h8 K2 (zP w k) i) (zK w k)
  ·rw[UJ I,UJ O];rw[UJ ⟨I,U.2⟩,UJ ⟨mx.2,O⟩]at this;exact this
  ·rw[UJ I,UY O];rw[UJ ⟨I,U.2⟩,UY (λz=>O z.2)]at this;exact this
  ·rw[UY I,UJ O];rw[UY (λz=>I z.1),UJ ⟨mx.2,O⟩]at this;exact this
  ·rw[UY I,UY O]
end
theorem QZ(g:Nat->Int) : ∀n,yQ ((LW n).map g)=zh g n
 | 0=>rfl
 | n+1=>by rw[Nx,Nb,cS List.perm_append_comm];show g n+yQ ((LW n).map g)=zh g n+g n;rw[QZ g n,Int.add_comm]
theorem Wp(f:Int×Int->Int)(K:List (Int×Int)):yQ (K.map f)=zh (λx=>f<|K.getD x (0,0)) K.length:=by
 rw[<- QZ]
 conv=>lhs;rw[<- ja (0,0) K,MJ]
 rfl
theorem Xo(q:UK) : ∀n,(((LW n).filter q).length:Int)=zh (λs=>if q s=cz then 1 else 0) n
 | 0=>rfl
 | n+1=>by
  rw[Nx,PJ,MW];show _=zh (λs=>if q s=cz then 1 else 0) n+_;rw[<- Xo q n];by_cases h:q n=cz
  ·simp[h]
  ·simp[h]
structure B8(p:Int)(m:Nat)(w:UK)(wd1 wd2:UX)(T1 T2:UW)(c:Nat)(E:Nat->Nat->Nat->Nat->Int):Prop where
 G7 : ∀s,s<c->s9 p m w wd1 wd2 T1 T2 (E s)
 span : ∀h,s9 p m w wd1 wd2 T1 T2 h->∃t:Nat->Int,∀r,r<=m->∀i j,i<wd2 r->j<wd1 r->h r i j%p=zh (λs=>t s*E s r i j) c%p
 ind : ∀t:Nat->Int,(∀r,r<=m->∀i j,i<wd2 r->j<wd1 r->zh (λs=>t s*E s r i j) c%p=0)->∀s,s<c->t s%p=0
theorem W7{w:UK}{m k:Nat}(h:k<m):zP w k<=m:=by unfold zP;split<;>omega
theorem ar{w:UK}{m k:Nat}(h:k<m):zK w k<=m:=by unfold zK;split<;>omega
section
variable{p:Int}{m:Nat}{w:UK}{wd1 wd2 O7 O8:UX}{T1 T2 S1 S2 A1 B1 A2 B2:UW}{K1 K2:List (Int×Int)}{h:UW}{c:Nat}{E:Nat->Nat->Nat->Nat->Int}
theorem s9.wd(z : ∀r,r<=m->wd1 r=O7 r)(O : ∀r,r<=m->wd2 r=O8 r)(H:s9 p m w wd1 wd2 T1 T2 h):s9 p m w O7 O8 T1 T2 h:=λk I i j b U=>by have Y:=W7 (w:=w) I;have a:=ar (w:=w) I;rw[<- O _ Y]at b;rw[<- z _ a]at U;rw[<- z _ Y,<- O _ a];exact H k I i j b U
theorem B8.wd(e1 : ∀r,r<=m->wd1 r=O7 r)(O : ∀r,r<=m->wd2 r=O8 r)(H:B8 p m w wd1 wd2 T1 T2 c E):B8 p m w O7 O8 T1 T2 c E where
 G7:=λs hs=>(H.G7 s hs).wd e1 O
 span:=λh hh=>by obtain⟨t,U⟩:=H.span h<|hh.wd (λr I=>(e1 r I).symm) λr I=>(O r I).symm;exact⟨t,λr I i j hi Y=>U r I i j (by rw[O r I];exact hi)<|by rw[e1 r I];exact Y⟩
 ind:=λt U s hs=>H.ind t (λr I i j hi Y=>U r I i j (by rw[<- O r I];exact hi)<|by rw[<- e1 r I];exact Y) s hs
noncomputable def xx(w:UK)(K1 K2:List (Int×Int)):List Nat:=(LW<|K1.length*K2.length).filter λs=>t9 w (stK K1<|s/K2.length) (o3 K1<|s/K2.length) (stK K2<|s%K2.length)<|o3 K2<|s%K2.length
theorem aY:((xx w K1 K2).length:Int)=yQ (K1.map λb=>yQ<|K2.map λc=>sf w b c):=by
 unfold xx;rw[Xo,Jl,Wp];refine zx λx d=>?_;rw[Wp];refine zx λy I=>?_;have a:(x*K2.length+y)/K2.length=x:=by rw[Ox,Nat.mul_add_div ⋯,Tn I,Si]
 have O:(x*K2.length+y)%K2.length=y:=by rw[Ox,Nat.mul_add_mod,Tj I]
 rw[a,O];rfl
noncomputable def DH(w:UK)(K1 K2:List (Int×Int))(s r a b:Nat):Int:=if h8 K1 r b*K2.length+h8 K2 r a=(xx w K1 K2).getD s 0 then 1 else 0
theorem WK{x y N:Nat}(I:y<N):(x*N+y)/N=x/\(x*N+y)%N=y:=by
 constructor
 ·rw[Ox,Nat.mul_add_div ⋯,Tn I,Si]
 ·rw[Ox,Nat.mul_add_mod,Tj I]
theorem YA{x y:Nat}(hx:x<K1.length)(I:y<K2.length):x*K2.length+y∈xx w K1 K2↔t9 w (stK K1 x) (o3 K1 x) (stK K2 y) (o3 K2 y)=cz:=by
 unfold xx;obtain⟨a,O⟩:=WK (x:=x) I;rw[Mu,Ma,a,O];have:x*K2.length+y<K1.length*K2.length:=by have:(x+1)*K2.length<=K1.length*K2.length:=Nat.mul_le_mul_right _ hx;rw[Nat.add_mul]at this;omega
 exact and_iff_right this
theorem KS(t:Nat->Int){L:List Nat}(C:L.Nodup)(z:Nat):zh (λs=>t s*if z=L.getD s 0 then 1 else 0) L.length=if z∈L then t (L.idxOf z)else 0:=by
 by_cases h:z∈L
 ·rw[UJ h]
  have l:=Rn h;rw[zR l λs a I=>by rw[UY,NA];intro e;rw[Mc,LZ a]at e;have:=C.idxOf_getElem s a;rw[show L[s]=z from e.symm]at this;exact I this.symm]
  rw[UJ,tr];rw[Mc,LZ l];exact(SH l).symm
 ·rw[UY h,zx (g:=λ_=>0) λs a=>by rw[UY,NA];intro e;rw[Mc,LZ a]at e;exact h<|e ▸ NQ a,zM]
theorem X5:(xx w K1 K2).Nodup:=RT.filter _
theorem fZ(h1 : ∀b∈K1,ZJ ((m+1:Nat):Int) b)(h2 : ∀b∈K2,ZJ ((m+1:Nat):Int) b):B8 p m w (m9 K1) (m9 K2) (o6 w K1) (o6 w K2) (xx w K1 K2).length (DH w K1 K2) where
 G7:=λs hs=>(fY h1 h2).mpr λx y hx I=>by
  by_cases e:x*K2.length+y=(xx w K1 K2).getD s 0
  ·have mem:x*K2.length+y∈xx w K1 K2:=by
    rw[e,Mc,LZ hs];exact NQ hs
   have P:=sU (p:=p) (m:=m) ((YA hx I).mp mem) 1;have:Yh K1 K2 (DH w K1 K2 s) x y=λr=>if lW (stK K1 x) (o3 K1 x) r/\lW (stK K2 y) (o3 K2 y) r then 1 else 0:=by
    funext r;unfold Yh;by_cases q:n4 K1 x r/\n4 K2 y r
    ·rw[UJ q,UJ q]
     unfold DH;rw[(QJ<|(qV h1).mpr ⟨hx,q.1⟩).2,(QJ<|(qV h2).mpr ⟨I,q.2⟩).2,UJ e]
    ·rw[UY q,UY q]
   rw[this];exact P
  ·have:Yh K1 K2 (DH w K1 K2 s) x y=λ_=>0:=by
    funext r;unfold Yh;by_cases q:n4 K1 x r/\n4 K2 y r
    ·rw[UJ q]
     unfold DH;rw[(QJ<|(qV h1).mpr ⟨hx,q.1⟩).2,(QJ<|(qV h2).mpr ⟨I,q.2⟩).2,UY e]
    ·rw[UY q]
   rw[this];exact⟨λ_ _=>rfl,λ_ _ _ _=>rfl⟩
 span:=λh hh=>by
  have H:=(fY h1 h2).mp hh;let N:=K2.length;refine⟨λs=>let z:=(xx w K1 K2).getD s 0;Yh K1 K2 h (z/N) (z%N) (max (stK K1<|z/N)<|stK K2<|z%N),λr hr i j hi hj=>?_⟩;have mx:=(qV h1).mp (vN hj);have O:=(qV h2).mp (vN hi);have P:=H _ _ mx.1 O.1;obtain⟨x1,U,_⟩:=K4 h1 mx.1;obtain⟨y1,y2,_⟩:=K4 h2 O.1;rw[<- Hy (h:=h) h1 h2 hi hj];have d:=KS (λs=>let z:=(xx w K1 K2).getD s 0;Yh K1 K2 h (z/N) (z%N) (max (stK K1<|z/N)<|stK K2<|z%N)) (X5 (w:=w) (K1:=K1) (K2:=K2))<|h8 K1 r j*K2.length+h8 K2 r i;unfold DH;rw[d];by_cases mem:h8 K1 r j*K2.length+h8 K2 r i∈xx w K1 K2
  ·rw[UJ mem]
   have l:=Rn mem;have e:(xx w K1 K2).getD ((xx w K1 K2).idxOf (h8 K1 r j*K2.length+h8 K2 r i)) 0=h8 K1 r j*K2.length+h8 K2 r i:=by rw[Mc,LZ l];exact SH l
   obtain⟨e1,e2⟩:=WK (x:=h8 K1 r j) O.1;dsimp only;rw[e];show _=Yh K1 K2 h ((h8 K1 r j*K2.length+h8 K2 r i)/K2.length) ((h8 K1 r j*K2.length+h8 K2 r i)%K2.length) (max (stK K1<|(h8 K1 r j*K2.length+h8 K2 r i)/K2.length)<|stK K2<|(h8 K1 r j*K2.length+h8 K2 r i)%K2.length)%p;rw[e1,e2];exact P.all U ⟨mx.2,O.2⟩
  ·rw[UY mem]
   have n:t9 w (stK K1<|h8 K1 r j) (o3 K1<|h8 K1 r j) (stK K2<|h8 K2 r i) (o3 K2<|h8 K2 r i)=dn:=Bool.eq_false_iff.mpr λI=>mem<|(YA mx.1 O.1).mpr I;rw[P.none x1 y1 U y2 n r];rfl
 ind:=λt ht s hs=>by
  let z:=(xx w K1 K2)[s];have mem:z∈xx w K1 K2:=NQ hs;have Y:=mem;unfold xx at Y;rw[Mu,Ma]at Y;obtain⟨zl,zq⟩:=Y;have n2:0<K2.length:=by
   rcases Nat.eq_zero_or_pos K2.length with e | e
   ·rw[e,Nat.mul_zero]at zl;omega
   ·exact e
  have I:z%K2.length<K2.length:=Nat.mod_lt _ n2;have hx:z/K2.length<K1.length:=Nat.div_lt_of_lt_mul (by rw[Ox];exact zl);have ez:z/K2.length*K2.length+z%K2.length=z:=by rw[Ox];exact Nat.div_add_mod z K2.length
  generalize ex:z/K2.length=x at *;generalize ey:z%K2.length=y at *;obtain⟨x1,U,_⟩:=K4 h1 hx;obtain⟨y1,y2,_⟩:=K4 h2 I;have lo:max (stK K1 x) (stK K2 y)<=min (o3 K1 x) (o3 K2 y):=by unfold t9 at zq;simp only[Mt]at zq;exact of_decide_eq_true zq.1
  let r:=max (stK K1 x)<|stK K2 y;have qx:n4 K1 x r:=⟨by show _<=max _ _;omega,by show max _ _<=_;omega⟩;have qy:n4 K2 y r:=⟨by show _<=max _ _;omega,by show max _ _<=_;omega⟩;obtain⟨lx,px⟩:=QJ<|(qV h1).mpr ⟨hx,qx⟩;obtain⟨ly,py⟩:=QJ<|(qV h2).mpr ⟨I,qy⟩;have g:=ht r (by show max _ _<=_;omega) _ _ ly lx;have d:=KS t (X5 (w:=w) (K1:=K1) (K2:=K2))<|x*K2.length+y;unfold DH at g;rw[px,py,d,ez,UJ mem]at g;have:=X5 (w:=w) (K1:=K1) (K2:=K2) |>.idxOf_getElem s hs;rw[show(xx w K1 K2).idxOf z=s from this]at g;exact g
theorem ai(two:2<=p)(u1 : ∀r,r<=m->ZI p (wd1 r) (B1 r) (A1 r))(u2 : ∀r,r<=m->ZI p (wd2 r) (B2 r) (A2 r))
 (C : ∀k,k<m->∀i j,i<wd1 (zP w k)->j<wd1 (zK w k)->T1 k i j%p=mM p (wd1<|zK w k) (mM p (wd1<|zP w k) (A1<|zP w k)<|S1 k) (B1<|zK w k) i j)
 (J : ∀k,k<m->∀i j,i<wd2 (zP w k)->j<wd2 (zK w k)->T2 k i j%p=mM p (wd2<|zK w k) (mM p (wd2<|zP w k) (A2<|zP w k)<|S2 k) (B2<|zK w k) i j)
 (H:s9 p m w wd1 wd2 S1 S2 h):s9 p m w wd1 wd2 T1 T2 λr=>mM p (wd1 r) (mM p (wd2 r) (A2 r)<|h r) (B1 r):=λk Y i j A B=>by
 show mM p (wd1<|zP w k) (mM p (wd1<|zP w k) (mM p (wd2<|zP w k) (A2<|zP w k)<|h<|zP w k)<|B1<|zP w k) (T1 k) i j=mM p (wd2<|zK w k) (T2 k) (mM p (wd1<|zK w k) (mM p (wd2<|zK w k) (A2<|zK w k)<|h<|zK w k)<|B1<|zK w k) i j;have e:0<p:=by omega
 have u:=W7 (w:=w) Y;have t:=ar (w:=w) Y;have H:=H k Y;have o:=u1 _ u;have s:=u2 _ t;have C:=C k Y;have J:=J k Y;generalize wd1 (zP w k)=ae at *;generalize wd1 (zK w k)=ab at *;generalize wd2 (zP w k)=I at *;generalize wd2 (zK w k)=cb at *;generalize A1 (zP w k)=as at *;generalize B1 (zP w k)=ax at *;generalize B1 (zK w k)=a3 at *;generalize A2 (zP w k)=O at *;generalize A2 (zK w k)=a7 at *;generalize B2 (zK w k)=b0 at *;generalize h (zP w k)=he at *;generalize h (zK w k)=hb at *;have E : ∀(n:Nat) (f g g':UV) (i j:Nat),(∀x,x<n->g x j%p=g' x j)->mM p n f g i j=mM p n f g' i j:=λn f g g' i j q=>by unfold mM;exact zO λx a=>by rw[<- q x a,Mh (f i x)<|g x j%p,Nw _<|OJ p,<- Mh]
 have F : ∀(n:Nat) (f f' g:UV) (i j:Nat),(∀x,x<n->f i x%p=f' i x)->mM p n f g i j=mM p n f' g i j:=λn f f' g i j q=>by unfold mM;exact zO λx a=>by rw[<- q x a,Mh (f i x%p)<|g x j,Nw _<|OJ p,<- Mh]
 have d : ∀(n:Nat) (f g:UV) (i j:Nat),mM p n f g i j%p=mM p n f g i j:=λn f g i j=>MR (mR e n f g i j).1 (mR e n f g i j).2;have l:mM p ae (mM p ae (mM p I O he) ax) (T1 k) i j=mM p ab (mM p I O<|mM p ae he<|S1 k) a3 i j:=by rw[E ae _ _ (mM p ab (mM p ae as<|S1 k) a3) i j λx a=>C x j a B,xk];refine qe (λx a=>?_) λ_ _=>rfl;rw[xk,qe (f':=mM p I O he) (g':=S1 k) (λy U=>?_) λ_ _=>rfl,<- xk];rw[<- xk,qe (f':=mM p I O he) (g':=hH) (λ_ _=>rfl) λz b=>Ke two o b U,fB U,d]
 have r:mM p cb (T2 k) (mM p ab (mM p cb a7 hb) a3) i j=mM p ab (mM p I O<|mM p cb (S2 k) hb) a3 i j:=by rw[xk];refine qe (λx a=>?_) λ_ _=>rfl;rw[xk,xk];refine qe (λy U=>?_) λ_ _=>rfl;rw[F cb (T2 k) (mM p cb (mM p I O<|S2 k) b0) a7 i y λx a=>J i x A a,<- xk,qe (f':=mM p I O<|S2 k) (g':=hH) (λ_ _=>rfl) λz b=>Ke two s b U,fB U,d]
 rw[l,r];refine qe (λx a=>?_) λ_ _=>rfl;exact qe (λ_ _=>rfl) λy U=>H y x U a
end
section
variable{p:Int}{m N:Nat}{w:UK}{wd:UX}{T:UW}{A:Nat->f9}{bs:List (Int×Int)}{b c:Int×Int}
theorem CC(bs:List (Int×Int))(k:Nat):bW bs k<=bs.length:=by unfold bW Gp Jq;exact Np (OV _ _) ⋯
end
section ap
variable(γ:Ctx)
@[simp] def Hu:=@FI.eq_1
@[simp] def Il:=@LG.eq_1
@[simp] theorem Hc(f):iT f γ=((f γ).bind i0).map λi=> .int (-i):=rfl
@[simp] def uR:=@Ei.eq_1
end ap
structure X1(p:Int)(m:Nat)(w:UK)(wd:UX)(K:List (Int×Int))(T F G:UW):Prop where
 pr : ∀r,r<m+1->Pair p (wd r) (F r) (G r)
 eb:xq [j5 p m w wd T]=bX (.val<|wA K (aI m wd G)<|aI m wd F)
 et : ∀k,k<m->∀i j,i<wd (zP w k)->j<wd (zK w k)->T k i j=mM p (wd<|zK w k) (mM p (wd<|zP w k) (F<|zP w k)<|o6 w K k) (G<|zK w k) i j
 rg : ∀k i j,0<=T k i j/\T k i j<p
section
variable{p:Int}{n n1 n2 c i j:Nat}{A A1 B1 A2 B2 X h:UV}{E:UW}{t:Nat->Int}
theorem oN(I:0<p)(n:Nat)(f g:UV)(i j:Nat):mM p n f g i j%p=mM p n f g i j:=MR (mR I n f g i j).1 (mR I n f g i j).2
theorem Gk{g g':UV}(f:UV)(q : ∀x,x<n->g x j%p=g' x j%p):mM p n f g i j=mM p n f g' i j:=by unfold mM;exact zO λx a=>by rw[Mh,q x a,<- Mh]
theorem Zj(two:2<=p)(u2:ZI p n2 A2 B2)(u1:ZI p n1 A1 B1)(C:i<n2)(I:j<n1):mM p n1 (mM p n2 A2<|mM p n1 (mM p n2 B2 h) A1) B1 i j=h i j%p:=by
 have O:0<p:=by omega
 have e : ∀x,x<n1->mM p n2 A2 (mM p n1 (mM p n2 B2 h) A1) i x=mM p n1 (λa b=>h a b%p) A1 i x:=λx d=>by rw[xk];refine qe (λy U=>?_) λ_ _=>rfl;rw[xk,qe (f':=hH) (g':=h) (λz f=>Ke two u2 C f) λ_ _=>rfl,BL C]
 rw[qe (f':=mM p n1 (λa b=>h a b%p) A1) (g':=B1) e λ_ _=>rfl,<- xk,qe (f':=λa b=>h a b%p) (g':=hH) (λ_ _=>rfl) λx d=>Ke two u1 d I,fB I];exact Nw _<|OJ p
theorem Vh(c:Nat)(t u:Nat->Int):zh (λs=>t s*(u s%p)) c%p=zh (λs=>t s*u s) c%p:=zO λs _=>by rw[Mh,Nw _<|OJ p,<- Mh]
theorem Gm(q : ∀x,x<n->X x j%p=zh (λs=>t s*E s x j) c%p):mM p n A X i j=zh (λs=>t s*mM p n A (E s) i j) c%p:=by
 unfold mM;rw[Vh];have e:zh (λk=>A i k*X k j) n%p=zh (λk=>A i k*zh (λs=>t s*E s k j) c) n%p:=zO λx a=>by rw[Mh,q x a,<- Mh]
 rw[e];congr 1;rw[zx (g:=λk=>zh (λs=>A i k*(t s*E s k j)) c) λk _=>by rw[zY],jT];refine zx λs _=>?_;rw[<- zY];exact zx λk _=>by rw[NV]
theorem Gn(q : ∀x,x<n->X i x%p=zh (λs=>t s*E s i x) c%p):mM p n X A i j=zh (λs=>t s*mM p n (E s) A i j) c%p:=by
 unfold mM;rw[Vh];have e:zh (λk=>X i k*A k j) n%p=zh (λk=>zh (λs=>t s*E s i k) c*A k j) n%p:=zO λx a=>by rw[Mh,q x a,<- Mh]
 rw[e];congr 1;rw[zx (g:=λk=>zh (λs=>t s*E s i k*A k j) c) λk _=>by rw[kj],jT];refine zx λs _=>?_;rw[<- zY];exact zx λk _=>NR ..
theorem WT(I:0<p)(q : ∀a b,a<n2->b<n1->X a b%p=zh (λs=>t s*E s a b) c%p)(A B:UV)(i j:Nat):mM p n1 (mM p n2 A X) B i j=zh (λs=>t s*mM p n1 (mM p n2 A<|E s) B i j) c%p:=
 Gn λx d=>by rw[oN I,Gm (t:=t) (E:=E) (c:=c) λy O=>q y x O d]
end
section
variable{p:Int}{m c:Nat}{w:UK}{wd1 wd2:UX}{T1 T2 S1 S2 A1 B1 A2 B2:UW}{h:UW}{E:Nat->Nat->Nat->Nat->Int}
theorem B8.B_(two:2<=p)(u1 : ∀r,r<=m->ZI p (wd1 r) (B1 r) (A1 r))(u2 : ∀r,r<=m->ZI p (wd2 r) (B2 r) (A2 r))(M : ∀r,r<=m->ZI p (wd1 r) (A1 r) (B1 r))(Z : ∀r,r<=m->ZI p (wd2 r) (A2 r) (B2 r))
 (J : ∀k,k<m->∀i j,i<wd1 (zP w k)->j<wd1 (zK w k)->T1 k i j%p=mM p (wd1<|zK w k) (mM p (wd1<|zP w k) (A1<|zP w k)<|S1 k) (B1<|zK w k) i j)
 (L : ∀k,k<m->∀i j,i<wd2 (zP w k)->j<wd2 (zK w k)->T2 k i j%p=mM p (wd2<|zK w k) (mM p (wd2<|zP w k) (A2<|zP w k)<|S2 k) (B2<|zK w k) i j)
 (H:B8 p m w wd1 wd2 S1 S2 c E):B8 p m w wd1 wd2 T1 T2 c λs r=>mM p (wd1 r) (mM p (wd2 r) (A2 r)<|E s r) (B1 r):=by
 have U:0<p:=by omega
 have F : ∀{wd:UX} {T S A B:UW},(∀r,r<=m->ZI p (wd r) (B r) (A r))->(∀k,k<m->∀i j,i<wd (zP w k)->j<wd (zK w k)->T k i j%p=mM p (wd<|zK w k) (mM p (wd<|zP w k) (A<|zP w k)<|S k) (B<|zK w k) i j)->∀k,k<m->∀i j,i<wd (zP w k)->j<wd (zK w k)->S k i j%p=mM p (wd<|zK w k) (mM p (wd<|zP w k) (B<|zP w k)<|T k) (A<|zK w k) i j:=λ{wd T S A B} u e k Y i j d O=>by rw[<- Zj (h:=S k) two (u _<|W7 (w:=w) Y) (u _<|ar (w:=w) Y) d O];refine qe (λx N=>?_) λ_ _=>rfl;refine Gk _ λy P=>?_;rw[e k Y y x P N,oN U]
 refine⟨λs o=>ai two u1 u2 J L<|H.G7 s o,λh K=>?_,λt C s o=>?_⟩
 ·have G:=ai (A1:=B1) (B1:=A1) (A2:=B2) (B2:=A2) two M Z (F u1 J) (F u2 L) K
  obtain⟨t,C⟩:=H.span _ G;refine⟨t,λr I i j d O=>?_⟩;rw[<- Zj (h:=h r) two (Z r I) (M r I) d O,WT U (t:=t) (E:=λs=>E s r) (c:=c) λa b f n=>C r I a b f n]
 ·refine H.ind t (λr I i j d O=>?_) s o
  have z : ∀s,mM p (wd1 r) (mM p (wd2 r) (B2 r)<|mM p (wd1 r) (mM p (wd2 r) (A2 r)<|E s r)<|B1 r) (A1 r) i j=E s r i j%p:=λs=>Zj (h:=E s r) two (u2 r I) (u1 r I) d O;have l:=WT (n1:=wd1 r) (n2:=wd2 r) (X:=λ_ _=>0) U (t:=t) (E:=λs=>mM p (wd1 r) (mM p (wd2 r) (A2 r)<|E s r)<|B1 r) (c:=c) (λa b f n=>(C r I a b f n).symm) (B2 r) (A1 r) i j;rw[zx (g:=λs=>t s*(E s r i j%p)) λs _=>by rw[z s],Vh]at l;rw[<- l];have Q : ∀x,mM p (wd2 r) (B2 r) (λ_ _=>0) i x=0:=λx=>by unfold mM;rw[zx (g:=λ_=>0) λk _=>NA _,zM];rfl
  unfold mM;rw[zx (g:=λ_=>0) λk _=>by have:=Q k;unfold mM at this;rw[this,OI],zM]
  rfl
end
structure F6(p:Int)(m:Nat)(w:UK)(wd:UX)(K:List (Int×Int))(T F G:UW):Prop where
 pp:X1 p m w wd K T F G
 st : ∀b∈K,ZJ ((m+1:Nat):Int) b
 br : ∀r,r<=m->m9 K r=wd r
 le:K.length<=48
theorem eX{p:Int}{m:Nat}{w:UK}{wd:UX}{T:UW}(z:Pr p)(C : ∀k,wd k<=8)(J:m<=5)(Y : ∀k i j,0<=T k i j/\T k i j<p) : ∃K F G,F6 p m w wd K T F G:=by
 obtain⟨d,a,g,L,O,ro,h,H,u⟩:=gQ (T:=T) (w:=w) z C J λk i j _ _ _=>Y k i j;have E : ∀j,j<d->1<=(a j).n:=λj I=>(O j I).n1;have e : ∀r,r<=m->m9 (Zt a d) r=wd r:=λr U=>by unfold m9;rw[yc E,ro _ U]
 refine⟨Zt a d,λr=>xU a d r,g,⟨⟨λr U=>?_,u,λk B i j f I=>?_,Y⟩,λb l=>?_,e,by unfold Zt;rw[Mq,MQ];omega⟩⟩
 ·obtain⟨u1,u2,u3⟩:=h r ⋯
  refine⟨λi j f I=>?_,λi j _ _=>u3 i j,u1,u2⟩;have o:j<(i4 a d r).length:=by rw[ro r ⋯];exact I
  obtain⟨y,A⟩:=VP o;exact(O _ y).iW r i A f
 ·have t:zK w k<=m:=by unfold zK;split<;>omega
  have x:zP w k<=m:=by unfold zP;split<;>omega
  rw[nR z O ro (λr U=>(h r U).1) B f I (Y k i j),iB,e _ t,e _ x]
 ·unfold Zt at l
  obtain⟨j,I,rfl⟩:=MM.mp l;have:=(O j<|Ma.mp I).n1;have:=(O j<|Ma.mp I).le;exact⟨by show(0:Int)<=((a j).s:Int);omega,by show((a j).s:Int)<=(((a j).s+(a j).n - 1:Nat):Int);omega,by show(((a j).s+(a j).n - 1:Nat):Int)<_;omega⟩
theorem tW{p:Int}{m:Nat}{w:UK}{wd1 wd2:UX}{K1 K2:List (Int×Int)}{T1 z J T2 C L:UW}(M:Pr p)(I:F6 p m w wd1 K1 T1 z J)(O:F6 p m w wd2 K2 T2 C L) : ∃(c:Nat) (E:Nat->Nat->Nat->Nat->Int),(c:Int)=yQ (K1.map λb=>yQ<|K2.map λc=>sf w b c)/\B8 p m w wd1 wd2 T1 T2 c E:=by
 have two:=M.two;refine⟨_,_,aY,B8.B_ (S1:=o6 w K1) (S2:=o6 w K2) (A1:=z) (B1:=J) (A2:=C) (B2:=L) two (λr U=>(I.pp.pr r ⋯).gf) (λr U=>(O.pp.pr r ⋯).gf) (λr U=>(I.pp.pr r ⋯).fg) (λr U=>(O.pp.pr r ⋯).fg) (λk Y i j a d=>?_) (λk Y i j a d=>?_)<|(fZ (p:=p) (w:=w) I.st O.st).wd I.br O.br⟩
 ·rw[MR (I.pp.rg k i j).1 (I.pp.rg k i j).2]
  exact I.pp.et k Y i j a d
 ·rw[MR (O.pp.rg k i j).1 (O.pp.rg k i j).2]
  exact O.pp.et k Y i j a d
section
variable{p:Int}{m:Nat}{w:UK}{wd1 wd2:UX}{T1 T2:UW}{h h':UW}
theorem s9.ext(e : ∀r,r<=m->∀i j,i<wd2 r->j<wd1 r->h r i j=h' r i j)(H:s9 p m w wd1 wd2 T1 T2 h):s9 p m w wd1 wd2 T1 T2 h':=λk I i j a U=>by have Y:=W7 (w:=w) I;have b:=ar (w:=w) I;rw[qe (f':=h<|zP w k) (g':=T1 k) (λt O=>(e _ Y i t a O).symm) λ_ _=>rfl,qe (f':=T2 k) (g':=h<|zK w k) (λ_ _=>rfl) λt O=>(e _ b t j O U).symm];exact H k I i j a U
theorem cW(Y:0<p){k i j:Nat}(I:k<m)(C:i<wd2 (zP w k))(O:j<wd1 (zK w k))(v:Nat->Int):zh (λx=>A9 p w wd1 wd2 T1 T2 k i j x*v x) (off wd2 wd1<|m+1)%p=0↔mM p (wd1<|zP w k) (cn wd2 wd1 v<|zP w k) (T1 k) i j=mM p (wd2<|zK w k) (T2 k) (cn wd2 wd1 v<|zK w k) i j:=by
 rw[Ao I C O];have d:zh (λt=>T1 k t j*v (off wd2 wd1 (zP w k)+i*wd1 (zP w k)+t)) (wd1<|zP w k)=zh (λt=>cn wd2 wd1 v (zP w k) i t*T1 k t j) (wd1<|zP w k):=zx λt _=>Nu ..;have U:zh (λt=>((0 - T2 k i t)%p)*v (off wd2 wd1 (zK w k)+j+t*wd1 (zK w k))) (wd2<|zK w k)%p=(-(zh (λt=>T2 k i t*cn wd2 wd1 v (zK w k) t j)<|wd2<|zK w k))%p:=by rw[show -(zh (λt=>T2 k i t*cn wd2 wd1 v (zK w k) t j)<|wd2<|zK w k)=zh (λt=>(-1)*(T2 k i t*cn wd2 wd1 v (zK w k) t j)) (wd2<|zK w k)by rw[zY];omega];refine zO λt _=>?_;rw[Mh,Nw _<|OJ p,<- Mh];congr 1;unfold cn;rw[show off wd2 wd1 (zK w k)+j+t*wd1 (zK w k)=off wd2 wd1 (zK w k)+t*wd1 (zK w k)+j by omega,Int.zero_sub,Ru,Ru,Int.one_mul]
 unfold mM;rw[d,MU,U,<- MU];generalize zh (λt=>cn wd2 wd1 v (zP w k) i t*T1 k t j) (wd1<|zP w k)=a;generalize zh (λt=>T2 k i t*cn wd2 wd1 v (zK w k) t j) (wd2<|zK w k)=b;rw[<- Int.sub_eq_add_neg];exact⟨λz=>Om.mpr z,λz=>Om.mp z⟩
theorem fP(U:0<p)(v:Nat->Int):(∀e,e<off (eK w wd2) (ed w wd1) m->zh (λx=>yg p m w wd1 wd2 T1 T2 e x*v x) (off wd2 wd1<|m+1)%p=0)↔s9 p m w wd1 wd2 T1 T2 (cn wd2 wd1 v):=by
 constructor
 ·intro H k I i j a O
  have Y:i<eK w wd2 k:=by rw[<- qt];exact a
  have b:j<ed w wd1 k:=by rw[<- qz];exact O
  have:=H _<|V3 I Y b;rw[Ws I Y b]at this;exact(cW U I a O v).mp this
 ·intro H e d
  obtain⟨k,i,j,I,a,O,rfl⟩:=lY _ _ d;rw[Ws I a O];rw[<- qt]at a;rw[<- qz]at O;exact(cW U I a O v).mpr (H k I i j a O)
theorem BD{r i j:Nat}(O:r<=m)(z:i<wd2 r)(I:j<wd1 r)(h:UW):cn wd2 wd1 (E8 wd2 wd1 h<|m+1) r i j=h r i j:=KL (T:=h) z I (m+1) ⋯
theorem Cr{K1 K2:List (Int×Int)}{z J C L:UW}{r:Nat}(U:Pr p)(M:F6 p m w wd1 K1 T1 z J)(S:F6 p m w wd2 K2 T2 C L)(Z:Rk p (off wd2 wd1<|m+1) (off (eK w wd2) (ed w wd1) m) (yg p m w wd1 wd2 T1 T2) r) :
 yQ (K1.map λb=>yQ<|K2.map λc=>sf w b c)+(r:Int)=(off wd2 wd1 (m+1):Int):=by
 have e:=U.pos;obtain⟨c,E,h,H⟩:=tW U M S;have:=tq (W:=λs=>E8 wd2 wd1 (E s)<|m+1) (c:=c) U Z (λs d=>(fP e _).mpr ((H.G7 s d).ext λq O i j a I=>(BD O a I<|E s).symm)) (λv f=>?_) λt Y s d=>?_
 ·omega
 ·obtain⟨t,Y⟩:=H.span _ ((fP e v).mp f)
  refine⟨t,λx g=>?_⟩;obtain⟨q,i,j,O,a,I,rfl⟩:=lY _ _ g;have:=Y q ⋯ i j a I;rw[show cn wd2 wd1 v q i j=v (off wd2 wd1 q+i*wd1 q+j)from rfl]at this;rw[this];exact zO λs _=>by rw[KL (T:=E s) a I (m+1) O]
 ·refine H.ind t (λq O i j a I=>?_) s d
  have:=Y _<|V3 (show q<m+1 by omega) a I;rw[<- this];exact zO λs _=>by rw[KL (T:=E s) a I (m+1) ⋯]
end
theorem fm{hs ws:UX}{a b:Nat}(z : ∀k,hs k<=a)(h2 : ∀k,ws k<=b) : ∀n,off hs ws n<=n*(a*b)
 | 0=>Nh _
 | n+1=>by have:=fm z h2 n;have:=Nat.mul_le_mul (z n)<|h2 n;show off hs ws n+hs n*ws n<=_;rw[Sf];omega
theorem Bm:xK=jj 7 (zQ Es<|zQ (k3 (zS<|x9<|ze 0) (.nm 4) Gb)<|vK 3):=rfl
section
variable{p:Int}{m:Nat}{w:UK}{wd1 wd2:UX}{T1 T2:UW}{K1 K2:List (Int×Int)}{F1 G1 F2 G2:UW}
theorem sM(J:m<=4)(z : ∀k,wd1 k<=9)(C : ∀k,wd2 k<=9):xK [.str (qc m w),jN m w wd1 T1,jN m w wd2 T2]=bX (.val<|.int<|(off wd2 wd1 (m+1):Int) - (off (eK w wd2) (ed w wd1) m:Int)):=by
 have u:=jm;let U:=jN m w wd1 T1;let Y:=jN m w wd2 T2;let Γ:Cell->Cell->Cell->Cell->Ctx:=λi d a b=>[.val (.str<|qc m w),.val U,.val Y,i,d,a,b];have s:Es (Γ .no .no .no .no)=bX (.next<|Γ (.val<|.int (off wd2 wd1 (m+1):Int)) .no .no .no):=by
  have e:KF (cE (zm 1)<|zy<|.int 0) (cE (zm 2)<|zy<|.int 0) (Γ .no .no .no .no)=bX ((LW<|m+1).map λk=>D.tup [.int (wd1 k:Int),.int (wd2 k:Int)]):=by show bX (vI (zA (m+1) λk=>(wd1 k:Int))<|zA (m+1) λk=>(wd2 k:Int))=_;unfold vI zA;rw[OZ,MJ];rfl
  have n:zW (.tp [0,1]) js (zE xu (ze 0)<|ze 1) [Cell.no,.no] ((LW<|m+1).map λk=>D.tup [.int (wd1 k:Int),.int (wd2 k:Int)])=bX (zA (m+1) λk=>(wd2 k:Int)*(wd1 k:Int)):=by unfold zA;refine zB _ _ λk I=>zD (γ1:=[.val (.int (wd1 k:Int)),.val (.int (wd2 k:Int))]) rfl rfl ?_;have:=z k;have O:vT (wd1 k:Int) (wd2 k:Int)=cz:=kE _ _ ⋯ ⋯;simp[O,Nu]
  have o:((LW<|m+1).map λk=>D.tup [.int (wd1 k:Int),.int (wd2 k:Int)]).length<=lim:=by simp;omega
  unfold Es;rw[vn,Va,kF,qb,e,Me,UJ o,show je 2 [] (Γ .no .no .no .no)=[Cell.no,.no]from rfl,n];show((Wq<|zA (m+1) λk=>(wd2 k:Int)*(wd1 k:Int)).map D.int).map _=_;rw[yV,VA];rfl
 have wl:=ym m w;have g:=qU w (show m<=1000 by omega);obtain⟨γ',t,d,a,b,rfl⟩:=jA (T:= .nm 4) (F:=Gb) (f:=x9<|ze 0) (λk γ=>∃d a b,γ=Γ (.val<|.int<|(off wd2 wd1 (m+1):Int) - (off (eK w wd2) (ed w wd1) k:Int)) d a b) m ⋯ (γ:=Γ (.val<|.int (off wd2 wd1 (m+1):Int)) .no .no .no) (by simp[Γ,wl,g]) ⟨.no,.no,.no,by simp[off]⟩ (by
  rintro k I γ ⟨d,a,b,rfl⟩;have l:=yC (w:=w) I;have h:=yF (w:=w) I;have j:=xH (w:=w) (show m<=5 by omega) I;let S:=Cell.val<|.int<|(off wd2 wd1 (m+1):Int) - (off (eK w wd2) (ed w wd1) k:Int);refine⟨Γ S (.val<|.int (k:Int)) a b,Γ (.val<|.int<|(off wd2 wd1 (m+1):Int) - (off (eK w wd2) (ed w wd1) (k+1):Int)) (.val<|.int (k:Int)) (.val<|.int (zK w k:Int))<|.val<|.int (zP w k:Int),rfl,?_,_,_,_,rfl⟩;refine zv (γ':=Γ S (.val<|.int (k:Int)) (.val<|.int (zK w k:Int))<|.val<|.int (zP w k:Int)) (by simp[Γ,j]) ?_;have p:XM 1 5 (Γ S (.val<|.int (k:Int)) (.val<|.int (zK w k:Int))<|.val<|.int (zP w k:Int))=bX (.int (wd1 (zK w k):Int)):=nX rfl rfl h;have r:XM 2 6 (Γ S (.val<|.int (k:Int)) (.val<|.int (zK w k:Int))<|.val<|.int (zP w k:Int))=bX (.int (wd2 (zP w k):Int)):=nX rfl rfl l;have:=z<|zK w k;have O:vT (wd1 (zK w k):Int) (wd2 (zP w k):Int)=cz:=kE _ _ ⋯ ⋯;rw[vn,yi,yi,p,r];show(((xu (.int (wd1 (zK w k):Int))<|.int (wd2 (zP w k):Int)).bind λy=>yR (.int<|(off wd2 wd1 (m+1):Int) - (off (eK w wd2) (ed w wd1) k:Int)) y)).map _=_;simp only[wR,O,if_true,Me,af,Nt];show bX (Fl.next<|Γ (.val<|.int<|(off wd2 wd1 (m+1):Int) - (off (eK w wd2) (ed w wd1) k:Int) - (wd1 (zK w k):Int)*(wd2 (zP w k):Int)) (.val<|.int (k:Int)) (.val<|.int (zK w k:Int))<|.val<|.int (zP w k:Int))=_;rw[show((off wd2 wd1 (m+1):Int) - (off (eK w wd2) (ed w wd1) k:Int) - (wd1 (zK w k):Int)*(wd2 (zP w k):Int))=(off wd2 wd1 (m+1):Int) - (off (eK w wd2) (ed w wd1) (k+1):Int)by
   show _=_ - ((off (eK w wd2) (ed w wd1) k+eK w wd2 k*ed w wd1 k:Nat):Int);rw[<- qt,<- qz,Sj,OW,Nu];omega])
 rw[Bm];exact jk<|zv (γ':=Γ (.val<|.int (off wd2 wd1 (m+1):Int)) .no .no .no) s<|zv t rfl
theorem dE(Y:Pr p)(hm:m<=3)(z : ∀k,wd1 k<=4)(C : ∀k,wd2 k<=4)(S : ∀k i j,0<=T1 k i j/\T1 k i j<p)(r2 : ∀k i j,0<=T2 k i j/\T2 k i j<p):qM [.int p,.str<|qc m w,jN m w wd1 T1,jN m w wd2 T2]=bX (.val<|.bl cz):=by
 have hl:=jm;have p0:=Y.pos;obtain⟨K1,F1,G1,s⟩:=eX (w:=w) (wd:=wd1) (T:=T1) Y (λk=>by have:=z k;omega) (show m<=5 by omega) S;obtain⟨K2,F2,G2,u⟩:=eX (w:=w) (wd:=wd2) (T:=T2) Y (λk=>by have:=C k;omega) (show m<=5 by omega) r2;have hN:off wd2 wd1 (m+1)<=64:=Np (fm C z<|m+1) ⋯;have hR:off (eK w wd2) (ed w wd1) m<=48:=Np (fm (a:=4) (b:=4) (λk=>by rw[<- qt];exact C _) (λk=>by rw[<- qz];exact z _) m) ⋯;have sq:=cV (w:=w) (wd1:=wd1) (wd2:=wd2) (T1:=T1) (T2:=T2) Y (show m<=5 by omega) (λk=>by have:=z k;omega) (λk=>by have:=C k;omega) ⋯ ⋯;have H : ∀e x,e<off (eK w wd2) (ed w wd1) m->x<off wd2 wd1 (m+1)->0<=yg p m w wd1 wd2 T1 T2 e x/\yg p m w wd1 wd2 T1 T2 e x<p:=λe x he hx=>by
  obtain⟨k,i,j,hk,F,y,rfl⟩:=lY _ _ he;rw[Ws hk F y];rw[<- qt]at F;rw[<- qz]at y;have two:=Y.two;unfold A9;have Z : ∀I,I<wd1 (zP w k)->x=off wd2 wd1 (zP w k)+i*wd1 (zP w k)+I->zh (λt=>T1 k t j*qR x (off wd2 wd1 (zP w k)+i*wd1 (zP w k)+t)) (wd1<|zP w k)=T1 k I j:=λI U d=>by rw[zR U λt _ J=>by unfold qR;rw[UY ⋯,NA]];unfold qR;rw[UJ d,tr]
  have UI:(∀t,t<wd1 (zP w k)->x≠off wd2 wd1 (zP w k)+i*wd1 (zP w k)+t)->zh (λt=>T1 k t j*qR x (off wd2 wd1 (zP w k)+i*wd1 (zP w k)+t)) (wd1<|zP w k)=0:=λG=>by rw[zx (g:=λ_=>0) λt O=>by unfold qR;rw[UY (G t O),NA],zM]
  have b0 : ∀I,I<wd2 (zK w k)->x=off wd2 wd1 (zK w k)+j+I*wd1 (zK w k)->zh (λt=>((0 - T2 k i t)%p)*qR x (off wd2 wd1 (zK w k)+j+t*wd1 (zK w k))) (wd2<|zK w k)=(0 - T2 k i I)%p:=λI U d=>by
   rw[zR U λt _ J=>by unfold qR;rw[UY,NA];intro q;rw[d]at q;exact J (Nat.eq_of_mul_eq_mul_right (Nat.lt_of_le_of_lt (Nh _) y) (SE q).symm)]
   unfold qR;rw[UJ d,tr]
  have TJ:(∀t,t<wd2 (zK w k)->x≠off wd2 wd1 (zK w k)+j+t*wd1 (zK w k))->zh (λt=>((0 - T2 k i t)%p)*qR x (off wd2 wd1 (zK w k)+j+t*wd1 (zK w k))) (wd2<|zK w k)=0:=λG=>by rw[zx (g:=λ_=>0) λt O=>by unfold qR;rw[UY (G t O),NA],zM]
  by_cases P : ∃t,t<wd1 (zP w k)/\x=off wd2 wd1 (zP w k)+i*wd1 (zP w k)+t
  ·obtain⟨I,U,d⟩:=P
   rw[Z I U d,TJ λt O q=>Wy (wd1:=wd1) (wd2:=wd2) (CF w k) F U O y (by rw[<- d];exact q),Pq];exact S k I j
  ·rw[UI λt O q=>P ⟨t,O,q⟩,Int.zero_add]
   by_cases Q : ∃t,t<wd2 (zK w k)/\x=off wd2 wd1 (zK w k)+j+t*wd1 (zK w k)
   ·obtain⟨I,U,d⟩:=Q
    rw[b0 I U d];exact⟨MF _ ⋯,Mp _ p0⟩
   ·rw[TJ λt O q=>Q ⟨t,O,q⟩]
    omega
 obtain⟨r,L,er⟩:=AQ (f:=yg p m w wd1 wd2 T1 T2) Y (show off (eK w wd2) (ed w wd1) m<=200 by omega) (show off wd2 wd1 (m+1)<=200 by omega) H;have fr:=Cr Y s u L;have b6:=W0 (p:=p) (show m<=4 by omega) w (wd:=wd1) (λk=>by have:=z k;omega) T1;have b7:=W0 (p:=p) (show m<=4 by omega) w (wd:=wd2) (λk=>by have:=C k;omega) T2;have bm:=s.le;have i9:=u.le;have E:=nI (show m<=5 by omega) s.st u.st ⋯ ⋯ s.pp.eb u.pp.eb;rw[KW]at E;have M:=lX (p:=p) (w:=w) (wd1:=wd1) (wd2:=wd2) (T1:=T1) (T2:=T2) (show m<=4 by omega) (λk=>by have:=z k;omega) (λk=>by have:=C k;omega);have cu:=pH (show m<=4 by omega) E M;have lp:=sM (w:=w) (wd1:=wd1) (wd2:=wd2) (T1:=T1) (T2:=T2) (show m<=4 by omega) (λk=>by have:=z k;omega) (λk=>by have:=C k;omega);have ll:(z7 (off (eK w wd2) (ed w wd1) m) (off wd2 wd1<|m+1)<|yg p m w wd1 wd2 T1 T2).length=off (eK w wd2) (ed w wd1) m:=jX _ _ _;generalize z7 (off (eK w wd2) (ed w wd1) m) (off wd2 wd1<|m+1) (yg p m w wd1 wd2 T1 T2)=X at *;generalize off (eK w wd2) (ed w wd1) m=R at *;generalize off wd2 wd1 (m+1)=N at *;generalize yQ (K1.map λb=>yQ<|K2.map λc=>sf w b c)=c at *;clear s u L H;generalize j5 p m w wd1 T1=R1 at *;generalize j5 p m w wd2 T2=R2 at *;generalize jN m w wd1 T1=U1 at *;generalize jN m w wd2 T2=U2 at *;have w1:=J7<|(N:Int) - (R:Int);have W:=J7<|c - ((N:Int) - (R:Int));have K:c - ((N:Int) - (R:Int))=(R:Int) - (r:Int):=by omega
 let Γ:Cell->Cell->Cell->Cell->Cell->Cell->Ctx:=λc4 c5 c6 c7 c8 c9=>[.val (.int p),.val<|.str<|qc m w,.val U1,.val U2,c4,c5,c6,c7,c8,c9];let A:=Cell.val R1;let B:=Cell.val R2;let n:=Cell.val<|.int (N:Int);let h:=Cell.val<|.lst X;let l:=Cell.val<|.int<|(N:Int) - (R:Int);let o:=Cell.val<|.int<|c - ((N:Int) - (R:Int));unfold qM;refine jk<|zv (γ':=Γ A .no .no .no .no .no) (by show jy _ _ (Γ .no .no .no .no .no .no)=_;simp[Γ,b6,A])<|zv (γ':=Γ A B .no .no .no .no) (by simp[Γ,b7,B])<|zv (γ':=Γ A B n h .no .no) (by simp[Γ,sq,n,h])<|zv (γ':=Γ A B n h l .no) (by simp[Γ,A,B,l,M])<|zv (γ':=Γ A B n h l o) (by simp[Γ,A,B,o,cu])<|zv (γ':=Γ A B n h l o) (by simp[Γ,l,w1,lp])<|zv (γ':=Γ A B n h l o) ?_ ?_
 ·rw[K]at W
  simp only[o,K];simp[Γ,h,W,er,ll]
 ·simp[Γ,A,B,l,o,E]
  omega
end
theorem pz:QB=jj 9 (zQ pG<|zQ pF<|zQ pE<|zQ pD<|zQ pC<|zQ pB<|zQ cF pA):=rfl
theorem Gq(z:List Int)(U:z.length<=63):QB [xT z]=bX (.val<|.bl cz):=by
 have hl:=jm;obtain⟨C,y,b1⟩:=J1 U (k:=0) ⋯ ⋯;generalize qS z 0=c at C y b1;obtain⟨q,Y,ep,N⟩:=Bn y;have s:=Y.pos;have p7:=Y.le;obtain⟨m,em,G⟩ : ∃m:Nat,1+c/4%4=1+(m:Int)/\m<=3:=⟨(c/4%4).toNat,by omega,by omega⟩;obtain⟨n1,Q,bt⟩ : ∃n:Nat,c/3072%5=(n:Int)/\n<=4:=⟨(c/3072%5).toNat,by omega,by omega⟩;obtain⟨n2,as,bv⟩ : ∃n:Nat,c/15360%5=(n:Int)/\n<=4:=⟨(c/15360%5).toNat,by omega,by omega⟩;obtain⟨w,ew⟩:=uV (c:=c/16) ⋯ (m:=m) ⋯;have R:((m+1:Nat):Int)=1+(m:Int):=by omega
 obtain⟨b,H,S,l1⟩:=Jp U (t:=1) ⋯ ⋯ (r:=m+1) (n:=n1) ⋯ ⋯ ⋯;obtain⟨d,J,T,l2⟩:=Jp U (t:=6) ⋯ ⋯ (r:=m+1) (n:=n2) ⋯ ⋯ ⋯;rw[R]at H J;obtain⟨f1,g1,c0,X⟩:=AH (w:=w) U Y (show m<=5 by omega) (show b.length<=16 by omega) S (a:=12) ⋯ ⋯;obtain⟨f2,g2,c1,Z⟩:=AH (w:=w) U Y (show m<=5 by omega) (show d.length<=16 by omega) T (a:=70) ⋯ ⋯;have w1 : ∀k,bW b k<=4:=λk=>by have:=CC b k;omega
 have w2 : ∀k,bW d k<=4:=λk=>by have:=CC d k;omega
 obtain⟨K,u,bc,bd,ea⟩:=CS U (t:=1) (p:=(q:Int)) (few:=c/512%3) ⋯ ⋯ s ⋯ (show m<=4 by omega) w;obtain⟨L,x,bf,bg,eb⟩:=CS U (t:=60) (p:=(q:Int)) (few:=c/512%3) ⋯ ⋯ s ⋯ (show m<=4 by omega) w;let γ:Cell->Cell->Cell->Cell->Cell->Cell->Cell->Ctx:=λc2 c3 c4 c5 c6 l o=>[.val (xT z),.val<|.int c,c2,c3,c4,c5,c6,l,o];let P:=Cell.val<|.int q;let M:=Cell.val<|.int<|1+(m:Int);let W:=Cell.val<|.str<|qc m w;let I:=Cell.val<|jN m w K u;let O:=Cell.val<|jN m w L x;obtain⟨e,f,g,h,l,o,E,F,A,B,s7⟩ : ∃e f g h l o,(∀k,e k<=4)/\(∀k,f k<=4)/\(∀k i j,0<=g k i j/\g k i j<(q:Int))/\(∀k i j,0<=h k i j/\h k i j<(q:Int))/\cF (γ P M W I O .no .no)=bX (.next<|γ P M W (.val<|jN m w e g) (.val<|jN m w f h) l o):=by
  by_cases t:c/1536%2=1
  ·refine⟨bW b,bW d,vW (q:Int) w (bW b) f1 g1<|bT w b,vW (q:Int) w (bW d) f2 g2<|bT w d,.val<|.lst<|jn b,.val<|.lst<|jn d,w1,w2,λk i j=>Wj s w (bW b) f1 g1 (bT w b) k i j,λk i j=>Wj s w (bW d) f2 g2 (bT w d) k i j,?_⟩
   unfold cF;rw[uD,show sB (zE hG (zE q8 (zE v9 (ze 1)<|zy<|.int 1536)<|zy<|.int 2)<|zy<|.int 1) (γ P M W I O .no .no)=bX cz by simp[γ,t]];show zQ _ _ (γ P M W I O .no .no)=_;refine zv (γ':=γ P M W I O (.val<|.lst<|jn b) .no) (by simp[γ,Q,H,M])<|zv (γ':=γ P M W I O (.val<|.lst<|jn b)<|.val<|.lst<|jn d) (by simp[γ,as,J,M])<|zv (γ':=γ P M W (.val<|jN m w (bW b)<|vW (q:Int) w (bW b) f1 g1<|bT w b) O (.val<|.lst<|jn b)<|.val<|.lst<|jn d) (by simp[γ,P,W,X]) ?_;simp[γ,P,W,Z]
  ·refine⟨K,L,u,x,.no,.no,λk=>by have:=bc k;omega,λk=>by have:=bf k;omega,bd,bg,?_⟩
   unfold cF;rw[uD,show sB (zE hG (zE q8 (zE v9 (ze 1)<|zy<|.int 1536)<|zy<|.int 2)<|zy<|.int 1) (γ P M W I O .no .no)=bX dn by simp[γ,t]];rfl
 have g1:=dE (w:=w) Y G E F A B;have g2:=dE (w:=w) Y G F E B A;generalize jN m w e g=U1 at *;generalize jN m w f h=U2 at *;rw[pz];refine jk<|zv (γ':=γ .no .no .no .no .no .no .no) (by simp[pG,z6,C,γ])<|zv (γ':=γ P .no .no .no .no .no .no) (by simp[pF,γ,N,ep,P])<|zv (γ':=γ P M .no .no .no .no .no) (by simp[pE,γ,em,P,M])<|zv (γ':=γ P M W .no .no .no .no) (by simp[pD,γ,ew,W,P,M])<|zv (γ':=γ P M W I .no .no .no) (by simp[pC,γ,ea,I,P,M,W])<|zv (γ':=γ P M W I O .no .no) (by simp[pB,γ,eb,O,P,M,W])<|zv s7 ?_;simp[pA,γ,P,W,g1,g2]
open PySem.Spec PyProof.Rows
noncomputable def top(i:Nat):PySem.Stmt:=PySem.Challenge.pw_barsplit_k48_layings_counted.main.body.getD i<|.Pass ⟨0,0,0,0⟩
section
variable{CR CL:PySem.Addr}{P:PySem.Program}{w:PySem.World}{K:LX}{mg:PySem.Str->Option PySem.Value}{base:PySem.Heap}
theorem QP(h:us.length=n+1) : ∃a t,us=a::t/\t.length=n:=by
 cases us with
 | nil=>exact absurd h<|Nat.zero_ne_add_one n
 | cons a t=>exact⟨a,t,rfl,Nat.succ.inj h⟩
theorem LR(h:us.length=1) : ∃a,us=[a]:=by obtain⟨a,O,rfl,I⟩:=QP h;rw[MX I];exact⟨a,rfl⟩
theorem LQ(h:us.length=2) : ∃a b,us=[a,b]:=by obtain⟨a,O,rfl,I⟩:=QP h;obtain⟨b,U,rfl,d⟩:=QP I;rw[MX d];exact⟨a,b,rfl⟩
theorem LP(h:us.length=3) : ∃a b c,us=[a,b,c]:=by obtain⟨a,O,rfl,I⟩:=QP h;obtain⟨b,U,rfl,d⟩:=QP I;obtain⟨c,Y,rfl,e⟩:=QP d;rw[MX e];exact⟨a,b,c,rfl⟩
theorem LO(h:us.length=4) : ∃a b c d,us=[a,b,c,d]:=by obtain⟨a,U,rfl,I⟩:=QP h;obtain⟨b,Y,rfl,e⟩:=QP I;obtain⟨c,g,rfl,f⟩:=QP e;obtain⟨d,i,rfl,O⟩:=QP f;rw[MX O];exact⟨a,b,c,d,rfl⟩
theorem LN{z:Type}{us:List z}(h:us.length=5) : ∃a b c d e,us=[a,b,c,d,e]:=by obtain⟨a,Y,rfl,I⟩:=QP h;obtain⟨b,i,rfl,f⟩:=QP I;obtain⟨c,j,rfl,g⟩:=QP f;obtain⟨d,k,rfl,O⟩:=QP g;obtain⟨e,l,rfl,U⟩:=QP O;rw[MX U];exact⟨a,b,c,d,e,rfl⟩
theorem LM{z:Type}{us:List z}(h:us.length=6) : ∃a b c d e f,us=[a,b,c,d,e,f]:=by obtain⟨a,j,rfl,I⟩:=QP h;obtain⟨b,k,rfl,g⟩:=QP I;obtain⟨c,l,rfl,i⟩:=QP g;obtain⟨d,m,rfl,O⟩:=QP i;obtain⟨e,n,rfl,U⟩:=QP O;obtain⟨f,o,rfl,Y⟩:=QP U;rw[MX Y];exact⟨a,b,c,d,e,f,rfl⟩
structure E0(K:LX)(mg:PySem.Str->Option PySem.Value):Prop where
 Q0:gm K mg "_law_cell" (top 53) ["_law_script","_law_k"]
 Q1:gm K mg "_law_ways" (top 57) ["_law_cell_here","_law_rooms"]
 Q2:gm K mg "_law_ends" (top 55) ["_law_ways_here","_law_k"]
 Q3:gm K mg "_law_table" (top 63) ["_law_script","_law_at","_law_p","_law_high","_law_wide","_law_few"]
 Q4:gm K mg "_law_any" (top 64) ["_law_script","_law_at","_law_p","_law_ways_here","_law_most","_law_few"]
 Q5:gm K mg "_law_stretches" (top 56) ["_law_script","_law_at","_law_many","_law_rooms"]
 Q6:gm K mg "_law_bar_tables" (top 59) ["_law_ways_here","_law_bars"]
 Q7:gm K mg "_law_times" (top 58) ["_law_p","_law_one","_law_other","_law_wide"]
 Q8:gm K mg "_law_turn" (top 60) ["_law_script","_law_at","_law_p","_law_size"]
 Q9:gm K mg "_law_row" (top 61) ["_law_script","_law_at","_law_p","_law_ways_here","_law_bars"]
 Qa:gm K mg "_law_handed" (top 62) ["_law_p","_law_ways_here","_law_row_here"]
 Qb:gm K mg "_law_squares" (top 66) ["_law_p","_law_ways_here","_law_one","_law_other"]
 Qc:gm K mg "ways_of" (top 13) ["row"]
 Qd:gm K mg "one_kind" (top 14) ["one","other"]
 Qe:gm K mg "ask_one_kind" (top 15) ["one","other"]
 Qf:gm K mg "numbers_in" (top 43) ["sizes"]
 Qg:gm K mg "room_sizes" (top 41) ["one","other"]
 Qh:gm K mg "end_of" (top 12) ["k","way"]
 Qi:gm K mg "beginning_of" (top 11) ["k","way"]
 Qj:gm K mg "arrow_sizes" (top 42) ["one","other"]
 Qk:gm K mg "plain_sum" (top 50) ["upper","under"]
 Ql:gm K mg "behind_noughts" (top 20) ["many","base"]
 Qm:gm K mg "rests" (top 5) ["p","numbers"]
 Qn:gm K mg "inverse" (top 6) ["p","x"]
 Qo:gm K mg "cleared" (top 18) ["p","load","pivot","place"]
 Qp:gm K mg "base_of" (top 19) ["p","long","loads"]
 Qq:gm K mg "turned_over" (top 8) ["table"]
 Qr:gm K mg "same_table" (top 9) ["many"]
 Qs:gm K mg "led_into" (top 21) ["p","table","base"]
 Qt:gm K mg "kernel" (top 22) ["p","table"]
 Qu:gm K mg "image" (top 23) ["p","table"]
 Qv:gm K mg "columns" (top 30) ["high","loads"]
 Qw:gm K mg "has_room" (top 28) ["bar","room"]
 Qx:gm K mg "loads_in" (top 29) ["bars","room"]
 Qy:gm K mg "lead_of" (top 17) ["load"]
 Qz:gm K mg "led" (top 7) ["p","table","load"]
 a_:gm K mg "mixed_load" (top 31) ["row","bars","times","room"]
 b_:gm K mg "mixed" (top 32) ["row","bars","times"]
 c_:gm K mg "settled" (top 33) ["row","k","bars"]
 d_:gm K mg "solved" (top 24) ["p","table","load"]
 e_:gm K mg "next_load" (top 34) ["p","arrow","load"]
 f_:gm K mg "taken_on" (top 35) ["p","arrow","bar"]
 g_:gm K mg "new_loads" (top 36) ["p","arrow"]
 h_:gm K mg "grown" (top 37) ["row","k","bars"]
 i':gm K mg "stretch_of" (top 27) ["bar"]
 i_:gm K mg "all_grown" (top 38) ["row"]
 j':gm K mg "back_of" (top 25) ["p","table"]
 j_:gm K mg "barred" (top 39) ["row"]
 k_:gm K mg "left_holds" (top 44) ["ways","one","other"]
 l_:gm K mg "right_holds" (top 45) ["ways","one","other"]
 m_:gm K mg "bar_ways" (top 46) ["ways","one","other"]
 n_:gm K mg "ways_into" (top 47) ["ways","bars","bar"]
 o_:gm K mg "count_ways" (top 48) ["one","other"]
 p_:gm K mg "count_upon" (top 51) ["upper","under"]
 q_:gm K mg "_law_whole" (top 54) ["_law_found"]
 r_:gm K mg "_law_plain" (top 67) ["_law_ways_here","_law_upper","_law_under"]
 s_:gm K mg "_law_rank" (top 65) ["_law_p","_law_rows"]
 t_:gm K mg "_law_right" (top 68) ["_law_p","_law_ways_here","_law_upper","_law_under"]
 u_:gm K mg "law" (top 69) ["_law_script"]
 Z0:mg "len" = none
 Z1:mg "min" = none
 Z2:mg "range" = none
 Z3:mg "int" = none
 Z4:mg "sorted" = none
 Z5:mg "sum" = none
 Z6:mg "zip" = none
 Z7:mg "tuple" = none
 Z8:mg "list" = none
 Z9:mg "enumerate" = none
 Za:mg "any" = none
 Zb:mg "dict" = none
 Zc:mg "max" = none
 Zd:mg "bool" = none
 Ze:mg "isinstance" = none
theorem kB(E:E0 K mg):f7 P w K mg base 1 "_law_cell" 2 jb:=
 xt (N:=["_law_script","_law_k","_law_cell_here","_law_turn_here","_law_given"]) E.Q0 ⋯ λX O b U a Y I d=>by subst O b U a Y;exact by refine zf (xi (lG (dN (WE (xw I ⋯ E.Z0 (zX I)) zk) (WB (xZ I (jG (zC (zX I) zk) zk) zk)))) (by refine zf (jw I (zC (zX I) (ji zk (jG (zw I) (xN (xw I ⋯ E.Z0 (zX I)) zk))))) ?_;refine zf (qk d I (z5 I ⋯ E.Z2 (dQ I ⋯ E.Z1 zk (xY (zw I) (xN (xw I ⋯ E.Z0 (zX I)) zk)))) (zu (jw I (xY (zw I) (dO zk zk))))) ?_;exact(zu (zT (jG (zw I) (dO zk zk))))) jM) ?_;refine zf (jw I (zw I)) ?_;refine zf (xi (WE (xw I ⋯ E.Z0 (zX I)) zk) (zu (jw I (zC (zX I) (jG (zw I) (xw I ⋯ E.Z0 (zX I)))))) jM) ?_;exact(zu (zT (jG (j6 (jG (ji (ji (ji (j6 (jG (zw I) (dO zk zk)) zk) (j6 (j6 zk (zw I)) (zw I))) (j6 zk (zw I))) zk) zk) zk) zk)))
theorem JC(E:E0 K mg):f7 P w K mg base 1 "_law_ways" 2 xJ:=
 xt (N:=["_law_cell_here","_law_rooms"]) E.Q1 ⋯ λX O d U b Y I e=>by subst O d U b Y;exact zu (zT (dR kL (PO.q (qG I (h7.c (z5 I ⋯ E.Z2 (xN (zw I) zk))) (λ_ _ _ a=>wy kL (jG (xY (zw a) (zC (PO.q (qJ (kf (za zk (za zk (za zk (za zk (za zk zo)))))))) (zw a))) zk))))))
theorem xB(E:E0 K mg):f7 P w K mg base 1 "_law_ends" 2 jQ:=
 xt (N:=["_law_ways_here","_law_k"]) E.Q2 ⋯ λX O b U a Y I d=>by subst O b U a Y;exact by refine zf (xi (xZ I (wy (zw I) (zw I)) kL) (zu (zT (j3 (kf (za (zw I) (za (ji (zw I) zk) zo)))))) jM) ?_;exact(zu (zT (j3 (kf (za (ji (zw I) zk) (za (zw I) zo))))))
theorem JD(E:E0 K mg):f7 P w K mg base 2 "_law_table" 6 qL:=
 xt (N:=["_law_script","_law_at","_law_p","_law_high","_law_wide","_law_few","_law_rows","_law_i","_law_row_here","_law_j","_law_cell_here"]) E.Q3 ⋯ λX O d U b Y I a=>by subst O d U b Y;exact by refine zf (x6 I (qJ (kf zo))) ?_;refine zf (qk a I (z5 I ⋯ E.Z2 (zw I)) (by refine zf (x6 I (qJ (kf zo))) ?_;refine zf (qk a I (z5 I ⋯ E.Z2 (zw I)) (by refine zf (jw I (zZ (kB E) I (za (zw I) (za (ji (ji (zw I) (j6 (zw I) (zw I))) (zw I)) zo)))) ?_;exact(zu (xS 8 I ⋯ (j6 (jG (xY (zw I) zk) (zw I)) (XU I ⋯ E.Z3 (FW (jG (xY (zw I) zk) zk) (zw I)))))))) ?_;exact(zu (va 8 (xS 6 I ⋯ (zw I)))))) ?_;exact(zu (yv 6 (I.var ⋯)))
theorem wF(E:E0 K mg):f7 P w K mg base 3 "_law_any" 6 kX:=
 xt (N:=["_law_script","_law_at","_law_p","_law_ways_here","_law_most","_law_few","_law_widths","_law_tables","_law_k","_law_begin","_law_end"]) E.Q4 ⋯ λX O d U b Y I e=>by subst O d U b Y;exact by refine zf (jR 6 (vb I (h7.c (z5 I ⋯ E.Z2 (ji (y8 I ⋯ E.Z0 (zw I)) zk))) (λ_ _ _ a=>jG (xY (zZ (kB E) a (za (zw a) (za (ji (zw a) (zw a)) zo))) zk) (ji (zw a) zk)))) ?_;refine zf (x6 I (qJ (kf zo))) ?_;refine zf (qk e I (z5 I ⋯ E.Z2 (y8 I ⋯ E.Z0 (zw I))) (by refine zf (kc (iE I) (zZ (xB E) I (za (zw I) (za (zw I) zo)))) ?_;exact(zu (xS 7 I ⋯ (PO.v (ke (JD E) I (za (zw I) (za (ji (ji (zw I) zk) (j6 zk (zw I))) (za (zw I) (za (zC (zX I) (zw I)) (za (zC (zX I) (zw I)) (za (zw I) zo)))))))))))) ?_;exact(zu (va 7 (zT (j3 (kf (za (zw I) (za (zw I) zo)))))))
theorem yK(E:E0 K mg):f7 P w K mg base 2 "_law_stretches" 4 qA:=
 xt (N:=["_law_script","_law_at","_law_many","_law_rooms","_law_some","_law_k","_law_cell_here","_law_i"]) E.Q5 ⋯ λX O b U a Y I d=>by subst O b U a Y;exact by refine zf (x6 I (qJ (kf zo))) ?_;refine zf (qk d I (z5 I ⋯ E.Z2 (zw I)) (by refine zf (jw I (zZ (kB E) I (za (zw I) (za (ji (zw I) (zw I)) zo)))) ?_;refine zf (jw I (jG (zw I) (zw I))) ?_;exact(zu (xS 4 I ⋯ (j3 (kf (za (zw I) (za (ji (zw I) (jG (xY (zw I) (zw I)) (xN (zw I) (zw I)))) zo)))))))) ?_;exact(zu (qP (lS I ⋯ E.Z4 (zX I))))
theorem Zp(E:E0 K mg):f7 P w K mg base 2 "_law_bar_tables" 2 ql:=
 xt (N:=["_law_ways_here","_law_bars","_law_numbered","_law_room","_law_tables","_law_k","_law_begin","_law_end"]) E.Q6 ⋯ λX O f U e Y I d=>by subst O f U e Y;exact by refine zf (x6 I (qJ (kf zo))) ?_;refine zf (qk d I (z5 I ⋯ E.Z2 (ji (y8 I ⋯ E.Z0 (zw I)) zk)) (zu (xS 2 I ⋯ (PO.v (Vr I (h7.c (z5 I ⋯ E.Z2 (xw I ⋯ E.Z0 (zX I)))) (λ_ _ _ a=>dX sY sY cZ cZ (zC (PV.q (zC (zX a) (zw a))) zk) (zw a) (zC (PV.q (zC (zX a) (zw a))) zk)) (λ_ _ _ a=>zw a)))))) ?_;exact(by refine zf (va 2 (x6 I (qJ (kf zo)))) ?_;exact(by refine zf (qk d I (z5 I ⋯ E.Z2 (y8 I ⋯ E.Z0 (zw I))) (by refine zf (kc (iE I) (zZ (xB E) I (za (zw I) (za (zw I) zo)))) ?_;exact(zu (xS 4 I ⋯ (PO.v (qG I (jh (PV.q (zC (zX I) (zw I)))) (λ_ _ _ a=>PO.v (qG a (jh (PV.q (zC (zX a) (zw a)))) (λ_ _ _ b=>XU b ⋯ E.Z3 (Yi b (zw b) (zw b))))))))))) ?_;exact(zu (va 4 (zT (j3 (kf (za (PO.v (qG I (jh (zX I)) (λ_ _ _ a=>xw a ⋯ E.Z0 (zX a)))) (za (zw I) zo)))))))))
theorem vc(E:E0 K mg):f7 P w K mg base 1 "_law_times" 4 jE:=
 xt (N:=["_law_p","_law_one","_law_other","_law_wide","_law_rows","_law_row_here"]) E.Q7 ⋯ λX O e U d Y I f=>by subst O e U d Y;exact by refine zf (x6 I (qJ (kf zo))) ?_;refine zf (qk f I (eI (zw I)) (zu (xS 4 I ⋯ (PO.v (qG I (h7.c (z5 I ⋯ E.Z2 (zw I))) (λ_ _ _ a=>jG (Xe a ⋯ E.Z5 (PO.q (qG a (h7.c (z5 a ⋯ E.Z2 (xw a ⋯ E.Z0 (zX a)))) (λ_ _ _ b=>j6 (zC (zX b) (zw b)) (zC (PV.q (zC (zX b) (zw b))) (zw b)))))) (zw a))))))) ?_;exact(zu (yv 4 (I.var ⋯)))
theorem QL(E:E0 K mg):f7 P w K mg base 2 "_law_turn" 4 qh:=
 xt (N:=["_law_script","_law_at","_law_p","_law_size","_law_turn_here","_law_back","_law_k","_law_cell_here","_law_i","_law_j","_law_times_here","_law_row_here"]) E.Q8 ⋯ λX O f U e Y I d=>by subst O f U e Y;exact by refine zf (XW 4 (vb I (h7.c (z5 I ⋯ E.Z2 (zw I))) (λ_ _ _ a=>PO.v (qG a (h7.c (z5 a ⋯ E.Z2 (zw a))) (λ_ _ _ b=>XU b ⋯ E.Z3 (Yi b (zw b) (zw b))))))) ?_;refine zf (Bi I (h7.c (z5 I ⋯ E.Z2 (zw I))) (λ_ _ _ a=>qG a (h7.c (z5 a ⋯ E.Z2 (zw a))) (λ_ _ _ b=>XU b ⋯ E.Z3 (Yi b (zw b) (zw b))))) ?_;refine zf (qk d I (z5 I ⋯ E.Z2 (xN (j6 zk (zw I)) zk)) (by refine zf (jw I (zZ (kB E) I (za (zw I) (za (ji (zw I) (zw I)) zo)))) ?_;refine zf (jw I (jG (zw I) (zw I))) ?_;refine zf (jw I (jG (ji (ji (zw I) zk) (jG (xY (zw I) zk) (xN (zw I) zk))) (zw I))) ?_;refine zf (jw I (jG (xY (zw I) zk) (zw I))) ?_;refine zf (y9 4 I ⋯ (zw I) (PO.v (qG I (h7.c (vO I ⋯ E.Z6 (zC (zX I) (zw I)) (zC (zX I) (zw I)))) (λ_ _ _ a=>jG (ji (zw a) (j6 (zw a) (zw a))) (zw a))))) ?_;exact(zu (aR 5 11 (oH d) I.calm I ⋯ ⋯ (I.DX 11 ⋯) (zw I) (jG (xN (zC (zX I) (zw I)) (j6 (zw I) (zC (zX I) (zw I)))) (zw I)))))) ?_;exact(zu (lO 5 (va 4 (zT (j3 (kf (za (zw I) (za (zw I) zo))))))))
theorem wD(E:E0 K mg):f7 P w K mg base 3 "_law_row" 5 xQ:=
 xt (N:=["_law_script","_law_at","_law_p","_law_ways_here","_law_bars","_law_widths","_law_tables","_law_turns","_law_k","_law_made","_law_begin","_law_end","_law_half"]) E.Q9 ⋯ λX O d U b Y I a=>by subst O d U b Y;exact by refine zf (kc (iE I) (zZ (Zp E) I (za (zw I) (za (zw I) zo)))) ?_;refine zf (x6 I (qJ (kf zo))) ?_;refine zf (qk a I (z5 I ⋯ E.Z2 (xw I ⋯ E.Z0 (zX I))) (zu (xS 7 I ⋯ (zZ (QL E) I (za (zw I) (za (ji (zw I) (j6 zk (zw I))) (za (zw I) (za (zC (zX I) (zw I)) zo)))))))) ?_;refine zf (x6 I (qJ (kf zo))) ?_;refine zf (qk a I (z5 I ⋯ E.Z2 (y8 I ⋯ E.Z0 (zw I))) (by refine zf (kc (iE I) (zZ (xB E) I (za (zw I) (za (zw I) zo)))) ?_;refine zf (jw I (PO.v (ke (vc E) I (za (zw I) (za (zC (zX I) (zw I)) (za (zC (PV.q (zC (zX I) (zw I))) zk) (za (zC (zX I) (zw I)) zo))))))) ?_;exact(zu (xS 9 I ⋯ (PO.v (ke (vc E) I (za (zw I) (za (zC (PV.q (zC (zX I) (zw I))) zk) (za (zw I) (za (zC (zX I) (zw I)) zo)))))))))) ?_;exact(zu (va 9 (zT (j3 (kf (za (zw I) (za (zw I) zo)))))))
theorem yL(E:E0 K mg):f7 P w K mg base 2 "_law_handed" 3 xp:=
 xt (N:=["_law_p","_law_ways_here","_law_row_here","_law_widths","_law_tables","_law_arrows","_law_k","_law_begin","_law_end","_law_rows"]) E.Qa ⋯ λX O d U b Y I e=>by subst O d U b Y;exact by refine zf (kc (iE I) (zw I)) ?_;refine zf (x6 I (qJ (kf zo))) ?_;refine zf (qk e I (z5 I ⋯ E.Z2 (y8 I ⋯ E.Z0 (zw I))) (by refine zf (kc (iE I) (zZ (xB E) I (za (zw I) (za (zw I) zo)))) ?_;refine zf (jw I (qC I ⋯ E.Z7 (PO.q (qG I (jh (PV.q (zC (zX I) (zw I)))) (λ_ _ _ a=>qC a ⋯ E.Z7 (zX a)))))) ?_;exact(zu (xS 5 I ⋯ (j3 (kf (za (wy (zw I) (zw I)) (za (j3 (kf (za (zC (zX I) (zw I)) (za (zC (zX I) (zw I)) (za (zw I) zo))))) zo)))))))) ?_;exact(zu (zT (j3 (kf (za (zw I) (za (qC I ⋯ E.Z7 (zX I)) (za (qC I ⋯ E.Z7 (zX I)) zo)))))))
theorem Zo(E:E0 K mg):f7 P w K mg base 2 "_law_squares" 4 qQ:=
 xt (N:=["_law_p","_law_ways_here","_law_one","_law_other","_law_starts","_law_wide","_law_high","_law_rows","_law_k","_law_begin","_law_end","_law_i","_law_j","_law_row_here","_law_at","_law_t","_law_number"]) E.Qb ⋯ λX O d U b Y I a=>by subst O d U b Y;exact by refine zf (x6 I (qJ (kf (za zk zo)))) ?_;refine zf (qk a I (vO I ⋯ E.Z6 (zC (zX I) zk) (zC (zX I) zk)) (zu (xS 4 I ⋯ (ji (zC (zX I) (WD zk)) (j6 (zw I) (zw I)))))) ?_;refine zf (x6 I (qJ (kf zo))) ?_;refine zf (qk a I (z5 I ⋯ E.Z2 (y8 I ⋯ E.Z0 (zw I))) (by refine zf (kc (iE I) (zZ (xB E) I (za (zw I) (za (zw I) zo)))) ?_;exact(zu (qk a I (z5 I ⋯ E.Z2 (zC (PV.q (zC (zX I) zk)) (zw I))) (zu (qk a I (z5 I ⋯ E.Z2 (zC (PV.q (zC (zX I) zk)) (zw I))) (by refine zf (x6 I (oF (qJ (kf (za zk zo))) (zC (zX I) (WD zk)))) ?_;refine zf (jw I (ji (zC (zX I) (zw I)) (j6 (zw I) (zC (PV.q (zC (zX I) zk)) (zw I))))) ?_;refine zf (qk a I (z5 I ⋯ E.Z2 (zC (PV.q (zC (zX I) zk)) (zw I))) (zu (y9 13 I ⋯ (ji (zw I) (zw I)) (zC (PV.q (zC (PV.q (zC (PV.q (zC (zX I) zk)) (zw I))) (zw I))) (zw I))))) ?_;refine zf (jw I (ji (zC (zX I) (zw I)) (zw I))) ?_;refine zf (qk a I (z5 I ⋯ E.Z2 (zC (PV.q (zC (zX I) zk)) (zw I))) (by refine zf (jw I (zC (PV.q (zC (PV.q (zC (PV.q (zC (zX I) zk)) (zw I))) (zw I))) (zw I))) ?_;exact(zu (y9 13 I ⋯ (ji (zw I) (j6 (zw I) (zC (PV.q (zC (zX I) zk)) (zw I)))) (jG (xN zk (zw I)) (zw I)))))) ?_;exact(zu (va 13 (xS 7 I ⋯ (zw I))))))))))) ?_;exact(zu (va 7 (zT (j3 (kf (za (zC (zX I) (WD zk)) (za (zw I) zo)))))))
theorem vx(E:E0 K mg):f7 P w K mg base 1 "ways_of" 1 xn:=
 xt (N:=["row"]) E.Qc ⋯ λX O d U b Y I e=>by subst O d U b Y;exact zu (zT (dR kL (PO.q (qG I (jh (PV.q (zC (zX I) zk))) (λ_ _ _ a=>zC (zX a) zk)))))
theorem Vw(E:E0 K mg):f7 P w K mg base 2 "one_kind" 2 km:=
 xt (N:=["one","other"]) E.Qd ⋯ λX O b U a Y I d=>by subst O b U a Y;exact zu (zT (dU (Yi I (zC (zX I) zk) (zC (zX I) zk)) (dP (Yi I (zZ (vx E) I (za (zw I) zo)) (zZ (vx E) I (za (zw I) zo))))))
theorem ve(E:E0 K mg):f7 P w K mg base 3 "ask_one_kind" 2 qo:=
 xt (N:=["one","other"]) E.Qe ⋯ λX O b U a Y I d=>by subst O b U a Y;exact zu (xi (Zm (kx (zZ (Vw E) I (za (zw I) (za (zw I) zo))))) (zu Yj) jM)
theorem wC(E:E0 K mg):f7 P w K mg base 1 "numbers_in" 1 kU:=
 xt (N:=["sizes"]) E.Qf ⋯ λX O d U b Y I e=>by subst O d U b Y;exact zu (zT (Xe I ⋯ E.Z5 (PO.q (qG I (jh (zX I)) (λ_ _ _ a=>j6 (zw a) (zw a))))))
theorem X6(E:E0 K mg):f7 P w K mg base 1 "room_sizes" 2 vq:=
 xt (N:=["one","other"]) E.Qg ⋯ λX O b U a Y I d=>by subst O b U a Y;exact zu (qP (lV I ⋯ E.Z8 ⋯ E.Z6 (zC (zX I) zk) (zC (zX I) zk)))
theorem fe(E:E0 K mg):f7 P w K mg base 1 "end_of" 2 vH:=
 xt (N:=["k","way"]) E.Qh ⋯ λX O b U a Y I d=>by subst O b U a Y;exact zu (zT (xh (xZ I (zw I) kL) (ji (zw I) zk) (zw I)))
theorem JF(E:E0 K mg):f7 P w K mg base 1 "beginning_of" 2 qm:=
 xt (N:=["k","way"]) E.Qi ⋯ λX O b U a Y I d=>by subst O b U a Y;exact zu (zT (xh (xZ I (zw I) kL) (zw I) (ji (zw I) zk)))
theorem QM(E:E0 K mg):f7 P w K mg base 2 "arrow_sizes" 2 yI:=
 xt (N:=["one","other","ways"]) E.Qj ⋯ λX O d U b Y I e=>by subst O d U b Y;exact by refine zf (jw I (zZ (vx E) I (za (zw I) zo))) ?_;exact(zu (qP (qG I (h7.c (sO I ⋯ E.Z9 (zw I))) (λ_ _ _ a=>j3 (kf (za (zC (PV.q (zC (zX a) zk)) (zZ (fe E) a (za (zw a) (za (zw a) zo)))) (za (zC (PV.q (zC (zX a) zk)) (zZ (JF E) a (za (zw a) (za (zw a) zo)))) zo)))))))
theorem ZF(E:E0 K mg):f7 P w K mg base 4 "plain_sum" 2 xE:=
 xt (N:=["upper","under"]) E.Qk ⋯ λX O b U a Y I d=>by subst O b U a Y;exact by refine zf (WG (zZ (ve E) I (za (zw I) (za (zw I) zo)))) ?_;exact(zu (zT (xN (zZ (wC E) I (za (PO.v (ke (X6 E) I (za (zw I) (za (zw I) zo)))) zo)) (zZ (wC E) I (za (PO.v (ke (QM E) I (za (zw I) (za (zw I) zo)))) zo)))))
theorem Zr(E:E0 K mg):f7 P w K mg base 1 "behind_noughts" 2 jW:=
 xt (N:=["many","base"]) E.Ql ⋯ λX O d U b Y I e=>by subst O d U b Y;exact zu (qP (Vr I (jh (zX I)) (λ_ _ _ a=>Zm (kx (oB a ⋯ E.Za (PV.q (WC (zw a) X4 (X3 (zw a))))))) (λ_ _ _ a=>WC (zw a) (X3 (zw a)) X4)))
theorem ZV(E:E0 K mg):f7 P w K mg base 1 "rests" 2 xW:=
 xt (N:=["p","numbers"]) E.Qm ⋯ λX O d U b Y I e=>by subst O d U b Y;exact zu (zT (qC I ⋯ E.Z7 (PO.q (qG I (jh (zX I)) (λ_ _ _ a=>jG (zw a) (zw a))))))
theorem bh(E:E0 K mg):f7 P w K mg base 1 "inverse" 2 Zg:=
 xt (N:=["p","x","y"]) E.Qn ⋯ λX O b U a Y I d=>by subst O b U a Y;exact by refine zf (qk d I (ZU I ⋯ E.Z2 zk (zw I)) (zu (xi (xZ I (jG (j6 (zw I) (zw I)) (zw I)) zk) (zu (yv 2 (I.var ⋯))) jM))) ?_;exact(zu Yj)
theorem Xj(E:E0 K mg):f7 P w K mg base 2 "cleared" 4 qN:=
 xt (N:=["p","load","pivot","place","much"]) E.Qo ⋯ λX O d U b Y I e=>by subst O d U b Y;exact by refine zf (jw I (zC (zX I) (zw I))) ?_;refine zf (xi (xZ I (zw I) zk) (zu (yv 1 (I.var ⋯))) jM) ?_;exact(zu (zT (zZ (ZV E) I (za (zw I) (za (PO.v (qG I (h7.c (vO I ⋯ E.Z6 (zw I) (zw I))) (λ_ _ _ a=>xN (zw a) (j6 (zw a) (zw a))))) zo)))))
theorem vz(E:E0 K mg):f7 P w K mg base 3 "base_of" 3 qO:=
 xt (N:=["p","long","loads","left","base","place","leading","times","pivot"]) E.Qp ⋯ λX O d U b Y I e=>by subst O d U b Y;exact by refine zf (jR 3 (vb I (jh (zX I)) (λ_ _ _ a=>zZ (ZV E) a (za (zw a) (za (zw a) zo))))) ?_;refine zf (x6 I (qJ (kf zo))) ?_;refine zf (qk e I (z5 I ⋯ E.Z2 (zw I)) (by refine zf (jR 6 (lQ I (jh (zX I)) (λ_ _ _ a=>ZD a (zC (zX a) (zw a)) zk) (λ_ _ _ a=>zw a))) ?_;refine zf (xi (Zm (lH (zX I))) (zu Yk) jM) ?_;refine zf (jw I (zZ (bh E) I (za (zw I) (za (zC (PV.q (zC (zX I) zk)) (zw I)) zo)))) ?_;refine zf (jw I (zZ (ZV E) I (za (zw I) (za (PO.v (qG I (jh (PV.q (zC (zX I) zk))) (λ_ _ _ a=>j6 (zw a) (zw a)))) zo)))) ?_;refine zf (jR 3 (vb I (jh (zX I)) (λ_ _ _ a=>zZ (Xj E) a (za (zw a) (za (zw a) (za (zw a) (za (zw a) zo))))))) ?_;exact(zu (x6 I (Xh (PO.q (qG I (jh (zX I)) (λ_ _ _ a=>zZ (Xj E) a (za (zw a) (za (zw a) (za (zw a) (za (zw a) zo))))))) (PO.q (qJ (kf (za (zw I) zo))))))))) ?_;exact(zu (yv 4 (I.var ⋯)))
theorem k4(E:E0 K mg):f7 P w K mg base 1 "turned_over" 1 qE:=
 xt (N:=["table","columns"]) E.Qq ⋯ λX O e U d Y I f=>by subst O e U d Y;exact by refine zf (jR 1 (vb I (h7.c (z5 I ⋯ E.Z2 (zC (zX I) zk))) (λ_ _ _ a=>qC a ⋯ E.Z7 (PO.q (qG a (jh (PV.q (zC (zX a) zk))) (λ_ _ _ b=>zC (zX b) (zw b))))))) ?_;exact(zu (zT (j3 (kf (za (zC (zX I) zk) (za (zC (zX I) zk) (za (qC I ⋯ E.Z7 (zX I)) zo)))))))
theorem kg(E:E0 K mg):f7 P w K mg base 1 "same_table" 1 qd:=
 xt (N:=["many","rows"]) E.Qr ⋯ λX O e U d Y I f=>by subst O e U d Y;exact by refine zf (jR 1 (vb I (h7.c (z5 I ⋯ E.Z2 (zw I))) (λ_ _ _ a=>qC a ⋯ E.Z7 (PO.q (qG a (h7.c (z5 a ⋯ E.Z2 (zw a))) (λ_ _ _ b=>xh (xZ b (zw b) (zw b)) zk zk)))))) ?_;exact(zu (zT (j3 (kf (za (zw I) (za (zw I) (za (qC I ⋯ E.Z7 (zX I)) zo)))))))
theorem JB(E:E0 K mg):f7 P w K mg base 4 "led_into" 3 xG:=
 xt (N:=["p","table","base","pairs","free"]) E.Qs ⋯ λX O d U b Y I e=>by subst O d U b Y;exact by refine zf (jR 3 (vb I (h7.c (vO I ⋯ E.Z6 (zC (PV.q (zZ (k4 E) I (za (zw I) zo))) zk) (zC (PV.q (zZ (kg E) I (za (zC (zX I) zk) zo))) zk))) (λ_ _ _ a=>ji (zw a) (zw a)))) ?_;refine zf (jR 4 (vb I (jh (zX I)) (λ_ _ _ a=>ji (zw a) (j6 (j3 (kf (za zk zo))) (zC (zX a) zk))))) ?_;exact(zu (qP (ke (Zr E) I (za (zC (zX I) zk) (za (PO.v (ke (vz E) I (za (zw I) (za (ji (zC (zX I) zk) (zC (zX I) zk)) (za (PO.v (Xh (zX I) (zX I))) zo))))) zo)))))
theorem Ys(E:E0 K mg):f7 P w K mg base 5 "kernel" 2 vG:=
 xt (N:=["p","table"]) E.Qt ⋯ λX O b U a Y I d=>by subst O b U a Y;exact zu (qP (ke (JB E) I (za (zw I) (za (zw I) (za (PO.v (qJ (kf zo))) zo)))))
theorem WL(E:E0 K mg):f7 P w K mg base 4 "image" 2 Zy:=
 xt (N:=["p","table"]) E.Qu ⋯ λX O b U a Y I d=>by subst O b U a Y;exact zu (qP (ke (vz E) I (za (zw I) (za (zC (zX I) zk) (za (zC (PV.q (zZ (k4 E) I (za (zw I) zo))) zk) zo)))))
theorem Zq(E:E0 K mg):f7 P w K mg base 2 "columns" 2 kI:=
 xt (N:=["high","loads"]) E.Qv ⋯ λX O b U a Y I d=>by subst O b U a Y;exact zu (zT (zZ (k4 E) I (za (j3 (kf (za (xw I ⋯ E.Z0 (zX I)) (za (zw I) (za (qC I ⋯ E.Z7 (zX I)) zo))))) zo)))
theorem yw(E:E0 K mg):f7 P w K mg base 1 "has_room" 2 jV:=
 xt (N:=["bar","room"]) E.Qw ⋯ λX O b U a Y I d=>by subst O b U a Y;exact zu (zT (lB sY BJ cZ oi (zC (zX I) zk) (zw I) (ji (zC (zX I) zk) (xw I ⋯ E.Z0 (PV.q (zC (zX I) zk))))))
theorem vZ(E:E0 K mg):f7 P w K mg base 2 "loads_in" 2 qX:=
 xt (N:=["bars","room"]) E.Qx ⋯ λX O d U b Y I e=>by subst O d U b Y;exact zu (qP (Vr I (jh (zX I)) (λ_ _ _ a=>kx (zZ (yw E) a (za (zw a) (za (zw a) zo)))) (λ_ _ _ a=>zC (PV.q (zC (zX a) zk)) (xN (zw a) (zC (zX a) zk)))))
theorem vy(E:E0 K mg):f7 P w K mg base 1 "lead_of" 1 qK:=
 xt (N:=["load"]) E.Qy ⋯ λX O d U b Y I e=>by subst O d U b Y;exact zu (zT (zC (PO.q (Vr I (h7.c (eJ I ⋯ E.Z9 (zw I))) (λ_ _ _ a=>ZD a (zw a) zk) (λ_ _ _ a=>zw a))) zk))
theorem oJ(E:E0 K mg):f7 P w K mg base 2 "led" 3 bZ:=
 xt (N:=["p","table","load"]) E.Qz ⋯ λX O e U d Y I f=>by subst O e U d Y;exact zu (zT (zZ (ZV E) I (za (zw I) (za (PO.v (qG I (jh (PV.q (zC (zX I) zk))) (λ_ _ _ a=>Xe a ⋯ E.Z5 (PO.q (qG a (h7.c (vO a ⋯ E.Z6 (zw a) (zw a))) (λ_ _ _ b=>j6 (zw b) (zw b))))))) zo))))
theorem X7(E:E0 K mg):f7 P w K mg base 3 "mixed_load" 4 kW:=
 xt (N:=["row","bars","times","room","there"]) E.a_ ⋯ λX O d U b Y I e=>by subst O d U b Y;exact by refine zf (jR 4 (lQ I (h7.c (vO I ⋯ E.Z6 (zw I) (zw I))) (λ_ _ _ a=>kx (zZ (yw E) a (za (zw a) (za (zw a) zo)))) (λ_ _ _ a=>zw a))) ?_;exact(zu (zT (zZ (oJ E) I (za (zC (zX I) zk) (za (zZ (Zq E) I (za (zC (PV.q (zC (zX I) zk)) (zw I)) (za (PO.v (ke (vZ E) I (za (zw I) (za (zw I) zo)))) zo))) (za (zw I) zo))))))
theorem mF(E:E0 K mg):f7 P w K mg base 4 "mixed" 3 KB:=
 xt (N:=["row","bars","times","first","loads"]) E.b_ ⋯ λX O d U b Y I e=>by subst O d U b Y;exact by refine zf (jw I (zC (zX I) (zZ (vy E) I (za (zw I) zo)))) ?_;refine zf (jR 4 (vb I (h7.c (z5 I ⋯ E.Z2 (xw I ⋯ E.Z0 (PV.q (zC (zX I) zk))))) (λ_ _ _ a=>zZ (X7 E) a (za (zw a) (za (zw a) (za (zw a) (za (ji (zC (zX a) zk) (zw a)) zo))))))) ?_;exact(zu (zT (j3 (kf (za (zC (zX I) zk) (za (qC I ⋯ E.Z7 (zX I)) zo))))))
theorem ba(E:E0 K mg):f7 P w K mg base 6 "settled" 3 w9:=
 xt (N:=["row","k","bars","way","table","special","base","leads"]) E.c_ ⋯ λX O d U b Y I e=>by subst O d U b Y;exact by refine zf (jw I (zC (PV.q (zC (PV.q (zC (zX I) zk)) (zw I))) zk)) ?_;refine zf (jw I (zC (PV.q (zC (PV.q (zC (zX I) zk)) (zw I))) zk)) ?_;refine zf (jw I (xh (xZ I (zw I) kL) (PO.v (ke (Ys E) I (za (zC (zX I) zk) (za (zw I) zo)))) (PO.v (ke (WL E) I (za (zC (zX I) zk) (za (zw I) zo)))))) ?_;refine zf (jw I (PO.v (ke (JB E) I (za (zC (zX I) zk) (za (zZ (Zq E) I (za (zC (PV.q (zC (zX I) zk)) (zw I)) (za (PO.v (ke (vZ E) I (za (zw I) (za (zw I) zo)))) zo))) (za (zw I) zo)))))) ?_;refine zf (jw I (lA I ⋯ E.Zb (qG I (jh (zX I)) (λ_ _ _ a=>j3 (kf (za (zZ (vy E) a (za (zw a) zo)) (za (zw a) zo))))))) ?_;exact(zu (qP (qG I (h7.c (sP I ⋯ E.Z9 (zw I))) (λ_ _ _ a=>xh (sy a (zw a) (zw a)) (zZ (mF E) a (za (zw a) (za (zw a) (za (Bc a (zw a) (zw a)) zo)))) (zw a)))))
theorem eZ(E:E0 K mg):f7 P w K mg base 4 "solved" 3 vE:=
 xt (N:=["p","table","load","wide","answer","line","place"]) E.d_ ⋯ λX O d U b Y I e=>by subst O d U b Y;exact by refine zf (jw I (zC (zX I) zk)) ?_;refine zf (x6 I (oF (qJ (kf (za zk zo))) (zw I))) ?_;refine zf (qk e I (eI (PO.v (ke (vz E) I (za (zw I) (za (ji (zw I) zk) (za (PO.v (qG I (h7.c (vO I ⋯ E.Z6 (zC (zX I) zk) (zw I))) (λ_ _ _ a=>ji (zw a) (j3 (kf (za (zw a) zo)))))) zo)))))) (by refine zf (jw I (zZ (vy E) I (za (zw I) zo))) ?_;refine zf (xi (xZ I (zw I) (zw I)) (zu (zT Yg)) jM) ?_;exact(zu (y9 4 I ⋯ (zw I) (zC (zX I) (zw I)))))) ?_;exact(zu (zT (qC I ⋯ E.Z7 (zX I))))
theorem Yq(E:E0 K mg):f7 P w K mg base 5 "next_load" 3 xF:=
 xt (N:=["p","arrow","load","there"]) E.e_ ⋯ λX O b U a Y I d=>by subst O b U a Y;exact by refine zf (xi (xZ I (zC (zX I) zk) kL) (zu (zT (zZ (eZ E) I (za (zw I) (za (zC (zX I) zk) (za (zw I) zo)))))) jM) ?_;refine zf (jw I (zZ (oJ E) I (za (zw I) (za (zC (zX I) zk) (za (zw I) zo))))) ?_;exact(zu (zT (xh (kx (oB I ⋯ E.Za (zX I))) (zw I) Yg)))
theorem Vv(E:E0 K mg):f7 P w K mg base 6 "taken_on" 3 yj:=
 xt (N:=["p","arrow","bar","load"]) E.f_ ⋯ λX O b U a Y I d=>by subst O b U a Y;exact by refine zf (jw I (zZ (Yq E) I (za (zw I) (za (zw I) (za (zC (PV.q (zC (zX I) zk)) (WD zk)) zo))))) ?_;exact(zu (zT (xh (sv (zw I) Yg) (zw I) (j3 (kf (za (zC (zX I) zk) (za (ji (zC (zX I) zk) (j3 (kf (za (zw I) zo)))) zo)))))))
theorem Yr(E:E0 K mg):f7 P w K mg base 6 "new_loads" 2 yG:=
 xt (N:=["p","arrow","leads"]) E.g_ ⋯ λX O d U b Y I e=>by subst O d U b Y;exact by refine zf (xi (xZ I (zC (zX I) zk) kL) (zu (qP (ke (Ys E) I (za (zw I) (za (zC (zX I) zk) zo))))) jM) ?_;refine zf (jR 2 (vb I (jh (PO.q (ke (WL E) I (za (zw I) (za (zC (zX I) zk) zo))))) (λ_ _ _ a=>zZ (vy E) a (za (zw a) zo)))) ?_;exact(zu (qP (Vr I (h7.c (eJ I ⋯ E.Z9 (zC (PV.q (zZ (kg E) I (za (zC (PV.q (zC (zX I) zk)) zk) zo))) zk))) (λ_ _ _ a=>aQ (zw a) (zX a)) (λ_ _ _ a=>zw a))))
theorem mG(E:E0 K mg):f7 P w K mg base 7 "grown" 3 QC:=
 xt (N:=["row","k","bars","p","arrow","ended","here","old","new"]) E.h_ ⋯ λX O d U b Y I e=>by subst O d U b Y;exact by refine zf (jw I (zC (zX I) zk)) ?_;refine zf (jw I (zC (PV.q (zC (zX I) zk)) (zw I))) ?_;refine zf (jR 5 (lQ I (jh (zX I)) (λ_ _ _ a=>Zm (kx (zZ (yw E) a (za (zw a) (za (zw a) zo))))) (λ_ _ _ a=>zw a))) ?_;refine zf (jw I (PO.v (ke (ba E) I (za (zw I) (za (zw I) (za (PO.v (Vr I (jh (zX I)) (λ_ _ _ a=>kx (zZ (yw E) a (za (zw a) (za (zw a) zo)))) (λ_ _ _ a=>zw a))) zo)))))) ?_;refine zf (jR 7 (vb I (jh (zX I)) (λ_ _ _ a=>zZ (Vv E) a (za (zw a) (za (zw a) (za (zw a) zo)))))) ?_;refine zf (jR 8 (vb I (jh (PO.q (ke (Yr E) I (za (zw I) (za (zw I) zo))))) (λ_ _ _ a=>j3 (kf (za (ji (zw a) zk) (za (j3 (kf (za (zw a) zo))) zo)))))) ?_;exact(zu (zT (PO.v (Xh (zX I) (PV.q (xh (xZ I (zC (zX I) zk) kL) (PO.v (Xh (zX I) (zX I))) (PO.v (Xh (zX I) (zX I)))))))))
theorem wB(E:E0 K mg):f7 P w K mg base 1 "stretch_of" 1 jY:=
 xt (N:=["bar"]) E.i' ⋯ λX O b U a Y I d=>by subst O b U a Y;exact zu (zT (j3 (kf (za (zC (zX I) zk) (za (xN (ji (zC (zX I) zk) (xw I ⋯ E.Z0 (PV.q (zC (zX I) zk)))) zk) zo)))))
theorem Yu(E:E0 K mg):f7 P w K mg base 9 "all_grown" 1 yJ:=
 xt (N:=["row","bars","k"]) E.i_ ⋯ λX O d U b Y I e=>by subst O d U b Y;exact by refine zf (jR 1 (vb I (jh (PV.q (zC (PV.q (zZ (kg E) I (za (zC (PV.q (zC (zX I) zk)) zk) zo))) zk))) (λ_ _ _ a=>j3 (kf (za zk (za (j3 (kf (za (zw a) zo))) zo)))))) ?_;refine zf (qk e I (z5 I ⋯ E.Z2 (xw I ⋯ E.Z0 (PV.q (zC (zX I) zk)))) (zu (jw I (zZ (mG E) I (za (zw I) (za (zw I) (za (zw I) zo))))))) ?_;exact(zu (qP (lT (wB E) I ⋯ ⋯ E.Z4 ⋯ (zX I))))
theorem bj(E:E0 K mg):f7 P w K mg base 4 "back_of" 2 kJ:=
 xt (N:=["p","table","many","same","base"]) E.j' ⋯ λX O d U b Y I e=>by subst O d U b Y;exact by refine zf (jw I (zC (zX I) zk)) ?_;refine zf (xi (ZD I (zC (zX I) zk) (zw I)) (zu (zT Yg)) jM) ?_;refine zf (jw I (zC (PV.q (zZ (kg E) I (za (zw I) zo))) zk)) ?_;refine zf (jw I (PO.v (ke (vz E) I (za (zw I) (za (ji (zw I) (zw I)) (za (PO.v (qG I (h7.c (vO I ⋯ E.Z6 (zC (zX I) zk) (zw I))) (λ_ _ _ a=>ji (zw a) (zw a)))) zo)))))) ?_;refine zf (xi (ZD I (PO.v (qG I (jh (zX I)) (λ_ _ _ a=>WC (zw a) X4 (X3 (zw a))))) (PO.v (eE I ⋯ E.Z8 (zX I)))) (zu (zT Yg)) jM) ?_;exact(zu (zT (j3 (kf (za (zw I) (za (zw I) (za (qC I ⋯ E.Z7 (PO.q (qG I (jh (zX I)) (λ_ _ _ a=>WC (zw a) (X3 (zw a)) X4)))) zo)))))))
theorem Yt(E:E0 K mg):f7 P w K mg base 10 "barred" 1 xq:=
 xt (N:=["row","bars","backs","turns"]) E.j_ ⋯ λX O d U b Y I e=>by subst O d U b Y;exact by refine zf (jw I (PO.v (ke (Yu E) I (za (zw I) zo)))) ?_;refine zf (jR 2 (vb I (h7.c (eJ I ⋯ E.Z9 (zC (zX I) zk))) (λ_ _ _ a=>zZ (Zq E) a (za (zw a) (za (PO.v (ke (vZ E) a (za (zw a) (za (zw a) zo)))) zo))))) ?_;refine zf (jR 3 (vb I (jh (zX I)) (λ_ _ _ a=>zZ (bj E) a (za (zC (zX a) zk) (za (zw a) zo))))) ?_;exact(zu (zT (j3 (kf (za (PO.v (qG I (jh (zX I)) (λ_ _ _ a=>zZ (wB E) a (za (zw a) zo)))) (za (zw I) (za (zw I) zo)))))))
theorem X8(E:E0 K mg):f7 P w K mg base 1 "left_holds" 3 xP:=
 xt (N:=["ways","one","other"]) E.k_ ⋯ λX O b U a Y I d=>by subst O b U a Y;exact by refine zf (xi (xZ I (zC (zX I) zk) (zC (zX I) zk)) (zu (zT lD)) jM) ?_;exact(zu (zT (Yi I (wy (zw I) (xN (ou I ⋯ E.Zc (zC (zX I) zk) (zC (zX I) zk)) zk)) (xh (Be (zC (zX I) zk) (zC (zX I) zk)) kL kL))))
theorem QK(E:E0 K mg):f7 P w K mg base 1 "right_holds" 3 xo:=
 xt (N:=["ways","one","other"]) E.l_ ⋯ λX O b U a Y I d=>by subst O b U a Y;exact by refine zf (xi (xZ I (zC (zX I) zk) (zC (zX I) zk)) (zu (zT lD)) jM) ?_;exact(zu (zT (Yi I (wy (zw I) (dQ I ⋯ E.Z1 (zC (zX I) zk) (zC (zX I) zk))) (xh (WE (zC (zX I) zk) (zC (zX I) zk)) kL kL))))
theorem Vy(E:E0 K mg):f7 P w K mg base 2 "bar_ways" 3 kn:=
 xt (N:=["ways","one","other"]) E.m_ ⋯ λX O b U a Y I d=>by subst O b U a Y;exact by refine zf (xi (WE (ou I ⋯ E.Zc (zC (zX I) zk) (zC (zX I) zk)) (dQ I ⋯ E.Z1 (zC (zX I) zk) (zC (zX I) zk))) (zu (zT zk)) jM) ?_;exact(zu (zT (xh (lG (dN (kx (zZ (X8 E) I (za (zw I) (za (zw I) (za (zw I) zo))))) (WB (kx (zZ (QK E) I (za (zw I) (za (zw I) (za (zw I) zo)))))))) zk zk)))
theorem Yp(E:E0 K mg):f7 P w K mg base 3 "ways_into" 3 kG:=
 xt (N:=["ways","bars","bar"]) E.n_ ⋯ λX O d U b Y I e=>by subst O d U b Y;exact zu (zT (Xe I ⋯ E.Z5 (PO.q (qG I (jh (zX I)) (λ_ _ _ a=>zZ (Vy E) a (za (zw a) (za (zw a) (za (zw a) zo))))))))
theorem wG(E:E0 K mg):f7 P w K mg base 11 "count_ways" 2 qB:=
 xt (N:=["one","other","bars"]) E.o_ ⋯ λX O d U b Y I e=>by subst O d U b Y;exact by refine zf (WG (zZ (ve E) I (za (zw I) (za (zw I) zo)))) ?_;refine zf (jw I (zC (PV.q (zZ (Yt E) I (za (zw I) zo))) zk)) ?_;exact(zu (zT (Xe I ⋯ E.Z5 (PO.q (qG I (jh (PV.q (zC (PV.q (zZ (Yt E) I (za (zw I) zo))) zk))) (λ_ _ _ a=>zZ (Yp E) a (za (zZ (vx E) a (za (zw a) zo)) (za (zw a) (za (zw a) zo)))))))))
theorem X9(E:E0 K mg):f7 P w K mg base 12 "count_upon" 2 kY:=
 xt (N:=["upper","under"]) E.p_ ⋯ λX O b U a Y I d=>by subst O b U a Y;exact zu (zT (xN (zZ (wG E) I (za (zw I) (za (zw I) zo))) (zZ (ZF E) I (za (zw I) (za (zw I) zo)))))
theorem ZG(E:E0 K mg):f7 P w K mg base 1 "_law_whole" 1 kH:=
 xt (N:=["_law_found"]) E.q_ ⋯ λX O b U a Y I d=>by subst O b U a Y;exact zu (zT (dU (dS I ⋯ E.Ze ⋯ E.Z3 (zw I)) (dP (Ba (aP I ⋯ E.Ze ⋯ E.Zd (zw I))))))
theorem JE(E:E0 K mg):f7 P w K mg base 2 "_law_plain" 3 xK:=
 xt (N:=["_law_ways_here","_law_upper","_law_under","_law_total","_law_k","_law_begin","_law_end"]) E.r_ ⋯ λX O d U b Y I e=>by subst O d U b Y;exact by refine zf (jw I (Xe I ⋯ E.Z5 (PO.q (qG I (h7.c (vO I ⋯ E.Z6 (zC (zX I) zk) (zC (zX I) zk))) (λ_ _ _ a=>j6 (zw a) (zw a)))))) ?_;refine zf (qk e I (z5 I ⋯ E.Z2 (y8 I ⋯ E.Z0 (zw I))) (by refine zf (kc (iE I) (zZ (xB E) I (za (zw I) (za (zw I) zo)))) ?_;exact(zu (jw I (xN (zw I) (j6 (zC (PV.q (zC (zX I) zk)) (zw I)) (zC (PV.q (zC (zX I) zk)) (zw I)))))))) ?_;exact(zu (yv 3 (I.var ⋯)))
theorem Vx(E:E0 K mg):f7 P w K mg base 1 "_law_rank" 2 vF:=
 xt (N:=["_law_p","_law_rows","_law_found","_law_place","_law_some","_law_row_here","_law_over","_law_k","_law_times_here"]) E.s_ ⋯ λX O e U d Y I b=>by subst O e U d Y;exact by refine zf (XW 1 (vb I (jh (zX I)) (λ_ _ _ a=>PO.v (eE a ⋯ E.Z8 (zX a))))) ?_;refine zf (jw I zk) ?_;refine zf (qk b I (z5 I ⋯ E.Z2 (sr I ⋯ E.Zc (PO.q (Xh (PO.q (qJ (kf (za zk zo)))) (PO.q (qG I (jh (zX I)) (λ_ _ _ a=>xw a ⋯ E.Z0 (zX a)))))))) (by refine zf (eB 4 1 (lQ I (h7.c (ZU I ⋯ E.Z2 (zw I) (xw I ⋯ E.Z0 (zX I)))) (λ_ _ _ a=>ZD a (jG (zC (PV.q (zC (zX a) (zw a))) (zw a)) (zw a)) zk) (λ_ _ _ a=>zw a))) ?_;exact(zu (xi (ZD I (zw I) (PO.v (qJ (kf zo)))) (by refine zf (sD 5 1 I ⋯ ⋯ (zC (zX I) zk)) ?_;refine zf (jw I (zC (PO.q (Vr I (h7.c (ZU I ⋯ E.Z2 zk (zw I))) (λ_ _ _ a=>xZ a (jG (j6 (zw a) (zC (zX a) (zw a))) (zw a)) zk) (λ_ _ _ a=>zw a))) zk)) ?_;refine zf (jR 5 (vb I (jh (zX I)) (λ_ _ _ a=>jG (j6 (zw a) (zw a)) (zw a)))) ?_;refine zf (sE 1 I ⋯ (zw I) (zw I)) ?_;refine zf (qk b I (ZU I ⋯ E.Z2 (ji (zw I) zk) (xw I ⋯ E.Z0 (zX I))) (by refine zf (jw I (zC (PV.q (zC (zX I) (zw I))) (zw I))) ?_;exact(zu (y9 1 I ⋯ (zw I) (PO.v (qG I (h7.c (vO I ⋯ E.Z6 (zC (zX I) (zw I)) (zw I))) (λ_ _ _ a=>jG (xN (zw a) (j6 (zw a) (zw a))) (zw a)))))))) ?_;exact(zu (jw I (ji (zw I) zk)))) jM)))) ?_;exact(zu (yv 2 (I.var ⋯)))
theorem vd(E:E0 K mg):f7 P w K mg base 13 "_law_right" 4 qM:=
 xt (N:=["_law_p","_law_ways_here","_law_upper","_law_under","_law_one","_law_other","_law_many","_law_rows","_law_plain_here","_law_layings"]) E.t_ ⋯ λX O b U a Y I d=>by subst O b U a Y;exact by refine zf (jw I (zZ (yL E) I (za (zw I) (za (zw I) (za (zw I) zo))))) ?_;refine zf (jw I (zZ (yL E) I (za (zw I) (za (zw I) (za (zw I) zo))))) ?_;refine zf (kc (iE I) (zZ (Zo E) I (za (zw I) (za (zw I) (za (zw I) (za (zw I) zo)))))) ?_;refine zf (jw I (zZ (ZF E) I (za (zw I) (za (zw I) zo)))) ?_;refine zf (jw I (zZ (X9 E) I (za (zw I) (za (zw I) zo)))) ?_;refine zf (xi (lG (ot (Zm (kx (zZ (ZG E) I (za (zw I) zo)))) (dM (ZD I (zw I) (zZ (JE E) I (za (zw I) (za (zw I) (za (zw I) zo)))))))) (zu (zT lD)) jM) ?_;refine zf (xi (lG (ot (Zm (kx (zZ (ZG E) I (za (zw I) zo)))) (dM (ZD I (zw I) (xN (xw I ⋯ E.Z0 (zX I)) (zZ (Vx E) I (za (zw I) (za (zw I) zo)))))))) (zu (zT lD)) jM) ?_;exact(zu (zT (Yi I (zZ (wG E) I (za (zw I) (za (zw I) zo))) (ji (zw I) (zw I)))))
theorem HU(D:L2.DI K "law" "law" (top 69) f fd)(E:E0 K mg):o4 P w K mg base o9 14 f fd ["_law_script"] (qs K 1 QB):=
 GE (N:=["_law_script","_law_cell_here","_law_p","_law_rooms","_law_ways_here","_law_upper","_law_under","_law_ups","_law_downs"]) D ⋯ λX O b U a Y I d=>by subst O b U a Y;exact by refine zf (jw I (zZ (kB E) I (za (zw I) (za zk zo)))) ?_;refine zf (jw I (zC (PO.q (qJ (kf (za zk (za zk (za zk (za zk zo))))))) (jG (zw I) zk))) ?_;refine zf (jw I (ji zk (jG (xY (zw I) zk) zk))) ?_;refine zf (jw I (zZ (JC E) I (za (xY (zw I) zk) (za (zw I) zo)))) ?_;refine zf (jw I (zZ (wF E) I (za (zw I) (za zk (za (zw I) (za (zw I) (za zk (za (jG (xY (zw I) zk) zk) zo)))))))) ?_;refine zf (jw I (zZ (wF E) I (za (zw I) (za zk (za (zw I) (za (zw I) (za zk (za (jG (xY (zw I) zk) zk) zo)))))))) ?_;refine zf (xi (xZ I (jG (xY (zw I) zk) zk) zk) (by refine zf (jw I (PO.v (ke (yK E) I (za (zw I) (za zk (za (jG (xY (zw I) zk) zk) (za (zw I) zo))))))) ?_;refine zf (jw I (PO.v (ke (yK E) I (za (zw I) (za zk (za (jG (xY (zw I) zk) zk) (za (zw I) zo))))))) ?_;refine zf (jw I (zZ (wD E) I (za (zw I) (za zk (za (zw I) (za (zw I) (za (zw I) zo))))))) ?_;exact(zu (jw I (zZ (wD E) I (za (zw I) (za zk (za (zw I) (za (zw I) (za (zw I) zo))))))))) jM) ?_;exact(zu (zT (dU (zZ (vd E) I (za (zw I) (za (zw I) (za (zw I) (za (zw I) zo))))) (dP (zZ (vd E) I (za (zw I) (za (zw I) (za (zw I) (za (zw I) zo)))))))))
end
end DL
namespace PySem.W.Fast
def tw7715406788156017515:=0
def tw4061849335489615252:=0
def tw18351793078867584898:=0
def tw11054449496043106412:=0
def tw18163436814420159001:=0
def tw4223157168123921741:=0
def tw4318359247197194828:=0
def tw14030770598362957201:=0
def tw10544290724031207206:=0
def tw2545285665691164993:=0
def tw8819112268027648366:=0
def tw9580146923199582344:=0
def tw5219489419763843621:=0
def tw949642113650647993:=0
def tw8427375477850276599:=0
def tw1386719101573282164:=0
def tw7966428257333165651:=0
def tw7787749894529990346:=0
def tw14668962146584423911:=0
def tw13715776618113380837:=0
def tw16475864361367680204:=0
def tw6709304185425183521:=0
def tw7395461842411962809:=0
def tw12182894348584605627:=0
def tw694786279995222293:=0
def tw14436346411997401582:=0
def tw6567658846599672662:=0
def tw9283428745886834326:=0
def tw11514784927613176966:=0
def tw10567543984989522886:=0
def tw2552737646276662008:=0
def tw8169927475504027220:=0
def tw12455130275710262927:=0
def tw2312290240862575624:=0
def tw14498319747410819327:=0
def tw12654089492877172342:=0
def tw1612412615192728225:=0
def tw10521123159014853890:=0
def tw158424624282364621:=0
def tw10590305450541832884:=0
def tw9558474896032368825:=0
def tw9782244560760637172:=0
def tw7350205222986944376:=0
def tw13819314540530829247:=0
def tw8555819164853148314:=0
def tw4555738377426595172:=0
def tw10735535359358765749:=0
def tw5666408114950469371:=0
def tw1132179206077584417:=0
def tw5654108570937633065:=0
def tw14593461424622505241:=0
def tw2849455839561747523:=0
def tw7347677846193049724:=0
def tw16357530027961382556:=0
def tw4220766463315970198:=0
def tw2966004705352533542:=0
def tw1233791381580069295:=0
def tw12236410423302998796:=0
def tw2899124043714642199:=0
def tw15525516182489599013:=0
def tw5110382469783791314:=0
def tw8507233639334090133:=0
def tw6421107833621368451:=0
def tw1868881193622330895:=0
def tw111787244597608843:=0
def tw6146183626461734606:=0
def tw6814259308578082318:=0
def tw1436149918515875414:=0
def tw8299970297030694235:=0
def tw10384977991599680049:=0
def tw10733303926657539832:=0
def tw8172298622428829358:=0
def tw3780120291172041365:=0
def tw12300825282081993867:=0
def tw4552831260277344723:=0
def tw16654419612110396466:=0
def tw15891937775207814138:=0
def tw5710651678095684169:=0
def tw11443010953829634018:=0
def tw14873595947913194984:=0
def tw17787649239084789008:=0
def tw8408573901028253700:=0
def tw10039611883179960681:=0
def tw11279281004031055144:=0
def tw8702158090056159469:=0
def tw17145121138084857295:=0
def tw4950839971215356352:=0
def tw3080637108578277372:=0
def tw6912051646911683292:=0
def tw16242178511184465136:=0
def tw1036591655030292800:=0
def tw6259154440439229998:=0
def tw13450204170151717080:=0
def tw14063492052520976482:=0
def tw7771030504135309199:=0
def tw16533751376842310484:=0
def tw15466987231982532499:=0
def tw12011083009737689737:=0
def tw18153385351234620432:=0
def tw17687048797579356285:=0
def tw556097009635835992:=0
def tw7842072151713105615:=0
def tw1998561580036378671:=0
def tw11919590010669311195:=0
def tw8585111438681874910:=0
def tw240782064189987164:=0
def tw12971911524874457783:=0
def tw642088039160660718:=0
def tw12648894516107922336:=0
def tw7675427010325873737:=0
def tw7921446941546446330:=0
def tw4301510035539742199:=0
def tw1611761958408936462:=0
def tw3552379164597696503:=0
def tw11659542179230025232:=0
def tw4510124327708594490:=0
def tw17441943621963386254:=0
def tw9043139348697250467:=0
def tw8151688356710942078:=0
def tw4326210950409619947:=0
def tw13760193576430717949:=0
def tw11319256376368304960:=0
def tw3394400620831357418:=0
def tw17584365672391321158:=0
def tw16468998377861612548:=0
def tw2973939304142455494:=0
def tw16922908348701333416:=0
def tw15307466178583881745:=0
def tw1030687889003644648:=0
def tw3845409298503539508:=0
def tw10094203898699106246:=0
def tw15155570641165953145:=0
def tw17008102393924881208:=0
def tw17855908651497277818:=0
def tw7138400578126563754:=0
def tw17069402160214843387:=0
def tw12170605715171225624:=0
def tw11252319822393605131:=0
def tw7813394148485795839:=0
def tw5410949704563289993:=0
def tw15703458345614618844:=0
def tw9088468945609131669:=0
def tw7288052693113661329:=0
def tw2962674482998358361:=0
def tw2997291579510083688:=0
def tw523421605140150044:=0
def tw6193163157553741346:=0
def tw11128178625370114203:=0
def tw17787169932918628645:=0
def tw6498197516064317224:=0
def tw6901877017036225361:=0
def tw14985354921146050008:=0
def tw14838307271619431852:=0
def tw15525705523802938402:=0
def tw1592383868855859217:=0
def tw9421678898403402876:=0
def tw11145708633027760320:=0
def tw9524289389909568564:=0
def tw3664655964036122047:=0
def tw10554421597265577101:=0
def tw5312420091052830987:=0
def tw361416965411264783:=0
def tw3362184725242314231:=0
def tw14675429079979767810:=0
def tw11926350554766501493:=0
def tw7404855050330925132:=0
end PySem.W.Fast
open PySem PySem.W PyProof.Rows
set_option maxRecDepth 100000 in
set_option maxHeartbeats 0 in
theorem PySem.Challenge.cw_barsplit_k48_layings_counted_holds : PySem.Challenge.rw_barsplit_k48_layings_counted.Holds := by
 w_on;o_law;k_head;(case hw=>w_witness2)
 k_fill
 refine L2.Ec (l:=PZ) (n:=63) (k:=14) (x:="_law_script") (CX:=L2.o9) (sp:=λK=>DL.qs K 1 DL.QB) rfl ⋯ rfl ⟨rfl,by decide,by decide⟩ (λw h Y=>PySem.W.kIn_of Y) ?F ?S ?C
 case S=>exact λK H a ns I hO U=>DL.EH U (DL.Gq ns I)
 case C=>exact λ_ _ _ _ z=>z
 case F=>
  intro w mg fa h O G a0;have E:DL.E0 (L2.Ui O) mg:=by
   constructor
   all_goals first
    | assumption
    | exact PySem.W.mg_none_of O G (by k_is)
    | (dsimp only[L2.Ui];refine' DL.HZ O G ?a ?l ?c ?k ?b;(case a=>k_is);(case l=>k_is);(case c=>k_is);(case k=>k_is);(case b=>intro _ _ _ _ _ _ us I;first | (obtain⟨_,rfl⟩:=DL.LR I;rfl) | (obtain⟨_,_,rfl⟩:=DL.LQ I;rfl) | (obtain⟨_,_,_,rfl⟩:=DL.LP I;rfl) | (obtain⟨_,_,_,_,rfl⟩:=DL.LO I;rfl) | (obtain⟨_,_,_,_,_,rfl⟩:=DL.LN I;rfl) | (obtain⟨_,_,_,_,_,_,rfl⟩:=DL.LM I;rfl)))
  obtain⟨f,fd,Fu,hb,hm⟩:=E.u_.ex;have e0:=a0.symm.trans hm;cases e0;refine⟨fd,λs u=> .of_eq (hb [u] rfl),λbase kb nb=>?_⟩;exact DL.HU Fu E
