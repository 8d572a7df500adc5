import PyProof.Rows.All
import Wide.All
import OpenK.ZHead
import KE.KDictList
import KE.KEqDict
import KE.KFromBytes
import KE.KItem
import KE.KxBytes
import OpenK.KCall
import OpenK.KCls
import OpenK.KDescr
import OpenK.KFacts
import OpenK.KGet
import OpenK.KLine
import OpenK.KMake
import OpenK.KMore
import OpenK.KOps
import OpenK.KRaise
import OpenK.KWalk
import OpenK.Peek
import Wide.FinOn
import Lean
import PyProof.EqAt
import PyProof.EqKinds
import PyProof.TupleCall
import PySem.Str
import PyProof.ZipIter
import PyProof.IsiBase
import KE.KItemsList
import KE.KIsAll
import OpenK.KOwn
import KE.KSortAsk
import PyProof.StrBlockI
import PyProof.Rows.EqDataRows
import PyProof.Rows.InDataRows
import PyProof.SumWalkG
import PyProof.ConsumeWalk
import PyProof.WalksMore
import KE.KSortTup
import PyProof.ListMulRoad
import PyProof.EnumFor
import PyProof.Rows.EnumRows
import PyProof.StrBlockL
import PyProof.JoinWalk
import PyProof.NsDelKeeps
import KE.KTryDeep
import PyProof.InstStoreFacts
import PyProof.NsCount
import PyProof.ExcClass2
import PyProof.Rows.FStr
import PyProof.StationsW
import PyProof.Rows.Catch
import KE.KRevIter
import PyProof.CollectIter
import PyProof.TupleOfGen
import PyProof.Rows.Tup
import PyProof.Draws
import PyProof.EnumMake
import PyProof.StrWalks
import PyProof.SliceStr2
import PyProof.ListNew
import KE.KDictOf
import PyProof.ListRange
import PyProof.Rows.GenSrcRange
import PyProof.ListCopy
import PyProof.AttrMissHeap
import PyProof.DictWalks
import PyProof.FactsDict
import KE.KSortKey
import KE.IntText
import PyProof.TableCode
import PyProof.Rows.KernelRfl
import PyProof.StrLawsTight
import PyProof.StrLawsChain
import PyProof.Rows.StrItems
import KE.KIntText
import PyProof.SliceList
import PyProof.StrLawsIn
import PySem.Challenge.RW_barsplit_k14_no_text
open PySem.W renaming Frag → Es,kia_one → EZ,mg_none_of → Fe,mroIn → Fo,kitOne → Fw,findIn → Fx,hideAll → FG,hideAll_get → FW,keepIn → Gm,clsIn → Gn,kia_tup → Gq,typeIn → GB,tail_of_in → L9,nsIn → GN,fnOf → GV,cellsFrom_some → Hd,mg_of → Hj,kitx_dict → Hk,of_hideAll → HH,specialIn → HW,hideAll_none → Ik,Looks → Io,looks_mroIn → Iw,callWith_K → IF,tailIn → IK,nsOkIn → IL,codeIn → IM,kitx_list → O4,funFrames_hide → Lc,findCls → Li,kitx_tuple → Lu,methodObj → LH,kitx_none → LI,kitx_bool → LJ,plainGet → LW,kitx_str → LX,kitx_int → LY,Looks → DD,clsIn → E9,findIn → K3,looks_findIn → L3,looks_clsIn → Ro,looks_mroIn → Rp
open PySem.Challenge renaming rw_barsplit_k14_no_text → Et
open PySem renaming wpAny_bind → Eu,wpAny_pure → EB,wpAny_mono → EG,wpAny_holding → Fz,wpAny_field → FU,wpAny_Call_Name_kw → FX,strLen_append → Gb,wpAny_newObj_type → Gd,wpAny_loadPart_at → Ge,wpAny_truthy_bool → Gv,wpAny_standAt → Gw,wpAny_execs_cons → GD,wpAny_callSpecial?_slot → GI,sizeLine_eq → GY,wpAny_call_entry → Hi,wpAny_seqItems → Hl,call_meets → Hm,wpAny_loadPart' → HC,mem_of_lookup → HD,codeAny_call_builtin → HG,Builtin → HQ,codeAny_mono → HY,intText? → Ia,wpAny_setField_rec → Ie,wpAny_getItem_str_slice → Ig,pushCells_keeps → Ih,wpAny_of_eq → Ir,wpAny_call → Iu,wpAny_Assign_Name → Iv,wpAny_attempt → IQ,wpAny_passesOwn → IW,wpAny_execs_nil → IY,typeIs_str → Lm,wpAny_typeOf → LD,post_val_or_str → LF,wpAny_updateSeq_pair → LU,list_append → LV,wpAny_setField → Mb,wpAny_Expr_any → Mc,Within → Md,wpAny_isSubtype_exc → Mf,wpAny_onRaise → Mr,wpAny_rule → Mu,slot_list_getitem → Mv,plainObj_wpAny_Assign_Attribute → Mw,concat_meets → My,wpAny_Try_except → Mz,noFill_tuple_add → MA,Addr → eI,Value → gv,Shared → gE,model → hA,Expr → hH,eval → hX,Heap → h7,Pos → ik,starEach → i0,Scope → i2,World → i5,Stmt → i7,Program → i8,sizeLine → j3,Env → l0,Around → l7,Sem → m6,Obj → n0,backTo → ov,mainGlobals → o5,Tok → rk,compareOp → rp,swapsWith → tG,cellsFrom → t4,relabel → t6,FuncData → u4,IsPair → u5,foldedSetIterable → AR,spliced → A7,Model → B0,binaryOp → De,IsZip → Dl,Keyword → Dm,NameKind → Dn,behindInMarks → Ds,cLine → Dt,leaving → Dv,pushCells → Dw,setFlight → Dx,IsPart → DO,assign → DT,getItem → DW,sliceBounds → D7,assignEach → E4,bindC → E6,bindL → E7,bootBuiltins → E8,sysModules → F7,attributeBase → G9,callerA → I8,noteFrame → L5,atKey → MG,excClassObj → MO,letOwnedTupleGo → MU,pyIter → M3,valueAt → M7,BindsTo → Na,OwnTail → Nh,backToKw → Nq,boundAndCalled → Nr,comprehension → Nx,isInstance → NF,isTrue → NG,newList → NM,pyNext → NQ,raiseStmt → NR,rawInt → NS,strIterType → N0,typeLookup → N5,typeOf → N6,GenState → Oa,bindArgs → Oi,isType → OD,newFunctionEnv → OL,setField → OR,standAt → OS,IsRangeIter → O5,PassesOwn → Pa,ZipApart → Pe,checkBuiltinCall → Pm,excMatches → Pr,getAttrByItsOwn → Pt,lastMarks → Pw,methodCallPos → PD,notedBy → PH,recursionLimit → PL,slicePick → PR,subscripted → PU,builtinsNs → Rf,closureFor → Rg,entryPlaceOf → Rk,seq_tuple_add → Ru,swapsWithSole → Rx,tupleKind → RD,typeIs_int → RI,updateField → RJ,wpAny_Name → RL,codeAny_call_function → R0,codeAny_compStart_list → R1,codeAny_handlers_test → R3,exec_Assign_Name_used → R9,int_text_length_le → Sg,underTheClaimsCaller → SN,wpAny_Return_some → SO,wpAny_Tuple_spliced → SQ,wpAny_assign_Name → SR,wpAny_getItem_list_slice → SS,wpAny_handleBy_cons → SU,wpAny_newFunctionEnv_cells → SV,wpAny_pyIter_list → SY,wpAny_pyIter_range → S0,wpAny_pyIter_rangeiter → S1,wpAny_pyIter_tuple → S2,wpAny_pyNext_range_end → S3,wpAny_sequenceKey → S4
open PySem.Heap renaming get?_push_of_some → Ew,lt_size → EH,get?_push_size → ET,push → FJ,get?_update_self → FK,size_push → FT,FlyingW → Gg,get?_update_other → Gi,SameBut → Hq,HeldW → HK,get?_none_of_le → Ls,get?_update_ne → LC
open Bool renaming and_eq_true → Ex,false_ne_true → ES,or_eq_true → Fq,not_eq_true' → Gp,eq_iff_iff → Hr,true_and → Hw,and_true → IA,or_false → LQ,not_true → LR,false_eq_true → LS,not_eq_true → Mq,true → cI,false → dV
open List renaming getElem?_eq_getElem → Ey,range → Ez,replicate → EC,mem_cons → ED,length_map → EE,getElem?_set_ne → EI,mem_cons_of_mem → EK,getElem?_eq_some_iff → EL,size_toArray → EM,mem_cons_self → EN,mem_append_right → EW,all_eq_true → EY,map_cons → Fb,length_append → Fc,mem_range → Fd,mem_singleton → Fh,getElem?_map → Fi,eq_nil_of_length_eq_zero → Fj,mem_append → Fm,not_mem_nil → Fp,getElem?_set_self → Ft,lookup_cons → Fv,mem_map → FA,map_map → FC,map_congr_left → FH,length_cons → FL,getElem?_append_right → FP,range_eq_range' → FQ,take_of_length_le → G3,getElem?_append_left → Gr,drop_eq_getElem_cons → Gs,filterMap_cons_some → Gy,replicate_succ → GH,drop_eq_nil_of_le → GK,range'_succ → GP,getElem_mem → GQ,getElem?_eq_none → GR,filterMap_cons_none → GX,any_cons → Hc,length_singleton → Ho,flatten_cons → Hu,all_cons → Hv,getD_eq_getElem?_getD → Hy,mem_of_mem_drop → HA,mem_of_getElem? → HB,length_take → HE,all_map → HJ,mem_filterMap → HS,getElem?_replicate → HU,find?_cons → HV,range' → Ib,length_range → Ic,getD → Il,any_map → Im,mem_of_mem_take → Iz,nodup_cons → IH,length_nil → II,length → IJ,drop_zero → IV,getElem?_cons_zero → Lg,getElem?_cons_succ → Lh,drop_of_length_le → Ll,of_mem_zip → Lo,mem_append_left → Lr,mem_map_of_mem → Lz,lookup → LA,filterMap_cons → LB,set_cons_zero → LN,set_cons_succ → LO,map_nil → Mh,any_eq_true → Mp
open Option renaming bind_some → EA,isSome_iff_exists → FE,some → FN,map → FY,getD_some → Hb,map_some → HM,getD_none → Me,some → aI,none → cS
open Nat renaming le_refl → EF,lt_of_lt_of_le → EJ,ne_of_lt → ER,le_trans → EX,lt_succ_of_lt → Gc,le_add_right → GA,lt_irrefl → DA,zero_le → He,ne_of_gt → HN,lt_succ_self → Iy,min_le_right → Lk,mul_le_mul_right → Lv,zero_add → Mm,mul_comm → Mn,le_of_lt → Mo
open PySem.Value renaming ref → EO,none → Gk,type → HF,int → IB,bool → La,str → Ln
open PySem.Str renaming empty → EU,ofString → FD,join → GS
open PySem.NameKind renaming free → EV,cell → GW
open Option.some renaming inj → Ff
open PySem.Calls renaming spliced_cons → Fg,spliced_nil → GG,Constant_str → HR,evalArgs_plain → Iq,callWith_builtin → Lj
open PySem.Txt renaming split → Fk,slice → FV,startswith → Lx,slice_le → Ml
open PySem.Builtin.SmallTypes renaming nextOf → Fn,ownedTupleIsFree → Gu,ownedTupleHandOut → IP
open PySem.Builtin.Str renaming strSliceIndices → Fs,occurrences → FZ,partsBetween → ID
open Ne renaming symm → Fy
open PyProof.Rows renaming slot_tuple_getitem → FF,callWith_builtin1 → Gh,callWith_type1 → Gz,boot_isinstance → GZ,joinParts_cons → HP,boot_tuple → IG,boot_int → IT,slot_tupleiter_next → IZ,tupleItemsOf_ → Lp,formatField_int_small → LG,FormattedValue_plain → LZ,AllBare → Dy,envOfC → MM,IsTup → Nd,IntsAre → Oc,Subscript_ → Pb,subscriptTail → Rw,args_tuple_getitem → RX,args_tupleiter_next → RY,entry_tupleiter_next → R5,joinParts_nil → Sj,subscriptTail_builtinR → SD
open False renaming elim → tx
open PySem.SeqAt renaming EqAt → FR,depth_of_shaped → Ii
open True renaming intro → Ga
open Sum renaming inr → Gf,inl → Mg
open PySem.Builtin.Tuple renaming tupleExact → Gj,tupleIsExact → Hf
open Array renaming getElem?_setIfInBounds → GC,length_toList → IE,append_assoc → LL
open Int renaming eq_ofNat_of_zero_le → GF,emod_lt_of_pos → Hh,emod_nonneg → HX,toNat_natCast → Ij
open PySem.F renaming excBase_ValueError → GJ,store_ValueError → MB,attr_ValueError → HI,slot_tuple_mul → IC,args_tuple_add_2 → IS,entry_tuple_add → Lb,slot_tuple_add → Ld,plainAttrs_str → Le,slot_zip_next → Lw,args_list_append_2 → LK,entry_list_append → Ma,slot_list_append → Mi,args_tuple_mul_2 → Mj,args_str_split_2 → Mk,entry_tuple_mul → Ms,entry_str_split → Mt,slot_str_split → Mx
open PySem.Sem renaming wp → GO
open PySem.PyData renaming eqv → GU,depth → Ha,depthAll → HL,canLay0 → HZ,eqvAll → Ly,canLayAll0 → LM
open PySem.Builtin.Slice renaming slicePlaces → Hg,sliceAdjust → Ip
open PySem.Obj renaming mapFields → Hx,data_mapFields → IU
open PySem.Builtin.Range renaming rangeSize → Hz
open ForInStep renaming yield → Lf
open PySem.Value.ref renaming inj → Lq
open PySem.Code renaming quiet_builtin → LP
local macro_rules | `(⋯) => `(by first | decide +kernel | omega | simp)
set_option autoImplicit true
noncomputable section
set_option Elab.async false
set_option linter.all false
set_option maxRecDepth 100000
set_option maxHeartbeats 4000000
abbrev MQ:=PySem.Value->PySem.Shared->Prop
abbrev MW:=List (PySem.Addr×PySem.Obj)
abbrev MV:=Nat->Nat->Nat->Int
abbrev MK:=Nat->Nat->Int
abbrev MX:=Nat->Bool
abbrev MZ:=Nat->Nat
abbrev MJ:=PySem.Str->Option PySem.Value
theorem MY{c:Prop}{h:Decidable c}(z:c){α}{a b:α}:ite c a b=a:=if_pos z
theorem RQ{c:Prop}{h:Decidable c}(z:¬c){α}{a b:α}:ite c a b=b:=if_neg z
namespace L2
open PySem PySem.Spec PyProof.Rows
abbrev Key:=Sum Int Str
noncomputable def YA:Key->gv->Bool
 | .inl k,v=>Value.isInt k v
 | .inr x,v=>Value.isStrOf x v
noncomputable def CP(w:i5):Key->Int
 | .inl k=>hashInt k
 | .inr x=>hashStr w x
theorem jQ : ∀{k:Key} {v:gv},YA k v=cI->(∃i t,k=Mg i/\v=IB i t)\/(∃x t,k=Gf x/\v=Ln x t)
 | .inl i,v,h=>by obtain⟨t,e⟩:=Value.isInt_shape (k:=i) (v:=v) h;exact .inl ⟨i,t,rfl,e⟩
 | .inr x,v,h=>by obtain⟨t,e⟩:=Value.isStrOf_shape (x:=x) (v:=v) h;exact .inr ⟨x,t,rfl,e⟩
theorem V7(i:Int)(t:rk):YA (.inl i) (.int i t)=cI:=by simp[YA,Value.isInt]
theorem V6(x:Str)(t:rk):YA (.inr x) (.str x t)=cI:=by simp[YA,Value.isStrOf]
theorem oY(a b:Int):decide ((Mg a:Key)=Mg b)=(a==b):=by
 by_cases e:a=b
 ·subst e;simp
 ·have h : ¬(Mg a:Key)=Mg b:=λq=>e (Mg.inj q)
  rw[decide_eq_false h];exact(beq_eq_false_iff_ne.mpr e).symm
theorem oV(a b:Str):decide ((Gf a:Key)=Gf b)=decide (a=b):=by
 by_cases e:a=b
 ·subst e;simp
 ·have h : ¬(Gf a:Key)=Gf b:=λq=>e (Gf.inj q)
  rw[decide_eq_false h,decide_eq_false e]
theorem oX(a:Int)(b:Str):decide ((Mg a:Key)=Gf b)=dV:=decide_eq_false<|λq=>nomatch q
theorem oW(a:Str)(b:Int):decide ((Gf a:Key)=Mg b)=dV:=decide_eq_false<|λq=>nomatch q
noncomputable def qL(prog:i8)(w:i5):PySem.KeyKind prog w Key where
 is:=YA
 hash:=CP w
 inj:=λv a b ha B=>by
  rcases jQ ha with⟨i,t,rfl,rfl⟩ | ⟨x,t,rfl,rfl⟩
  ·rcases jQ B with⟨j,u,rfl,e⟩ | ⟨y,u,rfl,e⟩
   ·injection e with e1 _;rw[e1]
   ·exact nomatch e
  ·rcases jQ B with⟨j,u,rfl,e⟩ | ⟨y,u,rfl,e⟩
   ·exact nomatch e
   ·injection e with e1 _;rw[e1]
 byValue:=λk v h=>by rcases jQ h with⟨i,t,rfl,rfl⟩ | ⟨x,t,rfl,rfl⟩<;>rfl
 pyHash:=λz h=>by
  rcases jQ z with⟨i,t,rfl,rfl⟩ | ⟨x,t,rfl,rfl⟩
  ·exact wpAny_pyHash_int h
  ·exact wpAny_pyHash_str h
 eqBool:=λI z h=>by
  rcases jQ I with⟨i,t,rfl,rfl⟩ | ⟨x,t,rfl,rfl⟩
  ·rcases jQ z with⟨j,u,rfl,rfl⟩ | ⟨y,u,rfl,rfl⟩
   ·rw[oY]at h;exact wpAny_eqBool_int h
   ·rw[oX]at h;exact FR.int_str i t y u _ _ _ _ h
  ·rcases jQ z with⟨j,u,rfl,rfl⟩ | ⟨y,u,rfl,rfl⟩
   ·rw[oW]at h;exact FR.str_int x t j u _ _ _ _ h
   ·rw[oV]at h;exact wpAny_eqBool_str h
 «strs» :=λk x t v h=>by
  rcases jQ h with⟨i,u,rfl,e⟩ | ⟨y,u,rfl,e⟩
  ·exact nomatch e
  ·injection e with e1 _
   subst e1;cases v<;>rfl
theorem Xx(prog:i8)(w:i5)(i:Int)(t:rk):(qL prog w).is (.inl i) (.int i t)=cI:=V7 i t
theorem Xw(prog:i8)(w:i5)(x:Str)(t:rk):(qL prog w).is (.inr x) (.str x t)=cI:=V6 x t
inductive V where
 | ih | bl (b:Bool) | int (i:Int) | str (x:Str) | Pg (b:Array UInt8) | MP (b:UInt64) | ref (a:eI) | ty (n:String)
 deriving DecidableEq
noncomputable def RelV:V->gv->Prop
 | .ih,u=>u=Gk
 | .bl b,u=>u=La b
 | .int i,u=>∃t,u=IB i t
 | .str x,u=>∃t,u=Ln x t
 | .Pg b,u=>∃t,u=Value.bytes b t
 | .MP b,u=>∃t,u=Value.float b t
 | .ref a,u=>u=EO a
 | .ty n,u=>u=HF n
abbrev i4:List V->List gv->Prop:=Paired RelV
theorem i4.length(r:i4 xs us):xs.length=us.length:=Paired.length r
theorem i4.get : ∀{xs:List V} {G:List gv} {i:Nat} {x:V},i4 xs G->xs[i]? = aI x->∃u,G[i]? = aI u/\RelV x u
 | _,_,_,_,.nil,e=>by simp at e
 | _,_,0,_,.cons r _,e=>by simp at e;subst e;exact⟨_,rfl,r⟩
 | _,_,i+1,x,.cons _ t,e=>by obtain⟨u,a,b⟩:=i4.get (i:=i) (x:=x) t (by simpa using e);exact⟨u,by simpa using a,b⟩
theorem i4.append : ∀{xs H:List V} {G ws:List gv},i4 xs G->i4 H ws->i4 (xs++H) (G++ws)
 | _,_,_,_,.nil,s=>s
 | _,_,_,_,.cons r t,s=> .cons r (i4.append t s)
theorem i4.take : ∀{xs:List V} {G:List gv} (n:Nat),i4 xs G->i4 (xs.take n) (G.take n)
 | _,_,0,_=> .nil
 | _,_,_+1,.nil=> .nil
 | _,_,n+1,.cons r t=> .cons r (i4.take n t)
theorem i4.drop : ∀{xs:List V} {G:List gv} (n:Nat),i4 xs G->i4 (xs.drop n) (G.drop n)
 | _,_,0,r=>r
 | _,_,_+1,.nil=> .nil
 | _,_,n+1,.cons _ t=>i4.drop n t
noncomputable def DQ:Option V->Option gv->Prop
 | some v,aI u=>RelV v u
 | none,cS=>True
 | _,_=>False
noncomputable def KV{G:Type}:List (G×V)->List (G×gv)->Prop:=Paired λ(p:G×V) (q:G×gv)=>p.1=q.1/\RelV p.2 q.2
def kV:Key->V
 | .inl i=> .int i
 | .inr x=> .str x
inductive HO where
 | lst (xs:List V)
 | tup (xs:List V)
 | dK (p9:List (Key×V)) | dT (p9:List (List Key×V))
 | set (S:Int->Bool) (n:Nat)
 | ins (C dx:eI) (fs:List (Str×V))
 | own (x:eI)
 | xd (fs:List (Str×V))
 | met (f x:eI)
 | OP (lo hi:Int)
 | xA (o:n0) (u:HO)
 | F8 (ps:Array gv)
 | ext (φ:h7->Prop)
abbrev Hp:=eI->Option HO
def upd(H:Hp)(a:eI)(o:HO):Hp:=λb=>if b=a then aI o else H b
theorem zt:upd H a o a=aI o:=by unfold upd;rw[MY rfl]
theorem zu(h:b≠a):upd H a o b=H b:=by unfold upd;rw[RQ h]
theorem Q6{H:Hp}{a:eI}{o u:HO}:upd (upd H a o) a u=upd H a u:=by funext b;unfold upd;split<;>rfl
theorem zL{H:Hp}{a b:eI}{o:HO}(h:H a=aI o)(h':H b=cS):a≠b:=by intro e;subst e;rw[h]at h';cases h'
noncomputable def DC(h:h7)(a:eI)(z:Array gv):Prop:=∃o,h.get? a=aI o/\(o.cls,o.dict)=(HF "tuple",cS)/\∃n,o.data = .seq z n
theorem DC.new(h:h7)(z:Array gv):DC (h.push {cls:= .type "tuple",data:= .seq z}) h.objs.size z:=⟨_,ET _ rfl,rfl,_,rfl⟩
theorem DC.tup(x:DC h a items):Nd h a items:=let ⟨o,e,c,r⟩:=x;⟨o,e,(Prod.mk.inj c).1,r⟩
section
variable(P:i8)(w:i5)
noncomputable def l6(H:Hp)(h:h7)(a:eI):HO->Prop
 | .lst d=>d.length<=j3/\∃(z:List gv) (n:Nat),i4 d z/\h.get? a=aI {cls:= .type "list",data:= .seq z.toArray n}
 | .tup d=>d.length<=j3/\∃z:List gv,i4 d z/\DC h a z.toArray
 | .dK b=>b.length<=j3/\(a==F7)=dV/\∃m,KV b m/\h.DictOf (qL P w) a m
 | .dT b=>b.length<=j3/\(a==F7)=dV/\∃d:List (List Key×eI×gv),
  Paired (λ(p:List Key×V) (q:List Key×eI×gv)=>p.1=q.1/\H q.2.1=aI (.tup<|p.1.map kV)/\RelV p.2 q.2.2) b d/\
  ∃o i B,h.get? a=aI o/\o.ExactDict/\o.data = .dict i B/\i.toList=d.map (entryOfKey<|tupleKind<|qL P w)/\(d.map (·.1)).Nodup
 | .set S n=>h.SetOf (intKind P w) a S n
 | .ins C e fs=>H e=aI (.own a)/\fs.length<=1000/\e≠a/\h.get? a=aI (PySem.W.instObj C e)/\
  ∃mA,h.Ns1 e mA/\(∀f,DQ (fs.lookup f)<|mA f)/\Md mA (fs.map (·.1))
 | .own _=>∃o,h.get? a=aI o
 | .xd fs=>∃mA,h.Ns1 a mA/\∀f,DQ (fs.lookup f)<|mA f
 | .OP lo r=>∃t u v,h.get? a=aI {cls:= .type "range",data:= .fields #[.int lo t,.int r u,.int 1 v]}
 | .xA o u=>h.get? a=aI o/\l6 H h a u
 | .F8 s=>h.get? a=aI {cls:= .none,data:= .fields s}
 | .met f x=>h.get? a=aI (LH (.ref f)<|.ref x)
 | .ext g=>g h/\(∃o,h.get? a=aI o)/\∀j l:h7,g j->(∀o,j.get? a=aI o->l.get? a=aI o)->g l
def m5(H:Hp)(h:h7):Prop:=∀a o,H a=aI o->l6 P w H h a o
end
section
variable{P:i8}{w:i5}{H H':Hp}{h h':h7}{a:eI}{o:HO}
theorem l6.lt(x:l6 P w H h a o):a<h.objs.size:=by
 cases o with
 | lst d=>obtain⟨_,_,_,_,e⟩:=x;exact EH e
 | tup d=>obtain⟨_,_,_,p⟩:=x;exact p.tup.lt
 | dK b=>obtain⟨_,_,_,_,o,_,_,e,_⟩:=x;exact EH e
 | dT b=>obtain⟨_,_,_,_,o,_,_,e,_⟩:=x;exact EH e
 | set S n=>obtain⟨o,_,_,_,e,_⟩:=x;exact EH e
 | ins C g fs=>obtain⟨_,_,_,e,_⟩:=x;exact EH e
 | own y=>obtain⟨_,e⟩:=x;exact EH e
 | xd fs=>obtain⟨_,⟨_,_,_,e,_⟩,_⟩:=x;exact EH e
 | OP lo i=>obtain⟨_,_,_,e⟩:=x;exact EH e
 | xA z u=>obtain⟨e,_⟩:=x;exact EH e
 | F8 j=>exact EH (show h.get? a=aI _ from x)
 | met f y=>exact EH (show h.get? a=aI _ from x)
 | ext l=>obtain⟨_,⟨_,e⟩,_⟩:=x;exact EH e
theorem Paired.Rq : ∀{z:List α} {B:List β},Paired F z B->(∀a b,F a b->G a b)->Paired G z B
 | _,_,.nil,_=> .nil
 | _,_,.cons r t,f=> .cons (f _ _ r) (Paired.Rq t f)
theorem l6.vr(x:l6 P w H h a o)(k : ∀b u,(b=a\/H b=aI (.own a))->h.get? b=aI u->h'.get? b=aI u)
 (R : ∀b,H b=aI (.own a)->H' b=aI (.own a)) (U : ∀b xs,H b=aI (.tup xs)->H' b=aI (.tup xs)):l6 P w H' h' a o:=by
 induction o with
 | lst xs=>obtain⟨z,O,n,r,e⟩:=x;exact⟨z,O,n,r,k _ _ (.inl rfl) e⟩
 | tup xs=>obtain⟨z,O,r,B,e,c⟩:=x;exact⟨z,O,r,B,k _ _ (.inl rfl) e,c⟩
 | dK i=>obtain⟨z,y,E,r,B,g,I,e,c⟩:=x;exact⟨z,y,E,r,B,g,I,k _ _ (.inl rfl) e,c⟩
 | dT i=>
  obtain⟨z,y,xs,r,B,g,I,e,c⟩:=x;exact⟨z,y,xs,Paired.Rq r λp q z=>⟨z.1,U _ _ z.2.1,z.2.2⟩,B,g,I,k _ _ (.inl rfl) e,c⟩
 | set S n=>obtain⟨B,g,I,t,e,c⟩:=x;exact⟨B,g,I,t,k _ _ (.inl rfl) e,c⟩
 | ins C F fs=>
  obtain⟨d,z,A,e,j,⟨l,g,I,s,c⟩,r⟩:=x;exact⟨R _ d,z,A,k _ _ (.inl rfl) e,j,⟨l,g,I,k _ _ (.inr d) s,c⟩,r⟩
 | own y=>obtain⟨B,e⟩:=x;exact⟨B,k _ _ (.inl rfl) e⟩
 | xd fs=>obtain⟨j,⟨l,g,I,e,c⟩,r⟩:=x;exact⟨j,⟨l,g,I,k _ _ (.inl rfl) e,c⟩,r⟩
 | OP lo G=>obtain⟨t,u,v,e⟩:=x;exact⟨t,u,v,k _ _ (.inl rfl) e⟩
 | xA B u W=>obtain⟨e,q⟩:=x;exact⟨k _ _ (.inl rfl) e,W q⟩
 | F8 m=>
  have e:h.get? a=aI {cls:= .none,data:= .fields m}:=x;show h'.get? a=aI {cls:= .none,data:= .fields m};exact k a _ (.inl rfl) e
 | met f y=>
  have e:h.get? a=aI (LH (.ref f)<|.ref y):=x;show h'.get? a=aI (LH (.ref f)<|.ref y);exact k a _ (.inl rfl) e
 | ext J=>obtain⟨p,⟨o,e⟩,st⟩:=x;exact⟨st _ _ p λo q=>k _ _ (.inl rfl) q,⟨o,k _ _ (.inl rfl) e⟩,st⟩
theorem m5.lt(x:m5 P w H h)(e:H a=aI o):a<h.objs.size:=(x a o e).lt
theorem m5.fresh(x:m5 P w H h)(e:h.objs.size<=a):H a=cS:=by
 cases q:H a with
 | none=>rfl
 | some u=>exact absurd (EJ (x.lt q) e)<|DA _
theorem m5.kept(x:m5 P w H h)(k : ∀b u,h.get? b=aI u->h'.get? b=aI u):m5 P w H h':=λa o e=>
 (x a o e).vr (λb u _ q=>k b u q) (λ_ q=>q) λ_ _ q=>q
theorem m5.laid(x:m5 P w H h)(k : ∀b u,h.get? b=aI u->h'.get? b=aI u)(G:h.objs.size<=a)(new:l6 P w (upd H a o) h' a o):m5 P w (upd H a o) h':=λb u e=>by
 have d:=x.fresh G;by_cases z:b=a
 ·subst z;rw[zt]at e;cases e;exact new
 ·rw[zu z]at e
  exact(x b u e).vr (λc v _ q=>k c v q) (λc q=>by rw[zu (zL q d)];exact q) λc f q=>by rw[zu (zL q d)];exact q
end
noncomputable def Rd(H:Hp)(a:eI)(u:HO):Prop:=H a=aI u\/∃o,H a=aI (.xA o u)
theorem Rd.ok(r:Rd H a u)(x:m5 P w H h):l6 P w H h a u:=by
 rcases r with r | ⟨o,r⟩
 ·exact x a u r
 ·obtain⟨_,q⟩:=x a _ r
  exact q
noncomputable def Ng:Option HO->Prop
 | some (.lst _)=>True
 | some (.dK _)=>True
 | some (.dT _)=>True
 | some (.set _ _)=>True
 | some (.ins _ _ _)=>True
 | some (.ext _)=>True
 | _=>False
section
variable{P:i8}{w:i5}{H:Hp}{h h':h7}{x e:eI}{o':HO}
theorem m5.write(ok:m5 P w H h)(B:Ng (H x))(R:e=x\/H e=aI (.own x))(k : ∀b u,b≠e->h.get? b=aI u->h'.get? b=aI u)(Y : ∃u,h'.get? e=aI u)
 (new:l6 P w (upd H x o') h' x o'):m5 P w (upd H x o') h':=λb u q=>by
 have U : ∀c y,H c=aI (.own y)->c≠x:=λc y r z=>by subst z;rw[r]at B;exact B
 have d : ∀c a,H c=aI (.tup a)->c≠x:=λc a r z=>by subst z;rw[r]at B;exact B
 by_cases I:b=x
 ·subst I;rw[zt]at q;cases q;exact new
 ·rw[zu I]at q
  by_cases O:b=e
  ·have W:H b=aI (.own x):=by
    rcases R with z | z
    ·exact absurd (O.trans z) I
    ·rw[O];exact z
   rw[q]at W;cases W;obtain⟨v,f⟩:=Y;exact⟨v,by rw[O];exact f⟩
  ·refine(ok b u q).vr (λc v hc r=>k c v ?_ r) (λc r=>by rw[zu (U c b r)];exact r) λc a r=>by rw[zu (d c a r)];exact r
   rcases hc with rfl | hc
   ·exact O
   ·rintro rfl
    rcases R with z | z
    ·exact U c b hc z
    ·rw[hc]at z;cases z;exact I rfl
end
structure Un(fs ex:List eI)(H H':Hp)(h h':h7):Prop where
 keep : ∀b o,h.get? b=aI o->H b=cS->b∉fs->b∉ex->h'.get? b=aI o
 slot : ∀b o,h.get? b=aI o->H b=cS->b∈fs->b∉ex->∃sl,h'.get? b=aI {o with slots:=sl}
 free : ∀b o,h.get? b=aI o->H b=cS->b∉ex->H' b=cS
 there : ∀b o,h.get? b=aI o->b∉ex->∃o',h'.get? b=aI o'
 t8 : ∀b xs,H b=aI (.tup xs)->H' b=aI (.tup xs)
 u7 : ∀b o u,H b=aI (.xA o u)->H' b=aI (.xA o u)
 t7 : ∀b ps,H b=aI (.F8 ps)->∃more,H' b=aI (.F8<|ps++more)
section
variable{fs Sa ex S8:List eI}{H H1 H2:Hp}{h h1 h2 h':h7}{a x e:eI}{o:HO}
theorem Un.any(u:Un fs ex H H1 h h1)(q:h.get? b=aI ob)(n:H b=cS)(hx:b∉ex) : ∃G,h1.get? b=aI {ob with slots:=G}:=by
 by_cases z:b∈fs
 ·exact u.slot b ob q n z hx
 ·exact⟨ob.slots,u.keep b ob q n z hx⟩
theorem Un.kept(k : ∀b u,h.get? b=aI u->h'.get? b=aI u):Un fs ex H H h h':=
 ⟨λb z q _ _ _=>k b z q,λb z q _ _ _=>⟨z.slots,k b z q⟩,λ_ _ _ n _=>n,λb z q _=>⟨z,k b z q⟩,λ_ _ q=>q,λ_ _ _ q=>q,λ_ a q=>⟨#[],by rw[q];simp⟩⟩
theorem Un.refl:Un fs ex H H h h:=Un.kept λ_ _ q=>q
theorem Un.laid(k : ∀b u,h.get? b=aI u->h'.get? b=aI u)(hp:h.objs.size<=a)(hn:H a=cS):Un fs ex H (upd H a o) h h' where
 keep:=λb u q _ _ _=>k b u q
 slot:=λb u q _ _ _=>⟨u.slots,k b u q⟩
 free:=λb u q n _=>by rw[zu (ER<|EJ (EH q) hp)];exact n
 there:=λb u q _=>⟨u,k b u q⟩
 t8:=λb xs q=>by rw[zu (zL q hn)];exact q
 u7:=λb u xs q=>by rw[zu (zL q hn)];exact q
 t7:=λb ps q=>⟨#[],by rw[zu (zL q hn),q];simp⟩
theorem Un.write(B:Ng (H x))(R:e=x\/H e=aI (.own x))(k : ∀b u,b≠e->h.get? b=aI u->h'.get? b=aI u)(U : ∃u,h'.get? e=aI u):Un fs ex H (upd H x o) h h':=by
 have d : ∀b,H b=cS->b≠x:=λb n z=>by subst z;rw[n]at B;exact B
 have I : ∀b,H b=cS->b≠e:=λb n z=>by
  subst z;rcases R with r | r
  ·exact d b n r
  ·rw[n]at r;cases r
 have a : ∀b u,H b=aI u->¬Ng (aI u)->b≠x:=λb u q nm z=>by subst z;rw[q]at B;exact nm B
 refine⟨λb u q n _ _=>k b u (I b n) q,λb u q n _ _=>⟨u.slots,k b u (I b n) q⟩,λb u q n _=>by rw[zu (d b n)];exact n,λb u q _=>?_,
  λb f q=>by rw[zu (a b _ q λz=>z)];exact q,λb u f q=>by rw[zu (a b _ q λz=>z)];exact q,λb g q=>⟨#[],by rw[zu (a b _ q λz=>z),q];simp⟩⟩
 by_cases O:b=e
 ·subst O;exact U
 ·exact⟨u,k b u O q⟩
end
noncomputable def OV(h:h7)(H:Hp):List eI:=(Ez h.objs.size).filter λa=>(H a).isSome
def bM(h:h7)(H:Hp):h7:=FG h<|OV h H
theorem Wh(h:h7)(H:Hp):(bM h H).objs.size=h.objs.size:=PySem.W.hideAll_size _ _
theorem bL(e:h.get? b=aI o)(n:H b=cS):(bM h H).get? b=aI o:=
 FW _ e λa=>by have q:(H b).isSome=cI:=(List.mem_filter.mp a).2;rw[n]at q;simp at q
theorem ig(e:(bM h H).get? b=aI o):h.get? b=aI o/\H b=cS:=by
 have B:h.get? b=aI o:=HH (OV h H) e;refine⟨B,?_⟩;cases q:H b with
 | none=>rfl
 | some x=>
  have a:b∈OV h H:=List.mem_filter.mpr ⟨Fd.mpr<|EH B,by simp[q]⟩;have z:(bM h H).get? b=cS:=Ik (OV h H) a;rw[z]at e;cases e
noncomputable def lu(g h:h7)(L:eI):List (eI×n0):=(Ez h.objs.size).filterMap λa=>if a=L\/(g.get? a).isSome=cI then cS else (h.get? a).map λo=>(a,o)
noncomputable def rest(g h:h7)(L d:eI):List (eI×n0):=(lu g h L).filter λp=>decide<|p.1≠d
structure Mod(K:Es)(mg:MJ)(base:h7):Prop where
 DX:K.In base
 glob:base.Ns o5 mg
 blt : ∃mb,base.Ns Rf mb/\∀x:Str,x ≠ "__name__"->mb x=E8 x
 nolimit:base.NoLimit
structure Cx where
 prog:i8
 w:i5
 K:Es
 mg:Str->Option gv
 base:h7
 A:l7
 N:List Str
 i6:gE
 DB:Hp
 env:l0
 outer:List l0
 stack:List l0
 ex:List eI
 fn:Str->Bool
 calm:Bool
 pn:List (eI×n0)
 xe:gv->gE->Prop
def l5(l:List l0):List eI:=l.filterMap (·.frame)
abbrev Cx.fs(X:Cx):List eI:=l5 X.outer
noncomputable def ME(G:i2)(x:Str):Prop:=G.names.lookup x=aI .local\/G.names.lookup x=aI .cell\/G.names.lookup x=aI .free
noncomputable def Loc(G:i2)(x:Str):Prop:=G.names.lookup x=aI .local\/G.names.lookup x=aI .cell
noncomputable def Ef(env:l0)(h:h7)(m:MJ)(x:Str)(u:gv):Prop:=
 (env.kindOf x=aI .local/\m x=aI u)\/((env.kindOf x=aI .cell\/env.kindOf x=aI .free)/\∃c,env.cells.lookup x=aI c/\h.IsCell c (aI u))
structure Cx.Ok(X:Cx):Prop where
 mod:Mod X.K X.mg X.base
 kind:X.env.scope.kind = .function
 glob:X.env.globals=o5
 blt:X.env.builtins=Rf
 above:X.i6.heap.objs.size<=X.env.locals
 inj : ∀x y c,X.env.cells.lookup x=aI c->X.env.cells.lookup y=aI c->x=y
 has : ∀x,(X.env.kindOf x=aI .cell\/X.env.kindOf x=aI .free)->∃c,X.env.cells.lookup x=aI c
 IX : ∀x c,X.fn x=cI->X.env.cells.lookup x=aI c->X.i6.heap.objs.size<=c
 hd:X.calm=cI->X.A.handled=cS
 frames:X.A.frames=aI X.stack
 DK:X.stack=X.outer\/(X.stack=X.env::X.outer/\X.env.frame=aI X.env.locals)
 FI : ∀b∈X.ex,b≠X.env.locals/\∀x c,X.env.cells.lookup x=aI c->c≠b
 bs : ∀b o,X.base.get? b=aI o->X.i6.heap.get? b=aI o/\X.DB b=cS
 Df:X.base.objs.size<=X.i6.heap.objs.size
 L4 : ∀b o,X.base.get? b=aI o->b∉X.ex
 F2 : ∀b∈X.ex,b∉X.fs
 pw:X.i6.heap.FunFrames X.base X.outer
 B5 : ∀b∈X.fs,X.DB b=cS
structure Inv(X:Cx)(pins:MW)(σ:List (Option V))(H:Hp)(s:gE):Prop where
 ok:X.Ok
 os:s.os=X.i6.os
 bare:Dy s.gens
 base:Un X.fs X.ex X.DB H X.i6.heap s.heap
 loc : ∃m,s.heap.Ns X.env.locals m/\∀(i:Nat) (x:Str) (v:V),X.N[i]? = aI x->σ[i]? = aI (aI v)->ME X.env.scope x->∃u,RelV v u/\Ef X.env s.heap m x u
 cell : ∀x c,X.env.cells.lookup x=aI c->∃v,s.heap.IsCell c v
 free:H X.env.locals=cS
 B4 : ∀x c,X.env.cells.lookup x=aI c->H c=cS
 pin : ∀p∈X.pn++pins,s.heap.get? p.1=aI p.2/\H p.1=cS/\p.1≠X.env.locals/\p.1∉X.fs/\∀v,p.2.data ≠ .cell v
 h8:m5 X.prog X.w H s.heap
 len:σ.length=X.N.length
section
variable{X:Cx}{pins:MW}{σ:List (Option V)}{H H':Hp}{s:gE}{h':h7}
theorem Cx.Ok.Sn(ok:X.Ok)(e:X.base.get? b=aI o):b∉X.fs:=λz=>by have:=(ok.pw.mem z).1;rw[e]at this;cases this
theorem Inv.bs(I:Inv X pins σ H s) : ∀b o,X.base.get? b=aI o->s.heap.get? b=aI o/\H b=cS:=λb o e=>
 ⟨I.base.keep b o (I.ok.bs b o e).1 (I.ok.bs b o e).2 (I.ok.Sn e) (I.ok.L4 b o e),I.base.free b o (I.ok.bs b o e).1 (I.ok.bs b o e).2 (I.ok.L4 b o e)⟩
theorem Inv.bk(I:Inv X pins σ H s) : ∀b o,X.base.get? b=aI o->s.heap.get? b=aI o:=λb o e=>(I.bs b o e).1
theorem Inv.mod(I:Inv X pins σ H s):Mod X.K X.mg X.base:=I.ok.mod
theorem Inv.i9(I:Inv X pins σ H s):X.K.In s.heap:=I.ok.mod.DX.keeps I.bk
theorem Inv.lt(I:Inv X pins σ H s):X.env.locals<s.heap.objs.size:=let ⟨_,a,_⟩:=I.loc;a.lt
theorem Inv.sz(I:Inv X pins σ H s):X.i6.heap.objs.size<=s.heap.objs.size:=EX I.ok.above<|Mo I.lt
theorem Inv.Sq(I:Inv X pins σ H s)(h:s.heap.objs.size<=a):a∉X.fs:=λz=>by obtain⟨_,o,B,_⟩:=I.ok.pw.mem z;exact absurd (EJ (EH B)<|EX I.sz h)<|DA _
theorem Inv.DU(I:Inv X pins σ H s) : ∀x c,X.env.cells.lookup x=aI c->c≠X.env.locals:=λx c e z=>by obtain⟨v,o,B,a⟩:=I.cell x c e;obtain⟨m,⟨d,b,U,O,R,_⟩,_⟩:=I.loc;rw[z,O]at B;cases B;rw[R]at a;cases a
theorem Inv.pw(I:Inv X pins σ H s):s.heap.FunFrames X.base X.outer:=by
 have all : ∀(l:List l0),(∀b∈l5 l,b∈X.fs)->X.i6.heap.FunFrames X.base l->s.heap.FunFrames X.base l:=by
  intro l
  induction l with
  | nil=>intro _ _;trivial
  | cons f r R=>
   intro d i;obtain⟨h,⟨L,o,a,j,U,g⟩,W⟩:=i;have B:L∈X.fs:=d L (by unfold l5;rw[LB,a];exact EN);obtain⟨m,e⟩:=I.base.slot L o U (I.ok.B5 L B) B λz=>I.ok.F2 L z B;exact⟨h,⟨L,_,a,j,e,g⟩,R (λb O=>d b<|by unfold l5;rw[LB,a];exact EK _ O) W⟩
 exact all X.outer (λ_ O=>O) I.ok.pw
theorem Inv.stack(I:Inv X pins σ H s):s.heap.FunFrames X.base X.stack:=by
 rcases I.ok.DK with e | ⟨e,hf⟩
 ·rw[e];exact I.pw
 ·rw[e]
  obtain⟨m,a,_⟩:=I.loc;refine .cons (by rw[I.ok.kind];decide) hf a ?_ I.pw;exact Ls<|EX I.ok.Df I.ok.above
theorem Inv.F6(I:Inv X pins σ H s) : ∀b∈l5 X.stack,b∈X.env.locals::X.fs:=λb z=>by
 rcases I.ok.DK with e | ⟨e,hf⟩
 ·rw[e]at z;exact EK _ z
 ·rw[e]at z
  unfold l5 at z;rw[LB,hf]at z;exact z
theorem Inv.D8(I:Inv X pins σ H s) : ∀b∈l5 X.stack,H b=cS:=λb B=>by
 rcases ED.mp (I.F6 b B)with e | B
 ·rw[e];exact I.free
 ·obtain⟨_,o,O,_⟩:=I.ok.pw.mem B
  exact I.base.free b o O (I.ok.B5 b B) λz=>I.ok.F2 b z B
theorem Inv.step{g':Array Oa}{t':Nat}{d':Drawn}{ch:List eI}(I:Inv X pins σ H s)
 (R : ∀b∈ch,(b∈X.ex\/X.i6.heap.objs.size<=b)/\b≠X.env.locals/\(∀x c,X.env.cells.lookup x=aI c->c≠b)/\∀p∈X.pn++pins,p.1≠b)
 (G : ∀b o,b≠X.env.locals->b∉X.fs->b∉ch->s.heap.get? b=aI o->H b=cS->h'.get? b=aI o)
 (J : ∀b o,b≠X.env.locals->b∈X.fs->b∉ch->s.heap.get? b=aI o->H b=cS->∃sl,h'.get? b=aI {o with slots:=sl}) (free : ∀b o,b∉ch->s.heap.get? b=aI o->H b=cS->H' b=cS)
 (L : ∀b o,b∉ch->s.heap.get? b=aI o->∃o',h'.get? b=aI o')
 (t8 : ∀b xs,H b=aI (.tup xs)->H' b=aI (.tup xs)) (Z : ∀b o u,H b=aI (.xA o u)->H' b=aI (.xA o u)) (t7 : ∀b ps,H b=aI (.F8 ps)->∃more,H' b=aI (.F8<|ps++more))
 (ns : ∀m,s.heap.Ns X.env.locals m->h'.Ns X.env.locals m) (h8:m5 X.prog X.w H' h') (hg:Dy g') :
 Inv X pins σ H' {s with heap:=h',gens:=g',drawn:=d',toks:=t'}:=by
 have Y : ∀b o,X.i6.heap.get? b=aI o->b≠X.env.locals:=λb o e=>ER<|EJ (EH e) I.ok.above;have W : ∀b o,X.i6.heap.get? b=aI o->b∉X.ex->b∉ch:=λb o e a B=>by
  rcases (R b B).1 with z | z
  ·exact a z
  ·exact absurd (EJ (EH e) z)<|DA _
 have j : ∀x c,X.env.cells.lookup x=aI c->∀v,s.heap.IsCell c v->h'.IsCell c v:=λx c e v K=>by
  obtain⟨o,O,h⟩:=K;have U:c∉ch:=λz=>(R c z).2.2.1 x c e rfl;by_cases t:c∈X.fs
  ·obtain⟨sl,q⟩:=J c o (I.DU x c e) t U O (I.B4 x c e)
   exact⟨_,q,h⟩
  ·exact⟨o,G c o (I.DU x c e) t U O<|I.B4 x c e,h⟩
 refine⟨I.ok,I.os,hg,⟨λb o e n B a=>?_,λb o e n B a=>?_,λb o e n a=>?_,λb o e a=>?_,λb xs e=>t8 b xs<|I.base.t8 b xs e,λb o xs e=>Z b o xs<|I.base.u7 b o xs e,λb ps e=>?_⟩,?_,λx c e=>?_,?_,λx c e=>?_,λp y=>?_,h8,I.len⟩
 ·exact G b o (Y b o e) B (W b o e a) (I.base.keep b o e n B a)<|I.base.free b o e n a
 ·obtain⟨sl,f⟩:=I.base.slot b o e n B a
  obtain⟨E,g⟩:=J b _ (Y b o e) B (W b o e a) f<|I.base.free b o e n a;exact⟨E,g⟩
 ·obtain⟨o',f⟩:=I.base.there b o e a
  exact free b o' (W b o e a) f<|I.base.free b o e n a
 ·obtain⟨o',f⟩:=I.base.there b o e a
  exact L b o' (W b o e a) f
 ·obtain⟨P,f⟩:=I.base.t7 b ps e
  obtain⟨Q,g⟩:=t7 b _ f;exact⟨P++Q,by rw[g,LL]⟩
 ·obtain⟨m,N,M⟩:=I.loc
  refine⟨m,ns m N,λi x v f g F=>?_⟩;obtain⟨u,r,l⟩:=M i x v f g F;refine⟨u,r,?_⟩;rcases l with l | ⟨k,c,e,z⟩
  ·exact .inl l
  ·exact .inr ⟨k,c,e,j x c e _ z⟩
 ·obtain⟨v,z⟩:=I.cell x c e
  exact⟨v,j x c e v z⟩
 ·obtain⟨m,⟨o,_,_,O,_⟩,_⟩:=I.loc
  exact free _ o (λz=>(R _ z).2.1 rfl) O I.free
 ·obtain⟨v,o,O,h⟩:=I.cell x c e
  exact free c o (λz=>(R c z).2.2.1 x c e rfl) O<|I.B4 x c e
 ·obtain⟨e,n,A,C,d⟩:=I.pin p y
  have U:p.1∉ch:=λz=>(R p.1 z).2.2.2 p y rfl;exact⟨G p.1 p.2 A C U e n,free p.1 p.2 U e n,A,C,d⟩
theorem Inv.un{t':Nat}(I:Inv X pins σ H s)(u:Un X.fs [] H H' s.heap h')(G:m5 X.prog X.w H' h'):Inv X pins σ H' {s with heap:=h',toks:=t'}:=by
 obtain⟨m,⟨o,g,f,O,r⟩,_⟩:=id I.loc;obtain⟨j,U⟩:=u.any O I.free ⋯;exact I.step (g':=s.gens) (d':=s.drawn) (ch:=[]) (λ_ z=>nomatch z) (λb o _ B _ e n=>u.keep b o e n B ⋯) (λb o _ B _ e n=>u.slot b o e n B ⋯) (λb o _ e n=>u.free b o e n ⋯) (λb o _ e=>u.there b o e ⋯) u.t8 u.u7 u.t7 (λh a=>by obtain⟨i,W,Y,R,d⟩:=a;rw[O]at R;cases R;exact⟨_,W,Y,U,d⟩) G I.bare
theorem Inv.call{g':Array Oa}{t':Nat}{d':Drawn}{ch:List eI}(I:Inv X pins σ H s)(u:Un (l5 X.stack) ch H H' s.heap h')(G:m5 X.prog X.w H' h')(W:Dy g')
 (O : ∀b∈ch,(b∈X.ex\/X.i6.heap.objs.size<=b)/\b≠X.env.locals/\(∀x c,X.env.cells.lookup x=aI c->c≠b)/\∀p∈X.pn++pins,p.1≠b) :
 Inv X pins σ H' {s with heap:=h',gens:=g',drawn:=d',toks:=t'}:=by
 obtain⟨m,⟨o,j,i,R,r⟩,_⟩:=id I.loc;obtain⟨y,B⟩:=u.any R I.free λz=>(O _ z).2.1 rfl;exact I.step (ch:=ch) O (λb o B Y a e n=>u.keep b o e n (λz=>(ED.mp<|I.F6 b z).elim B Y) a) (λb o _ _ a e n=>u.any e n a) (λb o a e n=>u.free b o e n a) (λb o a e=>u.there b o e a) u.t8 u.u7 u.t7 (λl g=>by obtain⟨t,d,f,U,h⟩:=g;rw[R]at U;cases U;exact⟨_,d,f,B,h⟩) G W
theorem Inv.turned{t':Nat}{it:eI}(I:Inv X pins σ H s)(k : ∀b o,b≠it->s.heap.get? b=aI o->h'.get? b=aI o)(L:H it=cS)(B:it≠X.env.locals)
 (G:it∈X.ex\/X.i6.heap.objs.size<=it) (J : ∀x c,X.env.cells.lookup x=aI c->c≠it) (R : ∀p∈X.pn++pins,p.1≠it):Inv X pins σ H {s with heap:=h',toks:=t'}:=by
 have O : ∀b u,H b=aI u->b≠it:=λb u e z=>by rw[z,L]at e;cases e
 refine I.step (g':=s.gens) (d':=s.drawn) (ch:=[it]) (λb U=>?_) (λb o _ _ a e _=>k b o (λz=>a<|by simp[z]) e) (λb o _ _ a e _=>⟨o.slots,k b o (λz=>a<|by simp[z]) e⟩) (λ_ _ _ _ n=>n)
  (λb o a e=>⟨o,k b o (λz=>a<|by simp[z]) e⟩) (λ_ _ e=>e) (λ_ _ _ e=>e) (λb g e=>⟨#[],by rw[e];simp⟩) (λm f=>?_) (λb u e=>?_) I.bare
 ·have e:b=it:=by simpa using U
  subst e;exact⟨G,B,J,R⟩
 ·obtain⟨o,d,W,Y,r⟩:=f
  exact⟨o,d,W,k _ o (Fy B) Y,r⟩
 ·refine(I.h8 b u e).vr (λc v a q=>k c v ?_ q) (λ_ q=>q) λ_ _ q=>q
  rcases a with z | z
  ·rw[z];exact O b u e
  ·exact O c _ z
theorem Inv.tok(I:Inv X pins σ H s)(t:Nat):Inv X pins σ H {s with toks:=t}:=I.un (h':=s.heap) (t':=t) Un.refl I.h8
theorem Inv.kept(I:Inv X pins σ H s)(k : ∀b u,s.heap.get? b=aI u->h'.get? b=aI u):Inv X pins σ H {s with heap:=h',toks:=t'}:=I.un (Un.kept k)<|I.h8.kept k
theorem Inv.laid(I:Inv X pins σ H s)(k : ∀b u,s.heap.get? b=aI u->h'.get? b=aI u)(G:s.heap.objs.size<=a)(new:l6 X.prog X.w (upd H a o) h' a o) :
 Inv X pins σ (upd H a o) {s with heap:=h',toks:=t'}:=I.un (Un.laid k G<|I.h8.fresh G)<|I.h8.laid k G new
theorem Inv.write(I:Inv X pins σ H s)(z:Ng (H x))(B:e=x\/H e=aI (.own x))(k : ∀b u,b≠e->s.heap.get? b=aI u->h'.get? b=aI u)(O : ∃u,h'.get? e=aI u)
 (new:l6 X.prog X.w (upd H x o) h' x o):Inv X pins σ (upd H x o) {s with heap:=h',toks:=t'}:=I.un (Un.write z B k O)<|I.h8.write z B k O new
theorem Inv.Rr(I:Inv X pins σ H s)(h : ∀p∈B,s.heap.get? p.1=aI p.2/\H p.1=cS/\p.1≠X.env.locals/\p.1∉X.fs/\∀v,p.2.data ≠ .cell v):Inv X B σ H s:=
 ⟨I.ok,I.os,I.bare,I.base,I.loc,I.cell,I.free,I.B4,λp a=>(Fm.mp a).elim (λz=>I.pin p<|Lr _ z) (h p),I.h8,I.len⟩
theorem JG{N:List Str}(z:N.Nodup){i j:Nat}{x:Str}(a:N[i]? = aI x)(b:N[j]? = aI x):i=j:=by obtain⟨f,d⟩:=EL.mp a;obtain⟨g,e⟩:=EL.mp b;exact(List.getElem_inj z).mp (d.trans e.symm)
theorem J9{M:B0}{A:l7}{E:MQ}{i:Nat}{x:Str}{v:V}{u:gv}{Q:Unit->gE->Prop}(I:Inv X pins σ H s)(hN:X.N.Nodup)(hi:X.N[i]? = aI x)(hx:Loc X.env.scope x)(r:RelV v u)
 (h : ∀s',Inv X pins (σ.set i<|some v) H s'->(∃a,Hq a s.heap s'.heap/\(a=X.env.locals\/X.env.cells.lookup x=aI a))->Q () s') (hf:X.fn x=cI\/X.env.scope.names.lookup x=aI .local:=by first | exact .inl rfl | exact .inr rfl | assumption):wpAny M A (storeName X.env x u) Q E s:=by
 obtain⟨m,G,hl⟩:=id I.loc;have ak:(X.env.scope.kind == .class || (X.env.scope.kind == .module && X.env.locals != X.env.globals))=dV:=by rw[I.ok.kind];rfl
 have T:i<σ.length:=by rw[I.len];exact(EL.mp hi).1
 have DU:=I.DU;have Z : ∀{a:eI} {h':h7},(∃o,s.heap.get? a=aI o/\H a=cS)->Hq a s.heap h'->m5 X.prog X.w H h':=λ{a h'} ha f b ob e=>by
  obtain⟨_,_,a7⟩:=ha;refine(I.h8 b ob e).vr (λc C hc q=>(f.2 c ?_).trans q) (λ_ q=>q) λ_ _ q=>q;rintro rfl;rcases hc with rfl | hc
  ·rw[a7]at e;cases e
  ·rw[a7]at hc;cases hc
 rcases hx with hk | hk
 ·refine wpAny_storeName_local hk G (λh' an f=>?_) ak
  obtain⟨oL,_,_,ar,_⟩:=id G;refine h _ ⟨I.ok,I.os,I.bare,⟨λb o e n B hx=>?_,λb o e n B hx=>?_,I.base.free,λb o e hx=>?_,I.base.t8,I.base.u7,I.base.t7⟩,⟨_,an,λj y U g l W=>?_⟩,λy c e=>?_,I.free,I.B4,λp J=>?_,Z ⟨oL,ar,I.free⟩ f,by simpa using I.len⟩ ⟨_,f,.inl rfl⟩
  ·exact(f.2 b<|ER<|EJ (EH e) I.ok.above).trans (I.base.keep b o e n B hx)
  ·obtain⟨S,g⟩:=I.base.slot b o e n B hx
   exact⟨S,(f.2 b<|ER<|EJ (EH e) I.ok.above).trans g⟩
  ·obtain⟨L,g⟩:=I.base.there b o e hx
   exact⟨L,(f.2 b<|ER<|EJ (EH e) I.ok.above).trans g⟩
  ·by_cases O:j=i
   ·subst O
    rw[hi]at g;cases g;rw[Ft T]at l;cases l;exact⟨u,r,.inl ⟨hk,by simp⟩⟩
   ·rw[EI (Fy O)]at l
    obtain⟨Y,P,q⟩:=hl j y U g l W;refine⟨Y,P,?_⟩;rcases q with⟨k,e⟩ | ⟨k,c,e,z⟩
    ·refine .inl ⟨k,?_⟩
     have:y≠x:=λe=>O<|JG hN g<|e ▸ hi;simp[this,e]
    ·exact .inr ⟨k,c,e,z.sameBut f<|DU y c e⟩
  ·obtain⟨C,z⟩:=I.cell y c e
   exact⟨C,z.sameBut f<|DU y c e⟩
  ·obtain⟨e,n,t,K,d⟩:=I.pin p J
   exact⟨(f.2 p.1 t).trans e,n,t,K,d⟩
 ·have F:X.fn x=cI:=by
   rcases hf with z | z
   ·exact z
   ·rw[z]at hk;cases hk
  obtain⟨c,hc⟩:=I.ok.has x<|.inl hk;obtain⟨C,z⟩:=I.cell x c hc;refine wpAny_storeName_cell I.ok.kind hk hc z<|λh' a8 f=>?_;obtain⟨oc,a9,as⟩:=id z;refine h {s with heap:=h'} ⟨I.ok,I.os,I.bare,⟨λb o e n B hx=>?_,λb o e n B hx=>?_,I.base.free,λb o e hx=>?_,I.base.t8,I.base.u7,I.base.t7⟩,⟨m,G.sameBut f<|Fy<|DU x c hc,λj y U g l W=>?_⟩,λy R e=>?_,I.free,I.B4,λp J=>?_,Z ⟨oc,a9,I.B4 x c hc⟩ f,by simpa using I.len⟩ ⟨c,f,.inr hc⟩
  ·exact(f.2 b<|ER<|EJ (EH e)<|I.ok.IX x c F hc).trans (I.base.keep b o e n B hx)
  ·obtain⟨S,g⟩:=I.base.slot b o e n B hx
   exact⟨S,(f.2 b<|ER<|EJ (EH e)<|I.ok.IX x c F hc).trans g⟩
  ·obtain⟨L,g⟩:=I.base.there b o e hx
   exact⟨L,(f.2 b<|ER<|EJ (EH e)<|I.ok.IX x c F hc).trans g⟩
  ·by_cases O:j=i
   ·subst O
    rw[hi]at g;cases g;rw[Ft T]at l;cases l;exact⟨u,r,.inr ⟨.inl hk,c,hc,a8⟩⟩
   ·rw[EI (Fy O)]at l
    obtain⟨Y,P,q⟩:=hl j y U g l W;refine⟨Y,P,?_⟩;rcases q with q | ⟨k,R,e,z'⟩
    ·exact .inl q
    ·refine .inr ⟨k,R,e,z'.sameBut f ?_⟩
     rintro rfl;exact O<|JG hN g<|I.ok.inj _ _ _ e hc ▸ hi
  ·by_cases ac:R=c
   ·subst ac;exact⟨_,a8⟩
   ·obtain⟨w2,z2⟩:=I.cell y R e
    exact⟨w2,z2.sameBut f ac⟩
  ·obtain⟨e,n,t,K,d⟩:=I.pin p J
   refine⟨(f.2 p.1 ?_).trans e,n,t,K,d⟩;intro q;rw[q,a9]at e;have q':oc=p.2:=Ff e;exact d C (by rw[<- q'];exact as)
theorem Js(I:Inv X pins σ H s)(z:X.N.Nodup)(hi:X.N[i]? = aI x)(hx:Loc X.env.scope x)(r:RelV v u)
 (h : ∀s',Inv X pins (σ.set i<|some v) H s'->Q () s') (G:X.fn x=cI\/X.env.scope.names.lookup x=aI .local:=by first | exact .inl rfl | exact .inr rfl | assumption):wpAny M A (storeName X.env x u) Q E s:=
 J9 I z hi hx r (λs' B _=>h s' B) G
theorem Inv.Oj(I:Inv X pins σ H s)(z:s'.os=s.os)(u:Un (l5 X.stack) ch H H' s.heap s'.heap)(G:m5 X.prog X.w H' s'.heap)(B:Dy s'.gens)
 (O : ∀b∈ch,(b∈X.ex\/X.i6.heap.objs.size<=b)/\b≠X.env.locals/\(∀x c,X.env.cells.lookup x=aI c->c≠b)/\∀p∈X.pn++pins,p.1≠b):Inv X pins σ H' s':=by
 obtain⟨h',g',d',t',a⟩:=s';have e:a=s.os:=z;subst e;exact I.call (g':=g') (t':=t') (d':=d') u G B O
end
abbrev XK:=gv->Option eI->Hp->Prop
abbrev St:=List (Option V)
abbrev VK:=V->Hp->Prop
abbrev TE:=St->Hp->VK->Prop
abbrev TT:=St->Hp->(Bool->Hp->Prop)->Prop
abbrev TA:=St->Hp->(List V->Hp->Prop)->Prop
structure Ends where
 nx:St->Hp->Prop
 rt:VK
 bk:St->Hp->Prop:=λ_ _=>False
 ct:St->Hp->Prop:=λ_ _=>False
abbrev TS:=Ends->St->Hp->Prop
noncomputable def EP(X:Cx)(G:MW)(H:St)(Q:VK)(u:gv)(s':gE):Prop:=∃v a,Inv X G H a s'/\RelV v u/\Q v a
noncomputable def TP(X:Cx)(G:MW)(H:St)(Q:Bool->Hp->Prop)(b:Bool)(s':gE):Prop:=∃a,Inv X G H a s'/\Q b a
noncomputable def AP(X:Cx)(G:MW)(I:St)(Q:List V->Hp->Prop)(H:List gv)(s':gE):Prop:=∃b a,Inv X G I a s'/\i4 b H/\Q b a
noncomputable def SP(X:Cx)(G:MW)(D:Ends)(f:Flow)(s':gE):Prop:=
 match f with
 | .next=>∃a b,Inv X G a b s'/\D.nx a b
 | .brk=>∃a b,Inv X G a b s'/\D.bk a b
 | .cont=>∃a b,Inv X G a b s'/\D.ct a b
 | .ret u=>∃v a b,Inv X G a b s'/\RelV v u/\D.rt v b
noncomputable def PE(X:Cx)(e:hH)(t:TE):Prop:=
 ∀(a:MW) (s:gE) (b:St) (H:Hp) (Q:VK),Inv X a b H s->t b H Q->wpAny (hA X.prog X.w) X.A (hX e X.env) (EP X a b Q) X.xe s
noncomputable def PT(X:Cx)(e:hH)(t:TT):Prop:=
 ∀(a:MW) (s:gE) (b:St) (H:Hp) (Q:Bool->Hp->Prop),Inv X a b H s->t b H Q->wpAny (hA X.prog X.w) X.A (NG e X.env<|eval e X.env) (TP X a b Q) X.xe s
noncomputable def PW(X:Cx)(e:hH)(t:TT):Prop:=
 ∀(z:m6 gv) (a:MW) (s:gE) (b:St) (H:Hp) (Q:Bool->Hp->Prop),Inv X a b H s->t b H Q->wpAny (hA X.prog X.w) X.A (NG e X.env z) (TP X a b Q) X.xe s
theorem PW.pt(h:PW X e t):PT X e t:=h _
noncomputable def PA(X:Cx)(G:List hH)(t:TA):Prop:=
 ∀(b:ik) (a:MW) (s:gE) (d:St) (H:Hp) (Q:List V->Hp->Prop),Inv X a d H s->t d H Q->wpAny (hA X.prog X.w) X.A (A7<|backTo b<|starEach G X.env) (AP X a d Q) X.xe s
noncomputable def PS(X:Cx)(st:i7)(t:TS):Prop:=
 ∀(a:MW) (s:gE) (b:St) (H:Hp) (D:Ends),Inv X a b H s->t D b H->wpAny (hA X.prog X.w) X.A (exec st X.env) (SP X a D) X.xe s
noncomputable def tF(X:Cx)(st:List i7)(t:TS):Prop:=
 ∀(a:MW) (s:gE) (b:St) (H:Hp) (D:Ends),Inv X a b H s->t D b H->wpAny (hA X.prog X.w) X.A (execs st X.env) (SP X a D) X.xe s
theorem ij(h:wpAny M A t Q E s)(z : ∀a s,Q a s->Q' a s):wpAny M A t Q' E s:=EG h z λ_ _ x=>x
section
variable{X:Cx}
def cR(i:Nat):TE:=λa H Q=>∃v,a[i]? = aI (aI v)/\Q v H
def tC(v:V):TE:=λ_ H Q=>Q v H
theorem VJ(O:X.N[i]? = aI x)(R:ME X.env.scope x)(G:(x==("__debug__" : Str))=dV:=by decide)(U:(x==("__classdict__" : Str))=dV:=by decide):PE X (.Name x pos) (cR i):=by
 intro a s j H Q I h;obtain⟨v,e,h⟩:=h;obtain⟨m,g,d⟩:=I.loc;obtain⟨u,r,l⟩:=d i x v O e R;have z:EP X a j Q u s:=⟨v,H,I,r,h⟩;rcases l with⟨hk,f⟩ | ⟨hk,c,b,B⟩
 ·exact RL (wpAny_loadName_local I.ok.kind hk g f z) G
 ·rcases hk with hk | hk
  ·exact RL (wpAny_loadName_cell I.ok.kind hk b B z) G
  ·exact RL (wpAny_loadName_free I.ok.kind hk b B z U) G
theorem nU:PE X (.Constant (.int i) j pos) (tC<|.int i):=λ_ _ _ H _ I h=>wpAny_Constant_int ⟨.int i,H,I.tok _,⟨_,rfl⟩,h⟩
theorem uE:PE X (.Constant (.bool b) j pos) (tC<|.bl b):=λ_ _ _ H _ I h=>Constant_bool ⟨.bl b,H,I,rfl,h⟩
theorem nP:PE X (.Constant .none j pos) (tC .ih):=λ_ _ _ H _ I h=>Constant_none ⟨.ih,H,I,rfl,h⟩
theorem Zn:PE X (.Constant (.str x) j pos) (tC<|.str x):=λ_ _ _ H _ I h=>HR ⟨.str x,H,I.tok _,⟨_,rfl⟩,h⟩
def Gl(X:Cx)(x:Str):Prop:=X.env.kindOf x=aI .globalImplicit
theorem xH(I:Inv X pins σ H s)(z:Gl X x)(J:X.mg x=aI u)(h:Q u s)
 (G:(x==("__debug__" : Str))=dV:=by decide):wpAny (hA X.prog X.w) X.A (hX (.Name x pos) X.env) Q E s:=
 Calls.Name_function_global I.ok.kind z (Calls.loadGlobal_global (by rw[I.ok.glob];exact I.mod.glob.keeps I.bk) J h) G
theorem xO(I:Inv X pins σ H s)(z:Gl X x)(J:X.mg x=cS)(B:E8 x=aI u)(h:Q u s)
 (L:x ≠ "__name__":=by decide) (G:(x==("__debug__" : Str))=dV:=by decide):wpAny (hA X.prog X.w) X.A (hX (.Name x pos) X.env) Q E s:=by
 obtain⟨d,a,b⟩:=I.mod.blt;exact Calls.Name_function_global I.ok.kind z (Calls.loadGlobal_builtin (by rw[I.ok.glob];exact I.mod.glob.keeps I.bk) J (by rw[I.ok.blt];exact a.keeps I.bk) ((b x L).trans B) h) G
variable{a b:hH}{ta tb:TE}{pos:ik}
def tB(t:TE):TT:=λb H Q=>t b H λx a=>∃c,x = .bl c/\Q c a
theorem nz(h:PE X e t)(B : ∀z,NG e X.env z=(do let v <- z;OS e.pos;holding [v] (truthy v)):=by intro _;rfl):PT X e (tB t):=by intro a s g H Q I f;refine isTrue_plain (ij (h a s g H _ I f) λv i O=>?_)<|B _;obtain⟨x,b,R,U,W⟩:=O;obtain⟨d,rfl,q⟩:=W;cases U;exact Gv ⟨b,R,q⟩
variable{tA OT:TT}{rest:List hH}
noncomputable def Cp(t u:TT):TT:=λb H Q=>t b H λc a=>if c=cI then u b a Q else Q dV a
noncomputable def SG(t u:TT):TT:=λb H Q=>t b H λc a=>if c=cI then Q cI a else u b a Q
def Ck(t:TT):TT:=λb H Q=>t b H λc a=>Q (!c) a
theorem gk(G:PT X a tA):PW X (.BoolOp .And [a] pos) tA:=by
 intro z b s d H Q I h;refine isTrue_and<|ij (G b s d H Q I h) λc f e=>?_;cases c with
 | true=>exact isTrue_and_nil e
 | false=>exact e
theorem nc(G:PT X a tA):PW X (.BoolOp .Or [a] pos) tA:=by
 intro z b s d H Q I h;refine isTrue_or<|ij (G b s d H Q I h) λc f e=>?_;cases c with
 | false=>exact isTrue_or_nil e
 | true=>exact e
theorem nh(G:PT X a tA)(O:PW X (.BoolOp .And (b::rest) pos) OT):PW X (.BoolOp .And (a::b::rest) pos) (Cp tA OT):=by
 intro R d s f H Q I h;refine isTrue_and<|ij (G d s f H _ I h) λc g U=>?_;obtain⟨e,z,B⟩:=U;cases c with
 | true=>exact O R d g f e Q z B
 | false=>exact⟨e,z,B⟩
theorem uo(G:PT X a tA)(O:PW X (.BoolOp .Or (b::rest) pos) OT):PW X (.BoolOp .Or (a::b::rest) pos) (SG tA OT):=by
 intro R d s f H Q I h;refine isTrue_or<|ij (G d s f H _ I h) λc g U=>?_;obtain⟨e,z,B⟩:=U;cases c with
 | true=>exact⟨e,z,B⟩
 | false=>exact O R d g f e Q z B
theorem nA(ha:PT X a tA):PT X (.UnaryOp .Not a pos) (Ck tA):=by intro b s e H Q I h;exact isTrue_not<|ha b s e H (λc d=>Q (!c) d) I h
noncomputable def tK(ta tb:TE):TE:=λb H Q=>ta b H λx a=>∃c,x = .bl c/\if c=cI then tb b a Q else Q (.bl dV) a
noncomputable def Cj(ta tb:TE):TE:=λb H Q=>ta b H λx a=>∃c,x = .bl c/\if c=cI then Q (.bl cI) a else tb b a Q
noncomputable def tu(ta:TE):TE:=λb H Q=>ta b H λx a=>∃c,x = .bl c/\Q (.bl<|!c) a
theorem nN(h:PE X a t):PE X (.BoolOp op [a] pos) t:=λb s e H Q I d=>BoolOp_one<|h b s e H Q I d
theorem nV(G:PE X a ta)(O:PE X (.BoolOp .And (b::rest) pos) tb):PE X (.BoolOp .And (a::b::rest) pos) (tK ta tb):=by
 intro d s f H Q I h;refine BoolOp_and<|ij (G d s f H _ I h) λv g R=>?_;obtain⟨x,e,B,U,z⟩:=R;obtain⟨c,rfl,z⟩:=z;cases U;refine Gv ?_;cases c with
 | true=>exact O d g f e Q B z
 | false=>exact⟨.bl dV,e,B,rfl,z⟩
theorem uD(G:PE X a ta)(O:PE X (.BoolOp .Or (b::rest) pos) tb):PE X (.BoolOp .Or (a::b::rest) pos) (Cj ta tb):=by
 intro d s f H Q I h;refine BoolOp_or<|ij (G d s f H _ I h) λv g R=>?_;obtain⟨x,e,B,U,z⟩:=R;obtain⟨c,rfl,z⟩:=z;cases U;refine Gv ?_;cases c with
 | false=>exact O d g f e Q B z
 | true=>exact⟨.bl cI,e,B,rfl,z⟩
theorem nO(G:PE X a ta):PE X (.UnaryOp .Not a pos) (tu ta):=by intro b s e H Q I h;refine UnaryOp_<|ij (G b s e H _ I h) λv f B=>?_;obtain⟨x,d,O,R,z⟩:=B;obtain⟨c,rfl,z⟩:=z;cases R;exact not_of<|Gv ⟨.bl<|!c,d,O,rfl,z⟩
noncomputable def PX(t:TT)(ta tb:TE):TE:=λa H Q=>t a H λc b=>if c=cI then ta a b Q else tb a b Q
theorem bo(J:PT X c tA)(G:PE X a ta)(O:PE X b tb):PE X (.IfExp c a b pos) (PX tA ta tb):=by
 intro e s f H Q I h;refine wpAny_IfExp<|ij (J e s f H _ I h) λd i R=>?_;obtain⟨g,z,B⟩:=R;cases d with
 | true=>exact G e i f g Q z B
 | false=>exact O e i f g Q z B
end
noncomputable def kv(K:Es)(H:Hp)(a:eI)(xs:List V):Prop:=
 Rd H a (.lst xs)\/
  ∃(o:n0) (z:Array gv) (n:Nat),K.lookup a=aI o/\o.cls = .type "list"/\o.dict=cS/\o.data = .seq z n/\z.size<=j3/\i4 xs z.toList
noncomputable def l4(K:Es)(H:Hp)(a:eI)(xs:List V):Prop:=
 Rd H a (.tup xs)\/
  ∃(o:n0) (z:Array gv) (n:Nat),K.lookup a=aI o/\(o.cls,o.dict)=(HF "tuple",cS)/\o.data = .seq z n/\z.size<=j3/\i4 xs z.toList
noncomputable def Eb:gv->Option V
 | .none=>aI .ih
 | .bool b=>aI (.bl b)
 | .int i _=>aI (.int i)
 | .str x _=>aI (.str x)
 | .bytes b _=>aI (.Pg b)
 | .float b _=>aI (.MP b)
 | .ref a=>aI (.ref a)
 | .type n=>aI (.ty n)
 | _=>cS
theorem RelV.abs(r:RelV x u):Eb u=aI x:=by
 cases x with
 | ih=>cases r;rfl
 | bl _=>cases r;rfl
 | int _=>obtain⟨t,rfl⟩:=r;rfl
 | str _=>obtain⟨t,rfl⟩:=r;rfl
 | Pg _=>obtain⟨t,rfl⟩:=r;rfl
 | MP _=>obtain⟨t,rfl⟩:=r;rfl
 | ref _=>cases r;rfl
 | ty _=>cases r;rfl
theorem RelV.inj(r:RelV x u)(q:RelV y u):x=y:=Ff<|r.abs.symm.trans q.abs
theorem i4.inj : ∀{xs H:List V} {G:List gv},i4 xs G->i4 H G->xs=H
 | _,_,_,.nil,.nil=>rfl
 | _,_,_,.cons r t,.cons r' t'=>by rw[r.inj r',i4.inj t t']
section
variable{X:Cx}{pins:MW}{σ:St}{H:Hp}{s:gE}{a:eI}{xs ys:List V}
theorem kv.of{K:Es}(h:H a=aI (.lst xs)):kv K H a xs:= .inl (.inl h)
theorem l4.of{K:Es}(h:H a=aI (.tup xs)):l4 K H a xs:= .inl (.inl h)
theorem Inv.list(I:Inv X pins σ H s)(h:kv X.K H a xs) : ∃B:List gv,i4 xs B/\PlainL s.heap a B.toArray/\xs.length<=j3:=by
 rcases h with h | ⟨o,B,n,hk,hc,hd,hs,O,r⟩
 ·obtain⟨z,B,n,r,e⟩:=h.ok I.h8
  exact⟨B,r,⟨_,n,e,rfl,rfl,rfl⟩,z⟩
 ·refine⟨B.toList,r,⟨o,n,I.i9 a o hk,hc,hd,by simpa using hs⟩,?_⟩
  have e:=r.length;simp only[IE]at e;omega
theorem Inv.tuple(I:Inv X pins σ H s)(h:l4 X.K H a xs) : ∃B:List gv,i4 xs B/\Nd s.heap a B.toArray/\xs.length<=j3:=by
 rcases h with h | ⟨o,B,n,hk,hc,hs,O,r⟩
 ·obtain⟨z,B,r,p⟩:=h.ok I.h8
  exact⟨B,r,p.tup,z⟩
 ·refine⟨B.toList,r,⟨o,I.i9 a o hk,(Prod.mk.inj hc).1,n,by simpa using hs⟩,?_⟩
  have e:=r.length;simp only[IE]at e;omega
theorem Inv.Py(I:Inv X pins σ H s)(h:kv X.K H a xs)(h':kv X.K H a ys):xs=ys:=by
 obtain⟨B,r,⟨o,n,e,_,_,d⟩,_⟩:=I.list h;obtain⟨b,O,⟨g,U,z,_,_,f⟩,_⟩:=I.list h';rw[e]at z;cases z;rw[d]at f;injection f with R _;have:B=b:=by simpa using congrArg Array.toList R
 subst this;exact r.inj O
theorem Inv.RE(I:Inv X pins σ H s)(h:l4 X.K H a xs)(h':l4 X.K H a ys):xs=ys:=by
 obtain⟨B,r,⟨o,e,_,n,d⟩,_⟩:=I.tuple h;obtain⟨b,O,⟨g,z,_,U,f⟩,_⟩:=I.tuple h';rw[e]at z;cases z;rw[d]at f;injection f with R _;have:B=b:=by simpa using congrArg Array.toList R
 subst this;exact r.inj O
end
abbrev Cx.m4(X:Cx)(E:MQ):Cx:={X with xe:=E}
abbrev Cx.n5(X:Cx):Cx:=X.m4 λ_ _=>False
theorem Cx.Ok.m4{X:Cx}(ok:X.Ok)(E:MQ):(X.m4 E).Ok:=
 ⟨ok.mod,ok.kind,ok.glob,ok.blt,ok.above,ok.inj,ok.has,ok.IX,ok.hd,ok.frames,ok.DK,ok.FI,ok.bs,ok.Df,ok.L4,ok.F2,ok.pw,ok.B5⟩
theorem Cx.Ok.sh{X:Cx}{E:MQ}(ok:(X.m4 E).Ok):X.Ok:=
 ⟨ok.mod,ok.kind,ok.glob,ok.blt,ok.above,ok.inj,ok.has,ok.IX,ok.hd,ok.frames,ok.DK,ok.FI,ok.bs,ok.Df,ok.L4,ok.F2,ok.pw,ok.B5⟩
section
variable{X:Cx}{pins:MW}{σ:St}{H:Hp}{s:gE}{E:MQ}
theorem Inv.m4(I:Inv X pins σ H s)(E:MQ):Inv (X.m4 E) pins σ H s:=⟨I.ok.m4 E,I.os,I.bare,I.base,I.loc,I.cell,I.free,I.B4,I.pin,I.h8,I.len⟩
theorem Inv.sh(I:Inv (X.m4 E) pins σ H s):Inv X pins σ H s:=⟨I.ok.sh,I.os,I.bare,I.base,I.loc,I.cell,I.free,I.B4,I.pin,I.h8,I.len⟩
theorem SP.sh(h:SP (X.m4 E) pins D f s'):SP X pins D f s':=by
 cases f with
 | next=>obtain⟨a,b,I,q⟩:=h;exact⟨a,b,I.sh,q⟩
 | brk=>obtain⟨a,b,I,q⟩:=h;exact⟨a,b,I.sh,q⟩
 | cont=>obtain⟨a,b,I,q⟩:=h;exact⟨a,b,I.sh,q⟩
 | ret u=>obtain⟨v,a,b,I,r,q⟩:=h;exact⟨v,a,b,I.sh,r,q⟩
theorem tF.n5{st:List i7}{t:TS}(h:tF X.n5 st t):tF X st t:=λpins s σ H D I a=>
 EG (h pins s σ H D (I.m4 _) a) (λ_ _ q=>q.sh) λ_ _ z=>tx z
end
section
variable{X:Cx}{st:i7}{rest:List i7}{t u:TS}{e:hH}{te:TE}{pos:ik}
def tD:TS:=λD a H=>D.nx a H
def ml(t u:TS):TS:=λD a H=>t {D with nx:=u D} a H
theorem gD:tF X [] tD:=λ_ _ a H _ I h=>IY ⟨a,H,I,h⟩
theorem wJ(G:PS X st t)(J:tF X rest u):tF X (st::rest) (ml t u):=by
 intro a s g H D I h;refine GD<|ij (G a s g H {D with nx:=u D} I h) λf e q=>?_;cases f with
 | next=>
  obtain⟨b,d,z,q⟩:=q;exact J a e b d D z q
 | ret v=>exact q
 | brk=>exact q
 | cont=>exact q
theorem Zj(G:PS X st t):tF X [st] t:=by
 intro a s b H D I h;refine GD<|ij (G a s b H D I h) λf d q=>?_;cases f with
 | next=>exact IY q
 | ret v=>exact q
 | brk=>exact q
 | cont=>exact q
theorem Inv.quiet(I:Inv X pins σ H s):interactive X.env=dV:=by simp[interactive,I.ok.kind]
def tE(te:TE):TS:=λD a H=>te a H λ_ b=>D.nx a b
theorem Vy(z:PE X e te)(hs:tG e cS pos.line X.env=pure dV:=by rfl):PS X (.Expr e pos) (tE te):=by intro a s b H D I h;exact Mc (ij (z a s b H _ I h) λv f ⟨x,d,B,R,O⟩=>⟨b,d,B,O⟩) I.quiet hs
def Ci(te:TE):TS:=λD a H=>te a H D.rt
theorem dq(z:PE X e te):PS X (.Return (aI e) pos) (Ci te):=by intro a s b H D I h;exact SO<|ij (z a s b H _ I h) λv f ⟨x,d,B,O,R⟩=>⟨x,b,d,B,O,R⟩
noncomputable def Cn(c:TT)(t u:TS):TS:=λD a H=>c a H λb d=>if b=cI then t D a d else u D a d
theorem uz(J:PT X c tc)(G:tF X a t)(O:tF X b u):PS X (.If c a b pos) (Cn tc t u):=by
 intro e s f H D I h;refine wpAny_If<|ij (J e s f H _ I h) λd i R=>?_;obtain⟨g,z,B⟩:=R;cases d with
 | true=>exact G e i f g D z B
 | false=>exact O e i f g D z B
def mm:TS:=λ_ _ _=>False
theorem aY:PS X st mm:=λ_ _ _ _ _ _ h=>h.elim
end
abbrev TG:=V->St->Hp->(St->Hp->Prop)->Prop
abbrev MD:=List V->St->Hp->(St->Hp->Prop)->Prop
noncomputable def PG(X:Cx)(z:hH)(t:TG):Prop:=
 ∀(a:MW) (s:gE) (e:St) (H:Hp) (v:V) (u:gv) (Q:St->Hp->Prop),Inv X a e H s->RelV v u->t v e H Q->
  wpAny (hA X.prog X.w) X.A (DT z X.env u) (λ_ f=>∃b d,Inv X a b d f/\Q b d) X.xe s
noncomputable def Ni(X:Cx)(z:List hH)(t:MD):Prop:=
 ∀(a:MW) (s:gE) (g:St) (H:Hp) (f:List V) (e:List gv) (Q:St->Hp->Prop),Inv X a g H s->i4 f e->t f g H Q->
  wpAny (hA X.prog X.w) X.A (assignInOrder ((E4 z X.env).map (·.2)) e) (λ_ h=>∃b d,Inv X a b d h/\Q b d) X.xe s
section
variable{X:Cx}{pos:ik}
def vf(i:Nat):TG:=λv a H Q=>Q (a.set i<|some v) H
theorem VI(z:X.N.Nodup)(hi:X.N[i]? = aI x)(hx:Loc X.env.scope x)(G:X.fn x=cI\/X.env.scope.names.lookup x=aI .local:=by first | exact .inl rfl | exact .inr rfl | assumption):PG X (.Name x pos) (vf i):=by intro a s d H v u Q I r h;exact SR<|Js I z hi hx r (λb B=>⟨_,H,B,h⟩) G
def Bt:MD:=λa b H Q=>a=[]/\Q b H
noncomputable def pj(t:TG)(u:MD):MD:=λd e H Q=>∃v r,d=v::r/\t v e H λa b=>u r a b Q
theorem JC:Ni X [] Bt:=by intro a s b H f d Q I r h;obtain⟨e,h⟩:=h;subst e;cases r;exact assignInOrder_nil ⟨b,H,I,h⟩
theorem xi(G:PG X e t)(J:Ni X es u)
 (hs:(E4 (e::es) X.env).map (·.2)=DT e X.env::(E4 es X.env).map (·.2):=by rfl):Ni X (e::es) (pj t u):=by
 intro a s g H j i Q I r h;obtain⟨v,W,d,h⟩:=h;subst d;cases r with
 | cons r z=>
  rw[hs];refine assignInOrder_cons<|ij (G a s g H _ _ _ I r h) λ_ f B=>?_;obtain⟨O,b,R,U⟩:=B;exact J a f O b _ _ Q R z U
noncomputable def Bs(K:Es)(n:Nat)(t:MD):TG:=λv d H Q=>∃a b,v = .ref a/\l4 K H a b/\b.length=n/\t b d H Q
theorem nK(G:X.calm=cI)(h:Ni X es t)
 (J:(E4 es X.env).length=n:=by rfl) (B:(E4 es X.env).findIdx? (·.1)=cS:=by rfl):PG X (.Tuple es k pos) (Bs X.K n t):=by
 intro d s g H v u Q I r f;obtain⟨a,w,i,m,l,f⟩:=f;subst i;cases r;obtain⟨U,z,O,W⟩:=I.tuple m;refine assign_Tuple_tuple (I.ok.hd G) O (by simp[J,<- l,z.length]) B λj p=>?_;have R:Inv X d g H {s with heap:=j}:=I.kept (t':=s.toks) λb o e=>p b o (ER<|EH e) e;exact h d _ g H w _ Q R (by simpa using z) f
def Y6(G:TE)(g:TG):TS:=λD a H=>G a H λx b=>g x a b D.nx
theorem dv(z:PE X e te)(B:PG X tg g)(hs:Rx [tg] e pos.line X.env=pure dV:=by rfl)(J:swappedStores [tg] e X.env=pure cS:=by rfl)
 (G:(E4 [tg] X.env).map (·.2)=[DT tg X.env]:=by rfl):PS X (.Assign [tg] e pos) (Y6 te g):=by
 intro a s b H D I h;refine wpAny_Assign_stores (ij (z a s b H _ I h) λv f O=>?_) hs J;obtain⟨x,d,R,U,W⟩:=O;rw[G];exact ij (B a f b d x v _ R U W) λ_ i q=>q
theorem dn(z:X.N.Nodup)(hi:X.N[i]? = aI x)(hx:Loc X.env.scope x)(B:PE X e te)(hs:tG e (aI (.Name x pos')) pos.line X.env=pure dV:=by rfl)(G:X.fn x=cI\/X.env.scope.names.lookup x=aI .local:=by first | exact .inl rfl | exact .inr rfl | assumption) :
 PS X (.Assign [.Name x pos'] e pos) (Y6 te<|vf i):=by
 intro a s d H D I h;refine Iv (ij (B a s d H _ I h) λv f O=>?_) hs;obtain⟨y,b,R,U,W⟩:=O;exact Js R z hi hx U (λg Y=>⟨_,b,Y,W⟩) G
end
structure It where
 go:Nat->Hp->Prop
 C8:Nat->Hp->V->Hp->Prop
 stop:Nat->Hp->Prop
noncomputable def Q0(X:Cx)(G:MW)(H:Hp)(b:eI):Prop:=
 H b=cS/\b≠X.env.locals/\b∉X.fs/\(b∈X.ex\/X.i6.heap.objs.size<=b)/\(∀x c,X.env.cells.lookup x=aI c->c≠b)/\∀p∈X.pn++G,p.1≠b
theorem Inv.MR(I:Inv X pins σ H s)(B:s.heap.objs.size<=b)(G:H' b=cS):Q0 X pins H' b:=by
 refine⟨G,HN<|EJ I.lt B,I.Sq B,.inr<|EX I.sz B,λx c e z=>?_,λp a z=>?_⟩
 ·obtain⟨v,q⟩:=I.cell x c e
  exact absurd (EJ q.lt<|by rw[z];exact B)<|DA _
 ·exact absurd (EJ (EH (I.pin p a).1)<|by rw[z];exact B)<|DA _
structure Turn(P:i8)(w:i5)(K:Es)(tg:hH)(J:It)(fp:List eI)(it:eI)(tn:Nat->h7->Prop):Prop where
 mem:it∈fp
 obj : ∀i h,tn i h->∀b∈fp,∃o,h.get? b=aI o/\∀v,o.data ≠ .cell v
 keep : ∀i h h',tn i h->(∀b∈fp,∀o,h.get? b=aI o->h'.get? b=aI o)->tn i h'
 item : ∀(X:Cx),X.prog=P->X.w=w->X.K=K->X.calm=cI->∀(i:Nat) (pins:MW) (s:gE) (σ:St) (H:Hp) (E:MQ),Inv X pins σ H s->(∀b∈fp,Q0 X pins H b)->tn i s.heap->J.go i H->
  wpAny (hA P w) X.A (NQ<|.ref it) (λr s1=>∃u,r=aI u/\
   wpAny (hA P w) X.A (MU tg (.ref it) u) (λ_ s2=>∃x H',Inv X pins σ H' s2/\RelV x u/\J.C8 i H x H'/\tn (i+1) s2.heap/\∀b∈fp,H' b=cS) E s1) E s
 done : ∀(X:Cx),X.prog=P->X.w=w->X.K=K->X.calm=cI->∀(i:Nat) (pins:MW) (s:gE) (σ:St) (H:Hp) (E:MQ),Inv X pins σ H s->(∀b∈fp,Q0 X pins H b)->tn i s.heap->J.stop i H->
  wpAny (hA P w) X.A (NQ<|.ref it) (λr s1=>r=cS/\Inv X pins σ H s1) E s
 self : ∀(A:l7) (i:Nat) (s:gE) (Q:MQ) (E:MQ),tn i s.heap->Q (.ref it) s->wpAny (hA P w) A (M3<|.ref it) Q E s
abbrev TI:=St->Hp->(It->Hp->Prop)->Prop
noncomputable def O8(X:Cx)(G:MW)(L:St)(I:hH)(R:It->Hp->Prop)(z:gv)(H:gE):Prop:=
 ∃(e:eI) (d:List eI) (f:Nat->h7->Prop) (J:It) (a:Hp),z = .ref e/\Inv X G L a H/\Turn X.prog X.w X.K I J d e f/\f 0 H.heap/\(∀b∈d,Q0 X G a b)/\R J a
noncomputable def PI(X:Cx)(I G:hH)(J:TI):Prop:=
 ∀(a:MW) (s:gE) (b:St) (H:Hp) (R:It->Hp->Prop),Inv X a b H s->J b H R->
  wpAny (hA X.prog X.w) X.A (hX G X.env) (λv d=>wpAny (hA X.prog X.w) X.A (M3 v) (O8 X a b I R) X.xe d) X.xe s
theorem Wj(B:s.heap.get? it=aI o)(G:o.cls = .type n)(H:o.data = .fields vs)
 (I:["enumerate","zip","dict_itemiterator","dict_reverseitemiterator","odict_iterator","itertools.zip_longest","itertools.pairwise"].contains n=dV) (z:Q () s):wpAny M A (MU tg (.ref it) u) Q E s:=by
 unfold MU;cases tg<;>first
  | exact EB z
  | (cases u<;>first
      | exact EB z
      | (refine Eu (wpAny_load B ?_)
         rw[G,H];show wpAny M A (if (["enumerate","zip","dict_itemiterator","dict_reverseitemiterator","odict_iterator","itertools.zip_longest","itertools.pairwise"].contains n && vs[0]? == aI (NS _))=cI then _ else _) Q E s;rw[RQ (by intro h;rw[I,Bool.false_and]at h;cases h)];exact EB z))
noncomputable def P8(K:Es)(a:eI):It:=
 ⟨λi H=>∃b x,kv K H a b/\b[i]? = aI x,λi H x d=>d=H/\∀b,kv K H a b->b[i]? = aI x,λi H=>∃b,kv K H a b/\b.length<=i⟩
noncomputable def P9(K:Es)(a:eI):It:=
 ⟨λi H=>∃b x,l4 K H a b/\b[i]? = aI x,λi H x d=>d=H/\∀b,l4 K H a b->b[i]? = aI x,λi H=>∃b,l4 K H a b/\b.length<=i⟩
noncomputable def G4(lo:Int)(n:Nat):It:=⟨λi _=>i<n,λi H x a=>a=H/\x = .int (lo+i),λi _=>n<=i⟩
theorem Y2{P:i8}{w:i5}{K:Es}{tg:hH}(a it:eI):Turn P w K tg (P8 K a) [it] it (λi h=>h.IsListIter it a i) where
 mem:=by simp
 obj:=λi h st b B=>by
  have e:b=it:=by simpa using B
  subst e;obtain⟨o,e,c,d⟩:=st;exact⟨o,e,λv z=>by rw[d]at z;cases z⟩
 keep:=λi h h' st k=>st.at λo e=>k it ⋯ o e
 item:=by intro X O hw R hc i pins s σ H E I hf st U;subst O hw R;obtain⟨xs,x,hq,hx⟩:=U;obtain⟨a6,W,p,hz⟩:=I.list hq;obtain⟨u,hu,ru⟩:=W.get hx;obtain⟨Y,f1,f2,f3,f4,f5⟩:=hf it ⋯;refine wpAny_pyNext_list_item st p.isList (x:=u) (by simpa using hu) λh' a5 sb=>?_;have I1:Inv X pins σ H {s with heap:=h'}:=I.turned (t':=s.toks) (λb o B e=>(sb.2 b B).trans e) Y f1 f3 f4 f5;obtain⟨o,e,c,d⟩:=id a5;exact⟨u,rfl,Wj (s:={s with heap:=h'}) e c d ⋯ ⟨x,H,I1,ru,⟨rfl,λys hy=>by rw[I.Py hy hq];exact hx⟩,a5,λb B=>(hf b B).1⟩⟩
 done:=by intro X O hw R hc i pins s σ H E I hf st U;subst O hw R;obtain⟨xs,hq,hx⟩:=U;obtain⟨a6,W,p,hz⟩:=I.list hq;obtain⟨Y,f1,f2,f3,f4,f5⟩:=hf it ⋯;have hl:=W.length;exact wpAny_pyNext_list_end (I.ok.hd hc) st p.isList (by simp;omega) λh' eb=>⟨rfl,I.turned (t':=s.toks) (λb o B e=>eb b o B e) Y f1 f3 f4 f5⟩
 self:=λ_ _ _ _ _ st h=>wpAny_pyIter_listiter st h
theorem Yb{P:i8}{w:i5}{K:Es}{tg:hH}(a it:eI):Turn P w K tg (P9 K a) [it] it (λi h=>h.IsTupleIter it a i) where
 mem:=by simp
 obj:=λi h st b B=>by
  have e:b=it:=by simpa using B
  subst e;obtain⟨o,e,c,d⟩:=st;exact⟨o,e,λv z=>by rw[d]at z;cases z⟩
 keep:=λi h h' st k=>st.at λo e=>k it ⋯ o e
 item:=by intro X O hw R hc i pins s σ H E I hf st U;subst O hw R;obtain⟨xs,x,hq,hx⟩:=U;obtain⟨W,Y,p,hz⟩:=I.tuple hq;obtain⟨u,hu,ru⟩:=Y.get hx;obtain⟨f0,f1,f2,f3,f4,f5⟩:=hf it ⋯;refine wpAny_pyNext_tuple_item st (show s.heap.IsTuple a W.toArray from p) (x:=u) (by simpa using hu) λh' a6 sb=>?_;have I1:Inv X pins σ H {s with heap:=h'}:=I.turned (t':=s.toks) (λb o B e=>(sb.2 b B).trans e) f0 f1 f3 f4 f5;obtain⟨o,e,c,d⟩:=id a6;exact⟨u,rfl,Wj (s:={s with heap:=h'}) e c d ⋯ ⟨x,H,I1,ru,⟨rfl,λys hy=>by rw[I.RE hy hq];exact hx⟩,a6,λb B=>(hf b B).1⟩⟩
 done:=by intro X O hw R hc i pins s σ H E I hf st U;subst O hw R;obtain⟨xs,hq,hx⟩:=U;obtain⟨W,Y,p,hz⟩:=I.tuple hq;obtain⟨f0,f1,f2,f3,f4,f5⟩:=hf it ⋯;have hl:=Y.length;exact wpAny_pyNext_tuple_end (I.ok.hd hc) st (show s.heap.IsTuple a W.toArray from p) (by simp;omega) λh' eb=>⟨rfl,I.turned (t':=s.toks) (λb o B e=>eb b o B e) f0 f1 f3 f4 f5⟩
 self:=λ_ _ _ _ _ st h=>wpAny_pyIter_tupleiter st h
theorem Yc{P:i8}{w:i5}{K:Es}{tg:hH}(it:eI)(lo:Int)(n:Nat):Turn P w K tg (G4 lo n) [it] it (λi h=>O5 h it (lo+(i:Nat)*1) ((n:Int) - (i:Nat)) 1) where
 mem:=by simp
 obj:=λi h st b B=>by
  have e:b=it:=by simpa using B
  subst e;exact⟨_,st,λv z=>by have z':Data.fields _=Data.cell v:=z;cases z'⟩
 keep:=λi h h' st k=>k it ⋯ _ st
 item:=by intro X O hw R hc i pins s σ H E I hf st U;subst O hw R;obtain⟨Y,f1,f2,f3,f4,f5⟩:=hf it ⋯;have W:=Walks.range (prog:=X.prog) (w:=X.w) (I.ok.hd hc) it lo 1 n;refine W.item i s _ _ U st λv h' tk hv a5 kk=>?_;obtain⟨t,rfl⟩:=hv;have I1:Inv X pins σ H {s with heap:=h',toks:=tk}:=I.turned (λb o B e=>kk b o (by simpa using B) e) Y f1 f3 f4 f5;refine⟨_,rfl,Wj (s:={s with heap:=h',toks:=tk}) (n:="range_iterator") a5 rfl rfl ⋯ ⟨.int (lo+i),H,I1,⟨t,?_⟩,⟨rfl,rfl⟩,a5,λb B=>(hf b B).1⟩⟩;rw[Int.mul_one]
 done:=by intro X O hw R hc i pins s σ H E I hf st U;subst O hw R;obtain⟨Y,f1,f2,f3,f4,f5⟩:=hf it ⋯;exact S3 (I.ok.hd hc) st (by have:n<=i:=U;omega) λh' eb=>⟨rfl,I.turned (t':=s.toks) (λb o B e=>eb b o B e) Y f1 f3 f4 f5⟩
 self:=λ_ _ _ _ _ st h=>S1 st h
section
variable{X:Cx}{tg:hH}
theorem aM{G:MW}{L:St}{H:Hp}{s:gE}{R:It->Hp->Prop}{E:MQ}{lo hi:Int}{t u v:rk}{J:Nat}(I:Inv X G L H s)(W : -(2 ^ 62)<=lo)(Y:lo<2 ^ 62)(B : -(2 ^ 62)<=hi)(O:hi<2 ^ 62)
 (q:R (G4 lo (hi - lo).toNat) H):wpAny (hA X.prog X.w) X.A (M3 (.ref s.heap.objs.size)) (O8 X G L tg R) E {s with heap:=s.heap.push {cls:= .type "range",data:= .fields #[.int lo t,.int hi u,.int 1 v]},toks:=J}:=by
 refine S0 (IsRange.new ..) (small_one W Y B O) ?_;have z:Inv X G L H {s with heap:=s.heap.push {cls:= .type "range",data:= .fields #[.int lo t,.int hi u,.int 1 v]},toks:=J}:=I.kept λb o e=>Ew _ e;refine⟨(s.heap.push {cls:= .type "range",data:= .fields #[.int lo t,.int hi u,.int 1 v]}).objs.size,[(s.heap.push {cls:= .type "range",data:= .fields #[.int lo t,.int hi u,.int 1 v]}).objs.size],_,_,H,rfl,
  z.kept (t':=J) λb o e=>Ew _ e,Yc _ lo (hi - lo).toNat,?_,λb U=>?_,q⟩
 ·have a:lo+((0:Nat):Int)*1=lo:=by simp
  have d:(((hi - lo).toNat:Nat):Int) - ((0:Nat):Int)=Hz lo hi 1:=by rw[rangeSize_one];split<;>omega
  show O5 _ _ (lo+((0:Nat):Int)*1) ((((hi - lo).toNat:Nat):Int) - ((0:Nat):Int)) 1;rw[a,d];exact ET _ rfl
 ·have e:b=(s.heap.push {cls:= .type "range",data:= .fields #[.int lo t,.int hi u,.int 1 v]}).objs.size:=by simpa using U
  subst e;exact z.MR (EF _)<|z.h8.fresh<|EF _
noncomputable def uR(G:TA):TI:=λd H R=>G d H λb a=>∃j:Int,b=[.int j]/\ -(2 ^ 62)<=j/\j<2 ^ 62/\R (G4 0 j.toNat) a
theorem VH{a:hH}{G:TA}{p pos:ik}(B:Gl X "range")(L:X.mg "range" = cS)(J:PA X [a] G)(hs:i0 [a] X.env=[(dV,hX a X.env)]:=by rfl):PI X tg (.Call (.Name "range" p) [a] [] pos) (uR G):=by
 intro b s f H R I h;refine Call_<|xO I B L boot_range<|Gz (ij (J pos b s f H _ I h) λl i O=>?_) hs rfl;obtain⟨m,g,U,W,z⟩:=O;obtain⟨j,e,z,Y,q⟩:=z;subst e;cases W with
 | cons r d=>
  cases d;obtain⟨t,rfl⟩:=r;exact call_range_1 (aM U ⋯ ⋯ z Y<|by simpa using q)
noncomputable def Co(I:TI)(g:TG)(G:TS):TS:=λD a H=>I a H λJ f=>∃W:Nat->Nat->St->Hp->Prop,(∃m,W 0 m a f)/\∀i m a H,W i m a H->
 (J.stop i H/\D.nx a H)\/(J.go i H/\∃N:St->Hp->Prop,(∀d b,N d b->∃e,e<m/\W (i+1) e d b)/\∀x b,J.C8 i H x b->g x a b λz h=>G {D with nx:=N,ct:=N,bk:=D.nx} z h)
noncomputable def Z6(fp:List eI)(h:h7):List (eI×n0):=fp.filterMap λb=>(h.get? b).map λo=>(b,o)
theorem xq(z:b∈fp)(e:h.get? b=aI o):(b,o)∈Z6 fp h:=HS.mpr ⟨b,z,by rw[e];rfl⟩
theorem VX(G:p∈Z6 fp h):p.1∈fp/\h.get? p.1=aI p.2:=by
 obtain⟨b,z,e⟩:=HS.mp G;cases q:h.get? b with
 | none=>rw[q]at e;cases e
 | some o=>
  rw[q]at e;have B:(b,o)=p:=Ff e;subst B;exact⟨z,q⟩
theorem Inv.pinned(I:Inv X pins σ H s)(G : ∀b∈fp,Q0 X pins H b)(R : ∀b∈fp,∃o,s.heap.get? b=aI o/\∀v,o.data ≠ .cell v):Inv X (pins++Z6 fp s.heap) σ H s:=
 I.Rr λp a=>(Fm.mp a).elim (λz=>I.pin p<|EW _ z) λz=>by obtain⟨B,e⟩:=VX z;obtain⟨U,W,Y,_⟩:=G p.1 B;obtain⟨o,O,d⟩:=R p.1 B;rw[e]at O;cases O;exact⟨e,U,W,Y,d⟩
theorem Inv.M6(I:Inv X (pins++pl) σ H s):Inv X pins σ H s:=I.Rr λp a=>I.pin p<|EW _<|Lr _ a
theorem du(G:Pa (hA X.prog X.w) X.A X.env X.xe)(hc:X.calm=cI)(hi:PI X tg iter wi)(hg:PG X tg g)(z:tF X body tb)
 (hs : ∀x,AR iter X.env x=pure x:=by intro _;rfl):PS X (.For tg iter body [] pos) (Co wi g tb):=by
 intro a s σ H D I h;refine wpAny_For (ij (hi a s σ H _ I h) λv s1 h1=>ij h1 λca s2 h2=>?_) hs;obtain⟨it,t,tn,J,H2,e,I2,T,as,f2,W,⟨m0,w0⟩,b0⟩:=h2;subst e;have K : ∀{p:Hp},(∀b∈t,p b=cS)->∀b∈t,Q0 X a p b:=λhn b z=>⟨hn b z,(f2 b z).2⟩;refine codeAny_forLoop_any (λn s'=>∃i j p,Inv X a j p s'/\tn i s'.heap/\(∀b∈t,p b=cS)/\W i n j p) ?_ m0 ⟨0,σ,H2,I2,as,λb z=>(f2 b z).1,w0⟩;rintro n s3 ⟨i,l,F,Z,C,ak,w3⟩;rcases b0 i n l F w3 with⟨E,qn⟩ | ⟨go,N,hN,step⟩
 ·refine IW G (ij (T.done X rfl rfl rfl hc i a s3 l F X.xe Z (K ak) C E) λr s4 Y=>?_)
  obtain⟨M,I4⟩:=Y;subst M;exact IY ⟨l,F,I4,qn⟩
 ·refine IW G (ij (T.item X rfl rfl rfl hc i a s3 l F X.xe Z (K ak) C go) λr s4 Y=>?_)
  obtain⟨u,M,h4⟩:=Y;subst M;refine IW G<|ij h4 λ_ s5 Y=>?_;obtain⟨x,S,I5,r5,y5,L,c1⟩:=Y;have c2:=I5.pinned (K c1)<|T.obj _ _ L;refine IW G<|ij (hg _ s5 l S x u _ c2 r5<|step x S y5) λ_ s6 Y=>?_;obtain⟨Q,H6,I6,q6⟩:=Y;refine IW G<|ij (z _ s6 Q H6 _ I6 q6) λf P U=>?_;have again : ∀{B:St} {O:Hp},Inv X (a++Z6 t s5.heap) B O P->N B O->∃m,m<n/\∃i j p,Inv X a j p P/\tn i P.heap/\(∀b∈t,p b=cS)/\W i m j p:=λ{B O} R y=>by obtain⟨m',hm,w7⟩:=hN B O y;refine⟨m',hm,i+1,B,O,R.M6,T.keep _ _ _ L λb z o e=>(R.pin (b,o)<|EW _<|EW _<|xq z e).1,λb z=>?_,w7⟩;obtain⟨o,e,d⟩:=T.obj _ _ L b z;exact(R.pin (b,o)<|EW _<|EW _<|xq z e).2.1
  cases f with
  | next=>obtain⟨B,O,R,y⟩:=U;exact again R y
  | cont=>obtain⟨B,O,R,y⟩:=U;exact again R y
  | brk=>obtain⟨B,O,R,U⟩:=U;exact⟨B,O,R.M6,U⟩
  | ret v=>obtain⟨x7,B,O,R,r7,U⟩:=U;exact⟨x7,B,O,R.M6,r7,U⟩
end
theorem QH{lo:Int}{n:Nat}{g:TG}{Z:TS}{D:Ends}{G:St}{H:Hp}(z:Nat->St->Hp->Prop)(h0:z 0 G H)
 (hs : ∀i G H,i<n->z i G H->g (.int<|lo+i) G H λB O=>Z {D with nx:=z<|i+1,ct:=z<|i+1,bk:=D.nx} B O) (hd : ∀G H,z n G H->D.nx G H) :
 ∃W:Nat->Nat->St->Hp->Prop,(∃m,W 0 m G H)/\∀i m G H,W i m G H->
  ((G4 lo n).stop i H/\D.nx G H)\/((G4 lo n).go i H/\∃N:St->Hp->Prop,(∀L J,N L J->∃Y,Y<m/\W (i+1) Y L J)/\∀x J,(G4 lo n).C8 i H x J->g x G J λB O=>Z {D with nx:=N,ct:=N,bk:=D.nx} B O):=by
 refine⟨λi m G H=>m=n - i/\i<=n/\z i G H,⟨n,by simp,He _,h0⟩,?_⟩;rintro i m G H ⟨rfl,b,p⟩;by_cases I:i<n
 ·refine .inr ⟨I,z<|i+1,λL J a=>⟨n - (i+1),by omega,rfl,I,a⟩,λx J y=>?_⟩
  obtain⟨e,y⟩:=y;subst e y;exact hs i G _ I p
 ·have e:i=n:=by omega
  subst e;exact .inl ⟨EF _,hd G H p⟩
abbrev R2:=V->V->Hp->VK->Prop
noncomputable def l9(X:Cx)(f:gv->gv->m6 gv)(r:R2):Prop:=
 ∀(a:MW) (s:gE) (b:St) (H:Hp) (x y:V) (v u:gv) (Q:VK),Inv X a b H s->RelV x v->RelV y u->r x y H Q->
  wpAny (hA X.prog X.w) X.A (f v u) (EP X a b Q) X.xe s
noncomputable def Pd(X:Cx)(f:gv->m6 gv)(r:V->Hp->VK->Prop):Prop:=
 ∀(a:MW) (s:gE) (b:St) (H:Hp) (x:V) (v:gv) (Q:VK),Inv X a b H s->RelV x v->r x H Q->
  wpAny (hA X.prog X.w) X.A (f v) (EP X a b Q) X.xe s
noncomputable def wA(X:Cx)(f:gv)(r:List V->Hp->VK->Prop):Prop:=
 ∀(a:MW) (s:gE) (e:St) (H:Hp) (d:List V) (b:List gv) (Q:VK),Inv X a e H s->i4 d b->r d H Q->
  wpAny (hA X.prog X.w) X.A (call f b) (EP X a e Q) X.xe s
noncomputable def N1(r:R2)(G I:TE):TE:=λa H Q=>G a H λx b=>I a b λy d=>r x y d Q
noncomputable def SI(r:V->Hp->VK->Prop)(G:TE):TE:=λb H Q=>G b H λx a=>r x a Q
noncomputable def rI(C:Int->Int->Prop)(g:Int->Int->V):R2:=λx y H Q=>∃i j,x = .int i/\y = .int j/\C i j/\Q (g i j) H
noncomputable def A6(g:Int->Int->V):R2:=λx y H Q=>∃i j,x = .int i/\y = .int j/\Q (g i j) H
noncomputable def rU(g:Int->V):V->Hp->VK->Prop:=λx H Q=>∃i,x = .int i/\Q (g i) H
section
variable{X:Cx}{a b c:hH}{ta tb tc:TE}{pos:ik}
theorem An(ha:PE X a ta)(B:PE X b tb){G:MW}{s:gE}{L:St}{H:Hp}{R:V->V->Hp->Prop}(I:Inv X G L H s)
 (h:ta L H λx H1=>tb L H1 λy J=>R x y J) {Q:MQ} {f:gv->gv->m6 gv}
 (hf : ∀v u Z x y J,Inv X G L J Z->RelV x v->RelV y u->R x y J->wpAny (hA X.prog X.w) X.A (f v u) Q X.xe Z) :
 wpAny (hA X.prog X.w) X.A (hX a X.env) (λv O=>wpAny (hA X.prog X.w) X.A (hX b X.env) (λu U=>wpAny (hA X.prog X.w) X.A (f v u) Q X.xe U) X.xe O) X.xe s:=by
 refine ij (ha G s L H _ I h) λv j z=>?_;obtain⟨x,H1,W,Y,e⟩:=z;refine ij (B G j L H1 _ W e) λu Z z=>?_;obtain⟨y,J,d,i,g⟩:=z;exact hf v u Z x y J d Y i g
theorem gQ{z:Operator}{r:R2}(B:l9 X (De z) r)(G:PE X a ta)(O:PE X b tb):PE X (.BinOp a z b pos) (N1 r ta tb):=by intro d s g H Q I h;exact wpAny_BinOp<|An G O I h λv u f x y e R rx U q=>B d f g e x y v u Q R rx U q
theorem uC(z:Pd X (unaryOp op) r)(G:PE X a ta):PE X (.UnaryOp op a pos) (SI r ta):=by intro b s d H Q I h;exact UnaryOp_<|ij (G b s d H _ I h) λv f ⟨x,e,B,O,R⟩=>z b f d e x v Q B O R
theorem OO{f:gv->gv->m6 gv}{C:Int->Int->Prop}{g:Int->Int->Int}
 (rule : ∀(i j:Int) (t u:rk) (s:gE) (Q:MQ) (E:MQ),C i j->Q (.int (g i j) s.toks) {s with toks:=s.toks+1}->wpAny (hA X.prog X.w) X.A (f (.int i t)<|.int j u) Q E s) :
 l9 X f (rI C λi j=> .int (g i j)):=by
 intro a s e H x y v u Q I rx z h;obtain⟨i,j,rfl,rfl,b,q⟩:=h;obtain⟨t,rfl⟩:=rx;obtain⟨d,rfl⟩:=z;exact rule i j t d s _ _ b ⟨.int<|g i j,H,I.tok _,⟨_,rfl⟩,q⟩
theorem Bm{f:gv->gv->m6 gv}{g:Int->Int->Int}
 (rule : ∀(i j:Int) (t u:rk) (s:gE) (Q:MQ) (E:MQ),Q (.int (g i j) s.toks) {s with toks:=s.toks+1}->wpAny (hA X.prog X.w) X.A (f (.int i t)<|.int j u) Q E s) :
 l9 X f (A6 λi j=> .int (g i j)):=by
 intro a s d H x y v u Q I rx z h;obtain⟨i,j,rfl,rfl,q⟩:=h;obtain⟨t,rfl⟩:=rx;obtain⟨b,rfl⟩:=z;exact rule i j t b s _ _ ⟨.int<|g i j,H,I.tok _,⟨_,rfl⟩,q⟩
theorem rC{f:gv->gv->m6 gv}{g:Int->Int->Bool}
 (rule : ∀(i j:Int) (t u:rk) (s:gE) (Q:MQ) (E:MQ),Q (.bool<|g i j) s->wpAny (hA X.prog X.w) X.A (f (.int i t)<|.int j u) Q E s) :
 l9 X f (A6 λi j=> .bl (g i j)):=by
 intro a s d H x y v u Q I rx z h;obtain⟨i,j,rfl,rfl,q⟩:=h;obtain⟨t,rfl⟩:=rx;obtain⟨b,rfl⟩:=z;exact rule i j t b s _ _ ⟨.bl<|g i j,H,I,rfl,q⟩
def BY(i j:Int):Prop:=0<j/\j<1073741824
def BX(i j:Int):Prop:=0<=j/\j<=1000000/\i.natAbs<2 ^ 64
noncomputable def L7(i j:Int):Prop:=(-(2 ^ 64)<i/\i<2 ^ 64)\/(-(2 ^ 64)<j/\j<2 ^ 64)
theorem L7.ok(h:L7 i j):IntMulOk i j:=by
 rcases h with⟨a,b⟩ | ⟨a,b⟩
 ·exact .of_left<|intBits_le_64 a b
 ·exact .of_right<|intBits_le_64 a b
theorem Sr:l9 X (De .Add) (A6 λi j=> .int (i+j)):=Bm λ_ _ _ _ _ _ _ q=>add_int q
theorem nZ:l9 X (De .Sub) (A6 λi j=> .int (i - j)):=Bm λ_ _ _ _ _ _ _ q=>sub_int q
theorem Ss:l9 X (De .Mult) (rI L7 λi j=> .int (i*j)):=OO λ_ _ _ _ _ _ _ a q=>mul_int q a.ok
theorem gT:l9 X (De .FloorDiv) (rI BY λi j=> .int (i/j)):=OO λi j _ _ _ _ _ a q=>by have b:(0:Int)<j:=a.1;have d:j<1073741824:=a.2;exact floordiv_int ⋯ (by rw[Int.fdiv_eq_ediv_of_nonneg i ⋯];exact q)<|.inl<|PyProof.noPylong_small ⋯
theorem oh:l9 X (De .Mod) (rI (λ_ j=>0<j) λi j=> .int (i%j)):=OO λi j _ _ _ _ _ a q=>by have b:(0:Int)<j:=a;exact mod_int' ⋯ (by rw[Int.fmod_eq_emod_of_nonneg i ⋯];exact q)
theorem og:l9 X (De .Pow) (rI BX λi j=> .int (i ^ j.toNat)):=OO λ_ _ _ _ _ _ _ a q=>pow_int_small a.1 a.2.1 a.2.2 q
theorem SM{f:gv->m6 gv}{g:Int->Int}
 (rule : ∀(i:Int) (t:rk) (s:gE) (Q:MQ) (E:MQ),Q (.int (g i) s.toks) {s with toks:=s.toks+1}->wpAny (hA X.prog X.w) X.A (f<|.int i t) Q E s) :
 Pd X f (rU λi=> .int (g i)):=by
 intro a s b H x v Q I rx h;obtain⟨i,rfl,q⟩:=h;obtain⟨t,rfl⟩:=rx;exact rule i t s _ _ ⟨.int<|g i,H,I.tok _,⟨_,rfl⟩,q⟩
theorem lY:Pd X (unaryOp .USub) (rU λi=> .int (-i)):=SM λ_ _ _ _ _ q=>neg_int q
end
section
variable{X:Cx}{a b c:hH}{ta tb tc:TE}{pos:ik}
theorem eM(I:Inv X pins σ H s)(q:Q (.bl k) H)(e:k=k'):EP X pins σ Q (.bool k') s:=by subst e;exact⟨.bl k,H,I,rfl,q⟩
theorem oi:l9 X (rp .Lt) (A6 λi j=> .bl (decide<|i<j)):=rC λ_ _ _ _ _ _ _ q=>lt_int q
theorem VQ:l9 X (rp .LtE) (A6 λi j=> .bl (decide<|i<=j)):=rC λ_ _ _ _ _ _ _ q=>le_int q
theorem oo:l9 X (rp .Gt) (A6 λi j=> .bl (decide<|j<i)):=rC λ_ _ _ _ _ _ _ q=>gt_int q
theorem uG:l9 X (rp .GtE) (A6 λi j=> .bl (decide<|j<=i)):=rC λ_ _ _ _ _ _ _ q=>ge_int q
theorem VR:l9 X (rp .In) (λx y H Q=>∃i j,x = .str i/\y = .str j/\Q (.bl<|!(FZ j i 0 j.length 1).isEmpty) H):=by intro a s d H x y v u Q I rx z h;obtain⟨i,j,rfl,rfl,q⟩:=h;obtain⟨t,rfl⟩:=rx;obtain⟨b,rfl⟩:=z;exact in_str<|eM I q rfl
theorem oj:l9 X (rp .Is) (λx y H Q=>y = .ih/\Q (.bl<|decide<|x = .ih) H):=by
 intro a s b H x y v u Q I rx z h;obtain⟨rfl,q⟩:=h;cases z;refine is_none_gen<|eM I q ?_;cases x<;>first
  | (cases rx;rfl)
  | (obtain⟨t,rfl⟩:=rx;rfl)
def uP:HO->Bool
 | .lst _=>cI
 | .ins _ _ _=>cI
 | _=>dV
theorem qJ{G:MW}{s:gE}{J:St}{H:Hp}{a:eI}{o:HO}(I:Inv X G J H s)(h:H a=aI o)(p:uP o=cI) : ∃O,s.heap.get? a=aI O/\O.cls ≠ .type "tuple":=by
 cases o with
 | lst b=>
  obtain⟨_,B,n,_,e⟩:b.length<=j3/\∃(B:List gv) (n:Nat),i4 b B/\s.heap.get? a=aI {cls:= .type "list",data:= .seq B.toArray n}:=I.h8 a _ h;exact⟨_,e,(by show HF "list" ≠ .type "tuple";decide +kernel)⟩
 | ins C d fs=>
  have x:=I.h8 a _ h;obtain⟨_,_,_,e,_⟩:=x;exact⟨_,e,(by show EO C ≠ .type "tuple";exact λz=>by cases z)⟩
 | _=>exact absurd (show dV=cI from p) ES
theorem l9.or(h:l9 X f r)(h':l9 X f r'):l9 X f (λx y H Q=>r x y H Q\/r' x y H Q):=by
 intro a s b H x y v u Q I rx z q;rcases q with q | q
 ·exact h a s b H x y v u Q I rx z q
 ·exact h' a s b H x y v u Q I rx z q
theorem kZ(b:hH)(h:op ≠ .In:=by decide)(G:op ≠ .NotIn:=by decide):Ds op b=dV:=by
 have a:(op==CmpOp.In)=dV:=by cases op<;>first | rfl | exact absurd rfl h
 have d:(op==CmpOp.NotIn)=dV:=by cases op<;>first | rfl | exact absurd rfl G
 cases b<;>simp[Ds,a,d]
theorem JE{z:CmpOp}{r:R2}(B:l9 X (rp z) r)(G:PE X a ta)(O:PE X b tb)(J:Ds z b=dV):PE X (.Compare a [z] [b] pos) (N1 r ta tb):=by intro d s g H Q I h;exact wpAny_Compare1 (An G O I h λv u f x y e R rx U q=>B d f g e x y v u Q R rx U q) J
def mj(t:TE):TT:=λb H Q=>t b H λx a=>∃k,x = .bl k/\Q k a
theorem Jz(B:l9 X (rp op) r)(G:PE X a ta)(O:PE X b tb)(J:Ds op b=dV):PT X (.Compare a [op] [b] pos) (mj<|N1 r ta tb):=by
 intro d s f H Q I h;refine wpAny_isTrue_Compare1 (ij (G d s f H _ I h) λv t ⟨x,g,R,U,W⟩=>ij (O d t f g _ R W) λu w ⟨y,i,Y,o,m⟩=>
  ij (B d w f i x y v u _ Y U o m) λc A ⟨z,j,l,p,k,e,n⟩=>?_) J
 subst e;cases p;exact Gv ⟨j,l,n⟩
noncomputable def cT(r I:R2)(ta tb tc:TE):TE:=λa H Q=>ta a H λx b=>tb a b λy d=>r x y d λz B=>∃k,z = .bl k/\
 (if k=cI then tc a B λe O=>I y e O Q else Q (.bl dV) B)
theorem bp(W:l9 X (rp op) r)(Y:l9 X (rp NO) r')(G:PE X a ta)(J:PE X b tb)(L:PE X c tc)
 (Z:Pw [op,NO] [b,c]=dV:=by with_unfolding_all rfl):PE X (.Compare a [op,NO] [b,c] pos) (cT r r' ta tb tc):=by
 intro f s g H Q I h;refine Compare_chain (ij (G f s g H _ I h) λv F ⟨x,i,m,A,p⟩=>chain_link (ij (J f F g i _ m p) λu K ⟨y,j,n,B,t⟩=>
  ij (W f K g j x y v u _ n A B t) λd M ⟨z,O,R,C,k,e,U⟩=>?_)) Z
 subst e;cases C;refine Gv ?_;cases k with
 | false=>exact ite_ff ⟨.bl dV,O,R,rfl,U⟩
 | true=>exact ite_tt<|chain_last<|ij (L f M g O _ R U) λP N ⟨S,l,o,E,w⟩=>Y f N g l y S u P Q o B E w
theorem aU{B O:CmpOp}{r R:R2}(ho:l9 X (rp B) r)(G:l9 X (rp O) R)(J:PE X a ta)(L:PE X b tb)(Z:PE X c tc)
 (hm:Pw [B,O] [b,c]=dV:=by with_unfolding_all rfl):PT X (.Compare a [B,O] [b,c] pos) (mj<|cT r R ta tb tc):=by
 intro f s g H Q I h;refine isTrue_chain (ij (J f s g H _ I h) λv s1 ⟨x,j,o,P,F⟩=>test_link (ij (L f s1 g j _ o F) λu s2 ⟨y,l,p,U,K⟩=>
  ij (ho f s2 g l x y v u _ p P U K) λd s3 ⟨z,W,Y,S,k,e,i⟩=>?_)) hm
 subst e;cases S;refine Gv ?_;cases k with
 | false=>
  obtain⟨k',A,E⟩:=i;cases A;exact ite_ff ⟨W,Y,E⟩
 | true=>
  refine ite_tt<|test_last<|ij (Z f s3 g W _ Y i) λw' s4 ⟨z',m,t,T,M⟩=>ij (G f s4 g m y z' u w' _ t U T M) λd' s5 ⟨z2,n,w,r5,k2,C,N⟩=>?_;subst C;cases r5;exact Gv ⟨n,w,N⟩
theorem Qw:(j3:Nat)<2 ^ 63:=by rw[GY];decide
theorem Yv:l9 X (De .Add) (λx y H Q=>∃i j,x = .str i/\y = .str j/\i.length+j.length<=j3/\Q (.str<|i++j) H):=by intro a s e H x y v u Q I rx z h;obtain⟨i,j,rfl,rfl,B,q⟩:=h;obtain⟨t,rfl⟩:=rx;obtain⟨b,rfl⟩:=z;exact add_str (λb d=>⟨.str<|i++j,H,I.tok _,⟨_,rfl⟩,q⟩) B
theorem kO(r:i4 [x] us) : ∃u,us=[u]/\RelV x u:=by
 cases r with
 | cons z B=>cases B;exact⟨_,rfl,z⟩
theorem lX(r:i4 [x,y] us) : ∃u G,us=[u,G]/\RelV x u/\RelV y G:=by
 cases r with
 | cons z B=>
  cases B with
  | cons I O=>cases O;exact⟨_,_,rfl,z,I⟩
theorem WI(G:X.calm=cI):wA X (.builtin "max") (λxs H Q=>∃i j,xs=[.int i,.int j]/\Q (.int (if j>i then j else i)) H):=by
 intro a s l H xs f Q I r h;obtain⟨i,j,rfl,q⟩:=h;obtain⟨u,g,rfl,⟨t,rfl⟩,⟨d,rfl⟩⟩:=lX r;refine max_two_ints (I.ok.hd G) λb e k=>⟨_,H,I.kept k,?_,q⟩;by_cases z:j>i
 ·rw[MY z,MY z];exact⟨_,rfl⟩
 ·rw[RQ z,RQ z];exact⟨_,rfl⟩
theorem WK:wA X (.type "int") (λxs H Q=>(∃i,xs=[.int i]/\Q (.int i) H)\/∃k,xs=[.bl k]/\Q (.int (if k then 1 else 0)) H):=by
 intro a s d H xs b Q I r h;rcases h with⟨i,rfl,q⟩ | ⟨k,rfl,q⟩
 ·obtain⟨u,rfl,t,rfl⟩:=kO r
  exact call_int_int ⟨.int i,H,I,⟨_,rfl⟩,q⟩
 ·obtain⟨u,rfl,z⟩:=kO r
  cases z;exact call_int_bool ⟨.int<|if k then 1 else 0,H,I.tok _,⟨_,rfl⟩,q⟩
theorem QN:wA X (.type "str") (λxs H Q=>∃i,xs=[.int i]/\i.natAbs.log2<1920/\Q (.str (toString i)) H):=by intro a s d H xs b Q I r h;obtain⟨i,rfl,z,q⟩:=h;obtain⟨u,rfl,t,rfl⟩:=kO r;exact PySem.P.str_of_int z ⟨.str _,H,I.tok _,⟨_,rfl⟩,q⟩
end
structure O7(h:h7)(x dx C:eI)(mA:MJ):Prop where
 obj:h.get? x=aI (PySem.W.instObj C dx)
 ns:h.Ns1 dx mA
 ne:dx≠x
theorem V2{h:h7}{G:eI}{H:MJ}(n:h.Ns1 G H) : ∃od,h.get? G=aI od/\∀name,PySem.W.lookIn name od=aI (H name):=by
 obtain⟨o,b,U,B,d,f,_,g⟩:=n;refine⟨o,B,λname=>?_⟩;have e:=g name;unfold nsFind findBy at e;rw[<- Array.find?_toList]at e;unfold PySem.W.lookIn;rw[d];dsimp only;split
 ·rename_i y q
  rw[q]at e;exact congrArg aI e
 ·rename_i q
  rw[q]at e;have a:b.toList.any (·.refKey)=dV:=by rw[List.any_eq_false];intro y I;obtain⟨z,t,O⟩:=f y<|Array.mem_toList_iff.mp I;simp[DictEntry.refKey,O]
  have R : ¬b.toList.any (·.refKey)=cI:=by rw[a];exact ES
  rw[RQ R];exact congrArg aI e
theorem O7.look(I:O7 h x dx C mA) : ∃od,PySem.W.InstAt h x (PySem.W.instObj C dx) C (aI od)/\∀name,PySem.W.lookIn name od=aI (mA name):=
 let ⟨od,z,a⟩:=V2 I.ns
 ⟨od,⟨I.obj,rfl,rfl,z⟩,a⟩
noncomputable def uy(f:Str)(v:V):List (Str×V)->List (Str×V)
 | []=>[(f,v)]
 | (g,x)::r=>if g=f then (g,v)::r else (g,x)::uy f v r
theorem DQ.some_of(r:DQ (aI v) o) : ∃u,o=aI u/\RelV v u:=by
 cases o with
 | none=>exact(show False from r).elim
 | some u=>exact⟨u,rfl,r⟩
section
variable{P:i8}{w:i5}{H H':Hp}{h h':h7}{a C dx:eI}{fs Sa:List (Str×V)}
theorem Wb(G:m5 P w H h)(e:H a=aI (.ins C dx fs)) : ∃mA,O7 h a dx C mA/\(∀f,DQ (fs.lookup f)<|mA f)/\Md mA (fs.map (·.1))/\fs.length<=1000/\H dx=aI (.own a):=by obtain⟨d,z,b,B,mA,n,r,q⟩:=(show l6 P w H h a (.ins C dx fs)from G a _ e);exact⟨mA,⟨B,n,b⟩,r,q,z,d⟩
end
structure N9(K:Es)(C:eI):Prop where
 pg:LW K C EU=cI
 hd:PySem.W.hasDictIn K C=cI
 po:PySem.W.plainOver K C=cI
 sa:Fx K (.ref C) "__setattr__" = aI (aI (.builtin "object.__setattr__"))
theorem N9.get{K:Es}{C:eI}(c:N9 K C)(f:Str):LW K C f=cI:=c.pg
section
variable{X:Cx}{pins:MW}{σ:St}{H:Hp}{s:gE}{a C dx:eI}{fs:List (Str×V)}{f:Str}{v:V}{A:l7}{E:MQ}
theorem iT(z:G9 e f env (hX e env)=hX e env)
 (h:wpAny (hA prog w) A (hX e env) (λo B=>wpAny (hA prog w) A (getAttr o f cI) Q E B) E s):wpAny (hA prog w) A (hX (.Attribute e f pos) env) Q E s:=
 Attribute_any_ h (by rw[arm_eval_Attribute,z])
end
section
variable{X:Cx}{pins:MW}{σ:St}{H:Hp}{s:gE}{A:l7}{E:MQ}{Q:MQ}{c:gv}{b:Bool}
inductive C3(K:Es)(H:Hp):V->gv->Prop where
 | ih:C3 K H .ih (.type "NoneType")
 | bl (x:Bool):C3 K H (.bl x) (.type "bool")
 | int (i:Int):C3 K H (.int i) (.type "int")
 | str (x:Str):C3 K H (.str x) (.type "str")
 | MP (x:UInt64):C3 K H (.MP x) (.type "float")
 | lst {a:eI} {xs:List V} (e:H a=aI (.lst xs)):C3 K H (.ref a) (.type "list")
 | xA {a:eI} {o:n0} {xs:List V} (e:H a=aI (.xA o (.lst xs))):C3 K H (.ref a) (.type "list")
 | tup {a:eI} {xs:List V} (e:H a=aI (.tup xs)):C3 K H (.ref a) (.type "tuple")
 | dK {a:eI} {p9:List (Key×V)} (e:H a=aI (.dK p9)):C3 K H (.ref a) (.type "dict")
 | dT {a:eI} {p9:List (List Key×V)} (e:H a=aI (.dT p9)):C3 K H (.ref a) (.type "dict")
 | ins {a C dx:eI} {fs:List (Str×V)} (e:H a=aI (.ins C dx fs)) (cl:N9 K C) (ha:Fx K (.ref C) "__class__" = aI (aI (.builtin "object.__class__")))
  (hn:HW K (.builtin "object.__class__") "__get__" = aI (aI (.builtin "getset_descriptor.__get__"))) (Rm:PySem.W.takesIn K (.builtin "object.__class__")=aI cI)
  (hm:Fo K C (.type "object")=aI cI):C3 K H (.ref a) (.ref C)
theorem V9(I:Inv X pins σ H s)(rx:RelV x u)(ty:C3 X.K H x t)(e:Fw X.K t c=aI b)(h : ∀Y,Q (.bool b) {s with toks:=Y}) :
 wpAny (hA X.prog X.w) A (call (.builtin "isinstance") [u,c]) Q E s:=by
 cases ty with
 | ih=>cases (show u=Gk from rx);exact EZ LI I.i9 Ga e (λz=>nomatch z) h
 | bl y=>cases (show u=La y from rx);exact EZ LJ I.i9 Ga e (λz=>nomatch z) h
 | int i=>obtain⟨t,q⟩:=(show ∃t,u=IB i t from rx);cases q;exact EZ LY I.i9 Ga e (λz=>nomatch z) h
 | str y=>obtain⟨t,q⟩:=(show ∃t,u=Ln y t from rx);cases q;exact EZ LX I.i9 Ga e (λz=>nomatch z) h
 | MP y=>obtain⟨t,q⟩:=(show ∃t,u=Value.float y t from rx);cases q;exact EZ PySem.W.kitx_float I.i9 Ga e (λz=>nomatch z) h
 | @lst a g B=>
  cases (show u=EO a from rx);obtain⟨_,_,n,_,d⟩:=(show l6 X.prog X.w H s.heap a (.lst g)from I.h8 a _ B);exact EZ O4 I.i9 ⟨_,d,rfl⟩ e (λz=>nomatch z) h
 | @xA a R g B=>
  cases (show u=EO a from rx);obtain⟨_,_,_,n,_,d⟩:=(show l6 X.prog X.w H s.heap a (.xA R<|.lst g)from I.h8 a _ B);exact EZ O4 I.i9 ⟨_,d,rfl⟩ e (λz=>nomatch z) h
 | @tup a g B=>
  cases (show u=EO a from rx);obtain⟨_,_,_,p⟩:=(show l6 X.prog X.w H s.heap a (.tup g)from I.h8 a _ B);obtain⟨o,d,j,_⟩:=p;exact EZ Lu I.i9 ⟨o,d,(Prod.mk.inj j).1⟩ e (λz=>nomatch z) h
 | @dK a f B=>
  cases (show u=EO a from rx);obtain⟨_,_,S,_,p⟩:=(show l6 X.prog X.w H s.heap a (.dK f)from I.h8 a _ B);obtain⟨o,r,U,d,j,_⟩:=p;exact EZ Hk I.i9 ⟨o,d,j.1⟩ e (λz=>nomatch z) h
 | @dT a f B=>
  cases (show u=EO a from rx);obtain⟨_,_,g,_,o,r,U,d,j,_⟩:=(show l6 X.prog X.w H s.heap a (.dT f)from I.h8 a _ B);exact EZ Hk I.i9 ⟨o,d,j.1⟩ e (λz=>nomatch z) h
 | @ins a C M fs B m F L l G=>
  cases (show u=EO a from rx);obtain⟨N,O,_⟩:=Wb I.h8 B;obtain⟨P,J,_⟩:=O.look;exact EZ (PySem.W.kitx_own (m.get _) m.hd F L l G) I.i9 J e (λz=>nomatch z) h
end
structure sx(k:Nat)(A:l7):Prop where
 hd:A.handled=cS
 dp:A.depth+3*k+5<PL
 un:A.units+16*k+200<Dt
theorem sx.mono(r:sx k A)(h:j<=k):sx j A:=⟨r.hd,by have:=r.dp;omega,by have:=r.un;omega⟩
theorem sx.deeper(r:sx (k+1) A)(env:l0):sx k (A.deeper env):=
 ⟨r.hd,by have:=r.dp;show A.depth+1+3*k+5<_;omega,by have:=r.un;show A.units+3+16*k+200<_;omega⟩
theorem Z8{A:l7}{C:eI}{G:List gv}{z:List (Str×gv)}:(A.under (.builtin "type.__call__" ⟨.ref C::G,z⟩)).depth=A.depth+1:=by first | rfl | simp[Around.under,Code.weight,Code.isCreation,Code.isGuard,Code.isCaller,Code.frames,Code.isFrame,guardIds]
theorem Z7{A:l7}{C:eI}{G:List gv}{z:List (Str×gv)}:(A.under (.builtin "type.__call__" ⟨.ref C::G,z⟩)).units=A.units+1:=by first | rfl | simp[Around.under,Code.cUnits,Code.frames,Code.isFrame]
theorem sx.make(r:sx (k+1) A)(C:eI)(G:List gv)(z:List (Str×gv)):sx k (A.under (.builtin "type.__call__" ⟨.ref C::G,z⟩)):=
 ⟨r.hd,by have:=r.dp;rw[Z8];omega,by have:=r.un;rw[Z7];omega⟩
theorem sx.depth(r:sx k A):A.depth<PL:=by have:=r.dp;omega
def AV:TA:=λ_ H Q=>Q [] H
noncomputable def mn(G:TE)(z:TA):TA:=λa H Q=>G a H λx b=>z a b λe d=>Q (x::e) d
section
variable{X:Cx}{e:hH}{es:List hH}{te:TE}{t:TA}{pos:ik}
theorem j9:PA X [] AV:=λ_ _ _ _ H Q I h=>GG ⟨[],H,I,.nil,h⟩
theorem jk(G:PE X e te)(z:PA X es t)(hs:i0 (e::es) X.env=(dV,hX e X.env)::i0 es X.env:=by rfl):PA X (e::es) (mn te t):=by intro pos a s b H Q I h;rw[hs];show wpAny _ _ (A7 ((dV,hX e X.env)::ov pos (i0 es X.env))) _ _ s;refine Fg<|ij (G a s b H _ I h) λu i B=>?_;obtain⟨x,d,O,R,U⟩:=B;exact ij (z pos a i b d _ O U) λm l ⟨j,f,W,Y,g⟩=>⟨x::j,f,W,.cons R Y,g⟩
noncomputable def Cf(t:TA):TE:=λd H Q=>t d H λb a=>b.length<=j3/\∀p,a p=cS->Q (.ref p) (upd a p<|.tup b)
noncomputable def Cm(t:TA):TE:=λd H Q=>t d H λb a=>b.length<=j3/\∀p,a p=cS->Q (.ref p) (upd a p<|.lst b)
theorem nM(h:PA X es t):PE X (.Tuple es x1 pos) (Cf t):=by intro a s m H Q I i;refine SQ<|ij (h pos a s m H _ I i) λj d ⟨l,f,B,r,z,q⟩=>⟨by rw[<- r.length];exact z,?_⟩;have g:f d.heap.objs.size=cS:=B.h8.fresh<|EF _;refine⟨.ref d.heap.objs.size,upd f d.heap.objs.size<|.tup l,B.laid (t':=d.toks) (λb u e=>Ew _ e) (EF _) ?_,rfl,q _ g⟩;exact⟨z,j,r,⟨_,ET _ rfl,rfl,_,rfl⟩⟩
theorem nQ(h:PA X es t):PE X (.List es pos) (Cm t):=by intro a s m H Q I i;refine wpAny_List_spliced<|ij (h pos a s m H _ I i) λj d ⟨l,f,B,r,z,q⟩=>⟨by rw[<- r.length];exact z,?_⟩;have g:f d.heap.objs.size=cS:=B.h8.fresh<|EF _;refine⟨.ref d.heap.objs.size,upd f d.heap.objs.size<|.lst l,B.laid (t':=d.toks) (λb u e=>Ew _ e) (EF _) ?_,rfl,q _ g⟩;exact⟨z,j,0,r,ET _ rfl⟩
end
abbrev Sp:=List V->Hp->VK->XK->Prop
abbrev C9:=List l0->Hp->gE->XK->gv->gE->Prop
structure Dz(P:i8)(w:i5)(K:Es)(mg:MJ)(base:h7)(A:l7)(outer:List l0)(s:gE)(H:Hp):Prop where
 frames:A.frames=aI outer
 mod:Mod K mg base
 bs : ∀b o,base.get? b=aI o->s.heap.get? b=aI o/\H b=cS
 Df:base.objs.size<=s.heap.objs.size
 pw:s.heap.FunFrames base outer
 B5 : ∀b∈l5 outer,H b=cS
 h8:m5 P w H s.heap
 bare:Dy s.gens
noncomputable def CE(outer:List l0)(P:i8)(w:i5)(H:Hp)(s:gE)(Q:VK)(u:gv)(s':gE):Prop:=
 ∃v a,s'.os=s.os/\Dy s'.gens/\Un (l5 outer) [] H a s.heap s'.heap/\m5 P w a s'.heap/\RelV v u/\Q v a
noncomputable def CR(CX:C9)(outer:List l0)(P:i8)(w:i5)(H:Hp)(s:gE)(Q:VK)(E:XK)(r:Result)(s':gE):Prop:=
 match r with
 | .ok (.ret u)=>CE outer P w H s Q u s'
 | .ok _=>False
 | .error e=>CX outer H s E e s'
structure zi(P:i8)(w:i5)(K:Es)(mg:MJ)(base:h7)(CX:C9)(k:Nat)(f:eI)(fd:u4)(ps:List Str)(sp:Sp):Prop where
 len : ∀vs H Q E,sp vs H Q E->vs.length=ps.length
 run : ∀(A:l7) (outer:List l0) (s:gE) (H:Hp) (args:Args) (us:List gv) (vs:List V) (Q:VK) (E:XK),sx k A->Dz P w K mg base A outer s H->Na s fd args (ps.zip us)->i4 vs us->sp vs H Q E->
  codeAny (hA P w) A (.call (.ref f) args) (CR CX outer P w H s Q E) s
theorem Dz.make{P:i8}{w:i5}{K:Es}{G:MJ}{base:h7}{A:l7}{outer:List l0}{s:gE}{H:Hp}(e:Dz P w K G base A outer s H)(C:eI)(I:List gv)(z:List (Str×gv)) :
 Dz P w K G base (A.under (.builtin "type.__call__" ⟨.ref C::I,z⟩)) outer s H:=⟨by first | exact e.frames | (simpa[Around.under,Code.envs,Code.isFrame,pushEnvs]using e.frames),e.mod,e.bs,e.Df,e.pw,e.B5,e.h8,e.bare⟩
section
variable{X:Cx}{pins:MW}{σ:St}{H:Hp}{s s':gE}
theorem Inv.OB(I:Inv X pins σ H s):Dz X.prog X.w X.K X.mg X.base X.A X.stack s H:=
 ⟨I.ok.frames,I.ok.mod,I.bs,EX I.ok.Df I.sz,I.stack,I.D8,I.h8,I.bare⟩
theorem Inv.after(I:Inv X pins σ H s)(h:CE X.stack X.prog X.w H s Q u s'):EP X pins σ Q u s':=by obtain⟨v,f,os,a,un,e,r,q⟩:=h;obtain⟨B,g,d,t,O⟩:=s';obtain rfl:O=s.os:=os;exact⟨v,f,I.call (h':=B) (g':=g) (d':=d) (t':=t) (ch:=[]) un e a<|λb z=>absurd z ⋯,r,q⟩
end
noncomputable def fD(sp:Sp)(G:List V)(E:XK)(t:TA):TE:=λd H Q=>t d H λb a=>sp (b++G) a Q E
noncomputable def Binds(K:Es)(I:u4)(H:List Str)(G:List gv):Prop:=
 ∀(s:gE) (a:List gv),K.In s.heap->(a++G).length=H.length->Na s I ⟨a,[]⟩ (H.zip<|a++G)
theorem Binds.all{K:Es}{I:u4}{H:List Str}(h : ∀G:List gv,G.length=H.length->Oi I ⟨G,[]⟩=pure (H.zip G)):Binds K I H []:=λs G _ a=>by rw[List.append_nil]at a ⊢;exact .of_eq<|h G a
noncomputable def W4(CX:C9)(X:Cx)(E:XK):Prop:=∀(a:MW) (d:St) (H:Hp) (s:gE) (e:gv) (b:gE),Inv X a d H s->CX X.stack H s E e b->X.xe e b
section
variable{X:Cx}{CX:C9}{k:Nat}{f C:eI}{fd:u4}{ps:List Str}{sp:Sp}{ML:List V}{ds:List gv}{E:XK}{x m:Str}{p pos apos:ik}{e o:hH}{es:List hH}{ta:TE}{t:TA}
theorem mM(F:zi X.prog X.w X.K X.mg X.base CX k f fd ps sp)(B:sx k X.A)(O:Binds X.K fd ps ds)(G:i4 ML ds)(hx:W4 CX X E)
 (I:Inv X pins σ H s) (r:i4 vs us) (h:sp (vs++ML) H Q E):wpAny (hA X.prog X.w) X.A (call (.ref f) us) (EP X pins σ Q) X.xe s:=by
 have z:i4 (vs++ML) (us++ds):=r.append G;have b:(us++ds).length=ps.length:=by rw[<- z.length];exact F.len _ _ _ _ h
 refine Iu<|HY (F.run X.A X.stack s H ⟨us,[]⟩ (us++ds) (vs++ML) Q E B I.OB (O s us I.i9 b) z h) λr d a=>?_;cases r with
 | error e=>exact hx pins σ H s e d I a
 | ok R=>
  cases R with
  | ret u=>exact I.after a
  | next=>exact tx a
  | brk=>exact tx a
  | cont=>exact tx a
theorem VO(F:zi X.prog X.w X.K X.mg X.base CX k f fd ps sp)(B:sx k X.A)(O:Gl X x)(Z:X.mg x=aI (.ref f))(L:Gm X.K (.ref f)=cI)(R:Binds X.K fd ps ds)(J:i4 ML ds)(hx:W4 CX X E)
 (G:PA X (e::es) t) (U:(x==("__debug__" : Str))=dV:=by decide) (W:i0 (e::es) X.env=(dV,hX e X.env)::i0 es X.env:=by rfl) (Y:(ov pos (i0 es X.env)).any (·.1)=dV:=by rfl) :
 PE X (.Call (.Name x p) (e::es) [] pos) (fD sp ML E t):=by
 intro a s b H Q I h;refine FX<|xH I O Z ?_ U;refine IF (h₀:=X.base) I.ok.mod.DX L (ij (G pos a s b H _ I h) λi g ⟨j,d,z,r,q⟩=>⟨z.i9,?_⟩) W Y;exact mM F B R J hx z r q
end
structure L8(N P:List Str)(sc:i2):Prop where
 kind:sc.kind = .function
 co:sc.isCoroutine=dV
 gen:sc.isGenerator=dV
 nd:N.Nodup
 pre:N.take P.length=P
 par : ∀x∈P,sc.names.lookup x=aI .local\/sc.names.lookup x=aI .cell
 So : ∀y∈sc.names,y.2 ≠ .free
theorem QQ{kindOf:Str->Option Dn}{x:Str} : ∀{binds:List (Str×gv)} {m:MJ},(∀v,(x,v)∉binds)->E7 kindOf binds m x=m x
 | [],_,_=>rfl
 | (n,v)::r,m,h=>by
  unfold E7;rw[QQ λw a=>h w (EK _ a)];split
  ·have:x≠n:=by rintro rfl;exact h v EN
   simp[this]
  ·rfl
theorem QT{kindOf:Str->Option Dn}{x:Str} : ∀{binds:List (Str×gv)} {m:MJ},(∀v,(x,v)∉binds)->E6 kindOf binds m x=m x
 | [],_,_=>rfl
 | (n,v)::r,m,h=>by
  unfold E6;rw[QT λw a=>h w (EK _ a)];split
  ·rfl
  ·have:x≠n:=by rintro rfl;exact h v EN
   simp[this]
theorem QR{kindOf:Str->Option Dn}{x:Str}{v:gv} : ∀{P:List Str} {G:List gv} {i:Nat} {m:MJ},P.Nodup->P[i]? = aI x->G[i]? = aI v->kindOf x=aI .local->
 E7 kindOf (P.zip G) m x=aI v
 | [],_,_,_,_,h,_,_=>by simp at h
 | _::_,[],_,_,_,_,h,_=>by simp at h
 | p::P,w::G,0,m,nd,h1,h2,hk=>by simp at h1 h2;subst h1;subst h2;show E7 kindOf ((p,w)::P.zip G) m p=_;unfold E7;rw[QQ λv z=>(IH.mp nd).1 (Lo z).1,MY hk];simp
 | p::P,w::G,i+1,m,nd,h1,h2,hk=>by show E7 kindOf ((p,w)::P.zip G) m x=_;unfold E7;exact QR (i:=i) (IH.mp nd).2 (by simpa using h1) (by simpa using h2) hk
theorem QU{kindOf:Str->Option Dn}{x:Str}{v:gv} : ∀{P:List Str} {G:List gv} {i:Nat} {m:MJ},P.Nodup->P[i]? = aI x->G[i]? = aI v->kindOf x≠aI .local->
 E6 kindOf (P.zip G) m x=aI v
 | [],_,_,_,_,h,_,_=>by simp at h
 | _::_,[],_,_,_,_,h,_=>by simp at h
 | p::P,w::G,0,m,nd,h1,h2,hk=>by simp at h1 h2;subst h1;subst h2;show E6 kindOf ((p,w)::P.zip G) m p=_;unfold E6;rw[QT λv z=>(IH.mp nd).1 (Lo z).1,RQ hk];simp
 | p::P,w::G,i+1,m,nd,h1,h2,hk=>by show E6 kindOf ((p,w)::P.zip G) m x=_;unfold E6;exact QU (i:=i) (IH.mp nd).2 (by simpa using h1) (by simpa using h2) hk
noncomputable def wj(N:List Str)(G:List V):St:=G.map aI++EC (N.length - G.length) cS
noncomputable def wz(CX:C9)(P:i8)(w:i5)(K:Es)(mg:MJ)(base:h7)(N:List Str)(qual:Str)(scope:i2)(f:eI)(cd:gv)(A:l7)(outer:List l0)(s:gE)(H:Hp)(E:XK):Cx where
 prog:=P
 w:=w
 K:=K
 mg:=mg
 base:=base
 A:=A.deeper<|envOfC qual scope s.heap.objs.size f cd
 N:=N
 i6:=s
 DB:=H
 env:=MM qual scope s.heap.objs.size f cd
 outer:=outer
 stack:=MM qual scope s.heap.objs.size f cd::outer
 ex:=[]
 calm:=cI
 fn:=λ_=>cI
 pn:=[]
 xe:=λe s'=>wpAny (hA P w) (A.deeper<|envOfC qual scope s.heap.objs.size f cd) (Dv (MM qual scope s.heap.objs.size f cd) e) (λ_ z=>CX outer H s E e z) (λB z=>CX outer H s E B z) s'
theorem KO{G:i2}{n:Nat}{x:Str}(h:G.names.lookup x=aI .cell) : ∃c,(t4 n G.names []).lookup x=aI c:=by have q:=Hd G.names n [] (.inl h);exact FE.mp q
theorem QD{CX:C9}{P:i8}{w:i5}{K:Es}{L:MJ}{base:h7}{N G:List Str}{qual:Str}{scope:i2}{f:eI}{cd:gv}{A:l7}{outer:List l0}{s s1:gE}{H:Hp}{E:XK}{Z:List gv}{J:List V}
 (S:L8 N G scope) (hd:A.handled=cS) (B:Dz P w K L base A outer s H) (hl:J.length=G.length) (r:i4 J Z)
 (x:InCallC s s.heap.objs.size (E7 (MM qual scope s.heap.objs.size f cd).kindOf (G.zip Z) λ_=>cS) (t4 (s.heap.objs.size+1) scope.names []) (E6 (MM qual scope s.heap.objs.size f cd).kindOf (G.zip Z) λ_=>cS) s1) :
 Inv (wz CX P w K L base N qual scope f cd A outer s H E) [] (wj N J) H s1:=by
 have Y:G.length<=N.length:=by have:=congrArg IJ S.pre;rw[HE]at this;omega
 obtain⟨j,C,rfl,m⟩:=x.done;have O : ∀b:eI,b∉(wz CX P w K L base N qual scope f cd A outer s H E).ex:=λb z=>absurd (show b∈([]:List eI)from z) ⋯;refine⟨⟨B.mod,S.kind,rfl,rfl,EF _,λy z c j d=>?_,λy I=>?_,λy c _ h=>?_,λ_=>hd,Around.frames_deeper B.frames,.inr ⟨rfl,rfl⟩,λb z=>absurd z<|O b,B.bs,B.Df,λb _ _=>O b,λb z=>absurd z<|O b,B.pw,B.B5⟩,
  rfl,B.bare,Un.kept m,⟨_,x.toInCall.ns,λi y v j d t=>?_⟩,λy c h=>⟨_,x.cell y c h⟩,B.h8.fresh<|EF _,λy c h=>?_,λp g=>absurd (show p∈([]:MW)from g) ⋯,B.h8.kept m,?_⟩
 ·exact name_of_addr x.apart (HD j)<|HD d
 ·have I:scope.names.lookup y=aI .cell\/scope.names.lookup y=aI .free:=I
  rcases I with I | I
  ·exact KO I
  ·exact absurd rfl<|S.So _<|HD I
 ·exact Mo<|x.above y c<|HD h
 ·have l:i<J.length:=by
   unfold wj at d;by_cases l:i<J.length
   ·exact l
   ·rw[FP (by simpa using l)]at d
    rw[HU]at d;split at d<;>cases d
  have o:J[i]? = aI v:=by
   unfold wj at d;rw[Gr (by simpa using l),Fi]at d;cases e:J[i]? with
   | none=>rw[e]at d;cases d
   | some a=>rw[e]at d;cases d;rfl
  obtain⟨u,R,W⟩:=r.get o;have g:G[i]? = aI y:=by rw[<- S.pre,List.getElem?_take_of_lt ⋯];exact j
  have U:G.Nodup:=by rw[<- S.pre];exact S.nd.sublist<|List.take_sublist _ _
  refine⟨u,W,?_⟩;rcases S.par y (HB g)with k | k
  ·exact .inl ⟨k,QR U g R k⟩
  ·obtain⟨c,e⟩:=KO (n:=s.heap.objs.size+1) k
   refine .inr ⟨.inl k,c,e,?_⟩;have q:=x.cell y c e;rw[QU U g R (by show scope.names.lookup y≠_;rw[k];decide)]at q;exact q
 ·exact B.h8.fresh<|Mo<|x.above y c<|HD h
 ·unfold wj
  show _=N.length;rw[Fc,EE,List.length_replicate];omega
theorem iG{CX:C9}{P:i8}{w:i5}{K:Es}{mg:MJ}{base:h7}{k:Nat}{f:eI}{name qual:Str}{R:Arguments}{L:List i7}{scope:i2}{U kV doc pm G ct oc:gv}{an od:Option eI}
 {L6:Array (Option gv)} {N ps:List Str} {sp:Sp} (lk:K.lookup f=aI ⟨oc,od,.func<|GV name qual R L scope U kV doc pm an G ct,L6⟩) (a3:IM K G qual=cI) (S:L8 N ps scope)
 (len : ∀Z H Q E,sp Z H Q E->Z.length=ps.length)
 (a4 : ∀(A:l7) (outer:List l0) (s:gE) (H:Hp) (Z:List V) (Q:VK) (E:XK),sx k (A.deeper<|envOfC qual scope s.heap.objs.size f G)->sp Z H Q E->
   ∃t,tF (wz CX P w K mg base N qual scope f G A outer s H E) L t/\t {nx:=λ_ H'=>Q .ih H',rt:=Q} (wj N Z) H) :
 zi P w K mg base CX (k+1) f (GV name qual R L scope U kV doc pm an G ct) ps sp:=by
 refine⟨len,λA outer s H j us Z Q E B z hb r Y=>?_⟩;have M:=len _ _ _ _ Y;have h:K.In s.heap:=z.mod.DX.keeps λb o e=>(z.bs b o e).1;have lim:s.heap.NoLimit:=z.mod.nolimit.keeps λb o e=>(z.bs b o e).1;have m : ∀y∈ps.zip us,scope.names.lookup y.1=aI .local\/(scope.names.lookup y.1=aI .cell/\((t4 (s.heap.objs.size+1) scope.names []).lookup y.1).isSome=cI):=λ⟨n,v⟩ hy=>by
  rcases S.par n (Lo hy).1 with q | q
  ·exact .inl q
  ·exact .inr ⟨q,Hd _ _ _<|.inl q⟩
 refine R0 B.depth (h _ _ lk) rfl S.co S.gen rfl (PySem.W.codeRec_of h a3)<|hb _ _ _ _ ?_;refine SV S.kind m λp F l x=>?_;subst F;refine⟨lim.keeps x.toInCall.keep,codeAny_func ?_⟩;obtain⟨t,X,T⟩:=a4 A outer s H Z Q E (B.deeper _) Y;have I:Inv (wz CX P w K mg base N qual scope f G A outer s H E) [] (wj N Z) H l:=QD S B.hd z M r x;refine EG (X [] l (wj N Z) H _ I T) (λC g d=>?_) λe g d=>d;have i : ∀{a:St} {H':Hp} {v:V} {u:gv},Inv (wz CX P w K mg base N qual scope f G A outer s H E) [] a H' g->RelV v u->Q v H'->CE outer P w H s Q u g:=
  λ{a H' v u} J O q=>⟨v,H',J.os,J.bare,J.base,J.h8,O,q⟩
 cases C with
 | ret u=>
  obtain⟨v,a,H',J,O,q⟩:=d;exact i J O q
 | next=>
  obtain⟨a,H',J,q⟩:=d;exact i (v:=V.ih) (u:=Gk) J rfl q
 | brk=>
  obtain⟨_,_,_,q⟩:=d;exact tx q
 | cont=>
  obtain⟨_,_,_,q⟩:=d;exact tx q
section
variable{X:Cx}{x:Str}{p pos:ik}{e:hH}{es:List hH}{t:TA}{id T:String}{r:List V->Hp->VK->Prop}
noncomputable def Rz(r:List V->Hp->VK->Prop)(t:TA):TE:=λd H Q=>t d H λb a=>r b a Q
theorem yi(J:wA X (.builtin id) r)(z:Gl X x)(L:X.mg x=cS)(B:E8 x=aI (.builtin id))(G:PA X (e::es) t)(Z:x ≠ "__name__":=by decide)(O:(x==("__debug__" : Str))=dV:=by decide)
 (R:i0 (e::es) X.env=(dV,hX e X.env)::i0 es X.env:=by rfl) (U:(ov pos<|starEach es X.env).any (·.1)=dV:=by rfl):PE X (.Call (.Name x p) (e::es) [] pos) (Rz r t):=by
 intro a s b H Q I h;refine FX<|xO I z L B ?_ Z O;exact Gh (ij (G pos a s b H _ I h) λi g ⟨j,d,W,Y,f⟩=>J a g b d j i Q W Y f) R U
theorem yZ(J:wA X (.type T) r)(z:Gl X x)(L:X.mg x=cS)(B:E8 x=aI (.type T))(G:PA X (e::es) t)(Z:x ≠ "__name__":=by decide)(O:(x==("__debug__" : Str))=dV:=by decide)
 (R:i0 (e::es) X.env=(dV,hX e X.env)::i0 es X.env:=by rfl) (U:(ov pos<|starEach es X.env).any (·.1)=dV:=by rfl):PE X (.Call (.Name x p) (e::es) [] pos) (Rz r t):=by
 intro a s b H Q I h;refine FX<|xO I z L B ?_ Z O;exact Gz (ij (G pos a s b H _ I h) λi g ⟨j,d,W,Y,f⟩=>J a g b d j i Q W Y f) R U
end
end L2
namespace HT
open PySem PyProof.Rows
section
variable{prog:i8}{w:i5}{A:l7}{E:MQ}{s:gE}
theorem Al(Z:Nd s.heap t vs.toArray)(L:Nd s.heap b ws.toArray)(I:vs ≠ [])
 (H:ws=[]->Q (.ref t) s) (J:ws ≠ []->Q (.ref s.heap.objs.size) {s with heap:=s.heap.push {cls:= .type "tuple",data:= .seq (vs++ws).toArray}})
 (G:vs.length+ws.length<=j3):wpAny (hA prog w) A (De .Add (.ref t)<|.ref b) Q E s:=by
 obtain⟨⟨cls,d,data,h⟩,z,f,n,g⟩:=id Z;obtain⟨⟨i,O,data2,R⟩,B,U,W,Y⟩:=id L;simp only at f g U Y;subst f g U Y;have e:vs.toArray++ws.toArray=(vs++ws).toArray:=by simp
 by_cases a:ws=[]
 ·exact My ⟨_,z,rfl⟩ ⟨_,B,rfl⟩ MA Ru Ld Lb (IS _ _)
   (tuple_addW1 t b vs.toArray ws.toArray n W d O h R (by simpa using I)<|by simp[a]) ⟨z,B,H a⟩
 ·refine My ⟨_,z,rfl⟩ ⟨_,B,rfl⟩ MA Ru Ld Lb (IS _ _)
   (tuple_addW2 t b vs.toArray ws.toArray n W d O h R (by simpa using I) (by simpa using a)<|by rw[EM,EM];exact G) ⟨z,B,?_⟩
  rw[e];exact J a
noncomputable def gC(n d:Nat):Option Int->Nat
 | none=>d
 | some v=>if v<0 then (v+(n:Int)).toNat else min v.toNat n
theorem mK(n d:Nat)(G:d<=n)(o:Option Int):gC n d o<=n:=by
 cases o with
 | none=>exact G
 | some v=>
  show(if v<0 then (v+(n:Int)).toNat else min v.toNat n)<=n;by_cases z:v<0
  ·rw[MY z];omega
  ·rw[RQ z];exact Lk _ _
theorem WD(v:Int)(n d:Nat):(if v<0 then max (v+(n:Int)) 0 else min v (n:Int))=((gC n d (aI v):Nat):Int):=by
 show(if v<0 then max (v+(n:Int)) 0 else min v (n:Int))=(((if v<0 then (v+(n:Int)).toNat else min v.toNat n):Nat):Int);by_cases z:v<0
 ·simp only[MY z];omega
 ·simp only[RQ z];omega
theorem YI(lo hi:Option Int)(n:Nat):Ip lo hi 1 (n:Int)=(((gC n 0 lo:Nat):Int),((gC n n hi:Nat):Int)):=by
 have a : ¬((1:Int)<0):=by omega
 unfold Ip;simp only[a,if_false];refine Prod.ext ?_ ?_
 ·cases lo with
  | none=>rfl
  | some v=>exact WD v n 0
 ·cases hi with
  | none=>rfl
  | some v=>exact WD v n n
theorem Ys(i j:Nat):Hg (i:Int) (j:Int) 1=j - i:=by
 unfold Hg;have a:(1:Int)>0:=by omega
 simp only[a,if_true,Int.ediv_one];split<;>omega
theorem Z0(p:DO v o)(h:Q o s):wpAny (hA prog w) A (Builtin.Slice.slicePartIndex v) Q E s:=by
 cases p with
 | none=>exact slicePart_none h
 | int i t=>exact slicePart_int h
theorem wm{G:eI}{z B:gv}{lo hi:Option Int}{n:Nat}{Q:Int×Int×Nat->gE->Prop}(hs:s.heap.IsSliceOf G z B .none)(H:DO z lo)(R:DO B hi)
 (h:Q (((gC n 0 lo:Nat):Int),1,gC n n hi - gC n 0 lo) s):wpAny (hA prog w) A (Builtin.Slice.sliceApplied (.ref G)<|pure (n:Int)) Q E s:=by
 obtain⟨os,I,U,O⟩:=id hs;unfold Builtin.Slice.sliceApplied Builtin.Slice.sliceFields;refine Eu<|Eu<|FU I O (x:=z) rfl<|Eu<|FU I O (x:=B) rfl<|Eu<|FU I O (x:= .none) rfl<|EB ?_;refine Eu<|slicePart_none ?_;show wpAny _ _ (if ((1:Int)==0)=cI then _ else _) _ _ s;rw[RQ ⋯];refine Eu<|Z0 H<|Eu<|Z0 R<|Eu<|EB ?_;show wpAny _ _ (match Ip lo hi 1 (n:Int)with | (lo,hi)=>pure (lo,(1:Int),Hg lo hi 1)) _ _ s;rw[YI lo hi n];show wpAny _ _ (pure (((gC n 0 lo:Nat):Int),(1:Int),Hg ((gC n 0 lo:Nat):Int) ((gC n n hi:Nat):Int) 1)) _ _ s;rw[Ys];exact EB h
theorem bh(xs:Array gv)(i k:Nat):((Ez k).filterMap λ(m:Nat)=>xs[((i:Int)+(m:Int)*1).toNat]?).toArray=((xs.toList.drop i).take k).toArray:=by
 have e:(λ(m:Nat)=>xs[((i:Int)+(m:Int)*1).toNat]?)=λm=>xs[i+m]? :=by
  funext m;have:((i:Int)+(m:Int)*1).toNat=i+m:=by omega
  rw[this]
 rw[e];have:=pick_run xs i k;rw[List.filterMap_map]at this;have a:((λx=>xs[x]?)∘λx=>i+x)=λm=>xs[i+m]? :=rfl;rw[a]at this;rw[this]
theorem YF{t G:eI}{z:Array gv}{O R:gv}{lo hi:Option Int}{Q:MQ}(B:Nd s.heap t z)(hs:s.heap.IsSliceOf G O R .none)(J:DO O lo)(U:DO R hi)
 (H : ¬(gC z.size 0 lo=0/\gC z.size z.size hi=z.size))
 (h:Q (.ref s.heap.objs.size) {s with heap:=s.heap.push {cls:= .type "tuple",data:= .seq ((z.toList.drop (gC z.size 0 lo)).take (gC z.size z.size hi - gC z.size 0 lo)).toArray}})
 (L:z.size<=j3):wpAny (hA prog w) A (DW (.ref t)<|.ref G) Q E s:=by
 have I:sizeOk (.seq ((z.toList.drop<|gC z.size 0 lo).take (gC z.size z.size hi - gC z.size 0 lo)).toArray):=by show((z.toList.drop<|gC z.size 0 lo).take (gC z.size z.size hi - gC z.size 0 lo)).toArray.size<=j3;rw[EM,HE,List.length_drop,IE];omega
 have e:gC z.size z.size hi<=z.size:=mK _ _ (EF _) hi;obtain⟨os,W,Y,d⟩:=id hs;have a:s.TypeIs (.ref G) "slice":=⟨os,W,Y⟩;unfold DW
 try with_reducible refine Fz ?_
 first | refine Eu (EB ?_) | skip
 refine Eu (S4 B.typeIs ⋯ ?_);refine Eu (GI (name:=FD "__getitem__") B.typeIs FF
  (Hi FF B.typeIs entry_tuple_getitem ?_ (RX _ _)))
 show wpAny _ _ (Builtin.Tuple.tupleItemsOf (.ref t) >>= _) _ _ s;refine Eu<|Lp B ?_;refine Eu<|LD a ?_;rw[MY ⋯];refine Eu<|wm hs J U ?_;have b : ¬((((gC z.size 0 lo:Nat):Int)==0 && (1:Int)==1 && (gC z.size z.size hi - gC z.size 0 lo)==z.size)=cI):=by intro q;rw[Ex,Ex]at q;have f:((gC z.size 0 lo:Nat):Int)=0:=eq_of_beq q.1.1;have g:gC z.size z.size hi - gC z.size 0 lo=z.size:=eq_of_beq q.2;exact H ⟨by omega,by omega⟩
 show wpAny _ _ (if (((gC z.size 0 lo:Nat):Int)==0 && (1:Int)==1 && (gC z.size z.size hi - gC z.size 0 lo)==z.size)=cI then _ else _) _ _ s;rw[RQ b,bh]
 first
  | exact Eu (m:=Gj _)<|Gd (EB ⟨_,rfl,EB h⟩) I
  | exact Eu (m:=Gj _)<|Gd (Eu<|EB<|EB ⟨_,rfl,EB h⟩) I
  | exact Eu<|Eu (m:=Gj _)<|Gd (EB<|EB ⟨_,rfl,EB h⟩) I
  | exact Eu<|Eu (m:=Gj _)<|Gd (EB ⟨_,rfl,EB h⟩) I
end
end HT
namespace L2
open PySem PySem.Spec PyProof.Rows
abbrev TO:=St->Hp->(Option Int->Hp->Prop)->Prop
noncomputable def PO(X:Cx)(e:Option hH)(t:TO):Prop:=
 ∀(a:MW) (s:gE) (b:St) (H:Hp) (Q:Option Int->Hp->Prop),Inv X a b H s->t b H Q->
  wpAny (hA X.prog X.w) X.A (evalPart e X.env) (λu f=>∃o d,Inv X a b d f/\DO u o/\Q o d) X.xe s
def fC:TO:=λ_ H Q=>Q cS H
noncomputable def tq(t:TE):TO:=λb H Q=>t b H λx a=>∃i,x = .int i/\Q (aI i) a
section
variable{X:Cx}{e:hH}{te:TE}{lo hi:Option hH}{tl th:TO}{pos p2:ik}
theorem gM:PO X cS fC:=by intro a s b H Q I h;rw[evalPart_none];exact EB ⟨cS,H,I,.none,h⟩
theorem gL(h:PE X e te):PO X (aI e) (tq te):=by intro a s f H Q I d;rw[evalPart_some];refine ij (h a s f H _ I d) λu g z=>?_;obtain⟨x,b,B,O,R⟩:=z;obtain⟨i,rfl,q⟩:=R;obtain⟨t,rfl⟩:=O;exact⟨aI i,b,B,.int i t,q⟩
noncomputable def Nk(X:Cx)(r:V->Option Int->Option Int->Hp->VK->Prop):Prop:=
 ∀(a:MW) (s:gE) (d:St) (H:Hp) (x:V) (v z B:gv) (lo hi:Option Int) (b:eI) (Q:VK),Inv X a d H s->RelV x v->s.heap.IsSliceOf b z B .none->DO z lo->DO B hi->r x lo hi H Q->
  ∃T id,N5 (.type T) "__getitem__" = pure (aI (.builtin id))/\s.TypeIs v T/\wpAny (hA X.prog X.w) X.A (DW v (.ref b)) (EP X a d Q) X.xe s
noncomputable def SH(r:V->Option Int->Option Int->Hp->VK->Prop)(te:TE)(tl th:TO):TE:=λa H Q=>te a H λx b=>tl a b λl d=>th a d λu z=>r x l u z Q
theorem JD(U:Nk X r)(W:PE X e te)(G:PO X lo tl)(Y:PO X hi th):PE X (.Subscript e (.Slice lo hi cS p2) pos) (SH r te tl th):=by intro a s d H Q I h;refine Pb (ij (W a s d H _ I h) λv M p=>?_);obtain⟨x,f,i,L,F⟩:=p;refine wpAny_Slice (ij (G a M d f _ i F) λB N ⟨l,g,j,C,J⟩=>ij (Y a N d g _ j J) λO z ⟨u,R,m,E,K⟩=>?_);rw[evalPart_none];refine EB ?_;have n:Inv X a d R {z with heap:=z.heap.push {cls:= .type "slice",data:= .fields #[B,O,.none]}}:=m.kept (t':=z.toks) λb P q=>Ew _ q;obtain⟨T,id,o,y,t⟩:=U a {z with heap:=z.heap.push {cls:= .type "slice",data:= .fields #[B,O,.none]}} d R x v B O l u z.heap.objs.size Q n L (Heap.IsSliceOf.new ..) C E K;show wpAny (hA X.prog X.w) X.A (Rw e (.Slice lo hi cS p2) v (.ref z.heap.objs.size)) (EP X a d Q) X.xe {z with heap:=z.heap.push {cls:= .type "slice",data:= .fields #[B,O,.none]}};exact tail_any (ops:=[.ref z.heap.objs.size,v]) y o t (by with_unfolding_all rfl)
noncomputable def cu(xs:List V)(lo hi:Option Int):List V:=(xs.drop<|HT.gC xs.length 0 lo).take (HT.gC xs.length xs.length hi - HT.gC xs.length 0 lo)
theorem Zz(xs:List V)(lo hi:Option Int):(cu xs lo hi).length<=xs.length:=by unfold cu;rw[HE,List.length_drop];omega
noncomputable def CC(K:Es):V->Option Int->Option Int->Hp->VK->Prop:=λx lo hi H Q=>∃a b,x = .ref a/\l4 K H a b/\
 ¬(HT.gC b.length 0 lo=0/\HT.gC b.length b.length hi=b.length)/\∀p,H p=cS->Q (.ref p) (upd H p<|.tup<|cu b lo hi)
theorem mz:Nk X (CC X.K):=by
 intro e s n H x v W Y lo hi m Q I rx f j R h;obtain⟨a,d,rfl,i,g,q⟩:=h;cases rx;obtain⟨U,r,B,O⟩:=I.tuple i;have z:U.toArray.size=d.length:=by rw[EM];exact r.length.symm
 refine⟨"tuple",_,FF.lookup,B.typeIs,?_⟩;refine HT.YF B f j R (by rw[z];exact g) ?_ (by rw[z];exact O);rw[z];refine⟨.ref s.heap.objs.size,_,I.laid (t':=s.toks) (o:= .tup (cu d lo hi)) (λb l q=>Ew _ q) (EF _) ?_,rfl,q _ (I.h8.fresh (EF _))⟩;exact⟨EX (Zz d lo hi) O,_,(r.drop (HT.gC d.length 0 lo)).take (HT.gC d.length d.length hi - HT.gC d.length 0 lo),DC.new _ _⟩
theorem i4.ON(r:i4 xs us):us=[]↔xs=[]:=by
 cases r with
 | nil=>simp
 | cons _ _=>simp
end
noncomputable def MS(n:Nat)(i:Int):Option Nat:=if 0<=i then (if i<n then aI i.toNat else cS)else if -(n:Int)<=i then aI (i+n).toNat else cS
noncomputable def E5{G:Type}(xs:List G)(i:Int):Option G:=(MS xs.length i).bind λj=>xs[j]?
theorem iz(h:MS n i=aI j):seqIndex? i n=aI j/\j<n/\ -(n:Int)<=i/\i<n:=by
 unfold MS at h;by_cases b:0<=i
 ·rw[MY b]at h
  by_cases a:i<n
  ·rw[MY a]at h
   have e:i.toNat=j:=Ff h;exact⟨by rw[seqIndex_of b a,e],by omega,by omega,a⟩
  ·rw[RQ a]at h;cases h
 ·rw[RQ b]at h
  by_cases a : -(n:Int)<=i
  ·rw[MY a]at h
   have e:(i+n).toNat=j:=Ff h;exact⟨by rw[seqIndex_neg ⋯ a,e],by omega,a,by omega⟩
  ·rw[RQ a]at h;cases h
theorem X2(h:E5 xs i=aI v) : ∃j,seqIndex? i xs.length=aI j/\xs[j]? = aI v/\j<xs.length/\ -(xs.length:Int)<=i/\i<xs.length:=by
 unfold E5 at h;cases e:MS xs.length i with
 | none=>rw[e]at h;cases h
 | some j=>
  rw[e]at h;obtain⟨a,b,z,B⟩:=iz e;exact⟨j,a,h,b,z,B⟩
def X5(b:hH):Prop:=∀o i,PU b dV o i=operate [o,i] (DW o i)
noncomputable def D9(X:Cx)(r:R2):Prop:=
 ∀(b z:hH) (a:MW) (s:gE) (d:St) (H:Hp) (x y:V) (v u:gv) (Q:VK),Inv X a d H s->RelV x v->RelV y u->r x y H Q->
  PU z dV v u=operate [v,u] (DW v u)->wpAny (hA X.prog X.w) X.A (Rw b z v u) (EP X a d Q) X.xe s
noncomputable def Nf(X:Cx)(id:String)(r:V->List V->Hp->VK->Prop):Prop:=
 ∀(a:MW) (s:gE) (e:St) (H:Hp) (x:V) (d:List V) (v:gv) (b:List gv) (Q:VK),Inv X a e H s->RelV x v->i4 d b->r x d H Q->
  wpAny (hA X.prog X.w) X.A (call (.builtin id) (v::b)) (EP X a e Q) X.xe s
section
variable{X:Cx}{a b:hH}{ta tb:TE}{pos:ik}
theorem D9.or(h:D9 X r)(h':D9 X r'):D9 X (λx y H Q=>r x y H Q\/r' x y H Q):=by
 intro a z b s e H x y v u Q I rx B q d;rcases q with q | q
 ·exact h a z b s e H x y v u Q I rx B q d
 ·exact h' a z b s e H x y v u Q I rx B q d
theorem nR(z:D9 X r)(G:PE X a ta)(B:PE X b tb)(hs:X5 b):PE X (.Subscript a b pos) (N1 r ta tb):=by intro d s g H Q I h;exact Pb<|An G B I h λv u f x y e O rx R q=>z a b d f g e x y v u Q O rx R q<|hs _ _
noncomputable def CH(K:Es):R2:=λx y H Q=>∃p a i v,x = .ref p/\y = .int i/\kv K H p a/\E5 a i=aI v/\Q v H
noncomputable def CF(K:Es):R2:=λx y H Q=>∃p a i v,x = .ref p/\y = .int i/\l4 K H p a/\E5 a i=aI v/\Q v H
noncomputable def CG:R2:=λx y H Q=>∃z i c,x = .str z/\y = .int i/\z.length<=j3/\E5 z.cps.toList i=aI c/\Q (.str ⟨#[c]⟩) H
theorem Sh:D9 X (CH X.K):=by
 intro e G a s l H x y v u Q I rx U h g;obtain⟨p,N,i,z,rfl,rfl,E,W,q⟩:=h;cases rx;obtain⟨t,rfl⟩:=U;obtain⟨Y,r,d,M⟩:=I.list E;obtain⟨j,b,n,J,o,A⟩:=X2 W;obtain⟨w,O,m⟩:=r.get n;have C:=r.length;have L:=Qw;have R:EP X a l Q w s:=⟨z,H,I,m,q⟩;by_cases f:0<=i
 ·have B:i.toNat=j:=by
   rw[seqIndex_of f A]at b;exact Ff b
  exact item_listR d.isList f ⋯ (by rw[B];simpa using O) R g
 ·have B:(i+(Y.toArray.size:Int)).toNat=j:=by
   rw[seqIndex_neg ⋯ o]at b;rw[EM,<- C];exact Ff b
  exact SD (x:=w) d.isList.typeIs Mv.lookup
   (wpAny_getItem_list_neg (Q:=λr F=>r=w/\EP X a l Q r F) d.isList ⋯ (by rw[EM]<;>omega) ⋯ (by rw[B];simpa using O) ⟨rfl,R⟩) g
theorem pb:D9 X (CF X.K):=by
 intro b Y a s e H x y v u Q I rx B h n;obtain⟨p,L,i,z,rfl,rfl,m,O,q⟩:=h;cases rx;obtain⟨t,rfl⟩:=B;obtain⟨A,r,d,J⟩:=I.tuple m;obtain⟨j,f,g,C,E,F⟩:=X2 O;obtain⟨w,R,U⟩:=r.get g;have l:=r.length;have G:=Qw;have W:EP X a e Q w s:=⟨z,H,I,U,q⟩;exact SD (x:=w) d.typeIs slot_tuple_getitem.lookup
  (getItem_tuple (j:=j) (Q:=λr o=>r=w/\EP X a e Q r o) d ⋯ ⋯ (by rw[EM,<- l];exact f) (by simpa using R) ⟨rfl,W⟩) n
theorem pd:D9 X CG:=by
 intro a W d s r H x y v u Q I rx B h m;obtain⟨z,i,c,rfl,rfl,Y,O,q⟩:=h;obtain⟨t,rfl⟩:=rx;obtain⟨p,rfl⟩:=B;obtain⟨j,b,g,n,R,U⟩:=X2 O;have l:z.cps.toList.length=z.length:=by simp[Str.length]
 rw[l]at b R U;have o:=Qw;exact tail_any (Lm s z t) slot_str_getitem.lookup (getItem_str (c:=c) (by
  have e:decide (i < -(2 ^ 63:Int))=dV:=decide_eq_false ⋯;have f:decide (i>=2 ^ 63)=dV:=decide_eq_false ⋯;rw[e,f,LQ]) (by rw[b];simpa using g) ⟨.str ⟨#[c]⟩,H,I.tok _,⟨_,rfl⟩,q⟩) m
theorem Qc(lo hi:Option Int)(n:Nat):(D7 lo hi cS n).1=((HT.gC n 0 lo:Nat):Int)/\(D7 lo hi cS n).2.1=((HT.gC n n hi:Nat):Int)/\(D7 lo hi cS n).2.2=1:=by
 refine⟨?_,?_,rfl⟩
 ·cases lo with
  | none=>simp[D7,HT.gC]
  | some i=>
   simp only[D7,HT.gC,Me,show(1:Int)>0 by decide,if_true];by_cases h:i<0
   ·simp only[h,if_true]<;>omega
   ·simp only[h,if_false]<;>omega
 ·cases hi with
  | none=>simp[D7,HT.gC]
  | some i=>
   simp only[D7,HT.gC,Me,show(1:Int)>0 by decide,if_true];by_cases h:i<0
   ·simp only[h,if_true]<;>omega
   ·simp only[h,if_false]<;>omega
theorem Jt(z:List gv)(lo hi:Option Int):PR z.toArray lo hi cS=((z.drop<|HT.gC z.length 0 lo).take (HT.gC z.length z.length hi - HT.gC z.length 0 lo)).toArray:=by obtain⟨a,b,B⟩:=Qc lo hi z.toArray.size;unfold PR;rw[a,b,B];simp only[sliceRange_one,pick_run,EM]<;>rfl
noncomputable def CD(K:Es):V->Option Int->Option Int->Hp->VK->Prop:=λx lo d H Q=>∃a b,x = .ref a/\kv K H a b/\∀p,H p=cS->Q (.ref p) (upd H p<|.lst<|cu b lo d)
theorem fP:Nk X (CD X.K):=by intro f s n H x v U W lo e m Q I rx g j B h;obtain⟨a,d,rfl,i,q⟩:=h;cases rx;obtain⟨Y,r,z,O⟩:=I.list i;have R:=r.length;refine⟨"list",_,Mv.lookup,z.isList.typeIs,?_⟩;refine SS z.isList g j B .none ⋯ ?_ (by rw[EM]<;>omega);rw[Jt,<- R];refine⟨.ref s.heap.objs.size,_,I.laid (t':=s.toks) (o:= .lst (cu d lo e)) (λb l q=>Ew _ q) (EF _) ?_,rfl,q _ (I.h8.fresh (EF _))⟩;exact⟨EX (Zz d lo e) O,_,0,(r.drop (HT.gC d.length 0 lo)).take (HT.gC d.length d.length e - HT.gC d.length 0 lo),ET _ rfl⟩
noncomputable def ZQ:V->Bool
 | .ih=>cI
 | .bl _=>cI
 | .int _=>cI
 | .str _=>cI
 | _=>dV
noncomputable def DV:V->V->Bool
 | .ih,.ih=>cI
 | .bl a,.bl b=>a==b
 | .bl a,.int b=>(if a then 1 else 0)==b
 | .int a,.bl b=>a==(if b then 1 else 0)
 | .int a,.int b=>a==b
 | .str a,.str b=>a==b
 | _,_=>dV
theorem pv(z:RelV y u)(rx:RelV x v)(B:ZQ y=cI)(fx:ZQ x=cI):FR A s u v (DV y x):=by
 cases y with
 | ih=>
  cases z;cases x with
  | ih=>cases rx;exact FR.same _
  | bl b=>cases rx;exact FR.none_bool b
  | int b=>obtain⟨t,rfl⟩:=rx;exact FR.none_int b t
  | str b=>obtain⟨t,rfl⟩:=rx;exact FR.none_str b t
  | _=>exact absurd (show dV=cI from fx) ES
 | bl a=>
  cases z;cases x with
  | ih=>cases rx;exact FR.bool_none a
  | bl b=>cases rx;exact FR.bool_bool a b
  | int b=>obtain⟨t,rfl⟩:=rx;exact FR.bool_int a b t
  | str b=>obtain⟨t,rfl⟩:=rx;exact FR.bool_str a b t
  | _=>exact absurd (show dV=cI from fx) ES
 | int a=>
  obtain⟨d,rfl⟩:=z;cases x with
  | ih=>cases rx;exact FR.int_none a d
  | bl b=>cases rx;exact FR.int_bool a d b
  | int b=>obtain⟨t,rfl⟩:=rx;exact FR.int_int a d b t
  | str b=>obtain⟨t,rfl⟩:=rx;exact FR.int_str a d b t
  | _=>exact absurd (show dV=cI from fx) ES
 | str a=>
  obtain⟨d,rfl⟩:=z;cases x with
  | ih=>cases rx;exact FR.str_none a d
  | bl b=>cases rx;exact FR.str_bool a d b
  | int b=>obtain⟨t,rfl⟩:=rx;exact FR.str_int a d b t
  | str b=>obtain⟨t,rfl⟩:=rx;exact FR.str_str a d b t
  | _=>exact absurd (show dV=cI from fx) ES
 | _=>exact absurd (show dV=cI from B) ES
noncomputable def A5(x:V)(u:gv):Bool:=match u with
 | .none=>DV .ih x
 | .bool b=>DV (.bl b) x
 | .int i _=>DV (.int i) x
 | .str z _=>DV (.str z) x
 | _=>dV
theorem eO(r:RelV y u)(f:ZQ y=cI):A5 x u=DV y x:=by
 cases y with
 | ih=>cases r;rfl
 | bl b=>cases r;rfl
 | int i=>obtain⟨t,rfl⟩:=r;rfl
 | str z=>obtain⟨t,rfl⟩:=r;rfl
 | _=>exact absurd (show dV=cI from f) ES
theorem ZE : ∀{xs:List V} {G:List gv},i4 xs G->xs.all ZQ=cI->G.any (A5 x)=xs.any λy=>DV y x
 | _,_,.nil,_=>rfl
 | y::xs,u::G,.cons r t,f=>by rw[Hv,Ex]at f;rw[Hc,Hc,eO r f.1,ZE t f.2]
theorem vb(rx:RelV x v)(fx:ZQ x=cI) : ∀{xs:List V} {G:List gv},i4 xs G->xs.all ZQ=cI->∀u∈G,FR A s u v (A5 x u)
 | _,_,.nil,_=>λu z=>by cases z
 | y::xs,u::G,.cons r t,f=>λB z=>by
  rw[Hv,Ex]at f;rcases ED.mp z with rfl | z
  ·rw[eO r f.1];exact pv r rx f.1 fx
  ·exact vb rx fx t f.2 B z
def F4(x:V)(xs:List V):Bool:=xs.any λy=>DV y x
noncomputable def Rt(K:Es)(G:Bool):R2:=λx y H Q=>∃p a,y = .ref p/\(kv K H p a\/l4 K H p a)/\ZQ x=cI/\a.all ZQ=cI/\Q (.bl<|if G then !F4 x a else F4 x a) H
theorem Qs:l9 X (rp .In) (Rt X.K dV):=by
 intro d s f H x y v u Q I rx B h;obtain⟨p,e,rfl,hq,fx,fs,q⟩:=h;cases B;rcases hq with hq | hq
 ·obtain⟨z,r,b,O⟩:=I.list hq
  refine SeqAt.in_listAt (A5 x) b.isList (λw a=>vb rx fx r fs w<|by simpa using a) ⟨.bl _,H,I,rfl,?_⟩;rw[show z.toArray.any (A5 x)=z.any (A5 x)by simp,ZE r fs];exact q
 ·obtain⟨z,r,b,O⟩:=I.tuple hq
  refine SeqAt.in_tupleAt (A5 x) b (λw a=>vb rx fx r fs w<|by simpa using a) ⟨.bl _,H,I,rfl,?_⟩;rw[show z.toArray.any (A5 x)=z.any (A5 x)by simp,ZE r fs];exact q
theorem Qr:l9 X (rp .NotIn) (Rt X.K cI):=by
 intro d s f H x y v u Q I rx B h;obtain⟨p,e,rfl,hq,fx,fs,q⟩:=h;cases B;rcases hq with hq | hq
 ·obtain⟨z,r,b,O⟩:=I.list hq
  refine SeqAt.notIn_listAt (A5 x) b.isList (λw a=>vb rx fx r fs w<|by simpa using a) ⟨.bl _,H,I,rfl,?_⟩;rw[show z.toArray.any (A5 x)=z.any (A5 x)by simp,ZE r fs];exact q
 ·obtain⟨z,r,b,O⟩:=I.tuple hq
  refine SeqAt.notIn_tupleAt (A5 x) b (λw a=>vb rx fx r fs w<|by simpa using a) ⟨.bl _,H,I,rfl,?_⟩;rw[show z.toArray.any (A5 x)=z.any (A5 x)by simp,ZE r fs];exact q
theorem QP:wA X (.builtin "len") (λxs H Q=>∃p G,xs=[.ref p]/\(kv X.K H p G\/l4 X.K H p G)/\Q (.int G.length) H):=by
 intro b s f H xs e Q I r h;obtain⟨p,G,rfl,hq,q⟩:=h;obtain⟨u,rfl,rx⟩:=kO r;cases rx;have d:=Qw;rcases hq with hq | hq
 ·obtain⟨O,z,a,R⟩:=I.list hq
  have B:=z.length;exact Calls.call_len_list a.isList (by simp only[EM]<;>omega) ⟨.int G.length,H,I.tok _,⟨s.toks+1,by rw[EM,B]⟩,q⟩
 ·obtain⟨O,z,a,R⟩:=I.tuple hq
  have B:=z.length;exact len_tuple a (by simp only[EM]<;>omega) ⟨.int G.length,H,I.tok _,⟨s.toks+1,by rw[EM,B]⟩,q⟩
theorem QO:wA X (.builtin "len") (λxs H Q=>∃z,xs=[.str z]/\z.length<=j3/\Q (.int z.length) H):=by intro a s e H xs d Q I r h;obtain⟨z,rfl,B,q⟩:=h;obtain⟨u,rfl,t,rfl⟩:=kO r;have b:=Qw;exact len_str ⋯ ⟨.int z.length,H,I.tok _,⟨_,rfl⟩,q⟩
theorem JU:wA X (.type "tuple") (λxs H Q=>∃p G,xs=[.ref p]/\((kv X.K H p G/\∀l,H l=cS->Q (.ref l) (upd H l (.tup G)))\/(l4 X.K H p G/\Q (.ref p) H))):=by
 intro a s i H xs m Q I r h;obtain⟨p,G,rfl,h⟩:=h;obtain⟨u,rfl,rx⟩:=kO r;cases rx;rcases h with⟨f,q⟩ | ⟨f,q⟩
 ·obtain⟨z,B,g,O⟩:=I.list f
  have W:=B.length;refine call_tuple_list g.isList (λd j=>?_) (by simp only[EM]<;>omega);have R:Inv X a i H {s with heap:=d}:=I.kept (t':=s.toks) j;have U:Inv X a i (upd H d.objs.size (.tup G)) {s with heap:=d.push {cls:= .type "tuple",data:= .seq z.toArray}}:=
   R.laid (t':=s.toks) (λb o e=>Ew _ e) (EF _) (show l6 X.prog X.w _ _ _ (.tup G)from⟨O,z,B,DC.new _ _⟩)
  exact⟨.ref d.objs.size,_,U,rfl,q _<|R.h8.fresh<|EF _⟩
 ·obtain⟨z,B,g,O⟩:=I.tuple f
  exact call_tuple_same g ⟨.ref p,H,I,rfl,q⟩
noncomputable def RH(K:Es)(T:String)(x:V)(H:Hp):Prop:=match x with
 | .str _=>T = "str"
 | .int _=>T = "int"
 | .ref p=>(T = "list"/\∃b,kv K H p b)\/(T = "tuple"/\∃o,K.lookup p=aI o/\o.cls = .type "tuple"/\o.dict=cS)\/
  (T = "dict"/\((∃a,H p=aI (.dK a))\/∃a,H p=aI (.dT a)))\/(T = "set"/\∃S n,H p=aI (.set S n))
 | _=>False
theorem lZ(I:Inv X pins σ H s)(r:RelV x v)(ty:RH X.K T x H) :
 s.TypeIs v T/\∀a,v = .ref a->∃B,s.heap.get? a=aI B/\B.dict=cS:=by
 cases x with
 | str z=>
  obtain⟨t,rfl⟩:=r;cases (show T = "str" from ty);exact⟨Lm s z t,λ_ e=>nomatch e⟩
 | int i=>
  obtain⟨t,rfl⟩:=r;cases (show T = "int" from ty);exact⟨RI s i t,λ_ e=>nomatch e⟩
 | ref p=>
  cases r;rcases ty with⟨rfl,u,m⟩ | ⟨rfl,o,b,l,g⟩ | ⟨rfl,b⟩ | ⟨rfl,S,n,b⟩
  ·obtain⟨O,_,j,_⟩:=I.list m
   refine⟨j.isList.typeIs,λa e=>?_⟩;cases e;obtain⟨o,n,e,c,g,_⟩:=j;exact⟨o,e,g⟩
  ·refine⟨⟨o,I.i9 p o b,l⟩,λa e=>?_⟩
   cases e;exact⟨o,I.i9 _ o b,g⟩
  ·have z : ∃o,s.heap.get? p=aI o/\o.ExactDict:=by
    rcases b with⟨h,b⟩ | ⟨h,b⟩
    ·obtain⟨_,_,_,_,o,_,_,e,d,_⟩:=I.h8 p _ b
     exact⟨o,e,d⟩
    ·obtain⟨_,_,_,_,o,_,_,e,d,_⟩:=I.h8 p _ b
     exact⟨o,e,d⟩
   obtain⟨o,e,d⟩:=z;refine⟨⟨o,e,d.1⟩,λa f=>?_⟩;cases f;exact⟨o,e,d.2.1⟩
  ·obtain⟨o,_,_,_,e,d,_⟩:=I.h8 p _ b
   refine⟨⟨o,e,d.1⟩,λa f=>?_⟩;cases f;exact⟨o,e,d.2.1⟩
 | _=>exact tx ty
noncomputable def Ry(K:Es)(T:String)(r:V->List V->Hp->VK->Prop)(to:TE)(t:TA):TE:=λb H Q=>to b H λx a=>RH K T x a/\t b a λe d=>r x e d Q
variable{o e:hH}{es:List hH}{to:TE}{t:TA}{name:Str}{apos cpos:ik}{T id:String}{r:V->List V->Hp->VK->Prop}
theorem VP(R:PlainAttrs T)(G:Slot T name id)(U:N6 (.builtin id)=pure (.type "method_descriptor"))(hm:Nf X id r)(W:PE X o to)(ha:PA X (e::es) t)
 (Y:G9 o name X.env (hX o X.env)=hX o X.env:=by rfl)
 (J:((ov cpos<|starEach (e::es) X.env).all (λx=> !x.1) && (Nq cpos<|keywordEach [] X.env).all (λx=>x.1.isSome)
   && decide ((e::es).length+([]:List Dm).length+(if ([]:List Dm).isEmpty then 0 else 1)<30))=cI:=by rfl)
 (L:(apos.endLine==cpos.line)=cI:=by rfl) (hs:i0 (e::es) X.env=(dV,hX e X.env)::i0 es X.env:=by rfl) (Z:(ov cpos<|starEach es X.env).any (·.1)=dV:=by rfl) :
 PE X (.Call (.Attribute o name apos) (e::es) [] cpos) (Ry X.K T r to t):=by
 intro a s b H Q I h;refine wpAny_Call_method_late Y J L rfl<|ij (W a s b H _ I h) λv u l=>?_;obtain⟨x,d,z,B,ty,m⟩:=l;obtain⟨i,j⟩:=lZ z B ty;refine⟨T,id,R,G,U,i,j,?_⟩;have O:=ha cpos a u b d _ z m;rw[hs]at O ⊢;refine Lj (by show(dV || (ov cpos<|starEach es X.env).any (·.1))=dV;rw[Z]<;>rfl)<|Iq ?_;exact ij O λy w ⟨A,f,g,p,n⟩=>hm a w b f x A v y Q g B p n
end
noncomputable def RW(X:Cx)(id:String)(r:V->List V->Hp->VK->Prop):Prop:=
 ∀(a:MW) (s:gE) (e:St) (H:Hp) (x:V) (d:List V) (v:gv) (b:List gv) (Q:VK),Inv X a e H s->RelV x v->i4 d b->r x d H Q->
  wpAny (hA X.prog X.w) X.A (call (.builtin id) (v::b)) (EP X a e Q) X.xe s
theorem i4.one : ∀{x:V} {G:List gv},i4 [x] G->∃u,G=[u]/\RelV x u
 | _,_,.cons r .nil=>⟨_,rfl,r⟩
theorem i4.dropLast(h:i4 xs us):i4 xs.dropLast us.dropLast:=by
 induction h with
 | nil=>exact .nil
 | cons r t z=>
  cases t with
  | nil=>exact .nil
  | cons q a=>exact .cons r z
theorem i4.rep(h:i4 xs us) : ∀k:Nat,i4 (EC k xs).flatten (EC k us).flatten
 | 0=> .nil
 | k+1=>by rw[GH,GH,Hu,Hu];exact i4.append h<|i4.rep h k
theorem QI(z:List gv) : ∀(k:Nat) (acc:List gv),
 List.foldl (λx1 B=>x1++B) acc.toArray (EC k z.toArray)=(acc++(EC k z).flatten).toArray
 | 0,acc=>by simp
 | k+1,acc=>by
  have e:acc.toArray++z.toArray=(acc++z).toArray:=by simp
  have a:(acc++z)++(EC k z).flatten=acc++(EC (k+1) z).flatten:=by rw[GH,Hu,List.append_assoc]
  rw[<- a,<- QI z k (acc++z),<- e,GH,List.foldl_cons]
section
variable{X:Cx}{pins:MW}{σ:St}{H:Hp}{s:gE}{l b:eI}{xs ys zs:List V}
theorem Inv.PB{z its':List gv}{n:Nat}{f:Array gv->Array gv}{t':Nat}(I:Inv X pins σ H s)(B:H l=aI (.lst xs))
 (e:s.heap.get? l=aI {cls:= .type "list",data:= .seq z.toArray n}) (G:f z.toArray=its'.toArray) (O:i4 ys its') (R:ys.length<=j3) :
 Inv X pins σ (upd H l<|.lst ys) {s with heap:=s.heap.update l<|Obj.mapSeq f,toks:=t'}:=by
 have q:=PySem.IsL.update e f;rw[G]at q;refine I.write (x:=l) (e:=l) (by rw[B];exact trivial) (.inl rfl) (λY u U W=>(Gi s.heap (Obj.mapSeq f)<|Fy U).trans W) ⟨_,q⟩ ?_;exact⟨R,its',_,O,q⟩
theorem Inv.Pz(I:Inv X pins σ H s)(B:i4 ys z)(O:ys.length<=j3) :
 Inv X pins σ (upd H s.heap.objs.size (.lst ys)) {s with heap:=s.heap.push {cls:= .type "list",data:= .seq z.toArray},toks:=t'}:=
 I.laid (λ_ _ q=>Ew _ q) (EF _) ⟨O,z,0,B,ET _ rfl⟩
theorem Inv.fresh(I:Inv X pins σ H s):H s.heap.objs.size=cS:=I.h8.fresh<|EF _
theorem Inv.PC(I:Inv X pins σ H s)(O:H l=aI (.lst xs)):xs.length<=j3/\∃(B:List gv) (n:Nat),i4 xs B/\xs.length=B.length/\s.heap.get? l=aI {cls:= .type "list",data:= .seq B.toArray n}:=by obtain⟨z,B,n,r,e⟩:=I.h8 l _ O;exact⟨z,B,n,r,r.length,e⟩
end
section
variable{X:Cx}
noncomputable def Vk:V->List V->Hp->VK->Prop:=λx b H Q=>∃l a y,x = .ref l/\b=[y]/\H l=aI (.lst a)/\a.length<j3/\Q .ih (upd H l<|.lst<|a++[y])
theorem V0:RW X "list.append" Vk:=by intro a s i H x f v d Q I rx R h;obtain⟨l,g,y,rfl,rfl,B,W,q⟩:=h;cases rx;obtain⟨u,rfl,U⟩:=R.one;obtain⟨z,O,n,r,b,e⟩:=I.PC B;refine Hm Mi ⟨_,e,rfl⟩ Ma (LK _ _) (LV l O.toArray n u (by rw[EM];omega)) ⟨e,?_⟩;refine⟨.ih,_,I.PB (its':=O++[u]) B e ⋯ (r.append (.cons U .nil)) ?_,rfl,q⟩;rw[Fc,Ho];omega
theorem V4(xs:List α)(k:Nat):(EC k xs).flatten.length=k*xs.length:=by
 induction k with
 | zero=>simp
 | succ k z=>rw[GH,Hu,Fc,z,Nat.succ_mul,Nat.add_comm]
end
end L2
namespace Att
open PySem PySem.W PySem.Calls PyProof.Rows
theorem Zx : ∀(G:List Int) (H:List gv),WellAll P h H (G.map WData.int)->Oc H G:=by
 intro G
 induction G with
 | nil=>
  intro H w;rw[Mh]at w;cases w;exact .nil
 | cons n G z=>
  intro H w;rw[Fb]at w;cases w with
  | cons a b=>
   cases a;exact .cons _ _<|z _ b
theorem Vf{l:OpenLaw}{n:Nat}(J:l.most=aI n){P:Params}{h:h7}{args:List WData}{I:List gv}
 (O:l.row.toRowW.claim.pre args=cI) (R:WellAll P h I args) :
 ∃a H G,I=[EO a]/\args=[WData.list (G.map WData.int)]/\h.get? a=aI {cls:= .type "list",data:= .seq H.toArray}/\Oc H G/\G.length<=n:=by
 have U:WShape.hasAll [] args [.list .int]=cI:=(pre_splitW O).1;have b:l.pre.holds [] {args:=args}=cI:=(pre_splitW O).2;obtain⟨d,r,rfl,f,g⟩:=hasAllW_cons U;obtain rfl:=hasAllW_nil g;obtain⟨p,rfl,W⟩:=hasW_list f;obtain⟨G,rfl⟩:=items_int W;have Y:G.length<=n:=by
  unfold OpenLaw.pre at b;have z:(WTm.not<|.lt (.lit<|.int (n:Int))<|.len<|.arg 0).holds [] {args:=[.list (G.map .int)]}=cI:=by have z:=(holds_andW b).1;rw[J]at z;exact z
  have B:=condW_of z<|w_not<|w_lt w_lit<|w_len_list<|w_arg rfl;rw[EE]at B;refine Nat.le_of_not_lt λq=>?_;have j:(n:Int)<((G.length:Nat):Int):=by omega
  first
   | (rw[decide_eq_true j]at B;exact absurd B ⋯)
   | (simp at B;omega)
 cases R with
 | cons m o=>
  cases o;cases m with
  | list i e=>exact⟨_,_,G,rfl,rfl,i,Zx G _ e,Y⟩
theorem VB(l:OpenLaw)(args:List WData):l.row.toRowW.claim.post args (.bool cI) args=cI:=
 postW_of (r:=l.row.toRowW) (X:=(cI==cI))
  (show WShape.has [] (.bool cI) .bool=cI by first | rfl | decide | simp[WShape.has,WShape.arms,WShape.armsAll])
  (show(WTm.eq .res<|.lit<|.bool cI).value [] {args:=args,res:=aI (.bool cI),after:=args}=aI (.bool<|true==cI)from w_eq_bool (w_res rfl) w_lit) rfl
theorem iU{l:OpenLaw}{n:Nat}{q:i8}{B:List Str}{I:(Str->Option gv)->h7->Prop}{O:i5->h7->Prop}{d:DefRec}
 (hn:l.most=aI n) (U:d.params.defaults=[])
 (call : ∀(w:i5) (i6 z:gE) (Z mb:MJ) (L:eI) (o:n0) (pm cd H:gv) (a:eI) (J:List gv) (ns:List Int),
   Ground q B [] I w i6 Z mb z.heap->O w z.heap->
   z.heap.get? L=aI o->o.data = .func (docDef d.name d.params d.body d.scope pm cd H)->z.heap.CodeRec cd d.name->Z d.name=aI (.ref L)->
   z.heap.get? a=aI {cls:= .type "list",data:= .seq J.toArray}->Oc J ns->ns.length<=n->z.gens = #[]->
   codeAny (hA l.prog w) I8 (.call (.ref L) ⟨[.ref a],[]⟩) (λr s'=>r = .ok (.ret<|.bool cI)/\OldK z.heap s'.heap/\s'.os=z.os/\Dy s'.gens) z) :
 WalkO q B I O l.row.toRowW d [] (λf J=>PySem.call f J):=by
 intro w i6 z Z mb G Y L o pm cd H W kV C x e R g y b F as h K M i N;obtain rfl:W = .none:=Dflts.none R U;obtain rfl:kV = .none:=Dflts.noKw R;obtain⟨a,J,ns,rfl,rfl,j,m,p⟩:=Vf hn h i;refine enter_call<|HY (call w i6 z Z mb L o pm cd H a J ns G Y C (fd_plain x) e g j m p y) λr s' E=>?_;obtain⟨rfl,s,t,u⟩:=E;exact⟨.inl ⟨.bool cI,.bool cI,[],rfl,λ_=>rfl,.bool cI,VB l _,λ_=>⟨List.Pairwise.nil,λ_ A=>(nomatch A)⟩⟩,s,t,u⟩
end Att
namespace L2
open PySem PySem.Spec PyProof.Rows
theorem yM : ∀{H:List gv} {G:List Int},Oc H G->i4 (G.map V.int) H
 | _,_,.nil=> .nil
 | _,_,.cons n t h=> .cons ⟨t,rfl⟩ (yM h)
def sQ(H:Hp):Prop:=∀b,H b=cS\/∃o a,H b=aI (.xA o<|.lst a)
theorem bH{P:i8}{w:i5}{K:Es}{J mb:MJ}{CX:C9}{k:Nat}{fa a:eI}{fd:u4}{x:Str}{sp:Sp}{B:gE}{G:List gv}{L:List Int}
 (Y:K.In B.heap) (a1:B.heap.Ns o5 J) (I:B.heap.Ns Rf mb) (a8 : ∀x:Str,x ≠ "__name__"->mb x=E8 x) (a9:B.heap.NoLimit) (hg:B.gens = #[])
 (Z:B.heap.get? a=aI {cls:= .type "list",data:= .seq G.toArray}) (hi:Oc G L) (hl:L.length<=j3) (hr:sx k I8)
 (F : ∀base:h7,K.In base->base.Ns o5 J->zi P w K J base CX k fa fd [x] sp) (am : ∀(s:gE) (u:gv),Na s fd ⟨[u],[]⟩ [(x,u)])
 (an : ∀H:Hp,sQ H->kv K H a (L.map V.int)->sp [.ref a] H (λv _=>v = .bl cI) λ_ _ _=>False)
 (ap : ∀H e s',CX [] H B (λ_ _ _=>False) e s'->False) :
 codeAny (hA P w) I8 (.call (.ref fa) ⟨[.ref a],[]⟩) (λr s'=>r = .ok (.ret<|.bool cI)/\OldK B.heap s'.heap/\s'.os=B.os/\Dy s'.gens) B:=by
 have C:=yM hi;have E:=hi.length;have j : ∀H:Hp,sQ H->kv K H a (L.map V.int)->m5 P w H B.heap->(∀b,H b≠cS->b=a)->(H a≠cS->K.lookup a=cS)->
  codeAny (hA P w) I8 (.call (.ref fa) ⟨[.ref a],[]⟩) (λr s'=>r = .ok (.ret<|.bool cI)/\OldK B.heap s'.heap/\s'.os=B.os/\Dy s'.gens) B:=by
  intro H A hS i y hK;have l : ∀{b:eI} {o:n0},B.heap.get? b=aI o->H b=cS->(bM B.heap H).get? b=aI o:=λe n=>bL e n;have b0 : ∀{b:eI} {o:n0} {g:Array DictEntry} {O:Nat},B.heap.get? b=aI o->o.data = .dict g O->H b=cS:=λ{b o g O} e d=>by
   cases q:H b with
   | none=>rfl
   | some u=>
    have W:b=a:=y b (by rw[q];simp);subst W;rw[Z]at e;cases e;have N:Data.seq G.toArray _=Data.dict g O:=d;cases N
  have U : ∀{b:eI} {m:MJ},B.heap.Ns b m->(bM B.heap H).Ns b m:=λ{b m} ⟨o,g,O,e,d,r⟩=>⟨o,g,O,l e<|b0 e d,d,r⟩;have p:K.In (bM B.heap H):=λb o e=>l (Y b o e) (by
   cases q:H b with
   | none=>rfl
   | some u=>
    have W:b=a:=y b (by rw[q];simp);subst W;rw[hK (by rw[q];simp)]at e;cases e)
  have hM:Mod K J (bM B.heap H):=⟨p,U a1,⟨mb,U I,a8⟩,let ⟨mc,X,h2⟩:=a9;⟨mc,U X,h2⟩⟩;have Q:Dz P w K J (bM B.heap H) I8 [] B H:=⟨rfl,hM,λb o e=>ig e,Nat.le_of_eq<|Wh _ _,trivial,λb I=>absurd (show b∈([]:List eI)from I) ⋯,i,.of_eq hg⟩;refine HY ((F _ p<|U a1).run I8 [] B H ⟨[.ref a],[]⟩ [.ref a] [.ref a] _ _ hr Q (am B<|.ref a) (.cons rfl .nil) (an H A hS)) λr s' h=>?_;cases r with
  | error e=>exact(ap H e s' h).elim
  | ok T=>
   cases T with
   | next=>exact tx h
   | brk=>exact tx h
   | cont=>exact tx h
   | ret u=>
    obtain⟨v,H',os,f,un,M,r',q⟩:=h;have q':v = .bl cI:=q;subst q';obtain rfl:u=La cI:=r';refine⟨rfl,OldK.of_keep λb o e=>?_,os,f⟩;cases q:H b with
    | none=>exact un.keep b o e q (by intro z;exact absurd (show b∈([]:List eI)from z) ⋯) ⋯
    | some u=>
     rcases A b with z | ⟨ob,xs,z⟩
     ·rw[q]at z;cases z
     ·have z2:=un.u7 b ob _ z
      obtain⟨t,_⟩:=i b _ z;obtain⟨S,_⟩:=M b _ z2;rw[e]at t;cases t;exact S
 cases hk:K.lookup a with
 | some o=>
  have e:=Y a o hk;rw[Z]at e;cases e;refine j (λ_=>cS) (λ_=> .inl rfl) (.inr ⟨_,G.toArray,_,hk,rfl,rfl,rfl,by rw[EM,E];exact hl,by simpa using C⟩) (λb u z=>by have R:(cS:Option HO)=aI u:=z;cases R) (λb z=>absurd rfl z) λz=>absurd rfl z
 | none=>
  refine j (λb=>if b=a then aI (.xA {cls:= .type "list",data:= .seq G.toArray} (.lst (L.map V.int)))else cS) (λb=>?_) (.inl (.inr ⟨{cls:= .type "list",data:= .seq G.toArray},MY rfl⟩)) (λb u z=>?_) (λb z=>?_) λ_=>hk
  ·by_cases I:b=a
   ·exact .inr ⟨_,_,MY I⟩
   ·exact .inl<|RQ I
  ·by_cases I:b=a
   ·have R:=(MY I).symm.trans z
    cases R;subst I;exact⟨Z,by rw[EE];exact hl,G,_,C,Z⟩
   ·have R:=(RQ I).symm.trans z
    cases R
  ·by_cases I:b=a
   ·exact I
   ·exact absurd (RQ I) z
abbrev hG{K:Es}{h:h7}(_:K.In h):Es:=K
theorem fu{l:PySem.W.OpenLaw}{n k:Nat}{q:i8}{O:List Str}{R:(Str->Option gv)->h7->Prop}{z:i5->h7->Prop}{d:DefRec}{K:Params->Es}{CX:i5->C9}{sp:i5->Sp}{x:Str}
 (hn:l.most=aI n) (U:n<=j3) (a1:d.params.defaults=[]) (hr:sx k I8)
 (hY : ∀(w:i5) (h:h7),z w h->(K w.params).In h)
 (F : ∀(w:i5) (J:MJ) (L:eI) (h:h7),(K w.params).In h->h.Ns o5 J->J d.name=aI (.ref L)->
   ∃fd:u4,(∀(s:gE) (u:gv),Na s fd ⟨[u],[]⟩ [(x,u)])/\
    ∀base:h7,(K w.params).In base->base.Ns o5 J->zi l.prog w (K w.params) J base (CX w) k L fd [x] (sp w))
 (a4 : ∀(w:i5) (H:Hp) (a:eI) (Z:List Int),Z.length<=n->sQ H->kv (K w.params) H a (Z.map V.int)->sp w [.ref a] H (λv _=>v = .bl cI) λ_ _ _=>False)
 (a5 : ∀(w:i5) (H:Hp) (s:gE) (e:gv) (s':gE),CX w [] H s (λ_ _ _=>False) e s'->False) :
 PySem.W.WalkO q O R z l.row.toRowW d [] (λf vs=>PySem.call f vs):=by
 refine Att.iU hn a1 λw j i J S L o X N t a vs Z G Y Q P as m p r B M=>?_;have I:=hY w _ Y;obtain⟨fd,E,y⟩:=F w J L _ I G.T.g m;exact bH I G.T.g G.T.b G.T.builtins G.T.nolimit M p r (EX B U) hr y E (λH A C=>a4 w H a Z B A C) λH e s'=>a5 w H i e s'
theorem rj{l:PySem.W.OpenLaw}{n k:Nat}{q:i8}{B:List Str}{I:(Str->Option gv)->h7->Prop}{z:i5->h7->Prop}{d:DefRec}{K:Params->Es}{CX:C9}{sp:Es->Sp}{x:Str}
 (hn:l.most=aI n) (O:n<=j3) (R:d.params.defaults=[]) (U:sx k I8)
 (Y : ∀(w:i5) (h:h7),z w h->(K w.params).In h)
 (F : ∀(w:i5) (G:MJ) (L:eI) (h:h7),(K w.params).In h->h.Ns o5 G->G d.name=aI (.ref L)->
   ∃Z:u4,(∀(s:gE) (u:gv),Na s Z ⟨[u],[]⟩ [(x,u)])/\
    ∀base:h7,(K w.params).In base->base.Ns o5 G->zi l.prog w (K w.params) G base CX k L Z [x] (sp<|K w.params))
 (a1 : ∀(K:Es) (H:Hp) (a:eI) (J:List Int),J.length<=n->sQ H->kv K H a (J.map V.int)->sp K [.ref a] H (λv _=>v = .bl cI) λ_ _ _=>False)
 (a2 : ∀(H:Hp) (s:gE) (e:gv) (s':gE),CX [] H s (λ_ _ _=>False) e s'->False) :
 PySem.W.WalkO q B I z l.row.toRowW d [] (λf vs=>PySem.call f vs):=
 fu (K:=K) (CX:=λ_=>CX) (sp:=λw=>sp<|K w.params) hn O R U Y F (λw H a J b g i=>a1 (K w.params) H a J b g i) λ_ H s e s'=>a2 H s e s'
noncomputable def ya(s:i7):Arguments:=match s with
 | .FunctionDef _ a _ _ _ _ _ _ _ _=>a
 | _=>{posonlyargs:=[],args:=[],vararg:=cS,kwonlyargs:=[],kw_defaults:=[],kwarg:=cS,defaults:=[]}
noncomputable def jT(s:i7):List i7:=match s with
 | .FunctionDef _ _ b _ _ _ _ _ _ _=>b
 | _=>[]
noncomputable def zK(s:i7):i2:=match s with
 | .FunctionDef _ _ _ _ _ _ a _ _ _=>a
 | _=>{kind:= .function,names:=[],isGenerator:=dV,isCoroutine:=dV}
abbrev yg:C9:=λ_ _ _ _ _ _=>False
abbrev E0:XK:=λ_ _ _=>False
theorem nX:W4 yg X E0:=λ_ _ _ _ _ _ _ h=>h.elim
structure Dc(K:Es)(x qual:Str)(st:i7)(f:eI)(fd:u4):Prop where
 ex : ∃(oc:gv) (od:Option eI) (kV doc pm:gv) (an:Option eI) (Ol ct:gv) (L6:Array (Option gv)),
  fd=GV x qual (ya st) (jT st) (zK st) .none kV doc pm an Ol ct/\K.lookup f=aI ⟨oc,od,.func fd,L6⟩/\IM K Ol qual=cI
 kp:Gm K (.ref f)=cI
section
variable{P:i8}{w:i5}{K:Es}{mg:MJ}{base:h7}
theorem Dc.ok{x qual:Str}{st:i7}{f:eI}{W:u4}{N L:List Str}{k:Nat}{sp:Sp}(F:Dc K x qual st f W)(S:L8 N L (zK st))(len : ∀J H Q E,sp J H Q E->J.length=L.length)
 (z : ∀(G:gv) (A:l7) (outer:List l0) (s:gE) (H:Hp) (J:List V) (Q:VK) (E:XK),sx k (A.deeper<|envOfC qual (zK st) s.heap.objs.size f G)->sp J H Q E->
   ∃t,tF (wz yg P w K mg base N qual (zK st) f G A outer s H E).n5 (jT st) t/\t {nx:=λ_ Y=>Q .ih Y,rt:=Q} (wj N J) H):zi P w K mg base yg (k+1) f W L sp:=by
 obtain⟨g,i,kV,a,j,d,G,e,b,rfl,lk,B⟩:=F.ex;refine iG lk B S len λA outer s H J Q E I O=>?_;obtain⟨t,h,q⟩:=z G A outer s H J Q E I O;exact⟨t,h.n5,q⟩
theorem Dc.binds{x qual:Str}{st:i7}{f:eI}{W:u4}{L:List Str}(F:Dc K x qual st f W)
 (h : ∀(kV H J:gv) (I:Option eI) (G ct:gv) (O:List gv),O.length=L.length->Oi (GV x qual (ya st) (jT st) (zK st) .none kV H J I G ct) ⟨O,[]⟩=pure (L.zip O)):Binds K W L []:=by
 obtain⟨b,d,kV,H,J,I,G,ct,a,rfl,lk,z⟩:=F.ex;exact .all<|h kV H J I G ct
theorem eJ{x qual:Str}{st:i7}{f:eI}{O:gv}{od J:Option eI}{I:Array (Option gv)}{kV H L G ct:gv}(l:K.lookup f=aI ⟨O,od,.func<|GV x qual (ya st) (jT st) (zK st) .none kV H L J G ct,I⟩)
 (c:IM K G qual=cI) (k:Gm K (.ref f)=cI):Dc K x qual st f (GV x qual (ya st) (jT st) (zK st) .none kV H L J G ct):=⟨⟨O,od,kV,H,L,J,G,ct,I,rfl,l,c⟩,k⟩
end
def jn(H G:Hp):Prop:=∀b o,H b=aI o->G b=aI o
theorem jn.refl(H:Hp):jn H H:=λ_ _ h=>h
theorem jn.trans(a:jn H H1)(b:jn H1 H2):jn H H2:=λc o h=>b c o<|a c o h
theorem jn.free(e:jn H H')(h:H' l=Option.none):H l=Option.none:=by
 cases q:H l with
 | none=>rfl
 | some o=>
  rw[e l o q]at h;cases h
theorem jn.seq{K:Es}{H G:Hp}{a:eI}{xs:List V}(e:jn H G)(h:kv K H a xs):kv K G a xs:=by
 rcases h with(h | ⟨o,h⟩) | h
 ·exact .inl<|.inl<|e _ _ h
 ·exact .inl<|.inr ⟨o,e _ _ h⟩
 ·exact .inr h
noncomputable def ZJ(cells:List (Str×eI)):List (Str×Dn)->List (Str×eI)->List (Str×eI)
 | [],acc=>acc
 | (n,k)::r,acc=>ZJ cells r<|if k==EV then (match cells.lookup n with | some c=>(n,c)::acc | none=>acc)else acc
theorem yb(f:Str×Dn->List (Str×eI)->m6 (ForInStep<|List<|Str×eI))
 (H : ∀name kind G,f (name,kind) G=if kind==EV then (do let a <- cellOf env name;pure (.yield ((name,a)::G)))else pure (.yield G)) :
 ∀(names:List (Str×Dn)) (acc:List (Str×eI)),(∀n,(n,EV)∈names->∃c,env.cells.lookup n=aI c)->
  forIn names acc f=(pure (ZJ env.cells names acc):m6 _)
 | [],acc,_=>by rw[List.forIn_nil];rfl
 | (n,k)::r,acc,h=>by
  rw[List.forIn_cons,H];have z : ∀n,(n,EV)∈r->∃c,env.cells.lookup n=aI c:=λm g=>h m<|EK _ g;unfold ZJ;by_cases b:(k==EV)=cI
  ·rw[MY b,MY b]
   have B:k=EV:=by simpa using b
   subst B;obtain⟨c,d⟩:=h n EN;have e:cellOf env n=pure c:=by unfold cellOf;rw[d]
   rw[e,d];exact yb f H r _ z
  ·rw[RQ b,RQ b]
   exact yb f H r acc z
theorem vi(h : ∀n,(n,EV)∈scope.names->∃c,env.cells.lookup n=aI c) :
 Rg scope env=pure (ZJ env.cells scope.names []):=by
 simp only[Rg];rw[yb (env:=env) _ (λb a d=>by cases hk:a==EV<;>simp[hk]) scope.names [] h];rfl
theorem qr
 (z:Q {scope:=scope,locals:=s.heap.objs.size,globals:=globals,cells:=t4 (s.heap.objs.size+1) scope.names cl,qual:=qual,func:=cS,code:=env.code,frame:=env.frame,builtins:=env.builtins}
   {s with heap:=Dw (s.heap.push {cls:= .type "dict",data:= .dict #[]}) scope.names}) :
 wpAny M A (OL scope globals cl [] qual cS .none (aI env)) Q E s:=by
 simp only[OL,Option.isSome_some,if_true];refine Eu (wpAny_alloc ?_);refine Eu (wpAny_layCells _ (λb a cells=>by cases Sb:a==GW<;>simp[Sb]) _ _ _ _ ?_);rw[show({s with heap:=s.heap.push {cls:= .type "dict",data:= .dict #[]}}:gE).heap.objs.size=s.heap.objs.size+1 from FT ..];exact Eu (EB (EB z))
theorem Kw : ∀{names:List (Str×Dn)} {acc:List (Str×eI)},(n,c)∈ZJ cells names acc->(n,c)∈acc\/((n,EV)∈names/\cells.lookup n=aI c)
 | [],acc,h=> .inl h
 | (m,k)::r,acc,h=>by
  unfold ZJ at h;rcases Kw h with g | ⟨h1,h2⟩
  ·clear h
   by_cases a:(k==EV)=cI
   ·rw[MY a]at g
    have z:k=EV:=by simpa using a
    subst z;cases e:cells.lookup m with
    | none=>rw[e]at g;exact .inl g
    | some B=>
     rw[e]at g;rcases ED.mp g with g | g
     ·cases g;exact .inr ⟨EN,e⟩
     ·exact .inl g
   ·rw[RQ a]at g;exact .inl g
  ·exact .inr ⟨EK _ h1,h2⟩
theorem Zt : ∀{names:List (Str×Dn)} {acc:List (Str×eI)},((acc.lookup n).isSome=cI\/((n,EV)∈names/\(cells.lookup n).isSome=cI))->((ZJ cells names acc).lookup n).isSome=cI
 | [],acc,h=>by
  rcases h with h | ⟨h,_⟩
  ·exact h
  ·cases h
 | (m,k)::r,acc,h=>by
  unfold ZJ;apply Zt;by_cases a:(k==EV)=cI
  ·rw[MY a]
   have B:k=EV:=by simpa using a
   subst B;cases e:cells.lookup m with
   | none=>
    rcases h with h | ⟨h1,h2⟩
    ·exact .inl h
    ·rcases ED.mp h1 with h1 | h1
     ·cases h1;rw[e]at h2;cases h2
     ·exact .inr ⟨h1,h2⟩
   | some I=>
    dsimp only;by_cases z:n=m
    ·subst z;left;simp
    ·rcases h with h | ⟨h1,h2⟩
     ·left;rw[Fv];split<;>simp_all
     ·rcases ED.mp h1 with h1 | h1
      ·cases h1;exact absurd rfl z
      ·exact .inr ⟨h1,h2⟩
  ·rw[RQ a]
   rcases h with h | ⟨h1,h2⟩
   ·exact .inl h
   ·rcases ED.mp h1 with h1 | h1
    ·cases h1;exact absurd rfl a
    ·exact .inr ⟨h1,h2⟩
theorem xj : ∀{names:List (Str×Dn)} {k:Nat} {acc:List (Str×eI)},(n,c)∈t4 k names acc->(n,c)∈acc\/(k<=c/\(n,GW)∈names)
 | [],_,_,h=> .inl h
 | (m,kd)::r,k,acc,h=>by
  unfold t4 at h;split at h
  ·rename_i a
   have z:kd=GW:=by simpa using a
   subst z;rcases xj h with h | ⟨h1,h2⟩
   ·rcases ED.mp h with h | h
    ·cases h;exact .inr ⟨EF _,EN⟩
    ·exact .inl h
   ·exact .inr ⟨by omega,EK _ h2⟩
  ·rcases xj h with h | ⟨h1,h2⟩
   ·exact .inl h
   ·exact .inr ⟨h1,EK _ h2⟩
theorem kB : ∀{names:List (Str×Dn)} {k:Nat} {acc:List (Str×eI)},(∀p∈acc,∀q∈acc,p.2=q.2->p.1=q.1)->(∀p∈acc,p.2<k)->
 ∀p∈t4 k names acc,∀q∈t4 k names acc,p.2=q.2->p.1=q.1
 | [],_,_,h,_=>h
 | (m,kd)::r,k,acc,h,hl=>by
  unfold t4;split
  ·refine kB (λp hp q hq e=>?_) (λp hp=>?_)
   ·rcases ED.mp hp with rfl | hp<;>rcases ED.mp hq with rfl | hq
    ·rfl
    ·have z:k=q.2:=e
     exact absurd (z ▸ hl q hq)<|DA _
    ·have z:p.2=k:=e
     exact absurd (z ▸ hl p hp)<|DA _
    ·exact h p hp q hq e
   ·rcases ED.mp hp with rfl | hp
    ·exact Iy _
    ·exact Gc<|hl p hp
  ·exact kB h hl
theorem ZD : ∀{names:List (Str×Dn)} {h:h7} {acc:List (Str×eI)} {n:Str} {c:eI},(n,c)∈t4 h.objs.size names acc->(n,c)∈acc\/(Dw h names).IsCell c cS
 | [],_,_,_,_,hm=> .inl hm
 | (m,kd)::r,h,acc,n,c,hm=>by
  unfold t4 at hm;unfold Dw;split at hm
  ·rename_i a
   rw[MY a];have e:h.objs.size+1=(h.push {cls:= .type "cell",data:= .cell cS}).objs.size:=(FT ..).symm;rw[e]at hm;rcases ZD hm with hm | hm
   ·rcases ED.mp hm with hm | hm
    ·cases hm
     have z:(h.push {cls:= .type "cell",data:= .cell cS}).IsCell h.objs.size cS:=⟨{cls:= .type "cell",data:= .cell cS},ET _ rfl,rfl⟩;exact .inr (z.keeps λb o q=>Ih _ _ b o q)
    ·exact .inl hm
   ·exact .inr hm
  ·rename_i a
   rw[RQ a];exact ZD hm
theorem kg{H:Type}{l:List (Str×H)}(G:(l.map (·.1)).Nodup) : ∀{n:Str} {a:H},(n,a)∈l->l.lookup n=aI a:=by
 induction l with
 | nil=>intro n a h;cases h
 | cons p r z=>
  intro n a h;obtain⟨m,b⟩:=p;rw[Fb,IH]at G;rw[Fv];rcases ED.mp h with h | h
  ·cases h;simp
  ·have B:(n==m)=dV:=by
    have:n≠m:=λe=>G.1 (by rw[<- e];exact FA.mpr ⟨(n,a),h,rfl⟩);simpa using this
   rw[B];exact z G.2 h
theorem yz(scope:i2)(env:l0)(x:Str):(t6 scope env).names.lookup x =
 (scope.names.lookup x).map λk=>if (k==EV && env.scope.kind == .function && env.kindOf x==aI .cell)then GW else k:=by
 unfold t6;dsimp only;generalize scope.names=l
 induction l with
 | nil=>rfl
 | cons p r z=>
  obtain⟨n,k⟩:=p;rw[Fb];cases hx:x==n with
  | true=>
   have e:x=n:=by simpa using hx
   subst e;rw[Fv,Fv];dsimp only;by_cases a:(k==EV && env.scope.kind == .function && env.kindOf x==aI .cell)=cI
   ·rw[MY a,beq_self_eq_true];dsimp only[FY];rw[MY a]
   ·rw[RQ a,beq_self_eq_true];dsimp only[FY];rw[RQ a]
  | false=>
   have : ∀B,LA x ((n,B)::(r.map λx=>match x with | (n,k)=>if (k==EV && env.scope.kind == .function && env.kindOf n==aI .cell)=cI then (n,GW)else (n,k)))=LA x (r.map λx=>match x with | (n,k)=>if (k==EV && env.scope.kind == .function && env.kindOf n==aI .cell)=cI then (n,GW)else (n,k)):=λB=>by rw[Fv,hx]
   rw[Fv (k:=n),hx];dsimp only;split
   ·rw[this];exact z
   ·rw[this];exact z
noncomputable def qx(scope:i2)(env:l0)(L:eI):l0:=
 {scope:=t6 scope env,locals:=L,globals:=env.globals,cells:=t4 (L+1) scope.names<|ZJ env.cells scope.names [],qual:=env.qual,func:=cS,code:=env.code,frame:=env.frame,builtins:=env.builtins}
noncomputable def jb(X:Cx)(scope:i2)(z:List Str)(fp:List eI)(G:gE)(H:Hp):Cx:=
 {X with N:=z,i6:=G,DB:=H,env:=qx scope X.env<|G.heap.objs.size+1,outer:=X.stack,stack:=X.stack,ex:=fp,fn:=λx=>scope.names.lookup x==aI .cell,pn:=[],xe:=λ_ _=>False}
structure A9(X:Cx)(scope:i2)(fr:List (Str×Nat)):Prop where
 kind:scope.kind = .function
 nd:(scope.names.map (·.1)).Nodup
 free : ∀p∈scope.names,p.2=EV->X.env.kindOf p.1=aI .cell\/X.env.kindOf p.1=aI .free
 fr : ∀p∈fr,scope.names.lookup p.1=aI .free/\X.N[p.2]? = aI p.1
noncomputable def Vu(own:List Str)(fr:List (Str×Nat))(G:St):St:=own.map (λ_=>cS)++fr.map λp=>(G[p.2]?).join
abbrev wt:n0:={cls:= .type "list",data:= .seq #[]}
abbrev Wx:n0:={cls:= .type "dict",data:= .dict #[]}
theorem Kz{X:Cx}{H:MW}{L:St}{J:Hp}{G:gE}{scope:i2}{own:List Str}{fr:List (Str×Nat)}{fp:List eI}(I:Inv X H L J G)(ok:A9 X scope fr)
 (W : ∀b∈fp,Q0 X H J b) (Z : ∀b∈fp,∃o,G.heap.get? b=aI o) :
 Inv (jb X scope (own++fr.map (·.1)) fp G J) [] (Vu own fr L) (upd J G.heap.objs.size<|.lst []) {G with heap:=Dw ((G.heap.push wt).push Wx) scope.names}:=by
 have P:(G.heap.push wt).objs.size=G.heap.objs.size+1:=FT ..;have z2:((G.heap.push wt).push Wx).objs.size=G.heap.objs.size+2:=by rw[FT,P]
 have O : ∀n c,(n,c)∈ZJ X.env.cells scope.names []->(n,EV)∈scope.names/\X.env.cells.lookup n=aI c:=λn c h=>(Kw h).resolve_left ⋯;have a5 : ∀n c,X.env.cells.lookup n=aI c->c<G.heap.objs.size:=λn c h=>by obtain⟨v,q⟩:=I.cell n c h;exact q.lt
 have Q : ∀p∈ZJ X.env.cells scope.names [],p.2<G.heap.objs.size+1+1:=λp g=>by exact Gc<|Gc<|a5 p.1 p.2 (O p.1 p.2 g).2
 have hC:(qx scope X.env<|G.heap.objs.size+1).cells=t4 (G.heap.objs.size+2) scope.names (ZJ X.env.cells scope.names []):=rfl;have a : ∀x c,(qx scope X.env<|G.heap.objs.size+1).cells.lookup x=aI c->((x,EV)∈scope.names/\X.env.cells.lookup x=aI c)\/(G.heap.objs.size+2<=c/\(x,GW)∈scope.names):=λx c h=>by
  rcases xj (mem_of_lookup h)with h | h
  ·exact .inl<|O x c h
  ·exact .inr h
 have C : ∀x,(x,EV)∈scope.names->∃c,X.env.cells.lookup x=aI c/\(qx scope X.env<|G.heap.objs.size+1).cells.lookup x=aI c:=λx r=>by
  obtain⟨c,j⟩:=I.ok.has x<|ok.free (x,.free) r rfl;have t:((ZJ X.env.cells scope.names []).lookup x).isSome=cI:=Zt<|.inr ⟨r,by rw[j];rfl⟩;have l:=Hd scope.names (G.heap.objs.size+2) (ZJ X.env.cells scope.names [])<|.inr t;obtain⟨M,E⟩:=FE.mp l;refine⟨c,j,?_⟩;rcases a x M E with⟨_,q⟩ | ⟨_,q⟩
  ·rw[j]at q;cases q;exact E
  ·exact absurd ((kg ok.nd q).symm.trans (kg ok.nd r)) ⋯
 have d : ∀b o,G.heap.get? b=aI o->(Dw ((G.heap.push wt).push Wx) scope.names).get? b=aI o:=λb o e=>
  Ih _ _ b o (Ew _<|Ew _ e)
 have a9 : ∀b∈fp,b<G.heap.objs.size:=λb B=>by obtain⟨o,e⟩:=Z b B;exact EH e
 have fresh:J G.heap.objs.size=cS:=I.h8.fresh<|EF _;have F : ∀c,G.heap.objs.size<c->(upd J G.heap.objs.size<|.lst []) c=cS:=λc j=>by rw[zu (HN j)];exact I.h8.fresh<|Mo j
 obtain⟨m0,as⟩ : ∃m,(Dw ((G.heap.push wt).push Wx) scope.names).Ns (G.heap.objs.size+1) m:=by have q:=(Heap.Ns.new (G.heap.push wt) (.type "dict")).keeps (λb o e=>Ih scope.names _ b o e);rw[P]at q;exact⟨_,q⟩
 refine⟨⟨I.ok.mod,ok.kind,I.ok.glob,I.ok.blt,Nat.le_succ _,λx y c t l=>?_,λx r=>?_,λx c hf h=>?_,I.ok.hd,I.ok.frames,.inl rfl,λb B=>⟨?_,λx c h z=>?_⟩,λb o e=>I.bs b o e,?_,λb o e B=>?_,λb B hs=>?_,I.stack,I.D8⟩,
  rfl,I.bare,Un.laid d (EF _) fresh,⟨m0,as,λi x v N f e3=>?_⟩,λx c h=>?_,?_,λx c h=>?_,λp g=>?_,?_,?_⟩
 ·have q:=kB (names:=scope.names) (k:=G.heap.objs.size+2) (acc:=ZJ X.env.cells scope.names []) (λp g q hq e=>I.ok.inj p.1 q.1 p.2 (O _ _ g).2 (by rw[e];exact(O _ _ hq).2)) Q
  exact q (x,c) (mem_of_lookup t) (y,c) (mem_of_lookup l) rfl
 ·have R:(t6 scope X.env).names.lookup x=aI .cell\/(t6 scope X.env).names.lookup x=aI .free:=r
  have:scope.names.lookup x=aI .cell\/scope.names.lookup x=aI .free:=by
   rw[yz]at R;cases e:scope.names.lookup x with
   | none=>rw[e]at R;simp at R
   | some k=>
    rw[e]at R;cases k<;>simp at R ⊢
  rcases this with h | h
  ·exact FE.mp<|Hd scope.names _ _<|.inl h
  ·obtain⟨c,_,l⟩:=C x<|mem_of_lookup h;exact⟨c,l⟩
 ·have S:(scope.names.lookup x==aI .cell)=cI:=hf
  have T:scope.names.lookup x=aI .cell:=by simpa using S
  rcases a x c h with⟨q,_⟩ | ⟨q,_⟩
  ·exact absurd ((kg ok.nd q).symm.trans T) ⋯
  ·exact EX (GA _ 2) q
 ·exact ER<|Gc<|a9 b B
 ·rcases a x c h with⟨_,q⟩ | ⟨q,_⟩
  ·exact(W b B).2.2.2.2.1 x c q z
  ·exact absurd (EJ (a9 b B)<|EX (GA _ 2)<|z ▸ q)<|DA _
 ·exact EX I.ok.Df I.sz
 ·rcases (W b B).2.2.2.1 with q | q
  ·exact I.ok.L4 b o e q
  ·exact absurd (EJ (EH e)<|EX I.ok.Df q)<|DA _
 ·rcases ED.mp (I.F6 b hs)with q | q
  ·exact(W b B).2.1 q
  ·exact(W b B).2.2.1 q
 ·have hi:i<(own++fr.map (·.1)).length:=(EL.mp N).1
  by_cases s:i<own.length
  ·unfold Vu at f
   rw[Gr (by simpa using s)]at f;simp[Fi,s]at f
  ·have hj : ∃p,fr[i - own.length]? = aI p/\p.1=x/\(L[p.2]?).join=aI v:=by
    unfold Vu at f;have U:(own++fr.map (·.1))[i]? = aI x:=N;rw[FP ⋯,Fi]at U;rw[FP (by simpa using s),Fi,EE]at f;cases q:fr[i - own.length]? with
    | none=>rw[q]at U;cases U
    | some p=>
     rw[q]at U f;exact⟨p,rfl,by simpa using U,by simpa using f⟩
   obtain⟨p,g,bd,Y⟩:=hj;obtain⟨g1,g2⟩:=ok.fr p<|HB g;rw[bd]at g1 g2;have w:L[p.2]? = aI (aI v):=by
    cases q:L[p.2]? with
    | none=>rw[q]at Y;cases Y
    | some o=>rw[q]at Y;simpa using Y
   have K:=ok.free (x,.free) (mem_of_lookup g1) rfl;obtain⟨m,hn,hl⟩:=I.loc;obtain⟨u,ru,lk⟩:=hl p.2 x v g2 w (by rcases K with k | k;exact .inr<|.inl k;exact .inr<|.inr k);refine⟨u,ru,.inr ?_⟩;obtain⟨c,bi,bl⟩:=C x<|mem_of_lookup g1;have bn:G.heap.IsCell c (aI u):=by
    rcases lk with⟨k,_⟩ | ⟨_,M,e,z⟩
    ·rcases K with k' | k'<;>rw[k]at k'<;>cases k'
    ·rw[bi]at e;cases e;exact z
   refine⟨?_,c,bl,bn.keeps d⟩;show(t6 scope X.env).names.lookup x=aI .cell\/(t6 scope X.env).names.lookup x=aI .free;rw[yz,g1];dsimp only[FY];split
   ·exact .inl rfl
   ·exact .inr rfl
 ·rcases xj (mem_of_lookup h)with q | q
  ·obtain⟨v,A⟩:=I.cell x c (O x c q).2
   exact⟨v,A.keeps d⟩
  ·have q2:=mem_of_lookup h
   have q3:(x,c)∈t4 ((G.heap.push wt).push Wx).objs.size scope.names (ZJ X.env.cells scope.names []):=by rw[z2];exact q2
   rcases ZD q3 with q4 | q4
   ·obtain⟨v,A⟩:=I.cell x c (O x c q4).2
    exact⟨v,A.keeps d⟩
   ·exact⟨cS,q4⟩
 ·exact F _<|Iy _
 ·rcases a x c h with⟨_,q⟩ | ⟨q,_⟩
  ·rw[zu (ER<|a5 x c q)];exact I.B4 x c q
  ·exact F c<|EJ (Gc<|Iy _) q
 ·exact absurd (show p∈([]:MW)from g) ⋯
 ·refine I.h8.laid d (EF _) ⟨He _,[],0,.nil,?_⟩
  exact Ih _ _ _ _<|Ew _<|ET _ rfl
 ·show(Vu own fr L).length=(own++fr.map (·.1)).length
  simp[Vu]
theorem yt(I:Nat->gE->Prop)
 (G : ∀n s,I n s->wpAny (hA prog w) A (NQ it) (λr z=>match r with
   | none=>R (.ok .next) z
   | some v=>wpAny (hA prog w) A (MU target it v) (λ_ z=>wpAny (hA prog w) A (DT target env v) (λ_ O=>
    wpAny (hA prog w) A (forIn ifs cI λc r=>if r=cI then do let ok <- NG c env (hX c env);pure (Lf ok)else pure (Lf r)) (λok B=>
     if ok=cI then wpAny (hA prog w) A (hX elt env) (λx U=>
      wpAny (hA prog w) A (call (.builtin "list.append") [acc,x]) (λ_ W=>∃m,m<n/\I m W) (λ_ _=>False) U) (λ_ _=>False) B
     else ∃m,m<n/\I m B) (λ_ _=>False) O) (λ_ _=>False) z) (λ_ _=>False) z) (λ_ _=>False) s)
 (n:Nat) (h:I n s) :
 codeAny (hA prog w) A (.compLoop (.ListComp elt [⟨target,iter,ifs,0⟩] scope pos) 0 it acc env) R s:=by
 refine codeAny_loop rfl I (λn s i=>?_) n h;show wpAny _ A ((compTurn (.ListComp elt [⟨target,iter,ifs,0⟩] scope pos) 0 it acc env).onRaise (λx=>do L5 x env;theTreesLotGoes x)) _ _ s;refine wpAny_noted ?_;rw[compTurn_list];refine Eu<|Gw<|Eu<|EG (G n s i) (λr z Y=>?_) λ_ _ a=>a.elim;cases r with
 | none=>exact EB Y
 | some v=>
  refine Eu<|EG Y (λ_ j g=>?_) λ_ _ a=>a.elim;refine Eu<|EG g (λ_ O d=>Eu<|EG d (λok B b=>?_) λ_ _ a=>a.elim) λ_ _ a=>a.elim;cases ok with
  | false=>exact EB ⟨rfl,b⟩
  | true=>
   exact Eu<|Eu<|EG b (λx U e=>Eu<|EG e (λ_ W f=>EB<|EB ⟨rfl,f⟩) λ_ _ a=>a.elim) λ_ _ a=>a.elim
noncomputable def lO(X:Cx)(G:List hH)(t:TT):Prop:=
 ∀(a:MW) (s:gE) (b:St) (H:Hp) (Q:Bool->Hp->Prop),Inv X a b H s->t b H Q->
  wpAny (hA X.prog X.w) X.A (forIn G cI λc r=>if r=cI then do let ok <- NG c X.env (hX c X.env);pure (Lf ok)else pure (Lf r)) (TP X a b Q) X.xe s
def tw:TT:=λ_ H Q=>Q true H
theorem Kp:lO X [] tw:=λ_ _ _ H _ I h=>wpAny_tests_nil ⟨H,I,h⟩
theorem bc(h:PT X c t):lO X [c] t:=λa s d H Q I b=>wpAny_tests_one<|h a s d H Q I b
noncomputable def CW(J:It)(g:TG)(L:TT)(G:TE)(D:eI)(Q:VK)(W:Nat->Nat->List V->St->Hp->Prop):Prop:=
 ∀i m a f H,W i m a f H->H D=aI (.lst a)/\((J.stop i H/\Q (.ref D) H)\/(J.go i H/\a.length<j3/\∀x e,J.C8 i H x e->g x f e λz h=>L z h λb B=>
  if b=cI then G z B λv I=>I D=aI (.lst a)/\∃d,d<m/\W (i+1) d (a++[v]) z (upd I D<|.lst<|a++[v])else ∃d,d<m/\W (i+1) d a z B))
noncomputable def cM(X:Cx)(G:MW)(H:Hp)(L:eI):Prop:=
 H L=cS/\L≠X.env.locals/\X.i6.heap.objs.size<=L/\(∀x c,X.env.cells.lookup x=aI c->c≠L)/\∀p∈X.pn++G,p.1≠L
theorem cC
 (hc:X.calm=cI) (I:Inv X pins σ H2 s2) (ok:A9 X scope fr) (T:Turn X.prog X.w X.K tg J fp it tn) (st:tn 0 s2.heap) (R : ∀b∈fp,Q0 X pins H2 b)
 (hg:PG (jb X scope (own++fr.map (·.1)) fp s2 H2) tg g) (ht:lO (jb X scope (own++fr.map (·.1)) fp s2 H2) ifs tt) (he:PE (jb X scope (own++fr.map (·.1)) fp s2 H2) elt te)
 (hW : ∀D,H2 D=cS->∃W:Nat->Nat->List V->St->Hp->Prop,(∃m,W 0 m [] (Vu own fr σ) (upd H2 D<|.lst []))/\CW J g tt te D Q W) :
 wpAny (hA X.prog X.w) X.A (NM []) (λacc H=>wpAny (hA X.prog X.w) X.A (OL scope X.env.globals (ZJ X.env.cells scope.names []) [] X.env.qual cS .none (aI X.env)) (λcenv L=>
  codeAny (hA X.prog X.w) X.A (.compStart (.ListComp elt [⟨tg,iter,ifs,0⟩] scope pos) 0 (.ref it) acc {cenv with scope:=t6 scope X.env})
   (λr s'=>(∃f,r = .ok f)/\∃D G,acc = .ref D/\Inv X pins σ G s'/\Q (.ref D) G/\(∃m,s'.heap.Ns cenv.locals m)/\cM X pins G cenv.locals) L) E H) E s2:=by
 have ar : ∀b∈fp,∃o,s2.heap.get? b=aI o:=λb B=>by obtain⟨o,e,_⟩:=T.obj 0 _ st b B;exact⟨o,e⟩
 have N:=Kz (own:=own) I ok R ar;obtain⟨W,⟨m0,w0⟩,cw⟩:=hW _ I.fresh;refine Gd<|qr ?_;have z1:(s2.heap.push wt).objs.size=s2.heap.objs.size+1:=FT ..;show codeAny _ _ (.compStart _ 0 (.ref it) (.ref s2.heap.objs.size) {scope:=t6 scope X.env,locals:=(s2.heap.push wt).objs.size,globals:=X.env.globals,cells:=t4 ((s2.heap.push wt).objs.size+1) scope.names<|ZJ X.env.cells scope.names [],qual:=X.env.qual,func:=cS,code:=X.env.code,frame:=X.env.frame,builtins:=X.env.builtins})
  (λr s'=>(∃f,r = .ok f)/\∃D G,EO s2.heap.objs.size = .ref D/\Inv X pins σ G s'/\Q (.ref D) G/\(∃m,s'.heap.Ns (s2.heap.push wt).objs.size m)/\cM X pins G (s2.heap.push wt).objs.size) {s2 with heap:=Dw ((s2.heap.push wt).push Wx) scope.names}
 rw[z1];have as:tn 0 (Dw ((s2.heap.push wt).push Wx) scope.names):=T.keep 0 _ _ st λb _ o e=>Ih _ _ b o<|Ew _<|Ew _ e;have c8 : ∀b∈fp,b<s2.heap.objs.size:=λb B=>by obtain⟨o,e⟩:=ar b B;exact EH e
 have a9 : ∀{G:Hp},(∀b∈fp,G b=cS)->∀b∈fp,Q0 (jb X scope (own++fr.map (·.1)) fp s2 H2) [] G b:=λhn b B=>
  ⟨hn b B,(N.ok.FI b B).1,N.ok.F2 b B,.inl B,(N.ok.FI b B).2,λp hp=>absurd (show p∈([]:MW)from hp) ⋯⟩
 have ax:codeAny (hA X.prog X.w) X.A (.compLoop (.ListComp elt [⟨tg,iter,ifs,0⟩] scope pos) 0 (.ref it) (.ref s2.heap.objs.size)<|qx scope X.env<|s2.heap.objs.size+1)
  (λr s'=>(∃f,r = .ok f)/\∃D G,EO s2.heap.objs.size = .ref D/\Inv X pins σ G s'/\Q (.ref D) G/\(∃m,s'.heap.Ns (s2.heap.objs.size+1) m)/\cM X pins G (s2.heap.objs.size+1)) {s2 with heap:=Dw ((s2.heap.push wt).push Wx) scope.names}:=by
  refine yt (λn s'=>∃i t y G,Inv (jb X scope (own++fr.map (·.1)) fp s2 H2) [] y G s'/\tn i s'.heap/\(∀b∈fp,G b=cS)/\W i n t y G) ?_ m0
   ⟨0,[],_,_,N,as,λb B=>by rw[zu (ER<|c8 b B)];exact(R b B).1,w0⟩
  rintro n s3 ⟨i,t,a,F,I3,l,bd,w3⟩;obtain⟨hD,ca⟩:=cw i n t a F w3;rcases ca with⟨s,qn⟩ | ⟨go,hz,step⟩
  ·refine ij (T.done (jb X scope (own++fr.map (·.1)) fp s2 H2) rfl rfl rfl hc i [] s3 a F _ I3 (a9 bd) l s) λr s4 O=>?_
   obtain⟨hr,U⟩:=O;subst hr;refine⟨⟨_,rfl⟩,_,F,rfl,I.Oj (ch:=fp) U.os U.base U.h8 U.bare<|λb B=>⟨(R b B).2.2.2.1,(R b B).2.1,(R b B).2.2.2.2.1,(R b B).2.2.2.2.2⟩,qn,?_,U.free,?_,?_,?_,?_⟩
   ·obtain⟨m,hn,_⟩:=U.loc
    exact⟨m,hn⟩
   ·exact HN<|Gc I.lt
   ·exact Nat.le_succ_of_le I.sz
   ·intro x c e z
    obtain⟨v,q⟩:=I.cell x c e;exact absurd (Gc q.lt) (by rw[z];exact DA _)
   ·intro p hp z
    exact absurd (Gc<|EH (I.pin p hp).1) (by rw[z];exact DA _)
  ·refine ij (T.item (jb X scope (own++fr.map (·.1)) fp s2 H2) rfl rfl rfl hc i [] s3 a F _ I3 (a9 bd) l go) λr s4 O=>?_
   obtain⟨u,hr,h4⟩:=O;subst hr;refine ij h4 λ_ s5 O=>?_;obtain⟨x,H5,I5,r5,y5,ak,cn⟩:=O;have co:=I5.pinned (a9 cn)<|T.obj _ _ ak;refine ij (hg _ s5 a H5 x u _ co r5<|step x H5 y5) λ_ s6 O=>?_;obtain⟨h,H6,I6,q6⟩:=O;refine ij (ht _ s6 h H6 _ I6 q6) λb s7 O=>?_;obtain⟨H7,P,S⟩:=O;have after : ∀{C:St} {M:Hp} {Y:gE},Inv (jb X scope (own++fr.map (·.1)) fp s2 H2) ([]++Z6 fp s5.heap) C M Y->tn (i+1) Y.heap/\∀b∈fp,M b=cS:=λ{C M Y} j=>by refine⟨T.keep _ _ _ ak λb B o e=>(j.pin (b,o)<|EW _<|EW _<|xq B e).1,λb B=>?_⟩;obtain⟨o,e,d⟩:=T.obj _ _ ak b B;exact(j.pin (b,o)<|EW _<|EW _<|xq B e).2.1
   cases b with
   | false=>
    rw[RQ ES]at S ⊢;obtain⟨m',hm,w7⟩:=S;exact⟨m',hm,i+1,t,h,H7,P.M6,(after P).1,(after P).2,w7⟩
   | true=>
    rw[MY rfl]at S ⊢;refine ij (he _ s7 h H7 _ P S) λv8 Y O=>?_;obtain⟨x8,M,j,r8,bn,m',hm,w8⟩:=O;obtain⟨z8,bv,n8,rv,d6,e8⟩:=j.PC bn;refine Hm Mi ⟨_,e8,rfl⟩ Ma (LK _ _) (LV _ bv.toArray n8 v8<|by rw[EM];omega) ⟨e8,?_⟩;have Z:=j.PB (its':=bv++[v8]) (f:=(·.push v8)) (t':=Y.toks) bn e8 ⋯ (rv.append<|.cons r8 .nil) (by rw[Fc,Ho];omega);exact⟨m',hm,i+1,t++[x8],h,_,Z.M6,(after Z).1,(after Z).2,w8⟩
 exact R1 ax<|T.self _ 0 _ _ _ as ax
noncomputable def aE(L:TI)(own:List Str)(fr:List (Str×Nat))(g:TG)(I:TT)(G:TE):TE:=λb H Q=>L b H λJ a=>∀D,a D=cS->
 ∃W:Nat->Nat->List V->St->Hp->Prop,(∃m,W 0 m [] (Vu own fr b) (upd a D<|.lst []))/\CW J g I G D Q W
section
variable{X:Cx}{scope:i2}{own:List Str}{fr:List (Str×Nat)}{elt tg iter:hH}{ifs:List hH}{pos:ik}{wi:TI}{g:TG}{tt:TT}{te:TE}
theorem KM
 (hc:X.calm=cI) (ok:A9 X scope fr) (hi:PI X tg iter wi) (z : ∀fp Z G,PG (jb X scope (own++fr.map (·.1)) fp Z G) tg g)
 (B : ∀fp Z G,lO (jb X scope (own++fr.map (·.1)) fp Z G) ifs tt) (O : ∀fp Z G,PE (jb X scope (own++fr.map (·.1)) fp Z G) elt te)
 (I:Inv X pins σ H s) (h:aE wi own fr g tt te σ H Q)
 (hR : ∀D H' s' L,Inv X pins σ H' s'->Q (.ref D) H'->(∃m,s'.heap.Ns L m)->cM X pins H' L->
   compPost (hA X.prog X.w) X.A X.xe use R (.ref D) L (.ok .next) s')
 (hs : ∀x,AR iter X.env x=pure x:=by intro _;rfl) :
 wpAny (hA X.prog X.w) X.A (Nx (.ListComp elt [⟨tg,iter,ifs,0⟩] scope pos) scope X.env (firstIterPos [⟨tg,iter,ifs,0⟩] pos) (NM []) dV (hX iter X.env) use) R X.xe s:=by
 refine wpAny_comprehension_free rfl hs (vi λn b=>I.ok.has n<|ok.free (n,.free) b rfl) ok.kind (λx F e=>by rw[<- e];exact kg ok.nd<|show(x.1,x.2)∈scope.names from F) ?_;refine ij (hi pins s σ H _ I h) λv P j=>ij j λM Z l=>?_;obtain⟨N,fp,tn,J,G,e,U,T,W,Y,u⟩:=l;subst e;refine ij (cC (own:=own) (Q:=Q) (E:=X.xe) hc U ok T W Y (z fp Z G) (B fp Z G) (O fp Z G) u) λacc S o=>ij o λa s4 p=>HY p λr s' t=>?_;obtain⟨⟨f,C⟩,D,H',i,d,q,b,y⟩:=t;subst C;subst i;have K:=hR D H' s' a.locals d q b y;cases use<;>exact K
theorem Xt(Z:X.calm=cI)(ok:A9 X scope fr)(hi:PI X tg iter wi)(z : ∀fp J G,PG (jb X scope (own++fr.map (·.1)) fp J G) tg g)
 (B : ∀fp J G,lO (jb X scope (own++fr.map (·.1)) fp J G) ifs tt) (O : ∀fp J G,PE (jb X scope (own++fr.map (·.1)) fp J G) elt te)
 (hs : ∀x,AR iter X.env x=pure x:=by intro _;rfl) :
 PE X (.ListComp elt [⟨tg,iter,ifs,0⟩] scope pos) (aE wi own fr g tt te):=by
 intro a s u H Q I h;rw[eval_ListComp];refine KM (use:=cS) Z ok hi z B O I h (λD d l L R q j y=>?_) hs;obtain⟨m,i⟩:=j;obtain⟨U,W,Y,p,r⟩:=y;refine⟨m,i,λt n=>⟨.ref D,d,R.turned (t':=l.toks) (it:=L) (λb o f e=>n.extBut b o f e) U W (.inr Y) p r,rfl,q⟩⟩
theorem Yr(B:X.N.Nodup)(O:X.N[i]? = aI y)(U:Loc X.env.scope y)(hf:X.fn y=cI\/X.env.scope.names.lookup y=aI .local)
 (Z:X.calm=cI) (ok:A9 X scope fr) (hi:PI X tg iter wi) (W : ∀fp J G,PG (jb X scope (own++fr.map (·.1)) fp J G) tg g)
 (Y : ∀fp J G,lO (jb X scope (own++fr.map (·.1)) fp J G) ifs tt) (he : ∀fp J G,PE (jb X scope (own++fr.map (·.1)) fp J G) elt te)
 (hs : ∀x,AR iter X.env x=pure x:=by intro _;rfl) :
 PS X (.Assign [.Name y py] (.ListComp elt [⟨tg,iter,ifs,0⟩] scope pos) spos) (Y6 (aE wi own fr g tt te)<|vf i):=by
 have z : ∃b:Bool,tG (.ListComp elt [⟨tg,iter,ifs,0⟩] scope pos) (aI (.Name y py)) spos.line X.env=pure b:=⟨_,rfl⟩;obtain⟨b,z⟩:=z;cases b with
 | false=>
  have C:Rx [.Name y py] (.ListComp elt [⟨tg,iter,ifs,0⟩] scope pos) spos.line X.env=tG (.ListComp elt [⟨tg,iter,ifs,0⟩] scope pos) (aI (.Name y py)) spos.line X.env:=rfl;exact dv (Xt Z ok hi W Y he hs) (VI B O U hf) (by rw[C];exact z)
 | true=>
  intro d s σ H D I h;rw[R9 _ _ _ _ z];refine Eu<|Gw<|Eu ?_;show wpAny _ X.A (do let _ <- Nx (.ListComp elt [⟨tg,iter,ifs,0⟩] scope pos) scope X.env _ (NM []) dV (hX iter X.env) (aI (DT (.Name y py) X.env))) _ _ s;refine Eu<|ij (KM (R:=λ_ f=>SP X d D .next f) (use:=aI (DT (.Name y py) X.env)) Z ok hi W Y he I h (λj H' f L n q K T=>?_) hs) λ_ f q=>EB<|EB q;obtain⟨P,l,Q,y4,S⟩:=T;obtain⟨m,F⟩:=K;show wpAny _ _ (DT (.Name y py) X.env<|.ref j) _ _ _;refine SR<|J9 n B O U (v:= .ref j) rfl (λp r t=>?_) hf;obtain⟨a,M,E⟩:=t;have u:L≠a:=by
   rcases E with e | e
   ·rw[e];exact l
   ·exact Fy<|y4 _ _ e
  refine⟨m,F.sameBut M u,λh' w=>⟨_,_,r.turned (t':=p.toks) (it:=L) (λb o z e=>w.extBut b o z e) P l (.inr Q) y4 S,q⟩⟩
end
inductive Sk where
 | L | T
 deriving DecidableEq
end L2
namespace DL
open PySem L2
inductive D where
 | ih | bl (b:Bool) | int (i:Int) | str (x:Str) | tup (xs:List D) | lst (xs:List D)
 | exc (c:Str) (n:Option Int)
 | pk (ks vs:List D)
 | n4 (ks:List (List Int)) (vs:List D)
 | ins (c:Str) (p t:D)
inductive Cell where
 | no | val (d:D) | own (ds:List D) | nest (rows:List (List D))
abbrev Ctx:=List Cell
abbrev CO (a : Type) := Ctx -> Option a
def lim:Nat:=2500
noncomputable def qW:D->Option (Sk×List D)
 | .tup a=>aI (.T,a)
 | .lst a=>aI (.L,a)
 | _=>cS
def jf(f:CO D)(γ:Ctx):Option (Sk×List D):=(f γ).bind qW
def xX(f:CO (List D))(γ:Ctx):Option D:=(f γ).map D.lst
noncomputable def zI(f:CO (List D))(γ:Ctx):Option (Sk×List D):=(f γ).map λa=>(Sk.L,a)
def WG:Option Cell->Option D
 | some (.val d)=>aI d
 | _=>cS
noncomputable def vS:Option Cell->Option (Sk×List D)
 | some (.val d)=>qW d
 | some (.own ds)=>aI (.L,ds)
 | _=>cS
def zd(i:Nat)(γ:Ctx):Option D:=WG γ[i]?
def zh(i:Nat)(γ:Ctx):Option (Sk×List D):=vS γ[i]?
noncomputable def ze(d:D):CO D:=λ_=>aI d
noncomputable def zo(F:D->D->Option D)(G H:CO D)(γ:Ctx):Option D:=(G γ).bind λx=>(H γ).bind λy=>F x y
def Dd:D->Option Bool
 | .bl b=>aI b
 | _=>cS
def o4:D->Option Int
 | .int i=>aI i
 | _=>cS
def sB(f:CO D)(γ:Ctx):Option Bool:=(f γ).bind Dd
noncomputable def Xg(f g:CO Bool)(γ:Ctx):Option Bool:=(f γ).bind λb=>if b=cI then g γ else aI dV
noncomputable def xJ(f g:CO Bool)(γ:Ctx):Option Bool:=(f γ).bind λb=>if b=cI then aI cI else g γ
def z9(f:CO Bool)(γ:Ctx):Option Bool:=(f γ).map λb=> !b
noncomputable def Qh(f g:CO D)(γ:Ctx):Option D:=((f γ).bind Dd).bind λb=>if b=cI then g γ else aI (.bl dV)
noncomputable def PN(f g:CO D)(γ:Ctx):Option D:=((f γ).bind Dd).bind λb=>if b=cI then aI (.bl cI)else g γ
noncomputable def rm(f:CO D)(γ:Ctx):Option D:=((f γ).bind Dd).map λb=> .bl (!b)
noncomputable def fT(c:CO Bool)(f g:CO D)(γ:Ctx):Option D:=(c γ).bind λb=>if b=cI then f γ else g γ
def zB:CO (List D):=λ_=>aI []
noncomputable def zb(f:CO D)(g:CO (List D))(γ:Ctx):Option (List D):=(f γ).bind λx=>(g γ).map λr=>x::r
noncomputable def xM(f:CO (List D))(γ:Ctx):Option D:=(f γ).bind λa=>if a.length<=lim then aI (.tup a)else cS
noncomputable def ql(f:CO (List D))(γ:Ctx):Option (List D):=(f γ).bind λa=>if a.length<=lim then aI a else cS
inductive Res where
 | val (d:D) | own (ds:List D)
inductive Fl where
 | next (γ:Ctx) | brk (γ:Ctx) | cont (γ:Ctx) | ret (r:Res)
def zU(γ:Ctx):Option Fl:=aI (.next γ)
noncomputable def zF(F G:CO Fl):CO Fl:=λb=>(F b).bind λz=>match z with
 | .next a=>G a
 | f=>aI f
noncomputable def jY(f:CO D)(γ:Ctx):Option Fl:=(f γ).map λd=> .ret (.val d)
noncomputable def ka(f:CO (List D))(γ:Ctx):Option Fl:=(f γ).map λd=> .ret (.own d)
noncomputable def XX:Option Cell->Option Fl
 | some (.val d)=>aI (.ret<|.val d)
 | some (.own ds)=>aI (.ret<|.own ds)
 | _=>cS
def Cs(i:Nat)(γ:Ctx):Option Fl:=XX γ[i]?
def Ej(γ:Ctx):Option Fl:=aI (.brk γ)
def CA(γ:Ctx):Option Fl:=aI (.cont γ)
def jO:CO Fl:=λ_=>cS
noncomputable def i1(k:CO Bool)(F G:CO Fl)(γ:Ctx):Option Fl:=(k γ).bind λb=>if b=cI then F γ else G γ
noncomputable def jF(i:Nat)(f:CO D)(γ:Ctx):Option Fl:=(f γ).map λd=> .next (γ.set i<|.val d)
noncomputable def Zb(i:Nat)(f:CO (List D))(γ:Ctx):Option Fl:=(f γ).map λa=> .next (γ.set i<|.own a)
def fW(f:CO D)(γ:Ctx):Option Fl:=(f γ).map λ_=> .next γ
noncomputable def xV:Option Cell->Option (List D)
 | some (.own ds)=>aI ds
 | _=>cS
noncomputable def qP(i:Nat)(f:CO D)(γ:Ctx):Option Fl:=(xV γ[i]?).bind λa=>(f γ).bind λd=>if a.length<lim then aI (.next<|γ.set i<|.own<|a++[d])else cS
noncomputable def jM(n:Nat)(G:List D):Ctx:=G.map Cell.val++EC (n - G.length) Cell.no
noncomputable def jG(n:Nat)(F:CO Fl)(ds:List D):Option Res:=(F<|jM n ds).bind λz=>match z with
 | .ret r=>aI r
 | .next _=>aI (.val .ih)
 | _=>cS
def aL:Res->D
 | .val d=>d
 | .own a=> .lst a
noncomputable def zw(F:List D->Option Res)(g:CO (List D))(γ:Ctx):Option D:=(g γ).bind λa=>(F a).map aL
def uh:Res->Option (List D)
 | .own a=>aI a
 | _=>cS
noncomputable def kU(F:List D->Option Res)(g:CO (List D))(γ:Ctx):Option (List D):=(g γ).bind λa=>(F a).bind uh
noncomputable def yv(lo:Int)(n:Nat):List D:=(Ez n).map λ(i:Nat)=>D.int<|lo+(i:Int)
noncomputable def cN(G H:List D):List D:=(G.zip H).map λp=>D.tup [p.1,p.2]
noncomputable def zQ(f:CO (Sk×List D))(γ:Ctx):Option (List D):=(f γ).map (·.2)
def inR(i:Int):Bool:=decide<|i.natAbs<2 ^ 62
noncomputable def je(f:CO D)(γ:Ctx):Option (List D):=((f γ).bind o4).bind λn=>if inR n=cI then aI (yv 0 n.toNat)else cS
noncomputable def ua(f g:CO D)(γ:Ctx):Option (List D):=((f γ).bind o4).bind λm=>((g γ).bind o4).bind λn=>if inR m=cI/\inR n=cI then aI (yv m (n - m).toNat)else cS
noncomputable def mI(f g:CO D)(γ:Ctx):Option (List D):=((f γ).bind qW).bind λm=>((g γ).bind qW).map λn=>cN m.2 n.2
inductive Tg where
 | nm (i:Nat) | tp (is:List Nat)
noncomputable def qI:List Nat->List D->Ctx->Ctx
 | i::is,d::ds,γ=>qI is ds<|γ.set i<|.val d
 | _,_,γ=>γ
noncomputable def xo:Tg->D->CO Ctx
 | .nm i,d,γ=>aI (γ.set i<|.val d)
 | .tp is,.tup ds,γ=>if ds.length=is.length then aI (qI is ds γ)else cS
 | _,_,_=>cS
noncomputable def yr(T:Tg)(F:CO Fl):List D->CO Fl
 | [],a=>aI (.next a)
 | d::b,a=>(xo T d a).bind λB=>(F B).bind λI=>match I with
  | .next z=>yr T F b z
  | .cont z=>yr T F b z
  | .brk z=>aI (.next z)
  | .ret r=>aI (.ret r)
noncomputable def Z1(G:CO (List D))(T:Tg)(F:CO Fl)(γ:Ctx):Option Fl:=(G γ).bind λa=>yr T F a γ
def vO:Cell->Cell
 | .own _=> .no
 | .nest _=> .no
 | c=>c
noncomputable def qS(n:Nat)(fr:List Nat)(γ:Ctx):Ctx:=EC n Cell.no++fr.map λj=>vO<|γ[j]?.getD .no
noncomputable def zW(T:Tg)(k:CO Bool)(f:CO D)(γ:Ctx):List D->Option (List D)
 | []=>aI []
 | d::ds=>(xo T d γ).bind λz=>(k z).bind λb=>if b=cI then (f z).bind λe=>(zW T k f γ ds).map λr=>e::r else zW T k f γ ds
noncomputable def zM(G:CO (List D))(T:Tg)(n:Nat)(fr:List Nat)(k:CO Bool)(f:CO D)(γ:Ctx):Option (List D):=(G γ).bind λa=>if a.length<=lim then zW T k f (qS n fr γ) a else cS
def jo:CO Bool:=λ_=>aI cI
def Tg.idx:Tg->List Nat
 | .nm i=>[i]
 | .tp is=>is
noncomputable def dI(g:Int->Int->D):D->D->Option D
 | .int i,.int j=>aI (g i j)
 | _,_=>cS
noncomputable def Ny(c:Int->Int->Bool)(g:Int->Int->D):D->D->Option D
 | .int i,.int j=>if c i j=cI then aI (g i j)else cS
 | _,_=>cS
def cj:D->D->Option D:=dI λi j=> .int (i - j)
noncomputable def QY(i j:Int):Bool:=decide (i.natAbs<2 ^ 64) || decide (j.natAbs<2 ^ 64)
noncomputable def pL(_ j:Int):Bool:=decide (0<j) && decide (j.natAbs<1073741824)
def wQ:D->D->Option D:=Ny pL λi j=> .int (i/j)
def su(_ j:Int):Bool:=decide<|0<j
def j8:D->D->Option D:=Ny su λi j=> .int (i%j)
noncomputable def pK(i j:Int):Bool:=decide (0<=j) && decide (j.natAbs<=1000000) && decide (i.natAbs<2 ^ 64)
def ah:D->D->Option D:=Ny pK λi j=> .int (i ^ j.toNat)
def DF:D->D->Option D:=dI λi j=> .bl (decide<|i<j)
def B2:D->D->Option D:=dI λi j=> .bl (decide<|i<=j)
def wy:D->D->Option D:=dI λi j=> .bl (decide<|j<i)
def A4:D->D->Option D:=dI λi j=> .bl (decide<|j<=i)
noncomputable def qC:D->D->Option D
 | .int i,.int j=>aI (.int<|i+j)
 | .tup xs,.tup ys=>if xs.length+ys.length<=lim then aI (.tup<|xs++ys)else cS
 | _,_=>cS
noncomputable def yA:D->D->Option D
 | .int i,.int j=>if QY i j=cI then aI (.int<|i*j)else cS
 | .tup xs,.int j=>if xs.length*j.toNat<=lim/\inR j=cI then aI (.tup (EC j.toNat xs).flatten)else cS
 | _,_=>cS
noncomputable def yU(f g:CO (Sk×List D))(γ:Ctx):Option (List D):=(f γ).bind λa=>(g γ).bind λb=>
 match a.1,b.1 with
 | .L,.L=>if a.2.length+b.2.length<=lim then aI (a.2++b.2)else cS
 | _,_=>cS
noncomputable def tZ(f:CO (Sk×List D))(g:CO D)(γ:Ctx):Option (List D):=(f γ).bind λa=>((g γ).bind o4).bind λj=>
 match a.1 with
 | .L=>if a.2.length*j.toNat<=lim/\inR j=cI then aI (EC j.toNat a.2).flatten else cS
 | _=>cS
noncomputable def m7(n:Nat)(i:Int):Option Nat:=if 0<=i/\i<n then aI i.toNat else if i<0/\0<=i+n then aI (i+n).toNat else cS
noncomputable def gC(f:CO (Sk×List D))(g:CO D)(γ:Ctx):Option D:=(f γ).bind λa=>((g γ).bind o4).bind λi=>(m7 a.2.length i).bind λk=>a.2[k]?
noncomputable def AY(i:Nat)(g f:CO D)(γ:Ctx):Option Fl:=(f γ).bind λd=>(xV γ[i]?).bind λa=>((g γ).bind o4).bind λk=>(m7 a.length k).map λj=> .next (γ.set i<|.own<|a.set j d)
noncomputable def XR(n dflt:Nat):Option Int->Nat
 | none=>dflt
 | some i=>if i<0 then (i+n).toNat else min i.toNat n
noncomputable def KL(xs:List D)(lo hi:Option Int):List D:=(xs.drop<|XR xs.length 0 lo).take (XR xs.length xs.length hi - XR xs.length 0 lo)
def qT:CO (Option Int):=λ_=>aI cS
noncomputable def ir(f:CO D)(γ:Ctx):Option (Option Int):=((f γ).bind o4).map aI
noncomputable def tY(f:CO D)(l h:CO (Option Int))(γ:Ctx):Option D:=(f γ).bind λd=>(l γ).bind λlo=>(h γ).bind λa=>match d with
 | .tup b=>aI (.tup<|KL b lo a)
 | _=>cS
noncomputable def qO(f:CO (Sk×List D))(γ:Ctx):Option D:=(f γ).map λa=> .int a.2.length
inductive Ty where
 | int | bool | str | tuple | list
 deriving DecidableEq
@[simp] def eB:D->Bool
 | .int _=>cI
 | .bl _=>cI
 | _=>dV
@[simp] def pe:D->Bool
 | .bl _=>cI
 | _=>dV
@[simp] def et:D->Bool
 | .str _=>cI
 | _=>dV
@[simp] def eo:D->Bool
 | .tup _=>cI
 | _=>dV
@[simp] def eA:D->Bool
 | .lst _=>cI
 | _=>dV
noncomputable def ZI:Ty->D->Bool
 | .int=>eB
 | .bool=>pe
 | .str=>et
 | .tuple=>eo
 | .list=>eA
noncomputable def r9(T:Ty)(f:CO D)(γ:Ctx):Option D:=(f γ).map λd=> .bl (ZI T d)
noncomputable def uO:Ty->Sk->Bool
 | .tuple,.T=>cI
 | .list,.L=>cI
 | _,_=>dV
noncomputable def Eh(T:Ty)(f:CO (Sk×List D))(γ:Ctx):Option D:=(f γ).map λa=> .bl (uO T a.1)
@[simp] def R7:D->Bool
 | .ih=>cI
 | _=>dV
@[simp] noncomputable def eqB(a:Bool):D->Bool
 | .bl b=>a==b
 | .int b=>(if a then 1 else 0)==b
 | _=>dV
@[simp] noncomputable def R6(a:Int):D->Bool
 | .bl b=>a==(if b then 1 else 0)
 | .int b=>a==b
 | _=>dV
@[simp] def Pp(a:Str):D->Bool
 | .str b=>a==b
 | _=>dV
@[simp] noncomputable def R8(a:Str)(i:Option Int):D->Bool
 | .exc b j=>a==b && i==j
 | _=>dV
mutual
def lA:D->D->Bool
 | .ih,y=>R7 y
 | .bl a,y=>eqB a y
 | .int a,y=>R6 a y
 | .str a,y=>Pp a y
 | .tup xs,y=>match y with
  | .tup e=>B3 xs e
  | _=>dV
 | .lst xs,y=>match y with
  | .lst e=>B3 xs e
  | _=>dV
 | .exc a i,y=>R8 a i y
 | .pk a b,y=>match y with
  | .pk c d=>B3 a c && B3 b d
  | _=>dV
 | .n4 a b,y=>match y with
  | .n4 c d=>a==c && B3 b d
  | _=>dV
 | .ins a b c,y=>match y with
  | .ins z B I=>a==z && (lA b B && lA c I)
  | _=>dV
def B3:List D->List D->Bool
 | [],[]=>cI
 | x::xs,y::ys=>lA x y && B3 xs ys
 | _,_=>dV
end
mutual
def deep:D->Nat
 | .tup a=>DG a+1
 | .lst a=>DG a+1
 | _=>0
def DG:List D->Nat
 | []=>0
 | x::xs=>max (deep x)<|DG xs
end
mutual
def nt:D->Bool
 | .str x=>x.cps.all (· < 0x110000)
 | .exc _ _=>dV
 | .pk _ _=>dV
 | .n4 _ _=>dV
 | .ins _ _ _=>dV
 | .tup a=>m3 a
 | .lst a=>m3 a
 | _=>cI
def m3:List D->Bool
 | []=>cI
 | x::xs=>nt x && m3 xs
end
def l8(d:D):Bool:=decide (deep d<=20) && nt d
noncomputable def i3(x y:D):Option D:=if l8 x=cI/\l8 y=cI then aI (.bl<|lA x y)else cS
noncomputable def n6(x y:D):Option D:=if l8 x=cI/\l8 y=cI then aI (.bl<|!lA x y)else cS
noncomputable def pE:D->D->Option D
 | x,.ih=>aI (.bl<|match x with | .ih=>cI | _=>dV)
 | _,_=>cS
noncomputable def jg(f:CO (Sk×List D))(γ:Ctx):Option D:=(f γ).map λa=> .tup a.2
noncomputable def uc(f:CO (Sk×List D))(γ:Ctx):Option (List D):=(f γ).map λa=>a.2
noncomputable def mr:List D->Option Int
 | []=>aI 0
 | .int i::r=>(mr r).map λs=>i+s
 | _::_=>cS
noncomputable def fQ(f:CO (Sk×List D))(γ:Ctx):Option D:=(f γ).bind λa=>(mr a.2).map D.int
noncomputable def ti:D->Option Bool
 | .ih=>aI dV
 | .bl b=>aI b
 | .int i=>aI (i != 0)
 | _=>cS
noncomputable def yo:List D->Option (List Bool)
 | []=>aI []
 | d::r=>(ti d).bind λb=>(yo r).map λs=>b::s
noncomputable def ZN(f:CO (Sk×List D))(γ:Ctx):Option D:=(f γ).bind λa=>(yo a.2).map λs=> .bl (s.all id)
noncomputable def W7(f:CO (Sk×List D))(γ:Ctx):Option D:=(f γ).bind λa=>(yo a.2).map λs=> .bl (s.any id)
noncomputable def Vh(f:CO D)(γ:Ctx):Option D:=(f γ).bind λd=>match d with
 | .int i=>aI (.int i)
 | .bl b=>aI (.int<|if b then 1 else 0)
 | _=>cS
noncomputable def fS(f g:CO D)(γ:Ctx):Option D:=((f γ).bind o4).bind λi=>((g γ).bind o4).map λj=> .int (if j>i then j else i)
noncomputable def Cr(f:CO (Sk×List D))(γ:Ctx):Option Bool:=(f γ).map λa=> !a.2.isEmpty
def vw(f:CO D):CO D:=λa=>((f a).bind o4).map λi=> .int (-i)
noncomputable def kc(F G:D->D->Option D)(H I J:CO D):CO D:=λa=>(H a).bind λx=>(I a).bind λy=>((F x y).bind Dd).bind λb=>if b=cI then (J a).bind λz=>G y z else aI (.bl dV)
noncomputable def fR(T:Tg)(f:CO D)(γ:Ctx):Option Fl:=(f γ).bind λd=>(xo T d γ).map .next
def CQ:D->Option Int
 | .tup (.int k::_)=>aI k
 | _=>cS
noncomputable def oU:List D->Option (List Int)
 | []=>aI []
 | d::r=>(CQ d).bind λk=>(oU r).map λl=>k::l
noncomputable def BB:List Int->Bool
 | a::b::r=>decide (a<b) && BB (b::r)
 | _=>cI
noncomputable def CJ(G:List Int):Nat:=(G.dropLast.filter λk=>decide<|k<G.getLast?.getD 0).length
noncomputable def CS(q:Nat)(G:List D):List D:=G.dropLast.take q++(G.drop (G.length - 1)++G.dropLast.drop q)
noncomputable def tU(G:List D):Option (List D):=(oU G).bind λa=>if (1<=G.length/\G.length<=8)/\BB a.dropLast=cI/\decide (a.getLast?.getD 0∈a.dropLast)=dV then aI (CS (CJ a) G)else cS
noncomputable def tX(f:CO (Sk×List D))(γ:Ctx):Option (List D):=(f γ).bind λa=>match a.1 with
 | .L=>tU a.2
 | _=>cS
noncomputable def Aa:D->Bool
 | .tup _=>dV
 | .lst _=>dV
 | .exc _ _=>dV
 | .pk _ _=>dV
 | .n4 _ _=>dV
 | .ins _ _ _=>dV
 | _=>cI
end DL
namespace L2
open PySem PySem.Spec PyProof.Rows
noncomputable def r6(k:Sk)(h:h7)(i l:eI)(n:Nat):Prop:=match k with
 | .L=>h.IsListIter i l n
 | .T=>h.IsTupleIter i l n
noncomputable def u6(k:Sk)(h:h7)(l:eI)(xs:Array gv):Prop:=match k with
 | .L=>h.IsList l xs
 | .T=>h.IsTuple l xs
noncomputable def t5(k:Sk)(l:eI):n0:=match k with
 | .L=>{cls:= .type "list_iterator",data:= .fields #[.ref l,.int 0 0]}
 | .T=>{cls:= .type "tuple_iterator",data:= .fields #[.ref l,.int 0 0]}
theorem r6.at(x:r6 k h i l n)(e : ∀o,h.get? i=aI o->h'.get? i=aI o):r6 k h' i l n:=by cases k<;>exact let ⟨o,z,r⟩:=x;⟨o,e _ z,r⟩
theorem u6.at(x:u6 k h l xs)(e : ∀o,h.get? l=aI o->h'.get? l=aI o):u6 k h' l xs:=by cases k<;>exact let ⟨o,z,r⟩:=x;⟨o,e _ z,r⟩
theorem r6.obj(x:r6 k h i l n) : ∃o,h.get? i=aI o/\∀v,o.data ≠ .cell v:=by cases k<;>exact let ⟨o,B,_,d⟩:=x;⟨o,B,λv z=>by rw[d]at z;cases z⟩
theorem u6.lt(x:u6 k h l xs):l<h.objs.size:=by cases k<;>exact let ⟨o,z,_⟩:=x;EH z
theorem QB(k:Sk)(h:h7)(l:eI):r6 k (h.push<|t5 k l) h.objs.size l 0:=by cases k<;>exact⟨_,ET _ rfl,rfl,rfl⟩
section
variable{prog:i8}{w:i5}{A:l7}{E:MQ}{s:gE}
theorem Qz(G:u6 k s.heap l xs)(z:Q (.ref s.heap.objs.size) {s with heap:=s.heap.push (t5 k l)}):wpAny (hA prog w) A (M3<|.ref l) Q E s:=by
 cases k
 ·exact SY G z
 ·exact S2 G z
theorem Zp(I:r6 k s.heap it l i)(G:u6 k s.heap l items)(hx:items[i]? = aI x)
 (O : ∀h',r6 k h' it l (i+1)->Hq it s.heap h'->Q x {s with heap:=h'}):wpAny (hA prog w) A (Fn<|.ref it) Q E s:=by
 cases k with
 | L=>exact wpAny_nextOf_list_item I G hx O
 | T=>
  have B:s.heap.IsTupleIter it l i:=I;obtain⟨o,z,b,a⟩:=id B;obtain⟨W,R,_,Y,U⟩:=(show s.heap.IsTuple l items from G);unfold Fn;refine Eu (GI (name:=FD "__next__") B.typeIs IZ (Hi IZ B.typeIs R5 ?_ (RY _)));refine Eu (m:=field (.ref it) 0) (FU z a (x:= .ref l) rfl ?_);show wpAny _ _ (if (EO l==Gk)=cI then _ else _) _ _ s;rw[RQ (show ¬((EO l==Gk)=cI)from ES)];refine Eu (m:=field (.ref it) 1) (FU z a (x:= .int i 0) rfl ?_);refine Eu (m:=seqItems? (.ref l)) (Hl R U ?_);simp only[Ij,hx];refine Eu (Mb z a ⋯ (EB ⟨x,rfl,EB (O _ ?_ (Hq.update ..))⟩));show Heap.IsTupleIter _ it l (i+1);exact⟨_,FK _ z (Obj.isFreed_of_fields (IU a _)),(Obj.cls_mapFields ..).trans b,by rw[IU a];simp[NS]⟩
theorem Kt(z:A.handled=cS)(O:r6 k s.heap it l i)(G:u6 k s.heap l items)(hx:items[i]? = cS)
 (R : ∀h' e,Heap.ExtBut it s.heap h'->(∃o,h'.get? e=aI o/\o.cls = .type "StopIteration")->E (.ref e) {s with heap:=h'}):wpAny (hA prog w) A (Fn (.ref it)) Q E s:=by
 cases k with
 | L=>exact wpAny_nextOf_list_end z O G hx R
 | T=>
  have B:s.heap.IsTupleIter it l i:=O;obtain⟨o,I,d,b⟩:=id B;obtain⟨Y,U,_,f,W⟩:=(show s.heap.IsTuple l items from G);unfold Fn;refine Eu (GI (name:=FD "__next__") B.typeIs IZ (Hi IZ B.typeIs R5 ?_ (RY _)));refine Eu (m:=field (.ref it) 0) (FU I b (x:= .ref l) rfl ?_);show wpAny _ _ (if (EO l==Gk)=cI then _ else _) _ _ s;rw[RQ (show ¬((EO l==Gk)=cI)from ES)];refine Eu (m:=field (.ref it) 1) (FU I b (x:= .int i 0) rfl ?_);refine Eu (m:=seqItems? (.ref l)) (Hl U W ?_);simp only[Ij,hx];refine Eu (Mu (Eu (Mb I b ⋯ ?_)));refine Eu (m:=newExc (.type "StopIteration") []) ?_;simp only[newExc,newTuple];refine Eu (Gd ?_ (by size_fits));refine Eu (m:=firstArgMember _ _) (Ir (a:=Gk) (by first | rfl | (simp only[firstArgMember];rfl)) ?_);refine Gd ?_ (by size_fits);simp only[raiseNew];refine Eu (wpAny_handled ?_)
  first | rw[show A.in1.handled=cS from z] | rw[z]
  exact Eu<|EB<|wpAny_throw<|R _ _ (((Hq.update ..).extBut.push _).push _) ⟨_,ET _ rfl,rfl⟩
theorem YT{k1 k2:Sk}{z TI TO I O H J:eI}{L Z:Nat}{xs ys:Array gv}{x y a b:gv}{Q:MQ}(D:Pe z TI TO I O H J)
 (G:Dl s.heap z TI TO .none) (bv:u5 s.heap TI (.ref I) (.ref O)) (c0:u5 s.heap TO a b)
 (h1:r6 k1 s.heap I H L) (h2:r6 k2 s.heap O J Z) (c5:u6 k1 s.heap H xs) (c6:u6 k2 s.heap J ys) (hx:xs[L]? = aI x) (hy:ys[Z]? = aI y)
 (hQ : ∀h',Dl h' z TI TO (NS s.heap.objs.size)->u5 h' TO x y->r6 k1 h' I H (L+1)->r6 k2 h' O J (Z+1)->u5 h' s.heap.objs.size x y->h'.objs.size=s.heap.objs.size+1->
   (∀c o,c≠z->c≠TO->c≠I->c≠O->s.heap.get? c=aI o->h'.get? c=aI o)->Q (.ref s.heap.objs.size) {s with heap:=h'}) :
 wpAny (hA prog w) A (Builtin.«zip.__next__» ⟨[.ref z],[]⟩) (λc9 s'=>∃v,c9 = .done (.ret v)/\Q v s') E s:=by
 refine Eu (m:=field (.ref z) 2)<|FU G rfl (x:= .bool dV) rfl ?_;refine Eu (m:=field (.ref z) 3)<|FU G rfl (x:= .ref TI) rfl ?_;refine Eu<|Hl bv rfl ?_;refine Eu (m:=Gu<|.ref z) ?_;unfold Gu;refine Eu<|FU G rfl (x:= .none) rfl<|EB ?_;simp only[if_true];refine Eu<|Mu<|Eu<|FU G rfl (x:= .ref TO) rfl ?_;refine Eu<|Ie G ⋯ λg1 n R=>?_;replace n:Dl g1 z TI TO .ellipsis:=n;refine Eu ?_;simp only[List.zipIdx_cons,List.zipIdx_nil,List.forIn_cons,List.forIn_nil];refine Eu<|Eu<|Mr ?_;refine Eu (m:=Fn<|.ref I)<|Zp (h1.at λo e=>R.extBut _ _ D.i1z e) (c5.at λo e=>R.extBut _ _ D.l1z e) hx λg2 T W=>EB ?_;have F:u5 g2 TO a b:=W.extBut _ _ D.TOi1<|R.extBut _ _ D.TOz c0;refine Eu<|Hl F rfl<|Eu<|LU F λg3 p Y=>?_;replace p:u5 g3 TO x b:=p;refine Eu<|wpAny_letGo<|EB<|Eu<|Eu<|Mr ?_;refine Eu (m:=Fn<|.ref O)<|Zp (h2.at λo e=>Y.extBut _ _ D.TOi2.symm<|W.extBut _ _ D.i12.symm<|R.extBut _ _ D.i2z e) (c6.at λo e=>Y.extBut _ _ D.l2TO<|W.extBut _ _ D.l2i1<|R.extBut _ _ D.l2z e) hy λg4 X d=>EB ?_;have K:u5 g4 TO x b:=d.extBut _ _ D.TOi2 p;refine Eu<|Hl K rfl<|Eu<|LU K λB h f=>?_;replace h:u5 B TO x y:=h;refine Eu<|wpAny_letGo<|EB<|EB<|Eu<|Hl h rfl<|Eu<|wpAny_newTuple ?_;have M:B.objs.size=s.heap.objs.size:=by rw[f.1,d.1,Y.1,W.1,R.1]
 have N:Dl B z TI TO .ellipsis:=f.extBut _ _ D.TOz.symm (d.extBut _ _ D.i2z.symm (Y.extBut _ _ D.TOz.symm (W.extBut _ _ D.i1z.symm n)));have ci : ∀c o,c≠z->c≠TO->c≠I->c≠O->s.heap.get? c=aI o->B.get? c=aI o:=λc o U j u C e=>f.extBut _ _ j (d.extBut _ _ C (Y.extBut _ _ j (W.extBut _ _ u (R.extBut _ _ U e))));have cl:r6 k1 B I H (L+1):=T.at λo e=>f.extBut _ _ D.TOi1.symm (d.extBut _ _ D.i12 (Y.extBut _ _ D.TOi1.symm e));have cm:r6 k2 B O J (Z+1):=X.at λo e=>f.extBut _ _ D.TOi2.symm e;have P:z<B.objs.size:=EH N;refine Eu (m:=IP (.ref z) (.ref B.objs.size)) ?_;unfold IP;have cn:Dl (B.push {cls:= .type "tuple",data:= .seq #[x,y]}) z TI TO .ellipsis:=Ew _ N;refine Eu (Ie cn ⋯ λg7 as r=>?_);replace as:Dl g7 z TI TO (NS B.objs.size):=as;refine Ie as ⋯ λg i t=>?_;replace i:Dl g z TI TO (NS B.objs.size):=i;have l : ∀c o,c≠z->B.get? c=aI o->g.get? c=aI o:=λc o U e=>t.extBut _ _ U (r.extBut _ _ U (Ew _ e));have bl:u5 g B.objs.size x y:=t.extBut _ _ (HN P) (r.extBut _ _ (HN P) (ET _ rfl));have S:g.objs.size=B.objs.size+1:=by rw[t.1,r.1,FT]
 rw[M]at i bl S;refine EB ⟨_,rfl,?_⟩;show Q (.ref B.objs.size) _;rw[M];exact hQ g i (l _ _ D.TOz h) (cl.at λo e=>l _ o D.i1z e) (cm.at λo e=>l _ o D.i2z e) bl S λc o U j u C e=>l c o U<|ci c o U j u C e
theorem aj{k1 k2:Sk}{z TI TO O W H J:eI}{L Z:Nat}{xs ys:Array gv}{a b:gv}{Q:Fin->gE->Prop}(hh:A.handled=cS)(D:Pe z TI TO O W H J)
 (G:Dl s.heap z TI TO .none) (b0:u5 s.heap TI (.ref O) (.ref W)) (bb:u5 s.heap TO a b)
 (h1:r6 k1 s.heap O H L) (h2:r6 k2 s.heap W J Z) (an:u6 k1 s.heap H xs) (bd:u6 k2 s.heap J ys) (be:xs[L]? = cS\/ys[Z]? = cS)
 (hE : ∀h' e,(∀c o,c≠z->c≠TO->c≠O->c≠W->s.heap.get? c=aI o->h'.get? c=aI o)->(∃o,h'.get? e=aI o/\o.cls = .type "StopIteration")->E (.ref e) {s with heap:=h'}) :
 wpAny (hA prog w) A (Builtin.«zip.__next__» ⟨[.ref z],[]⟩) Q E s:=by
 refine Eu (m:=field (.ref z) 2) (FU G rfl (x:= .bool dV) rfl ?_);refine Eu (m:=field (.ref z) 3) (FU G rfl (x:= .ref TI) rfl ?_);refine Eu (Hl b0 rfl ?_);refine Eu (m:=Gu (.ref z)) ?_;unfold Gu;refine Eu (FU G rfl (x:= .none) rfl (EB ?_));simp only[if_true];refine Eu (Mu (Eu (FU G rfl (x:= .ref TO) rfl ?_)));refine Eu (Ie G ⋯ λg1 j B=>?_);replace j:Dl g1 z TI TO .ellipsis:=j;refine Eu ?_;simp only[List.zipIdx_cons,List.zipIdx_nil,List.forIn_cons,List.forIn_nil];refine Eu (Eu (Mr ?_));have r : ∀{g e:_} {Y:n0},Dl g z TI TO .ellipsis->(∀c o,c≠z->c≠TO->c≠O->c≠W->s.heap.get? c=aI o->g.get? c=aI o)->g.get? e=aI Y->Y.cls = .type "StopIteration"->
  wpAny (hA prog w) A (OR (.ref z) 0 .none) (λ_ y=>E (.ref e) y) E {s with heap:=g}:=λ{g e Y} L0 hk R d=>by
  have bl:e≠z:=λq=>by subst q;rw[L0]at R;cases R;simp at d
  exact Ie L0 ⋯ λg3 _ U=>hE g3 e (λc o f l i n q=>U.extBut _ _ f<|hk c o f l i n q) ⟨Y,U.extBut _ _ bl R,d⟩
 cases hx:xs[L]? with
 | none=>
  refine Eu (m:=Fn<|.ref O)<|Kt hh (h1.at λo e=>B.extBut _ _ D.i1z e) (an.at λo e=>B.extBut _ _ D.l1z e) hx λg2 e I p=>?_;obtain⟨Y,R,d⟩:=p;exact r (I _ _ D.i1z.symm j) (λc o f _ i _ q=>I _ _ i<|B.extBut _ _ f q) R d
 | some x=>
  have u:ys[Z]? = cS:=by rcases be with h | h;rw[hx]at h;cases h;exact h
  refine Eu (m:=Fn<|.ref O)<|Zp (h1.at λo e=>B.extBut _ _ D.i1z e) (an.at λo e=>B.extBut _ _ D.l1z e) hx λg2 C I=>EB ?_;have as:u5 g2 TO a b:=I.extBut _ _ D.TOi1<|B.extBut _ _ D.TOz bb;refine Eu<|Hl as rfl<|Eu<|LU as λg3 F U=>?_;refine Eu<|wpAny_letGo<|EB<|Eu<|Eu<|Mr ?_;refine Eu (m:=Fn<|.ref W)<|Kt hh (h2.at λo e=>U.extBut _ _ D.TOi2.symm<|I.extBut _ _ D.i12.symm<|B.extBut _ _ D.i2z e) (bd.at λo e=>U.extBut _ _ D.l2TO<|I.extBut _ _ D.l2i1<|B.extBut _ _ D.l2z e) u λK e t p=>?_;obtain⟨Y,R,d⟩:=p;exact r (t _ _ D.i2z.symm<|U.extBut _ _ D.TOz.symm<|I.extBut _ _ D.i1z.symm j) (λc o f l i n q=>t _ _ n<|U.extBut _ _ l<|I.extBut _ _ i<|B.extBut _ _ f q) R d
end
def vN(a b:gv):n0:={cls:= .type "tuple",data:= .seq #[a,b]}
noncomputable def sT(TI TO:eI):n0:={cls:= .type "zip",data:= .fields #[.none,.bool dV,.bool dV,.ref TI,.ref TO]}
noncomputable def ZK(k1 k2:Sk)(h:h7)(z B:eI):h7:=
 FJ (FJ (FJ (FJ (FJ h<|t5 k1 z)<|t5 k2 B)<|vN (.ref h.objs.size)<|.ref<|h.objs.size+1)<|vN .none .none) (sT (h.objs.size+2)<|h.objs.size+3)
theorem ai(k1 k2:Sk)(z B:eI)(xs G:Array gv) :
 Meets (Builtin.«zip.__new__» ⟨[.type "zip",.ref z,.ref B],[]⟩) (λ_ R s=>u6 k1 s.heap z xs/\u6 k2 s.heap B G/\
  R (.ok<|.ret<|.ref<|s.heap.objs.size+4) {s with heap:=ZK k1 k2 s.heap z B}):=
 .of_wp λb w A R s h=>by
  obtain⟨a,g,d,f,os⟩:=s;obtain⟨I,O,h⟩:=h;have Y:=sub_zip;have U:u6 k1 (Shared.heap ⟨a,g,d,f,os⟩) z xs:=I;have W:u6 k2 (Shared.heap ⟨a.push<|t5 k1 z,g,d,f,os⟩) B G:=O.at λo e=>Ew _ e
  wp_walk using Qz U,Qz W
  refine⟨_,rfl,?_⟩;simp only[ZK,vN,sT,FT]at h ⊢;exact h
section
variable{X:Cx}{pins:MW}{σ:St}{H:Hp}{s:gE}{h':h7}
theorem Inv.RF{t':Nat}{fp:List eI}{a:eI}{o:HO}(I:Inv X pins σ H s)(k : ∀b u,b∉fp->s.heap.get? b=aI u->h'.get? b=aI u)(G : ∀b∈fp,Q0 X pins H b)
 (J:s.heap.objs.size<=a) (new:l6 X.prog X.w (upd H a o) h' a o):Inv X pins σ (upd H a o) {s with heap:=h',toks:=t'}:=by
 have f:H a=cS:=I.h8.fresh J;have R : ∀b u,H b=aI u->b∉fp:=λb u e z=>by rw[(G b z).1]at e;cases e
 have U : ∀b u,s.heap.get? b=aI u->b≠a:=λb u e=>ER<|EJ (EH e) J;refine I.step (g':=s.gens) (d':=s.drawn) (ch:=fp) (λb B=>⟨(G b B).2.2.2.1,(G b B).2.1,(G b B).2.2.2.2.1,(G b B).2.2.2.2.2⟩) (λb u _ _ d e _=>k b u d e) (λb u _ _ d e _=>⟨u.slots,k b u d e⟩)
  (λb u _ e n=>by rw[zu (U b u e)];exact n) (λb u d e=>⟨u,k b u d e⟩) (λb g e=>by rw[zu (zL e f)];exact e) (λb O g e=>by rw[zu (zL e f)];exact e)
  (λb j e=>⟨#[],by rw[zu (zL e f),e];simp⟩) (λm i=>?_) (λb u e=>?_) I.bare
 ·obtain⟨O,h,W,Y,r⟩:=i
  refine⟨O,h,W,k _ O (λz=>(G _ z).2.1 rfl) Y,r⟩
 ·by_cases B:b=a
  ·subst B;rw[zt]at e;cases e;exact new
  ·rw[zu B]at e
   refine(I.h8 b u e).vr (λc v d q=>k c v ?_ q) (λc q=>by rw[zu (zL q f)];exact q) λc g q=>by rw[zu (zL q f)];exact q
   rcases d with z | z
   ·rw[z];exact R b u e
   ·exact R c _ z
theorem Inv.RG{t':Nat}{fp:List eI}(I:Inv X pins σ H s)(k : ∀b u,b∉fp->s.heap.get? b=aI u->h'.get? b=aI u)(G : ∀b∈fp,Q0 X pins H b):Inv X pins σ H {s with heap:=h',toks:=t'}:=by
 have R : ∀b u,H b=aI u->b∉fp:=λb u e z=>by rw[(G b z).1]at e;cases e
 refine I.step (g':=s.gens) (d':=s.drawn) (ch:=fp) (λb B=>⟨(G b B).2.2.2.1,(G b B).2.1,(G b B).2.2.2.2.1,(G b B).2.2.2.2.2⟩) (λb u _ _ a e _=>k b u a e) (λb u _ _ a e _=>⟨u.slots,k b u a e⟩)
  (λb u _ e n=>n) (λb u a e=>⟨u,k b u a e⟩) (λb d e=>e) (λb O d e=>e)
  (λb h e=>⟨#[],by rw[e];simp⟩) (λm g=>?_) (λb u e=>?_) I.bare
 ·obtain⟨O,f,U,W,r⟩:=g
  refine⟨O,f,U,k _ O (λz=>(G _ z).2.1 rfl) W,r⟩
 ·refine(I.h8 b u e).vr (λc v a q=>k c v ?_ q) (λc q=>q) λc d q=>q
  rcases a with z | z
  ·rw[z];exact R b u e
  ·exact R c _ z
end
noncomputable def rb(k:Sk)(K:Es)(H:Hp)(a:eI)(xs:List V):Prop:=match k with
 | .L=>kv K H a xs
 | .T=>l4 K H a xs
theorem Inv.sq(I:Inv X pins σ H s)(h:rb k X.K H a xs) :
 ∃B:List gv,i4 xs B/\u6 k s.heap a B.toArray/\xs.length<=j3:=by
 cases k with
 | L=>obtain⟨B,r,p,z⟩:=I.list h;exact⟨B,r,p.isList,z⟩
 | T=>obtain⟨B,r,p,z⟩:=I.tuple h;exact⟨B,r,p,z⟩
theorem Inv.Rv(I:Inv X pins σ H s)(h:rb k X.K H a xs)(h':rb k X.K H a ys):xs=ys:=by
 cases k with
 | L=>exact I.Py h h'
 | T=>exact I.RE h h'
noncomputable def O6(k1 k2:Sk)(K:Es)(a b:eI):It:=
 ⟨λi H=>∃d e,rb k1 K H a d/\rb k2 K H b e/\i<d.length/\i<e.length,
  λi H x f=>∃p u v,x = .ref p/\H p=cS/\f=upd H p (.tup [u,v])/\(∀d,rb k1 K H a d->d[i]? = aI u)/\(∀e,rb k2 K H b e->e[i]? = aI v),
  λi H=>∃d e,rb k1 K H a d/\rb k2 K H b e/\(d.length<=i\/e.length<=i)⟩
theorem az{P:i8}{w:i5}{K:Es}{elts:List hH}{x1:Nat}{DN:ik}(k1 k2:Sk){z TI TO W Y a b:eI}(D:Pe z TI TO W Y a b) :
 Turn P w K (.Tuple elts x1 DN) (O6 k1 k2 K a b) [z,TI,TO,W,Y] z (λi h=>Dl h z TI TO .none/\u5 h TI (.ref W) (.ref Y)/\(∃c d,u5 h TO c d)/\r6 k1 h W a i/\r6 k2 h Y b i) where
 mem:=by simp
 obj:=λi h ⟨O,U,⟨c,d,a8⟩,h1,h2⟩ y hy=>by
  simp only[ED,Fp,or_false]at hy;rcases hy with rfl | rfl | rfl | rfl | rfl
  ·exact⟨_,O,λv q=>by cases q⟩
  ·exact⟨_,U,λv q=>by cases q⟩
  ·exact⟨_,a8,λv q=>by cases q⟩
  ·exact h1.obj
  ·exact h2.obj
 keep:=λi h h' ⟨O,U,⟨c,d,a8⟩,h1,h2⟩ k=>
  ⟨k z ⋯ _ O,k TI ⋯ _ U,⟨c,d,k TO ⋯ _ a8⟩,h1.at λo e=>k W ⋯ o e,h2.at λo e=>k Y ⋯ o e⟩
 item:=by
  rintro X hP hw hK hc i pins s σ H E I hf ⟨O,U,⟨c,d,a8⟩,h1,h2⟩ ⟨xs,ys,am,an,bd,be⟩;subst hP hw hK;obtain⟨bg,as,p1,z1⟩:=I.sq am;obtain⟨bi,ax,p2,z2⟩:=I.sq an;have hx:xs[i]? = aI xs[i]:=Ey bd;have hy:ys[i]? = aI ys[i]:=Ey be;obtain⟨u1,bn,bv⟩:=as.get hx;obtain⟨u2,c0,c1⟩:=ax.get hy;have hT:s.TypeIs (.ref z) "zip":=⟨_,O,rfl⟩;unfold NQ;refine Eu (IQ (GI (name:=FD "__next__") hT Lw (Hi Lw hT F.entry_zip_next
   (YT D O U a8 h1 h2 p1 p2 (x:=u1) (y:=u2) (by simpa using bn) (by simpa using c0) λg a1 a2 a3 a4 a5 a6 a7=>EB ⟨_,rfl,?_⟩) (F.args_zip_next_1 _))))
  refine wpAny_letOwnedTupleGo_zip a1 λg2 L0 a9=>?_;have lt : ∀{c o},s.heap.get? c=aI o->s.heap.objs.size≠c:=λe=>HN<|EH e;have c7:u5 g2 s.heap.objs.size u1 u2:=a9.extBut _ _ (lt O) a5;have kk : ∀R u,R ∉ [z,TI,TO,W,Y]->s.heap.get? R=aI u->g2.get? R=aI u:=λR u B e=>by simp only[ED,Fp,or_false,not_or]at B;exact a9.extBut _ _ B.1<|a7 R u B.1 B.2.2.1 B.2.2.2.1 B.2.2.2.2 e
  have I1:Inv X pins σ (upd H s.heap.objs.size<|.tup [xs[i],ys[i]]) {s with heap:=g2,toks:=s.toks}:=
   I.RF (fp:=[z,TI,TO,W,Y]) kk hf (EF _) ⟨by show 2<=j3;decide,[u1,u2],.cons bv<|.cons c1 .nil,⟨_,c7,rfl,_,rfl⟩⟩
  have c9:H s.heap.objs.size=cS:=I.fresh;refine⟨.ref s.heap.objs.size,_,I1,rfl,⟨_,_,_,rfl,c9,rfl,λci b0=>by rw[I.Rv b0 am];exact hx,λcl b0=>by rw[I.Rv b0 an];exact hy⟩,?_,λR B=>?_⟩
  ·exact⟨L0,a9.extBut _ _ D.TIz<|a7 _ _ D.TIz D.TITO D.TIi1 D.TIi2 U,⟨_,_,a9.extBut _ _ D.TOz a2⟩,a3.at λo e=>a9.extBut _ _ D.i1z e,a4.at λo e=>a9.extBut _ _ D.i2z e⟩
  ·have ca:R≠s.heap.objs.size:=by
    simp only[ED,Fp,or_false]at B;rcases B with rfl | rfl | rfl | rfl | rfl
    ·exact(lt O).symm
    ·exact(lt U).symm
    ·exact(lt a8).symm
    ·obtain⟨o,e,_⟩:=h1.obj;exact(lt e).symm
    ·obtain⟨o,e,_⟩:=h2.obj;exact(lt e).symm
   rw[zu ca];exact(hf R B).1
 done:=by
  rintro X hP hw hK hc i pins s σ H E I hf ⟨O,U,⟨c,d,a8⟩,h1,h2⟩ ⟨xs,ys,am,an,hi⟩;subst hP hw hK;obtain⟨bg,as,p1,z1⟩:=I.sq am;obtain⟨bi,ax,p2,z2⟩:=I.sq an;have hT:s.TypeIs (.ref z) "zip":=⟨_,O,rfl⟩;have l1:=as.length;have l2:=ax.length;unfold NQ;refine Eu (IQ (GI (name:=FD "__next__") hT Lw (Hi Lw hT F.entry_zip_next
   (aj (show X.A.handled=cS from I.ok.hd hc) D O U a8 h1 h2 p1 p2 (by rcases hi with q | q;left;simp;omega;right;simp;omega) λg e hk he=>?_) (F.args_zip_next_1 _))))
  obtain⟨o,ho,cf⟩:=he;refine Eu (wpAny_isInstance (T:="StopIteration") (b:=cI) ⟨o,ho,cf⟩ isSubtype_stop (EB ⟨rfl,?_⟩));refine I.RG (t':=s.toks) (fp:=[z,TI,TO,W,Y]) (λR u B e=>?_) hf;simp only[ED,Fp,or_false,not_or]at B;exact hk R u B.1 B.2.2.1 B.2.2.2.1 B.2.2.2.2 e
 self:=λ_ _ _ _ _ st h=>wpAny_pyIter_zip st.1 h
noncomputable def CT(K:Es)(G:TA):TI:=λj H R=>G j H λg d=>∃e f a b,g=[.ref a,.ref b]/\(∃h,rb e K d a h)/\(∃i,rb f K d b i)/\R (O6 e f K a b) d
theorem nG{X:Cx}{Z G:hH}{ta:TA}{p pos:ik}{J:List hH}{x1:Nat}{L:ik}(hg:Gl X "zip")(hm:X.mg "zip" = cS)(ha:PA X [Z,G] ta)
 (hv:E8 "zip" = aI (.type "zip")) (hs:i0 [Z,G] X.env=[(dV,hX Z X.env),(dV,hX G X.env)]:=by rfl) (W:i0 [G] X.env=[(dV,hX G X.env)]:=by rfl) :
 PI X (.Tuple J x1 L) (.Call (.Name "zip" p) [Z,G] [] pos) (CT X.K ta):=by
 intro j s C H R I h;refine Call_ (xO I hg hm hv<|Gz (ij (ha pos j s C H _ I h) λus d hZ=>?_) (by rw[hs,W])<|by rw[W];rfl);obtain⟨vs,r,z,r1,q1⟩:=hZ;obtain⟨f,g,a,b,e,⟨xs,M⟩,⟨ys,N⟩,q⟩:=q1;subst e;obtain⟨w1,w2,eu,P,Q⟩:=lX r1;subst eu;cases P;cases Q;obtain⟨S,bg,w,z1⟩:=z.sq M;obtain⟨T,bi,x,z2⟩:=z.sq N;have la:=w.lt;have lb:=x.lt;refine callType_new F.called_zip ⋯ (F.typeCall_zip_2 _ _) (F.newCall_zip_2 _ _) (λobj=>F.args_object_init_3 obj _ _) F.entry_zip_new (ai f g a b S.toArray T.toArray) ⟨w,x,?_⟩;have l : ∀c o,d.heap.get? c=aI o->(ZK f g d.heap a b).get? c=aI o:=λc o e=>
  Ew _ (Ew _<|Ew _<|Ew _<|Ew _ e)
 have Y:(FJ d.heap<|t5 f a).objs.size=d.heap.objs.size+1:=FT ..;have y:(FJ (FJ d.heap<|t5 f a)<|t5 g b).objs.size=d.heap.objs.size+2:=by rw[FT,Y]
 have A:(FJ (FJ (FJ d.heap<|t5 f a)<|t5 g b)<|vN (.ref d.heap.objs.size)<|.ref<|d.heap.objs.size+1).objs.size=d.heap.objs.size+3:=by rw[FT,y]
 have y4:(FJ (FJ (FJ (FJ d.heap<|t5 f a)<|t5 g b)<|vN (.ref d.heap.objs.size)<|.ref<|d.heap.objs.size+1)<|vN .none .none).objs.size=d.heap.objs.size+4:=by rw[FT,A]
 have g0:r6 f (ZK f g d.heap a b) d.heap.objs.size a 0:=(QB f d.heap a).at λo e=>Ew _<|Ew _<|Ew _<|Ew _ e;have g1:r6 g (ZK f g d.heap a b) (d.heap.objs.size+1) b 0:=by have q:=QB g (FJ d.heap<|t5 f a) b;rw[Y]at q;exact q.at λo e=>Ew _<|Ew _<|Ew _ e
 have g2:u5 (ZK f g d.heap a b) (d.heap.objs.size+2) (.ref d.heap.objs.size) (.ref<|d.heap.objs.size+1):=by have q:_=aI (vN (.ref d.heap.objs.size)<|.ref<|d.heap.objs.size+1):=ET (FJ (FJ d.heap<|t5 f a)<|t5 g b) (o:=vN (.ref d.heap.objs.size)<|.ref<|d.heap.objs.size+1) rfl;rw[y]at q;exact Ew _<|Ew _ q
 have g3:u5 (ZK f g d.heap a b) (d.heap.objs.size+3) .none .none:=by have q:_=aI (vN .none .none):=ET (FJ (FJ (FJ d.heap<|t5 f a)<|t5 g b)<|vN (.ref d.heap.objs.size)<|.ref<|d.heap.objs.size+1) (o:=vN .none .none) rfl;rw[A]at q;exact Ew _ q
 have U:Dl (ZK f g d.heap a b) (d.heap.objs.size+4) (d.heap.objs.size+2) (d.heap.objs.size+3) .none:=by have q:=ET (FJ (FJ (FJ (FJ d.heap<|t5 f a)<|t5 g b)<|vN (.ref d.heap.objs.size)<|.ref<|d.heap.objs.size+1)<|vN .none .none) (o:=sT (d.heap.objs.size+2)<|d.heap.objs.size+3) rfl;rw[y4]at q;exact q
 refine⟨⟨_,U,rfl⟩,wpAny_pyIter_zip (s:={d with heap:=ZK f g d.heap a b}) U ?_⟩;have E:Inv X j C r {d with heap:=ZK f g d.heap a b,toks:=d.toks}:=z.kept l;have nn : ∀m:Nat,d.heap.objs.size≠d.heap.objs.size+m+1:=λm=>by omega
 have B : ∀m:Nat,a≠d.heap.objs.size+m:=λm=>ER<|EJ la<|GA _ m;have O : ∀m:Nat,b≠d.heap.objs.size+m:=λm=>ER<|EJ lb<|GA _ m;have i : ∀m n:Nat,m≠n->(d.heap.objs.size+m:Nat)≠d.heap.objs.size+n:=λm n h=>by omega
 have D:Pe (d.heap.objs.size+4) (d.heap.objs.size+2) (d.heap.objs.size+3) d.heap.objs.size (d.heap.objs.size+1) a b:=
  ⟨i 2 4 ⋯,i 3 4 ⋯,i 0 4 ⋯,i 1 4 ⋯,i 2 3 ⋯,i 2 0 ⋯,i 2 1 ⋯,i 3 0 ⋯,i 3 1 ⋯,i 0 1 ⋯,
   B 4,B 3,B 0,B 1,O 4,O 3,O 0,O 1⟩
 refine⟨_,[d.heap.objs.size+4,d.heap.objs.size+2,d.heap.objs.size+3,d.heap.objs.size,d.heap.objs.size+1],_,_,r,rfl,E,az f g D,⟨U,g2,⟨_,_,g3⟩,g0,g1⟩,λc u=>?_,q⟩;have t:d.heap.objs.size<=c:=by
  simp only[ED,Fp,or_false]at u;rcases u with rfl | rfl | rfl | rfl | rfl
  ·exact GA _ _
  ·exact GA _ _
  ·exact GA _ _
  ·exact EF _
  ·exact GA _ _
 exact z.MR t<|z.h8.fresh t
noncomputable def P7(k:Sk)(K:Es)(a:eI):It:=match k with
 | .L=>P8 K a
 | .T=>P9 K a
noncomputable def Bo(K:Es)(G:TE):TI:=λe H R=>G e H λx b=>∃a k,x = .ref a/\(∃d,rb k K b a d)/\R (P7 k K a) b
theorem nI(G:PE X l tl):PI X tg l (Bo X.K tl):=by
 intro d s j H R I h;refine ij (G d s j H _ I h) λv f O=>?_;obtain⟨x,g,z,U,W⟩:=O;obtain⟨a,k,e,⟨t,i⟩,q⟩:=W;subst e;cases U;have B : ∀b ∈ [f.heap.objs.size],Q0 X d g b:=λb Y=>by
  have e:b=f.heap.objs.size:=by simpa using Y
  subst e;exact z.MR (EF _)<|z.h8.fresh<|EF _
 obtain⟨m,r,p,n⟩:=z.sq i;cases k with
 | L=>exact SY p ⟨f.heap.objs.size,[f.heap.objs.size],_,_,g,rfl,z.kept (t':=f.toks) λb o e=>Ew _ e,Y2 a _,⟨_,ET _ rfl,rfl,rfl⟩,B,q⟩
 | T=>exact S2 p ⟨f.heap.objs.size,[f.heap.objs.size],_,_,g,rfl,z.kept (t':=f.toks) λb o e=>Ew _ e,Yb a _,⟨_,ET _ rfl,rfl,rfl⟩,B,q⟩
section
variable{κ:Type} [DecidableEq κ]
noncomputable def Ya(G:List (κ×V))(k:κ):Option V:=(G.find? λz=>decide<|z.1=k).map (·.2)
noncomputable def W8(G:List (κ×V))(k:κ)(v:V):List (κ×V):=
 if (G.any λz=>decide<|z.1=k)=cI then G.map (λz=>if z.1=k then (z.1,v)else z)else G++[(k,v)]
theorem X9{p:κ×V}{r:List (κ×V)}{k:κ}(e:p.1=k):Ya (p::r) k=aI p.2:=by simp[Ya,HV,e]
theorem Ka{p:κ×V}{r:List (κ×V)}{k:κ}(e : ¬p.1=k):Ya (p::r) k=Ya r k:=by simp[Ya,HV,e]
theorem Xz(G:List (κ×V))(k:κ)(v:V):(W8 G k v).length<=G.length+1:=by
 unfold W8;split
 ·rw[EE];omega
 ·rw[Fc,FL,II];omega
theorem KV.val{G:List (κ×V)}{H:List (κ×gv)}(r:KV G H)(k:κ):DQ (Ya G k) (M7 H k):=by
 unfold KV at r
 induction r with
 | nil=>exact Ga
 | @cons p q f B h t O=>
  obtain⟨a,d⟩:=h;by_cases e:p.1=k
  ·have I:q.1=k:=a.symm.trans e
   have b:M7 (q::B) k=aI q.2:=by simp[M7,HV,I]
   rw[X9 e,b];exact d
  ·have I : ¬q.1=k:=λz=>e (a.trans z)
   have b:M7 (q::B) k=M7 B k:=by simp[M7,HV,I]
   rw[Ka e,b];exact O
theorem KV.any(r:KV p9 vs)(k:κ):(p9.any λz=>decide<|z.1=k)=vs.any λz=>decide (z.1=k):=by
 unfold KV at r
 induction r with
 | nil=>rfl
 | cons h t B=>rw[Hc,Hc,B,h.1]
theorem KV.Sv(r:KV p9 vs)(k:κ)(I:RelV y u) :
 KV (p9.map λB=>if B.1=k then (B.1,y)else B) (vs.map λB=>if B.1=k then (B.1,u)else B):=by
 unfold KV at r ⊢
 induction r with
 | nil=>exact .nil
 | @cons p q d R h t O=>
  rw[Fb,Fb];refine .cons ?_ O;obtain⟨a,b⟩:=h;by_cases e:p.1=k
  ·rw[MY e,MY (a.symm.trans e)];exact⟨a,I⟩
  ·rw[RQ e,RQ (λz=>e<|a.trans z)];exact⟨a,b⟩
theorem KV.put(r:KV p9 vs)(k:κ)(z:RelV y u):KV (W8 p9 k y) (stored vs k u):=by
 unfold W8 stored;rw[r.any k];by_cases e:(vs.any λB=>decide<|B.1=k)=cI
 ·rw[MY e,MY e];exact r.Sv k z
 ·rw[RQ e,RQ e];exact Paired.snoc r ⟨rfl,z⟩
end
theorem iy(r:RelV (kV k) u):(qL P w).is k u=cI:=by
 cases k with
 | inl i=>obtain⟨t,e⟩:=(show ∃t,u=IB i t from r);subst e;exact Xx P w i t
 | inr x=>obtain⟨t,e⟩:=(show ∃t,u=Ln x t from r);subst e;exact Xw P w x t
theorem QA : ∀{G:List Key} {H:List gv},i4 (G.map kV) H->ItemsAre (qL P w) G H
 | [],_,r=>by rw[Mh]at r;cases r;exact .nil
 | k::G,_,r=>by
  rw[Fb]at r;cases r with
  | cons h t=>exact .cons (iy h)<|QA t
abbrev KT(H:Hp):List (List Key×V)->List (List Key×eI×gv)->Prop:=Paired λp q=>p.1=q.1/\H q.2.1=aI (.tup (p.1.map kV))/\RelV p.2 q.2.2
theorem KT.val{H:Hp}{G:List (List Key×V)}{xs:List (List Key×eI×gv)}(r:KT H G xs)(k:List Key):DQ (Ya G k) ((MG xs k).map (·.2)):=by
 induction r with
 | nil=>exact Ga
 | @cons p q f B h t O=>
  obtain⟨a,_,d⟩:=h;by_cases e:p.1=k
  ·have I:q.1=k:=a.symm.trans e
   have b:MG (q::B) k=aI q.2:=by simp[MG,HV,I]
   rw[X9 e,b];exact d
  ·have I : ¬q.1=k:=λz=>e (a.trans z)
   have b:MG (q::B) k=MG B k:=by simp[MG,HV,I]
   rw[Ka e,b];exact O
section
variable{P:i8}{w:i5}{H:Hp}{h:h7}{a:eI}
theorem mT(ok:m5 P w H h)(e:Rd H a u):l6 P w H h a u:=e.ok ok
theorem bZ(ok:m5 P w H h)(e:Rd H a (.dK p9)):p9.length<=j3/\(a==F7)=dV/\∃G,KV p9 G/\h.DictOf (qL P w) a G:=
 show l6 P w H h a (.dK p9)from mT ok e
theorem Ad(ok:m5 P w H h)(e:H a=aI (.dK p9)):p9.length<=j3/\(a==F7)=dV/\∃G,KV p9 G/\h.DictOf (qL P w) a G:=bZ ok<|.inl e
theorem dY(ok:m5 P w H h)(e:H a=aI (.tup<|ks.map kV)):(RD<|qL P w).is h ks a:=by obtain⟨_,z,r,o,b,d,n,B⟩:=(show l6 P w H h a (.tup<|ks.map kV)from ok a _ e);exact⟨o,z.toArray,n,b,(Prod.mk.inj d).1,B,by simpa using QA r⟩
theorem pA(ok:m5 P w H h)(e:Rd H a (.dT p9)):p9.length<=j3/\(a==F7)=dV/\
 ∃xs,KT H p9 xs/\h.DictOfH (RD<|qL P w) a xs:=by
 obtain⟨z,y,xs,r,o,d,B,f,g,I,O,R⟩:=(show l6 P w H h a (.dT p9)from mT ok e);refine⟨z,y,xs,r,o,d,B,f,g,I,O,λx hx=>?_,R⟩;have all : ∀{l:List (List Key×V)} {m:List (List Key×eI×gv)},KT H l m->∀x∈m,(RD<|qL P w).is h x.1 x.2.1:=by
  intro l m q
  induction q with
  | nil=>intro x hx;exact nomatch hx
  | @cons p q i W b t U=>
   intro x hx;rcases ED.mp hx with e | hx
   ·subst e
    exact dY ok (by rw[<- b.1];exact b.2.1)
   ·exact U x hx
 exact all r x hx
end
noncomputable def F9(H:Hp)(a:eI)(y:V)(r:Option V):Prop:=
 (∃d k,Rd H a (.dK d)/\y=kV k/\r=Ya d k)\/∃d k b,Rd H a (.dT d)/\y = .ref b/\H b=aI (.tup<|k.map kV)/\r=Ya d k
theorem F9.k{H:Hp}{a:eI}{G:List (Key×V)}{k:Key}(e:H a=aI (.dK G)):F9 H a (kV k) (Ya G k):= .inl ⟨G,k,.inl e,rfl,rfl⟩
section
variable{X:Cx}{pins:MW}{σ:St}{H:Hp}{s:gE}{a:eI}{y v:V}{u r:gv}{o:Option V}{A:l7}{E:MQ}
theorem Inv.big(I:Inv X pins σ H s):F7<s.heap.objs.size:=by have h:o5<s.heap.objs.size:=(I.mod.glob.keeps I.bk).lt;exact Nat.lt_trans ⋯ h
theorem Wy(W:A.units+1<Dt)(I:Inv X pins σ H s)(g:F9 H a y (aI v))(U:RelV y u)(h : ∀G s',Inv X pins σ H s'->RelV v G->Q G s') :
 wpAny (hA X.prog X.w) A (DW (.ref a) u) Q E s:=by
 rcases g with⟨i,k,e,B,l⟩ | ⟨i,k,b,e,B,Y,l⟩
 ·subst B
  obtain⟨z,m,r,O,d⟩:=bZ I.h8 e;obtain⟨G,f,R⟩:=DQ.some_of (v:=v) (o:=M7 r k) (by rw[l];exact O.val k);exact wpAny_getItem_of (iy U) d.mapOf f<|h G _ (I.tok _) R
 ·subst B
  cases (show u=EO b from U);obtain⟨z,m,t,O,d⟩:=pA I.h8 e;obtain⟨G,f,R⟩:=DQ.some_of (v:=v) (o:=(MG t k).map (·.2)) (by rw[l];exact O.val k);obtain⟨p,n,j⟩:=Option.map_eq_some_iff.mp f;refine wpAny_getItem_heap (tupleKind_room_in1 W) (dY I.h8 Y) d n ?_;rw[j];exact h G _ (I.tok _) R
theorem iK(I:Inv X pins σ H s)(B:Ng (H a))(hs:Hq a s.heap h')(O : ∃q,h'.get? a=aI q)(new:l6 X.prog X.w (upd H a ob) h' a ob) :
 Inv X pins σ (upd H a ob) {s with heap:=h',toks:=t'}:=
 I.write (x:=a) (e:=a) B (.inl rfl) (λb q R z=>(hs.2 b R).trans z) O new
theorem pD(z:p9.length<=j3)(G:(a==F7)=dV)(B:KV p9 vs)(dd:h'.DictOf (qL P w) a vs) :
 l6 P w H' h' a (.dK p9):=⟨z,G,vs,B,dd⟩
end
def sR(i:hH):Prop:=∀z B,PU i dV z B=operate [z,B] (DW z B)
theorem fE{prog:i8}{w:i5}{A:l7}{E:MQ}{s:gE}{env:l0}{G z:hH}{pos:ik}{T id:String}{Q:MQ}
 (H:N5 (.type T) "__getitem__" = pure (aI (.builtin id))) (hs:sR z)
 (h:wpAny (hA prog w) A (hX G env) (λo R=>wpAny (hA prog w) A (hX z env) (λi B=>B.TypeIs o T/\wpAny (hA prog w) A (DW o i) Q E B) E R) E s) :
 wpAny (hA prog w) A (hX (.Subscript G z pos) env) Q E s:=by
 refine Pb<|EG h (λo R Y=>EG Y (λi B I=>?_) λ_ _ x=>x) λ_ _ x=>x;obtain⟨U,I⟩:=I;unfold Rw;refine Eu ?_;rw[getitemInPython_of_ne U.not_modules];refine Eu<|wpAny_specialOf U H ?_;have O:wpAny (hA prog w) A (PU z dV o i) (λr W=>wpAny (hA prog w) A (letTemporaryGo G o r >>= λ_=>pure r) Q E W) E B:=by rw[hs o i];exact wpAny_operating<|EG I (λr W a=>Eu<|wpAny_letTemporaryGo<|EB a) λ_ _ x=>x
 first
  | exact EB<|Eu O
  | exact Eu<|EB<|Eu O
  | exact Eu O
theorem XQ(I:Inv X pins σ H s)(g:F9 H a y o):s.TypeIs (.ref a) "dict":=by
 rcases g with⟨f,k,e,_,_⟩ | ⟨f,k,b,e,_,_,_⟩
 ·obtain⟨_,_,h,_,d⟩:=bZ I.h8 e
  exact d.typeIs
 ·obtain⟨_,_,i,_,d⟩:=pA I.h8 e
  exact d.typeIs
noncomputable def tJ(G ty:TE):TE:=λd H Q=>G d H λx e=>ty d e λy b=>∃a v,x = .ref a/\F9 b a y (aI v)/\Q v b
section
variable{X:Cx}{o i e value:hH}{pos pos' DN:ik}{td ty tv:TE}
theorem VN(B:X.A.units+1<Dt)(O:PE X o td)(hi:PE X i ty)(hs:sR i):PE X (.Subscript o i pos) (tJ td ty):=by intro b s d H Q I h;refine fE PySem.F.slot_dict_getitem.lookup hs<|ij (O b s d H _ I h) λu n ⟨x,e,R,rx,U⟩=>ij (hi b n d e _ R U) λp r ⟨y,f,z,W,a,v,m,g,Y⟩=>?_;subst m;obtain rfl:u=EO a:=rx;exact⟨XQ z g,Wy B z g W λw t j l=>⟨v,f,j,l,Y⟩⟩
end
theorem cb(h:h7)(z:F7<h.objs.size):l6 P w H (h.push {cls:= .type "dict",data:= .dict #[]}) h.objs.size (.dK []):=
 ⟨He _,beq_eq_false_iff_ne.mpr<|Fy<|ER z,[],.nil,Heap.DictOf.new h⟩
noncomputable def Y5:List (TE×TE)->St->Hp->(List (V×V)->Hp->Prop)->Prop
 | [],_,H,Q=>Q [] H
 | (tk,tv)::r,σ,H,Q=>tk σ H λx a=>tv σ a λy b=>Y5 r σ b λd z=>Q ((x,y)::d) z
abbrev VV:List (V×V)->List (gv×gv)->Prop:=Paired λp q=>RelV p.1 q.1/\RelV p.2 q.2
noncomputable def Of(X:Cx)(pos:ik)(z:List (Option hH))(B:List hH)(I:List (TE×TE)):Prop:=
 ∀(a:MW) (s:gE) (b:St) (H:Hp) (Q:List (V×V)->Hp->Prop),Inv X a b H s->Y5 I b H Q->
  wpAny (hA X.prog X.w) X.A (evalPairs<|pairTrees z B X.env pos) (λg f=>∃e d,Inv X a b d f/\VV e g/\Q e d) X.xe s
theorem VA{X:Cx}{pos:ik}:Of X pos [] [] []:=λa s b H Q I h=>pairTrees_nil_walk ⟨[],H,I,.nil,h⟩
theorem wK{X:Cx}{pos:ik}{k v:hH}{G:List (Option hH)}{Z:List hH}{J L:TE}{z:List (TE×TE)}(hk:PE X k J)(B:PE X v L)(O:Of X pos G Z z) :
 Of X pos (aI k::G) (v::Z) ((J,L)::z):=λa s b H Q I h=>
 pairTrees_cons_walk (ij (hk a s b H _ I h) λu n ⟨x,d,R,rx,U⟩=>ij (B a n b d _ R U) λr o ⟨y,e,W,Y,l⟩=>
  ij (O a o b e _ W l) λt p ⟨j,f,g,i,m⟩=>⟨(x,y)::j,f,g,.cons ⟨rx,Y⟩ i,m⟩)
noncomputable def kL(G more:List (Key×V)):List (Key×V):=more.foldl (λacc z=>W8 acc z.1 z.2) G
theorem KV.merge : ∀{more:List (Key×V)} {z:List (Key×gv)} {G:List (Key×V)} {H:List (Key×gv)},KV more z->KV G H->KV (kL G more) (merged H z):=by
 intro more z G H r;unfold KV at r
 induction r generalizing G H with
 | nil=>intro q;exact q
 | @cons p q a O h t B=>
  intro I;have e:KV (W8 G p.1 p.2) (stored H q.1 q.2):=by have:=I.put p.1 h.2;rw[<- h.1];exact this
  exact B e
theorem vc : ∀(more G:List (Key×V)),(kL G more).length<=G.length+more.length
 | [],G=>by show G.length<=G.length+0;omega
 | p::r,G=>by have a:=vc r<|W8 G p.1 p.2;have b:=Xz G p.1 p.2;show(kL (W8 G p.1 p.2) r).length<=_;rw[FL];omega
theorem Jj{P:i8}{w:i5} : ∀{G:List (Key×V)} {ws:List (gv×gv)},VV (G.map λB=>(kV B.1,B.2)) ws->∃z,Carries (qL P w) ws z/\KV G z
 | [],_,r=>by rw[Mh]at r;cases r;exact⟨[],Ga,.nil⟩
 | p::G,_,r=>by
  rw[Fb]at r;cases r with
  | @cons a b I bs h t=>
   obtain⟨z,c,q⟩:=Jj (P:=P) (w:=w) t;obtain⟨b1,b2⟩:=b;exact⟨(p.1,b2)::z,⟨iy h.1,rfl,c⟩,.cons ⟨rfl,h.2⟩ q⟩
noncomputable def tH(B:List (TE×TE)):TE:=λe H Q=>∀p,H p=cS->Y5 B e (upd H p<|.dK []) λd b=>b p=aI (.dK [])/\∃a:List (Key×V),d=a.map (λz=>(kV z.1,z.2))/\a.length<=15/\Q (.ref p) (upd b p<|.dK<|kL [] a)
theorem VM{X:Cx}{pos:ik}{B:List (Option hH)}{O:List hH}{R:List (TE×TE)}(h:Of X pos B O R)(Y:B.all (·.isSome)=cI)(L:B.length=O.length)(J:B ≠ [])
 (G:B.length<=15):PE X (.Dict B O pos) (tH R):=by
 intro d s E H Q I q;have p:=I.h8.fresh (EF s.heap.objs.size);have f:=I.laid (a:=s.heap.objs.size) (o:= .dK []) (h':=s.heap.push {cls:= .type "dict",data:= .dict #[]}) (t':=s.toks) (λ_ _ q=>Ew _ q) (EF _) (cb s.heap I.big);refine wpAny_Dict_walk (knd:=qL X.prog X.w) Y L J G (ij (h d _ E _ _ f (q _ p)) λS N ⟨M,F,U,g,e,b,j,lk,x⟩=>?_);subst j;obtain⟨C,c,A⟩:=Jj (P:=X.prog) (w:=X.w) g;obtain⟨z,m,K,y,i⟩:=Ad U.h8 e;cases y;refine⟨C,c,i,λh' W t=>⟨.ref s.heap.objs.size,_,?_,rfl,x⟩⟩;have u:(kL [] b).length<=j3:=by have l:=vc b [];rw[II]at l;rw[GY];omega
 have n : ∃q,h'.get? s.heap.objs.size=aI q:=let ⟨q,_,_,r,_⟩:=W;⟨q,r⟩;exact iK U (by rw[e];exact Ga) t n<|pD u m (A.merge .nil) W
end L2
namespace DL
open PySem PySem.Spec PyProof.Rows L2
noncomputable def o3:List Str:=["NoPrime","Nought","NoTable","NoWidths","NoRow","Unlike","TooMany","NoTurn","NoLine","Nothing","NoArrow","NoText","NoRoom"]
noncomputable def wh:List gv:=[.type "ValueError",.type "Exception",.type "BaseException",.type "object"]
noncomputable def xW(K:Es)(c:Str):Option eI:=match GN K o5 c with
 | some (aI (.ref C))=>aI C
 | _=>cS
noncomputable def ao(K:Es)(C:eI):Bool:=
 ["int","bool","str","tuple","list"].all (λt=>Fw K (.ref C) (.type t)==aI dV) && Fw K (.ref C) (.type "ValueError")==aI cI &&
 Fx K (.ref C) "__getattribute__" == aI (aI (.builtin "BaseException.__getattribute__")) && Fx K (.ref C) "__getattr__" == aI cS &&
 Fx K (.ref C) "__class__" == aI (aI (.builtin "object.__class__")) && Fo K C (.type "object")==aI cI && Fo K C (.type "BaseException")==aI cI &&
 HW K (.builtin "object.__class__") "__get__" == aI (aI (.builtin "getset_descriptor.__get__")) && PySem.W.takesIn K (.builtin "object.__class__")==aI cI &&
 (Gn K C).any (λa=> !a.hasDel) && GB K (.ref C)==aI (.type "type")
noncomputable def wB(K:Es):Bool:=match xW K "SplitError" with
 | some S=>o3.all λc=>match xW K c with
  | some C=>ao K C && Fw K (.ref C) (.ref S)==aI cI && o3.all λz=>match xW K z with
   | some B=>Fw K (.ref C) (.ref B)==aI (c==z)
   | none=>dV
  | none=>dV
 | none=>dV
noncomputable def Jk(h:h7)(a:eI)(C:eI):Prop:=∃o b,h.get? a=aI o/\o.cls = .ref C/\o.data = .fields b
structure B1(K:Es)(H:Hp)(c:Str)(n:Option Int)(a:eI):Prop where
 all:wB K=cI
 mem:c∈o3
 ex : ∃C φ,xW K c=aI C/\H a=aI (.ext φ)/\(∀h,φ h->Jk h a C)/\
  match n with
  | none=>True
  | some i=>∃d,(∀h,φ h->∃o,h.get? a=aI o/\o.dict=aI d)/\H d=aI (.xd [(if c==("NoRoom" : Str)then "room" else "at",.int i)])
theorem B1.mono{K:Es}{H G:Hp}{c:Str}{n:Option Int}{a:eI}(e : ∀b o,H b=aI o->G b=aI o)(h:B1 K H c n a):B1 K G c n a:=by
 obtain⟨f,g,C,j,B,g2,I,z⟩:=h;refine⟨f,g,C,j,B,e _ _ g2,I,?_⟩;cases n with
 | none=>exact z
 | some i=>obtain⟨d,O,R⟩:=z;exact⟨d,O,e _ _ R⟩
theorem yE{K:Es}{c:Str}{C:eI}(h:wB K=cI)(G:c∈o3)(e:xW K c=aI C) : ∃S,xW K "SplitError" = aI S/\ao K C=cI/\Fw K (.ref C) (.ref S)=aI cI/\
 ∀z B,z∈o3->xW K z=aI B->Fw K (.ref C) (.ref B)=aI (c==z):=by
 unfold wB at h;split at h
 ·rename_i S I
  have a:=EY.mp h c G;rw[e]at a;simp only[Ex,beq_iff_eq]at a;refine⟨S,I,a.1.1,a.1.2,λz B O R=>?_⟩;have b:=EY.mp a.2 z O;rw[R]at b;exact beq_iff_eq.mp b
 ·cases h
abbrev St:=L2.St
noncomputable def uN:D->Option Key
 | .int i=>aI (.inl i)
 | .str x=>aI (.inr x)
 | _=>cS
noncomputable def dX:List D->Option (List Key)
 | []=>aI []
 | d::ds=>(uN d).bind λk=>(dX ds).map λr=>k::r
noncomputable def Nb(H:Hp)(a:eI)(G:List D)(xs:List V):Prop:=∃b,dX G=aI b/\b.length=xs.length/\∃o,H a=aI (.xA o<|.dK<|b.zip xs)
noncomputable def tj(k:List Int):Int:=reduceHash<|Builtin.Tuple.tupleHashOf<|k.map hashInt
noncomputable def Eg(o:n0)(xs:List (List Int×eI×gv)):Prop:=o.ExactDict/\∃a z,o.data = .dict a z/\a.toList=xs.map (λx=>⟨tj x.1,.ref x.2.1,x.2.2⟩)/\(xs.map (·.1)).Nodup
def Pf(a:eI)(o:n0):HO:= .ext λh=>h.get? a=aI o
noncomputable def Nc(K:Es)(H:Hp)(a:eI)(G:List (List Int))(I:List V):Prop:=
 (a==F7)=dV/\∃o b,H a=aI (Pf a o)/\Eg o b/\b.map (·.1)=G/\b.length<=j3/\(∀x∈b,l4 K H x.2.1<|x.1.map V.int)/\i4 I (b.map (·.2.2))
def ND(z B:V):List (Str×V):=uy "table" B (uy "p" z [])
noncomputable def QF(K:Es)(C:eI):Bool:=LW K C EU && (PySem.W.hasDictIn K C && (PySem.W.plainOver K C && (Fx K (.ref C) "__setattr__" == aI (aI (.builtin "object.__setattr__")) && (Fx K (.ref C) "__class__" == aI (aI (.builtin "object.__class__")) &&
 (HW K (.builtin "object.__class__") "__get__" == aI (aI (.builtin "getset_descriptor.__get__")) && (PySem.W.takesIn K (.builtin "object.__class__")==aI cI && (Fo K C (.type "object")==aI cI && ["int","bool","str","tuple","list"].all λt=>Fw K (.ref C) (.type t)==aI dV)))))))
noncomputable def L1(K:Es)(c:Str):Option eI:=match GN K o5 c with
 | some (aI (.ref C))=>if QF K C=cI then aI C else cS
 | _=>cS
theorem ve{K:Es}{c:Str}{C:eI}(h:L1 K c=aI C):QF K C=cI:=by
 unfold L1 at h;split at h
 ·split at h
  ·rename_i a;cases h;exact a
  ·cases h
 ·cases h
mutual
def Rep(K:Es)(H:Hp):D->V->Prop
 | .ih,v=>v = .ih
 | .bl b,v=>v = .bl b
 | .int i,v=>v = .int i
 | .str x,v=>v = .str x
 | .tup ds,v=>∃a d,v = .ref a/\l4 K H a d/\hF K H ds d
 | .lst ds,v=>∃a d,v = .ref a/\kv K H a d/\hF K H ds d
 | .exc c n,v=>∃a,v = .ref a/\B1 K H c n a
 | .pk ks vs,v=>∃a d,v = .ref a/\Nb H a ks d/\hF K H vs d
 | .n4 ks vs,v=>∃a d,v = .ref a/\Nc K H a ks d/\hF K H vs d
 | .ins c p t,v=>∃a C e z B,v = .ref a/\L1 K c=aI C/\H a=aI (.ins C e<|ND z B)/\Rep K H p z/\Rep K H t B
def hF(K:Es)(H:Hp):List D->List V->Prop
 | [],xs=>xs=[]
 | d::ds,xs=>∃x r,xs=x::r/\Rep K H d x/\hF K H ds r
end
theorem xC{K:Es}{H G:Hp}{a:eI}{xs:List V}(e:jn H G)(h:l4 K H a xs):l4 K G a xs:=by
 rcases h with(h | ⟨o,h⟩) | h
 ·exact .inl<|.inl<|e _ _ h
 ·exact .inl<|.inr ⟨o,e _ _ h⟩
 ·exact .inr h
theorem Qe{k:Sk}{K:Es}{H G:Hp}{a:eI}{xs:List V}(e:jn H G)(h:rb k K H a xs):rb k K G a xs:=by
 cases k
 ·exact e.seq h
 ·exact xC e h
mutual
theorem Rep.mono{K:Es}{H G:Hp}(e:jn H G) : ∀{d:D} {v:V},Rep K H d v->Rep K G d v
 | .ih,_,h=>h
 | .bl _,_,h=>h
 | .int _,_,h=>h
 | .str _,_,h=>h
 | .tup ds,v,h=>by obtain⟨a,b,f,i,g⟩:=(show ∃a b,v = .ref a/\l4 K H a b/\hF K H ds b from h);exact(show ∃a b,v = .ref a/\l4 K G a b/\hF K G ds b from⟨a,b,f,xC e i,hF.mono e g⟩)
 | .lst ds,v,h=>by obtain⟨a,b,f,i,g⟩:=(show ∃a b,v = .ref a/\kv K H a b/\hF K H ds b from h);exact(show ∃a b,v = .ref a/\kv K G a b/\hF K G ds b from⟨a,b,f,e.seq i,hF.mono e g⟩)
 | .exc c n,v,h=>by obtain⟨a,f,i⟩:=(show ∃a,v = .ref a/\B1 K H c n a from h);exact(show ∃a,v = .ref a/\B1 K G c n a from⟨a,f,i.mono e⟩)
 | .pk ks vs,v,h=>by obtain⟨a,b,f,⟨r,I,g2,o,O⟩,g⟩:=(show ∃a b,v = .ref a/\Nb H a ks b/\hF K H vs b from h);exact(show ∃a b,v = .ref a/\Nb G a ks b/\hF K G vs b from⟨a,b,f,⟨r,I,g2,o,e _ _ O⟩,hF.mono e g⟩)
 | .n4 ks vs,v,h=>by obtain⟨a,b,f,⟨I,o,s,g2,O,R,U,g6,W⟩,g⟩:=(show ∃a b,v = .ref a/\Nc K H a ks b/\hF K H vs b from h);exact(show ∃a b,v = .ref a/\Nc K G a ks b/\hF K G vs b from⟨a,b,f,⟨I,o,s,e _ _ g2,O,R,U,λx m=>xC e<|g6 x m,W⟩,hF.mono e g⟩)
 | .ins c p t,v,h=>by obtain⟨a,C,j,z,B,f,i,g,Y,l⟩:=(show ∃a C j z B,v = .ref a/\L1 K c=aI C/\H a=aI (.ins C j<|ND z B)/\Rep K H p z/\Rep K H t B from h);exact(show ∃a C j z B,v = .ref a/\L1 K c=aI C/\G a=aI (.ins C j<|ND z B)/\Rep K G p z/\Rep K G t B from⟨a,C,j,z,B,f,i,e _ _ g,Rep.mono e Y,Rep.mono e l⟩)
theorem hF.mono{K:Es}{H I:Hp}(e:jn H I) : ∀{G:List D} {xs:List V},hF K H G xs->hF K I G xs
 | [],_,h=>h
 | d::G,xs,h=>by obtain⟨x,r,a,b,f⟩:=(show ∃x r,xs=x::r/\Rep K H d x/\hF K H G r from h);exact(show ∃x r,xs=x::r/\Rep K I d x/\hF K I G r from⟨x,r,a,Rep.mono e b,hF.mono e f⟩)
end
section
variable{K:Es}{H:Hp}
theorem hF.nil:hF K H [] []:=(show([]:List V)=[]from rfl)
theorem hF.cons(h:Rep K H d x)(t:hF K H ds xs):hF K H (d::ds) (x::xs):=⟨x,xs,rfl,h,t⟩
theorem hF.Du(h:hF K H [] xs):xs=[]:=h
theorem hF.B8(h:hF K H (d::ds) xs) : ∃x r,xs=x::r/\Rep K H d x/\hF K H ds r:=h
theorem hF.length : ∀{G:List D} {xs:List V},hF K H G xs->xs.length=G.length
 | [],xs,h=>by rw[h.Du];rfl
 | d::G,xs,h=>by obtain⟨x,r,e,_,t⟩:=h.B8;rw[e,FL,FL,hF.length t]
theorem hF.get : ∀{G:List D} {xs:List V} {i:Nat} {d:D},hF K H G xs->G[i]? = aI d->∃x,xs[i]? = aI x/\Rep K H d x
 | [],_,_,_,_,e=>by simp at e
 | c::G,xs,0,d,h,e=>by obtain⟨x,r,a,b,_⟩:=h.B8;simp at e;subst e;exact⟨x,by rw[a];rfl,b⟩
 | c::G,xs,i+1,d,h,e=>by obtain⟨x,r,a,_,t⟩:=h.B8;obtain⟨y,z,g2⟩:=hF.get (i:=i) (d:=d) t (by simpa using e);exact⟨y,by rw[a];simpa using z,g2⟩
theorem hF.OC{G:List D}{xs:List V}{i:Nat}{x:V}(h:hF K H G xs)(e:xs[i]? = aI x) : ∃d,G[i]? = aI d/\Rep K H d x:=by
 have b:i<G.length:=by rw[<- h.length];exact(EL.mp e).1
 obtain⟨y,a,r⟩:=h.get<|Ey b;rw[e]at a;cases a;exact⟨_,Ey b,r⟩
theorem hF.append : ∀{G I:List D} {xs J:List V},hF K H G xs->hF K H I J->hF K H (G++I) (xs++J)
 | [],_,xs,_,h,g=>by rw[h.Du];exact g
 | d::G,I,xs,J,h,g=>by obtain⟨x,r,e,a,t⟩:=h.B8;rw[e];exact hF.cons a<|hF.append t g
theorem hF.drop : ∀{G:List D} {xs:List V} (n:Nat),hF K H G xs->hF K H (G.drop n) (xs.drop n)
 | _,_,0,h=>h
 | [],xs,n+1,h=>by rw[h.Du];exact hF.nil
 | d::G,xs,n+1,h=>by obtain⟨x,r,e,_,t⟩:=h.B8;rw[e];exact hF.drop n t
theorem hF.take : ∀{G:List D} {xs:List V} (n:Nat),hF K H G xs->hF K H (G.take n) (xs.take n)
 | _,_,0,h=>by simp;exact hF.nil
 | [],xs,n+1,h=>by rw[h.Du];exact hF.nil
 | d::G,xs,n+1,h=>by obtain⟨x,r,e,a,t⟩:=h.B8;rw[e];exact hF.cons a<|hF.take n t
end
structure Ext(H0 H r0 H':Hp):Prop where
 s0:jn H0 r0
 s1:jn H H'
 sub:jn r0 H'
 new : ∀a,H0 a=cS->H a≠cS->r0 a=cS
theorem Ext.refl(s:jn H0 H):Ext H0 H H0 H:=⟨jn.refl _,jn.refl _,s,λ_ h _=>h⟩
theorem Ext.trans(a:Ext H0 H H1 G1)(b:Ext H1 G1 H2 G2):Ext H0 H H2 G2:=
 ⟨a.s0.trans b.s0,a.s1.trans b.s1,b.sub,λc e d=>b.new c (a.new c e d) (by
  cases q:H c with
  | none=>exact absurd q d
  | some o=>rw[a.s1 c o q];simp)⟩
theorem jl(h:H p=cS)(o:HO):jn H (upd H p o):=λb u q=>by rw[zu (zL q h)];exact q
theorem js(s:jn H0 H)(h:H p=cS):H0 p=cS:=s.free h
theorem Vg(s:jn H0 H):jn (upd H0 p o) (upd H p o):=λb u q=>by
 by_cases e:b=p
 ·subst e;rw[zt]at q ⊢;exact q
 ·rw[zu e]at q ⊢;exact s b u q
theorem Ext.alloc(s:jn H0 H)(h:H p=cS)(o:HO):Ext H0 H (upd H0 p o) (upd H p o):=
 ⟨jl (js s h) o,jl h o,Vg s,λa b d=>by rw[zu (λe=>d<|by rw[e];exact h)];exact b⟩
theorem Ext.hide(s:jn H0 H)(h:H p=cS)(o:HO):Ext H0 H H0 (upd H p o):=
 ⟨jn.refl _,jl h o,s.trans<|jl h o,λa b _=>b⟩
theorem Ext.show(e:Ext H0 H r0 H')(G:H a=cS)(J:r0 a=cS)(I:H' a=aI o)(s:jn H0 H):Ext H0 H (upd r0 a o) H':=
 ⟨e.s0.trans<|jl J o,e.s1,λb u q=>by
  by_cases z:b=a
  ·subst z;rw[zt]at q;rw[I];exact q
  ·rw[zu z]at q;exact e.sub b u q,λb O B=>by
  rw[zu (λz=>B<|by rw[z];exact G)];exact e.new b O B⟩
structure G5(K:Es)(H0 H:Hp)(rows:List (List D))(a:eI)(bs:List eI):Prop where
 a0:H0 a=cS
 ha:H a=aI (.lst<|bs.map V.ref)
 nd:(a::bs).Nodup
 len:bs.length=rows.length
 row : ∀(k:Nat) b row,bs[k]? = aI b->rows[k]? = aI row->H0 b=cS/\∃xs,H b=aI (.lst xs)/\hF K H0 row xs
theorem G5.at{K:Es}{H0 H:Hp}{rows:List (List D)}{a:eI}{bs:List eI}(n:G5 K H0 H rows a bs){b:eI}(z:b∈a::bs):H0 b=cS/\∃xs,H b=aI (.lst xs):=by
 rcases ED.mp z with rfl | z
 ·exact⟨n.a0,_,n.ha⟩
 ·obtain⟨k,d⟩:=List.getElem?_of_mem z
  have e:=(EL.mp d).1;rw[n.len]at e;obtain⟨f,xs,g,_⟩:=n.row k b _ d<|Ey e;exact⟨f,xs,g⟩
theorem G5.move{K:Es}{H0 H G J:Hp}{rows:List (List D)}{a:eI}{bs:List eI}(n:G5 K H0 H rows a bs)(s:jn H0 G)(L : ∀b∈a::bs,G b=cS)(h : ∀b∈a::bs,J b=H b):G5 K G J rows a bs:=
 ⟨L a EN,by rw[h a EN];exact n.ha,n.nd,n.len,λk b row d B=>by obtain⟨_,f,e,I⟩:=n.row k b row d B;have z:b∈a::bs:=EK _<|HB d;exact⟨L b z,f,by rw[h b z];exact e,I.mono s⟩⟩
noncomputable def zj(K:Es)(H0 H:Hp)(G:St)(γ:Ctx):Prop:=
 (∀(i:Nat) b,γ[i]? = aI (.nest b)->∃a bs,G[i]? = aI (aI (.ref a))/\G5 K H0 H b a bs/\∀(j:Nat) d c,γ[j]? = aI (.own d)->G[j]? = aI (aI (.ref c))->c∉a::bs)/\
 ∀(i j:Nat) z B,γ[i]? = aI (.nest z)->γ[j]? = aI (.nest B)->i=j
theorem zj.OM{K:Es}{H0 H:Hp}{G:St}{γ:Ctx}(h : ∀(i:Nat) rows,γ[i]? ≠ aI (.nest rows)):zj K H0 H G γ:=⟨λi rows e=>absurd e<|h i rows,λi j z B e=>absurd e<|h i z⟩
theorem zj.move{K:Es}{H0 H G J:Hp}{I:St}{γ:Ctx}(n:zj K H0 H I γ)(s:jn H0 G)(h : ∀(i:Nat) rows a bs,γ[i]? = aI (.nest rows)->I[i]? = aI (aI (.ref a))->G5 K H0 H rows a bs->(∀(j:Nat) L c,γ[j]? = aI (.own L)->I[j]? = aI (aI (.ref c))->c∉a::bs)->∀b∈a::bs,G b=cS/\J b=H b):zj K G J I γ:=
 ⟨λi rows e=>by obtain⟨a,bs,d,f,z⟩:=n.1 i rows e;exact⟨a,bs,d,f.move s (λb B=>(h i rows a bs e d f z b B).1)<|λb B=>(h i rows a bs e d f z b B).2,z⟩,n.2⟩
theorem zj.ext{K:Es}{H0 H G I:Hp}{J:St}{γ:Ctx}(n:zj K H0 H J γ)(e:Ext H0 H G I):zj K G I J γ:=
 n.move e.s0 λi d a bs _ _ f _ b z=>by obtain⟨B,g,g2⟩:=f.at z;exact⟨e.new b B (by rw[g2];simp),by rw[e.s1 b _ g2,g2]⟩
structure RC(K:Es)(H0 H:Hp)(σ:St)(γ:Ctx):Prop where
 sub:jn H0 H
 len:σ.length=γ.length
 val : ∀(i:Nat) d,γ[i]? = aI (.val d)->∃v,σ[i]? = aI (aI v)/\Rep K H0 d v
 own : ∀(i:Nat) ds,γ[i]? = aI (.own ds)->∃a xs,σ[i]? = aI (aI (.ref a))/\H0 a=cS/\H a=aI (.lst xs)/\hF K H0 ds xs
 ne : ∀(i j:Nat) a ds es,γ[i]? = aI (.own ds)->γ[j]? = aI (.own es)->σ[i]? = aI (aI (.ref a))->σ[j]? = aI (aI (.ref a))->i=j
 C5:zj K H0 H σ γ
theorem RC.ext{K:Es}{H0 H G I:Hp}{J:St}{γ:Ctx}(r:RC K H0 H J γ)(e:Ext H0 H G I):RC K G I J γ:=
 ⟨e.sub,r.len,λi d h=>let ⟨v,b,f⟩:=r.val i d h;⟨v,b,f.mono e.s0⟩,
  λi g h=>let ⟨a,j,b,f,z,B⟩:=r.own i g h;⟨a,j,b,e.new a f (by rw[z];simp),e.s1 _ _ z,B.mono e.s0⟩,r.ne,r.C5.ext e⟩
noncomputable def tV(K:Es)(f:CO D):TE:=λh H Q=>∃e g d,RC K e H h g/\f g=aI d/\∀v b a,Ext e H a b->Rep K a d v->Q v b
noncomputable def tQ(K:Es)(f:CO (Sk×List D)):TE:=λj H Q=>∃g i k h,RC K g H j i/\f i=aI (k,h)/\∀a e d b,Ext g H b d->rb k K d a e->(k = .T->l4 K b a e)->hF K b h e->Q (.ref a) d
noncomputable def tO(K:Es)(f:CO (List D)):TE:=λj H Q=>∃e i g,RC K e H j i/\f i=aI g/\
 ∀a h d b,Ext e H b d->H a=cS->b a=cS->d a=aI (.lst h)->hF K b g h->Q (.ref a) d
noncomputable def tT(K:Es)(f:CO Bool):TT:=λh H Q=>∃e g b,RC K e H h g/\f g=aI b/\∀d a,Ext e H a d->Q b d
noncomputable def tA(K:Es)(f:CO (List D)):TA:=λi H Q=>∃d h e,RC K d H i h/\f h=aI e/\∀g b a,Ext d H a b->hF K a e g->Q g b
abbrev PV(X:Cx)(e:hH)(f:CO D):Prop:=PE X e (tV X.K f)
abbrev PQ(X:Cx)(e:hH)(f:CO (Sk×List D)):Prop:=PE X e (tQ X.K f)
abbrev PO(X:Cx)(e:hH)(f:CO (List D)):Prop:=PE X e (tO X.K f)
abbrev q5(X:Cx)(e:hH)(f:CO Bool):Prop:=PT X e (tT X.K f)
abbrev G6(X:Cx)(e:hH)(f:CO Bool):Prop:=PW X e (tT X.K f)
abbrev DP(X:Cx)(es:List hH)(f:CO (List D)):Prop:=PA X es (tA X.K f)
theorem jw(h:PE X e t)(i : ∀G H Q,t' G H Q->t G H Q):PE X e t':=λa s G H Q I q=>h a s G H Q I<|i G H Q q
theorem Xp(h:PT X e t)(i : ∀G H Q,t' G H Q->t G H Q):PT X e t':=λa s G H Q I q=>h a s G H Q I<|i G H Q q
theorem nj(h:PW X e t)(i : ∀G H Q,t' G H Q->t G H Q):PW X e t':=λz a s G H Q I q=>h z a s G H Q I<|i G H Q q
theorem nY(h:PA X es t)(i : ∀G H Q,t' G H Q->t G H Q):PA X es t':=λb a s G H Q I q=>h b a s G H Q I<|i G H Q q
theorem vL{X:Cx}{st:i7}{t t':TS}(h:PS X st t)(i : ∀D G H,t' D G H->t D G H):PS X st t':=λa s G H D I q=>h a s G H D I<|i D G H q
theorem dm{X:Cx}{st:List i7}{t t':TS}(h:tF X st t)(i : ∀D G H,t' D G H->t D G H):tF X st t':=λa s G H D I q=>h a s G H D I<|i D G H q
theorem Xs(h:PI X tg e t)(i : ∀G H R,t' G H R->t G H R):PI X tg e t':=λa s G H R I q=>h a s G H R I<|i G H R q
theorem k6(h:n<=lim):n<=j3:=EX h ⋯
section
variable{X:Cx}{e a b c:hH}{pos:ik}
theorem PV.q(h:PV X e f):PQ X e (jf f):=jw h λt H Q O=>by
 obtain⟨s,p,k,i,rc,B,q⟩:=O;unfold jf at B;cases e1:f p with
 | none=>rw[e1]at B;cases B
 | some d=>
  rw[e1]at B;refine⟨s,p,d,rc,e1,λv o b ext r=>?_⟩;cases d with
  | tup m=>
   obtain⟨l,I⟩:k = .T/\i=m:=by simp[qW]at B;exact⟨B.1.symm,B.2.symm⟩
   subst l I;obtain⟨a,g,rfl,j,n⟩:=(show ∃a g,v = .ref a/\l4 X.K b a g/\hF X.K b i g from r);exact q a g o b ext (xC ext.sub j) (λ_=>j) n
  | lst m=>
   obtain⟨l,I⟩:k = .L/\i=m:=by simp[qW]at B;exact⟨B.1.symm,B.2.symm⟩
   subst l I;obtain⟨a,g,rfl,j,n⟩:=(show ∃a g,v = .ref a/\kv X.K b a g/\hF X.K b i g from r);exact q a g o b ext (ext.sub.seq j) (λz=>nomatch z) n
  | _=>simp[qW]at B
theorem PO.v(h:PO X e f):PV X e (xX f):=jw h λp H Q O=>by
 obtain⟨j,i,d,rc,z,q⟩:=O;unfold xX at z;cases e1:f i with
 | none=>rw[e1]at z;cases z
 | some b=>
  rw[e1]at z;cases z;refine⟨j,i,b,rc,e1,λa n o l ext m g R r=>?_⟩;exact q _ _ _ (ext.show m g R rc.sub) (show ∃B I,V.ref a = .ref B/\kv X.K _ B I/\hF X.K _ b I from⟨a,n,rfl,kv.of zt,r.mono<|jl g _⟩)
theorem PO.q(h:PO X e f):PQ X e (zI f):=jw h λp H Q I=>by
 obtain⟨i,d,k,l,rc,B,q⟩:=I;unfold zI at B;cases e1:f d with
 | none=>rw[e1]at B;cases B
 | some m=>
  rw[e1]at B;cases B;exact⟨i,d,_,rc,e1,λa j g b ext n o O r=>q a j g b ext (kv.of O) (λz=>nomatch z) r⟩
theorem df(i:Nat)(h:PE X e (cR i)):PV X e (zd i):=jw h λn H Q B=>by
 obtain⟨b,j,d,rc,z,q⟩:=B;unfold zd at z;cases e1:j[i]? with
 | none=>rw[e1]at z;cases z
 | some c=>
  rw[e1]at z;cases c with
  | val l=>
   cases z;obtain⟨v,f,g⟩:=rc.val i d e1;exact⟨v,f,q v H b (Ext.refl rc.sub) g⟩
  | no=>cases z
  | own m=>cases z
  | nest a=>cases z
theorem nD(i:Nat)(h:PE X e (cR i)):PQ X e (zh i):=jw h λr H Q R=>by
 obtain⟨f,p,k,g,rc,B,q⟩:=R;unfold zh at B;cases e1:p[i]? with
 | none=>rw[e1]at B;cases B
 | some c=>
  rw[e1]at B;cases c with
  | no=>cases B
  | nest o=>cases B
  | own j=>
   cases B;obtain⟨a,b,m,n,U,W⟩:=rc.own i g e1;exact⟨_,m,q a b H f (Ext.refl rc.sub) (kv.of U) (λz=>nomatch z) W⟩
  | val d=>
   obtain⟨v,m,n⟩:=rc.val i d e1;refine⟨v,m,?_⟩;cases d with
   | tup j=>
    obtain⟨l,O⟩:k = .T/\g=j:=by simp[vS,qW]at B;exact⟨B.1.symm,B.2.symm⟩
    subst l O;obtain⟨a,b,rfl,I,g2⟩:=(show ∃a b,v = .ref a/\l4 X.K f a b/\hF X.K f g b from n);exact q a b H f (Ext.refl rc.sub) (xC rc.sub I) (λ_=>I) g2
   | lst j=>
    obtain⟨l,O⟩:k = .L/\g=j:=by simp[vS,qW]at B;exact⟨B.1.symm,B.2.symm⟩
    subst l O;obtain⟨a,b,rfl,I,g2⟩:=(show ∃a b,v = .ref a/\kv X.K f a b/\hF X.K f g b from n);exact q a b H f (Ext.refl rc.sub) (rc.sub.seq I) (λz=>nomatch z) g2
   | _=>simp[vS,qW]at B
theorem wI(h:PE X e (tC v))(r : ∀H,Rep X.K H d v):PV X e (ze d):=jw h λg H Q z=>by obtain⟨a,f,b,rc,B,q⟩:=z;cases B;exact q v H a (Ext.refl rc.sub)<|r a
theorem zf:PV X (.Constant (.int i) j pos) (ze<|.int i):=wI nU λ_=>(show V.int i = .int i from rfl)
theorem vH:PV X (.Constant (.bool x) j pos) (ze<|.bl x):=wI uE λ_=>(show V.bl x = .bl x from rfl)
theorem v7:PV X (.Constant .none j pos) (ze .ih):=wI nP λ_=>(show V.ih = .ih from rfl)
theorem zr:PV X (.Constant (.str x) j pos) (ze<|.str x):=wI Zn λ_=>(show V.str x = .str x from rfl)
noncomputable def q7(K:Es)(r:R2)(F:D->D->Option D):Prop:=∀b H x y f z d Q,jn b H->Rep K b f x->Rep K b z y->F f z=aI d->(∀v e a,Ext b H a e->Rep K a d v->Q v e)->r x y H Q
theorem zc(h:o.bind f=aI y) : ∃x,o=aI x/\f x=aI y:=by
 cases o with
 | none=>cases h
 | some x=>exact⟨x,rfl,h⟩
theorem Xu{K:Es}{r:R2}{F:D->D->Option D}{J L:CO D}(hs:q7 K r F) : ∀G H Q,tV K (zo F J L) G H Q->N1 r (tV K J) (tV K L) G H Q:=λG H Q I=>by obtain⟨g,e,d,rc,z,q⟩:=I;obtain⟨x,i,z⟩:=zc z;obtain⟨y,j,z⟩:=zc z;refine⟨g,e,x,rc,i,λO m b x1 R=>⟨b,e,y,rc.ext x1,j,λU h W B Y=>?_⟩⟩;exact hs W h O U x y d Q B.sub (R.mono B.s0) Y z λv f a x3 l=>q v f a (x1.trans<|B.trans x3) l
theorem Z5(z:l9 X (De op) r)(hs:q7 X.K r F)(G:PV X a fa)(B:PV X b fb):PV X (.BinOp a op b pos) (zo F fa fb):=
 jw (gQ z G B) (Xu hs)
theorem Z4(z:l9 X (rp op) r)(hs:q7 X.K r F)(G:PV X a fa)(B:PV X b fb)(H:Ds op b=dV):PV X (.Compare a [op] [b] pos) (zo F fa fb):=
 jw (JE z G B H) (Xu hs)
theorem vn{d:D}{b:Bool}(h:Dd d=aI b):d = .bl b:=by cases d<;>simp[Dd]at h;rw[h]
theorem Zi(B:l9 X (rp op) r)(hs:q7 X.K r F)(G:PV X a fa)(I:PV X b fb)(J:Ds op b=dV):q5 X (.Compare a [op] [b] pos) (sB<|zo F fa fb):=
 Xp (Jz B G I J) λj H Q O=>by obtain⟨g,i,k,rc,z,q⟩:=O;obtain⟨d,h,z⟩:=zc z;refine Xu hs j H _ ⟨g,i,d,rc,h,λv f e x r=>?_⟩;rw[vn z]at r;exact⟨k,r,q f e x⟩
theorem zH{f:CO D}(h:PV X e f)(I : ∀B,NG e X.env B=(do let v <- B;OS e.pos;holding [v] (truthy v)):=by intro _;rfl):q5 X e (sB f):=
 Xp (nz h I) λl H Q O=>by obtain⟨g,j,k,rc,z,q⟩:=O;obtain⟨d,i,z⟩:=zc z;refine⟨g,j,d,rc,i,λv b a x r=>?_⟩;rw[vn z]at r;exact⟨k,r,q b a x⟩
theorem Jy(h:q5 X a f):G6 X (.BoolOp .And [a] pos) f:=gk h
theorem jJ(h:q5 X a f):G6 X (.BoolOp .Or [a] pos) f:=nc h
theorem Xm{f g:CO Bool}{rest:List hH}(G:q5 X a f)(B:G6 X (.BoolOp .And (b::rest) pos) g):G6 X (.BoolOp .And (a::b::rest) pos) (Xg f g):=
 nj (nh G B) λm H Q I=>by
  obtain⟨i,e,k,rc,z,q⟩:=I;obtain⟨c,l,z⟩:=zc z;refine⟨i,e,c,rc,l,λh d x=>?_⟩;cases c with
  | true=>rw[MY rfl]at z ⊢;exact⟨d,e,k,rc.ext x,z,λj O R=>q j O<|x.trans R⟩
  | false=>rw[RQ ES]at z ⊢;cases z;exact q h d x
theorem jK{f g:CO Bool}{rest:List hH}(G:q5 X a f)(B:G6 X (.BoolOp .Or (b::rest) pos) g):G6 X (.BoolOp .Or (a::b::rest) pos) (xJ f g):=
 nj (uo G B) λm H Q I=>by
  obtain⟨i,e,k,rc,z,q⟩:=I;obtain⟨c,l,z⟩:=zc z;refine⟨i,e,c,rc,l,λh d x=>?_⟩;cases c with
  | true=>rw[MY rfl]at z ⊢;cases z;exact q h d x
  | false=>rw[RQ ES]at z ⊢;exact⟨d,e,k,rc.ext x,z,λj O R=>q j O<|x.trans R⟩
theorem zN(G:q5 X a f):q5 X (.UnaryOp .Not a pos) (z9 f):=
 Xp (nA G) λh H Q B=>by
  obtain⟨g,d,k,rc,z,q⟩:=B;unfold z9 at z;cases e1:f d with
  | none=>rw[e1]at z;cases z
  | some c=>rw[e1]at z;cases z;exact⟨g,d,c,rc,e1,λe b x=>q e b x⟩
theorem xG(h:G6 X e f):q5 X e f:=h.pt
theorem kG(h:PV X a f):PV X (.BoolOp op [a] pos) f:=nN h
theorem kJ{f g:CO D}{rest:List hH}(G:PV X a f)(B:PV X (.BoolOp .And (b::rest) pos) g):PV X (.BoolOp .And (a::b::rest) pos) (Qh f g):=
 jw (nV G B) λo H Q I=>by
  obtain⟨l,i,d,rc,z,q⟩:=I;obtain⟨c,h,z⟩:=zc z;obtain⟨O,R,h⟩:=zc h;refine⟨l,i,O,rc,R,λv j e x r=>?_⟩;rw[vn h]at r;refine⟨c,r,?_⟩;cases c with
  | true=>rw[MY rfl]at z ⊢;exact⟨e,i,d,rc.ext x,z,λU m W Y n=>q U m W (x.trans Y) n⟩
  | false=>rw[RQ ES]at z ⊢;cases z;exact q _ j e x (show V.bl dV = .bl dV from rfl)
theorem uq{f g:CO D}{rest:List hH}(G:PV X a f)(B:PV X (.BoolOp .Or (b::rest) pos) g):PV X (.BoolOp .Or (a::b::rest) pos) (PN f g):=
 jw (uD G B) λo H Q I=>by
  obtain⟨l,i,d,rc,z,q⟩:=I;obtain⟨c,h,z⟩:=zc z;obtain⟨O,R,h⟩:=zc h;refine⟨l,i,O,rc,R,λv j e x r=>?_⟩;rw[vn h]at r;refine⟨c,r,?_⟩;cases c with
  | true=>rw[MY rfl]at z ⊢;cases z;exact q _ j e x (show V.bl cI = .bl cI from rfl)
  | false=>rw[RQ ES]at z ⊢;exact⟨e,i,d,rc.ext x,z,λU m W Y n=>q U m W (x.trans Y) n⟩
theorem dj(G:PV X a f):PV X (.UnaryOp .Not a pos) (rm f):=
 jw (nO G) λi H Q I=>by
  obtain⟨h,e,d,rc,z,q⟩:=I;unfold rm at z;cases e1:f e with
  | none=>rw[e1]at z;cases z
  | some B=>
   rw[e1]at z;refine⟨h,e,B,rc,e1,λv g b x r=>?_⟩;cases B with
   | bl c=>cases z;exact⟨c,r,q _ g b x<|show V.bl (!c) = .bl (!c)from rfl⟩
   | _=>cases z
theorem wH(J:q5 X c k)(G:PV X a f)(U:PV X b g):PV X (.IfExp c a b pos) (fT k f g):=
 jw (bo J G U) λn H Q W=>by
  obtain⟨j,i,d,rc,z,q⟩:=W;obtain⟨t,l,z⟩:=zc z;refine⟨j,i,t,rc,l,λm e x=>?_⟩;cases t with
  | true=>rw[MY rfl]at z ⊢;exact⟨e,i,d,rc.ext x,z,λB h I O R=>q B h I (x.trans O) R⟩
  | false=>rw[RQ ES]at z ⊢;exact⟨e,i,d,rc.ext x,z,λB h I O R=>q B h I (x.trans O) R⟩
theorem JF:DP X [] zB:=nY j9 λe H Q z=>by obtain⟨a,d,b,rc,B,q⟩:=z;cases B;exact q [] H a (Ext.refl rc.sub) hF.nil
theorem zD(G:PV X e f)(I:DP X es g)(hs:i0 (e::es) X.env=(dV,hX e X.env)::i0 es X.env:=by rfl):DP X (e::es) (zb f g):=
 nY (jk G I hs) λo H Q O=>by
  obtain⟨h,d,n,rc,z,q⟩:=O;obtain⟨x,j,z⟩:=zc z;cases b:g d with
  | none=>rw[b]at z;cases z
  | some r=>
   rw[b]at z;cases z;exact⟨h,d,x,rc,j,λv m a x1 R=>⟨a,d,r,rc.ext x1,b,λl i U B W=>q (v::l) i U (x1.trans B)<|hF.cons (R.mono B.s0) W⟩⟩
theorem qt(h:DP X es f):PV X (.Tuple es x1 pos) (xM f):=
 jw (nM h) λs H Q I=>by
  obtain⟨j,o,d,rc,z,q⟩:=I;obtain⟨b,m,z⟩:=zc z;by_cases e:b.length<=lim
  ·rw[MY e]at z;cases z
   refine⟨j,o,b,rc,m,λn r l x1 B=>⟨k6 (by rw[B.length];exact e),λp g=>?_⟩⟩;exact q _ _ _ (x1.trans<|Ext.alloc x1.sub g _) (show ∃a i,V.ref p = .ref a/\l4 X.K _ a i/\hF X.K _ b i from⟨p,n,rfl,l4.of zt,B.mono<|jl (js x1.sub g) _⟩)
  ·rw[RQ e]at z;cases z
theorem j5(h:DP X es f):PO X (.List es pos) (ql f):=
 jw (nQ h) λr H Q O=>by
  obtain⟨g,m,d,rc,B,q⟩:=O;obtain⟨i,j,B⟩:=zc B;by_cases e:i.length<=lim
  ·rw[MY e]at B;cases B
   refine⟨g,m,_,rc,j,λl n b x1 I=>⟨k6 (by rw[I.length];exact e),λp a=>?_⟩⟩;exact q p l _ b (x1.trans<|Ext.hide x1.sub a _) (by
    cases z:H p with
    | none=>rfl
    | some o=>rw[x1.s1 p o z]at a;cases a) (js x1.sub a) zt I
  ·rw[RQ e]at B;cases B
end
noncomputable def Ek(i:Nat)(f:CO D)(γ:Ctx):Option D:=(xV γ[i]?).bind λa=>(f<|γ.set i<|.val<|.lst a).bind λd=>if Aa d=cI then aI d else cS
noncomputable def CB(i:Nat)(f:CO Bool)(γ:Ctx):Option Bool:=(xV γ[i]?).bind λa=>f<|γ.set i<|.val<|.lst a
noncomputable def Bf(i:Nat)(γ:Ctx):Option Fl:=(xV γ[i]?).map λ_=> .next (γ.set i<|.own [])
noncomputable def vh(G:List D):List D:=(Ez G.length).map λ(i:Nat)=>D.tup [.int i,G[i]?.getD .ih]
noncomputable def Cy(f:CO D)(γ:Ctx):Option (List D):=(f γ).bind λd=>match d with
 | .tup a=>aI (vh a)
 | _=>cS
noncomputable def YC:List D->Option (List Int)
 | []=>aI []
 | .int i::r=>(YC r).map λl=>i::l
 | _::_=>cS
noncomputable def Ba(f:CO D)(g:CO (Sk×List D))(γ:Ctx):Option D:=(f γ).bind λd=>(g γ).bind λa=>(o4 d).bind λi=>(YC a.2).map λl=> .bl (decide<|i∈l)
noncomputable def Wk(k:Int):List Int->Option Nat
 | []=>cS
 | i::r=>if i=k then aI 0 else (Wk k r).map (· + 1)
noncomputable def Ei(f g:CO D)(γ:Ctx):Option D:=(f γ).bind λd=>((g γ).bind o4).bind λk=>match d with
 | .tup a=>(YC a).bind λl=>(Wk k l).map λ(j:Nat)=>D.int (j:Int)
 | _=>cS
noncomputable def WB(T:Tg)(f:CO (List D))(γ:Ctx):List D->Option (List<|List D)
 | []=>aI []
 | d::ds=>(xo T d γ).bind λz=>(f z).bind λe=>(WB T f γ ds).map λr=>e::r
noncomputable def Be(G:CO (List D))(T:Tg)(n:Nat)(fr:List Nat)(f:CO (List D))(γ:Ctx):Option (List<|List D):=(G γ).bind λa=>if a.length<=lim then WB T f (qS n fr γ) a else cS
noncomputable def JT:Option Cell->Option (List<|List D)
 | some (.nest rows)=>aI rows
 | _=>cS
noncomputable def cZ(γ:Ctx)(j i:Nat)(r:List D):Ctx:=(γ.set j .no).set i (.own r)
noncomputable def KA(j i:Nat)(g f:CO D)(γ:Ctx):List (List D)->Option (List<|List D)
 | []=>aI []
 | r::rs=>(f<|cZ γ j i r).bind λd=>((g<|cZ γ j i r).bind o4).bind λk=>(m7 r.length k).bind λm=>(KA j i g f γ rs).map λt=>r.set m d::t
noncomputable def ue(j i:Nat)(g f:CO D)(γ:Ctx):Option Fl:=(JT γ[j]?).bind λa=>if i=j\/γ.length<=i then cS else (KA j i g f γ a).map λz=> .next ((γ.set j<|.nest z).set i .no)
noncomputable def Bb(i:Nat)(F:CO Fl)(γ:Ctx):Option Fl:=(xV γ[i]?).bind λa=>F<|γ.set i<|.val<|.lst a
noncomputable def Cw(i:Nat)(F:CO Fl)(γ:Ctx):Option Fl:=(JT γ[i]?).bind λa=>F<|γ.set i<|.val<|.lst<|a.map D.lst
noncomputable def AX(is:List Nat)(f:CO D)(γ:Ctx):Option Fl:=(f γ).bind λd=>match d with
 | .lst a=>if a.length=is.length then aI (.next<|qI is a γ)else cS
 | _=>cS
noncomputable def vB:List D->Option (List Str)
 | []=>aI []
 | .str x::r=>(vB r).map λl=>x::l
 | _::_=>cS
def zy(x:Str):Bool:=decide<|x.length<=1000
noncomputable def wo(f:CO D)(g:CO (Sk×List D))(γ:Ctx):Option D:=(f γ).bind λd=>(g γ).bind λa=>match d,a.1 with
 | .str sep,.L=>(vB a.2).bind λl=>if l.length<=lim/\l.all zy=cI/\zy sep=cI then aI (.str<|GS sep l)else cS
 | _,_=>cS
noncomputable def jI(f g:CO D)(γ:Ctx):Option D:=(f γ).bind λd=>((g γ).bind o4).bind λi=>match d with
 | .str z=>if zy z=cI then (m7 z.cps.toList.length i).bind λk=>z.cps.toList[k]?.map λc=> .str ⟨#[c]⟩else cS
 | _=>cS
noncomputable def yq(f:CO D)(γ:Ctx):Option D:=(f γ).bind λd=>match d with
 | .str z=>if zy z=cI then aI (.int z.length)else cS
 | _=>cS
noncomputable def fX(k1 z k2 B:Str)(f:CO D)(γ:Ctx):Option D:=(f γ).bind λd=>match d with
 | .str x=>if k1=k2 then cS else if x=k1 then aI (.str z)else if x=k2 then aI (.str B)else cS
 | _=>cS
noncomputable def ub(f g:CO D)(γ:Ctx):Option D:=((f γ).bind o4).bind λi=>((g γ).bind o4).map λj=> .int (if j<i then j else i)
abbrev Xn:=Str×Option Int
def n7:CO Xn:=λ_=>cS
def YU(c:Str):CO Xn:=λ_=>aI (c,cS)
noncomputable def yF(c:Str)(f:CO D):CO Xn:=λa=>((f a).bind o4).bind λi=>if inR i=cI then aI (c,aI i)else cS
noncomputable def oI(k:CO Bool)(G H:CO Xn):CO Xn:=λa=>(k a).bind λb=>if b=cI then G a else H a
noncomputable def vy(G:CO Xn)(F:CO Fl)(H:CO Xn):CO Xn:=λb=>match G b with
 | some c=>aI c
 | none=>(F b).bind λz=>match z with
  | .next a=>H a
  | _=>cS
noncomputable def kM(G:List D->Option Xn)(g:CO (List D)):CO Xn:=λa=>(g a).bind G
def Vj(n:Nat)(G:CO Xn)(H:List D):Option Xn:=G<|jM n H
noncomputable def rl(i e j:Nat)(F:List D->Option Res)(G:List D->Option Xn)(g:CO (List D)):CO Fl:=λa=>(g a).bind λb=>match G b with
 | some c=>aI (.next<|(a.set j<|.val<|.exc c.1 c.2).set e .no)
 | none=>(F b).map λr=> .next (a.set i<|.val<|aL r)
noncomputable def Kj(c:Str)(f:CO D):CO D:=λa=>(f a).bind λd=>match d with
 | .exc z _=>aI (.bl<|z==c)
 | _=>cS
noncomputable def mL(f:CO D):CO D:=λa=>(f a).bind λd=>match d with
 | .exc _ _=>aI (.bl cI)
 | _=>cS
noncomputable def vx(c:Str):Str:=if c==("NoRoom" : Str)then "room" else "at"
noncomputable def rq(nm:Str)(f:CO D):CO D:=λa=>(f a).bind λd=>match d with
 | .exc c (aI n)=>if (vx c==nm)=cI then aI (.int n)else cS
 | _=>cS
end DL
namespace DL
open PySem L2
open PySem.W (KasT kas_sort)
def kF(z:Str):List D:=z.cps.toList.map λc=>D.str ⟨#[c]⟩
noncomputable def kT(f:CO D)(γ:Ctx):Option (List D):=(f γ).bind λd=>match d with
 | .str z=>if zy z=cI then aI (kF z)else cS
 | _=>cS
noncomputable def cY(f:CO D)(γ:Ctx):Option (List D):=(f γ).bind λd=>match d with
 | .str z=>if zy z=cI then aI (vh<|kF z)else cS
 | _=>cS
noncomputable def qZ(f:CO D)(γ:Ctx):Option (List D):=(f γ).bind λd=>match d with
 | .lst a=>aI (vh a)
 | _=>cS
noncomputable def aH(f:CO D)(g:CO (Sk×List D))(γ:Ctx):Option D:=(f γ).bind λd=>(g γ).bind λa=>match d with
 | .str x=>(vB a.2).map λl=> .bl (l.any λy=>y==x)
 | _=>cS
noncomputable def xf(f g:CO D)(γ:Ctx):Option D:=(f γ).bind λd=>(g γ).bind λe=>match d,e with
 | .str x,.str y=>if zy x=cI/\zy y=cI then aI (.str<|x++y)else cS
 | _,_=>cS
noncomputable def vD(f:CO D)(l h:CO (Option Int))(γ:Ctx):Option D:=(f γ).bind λd=>(l γ).bind λlo=>(h γ).bind λa=>match d with
 | .str z=>if zy z=cI then aI (.str<|FV z lo a)else cS
 | _=>cS
noncomputable def ro(f:CO (Sk×List D))(γ:Ctx):Option (List D):=(f γ).bind λa=>match a.1 with
 | .L=>if a.2.length<=lim then aI a.2.reverse else cS
 | _=>cS
noncomputable def uF:D->Option (Int×Int)
 | .tup [.int a,.int b]=>aI (a,b)
 | _=>cS
noncomputable def dA:List D->Option (List<|Int×Int)
 | []=>aI []
 | d::r=>(uF d).bind λp=>(dA r).map λl=>p::l
noncomputable def CK(x y:Int×Int):Bool:=if x.1=y.1 then decide (x.2<y.2)else decide (x.1<y.1)
noncomputable def Bh{G:Type}(lt:Nat->Nat->Bool):KasT G->G
 | .ret a=>a
 | .ask i j k=>Bh lt<|k<|lt i j
noncomputable def nL(G:List (Int×Int)):List Nat:=if G.length<2 then Ez G.length else (Bh (λi j=>CK (G.getD i (0,0))<|G.getD j (0,0))<|kas_sort G.length).toList
noncomputable def tR(G:List D):Option (List D):=(dA G).bind λa=>if G.length<64 then aI ((nL a).map λi=>G.getD i .ih)else cS
noncomputable def mJ(f:CO (Sk×List D))(γ:Ctx):Option (List D):=(f γ).bind λa=>match a.1 with
 | .L=>tR a.2
 | _=>cS
end DL
namespace DL
open PySem L2
noncomputable def fV(i:Nat)(f:CO (List D))(γ:Ctx):Option Fl:=(xV γ[i]?).bind λa=>(f γ).bind λb=>if a.length+b.length<=lim then aI (.next<|γ.set i<|.own<|a++b)else cS
noncomputable def Bg(F G:List D->Option Res)(g:CO (List D))(γ:Ctx):Option (List D):=(g γ).bind λl=>match l with
 | [p,.str z,t,b]=>((if z=("r" : Str)then F else G) [p,t,b]).bind uh
 | _=>cS
noncomputable def Wa:List D->Option (List Int)
 | []=>aI []
 | .int i::r=>(Wa r).map λl=>i::l
 | _::_=>cS
noncomputable def Ae(G H:List D):Option D:=match Wa G with
 | some a=>if G.length=H.length/\a.Nodup/\G.length<=lim then aI (.pk G H)else cS
 | none=>cS
open PySem.Spec PyProof.Rows
structure RS(K:Es)(E0 E H0 H:Hp)(σ:St)(γ:Ctx):Prop where
 rc:RC K H0 H σ γ
 ext:Ext E0 E H0 H
 fresh : ∀(i:Nat) ds a,γ[i]? = aI (.own ds)->σ[i]? = aI (aI (.ref a))->E a=cS
 Dg : ∀(i:Nat) rows a xs,γ[i]? = aI (.nest rows)->σ[i]? = aI (aI (.ref a))->H a=aI (.lst xs)->E a=cS/\∀b,V.ref b∈xs->E b=cS
noncomputable def Sat(K:Es)(E0 E:Hp)(D:Ends):Fl->Prop
 | .next f=>∀e H b,RS K E0 E b H e f->D.nx e H
 | .brk f=>∀e H b,RS K E0 E b H e f->D.bk e H
 | .cont f=>∀e H b,RS K E0 E b H e f->D.ct e H
 | .ret (.val d)=>∀v H b,Ext E0 E b H->Rep K b d v->D.rt v H
 | .ret (.own es)=>∀a g H b,Ext E0 E b H->E a=cS->b a=cS->H a=aI (.lst g)->hF K b es g->D.rt (.ref a) H
noncomputable def tS(K:Es)(F:CO Fl):TS:=λD d H=>∃E0 E b a z,RS K E0 E b H d a/\F a=aI z/\Sat K E0 E D z
abbrev pa(X:Cx)(st:i7)(F:CO Fl):Prop:=PS X st (tS X.K F)
abbrev KZ(X:Cx)(Sz:List i7)(F:CO Fl):Prop:=tF X Sz (tS X.K F)
section
variable{K:Es}{E0 E H0 H r0 H':Hp}{σ:St}{γ:Ctx}
theorem RS.step(r:RS K E0 E H0 H σ γ)(e:Ext H0 H r0 H'):RS K E0 E r0 H' σ γ:=⟨r.rc.ext e,r.ext.trans e,r.fresh,λi b a g d f B=>by obtain⟨I,bs,z,g2,_⟩:=r.rc.C5.1 i b d;rw[f]at z;cases z;have:=e.s1 a _ g2.ha;rw[B]at this;cases this;exact r.Dg i b a _ d f g2.ha⟩
theorem zJ{G:Type}{l:List G}{i j:Nat}{x y:G}(h:(l.set i x)[j]? = aI y):(j=i/\y=x/\i<l.length)\/(j≠i/\l[j]? = aI y):=by
 by_cases e:i=j
 ·subst e
  by_cases a:i<l.length
  ·rw[Ft a]at h;cases h;exact .inl ⟨rfl,rfl,a⟩
  ·rw[List.set_eq_of_length_le ⋯]at h
   exact absurd (EL.mp h).1 a
 ·rw[EI e]at h;exact .inr ⟨Fy e,h⟩
theorem zj.Di{i:Nat}{d:D}{v:V}(n:zj K H0 H σ γ):zj K H0 H (σ.set i<|some v) (γ.set i<|.val d):=
 ⟨λj b e=>by
  rcases zJ e with⟨_,z,_⟩ | ⟨B,z⟩
  ·cases z
  ·obtain⟨a,bs,m,o,I⟩:=n.1 j b z
   refine⟨a,bs,by rw[EI (Fy B)];exact m,o,λk l c g f=>?_⟩;rcases zJ g with⟨_,z,_⟩ | ⟨p,h⟩
   ·cases z
   ·rw[EI (Fy p)]at f;exact I k l c h f,
 λj k O R g f=>by
  rcases zJ g with⟨_,z,_⟩ | ⟨_,h⟩
  ·cases z
  ·rcases zJ f with⟨_,z,_⟩ | ⟨_,U⟩
   ·cases z
   ·exact n.2 j k O R h U⟩
theorem RC.Di{i:Nat}{d:D}{v:V}(r:RC K H0 H σ γ)(h:Rep K H0 d v):RC K H0 H (σ.set i<|some v) (γ.set i<|.val d):=by
 refine⟨r.sub,by simp[r.len],λj g e=>?_,λj b e=>?_,λj k a b n l m O R=>?_,r.C5.Di⟩
 ·rcases zJ e with⟨rfl,z,f⟩ | ⟨B,z⟩
  ·cases z;exact⟨v,Ft (by rw[r.len];exact f),h⟩
  ·obtain⟨U,I,g2⟩:=r.val j g z
   exact⟨U,by rw[EI (Fy B)];exact I,g2⟩
 ·rcases zJ e with⟨rfl,z,f⟩ | ⟨B,z⟩
  ·cases z
  ·obtain⟨a,p,I,g2⟩:=r.own j b z
   exact⟨a,p,by rw[EI (Fy B)];exact I,g2⟩
 ·rcases zJ l with⟨_,z,_⟩ | ⟨B,s⟩
  ·cases z
  ·rcases zJ m with⟨_,z,_⟩ | ⟨o,W⟩
   ·cases z
   ·rw[EI (Fy B)]at O
    rw[EI (Fy o)]at R;exact r.ne j k a b n s W O R
theorem RS.Di{i:Nat}{d:D}{v:V}(r:RS K E0 E H0 H σ γ)(h:Rep K H0 d v):RS K E0 E H0 H (σ.set i<|some v) (γ.set i<|.val d):=
 ⟨r.rc.Di h,r.ext,λj g a f b=>by
  rcases zJ f with⟨_,z,_⟩ | ⟨B,z⟩
  ·cases z
  ·rw[EI (Fy B)]at b;exact r.fresh j g a z b,
 λj e a l f b I=>by
  rcases zJ f with⟨_,z,_⟩ | ⟨B,z⟩
  ·cases z
  ·rw[EI (Fy B)]at b;exact r.Dg j e a l z b I⟩
theorem Zq : ∀{z bs:List eI},z.map V.ref=bs.map V.ref->z=bs
 | [],[],_=>rfl
 | [],_::_,h=>by cases h
 | _::_,[],h=>by cases h
 | a::z,b::bs,h=>by rw[Fb,Fb]at h;injection h with h1 h2;injection h1 with h1;rw[h1,Zq h2]
theorem RS.Sx{i:Nat}{Z:List D}{a:eI}{xs:List V}{L G:Hp}(r:RS K E0 E L G σ γ)(e:Ext L G H0 H)(J:G a=cS)(h2:H0 a=cS)(h3:H a=aI (.lst xs))(h4:hF K H0 Z xs) :
 RS K E0 E H0 H (σ.set i<|some (.ref a)) (γ.set i<|.own Z):=by
 have rc:=r.rc.ext e;have no : ∀(j:Nat) f,γ[j]? = aI (.own f)->¬σ[j]? = aI (aI (.ref a)):=λj f g z=>by obtain⟨b,s,B,g2,U,_⟩:=r.rc.own j f g;rw[z]at B;cases B;rw[J]at U;cases U
 refine⟨⟨rc.sub,by simp[rc.len],λj u g=>?_,λj f g=>?_,λj k b f fs p l O R=>?_,⟨λj d g=>?_,λj k A C B g2=>?_⟩⟩,r.ext.trans e,λj f b B g2=>?_,λj d b xs B g2 U=>?_⟩
 ·rcases zJ g with⟨_,z,_⟩ | ⟨I,z⟩
  ·cases z
  ·obtain⟨F,B,g2⟩:=rc.val j u z
   exact⟨F,by rw[EI (Fy I)];exact B,g2⟩
 ·rcases zJ g with⟨rfl,z,h⟩ | ⟨I,z⟩
  ·cases z;exact⟨a,xs,Ft (by rw[rc.len];exact h),h2,h3,h4⟩
  ·obtain⟨b,s,B,g2⟩:=rc.own j f z
   exact⟨b,s,by rw[EI (Fy I)];exact B,g2⟩
 ·rcases zJ p with⟨rfl,z,h⟩ | ⟨I,m⟩
  ·rcases zJ l with⟨rfl,_,_⟩ | ⟨n,W⟩
   ·rfl
   ·rw[Ft (by rw[rc.len];exact h)]at O
    rw[EI (Fy n)]at R;cases O;exact absurd R<|no k fs W
  ·rcases zJ l with⟨rfl,z,h⟩ | ⟨n,W⟩
   ·rw[Ft (by rw[rc.len];exact h)]at R
    rw[EI (Fy I)]at O;cases R;exact absurd O<|no j f m
   ·rw[EI (Fy I)]at O
    rw[EI (Fy n)]at R;exact rc.ne j k b f fs m W O R
 ·rcases zJ g with⟨_,z,_⟩ | ⟨I,z⟩
  ·cases z
  ·obtain⟨b,bs,B,g2,U⟩:=r.rc.C5.1 j d z
   obtain⟨N,Y,f1,f2,x⟩:=rc.C5.1 j d z;rw[B]at f1;cases f1;have w:Y.map V.ref=bs.map V.ref:=by have:=e.s1 b _ g2.ha;rw[f2.ha]at this;injection this with this;injection this
   have t:Y=bs:=Zq w;subst t;refine⟨b,Y,by rw[EI (Fy I)];exact B,f2,λk f c p l=>?_⟩;rcases zJ p with⟨rfl,_,h⟩ | ⟨n,m⟩
   ·rw[Ft (by rw[rc.len];exact h)]at l;cases l
    intro y;obtain⟨_,M,q⟩:=g2.at y;rw[J]at q;cases q
   ·rw[EI (Fy n)]at l;exact x k f c m l
 ·rcases zJ B with⟨_,z,_⟩ | ⟨_,m⟩
  ·cases z
  ·rcases zJ g2 with⟨_,z,_⟩ | ⟨_,W⟩
   ·cases z
   ·exact rc.C5.2 j k A C m W
 ·rcases zJ B with⟨rfl,z,h⟩ | ⟨I,z⟩
  ·rw[Ft (by rw[rc.len];exact h)]at g2;cases g2
   cases q:E a with
   | none=>rfl
   | some o=>rw[r.ext.s1 a o q]at J;cases J
  ·rw[EI (Fy I)]at g2;exact r.fresh j f b z g2
 ·rcases zJ B with⟨_,z,_⟩ | ⟨I,z⟩
  ·cases z
  ·rw[EI (Fy I)]at g2;exact(r.step e).Dg j d b xs z g2 U
theorem RS.rewrite{i:Nat}{G L:List D}{a:eI}{xs J:List V}(r:RS K E0 E H0 H σ γ)(hi:γ[i]? = aI (.own G))(hs:σ[i]? = aI (aI (.ref a)))(Z:hF K H0 L J) :
 RS K E0 E H0 (upd H a<|.lst J) σ (γ.set i<|.own L):=by
 obtain⟨C,F,Y,g2,g3,P⟩:=r.rc.own i G hi;rw[hs]at Y;cases Y;have M:i<γ.length:=(EL.mp hi).1;refine⟨⟨λb o q=>?_,by simp[r.rc.len],λj u g=>?_,λj fs g=>?_,λj k b fs gs f d R w=>?_,⟨λj e g=>?_,λj k y A f d=>?_⟩⟩,⟨r.ext.s0,λb o q=>?_,λb o q=>?_,r.ext.new⟩,λj fs b f d=>?_,λj e b n f d R=>?_⟩
 ·rw[zu (λz=>by rw[z,g2]at q;cases q)];exact r.rc.sub b o q
 ·rcases zJ g with⟨_,z,_⟩ | ⟨U,z⟩
  ·cases z
  ·exact r.rc.val j u z
 ·rcases zJ g with⟨rfl,z,Q⟩ | ⟨U,z⟩
  ·cases z;exact⟨a,J,hs,g2,zt,Z⟩
  ·obtain⟨b,n,B,I,O,x⟩:=r.rc.own j fs z
   refine⟨b,n,B,I,?_,x⟩;rw[zu (λq=>U<|r.rc.ne j i a fs G z hi (by rw[B,q]) hs)];exact O
 ·have s : ∃h,γ[j]? = aI (.own h):=by
   rcases zJ f with⟨q,_,_⟩ | ⟨_,z⟩
   ·exact⟨G,by rw[q];exact hi⟩
   ·exact⟨fs,z⟩
  have t : ∃h,γ[k]? = aI (.own h):=by
   rcases zJ d with⟨q,_,_⟩ | ⟨_,z⟩
   ·exact⟨G,by rw[q];exact hi⟩
   ·exact⟨gs,z⟩
  obtain⟨B,l⟩:=s;obtain⟨I,W⟩:=t;exact r.rc.ne j k b B I l W R w
 ·rcases zJ g with⟨_,z,_⟩ | ⟨U,z⟩
  ·cases z
  ·obtain⟨b,bs,B,I,O⟩:=r.rc.C5.1 j e z
   have p:=O i G a hi hs;refine⟨b,bs,B,I.move (jn.refl _) (λc m=>(I.at m).1)<|λc m=>zu λq=>p<|q ▸ m,λk fs c f d=>?_⟩;rcases zJ f with⟨q,_,_⟩ | ⟨_,l⟩
   ·rw[q,hs]at d;cases d;exact p
   ·exact O k fs c l d
 ·rcases zJ f with⟨_,z,_⟩ | ⟨_,l⟩
  ·cases z
  ·rcases zJ d with⟨_,z,_⟩ | ⟨_,W⟩
   ·cases z
   ·exact r.rc.C5.2 j k y A l W
 ·rw[zu (λz=>by rw[z,r.fresh i G a hi hs]at q;cases q)];exact r.ext.s1 b o q
 ·rw[zu (λz=>by rw[z,g2]at q;cases q)];exact r.ext.sub b o q
 ·rcases zJ f with⟨q,_,_⟩ | ⟨_,z⟩
  ·rw[q]at d;exact r.fresh i G b hi d
  ·exact r.fresh j fs b z d
 ·rcases zJ f with⟨_,z,_⟩ | ⟨U,z⟩
  ·cases z
  ·obtain⟨N,bs,B,I,O⟩:=r.rc.C5.1 j e z
   rw[d]at B;cases B;rw[zu (show b≠a from λq=>O i G a hi hs<|by rw[q];exact EN)]at R;exact r.Dg j e b n z d R
end
section
variable{X:Cx}{e a b c:hH}{pos:ik}{st:i7}{rest:List i7}
theorem zz:KZ X [] zU:=dm gD λD b H z=>by obtain⟨E0,E,a,d,R,B,I,O⟩:=z;cases I;exact O b H a B
theorem zg{F G:CO Fl}(J:pa X st F)(L:KZ X rest G):KZ X (st::rest) (zF F G):=dm (wJ J L) λD i H O=>by
 obtain⟨E0,E,d,f,R,U,z,B⟩:=O;obtain⟨I,e,z⟩:=zc z;refine⟨E0,E,d,f,I,U,e,?_⟩;cases I with
 | next a=>exact λg h b W=>⟨E0,E,b,a,R,W,z,B⟩
 | brk a=>cases z;exact B
 | cont a=>cases z;exact B
 | ret r=>cases z;cases r<;>exact B
theorem zk(G:pa X st F):KZ X [st] F:=Zj G
theorem zA(h:o.map f=aI y) : ∃x,o=aI x/\f x=y:=by
 cases o with
 | none=>cases h
 | some x=>exact⟨x,rfl,by simpa using h⟩
theorem zC{f:CO D}(h:PV X e f):pa X (.Return (aI e) pos) (jY f):=vL (dq h) λD l H I=>by obtain⟨E0,E,g,j,R,B,z,O⟩:=I;obtain⟨d,i,z⟩:=zA z;subst z;exact⟨g,j,d,B.rc,i,λv b a x r=>O v b a (B.ext.trans x) r⟩
theorem j0{f:CO (List D)}(h:PO X e f):pa X (.Return (aI e) pos) (ka f):=vL (dq h) λD s H I=>by
 obtain⟨E0,E,i,p,U,z,B,O⟩:=I;obtain⟨j,l,B⟩:=zA B;subst B;refine⟨i,p,j,z.rc,l,λa n g b x d m R r=>O a n g b (z.ext.trans x) ?_ m R r⟩;cases q:E a with
 | none=>rfl
 | some o=>rw[z.ext.s1 a o q]at d;cases d
theorem jC:pa X st jO:=vL aY λD d H ⟨E0,E,a,b,B,I,z,O⟩=>by cases z
theorem zS{k:CO Bool}{F G:CO Fl}{x y:List i7}(L:q5 X c k)(J:KZ X x F)(R:KZ X y G):pa X (.If c x y pos) (i1 k F G):=vL (uz L J R) λD g H U=>by
 obtain⟨E0,E,d,b,I,B,z,O⟩:=U;obtain⟨t,e,z⟩:=zc z;refine⟨d,b,t,B.rc,e,λf a x=>?_⟩;cases t with
 | true=>rw[MY rfl]at z ⊢;exact⟨E0,E,a,b,I,B.step x,z,O⟩
 | false=>rw[RQ ES]at z ⊢;exact⟨E0,E,a,b,I,B.step x,z,O⟩
theorem vJ(i:Nat){f:CO D}(h:PS X st (Y6 (tV X.K f)<|vf i)):pa X st (jF i f):=vL h λD l H I=>by obtain⟨E0,E,b,g,R,B,z,O⟩:=I;obtain⟨d,e,z⟩:=zA z;subst z;exact⟨b,g,d,B.rc,e,λv j a x r=>O _ _ a<|(B.step x).Di r⟩
theorem aX(i:Nat){f:CO (List D)}(h:PS X st (Y6 (tO X.K f)<|vf i)):pa X st (Zb i f):=vL h λD p H I=>by obtain⟨E0,E,d,m,U,B,z,O⟩:=I;obtain⟨e,g,z⟩:=zA z;subst z;exact⟨d,m,e,B.rc,g,λa o n b x j l R r=>O _ _ b<|B.Sx x j l R r⟩
theorem wc(h:xV o=aI ds):o=aI (.own ds):=by
 cases o with
 | none=>cases h
 | some c=>cases c<;>simp[xV]at h;rw[h]
theorem Yq(i:Nat){f:CO D}(h:PE X e (Ry X.K "list" Vk (cR i) (mn (tV X.K f) AV)))(hs:tG e cS pos.line X.env=pure dV:=by rfl):pa X (.Expr e pos) (qP i f):=
 vL (Vy h hs) λD w H R=>by
  obtain⟨E0,E,n,p,t,B,z,U⟩:=R;obtain⟨l,b,z⟩:=zc z;obtain⟨d,o,z⟩:=zc z;have b:=wc b;by_cases j:l.length<lim
  ·rw[MY j]at z;cases z
   obtain⟨a,xs,m,u,I,O⟩:=B.rc.own i l b;refine⟨_,m,.inl ⟨rfl,_,kv.of I⟩,n,p,d,B.rc,o,λv s g x r=>?_⟩;have W:=B.step x;have Y:=x.s1 _ _ I;refine⟨a,xs,v,rfl,rfl,Y,?_,?_⟩
   ·exact EJ (by rw[O.length];exact j)<|k6<|EF _
   ·exact U _ _ g<|W.rewrite (xs:=xs) b m<|(O.mono x.s0).append (hF.cons r hF.nil)
  ·rw[RQ j]at z;cases z
end
noncomputable def Ec(K:Es)(H0 H:Hp)(Q:VK):Res->Prop
 | .val d=>∀v e b,Ext H0 H b e->Rep K b d v->Q v e
 | .own g=>∀a f e b,Ext H0 H b e->H a=cS->b a=cS->e a=aI (.lst f)->hF K b g f->Q (.ref a) e
noncomputable def C6(K:Es)(n:Nat)(F:List D->Option Res):Sp:=λd H Q _=>∃a b r,jn a H/\hF K a b d/\b.length=n/\F b=aI r/\Ec K a H Q r
theorem C6.len{K:Es}{n:Nat}{F:List D->Option Res}{I:List Str}(J:I.length=n) : ∀G H Q E,C6 K n F G H Q E->G.length=I.length:=λG H Q E h=>by obtain⟨d,e,r,_,a,b,_⟩:=h;rw[a.length,b,J]
section
variable{P:i8}{w:i5}{K:Es}{mg:MJ}{base:h7}
theorem Jx(s:jn H0 H)(h:hF K H0 ds vs)(G:ds.length<=N.length):RS K H0 H H0 H (wj N vs) (jM N.length ds):=by
 have m:=h.length;refine⟨⟨s,by simp[L2.wj,jM,m],λi d e=>?_,λi g e=>?_,λi j a g fs e _ _ _=>?_,zj.OM λi f e=>?_⟩,Ext.refl s,λi g a e _=>?_,λi f a n e _ _=>?_⟩
 all_goals unfold jM at e
 ·by_cases b:i<ds.length
  ·rw[Gr (by simpa using b),Fi]at e
   cases e1:ds[i]? with
   | none=>rw[e1]at e;cases e
   | some l=>
    rw[e1]at e;cases e;obtain⟨x,z,g2⟩:=h.get e1;refine⟨x,?_,g2⟩;unfold L2.wj;rw[Gr (by simp;omega),Fi,z];rfl
  ·rw[FP (by simpa using b),HU]at e
   split at e<;>cases e
 all_goals
  by_cases b:i<ds.length
  ·rw[Gr (by simpa using b),Fi]at e
   cases e1:ds[i]? with
   | none=>rw[e1]at e;cases e
   | some l=>rw[e1]at e;cases e
  ·rw[FP (by simpa using b),HU]at e
   split at e<;>cases e
theorem iF{x qual:Str}{st:i7}{f:eI}{L:u4}{N J:List Str}{k:Nat}{F:CO Fl}(I:L2.Dc K x qual st f L)(S:L8 N J (zK st))
 (O : ∀(G:gv) (A:l7) (outer:List l0) (s:gE) (H:Hp) (E:XK),sx k (A.deeper<|envOfC qual (zK st) s.heap.objs.size f G)->KZ (wz yg P w K mg base N qual (zK st) f G A outer s H E).n5 (jT st) F) :
 zi P w K mg base yg (k+1) f L J (C6 K J.length<|jG N.length F):=by
 refine I.ok S (C6.len rfl)<|λG A outer s H t Q E R h=>⟨_,O G A outer s H E R,?_⟩;obtain⟨d,i,r,m,l,o,U,z⟩:=h;obtain⟨B,j,a⟩:=zc U;have Y:J.length<=N.length:=by have:=congrArg IJ S.pre;rw[HE]at this;omega
 refine⟨d,H,d,jM N.length i,B,Jx m l ⋯,j,?_⟩;cases B with
 | ret p=>cases a;cases r<;>exact z
 | next e=>cases a;exact λn g b W=>z .ih g b W.ext (show V.ih = .ih from rfl)
 | brk e=>cases a
 | cont e=>cases a
end
section
variable{X:Cx}{es:List hH}{pos p:ik}{k:Nat}{f:eI}{fd:u4}{ps:List Str}{x:Str}{F:List D->Option Res}{g:CO (List D)}
theorem gz{A0:List hH}(G:zi X.prog X.w X.K X.mg X.base yg k f fd ps (C6 X.K ps.length F))(L:DP X es g)(hl : ∀γ J,g γ=aI J->J.length=ps.length)
 (Z : ∀{t:TA},PA X es t->PE X (.Call (.Name x p) es [] pos) (fD (C6 X.K ps.length F) [] E0 t)):PV X (.Call (.Name x p) es [] pos) (zw F g):=
 jw (Z L) λy H Q U=>by
  obtain⟨l,γ,d,rc,z,q⟩:=U;obtain⟨J,i,z⟩:=zc z;obtain⟨r,m,z⟩:=zA z;refine⟨l,γ,J,rc,i,λu s h x1 W=>⟨h,J,r,x1.sub,by simpa using W,hl γ J i,m,?_⟩⟩;subst z;cases r with
  | val d=>exact λv e b B I=>q v e b (x1.trans B) I
  | own fs=>
   refine λa o e b B n j Y I=>q _ e _ (x1.trans<|B.show n j Y x1.sub) ?_;exact(show ∃O R,V.ref a = .ref O/\kv X.K _ O R/\hF X.K _ fs R from⟨a,o,rfl,kv.of zt,I.mono<|jl j _⟩)
theorem gO(G:zi X.prog X.w X.K X.mg X.base yg k f fd ps (C6 X.K ps.length F))(L:DP X es g)(Z : ∀γ J,g γ=aI J->J.length=ps.length)
 (Y : ∀{t:TA},PA X es t->PE X (.Call (.Name x p) es [] pos) (fD (C6 X.K ps.length F) [] E0 t)):PO X (.Call (.Name x p) es [] pos) (kU F g):=
 jw (Y L) λA H Q I=>by
  obtain⟨l,γ,fs,rc,B,q⟩:=I;obtain⟨J,h,B⟩:=zc B;obtain⟨r,m,B⟩:=zc B;refine⟨l,γ,J,rc,h,λy u e x1 O=>⟨e,J,r,x1.sub,by simpa using O,Z γ J h,m,?_⟩⟩;cases r with
  | val d=>cases B
  | own gs=>
   cases B;exact λa s j b R i n U W=>q a s j b (x1.trans R) (by
    cases z:H a with
    | none=>rfl
    | some o=>rw[x1.s1 a o z]at i;cases i) n U W
end
structure Walk(K:Es)(H0 Hs:Hp)(J:It)(ds:List D):Prop where
 go : ∀i H1,jn Hs H1->i<ds.length->J.go i H1
 stop : ∀H1,jn Hs H1->J.stop ds.length H1
 C8 : ∀i H1 x P6,jn Hs H1->i<ds.length->J.C8 i H1 x P6->∃d,ds[i]? = aI d/\∀G0,jn H0 G0->jn G0 H1->∃P5,Ext G0 H1 P5 P6/\Rep K P5 d x
theorem Walk.weak{K:Es}{H0 G z:Hp}{J:It}{H:List D}(w:Walk K H0 G J H)(s:jn G z):Walk K H0 z J H:=
 ⟨λi a h=>w.go i a<|s.trans h,λa h=>w.stop a<|s.trans h,λi a x b h=>w.C8 i a x b<|s.trans h⟩
theorem ay{k:Sk}{K:Es}{H0 G:Hp}{a:eI}{xs:List V}{H:List D}(h:rb k K G a xs)(r:hF K H0 H xs):Walk K H0 G (P7 k K a) H:=by
 have u:=r.length;refine⟨λi b s o=>?_,λb s=>?_,λi b x f s o y=>?_⟩
 ·have g:i<xs.length:=by omega
  cases k with
  | L=>exact⟨xs,xs[i],s.seq h,Ey g⟩
  | T=>exact⟨xs,xs[i],xC s h,Ey g⟩
 ·cases k with
  | L=>exact⟨xs,s.seq h,by omega⟩
  | T=>exact⟨xs,xC s h,by omega⟩
 ·have e:f=b/\xs[i]? = aI x:=by
   cases k with
   | L=>exact⟨y.1,y.2 xs<|s.seq h⟩
   | T=>exact⟨y.1,y.2 xs<|xC s h⟩
  obtain⟨l,m⟩:=e;subst l;obtain⟨d,n,z⟩:=r.OC m;exact⟨d,n,λj p t=>⟨j,Ext.refl t,z.mono p⟩⟩
theorem vE(lo:Int)(n:Nat):(yv lo n).length=n:=by simp[yv]
theorem K8{K:Es}{H0 G:Hp}(lo:Int)(n:Nat):Walk K H0 G (G4 lo n) (yv lo n):=by
 refine⟨λi b s a=>?_,λb s=>?_,λi b x e s a y=>?_⟩
 ·rw[vE]at a;exact a
 ·rw[vE];exact EF _
 ·rw[vE]at a
  obtain⟨f,g⟩:=y;subst f g;exact⟨.int<|lo+i,by simp[yv,a],λd j h=>⟨d,Ext.refl h,(show V.int (lo+i) = .int (lo+i)from rfl)⟩⟩
theorem au{k1 k2:Sk}{K:Es}{H0 L:Hp}{a b:eI}{xs J:List V}{G H:List D}(Z:rb k1 K L a xs)(z:hF K H0 G xs)(h2:rb k2 K L b J)(B:hF K H0 H J) :
 Walk K H0 L (O6 k1 k2 K a b) (cN G H):=by
 have A:=z.length;have C:=B.length;have R:(cN G H).length=min G.length H.length:=by simp[cN]
 refine⟨λi g s w=>?_,λg s=>?_,λi g x l s w y=>?_⟩
 ·exact⟨xs,J,Qe s Z,Qe s h2,by omega,by omega⟩
 ·refine⟨xs,J,Qe s Z,Qe s h2,?_⟩
  rw[R];omega
 ·obtain⟨p,u,v,n,e,o,U,g2⟩:=y
  obtain⟨d,t,W⟩:=z.OC<|U xs<|Qe s Z;obtain⟨c,r,Y⟩:=B.OC<|g2 J<|Qe s h2;refine⟨.tup [d,c],?_,λj h f=>⟨upd j p<|.tup [u,v],?_,?_⟩⟩
  ·have m:(G.zip H)[i]? = aI (d,c):=List.getElem?_zip_eq_some.mpr ⟨t,r⟩
   simp[cN,m]
  ·rw[o];exact Ext.alloc f e _
  ·rw[n]
   exact(show ∃I O,V.ref p = .ref I/\l4 K _ I O/\hF K _ [d,c] O from⟨p,[u,v],rfl,l4.of zt,hF.cons ((W.mono h).mono (jl (js f e) _))<|hF.cons ((Y.mono h).mono (jl (js f e) _)) hF.nil⟩)
noncomputable def RA(K:Es)(G:CO (List D)):TI:=λg H R=>∃d f e,RC K d H g f/\G f=aI e/\∀J b a,Ext d H a b->Walk K a b J e->R J b
noncomputable def PX(K:Es)(G:CO (List D)):TI:=λg H R=>∃d f e,RC K d H g f/\G f=aI e/\∀J b a,Ext d H a b->Walk K a a J e->R J b
abbrev Dp(X:Cx)(tg e:hH)(src:CO (List D)):Prop:=PI X tg e (RA X.K src)
abbrev o8(X:Cx)(tg e:hH)(src:CO (List D)):Prop:=PI X tg e (PX X.K src)
section
variable{X:Cx}{tg e a b:hH}{pos p:ik}
theorem o8.c(h:o8 X tg e src):Dp X tg e src:=Xs h λi H R ⟨d,g,f,rc,z,q⟩=>⟨d,g,f,rc,z,λJ b a x w=>q J b a x<|w.weak x.sub⟩
theorem jA(h:PQ X e f):Dp X tg e (zQ f):=Xs (nI h) λs H R z=>by obtain⟨i,o,p,rc,B,q⟩:=z;obtain⟨⟨k,m⟩,j,l⟩:=zA B;subst l;exact⟨i,o,k,m,rc,j,λa n g b x d _ r=>⟨a,k,rfl,⟨n,d⟩,q _ g b x<|ay d r⟩⟩
theorem j7(h:o4 d=aI i):d = .int i:=by cases d<;>simp[o4]at h;rw[h]
theorem JM(h:inR i=cI) : -(2 ^ 62)<=i/\i<2 ^ 62:=by unfold inR at h;have h:=of_decide_eq_true h;omega
theorem Yt(B:Gl X "range")(J:X.mg "range" = cS)(G:PV X a f)(hs:i0 [a] X.env=[(dV,hX a X.env)]:=by rfl):o8 X tg (.Call (.Name "range" p) [a] [] pos) (je f):=
 Xs (VH B J (jk G j9 hs) hs) λs H R I=>by
  obtain⟨i,m,o,rc,z,q⟩:=I;obtain⟨n,e,z⟩:=zc z;obtain⟨d,O,e⟩:=zc e;by_cases g:inR n=cI
  ·rw[MY g]at z;cases z
   refine⟨i,m,d,rc,O,λv h b x r=>?_⟩;rw[j7 e]at r;obtain⟨j,l⟩:=JM g;exact⟨n,by rw[show v = .int n from r],j,l,q _ h b x<|K8 0 n.toNat⟩
  ·rw[RQ g]at z;cases z
theorem Ve{K:Es}{H:Hp}{d:D}{v:V}{k:Sk}{G:List D}(r:Rep K H d v)(e:qW d=aI (k,G)) : ∃a xs,v = .ref a/\rb k K H a xs/\hF K H G xs:=by
 cases d with
 | tup fs=>simp[qW]at e;obtain⟨b,f⟩:=e;subst b f;exact r
 | lst fs=>simp[qW]at e;obtain⟨b,f⟩:=e;subst b f;exact r
 | _=>simp[qW]at e
theorem gP{f g:CO D}{G:List hH}{x1:Nat}{J:ik}(Y:Gl X "zip")(hm:X.mg "zip" = cS)(L:PV X a f)(Z:PV X b g)(hs:i0 [a,b] X.env=[(dV,hX a X.env),(dV,hX b X.env)]:=by rfl)(I:i0 [b] X.env=[(dV,hX b X.env)]:=by rfl) :
 o8 X (.Tuple G x1 J) (.Call (.Name "zip" p) [a,b] [] pos) (mI f g):=
 Xs (nG Y hm (jk L (jk Z j9 I)<|by rw[hs,I]) PyProof.Rows.boot_zip hs I) λS H R A=>by obtain⟨j,i,P,rc,z,q⟩:=A;obtain⟨⟨C,m⟩,h,z⟩:=zc z;obtain⟨d,u,h⟩:=zc h;obtain⟨⟨E,n⟩,O,z⟩:=zA z;obtain⟨c,w,O⟩:=zc O;subst z;refine⟨j,i,d,rc,u,λv N e x r=>⟨e,i,c,rc.ext x,w,λQ l t B F=>?_⟩⟩;obtain⟨o,K,rfl,U,g2⟩:=Ve (r.mono B.s0) h;obtain⟨s,M,rfl,W,y⟩:=Ve F O;exact⟨C,E,o,s,rfl,⟨K,Qe B.sub U⟩,⟨M,Qe B.sub W⟩,q _ l t (x.trans B)<|au U g2 W y⟩
end
noncomputable def Ki:List Nat->List V->St->St
 | i::is,v::vs,σ=>Ki is vs<|σ.set i<|some v
 | _,_,σ=>σ
def gs:List Nat->MD
 | []=>Bt
 | i::is=>pj (vf i)<|gs is
noncomputable def A1(K:Es):Tg->TG
 | .nm i=>vf i
 | .tp is=>Bs K is.length<|gs is
theorem Wi : ∀{is:List Nat} {G:List V} {I:St} {H:Hp} {Q:St->Hp->Prop},G.length=is.length->Q (Ki is G I) H->gs is G I H Q
 | [],[],_,_,_,_,q=>⟨rfl,q⟩
 | i::is,v::G,I,H,Q,hl,q=>⟨v,G,rfl,Wi (by simpa using hl) q⟩
 | [],_::_,_,_,_,hl,_=>by simp at hl
 | _::_,[],_,_,_,hl,_=>by simp at hl
theorem RS.NY{K:Es}{E0 E H0 H:Hp} : ∀{is:List Nat} {G:List D} {I:List V} {J:St} {γ:Ctx},RS K E0 E H0 H J γ->hF K H0 G I->RS K E0 E H0 H (Ki is I J) (qI is G γ)
 | [],G,I,J,γ,r,h=>by cases G<;>cases I<;>exact r
 | i::is,[],I,J,γ,r,h=>by rw[h.Du];exact r
 | i::is,d::G,I,J,γ,r,h=>by obtain⟨x,t,e,a,b⟩:=h.B8;subst e;show RS K E0 E H0 H (DL.Ki is t<|J.set i<|some x) (qI is G<|γ.set i<|.val d);exact RS.NY (r.Di a) b
theorem RC.NY{K:Es}{H0 H:Hp} : ∀{is:List Nat} {G:List D} {I:List V} {J:St} {γ:Ctx},RC K H0 H J γ->hF K H0 G I->RC K H0 H (Ki is I J) (qI is G γ)
 | [],G,I,J,γ,r,h=>by cases G<;>cases I<;>exact r
 | i::is,[],I,J,γ,r,h=>by rw[h.Du];exact r
 | i::is,d::G,I,J,γ,r,h=>by obtain⟨x,t,e,a,b⟩:=h.B8;subst e;show RC K H0 H (DL.Ki is t<|J.set i<|some x) (qI is G<|γ.set i<|.val d);exact RC.NY (r.Di a) b
theorem yc{K:Es}{H0 H:Hp}{T:Tg}{d:D}{v:V}{G:St}{γ z:Ctx}{Q:St->Hp->Prop}(s:jn H0 H)(h:Rep K H0 d v)(e:xo T d γ=aI z)
 (q : ∀B,(RC K H0 H G γ->RC K H0 H B z)->(∀E0 E,RS K E0 E H0 H G γ->RS K E0 E H0 H B z)->Q B H):A1 K T v G H Q:=by
 cases T with
 | nm i=>cases e;exact q _ (λr=>r.Di h) λE0 E r=>r.Di h
 | tp is=>
  cases d with
  | tup j=>
   simp only[xo]at e;by_cases g:j.length=is.length
   ·rw[MY g]at e;cases e
    obtain⟨a,b,rfl,m,f⟩:=(show ∃a b,v = .ref a/\l4 K H0 a b/\hF K H0 j b from h);have l:b.length=is.length:=by rw[f.length,g]
    exact⟨a,b,rfl,xC s m,l,Wi l<|q _ (λr=>r.NY f) λE0 E r=>r.NY f⟩
   ·rw[RQ g]at e;cases e
  | _=>simp[xo]at e
theorem Ext.rebase{E0 E z H0 H B:Hp}(e:Ext E0 E z B)(x:Ext z E H0 H):Ext E0 E H0 H:=
 ⟨e.s0.trans x.s0,x.s1,x.sub,λa d b=>x.new a (e.new a d b) b⟩
theorem Ext.base{E0 E z B:Hp}(e:Ext E0 E z B):Ext z E z B:=⟨jn.refl _,e.s1,e.sub,λa h _=>h⟩
theorem Sat.rebase{K:Es}{E0 E I B:Hp}{D:Ends}{z:Fl}(e:Ext E0 E I B)(h:Sat K E0 E D z):Sat K I E D z:=by
 cases z with
 | next g=>exact λf H b r=>h f H b ⟨r.rc,e.rebase r.ext,r.fresh,r.Dg⟩
 | brk g=>exact λf H b r=>h f H b ⟨r.rc,e.rebase r.ext,r.fresh,r.Dg⟩
 | cont g=>exact λf H b r=>h f H b ⟨r.rc,e.rebase r.ext,r.fresh,r.Dg⟩
 | ret r=>
  cases r with
  | val d=>exact λv H b x q=>h v H b (e.rebase x) q
  | own m=>exact λa l H b x i j O q=>h a l H b (e.rebase x) i j O q
section
variable{X:Cx}{tg iter:hH}{body:List i7}{pos:ik}
theorem gH{G:CO (List D)}{T:Tg}{F:CO Fl}(hp:Pa (hA X.prog X.w) X.A X.env X.xe)(hc:X.calm=cI)(hi:o8 X tg iter G)(hg:PG X tg (A1 X.K T))(hb:KZ X body F)
 (hs : ∀x,AR iter X.env x=pure x:=by intro _;rfl):pa X (.For tg iter body [] pos) (Z1 G T F):=
 vL (du hp hc hi hg hb hs) λD h H hZ=>by
  obtain⟨E0,E,g,f,B,I,z,O⟩:=hZ;obtain⟨b,S,z⟩:=zc z;refine⟨g,f,b,I.rc,S,λJ H1 a x1 l=>?_⟩;have DJ:=I.step x1;have t:=DJ.ext;refine⟨λi m h H=>m=b.length - i/\i<=b.length/\∃g f B,RS X.K a E g H h f/\yr T F (b.drop i) f=aI B/\Sat X.K a E D B,⟨_,rfl,He _,a,f,B,⟨DJ.rc,t.base,DJ.fresh,DJ.Dg⟩,z,O.rebase t⟩,?_⟩;rintro i m h H ⟨rfl,hi,g,f,B,I,z,O⟩;have W:jn a H:=I.ext.s0.trans I.ext.sub;by_cases R:i<b.length
  ·refine .inr ⟨l.go i H W R,λh H=>i+1<=b.length/\∃g f B,RS X.K a E g H h f/\yr T F (b.drop<|i+1) f=aI B/\Sat X.K a E D B,λO1 s n=>⟨b.length - (i+1),by omega,rfl,n.1,n.2⟩,λx s y=>?_⟩
   obtain⟨d,u,hx⟩:=l.C8 i H x s W R y;obtain⟨L,C,rg⟩:=hx g I.ext.s0 I.rc.sub;have N:b.drop i=d::b.drop (i+1):=by
    have P:d=b[i]:=by rw[Ey R]at u;exact(Ff u).symm
    rw[P];exact Gs R
   rw[N]at z;simp only[yr]at z;obtain⟨o,eb,z⟩:=zc z;obtain⟨f1,Z,z⟩:=zc z;refine yc C.sub rg eb λO2 _ Q=>⟨a,E,L,o,f1,Q a E<|I.step C,Z,?_⟩;cases f1 with
   | next U=>exact λp M Y j=>⟨R,Y,U,B,j,z,O⟩
   | cont U=>exact λp M Y j=>⟨R,Y,U,B,j,z,O⟩
   | brk U=>cases z;exact O
   | ret r=>cases z;cases r<;>exact O
  ·have e:i=b.length:=by omega
   subst e;rw[List.drop_length]at z;cases z;exact .inl ⟨l.stop H W,O h H g I⟩
end
theorem qu(h:(qS n fr γ)[i]? = aI c):c = .no\/(∃d j,c = .val d/\n<=i/\fr[i - n]? = aI j/\γ[j]? = aI (.val d)):=by
 unfold qS at h;by_cases b:i<n
 ·rw[Gr (by simpa using b),HU,MY b]at h
  exact .inl (Ff h).symm
 ·rw[FP (by simpa using b),Fi,List.length_replicate]at h
  cases e:fr[i - n]? with
  | none=>rw[e]at h;cases h
  | some j=>
   rw[e]at h;have a:vO (γ[j]?.getD .no)=c:=by simpa using h
   cases e2:γ[j]? with
   | none=>rw[e2]at a;exact .inl a.symm
   | some z=>
    rw[e2]at a;cases z with
    | no=>exact .inl a.symm
    | own g=>exact .inl a.symm
    | nest f=>exact .inl a.symm
    | val d=>exact .inr ⟨d,j,a.symm,by omega,rfl,e2⟩
theorem RC.pull{K:Es}{H0 H:Hp}{G:St}{γ:Ctx}{own:List Str}{fr:List (Str×Nat)}(r:RC K H0 H G γ):RC K H0 H (L2.Vu own fr G) (qS own.length (fr.map (·.2)) γ):=by
 refine⟨r.sub,by simp[L2.Vu,qS],λi d h=>?_,λi e h=>?_,λi j a e l h _ _ _=>?_,zj.OM λi b h=>?_⟩
 ·rcases qu h with z | ⟨d',j,z,hi,B,I⟩
  ·cases z
  ·cases z
   obtain⟨v,f,g⟩:=r.val j d I;refine⟨v,?_,g⟩;rw[Fi]at B;cases q:fr[i - own.length]? with
   | none=>rw[q]at B;cases B
   | some p=>
    rw[q]at B;have O:p.2=j:=by simpa using B
    unfold L2.Vu;rw[FP (by simpa using hi),Fi,EE,q];simp[O,f]
 ·rcases qu h with z | ⟨d',j,z,_⟩<;>cases z
 ·rcases qu h with z | ⟨d',j,z,_⟩<;>cases z
 ·rcases qu h with z | ⟨d',j,z,_⟩<;>cases z
theorem RC.weak{K:Es}{H0 H:Hp}{J:St}{γ γ':Ctx}(r:RC K H0 H J γ)(L:γ'.length=γ.length)(B : ∀(i:Nat) d,γ'[i]? = aI (.val d)->γ[i]? = aI (.val d))(z : ∀(i:Nat) G,γ'[i]? ≠ aI (.own G))(I : ∀(i:Nat) rows,γ'[i]? ≠ aI (.nest rows)):RC K H0 H J γ':=
 ⟨r.sub,by rw[L];exact r.len,λi d h=>r.val i d<|B i d h,λi G h=>absurd h<|z i G,λi j a G b h _ _ _=>absurd h<|z i G,zj.OM I⟩
theorem RC.upd{K:Es}{H0 H:Hp}{J:St}{γ:Ctx}{D:eI}{o:HO}(r:RC K H0 H J γ)(L:H0 D=cS)(B : ∀(i:Nat) G,γ[i]? ≠ aI (.own G))(I : ∀(i:Nat) rows,γ[i]? ≠ aI (.nest rows)):RC K H0 (upd H D o) J γ:=
 ⟨λb u q=>by rw[zu (λz=>by rw[z,L]at q;cases q)];exact r.sub b u q,r.len,r.val,λi G h=>absurd h<|B i G,λi j a G d h _ _ _=>absurd h<|B i G,zj.OM I⟩
theorem w9 : ∀{is:List Nat} {G:List D} {γ:Ctx},(qI is G γ).length=γ.length
 | [],G,γ=>by cases G<;>rfl
 | i::is,[],γ=>rfl
 | i::is,d::G,γ=>by show(qI is G<|γ.set i<|.val d).length=_;rw[w9];simp
theorem Za : ∀{is:List Nat} {G:List D} {γ:Ctx} {i:Nat},i∉is->(qI is G γ)[i]? = γ[i]?
 | [],G,γ,i,_=>by cases G<;>rfl
 | j::is,[],γ,i,_=>rfl
 | j::is,d::G,γ,i,h=>by show(qI is G<|γ.set j<|.val d)[i]? = _;rw[Za (λz=>h<|EK _ z),EI (λz=>h<|by rw[<- z];exact EN)]
theorem QS(h:xo T d γ=aI N7):N7.length=γ.length/\∀i,i∉T.idx->N7[i]? = γ[i]? :=by
 cases T with
 | nm j=>cases h;exact⟨by simp,λi a=>EI<|λz=>a<|by simp[Tg.idx,z]⟩
 | tp is=>
  cases d with
  | tup e=>
   simp only[xo]at h;by_cases b:e.length=is.length
   ·rw[MY b]at h;cases h;exact⟨w9,λi a=>Za a⟩
   ·rw[RQ b]at h;cases h
  | _=>simp[xo]at h
section
variable{K:Es}{own:List Str}{fr:List (Str×Nat)}{src:CO (List D)}{T:Tg}{k:CO Bool}{f:CO D}
theorem ZC(hT : ∀i∈T.idx,i<own.length)(c4 : ∀G H Q,tT K k G H Q->tt G H Q) : ∀G H Q,tO K (zM src T own.length (fr.map (·.2)) k f) G H Q->aE (RA K src) own fr (A1 K T) tt (tV K f) G H Q:=λG H Q hZ=>by
 obtain⟨H0,s,ds,rc,R,q⟩:=hZ;obtain⟨I,e1,R⟩:=zc R;by_cases hl:I.length<=lim
 ·rw[MY hl]at R
  refine⟨H0,s,I,rc,e1,λJ H1 n x1 wk D Y=>?_⟩;have N : ∀(i:Nat) es,(qS own.length (fr.map (·.2)) s)[i]? ≠ aI (.own es):=λi es h=>by rcases qu h with z | ⟨d',j,z,_⟩<;>cases z
  have P : ∀(i:Nat) u,(qS own.length (fr.map (·.2)) s)[i]? ≠ aI (.nest u):=λi es h=>by rcases qu h with z | ⟨d',j,z,_⟩<;>cases z
  have as:n D=cS:=js x1.sub Y;have c6:H D=cS:=by
   cases z:H D with
   | none=>rfl
   | some o=>rw[x1.s1 D o z]at Y;cases Y
  refine⟨λi m l C g=>m=I.length - i/\i<=I.length/\l.length<=i/\g D=aI (.lst l)/\∃a t F,RC K a g C (qS own.length (fr.map (·.2)) s)/\a D=cS/\Ext n H1 a g/\hF K a t l/\zW T k f (qS own.length (fr.map (·.2)) s) (I.drop i)=aI F/\ds=t++F,
   ⟨_,rfl,He _,EF _,zt,n,[],ds,((rc.ext x1).pull).upd as N P,as,Ext.hide x1.sub Y _,hF.nil,R,rfl⟩,?_⟩
  rintro i m l C g ⟨rfl,hi,hy,L,a,t,F,S,ax,U,r',B,rfl⟩;refine⟨L,?_⟩;by_cases W:i<I.length
  ·refine .inr ⟨wk.go i g U.s1 W,?_,λx X y=>?_⟩
   ·have:=k6<|EF lim;omega
   obtain⟨d,hd,hx⟩:=wk.C8 i g x X U.s1 W y;obtain⟨G0,O,rg⟩:=hx a U.s0 S.sub;have c8:I.drop i=d::I.drop (i+1):=by
    have c9:d=I[i]:=by rw[Ey W]at hd;exact(Ff hd).symm
    rw[c9];exact Gs W
   rw[c8]at B;simp only[zW]at B;obtain⟨p,eb,B⟩:=zc B;obtain⟨b,ek,B⟩:=zc B;have cc:G0 D=cS:=O.new D ax (by rw[L];simp);have bb:X D=aI (.lst l):=O.s1 _ _ L;obtain⟨bl,bg⟩:=QS eb;have bd : ∀{E:St} {G2 H2:Hp},RC K G2 H2 E p->RC K G2 H2 E (qS own.length (fr.map (·.2)) s):=λr=>r.weak bl.symm (λj d' hj=>by
    by_cases hm:j∈T.idx
    ·rcases qu hj with z | ⟨d2,j2,_,hn,_⟩
     ·cases z
     ·exact absurd (hT j hm) ⋯
    ·rw[bg j hm];exact hj) N P
   refine yc O.sub rg eb λO2 bv _=>c4 O2 X _ ⟨G0,p,b,bv<|S.ext O,ek,λH3 Z x3=>?_⟩;have an:=(bv<|S.ext O).ext x3;have xa:=U.trans<|O.trans x3;have c1:Z D=cS:=x3.new D cc (by rw[bb];simp);have ap:H3 D=aI (.lst l):=x3.s1 _ _ bb;cases b with
   | true=>
    dsimp only;rw[MY rfl]at B ⊢;obtain⟨e,ee,B⟩:=zc B;obtain⟨rest,er,B⟩:=zA B;refine⟨Z,p,e,an,ee,λv H4 c2 A r4=>?_⟩;have ar:c2 D=cS:=A.new D c1 (by rw[ap];simp);have co:H4 D=aI (.lst l):=A.s1 _ _ ap;have M:=xa.trans A;refine⟨co,I.length - (i+1),by omega,rfl,W,by rw[Fc,Ho];omega,zt,c2,t++[e],rest,(bd<|an.ext A).upd ar N P,ar,?_,(r'.mono<|(O.trans<|x3.trans A).s0).append (hF.cons r4 hF.nil),er,?_⟩
    ·exact⟨M.s0,λc o z=>by rw[zu (λw=>by rw[w,Y]at z;cases z)];exact M.s1 c o z,λc o z=>by rw[zu (λw=>by rw[w,ar]at z;cases z)];exact M.sub c o z,M.new⟩
    ·rw[<- B];simp
   | false=>
    dsimp only;rw[RQ ES]at B ⊢;exact⟨I.length - (i+1),by omega,rfl,W,by omega,ap,Z,t,F,bd an,c1,xa,r'.mono<|(O.trans x3).s0,B,rfl⟩
  ·have e:i=I.length:=by omega
   subst e;rw[List.drop_length]at B;cases B;rw[List.append_nil]at q;exact .inl ⟨wk.stop g U.s1,q D l g a (x1.trans U) c6 ax L r'⟩
 ·rw[RQ hl]at R;cases R
end
section
variable{X:Cx}{scope:i2}{own:List Str}{fr:List (Str×Nat)}{elt tg iter c:hH}{pos:ik}{src:CO (List D)}{T:Tg}{k:CO Bool}{f:CO D}
theorem gN(L:X.calm=cI)(ok:A9 X scope fr)(z : ∀i∈T.idx,i<own.length)(hi:Dp X tg iter src)(B : ∀fp J G,PG (jb X scope (own++fr.map (·.1)) fp J G) tg<|A1 X.K T)
 (I : ∀fp J G,PV (jb X scope (own++fr.map (·.1)) fp J G) elt f) (hs : ∀x,AR iter X.env x=pure x:=by intro _;rfl) :
 PO X (.ListComp elt [⟨tg,iter,[],0⟩] scope pos) (zM src T own.length (fr.map (·.2)) jo f):=
 jw (Xt L ok hi B (λ_ _ _=>Kp) I hs) (ZC z λe H Q ⟨a,d,b,rc,O,q⟩=>by cases O;exact q H a<|Ext.refl rc.sub)
theorem VD(L:X.calm=cI)(ok:A9 X scope fr)(z : ∀i∈T.idx,i<own.length)(hi:Dp X tg iter src)(B : ∀fp J G,PG (jb X scope (own++fr.map (·.1)) fp J G) tg<|A1 X.K T)
 (hk : ∀fp J G,q5 (jb X scope (own++fr.map (·.1)) fp J G) c k) (I : ∀fp J G,PV (jb X scope (own++fr.map (·.1)) fp J G) elt f) (hs : ∀x,AR iter X.env x=pure x:=by intro _;rfl) :
 PO X (.ListComp elt [⟨tg,iter,[c],0⟩] scope pos) (zM src T own.length (fr.map (·.2)) k f):=
 jw (Xt L ok hi B (λfp J G=>bc<|hk fp J G) I hs) (ZC z λa H Q h=>h)
theorem aZ(z:X.N.Nodup)(B:X.N[i]? = aI y)(I:Loc X.env.scope y)(Z:X.fn y=cI\/X.env.scope.names.lookup y=aI .local)
 (L:X.calm=cI) (ok:A9 X scope fr) (O : ∀i∈T.idx,i<own.length) (hi:Dp X tg iter src) (R : ∀fp J G,PG (jb X scope (own++fr.map (·.1)) fp J G) tg<|A1 X.K T)
 (U : ∀fp J G,PV (jb X scope (own++fr.map (·.1)) fp J G) elt f) (hs : ∀x,AR iter X.env x=pure x:=by intro _;rfl) :
 PS X (.Assign [.Name y py] (.ListComp elt [⟨tg,iter,[],0⟩] scope pos) spos) (Y6 (tO X.K<|zM src T own.length (fr.map (·.2)) jo f)<|vf i):=
 vL (Yr z B I Z L ok hi R (λ_ _ _=>Kp) U hs) λD a H h=>ZC O (λa H Q W=>by obtain⟨d,e,b,rc,Y,q⟩:=W;cases Y;exact q H d<|Ext.refl rc.sub) a H _ h
end
theorem jP{K:Es}{H:Hp}{i:Int}{v:V}(h:Rep K H (.int i) v):v = .int i:=h
theorem Va{K:Es}{g:Int->Int->D}{z:Int->Int->V}(I : ∀H i j,Rep K H (g i j)<|z i j):q7 K (A6 z) (dI g):=λa H x y b O d Q s rx R B q=>by cases b<;>cases O<;>simp[dI]at B;subst B;exact⟨_,_,jP rx,jP R,q _ H a (Ext.refl s)<|I a _ _⟩
theorem Y9{K:Es}{C:Int->Int->Prop}{c:Int->Int->Bool}{g:Int->Int->D}{z:Int->Int->V}(G : ∀i j,c i j=cI->C i j)(I : ∀H i j,Rep K H (g i j)<|z i j):q7 K (rI C z) (Ny c g):=λa H x y b O d Q s rx R B q=>by cases b<;>cases O<;>simp[Ny]at B;obtain⟨e,f⟩:=B;subst f;exact⟨_,_,jP rx,jP R,G _ _ e,q _ H a (Ext.refl s)<|I a _ _⟩
theorem fG{K:Es}:q7 K (A6 λi j=> .int (i - j)) cj:=Va λ_ _ _=>rfl
theorem cF(h:QY i j=cI):L7 i j:=by unfold QY at h;rw[Fq,decide_eq_true_eq,decide_eq_true_eq]at h;unfold L7;omega
theorem fM{K:Es}:q7 K (rI BY λi j=> .int (i/j)) wQ:=Y9 (λi j h=>by unfold pL at h;rw[Ex,decide_eq_true_eq,decide_eq_true_eq]at h;exact⟨h.1,by omega⟩) λ_ _ _=>rfl
theorem fK{K:Es}:q7 K (rI (λ_ j=>0<j) λi j=> .int (i%j)) j8:=Y9 (λi j h=>by unfold su at h;exact of_decide_eq_true h) λ_ _ _=>rfl
theorem fH{K:Es}:q7 K (rI BX λi j=> .int (i ^ j.toNat)) ah:=Y9 (λi j h=>by unfold pK at h;rw[Ex,Ex,decide_eq_true_eq,decide_eq_true_eq,decide_eq_true_eq]at h;exact⟨h.1.1,by omega,h.2⟩) λ_ _ _=>rfl
theorem cV{K:Es}:q7 K (A6 λi j=> .bl (decide<|i<j)) DF:=Va λ_ _ _=>rfl
theorem Qb{K:Es}:q7 K (A6 λi j=> .bl (decide<|i<=j)) B2:=Va λ_ _ _=>rfl
theorem cW{K:Es}:q7 K (A6 λi j=> .bl (decide<|j<i)) wy:=Va λ_ _ _=>rfl
theorem my{K:Es}:q7 K (A6 λi j=> .bl (decide<|j<=i)) A4:=Va λ_ _ _=>rfl
section
variable{X:Cx}
noncomputable def dc(K:Es):R2:=λx y H Q=>∃a b d e,x = .ref a/\y = .ref b/\l4 K H a d/\l4 K H b e/\d.length+e.length<=j3/\
 (d=[]->Q (.ref b) H)/\(e=[]->Q (.ref a) H)/\∀p,H p=cS->Q (.ref p) (upd H p<|.tup<|d++e)
theorem bq:l9 X (De .Add) (dc X.K):=by
 intro p s σ H x y v u Q I rx S h;obtain⟨a,b,t,Z,rfl,rfl,G,J,U,M,N,P⟩:=h;cases rx;cases S;obtain⟨B,r,W,z1⟩:=I.tuple G;obtain⟨w,O,Y,z2⟩:=I.tuple J;by_cases R:t=[]
 ·have d:B=[]:=(r.ON).mpr R
  obtain⟨⟨E,F,i,T⟩,m,j,n,l⟩:=id W;obtain⟨⟨ar,A,data2,C⟩,e,f,L,g⟩:=id Y;simp only at j l f g;subst j l f g;exact My ⟨_,m,rfl⟩ ⟨_,e,rfl⟩ MA Ru Ld Lb (IS _ _)
   (tuple_addW0 a b B.toArray w.toArray n L F A T C<|by simp[d]) ⟨m,e,⟨.ref b,H,I,rfl,M R⟩⟩
 ·have d:B ≠ []:=λz=>R ((r.ON).mp z)
  refine HT.Al W Y d (λz=>⟨.ref a,H,I,rfl,N<|(O.ON).mp z⟩) (λ_=>?_) (by rw[<- r.length,<- O.length];exact U);refine⟨.ref s.heap.objs.size,_,I.laid (t':=s.toks) (o:= .tup (t++Z)) (λc ob q=>Ew _ q) (EF _) ?_,rfl,P _<|I.h8.fresh<|EF _⟩;exact⟨by rw[Fc];exact U,_,r.append O,DC.new _ _⟩
noncomputable def mW(K:Es):R2:=λx y H Q=>∃l b a d,x = .ref l/\y = .ref b/\kv K H l a/\kv K H b d/\a.length+d.length<=j3/\∀p,H p=cS->Q (.ref p) (upd H p<|.lst<|a++d)
theorem br:l9 X (De .Add) (mW X.K):=by
 intro a s G H x y v u Q I rx C h;obtain⟨l,b,T,zs,rfl,rfl,t,p,N,q⟩:=h;cases rx;cases C;obtain⟨z,r,⟨o,n,e,O,d,R⟩,Z⟩:=I.list t;obtain⟨B,U,⟨A,w,g,W,Y,f⟩,z2⟩:=I.list p;have P:=r.length;have S:=U.length;obtain⟨cls,n4,M,E⟩:=o;obtain⟨J,as,L,i⟩:=A;simp only at O d R W Y f;subst O d R W Y f;have j:EP X a G Q (.ref s.heap.objs.size) {s with heap:=s.heap.push {cls:= .type "list",data:= .seq (z++B).toArray}}:=
  ⟨.ref _,_,I.Pz (t':=s.toks) (r.append U) (by rw[Fc];omega),rfl,q _ I.fresh⟩
 have m:z.toArray++B.toArray=(z++B).toArray:=by simp
 refine My ⟨_,e,rfl⟩ ⟨_,g,rfl⟩ noFill_list_add seq_list_add PySem.F.slot_list_add PySem.F.entry_list_add (PySem.F.args_list_add_2 _ _)
  (list_addW l b z.toArray B.toArray n w cS cS E i<|by rw[EM,EM];omega) ⟨e,g,?_⟩
 rw[m];exact j
end
noncomputable def kz(scope G:i2):i2:={scope with names:=scope.names.map λp=>if p.2==EV && G.kind == .function && G.names.lookup p.1==aI .cell then (p.1,GW)else (p.1,p.2)}
theorem Ym(scope:i2)(env:l0):t6 scope env=kz scope env.scope:=by unfold t6 kz;rfl
structure SX(X:Cx)(sc:i2)(N T:List Str)(k:Nat):Prop where
 xg:X.env.scope=sc
 eN:X.N=N
 nd:N.Nodup
 calm:X.calm=cI
 room:sx k X.A
 fn : ∀x∈T,X.fn x=cI\/sc.names.lookup x=aI .local
noncomputable def kN(G:i2)(N:List Str)(i:Nat)(x:Str):Bool:=
 decide (N[i]? = aI x) && (decide (G.names.lookup x=aI .local) || decide (G.names.lookup x=aI .cell) || decide (G.names.lookup x=aI .free)) && !(x==("__debug__" : Str)) && !(x==("__classdict__" : Str))
noncomputable def kr(G:i2)(N T:List Str)(i:Nat)(x:Str):Bool:=decide (x∈T) && decide (N[i]? = aI x) && (decide (G.names.lookup x=aI .local) || decide (G.names.lookup x=aI .cell))
noncomputable def qN(G:i2)(x:Str):Bool:=decide (G.names.lookup x=aI .globalImplicit) && !(x==("__name__" : Str)) && !(x==("__debug__" : Str))
section
variable{X:Cx}{sc:i2}{N T:List Str}{k:Nat}{i:Nat}{x:Str}{pos:ik}
theorem SX.var(h:SX X sc N T k)(c:kN sc N i x=cI):PE X (.Name x pos) (cR i):=by
 unfold kN at c;simp only[Ex,Fq,decide_eq_true_eq,Gp]at c;obtain⟨⟨⟨a,h2⟩,z⟩,B⟩:=c;refine VJ (by rw[h.eN];exact a) ?_ z B;unfold ME;rw[h.xg];rcases h2 with(h2 | h2) | h2
 ·exact .inl h2
 ·exact .inr<|.inl h2
 ·exact .inr<|.inr h2
theorem SX.loc(h:SX X sc N T k)(c:kr sc N T i x=cI):X.N[i]? = aI x/\L2.Loc X.env.scope x/\(X.fn x=cI\/X.env.scope.names.lookup x=aI .local):=by
 unfold kr at c;simp only[Ex,Fq,decide_eq_true_eq]at c;refine⟨by rw[h.eN];exact c.1.2,?_,?_⟩
 ·unfold L2.Loc;rw[h.xg];exact c.2
 ·rw[h.xg];exact h.fn x c.1.1
theorem SX.M0(h:SX X sc N T k):X.N.Nodup:=by rw[h.eN];exact h.nd
theorem SX.A8(h:SX X sc N T k)(i:Nat)(c:kr sc N T i x=cI):PG X (.Name x pos) (vf i):=by obtain⟨a,b,z⟩:=h.loc c;exact VI h.M0 a b z
theorem SX.OU(h:SX X sc N T k)(g:Ni X es (gs is))(G:(E4 es X.env).length=is.length:=by rfl)(z:(E4 es X.env).findIdx? (·.1)=cS:=by rfl):PG X (.Tuple es j pos) (A1 X.K<|.tp is):=
 nK h.calm g G z
theorem SX.set(h:SX X sc N T k)(i:Nat)(c:kr sc N T i x=cI)(z:PE X e te)(hs:tG e (aI (.Name x pos')) pos.line X.env=pure dV:=by rfl):PS X (.Assign [.Name x pos'] e pos) (Y6 te<|vf i):=by obtain⟨a,b,B⟩:=h.loc c;exact dn h.M0 a b z hs B
theorem SX.gl(h:SX X sc N T k)(c:qN sc x=cI):Gl X x/\x ≠ "__name__"/\(x==("__debug__" : Str))=dV:=by
 unfold qN at c;simp only[Ex,decide_eq_true_eq,Gp]at c;refine⟨?_,?_,c.2⟩
 ·show X.env.scope.names.lookup x=_
  rw[h.xg];exact c.1.1
 ·intro e;rw[e]at c;simp at c
noncomputable def XU(sc scope:i2)(N:List Str)(fr:List (Str×Nat)):Bool:=
 decide (scope.kind = .function) && decide ((scope.names.map (·.1)).Nodup) && scope.names.all (λp=> !(p.2==EV) || decide (sc.names.lookup p.1=aI .cell) || decide (sc.names.lookup p.1=aI .free)) &&
 fr.all λp=>decide (scope.names.lookup p.1=aI .free) && decide (N[p.2]? = aI p.1)
noncomputable def tM(own:List Str)(scope:i2)(fr:List (Str×Nat)):Bool:=decide ((own++fr.map (·.1)).Nodup) && own.all (λx=>decide (scope.names.lookup x=aI .local) || decide (scope.names.lookup x=aI .cell))
theorem SX.Ri(h:SX X sc N T k)(c:XU sc scope N fr=cI):A9 X scope fr:=by
 unfold XU at c;simp only[Ex,decide_eq_true_eq,EY,Fq,Gp]at c;obtain⟨⟨⟨B,b⟩,I⟩,z⟩:=c;refine⟨B,b,λp a d=>?_,λp a=>⟨(z p a).1,by rw[h.eN];exact(z p a).2⟩⟩;have e:X.env.kindOf p.1=sc.names.lookup p.1:=by show X.env.scope.names.lookup p.1=_;rw[h.xg]
 rw[e];rcases I p a with(q | q) | q
 ·rw[d]at q;exact absurd q ⋯
 ·exact .inl q
 ·exact .inr q
theorem Zs(scope sc:i2)(x:Str):(kz scope sc).names.lookup x=(scope.names.lookup x).map λk=>if (k==EV && sc.kind == .function && sc.names.lookup x==aI .cell)then GW else k:=by
 unfold kz;dsimp only;generalize scope.names=l
 induction l with
 | nil=>rfl
 | cons p r z=>
  obtain⟨n,B⟩:=p;rw[Fb];cases hx:x==n with
  | true=>
   have e:x=n:=by simpa using hx
   subst e;dsimp only;split
   ·rename_i a;rw[Fv,Fv,beq_self_eq_true];dsimp only[FY];rw[MY a]
   ·rename_i a;rw[Fv,Fv,beq_self_eq_true];dsimp only[FY];rw[RQ a]
  | false=>
   dsimp only;split
   ·rw[Fv,Fv,hx];exact z
   ·rw[Fv,Fv,hx];exact z
theorem SX.comp(h:SX X sc N T k)(c:tM own scope fr=cI) :
 SX (jb X scope (own++fr.map (·.1)) fp s2 H2) (kz scope sc) (own++fr.map (·.1)) own k:=by
 unfold tM at c;simp only[Ex,decide_eq_true_eq,EY,Fq]at c;refine⟨?_,rfl,c.1,h.calm,h.room,λx a=>?_⟩
 ·show t6 scope X.env=_
  rw[Ym,h.xg]
 ·rcases c.2 x a with q | q
  ·right;rw[Zs,q];rfl
  ·left
   show(scope.names.lookup x==aI .cell)=cI;rw[q];rfl
theorem SX.cq(h:SX X sc N T k)(own:List Str)(fr:List (Str×Nat))(fp:List eI)(H:gE)(G:Hp)(c:tM own scope fr=cI) :
 SX (jb X scope (own++fr.map (·.1)) fp H G) (kz scope sc) (own++fr.map (·.1)) own k:=h.comp c
end
mutual
def mu:D->PyData
 | .ih=> .none
 | .bl b=> .bool b
 | .int i=> .int i
 | .str x=> .str x
 | .tup a=> .tuple (oC a)
 | .lst a=> .list (oC a)
 | .exc _ _=> .none
 | .pk _ _=> .none
 | .n4 _ _=> .none
 | .ins _ _ _=> .none
def oC:List D->List PyData
 | []=>[]
 | d::ds=>mu d::oC ds
end
theorem D3(h:nt (.exc c n)=cI):False:=by simp[nt]at h
theorem D2(h:nt (.pk ks vs)=cI):False:=by simp[nt]at h
theorem D4{c:Str}{p t:D}(h:nt (.ins c p t)=cI):False:=by simp[nt]at h
theorem D1(h:nt (.n4 ks vs)=cI):False:=by simp[nt]at h
mutual
theorem NC : ∀x y:D,nt x=cI->nt y=cI->GU (mu x) (mu y)=lA x y
 | .ih,y,_,h=>by cases y<;>first | exact(D3 h).elim | exact(D2 h).elim | exact(D1 h).elim | exact(D4 h).elim | simp[mu,GU,lA]
 | .bl a,y,_,h=>by cases y<;>first | exact(D3 h).elim | exact(D2 h).elim | exact(D1 h).elim | exact(D4 h).elim | simp[mu,GU,lA]
 | .int a,y,_,h=>by cases y<;>first | exact(D3 h).elim | exact(D2 h).elim | exact(D1 h).elim | exact(D4 h).elim | simp[mu,GU,lA]
 | .str a,y,_,h=>by cases y<;>first | exact(D3 h).elim | exact(D2 h).elim | exact(D1 h).elim | exact(D4 h).elim | simp[mu,GU,lA]
 | .exc c n,y,h,_=>(D3 h).elim
 | .pk c n,y,h,_=>(D2 h).elim
 | .n4 c n,y,h,_=>(D1 h).elim
 | .ins c p t,y,h,_=>(D4 h).elim
 | .tup xs,y,h1,h2=>by
  cases y with
  | tup b=>simp only[nt]at h1 h2;simp only[mu,GU,lA];exact Pq xs b h1 h2
  | exc c n=>exact(D3 h2).elim
  | pk c n=>exact(D2 h2).elim
  | n4 c n=>exact(D1 h2).elim
  | ins c p t=>exact(D4 h2).elim
  | _=>simp[mu,GU,lA]
 | .lst xs,y,h1,h2=>by
  cases y with
  | lst b=>simp only[nt]at h1 h2;simp only[mu,GU,lA];exact Pq xs b h1 h2
  | exc c n=>exact(D3 h2).elim
  | pk c n=>exact(D2 h2).elim
  | n4 c n=>exact(D1 h2).elim
  | ins c p t=>exact(D4 h2).elim
  | _=>simp[mu,GU,lA]
theorem Pq : ∀xs G:List D,m3 xs=cI->m3 G=cI->Ly (oC xs) (oC G)=B3 xs G
 | [],G,_,_=>by cases G<;>simp[oC,Ly,B3]
 | x::xs,G,h1,h2=>by
  cases G with
  | nil=>simp[oC,Ly,B3]
  | cons y G=>
   simp only[m3,Ex]at h1 h2;simp only[oC,Ly,B3];rw[NC x y h1.1 h2.1,Pq xs G h1.2 h2.2]
end
mutual
theorem NL : ∀x:D,nt x=cI->(mu x).canLay0=cI
 | .ih,_=>by simp[mu,HZ]
 | .bl a,_=>by simp[mu,HZ]
 | .int a,_=>by simp[mu,HZ]
 | .str a,h=>by simpa[mu,HZ,nt,PyData.strOk]using h
 | .tup xs,h=>by simp only[nt]at h;simp only[mu,HZ];exact MT xs h
 | .lst xs,h=>by simp only[nt]at h;simp only[mu,HZ];exact MT xs h
 | .exc c n,h=>(D3 h).elim
 | .pk c n,h=>(D2 h).elim
 | .n4 c n,h=>(D1 h).elim
 | .ins c p t,h=>(D4 h).elim
theorem MT : ∀xs:List D,m3 xs=cI->LM (oC xs)=cI
 | [],_=>by simp[oC,LM]
 | x::xs,h=>by simp only[m3,Ex]at h;simp only[oC,LM];rw[NL x h.1,MT xs h.2];rfl
end
mutual
theorem Rj : ∀x:D,(mu x).depth=deep x
 | .ih=>by simp[mu,Ha,deep]
 | .bl a=>by simp[mu,Ha,deep]
 | .int a=>by simp[mu,Ha,deep]
 | .str a=>by simp[mu,Ha,deep]
 | .exc c n=>by simp[mu,Ha,deep]
 | .pk c n=>by simp[mu,Ha,deep]
 | .n4 c n=>by simp[mu,Ha,deep]
 | .ins c p t=>by simp[mu,Ha,deep]
 | .tup b=>by simp only[mu,Ha,deep];rw[Po b]
 | .lst b=>by simp only[mu,Ha,deep];rw[Po b]
theorem Po : ∀xs:List D,HL (oC xs)=DG xs
 | []=>by simp[oC,HL,DG]
 | x::xs=>by simp only[oC,HL,DG];rw[Rj x,Po xs]
end
theorem qa(h:l8 d=cI):nt d=cI:=by unfold l8 at h;rw[Ex]at h;exact h.2
theorem xy(h:l8 d=cI):SeqAt.shaped (mu d)=cI:=by unfold l8 at h;rw[Ex,decide_eq_true_eq]at h;unfold SeqAt.shaped;rw[NL d h.2,Hw,Rj];exact decide_eq_true ⋯
section
variable{X:Cx}{pins:MW}{σ:St}{H0 H:Hp}{s:gE}
mutual
theorem F5(I:Inv X pins σ H s)(sub:jn H0 H) : ∀{d:D} {v:V} {u:gv},nt d=cI->Rep X.K H0 d v->RelV v u->∃z,Reads s.heap u (mu d) z
 | .ih,v,u,_,h,r=>by cases (show v = .ih from h);cases r;exact⟨_,.none⟩
 | .bl b,v,u,_,h,r=>by cases (show v = .bl b from h);cases r;exact⟨_,.bool b⟩
 | .int i,v,u,_,h,r=>by cases (show v = .int i from h);obtain⟨t,rfl⟩:=r;exact⟨_,.int i t⟩
 | .str x,v,u,_,h,r=>by cases (show v = .str x from h);obtain⟨t,rfl⟩:=r;exact⟨_,.str x t⟩
 | .exc c n,v,u,o,_,_=>(D3 o).elim
 | .pk c n,v,u,o,_,_=>(D2 o).elim
 | .n4 c n,v,u,o,_,_=>(D1 o).elim
 | .ins c p t,v,u,o,_,_=>(D4 o).elim
 | .tup ds,v,u,o,h,r=>by obtain⟨a,e,rfl,f,g⟩:=(show ∃a e,v = .ref a/\l4 X.K H0 a e/\hF X.K H0 ds e from h);cases r;simp only[nt]at o;obtain⟨R,B,⟨U,O,j,n,l⟩,W⟩:=I.tuple<|xC sub f;obtain⟨z,m⟩:=NT I sub o g B;exact⟨z,.tuple O j l<|by simpa using m⟩
 | .lst ds,v,u,o,h,r=>by obtain⟨a,e,rfl,f,g⟩:=(show ∃a e,v = .ref a/\kv X.K H0 a e/\hF X.K H0 ds e from h);cases r;simp only[nt]at o;obtain⟨R,B,p,W⟩:=I.list<|sub.seq f;obtain⟨U,O,j,n,l⟩:=p.isList;obtain⟨z,m⟩:=NT I sub o g B;exact⟨_,.list O j l<|by simpa using m⟩
theorem NT(I:Inv X pins σ H s)(sub:jn H0 H) : ∀{G:List D} {xs:List V} {J:List gv},m3 G=cI->hF X.K H0 G xs->i4 xs J->∃z,ReadsAll s.heap J (oC G) z
 | [],xs,J,_,h,r=>by rw[h.Du]at r;cases r;exact⟨_,.nil⟩
 | d::G,xs,J,o,h,r=>by
  obtain⟨x,t,e,a,b⟩:=h.B8;subst e;simp only[m3,Ex]at o;cases r with
  | cons B O=>
   obtain⟨z,f⟩:=F5 I sub o.1 a B;obtain⟨bs,R⟩:=NT I sub o.2 b O;exact⟨_,.cons f R⟩
end
end
noncomputable def Bj(K:Es):R2:=λx y H Q=>∃a b z,jn a H/\Rep K a b x/\Rep K a z y/\l8 b=cI/\l8 z=cI/\Q (.bl<|lA b z) H
noncomputable def Bi(K:Es):R2:=λx y H Q=>∃a b z,jn a H/\Rep K a b x/\Rep K a z y/\l8 b=cI/\l8 z=cI/\Q (.bl<|!lA b z) H
theorem dC(O:X.A.units+64<Dt):l9 X (rp .Eq) (Bj X.K):=by intro a s g H x y v u Q I rx R h;obtain⟨d,e,f,sub,U,W,z,B,q⟩:=h;obtain⟨as,b⟩:=F5 I sub (qa z) U rx;obtain⟨bs,Y⟩:=F5 I sub (qa B) W R;exact eq_dataH b Y (xy z) (xy B) O ⟨.bl _,H,I,by rw[NC _ _ (qa z) (qa B)];rfl,q⟩
theorem dB(O:X.A.units+64<Dt):l9 X (rp .NotEq) (Bi X.K):=by intro a s g H x y v u Q I rx R h;obtain⟨d,e,f,sub,U,W,z,B,q⟩:=h;obtain⟨as,b⟩:=F5 I sub (qa z) U rx;obtain⟨bs,Y⟩:=F5 I sub (qa B) W R;exact ne_dataH b Y (xy z) (xy B) O ⟨.bl _,H,I,by rw[NC _ _ (qa z) (qa B)];rfl,q⟩
theorem Vb{K:Es}:q7 K (Bj K) i3:=λa H x y b B d Q s rx I z q=>by
 unfold i3 at z;split at z
 ·rename_i h;cases z;exact⟨a,b,B,s,rx,I,h.1,h.2,q _ H a (Ext.refl s) rfl⟩
 ·cases z
theorem Y8{K:Es}:q7 K (Bi K) n6:=λa H x y b B d Q s rx I z q=>by
 unfold n6 at z;split at z
 ·rename_i h;cases z;exact⟨a,b,B,s,rx,I,h.1,h.2,q _ H a (Ext.refl s) rfl⟩
 ·cases z
theorem SX.M5(h:SX X sc N T k):X.A.units+64<Dt:=by have:=h.room.un;omega
section
variable{X:Cx}{sc:i2}{N T:List Str}{k:Nat}{a b c:hH}{pos p:ik}{fa fb fc:CO D}
theorem Vm(G:PV X a fa)(z:PV X b fb):PV X (.BinOp a .Sub b pos) (zo cj fa fb):=Z5 nZ fG G z
theorem yX(G:PV X a fa)(z:PV X b fb):PV X (.BinOp a .FloorDiv b pos) (zo wQ fa fb):=Z5 gT fM G z
theorem ju(G:PV X a fa)(z:PV X b fb):PV X (.BinOp a .Mod b pos) (zo j8 fa fb):=Z5 oh fK G z
theorem Vn(G:PV X a fa)(z:PV X b fb):PV X (.BinOp a .Pow b pos) (zo ah fa fb):=Z5 og fH G z
theorem uv(G:PV X a fa)(z:PV X b fb):PV X (.Compare a [.Lt] [b] pos) (zo DF fa fb):=Z4 oi cV G z<|kZ b
theorem uw(G:PV X a fa)(z:PV X b fb):PV X (.Compare a [.LtE] [b] pos) (zo B2 fa fb):=Z4 VQ Qb G z<|kZ b
theorem ux(G:PV X a fa)(z:PV X b fb):PV X (.Compare a [.Gt] [b] pos) (zo wy fa fb):=Z4 oo cW G z<|kZ b
theorem nr(G:PV X a fa)(z:PV X b fb):PV X (.Compare a [.GtE] [b] pos) (zo A4 fa fb):=Z4 uG my G z<|kZ b
theorem Vr(h:SX X sc N T k)(G:PV X a fa)(z:PV X b fb):PV X (.Compare a [.Eq] [b] pos) (zo i3 fa fb):=Z4 (dC h.M5) Vb G z<|kZ b
theorem ur(h:SX X sc N T k)(G:PV X a fa)(z:PV X b fb):PV X (.Compare a [.NotEq] [b] pos) (zo n6 fa fb):=Z4 (dB h.M5) Y8 G z<|kZ b
theorem ny(G:PV X a fa)(z:PV X b fb):q5 X (.Compare a [.Lt] [b] pos) (sB<|zo DF fa fb):=Zi oi cV G z<|kZ b
theorem Vv(G:PV X a fa)(z:PV X b fb):q5 X (.Compare a [.Gt] [b] pos) (sB<|zo wy fa fb):=Zi oo cW G z<|kZ b
theorem jZ(h:SX X sc N T k)(G:PV X a fa)(z:PV X b fb):q5 X (.Compare a [.Eq] [b] pos) (sB<|zo i3 fa fb):=Zi (dC h.M5) Vb G z<|kZ b
theorem kX(h:SX X sc N T k)(G:PV X a fa)(z:PV X b fb):q5 X (.Compare a [.NotEq] [b] pos) (sB<|zo n6 fa fb):=Zi (dB h.M5) Y8 G z<|kZ b
theorem Xj{K:Es}{H:Hp}{d:D}(h:Rep K H d .ih):d = .ih:=by
 cases d with
 | ih=>rfl
 | bl b=>exact V.noConfusion (show V.ih = .bl b from h)
 | int b=>exact V.noConfusion (show V.ih = .int b from h)
 | str b=>exact V.noConfusion (show V.ih = .str b from h)
 | tup b=>obtain⟨a,f,e,_⟩:=h;cases e
 | lst b=>obtain⟨a,f,e,_⟩:=h;cases e
 | exc c n=>obtain⟨a,e,_⟩:=h;cases e
 | pk c n=>obtain⟨a,f,e,_⟩:=h;cases e
 | n4 c n=>obtain⟨a,f,e,_⟩:=h;cases e
 | ins c p t=>obtain⟨a,C,g,z,B,e,_⟩:=h;cases e
theorem fL{K:Es}:q7 K (λx y H Q=>y = .ih/\Q (.bl<|decide<|x = .ih) H) pE:=λa H x y b B d Q s rx I z q=>by
 cases B with
 | ih=>
  refine⟨I,?_⟩;cases b with
  | ih=>cases z;rw[show x=V.ih from rx];exact q _ H a (Ext.refl s) (by simp;rfl)
  | _=>
   cases z;refine q _ H a (Ext.refl s) ?_;have : ¬x=V.ih:=λe=>by rw[e]at rx;exact D.noConfusion<|Xj rx
   rw[decide_eq_false this];rfl
 | _=>cases b<;>cases z
theorem gA(G:PV X a fa)(z:PV X b fb):q5 X (.Compare a [.Is] [b] pos) (sB<|zo pE fa fb):=Zi oj fL G z<|kZ b
theorem vA{K:Es}{H:Hp}{G:List D}{v:V}(h:Rep K H (.tup G) v) : ∃a xs,v = .ref a/\l4 K H a xs/\hF K H G xs:=h
theorem Xy{K:Es}{H:Hp}{G:List D}{v:V}(h:Rep K H (.lst G) v) : ∃a xs,v = .ref a/\kv K H a xs/\hF K H G xs:=h
theorem xD{K:Es}{H:Hp}{G:List D}{a:eI}{xs:List V}(I:l4 K H a xs)(J:hF K H G xs):Rep K H (.tup G) (.ref a):=⟨a,xs,rfl,I,J⟩
theorem Xi{K:Es}{H:Hp}{G:List D}{a:eI}{xs:List V}(I:kv K H a xs)(J:hF K H G xs):Rep K H (.lst G) (.ref a):=⟨a,xs,rfl,I,J⟩
theorem fN{K:Es}:q7 K (λx y H Q=>A6 (λi j=> .int (i+j)) x y H Q\/dc K x y H Q) qC:=λg H x y o R d Q s rx I B q=>by
 cases o<;>cases R<;>simp[qC]at B
 ·subst B;exact .inl ⟨_,_,jP rx,jP I,q _ H g (Ext.refl s) rfl⟩
 ·rename_i n r
  obtain⟨t,rfl⟩:=B;obtain⟨a,u,rfl,l,f⟩:=vA rx;obtain⟨b,w,rfl,O,z⟩:=vA I;refine .inr ⟨a,b,u,w,rfl,rfl,xC s l,xC s O,k6 (by rw[f.length,z.length];exact t),λe=>?_,λe=>?_,λp m=>?_⟩
  ·have h:n=[]:=by
    have:=f.length;rw[e]at this;exact Fj this.symm
   subst h;exact q _ H g (Ext.refl s)<|xD O z
  ·have h:r=[]:=by
    have:=z.length;rw[e]at this;exact Fj this.symm
   subst h;exact q _ H g (Ext.refl s) (by rw[List.append_nil];exact xD l f)
  ·exact q _ _ _ (Ext.alloc s m _)<|xD (l4.of zt)<|(f.append z).mono (jl (js s m) _)
theorem jL(G:PV X a fa)(z:PV X b fb):PV X (.BinOp a .Add b pos) (zo qC fa fb):=Z5 (Sr.or bq) fN G z
end
theorem Jp(O:A.handled=cS)(k:Sk)(I z:eI)(R:z≠I)(B:Array gv) :
 Walks P w A I [I,z] [I] B.size (λi v=>B[i]? = aI v) (λi h=>r6 k h I z i/\u6 k h z B):=by
 cases k
 ·exact Walks.list O I z R B
 ·exact Walks.tuple O I z R B
theorem Zl(G:List Int) : ∀n,preSum (λi=>G.getD i 0) n=(G.take n).sum
 | 0=>by simp[preSum]
 | n+1=>by
  have z:=Zl G n;simp only[preSum,z];by_cases h:n<G.length
  ·rw[List.take_succ_eq_append_getElem h,List.sum_append]
   simp[h]
  ·rw[G3 ⋯,G3 ⋯]
   simp[h]
section
variable{X:Cx}{pins:MW}{σ:St}{H:Hp}{s:gE}
theorem WH(L:X.calm=cI):wA X (.builtin "sum") (λxs H Q=>∃p k J G,xs=[.ref p]/\rb k X.K H p J/\J=(G:List Int).map V.int/\Q (.int G.sum) H):=by
 intro pins s σ H y w Q I W h;obtain⟨p,k,J,G,rfl,j,rfl,q⟩:=h;obtain⟨u,rfl,B⟩:=kO W;cases B;obtain⟨z,r,a,n⟩:=I.sq j;have lt:=a.lt;have O:=r.length;rw[EE]at O;refine call_sum_walkG<|Qz a ⟨_,[_,p],[_],z.toArray.size,_,_,λi=>G.getD i 0,rfl,Jp (A:=X.A.in1) (I.ok.hd L) k _ p (ER lt) z.toArray,⟨QB k _ p,a.at λo e=>Ew _ e⟩,?_,?_,?_⟩
 ·intro b R
  rw[FT];simp only[ED,Fp,or_false]at R;rcases R with rfl | rfl
  ·exact Iy _
  ·exact Gc lt
 ·intro i v Y
  have U:z[i]? = aI v:=by simpa using Y
  have f:i<G.length:=by rw[O];exact(EL.mp U).1
  obtain⟨u,d,B⟩:=r.get (i:=i) (x:= .int G[i]) (by simp[f]);rw[U]at d;cases d;obtain⟨t,rfl⟩:=B;exact⟨t,by simp[f]⟩
 ·intro m l t' g
  have e:preSum (λi=>G.getD i 0) z.toArray.size=G.sum:=by rw[Zl,G3 (by rw[EM,O];exact EF _)]
  refine⟨.int G.sum,H,I.kept (t':=l)<|λb u e=>g b u ?_ (Ew _ e),⟨t',by rw[e]⟩,q⟩;simp only[ED,Fp,or_false];exact ER<|EH e
noncomputable def md:V->Option Bool
 | .ih=>aI dV
 | .bl b=>aI b
 | .int i=>aI (i != 0)
 | _=>cS
theorem Kc(r:RelV x u)(e:md x=aI b)(q:Q b s):wpAny (hA P w) A (truthy u) Q E s:=by
 cases x with
 | ih=>cases r;cases e;exact λ_ _ _=>q
 | bl c=>cases r;cases e;exact Gv q
 | int i=>obtain⟨t,rfl⟩:=r;cases e;exact PyProof.Rows.truthy_int q
 | _=>cases e
noncomputable def Ye:List V->Option (List Bool)
 | []=>aI []
 | x::r=>(md x).bind λb=>(Ye r).map λl=>b::l
theorem wZ : ∀{xs:List V} {bs:List Bool},Ye xs=aI bs->bs.length=xs.length/\∀(i:Nat) x,xs[i]? = aI x->md x=aI (bs.getD i dV)
 | [],bs,h=>by cases h;exact⟨rfl,λi x e=>by simp at e⟩
 | y::xs,bs,h=>by
  obtain⟨b,a,h⟩:=zc h;obtain⟨l,d,h⟩:=zA h;subst h;obtain⟨f,g⟩:=wZ d;refine⟨by simp[f],λi x e=>?_⟩;cases i with
  | zero=>simp at e;subst e;simpa using a
  | succ i=>simpa using g i x (by simpa using e)
theorem W2(bs:List Bool):(Ez bs.length).all (λi=>bs.getD i dV)=bs.all id:=by
 rw[Hr];simp only[EY,Fd,id_eq];constructor
 ·intro h b z
  obtain⟨i,a,e⟩:=List.mem_iff_getElem.mp z;have:=h i a;rw[Hy,Ey a]at this;rw[<- e];exact this
 ·intro h i a
  rw[Hy,Ey a];exact h _<|GQ a
theorem W0(bs:List Bool):(Ez bs.length).any (λi=>bs.getD i dV)=bs.any id:=by
 rw[Hr];simp only[Mp,Fd,id_eq];constructor
 ·rintro⟨i,a,h⟩
  rw[Hy,Ey a]at h;exact⟨_,GQ a,h⟩
 ·rintro⟨b,z,h⟩
  obtain⟨i,a,e⟩:=List.mem_iff_getElem.mp z;refine⟨i,a,?_⟩;rw[Hy,Ey a,Hb,e];exact h
theorem WM(J:X.calm=cI):wA X (.builtin "all") (λxs H Q=>∃p k G bs,xs=[.ref p]/\rb k X.K H p G/\Ye G=aI bs/\Q (.bl (bs.all id)) H):=by
 intro pins s σ H M L Q I U h;obtain⟨p,k,G,bs,rfl,m,W,q⟩:=h;obtain⟨u,rfl,B⟩:=kO U;cases B;obtain⟨z,r,a,E⟩:=I.sq m;have lt:=a.lt;have O:=r.length;obtain⟨Y,g⟩:=wZ W;refine call_all_walk<|Qz a ⟨_,[_,p],[_],z.toArray.size,_,_,λi=>bs.getD i dV,rfl,Jp (A:=X.A.in1) (I.ok.hd J) k _ p (ER lt) z.toArray,⟨QB k _ p,a.at λo e=>Ew _ e⟩,?_,?_⟩
 ·intro i v F y w n j
  have R:z[i]? = aI v:=by simpa using n
  have f:i<G.length:=by rw[O];exact(EL.mp R).1
  obtain⟨u,d,B⟩:=r.get (i:=i) (x:=G[i]) (by simp[f]);rw[R]at d;cases d;exact Kc B (g i G[i] (by simp[f])) j
 ·intro C t l
  have e:(Ez z.toArray.size).all (λi=>bs.getD i dV)=bs.all id:=by rw[EM,<- O,<- Y];exact W2 bs
  refine⟨.bl<|bs.all id,H,I.kept (t':=t)<|λb u e=>l b u ?_ (Ew _ e),by rw[e];rfl,q⟩;simp only[ED,Fp,or_false];exact ER<|EH e
theorem WL(J:X.calm=cI):wA X (.builtin "any") (λxs H Q=>∃p k G bs,xs=[.ref p]/\rb k X.K H p G/\Ye G=aI bs/\Q (.bl (bs.any id)) H):=by
 intro pins s σ H M L Q I U h;obtain⟨p,k,G,bs,rfl,m,W,q⟩:=h;obtain⟨u,rfl,B⟩:=kO U;cases B;obtain⟨z,r,a,E⟩:=I.sq m;have lt:=a.lt;have O:=r.length;obtain⟨Y,g⟩:=wZ W;refine call_any_walk<|Qz a ⟨_,[_,p],[_],z.toArray.size,_,_,λi=>bs.getD i dV,rfl,Jp (A:=X.A.in1) (I.ok.hd J) k _ p (ER lt) z.toArray,⟨QB k _ p,a.at λo e=>Ew _ e⟩,?_,?_⟩
 ·intro i v F y w n j
  have R:z[i]? = aI v:=by simpa using n
  have f:i<G.length:=by rw[O];exact(EL.mp R).1
  obtain⟨u,d,B⟩:=r.get (i:=i) (x:=G[i]) (by simp[f]);rw[R]at d;cases d;exact Kc B (g i G[i] (by simp[f])) j
 ·intro C t l
  have e:(Ez z.toArray.size).any (λi=>bs.getD i dV)=bs.any id:=by rw[EM,<- O,<- Y];exact W0 bs
  refine⟨.bl<|bs.any id,H,I.kept (t':=t)<|λb u e=>l b u ?_ (Ew _ e),by rw[e];rfl,q⟩;simp only[ED,Fp,or_false];exact ER<|EH e
end
section
variable{X:Cx}{sc:i2}{N T:List Str}{k:Nat}{e a b c:hH}{pos p p2:ik}{f g:CO D}{fq:CO (Sk×List D)}
theorem tN{K:Es}{H:Hp}{k:Sk}{a:eI}{xs:List V}(h:rb k K H a xs):kv K H a xs\/l4 K H a xs:=by
 cases k
 ·exact .inl h
 ·exact .inr h
theorem jH(h:SX X sc N T k)(c:qN sc "len" = cI)(z:X.mg "len" = cS)(G:PQ X e fq)(hs:i0 [e] X.env=[(dV,hX e X.env)]:=by rfl):PV X (.Call (.Name "len" p) [e] [] pos) (qO fq):=
 jw (yi QP (h.gl c).1 z PySem.boot_len (jk G j9 hs) ⋯ ⋯ hs rfl) λu H Q B=>by obtain⟨j,s,d,rc,I,q⟩:=B;obtain⟨⟨o,f⟩,l,m⟩:=zA I;subst m;refine⟨j,s,o,f,rc,l,λa g i b ext n t r=>⟨a,g,rfl,tN n,?_⟩⟩;exact q _ i b ext (show V.int g.length = .int f.length by rw[r.length])
theorem qw(h:SX X sc N T k)(c:qN sc "tuple" = cI)(z:X.mg "tuple" = cS)(G:PQ X e fq)(hs:i0 [e] X.env=[(dV,hX e X.env)]:=by rfl):PV X (.Call (.Name "tuple" p) [e] [] pos) (jg fq):=
 jw (yZ JU (h.gl c).1 z IG (jk G j9 hs) ⋯ ⋯ hs rfl) λx H Q B=>by
  obtain⟨m,w,d,rc,I,q⟩:=B;obtain⟨⟨i,n⟩,o,s⟩:=zA I;subst s;refine⟨m,w,i,n,rc,o,λa u j b ext f t r=>⟨a,u,rfl,?_⟩⟩;cases i with
  | L=>exact .inl ⟨f,λl g=>q _ _ _ (ext.trans<|Ext.alloc ext.sub g _)<|xD (l4.of zt)<|r.mono<|jl (js ext.sub g) _⟩
  | T=>exact .inr ⟨f,q _ j b ext (xD (t rfl) r)⟩
theorem kY{H G:Hp}(s:jn H G){a:eI}(h:G a=cS):H a=cS:=by
 cases z:H a with
 | none=>rfl
 | some o=>rw[s a o z]at h;cases h
theorem J8 : ∀{H:List D} {n:Int},mr H=aI n->∃G:List Int,H=G.map D.int/\n=G.sum
 | [],n,h=>by cases h;exact⟨[],rfl,rfl⟩
 | d::H,n,h=>by
  cases d with
  | int i=>
   obtain⟨s,e,h⟩:=zA h;obtain⟨G,rfl,rfl⟩:=J8 e;exact⟨i::G,rfl,by rw[<- h];simp⟩
  | _=>cases h
theorem Qk{K:Es}{H:Hp} : ∀{G:List Int} {xs:List V},hF K H (G.map D.int) xs->xs=G.map V.int
 | [],xs,h=>h.Du
 | z::G,xs,h=>by obtain⟨x,r,e,a,b⟩:=hF.B8 h;rw[e,jP a,Qk b];rfl
theorem dg(h:SX X sc N T k)(c:qN sc "sum" = cI)(z:X.mg "sum" = cS)(G:PQ X e fq)(hs:i0 [e] X.env=[(dV,hX e X.env)]:=by rfl):PV X (.Call (.Name "sum" p) [e] [] pos) (fQ fq):=
 jw (yi (WH h.calm) (h.gl c).1 z PyProof.Rows.boot_sum (jk G j9 hs) ⋯ ⋯ hs rfl) λx H Q O=>by obtain⟨j,u,d,rc,B,q⟩:=O;obtain⟨⟨f,l⟩,m,B⟩:=zc B;obtain⟨n,o,R⟩:=zA B;subst R;obtain⟨g,I,rfl⟩:=J8 o;have I:l=g.map D.int:=I;subst I;exact⟨j,u,f,_,rc,m,λa t i b ext s w r=>⟨a,f,t,g,rfl,s,Qk r,q _ i b ext rfl⟩⟩
theorem fz{K:Es}{H:Hp}{d:D}{x:V}{b:Bool}(h:Rep K H d x)(e:ti d=aI b):md x=aI b:=by
 cases d with
 | ih=>cases (show x = .ih from h);exact e
 | bl c=>cases (show x = .bl c from h);exact e
 | int i=>cases (show x = .int i from h);exact e
 | _=>cases e
theorem Jr{K:Es}{H:Hp} : ∀{G:List D} {xs:List V} {bs:List Bool},hF K H G xs->yo G=aI bs->Ye xs=aI bs
 | [],xs,bs,h,e=>by rw[h.Du];exact e
 | d::G,xs,bs,h,e=>by obtain⟨x,r,z,g,i⟩:=h.B8;obtain⟨b,a,e⟩:=zc e;obtain⟨l,f,e⟩:=zA e;subst z e;show(md x).bind _=_;rw[fz g a];show((Ye r).map λl=>b::l)=_;rw[Jr i f];rfl
theorem kK(h:SX X sc N T k)(c:qN sc "all" = cI)(z:X.mg "all" = cS)(G:PQ X e fq)(hs:i0 [e] X.env=[(dV,hX e X.env)]:=by rfl):PV X (.Call (.Name "all" p) [e] [] pos) (ZN fq):=
 jw (yi (WM h.calm) (h.gl c).1 z PyProof.Rows.boot_all (jk G j9 hs) ⋯ ⋯ hs rfl) λu H Q I=>by obtain⟨i,o,d,rc,B,q⟩:=I;obtain⟨⟨f,s⟩,j,B⟩:=zc B;obtain⟨bs,l,O⟩:=zA B;subst O;exact⟨i,o,f,_,rc,j,λa n g b ext m t r=>⟨a,f,n,bs,rfl,m,Jr r l,q _ g b ext rfl⟩⟩
theorem Vt(h:SX X sc N T k)(c:qN sc "any" = cI)(z:X.mg "any" = cS)(G:PQ X e fq)(hs:i0 [e] X.env=[(dV,hX e X.env)]:=by rfl):PV X (.Call (.Name "any" p) [e] [] pos) (W7 fq):=
 jw (yi (WL h.calm) (h.gl c).1 z PyProof.Rows.boot_any (jk G j9 hs) ⋯ ⋯ hs rfl) λu H Q I=>by obtain⟨i,o,d,rc,B,q⟩:=I;obtain⟨⟨f,s⟩,j,B⟩:=zc B;obtain⟨bs,l,O⟩:=zA B;subst O;exact⟨i,o,f,_,rc,j,λa n g b ext m t r=>⟨a,f,n,bs,rfl,m,Jr r l,q _ g b ext rfl⟩⟩
theorem gp(h:SX X sc N T k)(c:qN sc "int" = cI)(z:X.mg "int" = cS)(O:PV X e f)(hs:i0 [e] X.env=[(dV,hX e X.env)]:=by rfl):PV X (.Call (.Name "int" p) [e] [] pos) (Vh f):=
 jw (yZ WK (h.gl c).1 z IT (jk O j9 hs) ⋯ ⋯ hs rfl) λn H Q R=>by
  obtain⟨j,m,d,rc,B,q⟩:=R;obtain⟨I,l,B⟩:=zc B;refine⟨j,m,I,rc,l,λv g a ext r=>?_⟩;cases I with
  | int i=>cases B;exact .inl ⟨i,by rw[jP r],q _ g a ext rfl⟩
  | bl b=>cases B;exact .inr ⟨b,by rw[show v = .bl b from r],q _ g a ext rfl⟩
  | _=>cases B
theorem nk(h:SX X sc N T k)(c:qN sc "max" = cI)(z:X.mg "max" = cS)(G:PV X a f)(U:PV X b g)(hs:i0 [a,b] X.env=[(dV,hX a X.env),(dV,hX b X.env)]:=by rfl)(I:i0 [b] X.env=[(dV,hX b X.env)]:=by rfl) :
 PV X (.Call (.Name "max" p) [a,b] [] pos) (fS f g):=
 jw (yi (WI h.calm) (h.gl c).1 z PyProof.Rows.boot_max (jk G (jk U j9 I)<|by rw[hs,I]) ⋯ ⋯ (by rw[hs,I]) (by rw[I];rfl)) λE H Q W=>by obtain⟨n,m,d,rc,B,q⟩:=W;obtain⟨i,l,B⟩:=zc B;obtain⟨Y,u,l⟩:=zc l;obtain⟨j,O,B⟩:=zA B;obtain⟨t,w,O⟩:=zc O;subst B;refine⟨n,m,Y,rc,u,λv A e x r=>⟨e,m,t,rc.ext x,w,λC o s y R=>⟨i,j,?_,q _ o s (x.trans y) rfl⟩⟩⟩;rw[j7 l]at r;rw[j7 O]at R;rw[jP r,jP R]
end
end DL
namespace DL
open PySem PySem.Spec PySem.Calls PyProof.Rows PySem.W PySem.Builtin PySem.Builtin.ObjectAttr PySem.Builtin.Getset_descriptor
section
variable{prog:i8}{w:i5}{A:l7}{E:MQ}{s:gE}{K:Frag}{x C:eI}
theorem yk(x:Jk h a C):DD M h (N6<|.ref a) (.ref C):=by obtain⟨o,e,z,b,d⟩:=x;exact b ▸ (Looks.ld z).andThen .now
structure G7(K:Frag)(C:eI):Prop where
 ga:K3 K (.ref C) "__getattribute__" = aI (aI (.builtin "BaseException.__getattribute__"))
 gn:K3 K (.ref C) "__getattr__" = aI cS
 ca:K3 K (.ref C) "__class__" = aI (aI (.builtin "object.__class__"))
 gt:specialIn K (.builtin "object.__class__") "__get__" = aI (aI (.builtin "getset_descriptor.__get__"))
 tk:takesIn K (.builtin "object.__class__")=aI cI
 mo:mroIn K C (.type "object")=aI cI
 mb:mroIn K C (.type "BaseException")=aI cI
theorem bR(X:K.In h)(G:G7 K C):DD M h (find (.ref x) (.ref C) "__class__") (.bind (.builtin "getset_descriptor.__get__") (.builtin "object.__class__")):=by have z:=L3 (M:=M) X G.ca;have B:DD M h (getOf (aI (.builtin "object.__class__"))) (aI (.builtin "getset_descriptor.__get__")):=looks_specialIn X G.gt;have I:=looks_takesIn (M:=M) X G.tk;have O:DD M h (dataDescriptor? (aI (.builtin "object.__class__")) (aI (.builtin "getset_descriptor.__get__"))) (aI (.builtin "getset_descriptor.__get__",.builtin "object.__class__")):=I.andThen .now;exact z.andThen (B.andThen (O.andThen (Looks.tag .now)))
theorem bT(X:K.In s.heap)(I:Jk s.heap x C)(G:G7 K C)(h:R (.ok<|.ret<|.ref C) s) :
 codeAny (hA prog w) A (.call (.builtin "getset_descriptor.__get__") ⟨[.builtin "object.__class__",.ref x,tp],[]⟩) R s:=by
 obtain⟨a,g0,z,B,O⟩:=s;have U:=yk (M:=hA prog w) I;have W:=Rp (M:=hA prog w) X G.mo;refine HG KF.slot_gs.plain KF.entry_gs<|KF.slot_gs.check _ _ _ _ _ _ _ _ KF.type_class (KF.args_gs _ _ _) ?_;unfold Builtin.«getset_descriptor.__get__» descrGet;rw[dga_obj];refine Eu<|EB ?_;unfold descrGetter descrCheckInstance descrNameAndClass NF;simp only[KF.owner_class]
 repeat lk
 refine And.intro (LP _ ⋯)<|codeAny_builtin KF.entry_class ?_;unfold Builtin.«object.__class__» shownTypeOf
 repeat lk
 exact h
theorem QM(X:K.In s.heap)(I:Jk s.heap x C)(G:G7 K C)(H:Q () s):wpAny M A (Pm "BaseException.__getattribute__" ⟨[.ref x,Sm],[]⟩) Q E s:=by
 obtain⟨d,g0,R,U,W⟩:=s;have z:=yk (M:=M) I;have B:=Rp (M:=M) X G.mb;have b:builtinKind "BaseException.__getattribute__" = aI .slot:=by decide +kernel
 have O:splitId "BaseException.__getattribute__" = aI ("BaseException","__getattribute__"):=by decide +kernel
 have a:=PySem.F.args_bexc_ga (.ref x) Sm;simp only[Pm,b,O];refine Eu (show wpAny _ _ (NF (.ref x) (.type "BaseException")) _ _ _ from ?_);refine(z.andThen B).at ?_;rw[RQ ⋯];unfold argsOk at a;cases hs:Manifest.signature? "BaseException.__getattribute__" with
 | none=>exact EB H
 | some Y=>
  rw[hs]at a;exact Ir a H
theorem Wo(X:K.In s.heap)(I:Jk s.heap x C)(G:G7 K C)(h:Q (aI (.ref C)) {s with toks:=s.toks+1}):wpAny (hA prog w) A (getAttr? (.ref x) "__class__") Q E s:=by obtain⟨a,g0,z,O,R⟩:=s;have U:=yk (M:=hA prog w) I;have W:=L3 (M:=hA prog w) X G.ga;have b:=L3 (M:=hA prog w) X G.gn;have Y:=bR (M:=hA prog w) (x:=x) X G;have B:=HI.ga.bind (.ref x);unfold getAttr? getAttrBy? getAttrBy;refine Eu (wpAny_mkText (Eu (IQ (Fz (Eu (U.at (Eu (W.at ?_))))))));show wpAny _ _ (Pt _ _ _ _ _ _) _ _ _;unfold Pt;refine Eu (b.at ?_);refine Eu (IQ (Fz ?_));show wpAny _ _ (Nr (.builtin "BaseException.__getattribute__") (.ref x) _) _ _ _;unfold Nr;refine Eu (Ir B ?_);refine Iu (HG HI.ga.plain PySem.F.entry_bexc_ga (QM (s:=⟨a,g0,z,O+1,R⟩) X I G ?_));refine Eu (EB ?_);refine Eu (EB ?_);refine Eu (U.at (Eu (Y.at ?_)));show wpAny _ _ (bindTo _ _ _ _) _ _ _;unfold bindTo;refine Eu (Fz (Iu (bT (s:=⟨a,g0,z,O+1,R⟩) X I G ?_)));refine EB ?_;exact EB (EB h)
theorem Jm(h:ao K C=cI):G7 K C:=by unfold ao at h;simp only[Ex,beq_iff_eq]at h;exact⟨h.1.1.1.1.1.1.1.1.2,h.1.1.1.1.1.1.1.2,h.1.1.1.1.1.1.2,h.1.1.1.2,h.1.1.2,h.1.1.1.1.1.2,h.1.1.1.1.2⟩
theorem JI(G:G7 K C)(hc:(E9 K C).isSome=cI):KitX K (.ref x) (.ref C) (λh=>Jk h x C) where
 ty:=λ_ _ _ I=>yk I
 it:=λ_ _ X _=>by
  obtain⟨cd,B⟩:=FE.mp hc;unfold E9 at B;split at B
  ·rename_i R d' U W O
   intro A' Q' E' s' k q;unfold OD loadHead;exact Eu<|wpAny_loadPart (k _ _<|X _ _ O)<|EB q
  ·cases B
 ne:=λh tp dd a3 n sl X Y=>by
  obtain⟨cd,B⟩:=FE.mp hc;refine Bool.eq_false_iff.mpr λq=>?_;have e:C=tp:=Lq<|beq_iff_eq.mp q;subst e;unfold E9 at B;split at B
  ·rename_i R d' U W O
   have z:=(X _ _ O).symm.trans Y;cases z
  ·cases B
 ca:=λX I k=>Wo X I G k
theorem Q3(h:ao K C=cI):(E9 K C).isSome=cI:=by
 unfold ao at h;simp only[Ex]at h;have:=h.1.2;cases q:E9 K C with
 | none=>rw[q]at this;cases this
 | some a=>rfl
end
end DL
namespace DL
open PySem PySem.Spec PyProof.Rows L2
section
variable{X:Cx}{sc:i2}{N T:List Str}{k:Nat}{e a b c:hH}{pos p p2:ik}{f g:CO D}{fq:CO (Sk×List D)}
theorem dZ(h:m7 n i=aI j):MS n i=aI j:=by
 unfold m7 at h;unfold MS;split at h
 ·rename_i a;rw[MY a.1,MY a.2];exact h
 ·split at h
  ·rename_i a b;rw[RQ ⋯,MY ⋯];exact h
  ·cases h
theorem zP(G:PQ X a fq)(U:PV X b g)(hs:X5 b:=by intro _ _;rfl):PV X (.Subscript a b pos) (gC fq g):=
 jw (nR (Sh.or pb) G U hs) λK H Q W=>by
  obtain⟨o,n,d,rc,z,q⟩:=W;obtain⟨⟨m,u⟩,w,z⟩:=zc z;obtain⟨i,f,z⟩:=zc z;obtain⟨Y,y,f⟩:=zc f;obtain⟨j,A,z⟩:=zc z;refine⟨o,n,m,u,rc,w,λp h E e ext l F r=>⟨e,n,Y,rc.ext ext,y,λJ s t B I=>?_⟩⟩;rw[j7 f]at I;obtain⟨x,C,rx⟩:=r.get z;have O:E5 h i=aI x:=by unfold E5;rw[r.length,dZ A];exact C
  have R:=q x s t (ext.trans B)<|rx.mono B.s0;cases m with
  | L=>exact .inl ⟨p,h,i,x,rfl,jP I,B.s1.seq l,O,R⟩
  | T=>exact .inr ⟨p,h,i,x,rfl,jP I,xC B.s1 l,O,R⟩
theorem vQ{P:i8}{w:i5}{A:l7}{E:MQ}{s:gE}{t G:eI}{z:Array gv}{I O:gv}{lo hi:Option Int}{Q:MQ}(B:Nd s.heap t z)(hs:s.heap.IsSliceOf G I O .none)(J:DO I lo)(R:DO O hi)
 (H:HT.gC z.size 0 lo=0/\HT.gC z.size z.size hi=z.size) (h:Q (.ref t) s):wpAny (hA P w) A (DW (.ref t)<|.ref G) Q E s:=by
 obtain⟨os,U,W,b⟩:=id hs;have Y:s.TypeIs (.ref G) "slice":=⟨os,U,W⟩;unfold DW
 try with_reducible refine Fz ?_
 first | refine Eu (EB ?_) | skip
 refine Eu (S4 B.typeIs ⋯ ?_);refine Eu (GI (name:=FD "__getitem__") B.typeIs FF
  (Hi FF B.typeIs entry_tuple_getitem ?_ (RX _ _)))
 show wpAny _ _ (Builtin.Tuple.tupleItemsOf (.ref t) >>= _) _ _ s;refine Eu<|Lp B ?_;refine Eu<|LD Y ?_;rw[MY ⋯];refine Eu<|HT.wm hs J R ?_;have a:(((HT.gC z.size 0 lo:Nat):Int)==0 && (1:Int)==1 && (HT.gC z.size z.size hi - HT.gC z.size 0 lo)==z.size)=cI:=by rw[H.1,H.2];simp
 show wpAny _ _ (if (((HT.gC z.size 0 lo:Nat):Int)==0 && (1:Int)==1 && (HT.gC z.size z.size hi - HT.gC z.size 0 lo)==z.size)=cI then _ else _) _ _ s;rw[MY a];refine Eu (m:=Hf _) ?_;unfold Hf;refine Eu<|LD B.typeIs<|EB ?_;rw[MY ⋯];exact Eu<|Mu<|EB ⟨_,rfl,EB h⟩
noncomputable def ui(K:Es):V->Option Int->Option Int->Hp->VK->Prop:=λx lo d H Q=>∃a b,x = .ref a/\l4 K H a b/\(HT.gC b.length 0 lo=0/\HT.gC b.length b.length d=b.length->Q (.ref a) H)/\∀p,H p=cS->Q (.ref p) (upd H p<|.tup<|cu b lo d)
theorem fO:Nk X (ui X.K):=by
 intro d s n H x v O R lo f m Q I rx g j z h;obtain⟨a,b,rfl,i,U,W⟩:=h;by_cases e:HT.gC b.length 0 lo=0/\HT.gC b.length b.length f=b.length
 ·cases rx
  obtain⟨Y,r,B,o⟩:=I.tuple i;have l:Y.toArray.size=b.length:=by rw[EM];exact r.length.symm
  refine⟨"tuple",_,FF.lookup,B.typeIs,?_⟩;exact vQ B g j z (by rw[l];exact e) ⟨.ref a,H,I,rfl,U e⟩
 ·exact mz d s n H (.ref a) v O R lo f m Q I rx g j z ⟨a,b,rfl,i,e,W⟩
theorem wR(n d:Nat)(o:Option Int):XR n d o=HT.gC n d o:=by cases o<;>rfl
theorem Kl{K:Es}{H:Hp}{G:List D}{xs:List V}(r:hF K H G xs)(lo hi:Option Int):hF K H (KL G lo hi) (cu xs lo hi):=by unfold KL cu;rw[<- wR,<- wR,r.length];exact(r.drop _).take _
theorem Wz{G:List D}{lo hi:Option Int}(h:HT.gC G.length 0 lo=0/\HT.gC G.length G.length hi=G.length):KL G lo hi=G:=by unfold KL;rw[wR,wR,h.1,h.2];simp
noncomputable def tB(K:Es)(f:CO (Option Int)):TO:=λg H Q=>∃d e o,RC K d H g e/\f e=aI o/\∀b a,Ext d H a b->Q o b
theorem jq:L2.PO X cS (tB X.K qT):=λa s d H Q I ⟨b,e,o,rc,z,q⟩=>gM a s d H Q I (by cases z;exact q H b<|Ext.refl rc.sub)
theorem zO(h:PV X e f):L2.PO X (aI e) (tB X.K<|ir f):=λa s p H Q I ⟨l,n,o,rc,z,q⟩=>gL h a s p H Q I (by
 obtain⟨i,g,m⟩:=zA z;obtain⟨d,B,g⟩:=zc g;subst m;refine⟨l,n,d,rc,B,λv j b x r=>?_⟩;rw[j7 g]at r;exact⟨i,jP r,q j b x⟩)
theorem dh{lo hi:Option hH}{I O:CO (Option Int)}(G:PV X a f)(J:L2.PO X lo (tB X.K I))(W:L2.PO X hi (tB X.K O)):PV X (.Subscript a (.Slice lo hi cS p2) pos) (tY f I O):=
 jw (JD fO G J W) λN H Q Y=>by
  obtain⟨m,g,d,rc,z,q⟩:=Y;obtain⟨R,y,z⟩:=zc z;obtain⟨l,A,z⟩:=zc z;obtain⟨u,C,z⟩:=zc z;refine⟨m,g,R,rc,y,λv F b x r=>⟨b,g,l,rc.ext x,A,λL s B=>⟨s,g,u,(rc.ext x).ext B,C,λn t x3=>?_⟩⟩⟩;have U:=x.trans<|B.trans x3;cases R with
  | tup M=>
   cases z;obtain⟨o,E,rfl,h,e⟩:=vA<|r.mono (B.trans x3).s0;have w:=e.length;refine⟨o,E,rfl,xC x3.sub h,λj=>?_,λp i=>?_⟩
   ·rw[w]at j
    exact q _ n t U (by rw[Wz j];exact xD h e)
   ·exact q _ _ _ (U.trans<|Ext.alloc x3.sub i _)<|xD (l4.of zt)<|(Kl e _ _).mono (jl (js x3.sub i) _)
  | _=>cases z
theorem Kk{K:Es}{H:Hp}{G:List D}{xs:List V}(r:hF K H G xs) : ∀n:Nat,hF K H (EC n G).flatten (EC n xs).flatten
 | 0=>hF.nil
 | n+1=>by rw[GH,GH,Hu,Hu];exact r.append<|Kk r n
theorem yy(G:PQ X a fq)(W:PQ X b gq):PO X (.BinOp a .Add b pos) (yU fq gq):=
 jw (gQ br G W) λF H Q Y=>by
  obtain⟨j,i,A,rc,z,q⟩:=Y;obtain⟨⟨u,I⟩,o,z⟩:=zc z;obtain⟨⟨w,O⟩,r,z⟩:=zc z;cases u<;>cases w<;>try (simp at z;done)
  dsimp only at z;by_cases e:I.length+O.length<=lim
  ·rw[MY e]at z;cases z
   refine⟨j,i,.L,I,rc,o,λl g x d x1 s C R=>⟨d,i,.L,O,rc.ext x1,r,λm h y n B t E U=>⟨l,m,g,h,rfl,rfl,B.s1.seq s,t,k6 (by rw[R.length,U.length];exact e),λp f=>?_⟩⟩⟩;exact q p (g++h) _ n (x1.trans<|B.trans<|Ext.hide B.sub f _) (kY (x1.trans B).s1 f) (js B.sub f) zt<|(R.mono B.s0).append U
  ·rw[RQ e]at z;cases z
theorem oQ{K:Es}{t c:String}{b:Bool}(h:(if ((HF t) == .type c)=cI then aI cI else if PySem.W.kitMeta c=cI then (fastBuiltinMro t).map (·.contains (.type c))else cS)=aI b):Fw K (.type t) (.type c)=aI b:=h
noncomputable def M4:Ty->String
 | .int=>"int"
 | .bool=>"bool"
 | .str=>"str"
 | .tuple=>"tuple"
 | .list=>"list"
noncomputable def oR:D->String
 | .ih=>"NoneType"
 | .bl _=>"bool"
 | .int _=>"int"
 | .str _=>"str"
 | .tup _=>"tuple"
 | .lst _=>"list"
 | .exc _ _=>""
 | .pk _ _=>"dict"
 | .n4 _ _=>"dict"
 | .ins _ _ _=>""
theorem xk{K:Es}(T:Ty)(d:D)(hx : ∀c n,d ≠ .exc c n)(hi : ∀c p t,d ≠ .ins c p t:=by intro _ _ _ z;exact nomatch z):Fw K (.type<|oR d) (.type<|M4 T)=aI (ZI T d):=by cases d<;>cases T<;>first | exact absurd rfl (hx _ _) | exact absurd rfl (hi _ _ _) | (dsimp only[oR,M4,ZI,eB,pe,et,eo,eA];exact oQ ⋯)
theorem iA{K:Es}{C:eI}(b:QF K C=cI):N9 K C:=by unfold QF at b;simp only[Ex,beq_iff_eq]at b;exact⟨b.1,b.2.1,b.2.2.1,b.2.2.2.1⟩
theorem eD{K:Es}{H:Hp}{a C G:eI}{fs:List (Str×V)}(b:QF K C=cI)(e:H a=aI (.ins C G fs)):C3 K H (.ref a) (.ref C):=by have c:=iA b;unfold QF at b;simp only[Ex,beq_iff_eq]at b;obtain⟨_,_,_,_,b5,b6,b7,b8,_⟩:=b;exact .ins e c b5 b6 b7 b8
theorem XM{K:Es}{C:eI}{c:Str}{p t:D}(b:QF K C=cI)(T:Ty):Fw K (.ref C) (.type<|M4 T)=aI (ZI T<|.ins c p t):=by
 unfold QF at b;simp only[Ex,beq_iff_eq,Hv,List.all_nil]at b;obtain⟨_,_,_,_,_,_,_,_,b1,b2,b3,b4,b5,_⟩:=b;cases T
 ·exact b1
 ·exact b2
 ·exact b3
 ·exact b4
 ·exact b5
theorem bJ{G:MW}{σ:St}{H0 H:Hp}{s:gE}{A:l7}{E:MQ}{Q:MQ}{d:D}{x:V}{u:gv}(I:Inv X G σ H s)(sub:jn H0 H)(rx:RelV x u)(r:Rep X.K H0 d x)(T:Ty)
 (h : ∀Z,Q (.bool (ZI T d)) {s with toks:=Z}):wpAny (hA X.prog X.w) A (call (.builtin "isinstance") [u,.type (M4 T)]) Q E s:=by
 cases d with
 | ih=>have e:=xk (K:=X.K) T .ih<|λ_ _ z=>nomatch z;cases (show x = .ih from r);cases (show u=Gk from rx);exact EZ LI I.i9 Ga e (λz=>nomatch z) h
 | bl y=>have e:=xk (K:=X.K) T (.bl y)<|λ_ _ z=>nomatch z;cases (show x = .bl y from r);cases (show u=La y from rx);exact EZ LJ I.i9 Ga e (λz=>nomatch z) h
 | int i=>have e:=xk (K:=X.K) T (.int i)<|λ_ _ z=>nomatch z;cases (show x = .int i from r);obtain⟨t,q⟩:=(show ∃t,u=IB i t from rx);cases q;exact EZ LY I.i9 Ga e (λz=>nomatch z) h
 | str y=>have e:=xk (K:=X.K) T (.str y)<|λ_ _ z=>nomatch z;cases (show x = .str y from r);obtain⟨t,q⟩:=(show ∃t,u=Ln y t from rx);cases q;exact EZ LX I.i9 Ga e (λz=>nomatch z) h
 | tup m=>
  have e:=xk (K:=X.K) T (.tup m)<|λ_ _ z=>nomatch z;obtain⟨a,f,rfl,b,g⟩:=vA r;cases (show u=EO a from rx);obtain⟨W,Y,⟨o,B,F,_⟩,M⟩:=I.tuple<|xC sub b;exact EZ Lu I.i9 ⟨o,B,F⟩ e (λz=>nomatch z) h
 | lst m=>
  have e:=xk (K:=X.K) T (.lst m)<|λ_ _ z=>nomatch z;obtain⟨a,f,rfl,b,g⟩:=Xy r;cases (show u=EO a from rx);obtain⟨W,Y,p,M⟩:=I.list<|sub.seq b;obtain⟨o,B,F,_⟩:=p.isList;exact EZ O4 I.i9 ⟨o,B,F⟩ e (λz=>nomatch z) h
 | exc c n=>
  obtain⟨a,rfl,O⟩:=(show ∃a,x = .ref a/\B1 X.K H0 c n a from r);cases (show u=EO a from rx);obtain⟨C,P,g1,g2,g3,_⟩:=O.ex;obtain⟨S,_,x1,_,_⟩:=yE O.all O.mem g1;obtain⟨p,_,_⟩:=(show l6 X.prog X.w H s.heap a (.ext P)from I.h8 a _<|sub _ _ g2);have e:Fw X.K (.ref C) (.type<|M4 T)=aI (ZI T<|.exc c n):=by
   unfold ao at x1;simp only[Ex,Hv,List.all_nil,beq_iff_eq]at x1;have t:=x1.1.1.1.1.1.1.1.1.1.1;cases T
   ·exact t.1
   ·exact t.2.1
   ·exact t.2.2.1
   ·exact t.2.2.2.1
   ·exact t.2.2.2.2.1
  exact EZ (JI (Jm x1)<|Q3 x1) I.i9 (g3 _ p) e (λz=>nomatch z) h
 | pk j l=>
  have e:=xk (K:=X.K) T (.pk j l)<|λ_ _ z=>nomatch z;obtain⟨a,f,rfl,⟨N,_,_,o,b⟩,_⟩:=(show ∃a f,x = .ref a/\Nb H0 a j f/\hF X.K H0 l f from r);cases (show u=EO a from rx);obtain⟨_,_,_,_,_,L⟩:=(show l6 X.prog X.w H s.heap a (.xA o<|.dK<|N.zip f)from I.h8 a _<|sub _ _ b);exact EZ Hk I.i9 L.typeIs e (λz=>nomatch z) h
 | n4 j l=>
  have e:=xk (K:=X.K) T (.n4 j l)<|λ_ _ z=>nomatch z;obtain⟨a,f,rfl,⟨_,o,zs,b,g,_⟩,_⟩:=(show ∃a f,x = .ref a/\Nc X.K H0 a j f/\hF X.K H0 l f from r);cases (show u=EO a from rx);obtain⟨B,_⟩:=(show l6 X.prog X.w H s.heap a (Pf a o)from I.h8 a _<|sub _ _ b);exact EZ Hk I.i9 ⟨o,B,g.1.1⟩ e (λz=>nomatch z) h
 | ins c p t=>
  obtain⟨a,C,J,R,U,rfl,b,g,_,_⟩:=(show ∃a C J R U,x = .ref a/\L1 X.K c=aI C/\H0 a=aI (.ins C J<|ND R U)/\Rep X.K H0 p R/\Rep X.K H0 t U from r);exact V9 I rx (eD (ve b)<|sub _ _ g) (XM (ve b) T) h
theorem aS(T:Ty)(h:SX X sc N L k)(c:qN sc "isinstance" = cI)(z:X.mg "isinstance" = cS)(G:qN sc ty=cI)(R:X.mg ty=cS)(U:E8 ty=aI (.type (M4 T)))(J:PV X a f)
 (hs:i0 [a,.Name ty p2] X.env=[(dV,hX a X.env),(dV,hX (.Name ty p2) X.env)]:=by rfl):PV X (.Call (.Name "isinstance" p) [a,.Name ty p2] [] pos) (r9 T f):=by
 intro e s C H Q I ⟨j,A,d,rc,W,q⟩;obtain⟨O,m,n⟩:=zA W;subst n;refine FX<|xO I (h.gl c).1 z GZ ?_ ⋯ ⋯;refine Gh ?_ (by rw[hs];rfl) rfl;rw[hs];show wpAny _ _ (A7 ((dV,hX a X.env)::ov pos [(dV,hX (.Name ty p2) X.env)])) _ _ s;refine Fg<|ij (J e s C H _ I ⟨j,A,O,rc,m,λv g b x r=>(show(λv g=>∃b,Ext j H b g/\Rep X.K b O v) v g from⟨b,x,r⟩)⟩) λu w Y=>?_;obtain⟨x,l,B,o,i,x1,t⟩:=Y;show wpAny _ _ (A7 ((dV,hX (.Name ty p2) X.env)::[])) _ _ w;refine Fg<|xO B (h.gl G).1 R U ?_ (h.gl G).2.1 (h.gl G).2.2;refine GG ?_;exact bJ B x1.sub o t T λy=>⟨.bl _,l,B.tok y,rfl,q _ l i x1 rfl⟩
end
section
variable{X:Cx}{sc:i2}{N L:List Str}{k:Nat}{e a b c:hH}{pos p p2:ik}{f g:CO D}{fq:CO (Sk×List D)}
theorem j6(h:SX X sc N L k)(c:qN sc "range" = cI)(z:X.mg "range" = cS)(G:PV X a f)(hs:i0 [a] X.env=[(dV,hX a X.env)]:=by rfl):o8 X tg (.Call (.Name "range" p) [a] [] pos) (je f):=Yt (h.gl c).1 z G hs
theorem nF(h:SX X sc N L k)(c:qN sc "zip" = cI)(z:X.mg "zip" = cS)(G:PV X a f)(B:PV X b g)(hs:i0 [a,b] X.env=[(dV,hX a X.env),(dV,hX b X.env)]:=by rfl)(I:i0 [b] X.env=[(dV,hX b X.env)]:=by rfl) :
 o8 X (.Tuple elts x1 DN) (.Call (.Name "zip" p) [a,b] [] pos) (mI f g):=gP (h.gl c).1 z G B hs I
theorem Qp(h:SX X sc N L k)(c:qN sc "isinstance" = cI)(z:X.mg "isinstance" = cS)(G:qN sc "int" = cI)(B:X.mg "int" = cS)(H:PV X a f)
 (hs:i0 [a,.Name "int" p2] X.env=[(dV,hX a X.env),(dV,hX (.Name "int" p2) X.env)]:=by rfl):PV X (.Call (.Name "isinstance" p) [a,.Name "int" p2] [] pos) (r9 .int f):=aS .int h c z G B IT H hs
theorem Z3(h:SX X sc N L k)(c:qN sc "isinstance" = cI)(z:X.mg "isinstance" = cS)(G:qN sc "bool" = cI)(B:X.mg "bool" = cS)(H:PV X a f)
 (hs:i0 [a,.Name "bool" p2] X.env=[(dV,hX a X.env),(dV,hX (.Name "bool" p2) X.env)]:=by rfl):PV X (.Call (.Name "isinstance" p) [a,.Name "bool" p2] [] pos) (r9 .bool f):=aS .bool h c z G B PyProof.Rows.boot_bool H hs
theorem qR(h:SX X sc N L k)(c:qN sc "isinstance" = cI)(z:X.mg "isinstance" = cS)(G:qN sc "tuple" = cI)(B:X.mg "tuple" = cS)(H:PV X a f)
 (hs:i0 [a,.Name "tuple" p2] X.env=[(dV,hX a X.env),(dV,hX (.Name "tuple" p2) X.env)]:=by rfl):PV X (.Call (.Name "isinstance" p) [a,.Name "tuple" p2] [] pos) (r9 .tuple f):=aS .tuple h c z G B IG H hs
theorem yw(G:PV X a f):PV X (.UnaryOp .USub a pos) (vw f):=
 jw (uC lY G) λm H Q z=>by obtain⟨h,l,d,rc,B,q⟩:=z;obtain⟨i,e,j⟩:=zA B;obtain⟨I,O,e⟩:=zc e;subst j;refine⟨h,l,I,rc,O,λv g b x r=>?_⟩;rw[j7 e]at r;exact⟨i,jP r,q _ g b x rfl⟩
theorem vK(i:Nat)(h:SX X sc N L k)(c:kN sc N i x=cI)(G:PV X a f)(hs:i0 [a] X.env=[(dV,hX a X.env)]:=by rfl)
 (z:G9 (.Name x np) "append" X.env (hX (.Name x np) X.env)=hX (.Name x np) X.env:=by rfl)
 (B:((ov cpos<|starEach [a] X.env).all (λx=> !x.1) && (Nq cpos<|keywordEach [] X.env).all (λx=>x.1.isSome)
   && decide ([a].length+([]:List Dm).length+(if ([]:List Dm).isEmpty then 0 else 1)<30))=cI:=by rfl)
 (I:(apos.endLine==cpos.line)=cI:=by rfl) (O:tG (.Call (.Attribute (.Name x np) "append" apos) [a] [] cpos) cS pos.line X.env=pure dV:=by rfl) :
 pa X (.Expr (.Call (.Attribute (.Name x np) "append" apos) [a] [] cpos) pos) (qP i f):=
 Yq i (VP PySem.F.plainAttrs_list PySem.F.slot_list_append PySem.F.type_list_append V0 (h.var c) (jk G j9 hs) z B I hs rfl) O
theorem JA(i:Nat){st:i7}{f:CO (List D)}(h:PS X st (Y6 (tO X.K f)<|vf i)):pa X st (jF i<|xX f):=vL h λD s H I=>by obtain⟨E0,E,g,n,W,z,B,O⟩:=I;obtain⟨d,b,B⟩:=zA B;obtain⟨l,R,b⟩:=zA b;subst B b;exact⟨g,n,l,z.rc,R,λa p o j x m e U r=>O _ _ _<|(z.step<|x.show m e U z.rc.sub).Di (Xi (kv.of zt)<|r.mono<|jl e _)⟩
theorem Su(i:Nat)(h:SX X sc N L k)(c:kr sc N L i y=cI)
 (J:X.calm=cI) (ok:A9 X scope fr) (z : ∀i∈T.idx,i<own.length) (hi:Dp X tg iter src) (B : ∀fp H G,PG (jb X scope (own++fr.map (·.1)) fp H G) tg<|A1 X.K T)
 (I : ∀fp H G,PV (jb X scope (own++fr.map (·.1)) fp H G) elt f) (hs : ∀x,AR iter X.env x=pure x:=by intro _;rfl) :
 PS X (.Assign [.Name y py] (.ListComp elt [⟨tg,iter,[],0⟩] scope cpos) spos) (Y6 (tO X.K<|zM src T own.length (fr.map (·.2)) jo f)<|vf i):=by
 obtain⟨a,b,O⟩:=h.loc c;exact aZ h.M0 a b O J ok z hi B I hs
theorem aW(I:PG X tg (A1 X.K T))(O:PV X e f)(hs:Rx [tg] e pos.line X.env=pure dV:=by rfl)(J:swappedStores [tg] e X.env=pure cS:=by rfl)
 (G:(E4 [tg] X.env).map (·.2)=[DT tg X.env]:=by rfl):pa X (.Assign [tg] e pos) (fR T f):=
 vL (dv O I hs J G) λD n H R=>by obtain⟨E0,E,g,j,m,B,z,U⟩:=R;obtain⟨d,h,z⟩:=zc z;obtain⟨l,i,z⟩:=zA z;subst z;refine⟨g,j,d,B.rc,h,λv b a x r=>?_⟩;exact yc x.sub r i λW _ Y=>U W b a<|Y E0 E<|B.step x
end
structure hI(P:i8)(w:i5)(K:Es)(mg:MJ)(base:h7)(k:Nat)(x:Str)(n:Nat)(F:List D->Option Res):Prop where
 ex : ∃(f:eI) (fd:u4) (ps:List Str),ps.length=n/\zi P w K mg base yg k f fd ps (C6 K ps.length F)/\mg x=aI (.ref f)/\Gm K (.ref f)=cI/\Binds K fd ps []
structure iv(K:Es)(mg:MJ)(x:Str)(st:i7)(ps:List Str):Prop where
 ex : ∃(f:eI) (fd:u4),L2.Dc K x x st f fd/\(∀us:List gv,us.length=ps.length->Oi fd ⟨us,[]⟩=pure (ps.zip us))/\mg x=aI (.ref f)
noncomputable def A3(X:Cx)(G:List hH)(n:Nat)(g:CO (List D)):Prop:=DP X G g/\∀b a,g b=aI a->a.length=n
section
variable{X:Cx}{sc:i2}{N L:List Str}{k:Nat}{e:hH}{es:List hH}{f:CO D}{g:CO (List D)}{n:Nat}{pos p:ik}{x:Str}
theorem zl:A3 X [] 0 zB:=⟨JF,λb a h=>by cases h;rfl⟩
theorem za(G:PV X e f)(z:A3 X es n g)(hs:i0 (e::es) X.env=(dV,hX e X.env)::i0 es X.env:=by rfl):A3 X (e::es) (n+1) (zb f g):=
 ⟨zD G z.1 hs,λb d h=>by obtain⟨y,i,h⟩:=zc h;obtain⟨r,a,h⟩:=zA h;subst h;rw[FL,z.2 b r a]⟩
variable{j:Nat}{F:List D->Option Res}
theorem nu(J:hI X.prog X.w X.K X.mg X.base j x n F)(z:j<=k)(h:SX X sc N L k)(c:qN sc x=cI)(H:A3 X (e::es) n g)
 (B:i0 (e::es) X.env=(dV,hX e X.env)::i0 es X.env:=by rfl) (I:(ov pos<|starEach es X.env).any (·.1)=dV:=by rfl):PV X (.Call (.Name x p) (e::es) [] pos) (zw F g):=by
 obtain⟨f,i,l,d,G,b,a,O⟩:=J.ex;subst d;exact gz (A0:=[]) G H.1 H.2 λ{t} R=>VO G (h.room.mono z) (h.gl c).1 b a O .nil nX R (h.gl c).2.2 B I
theorem uB(J:hI X.prog X.w X.K X.mg X.base j x n F)(z:j<=k)(h:SX X sc N L k)(c:qN sc x=cI)(H:A3 X (e::es) n g)
 (B:i0 (e::es) X.env=(dV,hX e X.env)::i0 es X.env:=by rfl) (I:(ov pos<|starEach es X.env).any (·.1)=dV:=by rfl):PO X (.Call (.Name x p) (e::es) [] pos) (kU F g):=by
 obtain⟨f,i,l,d,G,b,a,O⟩:=J.ex;subst d;exact gO G H.1 H.2 λ{t} R=>VO G (h.room.mono z) (h.gl c).1 b a O .nil nX R (h.gl c).2.2 B I
end
section
variable{P:i8}{w:i5}{K:Es}{mg:MJ}{base:h7}
noncomputable def Zy(N G:List Str)(st:i7):Bool:=
 decide ((zK st).kind = .function) && decide ((zK st).isCoroutine=dV) && decide ((zK st).isGenerator=dV) && decide N.Nodup && decide (N.take G.length=G) &&
 G.all (λx=>decide ((zK st).names.lookup x=aI .local) || decide ((zK st).names.lookup x=aI .cell)) && (zK st).names.all (λy=> !(y.2==EV))
theorem kx{N G:List Str}{st:i7}(h:Zy N G st=cI):L8 N G (zK st):=by unfold Zy at h;simp only[Ex,decide_eq_true_eq,EY,Fq,Gp]at h;obtain⟨⟨⟨⟨⟨⟨a,b⟩,z⟩,B⟩,I⟩,O⟩,R⟩:=h;exact⟨a,b,z,B,I,O,λy U e=>by have:=R y U;rw[e]at this;exact absurd this ⋯⟩
theorem nW{X:Cx}(hx:X.xe=λ_ _=>False):Pa (hA X.prog X.w) X.A X.env X.xe:=by rw[hx];exact PassesOwn.never
theorem kP{x:Str}{st:i7}{N G:List Str}{k:Nat}{F:CO Fl}(A:iv K mg x st G)(J:Zy N G st=cI)
 (B : ∀X:Cx,X.prog=P->X.w=w->X.K=K->X.mg=mg->X.base=base->SX X (zK st) N N k->X.xe=(λ_ _=>False)->KZ X (jT st) F) :
 hI P w K mg base (k+1) x G.length (jG N.length F):=by
 obtain⟨f,d,z,I,e⟩:=A.ex;have S:=kx J;refine⟨f,d,G,rfl,iF z S λb A a s H E O=>?_,e,z.kp,.all I⟩;exact B _ rfl rfl rfl rfl rfl ⟨rfl,rfl,S.nd,rfl,O,λ_ _=> .inl rfl⟩ rfl
theorem By{h:h7}{x:Str}{st:i7}{W:List Str}{f:eI}{oc:gv}{od J:Option eI}{O:Array (Option gv)}{kV I L H ct:gv}(z:K.In h)(G:h.Ns o5 mg)
 (a:GN K o5 x=aI (aI (.ref f))) (l:K.lookup f=aI ⟨oc,od,.func<|GV x x (ya st) (jT st) (zK st) .none kV I L J H ct,O⟩)
 (c:IM K H x=cI) (Z:Gm K (.ref f)=cI)
 (b : ∀(kV I L:gv) (J:Option eI) (H ct:gv) (Y:List gv),Y.length=W.length->Oi (GV x x (ya st) (jT st) (zK st) .none kV I L J H ct) ⟨Y,[]⟩=pure (W.zip Y)):iv K mg x st W:=
 ⟨f,_,eJ l c Z,b kV I L J H ct,Hj z G a⟩
theorem uZ{x:Str}{st:i7}{f:eI}{J:u4}{N G:List Str}{k:Nat}{F:CO Fl}(z:L2.Dc K x x st f J)(L:Zy N G st=cI)
 (B : ∀X:Cx,X.prog=P->X.w=w->X.K=K->X.mg=mg->X.base=base->SX X (zK st) N N k->X.xe=(λ_ _=>False)->KZ X (jT st) F) :
 zi P w K mg base yg (k+1) f J G (C6 K G.length<|jG N.length F):=by
 have S:=kx L;exact iF z S λb A a s H E I=>B _ rfl rfl rfl rfl rfl ⟨rfl,rfl,S.nd,rfl,I,λ_ _=> .inl rfl⟩ rfl
theorem sd{F:List D->Option Res}{H:Hp}{a:eI}{G:List Int}(z:kv K H a (G.map V.int))(B:F [.lst (G.map D.int)]=aI (.val<|.bl cI)) :
 C6 K 1 F [.ref a] H (λv _=>v = .bl cI) λ_ _ _=>False:=by
 refine⟨H,[.lst (G.map D.int)],.val<|.bl cI,jn.refl _,hF.cons (Xi z ?_) hF.nil,rfl,B,λv d b _ r=>r⟩;clear B z
 induction G with
 | nil=>exact hF.nil
 | cons n G I=>exact hF.cons rfl I
end
end DL
namespace DL
open PySem PySem.Spec PyProof.Rows L2
open AutoSeq1 (wpAny_loadPart')
theorem wq:fillsNumberSlot (.type "tuple") "mul" = pure dV:=
 PySem.fillsNumberSlot_seq (id:="tuple.__mul__") (r:=aI (.builtin "tuple.__rmul__")) IC.lookup ⋯ F.slot_tuple_rmul.lookup ⋯
theorem Ql:seqRepeat? (.type "tuple")=pure (aI (.builtin "tuple.__mul__")):=by unfold seqRepeat?;rw[PySem.seqSlot_of (T:="tuple") (name:="__mul__") (id:="tuple.__mul__") IC.lookup ⋯,PySem.seqSlot_of (T:="tuple") (name:="__rmul__") (id:="tuple.__rmul__") F.slot_tuple_rmul.lookup ⋯];rfl
theorem ZP(a:Int)(t:rk)(l:eI)(z:Array gv)(n:Nat)(dd:Option eI)(G:Array (Option gv)) :
 Meets (Builtin.«int.__rmul__» ⟨[.int a t,.ref l],[]⟩) (λ_ R s=>s.heap.get? l=aI {cls:= .type "tuple",dict:=dd,data:= .seq z n,slots:=G}/\R (.ok (.ret Value.notImplemented)) s):=
 .of_wp λb w A R s h=>by obtain⟨f,g,d,i,os⟩:=s;obtain⟨e,h⟩:=h;wp_walk;exact⟨_,rfl,h⟩
theorem Jq(a:Int)(t:rk)(l:eI)(z:Array gv)(n:Nat)(dd:Option eI)(J:Array (Option gv))(G : ¬(decide (a < -(2 ^ 63)) || decide (a>=2 ^ 63))=cI)(H : ¬(z.isEmpty || a==1)=cI)
 (B : ¬(decide (a<=0) || z.isEmpty)=cI) (I : ¬((z.size:Int)*a>(2 ^ 63 - 1)/8)) (O : ¬Builtin.Tuple.tupleTooMany ((z.size:Int)*a)=cI) (U:((EC a.toNat z).foldl (· ++ ·) #[]).size<=j3) :
 Meets (Builtin.«tuple.__mul__» ⟨[.ref l,.int a t],[]⟩) (λ_ R s=>s.heap.get? l=aI {cls:= .type "tuple",dict:=dd,data:= .seq z n,slots:=J}/\
  R (.ok (.ret (.ref s.heap.objs.size))) {s with heap:=s.heap.push {cls:= .type "tuple",data:= .seq ((EC a.toNat z).foldl (· ++ ·) #[])}}):=
 .of_wp λe w A R s h=>by
  obtain⟨f,g,d,i,os⟩:=s;obtain⟨b,h⟩:=h
  wp_walk using HC b
  rw[RQ G];refine Eu<|Lp (s:=⟨f,g,d,i,os⟩) ⟨_,b,rfl,n,rfl⟩ ?_;dsimp only;rw[RQ H,RQ B,RQ I,RQ O];refine Eu (m:=Gj _)<|Gd ?_ U;exact EB ⟨_,rfl,h⟩
theorem ZM(a:Int)(t:rk)(l:eI)(z:Array gv)(n:Nat)(dd:Option eI)(I:Array (Option gv))(G : ¬(decide (a < -(2 ^ 63)) || decide (a>=2 ^ 63))=cI)(H : ¬(z.isEmpty || a==1)=cI)
 (B:(decide (a<=0) || z.isEmpty)=cI) :
 Meets (Builtin.«tuple.__mul__» ⟨[.ref l,.int a t],[]⟩) (λ_ R s=>s.heap.get? l=aI {cls:= .type "tuple",dict:=dd,data:= .seq z n,slots:=I}/\
  R (.ok (.ret (.ref s.heap.objs.size))) {s with heap:=s.heap.push {cls:= .type "tuple",data:= .seq #[]}}):=
 .of_wp λe w A R s h=>by
  obtain⟨f,g,d,i,os⟩:=s;obtain⟨b,h⟩:=h
  wp_walk using HC b
  rw[RQ G];refine Eu<|Lp (s:=⟨f,g,d,i,os⟩) ⟨_,b,rfl,n,rfl⟩ ?_;dsimp only;rw[RQ H,MY B];refine Eu (m:=Gj _)<|Gd ?_ (He _);exact EB ⟨_,rfl,h⟩
theorem ZL(a:Int)(t:rk)(l:eI)(z:Array gv)(n:Nat)(dd:Option eI)(I:Array (Option gv))(G : ¬(decide (a < -(2 ^ 63)) || decide (a>=2 ^ 63))=cI)(H:(z.isEmpty || a==1)=cI) :
 Meets (Builtin.«tuple.__mul__» ⟨[.ref l,.int a t],[]⟩) (λ_ R s=>s.heap.get? l=aI {cls:= .type "tuple",dict:=dd,data:= .seq z n,slots:=I}/\R (.ok (.ret (.ref l))) s):=
 .of_wp λe w A R s h=>by
  obtain⟨f,g,d,i,os⟩:=s;obtain⟨b,h⟩:=h
  wp_walk using HC b
  rw[RQ G];refine Eu (Lp (s:=⟨f,g,d,i,os⟩) ⟨_,b,rfl,n,rfl⟩ ?_);dsimp only;rw[MY H];refine Eu (m:=Hf _) ?_;unfold Hf;refine Eu (LD (T:="tuple") ⟨_,b,rfl⟩ (EB ?_));rw[MY ⋯];exact Eu (Mu (EB ⟨_,rfl,h⟩))
section
variable{X:Cx}
noncomputable def mV(K:Es):R2:=λx y H Q=>∃l k a,x = .ref l/\y = .int k/\l4 K H l a/\ -(2 ^ 62)<=k/\k<2 ^ 62/\a.length*k.toNat<=j3/\(a=[]\/k=1->Q (.ref l) H)/\
 ∀p,H p=cS->Q (.ref p) (upd H p<|.tup (EC k.toNat a).flatten)
theorem gR:l9 X (De .Mult) (mV X.K):=by
 intro A s σ H x y v u Q I rx ry h;obtain⟨l,k,E,rfl,rfl,P,h1,h2,w,q1,C⟩:=h;cases rx;obtain⟨t,rfl⟩:=ry;obtain⟨z,r,S,z1⟩:=I.tuple P;obtain⟨⟨N,a,d,b⟩,B,i,n,j⟩:=id S;simp only at i j;subst i j;have G:=r.length;have R : ¬(decide (k < -(2 ^ 63)) || decide (k>=2 ^ 63))=cI:=by simp;omega
 refine wpAny_binaryOp_repeat_ref (T:="tuple") (U:="int") ⋯ ⟨_,B,rfl⟩ (λs'=>RI s' k t) wq F.fills_int_mul F.slot_int_rmul Ql F.slot_int_index.lookup
  (Hm F.slot_int_rmul (RI s k t) F.entry_int_rmul (F.args_int_rmul_2 _ _) (ZP k t l z.toArray n a b) ⟨B,rfl,⟨_,B,rfl⟩,?_⟩)
 have f : ∀m:Nat,List.foldl (λx1 W=>x1++W) #[] (EC m z.toArray)=(EC m z).flatten.toArray:=λm=>by have:=QI z m [];rw[List.nil_append]at this;exact this
 by_cases g2:(z.toArray.isEmpty || k==1)=cI
 ·refine Hm IC ⟨_,B,rfl⟩ Ms (Mj _ _) (ZL k t l z.toArray n a b R g2) ⟨B,⟨.ref l,H,I,rfl,q1 ?_⟩⟩
  rw[Fq]at g2;rcases g2 with g | g
  ·left
   have:z=[]:=by simpa using g
   exact(r.ON).mp this
  ·right;simpa using g
 ·have Y:=g2
  simp only[Fq,not_or]at Y;have J:z ≠ []:=by intro e;exact Y.1 (by rw[e];rfl)
  have am:0<z.length:=List.length_pos_iff.mpr J;by_cases O:(decide (k<=0) || z.toArray.isEmpty)=cI
  ·have p:k.toNat=0:=by
    rw[Fq]at O;rcases O with g | g
    ·have:=of_decide_eq_true g;omega
    ·exact absurd g Y.1
   refine Hm IC ⟨_,B,rfl⟩ Ms (Mj _ _) (ZM k t l z.toArray n a b R g2 O) ⟨B,?_⟩;refine⟨.ref s.heap.objs.size,_,I.laid (t':=s.toks) (o:= .tup (EC k.toNat E).flatten) (λc Z q=>Ew _ q) (EF _) ?_,rfl,C _<|I.h8.fresh<|EF _⟩;rw[p];exact⟨He _,[],.nil,DC.new _ _⟩
  ·have p : ¬k<=0:=by intro g;exact O (by rw[Fq];exact .inl<|decide_eq_true g)
   have L:z.length*k.toNat<=j3:=by rw[<- G];exact w
   have an:((z.toArray.size:Nat):Int)*k<=(j3:Int):=by
    rw[EM];have e:((z.length*k.toNat:Nat):Int)=(z.length:Int)*k:=by rw[Int.natCast_mul,Int.toNat_of_nonneg ⋯]
    omega
   have ap:j3=16777216:=GY;have M:(List.foldl (λx1 W=>x1++W) #[] (EC k.toNat z.toArray)).size<=j3:=by rw[f,EM,V4,Mn];exact L
   refine Hm IC ⟨_,B,rfl⟩ Ms (Mj _ _) (Jq k t l z.toArray n a b R g2 O ⋯ (by unfold Builtin.Tuple.tupleTooMany;simp only[decide_eq_true_eq];omega) M) ⟨B,?_⟩;rw[f];refine⟨.ref s.heap.objs.size,_,I.laid (t':=s.toks) (o:= .tup (EC k.toNat E).flatten) (λc Z q=>Ew _ q) (EF _) ?_,rfl,C _<|I.h8.fresh<|EF _⟩;exact⟨by rw[V4,Mn];exact w,_,r.rep k.toNat,DC.new _ _⟩
theorem fJ{K:Es}:q7 K (λx y H Q=>rI L7 (λi j=> .int (i*j)) x y H Q\/mV K x y H Q) yA:=λl H x y n I d Q s rx B z q=>by
 cases n<;>cases I<;>simp[yA]at z
 ·obtain⟨o,g⟩:=z
  subst g;exact .inl ⟨_,_,jP rx,jP B,cF o,q _ H l (Ext.refl s) rfl⟩
 ·rename_i f j
  obtain⟨⟨r,O⟩,rfl⟩:=z;obtain⟨a,t,rfl,h,b⟩:=vA rx;obtain⟨R,U⟩:=JM O;refine .inr ⟨a,j,t,rfl,jP B,xC s h,R,U,k6 (by rw[b.length];exact r),λe=>?_,λp m=>?_⟩
  ·refine q _ H l (Ext.refl s) ?_
   rcases e with e | e
   ·have g:f=[]:=by
     have:=b.length;rw[e]at this;exact Fj this.symm
    subst g;rw[show(EC j.toNat ([]:List D)).flatten=[]by simp];exact xD h b
   ·subst e
    rw[show(EC (1:Int).toNat f).flatten=f by simp];exact xD h b
  ·exact q _ _ _ (Ext.alloc s m _)<|xD (l4.of zt)<|(Kk b _).mono (jl (js s m) _)
theorem kH(G:PV X a fa)(z:PV X b fb):PV X (.BinOp a .Mult b pos) (zo yA fa fb):=Z5 (Ss.or gR) fJ G z
end
end DL
namespace DL
open PySem PySem.Spec PyProof.Rows L2
theorem RC.Sl{K:Es}{H0 H:Hp}{Z:St}{γ:Ctx}{i:Nat}{G:List D}{a:eI}{xs:List V}(r:RC K H0 H Z γ)(e:γ[i]? = aI (.own G))(L:Z[i]? = aI (aI (.ref a)))(J:H0 a=cS)(W:H a=aI (.lst xs))(Y:hF K H0 G xs):RC K (L2.upd H0 a<|.lst xs) H Z (γ.set i<|.val<|.lst G):=by
 refine⟨λb o q=>?_,by simp[r.len],λj d g=>?_,λj n g=>?_,λj k b n fs f h t u=>?_,⟨λj l g=>?_,λj k x y f h=>?_⟩⟩
 ·by_cases z:b=a
  ·subst z;rw[zt]at q;rw[W];exact q
  ·rw[zu z]at q;exact r.sub b o q
 ·rcases zJ g with⟨rfl,z,E⟩ | ⟨B,z⟩
  ·cases z;exact⟨_,L,Xi (kv.of zt)<|Y.mono<|jl J _⟩
  ·obtain⟨v,I,g2⟩:=r.val j d z
   exact⟨v,I,g2.mono<|jl J _⟩
 ·rcases zJ g with⟨_,z,_⟩ | ⟨B,z⟩
  ·cases z
  ·obtain⟨b,A,I,g2,g3,w⟩:=r.own j n z
   refine⟨b,A,I,?_,g3,w.mono<|jl J _⟩;rw[zu (λq=>B<|r.ne j i a n G z e (by rw[I,q]) L)];exact g2
 ·rcases zJ f with⟨_,z,_⟩ | ⟨B,m⟩
  ·cases z
  ·rcases zJ h with⟨_,z,_⟩ | ⟨C,O⟩
   ·cases z
   ·exact r.ne j k b n fs m O t u
 ·rcases zJ g with⟨_,z,_⟩ | ⟨B,z⟩
  ·cases z
  ·obtain⟨b,bs,f1,R,U⟩:=r.C5.1 j l z
   have s:=U i G a e L;refine⟨b,bs,f1,R.move (jl J _) (λc p=>by rw[zu (λq=>s<|by rw[<- q];exact p)];exact(R.at p).1)<|λc p=>rfl,λk fs c f h=>?_⟩;rcases zJ f with⟨_,z,_⟩ | ⟨_,m⟩
   ·cases z
   ·exact U k fs c m h
 ·rcases zJ f with⟨_,z,_⟩ | ⟨_,m⟩
  ·cases z
  ·rcases zJ h with⟨_,z,_⟩ | ⟨_,O⟩
   ·cases z
   ·exact r.C5.2 j k x y m O
end DL
namespace L2
open PySem PySem.Spec PyProof.Rows
open AutoSeq1 (wpAny_loadPart')
theorem Qy(O:IsEnum s.heap z it n old)(h:Q (.ref z) s):wpAny (hA prog w) A (M3 (.ref z)) Q E s:=by have B:s.TypeIs (.ref z) "enumerate":=⟨_,O,rfl⟩;refine wpAny_pyIter_slot B F.slot_enumerate_iter (Hi F.slot_enumerate_iter B F.entry_enumerate_iter ?_ (F.args_enumerate_iter_1 _));have I:wpAny (hA prog w) A.in1 (ret (.ref z)) (λI a=>∃v,I = .done (.ret v)/\∃T m,a.TypeIs v T/\N5 (.type T) "__next__" = pure (aI m)/\Q v a) E s:=EB ⟨_,rfl,"enumerate",_,B,F.slot_enumerate_next.lookup,h⟩;exact I
end L2
namespace DL
open PySem PySem.Spec PyProof.Rows L2
theorem QE{K:Es}{H:Hp} : ∀{G:List D} {xs:List V} {l:List Int},hF K H G xs->YC G=aI l->xs=l.map V.int
 | [],xs,l,r,e=>by cases e;rw[show xs=[]from r];rfl
 | d::G,xs,l,r,e=>by
  obtain⟨x,I,rfl,z,B⟩:=(show ∃x r,xs=x::r/\Rep K H d x/\hF K H G r from r);cases d with
  | int i=>
   obtain⟨O,a,rfl⟩:=zA (show(YC G).map (λl=>i::l)=aI l from e);rw[QE B a,show x = .int i from z];rfl
  | _=>cases e
theorem QJ : ∀l:List Int,(l.map V.int).all ZQ=cI
 | []=>rfl
 | i::l=>by simp only[Fb,Hv,QJ l,IA];rfl
theorem We(i:Int) : ∀l:List Int,F4 (.int i) (l.map V.int)=decide (i∈l)
 | []=>rfl
 | j::l=>by
  have z:=We i l;unfold F4 at z ⊢;rw[Fb,Hc,z];have e:DV (.int j) (.int i)=(j==i):=rfl;rw[e];by_cases h:i=j
  ·subst h
   rw[beq_self_eq_true,Bool.true_or];exact(decide_eq_true EN).symm
  ·rw[beq_false_of_ne (Fy h),Bool.false_or]
   exact decide_eq_decide.mpr ⟨λq=>EK _ q,λq=>(ED.mp q).resolve_left h⟩
section
variable{X:Cx}{sc:i2}{N L:List Str}{k:Nat}{a b c:hH}{pos p:ik}{f fa fb fc:CO D}
theorem aT(ho:l9 X (rp op) r)(J:l9 X (rp NO) r')(s1:q7 X.K r F)(s2:q7 X.K r' G)(Z:PV X a fa)(hb:PV X b fb)(hc:PV X c fc)
 (hm:Pw [op,NO] [b,c]=dV:=by with_unfolding_all rfl):PV X (.Compare a [op,NO] [b,c] pos) (kc F G fa fb fc):=
 jw (bp ho J Z hb hc hm) λσ H Q E=>by
  obtain⟨h,f,d,rc,B,q⟩:=E;obtain⟨x,s,B⟩:=zc B;obtain⟨y,t,B⟩:=zc B;obtain⟨k,u,B⟩:=zc B;obtain⟨R,w,U⟩:=zc u;refine⟨h,f,x,rc,s,λS H1 e x1 L=>⟨e,f,y,rc.ext x1,t,λW i n I Y=>s1 n i S W x y R _ I.sub (L.mono I.s0) Y w λT j g x3 M=>?_⟩⟩;cases R with
  | bl k'=>
   cases U;refine⟨k,show T = .bl k from M,?_⟩;cases k with
   | true=>
    rw[MY rfl];rw[MY rfl]at B;obtain⟨z,A,C⟩:=zc B;exact⟨g,f,z,((rc.ext x1).ext I).ext x3,A,λv4 l o O N=>s2 o l W v4 y z d _ O.sub ((Y.mono x3.s0).mono O.s0) N C λv5 m p x5 P=>q v5 m p (((x1.trans I).trans x3).trans (O.trans x5)) P⟩
   | false=>
    rw[RQ ⋯];rw[RQ ⋯]at B;cases B;exact q _ j g ((x1.trans I).trans x3) rfl
  | _=>cases U
theorem nq(G:PV X a fa){g:CO (Sk×List D)}(O:PQ X b g)(J:Ds .In b=dV:=by with_unfolding_all rfl):PV X (.Compare a [.In] [b] pos) (Ba fa g):=
 jw (JE Qs G O J) λF H Q R=>by
  obtain⟨n,m,d,rc,z,q⟩:=R;obtain⟨x,s,z⟩:=zc z;obtain⟨⟨j,o⟩,t,z⟩:=zc z;obtain⟨i,U,z⟩:=zc z;obtain⟨l,W,rfl⟩:=zA z;refine⟨n,m,x,rc,s,λI A e x1 B=>⟨e,m,j,o,rc.ext x1,t,λp E f Y y h C r=>?_⟩⟩;rw[j7 U]at B;have u:=QE r W;subst u;have w:kv X.K f p (l.map V.int)\/l4 X.K f p (l.map V.int):=by
   cases j with
   | L=>exact .inl h
   | T=>exact .inr h
  refine⟨p,_,rfl,w,by rw[show I = .int i from B];rfl,QJ l,?_⟩;rw[show I = .int i from B,We];exact q _ f Y (x1.trans y) rfl
end
theorem yM : ∀{l:List Int} {G:List gv},i4 (l.map V.int) G->∀i,i<G.toArray.size->∃z u,G.toArray[i]? = aI (.int z u)/\l[i]? = aI z
 | [],G,r,i,hi=>by cases r;exact absurd hi<|Nat.not_lt_zero _
 | z::l,u::G,.cons r t,i,hi=>by
  cases i with
  | zero=>
   obtain⟨d,rfl⟩:=r;exact⟨z,d,by simp,by simp⟩
  | succ i=>
   obtain⟨B,I,a,b⟩:=yM t i (by simpa using hi);exact⟨B,I,by simpa using a,by simpa using b⟩
section
variable{K:Es}{E0 E H0 H:Hp}{σ:St}{γ:Ctx}
theorem RS.forget(r:RS K E0 E H0 H σ γ):RS K E0 E H0 H (σ.set i v) (γ.set i .no):=by
 have O : ∀{j:Nat} {e:List D} {b:eI},(γ.set i .no)[j]? = aI (.own e)->γ[j]? = aI (.own e)/\(σ.set i v)[j]? = σ[j]? :=λ{j e b} g=>by
  rcases zJ g with⟨_,z,_⟩ | ⟨R,z⟩
  ·cases z
  ·exact⟨z,EI<|Fy R⟩
 have U : ∀{j:Nat} {d:List (List D)},(γ.set i .no)[j]? = aI (.nest d)->γ[j]? = aI (.nest d)/\(σ.set i v)[j]? = σ[j]? :=λ{j d} g=>by
  rcases zJ g with⟨_,z,_⟩ | ⟨R,z⟩
  ·cases z
  ·exact⟨z,EI<|Fy R⟩
 refine⟨⟨r.rc.sub,by simp[r.rc.len],λj o g=>?_,λj e g=>?_,λj k b e fs l h m n=>?_,⟨λj d g=>?_,λj k u w I g2=>r.rc.C5.2 j k u w (U I).1 (U g2).1⟩⟩,r.ext,λj e b I g2=>?_,λj d b y I g2 g3=>?_⟩
 ·rcases zJ g with⟨_,z,_⟩ | ⟨R,z⟩
  ·cases z
  ·obtain⟨x,I,g2⟩:=r.rc.val j o z
   exact⟨x,by rw[EI (Fy R)];exact I,g2⟩
 ·obtain⟨f,B⟩:=O (b:=0) g
  rw[B];exact r.rc.own j e f
 ·obtain⟨f,B⟩:=O (b:=0) l
  obtain⟨W,Y⟩:=O (b:=0) h;rw[B]at m;rw[Y]at n;exact r.rc.ne j k b e fs f W m n
 ·obtain⟨f,B⟩:=U g
  obtain⟨a,bs,p,s,t⟩:=r.rc.C5.1 j d f;refine⟨a,bs,by rw[B];exact p,s,λk e c l h=>?_⟩;obtain⟨W,Y⟩:=O (b:=0) l;rw[Y]at h;exact t k e c W h
 ·obtain⟨f,B⟩:=O (b:=0) I
  rw[B]at g2;exact r.fresh j e b f g2
 ·obtain⟨f,B⟩:=U I
  rw[B]at g2;exact r.Dg j d b y f g2 g3
end
section
variable{K:Es}{E0 E H0 H:Hp}{σ:St}{γ:Ctx}
theorem RS.freeze(r:RS K E0 E H0 H σ γ)(e:γ[i]? = aI (.own J)) : ∃G,RS K E0 E G H σ (γ.set i<|.val<|.lst J):=by
 obtain⟨a,m,f,g,R,U⟩:=r.rc.own i J e;have W:=r.fresh i J a e f;obtain⟨G,l,O⟩ : ∃G,G=upd H0 a (.lst m)/\RC K G H σ (γ.set i<|.val<|.lst J):=by refine⟨_,rfl,?_⟩;exact RC.Sl r.rc e f g R U
 subst l;refine⟨_,O,⟨r.ext.s0.trans<|jl g _,r.ext.s1,O.sub,λc Y B=>?_⟩,λj h b I g2=>?_,λj d b n I g2 g3=>?_⟩
 ·rw[zu (λz=>by rw[z,W]at B;exact B rfl)];exact r.ext.new c Y B
 ·rcases zJ I with⟨_,z,_⟩ | ⟨_,z⟩
  ·cases z
  ·exact r.fresh j h b z g2
 ·rcases zJ I with⟨_,z,_⟩ | ⟨_,z⟩
  ·cases z
  ·exact r.Dg j d b n z g2 g3
open Classical in
end
section
variable{X:Cx}{st:i7}{F:CO Fl}
theorem gG(i:Nat)(h:pa X st F):pa X st (Bb i F):=vL h λD g H B=>by obtain⟨E0,E,d,f,I,O,z,R⟩:=B;obtain⟨e,b,z⟩:=zc z;obtain⟨a,U⟩:=O.freeze<|wc b;exact⟨E0,E,a,_,I,U,z,R⟩
end
end DL
namespace L2
open PySem PySem.Spec PyProof.Rows
noncomputable def uk(K:Es):V->List V->Hp->VK->Prop:=λx e H Q=>∃b p d,x = .str b/\e=[.ref p]/\kv K H p (d.map V.str)/\Builtin.Str.tooLong (d.toArray.foldl (λa p=>a+p.length+b.length) 0)=dV/\Q (.str<|GS b d) H
theorem J6 : ∀{H:List Str} {G:List gv},i4 (H.map V.str) G->∃l:List (Str×rk),strValues l=G/\l.map (·.1)=H
 | [],G,r=>by cases r;exact⟨[],rfl,rfl⟩
 | z::H,u::G,.cons r t=>by obtain⟨a,rfl⟩:=r;obtain⟨l,rfl,h⟩:=J6 t;exact⟨(z,a)::l,rfl,by simp[h]⟩
theorem ip{X:Cx}:Nf X "str.join" (uk X.K):=by intro f s w H x m v j Q I rx z h;obtain⟨a,p,u,rfl,rfl,g,d,q⟩:=h;obtain⟨t,rfl⟩:=rx;obtain⟨n,rfl,rw⟩:=kO z;cases rw;obtain⟨B,r,i,O⟩:=I.list g;obtain⟨l,rfl,e⟩:=J6 r;subst e;refine Hm F.slot_str_join (Lm _ _ _) F.entry_str_join (F.args_str_join_2 _ _) (meets_str_join_list a t p l d) ⟨i.isList,post_join l ⟨joinFit_length d,λt' k=>?_⟩⟩;refine⟨.str (GS a (l.map (·.1))),H,(I.kept (h':=s.heap) (t':=k) λb o e=>e),⟨t',?_⟩,q⟩;show Ln (Builtin.Str.glued a (l.map (·.1))) t'=_;rw[StrLaws.glued_eq_join]
end L2
namespace DL
open PySem PySem.Spec PyProof.Rows L2
theorem yO{K:Es}{H:Hp} : ∀{G:List D} {xs:List V} {l:List Str},hF K H G xs->vB G=aI l->xs=l.map V.str
 | [],xs,l,r,e=>by cases e;rw[show xs=[]from r];rfl
 | d::G,xs,l,r,e=>by
  obtain⟨x,I,rfl,z,B⟩:=(show ∃x r,xs=x::r/\Rep K H d x/\hF K H G r from r);cases d with
  | str i=>
   obtain⟨O,a,rfl⟩:=zA (show(vB G).map (λl=>i::l)=aI l from e);rw[yO B a,show x = .str i from z];rfl
  | _=>cases e
section
variable{X:Cx}{sc:i2}{N L:List Str}{k:Nat}{o e a b:hH}{apos cpos pos p:ik}{f g:CO D}{q:CO (Sk×List D)}
theorem ye(h:zy x=cI):x.length<=1000:=of_decide_eq_true h
theorem yd(h:zy x=cI):x.length<=j3:=EX (ye h) ⋯
theorem Zh(I:PV X o f)(O:PQ X e q)(R:G9 o "join" X.env (hX o X.env)=hX o X.env:=by rfl)
 (U:((ov cpos<|starEach [e] X.env).all (λx=> !x.1) && (Nq cpos<|keywordEach [] X.env).all (λx=>x.1.isSome) && decide ([e].length+([]:List Dm).length+(if ([]:List Dm).isEmpty then 0 else 1)<30))=cI:=by rfl)
 (W:(apos.endLine==cpos.line)=cI:=by rfl) (hs:i0 [e] X.env=[(dV,hX e X.env)]:=by rfl):PV X (.Call (.Attribute o "join" apos) [e] [] cpos) (wo f q):=
 jw (VP Le PySem.F.slot_str_join PySem.F.type_str_join ip I (jk O j9 hs) R U W hs rfl) λσ H Q Y=>by
  obtain⟨j,i,d,rc,z,K⟩:=Y;obtain⟨p,t,z⟩:=zc z;obtain⟨⟨J,s⟩,u,z⟩:=zc z;cases p with
  | str b=>
   cases J with
   | L=>
    obtain⟨l,w,z⟩:=zc z;by_cases g:l.length<=lim/\l.all zy=cI/\zy b=cI
    ·rw[MY g]at z;cases z
     refine⟨j,i,_,rc,t,λv P h x r=>?_⟩;rw[show v = .str b from r];refine⟨rfl,h,i,.L,s,rc.ext x,u,λa xs m n N C S M=>?_⟩;have A:=yO M w;subst A;refine⟨b,a,l,rfl,rfl,C,StrLaws.joinFits (B:=1000) (λy G=>ye<|EY.mp g.2.1 y G) ?_,K _ m n (x.trans N) rfl⟩;have Z:=g.1;have:lim=2500:=rfl;have E:=ye g.2.2;have:l.length*b.length<=2500*1000:=Nat.mul_le_mul ⋯ E;omega
    ·rw[RQ g]at z;cases z
   | T=>cases z
  | _=>cases z
theorem xN(G:PV X a f)(O:PV X b g)(hs:X5 b:=by intro _ _;rfl):PV X (.Subscript a b pos) (jI f g):=
 jw (nR pd G O hs) λC H Q R=>by
  obtain⟨n,m,d,rc,B,q⟩:=R;obtain⟨U,s,B⟩:=zc B;obtain⟨i,h,B⟩:=zc B;obtain⟨W,Y,h⟩:=zc h;cases U with
  | str z=>
   by_cases l:zy z=cI
   ·have B:(if zy z=cI then (m7 z.cps.toList.length i).bind λk=>z.cps.toList[k]?.map λc=>D.str ⟨#[c]⟩else cS)=aI d:=B
    rw[MY l]at B;obtain⟨j,t,B⟩:=zc B;obtain⟨c,u,rfl⟩:=zA B;refine⟨n,m,_,rc,s,λv y e x r=>⟨e,m,W,rc.ext x,Y,λA o p w I=>?_⟩⟩;rw[j7 h]at I;refine⟨z,i,c,r,jP I,yd l,?_,q _ o p (x.trans w) rfl⟩;unfold E5;rw[dZ t];exact u
   ·have B:(if zy z=cI then (m7 z.cps.toList.length i).bind λk=>z.cps.toList[k]?.map λc=>D.str ⟨#[c]⟩else cS)=aI d:=B
    rw[RQ l]at B;cases B
  | _=>cases B
theorem Zg(h:SX X sc N L k)(c:qN sc "len" = cI)(z:X.mg "len" = cS)(G:PV X e f)(hs:i0 [e] X.env=[(dV,hX e X.env)]:=by rfl):PV X (.Call (.Name "len" p) [e] [] pos) (yq f):=
 jw (yi QO (h.gl c).1 z PySem.boot_len (jk G j9 hs) ⋯ ⋯ hs rfl) λm H Q I=>by
  obtain⟨i,l,d,rc,B,q⟩:=I;obtain⟨O,j,B⟩:=zc B;cases O with
  | str z=>
   by_cases b:zy z=cI
   ·have B:(if zy z=cI then aI (D.int z.length)else cS)=aI d:=B
    rw[MY b]at B;cases B;refine⟨i,l,_,rc,j,λv g a x r=>⟨z,by rw[show v = .str z from r],yd b,q _ g a x rfl⟩⟩
   ·have B:(if zy z=cI then aI (D.int z.length)else cS)=aI d:=B
    rw[RQ b]at B;cases B
  | _=>cases B
theorem Vo{G:ik}(h:SX X sc N L k)(c:qN sc "isinstance" = cI)(z:X.mg "isinstance" = cS)(H:qN sc "str" = cI)(B:X.mg "str" = cS)(I:PV X a f)
 (hs:i0 [a,.Name "str" G] X.env=[(dV,hX a X.env),(dV,hX (.Name "str" G) X.env)]:=by rfl):PV X (.Call (.Name "isinstance" p) [a,.Name "str" G] [] pos) (r9 .str f):=aS .str h c z H B ⋯ I hs
end
theorem Y0{H:Hp}{p:eI}{a b:HO}:upd (upd H p a) p b=upd H p b:=funext λc=>by
 by_cases e:c=p
 ·subst e;rw[zt,zt]
 ·rw[zu e,zu e,zu e]
theorem JR{k1 k2 x:Str}{z B v:V}(G:k1≠k2)(h:(x=k1/\v=z)\/(x=k2/\v=B)):Ya (kL [] [((Gf k1:Key),z),(Gf k2,B)]) (Gf x)=aI v:=by
 have I : ¬((Gf k1:Key)=Gf k2):=λe=>G<|Gf.inj e;have O : ¬((Gf k2:Key)=Gf k1):=λe=>G (Gf.inj e).symm;rcases h with⟨rfl,rfl⟩ | ⟨rfl,rfl⟩
 ·simp[kL,W8,Ya,I,O]
 ·simp[kL,W8,Ya,I,O]
section
variable{X:Cx}{sc:i2}{N L:List Str}{k:Nat}{b:hH}{f:CO D}
theorem gy{k1 I k2 O:Str}{W Y Z j4:Nat}{p1 p2 p3 p4 G pos:ik}(h:SX X sc N L k)(J:PV X b f)(hs:sR b:=by intro _ _;rfl) :
 PV X (.Subscript (.Dict [aI (.Constant (.str k1) W p1),aI (.Constant (.str k2) Y p2)] [.Constant (.str I) Z p3,.Constant (.str O) j4 p4] G) b pos) (fX k1 I k2 O f):=
 jw (VN (by have:=h.M5;omega) (VM (wK Zn Zn<|wK Zn Zn VA) rfl rfl ⋯ ⋯) J hs) λE H Q t=>by
  obtain⟨l,C,d,rc,B,q⟩:=t;obtain⟨o,r,B⟩:=zc B;cases o with
  | str x=>
   have B:(if k1=k2 then cS else if x=k1 then aI (D.str I)else if x=k2 then aI (D.str O)else cS)=aI d:=B;by_cases e:k1=k2
   ·rw[MY e]at B;cases B
   rw[RQ e]at B;obtain⟨v,s,w⟩ : ∃v,d = .str v/\((x=k1/\v=I)\/(x=k2/\v=O)):=by
    by_cases R:x=k1
    ·rw[MY R]at B;cases B;exact⟨_,rfl,.inl ⟨R,rfl⟩⟩
    ·rw[RQ R]at B
     by_cases a:x=k2
     ·rw[MY a]at B;cases B;exact⟨_,rfl,.inr ⟨a,rfl⟩⟩
     ·rw[RQ a]at B;cases B
   subst s;intro p u;refine⟨zt,[(Gf k1,.str I),(Gf k2,.str O)],rfl,by simp,?_⟩;rw[Y0];have j:=Ext.hide rc.sub u<|.dK<|kL [] [((Gf k1:Key),V.str I),(Gf k2,V.str O)];refine⟨l,C,_,rc.ext j,r,λy i m U A=>⟨p,.str v,rfl,?_,q _ i m (j.trans U) rfl⟩⟩;rw[show y = .str x from A];have n:i p=aI (.dK<|kL [] [((Gf k1:Key),V.str I),(Gf k2,V.str O)]):=U.s1 _ _ zt;have g:=F9.k (k:=Gf x) n;rw[JR e (v:= .str v) (w.elim (λz=> .inl ⟨z.1,by rw[z.2]⟩) λz=> .inr ⟨z.1,by rw[z.2]⟩)]at g;exact g
  | _=>cases B
end
end DL
namespace DL
open PySem PySem.Spec PySem.Calls PyProof.Rows PySem.W PySem.Builtin PySem.Builtin.ObjectAttr
section
variable{prog:i8}{w:i5}{A:l7}{E:MQ}{h:h7}{g:Array Oa}{d:Drawn}{t:Nat}{os:OsState}{K:Frag}{x C S:eI}{cd:ClassData}{vs:Array gv}{name:Str}{v:gv}
theorem K0{G:rk}{Q:Fin->gE->Prop}(X:K.In h){od:Option eI}(W:od=cS)(hx:h.get? x=aI ⟨.ref C,od,.fields vs,#[]⟩)(z:E9 K C=aI cd)(H:cd.mro = .ref C :: .ref S::wh)(L:cd.hasDict=cI)(J:K3 K (.ref C) name=aI cS)
 (hq : ∀h' e Y,h.get? e=cS->h'.get? x=aI ⟨.ref C,aI e,.fields vs,#[]⟩->h'.Ns1 e (λy=>if y=name then aI v else cS)->(∀b o,b≠x->h.get? b=aI o->h'.get? b=aI o)->Q (.done<|.ret .none) ⟨h',g,d,Y,os⟩) :
 wpAny (hA prog w) A (Builtin.«object.__setattr__» ⟨[.ref x,.str name G,v],[]⟩) Q E ⟨h,g,d,t,os⟩:=by
 have j:=MB.passes<|.ref x;have B:DD (hA prog w) h (mroOf<|.ref C) cd.mro:=(Ro X z).andThen .now;have f:=L3 (M:=hA prog w) X J;have i:=Ro (M:=hA prog w) X z;rw[H]at B;unfold Builtin.«object.__setattr__»
 repeat (first | rw[refuse_eq] | (rw[refuseLoop_ref,refuseLoop_ref];show wpAny _ _ (refuseLoop _ _ wh) _ _ _;unfold wh;rw[j]) | (with_reducible refine Ge hx ?_) | (with_reducible refine B.at ?_) | (with_reducible refine f.at ?_) | (with_reducible refine i.at ?_) | wp_step)
 subst W;have I:(h.push {cls:= .type "dict",data:= .dict #[]}).get? x=aI ⟨.ref C,cS,.fields vs,#[]⟩:=Ew _ hx;have O:x≠h.objs.size:=ER (EH hx);show wpAny _ _ (alloc {cls:=HF "dict",data:=Data.dict #[]} >>= _) _ _ _;refine Eu (wpAny_alloc' ?_);refine Eu (wpAny_update' I ?_);refine EB ?_;show wpAny _ _ (storeInDict h.objs.size (.str name G) name v) _ _ _;unfold storeInDict newKeyGuard;have l:((h.push {cls:= .type "dict",data:= .dict #[]}).update x λo=>{cls:=o.cls,dict:=aI h.objs.size,data:=o.data,slots:=o.slots}).get? h.objs.size=aI {cls:= .type "dict",data:= .dict #[]}:=
  (LC _ _ _ _ O.symm).trans (Heap.get?_push_at rfl rfl)
 have m:((h.push {cls:= .type "dict",data:= .dict #[]}).update x λo=>{cls:=o.cls,dict:=aI h.objs.size,data:=o.data,slots:=o.slots}).Ns h.objs.size (λ_=>cS):=
  ⟨_,#[],_,l,rfl,λe u=>absurd u ⋯,λ_=>rfl⟩
 refine Eu<|EB<|Eu<|wpAny_nsSet1 (Heap.Ns1.of_empty m) λh' R a=>?_;obtain⟨oD,F,N,n,p,r⟩:=R.count<|Md.cons name v Md.nil;refine Eu<|wpAny_lookBehind n (by rw[p];exact pastItsLine_dict<|EX r<|by rw[FL,II,GY];omega) ?_;refine EB<|hq h' h.objs.size _ (Ls<|EF _) ?_ R λb o s U=>?_
 ·refine(a.2 x O).trans (FK _ I rfl)
 ·exact(a.2 b<|ER<|EH U).trans ((LC _ _ _ _ s).trans (Ew _ U))
theorem K4{o:n0}{z:gv}{Q:Unit->gE->Prop}{M:B0}(X:K.In h)(hx:h.get? x=aI o)(H:o.cls = .ref C)(B:mroIn K C (.type "object")=aI cI)(G:Q () ⟨h,g,d,t,os⟩) :
 wpAny M A (Pm "object.__setattr__" ⟨[.ref x,z,v],[]⟩) Q E ⟨h,g,d,t,os⟩:=by
 have I:DD M h (N6 (.ref x)) (.ref C):=H ▸ (Looks.ld hx).andThen .now;have O:=Rp (M:=M) X B;have b:builtinKind "object.__setattr__" = aI .slot:=MB.kind;have R:splitId "object.__setattr__" = aI ("object","__setattr__"):=MB.split;have a:=MB.args (.ref x) z v;simp only[Pm,b,R];refine Eu (m:=NF (.ref x) (.type "object")) ?_;refine(I.andThen O).at ?_;rw[RQ ⋯];unfold argsOk at a;cases hs:Manifest.signature? "object.__setattr__" with
 | none=>exact EB G
 | some U=>
  rw[hs]at a;exact Ir a G
theorem AO{Q:Unit->gE->Prop}(X:K.In h)(hx:h.get? x=aI ⟨.ref C,cS,.fields vs,#[]⟩)(hs:K3 K (.ref C) "__setattr__" = aI (aI (.builtin "object.__setattr__")))(B:mroIn K C (.type "object")=aI cI)
 (I:E9 K C=aI cd) (G:cd.mro = .ref C :: .ref S::wh) (O:cd.hasDict=cI) (H:K3 K (.ref C) name=aI cS)
 (J : ∀h' e z,h.get? e=cS->h'.get? x=aI ⟨.ref C,aI e,.fields vs,#[]⟩->h'.Ns1 e (λy=>if y=name then aI v else cS)->(∀b o,b≠x->h.get? b=aI o->h'.get? b=aI o)->Q () ⟨h',g,d,z,os⟩) :
 wpAny (hA prog w) A (setAttr (.ref x) name v) Q E ⟨h,g,d,t,os⟩:=by
 have R:DD (hA prog w) h (N6<|.ref x) (.ref C):=(Looks.ld hx).andThen .now;have U:=L3 (M:=hA prog w) X hs;have j:=MB.slot.bind<|.ref x;unfold setAttr callSpecial? specialOf
 repeat (any_goals (first | assumption | (with_reducible refine R.at ?_) | (with_reducible refine U.at ?_) | wp_step))
 refine HG MB.slot.plain MB.entry<|K4 (o:=⟨.ref C,cS,.fields vs,#[]⟩) X hx rfl B<|K0 (cd:=cd) (S:=S) X rfl hx I G O H λh' e z W Y a f=>?_;have i:=J h' e z W Y a f
 repeat (any_goals (first | assumption | wp_step))
end
end DL
namespace DL
open PySem PySem.Spec PySem.Calls PyProof.Rows PySem.W
noncomputable def ZR(C:eI)(dd:Option eI)(a0:eI):n0:=⟨.ref C,dd,.fields #[.ref a0,.none,.none,.none,.bool dV,.none],#[]⟩
section
variable{prog:i8}{w:i5}{A:l7}{E:MQ}{h:h7}{g:Array Oa}{d:Drawn}{t:Nat}{os:OsState}
variable{nm q:Str}{C N x:eI}{bs bm:List gv}{hdct:Bool}{sn:List Str}{sub:List gv}{ab:Bool}{col:Option Bool}{dd:Option eI}{k0 k1 k2 k3 k5:Option gv}{a0:eI}{u:gv}
theorem lS{Q:MQ}(T:Nh h wh bm)(z:h.get? C=aI (MO nm q C N bs bm hdct sn sub ab col dd k0 k1 k2 k3 k5 "ValueError.__new__"))(hx:h.get? x=aI (ZR C cS a0))
 (G : ∀h' B,h'.get? x=aI (ZR C cS B)->(∀b o,b≠x->h.get? b=aI o->h'.get? b=aI o)->Q .none ⟨h',g,d,t,os⟩) :
 wpAny (hA prog w) A (call (.builtin "ValueError.__init__") [.ref x,u]) Q E ⟨h,g,d,t,os⟩:=by
 have F:=GJ;refine Iu<|HG F.init.plain F.initEntry<|wpAny_check_init_subT F T z hx rfl ?_
 wp_walk
 have R:x<h.objs.size:=EH hx;have I:(h.push {cls:= .type "tuple",data:= .seq #[u]}).get? x=aI (ZR C cS a0):=Ew _ hx;refine G _ h.objs.size ?_ λb o O e=>?_
 ·rw[FK _ I rfl];rfl
 ·exact(LC _ _ _ _ O).trans (Ew _ e)
theorem K5{rest:List gv}{G:eI}{U:n0}{Q:Fin->gE->Prop}(T:Nh h wh bm)(B:h.get? C=aI (MO nm q C N bs bm hdct sn sub ab col dd k0 k1 k2 k3 k5 "ValueError.__new__"))
 (W:DD (hA prog w) h (N5 (.ref C) "__init__") (aI (.ref G))) (Y:h.get? G=aI U) (H:U.cls = .type "function") (L:rest.length<=j3)
 (J : ∀h' e a0,h.get? e=cS->h'.get? e=aI (ZR C cS a0)->(∀b o,h.get? b=aI o->h'.get? b=aI o)->wpAny (hA prog w) A (call (.ref G) (.ref e::rest)) (λr s'=>r = .none/\Q (.done<|.ret<|.ref e) s') E ⟨h',g,d,t,os⟩) :
 wpAny (hA prog w) A (Builtin.«type.__call__» ⟨.ref C::rest,[]⟩) Q E ⟨h,g,d,t,os⟩:=by
 have F:=GJ
 repeat (first | with_reducible refine wpAny_madeBy_exc B ?_ | with_reducible refine Ge B ?_ | wp_step)
 refine codeAny_call_builtin_code (LP _ F.quiet) (wpAny_check_new_subT F T B (codeAny_exc_new_subT F T B ?_ L));show wpAny _ _ _ _ _ _;have I : ∀b o,h.get? b=aI o->((h.push {cls:= .type "tuple",data:= .seq rest.toArray}).push (ZR C cS h.objs.size)).get? b=aI o:=λb o e=>Ew _ (Ew _ e);have O:((h.push {cls:= .type "tuple",data:= .seq rest.toArray}).push (ZR C cS h.objs.size)).get? (h.objs.size+1)=aI (ZR C cS h.objs.size):=by heap_get
 have a:=W.keeps I;have f:(EO C::bm).contains (.ref C)=cI:=by simp
 have i:h.get? (h.objs.size+1)=cS:=Ls (Nat.le_succ _);change wpAny _ _ _ _ _ ⟨(h.push {cls:= .type "tuple",data:= .seq rest.toArray}).push (ZR C cS h.objs.size),_,_,_,_⟩;have m:=T.keeps I;have j:=I _ _ B;have l:=I _ _ Y;have R:=λe=>J _ (h.objs.size+1) h.objs.size i O e;have R:=R I;generalize (h.push {cls:= .type "tuple",data:= .seq rest.toArray}).push (ZR C cS h.objs.size)=h2 at *;unfold NF
 repeat (first | with_reducible refine Ge O ?_ | wp_step)
 show wpAny _ _ (isSubtype (.ref C)<|.ref C) _ _ _;refine Mf j ?_;rw[f];simp only[LR,LS,if_false];refine Eu<|Fz ?_;unfold callSpecial? specialOf
 repeat (first | with_reducible refine Ge O ?_ | wp_step)
 show wpAny _ _ (N5 (.ref C) _) _ _ _;refine a.at ?_;refine Fz (Eu ?_);unfold bindSpecial;refine Eu (LD (T:="function") ⟨_,l,H⟩ ?_);rw[MY ⋯];refine EB (Eu (EG R (λr s' z=>?_) λ_ _ z=>z));obtain⟨rfl,z⟩:=z
 wp_walk
 exact z
theorem lT{rest:List gv}{G:eI}{B:n0}{Q:MQ}(T:Nh h wh bm)(z:h.get? C=aI (MO nm q C N bs bm hdct sn sub ab col dd k0 k1 k2 k3 k5 "ValueError.__new__"))
 (I:DD (hA prog w) h (N5 (.ref C) "__init__") (aI (.ref G))) (O:h.get? G=aI B) (R:B.cls = .type "function") (U:rest.length<=j3)
 (H : ∀h' e a0,h.get? e=cS->h'.get? e=aI (ZR C cS a0)->(∀b o,h.get? b=aI o->h'.get? b=aI o)->
   wpAny (hA prog w) (A.under (.builtin "type.__call__" ⟨.ref C::rest,[]⟩)) (call (.ref G) (.ref e::rest)) (λr s'=>r = .none/\Q (.ref e) s') E ⟨h',g,d,t,os⟩) :
 wpAny (hA prog w) A (call (.ref C) rest) Q E ⟨h,g,d,t,os⟩:=by
 have f1:=tc_lookup;have f2:=tc_bind (.ref C);have f:(⟨h,g,d,t,os⟩:gE).TypeIs (.ref C) "type":=⟨_,z,rfl⟩;refine Iu (codeAny_of_tree (show wpAny _ _ (callAny (.ref C) _) _ _ _ from ?_))
 repeat (any_goals (first | assumption | with_reducible refine Ge z ?_ | wp_step))
 refine⟨rfl,codeAny_call_builtin_at (LP _ ⋯) entry_typeCall<|wpAny_check_type_call_sub z<|K5 T z I O R U λh' e a0 W Y a=>?_⟩;exact H h' e a0 W Y a
end
end DL
namespace DL
open PySem PySem.Spec PySem.Calls PyProof.Rows PySem.W PySem.Builtin PySem.Builtin.ObjectAttr
section
variable{prog:i8}{w:i5}{A:l7}{E:MQ}{h:h7}{g:Array Oa}{dr:Drawn}{t:Nat}{os:OsState}{K:Frag}{x C d a0:eI}{cd:ClassData}{name:Str}{mA:MJ}{i:Int}{tk:rk}
theorem K7{W:rk}{Q:Fin->gE->Prop}(X:K.In h){Y:Array gv}{L:Array (Option gv)}(hx:h.get? x=aI ⟨.ref C,aI d,.fields Y,L⟩)(H:h.Ns1 d mA)(G:mA name=aI (.int i tk))(z:E9 K C=aI cd)(R:cd.hasDict=cI)(B:K3 K (.ref C) name=aI cS)
 (J:Q (.done<|.ret<|.int i tk) ⟨h,g,dr,t,os⟩):wpAny (hA prog w) A (Builtin.«object.__getattribute__» ⟨[.ref x,.str name W],[]⟩) Q E ⟨h,g,dr,t,os⟩:=by
 have I:DD (hA prog w) h (N6<|.ref x) (.ref C):=(Looks.ld hx).andThen .now;have a:=L3 (M:=hA prog w) X B;have O:=Ro (M:=hA prog w) X z;unfold Builtin.«object.__getattribute__»
 repeat (first | (with_reducible refine wpAny_nsGet H.ns ?_;rw[G]) | (with_reducible refine I.at ?_) | (with_reducible refine a.at ?_) | (with_reducible refine O.at ?_) | (with_reducible refine Ge hx ?_) | wp_step)
 all_goals exact J
theorem Cd{ex:Bool}{Q:MQ}(X:K.In h)(G:G7 K C){Z:Array gv}{L:Array (Option gv)}(hx:h.get? x=aI ⟨.ref C,aI d,.fields Z,L⟩)(J:h.Ns1 d mA)(H:mA name=aI (.int i tk))(R:E9 K C=aI cd)(U:cd.hasDict=cI)(W:K3 K (.ref C) name=aI cS)
 (hq : ∀t',Q (.int i tk) ⟨h,g,dr,t',os⟩):wpAny (hA prog w) A (getAttr (.ref x) name ex) Q E ⟨h,g,dr,t,os⟩:=by
 have O:Jk h x C:=⟨_,_,hx,rfl,rfl⟩;have Y:DD (hA prog w) h (N6 (.ref x)) (.ref C):=(Looks.ld hx).andThen .now;have e:=L3 (M:=hA prog w) X G.ga;have f:=L3 (M:=hA prog w) X G.gn;have B:=HI.ga.bind (.ref x);unfold getAttr getAttrBy;refine Eu (wpAny_mkText (Fz (Eu (Y.at (Eu (e.at ?_))))));show wpAny _ _ (Pt _ _ _ _ _ _) _ _ _;unfold Pt;refine Eu (f.at ?_);refine Eu (IQ (Fz ?_));have a:wpAny (hA prog w) A (Nr (.builtin "BaseException.__getattribute__") (.ref x) (.str name t)) (λv b=>v = .int i tk/\b=⟨h,g,dr,t+1,os⟩) (λ_ _=>False) ⟨h,g,dr,t+1,os⟩:=by unfold Nr;refine Eu (Ir B ?_);refine Iu (HG HI.ga.plain PySem.F.entry_bexc_ga (QM (s:=⟨h,g,dr,t+1,os⟩) X O G (K7 X hx J H R U W ?_)));exact⟨rfl,rfl⟩
 have I : ∀b,b=(⟨h,g,dr,t+1,os⟩:gE)->wpAny (hA prog w) A (handedOut<|.int i tk) Q E b:=λb z=>by subst z;exact handed_on rfl<|hq _
 cases ex with
 | false=>
  refine EG (show wpAny (hA prog w) A (Nr (.builtin "BaseException.__getattribute__") (.ref x) (.str name t)) _ _ _ from a) (λv b z=>?_) λ_ _ z=>z.elim;obtain⟨rfl,z⟩:=z;exact I _ z
 | true=>
  refine EG (show wpAny (hA prog w) A (Nr (.builtin "BaseException.__getattribute__") (.ref x) (.str name t)) _ _ _ from a) (λv b z=>?_) λ_ _ z=>z.elim;obtain⟨rfl,z⟩:=z;exact I _ z
end
end DL
namespace DL
open PySem PySem.Spec PySem.Calls PyProof.Rows
def ZH(e d:eI)(h:h7):Prop:=∃o,h.get? e=aI o/\o.dict=aI d
noncomputable def Q1(e:eI)(h:h7):Prop:=∃o a,h.get? e=aI o/\o.data = .fields a/\a[2]? = aI Gk
inductive DS{α:Type}:m6 α->Prop
 | pure (a:α):DS (.pure a)
 | raise (e:gv):DS (.raise e)
 | Dj (w:String):DS (.unsupported w)
 | rule {t:String} {k:Unit->m6 α} (h : ∀u,DS<|k u):DS (.rule t k)
 | at {p:ik} {k:Unit->m6 α} (h : ∀u,DS<|k u):DS (.at p k)
 | load {a:eI} {p:Option gv} {k:n0->m6 α} (h : ∀o,DS<|k o):DS (.load a p k)
 | update {a:eI} {p:Option gv} {f:n0->n0} {k:Unit->m6 α} (hf : ∀o,(f o).dict=o.dict/\(o.isFreed=dV->(f o).isFreed=dV)/\∀vs,o.data = .fields vs->∃P0,(f o).data = .fields P0/\P0[2]? = vs[2]?) (h : ∀u,DS<|k u):DS (.update a p f k)
 | alloc {o:n0} {k:eI->m6 α} (h : ∀a,DS<|k a):DS (.alloc o k)
 | register {a:eI} {k:Unit->m6 α}:DS (.register a k)
 | fresh {k:rk->m6 α} (h : ∀a,DS<|k a):DS (.fresh k)
 | ask {k:Setting->m6 α} (h : ∀a,DS<|k a):DS (.ask k)
 | stack {k:List (Code×ik)->m6 α} (h : ∀a,DS<|k a):DS (.stack k)
 | handled {b:Bool} {k:Option gv->m6 α} (h : ∀a,DS<|k a):DS (.handled b k)
 | point {l:List gv} {k:Unit->m6 α} (h : ∀a,DS<|k a):DS (.point l k)
theorem sX{H:Type}{M:B0}{Γ:PySem.Ctx}{e d:eI}{t:m6 H}(h:DS t) : ∀{Q:H->ik->gE->Prop} {E:gv->ik->gE->Prop} {p:ik} {s:gE},ZH e d s.heap->GO M Γ t Q E p s->
 GO M Γ t (λa G s'=>Q a G s'/\ZH e d s'.heap) (λx G s'=>E x G s'/\ZH e d s'.heap) p s:=by
 induction h with
 | pure a=>intro Q E p s b w;rw[GO]at w ⊢;exact⟨w,b⟩
 | raise x=>intro Q E p s b w;rw[GO]at w ⊢;exact⟨w,b⟩
 | Dj x=>intro Q E p s b w;rw[GO]at w;exact w.elim
 | rule h z=>intro Q E p s b w;rw[GO]at w ⊢;exact z _ b w
 | «at» h z=>intro Q E p s b w;rw[GO]at w ⊢;exact z _ b w
 | load h z=>intro Q E p s b w;rw[GO]at w ⊢;obtain⟨o,B,w⟩:=w;exact⟨o,B,z _ b w⟩
 | @update a p f k g h z=>
  intro Q E p s b w;rw[GO]at w ⊢;obtain⟨i,w⟩:=w;refine⟨i,z _ ?_ w⟩;obtain⟨o,B,I⟩:=b;by_cases q:a=e
  ·subst q
   exact⟨f o,FK _ B<|(g o).2.1 (Heap.get?_some_iff.mp B).2,by rw[(g o).1];exact I⟩
  ·exact⟨o,(Gi _ _ q).trans B,I⟩
 | alloc h z=>intro Q E p s b w;rw[GO]at w ⊢;obtain⟨o,B,I⟩:=b;exact z _ ⟨o,Ew _ B,I⟩ w
 | register=>intro Q E p s b w;rw[GO]at w;exact w.elim
 | fresh h z=>intro Q E p s b w;rw[GO]at w ⊢;exact z _ b w
 | ask h z=>intro Q E p s b w;rw[GO]at w ⊢;exact z _ b w
 | stack h z=>intro Q E p s b w;rw[GO]at w ⊢;exact z _ b w
 | handled h z=>intro Q E p s b w;rw[GO]at w ⊢;exact z _ b w
 | point h z=>intro Q E p s b w;rw[GO]at w ⊢;exact z _ b w
theorem lU{H:Type}{M:B0}{Γ:PySem.Ctx}{e:eI}{t:m6 H}(h:DS t) : ∀{Q:H->ik->gE->Prop} {E:gv->ik->gE->Prop} {p:ik} {s:gE},Q1 e s.heap->GO M Γ t Q E p s->
 GO M Γ t (λa G s'=>Q a G s'/\Q1 e s'.heap) (λx G s'=>E x G s'/\Q1 e s'.heap) p s:=by
 induction h with
 | pure a=>intro Q E p s b w;rw[GO]at w ⊢;exact⟨w,b⟩
 | raise x=>intro Q E p s b w;rw[GO]at w ⊢;exact⟨w,b⟩
 | Dj x=>intro Q E p s b w;rw[GO]at w;exact w.elim
 | rule h z=>intro Q E p s b w;rw[GO]at w ⊢;exact z _ b w
 | «at» h z=>intro Q E p s b w;rw[GO]at w ⊢;exact z _ b w
 | load h z=>intro Q E p s b w;rw[GO]at w ⊢;obtain⟨o,B,w⟩:=w;exact⟨o,B,z _ b w⟩
 | @update a p f k j h z=>
  intro Q E p s b w;rw[GO]at w ⊢;obtain⟨l,w⟩:=w;refine⟨l,z _ ?_ w⟩;obtain⟨o,d,B,I,i⟩:=b;by_cases q:a=e
  ·subst q
   obtain⟨g,m,O⟩:=(j o).2.2 d I;exact⟨f o,g,FK _ B<|(j o).2.1 (Heap.get?_some_iff.mp B).2,m,O.trans i⟩
  ·exact⟨o,d,(Gi _ _ q).trans B,I,i⟩
 | alloc h z=>intro Q E p s b w;rw[GO]at w ⊢;obtain⟨o,d,B,I⟩:=b;exact z _ ⟨o,d,Ew _ B,I⟩ w
 | register=>intro Q E p s b w;rw[GO]at w;exact w.elim
 | fresh h z=>intro Q E p s b w;rw[GO]at w ⊢;exact z _ b w
 | ask h z=>intro Q E p s b w;rw[GO]at w ⊢;exact z _ b w
 | stack h z=>intro Q E p s b w;rw[GO]at w ⊢;exact z _ b w
 | handled h z=>intro Q E p s b w;rw[GO]at w ⊢;exact z _ b w
 | point h z=>intro Q E p s b w;rw[GO]at w ⊢;exact z _ b w
theorem aq{G:Type}{M:B0}{A:l7}{e d:eI}{t:m6 G}{Q:G->gE->Prop}{E:MQ}{s:gE}(h:DS t)(H:ZH e d s.heap)(w:wpAny M A t Q E s) :
 wpAny M A t (λa s'=>Q a s'/\ZH e d s'.heap) (λx s'=>E x s'/\ZH e d s'.heap) s:=λΓ p z=>sX h H<|w Γ p z
theorem J4{G:Type}{M:B0}{A:l7}{e:eI}{t:m6 G}{Q:G->gE->Prop}{E:MQ}{s:gE}(h:DS t)(H:Q1 e s.heap)(w:wpAny M A t Q E s) :
 wpAny M A t (λa s'=>Q a s'/\Q1 e s'.heap) (λx s'=>E x s'/\Q1 e s'.heap) s:=λΓ p z=>lU h H<|w Γ p z
theorem DS.bind{G I:Type}{t:m6 G}{k:G->m6 I}(h:DS t)(H : ∀a,DS<|k a):DS (t >>= k):=by
 show DS (Sem.bind t k)
 induction h with
 | pure a=>exact H a
 | raise x=>exact .raise x
 | Dj x=>exact .Dj x
 | rule h z=>exact .rule z
 | «at» h z=>exact .at z
 | load h z=>exact .load z
 | update b h z=>exact .update b z
 | alloc h z=>exact .alloc z
 | register=>exact .register
 | fresh h z=>exact .fresh z
 | ask h z=>exact .ask z
 | stack h z=>exact .stack z
 | handled h z=>exact .handled z
 | point h z=>exact .point z
theorem Zr(g:Array gv->Array gv)(z : ∀G,(g G)[2]? = G[2]?)(o:n0):(Hx g o).dict=o.dict/\(o.isFreed=dV->(Hx g o).isFreed=dV)/\∀G,o.data = .fields G->∃H,(Hx g o).data = .fields H/\H[2]? = G[2]? :=by obtain⟨c,d,B,a⟩:=o;cases B<;>first | exact⟨rfl,λh=>h,λG q=>by cases q;exact⟨_,rfl,z _⟩⟩ | exact⟨rfl,λh=>h,λG q=>nomatch q⟩
theorem wO(v:gv)(i:Nat):DS (field v i):=by
 unfold field fieldsOf load
 repeat (first | exact DS.Dj _ | exact DS.pure _ | exact DS.raise _ | exact DS.register | refine DS.bind ?_ λ_=>?_ | refine DS.load λ_=>?_ | refine DS.rule λ_=>?_ | refine DS.alloc λ_=>?_ | refine DS.stack λ_=>?_ | refine DS.update (λo=>⟨rfl,λh=>h,λa q=>⟨a,q,rfl⟩⟩) λ_=>?_ | refine DS.update (Zr _<|by intro a;simp[GC,Pu]) λ_=>?_ | split)
theorem yG(v:gv)(i:Nat)(x:gv)(z:i≠2:=by decide):DS (OR v i x):=by
 unfold OR RJ update load
 repeat (first | exact DS.Dj _ | exact DS.pure _ | exact DS.raise _ | exact DS.register | refine DS.bind ?_ λ_=>?_ | refine DS.load λ_=>?_ | refine DS.rule λ_=>?_ | refine DS.alloc λ_=>?_ | refine DS.stack λ_=>?_ | refine DS.update (λo=>⟨rfl,λh=>h,λa q=>⟨a,q,rfl⟩⟩) λ_=>?_ | refine DS.update (Zr _<|by intro a;simp[GC,z]) λ_=>?_ | split)
theorem xP(e:gv)(f:Option eI):DS (Dx e f):=by
 unfold Dx;refine DS.bind (wO _ _) λ_=>?_;split
 ·exact yG _ _ _
 ·exact DS.pure _
theorem pB(ty:String)(G:List gv):DS (newFields ty G):=by
 unfold newFields newObj newObjAsIs
 repeat (first | exact DS.Dj _ | exact DS.pure _ | exact DS.raise _ | exact DS.register | refine DS.bind ?_ λ_=>?_ | refine DS.load λ_=>?_ | refine DS.rule λ_=>?_ | refine DS.alloc λ_=>?_ | refine DS.stack λ_=>?_ | refine DS.update (λo=>⟨rfl,λh=>h,λG q=>⟨G,q,rfl⟩⟩) λ_=>?_ | refine DS.update (Zr _<|by intro G;simp[GC,Pu]) λ_=>?_ | split)
theorem bV(f:eI)(b:Bool):DS (Rk f b):=by
 unfold Rk stack
 repeat (first | exact DS.Dj _ | exact DS.pure _ | exact DS.raise _ | exact DS.register | refine DS.bind ?_ λ_=>?_ | refine DS.load λ_=>?_ | refine DS.rule λ_=>?_ | refine DS.alloc λ_=>?_ | refine DS.stack λ_=>?_ | refine DS.update (λo=>⟨rfl,λh=>h,λa q=>⟨a,q,rfl⟩⟩) λ_=>?_ | refine DS.update (Zr _<|by intro a;simp[GC,Pu]) λ_=>?_ | split)
theorem Wt:DS SN:=by
 unfold SN
 repeat (first | exact DS.Dj _ | exact DS.pure _ | exact DS.raise _ | exact DS.register | refine DS.bind ?_ λ_=>?_ | refine DS.load λ_=>?_ | refine DS.rule λ_=>?_ | refine DS.alloc λ_=>?_ | refine DS.stack λ_=>?_ | refine DS.update (λo=>⟨rfl,λh=>h,λa q=>⟨a,q,rfl⟩⟩) λ_=>?_ | refine DS.update (Zr _<|by intro a;simp[GC,Pu]) λ_=>?_ | split)
theorem Wu(env:l0)(outer:List l0):DS (behindIsImport env outer):=by
 unfold behindIsImport;split
 ·exact DS.pure _
 ·split
  ·exact DS.pure _
  ·exact DS.bind (wO _ _) λ_=>DS.pure _
theorem iJ(env:l0)(b:Bool)(outer:List l0):DS (keptBack env b outer):=by
 unfold keptBack;split
 ·split
  ·exact DS.pure _
  ·exact DS.bind Wt λ_=>DS.pure _
 ·exact DS.pure _
theorem KG : ∀l:List l0,DS (readyFrames l)
 | []=>DS.pure _
 | env::outer=>by
  unfold readyFrames;split
  ·unfold load update
   refine DS.bind (DS.load λ_=>DS.pure _) λo=>?_;split
   ·exact DS.pure _
   ·refine DS.bind (Wu _ _) λ_=>DS.bind (iJ _ _ _) λ_=>DS.bind (DS.update (λo=>⟨rfl,λh=>by obtain⟨c,d,z,a⟩:=o;cases z<;>exact h,λb q=>⟨b,by obtain⟨c,d,z,a⟩:=o;cases q;rfl,rfl⟩⟩) λ_=>DS.pure _) λ_=>KG outer
  ·exact DS.Dj _
theorem bX(env:l0):DS (PySem.frameOf env):=by
 unfold PySem.frameOf frameEnvs stack;refine DS.bind (DS.bind (DS.stack λ_=>DS.pure _) λ_=>DS.pure _) λl=>DS.bind ?_ λ_=>?_
 ·unfold frameObject
  split
  ·exact DS.pure _
  ·exact DS.bind (KG _) λ_=>DS.pure _
 ·split
  ·exact DS.pure _
  ·exact DS.Dj _
theorem Ws(e:gv)(env:l0):DS (L5 e env):=by
 unfold L5;split
 ·refine DS.bind (wO _ _) λa=>?_
  have z : ∀f:eI,∀b:Bool,DS (do OR e 1 (<- EntryCells.newEntry a (<- PySem.frameOf env) .none (NS f) .none (<- Rk f b))):=λf b=>by refine DS.bind (bX _) λ_=>DS.bind (bV _ _) λ_=>?_;unfold EntryCells.newEntry;exact DS.bind (pB _ _) λ_=>yG _ _ _
  split
  ·refine DS.bind (wO _ _) λ_=>?_
   split
   ·exact DS.pure _
   ·exact DS.bind (yG _ _ _) λ_=>z _ _
  ·exact z _ _
 ·exact DS.Dj _
theorem vR(env:l0)(e:gv):DS (Dv env e):=by unfold Dv;exact DS.bind (Ws _ _) λ_=>xP _ _
noncomputable def n9(od:Option eI)(e:eI)(h:h7):Prop:=(∀d,od=aI d->ZH e d h)/\(od=cS->Q1 e h)
theorem n9.obj{od:Option eI}{e:eI}{B g2:h7}(x:n9 od e B)(k : ∀o,B.get? e=aI o->g2.get? e=aI o):n9 od e g2:=
 ⟨λd q=>by obtain⟨o,z,r⟩:=x.1 d q;exact⟨o,k o z,r⟩,λq=>by obtain⟨o,a,z,r⟩:=x.2 q;exact⟨o,a,k o z,r⟩⟩
theorem xZ{H:Type}{M:B0}{A:l7}{e:eI}{od:Option eI}{t:m6 H}{Q:H->gE->Prop}{E:MQ}{s:gE}(h:DS t)(G:n9 od e s.heap)(w:wpAny M A t Q E s) :
 wpAny M A t (λa s'=>Q a s'/\n9 od e s'.heap) E s:=by
 cases od with
 | none=>exact EG (J4 h (G.2 rfl) w) (λa s' z=>⟨z.1,(λd q=>nomatch q),λ_=>z.2⟩) λ_ _ z=>z.1
 | some d=>exact EG (aq h (G.1 d rfl) w) (λa s' z=>⟨z.1,(λb q=>by cases q;exact z.2),λq=>nomatch q⟩) λ_ _ z=>z.1
section
variable{M:B0}{A:l7}{E:MQ}{s:gE}{base:h7}{env:l0}{l outer:List l0}{L e:eI}{cls a0:gv}{od:Option eI}{Q:Unit->gE->Prop}
theorem V1(B:A.frames=aI (env::outer))(H:env.frame=aI L)(I:Gg base (env::outer) e cls a0 s.heap)(G:n9 od e s.heap)
 (O : ∀h',HK base (env::outer) e cls a0 L h'->s.heap.UpToSlots h'->n9 od e h'->Q () {s with heap:=h'}):wpAny M A (L5 (.ref e) env) Q E s:=by
 refine EG (xZ (Ws _ _) G<|wpAny_looks_onW (Q:=λ_ a=>∃h',a = {s with heap:=h'}/\HK base (env::outer) e cls a0 L h'/\s.heap.UpToSlots h') B H I λh' x y=>⟨h',rfl,x,y⟩) (λ_ a z=>?_) λ_ _ z=>z;obtain⟨⟨h',rfl,x,y⟩,w⟩:=z;exact O h' x y w
theorem V5(B:HK base l e cls a0 L s.heap)(G:n9 od e s.heap)(I : ∀h',Gg base l e cls a0 h'->s.heap.UpToSlots h'->n9 od e h'->Q () {s with heap:=h'}):wpAny M A (Dx (.ref e) cS) Q E s:=by refine EG (xZ (xP _ _) G<|wpAny_landsW (Q:=λ_ a=>∃h',a = {s with heap:=h'}/\Gg base l e cls a0 h'/\s.heap.UpToSlots h') B λh' x y=>⟨h',rfl,x,y⟩) (λ_ a z=>?_) λ_ _ z=>z;obtain⟨⟨h',rfl,x,y⟩,w⟩:=z;exact I h' x y w
theorem eV(B:Gg base l e cls a0 s.heap)(G:n9 od e s.heap)(I : ∀h',Gg base l e cls a0 h'->s.heap.UpToSlots h'->n9 od e h'->Q () {s with heap:=h'}):wpAny M A (Dx (.ref e) cS) Q E s:=by refine EG (xZ (xP _ _) G<|lands_againW (Q:=λ_ a=>∃h',a = {s with heap:=h'}/\Gg base l e cls a0 h'/\s.heap.UpToSlots h') B λh' x y=>⟨h',rfl,x,y⟩) (λ_ a z=>?_) λ_ _ z=>z;obtain⟨⟨h',rfl,x,y⟩,w⟩:=z;exact I h' x y w
theorem iu(B:A.frames=aI (env::outer))(H:env.frame=aI L)(I:Gg base (env::outer) e cls a0 s.heap)(G:n9 od e s.heap)
 (O : ∀h',Gg base outer e cls a0 h'->s.heap.UpToSlots h'->n9 od e h'->Q () {s with heap:=h'}):wpAny M A (Dv env<|.ref e) Q E s:=by
 refine EG (xZ (vR _ _) G<|wpAny_leaves_onW (Q:=λ_ a=>∃h',a = {s with heap:=h'}/\Gg base outer e cls a0 h'/\s.heap.UpToSlots h') B H I λh' x y=>⟨h',rfl,x,y⟩) (λ_ a z=>?_) λ_ _ z=>z;obtain⟨⟨h',rfl,x,y⟩,w⟩:=z;exact O h' x y w
theorem eL{B:n0}{G:Array gv}(I:A.frames=aI (env::outer))(hl:s.heap.FunFrames base (env::outer))(hf:env.frame=aI L)(O:s.heap.get? e=aI B)(R:base.StaysIn s.heap)(U:base.get? e=cS)(W:B.data = .fields G)
 (J:G[1]? = aI .none) (H:G[0]? = aI a0) (Z:n9 od e s.heap) (Y : ∀h',Heap.LeftW base (env::outer) e B.cls a0 s.heap h'->n9 od e h'->Q () {s with heap:=h'}):wpAny M A (Dv env<|.ref e) Q E s:=by
 refine EG (xZ (vR _ _) Z<|wpAny_leaving_firstW (Q:=λ_ a=>∃h',a = {s with heap:=h'}/\Heap.LeftW base (env::outer) e B.cls a0 s.heap h') I hl hf O R U W J H λh' x=>⟨h',rfl,x⟩) (λ_ a z=>?_) λ_ _ z=>z;obtain⟨⟨h',rfl,x⟩,w⟩:=z;exact Y h' x w
end
end DL
namespace DL
open PySem PySem.Spec PyProof.Rows L2
theorem qJ{P:i8}{w:i5}{H:Hp}{h:h7}{a:eI}{o:HO}(x:l6 P w H h a o) : ∃z,h.get? a=aI z:=by
 induction o with
 | lst d=>obtain⟨_,_,_,_,e⟩:=x;exact⟨_,e⟩
 | tup d=>obtain⟨_,_,_,z,e,_⟩:=x;exact⟨_,e⟩
 | dK b=>obtain⟨_,_,_,_,o,_,_,e,_⟩:=x;exact⟨_,e⟩
 | dT b=>obtain⟨_,_,_,_,o,_,_,e,_⟩:=x;exact⟨_,e⟩
 | set S n=>obtain⟨o,_,_,_,e,_⟩:=x;exact⟨_,e⟩
 | ins C g fs=>obtain⟨_,_,_,e,_⟩:=x;exact⟨_,e⟩
 | own y=>obtain⟨_,e⟩:=x;exact⟨_,e⟩
 | xd fs=>obtain⟨_,⟨_,_,_,e,_⟩,_⟩:=x;exact⟨_,e⟩
 | OP lo i=>obtain⟨_,_,_,e⟩:=x;exact⟨_,e⟩
 | xA z u _=>obtain⟨e,_⟩:=x;exact⟨_,e⟩
 | F8 j=>exact⟨_,(show h.get? a=aI _ from x)⟩
 | met f y=>exact⟨_,(show h.get? a=aI _ from x)⟩
 | ext l=>obtain⟨_,⟨_,e⟩,_⟩:=x;exact⟨_,e⟩
theorem qb{P:i8}{w:i5}{H:Hp}{h h':h7}(x:m5 P w H h)(k : ∀b u,H b≠cS->h.get? b=aI u->h'.get? b=aI u):m5 P w H h':=λa o e=>
 (x a o e).vr (λb u z q=>k b u (by
   rcases z with rfl | z
   ·rw[e];simp
   ·rw[z];simp) q) (λ_ q=>q) λ_ _ q=>q
theorem Wg{P:i8}{w:i5}{H:Hp}{h:h7}{a:eI}{G:h7->Prop}(x:m5 P w H h)(J:H a=cS)(L:G h)(O : ∃o,h.get? a=aI o)
 (I : ∀z g2:h7,G z->(∀o,z.get? a=aI o->g2.get? a=aI o)->G g2):m5 P w (upd H a<|.ext G) h:=λb o e=>by
 by_cases B:b=a
 ·subst B;rw[zt]at e;cases e;exact⟨L,O,I⟩
 ·rw[zu B]at e
  exact(x b o e).vr (λ_ _ _ q=>q) (λc q=>by rw[zu (zL q J)];exact q) λc d q=>by rw[zu (zL q J)];exact q
structure RU(l:List l0)(a C:eI)(H':Hp)(h0 h:h7):Prop where
 ex : ∃B t,Gg B l a (.ref C) (.ref t) h/\(∀b o,h.get? b=aI o->H' b≠cS->B.get? b=aI o)/\∀b o,h.get? b=aI o->h0.get? b≠cS->b∉l5 l->B.get? b=aI o
noncomputable def m9(P:i8)(w:i5):C9:=λb H s E e d=>∃a C f g,e = .ref a/\E (.ref C) g f/\n9 g a d.heap/\d.os=s.os/\Dy d.gens/\Un (l5 b) [] H f s.heap d.heap/\m5 P w f d.heap/\f a=cS/\s.heap.get? a=cS/\RU b a C f s.heap d.heap
section
variable{P:i8}{w:i5}{K:Es}{mg:MJ}{base:h7}{N:List Str}{qual:Str}{scope:i2}{f:eI}{cd:gv}{A:l7}{outer:List l0}{s:gE}{H:Hp}{E:XK}
theorem Ja{L:MW}{σ:St}{J:Hp}{G:gE}{h':h7}{a C:eI}{Z:List gv}(I:Inv (wz (m9 P w) P w K mg base N qual scope f cd A outer s H E) L σ J G)
 (hx:Heap.MadeExcOf G.heap h' a (.ref C) Z) (hE:E (.ref C) cS J):(wz (m9 P w) P w K mg base N qual scope f cd A outer s H E).xe (.ref a) {G with heap:=h'}:=by
 generalize O:wz (m9 P w) P w K mg base N qual scope f cd A outer s H E=X at I;have x:X.stack=X.env::X.outer:=by rw[<- O];rfl
 have an:X.env.frame=aI X.env.locals:=by rw[<- O];rfl
 have U:X.ex=[]:=by rw[<- O];rfl
 have ap:=I.stack;have DK:=I.D8;have ar : ∀env∈X.stack,∀b,env.frame=aI b->b∈l5 X.stack:=λenv he b B=>HS.mpr ⟨env,he,B⟩;have l : ∀b o,X.i6.heap.get? b=aI o->∃g,G.heap.get? b=aI g:=λb o q=>I.base.there b o q (by rw[U];simp);have ax : ∀b o,X.i6.heap.get? b=aI o->b≠X.env.locals:=λb o q=>ER<|EJ (EH q) I.ok.above;have a2 : ∀b o,X.i6.heap.get? b=aI o->b∉X.fs->b∉l5 X.stack:=λb o q n i=>by
  rcases ED.mp (I.F6 b i)with z | z
  ·exact ax b o q z
  ·exact n z
 have F:wpAny (hA P w) X.A (Dv X.env<|.ref a) (λ_ R=>m9 P w outer H s E (.ref a) R) (λm R=>m9 P w outer H s E m R) {G with heap:=h'}:=by
  have f2:Q1 a h':=by obtain⟨t,q,_⟩:=hx.there;exact⟨_,_,q,rfl,rfl⟩
  refine EG (J4 (e:=a) (s:={G with heap:=h'}) (vR X.env<|.ref a) f2 (Q:=λ_ R=>Q1 a R.heap->m9 P w outer H s E (.ref a) R) (E:=λm R=>m9 P w outer H s E m R) ?_) (λ_ _ z=>z.1 z.2) λ_ _ z=>z.1;refine wpAny_leaves_madeW (base:=FG G.heap<|l5 X.stack) (h:=G.heap) (env:=X.env) (outer:=X.outer) (by rw[<- x];exact I.ok.frames) an (λb o q=>HH _ q)
   (by rw[<- x];exact Lc ap ar) hx λbb t x1 x2 x3 T bd=>?_
  have B7 : ∀b o,G.heap.get? b=aI o->b∉l5 X.stack->bb.get? b=aI o:=λb o q n=>x1.1 b o<|FW _ q n;have e1:X.outer=outer:=by rw[<- O];rfl
  have e2:X.DB=H:=by rw[<- O];rfl
  have e3:X.i6=s:=by rw[<- O];rfl
  have e4:X.prog=P:=by rw[<- O];rfl
  have e5:X.w=w:=by rw[<- O];rfl
  have S : ∀b u,J b=aI u->∃o,G.heap.get? b=aI o:=λb u q=>qJ<|I.h8 b u q;have a9 : ∀b u,J b=aI u->b∉l5 X.stack:=λb u q i=>by rw[DK b i]at q;cases q
  have bl:J a=cS:=by
   cases q:J a with
   | none=>rfl
   | some u=>obtain⟨o,z⟩:=S a u q;rw[hx.new]at z;cases z
  have bn:X.i6.heap.get? a=cS:=by
   cases q:X.i6.heap.get? a with
   | none=>rfl
   | some o=>obtain⟨g,z⟩:=l a o q;rw[hx.new]at z;cases z
  rw[<- e3]at *;rw[<- e2]at *;subst e1;refine⟨a,C,J,cS,rfl,hE,⟨(λd q=>nomatch q),λ_=>bd⟩,?_,I.bare,⟨λb o q n B _=>?_,λb o q n B _=>?_,λb o q n _=>?_,λb o q _=>?_,I.base.t8,I.base.u7,I.base.t7⟩,?_,bl,bn,⟨_,t,x1,λb o q n=>?_,λb o q n B=>?_⟩⟩
  ·exact I.os
  ·exact B7 b o (I.base.keep b o q n B<|by rw[U];simp)<|a2 b o q B
  ·obtain⟨sl,z⟩:=I.base.slot b o q n B (by rw[U];simp)
   have W : ∀Z,o.data ≠ .fields Z:=by obtain⟨_,g,j,r⟩:=I.ok.pw.mem B;rw[q]at j;cases j;exact r
   obtain⟨y,p⟩:=T b _ (hx.keeps b _ z) W;exact⟨y,p⟩
  ·exact I.base.free b o q n (by rw[U];simp)
  ·obtain⟨g,z⟩:=l b o q
   by_cases B:b∈X.fs
   ·obtain⟨_,Y,j,r⟩:=I.pw.mem B
    obtain⟨y,p⟩:=T b _ (hx.keeps b _ j) r;exact⟨_,p⟩
   ·exact⟨g,B7 b g z<|a2 b o q B⟩
  ·rw[<- e4,<- e5]
   exact qb I.h8 λb u n q=>B7 b u q λi=>n<|DK b i
  ·cases q1:J b with
   | none=>exact absurd q1 n
   | some u=>
    obtain⟨Y,z⟩:=S b u q1;have:=B7 b Y z<|a9 b u q1;rw[q]at this;cases this;exact FW _ z<|a9 b u q1
  ·cases q1:X.i6.heap.get? b with
   | none=>exact absurd q1 n
   | some M=>
    obtain⟨Y,z⟩:=l b M q1;have W:=a2 b M q1 B;have:=B7 b Y z W;rw[q]at this;cases this;exact FW _ z W
 rw[<- O]at F ⊢;exact F
theorem Zw{J:MW}{σ:St}{Z:Hp}{L s':gE}{e:gv}{E':XK}(I:Inv (wz (m9 P w) P w K mg base N qual scope f cd A outer s H E) J σ Z L)
 (hx:m9 P w (wz (m9 P w) P w K mg base N qual scope f cd A outer s H E).stack Z L E' e s') (hE : ∀c o G,E' c o G->E c o G):(wz (m9 P w) P w K mg base N qual scope f cd A outer s H E).xe e s':=by
 generalize Y:wz (m9 P w) P w K mg base N qual scope f cd A outer s H E=X at I hx;have x:X.stack=X.env::X.outer:=by rw[<- Y];rfl
 have as:X.env.frame=aI X.env.locals:=by rw[<- Y];rfl
 have U:X.ex=[]:=by rw[<- Y];rfl
 have DK:=I.D8;have h : ∀b o,X.i6.heap.get? b=aI o->∃j,L.heap.get? b=aI j:=λb o q=>I.base.there b o q (by rw[U];simp);have ax : ∀b o,X.i6.heap.get? b=aI o->b≠X.env.locals:=λb o q=>ER<|EJ (EH q) I.ok.above;have a4 : ∀b o,X.i6.heap.get? b=aI o->b∉X.fs->b∉l5 X.stack:=λb o q n hm=>by
  rcases ED.mp (I.F6 b hm)with z | z
  ·exact ax b o q z
  ·exact n z
 obtain⟨a,C,G,od,rfl,hC,bb,bd,be,un,h8,bg,bi,⟨B,t,y,ak,a6⟩⟩:=hx;have F:wpAny (hA P w) X.A (Dv X.env<|.ref a) (λ_ p=>m9 P w outer H s E (.ref a) p) (λe' p=>m9 P w outer H s E e' p) s':=by
  rw[x]at y;refine iu (by rw[<- x];exact I.ok.frames) as y bb λbn x1 Q bv=>?_;have st : ∀b o,B.get? b=aI o->bn.get? b=aI o:=λb o q=>x1.1 b o q;have e1:X.outer=outer:=by rw[<- Y];rfl
  have e2:X.DB=H:=by rw[<- Y];rfl
  have e3:X.i6=s:=by rw[<- Y];rfl
  have tr : ∀b u,G b=aI u->∃o,s'.heap.get? b=aI o:=λb u q=>qJ<|h8 b u q;have c2:X.i6.heap.get? a=cS:=by
   cases q:X.i6.heap.get? a with
   | none=>rfl
   | some o=>obtain⟨j,z⟩:=h a o q;rw[bi]at z;cases z
  rw[<- e3]at *;rw[<- e2]at *;subst e1;refine⟨a,C,G,od,rfl,hE _ _ _ hC,bv,?_,be,⟨λb o q n O _=>?_,λb o q n O _=>?_,λb o q n _=>?_,λb o q _=>?_,λb S q=>un.t8 b S<|I.base.t8 b S q,λb o u q=>un.u7 b o u<|I.base.u7 b o u q,λb ps q=>?_⟩,?_,bg,c2,⟨B,t,x1,λb o q n=>?_,λb o q n O=>?_⟩⟩
  ·exact bd.trans I.os
  ·have i:=I.base.keep b o q n O (by rw[U];simp)
   have k2:=un.keep b o i (I.base.free b o q n<|by rw[U];simp) (a4 b o q O) ⋯;exact st b o<|a6 b o k2 (by rw[i];simp)<|a4 b o q O
  ·obtain⟨sl,z⟩:=I.base.slot b o q n O (by rw[U];simp)
   have r : ∀vs,o.data ≠ .fields vs:=by obtain⟨_,j,l,R⟩:=I.ok.pw.mem O;rw[q]at l;cases l;exact R
   obtain⟨c3,R⟩:=un.any z (I.base.free b o q n<|by rw[U];simp) ⋯;obtain⟨c4,z'⟩:=Q b _ R r;exact⟨c4,z'⟩
  ·obtain⟨W,i⟩:=h b o q
   exact un.free b W i (I.base.free b o q n<|by rw[U];simp) ⋯
  ·obtain⟨W,z⟩:=h b o q
   obtain⟨g,R⟩:=un.there b W z ⋯;by_cases O:b∈X.fs
   ·obtain⟨_,j,T,y2⟩:=I.ok.pw.mem O
    rw[q]at T;cases T;obtain⟨sl,d⟩:=I.base.any q (I.ok.B5 b O) (by rw[U];simp);obtain⟨c3,m⟩:=un.any d (I.base.free b o q (I.ok.B5 b O)<|by rw[U];simp) ⋯;obtain⟨ca,z5⟩:=Q b _ m y2;exact⟨_,z5⟩
   ·exact⟨g,st b g<|a6 b g R (by rw[z];simp)<|a4 b o q O⟩
  ·obtain⟨m1,l⟩:=I.base.t7 b ps q
   obtain⟨m2,R⟩:=un.t7 b _ l;exact⟨m1++m2,by rw[R,LL]⟩
  ·exact qb h8 λb u n q=>st b u<|ak b u q n
  ·cases q1:G b with
   | none=>exact absurd q1 n
   | some u=>
    obtain⟨W,z⟩:=tr b u q1;have R:=ak b W z (by rw[q1];simp);have d:=st b W R;rw[q]at d;cases d;exact R
  ·cases q1:X.i6.heap.get? b with
   | none=>exact absurd q1 n
   | some M=>
    obtain⟨W,z⟩:=h b M q1;obtain⟨g,R⟩:=un.there b W z ⋯;have r:=a4 b M q1 O;have d:=a6 b g R (by rw[z];simp) r;have m:=st b g d;rw[q]at m;cases m;exact d
 rw[<- Y]at F ⊢;exact F
theorem Jb{Z:MW}{σ:St}{J:Hp}{G:gE}{a C d t:eI}{L:h7->Prop}(I:Inv (wz (m9 P w) P w K mg base N qual scope f cd A outer s H E) Z σ J G)
 (Sd:J a=aI (.ext L)) (he:G.heap.get? a=aI (ZR C (aI d) t)) (hs:s.heap.get? a=cS) (hE:E (.ref C) (aI d) (λb=>if b=a then cS else J b)):(wz (m9 P w) P w K mg base N qual scope f cd A outer s H E).xe (.ref a) G:=by
 generalize O:wz (m9 P w) P w K mg base N qual scope f cd A outer s H E=X at I;have Q:X.stack=X.env::X.outer:=by rw[<- O];rfl
 have bd:X.env.frame=aI X.env.locals:=by rw[<- O];rfl
 have g:X.ex=[]:=by rw[<- O];rfl
 have be:=I.stack;have x:=I.D8;have bg : ∀env∈X.stack,∀b,env.frame=aI b->b∈a::l5 X.stack:=λenv he b B=>EK _<|HS.mpr ⟨env,he,B⟩;have S : ∀b o,X.i6.heap.get? b=aI o->∃e,G.heap.get? b=aI e:=λb o q=>I.base.there b o q (by rw[g];simp);have bi : ∀b o,X.i6.heap.get? b=aI o->b≠X.env.locals:=λb o q=>ER<|EJ (EH q) I.ok.above;have a6 : ∀b o,X.i6.heap.get? b=aI o->b∉X.fs->b∉l5 X.stack:=λb o q n r=>by
  rcases ED.mp (I.F6 b r)with z | z
  ·exact bi b o q z
  ·exact n z
 have e1:X.outer=outer:=by rw[<- O];rfl
 have e2:X.DB=H:=by rw[<- O];rfl
 have e3:X.i6=s:=by rw[<- O];rfl
 have e4:X.prog=P:=by rw[<- O];rfl
 have e5:X.w=w:=by rw[<- O];rfl
 have off : ∀b o,J b=aI o->(∀L,o ≠ .ext L)->(if b=a then cS else J b)=aI o:=λb o q z=>by rw[RQ (λw=>by rw[w,Sd]at q;cases q;exact z _ rfl),q]
 have T:X.i6.heap.get? a=cS:=by rw[e3];exact hs
 have bv:m5 X.prog X.w (λb=>if b=a then cS else J b) G.heap:=λb o q=>by
  have q:(if b=a then cS else J b)=aI o:=q;by_cases B:b=a
  ·rw[MY B]at q;cases q
  ·rw[RQ B]at q
   exact(I.h8 b o q).vr (λ_ _ _ z=>z) (λc z=>off c _ z<|λL w=>nomatch w) λc xs z=>off c _ z<|λL w=>nomatch w
 have go:wpAny (hA P w) X.A (Dv X.env<|.ref a) (λ_ p=>m9 P w outer H s E (.ref a) p) (λe' p=>m9 P w outer H s E e' p) G:=by
  have ar:(FG G.heap (a::l5 X.stack)).get? a=cS:=Ik _ ⋯;refine eL (od:=aI d) (base:=FG G.heap (a::l5 X.stack)) (env:=X.env) (outer:=X.outer) (a0:= .ref t) (by rw[<- Q];exact I.ok.frames) (by rw[<- Q];exact Lc be bg) bd he (λb o q=>HH _ q) ar rfl rfl rfl
   ⟨(λd' q=>by cases q;exact⟨_,he,rfl⟩),λq=>nomatch q⟩ λc1 hL c3=>?_
  obtain⟨k1,⟨_,_,k2⟩,k3,x4⟩:=hL;have B7 : ∀b o,G.heap.get? b=aI o->b≠a->b∉l5 X.stack->(FG G.heap (a::l5 X.stack)).get? b=aI o:=λb o q R U=>FW _ q (by simp[R];exact U);have W : ∀b o,G.heap.get? b=aI o->b≠a->b∉l5 X.stack->c1.get? b=aI o:=λb o q R U=>k1 b o<|B7 b o q R U;rw[<- e3]at *;rw[<- e2]at *;subst e1;have Y : ∀b o,X.i6.heap.get? b=aI o->b≠a:=λb o q z=>by rw[z,T]at q;cases q
  have y : ∀b,(if b=a then cS else J b)≠cS->b≠a/\b∉l5 X.stack/\∃o,G.heap.get? b=aI o:=λb n=>by
   by_cases B:b=a
   ·rw[MY B]at n;exact absurd rfl n
   ·rw[RQ B]at n
    cases q:J b with
    | none=>exact absurd q n
    | some u=>exact⟨B,(λr=>by rw[x b r]at q;cases q),qJ<|I.h8 b u q⟩
  refine⟨a,C,_,aI d,rfl,hE,c3,I.os,I.bare,⟨λb o q n B _=>?_,λb o q n B _=>?_,λb o q n _=>?_,λb o q _=>?_,λb xs q=>off b _ (I.base.t8 b xs q)<|λL w=>(nomatch w),λb o u q=>off b _ (I.base.u7 b o u q)<|λL w=>(nomatch w),λb ps q=>?_⟩,?_,MY rfl,T,⟨_,t,⟨k1,ar,k2,k3⟩,λb o q n=>?_,λb o q n B=>?_⟩⟩
  ·exact W b o (I.base.keep b o q n B<|by rw[g];simp) (Y b o q)<|a6 b o q B
  ·obtain⟨sl,z⟩:=I.base.slot b o q n B (by rw[g];simp)
   have h : ∀vs,o.data ≠ .fields vs:=by obtain⟨_,e,l,M⟩:=I.ok.pw.mem B;rw[q]at l;cases l;exact M
   obtain⟨ax,F⟩:=x4 b _ z h;exact⟨ax,F⟩
  ·rw[RQ (Y b o q)];exact I.base.free b o q n (by rw[g];simp)
  ·obtain⟨e,z⟩:=S b o q
   by_cases B:b∈X.fs
   ·obtain⟨_,j,l,M⟩:=I.pw.mem B
    obtain⟨ax,F⟩:=x4 b _ l M;exact⟨_,F⟩
   ·exact⟨e,W b e z (Y b o q)<|a6 b o q B⟩
  ·obtain⟨m,z⟩:=I.base.t7 b ps q
   exact⟨m,off b _ z<|λL w=>nomatch w⟩
  ·rw[<- e4,<- e5]
   exact qb bv λb u n q=>W b u q (y b n).1 (y b n).2.1
  ·obtain⟨R,U,j,z⟩:=y b n
   have:=W b j z R U;rw[q]at this;cases this;exact B7 b o z R U
  ·cases q1:X.i6.heap.get? b with
   | none=>exact absurd q1 n
   | some i=>
    obtain⟨j,z⟩:=S b i q1;have h:=a6 b i q1 B;have:=W b j z (Y b i q1) h;rw[q]at this;cases this;exact B7 b o z (Y b i q1) h
 rw[<- O]at go ⊢;exact go
end
noncomputable def lJ(o:n0):Option ClassData:=match o.data with
 | .cls a=>aI a
 | _=>cS
noncomputable def sW(K:Es)(C:eI):Bool:=match K.lookup C with
 | some o=>o.cls==HF "type" && o.slots.size==6 && (o.slots.toList.drop 4).take 1 == [aI (Value.builtin "ValueError.__new__")] && (match lJ o with
  | some a=>a.mro.take 1 == [EO C] && !a.hasDel && IK K wh (a.mro.drop 1) && IL K a.ns && GN K a.ns "__init__" == aI cS
  | none=>dV)
 | none=>dV
theorem cX{G:Type}{l:List G}{a:G}(h:l.length=6)(e:(l.drop 4).take 1=[a]) : ∃z b1 b2 b3 b5,l=[z,b1,b2,b3,a,b5]:=by
 cases l with
 | nil=>cases h
 | cons z l=>cases l with
  | nil=>cases h
  | cons b1 l=>cases l with
   | nil=>cases h
   | cons b2 l=>cases l with
    | nil=>cases h
    | cons b3 l=>cases l with
     | nil=>cases h
     | cons b4 l=>cases l with
      | nil=>cases h
      | cons b5 l=>cases l with
       | nil=>
        cases e;exact⟨z,b1,b2,b3,b5,rfl⟩
       | cons b6 l=>simp at h
theorem dD{G:Type}{l:List G}{a:G}(e:l.take 1=[a]):l=a::l.drop 1:=by
 cases l with
 | nil=>cases e
 | cons b l=>cases e;rfl
structure XC(K:Es)(mg:MJ)(c:Str):Prop where
 all:wB K=cI
 mem:c∈o3
 ex : ∃C,xW K c=aI C/\mg c=aI (.ref C)/\sW K C=cI
noncomputable def y0(c:Xn)(od:Option eI)(H0:Hp):Prop:=match c.2 with
 | none=>od=cS
 | some i=>∃d,od=aI d/\H0 d=aI (.xd [(vx c.1,.int i)])
noncomputable def XW(X:Cx)(B I:Hp)(c:Xn):Prop:=(∀(f:MW) (z:St) (h g:Hp) (i:gE) (m:h7) (a C:eI) (r:List gv),Inv X f z h i->Ext B I g h->wB X.K=cI->c.1∈o3->xW X.K c.1=aI C->c.2=cS->
 Heap.MadeExcOf i.heap m a (.ref C) r->X.xe (.ref a) {i with heap:=m})/\
 (∀(f:MW) (z:St) (h g:Hp) (i:gE) (e:gv) (n:gE),Inv X f z h i->Ext B I g h->
   m9 X.prog X.w X.stack h i (λl p o=>∃C j,l = .ref C/\wB X.K=cI/\c.1∈o3/\xW X.K c.1=aI C/\y0 c p j/\Ext g h j o) e n->X.xe e n)/\
 ∀(f:MW) (z:St) (h g:Hp) (i:gE) (a C d t:eI) (s:h7->Prop),Inv X f z h i->h a=aI (.ext s)->i.heap.get? a=aI (ZR C (aI d) t)->(X.ex=[]->X.i6.heap.get? a=cS)->
  Ext B I g (λb=>if b=a then cS else h b)->wB X.K=cI->c.1∈o3->xW X.K c.1=aI C->y0 c (aI d) g->X.xe (.ref a) i
noncomputable def Px(X:Cx)(st:i7)(G:CO Xn):Prop:=∀(a:MW) (s:gE) (d:St) (H z B e:Hp) (b:Ctx) (c:Xn),Inv X a d H s->RS X.K z B e H d b->G b=aI c->XW X z B c->
 wpAny (hA X.prog X.w) X.A (exec st X.env) (λ_ _=>False) X.xe s
noncomputable def E1(X:Cx)(I:List i7)(G:CO Xn):Prop:=∀(a:MW) (s:gE) (d:St) (H z B e:Hp) (b:Ctx) (c:Xn),Inv X a d H s->RS X.K z B e H d b->G b=aI c->XW X z B c->
 wpAny (hA X.prog X.w) X.A (execs I X.env) (λ_ _=>False) X.xe s
section
variable{X:Cx}{sc:i2}{N L:List Str}{k:Nat}{st:i7}{rest:List i7}{G G':CO Xn}{F:CO Fl}
theorem SX.m4(h:SX X sc N L k)(E:MQ):SX (X.m4 E) sc N L k:=⟨h.xg,h.eN,h.nd,h.calm,h.room,h.fn⟩
theorem Vl:Px X st n7:=λa s f H z B b d c I O e _=>by cases e
theorem vZ{J:List i7}:E1 X J n7:=λa s f H z B b d c I O e _=>by cases e
theorem qQ{rest:List i7}(h:Px X st G):E1 X (st::rest) G:=λa s f H B O b d c I R e w=>
 GD (EG (h a s f H B O b d c I R e w) (λ_ _ z=>z.elim) λ_ _ z=>z)
theorem yV(J:Px X st G)(Z:pa X.n5 st F)(W:E1 X rest G'):E1 X (st::rest) (vy G F G'):=λb s m H B O l j c I U e w=>by
 unfold vy at e;cases q:G j with
 | some r=>
  rw[q]at e;cases e;exact qQ J b s m H B O l j c I U q w
 | none=>
  rw[q]at e;obtain⟨Y,o,i⟩:=zc e;cases Y with
  | next d=>
   have i:G' d=aI c:=i;refine GD<|EG (Z b s m H {nx:=λg h=>∃a,RS X.K B O a h g d,rt:=λ_ _=>False} (I.m4 _) ⟨B,O,l,j,.next d,U,o,λg h a R=>⟨a,R⟩⟩) (λf p z=>?_) λ_ _ z=>z.elim;cases f with
   | next=>
    obtain⟨g,h,n,a,R⟩:=z;exact W b p g h B O a d c n.sh R i w
   | ret v=>obtain⟨_,_,_,_,_,z⟩:=z;exact z.elim
   | brk=>obtain⟨_,_,_,z⟩:=z;exact z.elim
   | cont=>obtain⟨_,_,_,z⟩:=z;exact z.elim
  | _=>cases i
theorem Qn{J:CO Bool}{c:hH}{x y:List i7}{pos:ik}(Z:q5 X.n5 c J)(Y:E1 X x G)(W:E1 X y G'):Px X (.If c x y pos) (oI J G G'):=λa s i H O R l h n I B e w=>by
 obtain⟨t,p,g⟩:=zc e;refine wpAny_If<|EG (Z a s i H (λb j=>b=t/\∃d,Ext l H d j) (I.m4 _) ⟨l,h,t,B.rc,p,λj d x=>⟨rfl,d,x⟩⟩) (λb o z=>?_) λ_ _ z=>z.elim;obtain⟨m,U,rfl,f,x1⟩:=z;cases b with
 | true=>rw[MY rfl]at g;exact Y a o i m O R f h n U.sh (B.step x1) g w
 | false=>rw[RQ ES]at g;exact W a o i m O R f h n U.sh (B.step x1) g w
theorem wG{a:hH}{f:CO D}{c:Str}{np cpos pos:ik}(h:SX X.n5 sc N L k)(hc:qN sc c=cI)(x:XC X.K X.mg c)(ha:PV X.n5 a f)(hf : ∀γ,∃d,f γ=aI d:=by intro γ;exact⟨_,rfl⟩)
 (hs:i0 [a] X.env=[(dV,hX a X.env)]:=by rfl):Px X (.Raise (aI (.Call (.Name c np) [a] [] cpos)) cS pos) (YU c):=λi s σ H F0 F1 P γ cc I rs e w=>by
 cases e;obtain⟨C,x1,x2,x3⟩:=x.ex;have M:=GJ;have hh:X.A.handled=cS:=I.ok.hd (show X.calm=cI from h.calm);have T:=h.gl hc;obtain⟨d,m⟩:=hf γ;have KI:=I.i9;have cls : ∃nm q N bs bm hdct sn sub ab col dd k0 k1 k2 k3 k5,X.K.lookup C=aI (MO nm q C N bs bm hdct sn sub ab col dd k0 k1 k2 k3 k5 "ValueError.__new__")/\IK X.K wh bm=cI/\IL X.K N=cI/\GN X.K N "__init__" = aI cS:=by
  unfold sW at x3;cases r:X.K.lookup C with
  | none=>rw[r]at x3;cases x3
  | some o=>
   rw[r]at x3;obtain⟨oc,dd,E,G⟩:=o;simp only[Ex,beq_iff_eq]at x3;obtain⟨⟨⟨y1,y2⟩,y3⟩,O⟩:=x3;subst y1;obtain⟨k0,k1,k2,k3,k5,hs⟩:=cX (by simpa using y2) y3;cases m:lJ ⟨.type "type",dd,E,G⟩with
   | none=>rw[m]at O;cases O
   | some cd=>
    rw[m]at O;have b0:E = .cls cd:=by
     unfold lJ at m;cases E with
     | cls c3=>cases m;rfl
     | _=>cases m
    subst b0;simp only[Ex,beq_iff_eq,Gp]at O;obtain⟨⟨⟨⟨y5,Z⟩,R⟩,b⟩,n⟩:=O;obtain⟨nm,bs,F,ns,qn,bd,sn,sub,ab,col,c4⟩:=cd;dsimp only at y5 Z R b n;subst Z;have be:G = #[k0,k1,k2,k3,aI (.builtin "ValueError.__new__"),k5]:=by obtain⟨l⟩:=G;simp only at hs;rw[hs]
    subst be;have p:=dD y5;generalize F.drop 1=bm at p R;subst p;exact⟨nm,qn,ns,bs,bm,bd,sn,sub,ab,col,dd,k0,k1,k2,k3,k5,rfl,R,b,n⟩
 obtain⟨nm,q,B,bs,bm,hdct,sn,sub,ab,col,dd,k0,k1,k2,k3,k5,r,R,b,n⟩:=cls;have S : ∀{g:h7},X.K.In g->Nh g wh bm:=λY=>L9 Y R;refine wpAny_Raise_call_subT (C:=C) (nm:=nm) (q:=q) (N:=B) (bs:=bs) (bm:=bm) (hdct:=hdct) (sn:=sn) (sub:=sub) (ab:=ab) (col:=col) (dd:=dd) (k0:=k0) (k1:=k1) (k2:=k2) (k3:=k3) (k5:=k5)
  M (mN:=X.base.nsMap B) ((S KI).hasType M.hasBase) hh (by rw[hs];rfl) (PySem.W.nsMap_none_of_in I.ok.mod.DX b n) (xH I (show Gl X c from T.1) x2 ⟨rfl,?_⟩ T.2.2)
 have bg:PA X.n5 [a] _:=jk ha j9 (show i0 [a] X.n5.env=[(dV,hX a X.n5.env)]from hs);have ak:=bg cpos i s σ H (λvs y=>∃v,vs=[v]/\∃j,Ext P H j y) (I.m4 _) ⟨P,γ,d,rs.rc,m,λv H' t J rr=>⟨v,rfl,t,J⟩⟩;rw[hs];rw[show i0 [a] X.n5.env=[(dV,hX a X.env)]from hs]at ak;refine Iq<|EG ak (λus s2 hZ=>?_) λ_ _ z=>z.elim;obtain⟨vs,y,U,rv,v,ev,j,J⟩:=hZ;subst ev;obtain⟨u,rfl,ru⟩:=kO rv;have U:=U.sh;have Q:=U.i9;have n1:X.base.Ns B (X.base.nsMap B):= .of_isNs (PySem.W.isNs_of_in I.ok.mod.DX b);have c0:s2.heap.Ns B (X.base.nsMap B):=n1.keeps U.bk;exact⟨rfl,by show 1<=j3;decide,Q _ _ r,c0,S Q,λh' e p=>w.1 i σ y j s2 h' e C _ U (rs.ext.trans J) x.all x.mem x1 rfl p⟩
end
noncomputable def NZ(K:Es)(n:Nat)(G:List D->Option Xn):Sp:=λg H _ E=>∃b d c,jn b H/\hF K b d g/\d.length=n/\G d=aI c/\
 ∀C e a f,wB K=cI->c.1∈o3->xW K c.1=aI C->y0 c f a->Ext b H a e->E (.ref C) f e
theorem NZ.len{K:Es}{n:Nat}{G:List D->Option Xn}{J:List Str}(L:J.length=n) : ∀I H Q E,NZ K n G I H Q E->I.length=J.length:=λI H Q E h=>by obtain⟨d,e,c,_,a,b,_⟩:=h;rw[a.length,b,L]
structure o6(P:i8)(w:i5)(K:Es)(mg:MJ)(base:h7)(k:Nat)(x:Str)(n:Nat)(G:List D->Option Xn):Prop where
 ex : ∃(f:eI) (fd:u4) (ps:List Str),ps.length=n/\zi P w K mg base (m9 P w) k f fd ps (NZ K ps.length G)/\mg x=aI (.ref f)/\Gm K (.ref f)=cI/\Binds K fd ps []
theorem iE{P:i8}{w:i5}{K:Es}{L:MJ}{base:h7}{x:Str}{st:i7}{N J:List Str}{k:Nat}{G:CO Xn}(A:iv K L x st J)(hd:Zy N J st=cI)
 (a6 : ∀X:Cx,X.prog=P->X.w=w->X.K=K->X.mg=L->X.base=base->SX X (zK st) N N k->E1 X (jT st) G):o6 P w K L base (k+1) x J.length (Vj N.length G):=by
 obtain⟨f,fd,y,hb,hm⟩:=A.ex;have S:=kx hd;have be:J.length<=N.length:=by have:=congrArg IJ S.pre;rw[HE]at this;omega
 refine⟨f,fd,J,rfl,?_,hm,y.kp,.all hb⟩;obtain⟨oc,Z,kV,doc,pm,an,Ol,ct,L6,rfl,lk,a8⟩:=y.ex;refine iG lk a8 S (NZ.len rfl) λA p s H vs Q E hr ac=>⟨λ_ σ g=>σ=wj N vs/\g=H,λh s1 σ M D I n=>?_,rfl,rfl⟩;obtain⟨rfl,rfl⟩:=n;obtain⟨F,ds,c,s0,h1,h2,h3,U⟩:=ac;refine EG (a6 _ rfl rfl rfl rfl rfl ⟨rfl,rfl,S.nd,rfl,hr,λ_ _=> .inl rfl⟩ h s1 _ M F M F (jM N.length ds) c I (Jx s0 h1 ⋯) h3 ⟨λT i j B s2 h' a C us O R W Y r u m=>?_,λT i j B s2 e s' O R m=>?_,λT i j B s2 a C d t φ O y1 y2 y3 R W Y r u=>?_⟩) (λ_ _ z=>z.elim) λ_ _ z=>z
 ·exact Ja O m<|U C j B cS W Y r (by unfold y0;rw[u]) R
 ·refine Zw (E':=λl Z g=>∃C b,l = .ref C/\wB K=cI/\c.1∈o3/\xW K c.1=aI C/\y0 c Z b/\Ext B j b g) O m λcc o g z=>?_
  obtain⟨C,b,rfl,z1,z2,z3,z4,z5⟩:=z;exact U C g b o z1 z2 z3 z4<|R.trans z5
 ·exact Jb O y1 y2 (y3 rfl)<|U C _ B (aI d) W Y r u R
section
variable{X:Cx}{sc:i2}{N L:List Str}{k j n:Nat}{e:hH}{es:List hH}{g:CO (List D)}{G:List D->Option Xn}{x:Str}{p pos:ik}
noncomputable def lP(X:Cx)(I:MW)(O:St)(H0 H:Hp)(J:Xn)(e:gv)(s':gE):Prop:=∃d b g,Inv X I O d g/\Ext H0 H b d/\
 m9 X.prog X.w X.stack d g (λf i h=>∃C a,f = .ref C/\wB X.K=cI/\J.1∈o3/\xW X.K J.1=aI C/\y0 J i a/\Ext b d a h) e s'
theorem Jd{J:MW}{σ:St}{H H0:Hp}{γ:Ctx}{Z:List D}{cc:Xn}{s:gE}(hf:o6 X.prog X.w X.K X.mg X.base j x n G)(W:j<=k)(h:SX X sc N L k)(c:qN sc x=cI)(ha:A3 X.n5 (e::es) n g)
 (I:Inv X J σ H s) (rc:RC X.K H0 H σ γ) (O:g γ=aI Z) (Y:G Z=aI cc)
 (he:i0 (e::es) X.env=(dV,hX e X.env)::i0 es X.env:=by rfl) (a2:(ov pos<|starEach es X.env).any (·.1)=dV:=by rfl) :
 wpAny (hA X.prog X.w) X.A (hX (.Call (.Name x p) (e::es) [] pos) X.env) (λ_ _=>False) (lP X J σ H0 H cc) s:=by
 obtain⟨fa,fd,E,hn,F,hm,S,Q⟩:=hf.ex;subst hn;refine FX<|xH I (h.gl c).1 hm ?_ (h.gl c).2.2;refine IF (h₀:=X.base) I.ok.mod.DX S (EG (ha.1 pos J s σ H (λi d=>∃b,Ext H0 H b d/\hF X.K b Z i) (I.m4 _) ⟨H0,γ,Z,rc,O,λi m a x r=>⟨a,x,r⟩⟩) (λl t ⟨i,d,B,R,b,x1,U⟩=>⟨B.sh.i9,?_⟩) λ_ _ z=>z.elim) he a2;have B:=B.sh;have M:i.length=E.length:=by rw[U.length];exact ha.2 γ Z O
 have T:l.length=E.length:=by rw[<- R.length];exact M
 refine Iu (HY (F.run X.A X.stack t d ⟨l,[]⟩ l i (λ_ _=>False) (λo y m=>∃C a,o = .ref C/\wB X.K=cI/\cc.1∈o3/\xW X.K cc.1=aI C/\y0 cc y a/\Ext b d a m) (h.room.mono W) B.OB
  (by simpa using Q t l B.i9 (by simpa using T)) R ⟨b,Z,cc,x1.sub,U,ha.2 γ Z O,Y,λC m a y xa xm xc xn xx=>⟨C,a,rfl,xa,xm,xc,xn,xx⟩⟩) λr s' f=>?_)
 cases r with
 | error e=>exact⟨d,b,t,B,x1,f⟩
 | ok P=>
  cases P with
  | ret u=>obtain⟨_,_,_,_,_,_,_,z⟩:=f;exact z.elim
  | next=>exact f.elim
  | brk=>exact f.elim
  | cont=>exact f.elim
theorem gh{spos:ik}(Z:o6 X.prog X.w X.K X.mg X.base j x n G)(O:j<=k)(h:SX X.n5 sc N L k)(c:qN sc x=cI)(J:A3 X.n5 (e::es) n g)
 (R:i0 (e::es) X.env=(dV,hX e X.env)::i0 es X.env:=by rfl) (U:(ov pos<|starEach es X.env).any (·.1)=dV:=by rfl)
 (hs:tG (.Call (.Name x p) (e::es) [] pos) cS spos.line X.env=pure dV:=by rfl) :
 Px X (.Expr (.Call (.Name x p) (e::es) [] pos) spos) (kM G g):=λa s t H u y A F C I B W w=>by
 obtain⟨E,l,m⟩:=zc W;refine Mc (EG (Jd Z O (⟨h.xg,h.eN,h.nd,h.calm,h.room,h.fn⟩:SX X sc N L k) c J I B.rc l m R U) (λ_ _ z=>z.elim) λY o z=>?_) I.quiet hs;obtain⟨d,b,r,f,x1,i⟩:=z;exact w.2.1 a t d b r Y o f (B.ext.trans x1) i
end
noncomputable def C4(X:Cx)(e:gv):Cx:={X with A:=X.A.mark<|some e,calm:=dV,xe:=λ_ _=>False}
theorem JK{X:Cx}{G:MW}{J:St}{H:Hp}{s:gE}(I:L2.Inv X G J H s)(e:gv):L2.Inv (C4 X e) G J H s:=
 ⟨⟨I.ok.mod,I.ok.kind,I.ok.glob,I.ok.blt,I.ok.above,I.ok.inj,I.ok.has,I.ok.IX,(λz=>nomatch z),I.ok.frames,I.ok.DK,I.ok.FI,I.ok.bs,I.ok.Df,I.ok.L4,I.ok.F2,I.ok.pw,I.ok.B5⟩,I.os,I.bare,I.base,I.loc,I.cell,I.free,I.B4,I.pin,I.h8,I.len⟩
theorem QC{X:Cx}{G:MW}{J:St}{H:Hp}{s:gE}{e:gv}(ok:X.Ok)(I:L2.Inv (C4 X e) G J H s):L2.Inv X G J H s:=
 ⟨ok,I.os,I.bare,I.base,I.loc,I.cell,I.free,I.B4,I.pin,I.h8,I.len⟩
theorem VY{X:Cx}{G:MW}{J:St}{H:Hp}{s:gE}{M:B0}{A:l7}{E:MQ}{Q:Unit->gE->Prop}{i:Nat}{n:Str}{pos:ik}(I:L2.Inv X G J H s)(R:X.N.Nodup)(hi:X.N[i]? = aI n)(L:X.env.scope.names.lookup n=aI .local)
 (h : ∀s',L2.Inv X G (J.set i cS) H s'->Q () s'):wpAny M A (do bindName X.env n .none;unbindBehindTheSuite X.env n pos) Q E s:=by
 obtain⟨m,x,U⟩:=id I.loc;have W:(X.env.scope.kind == .class || (X.env.scope.kind == .module && X.env.locals != X.env.globals))=dV:=by rw[I.ok.kind];rfl
 refine wpAny_nameGoes_keeps L x W λh' v Y a=>h _ ?_;have B : ∀b o,X.i6.heap.get? b=aI o->b≠X.env.locals:=λb o e=>ER<|EJ (EH e) I.ok.above;refine⟨I.ok,I.os,I.bare,⟨λb o e n O f=>?_,λb o e n O f=>?_,I.base.free,λb o e f=>?_,I.base.t8,I.base.u7,I.base.t7⟩,⟨_,Y,λj y v' l g u=>?_⟩,λy c e=>?_,I.free,I.B4,λp C=>?_,λb P e=>?_,by simpa using I.len⟩
 ·exact(a.2 b<|B b o e).trans (I.base.keep b o e n O f)
 ·obtain⟨T,z⟩:=I.base.slot b o e n O f
  exact⟨T,(a.2 b<|B b o e).trans z⟩
 ·obtain⟨K,z⟩:=I.base.there b o e f
  exact⟨K,(a.2 b<|B b o e).trans z⟩
 ·rcases zJ g with⟨_,z,_⟩ | ⟨w,g⟩
  ·cases z
  ·obtain⟨Z,S,q⟩:=U j y v' l g u
   refine⟨Z,S,?_⟩;rcases q with⟨k,e⟩ | ⟨k,c,e,z⟩
   ·refine .inl ⟨k,?_⟩
    have:y≠n:=λe=>w<|JG R l<|e ▸ hi;simp[this,e]
   ·exact .inr ⟨k,c,e,z.sameBut a<|I.DU y c e⟩
 ·obtain⟨t,z⟩:=I.cell y c e
  exact⟨t,z.sameBut a<|I.DU y c e⟩
 ·obtain⟨e,n,r,F,d⟩:=I.pin p C
  exact⟨(a.2 p.1 r).trans e,n,r,F,d⟩
 ·refine(I.h8 b P e).vr (λc t hc q=>(a.2 c ?_).trans q) (λ_ q=>q) λ_ _ q=>q
  rintro rfl;rcases hc with hc | hc
  ·rw[<- hc,I.free]at e;cases e
  ·rw[I.free]at hc;cases hc
structure XS(K:Es)(mg:MJ):Prop where
 ex : ∃S,xW K "SplitError" = aI S/\mg "SplitError" = aI (.ref S)/\GB K (.ref S)=aI (.type "type")/\Fo K S (.type "BaseException")=aI cI/\(Gn K S).isSome=cI/\Fo K S (.ref S)=aI cI
theorem XO{M:B0}{h:h7}{K:Es}{a C S:eI}(X:K.In h)(I:Jk h a C)(G:GB K (.ref S)=aI (.type "type"))(H:Fo K S (.type "BaseException")=aI cI)(B:(Gn K S).isSome=cI)(O:Fo K C (.ref S)=aI cI) :
 Io M h (Pr (.ref a)<|.ref S) cI:=by
 have R:=yk (M:=M) I;have U:=PySem.W.looks_typeIn (M:=M) X G;have b:=Iw (M:=M) X H;have Y:Io M h (OD<|.ref S) cI:=by
  obtain⟨x,z⟩:=FE.mp B;unfold Gn at z;split at z
  ·rename_i w y t u f
   intro o r p N k q;unfold OD loadHead;exact Eu<|wpAny_loadPart (k _ _<|X _ _ f)<|EB q
  ·cases z
 have d:=Iw (M:=M) X O;have e:Io M h (isSubtype (.type "type") (.type "tuple")) dV:= .of_pure tc_notTuple;intro A Q E s k q;obtain⟨J,g0,F,P,L⟩:=s;have g:=R.keeps k;have i:=U.keeps k;have j:=b.keeps k;have l:=Y.keeps k;have m:=d.keeps k;have n:=e.keeps k;unfold Pr isExcClass NF
 repeat (first | with_reducible refine i.at ?_ | with_reducible refine n.at ?_ | with_reducible refine l.at ?_ | with_reducible refine j.at ?_ | with_reducible refine g.at ?_ | with_reducible refine m.at ?_ | wp_step)
 exact q
section
variable{X:Cx}{sc:i2}{N L:List Str}{k:Nat}
theorem cE{J:MW}{Z:St}{H H0:Hp}{γ:Ctx}{G:Xn}{ev:gv}{s':gE}{D:Ends}{F0 F1:Hp}{I j:Nat}{nx zx:Str}{np pz pn a6 c9:ik}(h:SX X sc N L k)(a7:X.stack=X.env::X.outer/\X.env.frame=aI X.env.locals)
 (x:XS X.K X.mg) (bb:qN sc "SplitError" = cI) (cn:kr sc N L I nx=cI) (cl:decide (sc.names.lookup nx=aI .local)=cI) (cv:kN sc N I nx=cI) (cz:kr sc N L j zx=cI) (cf:I≠j)
 (rs:RS X.K F0 F1 H0 H Z γ) (lf:lP X J Z H0 H G ev s') (co:Sat X.K F0 F1 D (.next<|(γ.set j<|.val<|.exc G.1 G.2).set I .no))
 (hs:tG (.Name nx pn) (aI (.Name zx pz)) a6.line X.env=pure dV:=by rfl) :
 wpAny (hA X.prog X.w) X.A (L5 ev X.env) (λ_ s2=>wpAny (hA X.prog X.w) X.A (Dx ev cS) (λ_ s3=>
  wpAny (hA X.prog X.w) X.A (handleBy ev X.env [.ExceptHandler (aI (.Name "SplitError" np)) (aI nx) [.Assign [.Name zx pz] (.Name nx pn) a6] c9]) (SP X J D) X.xe s3) X.xe s2) X.xe s':=by
 obtain⟨H1,Ob,s1,p,x1,a,C,H',F,rfl,⟨O,P,eC,xa,xm,xc,xn,x2⟩,cs,ct,cw,un,h8,s,cx,⟨B,t,fl,cy,bl⟩⟩:=lf;obtain rfl:O=C:=(Lq eC).symm;have d0:X.A.frames=aI (X.env::X.outer):=by rw[<- a7.1];exact p.ok.frames
 rw[a7.1]at fl;obtain⟨S,d1,d2,d3,d4,d5,d6⟩:=x.ex;obtain⟨M,bn,y1,U,y3⟩:=yE xa xm xc;obtain rfl:M=S:=by rw[d1]at bn;exact(Ff bn).symm
 have bv : ∀l:h7,Gg B (X.env::X.outer) a (.ref O) (.ref t) l->s'.heap.UpToSlots l->n9 F a l->L2.Inv X J Z (upd H' a<|.ext λg=>Jk g a O/\n9 F a g) {s' with heap:=l}:=λl f sm dk=>by
  have obj:Jk l a O:=by obtain⟨oe,m,_,_,_,y,⟨e2,_⟩,e3,_⟩:=f.2.2.2;exact⟨oe,m,y,e2,e3⟩
  have ne : ∀b o,s1.heap.get? b=aI o->b≠a:=λb o q z=>by rw[z,cx]at q;cases q
  have c0 : ∀b,b∈l5 X.stack->∃o,s1.heap.get? b=aI o/\(∀m,o.data ≠ .fields m)/\∃sl,l.get? b=aI {o with slots:=sl}:=λb R=>by obtain⟨_,o,q,nf⟩:=p.stack.mem R;obtain⟨sl,z⟩:=un.slot b o q (p.D8 b R) R ⋯;obtain⟨d9,z'⟩:=sm b _ z nf;exact⟨o,q,nf,d9,z'⟩
  refine p.Oj (s':={s' with heap:=l}) (ch:=[]) ct ⟨λb o q n R _=>?_,λb o q n R _=>?_,λb o q n _=>?_,λb o q _=>?_,λb xs q=>?_,λb o u q=>?_,λb ps q=>?_⟩ ?_ cw (λ_ z=>nomatch z)
  ·exact f.1 b o<|bl b o (un.keep b o q n R ⋯) (by rw[q];simp) R
  ·obtain⟨E,q',_,z⟩:=c0 b R
   rw[q]at q';cases q';exact z
  ·rw[zu (ne b o q)];exact un.free b o q n ⋯
  ·by_cases R:b∈l5 X.stack
   ·obtain⟨E,_,_,sl,z⟩:=c0 b R
    exact⟨_,z⟩
   ·obtain⟨E,z⟩:=un.there b o q ⋯
    exact⟨E,f.1 b E<|bl b E z (by rw[q];simp) R⟩
  ·have z:=un.t8 b xs q
   rw[zu (zL z s)];exact z
  ·have z:=un.u7 b o u q
   rw[zu (zL z s)];exact z
  ·obtain⟨more,z⟩:=un.t7 b ps q
   exact⟨more,by rw[zu (zL z s)];exact z⟩
  ·refine Wg (qb h8 λb u n q=>f.1 b u<|cy b u q n) s ⟨obj,dk⟩ ?_ ?_
   ·obtain⟨o,_,e,_⟩:=obj;exact⟨o,e⟩
   ·rintro g1 g2 ⟨⟨o,m,e,r⟩,db⟩ kk
    exact⟨⟨o,m,kk o e,r⟩,db.obj kk⟩
 refine V1 d0 a7.2 fl cs λh4 di c3 dl=>?_;refine V5 di dl λh5 T c5 c6=>?_;have I5:=JK (bv h5 T (c3.trans c5) c6)<|.ref a;have dp:Jk h5 a O:=by obtain⟨oe,m,_,_,_,y,⟨e2,_⟩,e3,_⟩:=T.2.2.2;exact⟨oe,m,y,e2,e3⟩
 have mS:Fo X.K O (.ref M)=aI cI:=by
  have U:=U;unfold Fw at U;by_cases z:(EO O==EO M)=cI
  ·have e:O=M:=Lq (beq_iff_eq.mp z)
   subst e;exact d6
  ·rw[RQ z]at U
   unfold PySem.W.kitCls at U;dsimp only at U;split at U
   ·exact U
   ·cases U
 refine SU (R3<|xH (X:=C4 X<|.ref a) I5 (show Gl X _ from(h.gl bb).1) d2 ?_ (h.gl bb).2.2) (by intro q;cases q);refine(XO I5.i9 dp d3 d4 d5 mS) _ _ _ _ (λ_ _ z=>z) ?_;refine codeAny_handlers_suite_as<|eV T c6 λh6 e0 e4 e5=>?_;have I6:=JK (bv h6 e0 ((c3.trans c5).trans e4) e5)<|.ref a;obtain⟨n1,n2,n3⟩:=h.loc cn;obtain⟨z1,z2,z3⟩:=h.loc cz;refine Js (X:=C4 X<|.ref a) (v:= .ref a) I6 (show X.N.Nodup from h.M0) n1 n2 rfl (λs7 I7=>?_) n3;have hv:PE (C4 X<|.ref a) (.Name nx pn) (cR I):=by
  unfold kN at cv;simp only[Ex,Fq,decide_eq_true_eq,Gp]at cv;obtain⟨⟨⟨v1,Y⟩,v3⟩,v4⟩:=cv;refine VJ (by show X.N[I]? = aI nx;rw[h.eN];exact v1) ?_ v3 v4;show ME X.env.scope nx;unfold ME;rw[h.xg];rcases Y with(Y | Y) | Y
  ·exact .inl Y
  ·exact .inr<|.inl Y
  ·exact .inr<|.inr Y
 have ei:PS (C4 X<|.ref a) (.Assign [.Name zx pz] (.Name nx pn) a6) (Y6 (cR I)<|vf j):=dn (X:=C4 X<|.ref a) (show X.N.Nodup from h.M0) z1 z2 hv hs z3;have ej:I<Z.length:=by rw[p.len];exact(EL.mp n1).1
 have run:=(Zj ei) J s7 (Z.set I<|some (.ref a)) _ {nx:=λO1 Hn=>O1=(Z.set I<|some (.ref a)).set j (aI (.ref a))/\Hn=upd H' a (.ext λg=>Jk g a O/\n9 F a g),rt:=λ_ _=>False} I7
  ⟨.ref a,Ft ej,rfl,rfl⟩
 refine EG run (λf s8 z=>?_) λ_ _ z=>z.elim;cases f with
 | next=>
  obtain⟨RT,H8,Q,rfl,rfl⟩:=z;have Q:=QC p.ok Q;refine VY Q h.M0 n1 (by rw[h.xg];exact of_decide_eq_true cl) λs9 I9=>⟨_,_,I9,?_⟩;have xt:=x1.trans<|x2.trans<|Ext.alloc x2.sub s<|.ext λg=>Jk g a O/\n9 F a g;have rep:Rep X.K (upd P a<|.ext λg=>Jk g a O/\n9 F a g) (.exc G.1 G.2) (.ref a):=by
   refine(show ∃b,V.ref a = .ref b/\B1 X.K _ G.1 G.2 b from⟨a,rfl,xa,xm,O,_,xc,zt,λ_ z=>z.1,?_⟩);unfold y0 at xn;cases hc:G.2 with
   | none=>trivial
   | some i=>
    rw[hc]at xn;obtain⟨d,ep,as⟩:=xn;have eq:d≠a:=λq=>by rw[q,x2.sub.free s]at as;cases as
    exact⟨d,λg z=>z.2.1 d ep,by rw[zu eq];exact as⟩
  have r1:=((rs.step xt).Di (i:=I) rep).Di (i:=j) rep;have r2:=r1.forget (i:=I) (v:=cS);have y:((γ.set I<|.val<|.exc G.1 G.2).set j (.val<|.exc G.1 G.2)).set I .no=(γ.set j<|.val<|.exc G.1 G.2).set I .no:=by rw[List.set_comm _ _ cf,List.set_set]
  rw[y]at r2;exact co _ _ _ r2
 | ret v=>obtain⟨_,_,_,_,_,z⟩:=z;exact z.elim
 | brk=>obtain⟨_,_,_,z⟩:=z;exact z.elim
 | cont=>obtain⟨_,_,_,z⟩:=z;exact z.elim
end
section ap
variable(γ:Ctx)
@[simp] def sE:=@jf.eq_1
@[simp] def vq:=@xX.eq_1
@[simp] def qz:=@zI.eq_1
@[simp] def we:=@zd.eq_1
@[simp] def JW:=@zh.eq_1
@[simp] theorem eU(d):ze d γ=aI d:=rfl
@[simp] def yC:=@zo.eq_1
@[simp] def J2:=@sB.eq_1
@[simp] def lq:=@Xg.eq_1
@[simp] def QV:=@xJ.eq_1
@[simp] def yI:=@z9.eq_1
@[simp] def rf:=@Qh.eq_1
@[simp] def Aw:=@PN.eq_1
@[simp] def BJ:=@rm.eq_1
@[simp] def BP:=@fT.eq_1
@[simp] theorem WX:zB γ=aI []:=rfl
@[simp] def qp:=@zb.eq_1
@[simp] def pS:=@xM.eq_1
@[simp] def X3:=@ql.eq_1
@[simp] def iZ:=@zU.eq_1
@[simp] def yB:=@jY.eq_1
@[simp] def yH:=@ka.eq_1
@[simp] def Au:=@Cs.eq_1
@[simp] def BS:=@Ej.eq_1
@[simp] def AI:=@CA.eq_1
@[simp] def jx:=@i1.eq_1
@[simp] def jV:=@jF.eq_1
@[simp] def As:=@Zb.eq_1
@[simp] def AG:=@fW.eq_1
@[simp] def rd:=@qP.eq_1
@[simp] def vU:=@zw.eq_1
@[simp] def cK:=@kU.eq_1
@[simp] def cJ:=@zQ.eq_1
@[simp] def vo:=@je.eq_1
@[simp] def pV:=@ua.eq_1
@[simp] def BF:=@mI.eq_1
@[simp] def KW:=@Z1.eq_1
@[simp] def qc:=@zM.eq_1
@[simp] theorem BG:jo γ=aI cI:=rfl
@[simp] def AK:=@yU.eq_1
@[simp] def Av:=@tZ.eq_1
@[simp] def WY:=@gC.eq_1
@[simp] def sD:=@AY.eq_1
@[simp] theorem BK:qT γ=aI cS:=rfl
@[simp] def Ea:=@ir.eq_1
@[simp] def BI:=@tY.eq_1
@[simp] def BL:=@qO.eq_1
@[simp] def CZ:=@r9.eq_1
@[simp] def BM:=@Eh.eq_1
@[simp] def vT:=@jg.eq_1
@[simp] def pW:=@uc.eq_1
@[simp] def BH:=@fQ.eq_1
@[simp] def KY:=@ZN.eq_1
@[simp] def WZ:=@W7.eq_1
@[simp] def AC:=@Vh.eq_1
@[simp] def Az:=@fS.eq_1
@[simp] def Ap:=@Cr.eq_1
theorem jc(F G):zF F G γ=(F γ).bind λz=>match z with
 | .next a=>G a
 | f=>aI f:=rfl
end ap
@[simp] theorem BC(ds):qW (.tup ds)=aI (.T,ds):=rfl
@[simp] theorem BD(ds):qW (.lst ds)=aI (.L,ds):=rfl
@[simp] theorem kD(d):WG (aI (.val d))=aI d:=rfl
@[simp] theorem iN(d):vS (aI (.val d))=qW d:=rfl
@[simp] theorem iO(d):vS (aI (.own d))=aI (.L,d):=rfl
@[simp] theorem iR(d):xV (aI (.own d))=aI d:=rfl
@[simp] theorem iP(d):XX (aI (.val d))=aI (.ret<|.val d):=rfl
@[simp] theorem iQ(d):XX (aI (.own d))=aI (.ret<|.own d):=rfl
@[simp] theorem BE(b):Dd (.bl b)=aI b:=rfl
@[simp] theorem JV(b):o4 (.int b)=aI b:=rfl
@[simp] theorem rA(d):aL (.val d)=d:=rfl
@[simp] theorem rB(d):aL (.own d) = .lst d:=rfl
@[simp] theorem rz(d):uh (.own d)=aI d:=rfl
@[simp] theorem si(i j):cj (.int i) (.int j)=aI (.int<|i - j):=rfl
@[simp] theorem cp(i j):qC (.int i) (.int j)=aI (.int<|i+j):=rfl
@[simp] theorem so(i j):j8 (.int i) (.int j)=if 0<j then aI (.int<|i%j)else cS:=by show(if su i j=cI then _ else _)=_;simp[su]
@[simp] theorem sr(i j):wQ (.int i) (.int j)=if 0<j/\j<1073741824 then aI (.int<|i/j)else cS:=by
 show(if pL i j=cI then _ else _)=_;have e:(pL i j=cI)=(0<j/\j<1073741824):=by unfold pL;rw[Ex,decide_eq_true_eq,decide_eq_true_eq];apply propext;constructor<;>intro h<;>exact⟨h.1,by omega⟩
 simp only[e]
@[simp] theorem sk(i j):yA (.int i) (.int j)=if QY i j=cI then aI (.int<|i*j)else cS:=rfl
@[simp] theorem sj(i j):ah (.int i) (.int j)=if pK i j=cI then aI (.int<|i ^ j.toNat)else cS:=rfl
@[simp] theorem Ag(i j):DF (.int i) (.int j)=aI (.bl<|decide<|i<j):=rfl
@[simp] theorem Ah(i j):B2 (.int i) (.int j)=aI (.bl<|decide<|i<=j):=rfl
@[simp] theorem Ai(i j):wy (.int i) (.int j)=aI (.bl<|decide<|j<i):=rfl
@[simp] theorem Aj(i j):A4 (.int i) (.int j)=aI (.bl<|decide<|j<=i):=rfl
@[simp] theorem Ak(i j):i3 (.int i) (.int j)=aI (.bl<|decide<|i=j):=by unfold i3;rw[MY ⟨rfl,rfl⟩];exact congrArg (λb=>aI (D.bl b)) (by rw[Hr];simp[lA])
@[simp] theorem Af(i j):n6 (.int i) (.int j)=aI (.bl<|!decide (i=j)):=by unfold n6;rw[MY ⟨rfl,rfl⟩];exact congrArg (λb=>aI (D.bl !b)) (by rw[Hr];simp[lA])
@[simp] theorem mH(i is d ds γ):qI (i::is) (d::ds) γ=qI is ds (γ.set i<|.val d):=rfl
@[simp] theorem mG(ds γ):qI [] ds γ=γ:=by cases ds<;>rfl
@[simp] theorem KR(i d γ):xo (.nm i) d γ=aI (γ.set i<|.val d):=rfl
@[simp] theorem WO(i j a b γ):xo (.tp [i,j]) (.tup [a,b]) γ=aI ((γ.set i<|.val a).set j (.val b)):=rfl
@[simp] theorem aG(γ:Ctx)(G:CO Fl):(aI (Fl.next γ)).bind (λz=>match z with
 | .next γ'=>G γ'
 | f=>aI f)=G γ:=rfl
theorem KP(i j:Int)(G : -(2 ^ 64)<j)(H:j<2 ^ 64):QY i j=cI:=by unfold QY;rw[Fq];right;exact decide_eq_true ⋯
theorem KQ(i j:Int)(G : -(2 ^ 64)<i)(H:i<2 ^ 64):QY i j=cI:=by unfold QY;rw[Fq];left;exact decide_eq_true ⋯
theorem k7(G : -(2 ^ 62)<i)(H:i<2 ^ 62):inR i=cI:=by unfold inR;exact decide_eq_true ⋯
@[simp] theorem jR(n k:Nat):m7 n (k:Int)=if k<n then aI k else cS:=by
 unfold m7;by_cases h:k<n
 ·rw[MY ⟨Int.natCast_nonneg k,by omega⟩,MY h];simp
 ·rw[RQ ⋯,RQ ⋯,RQ h]
theorem jj:lim=2500:=rfl
@[simp] theorem rZ:0<=lim:=He _
@[simp] theorem rY:1<=lim:=by decide
@[simp] theorem rX:2<=lim:=by decide
@[simp] theorem rW:3<=lim:=by decide
@[simp] theorem rV:4<=lim:=by decide
@[simp] theorem rT:5<=lim:=by decide
@[simp] theorem rS:6<=lim:=by decide
@[simp] theorem rR:7<=lim:=by decide
@[simp] theorem rQ:8<=lim:=by decide
@[simp] theorem rO:0<lim:=by decide
@[simp] theorem Wf(h:n<=lim):inR (n:Int)=cI:=k7 ⋯ (by have:=jj;omega)
@[simp] theorem Ta(n:Nat):m7 (n+1) 0=aI 0:=jR (n+1) 0 ▸ rfl
@[simp] theorem Tb(n:Nat):m7 (n+2) 1=aI 1:=by have:=jR (n+2) 1;simpa using this
@[simp] theorem Tc(n:Nat):m7 (n+3) 2=aI 2:=by have:=jR (n+3) 2;simpa using this
theorem zE(r:α->D) : ∀(l:List α),(∀x∈l,zW T k f γ [g x]=aI [r x])->zW T k f γ (l.map g)=aI (l.map r)
 | [],_=>rfl
 | x::l,h=>by
  have a:=h x EN;have d:=zE r l λy B=>h y<|EK _ B;simp only[Fb,zW]at a ⊢;cases e1:xo T (g x) γ with
  | none=>rw[e1]at a;simp at a
  | some z=>
   rw[e1]at a;simp only[EA]at a ⊢;cases e2:k z with
   | none=>rw[e2]at a;simp at a
   | some b=>
    rw[e2]at a;simp only[EA]at a ⊢;cases b with
    | false=>simp at a
    | true=>
     simp only[MY]at a ⊢;cases e3:f z with
     | none=>rw[e3]at a;simp at a
     | some e=>
      rw[e3]at a;simp at a;rw[d];simp[a]
theorem zG(G:xo T d γ=aI N7)(H:k N7=aI cI)(z:f N7=aI e):zW T k f γ [d]=aI [e]:=by simp[zW,G,H,z]
theorem xu(T F d G γ):yr T F (d::G) γ=(xo T d γ).bind λB=>(F B).bind λI=>match I with
 | .next z=>yr T F G z
 | .cont z=>yr T F G z
 | .brk z=>aI (.next z)
 | .ret r=>aI (.ret r):=rfl
theorem k9(P:Nat->Ctx->Prop) : ∀(G:List D) (k:Nat) (γ:Ctx),P k γ->(∀i d γ,G[i]? = aI d->P (k+i) γ->∃γ',((xo T d γ).bind F=aI (.next γ')\/(xo T d γ).bind F=aI (.cont γ'))/\P (k+i+1) γ')->
 ∃γ',yr T F G γ=aI (.next γ')/\P (k+G.length) γ'
 | [],k,γ,h,_=>⟨γ,rfl,h⟩
 | d::G,k,γ,h,step=>by
  obtain⟨z,e,f⟩:=step 0 d γ rfl h;obtain⟨γ',b,g⟩:=k9 P G (k+1) z (by simpa using f) (λi a B j l=>by have:=step (i+1) a B (by simpa using j) (by rw[show k+(i+1)=k+1+i by omega];exact l);rw[show k+(i+1)+1=k+1+i+1 by omega]at this;exact this)
  refine⟨γ',?_,by rw[show k+(d::G).length=k+1+G.length by simp;omega];exact g⟩;rw[xu];cases eb:xo T d γ with
  | none=>rw[eb]at e;simp at e
  | some I=>
   rw[eb]at e;simp only[EA]at e ⊢;rcases e with e | e<;>rw[e]<;>exact b
def xU(n:Nat)(f:Nat->Int):List D:=(Ez n).map λi=>D.int<|f i
theorem jS(n f):xU n f=(Ez n).map λi=>D.int (f i):=rfl
noncomputable def ZS(h w:Nat)(f:MK):List D:=(Ez h).map λi=>D.tup<|xU w<|f i
noncomputable def KD(h w:Nat)(f:MK):D:= .tup [.int h,.int w,.tup (ZS h w f)]
@[simp] theorem se(n f):(xU n f).length=n:=by simp[xU]
@[simp] theorem sf(h w f):(ZS h w f).length=h:=by simp[ZS]
@[simp] theorem Ab(f)(h:i<(xU n f).length):(xU n f)[i] = .int (f i):=by simp[xU]
@[simp] theorem Ac(f)(hi:i<(ZS h w f).length):(ZS h w f)[i] = .tup (xU w<|f i):=by simp[ZS]
theorem bY{h w i:Nat}(f)(hi:i<h):(ZS h w f)[i]? = aI (.tup<|xU w<|f i):=by simp[ZS,hi]
theorem qU(n:Nat):yv 0 n=xU n λi=>(i:Int):=by simp[yv,xU]
def Q9(f:Nat->Int):Nat->Int
 | 0=>0
 | n+1=>Q9 f n+f n
noncomputable def yK:=jG 2<|jY<|jg<|zI<|zM (zQ<|zh 1) (.nm 0) 1 [0] jo (zo j8 (zd 0)<|zd 1)
noncomputable def zR:=jG 5<|zF (i1 (sB<|zo i3 (qO<|zh 0)<|ze<|.int 0) (jY<|zo j8 (zo yA (zo j8 (zo yA (zo qC (zo yA (zo yA (zd 1)<|zd 1)<|ze<|.int 7919)<|ze<|.int 11)<|ze<|.int 48271)<|ze<|.int 2147483647)<|ze<|.int 69621)<|ze<|.int 1000000007) zU)<|zF (jF 2<|gC (zh 0)<|zo j8 (zd 1)<|qO<|zh 0)<|zF (i1 (Xg (sB<|zo wy (qO<|zh 0)<|ze<|.int 1)<|sB<|zo i3 (zo j8 (gC (zh 0)<|ze<|.int 0)<|ze<|.int 2)<|ze<|.int 1) (zF (jF 3<|gC (zh 0)<|zo qC (ze<|.int 1)<|zo j8 (zd 1)<|zo cj (qO<|zh 0)<|ze<|.int 1)<|zF (Z1 (je<|zo wQ (zd 1)<|zo cj (qO<|zh 0)<|ze<|.int 1) (.nm 4)<|jF 3<|zo wQ (zd 3)<|zo ah (ze<|.int 10)<|ze<|.int 9)<|jY<|zo j8 (zd 3)<|zo ah (ze<|.int 10)<|ze<|.int 9) zU)<|jY<|zo j8 (zo yA (zo j8 (zo qC (zo qC (zo yA (zo j8 (zd 2)<|zo ah (ze<|.int 10)<|ze<|.int 30)<|ze<|.int 48271)<|zo yA (zo yA (zd 1)<|zd 1)<|ze<|.int 7919)<|ze<|.int 11)<|ze<|.int 2147483647)<|ze<|.int 69621)<|ze<|.int 1000000007
def jd:=jG 1<|jY<|Qh (r9 .int<|zd 0)<|rm<|r9 .bool<|zd 0
noncomputable def qf:=jG 2<|zF (i1 (xJ (z9<|sB<|r9 .tuple<|zd 0)<|sB<|zo n6 (qO<|zh 0)<|qO<|zh 1) (jY<|ze<|.bl dV) zU)<|jY<|Qh (ZN<|zI<|zM (zQ<|zh 0) (.nm 0) 1 [] jo (zw jd<|zb (zd 0) zB))<|zo i3 (zd 0)<|zd 1
noncomputable def jX:=jG 2<|zF (i1 (xJ (z9<|sB<|r9 .tuple<|zd 0)<|xJ (sB<|zo n6 (qO<|zh 0)<|ze<|.int 3)<|xJ (z9<|sB<|zw jd<|zb (gC (zh 0)<|ze<|.int 0) zB)<|z9<|sB<|zw jd<|zb (gC (zh 0)<|ze<|.int 1) zB) (jY<|ze<|.bl dV) zU)<|zF (i1 (xJ (sB<|zo n6 (tY (zd 0) qT<|ir<|ze<|.int 2)<|tY (zd 1) qT<|ir<|ze<|.int 2)<|xJ (z9<|sB<|r9 .tuple<|gC (zh 0)<|ze<|.int 2)<|sB<|zo n6 (qO<|jf<|gC (zh 0)<|ze<|.int 2)<|gC (zh 1)<|ze<|.int 0) (jY<|ze<|.bl dV) zU)<|jY<|ZN<|zI<|zM (je<|gC (zh 1)<|ze<|.int 0) (.nm 0) 1 [0,1] jo (zw qf<|zb (gC (jf<|gC (zh 1)<|ze<|.int 2)<|zd 0)<|zb (gC (jf<|gC (zh 2)<|ze<|.int 2)<|zd 0) zB)
noncomputable def qB:=jG 10<|zF (Zb 5<|ql zB)<|zF (Z1 (je<|zd 3) (.nm 6)<|zF (Zb 7<|ql zB)<|zF (Z1 (je<|zd 4) (.nm 8)<|zF (jF 9<|zw zR<|zb (zd 0)<|zb (zo qC (zo qC (zd 1)<|zo yA (zd 6)<|zd 4)<|zd 8) zB)<|qP 7<|zo yA (zo j8 (zd 9)<|zd 2)<|Vh<|zo wy (zo j8 (zo wQ (zd 9)<|ze<|.int 7)<|ze<|.int 3)<|ze<|.int 0)<|qP 5<|jg<|zh 7)<|jY<|xM<|zb (zd 3)<|zb (zd 4)<|zb (jg<|zh 5) zB
section
variable(γ:Ctx)
@[simp] def BU:=@Ek.eq_1
@[simp] def AL:=@CB.eq_1
@[simp] def sM:=@Bf.eq_1
end
section
variable(γ:Ctx)
@[simp] def AF:=@Cy.eq_1
@[simp] def BO:=@Ba.eq_1
@[simp] def BQ:=@Ei.eq_1
@[simp] theorem sN(F G a b c):kc F G a b c γ=(a γ).bind λx=>(b γ).bind λy=>((F x y).bind Dd).bind λk=>if k=cI then (c γ).bind λz=>G y z else aI (.bl dV):=rfl
@[simp] def Ar:=@fR.eq_1
end
section
variable(γ:Ctx)
@[simp] def sL:=@Be.eq_1
@[simp] def pX:=@ue.eq_1
@[simp] def BR:=@Bb.eq_1
@[simp] def AE:=@Cw.eq_1
@[simp] def sC:=@AX.eq_1
end
@[simp] theorem cD(r):JT (aI (.nest r))=aI r:=rfl
noncomputable def kl:=jG 2 (zF (jF 1 (zo j8 (zd 0) (ze (.int 6)))) (jY (wo (ze (.str "")) (zI (zM (je (zd 1)) (.nm 0) 1 [0] jo (jI (ze (.str "rl")) (zo j8 (zo wQ (zd 1) (gC (zI (ql (zb (ze (.int 6)) (zb (ze (.int 12)) (zb (ze (.int 24)) (zb (ze (.int 48)) (zb (ze (.int 96)) zB))))))) (zd 0))) (ze (.int 2)))))))))
noncomputable def kn:=jG 9 (zF (jF 5 (jg (zI (zM (je (zo qC (yq (zd 3)) (ze (.int 1)))) (.nm 0) 1 [0,1,4] jo (zo j8 (zw zR (zb (zd 1) (zb (zo qC (zd 2) (zd 0)) zB))) (zd 3)))))) (zF (Zb 6 (ql zB)) (zF (Z1 (je (yq (zd 3))) (.nm 7) (zF (jF 8 (xM (zb (gC (zh 5) (zo qC (zd 7) (ze (.int 1)))) (zb (gC (zh 5) (zd 7)) zB)))) (zF (i1 (sB (zo i3 (jI (zd 3) (zd 7)) (ze (.str "l")))) (jF 8 (xM (zb (gC (zh 5) (zd 7)) (zb (gC (zh 5) (zo qC (zd 7) (ze (.int 1)))) zB)))) zU) (qP 6 (xM (zb (jI (zd 3) (zd 7)) (zb (zw qB (zb (zd 0) (zb (zo qC (zo qC (zd 1) (ze (.int 10))) (zo yA (ze (.int 17)) (zd 7))) (zb (zd 2) (zb (gC (zh 8) (ze (.int 0))) (zb (gC (zh 8) (ze (.int 1))) zB)))))) zB))))))) (jY (xM (zb (zd 2) (zb (zd 5) (zb (jg (zh 6)) zB))))))))
noncomputable def qD:=jG 4<|zF (i1 (xJ (z9<|sB<|r9 .tuple<|zd 0)<|xJ (sB<|zo n6 (qO<|zh 0)<|ze<|.int 3)<|xJ (z9<|sB<|zw jd<|zb (gC (zh 0)<|ze<|.int 0) zB)<|sB<|zo n6 (gC (zh 0)<|ze<|.int 0)<|gC (zh 1)<|ze<|.int 0) (jY<|ze<|.bl dV) zU)<|zF (i1 (xJ (z9<|sB<|zw qf<|zb (gC (zh 0)<|ze<|.int 1)<|zb (gC (zh 1)<|ze<|.int 1) zB)<|xJ (z9<|sB<|r9 .tuple<|gC (zh 0)<|ze<|.int 2)<|sB<|zo n6 (qO<|jf<|gC (zh 0)<|ze<|.int 2)<|qO<|jf<|gC (zh 1)<|ze<|.int 2) (jY<|ze<|.bl dV) zU)<|zF (Z1 (mI (gC (zh 0)<|ze<|.int 2)<|gC (zh 1)<|ze<|.int 2) (.tp [2,3])<|zF (i1 (xJ (z9<|sB<|r9 .tuple<|zd 2)<|xJ (sB<|zo n6 (qO<|zh 2)<|ze<|.int 2)<|sB<|zo n6 (gC (zh 2)<|ze<|.int 0)<|gC (zh 3)<|ze<|.int 0) (jY<|ze<|.bl dV) zU)<|i1 (xJ (z9<|sB<|r9 .str<|gC (zh 2)<|ze<|.int 0)<|z9<|sB<|zw jX<|zb (gC (zh 2)<|ze<|.int 1)<|zb (gC (zh 3)<|ze<|.int 1) zB) (jY<|ze<|.bl dV) zU)<|jY<|ze<|.bl cI
section
variable(γ:Ctx)
@[simp] def xQ:=@jI.eq_1
@[simp] def lg:=@yq.eq_1
@[simp] def lj:=@fX.eq_1
@[simp] def lh:=@wo.eq_1
end
noncomputable def jm:=jG 2 (jY (fT (sB (zo i3 (zd 1) (ze (.str "r")))) (zd 0) (zo qC (zd 0) (ze (.int 1)))))
noncomputable def jE:=jG 2 (jY (fT (sB (zo i3 (zd 1) (ze (.str "r")))) (zo qC (zd 0) (ze (.int 1))) (zd 0)))
noncomputable def Qg(f:CO D):CO D:=λa=>(f a).map λd=> .bl (ZI .list d || ZI .tuple d)
def ji:=jG 1<|jY<|Qh (r9 .int<|zd 0)<|rm<|r9 .bool<|zd 0
noncomputable def QX:=jG 2<|jY<|Qh (zw ji<|zb (zd 1) zB)<|kc B2 DF (ze<|.int 0) (zd 1)<|zd 0
noncomputable def xI:=jG 3 (zF (Zb 1 (ql (zb (Kj "NoPrime" (zd 0)) (zb (Kj "Nought" (zd 0)) (zb (Kj "NoTable" (zd 0)) (zb (Kj "NoWidths" (zd 0)) zB)))))) (zF (Zb 1 (yU (zh 1) (zI (ql (zb (Kj "NoRow" (zd 0)) (zb (Kj "Unlike" (zd 0)) (zb (Kj "TooMany" (zd 0)) (zb (Kj "NoTurn" (zd 0)) zB)))))))) (zF (Zb 1 (yU (zh 1) (zI (ql (zb (Kj "NoLine" (zd 0)) (zb (Kj "Nothing" (zd 0)) (zb (Kj "NoArrow" (zd 0)) (zb (Kj "NoText" (zd 0)) zB)))))))) (zF (qP 1 (Kj "NoRoom" (zd 0))) (zF (jF 2 (xX (ql (zb (ze (.str "NoPrime")) (zb (ze (.str "Nought")) (zb (ze (.str "NoTable")) (zb (ze (.str "NoWidths")) (zb (ze (.str "NoRow")) (zb (ze (.str "Unlike")) (zb (ze (.str "TooMany")) (zb (ze (.str "NoTurn")) (zb (ze (.str "NoLine")) (zb (ze (.str "Nothing")) zB))))))))))))) (zF (jF 2 (xX (yU (zh 2) (zI (ql (zb (ze (.str "NoArrow")) (zb (ze (.str "NoText")) (zb (ze (.str "NoRoom")) zB)))))))) (zF (i1 (z9 (sB (mL (zd 0)))) (ka (ql (zb (ze (.str "no ValueError")) zB))) zU) (Bb 1 (ka (zM (je (ze (.int 13))) (.nm 0) 1 [1,2] (sB (gC (zh 1) (zd 0))) (gC (zh 2) (zd 0))))))))))))
noncomputable def qE:=jG 1<|jY<|Qh (zw ji<|zb (zd 0) zB)<|Ba (zd 0)<|jf<|ze<|.tup [.int 2,.int 3,.int 5,.int 7]
noncomputable def jW:=jG 1<|jY<|Qh (zw ji<|zb (zd 0) zB)<|kc B2 B2 (ze<|.int 0) (zd 0)<|ze<|.int 30
def zX:=jG 2<|jY<|Qh (Qg<|zd 0)<|zo i3 (qO<|zh 0)<|zd 1
noncomputable def qj:=jG 2<|jY<|Qh (zw zX<|zb (zd 1)<|zb (zd 0) zB)<|ZN<|zI<|zM (zQ<|zh 1) (.nm 0) 1 [] jo (zw ji<|zb (zd 0) zB)
noncomputable def xv:=jG 4<|zF (i1 (z9<|sB<|zw qE<|zb (zd 0) zB) jO zU)<|zF (i1 (xJ (z9<|sB<|zw jW<|zb (zd 1) zB)<|z9<|sB<|zw jW<|zb (zd 2) zB) jO zU)<|zF (i1 (xJ (z9<|sB<|zw zX<|zb (zd 3)<|zb (zd 1) zB)<|z9<|sB<|ZN<|zI<|zM (zQ<|zh 3) (.nm 0) 1 [2] jo (zw qj<|zb (zd 1)<|zb (zd 0) zB)) jO zU)<|jY<|xM<|zb (zd 1)<|zb (zd 2)<|zb (jg<|zI<|zM (zQ<|zh 3) (.nm 0) 1 [0] jo (zw yK<|zb (zd 1)<|zb (zd 0) zB)) zB
noncomputable def yl:List D->Option Xn:=Vj 4 (vy (oI (z9 (sB (zw qE (zb (zd 0) zB)))) (YU "NoPrime") n7) (i1 (z9 (sB (zw qE (zb (zd 0) zB)))) jO zU) (vy (oI (xJ (z9 (sB (zw jW (zb (zd 1) zB)))) (z9 (sB (zw jW (zb (zd 2) zB))))) (YU "NoTable") n7) (i1 (xJ (z9 (sB (zw jW (zb (zd 1) zB)))) (z9 (sB (zw jW (zb (zd 2) zB))))) jO zU) (oI (xJ (z9 (sB (zw zX (zb (zd 3) (zb (zd 1) zB))))) (z9 (sB (ZN (zI (zM (zQ (zh 3)) (.nm 0) 1 [2] jo (zw qj (zb (zd 1) (zb (zd 0) zB))))))))) (YU "NoTable") n7)))
noncomputable def Qf(f:CO (Sk×List D))(l h:CO (Option Int)):CO (List D):=λb=>(f b).bind λa=>(l b).bind λlo=>(h b).bind λd=>match a.1 with
 | .L=>aI (KL a.2 lo d)
 | .T=>cS
section
variable{X:Cx}{sc:i2}{N L:List Str}{k:Nat}{a e:hH}{es:List hH}{f:CO D}{g:CO (List D)}{pos p p2:ik}
theorem Kn(I:PV X e f)(hs:tG e cS pos.line X.env=pure dV:=by rfl):pa X (.Expr e pos) (fW f):=vL (Vy I hs) λD j H O=>by obtain⟨E0,E,g,i,U,B,z,R⟩:=O;obtain⟨d,h,z⟩:=zA z;subst z;exact⟨g,i,d,B.rc,h,λv b a x r=>R j b a<|B.step x⟩
theorem gF(i O R:Nat){y fx nx U:Str}{py fp cpos J np pz pn Y ak Z:ik}{n j1 j2:Nat}{F:List D->Option Res}{G:List D->Option Xn}(cy:kr sc N L i y=cI)(an:O≠R)(h:SX X sc N L k)(ap:X.stack=X.env::X.outer/\X.env.frame=aI X.env.locals)
 (ar:qN sc "SplitError" = cI) (cn:kr sc N L O nx=cI) (cl:decide (sc.names.lookup nx=aI .local)=cI) (cv:kN sc N O nx=cI) (cz:kr sc N L R U=cI) (cf:qN sc fx=cI) (x:XS X.K X.mg)
 (hf:hI X.prog X.w X.K X.mg X.base j1 fx n F) (hx:o6 X.prog X.w X.K X.mg X.base j2 fx n G) (bb:j1<=k) (bd:j2<=k) (ha:A3 X.n5 (e::es) n g)
 (he:i0 (e::es) X.env=(dV,hX e X.env)::i0 es X.env:=by rfl) (a5:(ov cpos<|starEach es X.env).any (·.1)=dV:=by rfl)
 (a6:tG (.Call (.Name fx fp) (e::es) [] cpos) (aI (.Name y py)) J.line X.env=pure dV:=by rfl)
 (hs:tG (.Name nx pn) (aI (.Name U pz)) Y.line X.env=pure dV:=by rfl) :
 pa X (.Try [.Assign [.Name y py] (.Call (.Name fx fp) (e::es) [] cpos) J] [.ExceptHandler (aI (.Name "SplitError" np)) (aI nx) [.Assign [.Name U pz] (.Name nx pn) Y] ak] [] [] Z) (rl i O R F G g):=by
 intro a s C H D I ⟨m,o,p,b,j,W,B,d⟩;obtain⟨t,f,B⟩:=zc B;refine Mz ?_;cases q:G t with
 | some E=>
  rw[q]at B;cases B;refine GD<|Iv (EG (Jd hx bd h cf ha I W.rc f q he a5) (λ_ _ z=>z.elim) λM P z=>?_) a6;exact cE h ap x ar cn cl cv cz an W z d hs
 | none=>
  rw[q]at B;obtain⟨r,A,B⟩:=zA B;subst B;have l:=h.m4 λ_ _=>False;have bl:pa X.n5 (.Assign [.Name y py] (.Call (.Name fx fp) (e::es) [] cpos) J) (jF i<|zw F g):=vJ i<|l.set i cy (nu (X:=X.n5) hf bb l cf ha he a5) a6;have u:jF i (zw F g) b=aI (.next<|b.set i<|.val<|aL r):=by unfold jF zw;rw[f];simp only[EA];rw[A];rfl
  refine EG (zk bl a s C H D (I.m4 _) ⟨m,o,p,b,_,W,u,d⟩) (λj Q z=>?_) λ_ _ z=>z.elim;have z:=z.sh;cases j with
  | next=>exact IY z
  | ret v=>exact z
  | brk=>exact z
  | cont=>exact z
theorem uY{P:i8}{w:i5}{K:Es}{J:MJ}{base:h7}{x:Str}{st:i7}{N G:List Str}{k:Nat}{F:CO Fl}(A:iv K J x st G)(W:Zy N G st=cI)
 (B : ∀X:Cx,X.prog=P->X.w=w->X.K=K->X.mg=J->X.base=base->SX X (zK st) N N k->X.xe=(λ_ _=>False)->(X.stack=X.env::X.outer/\X.env.frame=aI X.env.locals)->KZ X (jT st) F) :
 hI P w K J base (k+1) x G.length (jG N.length F):=by
 obtain⟨f,b,z,I,d⟩:=A.ex;have S:=kx W;refine⟨f,b,G,rfl,iF z S λa A outer s H E O=>?_,d,z.kp,.all I⟩;exact B _ rfl rfl rfl rfl rfl ⟨rfl,rfl,S.nd,rfl,O,λ_ _=> .inl rfl⟩ rfl ⟨rfl,rfl⟩
structure XI(K:Es)(mg:MJ)(c:Str):Prop where
 mem:c∈o3
 ex : ∃C,xW K c=aI C/\mg c=aI (.ref C)
theorem eh{G:MW}{W:St}{H:Hp}{s:gE}{A:l7}{E:MQ}{Q:MQ}{b:eI}{t:gv}{c:Str}{n:Option Int}{H0:Hp}{r:Bool}(I:L2.Inv X G W H s)(sub:jn H0 H)(B:B1 X.K H0 c n b)
 (R : ∀C,xW X.K c=aI C->Fw X.K (.ref C) t=aI r) (h : ∀J,Q (.bool r) {s with toks:=J}):wpAny (hA X.prog X.w) A (call (.builtin "isinstance") [.ref b,t]) Q E s:=by
 obtain⟨C,a,O,g2,U,_⟩:=B.ex;obtain⟨S,_,x1,_,_⟩:=yE B.all B.mem O;obtain⟨p,_,_⟩:=(show l6 X.prog X.w H s.heap b (.ext a)from I.h8 b _<|sub _ _ g2);exact EZ (JI (Jm x1)<|Q3 x1) I.i9 (U _ p) (R C O) (λz=>nomatch z) h
theorem ke{c:Str}(h:SX X sc N L k)(Y:qN sc "isinstance" = cI)(z:X.mg "isinstance" = cS)(G:qN sc c=cI)(x:XI X.K X.mg c)(J:PV X a f)
 (hs:i0 [a,.Name c p2] X.env=[(dV,hX a X.env),(dV,hX (.Name c p2) X.env)]:=by rfl):PV X (.Call (.Name "isinstance" p) [a,.Name c p2] [] pos) (Kj c f):=by
 intro i s Z H Q I ⟨l,T,d,rc,B,q⟩;obtain⟨o,t,B⟩:=zc B;obtain⟨C,x1,M⟩:=x.ex;cases o with
 | exc O n=>
  cases B;refine FX<|xO I (h.gl Y).1 z GZ ?_ ⋯ ⋯;refine Gh ?_ (by rw[hs];rfl) rfl;rw[hs];show wpAny _ _ (A7 ((dV,hX a X.env)::ov pos [(dV,hX (.Name c p2) X.env)])) _ _ s;refine Fg<|ij (J i s Z H (λv j=>∃e,Ext l H e j/\Rep X.K e (.exc O n) v) I ⟨l,T,_,rc,t,λv j e x r=>⟨e,x,r⟩⟩) λu E w=>?_;obtain⟨v,m,R,y,g,W,A⟩:=w;obtain⟨b,rfl,U⟩:=(show ∃b,v = .ref b/\B1 X.K g O n b from A);cases (show u=EO b from y);show wpAny _ _ (A7 ((dV,hX (.Name c p2) X.env)::[])) _ _ E;refine Fg<|xH R (h.gl G).1 M ?_ (h.gl G).2.2;refine GG ?_;refine eh R W.sub U (λC2 g1=>?_) λF=>⟨.bl<|O==c,m,R.tok F,rfl,q _ m g W rfl⟩;obtain⟨S,_,_,_,P⟩:=yE U.all U.mem g1;exact P c C x.mem x1
 | _=>cases B
theorem iS:E8 "ValueError" = aI (.type "ValueError"):=by decide +kernel
theorem gm(h:SX X sc N L k)(J:qN sc "isinstance" = cI)(z:X.mg "isinstance" = cS)(G:qN sc "ValueError" = cI)(zv:X.mg "ValueError" = cS)(Z:PV X a f)
 (hs:i0 [a,.Name "ValueError" p2] X.env=[(dV,hX a X.env),(dV,hX (.Name "ValueError" p2) X.env)]:=by rfl):PV X (.Call (.Name "isinstance" p) [a,.Name "ValueError" p2] [] pos) (mL f):=by
 intro i s M H Q I ⟨l,F,d,rc,B,q⟩;obtain⟨o,t,B⟩:=zc B;cases o with
 | exc W n=>
  cases B;refine FX (xO I (h.gl J).1 z GZ ?_ ⋯ ⋯);refine Gh ?_ (by rw[hs];rfl) rfl;rw[hs];show wpAny _ _ (A7 ((dV,hX a X.env)::ov pos [(dV,hX (.Name "ValueError" p2) X.env)])) _ _ s;refine Fg (ij (Z i s M H (λv j=>∃e,Ext l H e j/\Rep X.K e (.exc W n) v) I ⟨l,F,_,rc,t,λv j e x r=>⟨e,x,r⟩⟩) λu C w=>?_);obtain⟨v,m,O,y,g,Y,A⟩:=w;obtain⟨b,rfl,R⟩:=(show ∃b,v = .ref b/\B1 X.K g W n b from A);cases (show u=EO b from y);show wpAny _ _ (A7 ((dV,hX (.Name "ValueError" p2) X.env)::[])) _ _ C;refine Fg (xO O (h.gl G).1 zv iS ?_ (h.gl G).2.1 (h.gl G).2.2);refine GG ?_;refine eh (r:=cI) O Y.sub R (λP g1=>?_) λE=>⟨.bl cI,m,O.tok E,rfl,q _ m g Y rfl⟩;obtain⟨S,_,U,_,_⟩:=yE R.all R.mem g1;unfold ao at U;simp only[Ex,beq_iff_eq]at U;exact U.1.1.1.1.1.1.1.1.1.2
 | _=>cases B
structure GL(K:Es)(mg:MJ)(x:Str)(d:D):Prop where
 ex : ∃u v,mg x=aI u/\RelV v u/\∀H,Rep K H d v
theorem ZO{x:Str}{d:D}(h:SX X sc N L k)(c:qN sc x=cI)(z:GL X.K X.mg x d):PV X (.Name x pos) (ze d):=by intro b s j H Q I ⟨a,i,g,rc,B,q⟩;cases B;obtain⟨u,v,e,f,O⟩:=z.ex;exact xH I (h.gl c).1 e ⟨v,H,I,f,q v H a (Ext.refl rc.sub)<|O a⟩ (h.gl c).2.2
theorem Vp{G Z:ik}{j:Nat}(h:SX X sc N L k)(c:qN sc "isinstance" = cI)(z:X.mg "isinstance" = cS)(c2:qN sc "list" = cI)(z2:X.mg "list" = cS)(c3:qN sc "tuple" = cI)(z3:X.mg "tuple" = cS)(ha:PV X a f)
 (hs:i0 [a,.Tuple [.Name "list" p2,.Name "tuple" G] j Z] X.env=[(dV,hX a X.env),(dV,hX (.Tuple [.Name "list" p2,.Name "tuple" G] j Z) X.env)]:=by rfl)
 (ap:i0 [.Name "list" p2,.Name "tuple" G] X.env=[(dV,hX (.Name "list" p2) X.env),(dV,hX (.Name "tuple" G) X.env)]:=by rfl) :
 PV X (.Call (.Name "isinstance" p) [a,.Tuple [.Name "list" p2,.Name "tuple" G] j Z] [] pos) (Qg f):=by
 intro m s σ H Q I ⟨H0,γ,d,rc,ef,q⟩;obtain⟨d1,e1,e2⟩:=zA ef;subst e2;refine FX (xO I (h.gl c).1 z GZ ?_ ⋯ ⋯);refine Gh ?_ (by rw[hs];rfl) rfl;rw[hs];show wpAny _ _ (A7 ((dV,hX a X.env)::ov pos [(dV,hX (.Tuple [.Name "list" p2,.Name "tuple" G] j Z) X.env)])) _ _ s;refine Fg (ij (ha m s σ H (λv H'=>∃E,Ext H0 H E H'/\Rep X.K E d1 v) I ⟨H0,γ,d1,rc,e1,λv H' E x r=>⟨E,x,r⟩⟩) λu A hZ=>?_);obtain⟨x,T,I1,R,g,x1,U⟩:=hZ;show wpAny _ _ (A7 ((dV,hX (.Tuple [.Name "list" p2,.Name "tuple" G] j Z) X.env)::[])) _ _ A;refine Fg (SQ ?_);rw[ap];show wpAny _ _ (A7 ((dV,hX (.Name "list" p2) X.env)::ov Z [(dV,hX (.Name "tuple" G) X.env)])) _ _ A;refine Fg (xO I1 (h.gl c2).1 z2 PyProof.Rows.boot_list ?_ (h.gl c2).2.1 (h.gl c2).2.2);show wpAny _ _ (A7 ((dV,hX (.Name "tuple" G) X.env)::[])) _ _ A;refine Fg (xO I1 (h.gl c3).1 z3 IG ?_ (h.gl c3).2.1 (h.gl c3).2.2);refine GG ⟨by decide,?_⟩;refine GG ?_;have B:L2.Inv X m σ T {A with heap:=A.heap.push {cls:= .type "tuple",data:= .seq #[.type "list",.type "tuple"]},toks:=A.toks}:=I1.kept λb u e=>Ew _ e;have tp:(A.heap.push {cls:= .type "tuple",data:= .seq #[.type "list",.type "tuple"]}).get? A.heap.objs.size=aI ⟨.type "tuple",cS,.seq [HF "list",.type "tuple"].toArray 0,#[]⟩:=ET _ rfl;have Y : ∀tk,EP X m σ Q (.bool (ZI .list d1 || ZI .tuple d1)) {A with heap:=A.heap.push {cls:= .type "tuple",data:= .seq #[.type "list",.type "tuple"]},toks:=tk}:=λtk=>⟨.bl _,T,B.tok tk,rfl,q _ T g x1 rfl⟩;have any : ∀{t:gv} {b1 b2:Bool},Fw X.K t (.type "list")=aI b1->Fw X.K t (.type "tuple")=aI b2->PySem.W.kitAny X.K t [.type "list",.type "tuple"]=aI (b1 || b2):=λ{t b1 b2} g1 g2=>by
  unfold PySem.W.kitAny;rw[g1];cases b1 with
  | true=>rfl
  | false=>
   dsimp only;unfold PySem.W.kitAny;rw[g2];cases b2<;>rfl
 cases d1 with
 | ih=>cases (show x = .ih from U);cases (show u=Gk from R);exact Gq LI B.i9 Ga tp (any (xk .list .ih<|λ_ _ z=>nomatch z)<|xk .tuple .ih<|λ_ _ z=>nomatch z) (λz=>nomatch z) Y
 | bl y=>cases (show x = .bl y from U);cases (show u=La y from R);exact Gq LJ B.i9 Ga tp (any (xk .list (.bl y)<|λ_ _ z=>nomatch z)<|xk .tuple (.bl y)<|λ_ _ z=>nomatch z) (λz=>nomatch z) Y
 | int i=>cases (show x = .int i from U);obtain⟨t,qq⟩:=(show ∃t,u=IB i t from R);cases qq;exact Gq LY B.i9 Ga tp (any (xk .list (.int i)<|λ_ _ z=>nomatch z)<|xk .tuple (.int i)<|λ_ _ z=>nomatch z) (λz=>nomatch z) Y
 | str y=>cases (show x = .str y from U);obtain⟨t,qq⟩:=(show ∃t,u=Ln y t from R);cases qq;exact Gq LX B.i9 Ga tp (any (xk .list (.str y)<|λ_ _ z=>nomatch z)<|xk .tuple (.str y)<|λ_ _ z=>nomatch z) (λz=>nomatch z) Y
 | tup ds=>
  obtain⟨a,F,rfl,l,h2⟩:=vA U;cases (show u=EO a from R);obtain⟨ax,rv,⟨o,ho,hc,_⟩,hz⟩:=B.tuple<|xC x1.sub l;exact Gq Lu B.i9 ⟨o,ho,hc⟩ tp (any (xk .list (.tup ds)<|λ_ _ z=>nomatch z)<|xk .tuple (.tup ds)<|λ_ _ z=>nomatch z) (λz=>nomatch z) Y
 | lst ds=>
  obtain⟨a,F,rfl,l,h2⟩:=Xy U;cases (show u=EO a from R);obtain⟨ax,rv,p,hz⟩:=B.list<|x1.sub.seq l;obtain⟨o,ho,hc,_⟩:=p.isList;exact Gq O4 B.i9 ⟨o,ho,hc⟩ tp (any (xk .list (.lst ds)<|λ_ _ z=>nomatch z)<|xk .tuple (.lst ds)<|λ_ _ z=>nomatch z) (λz=>nomatch z) Y
 | exc c n=>
  obtain⟨b,rfl,xr⟩:=(show ∃b,x = .ref b/\B1 X.K g c n b from U);cases (show u=EO b from R);obtain⟨C,φ,g1,g2,g3,_⟩:=xr.ex;obtain⟨S,_,y1,_,_⟩:=yE xr.all xr.mem g1;obtain⟨p,_,_⟩:=(show l6 X.prog X.w T _ b (.ext φ)from B.h8 b _<|x1.sub _ _ g2);have a9:=y1;unfold ao at a9;simp only[Ex,Hv,List.all_nil,beq_iff_eq]at a9;have t:=a9.1.1.1.1.1.1.1.1.1.1;exact Gq (JI (Jm y1)<|Q3 y1) B.i9 (g3 _ p) tp (any t.2.2.2.2.1 t.2.2.2.1) (λz=>nomatch z) Y
 | pk M P=>
  obtain⟨a,F,rfl,⟨kk,_,_,o,l⟩,_⟩:=(show ∃a F,x = .ref a/\Nb g a M F/\hF X.K g P F from U);cases (show u=EO a from R);obtain⟨_,_,P0,_,dd⟩:=bZ B.h8<|.inr ⟨o,x1.sub _ _ l⟩;exact Gq Hk B.i9 dd.typeIs tp (any (xk .list (.pk M P)<|λ_ _ z=>nomatch z)<|xk .tuple (.pk M P)<|λ_ _ z=>nomatch z) (λz=>nomatch z) Y
 | n4 M P=>
  obtain⟨a,F,rfl,⟨_,o,zs,l,h2,_⟩,_⟩:=(show ∃a F,x = .ref a/\Nc X.K g a M F/\hF X.K g P F from U);cases (show u=EO a from R);obtain⟨ho,_⟩:=(show l6 X.prog X.w T _ a (Pf a o)from B.h8 a _<|x1.sub _ _ l);exact Gq Hk B.i9 ⟨o,ho,h2.1.1⟩ tp (any (xk .list (.n4 M P)<|λ_ _ z=>nomatch z)<|xk .tuple (.n4 M P)<|λ_ _ z=>nomatch z) (λz=>nomatch z) Y
 | ins c p t=>
  obtain⟨a,C,dx,vp,vt,rfl,l,h2,_,_⟩:=(show ∃a C dx vp vt,x = .ref a/\L1 X.K c=aI C/\g a=aI (.ins C dx<|ND vp vt)/\Rep X.K g p vp/\Rep X.K g t vt from U);cases (show u=EO a from R);have ty:=eD (ve l)<|x1.sub _ _ h2;cases ty with
  | ins ea cl ha hn Rm hm=>
   obtain⟨mA,O,_⟩:=Wb B.h8 ea;obtain⟨od,J,_⟩:=O.look;exact Gq (PySem.W.kitx_own (cl.get _) cl.hd ha hn Rm hm) B.i9 J tp (any (XM (c:=c) (p:=p) (t:=t) (ve l) .list)<|XM (c:=c) (p:=p) (t:=t) (ve l) .tuple) (λz=>nomatch z) Y
theorem v9{lo hi:Option hH}{G:CO (Sk×List D)}{I O:CO (Option Int)}(J:PQ X a G)(Z:L2.PO X lo (tB X.K I))(U:L2.PO X hi (tB X.K O)):PO X (.Subscript a (.Slice lo hi cS p2) pos) (Qf G I O):=
 jw (JD fP J Z U) λE H Q W=>by
  obtain⟨g,f,A,rc,z,q⟩:=W;obtain⟨⟨o,es⟩,j,z⟩:=zc z;obtain⟨l,m,z⟩:=zc z;obtain⟨u,Y,z⟩:=zc z;cases o with
  | T=>cases z
  | L=>
   cases z;refine⟨g,f,.L,es,rc,j,λb s t d x n C r=>⟨d,f,l,rc.ext x,m,λw h B=>⟨h,f,u,(rc.ext x).ext B,Y,λy i x3=>?_⟩⟩⟩;have R:=x.trans<|B.trans x3;refine⟨b,s,rfl,(B.trans x3).s1.seq n,λp e=>?_⟩;exact q p _ _ i (R.trans<|Ext.hide x3.sub e _) (kY R.s1 e) (js x3.sub e) zt<|Kl (r.mono (B.trans x3).s0) _ _
end
section
variable{K:Es}{mg:MJ}{h:h7}
theorem Ku{c:Str}{C:eI}(z:K.In h)(G:h.Ns o5 mg)(e:xW K c=aI C):mg c=aI (.ref C):=by
 unfold xW at e;split at e
 ·rename_i B q
  cases e;exact Hj z G q
 ·cases e
noncomputable def RR(K:Es):Bool:=match xW K "SplitError" with
 | some S=>GB K (.ref S)==aI (.type "type") && Fo K S (.type "BaseException")==aI cI && (Gn K S).isSome && Fo K S (.ref S)==aI cI
 | none=>dV
noncomputable def RN(K:Es)(c:Str):Bool:=match xW K c with
 | some C=>sW K C
 | none=>dV
theorem BZ(z:K.In h)(G:h.Ns o5 mg)(e:RR K=cI):XS K mg:=by
 unfold RR at e;split at e
 ·rename_i S q
  simp only[Ex,beq_iff_eq]at e;exact⟨S,q,Ku z G q,e.1.1.1,e.1.1.2,e.1.2,e.2⟩
 ·cases e
theorem Ca{c:Str}(z:K.In h)(G:h.Ns o5 mg)(e:wB K=cI)(H:c∈o3):XI K mg c:=by
 unfold wB at e;split at e
 ·have a:=EY.mp e c H
  split at a
  ·rename_i C q
   exact⟨H,C,q,Ku z G q⟩
  ·cases a
 ·cases e
theorem Cc{c:Str}(z:K.In h)(G:h.Ns o5 mg)(e:wB K=cI)(H:c∈o3)(b:RN K c=cI):XC K mg c:=by
 unfold RN at b;split at b
 ·rename_i C q
  exact⟨e,H,C,q,Ku z G q,b⟩
 ·cases b
theorem Bq{x:Str}{n:Int}{t:rk}(z:K.In h)(G:h.Ns o5 mg)(a:GN K o5 x=aI (aI (.int n t))):GL K mg x (.int n):=
 ⟨_,.int n,Hj z G a,⟨t,rfl⟩,λ_=>(show V.int n = .int n from rfl)⟩
noncomputable def XG:List gv->Option (List Int)
 | []=>aI []
 | .int i _::r=>(XG r).map λl=>i::l
 | _::_=>cS
theorem wa : ∀{H:List gv} {G:List Int},XG H=aI G->i4 (G.map V.int) H
 | [],G,e=>by cases e;exact .nil
 | u::H,G,e=>by
  cases u with
  | int i t=>
   obtain⟨l,a,b⟩:=zA e;subst b;exact .cons ⟨t,rfl⟩<|wa a
  | _=>cases e
theorem vY{H:Hp} : ∀G:List Int,hF K H (G.map D.int) (G.map V.int)
 | []=>hF.nil
 | n::G=>hF.cons (show V.int n = .int n from rfl)<|vY G
theorem uV{x:Str}{ad:eI}{B:Array gv}{m:Nat}{L:Array (Option gv)}(J:List Int)(I:K.In h)(G:h.Ns o5 mg)(a:GN K o5 x=aI (aI (.ref ad)))
 (l:K.lookup ad=aI ⟨.type "tuple",cS,.seq B m,L⟩) (v:XG B.toList=aI J) (z:B.size<=j3):GL K mg x (.tup (J.map D.int)):=
 ⟨_,.ref ad,Hj I G a,rfl,λH=>(show ∃b d,V.ref ad = .ref b/\l4 K H b d/\hF K H (J.map D.int) d from⟨ad,J.map V.int,rfl,.inr ⟨_,B,m,l,rfl,rfl,z,wa v⟩,vY J⟩)⟩
end
theorem xY(h:A3 X es n g):DP X es g:=h.1
section
variable{K:Es}{E0 E H0 H:Hp}{σ:St}{γ:Ctx}
theorem hF.dropLast : ∀{G:List D} {xs:List V},hF K H G xs->hF K H G.dropLast xs.dropLast
 | [],xs,r=>by rw[r.Du];exact hF.nil
 | [d],xs,r=>by obtain⟨x,B,e,_,z⟩:=r.B8;rw[e,z.Du];exact hF.nil
 | d::d2::G,xs,r=>by obtain⟨x,B,e,I,z⟩:=r.B8;obtain⟨O,R,a,_,_⟩:=z.B8;subst e a;exact hF.cons I<|hF.dropLast z
end
end DL
namespace L2
open PySem PySem.Spec PyProof.Rows
noncomputable def Oe(z:Str):It:=⟨λi _=>i<z.cps.size,λi H x a=>a=H/\∃c,z.cps[i]? = aI c/\x = .str ⟨#[c]⟩,λi _=>z.cps.size<=i⟩
theorem bI(z:Str):N0 z = "str_ascii_iterator"\/N0 z = "str_iterator":=by unfold N0;split<;>simp
theorem aB{P:i8}{w:i5}{K:Es}{tg:hH}(z:Str)(t:rk)(it:eI):Turn P w K tg (Oe z) [it] it (λi h=>h.IsStrIter it (N0 z) z t i) where
 mem:=by simp
 obj:=λi h st b B=>by
  have e:b=it:=by simpa using B
  subst e;obtain⟨o,e,c,d⟩:=st;exact⟨o,e,λv q=>by rw[d]at q;cases q⟩
 keep:=λi h h' st k=>by obtain⟨o,e,r⟩:=st;exact⟨o,k it ⋯ o e,r⟩
 item:=by
  rintro X rfl rfl rfl hc i pins s σ H E I hf st hg;obtain⟨U,W,f2,Y,f4,f5⟩:=hf it ⋯;have hi:i<z.cps.size:=hg;have hx:z.cps[i]? = aI z.cps[i]:=by simp[hi]
  have a5 : ∀h',h'.IsStrIter it (N0 z) z t (i+1)->Hq it s.heap h'->wpAny (hA X.prog X.w) X.A (MU tg (.ref it)<|.str ⟨#[z.cps[i]]⟩ s.toks)
   (λ_ s2=>∃x H',Inv X pins σ H' s2/\RelV x (.str ⟨#[z.cps[i]]⟩ s.toks)/\(Oe z).C8 i H x H'/\s2.heap.IsStrIter it (N0 z) z t (i+1)/\∀b ∈ [it],H' b=cS) E {s with heap:=h',toks:=s.toks+1}:=λh' O R=>by
   have I1:Inv X pins σ H {s with heap:=h',toks:=s.toks+1}:=I.turned (λb o B e=>(R.2 b B).trans e) U W Y f4 f5;obtain⟨o,e,c,d⟩:=id O;refine Wj (s:={s with heap:=h',toks:=s.toks+1}) e c d ?_ ⟨.str ⟨#[z.cps[i]]⟩,H,I1,⟨_,rfl⟩,⟨rfl,_,hx,rfl⟩,O,λb B=>(hf b B).1⟩;rcases bI z with q | q<;>rw[q]<;>decide
  rcases bI z with q | q
  ·rw[q]at st
   exact wpAny_pyNext_ascii_item st hx λh' O R=>⟨_,rfl,a5 h' (by rw[q];exact O) R⟩
  ·rw[q]at st
   exact wpAny_pyNext_wide_item st hx λh' O R=>⟨_,rfl,a5 h' (by rw[q];exact O) R⟩
 done:=by
  rintro X rfl rfl rfl hc i pins s σ H E I hf st hg;obtain⟨U,W,f2,Y,f4,f5⟩:=hf it ⋯;have hi:z.cps.size<=i:=hg;have hx:z.cps[i]? = cS:=by simp[hi]
  have hh:=I.ok.hd hc;rcases bI z with q | q
  ·rw[q]at st
   exact wpAny_pyNext_ascii_end hh st hx λh' eb=>⟨rfl,I.turned (t':=s.toks) (λb o B e=>eb b o B e) U W Y f4 f5⟩
  ·rw[q]at st
   exact wpAny_pyNext_wide_end hh st hx λh' eb=>⟨rfl,I.turned (t':=s.toks) (λb o B e=>eb b o B e) U W Y f4 f5⟩
 self:=λA i s Q E st h=>by
  rcases bI z with q | q
  ·rw[q]at st;exact wpAny_pyIter_striter_ascii st h
  ·rw[q]at st;exact wpAny_pyIter_striter_wide st h
noncomputable def CU(G:TE):TI:=λb H R=>G b H λx a=>∃z,x = .str z/\R (Oe z) a
theorem nH{X:Cx}{L l:hH}{G:TE}(J:PE X l G):PI X L l (CU G):=by
 intro a s g H R I h;refine ij (J a s g H _ I h) λv d O=>?_;obtain⟨x,f,B,U,W⟩:=O;obtain⟨z,rfl,q⟩:=W;obtain⟨t,rfl⟩:=U;refine wpAny_pyIter_strU ?_;refine⟨d.heap.objs.size,[d.heap.objs.size],_,_,f,rfl,B.kept (t':=d.toks) λb o e=>Ew _ e,aB z t _,⟨_,ET _ rfl,rfl,rfl⟩,λb Y=>?_,q⟩;have e:b=d.heap.objs.size:=by simpa using Y
 subst e;exact B.MR (EF _)<|B.h8.fresh<|EF _
theorem bU{X:Cx}{G:MW}{σ:St}{H:Hp}{s:gE}{E:MQ}{z it:eI}{i J:Nat}{x:gv}{v:V}{g:h7}{L:List hH}{x1:Nat}{Z:ik}{Q:Unit->gE->Prop}
 (I:Inv X G σ H s) (hf : ∀b ∈ [z,it],Q0 X G H b) (U:z<s.heap.objs.size) (hi:it<s.heap.objs.size) (W:IsEnumOut g z it ((i:Int)+1) x s.heap.objs.size)
 (Y:u5 g s.heap.objs.size (.int i J) x) (a5 : ∀b o,b≠z->b≠it->s.heap.get? b=aI o->g.get? b=aI o) (rx:RelV v x)
 (a4 : ∀g2,IsEnum g2 z it ((i+1:Nat):Int) x->Hq z g g2->Inv X G σ (upd H s.heap.objs.size<|.tup [.int i,v]) {s with heap:=g2,toks:=J+1}->H s.heap.objs.size=cS->
   (∀b ∈ [z,it],upd H s.heap.objs.size (.tup [.int i,v]) b=cS)->Q () {s with heap:=g2,toks:=J+1}) :
 wpAny (hA X.prog X.w) X.A (MU (.Tuple L x1 Z) (.ref z)<|.ref s.heap.objs.size) Q E {s with heap:=g,toks:=J+1}:=by
 refine wpAny_letOwnedTupleGo_enum W λg2 L0 R=>?_;have a:u5 g2 s.heap.objs.size (.int i J) x:=R.extBut _ _ (HN U) Y;have f : ∀B u,B ∉ [z,it]->s.heap.get? B=aI u->g2.get? B=aI u:=λB u O e=>by simp only[ED,Fp,or_false,not_or]at O;exact R.extBut _ _ O.1<|a5 B u O.1 O.2 e
 refine a4 g2 (by have:=L0;rwa [show((i:Int)+1)=((i+1:Nat):Int)by omega]at this) R (I.RF (fp:=[z,it]) f hf (EF _) ⟨by show 2<=j3;decide,[.int i J,x],.cons ⟨_,rfl⟩<|.cons rx .nil,⟨_,a,rfl,_,rfl⟩⟩) I.fresh λB O=>?_;have d:B≠s.heap.objs.size:=by
  simp only[ED,Fp,or_false]at O;rcases O with rfl | rfl
  ·exact ER U
  ·exact ER hi
 rw[zu d];exact(hf B O).1
noncomputable def AN(K:Es)(a:eI):It:=
 ⟨λi H=>∃b,kv K H a b/\i<b.length,
  λi H x d=>∃p u,x = .ref p/\H p=cS/\d=upd H p (.tup [.int i,u])/\(∀b,kv K H a b->b[i]? = aI u),
  λi H=>∃b,kv K H a b/\b.length=i⟩
theorem Yd{P:i8}{w:i5}{K:Es}{elts:List hH}{x1:Nat}{DN:ik}{z it a:eI}(a7:z≠it) :
 Turn P w K (.Tuple elts x1 DN) (AN K a) [z,it] z (λi h=>(∃R,IsEnum h z it i R)/\h.IsListIter it a i) where
 mem:=by simp
 obj:=λi h ⟨⟨R,B⟩,h1⟩ y hy=>by
  simp only[ED,Fp,or_false]at hy;rcases hy with rfl | rfl
  ·exact⟨_,B,λv q=>by cases q⟩
  ·obtain⟨o,e,c,d⟩:=h1
   exact⟨o,e,λv q=>by rw[d]at q;cases q⟩
 keep:=λi h h' ⟨⟨R,B⟩,h1⟩ k=>⟨⟨R,k z ⋯ _ B⟩,h1.at λo e=>k it ⋯ o e⟩
 item:=by
  rintro X rfl rfl rfl hc i pins s σ H E I hf ⟨⟨R,B⟩,h1⟩ ⟨xs,U,an⟩;obtain⟨W,Y,p1,z1⟩:=I.list U;have hl:=p1.isList;have hx:xs[i]? = aI xs[i]:=Ey an;have l1:=Y.length;have a8:a≠it:=λe=>by obtain⟨o,e1,O,_⟩:=hl;obtain⟨o2,e2,c2,_⟩:=h1;rw[e,e2]at e1;cases e1;rw[c2]at O;exact absurd O ⋯
  have ar:z≠a:=λe=>by obtain⟨o,e1,O,_⟩:=hl;have ak:s.heap.get? z=aI _:=B;rw[e,e1]at ak;cases ak;exact absurd O ⋯
  have as:it<s.heap.objs.size:=by obtain⟨o2,e2,_⟩:=h1;exact EH e2
  have Dr:=Draws.list (prog:=X.prog) (w:=X.w) (A:=X.A.in1) (show X.A.in1.handled=cS from I.ok.hd hc) it a a8 W.toArray;refine wpAny_pyNext_enum_itemD Dr B ⟨h1,hl⟩ (by simp;omega) a7 (by simp;exact⟨a7,ar⟩) λx g tk hP a1 a2 a3 a4 a5=>⟨_,rfl,?_⟩;obtain⟨u1,bg,bi⟩:=Y.get hx;obtain rfl:u1=x:=by have:=hP;simp[bg]at this;exact this
  refine bU I hf (EH B) as a1 a3 a5 bi λg2 b1 b2 I1 bn hn=>⟨.ref s.heap.objs.size,_,I1,rfl,⟨_,_,rfl,bn,rfl,λc5 bv=>by rw[I.Py bv U];exact hx⟩,⟨⟨_,b1⟩,a2.1.at λo e=>b2.extBut _ _ a7.symm e⟩,hn⟩
 done:=by
  rintro X rfl rfl rfl hc i pins s σ H E I hf ⟨⟨R,B⟩,h1⟩ ⟨xs,U,hi⟩;obtain⟨W,Y,p1,z1⟩:=I.list U;have hl:=p1.isList;have l1:=Y.length;have a8:a≠it:=λe=>by obtain⟨o,e1,O,_⟩:=hl;obtain⟨o2,e2,c2,_⟩:=h1;rw[e,e2]at e1;cases e1;rw[c2]at O;exact absurd O ⋯
  have Dr:=Draws.list (prog:=X.prog) (w:=X.w) (A:=X.A.in1) (show X.A.in1.handled=cS from I.ok.hd hc) it a a8 W.toArray;have en:W.toArray.size=i:=by simp;omega
  rw[en]at Dr;refine wpAny_pyNext_enum_endD Dr B ⟨h1,hl⟩ λg hk=>⟨rfl,?_⟩;refine I.RG (t':=s.toks) (fp:=[z,it]) (λb' u hb e=>?_) hf;simp only[ED,Fp,or_false,not_or]at hb;exact hk b' u hb.2 e
 self:=λ_ _ _ _ _ st h=>Qy st.1.choose_spec h
noncomputable def ph(K:Es)(G:TA):TI:=λf H R=>G f H λd b=>∃a,d=[.ref a]/\(∃e,kv K b a e)/\R (AN K a) b
section
variable{X:Cx}{e1:hH}{ta:TA}{p pos:ik}{elts:List hH}{x1:Nat}{DN:ik}
theorem bj(O:Gl X "enumerate")(J:X.mg "enumerate" = cS)(G:PA X [e1] ta)
 (U:E8 "enumerate" = aI (.type "enumerate")) (hs:i0 [e1] X.env=[(dV,hX e1 X.env)]:=by rfl) :
 PI X (.Tuple elts x1 DN) (.Call (.Name "enumerate" p) [e1] [] pos) (ph X.K ta):=by
 intro b s n H R I h;refine Call_<|xO I O J U<|Gz (ij (G pos b s n H _ I h) λt d W=>?_) (by rw[hs];rfl) rfl;obtain⟨u,f,z,Y,m⟩:=W;obtain⟨a,rfl,⟨x,i⟩,q⟩:=m;obtain⟨w,rfl,j⟩:=kO Y;cases j;obtain⟨o,r,l,y⟩:=z.list i;refine call_enumerate_list l.isList λg b1 b2 b3 b4=>Qy (s:={d with heap:=g}) b1 ?_;refine⟨_,[d.heap.objs.size+1,d.heap.objs.size],_,_,f,rfl,z.kept (t':=d.toks) b4,Yd<|HN<|Iy _,⟨⟨_,b1⟩,b2⟩,λc e=>?_,q⟩;have B:d.heap.objs.size<=c:=by
  simp only[ED,Fp,or_false]at e;rcases e with rfl | rfl
  ·exact GA _ _
  ·exact EF _
 exact z.MR B<|z.h8.fresh B
end
theorem mB{X:Cx}:Nk X (λx lo hi H Q=>∃z,x = .str z/\z.length<=j3/\Q (.str<|FV z lo hi) H):=by
 rintro a s g H x v W Y lo hi h Q I rx ⟨o,B,b,d⟩ f U ⟨z,rfl,O,q⟩;obtain⟨t,rfl⟩:=rx;have R : ∀e k,EP X a g Q (.str (FV z lo hi) e) {s with toks:=k}:=λe k=>⟨.str _,H,I.tok k,⟨_,rfl⟩,q⟩;refine⟨"str",_,F.slot_str_getitem.lookup,Lm _ _ _,?_⟩;cases f<;>cases U
 ·exact Ig (l:=cS) (u:=cS) (st:=cS) ⟨o,B,b,d⟩ rfl<|LF ⟨EX (Ml z _ _) O,R⟩
 ·exact Ig (l:=cS) (u:=aI (_,_)) (st:=cS) ⟨o,B,b,d⟩ rfl<|LF ⟨EX (Ml z _ _) O,R⟩
 ·exact Ig (l:=aI (_,_)) (u:=cS) (st:=cS) ⟨o,B,b,d⟩ rfl<|LF ⟨EX (Ml z _ _) O,R⟩
 ·exact Ig (l:=aI (_,_)) (u:=aI (_,_)) (st:=cS) ⟨o,B,b,d⟩ rfl<|LF ⟨EX (Ml z _ _) O,R⟩
end L2
namespace DL
open PySem PySem.Spec PyProof.Rows L2
theorem Qd(z:Str):(kF z).length=z.cps.size:=by simp[kF]
theorem aF(z:Str){i c:Nat}(h:z.cps[i]? = aI c):(kF z)[i]? = aI (.str ⟨#[c]⟩):=by simp[kF,h]
theorem aw{K:Es}{H0 G:Hp}(z:Str):Walk K H0 G (Oe z) (kF z):=by
 refine⟨λi b s a=>?_,λb s=>?_,λi b x e s a y=>?_⟩
 ·rw[Qd]at a;exact a
 ·rw[Qd];exact EF _
 ·obtain⟨rfl,c,f,rfl⟩:=y
  exact⟨_,aF z f,λd h g=>⟨d,Ext.refl g,rfl⟩⟩
theorem K9{K:Es}{H0 H:Hp}{a:eI}{xs:List V}{G:List D}(h:kv K H a xs)(r:hF K H0 G xs):Walk K H0 H (AN K a) (vh G):=by
 have o:=r.length;have I:(vh G).length=G.length:=by simp[vh]
 refine⟨λi b s m=>?_,λb s=>?_,λi b x j s m y=>?_⟩
 ·exact⟨xs,s.seq h,by omega⟩
 ·exact⟨xs,s.seq h,by omega⟩
 ·obtain⟨p,u,rfl,e,rfl,z⟩:=y
  obtain⟨d,l,B⟩:=r.OC<|z xs<|s.seq h;refine⟨.tup [.int i,d],?_,λg n f=>⟨upd g p<|.tup [.int i,u],Ext.alloc f e _,?_⟩⟩
  ·unfold vh
   rw[Fi,List.getElem?_range ⋯,HM,l];rfl
  ·exact xD (l4.of zt)<|hF.cons (show V.int i = .int i from rfl)<|hF.cons ((B.mono n).mono (jl (js f e) _)) hF.nil
theorem w5 : ∀l:List Str,(l.map V.str).all ZQ=cI
 | []=>rfl
 | i::l=>by simp only[Fb,Hv,w5 l,IA];rfl
section
variable{X:Cx}{sc:i2}{N L:List Str}{k:Nat}{a b e:hH}{pos p p2:ik}{f fa fb:CO D}
theorem JB{J:hH}(G:PV X a f):o8 X J a (kT f):=
 Xs (nH G) λl H R I=>by
  obtain⟨i,j,e,rc,B,q⟩:=I;obtain⟨d,O,B⟩:=zc B;cases d with
  | str z=>
   by_cases g:zy z=cI
   ·have B:(if zy z=cI then aI (kF z)else cS)=aI e:=B
    rw[MY g]at B;cases B;exact⟨i,j,_,rc,O,λv h b x r=>⟨z,r,q _ h b x<|aw z⟩⟩
   ·have B:(if zy z=cI then aI (kF z)else cS)=aI e:=B
    rw[RQ g]at B;cases B
  | _=>cases B
theorem Zm(h:SX X sc N L k)(c:qN sc "enumerate" = cI)(z:X.mg "enumerate" = cS)(G:PV X a f)(hs:i0 [a] X.env=[(dV,hX a X.env)]:=by rfl) :
 o8 X (.Tuple elts x1 DN) (.Call (.Name "enumerate" p) [a] [] pos) (qZ f):=
 Xs (bj (h.gl c).1 z (jk G j9 hs) boot_enumerate hs) λn H R O=>by
  obtain⟨g,j,l,rc,B,q⟩:=O;obtain⟨d,U,B⟩:=zc B;cases d with
  | lst m=>
   cases B;refine⟨g,j,_,rc,U,λv e b x r=>?_⟩;obtain⟨W,i,rfl,I,g2⟩:=Xy r;exact⟨W,rfl,⟨i,x.sub.seq I⟩,q _ e b x<|K9 I g2⟩
  | _=>cases B
theorem Km(G:PV X a fa){g:CO (Sk×List D)}(I:PQ X b g)(J:Ds .In b=dV:=by with_unfolding_all rfl):PV X (.Compare a [.In] [b] pos) (aH fa g):=
 jw (JE Qs G I J) λF H Q O=>by
  obtain⟨m,j,d,rc,z,q⟩:=O;obtain⟨x,o,z⟩:=zc z;obtain⟨⟨i,n⟩,s,z⟩:=zc z;cases x with
  | str w=>
   obtain⟨l,R,rfl⟩:=zA z;refine⟨m,j,_,rc,o,λU A e x1 B=>⟨e,j,i,n,rc.ext x1,s,λp E f W Y h C r=>?_⟩⟩;have t:=yO r R;subst t;have u:kv X.K f p (l.map V.str)\/l4 X.K f p (l.map V.str):=by
    cases i with
    | L=>exact .inl h
    | T=>exact .inr h
   have B:U = .str w:=B;subst B;refine⟨p,_,rfl,u,rfl,w5 l,?_⟩;have:F4 (.str w) (l.map V.str)=l.any λy=>y==w:=by unfold F4;rw[Im];rfl
   rw[RQ ES,this];exact q _ f W (x1.trans Y) rfl
  | _=>cases z
theorem xF(G:PV X a fa)(B:PV X b fb):PV X (.BinOp a .Add b pos) (xf fa fb):=
 jw (gQ Yv G B) λr H Q I=>by
  obtain⟨h,g,d,rc,z,q⟩:=I;obtain⟨x,j,z⟩:=zc z;obtain⟨y,l,z⟩:=zc z;cases x with
  | str u=>
   cases y with
   | str w=>
    by_cases e:zy u=cI/\zy w=cI
    ·have z:(if zy u=cI/\zy w=cI then aI (D.str<|u++w)else cS)=aI d:=z
     rw[MY e]at z;cases z;refine⟨h,g,_,rc,j,λY m f x1 O=>⟨f,g,_,rc.ext x1,l,λp i R U W=>⟨u,w,O,W,?_,q _ i R (x1.trans U) rfl⟩⟩⟩;have n:=ye e.1;have o:=ye e.2;have:2000<=j3:=by decide
     omega
    ·have z:(if zy u=cI/\zy w=cI then aI (D.str<|u++w)else cS)=aI d:=z
     rw[RQ e]at z;cases z
   | _=>cases z
  | _=>cases z
theorem q8{lo hi:Option hH}{I O:CO (Option Int)}(G:PV X a f)(J:L2.PO X lo (tB X.K I))(W:L2.PO X hi (tB X.K O)):PV X (.Subscript a (.Slice lo hi cS p2) pos) (vD f I O):=
 jw (JD mB G J W) λy H Q Y=>by
  obtain⟨h,g,d,rc,B,q⟩:=Y;obtain⟨R,n,B⟩:=zc B;obtain⟨l,o,B⟩:=zc B;obtain⟨u,p,B⟩:=zc B;refine⟨h,g,R,rc,n,λv t b x r=>⟨b,g,l,rc.ext x,o,λw j U=>⟨j,g,u,(rc.ext x).ext U,p,λi m x3=>?_⟩⟩⟩;have s:=x.trans<|U.trans x3;cases R with
  | str z=>
   by_cases e:zy z=cI
   ·have B:(if zy z=cI then aI (D.str<|FV z l u)else cS)=aI d:=B
    rw[MY e]at B;cases B;exact⟨z,r,yd e,q _ i m s rfl⟩
   ·have B:(if zy z=cI then aI (D.str<|FV z l u)else cS)=aI d:=B
    rw[RQ e]at B;cases B
  | _=>cases B
end
section
variable{K:Es}{mg:MJ}{h:h7}
noncomputable def Xa:List gv->Option (List Str)
 | []=>aI []
 | .str i _::r=>(Xa r).map λl=>i::l
 | _::_=>cS
theorem vW : ∀{H:List gv} {G:List Str},Xa H=aI G->i4 (G.map V.str) H
 | [],G,e=>by cases e;exact .nil
 | u::H,G,e=>by
  cases u with
  | str i t=>
   obtain⟨l,a,b⟩:=zA e;subst b;exact .cons ⟨t,rfl⟩<|vW a
  | _=>cases e
theorem kW{H:Hp} : ∀G:List Str,hF K H (G.map D.str) (G.map V.str)
 | []=>hF.nil
 | n::G=>hF.cons (show V.str n = .str n from rfl)<|kW G
theorem uU{x:Str}{ad:eI}{B:Array gv}{m:Nat}{L:Array (Option gv)}(J:List Str)(I:K.In h)(G:h.Ns o5 mg)(a:GN K o5 x=aI (aI (.ref ad)))
 (l:K.lookup ad=aI ⟨.type "tuple",cS,.seq B m,L⟩) (v:Xa B.toList=aI J) (z:B.size<=j3):GL K mg x (.tup (J.map D.str)):=
 ⟨_,.ref ad,Hj I G a,rfl,λH=>(show ∃b d,V.ref ad = .ref b/\l4 K H b d/\hF K H (J.map D.str) d from⟨ad,J.map V.str,rfl,.inr ⟨_,B,m,l,rfl,rfl,z,vW v⟩,kW J⟩)⟩
end
end DL
namespace DL
open PySem PySem.Spec PyProof.Rows L2
open PySem.W (KasT kas_sort kas_ask kat_run kat_snds kat_lt kat_cons kat_no kat_yes kat_nil kat_go kat_one kat_kind KatTups KatGo)
section
variable{X:Cx}{a b c:hH}{pos:ik}{fa fb fc:CO D}
theorem Vw{O R:CmpOp}{r W:R2}{F G:D->D->Option D}(ho:l9 X (rp O) r)(J:l9 X (rp R) W)(s1:q7 X.K r F)(s2:q7 X.K W G)(ha:PV X a fa)(hb:PV X b fb)(hc:PV X c fc)
 (hm:Pw [O,R] [b,c]=dV:=by with_unfolding_all rfl):q5 X (.Compare a [O,R] [b,c] pos) (sB<|kc F G fa fb fc):=
 Xp (aU ho J ha hb hc hm) λσ H Q hZ=>by
  obtain⟨i,h,kq,rc,w,q0⟩:=hZ;obtain⟨d,B,Z⟩:=zc w;have q : ∀v f e,Ext i H e f->Rep X.K e d v->∃k,v = .bl k/\Q k f:=λv f e x Y=>by rw[vn Z]at Y;exact⟨kq,Y,q0 f e x⟩
  obtain⟨x,L,B⟩:=zc B;obtain⟨y,M,B⟩:=zc B;obtain⟨k,N,B⟩:=zc B;obtain⟨l,P,m⟩:=zc N;refine⟨i,h,x,rc,L,λv1 H1 g x1 r1=>⟨g,h,y,rc.ext x1,M,λo p A I n=>s1 A p v1 o x y l _ I.sub (r1.mono I.s0) n P λv3 s j x3 r3=>?_⟩⟩;cases l with
  | bl k'=>
   cases m;refine⟨k,show v3 = .bl k from r3,?_⟩;cases k with
   | true=>
    rw[MY rfl];rw[MY rfl]at B;obtain⟨z,S,T⟩:=zc B;exact⟨j,h,z,((rc.ext x1).ext I).ext x3,S,λv4 t C U r4=>s2 C t o v4 y z d _ U.sub ((n.mono x3.s0).mono U.s0) r4 T λv5 u E x5 r5=>q v5 u E (((x1.trans I).trans x3).trans (U.trans x5)) r5⟩
   | false=>
    rw[RQ ⋯];rw[RQ ⋯]at B;cases B;exact q _ s j ((x1.trans I).trans x3) rfl
  | _=>cases m
end
end DL
namespace DL
open PySem PySem.Spec PyProof.Rows L2
theorem Q6{H:Hp}{x:eI}{o G:HO}:upd (upd H x o) x G=upd H x G:=by
 funext b;by_cases h:b=x
 ·subst h;rw[zt,zt]
 ·rw[zu h,zu h,zu h]
noncomputable def iL:i7->List i7
 | .ClassDef _ _ _ b _ _ _ _ _ _ _=>b
 | _=>[]
def iB(st:i7)(j:Nat):i7:=(iL st).getD j (.Pass ⟨0,0,0,0⟩)
def xB(C e:eI):h7->Prop:=λh=>∃a,h.get? e=aI (ZR C cS a)
noncomputable def sy(C e d:eI):h7->Prop:=λh=>∃a,h.get? e=aI (ZR C (aI d) a)
theorem Kq{P:i8}{w:i5}{H:Hp}{h:h7}{C e a0:eI}(q:h.get? e=aI (ZR C cS a0)):l6 P w H h e (.ext<|xB C e):=
 ⟨⟨a0,q⟩,⟨_,q⟩,λb d z k=>by obtain⟨a,z⟩:=z;exact⟨a,k _ z⟩⟩
theorem nJ{P:i8}{w:i5}{H:Hp}{h:h7}{C e d a0:eI}(q:h.get? e=aI (ZR C (aI d) a0)):l6 P w H h e (.ext<|sy C e d):=
 ⟨⟨a0,q⟩,⟨_,q⟩,λb f z k=>by obtain⟨a,z⟩:=z;exact⟨a,k _ z⟩⟩
section
variable{X:Cx}{pins:MW}{σ:St}{H:Hp}{s:gE}{h':h7}
theorem oO{a:eI}{o:HO}{t':Nat}(I:Inv X pins σ H s)(k : ∀b u,s.heap.get? b=aI u->h'.get? b=aI u)(G:s.heap.get? a=cS)(new:l6 X.prog X.w (upd H a o) h' a o):H a=cS/\Inv X pins σ (upd H a o) {s with heap:=h',toks:=t'}:=by
 have d:H a=cS:=by
  cases q:H a with
  | none=>rfl
  | some u=>obtain⟨O,e⟩:=qJ<|I.h8 a u q;rw[G]at e;cases e
 have f : ∀b u,s.heap.get? b=aI u->b≠a:=λb u e z=>by rw[z,G]at e;cases e
 refine⟨d,I.un ⟨λb u e n _ _=>k b u e,λb u e n _ _=>⟨u.slots,k b u e⟩,λb u e n _=>by rw[zu (f b u e)];exact n,λb u e _=>⟨u,k b u e⟩,λb g e=>?_,λb O u e=>?_,λb h e=>⟨#[],?_⟩⟩ λb u e=>?_⟩
 ·rw[zu (zL e d)];exact e
 ·rw[zu (zL e d)];exact e
 ·rw[zu (zL e d),e];simp
 ·by_cases B:b=a
  ·subst B;rw[zt]at e;cases e;exact new
  ·rw[zu B]at e
   exact(I.h8 b u e).vr (λc v _ q=>k c v q) (λc q=>by rw[zu (zL q d)];exact q) λc g q=>by rw[zu (zL q d)];exact q
end
noncomputable def eY(K:Es)(C:eI):Option eI:=match K.lookup C with
 | some o=>if (o.cls==HF "type" && o.slots.size==6 && (o.slots.toList.drop 4).take 1 == [aI (Value.builtin "ValueError.__new__")])=cI then (match lJ o with
  | some a=>if (a.mro.take 1 == [EO C] && !a.hasDel && IK K wh (a.mro.drop 1) && IL K a.ns)=cI then aI a.ns else cS
  | none=>cS)else cS
 | none=>cS
theorem K6{K:Es}{C N:eI}(e:eY K C=aI N) : ∃nm q bs bm hdct sn sub ab col dd k0 k1 k2 k3 k5,K.lookup C=aI (MO nm q C N bs bm hdct sn sub ab col dd k0 k1 k2 k3 k5 "ValueError.__new__")/\IK K wh bm=cI/\IL K N=cI:=by
 unfold eY at e;cases ho:K.lookup C with
 | none=>rw[ho]at e;cases e
 | some o=>
  rw[ho]at e;obtain⟨p,dd,B,d⟩:=o;dsimp only at e;by_cases z:(p==HF "type" && d.size==6 && (d.toList.drop 4).take 1 == [aI (Value.builtin "ValueError.__new__")])=cI
  ·rw[MY z]at e
   simp only[Ex,beq_iff_eq]at z;obtain⟨⟨U,W⟩,Y⟩:=z;subst U;obtain⟨k0,k1,k2,k3,k5,i⟩:=cX (by simpa using W) Y;cases hd:lJ ⟨.type "type",dd,B,d⟩with
   | none=>rw[hd]at e;cases e
   | some a=>
    rw[hd]at e;dsimp only at e;have j:B = .cls a:=by
     unfold lJ at hd;cases B with
     | cls s=>cases hd;rfl
     | _=>cases hd
    subst j;by_cases f:(a.mro.take 1 == [EO C] && !a.hasDel && IK K wh (a.mro.drop 1) && IL K a.ns)=cI
    ·rw[MY f]at e
     cases e;simp only[Ex,beq_iff_eq,Gp]at f;obtain⟨⟨⟨O,R⟩,I⟩,b⟩:=f;obtain⟨nm,bs,g,u,r,m,sn,sub,ab,col,t⟩:=a;dsimp only at O R I b;subst R;have n:d = #[k0,k1,k2,k3,aI (.builtin "ValueError.__new__"),k5]:=by obtain⟨l⟩:=d;simp only at i;rw[i]
     subst n;have h:=dD O;generalize g.drop 1=bm at h I;subst h;exact⟨nm,r,bs,bm,m,sn,sub,ab,col,dd,k0,k1,k2,k3,k5,rfl,I,b⟩
    ·rw[RQ f]at e;cases e
  ·rw[RQ z]at e;cases e
section
variable{X:Cx}{pins:MW}{σ:St}{H:Hp}{s:gE}{h':h7}
theorem AS{x d C a0:eI}{att:Str}{i:Int}{u:gv}{t':Nat}(I:Inv X pins σ H s)(hx:H x=aI (.ext<|xB C x))(J:s.heap.get? d=cS)(G:h'.get? x=aI (ZR C (aI d) a0))(L:h'.Ns1 d (λy=>if y=att then aI u else cS))(R:RelV (.int i) u)
 (k : ∀b o,b≠x->s.heap.get? b=aI o->h'.get? b=aI o):H d=cS/\d≠x/\Inv X pins σ (upd (upd H x<|.ext<|sy C x d) d<|.xd [(att,.int i)]) {s with heap:=h',toks:=t'}:=by
 have g:H d=cS:=by
  cases q:H d with
  | none=>rfl
  | some o=>obtain⟨U,e⟩:=qJ<|I.h8 d o q;rw[J]at e;cases e
 have W:d≠x:=λq=>by rw[q,hx]at g;cases g
 have l : ∀b o,s.heap.get? b=aI o->b≠d:=λb o e z=>by rw[z,J]at e;cases e
 have h : ∀b,H b=cS->b≠x:=λb e z=>by rw[z,hx]at e;cases e
 have off : ∀b,b≠x->b≠d->upd (upd H x<|.ext<|sy C x d) d (.xd [(att,.int i)]) b=H b:=λb p Y=>by rw[zu Y,zu p]
 have mt : ∀b o,H b=aI o->(∀a,o ≠ .ext a)->upd (upd H x<|.ext<|sy C x d) d (.xd [(att,.int i)]) b=aI o:=λb o e z=>by rw[off b (λq=>by rw[q,hx]at e;cases e;exact z _ rfl) (λq=>by rw[q,g]at e;cases e),e]
 refine⟨g,W,I.un ⟨λb o e n _ _=>k b o (h b n) e,λb o e n _ _=>⟨o.slots,k b o (h b n) e⟩,λb o e n _=>?_,λb o e _=>?_,λb m e=>mt b _ e<|λa z=>(nomatch z),λb U t e=>mt b _ e<|λa z=>(nomatch z),λb r e=>⟨#[],?_⟩⟩ λb o e=>?_⟩
 ·rw[off b (h b n) (l b o e)];exact n
 ·by_cases B:b=x
  ·exact⟨_,(congrArg h'.get? B).trans G⟩
  ·exact⟨o,k b o B e⟩
 ·rw[mt b _ e (λa z=>nomatch z)];simp
 ·by_cases B:b=d
  ·rw[B]at e ⊢
   rw[zt]at e;cases e;refine⟨_,L,λf=>?_⟩;by_cases q:f=att
   ·subst q
    rw[MY rfl];simp[LA];exact R
   ·rw[RQ q]
    have:([(att,V.int i)]:List (Str×V)).lookup f=cS:=by simp[LA,beq_eq_false_iff_ne.mpr q]
    rw[this];trivial
  ·rw[zu B]at e
   by_cases O:b=x
   ·rw[O]at e ⊢
    rw[zt]at e;cases e;exact nJ G
   ·rw[zu O]at e
    refine(I.h8 b o e).vr (λc v j q=>k c v ?_ q) (λc q=>mt c _ q<|λa z=>nomatch z) λc m q=>mt c _ q<|λa z=>nomatch z;rcases j with z | z
    ·rw[z];exact O
    ·rintro rfl
     rw[hx]at z;cases z
end
structure XA(K:Es)(mg:MJ)(C:eI)(att:Str):Prop where
 ex : ∃S N cd,mg "SplitError" = aI (.ref S)/\eY K C=aI N/\Gn K C=aI cd/\cd.mro = .ref C :: .ref S::wh/\cd.hasDict=cI/\
  Fx K (.ref C) "__setattr__" = aI (aI (.builtin "object.__setattr__"))/\Fo K C (.type "object")=aI cI/\Fx K (.ref C) att=aI cS/\
  HW K (.ref S) "__getattribute__" = aI (aI (.builtin "type.__getattribute__"))/\PySem.W.readsIn K S (.type "type")=cI/\
  Li K (.ref S) (.type "type") "__init__" = aI (.val (.builtin "ValueError.__init__"))
noncomputable def ZZ(C:eI):TS:=λD a H=>∃e i,a[0]? = aI (aI (V.ref e))/\a[1]? = aI (aI (V.int i))/\inR i=cI/\H e=aI (.ext<|xB C e)/\D.nx a H
noncomputable def Yh(C:eI)(att:Str):TS:=λD a H=>∃e i,a[0]? = aI (aI (V.ref e))/\a[1]? = aI (aI (V.int i))/\H e=aI (.ext<|xB C e)/\
 ∀d,H d=cS->d≠e->D.nx a (upd (upd H e<|.ext<|sy C e d) d<|.xd [(att,.int i)])
section
variable{X:Cx}{sc:i2}{N L:List Str}{k:Nat}{C:eI}{att x0 x1:Str}{p0 p1 p2 p3 p4 p5 p6 p7 p8 pos pos':ik}
theorem Vx(h:SX X sc N L k)(A:XA X.K X.mg C att)(c0:kN sc N 0 x0=cI)(U:kN sc N 1 x1=cI)(hs:tG (.Name x1 p1) (aI (.Attribute (.Name x0 p0) att pos')) pos.line X.env=pure dV:=by rfl) :
 PS X (.Assign [.Attribute (.Name x0 p0) att pos'] (.Name x1 p1) pos) (Yh C att):=by
 intro a s f H D I W;obtain⟨e,i,M,P,B,q⟩:=W;obtain⟨S,Nn,cd,a1,a2,Y,n,o,p,r,t,_⟩:=A.ex;refine Mw (ij (h.var U a s f H (λv b=>v = .int i/\b=H) I ⟨_,P,rfl,rfl⟩) λu x j=>ij (h.var c0 a x f H (λv b=>v = .ref e/\b=H) (by obtain⟨v,b,O,R,rfl,rfl⟩:=j;exact O) ⟨_,M,rfl,rfl⟩) λG Q z2=>?_) hs;obtain⟨v1,b,O,R,rfl,rfl⟩:=j;obtain⟨v2,l,z,J,rfl,rfl⟩:=z2;cases (show G=EO e from J);obtain⟨F,g,dr,tk,os⟩:=Q;obtain⟨⟨a0,y⟩,_,_⟩:=(show l6 X.prog X.w l F e (.ext<|xB C e)from z.h8 e _ B);refine AO (S:=S) z.i9 y p r Y n o t λh' d E T Z y3 y4=>?_;obtain⟨b1,b2,m⟩:=AS (t':=E) (att:=att) (i:=i) z B T (a0:=a0) Z y3 R y4;exact⟨f,_,m,q d b1 b2⟩
theorem Ko{B O:Str}{U R:Nat}(h:SX X sc N L k)(A:XA X.K X.mg C att)(G:qN sc "SplitError" = cI)(c0:kN sc N 0 x0=cI)(c1:kN sc N 1 x1=cI)(l1:B.length<=1000)(l2:O.length<=1000)
 (hs:tG (.Call (.Attribute (.Name "SplitError" p0) "__init__" p1) [.Name x0 p2,.JoinedStr [.Constant (.str B) U p3,.FormattedValue (.Name x1 p4) (-1) cS p5,.Constant (.str O) R p6] p7] [] p8) cS pos.line X.env=pure dV:=by rfl)
 (Z:(p1.endLine==p8.line)=cI:=by rfl) :
 PS X (.Expr (.Call (.Attribute (.Name "SplitError" p0) "__init__" p1) [.Name x0 p2,.JoinedStr [.Constant (.str B) U p3,.FormattedValue (.Name x1 p4) (-1) cS p5,.Constant (.str O) R p6] p7] [] p8) pos) (ZZ C):=by
 intro a s m H D I hZ;obtain⟨e,i,s0,s1,E,l,q⟩:=hZ;obtain⟨S,Nn,cd,P,Q,a3,a4,a5,a6,a7,a8,T,bi,bl⟩:=A.ex;refine Mc ?_ I.quiet hs;rw[arm_eval_Call];refine Eu (xH I (h.gl G).1 P ?_ (h.gl G).2.2);refine Eu (Gw ?_);have bn:PD cI (.Name "SplitError" p0) X.env p1 p8=pure p8:=by unfold PD;simp[Z]
 unfold methodCall;refine Eu<|Fz<|PySem.W.method_cls I.i9 T<|PySem.W.cls_value I.i9 bi bl ⋯ ?_;refine Eu<|Ir bn ?_;refine Lj rfl<|Iq ?_;show wpAny _ _ (A7 ((dV,hX (.Name x0 p2) X.env)::ov p8 [(dV,hX (.JoinedStr [.Constant (.str B) U p3,.FormattedValue (.Name x1 p4) (-1) cS p5,.Constant (.str O) R p6] p7) X.env)])) _ _ _;refine Fg<|ij (h.var c0 a _ m H (λv d=>v = .ref e/\d=H) (I.tok _) ⟨_,s0,rfl,rfl⟩) λu0 s2 z2=>?_;obtain⟨v2,n,M,r2,rfl,rfl⟩:=z2;cases (show u0=EO e from r2);show wpAny _ _ (A7 ((dV,hX (.JoinedStr [.Constant (.str B) U p3,.FormattedValue (.Name x1 p4) (-1) cS p5,.Constant (.str O) R p6] p7) X.env)::[])) _ _ s2;have cw:=GY;have t:i.natAbs.log2<1920:=by
  have h1:i.natAbs<2 ^ 62:=by unfold inR at E;exact of_decide_eq_true E
  by_cases z:i.natAbs=0
  ·rw[z];decide
  ·have:=(Nat.log2_lt z).mpr h1
   omega
 refine Fg<|JoinedStr_many<|HP<|HR ?_;dsimp only;refine⟨by rw[Gb];show 0+_<=_;omega,?_⟩;refine HP<|LZ<|ij (h.var c1 a _ m n (λv d=>v = .int i/\d=n) (M.tok _) ⟨_,s1,rfl,rfl⟩) λu1 s3 z3=>?_;obtain⟨v3,Y,f,r3,rfl,rfl⟩:=z3;obtain⟨F,rfl⟩:=(show ∃F,u1=IB i F from r3);refine LG t ?_;dsimp only;have cy:(FD<|toString i).length<=1921:=by have e:=Sg (k:=1920) ⋯ t;rw[PySem.ofString_length];exact e
 have j:(EU++B).length=B.length:=by rw[Gb];show 0+_=_;omega
 refine⟨by rw[Gb,j,GY];omega,?_⟩;show wpAny _ _ (joinParts _ [hX (.Constant (.str O) R p6) X.env]) _ _ _;refine HP<|HR ?_;dsimp only;refine⟨by rw[Gb,Gb,j,GY];omega,?_⟩;refine Sj ?_ (by rw[Gb,Gb,j,GY];omega);refine GG ?_;obtain⟨nm,qn,bs,bm,y,sn,sub,ab,col,dd,k0,k1,k2,k3,k5,ho,ht,h8⟩:=K6 Q;obtain⟨hp,g,dr,ca,os⟩:=s3;have r:=f.i9;obtain⟨⟨a0,cc⟩,_,_⟩:=(show l6 X.prog X.w Y hp e (.ext<|xB C e)from f.h8 e _ l);refine lS (L9 r ht) (r _ _ ho) cc λh' d0 J y2=>?_;have p:=f.write (x:=e) (e:=e) (o:= .ext (xB C e)) (t':=ca+1+1+1+1) (by rw[l];exact Ga) (.inl rfl) (λb u hb q=>y2 b u hb q) ⟨_,J⟩<|Kq J;have e4:upd Y e (.ext<|xB C e)=Y:=by
  funext b;by_cases z:b=e
  ·rw[z,zt,l]
  ·rw[zu z]
 rw[e4]at p;exact⟨m,Y,p.tok _,q⟩
end
noncomputable def vC(C:eI)(att:Str):Sp:=λa H Q _=>∃e i,a=[.ref e,.int i]/\inR i=cI/\H e=aI (.ext<|xB C e)/\∀d,H d=cS->d≠e->Q .ih (upd (upd H e<|.ext<|sy C e d) d<|.xd [(att,.int i)])
theorem bQ{P:i8}{w:i5}{K:Es}{J:MJ}{base:h7}{q x1:Str}{st:i7}{f C:eI}{G:u4}{att:Str}{k:Nat}(B:L2.Dc K "__init__" q st f G)(L:Zy ["self",x1] ["self",x1] st=cI)
 (I : ∀X:Cx,X.prog=P->X.w=w->X.K=K->X.mg=J->X.base=base->SX X (zK st) ["self",x1] ["self",x1] k->tF X (jT st) (ml (ZZ C) (Yh C att))) :
 zi P w K J base yg (k+1) f G ["self",x1] (vC C att):=by
 have S:=kx L;refine B.ok S (λg H Q E h=>by obtain⟨e,i,rfl,_⟩:=h;rfl) λb A a s H g Q E O R=>⟨_,I _ rfl rfl rfl rfl rfl ⟨rfl,rfl,S.nd,rfl,O,λ_ _=> .inl rfl⟩,?_⟩;obtain⟨e,i,rfl,d,z,q⟩:=R;exact⟨e,i,rfl,rfl,d,z,e,i,rfl,rfl,z,q⟩
structure XJ(P:i8)(w:i5)(K:Es)(mg:MJ)(base:h7)(k:Nat)(c:Str):Prop where
 all:wB K=cI
 mem:c∈o3
 ex : ∃C N fI fd ps,xW K c=aI C/\mg c=aI (.ref C)/\eY K C=aI N/\Fx K (.ref C) "__init__" = aI (aI (.ref fI))/\Gm K (.ref C)=cI/\GB K (.ref fI)=aI (.type "function")/\
  zi P w K mg base yg k fI fd ps (vC C<|vx c)/\Binds K fd ps []
noncomputable def AQ(K:Es)(att:Str):Bool:=o3.all λc=> !(vx c==att) || match xW K c with
 | some C=>(Gn K C).any (λa=>a.hasDict) && Fx K (.ref C) att==aI cS
 | none=>dV
section
variable{X:Cx}{a:hH}{f:CO D}{att:Str}{pos:ik}
theorem Vs(x:AQ X.K att=cI)(ha:PV X a f)(hb:G9 a att X.env (hX a X.env)=hX a X.env:=by rfl):PV X (.Attribute a att pos) (rq att f):=by
 intro m s σ H Q I hZ;obtain⟨G,γ,d,rc,B,q⟩:=hZ;obtain⟨d1,e1,B⟩:=zc B;cases d1 with
 | exc c n=>
  cases n with
  | none=>cases B
  | some i=>
   have B:(if (vx c==att)=cI then aI (D.int i)else cS)=aI d:=B;by_cases A:(vx c==att)=cI
   ·rw[MY A]at B
    cases B;refine iT hb (ij (ha m s σ H (λv F=>∃e,Ext G H e F/\Rep X.K e (.exc c (aI i)) v) I ⟨G,γ,_,rc,e1,λv F e O r=>⟨e,O,r⟩⟩) λu E z=>?_);obtain⟨v,y,R,r1,j,O,rr⟩:=z;obtain⟨b,rfl,U⟩:=(show ∃b,v = .ref b/\B1 X.K j c (aI i) b from rr);cases (show u=EO b from r1);obtain⟨C,φ,g1,g2,g3,N,g4,g5⟩:=U.ex;obtain⟨S,_,y1,_,_⟩:=yE U.all U.mem g1;have Y:=EY.mp x c U.mem;rw[A,g1]at Y;simp only[LR,Bool.false_or,Ex,beq_iff_eq]at Y;obtain⟨w1,w2⟩:=Y;obtain⟨cd,w3,w4⟩:=PySem.W.any_some w1;obtain⟨p,_,_⟩:=(show l6 X.prog X.w y E.heap b (.ext φ)from R.h8 b _ (O.sub _ _ g2));obtain⟨o,T,P⟩:=g4 _ p;obtain⟨o',vs,J,L,M⟩:=g3 _ p;rw[T]at J;cases J;obtain⟨Z,b0,bb⟩:=(show l6 X.prog X.w y E.heap N (.xd _)from R.h8 N _ (O.sub _ _ g5));have ea:vx c=att:=beq_iff_eq.mp A;have l:=bb att;have lk:([(if c==("NoRoom" : Str)then ("room" : Str)else "at",V.int i)]:List (Str×V)).lookup att=aI (.int i):=by rw[<- ea];unfold vx;simp[LA]
    rw[lk]at l;obtain⟨h,hm⟩ : ∃h,Z att=aI (.int i h):=by
     cases hz:Z att with
     | none=>rw[hz]at l;exact tx l
     | some uu=>rw[hz]at l;obtain⟨h,rfl⟩:=(show ∃h,uu=IB i h from l);exact⟨h,rfl⟩
    obtain⟨oc,od,bg,L6⟩:=o;dsimp only at P L M;subst P L M;obtain⟨hp,g,dr,t,os⟩:=E;exact Cd R.i9 (Jm y1) T b0 hm w3 w4 w2 λt'=>⟨.int i,y,R.tok t',⟨h,rfl⟩,q _ y j O rfl⟩
   ·rw[RQ A]at B;cases B
 | _=>cases B
end
noncomputable def Wd(K:Es)(S:eI):Bool:=match Li K (.ref S) (.type "type") "__init__" with
 | some (.val (.builtin b))=>b == "ValueError.__init__"
 | _=>dV
noncomputable def RM(K:Es)(C S:eI)(att:Str):Bool:=(eY K C).isSome && Gm K (.ref C) && (Gn K C).any (λa=>a.mro == .ref C :: .ref S::wh && a.hasDict) &&
 Fx K (.ref C) "__setattr__" == aI (aI (.builtin "object.__setattr__")) && Fo K C (.type "object")==aI cI && Fx K (.ref C) att==aI cS &&
 HW K (.ref S) "__getattribute__" == aI (aI (.builtin "type.__getattribute__")) && PySem.W.readsIn K S (.type "type") && Wd K S
theorem Wc{K:Es}{S:eI}(b:Wd K S=cI):Li K (.ref S) (.type "type") "__init__" = aI (.val (.builtin "ValueError.__init__")):=by
 unfold Wd at b;cases q:Li K (.ref S) (.type "type") "__init__" with
 | none=>rw[q]at b;cases b
 | some r=>
  rw[q]at b;cases r with
  | get _ _ _ _=>cases b
  | val v=>
   cases v with
   | builtin n=>rw[beq_iff_eq.mp b]
   | _=>cases b
structure E3(K:Es)(mg:MJ)(c q x1:Str)(st:i7)(att:Str):Prop where
 all:wB K=cI
 mem:c∈o3
 ex : ∃C N fI fd,xW K c=aI C/\mg c=aI (.ref C)/\eY K C=aI N/\Fx K (.ref C) "__init__" = aI (aI (.ref fI))/\Gm K (.ref C)=cI/\GB K (.ref fI)=aI (.type "function")/\
  XA K mg C att/\L2.Dc K "__init__" q st fI fd/\Binds K fd ["self",x1] []
theorem sV{K:Es}{mg:MJ}{h:h7}{c q x1 att:Str}{st:i7}{C S H:eI}{R:gv}{U Y:Option eI}{lI:Array (Option gv)}{kI dI pI z tI:gv}(B:K.In h)(G:h.Ns o5 mg)(e:wB K=cI)(hm:c∈o3)
 (nC:GN K o5 c=aI (aI (.ref C))) (nS:GN K o5 "SplitError" = aI (aI (.ref S))) (iC:Fx K (.ref C) "__init__" = aI (aI (.ref H)))
 (uI:K.lookup H=aI ⟨R,U,.func (GV "__init__" q (ya st) (jT st) (zK st) .none kI dI pI Y z tI),lI⟩) (vI:IM K z q=cI) (w1:Gm K (.ref H)=cI) (z1:PySem.W.isFn K (.ref H)=cI) (b:RM K C S att=cI)
 (gI : ∀(kV L pm:gv) (an:Option eI) (J ct:gv) (Z:List gv),Z.length=2->Oi (GV "__init__" q (ya st) (jT st) (zK st) .none kV L pm an J ct) ⟨Z,[]⟩=pure ((["self",x1]:List Str).zip Z)):E3 K mg c q x1 st att:=by
 have I:=eJ uI vI w1;unfold RM at b;simp only[Ex,beq_iff_eq]at b;obtain⟨⟨⟨⟨⟨⟨⟨⟨b1,b2⟩,b3⟩,b4⟩,b5⟩,b6⟩,b7⟩,b8⟩,b9⟩:=b;obtain⟨N,O⟩:=FE.mp b1;obtain⟨f,d,a⟩:=PySem.W.any_some b3;simp only[Ex,beq_iff_eq]at a;have g:xW K c=aI C:=by unfold xW;rw[nC]
 exact⟨e,hm,C,N,H,_,g,Hj B G nC,O,iC,b2,beq_iff_eq.mp z1,⟨S,N,f,Hj B G nS,O,d,a.1,a.2,b4,b5,b6,b7,b8,Wc b9⟩,I,I.binds gI⟩
theorem lR{P:i8}{w:i5}{K:Es}{G:MJ}{base:h7}{c q x1 att:Str}{st:i7}{k:Nat}(A:E3 K G c q x1 st att)(J:Zy ["self",x1] ["self",x1] st=cI)(H:vx c=att)
 (z : ∀C,XA K G C att->∀X:Cx,X.prog=P->X.w=w->X.K=K->X.mg=G->X.base=base->SX X (zK st) ["self",x1] ["self",x1] k->tF X (jT st) (ml (ZZ C) (Yh C att))):XJ P w K G base (k+1) c:=by
 subst H;obtain⟨C,N,a,b,B,I,O,R,U,W,Y,d,e⟩:=A.ex;exact⟨A.all,A.mem,C,N,a,b,_,B,I,O,R,U,W,bQ d J<|z C Y,e⟩
section
variable{M:B0}{A:l7}{E:MQ}{env:l0}
variable{nm q:Str}{C N:eI}{bs bm:List gv}{hdct:Bool}{sn:List Str}{sub:List gv}{ab:Bool}{col:Option Bool}{dd:Option eI}{k0 k1 k2 k3 k5:Option gv}{newId:String}
theorem Yo{s:gE}{x:m6 gv}{Q:Flow->gE->Prop}(O:bm.contains (.type "BaseException")=cI)(R:A.handled=cS)
 (h:wpAny M A x (λv z=>∃e t d,v = .ref e/\z.heap.get? C=aI (MO nm q C N bs bm hdct sn sub ab col dd k0 k1 k2 k3 k5 newId)/\
   z.heap.get? e=aI (ZR C (aI d) t)/\E (.ref e) z) E s) :
 wpAny M A (NR env (aI x) cS) Q E s:=by
 have U:(EO C::bm).contains (.type "BaseException")=cI:=by rw[List.contains_cons,O,Bool.or_true]
 unfold NR;refine Eu<|EG h (λv z W=>?_) λ_ _ x=>x;obtain⟨e,t,d,rfl,B,I,Y⟩:=W;obtain⟨b,g,a,f,os⟩:=z;unfold ZR at I
 repeat (first | with_reducible refine Ge I ?_ | with_reducible refine Ge B ?_ | (with_reducible refine Mf B ?_;rw[U]) | wp_step)
 exact wpAny_raiseNew_none R Y
end
section
variable{X:Cx}{sc:i2}{N L:List Str}{k j:Nat}{a:hH}{f:CO D}{c:Str}{np pos cpos:ik}{pins:MW}{σ:St}{H H0:Hp}{s:gE}{γ:Ctx}{i:Int}
theorem Wq(h:SX X sc N L k)(Z:qN sc c=cI)(x:XJ X.prog X.w X.K X.mg X.base j c)(hj:j+1<=k)(ha:PV X a f)(I:Inv X pins σ H s)(rc:RC X.K H0 H σ γ)(e1:f γ=aI (.int i))(hi:inR i=cI)(he:i0 [a] X.env=[(dV,hX a X.env)]:=by rfl) :
 wpAny (hA X.prog X.w) X.A (hX (.Call (.Name c np) [a] [] pos) X.env) (λu s'=>∃e d C G J,u = .ref e/\Inv X pins σ (upd (upd G e<|.ext<|sy C e d) d<|.xd [(vx c,.int i)]) s'/\Ext H0 H J G/\G e=cS/\G d=cS/\d≠e/\xW X.K c=aI C/\(X.ex=[]->X.i6.heap.get? e=cS)) X.xe s:=by
 obtain⟨C,Nn,p,fd,ps,x1,x2,x3,x4,x5,B,E,hb⟩:=x.ex;obtain⟨nm,qn,bs,bm,M,sn,sub,ab,col,dd,k0,k1,k2,k3,k5,ho,ht,h8⟩:=K6 x3;refine FX<|xH I (h.gl Z).1 x2 ?_ (h.gl Z).2.2;have ar:PA X [a] _:=jk ha j9 he;refine IF (h₀:=X.base) I.ok.mod.DX x5 (ij (ar pos pins s σ H (λt G=>t=[.int i]/\∃J,Ext H0 H J G) I ⟨H0,γ,.int i,rc,e1,λv T l y rr=>⟨by rw[show v = .int i from rr],l,y⟩⟩) λus s1 P=>⟨?_,?_⟩) (by rw[he];rfl) rfl
 ·obtain⟨t,G,O,_⟩:=P;exact O.i9
 obtain⟨t,G,O,rv,n,J,y⟩:=P;subst n;obtain⟨u,rfl,ru⟩:=kO rv;have b:=O.i9;obtain⟨R,bb,bd⟩ : ∃R,X.K.lookup p=aI R/\R.cls = .type "function":=by
  have B:(X.K.lookup p).map (·.cls)=aI (.type "function"):=B;cases z:X.K.lookup p with
  | none=>rw[z]at B;cases B
  | some R=>rw[z]at B;exact⟨R,rfl,Ff B⟩
 obtain⟨hp,g,dr,tk,os⟩:=s1;refine lT (L9 b ht) (b _ _ ho) (PySem.W.looks_findIn b x4) (b _ _ bb) bd (by show 1<=j3;decide) λh' e a0 S y2 y3=>?_;obtain⟨hn,m⟩:=oO (o:= .ext (xB C e)) (t':=tk) O y3 S<|Kq y2;have bi:X.ex=[]->X.i6.heap.get? e=cS:=λbl=>by
  cases q:X.i6.heap.get? e with
  | none=>rfl
  | some o=>
   obtain⟨o',z⟩:=O.base.there e o q (by rw[bl];simp);rw[show hp.get? e=cS from S]at z;cases z
 have Q:vC C (vx c) [.ref e,.int i] (upd G e<|.ext<|xB C e) (λv H2=>v = .ih/\∃d,G d=cS/\d≠e/\H2=upd (upd G e<|.ext<|sy C e d) d (.xd [(vx c,.int i)])) (λ_ _ _=>False):=by
  refine⟨e,i,rfl,hi,zt,λd F Y=>⟨rfl,d,?_,Y,?_⟩⟩
  ·rw[zu Y]at F;exact F
  ·rw[Q6]
 have hl:[EO e,u].length=ps.length:=(E.len _ _ _ _ Q).symm ▸ rfl;refine Iu<|HY (E.run _ X.stack _ _ ⟨[.ref e,u],[]⟩ [.ref e,u] [.ref e,.int i] _ _ ((h.room.mono hj).make C [u] []) (m.OB.make C [u] []) (by simpa using hb _ [.ref e,u] m.i9 (by simpa using hl)) (.cons rfl<|.cons ru .nil) Q) λr s' U=>?_;cases r with
 | error ee=>exact tx U
 | ok fl=>
  cases fl with
  | ret uu=>
   obtain⟨v,T,I3,c0,n,d,c1,Y,rfl⟩:=m.after U;subst n;exact⟨c0,⟨e,d,C,G,J,rfl,I3,y,hn,c1,Y,x1,bi⟩⟩
  | next=>exact tx U
  | brk=>exact tx U
  | cont=>exact tx U
theorem yW(h:SX X.n5 sc N L k)(hc:qN sc c=cI)(x:XJ X.prog X.w X.K X.mg X.base j c)(hj:j+1<=k)(Z:PV X.n5 a f)
 (hs:i0 [a] X.env=[(dV,hX a X.env)]:=by rfl):Px X (.Raise (aI (.Call (.Name c np) [a] [] cpos)) cS pos) (yF c f):=λpins s σ H F0 F1 H0 γ cc I U e w=>by
 obtain⟨i,W,e⟩:=zc e;obtain⟨d0,t,W⟩:=zc W;rw[j7 W]at t;by_cases n:inR i=cI
 ·rw[MY n]at e
  cases e;have hh:X.A.handled=cS:=I.ok.hd (show X.calm=cI from h.calm);obtain⟨C,P,fI,fd,ps,x1,x2,x3,x4,x5,x6,FO,hb⟩:=x.ex;obtain⟨nm,qn,bs,bm,hdct,sn,sub,ab,col,dd,k0,k1,k2,k3,k5,ho,ht,h8⟩:=K6 x3;have Q : ∀{g:h7},X.K.In g->Nh g wh bm:=λY=>L9 Y ht;have J:=GJ;rw[arm_exec_Raise];refine Eu (Gw ?_);show wpAny _ _ (NR X.env (aI (do let v <- hX (.Call (.Name c np) [a] [] cpos) X.env;OS pos;pure v)) cS) _ _ _;refine Yo (C:=C) (nm:=nm) (q:=qn) (N:=P) (bs:=bs) (bm:=bm) (hdct:=hdct) (sn:=sn) (sub:=sub) (ab:=ab) (col:=col) (dd:=dd) (k0:=k0) (k1:=k1) (k2:=k2) (k3:=k3) (k5:=k5) (newId:="ValueError.__new__") ((Q I.i9).hasType J.hasBase) hh ?_;refine Eu (EG (Wq (X:=X.n5) h hc x hj Z (I.m4 _) U.rc t n hs) (λu E z=>Eu (Gw (EB ?_))) λ_ _ z=>z.elim);obtain⟨e,d,F,l,M,rfl,B,O,hn,m,r,R,S⟩:=z;have R:xW X.K c=aI F:=R;rw[x1]at R;cases R;have B:=B.sh;have y:upd (upd l e (.ext (sy C e d))) d (.xd [(vx c,.int i)]) e=aI (.ext (sy C e d)):=by rw[zu (Fy r),zt]
  obtain⟨⟨p,g1⟩,_,_⟩:=(show l6 X.prog X.w _ E.heap e (.ext<|sy C e d)from B.h8 e _ y);refine⟨e,p,d,rfl,B.i9 _ _ ho,g1,?_⟩;have T:(λb=>if b=e then cS else upd (upd l e<|.ext<|sy C e d) d (.xd [(vx c,.int i)]) b)=upd l d (.xd [(vx c,.int i)]):=by
   funext b;by_cases q:b=e
   ·rw[MY q,q,zu<|Fy r,hn]
   ·rw[RQ q]
    by_cases o:b=d
    ·rw[o,zt,zt]
    ·rw[zu o,zu q,zu o]
  have G:=U.ext.trans<|(O.trans<|Ext.hide O.sub m<|.xd [(vx c,.int i)]).show (kY O.s1 m) (js O.sub m) zt U.rc.sub;exact w.2.2 pins σ _ _ E e C d p (sy C e d) B y g1 S (by rw[T];exact G) x.all x.mem x1 ⟨d,rfl,zt⟩
 ·rw[RQ n]at e;cases e
end
noncomputable def ud(G:CO D)(g:CO (Sk×List D)):CO D:=λb=>(G b).bind λx=>(g b).bind λa=>match a.1 with
 | .L=>if l8 x=cI/\m3 a.2=cI then aI (.bl<|a.2.any λd=>lA d x)else cS
 | .T=>cS
noncomputable def CI(K:Es)(G:Bool):R2:=λx y H Q=>∃e b p f a,jn e H/\Rep K e b x/\y = .ref p/\kv K H p f/\hF K e a f/\l8 b=cI/\m3 a=cI/\Q (.bl<|if G then !a.any λd=>lA d b else a.any λd=>lA d b) H
theorem JX(hx:nt x=cI) : ∀G:List D,m3 G=cI->(oC G).any (λy=>GU y<|mu x)=G.any λd=>lA d x
 | [],_=>by simp[oC]
 | d::G,h=>by simp only[m3,Ex]at h;simp only[oC,Hc];rw[NC d x h.1 hx,JX hx G h.2]
theorem Z2(I:Inv X pins σ H s)(sub:jn H0 H)(G:kv X.K H p xs)(r:hF X.K H0 ds xs)(o:m3 ds=cI) : ∃z,Reads s.heap (.ref p) (.list<|oC ds) z:=by obtain⟨R,B,q,U⟩:=I.list G;obtain⟨W,O,a,n,b⟩:=q.isList;obtain⟨z,d⟩:=NT I sub o r B;exact⟨_,.list O a b<|by simpa using d⟩
theorem om(Y:X.A.units+66<Dt):l9 X (rp .In) (CI X.K dV):=by
 intro d s l H x y v u Q I rx O h;obtain⟨g,b,p,j,a,sub,R,rfl,e,U,z,B,q⟩:=h;cases O;obtain⟨as,f⟩:=F5 I sub (qa z) R rx;obtain⟨bs,W⟩:=Z2 I sub e U B;have i:=Ii<|xy z;refine PySem.SeqAt.in_list_reads W f (MT a B) (NL b<|qa z) ?_ ⟨.bl _,H,I,rfl,?_⟩
 ·have:min (HL<|oC a) (mu b).depth<=(mu b).depth:=Lk _ _
  omega
 ·rw[JX (qa z) a B];exact q
section
variable{X:Cx}{sc:i2}{N L:List Str}{k:Nat}{a b:hH}{pos:ik}{fa:CO D}{g:CO (Sk×List D)}
theorem SX.PY(h:SX X sc N L k):X.A.units+66<Dt:=by have:=h.room.un;omega
end
noncomputable def rn(f:CO D)(γ:Ctx):Option (List D):=((f γ).bind o4).bind λn=>if inR n=cI/\n.toNat<=lim then aI (yv 0 n.toNat)else cS
@[simp] def lL:=@rn.eq_1
section
variable{X:Cx}{sc:i2}{N L:List Str}{k:Nat}{a:hH}{f:CO D}
theorem gB{c:hH}{pos:ik}{g:CO (Sk×List D)}(h:SX X sc N L k)(G:PV X a f)(O:PQ X c g)(J:Ds .In c=dV:=by with_unfolding_all rfl):q5 X (.Compare a [.In] [c] pos) (sB<|ud f g):=
 Xp (Jz (om h.PY) G O J) λE H Q R=>by
  obtain⟨l,j,d,rc,z,q⟩:=R;obtain⟨U,W,Y⟩:=zc z;obtain⟨x,n,z⟩:=zc W;obtain⟨⟨t,b⟩,o,z⟩:=zc z;cases t with
  | T=>cases z
  | L=>
   have z:(if l8 x=cI/\m3 b=cI then aI (D.bl<|b.any λd=>lA d x)else cS)=aI U:=z;by_cases e:l8 x=cI/\m3 b=cI
   ·rw[MY e]at z;cases z
    cases Y;exact⟨l,j,x,rc,n,λC y i x1 u=>⟨i,j,.L,b,rc.ext x1,o,λp w m I B s A r=>⟨I,x,p,w,b,B.sub,u.mono B.s0,rfl,s,r,e.1,e.2,⟨_,rfl,q m I<|x1.trans B⟩⟩⟩⟩
   ·rw[RQ e]at z;cases z
end
noncomputable def sU(G H fs:List D):List D:=(G.zip<|H.zip fs).map λp=>D.tup [p.1,p.2.1,p.2.2]
noncomputable def Cq(f g h:CO D)(γ:Ctx):Option (List D):=((f γ).bind qW).bind λm=>((g γ).bind qW).bind λn=>((h γ).bind qW).map λo=>sU m.2 n.2 o.2
@[simp] def Ao:=@Cq.eq_1
section
variable{X:Cx}{sc:i2}{N L:List Str}{k j n:Nat}{e:hH}{es:List hH}{g:CO (List D)}{G:List D->Option Xn}{x:Str}{p pos:ik}
theorem gg{spos:ik}(Z:o6 X.prog X.w X.K X.mg X.base j x n G)(O:j<=k)(h:SX X.n5 sc N L k)(c:qN sc x=cI)(J:A3 X.n5 (e::es) n g)
 (R:i0 (e::es) X.env=(dV,hX e X.env)::i0 es X.env:=by rfl) (U:(ov pos<|starEach es X.env).any (·.1)=dV:=by rfl) :
 Px X (.Return (aI (.Call (.Name x p) (e::es) [] pos)) spos) (kM G g):=λa s t H u y A F C I B W w=>by
 obtain⟨E,l,m⟩:=zc W;refine SO<|EG (Jd Z O (⟨h.xg,h.eN,h.nd,h.calm,h.room,h.fn⟩:SX X sc N L k) c J I B.rc l m R U) (λ_ _ z=>z.elim) λY o z=>?_;obtain⟨d,b,r,f,x1,i⟩:=z;exact w.2.1 a t d b r Y o f (B.ext.trans x1) i
theorem gf{spos J:ik}{y:Str}(hf:o6 X.prog X.w X.K X.mg X.base j x n G)(O:j<=k)(h:SX X.n5 sc N L k)(c:qN sc x=cI)(Z:A3 X.n5 (e::es) n g)
 (R:i0 (e::es) X.env=(dV,hX e X.env)::i0 es X.env:=by rfl) (U:(ov pos<|starEach es X.env).any (·.1)=dV:=by rfl)
 (hs:tG (.Call (.Name x p) (e::es) [] pos) (aI (.Name y J)) spos.line X.env=pure dV:=by rfl) :
 Px X (.Assign [.Name y J] (.Call (.Name x p) (e::es) [] pos) spos) (kM G g):=λa s t H u A C M E I B W w=>by
 obtain⟨F,l,m⟩:=zc W;refine Iv (EG (Jd hf O (⟨h.xg,h.eN,h.nd,h.calm,h.room,h.fn⟩:SX X sc N L k) c Z I B.rc l m R U) (λ_ _ z=>z.elim) λY o z=>?_) hs;obtain⟨d,b,r,f,x1,i⟩:=z;exact w.2.1 a t d b r Y o f (B.ext.trans x1) i
end
noncomputable def AZ(f g:CO D)(γ:Ctx):Option (List D):=((f γ).bind qW).bind λm=>((g γ).bind qW).bind λn=>if m.2.length<=lim then aI (cN m.2 n.2)else cS
@[simp] def sF:=@AZ.eq_1
noncomputable def Y1:List D->Option (List D×List D)
 | []=>aI ([],[])
 | d::r=>match d with
  | .tup a=>match a with
   | [k,v]=>(Y1 r).map λp=>(k::p.1,v::p.2)
   | _=>cS
  | _=>cS
noncomputable def Bd(f:CO (List D))(γ:Ctx):Option D:=(f γ).bind λa=>(Y1 a).bind λp=>Ae p.1 p.2
@[simp] def sJ:=@Bd.eq_1
def uM:D->Option (List Int)
 | .tup a=>Wa a
 | _=>cS
noncomputable def oS:List D->Option (List<|List Int)
 | []=>aI []
 | d::ds=>(uM d).bind λk=>(oS ds).map λr=>k::r
noncomputable def Bc(f:CO (List D))(γ:Ctx):Option D:=(f γ).bind λb=>(Y1 b).bind λp=>(oS p.1).bind λa=>if a.Nodup/\a.length<=lim then aI (.n4 a p.2)else cS
noncomputable def uX:List (List Int)->List D->List Int->Option D
 | k::ks,v::vs,i=>if k=i then aI v else uX ks vs i
 | _,_,_=>cS
noncomputable def Cz(G z:CO D)(γ:Ctx):Option D:=(G γ).bind λd=>(z γ).bind λk=>match d with
 | .n4 a b=>(uM k).bind λi=>uX a b i
 | _=>cS
noncomputable def uW(d k x:D):Option D:=match d with
 | .n4 a b=>(uM k).map λi=>(uX a b i).getD x
 | _=>cS
noncomputable def Cv(G z fx:CO D)(γ:Ctx):Option D:=(G γ).bind λd=>(z γ).bind λk=>(fx γ).bind λx=>uW d k x
noncomputable def Cu(f:CO D)(γ:Ctx):Option (List D):=(f γ).bind λd=>match d with
 | .n4 a _=>aI (a.map λk=> .tup (k.map .int))
 | _=>cS
section
variable(γ:Ctx)
@[simp] def sI:=@Bc.eq_1
@[simp] def AH:=@Cz.eq_1
@[simp] def AD:=@Cv.eq_1
@[simp] def AB:=@Cu.eq_1
end
noncomputable def Br:List (List Int)->List Int->List Int->Option Int
 | k::ks,n::ns,i=>if k=i then aI n else Br ks ns i
 | _,_,_=>cS
noncomputable def eqT(G:List (List Int))(H:List Int)(z:List (List Int))(B:List Int):Bool:=decide (G.length=z.length) && (G.zip H).all λx=>decide<|Br z B x.1=aI x.2
noncomputable def Bw(d e:D):Option Bool:=match d with
 | .n4 b g=>match e with
  | .n4 z a=>(Wa g).bind λf=>(Wa a).map λB=>eqT b f z B
  | _=>cS
 | _=>cS
@[simp] def Er(d e:D):Option D:=(Bw d e).map D.bl
@[simp] def Ep(d e:D):Option D:=(Bw d e).map λb=>D.bl<|!b
noncomputable def Ct(f:CO D)(γ:Ctx):Option D:=(f γ).bind λd=>match d with
 | .n4 a _=>aI (.int a.length)
 | _=>cS
@[simp] def AA:=@Ct.eq_1
abbrev TT:=List (List (List Int))
inductive Pl where
 | out | tab (k:Nat) | row (k m:Nat)
deriving DecidableEq
noncomputable def rF(Z:TT):Pl->Prop
 | .out=>True
 | .tab k=>k<Z.length
 | .row k m=>k<Z.length/\m<(Z.getD k []).length
noncomputable def pF(Z:TT)(ad:Pl->eI):Pl->List V
 | .out=>(Ez Z.length).map λk=>V.ref<|ad<|.tab k
 | .tab k=>(Ez (Z.getD k []).length).map λm=>V.ref<|ad<|.row k m
 | .row k m=>((Z.getD k []).getD m []).map V.int
structure N3(H:Hp)(Z:TT)(ad:Pl->eI):Prop where
 cont : ∀pl,rF Z pl->H (ad pl)=aI (.lst<|pF Z ad pl)
 inj : ∀pl PK,rF Z pl->rF Z PK->ad pl=ad PK->pl=PK
section
variable{K:Es}{al:List (Nat×Pl)}{E0 E H0 H r0 H':Hp}{σ O1:St}{γ γ':Ctx}{Z:TT}{ad:Pl->eI}
open Classical in
end
open Classical in
section
variable{H:Hp}{Z:TT}{ad:Pl->eI}
end
noncomputable def Ed(K:Es)(E0 E:Hp)(Q:VK)(d:D)(Z:TT):Prop:=∀t v ad b a,Ext E0 E a b->Rep K a d v->b t=aI (.tup [v,.ref (ad .out)])->N3 b Z ad->(∀e,rF Z e->a (ad e)=cS/\E (ad e)=cS)->Q (.ref t) b
noncomputable def Sy(K:Es)(n:Nat)(F:List D->Option (D×TT)):Sp:=λd H Q _=>∃a b r,jn a H/\hF K a b d/\b.length=n/\F b=aI r/\Ed K a H Q r.1 r.2
section
variable{X:Cx}{sc:i2}{N L:List Str}{k j i n w:Nat}{st:i7}{rest:List i7}{e e2:hH}{es:List hH}{f:CO D}{g:CO (List D)}{pos p:ik}{x:Str}{al:List (Nat×Pl)}
theorem oB{E H:Hp}{c:eI}(s:jn E H)(h:H c=cS):E c=cS:=by
 cases q:E c with
 | none=>rfl
 | some o=>rw[s c o q]at h;cases h
end
section
variable{X:Cx}{sc:i2}{N L:List Str}{k j n i:Nat}{a b c e:hH}{es:List hH}{f:CO D}{g:CO (List D)}{p pos:ik}{x:Str}{st Te Tf:i7}{rest:List i7}{F:List D->Option Res}
open Classical in
def DY(H:Hp)(p:eI):Hp:=λc=>if c=p then cS else H c
theorem OJ{H:Hp}{p c:eI}(h:c≠p):DY H p c=H c:=RQ h
end
mutual
def PF:D->Bool
 | .tup a=>NN a
 | .lst a=>NN a
 | .exc _ _=>dV
 | .pk _ _=>dV
 | .n4 _ _=>dV
 | .ins _ _ _=>dV
 | _=>cI
def NN:List D->Bool
 | []=>cI
 | x::xs=>PF x && NN xs
end
mutual
theorem Rep.less{K:Es}{H:Hp}{p:eI}{G:h7->Prop}(I:H p=aI (.ext G)) : ∀{d:D} {v:V},PF d=cI->Rep K H d v->Rep K (DY H p) d v
 | .ih,_,_,h=>h
 | .bl _,_,_,h=>h
 | .int _,_,_,h=>h
 | .str _,_,_,h=>h
 | .tup ds,v,n,h=>by
  obtain⟨a,b,f,g,i⟩:=(show ∃a b,v = .ref a/\l4 K H a b/\hF K H ds b from h);refine(show ∃a b,v = .ref a/\l4 K (DY H p) a b/\hF K (DY H p) ds b from⟨a,b,f,?_,hF.less I n i⟩);have z : ∀{u:HO},(∀G,u ≠ .ext G)->H a=aI u->a≠p:=λB q e=>by rw[e,I]at q;exact B _ (Ff q).symm
  rcases g with(hq | ⟨o',hq⟩) | hq
  ·exact .inl (.inl<|by rw[OJ (z (λ_=>by simp) hq)];exact hq)
  ·exact .inl<|.inr ⟨o',by rw[OJ (z (λ_=>by simp) hq)];exact hq⟩
  ·exact .inr hq
 | .lst ds,v,n,h=>by
  obtain⟨a,b,f,g,i⟩:=(show ∃a b,v = .ref a/\kv K H a b/\hF K H ds b from h);refine(show ∃a b,v = .ref a/\kv K (DY H p) a b/\hF K (DY H p) ds b from⟨a,b,f,?_,hF.less I n i⟩);have z : ∀{u:HO},(∀G,u ≠ .ext G)->H a=aI u->a≠p:=λB q e=>by rw[e,I]at q;exact B _ (Ff q).symm
  rcases g with(hq | ⟨o',hq⟩) | hq
  ·exact .inl (.inl<|by rw[OJ (z (λ_=>by simp) hq)];exact hq)
  ·exact .inl<|.inr ⟨o',by rw[OJ (z (λ_=>by simp) hq)];exact hq⟩
  ·exact .inr hq
 | .exc _ _,_,n,_=>nomatch n
 | .pk _ _,_,n,_=>nomatch n
 | .n4 _ _,_,n,_=>nomatch n
 | .ins _ _ _,_,n,_=>nomatch n
theorem hF.less{K:Es}{H:Hp}{p:eI}{J:h7->Prop}(I:H p=aI (.ext J)) : ∀{G:List D} {xs:List V},NN G=cI->hF K H G xs->hF K (DY H p) G xs
 | [],_,_,h=>h
 | d::G,xs,n,h=>by obtain⟨x,r,a,b,e⟩:=(show ∃x r,xs=x::r/\Rep K H d x/\hF K H G r from h);have n:(PF d && NN G)=cI:=n;rw[Ex]at n;exact(show ∃x r,xs=x::r/\Rep K (DY H p) d x/\hF K (DY H p) G r from⟨x,r,a,Rep.less I n.1 b,hF.less I n.2 e⟩)
end
structure SW(X:Cx)(sc:i2)(N T:List Str)(k:Nat):Prop where
 xg:X.env.scope=sc
 eN:X.N=N
 nd:N.Nodup
 dp:X.A.depth+3*k+5<PL
 un:X.A.units+16*k+200<Dt
 fn : ∀x∈T,X.fn x=cI\/sc.names.lookup x=aI .local
structure Nj(k:Nat)(A:l7):Prop where
 dp:A.depth+3*k+5<PL
 un:A.units+16*k+200<Dt
section
variable{X:Cx}{sc:i2}{N T:List Str}{k:Nat}{i:Nat}{x:Str}{pos:ik}
theorem SW.var(h:SW X sc N T k)(c:kN sc N i x=cI):PE X (.Name x pos) (cR i):=by
 unfold kN at c;simp only[Ex,Fq,decide_eq_true_eq,Gp]at c;obtain⟨⟨⟨a,h2⟩,z⟩,B⟩:=c;refine VJ (by rw[h.eN];exact a) ?_ z B;unfold ME;rw[h.xg];rcases h2 with(h2 | h2) | h2
 ·exact .inl h2
 ·exact .inr<|.inl h2
 ·exact .inr<|.inr h2
theorem SW.gl(h:SW X sc N T k)(c:qN sc x=cI):Gl X x/\x ≠ "__name__"/\(x==("__debug__" : Str))=dV:=by
 unfold qN at c;simp only[Ex,decide_eq_true_eq,Gp]at c;refine⟨?_,?_,c.2⟩
 ·show X.env.scope.names.lookup x=_
  rw[h.xg];exact c.1.1
 ·intro e;rw[e]at c;simp at c
end
noncomputable def Pn(P:i8)(w:i5)(K:Es)(G:MJ)(base:h7)(N:List Str)(qual:Str)(scope:i2)(f:eI)(cd:gv)(A:l7)(outer:List l0)(s:gE)(H:Hp)(E:XK):Cx:=
 {wz yg P w K G base N qual scope f cd A outer s H E with calm:=dV,xe:=λ_ _=>False}
section
variable{P:i8}{w:i5}{K:Es}{mg:MJ}{base:h7}
theorem YB{N G:List Str}{qual:Str}{scope:i2}{f:eI}{cd:gv}{A:l7}{outer:List l0}{s O:gE}{H:Hp}{E:XK}{J:List gv}{L:List V}
 (S:L8 N G scope) (B:Dz P w K mg base A outer s H) (W:L.length=G.length) (r:i4 L J)
 (x:InCallC s s.heap.objs.size (E7 (MM qual scope s.heap.objs.size f cd).kindOf (G.zip J) λ_=>cS) (t4 (s.heap.objs.size+1) scope.names []) (E6 (MM qual scope s.heap.objs.size f cd).kindOf (G.zip J) λ_=>cS) O) :
 Inv (Pn P w K mg base N qual scope f cd A outer s H E) [] (wj N L) H O:=by
 have a:Dz P w K mg base {A with handled:=cS} outer s H:=⟨B.frames,B.mod,B.bs,B.Df,B.pw,B.B5,B.h8,B.bare⟩;have I:=QD (CX:=yg) (E:=E) (qual:=qual) (f:=f) (cd:=cd) S rfl a W r x;exact⟨⟨I.ok.mod,I.ok.kind,I.ok.glob,I.ok.blt,I.ok.above,I.ok.inj,I.ok.has,I.ok.IX,(λz=>nomatch z),Around.frames_deeper B.frames,I.ok.DK,I.ok.FI,I.ok.bs,I.ok.Df,I.ok.L4,I.ok.F2,I.ok.pw,I.ok.B5⟩,I.os,I.bare,I.base,I.loc,I.cell,I.free,I.B4,I.pin,I.h8,I.len⟩
end
noncomputable def RO(K:Es)(c:Str):Bool:=match xW K c with
 | some C=>GB K (.ref C)==aI (.type "type") && Fo K C (.type "BaseException")==aI cI && (Gn K C).isSome && o3.all λa=>match xW K a with
  | some b=>Fo K b (.ref C)==aI (a==c)
  | none=>cI
 | none=>dV
structure XH(K:Es)(mg:MJ)(c:Str):Prop where
 ex : ∃C,xW K c=aI C/\mg c=aI (.ref C)/\GB K (.ref C)=aI (.type "type")/\Fo K C (.type "BaseException")=aI cI/\(Gn K C).isSome=cI/\∀c2 C2,c2∈o3->xW K c2=aI C2->Fo K C2 (.ref C)=aI (c2==c)
theorem Cb{K:Es}{H:MJ}{h:h7}{c:Str}(B:K.In h)(G:h.Ns o5 H)(e:RO K c=cI):XH K H c:=by
 unfold RO at e;split at e
 ·rename_i C z
  simp only[Ex,beq_iff_eq,EY]at e;obtain⟨⟨⟨b,d⟩,I⟩,O⟩:=e;refine⟨C,z,Ku B G z,b,d,I,λa i g f=>?_⟩;have:=O a g;rw[f]at this;simpa using this
 ·cases e
theorem YG{M:B0}{h:h7}{K:Es}{a C S:eI}{b:Bool}(X:K.In h)(I:Jk h a C)(G:GB K (.ref S)=aI (.type "type"))(H:Fo K S (.type "BaseException")=aI cI)(J:(Gn K S).isSome=cI)(L:Fo K C (.ref S)=aI b) :
 Io M h (Pr (.ref a)<|.ref S) b:=by
 have e:=yk (M:=M) I;have f:=PySem.W.looks_typeIn (M:=M) X G;have g:=Iw (M:=M) X H;have i:Io M h (OD<|.ref S) cI:=by
  obtain⟨w,z⟩:=FE.mp J;unfold Gn at z;split at z
  ·rename_i u x r t m
   intro n p o P k q;unfold OD loadHead;exact Eu<|wpAny_loadPart (k _ _<|X _ _ m)<|EB q
  ·cases z
 have j:=Iw (M:=M) X L;have l:Io M h (isSubtype (.type "type") (.type "tuple")) dV:= .of_pure tc_notTuple;intro A Q E s k q;obtain⟨F,g0,y,T,N⟩:=s;have B:=e.keeps k;have O:=f.keeps k;have R:=g.keeps k;have U:=i.keeps k;have Y:=j.keeps k;have d:=l.keeps k;unfold Pr isExcClass NF;cases b with
 | true=>
  repeat (first | with_reducible refine O.at ?_ | with_reducible refine d.at ?_ | with_reducible refine U.at ?_ | with_reducible refine R.at ?_ | with_reducible refine B.at ?_ | with_reducible refine Y.at ?_ | wp_step)
  exact q
 | false=>
  repeat (first | with_reducible refine O.at ?_ | with_reducible refine d.at ?_ | with_reducible refine U.at ?_ | with_reducible refine R.at ?_ | with_reducible refine B.at ?_ | with_reducible refine Y.at ?_ | wp_step)
  exact q
structure RV(X:Cx)(pins:MW)(σ:St)(H0 H:Hp)(cc:Xn)(a:eI)(s:gE):Prop where
 ex : ∃H' r0 C φ,L2.Inv X pins σ (upd H' a<|.ext φ) s/\Ext H0 H r0 H'/\H' a=cS/\wB X.K=cI/\cc.1∈o3/\xW X.K cc.1=aI C/\Rep X.K (upd r0 a<|.ext φ) (.exc cc.1 cc.2) (.ref a)/\Jk s.heap a C/\(cc.2=cS->∀g,φ g->Q1 a g)
 go : ∀{A:l7} {E:MQ} {Q:Unit->gE->Prop},(∀s',(∃H' r0 C φ,L2.Inv X pins σ (upd H' a<|.ext φ) s'/\Ext H0 H r0 H'/\H' a=cS/\wB X.K=cI/\cc.1∈o3/\xW X.K cc.1=aI C/\Rep X.K (upd r0 a<|.ext φ) (.exc cc.1 cc.2) (.ref a)/\Jk s'.heap a C/\(cc.2=cS->∀g,φ g->Q1 a g))->Q () s')->wpAny (hA X.prog X.w) A (Dx (.ref a) cS) Q E s
section
variable{X:Cx}{sc:i2}{N L:List Str}{k:Nat}
theorem iw{G:MW}{σ:St}{H H0:Hp}{J:Xn}{W:gv}{s':gE}{Q:Flow->gE->Prop}{E:MQ}{t:m6 Flow}(Z:X.stack=X.env::X.outer/\X.env.frame=aI X.env.locals)(lf:lP X G σ H0 H J W s')
 (h : ∀a s,W = .ref a->RV X G σ H0 H J a s->wpAny (hA X.prog X.w) X.A t Q E s) :
 wpAny (hA X.prog X.w) X.A (L5 W X.env) (λ_ s2=>wpAny (hA X.prog X.w) X.A (Dx W cS) (λ_ s3=>wpAny (hA X.prog X.w) X.A t Q E s3) E s2) E s':=by
 obtain⟨H1,Ob,s1,Y,x1,a,C,m,od,rfl,⟨O,j,eC,xa,xm,xc,R,x2⟩,be,bg,bi,un,F,U,bl,⟨B,t',fl,bn,a8⟩⟩:=lf;obtain rfl:O=C:=(Lq eC).symm;have bv:X.A.frames=aI (X.env::X.outer):=by rw[<- Z.1];exact Y.ok.frames
 rw[Z.1]at fl;have a9 : ∀l:h7,Gg B (X.env::X.outer) a (.ref O) (.ref t') l->s'.heap.UpToSlots l->n9 od a l->∃m j C M,L2.Inv X G σ (upd m a<|.ext M) {s' with heap:=l}/\Ext H0 H j m/\m a=cS/\wB X.K=cI/\J.1∈o3/\xW X.K J.1=aI C/\Rep X.K (upd j a<|.ext M) (.exc J.1 J.2) (.ref a)/\Jk l a C/\(J.2=cS->∀g,M g->Q1 a g):=λl f sm dk=>by
  have obj:Jk l a O:=by obtain⟨oe,x,_,_,_,e1,⟨e2,_⟩,e3,_⟩:=f.2.2.2;exact⟨oe,x,e1,e2,e3⟩
  have ne : ∀b o,s1.heap.get? b=aI o->b≠a:=λb o q z=>by rw[z,bl]at q;cases q
  have N : ∀b,b∈l5 X.stack->∃o,s1.heap.get? b=aI o/\(∀x,o.data ≠ .fields x)/\∃L,l.get? b=aI {o with slots:=L}:=λb I=>by obtain⟨_,o,q,nf⟩:=Y.stack.mem I;obtain⟨L,z⟩:=un.slot b o q (Y.D8 b I) I ⋯;obtain⟨c4,z'⟩:=sm b _ z nf;exact⟨o,q,nf,c4,z'⟩
  refine⟨m,j,O,λg=>Jk g a O/\n9 od a g,Y.Oj (s':={s' with heap:=l}) (ch:=[]) bg ⟨λb o q n I _=>?_,λb o q n I _=>?_,λb o q n _=>?_,λb o q _=>?_,λb xs q=>?_,λb o u q=>?_,λb ps q=>?_⟩ ?_ bi (λ_ z=>nomatch z),x1.trans x2,U,xa,xm,xc,?_,obj,λh g z=>z.2.2<|by unfold y0 at R;rw[h]at R;exact R⟩
  ·exact f.1 b o<|a8 b o (un.keep b o q n I ⋯) (by rw[q];simp) I
  ·obtain⟨p,q',_,z⟩:=N b I
   rw[q]at q';cases q';exact z
  ·rw[zu (ne b o q)];exact un.free b o q n ⋯
  ·by_cases I:b∈l5 X.stack
   ·obtain⟨p,_,_,L,z⟩:=N b I
    exact⟨_,z⟩
   ·obtain⟨p,z⟩:=un.there b o q ⋯
    exact⟨p,f.1 b p<|a8 b p z (by rw[q];simp) I⟩
  ·have z:=un.t8 b xs q
   rw[zu (zL z U)];exact z
  ·have z:=un.u7 b o u q
   rw[zu (zL z U)];exact z
  ·obtain⟨more,z⟩:=un.t7 b ps q
   exact⟨more,by rw[zu (zL z U)];exact z⟩
  ·refine Wg (qb F λb u n q=>f.1 b u<|bn b u q n) U ⟨obj,dk⟩ ?_ ?_
   ·obtain⟨o,_,e,_⟩:=obj;exact⟨o,e⟩
   ·rintro g1 g2 ⟨⟨o,x,e,r⟩,c6⟩ kk
    exact⟨⟨o,x,kk o e,r⟩,c6.obj kk⟩
  ·refine(show ∃b,V.ref a = .ref b/\B1 X.K _ J.1 J.2 b from⟨a,rfl,xa,xm,O,_,xc,zt,λ_ z=>z.1,?_⟩)
   unfold y0 at R;cases hc:J.2 with
   | none=>trivial
   | some i=>
    rw[hc]at R;obtain⟨d,c7,y⟩:=R;have c8:d≠a:=λq=>by rw[q,x2.sub.free U]at y;cases y
    exact⟨d,λg z=>z.2.1 d c7,by rw[zu c8];exact y⟩
 refine V1 bv Z.2 fl be λh4 c9 P ca=>?_;refine V5 c9 ca λh5 S as T=>?_;refine h a _ rfl ⟨a9 h5 S (P.trans as) T,λ{A E Q} q=>?_⟩;exact eV (s:={s' with heap:=h5}) S T λh6 cf ci cl=>q _<|a9 h6 cf ((P.trans as).trans ci) cl
end
section
variable{M:B0}{A:l7}{E:MQ}{s:gE}{env:l0}{outer:List l0}{base:h7}{e L:eI}{cls a0:gv}{od:Option eI}{Q:Unit->gE->Prop}
theorem uT(H:env.frame=aI L)(B:HK base (env::outer) e cls a0 L s.heap)(G:n9 od e s.heap)
 (I : ∀h',Gg base outer e cls a0 h'->s.heap.UpToSlots h'->n9 od e h'->Q () {s with heap:=h'}):wpAny M A (Dv env<|.ref e) Q E s:=by
 unfold Dv;refine Eu<|wpAny_noteFrame_againW H B.2.2.2 ?_;exact V5 B G λh' z O R=>I h' ⟨z.1,z.2.1,z.2.2.1.2.2,z.2.2.2⟩ O R
theorem bN{B h h':h7}{l:List l0}{C:eI}(H:HK B l e cls a0 L h)(I : ∃o,B.get? C=aI o)(G : ∀b o,b≠C->h.get? b=aI o->h'.get? b=aI o):HK (FG B [C]) l e cls a0 L h':=by
 obtain⟨f1,R,n,U,F,T,Y,E,t,j,a,p,f,m,s,r⟩:=H;obtain⟨K,I⟩:=I;have d : ∀b,B.get? b=cS->b≠C:=λb q z=>by rw[z,I]at q;cases q
 have vr:(FG B [C]).StaysIn B:=λb o q=>HH _ q;have g : ∀b,B.get? b=cS->(FG B [C]).get? b=cS:=λb q=>by
  cases z:(FG B [C]).get? b with
  | none=>rfl
  | some o=>rw[vr b o z]at q;cases q
 have ff : ∀l:List l0,h.FunFrames B l->h'.FunFrames B l:=λl=>by
  induction l with
  | nil=>exact λ_=>trivial
  | cons J r A=>
   rintro⟨w,⟨O,o,u,i,x,a⟩,y⟩;exact⟨w,⟨O,o,u,i,G O o (d O i) x,a⟩,A y⟩
 refine⟨λb o q=>G b o (λz=>?_)<|f1 b o<|vr b o q,g e R,PySem.W.funFrames_base vr<|ff l n,U,F,T,Y,E,G e U (d e R) t,j,a,p,g T f,m,G T Y (d T f) s,r⟩;rw[z,Ik [C] (Fh.mpr rfl)]at q;cases q
theorem YD(J:HK base (env::outer) e cls a0 L s.heap)(H:n9 od e s.heap)
 (G : ∀h',HK base (env::outer) e cls a0 L h'->s.heap.UpToSlots h'->n9 od e h'->Q () {s with heap:=h'}):wpAny M A (Dx (.ref e)<|some L) Q E s:=by
 have step:wpAny M A (Dx (.ref e)<|some L) (λ_ f=>∃h',f = {s with heap:=h'}/\HK base (env::outer) e cls a0 L h'/\s.heap.UpToSlots h') E s:=by
  obtain⟨f1,f2,h,l,m,T,p,R,U,g,W,d,Y,a,O,B,i⟩:=J;have sz:3<R.size:=(Array.getElem?_eq_some_iff.mp i).1;unfold Dx;refine Eu<|FU U W d ?_;rw[MY ⋯];refine Mb O B sz ⟨_,rfl,?_⟩;have I : ∀b,b≠T->(s.heap.update T<|Hx λv=>v.setIfInBounds 3<|rawInt L).get? b=s.heap.get? b:=λb j=>Gi _ _<|Fy j;have nT : ∀b o,s.heap.get? b=aI o->(∀v,o.data ≠ .fields v)->b≠T:=λb o q n z=>by rw[z,O]at q;cases q;exact n R B
  refine⟨⟨λb o q=>?_,f2,h.of_keeps λb o q n=>⟨o,?_,rfl⟩,l,m,T,_,_,?_,g,W,d,Y,a,FK _ O<|Obj.isFreed_of_fields<|IU B _,IU B _,by simp[sz]⟩,λb o q n=>⟨o.slots,?_⟩⟩
  ·exact(I b λz=>by rw[z,Y]at q;cases q).trans (f1 b o q)
  ·exact(I b<|nT b o q n).trans q
  ·exact(I e<|Fy a).trans U
  ·exact(I b<|nT b o q n).trans q
 refine EG (xZ (xP _ _) H step) (λ_ f z=>?_) λ_ _ z=>z;obtain⟨⟨h',rfl,x,y⟩,w⟩:=z;exact G h' x y w
end
noncomputable def P2(X:Cx)(z:eI)(H:Hp)(G:gE)(E:XK)(e:gv)(s':gE):Prop:=∃a C d f,e = .ref a/\E (.ref C) f d/\n9 f a s'.heap/\s'.os=G.os/\Dy s'.gens/\Un (l5 X.stack) [z] H d G.heap s'.heap/\m5 X.prog X.w d s'.heap/\d a=cS/\G.heap.get? a=cS/\
 ∃B t,HK B X.stack a (.ref C) (.ref t) X.env.locals s'.heap/\(∀b o,s'.heap.get? b=aI o->d b≠cS->B.get? b=aI o)/\∀b o,s'.heap.get? b=aI o->G.heap.get? b≠cS->b∉l5 X.stack->b≠z->B.get? b=aI o
section
variable{P:i8}{w:i5}{K:Es}{mg:MJ}{base:h7}{N:List Str}{qual:Str}{scope:i2}{f:eI}{cd:gv}{A:l7}{outer:List l0}{s:gE}{H:Hp}{E:XK}
theorem Yz{J:MW}{σ:St}{H1:Hp}{Z s':gE}{e:gv}{E':XK}{L:eI}(I:Inv (wz (m9 P w) P w K mg base N qual scope f cd A outer s H E) J σ H1 Z)(ax:s.heap.objs.size<=L)
 (hx:P2 (wz (m9 P w) P w K mg base N qual scope f cd A outer s H E) L H1 Z E' e s') (hE : ∀c o G,E' c o G->E c o G):(wz (m9 P w) P w K mg base N qual scope f cd A outer s H E).xe e s':=by
 generalize U:wz (m9 P w) P w K mg base N qual scope f cd A outer s H E=X at I hx;have bb:X.stack=X.env::X.outer:=by rw[<- U];rfl
 have bd:X.env.frame=aI X.env.locals:=by rw[<- U];rfl
 have W:X.ex=[]:=by rw[<- U];rfl
 have h : ∀b o,X.i6.heap.get? b=aI o->∃l,Z.heap.get? b=aI l:=λb o q=>I.base.there b o q (by rw[W];simp);have be : ∀b o,X.i6.heap.get? b=aI o->b≠X.env.locals:=λb o q=>ER<|EJ (EH q) I.ok.above;have a6 : ∀b o,X.i6.heap.get? b=aI o->b≠L:=λb o q=>by
  have:X.i6=s:=by rw[<- U];rfl
  rw[this]at q;exact ER<|EJ (EH q) ax
 have i : ∀b o,X.i6.heap.get? b=aI o->b∉X.fs->b∉l5 X.stack:=λb o q n hm=>by
  rcases ED.mp (I.F6 b hm)with z | z
  ·exact be b o q z
  ·exact n z
 have a2 : ∀b o,X.i6.heap.get? b=aI o->b ∉ [L]:=λb o q z=>a6 b o q<|Fh.mp z;obtain⟨a,C,G,od,rfl,hC,bi,bl,bn,un,h8,bv,c0,B,t,F,ap,ac⟩:=hx;have M:wpAny (hA P w) X.A (Dv X.env<|.ref a) (λ_ x=>m9 P w outer H s E (.ref a) x) (λe' x=>m9 P w outer H s E e' x) s':=by
  rw[bb]at F;refine uT bd F bi λc2 x1 Q c3=>?_;have st : ∀b o,B.get? b=aI o->c2.get? b=aI o:=λb o q=>x1.1 b o q;have e1:X.outer=outer:=by rw[<- U];rfl
  have e2:X.DB=H:=by rw[<- U];rfl
  have e3:X.i6=s:=by rw[<- U];rfl
  have e4:X.prog=P:=by rw[<- U];rfl
  have e5:X.w=w:=by rw[<- U];rfl
  have c7:X.i6.heap.get? a=cS:=by
   cases q:X.i6.heap.get? a with
   | none=>rfl
   | some o=>obtain⟨l,z⟩:=h a o q;rw[c0]at z;cases z
  rw[e4,e5]at h8;have tr : ∀b u,G b=aI u->∃o,s'.heap.get? b=aI o:=λb u q=>qJ<|h8 b u q;rw[<- e3]at *;rw[<- e2]at *;subst e1;refine⟨a,C,G,od,rfl,hE _ _ _ hC,c3,?_,bn,⟨λb o q n O _=>?_,λb o q n O _=>?_,λb o q n _=>?_,λb o q _=>?_,λb S q=>un.t8 b S<|I.base.t8 b S q,λb o u q=>un.u7 b o u<|I.base.u7 b o u q,λb ps q=>?_⟩,?_,bv,c7,⟨B,t,x1,λb o q n=>?_,λb o q n O=>?_⟩⟩
  ·exact bl.trans I.os
  ·have j:=I.base.keep b o q n O (by rw[W];simp)
   have k2:=un.keep b o j (I.base.free b o q n<|by rw[W];simp) (i b o q O)<|a2 b o q;exact st b o<|ac b o k2 (by rw[j];simp) (i b o q O)<|a6 b o q
  ·obtain⟨sl,z⟩:=I.base.slot b o q n O (by rw[W];simp)
   have y : ∀vs,o.data ≠ .fields vs:=by obtain⟨_,l,p,R⟩:=I.ok.pw.mem O;rw[q]at p;cases p;exact R
   obtain⟨c9,R⟩:=un.any z (I.base.free b o q n<|by rw[W];simp)<|a2 b o q;obtain⟨ca,z'⟩:=Q b _ R y;exact⟨ca,z'⟩
  ·obtain⟨Y,j⟩:=h b o q
   exact un.free b Y j (I.base.free b o q n<|by rw[W];simp)<|a2 b o q
  ·obtain⟨Y,z⟩:=h b o q
   obtain⟨g,R⟩:=un.there b Y z<|a2 b o q;by_cases O:b∈X.fs
   ·obtain⟨_,l,T,y2⟩:=I.ok.pw.mem O
    rw[q]at T;cases T;obtain⟨sl,d⟩:=I.base.any q (I.ok.B5 b O) (by rw[W];simp);obtain⟨c9,r⟩:=un.any d (I.base.free b o q (I.ok.B5 b O)<|by rw[W];simp)<|a2 b o q;obtain⟨cl,z5⟩:=Q b _ r y2;exact⟨_,z5⟩
   ·exact⟨g,st b g<|ac b g R (by rw[z];simp) (i b o q O)<|a6 b o q⟩
  ·obtain⟨m1,p⟩:=I.base.t7 b ps q
   obtain⟨m2,R⟩:=un.t7 b _ p;exact⟨m1++m2,by rw[R,LL]⟩
  ·exact qb h8 λb u n q=>st b u<|ap b u q n
  ·cases q1:G b with
   | none=>exact absurd q1 n
   | some u=>
    obtain⟨Y,z⟩:=tr b u q1;have R:=ap b Y z (by rw[q1];simp);have d:=st b Y R;rw[q]at d;cases d;exact R
  ·cases q1:X.i6.heap.get? b with
   | none=>exact absurd q1 n
   | some m=>
    obtain⟨Y,z⟩:=h b m q1;obtain⟨g,R⟩:=un.there b Y z<|a2 b m q1;have y:=i b m q1 O;have d:=ac b g R (by rw[z];simp) y<|a6 b m q1;have r:=st b g d;rw[q]at r;cases r;exact d
 rw[<- U]at M ⊢;exact M
theorem XB{pins:MW}{σ:St}{J:Hp}{G:gE}{h':h7}{a C d t:eI}{oa oe:n0}{va vs:Array gv}{Z:h7->Prop}(I:Inv (wz (m9 P w) P w K mg base N qual scope f cd A outer s H E) pins σ J G)
 (L:J a=aI (.ext Z)) (ax:G.heap.get? a=aI oa) (b0:oa.data = .fields va) (kp : ∀b,b≠a->h'.get? b=G.heap.get? b) (he:h'.get? a=aI oe) (c0:oe.cls = .ref C) (c1:oe.dict=aI d) (c2:oe.data = .fields vs) (h1:vs[1]? = aI .none) (h0:vs[0]? = aI (.ref t)) (hs:s.heap.get? a=cS) (hE:E (.ref C) (aI d) (λb=>if b=a then cS else J b)):(wz (m9 P w) P w K mg base N qual scope f cd A outer s H E).xe (.ref a) {G with heap:=h'}:=by
 generalize O:wz (m9 P w) P w K mg base N qual scope f cd A outer s H E=X at I;have T:X.stack=X.env::X.outer:=by rw[<- O];rfl
 have c4:X.env.frame=aI X.env.locals:=by rw[<- O];rfl
 have i:X.ex=[]:=by rw[<- O];rfl
 have j : ∀b o,b≠a->G.heap.get? b=aI o->h'.get? b=aI o:=λb o n q=>(kp b n).trans q;have c5:=I.stack.of_keeps (h':=h') λb o q n=>⟨o,j b o (λz=>by rw[z,ax]at q;cases q;exact n va b0) q,rfl⟩;have h:=I.D8;have c6 : ∀env∈X.stack,∀b,env.frame=aI b->b∈a::l5 X.stack:=λenv he b B=>EK _<|HS.mpr ⟨env,he,B⟩;have bd : ∀b o,X.i6.heap.get? b=aI o->∃g,G.heap.get? b=aI g:=λb o q=>I.base.there b o q (by rw[i];simp);have c7 : ∀b o,X.i6.heap.get? b=aI o->b≠X.env.locals:=λb o q=>ER<|EJ (EH q) I.ok.above;have am : ∀b o,X.i6.heap.get? b=aI o->b∉X.fs->b∉l5 X.stack:=λb o q n e=>by
  rcases ED.mp (I.F6 b e)with z | z
  ·exact c7 b o q z
  ·exact n z
 have e1:X.outer=outer:=by rw[<- O];rfl
 have e2:X.DB=H:=by rw[<- O];rfl
 have e3:X.i6=s:=by rw[<- O];rfl
 have e4:X.prog=P:=by rw[<- O];rfl
 have e5:X.w=w:=by rw[<- O];rfl
 have off : ∀b o,J b=aI o->(∀Z,o ≠ .ext Z)->(if b=a then cS else J b)=aI o:=λb o q z=>by rw[RQ (λw=>by rw[w,L]at q;cases q;exact z _ rfl),q]
 have bg:X.i6.heap.get? a=cS:=by rw[e3];exact hs
 have ca:m5 X.prog X.w (λb=>if b=a then cS else J b) h':=λb o q=>by
  have q:(if b=a then cS else J b)=aI o:=q;by_cases B:b=a
  ·rw[MY B]at q;cases q
  ·rw[RQ B]at q
   exact(I.h8 b o q).vr (λc u hc z=>j c u (λw=>by rcases hc with hc | hc;exact B<|hc ▸ w;rw[w,L]at hc;cases hc) z) (λc z=>off c _ z<|λZ w=>nomatch w) λc xs z=>off c _ z<|λZ w=>nomatch w
 have go:wpAny (hA P w) X.A (Dv X.env<|.ref a) (λ_ M=>m9 P w outer H s E (.ref a) M) (λe' M=>m9 P w outer H s E e' M) {G with heap:=h'}:=by
  have bi:(FG h' (a::l5 X.stack)).get? a=cS:=Ik _ ⋯;refine eL (s:={G with heap:=h'}) (od:=aI d) (base:=FG h' (a::l5 X.stack)) (env:=X.env) (outer:=X.outer) (a0:= .ref t) (by rw[<- T];exact I.ok.frames) (by rw[<- T];exact Lc c5 c6) c4 he (λb o q=>HH _ q) bi c2 h1 h0
   ⟨(λd' q=>by cases q;exact⟨_,he,c1⟩),λq=>nomatch q⟩ λbl hL ce=>?_
  rw[c0]at hL;obtain⟨k1,⟨_,_,k2⟩,k3,y⟩:=hL;have cf:a∉l5 X.stack:=λe=>by rw[h a e]at L;cases L
  have y : ∀b o,G.heap.get? b=aI o->(∀vs,o.data ≠ .fields vs)->∃sl,bl.get? b=aI {o with slots:=sl}:=λb o q n=>y b o (j b o (λz=>by rw[z,ax]at q;cases q;exact n va b0) q) n;have B7 : ∀b o,G.heap.get? b=aI o->b≠a->b∉l5 X.stack->(FG h' (a::l5 X.stack)).get? b=aI o:=λb o q R U=>FW _ (j b o R q) (by simp[R];exact U);have W : ∀b o,G.heap.get? b=aI o->b≠a->b∉l5 X.stack->bl.get? b=aI o:=λb o q R U=>k1 b o<|B7 b o q R U;rw[<- e3]at *;rw[<- e2]at *;subst e1;have Y : ∀b o,X.i6.heap.get? b=aI o->b≠a:=λb o q z=>by rw[z,bg]at q;cases q
  have x : ∀b,(if b=a then cS else J b)≠cS->b≠a/\b∉l5 X.stack/\∃o,G.heap.get? b=aI o:=λb n=>by
   by_cases B:b=a
   ·rw[MY B]at n;exact absurd rfl n
   ·rw[RQ B]at n
    cases q:J b with
    | none=>exact absurd q n
    | some u=>exact⟨B,(λe=>by rw[h b e]at q;cases q),qJ<|I.h8 b u q⟩
  refine⟨a,C,_,aI d,rfl,hE,ce,I.os,I.bare,⟨λb o q n B _=>?_,λb o q n B _=>?_,λb o q n _=>?_,λb o q _=>?_,λb xs q=>off b _ (I.base.t8 b xs q)<|λZ w=>(nomatch w),λb o u q=>off b _ (I.base.u7 b o u q)<|λZ w=>(nomatch w),λb ps q=>?_⟩,?_,MY rfl,bg,⟨_,t,⟨k1,bi,k2,k3⟩,λb o q n=>?_,λb o q n B=>?_⟩⟩
  ·exact W b o (I.base.keep b o q n B<|by rw[i];simp) (Y b o q)<|am b o q B
  ·obtain⟨sl,z⟩:=I.base.slot b o q n B (by rw[i];simp)
   have l : ∀vs,o.data ≠ .fields vs:=by obtain⟨_,g,F,S⟩:=I.ok.pw.mem B;rw[q]at F;cases F;exact S
   obtain⟨bv,Q⟩:=y b _ z l;exact⟨bv,Q⟩
  ·rw[RQ (Y b o q)];exact I.base.free b o q n (by rw[i];simp)
  ·obtain⟨g,z⟩:=bd b o q
   by_cases B:b∈X.fs
   ·obtain⟨_,r,F,S⟩:=I.pw.mem B
    obtain⟨bv,Q⟩:=y b _ F S;exact⟨_,Q⟩
   ·exact⟨g,W b g z (Y b o q)<|am b o q B⟩
  ·obtain⟨m,z⟩:=I.base.t7 b ps q
   exact⟨m,off b _ z<|λZ w=>nomatch w⟩
  ·rw[<- e4,<- e5]
   exact qb ca λb u n q=>W b u ((kp b (x b n).1).symm.trans q) (x b n).1 (x b n).2.1
  ·obtain⟨R,U,r,z⟩:=x b n
   have:=W b r z R U;rw[q]at this;cases this;exact B7 b o z R U
  ·cases q1:X.i6.heap.get? b with
   | none=>exact absurd q1 n
   | some p=>
    obtain⟨r,z⟩:=bd b p q1;have l:=am b p q1 B;have:=W b r z (Y b p q1) l;rw[q]at this;cases this;exact B7 b o z (Y b p q1) l
 rw[<- O]at go ⊢;exact go
end
section
variable{M:B0}{A:l7}{E:MQ}{s:gE}{env:l0}
noncomputable def W3(M:B0)(A:l7)(E:MQ)(cenv:l0)(r:Result)(s':gE):Prop:=∃x,r = .error x/\∃m,s'.heap.Ns cenv.locals m/\∀a,Hq cenv.locals s'.heap a->wpAny M A (passOn "comprehension.variables-let-go" x cenv:m6 gv) (λ_ _=>False) E {s' with heap:=a}
theorem XT{e:hH}{scope:i2}{pos:ik}{mk B:m6 gv}{g:Comprehension}{gs:List Comprehension}{G:List (Str×eI)}{use:Option (gv->m6 Unit)}{Q:MQ}
 (H:clausesOf e=g::gs) (hi : ∀x,AR g.iter env x=pure x) (W:Rg scope env=pure G) (J:scope.kind = .function) (hn : ∀x∈scope.names,x.2 = .local->scope.names.lookup x.1=aI .local)
 (h:wpAny M A B (λx I=>wpAny M A (M3 x) (λit O=>wpAny M A mk (λacc R=>wpAny M A (OL scope env.globals G [] env.qual cS .none (aI env)) (λcenv U=>
   codeAny M A (.compStart e 0 it acc {cenv with scope:=t6 scope env}) (W3 M A E {cenv with scope:=t6 scope env}) U) E R) E O) E I) E s) :
 wpAny M A (Nx e scope env pos mk dV B use) Q E s:=by
 unfold Nx;rw[W,H];refine Eu<|EG h (λx I f=>?_) λ_ _ z=>z;refine Eu<|Gw<|Eu<|Ir (hi x)<|Eu<|Fz<|EG f (λit O i=>?_) λ_ _ z=>z;refine wpAny_standIf<|Eu<|EG i (λacc R Y=>?_) λ_ _ z=>z;refine Eu<|EB<|Eu<|EG Y (λcenv U j=>?_) λ_ _ z=>z;dsimp only;refine Fz<|Eu<|IQ<|Fz<|wpAny_run<|HY j λr t l=>?_;obtain⟨x,rfl,m,a,b⟩:=l;refine Eu<|Fz<|wpAny_comp_letGo (cenv:={cenv with scope:=t6 scope env}) J _ t m (λy o n=>lookup_relabel_local<|hn y (List.mem_filter.mp<|List.mem_reverse.mp o).1 n) a λd u _ p=>?_;exact EG (b d p) (λ_ _ z=>z.elim) λ_ _ z=>z
end
theorem oJ{prog:i8}{w:i5}{A:l7}{R:Result->gE->Prop}{s:gE}{H A8 G:hH}{scope:i2}{pos:ik}{it acc:gv}{env:l0}{B:MQ}(I:Nat->gE->Prop)(O:B=PH (hA prog w) A env λe t=>R (.error e) t)
 (U : ∀n s,I n s->wpAny (hA prog w) A (NQ it) (λr t=>∃v,r=aI v/\wpAny (hA prog w) A (MU A8 it v) (λ_ t=>wpAny (hA prog w) A (DT A8 env v) (λ_ t=>wpAny (hA prog w) A (hX H env) (λx t=>
   wpAny (hA prog w) A (call (.builtin "list.append") [acc,x]) (λ_ t=>∃m,m<n/\I m t) B t) B t) B t) B t) B s) (n:Nat) (h:I n s) :
 codeAny (hA prog w) A (.compLoop (.ListComp H [⟨A8,G,[],0⟩] scope pos) 0 it acc env) R s:=by
 subst O;refine codeAny_loop rfl I (λn s W=>?_) n h;refine(show wpAny _ A ((compTurn (.ListComp H [⟨A8,G,[],0⟩] scope pos) 0 it acc env).onRaise λx=>do L5 x env;theTreesLotGoes x) _ _ s from wpAny_noted ?_);rw[compTurn_list1];refine Eu<|Gw<|Eu<|EG (U n s W) (λr Y z=>?_) λ_ _ z=>z;obtain⟨v,rfl,z⟩:=z;refine Eu<|EG z (λ_ a z=>Eu<|EG z (λ_ b z=>?_) λ_ _ z=>z) λ_ _ z=>z;exact Eu<|Eu<|EG z (λx d z=>Eu<|EG z (λ_ f z=>EB<|EB ⟨rfl,z⟩) λ_ _ z=>z) λ_ _ z=>z
noncomputable def P1(J:It)(g:TG)(G:TE)(D:eI)(W:Nat->Nat->List V->St->Hp->Prop):Prop:=
 ∀i m a e H,W i m a e H->H D=aI (.lst a)/\J.go i H/\a.length<j3/\∀x b,J.C8 i H x b->g x e b λz f=>G z f λv B=>B D=aI (.lst a)/\∃d,d<m/\W (i+1) d (a++[v]) z (upd B D<|.lst<|a++[v])
theorem WA{X:Cx}{Z:MW}{σ:St}{H:Hp}{G:gE}{scope:i2}{own:List Str}{fr:List (Str×Nat)}{fp:List eI}{it:eI}{tn:Nat->h7->Prop}{J:It}{elt tg L:hH}{pos:ik}{g:TG}{te:TE}{E Ee:MQ}{R:l0->Result->gE->Prop}
 (hc:X.calm=cI) (I:Inv X Z σ H G) (ok:A9 X scope fr) (T:Turn X.prog X.w X.K tg J fp it tn) (st:tn 0 G.heap) (a8 : ∀b∈fp,Q0 X Z H b)
 (hg:PG (jb X scope (own++fr.map (·.1)) fp G H) tg g) (he:PE ((jb X scope (own++fr.map (·.1)) fp G H).m4 Ee) elt te)
 (hR : ∀e s',Ee e s'->PH (hA X.prog X.w) X.A (qx scope X.env<|G.heap.objs.size+1) (λe s'=>R (qx scope X.env<|G.heap.objs.size+1) (.error e) s') e s')
 (hW : ∀D,H D=cS->∃W:Nat->Nat->List V->St->Hp->Prop,(∃m,W 0 m [] (Vu own fr σ) (upd H D<|.lst []))/\P1 J g te D W) :
 wpAny (hA X.prog X.w) X.A (NM []) (λacc SE=>wpAny (hA X.prog X.w) X.A (OL scope X.env.globals (ZJ X.env.cells scope.names []) [] X.env.qual cS .none (aI X.env)) (λcenv SF=>
  codeAny (hA X.prog X.w) X.A (.compStart (.ListComp elt [⟨tg,L,[],0⟩] scope pos) 0 (.ref it) acc {cenv with scope:=t6 scope X.env}) (R {cenv with scope:=t6 scope X.env}) SF) E SE) E G:=by
 have a9 : ∀b∈fp,∃o,G.heap.get? b=aI o:=λb B=>by obtain⟨o,e,_⟩:=T.obj 0 _ st b B;exact⟨o,e⟩
 have y:=Kz (own:=own) I ok a8 a9;obtain⟨W,⟨m0,w0⟩,cw⟩:=hW _ I.fresh;refine Gd<|qr ?_;have z1:(G.heap.push wt).objs.size=G.heap.objs.size+1:=FT ..;have ac:tn 0 (Dw ((G.heap.push wt).push Wx) scope.names):=T.keep 0 _ _ st λb _ o e=>Ih _ _ b o<|Ew _<|Ew _ e;have c0 : ∀b∈fp,b<G.heap.objs.size:=λb B=>by obtain⟨o,e⟩:=a9 b B;exact EH e
 have ak : ∀{h:Hp},(∀b∈fp,h b=cS)->∀b∈fp,Q0 (jb X scope (own++fr.map (·.1)) fp G H) [] h b:=λhn b B=>
  ⟨hn b B,(y.ok.FI b B).1,y.ok.F2 b B,.inl B,(y.ok.FI b B).2,λp hp=>absurd (show p∈([]:MW)from hp) ⋯⟩
 have am:codeAny (hA X.prog X.w) X.A (.compLoop (.ListComp elt [⟨tg,L,[],0⟩] scope pos) 0 (.ref it) (.ref G.heap.objs.size)<|qx scope X.env<|G.heap.objs.size+1) (R<|qx scope X.env<|G.heap.objs.size+1) {G with heap:=Dw ((G.heap.push wt).push Wx) scope.names}:=by
  refine oJ (λn s'=>∃i C j h,Inv (jb X scope (own++fr.map (·.1)) fp G H) [] j h s'/\tn i s'.heap/\(∀b∈fp,h b=cS)/\W i n C j h) rfl ?_ m0
   ⟨0,[],_,_,y,ac,λb B=>by rw[zu (ER<|c0 b B)];exact(a8 b B).1,w0⟩
  rintro n s3 ⟨i,C,a,S,I3,P,c3,w3⟩;obtain⟨hD,go,hz,step⟩:=cw i n C a S w3;refine ij (T.item (jb X scope (own++fr.map (·.1)) fp G H) rfl rfl rfl hc i [] s3 a S _ I3 (ak c3) P go) λr s4 O=>?_;obtain⟨u,hr,h4⟩:=O;refine⟨u,hr,ij h4 λ_ s5 O=>?_⟩;obtain⟨x,H5,I5,r5,y5,M,ca⟩:=O;have cc:=I5.pinned (ak ca)<|T.obj _ _ M;refine EG (hg _ s5 a H5 x u _ cc r5<|step x H5 y5) (λ_ s6 O=>?_) λ_ _ z=>z.elim;obtain⟨l,H6,I6,q6⟩:=O;have after : ∀{s:St} {t:Hp} {Y:gE},Inv (jb X scope (own++fr.map (·.1)) fp G H) ([]++Z6 fp s5.heap) s t Y->tn (i+1) Y.heap/\∀b∈fp,t b=cS:=λ{s t Y} U=>by refine⟨T.keep _ _ _ M λb B o e=>(U.pin (b,o)<|EW _<|EW _<|xq B e).1,λb B=>?_⟩;obtain⟨o,e,d⟩:=T.obj _ _ M b B;exact(U.pin (b,o)<|EW _<|EW _<|xq B e).2.1
  refine EG (he _ s6 l H6 _ (I6.m4 _) q6) (λQ Y O=>?_) λe s' z=>hR e s' z;obtain⟨x8,t,U,r8,b0,m',hm,w8⟩:=O;have U:=U.sh;obtain⟨z8,bb,n8,rv,cz,N⟩:=U.PC b0;refine Hm Mi ⟨_,N,rfl⟩ Ma (LK _ _) (LV _ bb.toArray n8 Q<|by rw[EM];omega) ⟨N,?_⟩;have F:=U.PB (its':=bb++[Q]) (f:=(·.push Q)) (t':=Y.toks) b0 N ⋯ (rv.append<|.cons r8 .nil) (by rw[Fc,Ho];omega);exact⟨m',hm,i+1,C++[x8],l,_,F.M6,(after F).1,(after F).2,w8⟩
 have cr:=R1 am<|T.self _ 0 _ _ _ ac am;have ee:({({scope:=scope,locals:=(G.heap.push wt).objs.size,globals:=X.env.globals,cells:=t4 ((G.heap.push wt).objs.size+1) scope.names<|ZJ X.env.cells scope.names [],qual:=X.env.qual,func:=cS,code:=X.env.code,frame:=X.env.frame,builtins:=X.env.builtins}:l0)with scope:=t6 scope X.env}:l0)=qx scope X.env (G.heap.objs.size+1):=by rw[z1];rfl
 show codeAny _ _ (.compStart _ 0 (.ref it) (.ref G.heap.objs.size) {({scope:=scope,locals:=(G.heap.push wt).objs.size,globals:=X.env.globals,cells:=t4 ((G.heap.push wt).objs.size+1) scope.names<|ZJ X.env.cells scope.names [],qual:=X.env.qual,func:=cS,code:=X.env.code,frame:=X.env.frame,builtins:=X.env.builtins}:l0)with scope:=t6 scope X.env}) (R {({scope:=scope,locals:=(G.heap.push wt).objs.size,globals:=X.env.globals,cells:=t4 ((G.heap.push wt).objs.size+1) scope.names<|ZJ X.env.cells scope.names [],qual:=X.env.qual,func:=cS,code:=X.env.code,frame:=X.env.frame,builtins:=X.env.builtins}:l0)with scope:=t6 scope X.env}) {G with heap:=Dw ((G.heap.push wt).push Wx) scope.names};rw[ee];exact cr
noncomputable def wX(T:Tg)(G:CO Xn)(f:CO D)(γ:Ctx):List D->Option Xn
 | []=>cS
 | d::ds=>(xo T d γ).bind λz=>match G z with
  | some c=>aI c
  | none=>(f z).bind λ_=>wX T G f γ ds
noncomputable def YV(G:CO (List D))(T:Tg)(n:Nat)(fr:List Nat)(H:CO Xn)(f:CO D):CO Xn:=λb=>(G b).bind λa=>if a.length<=lim then wX T H f (qS n fr b) a else cS
noncomputable def eZ(G:List D->Option Xn)(g:CO (List D))(z H:Str)(f:CO D):CO Xn:=λa=>(g a).bind λb=>(G b).bind λc=>if c.1=z/\c.2=cS then ((f a).bind o4).bind λi=>if inR i=cI then aI (H,aI i)else cS else cS
abbrev XE(X:Cx)(c:Xn)(Ob H1:Hp):XK:=λcls od H'=>∃C r0,cls = .ref C/\wB X.K=cI/\c.1∈o3/\xW X.K c.1=aI C/\y0 c od r0/\Ext Ob H1 r0 H'
noncomputable def MF(X:Cx)(B I:Hp)(c:Xn):Prop:=XW X B I c/\(∀(g:MW) (O:St) (h f:Hp) (i:gE) (e:gv) (m:gE) (R:eI),Inv X g O h i->Ext B I f h->X.i6.heap.objs.size<=R->P2 X R h i (XE X c f h) e m->X.xe e m)/\
 (∀(g:MW) (O:St) (h f:Hp) (i:gE) (j:h7) (a C d t:eI) (U z:n0) (W l:Array gv) (o:h7->Prop),Inv X g O h i->h a=aI (.ext o)->i.heap.get? a=aI U->U.data = .fields W->(∀b,b≠a->j.get? b=i.heap.get? b)->j.get? a=aI z->z.cls = .ref C->z.dict=aI d->z.data = .fields l->l[1]? = aI .none->l[0]? = aI (.ref t)->(X.ex=[]->X.i6.heap.get? a=cS)->
   Ext B I f (λb=>if b=a then cS else h b)->wB X.K=cI->c.1∈o3->xW X.K c.1=aI C->y0 c (aI d) f->X.xe (.ref a) {i with heap:=j})/\
 ∀n,PassesOwnAt (hA X.prog X.w) (X.A.mark n) X.A X.env X.xe
noncomputable def MC(X:Cx)(st:i7)(G:CO Xn):Prop:=∀(a:MW) (s:gE) (d:St) (H z B e:Hp) (b:Ctx) (c:Xn),Inv X a d H s->RS X.K z B e H d b->G b=aI c->MF X z B c->
 wpAny (hA X.prog X.w) X.A (exec st X.env) (λ_ _=>False) X.xe s
noncomputable def lx(X:Cx)(I:List i7)(G:CO Xn):Prop:=∀(a:MW) (s:gE) (d:St) (H z B e:Hp) (b:Ctx) (c:Xn),Inv X a d H s->RS X.K z B e H d b->G b=aI c->MF X z B c->
 wpAny (hA X.prog X.w) X.A (execs I X.env) (λ_ _=>False) X.xe s
section
variable{X:Cx}{sc:i2}{N L:List Str}{k:Nat}{st:i7}{rest:List i7}{G G':CO Xn}{F:CO Fl}
theorem Zf(h:Px X st G):MC X st G:=λa s f H z B b d c I O e w=>h a s f H z B b d c I O e w.1
theorem gc{J:List i7}(h:E1 X J G):lx X J G:=λa s f H z B b d c I O e w=>h a s f H z B b d c I O e w.1
theorem wF(h:MC X st G):lx X (st::rest) G:=λa s f H B O b d c I R e w=>
 GD (EG (h a s f H B O b d c I R e w) (λ_ _ z=>z.elim) λ_ _ z=>z)
theorem xE(J:MC X st G)(Z:pa X.n5 st F)(W:lx X rest G'):lx X (st::rest) (vy G F G'):=λb s m H B O l j c I U e w=>by
 unfold vy at e;cases q:G j with
 | some r=>
  rw[q]at e;cases e;exact wF J b s m H B O l j c I U q w
 | none=>
  rw[q]at e;obtain⟨Y,o,i⟩:=zc e;cases Y with
  | next d=>
   have i:G' d=aI c:=i;refine GD<|EG (Z b s m H {nx:=λg h=>∃a,RS X.K B O a h g d,rt:=λ_ _=>False} (I.m4 _) ⟨B,O,l,j,.next d,U,o,λg h a R=>⟨a,R⟩⟩) (λf p z=>?_) λ_ _ z=>z.elim;cases f with
   | next=>
    obtain⟨g,h,n,a,R⟩:=z;exact W b p g h B O a d c n.sh R i w
   | ret v=>obtain⟨_,_,_,_,_,z⟩:=z;exact z.elim
   | brk=>obtain⟨_,_,_,z⟩:=z;exact z.elim
   | cont=>obtain⟨_,_,_,z⟩:=z;exact z.elim
  | _=>cases i
end
theorem iD{P:i8}{w:i5}{K:Es}{L:MJ}{base:h7}{x:Str}{st:i7}{N J:List Str}{k:Nat}{G:CO Xn}(A:iv K L x st J)(hd:Zy N J st=cI)
 (ap : ∀X:Cx,X.prog=P->X.w=w->X.K=K->X.mg=L->X.base=base->SX X (zK st) N N k->(X.stack=X.env::X.outer/\X.env.frame=aI X.env.locals)->lx X (jT st) G):o6 P w K L base (k+1) x J.length (Vj N.length G):=by
 obtain⟨f,fd,Fu,hb,hm⟩:=A.ex;have S:=kx hd;have c3:J.length<=N.length:=by have:=congrArg IJ S.pre;rw[HE]at this;omega
 refine⟨f,fd,J,rfl,?_,hm,Fu.kp,.all hb⟩;obtain⟨oc,od,kV,doc,pm,an,Ol,ct,L6,rfl,lk,as⟩:=Fu.ex;refine iG lk as S (NZ.len rfl) λA outer s H vs Q E hr b0=>⟨λ_ σ h=>σ=wj N vs/\h=H,λl s1 σ H1 D I y=>?_,rfl,rfl⟩;obtain⟨rfl,rfl⟩:=y;obtain⟨H0,ds,c,s0,h1,h2,h3,U⟩:=b0;refine EG (ap _ rfl rfl rfl rfl rfl ⟨rfl,rfl,S.nd,rfl,hr,λ_ _=> .inl rfl⟩ ⟨rfl,rfl⟩ l s1 _ H1 H0 H1 H0 (jM N.length ds) c I (Jx s0 h1 ⋯) h3 ⟨⟨λp g i R r h' a C us B O W Y m n j=>?_,λp g i R r e s' B O j=>?_,λp g i R r a C d t φ B F M T O W Y m n=>?_⟩,λp g i R r e s' C0 B O hC j=>?_,λp g i R r h' a C d t oa oe va vs φ B F M T y4 y5 y6 y7 y8 y9 c1 c2 O W Y m n=>?_,λhd=>PassesOwnAt.leaving⟩) (λ_ _ z=>z.elim) λ_ _ z=>z
 ·exact Ja B j<|U C i R cS W Y m (by unfold y0;rw[n]) O
 ·refine Zw (E':=λu od h=>∃C b,u = .ref C/\wB K=cI/\c.1∈o3/\xW K c.1=aI C/\y0 c od b/\Ext R i b h) B j λcc o h z=>?_
  obtain⟨C,b,rfl,Z,z2,z3,z4,z5⟩:=z;exact U C h b o Z z2 z3 z4<|O.trans z5
 ·exact Jb B F M (T rfl)<|U C _ R (aI d) W Y m n O
 ·refine Yz B hC j λcc o h z=>?_
  obtain⟨C,b,rfl,Z,z2,z3,z4,z5⟩:=z;exact U C h b o Z z2 z3 z4<|O.trans z5
 ·exact XB B F M T y4 y5 y6 y7 y8 y9 c1 (c2 rfl)<|U C _ R (aI d) W Y m n O
noncomputable def O9(X:Cx)(e:hH)(G:CO Xn):Prop:=∀(a:MW) (s:gE) (b:St) (H d:Hp) (g:Ctx) (f:Xn),Inv X a b H s->RC X.K d H b g->G g=aI f->wpAny (hA X.prog X.w) X.A (hX e X.env) (λ_ _=>False) (lP X a b d H f) s
theorem aQ{X:Cx}{W:i2}{N L:List Str}{k j n:Nat}{e:hH}{J:List hH}{g:CO (List D)}{G:List D->Option Xn}{x:Str}{p pos:ik}(Z:o6 X.prog X.w X.K X.mg X.base j x n G)(z:j<=k)(h:SX X W N L k)(c:qN W x=cI)(Y:A3 X.n5 (e::J) n g)
 (B:i0 (e::J) X.env=(dV,hX e X.env)::i0 J X.env:=by rfl) (O:(ov pos<|starEach J X.env).any (·.1)=dV:=by rfl):O9 X (.Call (.Name x p) (e::J) [] pos) (kM G g):=λa s o H f m i I rc R=>by
 obtain⟨l,b,d⟩:=zc R;exact Jd Z z h c Y I rc b d B O
noncomputable def vV(T:Tg)(G:CO Xn)(F:CO Fl):List D->CO Xn
 | [],_=>cS
 | d::a,γ=>(xo T d γ).bind λB=>match G B with
  | some c=>aI c
  | none=>(F B).bind λI=>match I with
   | .next z=>vV T G F a z
   | .cont z=>vV T G F a z
   | _=>cS
noncomputable def ri(H:CO (List D))(T:Tg)(G:CO Xn)(F:CO Fl):CO Xn:=λa=>(H a).bind λb=>vV T G F b a
section
variable{X:Cx}{tg iter:hH}{body:List i7}{pos:ik}{src:CO (List D)}{T:Tg}{F:CO Fl}{G:CO Xn}
noncomputable def SJ(K:Es)(B I:Hp)(G:CO Xn)(F:CO Fl)(c:Xn):TS:=λD d H=>(∃b a,RS K B I b H d a/\G a=aI c)\/∃E0 E b a z,RS K E0 E b H d a/\F a=aI z/\Sat K E0 E D z
theorem nB{B O:Hp}{c:Xn}(hx:lx X body G)(U:KZ X.n5 body F)(w:MF X B O c):tF X body (SJ X.K B O G F c):=by
 intro a s b H D I R;rcases R with⟨d,f,W,e⟩ | R
 ·exact EG (hx a s b H B O d f c I W e w) (λ_ _ z=>z.elim) λ_ _ z=>z
 ·exact EG (U a s b H D (I.m4 _) R) (λY g z=>z.sh) λ_ _ z=>z.elim
theorem gd(hc:X.calm=cI)(hi:o8 X tg iter src)(hg:PG X tg (A1 X.K T))(hx:lx X body G)(hb:KZ X.n5 body F)(hs : ∀x,AR iter X.env x=pure x:=by intro _;rfl):MC X (.For tg iter body [] pos) (ri src T G F):=λo s l H F0 W g f c I O Y w=>by
 obtain⟨b,e1,Y⟩:=zc Y;have hp:Pa (hA X.prog X.w) X.A X.env X.xe:=by have M:=w.2.2.2 cS;have e:X.A.mark cS=X.A:=rfl;rw[e]at M;exact M
 refine EG (du (pos:=pos) hp hc hi hg (nB hx hb w) hs o s l H {nx:=λ_ _=>False,rt:=λ_ _=>False} I ⟨g,f,b,O.rc,e1,λJ H1 a x1 P=>?_⟩) (λfl s' z=>?_) λ_ _ z=>z
 ·have DJ:=O.step x1
  have L:=DJ.ext;refine⟨λi m l H=>m=b.length - i/\i<=b.length/\∃g f,RS X.K a W g H l f/\vV T G F (b.drop i) f=aI c,⟨_,rfl,He _,a,f,⟨DJ.rc,L.base,DJ.fresh,DJ.Dg⟩,Y⟩,?_⟩;rintro i m l H ⟨rfl,hi,g,f,O,B⟩;have E:jn a H:=O.ext.s0.trans O.ext.sub;have R:i<b.length:=by
   rcases Nat.lt_or_ge i b.length with z | z
   ·exact z
   ·rw[GK z]at B;cases B
  refine .inr ⟨P.go i H E R,λl H=>i+1<=b.length/\∃g f,RS X.K a W g H l f/\vV T G F (b.drop<|i+1) f=aI c,λO1 C n=>⟨b.length - (i+1),by omega,rfl,n.1,n.2⟩,λx C y=>?_⟩;obtain⟨d,N,hx⟩:=P.C8 i H x C E R y;obtain⟨u,Q,rg⟩:=hx g O.ext.s0 O.rc.sub;have Z:b.drop i=d::b.drop (i+1):=by
   have an:d=b[i]:=by rw[Ey R]at N;exact(Ff N).symm
   rw[an];exact Gs R
  rw[Z]at B;obtain⟨h,eb,B⟩:=zc (show(xo T d f).bind _=_ from B);refine yc Q.sub rg eb λO2 _ ar=>?_;have U:=ar a W<|O.step Q;cases q:G h with
  | some c'=>
   rw[q]at B;cases B;exact .inl ⟨u,h,⟨U.rc,L.rebase U.ext,U.fresh,U.Dg⟩,q⟩
  | none=>
   rw[q]at B;obtain⟨f1,eF,B⟩:=zc B;refine .inr ⟨a,W,u,h,f1,U,eF,?_⟩;cases f1 with
   | next j=>exact λt S p r=>⟨R,p,j,r,B⟩
   | cont j=>exact λt S p r=>⟨R,p,j,r,B⟩
   | _=>cases B
 ·cases fl with
  | next=>obtain⟨_,_,_,z⟩:=z;exact z.elim
  | ret v=>obtain⟨_,_,_,_,_,z⟩:=z;exact z.elim
  | brk=>obtain⟨_,_,_,z⟩:=z;exact z.elim
  | cont=>obtain⟨_,_,_,z⟩:=z;exact z.elim
end
theorem Qt{X:Cx}{G:MW}{σ:St}{H2 F0 F1:Hp}{H s':gE}{scope:i2}{N':List Str}{fp:List eI}{c:Xn}{e:gv}(Y:X.stack=X.env::X.outer/\X.env.frame=aI X.env.locals)(L:Inv X G σ H2 H)(Z : ∀b∈fp,Q0 X G H2 b)(w:MF X F0 F1 c)
 (hE : ∃bb J am H8,Ext F0 F1 am H8/\lP (jb X scope N' fp H H2) bb J am H8 c e s') :
 PH (hA X.prog X.w) X.A (qx scope X.env<|H.heap.objs.size+1) (λe s'=>W3 (hA X.prog X.w) X.A X.xe (qx scope X.env<|H.heap.objs.size+1) (.error e) s') e s':=by
 obtain⟨bb,J,am,H8,x8,x,N,d,R,xx,a,C,f,od,rfl,ce,cf,ci,cl,un,h8,cm,Q,⟨B,t,E,be,U⟩⟩:=hE;have un:Un (l5 X.stack) [] x f d.heap s'.heap:=un;have U : ∀b o,s'.heap.get? b=aI o->d.heap.get? b≠cS->b∉l5 X.stack->B.get? b=aI o:=U;have E:Gg B X.stack a (.ref C) (.ref t) s'.heap:=E;have h8:m5 X.prog X.w f s'.heap:=h8;have P:Inv X G σ x d:=L.Oj (ch:=fp) R.os R.base R.h8 R.bare<|λb O=>⟨(Z b O).2.2.2.1,(Z b O).2.1,(Z b O).2.2.2.2.1,(Z b O).2.2.2.2.2⟩;obtain⟨I,g⟩ : ∃I,I=H.heap.objs.size+1:=⟨_,rfl⟩;rw[<- g];have bg:x I=cS:=by rw[g];exact R.free
 obtain⟨m,cn⟩ : ∃m,d.heap.Ns I m:=by rw[g];obtain⟨m,hn,_⟩:=R.loc;exact⟨m,hn⟩
 obtain⟨W,es,ep,y,hr⟩:=cn;have bi : ∀b,b∈l5 X.stack->b≠I:=λb O=>by obtain⟨_,o,q,S⟩:=L.stack.mem O;rw[g];exact ER<|Gc<|EH q
 have bl:I∉l5 X.stack:=λh=>bi I h rfl;have kC:=un.keep I W y bg bl ⋯;have bC:=U I W kC (by rw[y];simp) bl;have bv:f I=cS:=un.free I W y bg ⋯;have aC:a≠I:=λz=>by rw[z,y]at Q;cases Q
 have ct:X.i6.heap.objs.size<=I:=by rw[g];exact Nat.le_succ_of_le L.sz
 rw[Y.1]at E;unfold PH;refine(show wpAny (hA X.prog X.w) X.A (L5 (.ref a) X.env) _ _ s' from V1 (by rw[<- Y.1];exact L.ok.frames) Y.2 E cf λh4 c0 cw cx=>?_);refine⟨.ref a,rfl,m,⟨W,es,ep,c0.1 I W bC,hr⟩,λi p=>?_⟩;have p : ∀b o,b≠I->h4.get? b=aI o->i.get? b=aI o:=λb o n q=>(p.2 b n).trans q;have c1:=bN c0 ⟨W,bC⟩ p;have cy:n9 od a i:=cx.obj λo q=>p a o aC q;unfold PySem.passOn;have cz:=c1;obtain⟨_,_,_,oe,vs,Tt,oT,ts,he,db,d2,h1,_⟩:=cz;refine Eu<|FU he d2 h1 ?_;rw[RQ (show ¬((EO Tt==Gk)=cI)by simp)];have step:wpAny (hA X.prog X.w) X.A (Dx (.ref a)<|some X.env.locals) (λ_ t=>X.xe (.ref a) t) X.xe {s' with heap:=i}:=by
  refine YD (s:={s' with heap:=i}) c1 cy λF c2 d3 d4=>?_;have st : ∀b o,B.get? b=aI o->b≠I->F.get? b=aI o:=λb o q n=>c2.1 b o<|FW [I] q (by simpa using n);have S : ∀b,b∈l5 X.stack->∃o,d.heap.get? b=aI o/\(∀vs,o.data ≠ .fields vs)/\∃T,F.get? b=aI {o with slots:=T}:=λb O=>by obtain⟨_,o,q,n⟩:=P.stack.mem O;obtain⟨T,z⟩:=un.slot b o q (P.D8 b O) O ⋯;obtain⟨di,M⟩:=cw b _ z n;obtain⟨d5,z6⟩:=d3 b _ (p b _ (bi b O) M) n;exact⟨o,q,n,d5,z6⟩
  refine w.2.1 G σ x N d _ _ I P (x8.trans xx) ct ⟨a,C,f,od,rfl,ce,d4,ci,cl,⟨λb o q n O j=>?_,λb o q n O j=>?_,λb o q n j=>?_,λb o q j=>?_,un.t8,un.u7,un.t7⟩,?_,cm,Q,FG B [I],t,?_,λb o q n=>?_,λb o q n O hc=>?_⟩
  ·exact st b o (U b o (un.keep b o q n O ⋯) (by rw[q];simp) O) (by simpa using j)
  ·obtain⟨l,q',_,z⟩:=S b O
   rw[q]at q';cases q';exact z
  ·exact un.free b o q n ⋯
  ·by_cases O:b∈l5 X.stack
   ·obtain⟨l,_,_,T,z⟩:=S b O
    exact⟨_,z⟩
   ·obtain⟨l,z⟩:=un.there b o q ⋯
    exact⟨l,st b l (U b l z (by rw[q];simp) O)<|by simpa using j⟩
  ·exact qb h8 λb u n q=>st b u (be b u q n) λz=>n (by rw[z];exact bv)
  ·rw[Y.1];exact c2
  ·cases q1:f b with
   | none=>exact absurd q1 n
   | some u=>
    have nb:b≠I:=λz=>by rw[z,bv]at q1;cases q1
    obtain⟨o1,z⟩:=qJ<|h8 b u q1;have K:=be b o1 z (by rw[q1];simp);have r:=st b o1 K nb;have q:F.get? b=aI o:=q;rw[q]at r;cases r;exact FW [I] K (by simpa using nb)
  ·cases q1:d.heap.get? b with
   | none=>exact absurd q1 n
   | some o0=>
    obtain⟨o2,K⟩:=un.there b o0 q1 ⋯;have r:=U b o2 K (by rw[q1];simp) O;have M:=st b o2 r hc;have q:F.get? b=aI o:=q;rw[q]at M;cases M;exact FW [I] r (by simpa using hc)
 have c7:wpAny (hA X.prog X.w) X.A (do Dx (.ref a) X.env.frame;(throw (.ref a):m6 gv)) (λ_ _=>False) X.xe {s' with heap:=i}:=by rw[Y.2];exact Eu<|EG step (λ_ t z=>wpAny_throw z) λ_ _ z=>z
 first
  | exact c7
  | exact Eu<|EB c7
section
variable{X:Cx}{scope:i2}{own:List Str}{fr:List (Str×Nat)}{elt tg iter:hH}{pos:ik}{src:CO (List D)}{T:Tg}{f:CO D}{Gx:CO Xn}
noncomputable def SK(K:Es)(z B:Hp)(Gx:CO Xn)(f:CO D)(c:Xn):TE:=λd H Q=>(∃a b,RC K a H d b/\Gx b=aI c/\Ext z B a H)\/tV K f d H Q
theorem Ji{use:Option (gv->m6 Unit)}{Q:MQ}{Z:MW}{s:gE}{σ:St}{H F0 F1 H0:Hp}{γ:Ctx}{c:Xn}(hc:X.calm=cI)(ca:X.stack=X.env::X.outer/\X.env.frame=aI X.env.locals)(ok:A9 X scope fr)(hT : ∀i∈T.idx,i<own.length)(hi:Dp X tg iter src)
 (hg : ∀fp L G,PG (jb X scope (own++fr.map (·.1)) fp L G) tg<|A1 X.K T) (he : ∀fp L G,PV (jb X scope (own++fr.map (·.1)) fp L G) elt f) (hx : ∀fp L G,O9 (jb X scope (own++fr.map (·.1)) fp L G) elt Gx)
 (I:Inv X Z σ H s) (rs:RS X.K F0 F1 H0 H σ γ) (U:YV src T own.length (fr.map (·.2)) Gx f γ=aI c) (w:MF X F0 F1 c) (hs : ∀x,AR iter X.env x=pure x:=by intro _;rfl) :
 wpAny (hA X.prog X.w) X.A (Nx (.ListComp elt [⟨tg,iter,[],0⟩] scope pos) scope X.env (firstIterPos [⟨tg,iter,[],0⟩] pos) (NM []) dV (hX iter X.env) use) Q X.xe s:=by
 obtain⟨O,e1,U⟩:=zc U;by_cases hl:O.length<=lim
 case neg=>rw[RQ hl]at U;cases U
 rw[MY hl]at U;refine XT rfl hs (vi λn hn=>I.ok.has n<|ok.free (n,.free) hn rfl) ok.kind (λx hx e=>by rw[<- e];exact kg ok.nd<|show(x.1,x.2)∈scope.names from hx) ?_;refine ij (hi Z s σ H (λJ S=>∀D,S D=cS->∃W:Nat->Nat->List V->St->Hp->Prop,(∃m,W 0 m [] (Vu own fr σ) (upd S D<|.lst []))/\P1 J (A1 X.K T) (SK X.K F0 F1 Gx f c) D W) I ⟨H0,γ,O,rs.rc,e1,λJ S l x1 wk D hD=>?_⟩) λv s1 h1=>ij h1 λd7 L h2=>?_
 ·have ac : ∀(i:Nat) es,(qS own.length (fr.map (·.2)) γ)[i]? ≠ aI (.own es):=λi es h=>by rcases qu h with z | ⟨d',j,z,_⟩<;>cases z
  have ak : ∀(i:Nat) C,(qS own.length (fr.map (·.2)) γ)[i]? ≠ aI (.nest C):=λi es h=>by rcases qu h with z | ⟨d',j,z,_⟩<;>cases z
  have bb:l D=cS:=js x1.sub hD;refine⟨λi m M N g=>m=O.length - i/\M.length<=i/\g D=aI (.lst M)/\∃a,RC X.K a g N (qS own.length (fr.map (·.2)) γ)/\a D=cS/\Ext l S a g/\wX T Gx f (qS own.length (fr.map (·.2)) γ) (O.drop i)=aI c,
   ⟨_,rfl,EF _,zt,l,((rs.rc.ext x1).pull).upd bb ac ak,bb,Ext.hide x1.sub hD _,U⟩,?_⟩
  rintro i m M N g ⟨rfl,hy,am,a,bd,ch,F,B⟩;have a4:i<O.length:=by
   rcases Nat.lt_or_ge i O.length with z | z
   ·exact z
   ·rw[GK z]at B;cases B
  refine⟨am,wk.go i g F.s1 a4,by have:=k6<|EF lim;omega,λx be y=>?_⟩;obtain⟨d,hd,hx⟩:=wk.C8 i g x be F.s1 a4 y;obtain⟨G0,Y,rg⟩:=hx a F.s0 bd.sub;have cl:O.drop i=d::O.drop (i+1):=by
   have cm:d=O[i]:=by rw[Ey a4]at hd;exact(Ff hd).symm
   rw[cm];exact Gs a4
  rw[cl]at B;obtain⟨b,eb,B⟩:=zc (show(xo T d<|qS own.length (fr.map (·.2)) γ).bind _=_ from B);have cn:G0 D=cS:=Y.new D ch (by rw[am];simp);have bn:be D=aI (.lst M):=Y.s1 _ _ am;obtain⟨bl,bg⟩:=QS eb;have cq : ∀{P:St} {G2 G:Hp},RC X.K G2 G P b->RC X.K G2 G P (qS own.length (fr.map (·.2)) γ):=λr=>r.weak bl.symm (λj d' hj=>by
   by_cases hm:j∈T.idx
   ·rcases qu hj with z | ⟨d2,j2,_,hn,_⟩
    ·cases z
    ·exact absurd (hT j hm) ⋯
   ·rw[bg j hm];exact hj) ac ak
  refine yc Y.sub rg eb λO2 cr _=>?_;have an:=cr<|bd.ext Y;cases q:Gx b with
  | some c'=>
   rw[q]at B;cases B;exact .inl ⟨G0,b,an,q,rs.ext.trans<|x1.trans<|F.trans Y⟩
  | none=>
   rw[q]at B;obtain⟨e,ee,B⟩:=zc B;refine .inr ⟨G0,b,e,an,ee,λv H4 c2 x4 r4=>?_⟩;have ap:c2 D=cS:=x4.new D cn (by rw[bn];simp);have cv:H4 D=aI (.lst M):=x4.s1 _ _ bn;have xb:=F.trans<|Y.trans x4;refine⟨cv,O.length - (i+1),by omega,rfl,by rw[Fc,Ho];omega,zt,c2,(cq<|an.ext x4).upd ap ac ak,ap,?_,B⟩;exact⟨xb.s0,λc o z=>by rw[zu (λw=>by rw[w,hD]at z;cases z)];exact xb.s1 c o z,λc o z=>by rw[zu (λw=>by rw[w,ap]at z;cases z)];exact xb.sub c o z,xb.new⟩
 ·obtain⟨it,fp,tn,J,G,e,I2,Tn,cx,f2,hW⟩:=h2
  subst e;refine WA (own:=own) (E:=X.xe) (Ee:=λe s'=>∃cz RT c5 H8,Ext F0 F1 c5 H8/\lP (jb X scope (own++fr.map (·.1)) fp L G) cz RT c5 H8 c e s') (R:=λt=>W3 (hA X.prog X.w) X.A X.xe t) hc I2 ok Tn cx f2 (hg fp L G) ?_ (λe s' z=>Qt ca I2 f2 w z) hW;intro ar s7 p H7 Q7 I7 hz;rcases hz with⟨c9,S5,d4,e7,x7⟩ | hz
  ·exact EG (hx fp L G ar s7 p H7 c9 S5 c I7.sh d4 e7) (λ_ _ z=>z.elim) λe s' z=>⟨ar,p,c9,H7,x7,z⟩
  ·refine EG (he fp L G ar s7 p H7 Q7 I7.sh hz) (λu s' z=>?_) λ_ _ z=>z.elim
   obtain⟨v,g,I',r⟩:=z;exact⟨v,g,I'.m4 _,r⟩
theorem Xl{y:Str}{py spos:ik}(L:X.calm=cI)(z:X.stack=X.env::X.outer/\X.env.frame=aI X.env.locals)(ok:A9 X scope fr)(B : ∀i∈T.idx,i<own.length)(hi:Dp X tg iter src)
 (O : ∀fp J G,PG (jb X scope (own++fr.map (·.1)) fp J G) tg<|A1 X.K T) (R : ∀fp J G,PV (jb X scope (own++fr.map (·.1)) fp J G) elt f) (hx : ∀fp J G,O9 (jb X scope (own++fr.map (·.1)) fp J G) elt Gx)
 (hs : ∀x,AR iter X.env x=pure x:=by intro _;rfl):MC X (.Assign [.Name y py] (.ListComp elt [⟨tg,iter,[],0⟩] scope pos) spos) (YV src T own.length (fr.map (·.2)) Gx f):=λa s j H d e g h c I U W w=>by
 obtain⟨b,Y⟩ : ∃b:Bool,tG (.ListComp elt [⟨tg,iter,[],0⟩] scope pos) (aI (.Name y py)) spos.line X.env=pure b:=⟨_,rfl⟩;cases b with
 | false=>
  refine Iv ?_ Y;rw[eval_ListComp];exact Ji L z ok B hi O R hx I U W w hs
 | true=>
  rw[R9 _ _ _ _ Y];refine Eu<|Gw<|Eu ?_;refine(show wpAny _ X.A (do let _ <- Nx (.ListComp elt [⟨tg,iter,[],0⟩] scope pos) scope X.env _ (NM []) dV (hX iter X.env) (aI (DT (.Name y py) X.env))) _ _ s from ?_);exact Eu<|Ji L z ok B hi O R hx I U W w hs
end
theorem JQ:entryFor table "proto.unchain" = aI Builtin.«proto.unchain» :=entryFor_of_fast (by kernel_rfl)
noncomputable def Bv(C d t hx:eI):n0:=⟨.ref C,aI d,.fields #[.ref t,.none,.ref hx,.none,.bool cI,.none],#[]⟩
section
variable{prog:i8}{wd:i5}{A:l7}{E:MQ}{env:l0}
variable{nm q:Str}{C N:eI}{bs bm:List gv}{hdct:Bool}{sn:List Str}{sub:List gv}{ab:Bool}{col:Option Bool}{dd:Option eI}{k0 k1 k2 k3 k5:Option gv}{newId:String}
theorem Xk{Q:Flow->gE->Prop}{s:gE}{e hx t d:eI}(I:A.handled=aI (.ref hx))(G:e≠hx)(O:Q1 hx s.heap)(B:s.heap.get? e=aI ⟨.ref C,aI d,.fields #[.ref t,.none,.none,.none,.bool cI,.none],#[]⟩)
 (h : ∀h',(∀b,b≠e->h'.get? b=s.heap.get? b)->h'.get? e=aI (Bv C d t hx)->E (.ref e) {s with heap:=h'}):wpAny (hA prog wd) A (raiseNew (.ref e):m6 Flow) Q E s:=by
 unfold raiseNew;refine Eu<|wpAny_handled ?_;rw[I];have R:(EO hx != EO e)=cI:=by simp only[bne_iff_ne,ne_eq,EO.injEq];exact λz=>G z.symm
 simp only[R,if_true];obtain⟨o,g,U,f,a⟩:=O;refine Eu<|Fz<|wpAny_runValue<|codeAny_builtin JQ ?_;unfold Builtin.«proto.unchain»;dsimp only;refine Eu<|FU U f a ?_;rw[MY (show(Gk==Gk)=cI from rfl)];refine Eu<|EB ?_;refine EB ?_;show wpAny _ A (do RJ e 2 (.ref hx);throw (.ref e)) Q E s;have st:wpAny (hA prog wd) A (OR (.ref e) 2<|.ref hx) (λ_ t=>E (.ref e) t) E s:=by refine Mb B rfl (by show 2<6;decide)<|h _ (λb n=>Gi _ _<|Fy n) ?_;exact FK _ B rfl
 exact Eu<|EG (show wpAny _ A (RJ e 2<|.ref hx) _ _ s from st) (λ_ t z=>wpAny_throw z) λ_ _ z=>z
theorem Yp{s:gE}{x c:m6 gv}{Q:Flow->gE->Prop}{hx:eI}(W:bm.contains (.type "BaseException")=cI)(Y:A.handled=aI (.ref hx))(hc : ∀(R:MQ) t,R .none t->wpAny (hA prog wd) A c R E t)
 (h:wpAny (hA prog wd) A x (λv B=>∃e t d,v = .ref e/\e≠hx/\B.heap.get? C=aI (MO nm q C N bs bm hdct sn sub ab col dd k0 k1 k2 k3 k5 newId)/\B.heap.get? e=aI (ZR C (aI d) t)/\Q1 hx B.heap/\C≠e/\
   ∀h',(∀b,b≠e->h'.get? b=B.heap.get? b)->h'.get? e=aI (Bv C d t hx)->E (.ref e) {B with heap:=h'}) E s) :
 wpAny (hA prog wd) A (NR env (aI x)<|some c) Q E s:=by
 have j:(EO C::bm).contains (.type "BaseException")=cI:=by rw[List.contains_cons,W,Bool.or_true]
 unfold NR;refine Eu<|EG h (λv B a=>?_) λ_ _ x=>x;obtain⟨e,t,d,rfl,i,O,I,f2,u,m⟩:=a;refine Eu<|Fz<|hc _ _ ?_;obtain⟨f,g,w,y,os⟩:=B;unfold ZR at I
 repeat (first | with_reducible refine Ge I ?_ | with_reducible refine Ge O ?_ | (with_reducible refine Mf O ?_;rw[j]) | wp_step)
 have U : ∀b,b≠e->((f.update e<|Hx λx=>x.setIfInBounds 3 Gk).update e (Hx λx=>x.setIfInBounds 4<|La cI)).get? b=f.get? b:=λb n=>(Gi _ _<|Fy n).trans (Gi _ _<|Fy n);have l:Q1 hx ((f.update e<|Hx λx=>x.setIfInBounds 3 Gk).update e (Hx λx=>x.setIfInBounds 4<|La cI)):=by obtain⟨o,p,z,r⟩:=f2;exact⟨o,p,(U hx<|Fy i).trans z,r⟩
 exact Xk (C:=C) (d:=d) (t:=t) Y i l (FK _ (FK _ I rfl) rfl) λh' k1 k2=>m h' (λb n=>(k1 b n).trans (U b n)) k2
end
theorem Nj.make{k:Nat}{A:l7}(r:Nj (k+1) A)(C:eI)(G:List gv)(z:List (Str×gv)):Nj k (A.under (.builtin "type.__call__" ⟨.ref C::G,z⟩)):=
 ⟨by have:=r.dp;rw[Z8];omega,by have:=r.un;rw[Z7];omega⟩
section
variable{X:Cx}{sc:i2}{N L:List Str}{k:Nat}{C:eI}{att x0 x1:Str}{p0 p1 p2 p3 p4 p5 p6 p7 p8 pos pos':ik}
theorem gi(h:SW X sc N L k)(A:XA X.K X.mg C att)(c0:kN sc N 0 x0=cI)(U:kN sc N 1 x1=cI)(hs:tG (.Name x1 p1) (aI (.Attribute (.Name x0 p0) att pos')) pos.line X.env=pure dV:=by rfl) :
 PS X (.Assign [.Attribute (.Name x0 p0) att pos'] (.Name x1 p1) pos) (Yh C att):=by
 intro a s f H D I W;obtain⟨e,i,M,P,B,q⟩:=W;obtain⟨S,Nn,cd,a1,a2,Y,n,o,p,r,t,_⟩:=A.ex;refine Mw (ij (h.var U a s f H (λv b=>v = .int i/\b=H) I ⟨_,P,rfl,rfl⟩) λu x j=>ij (h.var c0 a x f H (λv b=>v = .ref e/\b=H) (by obtain⟨v,b,O,R,rfl,rfl⟩:=j;exact O) ⟨_,M,rfl,rfl⟩) λG Q z2=>?_) hs;obtain⟨v1,b,O,R,rfl,rfl⟩:=j;obtain⟨v2,l,z,J,rfl,rfl⟩:=z2;cases (show G=EO e from J);obtain⟨F,g,dr,tk,os⟩:=Q;obtain⟨⟨a0,y⟩,_,_⟩:=(show l6 X.prog X.w l F e (.ext<|xB C e)from z.h8 e _ B);refine AO (S:=S) z.i9 y p r Y n o t λh' d E T Z y3 y4=>?_;obtain⟨b1,b2,m⟩:=AS (t':=E) (att:=att) (i:=i) z B T (a0:=a0) Z y3 R y4;exact⟨f,_,m,q d b1 b2⟩
theorem aR{B O:Str}{U R:Nat}(h:SW X sc N L k)(A:XA X.K X.mg C att)(G:qN sc "SplitError" = cI)(c0:kN sc N 0 x0=cI)(c1:kN sc N 1 x1=cI)(l1:B.length<=1000)(l2:O.length<=1000)
 (hs:tG (.Call (.Attribute (.Name "SplitError" p0) "__init__" p1) [.Name x0 p2,.JoinedStr [.Constant (.str B) U p3,.FormattedValue (.Name x1 p4) (-1) cS p5,.Constant (.str O) R p6] p7] [] p8) cS pos.line X.env=pure dV:=by rfl)
 (Z:(p1.endLine==p8.line)=cI:=by rfl) :
 PS X (.Expr (.Call (.Attribute (.Name "SplitError" p0) "__init__" p1) [.Name x0 p2,.JoinedStr [.Constant (.str B) U p3,.FormattedValue (.Name x1 p4) (-1) cS p5,.Constant (.str O) R p6] p7] [] p8) pos) (ZZ C):=by
 intro a s m H D I hZ;obtain⟨e,i,s0,s1,E,l,q⟩:=hZ;obtain⟨S,Nn,cd,P,Q,a3,a4,a5,a6,a7,a8,T,bi,bl⟩:=A.ex;refine Mc ?_ I.quiet hs;rw[arm_eval_Call];refine Eu (xH I (h.gl G).1 P ?_ (h.gl G).2.2);refine Eu (Gw ?_);have bn:PD cI (.Name "SplitError" p0) X.env p1 p8=pure p8:=by unfold PD;simp[Z]
 unfold methodCall;refine Eu<|Fz<|PySem.W.method_cls I.i9 T<|PySem.W.cls_value I.i9 bi bl ⋯ ?_;refine Eu<|Ir bn ?_;refine Lj rfl<|Iq ?_;show wpAny _ _ (A7 ((dV,hX (.Name x0 p2) X.env)::ov p8 [(dV,hX (.JoinedStr [.Constant (.str B) U p3,.FormattedValue (.Name x1 p4) (-1) cS p5,.Constant (.str O) R p6] p7) X.env)])) _ _ _;refine Fg<|ij (h.var c0 a _ m H (λv d=>v = .ref e/\d=H) (I.tok _) ⟨_,s0,rfl,rfl⟩) λu0 s2 z2=>?_;obtain⟨v2,n,M,r2,rfl,rfl⟩:=z2;cases (show u0=EO e from r2);show wpAny _ _ (A7 ((dV,hX (.JoinedStr [.Constant (.str B) U p3,.FormattedValue (.Name x1 p4) (-1) cS p5,.Constant (.str O) R p6] p7) X.env)::[])) _ _ s2;have cw:=GY;have t:i.natAbs.log2<1920:=by
  have h1:i.natAbs<2 ^ 62:=by unfold inR at E;exact of_decide_eq_true E
  by_cases z:i.natAbs=0
  ·rw[z];decide
  ·have:=(Nat.log2_lt z).mpr h1
   omega
 refine Fg<|JoinedStr_many<|HP<|HR ?_;dsimp only;refine⟨by rw[Gb];show 0+_<=_;omega,?_⟩;refine HP<|LZ<|ij (h.var c1 a _ m n (λv d=>v = .int i/\d=n) (M.tok _) ⟨_,s1,rfl,rfl⟩) λu1 s3 z3=>?_;obtain⟨v3,Y,f,r3,rfl,rfl⟩:=z3;obtain⟨F,rfl⟩:=(show ∃F,u1=IB i F from r3);refine LG t ?_;dsimp only;have cy:(FD<|toString i).length<=1921:=by have e:=Sg (k:=1920) ⋯ t;rw[PySem.ofString_length];exact e
 have j:(EU++B).length=B.length:=by rw[Gb];show 0+_=_;omega
 refine⟨by rw[Gb,j,GY];omega,?_⟩;show wpAny _ _ (joinParts _ [hX (.Constant (.str O) R p6) X.env]) _ _ _;refine HP<|HR ?_;dsimp only;refine⟨by rw[Gb,Gb,j,GY];omega,?_⟩;refine Sj ?_ (by rw[Gb,Gb,j,GY];omega);refine GG ?_;obtain⟨nm,qn,bs,bm,y,sn,sub,ab,col,dd,k0,k1,k2,k3,k5,ho,ht,h8⟩:=K6 Q;obtain⟨hp,g,dr,ca,os⟩:=s3;have r:=f.i9;obtain⟨⟨a0,cc⟩,_,_⟩:=(show l6 X.prog X.w Y hp e (.ext<|xB C e)from f.h8 e _ l);refine lS (L9 r ht) (r _ _ ho) cc λh' d0 J y2=>?_;have p:=f.write (x:=e) (e:=e) (o:= .ext (xB C e)) (t':=ca+1+1+1+1) (by rw[l];exact Ga) (.inl rfl) (λb u hb q=>y2 b u hb q) ⟨_,J⟩<|Kq J;have e4:upd Y e (.ext<|xB C e)=Y:=by
  funext b;by_cases z:b=e
  ·rw[z,zt,l]
  ·rw[zu z]
 rw[e4]at p;exact⟨m,Y,p.tok _,q⟩
end
noncomputable def BV(P:i8)(w:i5)(K:Es)(I:MJ)(base:h7)(k:Nat)(f:eI)(G:u4)(J:List Str)(sp:Sp):Prop:=∀(A:l7) (a:List l0) (s:gE) (H:Hp) (b:Args) (d:List gv) (e:List V) (Q:VK) (E:XK),Nj k A->Dz P w K I base A a s H->Na s G b (J.zip d)->i4 e d->sp e H Q E->
 codeAny (hA P w) A (.call (.ref f) b) (CR yg a P w H s Q E) s
theorem pf{P:i8}{w:i5}{K:Es}{G:MJ}{base:h7}{q x1:Str}{st:i7}{f C:eI}{L:u4}{att:Str}{k:Nat}(Z:L2.Dc K "__init__" q st f L)(hd:Zy ["self",x1] ["self",x1] st=cI)
 (a4 : ∀X:Cx,X.prog=P->X.w=w->X.K=K->X.mg=G->X.base=base->SW X (zK st) ["self",x1] ["self",x1] k->tF X (jT st) (ml (ZZ C) (Yh C att))):BV P w K G base (k+1) f L ["self",x1] (vC C att):=by
 have S:=kx hd;obtain⟨oc,od,kV,N,pm,an,h,ct,L6,rfl,lk,x⟩:=Z.ex;intro A a s H p us vs Q E O z F r U;have hl:vs.length=(["self",x1]:List Str).length:=by obtain⟨e,i,rfl,_⟩:=U;rfl
 have Y:K.In s.heap:=z.mod.DX.keeps λb o e=>(z.bs b o e).1;have lim:s.heap.NoLimit:=z.mod.nolimit.keeps λb o e=>(z.bs b o e).1;have M : ∀y∈(["self",x1]:List Str).zip us,(zK st).names.lookup y.1=aI .local\/((zK st).names.lookup y.1=aI .cell/\((t4 (s.heap.objs.size+1) (zK st).names []).lookup y.1).isSome=cI):=λy hy=>by
  obtain⟨n,v⟩:=y;rcases S.par n (Lo hy).1 with q | q
  ·exact .inl q
  ·exact .inr ⟨q,Hd _ _ _<|.inl q⟩
 refine R0 (by have:=O.dp;omega) (Y _ _ lk) rfl S.co S.gen rfl (PySem.W.codeRec_of Y x) (F _ _ _ _ ?_);refine SV S.kind M λT B s1 t=>?_;subst B;refine⟨lim.keeps t.toInCall.keep,codeAny_func ?_⟩;have I:=YB (E:=E) (qual:=q) (f:=f) (cd:=h) S z hl r t;have hB:=a4 (Pn P w K G base ["self",x1] q (zK st) f h A a s H E) rfl rfl rfl rfl rfl ⟨rfl,rfl,S.nd,by have:=O.dp;show A.depth+1+3*k+5<_;omega,by have:=O.un;show A.units+3+16*k+200<_;omega,λ_ _=> .inl rfl⟩;obtain⟨e,i,rfl,hi,B,qq⟩:=U;refine EG (hB [] s1 _ H {nx:=λ_ g=>Q .ih g,rt:=Q} I ⟨e,i,rfl,rfl,hi,B,e,i,rfl,rfl,B,qq⟩) (λfl l j=>?_) λe l j=>j.elim;have m : ∀{d:St} {g:Hp} {v:V} {u:gv},Inv (Pn P w K G base ["self",x1] q (zK st) f h A a s H E) [] d g l->RelV v u->Q v g->CE a P w H s Q u l:=
  λ{d g v u} J R q=>⟨v,g,J.os,J.bare,J.base,J.h8,R,q⟩
 cases fl with
 | ret u=>
  obtain⟨v,d,g,J,R,q⟩:=j;exact m J R q
 | next=>
  obtain⟨d,g,J,q⟩:=j;exact m (v:=V.ih) (u:=Gk) J rfl q
 | brk=>obtain⟨_,_,_,q⟩:=j;exact tx q
 | cont=>obtain⟨_,_,_,q⟩:=j;exact tx q
structure G8(P:i8)(w:i5)(K:Es)(mg:MJ)(base:h7)(k:Nat)(c:Str):Prop where
 all:wB K=cI
 mem:c∈o3
 ex : ∃C N fI fd ps,xW K c=aI C/\mg c=aI (.ref C)/\eY K C=aI N/\Fx K (.ref C) "__init__" = aI (aI (.ref fI))/\Gm K (.ref C)=cI/\GB K (.ref fI)=aI (.type "function")/\
  ps.length=2/\BV P w K mg base k fI fd ps (vC C<|vx c)/\Binds K fd ps []
section
variable{X:Cx}{sc:i2}{N L:List Str}{k j:Nat}{a:hH}{f:CO D}{c:Str}{np pos cpos:ik}{pins:MW}{σ:St}{H H0:Hp}{s:gE}{γ:Ctx}{i:Int}
theorem Wp(h:SW X sc N L k)(Z:qN sc c=cI)(x:G8 X.prog X.w X.K X.mg X.base j c)(hj:j+1<=k)(ha:PV X a f)(I:Inv X pins σ H s)(rc:RC X.K H0 H σ γ)(e1:f γ=aI (.int i))(hi:inR i=cI)(he:i0 [a] X.env=[(dV,hX a X.env)]:=by rfl) :
 wpAny (hA X.prog X.w) X.A (hX (.Call (.Name c np) [a] [] pos) X.env) (λu s'=>∃e d C G J,u = .ref e/\Inv X pins σ (upd (upd G e<|.ext<|sy C e d) d<|.xd [(vx c,.int i)]) s'/\Ext H0 H J G/\G e=cS/\G d=cS/\d≠e/\xW X.K c=aI C/\(X.ex=[]->X.i6.heap.get? e=cS)) X.xe s:=by
 obtain⟨C,Nn,p,fd,ps,x1,x2,x3,x4,x5,B,ac,Q,hb⟩:=x.ex;obtain⟨nm,qn,bs,bm,F,sn,sub,ab,col,dd,k0,k1,k2,k3,k5,ho,ht,h8⟩:=K6 x3;refine FX<|xH I (h.gl Z).1 x2 ?_ (h.gl Z).2.2;have ar:PA X [a] _:=jk ha j9 he;refine IF (h₀:=X.base) I.ok.mod.DX x5 (ij (ar pos pins s σ H (λt G=>t=[.int i]/\∃J,Ext H0 H J G) I ⟨H0,γ,.int i,rc,e1,λv S l y rr=>⟨by rw[show v = .int i from rr],l,y⟩⟩) λus s1 M=>⟨?_,?_⟩) (by rw[he];rfl) rfl
 ·obtain⟨t,G,O,_⟩:=M;exact O.i9
 obtain⟨t,G,O,rv,n,J,y⟩:=M;subst n;obtain⟨u,rfl,ru⟩:=kO rv;have b:=O.i9;obtain⟨R,bb,bd⟩ : ∃R,X.K.lookup p=aI R/\R.cls = .type "function":=by
  have B:(X.K.lookup p).map (·.cls)=aI (.type "function"):=B;cases z:X.K.lookup p with
  | none=>rw[z]at B;cases B
  | some R=>rw[z]at B;exact⟨R,rfl,Ff B⟩
 obtain⟨hp,g,dr,tk,os⟩:=s1;refine lT (L9 b ht) (b _ _ ho) (PySem.W.looks_findIn b x4) (b _ _ bb) bd (by show 1<=j3;decide) λh' e a0 P y2 y3=>?_;obtain⟨hn,m⟩:=oO (o:= .ext (xB C e)) (t':=tk) O y3 P<|Kq y2;have bi:X.ex=[]->X.i6.heap.get? e=cS:=λbl=>by
  cases q:X.i6.heap.get? e with
  | none=>rfl
  | some o=>
   obtain⟨o',z⟩:=O.base.there e o q (by rw[bl];simp);rw[show hp.get? e=cS from P]at z;cases z
 have sp:vC C (vx c) [.ref e,.int i] (upd G e<|.ext<|xB C e) (λv T=>v = .ih/\∃d,G d=cS/\d≠e/\T=upd (upd G e<|.ext<|sy C e d) d (.xd [(vx c,.int i)])) (λ_ _ _=>False):=by
  refine⟨e,i,rfl,hi,zt,λd E Y=>⟨rfl,d,?_,Y,?_⟩⟩
  ·rw[zu Y]at E;exact E
  ·rw[Q6]
 have hl:[EO e,u].length=ps.length:=by rw[ac];rfl
 refine Iu<|HY (Q _ X.stack _ _ ⟨[.ref e,u],[]⟩ [.ref e,u] [.ref e,.int i] _ _ (Nj.make ⟨by have:=h.dp;omega,by have:=h.un;omega⟩ C [u] []) (m.OB.make C [u] []) (by simpa using hb _ [.ref e,u] m.i9 (by simpa using hl)) (.cons rfl<|.cons ru .nil) sp) λr s' U=>?_;cases r with
 | error ee=>exact tx U
 | ok fl=>
  cases fl with
  | ret uu=>
   obtain⟨v,S,I3,c0,n,d,c1,Y,rfl⟩:=m.after U;subst n;exact⟨c0,⟨e,d,C,G,J,rfl,I3,y,hn,c1,Y,x1,bi⟩⟩
  | next=>exact tx U
  | brk=>exact tx U
  | cont=>exact tx U
end
theorem lQ{P:i8}{w:i5}{K:Es}{G:MJ}{base:h7}{c q x1 att:Str}{st:i7}{k:Nat}(A:E3 K G c q x1 st att)(J:Zy ["self",x1] ["self",x1] st=cI)(H:vx c=att)
 (z : ∀C,XA K G C att->∀X:Cx,X.prog=P->X.w=w->X.K=K->X.mg=G->X.base=base->SW X (zK st) ["self",x1] ["self",x1] k->tF X (jT st) (ml (ZZ C) (Yh C att))):G8 P w K G base (k+1) c:=by
 subst H;obtain⟨C,N,a,b,B,I,O,R,U,W,Y,d,e⟩:=A.ex;exact⟨A.all,A.mem,C,N,a,b,_,B,I,O,R,U,W,rfl,pf d J<|z C Y,e⟩
section
variable{X:Cx}{sc:i2}{N L:List Str}{k:Nat}
theorem aN{G:Str}{j:Nat}{a:hH}{f:CO D}{np cpos a1 kp:ik}{kd:Nat}{J:MW}{σ:St}{H0 H F0 F1:Hp}{ex:eI}{s:gE}{γ:Ctx}{i:Int}{H' r0:Hp}{Z:h7->Prop}(h:SX X sc N L k)(hg:qN sc G=cI)(x:G8 X.prog X.w X.K X.mg X.base j G)(hj:j+1<=k)
 (ha : ∀e,PV (C4 X e) a f) (I:Inv X J σ (upd H' ex<|.ext Z) s) (rs:RS X.K F0 F1 H0 H σ γ) (xx:Ext H0 H r0 H') (b0:H' ex=cS) (f2 : ∀g,Z g->Q1 ex g) (ef:f γ=aI (.int i)) (hi:inR i=cI) (w:MF X F0 F1 (G,aI i))
 (hs:i0 [a] X.env=[(dV,hX a X.env)]:=by rfl) :
 wpAny (hA X.prog X.w) (X.A.mark<|some (.ref ex)) (exec (.Raise (aI (.Call (.Name G np) [a] [] cpos)) (aI (.Constant .none kd kp)) a1) X.env) (λ_ _=>False) X.xe s:=by
 obtain⟨C,Nn,fI,fd,ps,x1,x2,x3,x4,x5,x6,ch,FO,hb⟩:=x.ex;obtain⟨nm,qn,bs,bm,hdct,sn,sub,ab,col,dd,k0,k1,k2,k3,k5,ho,ht,h8⟩:=K6 x3;have T0 : ∀{g:h7},X.K.In g->Nh g wh bm:=λY=>L9 Y ht;have FB:=GJ;have hw:SW (C4 X (.ref ex)) sc N L k:=⟨h.xg,h.eN,h.nd,h.room.dp,h.room.un,h.fn⟩;have I0:=JK I (.ref ex);rw[arm_exec_Raise];refine Eu (Gw ?_);show wpAny _ _ (NR X.env (aI (do let v <- hX (.Call (.Name G np) [a] [] cpos) X.env;OS a1;pure v)) (aI (do let v <- hX (.Constant .none kd kp) X.env;OS a1;pure v))) _ _ _;refine Yp (C:=C) (nm:=nm) (q:=qn) (N:=Nn) (bs:=bs) (bm:=bm) (hdct:=hdct) (sn:=sn) (sub:=sub) (ab:=ab) (col:=col) (dd:=dd) (k0:=k0) (k1:=k1) (k2:=k2) (k3:=k3) (k5:=k5) (newId:="ValueError.__new__") (hx:=ex) ((T0 I.i9).hasType FB.hasBase) rfl (λR t r=>?_) ?_
 ·exact Eu<|Constant_none<|Eu<|Gw<|EB r
 have S:=xx.trans<|Ext.hide xx.sub b0<|.ext Z;refine Eu<|EG (Wp (X:=C4 X<|.ref ex) (H0:=r0) hw hg x hj (ha _) I0 (rs.rc.ext S) ef hi hs) (λu E z=>Eu<|Gw<|EB ?_) λ_ _ z=>z.elim;obtain⟨e,d,C',l,Ob,rfl,B,T,p,O,M,U,c3⟩:=z;have U:xW X.K G=aI C':=U;rw[x1]at U;cases U;have B:=QC I.ok B;have W:=S.trans T;have m:l ex=aI (.ext Z):=T.s1 ex _ zt;have P:e≠ex:=λz=>by rw[z,m]at p;cases p
 have c4:d≠ex:=λz=>by rw[z,m]at O;cases O
 have Q:upd (upd l e<|.ext<|sy C e d) d (.xd [(vx G,.int i)]) e=aI (.ext<|sy C e d):=by rw[zu (Fy M),zt]
 have gX:upd (upd l e<|.ext<|sy C e d) d (.xd [(vx G,.int i)]) ex=aI (.ext Z):=by rw[zu (Fy c4),zu (Fy P)];exact m
 obtain⟨⟨F,g1⟩,_,_⟩:=(show l6 X.prog X.w _ E.heap e (.ext<|sy C e d)from B.h8 e _ Q);obtain⟨o,_,_⟩:=(show l6 X.prog X.w _ E.heap ex (.ext Z)from B.h8 ex _ gX);have n:=B.i9 _ _ ho;refine⟨e,F,d,rfl,P,n,g1,f2 _ o,λz=>?_,λh' kp he=>?_⟩
 ·rw[z,g1]at n;cases n
 have eH:(λb=>if b=e then cS else upd (upd l e<|.ext<|sy C e d) d (.xd [(vx G,.int i)]) b)=upd l d (.xd [(vx G,.int i)]):=by
  funext b;by_cases q:b=e
  ·rw[MY q,q,zu<|Fy M,p]
  ·rw[RQ q]
   by_cases y:b=d
   ·rw[y,zt,zt]
   ·rw[zu y,zu q,zu y]
 have E2:=rs.ext.trans<|(W.trans<|Ext.hide W.sub O<|.xd [(vx G,.int i)]).show (kY W.s1 O) (js W.sub O) zt rs.rc.sub;exact w.2.2.1 J σ _ _ E h' e C d F _ _ _ _ (sy C e d) B Q g1 rfl kp he rfl rfl rfl rfl rfl c3 (by rw[eH];exact E2) x.all x.mem x1 ⟨d,rfl,zt⟩
theorem aP{fx O c2 y:Str}{fp py cpos J DN a8 a9 np ac ak kp:ik}{kd n U j:Nat}{a e:hH}{Z:List hH}{g:CO (List D)}{G:List D->Option Xn}{f:CO D}(h:SX X sc N L k)(an:X.stack=X.env::X.outer/\X.env.frame=aI X.env.locals)
 (cf:qN sc fx=cI) (hx:o6 X.prog X.w X.K X.mg X.base U fx n G) (ar:U<=k) (ha:A3 X.n5 (e::Z) n g) (xh:XH X.K X.mg O) (W:qN sc O=cI) (g2:qN sc c2=cI) (x:G8 X.prog X.w X.K X.mg X.base j c2) (hj:j+1<=k) (hf : ∀e,SW (C4 X e) sc N L k->PV (C4 X e) a f)
 (he:i0 (e::Z) X.env=(dV,hX e X.env)::i0 Z X.env:=by rfl) (bb:(ov cpos<|starEach Z X.env).any (·.1)=dV:=by rfl) (bd:tG (.Call (.Name fx fp) (e::Z) [] cpos) (aI (.Name y py)) J.line X.env=pure dV:=by rfl) (hs:i0 [a] X.env=[(dV,hX a X.env)]:=by rfl) :
 MC X (.Try [.Assign [.Name y py] (.Call (.Name fx fp) (e::Z) [] cpos) J] [.ExceptHandler (aI (.Name O a9)) cS [.Raise (aI (.Call (.Name c2 np) [a] [] ac)) (aI (.Constant .none kd kp)) ak] a8] [] [] DN) (eZ G g O c2 f):=λE s σ H F0 F1 H0 γ c I Y B w=>by
 obtain⟨ds,eg,B⟩:=zc B;obtain⟨b,eG,B⟩:=zc B;by_cases d:b.1=O/\b.2=cS
 case neg=>rw[RQ d]at B;cases B
 rw[MY d]at B;obtain⟨i,R,B⟩:=zc B;obtain⟨d0,u,R⟩:=zc R;rw[j7 R]at u;by_cases m:inR i=cI
 case neg=>rw[RQ m]at B;cases B
 rw[MY m]at B;cases B;refine Mz ?_;refine GD<|Iv (EG (Jd hx ar h cf ha I Y.rc eg eG he bb) (λ_ _ z=>z.elim) λev s' z=>?_) bd;refine iw an z λA s3 ea p=>?_;subst ea;obtain⟨Q,l,C,φ,S,P,r,xa,M,F,rep,obj,f2⟩:=p.ex;obtain⟨C1,x1,x2,x3,x4,x5,x6⟩:=xh.ex;have o:=JK S<|.ref A;refine SU (R3<|xH (X:=C4 X<|.ref A) o (show Gl X _ from(h.gl W).1) x2 ?_ (h.gl W).2.2) (by intro q;cases q);refine(YG o.i9 obj x3 x4 x5<|x6 b.1 C M F) _ _ _ _ (λ_ _ z=>z) ?_;rw[show(b.1==O)=cI by rw[d.1];exact beq_self_eq_true _];refine codeAny_handlers_suite<|p.go λs6 c5=>?_;obtain⟨Q,l,C,φ,T,P,r,xa,M,F,rep,obj,f2⟩:=c5;refine GD<|EG (aN h g2 x hj (λe=>hf e ⟨h.xg,h.eN,h.nd,h.room.dp,h.room.un,h.fn⟩) T Y P r (f2 d.2) u m w hs) (λ_ _ z=>z.elim) λe' t z=>?_;exact w.2.2.2 _ e' t z
end
section
variable{X:Cx}{sc:i2}{N L:List Str}{k j n i:Nat}{a b c e:hH}{es:List hH}{g:CO (List D)}{p pos:ik}{x y:Str}{st:i7}{body rest:List i7}{F:List D->Option Res}
open Classical in
end
noncomputable def ky(f:CO D)(g:CO (Sk×List D)):CO D:=λb=>(f b).bind λd=>(g b).bind λa=>match d with
 | .str x=>(vB a.2).map λl=> .bl (!l.any λy=>y==x)
 | _=>cS
section
variable{X:Cx}{sc:i2}{N L:List Str}{k j n i:Nat}{a b c e:hH}{es:List hH}{g:CO (List D)}{p pos:ik}{x:Str}{st:i7}{body rest:List i7}{F:List D->Option Res}
theorem aV{J:ExceptHandler}{O:List ExceptHandler}{G:ik}{F:CO Fl}(h:pa X.n5 st F):pa X (.Try [st] (J::O) [] [] G) F:=by
 intro a s f H D I ⟨R,U,b,e,B,W,Y,d⟩;refine Mz ?_;refine EG (zk h a s f H D (I.m4 _) ⟨R,U,b,e,_,W,Y,d⟩) (λB g z=>?_) λ_ _ z=>z.elim;have z:=z.sh;cases B with
 | next=>exact IY z
 | ret v=>exact z
 | brk=>exact z
 | cont=>exact z
end
section
variable{X:Cx}{sc:i2}{N L:List Str}{k j n i:Nat}{a b c e:hH}{es:List hH}{g:CO (List D)}{p pos:ik}{x:Str}{st:i7}{body rest:List i7}{F:List D->Option Res}
theorem yf{c:hH}{G:CO D}(J:PV X a G){I:CO (Sk×List D)}(O:PQ X c I)(Z:Ds .NotIn c=dV:=by with_unfolding_all rfl):q5 X (.Compare a [.NotIn] [c] pos) (sB<|ky G I):=
 Xp (Jz Qr J O Z) λN H Q R=>by
  obtain⟨i,h,d,rc,z,q⟩:=R;obtain⟨E,U,W⟩:=zc z;obtain⟨x,n,z⟩:=zc U;obtain⟨⟨g,m⟩,o,z⟩:=zc z;cases x with
  | str w=>
   obtain⟨l,Y,rfl⟩:=zA z;cases W;refine⟨i,h,_,rc,n,λu C b x1 B=>⟨b,h,g,m,rc.ext x1,o,λp M e j A f F r=>?_⟩⟩;have s:=yO r Y;subst s;have t:kv X.K e p (l.map V.str)\/l4 X.K e p (l.map V.str):=by
    cases g with
    | L=>exact .inl f
    | T=>exact .inr f
   have B:u = .str w:=B;subst B;refine⟨p,_,rfl,t,rfl,w5 l,?_⟩;have:F4 (.str w) (l.map V.str)=l.any λy=>y==w:=by unfold F4;rw[Im];rfl
   rw[this];exact⟨_,rfl,q e j<|x1.trans A⟩
  | _=>cases z
end
abbrev Ra:=Ctx->List Int->List D->Option (Ctx×List Int×List D)
noncomputable def Bo(F G:Ra):Ra:=λd a b=>(F d a b).bind λr=>G r.1 r.2.1 r.2.2
def DZ(e:hH):Str:=match e with | .Name x _=>x | _=>""
noncomputable def DM(e:hH):List Str:=match e with | .Tuple a _ _=>a.map DZ | e=>[DZ e]
noncomputable def F3(N:List Str)(fs:List Nat):List (Str×Nat):=fs.map λi=>(N.getD i "",i)
theorem XN(N:List Str)(fs:List Nat):(F3 N fs).map (·.2)=fs:=by unfold F3;rw[FC];exact List.map_id fs
def ez(e:hH):Bool:=match e with | .Name _ _=>cI | _=>dV
theorem Yx{e:hH}(h:ez e=cI) : ∃p,e = .Name (DZ e) p:=by
 unfold ez at h;split at h
 ·exact⟨_,rfl⟩
 ·cases h
noncomputable def AU(G:i2)(N L:List Str)(is:List Nat)(H:List hH):Bool:=match is with
 | [i,j]=>(match H with | [a,b]=>ez a && (kr G N L i (DZ a) && (ez b && kr G N L j (DZ b))) | _=>dV)
 | [i,j,l]=>(match H with | [a,b,c]=>ez a && (kr G N L i (DZ a) && (ez b && (kr G N L j (DZ b) && (ez c && kr G N L l (DZ c))))) | _=>dV)
 | _=>dV
noncomputable def N4(G:i2)(N L:List Str)(e:hH)(T:Tg):Bool:=match T with
 | .nm i=>ez e && kr G N L i (DZ e)
 | .tp is=>(match e with | .Tuple a _ _=>AU G N L is a | _=>dV)
theorem fA{X:Cx}{G:i2}{N L:List Str}{k:Nat}(h:SX X G N L k){e:hH}{T:Tg}(c:N4 G N L e T=cI):PG X e (A1 X.K T):=by
 cases T with
 | nm i=>
  have c:=Bool.and_eq_true_iff.mp c;obtain⟨p,q⟩:=Yx c.1;rw[q];exact h.A8 _ c.2
 | tp is=>
  unfold N4 at c;dsimp only at c;split at c
  ·next f j d=>
   unfold AU at c;split at c
   ·split at c
    ·simp only[Ex]at c
     obtain⟨z,B,b1,b2⟩:=c;obtain⟨p,q⟩:=Yx z;obtain⟨b,I⟩:=Yx b1;rw[q,I];exact h.OU<|xi (h.A8 _ B)<|xi (h.A8 _ b2) JC
    ·cases c
   ·split at c
    ·simp only[Ex]at c
     obtain⟨z,B,b1,b2,O,a⟩:=c;obtain⟨p,q⟩:=Yx z;obtain⟨b,I⟩:=Yx b1;obtain⟨g,R⟩:=Yx O;rw[q,I,R];exact h.OU<|xi (h.A8 _ B)<|xi (h.A8 _ b2)<|xi (h.A8 _ a) JC
    ·cases c
   ·cases c
  ·cases c
noncomputable def cB(H scope:i2)(N:List Str)(G:hH)(T:Tg)(n:Nat)(fs:List Nat):Bool:=
 XU H scope N (F3 N fs) && (tM (DM G) scope (F3 N fs) && (decide (∀i∈T.idx,i<(DM G).length) && (decide ((DM G).length=n) && N4 (kz scope H) (DM G++(F3 N fs).map (·.1)) (DM G) G T)))
abbrev MI(X:Cx)(scope:i2)(N:List Str)(tg:hH)(fs:List Nat):=jb X scope (DM tg++(F3 N fs).map (·.1))
abbrev SA(X:Cx)(sc scope:i2)(N:List Str)(tg:hH)(fs:List Nat)(k:Nat)(fp:List eI)(s2:gE)(H2:Hp):Prop:=SX (MI X scope N tg fs fp s2 H2) (kz scope sc) (DM tg++(F3 N fs).map (·.1)) (DM tg) k
section
variable{X:Cx}{sc scope:i2}{N L:List Str}{k n i:Nat}{fs:List Nat}{T:Tg}{e elt tg iter Rh:hH}{es:List hH}{pos p py spos cpos:ik}{x y:Str}{f g:CO D}{fo:CO (List D)}{src gl:CO (List D)}{kk:CO Bool}
theorem cA(h:SX X sc N L k)(c:cB sc scope N tg T n fs=cI):A9 X scope (F3 N fs)/\(∀i∈T.idx,i<(DM tg).length)/\(DM tg).length=n/\(∀fp H G,SA X sc scope N tg fs k fp H G)/\∀fp H G,PG (MI X scope N tg fs fp H G) tg (A1 X.K T):=by unfold cB at c;simp only[Ex,decide_eq_true_eq]at c;obtain⟨z,a,B,I,b⟩:=c;have s : ∀fp H G,SA X sc scope N tg fs k fp H G:=λfp H G=>h.comp a;exact⟨h.Ri z,B,I,s,λfp H G=>fA (s fp H G) b⟩
theorem qy(h:SX X sc N L k)(hi:Dp X tg iter src)(z : ∀fp H G,SA X sc scope N tg fs k fp H G->PV (MI X scope N tg fs fp H G) elt f)(c:cB sc scope N tg T n fs=cI:=by decide +kernel)(hs : ∀x,AR iter X.env x=pure x:=by intro _;rfl) :
 PO X (.ListComp elt [⟨tg,iter,[],0⟩] scope pos) (zM src T n fs jo f):=by
 obtain⟨a,b,d,s,q⟩:=cA h c;have r:=gN (pos:=pos) h.calm a b hi q (λfp H G=>z fp H G<|s fp H G) hs;rw[d,XN]at r;exact r
theorem uA(h:SX X sc N L k)(hi:Dp X tg iter src)(I : ∀fp H G,SA X sc scope N tg fs k fp H G->q5 (MI X scope N tg fs fp H G) Rh kk)(z : ∀fp H G,SA X sc scope N tg fs k fp H G->PV (MI X scope N tg fs fp H G) elt f)(c:cB sc scope N tg T n fs=cI:=by decide +kernel)(hs : ∀x,AR iter X.env x=pure x:=by intro _;rfl) :
 PO X (.ListComp elt [⟨tg,iter,[Rh],0⟩] scope pos) (zM src T n fs kk f):=by
 obtain⟨a,b,d,s,q⟩:=cA h c;have r:=VD (pos:=pos) h.calm a b hi q (λfp H G=>I fp H G<|s fp H G) (λfp H G=>z fp H G<|s fp H G) hs;rw[d,XN]at r;exact r
theorem gJ(h:SX X sc N L k)(hi:Dp X tg iter src)(z : ∀fp H G,SA X sc scope N tg fs k fp H G->PV (MI X scope N tg fs fp H G) elt f)(ct:kr sc N L i y=cI:=by decide +kernel)(c:cB sc scope N tg T n fs=cI:=by decide +kernel)(hs : ∀x,AR iter X.env x=pure x:=by intro _;rfl) :
 PS X (.Assign [.Name y py] (.ListComp elt [⟨tg,iter,[],0⟩] scope cpos) spos) (Y6 (tO X.K<|zM src T n fs jo f)<|vf i):=by
 obtain⟨a,b,d,s,q⟩:=cA h c;have r:=Su (cpos:=cpos) (spos:=spos) (py:=py) i h ct h.calm a b hi q (λfp H G=>z fp H G<|s fp H G) hs;rw[d,XN]at r;exact r
theorem zq(h:SX X sc N L k)(c:kN sc N i x=cI:=by decide +kernel):PV X (.Name x pos) (zd i):=df i<|h.var c
theorem zV(h:SX X sc N L k)(c:kN sc N i x=cI:=by decide +kernel):PQ X (.Name x pos) (zh i):=nD i<|h.var c
theorem Ce(h:SX X sc N L k)(c:N4 sc N L e T=cI:=by decide +kernel):PG X e (A1 X.K T):=fA h c
theorem jz(h:SX X sc N L k)(z:PV X e f)(c:kr sc N L i x=cI:=by decide +kernel)(hs:tG e (aI (.Name x py)) pos.line X.env=pure dV:=by rfl):pa X (.Assign [.Name x py] e pos) (jF i f):=vJ i<|h.set i c z hs
theorem Zk(h:SX X sc N L k)(z:PO X e fo)(c:kr sc N L i x=cI:=by decide +kernel)(hs:tG e (aI (.Name x py)) pos.line X.env=pure dV:=by rfl):pa X (.Assign [.Name x py] e pos) (Zb i fo):=aX i<|h.set i c z hs
theorem yx{G:List i7}{F:CO Fl}(hx:X.xe=λ_ _=>False)(h:SX X sc N L k)(hi:o8 X tg iter src)(z:KZ X G F)(c:N4 sc N L tg T=cI:=by decide +kernel)(hs : ∀x,AR iter X.env x=pure x:=by intro _;rfl):pa X (.For tg iter G [] pos) (Z1 src T F):=gH (nW hx) h.calm hi (fA h c) z hs
variable{j:Nat}{F:List D->Option Res}
theorem zT(H:hI X.prog X.w X.K X.mg X.base j x n F)(h:SX X sc N L k)(G:A3 X (e::es) n gl)(z:j<=k:=by decide)(c:qN sc x=cI:=by decide +kernel)
 (B:i0 (e::es) X.env=(dV,hX e X.env)::i0 es X.env:=by rfl) (I:(ov pos<|starEach es X.env).any (·.1)=dV:=by rfl):PV X (.Call (.Name x p) (e::es) [] pos) (zw F gl):=nu H z h c G B I
theorem VC(H:hI X.prog X.w X.K X.mg X.base j x n F)(h:SX X sc N L k)(G:A3 X (e::es) n gl)(z:j<=k:=by decide)(c:qN sc x=cI:=by decide +kernel)
 (B:i0 (e::es) X.env=(dV,hX e X.env)::i0 es X.env:=by rfl) (I:(ov pos<|starEach es X.env).any (·.1)=dV:=by rfl):PO X (.Call (.Name x p) (e::es) [] pos) (kU F gl):=uB H z h c G B I
end
def xR(i:Int):Str:=FD<|toString i
noncomputable def yp(f:CO D):CO D:=λa=>((f a).bind o4).bind λi=>if inR i=cI then aI (.str<|xR i)else cS
noncomputable def Jw(f g:CO D):CO D:=λa=>(f a).bind λd=>(g a).bind λe=>match d,e with
 | .str x,.str y=>aI (.bl<|Lx x y)
 | _,_=>cS
noncomputable def Bu(d:D):Option Str:=match d with
 | .int i=>if inR i=cI then aI (xR i)else cS
 | .str x=>if zy x=cI then aI x else cS
 | _=>cS
def lz(f:CO D):CO D:=λa=>((f a).bind Bu).map .str
noncomputable def Am(d:D):Option Str:=match d with
 | .str x=>if zy x=cI then aI x else cS
 | _=>cS
noncomputable def Vi(fs:List (CO D))(out:Str):CO D:=λa=>match fs with
 | []=>aI (.str out)
 | f::r=>((f a).bind Am).bind λx=>Vi r (out++x) a
noncomputable def Xf(fs:List (CO D)):CO D:=λa=>if fs.length<=10 then Vi fs EU a else cS
noncomputable def aJ(k1 k2:Str)(G H f:CO D):CO D:=λa=>(G a).bind λx=>(H a).bind λy=>(f a).bind λd=>match d with
 | .str z=>if k1=k2 then cS else if z=k1 then aI x else if z=k2 then aI y else cS
 | _=>cS
noncomputable def Xr(n:Nat)(lo hi st:Option Int):List Nat:=sliceRange (D7 lo hi st n).1 (D7 lo hi st n).2.1 (D7 lo hi st n).2.2
noncomputable def kf{G:Type}(xs:List G)(lo hi st:Option Int):List G:=(Xr xs.length lo hi st).filterMap λi=>xs[i]?
noncomputable def Xd(f:CO (Sk×List D))(l h s:CO (Option Int)):CO (List D):=λb=>(f b).bind λa=>(l b).bind λlo=>(h b).bind λd=>(s b).bind λst=>match a.1 with
 | .L=>if st=aI 0 then cS else if (kf a.2 lo d st).length<=lim then aI (kf a.2 lo d st)else cS
 | .T=>cS
noncomputable def x9(f g:CO D):CO (List D):=λa=>(f a).bind λd=>(g a).bind λe=>match d,e with
 | .str x,.str y=>if x.length<=20000/\(y.length==0)=dV then aI ((Fk x y).map D.str)else cS
 | _,_=>cS
noncomputable def xT(f:CO D):CO D:=λa=>(f a).bind λd=>match d with
 | .str x=>if x.length<=640 then (Ia x).map D.int else cS
 | _=>cS
noncomputable def Yl(f g:CO D):CO D:=λa=>(f a).bind λd=>(g a).bind λe=>match d,e with
 | .str x,.str y=>aI (.bl<|!(FZ y x 0 y.length 1).isEmpty)
 | _,_=>cS
end DL
namespace L2
open PySem PySem.Spec PyProof.Rows
theorem VZ{X:Cx}:Nf X "str.startswith" (λx G H Q=>∃z y,x = .str z/\G=[.str y]/\Q (.bl (Lx z y)) H):=by intro a s d H x G v b Q I rx B h;obtain⟨z,y,rfl,rfl,q⟩:=h;obtain⟨t,rfl⟩:=rx;obtain⟨u,rfl,O,rfl⟩:=kO B;exact PySem.SC.startswith ⟨.bl _,H,I,rfl,q⟩
theorem ZY : ∀l:List (Str×rk),i4 ((l.map (·.1)).map V.str) (strValues l)
 | []=> .nil
 | (z,t)::l=> .cons ⟨t,rfl⟩ (ZY l)
theorem bF{X:Cx}:Nf X "str.split" (λx G H Q=>∃z y,x = .str z/\G=[.str y]/\(y.length==0)=dV/\z.length<=20000/\∀l,H l=cS->Q (.ref l) (upd H l (.lst ((Fk z y).map V.str)))):=by
 intro a s g H x G v j Q I rx W h;obtain⟨z,y,rfl,rfl,R,Y,q⟩:=h;obtain⟨t,rfl⟩:=rx;obtain⟨u,rfl,B,rfl⟩:=kO W;have big:30000<=j3:=by decide
 have O : ∀(l:List (Str×rk)) (k:Nat),l.map (·.1)=Fk z y->l.length<=j3->EP X a g Q (.ref s.heap.objs.size) {s with heap:=s.heap.push {cls:= .type "list",data:= .seq (strValues l).toArray},toks:=k}:=λl k e f=>by have U:=ZY l;rw[e]at U;exact⟨.ref s.heap.objs.size,_,I.Pz U (by rw[<- e];simpa using f),rfl,q _ (I.h8.fresh (EF _))⟩
 cases c1:(decide (z.length<y.length) || decide (Builtin.Str.strKind z<Builtin.Str.strKind y))with
 | true=>
  have b:Fk z y=[z]:=MY c1;refine Hm Mx (Lm _ _ _) Mt (Mk _ _) (meets_str_split_cannot_occur z y t B c1) ?_;exact O [(z,t)] s.toks (by rw[b];rfl) (by simp;omega)
 | false=>
  cases c2:(FZ z y 0 z.length<|z.length+1).isEmpty with
  | true=>
   have b:Fk z y=[z]:=(RQ<|by rw[c1];simp).trans (MY c2);refine Hm Mx (Lm _ _ _) Mt (Mk _ _) (meets_str_split_not_found z y t B c1 R c2) ?_;exact O [(z,t)] s.toks (by rw[b];rfl) (by simp;omega)
  | false=>
   have b:Fk z y=ID z (FZ z y 0 z.length<|z.length+1) y.length:=(RQ<|by rw[c1];simp).trans (RQ<|by rw[c2];simp);have d:(ID z (FZ z y 0 z.length<|z.length+1) y.length).length<=j3:=by have i:=StrLaws.occ_length_le z y 0 z.length<|z.length+1;rw[length_partsBetween];omega
   refine Hm Mx (Lm _ _ _) Mt (Mk _ _) (meets_str_split_sep z y t B c1 R c2 ⋯ d) ?_;rw[strsFrom_eq];exact O (numbered s.toks _) _ ((numbered_texts _ _).trans b.symm) (by
    have:=congrArg IJ<|numbered_texts s.toks<|ID z (FZ z y 0 z.length<|z.length+1) y.length;rw[EE]at this;rw[this];exact d)
end L2
namespace DL
open PySem PySem.Spec PyProof.Rows L2
theorem Qv{i:Int}(h:inR i=cI):i.natAbs.log2<1920:=by
 unfold inR at h;have h:=of_decide_eq_true h;by_cases z:i.natAbs=0
 ·rw[z];decide
 ·refine(Nat.log2_lt z).mpr (EJ h ?_)
  exact Nat.pow_le_pow_right ⋯ ⋯
section
variable{X:Cx}{sc:i2}{N L:List Str}{k:Nat}{a b e o:hH}{f g:CO D}{p pos:ik}
theorem vG(h:SX X sc N L k)(c:qN sc "str" = cI)(z:X.mg "str" = cS)(I:PV X e f)(hs:i0 [e] X.env=[(dV,hX e X.env)]:=by rfl):PV X (.Call (.Name "str" p) [e] [] pos) (yp f):=
 jw (yZ QN (h.gl c).1 z PyProof.Rows.boot_str (jk I j9 hs) ⋯ ⋯ hs rfl) λn H Q O=>by
  obtain⟨l,m,d,rc,B,q⟩:=O;obtain⟨i,b,B⟩:=zc B;obtain⟨R,U,b⟩:=zc b;by_cases g:inR i=cI
  ·rw[MY g]at B;cases B
   refine⟨l,m,R,rc,U,λv j a x r=>?_⟩;rw[j7 b]at r;exact⟨i,by rw[jP r],Qv g,q _ j a x rfl⟩
  ·rw[RQ g]at B;cases B
theorem Qo{G cpos:ik}(I:PV X o f)(O:PV X e g)(R:G9 o "startswith" X.env (hX o X.env)=hX o X.env:=by rfl)
 (U:((ov cpos<|starEach [e] X.env).all (λx=> !x.1) && (Nq cpos<|keywordEach [] X.env).all (λx=>x.1.isSome) && decide ([e].length+([]:List Dm).length+(if ([]:List Dm).isEmpty then 0 else 1)<30))=cI:=by rfl)
 (W:(G.endLine==cpos.line)=cI:=by rfl) (hs:i0 [e] X.env=[(dV,hX e X.env)]:=by rfl):PV X (.Call (.Attribute o "startswith" G) [e] [] cpos) (Jw f g):=
 jw (VP Le PySem.F.slot_str_startswith PySem.F.type_str_startswith VZ I (jk O j9 hs) R U W hs rfl) λA H Q Y=>by
  obtain⟨h,b,d,rc,B,q⟩:=Y;obtain⟨l,n,B⟩:=zc B;obtain⟨m,p,B⟩:=zc B;cases l with
  | str z=>
   cases m with
   | str y=>
    cases B;refine⟨h,b,_,rc,n,λv w a x r=>?_⟩;rw[show v = .str z from r];refine⟨rfl,a,b,_,rc.ext x,p,λt i j u s=>?_⟩;rw[show t = .str y from s];exact⟨z,y,rfl,rfl,q _ i j (x.trans u) rfl⟩
   | _=>cases B
  | _=>cases B
theorem nv{j:Int}(Y:j = -1)(G:PV X a f):PV X (.FormattedValue a j cS pos) (lz f):=by
 subst Y;intro n s M H Q I O;obtain⟨w,L,d,rc,E,q⟩:=O;obtain⟨y,g,rfl⟩:=zA E;obtain⟨R,A,g⟩:=zc g;refine LZ<|ij (G n s M H (λv u=>∃h,Ext w H h u/\Rep X.K h R v) I ⟨w,L,R,rc,A,λv u h x r=>⟨h,x,r⟩⟩) λv F O=>?_;obtain⟨x,p,U,B,m,x1,W⟩:=O;cases R with
 | int i=>
  have g:(if inR i=cI then aI (xR i)else cS)=aI y:=g;by_cases l:inR i=cI
  ·rw[MY l]at g;cases g
   rw[show x = .int i from W]at B;obtain⟨t,rfl⟩:=B;exact LG (Qv l) ⟨.str _,p,(U.tok _).tok _,⟨_,rfl⟩,q _ p m x1 rfl⟩
  ·rw[RQ l]at g;cases g
 | str z=>
  have g:(if zy z=cI then aI z else cS)=aI y:=g;by_cases l:zy z=cI
  ·rw[MY l]at g;cases g
   have C:x = .str _:=W;rw[C]at B;obtain⟨t,rfl⟩:=B;exact formatField_str (λt' J=>⟨.str _,p,(U.kept (h':=F.heap) (t':=J) λb o e=>e),⟨_,rfl⟩,q _ p m x1 rfl⟩)<|yd l
  ·rw[RQ l]at g;cases g
 | _=>cases g
theorem iY(x y:Str):(x++y).length=x.length+y.length:=by
 show(x++y).cps.size=x.cps.size+y.cps.size;have:=congrArg IJ (show(x++y).cps.toList=x.cps.toList++y.cps.toList from by
  show(x.cps++y.cps).toList=_;simp)
 simpa using this
noncomputable def PJ(X:Cx)(G:List hH)(fs:List (CO D)):Prop:=∀(out:Str) (m:Nat) a s e H Q,out.length<=1000*m->m+fs.length<=10->Inv X a e H s->(∃g h d,RC X.K g H e h/\Vi fs out h=aI d/\∀v f b,Ext g H b f->Rep X.K b d v->Q v f)->
 wpAny (hA X.prog X.w) X.A (joinParts out<|evalEach G X.env) (EP X a e Q) X.xe s
theorem nE:PJ X [] []:=λout m a s g H Q z e I B=>by obtain⟨b,f,d,rc,O,q⟩:=B;cases O;exact joinParts_nilE<|joinParts_nil ⟨.str out,H,I.tok _,⟨_,rfl⟩,q _ H b (Ext.refl rc.sub) rfl⟩<|EX z<|EX (Nat.mul_le_mul_left 1000<|show m<=10 by simp at e;omega) ⋯
theorem VF{G:List hH}{fs:List (CO D)}(J:PV X e f)(Z:PJ X G fs):PJ X (e::G) (f::fs):=λout m g s o H Q S C I O=>by
 obtain⟨n,i,d,rc,B,q⟩:=O;have B:((f i).bind Am).bind (λx=>Vi fs (out++x) i)=aI d:=B;obtain⟨y,b,B⟩:=zc B;obtain⟨R,Y,b⟩:=zc b;have A:R = .str y/\zy y=cI:=by
  cases R with
  | str z=>
   have b:(if zy z=cI then aI z else cS)=aI y:=b;by_cases l:zy z=cI
   ·rw[MY l]at b;cases b;exact⟨rfl,l⟩
   ·rw[RQ l]at b;cases b
  | _=>cases b
 obtain⟨rfl,E⟩:=A;have P:=ye E;have w:m+1+fs.length<=10:=by simp at C;omega
 have U:(out++y).length<=1000*(m+1):=by rw[iY];omega
 refine joinParts_consE<|HP<|ij (J g s o H (λv h=>∃a,Ext n H a h/\Rep X.K a (.str y) v) I ⟨n,i,_,rc,Y,λv h a x r=>⟨a,x,r⟩⟩) λv M O=>?_;obtain⟨x,p,u,W,j,x1,L⟩:=O;rw[show x = .str y from L]at W;obtain⟨t,rfl⟩:=W;exact⟨EX U<|EX (Nat.mul_le_mul_left 1000<|show m+1<=10 by omega) ⋯,Z (out++y) (m+1) g M o p Q U w u ⟨j,i,d,rc.ext x1,B,λv h a N F=>q v h a (x1.trans N) F⟩⟩
theorem gu{G J:hH}{O:List hH}{fs:List (CO D)}(h:PJ X (G::J::O) fs):PV X (.JoinedStr (G::J::O) pos) (Xf fs):=by
 intro a s g H Q I B;obtain⟨e,f,d,rc,z,q⟩:=B;unfold Xf at z;by_cases b:fs.length<=10
 ·rw[MY b]at z
  exact JoinedStr_many<|h EU 0 a s g H Q (EF _) ⋯ I ⟨e,f,d,rc,z,q⟩
 ·rw[RQ b]at z;cases z
theorem yh{G cpos:ik}(O:PV X o f)(R:PV X e g)(U:G9 o "split" X.env (hX o X.env)=hX o X.env:=by rfl)
 (W:((ov cpos<|starEach [e] X.env).all (λx=> !x.1) && (Nq cpos<|keywordEach [] X.env).all (λx=>x.1.isSome) && decide ([e].length+([]:List Dm).length+(if ([]:List Dm).isEmpty then 0 else 1)<30))=cI:=by rfl)
 (Y:(G.endLine==cpos.line)=cI:=by rfl) (hs:i0 [e] X.env=[(dV,hX e X.env)]:=by rfl):PO X (.Call (.Attribute o "split" G) [e] [] cpos) (x9 f g):=
 jw (VP Le PySem.F.slot_str_split PySem.F.type_str_split bF O (jk R j9 hs) U W Y hs rfl) λJ H Q u=>by
  obtain⟨i,h,p,rc,B,q⟩:=u;obtain⟨m,s,B⟩:=zc B;obtain⟨n,t,B⟩:=zc B;cases m with
  | str z=>
   cases n with
   | str y=>
    have B:(if z.length<=20000/\(y.length==0)=dV then aI ((Fk z y).map D.str)else cS)=aI p:=B;by_cases a:z.length<=20000/\(y.length==0)=dV
    ·rw[MY a]at B;cases B
     refine⟨i,h,_,rc,s,λv C b x r=>?_⟩;rw[show v = .str z from r];refine⟨rfl,b,h,_,rc.ext x,t,λA E j I w=>?_⟩;rw[show A = .str y from w];refine⟨z,y,rfl,rfl,a.2,a.1,λl d=>?_⟩;exact q l _ _ j ((x.trans I).trans (Ext.hide I.sub d _)) (oB (x.trans I).s1 d) (js I.sub d) zt<|kW _
    ·rw[RQ a]at B;cases B
   | _=>cases B
  | _=>cases B
theorem WJ{X:Cx}:wA X (.type "int") (λxs H Q=>∃z n,xs=[.str z]/\Ia z=aI n/\z.length<=640/\Q (.int n) H):=by intro a s e H xs d Q I r h;obtain⟨z,n,rfl,b,B,q⟩:=h;obtain⟨u,rfl,t,rfl⟩:=kO r;exact PySem.W.KIN.call_text b B ⟨.int n,H,I.tok _,⟨_,rfl⟩,q⟩
theorem kA(h:SX X sc N L k)(c:qN sc "int" = cI)(z:X.mg "int" = cS)(O:PV X e f)(hs:i0 [e] X.env=[(dV,hX e X.env)]:=by rfl):PV X (.Call (.Name "int" p) [e] [] pos) (xT f):=
 jw (yZ WJ (h.gl c).1 z IT (jk O j9 hs) ⋯ ⋯ hs rfl) λo H Q R=>by
  obtain⟨i,m,d,rc,B,q⟩:=R;obtain⟨I,j,B⟩:=zc B;refine⟨i,m,I,rc,j,λv g a ext r=>?_⟩;cases I with
  | str w=>
   have B:(if w.length<=640 then (Ia w).map D.int else cS)=aI d:=B;by_cases b:w.length<=640
   ·rw[MY b]at B
    obtain⟨n,l,rfl⟩:=zA B;exact⟨w,n,by rw[show v = .str w from r],l,b,q _ g a ext rfl⟩
   ·rw[RQ b]at B;cases B
  | _=>cases B
theorem Vq(G:PV X a f)(I:PV X b g)(J:Ds .In b=dV:=by with_unfolding_all rfl):PV X (.Compare a [.In] [b] pos) (Yl f g):=
 jw (JE VR G I J) λs H Q O=>by
  obtain⟨i,h,d,rc,B,q⟩:=O;obtain⟨R,l,B⟩:=zc B;obtain⟨U,m,B⟩:=zc B;cases R with
  | str z=>
   cases U with
   | str y=>
    cases B;exact⟨i,h,_,rc,l,λv o e x r=>⟨e,h,_,rc.ext x,m,λp j W Y n=>⟨z,y,r,n,q _ j W (x.trans Y) rfl⟩⟩⟩
   | _=>cases B
  | _=>cases B
end
theorem Q5{xs:List V}{G:List gv}(h:i4 xs G) : ∀l:List Nat,i4 (l.filterMap λi=>xs[i]?) (l.filterMap λi=>G[i]?)
 | []=> .nil
 | i::l=>by
  by_cases a:i<xs.length
  ·obtain⟨u,e,r⟩:=h.get (Ey a)
   rw[Gy (Ey a),Gy e];exact .cons r<|Q5 h l
  ·have z : ¬i<G.length:=by rw[<- h.length];exact a
   rw[GX (GR ⋯),GX (GR ⋯)];exact Q5 h l
theorem Xh{K:Es}{H:Hp}{G:List D}{xs:List V}(h:hF K H G xs) : ∀l:List Nat,hF K H (l.filterMap λi=>G[i]?) (l.filterMap λi=>xs[i]?)
 | []=>hF.nil
 | i::l=>by
  by_cases a:i<G.length
  ·obtain⟨u,e,r⟩:=h.get (Ey a)
   rw[Gy (Ey a),Gy e];exact hF.cons r<|Xh h l
  ·have z : ¬i<xs.length:=by rw[h.length];exact a
   rw[GX (GR ⋯),GX (GR ⋯)];exact Xh h l
noncomputable def Cg(K:Es)(G:TE)(L J B:TO):TE:=λb H Q=>G b H λx e=>L b e λl f=>J b f λu I=>B b I λk z=>k≠aI 0/\∃a d,x = .ref a/\kv K z a d/\(kf d l u k).length<=j3/\∀p,z p=cS->Q (.ref p) (upd z p<|.lst<|kf d l u k)
section
variable{X:Cx}{a e:hH}{p2 pos:ik}
theorem VL{lo hi:Option hH}{st:hH}{G:TE}{L J R:TO}(W:PE X e G)(hl:L2.PO X lo L)(Y:L2.PO X hi J)(Z:L2.PO X (aI st) R):PE X (.Subscript e (.Slice lo hi (aI st) p2) pos) (Cg X.K G L J R):=by
 intro a s d H Q I h;refine Pb (ij (W a s d H _ I h) λv s1 A=>?_);obtain⟨x,g,n,r1,q1⟩:=A;refine wpAny_Slice (ij (hl a s1 d g _ n q1) λvl s2 ⟨l,i,o,P,q2⟩=>ij (Y a s2 d i _ o q2) λvu s3 ⟨u,j,p,S,q3⟩=>ij (Z a s3 d j _ p q3) λvk z ⟨f,m,t,N,q4⟩=>?_);obtain⟨M,b,xs,rfl,F,w,q⟩:=q4;cases r1;have B:Inv X a d m {z with heap:=z.heap.push {cls:= .type "slice",data:= .fields #[vl,vu,vk]}}:=t.kept (t':=z.toks) λb ob q=>Ew _ q;obtain⟨O,r,U,bl⟩:=B.list F;have C:=r.length;refine tail_any (ops:=[.ref b,.ref z.heap.objs.size]) (T:="list") U.isList.typeIs Mv.lookup ?_ (by with_unfolding_all rfl);refine SS U.isList (Heap.IsSliceOf.new ..) P S N M ?_ (by rw[EM];omega);have y:PR O.toArray l u f=(kf O l u f).toArray:=by unfold PR kf Xr;simp
 rw[y];have E:i4 (kf xs l u f) (kf O l u f):=by unfold kf;rw[C];exact Q5 r _
 exact⟨.ref _,_,B.Pz (t':=z.toks) E w,rfl,q _<|B.h8.fresh<|EF _⟩
theorem Qq{lo hi:Option hH}{st:hH}{G:CO (Sk×List D)}{O R fs:CO (Option Int)}(J:PQ X a G)(hl:L2.PO X lo (tB X.K O))(Z:L2.PO X hi (tB X.K R))(hk:L2.PO X (aI st) (tB X.K fs)):PO X (.Subscript a (.Slice lo hi (aI st) p2) pos) (Xd G O R fs):=
 jw (VL J hl Z hk) λσ H Q C=>by
  obtain⟨m,e,p,rc,z,q⟩:=C;obtain⟨⟨E,d⟩,s,z⟩:=zc z;obtain⟨l,t,z⟩:=zc z;obtain⟨u,w,z⟩:=zc z;obtain⟨c,y,z⟩:=zc z;cases E with
  | T=>cases z
  | L=>
   have z:(if c=aI 0 then cS else if (kf d l u c).length<=lim then aI (kf d l u c)else cS)=aI p:=z;by_cases g:c=aI 0
   ·rw[MY g]at z;cases z
   rw[RQ g]at z;by_cases h:(kf d l u c).length<=lim
   ·rw[MY h]at z;cases z
    refine⟨m,e,.L,d,rc,s,λb j N f x A h2 r=>⟨f,e,l,rc.ext x,t,λP n B=>⟨n,e,u,(rc.ext x).ext B,w,λS o x3=>⟨o,e,c,((rc.ext x).ext B).ext x3,y,λH4 U I=>?_⟩⟩⟩⟩;have W:=x.trans<|B.trans<|x3.trans I;have Y:hF X.K U (kf d l u c) (kf j l u c):=by have M:=r.mono (B.trans<|x3.trans I).s0;unfold kf;rw[r.length];exact Xh M _
    refine⟨g,b,j,rfl,(B.trans<|x3.trans I).s1.seq A,EX (by rw[Y.length];exact h) ⋯,λF i=>?_⟩;exact q F _ _ U (W.trans<|Ext.hide I.sub i _) (kY W.s1 i) (js I.sub i) zt Y
   ·rw[RQ h]at z;cases z
end
theorem Bp{K:Es}{H:MJ}{h:h7}{x z:Str}{t:rk}(B:K.In h)(G:h.Ns o5 H)(a:GN K o5 x=aI (aI (.str z t))):GL K H x (.str z):=
 ⟨_,.str z,Hj B G a,⟨t,rfl⟩,λ_=>(show V.str z = .str z from rfl)⟩
section
variable{X:Cx}{sc:i2}{N L:List Str}{k:Nat}{a b e:hH}{fa fb f:CO D}
theorem gw{k1 k2:Str}{j1 j2:Nat}{p1 p2 G pos:ik}(h:SX X sc N L k)(ha:PV X a fa)(hb:PV X b fb)(he:PV X e f)(hs:sR e:=by intro _ _;rfl) :
 PV X (.Subscript (.Dict [aI (.Constant (.str k1) j1 p1),aI (.Constant (.str k2) j2 p2)] [a,b] G) e pos) (aJ k1 k2 fa fb f):=
 jw (VN (by have:=h.M5;omega) (VM (wK Zn ha<|wK Zn hb VA) rfl rfl ⋯ ⋯) he hs) λσ H Q Z=>by
  obtain⟨u,t,d,rc,B,q⟩:=Z;obtain⟨C,M,B⟩:=zc B;obtain⟨E,P,B⟩:=zc B;obtain⟨K,S,B⟩:=zc B;cases K with
  | str z=>
   have B:(if k1=k2 then cS else if z=k1 then aI C else if z=k2 then aI E else cS)=aI d:=B;by_cases i:k1=k2
   ·rw[MY i]at B;cases B
   rw[RQ i]at B;intro p r;have s:=Ext.hide rc.sub r<|.dK [];refine⟨u,t,C,rc.ext s,M,λI H1 j x1 r1=>⟨j,t,E,(rc.ext s).ext x1,P,λO x Y U r2=>?_⟩⟩;have W:=s.trans<|x1.trans U;have T:x p=aI (.dK []):=(x1.trans U).s1 _ _ zt;have as:Y p=cS:=(x1.trans U).new p (js rc.sub r) (by rw[zt];simp);refine⟨T,[(Gf k1,I),(Gf k2,O)],rfl,by simp,?_⟩;have x3:Ext u H Y (upd x p<|.dK<|kL [] [((Gf k1:Key),I),(Gf k2,O)]):=⟨W.s0,λc o g=>by rw[zu (λw=>by rw[w,r]at g;cases g)];exact W.s1 c o g,λc o g=>by rw[zu (λw=>by rw[w,as]at g;cases g)];exact W.sub c o g,W.new⟩;refine⟨Y,t,_,rc.ext x3,S,λy l A R F=>?_⟩;have J:l p=aI (.dK<|kL [] [((Gf k1:Key),I),(Gf k2,O)]):=R.s1 _ _ zt;have g:=F9.k (k:=Gf z) J;by_cases m:z=k1
   ·rw[MY m]at B;cases B
    rw[JR i (v:=I) (.inl ⟨m,rfl⟩)]at g;exact⟨p,I,rfl,by rw[show y = .str z from F];exact g,q _ l A (x3.trans R)<|(r1.mono U.s0).mono R.s0⟩
   ·rw[RQ m]at B
    by_cases n:z=k2
    ·rw[MY n]at B;cases B
     rw[JR i (v:=O) (.inr ⟨n,rfl⟩)]at g;exact⟨p,O,rfl,by rw[show y = .str z from F];exact g,q _ l A (x3.trans R)<|r2.mono R.s0⟩
    ·rw[RQ n]at B;cases B
  | _=>cases B
end
noncomputable def vF(lo:Int)(n:Nat):List D:=(Ez n).map λ(i:Nat)=>D.int<|lo+(i:Int)*2
noncomputable def Xe(f g e:CO D):CO (List D):=λa=>((f a).bind o4).bind λm=>((g a).bind o4).bind λn=>((e a).bind o4).bind λc=>if (inR m=cI/\inR n=cI)/\c=2 then aI (vF m ((n - m+1)/2).toNat)else cS
noncomputable def fU(g:CO (Sk×List D))(G:CO D):CO D:=λb=>(g b).bind λa=>(G b).bind λx=>match a.1 with
 | .L=>if (l8 x=cI/\m3 a.2=cI)/\a.2.length<=lim then (a.2.findIdx? λd=>lA d x).map λ(j:Nat)=>D.int (j:Int)else cS
 | .T=>cS
noncomputable def wC(G:CO D)(g:CO (Sk×List D)):CO D:=λb=>(G b).bind λx=>(g b).bind λa=>match a.1 with
 | .T=>if l8 x=cI/\m3 a.2=cI then aI (.bl<|!a.2.any λd=>lA d x)else cS
 | .L=>cS
end DL
namespace L2
open PySem PySem.Spec PyProof.Rows
noncomputable def Od(lo:Int)(n:Nat):It:=⟨λi _=>i<n,λi H x a=>a=H/\x = .int (lo+i*2),λi _=>n<=i⟩
theorem aA{P:i8}{w:i5}{K:Es}{tg:hH}(it:eI)(lo:Int)(n:Nat):Turn P w K tg (Od lo n) [it] it (λi h=>O5 h it (lo+(i:Nat)*2) ((n:Int) - (i:Nat)) 2) where
 mem:=by simp
 obj:=λi h st b B=>by
  have e:b=it:=by simpa using B
  subst e;exact⟨_,st,λv z=>by have z':Data.fields _=Data.cell v:=z;cases z'⟩
 keep:=λi h h' st k=>k it ⋯ _ st
 item:=by intro X O hw R hc i pins s σ H E I hf st U;subst O hw R;obtain⟨W,Y,f2,f3,f4,f5⟩:=hf it ⋯;refine(Walks.range (prog:=X.prog) (w:=X.w) (I.ok.hd hc) it lo 2 n).item i s _ _ U st λv h' tk hv a4 kk=>?_;obtain⟨t,rfl⟩:=hv;have I1:Inv X pins σ H {s with heap:=h',toks:=tk}:=I.turned (λb o B e=>kk b o (by simpa using B) e) W Y f3 f4 f5;exact⟨_,rfl,Wj (s:={s with heap:=h',toks:=tk}) (n:="range_iterator") a4 rfl rfl ⋯ ⟨.int (lo+i*2),H,I1,⟨t,rfl⟩,⟨rfl,rfl⟩,a4,λb B=>(hf b B).1⟩⟩
 done:=by intro X O hw R hc i pins s σ H E I hf st U;subst O hw R;obtain⟨W,Y,f2,f3,f4,f5⟩:=hf it ⋯;exact S3 (I.ok.hd hc) st (by have:n<=i:=U;omega) λh' eb=>⟨rfl,I.turned (t':=s.toks) (λb o B e=>eb b o B e) W Y f3 f4 f5⟩
 self:=λ_ _ _ _ _ st h=>S1 st h
section
variable{X:Cx}{tg:hH}
theorem Kf(a b:Int):Hz a b 2=if a<b then (b - a+1)/2 else 0:=by unfold Hz;rw[MY ⋯];split<;>omega
theorem Vd{a b:Int}(G : -(2 ^ 62)<=a)(z:a<2 ^ 62)(B : -(2 ^ 62)<=b)(I:b<2 ^ 62):Builtin.Range.small a b 2=cI:=by unfold Builtin.Range.small;rw[Kf];simp only[Builtin.Range.rangeFitsLong,Ex,Fq,decide_eq_true_eq,beq_iff_eq,show((2:Int)>0)by decide,if_true];split<;>omega
theorem ma{G:MW}{L:St}{H:Hp}{s:gE}{R:It->Hp->Prop}{E:MQ}{lo hi:Int}{t u v:rk}{J:Nat}(I:Inv X G L H s)(W : -(2 ^ 62)<=lo)(Y:lo<2 ^ 62)(O : -(2 ^ 62)<=hi)(U:hi<2 ^ 62)
 (q:R (Od lo ((hi - lo+1)/2).toNat) H):wpAny (hA X.prog X.w) X.A (M3 (.ref s.heap.objs.size)) (O8 X G L tg R) E {s with heap:=s.heap.push {cls:= .type "range",data:= .fields #[.int lo t,.int hi u,.int 2 v]},toks:=J}:=by
 refine S0 (IsRange.new ..) (Vd W Y O U) ?_;have z:Inv X G L H {s with heap:=s.heap.push {cls:= .type "range",data:= .fields #[.int lo t,.int hi u,.int 2 v]},toks:=J}:=I.kept λb o e=>Ew _ e;refine⟨_,[_],_,_,H,rfl,z.kept (t':=J) λb o e=>Ew _ e,aA _ lo ((hi - lo+1)/2).toNat,?_,λb B=>?_,q⟩
 ·have a:lo+((0:Nat):Int)*2=lo:=by simp
  have d:((((hi - lo+1)/2).toNat:Nat):Int) - ((0:Nat):Int)=Hz lo hi 2:=by rw[Kf];split<;>omega
  show O5 _ _ (lo+((0:Nat):Int)*2) (((((hi - lo+1)/2).toNat:Nat):Int) - ((0:Nat):Int)) 2;rw[a,d];exact ET _ rfl
 ·rw[Fh]at B
  subst B;exact z.MR (EF _)<|z.h8.fresh<|EF _
noncomputable def uQ(G:TA):TI:=λd H R=>G d H λb a=>∃i j:Int,b=[.int i,.int j,.int 2]/\(-(2 ^ 62)<=i/\i<2 ^ 62/\ -(2 ^ 62)<=j/\j<2 ^ 62)/\R (Od i ((j - i+1)/2).toNat) a
theorem VG{a b c:hH}{G:TA}{p pos:ik}(O:Gl X "range")(L:X.mg "range" = cS)(J:PA X [a,b,c] G)(hs:i0 [a,b,c] X.env=(dV,hX a X.env)::i0 [b,c] X.env)(U:i0 [b,c] X.env=[(dV,hX b X.env),(dV,hX c X.env)]) :
 PI X tg (.Call (.Name "range" p) [a,b,c] [] pos) (uQ G):=by
 intro d s u H R I h;refine Call_ (xO I O L boot_range<|Gz (ij (J pos d s u H _ I h) λC x W=>?_) hs<|by rw[U];rfl);obtain⟨E,w,Y,n,B⟩:=W;obtain⟨i,j,e,⟨B,f,g,l⟩,q⟩:=B;subst e;cases n with
 | cons r z=>
  cases z with
  | cons m z=>
   cases z with
   | cons o z=>
    cases z;obtain⟨t,rfl⟩:=r;obtain⟨y,rfl⟩:=m;obtain⟨A,rfl⟩:=o;exact call_range_3 ⋯ (ma Y B f g l q)<|.inl<|PyProof.noPylong_small ⋯
end
end L2
namespace DL
open PySem PySem.Spec PyProof.Rows L2
theorem av{K:Es}{H0 G:Hp}(lo:Int)(n:Nat):Walk K H0 G (Od lo n) (vF lo n):=by
 have z:(vF lo n).length=n:=by simp[vF]
 refine⟨λi b s a=>?_,λb s=>?_,λi b x e s a y=>?_⟩
 ·rw[z]at a;exact a
 ·rw[z];exact EF _
 ·rw[z]at a
  obtain⟨f,g⟩:=y;subst f g;exact⟨.int<|lo+i*2,by simp[vF,a],λd j h=>⟨d,Ext.refl h,(show V.int (lo+i*2) = .int (lo+i*2)from rfl)⟩⟩
section
variable{X:Cx}{sc:i2}{N L:List Str}{k:Nat}{e a b c:hH}{pos p p2:ik}{f g j:CO D}
theorem bf{tg:hH}(h:SX X sc N L k)(z0:qN sc "range" = cI)(z:X.mg "range" = cS)(Z:PV X a f)(hb:PV X b g)(hc:PV X c j)(hs:i0 [a,b,c] X.env=(dV,hX a X.env)::i0 [b,c] X.env:=by rfl)(U:i0 [b,c] X.env=[(dV,hX b X.env),(dV,hX c X.env)]:=by rfl)(W:i0 [c] X.env=[(dV,hX c X.env)]:=by rfl) :
 o8 X tg (.Call (.Name "range" p) [a,b,c] [] pos) (Xe f g j):=
 Xs (VG (h.gl z0).1 z (jk Z (jk hb (jk hc j9 W)<|by rw[U,W]) hs) hs U) λσ H R S=>by
  obtain⟨w,o,ds,rc,B,q⟩:=S;obtain⟨m,l,B⟩:=zc B;obtain⟨d,F,l⟩:=zc l;obtain⟨n,I,B⟩:=zc B;obtain⟨c,G,I⟩:=zc I;obtain⟨s,O,B⟩:=zc B;obtain⟨E,J,O⟩:=zc O;by_cases e:(inR m=cI/\inR n=cI)/\s=2
  ·rw[MY e]at B;cases B
   refine⟨w,o,d,rc,F,λv H' i x r=>⟨i,o,c,rc.ext x,G,λT H2 A Y t=>⟨A,o,E,(rc.ext x).ext Y,J,λv3 y C x3 u=>?_⟩⟩⟩;rw[j7 l]at r;rw[j7 I]at t;rw[j7 O,e.2]at u;obtain⟨K,M⟩:=JM e.1.1;obtain⟨P,Q⟩:=JM e.1.2;exact⟨m,n,by rw[show v = .int m from r,show T = .int n from t,show v3 = .int 2 from u],⟨K,M,P,Q⟩,q _ y C ((x.trans Y).trans x3)<|av m _⟩
  ·rw[RQ e]at B;cases B
end
noncomputable def um(K:Es):V->List V->Hp->VK->Prop:=λx g H Q=>∃b e v p f a j,jn b H/\x = .ref p/\g=[v]/\Rep K b e v/\kv K H p f/\hF K b a f/\l8 e=cI/\m3 a=cI/\a.length<=lim/\a.findIdx? (λd=>lA d e)=aI j/\Q (.int (j:Nat)) H
theorem QL{x:D}(hx:nt x=cI) : ∀G:List D,m3 G=cI->(oC G).findIdx? (λy=>GU y<|mu x)=G.findIdx? λd=>lA d x
 | [],_=>by simp[oC]
 | d::G,h=>by simp only[m3,Ex]at h;simp only[oC,List.findIdx?_cons];rw[NC d x h.1 hx,QL hx G h.2]
theorem iq{X:Cx}(hu:X.A.units+66<Dt):Nf X "list.index" (um X.K):=by
 intro o s σ H x vs v us Q I rx U h;obtain⟨H0,b,y,p,xs,d,j,sub,rfl,rfl,W,L,Y,z,O,ap,J,q⟩:=h;cases rx;obtain⟨Z,rfl,rw⟩:=kO U;obtain⟨as,S⟩:=F5 I sub (qa z) W rw;obtain⟨bs,T⟩:=Z2 I sub L Y O;have hs:=Ii<|xy z;have f:=MT d O;cases T with
 | list i E G R=>
  rename_i N B n ax
  obtain⟨oc,P,b0,g⟩:=N;subst E G;have e:B.toList.findIdx? (λy=>GU (PySem.SeqAt.readOf s.heap y)<|mu b)=aI j:=by rw[<- J,<- QL (qa z) d O,<- PySem.SeqAt.readsAll_map _ _ _ f R,List.findIdx?_map];rfl
  rw[List.findIdx?_eq_some_iff_getElem]at e;obtain⟨r,u,w⟩:=e;have b1:j<B.size:=by simpa using r
  have b2:B.size=d.length:=by
   have:=congrArg IJ<|PySem.SeqAt.readsAll_map _ _ _ f R;have t : ∀l:List D,(oC l).length=l.length:=λl=>by induction l with
    | nil=>simp[oC]
    | cons a l M=>simp[oC,M]
   simpa[t]using this
  have b3:(lim:Int)<2 ^ 62:=by unfold lim;decide
  refine Hm F.slot_list_index ⟨_,i,rfl⟩ F.entry_list_index (F.args_list_index_2 _ _) (PySem.SeqAt.list_indexAt p B n P g Z (λy=>GU (PySem.SeqAt.readOf s.heap y)<|mu b) j b1 ⋯ (by simpa using u)<|λm hm C=>by simpa using w m C) ⟨i,PySem.SeqAt.items_eqAt R S f (NL b<|qa z) ?_,?_⟩
  ·have:min (HL<|oC d) (mu b).depth<=(mu b).depth:=Lk _ _
   omega
  ·exact⟨.int _,H,I.tok _,⟨_,rfl⟩,q⟩
section
variable{X:Cx}{sc:i2}{N L:List Str}{k:Nat}{o e:hH}{apos cpos:ik}{fa:CO D}{g:CO (Sk×List D)}
theorem gr(h:SX X sc N L k)(O:PQ X o g)(R:PV X e fa)(U:G9 o "index" X.env (hX o X.env)=hX o X.env:=by rfl)
 (W:((ov cpos<|starEach [e] X.env).all (λx=> !x.1) && (Nq cpos<|keywordEach [] X.env).all (λx=>x.1.isSome) && decide ([e].length+([]:List Dm).length+(if ([]:List Dm).isEmpty then 0 else 1)<30))=cI:=by rfl)
 (Y:(apos.endLine==cpos.line)=cI:=by rfl) (hs:i0 [e] X.env=[(dV,hX e X.env)]:=by rfl):PV X (.Call (.Attribute o "index" apos) [e] [] cpos) (fU g fa):=
 jw (VP PySem.F.plainAttrs_list PySem.F.slot_list_index PySem.F.type_list_index (iq h.PY) O (jk R j9 hs) U W Y hs rfl) λK H Q y=>by
  obtain⟨n,m,d,rc,z,q⟩:=y;obtain⟨⟨A,a⟩,u,z⟩:=zc z;obtain⟨x,t,z⟩:=zc z;cases A with
  | T=>cases z
  | L=>
   have z:(if (l8 x=cI/\m3 a=cI)/\a.length<=lim then (a.findIdx? λd=>lA d x).map λ(j:Nat)=>D.int (j:Int)else cS)=aI d:=z;by_cases b:(l8 x=cI/\m3 a=cI)/\a.length<=lim
   ·rw[MY b]at z
    obtain⟨j,w,rfl⟩:=zA z;refine⟨n,m,.L,a,rc,u,λp l G f x1 i J r=>⟨.inl ⟨rfl,l,i⟩,f,m,x,rc.ext x1,t,λE s I B C=>?_⟩⟩;exact⟨I,x,E,p,l,a,j,B.sub,rfl,rfl,C,B.s1.seq i,r.mono B.s0,b.1.1,b.1.2,b.2,w,q _ s I (x1.trans B) rfl⟩
   ·rw[RQ b]at z;cases z
end
noncomputable def uj(K:Es):R2:=λx y H Q=>∃a e p f b,jn a H/\Rep K a e x/\y = .ref p/\l4 K H p f/\hF K a b f/\l8 e=cI/\m3 b=cI/\Q (.bl<|!b.any λd=>lA d e) H
theorem Yn{X:Cx}{G:MW}{Y:St}{H0 H:Hp}{s:gE}(I:Inv X G Y H s)(sub:jn H0 H){p:eI}{xs:List V}{J:List D}(L:l4 X.K H p xs)(r:hF X.K H0 J xs)(o:m3 J=cI) : ∃z,Reads s.heap (.ref p) (.tuple<|oC J) z:=by obtain⟨R,B,⟨U,O,a,n,b⟩,W⟩:=I.tuple L;obtain⟨z,d⟩:=NT I sub o r B;exact⟨_,.tuple O a b<|by simpa using d⟩
theorem gS{X:Cx}(Y:X.A.units+66<Dt):l9 X (rp .NotIn) (uj X.K):=by
 intro d s l H x y v u Q I rx O h;obtain⟨g,b,p,j,a,sub,R,rfl,e,U,z,B,q⟩:=h;cases O;obtain⟨as,f⟩:=F5 I sub (qa z) R rx;obtain⟨bs,W⟩:=Yn I sub e U B;have i:=Ii<|xy z;refine PySem.SeqAt.notIn_tuple_reads W f (MT a B) (NL b<|qa z) ?_ ⟨.bl _,H,I,rfl,?_⟩
 ·have:min (HL<|oC a) (mu b).depth<=(mu b).depth:=Lk _ _
  omega
 ·rw[JX (qa z) a B];exact q
section
variable{X:Cx}{sc:i2}{N L:List Str}{k:Nat}{a c:hH}{pos:ik}{f:CO D}{g:CO (Sk×List D)}
theorem Xo(h:SX X sc N L k)(G:PV X a f)(O:PQ X c g)(J:Ds .NotIn c=dV:=by with_unfolding_all rfl):q5 X (.Compare a [.NotIn] [c] pos) (sB<|wC f g):=
 Xp (Jz (gS h.PY) G O J) λE H Q R=>by
  obtain⟨l,j,d,rc,z,q⟩:=R;obtain⟨U,W,Y⟩:=zc z;obtain⟨x,n,z⟩:=zc W;obtain⟨⟨t,b⟩,o,z⟩:=zc z;cases t with
  | L=>cases z
  | T=>
   have z:(if l8 x=cI/\m3 b=cI then aI (D.bl<|!b.any λd=>lA d x)else cS)=aI U:=z;by_cases e:l8 x=cI/\m3 b=cI
   ·rw[MY e]at z;cases z
    cases Y;exact⟨l,j,x,rc,n,λC y i x1 u=>⟨i,j,.T,b,rc.ext x1,o,λp w m I B s A r=>⟨I,x,p,w,b,B.sub,u.mono B.s0,rfl,s,r,e.1,e.2,⟨_,rfl,q m I<|x1.trans B⟩⟩⟩⟩
   ·rw[RQ e]at z;cases z
end
noncomputable def qk:=jG 1<|zF (i1 (xJ (z9<|sB<|Qg<|zd 0)<|z9<|sB<|kc B2 B2 (ze<|.int 1) (qO<|zh 0)<|ze<|.int 6) (jY<|ze<|.bl dV) zU)<|zF (i1 (z9<|sB<|ZN<|zI<|zM (zQ<|zh 0) (.nm 0) 1 [] jo (Qh (zw ji<|zb (zd 0) zB)<|zo A4 (zd 0)<|ze<|.int 0)) (jY<|ze<|.bl dV) zU)<|jY<|zo B2 (fQ<|zh 0)<|ze<|.int 30
noncomputable def qA:=jG 1<|zF (i1 (z9<|sB<|zw qk<|zb (zd 0) zB) jO zU)<|jY<|jg<|zh 0
noncomputable def xw:=jG 6 (zF (i1 (xJ (z9 (sB (zw zX (zb (zd 3) (zb (ze (.int 2)) zB))))) (sB (ky (gC (zh 3) (ze (.int 0))) (jf (ze (.tup [.str "r",.str "l"])))))) jO zU) (zF (jF 4 (gC (zh 3) (ze (.int 0)))) (zF (jF 5 (zw xv (zb (zd 0) (zb (gC (zh 1) (zw jE (zb (zd 2) (zb (zd 4) zB)))) (zb (gC (zh 1) (zw jm (zb (zd 2) (zb (zd 4) zB)))) (zb (gC (zh 3) (ze (.int 1))) zB)))))) (jY (xM (zb (zd 4) (zb (zd 5) zB)))))))
noncomputable def qi:=jG 1 (jY (aH (zd 0) (zI (zM (zQ (jf (ze (.tup [.int 2,.int 3,.int 5,.int 7])))) (.nm 0) 1 [] jo (Xf [lz (zd 0),ze (.str ":")])))))
noncomputable def qh:=jG 1<|jY<|aH (zd 0)<|zI<|zM (je<|zo qC (ze<|.int 30)<|ze<|.int 1) (.nm 0) 1 [] jo (yp<|zd 0)
noncomputable def jN:=jG 1 (zF (i1 (sB (ky (xf (vD (zd 0) qT (ir (ze (.int 1)))) (vD (zd 0) (ir (vw (ze (.int 1)))) qT)) (jf (xM (zb (ze (.str "->")) (zb (ze (.str "<-")) zB)))))) (jY (ze (.bl dV))) zU) (jY (ZN (zI (zM (kT (vD (zd 0) (ir (ze (.int 1))) (ir (vw (ze (.int 1)))))) (.nm 0) 1 [] jo (Yl (zd 0) (ze (.str "0123456789/"))))))))
noncomputable def jB:=jG 2<|zF (i1 (sB<|zo i3 (zd 0)<|ze<|.int 0) (jY<|zw qi<|zb (zd 1) zB) zU)<|zF (i1 (sB<|zo i3 (zo j8 (zd 0)<|ze<|.int 2)<|ze<|.int 1) (jY<|zw qh<|zb (zd 1) zB) zU)<|jY<|zw jN<|zb (zd 1) zB
noncomputable def jU:=jG 3<|zF (Z1 (qZ<|zd 0) (.tp [1,2])<|i1 (z9<|sB<|zw jB<|zb (zd 1)<|zb (zd 2) zB) jO zU)<|i1 (sB<|zo i3 (zo j8 (qO<|zh 0)<|ze<|.int 2)<|ze<|.int 1) jO zU
def qF:=jG 1<|ka<|zM (kT<|zd 0) (.nm 0) 1 [] jo (xT<|zd 0)
noncomputable def qe:=jG 2 (zF (i1 (Xg (sB (zo i3 (zd 0) (ze (.str "")))) (sB (zo i3 (zd 1) (ze (.int 0))))) (ka (ql zB)) zU) (ka (zM (zQ (zI (x9 (zd 0) (ze (.str "/"))))) (.nm 0) 1 [] jo (xX (kU qF (zb (zd 0) zB))))))
noncomputable def jy:=jG 2<|jY<|ZN<|zI<|zM (zQ<|zh 1) (.nm 0) 1 [0] jo (zo DF (zd 0)<|zd 1)
noncomputable def zZ:=jG 6 (zF (jF 4 (fT (sB (Jw (zd 3) (ze (.str "-")))) (ze (.str "r")) (ze (.str "l")))) (zF (jF 5 (xX (kU qe (zb (vD (zd 3) (ir (ze (.int 1))) (ir (vw (ze (.int 1))))) (zb (gC (zh 1) (zw jE (zb (zd 2) (zb (zd 4) zB)))) zB))))) (zF (i1 (z9 (sB (ZN (zI (zM (zQ (zh 5)) (.nm 0) 1 [0] jo (zw jy (zb (zd 1) (zb (zd 0) zB)))))))) jO zU) (jY (zw xw (zb (zd 0) (zb (zd 1) (zb (zd 2) (zb (xM (zb (zd 4) (zb (zd 5) zB))) zB)))))))))
def NU:=(jF 1 (xX (x9 (zd 0) (ze (.str " ")))))
def NV:=(fW<|zw jU<|zb (zd 1) zB)
noncomputable def NW:=(jF 2<|xT<|vD (gC (zh 1)<|ze<|.int 0) qT<|ir<|vw<|ze<|.int 1)
noncomputable def NX:=(jF 3<|zw qA<|zb (xX<|zM (zQ<|zI<|Xd (zh 1) (ir<|ze<|.int 1) qT<|ir<|ze<|.int 2) (.nm 0) 1 [] jo (xT<|zd 0)) zB)
noncomputable def OQ:=(jF 4<|xX<|zM (qZ<|xX<|Xd (zh 1) (ir<|ze<|.int 2) qT<|ir<|ze<|.int 2) (.tp [0,1]) 2 [2,3] jo (zw zZ<|zb (zd 2)<|zb (zd 3)<|zb (zd 0)<|zb (zd 1) zB))
def PM:=(jY<|xM<|zb (zd 2)<|zb (zd 3)<|zb (jg<|zh 4) zB)
def kj:=jG 5<|zF NU<|zF NV<|zF NW<|zF NX<|zF OQ PM
noncomputable def OK:=(Zb 1 (ql (zb (xf (yp (gC (zh 0) (ze (.int 0)))) (ze (.str ":"))) (zb (yp (gC (jf (gC (zh 0) (ze (.int 1)))) (ze (.int 0)))) zB))))
noncomputable def rN:=(fR (.tp [3,4])<|gC (jf<|gC (zh 0)<|ze<|.int 2)<|zd 2)
noncomputable def rM:=(jF 5 (wo (ze (.str "/")) (zI (zM (zQ (jf (gC (zh 4) (ze (.int 2))))) (.nm 0) 1 [] jo (wo (ze (.str "")) (zI (zM (zQ (zh 0)) (.nm 0) 1 [] jo (yp (zd 0)))))))))
noncomputable def rL:=(qP 1 (aJ "r" "l" (xf (xf (ze (.str "-")) (zd 5)) (ze (.str ">"))) (xf (xf (ze (.str "<")) (zd 5)) (ze (.str "-"))) (zd 3)))
noncomputable def rK:=(qP 1<|yp<|gC (jf<|gC (zh 0)<|ze<|.int 1)<|zo qC (zd 2)<|ze<|.int 1)
noncomputable def km:=jG 6 (zF OK (zF (Z1 (je (qO (jf (gC (zh 0) (ze (.int 2)))))) (.nm 2) (zF rN (zF rM (zF rL rK)))) (jY (wo (ze (.str " ")) (zh 1)))))
noncomputable def Jl:=jG 1 (zF (i1 (xJ (z9 (sB (r9 .str (zd 0)))) (sB (zo A4 (yq (zd 0)) (ze (.int 6))))) (jY (ze (.bl dV))) zU) (jY (ZN (zI (zM (kT (zd 0)) (.nm 0) 1 [] jo (aH (zd 0) (jf (ze (.tup [.str "r",.str "l"])))))))))
noncomputable def wg:=jG 2<|zF (i1 (xJ (z9<|sB<|zw zX<|zb (zd 1)<|zb (ze<|.int 2) zB)<|xJ (z9<|sB<|zw QX<|zb (zd 0)<|zb (gC (zh 1)<|ze<|.int 0) zB)<|z9<|sB<|zw QX<|zb (zd 0)<|zb (gC (zh 1)<|ze<|.int 1) zB) (jY<|ze<|.bl dV) zU)<|jY<|zo B2 (gC (zh 1)<|ze<|.int 0)<|gC (zh 1)<|ze<|.int 1
noncomputable def W5:=jG 2<|ka<|zM (qZ<|zd 0) (.tp [0,1]) 2 [1] (sB<|kc B2 B2 (gC (zh 1)<|ze<|.int 0) (zd 2)<|gC (zh 1)<|ze<|.int 1) (zd 0)
noncomputable def X7:=jG 3<|zF (jF 2<|xX<|zM (zQ<|zh 0) (.nm 0) 1 [1] jo (jg<|zI<|zM (zQ<|zh 1) (.nm 0) 1 [0] jo (fT (sB<|zo i3 (zd 1)<|zd 0) (ze<|.int 1)<|ze<|.int 0)))<|jY<|xM<|zb (qO<|zh 0)<|zb (qO<|zh 1)<|zb (jg<|zh 2) zB
noncomputable def YJ:=jG 5<|zF (i1 (Xg (sB<|zo wy (qO<|zh 0)<|ze<|.int 1)<|sB<|zo i3 (zo j8 (gC (zh 0)<|ze<|.int 0)<|ze<|.int 2)<|ze<|.int 1) (zF (jF 2<|gC (zh 0)<|zo qC (ze<|.int 1)<|zo j8 (zd 1)<|zo cj (qO<|zh 0)<|ze<|.int 1)<|zF (Z1 (je<|ub (ze<|.int 60)<|zo wQ (zd 1)<|zo cj (qO<|zh 0)<|ze<|.int 1) (.nm 3)<|jF 2<|zo wQ (zd 2)<|zo ah (ze<|.int 10)<|ze<|.int 9)<|jY<|zo j8 (zd 2)<|zo ah (ze<|.int 10)<|ze<|.int 9) zU)<|zF (jF 4<|zd 1)<|zF (i1 (sB<|zo wy (qO<|zh 0)<|ze<|.int 0) (jF 4<|gC (zh 0)<|zo j8 (zd 1)<|qO<|zh 0) zU)<|jY<|zo j8 (zo yA (zo j8 (zo qC (zo qC (zo qC (zo yA (zo j8 (zd 4)<|zo ah (ze<|.int 10)<|ze<|.int 30)<|ze<|.int 48271)<|zo yA (zo yA (ze<|.int 7)<|zd 1)<|zd 1)<|zo yA (ze<|.int 13)<|zd 1)<|ze<|.int 5)<|ze<|.int 2147483647)<|ze<|.int 69621)<|ze<|.int 1000000007
noncomputable def vv:=jG 3<|jY<|jg<|zI<|zM (zQ<|zh 1) (.nm 0) 1 [0,2] jo (zo j8 (fQ<|zI<|zM (mI (zd 0)<|zd 2) (.tp [0,1]) 2 [] jo (zo yA (zd 0)<|zd 1))<|zd 1)
noncomputable def ZF:=jG 6 (zF (fR (.tp [4,5]) (zd 1)) (zF (i1 (sB (zo i3 (zd 4) (ze (.str "r")))) (jY (zo i3 (zw vv (zb (zd 0) (zb (gC (zh 5) (ze (.int 2))) (zb (zd 2) zB)))) (zd 3))) zU) (jY (zo i3 (zw vv (zb (zd 0) (zb (gC (zh 5) (ze (.int 2))) (zb (zd 3) zB)))) (zd 2)))))
noncomputable def qd:List D->Option Xn:=Vj 1 (oI (z9 (sB (zw qk (zb (zd 0) zB)))) (YU "NoWidths") n7)
noncomputable def ym:List D->Option Xn:=Vj 6 (vy (oI (xJ (z9 (sB (zw zX (zb (zd 3) (zb (ze (.int 2)) zB))))) (sB (ky (gC (zh 3) (ze (.int 0))) (jf (ze (.tup [.str "r",.str "l"])))))) (yF "NoArrow" (zd 2)) n7) (i1 (xJ (z9 (sB (zw zX (zb (zd 3) (zb (ze (.int 2)) zB))))) (sB (ky (gC (zh 3) (ze (.int 0))) (jf (ze (.tup [.str "r",.str "l"])))))) jO zU) (vy n7 (jF 4 (gC (zh 3) (ze (.int 0)))) (eZ yl (zb (zd 0) (zb (gC (zh 1) (zw jE (zb (zd 2) (zb (zd 4) zB)))) (zb (gC (zh 1) (zw jm (zb (zd 2) (zb (zd 4) zB)))) (zb (gC (zh 3) (ze (.int 1))) zB)))) "NoTable" "NoArrow" (zd 2))))
noncomputable def jD:List D->Option Xn:=Vj 3 (vy (ri (qZ (zd 0)) (.tp [1,2]) (oI (z9 (sB (zw jB (zb (zd 1) (zb (zd 2) zB))))) (yF "NoText" (zd 1)) n7) (i1 (z9 (sB (zw jB (zb (zd 1) (zb (zd 2) zB))))) jO zU)) (Z1 (qZ (zd 0)) (.tp [1,2]) (i1 (z9 (sB (zw jB (zb (zd 1) (zb (zd 2) zB))))) jO zU)) (oI (sB (zo i3 (zo j8 (qO (zh 0)) (ze (.int 2))) (ze (.int 1)))) (yF "NoText" (qO (zh 0))) n7))
noncomputable def jv:List D->Option Xn:=Vj 6 (vy n7 (jF 4 (fT (sB (Jw (zd 3) (ze (.str "-")))) (ze (.str "r")) (ze (.str "l")))) (vy n7 (jF 5 (xX (kU qe (zb (vD (zd 3) (ir (ze (.int 1))) (ir (vw (ze (.int 1))))) (zb (gC (zh 1) (zw jE (zb (zd 2) (zb (zd 4) zB)))) zB))))) (vy (oI (z9 (sB (ZN (zI (zM (zQ (zh 5)) (.nm 0) 1 [0] jo (zw jy (zb (zd 1) (zb (zd 0) zB)))))))) (yF "NoArrow" (zd 2)) n7) (i1 (z9 (sB (ZN (zI (zM (zQ (zh 5)) (.nm 0) 1 [0] jo (zw jy (zb (zd 1) (zb (zd 0) zB)))))))) jO zU) (kM ym (zb (zd 0) (zb (zd 1) (zb (zd 2) (zb (xM (zb (zd 4) (zb (zd 5) zB))) zB))))))))
noncomputable def qm:List D->Option Xn:=Vj 5 (vy n7 (jF 1 (xX (x9 (zd 0) (ze (.str " "))))) (vy (kM jD (zb (zd 1) zB)) (fW (zw jU (zb (zd 1) zB))) (vy n7 (jF 2 (xT (vD (gC (zh 1) (ze (.int 0))) qT (ir (vw (ze (.int 1))))))) (vy (kM qd (zb (xX (zM (zQ (zI (Xd (zh 1) (ir (ze (.int 1))) qT (ir (ze (.int 2)))))) (.nm 0) 1 [] jo (xT (zd 0)))) zB)) (jF 3 (zw qA (zb (xX (zM (zQ (zI (Xd (zh 1) (ir (ze (.int 1))) qT (ir (ze (.int 2)))))) (.nm 0) 1 [] jo (xT (zd 0)))) zB))) (YV (qZ (xX (Xd (zh 1) (ir (ze (.int 2))) qT (ir (ze (.int 2)))))) (.tp [0,1]) 2 [2,3] (kM jv (zb (zd 2) (zb (zd 3) (zb (zd 0) (zb (zd 1) zB))))) (zw zZ (zb (zd 2) (zb (zd 3) (zb (zd 0) (zb (zd 1) zB))))))))))
noncomputable def ko:=jG 2 (zF (jF 1 (xX (ql (zb (ze (.str "2:")) (zb (ze (.str "3:")) (zb (ze (.str "5:")) (zb (ze (.str "7:")) (zb (ze (.str "4:")) (zb (ze (.str "11:")) (zb (ze (.str "5")) (zb (ze (.str ":")) (zb (ze (.str "0")) (zb (ze (.str "1")) (zb (ze (.str "2")) (zb (ze (.str "3")) (zb (ze (.str "30")) (zb (ze (.str "31")) (zb (ze (.str "03")) (zb (ze (.str "-1")) (zb (ze (.str "->")) (zb (ze (.str "<-")) zB))))))))))))))))))))) (zF (jF 1 (xX (yU (zh 1) (zI (ql (zb (ze (.str "-0>")) (zb (ze (.str "<1-")) (zb (ze (.str "-00/00>")) (zb (ze (.str "<//-")) (zb (ze (.str "-/>")) (zb (ze (.str "-1")) (zb (ze (.str "<1>")) (zb (ze (.str "-a>")) (zb (ze (.str "r")) (zb (ze (.str "")) (zb (ze (.str "--")) (zb (ze (.str "-0|0>")) zB))))))))))))))))) (jY (gC (zh 1) (zo j8 (zd 0) (ze (.int 30)))))))
noncomputable def Om:=(jF 2<|zo j8 (zo wQ (zd 1)<|ze<|.int 6)<|fS (ze<|.int 1)<|qO<|zh 0)
noncomputable def Nu:=(i1 (xJ (sB<|zo i3 (zo j8 (zd 1)<|ze<|.int 6)<|ze<|.int 0)<|sB<|zo i3 (qO<|zh 0)<|ze<|.int 0) (ka<|yU (zI<|yU (zI<|Qf (zh 0) qT<|ir<|zd 2)<|zI<|ql<|zb (zw ko<|zb (zo wQ (zd 1)<|ze<|.int 60) zB) zB)<|zI<|Qf (zh 0) (ir<|zo qC (zd 2)<|ze<|.int 1) qT) zU)
noncomputable def Nv:=(i1 (sB<|zo i3 (zo j8 (zd 1)<|ze<|.int 6)<|ze<|.int 1) (ka<|yU (zI<|Qf (zh 0) qT<|ir<|zd 2)<|zI<|Qf (zh 0) (ir<|zo qC (zd 2)<|ze<|.int 1) qT) zU)
noncomputable def Nw:=(i1 (sB<|zo i3 (zo j8 (zd 1)<|ze<|.int 6)<|ze<|.int 2) (ka<|yU (zI<|Qf (zh 0) qT<|ir<|zo qC (zd 2)<|ze<|.int 1)<|zI<|Qf (zh 0) (ir<|zd 2) qT) zU)
def Oo:=(jF 3<|gC (zh 0)<|zd 2)
noncomputable def Oq:=(jF 4<|zo j8 (zo wQ (zd 1)<|ze<|.int 60)<|zo qC (yq<|zd 3)<|ze<|.int 1)
noncomputable def Ot:=(jF 5 (jI (ze (.str "0123456789/-<>:6 ")) (zo j8 (zo wQ (zd 1) (ze (.int 1200))) (ze (.int 17)))))
noncomputable def MH:=(i1 (sB<|zo i3 (zo j8 (zd 1)<|ze<|.int 6)<|ze<|.int 3) (jF 3<|xf (xf (vD (zd 3) qT<|ir<|zd 4)<|zd 5)<|vD (zd 3) (ir<|zd 4) qT) zU)
noncomputable def KX:=(i1 (sB<|zo i3 (zo j8 (zd 1)<|ze<|.int 6)<|ze<|.int 4) (jF 3<|xf (vD (zd 3) qT<|ir<|zd 4)<|vD (zd 3) (ir<|zo qC (zd 4)<|ze<|.int 1) qT) zU)
noncomputable def lK:=(i1 (sB<|zo i3 (zo j8 (zd 1)<|ze<|.int 6)<|ze<|.int 5) (jF 3<|xf (xf (vD (zd 3) qT<|ir<|zd 4)<|zd 5)<|vD (zd 3) (ir<|zo qC (zd 4)<|ze<|.int 1) qT) zU)
noncomputable def pJ:=(ka<|yU (zI<|yU (zI<|Qf (zh 0) qT<|ir<|zd 2)<|zI<|ql<|zb (zd 3) zB)<|zI<|Qf (zh 0) (ir<|zo qC (zd 2)<|ze<|.int 1) qT)
noncomputable def qo:=jG 6<|zF Om<|zF Nu<|zF Nv<|zF Nw<|zF Oo<|zF Oq<|zF Ot<|zF MH<|zF KX<|zF lK pJ
noncomputable def qX:=jG 2 (zF (i1 (sB (zo i3 (zd 0) (ze (.int 0)))) (jY (aH (zd 1) (jf (xM (zb (ze (.str "2:")) (zb (ze (.str "3:")) (zb (ze (.str "5:")) (zb (ze (.str "7:")) zB)))))))) zU) (zF (i1 (sB (zo i3 (zo j8 (zd 0) (ze (.int 2))) (ze (.int 1)))) (jY (aH (zd 1) (zI (zM (je (ze (.int 31))) (.nm 0) 1 [] jo (yp (zd 0)))))) zU) (zF (i1 (xJ (sB (zo DF (yq (zd 1)) (ze (.int 2)))) (sB (wC (xM (zb (jI (zd 1) (ze (.int 0))) (zb (jI (zd 1) (vw (ze (.int 1)))) zB))) (jf (xM (zb (xM (zb (ze (.str "-")) (zb (ze (.str ">")) zB))) (zb (xM (zb (ze (.str "<")) (zb (ze (.str "-")) zB))) zB))))))) (jY (ze (.bl dV))) zU) (jY (ZN (zI (zM (kT (vD (zd 1) (ir (ze (.int 1))) (ir (vw (ze (.int 1)))))) (.nm 0) 1 [] jo (Yl (zd 0) (ze (.str "0123456789/"))))))))))
noncomputable def OE:=(jF 4 (fX "-" "r" "<" "l" (jI (zd 3) (ze (.int 0)))))
noncomputable def OF:=(jF 5<|xM<|zb (gC (zh 1)<|zo qC (zd 2)<|ze<|.int 1)<|zb (gC (zh 1)<|zd 2) zB)
noncomputable def NH:=(i1 (sB (zo i3 (zd 4) (ze (.str "l")))) (jF 5 (xM (zb (gC (zh 1) (zd 2)) (zb (gC (zh 1) (zo qC (zd 2) (ze (.int 1)))) zB)))) zU)
noncomputable def OG:=(jF 6 (xX (x9 (vD (zd 3) (ir (ze (.int 1))) (ir (vw (ze (.int 1))))) (ze (.str "/")))))
noncomputable def OH:=(i1 (Xg (sB (zo i3 (gC (zh 5) (ze (.int 0))) (ze (.int 0)))) (sB (zo i3 (vD (zd 3) (ir (ze (.int 1))) (ir (vw (ze (.int 1))))) (ze (.str ""))))) (jF 6 (xX (ql zB))) zU)
noncomputable def NI:=(i1 (xJ (sB<|zo n6 (qO<|zh 6)<|gC (zh 5)<|ze<|.int 0)<|sB<|W7<|zI<|zM (zQ<|zh 6) (.nm 0) 1 [5] jo (zo n6 (yq<|zd 0)<|gC (zh 1)<|ze<|.int 1)) (jY<|ze .ih) zU)
noncomputable def NJ:=(jF 7<|jg<|zI<|zM (zQ<|zh 6) (.nm 0) 1 [] jo (jg<|zI<|zM (kT<|zd 0) (.nm 0) 1 [] jo (xT<|zd 0)))
noncomputable def NK:=(i1 (sB<|W7<|zI<|zM (zQ<|zh 7) (.nm 0) 1 [0] jo (W7<|zI<|zM (zQ<|zh 0) (.nm 0) 1 [1] jo (zo A4 (zd 0)<|zd 1))) (jY<|ze .ih) zU)
noncomputable def OI:=(jY<|xM<|zb (zd 4)<|zb (xM<|zb (gC (zh 5)<|ze<|.int 0)<|zb (gC (zh 5)<|ze<|.int 1)<|zb (zd 7) zB) zB)
noncomputable def qg:=jG 8<|zF OE<|zF OF<|zF NH<|zF OG<|zF OH<|zF NI<|zF NJ<|zF NK OI
noncomputable def Jg:=(i1 (z9 (sB (zw qX (zb (zd 2) (zb (gC (zh 1) (zd 2)) zB))))) (ka (ql (zb (ze (.str "NoText")) (zb (zd 2) zB)))) zU)
def Ou:=(jF 1 (xX (x9 (zd 0) (ze (.str " ")))))
def Nz:=(Z1 (je<|qO<|zh 1) (.nm 2) Jg)
noncomputable def Ov:=(i1 (sB (zo i3 (zo j8 (qO (zh 1)) (ze (.int 2))) (ze (.int 1)))) (ka (ql (zb (ze (.str "NoText")) (zb (qO (zh 1)) zB)))) zU)
def Ow:=(jF 3<|xT<|jI (gC (zh 1)<|ze<|.int 0)<|ze<|.int 0)
noncomputable def Ox:=(jF 4<|xX<|zM (Xe (ze<|.int 1) (qO<|zh 1)<|ze<|.int 2) (.nm 0) 1 [1] jo (xT<|gC (zh 1)<|zd 0))
noncomputable def Oy:=(i1 (xJ (sB (zo wy (qO (zh 4)) (ze (.int 6)))) (sB (zo wy (fQ (zh 4)) (ze (.int 30))))) (ka (ql (zb (ze (.str "NoWidths")) (zb (ze .ih) zB)))) zU)
noncomputable def Oz:=(jF 5<|xX<|zM (je<|zo cj (qO<|zh 4)<|ze<|.int 1) (.nm 0) 1 [1,3,4] jo (zw qg<|zb (zd 2)<|zb (zd 3)<|zb (zd 0)<|zb (gC (zh 1)<|zo qC (ze<|.int 2)<|zo yA (ze<|.int 2)<|zd 0) zB))
noncomputable def NA:=(i1 (sB (ud (ze .ih) (zh 5))) (ka (ql (zb (ze (.str "NoArrow")) (zb (fU (zh 5) (ze .ih)) zB)))) zU)
noncomputable def OA:=(ka (ql (zb (ze (.str "made")) (zb (xM (zb (zd 3) (zb (jg (zh 4)) (zb (jg (zh 5)) zB)))) zB))))
noncomputable def jt:=jG 6<|zF Ou<|zF Nz<|zF Ov<|zF Ow<|zF Ox<|zF Oy<|zF Oz<|zF NA OA
def Og:=(jF 1<|xX<|kU jt<|zb (zd 0) zB)
def Rb:=(jF 2<|ze .ih)
def Rc:=(jF 3<|ze .ih)
def Nl:=(rl 3 4 2 kj qm<|zb (zd 0) zB)
noncomputable def Nm:=(i1 (sB (zo pE (zd 2) (ze .ih))) (jY (Qh (zo i3 (gC (zh 1) (ze (.int 0))) (ze (.str "made"))) (zw qD (zb (zd 3) (zb (gC (zh 1) (ze (.int 1))) zB))))) zU)
noncomputable def Oh:=(i1 (sB<|zo n6 (xX<|kU xI<|zb (zd 2) zB)<|xX<|ql<|zb (gC (zh 1)<|ze<|.int 0) zB) (jY<|ze<|.bl dV) zU)
noncomputable def Np:=(jY (PN (zo i3 (gC (zh 1) (ze (.int 0))) (ze (.str "NoWidths"))) (Qh (zw jd (zb (rq "at" (zd 2)) zB)) (zo i3 (rq "at" (zd 2)) (gC (zh 1) (ze (.int 1)))))))
def jh:=jG 5<|zF Og<|zF Rb<|zF Rc<|zF Nl<|zF Nm<|zF Oh Np
noncomputable def OW:=(jF 1<|gC (zI<|ql<|zb (ze<|.int 2)<|zb (ze<|.int 3)<|zb (ze<|.int 5)<|zb (ze<|.int 7) zB)<|zo j8 (zw zR<|zb (zd 0)<|zb (ze<|.int 0) zB)<|ze<|.int 4)
noncomputable def OX:=(jF 2<|zw km<|zb (zw kn<|zb (zd 0)<|zb (ze<|.int 2)<|zb (zd 1)<|zb (zw kl<|zb (zw zR<|zb (zd 0)<|zb (ze<|.int 1) zB) zB)<|zb (ze<|.int 4) zB) zB)
def OY:=(jF 3 (xX (x9 (zd 2) (ze (.str " ")))))
noncomputable def RK:=(Z1 (je<|zo j8 (zo wQ (zw zR<|zb (zd 0)<|zb (ze<|.int 0) zB)<|ze<|.int 4)<|ze<|.int 4) (.nm 4)<|jF 3<|zw qo<|zb (zd 3)<|zb (zw zR<|zb (zd 0)<|zb (zo qC (ze<|.int 120)<|zd 4) zB) zB)
def OZ:=(jF 5 (wo (ze (.str " ")) (zh 3)))
noncomputable def PZ:=(jY<|Qh (zw jh<|zb (zd 5) zB)<|Qh (zw jh<|zb (zd 2) zB)<|zw jh<|zb (zd 5) zB)
def ZG:=jG 6<|zF OW<|zF OX<|zF OY<|zF RK<|zF OZ PZ
def Jh(G:List Int):D:= .lst (G.map D.int)
mutual
theorem NB : ∀d:D,lA d d=cI
 | .ih=>rfl
 | .bl b=>by simp[lA]
 | .int i=>by simp[lA]
 | .str x=>by simp[lA]
 | .tup e=>by simp only[lA];exact MN e
 | .lst e=>by simp only[lA];exact MN e
 | .exc c n=>by simp[lA]
 | .pk a b=>by simp only[lA];rw[MN a,MN b];rfl
 | .n4 a b=>by simp only[lA];rw[MN b];simp
 | .ins a b c=>by simp only[lA];rw[NB b,NB c];simp
theorem MN : ∀G:List D,B3 G G=cI
 | []=>rfl
 | d::G=>by simp only[B3,NB d,MN G,Bool.and_self]
end
theorem KH : ∀{l:List D} {n:Nat},(∀d∈l,deep d<=n)->DG l<=n
 | [],n,_=>He n
 | d::ds,n,h=>by simp only[DG];exact Nat.max_le.mpr ⟨h d EN,KH λe z=>h e<|EK _ z⟩
theorem cg(n f):deep (.tup<|xU n f)<=1:=by
 simp only[deep];have:DG (xU n f)<=0:=KH λd a=>by simp[xU]at a;obtain⟨i,_,rfl⟩:=a;exact EF _
 omega
theorem Zo : ∀{l:List D},(∀d∈l,nt d=cI)->m3 l=cI
 | [],_=>rfl
 | d::ds,h=>by simp only[m3,h d EN,Zo λe z=>h e<|EK _ z,Bool.and_self]
theorem VW(h:deep d<=n)(H:n<=20)(G:nt d=cI):l8 d=cI:=by unfold l8;rw[G,IA];exact decide_eq_true<|EX h H
theorem ic(n f):nt (.tup<|xU n f)=cI:=by
 simp only[nt];exact Zo λd a=>by simp[xU]at a;obtain⟨i,_,rfl⟩:=a;rfl
theorem ie(n f):l8 (.tup<|xU n f)=cI:=VW (cg n f) ⋯<|ic n f
theorem ck(h:l8 d=cI):i3 d d=aI (.bl cI):=by unfold i3;rw[MY ⟨h,h⟩,NB]
theorem JS{d:D}(h:l8 d=cI):n6 d d=aI (.bl dV):=by unfold n6;rw[MY ⟨h,h⟩,NB];rfl
theorem bG(xs:List D)(n:Nat)(hx:xs.length=n)(G : ∀i (h:i<n),∃z,xs[i]'(hx ▸ h) = .int z)(Z:n<=63)(k:Int)(H:0<=k)(bl:k<100000) :
 ∃m,zR [.lst xs,.int k]=aI (.val<|.int m)/\0<=m/\m<1000000007:=by
 have I:QY k k=cI:=KQ k k ⋯ ⋯;have b:QY (k*k) 7919=cI:=KP _ _ ⋯ ⋯;have O : ∀z,QY z 48271=cI:=λz=>KP _ _ ⋯ ⋯;have R : ∀z,QY z 69621=cI:=λz=>KP _ _ ⋯ ⋯;have B:pK 10 9=cI:=by decide
 have e:pK 10 30=cI:=by decide
 by_cases o:n=0
 ·subst o
  simp[zR,jG,jM,jc,I,b,O,R,hx];omega
 ·have N:(0:Int)<n:=by omega
  have U:0<n:=by omega
  obtain⟨i,d⟩:=GF (HX k<|show(n:Int)≠0 by omega);have f:i<n:=by have:=Hh k N;omega
  obtain⟨C,l⟩:=G i f;have x : ¬((n:Int)=0):=by omega
  by_cases K:n=1
  ·subst K
   have W:i=0:=by clear d;omega
   subst W;clear d;simp[zR,jG,jM,jc,I,b,O,R,B,e,hx,l];omega
  ·obtain⟨T,u⟩:=G 0 U
   have W:m7 n 0=aI 0:=by have:=jR n 0;rw[MY U]at this;exact this
   have p:(0:Int)<(n:Int) - 1:=by omega
   have y:(1:Int)<(n:Int):=by omega
   have r:1<n:=by omega
   have A:(n:Int) - 1<1073741824:=by omega
   obtain⟨j,M⟩:=GF (HX k<|show(n:Int) - 1≠0 by omega);have g:1+j<n:=by have:=Hh k p;omega
   obtain⟨X,J⟩:=G (1+j) g;have S:m7 n (1+(j:Int))=aI (1+j):=by have:=jR n<|1+j;rw[MY g]at this;rw[<- this];congr 1
   have L:0<=k/((n:Int) - 1)/\k/((n:Int) - 1)<=k:=⟨Int.ediv_nonneg H ⋯,Int.ediv_le_self _ H⟩;obtain⟨t,P⟩:=GF L.1;have E:inR (t:Int)=cI:=k7 ⋯ ⋯;by_cases w:T%2=1
   ·simp[zR,jG,jM,jc,I,b,O,R,x,y,U,d,f,hx,l,u,W,p,r,A,w,M,g,S,J,P,E,B,e,o,qU]
    rw[jS t λi=>(i:Int)];have F : ∀(m s:Nat) (v:Int) (c:Cell),∃Y a,yr (.nm 4) (jF 3<|zo wQ (zd 3)<|zo ah (ze<|D.int 10)<|ze<|D.int 9) ((Ib s m).map λ(i:Nat)=>D.int i) [.val (.lst xs),.val<|.int k,.val<|.int C,.val<|.int v,c] =
     aI (.next [.val (.lst xs),.val<|.int k,.val<|.int C,.val<|.int Y,a]):=by
     intro m
     induction m with
     | zero=>intro s v c;exact⟨v,c,rfl⟩
     | succ m Q=>
      intro s v c;rw[GP,Fb,xu];obtain⟨Y,a,h⟩:=Q (s+1) (v/10 ^ 9)<|.val<|.int s;refine⟨Y,a,?_⟩;rw[<- h];simp[B]
    obtain⟨Y,a,h⟩:=F t 0 X .no;rw[<- FQ]at h;rw[h];simp[B];omega
   ·simp[zR,jG,jM,jc,I,b,O,R,x,y,U,d,f,hx,l,u,W,p,r,A,w,B,e,o]
    omega
theorem oG(G:List Int)(I:G.length<=63)(k:Int)(H:0<=k)(z:k<100000) : ∃m,zR [Jh G,.int k]=aI (.val<|.int m)/\0<=m/\m<1000000007:=
 bG (G.map D.int) G.length ⋯ (λi a=>⟨G[i],by simp⟩) I k H z
noncomputable def Xv(G:List Int)(k:Int):Int:=match zR [Jh G,.int k]with
 | some (.val<|.int m)=>m
 | _=>0
theorem Qu{G:List Int}(I:G.length<=63){k:Int}(H:0<=k)(z:k<100000):zR [Jh G,.int k]=aI (.val<|.int<|Xv G k)/\0<=Xv G k/\Xv G k<1000000007:=by
 obtain⟨m,h,a,b⟩:=oG G I k H z;have e:Xv G k=m:=by unfold Xv;rw[h]
 rw[e];exact⟨h,a,b⟩
theorem yJ(i:Int):jd [.int i]=aI (.val<|.bl cI):=by simp[jd,jG,jM,ZI]
theorem wY{G:Type}(l:List G):yo (l.map λ_=>D.bl cI)=aI (l.map λ_=>cI):=by
 induction l with
 | nil=>rfl
 | cons a l z=>simp[yo,ti,z]
theorem cL{G:Type}(l:List G):((l.map λ_=>cI).all id)=cI:=by
 induction l with
 | nil=>rfl
 | cons a l z=>simp[z]
theorem yD{n:Nat}(f:Nat->Int)(G:n<=lim):qf [.tup (xU n f),.tup (xU n f)]=aI (.val<|.bl cI):=by
 have e:=ck<|ie n f;simp[qf,jG,jM,jc,ZI,G,qS,EC];rw[show zW (.nm 0) jo (zw jd<|zb (zd 0) zB) [Cell.no] (xU n f)=aI ((Ez n).map λ_=>D.bl cI)from by
  rw[jS];refine zE _ _ λi a=>zG rfl rfl ?_;simp[yJ]]
 simp[wY,e]
theorem CY(a b c:D):KL [a,b,c] cS (aI 2)=[a,b]:=by simp[KL,XR]
theorem JZ{h w:Nat}(f:MK)(B:h<=lim)(G:w<=lim):jX [KD h w f,KD h w f]=aI (.val<|.bl cI):=by
 have e:=JS (d:= .tup [.int h,.int w]) rfl;simp[jX,jG,jM,jc,ZI,KD,yJ,CY,e,B,qU,qS,EC,vO];rw[jS h λi=>(i:Int)];rw[zE (r:=λ_=>D.bl cI)]
 ·simp[wY]
 ·intro i a
  have z:=Fd.mp a;refine zG rfl rfl ?_;simp[z,bY f z,yD _ G]
noncomputable def J0(G:List Int)(p:Int)(k:Int):Int:=Xv G k%p*(if decide (0<Xv G k/7%3)=cI then 1 else 0)
theorem fB(G:0<p):0<=J0 ns p k/\J0 ns p k<p:=by unfold J0;have a:=HX (Xv ns k) (show p≠0 by omega);have b:=Hh (Xv ns k) G;split<;>simp<;>omega
theorem ZU{G:List Int}(Z:G.length<=63){p:Int}(hp:0<p){a h w:Nat}(ha:a<=1000)(hh:h<=100)(hw:w<=100) :
 qB [Jh G,.int a,.int p,.int h,.int w]=aI (.val<|KD h w λi j=>J0 G p<|a+i*w+j):=by
 have I:h<=lim:=by have:=jj;omega
 have O:w<=lim:=by have:=jj;omega
 have R : ∀(i:Nat) (e:List D) (f g:Cell),i<h->∃l,yr (.nm 8) (zF (jF 9<|zw zR<|zb (zd 0)<|zb (zo qC (zo qC (zd 1)<|zo yA (zd 6)<|zd 4)<|zd 8) zB)<|qP 7<|zo yA (zo j8 (zd 9)<|zd 2)<|Vh<|zo wy (zo j8 (zo wQ (zd 9)<|ze<|.int 7)<|ze<|.int 3)<|ze<|.int 0)
  ((Ez w).map λ(j:Nat)=>D.int j) [.val (Jh G),.val<|.int a,.val<|.int p,.val<|.int h,.val<|.int w,.own e,.val<|.int i,.own [],f,g]=aI (.next l)/\
  ∃f g,l=[.val (Jh G),.val<|.int a,.val<|.int p,.val<|.int h,.val<|.int w,.own e,.val<|.int i,.own<|xU w λj=>J0 G p<|a+i*w+j,f,g]:=by
  intro i e f g t;have z:=k9 (T:= .nm 8) (F:=(zF (jF 9<|zw zR<|zb (zd 0)<|zb (zo qC (zo qC (zd 1)<|zo yA (zd 6)<|zd 4)<|zd 8) zB)<|qP 7<|zo yA (zo j8 (zd 9)<|zd 2)<|Vh<|zo wy (zo j8 (zo wQ (zd 9)<|ze<|.int 7)<|ze<|.int 3)<|ze<|.int 0))
   (λj n=>∃f g,n=[.val (Jh G),.val<|.int a,.val<|.int p,.val<|.int h,.val<|.int w,.own e,.val<|.int i,.own<|xU j λj=>J0 G p<|a+i*w+j,f,g])
   ((Ez w).map λ(j:Nat)=>D.int j) 0 [.val (Jh G),.val<|.int a,.val<|.int p,.val<|.int h,.val<|.int w,.own e,.val<|.int i,.own [],f,g] ⟨f,g,rfl⟩ ?_
  ·simpa using z
  ·rintro j d n m ⟨f,g,rfl⟩
   have U:j<w:=by have:=(EL.mp m).1;simpa using this
   have B:d = .int j:=by simp[U]at m;exact m.symm
   subst B;have W:i*w<=100*100:=Nat.mul_le_mul ⋯ hw;have g0:(0:Int)<=(i:Int)*(w:Int):=by exact_mod_cast He _
   have g1:(i:Int)*(w:Int)<=100*100:=by exact_mod_cast W
   obtain⟨Y,M,N⟩:=Qu Z (k:=((a:Int)+(i:Int)*(w:Int)+(j:Int))) ⋯ ⋯;have K:QY (i:Int) (w:Int)=cI:=KQ _ _ ⋯ ⋯;have L : ∀(x y:Int),QY x (if 0<y then 1 else 0)=cI:=λx b=>KP _ _ (by split<;>omega) (by split<;>omega);have u:j<lim:=by have:=jj;omega
   refine⟨_,.inl ?_,.val<|.int j,.val<|.int<|Xv G<|(a:Int)+(i:Int)*(w:Int)+(j:Int),rfl⟩;have A:xU (0+j+1) (λj=>J0 G p<|a+i*w+j)=xU j (λj=>J0 G p<|a+i*w+j)++[.int (J0 G p<|a+i*w+j)]:=by simp[xU,List.range_succ]
   rw[A];simp[jc,K,Y,hp,L,u,J0]
 have z:=k9 (T:= .nm 6) (F:=zF (Zb 7<|ql zB)<|zF (Z1 (je<|zd 4) (.nm 8)<|zF (jF 9<|zw zR<|zb (zd 0)<|zb (zo qC (zo qC (zd 1)<|zo yA (zd 6)<|zd 4)<|zd 8) zB)<|qP 7<|zo yA (zo j8 (zd 9)<|zd 2)<|Vh<|zo wy (zo j8 (zo wQ (zd 9)<|ze<|.int 7)<|ze<|.int 3)<|ze<|.int 0)<|qP 5<|jg<|zh 7)
  (λi n=>∃r s f g,n=[.val (Jh G),.val<|.int a,.val<|.int p,.val<|.int h,.val<|.int w,.own<|ZS i w λi j=>J0 G p<|a+i*w+j,r,s,f,g])
  ((Ez h).map λ(j:Nat)=>D.int j) 0 [.val (Jh G),.val<|.int a,.val<|.int p,.val<|.int h,.val<|.int w,.own [],.no,.no,.no,.no] ⟨_,_,_,_,rfl⟩ (by
    rintro i d n m ⟨r,s,f,g,rfl⟩;have t:i<h:=by have:=(EL.mp m).1;simpa using this
    have B:d = .int i:=by simp[t]at m;exact m.symm
    subst B;obtain⟨l,o,C,E,rfl⟩:=R i (ZS (0+i) w λi j=>J0 G p<|a+i*w+j) f g t;have H:i<lim:=by have:=jj;omega
    refine⟨_,.inl ?_,.val<|.int i,.own<|xU w λj=>J0 G p<|a+i*w+j,C,E,rfl⟩;have J:ZS (0+i+1) w (λi j=>J0 G p<|a+i*w+j)=ZS (0+i) w (λi j=>J0 G p<|a+i*w+j)++[.tup (xU w λj=>J0 G p<|a+i*w+j)]:=by simp[ZS,List.range_succ]
    rw[J];simp only[KR,EA,LO,LN];rw[jc];simp[jc,O,qU];rw[jS w λi=>(i:Int)];rw[show(0+i)=i from by omega]at o;rw[o];simp[H])
 obtain⟨l,o,r,s,f,g,rfl⟩:=z;simp[qB,jG,jM,jc,I,qU];rw[jS h λi=>(i:Int),o];simp[KD]
theorem Xq{m:Int}(G:0<=m) : ∃p,([D.int 2,.int 3,.int 5,.int 7])[(m%4).toNat]? = aI (.int p)/\m7 4 (m%4)=aI (m%4).toNat/\(p=2\/p=3\/p=5\/p=7):=by
 have a:=HX m (show(4:Int)≠0 by omega);have d:=Hh m (show(0:Int)<4 by omega);obtain⟨k,b⟩:=GF a;rw[b];have z:k<4:=by omega
 have e:m7 4 (k:Int)=aI k:=by rw[jR,MY z]
 rw[e]
 match k,z with
 | 0,_=>exact⟨2,rfl,rfl,by simp⟩
 | 1,_=>exact⟨3,rfl,rfl,by simp⟩
 | 2,_=>exact⟨5,rfl,rfl,by simp⟩
 | 3,_=>exact⟨7,rfl,rfl,by simp⟩
theorem xp(k:Int)(G:0<k) : ∃n:Nat,m%k=n/\(n:Int)<k:=by have a:=HX m (show k≠0 by omega);have d:=Hh m G;obtain⟨n,b⟩:=GF a;exact⟨n,b,by omega⟩
theorem yn(c:Str)(n:Option Int)(h:c∈(["NoPrime","Nought","NoTable","NoWidths","NoRow","Unlike","TooMany","NoTurn","NoLine","Nothing","NoArrow","NoText","NoRoom"]:List Str)):xI [.exc c n]=aI (.own [.str c]):=by simp only[ED,Fp,or_false]at h;rcases h with rfl | rfl | rfl | rfl | rfl | rfl | rfl | rfl | rfl | rfl | rfl | rfl | rfl<;>kernel_rfl
def t2(b:Bool):Nat:=if b then 108 else 114
def ja(c:Nat):Str:=⟨#[c]⟩
theorem vP : ∀(l:List Nat),(GS "" (l.map ja)).cps.toList=l
 | []=>rfl
 | [c]=>rfl
 | c::d::l=>by
  have z:=vP (d::l);show((ja c++("" : Str))++GS "" ((d::l).map ja)).cps.toList=_;have e : ∀a b:Str,(a++b).cps.toList=a.cps.toList++b.cps.toList:=λa b=>by show(a.cps++b.cps).toList=_;simp
  rw[e,e,z];rfl
noncomputable def J5(m:Nat)(w:MX):Str:=GS "" ((Ez m).map λk=>ja (t2 (w k)))
theorem ZX(m w):(J5 m w).cps.toList=(Ez m).map λk=>t2 (w k):=by have:=vP<|(Ez m).map λk=>t2<|w k;rw[FC]at this;exact this
theorem Jn(m w):(J5 m w).length=m:=by show(J5 m w).cps.size=m;rw[<- IE,ZX];simp
theorem vz{m:Nat}(w)(G:m<=1000):zy (J5 m w)=cI:=decide_eq_true (by rw[Jn];exact G)
theorem yP{G:Type}(g:G->Str) : ∀l:List G,vB (l.map λx=>D.str<|g x)=aI (l.map g)
 | []=>rfl
 | a::l=>by simp[vB,yP g l]
theorem JY{G:Int}(H:0<=G) : ∃m w,m<=5/\kl [.int G]=aI (.val<|.str<|J5 m w):=by
 obtain⟨m,O,j⟩ : ∃n:Nat,G%6=n/\(n:Int)<6:=by have e:=HX G (show(6:Int)≠0 by omega);have g:=Hh G (show(0:Int)<6 by omega);obtain⟨n,f⟩:=GF e;exact⟨n,f,by omega⟩
 have h:=jj;have I:m<=lim:=by omega
 let z:Nat->Int:=λk=>[6,12,24,48,96].getD k 6;have R:zW (.nm 0) jo (jI (ze (.str "rl")) (zo j8 (zo wQ (zd 1) (gC (zI (ql (zb (ze (.int 6)) (zb (ze (.int 12)) (zb (ze (.int 24)) (zb (ze (.int 48)) (zb (ze (.int 96)) zB))))))) (zd 0))) (ze (.int 2)))) [Cell.no,Cell.val (.int G)] ((Ez m).map λ(i:Nat)=>D.int i)=aI ((Ez m).map λk=>D.str (ja (t2 (decide (G/z k%2=1))))):=by
  refine zE _ _ λk a=>zG rfl rfl ?_;have a:=Fd.mp a;have B:k<5:=by omega
  have b:([D.int 6,.int 12,.int 24,.int 48,.int 96])[k]? = aI (.int<|z k):=by
   match k,B with
   | 0,_=>rfl
   | 1,_=>rfl
   | 2,_=>rfl
   | 3,_=>rfl
   | 4,_=>rfl
  have U:0<z k/\z k<1073741824:=by
   match k,B with
   | 0,_=>exact⟨by decide,by decide⟩
   | 1,_=>exact⟨by decide,by decide⟩
   | 2,_=>exact⟨by decide,by decide⟩
   | 3,_=>exact⟨by decide,by decide⟩
   | 4,_=>exact⟨by decide,by decide⟩
  have W:zo j8 (zo wQ (zd 1)<|gC (zI<|ql<|zb (ze<|.int 6)<|zb (ze<|.int 12)<|zb (ze<|.int 24)<|zb (ze<|.int 48)<|zb (ze<|.int 96) zB)<|zd 0) (ze<|.int 2) [Cell.val (.int k),Cell.val (.int G)]=aI (.int<|G/z k%2):=by
   have d:m7 5 (k:Int)=aI k:=by rw[jR,MY B]
   simp only[yC,we,WY,qz,X3,qp,WX,eU,Lh,Lg,kD,EA,HM,JV,FL,II];rw[MY ⋯];simp only[EA,HM];rw[show([D.int 6,D.int 12,D.int 24,D.int 48,D.int 96]:List D).length=5 from rfl,d];simp only[EA];rw[b];simp[U]
  have q:G/z k%2=0\/G/z k%2=1:=by omega
  show jI _ _ [Cell.val (.int k),Cell.val (.int G)]=_;rw[xQ,W];rcases q with q | q
  ·rw[q];rfl
  ·rw[q];rfl
 refine⟨m,λk=>decide<|G/z k%2=1,by omega,?_⟩;have all1:((Ez m).map λk=>ja<|t2<|decide<|G/z k%2=1).all zy=cI:=by
  rw[HJ];exact EY.mpr λk _=>by show zy (ja _)=cI;rfl
 have Y:zy ("" : Str)=cI:=rfl;simp[kl,jG,jM,jc,O,I,qU,qS,vO,EC];rw[jS m λi=>(i:Int),R];simp only[HM,EA,Function.comp];rw[yP];simp only[EA];rw[MY ⟨by simpa using I,EY.mp all1,Y⟩];rfl
noncomputable def ni(w:MX)(wd:MZ)(k:Nat):Nat:=if w k then wd k else wd (k+1)
noncomputable def m8(w:MX)(wd:MZ)(k:Nat):Nat:=if w k then wd (k+1)else wd k
noncomputable def QZ(w:MX)(wd:MZ)(T:MV)(k:Nat):D:= .tup [.str (ja<|t2<|w k),KD (ni w wd k) (m8 w wd k) (T k)]
noncomputable def kQ(m:Nat)(w:MX)(wd:MZ)(T:MV):List D:=(Ez m).map (QZ w wd T)
noncomputable def Qj(p:Int)(m:Nat)(w:MX)(wd:MZ)(T:MV):D:= .tup [.int p,.tup<|xU (m+1) λk=>(wd k:Int),.tup (kQ m w wd T)]
@[simp] theorem pP(m w wd T):(kQ m w wd T).length=m:=by simp[kQ]
noncomputable def XY:=(zF (jF 8 (xM (zb (gC (zh 5) (zo qC (zd 7) (ze (.int 1)))) (zb (gC (zh 5) (zd 7)) zB)))) (zF (i1 (sB (zo i3 (jI (zd 3) (zd 7)) (ze (.str "l")))) (jF 8 (xM (zb (gC (zh 5) (zd 7)) (zb (gC (zh 5) (zo qC (zd 7) (ze (.int 1)))) zB)))) zU) (qP 6 (xM (zb (jI (zd 3) (zd 7)) (zb (zw qB (zb (zd 0) (zb (zo qC (zo qC (zd 1) (ze (.int 10))) (zo yA (ze (.int 17)) (zd 7))) (zb (zd 2) (zb (gC (zh 8) (ze (.int 0))) (zb (gC (zh 8) (ze (.int 1))) zB)))))) zB))))))
theorem Y7{m k:Nat}(w)(I:m<=1000)(H:k<m)(γ:Ctx)(f g:CO D)(G:f γ=aI (.str<|J5 m w))(z:g γ=aI (.int k)):jI f g γ=aI (.str<|ja<|t2<|w k):=by rw[xQ,G,z];simp only[EA,JV];rw[MY (vz w I),ZX];simp[H,ja]
theorem pq(b:Bool):i3 (.str (ja (t2 b))) (.str "l")=aI (.bl b):=by
 have e : ∀b:Bool,(ja (t2 b)==(FD "l"))=b:=by decide +kernel
 have z : ∀b:Bool,l8 (.str<|ja<|t2 b)=cI:=by decide +kernel
 have B:l8 (.str (FD "l"))=cI:=by decide +kernel
 unfold i3;rw[MY ⟨z b,B⟩];show aI (D.bl (ja (t2 b)==FD "l"))=_;rw[e]
theorem QW{G:List Int}(I:G.length<=63){p:Int}(H:0<p){a0 m:Nat}{most:Int}(ha:a0<=500)(hm:m<=20)(w:MX)(O:0<most/\most<=40) :
 ∃wd T,kn [Jh G,.int a0,.int p,.str<|J5 m w,.int most]=aI (.val<|Qj p m w wd T)/\(∀k,(wd k:Int)<most)/\∀k i j,0<=T k i j/\T k i j<p:=by
 have hl:=jj;have x:m<=lim:=by omega
 have R:m+1<=lim:=by omega
 have wb : ∀k:Nat,∃n:Nat,Xv G ((a0:Int)+(k:Int))%most=n/\(n:Int)<most:=λk=>xp most O.1;let wd:Nat->Nat:=λk=>(Xv G ((a0:Int)+(k:Int))%most).toNat;have z : ∀k:Nat,Xv G ((a0:Int)+(k:Int))%most=(wd k:Int)/\(wd k:Int)<most:=λk=>by
  obtain⟨n,g,K⟩:=wb k;have:wd k=n:=by show(Xv G ((a0:Int)+(k:Int))%most).toNat=n;rw[g];rfl
  rw[this];exact⟨g,K⟩
 let T:Nat->Nat->Nat->Int:=λk i j=>J0 G p<|(((a0+10+17*k:Nat):Int))+(i:Int)*((m8 w wd k:Nat):Int)+(j:Int);refine⟨wd,T,?_,λk=>(z k).2,λk i j=>fB H⟩;have y:zW (.nm 0) jo (zo j8 (zw zR<|zb (zd 1)<|zb (zo qC (zd 2)<|zd 0) zB)<|zd 3) [Cell.no,Cell.val<|Jh G,Cell.val<|.int a0,Cell.val (.int most)] ((Ez<|m+1).map λ(i:Nat)=>D.int i)=aI (xU (m+1) λk=>(wd k:Int)):=by rw[jS];refine zE _ _ λk f=>zG rfl rfl ?_;have f:=Fd.mp f;simp[(Qu I (k:=(a0:Int)+(k:Int)) ⋯ ⋯).1,O.1,(z k).1]
 have tab : ∀k,k<m->qB [Jh G,.int<|(a0:Int)+10+17*(k:Int),.int p,.int (ni w wd k:Nat),.int (m8 w wd k:Nat)]=aI (.val<|KD (ni w wd k) (m8 w wd k)<|T k):=λk f=>by
  have b : ∀j,wd j<=100:=λj=>by have:=(z j).2;omega
  have M:ni w wd k<=100:=by unfold ni;split<;>exact b _
  have N:m8 w wd k<=100:=by unfold m8;split<;>exact b _
  have:=ZU I H (a:=a0+10+17*k) (h:=ni w wd k) (w:=m8 w wd k) ⋯ M N;rw[show(((a0+10+17*k:Nat)):Int)=(a0:Int)+10+17*(k:Int)by omega]at this;rw[this];show _=aI (Res.val<|KD _ _ λi j=>J0 G p<|(((a0+10+17*k:Nat):Int))+(i:Int)*((m8 w wd k:Nat):Int)+(j:Int));rw[show(((a0+10+17*k:Nat)):Int)=(a0:Int)+10+17*(k:Int)by omega]
 have A:=k9 (T:= .nm 7) (F:=XY)
  (λk e=>∃o r,e=[.val (Jh G),.val<|.int a0,.val<|.int p,.val<|.str<|J5 m w,.val<|.int most,.val<|.tup<|xU (m+1) λk=>(wd k:Int),.own<|kQ k w wd T,o,r])
  ((Ez m).map λ(i:Nat)=>D.int i) 0 [.val (Jh G),.val<|.int a0,.val<|.int p,.val<|.str<|J5 m w,.val<|.int most,.val<|.tup<|xU (m+1) λk=>(wd k:Int),.own [],.no,.no] ⟨.no,.no,rfl⟩ (by
    rintro k d e s ⟨o,r,rfl⟩;have f:k<m:=by have:=(EL.mp s).1;simpa using this
    have C:d = .int k:=by simp[f]at s;exact s.symm
    subst C;rw[Mm];have U:k<lim:=by omega
    have u:m7 (m+1) ((k:Int)+1)=aI (k+1):=by have:=jR (m+1)<|k+1;rw[MY ⋯]at this;rw[<- this];congr 1
    have W:k+1<m+1:=by omega
    have Y:k<m+1:=by omega
    have t:QY 17 (k:Int)=cI:=KQ _ _ ⋯ ⋯;have app:kQ (k+1) w wd T=kQ k w wd T++[QZ w wd T k]:=by simp[kQ,List.range_succ]
    have l:=tab k f;refine⟨_,.inl ?_,.val<|.int k,.val<|.tup [.int (ni w wd k:Nat),.int (m8 w wd k:Nat)],rfl⟩;rw[app];have B : ∀e:Ctx,e[3]? = aI (.val<|.str<|J5 m w)->e[7]? = aI (.val<|.int k)->jI (zd 3) (zd 7) e=aI (.str<|ja<|t2<|w k):=λe P Q=>Y7 w ⋯ f e _ _ (by rw[we,P];rfl) (by rw[we,Q];rfl);simp only[KR,EA,LO,LN,XY];rw[jc];simp[-xQ,u,W,Y];rw[jc];rw[jx,J2,yC,B _ rfl rfl];simp[-xQ,pq];cases hw:w k with
    | true=>
     simp[-xQ,ni,m8,hw]at l ⊢;simp[-xQ,u,W,Y];rw[B _ rfl rfl];simp[t,l,U,hw,QZ,ni,m8]
    | false=>
     simp[-xQ,ni,m8,hw]at l ⊢;rw[B _ rfl rfl];simp[t,l,U,hw,QZ,ni,m8])
 obtain⟨γ',g,o,r,rfl⟩:=A;have L:((Ez m).map λ(i:Nat)=>D.int i).length=m:=by simp
 rw[L,Mm]at g;have J:kn=jG 9 (zF (jF 5<|jg<|zI<|zM (je<|zo qC (yq<|zd 3)<|ze<|.int 1) (.nm 0) 1 [0,1,4] jo (zo j8 (zw zR<|zb (zd 1)<|zb (zo qC (zd 2)<|zd 0) zB)<|zd 3))<|zF (Zb 6<|ql zB)<|zF (Z1 (je<|yq<|zd 3) (.nm 7) XY)<|jY<|xM<|zb (zd 2)<|zb (zd 5)<|zb (jg<|zh 6) zB):=rfl;have X : ∀e:Ctx,e[3]? = aI (.val<|.str<|J5 m w)->yq (zd 3) e=aI (.int m):=λe h=>by rw[lg,we,h];simp only[kD,EA];rw[MY (vz w ⋯),Jn]
 have E:((m:Int)+1)=((m+1:Nat):Int):=by omega
 rw[J];simp only[jG,jM];rw[jc];simp only[jV,vT,qz,qc,vo,yC,Fb,Mh,FL,II,EC,List.cons_append,List.nil_append];rw[X _ rfl];have S:inR ((m:Int)+1)=cI:=by rw[E];exact Wf R
 have Z:((m:Int)+1).toNat=m+1:=by omega
 simp only[EA,JV,cp,eU];rw[MY S,Z,qU];simp[R,qS,vO,EC];rw[jS (m+1) λi=>(i:Int),y];simp[jc,vz w (show m<=1000 by omega),Jn,x,qU];rw[jS m λi=>(i:Int),g];simp[Qj]
noncomputable def WN:=(zF (i1 (xJ (z9<|sB<|r9 .tuple<|zd 2)<|xJ (sB<|zo n6 (qO<|zh 2)<|ze<|.int 2)<|sB<|zo n6 (gC (zh 2)<|ze<|.int 0)<|gC (zh 3)<|ze<|.int 0) (jY<|ze<|.bl dV) zU)<|i1 (xJ (z9<|sB<|r9 .str<|gC (zh 2)<|ze<|.int 0)<|z9<|sB<|zw jX<|zb (gC (zh 2)<|ze<|.int 1)<|zb (gC (zh 3)<|ze<|.int 1) zB) (jY<|ze<|.bl dV) zU)
theorem oq(b:Bool):l8 (.str<|ja<|t2 b)=cI:=by cases b<;>decide +kernel
theorem X6{p:Int}{m:Nat}(w:MX)(wd:MZ)(T:MV)(H:m<=900)(G : ∀k,wd k<=lim):qD [Qj p m w wd T,Qj p m w wd T]=aI (.val<|.bl cI):=by
 have x:=jj;have u:m<=lim:=by omega
 have I:m+1<=lim:=by omega
 have O:cN (kQ m w wd T) (kQ m w wd T)=(Ez m).map λk=>D.tup [QZ w wd T k,QZ w wd T k]:=by unfold cN kQ;rw[List.zip_map'];simp
 have R:=k9 (T:= .tp [2,3]) (F:=WN)
  (λk e=>∃a z,e=[.val (Qj p m w wd T),.val<|Qj p m w wd T,a,z])
  ((Ez m).map λk=>D.tup [QZ w wd T k,QZ w wd T k]) 0 [.val (Qj p m w wd T),.val<|Qj p m w wd T,.no,.no] ⟨.no,.no,rfl⟩ (by
    rintro k d e b ⟨a,z,rfl⟩;have l:k<m:=by have:=(EL.mp b).1;simpa using this
    have U:d = .tup [QZ w wd T k,QZ w wd T k]:=by simp[l]at b;exact b.symm
    subst U;refine⟨_,.inl ?_,.val<|QZ w wd T k,.val<|QZ w wd T k,rfl⟩;have i:ni w wd k<=lim:=by unfold ni;split<;>exact G _
    have j:m8 w wd k<=lim:=by unfold m8;split<;>exact G _
    have n:=JZ (T k) i j;have o:=JS<|oq<|w k;have W:qW (QZ w wd T k)=aI (.T,[.str (ja<|t2<|w k),KD (ni w wd k) (m8 w wd k) (T k)]):=rfl;have B:ZI .tuple (QZ w wd T k)=cI:=rfl;simp only[WO,EA,LO,LN,WN];rw[jc];have s:ZI .str (.str<|ja<|t2<|w k)=cI:=rfl;simp[W,B,o,n,s])
 obtain⟨t,h,a,z,rfl⟩:=R;have r:qW (Qj p m w wd T)=aI (.T,[.int p,.tup<|xU (m+1) λk=>(wd k:Int),.tup (kQ m w wd T)]):=rfl;have B:ZI .tuple (Qj p m w wd T)=cI:=rfl;have Y:=yD (λk=>(wd k:Int)) I;have g:qD=jG 4 (zF (i1 (xJ (z9<|sB<|r9 .tuple<|zd 0)<|xJ (sB<|zo n6 (qO<|zh 0)<|ze<|.int 3)<|xJ (z9<|sB<|zw jd<|zb (gC (zh 0)<|ze<|.int 0) zB)<|sB<|zo n6 (gC (zh 0)<|ze<|.int 0)<|gC (zh 1)<|ze<|.int 0) (jY<|ze<|.bl dV) zU)<|zF (i1 (xJ (z9<|sB<|zw qf<|zb (gC (zh 0)<|ze<|.int 1)<|zb (gC (zh 1)<|ze<|.int 1) zB)<|xJ (z9<|sB<|r9 .tuple<|gC (zh 0)<|ze<|.int 2)<|sB<|zo n6 (qO<|jf<|gC (zh 0)<|ze<|.int 2)<|qO<|jf<|gC (zh 1)<|ze<|.int 2) (jY<|ze<|.bl dV) zU)<|zF (Z1 (mI (gC (zh 0)<|ze<|.int 2)<|gC (zh 1)<|ze<|.int 2) (.tp [2,3]) WN)<|jY<|ze<|.bl cI):=rfl;rw[g];have f:ZI .tuple (.tup<|kQ m w wd T)=cI:=rfl;simp[jG,jM,jc,r,B,yJ,Y,f,O,EC];rw[h];simp
theorem cH{m k:Nat}(w wd T)(G:k<(kQ m w wd T).length):(kQ m w wd T)[k]=QZ w wd T k:=by simp[kQ]
theorem qv(i:Int):ji [.int i]=aI (.val<|.bl cI):=by simp[ji,jG,jM,ZI]
abbrev Vc:=Nat->Int
def P4(r:Nat)(B:Nat->Vc):Vc->Prop:=λv=>∃k,k<r/\v=B k
noncomputable def Un(r:Nat)(B:Nat->Vc)(m:Nat)(W:Nat->Vc):Vc->Prop:=λv=>P4 r B v\/P4 m W v
@[simp] def pT:=@tX.eq_1
@[simp] def Ay:=@ub.eq_1
def AM(m G:Nat)(w H:MX):Prop:=m=G/\∀k,k<m->w k=H k
instance (m m':Nat) (w w':MX):Decidable (AM m m' w w'):=inferInstanceAs (Decidable (m=m'/\∀k,k<m->w k=w' k))
section
variable{p p':Int}{m m':Nat}{w w':MX}{wd Dk:MZ}{T T':MV}
theorem Zd:qW (Qj p m w wd T)=aI (.T,[.int p,.tup<|xU (m+1) λk=>(wd k:Int),.tup (kQ m w wd T)]):=rfl
end
section
variable{p:Int}
noncomputable def Wv(h w:Nat)(f:MK):List D:=(Ez h).map λi=>D.lst<|xU w<|f i
@[simp] theorem pC(h w f):(Wv h w f).length=h:=by simp[Wv]
end
@[simp] theorem lG(r):vO (.nest r) = .no:=rfl
@[simp] theorem oF(r):vO (.own r) = .no:=rfl
@[simp] theorem oE(d):vO (.val d) = .val d:=rfl
@[simp] theorem rH:vO .no = .no:=rfl
def BA(w:MX)(k:Nat):Nat:=if w k then k+1 else k
def Bx(w:MX)(k:Nat):Nat:=if w k then k else k+1
theorem eE(w:MX)(wd:MZ)(k):ni w wd k=wd (Bx w k):=by unfold ni Bx;split<;>rfl
theorem cO(w:MX)(wd:MZ)(k):m8 w wd k=wd (BA w k):=by unfold m8 BA;split<;>rfl
section
variable{p:Int}{m:Nat}{w:MX}{wd:MZ}{f g T:MV}
theorem Je(m:Nat)(F:Nat->D):vh ((Ez m).map F)=(Ez m).map λ(k:Nat)=>D.tup [.int k,F k]:=by unfold vh;rw[EE,Ic];apply FH;intro k a;have a:=Fd.mp a;simp[a]
end
theorem zm(h:F γ=aI (.next γ'))(g:G γ'=r):zF F G γ=r:=by rw[jc,h];exact g
theorem jr(h:F (jM n ds)=aI (.ret r)):jG n F ds=aI r:=by show(F<|jM n ds).bind _=_;rw[h];rfl
theorem QH{T:Tg}{F:CO Fl}(P:Nat->Ctx->Prop)(n:Nat){γ:Ctx}(G:P 0 γ)(step : ∀s,s<n->∀γ,P s γ->∃B z,xo T (.int (s:Int)) γ=aI B/\F B=aI (.next z)/\P (s+1) z) :
 ∃γ',yr T F ((Ez n).map λ(i:Nat)=>D.int (i:Int)) γ=aI (.next γ')/\P n γ':=by
 have I : ∀(k s:Nat) (γ:Ctx),s+k=n->P s γ->∃γ',yr T F ((Ib s k).map λ(i:Nat)=>D.int (i:Int)) γ=aI (.next γ')/\P n γ':=by
  intro k
  induction k with
  | zero=>
   intro s γ e a;obtain rfl:s=n:=by omega
   exact⟨γ,rfl,a⟩
  | succ k O=>
   intro s γ e a;obtain⟨B,z,b,d,R⟩:=step s ⋯ γ a;obtain⟨γ',U,W⟩:=O (s+1) z ⋯ R;refine⟨γ',?_,W⟩;rw[GP,Fb,xu,b];simp only[EA,d];exact U
 have:=I n 0 γ ⋯ G;rw[<- FQ]at this;exact this
theorem Z9(P:Nat->Ctx->Prop)(n:Nat)(I:n<=lim)(H:f γ=aI (.int (n:Int)))(G:P 0 γ)(step : ∀s,s<n->∀γ,P s γ->∃z B,xo T (.int (s:Int)) γ=aI z/\F z=aI (.next B)/\P (s+1) B) :
 ∃γ',Z1 (je f) T F γ=aI (.next γ')/\P n γ':=by
 obtain⟨γ',e,a⟩:=QH P n G step;refine⟨γ',?_,a⟩;have b:=jj;have r:inR (n:Int)=cI:=k7 ⋯ ⋯;rw[KW,vo,H];simp only[EA,JV,r,if_true,Ij,qU];rw[jS n λi=>(i:Int)];exact e
noncomputable def XZ(bs:List (Int×Int)):List D:=bs.map λb=>D.tup [.int b.1,.int b.2]
@[simp] theorem pM(bs):(XZ bs).length=bs.length:=by simp[XZ]
noncomputable def fF(bs:List (Int×Int)):List (Int×Int):=(nL bs).map λi=>bs.getD i (0,0)
@[simp] def sA:=@mJ.eq_1
section ap
variable(γ:Ctx)
@[simp] def sv:=@kT.eq_1
@[simp] def sG:=@cY.eq_1
@[simp] def sH:=@qZ.eq_1
@[simp] def BN:=@aH.eq_1
end ap
noncomputable def CV(b:Int×Int)(r:Int):Bool:=decide (b.1<=r) && decide (r<=b.2)
noncomputable def dw(bs:List (Int×Int))(r:Int):List Nat:=(Ez bs.length).filter λi=>CV (bs.getD i (0,0)) r
def uJ(l:List Nat):List D:=l.map λ(i:Nat)=>D.int i
@[simp] theorem rJ(l):(uJ l).length=l.length:=by simp[uJ]
section
variable{p:Int}{m:Nat}{w:MX}{wd:MZ}{T S:MV}
theorem Yy(a b:D):zX [.tup [a,b],.int 2]=aI (.val<|.bl cI):=by rfl
end
def h9(x:Str):List Nat:=x.cps.toList
theorem qV(a b:Str):h9 (a++b)=h9 a++h9 b:=by show(a.cps++b.cps).toList=_;simp[h9]
theorem yT{a b:Str}(h:h9 a=h9 b):a=b:=by obtain⟨a⟩:=a;obtain⟨b⟩:=b;have h:a.toList=b.toList:=h;rw[<- Array.toArray_toList (xs:=a),h,Array.toArray_toList]
theorem zY(a:Str):a.length=(h9 a).length:=by show a.cps.size=_;simp[h9]
theorem Wr(a:Str):EU++a=a:=yT (by rw[qV];rfl)
noncomputable def ki(c:Nat):List (List Nat)->List Nat
 | []=>[]
 | [a]=>a
 | a::b::r=>a++c::ki c (b::r)
theorem kh(c:Nat) : ∀l:List Str,h9 (GS (ja c) l)=ki c (l.map h9)
 | []=>rfl
 | [a]=>rfl
 | a::b::l=>by have z:=kh c (b::l);show h9 ((a++ja c)++GS (ja c) (b::l))=_;rw[qV,qV,z];show(h9 a++[c])++_=h9 a++c::_;simp
theorem KJ{c:Nat} : ∀{a I x B:List Nat},c∉a->c∉I->a++c::x=I++c::B->a=I/\x=B
 | [],[],x,B,_,_,h=>by injection h with _ h;exact⟨rfl,h⟩
 | [],b::I,x,B,_,h2,h=>by injection h with h _;exact absurd (by rw[h];exact EN) h2
 | b::a,[],x,B,h1,_,h=>by injection h with h _;exact absurd (by rw[<- h];exact EN) h1
 | b::a,b'::I,x,B,h1,h2,h=>by injection h with e h;obtain⟨d,f⟩:=KJ (λz=>h1<|EK _ z) (λz=>h2<|EK _ z) h;exact⟨by rw[e,d],f⟩
theorem QG{c:Nat} : ∀{l z:List (List Nat)},l ≠ []->z ≠ []->(∀a∈l,c∉a)->(∀a∈z,c∉a)->ki c l=ki c z->l=z
 | [],_,h,_,_,_,_=>absurd rfl h
 | _,[],_,h,_,_,_=>absurd rfl h
 | [a],[a'],_,_,_,_,h=>by rw[show a=a' from h]
 | [a],a'::B::r',_,_,h1,_,h=>by have h:a=a'++c::ki c (B::r'):=h;exact absurd (by rw[h];simp)<|h1 a EN
 | a::b::r,[a'],_,_,_,h2,h=>by have h:a++c::ki c (b::r)=a':=h;exact absurd (by rw[<- h];simp)<|h2 a' EN
 | a::b::r,a'::B::r',_,_,h1,h2,h=>by obtain⟨e,f⟩:=KJ (h1 a EN) (h2 a' EN) h;rw[e,QG (List.cons_ne_nil b r) (List.cons_ne_nil B r') (λx d=>h1 x<|EK _ d) (λx d=>h2 x<|EK _ d) f]
theorem Yi{c:Nat}{l:List Str}(G:l ≠ [])(h : ∀a∈l,c∉h9 a):Fk (GS (ja c) l) (ja c)=l:=by
 have e:=StrLaws.join_split (GS (ja c) l)<|ja c;have f:=congrArg h9 e;rw[kh,kh]at f;have g:Fk (GS (ja c) l) (ja c) ≠ []:=λz=>by have:=PyProof.Rows.split_pos (GS (ja c) l)<|ja c;rw[z]at this;simp at this
 have:=QG (by simpa using g) (by simpa using G) (λa b=>by
  obtain⟨x,d,rfl⟩:=FA.mp b;exact StrLaws.split_free _ c x d) (λa b=>by
  obtain⟨x,d,rfl⟩:=FA.mp b;exact h x d) f
 exact List.map_inj_right (λ_ _ z=>yT z) |>.mp this
theorem Q8{n:Int}(G:0<=n)(h:n<10):xR n=ja (48+n.toNat):=by
 have : ∀k:Fin 10,xR ((k:Nat):Int)=ja (48+k):=by decide +kernel
 have e:=this ⟨n.toNat,by omega⟩;rw[show(((⟨n.toNat,by omega⟩:Fin 10):Nat):Int)=n by show((n.toNat:Nat):Int)=n;omega]at e;exact e
theorem Qm{n:Int}(G:0<=n)(H:n<10 ^ 10):Ia (xR n)=aI n:=PySem.W.KIN.num_reads G H
theorem vM{G:Type}(xs:List G) : ∀(c a:Nat),((Ez c).map (a + ·)).filterMap (λi=>xs[i]?)=(xs.drop a).take c
 | 0,a=>by simp
 | c+1,a=>by
  rw[List.range_succ_eq_map,Fb,FC];have e:(Ez c).map ((a + ·)∘Nat.succ)=(Ez c).map (a+1 + ·):=FH λk _=>by show a+(k+1)=a+1+k;omega
  rw[e];by_cases h:a<xs.length
  ·rw[Gy (b:=xs[a]) (by show xs[a+0]? = _;rw[Nat.add_zero,Ey h]),vM xs c<|a+1,Gs h,List.take_succ_cons]
  ·rw[GX (by show xs[a+0]? = _;rw[Nat.add_zero,GR ⋯]),vM xs c<|a+1,GK ⋯,GK ⋯]
   simp
theorem ku{x:Str}{lo hi:Option Int}{a b:Nat}(h:Fs lo hi 1 x.length=sliceRange a b 1)(B:b<=x.length):h9 (FV x lo hi)=((h9 x).drop a).take (b - a):=by
 have e:=sliceRange_one a b;unfold FV;split
 ·next d=>
  rw[h,e]at d;simp only[BEq.rfl,Hw,beq_iff_eq,EE,Ic]at d;have:a=0\/x.length=0:=by omega
  have f:=zY x;rcases this with z | z
  ·subst z
   rw[IV,G3 ⋯]
  ·have:h9 x=[]:=Fj ⋯
   rw[this];simp
 ·rw[h,e]
  show(List.filterMap _ _).toArray.toList=_;have:=vM (h9 x) (b - a) a;rw[<- this];simp[h9]
section
variable{x:Str}{c d:Nat}{t:List Nat}
theorem Xb(h:h9 x=c::(t++[d])):FV x cS (aI 1)=ja c:=by
 have e:=zY x;rw[h]at e;simp at e;refine yT ?_;rw[ku (a:=0) (b:=1) ?_ ⋯,h]
 ·rfl
 ·unfold Fs
  simp;congr 1;omega
theorem Yk(h:h9 x=c::(t++[d])):FV x (aI (-1)) cS=ja d:=by
 have e:=zY x;rw[h]at e;simp at e;refine yT ?_;rw[ku (a:=t.length+1) (b:=t.length+2) ?_ ⋯,h]
 ·rw[List.drop_succ_cons,List.drop_left];rw[show t.length+2 - (t.length+1)=1 by omega];rfl
 ·unfold Fs
  simp;congr 1<;>omega
theorem w6(h:h9 x=c::(t++[d])):h9 (FV x (aI 1)<|some (-1))=t:=by
 have e:=zY x;rw[h]at e;simp at e;rw[ku (a:=1) (b:=t.length+1) ?_ ⋯,h]
 ·rw[List.drop_succ_cons,IV,show t.length+1 - 1=t.length by omega,List.take_left]
 ·unfold Fs
  simp;congr 1<;>omega
end
theorem Zu:("/" : Str)=ja 47:=by decide +kernel
theorem k4:(" " : Str)=ja 32:=by decide +kernel
theorem Kx:("-" : Str)=ja 45:=by decide +kernel
theorem oM:(">" : Str)=ja 62:=by decide +kernel
theorem oK:("<" : Str)=ja 60:=by decide +kernel
theorem Zv:(":" : Str)=ja 58:=by decide +kernel
theorem wL{γ:Ctx}{f:CO D}{q:CO (Sk×List D)}{sep:Str}{l:List Str}(G:f γ=aI (.str sep))(I:q γ=aI (.L,l.map D.str))(H:l.length<=lim)(z : ∀x∈l,zy x=cI)(hs:zy sep=cI):wo f q γ=aI (.str<|GS sep l):=by
 rw[lh,G,I];have st:vB (l.map D.str)=aI l:=by
  have:=yP (λx:Str=>x) l
  rwa [List.map_id']at this
 simp only[EA,st];rw[MY ⟨H,EY.mpr z,hs⟩]
section
variable{v h:Nat}{g:Nat->Int}{f:MK}
noncomputable def ag(v:Nat)(g:Nat->Int):Str:=GS "" ((Ez v).map λj=>xR (g j))
noncomputable def mi(h v:Nat)(f:MK):Str:=GS (ja 47)<|(Ez h).map λi=>ag v<|f i
theorem KB(z : ∀j,0<=g j/\g j<10):h9 (ag v g)=(Ez v).map λj=>48+(g j).toNat:=by have:=vP<|(Ez v).map λj=>48+(g j).toNat;rw[FC]at this;unfold ag;rw[show((Ez v).map λj=>xR<|g j)=(Ez v).map (ja∘λj=>48+(g j).toNat)from FH λj _=>Q8 (z j).1 (z j).2];exact this
theorem Wn(z : ∀j,0<=g j/\g j<10)(B:v<=1000):zy (ag v g)=cI:=decide_eq_true (by rw[zY,KB z];simpa using B)
theorem Y4:h9 (mi h v f)=ki 47 ((Ez h).map λi=>h9<|ag v<|f i):=by unfold mi;rw[kh,FC];rfl
theorem JN{c:Nat} : ∀{l:List (List Nat)} {x:Nat},x∈ki c l->x=c\/∃a∈l,x∈a
 | [],x,h=>by cases h
 | [a],x,h=> .inr ⟨a,EN,h⟩
 | a::b::r,x,h=>by
  rcases Fm.mp (show x∈a++c::ki c (b::r)from h)with h | h
  ·exact .inr ⟨a,EN,h⟩
  ·rcases ED.mp h with h | h
   ·exact .inl h
   ·rcases JN h with h | ⟨y,h1,h2⟩
    ·exact .inl h
    ·exact .inr ⟨y,EK _ h1,h2⟩
theorem wN{c n:Nat} : ∀{l:List (List Nat)},(∀a∈l,a.length<=n)->(ki c l).length<=l.length*(n+1)
 | [],_=>by simp[ki]
 | [a],h=>by have:=h a EN;simp[ki];omega
 | a::b::r,h=>by have f:=h a EN;have d:=wN (c:=c) (l:=b::r) λx e=>h x<|EK _ e;simp only[ki,Fc,FL]at d ⊢;rw[Nat.succ_mul];omega
theorem J7(G : ∀i j,0<=f i j/\f i j<10){x:Nat}(hx:x∈h9 (mi h v f)):47<=x/\x<=57:=by
 rw[Y4]at hx;rcases JN hx with e | ⟨a,ha,hx⟩
 ·omega
 ·obtain⟨i,_,rfl⟩:=FA.mp ha
  rw[KB (G i)]at hx;obtain⟨j,_,rfl⟩:=FA.mp hx;have:=G i j;omega
theorem yN(G : ∀i j,0<=f i j/\f i j<10)(z:h<=20)(B:v<=20):(mi h v f).length<=420:=by
 rw[zY,Y4];have:=wN (c:=47) (n:=20) (l:=(Ez h).map λi=>h9<|ag v<|f i) λa b=>by obtain⟨i,_,rfl⟩:=FA.mp b;rw[KB (G i)];simpa using B
 rw[EE,Ic]at this;have:=Lv 21 z;omega
end
section
variable{p:Int}{m:Nat}{w:MX}{wd:MZ}{T:MV}
noncomputable def Yg(w:MX)(wd:MZ)(T:MV)(k:Nat):Str:=mi (ni w wd k) (m8 w wd k)<|T k
noncomputable def YR(w:MX)(wd:MZ)(T:MV)(k:Nat):Str:=if w k=cI then (ja 60++Yg w wd T k)++ja 45 else (ja 45++Yg w wd T k)++ja 62
theorem uS(h : ∀k,wd k<=20)(k:Nat):ni w wd k<=20:=by rw[eE];exact h _
theorem ly(h : ∀k,wd k<=20)(k:Nat):m8 w wd k<=20:=by rw[cO];exact h _
theorem Yf(z : ∀k i j,0<=T k i j/\T k i j<10)(h : ∀k,wd k<=20)(k:Nat):zy (Yg w wd T k)=cI:=decide_eq_true<|EX (yN (z k) (uS h k)<|ly h k) ⋯
noncomputable def q9(p:Int)(w:MX)(wd:MZ)(T:MV):Nat->List Str
 | 0=>[xR p++ja 58,xR (wd 0:Int)]
 | s+1=>q9 p w wd T s++[YR w wd T s,xR (wd (s+1):Int)]
theorem yL(s:Nat):(q9 p w wd T s).length=2*s+2:=by
 induction s with
 | zero=>rfl
 | succ s z=>simp[q9,z];omega
end
section
variable{p:Int}{m:Nat}{w:MX}{wd:MZ}{T:MV}
noncomputable def mQ(p:Int)(m:Nat)(w:MX)(wd:MZ)(T:MV):Str:=GS (ja 32)<|q9 p w wd T m
theorem kR{n:Int}(G:0<=n)(h:n<=30):zy (xR n)=cI:=by
 have : ∀k:Fin 31,zy (xR ((k:Nat):Int))=cI:=by decide +kernel
 have e:=this ⟨n.toNat,by omega⟩;rw[show(((⟨n.toNat,by omega⟩:Fin 31):Nat):Int)=n by show((n.toNat:Nat):Int)=n;omega]at e;exact e
theorem iV(z : ∀k i j,0<=T k i j/\T k i j<10)(h : ∀k,wd k<=20)(k:Nat):(YR w wd T k).length<=422:=by
 have:=yN (z k) (uS (w:=w) h k)<|ly (w:=w) h k;have e:(YR w wd T k).length=(Yg w wd T k).length+2:=by rw[zY,zY];unfold YR;split<;>rw[qV,qV]<;>simp[h9,ja]<;>omega
 rw[e];unfold Yg;omega
theorem ZW(G:p=2\/p=3\/p=5\/p=7)(z : ∀k i j,0<=T k i j/\T k i j<10)(h : ∀k,wd k<=20) : ∀s,∀x∈q9 p w wd T s,zy x=cI
 | 0,x,hx=>by
  rcases ED.mp hx with rfl | hx
  ·rcases G with rfl | rfl | rfl | rfl<;>decide +kernel
  ·rw[Fh.mp hx]
   exact kR ⋯ (by have:=h 0;omega)
 | s+1,x,hx=>by
  rcases Fm.mp hx with hx | hx
  ·exact ZW G z h s x hx
  ·rcases ED.mp hx with rfl | hx
   ·exact decide_eq_true<|EX (iV z h s) ⋯
   ·rw[Fh.mp hx]
    exact kR ⋯ (by have:=h<|s+1;omega)
theorem yS{γ:Ctx}{f:CO D}{n:Int}(G:f γ=aI (.int n))(H:0<=n)(h:n<=30):yp f γ=aI (.str<|xR n):=by have r:inR n=cI:=k7 ⋯ ⋯;show((f γ).bind o4).bind _=_;rw[G];show(aI n).bind _=_;rw[EA,MY r]
end
theorem JJ{n k:Nat}{i:Int}(h:i=(k:Int))(G:k<n):m7 n i=aI k:=by rw[h,jR,MY G]
theorem oH:km=jG 6 (zF OK (zF (Z1 (je (qO (jf (gC (zh 0) (ze (.int 2)))))) (.nm 2) (zF rN (zF rM (zF rL rK)))) (jY (wo (ze (.str " ")) (zh 1))))):=rfl
theorem aD{h v:Nat}{f:MK}(G : ∀i j,0<=f i j/\f i j<10)(O:v<=20):zW (.nm 0) jo (wo (ze (.str "")) (zI (zM (zQ (zh 0)) (.nm 0) 1 [] jo (yp (zd 0))))) [.no] (ZS h v f)=aI (((Ez h).map λi=>ag v (f i)).map D.str):=by
 have b:=jj;have z:v<=lim:=by omega
 have B:zy "" = cI:=by decide +kernel
 have I : ∀i,zW (.nm 0) jo (yp<|zd 0) [.no] (xU v<|f i)=aI (((Ez v).map λj=>xR<|f i j).map D.str):=λi=>by rw[jS,FC];refine zE _ _ λj _=>zG rfl rfl ?_;have:=G i j;exact yS rfl ⋯ ⋯
 have row : ∀i,wo (ze (.str "")) (zI (zM (zQ (zh 0)) (.nm 0) 1 [] jo (yp (zd 0)))) [.val (.tup (xU v (f i)))]=aI (.str (ag v (f i))):=λi=>by
  refine wL rfl ?_ (by simpa using z) (λx a=>?_) B
  ·simp[z,qS,EC,I]
  ·obtain⟨j,_,rfl⟩:=FA.mp a
   rw[Q8 (G i j).1 (G i j).2];rfl
 unfold ZS;rw[FC];exact zE _ _ λi _=>zG rfl rfl<|row i
section
variable{p:Int}{m:Nat}{w:MX}{wd:MZ}{T:MV}
theorem qY{γ:Ctx}{f g:CO D}{x y:Str}(G:f γ=aI (.str x))(z:g γ=aI (.str y))(hx:zy x=cI)(B:zy y=cI):xf f g γ=aI (.str<|x++y):=by show(f γ).bind _=_;rw[G];show(g γ).bind _=_;rw[z];show(if zy x=cI/\zy y=cI then aI (D.str<|x++y)else cS)=_;rw[MY ⟨hx,B⟩]
theorem XD(G:p=2\/p=3\/p=5\/p=7)(Z:m<=5)(I : ∀k i j,0<=T k i j/\T k i j<10)(h : ∀k,wd k<=20):km [Qj p m w wd T]=aI (.val<|.str<|mQ p m w wd T):=by
 have Q:=jj;let R:=Qj p m w wd T;have W:zy (FD "-")=cI:=by decide +kernel
 have L:zy (FD ">")=cI:=by decide +kernel
 have M:zy (FD "<")=cI:=by decide +kernel
 obtain⟨γ',K,d,O,U,b,rfl⟩:=Z9 (T:= .nm 2) (F:=zF rN<|zF rM<|zF rL rK) (f:=qO<|jf<|gC (zh 0)<|ze<|.int 2)
  (λs γ=>∃d O U b,γ=[.val R,.own<|(q9 p w wd T s).map D.str,d,O,U,b]) m ⋯ (γ:=[.val R,.own<|(q9 p w wd T 0).map D.str,.no,.no,.no,.no])
  (by simp[R,Zd]) ⟨_,_,_,_,rfl⟩ λs r γ e=>by
    obtain⟨d,O,U,b,rfl⟩:=e;let B:D:= .str (ja<|t2<|w s);let a:=KD (ni w wd s) (m8 w wd s)<|T s;let z:=Yg w wd T s;have Y:zy z=cI:=Yf (w:=w) I h s;have o:=uS (w:=w) h s;refine⟨_,[.val R,.own<|(q9 p w wd T<|s+1).map D.str,.val<|.int s,.val B,.val a,.val (.str z)],rfl,?_,_,_,_,_,rfl⟩;refine zm (γ':=[.val R,.own<|(q9 p w wd T s).map D.str,.val<|.int s,.val B,.val a,b]) ?_ (zm (γ':=[.val R,.own<|(q9 p w wd T s).map D.str,.val<|.int s,.val B,.val a,.val (.str z)]) ?_ (zm (γ':=[.val R,.own<|(q9 p w wd T s).map D.str++[.str (YR w wd T s)],.val<|.int s,.val B,.val a,.val (.str z)]) ?_ ?_))
    ·simp[rN,R,Zd,r]
     rw[cH];rfl
    ·have dl:(ZS (ni w wd s) (m8 w wd s)<|T s).length<=lim:=by simp[ZS];omega
     have C:zy "/" = cI:=by decide +kernel
     have j:=wL (γ:=[.val R,.own ((q9 p w wd T s).map D.str),.val (.int s),.val B,.val a,b]) (f:=ze (.str "/")) (q:=zI (zM (zQ (jf (gC (zh 4) (ze (.int 2))))) (.nm 0) 1 [] jo (wo (ze (.str "")) (zI (zM (zQ (zh 0)) (.nm 0) 1 [] jo (yp (zd 0))))))) (sep:="/") (l:=(Ez (ni w wd s)).map λi=>ag (m8 w wd s) (T s i)) rfl
      (by
       show(FY _<|if (ZS (ni w wd s) (m8 w wd s)<|T s).length<=lim then zW _ _ _ [.no] (ZS (ni w wd s) (m8 w wd s)<|T s)else cS)=_;rw[MY dl,aD (I s) (ly h s)];rfl) (by simp;omega) (λx E=>by obtain⟨i,_,rfl⟩:=FA.mp E;have:=ly (w:=w) h s;exact Wn (I s i) ⋯) C
     unfold rM;rw[jV];refine(congrArg (FY _) j).trans ?_;rw[Zu];rfl
    ·let γ:Ctx:=[.val R,.own<|(q9 p w wd T s).map D.str,.val<|.int s,.val B,.val a,.val (.str z)]
     have u:xf (xf (ze (.str "-")) (zd 5)) (ze (.str ">")) γ=aI (.str ((("-" : Str)++z) ++ ">")):=qY (qY rfl rfl W Y) rfl (decide_eq_true (by
      have:=yN (I s) o<|ly (w:=w) h s;rw[zY,qV,Fc,<- zY,<- zY];show 1+(Yg w wd T s).length<=1000;unfold Yg;omega)) L
     have y:xf (xf (ze (.str "<")) (zd 5)) (ze (.str "-")) γ=aI (.str ((("<" : Str)++z) ++ "-")):=qY (qY rfl rfl M Y) rfl (decide_eq_true (by
      have:=yN (I s) o<|ly (w:=w) h s;rw[zY,qV,Fc,<- zY,<- zY];show 1+(Yg w wd T s).length<=1000;unfold Yg;omega)) W
     have A:aJ "r" "l" (xf (xf (ze (.str "-")) (zd 5)) (ze (.str ">"))) (xf (xf (ze (.str "<")) (zd 5)) (ze (.str "-"))) (zd 3) γ=aI (.str (YR w wd T s)):=by
      unfold aJ;rw[u,y];show(if ("r" : Str) = "l" then cS else if ja (t2 (w s)) = "r" then aI (D.str ((("-" : Str)++z) ++ ">"))else if ja (t2 (w s)) = "l" then aI (D.str ((("<" : Str)++z) ++ "-"))else cS)=_;rw[RQ ⋯];unfold YR;rw[Kx,oM,oK];cases hw:w s
      ·rw[MY ⋯,RQ ES]
      ·rw[RQ ⋯,MY ⋯,MY rfl]
     unfold rL;show(aI ((q9 p w wd T s).map D.str)).bind _=_;rw[EA];refine(congrArg (Option.bind · _) A).trans ?_;rw[EA,MY (by rw[EE,yL];omega)];rfl
    ·have st:=yS (γ:=[.val R,.own<|(q9 p w wd T s).map D.str++[.str (YR w wd T s)],.val<|.int s,.val B,.val a,.val (.str z)]) (f:=gC (jf<|gC (zh 0)<|ze<|.int 1)<|zo qC (zd 2)<|ze<|.int 1) (n:=(wd (s+1):Int)) (by
      have x1:m7 (m+1) ((s:Int)+1)=aI (s+1):=JJ ⋯ ⋯;simp[R,Zd,x1,r]) ⋯ (by have:=h<|s+1;omega)
     unfold rK;show(aI _).bind _=_;rw[EA,st,EA,MY (by rw[Fc,EE,yL];simp;omega)];simp[q9]
 have P:zy " " = cI:=by decide +kernel
 have H:=wL (γ:=[.val R,.own ((q9 p w wd T m).map D.str),d,O,U,b]) (f:=ze (.str " ")) (q:=zh 1) (sep:=" ") (l:=q9 p w wd T m) rfl rfl (by rw[yL];omega) (ZW G I h m) P;rw[oH];refine jr (zm (γ':=[.val R,.own ((q9 p w wd T 0).map D.str),.no,.no,.no,.no]) ?_ (zm K ?_))
 ·have st:=yS (γ:=[.val R,.no,.no,.no,.no,.no]) (f:=gC (jf<|gC (zh 0)<|ze<|.int 1)<|ze<|.int 0) (n:=(wd 0:Int)) (by simp[R,Zd]) ⋯ (by have:=h 0;omega)
  have N:zy (xR p)=cI:=kR ⋯ ⋯;have t:=qY (γ:=[.val R,.no,.no,.no,.no,.no]) (f:=yp (gC (zh 0) (ze (.int 0)))) (g:=ze (.str ":")) (yS (by simp[R,Zd]) (show 0<=p by omega) ⋯) rfl N ⋯;rw[Zv]at t;have J:2<=lim:=by omega
  show OK [.val R,.no,.no,.no,.no,.no]=_;unfold OK;rw[Zv];simp[st,t,J,q9]
 ·rw[yB]
  refine(congrArg (FY _) H).trans ?_;rw[k4];rfl
end
def b1:=(i1 (z9<|sB<|zw Jl<|zb (zd 1) zB) jO zU)
def b2:=(jF 3<|zo qC (yq<|zd 1)<|ze<|.int 1)
noncomputable def b3:=(i1 (z9<|sB<|ZN<|zI<|zM (zQ<|zh 2) (.nm 0) 1 [3] jo (zw wg<|zb (zd 1)<|zb (zd 0) zB)) jO zU)
def b4:=(jF 4<|xX<|mJ<|zh 2)
noncomputable def b5:=(jF 5<|xX<|zM (je<|zd 3) (.nm 0) 1 [4] jo (xX<|kU W5<|zb (zd 1)<|zb (zd 0) zB))
noncomputable def b6:=(jF 6<|jg<|zI<|zM (zQ<|zh 5) (.nm 0) 1 [] jo (qO<|zh 0))
def b7:=(i1 (sB<|zo wy (fQ<|zh 6)<|ze<|.int 30) jO zU)
noncomputable def b8:=(jF 7<|xX<|zM (cY<|zd 1) (.tp [0,1]) 2 [5] jo (xM<|zb (zd 1)<|zb (zw X7<|zb (gC (zh 2)<|zw jE<|zb (zd 0)<|zb (zd 1) zB)<|zb (gC (zh 2)<|zw jm<|zb (zd 0)<|zb (zd 1) zB) zB) zB))
def b9:=(jY<|xM<|zb (zd 0)<|zb (zd 6)<|zb (jg<|zh 7) zB)
noncomputable def x1:CO Xn:=(oI (z9 (sB (zw Jl (zb (zd 1) zB)))) (YU "NoRow") n7)
noncomputable def x3:CO Xn:=(oI (z9 (sB (ZN (zI (zM (zQ (zh 2)) (.nm 0) 1 [3] jo (zw wg (zb (zd 1) (zb (zd 0) zB)))))))) (YU "NoRow") n7)
noncomputable def x7:CO Xn:=(oI (sB (zo wy (fQ (zh 6)) (ze (.int 30)))) (YU "TooMany") n7)
noncomputable def mR(m:Nat)(bs:List (Int×Int)):List D:=(Ez<|m+1).map λ(r:Nat)=>D.lst<|uJ<|dw bs r
noncomputable def fe(m:Nat)(bs:List (Int×Int)):List D:=xU (m+1) λr=>((dw bs r).length:Int)
section
variable{p:Int}{m:Nat}{w:MX}{bs:List (Int×Int)}
abbrev g0(p:Int)(z:Str)(bs:List (Int×Int)):Ctx:=[.val (.int p),.val (.str z),.val (.lst (XZ bs)),.no,.no,.no,.no,.no]
abbrev g2(p:Int)(z:Str)(m:Nat)(bs:List (Int×Int)):Ctx:=[.val (.int p),.val (.str z),.val (.lst (XZ bs)),.val (.int ((m+1:Nat):Int)),.no,.no,.no,.no]
abbrev g6(p:Int)(z:Str)(m:Nat)(bs:List (Int×Int)):Ctx:=[.val (.int p),.val (.str z),.val (.lst (XZ bs)),.val (.int ((m+1:Nat):Int)),.val (.lst (XZ (fF bs))),.val (.lst (mR m (fF bs))),.val (.tup (fe m (fF bs))),.no]
end
@[simp] theorem lH(h w f):(Wv h w f).length=h:=by simp[Wv]
section
variable{p:Int}{h w q r:Nat}
def app(f:MK)(w:Nat)(v:Vc):Vc:=λi=>Q9 (λj=>f i j*v j) w
end
@[simp] def sP:=@Bg.eq_1
section
variable{p:Int}{m:Nat}{w:MX}{wd:MZ}{T:MV}{a:Nat}
abbrev lk(p:Int)(m:Nat)(w:MX)(wd:MZ)(T:MV)(i j:Int)(a:Nat)(ds:List D)(c:Cell):Ctx:=[.val (Qj p m w wd T),.val (.int i),.val (.int j),.val (KD a a λi j=>if i=j then 1 else 0),.own ds,c]
end
@[simp] def pY:=@fV.eq_1
noncomputable def B7:=(fV 7<|zM (zQ<|zh 6) (.nm 0) 1 [0,1,5,8,9] (sB<|zw ZF<|zb (zd 1)<|zb (gC (jf<|gC (zh 2)<|ze<|.int 2)<|zd 3)<|zb (zd 5)<|zb (zd 0) zB) (xM<|zb (zd 4)<|zb (zd 0) zB))
@[simp] theorem pZ(γ:Ctx)(f):cY f γ=(f γ).bind λd=>match d with
 | .str z=>if zy z=cI then aI (vh<|kF z)else cS
 | _=>cS:=rfl
@[simp] theorem sO(γ:Ctx)(f g):xf f g γ=(f γ).bind λd=>(g γ).bind λe=>match d,e with
 | .str x,.str y=>if zy x=cI/\zy y=cI then aI (.str<|x++y)else cS
 | _,_=>cS:=rfl
def pr(a b:Nat):D:= .tup [.int a,.int b]
@[simp] theorem Bk(a b):qW (pr a b)=aI (.T,[.int (a:Int),.int (b:Int)]):=rfl
noncomputable def mk(lo:Nat)(ch:List Int)(r:Nat):Int:=if lo<=r then ch.getD (r - lo) 0 else 0
section
variable{m a b c d:Nat}{w:MX}
noncomputable def sg(m:Nat)(w:MX)(a b c d:Nat)(z B G H:Cell):Ctx:=[.val (.str<|J5 m w),.val<|pr a b,.val<|pr c d,z,B,G,H]
end
noncomputable def uK(h w:Nat)(f:MK):List D:=(Ez h).map λi=>D.lst<|xU w<|f i
@[simp] theorem rP(h w f):(uK h w f).length=h:=by simp[uK]
noncomputable def tm(m:Nat)(w:MX)(wd:MZ)(T:MV):List D:=(Ez m).map λk=>D.lst<|uK (ni w wd k) (m8 w wd k)<|T k
noncomputable def Yu(m:Nat)(w:MX)(wd:MZ)(T:MV):D:= .tup [.lst (xU (m+1) λk=>(wd k:Int)),.lst (tm m w wd T)]
noncomputable def oZ(m:Nat)(w:MX)(wd G:MZ)(J:MV):List D:=(Ez m).map λk=>KD (ni w wd k) (m8 w G k)<|J k
section
variable{p:Int}{m:Nat}{w:MX}{bs:List (Int×Int)}
abbrev L0(p:Int)(z:Str)(m:Nat)(bs:List (Int×Int)):Ctx:=[.val (.int p),.val (.str z),.val (.lst (XZ bs)),.val (.int ((m+1:Nat):Int))]
end
section ap
variable(γ:Ctx)
@[simp] def AJ:=@xf.eq_1
@[simp] def pU:=@vD.eq_1
@[simp] theorem Ax(f):vw f γ=((f γ).bind o4).map λi=> .int (-i):=rfl
@[simp] theorem Aq(f l h):Qf f l h γ=(f γ).bind λa=>(l γ).bind λlo=>(h γ).bind λhi=>match a.1 with
 | .L=>aI (KL a.2 lo hi)
 | .T=>cS:=rfl
@[simp] def lM:=@ro.eq_1
end ap
theorem WC{γ:Ctx}{f:CO D}{q:Int}(H:f γ=aI (.int q))(G:0<=q)(h:q<=30):Xf [lz f,ze (.str ":")] γ=aI (.str (xR q++ja 58)):=by
 have a:zy (FD ":")=cI:=by decide +kernel
 have b:zy (xR q)=cI:=kR G h;have r:inR q=cI:=k7 ⋯ ⋯;rw[<- Zv];simp[Xf,Vi,lz,Bu,Am,H,r,a,b,Wr]
theorem xS{γ:Ctx}{f:CO D}{l h:CO (Option Int)}{x:Str}{lo hi:Option Int}(I:f γ=aI (.str x))(hx:zy x=cI)(G:l γ=aI lo)(H:h γ=aI hi):vD f l h γ=aI (.str<|FV x lo hi):=by rw[pU,I,G,H];simp[hx]
section
variable{p:Int}{m:Nat}{w:MX}{wd:MZ}{T:MV}
theorem WU(k:Nat):h9 (YR w wd T k)=(if w k=cI then 60 else 45)::(h9 (Yg w wd T k)++[if w k=cI then 45 else 62]):=by unfold YR;split<;>rw[qV,qV]<;>rfl
end
section
variable{p:Int}{m h v:Nat}{w:MX}{wd:MZ}{T:MV}{g:Nat->Int}{f:MK}
theorem wM{γ:Ctx}{q:CO D}{n:Int}(I:q γ=aI (.str<|xR n))(G:0<=n)(H:n<=30):xT q γ=aI (.int n):=by
 show(q γ).bind _=_;rw[I,EA];show(if (xR n).length<=640 then (Ia<|xR n).map D.int else cS)=_;have b:=of_decide_eq_true<|kR G H;have a:(xR n).length<=640:=by
  have : ∀k:Fin 31,(xR ((k:Nat):Int)).length<=640:=by decide +kernel
  have e:=this ⟨n.toNat,by omega⟩;rw[show(((⟨n.toNat,by omega⟩:Fin 31):Nat):Int)=n by show((n.toNat:Nat):Int)=n;omega]at e;exact e
 rw[MY a,Qm G ⋯];rfl
end
theorem eK{H I:Type}{F:Nat->H}{g:H->Option I}{G:Nat->I} : ∀{l:List Nat},(∀k∈l,g (F k)=aI (G k))->(l.map F).filterMap g=l.map G
 | [],_=>rfl
 | k::l,h=>by rw[Fb,Gy<|h k EN,eK λx a=>h x (EK _ a)];rfl
section
variable{p:Int}{m:Nat}{w:MX}{wd:MZ}{T:MV}
theorem Kb{n:Int}(G:0<=n)(h:n<=30):32∉h9 (xR n):=by
 have : ∀k:Fin 31,32∉h9 (xR ((k:Nat):Int)):=by decide +kernel
 have e:=this ⟨n.toNat,by omega⟩;rw[show(((⟨n.toNat,by omega⟩:Fin 31):Nat):Int)=n by show((n.toNat:Nat):Int)=n;omega]at e;exact e
theorem J3(G:p=2\/p=3\/p=5\/p=7)(B : ∀k i j,0<=T k i j/\T k i j<10)(h : ∀k,wd k<=20) : ∀s,∀x∈q9 p w wd T s,32∉h9 x
 | 0,x,hx=>by
  rcases ED.mp hx with rfl | hx
  ·rcases G with rfl | rfl | rfl | rfl<;>decide +kernel
  ·rw[Fh.mp hx]
   exact Kb ⋯ (by have:=h 0;omega)
 | s+1,x,hx=>by
  rcases Fm.mp hx with hx | hx
  ·exact J3 G B h s x hx
  ·rcases ED.mp hx with rfl | hx
   ·rw[WU]
    intro z;rcases ED.mp z with z | z
    ·split at z<;>omega
    ·rcases Fm.mp z with z | z
     ·have:=J7 (B s) z;omega
     ·have:=Fh.mp z
      split at this<;>omega
   ·rw[Fh.mp hx]
    exact Kb ⋯ (by have:=h<|s+1;omega)
end
structure O3 where
 s:Nat
 n:Nat
 v:Nat->Vc
def wl(l:List Bool):Str:=⟨⟨l.map t2⟩⟩
noncomputable def uH(n k:Nat)(u:Nat->Int):Int:=if 0<k then (if k+1<n then u (k - 1)+(u (k+1)+0)else u (k - 1)+0)else if k+1<n then u (k+1)+0 else 0
noncomputable def mv(n k:Nat)(u:Nat->Int)(i:Nat):Int:=if i=k then uH n k u - u k else u i
noncomputable def off(hs ws:MZ):Nat->Nat
 | 0=>0
 | k+1=>off hs ws k+hs k*ws k
noncomputable def RB(n:Nat)(hs ws:MZ)(T:MV):List D:=(Ez n).map λk=>KD (hs k) (ws k)<|T k
noncomputable def Sw(n:Nat)(G:List Nat)(u:Nat->Int):Nat->Int:=G.foldl (λu k=>mv n k u) u
noncomputable def sw(k i:Nat):Nat:=if i=k then k+1 else if i=k+1 then k else i
noncomputable def Rn(n:Nat)(G:List Nat)(u:Nat->Int):Nat->Nat->Int
 | 0=>u
 | j+1=>Sw n G<|Rn n G u j
noncomputable def acc(n:Nat)(G:List Nat)(u:Nat->Int):Nat->Nat->Int
 | 0=>λ_=>0
 | j+1=>λi=>acc n G u j i+Rn n G u j i
noncomputable def oD(n:Nat):Option Vc->D
 | none=> .ih
 | some y=> .tup (xU n y)
abbrev TB:=Nat×Nat×(Nat->Nat->Int)
section
variable{wd:MZ}{m k N:Nat}{p:Int}{w:MX}{T:MV}{A:Nat->O3}
end
section
variable{p:Int}{m:Nat}{w:MX}{wd Dk:MZ}{T T' X J:MV}
abbrev fx(p:Int)(m:Nat)(w:MX)(wd Dk:MZ)(T T' X J:MV)(c6 c7 c8 c9 Nt Ph Pj Pk RZ:Cell):Ctx:=
 [.val (.int p),.val<|.str<|J5 m w,.val<|Yu m w wd T,.val<|Yu m w Dk T',.val<|.lst<|oZ m w wd Dk J,.val<|.lst<|RB (m+1) wd Dk X,c6,c7,c8,c9,Nt,Ph,Pj,Pk,RZ]
end
section
variable{p:Int}{m:Nat}{w:MX}{wd Dk:MZ}{T T' J:MV}
abbrev mx(ns:List Int)(p:Int)(m:Nat)(w:MX)(wd Dk:MZ)(T T':MV)(c5 c6 c7 c8 c9 Nt Ph Pj Pk:Cell):Ctx:=
 [.val (Jh ns),.val<|.int p,.val<|.str<|J5 m w,.val<|Yu m w wd T,.val<|Yu m w Dk T',c5,c6,c7,c8,c9,Nt,Ph,Pj,Pk]
end
structure Loc(p:Int)(wl wr wk N:Nat)(la ra hk:MX)(x y u:Nat->Vc)(Tl Tr:MK):Prop where
 Sy : ∀z:Vc,∃a:Vc,∀i,i<wl->z i%p=Q9 (λj=>if la j=cI then a j*x j i else 0) N%p
 Td : ∀z:Vc,∃a:Vc,∀i,i<wr->z i%p=Q9 (λj=>if ra j=cI then a j*y j i else 0) N%p
 S9 : ∀t:Vc,(∀i,i<wl->Q9 (λj=>if la j=cI then t j*x j i else 0) N%p=0)->∀j,j<N->la j=cI->t j%p=0
 inR : ∀t:Vc,(∀i,i<wr->Q9 (λj=>if ra j=cI then t j*y j i else 0) N%p=0)->∀j,j<N->ra j=cI->t j%p=0
 Se : ∀t:Vc,(∀i,i<wk->Q9 (λj=>if hk j=cI then t j*u j i else 0) N%p=0)->∀j,j<N->hk j=cI->t j%p=0
 S6 : ∀j,j<N->la j=cI->∀i,i<wk->app Tl wl (x j) i%p=(if hk j=cI then u j i else 0)%p
 S7 : ∀j,j<N->ra j=cI->∀i,i<wk->app Tr wr (y j) i%p=(if hk j=cI then u j i else 0)%p
 both : ∀j,la j=cI->ra j=cI->hk j=cI
def kI(s:Nat×Nat):List Int:=[(s.1:Int),(s.2:Int)]
def YK:List Int->Int
 | []=>0
 | x::r=>x+YK r
theorem kS : ∀L:List Int,mr (L.map D.int)=aI (YK L)
 | []=>rfl
 | x::L=>by show(mr<|L.map D.int).map _=_;rw[kS L];rfl
section
variable{p:Int}{m:Nat}{w:MX}{wd:MZ}{T:MV}
noncomputable def Y3(w:MX)(wd:MZ)(T:MV)(m:Nat):List D:=(Ez m).map λk=>D.lst<|Wv (ni w wd k) (m8 w wd k)<|T k
@[simp] theorem me(m):(Y3 w wd T m).length=m:=by simp[Y3]
abbrev rc(p:Int)(m:Nat)(w:MX)(wd:MZ)(T:MV)(acc:List D)(c5 c6 c7 c8:Cell):Ctx:=[.val (.int p),.val (.str (J5 m w)),.val (.lst (xU (m+1) λk=>(wd k:Int))),.val (.lst (Y3 w wd T m)),.own acc,c5,c6,c7,c8]
end
def u1:=(jF 1<|zw YJ<|zb (zd 0)<|zb (ze<|.int 0) zB)
noncomputable def u2:=(jF 2<|gC (zI<|ql<|zb (ze<|.int 2)<|zb (ze<|.int 3)<|zb (ze<|.int 5)<|zb (ze<|.int 7) zB)<|zo j8 (zd 1)<|ze<|.int 4)
section
variable{p:Int}{m:Nat}{w:MX}{wd Dk:MZ}{T T' S J X:MV}
abbrev rx(p:Int)(m:Nat)(w:MX)(wd Dk:MZ)(T T' X:MV)(r:Nat)(c6 c7 c8 c9 Nt:Cell):Ctx:=
 [.val (.int p),.val<|.str<|J5 m w,.val<|Yu m w wd T,.val<|Yu m w Dk T',.val<|.lst<|RB m (m8 w Dk) (ni w wd) λk i j=>X k j i,.val<|.int (r:Int),c6,c7,c8,c9,Nt]
noncomputable def DJ:=(jF 6<|xX<|zM (je<|gC (jf<|gC (zh 3)<|ze<|.int 0)<|zd 5) (.nm 0) 1 [2,5] jo (xX<|tZ (zI<|ql<|zb (ze<|.int 0) zB)<|gC (jf<|gC (zh 1)<|ze<|.int 0)<|zd 2))
end
noncomputable def gV(p:Int)(a b:Nat)(c:Int)(v:Vc):Vc:=λi=>if i=b then (v b+c*v a)%p else v i
noncomputable def bS(bs:List (Int×Int))(j:Nat):Nat:=(bs.getD j (0,0)).1.toNat
noncomputable def bE(bs:List (Int×Int))(j:Nat):Nat:=(bs.getD j (0,0)).2.toNat
section
variable{p:Int}{m a b c d:Nat}{w:MX}{f:Nat->Int}
abbrev Sf(a b r:Nat):Prop:=a<=r/\r<=b
end
section
variable{p:Int}{m:Nat}{w:MX}{K K1 K2:List (Int×Int)}{h:MV}
abbrev stK(K:List (Int×Int))(x:Nat):Nat:=(K.getD x (0,0)).1.toNat
abbrev R4(K:List (Int×Int))(x:Nat):Nat:=(K.getD x (0,0)).2.toNat
abbrev Se(K:List (Int×Int))(x r:Nat):Prop:=Sf (stK K x) (R4 K x) r
end
noncomputable def hR(g:MK)(s k:Nat):Nat->Int:=g<|if k<=s then k - 1 else k
theorem qG{G:CO Xn}{F:CO Fl}{H:CO Xn}{γ γ':Ctx}{r:Option Xn}(I:G γ=cS)(J:F γ=aI (.next γ'))(z:H γ'=r):vy G F H γ=r:=by unfold vy;rw[I,J];exact z
theorem ZV{G:CO Xn}{F:CO Fl}{H:CO Xn}{γ:Ctx}{c:Xn}(I:G γ=aI c):vy G F H γ=aI c:=by unfold vy;rw[I]
def rD(r:List Int):D:= .lst (r.map D.int)
def rG(rows:List (List Int)):D:= .lst (rows.map rD)
def D5(q:Str×List (List Int)):D:= .tup [.str q.1,rG q.2]
def DI(p:Int):Bool:=decide<|p ∈ [2,3,5,7]
theorem Vz(p:Int):qE [.int p]=aI (.val<|.bl<|DI p):=by have e:YC [D.int 2,.int 3,.int 5,.int 7]=aI [2,3,5,7]:=rfl;simp[qE,jG,jM,EC,qv,e,DI]
theorem JH(G:List D)(n:Int):zX [.lst G,.int n]=aI (.val<|.bl<|decide<|(G.length:Int)=n):=by simp[zX,jG,jM,EC,Qg,ZI]
theorem oN(w:Int)(r:List Int)(h:r.length<=lim):qj [.int w,rD r]=aI (.val<|.bl<|decide<|(r.length:Int)=w):=by
 have l:=JH (r.map D.int) w;have a:zW (.nm 0) jo (zw ji<|zb (zd 0) zB) [Cell.no] (r.map D.int)=aI (r.map λ_=>D.bl cI):=zE _ _ λx _=>zG rfl rfl (by simp[qv]);rw[EE]at l;by_cases z:(r.length:Int)=w
 ·simp[qj,jG,jM,EC,rD,l,qS,vO,h,a,z,wY,cL]
 ·simp[qj,jG,jM,EC,rD,l,z]
noncomputable def Kd(h w:Int)(rows:List (List Int)):Bool:=decide ((rows.length:Int)=h) && rows.all λr=>decide<|(r.length:Int)=w
noncomputable def N2(p h w:Int)(rows:List (List Int)):D:= .tup [.int h,.int w,.tup (rows.map λr=> .tup (r.map λx=> .int (x%p)))]
theorem xK{G:Type}(l:List G)(f:G->Bool):yo (l.map λx=>D.bl<|f x)=aI (l.map f):=by
 induction l with
 | nil=>rfl
 | cons a l z=>show((yo<|l.map λx=>D.bl<|f x).map _)=_;rw[z];rfl
section
variable{p h w:Int}{rows:List (List Int)}
theorem V3(z:rows.length<=lim)(hl : ∀r∈rows,r.length<=lim)(c0 B:Cell):ZN (zI<|zM (zQ<|zh 3) (.nm 0) 1 [2] jo (zw qj<|zb (zd 1)<|zb (zd 0) zB)) [c0,B,.val<|.int w,.val (rG rows)]=aI (.bl<|rows.all λr=>decide<|(r.length:Int)=w):=by
 have a:zW (.nm 0) jo (zw qj<|zb (zd 1)<|zb (zd 0) zB) [Cell.no,.val (.int w)] (rows.map rD)=aI (rows.map λr=>D.bl<|decide<|(r.length:Int)=w):=zE _ _ λr z=>zG rfl rfl (by
  have:=oN w r<|hl r z;simp[this])
 have e:(zM (zQ<|zh 3) (.nm 0) 1 [2] jo (zw qj<|zb (zd 1)<|zb (zd 0) zB)) [c0,B,.val<|.int w,.val (rG rows)]=aI (rows.map λr=>D.bl<|decide<|(r.length:Int)=w):=by rw[qc];show(if (rows.map rD).length<=lim then _ else _)=_;rw[MY (by simpa using z)];exact a
 rw[KY,qz,e];show(yo _).map _=_;rw[xK];simp[HJ]
theorem Kh(x:Int):jW [.int x]=aI (.val<|.bl<|decide (0<=x) && decide (x<=30)):=by
 by_cases h:0<=x
 ·simp[jW,jG,jM,EC,qv,kc,h]
 ·simp[jW,jG,jM,EC,qv,kc,h]
theorem mf(L:DI p=cI)(G:0<=h/\h<=30)(H:0<=w/\w<=30)(B:rows.length<=lim)(J : ∀r∈rows,r.length<=lim):yl [.int p,.int h,.int w,rG rows]=if Kd h w rows=cI then cS else aI (("NoTable" : Str),cS):=by
 have a:=Vz p;have b:=Kh h;have d:=Kh w;have l:=JH (rows.map rD) h;rw[L]at a;rw[EE]at l;have I:=V3 (w:=w) B J (.val<|.int p)<|.val<|.int h;show vy _ _ _ _=_;refine qG (γ':=[.val (.int p),.val<|.int h,.val<|.int w,.val (rG rows)]) (by simp[oI,n7,jM,EC,a]) (by simp[jM,EC,a])<|qG (γ':=[.val (.int p),.val<|.int h,.val<|.int w,.val (rG rows)]) (by simp[oI,n7,b,d,G,H]) (by simp[b,d,G,H]) ?_;unfold oI;rw[QV,yI,yI,J2,J2,I];unfold Kd;by_cases z:(rows.length:Int)=h
 ·cases q:rows.all λr=>decide ((r.length:Int)=w)<;>simp[rG,l,z,YU,n7]
 ·simp[rG,l,z,YU]
theorem mh(G:DI p=cI)(J:0<=h/\h<=30)(L:0<=w/\w<=30)(I:rows.length<=lim)(H : ∀r∈rows,r.length<=lim)(ok:Kd h w rows=cI):xv [.int p,.int h,.int w,rG rows]=aI (.val<|N2 p h w rows):=by
 have a:=Vz p;have d:=Kh h;have e:=Kh w;have l:=JH (rows.map rD) h;rw[G]at a;rw[EE]at l;have O:=V3 (w:=w) I H (.val<|.int p)<|.val<|.int h;have f:p≠0:=by unfold DI at G;intro z;rw[z]at G;exact absurd G ⋯
 have R:0<p:=by unfold DI at G;have:=of_decide_eq_true G;simp at this;omega
 unfold Kd at ok;rw[Ex]at ok;have z:=of_decide_eq_true ok.1;have U : ∀r∈rows,yK [.int p,rD r]=aI (.val<|.tup<|r.map λx=> .int (x%p)):=λr B=>by have b:zW (.nm 0) jo (zo j8 (zd 0)<|zd 1) [Cell.no,.val (.int p)] (r.map D.int)=aI (r.map λx=>D.int<|x%p):=zE _ _ λx _=>zG rfl rfl (by simp[R]);have:=H r B;simp[yK,jG,jM,EC,rD,qS,vO,this,b]
 have b:zW (.nm 0) jo (zw yK<|zb (zd 1)<|zb (zd 0) zB) [Cell.no,.val (.int p)] (rows.map rD)=aI (rows.map λr=>D.tup<|r.map λx=> .int (x%p)):=zE _ _ λr B=>zG rfl rfl (by simp[U r B]);unfold xv;refine jr<|zm (γ':=[.val (.int p),.val<|.int h,.val<|.int w,.val (rG rows)]) (by simp[jM,EC,a])<|zm (γ':=[.val (.int p),.val<|.int h,.val<|.int w,.val (rG rows)]) (by simp[d,e,J,L])<|zm (γ':=[.val (.int p),.val<|.int h,.val<|.int w,.val (rG rows)]) ?_ ?_
 ·rw[jx,QV,yI,yI,J2,J2,O,ok.2]
  simp[rG,l,z]
 ·simp[rG,qS,vO,I]
  rw[b];rfl
end
def DH(l:Str):Bool:=[("r" : Str),"l"].any λy=>y==l
theorem vd{l:Str}(h:DH l=cI):l = "r"\/l = "l":=by
 unfold DH at h;simp only[Hc,List.any_nil,LQ,Fq,beq_iff_eq]at h;rcases h with h | h
 ·exact .inl h.symm
 ·exact .inr h.symm
theorem il{l:Str}{γ:Ctx}{f:CO D}{g:CO (Sk×List D)}(G:f γ=aI (.str l))(z:g γ=aI (.T,[.str "r",.str "l"])):ky f g γ=aI (.bl (!DH l)):=by show(f γ).bind _=_;rw[G];show(g γ).bind _=_;rw[z];rfl
noncomputable def o9(ws:List Int)(l:Str)(k:Nat):Int:=if l = "r" then ws.getD (k+1) 0 else ws.getD k 0
noncomputable def u3(ws:List Int)(l:Str)(k:Nat):Int:=if l = "r" then ws.getD k 0 else ws.getD (k+1) 0
noncomputable def QK(ws:List Int)(k:Nat)(q:Str×List (List Int)):Bool:=DH q.1 && Kd (o9 ws q.1 k) (u3 ws q.1 k) q.2
noncomputable def Dq(p:Int)(ws:List Int)(k:Nat)(q:Str×List (List Int)):D:= .tup [.str q.1,N2 p (o9 ws q.1 k) (u3 ws q.1 k) q.2]
noncomputable def BW(q:Str×List (List Int)):Prop:=q.2.length<=lim/\(∀r∈q.2,r.length<=lim)/\l8 (.str q.1)=cI
section
variable{p:Int}{ws:List Int}{k:Nat}{q:Str×List (List Int)}
theorem mU : ¬("r" : Str) = "l":=by decide
theorem Qx : ¬("l" : Str) = "r":=by decide
theorem iX(J:DI p=cI)(L : ∀x∈ws,0<=x/\x<=30)(H:k+1<ws.length)(Z:k<=1000)(G:BW q) :
 ym [.int p,.tup (ws.map D.int),.int (k:Int),D5 q]=(if QK ws k q=cI then cS else aI (("NoArrow" : Str),aI (k:Int)))/\(QK ws k q=cI->xw [.int p,.tup (ws.map D.int),.int (k:Int),D5 q]=aI (.val (Dq p ws k q))):=by
 have R:k<ws.length:=by omega
 have n:2<=lim:=by have:=jj;omega
 obtain⟨t,g0⟩ : ∃x,ws[k]? = aI x:=⟨_,Ey R⟩;obtain⟨x1,B⟩ : ∃x,ws[k+1]? = aI x:=⟨_,Ey H⟩;have U:=L t<|HB g0;have b1:=L x1<|HB B;have Y:m7 ws.length (k:Int)=aI k:=by rw[jR,MY ⋯]
 have i:m7 ws.length ((k:Int)+1)=aI (k+1):=by rw[show(k:Int)+1=((k+1:Nat):Int)by omega,jR,MY H]
 have j:inR (k:Int)=cI:=k7 ⋯ ⋯;obtain⟨l,rows⟩:=q;have I:(0<=o9 ws l k/\o9 ws l k<=30)/\(0<=u3 ws l k/\u3 ws l k<=30):=by
  unfold o9 u3;simp only[Il,g0,B,Hb];split
  ·exact⟨b1,U⟩
  ·exact⟨U,b1⟩
 let A:Cell:= .val (.int p);let W:Cell:= .val (.tup (ws.map D.int));let K:Cell:= .val (.int (k:Int));let P:Cell:= .val (D5 (l,rows));have o:=il (l:=l) (γ:=[A,W,K,P,.no,.no]) (f:=gC (zh 3) (ze (.int 0))) (g:=jf (ze (.tup [.str "r",.str "l"]))) rfl rfl;have lt:=Yy (.str l) (rG rows);have O:(xJ (z9 (sB (zw zX (zb (zd 3) (zb (ze (.int 2)) zB))))) (sB (ky (gC (zh 3) (ze (.int 0))) (jf (ze (.tup [.str "r",.str "l"])))))) [A,W,K,P,.no,.no]=aI (!DH l):=by rw[QV,J2,o];simp[P,D5,lt]
 have b:DH l=cI->(zb (zd 0)<|zb (gC (zh 1)<|zw jE<|zb (zd 2)<|zb (zd 4) zB)<|zb (gC (zh 1)<|zw jm<|zb (zd 2)<|zb (zd 4) zB)<|zb (gC (zh 3)<|ze<|.int 1) zB) [A,W,K,P,.val<|.str l,.no]=aI [.int p,.int<|o9 ws l k,.int<|u3 ws l k,rG rows]:=λa=>by
  rcases vd a with rfl | rfl
  ·have e:jE [.int (k:Int),.str "r"]=aI (.val (.int ((k:Int)+1))):=by kernel_rfl
   have h:jm [.int (k:Int),.str "r"]=aI (.val (.int (k:Int))):=by kernel_rfl
   simp[A,W,K,P,e,h,Y,i,g0,B,R,o9,u3,D5]
  ·have e:jE [.int (k:Int),.str "l"]=aI (.val (.int (k:Int))):=by kernel_rfl
   have h:jm [.int (k:Int),.str "l"]=aI (.val (.int ((k:Int)+1))):=by kernel_rfl
   simp[A,W,K,P,e,h,Y,i,g0,B,R,o9,u3,D5,Qx]
 have s:=mf (rows:=rows) J I.1 I.2 G.1 G.2.1;refine⟨?_,λd=>?_⟩
 ·show vy _ _ _ [A,W,K,P,.no,.no]=_
  cases a:DH l with
  | false=>
   rw[show QK ws k (l,rows)=dV by simp[QK,a],RQ ⋯];refine ZV ?_;unfold oI;rw[O,a];simp[yF,K,j]
  | true=>
   refine qG (γ':=[A,W,K,P,.no,.no]) (by unfold oI;rw[O,a];rfl) (by rw[jx,O,a];rfl)<|qG (γ':=[A,W,K,P,.val<|.str l,.no]) rfl rfl ?_;unfold eZ;rw[b a,EA,s];have m:QK ws k (l,rows)=Kd (o9 ws l k) (u3 ws l k) rows:=by simp[QK,a]
   rw[m];by_cases z:Kd (o9 ws l k) (u3 ws l k) rows=cI
   ·rw[MY z,MY z];rfl
   ·rw[RQ z,RQ z]
    simp[K,j]
 ·have a:DH l=cI:=by unfold QK at d;rw[Ex]at d;exact d.1
  have ok:Kd (o9 ws l k) (u3 ws l k) rows=cI:=by unfold QK at d;rw[Ex]at d;exact d.2
  have r:=mh (rows:=rows) J I.1 I.2 G.1 G.2.1 ok;unfold xw;refine jr<|zm (γ':=[A,W,K,P,.no,.no]) ?_ (zm (γ':=[A,W,K,P,.val<|.str l,.no]) rfl<|zm (γ':=[A,W,K,P,.val<|.str l,.val (N2 p (o9 ws l k) (u3 ws l k) rows)]) ?_ ?_)
  ·rw[show jM 6 [D.int p,.tup<|ws.map D.int,.int (k:Int),D5 (l,rows)]=[A,W,K,P,.no,.no]from rfl,jx,O,a]
   rfl
  ·rw[jV,vU,b a,EA,r]
   rfl
  ·simp[Dq,n]
end
noncomputable def t9(ws:List Int):Bool:=decide (1<=ws.length) && decide (ws.length<=6) && ws.all (λx=>decide<|0<=x) && decide (YK ws<=30)
noncomputable def bad(ws:List Int):Nat->List (Str×List (List Int))->Option Nat
 | _,[]=>cS
 | k,q::r=>if QK ws k q=cI then bad ws (k+1) r else aI k
section
variable{p:Int}{ws:List Int}{k:Nat}{q:Str×List (List Int)}{ll:List (Str×List (List Int))}
theorem X8(G:ws.length<=400):qk [.lst (ws.map D.int)]=aI (.val<|.bl<|t9 ws):=by
 have h:=jj;have I:ws.length<=lim:=by omega
 let W:Cell:= .val (.lst<|ws.map D.int);have g:zW (.nm 0) jo (Qh (zw ji<|zb (zd 0) zB)<|zo A4 (zd 0)<|ze<|.int 0) [Cell.no] (ws.map D.int)=aI (ws.map λx=>D.bl<|decide<|0<=x):=zE _ _ λx _=>zG rfl rfl (by simp[qv]);have e:(zM (zQ<|zh 0) (.nm 0) 1 [] jo (Qh (zw ji<|zb (zd 0) zB)<|zo A4 (zd 0)<|ze<|.int 0)) [W]=aI (ws.map λx=>D.bl<|decide<|0<=x):=by rw[qc];show(if (ws.map D.int).length<=lim then _ else _)=_;rw[MY (by simpa using I)];exact g
 have f:(z9<|sB<|ZN<|zI<|zM (zQ<|zh 0) (.nm 0) 1 [] jo (Qh (zw ji<|zb (zd 0) zB)<|zo A4 (zd 0)<|ze<|.int 0)) [W]=aI (!(ws.all λx=>decide<|0<=x)):=by rw[yI,J2,KY,qz,e];have O:yo (ws.map λx=>D.bl<|decide<|0<=x)=aI (ws.map λx=>decide<|0<=x):=xK _ _;simp[O,HJ]
 have d:(xJ (z9<|sB<|Qg<|zd 0)<|z9<|sB<|kc B2 B2 (ze<|.int 1) (qO<|zh 0)<|ze<|.int 6) [W]=aI (!(decide (1<=ws.length) && decide (ws.length<=6))):=by
  by_cases a:1<=ws.length
  ·have z:(1:Int)<=(ws.length:Int):=by omega
   by_cases b:ws.length<=6
   ·have B:(ws.length:Int)<=6:=by omega
    simp[W,Qg,ZI,kc,a,b,z,B]
   ·have B : ¬(ws.length:Int)<=6:=by omega
    simp[W,Qg,ZI,kc,a,b,z,B]
  ·have z : ¬(1:Int)<=(ws.length:Int):=by omega
   simp[W,Qg,ZI,kc,a,z]
 unfold qk jG;rw[show jM 1 [D.lst (ws.map D.int)]=[W]from rfl,jc,jx,d];unfold t9;cases h1:decide (1<=ws.length) && decide (ws.length<=6)with
 | false=>simp
 | true=>
  simp only[LR,EA,LS,if_false,iZ,Hw];rw[jc,jx,f];cases h2:ws.all λx=>decide (0<=x)with
  | false=>simp
  | true=>simp[W,kS]
theorem cG(G : ∀j q,ll[j]? = aI q->QK ws (k+j) q=cI):bad ws k ll=cS:=by
 induction ll generalizing k with
 | nil=>rfl
 | cons q r z=>
  have a:=G 0 q rfl;rw[Nat.add_zero]at a;show(if QK ws k q=cI then _ else _)=_;rw[MY a];exact z λj B h=>by have:=G (j+1) B h;rw[show k+1+j=k+(j+1)by omega];exact this
theorem KS : ∀{ll:List (Str×List (List Int))} {k:Nat},bad ws k ll=cS->∀j q,ll[j]? = aI q->QK ws (k+j) q=cI
 | [],_,_,j,q,e=>by simp at e
 | a::r,k,h,j,q,e=>by
  have h:(if QK ws k a=cI then bad ws (k+1) r else aI k)=cS:=h;by_cases z:QK ws k a=cI
  ·rw[MY z]at h
   cases j with
   | zero=>cases e;exact z
   | succ j=>have:=KS h j q e;rw[show k+(j+1)=k+1+j by omega];exact this
  ·rw[RQ z]at h;cases h
end
abbrev YS:=Str×List (List Int)
def pz:YS:=("",[])
theorem yj{G:Type}(l:List G)(z:G):l=(Ez l.length).map λk=>l.getD k z:=by
 apply List.ext_getElem
 ·simp
 ·intro i a b
  simp[Il,Ey a]
section
variable{p:Int}{ws:List Int}{ll:List YS}
theorem cU : ∀{ws:List Int},(ws.all λx=>decide<|0<=x)=cI->0<=YK ws/\∀x∈ws,x<=YK ws
 | [],_=>⟨by simp[YK],λx h=>by cases h⟩
 | a::r,h=>by
  rw[Hv,Ex]at h;have b:=of_decide_eq_true h.1;obtain⟨d,z⟩:=cU h.2;have e:YK (a::r)=a+YK r:=rfl;refine⟨by omega,λx hx=>?_⟩;rcases ED.mp hx with rfl | hx
  ·omega
  ·have:=z x hx;omega
theorem YZ(h:t9 ws=cI):(1<=ws.length/\ws.length<=6)/\∀x∈ws,0<=x/\x<=30:=by
 unfold t9 at h;simp only[Ex]at h;obtain⟨⟨⟨b,d⟩,z⟩,B⟩:=h;refine⟨⟨of_decide_eq_true b,of_decide_eq_true d⟩,λx a=>⟨?_,?_⟩⟩
 ·exact of_decide_eq_true<|EY.mp z x a
 ·have:=(cU z).2 x a
  have:=of_decide_eq_true B;omega
theorem bO{k:Nat}(h:k<ll.length):ll.getD k pz∈ll/\ll[k]? = aI (ll.getD k pz):=by simp only[Il,Ey h,Hb];exact⟨GQ h,trivial⟩
end
noncomputable def eT(p:Int)(ws:List Int)(G:List YS):List D:=(Ez G.length).map λk=>Dq p ws k<|G.getD k pz
noncomputable def D6(p:Int)(ws:List Int)(G:List YS):D:= .tup [.int p,.tup<|ws.map D.int,.tup (eT p ws G)]
section
variable{p:Int}{ws:List Int}{ll:List YS}
theorem fg(G:ws.length<=400):qd [.lst (ws.map D.int)]=if t9 ws=cI then cS else aI (("NoWidths" : Str),cS):=by have a:=X8 G;cases h:t9 ws<;>rw[h]at a<;>simp[qd,Vj,oI,YU,n7,jM,EC,a]
theorem fi(G:ws.length<=400)(h:t9 ws=cI):qA [.lst (ws.map D.int)]=aI (.val<|.tup<|ws.map D.int):=by
 have a:=X8 G;have d:=jj;have b:ws.length<=lim:=by omega
 rw[h]at a;simp[qA,jG,jM,jc,EC,a,b]
end
section
variable{p:Int}{ws:List Int}{ll:List YS}
noncomputable def C7(ll:List YS)(k:Nat):Bool:=decide ((ll.getD k pz).1 = "l")
def YY(ws:List Int)(k:Nat):Nat:=(ws.getD k 0).toNat
noncomputable def Pc(p:Int)(ll:List YS)(k i j:Nat):Int:=(((ll.getD k pz).2.getD i []).getD j 0)%p
theorem aK(G:t9 ws=cI)(U:ll.length+1=ws.length)(W:bad ws 0 ll=cS):D6 p ws ll=Qj p ll.length (C7 ll) (YY ws) (Pc p ll):=by
 obtain⟨_,Y⟩:=YZ G;have B : ∀k,k<ws.length->((YY ws k:Nat):Int)=ws.getD k 0:=λk a=>by
  have:ws.getD k 0∈ws:=by simp only[Il,Ey a,Hb];exact GQ a
  exact Int.toNat_of_nonneg (Y _ this).1
 have j:ws.map D.int=xU (ll.length+1) λk=>((YY ws k:Nat):Int):=by
  rw[jS,U]
  conv=>lhs;rw[yj ws 0]
  rw[FC];exact FH λk a=>by rw[B k (Fd.mp a)];rfl
 have l:eT p ws ll=kQ ll.length (C7 ll) (YY ws) (Pc p ll):=by
  unfold eT kQ;refine FH λk a=>?_;have a:=Fd.mp a;have f:=KS W k _ (bO a).2;rw[Mm]at f;unfold QK Kd at f;simp only[Ex]at f;obtain⟨n,I,hc⟩:=f;have I:=of_decide_eq_true I;have hc:=EY.mp hc;have O:=B k ⋯;have h:=B (k+1) ⋯;have z:(ll.getD k pz).1=ja (t2<|C7 ll k)/\((ni (C7 ll) (YY ws) k:Nat):Int)=o9 ws (ll.getD k pz).1 k/\((m8 (C7 ll) (YY ws) k:Nat):Int)=u3 ws (ll.getD k pz).1 k:=by
   unfold ni m8 o9 u3;rcases vd n with e | e
   ·have d:C7 ll k=dV:=by unfold C7;rw[e];exact decide_eq_false mU
    rw[d,e];refine⟨by decide +kernel,?_,?_⟩
    ·rw[MY rfl];exact h
    ·rw[MY rfl];exact O
   ·have d:C7 ll k=cI:=by unfold C7;rw[e];exact decide_eq_true rfl
    rw[d,e];refine⟨by decide +kernel,?_,?_⟩
    ·rw[RQ Qx];exact O
    ·rw[RQ Qx];exact h
  unfold Dq QZ N2 KD;rw[<- z.1,z.2.1,z.2.2];have m:((ll.getD k pz).2.map λr=>D.tup<|r.map λx=> .int (x%p))=ZS (ni (C7 ll) (YY ws) k) (m8 (C7 ll) (YY ws) k) (Pc p ll k):=by
   have o:(ll.getD k pz).2.length=ni (C7 ll) (YY ws) k:=by have:=z.2.1;omega
   unfold ZS
   conv=>lhs;rw[yj (ll.getD k pz).2 []]
   rw[FC,o];refine FH λi g=>?_;have g:=Fd.mp g;have b:(ll.getD k pz).2.getD i []∈(ll.getD k pz).2:=by
    have R:i<(ll.getD k pz).2.length:=by omega
    generalize (ll.getD k pz).2=L at R;simp only[Il,Ey R,Hb];exact GQ _
   have s:((ll.getD k pz).2.getD i []).length=m8 (C7 ll) (YY ws) k:=by have:=of_decide_eq_true<|hc _ b;have:=z.2.2;omega
   show D.tup (((ll.getD k pz).2.getD i []).map λx=> .int (x%p))=D.tup (xU _ _);rw[jS]
   conv=>lhs;rw[yj ((ll.getD k pz).2.getD i []) 0]
   rw[FC,s];rfl
  rw[m]
 unfold D6 Qj;rw[j,l]
theorem bK(H:ll.length<=100)(G:t9 ws=cI)(z:ll.length+1=ws.length)(B:bad ws 0 ll=cS):qD [D6 p ws ll,D6 p ws ll]=aI (.val<|.bl cI):=by
 obtain⟨_,I⟩:=YZ G;have b:=jj;rw[aK G z B];refine X6 _ _ _ ⋯ λk=>?_;unfold YY;by_cases a:k<ws.length
 ·have:ws.getD k 0∈ws:=by simp only[Il,Ey a,Hb];exact GQ a
  have:=(I _ this).2;omega
 ·have:ws.getD k 0=0:=by
   have O:ws.length<=k:=by omega
   simp only[Il,GR O,Me]
  rw[this];omega
end
def Xc(c:Nat):Bool:=decide (c∈h9 "0123456789/")
theorem mE(c:Nat):Yl (zd 0) (ze (.str "0123456789/")) [.val (.str ⟨#[c]⟩)]=aI (.bl (Xc c)):=by show aI (D.bl (!(FZ ("0123456789/" : Str) ⟨#[c]⟩ 0 ("0123456789/" : Str).length 1).isEmpty))=_;rw[StrLaws.found_one];rfl
theorem mF{c:Nat}(h:Xc c=cI):47<=c/\c<=57:=by have h:=of_decide_eq_true (show decide (c∈h9 "0123456789/")=cI from h);rw[show h9 "0123456789/" = [48,49,50,51,52,53,54,55,56,57,47]by decide +kernel]at h;simp at h;omega
noncomputable def Ht(s:List Nat):Bool:=match s with
 | []=>dV
 | c::r=>match r.getLast? with
  | none=>dV
  | some d=>((c==45 && d==62) || (c==60 && d==45)) && r.dropLast.all Xc
theorem X0(c d:Nat)(t:List Nat):Ht (c::(t++[d]))=(((c==45 && d==62) || (c==60 && d==45)) && t.all Xc):=by simp[Ht]
theorem Jv(x:Str):h9 x=[]\/(∃c,h9 x=[c])\/∃c t d,h9 x=c::(t++[d]):=by
 cases h:h9 x with
 | nil=>exact .inl rfl
 | cons c r=>
  rcases List.eq_nil_or_concat r with rfl | ⟨t,d,rfl⟩
  ·exact .inr<|.inl ⟨c,rfl⟩
  ·exact .inr<|.inr ⟨c,t,d,by simp⟩
theorem JL{γ:Ctx}{f:CO D}{q:CO (Sk×List D)}{x:Str}{I:Sk}{l:List Str}(G:f γ=aI (.str x))(H:q γ=aI (I,l.map D.str)):aH f q γ=aI (.bl<|l.any λy=>y==x):=by
 have st:vB (l.map D.str)=aI l:=by
  have:=yP (λx:Str=>x) l
  rwa [List.map_id']at this
 show(f γ).bind _=_;rw[G];show(q γ).bind _=_;rw[H];show(vB<|l.map D.str).map _=_;rw[st];rfl
theorem Yw{γ:Ctx}{f:CO D}{q:CO (Sk×List D)}{x:Str}{I:Sk}{l:List Str}(G:f γ=aI (.str x))(H:q γ=aI (I,l.map D.str)):ky f q γ=aI (.bl<|!l.any λy=>y==x):=by
 have st:vB (l.map D.str)=aI l:=by
  have:=yP (λx:Str=>x) l
  rwa [List.map_id']at this
 show(f γ).bind _=_;rw[G];show(q γ).bind _=_;rw[H];show(vB<|l.map D.str).map _=_;rw[st];rfl
def NP:List Str:=[2,3,5,7].map λq:Int=>xR q++ja 58
def O0:List Str:=(Ez 31).map λ(q:Nat)=>xR (q:Int)
def M1(x:Str):Bool:=NP.any λy=>y==x
def M8(x:Str):Bool:=O0.any λy=>y==x
theorem gK(x:Str):qi [.str x]=aI (.val<|.bl<|M1 x):=by
 have d:=jj;have z:4<=lim:=by omega
 have b:zM (zQ (jf (ze (.tup [.int 2,.int 3,.int 5,.int 7])))) (.nm 0) 1 [] jo (Xf [lz (zd 0),ze (.str ":")]) [.val (.str x)]=aI (NP.map D.str):=by
  rw[qc];show(if 4<=lim then zW _ _ _ [.no] (([2,3,5,7]:List Int).map D.int)else cS)=_;unfold NP;rw[MY z,FC];refine zE _ _ λq a=>zG rfl rfl<|WC rfl ?_ ?_
  ·simp at a;omega
  ·simp at a;omega
 have:=JL (γ:=[.val (.str x)]) (f:=zd 0) (q:=zI (zM (zQ (jf (ze (.tup [.int 2,.int 3,.int 5,.int 7])))) (.nm 0) 1 [] jo (Xf [lz (zd 0),ze (.str ":")]))) rfl (by rw[qz,b];rfl);unfold qi;exact jr (by rw[yB];exact congrArg (FY _) this)
theorem YX(n:Int)(H:n=31){f:CO D}{γ:Ctx}(G:f γ=aI (.int n)):zM (je f) (.nm 0) 1 [] jo (yp<|zd 0) γ=aI (O0.map D.str):=by
 subst H;have b:=jj;have z:31<=lim:=by omega
 have r:inR 31=cI:=by decide
 have B:je f γ=aI ((Ez 31).map λ(i:Nat)=>D.int (i:Int)):=by rw[vo,G];simp[r,qU,jS]
 unfold O0;rw[qc,B,EA,MY (by simpa using z),FC];refine zE _ _ λq a=>zG rfl rfl<|yS rfl ?_ ?_
 ·omega
 ·have:=Fd.mp a;omega
theorem fj(x:Str):qh [.str x]=aI (.val<|.bl<|M8 x):=by have a:=YX 31 rfl (f:=zo qC (ze<|.int 30)<|ze<|.int 1) (γ:=[.val (.str x)]) rfl;have:=JL (γ:=[.val (.str x)]) (f:=zd 0) (q:=zI<|zM (je<|zo qC (ze<|.int 30)<|ze<|.int 1) (.nm 0) 1 [] jo (yp<|zd 0)) rfl (by rw[qz,a];rfl);unfold qh;exact jr (by rw[yB];exact congrArg (FY _) this)
theorem Kr{s:Str}{a c:Nat}(hs:h9 s=[a]):(s==ja c)=(c==a):=by
 rw[Hr];simp only[beq_iff_eq];constructor
 ·intro h
  have:=congrArg h9 h;rw[hs]at this;have:[a]=[c]:=this;injection this with h1 _;exact h1.symm
 ·rintro rfl;exact yT (by rw[hs];rfl)
theorem cQ{s:Str}{a b c d:Nat}(hs:h9 s=[a,b]):(s==ja c++ja d)=(c==a && d==b):=by
 rw[Hr];simp only[beq_iff_eq,Ex];constructor
 ·intro h
  have:=congrArg h9 h;rw[hs,qV]at this;have:[a,b]=[c,d]:=this;injection this with h1 h2;injection h2 with h2 _;exact⟨h1.symm,h2.symm⟩
 ·rintro⟨rfl,rfl⟩;exact yT (by rw[hs,qV];rfl)
theorem WV(c d:Nat):([("->" : Str),"<-"].any λy=>y==ja c++ja d)=((c==45 && d==62) || (c==60 && d==45)):=by simp only[Hc,List.any_nil,LQ];rw[cQ (show h9 "->" = [45,62]by decide +kernel),cQ (show h9 "<-" = [60,45]by decide +kernel)]
theorem W1{f:CO D}{γ:Ctx}{y:Str}(G:f γ=aI (.str y))(z:zy y=cI):ZN (zI (zM (kT f) (.nm 0) 1 [] jo (Yl (zd 0) (ze (.str "0123456789/"))))) γ=aI (.bl ((h9 y).all Xc)):=by
 have e:=jj;have a:kT f γ=aI ((h9 y).map λc=>D.str ⟨#[c]⟩):=by show(f γ).bind _=_;rw[G,EA];show(if zy y=cI then aI (kF y)else cS)=_;rw[MY z];rfl
 have b:zW (.nm 0) jo (Yl (zd 0) (ze (.str "0123456789/"))) [.no] ((h9 y).map λc=>D.str ⟨#[c]⟩)=aI ((h9 y).map λc=>D.bl (Xc c)):=zE _ _ λc d=>zG rfl rfl (mE c);have B:y.length<=1000:=of_decide_eq_true z;rw[zY]at B;rw[KY,qz,qc,a,EA,MY (by rw[EE];omega)];show((zW _ _ _ [.no] _).map _).bind _=_;rw[b];show(yo ((h9 y).map λc=>D.bl (Xc c))).map _=_;rw[xK];simp[HJ]
theorem iW{x:Str}(hx:x.length<=900):jN [.str x]=aI (.val<|.bl<|Ht<|h9 x):=by
 have n:=jj;have i:zy x=cI:=decide_eq_true ⋯;let γ:Ctx:=[.val (.str x)];have I:=xS (γ:=γ) (f:=zd 0) (l:=qT) (h:=ir (ze (.int 1))) (lo:=cS) (hi:=aI 1) rfl i rfl rfl;have O:=xS (γ:=γ) (f:=zd 0) (l:=ir (vw (ze (.int 1)))) (h:=qT) (lo:=aI (-1)) (hi:=cS) rfl i rfl rfl;have R:=xS (γ:=γ) (f:=zd 0) (l:=ir (ze (.int 1))) (h:=ir (vw (ze (.int 1)))) (lo:=aI 1) (hi:=aI (-1)) rfl i rfl rfl;have U : ∀y:Str,xf (vD (zd 0) qT (ir (ze (.int 1)))) (vD (zd 0) (ir (vw (ze (.int 1)))) qT) γ=aI (.str y)->ky (xf (vD (zd 0) qT (ir (ze (.int 1)))) (vD (zd 0) (ir (vw (ze (.int 1)))) qT)) (jf (xM (zb (ze (.str "->")) (zb (ze (.str "<-")) zB)))) γ=aI (.bl (!([("->" : Str),"<-"].any λz=>z==y))):=λy W=>Yw W rfl;rcases Jv x with e | ⟨c,e⟩ | ⟨c,t,d,e⟩
 ·obtain rfl:x = "":=yT (by rw[e];rfl)
  rw[e]
  kernel_rfl
 ·obtain rfl:x=ja c:=yT (by rw[e];rfl)
  rw[e];have Y:FV (ja c) cS (aI 1)=ja c:=rfl;have g2:FV (ja c) (aI (-1)) cS=ja c:=yT (by
   rw[ku (x:=ja c) (a:=0) (b:=1) (by show Fs (aI (-1)) cS 1 1=_;decide +kernel) (EF 1)];rfl)
  rw[Y]at I;rw[g2]at O;have B:=U _<|qY I O rfl rfl;rw[WV]at B;have z:((c==45 && c==62) || (c==60 && c==45))=dV:=by rw[Bool.eq_false_iff];simp;omega
  rw[z]at B;unfold jN;refine jr ?_;show zF (i1 _ _ _) _ γ=_;rw[jc,jx,J2,B];rfl
 ·rw[e,X0]
  rw[Xb e]at I;rw[Yk e]at O;have g:=w6 e;have B:=U _<|qY I O rfl rfl;rw[WV]at B;generalize FV x (aI 1) (aI (-1))=y at R g;have m:zy y=cI:=decide_eq_true (by
   have:x.length=t.length+2:=by rw[zY,e];simp
   rw[zY,g];omega)
  have j:=W1 R m;rw[g]at j;unfold jN;refine jr ?_;show zF (i1 _ _ _) _ γ=_;cases hb:((c==45 && d==62) || (c==60 && d==45))with
  | false=>
   rw[hb]at B;rw[jc,jx,J2,B];rfl
  | true=>
   rw[hb]at B;refine zm (γ':=γ) (by rw[jx,J2,B];rfl) ?_;rw[yB,Hw];exact congrArg (FY _) j
noncomputable def k8(i:Nat)(x:Str):Bool:=if i=0 then M1 x else if i%2=1 then M8 x else Ht (h9 x)
theorem YE{x:Str}(hx:x.length<=900)(i:Nat):jB [.int i,.str x]=aI (.val<|.bl<|k8 i x):=by
 have a:=gK x;have b:=fj x;have c:=iW hx;unfold k8;by_cases f:i=0
 ·subst f
  simp[jB,jG,jM,jc,EC,a]
 ·by_cases g:i%2=1
  ·have d : ¬((i:Int)=0):=by omega
   have e:(i:Int)%2=1:=by omega
   simp[jB,jG,jM,jc,EC,b,d,e,f,g]
  ·have d : ¬((i:Int)=0):=by omega
   have e : ¬((i:Int)%2=1):=by omega
   simp[jB,jG,jM,jc,EC,c,d,e,f,g]
theorem yR{γ:Ctx}{f g:CO D}{x:Str}{i:Int}{k c:Nat}(H:f γ=aI (.str x))(hx:zy x=cI)(z:g γ=aI (.int i))(I:m7 (h9 x).length i=aI k)(G:(h9 x)[k]? = aI c):jI f g γ=aI (.str<|ja c):=by rw[xQ,H,z];show(if zy x=cI then (m7 (h9 x).length i).bind λk=>(h9 x)[k]?.map λc=>D.str ⟨#[c]⟩else cS)=_;rw[MY hx,I,EA,G];rfl
theorem gj:([("2:" : Str),"3:","5:","7:"])=NP:=by decide +kernel
theorem bP{x:Str}(hx:x.length<=900)(O : ∀c∈h9 x,c<1114112)(i:Nat):qX [.int i,.str x]=aI (.val<|.bl<|k8 i x):=by
 have N:=jj;have U:2<=lim:=by omega
 have P:4<=lim:=by omega
 have j:zy x=cI:=decide_eq_true ⋯;let γ:Ctx:=[.val (.int i),.val (.str x)];have a:aH (zd 1) (jf (xM (zb (ze (.str "2:")) (zb (ze (.str "3:")) (zb (ze (.str "5:")) (zb (ze (.str "7:")) zB)))))) γ=aI (.bl (M1 x)):=by have:=JL (γ:=γ) (f:=zd 1) (q:=jf (xM (zb (ze (.str "2:")) (zb (ze (.str "3:")) (zb (ze (.str "5:")) (zb (ze (.str "7:")) zB)))))) (l:=[("2:" : Str),"3:","5:","7:"]) rfl rfl;rw[gj]at this;exact this
 have b:aH (zd 1) (zI<|zM (je<|ze<|.int 31) (.nm 0) 1 [] jo (yp<|zd 0)) γ=aI (.bl<|M8 x):=by have A:=YX 31 rfl (f:=ze<|.int 31) (γ:=γ) rfl;exact JL (γ:=γ) (f:=zd 1) rfl (by rw[qz,A];rfl)
 have R:=xS (γ:=γ) (f:=zd 1) (l:=ir<|ze<|.int 1) (h:=ir<|vw<|ze<|.int 1) (lo:=aI 1) (hi:=aI (-1)) rfl j rfl rfl;unfold qX k8;by_cases o:i=0
 ·subst o
  refine jr ?_;show zF (i1 _ _ _) _ γ=_;rw[jc,jx,yB,a];simp[γ]
 ·have w : ¬((i:Int)=0):=by omega
  rw[RQ o];refine jr<|zm (γ':=γ) (by show i1 _ _ _ γ=_;rw[jx];simp[γ,w,o]) ?_;by_cases r:i%2=1
  ·have m:(i:Int)%2=1:=by omega
   rw[jc,jx,yB,b];simp[γ,m,r]
  ·have m : ¬((i:Int)%2=1):=by omega
   rw[RQ r];refine zm (γ':=γ) (by rw[jx];simp[γ,m]) ?_;rcases Jv x with e | ⟨c,e⟩ | ⟨c,t,d,e⟩
   ·have B:x.length=0:=by rw[zY,e];rfl
    rw[e,jc,jx];simp[γ,j,B,Ht]
   ·have B:x.length=1:=by rw[zY,e];rfl
    rw[e,jc,jx];simp[γ,j,B,Ht]
   ·have B:x.length=t.length+2:=by rw[zY,e];simp
    have W:(h9 x).length=t.length+2:=by rw[<- zY,B]
    rw[e,X0];have g:=w6 e;have Y:jI (zd 1) (ze<|.int 0) γ=aI (.str<|ja c):=yR (k:=0) rfl j rfl (JJ rfl ⋯) (by rw[e];rfl);have C:jI (zd 1) (vw<|ze<|.int 1) γ=aI (.str<|ja d):=yR (k:=t.length+1) (i:= -1) rfl j rfl (by
     rw[W];unfold m7;rw[RQ ⋯,MY ⋯];congr 1;omega) (by rw[e];simp)
    have G:c<1114112:=O c (by rw[e];simp);have H:d<1114112:=O d (by rw[e];simp);have s:l8 (.tup [.str (ja c),.str (ja d)])=cI:=VW (n:=1) (by simp[deep,DG]) ⋯ (by simp[nt,m3,ja,G,H]);have u:m3 [.tup [.str "-",.str ">"],.tup [.str "<",.str "-"]]=cI:=by decide +kernel
    have F:wC (xM (zb (jI (zd 1) (ze (.int 0))) (zb (jI (zd 1) (vw (ze (.int 1)))) zB))) (jf (xM (zb (xM (zb (ze (.str "-")) (zb (ze (.str ">")) zB))) (zb (xM (zb (ze (.str "<")) (zb (ze (.str "-")) zB))) zB)))) γ=aI (.bl (!((c==45 && d==62) || (c==60 && d==45)))):=by
     have M:xM (zb (jI (zd 1)<|ze<|.int 0)<|zb (jI (zd 1)<|vw<|ze<|.int 1) zB) γ=aI (.tup [.str (ja c),.str (ja d)]):=by rw[pS,qp,Y,qp,C];simp[U]
     show(xM _ γ).bind _=_;rw[M,EA];show(if l8 (.tup [.str (ja c),.str (ja d)])=cI/\m3 [.tup [.str "-",.str ">"],.tup [.str "<",.str "-"]]=cI then aI (D.bl (!([D.tup [.str "-",.str ">"],.tup [.str "<",.str "-"]].any λz=>lA z (.tup [.str (ja c),.str (ja d)]))))else cS)=_;rw[MY ⟨s,u⟩];have J:lA (.tup [.str "-",.str ">"]) (.tup [.str (ja c),.str (ja d)])=(c==45 && d==62):=by simp only[lA,B3,Pp,IA];rw[Kr (show h9 "-" = [45]by decide +kernel),Kr (show h9 ">" = [62]by decide +kernel)]
     have K:lA (.tup [.str "<",.str "-"]) (.tup [.str (ja c),.str (ja d)])=(c==60 && d==45):=by simp only[lA,B3,Pp,IA];rw[Kr (show h9 "<" = [60]by decide +kernel),Kr (show h9 "-" = [45]by decide +kernel)]
     simp only[Hc,List.any_nil,LQ,J,K]
    generalize FV x (aI 1) (aI (-1))=y at R g;have L:zy y=cI:=decide_eq_true (by rw[zY,g];omega);have p:=W1 R L;rw[g]at p;have I:(xJ (sB (zo DF (yq (zd 1)) (ze (.int 2)))) (sB (wC (xM (zb (jI (zd 1) (ze (.int 0))) (zb (jI (zd 1) (vw (ze (.int 1)))) zB))) (jf (xM (zb (xM (zb (ze (.str "-")) (zb (ze (.str ">")) zB))) (zb (xM (zb (ze (.str "<")) (zb (ze (.str "-")) zB))) zB))))))) γ=aI (!((c==45 && d==62) || (c==60 && d==45))):=by
     have E:sB (zo DF (yq<|zd 1)<|ze<|.int 2) γ=aI dV:=by simp[γ,j,B];omega
     rw[QV,E,J2,F];rfl
    cases hb:((c==45 && d==62) || (c==60 && d==45))with
    | false=>
     rw[hb]at I;rw[jc,jx,I];rfl
    | true=>
     rw[hb]at I;refine zm (γ':=γ) (by rw[jx,I];rfl) ?_;rw[yB,Hw];exact congrArg (FY _) p
noncomputable def wV:Nat->List Str->Option Nat
 | _,[]=>cS
 | k,x::r=>if k8 k x=cI then wV (k+1) r else aI k
noncomputable def DE(ws:List Str):Prop:=ws.length<=400/\∀x∈ws,x.length<=900/\∀c∈h9 x,c<1114112
def wD(ws:List Str):D:= .lst (ws.map D.str)
section
variable{ws:List Str}
theorem qH{k:Nat}(h:k<ws.length):ws.getD k EU∈ws/\ws[k]? = aI (ws.getD k EU):=by simp only[Il,Ey h,Hb];exact⟨GQ h,trivial⟩
theorem yQ{k:Nat}(h:k<ws.length):ws.drop k=ws.getD k EU::ws.drop (k+1):=by rw[Gs h];simp[Il,Ey h]
theorem KC:vh (ws.map D.str)=(Ez ws.length).map λ(k:Nat)=>D.tup [.int k,.str (ws.getD k EU)]:=by
 have e:ws.map D.str=(Ez ws.length).map λk=>D.str (ws.getD k EU):=by
  conv=>lhs;rw[yj ws EU]
  rw[FC];rfl
 rw[e,Je]
theorem Q4{γ:Ctx}{i j:Nat}{s:Nat}(G:γ[i]? = aI (.val<|wD ws))(H:γ[j]? = aI (.val<|.int (s:Int)))(hs:s<ws.length):gC (zh i) (zd j) γ=aI (.str<|ws.getD s EU):=by rw[WY,JW,we,G,H];show((m7 (ws.map D.str).length (s:Int)).bind λk=>(ws.map D.str)[k]?)=_;rw[EE,jR,MY hs];show(ws.map D.str)[s]? = _;rw[Fi,(qH hs).2];rfl
def zp:CO Bool:=z9<|sB<|zw jB<|zb (zd 1)<|zb (zd 2) zB
theorem Bz{c0:Cell}{s:Nat}{x:Str}(hx:x.length<=900):zp [c0,.val<|.int (s:Int),.val (.str x)]=aI (!k8 s x):=by have:=YE hx s;unfold zp;simp[this]
theorem pG(h:DE ws) : ∀(n s:Nat) (B G:Cell),s+n=ws.length->
 vV (.tp [1,2]) (oI zp (yF "NoText" (zd 1)) n7) (i1 zp jO zU) ((Ib s n).map λ(k:Nat)=>D.tup [.int k,.str (ws.getD k EU)]) [.val (wD ws),B,G]=(wV s (ws.drop s)).map λk=>(("NoText" : Str),aI (k:Int))
 | 0,s,B,G,e=>by rw[GK ⋯];rfl
 | n+1,s,B,G,e=>by
  have a:s<ws.length:=by omega
  have O:=pG h n (s+1) (.val (.int (s:Int))) (.val (.str (ws.getD s EU))) ⋯;have b:=(h.2 _ (qH a).1).1;have t:=Bz (c0:= .val (wD ws)) (s:=s) b;have R:inR (s:Int)=cI:=k7 (by have:=h.1;omega) (by have:=h.1;omega);rw[GP,Fb];show(match oI zp (yF "NoText" (zd 1)) n7 [.val (wD ws),.val (.int (s:Int)),.val (.str (ws.getD s EU))]with
   | some c=>aI c
   | none=>(i1 zp jO zU [.val (wD ws),.val<|.int (s:Int),.val (.str<|ws.getD s EU)]).bind λU=>match U with
    | .next I=>vV _ _ _ _ I
    | .cont I=>vV _ _ _ _ I
    | _=>cS)=_
  by_cases z:k8 s (ws.getD s EU)=cI
  ·rw[z]at t
   have x1:oI zp (yF "NoText" (zd 1)) n7 [.val (wD ws),.val (.int (s:Int)),.val (.str (ws.getD s EU))]=cS:=by unfold oI;rw[t];rfl
   rw[x1,jx,t,show wV s (ws.drop s)=wV (s+1) (ws.drop<|s+1)by rw[yQ a];exact MY z];exact O
  ·rw[Mq]at z
   rw[z]at t;have x1:oI zp (yF "NoText" (zd 1)) n7 [.val (wD ws),.val (.int (s:Int)),.val (.str (ws.getD s EU))]=aI (("NoText" : Str),aI (s:Int)):=by unfold oI;rw[t];simp[yF,R]
   rw[x1,show wV s (ws.drop s)=aI s by rw[yQ a];exact RQ (by rw[z];decide)];rfl
theorem iM(h:DE ws) : ∀(n s:Nat) (I G:Cell),s+n=ws.length->wV s (ws.drop s)=cS->
 ∃O R,yr (.tp [1,2]) (i1 zp jO zU) ((Ib s n).map λ(k:Nat)=>D.tup [.int k,.str (ws.getD k EU)]) [.val (wD ws),I,G]=aI (.next [.val (wD ws),O,R])
 | 0,s,I,G,e,_=>⟨I,G,rfl⟩
 | n+1,s,I,G,e,B=>by
  have a:s<ws.length:=by omega
  have b:=(h.2 _ (qH a).1).1;have t:=Bz (c0:= .val (wD ws)) (s:=s) b;rw[yQ a]at B;have B:(if k8 s (ws.getD s EU)=cI then wV (s+1) (ws.drop<|s+1)else aI s)=cS:=B;by_cases z:k8 s (ws.getD s EU)=cI
  ·rw[MY z]at B
   obtain⟨O,R,U⟩:=iM h n (s+1) (.val<|.int (s:Int)) (.val<|.str<|ws.getD s EU) ⋯ B;refine⟨O,R,?_⟩;rw[GP,Fb,xu];rw[z]at t;show((i1 zp jO zU [.val (wD ws),.val<|.int (s:Int),.val (.str<|ws.getD s EU)]).bind _)=_;rw[jx,t];exact U
  ·rw[RQ z]at B;cases B
theorem dW(z G:Cell)(H:ws.length<=400):sB (zo i3 (zo j8 (qO<|zh 0)<|ze<|.int 2)<|ze<|.int 1) [.val (wD ws),z,G]=aI (decide<|ws.length%2=1):=by
 have e:(((ws.length:Nat):Int)%2=1)↔ws.length%2=1:=by omega
 simp[wD,e]
theorem WE(h:DE ws):jD [wD ws]=match wV 0 ws with
 | some k=>aI (("NoText" : Str),aI (k:Int))
 | none=>if ws.length%2=1 then aI (("NoText" : Str),aI (ws.length:Int))else cS:=by
 have a:qZ (zd 0) [.val (wD ws),.no,.no]=aI ((Ez ws.length).map λ(k:Nat)=>D.tup [.int k,.str (ws.getD k EU)]):=by show aI (vh<|ws.map D.str)=_;rw[KC]
 have x:=pG h ws.length 0 .no .no ⋯;rw[<- FQ,IV]at x;have x1:ri (qZ (zd 0)) (.tp [1,2]) (oI zp (yF "NoText" (zd 1)) n7) (i1 zp jO zU) [.val (wD ws),.no,.no]=(wV 0 ws).map λk=>(("NoText" : Str),aI (k:Int)):=by show(qZ (zd 0) [.val (wD ws),.no,.no]).bind _=_;rw[a];exact x
 show vy (ri (qZ (zd 0)) (.tp [1,2]) (oI zp (yF "NoText" (zd 1)) n7) (i1 zp jO zU)) (Z1 (qZ (zd 0)) (.tp [1,2]) (i1 zp jO zU)) _ [.val (wD ws),.no,.no]=_;cases hb:wV 0 ws with
 | some k=>
  rw[hb]at x1;exact ZV x1
 | none=>
  rw[hb]at x1;obtain⟨B,b,f⟩:=iM h ws.length 0 .no .no ⋯ hb;rw[<- FQ]at f;refine qG (γ':=[.val (wD ws),B,b]) x1 (by rw[KW,a];exact f) ?_;unfold oI;rw[dW B b h.1,EA];have I:inR (ws.length:Int)=cI:=k7 (by have:=h.1;omega) (by have:=h.1;omega);by_cases z:ws.length%2=1
  ·simp[z,yF,wD,I]
  ·simp[z,n7]
theorem pH(h:DE ws)(B:wV 0 ws=cS)(I : ¬ws.length%2=1):jU [wD ws]=aI (.val .ih):=by
 have a:qZ (zd 0) [.val (wD ws),.no,.no]=aI ((Ez ws.length).map λ(k:Nat)=>D.tup [.int k,.str (ws.getD k EU)]):=by show aI (vh<|ws.map D.str)=_;rw[KC]
 obtain⟨z,b,f⟩:=iM h ws.length 0 .no .no ⋯ B;rw[<- FQ]at f;show((zF (Z1 (qZ<|zd 0) (.tp [1,2])<|i1 zp jO zU) _ [.val (wD ws),.no,.no]).bind _)=_;rw[jc,KW,a,EA,f,EA];show((i1 _ _ _ [.val (wD ws),z,b]).bind _)=_;rw[jx,dW z b h.1];simp[I]
theorem Jf(h:DE ws)(T B I G:Cell) : ∀(n s:Nat) (H:Cell),s+n=ws.length->∃U,yr (.nm 2) Jg ((Ib s n).map λ(j:Nat)=>D.int j) [T,.val<|wD ws,H,B,I,G]=aI (match wV s (ws.drop s)with
 | some k=> .ret (.own [.str "NoText",.int (k:Int)])
 | none=> .next [T,.val<|wD ws,U,B,I,G])
 | 0,s,H,e=>⟨H,by rw[GK ⋯];rfl⟩
 | n+1,s,H,e=>by
  have a:s<ws.length:=by omega
  have W:2<=lim:=by have:=jj;omega
  obtain⟨R,Y⟩:=Jf h T B I G n (s+1) (.val (.int (s:Int))) ⋯;have b:=h.2 _ (qH a).1;have f:=bP b.1 b.2 s;have st:Jg [T,.val (wD ws),.val (.int (s:Int)),B,I,G]=aI (if k8 s (ws.getD s EU)=cI then .next [T,.val (wD ws),.val (.int (s:Int)),B,I,G]else .ret (.own [.str "NoText",.int (s:Int)])):=by have d:=Q4 (ws:=ws) (γ:=[T,.val (wD ws),.val (.int (s:Int)),B,I,G]) (i:=1) (j:=2) rfl rfl a;unfold Jg;rw[jx,yI,J2,vU,qp,qp,d];simp only[we,WX,Lg,Lh,kD,EA,HM,f];cases k8 s (ws.getD s EU)<;>simp[W]
  by_cases z:k8 s (ws.getD s EU)=cI
  ·have O:wV s (ws.drop s)=wV (s+1) (ws.drop<|s+1):=by rw[yQ a];exact MY z
   refine⟨R,?_⟩;rw[O,GP,Fb,xu];show((Jg [T,.val<|wD ws,.val<|.int (s:Int),B,I,G]).bind _)=_;rw[st,MY z];exact Y
  ·have O:wV s (ws.drop s)=aI s:=by rw[yQ a];exact RQ z
   refine⟨R,?_⟩;rw[O,GP,Fb,xu];show((Jg [T,.val<|wD ws,.val<|.int (s:Int),B,I,G]).bind _)=_;rw[st,RQ z];rfl
theorem vj : ∀{ws:List Str} {k:Nat},wV k ws=cS->∀j x,ws[j]? = aI x->k8 (k+j) x=cI
 | [],_,_,j,q,e=>by simp at e
 | a::r,k,h,j,q,e=>by
  have h:(if k8 k a=cI then wV (k+1) r else aI k)=cS:=h;by_cases z:k8 k a=cI
  ·rw[MY z]at h
   cases j with
   | zero=>cases e;exact z
   | succ j=>have:=vj h j q e;rw[show k+(j+1)=k+1+j by omega];exact this
  ·rw[RQ z]at h;cases h
end
def wx(a:Str):List Int:=(h9 a).map λ(c:Nat)=>(c:Int) - 48
noncomputable def vX(y:Str)(h:Int):List Str:=if y = ""/\h=0 then []else Fk y (ja 47)
def Zc(y:Str)(h:Int):List (List Int):=(vX y h).map wx
theorem Kv{c:Nat} : ∀{l:List (List Nat)} {a:List Nat} {x:Nat},a∈l->x∈a->x∈ki c l
 | [b],a,x,h1,h2=>by rw[Fh.mp h1]at h2;exact h2
 | b::z::r,a,x,h1,h2=>by
  show x∈b++c::ki c (z::r);rcases ED.mp h1 with rfl | h1
  ·exact Lr _ h2
  ·exact EW _<|EK _<|Kv h1 h2
theorem Ky{c:Nat} : ∀{l:List (List Nat)} {a:List Nat},a∈l->a.length<=(ki c l).length
 | [b],a,h1=>by rw[Fh.mp h1];exact EF _
 | b::z::r,a,h1=>by
  show a.length<=(b++c::ki c (z::r)).length;rw[Fc,FL];rcases ED.mp h1 with rfl | h1
  ·omega
  ·have:=Ky (c:=c) h1;omega
theorem Ks{c:Nat} : ∀(l:List (List Nat)),l.length<=(ki c l).length+1
 | []=>by simp
 | [b]=>by simp
 | b::z::r=>by show _<=(b++c::ki c (z::r)).length+1;have:=Ks (c:=c) (z::r);rw[Fc,FL];simp only[FL]at this ⊢;omega
theorem Yj(y:Str)(c:Nat):ki c ((Fk y<|ja c).map h9)=h9 y:=by have e:=StrLaws.join_split y<|ja c;rw[<- kh,e]
theorem Ke(y:Str)(c:Nat):(Fk y<|ja c).length<=y.length+1/\∀a∈Fk y (ja c),a.length<=y.length/\c∉h9 a/\∀x∈h9 a,x∈h9 y:=by
 have g:=Yj y c;refine⟨?_,λa b=>⟨?_,StrLaws.split_free _ c a b,λx d=>?_⟩⟩
 ·have:=Ks (c:=c) ((Fk y<|ja c).map h9)
  rw[g,EE,<- zY]at this;exact this
 ·have:=Ky (c:=c) (Lz (f:=h9) b)
  rw[g,<- zY,<- zY]at this;exact this
 ·have:=Kv (c:=c) (Lz (f:=h9) b) d
  rw[g]at this;exact this
theorem Kg{c:Nat}(H:48<=c)(I:c<=57){q:CO D}{γ:Ctx}(G:q γ=aI (.str<|ja c)):xT q γ=aI (.int<|(c:Int) - 48):=by
 have e:xR ((c:Int) - 48)=ja c:=by rw[Q8 ⋯ ⋯];congr 1;omega
 exact wM (n:=(c:Int) - 48) (by rw[G,e]) ⋯ ⋯
def sS(a:Str):Prop:=a.length<=900/\∀c∈h9 a,48<=c/\c<=57
theorem Wm{a:Str}(h:sS a)(γ:Ctx)(f:CO D)(G:f γ=aI (.str a)):zM (kT f) (.nm 0) 1 [] jo (xT<|zd 0) γ=aI ((wx a).map D.int):=by
 have g:=jj;have z:zy a=cI:=decide_eq_true (by have:=h.1;omega);have b:kT f γ=aI ((h9 a).map λc=>D.str ⟨#[c]⟩):=by show(f γ).bind _=_;rw[G,EA];show(if zy a=cI then aI (kF a)else cS)=_;rw[MY z];rfl
 have e:zW (.nm 0) jo (xT<|zd 0) [.no] ((h9 a).map λc=>D.str ⟨#[c]⟩)=aI ((h9 a).map λ(c:Nat)=>D.int<|(c:Int) - 48):=zE _ _ λc d=>zG rfl rfl<|Kg (h.2 c d).1 (h.2 c d).2 rfl;have B:=h.1;rw[zY]at B;rw[qc,b,EA,MY (by rw[EE];omega)];show zW _ _ _ [.no] _=_;rw[e];unfold wx;rw[FC];rfl
theorem Wl{a:Str}(h:sS a):qF [.str a]=aI (.own<|(wx a).map D.int):=by have:=Wm h [.val (.str a)] (zd 0) rfl;unfold qF;refine jr ?_;show ka _ [.val (.str a)]=_;rw[yH,this];rfl
def lN(y:Str):Prop:=y.length<=898/\∀c∈h9 y,47<=c/\c<=57
theorem Ze{y:Str}(h:lN y)(B:Int):(vX y B).length<=899/\∀a∈vX y B,sS a:=by
 unfold vX;split
 ·exact⟨by simp,λa b=>by simp at b⟩
 ·obtain⟨b1,b2⟩:=Ke y 47
  refine⟨by have:=h.1;omega,λa b=>⟨by have:=(b2 a b).1;have:=h.1;omega,λc d=>?_⟩⟩;have:=h.2 c<|(b2 a b).2.2 c d;have n:c≠47:=λz=>(b2 a b).2.1 (z ▸ d);omega
theorem bu{y:Str}(h : ∀c∈h9 y,c<1114112):l8 (.str y)=cI:=VW (n:=0) (by simp[deep]) ⋯ (by
 show y.cps.all (· < 1114112)=cI;rw[<- Array.all_toList];exact EY.mpr λc a=>decide_eq_true<|h c a)
theorem eP{y:Str}(h:lN y):i3 (.str y) (.str "")=aI (.bl (decide (y = ""))):=by
 have z:=bu (y:=y) λc a=>by have:=h.2 c a;omega
 have B:l8 (.str (FD ""))=cI:=by decide +kernel
 unfold i3;rw[MY ⟨z,B⟩];show aI (D.bl (y==FD ""))=_;congr 2
theorem mP{y:Str}(h:lN y)(B:Int):qe [.str y,.int B]=aI (.own<|(Zc y B).map rD):=by
 have m:=jj;let b:Ctx:=[.val (.str y),.val (.int B)];have q:=eP h;have d:(Xg (sB (zo i3 (zd 0) (ze (.str "")))) (sB (zo i3 (zd 1) (ze (.int 0))))) b=aI (decide (y = ""/\B=0)):=by
  have e:sB (zo i3 (zd 0) (ze (.str ""))) b=aI (decide (y = "")):=by show((i3 (.str y) (.str "")).bind Dd)=_;rw[q];rfl
  have f:sB (zo i3 (zd 1)<|ze<|.int 0) b=aI (decide<|B=0):=by simp[b]
  show((sB _ b).bind _)=_;rw[e,EA];by_cases z:y = ""
  ·rw[MY (decide_eq_true z),f]
   simp[z]
  ·rw[RQ (by simpa using z)]
   simp[z]
 unfold qe;refine jr ?_;show zF (i1 _ _ _) _ b=_;by_cases z:y = ""/\B=0
 ·rw[jc,jx,d,decide_eq_true z]
  unfold Zc vX;rw[MY z];simp
 ·refine zm (γ':=b) (by rw[jx,d,decide_eq_false z];rfl) ?_
  obtain⟨b1,b2⟩:=Ze h B;have I:vX y B=Fk y (ja 47):=by unfold vX;rw[RQ z]
  unfold Zc;rw[I]at b1 b2 ⊢;have l:x9 (zd 0) (ze (.str "/")) b=aI ((Fk y (ja 47)).map D.str):=by show(if y.length<=20000/\(("/" : Str).length==0)=dV then aI ((Fk y "/").map D.str)else cS)=_;rw[MY ⟨by have:=h.1;omega,by decide +kernel⟩,Zu]
  have g:zW (.nm 0) jo (xX<|kU qF<|zb (zd 0) zB) [.no] ((Fk y<|ja 47).map D.str)=aI ((Fk y<|ja 47).map λa=>rD<|wx a):=zE _ _ λa i=>zG rfl rfl (by
   have:=Wl<|b2 a i;simp[this,rD])
  have j:zQ (zI (x9 (zd 0) (ze (.str "/")))) b=aI ((Fk y (ja 47)).map D.str):=by show((x9 _ _ b).map _).map _=_;rw[l];rfl
  rw[yH,qc,j,EA,MY (by rw[EE];omega)];show(zW _ _ _ [.no] _).map _=_;rw[g,FC];rfl
noncomputable def wu(p:Int)(rows:List (List Int)):Bool:=rows.all λr=>r.all λx=>decide<|x<p
theorem gb(p:Int){r:List Int}(h:r.length<=lim):jy [.int p,rD r]=aI (.val<|.bl<|r.all λx=>decide<|x<p):=by have a:zW (.nm 0) jo (zo DF (zd 0)<|zd 1) [.no,.val (.int p)] (r.map D.int)=aI (r.map λx=>D.bl<|decide<|x<p):=zE _ _ λx _=>zG rfl rfl ⋯;have z:yo (r.map λx=>D.bl<|decide<|x<p)=aI (r.map λx=>decide<|x<p):=xK _ _;simp[jy,jG,jM,EC,rD,h,qS,vO,a,z,HJ]
theorem Qi{y:Str}(h:lN y)(z:Int):(Zc y z).length<=lim/\∀r∈Zc y z,r.length<=lim/\∀x∈r,0<=x:=by have f:=jj;obtain⟨b1,b2⟩:=Ze h z;unfold Zc;refine⟨by rw[EE];omega,λr B=>?_⟩;obtain⟨a,b,rfl⟩:=FA.mp B;have:=b2 a b;unfold wx;refine⟨by rw[EE,<- zY];have:=this.1;omega,λx e=>?_⟩;obtain⟨c,d,rfl⟩:=FA.mp e;have:=this.2 c d;omega
def yu(c:Nat):Str:=if c=45 then "r" else "l"
structure N8(x:Str)(c:Nat)(y:Str):Prop where
 len:x.length<=900
 mid:FV x (aI 1) (aI (-1))=y
 tb:lN y
 fst:(h9 x)[0]? = aI c
 cs:c=45\/c=60
theorem pN{x:Str}(hx:x.length<=900)(h:Ht (h9 x)=cI) : ∃c y,N8 x c y:=by
 rcases Jv x with e | ⟨c,e⟩ | ⟨c,t,d,e⟩
 ·rw[e]at h;cases h
 ·rw[e]at h;cases h
 ·rw[e,X0,Ex]at h
  have m:=w6 e;refine⟨c,_,hx,rfl,⟨?_,λz B=>?_⟩,by rw[e];rfl,?_⟩
  ·have:x.length=t.length+2:=by rw[zY,e];simp
   rw[zY,m];omega
  ·rw[m]at B
   exact mF<|EY.mp h.2 z B
  ·have:=h.1
   simp at this;omega
section
variable{p:Int}{ws:List Int}{k:Nat}{x y:Str}{c:Nat}
theorem Jo:DH (yu c)=cI:=by unfold yu;split<;>decide +kernel
noncomputable def A2(ws:List Int)(k c:Nat)(y:Str):YS:=(yu c,Zc y<|o9 ws (yu c) k)
noncomputable def D0(p:Int)(ws:List Int)(k c:Nat)(y:Str):Bool:=wu p (A2 ws k c y).2 && QK ws k (A2 ws k c y)
theorem de(h:lN y):BW (A2 ws k c y):=by obtain⟨a,b⟩:=Qi h<|o9 ws (yu c) k;exact⟨a,λr z=>(b r z).1,by show l8 (.str<|yu c)=cI;unfold yu;split<;>decide +kernel⟩
theorem KU(J:DI p=cI)(L : ∀z∈ws,0<=z/\z<=30)(G:k+1<ws.length)(H:k<=1000)(h:N8 x c y) :
 jv [.int p,.tup (ws.map D.int),.int (k:Int),.str x]=(if D0 p ws k c y=cI then cS else aI (("NoArrow" : Str),aI (k:Int)))/\(D0 p ws k c y=cI->zZ [.int p,.tup (ws.map D.int),.int (k:Int),.str x]=aI (.val (Dq p ws k (A2 ws k c y)))):=by
 have N:=jj;have C:2<=lim:=by omega
 have M:zy x=cI:=decide_eq_true (by have:=h.len;omega);have I:k<ws.length:=by omega
 obtain⟨P,g0⟩ : ∃x,ws[k]? = aI x:=⟨_,Ey I⟩;obtain⟨x1,g1⟩ : ∃x,ws[k+1]? = aI x:=⟨_,Ey G⟩;have t:m7 ws.length (k:Int)=aI k:=by rw[jR,MY ⋯]
 have u:m7 ws.length ((k:Int)+1)=aI (k+1):=by rw[show(k:Int)+1=((k+1:Nat):Int)by omega,jR,MY G]
 have w:inR (k:Int)=cI:=k7 ⋯ ⋯;let W:Cell:= .val (.tup (ws.map D.int));let γ:Cell->Cell->Ctx:=λj m=>[.val (.int p),W,.val (.int (k:Int)),.val (.str x),j,m];let a:=(A2 ws k c y).2;have st:fT (sB (Jw (zd 3) (ze (.str "-")))) (ze (.str "r")) (ze (.str "l")) (γ .no .no)=aI (.str (yu c)):=by
  have sw:Lx x "-" = decide (c=45):=by have e:x.cps.toList[0]? = aI c:=h.fst;rw[Hr,Kx];show(decide (0+(⟨#[45]⟩:Str).length<=x.length) && Builtin.Str.subAt x ⟨#[45]⟩ 0)=cI↔_;rw[Ex,decide_eq_true_eq,StrLaws.subAt_one,e];simp
  show((aI (D.bl (Lx x "-"))).bind Dd).bind _=_;rw[sw];unfold yu;by_cases z:c=45
  ·rw[decide_eq_true z,MY z];rfl
  ·rw[decide_eq_false z,RQ z];rfl
 have O:=xS (γ:=γ (.val<|.str<|yu c) .no) (f:=zd 3) (l:=ir<|ze<|.int 1) (h:=ir<|vw<|ze<|.int 1) (lo:=aI 1) (hi:=aI (-1)) rfl M rfl rfl;rw[h.mid]at O;have A:gC (zh 1) (zw jE<|zb (zd 2)<|zb (zd 4) zB) (γ (.val<|.str<|yu c) .no)=aI (.int<|o9 ws (yu c) k):=by
  have R:yu c = "r"\/yu c = "l":=vd Jo;generalize yu c=l at R;rcases R with rfl | rfl
  ·have b:jE [.int (k:Int),.str "r"]=aI (.val (.int ((k:Int)+1))):=by kernel_rfl
   simp[γ,W,b,u,g1,o9]
  ·have b:jE [.int (k:Int),.str "l"]=aI (.val (.int (k:Int))):=by kernel_rfl
   simp[γ,W,b,t,g0,I,o9,Qx]
 have K:=mP h.tb<|o9 ws (yu c) k;have g:jF 5 (xX<|kU qe<|zb (vD (zd 3) (ir<|ze<|.int 1)<|ir<|vw<|ze<|.int 1)<|zb (gC (zh 1)<|zw jE<|zb (zd 2)<|zb (zd 4) zB) zB) (γ (.val<|.str<|yu c) .no)=aI (.next<|γ (.val<|.str<|yu c)<|.val<|rG a):=by rw[jV,vq,cK,qp,O,EA,qp,A];simp[K,rG,a,A2,γ]
 obtain⟨E,F⟩:=Qi h.tb<|o9 ws (yu c) k;have i:ZN (zI<|zM (zQ<|zh 5) (.nm 0) 1 [0] jo (zw jy<|zb (zd 1)<|zb (zd 0) zB)) (γ (.val<|.str<|yu c)<|.val<|rG a)=aI (.bl<|wu p a):=by
  have o:zW (.nm 0) jo (zw jy<|zb (zd 1)<|zb (zd 0) zB) [.no,.val (.int p)] (a.map rD)=aI (a.map λr=>D.bl<|r.all λx=>decide<|x<p):=zE _ _ λr s=>zG rfl rfl (by
   have:=gb p (F r s).1;simp[this])
  rw[KY,qz,qc];show((FY _<|if (a.map rD).length<=lim then zW _ _ _ [.no,.val (.int p)] (a.map rD)else cS)).bind _=_;rw[MY (by rw[EE];exact E),o];show(yo<|a.map λr=>D.bl<|r.all λx=>decide<|x<p).map _=_;rw[xK];simp[HJ,wu]
 have B:(z9<|sB<|ZN<|zI<|zM (zQ<|zh 5) (.nm 0) 1 [0] jo (zw jy<|zb (zd 1)<|zb (zd 0) zB)) (γ (.val<|.str<|yu c)<|.val<|rG a)=aI (!wu p a):=by rw[yI,J2,i];rfl
 have q:=iX (q:=A2 ws k c y) J L G H<|de h.tb;have U:(zb (zd 0)<|zb (zd 1)<|zb (zd 2)<|zb (xM<|zb (zd 4)<|zb (zd 5) zB) zB) (γ (.val<|.str<|yu c)<|.val<|rG a)=aI [.int p,.tup<|ws.map D.int,.int (k:Int),D5 (A2 ws k c y)]:=by simp[γ,W,C,D5,A2,a]
 have Y:D0 p ws k c y=(wu p a && QK ws k (A2 ws k c y)):=rfl;refine⟨?_,λd=>?_⟩
 ·have n:jM 6 [D.int p,.tup<|ws.map D.int,.int (k:Int),.str x]=γ .no .no:=rfl
  unfold jv Vj;rw[n];refine qG (γ':=γ (.val<|.str<|yu c) .no) rfl (by rw[jV,st];rfl)<|qG rfl g ?_;rw[Y];cases hb:wu p a with
  | false=>
   rw[hb]at B;refine ZV ?_;unfold oI;rw[B];simp[yF,γ,w]
  | true=>
   rw[hb]at B;refine qG (γ':=γ (.val<|.str<|yu c)<|.val<|rG a) (by unfold oI;rw[B];rfl) (by rw[jx,B];rfl) ?_;unfold kM;rw[U,EA,q.1,Hw]
 ·rw[Y,Ex]at d
  rw[d.1]at B;unfold zZ;refine jr<|zm (γ':=γ (.val<|.str<|yu c) .no) ?_ (zm g<|zm (γ':=γ (.val<|.str<|yu c)<|.val<|rG a) (by rw[jx,B];rfl) ?_)
  ·show jF _ _ (γ .no .no)=_
   rw[jV,st];rfl
  ·rw[yB,vU,U,EA,q.2 d.2];rfl
end
theorem oP:qg=jG 8 (zF OE<|zF OF<|zF NH<|zF OG<|zF OH<|zF NI<|zF NJ<|zF NK OI):=rfl
theorem X4{G:Type}(l:List G)(f:G->Bool):(l.any λx=> !f x) = !(l.all f):=by
 induction l with
 | nil=>rfl
 | cons a l z=>simp[z]
section
variable{p:Int}{ws:List Int}{k:Nat}{x y:Str}{c:Nat}
theorem XF(pp:0<p)(G:k+1<ws.length)(h:N8 x c y):qg [.int p,.lst<|ws.map D.int,.int (k:Int),.str x]=aI (.val<|if D0 p ws k c y=cI then Dq p ws k (A2 ws k c y)else .ih):=by
 have hl:=jj;have Y:2<=lim:=by omega
 have l3:3<=lim:=by omega
 have w:zy x=cI:=decide_eq_true (by have:=h.len;omega);have O:k<ws.length:=by omega
 obtain⟨A,g0⟩ : ∃x,ws[k]? = aI x:=⟨_,Ey O⟩;obtain⟨x1,g1⟩ : ∃x,ws[k+1]? = aI x:=⟨_,Ey G⟩;have t:m7 ws.length (k:Int)=aI k:=by rw[jR,MY ⋯]
 have u:m7 ws.length ((k:Int)+1)=aI (k+1):=by rw[show(k:Int)+1=((k+1:Nat):Int)by omega,jR,MY G]
 let γ:Cell->Cell->Cell->Cell->Ctx:=λK M m n=>[.val (.int p),.val (.lst (ws.map D.int)),.val (.int (k:Int)),.val (.str x),K,M,m,n];let l:=yu c;let L:Cell:= .val (.str l);let hi:=o9 ws l k;let b:=u3 ws l k;let S:Cell:= .val (.tup [.int hi,.int b]);let R:=vX y hi;let B:Cell:= .val (.lst (R.map D.str));have I:l = "r"\/l = "l":=vd Jo;obtain⟨b1,b2⟩:R.length<=899/\∀a∈R,sS a:=Ze h.tb hi;have P:OE (γ .no .no .no .no)=aI (.next (γ L .no .no .no)):=by
  have ix:jI (zd 3) (ze (.int 0)) (γ .no .no .no .no)=aI (.str (ja c)):=yR (k:=0) (i:=0) rfl w rfl (JJ rfl (by have:=EL.mp h.fst;exact this.1)) h.fst;have N:fX "-" "r" "<" "l" (jI (zd 3) (ze (.int 0))) (γ .no .no .no .no)=aI (.str l):=by
   rw[lj,ix];rcases h.cs with e | e
   ·show _=aI (D.str<|yu c)
    rw[e];rfl
   ·show _=aI (D.str<|yu c)
    rw[e];rfl
  unfold OE;rw[jV,N];rfl
 have Q:OF (γ L .no .no .no)=aI (.next<|γ L (.val<|.tup [.int x1,.int A]) .no .no):=by
  simp[OF,γ,t,u,g0,g1,O,Y]
  try exact Ff<|(Ey O).symm.trans g0
 have T:NH (γ L (.val<|.tup [.int x1,.int A]) .no .no)=aI (.next<|γ L S .no .no):=by
  have hS:S = .val (.tup [.int (o9 ws l k),.int (u3 ws l k)]):=rfl;have hL:L = .val (.str l):=rfl;rw[hS,hL];rcases I with e | e
  ·rw[e]
   have q:i3 (.str "r") (.str "l")=aI (.bl dV):=by kernel_rfl
   simp[NH,γ,q,o9,u3,g0,g1]
  ·rw[e]
   have q:i3 (.str "l") (.str "l")=aI (.bl cI):=by kernel_rfl
   simp[NH,γ,q,o9,u3,t,u,g0,g1,Qx,O,Y]
 have s:=λm n=>xS (γ:=γ L S m n) (f:=zd 3) (l:=ir<|ze<|.int 1) (h:=ir<|vw<|ze<|.int 1) (lo:=aI 1) (hi:=aI (-1)) rfl w rfl rfl;rw[h.mid]at s;have X:OG (γ L S .no .no)=aI (.next<|γ L S (.val<|.lst<|(Fk y<|ja 47).map D.str) .no):=by
  have sl:x9 (vD (zd 3) (ir (ze (.int 1))) (ir (vw (ze (.int 1))))) (ze (.str "/")) (γ L S .no .no)=aI ((Fk y (ja 47)).map D.str):=by show(vD _ _ _ (γ L S .no .no)).bind _=_;rw[s];show(if y.length<=20000/\(("/" : Str).length==0)=dV then aI ((Fk y "/").map D.str)else cS)=_;rw[MY ⟨by have:=h.tb.1;omega,by decide +kernel⟩,Zu]
  unfold OG;rw[jV,vq,sl];rfl
 have Z:OH (γ L S (.val<|.lst<|(Fk y<|ja 47).map D.str) .no)=aI (.next<|γ L S B .no):=by
  have tt:(Xg (sB (zo i3 (gC (zh 5) (ze (.int 0))) (ze (.int 0)))) (sB (zo i3 (vD (zd 3) (ir (ze (.int 1))) (ir (vw (ze (.int 1))))) (ze (.str ""))))) (γ L S (.val (.lst ((Fk y (ja 47)).map D.str))) .no)=aI (decide (y = ""/\hi=0)):=by
   have q2:sB (zo i3 (vD (zd 3) (ir (ze (.int 1))) (ir (vw (ze (.int 1))))) (ze (.str ""))) (γ L S (.val (.lst ((Fk y (ja 47)).map D.str))) .no)=aI (decide (y = "")):=by rw[J2,yC,s];show((i3 (.str y) (.str "")).bind Dd)=_;rw[eP h.tb];rfl
   have q1:sB (zo i3 (gC (zh 5)<|ze<|.int 0)<|ze<|.int 0) (γ L S (.val<|.lst<|(Fk y<|ja 47).map D.str) .no)=aI (decide<|hi=0):=by simp[γ,S]
   rw[lq,q1,q2,EA];by_cases z:hi=0
   ·rw[MY (decide_eq_true z)];simp[z]
   ·rw[RQ (by simpa using z)];simp[z]
  unfold OH;rw[jx,tt];by_cases z:y = ""/\hi=0
  ·have o:R=[]:=MY z
   rw[decide_eq_true z];show jF 6 (xX<|ql zB) _=aI (.next<|γ L S (.val<|.lst<|R.map D.str) .no);rw[o];rfl
  ·have o:R=Fk y (ja 47):=RQ z
   rw[decide_eq_false z];show zU _=aI (.next<|γ L S (.val<|.lst<|R.map D.str) .no);rw[o];rfl
 have c8:(A2 ws k c y).2=R.map wx:=rfl;have F:D0 p ws k c y=(wu p (R.map wx) && Kd hi b (R.map wx)):=by show(wu p (A2 ws k c y).2 && (DH (yu c) && Kd (o9 ws (yu c) k) (u3 ws (yu c) k) (A2 ws k c y).2))=_;rw[Jo,Hw];rfl
 have U:(xJ (sB<|zo n6 (qO<|zh 6)<|gC (zh 5)<|ze<|.int 0)<|sB<|W7<|zI<|zM (zQ<|zh 6) (.nm 0) 1 [5] jo (zo n6 (yq<|zd 0)<|gC (zh 1)<|ze<|.int 1)) (γ L S B .no)=aI (!Kd hi b (R.map wx)):=by
  have j:zW (.nm 0) jo (zo n6 (yq<|zd 0)<|gC (zh 1)<|ze<|.int 1) [.no,S] (R.map D.str)=aI (R.map λa=>D.bl<|!decide ((a.length:Int)=b)):=zE _ _ λa g=>zG rfl rfl (by
   have sa:zy a=cI:=decide_eq_true (by have:=(b2 a g).1;omega);simp[S,sa])
  have C:W7 (zI<|zM (zQ<|zh 6) (.nm 0) 1 [5] jo (zo n6 (yq<|zd 0)<|gC (zh 1)<|ze<|.int 1)) (γ L S B .no)=aI (.bl<|!(R.all λa=>decide<|(a.length:Int)=b)):=by rw[WZ,qz,qc];show((FY _<|if (R.map D.str).length<=lim then zW _ _ _ [.no,S] (R.map D.str)else cS)).bind _=_;rw[MY (by rw[EE];omega),j];show(yo<|R.map λa=>D.bl<|!decide ((a.length:Int)=b)).map _=_;rw[xK,<- X4];simp[Im]
  have l1:sB (zo n6 (qO<|zh 6)<|gC (zh 5)<|ze<|.int 0) (γ L S B .no)=aI (!decide ((R.length:Int)=hi)):=by simp[γ,S,B]
  rw[QV,l1,J2,C];unfold Kd;have ea:((R.map wx).all λr=>decide<|(r.length:Int)=b)=R.all λa=>decide ((a.length:Int)=b):=by rw[HJ];congr 1;funext a;show decide ((((h9 a).map _).length:Int)=b)=_;rw[EE,<- zY]
  rw[ea,EE];by_cases z:(R.length:Int)=hi
  ·simp[z]
  ·simp[z]
 have H : ∀d,(zF NI<|zF NJ<|zF NK OI) (γ L S B .no)=aI (.ret<|.val d)->qg [.int p,.lst<|ws.map D.int,.int (k:Int),.str x]=aI (.val d):=λd hd=>by rw[oP];exact jr<|zm (γ':=γ L .no .no .no) P<|zm Q<|zm T<|zm X<|zm Z hd
 refine H _ ?_;rw[F];cases ht:Kd hi b (R.map wx)with
 | false=>
  rw[ht]at U;unfold NI;rw[jc,jx,U,Bool.and_false];rfl
 | true=>
  rw[ht]at U;refine zm (γ':=γ L S B .no) (by unfold NI;rw[jx,U];rfl) ?_;let V:List D:=R.map λa=>D.tup<|(wx a).map D.int;have e7:NJ (γ L S B .no)=aI (.next<|γ L S B<|.val<|.tup V):=by
   have j:zW (.nm 0) jo (jg<|zI<|zM (kT<|zd 0) (.nm 0) 1 [] jo (xT<|zd 0)) [.no] (R.map D.str)=aI V:=zE _ _ λa g=>zG rfl rfl (by
    have:=Wm (b2 a g) [.val (.str a)] (zd 0) rfl;show jg _ [.val (.str a)]=_;rw[vT,qz,this];rfl)
   unfold NJ;rw[jV,vT,qz,qc];show FY _ (FY _<|FY _<|if (R.map D.str).length<=lim then zW _ _ _ [.no] (R.map D.str)else cS)=_;rw[MY (by rw[EE];omega),j];rfl
  refine zm e7 ?_;have W:(sB<|W7<|zI<|zM (zQ<|zh 7) (.nm 0) 1 [0] jo (W7<|zI<|zM (zQ<|zh 0) (.nm 0) 1 [1] jo (zo A4 (zd 0)<|zd 1))) (γ L S B<|.val<|.tup V)=aI (!wu p (R.map wx)):=by
   have J : ∀r:List Int,r.length<=lim->W7 (zI<|zM (zQ<|zh 0) (.nm 0) 1 [1] jo (zo A4 (zd 0)<|zd 1)) [.val (.tup<|r.map D.int),.val (.int p)]=aI (.bl<|!(r.all λz=>decide<|z<p)):=λr hr=>by
    have j:zW (.nm 0) jo (zo A4 (zd 0)<|zd 1) [.no,.val (.int p)] (r.map D.int)=aI (r.map λz=>D.bl<|!decide (z<p)):=zE _ _ λz _=>zG rfl rfl (by
     have:decide (p<=z) = !decide (z<p):=by
      by_cases q:z<p
      ·simp[q]
      ·simp[q];omega
     show A4 (.int z) (.int p)=_;simp only[A4,dI,this])
    rw[WZ,qz,qc];show((FY _<|if (r.map D.int).length<=lim then zW _ _ _ [.no,.val (.int p)] (r.map D.int)else cS)).bind _=_;rw[MY (by rw[EE];exact hr),j];show(yo<|r.map λz=>D.bl<|!decide (z<p)).map _=_;rw[xK,<- X4];simp[Im]
   have j:zW (.nm 0) jo (W7<|zI<|zM (zQ<|zh 0) (.nm 0) 1 [1] jo (zo A4 (zd 0)<|zd 1)) [.no,.val (.int p)] V=aI (R.map λa=>D.bl<|!((wx a).all λz=>decide<|z<p)):=zE _ _ λa g=>zG rfl rfl (J _ (by
    unfold wx;rw[EE,<- zY];have:=(b2 a g).1;omega))
   rw[J2,WZ,qz,qc];show((Option.bind (FY _<|if V.length<=lim then zW _ _ _ [.no,.val (.int p)] V else cS) _)).bind _=_;rw[MY (by show(R.map _).length<=lim;rw[EE];omega),j];show((yo<|R.map λa=>D.bl<|!((wx a).all λz=>decide<|z<p)).map _).bind _=_;rw[xK];unfold wu;rw[HJ,show(R.all<|(λr=>r.all λz=>decide<|z<p)∘wx)=R.all λa=>(wx a).all λz=>decide (z<p)from rfl,<- X4];simp[Im]
  cases hb:wu p (R.map wx)with
  | false=>
   rw[hb]at W;unfold NK;rw[jc,jx,W];rfl
  | true=>
   rw[hb]at W;refine zm (γ':=γ L S B<|.val<|.tup V) (by unfold NK;rw[jx,W];rfl) ?_;have ev:V=(R.map wx).map λr=>D.tup (r.map λz=> .int (z%p)):=by
    show R.map _=_;rw[FC];refine FH λa g=>?_;show D.tup ((wx a).map D.int)=D.tup ((wx a).map λz=> .int (z%p));congr 1;refine FH λz I=>?_;have h0:0<=z:=by unfold wx at I;obtain⟨e,he,rfl⟩:=FA.mp I;have:=(b2 a g).2 e he;omega
    unfold wu at hb;have h1:=of_decide_eq_true<|EY.mp (EY.mp hb (wx a)<|Lz g) z I;rw[Int.emod_eq_of_lt h0 h1]
   have E:Dq p ws k (A2 ws k c y) = .tup [.str l,.tup [.int hi,.int b,.tup V]]:=by rw[ev];rfl
   simp only[Bool.and_self,if_true];rw[E];simp[OI,γ,L,S,Y,l3]
end
theorem Ww:jt=jG 6 (zF Ou<|zF Nz<|zF Ov<|zF Ow<|zF Ox<|zF Oy<|zF Oz<|zF NA OA):=rfl
theorem mO:kj=jG 5 (zF NU<|zF NV<|zF NW<|zF NX<|zF OQ PM):=rfl
noncomputable def RP:CO Xn:=YV (qZ<|xX<|Xd (zh 1) (ir<|ze<|.int 2) qT<|ir<|ze<|.int 2) (.tp [0,1]) 2 [2,3] (kM jv<|zb (zd 2)<|zb (zd 3)<|zb (zd 0)<|zb (zd 1) zB) (zw zZ<|zb (zd 2)<|zb (zd 3)<|zb (zd 0)<|zb (zd 1) zB)
theorem Q2:qm=Vj 5 (vy n7 NU<|vy (kM jD<|zb (zd 1) zB) NV<|vy n7 NW<|vy (kM qd<|zb (xX<|zM (zQ<|zI<|Xd (zh 1) (ir<|ze<|.int 1) qT<|ir<|ze<|.int 2) (.nm 0) 1 [] jo (xT<|zd 0)) zB) NX RP):=rfl
theorem ba{m:Nat}(G:m<140):Xr (2*m+2) (aI 1) cS (aI 2)=(Ez<|m+1).map λk=>2*k+1:=by
 have : ∀m:Fin 140,Xr (2*m+2) (aI 1) cS (aI 2)=(Ez<|m+1).map λk=>2*k+1:=by decide +kernel
 exact this ⟨m,G⟩
theorem VE{m:Nat}(G:m<140):Xr (2*m+2) (aI 2) cS (aI 2)=(Ez m).map λk=>2*k+2:=by
 have : ∀m:Fin 140,Xr (2*m+2) (aI 2) cS (aI 2)=(Ez m).map λk=>2*k+2:=by decide +kernel
 exact this ⟨m,G⟩
def W6(x:Str):Int:=(Ia x).getD 0
theorem fm{x:Str}(h:M8 x=cI):(0<=W6 x/\W6 x<=30)/\x=xR (W6 x):=by
 unfold M8 O0 at h;rw[Im,Mp]at h;obtain⟨n,a,e⟩:=h;have a:=Fd.mp a;have e:xR (n:Int)=x:=eq_of_beq e;subst e;have:W6 (xR (n:Int))=n:=by unfold W6;rw[Qm ⋯ ⋯];rfl
 rw[this];exact⟨⟨by omega,by omega⟩,rfl⟩
theorem ng{x:Str}(h:M1 x=cI) : ∃p:Int,(p=2\/p=3\/p=5\/p=7)/\x=xR p++ja 58:=by unfold M1 NP at h;rw[Im,Mp]at h;obtain⟨n,a,e⟩:=h;simp at a;exact⟨n,a,(eq_of_beq e).symm⟩
structure B9(t:Str)(ws:List Str):Prop where
 tl:t.length<=20000
 sp:Fk t (ja 32)=ws
 ok:DE ws
 Rl:ws.length<=280
structure qs(ws:List Str)(m:Nat)(p:Int):Prop where
 hm:m<140
 len:ws.length=2*m+2
 bad:wV 0 ws=cS
 hp:p=2\/p=3\/p=5\/p=7
 w0:ws[0]? = aI (xR p++ja 58)
noncomputable def qM(ws:List Str)(m:Nat):List Int:=(Ez<|m+1).map λj=>W6<|ws.getD (2*j+1) EU
def o7(ws:List Str)(k:Nat):Str:=ws.getD (2*k+2) EU
def H9(x:Str):Nat:=(h9 x)[0]?.getD 0
def M9(x:Str):Str:=FV x (aI 1)<|some (-1)
noncomputable def u9(p:Int)(ws:List Str)(m k:Nat):Bool:=D0 p (qM ws m) k (H9<|o7 ws k)<|M9<|o7 ws k
noncomputable def qK(ws:List Str)(m k:Nat):YS:=A2 (qM ws m) k (H9<|o7 ws k)<|M9<|o7 ws k
def yY(ws:List Str)(m:Nat):List YS:=(Ez m).map (qK ws m)
noncomputable def ZT(f:MX):Nat->Nat->Option Nat
 | _,0=>cS
 | s,n+1=>if f s=cI then ZT f (s+1) n else aI s
theorem vm{f:MX} : ∀{n s:Nat},ZT f s n=cS->∀k,s<=k->k<s+n->f k=cI
 | 0,s,_,k,h1,h2=>by omega
 | n+1,s,h,k,h1,h2=>by
  have h:(if f s=cI then ZT f (s+1) n else aI s)=cS:=h;by_cases z:f s=cI
  ·rw[MY z]at h
   by_cases e:k=s
   ·rw[e];exact z
   ·exact vm h k ⋯ ⋯
  ·rw[RQ z]at h;cases h
theorem Qa{t:Str}{ws:List Str}(h:B9 t ws){γ:Ctx}{i:Nat}(hi:γ[i]? = aI (.val (.str t))):x9 (zd i) (ze (.str " ")) γ=aI (ws.map D.str):=by show(zd i γ).bind _=_;rw[we,hi];show(if t.length<=20000/\((" " : Str).length==0)=dV then aI ((Fk t " ").map D.str)else cS)=_;rw[MY ⟨h.tl,by decide +kernel⟩,k4,h.sp]
section
variable{t:Str}{ws:List Str}{m:Nat}{p:Int}
theorem JO(h:qs ws m p){j:Nat}(z:j<=m):M8 (ws.getD (2*j+1) EU)=cI:=by
 have:=vj h.bad (2*j+1) _ (qH (ws:=ws) (by have:=h.len;omega)).2;unfold k8 at this
 rwa [RQ ⋯,MY ⋯]at this
theorem vg(h:qs ws m p)(z:DE ws){k:Nat}(G:k<m):N8 (o7 ws k) (H9<|o7 ws k) (M9<|o7 ws k):=by
 have g:=qH (ws:=ws) (k:=2*k+2) (by have:=h.len;omega);have:=vj h.bad (2*k+2) _ g.2;unfold k8 at this;rw[RQ ⋯,RQ ⋯]at this;obtain⟨c,y,a⟩:=pN (z.2 _ g.1).1 this;have b:H9 (o7 ws k)=c:=by have:=a.fst;unfold H9 o7;rw[this];rfl
 have d:M9 (o7 ws k)=y:=a.mid;rw[b,d];exact a
theorem eX(h:qs ws m p) : ∀z∈qM ws m,0<=z/\z<=30:=λz B=>by obtain⟨j,I,rfl⟩:=FA.mp B;exact(fm<|JO h (by have:=Fd.mp I;omega)).1
theorem wW:(qM ws m).length=m+1:=by simp[qM]
theorem Bl(h:qs ws m p):DI p=cI:=by unfold DI;exact decide_eq_true (by have:=h.hp;simp;omega)
theorem Jc(h:qs ws m p){γ:Ctx}(z:γ[1]? = aI (.val<|wD ws)):gC (zh 1) (ze<|.int 0) γ=aI (.str<|xR p++ja 58):=by rw[WY,JW,z];show((m7 (ws.map D.str).length 0).bind λk=>(ws.map D.str)[k]?)=_;have a:m7 (ws.map D.str).length 0=aI 0:=JJ rfl (by rw[EE,h.len];omega);rw[a];show(ws.map D.str)[0]? = _;rw[Fi,h.w0];rfl
theorem dz(h:qs ws m p)(F:MZ)(n:Nat)(lo hi st:Option Int)(G:Xr (2*m+2) lo hi st=(Ez n).map F)(e2 : ∀k,k<n->F k<ws.length):kf (ws.map D.str) lo hi st=(Ez n).map λk=>D.str (ws.getD (F k) EU):=by unfold kf;rw[EE,h.len,G];exact eK λk a=>by rw[Fi,(qH<|e2 k<|Fd.mp a).2];rfl
theorem AW{γ:Ctx}{a:Int}{X:List D}(G:γ[1]? = aI (.val<|wD ws))(H:kf (ws.map D.str) (aI a) cS (aI 2)=X)(z:X.length<=lim):Xd (zh 1) (ir<|ze<|.int a) qT (ir<|ze<|.int 2) γ=aI X:=by unfold Xd;rw[JW,G];show(if (aI (2:Int))=aI 0 then cS else if (kf (ws.map D.str) (aI a) cS<|some 2).length<=lim then aI (kf (ws.map D.str) (aI a) cS<|some 2)else cS)=_;rw[RQ ⋯,H,MY z]
theorem ft(h:qs ws m p){γ:Ctx}(B:γ[1]? = aI (.val<|wD ws)):zM (zQ<|zI<|Xd (zh 1) (ir<|ze<|.int 1) qT<|ir<|ze<|.int 2) (.nm 0) 1 [] jo (xT<|zd 0) γ=aI ((qM ws m).map D.int):=by
 have e:=jj;have f:=h.hm;have d:=dz h (λk=>2*k+1) (m+1) (aI 1) cS (aI 2) (ba h.hm) λk a=>by have:=h.len;omega
 have x:=AW B d (by simp;omega);have b:zW (.nm 0) jo (xT<|zd 0) [.no] ((Ez<|m+1).map λ(k:Nat)=>D.str<|ws.getD (2*k+1) EU)=aI ((Ez<|m+1).map λk=>D.int<|W6<|ws.getD (2*k+1) EU):=zE _ _ λk a=>zG rfl rfl (by
  have q:=fm<|JO h (j:=k) (by have:=Fd.mp a;omega);exact wM (n:=W6<|ws.getD (2*k+1) EU) (by show aI (D.str _)=_;exact congrArg (λz=>aI (D.str z)) q.2) q.1.1 q.1.2)
 rw[qc,cJ,qz,x];show(if ((Ez<|m+1).map λ(k:Nat)=>D.str<|ws.getD (2*k+1) EU).length<=lim then zW _ _ _ [.no] _ else cS)=_;rw[MY (by simp;omega),b];unfold qM;rw[FC];rfl
theorem WR(h:qs ws m p){γ:Ctx}(z:γ[1]? = aI (.val<|wD ws)):qZ (xX<|Xd (zh 1) (ir<|ze<|.int 2) qT<|ir<|ze<|.int 2) γ=aI ((Ez m).map λ(k:Nat)=>D.tup [.int k,.str (o7 ws k)]):=by
 have d:=jj;have e:=h.hm;have a:=dz h (λk=>2*k+2) m (aI 2) cS (aI 2) (VE h.hm) λk b=>by have:=h.len;omega
 have x:=AW z a (by simp;omega);show((Xd _ _ _ _ _).map _).bind _=_;rw[x];show aI (vh<|(Ez m).map λk=>D.str<|o7 ws k)=_;rw[Je]
theorem ZA(h:qs ws m p)(I:DE ws) : ∀(n s:Nat),s+n=m->
 wX (.tp [0,1]) (kM jv (zb (zd 2) (zb (zd 3) (zb (zd 0) (zb (zd 1) zB))))) (zw zZ (zb (zd 2) (zb (zd 3) (zb (zd 0) (zb (zd 1) zB))))) [.no,.no,.val (.int p),.val (.tup ((qM ws m).map D.int))] ((Ib s n).map λ(k:Nat)=>D.tup [.int k,.str (o7 ws k)])=(ZT (u9 p ws m) s n).map λk=>(("NoArrow" : Str),aI (k:Int))
 | 0,s,e=>rfl
 | n+1,s,e=>by
  have a:=h.hm;have O:=ZA h I n (s+1) ⋯;obtain⟨R,U⟩:=KU (k:=s) (Bl h) (eX h) (by rw[wW];omega) ⋯<|vg h I (k:=s) ⋯;rw[GP,Fb];show(match kM jv (zb (zd 2)<|zb (zd 3)<|zb (zd 0)<|zb (zd 1) zB) [.val (.int (s:Int)),.val<|.str<|o7 ws s,.val<|.int p,.val (.tup<|(qM ws m).map D.int)]with
   | some c=>aI c
   | none=>(zw zZ (zb (zd 2)<|zb (zd 3)<|zb (zd 0)<|zb (zd 1) zB) [.val (.int (s:Int)),.val<|.str<|o7 ws s,.val<|.int p,.val (.tup<|(qM ws m).map D.int)]).bind λ_=>wX _ _ _ _ _)=_
  have x1:kM jv (zb (zd 2)<|zb (zd 3)<|zb (zd 0)<|zb (zd 1) zB) [.val (.int (s:Int)),.val<|.str<|o7 ws s,.val<|.int p,.val (.tup<|(qM ws m).map D.int)]=jv [.int p,.tup<|(qM ws m).map D.int,.int (s:Int),.str (o7 ws s)]:=rfl;have W:zw zZ (zb (zd 2)<|zb (zd 3)<|zb (zd 0)<|zb (zd 1) zB) [.val (.int (s:Int)),.val<|.str<|o7 ws s,.val<|.int p,.val (.tup<|(qM ws m).map D.int)]=(zZ [.int p,.tup<|(qM ws m).map D.int,.int (s:Int),.str (o7 ws s)]).map aL:=rfl;rw[x1,W,R];by_cases z:u9 p ws m s=cI
  ·have B:D0 p (qM ws m) s (H9<|o7 ws s) (M9<|o7 ws s)=cI:=z
   rw[MY B,U B,show ZT (u9 p ws m) s (n+1)=ZT (u9 p ws m) (s+1) n from MY z];exact O
  ·have B : ¬D0 p (qM ws m) s (H9<|o7 ws s) (M9<|o7 ws s)=cI:=z
   rw[RQ B,show ZT (u9 p ws m) s (n+1)=aI s from RQ z];rfl
noncomputable def B6(t:Str)(ws:List Str)(G z B:Cell):Ctx:=[.val (.str t),.val<|wD ws,G,z,B]
theorem aO(h:B9 t ws):NU [.val (.str t),.no,.no,.no,.no]=aI (.next<|B6 t ws .no .no .no):=by unfold NU;rw[jV,vq,Qa h rfl];rfl
theorem mY(h:qs ws m p):NW (B6 t ws .no .no .no)=aI (.next<|B6 t ws (.val<|.int p) .no .no):=by
 have z:=Jc h (γ:=B6 t ws .no .no .no) rfl;have a:=h.hp;have B:zy (xR p++ja 58)=cI:=by rcases a with rfl | rfl | rfl | rfl<;>decide +kernel
 have b:=xS z B (l:=qT) (h:=ir<|vw<|ze<|.int 1) (lo:=cS) (hi:=aI (-1)) rfl rfl;rw[show FV (xR p++ja 58) cS (aI (-1))=xR p by rcases a with rfl | rfl | rfl | rfl<;>decide +kernel]at b;unfold NW;rw[jV,wM b ⋯ ⋯];rfl
theorem lV(h:qs ws m p)(c:Cell):(zb (xX<|zM (zQ<|zI<|Xd (zh 1) (ir<|ze<|.int 1) qT<|ir<|ze<|.int 2) (.nm 0) 1 [] jo (xT<|zd 0)) zB) (B6 t ws c .no .no)=aI [.lst ((qM ws m).map D.int)]:=by rw[qp,vq,ft h rfl];rfl
theorem mX(h:qs ws m p)(G:t9 (qM ws m)=cI):NX (B6 t ws (.val<|.int p) .no .no)=aI (.next<|B6 t ws (.val<|.int p) (.val<|.tup<|(qM ws m).map D.int) .no):=by unfold NX;have:=fi (ws:=qM ws m) (by rw[wW];have:=h.hm;omega) G;rw[jV,vU,lV h,EA,this];rfl
theorem fZ(h:B9 t ws){k:Nat}(z:wV 0 ws=aI k):qm [.str t]=aI (("NoText" : Str),aI (k:Int)):=by have c:=WE h.ok;rw[z]at c;rw[Q2];exact qG rfl (aO h) (ZV c)
theorem fY(h:B9 t ws)(z:wV 0 ws=cS)(B:ws.length%2=1):qm [.str t]=aI (("NoText" : Str),aI (ws.length:Int)):=by have c:=WE h.ok;rw[z]at c;have c:jD [wD ws]=if ws.length%2=1 then aI (("NoText" : Str),aI (ws.length:Int))else cS:=c;rw[MY B]at c;rw[Q2];exact qG rfl (aO h) (ZV c)
theorem mZ(h:B9 t ws)(f:qs ws m p):kM jD (zb (zd 1) zB) (B6 t ws .no .no .no)=cS/\NV (B6 t ws .no .no .no)=aI (.next<|B6 t ws .no .no .no):=by
 have c:=WE h.ok;rw[f.bad]at c;have c:jD [wD ws]=if ws.length%2=1 then aI (("NoText" : Str),aI (ws.length:Int))else cS:=c;have a : ¬ws.length%2=1:=by have:=f.len;omega
 rw[RQ a]at c;refine⟨c,?_⟩;have:=pH h.ok f.bad a;unfold NV;show((jU [wD ws]).map aL).map _=_;rw[this];rfl
theorem uf(h:B9 t ws)(f:qs ws m p):qm [.str t]=if t9 (qM ws m)=dV then aI (("NoWidths" : Str),cS)else (ZT (u9 p ws m) 0 m).map λk=>(("NoArrow" : Str),aI (k:Int)):=by
 have b:=jj;have d:=f.hm;obtain⟨z,a⟩:=mZ h f;rw[Q2];refine qG rfl (aO h)<|qG z a<|qG rfl (mY f) ?_;have g:=fg (ws:=qM ws m) (by rw[wW];omega);have x : ∀v,qd [.lst ((qM ws m).map D.int)]=v->kM qd (zb (xX<|zM (zQ<|zI<|Xd (zh 1) (ir<|ze<|.int 1) qT<|ir<|ze<|.int 2) (.nm 0) 1 [] jo (xT<|zd 0)) zB) (B6 t ws (.val<|.int p) .no .no)=v:=λv B=>by unfold kM;rw[lV f];exact B
 cases hw:t9 (qM ws m)with
 | false=>
  rw[hw]at g;exact ZV<|x _ g
 | true=>
  rw[hw,MY rfl]at g;rw[RQ ⋯];refine qG (x _ g) (mX f hw) ?_;unfold RP YV;rw[WR f rfl,EA,MY (by simp;omega)];have:=ZA f h.ok m 0 ⋯;rw[<- FQ]at this;exact this
theorem eS(h:qs ws m p):eT p (qM ws m) (yY ws m)=(Ez m).map λk=>Dq p (qM ws m) k (qK ws m k):=by unfold eT yY;rw[EE,Ic];refine FH λk a=>?_;have a:=Fd.mp a;congr 1;simp[Il,a]
theorem ug(h:B9 t ws)(f:qs ws m p)(G:t9 (qM ws m)=cI)(B:ZT (u9 p ws m) 0 m=cS):kj [.str t]=aI (.val<|D6 p (qM ws m)<|yY ws m):=by
 have d:=jj;have I:3<=lim:=by omega
 have e:=f.hm;let Z:Cell:= .val (.tup<|(qM ws m).map D.int);have O:OQ (B6 t ws (.val<|.int p) Z .no)=aI (.next<|B6 t ws (.val<|.int p) Z<|.val<|.lst<|eT p (qM ws m)<|yY ws m):=by
  have b:zW (.tp [0,1]) jo (zw zZ<|zb (zd 2)<|zb (zd 3)<|zb (zd 0)<|zb (zd 1) zB) [.no,.no,.val<|.int p,Z] ((Ez m).map λ(k:Nat)=>D.tup [.int k,.str (o7 ws k)])=aI (eT p (qM ws m)<|yY ws m):=by rw[eS f];refine zE _ _ λk a=>zG rfl rfl ?_;have a:=Fd.mp a;have z:u9 p ws m k=cI:=vm B k ⋯ ⋯;have:=(KU (k:=k) (Bl f) (eX f) (by rw[wW];omega) ⋯<|vg f h.ok (k:=k) a).2 z;show(zZ [.int p,.tup<|(qM ws m).map D.int,.int (k:Int),.str (o7 ws k)]).map aL=_;rw[this];rfl
  unfold OQ;rw[jV,vq,qc,WR f rfl,EA,MY (by simp;omega)];show((zW _ _ _ [.no,.no,.val<|.int p,Z] _).map _).map _=_;rw[b];rfl
 rw[mO];refine jr<|zm (aO h)<|zm (mZ h f).2 (zm (mY f)<|zm (mX f G)<|zm O ?_);simp[PM,B6,Z,D6,I]
end
section
variable{t:Str}{ws:List Str}{m:Nat}{p:Int}
noncomputable def ow(t:Str)(ws:List Str)(G z B H:Cell):Ctx:=[.val (.str t),.val<|wD ws,G,z,B,H]
theorem fw(h:B9 t ws):Ou [.val (.str t),.no,.no,.no,.no,.no]=aI (.next<|ow t ws .no .no .no .no):=by unfold Ou;rw[jV,vq,Qa h rfl];rfl
theorem fv(h:B9 t ws) : ∃G,Nz (ow t ws .no .no .no .no)=aI (match wV 0 ws with
 | some k=> .ret (.own [.str "NoText",.int (k:Int)])
 | none=> .next (ow t ws G .no .no .no)):=by
 have f:=jj;have d:=h.Rl;obtain⟨G,e⟩:=Jf h.ok (.val<|.str t) .no .no .no ws.length 0 .no ⋯;rw[<- FQ,IV]at e;refine⟨G,?_⟩;have b:ws.length<=lim:=by omega
 have a:je (qO<|zh 1) (ow t ws .no .no .no .no)=aI ((Ez ws.length).map λ(j:Nat)=>D.int j):=by simp[ow,wD,Wf b,yv]
 unfold Nz;rw[KW,a];exact e
theorem mq(G:Cell):sB (zo i3 (zo j8 (qO<|zh 1)<|ze<|.int 2)<|ze<|.int 1) (ow t ws G .no .no .no)=aI (decide<|ws.length%2=1):=by
 have e:(((ws.length:Nat):Int)%2=1)↔ws.length%2=1:=by omega
 simp[ow,wD,e]
theorem iI(h:B9 t ws){k:Nat}(z:wV 0 ws=aI k):jt [.str t]=aI (.own [.str "NoText",.int (k:Int)]):=by obtain⟨a,e⟩:=fv h;rw[z]at e;have e:Nz (ow t ws .no .no .no .no)=aI (.ret (.own [.str "NoText",.int (k:Int)])):=e;rw[Ww];refine jr (zm (fw h) ?_);rw[jc,e];rfl
theorem iH(h:B9 t ws)(z:wV 0 ws=cS)(B:ws.length%2=1):jt [.str t]=aI (.own [.str "NoText",.int (ws.length:Int)]):=by
 have I:2<=lim:=by have:=jj;omega
 obtain⟨a,e⟩:=fv h;rw[z]at e;rw[Ww];refine jr<|zm (fw h)<|zm (γ':=ow t ws a .no .no .no) e ?_;unfold Ov;rw[jc,jx,mq,decide_eq_true B];simp[ow,wD,I]
noncomputable def J1(ws:List Str)(m:Nat):Cell:= .val (.lst<|(qM ws m).map D.int)
theorem tf(h:qs ws m p)(G:Cell):Ow (ow t ws G .no .no .no)=aI (.next<|ow t ws G (.val<|.int p) .no .no):=by
 have z:=Jc h (γ:=ow t ws G .no .no .no) rfl;have a:=h.hp;have B:zy (xR p++ja 58)=cI:=by rcases a with rfl | rfl | rfl | rfl<;>decide +kernel
 have sg:h9 (xR p++ja 58)=[48+p.toNat,58]:=by rcases a with rfl | rfl | rfl | rfl<;>decide +kernel
 have I:=yR (k:=0) (i:=0) (g:=ze<|.int 0) (c:=48+p.toNat) z B rfl (by rw[sg];rfl) (by rw[sg];rfl);have:=Kg (c:=48+p.toNat) ⋯ ⋯ I;rw[show(((48+p.toNat:Nat)):Int) - 48=p by omega]at this;unfold Ow;rw[jV,this];rfl
theorem sZ(h:qs ws m p)(G:Cell):Ox (ow t ws G (.val<|.int p) .no .no)=aI (.next<|ow t ws G (.val<|.int p) (J1 ws m) .no):=by
 have e:=jj;have f:=h.hm;have I:inR 1=cI:=by decide
 have O:inR (ws.length:Int)=cI:=k7 (by have:=h.len;omega) (by have:=h.len;omega);have a:Xe (ze<|.int 1) (qO<|zh 1) (ze<|.int 2) (ow t ws G (.val<|.int p) .no .no)=aI ((Ez<|m+1).map λ(k:Nat)=>D.int<|1+(k:Int)*2):=by show(if (inR 1=cI/\inR ((ws.map D.str).length:Int)=cI)/\(2:Int)=2 then aI (vF 1 ((((ws.map D.str).length:Int) - 1+1)/2).toNat)else cS)=_;rw[EE,MY ⟨⟨I,O⟩,rfl⟩,show((((ws.length:Nat):Int) - 1+1)/2).toNat=m+1 by have:=h.len;omega];rfl
 have d:zW (.nm 0) jo (xT<|gC (zh 1)<|zd 0) [.no,.val (wD ws)] ((Ez<|m+1).map λ(k:Nat)=>D.int<|1+(k:Int)*2)=aI ((Ez<|m+1).map λk=>D.int<|W6<|ws.getD (2*k+1) EU):=zE _ _ λk b=>zG rfl rfl (by
  have b:=Fd.mp b;have q:=fm<|JO h (j:=k) ⋯;have B:=Q4 (ws:=ws) (γ:=[.val (.int (((2*k+1:Nat)):Int)),.val (wD ws)]) (i:=1) (j:=0) (s:=2*k+1) rfl rfl (by have:=h.len;omega);rw[show(((2*k+1:Nat)):Int)=1+(k:Int)*2 by omega]at B;exact wM (n:=W6<|ws.getD (2*k+1) EU) (B.trans<|congrArg (λz=>aI (D.str z)) q.2) q.1.1 q.1.2)
 unfold Ox;rw[jV,vq,qc,a,EA,MY (by simp;omega)];show((zW _ _ _ [.no,.val (wD ws)] _).map _).map _=_;rw[d];unfold J1 qM;rw[FC];rfl
theorem tL(h:qs ws m p)(G:Cell):(xJ (sB<|zo wy (qO<|zh 4)<|ze<|.int 6)<|sB<|zo wy (fQ<|zh 4)<|ze<|.int 30) (ow t ws G (.val<|.int p) (J1 ws m) .no)=aI (!t9 (qM ws m)):=by
 have a:(qM ws m).all (λx=>decide<|0<=x)=cI:=EY.mpr λz I=>decide_eq_true (eX h z I).1;have O:decide (1<=(qM ws m).length)=cI:=decide_eq_true (by rw[wW];omega);have w:t9 (qM ws m)=(decide ((qM ws m).length<=6) && decide (YK (qM ws m)<=30)):=by unfold t9;rw[a,O];simp
 rw[w];by_cases b:(qM ws m).length<=6
 ·have B : ¬(6:Int)<((qM ws m).length:Int):=by omega
  by_cases s:YK (qM ws m)<=30
  ·have d : ¬30<YK (qM ws m):=by omega
   simp[ow,J1,kS,b,B,s,d]
  ·have d:30<YK (qM ws m):=by omega
   simp[ow,J1,kS,b,B,s,d]
 ·have B:(6:Int)<((qM ws m).length:Int):=by omega
  simp[ow,J1,kS,b,B]
noncomputable def DR(p:Int)(ws:List Str)(m k:Nat):D:=if u9 p ws m k=cI then Dq p (qM ws m) k (qK ws m k)else .ih
theorem sY(h:qs ws m p)(z:DE ws)(G:Cell):Oz (ow t ws G (.val<|.int p) (J1 ws m) .no)=aI (.next<|ow t ws G (.val<|.int p) (J1 ws m)<|.val<|.lst<|(Ez m).map (DR p ws m)):=by
 have i:=jj;have j:=h.hm;have B:0<p:=by have:=h.hp;omega
 have I:inR (m:Int)=cI:=k7 ⋯ ⋯;have b:je (zo cj (qO<|zh 4)<|ze<|.int 1) (ow t ws G (.val<|.int p) (J1 ws m) .no)=aI ((Ez m).map λ(k:Nat)=>D.int (k:Int)):=by rw[vo];simp[ow,J1,wW,I,qU,jS]
 have f:zW (.nm 0) jo (zw qg<|zb (zd 2)<|zb (zd 3)<|zb (zd 0)<|zb (gC (zh 1)<|zo qC (ze<|.int 2)<|zo yA (ze<|.int 2)<|zd 0) zB) [.no,.val<|wD ws,.val<|.int p,J1 ws m] ((Ez m).map λ(k:Nat)=>D.int (k:Int))=aI ((Ez m).map (DR p ws m)):=zE _ _ λk a=>zG rfl rfl (by
  have a:=Fd.mp a;have g:=XF (p:=p) (ws:=qM ws m) (k:=k) B (by rw[wW];omega)<|vg h z a;have O:QY 2 (k:Int)=cI:=KQ _ _ ⋯ ⋯;have R:gC (zh 1) (zo qC (ze<|.int 2)<|zo yA (ze<|.int 2)<|zd 0) [.val (.int (k:Int)),.val<|wD ws,.val<|.int p,J1 ws m]=aI (.str<|o7 ws k):=by
   have e:zo qC (ze<|.int 2) (zo yA (ze<|.int 2)<|zd 0) [.val (.int (k:Int)),.val<|wD ws,.val<|.int p,J1 ws m]=aI (.int (((2*k+2:Nat)):Int)):=by simp[O];omega
   rw[WY,e];show((m7 (ws.map D.str).length (((2*k+2:Nat)):Int)).bind λk=>(ws.map D.str)[k]?)=_;have d:2*k+2<ws.length:=by have:=h.len;omega
   rw[EE,jR,MY d];show(ws.map D.str)[2*k+2]? = _;rw[Fi,(qH d).2];rfl
  show zw _ _ [.val (.int (k:Int)),.val<|wD ws,.val<|.int p,J1 ws m]=_;rw[vU,qp,qp,qp,qp,R];simp only[we,WX,Lg,Lh,kD,EA,HM];show(qg [.int p,.lst<|(qM ws m).map D.int,.int (k:Int),.str (o7 ws k)]).map aL=_;rw[g];rfl)
 unfold Oz;rw[jV,vq,qc,b,EA,MY (by simp;omega)];show((zW _ _ _ [.no,.val<|wD ws,.val<|.int p,J1 ws m] _).map _).map _=_;rw[f];rfl
theorem pQ(G:List Int)(k:Nat)(q:YS)(h:l8 (.str q.1)=cI):nt (Dq p G k q)=cI:=by
 have a:nt (.str q.1)=cI:=by unfold l8 at h;rw[Ex]at h;exact h.2
 unfold Dq N2;simp only[nt,m3,IA,Hw];have:m3 (q.2.map λr=>D.tup<|r.map λx=> .int (x%p))=cI:=Zo λd b=>by
  obtain⟨r,_,rfl⟩:=FA.mp b;show m3 (r.map λx=>D.int<|x%p)=cI;exact Zo λe z=>by obtain⟨x,_,rfl⟩:=FA.mp z;rfl
 rw[this];have a:q.1.cps.all (· < 1114112)=cI:=a;rw[a];rfl
theorem pR(h:qs ws m p)(z:DE ws){k:Nat}(G:k<m):nt (DR p ws m k)=cI:=by
 unfold DR;split
 ·exact pQ _ _ _ (de (vg h z G).tb).2.2
 ·rfl
theorem WW(k:Nat):lA (DR p ws m k) .ih = !u9 p ws m k:=by
 unfold DR;by_cases z:u9 p ws m k=cI
 ·rw[MY z,z];rfl
 ·rw[RQ z]
  rw[Mq]at z;rw[z];rfl
theorem JP(f:MX)(g:Nat->D)(B : ∀k,lA (g k) .ih = !f k) : ∀n s,((Ib s n).map g).findIdx? (λd=>lA d .ih)=(ZT f s n).map λk=>k - s
 | 0,s=>rfl
 | n+1,s=>by
  rw[GP,Fb,List.findIdx?_cons,B];by_cases z:f s=cI
  ·rw[z,show ZT f s (n+1)=ZT f (s+1) n from MY z,JP f g B n (s+1)]
   have lo : ∀n s k,ZT f s n=aI k->s<=k:=by
    intro n
    induction n with
    | zero=>intro s k e;cases e
    | succ n I=>
     intro s k e;have e:(if f s=cI then ZT f (s+1) n else aI s)=aI k:=e;by_cases z:f s=cI
     ·rw[MY z]at e;have:=I _ _ e;omega
     ·rw[RQ z]at e;cases e;exact EF _
   simp only[LR,LS,if_false,Option.map_map];cases hb:ZT f (s+1) n with
   | none=>rfl
   | some k=>
    have:=lo _ _ _ hb;show aI (k - (s+1)+1)=aI (k - s);congr 1;omega
  ·rw[show ZT f s (n+1)=aI s from RQ z]
   rw[Mq]at z;rw[z];simp
theorem lr(f:MX)(g:Nat->D)(z : ∀k,lA (g k) .ih = !f k)(n s:Nat):((Ib s n).map g).any (λd=>lA d .ih)=(ZT f s n).isSome:=by have:=JP f g z n s;rw[<- List.findIdx?_isSome,this];simp
theorem px(h:B9 t ws)(f:qs ws m p):jt [.str t]=aI (.own (if t9 (qM ws m)=dV then [.str "NoWidths",.ih]else match ZT (u9 p ws m) 0 m with
 | some k=>[.str "NoArrow",.int (k:Int)]
 | none=>[.str "made",D6 p (qM ws m) (yY ws m)])):=by
 have s:=jj;have I:2<=lim:=by omega
 have U:3<=lim:=by omega
 have u:=f.hm;have r : ¬ws.length%2=1:=by have:=f.len;omega
 obtain⟨a,e⟩:=fv h;rw[f.bad]at e;rw[Ww];refine jr<|zm (fw h)<|zm (γ':=ow t ws a .no .no .no) e<|zm (γ':=ow t ws a .no .no .no) (by unfold Ov;rw[jx,mq,decide_eq_false r];rfl)<|zm (tf f a)<|zm (sZ f a) ?_;have B:=tL (t:=t) f a;cases hw:t9 (qM ws m)with
 | false=>
  rw[hw]at B;unfold Oy;rw[jc,jx,B];simp[I]
 | true=>
  rw[hw]at B;rw[RQ ⋯];refine zm (γ':=ow t ws a (.val<|.int p) (J1 ws m) .no) (by unfold Oy;rw[jx,B];rfl)<|zm (sY f h.ok a) ?_;let z:=(Ez m).map (DR p ws m);let g:=ow t ws a (.val<|.int p) (J1 ws m)<|.val<|.lst z;have O:m3 z=cI:=Zo λd o=>by obtain⟨k,l,rfl⟩:=FA.mp o;exact pR f h.ok<|Fd.mp l
  have R:l8 .ih=cI:=by decide +kernel
  have W:z.length<=lim:=by show((Ez m).map _).length<=lim;simp;omega
  have i:ud (ze .ih) (zh 5) g=aI (.bl (ZT (u9 p ws m) 0 m).isSome):=by show(if l8 .ih=cI/\m3 z=cI then aI (D.bl<|z.any λd=>lA d .ih)else cS)=_;rw[MY ⟨R,O⟩];have:=lr (u9 p ws m) (DR p ws m) WW m 0;rw[<- FQ]at this;exact congrArg (λb=>aI (D.bl b)) this
  show zF NA OA g=_;cases hb:ZT (u9 p ws m) 0 m with
  | some k=>
   rw[hb]at i;have Y:fU (zh 5) (ze .ih) g=aI (.int (k:Int)):=by show(if (l8 .ih=cI/\m3 z=cI)/\z.length<=lim then (z.findIdx? λd=>lA d .ih).map λ(j:Nat)=>D.int (j:Int)else cS)=_;have:=JP (u9 p ws m) (DR p ws m) WW m 0;rw[<- FQ,hb]at this;have this:z.findIdx? (λd=>lA d .ih)=aI k:=this;rw[MY ⟨⟨R,O⟩,W⟩,this];rfl
   unfold NA;rw[jc,jx,J2,i,yH,X3,qp,qp,Y];simp[I]
  | none=>
   rw[hb]at i;have n:z=eT p (qM ws m) (yY ws m):=by rw[eS f];refine FH λk l=>?_;have l:=Fd.mp l;exact MY<|vm hb k ⋯ ⋯
   refine zm (γ':=g) (by unfold NA;rw[jx,J2,i];rfl) ?_;simp[OA,g,ow,J1,I,U,D6,n]
end
theorem rh:jh=jG 5 (zF Og<|zF Rb<|zF Rc<|zF Nl<|zF Nm<|zF Oh Np):=rfl
section
variable{t:Str}
theorem WT{G:List D}(H:jt [.str t]=aI (.own G))(z:(zF Nl<|zF Nm<|zF Oh Np) [.val (.str t),.val<|.lst G,.val .ih,.val .ih,.no]=aI (.ret<|.val<|.bl cI)):jh [.str t]=aI (.val<|.bl cI):=by rw[rh];exact jr<|zm (γ':=[.val (.str t),.val<|.lst G,.no,.no,.no]) (by show Og [.val (.str t),.no,.no,.no,.no]=_;simp[Og,H])<|zm (γ':=[.val (.str t),.val<|.lst G,.val .ih,.no,.no]) rfl<|zm (γ':=[.val (.str t),.val<|.lst G,.val .ih,.val .ih,.no]) rfl z
theorem kE(G:Str)(dd:D)(z:Option Int)(J:jt [.str t]=aI (.own [.str G,dd]))(B:qm [.str t]=aI (G,z))(L:xI [.exc G z]=aI (.own [.str G]))(I:l8 (.str G)=cI)
 (H:i3 (.str G) (.str "NoWidths")=aI (.bl cI)\/(i3 (.str G) (.str "NoWidths")=aI (.bl dV)/\∃i:Int,dd = .int i/\z=aI i/\vx G = "at")):jh [.str t]=aI (.val (.bl cI)):=by
 have O:1<=lim:=by have:=jj;omega
 refine WT J ?_;let a:Ctx:=[.val (.str t),.val<|.lst [.str G,dd],.val<|.exc G z,.val .ih,.no];refine zm (γ':=a) ?_ (zm (γ':=a) ?_ (zm (γ':=a) ?_ ?_))
 ·simp[Nl,rl,a,B]
 ·simp[Nm,a,pE]
 ·have b:n6 (.lst [.str G]) (.lst [.str G])=aI (.bl dV):=JS (by show(l8 (.str G) && cI)=cI;rw[I];rfl)
  simp[Oh,a,L,b,O]
 ·rcases H with h | ⟨h,i,rfl,rfl,ha⟩
  ·simp[Np,a,h]
  ·have R:rq "at" (zd 2) a=aI (.int i):=by
    show(if (vx G==("at" : Str))=cI then aI (D.int i)else cS)=_;rw[ha];rfl
   rw[Np,yB,Aw,rf,vU,qp,yC,yC,R];have U:jd [.int i]=aI (.val<|.bl cI):=by rfl
   simp[a,h,U]
theorem tP(G:t.length<=278)(z : ∀c∈h9 t,c<1114112):B9 t (Fk t<|ja 32):=by obtain⟨b1,b2⟩:=Ke t 32;exact⟨by omega,rfl,⟨by omega,λx a=>⟨by have:=(b2 x a).1;omega,λc b=>z c<|(b2 x a).2.2 c b⟩⟩,by omega⟩
theorem WS(G:t.length<=278)(W : ∀c∈h9 t,c<1114112):jh [.str t]=aI (.val<|.bl cI):=by
 have h:=tP G W;have Y:=PyProof.Rows.split_pos t<|ja 32;generalize a7:Fk t (ja 32)=ws at h Y;cases hb:wV 0 ws with
 | some k=>exact kE "NoText" (.int k) (aI (k:Int)) (iI h hb) (fZ h hb) (yn _ _ ⋯) (by kernel_rfl) (.inr ⟨by kernel_rfl,_,rfl,rfl,by decide +kernel⟩)
 | none=>
  by_cases U:ws.length%2=1
  ·exact kE "NoText" (.int ws.length) (aI (ws.length:Int)) (iH h hb U) (fY h hb U) (yn _ _ ⋯) (by kernel_rfl) (.inr ⟨by kernel_rfl,_,rfl,rfl,by decide +kernel⟩)
  ·have g:=h.Rl
   obtain⟨m,o⟩ : ∃m,ws.length=2*m+2:=⟨ws.length/2 - 1,by omega⟩;have g0:=qH (ws:=ws) (k:=0) ⋯;have O:=vj hb 0 _ g0.2;have O:M1 (ws.getD 0 EU)=cI:=O;obtain⟨p,s,b⟩:=ng O;have f:qs ws m p:=⟨by omega,o,hb,s,by rw[g0.2,b]⟩;have B:=px h f;have I:=uf h f;cases hw:t9 (qM ws m)with
   | false=>
    rw[hw,MY rfl]at B I;exact kE "NoWidths" .ih cS B I (yn _ _ ⋯) (by kernel_rfl) (.inl (by kernel_rfl))
   | true=>
    rw[hw,RQ ⋯]at B I;cases ha:ZT (u9 p ws m) 0 m with
    | some k=>
     rw[ha]at B I;exact kE "NoArrow" (.int k) (aI (k:Int)) B I (yn _ _ ⋯) (by kernel_rfl) (.inr ⟨by kernel_rfl,_,rfl,rfl,by decide +kernel⟩)
    | none=>
     rw[ha]at B I;have F:=ug h f hw ha;have i:(yY ws m).length+1=(qM ws m).length:=by simp[yY,qM]
     have l:bad (qM ws m) 0 (yY ws m)=cS:=cG λj q e=>by
      have n:j<m:=by have:=(EL.mp e).1;simpa[yY]using this
      have eq:q=qK ws m j:=by simp[yY,n]at e;exact e.symm
      subst eq;have z:=vm ha j ⋯ ⋯;unfold u9 D0 at z;rw[Ex]at z;rw[Mm];exact z.2
     have r:(yY ws m).length<=100:=by have:=(YZ hw).1.2;omega
     have is:=bK (p:=p) r hw i l;refine WT B ?_;let R:=D6 p (qM ws m) (yY ws m);refine zm (γ':=[.val (.str t),.val (.lst [.str "made",R]),.val .ih,.val R,.no]) ?_ ?_
     ·have a:qm [.str t]=cS:=I
      simp[Nl,rl,a,F,R]
     ·have d:i3 (.str "made") (.str "made")=aI (.bl cI):=by kernel_rfl
      rw[jc];simp[Nm,R,is,d,pE]
end
theorem KN:qo=jG 6 (zF Om<|zF Nu<|zF Nv<|zF Nw<|zF Oo<|zF Oq<|zF Ot<|zF MH<|zF KX<|zF lK pJ):=rfl
noncomputable def eW(n L:Nat)(ws:List Str):Prop:=ws.length<=n/\∀x∈ws,x.length<=L/\∀c∈h9 x,c<1114112
noncomputable def Dh:List Str:=["2:","3:","5:","7:","4:","11:","5",":","0","1","2","3","30","31","03","-1","->","<-","-0>","<1-","-00/00>","<//-","-/>","-1","<1>","-a>","r","","--","-0|0>"]
theorem oA : ∀x∈Dh,x.length<=7/\∀c∈h9 x,c<1114112:=by decide +kernel
theorem ou{z:Int} : ∃x,ko [.int z]=aI (.val<|.str x)/\x.length<=7/\∀c∈h9 x,c<1114112:=by
 obtain⟨n,B,a⟩:=xp (m:=z) 30 ⋯;have a:n<30:=by omega
 have b:Dh.length=30:=rfl;have g:=qH (ws:=Dh) (k:=n) ⋯;refine⟨Dh.getD n EU,?_,oA _ g.1⟩;unfold ko;refine jr<|zm (γ':=[.val (.int z),.val (.lst<|(Dh.take 18).map D.str)]) rfl<|zm (γ':=[.val (.int z),.val (wD Dh)]) rfl ?_;have I:gC (zh 1) (zo j8 (zd 0)<|ze<|.int 30) [.val (.int z),.val (wD Dh)]=aI (.str<|Dh.getD n EU):=by
  have e:zo j8 (zd 0) (ze<|.int 30) [.val (.int z),.val (wD Dh)]=aI (.int (n:Int)):=by simp[B]
  rw[WY,e];show((m7 (Dh.map D.str).length (n:Int)).bind λk=>(Dh.map D.str)[k]?)=_;rw[EE,jR,MY ⋯];show(Dh.map D.str)[n]? = _;rw[Fi,g.2];rfl
 rw[yB,I];rfl
section
variable{ws:List Str}
theorem eQ(a:Nat):KL (ws.map D.str) cS (aI (a:Int))=(ws.take a).map D.str:=by
 unfold KL XR;simp only[IV,Nat.sub_zero];rw[RQ ⋯,EE,List.map_take,Ij];by_cases h:a<=ws.length
 ·rw[Nat.min_eq_left h]
 ·rw[Nat.min_eq_right ⋯,G3 ⋯,G3 (by simp;omega)]
theorem eR(a:Nat):KL (ws.map D.str) (aI (a:Int)) cS=(ws.drop a).map D.str:=by
 unfold KL XR;simp only;rw[RQ ⋯,EE,List.map_drop,Ij];by_cases h:a<=ws.length
 ·rw[Nat.min_eq_left h,G3 ⋯]
 ·rw[Nat.min_eq_right ⋯,Ll ⋯,Ll (by simp;omega)]
  simp
end
theorem tW{x:Str}{a:Nat}(h:a<=x.length):h9 (FV x cS<|some (a:Int))=(h9 x).take a:=by
 rw[ku (a:=0) (b:=a) ?_ h]
 ·simp
 ·unfold Fs
  simp;rw[RQ ⋯];congr 1;omega
theorem mC{x:Str}{a:Nat}(h:a<=x.length+1):h9 (FV x (aI (a:Int)) cS)=(h9 x).drop a:=by
 have e:=zY x;by_cases d:a<=x.length
 ·rw[ku (a:=a) (b:=x.length) ?_ (EF _)]
  ·exact G3 (by simp;omega)
  ·unfold Fs
   simp;rw[RQ ⋯];congr 1;omega
 ·rw[ku (a:=x.length) (b:=x.length) ?_ (EF _)]
  ·rw[Nat.sub_self,List.take_zero,Ll ⋯]
  ·unfold Fs
   simp;rw[RQ ⋯];congr 1;omega
theorem mD(z:Int){γ:Ctx}{f:CO D}(G:f γ=aI (.int z)) : ∃c,c<1114112/\jI (ze (.str "0123456789/-<>:6 ")) (zo j8 (zo wQ f (ze (.int 1200))) (ze (.int 17))) γ=aI (.str (ja c)):=by
 obtain⟨n,I,b⟩:=xp (m:=z/1200) 17 ⋯;have b:n<17:=by omega
 have e:zo j8 (zo wQ f<|ze<|.int 1200) (ze<|.int 17) γ=aI (.int (n:Int)):=by rw[yC,yC,G];simp[I]
 have sg:(h9 "0123456789/-<>:6 ").length=17:=by decide +kernel
 have B : ∀c∈h9 "0123456789/-<>:6 ",c<1114112:=by decide +kernel
 generalize hq:h9 "0123456789/-<>:6 " = s at sg B;have a:n<s.length:=by omega
 refine⟨s[n],B _<|GQ a,yR (k:=n) rfl ⋯ e (by rw[hq,sg,jR,MY b])<|by rw[hq];exact Ey a⟩
theorem wU{γ:Ctx}{f g:CO (List D)}{a b:List D}(G:f γ=aI a)(z:g γ=aI b)(h:a.length+b.length<=lim):yU (zI f) (zI g) γ=aI (a++b):=by show((f γ).map _).bind _=_;rw[G];show((g γ).map _).bind _=_;rw[z];show(if a.length+b.length<=lim then aI (a++b)else cS)=_;rw[MY h]
theorem Ju{γ:Ctx}{ws:List Str}{i:Nat}{l h:CO (Option Int)}{lo hi:Option Int}(G:γ[i]? = aI (.val<|wD ws))(H:l γ=aI lo)(I:h γ=aI hi):Qf (zh i) l h γ=aI (KL (ws.map D.str) lo hi):=by show(zh i γ).bind _=_;rw[JW,G];show(l γ).bind _=_;rw[H];show(h γ).bind _=_;rw[I];rfl
theorem WQ{n L:Nat}{ws l:List Str}(h:eW n L ws)(G : ∀x∈l,x∈ws\/(x.length<=L+1/\∀c∈h9 x,c<1114112))(H:l.length<=n+1):eW (n+1) (L+1) l:=
 ⟨H,λx a=>by
  rcases G x a with z | z
  ·have:=h.2 x z
   exact⟨by omega,this.2⟩
  ·exact z⟩
theorem YH{n L:Nat}{ws:List Str}{G:Int}(h0:0<=G)(W:eW n L ws)(hn:n<=100)(hL:L<=100)(cq:7<=L) : ∃Z,qo [wD ws,.int G]=aI (.own<|Z.map D.str)/\eW (n+1) (L+1) Z:=by
 have hl:=jj;have l1:1<=lim:=by omega
 have len:=W.1;let mx:Int:=if (ws.length:Int)>1 then (ws.length:Int)else 1;have X:0<mx:=by show 0<(if (ws.length:Int)>1 then (ws.length:Int)else 1);split<;>omega
 obtain⟨a,ea,ha⟩:=xp (m:=G/6) mx X;have bn:(a:Int)<(if (ws.length:Int)>1 then (ws.length:Int)else 1):=ha;have cr:a<ws.length\/(ws.length=0/\a=0):=by split at bn<;>omega
 let γ:Cell->Cell->Cell->Cell->Ctx:=λH I O b=>[.val (wD ws),.val<|.int G,H,I,O,b];let A:Cell:= .val (.int (a:Int));have t:Om (γ .no .no .no .no)=aI (.next<|γ A .no .no .no):=by
  have e:fS (ze<|.int 1) (qO<|zh 0) (γ .no .no .no .no)=aI (.int mx):=by simp[γ,wD,mx]
  unfold Om;rw[jV,yC,yC,e];simp[γ,X,ea,A]
 have lo:=λI O b=>Ju (ws:=ws) (γ:=γ A I O b) (i:=0) (l:=qT) (h:=ir<|zd 2) rfl rfl rfl;have hi:=λI O b=>Ju (ws:=ws) (γ:=γ A I O b) (i:=0) (l:=ir<|zo qC (zd 2)<|ze<|.int 1) (h:=qT) rfl (lo:=aI (((a+1:Nat)):Int)) (by simp[γ,A]) rfl;have lo1:=λI O b=>Ju (ws:=ws) (γ:=γ A I O b) (i:=0) (l:=qT) (h:=ir<|zo qC (zd 2)<|ze<|.int 1) rfl rfl (hi:=aI (((a+1:Nat)):Int)) (by simp[γ,A]);have F:=λI O b=>Ju (ws:=ws) (γ:=γ A I O b) (i:=0) (l:=ir<|zd 2) (h:=qT) rfl rfl rfl;have lo : ∀I O b,Qf (zh 0) qT (ir<|zd 2) (γ A I O b)=aI ((ws.take a).map D.str):=λI O b=>(lo I O b).trans (congrArg aI (eQ a));have hi : ∀I O b,Qf (zh 0) (ir<|zo qC (zd 2)<|ze<|.int 1) qT (γ A I O b)=aI ((ws.drop<|a+1).map D.str):=λI O b=>(hi I O b).trans (congrArg aI (eR<|a+1));have lo1 : ∀I O b,Qf (zh 0) qT (ir<|zo qC (zd 2)<|ze<|.int 1) (γ A I O b)=aI ((ws.take<|a+1).map D.str):=λI O b=>(lo1 I O b).trans (congrArg aI (eQ<|a+1));have F : ∀I O b,Qf (zh 0) (ir<|zd 2) qT (γ A I O b)=aI ((ws.drop a).map D.str):=λI O b=>(F I O b).trans (congrArg aI (eR a));have ak : ∀(x:Str) (I O b:Cell) (f:CO D),f (γ A I O b)=aI (.str x)->yU (zI<|yU (zI<|Qf (zh 0) qT<|ir<|zd 2)<|zI<|ql<|zb f zB) (zI<|Qf (zh 0) (ir<|zo qC (zd 2)<|ze<|.int 1) qT) (γ A I O b)=aI ((ws.take a++[x]++ws.drop (a+1)).map D.str):=λx I O b f hf=>by
  have li:ql (zb f zB) (γ A I O b)=aI [.str x]:=by rw[X3,qp,hf];simp[l1]
  have c1:=wU (lo I O b) li (by simp;omega);have H:=wU c1 (hi I O b) (by simp;omega);rw[H];simp
 have am : ∀x:Str,(x.length<=L+1/\∀c∈h9 x,c<1114112)->eW (n+1) (L+1) (ws.take a++[x]++ws.drop (a+1)):=λx r=>WQ W (λy R=>by
  rcases Fm.mp R with R | R
  ·rcases Fm.mp R with R | R
   ·exact .inl<|Iz R
   ·rw[Fh.mp R];exact .inr r
  ·exact .inl<|HA R) (by simp;omega)
 by_cases z0:G%6=0\/ws.length=0
 ·obtain⟨x,ox,oy,oz⟩:=ou (z:=G/60)
  refine⟨_,?_,am x ⟨by omega,oz⟩⟩;have M:(xJ (sB<|zo i3 (zo j8 (zd 1)<|ze<|.int 6)<|ze<|.int 0)<|sB<|zo i3 (qO<|zh 0)<|ze<|.int 0) (γ A .no .no .no)=aI cI:=by
   by_cases z:G%6=0
   ·simp[γ,z]
   ·have N:ws.length=0:=by omega
    have Q:ws=[]:=Fj N;simp[γ,z,wD,Q]
  rw[KN];refine jr<|zm t ?_;unfold Nu;rw[jc,jx,M];have:=ak x .no .no .no (zw ko<|zb (zo wQ (zd 1)<|ze<|.int 60) zB) (by simp[γ,ox]);show((ka _ _).bind _)=_;rw[yH,this];rfl
 ·have N : ¬G%6=0:=λz=>z0 (.inl z)
  have Q : ¬ws.length=0:=λz=>z0<|.inr z;have ap:a<ws.length:=by omega
  have K:Nu (γ A .no .no .no)=aI (.next<|γ A .no .no .no):=by
   have M:(xJ (sB<|zo i3 (zo j8 (zd 1)<|ze<|.int 6)<|ze<|.int 0)<|sB<|zo i3 (qO<|zh 0)<|ze<|.int 0) (γ A .no .no .no)=aI dV:=by
    have Y : ¬(ws.length:Int)=0:=by omega
    have C : ¬ws=[]:=λz=>Q (by rw[z];rfl);simp[γ,N,wD,Y,C]
   unfold Nu;rw[jx,M];rfl
  by_cases Y:G%6=1
  ·refine⟨ws.take a++ws.drop (a+1),?_,WQ W (λy R=>by
    rcases Fm.mp R with R | R
    ·exact .inl<|Iz R
    ·exact .inl<|HA R) (by simp;omega)⟩
   rw[KN];refine jr<|zm t<|zm K ?_;have c:=wU (lo .no .no .no) (hi .no .no .no) (by simp;omega);have d:sB (zo i3 (zo j8 (zd 1)<|ze<|.int 6)<|ze<|.int 1) (γ A .no .no .no)=aI cI:=by simp[γ,Y]
   unfold Nv;rw[jc,jx,d];show((ka _ _).bind _)=_;rw[yH,c,List.map_append];rfl
  ·have s3:Nv (γ A .no .no .no)=aI (.next<|γ A .no .no .no):=by
    have d:sB (zo i3 (zo j8 (zd 1)<|ze<|.int 6)<|ze<|.int 1) (γ A .no .no .no)=aI dV:=by simp[γ,Y]
    unfold Nv;rw[jx,d];rfl
   by_cases C:G%6=2
   ·refine⟨ws.take (a+1)++ws.drop a,?_,WQ W (λy R=>by
     rcases Fm.mp R with R | R
     ·exact .inl<|Iz R
     ·exact .inl<|HA R) (by simp;omega)⟩
    rw[KN];refine jr<|zm t<|zm K<|zm s3 ?_;have c:=wU (lo1 .no .no .no) (F .no .no .no) (by simp;omega);have d:sB (zo i3 (zo j8 (zd 1)<|ze<|.int 6)<|ze<|.int 2) (γ A .no .no .no)=aI cI:=by simp[γ,C]
    unfold Nw;rw[jc,jx,d];show((ka _ _).bind _)=_;rw[yH,c,List.map_append];rfl
   ·have s4:Nw (γ A .no .no .no)=aI (.next<|γ A .no .no .no):=by
     have d:sB (zo i3 (zo j8 (zd 1)<|ze<|.int 6)<|ze<|.int 2) (γ A .no .no .no)=aI dV:=by simp[γ,C]
     unfold Nw;rw[jx,d];rfl
    have gx:=qH ap;generalize c9:ws.getD a EU=x at gx;have r:=W.2 x gx.1;have w:zy x=cI:=decide_eq_true ⋯;have s5:Oo (γ A .no .no .no)=aI (.next<|γ A (.val<|.str x) .no .no):=by have:=Q4 (ws:=ws) (γ:=γ A .no .no .no) (i:=0) (j:=2) (s:=a) rfl rfl ap;unfold Oo;rw[jV,this,c9];rfl
    obtain⟨g,ep,hp⟩:=xp (m:=G/60) ((x.length:Int)+1) ⋯;have ce:g<=x.length:=by omega
    let P:Cell:= .val (.int (g:Int));have s6:Oq (γ A (.val<|.str x) .no .no)=aI (.next<|γ A (.val<|.str x) P .no):=by
     have x1:(0:Int)<(x.length:Int)+1:=by omega
     simp[Oq,γ,w,x1,ep,P]
    obtain⟨c,hc,es⟩:=mD G (γ:=γ A (.val<|.str x) P .no) (f:=zd 1) rfl;let S:Cell:= .val (.str<|ja c);have s7:Ot (γ A (.val<|.str x) P .no)=aI (.next<|γ A (.val<|.str x) P S):=by unfold Ot;rw[jV,es];rfl
    let x1:=FV x cS<|some (g:Int);let U:=FV x (aI (g:Int)) cS;let x3:=FV x (aI (((g+1:Nat)):Int)) cS;have g1:h9 x1=(h9 x).take g:=tW ce;have g2:h9 U=(h9 x).drop g:=mC ⋯;have g3:h9 x3=(h9 x).drop (g+1):=mC ⋯;have xl:=zY x;have k1:x1.length<=g:=by rw[zY,g1];simp;omega
    have k2:U.length=x.length - g:=by rw[zY,g2];simp;omega
    have k3:x3.length=x.length - (g+1):=by rw[zY,g3];simp;omega
    have J:zy x1=cI:=decide_eq_true ⋯;have h2:zy U=cI:=decide_eq_true ⋯;have h3:zy x3=cI:=decide_eq_true ⋯;have hs:zy (ja c)=cI:=decide_eq_true (show 1<=1000 by decide);have f1:=xS (γ:=γ A (.val<|.str x) P S) (f:=zd 3) (l:=qT) (h:=ir<|zd 4) (lo:=cS) (hi:=aI (g:Int)) rfl w rfl rfl;have f2:=xS (γ:=γ A (.val<|.str x) P S) (f:=zd 3) (l:=ir<|zd 4) (h:=qT) (lo:=aI (g:Int)) (hi:=cS) rfl w rfl rfl;have f3:=xS (γ:=γ A (.val<|.str x) P S) (f:=zd 3) (l:=ir<|zo qC (zd 4)<|ze<|.int 1) (h:=qT) (lo:=aI (((g+1:Nat)):Int)) (hi:=cS) rfl w (by simp[γ,P]) rfl;have o : ∀u v:Str,(u++v).length=u.length+v.length:=λu v=>by rw[zY,qV,Fc,<- zY,<- zY]
    have cw:(ja c).length=1:=rfl;have h4:zy (x1++ja c)=cI:=decide_eq_true (by rw[o];omega);have sub : ∀e,e∈h9 x1\/e∈h9 U\/e∈h9 x3\/e∈h9 (ja c)->e<1114112:=λe B=>by
     rcases B with B | B | B | B
     ·rw[g1]at B;exact r.2 e<|Iz B
     ·rw[g2]at B;exact r.2 e<|HA B
     ·rw[g3]at B;exact r.2 e<|HA B
     ·have B:e ∈ [c]:=B
      rw[Fh.mp B];exact hc
    obtain⟨y,R,s8⟩ : ∃y:Str,(y.length<=L+1/\∀e∈h9 y,e<1114112)/\zF MH (zF KX<|zF lK pJ) (γ A (.val<|.str x) P S)=pJ (γ A (.val<|.str y) P S):=by
     by_cases E:G%6=3
     ·refine⟨x1++ja c++U,⟨by rw[o,o];omega,λe B=>sub e (by
       rw[qV,qV]at B;rcases Fm.mp B with B | B
       ·rcases Fm.mp B with B | B
        ·exact .inl B
        ·exact .inr<|.inr<|.inr B
       ·exact .inr<|.inl B)⟩,?_⟩
      have p:=qY (qY f1 (show zd 5 (γ A (.val<|.str x) P S)=aI (.str<|ja c)from rfl) J hs) f2 h4 h2;refine zm (γ':=γ A (.val<|.str<|x1++ja c++U) P S) ?_ (zm (γ':=γ A (.val<|.str<|x1++ja c++U) P S) ?_ (zm (γ':=γ A (.val<|.str<|x1++ja c++U) P S) ?_ rfl))
      ·have d:sB (zo i3 (zo j8 (zd 1)<|ze<|.int 6)<|ze<|.int 3) (γ A (.val<|.str x) P S)=aI cI:=by simp[γ,E]
       unfold MH;rw[jx,d];show jF _ _ _=_;rw[jV,p];rfl
      ·simp[KX,γ,E]
      ·simp[lK,γ,E]
     ·have e8:MH (γ A (.val<|.str x) P S)=aI (.next<|γ A (.val<|.str x) P S):=by
       have d:sB (zo i3 (zo j8 (zd 1)<|ze<|.int 6)<|ze<|.int 3) (γ A (.val<|.str x) P S)=aI dV:=by simp[γ,E]
       unfold MH;rw[jx,d];rfl
      by_cases T:G%6=4
      ·refine⟨x1++x3,⟨by rw[o];omega,λe B=>sub e (by
        rw[qV]at B;rcases Fm.mp B with B | B
        ·exact .inl B
        ·exact .inr<|.inr<|.inl B)⟩,?_⟩
       have p:=qY f1 f3 J h3;refine zm e8<|zm (γ':=γ A (.val<|.str<|x1++x3) P S) ?_ (zm (γ':=γ A (.val<|.str<|x1++x3) P S) ?_ rfl)
       ·have d:sB (zo i3 (zo j8 (zd 1)<|ze<|.int 6)<|ze<|.int 4) (γ A (.val<|.str x) P S)=aI cI:=by simp[γ,T]
        unfold KX;rw[jx,d];show jF _ _ _=_;rw[jV,p];rfl
       ·simp[lK,γ,T]
      ·have z7:G%6=5:=by omega
       have e9:KX (γ A (.val<|.str x) P S)=aI (.next<|γ A (.val<|.str x) P S):=by
        have d:sB (zo i3 (zo j8 (zd 1)<|ze<|.int 6)<|ze<|.int 4) (γ A (.val<|.str x) P S)=aI dV:=by simp[γ,T]
        unfold KX;rw[jx,d];rfl
       refine⟨x1++ja c++x3,⟨by rw[o,o];omega,λe B=>sub e (by
        rw[qV,qV]at B;rcases Fm.mp B with B | B
        ·rcases Fm.mp B with B | B
         ·exact .inl B
         ·exact .inr<|.inr<|.inr B
        ·exact .inr<|.inr<|.inl B)⟩,?_⟩
       have p:=qY (qY f1 (show zd 5 (γ A (.val<|.str x) P S)=aI (.str<|ja c)from rfl) J hs) f3 h4 h3;refine zm e8<|zm e9<|zm (γ':=γ A (.val<|.str<|x1++ja c++x3) P S) ?_ rfl;have d:sB (zo i3 (zo j8 (zd 1)<|ze<|.int 6)<|ze<|.int 5) (γ A (.val<|.str x) P S)=aI cI:=by simp[γ,z7]
       unfold lK;rw[jx,d];show jF _ _ _=_;rw[jV,p];rfl
    refine⟨_,?_,am y R⟩;rw[KN];refine jr<|zm t<|zm K<|zm s3<|zm s4<|zm s5<|zm s6<|zm s7 ?_;rw[s8];have:=ak y (.val<|.str y) P S (zd 3) rfl;unfold pJ;rw[yH,this];rfl
theorem lW:ZG=jG 6 (zF OW<|zF OX<|zF OY<|zF RK<|zF OZ PZ):=rfl
section
variable{p:Int}{m:Nat}{w:MX}{wd:MZ}{T:MV}
theorem cP{n:Int}(G:0<=n)(h:n<=30):(xR n).length<=14/\∀c∈h9 (xR n),c<1114112:=by
 have : ∀k:Fin 31,(xR ((k:Nat):Int)).length<=14/\∀c∈h9 (xR ((k:Nat):Int)),c<1114112:=by decide +kernel
 have e:=this ⟨n.toNat,by omega⟩;rw[show(((⟨n.toNat,by omega⟩:Fin 31):Nat):Int)=n by show((n.toNat:Nat):Int)=n;omega]at e;exact e
theorem pO(B : ∀k i j,0<=T k i j/\T k i j<10)(h : ∀k,wd k<=3)(k:Nat):(YR w wd T k).length<=14/\∀c∈h9 (YR w wd T k),c<1114112:=by
 have d:ni w wd k<=3:=by rw[eE];exact h _
 have e:m8 w wd k<=3:=by rw[cO];exact h _
 have g:(Yg w wd T k).length<=12:=by
  unfold Yg;rw[zY,Y4];have:=wN (c:=47) (n:=3) (l:=(Ez<|ni w wd k).map λi=>h9<|ag (m8 w wd k)<|T k i) λa f=>by obtain⟨i,_,rfl⟩:=FA.mp f;rw[KB (B k i)];simpa using e
  rw[EE,Ic]at this;have:=Lv 4 d;omega
 refine⟨?_,λc b=>?_⟩
 ·rw[zY,WU]
  rw[zY]at g;simp;omega
 ·rw[WU]at b
  rcases ED.mp b with z | z
  ·split at z<;>omega
  ·rcases Fm.mp z with z | z
   ·have:=J7 (B k) z;omega
   ·have:=Fh.mp z
    split at this<;>omega
theorem YW(G:p=2\/p=3\/p=5\/p=7)(z : ∀k i j,0<=T k i j/\T k i j<10)(h : ∀k,wd k<=3) : ∀s,∀x∈q9 p w wd T s,x.length<=14/\∀c∈h9 x,c<1114112
 | 0,x,hx=>by
  rcases ED.mp hx with rfl | hx
  ·rcases G with rfl | rfl | rfl | rfl<;>decide +kernel
  ·rw[Fh.mp hx]
   exact cP ⋯ (by have:=h 0;omega)
 | s+1,x,hx=>by
  rcases Fm.mp hx with hx | hx
  ·exact YW G z h s x hx
  ·rcases ED.mp hx with rfl | hx
   ·exact pO z h s
   ·rw[Fh.mp hx]
    exact cP ⋯ (by have:=h<|s+1;omega)
end
theorem V8{n L:Nat}{ws:List Str}(h:eW n L ws):(GS (ja 32) ws).length<=n*(L+1)/\∀c∈h9 (GS (ja 32) ws),c<1114112:=by
 rw[zY,kh];refine⟨?_,λc d=>?_⟩
 ·have:=wN (c:=32) (n:=L) (l:=ws.map h9) λa b=>by
   obtain⟨x,e,rfl⟩:=FA.mp b;rw[<- zY];exact(h.2 x e).1
  rw[EE]at this;exact EX this<|Lv _ h.1
 ·rcases JN d with z | ⟨a,b,d⟩
  ·omega
  ·obtain⟨x,e,rfl⟩:=FA.mp b
   exact(h.2 x e).2 c d
theorem uL(G:List Int)(O:G.length<=63):ZG [Jh G]=aI (.val<|.bl cI):=by
 have hl:=jj;obtain⟨Y,a0,_⟩:=Qu O (k:=0) ⋯ ⋯;obtain⟨M,u,_⟩:=Qu O (k:=1) ⋯ ⋯;obtain⟨p,S,ix,d⟩:=Xq a0;have p0:0<p:=by omega
 obtain⟨m,w,hm,ew⟩:=JY u;obtain⟨wd,T,Z,A,r⟩:=QW O p0 (a0:=2) (m:=m) (most:=4) ⋯ ⋯ w ⋯;have o : ∀k,wd k<=3:=λk=>by have:=A k;omega
 have g : ∀k,wd k<=20:=λk=>by have:=o k;omega
 have R : ∀k i j,0<=T k i j/\T k i j<10:=λk i j=>⟨(r k i j).1,by have:=(r k i j).2;omega⟩;have lt:=XD (w:=w) d hm R g;let I:=mQ p m w wd T;let W:=q9 p w wd T m;have bW:eW 12 14 W:=⟨by have:=yL (p:=p) (w:=w) (wd:=wd) (T:=T) m;show(q9 p w wd T m).length<=12;omega,YW d R o m⟩;obtain⟨s,j2⟩:=V8 bW;have s:I.length<=12*15:=s;have sp:Fk I (ja 32)=W:=Yi (λz=>by have:=yL (p:=p) (w:=w) (wd:=wd) (T:=T) m;rw[z]at this;simp at this)<|J3 d R g m;have as:=WS (t:=I) ⋯ j2;let γ:Cell->Cell->Cell->Cell->Ctx:=λH J B K=>[.val (Jh G),.val<|.int p,H,J,B,K];let X:Cell:= .val (.str I);have s1:OW [.val (Jh G),.no,.no,.no,.no,.no]=aI (.next<|γ .no .no .no .no):=by simp[OW,γ,Y,ix,S]
 have s2:OX (γ .no .no .no .no)=aI (.next<|γ X .no .no .no):=by have C:kn [Jh G,.int 2,.int p,.str<|J5 m w,.int 4]=aI (.val<|Qj p m w wd T):=Z;simp[OX,γ,M,ew,C,lt,X,I]
 have s3:OY (γ X .no .no .no)=aI (.next<|γ X (.val<|wD W) .no .no):=by
  have:x9 (zd 2) (ze (.str " ")) (γ X .no .no .no)=aI (W.map D.str):=by show(if I.length<=20000/\((" " : Str).length==0)=dV then aI ((Fk I " ").map D.str)else cS)=_;rw[MY ⟨by omega,by decide +kernel⟩,k4,sp]
  unfold OY;rw[jV,vq,this];rfl
 obtain⟨n,Q,hn⟩:=xp (m:=Xv G 0/4) 4 ⋯;have hn:n<=3:=by omega
 obtain⟨γ',lp,a,B,rfl,U⟩:=Z9 (T:= .nm 4) (F:=jF 3<|zw qo<|zb (zd 3)<|zb (zw zR<|zb (zd 0)<|zb (zo qC (ze<|.int 120)<|zd 4) zB) zB) (f:=zo j8 (zo wQ (zw zR<|zb (zd 0)<|zb (ze<|.int 0) zB)<|ze<|.int 4)<|ze<|.int 4)
  (λk b=>∃a B,b=γ X (.val<|wD a) B .no/\eW (12+k) (14+k) a) n ⋯ (γ:=γ X (.val<|wD W) .no .no)
  (by simp[γ,Y,Q]) ⟨W,_,rfl,bW⟩ λk hk b e=>by obtain⟨a,B,rfl,hb⟩:=e;obtain⟨P,y,_⟩:=Qu O (k:=120+(k:Int)) ⋯ ⋯;obtain⟨h,N,E⟩:=YH y hb ⋯ ⋯ ⋯;refine⟨_,γ X (.val<|wD h) (.val<|.int k) .no,rfl,?_,h,_,rfl,E⟩;show jF _ _ (γ X (.val<|wD a) (.val<|.int k) .no)=_;simp[γ,P,wD];exact⟨_,N,rfl⟩
 let bad:=GS (ja 32) a;obtain⟨b1,b2⟩:=V8 U;have b1:bad.length<=278:=by have q:(12+n)*(14+n+1)<=15*18:=Nat.mul_le_mul ⋯ ⋯;exact EX b1 ⋯
 have L:=WS (t:=bad) b1 b2;have s5:OZ (γ X (.val<|wD a) B .no)=aI (.next<|γ X (.val<|wD a) B<|.val<|.str bad):=by
  have j:=wL (γ:=γ X (.val (wD a)) B .no) (f:=ze (.str " ")) (q:=zh 3) (sep:=" ") (l:=a) rfl rfl (by have:=U.1;omega) (λx hx=>decide_eq_true (by have:=(U.2 x hx).1;omega)) ⋯;rw[k4]at j;have j:wo (ze (.str " ")) (zh 3) (γ X (.val (wD a)) B .no)=aI (.str bad):=by rw[k4];exact j
  unfold OZ;rw[jV,j];rfl
 rw[lW];refine jr<|zm s1<|zm s2<|zm s3<|zm lp<|zm s5 ?_;simp[PZ,γ,X,as,L]
noncomputable def top(i:Nat):PySem.Stmt:=PySem.Challenge.pw_barsplit_k14_no_text.main.body.getD i<|.Pass ⟨0,0,0,0⟩
section
variable{CR CL:PySem.Addr}{P:PySem.Program}{w:PySem.World}{K:Es}{mg:PySem.Str->Option PySem.Value}{base:PySem.Heap}
theorem YQ(h:us.length=n+1) : ∃a t,us=a::t/\t.length=n:=by
 cases us with
 | nil=>exact absurd h<|Nat.zero_ne_add_one n
 | cons a t=>exact⟨a,t,rfl,Nat.succ.inj h⟩
theorem Eo(h:us.length=1) : ∃a,us=[a]:=by obtain⟨a,z,rfl,b⟩:=YQ h;rw[Fj b];exact⟨a,rfl⟩
theorem En(h:us.length=2) : ∃a b,us=[a,b]:=by obtain⟨a,z,rfl,d⟩:=YQ h;obtain⟨b,B,rfl,e⟩:=YQ d;rw[Fj e];exact⟨a,b,rfl⟩
theorem Em(h:us.length=4) : ∃a b c d,us=[a,b,c,d]:=by obtain⟨a,B,rfl,e⟩:=YQ h;obtain⟨b,I,rfl,f⟩:=YQ e;obtain⟨c,O,rfl,g⟩:=YQ f;obtain⟨d,R,rfl,z⟩:=YQ g;rw[Fj z];exact⟨a,b,c,d,rfl⟩
theorem El{H:Type}{G:List H}(h:G.length=5) : ∃a b c d e,G=[a,b,c,d,e]:=by obtain⟨a,I,rfl,f⟩:=YQ h;obtain⟨b,O,rfl,g⟩:=YQ f;obtain⟨c,R,rfl,i⟩:=YQ g;obtain⟨d,U,rfl,z⟩:=YQ i;obtain⟨e,W,rfl,B⟩:=YQ z;rw[Fj B];exact⟨a,b,c,d,e,rfl⟩
theorem hU(D:iv K mg "is_whole" (top 18) ["x"])(B:mg "bool" = cS)(I:mg "int" = cS)(z:mg "isinstance" = cS):hI P w K mg base 1 "is_whole" 1 ji:=
 kP (N:=["x"]) D ⋯ λX O d R b U a e=>by subst O d R b U;exact zk (zC (kJ (Qp a ⋯ z ⋯ I (zq a)) (kG (dj (Z3 a ⋯ z ⋯ B (zq a))))))
theorem hV(D:iv K mg "is_prime" (top 19) ["p"])(z:hI P w K mg base 1 "is_whole" 1 ji)(B:GL K mg "PRIMES" (.tup [.int 2,.int 3,.int 5,.int 7])):hI P w K mg base 2 "is_prime" 1 qE:=
 kP (N:=["p"]) D ⋯ λX I d O b R a e=>by subst I d O b R;exact zk (zC (kJ (zT z a (za (zq a) zl)) (kG (nq (zq a) (PV.q (ZO a ⋯ B))))))
theorem rE(D:iv K mg "rests" (top 20) ["p","numbers"])(z:mg "tuple" = cS):hI P w K mg base 1 "rests" 2 yK:=
 kP (N:=["p","numbers"]) D ⋯ λX B e I d O a f=>by subst B e I d O;exact zk (zC (qw a ⋯ z (PO.q (qy a (jA (zV a)) (λ_ _ _ b=>ju (zq b) (zq b))))))
theorem lE(D:iv K mg "is_side" (top 21) ["many"])(z:hI P w K mg base 1 "is_whole" 1 ji)(B:GL K mg "MOST_HIGH_OR_WIDE" (.int 30)):hI P w K mg base 2 "is_side" 1 jW:=
 kP (N:=["many"]) D ⋯ λX I d O b R a e=>by subst I d O b R;exact zk (zC (kJ (zT z a (za (zq a) zl)) (kG (aT VQ VQ Qb Qb zf (zq a) (ZO a ⋯ B)))))
theorem dS(D:iv K mg "is_listed" (top 22) ["things","many"])(z:mg "isinstance" = cS)(B:mg "len" = cS)(I:mg "list" = cS)(O:mg "tuple" = cS):hI P w K mg base 1 "is_listed" 2 zX:=
 kP (N:=["things","many"]) D ⋯ λX R d U b W a e=>by subst R d U b W;exact zk (zC (kJ (Vp a ⋯ z ⋯ I ⋯ O (zq a)) (kG (Vr a (jH a ⋯ B (zV a)) (zq a)))))
theorem lF(D:iv K mg "is_line" (top 23) ["wide","row"])(z:hI P w K mg base 1 "is_listed" 2 zX)(B:hI P w K mg base 1 "is_whole" 1 ji)(I:mg "all" = cS):hI P w K mg base 2 "is_line" 2 qj:=
 kP (N:=["wide","row"]) D ⋯ λX O e R d U a f=>by subst O e R d U;exact zk (zC (kJ (zT z a (za (zq a) (za (zq a) zl))) (kG (kK a ⋯ I (PO.q (qy a (jA (zV a)) (λ_ _ _ b=>zT B b (za (zq b) zl))))))))
theorem gU(D:iv K mg "table_of" (top 24) ["p","high","wide","rows"])(B:hI P w K mg base 2 "is_prime" 1 qE)(z:hI P w K mg base 2 "is_side" 1 jW)(I:hI P w K mg base 1 "is_listed" 2 zX)(O:hI P w K mg base 1 "rests" 2 yK)(R:hI P w K mg base 2 "is_line" 2 qj)(U:mg "all" = cS)(W:mg "tuple" = cS):hI P w K mg base 3 "table_of" 4 xv:=
 kP (N:=["p","high","wide","rows"]) D ⋯ λX Y g d f e a h=>by subst Y g d f e;exact by refine zg (zS (zN (zH (zT B a (za (zq a) zl)))) (zk jC) zz) ?_;refine zg (zS (xG (jK (zN (zH (zT z a (za (zq a) zl)))) (jJ (zN (zH (zT z a (za (zq a) zl))))))) (zk jC) zz) ?_;refine zg (zS (xG (jK (zN (zH (zT I a (za (zq a) (za (zq a) zl))))) (jJ (zN (zH (kK a ⋯ U (PO.q (qy a (jA (zV a)) (λ_ _ _ b=>zT R b (za (zq b) (za (zq b) zl))))))))))) (zk jC) zz) ?_;exact(zk (zC (qt (xY (za (zq a) (za (zq a) (za (qw a ⋯ W (PO.q (qy a (jA (zV a)) (λ_ _ _ b=>zT O b (za (zq b) (za (zq b) zl)))))) zl)))))))
theorem dE(D:iv K mg "table_of" (top 24) ["p","high","wide","rows"])(I:hI P w K mg base 2 "is_prime" 1 qE)(B:hI P w K mg base 2 "is_side" 1 jW)(R:hI P w K mg base 1 "is_listed" 2 zX)(G:hI P w K mg base 1 "rests" 2 yK)(U:hI P w K mg base 2 "is_line" 2 qj)(W:mg "all" = cS)(H:mg "tuple" = cS)(Y:XC K mg "NoPrime")(O:XC K mg "NoTable"):o6 P w K mg base 3 "table_of" 4 yl:=
 iE (N:=["p","high","wide","rows"]) D ⋯ λX e h d g f b=>by subst e h d g f;have z:=b.m4 (λ_ _=>False);have i:(X.m4 λ_ _=>False).xe=(λ_ _=>False):=rfl;exact yV (Qn (zN (zH (zT I z (za (zq z) zl)))) (qQ (wG z ⋯ Y zr)) vZ) (zS (zN (zH (zT I z (za (zq z) zl)))) (zk jC) zz) (yV (Qn (xG (jK (zN (zH (zT B z (za (zq z) zl)))) (jJ (zN (zH (zT B z (za (zq z) zl))))))) (qQ (wG z ⋯ O zr)) vZ) (zS (xG (jK (zN (zH (zT B z (za (zq z) zl)))) (jJ (zN (zH (zT B z (za (zq z) zl))))))) (zk jC) zz) (qQ (Qn (xG (jK (zN (zH (zT R z (za (zq z) (za (zq z) zl))))) (jJ (zN (zH (kK z ⋯ W (PO.q (qy z (jA (zV z)) (λ_ _ _ a=>zT U a (za (zq a) (za (zq a) zl))))))))))) (qQ (wG z ⋯ O zr)) vZ)))
theorem VU(D:iv K mg "beginning_of" (top 29) ["k","way"]):hI P w K mg base 1 "beginning_of" 2 jm:=
 kP (N:=["k","way"]) D ⋯ λX z d B b I a e=>by subst z d B b I;exact zk (zC (wH (jZ a (zq a) zr) (zq a) (jL (zq a) zf)))
theorem ot(D:iv K mg "end_of" (top 30) ["k","way"]):hI P w K mg base 1 "end_of" 2 jE:=
 kP (N:=["k","way"]) D ⋯ λX z d B b I a e=>by subst z d B b I;exact zk (zC (wH (jZ a (zq a) zr) (jL (zq a) zf) (zq a)))
theorem bD(D:iv K mg "are_widths" (top 31) ["widths"])(z:hI P w K mg base 1 "is_whole" 1 ji)(B:mg "all" = cS)(I:mg "isinstance" = cS)(O:mg "len" = cS)(R:mg "list" = cS)(U:mg "sum" = cS)(W:mg "tuple" = cS)(Y:GL K mg "MOST_ROOMS" (.int 6))(G:GL K mg "MOST_TOGETHER" (.int 30)):hI P w K mg base 2 "are_widths" 1 qk:=
 kP (N:=["widths"]) D ⋯ λX e h d g f a i=>by subst e h d g f;exact by refine zg (zS (xG (jK (zN (zH (Vp a ⋯ I ⋯ R ⋯ W (zq a)))) (jJ (zN (Vw VQ VQ Qb Qb zf (jH a ⋯ O (zV a)) (ZO a ⋯ Y)))))) (zk (zC vH)) zz) ?_;refine zg (zS (zN (zH (kK a ⋯ B (PO.q (qy a (jA (zV a)) (λ_ _ _ b=>kJ (zT z b (za (zq b) zl)) (kG (nr (zq b) zf)))))))) (zk (zC vH)) zz) ?_;exact(zk (zC (uw (dg a ⋯ U (zV a)) (ZO a ⋯ G))))
theorem dH(D:iv K mg "widths_of" (top 32) ["widths"])(z:hI P w K mg base 2 "are_widths" 1 qk)(B:mg "tuple" = cS):hI P w K mg base 3 "widths_of" 1 qA:=
 kP (N:=["widths"]) D ⋯ λX I d O b R a e=>by subst I d O b R;exact by refine zg (zS (zN (zH (zT z a (za (zq a) zl)))) (zk jC) zz) ?_;exact(zk (zC (qw a ⋯ B (zV a))))
theorem bt(D:iv K mg "widths_of" (top 32) ["widths"])(B:hI P w K mg base 2 "are_widths" 1 qk)(W:mg "tuple" = cS)(I:XC K mg "NoWidths"):o6 P w K mg base 3 "widths_of" 1 qd:=
 iE (N:=["widths"]) D ⋯ λX O d R b U a=>by subst O d R b U;have z:=a.m4 (λ_ _=>False);have e:(X.m4 λ_ _=>False).xe=(λ_ _=>False):=rfl;exact qQ (Qn (zN (zH (zT B z (za (zq z) zl)))) (qQ (wG z ⋯ I zr)) vZ)
theorem ib(D:iv K mg "arrow_of" (top 33) ["p","widths","k","pair"])(B:hI P w K mg base 3 "table_of" 4 xv)(I:hI P w K mg base 1 "is_listed" 2 zX)(O:hI P w K mg base 1 "end_of" 2 jE)(R:hI P w K mg base 1 "beginning_of" 2 jm)(U:GL K mg "WAYS" (.tup [.str "r",.str "l"])):hI P w K mg base 4 "arrow_of" 4 xw:=
 kP (N:=["p","widths","k","pair","way","table"]) D ⋯ λX W e Y d b a f=>by subst W e Y d b;exact by refine zg (zS (xG (jK (zN (zH (zT I a (za (zq a) (za zf zl))))) (jJ (yf (zP (zV a) zf) (PV.q (ZO a ⋯ U)))))) (zk jC) zz) ?_;refine zg (jz a (zP (zV a) zf)) ?_;refine zg (aV (have z:=a.m4 (λ_ _=>False);vJ 5 (z.set 5 ⋯ (zT B z (za (zq z) (za (zP (zV z) (zT O z (za (zq z) (za (zq z) zl)))) (za (zP (zV z) (zT R z (za (zq z) (za (zq z) zl)))) (za (zP (zV z) zf) zl)))))))) ?_;exact(zk (zC (qt (xY (za (zq a) (za (zq a) zl))))))
theorem dG(D:iv K mg "arrow_of" (top 33) ["p","widths","k","pair"])(H:hI P w K mg base 3 "table_of" 4 xv)(B:hI P w K mg base 1 "is_listed" 2 zX)(O:hI P w K mg base 1 "end_of" 2 jE)(R:hI P w K mg base 1 "beginning_of" 2 jm)(I:GL K mg "WAYS" (.tup [.str "r",.str "l"]))(U:XJ P w K mg base 1 "NoArrow")(W:o6 P w K mg base 3 "table_of" 4 yl)(Y:XH K mg "NoTable")(G:G8 P w K mg base 1 "NoArrow"):o6 P w K mg base 4 "arrow_of" 4 ym:=
 iD (N:=["p","widths","k","pair","way","table"]) D ⋯ λX e i d h g a b=>by subst e i d h g;have z:=a.m4 (λ_ _=>False);have j:(X.m4 λ_ _=>False).xe=(λ_ _=>False):=rfl;exact xE (Zf (Qn (xG (jK (zN (zH (zT B z (za (zq z) (za zf zl))))) (jJ (yf (zP (zV z) zf) (PV.q (ZO z ⋯ I)))))) (qQ (yW z ⋯ U ⋯ (zq z))) vZ)) (zS (xG (jK (zN (zH (zT B z (za (zq z) (za zf zl))))) (jJ (yf (zP (zV z) zf) (PV.q (ZO z ⋯ I)))))) (zk jC) zz) (xE (Zf Vl) (jz z (zP (zV z) zf)) (wF (aP a b ⋯ W ⋯ (za (zq z) (za (zP (zV z) (zT O z (za (zq z) (za (zq z) zl)))) (za (zP (zV z) (zT R z (za (zq z) (za (zq z) zl)))) (za (zP (zV z) zf) zl)))) Y ⋯ ⋯ G ⋯ (λ_ f=>df 2 (f.var ⋯)))))
theorem YN(D:iv K mg "is_prime_word" (top 36) ["word"])(z:GL K mg "PRIMES" (.tup [.int 2,.int 3,.int 5,.int 7])):hI P w K mg base 1 "is_prime_word" 1 qi:=
 kP (N:=["word"]) D ⋯ λX B e I d O a f=>by subst B e I d O;exact zk (zC (Km (zq a) (PO.q (qy a (jA (PV.q (ZO a ⋯ z))) (λ_ _ _ b=>gu (VF (nv rfl (zq b)) (VF zr nE)))))))
theorem YM(D:iv K mg "is_width_word" (top 37) ["word"])(z:mg "range" = cS)(B:mg "str" = cS)(I:GL K mg "MOST_TOGETHER" (.int 30)):hI P w K mg base 1 "is_width_word" 1 qh:=
 kP (N:=["word"]) D ⋯ λX O e R d U a f=>by subst O e R d U;exact zk (zC (Km (zq a) (PO.q (qy a (o8.c (j6 a ⋯ z (jL (ZO a ⋯ I) zf))) (λ_ _ _ b=>vG b ⋯ B (zq b))))))
theorem YO(D:iv K mg "is_arrow_word" (top 38) ["word"])(z:mg "all" = cS)(B:GL K mg "TABLE_SIGNS" (.str "0123456789/")):hI P w K mg base 1 "is_arrow_word" 1 jN:=
 kP (N:=["word"]) D ⋯ λX I e O d R a f=>by subst I e O d R;exact by refine zg (zS (yf (xF (q8 (zq a) jq (zO zf)) (q8 (zq a) (zO (yw zf)) jq)) (PV.q (qt (xY (za zr (za zr zl)))))) (zk (zC vH)) zz) ?_;exact(zk (zC (kK a ⋯ z (PO.q (qy a (o8.c (JB (q8 (zq a) (zO zf) (zO (yw zf))))) (λ_ _ _ b=>Vq (zq b) (ZO b ⋯ B)))))))
theorem ia(D:iv K mg "has_form" (top 39) ["place","word"])(z:hI P w K mg base 1 "is_arrow_word" 1 jN)(B:hI P w K mg base 1 "is_prime_word" 1 qi)(I:hI P w K mg base 1 "is_width_word" 1 qh):hI P w K mg base 2 "has_form" 2 jB:=
 kP (N:=["place","word"]) D ⋯ λX O d R b U a e=>by subst O d R b U;exact by refine zg (zS (jZ a (zq a) zf) (zk (zC (zT B a (za (zq a) zl)))) zz) ?_;refine zg (zS (jZ a (ju (zq a) zf) zf) (zk (zC (zT I a (za (zq a) zl)))) zz) ?_;exact(zk (zC (zT z a (za (zq a) zl))))
theorem af(D:iv K mg "check_forms" (top 40) ["words"])(z:hI P w K mg base 2 "has_form" 2 jB)(B:mg "enumerate" = cS)(I:mg "len" = cS):hI P w K mg base 3 "check_forms" 1 jU:=
 kP (N:=["words","place","word"]) D ⋯ λX O d R b U a e=>by subst O d R b U;exact by refine zg (yx e a (Zm a ⋯ B (zq a)) (zk (zS (zN (zH (zT z a (za (zq a) (za (zq a) zl))))) (zk jC) zz))) ?_;exact(zk (zS (jZ a (ju (jH a ⋯ I (zV a)) zf) zf) (zk jC) zz))
theorem VS(D:iv K mg "check_forms" (top 40) ["words"])(B:hI P w K mg base 2 "has_form" 2 jB)(I:mg "enumerate" = cS)(O:mg "len" = cS)(R:XJ P w K mg base 1 "NoText"):o6 P w K mg base 3 "check_forms" 1 jD:=
 iD (N:=["words","place","word"]) D ⋯ λX U d W b Y a f=>by subst U d W b Y;have z:=a.m4 (λ_ _=>False);have e:(X.m4 λ_ _=>False).xe=(λ_ _=>False):=rfl;exact xE (gd (T:= .tp [1,2]) a.calm (Zm a ⋯ I (zq a)) (a.OU (xi (a.A8 1 ⋯) (xi (a.A8 2 ⋯) JC))) (gc (qQ (Qn (zN (zH (zT B z (za (zq z) (za (zq z) zl))))) (qQ (yW z ⋯ R ⋯ (zq z))) vZ))) (zk (zS (zN (zH (zT B z (za (zq z) (za (zq z) zl))))) (zk jC) zz))) (yx e z (Zm z ⋯ I (zq z)) (zk (zS (zN (zH (zT B z (za (zq z) (za (zq z) zl))))) (zk jC) zz))) (wF (Zf (Qn (jZ z (ju (jH z ⋯ O (zV z)) zf) zf) (qQ (yW z ⋯ R ⋯ (jH z ⋯ O (zV z)))) vZ)))
theorem bA(D:iv K mg "figures_of" (top 41) ["line"])(z:mg "int" = cS):hI P w K mg base 1 "figures_of" 1 qF:=
 kP (N:=["line"]) D ⋯ λX B e I d O a f=>by subst B e I d O;exact zk (j0 (qy a (o8.c (JB (zq a))) (λ_ _ _ b=>kA b ⋯ z (zq b))))
theorem dJ(D:iv K mg "rows_read" (top 42) ["signs","high"])(z:hI P w K mg base 1 "figures_of" 1 qF):hI P w K mg base 2 "rows_read" 2 qe:=
 kP (N:=["signs","high"]) D ⋯ λX B e I d O a f=>by subst B e I d O;exact by refine zg (zS (xG (Xm (jZ a (zq a) zr) (Jy (jZ a (zq a) zf)))) (zk (j0 (j5 (xY zl)))) zz) ?_;exact(zk (j0 (qy a (jA (PO.q (yh (zq a) zr))) (λ_ _ _ b=>PO.v (VC z b (za (zq b) zl))))))
theorem dU(D:iv K mg "are_rests" (top 43) ["p","numbers"])(z:mg "all" = cS):hI P w K mg base 1 "are_rests" 2 jy:=
 kP (N:=["p","numbers"]) D ⋯ λX B e I d O a f=>by subst B e I d O;exact zk (zC (kK a ⋯ z (PO.q (qy a (jA (zV a)) (λ_ _ _ b=>uv (zq b) (zq b))))))
theorem bB(D:iv K mg "arrow_read" (top 44) ["p","widths","k","word"])(z:hI P w K mg base 2 "rows_read" 2 qe)(B:hI P w K mg base 4 "arrow_of" 4 xw)(I:hI P w K mg base 1 "end_of" 2 jE)(O:hI P w K mg base 1 "are_rests" 2 jy)(R:mg "all" = cS):hI P w K mg base 5 "arrow_read" 4 zZ:=
 kP (N:=["p","widths","k","word","way","rows"]) D ⋯ λX U e W d Y a f=>by subst U e W d Y;exact by refine zg (jz a (wH (zH (Qo (zq a) zr)) zr zr)) ?_;refine zg (jz a (PO.v (VC z a (za (q8 (zq a) (zO zf) (zO (yw zf))) (za (zP (zV a) (zT I a (za (zq a) (za (zq a) zl)))) zl))))) ?_;refine zg (zS (zN (zH (kK a ⋯ R (PO.q (qy a (jA (zV a)) (λ_ _ _ b=>zT O b (za (zq b) (za (zq b) zl)))))))) (zk jC) zz) ?_;exact(zk (zC (zT B a (za (zq a) (za (zq a) (za (zq a) (za (qt (xY (za (zq a) (za (zq a) zl)))) zl)))))))
theorem W9(D:iv K mg "arrow_read" (top 44) ["p","widths","k","word"])(O:hI P w K mg base 2 "rows_read" 2 qe)(G:hI P w K mg base 4 "arrow_of" 4 xw)(R:hI P w K mg base 1 "end_of" 2 jE)(B:hI P w K mg base 1 "are_rests" 2 jy)(I:mg "all" = cS)(U:XJ P w K mg base 1 "NoArrow")(W:o6 P w K mg base 4 "arrow_of" 4 ym):o6 P w K mg base 5 "arrow_read" 4 jv:=
 iE (N:=["p","widths","k","word","way","rows"]) D ⋯ λX Y g d f e b=>by subst Y g d f e;have z:=b.m4 (λ_ _=>False);have h:(X.m4 λ_ _=>False).xe=(λ_ _=>False):=rfl;exact yV Vl (jz z (wH (zH (Qo (zq z) zr)) zr zr)) (yV Vl (jz z (PO.v (VC O z (za (q8 (zq z) (zO zf) (zO (yw zf))) (za (zP (zV z) (zT R z (za (zq z) (za (zq z) zl)))) zl))))) (yV (Qn (zN (zH (kK z ⋯ I (PO.q (qy z (jA (zV z)) (λ_ _ _ a=>zT B a (za (zq a) (za (zq a) zl)))))))) (qQ (yW z ⋯ U ⋯ (zq z))) vZ) (zS (zN (zH (kK z ⋯ I (PO.q (qy z (jA (zV z)) (λ_ _ _ a=>zT B a (za (zq a) (za (zq a) zl)))))))) (zk jC) zz) (qQ (gg W ⋯ z ⋯ (za (zq z) (za (zq z) (za (zq z) (za (qt (xY (za (zq z) (za (zq z) zl)))) zl))))))))
theorem gW(D:iv K mg "row_read" (top 45) ["text"])(B:hI P w K mg base 3 "check_forms" 1 jU)(I:hI P w K mg base 3 "widths_of" 1 qA)(O:hI P w K mg base 5 "arrow_read" 4 zZ)(R:mg "enumerate" = cS)(z:mg "int" = cS)(U:mg "tuple" = cS):hI P w K mg base 6 "row_read" 1 kj:=
 kP (N:=["text","words","p","widths","arrows"]) D ⋯ λX W f Y e d a g=>by subst W f Y e d;exact by refine zg (jz a (PO.v (yh (zq a) zr))) ?_;refine zg (Kn (zT B a (za (zq a) zl))) ?_;refine zg (jz a (kA a ⋯ z (q8 (zP (zV a) zf) jq (zO (yw zf))))) ?_;refine zg (jz a (zT I a (za (PO.v (qy a (jA (PO.q (Qq (zV a) (zO zf) jq (zO zf)))) (λ_ _ _ b=>kA b ⋯ z (zq b)))) zl))) ?_;refine zg (JA 4 (gJ a (o8.c (Zm a ⋯ R (PO.v (Qq (zV a) (zO zf) jq (zO zf))))) (λ_ _ _ b=>zT O b (za (zq b) (za (zq b) (za (zq b) (za (zq b) zl))))))) ?_;exact(zk (zC (qt (xY (za (zq a) (za (zq a) (za (qw a ⋯ U (zV a)) zl)))))))
theorem dF(D:iv K mg "row_read" (top 45) ["text"])(I:hI P w K mg base 3 "check_forms" 1 jU)(O:hI P w K mg base 3 "widths_of" 1 qA)(R:hI P w K mg base 5 "arrow_read" 4 zZ)(U:mg "enumerate" = cS)(B:mg "int" = cS)(H:mg "tuple" = cS)(W:o6 P w K mg base 5 "arrow_read" 4 jv)(Y:o6 P w K mg base 3 "check_forms" 1 jD)(G:o6 P w K mg base 3 "widths_of" 1 qd):o6 P w K mg base 6 "row_read" 1 qm:=
 iD (N:=["text","words","p","widths","arrows"]) D ⋯ λX i m h l j b g=>by subst i m h l j;have z:=b.m4 (λ_ _=>False);have n:(X.m4 λ_ _=>False).xe=(λ_ _=>False):=rfl;exact xE (Zf Vl) (jz z (PO.v (yh (zq z) zr))) (xE (Zf (gh Y ⋯ z ⋯ (za (zq z) zl))) (Kn (zT I z (za (zq z) zl))) (xE (Zf Vl) (jz z (kA z ⋯ B (q8 (zP (zV z) zf) jq (zO (yw zf))))) (xE (Zf (gf G ⋯ z ⋯ (za (PO.v (qy z (jA (PO.q (Qq (zV z) (zO zf) jq (zO zf)))) (λ_ _ _ a=>kA a ⋯ B (zq a)))) zl))) (jz z (zT O z (za (PO.v (qy z (jA (PO.q (Qq (zV z) (zO zf) jq (zO zf)))) (λ_ _ _ a=>kA a ⋯ B (zq a)))) zl))) (wF (Xl (own:=["k","word"]) (fr:=[("p",2),("widths",3)]) (T:= .tp [0,1]) b.calm g (b.Ri (fr:=[("p",2),("widths",3)]) ⋯) ⋯ (o8.c (Zm b ⋯ U (PO.v (Qq (zV b) (zO zf) jq (zO zf))))) (λe f d=>have a:=b.cq ["k","word"] [("p",2),("widths",3)] e f d ⋯;a.OU (xi (a.A8 0 ⋯) (xi (a.A8 1 ⋯) JC))) (λe f d=>have a:=b.cq ["k","word"] [("p",2),("widths",3)] e f d ⋯;zT R a (za (zq a) (za (zq a) (za (zq a) (za (zq a) zl))))) (λe f d=>have a:=b.cq ["k","word"] [("p",2),("widths",3)] e f d ⋯;aQ W ⋯ a ⋯ (za (zq a) (za (zq a) (za (zq a) (za (zq a) zl))))))))))
theorem lD(D:iv K mg "_law_mix" (top 47) ["_law_script","_law_k"])(z:mg "len" = cS)(B:mg "range" = cS):hI P w K mg base 1 "_law_mix" 2 zR:=
 kP (N:=["_law_script","_law_k","_law_cell","_law_digits","_law_turn"]) D ⋯ λX I d O b R a e=>by subst I d O b R;exact by refine zg (zS (jZ a (jH a ⋯ z (zV a)) zf) (zk (zC (ju (kH (ju (kH (jL (kH (kH (zq a) (zq a)) zf) zf) zf) zf) zf) zf))) zz) ?_;refine zg (jz a (zP (zV a) (ju (zq a) (jH a ⋯ z (zV a))))) ?_;refine zg (zS (xG (Xm (Vv (jH a ⋯ z (zV a)) zf) (Jy (jZ a (ju (zP (zV a) zf) zf) zf)))) (by refine zg (jz a (zP (zV a) (jL zf (ju (zq a) (Vm (jH a ⋯ z (zV a)) zf))))) ?_;refine zg (yx e a (j6 a ⋯ B (yX (zq a) (Vm (jH a ⋯ z (zV a)) zf))) (zk (jz a (yX (zq a) (Vn zf zf))))) ?_;exact(zk (zC (ju (zq a) (Vn zf zf))))) zz) ?_;exact(zk (zC (ju (kH (ju (jL (jL (kH (ju (zq a) (Vn zf zf)) zf) (kH (kH (zq a) (zq a)) zf)) zf) zf) zf) zf)))
theorem dM(D:iv K mg "_law_whole" (top 48) ["_law_found"])(B:mg "bool" = cS)(I:mg "int" = cS)(z:mg "isinstance" = cS):hI P w K mg base 1 "_law_whole" 1 jd:=
 kP (N:=["_law_found"]) D ⋯ λX O d R b U a e=>by subst O d R b U;exact zk (zC (kJ (Qp a ⋯ z ⋯ I (zq a)) (kG (dj (Z3 a ⋯ z ⋯ B (zq a))))))
theorem dO(D:iv K mg "_law_rests" (top 49) ["_law_found","_law_due_here"])(B:hI P w K mg base 1 "_law_whole" 1 jd)(I:mg "all" = cS)(O:mg "isinstance" = cS)(z:mg "len" = cS)(R:mg "tuple" = cS):hI P w K mg base 2 "_law_rests" 2 qf:=
 kP (N:=["_law_found","_law_due_here"]) D ⋯ λX U e W d Y a f=>by subst U e W d Y;exact by refine zg (zS (xG (jK (zN (zH (qR a ⋯ O ⋯ R (zq a)))) (jJ (kX a (jH a ⋯ z (zV a)) (jH a ⋯ z (zV a)))))) (zk (zC vH)) zz) ?_;exact(zk (zC (kJ (kK a ⋯ I (PO.q (qy a (jA (zV a)) (λ_ _ _ b=>zT B b (za (zq b) zl))))) (kG (Vr a (zq a) (zq a))))))
theorem VT(D:iv K mg "_law_is_table" (top 50) ["_law_found","_law_due_here"])(z:hI P w K mg base 1 "_law_whole" 1 jd)(R:hI P w K mg base 2 "_law_rests" 2 qf)(U:mg "all" = cS)(B:mg "isinstance" = cS)(I:mg "len" = cS)(W:mg "range" = cS)(O:mg "tuple" = cS):hI P w K mg base 3 "_law_is_table" 2 jX:=
 kP (N:=["_law_found","_law_due_here"]) D ⋯ λX Y g d f e a h=>by subst Y g d f e;exact by refine zg (zS (xG (jK (zN (zH (qR a ⋯ B ⋯ O (zq a)))) (jK (kX a (jH a ⋯ I (zV a)) zf) (jK (zN (zH (zT z a (za (zP (zV a) zf) zl)))) (jJ (zN (zH (zT z a (za (zP (zV a) zf) zl))))))))) (zk (zC vH)) zz) ?_;refine zg (zS (xG (jK (kX a (dh (zq a) jq (zO zf)) (dh (zq a) jq (zO zf))) (jK (zN (zH (qR a ⋯ B ⋯ O (zP (zV a) zf)))) (jJ (kX a (jH a ⋯ I (PV.q (zP (zV a) zf))) (zP (zV a) zf)))))) (zk (zC vH)) zz) ?_;exact(zk (zC (kK a ⋯ U (PO.q (qy a (o8.c (j6 a ⋯ W (zP (zV a) zf))) (λ_ _ _ b=>zT R b (za (zP (PV.q (zP (zV b) zf)) (zq b)) (za (zP (PV.q (zP (zV b) zf)) (zq b)) zl))))))))
theorem dN(D:iv K mg "_law_table" (top 51) ["_law_script","_law_at","_law_p","_law_high","_law_wide"])(I:hI P w K mg base 1 "_law_mix" 2 zR)(O:mg "int" = cS)(z:mg "range" = cS)(B:mg "tuple" = cS):hI P w K mg base 2 "_law_table" 5 qB:=
 kP (N:=["_law_script","_law_at","_law_p","_law_high","_law_wide","_law_rows","_law_i","_law_row_here","_law_j","_law_cell"]) D ⋯ λX R e U d W a b=>by subst R e U d W;exact by refine zg (Zk a (j5 (xY zl))) ?_;refine zg (yx b a (j6 a ⋯ z (zq a)) (by refine zg (Zk a (j5 (xY zl))) ?_;refine zg (yx b a (j6 a ⋯ z (zq a)) (by refine zg (jz a (zT I a (za (zq a) (za (jL (jL (zq a) (kH (zq a) (zq a))) (zq a)) zl)))) ?_;exact(zk (vK 7 a ⋯ (kH (ju (zq a) (zq a)) (gp a ⋯ O (ux (ju (yX (zq a) zf) zf) zf))))))) ?_;exact(zk (vK 5 a ⋯ (qw a ⋯ B (zV a)))))) ?_;exact(zk (zC (qt (xY (za (zq a) (za (zq a) (za (qw a ⋯ B (zV a)) zl)))))))
theorem gY(D:iv K mg "_law_ways" (top 52) ["_law_cell"])(z:mg "range" = cS):hI P w K mg base 1 "_law_ways" 1 kl:=
 kP (N:=["_law_cell","_law_many"]) D ⋯ λX B e I d O a f=>by subst B e I d O;exact by refine zg (jz a (ju (zq a) zf)) ?_;exact(zk (zC (Zh zr (PO.q (qy a (o8.c (j6 a ⋯ z (zq a))) (λ_ _ _ b=>xN zr (ju (yX (zq b) (zP (PO.q (j5 (xY (za zf (za zf (za zf (za zf (za zf zl)))))))) (zq b))) zf)))))))
theorem lB(D:iv K mg "_law_row" (top 53) ["_law_script","_law_at","_law_p","_law_ways_here","_law_most"])(O:hI P w K mg base 1 "_law_mix" 2 zR)(R:hI P w K mg base 2 "_law_table" 5 qB)(z:mg "len" = cS)(B:mg "range" = cS)(I:mg "tuple" = cS):hI P w K mg base 3 "_law_row" 5 kn:=
 kP (N:=["_law_script","_law_at","_law_p","_law_ways_here","_law_most","_law_widths","_law_arrows","_law_k","_law_sizes"]) D ⋯ λX U e W d Y a f=>by subst U e W d Y;exact by refine zg (jz a (qw a ⋯ I (PO.q (qy a (o8.c (j6 a ⋯ B (jL (Zg a ⋯ z (zq a)) zf))) (λ_ _ _ b=>ju (zT O b (za (zq b) (za (jL (zq b) (zq b)) zl))) (zq b)))))) ?_;refine zg (Zk a (j5 (xY zl))) ?_;refine zg (yx f a (j6 a ⋯ B (Zg a ⋯ z (zq a))) (by refine zg (jz a (qt (xY (za (zP (zV a) (jL (zq a) zf)) (za (zP (zV a) (zq a)) zl))))) ?_;refine zg (zS (jZ a (xN (zq a) (zq a)) zr) (zk (jz a (qt (xY (za (zP (zV a) (zq a)) (za (zP (zV a) (jL (zq a) zf)) zl)))))) zz) ?_;exact(zk (vK 6 a ⋯ (qt (xY (za (xN (zq a) (zq a)) (za (zT R a (za (zq a) (za (jL (jL (zq a) zf) (kH zf (zq a))) (za (zq a) (za (zP (zV a) zf) (za (zP (zV a) zf) zl)))))) zl)))))))) ?_;exact(zk (zC (qt (xY (za (zq a) (za (zq a) (za (qw a ⋯ I (zV a)) zl)))))))
theorem bw(D:iv K mg "_law_is_row" (top 54) ["_law_found","_law_due_here"])(O:hI P w K mg base 1 "_law_whole" 1 jd)(R:hI P w K mg base 2 "_law_rests" 2 qf)(U:hI P w K mg base 3 "_law_is_table" 2 jX)(z:mg "isinstance" = cS)(B:mg "len" = cS)(W:mg "str" = cS)(I:mg "tuple" = cS)(Y:mg "zip" = cS):hI P w K mg base 4 "_law_is_row" 2 qD:=
 kP (N:=["_law_found","_law_due_here","_law_arrow_here","_law_other"]) D ⋯ λX d g b f e a h=>by subst d g b f e;exact by refine zg (zS (xG (jK (zN (zH (qR a ⋯ z ⋯ I (zq a)))) (jK (kX a (jH a ⋯ B (zV a)) zf) (jK (zN (zH (zT O a (za (zP (zV a) zf) zl)))) (jJ (kX a (zP (zV a) zf) (zP (zV a) zf))))))) (zk (zC vH)) zz) ?_;refine zg (zS (xG (jK (zN (zH (zT R a (za (zP (zV a) zf) (za (zP (zV a) zf) zl))))) (jK (zN (zH (qR a ⋯ z ⋯ I (zP (zV a) zf)))) (jJ (kX a (jH a ⋯ B (PV.q (zP (zV a) zf))) (jH a ⋯ B (PV.q (zP (zV a) zf)))))))) (zk (zC vH)) zz) ?_;refine zg (yx h a (nF a ⋯ Y (zP (zV a) zf) (zP (zV a) zf)) (by refine zg (zS (xG (jK (zN (zH (qR a ⋯ z ⋯ I (zq a)))) (jK (kX a (jH a ⋯ B (zV a)) zf) (jJ (kX a (zP (zV a) zf) (zP (zV a) zf)))))) (zk (zC vH)) zz) ?_;exact(zk (zS (xG (jK (zN (zH (Vo a ⋯ z ⋯ W (zP (zV a) zf)))) (jJ (zN (zH (zT U a (za (zP (zV a) zf) (za (zP (zV a) zf) zl)))))))) (zk (zC vH)) zz)))) ?_;exact(zk (zC vH))
theorem gZ(D:iv K mg "_law_text" (top 55) ["_law_row_here"])(B:mg "len" = cS)(I:mg "range" = cS)(z:mg "str" = cS):hI P w K mg base 1 "_law_text" 1 km:=
 kP (N:=["_law_row_here","_law_words","_law_k","_law_way","_law_table_here","_law_figures"]) D ⋯ λX O f R e U a g=>by subst O f R e U;exact by refine zg (Zk a (j5 (xY (za (xF (vG a ⋯ z (zP (zV a) zf)) zr) (za (vG a ⋯ z (zP (PV.q (zP (zV a) zf)) zf)) zl))))) ?_;refine zg (yx g a (j6 a ⋯ I (jH a ⋯ B (PV.q (zP (zV a) zf)))) (by refine zg (aW (Ce a) (zP (PV.q (zP (zV a) zf)) (zq a))) ?_;refine zg (jz a (Zh zr (PO.q (qy a (jA (PV.q (zP (zV a) zf))) (λ_ _ _ b=>Zh zr (PO.q (qy b (jA (zV b)) (λ_ _ _ d=>vG d ⋯ z (zq d))))))))) ?_;refine zg (vK 1 a ⋯ (gw a (xF (xF zr (zq a)) zr) (xF (xF zr (zq a)) zr) (zq a))) ?_;exact(zk (vK 1 a ⋯ (vG a ⋯ z (zP (PV.q (zP (zV a) zf)) (jL (zq a) zf))))))) ?_;exact(zk (zC (Zh zr (zV a))))
theorem dP(D:iv K mg "_law_kinds" (top 56) ["_law_e"])(B:mg "ValueError" = cS)(z:mg "isinstance" = cS)(I:mg "range" = cS)(O:XI K mg "NoArrow")(R:XI K mg "NoLine")(U:XI K mg "NoPrime")(W:XI K mg "NoRoom")(Y:XI K mg "NoRow")(G:XI K mg "NoTable")(H:XI K mg "NoText")(J:XI K mg "NoTurn")(L:XI K mg "NoWidths")(Z:XI K mg "Nothing")(a6:XI K mg "Nought")(a7:XI K mg "TooMany")(a8:XI K mg "Unlike"):hI P w K mg base 1 "_law_kinds" 1 xI:=
 kP (N:=["_law_e","_law_told","_law_names"]) D ⋯ λX e h d g f a i=>by subst e h d g f;exact by refine zg (Zk a (j5 (xY (za (ke a ⋯ z ⋯ U (zq a)) (za (ke a ⋯ z ⋯ a6 (zq a)) (za (ke a ⋯ z ⋯ G (zq a)) (za (ke a ⋯ z ⋯ L (zq a)) zl))))))) ?_;refine zg (Zk a (yy (zV a) (PO.q (j5 (xY (za (ke a ⋯ z ⋯ Y (zq a)) (za (ke a ⋯ z ⋯ a8 (zq a)) (za (ke a ⋯ z ⋯ a7 (zq a)) (za (ke a ⋯ z ⋯ J (zq a)) zl))))))))) ?_;refine zg (Zk a (yy (zV a) (PO.q (j5 (xY (za (ke a ⋯ z ⋯ R (zq a)) (za (ke a ⋯ z ⋯ Z (zq a)) (za (ke a ⋯ z ⋯ O (zq a)) (za (ke a ⋯ z ⋯ H (zq a)) zl))))))))) ?_;refine zg (vK 1 a ⋯ (ke a ⋯ z ⋯ W (zq a))) ?_;refine zg (by(with_reducible refine vJ 2 ?_);(with_reducible refine SX.set a 2 ?hc ?_ (hs:=?hq));(case hc=>decide +kernel);(case hq=>rfl);(with_reducible refine PO.v ?_);(with_reducible refine j5 ?_);(with_reducible refine zD zr ?_ (hs:=?hq));(case hq=>rfl);(with_reducible refine zD zr ?_ (hs:=?hq));(case hq=>rfl);(with_reducible refine zD zr ?_ (hs:=?hq));(case hq=>rfl);(with_reducible refine zD zr ?_ (hs:=?hq));(case hq=>rfl);(with_reducible refine zD zr ?_ (hs:=?hq));(case hq=>rfl);(with_reducible refine zD zr ?_ (hs:=?hq));(case hq=>rfl);(with_reducible refine zD zr ?_ (hs:=?hq));(case hq=>rfl);(with_reducible refine zD zr ?_ (hs:=?hq));(case hq=>rfl);(with_reducible refine zD zr ?_ (hs:=?hq));(case hq=>rfl);(with_reducible refine zD zr ?_ (hs:=?hq));(case hq=>rfl);(with_reducible exact JF)) ?_;refine zg (jz a (PO.v (yy (zV a) (PO.q (j5 (xY (za zr (za zr (za zr zl))))))))) ?_;refine zg (zS (zN (zH (gm a ⋯ z ⋯ B (zq a)))) (zk (j0 (j5 (xY (za zr zl))))) zz) ?_;exact(zk (gG 1 (j0 (uA a (o8.c (j6 a ⋯ I zf)) (λ_ _ _ b=>zH (zP (zV b) (zq b))) (λ_ _ _ b=>zP (zV b) (zq b))))))
theorem lC(D:iv K mg "_law_odd" (top 57) ["_law_cell"]):hI P w K mg base 1 "_law_odd" 1 ko:=
 kP (N:=["_law_cell","_law_some"]) D ⋯ λX z d B b I a e=>by subst z d B b I;exact by refine zg ?_ ?_;exact(by(with_reducible refine vJ 1 ?_);(with_reducible refine SX.set a 1 ?hc ?_ (hs:=?hq));(case hc=>decide +kernel);(case hq=>rfl);(with_reducible refine PO.v ?_);(with_reducible refine j5 ?_);(with_reducible refine zD zr ?_ (hs:=?hq));(case hq=>rfl);(with_reducible refine zD zr ?_ (hs:=?hq));(case hq=>rfl);(with_reducible refine zD zr ?_ (hs:=?hq));(case hq=>rfl);(with_reducible refine zD zr ?_ (hs:=?hq));(case hq=>rfl);(with_reducible refine zD zr ?_ (hs:=?hq));(case hq=>rfl);(with_reducible refine zD zr ?_ (hs:=?hq));(case hq=>rfl);(with_reducible refine zD zr ?_ (hs:=?hq));(case hq=>rfl);(with_reducible refine zD zr ?_ (hs:=?hq));(case hq=>rfl);(with_reducible refine zD zr ?_ (hs:=?hq));(case hq=>rfl);(with_reducible refine zD zr ?_ (hs:=?hq));(case hq=>rfl);(with_reducible refine zD zr ?_ (hs:=?hq));(case hq=>rfl);(with_reducible refine zD zr ?_ (hs:=?hq));(case hq=>rfl);(with_reducible refine zD zr ?_ (hs:=?hq));(case hq=>rfl);(with_reducible refine zD zr ?_ (hs:=?hq));(case hq=>rfl);(with_reducible refine zD zr ?_ (hs:=?hq));(case hq=>rfl);(with_reducible refine zD zr ?_ (hs:=?hq));(case hq=>rfl);(with_reducible refine zD zr ?_ (hs:=?hq));(case hq=>rfl);(with_reducible refine zD zr ?_ (hs:=?hq));(case hq=>rfl);(with_reducible exact JF));refine zg ?_ ?_;exact(by(with_reducible refine vJ 1 ?_);(with_reducible refine SX.set a 1 ?hc ?_ (hs:=?hq));(case hc=>decide +kernel);(case hq=>rfl);(with_reducible refine PO.v ?_);(with_reducible refine yy ?hl ?_);(case hl=>exact(zV a));(with_reducible refine PO.q ?_);(with_reducible refine j5 ?_);(with_reducible refine zD zr ?_ (hs:=?hq));(case hq=>rfl);(with_reducible refine zD zr ?_ (hs:=?hq));(case hq=>rfl);(with_reducible refine zD zr ?_ (hs:=?hq));(case hq=>rfl);(with_reducible refine zD zr ?_ (hs:=?hq));(case hq=>rfl);(with_reducible refine zD zr ?_ (hs:=?hq));(case hq=>rfl);(with_reducible refine zD zr ?_ (hs:=?hq));(case hq=>rfl);(with_reducible refine zD zr ?_ (hs:=?hq));(case hq=>rfl);(with_reducible refine zD zr ?_ (hs:=?hq));(case hq=>rfl);(with_reducible refine zD zr ?_ (hs:=?hq));(case hq=>rfl);(with_reducible refine zD zr ?_ (hs:=?hq));(case hq=>rfl);(with_reducible refine zD zr ?_ (hs:=?hq));(case hq=>rfl);(with_reducible refine zD zr ?_ (hs:=?hq));(case hq=>rfl);(with_reducible exact JF));exact(zk (zC (zP (zV a) (ju (zq a) zf))))
theorem ae(D:iv K mg "_law_changed" (top 58) ["_law_words","_law_cell"])(B:hI P w K mg base 1 "_law_odd" 1 ko)(z:mg "len" = cS)(I:mg "max" = cS):hI P w K mg base 2 "_law_changed" 2 qo:=
 kP (N:=["_law_words","_law_cell","_law_at","_law_word","_law_place","_law_sign"]) D ⋯ λX O d R b U a e=>by subst O d R b U;exact by refine zg (jz a (ju (yX (zq a) zf) (nk a ⋯ I zf (jH a ⋯ z (zV a))))) ?_;refine zg (zS (xG (jK (jZ a (ju (zq a) zf) zf) (jJ (jZ a (jH a ⋯ z (zV a)) zf)))) (zk (j0 (yy (PO.q (yy (PO.q (v9 (zV a) jq (zO (zq a)))) (PO.q (j5 (xY (za (zT B a (za (yX (zq a) zf) zl)) zl)))))) (PO.q (v9 (zV a) (zO (jL (zq a) zf)) jq))))) zz) ?_;refine zg (zS (jZ a (ju (zq a) zf) zf) (zk (j0 (yy (PO.q (v9 (zV a) jq (zO (zq a)))) (PO.q (v9 (zV a) (zO (jL (zq a) zf)) jq))))) zz) ?_;refine zg (zS (jZ a (ju (zq a) zf) zf) (zk (j0 (yy (PO.q (v9 (zV a) jq (zO (jL (zq a) zf)))) (PO.q (v9 (zV a) (zO (zq a)) jq))))) zz) ?_;refine zg (jz a (zP (zV a) (zq a))) ?_;refine zg (jz a (ju (yX (zq a) zf) (jL (Zg a ⋯ z (zq a)) zf))) ?_;refine zg (jz a (xN zr (ju (yX (zq a) zf) zf))) ?_;refine zg (zS (jZ a (ju (zq a) zf) zf) (zk (jz a (xF (xF (q8 (zq a) jq (zO (zq a))) (zq a)) (q8 (zq a) (zO (zq a)) jq)))) zz) ?_;refine zg (zS (jZ a (ju (zq a) zf) zf) (zk (jz a (xF (q8 (zq a) jq (zO (zq a))) (q8 (zq a) (zO (jL (zq a) zf)) jq)))) zz) ?_;refine zg (zS (jZ a (ju (zq a) zf) zf) (zk (jz a (xF (xF (q8 (zq a) jq (zO (zq a))) (zq a)) (q8 (zq a) (zO (jL (zq a) zf)) jq)))) zz) ?_;exact(zk (j0 (yy (PO.q (yy (PO.q (v9 (zV a) jq (zO (zq a)))) (PO.q (j5 (xY (za (zq a) zl)))))) (PO.q (v9 (zV a) (zO (jL (zq a) zf)) jq)))))
theorem bx(D:iv K mg "_law_formed" (top 59) ["_law_at","_law_word"])(z:mg "all" = cS)(B:mg "len" = cS)(I:mg "range" = cS)(O:mg "str" = cS):hI P w K mg base 1 "_law_formed" 2 qX:=
 kP (N:=["_law_at","_law_word"]) D ⋯ λX R e U d W a f=>by subst R e U d W;exact by refine zg (zS (jZ a (zq a) zf) (zk (zC (Km (zq a) (PV.q (qt (xY (za zr (za zr (za zr (za zr zl)))))))))) zz) ?_;refine zg (zS (jZ a (ju (zq a) zf) zf) (zk (zC (Km (zq a) (PO.q (qy a (o8.c (j6 a ⋯ I zf)) (λ_ _ _ b=>vG b ⋯ O (zq b))))))) zz) ?_;refine zg (zS (xG (jK (ny (Zg a ⋯ B (zq a)) zf) (jJ (Xo a (qt (xY (za (xN (zq a) zf) (za (xN (zq a) (yw zf)) zl)))) (PV.q (qt (xY (za (qt (xY (za zr (za zr zl)))) (za (qt (xY (za zr (za zr zl)))) zl))))))))) (zk (zC vH)) zz) ?_;exact(zk (zC (kK a ⋯ z (PO.q (qy a (o8.c (JB (q8 (zq a) (zO zf) (zO (yw zf))))) (λ_ _ _ b=>Vq (zq b) zr))))))
theorem dQ(D:iv K mg "_law_arrow" (top 60) ["_law_p","_law_widths","_law_k","_law_word"])(z:mg "any" = cS)(O:mg "int" = cS)(B:mg "len" = cS)(I:mg "tuple" = cS):hI P w K mg base 1 "_law_arrow" 4 qg:=
 kP (N:=["_law_p","_law_widths","_law_k","_law_word","_law_way","_law_sizes","_law_rows","_law_told"]) D ⋯ λX R f U e W a g=>by subst R f U e W;exact by refine zg (jz a (gy a (xN (zq a) zf))) ?_;refine zg (jz a (qt (xY (za (zP (zV a) (jL (zq a) zf)) (za (zP (zV a) (zq a)) zl))))) ?_;refine zg (zS (jZ a (zq a) zr) (zk (jz a (qt (xY (za (zP (zV a) (zq a)) (za (zP (zV a) (jL (zq a) zf)) zl)))))) zz) ?_;refine zg (jz a (PO.v (yh (q8 (zq a) (zO zf) (zO (yw zf))) zr))) ?_;refine zg (zS (xG (Xm (jZ a (zP (zV a) zf) zf) (Jy (jZ a (q8 (zq a) (zO zf) (zO (yw zf))) zr)))) (zk (jz a (PO.v (j5 (xY zl))))) zz) ?_;refine zg (zS (xG (jK (kX a (jH a ⋯ B (zV a)) (zP (zV a) zf)) (jJ (zH (Vt a ⋯ z (PO.q (qy a (jA (zV a)) (λ_ _ _ b=>ur b (Zg b ⋯ B (zq b)) (zP (zV b) zf))))))))) (zk (zC v7)) zz) ?_;refine zg (jz a (qw a ⋯ I (PO.q (qy a (jA (zV a)) (λ_ _ _ b=>qw b ⋯ I (PO.q (qy b (o8.c (JB (zq b))) (λ_ _ _ d=>kA d ⋯ O (zq d))))))))) ?_;refine zg (zS (zH (Vt a ⋯ z (PO.q (qy a (jA (zV a)) (λ_ _ _ b=>Vt b ⋯ z (PO.q (qy b (jA (zV b)) (λ_ _ _ d=>nr (zq d) (zq d))))))))) (zk (zC v7)) zz) ?_;exact(zk (zC (qt (xY (za (zq a) (za (qt (xY (za (zP (zV a) zf) (za (zP (zV a) zf) (za (zq a) zl))))) zl))))))
theorem aa(D:iv K mg "_law_due" (top 61) ["_law_text_here"])(R:hI P w K mg base 1 "_law_arrow" 4 qg)(U:hI P w K mg base 1 "_law_formed" 2 qX)(I:mg "int" = cS)(z:mg "len" = cS)(B:mg "range" = cS)(W:mg "sum" = cS)(O:mg "tuple" = cS):hI P w K mg base 2 "_law_due" 1 jt:=
 kP (N:=["_law_text_here","_law_words","_law_at","_law_p","_law_widths","_law_arrows"]) D ⋯ λX Y g d f e a h=>by subst Y g d f e;exact by refine zg (jz a (PO.v (yh (zq a) zr))) ?_;refine zg (yx h a (j6 a ⋯ B (jH a ⋯ z (zV a))) (zk (zS (zN (zH (zT U a (za (zq a) (za (zP (zV a) (zq a)) zl))))) (zk (j0 (j5 (xY (za zr (za (zq a) zl)))))) zz))) ?_;refine zg (zS (jZ a (ju (jH a ⋯ z (zV a)) zf) zf) (zk (j0 (j5 (xY (za zr (za (jH a ⋯ z (zV a)) zl)))))) zz) ?_;refine zg (jz a (kA a ⋯ I (xN (zP (zV a) zf) zf))) ?_;refine zg (JA 4 (gJ a (o8.c (bf a ⋯ B zf (jH a ⋯ z (zV a)) zf)) (λ_ _ _ b=>kA b ⋯ I (zP (zV b) (zq b))))) ?_;refine zg (zS (xG (jK (Vv (jH a ⋯ z (zV a)) zf) (jJ (Vv (dg a ⋯ W (zV a)) zf)))) (zk (j0 (j5 (xY (za zr (za v7 zl)))))) zz) ?_;refine zg (JA 5 (gJ a (o8.c (j6 a ⋯ B (Vm (jH a ⋯ z (zV a)) zf))) (λ_ _ _ b=>zT R b (za (zq b) (za (zq b) (za (zq b) (za (zP (zV b) (jL zf (kH zf (zq b)))) zl))))))) ?_;refine zg (zS (gB a v7 (zV a)) (zk (j0 (j5 (xY (za zr (za (gr a (zV a) v7) zl)))))) zz) ?_;exact(zk (j0 (j5 (xY (za zr (za (qt (xY (za (zq a) (za (qw a ⋯ O (zV a)) (za (qw a ⋯ O (zV a)) zl))))) zl))))))
theorem YL(D:iv K mg "_law_asked" (top 62) ["_law_text_here"])(B:hI P w K mg base 2 "_law_due" 1 jt)(I:hI P w K mg base 6 "row_read" 1 kj)(O:hI P w K mg base 1 "_law_kinds" 1 xI)(R:hI P w K mg base 4 "_law_is_row" 2 qD)(U:hI P w K mg base 1 "_law_whole" 1 jd)(W:XS K mg)(z:AQ K "at" = cI)(Y:o6 P w K mg base 6 "row_read" 1 qm):hI P w K mg base 7 "_law_asked" 1 jh:=
 uY (N:=["_law_text_here","_law_due_here","_law_caught","_law_found","_law_e"]) D ⋯ λX f i d h g a j b=>by subst f i d h g;exact by refine zg (jz a (PO.v (VC B a (za (zq a) zl)))) ?_;refine zg (jz a v7) ?_;refine zg (jz a v7) ?_;refine zg (gF 3 4 2 ⋯ ⋯ a b ⋯ ⋯ ⋯ ⋯ ⋯ ⋯ W I Y ⋯ ⋯ (have e:=a.m4 (λ_ _=>False);za (zq e) zl)) ?_;refine zg (zS (gA (zq a) v7) (zk (zC (kJ (Vr a (zP (zV a) zf) zr) (kG (zT R a (za (zq a) (za (zP (zV a) zf) zl))))))) zz) ?_;refine zg (zS (kX a (PO.v (VC O a (za (zq a) zl))) (PO.v (j5 (xY (za (zP (zV a) zf) zl))))) (zk (zC vH)) zz) ?_;exact(zk (zC (uq (Vr a (zP (zV a) zf) zr) (kG (kJ (zT U a (za (Vs z (zq a)) zl)) (kG (Vr a (Vs z (zq a)) (zP (zV a) zf))))))))
theorem Bn(D:L2.Dc K "law" "law" (top 63) f fd)(I:hI P w K mg base 1 "_law_text" 1 km)(O:hI P w K mg base 3 "_law_row" 5 kn)(R:hI P w K mg base 2 "_law_changed" 2 qo)(B:hI P w K mg base 7 "_law_asked" 1 jh)(z:hI P w K mg base 1 "_law_mix" 2 zR)(U:hI P w K mg base 1 "_law_ways" 1 kl)(W:mg "range" = cS):zi P w K mg base yg 8 f fd ["_law_script"] (C6 K 1 ZG):=
 uZ (N:=["_law_script","_law_p","_law_text_here","_law_words","_law_k","_law_bad"]) D ⋯ λX Y g b e d a h=>by subst Y g b e d;exact by refine zg (jz a (zP (PO.q (j5 (xY (za zf (za zf (za zf (za zf zl))))))) (ju (zT z a (za (zq a) (za zf zl))) zf))) ?_;refine zg (jz a (zT I a (za (zT O a (za (zq a) (za zf (za (zq a) (za (zT U a (za (zT z a (za (zq a) (za zf zl))) zl)) (za zf zl)))))) zl))) ?_;refine zg (jz a (PO.v (yh (zq a) zr))) ?_;refine zg (yx h a (j6 a ⋯ W (ju (yX (zT z a (za (zq a) (za zf zl))) zf) zf)) (zk (jz a (zT R a (za (zq a) (za (zT z a (za (zq a) (za (jL zf (zq a)) zl))) zl)))))) ?_;refine zg (jz a (Zh zr (zV a))) ?_;exact(zk (zC (kJ (zT B a (za (zq a) zl)) (kJ (zT B a (za (zq a) zl)) (kG (zT B a (za (zq a) zl)))))))
theorem bz(A:E3 K mg "NoArrow" "NoArrow.__init__" "at" (iB (top 12) 0) "at"):G8 P w K mg base 1 "NoArrow":=
 lQ (k:=0) A ⋯ ⋯ λC z X B d I b O a=>by subst B d I b O;exact wJ (aR a z ⋯ ⋯ ⋯ ⋯ ⋯)<|Zj<|gi a z ⋯ ⋯
theorem dR(A:E3 K mg "NoArrow" "NoArrow.__init__" "at" (iB (top 12) 0) "at"):XJ P w K mg base 1 "NoArrow":=
 lR (k:=0) A ⋯ ⋯ λC z X B d I b O a=>by subst B d I b O;exact wJ (Ko a z ⋯ ⋯ ⋯ ⋯ ⋯)<|Zj<|Vx a z ⋯ ⋯
theorem hJ(A:E3 K mg "NoText" "NoText.__init__" "at" (iB (top 13) 0) "at"):XJ P w K mg base 1 "NoText":=
 lR (k:=0) A ⋯ ⋯ λC z X B d I b O a=>by subst B d I b O;exact wJ (Ko a z ⋯ ⋯ ⋯ ⋯ ⋯)<|Zj<|Vx a z ⋯ ⋯
end
end DL
namespace PySem.W.Fast
def tw7148504656084971452:=0
def tw14214799987983642926:=0
def tw17843216112342379371:=0
def tw12154467633031489684:=0
def tw10602977238558480851:=0
def tw17449038129619148802:=0
def tw9172575400924731562:=0
def tw9030365484554726803:=0
def tw2177130837337314816:=0
def tw7874863488489086360:=0
def tw11261886736665096639:=0
def tw10328801923042146078:=0
def tw1167898507301962927:=0
def tw5409919943700361140:=0
def tw3023856764069033421:=0
def tw8929297398739925636:=0
def tw8849624576772902732:=0
def tw17695009962677856930:=0
def tw6433132717172567504:=0
def tw16660485860681669469:=0
def tw7350978253697462656:=0
def tw14459488199703152658:=0
def tw17809818976826651410:=0
def tw14308491584153883654:=0
def tw2339566650786919863:=0
def tw13964409265390399122:=0
def tw11892290489618039966:=0
def tw6162426734980643394:=0
def tw1847385064048524980:=0
def tw16969969272960636326:=0
def tw16838571193812649024:=0
def tw2365728625648756898:=0
def tw7026087229876872670:=0
def tw16614321075461942649:=0
def tw18022849978134825433:=0
def tw1139709439086223502:=0
def tw644841634196757699:=0
def tw17045075852588253520:=0
def tw7906453377630531285:=0
def tw1437439502708529883:=0
def tw1819452482132875562:=0
def tw11207832319241348202:=0
def tw14271544574126090128:=0
def tw1004764701553820468:=0
def tw16338942210084763424:=0
def tw10975380308660419261:=0
def tw17505918324904541790:=0
def tw10895902010978574811:=0
def tw4079207835137238560:=0
def tw7851511461785048874:=0
def tw14069256761135388876:=0
def tw921286681560030952:=0
def tw10021318009864948165:=0
def tw2759001158106171109:=0
def tw11970230992933968304:=0
def tw12186052257311679723:=0
def tw18198915488088128947:=0
def tw16613680359359747272:=0
def tw2061284080165613413:=0
def tw4395702026931341434:=0
def tw16181139981840300866:=0
def tw11138829107083397366:=0
def tw4578384848729741379:=0
def tw10426650773577633071:=0
def tw12835332050360990703:=0
def tw14255544261216037663:=0
def tw14003180727900616322:=0
def tw9791308052461856369:=0
def tw5707826106506088480:=0
def tw10188055679904260204:=0
def tw14624602566936153964:=0
def tw15112069748767695131:=0
def tw12243327589773464268:=0
def tw6855850570199691291:=0
def tw1370822691067268997:=0
def tw2690181884372129814:=0
def tw430114362659450188:=0
def tw17925769141999404529:=0
def tw18321678212520222277:=0
def tw7449309842073913367:=0
def tw13674742435176838635:=0
def tw6200567571085633228:=0
def tw4193866985029404142:=0
def tw16966896096429188149:=0
def tw13369858331140793525:=0
def tw1946661211243206842:=0
def tw7773593896745270833:=0
def tw5054762222077238362:=0
def tw12403863866957643451:=0
def tw16971938291860586090:=0
def tw10029795627513943349:=0
def tw2655554068619621392:=0
def tw2242802273783846873:=0
def tw13774007363330823186:=0
def tw8961527899427715082:=0
def tw558371400686848967:=0
def tw16666228066824709444:=0
def tw12295357069034451720:=0
def tw3006020062110256051:=0
def tw7266464337861314678:=0
def tw119049811155430429:=0
def tw8282989054854816446:=0
def tw14746446854933702233:=0
def tw7414265886206458961:=0
def tw8103187521543914757:=0
def tw16546982138882856388:=0
def tw6956109259733573465:=0
def tw8187261193686910641:=0
def tw5869546690828703544:=0
def tw2557100586596861288:=0
def tw3806001977990728114:=0
def tw1184785961410967389:=0
def tw3799732892660618106:=0
def tw1493339895367795631:=0
def tw18383789073172322766:=0
def tw4190922227896900267:=0
def tw12287022989268930812:=0
def tw4393584960032363887:=0
def tw6072092821283639553:=0
def tw12241910537467702538:=0
def tw6212640065353840159:=0
def tw1117140613282312419:=0
def tw10857612861416606292:=0
def tw2982507036140711939:=0
def tw17150843575198624277:=0
def tw11157145326232701446:=0
def tw977042548645084275:=0
def tw17106121844930133459:=0
def tw4617674630662644462:=0
def tw17920520047715323333:=0
def tw9214919837555107603:=0
def tw8994509492365958168:=0
def tw5144916862582099109:=0
def tw4763156274784500366:=0
def tw9189580497721101796:=0
def tw5883205228530333970:=0
def tw4468384177287608861:=0
def tw6269636161593827867:=0
def tw3987094908398906168:=0
def tw7949133706146310594:=0
def tw7575135136265179683:=0
def tw3747445608246768163:=0
def tw17843362348820653961:=0
def tw17388235947893631459:=0
def tw1453908482312695390:=0
def tw10667396453586452259:=0
def tw1746480797091773674:=0
def tw16942762446084709898:=0
def tw50152759956671023:=0
def tw5661382335446390563:=0
def tw17699644766535382203:=0
def tw11406920438946330312:=0
def tw9860361863677736209:=0
def tw7000965653092525366:=0
def tw5028215905060797793:=0
def tw10240210377395539198:=0
def tw13705822837969319019:=0
def tw2303751727712524169:=0
def tw1912296986875342832:=0
def tw18168567725921164054:=0
def tw1245342860610231361:=0
def tw10096813225753712677:=0
def tw2810238373571916634:=0
def tw14236976394961408634:=0
def tw14790306010695235253:=0
def tw3878285812999248581:=0
def tw3458080080781714244:=0
def tw14483082920511213939:=0
def tw6831736731279187012:=0
def tw10685343289592512903:=0
def tw9408846087417685765:=0
def tw6417825879640740731:=0
def tw5451173821522090647:=0
def tw2299824825585036432:=0
def tw18013946781602153539:=0
def tw13237474038216567920:=0
def tw10572529878625347913:=0
def tw3767246779315205058:=0
def tw9669324190461644917:=0
def tw8136214452371714997:=0
def tw7905477439841512700:=0
def tw6345491212941869826:=0
def tw5876314526877487124:=0
def tw3063381160947328553:=0
def tw17132536032426526947:=0
def tw15673779886710158219:=0
def tw14614197516972632638:=0
def tw18439692819045036366:=0
def tw11761754110690718619:=0
def tw2254289124125063504:=0
def tw6215486021474110429:=0
def tw4204302553418698095:=0
def tw3888492382660165790:=0
def tw10897654993048087878:=0
end PySem.W.Fast
open PySem PySem.W PyProof.Rows
set_option maxRecDepth 100000 in
set_option maxHeartbeats 0 in
theorem PySem.Challenge.cw_barsplit_k14_no_text_holds : PySem.Challenge.rw_barsplit_k14_no_text.Holds := by
 w_on;o_law;k_head;(case hw=>w_witness2)
 k_fill
 refine L2.rj (l:=Et) (n:=63) (k:=8) (x:="_law_script") (CX:=L2.yg) (sp:=λK=>DL.C6 K 1 DL.ZG) rfl ⋯ rfl ⟨rfl,by decide,by decide⟩ (λw h Y=>PySem.W.kIn_of Y) ?F ?S ?C
 case S=>exact λK H a ns hl hO hS=>DL.sd hS (DL.uL ns hl)
 case C=>exact λ_ _ _ _ z=>z
 case F=>
  intro w mg fa h B G ch;have ci:mg "ValueError" = cS:=Fe B G (by k_is);have U:mg "all" = cS:=Fe B G (by k_is);have cl:mg "any" = cS:=Fe B G (by k_is);have ak:mg "bool" = cS:=Fe B G (by k_is);have a5:mg "enumerate" = cS:=Fe B G (by k_is);have a2:mg "int" = cS:=Fe B G (by k_is);have a3:mg "isinstance" = cS:=Fe B G (by k_is);have R:mg "len" = cS:=Fe B G (by k_is);have am:mg "list" = cS:=Fe B G (by k_is);have cm:mg "max" = cS:=Fe B G (by k_is);have a1:mg "range" = cS:=Fe B G (by k_is);have a6:mg "str" = cS:=Fe B G (by k_is);have an:mg "sum" = cS:=Fe B G (by k_is);have O:mg "tuple" = cS:=Fe B G (by k_is);have cn:mg "zip" = cS:=Fe B G (by k_is);have I:DL.wB (L2.hG B)=cI:=by kernel_rfl
  have co:DL.XI (L2.hG B) mg "NoArrow":=DL.Ca B G I ⋯;have cq:DL.XI (L2.hG B) mg "NoLine":=DL.Ca B G I ⋯;have cr:DL.XI (L2.hG B) mg "NoPrime":=DL.Ca B G I ⋯;have cs:DL.XI (L2.hG B) mg "NoRoom":=DL.Ca B G I ⋯;have ct:DL.XI (L2.hG B) mg "NoRow":=DL.Ca B G I ⋯;have cv:DL.XI (L2.hG B) mg "NoTable":=DL.Ca B G I ⋯;have cw:DL.XI (L2.hG B) mg "NoText":=DL.Ca B G I ⋯;have cx:DL.XI (L2.hG B) mg "NoTurn":=DL.Ca B G I ⋯;have cy:DL.XI (L2.hG B) mg "NoWidths":=DL.Ca B G I ⋯;have cz:DL.XI (L2.hG B) mg "Nothing":=DL.Ca B G I ⋯;have d0:DL.XI (L2.hG B) mg "Nought":=DL.Ca B G I ⋯;have d1:DL.XS (L2.hG B) mg:=DL.BZ B G (by kernel_rfl);have d2:DL.XI (L2.hG B) mg "TooMany":=DL.Ca B G I ⋯;have d3:DL.XI (L2.hG B) mg "Unlike":=DL.Ca B G I ⋯;have d4:DL.XH (L2.hG B) mg "NoTable":=DL.Cb B G (by kernel_rfl);have d5:DL.XC (L2.hG B) mg "NoPrime":=DL.Cc B G I ⋯ (by kernel_rfl);have d6:DL.XC (L2.hG B) mg "NoTable":=DL.Cc B G I ⋯ (by kernel_rfl);have d7:DL.XC (L2.hG B) mg "NoWidths":=DL.Cc B G I ⋯ (by kernel_rfl);have ap:DL.E3 (L2.hG B) mg "NoArrow" "NoArrow.__init__" "at" (DL.iB (DL.top 12) 0) "at":=by
   dsimp only[L2.hG];refine' DL.sV B G I ⋯ ?nC ?nS ?iC ?uI ?vI ?w1 ?z1 ?b ?gI
   (case nC=>k_is)
   (case nS=>k_is)
   (case iC=>k_is)
   (case uI=>k_is)
   (case vI=>k_is)
   (case w1=>k_is)
   (case z1=>k_is)
   (case b=>kernel_rfl)
   (case gI=>intro _ _ _ _ _ _ us hl;obtain⟨_,_,rfl⟩:=DL.En hl;rfl)
  have d8:DL.E3 (L2.hG B) mg "NoText" "NoText.__init__" "at" (DL.iB (DL.top 13) 0) "at":=by
   dsimp only[L2.hG];refine' DL.sV B G I ⋯ ?nC ?nS ?iC ?uI ?vI ?w1 ?z1 ?b ?gI
   (case nC=>k_is)
   (case nS=>k_is)
   (case iC=>k_is)
   (case uI=>k_is)
   (case vI=>k_is)
   (case w1=>k_is)
   (case z1=>k_is)
   (case b=>kernel_rfl)
   (case gI=>intro _ _ _ _ _ _ us hl;obtain⟨_,_,rfl⟩:=DL.En hl;rfl)
  have d9:DL.AQ (L2.hG B) "at" = cI:=by kernel_rfl
  have da:DL.GL (L2.hG B) mg "MOST_HIGH_OR_WIDE" (.int 30):=by
   dsimp only[L2.hG];refine' DL.Bq B G ?a
   (case a=>k_is)
  have db:DL.GL (L2.hG B) mg "MOST_ROOMS" (.int 6):=by
   dsimp only[L2.hG];refine' DL.Bq B G ?a
   (case a=>k_is)
  have ar:DL.GL (L2.hG B) mg "MOST_TOGETHER" (.int 30):=by
   dsimp only[L2.hG];refine' DL.Bq B G ?a
   (case a=>k_is)
  have as:DL.GL (L2.hG B) mg "PRIMES" (.tup [.int 2,.int 3,.int 5,.int 7]):=by
   dsimp only[L2.hG];refine' DL.uV [2,3,5,7] B G ?a ?l ?v ?z
   (case a=>k_is);(case l=>k_is);(case v=>rfl);(case z=>decide)
  have di:DL.GL (L2.hG B) mg "TABLE_SIGNS" (.str "0123456789/"):=by
   dsimp only[L2.hG];refine' DL.Bp B G ?a
   (case a=>k_is)
  have ax:DL.GL (L2.hG B) mg "WAYS" (.tup [.str "r",.str "l"]):=by
   dsimp only[L2.hG];refine' DL.uU ["r","l"] B G ?a ?l ?v ?z
   (case a=>k_is);(case l=>k_is);(case v=>rfl);(case z=>decide)
  have dk:DL.iv (L2.hG B) mg "is_whole" (DL.top 18) ["x"]:=by
   dsimp only[L2.hG];refine' DL.By B G ?a ?l ?c ?k ?b
   (case a=>k_is);(case l=>k_is);(case c=>k_is);(case k=>k_is)
   (case b=>intro _ _ _ _ _ _ us hl;obtain⟨_,rfl⟩:=DL.Eo hl;rfl)
  have dl:DL.iv (L2.hG B) mg "is_prime" (DL.top 19) ["p"]:=by
   dsimp only[L2.hG];refine' DL.By B G ?a ?l ?c ?k ?b
   (case a=>k_is);(case l=>k_is);(case c=>k_is);(case k=>k_is)
   (case b=>intro _ _ _ _ _ _ us hl;obtain⟨_,rfl⟩:=DL.Eo hl;rfl)
  have dp:DL.iv (L2.hG B) mg "rests" (DL.top 20) ["p","numbers"]:=by
   dsimp only[L2.hG];refine' DL.By B G ?a ?l ?c ?k ?b
   (case a=>k_is);(case l=>k_is);(case c=>k_is);(case k=>k_is)
   (case b=>intro _ _ _ _ _ _ us hl;obtain⟨_,_,rfl⟩:=DL.En hl;rfl)
  have dt:DL.iv (L2.hG B) mg "is_side" (DL.top 21) ["many"]:=by
   dsimp only[L2.hG];refine' DL.By B G ?a ?l ?c ?k ?b
   (case a=>k_is);(case l=>k_is);(case c=>k_is);(case k=>k_is)
   (case b=>intro _ _ _ _ _ _ us hl;obtain⟨_,rfl⟩:=DL.Eo hl;rfl)
  have dy:DL.iv (L2.hG B) mg "is_listed" (DL.top 22) ["things","many"]:=by
   dsimp only[L2.hG];refine' DL.By B G ?a ?l ?c ?k ?b
   (case a=>k_is);(case l=>k_is);(case c=>k_is);(case k=>k_is)
   (case b=>intro _ _ _ _ _ _ us hl;obtain⟨_,_,rfl⟩:=DL.En hl;rfl)
  have e3:DL.iv (L2.hG B) mg "is_line" (DL.top 23) ["wide","row"]:=by
   dsimp only[L2.hG];refine' DL.By B G ?a ?l ?c ?k ?b
   (case a=>k_is);(case l=>k_is);(case c=>k_is);(case k=>k_is)
   (case b=>intro _ _ _ _ _ _ us hl;obtain⟨_,_,rfl⟩:=DL.En hl;rfl)
  have b0:DL.iv (L2.hG B) mg "table_of" (DL.top 24) ["p","high","wide","rows"]:=by
   dsimp only[L2.hG];refine' DL.By B G ?a ?l ?c ?k ?b
   (case a=>k_is);(case l=>k_is);(case c=>k_is);(case k=>k_is)
   (case b=>intro _ _ _ _ _ _ us hl;obtain⟨_,_,_,_,rfl⟩:=DL.Em hl;rfl)
  have e4:DL.iv (L2.hG B) mg "beginning_of" (DL.top 29) ["k","way"]:=by
   dsimp only[L2.hG];refine' DL.By B G ?a ?l ?c ?k ?b
   (case a=>k_is);(case l=>k_is);(case c=>k_is);(case k=>k_is)
   (case b=>intro _ _ _ _ _ _ us hl;obtain⟨_,_,rfl⟩:=DL.En hl;rfl)
  have e5:DL.iv (L2.hG B) mg "end_of" (DL.top 30) ["k","way"]:=by
   dsimp only[L2.hG];refine' DL.By B G ?a ?l ?c ?k ?b
   (case a=>k_is);(case l=>k_is);(case c=>k_is);(case k=>k_is)
   (case b=>intro _ _ _ _ _ _ us hl;obtain⟨_,_,rfl⟩:=DL.En hl;rfl)
  have e6:DL.iv (L2.hG B) mg "are_widths" (DL.top 31) ["widths"]:=by
   dsimp only[L2.hG];refine' DL.By B G ?a ?l ?c ?k ?b
   (case a=>k_is);(case l=>k_is);(case c=>k_is);(case k=>k_is)
   (case b=>intro _ _ _ _ _ _ us hl;obtain⟨_,rfl⟩:=DL.Eo hl;rfl)
  have bb:DL.iv (L2.hG B) mg "widths_of" (DL.top 32) ["widths"]:=by
   dsimp only[L2.hG];refine' DL.By B G ?a ?l ?c ?k ?b
   (case a=>k_is);(case l=>k_is);(case c=>k_is);(case k=>k_is)
   (case b=>intro _ _ _ _ _ _ us hl;obtain⟨_,rfl⟩:=DL.Eo hl;rfl)
  have bd:DL.iv (L2.hG B) mg "arrow_of" (DL.top 33) ["p","widths","k","pair"]:=by
   dsimp only[L2.hG];refine' DL.By B G ?a ?l ?c ?k ?b
   (case a=>k_is);(case l=>k_is);(case c=>k_is);(case k=>k_is)
   (case b=>intro _ _ _ _ _ _ us hl;obtain⟨_,_,_,_,rfl⟩:=DL.Em hl;rfl)
  have e7:DL.iv (L2.hG B) mg "is_prime_word" (DL.top 36) ["word"]:=by
   dsimp only[L2.hG];refine' DL.By B G ?a ?l ?c ?k ?b
   (case a=>k_is);(case l=>k_is);(case c=>k_is);(case k=>k_is)
   (case b=>intro _ _ _ _ _ _ us hl;obtain⟨_,rfl⟩:=DL.Eo hl;rfl)
  have e8:DL.iv (L2.hG B) mg "is_width_word" (DL.top 37) ["word"]:=by
   dsimp only[L2.hG];refine' DL.By B G ?a ?l ?c ?k ?b
   (case a=>k_is);(case l=>k_is);(case c=>k_is);(case k=>k_is)
   (case b=>intro _ _ _ _ _ _ us hl;obtain⟨_,rfl⟩:=DL.Eo hl;rfl)
  have e9:DL.iv (L2.hG B) mg "is_arrow_word" (DL.top 38) ["word"]:=by
   dsimp only[L2.hG];refine' DL.By B G ?a ?l ?c ?k ?b
   (case a=>k_is);(case l=>k_is);(case c=>k_is);(case k=>k_is)
   (case b=>intro _ _ _ _ _ _ us hl;obtain⟨_,rfl⟩:=DL.Eo hl;rfl)
  have ea:DL.iv (L2.hG B) mg "has_form" (DL.top 39) ["place","word"]:=by
   dsimp only[L2.hG];refine' DL.By B G ?a ?l ?c ?k ?b
   (case a=>k_is);(case l=>k_is);(case c=>k_is);(case k=>k_is)
   (case b=>intro _ _ _ _ _ _ us hl;obtain⟨_,_,rfl⟩:=DL.En hl;rfl)
  have be:DL.iv (L2.hG B) mg "check_forms" (DL.top 40) ["words"]:=by
   dsimp only[L2.hG];refine' DL.By B G ?a ?l ?c ?k ?b
   (case a=>k_is);(case l=>k_is);(case c=>k_is);(case k=>k_is)
   (case b=>intro _ _ _ _ _ _ us hl;obtain⟨_,rfl⟩:=DL.Eo hl;rfl)
  have eb:DL.iv (L2.hG B) mg "figures_of" (DL.top 41) ["line"]:=by
   dsimp only[L2.hG];refine' DL.By B G ?a ?l ?c ?k ?b
   (case a=>k_is);(case l=>k_is);(case c=>k_is);(case k=>k_is)
   (case b=>intro _ _ _ _ _ _ us hl;obtain⟨_,rfl⟩:=DL.Eo hl;rfl)
  have ec:DL.iv (L2.hG B) mg "rows_read" (DL.top 42) ["signs","high"]:=by
   dsimp only[L2.hG];refine' DL.By B G ?a ?l ?c ?k ?b
   (case a=>k_is);(case l=>k_is);(case c=>k_is);(case k=>k_is)
   (case b=>intro _ _ _ _ _ _ us hl;obtain⟨_,_,rfl⟩:=DL.En hl;rfl)
  have ed:DL.iv (L2.hG B) mg "are_rests" (DL.top 43) ["p","numbers"]:=by
   dsimp only[L2.hG];refine' DL.By B G ?a ?l ?c ?k ?b
   (case a=>k_is);(case l=>k_is);(case c=>k_is);(case k=>k_is)
   (case b=>intro _ _ _ _ _ _ us hl;obtain⟨_,_,rfl⟩:=DL.En hl;rfl)
  have bg:DL.iv (L2.hG B) mg "arrow_read" (DL.top 44) ["p","widths","k","word"]:=by
   dsimp only[L2.hG];refine' DL.By B G ?a ?l ?c ?k ?b
   (case a=>k_is);(case l=>k_is);(case c=>k_is);(case k=>k_is)
   (case b=>intro _ _ _ _ _ _ us hl;obtain⟨_,_,_,_,rfl⟩:=DL.Em hl;rfl)
  have bi:DL.iv (L2.hG B) mg "row_read" (DL.top 45) ["text"]:=by
   dsimp only[L2.hG];refine' DL.By B G ?a ?l ?c ?k ?b
   (case a=>k_is);(case l=>k_is);(case c=>k_is);(case k=>k_is)
   (case b=>intro _ _ _ _ _ _ us hl;obtain⟨_,rfl⟩:=DL.Eo hl;rfl)
  have ee:DL.iv (L2.hG B) mg "_law_mix" (DL.top 47) ["_law_script","_law_k"]:=by
   dsimp only[L2.hG];refine' DL.By B G ?a ?l ?c ?k ?b
   (case a=>k_is);(case l=>k_is);(case c=>k_is);(case k=>k_is)
   (case b=>intro _ _ _ _ _ _ us hl;obtain⟨_,_,rfl⟩:=DL.En hl;rfl)
  have ef:DL.iv (L2.hG B) mg "_law_whole" (DL.top 48) ["_law_found"]:=by
   dsimp only[L2.hG];refine' DL.By B G ?a ?l ?c ?k ?b
   (case a=>k_is);(case l=>k_is);(case c=>k_is);(case k=>k_is)
   (case b=>intro _ _ _ _ _ _ us hl;obtain⟨_,rfl⟩:=DL.Eo hl;rfl)
  have eg:DL.iv (L2.hG B) mg "_law_rests" (DL.top 49) ["_law_found","_law_due_here"]:=by
   dsimp only[L2.hG];refine' DL.By B G ?a ?l ?c ?k ?b
   (case a=>k_is);(case l=>k_is);(case c=>k_is);(case k=>k_is)
   (case b=>intro _ _ _ _ _ _ us hl;obtain⟨_,_,rfl⟩:=DL.En hl;rfl)
  have ei:DL.iv (L2.hG B) mg "_law_is_table" (DL.top 50) ["_law_found","_law_due_here"]:=by
   dsimp only[L2.hG];refine' DL.By B G ?a ?l ?c ?k ?b
   (case a=>k_is);(case l=>k_is);(case c=>k_is);(case k=>k_is)
   (case b=>intro _ _ _ _ _ _ us hl;obtain⟨_,_,rfl⟩:=DL.En hl;rfl)
  have ej:DL.iv (L2.hG B) mg "_law_table" (DL.top 51) ["_law_script","_law_at","_law_p","_law_high","_law_wide"]:=by
   dsimp only[L2.hG];refine' DL.By B G ?a ?l ?c ?k ?b
   (case a=>k_is);(case l=>k_is);(case c=>k_is);(case k=>k_is)
   (case b=>intro _ _ _ _ _ _ us hl;obtain⟨_,_,_,_,_,rfl⟩:=DL.El hl;rfl)
  have ek:DL.iv (L2.hG B) mg "_law_ways" (DL.top 52) ["_law_cell"]:=by
   dsimp only[L2.hG];refine' DL.By B G ?a ?l ?c ?k ?b
   (case a=>k_is);(case l=>k_is);(case c=>k_is);(case k=>k_is)
   (case b=>intro _ _ _ _ _ _ us hl;obtain⟨_,rfl⟩:=DL.Eo hl;rfl)
  have el:DL.iv (L2.hG B) mg "_law_row" (DL.top 53) ["_law_script","_law_at","_law_p","_law_ways_here","_law_most"]:=by
   dsimp only[L2.hG];refine' DL.By B G ?a ?l ?c ?k ?b
   (case a=>k_is);(case l=>k_is);(case c=>k_is);(case k=>k_is)
   (case b=>intro _ _ _ _ _ _ us hl;obtain⟨_,_,_,_,_,rfl⟩:=DL.El hl;rfl)
  have em:DL.iv (L2.hG B) mg "_law_is_row" (DL.top 54) ["_law_found","_law_due_here"]:=by
   dsimp only[L2.hG];refine' DL.By B G ?a ?l ?c ?k ?b
   (case a=>k_is);(case l=>k_is);(case c=>k_is);(case k=>k_is)
   (case b=>intro _ _ _ _ _ _ us hl;obtain⟨_,_,rfl⟩:=DL.En hl;rfl)
  have en:DL.iv (L2.hG B) mg "_law_text" (DL.top 55) ["_law_row_here"]:=by
   dsimp only[L2.hG];refine' DL.By B G ?a ?l ?c ?k ?b
   (case a=>k_is);(case l=>k_is);(case c=>k_is);(case k=>k_is)
   (case b=>intro _ _ _ _ _ _ us hl;obtain⟨_,rfl⟩:=DL.Eo hl;rfl)
  have ep:DL.iv (L2.hG B) mg "_law_kinds" (DL.top 56) ["_law_e"]:=by
   dsimp only[L2.hG];refine' DL.By B G ?a ?l ?c ?k ?b
   (case a=>k_is);(case l=>k_is);(case c=>k_is);(case k=>k_is)
   (case b=>intro _ _ _ _ _ _ us hl;obtain⟨_,rfl⟩:=DL.Eo hl;rfl)
  have eq:DL.iv (L2.hG B) mg "_law_odd" (DL.top 57) ["_law_cell"]:=by
   dsimp only[L2.hG];refine' DL.By B G ?a ?l ?c ?k ?b
   (case a=>k_is);(case l=>k_is);(case c=>k_is);(case k=>k_is)
   (case b=>intro _ _ _ _ _ _ us hl;obtain⟨_,rfl⟩:=DL.Eo hl;rfl)
  have er:DL.iv (L2.hG B) mg "_law_changed" (DL.top 58) ["_law_words","_law_cell"]:=by
   dsimp only[L2.hG];refine' DL.By B G ?a ?l ?c ?k ?b
   (case a=>k_is);(case l=>k_is);(case c=>k_is);(case k=>k_is)
   (case b=>intro _ _ _ _ _ _ us hl;obtain⟨_,_,rfl⟩:=DL.En hl;rfl)
  have eu:DL.iv (L2.hG B) mg "_law_formed" (DL.top 59) ["_law_at","_law_word"]:=by
   dsimp only[L2.hG];refine' DL.By B G ?a ?l ?c ?k ?b
   (case a=>k_is);(case l=>k_is);(case c=>k_is);(case k=>k_is)
   (case b=>intro _ _ _ _ _ _ us hl;obtain⟨_,_,rfl⟩:=DL.En hl;rfl)
  have ev:DL.iv (L2.hG B) mg "_law_arrow" (DL.top 60) ["_law_p","_law_widths","_law_k","_law_word"]:=by
   dsimp only[L2.hG];refine' DL.By B G ?a ?l ?c ?k ?b
   (case a=>k_is);(case l=>k_is);(case c=>k_is);(case k=>k_is)
   (case b=>intro _ _ _ _ _ _ us hl;obtain⟨_,_,_,_,rfl⟩:=DL.Em hl;rfl)
  have ew:DL.iv (L2.hG B) mg "_law_due" (DL.top 61) ["_law_text_here"]:=by
   dsimp only[L2.hG];refine' DL.By B G ?a ?l ?c ?k ?b
   (case a=>k_is);(case l=>k_is);(case c=>k_is);(case k=>k_is)
   (case b=>intro _ _ _ _ _ _ us hl;obtain⟨_,rfl⟩:=DL.Eo hl;rfl)
  have ey:DL.iv (L2.hG B) mg "_law_asked" (DL.top 62) ["_law_text_here"]:=by
   dsimp only[L2.hG];refine' DL.By B G ?a ?l ?c ?k ?b
   (case a=>k_is);(case l=>k_is);(case c=>k_is);(case k=>k_is)
   (case b=>intro _ _ _ _ _ _ us hl;obtain⟨_,rfl⟩:=DL.Eo hl;rfl)
  have f0:DL.iv (L2.hG B) mg "law" (DL.top 63) ["_law_script"]:=by
   dsimp only[L2.hG];refine' DL.By B G ?a ?l ?c ?k ?b
   (case a=>k_is);(case l=>k_is);(case c=>k_is);(case k=>k_is)
   (case b=>intro _ _ _ _ _ _ us hl;obtain⟨_,rfl⟩:=DL.Eo hl;rfl)
  obtain⟨f,fd,Fu,hb,hm⟩:=f0.ex;have e0:=ch.symm.trans hm;cases e0;refine⟨fd,λs u=> .of_eq (hb [u] rfl),λbase kb nb=>?_⟩;have f4:DL.G8 (Et).prog w (L2.hG B) mg base 1 "NoArrow":=DL.bz ap;have bl:DL.XJ (Et).prog w (L2.hG B) mg base 1 "NoArrow":=DL.dR ap;have f5:DL.XJ (Et).prog w (L2.hG B) mg base 1 "NoText":=DL.hJ d8;have a7:DL.hI (Et).prog w (L2.hG B) mg base 1 "is_whole" 1 DL.ji:=DL.hU dk ak a2 a3;have bn:DL.hI (Et).prog w (L2.hG B) mg base 2 "is_prime" 1 DL.qE:=DL.hV dl a7 as;have bv:DL.hI (Et).prog w (L2.hG B) mg base 1 "rests" 2 DL.yK:=DL.rE dp O;have c0:DL.hI (Et).prog w (L2.hG B) mg base 2 "is_side" 1 DL.jW:=DL.lE dt a7 da;have a4:DL.hI (Et).prog w (L2.hG B) mg base 1 "is_listed" 2 DL.zX:=DL.dS dy a3 R am O;have c1:DL.hI (Et).prog w (L2.hG B) mg base 2 "is_line" 2 DL.qj:=DL.lF e3 a4 a7 U;have c2:DL.hI (Et).prog w (L2.hG B) mg base 3 "table_of" 4 DL.xv:=DL.gU b0 bn c0 a4 bv c1 U O;have f6:DL.o6 (Et).prog w (L2.hG B) mg base 3 "table_of" 4 DL.yl:=DL.dE b0 bn c0 a4 bv c1 U O d5 d6;have c3:DL.hI (Et).prog w (L2.hG B) mg base 1 "beginning_of" 2 DL.jm:=DL.VU e4;have a8:DL.hI (Et).prog w (L2.hG B) mg base 1 "end_of" 2 DL.jE:=DL.ot e5;have c4:DL.hI (Et).prog w (L2.hG B) mg base 2 "are_widths" 1 DL.qk:=DL.bD e6 a7 U a3 R am an O db ar;have c5:DL.hI (Et).prog w (L2.hG B) mg base 3 "widths_of" 1 DL.qA:=DL.dH bb c4 O;have f7:DL.o6 (Et).prog w (L2.hG B) mg base 3 "widths_of" 1 DL.qd:=DL.bt bb c4 O d7;have c6:DL.hI (Et).prog w (L2.hG B) mg base 4 "arrow_of" 4 DL.xw:=DL.ib bd c2 a4 a8 c3 ax;have f8:DL.o6 (Et).prog w (L2.hG B) mg base 4 "arrow_of" 4 DL.ym:=DL.dG bd c2 a4 a8 c3 ax bl f6 d4 f4;have f9:DL.hI (Et).prog w (L2.hG B) mg base 1 "is_prime_word" 1 DL.qi:=DL.YN e7 as;have ff:DL.hI (Et).prog w (L2.hG B) mg base 1 "is_width_word" 1 DL.qh:=DL.YM e8 a1 a6 ar;have fh:DL.hI (Et).prog w (L2.hG B) mg base 1 "is_arrow_word" 1 DL.jN:=DL.YO e9 U di;have c7:DL.hI (Et).prog w (L2.hG B) mg base 2 "has_form" 2 DL.jB:=DL.ia ea fh f9 ff;have c8:DL.hI (Et).prog w (L2.hG B) mg base 3 "check_forms" 1 DL.jU:=DL.af be c7 a5 R;have fk:DL.o6 (Et).prog w (L2.hG B) mg base 3 "check_forms" 1 DL.jD:=DL.VS be c7 a5 R f5;have fl:DL.hI (Et).prog w (L2.hG B) mg base 1 "figures_of" 1 DL.qF:=DL.bA eb a2;have c9:DL.hI (Et).prog w (L2.hG B) mg base 2 "rows_read" 2 DL.qe:=DL.dJ ec fl;have ca:DL.hI (Et).prog w (L2.hG B) mg base 1 "are_rests" 2 DL.jy:=DL.dU ed U;have cc:DL.hI (Et).prog w (L2.hG B) mg base 5 "arrow_read" 4 DL.zZ:=DL.bB bg c9 c6 a8 ca U;have fn:DL.o6 (Et).prog w (L2.hG B) mg base 5 "arrow_read" 4 DL.jv:=DL.W9 bg c9 c6 a8 ca U bl f8;have fp:DL.hI (Et).prog w (L2.hG B) mg base 6 "row_read" 1 DL.kj:=DL.gW bi c8 c5 cc a5 a2 O;have fy:DL.o6 (Et).prog w (L2.hG B) mg base 6 "row_read" 1 DL.qm:=DL.dF bi c8 c5 cc a5 a2 O fn fk f7;have ac:DL.hI (Et).prog w (L2.hG B) mg base 1 "_law_mix" 2 DL.zR:=DL.lD ee R a1;have a9:DL.hI (Et).prog w (L2.hG B) mg base 1 "_law_whole" 1 DL.jd:=DL.dM ef ak a2 a3;have ce:DL.hI (Et).prog w (L2.hG B) mg base 2 "_law_rests" 2 DL.qf:=DL.dO eg a9 U a3 R O;have g1:DL.hI (Et).prog w (L2.hG B) mg base 3 "_law_is_table" 2 DL.jX:=DL.VT ei a9 ce U a3 R a1 O;have g3:DL.hI (Et).prog w (L2.hG B) mg base 2 "_law_table" 5 DL.qB:=DL.dN ej ac a2 a1 O;have g4:DL.hI (Et).prog w (L2.hG B) mg base 1 "_law_ways" 1 DL.kl:=DL.gY ek a1;have g5:DL.hI (Et).prog w (L2.hG B) mg base 3 "_law_row" 5 DL.kn:=DL.lB el ac g3 R a1 O;have g7:DL.hI (Et).prog w (L2.hG B) mg base 4 "_law_is_row" 2 DL.qD:=DL.bw em a9 ce g1 a3 R a6 O cn;have g8:DL.hI (Et).prog w (L2.hG B) mg base 1 "_law_text" 1 DL.km:=DL.gZ en R a1 a6;have g9:DL.hI (Et).prog w (L2.hG B) mg base 1 "_law_kinds" 1 DL.xI:=DL.dP ep ci a3 a1 co cq cr cs ct cv cw cx cy cz d0 d2 d3;have ga:DL.hI (Et).prog w (L2.hG B) mg base 1 "_law_odd" 1 DL.ko:=DL.lC eq;have ge:DL.hI (Et).prog w (L2.hG B) mg base 2 "_law_changed" 2 DL.qo:=DL.ae er ga R cm;have gn:DL.hI (Et).prog w (L2.hG B) mg base 1 "_law_formed" 2 DL.qX:=DL.bx eu U R a1 a6;have go:DL.hI (Et).prog w (L2.hG B) mg base 1 "_law_arrow" 4 DL.qg:=DL.dQ ev cl a2 R O;have gq:DL.hI (Et).prog w (L2.hG B) mg base 2 "_law_due" 1 DL.jt:=DL.aa ew go gn a2 R a1 an O;have gt:DL.hI (Et).prog w (L2.hG B) mg base 7 "_law_asked" 1 DL.jh:=DL.YL ey gq fp g9 g7 a9 d1 d9 fy;exact DL.Bn Fu g8 g5 ge gt ac g4 a1
